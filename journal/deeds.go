package journal

import (
	"halyard/api"
	"halyard/disk"
	"halyard/plan"
)

// What a disk's Kind tells.
const (
	nothing = iota
	aFile
	aDirectory
)

// canBeDone tells whether deeds are a plan, and each of them, done behind those ahead of it, finds what it must. They are done on a copy, so that the disk is not touched.
func canBeDone(d *disk.Disk, deeds []api.Deed) bool {
	if plan.Check(deeds) != api.OK {
		return false
	}
	copied, e := disk.Load(d.All())
	if e != api.OK {
		return false
	}
	for _, deed := range deeds {
		if !finds(copied, deed) || do(copied, deed) != api.OK {
			goto stuck
		}
	}
	return true

stuck:
	return false
}

// finds tells whether at a deed's path there is what the deed must find. What it must find around it, a disk looks at itself when the deed is done.
func finds(d *disk.Disk, deed api.Deed) bool {
	there := d.Kind(deed.Path)
	switch deed.Kind {
	case api.DeedUnlink:
		return there == aFile
	case api.DeedRmdir:
		return there == aDirectory
	case api.DeedMkdir:
		return there == nothing
	}
	return there != aDirectory
}

// do does a deed, or nothing, if it was done already: it may be done a second time.
func do(d *disk.Disk, deed api.Deed) api.Errno {
	there := d.Kind(deed.Path)
	switch deed.Kind {
	case api.DeedUnlink:
		if there == aFile {
			return d.Remove(deed.Path)
		}
	case api.DeedRmdir:
		if there == aDirectory {
			return d.Remove(deed.Path)
		}
	case api.DeedMkdir:
		if there == nothing {
			return d.Mkdir(deed.Path)
		}
	case api.DeedPut:
		if data, e := d.Read(deed.Path); e != api.OK || data != deed.Data {
			return d.Write(deed.Path, deed.Data)
		}
	}
	return api.OK
}
