package journal_test

import (
	"slices"
	"strings"
	"testing"

	"halyard/api"
	"halyard/disk"
	"halyard/journal"
	"halyard/plan"
)

// moment is a raw write that is done, and the files behind it.
type moment struct {
	raw   api.Raw
	files []api.File
}

// model is a call by the chapter's words: the files as they are, by their paths, and what came ahead.
type model struct {
	now     map[string]api.File
	moments []moment
}

func modelOf(l []api.File) *model {
	m := &model{now: map[string]api.File{}}
	for _, f := range l {
		m.now[f.Path] = f
	}
	return m
}

// all is the files as they are.
func (m *model) all() []api.File {
	var l []api.File
	for _, f := range m.now {
		l = append(l, f)
	}
	return byPath(l)
}

// raw does a raw write that is possible: a file or directory comes, or goes.
func (m *model) raw(kind int, f api.File) {
	m.now[f.Path] = f
	if kind == api.RawRemove {
		delete(m.now, f.Path)
	}
	m.moments = append(m.moments, moment{api.Raw{Kind: kind, Path: f.Path}, m.all()})
}

// rename is a raw write of its own.
func (m *model) rename(from, to string) {
	m.now[to] = file(to, m.now[from].Data)
	delete(m.now, from)
	m.moments = append(m.moments, moment{api.Raw{Kind: api.RawRename, Path: from, To: to}, m.all()})
}

// at is what is at a path: a file, a directory, or nothing.
func (m *model) at(path string) string {
	f, there := m.now[path]
	switch {
	case path == "" || there && f.Dir:
		return "directory"
	case there:
		return "file"
	}
	return "nothing"
}

// inside is the paths of what is in a directory, at any depth, rising.
func (m *model) inside(path string) []string {
	var l []string
	for at := range m.now {
		if strings.HasPrefix(at, path+"/") {
			l = append(l, at)
		}
	}
	slices.Sort(l)
	return l
}

// parent is the error of a disk for what shall come to stand at a path.
func (m *model) parent(path string) api.Errno {
	return map[string]api.Errno{"directory": api.OK, "nothing": api.ErrAbsent, "file": api.ErrKind}[m.at(path[:strings.LastIndex(path, "/")])]
}

// deed does a deed, by the chapter's words, or tells the disk's error.
func (m *model) deed(deed api.Deed) api.Errno {
	there := m.at(deed.Path)
	switch {
	case deed.Kind == 1 && there == "file":
		m.raw(api.RawRemove, file(deed.Path, ""))
	case deed.Kind == 2 && there == "directory":
		if len(m.inside(deed.Path)) > 0 {
			return api.ErrUsed
		}
		m.raw(api.RawRemove, dir(deed.Path))
	case deed.Kind == 3 && there == "nothing":
		if e := m.parent(deed.Path); e != api.OK {
			return e
		}
		m.raw(api.RawMkdir, dir(deed.Path))
	case deed.Kind == 4 && m.now[deed.Path] != file(deed.Path, deed.Data):
		if e := m.parent(deed.Path); e != api.OK {
			return e
		}
		if there == "directory" {
			return api.ErrKind
		}
		m.raw(api.RawWrite, file(deed.Path, deed.Data))
	}
	return api.OK
}

// finds tells whether a deed finds what it must, so that deeds can be done.
func (m *model) finds(deed api.Deed) bool {
	there, stands := m.at(deed.Path), m.parent(deed.Path) == api.OK
	switch deed.Kind {
	case 1:
		return there == "file"
	case 2:
		return there == "directory" && len(m.inside(deed.Path)) == 0
	case 3:
		return there == "nothing" && stands
	}
	return there != "directory" && stands
}

// modelCan is the files behind deeds that can be done; false, if they can't.
func modelCan(before []api.File, l []api.Deed) ([]api.File, bool) {
	if plan.Check(l) != api.OK {
		return nil, false
	}
	m := modelOf(before)
	for _, deed := range l {
		if !m.finds(deed) {
			return nil, false
		}
		m.deed(deed)
	}
	return m.all(), true
}

// modelCommit is what a Commit comes to while the power is on (P18.1).
func modelCommit(before []api.File, l []api.Deed) (api.Errno, []moment) {
	m := modelOf(before)
	if m.at("/journal") != "nothing" {
		return api.ErrThere, nil
	}
	if _, ok := modelCan(before, l); !ok {
		return api.ErrPlan, nil
	}
	if len(l) == 0 {
		return api.OK, nil
	}
	m.raw(api.RawMkdir, dir("/journal"))
	m.raw(api.RawWrite, file("/journal/plan.new", textOf(l...)))
	m.rename("/journal/plan.new", "/journal/plan")
	for _, deed := range l {
		m.deed(deed)
	}
	m.raw(api.RawRemove, file("/journal/plan", ""))
	m.raw(api.RawRemove, dir("/journal"))
	return api.OK, m.moments
}

// modelRecover is what a Recover comes to while the power is on (P18.2).
func modelRecover(before []api.File) (api.Errno, []moment) {
	m := modelOf(before)
	switch m.at("/journal") {
	case "nothing":
		return api.OK, nil
	case "file":
		return api.ErrPlan, nil
	}
	for _, path := range m.inside("/journal") {
		if path != "/journal/plan" && path != "/journal/plan.new" || m.at(path) != "file" {
			return api.ErrPlan, nil
		}
	}
	if m.at("/journal/plan") == "file" {
		l, e := plan.Parse(m.now["/journal/plan"].Data)
		if e != api.OK {
			return api.ErrPlan, nil
		}
		for _, deed := range l {
			if e := m.deed(deed); e != api.OK {
				return e, m.moments
			}
		}
		m.raw(api.RawRemove, file("/journal/plan", ""))
	}
	if m.at("/journal/plan.new") == "file" {
		m.raw(api.RawRemove, file("/journal/plan.new", ""))
	}
	m.raw(api.RawRemove, dir("/journal"))
	return api.OK, m.moments
}

// behind is what a call comes to if the power goes behind so many raw writes: the answer, the raw writes, the files.
func behind(before []api.File, answer api.Errno, l []moment, cut int) (api.Errno, []api.Raw, []api.File) {
	if cut < len(l) || cut == 0 || cut == len(l) && answer != api.OK {
		answer = api.ErrDown
	}
	l = l[:min(cut, len(l))]
	var raws []api.Raw
	for _, m := range l {
		raws = append(raws, m.raw)
		before = m.files
	}
	return answer, raws, byPath(before)
}

// asModel holds a call against the model, the power going behind each number of raw writes, and not at all.
func asModel(t *testing.T, before []api.File, do call, answer api.Errno, l []moment) {
	t.Helper()
	for cut := range len(l) + 2 {
		d := load(t, before)
		d.Cut(cut)
		e := do(d)
		want, raws, after := behind(before, answer, l, cut)
		if e != want || !slices.Equal(d.Raws(), raws) || !slices.Equal(d.All(), after) || d.Down() != (cut == len(raws)) {
			t.Fatalf("on %s, cut behind %d: error %d, %s, %s; not error %d, %s, %s", flat(before), cut, e, flat(words(d.Raws())), flat(d.All()), want, flat(words(raws)), flat(after))
		}
	}
}

// commitsAsModel holds a Commit against the model, and tells whether its deeds can be done.
func commitsAsModel(t *testing.T, before []api.File, l []api.Deed) bool {
	t.Helper()
	answer, moments := modelCommit(before, l)
	asModel(t, before, commit(l...), answer, moments)
	return answer == api.OK
}

// recoversAsModel holds a Recover against the model, and tells its answer.
func recoversAsModel(t *testing.T, before []api.File) api.Errno {
	t.Helper()
	answer, moments := modelRecover(before)
	asModel(t, before, journal.Recover, answer, moments)
	return answer
}

// smallDisks is all sets of files of a few paths.
func smallDisks() [][]api.File {
	sets := [][]api.File{nil}
	for _, path := range []string{"/a", "/a/b", "/c"} {
		for _, l := range sets {
			for _, f := range files(dir(path), file(path, ""), file(path, "x")) {
				if _, e := disk.Load(with(l, f)); e == api.OK {
					sets = append(sets, with(l, f))
				}
			}
		}
	}
	return sets
}

// smallPlans is all plans of up to so many of a few deeds.
func smallPlans(most int) [][]api.Deed {
	var few []api.Deed
	for _, path := range []string{"/a", "/a/b", "/c"} {
		few = append(few, unlink(path), rmdir(path), mkdir(path), put(path, ""), put(path, "x"))
	}
	plans, from := [][]api.Deed{nil}, 0
	for range most {
		to := len(plans)
		for _, l := range plans[from:to] {
			for _, deed := range few {
				// What begins with deeds that are no plan is none.
				if longer := append(slices.Clone(l), deed); plan.Check(longer) == api.OK {
					plans = append(plans, longer)
				}
			}
		}
		from = to
	}
	return plans
}
