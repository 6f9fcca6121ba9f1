package cli_test

import (
	"testing"

	"halyard/api"
	"halyard/catalog"
	"halyard/delta"
	"halyard/disk"
	"halyard/image"
	"halyard/pack"
	"halyard/plain"
	"halyard/plan"
)

// never is how many raw writes are left till the power goes, if no cut is to come.
const never = -1

// write is a raw write, with the bytes that it writes.
type write struct {
	raw  api.Raw
	data string
}

// model is a session by the chapters' words: commands are those of package plain, and the raw writes of each are told ahead.
type model struct {
	t    *testing.T
	c    *catalog.Catalog
	l    api.Limits
	d    *disk.Disk // what lies on the session's disk; the power of this one never goes
	now  api.State  // what the session tells
	next api.State  // what it tells behind the next opening
	rest []write    // the raw writes of that opening
	left int        // raw writes till the power goes
	lost bool       // a command met that the power was off
	raws []api.Raw  // of the last step
}

func newModel(t *testing.T, l api.Limits) *model {
	return &model{t: t, c: catalog.New(), l: l, d: disk.New(), now: image.Empty(), next: image.Empty(), left: never}
}

// asks is what a step is answered.
func (m *model) asks(x api.Step) api.Answer {
	m.t.Helper()
	m.raws = nil
	switch {
	case x.Op == api.StepPublish:
		p, e := pack.Parse(x.Pack)
		if e == api.OK {
			e = m.c.Put(p)
		}
		return api.Answer{Code: e}
	case x.Op == api.StepCut && m.left == 0:
		return api.Answer{Code: api.ErrDown}
	case x.Op == api.StepCut && x.N < 0:
		return api.Answer{Code: api.ErrArg}
	case x.Op == api.StepCut:
		m.left = x.N
		return api.Answer{}
	case x.Op == api.StepOpen:
		return m.opens()
	case x.Op < api.StepInstall || x.Op > api.StepOverride:
		return api.Answer{Code: api.ErrOp}
	}
	return m.commands(x)
}

// opens brings the power back, and ends or takes back what was under way.
func (m *model) opens() api.Answer {
	m.t.Helper()
	m.writes(m.rest)
	m.now, m.rest, m.left, m.lost = m.next, nil, never, false
	return api.Answer{Nodes: len(m.now.Graph.Nodes), Dirs: len(m.now.Tree.Dirs) - 1}
}

// commands is a command, as far as the power lets it be done.
func (m *model) commands(x api.Step) api.Answer {
	m.t.Helper()
	m.lost = m.lost || m.left == 0
	if m.lost {
		return api.Answer{Code: api.ErrDown}
	}
	next, a := plain.Do(m.now, m.c, x, m.l)
	if a.Code != api.OK {
		return a
	}
	l := m.writesTo(next)
	done := len(l)
	if m.left != never {
		done = min(done, m.left)
		m.left -= done
	}
	m.writes(l[:done])
	if done < len(l) {
		m.lost = true
		m.breaks(next, l, done)
		return api.Answer{Code: api.ErrDown}
	}
	m.now, m.next = next, next
	return a
}

// breaks is a command that ended behind so many of its raw writes: without a plan the next opening takes the journal back, with one it does what is left.
func (m *model) breaks(next api.State, l []write, done int) {
	switch done {
	case 0:
	case 1:
		m.rest = []write{removes("/journal")}
	case 2:
		m.rest = []write{removes("/journal/plan.new"), removes("/journal")}
	default:
		m.next, m.rest = next, l[done:]
	}
}

// writesTo is the raw writes that make the files those of another state.
func (m *model) writesTo(next api.State) []write {
	m.t.Helper()
	deeds, e := delta.Deeds(filesOf(m.t, m.now), filesOf(m.t, next))
	if e != api.OK {
		m.t.Fatalf("Deeds: error %d", e)
	}
	if len(deeds) == 0 {
		return nil
	}
	text, e := plan.Print(deeds)
	if e != api.OK {
		m.t.Fatalf("Print: error %d", e)
	}
	l := []write{
		{raw: api.Raw{Kind: api.RawMkdir, Path: "/journal"}},
		{raw: api.Raw{Kind: api.RawWrite, Path: "/journal/plan.new"}, data: text},
		{raw: api.Raw{Kind: api.RawRename, Path: "/journal/plan.new", To: "/journal/plan"}},
	}
	for _, d := range deeds {
		kind := []int{api.DeedUnlink: api.RawRemove, api.DeedRmdir: api.RawRemove, api.DeedMkdir: api.RawMkdir, api.DeedPut: api.RawWrite}[d.Kind]
		l = append(l, write{raw: api.Raw{Kind: kind, Path: d.Path}, data: d.Data})
	}
	return append(l, removes("/journal/plan"), removes("/journal"))
}

func removes(path string) write { return write{raw: api.Raw{Kind: api.RawRemove, Path: path}} }

// writes does raw writes on the model's own disk.
func (m *model) writes(l []write) {
	m.t.Helper()
	for _, w := range l {
		var e api.Errno
		switch w.raw.Kind {
		case api.RawMkdir:
			e = m.d.Mkdir(w.raw.Path)
		case api.RawWrite:
			e = m.d.Write(w.raw.Path, w.data)
		case api.RawRename:
			e = m.d.Rename(w.raw.Path, w.raw.To)
		case api.RawRemove:
			e = m.d.Remove(w.raw.Path)
		}
		if e != api.OK {
			m.t.Fatalf("%+v: error %d", w, e)
		}
		m.raws = append(m.raws, w.raw)
	}
}
