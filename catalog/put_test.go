package catalog_test

import (
	"testing"

	"halyard/api"
	"halyard/catalog"
)

// P8.1: a new catalog has no package, and is one of its own.
func TestNew(t *testing.T) {
	c := catalog.New()
	if c == nil {
		t.Fatal("New: nil")
	}
	holds(t, c, nil)
	if e := c.Put(rich("a 1.0.0")); e != api.OK {
		t.Errorf("Put: error %d", e)
	}
	holds(t, c, model{rich("a 1.0.0")})
	holds(t, catalog.New(), nil)
}

// P8.1: what is put is there from now on, in whichever order it comes.
func TestPut(t *testing.T) {
	for _, l := range [][]api.Package{
		plain("a 0.0.0"),
		plain("a 1.0.0", "a 2.0.0", "a 1.5.0", "b 1.0.0"),
		plain("b 1.0.0", "a 1.5.0", "a 2.0.0", "a 1.0.0"),
		plain("abcdefghijklmnop 999.999.999", "z- 0.0.1", "a9 0.1.0"),
		{rich("a 1.0.0"), rich("a 1.0.1"), rich("aa 1.0.0"), plain("b 1.0.0")[0], rich("own 4.0.0")},
	} {
		c := catalog.New()
		var m model
		for _, p := range l {
			puts(t, c, &m, p)
		}
	}
}

// P8.1: a package that may not be is refused, whatever is there; also at a name and version that is there.
func TestPutOfNoPackage(t *testing.T) {
	for _, m := range []model{nil, plain("a 1.0.0"), {rich("a 1.0.0"), rich("b 1.0.0")}, sized(127), sized(128)} {
		c := filled(m...)
		for _, p := range noPackages() {
			refuses(t, c, m, p, api.ErrPack)
		}
	}
}

// P8.1: one of this name and version is there already, whatever else the two have.
func TestPutOfWhatIsThere(t *testing.T) {
	for _, m := range []model{{rich("b 1.0.0")}, {plain("a 1.0.0")[0], rich("a 2.0.0"), rich("b 1.0.0")}, sized(128)} {
		c := filled(m...)
		for _, p := range m {
			refuses(t, c, m, p, api.ErrThere)
			p.Deps, p.Peers, p.Optional = p.Optional, p.Deps, p.Peers
			refuses(t, c, m, p, api.ErrThere)
			refuses(t, c, m, api.Package{Name: p.Name, Version: p.Version}, api.ErrThere)
			refuses(t, c, m, api.Package{Name: p.Name, Version: p.Version, Peers: deps("q")}, api.ErrThere)
		}
	}
}

// P8.1: the same name with another version, and the same version with another name, are not there.
func TestPutOfNeighbours(t *testing.T) {
	c := catalog.New()
	var m model
	puts(t, c, &m, rich("a 1.2.3"))
	for _, s := range []string{"a 0.2.3", "a 2.2.3", "a 1.1.3", "a 1.3.3", "a 1.2.2", "a 1.2.4", "a 3.2.1", "b 1.2.3", "aa 1.2.3", "a- 1.2.3", "a1 2.3.0", "a 12.3.0", "a 1.23.0"} {
		puts(t, c, &m, plain(s)[0])
	}
}

// P8.1: 128 packages are taken, be they of one name or of many, and no more; what is there, and what may not be, is told ahead of it.
func TestFull(t *testing.T) {
	var many, one []api.Package
	for i := range 128 {
		one = append(one, api.Package{Name: "a", Version: version(0, 0, i)})
		many = append(many, api.Package{Name: "n" + string(rune('a'+i%26)) + string(rune('a'+i/26)), Version: version(1, 0, 0)})
	}
	for _, l := range [][]api.Package{sized(128), one, many} {
		c := catalog.New()
		var m model
		for _, p := range l {
			puts(t, c, &m, p)
		}
		for range 2 {
			for _, p := range append(plain("a 7.7.7", "z 0.0.0", "na 1.0.0"), rich("c 999.0.0")) {
				refuses(t, c, m, p, api.ErrFull)
			}
			refuses(t, c, m, l[0], api.ErrThere)
			refuses(t, c, m, l[127], api.ErrThere)
			refuses(t, c, m, api.Package{}, api.ErrPack)
			refuses(t, c, m, api.Package{Name: l[5].Name, Version: l[5].Version, Deps: deps("c", "b")}, api.ErrPack)
			refuses(t, c, m, api.Package{Name: "z", Deps: deps("c", "b")}, api.ErrPack)
		}
	}
}

// P8.1: refused packages take no room.
func TestRefusedTakesNoRoom(t *testing.T) {
	c := catalog.New()
	var m model
	for _, p := range sized(128) {
		puts(t, c, &m, p)
		c.Put(p)
		c.Put(api.Package{})
		c.Put(api.Package{Name: "z", Deps: deps("c", "b")})
	}
	holds(t, c, sized(128))
}
