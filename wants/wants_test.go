package wants_test

import (
	"fmt"
	"testing"

	"halyard/api"
	"halyard/span"
	"halyard/wants"
)

// P9.1: the range of a Dep is that of the Override with its Name; else its own.
func TestRange(t *testing.T) {
	m := over("a 1.0.0", "b >=2.0.0", "c")
	m.Deps, m.Dev, m.Optional = deps("d 3.0.0", "b 7.0.0"), deps("e 3.0.0"), deps("f 3.0.0")
	for d, want := range map[string]string{
		"a *": "1.0.0", "a 1.0.0": "1.0.0", "a 2.0.0": "1.0.0", "b <1.0.0": ">=2.0.0", "c 1.0.0": "*",
		"d *": "*", "e 1.0.0": "1.0.0", "f ^2.0.0": ">=2.0.0 <=2.999.999", "aa 5.0.0": "5.0.0", "A 5.0.0": "5.0.0", "a- 5.0.0": "5.0.0", "z 1.0.0 || 3.0.0": "1.0.0 || 3.0.0",
	} {
		if got := span.Print(wants.Range(m, deps(d)[0])); got != want {
			t.Errorf("Range of %s: %s, not %s", d, got, want)
		}
		own := deps(d)[0]
		if got := wants.Range(api.Manifest{Deps: m.Overrides}, own); flatRange(got) != flatRange(own.Range) {
			t.Errorf("Range of %s without Overrides: %v", d, got)
		}
	}
}

// P9.1: of several Overrides of a Name the first one holds.
func TestFirstOverride(t *testing.T) {
	m := over("b 4.0.0", "a 1.0.0", "a 2.0.0", "b 5.0.0", "a 3.0.0")
	for d, want := range map[string]string{"a": "1.0.0", "b": "4.0.0", "c": "*"} {
		if got := span.Print(wants.Range(m, deps(d)[0])); got != want {
			t.Errorf("Range of %s: %s, not %s", d, got, want)
		}
	}
	m = api.Manifest{Overrides: []api.Dep{{Name: "a"}, {Name: "a", Range: span.All()}}}
	if got := wants.Range(m, deps("a")[0]); len(got) != 0 {
		t.Errorf("Range by an Override of none: %v", got)
	}
	p := api.Package{Deps: deps("a", "b"), Peers: deps("a", "b"), Optional: deps("a", "b")}
	m = over("b 4.0.0", "a 1.0.0", "a 2.0.0", "b 5.0.0")
	tells(t, "Of", wants.Of(p, m), "a must 1.0.0, a may 1.0.0, b must 4.0.0, b may 4.0.0")
	if got := wants.Peers(p, m); flatDeps(got) != flatDeps(deps("a 1.0.0", "b 4.0.0")) {
		t.Errorf("Peers: %v", got)
	}
}

// P9.1: names and ranges that may not be are taken as they are.
func TestRangeAsItIs(t *testing.T) {
	for _, r := range append(noRanges(), nil, []api.Span{}, span.All(), ranged("1.0.0 || 2.0.0")) {
		for _, name := range append(noNames(), "a") {
			d, other := api.Dep{Name: name, Range: r}, api.Dep{Name: name, Range: ranged("9.0.0")}
			if got := wants.Range(api.Manifest{}, d); flatRange(got) != flatRange(r) {
				t.Errorf("Range of %q %v: %v", short(name), r, got)
			}
			if got := wants.Range(api.Manifest{Overrides: []api.Dep{d}}, other); flatRange(got) != flatRange(r) {
				t.Errorf("Range of %q overridden by %v: %v", short(name), r, got)
			}
			if got := wants.Range(api.Manifest{Overrides: []api.Dep{{Name: name + "x"}, other}}, d); flatRange(got) != flatRange(other.Range) {
				t.Errorf("Range of %q %v, overridden: %v", short(name), r, got)
			}
		}
	}
}

// P9.2: a package wants each of its Deps, would like each of its Optional; its Peers are no wants.
func TestOf(t *testing.T) {
	p := api.Package{Name: "p", Version: version(1, 0, 0), Deps: deps("b ^1.0.0", "d"), Peers: deps("a", "e"), Optional: deps("c <=2.0.0", "f")}
	const b = " >=1.0.0 <=1.999.999, c may "
	tells(t, "Of", wants.Of(p, api.Manifest{}), "b must"+b+"<=2.0.0, d must *, f may *")
	tells(t, "Of", wants.Of(p, over("c 1.0.0", "d 2.0.0")), "b must"+b+"1.0.0, d must 2.0.0, f may *")
	tells(t, "Of without Deps", wants.Of(api.Package{Optional: deps("a")}, api.Manifest{}), "a may *")
	tells(t, "Of without Optional", wants.Of(api.Package{Deps: deps("a")}, api.Manifest{}), "a must *")
	tells(t, "Of Peers alone", wants.Of(api.Package{Name: "p", Peers: deps("a")}, over("a 1.0.0")), "")
	// What the project wants is nothing that a package wants.
	m := api.Manifest{Deps: deps("d 9.0.0", "x"), Dev: deps("b 9.0.0", "y"), Optional: deps("f 9.0.0", "z")}
	tells(t, "Of beside a project's wants", wants.Of(p, m), "b must"+b+"<=2.0.0, d must *, f may *")
	tells(t, "Of the zero package", wants.Of(api.Package{}, m), "")
}

// P9.2: the kinds are WantMust and WantMay.
func TestKinds(t *testing.T) {
	got := wants.Of(api.Package{Deps: deps("a"), Optional: deps("b")}, api.Manifest{})
	if len(got) != 2 || got[0].Kind != api.WantMust || got[1].Kind != api.WantMay {
		t.Errorf("Of: %v", got)
	}
	got = wants.OfRoot(api.Manifest{Deps: deps("a"), Dev: deps("b"), Optional: deps("c")}, true)
	if len(got) != 3 || got[0].Kind != api.WantMust || got[1].Kind != api.WantMust || got[2].Kind != api.WantMay {
		t.Errorf("OfRoot: %v", got)
	}
	if fmt.Sprint(api.WantMust, api.WantMay) != "1 2" {
		t.Error("kinds:", api.WantMust, api.WantMay)
	}
}

// P9.2: wants rise by Name, byte by byte, whichever list they come of and however that stands.
func TestByName(t *testing.T) {
	const rising = "A must *, Z may *, a may *, a-b must *, a0 may *, aa must *, b may *, \xff must *"
	p := api.Package{Deps: deps("\xff", "aa", "a-b", "A"), Optional: deps("b", "a0", "a", "Z")}
	tells(t, "Of", wants.Of(p, api.Manifest{}), rising)
	tells(t, "OfRoot", wants.OfRoot(api.Manifest{Deps: deps("\xff", "a-b"), Dev: deps("aa", "A"), Optional: p.Optional}, true), rising)
	p = api.Package{Deps: deps("a", "a-b", "a0", "aa")}
	tells(t, "Of what rises", wants.Of(p, api.Manifest{}), "a must *, a-b must *, a0 must *, aa must *")
	p = api.Package{Optional: deps("aa", "a0", "a-b", "a")}
	tells(t, "Of what falls", wants.Of(p, api.Manifest{}), "a may *, a-b may *, a0 may *, aa may *")
	tells(t, "OfRoot of what falls", wants.OfRoot(api.Manifest{Dev: p.Optional}, true), "a must *, a-b must *, a0 must *, aa must *")
}

// P9.2: of one Name those of Deps go first, and as they stand.
func TestOneNameTwice(t *testing.T) {
	p := api.Package{Deps: deps("b 3.0.0", "a 2.0.0", "b 1.0.0", "a 5.0.0"), Optional: deps("b 2.0.0", "a 1.0.0", "a 0.0.0", "b 0.0.0")}
	const want = "a must 2.0.0, a must 5.0.0, a may 1.0.0, a may 0.0.0, b must 3.0.0, b must 1.0.0, b may 2.0.0, b may 0.0.0"
	tells(t, "Of", wants.Of(p, api.Manifest{}), want)
	tells(t, "OfRoot", wants.OfRoot(api.Manifest{Deps: p.Deps, Optional: p.Optional}, false), want)
	tells(t, "OfRoot", wants.OfRoot(api.Manifest{Deps: p.Deps[:2], Dev: p.Deps[2:], Optional: p.Optional}, true), want)
	var many api.Package
	text := ""
	for i := range 100 {
		many.Deps = append(many.Deps, deps(fmt.Sprintf("a 1.%d.0", 99-i))...)
		many.Optional = append(many.Optional, deps(fmt.Sprintf("a 0.%d.0", 99-i))...)
		text += fmt.Sprintf("a must 1.%d.0, ", 99-i)
	}
	for i := range 100 {
		text += fmt.Sprintf("a may 0.%d.0, ", 99-i)
	}
	tells(t, "Of many of a name", wants.Of(many, api.Manifest{}), text[:len(text)-2])
}

// P9.2: a project wants its Deps, its Dev only while dev is true, and would like its Optional; Overrides hold for them, too.
func TestOfRoot(t *testing.T) {
	m := api.Manifest{Deps: deps("b 1.0.0", "e"), Dev: deps("a", "d <=2.0.0"), Optional: deps("c 3.0.0", "f")}
	tells(t, "OfRoot with dev", wants.OfRoot(m, true), "a must *, b must 1.0.0, c may 3.0.0, d must <=2.0.0, e must *, f may *")
	tells(t, "OfRoot without dev", wants.OfRoot(m, false), "b must 1.0.0, c may 3.0.0, e must *, f may *")
	m.Overrides = deps("a 7.0.0", "b 8.0.0", "f 9.0.0", "x 1.0.0")
	tells(t, "OfRoot with dev, overridden", wants.OfRoot(m, true), "a must 7.0.0, b must 8.0.0, c may 3.0.0, d must <=2.0.0, e must *, f may 9.0.0")
	tells(t, "OfRoot without dev, overridden", wants.OfRoot(m, false), "b must 8.0.0, c may 3.0.0, e must *, f may 9.0.0")
	for _, dev := range []bool{true, false} {
		tells(t, "OfRoot of nothing", wants.OfRoot(api.Manifest{}, dev), "")
		tells(t, "OfRoot of Overrides alone", wants.OfRoot(over("a 1.0.0", "b"), dev), "")
	}
	tells(t, "OfRoot of Dev alone", wants.OfRoot(api.Manifest{Dev: deps("a")}, false), "")
}

// An Override of a name that nobody wants changes nothing.
func TestOverrideOfNobody(t *testing.T) {
	p := api.Package{Deps: deps("b 1.0.0"), Peers: deps("c 1.0.0"), Optional: deps("a 1.0.0")}
	m := api.Manifest{Deps: p.Deps, Dev: p.Peers, Optional: p.Optional, Overrides: deps("d 2.0.0", "aa 2.0.0", "A 2.0.0")}
	tells(t, "Of", wants.Of(p, m), "a may 1.0.0, b must 1.0.0")
	tells(t, "OfRoot", wants.OfRoot(m, true), "a may 1.0.0, b must 1.0.0, c must 1.0.0")
	if got := wants.Peers(p, m); flatDeps(got) != flatDeps(p.Peers) {
		t.Errorf("Peers: %v", got)
	}
}

// P9.3: Peers stand in their order, each with its range by the manifest.
func TestPeers(t *testing.T) {
	p := api.Package{Deps: deps("x"), Peers: deps("c 1.0.0", "a", "b >=2.0.0", "a 3.0.0"), Optional: deps("y")}
	for _, x := range []struct {
		m    api.Manifest
		want []api.Dep
	}{
		{api.Manifest{}, p.Peers},
		{over("b 1.0.0", "x 1.0.0"), deps("c 1.0.0", "a", "b 1.0.0", "a 3.0.0")},
		{over("a 1.0.0", "a 2.0.0", "c"), deps("c", "a 1.0.0", "b >=2.0.0", "a 1.0.0")},
		{api.Manifest{Deps: deps("a 9.0.0"), Dev: deps("b 9.0.0"), Optional: deps("c 9.0.0")}, p.Peers},
	} {
		if got := wants.Peers(p, x.m); flatDeps(got) != flatDeps(x.want) {
			t.Errorf("Peers by %v: %v, not %v", x.m.Overrides, got, x.want)
		}
	}
	if got := wants.Peers(api.Package{Deps: deps("a"), Optional: deps("b")}, over("a")); len(got) != 0 {
		t.Errorf("Peers of a package without any: %v", got)
	}
}

// P9.2, P9.3: names and ranges that may not be are taken as they are.
func TestListsAsTheyAre(t *testing.T) {
	var all []api.Dep
	for i, r := range append(noRanges(), nil) {
		all = append(all, api.Dep{Name: noNames()[i%len(noNames())], Range: r})
	}
	p := api.Package{Name: "\xff", Version: version(-1, 0, 1000), Deps: all, Peers: all, Optional: all}
	for _, m := range []api.Manifest{{}, {Overrides: all[:5]}, {Deps: all, Dev: all, Optional: all, Overrides: all}} {
		if got, want := wants.Of(p, m), modelOf(p, m); flat(got) != flat(want) {
			t.Errorf("Of: %v, not %v", short(flat(got)), short(flat(want)))
		}
		if got, want := wants.Peers(p, m), modelPeers(p, m); flatDeps(got) != flatDeps(want) {
			t.Errorf("Peers: %v, not %v", short(flatDeps(got)), short(flatDeps(want)))
		}
		for _, dev := range []bool{true, false} {
			if got, want := wants.OfRoot(m, dev), modelOfRoot(m, dev); flat(got) != flat(want) {
				t.Errorf("OfRoot: %v, not %v", short(flat(got)), short(flat(want)))
			}
		}
	}
}
