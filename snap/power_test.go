package snap_test

import (
	"math/rand/v2"
	"strconv"
	"testing"

	"osier/api"
	"osier/disk"
	"osier/snap"
)

// loads is what a Load answers, as a text.
func loads(d *disk.Disk, name string) string {
	gen, b, e := snap.Load(d, name)
	return strconv.Itoa(gen) + " " + strconv.Quote(string(b)) + " " + strconv.Itoa(int(e))
}

// loading is what a Load of a number and bytes answers, as a text.
func loading(gen int, b string) string { return strconv.Itoa(gen) + " " + strconv.Quote(b) + " 0" }

// P20.5: the power goes off within each operation of a Save, with each part of it done and each length kept of the tails: what was there ahead, or what was to be there.
func TestPower(t *testing.T) {
	const gen, fresh = 70, "fresh bytes"
	size := len(saved(t, gen, fresh))
	for _, old := range []string{"", saved(t, 3, ""), saved(t, 4, "old"), "no frame"} {
		for _, elder := range []string{"", "x", saved(t, gen, "elder"), repeated("y", 100)} {
			for ops := range 5 {
				for part := range size + 2 {
					for _, keep := range []int{0, 1, 4, size - 1, size, plenty} {
						checkCut(t, old, elder, gen, fresh, ops, part, keep)
					}
				}
			}
		}
	}
}

// checkCut does a Save within which the power goes off, and looks what is loaded then, and when it is saved once more.
func checkCut(t *testing.T, old, elder string, gen int, fresh string, ops, part, keep int) {
	t.Helper()
	d := disk.New(plenty)
	if old != "" {
		must(t, "old", d.Append("s", []byte(old)), d.Sync("s"))
	}
	if elder != "" {
		must(t, "elder", d.Append("s.new", []byte(elder)))
	}
	was, would := loads(d, "s"), loading(gen, fresh)
	cut(t, d, ops, part, keep)
	e := save(d, "s", gen, fresh)
	d.On()
	what := "cut at " + strconv.Itoa(ops) + ", " + strconv.Itoa(part) + ", " + strconv.Itoa(keep)
	switch got := loads(d, "s"); {
	case e != api.OK && e != api.ErrPower:
		t.Fatalf("%s: error %d", what, e)
	case got != was && got != would || e == api.OK && got != would:
		t.Fatalf("%s: error %d, %s is loaded, not %s or %s", what, e, got, was, would)
	}
	must(t, what, save(d, "s", gen+1, "again"))
	checkLoaded(t, what, d, "s", gen+1, "again")
	if len(d.Names()) != 1 {
		t.Fatalf("%s: there is %q", what, d.Names())
	}
}

// P20.5: what Save answered OK for stays, also when the power goes off behind it, and whatever else is saved or cut, till the next Save.
func TestSavedStays(t *testing.T) {
	d := disk.New(plenty)
	must(t, "Save", save(d, "s", 1, "a"))
	for n := range 30 {
		turn(t, d)
		checkLoaded(t, "turned off and on", d, "s", 1, "a")
		cut(t, d, n%4, n, n%7)
		save(d, "other", n, "b")
		save(d, "a b", n, "b")
		save(d, "s", -1, "b")
		snap.Save(d, "s", 2, make([]byte, api.MaxBody))
		d.On()
		checkLoaded(t, "others are saved", d, "s", 1, "a")
	}
	must(t, "Save", save(d, "s", 0, ""))
	turn(t, d)
	checkLoaded(t, "the next one", d, "s", 0, "")
}

// P20.5: by chance, again and again: of each name what was saved last, or, where the power went off within the last Save, what was there ahead or was to be there.
func TestPowerAgain(t *testing.T) {
	r := rand.New(rand.NewPCG(20, 3))
	old, fresh := 0, 0
	for range 300 {
		d := disk.New([]int{60, 100, plenty}[r.IntN(3)])
		had := map[string]string{"s": "0 \"\" 70", "t": "0 \"\" 70", "s.n": "0 \"\" 70"}
		for range 30 {
			if r.IntN(2) == 0 {
				cut(t, d, r.IntN(8), r.IntN(30), r.IntN(30))
			}
			name, gen, b := []string{"s", "t", "s.n"}[r.IntN(3)], r.IntN(100), repeated("x", r.IntN(12))
			would, e := loading(gen, b), save(d, name, gen, b)
			if d.Off() {
				d.On()
			}
			got := loads(d, name)
			switch {
			case e == api.OK:
				had[name] = would
			case e == api.ErrPower && got == would:
				had[name] = would
				fresh++
			default:
				old++
			}
			for n, want := range had {
				if got := loads(d, n); got != want {
					t.Fatalf("error %d: of %q %s is loaded, not %s", e, n, got, want)
				}
			}
		}
	}
	if old == 0 || fresh == 0 {
		t.Errorf("%d stayed, %d were there nevertheless", old, fresh)
	}
}

// P20.5: branches that are saved outlast the power that goes off within the next Save: either those ahead or the next ones are taken.
func TestPowerBranches(t *testing.T) {
	b := several(t)
	was := snap.Put(b)
	edit(t, b, "a", "u", creating(root, 0))
	would := snap.Put(b)
	for ops := range 4 {
		for _, part := range []int{0, 1, 50, plenty} {
			for _, keep := range []int{0, 1, 50, plenty} {
				d := disk.New(plenty)
				must(t, "Save", snap.Save(d, "snap", 1, was))
				cut(t, d, ops, part, keep)
				e := snap.Save(d, "snap", 2, would)
				d.On()
				gen, got, f := snap.Load(d, "snap")
				if f != api.OK || gen == 1 && string(got) != string(was) || gen == 2 && string(got) != string(would) || gen < 1 || gen > 2 || e == api.OK && gen != 2 {
					t.Fatalf("cut at %d, %d, %d: error %d, then %d, error %d", ops, part, keep, e, gen, f)
				}
				if _, e := snap.Take(3, got); e != api.OK {
					t.Fatalf("cut at %d, %d, %d: Take: error %d", ops, part, keep, e)
				}
			}
		}
	}
}
