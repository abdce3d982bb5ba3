package edits_test

import (
	"slices"
	"testing"

	"osier/api"
	"osier/clock"
	"osier/doc"
	"osier/edits"
)

// row is a call that issues so many operations in the garden.
type row struct {
	what string
	f    call
	n    int
}

// rows are calls of all kinds, none of which the garden refuses.
func rows() []row {
	return []row{
		{"Put of a block that is made", putting(none, root, "n"), 1},
		{"Put of a block that is there", putting(a, b, "n"), 1},
		{"Write of none", writing(b, 1), 0},
		{"Write", writing(b, 1, 'a', 'b', 'c'), 3},
		{"Erase of none", erasing(b), 0},
		{"Erase", erasing(b, h, i), 2},
		{"EditCreate", making(api.Edit{Kind: api.EditCreate, Parent: root, Index: 1}), 1},
		{"EditMove", making(api.Edit{Kind: api.EditMove, Block: a, Parent: b}), 1},
		{"EditTrash", making(api.Edit{Kind: api.EditTrash, Block: a}), 1},
		{"EditInsert of none", making(api.Edit{Kind: api.EditInsert, Block: b}), 0},
		{"EditInsert", making(api.Edit{Kind: api.EditInsert, Block: b, Text: "éa"}), 2},
		{"EditDelete of none", making(api.Edit{Kind: api.EditDelete, Block: b, Index: 2}), 0},
		{"EditDelete", making(api.Edit{Kind: api.EditDelete, Block: b, Count: 2}), 2},
	}
}

// checkRow looks that a row of n operations is issued: their heads, and what clock and document have then.
func checkRow(t *testing.T, what string, d *doc.Doc, c *clock.Clock, f call, n int) {
	t.Helper()
	was, heads := seen(d, c), headed(d, c, make([]api.Op, n))
	got, e := f(d, c)
	if e != api.OK || len(got) != n {
		t.Fatalf("%s: %v, error %d", what, got, e)
	}
	for n, o := range got {
		if o.Id != heads[n].Id || o.Time != heads[n].Time || !slices.Equal(o.Deps, heads[n].Deps) {
			t.Errorf("%s: the %d-th one is %+v, not %+v", what, n, o, heads[n])
		}
	}
	if c.Actor() != was.actor || c.Seq() != was.seq+n || c.Time() != max(was.now, was.time)+n {
		t.Errorf("%s: the clock is %d, %d, %d", what, c.Actor(), c.Seq(), c.Time())
	}
	if !same(d.Ops(), append(was.ops, got...)) || !same(d.Waiting(), was.waiting) {
		t.Errorf("%s: %+v were taken in, %+v wait", what, d.Ops(), d.Waiting())
	}
}

// P14.4: ErrArg of each without a document or a clock.
func TestRowNil(t *testing.T) {
	for _, r := range rows() {
		checkNil(t, r.what, r.f)
	}
}

// P14.4: Id, Time and Deps of each, by a clock of an actor that is new, and of one of whom there are operations; by a Time of the clock, and by one of the document.
func TestRow(t *testing.T) {
	for _, r := range rows() {
		for _, c := range [][3]int{{7, 0, 0}, {7, 0, 5}, {7, 0, gardenTime - 1}, {7, 0, gardenTime}, {7, 0, gardenTime + 1}, {0, 0, 1000}, {api.MaxActor - 1, 0, 0}, {1, 11, 0}, {1, 11, 500}} {
			d, clk := of(t, garden()...), tick(t, c[0], c[1], c[2])
			checkRow(t, r.what, d, clk, r.f, r.n)
			checkRow(t, "behind "+r.what, d, clk, putting(none, root, "c"), 1)
		}
	}
}

// P14.4: the clock is told the document's Time, also where nothing is issued; an earlier one changes nothing.
func TestRowTime(t *testing.T) {
	for _, r := range rows() {
		d, clk := grow(t)
		got, _ := r.f(d, clk)
		for n, o := range got {
			if o.Time != gardenTime+1+n {
				t.Errorf("%s: the %d-th Time is %d", r.what, n, o.Time)
			}
		}
		if clk.Time() != gardenTime+r.n {
			t.Errorf("%s: the clock's Time is %d", r.what, clk.Time())
		}
		d, clk = of(t, garden()...), tick(t, 7, 0, 4000)
		r.f(d, clk)
		if clk.Time() != 4000+r.n {
			t.Errorf("%s: the clock's later Time is %d", r.what, clk.Time())
		}
	}
}

// P14.4: documents and clocks that are just declared.
func TestRowDeclared(t *testing.T) {
	var d doc.Doc
	var clk clock.Clock
	checkRow(t, "the first one", &d, &clk, making(api.Edit{Kind: api.EditCreate, Parent: root}), 1)
	checkRow(t, "a text", &d, &clk, making(api.Edit{Kind: api.EditInsert, Block: dot(0, 1), Text: "ab"}), 2)
	if s := d.Show(); s != "- ab\n" {
		t.Errorf("it is shown as %q", s)
	}
}

// P14.4: ErrArg of a clock whose Seq isn't how many operations of its Actor the Version has, below or above that. A Seq that is used up is never theirs, so that ErrArg is told of it, and not ErrSpent.
func TestRowSeq(t *testing.T) {
	for _, r := range rows() {
		for _, c := range [][2]int{{7, 1}, {7, 11}, {7, api.MaxSeq - 1}, {7, api.MaxSeq}, {1, 0}, {1, 1}, {1, 10}, {1, 12}, {1, api.MaxSeq}, {0, 1}, {0, 11}, {2, 11}} {
			d, clk := of(t, garden()...), tick(t, c[0], c[1], 0)
			checkRefused(t, r.what, d, clk, r.f, api.ErrArg)
			clk = tick(t, c[0], c[1], api.MaxTime)
			checkRefused(t, r.what+", with a Time that is used up", d, clk, r.f, api.ErrArg)
		}
	}
}

// P14.4: ErrArg, if one of the clock's Actor waits, whatever else waits, and whatever it waits for; others that wait don't matter.
func TestRowWaiting(t *testing.T) {
	others := []api.Op{made(8, 2, 500, root, "n", 8, 1), made(6, 1, 500, root, "n", 9, 1), made(0, 1, 5, root, "n", 6, 1)}
	for _, r := range rows() {
		for _, own := range []api.Op{made(7, 2, 500, root, "n", 7, 1), made(7, 1, 500, root, "n", 9, 1), made(7, 9, 1, trash, "n", 7, 8), put(7, 2, 500, b, h, 'y', 1, 11, 7, 1)} {
			d, clk := of(t, append(garden(), append(others, own)...)...), tick(t, 7, 0, 0)
			checkRefused(t, r.what, d, clk, r.f, api.ErrArg)
			clk = tick(t, 7, 0, api.MaxTime)
			checkRefused(t, r.what+", with a Time that is used up", d, clk, r.f, api.ErrArg)
			d = of(t, append(garden(), append([]api.Op{own}, others...)...)...)
			checkRefused(t, r.what+", told first", d, tick(t, 7, 0, 0), r.f, api.ErrArg)
			checkRow(t, r.what+" by another one", d, tick(t, 1, 11, 0), r.f, r.n)
		}
		d := of(t, append(garden(), made(1, 13, 500, root, "n", 1, 12))...)
		checkRefused(t, r.what+", by an actor of whom there are some", d, tick(t, 1, 11, 0), r.f, api.ErrArg)
		d = of(t, append(garden(), others...)...)
		checkRow(t, r.what+", with others that wait", d, tick(t, 7, 0, 0), r.f, r.n)
	}
}

// full is a garden with so many operations in all, some of which wait.
func full(t *testing.T, n, waiting int) *doc.Doc {
	t.Helper()
	d := of(t, garden()...)
	last := gardenTime
	for seq := 1; seq <= n-waiting-11; seq++ {
		deps := []int{1, 11, 2, seq - 1}
		if seq == 1 {
			deps = deps[:2]
		}
		last++
		if _, e := d.Deliver(moved(2, seq, last, c, root, "t", deps...)); e != api.OK {
			t.Fatalf("Deliver: error %d", e)
		}
	}
	for seq := 2; seq <= waiting+1; seq++ {
		if _, e := d.Deliver(moved(3, seq, last+seq, c, root, "t", 1, 11, 3, seq-1)); e != api.OK {
			t.Fatalf("Deliver: error %d", e)
		}
	}
	if in, waits := len(d.Ops()), len(d.Waiting()); in+waits != n || waits != waiting {
		t.Fatalf("%d were taken in, %d wait", in, waits)
	}
	return d
}

// P14.4: ErrLimit, if there is no room for all of a row, counted with those that wait; ErrArg is told ahead of it, and it ahead of ErrSpent.
func TestRowLimit(t *testing.T) {
	for _, waiting := range []int{0, 70, api.MaxOps - 14} {
		d, clk := full(t, api.MaxOps-3, waiting), tick(t, 7, 0, 0)
		four := writing(b, 1, 'a', 'b', 'c', 'd')
		checkRefused(t, "four more", d, clk, four, api.ErrLimit)
		checkRefused(t, "four more, and no Times", d, tick(t, 7, 0, api.MaxTime), four, api.ErrLimit)
		checkRefused(t, "four more, by a clock that may not be", d, tick(t, 7, 1, 0), four, api.ErrArg)
		checkRefused(t, "more than there is ever room for", d, clk, writing(b, 1, make([]int, api.MaxText)...), api.ErrLimit)
		checkRow(t, "three more", d, clk, writing(b, 1, 'a', 'b', 'c'), 3)
		for _, r := range rows() {
			switch {
			case r.n == 0:
				checkRow(t, r.what, d, clk, r.f, 0)
			default:
				checkRefused(t, r.what, d, clk, r.f, api.ErrLimit)
			}
		}
		checkText(t, d, b, "habci")
	}
}

// P14.4: ErrLimit of a row that is longer than what is left by one, of each kind.
func TestRowLimitBeside(t *testing.T) {
	d, clk := full(t, api.MaxOps-1, 5), tick(t, 7, 0, 0)
	for _, r := range rows() {
		if r.n > 1 {
			checkRefused(t, r.what, d, clk, r.f, api.ErrLimit)
		}
	}
	checkRow(t, "the last one", d, clk, putting(none, root, "n"), 1)
}

// P14.4: ErrSpent by the clock's Time, and by the document's: a row that ends at MaxTime may be, one that ends behind it not.
func TestRowSpent(t *testing.T) {
	for _, r := range rows() {
		d, clk := of(t, garden()...), tick(t, 7, 0, api.MaxTime-r.n)
		checkRow(t, r.what+", by the last Times", d, clk, r.f, r.n)
		late := append(garden(), moved(2, 1, api.MaxTime-r.n, c, root, "t", 1, 11))
		d, clk = of(t, late...), tick(t, 7, 0, 0)
		checkRow(t, r.what+", by the document's last Times", d, clk, r.f, r.n)
		d, clk = of(t, late...), tick(t, 7, 0, api.MaxTime-r.n)
		checkRow(t, r.what+", by the last Times of both", d, clk, r.f, r.n)
		if r.n == 0 {
			continue
		}
		d, clk = of(t, garden()...), tick(t, 7, 0, api.MaxTime-r.n+1)
		checkRefused(t, r.what+", one too many", d, clk, r.f, api.ErrSpent)
		checkRefused(t, r.what+", no Times", d, tick(t, 7, 0, api.MaxTime), r.f, api.ErrSpent)
		later := append(garden(), moved(2, 1, api.MaxTime-r.n+1, c, root, "t", 1, 11))
		for _, time := range []int{0, 1, gardenTime, api.MaxTime - r.n, api.MaxTime} {
			checkRefused(t, r.what+", one too many by the document", of(t, later...), tick(t, 7, 0, time), r.f, api.ErrSpent)
		}
	}
}

// ids are the Ids of operations.
func ids(l []api.Op) []api.Dot {
	var out []api.Dot
	for _, o := range l {
		out = append(out, o.Id)
	}
	return out
}

// P14.2: others' operations that wait for one of a row are taken in with it; what is issued behind it is late, and thrown away, though it is answered.
func TestRowWaitedFor(t *testing.T) {
	other := moved(8, 1, 900, a, trash, "n", 1, 11, 7, 1)
	d, clk := of(t, append(garden(), other)...), tick(t, 7, 0, 0)
	got, e := edits.Write(d, clk, b, 2, text("abc"))
	if e != api.OK || !slices.Equal(ids(got), []api.Dot{dot(7, 1), dot(7, 2), dot(7, 3)}) || clk.Seq() != 3 || clk.Time() != gardenTime+3 {
		t.Fatalf("issued is %+v, error %d, the clock %d, %d", got, e, clk.Seq(), clk.Time())
	}
	for n, want := range []api.Vector{vec(1, 11), vec(1, 11, 7, 1, 8, 1), vec(1, 11, 7, 1, 8, 1)} {
		if !slices.Equal(got[n].Deps, want) || got[n].Time != gardenTime+1+n {
			t.Errorf("the %d-th one is %+v", n, got[n])
		}
	}
	if !slices.Equal(d.Version(), vec(1, 11, 7, 1, 8, 1)) || len(d.Waiting()) != 0 {
		t.Errorf("the Version is %v, %v wait", d.Version(), d.Waiting())
	}
	checkText(t, d, b, "hia")
	checkKids(t, d, root, b, c)
	checkRefused(t, "the clock is ahead of the document", d, clk, putting(none, root, "n"), api.ErrArg)
	checkRow(t, "a fresh clock", d, tick(t, 7, 1, 0), writing(b, 3, 'b', 'c'), 2)
	checkText(t, d, b, "hiabc")
}

// P14.2: where what waited for one of a row takes it out of sight, Place says that there is no such index: At and Side are Dot{} and 0, as it says then.
func TestRowPlaceGone(t *testing.T) {
	other := taken(8, 1, 900, a, dot(7, 1), 1, 11, 7, 1)
	d, clk := of(t, append(garden(), other)...), tick(t, 7, 0, 0)
	got, e := edits.Write(d, clk, a, 0, text("ab"))
	if e != api.OK || len(got) != 2 || got[1].At != none || got[1].Side != 0 || got[1].Char != 'b' || got[1].Block != a {
		t.Fatalf("issued is %+v, error %d", got, e)
	}
	checkText(t, d, a, "")
	if !slices.Equal(d.Version(), vec(1, 11, 7, 1, 8, 1)) {
		t.Errorf("the Version is %v", d.Version())
	}
}

// P14.2: one that waited for one of a row and turns out late is thrown away, and stands in no one's way.
func TestRowWaitedLate(t *testing.T) {
	other := moved(8, 1, 5, a, trash, "n", 1, 11, 7, 1)
	d, clk := of(t, append(garden(), other)...), tick(t, 7, 0, 0)
	want := headed(d, clk, make([]api.Op, 3))
	got, e := edits.Write(d, clk, b, 2, text("abc"))
	if e != api.OK || !slices.Equal(ids(got), ids(want)) || !slices.Equal(got[2].Deps, want[2].Deps) {
		t.Fatalf("issued is %+v, error %d", got, e)
	}
	checkText(t, d, b, "hiabc")
	checkKids(t, d, root, a, b, c)
	if len(d.Waiting()) != 0 {
		t.Errorf("%v wait", d.Waiting())
	}
}
