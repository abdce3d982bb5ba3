package doc_test

import (
	"math"
	"slices"
	"testing"

	"osier/api"
	"osier/doc"
	"osier/ops"
)

// chain are operations of one actor, each behind the other: a block `abc..` under Root.
func chain(n int) []api.Op {
	l := []api.Op{made(1, 1, 1)}
	at := none
	for seq := 2; seq <= n; seq++ {
		l = append(l, put(1, seq, seq, dot(1, 1), at, 'a'+(seq-2)%26, 1, seq-1))
		at = dot(1, seq)
	}
	return l
}

// P13.1: New has nothing taken in, and nothing waits; each is its own. So has one that is just declared.
func TestNew(t *testing.T) {
	d, m := of(t)
	if d == nil || d.Show() != "" || d.Time() != 0 || len(d.Version())+len(d.Ops())+len(d.Waiting())+len(d.Since(nil, 9)) != 0 {
		t.Errorf("new: %q, %d, %v, %v, %v", d.Show(), d.Time(), d.Version(), d.Ops(), d.Waiting())
	}
	other := doc.New()
	other.Deliver(made(1, 1, 1))
	other.Deliver(made(2, 2, 2, 2, 1))
	check(t, "beside another one", d, m)
	var declared doc.Doc
	check(t, "declared", &declared, m)
	tell(t, &declared, m, chain(4)[1], chain(4)[3], chain(4)[0], chain(4)[2])
	check(t, "declared, and told", &declared, m)
}

// P13.2: the chapter's example.
func TestExample(t *testing.T) {
	d := doc.New()
	l := chain(2)
	checkTold(t, d, l[1])
	checkTold(t, d, l[0], l...)
	if got, e := d.Deliver(l[1]); e != api.ErrTwice || len(got) != 0 {
		t.Errorf("told again: %v, %d", got, e)
	}
	if d.Show() != "- a\n" {
		t.Errorf("it is shown as %q", d.Show())
	}
}

// P13.2: operations that come as they lean on one another are taken in at once.
func TestInOrder(t *testing.T) {
	d, m := doc.New(), &slow{}
	for _, o := range chain(30) {
		checkTold(t, d, o, o)
		m.deliver(o)
		check(t, "in order", d, m)
	}
}

// wrong are operations that may not be.
func wrong() []api.Op {
	l := []api.Op{{}, made(1, 0, 9), made(-1, 1, 9), made(3, 1, 0), made(3, 1, -1), made(3, 1, api.MaxTime+1), made(3, 2, 9), made(3, 1, 9, 3, 1), made(3, 1, 9, 2, 1, 1, 1), made(3, 1, 9, 1, 1, 1, 1), made(3, 1, 9, 1, 0),
		moved(3, 1, 9, dot(1, 1), root), moved(3, 1, 9, dot(1, 1), dot(1, 1), 1, 1), put(3, 1, 9, dot(1, 1), dot(2, 1), 'x', 1, 1), put(3, 1, 9, dot(1, 1), none, 55296, 1, 1), taken(3, 1, 9, dot(1, 1), none, 1, 1)}
	for _, kind := range []int{0, -1, 4, math.MaxInt, math.MinInt} {
		o := made(3, 1, 9)
		o.Kind = kind
		l = append(l, o)
	}
	key := made(3, 1, 9)
	key.Key = "N"
	return append(l, key)
}

// P13.2: ErrOp of an operation that may not be, and nothing changes: of an empty document, and of one with some.
func TestRefusedOp(t *testing.T) {
	for _, l := range [][]api.Op{nil, chain(4), chain(4)[1:], slices.Concat(chain(3), chain(9)[6:])} {
		d, m := of(t, l...)
		for _, o := range wrong() {
			if ops.Check(o) {
				t.Fatalf("%+v may be", o)
			}
			checkRefused(t, d, m, o, api.ErrOp)
		}
	}
}

// P13.2: ErrOp comes ahead of ErrTwice: of an Id that was taken in, or waits, an operation that may not be.
func TestRefusedOpFirst(t *testing.T) {
	l := chain(6)
	d, m := of(t, l[0], l[1], l[4])
	for _, o := range []api.Op{l[0], l[1], l[4]} {
		o.Time = 0
		checkRefused(t, d, m, o, api.ErrOp)
		o.Time, o.Kind = 9, 4
		checkRefused(t, d, m, o, api.ErrOp)
	}
}

// P13.2: ErrTwice, of one that was taken in and of one that waits, the same or another one of that Id, and nothing changes.
func TestRefusedTwice(t *testing.T) {
	l := chain(8)
	d, m := of(t, l[0], l[1], l[2], l[4], l[7])
	for _, o := range []api.Op{l[0], l[1], l[2], l[4], l[7]} {
		checkRefused(t, d, m, o, api.ErrTwice)
		o.Time += 5
		checkRefused(t, d, m, o, api.ErrTwice)
		o.Time = 1
		checkRefused(t, d, m, o, api.ErrTwice)
		o.Deps = append(slices.Clone(o.Deps), dot(2, 3))
		checkRefused(t, d, m, o, api.ErrTwice)
		block := o
		block.Kind, block.Block, block.Parent, block.Key, block.At, block.Side, block.Char = api.Move, o.Id, root, "c", none, 0, 0
		checkRefused(t, d, m, block, api.ErrTwice)
	}
	tell(t, d, m, l[3])
	check(t, "one that waited was taken in", d, m)
	checkRefused(t, d, m, l[4], api.ErrTwice)
	tell(t, d, m, l[5], l[6])
	check(t, "all", d, m)
	for _, o := range l {
		checkRefused(t, d, m, o, api.ErrTwice)
	}
}

// full is a document that was told the first so many of a chain but one.
func full(t *testing.T, n, but int) (*doc.Doc, []api.Op) {
	t.Helper()
	d, l := doc.New(), chain(n)
	for i, o := range l {
		if i == but {
			continue
		}
		if _, e := d.Deliver(o); e != api.OK {
			t.Fatalf("Deliver of %v: error %d", o.Id, e)
		}
	}
	return d, l
}

// checkCounts looks at how many were taken in and wait.
func checkCounts(t *testing.T, d *doc.Doc, in, waits int) {
	t.Helper()
	if got, left := len(d.Ops()), len(d.Waiting()); got != in || left != waits {
		t.Errorf("%d were taken in, and %d wait, not %d and %d", got, left, in, waits)
	}
}

// checkFull looks that a document that is full refuses what is new, and what may not be or is there by its own errors.
func checkFull(t *testing.T, d *doc.Doc, there api.Op) {
	t.Helper()
	shown, version, in, waits := d.Show(), d.Version(), d.Ops(), d.Waiting()
	for _, o := range []api.Op{made(7, 1, 1), made(7, 1, api.MaxTime, 1, 1), made(7, 2, 5, 7, 1), made(7, 1, 1, 1, 1)} {
		if got, e := d.Deliver(o); e != api.ErrLimit || len(got) != 0 {
			t.Errorf("full: Deliver of %v is %v, %d", o.Id, got, e)
		}
	}
	if _, e := d.Deliver(there); e != api.ErrTwice {
		t.Errorf("full: one that is there: error %d", e)
	}
	if _, e := d.Deliver(made(7, 1, 0)); e != api.ErrOp {
		t.Errorf("full: one that may not be: error %d", e)
	}
	if d.Show() != shown || !slices.Equal(d.Version(), version) || !same(d.Ops(), in) || !same(d.Waiting(), waits) {
		t.Error("full: a refusal changed something")
	}
}

// P13.2: ErrLimit once MaxOps were taken in.
func TestLimitTakenIn(t *testing.T) {
	d, l := full(t, api.MaxOps, api.MaxOps-1)
	checkTold(t, d, l[api.MaxOps-1], l[api.MaxOps-1])
	checkCounts(t, d, api.MaxOps, 0)
	checkFull(t, d, l[7])
}

// P13.2: ErrLimit once MaxOps wait, also of the one for which all of them wait.
func TestLimitWaiting(t *testing.T) {
	d, l := full(t, api.MaxOps+1, 0)
	checkCounts(t, d, 0, api.MaxOps)
	checkFull(t, d, l[7])
	if got, e := d.Deliver(l[0]); e != api.ErrLimit || len(got) != 0 {
		t.Errorf("the first one: %v, %d", ids(got), e)
	}
	checkCounts(t, d, 0, api.MaxOps)
}

// P13.2: ErrLimit counts what was taken in and what waits together; the last one that there is room for may free all others.
func TestLimitBoth(t *testing.T) {
	d, l := full(t, api.MaxOps, api.MaxOps/2)
	checkCounts(t, d, api.MaxOps/2, api.MaxOps/2-1)
	checkTold(t, d, l[api.MaxOps/2], l[api.MaxOps/2:]...)
	checkCounts(t, d, api.MaxOps, 0)
	checkFull(t, d, l[api.MaxOps-1])
	d, l = full(t, api.MaxOps+1, api.MaxOps/2)
	checkCounts(t, d, api.MaxOps/2, api.MaxOps/2)
	checkFull(t, d, l[api.MaxOps-1])
}

// P13.2: what is thrown away doesn't count: neither the one that is told, nor one that waited.
func TestLimitThrownAway(t *testing.T) {
	d, _ := full(t, api.MaxOps-2, -1)
	for range 3 {
		if got, e := d.Deliver(made(2, 1, 5, 1, 7)); e != api.ErrOp || len(got) != 0 {
			t.Errorf("a late one: %v, %d", ids(got), e)
		}
	}
	checkTold(t, d, made(2, 1, 9, 3, 1))
	checkCounts(t, d, api.MaxOps-2, 1)
	checkTold(t, d, made(3, 1, 9), made(3, 1, 9))
	checkCounts(t, d, api.MaxOps-1, 0)
	checkTold(t, d, made(2, 1, 9), made(2, 1, 9))
	checkFull(t, d, made(3, 1, 9))
}

// P13.2: operations that come ahead of what they lean on, all the other way round: nothing till the first one, then all.
func TestReverse(t *testing.T) {
	l := chain(200)
	d, m := doc.New(), &slow{}
	for i := len(l) - 1; i > 0; i-- {
		checkTold(t, d, l[i])
		m.deliver(l[i])
	}
	check(t, "all but the first one", d, m)
	if d.Show() != "" || len(d.Waiting()) != 199 {
		t.Errorf("%d wait, and %q is shown", len(d.Waiting()), d.Show())
	}
	checkTold(t, d, l[0], l...)
	m.deliver(l[0])
	check(t, "all", d, m)
}

// P13.2: one leans on several, and is taken in with the last of them, whichever that is.
func TestLeansOnSeveral(t *testing.T) {
	last := moved(4, 1, 7, dot(1, 1), dot(2, 1), 1, 2, 2, 1, 3, 1)
	l := []api.Op{made(1, 1, 1), made(1, 2, 2, 1, 1), made(2, 1, 3), made(3, 1, 4, 1, 1), last}
	for _, order := range orders(l) {
		d, m := doc.New(), &slow{}
		for _, o := range order {
			tell(t, d, m, o)
			check(t, "told so far", d, m)
		}
		checkCounts(t, d, 5, 0)
	}
}

// P13.2: Deps have more than their dots: what is ahead of these, of the same actor.
func TestLeansOnAllAhead(t *testing.T) {
	d, m := of(t, made(1, 2, 2, 1, 1), made(1, 3, 3, 1, 2), made(2, 1, 9, 1, 3), made(3, 1, 9, 1, 2))
	checkCounts(t, d, 0, 4)
	checkTold(t, d, made(1, 1, 1), made(1, 1, 1), made(1, 2, 2, 1, 1), made(1, 3, 3, 1, 2), made(2, 1, 9, 1, 3), made(3, 1, 9, 1, 2))
	m.deliver(made(1, 1, 1))
	check(t, "all", d, m)
}

// P13.2: of those that are Ready the least by ops.Less is taken in first: by Time, by Act, and also where it became Ready later than others.
func TestLeastFirst(t *testing.T) {
	first := made(5, 1, 1)
	// In the order in which they have to be taken in.
	l := []api.Op{
		made(4, 1, 2, 5, 1), made(9, 1, 3, 4, 1), made(1, 1, 5, 5, 1), made(2, 1, 5, 5, 1), made(9, 2, 5, 5, 1, 9, 1), made(3, 1, 6, 9, 2), made(5, 2, 6, 5, 1), made(6, 1, 6, 1, 1), made(8, 1, 7, 5, 1), made(4, 2, 8, 4, 1), made(7, 1, 1<<40, 5, 1),
	}
	for shift := range l {
		d := doc.New()
		for _, o := range slices.Concat(l[shift:], l[:shift]) {
			checkTold(t, d, o)
		}
		checkTold(t, d, first, slices.Concat([]api.Op{first}, l)...)
		back := doc.New()
		for i := range l {
			checkTold(t, back, l[(shift+len(l)-i)%len(l)])
		}
		checkTold(t, back, first, slices.Concat([]api.Op{first}, l)...)
	}
}

// P13.2: what is taken in by one has nothing of what was taken in earlier, or still waits.
func TestTakenInThereby(t *testing.T) {
	l := chain(9)
	d := doc.New()
	checkTold(t, d, l[0], l[0])
	checkTold(t, d, l[2])
	checkTold(t, d, l[5])
	checkTold(t, d, l[1], l[1], l[2])
	checkTold(t, d, l[8])
	checkTold(t, d, l[4])
	checkTold(t, d, l[3], l[3], l[4], l[5])
	checkTold(t, d, made(2, 1, 1), made(2, 1, 1))
	checkTold(t, d, l[6], l[6])
	checkTold(t, d, l[7], l[7], l[8])
}

// P13.2: one that is told and is late: ErrOp, and nothing changes; the same Id with a later Time is taken in.
func TestLate(t *testing.T) {
	l := chain(5)
	d, m := of(t, append(l, made(2, 1, 9))...)
	for _, o := range []api.Op{
		put(1, 6, 5, dot(1, 1), none, 'x', 1, 5), put(1, 6, 1, dot(1, 1), none, 'x', 1, 5), made(3, 1, 1, 1, 1), made(3, 1, 4, 1, 5), made(3, 1, 5, 1, 5), made(3, 1, 9, 1, 1, 2, 1), made(3, 1, 8, 1, 5, 2, 1), taken(2, 2, 9, dot(1, 1), dot(1, 2), 1, 2, 2, 1), moved(3, 1, 3, dot(1, 1), trash, 1, 3),
	} {
		for range 2 {
			checkRefused(t, d, m, o, api.ErrOp)
			m.deliver(o)
			check(t, "late", d, m)
		}
	}
	for _, o := range []api.Op{put(1, 6, 6, dot(1, 1), none, 'x', 1, 5), made(3, 1, 10, 1, 1, 2, 1), made(4, 1, 1), made(5, 1, 2, 1, 1)} {
		checkTold(t, d, o, o)
		m.deliver(o)
		check(t, "just not late", d, m)
	}
}

// P13.2: one that waited and is late is thrown away: it no longer waits, what is behind it still does; told again it is ErrOp, and one of that Id that isn't late is taken in.
func TestLateWaited(t *testing.T) {
	late, behind := made(2, 1, 7, 1, 1), made(2, 2, 20, 2, 1)
	d, m := of(t, late, behind, made(3, 1, 30, 2, 1), made(4, 1, 8, 1, 1))
	checkCounts(t, d, 0, 4)
	checkTold(t, d, made(1, 1, 7), made(1, 1, 7), made(4, 1, 8, 1, 1))
	m.deliver(made(1, 1, 7))
	check(t, "thrown away", d, m)
	checkCounts(t, d, 2, 2)
	for range 2 {
		checkRefused(t, d, m, late, api.ErrOp)
	}
	right := made(2, 1, 9, 1, 1)
	checkTold(t, d, right, right, behind, made(3, 1, 30, 2, 1))
	m.deliver(right)
	check(t, "another one of that Id", d, m)
	checkCounts(t, d, 5, 0)
	checkRefused(t, d, m, late, api.ErrTwice)
}

// P13.2: several that waited are late, one behind the other, and in between others that aren't.
func TestLateBetween(t *testing.T) {
	d, m := of(t,
		made(2, 1, 5, 1, 1), made(3, 1, 6, 1, 1), made(4, 1, 4, 1, 1), made(5, 1, 5, 1, 1), made(6, 1, 6, 3, 1), made(6, 2, 8, 6, 1), made(7, 1, 7, 3, 1), made(8, 1, 7, 7, 1), made(9, 1, 9, 5, 1))
	checkTold(t, d, made(1, 1, 5), made(1, 1, 5), made(3, 1, 6, 1, 1), made(7, 1, 7, 3, 1))
	m.deliver(made(1, 1, 5))
	check(t, "late between others", d, m)
	if got := ids(d.Waiting()); !slices.Equal(got, []api.Dot{dot(6, 2), dot(9, 1)}) {
		t.Errorf("%v wait", got)
	}
	for _, o := range []api.Op{made(2, 1, 5, 1, 1), made(4, 1, 4, 1, 1), made(5, 1, 5, 1, 1), made(6, 1, 6, 3, 1), made(8, 1, 7, 7, 1)} {
		checkRefused(t, d, m, o, api.ErrOp)
	}
}

// P13.2: one that is late isn't Applied, and neither is one that waits.
func TestNotApplied(t *testing.T) {
	l := chain(4)
	d, m := of(t, l...)
	shown := d.Show()
	tell(t, d, m, moved(1, 5, 4, dot(1, 1), trash, 1, 4), put(1, 6, 9, dot(1, 1), none, 'x', 1, 5), moved(2, 2, 9, dot(1, 1), trash, 1, 4, 2, 1), put(3, 2, 9, dot(9, 9), none, 'x', 3, 1, 9, 9))
	check(t, "neither is", d, m)
	if d.Show() != shown || shown != "- abc\n" || d.State().Chars(dot(9, 9)) != nil {
		t.Errorf("it is shown as %q, and was as %q", d.Show(), shown)
	}
}

// P13.2: Deps that are many, and waited for one by one.
func TestManyDeps(t *testing.T) {
	wide := made(1000, 1, 1001)
	for act := range 300 {
		wide.Deps = append(wide.Deps, dot(act, 1))
	}
	d := doc.New()
	checkTold(t, d, wide)
	for i := range 299 {
		act := i * 7 % 300
		checkTold(t, d, made(act, 1, 1+act), made(act, 1, 1+act))
	}
	checkCounts(t, d, 299, 1)
	checkTold(t, d, made(299*7%300, 1, 9), made(299*7%300, 1, 9), wide)
}

// P13.2: the greatest Act, Seq and Time that may be.
func TestGreatest(t *testing.T) {
	top := made(api.MaxActor-1, 1, api.MaxTime)
	far := made(1, api.MaxSeq, api.MaxTime, 1, api.MaxSeq-1)
	d, m := of(t, far, top)
	checkCounts(t, d, 1, 1)
	if d.Time() != api.MaxTime || !slices.Equal(d.Version(), vec(api.MaxActor-1, 1)) {
		t.Errorf("Time is %d, Version %v", d.Time(), d.Version())
	}
	checkRefused(t, d, m, made(1, api.MaxSeq+1, api.MaxTime, 1, api.MaxSeq), api.ErrOp)
	checkRefused(t, d, m, made(api.MaxActor, 1, 1), api.ErrOp)
	checkRefused(t, d, m, made(3, 1, api.MaxTime, api.MaxActor-1, 1), api.ErrOp)
}
