package snap_test

import (
	"bytes"
	"math"
	"reflect"
	"slices"
	"strconv"
	"testing"

	"osier/api"
	"osier/num"
	"osier/ops"
	"osier/snap"
)

// P20.2: branches of many kinds, at any replica: they show the same, and their actors are those of the replica that is asked for.
func TestTake(t *testing.T) {
	for _, f := range fixtures(t) {
		b := snap.Put(f.b)
		for _, replica := range []int{0, 3, 7, api.MaxReplicas - 1} {
			got := checkTaken(t, f.what, replica, b, seenAt(replica, f.b))
			if !bytes.Equal(snap.Put(got), b) {
				t.Errorf("%s: Put of what was taken is another one", f.what)
			}
		}
	}
}

// P20.2: a replica that there isn't, told ahead of all that is wrong with the bytes.
func TestTakeReplica(t *testing.T) {
	for _, replica := range []int{-1, -256, api.MaxReplicas, api.MaxReplicas + 1, math.MinInt, math.MaxInt} {
		for _, b := range [][]byte{nil, {}, {0}, {255}, putAll(), putAll(put1("main", nil, nil)), putAll(put1("no name", nil, nil)), append(putAll(put1("main", nil, nil)), 0)} {
			if got, e := snap.Take(replica, b); got != nil || e != api.ErrArg {
				t.Errorf("Take at %d of %v: branches %v, error %d", replica, b, got != nil, e)
			}
		}
	}
}

// P20.2: bytes cut off at every place.
func TestTakeShort(t *testing.T) {
	for _, f := range fixtures(t) {
		b := snap.Put(f.b)
		for n := range b {
			if len(b) > 3000 && n%7 > 0 {
				continue
			}
			if got, e := snap.Take(3, b[:n]); got != nil || e != api.ErrShort {
				t.Errorf("%s: the first %d of %d bytes: branches %v, error %d", f.what, n, len(b), got != nil, e)
			}
		}
	}
	checkNot(t, "nil", nil, api.ErrShort)
}

// P20.2: bytes behind, one or more, which may be branches themselves.
func TestTakeBehind(t *testing.T) {
	for _, f := range fixtures(t) {
		b := snap.Put(f.b)
		for _, behind := range [][]byte{{0}, {1}, {255}, b, {0, 0, 0}} {
			checkNot(t, f.what, slices.Concat(b, behind), api.ErrForm)
		}
	}
}

// P20.2: numbers in more bytes than they need: each count, the length of a name, and those of an operation.
func TestTakeLongNumbers(t *testing.T) {
	one := string(ops.Put(nil, made(1, 1, 1)))
	for what, s := range map[string]string{
		"branches":                 "\x80\x01" + put1("main", nil, nil),
		"branches in three bytes":  "\xc0\x00\x01" + put1("main", nil, nil),
		"branches in nine bytes":   "\xff\x00\x00\x00\x00\x00\x00\x00\x01" + put1("main", nil, nil),
		"a name's length":          "\x01\x80\x04main\x00\x00",
		"taken in":                 "\x01\x04main\x80\x01" + one + "\x00",
		"taken in, none":           "\x01\x04main\x80\x00\x00",
		"waits":                    "\x01\x04main\x00\x80\x01" + one,
		"waits, none":              "\x01\x04main\x00\x80\x00",
		"an Id":                    "\x01\x04main\x01\x80" + one + "\x00",
		"the second one's length":  "\x02" + put1("main", nil, nil) + "\x80\x01a\x00\x00",
		"a time":                   "\x01\x04main\x01" + one[:2] + "\x80" + one[2:] + "\x00",
		"ahead of bytes too short": "\x01\x04main\x80\x05",
	} {
		checkNot(t, what, []byte(s), api.ErrForm)
	}
}

// P20.2: counts of more than there can be behind them: of branches, of three bytes each, and of operations, of ten bytes each; they go ahead of what would be told of what is there.
func TestTakeCounts(t *testing.T) {
	odd := string(ops.Put(nil, made(1, 2, 1)))
	for what, s := range map[string]string{
		"no branches left":             "\x01",
		"two branches in five bytes":   "\x02\x00\x80\x05\x00\x00",
		"two of seven":                 uints(3) + "\x04main\x00\x00",
		"as many as no int is":         "\xff\xff\xff\xff\xff\xff\xff\xff\xff" + put1("main", nil, nil),
		"as many as the greatest int":  "\xff\x7f\xff\xff\xff\xff\xff\xff\xff" + put1("main", nil, nil),
		"a great name":                 "\x01\xff\xff\xff\xff\xff\xff\xff\xff\xffmain",
		"two operations in 19 bytes":   "\x01\x04main\x02" + odd + repeated("\x00", 19-len(odd)),
		"operations, as many as no":    "\x01\x04main\xff\x80\x00\x00\x00\x00\x00\x00\x01" + odd + "\x00",
		"one in nine bytes":            "\x01\x04main\x01\xff\xff\xff\xff\xff\xff\xff\xff\xff",
		"one that waits in nine bytes": "\x01\x04main\x00\x01\x80\x00\x00\x00\x00\x00\x00\x00\x00",
		"two that wait in 19 bytes":    "\x01\x04main\x00\x02" + odd + repeated("\x00", 19-len(odd)),
	} {
		checkNot(t, what, []byte(s), api.ErrShort)
	}
	// With just so many bytes, the branches and the operations are read.
	checkNot(t, "two branches in six bytes", []byte("\x02\x00\x80\x05\x00\x00\x00"), api.ErrForm)
	checkNot(t, "two operations in 20 bytes", []byte("\x01\x04main\x02"+odd+repeated("\x00", 20-len(odd))), api.ErrOp)
	checkNot(t, "one in ten bytes", []byte("\x01\x04main\x01\x80"+repeated("\x00", 9)), api.ErrForm)
	checkNot(t, "one that waits in ten bytes", []byte("\x01\x04main\x00\x01\x80"+repeated("\x00", 9)), api.ErrForm)
}

// wrong are operations that may not be.
func wrong() []api.Op {
	key, char := made(1, 1, 1), put(1, 2, 2, dot(1, 1), none, 'a', 1, 1)
	key.Key, char.Char = "", 0xd800
	return []api.Op{made(1, 2, 1), made(1, 1, 0), made(-1, 1, 1), made(api.MaxActor, 1, 1), made(1, 1, api.MaxTime+1), taken(1, 2, 2, dot(3, 1), dot(1, 1), 1, 1), key, char}
}

// P20.2: operations that may not be, and such as are of no kind, among those taken in and those that wait, of the first branch and of another one.
func TestTakeOps(t *testing.T) {
	good := made(1, 1, 1)
	for _, o := range wrong() {
		for _, l := range [][]api.Op{{o}, {good, o}, {o, good}} {
			checkNot(t, "taken in", putAll(put1("main", l, nil)), api.ErrOp)
			checkNot(t, "waits", putAll(put1("main", nil, l)), api.ErrOp)
			checkNot(t, "in another branch", putAll(put1("main", nil, nil), put1("a", l, nil)), api.ErrOp)
			checkNot(t, "waits in another branch", putAll(put1("main", nil, nil), put1("a", []api.Op{good}, l)), api.ErrOp)
		}
	}
	for _, kind := range []string{"\x00", "\x01", "\x03", "\x05", "\x08", "\x7f", "\x80\x80"} {
		b := "\x02\x02\x02\x00" + kind + "\x02\x02\x00\x01\x01n"
		checkNot(t, "no kind", []byte("\x01\x04main\x01"+b+"\x00"), api.ErrForm)
		checkNot(t, "no kind, waits", []byte("\x01\x04main\x00\x01"+b), api.ErrForm)
	}
	// Deps that are no vector.
	checkNot(t, "no vector", []byte("\x01\x04main\x01\x02\x04\x02\x01\x02\x00\x06\x02\x02\x00\x01\x01n\x00"), api.ErrForm)
}

// P20.2: the first error from the left is told, and that of num or ops ahead of all that is wrong else.
func TestTakeFirstError(t *testing.T) {
	bad, good := wrong()[0], made(1, 1, 1)
	for what, c := range map[string]struct {
		s    string
		want api.Errno
	}{
		"an operation, then too short":             {"\x01\x04main\x01" + string(ops.Put(nil, bad)), api.ErrOp},
		"an operation, then a long number":         {"\x01\x04main\x01" + string(ops.Put(nil, bad)) + "\x80\x00", api.ErrOp},
		"a long number, then an operation":         {"\x01\x04main\x80\x00\x01" + string(ops.Put(nil, bad)), api.ErrForm},
		"no kind, then an operation":               {"\x01\x04main\x02\x02\x02\x02\x00\x00\x02\x02\x00\x01\x01n" + string(ops.Put(nil, bad)) + "\x00", api.ErrForm},
		"an operation, then no kind":               {"\x01\x04main\x02" + string(ops.Put(nil, bad)) + "\x02\x02\x02\x00\x00\x02\x02\x00\x01\x01n\x00", api.ErrOp},
		"no name, then too short":                  {"\x02" + put1("no name", nil, nil) + "\x04main\x00", api.ErrShort},
		"no name, then an operation":               {string(putAll(put1("no name", nil, nil), put1("a", []api.Op{bad}, nil))), api.ErrOp},
		"no main one, then an operation":           {string(putAll(put1("a", []api.Op{bad}, nil))), api.ErrOp},
		"twice the same name, then too short":      {"\x03" + put1("main", nil, nil) + put1("main", nil, nil) + "\x01a\x00", api.ErrShort},
		"out of order, then an operation":          {string(putAll(put1("main", []api.Op{made(2, 1, 1), good}, []api.Op{bad}))), api.ErrOp},
		"one that is ready waits, then too short":  {"\x02" + put1("main", nil, []api.Op{good}) + "\x01a\x00", api.ErrShort},
		"an operation, then bytes behind":          {string(putAll(put1("main", []api.Op{bad}, nil))) + "\x00", api.ErrOp},
		"bytes behind, where names aren't right":   {string(putAll(put1("a", nil, nil))) + "\x00", api.ErrForm},
		"one wrong behind the end":                 {string(putAll(put1("main", nil, nil))) + string(ops.Put(nil, bad)), api.ErrForm},
		"too short, which a wrong name stands for": {"\x01\x05mai", api.ErrShort},
	} {
		checkNot(t, what, []byte(c.s), c.want)
	}
}

// P20.2: names that are none, and branches that lack the main one, that stand out of order, or twice.
func TestTakeNames(t *testing.T) {
	empty := func(names ...string) []byte {
		var l []string
		for _, name := range names {
			l = append(l, put1(name, nil, nil))
		}
		return putAll(l...)
	}
	for _, name := range []string{"", "a b", "a.b", "a_b", "é", "\xff", "main ", "snap.new", repeated("a", 33), repeated("a", 300)} {
		checkNot(t, "no name", empty("main", name), api.ErrForm)
		checkNot(t, "no name", empty("main", "a", name, "b"), api.ErrForm)
		checkNot(t, "no name, no main one", empty(name), api.ErrForm)
	}
	for _, names := range [][]string{
		nil, {"a"}, {"Main"}, {"main-"}, {"mai"}, {"a", "main"}, {"a", "b"}, {"a", "main", "b"}, {"main", "main"}, {"main", "a", "a"}, {"main", "a", "main"}, {"main", "a", "b", "a"}, {"main", "main", "main"},
	} {
		checkNot(t, "names", empty(names...), api.ErrForm)
	}
	for _, names := range [][]string{{"main"}, {"main", "b", "a"}, {"main", "a", "b"}, {"main", "A", "a", "Main"}} {
		got := checkTaken(t, "names", 3, empty(names...), seenEmpty(t, names))
		if !slices.Equal(got.Names(), names) {
			t.Errorf("the names are %q, not %q", got.Names(), names)
		}
	}
	// With operations in the one that stands twice, or in the one that is none.
	one := []api.Op{made(1, 1, 1)}
	checkNot(t, "twice", putAll(put1("main", one, nil), put1("main", one, nil)), api.ErrForm)
	checkNot(t, "twice", putAll(put1("main", one, nil), put1("a", nil, nil), put1("a", one, nil)), api.ErrForm)
	checkNot(t, "main is the second one", putAll(put1("a", one, nil), put1("main", one, nil)), api.ErrForm)
	checkNot(t, "no name", putAll(put1("main", one, nil), put1("a b", one, nil)), api.ErrForm)
}

// seenEmpty is what is seen of empty branches of these names.
func seenEmpty(t *testing.T, names []string) []look {
	t.Helper()
	b := newAt(t, 3)
	for _, name := range names[1:] {
		must(t, name, b.Fork(name, "main", nil))
	}
	return seen(b)
}

// P20.2: as many branches as there may be, and one more.
func TestTakeBranches(t *testing.T) {
	l := []string{put1("main", nil, nil)}
	for i := range api.MaxBranches {
		l = append(l, put1("b"+strconv.Itoa(i), []api.Op{made(i, 1, 1)}, nil))
	}
	if got, e := snap.Take(3, putAll(l[:api.MaxBranches]...)); e != api.OK || len(got.Names()) != api.MaxBranches {
		t.Errorf("error %d", e)
	}
	checkNot(t, "one more", putAll(l...), api.ErrForm)
}

// P20.2: operations that stand out of order, or twice, or that no document has so: under the wrong heading, late, or without those on which they lean.
func TestTakeHeadings(t *testing.T) {
	one, two, three := made(1, 1, 1), made(1, 2, 2, 1, 1), made(1, 3, 3, 1, 2)
	other, late := made(2, 1, 1), made(2, 1, 1, 1, 1)
	again := made(1, 1, 1)
	again.Key = "b"
	for what, c := range map[string][2][]api.Op{
		"out of order":                        {{two, one}, nil},
		"out of order, of one time":           {{other, one}, nil},
		"out of order, one not the other":     {{one, three, two}, nil},
		"twice":                               {{one, one}, nil},
		"twice, the second one another":       {{one, again}, nil},
		"waits out of order":                  {nil, {three, two}},
		"waits twice":                         {nil, {two, two}},
		"taken in and waits":                  {{one}, {one}},
		"taken in and waits, two":             {{one, two}, {two}},
		"taken in and waits, another":         {{one}, {again}},
		"waits among those taken in":          {{two}, nil},
		"waits among those taken in, too":     {{one, three}, nil},
		"ready among those that wait":         {nil, {one}},
		"ready among those that wait, too":    {{one}, {two}},
		"ready, and those that lean on it":    {nil, {one, two}},
		"ready, and one that isn't":           {{one}, {two, made(3, 2, 2, 3, 1)}},
		"ready behind one that isn't":         {{one}, {made(3, 2, 1, 3, 1), two}},
		"late among those taken in":           {{one, late}, nil},
		"late among those that wait":          {{one}, {late}},
		"all under the other heading":         {{two, three}, {one}},
		"the first one lacks":                 {{two, three}, nil},
		"one that leans on others isn't late": {{one, made(2, 1, 2, 1, 2)}, nil},
	} {
		checkNot(t, what, putAll(put1("main", c[0], c[1])), api.ErrForm)
		checkNot(t, what+", in another branch", putAll(put1("main", []api.Op{one, two, three}, nil), put1("a", c[0], c[1])), api.ErrForm)
	}
	for what, c := range map[string][2][]api.Op{
		"none":                      {nil, nil},
		"taken in":                  {{one, two, three}, nil},
		"wait":                      {nil, {two, three}},
		"both":                      {{one}, {three}},
		"of one time":               {{one, other, two}, {made(3, 2, 2, 3, 1)}},
		"another one of an Id":      {{again}, {three}},
		"late, but it waits for it": {{other}, {made(3, 1, 1, 1, 1)}},
	} {
		b := newAt(t, 3)
		deliver(t, b, "main", slices.Concat(c[0], c[1])...)
		checkTaken(t, what, 3, putAll(put1("main", c[0], c[1])), seen(b))
	}
}

// P20.2: as many operations as a document may have, and one more.
func TestTakeMostOps(t *testing.T) {
	var in, left []api.Op
	for i := range api.MaxOps + 1 {
		in = append(in, made(1, i+1, i+1, 1, i))
		left = append(left, made(2, i+2, i+2, 2, i+1))
	}
	in[0].Deps = nil
	for _, n := range []int{0, 5000, api.MaxOps} {
		b, e := snap.Take(3, putAll(put1("main", in[:n], left[:api.MaxOps-n])))
		if e != api.OK || len(b.Doc("main").Ops()) != n || len(b.Doc("main").Waiting()) != api.MaxOps-n {
			t.Errorf("%d are taken in: error %d", n, e)
		}
		checkTooMany(t, in[:n], left[:api.MaxOps-n+1])
	}
	checkTooMany(t, in, nil)
}

// checkTooMany looks that operations that may be are too many.
func checkTooMany(t *testing.T, in, left []api.Op) {
	t.Helper()
	if b, e := snap.Take(3, putAll(put1("main", in, left))); b != nil || e != api.ErrForm {
		t.Errorf("%d are taken in, %d wait: branches %v, error %d", len(in), len(left), b != nil, e)
	}
}

// P20.2: each byte of what was put is another one, or lacks, or is there once more: either it is what Put makes of other branches, or an error is told.
func TestTakeTurned(t *testing.T) {
	for _, f := range fixtures(t) {
		b := snap.Put(f.b)
		if len(b) > 3000 {
			continue
		}
		for i := range b {
			for _, bit := range []byte{1, 2, 4, 128} {
				c := bytes.Clone(b)
				c[i] ^= bit
				checkSome(t, f.what, c)
			}
			checkSome(t, f.what, slices.Concat(b[:i], b[i+1:]))
			checkSome(t, f.what, slices.Concat(b[:i+1], b[i:]))
		}
	}
}

// checkSome looks that bytes are what Put makes of what is taken, or no branches.
func checkSome(t *testing.T, what string, b []byte) {
	t.Helper()
	got, e := snap.Take(3, b)
	if got == nil != (e != api.OK) || got != nil && !bytes.Equal(snap.Put(got), b) {
		t.Errorf("%s: Take of %v: branches %v, error %d", what, b, got != nil, e)
	}
	if want := firstError(b); want != api.OK && e != want || e != api.OK && want == api.OK && e != api.ErrForm {
		t.Errorf("%s: Take of %v: error %d, not %d", what, b, e, want)
	}
}

// firstError is the first error of num and ops from the left; ErrForm, if there is none, and bytes are left.
func firstError(b []byte) api.Errno {
	r := num.Read(b)
	for range r.Count(3) {
		r.Text()
		for range 2 {
			for range r.Count(10) {
				ops.Take(r)
			}
		}
	}
	return r.End()
}

// P20.2: the bytes stay as they are, and aren't kept.
func TestTakeKeepsNothing(t *testing.T) {
	for _, f := range fixtures(t) {
		b := snap.Put(f.b)
		was := bytes.Clone(b)
		got := checkTaken(t, f.what, 3, b, seenAt(3, f.b))
		if !bytes.Equal(b, was) {
			t.Errorf("%s: the bytes were changed", f.what)
		}
		for i := range b {
			b[i] = 'x'
		}
		if !reflect.DeepEqual(seen(got), seenAt(3, f.b)) || !bytes.Equal(snap.Put(got), was) {
			t.Errorf("%s: the bytes are kept", f.what)
		}
	}
}

// P20.2: what is taken twice is apart, and apart from what was put.
func TestTakeApart(t *testing.T) {
	b := several(t)
	was := seen(b)
	one := checkTaken(t, "one", 3, snap.Put(b), was)
	two := checkTaken(t, "two", 3, snap.Put(b), was)
	edit(t, one, "main", "u", creating(root, 0))
	deliver(t, one, "B", made(4, 1, 1))
	must(t, "Fork", one.Fork("fresh", "a", one.Doc("a").Version()))
	if !reflect.DeepEqual(seen(b), was) || !reflect.DeepEqual(seen(two), was) || reflect.DeepEqual(seen(one), was) {
		t.Error("what is done at one is seen at another one")
	}
}

// P20.2: what is taken goes on as what was put: edits count on, what waits is taken in, forks find their numbers, and merges the same; stacks are empty.
func TestTakeGoesOn(t *testing.T) {
	b := several(t)
	got := checkTaken(t, "several", 3, snap.Put(b), seen(b))
	for _, name := range b.Names() {
		for _, user := range []string{"u", "v"} {
			if _, e := got.Undo(name, user); e != api.ErrEmpty {
				t.Errorf("Undo of %q at %q: error %d", user, name, e)
			}
			if _, e := got.Redo(name, user); e != api.ErrEmpty {
				t.Errorf("Redo of %q at %q: error %d", user, name, e)
			}
		}
		edit(t, b, name, "w", creating(root, 0))
		edit(t, got, name, "w", creating(root, 0))
	}
	for _, c := range [][2]string{{"main", "B"}, {"a", "main"}, {"0", "a"}} {
		in, e := b.Merge(c[0], c[1])
		in2, e2 := got.Merge(c[0], c[1])
		if e != e2 || !slices.EqualFunc(in, in2, ops.Same) {
			t.Errorf("Merge of %q: %v, error %d, not %v, error %d", c, in2, e2, in, e)
		}
	}
	deliver(t, b, "B", made(4, 1, 1))
	deliver(t, got, "B", made(4, 1, 1))
	fork(t, b, "fresh", "a")
	fork(t, got, "fresh", "a")
	edit(t, b, "fresh", "w", creating(root, 0))
	edit(t, got, "fresh", "w", creating(root, 0))
	if !reflect.DeepEqual(seen(got), seen(b)) {
		t.Errorf("it went on to\n%+v, not\n%+v", seen(got), seen(b))
	}
}
