package branch_test

import (
	"math"
	"reflect"
	"slices"
	"testing"

	"osier/api"
	"osier/branch"
	"osier/doc"
	"osier/ops"
)

// The calls, with just the signatures that the chapter lists.
var (
	_ func(replica int) (*branch.Branches, api.Errno)                                 = branch.New
	_ func(b *branch.Branches, name, from string, v api.Vector) api.Errno             = (*branch.Branches).Fork
	_ func(b *branch.Branches) []string                                               = (*branch.Branches).Names
	_ func(b *branch.Branches, name string) *doc.Doc                                  = (*branch.Branches).Doc
	_ func(b *branch.Branches, name string) (int, bool)                               = (*branch.Branches).Actor
	_ func(b *branch.Branches, name, user string, e api.Edit) ([]api.Op, api.Errno)   = (*branch.Branches).Edit
	_ func(b *branch.Branches, name, user string) (issued []api.Op, err api.Errno)    = (*branch.Branches).Undo
	_ func(b *branch.Branches, name, user string) (again []api.Op, err api.Errno)     = (*branch.Branches).Redo
	_ func(b *branch.Branches, name string, o api.Op) (taken []api.Op, err api.Errno) = (*branch.Branches).Deliver
	_ func(b *branch.Branches, into, from string) (taken []api.Op, err api.Errno)     = (*branch.Branches).Merge
	_ func(name string) bool                                                          = branch.May
)

// dot is the dot act.seq.
func dot(act, seq int) api.Dot { return api.Dot{Act: act, Seq: seq} }

var none, root, trash = api.Dot{}, api.Root(), api.Trash()

// vec is a vector of Acts and Seqs, by turns.
func vec(n ...int) api.Vector {
	var v api.Vector
	for i := 0; i+1 < len(n); i += 2 {
		v = append(v, dot(n[i], n[i+1]))
	}
	return v
}

// made is the making of a block under Root, with Deps of Acts and Seqs, by turns.
func made(act, seq, time int, deps ...int) api.Op {
	return moved(act, seq, time, dot(act, seq), root, deps...)
}

// moved is a move of a block.
func moved(act, seq, time int, block, parent api.Dot, deps ...int) api.Op {
	return api.Op{Id: dot(act, seq), Time: time, Deps: vec(deps...), Kind: api.Move, Block: block, Parent: parent, Key: "n"}
}

// put is a character that is put into a block, at the right side of another one.
func put(act, seq, time int, block, at api.Dot, char int, deps ...int) api.Op {
	return api.Op{Id: dot(act, seq), Time: time, Deps: vec(deps...), Kind: api.Insert, Block: block, At: at, Side: api.Right, Char: char}
}

// taken is a character that is taken out of a block's sight.
func taken(act, seq, time int, block, at api.Dot, deps ...int) api.Op {
	return api.Op{Id: dot(act, seq), Time: time, Deps: vec(deps...), Kind: api.Delete, Block: block, At: at}
}

// creating, moving, throwing, writing and erasing are edits.
func creating(parent api.Dot, index int) api.Edit {
	return api.Edit{Kind: api.EditCreate, Parent: parent, Index: index}
}

func moving(block, parent api.Dot, index int) api.Edit {
	return api.Edit{Kind: api.EditMove, Block: block, Parent: parent, Index: index}
}

func throwing(block api.Dot) api.Edit { return api.Edit{Kind: api.EditTrash, Block: block} }

func writing(block api.Dot, index int, text string) api.Edit {
	return api.Edit{Kind: api.EditInsert, Block: block, Index: index, Text: text}
}

func erasing(block api.Dot, index, count int) api.Edit {
	return api.Edit{Kind: api.EditDelete, Block: block, Index: index, Count: count}
}

// newAt are the branches of a replica.
func newAt(t *testing.T, replica int) *branch.Branches {
	t.Helper()
	b, e := branch.New(replica)
	if e != api.OK || b == nil {
		t.Fatalf("New of %d: %v, error %d", replica, b, e)
	}
	return b
}

// must has what a call answers without an error.
func must(t *testing.T) func(l []api.Op, e api.Errno) []api.Op {
	return func(l []api.Op, e api.Errno) []api.Op {
		t.Helper()
		if e != api.OK {
			t.Fatalf("error %d", e)
		}
		return l
	}
}

// fork makes a branch of all that another one has.
func fork(t *testing.T, b *branch.Branches, name, from string) {
	t.Helper()
	if e := b.Fork(name, from, b.Doc(from).Version()); e != api.OK {
		t.Fatalf("Fork of %q from %q: error %d", name, from, e)
	}
}

// deliver tells a branch operations, none of which is refused.
func deliver(t *testing.T, b *branch.Branches, name string, l ...api.Op) {
	t.Helper()
	for _, o := range l {
		must(t)(b.Deliver(name, o))
	}
}

// ids are the identities of a row.
func ids(l []api.Op) []api.Dot {
	var out []api.Dot
	for _, o := range l {
		out = append(out, o.Id)
	}
	return out
}

// same tells whether two rows are the same.
func same(a, b []api.Op) bool { return slices.EqualFunc(a, b, ops.Same) }

// look is all that is seen of a document, in memory of its own.
type look struct {
	version, ops, waiting any
	time                  int
	shown                 string
	thrown                []api.Line
}

// lookAt looks at a document.
func lookAt(d *doc.Doc) look {
	return look{
		version: append(api.Vector{}, d.Version()...), ops: plain(d.Ops()), waiting: plain(d.Waiting()),
		time: d.Time(), shown: d.Show(), thrown: append([]api.Line{}, d.State().Lines(trash)...),
	}
}

// plain is a row in which nil and empty lists are one.
func plain(l []api.Op) []api.Op {
	out := append([]api.Op{}, l...)
	for i, o := range out {
		out[i].Deps = append(api.Vector{}, o.Deps...)
	}
	return out
}

// seen is all that is seen of branches: of each, by its number, its name, its actor and its document.
func seen(b *branch.Branches) []any {
	var out []any
	for _, name := range b.Names() {
		actor, there := b.Actor(name)
		out = append(out, name, actor, there, b.Doc(name), lookAt(b.Doc(name)))
	}
	return out
}

// checkStays looks that a call answers an error, and that nothing changes.
func checkStays(t *testing.T, what string, b *branch.Branches, want api.Errno, call func() ([]api.Op, api.Errno)) {
	t.Helper()
	was := seen(b)
	if got, e := call(); e != want || len(got) != 0 {
		t.Errorf("%s: %v, error %d, not error %d", what, ids(got), e, want)
	}
	if !reflect.DeepEqual(seen(b), was) {
		t.Errorf("%s: something changed", what)
	}
}

// first are the first ones of a row, as many as one can read.
func first(l []api.Dot) []api.Dot { return l[:min(len(l), 50)] }

// checkOps looks what a document took in, in the order of their times.
func checkOps(t *testing.T, what string, d *doc.Doc, l ...api.Op) {
	t.Helper()
	if !same(d.Ops(), l) {
		t.Errorf("%s: there are %d, %v.., not %d, %v..", what, len(d.Ops()), first(ids(d.Ops())), len(l), first(ids(l)))
	}
}

// notNames are texts that are no names.
func notNames() []string {
	return []string{"", " ", "a b", "a.b", "main ", "main\n", "\x00", "a_b", "é", "aé", "\xff", "x/y", string(make([]byte, 5)), "0123456789012345678901234567890ab", "ａ", "٣"}
}

// P17: the chapter's examples, and that of DOC.md.
func TestExamples(t *testing.T) {
	b := newAt(t, 3)
	first := must(t)(b.Edit("main", "u", creating(root, 0)))
	fork(t, b, "a", "main")
	second := must(t)(b.Edit("a", "u", creating(root, 0)))
	checkOps(t, "main shows the first alone", b.Doc("main"), first...)
	if b.Doc("main").Show() != "- \n" || b.Doc("a").Show() != "- \n- \n" {
		t.Errorf("shown is %q and %q", b.Doc("main").Show(), b.Doc("a").Show())
	}
	if got := must(t)(b.Merge("main", "a")); !same(got, second) {
		t.Errorf("merged is %v, not %v", ids(got), ids(second))
	}
	if b.Doc("main").Show() != b.Doc("a").Show() {
		t.Errorf("shown is %q and %q", b.Doc("main").Show(), b.Doc("a").Show())
	}
	fork(t, b, "b", "a")
	if actor, there := b.Actor("b"); actor != 770 || !there {
		t.Errorf("the actor of branch 2 at replica 3 is %d, %v", actor, there)
	}
}

// repeated is a byte so many times.
func repeated(c byte, n int) string {
	return string(slices.Repeat([]byte{c}, n))
}

// P17.1: names of 1 to 32 bytes; none of no byte, nor of 33 and more.
func TestMayLength(t *testing.T) {
	for n := range 100 {
		for _, c := range []byte("azAZ09-") {
			if got, want := branch.May(repeated(c, n)), n >= 1 && n <= 32; got != want {
				t.Errorf("May of %d times %q is %v", n, c, got)
			}
		}
	}
	for _, n := range []int{256, 257, 288, 1 << 16, 1<<16 + 1, 1 << 20} {
		if branch.May(repeated('a', n)) {
			t.Errorf("May of %d bytes", n)
		}
	}
	if !branch.May("main") || !branch.May("A-b-9") || !branch.May("--------------------------------") || !branch.May("0123456789abcdefghijklmnopqrstuv") {
		t.Error("a name is none")
	}
}

// P17.1: each byte that may stand in a name, and each that may not, alone, ahead, in the middle and at the end, in a short one and in the longest.
func TestMayBytes(t *testing.T) {
	const may = "-0123456789ABCDEFGHIJKLMNOPQRSTUVWXYZabcdefghijklmnopqrstuvwxyz"
	for n := range 256 {
		c := byte(n)
		want := slices.Contains([]byte(may), c)
		for _, around := range [][2]string{{"", ""}, {"", "a"}, {"a", ""}, {"a", "a"}, {repeated('z', 31), ""}, {"", repeated('Z', 31)}, {repeated('-', 16), repeated('0', 15)}} {
			name := around[0] + string([]byte{c}) + around[1]
			if branch.May(name) != want {
				t.Errorf("May of %q is %v", name, !want)
			}
		}
	}
	for _, name := range notNames() {
		if branch.May(name) {
			t.Errorf("May of %q", name)
		}
	}
}

// P17.1: replicas from 0 to below MaxReplicas: the branch main alone, with an empty document.
func TestNew(t *testing.T) {
	for _, replica := range []int{0, 1, 3, 255, 256, 257, 65534, api.MaxReplicas - 1} {
		b := newAt(t, replica)
		if got := b.Names(); !slices.Equal(got, []string{"main"}) {
			t.Errorf("the names at %d are %q", replica, got)
		}
		if actor, there := b.Actor("main"); actor != 256*replica || !there {
			t.Errorf("the actor at %d is %d, %v", replica, actor, there)
		}
		if d := b.Doc("main"); d == nil || !reflect.DeepEqual(lookAt(d), lookAt(doc.New())) {
			t.Errorf("the document at %d isn't empty", replica)
		}
		if made := must(t)(b.Edit("main", "u", creating(root, 0))); len(made) != 1 || made[0].Id != dot(256*replica, 1) || made[0].Time != 1 {
			t.Errorf("the first one at %d is %v", replica, made)
		}
	}
}

// P17.1: a replica below or beyond.
func TestNoReplica(t *testing.T) {
	for _, replica := range []int{-1, api.MaxReplicas, api.MaxReplicas + 1, -256, api.MaxActor, math.MaxInt, math.MinInt, 1 << 32, 1<<32 + 1} {
		if b, e := branch.New(replica); b != nil || e != api.ErrArg {
			t.Errorf("New of %d: %v, error %d", replica, b, e)
		}
	}
}

// P17.1: all branches of one New are apart from those of another one.
func TestNewApart(t *testing.T) {
	one, two := newAt(t, 1), newAt(t, 1)
	must(t)(one.Edit("main", "u", creating(root, 0)))
	fork(t, one, "a", "main")
	if len(two.Names()) != 1 || two.Doc("a") != nil || two.Doc("main") == one.Doc("main") || two.Doc("main").Show() != "" {
		t.Errorf("the other ones are %q, %q", two.Names(), two.Doc("main").Show())
	}
	if _, e := two.Undo("main", "u"); e != api.ErrEmpty {
		t.Errorf("Undo at the other ones: error %d", e)
	}
}

// P17.3: the names in the order in which they were made, not in any other one, in new memory.
func TestNames(t *testing.T) {
	b := newAt(t, 1)
	want := []string{"main"}
	for _, name := range []string{"z", "a", "M", "-", "Main", "0", "main-", "zz", "mai", repeated('x', 32)} {
		fork(t, b, name, want[len(want)/2])
		want = append(want, name)
		if got := b.Names(); !slices.Equal(got, want) {
			t.Fatalf("the names are %q, not %q", got, want)
		}
	}
	got := b.Names()
	_ = append(got[:2], "spoilt", "spoilt")
	clear(got[:cap(got)])
	fork(t, b, "late", "main")
	if got := b.Names(); !slices.Equal(got, append(want, "late")) {
		t.Errorf("whoever changes an answer changes the names: %q", got)
	}
	again := b.Names()
	fork(t, b, "later", "main")
	if !slices.Equal(again, append(want, "late")) {
		t.Errorf("an answer changes with a Fork: %q", again)
	}
}

// P17.3: each branch has a document of its own, which is the one that changes; nil, where there is none.
func TestDoc(t *testing.T) {
	b := newAt(t, 1)
	fork(t, b, "a", "main")
	fork(t, b, "A", "a")
	docs := []*doc.Doc{b.Doc("main"), b.Doc("a"), b.Doc("A")}
	if docs[0] == docs[1] || docs[0] == docs[2] || docs[1] == docs[2] {
		t.Fatal("two branches have one document")
	}
	must(t)(docs[1].Deliver(made(9, 1, 4)))
	must(t)(b.Edit("A", "u", creating(root, 0)))
	deliver(t, b, "main", made(8, 1, 1))
	for i, name := range b.Names() {
		if b.Doc(name) != docs[i] {
			t.Errorf("the document of %q is another one than before", name)
		}
	}
	checkOps(t, "main", docs[0], made(8, 1, 1))
	checkOps(t, "a", docs[1], made(9, 1, 4))
	if got := ids(docs[2].Ops()); !slices.Equal(got, []api.Dot{dot(258, 1)}) {
		t.Errorf("A has %v", got)
	}
	for _, name := range append(notNames(), "b", "Main", "mai", "main-", "aa") {
		if b.Doc(name) != nil {
			t.Errorf("there is a document of %q", name)
		}
	}
}

// P17.3: each branch has an actor of its own, by its number; 0, false, where there is none.
func TestActor(t *testing.T) {
	b := newAt(t, 5)
	for i, name := range []string{"main", "z", "a", "M", "0"} {
		if i > 0 {
			fork(t, b, name, "main")
		}
		if actor, there := b.Actor(name); actor != 5*256+i || !there {
			t.Errorf("the actor of %q is %d, %v", name, actor, there)
		}
	}
	for i, name := range b.Names() {
		if actor, there := b.Actor(name); actor != 5*256+i || !there {
			t.Errorf("the actor of %q is %d, %v then", name, actor, there)
		}
	}
	for _, name := range append(notNames(), "b", "Main", "mai", "main-", "Z") {
		if actor, there := b.Actor(name); actor != 0 || there {
			t.Errorf("the actor of %q is %d, %v", name, actor, there)
		}
	}
}

// P17.3, rule 1: of branches that are just declared there is none, and each call answers.
func TestDeclared(t *testing.T) {
	var b branch.Branches
	if e := b.Fork("a", "main", nil); e != api.ErrName {
		t.Errorf("Fork: error %d", e)
	}
	for _, call := range []func() ([]api.Op, api.Errno){
		func() ([]api.Op, api.Errno) { return b.Edit("main", "u", creating(root, 0)) },
		func() ([]api.Op, api.Errno) { return b.Undo("main", "u") },
		func() ([]api.Op, api.Errno) { return b.Redo("main", "u") },
		func() ([]api.Op, api.Errno) { return b.Deliver("main", made(1, 1, 1)) },
		func() ([]api.Op, api.Errno) { return b.Merge("main", "main") },
	} {
		if l, e := call(); e != api.ErrName || len(l) != 0 {
			t.Errorf("%v, error %d", l, e)
		}
	}
	if actor, there := b.Actor("main"); actor != 0 || there || b.Doc("main") != nil || len(b.Names()) != 0 {
		t.Errorf("there is %d, %v, %q", actor, there, b.Names())
	}
}

// P17.6: each call of nil, whatever is handed in.
func TestNil(t *testing.T) {
	var b *branch.Branches
	for _, name := range append(notNames(), "main", "a") {
		for _, other := range []string{"", "main", "a", "a b"} {
			for _, v := range []api.Vector{nil, vec(1, 1), vec(0, 0)} {
				if e := b.Fork(name, other, v); e != api.ErrArg {
					t.Errorf("Fork: error %d", e)
				}
			}
			for _, call := range []func() ([]api.Op, api.Errno){
				func() ([]api.Op, api.Errno) { return b.Edit(name, other, creating(root, 0)) },
				func() ([]api.Op, api.Errno) { return b.Edit(name, other, api.Edit{}) },
				func() ([]api.Op, api.Errno) { return b.Undo(name, other) },
				func() ([]api.Op, api.Errno) { return b.Redo(name, other) },
				func() ([]api.Op, api.Errno) { return b.Merge(name, other) },
			} {
				if l, e := call(); e != api.ErrArg || len(l) != 0 {
					t.Errorf("of nil: %v, error %d", l, e)
				}
			}
		}
		for _, o := range []api.Op{{}, made(1, 1, 1)} {
			if l, e := b.Deliver(name, o); e != api.ErrArg || len(l) != 0 {
				t.Errorf("Deliver: %v, error %d", l, e)
			}
		}
		if actor, there := b.Actor(name); actor != 0 || there || b.Doc(name) != nil {
			t.Errorf("Actor and Doc of %q: %d, %v, %v", name, actor, there, b.Doc(name))
		}
	}
	if len(b.Names()) != 0 {
		t.Errorf("Names: %q", b.Names())
	}
}
