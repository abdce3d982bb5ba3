package snap_test

import (
	"reflect"
	"slices"
	"strconv"
	"strings"
	"testing"

	"osier/api"
	"osier/branch"
	"osier/disk"
	"osier/frame"
	"osier/num"
	"osier/ops"
	"osier/snap"
)

// The calls, with just the signatures that the chapter lists.
var (
	_ func(b *branch.Branches) []byte                                  = snap.Put
	_ func(replica int, b []byte) (*branch.Branches, api.Errno)        = snap.Take
	_ func(d *disk.Disk, name string, gen int, b []byte) api.Errno     = snap.Save
	_ func(d *disk.Disk, name string) (gen int, b []byte, e api.Errno) = snap.Load
)

// plenty is more bytes than any file of these tests has, but for those of the greatest bodies.
const plenty = 1 << 20

var none, root, trash = api.Dot{}, api.Root(), api.Trash()

// dot is the dot act.seq.
func dot(act, seq int) api.Dot { return api.Dot{Act: act, Seq: seq} }

// vec is a vector of Acts and Seqs, by turns.
func vec(n ...int) api.Vector {
	var v api.Vector
	for i := 0; i+1 < len(n); i += 2 {
		v = append(v, dot(n[i], n[i+1]))
	}
	return v
}

// made is the making of a block under Root, with Deps of Acts and Seqs, by turns.
func made(act, seq, time int, deps ...int) api.Op {
	return moved(act, seq, time, dot(act, seq), root, deps...)
}

// moved is a move of a block.
func moved(act, seq, time int, block, parent api.Dot, deps ...int) api.Op {
	return api.Op{Id: dot(act, seq), Time: time, Deps: vec(deps...), Kind: api.Move, Block: block, Parent: parent, Key: "n"}
}

// put is a character that is put into a block, at the right side of another one.
func put(act, seq, time int, block, at api.Dot, char int, deps ...int) api.Op {
	return api.Op{Id: dot(act, seq), Time: time, Deps: vec(deps...), Kind: api.Insert, Block: block, At: at, Side: api.Right, Char: char}
}

// taken is a character that is taken out of a block's sight.
func taken(act, seq, time int, block, at api.Dot, deps ...int) api.Op {
	return api.Op{Id: dot(act, seq), Time: time, Deps: vec(deps...), Kind: api.Delete, Block: block, At: at}
}

// newAt are the branches of a replica.
func newAt(t *testing.T, replica int) *branch.Branches {
	t.Helper()
	b, e := branch.New(replica)
	if e != api.OK {
		t.Fatalf("New of %d: error %d", replica, e)
	}
	return b
}

// fork makes a branch of all that another one has.
func fork(t *testing.T, b *branch.Branches, name, from string) {
	t.Helper()
	must(t, "Fork of "+name, b.Fork(name, from, b.Doc(from).Version()))
}

// deliver tells a branch operations, none of which is refused.
func deliver(t *testing.T, b *branch.Branches, name string, l ...api.Op) {
	t.Helper()
	for _, o := range l {
		if _, e := b.Deliver(name, o); e != api.OK {
			t.Fatalf("Deliver of %v at %d to %q: error %d", o.Id, o.Time, name, e)
		}
	}
}

// edit does an edit of a user: the identity of the first operation that is issued.
func edit(t *testing.T, b *branch.Branches, name, user string, e api.Edit) api.Dot {
	t.Helper()
	l, err := b.Edit(name, user, e)
	if err != api.OK || len(l) == 0 {
		t.Fatalf("Edit of %q: %d operations, error %d", name, len(l), err)
	}
	return l[0].Id
}

// creating and writing are edits.
func creating(parent api.Dot, index int) api.Edit {
	return api.Edit{Kind: api.EditCreate, Parent: parent, Index: index}
}

func writing(block api.Dot, index int, text string) api.Edit {
	return api.Edit{Kind: api.EditInsert, Block: block, Index: index, Text: text}
}

// must does calls that answer no error.
func must(t *testing.T, what string, l ...api.Errno) {
	t.Helper()
	for i, e := range l {
		if e != api.OK {
			t.Fatalf("%s: call %d: error %d", what, i, e)
		}
	}
}

// repeated is a text so many times.
func repeated(s string, n int) string { return strings.Repeat(s, n) }

// fixture is branches, and what they are for.
type fixture struct {
	what string
	b    *branch.Branches
}

// fixtures are branches of many kinds.
func fixtures(t *testing.T) []fixture {
	t.Helper()
	return []fixture{
		{"fresh", newAt(t, 3)},
		{"edited", edited(t)},
		{"out of order", outOfOrder(t)},
		{"waiting", waiting(t)},
		{"several", several(t)},
		{"many", many(t)},
		{"long names", longNames(t)},
		{"told by its document", toldByDoc(t)},
		{"late ones thrown away", thrownAway(t)},
	}
}

// edited are branches whose users did all that one can do.
func edited(t *testing.T) *branch.Branches {
	b := newAt(t, 3)
	one := edit(t, b, "main", "u", creating(root, 0))
	two := edit(t, b, "main", "v", creating(one, 0))
	edit(t, b, "main", "u", writing(two, 0, "aé€😀"))
	edit(t, b, "main", "v", writing(one, 0, repeated("x", 150)))
	edit(t, b, "main", "u", api.Edit{Kind: api.EditDelete, Block: two, Index: 1, Count: 2})
	edit(t, b, "main", "v", api.Edit{Kind: api.EditMove, Block: two, Parent: root, Index: 0})
	edit(t, b, "main", "u", api.Edit{Kind: api.EditTrash, Block: one})
	for _, call := range []func(name, user string) ([]api.Op, api.Errno){b.Undo, b.Redo, b.Undo} {
		if _, e := call("main", "u"); e != api.OK {
			t.Fatalf("error %d", e)
		}
	}
	return b
}

// chain are operations of several actors: all that a document can have, each kind of them, by ops.Less.
func chain() []api.Op {
	return []api.Op{
		made(1, 1, 1), made(2, 1, 1), made(70000, 1, 1),
		put(1, 2, 2, dot(2, 1), none, 'a', 1, 1, 2, 1),
		moved(2, 2, 2, dot(2, 1), dot(1, 1), 1, 1, 2, 1),
		moved(70000, 2, 2, dot(1, 1), dot(2, 1), 1, 1, 2, 1, 70000, 1),
		taken(1, 3, 3, dot(2, 1), dot(1, 2), 1, 2, 2, 1),
		{Id: dot(2, 3), Time: 3, Deps: vec(1, 2, 2, 2), Kind: api.Insert, Block: dot(2, 1), At: dot(1, 2), Side: api.Left, Char: api.MaxChar},
		moved(70000, 3, 1<<40, dot(2, 1), trash, 1, 3, 2, 3, 70000, 2),
	}
}

// outOfOrder are branches that are told operations the last one first.
func outOfOrder(t *testing.T) *branch.Branches {
	b := newAt(t, 0)
	l := chain()
	slices.Reverse(l)
	deliver(t, b, "main", l...)
	if got := b.Doc("main").Ops(); len(got) != len(l) {
		t.Fatalf("%d of %d operations are taken in", len(got), len(l))
	}
	return b
}

// waiting are branches with operations that wait, some of which lack others that wait, and whose times are below those of what was taken in.
func waiting(t *testing.T) *branch.Branches {
	b := newAt(t, 5)
	deliver(t, b, "main", made(9, 1, 50), made(8, 2, 7, 8, 1), made(7, 3, 90, 7, 2), made(7, 2, 3, 7, 1), made(6, 2, 7, 6, 1), put(9, 2, 51, dot(7, 1), none, 'x', 7, 1, 9, 1))
	if in, left := len(b.Doc("main").Ops()), len(b.Doc("main").Waiting()); in != 1 || left != 5 {
		t.Fatalf("%d are taken in, %d wait", in, left)
	}
	return b
}

// several are branches of other branches, whose names are in no order of texts, one of which has nothing, and some of which have operations that wait.
func several(t *testing.T) *branch.Branches {
	b := newAt(t, 3)
	must(t, "empty", b.Fork("z", "main", nil))
	one := edit(t, b, "main", "u", creating(root, 0))
	fork(t, b, "B", "main")
	edit(t, b, "B", "u", writing(one, 0, "in B"))
	fork(t, b, "a", "B")
	edit(t, b, "main", "v", writing(one, 0, "in main"))
	edit(t, b, "a", "v", creating(one, 0))
	deliver(t, b, "B", made(4, 2, 2, 4, 1), made(4, 3, 3, 4, 2))
	deliver(t, b, "a", made(4, 3, 3, 4, 2), made(5, 1, 1))
	if _, e := b.Merge("B", "main"); e != api.OK {
		t.Fatalf("Merge: error %d", e)
	}
	must(t, "only empty", b.Fork("0", "main", nil))
	deliver(t, b, "0", made(4, 2, 2, 4, 1))
	return b
}

// many are as many branches as there may be.
func many(t *testing.T) *branch.Branches {
	b := newAt(t, api.MaxReplicas-1)
	for i := 1; i < api.MaxBranches; i++ {
		must(t, "many", b.Fork("b"+strconv.Itoa(i*7%256), "main", nil))
	}
	for i, name := range b.Names() {
		if i%3 == 0 {
			deliver(t, b, name, made(i, 1, 1), made(1000+i, 2, 2, 1000+i, 1))
		}
	}
	return b
}

// longNames are branches whose names are of any length, and of all bytes that one can have.
func longNames(t *testing.T) *branch.Branches {
	b := newAt(t, 1)
	for n := 1; n <= api.MaxName; n++ {
		must(t, "long names", b.Fork(repeated("-", n), "main", nil))
	}
	for _, name := range []string{"abcdefghijklmnopqrstuvwxyz", "ABCDEFGHIJKLMNOPQRSTUVWXYZ", "0123456789", "Main", "MAIN", "main-", "m"} {
		fork(t, b, name, "main")
	}
	return b
}

// toldByDoc are branches whose documents are told operations behind their backs.
func toldByDoc(t *testing.T) *branch.Branches {
	b := newAt(t, 2)
	must(t, "a", b.Fork("a", "main", nil))
	for _, o := range chain() {
		for _, name := range b.Names() {
			if _, e := b.Doc(name).Deliver(o); e != api.OK {
				t.Fatalf("Deliver: error %d", e)
			}
		}
	}
	return b
}

// thrownAway are branches that threw operations away as late, so that others wait for ever.
func thrownAway(t *testing.T) *branch.Branches {
	b := newAt(t, 2)
	deliver(t, b, "main", made(2, 1, 5, 1, 1), made(2, 2, 9, 2, 1), made(1, 1, 5), made(3, 1, 6, 1, 1))
	if in, left := len(b.Doc("main").Ops()), len(b.Doc("main").Waiting()); in != 2 || left != 1 {
		t.Fatalf("%d are taken in, %d wait", in, left)
	}
	return b
}

// look is all that is seen of a branch, in memory of its own.
type look struct {
	name                  string
	actor                 int
	version, ops, waiting any
	time                  int
	shown                 string
	thrown                []api.Line
}

// seen is all that is seen of branches.
func seen(b *branch.Branches) []look {
	var out []look
	for _, name := range b.Names() {
		actor, _ := b.Actor(name)
		d := b.Doc(name)
		out = append(out, look{
			name: name, actor: actor, version: append(api.Vector{}, d.Version()...), ops: plain(d.Ops()), waiting: plain(d.Waiting()),
			time: d.Time(), shown: d.Show(), thrown: append([]api.Line{}, d.State().Lines(trash)...),
		})
	}
	return out
}

// seenAt is the same at another replica.
func seenAt(replica int, b *branch.Branches) []look {
	out := seen(b)
	for i := range out {
		out[i].actor = 256*replica + i
	}
	return out
}

// plain is a row in which nil and empty lists are one.
func plain(l []api.Op) []api.Op {
	out := append([]api.Op{}, l...)
	for i, o := range out {
		out[i].Deps = append(api.Vector{}, o.Deps...)
	}
	return out
}

// checkTaken takes branches, and looks what is seen of them.
func checkTaken(t *testing.T, what string, replica int, b []byte, want []look) *branch.Branches {
	t.Helper()
	got, e := snap.Take(replica, b)
	if e != api.OK || got == nil {
		t.Fatalf("%s: Take at %d: error %d", what, replica, e)
	}
	if !reflect.DeepEqual(seen(got), want) {
		t.Fatalf("%s: Take at %d is\n%+v, not\n%+v", what, replica, seen(got), want)
	}
	return got
}

// checkNot looks that bytes are no branches, by an error.
func checkNot(t *testing.T, what string, b []byte, want api.Errno) {
	t.Helper()
	for _, replica := range []int{0, 3, api.MaxReplicas - 1} {
		if got, e := snap.Take(replica, b); got != nil || e != want {
			t.Errorf("%s: Take at %d: branches %v, error %d, not %d", what, replica, got != nil, e, want)
		}
	}
}

// uints are the bytes of numbers, one behind the other.
func uints(l ...int) string {
	var out []byte
	for _, n := range l {
		out = num.Uint(out, uint64(n))
	}
	return string(out)
}

// text is a text's bytes.
func text(s string) string { return string(num.Text(nil, s)) }

// row is the bytes of how many operations there are, and of each.
func row(l ...api.Op) string {
	out := []string{uints(len(l))}
	for _, o := range l {
		out = append(out, string(ops.Put(nil, o)))
	}
	return strings.Join(out, "")
}

// put1 is the bytes of a branch.
func put1(name string, in, left []api.Op) string { return text(name) + row(in...) + row(left...) }

// putAll is the bytes of branches.
func putAll(l ...string) []byte { return []byte(uints(len(l)) + strings.Join(l, "")) }

// byWords is the bytes of branches by the words of the chapter.
func byWords(b *branch.Branches) []byte {
	var l []string
	for _, name := range b.Names() {
		l = append(l, put1(name, byLess(b.Doc(name).Ops()), byLess(b.Doc(name).Waiting())))
	}
	return putAll(l...)
}

// byLess is a row by ops.Less.
func byLess(l []api.Op) []api.Op {
	slices.SortFunc(l, func(a, b api.Op) int {
		if ops.Less(a, b) {
			return -1
		}
		return 1
	})
	return l
}

// framed is a body's frame.
func framed(t *testing.T, body string) string {
	t.Helper()
	b, e := frame.Frame([]byte(body))
	if e != api.OK {
		t.Fatalf("Frame of %d bytes: error %d", len(body), e)
	}
	return string(b)
}

// saved is the bytes of a file that is saved.
func saved(t *testing.T, gen int, b string) string {
	t.Helper()
	return framed(t, string(num.Int(nil, gen))+b)
}

// holding is a disk with a file of these bytes, all of them sure.
func holding(t *testing.T, name, bytes string) *disk.Disk {
	t.Helper()
	d := disk.New(plenty)
	must(t, "holding "+name, d.Append(name, []byte(bytes)), d.Sync(name))
	return d
}

// read is a file's bytes.
func read(t *testing.T, d *disk.Disk, name string) string {
	t.Helper()
	b, e := d.Read(name)
	if e != api.OK {
		t.Fatalf("Read of %q: error %d", name, e)
	}
	return string(b)
}

// files are all that a disk has, by names.
func files(t *testing.T, d *disk.Disk) map[string]string {
	t.Helper()
	out := map[string]string{}
	for _, name := range d.Names() {
		out[name] = read(t, d, name)
	}
	return out
}

// checkFiles looks whether a disk has just these files: names and bytes by turns.
func checkFiles(t *testing.T, what string, d *disk.Disk, l ...string) {
	t.Helper()
	want := map[string]string{}
	for i := 0; i+1 < len(l); i += 2 {
		want[l[i]] = l[i+1]
	}
	if got := files(t, d); !reflect.DeepEqual(got, want) {
		t.Errorf("%s: there is %q, not %q", what, got, want)
	}
}

// checkSure looks that all of a file is sure, by the power that goes off and on.
func checkSure(t *testing.T, what string, d *disk.Disk, name, want string) {
	t.Helper()
	turn(t, d)
	if got := read(t, d, name); got != want {
		t.Errorf("%s: of %q %q is sure, not %q", what, name, got, want)
	}
}

// turn has the power go off, with nothing kept, and on.
func turn(t *testing.T, d *disk.Disk) {
	t.Helper()
	cut(t, d, 0, 0, 0)
	d.Remove("")
	d.On()
}

// cut is a Cut that isn't refused.
func cut(t *testing.T, d *disk.Disk, ops, part, keep int) {
	t.Helper()
	must(t, "Cut", d.Cut(ops, part, keep))
}

// operations is how many operations of a disk something does, which is told by when the power goes off behind it.
func operations(t *testing.T, d *disk.Disk, do func()) int {
	t.Helper()
	const many = 50
	cut(t, d, many, 0, plenty)
	do()
	left := 0
	for d.Remove("") != api.ErrPower {
		left++
	}
	d.On()
	return many - left
}

// save saves a text.
func save(d *disk.Disk, name string, gen int, b string) api.Errno {
	return snap.Save(d, name, gen, []byte(b))
}

// checkLoaded looks that a number and bytes are loaded.
func checkLoaded(t *testing.T, what string, d *disk.Disk, name string, gen int, b string) {
	t.Helper()
	n, got, e := snap.Load(d, name)
	if e != api.OK || n != gen || string(got) != b {
		t.Errorf("%s: Load of %q: %d, %q, error %d, not %d, %q", what, name, n, got, e, gen, b)
	}
}

// checkUnloaded looks that an error is told, and nothing loaded.
func checkUnloaded(t *testing.T, what string, d *disk.Disk, name string, want api.Errno) {
	t.Helper()
	if n, got, e := snap.Load(d, name); n != 0 || len(got) != 0 || e != want {
		t.Errorf("%s: Load of %q: %d, %q, error %d, not error %d", what, name, n, got, e, want)
	}
}

// P20: the chapter's examples.
func TestExamples(t *testing.T) {
	if got := snap.Put(newAt(t, 0)); string(got) != "\x01\x04main\x00\x00" {
		t.Errorf("Put of New's branches is %v", got)
	}
	d := disk.New(1000)
	must(t, "Save", save(d, "s", 1, "a"))
	cut(t, d, 2, 0, 0)
	if e := save(d, "s", 2, "b"); e != api.ErrPower {
		t.Errorf("Save: error %d", e)
	}
	d.On()
	checkLoaded(t, "cut at its Rename", d, "s", 1, "a")
}
