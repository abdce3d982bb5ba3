package fugue_test

import (
	"math"
	"slices"
	"testing"

	"osier/api"
	"osier/dots"
	"osier/fugue"
)

// The calls, with just the signatures that the chapter lists.
var (
	_    func() *fugue.Text                                       = fugue.New
	_    func(t *fugue.Text, id, at api.Dot, s, c int) api.Errno  = (*fugue.Text).Insert
	_    func(t *fugue.Text, at api.Dot) api.Errno                = (*fugue.Text).Delete
	_, _ func(t *fugue.Text) int                                  = (*fugue.Text).Len, (*fugue.Text).Size
	_    func(t *fugue.Text) []int                                = (*fugue.Text).Chars
	_    func(t *fugue.Text) string                               = (*fugue.Text).String
	_, _ func(t *fugue.Text) []api.Dot                            = (*fugue.Text).Dots, (*fugue.Text).All
	_    func(t *fugue.Text, d api.Dot) (int, bool)               = (*fugue.Text).Index
	_    func(t *fugue.Text, d api.Dot) bool                      = (*fugue.Text).Seen
	_    func(t *fugue.Text, index int) (api.Dot, int, api.Errno) = (*fugue.Text).Place
)

// dot is the dot act.seq.
func dot(act, seq int) api.Dot { return api.Dot{Act: act, Seq: seq} }

// row is a row of dots, of Acts and Seqs by turns.
func row(n ...int) []api.Dot {
	var out []api.Dot
	for i := 0; i+1 < len(n); i += 2 {
		out = append(out, dot(n[i], n[i+1]))
	}
	return out
}

// odd are identities that no operation has; a text takes all but the empty one.
func odd() []api.Dot {
	return []api.Dot{
		api.Root(), api.Trash(), dot(1, 0), dot(-1, 1), dot(-1, 0), dot(api.MaxActor, 1), dot(1, api.MaxSeq+1),
		dot(math.MinInt, math.MinInt), dot(math.MaxInt, math.MaxInt), dot(0, math.MinInt), dot(1<<32, 0), dot(0, 1<<32),
	}
}

// put is a character as it is put in.
type put struct {
	id, at api.Dot
	side   int
	char   int
}

// at is a character that is put in at a side of another one, or of the root, which is 0.0.
func at(side, act, seq, aboveAct, aboveSeq, char int) put {
	return put{id: dot(act, seq), at: dot(aboveAct, aboveSeq), side: side, char: char}
}

// left and right are characters at a side of others.
func left(act, seq, aboveAct, aboveSeq, char int) put {
	return at(api.Left, act, seq, aboveAct, aboveSeq, char)
}

func right(act, seq, aboveAct, aboveSeq, char int) put {
	return at(api.Right, act, seq, aboveAct, aboveSeq, char)
}

// first is a character at the root.
func first(act, seq, char int) put { return right(act, seq, 0, 0, char) }

// slow is what a text has, told by the chapter's words: each question is a look at all of it.
type slow struct {
	puts []put
	gone map[api.Dot]bool
}

// tree is a character's tree, or the root's, in order.
func (s *slow) tree(top api.Dot, self []put) []put {
	var sides [2][]put
	for _, p := range s.puts {
		if p.at == top {
			sides[p.side] = append(sides[p.side], p)
		}
	}
	var out []put
	for side, l := range sides {
		slices.SortFunc(l, func(a, b put) int {
			if dots.Less(a.id, b.id) {
				return -1
			}
			return 1
		})
		for _, p := range l {
			out = append(out, s.tree(p.id, []put{p})...)
		}
		if side == api.Left {
			out = append(out, self...)
		}
	}
	return out
}

// all are all characters, in order.
func (s *slow) all() []put { return s.tree(api.Dot{}, nil) }

// seen are those that are seen, in order.
func (s *slow) seen() []put {
	return slices.DeleteFunc(s.all(), func(p put) bool { return s.gone[p.id] })
}

// has tells whether there is a character.
func (s *slow) has(d api.Dot) bool {
	return slices.ContainsFunc(s.puts, func(p put) bool { return p.id == d })
}

// insert puts a character in, or tells what is wrong.
func (s *slow) insert(p put) api.Errno {
	switch none := (api.Dot{}); {
	case p.id == none, p.side != api.Left && p.side != api.Right, p.at == none && p.side == api.Left:
		return api.ErrArg
	case s.has(p.id):
		return api.ErrTwice
	case p.at != none && !s.has(p.at):
		return api.ErrIndex
	}
	s.puts = append(s.puts, p)
	return api.OK
}

// remove takes a character out of sight, or tells what is wrong.
func (s *slow) remove(d api.Dot) api.Errno {
	if !s.has(d) {
		return api.ErrIndex
	}
	if s.gone == nil {
		s.gone = map[api.Dot]bool{}
	}
	s.gone[d] = true
	return api.OK
}

// index is how many are seen ahead of one.
func (s *slow) index(d api.Dot) (int, bool) {
	n := 0
	for _, p := range s.all() {
		if p.id == d {
			return n, true
		}
		if !s.gone[p.id] {
			n++
		}
	}
	return 0, false
}

// place is where one is put in that is to stand at an index.
func (s *slow) place(index int) (api.Dot, int, api.Errno) {
	seen, all := s.seen(), s.all()
	if index < 0 || index > len(seen) {
		return api.Dot{}, 0, api.ErrIndex
	}
	l, next := api.Dot{}, 0
	if index > 0 {
		l = seen[index-1].id
		next = 1 + slices.IndexFunc(all, func(p put) bool { return p.id == l })
	}
	if !slices.ContainsFunc(s.puts, func(p put) bool { return p.at == l && p.side == api.Right }) {
		return l, api.Right, api.OK
	}
	return all[next].id, api.Left, api.OK
}

// ids are the identities of characters.
func ids(l []put) []api.Dot {
	var out []api.Dot
	for _, p := range l {
		out = append(out, p.id)
	}
	return out
}

// chars are the chars of characters.
func chars(l []put) []int {
	var out []int
	for _, p := range l {
		out = append(out, p.char)
	}
	return out
}

// runes are chars as runes in a string.
func runes(l []int) string {
	var out []rune
	for _, c := range l {
		if c < 0 || c > 1114111 || c >= 55296 && c <= 57343 {
			c = 65533
		}
		out = append(out, rune(c))
	}
	return string(out)
}

// check looks at all that a text tells.
func check(t *testing.T, what string, x *fugue.Text, s *slow) {
	t.Helper()
	all, seen := s.all(), s.seen()
	if got := x.All(); !slices.Equal(got, ids(all)) {
		t.Fatalf("%s: All is %v, not %v", what, got, ids(all))
	}
	if got := x.Dots(); !slices.Equal(got, ids(seen)) {
		t.Fatalf("%s: Dots is %v, not %v", what, got, ids(seen))
	}
	if got := x.Chars(); !slices.Equal(got, chars(seen)) {
		t.Fatalf("%s: Chars is %v, not %v", what, got, chars(seen))
	}
	if got := x.String(); got != runes(chars(seen)) {
		t.Fatalf("%s: String is %q, not %q", what, got, runes(chars(seen)))
	}
	if x.Len() != len(seen) || x.Size() != len(all) {
		t.Fatalf("%s: Len is %d, not %d; Size is %d, not %d", what, x.Len(), len(seen), x.Size(), len(all))
	}
	checkEach(t, what, x, s)
	checkPlaces(t, what, x, s)
}

// checkEach looks at what a text tells of each character, and of such as there aren't.
func checkEach(t *testing.T, what string, x *fugue.Text, s *slow) {
	t.Helper()
	for _, d := range slices.Concat(ids(s.puts), odd(), row(0, 0, 77, 7)) {
		want, there := s.index(d)
		if n, ok := x.Index(d); n != want || ok != there {
			t.Fatalf("%s: Index of %v is %d, %v, not %d, %v", what, d, n, ok, want, there)
		}
		if got := x.Seen(d); got != (there && !s.gone[d]) {
			t.Fatalf("%s: Seen of %v is %v", what, d, got)
		}
	}
}

// checkPlaces looks at Place of all indexes, and of such as there aren't.
func checkPlaces(t *testing.T, what string, x *fugue.Text, s *slow) {
	t.Helper()
	n := len(s.seen())
	indexes := []int{math.MinInt, -2, -1, n + 1, n + 2, 1<<32 + n, math.MaxInt}
	for i := range n + 1 {
		indexes = append(indexes, i)
	}
	for _, i := range indexes {
		wantAt, wantSide, want := s.place(i)
		if at, side, e := x.Place(i); at != wantAt || side != wantSide || e != want {
			t.Fatalf("%s: Place(%d) is %v, %d, %d, not %v, %d, %d", what, i, at, side, e, wantAt, wantSide, want)
		}
	}
}

// insert puts a character into a text and into what it is held against, which must answer the same.
func insert(t *testing.T, x *fugue.Text, s *slow, p put) {
	t.Helper()
	want := s.insert(p)
	if e := x.Insert(p.id, p.at, p.side, p.char); e != want {
		t.Fatalf("Insert of %+v: error %d, not %d", p, e, want)
	}
}

// remove takes a character of a text out of sight, and of what it is held against, which must answer the same.
func remove(t *testing.T, x *fugue.Text, s *slow, d api.Dot) {
	t.Helper()
	want := s.remove(d)
	if e := x.Delete(d); e != want {
		t.Fatalf("Delete of %v: error %d, not %d", d, e, want)
	}
}

// of is a text of characters in this order, all of which can be put in, and what it is held against.
func of(t *testing.T, l ...put) (*fugue.Text, *slow) {
	t.Helper()
	x, s := fugue.New(), &slow{}
	for _, p := range l {
		if e := x.Insert(p.id, p.at, p.side, p.char); e != api.OK || s.insert(p) != api.OK {
			t.Fatalf("Insert of %+v: error %d", p, e)
		}
	}
	return x, s
}

// bush is a text with characters at both sides of the root's ones and of others, with some at each side that lie several at a side.
func bush() []put {
	return []put{
		first(2, 1, 'm'), first(1, 5, 'f'), first(3, 1, 't'), first(2, 9, 'q'),
		left(1, 1, 2, 1, 'j'), left(1, 7, 2, 1, 'l'), left(9, 1, 1, 7, 'k'), right(1, 2, 2, 1, 'n'), right(1, 3, 2, 1, 'o'), right(0, 8, 1, 3, 'p'),
		left(4, 1, 1, 5, 'c'), left(4, 2, 1, 5, 'd'), left(0, 1, 4, 1, 'b'), left(0, 2, 0, 1, 'a'), right(4, 3, 4, 2, 'e'),
		right(5, 5, 1, 5, 'h'), left(5, 6, 5, 5, 'g'), right(5, 7, 5, 5, 'i'), right(6, 1, 2, 9, 's'), left(6, 2, 6, 1, 'r'),
	}
}

// P9.4: all calls of nil.
func TestNil(t *testing.T) {
	var x *fugue.Text
	for _, d := range append(odd(), dot(0, 0), dot(1, 1)) {
		for _, side := range []int{api.Left, api.Right, -1, 2} {
			if e := x.Insert(d, dot(1, 1), side, 'a'); e != api.ErrArg {
				t.Errorf("Insert: error %d", e)
			}
			if e := x.Insert(dot(1, 1), d, side, 'a'); e != api.ErrArg {
				t.Errorf("Insert: error %d", e)
			}
		}
		if e := x.Delete(d); e != api.ErrArg {
			t.Errorf("Delete: error %d", e)
		}
		if n, there := x.Index(d); n != 0 || there || x.Seen(d) {
			t.Errorf("Index of %v is %d, %v, Seen is %v", d, n, there, x.Seen(d))
		}
	}
	for _, index := range []int{math.MinInt, -1, 0, 1, math.MaxInt} {
		if at, side, e := x.Place(index); at != dot(0, 0) || side != 0 || e != api.ErrArg {
			t.Errorf("Place(%d) is %v, %d, %d", index, at, side, e)
		}
	}
	if x.Len() != 0 || x.Size() != 0 || len(x.Chars()) != 0 || x.String() != "" || len(x.Dots()) != 0 || len(x.All()) != 0 {
		t.Errorf("nil has %d of %d: %v %q %v %v", x.Len(), x.Size(), x.Chars(), x.String(), x.Dots(), x.All())
	}
}

// P9.1: a text that was declared and not made is one without characters, too: no call panics.
func TestDeclared(t *testing.T) {
	var x fugue.Text
	s := &slow{}
	check(t, "declared", &x, s)
	remove(t, &x, s, dot(1, 1))
	for _, p := range bush() {
		insert(t, &x, s, p)
	}
	check(t, "declared and written", &x, s)
}
