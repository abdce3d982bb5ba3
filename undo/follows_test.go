package undo_test

import (
	"maps"
	"math/rand/v2"
	"reflect"
	"slices"
	"testing"

	"osier/api"
	"osier/clock"
	"osier/doc"
	"osier/edits"
	"osier/undo"
)

// P15.5: behind the Undo of a move the block lies where it lay, at the same index, behind Redo where it had been put; nothing else lies elsewhere.
func TestSameIndex(t *testing.T) {
	for _, parent := range []api.Dot{root, a, w} {
		for from := range 4 {
			for to := range 4 {
				u, other := enter(t)
				for len(u.d.State().Tree().Kids(parent)) < 4 {
					must(t)(edits.Make(u.d, other, created(parent, 0)))
				}
				was := u.d.State().Tree().Kids(parent)
				u.make(t, moved(was[from], parent, to))
				put := u.d.State().Tree().Kids(parent)
				for range 2 {
					must(t)(undoing(u))
					checkKids(t, "undone", u.d, parent, was...)
					must(t)(redoing(u))
					checkKids(t, "done again", u.d, parent, put...)
				}
			}
		}
	}
}

// P15.5: blocks of one key stay in their order.
func TestSameKey(t *testing.T) {
	u, other := enter(t)
	must(t)(edits.Put(u.d, other, a, root, "n"))
	must(t)(edits.Put(u.d, other, c, root, "n"))
	for _, block := range []api.Dot{a, b, c} {
		for _, e := range []api.Edit{moved(block, root, 0), moved(block, root, 2), moved(block, v, 0), thrown(block)} {
			u.make(t, e)
			put := u.d.State().Tree().Kids(root)
			must(t)(undoing(u))
			checkKids(t, "undone", u.d, root, a, b, c)
			must(t)(redoing(u))
			checkKids(t, "done again", u.d, root, put...)
			must(t)(undoing(u))
		}
	}
}

// P15.5: behind the Undo of a text's change the text is what it was, behind Redo what it was changed to; at each place of it.
func TestSameText(t *testing.T) {
	for index := range 5 {
		for count := range 5 - index {
			u, other := enter(t)
			must(t)(edits.Make(u.d, other, inserted(a, 0, "stxem")))
			must(t)(edits.Make(u.d, other, deleted(a, 2, 1)))
			e := deleted(a, index, count)
			if count == 0 {
				e = inserted(a, index, "--")
			}
			u.make(t, e)
			changed := u.d.State().Text(a)
			for range 3 {
				must(t)(undoing(u))
				checkText(t, "undone", u.d, a, "stem")
				must(t)(redoing(u))
				checkText(t, "done again", u.d, a, changed)
			}
		}
	}
}

// P15.5: what others did since stays: their characters, ahead of what is undone, within it and behind it, and their moves.
func TestOthersStay(t *testing.T) {
	u, other := enter(t)
	u.make(t, moved(c, b, 0))
	u.make(t, inserted(b, 1, "abc"))
	for _, e := range []api.Edit{inserted(b, 5, ">"), inserted(b, 2, "+"), inserted(b, 0, "<"), moved(k, root, 0), thrown(a), created(b, 0), deleted(b, 1, 1)} {
		must(t)(edits.Make(u.d, other, e))
	}
	checkText(t, "changed by others", u.d, b, "<a+bci>")
	was := seen(u)
	must(t)(undoing(u))
	checkText(t, "undone", u.d, b, "<+i>")
	must(t)(redoing(u))
	checkText(t, "done again", u.d, b, "<abc+i>")
	must(t)(undoing(u))
	must(t)(undoing(u))
	checkPlace(t, "undone", u.d, c, root, "t")
	for block, p := range was.places {
		if block != c {
			checkPlace(t, "others' moves", u.d, block, p.parent, p.key)
		}
	}
}

// P15.5: an Undo in one document, told another one that has the rest, comes to the same there.
func TestTold(t *testing.T) {
	u, _ := enter(t)
	d, other := grow(t)
	tell := func() {
		t.Helper()
		for _, o := range u.d.Since(d.Version(), api.MaxOps) {
			must(t)(d.Deliver(o))
		}
		for _, o := range d.Since(u.d.Version(), api.MaxOps) {
			must(t)(u.d.Deliver(o))
		}
		if d.Show() != u.d.Show() {
			t.Errorf("one shows %q, the other one %q", d.Show(), u.d.Show())
		}
	}
	u.make(t, moved(a, b, 0))
	u.make(t, inserted(b, 1, "ab"))
	must(t)(edits.Make(d, other, inserted(b, 1, "cd")))
	must(t)(undoing(u))
	must(t)(edits.Make(d, other, moved(b, c, 0)))
	tell()
	checkText(t, "what the other one wrote", d, b, "hcdi")
	must(t)(undoing(u))
	tell()
	checkPlace(t, "undone", d, a, root, "g")
	must(t)(redoing(u))
	must(t)(redoing(u))
	tell()
	checkPlace(t, "done again", d, a, b, "n")
}

// chance is an edit by chance, most of them such as can be done.
func chance(r *rand.Rand, d *doc.Doc) api.Edit {
	pick := func(l []api.Dot) api.Dot { return l[r.IntN(len(l))] }
	blocks := append(d.State().Tree().Blocks(), dot(9, 9))
	e := api.Edit{Kind: 1 + r.IntN(5), Block: pick(blocks), Parent: pick(append(blocks, root, root, root))}
	// Most write into a few blocks, so that there is something to take out of sight.
	if e.Kind >= api.EditInsert && r.IntN(4) > 0 {
		e.Block = pick([]api.Dot{a, b})
	}
	long := d.State().Chars(e.Block).Len()
	switch e.Kind {
	case api.EditCreate, api.EditMove:
		e.Index = r.IntN(2 + len(d.State().Tree().Kids(e.Parent)))
	case api.EditInsert:
		e.Index, e.Text = r.IntN(2+long), []string{"", "a", "bé", "word\n", "😀"}[r.IntN(5)]
	case api.EditDelete:
		e.Index = r.IntN(2 + long)
		e.Count = r.IntN(2 + max(0, long-e.Index))
		if r.IntN(4) == 0 {
			e.Index, e.Count = 0, long
		}
	}
	return e
}

// sameBlocks and sameTexts tell whether blocks lie, and texts are, as they did and were.
func sameBlocks(a, b past) bool {
	return maps.EqualFunc(a.kids, b.kids, slices.Equal) && maps.Equal(a.places, b.places)
}

func sameTexts(a, b past) bool { return maps.Equal(a.texts, b.texts) }

// before is what is seen ahead of an edit, as it is behind its Undo: one that was made is the last one in the Trash.
func before(was, undone past, e api.Edit, id api.Dot) past {
	if e.Kind == api.EditCreate {
		was.kids, was.places, was.texts = maps.Clone(was.kids), maps.Clone(was.places), maps.Clone(was.texts)
		was.kids[trash] = append(slices.Clone(was.kids[trash]), id)
		was.kids[id], was.places[id], was.texts[id] = nil, undone.places[id], ""
	}
	return was
}

// P15.5: edits by chance in a document that others change, too, each undone and done again at once, some of them several times: all is as it was, and as it came to be.
func TestUndoneAtOnce(t *testing.T) {
	r := rand.New(rand.NewPCG(15, 5))
	kept := map[int]int{}
	for range 50 {
		u, other := enter(t)
		for range 40 {
			edits.Make(u.d, other, chance(r, u.d))
			e := chance(r, u.d)
			was := seen(u)
			l, err := u.s.Do(u.d, u.c, e)
			if err != api.OK || len(l) == 0 {
				continue
			}
			kept[e.Kind]++
			now := seen(u)
			for range 1 + r.IntN(2) {
				must(t)(undoing(u))
				undone := seen(u)
				if want := before(was, undone, e, l[0].Id); !sameBlocks(undone, want) || !sameTexts(undone, want) {
					t.Fatalf("%+v: undone it is %+v, not %+v", e, undone, want)
				}
				must(t)(redoing(u))
				if again := seen(u); !sameBlocks(again, now) || !sameTexts(again, now) {
					t.Fatalf("%+v: done again it is %+v, not %+v", e, again, now)
				}
			}
		}
	}
	for kind := api.EditCreate; kind <= api.EditDelete; kind++ {
		if kept[kind] < 50 {
			t.Errorf("but %d of the Kind %d were undone", kept[kind], kind)
		}
	}
}

// P15.5: moves by chance of one user, all undone and all done again, one by one: behind each all blocks lie as they did there.
func TestMovesUndone(t *testing.T) {
	r := rand.New(rand.NewPCG(15, 6))
	for range 25 {
		u, _ := enter(t)
		past := []past{seen(u)}
		for len(past) < 15 {
			e := chance(r, u.d)
			if e.Kind != api.EditMove && e.Kind != api.EditTrash {
				continue
			}
			if _, err := u.s.Do(u.d, u.c, e); err == api.OK {
				past = append(past, seen(u))
			}
		}
		at := len(past) - 1
		for range 60 {
			f, next := call(undoing), at-1
			if r.IntN(2) == 0 {
				f, next = redoing, at+1
			}
			if next < 0 || next >= len(past) {
				checkRefused(t, "no further", u, f, api.ErrEmpty)
				continue
			}
			must(t)(f(u))
			at = next
			checkCounts(t, "by chance", u, at, len(past)-1-at)
			if now := seen(u); !sameBlocks(now, past[at]) {
				t.Fatalf("blocks lie at %v, not at %v", now.places, past[at].places)
			}
		}
	}
}

// note is what the chapter says is kept of an edit.
type note struct {
	text     bool
	block    api.Dot
	was, put place
	ids      []api.Dot
	chars    []int
	in       bool
}

// notes are a stack by the chapter's words, whose rows are new ones behind each call.
type notes struct {
	done, undone []note
}

// do makes an edit.
func (s *notes) do(d *doc.Doc, c *clock.Clock, e api.Edit) ([]api.Op, api.Errno) {
	was, text := placeOf(d, e.Block), d.State().Chars(e.Block)
	ids, chars := text.Dots(), text.Chars()
	l, err := edits.Make(d, c, e)
	if len(l) == 0 {
		return l, err
	}
	n := note{block: e.Block, was: was, put: place{l[0].Parent, l[0].Key}}
	switch e.Kind {
	case api.EditCreate:
		n.block, n.was = l[0].Id, place{}
	case api.EditInsert:
		n = note{text: true, block: e.Block, in: true}
		for at, r := range []rune(e.Text) {
			n.ids, n.chars = append(n.ids, l[at].Id), append(n.chars, int(r))
		}
	case api.EditDelete:
		n = note{text: true, block: e.Block, ids: ids[e.Index : e.Index+e.Count], chars: chars[e.Index : e.Index+e.Count]}
	}
	*s = notes{done: append(slices.Clone(s.done), n)}
	return l, err
}

// turned are characters that are turned.
func (n note) turned(d *doc.Doc, c *clock.Clock) (note, []api.Op, api.Errno) {
	text := d.State().Chars(n.block)
	out := note{text: true, block: n.block, in: !n.in}
	if n.in {
		for at, id := range n.ids {
			if slices.Contains(text.Dots(), id) {
				out.ids, out.chars = append(out.ids, id), append(out.chars, n.chars[at])
			}
		}
		if len(out.ids) == 0 {
			return n, nil, api.ErrGone
		}
		l, err := edits.Erase(d, c, n.block, out.ids)
		return out, l, err
	}
	index, _ := text.Index(n.ids[0])
	l, err := edits.Write(d, c, n.block, index, n.chars)
	out.chars = n.chars
	for _, o := range l {
		out.ids = append(out.ids, o.Id)
	}
	return out, l, err
}

// next undoes the uppermost, or does it again.
func (s *notes) next(d *doc.Doc, c *clock.Clock, back bool) ([]api.Op, api.Errno) {
	from, to := s.done, s.undone
	if !back {
		from, to = to, from
	}
	if len(from) == 0 {
		return nil, api.ErrEmpty
	}
	n := from[len(from)-1]
	var l []api.Op
	var err api.Errno
	switch {
	case n.text:
		n, l, err = n.turned(d, c)
	case !back:
		l, err = edits.Put(d, c, n.block, n.put.parent, n.put.key)
	case n.was == place{}:
		l, err = edits.Make(d, c, thrown(n.block))
	default:
		l, err = edits.Put(d, c, n.block, n.was.parent, n.was.key)
	}
	from = slices.Clone(from[:len(from)-1])
	switch {
	case err == api.OK:
		to = append(slices.Clone(to), n)
	case err != api.ErrGone:
		return l, err
	}
	s.done, s.undone = from, to
	if !back {
		s.done, s.undone = to, from
	}
	return l, err
}

// twins are two documents that are told the same, one of them by a stack, the other one by notes; and another one's clocks in both.
type twins struct {
	u      *user
	n      notes
	d      *doc.Doc
	c      *clock.Clock
	others [2]*clock.Clock
}

// step does something in both, by a number, and looks that it is the same: what is told, and all that is seen.
func (w *twins) step(t *testing.T, what int, e api.Edit) api.Errno {
	t.Helper()
	var got, want []api.Op
	var err, wanted api.Errno
	switch what {
	case 0:
		got, err = edits.Make(w.u.d, w.others[0], e)
		want, wanted = edits.Make(w.d, w.others[1], e)
	case 1:
		got, err = w.u.s.Do(w.u.d, w.u.c, e)
		want, wanted = w.n.do(w.d, w.c, e)
	case 2:
		got, err = w.u.s.Undo(w.u.d, w.u.c)
		want, wanted = w.n.next(w.d, w.c, true)
	default:
		got, err = w.u.s.Redo(w.u.d, w.u.c)
		want, wanted = w.n.next(w.d, w.c, false)
	}
	if err != wanted || !same(got, want) {
		t.Fatalf("%d of %+v: %+v, error %d, not %+v, error %d", what, e, got, err, want, wanted)
	}
	checkCounts(t, "by chance", w.u, len(w.n.done), len(w.n.undone))
	if !reflect.DeepEqual(w.u.d.Version(), w.d.Version()) || w.u.d.Show() != w.d.Show() {
		t.Fatalf("it is shown as %q, not %q", w.u.d.Show(), w.d.Show())
	}
	return err
}

// double are twins in two gardens.
func double(t *testing.T) *twins {
	t.Helper()
	u, other := enter(t)
	d, another := grow(t)
	return &twins{u: u, d: d, c: tick(t, 7, 0, 0), others: [2]*clock.Clock{other, another}}
}

// P15.1, P15.2, P15.3: whatever is done, undone and done again, by one and by others, held against the chapter's words.
func TestByTheWords(t *testing.T) {
	r := rand.New(rand.NewPCG(15, 7))
	errors := map[api.Errno]int{}
	for range 200 {
		w := double(t)
		for range 80 {
			what := []int{0, 0, 1, 1, 1, 2, 2, 3}[r.IntN(8)]
			errors[w.step(t, what, chance(r, w.d))]++
		}
	}
	for _, e := range []api.Errno{api.OK, api.ErrBlock, api.ErrIndex, api.ErrCycle, api.ErrEmpty, api.ErrGone} {
		if errors[e] < 10 {
			t.Errorf("error %d was told but %d times", e, errors[e])
		}
	}
}

// P15.1, P15.2, P15.3: any calls, held against the chapter's words.
func FuzzUndo(f *testing.F) {
	f.Add([]byte("\x01\x03\x02\x00\x05\x00\x02\x00\x00\x03\x00\x00"))
	f.Add([]byte("abcdefghijklmnopqrstuvwxyz0123456789"))
	f.Fuzz(func(t *testing.T, bytes []byte) {
		w := double(t)
		for n := 0; n+2 < len(bytes) && n < 150; n += 3 {
			blocks := append(w.d.State().Tree().Blocks(), root, trash, none)
			pick := func(n byte) api.Dot { return blocks[int(n)%len(blocks)] }
			e := api.Edit{Kind: 1 + int(bytes[n]/4%5), Block: pick(bytes[n+1] % 16), Parent: pick(bytes[n+1] / 16), Index: int(bytes[n+2]%16) - 1, Count: int(bytes[n+2]/16) - 1, Text: "añ😀b"[:[]int{0, 1, 3, 7, 8}[bytes[n+2]%5]]}
			w.step(t, int(bytes[n]%4), e)
		}
	})
}

// P15.5: stacks of several users, each in a document of their own, who hear of one another: in the end all show the same, and each Undo that issues something changes nothing of what others wrote.
func TestSeveralUsers(t *testing.T) {
	r := rand.New(rand.NewPCG(15, 8))
	hear := func(to, from *doc.Doc) {
		t.Helper()
		for _, o := range from.Since(to.Version(), api.MaxOps) {
			must(t)(to.Deliver(o))
		}
	}
	for range 20 {
		var users []*user
		for n := range 3 {
			d, _ := grow(t)
			users = append(users, &user{d, tick(t, 10+n, 0, 0), undo.New()})
		}
		for range 60 {
			u := users[r.IntN(3)]
			if r.IntN(3) == 0 {
				hear(u.d, users[r.IntN(3)].d)
			}
			if r.IntN(2) == 0 {
				u.s.Do(u.d, u.c, chance(r, u.d))
				continue
			}
			was := seen(u)
			l, e := []call{undoing, redoing}[r.IntN(2)](u)
			if e == api.OK {
				checkStays(t, u, was, l)
			}
		}
		for range 2 {
			for n, u := range users {
				hear(u.d, users[(n+1)%3].d)
			}
		}
		for _, u := range users {
			if u.d.Show() != users[0].d.Show() || !slices.Equal(u.d.Version(), users[0].d.Version()) {
				t.Fatalf("one shows %q, another one %q", u.d.Show(), users[0].d.Show())
			}
		}
	}
}

// checkStays looks that what is issued by an Undo or a Redo moves but one block, or takes but characters of this user's out of sight.
func checkStays(t *testing.T, u *user, was past, l []api.Op) {
	t.Helper()
	now := seen(u)
	for block, p := range was.places {
		if now.places[block] != p && (l[0].Kind != api.Move || l[0].Block != block) {
			t.Fatalf("%v is moved by %+v", block, l)
		}
	}
	for block, dots := range was.dots {
		for _, id := range dots {
			if id.Act != u.c.Actor() && !slices.Contains(now.dots[block], id) {
				t.Fatalf("%v is taken out of sight by %+v", id, l)
			}
		}
	}
	if l[0].Kind == api.Move && len(l) != 1 {
		t.Fatalf("%d are issued", len(l))
	}
}
