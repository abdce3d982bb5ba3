package edits_test

import (
	"maps"
	"math/rand/v2"
	"reflect"
	"slices"
	"testing"

	"osier/api"
	"osier/clock"
	"osier/doc"
	"osier/edits"
	"osier/keys"
)

// errorOf is what Make tells of an edit in a document whose row isn't refused, by the words of the chapter.
func errorOf(d *doc.Doc, was past, e api.Edit) api.Errno {
	_, block := was.kids[e.Block]
	block = block && e.Block != root && e.Block != trash
	_, parent := was.kids[e.Parent]
	parent = parent && e.Parent != trash
	long := []rune(was.texts[e.Block])
	switch e.Kind {
	case api.EditCreate, api.EditMove:
		return errorOfPlace(d, was, e, parent && (block || e.Kind == api.EditCreate))
	case api.EditTrash:
		if block {
			l := slices.DeleteFunc(slices.Clone(was.kids[trash]), func(x api.Dot) bool { return x == e.Block })
			return errorOfKey(d, l, len(l))
		}
	case api.EditInsert:
		if block && (e.Index < 0 || e.Index > len(long)) {
			return api.ErrIndex
		}
	case api.EditDelete:
		if block && (e.Index < 0 || e.Count < 0 || e.Index+e.Count > len(long)) {
			return api.ErrIndex
		}
	}
	if !block {
		return api.ErrBlock
	}
	return api.OK
}

// errorOfPlace is what is told of one that makes or moves a block.
func errorOfPlace(d *doc.Doc, was past, e api.Edit, there bool) api.Errno {
	if !there {
		return api.ErrBlock
	}
	l := slices.Clone(was.kids[e.Parent])
	if e.Kind == api.EditMove {
		for up := e.Parent; up != root && up != trash; up, _, _ = d.State().Tree().Parent(up) {
			if up == e.Block {
				return api.ErrCycle
			}
		}
		l = slices.DeleteFunc(l, func(x api.Dot) bool { return x == e.Block })
	}
	if e.Index < 0 || e.Index > len(l) {
		return api.ErrIndex
	}
	return errorOfKey(d, l, e.Index)
}

// errorOfKey is what is told where there is no key at an index.
func errorOfKey(d *doc.Doc, kids []api.Dot, index int) api.Errno {
	bounds := [2]string{}
	for n := range bounds {
		if at := index - 1 + n; at >= 0 && at < len(kids) {
			_, bounds[n], _ = d.State().Tree().Parent(kids[at])
		}
	}
	_, e := keys.Between(bounds[0], bounds[1])
	return e
}

// after is what an edit makes of the blocks and texts that there were, of which the Id of the first operation is known.
func after(was past, e api.Edit, id api.Dot) (map[api.Dot][]api.Dot, map[api.Dot]string) {
	kids, texts := maps.Clone(was.kids), maps.Clone(was.texts)
	long := []rune(texts[e.Block])
	switch e.Kind {
	case api.EditInsert:
		texts[e.Block] = string(long[:e.Index]) + e.Text + string(long[e.Index:])
		return kids, texts
	case api.EditDelete:
		texts[e.Block] = string(long[:e.Index]) + string(long[e.Index+e.Count:])
		return kids, texts
	case api.EditCreate:
		e.Block, kids[id], texts[id] = id, nil, ""
	case api.EditTrash:
		e.Parent, e.Index = trash, len(kids[trash])
		if slices.Contains(kids[trash], e.Block) {
			e.Index--
		}
	}
	for p, l := range kids {
		kids[p] = slices.DeleteFunc(slices.Clone(l), func(x api.Dot) bool { return x == e.Block })
	}
	kids[e.Parent] = slices.Insert(kids[e.Parent], e.Index, e.Block)
	return kids, texts
}

// attempt makes an edit, and looks at what follows: its error, or that the blocks lie and the texts are as the edit asks for, and nothing else changed.
func attempt(t *testing.T, d *doc.Doc, c *clock.Clock, e api.Edit) ([]api.Op, api.Errno) {
	t.Helper()
	was := seen(d, c)
	want := errorOf(d, was, e)
	got, error := edits.Make(d, c, e)
	if error != want {
		t.Fatalf("Make of %+v: error %d, not %d", e, error, want)
	}
	now := seen(d, c)
	if error != api.OK {
		if len(got) != 0 || !reflect.DeepEqual(now, was) {
			t.Fatalf("Make of %+v: error %d changed something", e, error)
		}
		return nil, error
	}
	var id api.Dot
	if len(got) > 0 {
		id = got[0].Id
	}
	kids, texts := after(was, e, id)
	if !maps.EqualFunc(now.kids, kids, slices.Equal) || !maps.Equal(now.texts, texts) {
		t.Fatalf("Make of %+v: %v and %v come of %v and %v", e, now.kids, now.texts, was.kids, was.texts)
	}
	return got, error
}

// writer is one who edits a document of their own, and tells others.
type writer struct {
	d *doc.Doc
	c *clock.Clock
}

// hear tells a writer what another one has.
func (w *writer) hear(t *testing.T, from *writer, most int) {
	t.Helper()
	for _, o := range from.d.Since(w.d.Version(), most) {
		if _, e := w.d.Deliver(o); e != api.OK {
			t.Fatalf("Deliver of %v: error %d", o.Id, e)
		}
	}
}

// chance is an edit by chance, most of them such as can be done.
func chance(r *rand.Rand, d *doc.Doc) api.Edit {
	pick := func(l []api.Dot) api.Dot { return l[r.IntN(len(l))] }
	blocks := append(d.State().Tree().Blocks(), dot(9, 9))
	e := api.Edit{Kind: 1 + r.IntN(5), Block: pick(blocks), Parent: pick(append(blocks, root, root, root, trash))}
	switch e.Kind {
	case api.EditCreate, api.EditMove:
		e.Index = r.IntN(2+len(d.State().Tree().Kids(e.Parent))) - r.IntN(12)/11
	case api.EditTrash:
		// Most are left alone, so that some are left.
		if r.IntN(3) > 0 {
			e.Kind, e.Parent, e.Index = api.EditCreate, root, 0
		}
	case api.EditInsert:
		e.Index, e.Text = r.IntN(2+len([]rune(d.State().Text(e.Block))))-r.IntN(12)/11, []string{"", "a", "bé", "some words\n", "😀"}[r.IntN(5)]
	case api.EditDelete:
		e.Index = r.IntN(2+len([]rune(d.State().Text(e.Block)))) - r.IntN(12)/11
		e.Count = r.IntN(4) - r.IntN(12)/11
	}
	return e
}

// mixed is a row in another order, by chance.
func mixed(r *rand.Rand, l []api.Op) []api.Op {
	l = slices.Clone(l)
	r.Shuffle(len(l), func(i, j int) { l[i], l[j] = l[j], l[i] })
	return l
}

// checkOthers looks that documents that are told operations in several orders show what one shows that has them.
func checkOthers(t *testing.T, r *rand.Rand, d *doc.Doc, l []api.Op) {
	t.Helper()
	back := slices.Clone(l)
	slices.Reverse(back)
	clk := &clock.Clock{}
	want := seen(d, clk)
	for _, order := range [][]api.Op{l, back, mixed(r, l), mixed(r, l)} {
		if got := seen(of(t, order...), clk); !reflect.DeepEqual(got, want) {
			t.Fatalf("told in another order: %q, not %q", got.shown, want.shown)
		}
	}
}

// P14.5: edits by chance in one document: its blocks and texts are what the edits ask for, and nothing else changes; other documents show the same.
func TestOneWrites(t *testing.T) {
	r := rand.New(rand.NewPCG(14, 5))
	errors := map[api.Errno]int{}
	for range 40 {
		w := writer{doc.New(), tick(t, 7, 0, 0)}
		var all []api.Op
		for range 60 {
			l, e := attempt(t, w.d, w.c, chance(r, w.d))
			errors[e]++
			all = append(all, l...)
		}
		checkOthers(t, r, w.d, all)
	}
	for _, e := range []api.Errno{api.OK, api.ErrBlock, api.ErrIndex, api.ErrCycle} {
		if errors[e] < 30 {
			t.Errorf("error %d was told but %d times", e, errors[e])
		}
	}
}

// P14.5: edits by chance of several, each in a document of their own, who hear of one another now and then: each edit does what it asks for in the document in which it is made; in the end all show the same.
func TestSeveralWrite(t *testing.T) {
	r := rand.New(rand.NewPCG(14, 6))
	errors := map[api.Errno]int{}
	for range 40 {
		var writers []*writer
		for n := range 3 {
			writers = append(writers, &writer{doc.New(), tick(t, 3*n, 0, r.IntN(9))})
		}
		var all []api.Op
		for range 60 {
			w := writers[r.IntN(3)]
			if r.IntN(3) == 0 {
				w.hear(t, writers[r.IntN(3)], 1+r.IntN(20))
			}
			l, e := attempt(t, w.d, w.c, chance(r, w.d))
			errors[e]++
			all = append(all, l...)
		}
		for _, w := range writers {
			for _, from := range writers {
				w.hear(t, from, api.MaxOps)
			}
		}
		for _, w := range writers {
			if len(w.d.Ops()) != len(all) {
				t.Fatalf("%d of %d were taken in", len(w.d.Ops()), len(all))
			}
			checkOthers(t, r, w.d, all)
		}
	}
	for _, e := range []api.Errno{api.OK, api.ErrBlock, api.ErrIndex, api.ErrCycle, api.ErrKey} {
		if errors[e] < 10 {
			t.Errorf("error %d was told but %d times", e, errors[e])
		}
	}
}

// P14.5: what two write at one place at a time stands in one piece each.
func TestOnePiece(t *testing.T) {
	first := &writer{of(t, garden()...), tick(t, 7, 0, 0)}
	second := &writer{of(t, garden()...), tick(t, 8, 0, 0)}
	for index := range 3 {
		attempt(t, first.d, first.c, api.Edit{Kind: api.EditInsert, Block: b, Index: index, Text: "one"})
		attempt(t, second.d, second.c, api.Edit{Kind: api.EditInsert, Block: b, Index: index, Text: "two"})
		first.hear(t, second, api.MaxOps)
		second.hear(t, first, api.MaxOps)
		checkText(t, second.d, b, first.d.State().Text(b))
		attempt(t, first.d, first.c, api.Edit{Kind: api.EditDelete, Block: b, Index: index, Count: 6})
		second.hear(t, first, api.MaxOps)
		checkText(t, second.d, b, "hi")
	}
}

// P14.5: keys that grow: blocks are made at one place, each the Index-th one, till there is no room between the keys.
func TestKeysGrow(t *testing.T) {
	for _, index := range []int{0, 1} {
		d, clk := of(t), tick(t, 7, 0, 0)
		var kids []api.Dot
		for {
			at := min(index, len(kids))
			l, e := edits.Make(d, clk, api.Edit{Kind: api.EditCreate, Parent: root, Index: at})
			if want := errorOfKey(d, kids, at); e == api.ErrKey && e == want {
				break
			}
			if e != api.OK {
				t.Fatalf("at %d: error %d", at, e)
			}
			kids = slices.Insert(kids, at, l[0].Id)
			checkKids(t, d, root, kids...)
		}
		if len(kids) < 500 {
			t.Errorf("at %d: there was room for %d", index, len(kids))
		}
	}
}

// P14.4, P14.5: any edits of two who hear of one another, held against the chapter's words.
func FuzzEdits(f *testing.F) {
	f.Add([]byte("\x01\x00\x00\x01\x00\x00\x04\x01\x00\x05\x01\x01"))
	f.Add([]byte("abcdefghijklmnopqrstuvwxyz0123456789"))
	f.Fuzz(func(t *testing.T, bytes []byte) {
		writers := []*writer{{doc.New(), tick(t, 1, 0, 0)}, {doc.New(), tick(t, 2, 0, 0)}}
		var all []api.Op
		for n := 0; n+2 < len(bytes) && n < 120; n += 3 {
			w, other := writers[bytes[n]>>7], writers[1-bytes[n]>>7]
			if bytes[n]&64 != 0 {
				w.hear(t, other, api.MaxOps)
			}
			blocks := append(w.d.State().Tree().Blocks(), root, trash, none, dot(1, 2))
			pick := func(n byte) api.Dot { return blocks[int(n)%len(blocks)] }
			e := api.Edit{Kind: 1 + int(bytes[n]%5), Block: pick(bytes[n+1] % 16), Parent: pick(bytes[n+1] / 16), Index: int(bytes[n+2]%16) - 1, Count: int(bytes[n+2]/16) - 1, Text: "añ😀b"[:[]int{0, 1, 3, 7, 8}[bytes[n+2]%5]]}
			l, _ := attempt(t, w.d, w.c, e)
			all = append(all, l...)
		}
		for _, w := range writers {
			w.hear(t, writers[0], api.MaxOps)
			w.hear(t, writers[1], api.MaxOps)
			checkOthers(t, rand.New(rand.NewPCG(1, 2)), w.d, all)
		}
	})
}
