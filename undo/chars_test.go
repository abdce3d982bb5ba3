package undo_test

import (
	"slices"
	"testing"

	"osier/api"
	"osier/edits"
)

// P15.2, P15.3: characters that were put in, all of them seen: Undo erases them in their order; Redo writes them anew, with other identities, which the next Undo erases; and so on.
func TestInserted(t *testing.T) {
	for index, shown := range []string{"añhi", "hañi", "hiañ"} {
		u, _ := enter(t)
		u.make(t, inserted(b, index, "añ"))
		for n := 1; n < 12; n += 4 {
			checkIssued(t, "undone", u, undoing, 0, 1, gone(b, dot(7, n)), gone(b, dot(7, n+1)))
			checkText(t, "undone", u.d, b, "hi")
			at, side, _ := u.d.State().Chars(b).Place(index)
			checkIssued(t, "done again", u, redoing, 1, 0, character(b, at, side, 'a'), character(b, dot(7, n+4), api.Right, 'ñ'))
			checkText(t, "done again", u.d, b, shown)
		}
	}
}

// P15.2, P15.3: characters that were taken out of sight: Undo writes them anew at the Index of the first one; Redo erases what was written.
func TestDeleted(t *testing.T) {
	for _, y := range []struct {
		index, count int
		left         string
	}{{0, 1, "i"}, {1, 1, "h"}, {0, 2, ""}} {
		u, _ := enter(t)
		must(t)(u.s.Do(u.d, u.c, deleted(b, y.index, y.count)))
		checkText(t, "taken out", u.d, b, y.left)
		for range 3 {
			l := must(t)(undoing(u))
			checkText(t, "undone", u.d, b, "hi")
			checkCounts(t, "undone", u, 0, 1)
			var want []api.Op
			for n, o := range l {
				if o.Kind != api.Insert || o.Block != b || o.Char != int("hi"[y.index+n]) {
					t.Errorf("undone by %+v", o)
				}
				want = append(want, gone(b, o.Id))
			}
			if len(l) != y.count {
				t.Errorf("undone by %d", len(l))
			}
			checkIssued(t, "done again", u, redoing, 1, 0, want...)
			checkText(t, "done again", u.d, b, y.left)
		}
	}
}

// P15.2: At and Side of what is written anew are those of Place at the Index of the first one, which isn't seen.
func TestWrittenAt(t *testing.T) {
	u, other := enter(t)
	u.make(t, inserted(b, 1, "abc"))
	u.make(t, deleted(b, 2, 2))
	// What others write ahead of it moves it along; what they write just behind the `a` lies at the left of the first one.
	must(t)(edits.Make(u.d, other, inserted(b, 0, "<<")))
	must(t)(edits.Make(u.d, other, inserted(b, 4, "-")))
	checkText(t, "changed by others", u.d, b, "<<ha-i")
	first := dot(7, 2)
	if index, there := u.d.State().Chars(b).Index(first); index != 5 || !there || u.d.State().Chars(b).Seen(first) {
		t.Fatalf("the Index of the first one is %d, %v", index, there)
	}
	at, side, _ := u.d.State().Chars(b).Place(5)
	checkIssued(t, "undone", u, undoing, 1, 1, character(b, at, side, 'b'), character(b, dot(7, 6), api.Right, 'c'))
	checkText(t, "undone", u.d, b, "<<ha-bci")
}

// P15.2: each of the Indexes at which a first one can stand, with others ahead of it that are seen, and that aren't.
func TestWrittenAtEach(t *testing.T) {
	for index := range 5 {
		u, _ := enter(t)
		u.make(t, inserted(a, 0, "abcdef"))
		must(t)(edits.Erase(u.d, tick(t, 8, 0, 0), a, []api.Dot{dot(7, 3)}))
		text := "abdef"
		u.make(t, deleted(a, index, 1))
		checkText(t, "taken out", u.d, a, text[:index]+text[index+1:])
		must(t)(undoing(u))
		checkText(t, "undone", u.d, a, text)
	}
}

// P15.2: of characters that were put in, some of which aren't seen, those that are seen are erased; they alone are written anew.
func TestSomeSeen(t *testing.T) {
	for mask := 1; mask < 7; mask++ {
		u, other := enter(t)
		u.make(t, inserted(b, 1, "abc"))
		var out []api.Dot
		var erased []api.Op
		left := ""
		for n := range 3 {
			id := dot(7, 1+n)
			if mask>>n&1 == 0 {
				out = append(out, id)
				continue
			}
			erased, left = append(erased, gone(b, id)), left+"abc"[n:n+1]
		}
		must(t)(edits.Erase(u.d, other, b, out))
		checkIssued(t, "undone", u, undoing, 0, 1, erased...)
		checkText(t, "undone", u.d, b, "hi")
		l := must(t)(redoing(u))
		checkCounts(t, "done again", u, 1, 0)
		checkText(t, "done again", u.d, b, "h"+left+"i")
		erased = nil
		for _, o := range l {
			erased = append(erased, gone(b, o.Id))
		}
		if len(l) != len(left) {
			t.Errorf("done again by %d", len(l))
		}
		checkIssued(t, "undone again", u, undoing, 0, 1, erased...)
	}
}

// P15.2: of those that are kept on the first one is the one at whose Index they are written anew.
func TestFirstKeptOn(t *testing.T) {
	u, other := enter(t)
	u.make(t, inserted(a, 0, "abc"))
	must(t)(edits.Make(u.d, other, inserted(a, 1, "--")))
	checkText(t, "changed by others", u.d, a, "a--bc")
	must(t)(edits.Erase(u.d, other, a, []api.Dot{dot(7, 1)}))
	must(t)(undoing(u))
	checkText(t, "undone", u.d, a, "--")
	must(t)(redoing(u))
	checkText(t, "done again", u.d, a, "--bc")
}

// P15.2: ErrGone, if none of them is seen: it is taken off, and is nowhere; what is below it is undone next, and what was undone stays so.
func TestGone(t *testing.T) {
	u, other := enter(t)
	u.make(t, moved(a, b, 0))
	u.make(t, inserted(b, 1, "abc"))
	u.make(t, thrown(c))
	must(t)(undoing(u))
	must(t)(edits.Make(u.d, other, deleted(b, 1, 3)))
	checkGone(t, "gone", u, undoing, 1, 1)
	checkIssued(t, "what is below it", u, undoing, 0, 2, put(a, root, "g"))
	checkRefused(t, "it is nowhere", u, undoing, api.ErrEmpty)
	checkIssued(t, "done again", u, redoing, 1, 1, put(a, b, "n"))
	checkIssued(t, "what was above it", u, redoing, 2, 0, put(c, trash, "t"))
	checkRefused(t, "it is nowhere", u, redoing, api.ErrEmpty)
}

// P15.3: ErrGone of Redo, of characters that were written anew by Undo and aren't seen any more: it is taken off, and is nowhere.
func TestGoneAgain(t *testing.T) {
	u, other := enter(t)
	u.make(t, moved(a, b, 0))
	u.make(t, deleted(b, 0, 2))
	u.make(t, thrown(c))
	must(t)(undoing(u))
	must(t)(undoing(u))
	must(t)(edits.Make(u.d, other, deleted(b, 0, 2)))
	checkGone(t, "gone", u, redoing, 1, 1)
	checkIssued(t, "what was above it", u, redoing, 2, 0, put(c, trash, "t"))
	checkIssued(t, "undone", u, undoing, 1, 1, put(c, root, "t"))
	checkIssued(t, "what is below it", u, undoing, 0, 2, put(a, root, "g"))
}

// P15.2: the user's own edits take characters out of sight, too: what was put in and taken out isn't seen, and what an Undo wrote anew has other identities, and stays.
func TestOwnDeletes(t *testing.T) {
	u, _ := enter(t)
	u.make(t, inserted(a, 0, "ab"))
	u.make(t, deleted(a, 0, 1))
	must(t)(undoing(u))
	checkText(t, "the taking out is undone", u.d, a, "ab")
	checkIssued(t, "the putting in is undone", u, undoing, 0, 2, gone(a, dot(7, 2)))
	checkText(t, "what was written anew stays", u.d, a, "a")
	l := must(t)(redoing(u))
	if len(l) != 1 || l[0].Char != 'b' {
		t.Errorf("done again by %+v", l)
	}
	checkText(t, "what was kept on alone is put in", u.d, a, "ab")
	checkIssued(t, "the taking out is done again", u, redoing, 2, 0, gone(a, dot(7, 4)))
	checkText(t, "done again", u.d, a, "b")

	u, _ = enter(t)
	u.make(t, inserted(a, 0, "ab"))
	u.make(t, deleted(a, 0, 2))
	must(t)(undoing(u))
	checkGone(t, "all of it is written anew", u, undoing, 0, 1)
	checkText(t, "all of it is written anew", u.d, a, "ab")
}

// P15.2: ErrGone comes ahead of what may be wrong with the row, of which there is none: a clock that may not be, one that is used up.
func TestGoneAheadOfRow(t *testing.T) {
	for _, clk := range [][3]int{{7, 0, 0}, {7, 9, 0}, {8, 0, api.MaxTime}} {
		u, other := enter(t)
		u.make(t, inserted(b, 1, "abc"))
		must(t)(edits.Make(u.d, other, deleted(b, 0, 4)))
		u.c = tick(t, clk[0], clk[1], clk[2])
		checkGone(t, "gone", u, undoing, 0, 0)
	}
}

// P15.2: it doesn't matter where the block lies.
func TestCharsInTrash(t *testing.T) {
	u, other := enter(t)
	u.make(t, inserted(b, 2, "!"))
	must(t)(edits.Make(u.d, other, thrown(b)))
	checkIssued(t, "undone", u, undoing, 0, 1, gone(b, dot(7, 1)))
	must(t)(redoing(u))
	checkText(t, "done again", u.d, b, "hi!")
	checkPlace(t, "it stays", u.d, b, trash, "t")
}

// P15.2, P15.3: as many characters as there may be, all of their own kind.
func TestMaxText(t *testing.T) {
	var long []rune
	for n := range api.MaxText {
		long = append(long, rune('a'+50*n))
	}
	text := string(long)
	u, _ := enter(t)
	u.make(t, inserted(b, 1, text))
	u.make(t, deleted(b, 1, api.MaxText))
	if l := must(t)(undoing(u)); len(l) != api.MaxText {
		t.Errorf("undone by %d", len(l))
	}
	checkText(t, "undone", u.d, b, "h"+text+"i")
	if l := must(t)(redoing(u)); len(l) != api.MaxText {
		t.Errorf("done again by %d", len(l))
	}
	checkText(t, "done again", u.d, b, "hi")
}

// P15.2: characters that others wrote are taken out of sight and written anew like one's own.
func TestOthersChars(t *testing.T) {
	u, other := enter(t)
	l := must(t)(edits.Make(u.d, other, inserted(a, 0, "é\n\\")))
	u.make(t, deleted(a, 0, 2))
	must(t)(undoing(u))
	checkText(t, "undone", u.d, a, "é\n\\")
	if dots := u.d.State().Chars(a).Dots(); slices.Contains(dots, l[0].Id) || !slices.Contains(dots, l[2].Id) {
		t.Errorf("seen are %v", dots)
	}
}

// waited is a garden in which a later move of another one waits for the user's first operation: what the user issues behind that one is late, and thrown away, though it is answered.
func waited(t *testing.T, e api.Edit) *user {
	t.Helper()
	u, _ := enter(t)
	o := put(c, root, "t")
	o.Id, o.Time, o.Deps = dot(8, 1), 900, api.Vector{dot(1, 11), dot(7, 1)}
	must(t)(u.d.Deliver(o))
	u.make(t, e)
	u.c = tick(t, 7, 1, 0)
	return u
}

// P15.1, P15.2: what is kept goes by what was issued. Of characters that never came to be none is seen; one that stayed in sight is written anew beside it.
func TestThrownAway(t *testing.T) {
	u := waited(t, inserted(b, 1, "abc"))
	checkText(t, "put in", u.d, b, "hai")
	checkIssued(t, "undone", u, undoing, 0, 1, gone(b, dot(7, 1)))
	must(t)(redoing(u))
	checkText(t, "done again", u.d, b, "hai")

	u = waited(t, deleted(b, 0, 2))
	checkText(t, "taken out", u.d, b, "i")
	must(t)(undoing(u))
	checkText(t, "undone", u.d, b, "hii")
	checkIssued(t, "done again", u, redoing, 1, 0, gone(b, dot(7, 2)), gone(b, dot(7, 3)))
	checkText(t, "done again", u.d, b, "i")
}
