package branch_test

import (
	"slices"
	"strings"
	"testing"

	"osier/api"
	"osier/branch"
	"osier/ops"
)

// call is one of the calls of a user at a branch.
type call func(b *branch.Branches, name, user string) ([]api.Op, api.Errno)

// doing is the call that makes an edit; those of Undo and Redo are method expressions.
func doing(e api.Edit) call {
	return func(b *branch.Branches, name, user string) ([]api.Op, api.Errno) { return b.Edit(name, user, e) }
}

var undoing, redoing call = (*branch.Branches).Undo, (*branch.Branches).Redo

// checkRefused looks that a call is refused with an error, and that nothing changes.
func checkRefused(t *testing.T, what string, b *branch.Branches, name, user string, f call, want api.Errno) {
	t.Helper()
	checkStays(t, what, b, want, func() ([]api.Op, api.Errno) { return f(b, name, user) })
}

// checkIssued looks that a call issues just these operations, and that the branch's document has them then, and no other one.
func checkIssued(t *testing.T, what string, b *branch.Branches, name, user string, f call, want ...api.Op) {
	t.Helper()
	had := map[string][]api.Op{}
	for _, n := range b.Names() {
		had[n] = b.Doc(n).Ops()
	}
	got, e := f(b, name, user)
	if e != api.OK || !same(got, want) {
		t.Fatalf("%s: error %d, issued is\n%+v, not\n%+v", what, e, got, want)
	}
	had[name] = append(had[name], want...)
	for n, l := range had {
		checkOps(t, what+": "+n, b.Doc(n), l...)
	}
}

// keyed is a move with another key.
func keyed(o api.Op, key string) api.Op {
	o.Key = key
	return o
}

// P17.4: an edit, its Undo and its Redo, as undo does them with the branch's document and clock.
func TestEdit(t *testing.T) {
	b := newAt(t, 3)
	one := dot(768, 1)
	checkIssued(t, "made", b, "main", "u", doing(creating(root, 0)), made(768, 1, 1))
	checkIssued(t, "written", b, "main", "u", doing(writing(one, 0, "hi")), put(768, 2, 2, one, none, 'h', 768, 1), put(768, 3, 3, one, dot(768, 2), 'i', 768, 2))
	checkIssued(t, "undone", b, "main", "u", undoing, taken(768, 4, 4, one, dot(768, 2), 768, 3), taken(768, 5, 5, one, dot(768, 3), 768, 4))
	checkIssued(t, "undone, too", b, "main", "u", undoing, moved(768, 6, 6, one, trash, 768, 5))
	checkRefused(t, "nothing is done", b, "main", "u", undoing, api.ErrEmpty)
	checkIssued(t, "done again", b, "main", "u", redoing, moved(768, 7, 7, one, root, 768, 6))
	got := must(t)(b.Redo("main", "u"))
	if len(got) != 2 || b.Doc("main").Show() != "- hi\n" {
		t.Errorf("done again: %v, shown is %q", got, b.Doc("main").Show())
	}
	checkRefused(t, "nothing is undone", b, "main", "u", redoing, api.ErrEmpty)
}

// P17.4: ErrName, if there is no such branch, or user is no name: of Edit, Undo and Redo, ahead of their own errors, and also where there would be something to do.
func TestEditNames(t *testing.T) {
	b := newAt(t, 3)
	must(t)(b.Edit("main", "u", creating(root, 0)))
	must(t)(b.Edit("main", "u", creating(root, 0)))
	must(t)(b.Undo("main", "u"))
	for _, f := range []call{doing(creating(root, 0)), doing(api.Edit{}), doing(throwing(dot(9, 9))), undoing, redoing} {
		for _, name := range append(notNames(), "a", "Main", "mai", "main-", "u") {
			checkRefused(t, "no branch", b, name, "u", f, api.ErrName)
			checkRefused(t, "no branch, no user", b, name, "", f, api.ErrName)
		}
		for _, user := range notNames() {
			checkRefused(t, "no user", b, "main", user, f, api.ErrName)
		}
	}
	for _, user := range []string{"u", "main", "-", "U", "0", repeated('u', api.MaxName)} {
		must(t)(b.Edit("main", user, creating(root, 0)))
	}
}

// P17.4: each user has a stack of their own at each branch: what one did at one branch nobody else undoes, nor the same one at another branch.
func TestStacks(t *testing.T) {
	b := newAt(t, 3)
	fork(t, b, "a", "main")
	fork(t, b, "u", "main")
	// Names and users that might be taken for one another, if they were put together as one text.
	users := []string{"u", "v", "U", "main", "a", "au", "-u"}
	for round := range 3 {
		for _, name := range b.Names() {
			for _, user := range users {
				for range round {
					must(t)(b.Edit(name, user, creating(root, 0)))
				}
			}
		}
		for _, name := range b.Names() {
			for _, user := range users {
				for range round {
					must(t)(b.Undo(name, user))
				}
				checkRefused(t, "nothing is done", b, name, user, undoing, api.ErrEmpty)
			}
		}
		for _, name := range b.Names() {
			for _, user := range users {
				for range round {
					must(t)(b.Redo(name, user))
				}
				checkRefused(t, "nothing is undone", b, name, user, redoing, api.ErrEmpty)
				for range round {
					must(t)(b.Undo(name, user))
				}
			}
		}
	}
}

// P17.4: a user undoes their own last edit, whatever others did since, and the last one at that branch.
func TestOwnEdit(t *testing.T) {
	b := newAt(t, 3)
	must(t)(b.Edit("main", "u", creating(root, 0)))
	must(t)(b.Edit("main", "v", creating(root, 0)))
	fork(t, b, "a", "main")
	checkRefused(t, "u did nothing in a", b, "a", "u", undoing, api.ErrEmpty)
	must(t)(b.Edit("a", "u", creating(root, 0)))
	checkIssued(t, "u in main", b, "main", "u", undoing, moved(768, 3, 3, dot(768, 1), trash, 768, 2))
	checkIssued(t, "u in a", b, "a", "u", undoing, moved(769, 2, 4, dot(769, 1), trash, 768, 2, 769, 1))
	checkRefused(t, "u did no more in a", b, "a", "u", undoing, api.ErrEmpty)
	checkIssued(t, "v in main", b, "main", "v", undoing, keyed(moved(768, 4, 4, dot(768, 2), trash, 768, 3), "t"))
	checkIssued(t, "u in main, done again", b, "main", "u", redoing, moved(768, 5, 5, dot(768, 1), root, 768, 4))
}

// P17.4: what was undone can't be done again once the user edits anew, but it can once others do.
func TestNothingUndone(t *testing.T) {
	b := newAt(t, 3)
	fork(t, b, "a", "main")
	for _, user := range []string{"u", "v"} {
		must(t)(b.Edit("main", user, creating(root, 0)))
		must(t)(b.Undo("main", user))
	}
	must(t)(b.Edit("main", "v", creating(root, 0)))
	must(t)(b.Edit("a", "u", creating(root, 0)))
	checkRefused(t, "v edited anew", b, "main", "v", redoing, api.ErrEmpty)
	must(t)(b.Redo("main", "u"))
	must(t)(b.Undo("a", "u"))
	must(t)(b.Redo("a", "u"))
}

// P17.4: the clock is a fresh one at each call: it has counted what its document has of its actor, whoever told the document, and is at its document's Time.
func TestClock(t *testing.T) {
	b := newAt(t, 3)
	checkIssued(t, "first", b, "main", "u", doing(creating(root, 0)), made(768, 1, 1))
	must(t)(b.Doc("main").Deliver(made(5, 1, 100)))
	checkIssued(t, "later than what was told", b, "main", "u", doing(throwing(dot(5, 1))), moved(768, 2, 101, dot(5, 1), trash, 5, 1, 768, 1))
	deliver(t, b, "main", made(6, 1, 50), made(768, 3, 200, 6, 1, 768, 2), made(768, 4, 201, 768, 3))
	checkIssued(t, "behind what was told of its actor", b, "main", "u", undoing, moved(768, 5, 202, dot(5, 1), root, 5, 1, 6, 1, 768, 4))
	checkIssued(t, "and again", b, "main", "v", doing(throwing(dot(768, 4))), moved(768, 6, 203, dot(768, 4), trash, 5, 1, 6, 1, 768, 5))
	// Of another branch's actor nothing is counted here.
	deliver(t, b, "main", made(769, 1, 300))
	checkIssued(t, "u again", b, "main", "u", redoing, moved(768, 7, 301, dot(5, 1), trash, 5, 1, 6, 1, 768, 6, 769, 1))
	fork(t, b, "a", "main")
	checkIssued(t, "in a", b, "a", "u", doing(throwing(dot(5, 1))), keyed(moved(769, 2, 302, dot(5, 1), trash, 5, 1, 6, 1, 768, 7, 769, 1), "t"))
}

// P17.4: branches have clocks of their own: each counts its own operations.
func TestClocks(t *testing.T) {
	b := newAt(t, 3)
	fork(t, b, "a", "main")
	fork(t, b, "b", "main")
	for n := range 5 {
		for i, name := range []string{"main", "a", "b"} {
			for k := range i + 1 {
				got := must(t)(b.Edit(name, "u", creating(root, 0)))
				if seq := n*(i+1) + k + 1; got[0].Id != dot(768+i, seq) || got[0].Time != seq {
					t.Fatalf("in %s there is %v at %d, not at %d", name, got[0].Id, got[0].Time, seq)
				}
			}
		}
	}
}

// P17.4: what is issued is new memory.
func TestIssuedIsNew(t *testing.T) {
	b := newAt(t, 3)
	must(t)(b.Edit("main", "u", creating(root, 0)))
	for _, f := range []call{doing(writing(dot(768, 1), 0, "abc")), doing(erasing(dot(768, 1), 0, 2)), undoing, redoing} {
		got := must(t)(f(b, "main", "u"))
		had := b.Doc("main").Ops()
		for i := range got {
			clear(got[i].Deps)
			got[i] = api.Op{}
		}
		checkOps(t, "an answer that is changed", b.Doc("main"), had...)
		if had := had[len(had)-1]; !ops.Check(had) {
			t.Errorf("%+v may not be", had)
		}
	}
}

// P17.4: the errors of edits are told, and nothing changes; what was done ahead of them can still be undone.
func TestEditErrors(t *testing.T) {
	b := newAt(t, 3)
	must(t)(b.Edit("main", "u", creating(root, 0)))
	must(t)(b.Edit("main", "u", creating(dot(768, 1), 0)))
	must(t)(b.Edit("main", "u", creating(root, 0)))
	must(t)(b.Undo("main", "u"))
	// Two of one key, between which there is none.
	deliver(t, b, "main", moved(5, 1, 9, dot(5, 1), dot(768, 2), 768, 2), moved(6, 1, 9, dot(6, 1), dot(768, 2), 768, 2))
	for _, x := range []struct {
		e    api.Edit
		want api.Errno
	}{
		{api.Edit{}, api.ErrArg}, {api.Edit{Kind: 6, Block: dot(768, 1)}, api.ErrArg},
		{creating(dot(9, 9), 0), api.ErrBlock}, {creating(trash, 0), api.ErrBlock}, {throwing(root), api.ErrBlock}, {writing(none, 0, "a"), api.ErrBlock},
		{creating(root, 3), api.ErrIndex}, {creating(root, -1), api.ErrIndex}, {writing(dot(768, 1), 1, "a"), api.ErrIndex}, {erasing(dot(768, 1), 0, 1), api.ErrIndex},
		{moving(dot(768, 1), dot(768, 2), 0), api.ErrCycle}, {moving(dot(768, 1), dot(768, 1), 0), api.ErrCycle},
		{creating(dot(768, 2), 1), api.ErrKey},
		{writing(dot(768, 1), 0, "\xff"), api.ErrForm},
		{writing(dot(768, 1), 0, strings.Repeat("a", api.MaxText+1)), api.ErrLimit}, {erasing(dot(768, 1), 0, api.MaxText+1), api.ErrLimit},
	} {
		checkRefused(t, "refused", b, "main", "u", doing(x.e), x.want)
		checkRefused(t, "refused to one who did nothing", b, "main", "w", doing(x.e), x.want)
	}
	checkRefused(t, "w did nothing", b, "main", "w", undoing, api.ErrEmpty)
	must(t)(b.Redo("main", "u"))
	must(t)(b.Undo("main", "u"))
	must(t)(b.Undo("main", "u"))
	must(t)(b.Undo("main", "u"))
	checkRefused(t, "u did no more", b, "main", "u", undoing, api.ErrEmpty)
}

// P17.4: the errors of undo: ErrGone, by which the edit is forgotten, and ErrCycle, by which it isn't.
func TestUndoErrors(t *testing.T) {
	b := newAt(t, 3)
	one, two := dot(768, 1), dot(768, 2)
	must(t)(b.Edit("main", "v", creating(root, 0)))
	must(t)(b.Edit("main", "v", creating(root, 1)))
	must(t)(b.Edit("main", "u", writing(one, 0, "ab")))
	must(t)(b.Edit("main", "v", erasing(one, 0, 2)))
	checkRefused(t, "gone", b, "main", "u", undoing, api.ErrGone)
	checkRefused(t, "forgotten", b, "main", "u", undoing, api.ErrEmpty)
	checkRefused(t, "nowhere", b, "main", "u", redoing, api.ErrEmpty)
	must(t)(b.Edit("main", "v", moving(one, two, 0)))
	must(t)(b.Edit("main", "u", moving(one, root, 1)))
	must(t)(b.Edit("main", "v", moving(two, one, 0)))
	checkRefused(t, "under itself", b, "main", "u", undoing, api.ErrCycle)
	checkRefused(t, "under itself", b, "main", "u", undoing, api.ErrCycle)
	must(t)(b.Undo("main", "v"))
	must(t)(b.Undo("main", "u"))
}

// P17.4: an edit that issues nothing is no edit to be undone.
func TestNothingIssued(t *testing.T) {
	b := newAt(t, 3)
	must(t)(b.Edit("main", "v", creating(root, 0)))
	checkIssued(t, "no text", b, "main", "u", doing(writing(dot(768, 1), 0, "")))
	checkRefused(t, "nothing to undo", b, "main", "u", undoing, api.ErrEmpty)
}

// P17.4: ErrArg while an operation of the branch's own actor waits, at that branch alone; behind it all goes on.
func TestOwnWaits(t *testing.T) {
	b := newAt(t, 3)
	must(t)(b.Edit("main", "u", creating(root, 0)))
	fork(t, b, "a", "main")
	deliver(t, b, "main", made(768, 3, 9, 768, 2))
	for _, f := range []call{doing(creating(root, 0)), undoing} {
		checkRefused(t, "one waits", b, "main", "u", f, api.ErrArg)
	}
	must(t)(b.Edit("a", "u", creating(root, 0)))
	deliver(t, b, "main", made(768, 2, 8, 768, 1))
	checkIssued(t, "none waits", b, "main", "u", undoing, moved(768, 4, 10, dot(768, 1), trash, 768, 3))
}

// P17.4: ErrSpent at the last time, ErrLimit at a full document; nothing changes, at other branches one goes on.
func TestSpentAndFull(t *testing.T) {
	b := newAt(t, 3)
	must(t)(b.Edit("main", "u", creating(root, 0)))
	fork(t, b, "a", "main")
	deliver(t, b, "main", made(5, 1, api.MaxTime-1))
	checkRefused(t, "no time for two", b, "main", "u", doing(writing(dot(768, 1), 0, "ab")), api.ErrSpent)
	must(t)(b.Edit("main", "u", writing(dot(768, 1), 0, "a")))
	checkRefused(t, "no time", b, "main", "u", doing(creating(root, 0)), api.ErrSpent)
	checkRefused(t, "no time", b, "main", "u", undoing, api.ErrSpent)
	must(t)(b.Edit("a", "u", creating(root, 0)))
	deliver(t, b, "a", filling(api.MaxOps-2)...)
	checkRefused(t, "no room", b, "a", "u", doing(creating(root, 0)), api.ErrLimit)
	checkRefused(t, "no room", b, "a", "u", undoing, api.ErrLimit)
	if l, e := b.Deliver("a", made(5, 1, 7)); e != api.ErrLimit || len(l) != 0 {
		t.Errorf("Deliver to a full one: %v, error %d", ids(l), e)
	}
}

// P17.4: a long row of edits, each undone, then done again, is as it was.
func TestManyEdits(t *testing.T) {
	b := newAt(t, 3)
	shown := []string{""}
	for range 40 {
		must(t)(b.Edit("main", "u", creating(root, 0)))
		shown = append(shown, b.Doc("main").Show())
	}
	back := slices.Clone(shown)
	slices.Reverse(back)
	for _, s := range back[1:] {
		must(t)(b.Undo("main", "u"))
		if b.Doc("main").Show() != s {
			t.Fatalf("undone: %q, not %q", b.Doc("main").Show(), s)
		}
	}
	for _, s := range shown[1:] {
		must(t)(b.Redo("main", "u"))
		if b.Doc("main").Show() != s {
			t.Fatalf("done again: %q, not %q", b.Doc("main").Show(), s)
		}
	}
}
