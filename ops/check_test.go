package ops_test

import (
	"slices"
	"testing"

	"osier/api"
	"osier/ops"
)

// checkIs looks at what Check tells of all operations, that it tells it twice, and that it leaves their Deps as they were.
func checkIs(t *testing.T, l []api.Op, want bool) {
	t.Helper()
	for i, o := range l {
		was := slices.Clone(o.Deps)
		for range 2 {
			if got := ops.Check(o); got != want {
				t.Errorf("%d: Check(%+v): %v", i, o, got)
			}
		}
		if !slices.Equal(o.Deps, was) {
			t.Errorf("%d: Check(%+v): the Deps were %v", i, o, was)
		}
	}
}

// P7.1: operations of all kinds that may be, at the bounds of all that they have.
func TestCheckRight(t *testing.T) { checkIs(t, right(), true) }

// P7.1: an Id, a Time, Deps that aren't right.
func TestCheckHead(t *testing.T) { checkIs(t, wrongHeads(), false) }

// P7.1: Deps that are no vector.
func TestCheckDeps(t *testing.T) { checkIs(t, unvectored(), false) }

// P7.1: what an operation has by its kind, not right in one place.
func TestCheckParts(t *testing.T) { checkIs(t, wrongParts(), false) }

// P7.1: something where none may be.
func TestCheckFull(t *testing.T) { checkIs(t, full(), false) }

// P7.1: kinds that are none of the three.
func TestCheckKind(t *testing.T) { checkIs(t, unkind(), false) }

// P7.1: the chapter's examples, and the empty operation.
func TestCheckExamples(t *testing.T) {
	o := api.Op{Id: dot(1, 1), Time: 1, Kind: api.Move, Block: dot(1, 1), Parent: api.Root(), Key: "n"}
	checkIs(t, []api.Op{o, with(o, func(o *api.Op) { o.Deps = api.Vector{} })}, true)
	checkIs(t, []api.Op{
		with(o, func(o *api.Op) { o.Id.Seq = 2 }),
		with(o, func(o *api.Op) { o.Id.Seq, o.Block.Seq = 2, 2 }),
		{},
	}, false)
	checkIs(t, []api.Op{with(o, func(o *api.Op) { o.Id.Seq, o.Deps = 2, vec(1, 1) })}, true)
}

// had are the dots that the Deps 1.1 of 1.2 have, written out.
func had(d api.Dot) bool { return d == dot(1, 1) }

// table is what the chapter's table says of an operation 1.2 whose head is right, and whose Deps are 1.1.
func table(o api.Op) bool {
	none, root, trash := dot(0, 0), dot(0, -1), dot(0, -2)
	switch o.Kind {
	case 1:
		sided := o.Side == 1 || o.Side == 0 && o.At != none
		char := 0 <= o.Char && o.Char < 55296 || 57344 <= o.Char && o.Char <= 1114111
		return had(o.Block) && (o.At == none || had(o.At)) && sided && char && o.Parent == none && len(o.Key) == 0
	case 2:
		return had(o.Block) && had(o.At) && o.Side == 0 && o.Char == 0 && o.Parent == none && len(o.Key) == 0
	case 3:
		key := o.Key == "b" || o.Key == "az"
		parent := o.Parent == root || o.Parent == trash || had(o.Parent)
		return (o.Block == dot(1, 2) || had(o.Block)) && parent && o.Parent != o.Block && key && o.At == none && o.Side == 0 && o.Char == 0
	}
	return false
}

// P7.1: each with each of what an operation may have beyond its head, by the table.
func TestCheckTable(t *testing.T) {
	some := []api.Dot{{}, dot(1, 1), dot(1, 2), dot(1, 3), dot(2, 1), api.Root(), api.Trash()}
	n := 0
	look := func(o api.Op) {
		want := table(o)
		if want {
			n++
		}
		if ops.Check(o) != want {
			t.Fatalf("Check(%+v): %v", o, !want)
		}
	}
	o := api.Op{Id: dot(1, 2), Time: 7, Deps: vec(1, 1)}
	for o.Kind = range 5 {
		for _, o.Block = range some {
			for _, o.At = range some {
				for _, o.Parent = range some {
					for o.Side = -1; o.Side <= 2; o.Side++ {
						for _, o.Char = range []int{-1, 0, 1, 55295, 55296, 57343, 57344, 1114111, 1114112} {
							for _, o.Key = range []string{"", "a", "b", "az"} {
								look(o)
							}
						}
					}
				}
			}
		}
	}
	// Inserts: 5 characters, at none on one side or at 1.1 on two; one Delete; Moves of two keys, of 1.1 to two places, of 1.2 to three.
	if want := 5*3 + 1 + 2*5; n != want {
		t.Errorf("%d may be, not %d", n, want)
	}
}

// P7.1: each character from 0 on, and some beyond.
func TestCheckChars(t *testing.T) {
	o := insert()
	for o.Char = -10; o.Char < 1114111+10; o.Char++ {
		want := o.Char >= 0 && o.Char <= 1114111 && (o.Char <= 55295 || o.Char >= 57344)
		if ops.Check(o) != want {
			t.Errorf("Char %d: %v", o.Char, !want)
		}
	}
}
