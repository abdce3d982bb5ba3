package wal_test

import (
	"math/rand/v2"
	"slices"
	"strconv"
	"testing"

	"osier/api"
	"osier/disk"
	"osier/wal"
)

// syncing stands for a Sync in a row of calls; all others are bodies.
const syncing = "Sync"

// run is what is known behind a row of calls at a log.
type run struct {
	there []string // records that were there, and were appended
	sure  int      // how many of these Sync made sure
	may   []string // a record whose Append answered ErrPower; else none
	calls int      // calls that were answered, the one among them within which the power went off
}

// do calls a row of Appends and Syncs, until one answers ErrPower. The records that are there already come first.
func do(t *testing.T, l *wal.Log, there []string, row []string) run {
	t.Helper()
	out := run{there: slices.Clone(there)}
	for _, x := range row {
		out.calls++
		e := api.OK
		if x == syncing {
			e = l.Sync()
		} else {
			e = put(l, x)
		}
		switch {
		case e == api.ErrPower && x != syncing:
			out.may = []string{x}
			return out
		case e == api.ErrPower:
			return out
		case e != api.OK:
			t.Fatalf("%q: error %d", x, e)
		case x == syncing:
			out.sure = len(out.there)
		default:
			out.there = append(out.there, x)
		}
	}
	return out
}

// checkBeginning looks that the records that Open answers are a beginning of those that were there and were appended, perhaps with the one whose Append answered ErrPower; and that all that were made sure are among them.
func checkBeginning(t *testing.T, what string, bodies [][]byte, e api.Errno, r run) []string {
	t.Helper()
	got, all := texts(bodies), slices.Concat(r.there, r.may)
	if e != api.OK || len(got) < r.sure || len(got) > len(all) || !slices.Equal(got, all[:len(got)]) {
		t.Fatalf("%s: error %d, %q; there were %q, %d sure, and perhaps %q", what, e, got, r.there, r.sure, r.may)
	}
	return got
}

// checkRun opens a log again, and looks that its records are a right beginning, and that the file is just these.
func checkRun(t *testing.T, what string, d *disk.Disk, r run) []string {
	t.Helper()
	_, bodies, e := wal.Open(d, "log")
	got := checkBeginning(t, what, bodies, e, r)
	if len(got) > 0 || slices.Contains(d.Names(), "log") {
		checkFile(t, what, d, "log", framed(t, got...))
	}
	return got
}

// worked are rows of calls.
func worked() [][]string {
	return [][]string{
		{"a"},
		{"a", syncing},
		{"a", syncing, "bc"},
		{"", "", syncing, ""},
		{"a", "bc", syncing, "def", "", syncing, syncing, "g", "hi"},
		{syncing, "first", syncing, "second", syncing, "third", syncing},
		{"1", "2", "3", "4", "5", syncing, "6", "7", "8", "9"},
	}
}

// P19.3: the power goes off within each operation, with each part of it done and each length kept of the tails.
func TestPower(t *testing.T) {
	for _, row := range worked() {
		for ops := 0; ops < len(row); ops++ {
			for part := range 16 {
				for _, keep := range []int{0, 1, 3, 4, 7, 8, 9, 10, 11, 17, 18, 19, 25, 40, plenty} {
					d := disk.New(plenty)
					l := opened(t, d, "log")
					cut(t, d, ops, part, keep)
					r := do(t, l, nil, row)
					what := "cut at " + strconv.Itoa(ops) + ", " + strconv.Itoa(part) + ", " + strconv.Itoa(keep)
					d.On()
					got := checkRun(t, what, d, r)
					// With nothing lost, all that was whole is there.
					if keep == plenty && len(got) < len(r.there) {
						t.Errorf("%s: there are %d records of %d", what, len(got), len(r.there))
					}
				}
			}
		}
	}
}

// P19.3: one whose Append answered ErrPower is there if all of it was put there and kept, and isn't if not.
func TestPowerLast(t *testing.T) {
	for part := range 13 {
		for keep := range 13 {
			d := holding(t, "log", framed(t, "sure"))
			l := opened(t, d, "log", "sure")
			cut(t, d, 0, part, keep)
			r := do(t, l, []string{"sure"}, []string{"bc"})
			d.On()
			want := 1
			if part >= 10 && keep >= 10 {
				want = 2
			}
			if got := checkRun(t, "the last one", d, r); len(got) != want {
				t.Errorf("part %d, keep %d: there are %q", part, keep, got)
			}
		}
	}
}

// P19.3: with no cut all are there, sure or not.
func TestPowerStaysOn(t *testing.T) {
	for _, row := range worked() {
		d := disk.New(plenty)
		l := opened(t, d, "log")
		r := do(t, l, nil, row)
		if got := checkRun(t, "no cut", d, r); r.calls != len(row) || !slices.Equal(got, r.there) {
			t.Errorf("no cut: there are %q, not %q", got, r.there)
		}
	}
}

// P19.3: the power goes off again and again, also within the opening; what was there when it was opened goes on being told.
func TestPowerAgain(t *testing.T) {
	r := rand.New(rand.NewPCG(19, 3))
	opens := 0
	for range 400 {
		d := disk.New(plenty)
		known := run{}
		for range 25 {
			if r.IntN(3) > 0 {
				cut(t, d, r.IntN(7), r.IntN(14), r.IntN(30))
			}
			l, bodies, e := wal.Open(d, "log")
			if e == api.ErrPower {
				// It may be cut off or not, but what was torn is sure now.
				opens++
				d.On()
				l, bodies, e = wal.Open(d, "log")
			}
			got := checkBeginning(t, "again and again", bodies, e, known)
			sure := min(known.sure, len(got))
			known = do(t, l, got, chance(r))
			known.sure = max(known.sure, sure)
			if d.Off() {
				d.On()
			}
		}
	}
	if opens == 0 {
		t.Error("the power never went off within an opening")
	}
}

// chance is a row of calls by chance.
func chance(r *rand.Rand) []string {
	var out []string
	for range r.IntN(8) {
		if r.IntN(3) == 0 {
			out = append(out, syncing)
		} else {
			out = append(out, repeated(string([]byte{byte('a' + r.IntN(26))}), r.IntN(6)))
		}
	}
	return out
}
