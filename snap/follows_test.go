package snap_test

import (
	"bytes"
	"math/rand/v2"
	"reflect"
	"slices"
	"strconv"
	"strings"
	"testing"

	"osier/api"
	"osier/branch"
	"osier/disk"
	"osier/frame"
	"osier/num"
	"osier/snap"
)

// slowSave is a Save by the words of the chapter.
func slowSave(d *disk.Disk, name string, gen int, b []byte) api.Errno {
	const standing = "-.0123456789ABCDEFGHIJKLMNOPQRSTUVWXYZabcdefghijklmnopqrstuvwxyz"
	fresh, body := name+".new", slices.Concat(num.Int(nil, gen), b)
	switch {
	case d == nil || gen < 0:
		return api.ErrArg
	case len(fresh) > 32 || strings.Trim(fresh, standing) != "":
		return api.ErrName
	case len(body) > api.MaxBody:
		return api.ErrLimit
	case d.Off():
		return api.ErrPower
	}
	if _, e := d.Read(fresh); e != api.ErrNone {
		if e := d.Remove(fresh); e != api.OK {
			return e
		}
	}
	whole, _ := frame.Frame(body)
	if e := d.Append(fresh, whole); e != api.OK {
		return e
	}
	if e := d.Sync(fresh); e != api.OK {
		return e
	}
	return d.Rename(fresh, name)
}

// slowLoad is a Load by the words of the chapter.
func slowLoad(d *disk.Disk, name string) (int, []byte, api.Errno) {
	if d == nil {
		return 0, nil, api.ErrArg
	}
	b, e := d.Read(name)
	if e != api.OK {
		return 0, nil, e
	}
	body, behind, e := frame.Next(b)
	if e != api.OK {
		return 0, nil, e
	}
	r := num.Read(body)
	gen := r.Int()
	switch {
	case len(behind) > 0:
		return 0, nil, api.ErrForm
	case r.Err() != api.OK:
		return 0, nil, r.Err()
	case gen < 0:
		return 0, nil, api.ErrForm
	}
	return gen, body[len(body)-r.Left():], api.OK
}

// checkAlike looks whether two disks have the same.
func checkAlike(t *testing.T, one, two *disk.Disk) {
	t.Helper()
	if one.Off() != two.Off() || one.Room() != two.Room() || !slices.Equal(one.Names(), two.Names()) {
		t.Fatalf("off %v, room %d, %q, not %v, %d, %q", one.Off(), one.Room(), one.Names(), two.Off(), two.Room(), two.Names())
	}
	for _, name := range one.Names() {
		b, e := one.Read(name)
		c, f := two.Read(name)
		if string(b) != string(c) || e != f {
			t.Fatalf("%q is %q, error %d, not %q, error %d", name, b, e, c, f)
		}
	}
}

// atDisk does something by chance to both disks, which is no call of the package.
func atDisk(r *rand.Rand, one, two *disk.Disk, name string) {
	n, k := r.IntN(12), r.IntN(40)
	for _, d := range []*disk.Disk{one, two} {
		switch n {
		case 0:
			d.Append(name, []byte("tail"))
		case 1:
			d.Append(name+".new", []byte("torn"))
		case 2:
			d.Remove(name)
		case 3:
			d.Rename(name, "t")
		case 4:
			d.Shorten(name, k)
		case 5, 6, 7:
			d.Cut(k%6, k%7*k, k)
		default:
			d.On()
		}
	}
}

// P20.3, P20.4: whatever is called, by chance, it is as by the words of the chapter, and so is the disk.
func TestByTheWords(t *testing.T) {
	r := rand.New(rand.NewPCG(20, 1))
	namesOf := []string{"s", "s", "s", "t", "snap", "s.new", "", "no name", repeated("x", 28), repeated("x", 29)}
	told := map[api.Errno]int{}
	for range 1500 {
		room := []int{0, 20, 40, 80, 1000}[r.IntN(5)]
		one, two := disk.New(room), disk.New(room)
		for range 60 {
			name := namesOf[r.IntN(len(namesOf))]
			switch n := r.IntN(8); {
			case n < 3:
				gen, b := r.IntN(200)-10, []byte(repeated("x", r.IntN(20)))
				e, f := snap.Save(one, name, gen, b), slowSave(two, name, gen, b)
				if e != f {
					t.Fatalf("Save %d of %q as %q: error %d, not %d", gen, b, name, e, f)
				}
				told[e]++
			case n < 6:
				gen, b, e := snap.Load(one, name)
				want, c, f := slowLoad(two, name)
				if gen != want || !bytes.Equal(b, c) || e != f {
					t.Fatalf("Load of %q: %d, %q, error %d, not %d, %q, error %d", name, gen, b, e, want, c, f)
				}
				told[e]++
			default:
				atDisk(r, one, two, name)
			}
			checkAlike(t, one, two)
		}
	}
	for _, e := range []api.Errno{api.OK, api.ErrArg, api.ErrShort, api.ErrForm, api.ErrName, api.ErrNone, api.ErrPower, api.ErrFull} {
		if told[e] == 0 {
			t.Errorf("error %d was never told", e)
		}
	}
}

// grow does things by chance to branches: they are edited, forked, merged, and told operations of others, in any order.
func grow(r *rand.Rand, b, from *branch.Branches) {
	for range r.IntN(40) {
		all := b.Names()
		name, other, user := all[r.IntN(len(all))], all[r.IntN(len(all))], []string{"u", "v"}[r.IntN(2)]
		blocks := append(b.Doc(name).State().Tree().Blocks(), root)
		pick := func() api.Dot { return blocks[r.IntN(len(blocks))] }
		switch n := r.IntN(14); {
		case n < 6:
			b.Edit(name, user, api.Edit{Kind: r.IntN(6), Block: pick(), Parent: pick(), Index: r.IntN(2), Count: r.IntN(3), Text: "abc"[:r.IntN(4)]})
		case n < 8:
			b.Undo(name, user)
		case n < 9:
			b.Redo(name, user)
		case n < 10:
			b.Fork("b"+strconv.Itoa(r.IntN(9)), other, b.Doc(other).Version())
		case n < 11:
			b.Merge(name, other)
		default:
			l := from.Doc(from.Names()[r.IntN(len(from.Names()))]).Ops()
			for range r.IntN(3) * min(len(l), 1) {
				b.Deliver(name, l[r.IntN(len(l))])
			}
		}
	}
}

// P20.5: whatever was done, by chance: what is put is by the words of the chapter, is taken, and shows the same; and goes on as the same.
func TestPutAndTaken(t *testing.T) {
	r := rand.New(rand.NewPCG(20, 2))
	waits, forks := 0, 0
	for range 300 {
		one, two := newAt(t, 1), newAt(t, 2)
		for range 4 {
			grow(r, one, two)
			grow(r, two, one)
			b := snap.Put(one)
			if want := byWords(one); !bytes.Equal(b, want) {
				t.Fatalf("Put is\n%v, not\n%v", b, want)
			}
			for _, name := range one.Names() {
				waits += len(one.Doc(name).Waiting())
			}
			forks += len(one.Names()) - 1
			was := seen(one)
			one = checkTaken(t, "by chance", 1, b, was)
			if !reflect.DeepEqual(seenAt(7, checkTaken(t, "by chance", 7, b, seenAt(7, one))), seenAt(7, one)) {
				t.Fatal("at another replica it is another one")
			}
			checkMixed(t, r, b)
		}
	}
	if waits == 0 || forks == 0 {
		t.Errorf("%d waited, there were %d forks", waits, forks)
	}
}

// checkMixed looks at bytes some of which are others by chance.
func checkMixed(t *testing.T, r *rand.Rand, b []byte) {
	t.Helper()
	for range 20 {
		c := bytes.Clone(b)
		for range 1 + r.IntN(3) {
			c[r.IntN(len(c))] = []byte{0, 1, 2, 3, 255, byte(r.IntN(256)), c[r.IntN(len(c))]}[r.IntN(7)]
		}
		i := r.IntN(len(c))
		checkSome(t, "mixed", c)
		checkSome(t, "mixed", c[:i])
		checkSome(t, "mixed", slices.Concat(b[:i], c[r.IntN(len(c)):]))
	}
}
