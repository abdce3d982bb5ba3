package disk_test

import (
	"math/rand/v2"
	"slices"
	"strconv"
	"strings"
	"testing"

	"osier/api"
	"osier/disk"
)

// slowFile is a file by the words of the chapter.
type slowFile struct{ name, sure, tail string }

// slow is a disk by the words of the chapter. Whatever is done to it makes another row of files.
type slow struct {
	room int
	row  []slowFile
	off  bool
	cut  []int // ops, part, keep; none: no Cut is to come
}

// of is the place of a file; below 0: there is none.
func (m *slow) of(name string) int {
	return slices.IndexFunc(m.row, func(f slowFile) bool { return f.name == name })
}

// without is the row without the files of a name.
func (m *slow) without(name string) []slowFile {
	var out []slowFile
	for _, f := range m.row {
		if f.name != name {
			out = append(out, f)
		}
	}
	return out
}

// bytes is how many bytes all files have.
func (m *slow) bytes() int {
	n := 0
	for _, f := range m.row {
		n += len(f.sure) + len(f.tail)
	}
	return n
}

// slowName tells whether a text is a name.
func slowName(name string) bool {
	return len(name) >= 1 && len(name) <= 32 && strings.Trim(name, standing) == ""
}

// asked is a call of an operation.
type asked struct {
	kind     int // 0 Append, 1 Sync, 2 Rename, 3 Remove, 4 Shorten
	name, to string
	n        int
}

// of does the call at a disk.
func (a asked) of(d *disk.Disk) api.Errno {
	return []step{putting(a.name, a.to), syncing(a.name), renaming(a.name, a.to), removing(a.name), shortening(a.name, a.n)}[a.kind].call(d)
}

// refused is the error that a call answers while no power goes off.
func (m *slow) refused(a asked) api.Errno {
	there := m.of(a.name) >= 0
	switch {
	case a.kind == 0 && !slowName(a.name), a.kind == 2 && !slowName(a.to):
		return api.ErrName
	case a.kind == 0 && (m.bytes()+len(a.to) > m.room || !there && len(m.row) == 100):
		return api.ErrFull
	case a.kind != 0 && !there:
		return api.ErrNone
	case a.kind == 4 && a.n < 0:
		return api.ErrArg
	}
	return api.OK
}

// done is the row behind a call that isn't refused.
func (m *slow) done(a asked) []slowFile {
	f := slowFile{name: a.name}
	if i := m.of(a.name); i >= 0 {
		f = m.row[i]
	}
	rest := m.without(a.name)
	switch a.kind {
	case 0:
		f.tail += a.to
	case 1:
		f.sure, f.tail = f.sure+f.tail, ""
	case 2:
		f.name = a.to
		rest = (&slow{row: rest}).without(a.to)
	case 3:
		return rest
	case 4:
		f.tail = f.tail[:min(len(f.tail), max(a.n-len(f.sure), 0))]
		f.sure = f.sure[:min(len(f.sure), a.n)]
	}
	return append(rest, f)
}

// do is a call by the words of the chapter.
func (m *slow) do(a asked) api.Errno {
	if m.off {
		return api.ErrPower
	}
	e := m.refused(a)
	if m.cut == nil || m.cut[0] > 0 {
		if m.cut != nil {
			m.cut[0]--
		}
		if e == api.OK {
			m.row = m.done(a)
		}
		return e
	}
	part, keep := m.cut[1], m.cut[2]
	switch {
	case e != api.OK, a.kind == 1, a.kind > 1 && part == 0:
	case a.kind == 0:
		a.to = a.to[:min(part, len(a.to))]
		m.row = m.done(a)
	default:
		m.row = m.done(a)
	}
	for i, f := range m.row {
		m.row[i] = slowFile{name: f.name, sure: f.sure + f.tail[:min(keep, len(f.tail))]}
	}
	m.off, m.cut = true, nil
	return api.ErrPower
}

// check looks whether a disk is what it is by the words of the chapter.
func (m *slow) check(t *testing.T, what string, d *disk.Disk, names []string) {
	t.Helper()
	var want []string
	for _, f := range m.row {
		want = append(want, f.name)
	}
	slices.Sort(want)
	if got := d.Names(); !slices.Equal(got, want) || d.Off() != m.off || d.Room() != m.room-m.bytes() {
		t.Fatalf("%s: off %v, room %d, %q, not %v, %d, %q", what, d.Off(), d.Room(), got, m.off, m.room-m.bytes(), want)
	}
	for _, name := range names {
		bytes, err := "", api.ErrNone
		if i := m.of(name); m.off {
			err = api.ErrPower
		} else if i >= 0 {
			bytes, err = m.row[i].sure+m.row[i].tail, api.OK
		}
		if b, e := d.Read(name); string(b) != bytes || e != err {
			t.Fatalf("%s: Read of %q: %q, error %d, not %q, error %d", what, name, b, e, bytes, err)
		}
	}
}

// chance is a call by chance.
func chance(r *rand.Rand, names []string) asked {
	a := asked{kind: r.IntN(5), name: names[r.IntN(len(names))], n: r.IntN(10) - 1}
	if r.IntN(3) == 0 {
		a.kind = 0
	}
	a.to = names[r.IntN(len(names))]
	if a.kind == 0 {
		a.to = strconv.Itoa(r.IntN(100000))[:r.IntN(2)*r.IntN(2)]
		for range r.IntN(6) {
			a.to += string([]byte{byte('a' + r.IntN(26))})
		}
	}
	return a
}

// P18.2 to P18.5: whatever is called, by chance, a disk is what it is by the words of the chapter.
func TestByTheWords(t *testing.T) {
	r := rand.New(rand.NewPCG(18, 4))
	names := []string{"a", "b", "c", "snap", "snap.new", "log-0", "a", "b", "", "no name", "a_", repeated("x", 32), repeated("x", 33)}
	for range 800 {
		room := []int{-1, 0, 5, 20, 60, 100, 1000}[r.IntN(7)]
		d, m := disk.New(room), &slow{room: max(room, 0)}
		for range 120 {
			switch r.IntN(12) {
			case 0:
				c := []int{r.IntN(8) - 1, r.IntN(6) - 1, r.IntN(6) - 1}
				want := api.OK
				if slices.Min(c) < 0 {
					want = api.ErrArg
				} else if m.off {
					want = api.ErrPower
				} else {
					m.cut = slices.Clone(c)
				}
				if e := d.Cut(c[0], c[1], c[2]); e != want {
					t.Fatalf("Cut of %v: error %d, not %d", c, e, want)
				}
			case 1:
				if m.off || r.IntN(6) == 0 {
					d.On()
					m.off, m.cut = false, nil
				}
			default:
				a := chance(r, names)
				if got, want := a.of(d), m.do(a); got != want {
					t.Fatalf("%+v: error %d, not %d", a, got, want)
				}
			}
			m.check(t, "by chance", d, names)
		}
	}
}

// P18.2, P18.4: likewise where there are about as many files as there may be.
func TestByTheWordsOfManyFiles(t *testing.T) {
	r := rand.New(rand.NewPCG(18, 5))
	var names []string
	for i := range 104 {
		names = append(names, "f"+strconv.Itoa(i))
	}
	d, m := disk.New(3000), &slow{room: 3000}
	full := 0
	for i := range 6000 {
		a := chance(r, names)
		if r.IntN(12) > 0 {
			a.kind, a.to = 0, a.to[:min(len(a.to), 1)]
		}
		if i%500 == 499 {
			cut(t, d, 0, 1, 1)
			m.cut = []int{0, 1, 1}
		}
		got, want := a.of(d), m.do(a)
		if got != want {
			t.Fatalf("%+v: error %d, not %d", a, got, want)
		}
		if got == api.ErrFull && len(m.row) == api.MaxFiles && m.bytes() < m.room {
			full++
		}
		if i%50 == 0 || m.off {
			m.check(t, "many files", d, names)
			d.On()
			m.off, m.cut = false, nil
		}
	}
	if full == 0 {
		t.Error("there were never too many files")
	}
}

// kept is what is known of a file: what of it is sure, and all that was put there.
type kept struct{ sure, all string }

// P18.6: whatever is done, but Rename, Remove and Shorten of a file, what of it is sure is there, and of what was appended behind it a beginning.
func TestSureStays(t *testing.T) {
	r := rand.New(rand.NewPCG(18, 6))
	names := []string{"a", "b", "c"}
	for range 600 {
		d, known := disk.New(150), map[string]kept{}
		for range 100 {
			name := names[r.IntN(len(names))]
			k := known[name]
			switch r.IntN(9) {
			case 0, 1, 2:
				b, off := repeated(string([]byte{byte('a' + r.IntN(26))}), r.IntN(5)), d.Off()
				e := d.Append(name, []byte(b))
				// Of what is put there when the power goes off, too, there is a beginning.
				if e == api.OK || e == api.ErrPower && !off && slices.Contains(d.Names(), name) {
					known[name] = kept{k.sure, k.all + b}
				}
			case 3, 4:
				if d.Sync(name) == api.OK {
					known[name] = kept{k.all, k.all}
				}
			case 5:
				d.Cut(r.IntN(5), r.IntN(5), r.IntN(5))
			case 6:
				d.Rename("x", "y")
				d.Append("y", []byte("x"))
				d.Rename("y", "x")
				d.Shorten("x", r.IntN(3))
				d.Remove("y")
			case 7:
				d.Rename(name, "no name")
				d.Rename("z", name)
				d.Shorten(name, -1)
				d.Remove(name + "z")
				d.Append("", []byte("x"))
				d.Append(name, make([]byte, 151))
			default:
				known = checkKept(t, d, known)
			}
		}
		checkKept(t, d, known)
	}
}

// checkKept looks, with the power on again, whether all is there that is known to be sure, and nothing that wasn't put there: what is there then, and sure as before, or, if the power was off, all of it.
func checkKept(t *testing.T, d *disk.Disk, known map[string]kept) map[string]kept {
	t.Helper()
	off := d.Off()
	d.On()
	out := map[string]kept{}
	for name, k := range known {
		b, e := d.Read(name)
		s := string(b)
		if e != api.OK || !strings.HasPrefix(s, k.sure) || !strings.HasPrefix(k.all, s) || !off && s != k.all {
			t.Fatalf("%q is %q, error %d; sure was %q of %q, off %v", name, s, e, k.sure, k.all, off)
		}
		out[name] = kept{k.sure, s}
		if off {
			out[name] = kept{s, s}
		}
	}
	return out
}

// P18.6: reading changes nothing: of two disks at which the same is done one is read all the time.
func TestReadingChangesNothing(t *testing.T) {
	r := rand.New(rand.NewPCG(18, 7))
	names := []string{"a", "b", "c", "", "no name"}
	for range 300 {
		one, two := disk.New(60), disk.New(60)
		for range 60 {
			for _, name := range names {
				if b, e := one.Read(name); e == api.OK {
					clear(b[:cap(b)])
				}
			}
			clear(one.Names())
			one.Room()
			one.Off()
			a := chance(r, names)
			if got, want := a.of(one), a.of(two); got != want {
				t.Fatalf("%+v: error %d, not %d", a, got, want)
			}
			if r.IntN(10) == 0 {
				n := r.IntN(4)
				one.Cut(n, n, n)
				two.Cut(n, n, n)
			}
			if one.Off() != two.Off() || one.Room() != two.Room() || !slices.Equal(one.Names(), two.Names()) {
				t.Fatalf("%+v: one that is read is %v, %d, %q, not %v, %d, %q", a, one.Off(), one.Room(), one.Names(), two.Off(), two.Room(), two.Names())
			}
			if one.Off() && r.IntN(3) == 0 {
				one.On()
				two.On()
			}
		}
		one.On()
		two.On()
		if got, want := on(t, one), on(t, two); !slices.Equal(got, want) {
			t.Fatalf("one that is read has %q, not %q", got, want)
		}
	}
}
