package wal_test

import (
	"math/rand/v2"
	"slices"
	"strings"
	"testing"

	"osier/api"
	"osier/disk"
	"osier/frame"
	"osier/wal"
)

// slow is a log by the words of the chapter, on a disk of its own.
type slow struct {
	disk    *disk.Disk
	name    string
	records []string
	sure    int
	told    []api.Errno // what Append and Sync were answered by the disk, ErrFull left out
}

// slowOpen is an Open by the words of the chapter.
func slowOpen(d *disk.Disk, name string) (*slow, []string, api.Errno) {
	const standing = "-.0123456789ABCDEFGHIJKLMNOPQRSTUVWXYZabcdefghijklmnopqrstuvwxyz"
	if d == nil {
		return nil, nil, api.ErrArg
	}
	if len(name) < 1 || len(name) > 32 || strings.Trim(name, standing) != "" {
		return nil, nil, api.ErrName
	}
	if d.Off() {
		return nil, nil, api.ErrPower
	}
	b, _ := d.Read(name)
	var records []string
	rest := b
	for {
		body, behind, e := frame.Next(rest)
		if e != api.OK {
			break
		}
		records, rest = append(records, string(body)), behind
	}
	if len(rest) > 0 {
		if e := d.Shorten(name, len(b)-len(rest)); e != api.OK {
			return nil, nil, e
		}
	}
	return &slow{disk: d, name: name, records: records}, records, api.OK
}

// hears is what the disk answered.
func (m *slow) hears(e api.Errno) api.Errno {
	if e != api.OK && e != api.ErrFull {
		m.told = append(m.told, e)
	}
	return e
}

// add is an Append by the words of the chapter.
func (m *slow) add(body string) api.Errno {
	if len(m.told) > 0 {
		return m.told[0]
	}
	b, e := frame.Frame([]byte(body))
	if e != api.OK {
		return e
	}
	if e := m.hears(m.disk.Append(m.name, b)); e != api.OK {
		return e
	}
	m.records = append(m.records, body)
	return api.OK
}

// sync is a Sync by the words of the chapter.
func (m *slow) sync() api.Errno {
	if len(m.told) > 0 {
		return m.told[0]
	}
	if len(m.records) == 0 {
		return api.OK
	}
	if e := m.hears(m.disk.Sync(m.name)); e != api.OK {
		return e
	}
	m.sure = len(m.records)
	return api.OK
}

// pair is a log, and one by the words of the chapter.
type pair struct {
	log  *wal.Log
	slow *slow
}

// open opens both, and looks that they are alike.
func open(t *testing.T, one, two *disk.Disk, name string) pair {
	t.Helper()
	l, got, e := wal.Open(one, name)
	m, want, f := slowOpen(two, name)
	if e != f || l == nil != (m == nil) || !slices.Equal(texts(got), want) {
		t.Fatalf("Open of %q: a log %v, %q, error %d, not %v, %q, error %d", name, l != nil, got, e, m != nil, want, f)
	}
	return pair{l, m}
}

// checkAlike looks whether two disks have the same.
func checkAlike(t *testing.T, one, two *disk.Disk) {
	t.Helper()
	if one.Off() != two.Off() || one.Room() != two.Room() || !slices.Equal(one.Names(), two.Names()) {
		t.Fatalf("off %v, room %d, %q, not %v, %d, %q", one.Off(), one.Room(), one.Names(), two.Off(), two.Room(), two.Names())
	}
	for _, name := range one.Names() {
		b, e := one.Read(name)
		c, f := two.Read(name)
		if string(b) != string(c) || e != f {
			t.Fatalf("%q is %q, error %d, not %q, error %d", name, b, e, c, f)
		}
	}
}

// atDisk does something by chance to both disks, which is no call of a log.
func atDisk(t *testing.T, r *rand.Rand, one, two *disk.Disk, name string) {
	t.Helper()
	n, junk := r.IntN(30), []byte(framed(t, chance(r)...))
	for _, d := range []*disk.Disk{one, two} {
		switch n {
		case 0, 1:
			d.Append(name, junk[:len(junk)/2])
		case 2:
			d.Append(name, junk)
		case 3:
			d.Shorten(name, len(junk))
		case 4:
			d.Remove(name)
		case 5:
			d.Rename(name, "b")
		case 6, 7, 8:
			d.Cut(len(junk)%5, len(junk)%11, len(junk)%23)
		default:
			if d.Off() {
				d.On()
			}
		}
	}
}

// P19.1, P19.2: whatever is called, by chance, a log is what it is by the words of the chapter, and so is its disk.
func TestByTheWords(t *testing.T) {
	r := rand.New(rand.NewPCG(19, 4))
	files := []string{"a", "b", "log-0", "", "no name", repeated("x", 32), repeated("x", 33), "a", "a", "b"}
	for range 700 {
		room := []int{0, 10, 30, 60, 100, 300}[r.IntN(6)]
		one, two := disk.New(room), disk.New(room)
		var logs []pair
		for range 80 {
			name := files[r.IntN(len(files))]
			switch n := r.IntN(10); {
			case n == 0 || len(logs) == 0:
				if p := open(t, one, two, name); p.log != nil {
					logs = append(logs, p)
				}
			case n < 4:
				atDisk(t, r, one, two, name)
			default:
				checkCall(t, r, logs[r.IntN(len(logs))])
			}
			checkAlike(t, one, two)
		}
	}
}

// checkCall does a call by chance to both logs, and looks that they are alike.
func checkCall(t *testing.T, r *rand.Rand, p pair) {
	t.Helper()
	var e, f api.Errno
	body := repeated("x", r.IntN(8)*r.IntN(3))
	if r.IntN(200) == 0 {
		body = repeated("x", api.MaxBody+1)
	}
	if r.IntN(3) == 0 {
		e, f = p.log.Sync(), p.slow.sync()
	} else {
		e, f = put(p.log, body), p.slow.add(body)
	}
	if e != f {
		t.Fatalf("error %d, not %d", e, f)
	}
	checkCounts(t, "by chance", p.log, len(p.slow.records), p.slow.sure)
}
