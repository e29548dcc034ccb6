package disk

import (
	"bytes"
	"math"
	"slices"
	"strings"
	"testing"

	"argosy/api"
)

// steps is a row of numbers that looks thrown, and is the same in each run.
func steps(seed uint64) func(below int) int {
	return func(below int) int {
		seed = seed*6364136223846793005 + 1442695040888963407
		return int(seed>>33) % below
	}
}

// P3.7: what is handed in isn't changed, and isn't kept.
func TestGivenMemory(t *testing.T) {
	d := made(t, 100)
	given := []byte("12345678")
	for _, name := range []string{"a", "b", "a"} {
		wants(t, "Append", d.Append(name, given[:3]), api.OK)
		if string(given) != "12345678" {
			t.Fatalf("Append changed what it was given: %q", given)
		}
	}
	copy(given, "xxxxxxxx")
	has(t, d, "a", "123123", "b", "123")
	keeps := []int{2, 9, 7, 7}
	after := d.Crash(keeps[:2])
	if !slices.Equal(keeps, []int{2, 9, 7, 7}) {
		t.Errorf("Crash changed what it was given: %v", keeps)
	}
	clear(keeps)
	has(t, after, "a", "12", "b", "1")
}

// P3.7: answers are new memory, their spare room too.
func TestAnsweredMemory(t *testing.T) {
	d := lasting(t, "12", "345")
	put(t, d, "b", "6")
	wants(t, "Cut", d.Cut("a", 4), api.OK)
	first, _ := d.Read("a")
	second, _ := d.Read("a")
	names := d.Names()
	clear(first[:cap(first)])
	clear(names[:cap(names)])
	if string(second) != "1234" {
		t.Errorf("two answers share memory: %q", second)
	}
	has(t, d, "a", "1234", "b", "6")
	put(t, d, "a", "7")
	if string(second) != "1234" {
		t.Errorf("an answer was changed behind the call: %q", second)
	}
	clear(second[:cap(second)])
	has(t, d, "a", "12347", "b", "6")
}

// modelByte is a byte of a file, and whether it lasts.
type modelByte struct {
	b     byte
	lasts bool
}

// model is a disk that is kept by the words of the chapter, as simply as can be.
type model struct {
	room  int
	files map[string][]modelByte
	ends  bool // the power has a limit
	left  int
	down  bool
}

func (m *model) used() int {
	n := 0
	for _, f := range m.files {
		n += len(f)
	}
	return n
}

// powered tells whether a change that has no other error is done.
func (m *model) powered() bool {
	m.down = m.ends && m.left == 0
	m.left--
	return !m.down
}

// refused gives the error of a change of a file, if it has one, and tells whether the power is there.
func (m *model) refused(name string, right bool) api.Errno {
	_, there := m.files[name]
	if m.down {
		return api.ErrDown
	} else if !there {
		return api.ErrNoFile
	} else if !right {
		return api.ErrArg
	} else if !m.powered() {
		return api.ErrDown
	}
	return api.OK
}

func (m *model) add(name string, data []byte) api.Errno {
	_, there := m.files[name]
	if m.down {
		return api.ErrDown
	} else if name == "" || len(name) > 16 {
		return api.ErrArg
	} else if !there && len(m.files) == 32 || m.used()+len(data) > m.room {
		return api.ErrFull
	}
	m.files[name] = slices.Clone(m.files[name])
	for _, b := range data {
		m.files[name] = append(m.files[name], modelByte{b, false})
	}
	if !m.powered() {
		return api.ErrDown
	}
	return api.OK
}

func (m *model) sync(name string) api.Errno {
	err := m.refused(name, true)
	for i := range m.files[name] {
		m.files[name][i].lasts = m.files[name][i].lasts || err == api.OK
	}
	return err
}

func (m *model) rename(from, to string) api.Errno {
	err := m.refused(from, to != "" && len(to) <= 16)
	if err == api.OK && from != to {
		m.files[to] = m.files[from]
		delete(m.files, from)
	}
	return err
}

func (m *model) remove(name string) api.Errno {
	err := m.refused(name, true)
	if err == api.OK {
		delete(m.files, name)
	}
	return err
}

func (m *model) cut(name string, n int) api.Errno {
	err := m.refused(name, n >= 0 && n <= len(m.files[name]))
	if err == api.OK {
		m.files[name] = slices.Clone(m.files[name][:n])
	}
	return err
}

func (m *model) names() []string {
	var names []string
	for name := range m.files {
		names = append(names, name)
	}
	slices.Sort(names)
	return names
}

func (m *model) crash(keeps []int) *model {
	after := &model{room: m.room, files: map[string][]modelByte{}}
	for i, name := range m.names() {
		var lost int
		for _, b := range m.files[name] {
			if !b.lasts {
				lost++
			}
		}
		keep := 0
		if i < len(keeps) {
			keep = ((keeps[i] % (lost + 1)) + lost + 1) % (lost + 1)
		}
		after.files[name] = []modelByte{}
		for _, b := range m.files[name] {
			if b.lasts || keep > 0 {
				after.files[name] = append(after.files[name], modelByte{b.b, true})
			}
			if !b.lasts {
				keep--
			}
		}
	}
	return after
}

// alike fails, unless a disk and a model tell the same.
func alike(t *testing.T, d *Disk, m *model) {
	t.Helper()
	if got := d.Names(); !slices.Equal(got, m.names()) || d.Used() != m.used() {
		t.Fatalf("%q, %d bytes, want %q, %d", got, d.Used(), m.names(), m.used())
	}
	for name, file := range m.files {
		var want []byte
		wantErr := api.OK
		for _, b := range file {
			want = append(want, b.b)
		}
		if m.down {
			want, wantErr = nil, api.ErrDown
		}
		if got, err := d.Read(name); !bytes.Equal(got, want) || err != wantErr {
			t.Fatalf("Read(%q): %q, %v, want %q, %v", name, got, err, want, wantErr)
		}
	}
}

// names that steps choose from: wrong ones, and more right ones than a disk has files.
func nameTable() []string {
	table := []string{"", strings.Repeat("n", 17), strings.Repeat("n", 16)}
	for i := range 34 {
		table = append(table, string(rune('a'+i)))
	}
	return table
}

// run does a row of steps with a disk and a model, and gives what the disk has told in all.
func run(t *testing.T, seed uint64, few bool) []byte {
	next := steps(seed)
	room := 1 + next(400)
	names := nameTable()
	if few {
		names = names[:6]
	}
	d, m := made(t, room), &model{room: room, files: map[string][]modelByte{}}
	var told []byte
	for range 400 {
		name, other, n := names[next(len(names))], names[next(len(names))], next(20)-2
		got, want := api.OK, api.OK
		switch next(14) {
		case 0, 1, 2, 3, 4, 5:
			data := bytes.Repeat([]byte{byte(n + 'A')}, next(room/8+2))
			got, want = d.Append(name, data), m.add(name, data)
		case 6, 7:
			got, want = d.Sync(name), m.sync(name)
		case 8:
			got, want = d.Rename(name, other), m.rename(name, other)
		case 9:
			got, want = d.Remove(name), m.remove(name)
		case 10:
			got, want = d.Cut(name, n), m.cut(name, n)
		case 11:
			d.Limit(n)
			m.ends, m.left = n >= 0, n
		default:
			if m.down || n == 0 {
				keeps := make([]int, next(40))
				for i := range keeps {
					keeps[i] = next(100) - 50
				}
				d, m = d.Crash(keeps), m.crash(keeps)
			}
		}
		if got != want {
			t.Fatalf("%v, want %v", got, want)
		}
		alike(t, d, m)
		alike(t, d.Crash(nil), m.crash(nil))
		told = append(told, byte(got), byte(d.Used()), byte(len(d.Names())))
	}
	return told
}

// P3.1 to P3.6: as the model, over many steps; P2: two runs tell the same.
func TestAsModel(t *testing.T) {
	for seed := range uint64(60) {
		few := seed%2 == 0
		if !bytes.Equal(run(t, seed, few), run(t, seed, few)) {
			t.Fatalf("seed %d: two runs differ", seed)
		}
	}
}

// P1: all arguments, whatever they are, on a disk that is up and on one that is down.
func TestAnyArguments(t *testing.T) {
	numbers := []int{math.MinInt, -1, 0, 1, 3, api.MaxRoom, math.MaxInt}
	texts := []string{"", "a", "b", "\xff\x00", strings.Repeat("n", 1000)}
	for _, limit := range numbers {
		d := lasting(t, "12", "3")
		for range 2 {
			for _, text := range texts {
				for _, n := range numbers {
					d.Cut(text, n)
					d.Crash([]int{n, n})
				}
				for _, other := range texts {
					d.Rename(text, other)
				}
				d.Append(text, []byte(text))
				d.Sync(text)
				d.Read(text)
				d.Remove(text)
			}
			d.Limit(limit)
		}
	}
}
