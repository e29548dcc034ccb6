package btree

import (
	"cmp"
	"maps"
	"math"
	"slices"
	"strconv"
	"testing"
)

// steps is a row of numbers that looks thrown, and is the same in each run.
func steps(seed uint64) func(below int) int {
	return func(below int) int {
		seed = seed*6364136223846793005 + 1442695040888963407
		return int(seed>>33) % below
	}
}

// pair is what Put, Get and Delete answer.
type pair[V comparable] struct {
	value V
	ok    bool
}

func paired[V comparable](value V, ok bool) pair[V] {
	return pair[V]{value, ok}
}

// holds fails, unless the tree has just what a map has, by each of the calls that tell it.
func holds[K cmp.Ordered, V comparable](t *testing.T, x *Tree[K, V], model map[K]V) {
	t.Helper()
	keys := slices.Sorted(maps.Keys(model))
	values := make([]V, len(keys))
	for i, key := range keys {
		values[i] = model[key]
	}
	if x.Len() != len(keys) {
		t.Fatalf("Len: %d, want %d", x.Len(), len(keys))
	}
	if got := x.Keys(); !slices.Equal(got, keys) {
		t.Fatalf("Keys: %v, want %v", got, keys)
	}
	if got := x.Values(); !slices.Equal(got, values) {
		t.Fatalf("Values: %v, want %v", got, values)
	}
	at := 0
	for key, value := range x.All() {
		if at >= len(keys) || key != keys[at] || value != values[at] {
			t.Fatalf("All, at %d: %v, %v", at, key, value)
		}
		at++
	}
	if at != len(keys) {
		t.Fatalf("All: %d keys, want %d", at, len(keys))
	}
	for key, value := range model {
		if got := paired(x.Get(key)); got != (pair[V]{value, true}) {
			t.Fatalf("Get(%v): %v", key, got)
		}
	}
	sound(t, x)
}

// sound fails, unless the tree's nodes are as they must be for its calls to look at few.
func sound[K cmp.Ordered, V any](t *testing.T, x *Tree[K, V]) {
	t.Helper()
	depth := 0
	for n := x.root; !n.leaf(); n = n.children[0] {
		depth++
	}
	soundNode(t, x.root, depth, true)
	for bound, d := 1, 0; d < depth; d++ {
		if bound *= least; bound > x.Len() {
			t.Fatalf("%d keys, %d deep", x.Len(), depth)
		}
	}
}

func soundNode[K cmp.Ordered, V any](t *testing.T, n *node[K, V], depth int, root bool) {
	t.Helper()
	if len(n.items) > most || !root && len(n.items) < least {
		t.Fatalf("a node of %d items", len(n.items))
	}
	if n.leaf() != (depth == 0) {
		t.Fatalf("a leaf %d above the others", depth)
	}
	if !n.leaf() && len(n.children) != len(n.items)+1 {
		t.Fatalf("%d children, %d items", len(n.children), len(n.items))
	}
	for _, child := range n.children {
		soundNode(t, child, depth-1, false)
	}
}

// P2.1, P2.2, P2.3: an empty tree.
func TestEmpty(t *testing.T) {
	x := New[string, int]()
	holds(t, x, map[string]int{})
	if v, ok := x.Get("a"); v != 0 || ok {
		t.Errorf("Get: %d, %v", v, ok)
	}
	if v, ok := x.Delete("a"); v != 0 || ok {
		t.Errorf("Delete: %d, %v", v, ok)
	}
	if k, ok := x.First(""); k != "" || ok {
		t.Errorf("First: %q, %v", k, ok)
	}
	for k := range x.From("") {
		t.Errorf("From: %q", k)
	}
	holds(t, x.Clone(), map[string]int{})
}

// P2.1, P2.2: the chapter's example.
func TestExample(t *testing.T) {
	x := New[string, int]()
	for _, c := range []struct {
		key   string
		value int
		want  pair[int]
	}{{"b", 1, pair[int]{0, false}}, {"a", 2, pair[int]{0, false}}, {"b", 3, pair[int]{1, true}}} {
		if got := paired(x.Put(c.key, c.value)); got != c.want {
			t.Errorf("Put(%q, %d): %v, want %v", c.key, c.value, got, c.want)
		}
	}
	holds(t, x, map[string]int{"a": 2, "b": 3})
	if k, ok := x.First("aa"); k != "b" || !ok {
		t.Errorf("First(aa): %q, %v", k, ok)
	}
}

// P2.1: a zero value is one, too.
func TestZeroValues(t *testing.T) {
	x := New[int, int]()
	x.Put(0, 0)
	if got := paired(x.Get(0)); got != (pair[int]{0, true}) {
		t.Errorf("Get: %v", got)
	}
	if k, ok := x.First(0); k != 0 || !ok {
		t.Errorf("First: %d, %v", k, ok)
	}
	if k, ok := x.First(1); k != 0 || ok {
		t.Errorf("First of a greater one: %d, %v", k, ok)
	}
	if got := paired(x.Put(0, 5)); got != (pair[int]{0, true}) {
		t.Errorf("Put: %v", got)
	}
	if got := paired(x.Delete(0)); got != (pair[int]{5, true}) {
		t.Errorf("Delete: %v", got)
	}
	if got := paired(x.Delete(0)); got != (pair[int]{0, false}) {
		t.Errorf("Delete again: %v", got)
	}
}

// orders gives lists of all numbers below size, in several orders.
func orders(size int) [][]int {
	next := steps(uint64(size))
	up, down, mixed := make([]int, size), make([]int, size), make([]int, size)
	for i := range size {
		up[i], down[i], mixed[i] = i, size-1-i, i
	}
	for i := range size {
		k := next(size)
		mixed[i], mixed[k] = mixed[k], mixed[i]
	}
	return [][]int{up, down, mixed}
}

// P2.1, P2.2: keys that come and go in any order.
func TestPutAndDeleteInOrders(t *testing.T) {
	for _, size := range []int{1, 2, 8, 16, 17, 18, 33, 100, 150, 400} {
		for _, come := range orders(size) {
			for _, gone := range orders(size) {
				x, model := New[int, int](), map[int]int{}
				for _, k := range come {
					if got := paired(x.Put(k, k+7)); got != (pair[int]{0, false}) {
						t.Fatalf("Put(%d): %v", k, got)
					}
					model[k] = k + 7
				}
				holds(t, x, model)
				for i, k := range gone {
					if got := paired(x.Delete(k)); got != (pair[int]{k + 7, true}) {
						t.Fatalf("Delete(%d): %v", k, got)
					}
					delete(model, k)
					if i%13 == 0 || len(model) < 3 {
						holds(t, x, model)
					}
				}
			}
		}
	}
}

// P2.1, P2.2, P2.5: as a map, over many steps.
func TestAsMap(t *testing.T) {
	next := steps(5)
	for _, span := range []int{10, 60, 700, 20000} {
		x, model := New[string, int](), map[string]int{}
		for i := range 12000 {
			key := strconv.Itoa(next(span))
			was, had := model[key]
			want := pair[int]{was, had}
			switch grow := i/2000%2 == 0; {
			case next(3) > 0 == grow:
				if got := paired(x.Put(key, i)); got != want {
					t.Fatalf("Put(%q): %v, want %v", key, got, want)
				}
				model[key] = i
			case next(4) == 0:
				if got := paired(x.Get(key)); got != want {
					t.Fatalf("Get(%q): %v, want %v", key, got, want)
				}
			default:
				if got := paired(x.Delete(key)); got != want {
					t.Fatalf("Delete(%q): %v, want %v", key, got, want)
				}
				delete(model, key)
			}
			if i%499 == 0 {
				holds(t, x, model)
			}
		}
		holds(t, x, model)
	}
}

// P2.2, P2.3: First and From, at keys that are there, between them, and beyond them.
func TestFirstAndFrom(t *testing.T) {
	for _, size := range []int{0, 1, 16, 17, 200, 1000} {
		x := New[int, string]()
		for k := range size {
			x.Put(3*k+1, strconv.Itoa(k))
		}
		for from := -2; from < 3*size+3; from++ {
			begin := max(0, (from+1)/3)
			first, ok := x.First(from)
			if ok != (begin < size) || ok && first != 3*begin+1 || !ok && first != 0 {
				t.Fatalf("%d keys, First(%d): %d, %v", size, from, first, ok)
			}
			at := begin
			for k, v := range x.From(from) {
				if k != 3*at+1 || v != strconv.Itoa(at) {
					t.Fatalf("%d keys, From(%d): %d, %q", size, from, k, v)
				}
				at++
			}
			if at != max(begin, size) {
				t.Fatalf("%d keys, From(%d) ends at %d", size, from, at)
			}
		}
	}
}

// P2.3: a loop may end at any key.
func TestLoopEnds(t *testing.T) {
	x := New[int, int]()
	for k := range 600 {
		x.Put(k, k)
	}
	for stop := range 600 {
		n := 0
		for k := range x.All() {
			n++
			if k == stop {
				break
			}
		}
		m := 0
		for k := range x.From(stop / 2) {
			m++
			if k == stop {
				break
			}
		}
		if n != stop+1 || m != stop-stop/2+1 {
			t.Fatalf("loops that end at %d: %d and %d steps", stop, n, m)
		}
	}
}

// P2.3: a function that was given tells what is there when it is ranged over, and again.
func TestLoopLater(t *testing.T) {
	x := New[int, int]()
	all, from := x.All(), x.From(50)
	for k := range 100 {
		x.Put(k, k)
	}
	for round := range 3 {
		n, m := 0, 0
		for k, v := range all {
			if n++; v != k {
				t.Errorf("All: %d, %d", k, v)
			}
		}
		for k := range from {
			if k < 50 {
				t.Errorf("From: %d", k)
			}
			m++
		}
		if n != 100+round || m != 50+round {
			t.Errorf("round %d: %d and %d", round, n, m)
		}
		x.Put(1000+round, 1000+round)
	}
	steps := 0
	for key := range x.All() {
		for range x.From(key) {
			steps++
		}
	}
	if steps != 103*104/2 {
		t.Errorf("loops in loops: %d", steps)
	}
}

// P2.3: a loop in which the tree is changed ends, whatever the change is.
func TestLoopOfChangedTree(t *testing.T) {
	next := steps(6)
	for name, change := range map[string]func(x *Tree[int, int], k int){
		"put behind":     func(x *Tree[int, int], k int) { x.Put(k+1, k) },
		"put far behind": func(x *Tree[int, int], k int) { x.Put(2*k+1000, k); x.Put(2*k+1001, k) },
		"put ahead":      func(x *Tree[int, int], k int) { x.Put(-k-1, k) },
		"delete it":      func(x *Tree[int, int], k int) { x.Delete(k) },
		"delete behind":  func(x *Tree[int, int], k int) { x.Delete(k + 1); x.Delete(k + 2) },
		"delete far":     func(x *Tree[int, int], k int) { x.Delete(999 - k) },
		"delete all": func(x *Tree[int, int], k int) {
			for _, key := range x.Keys() {
				x.Delete(key)
			}
		},
		"any": func(x *Tree[int, int], k int) { x.Put(next(5000), k); x.Delete(next(5000)) },
	} {
		for _, size := range []int{1, 20, 1000} {
			x := New[int, int]()
			for k := range size {
				x.Put(k, k)
			}
			for k := range x.All() {
				change(x, k)
			}
			for k := range x.From(size / 2) {
				change(x, k)
			}
			model := map[int]int{}
			for _, k := range x.Keys() {
				model[k], _ = x.Get(k)
			}
			holds(t, x, model)
			if t.Failed() {
				t.Fatal(name)
			}
		}
	}
}

// P2.4: what is done to a clone, or to what was cloned, isn't seen in the other.
func TestClone(t *testing.T) {
	next := steps(7)
	x, model := New[int, int](), map[int]int{}
	for k := range 500 {
		x.Put(k, k)
		model[k] = k
	}
	y, twin := x.Clone(), maps.Clone(model)
	holds(t, y, twin)
	for i := range 4000 {
		a, b := next(700), next(700)
		if i%2 == 0 {
			x.Put(a, i)
			model[a] = i
			y.Delete(b)
			delete(twin, b)
		} else {
			y.Put(a, -i)
			twin[a] = -i
			x.Delete(b)
			delete(model, b)
		}
		if i%401 == 0 {
			holds(t, x, model)
			holds(t, y, twin)
		}
	}
	holds(t, x, model)
	holds(t, y, twin)
}

// P2.2: lists that were answered are new memory.
func TestAnswersAreNew(t *testing.T) {
	x, model := New[int, int](), map[int]int{}
	for k := range 40 {
		x.Put(k, k)
		model[k] = k
	}
	keys, values := x.Keys(), x.Values()
	clear(keys[:cap(keys)])
	clear(values[:cap(values)])
	holds(t, x, model)
}

// Values are kept as they are handed in: a list isn't copied.
func TestValuesAsHandedIn(t *testing.T) {
	x := New[int, []int]()
	list := []int{1, 2, 3}
	x.Put(1, list)
	list[0] = 9
	got, _ := x.Get(1)
	other, _ := x.Clone().Get(1)
	if got[0] != 9 || other[0] != 9 {
		t.Errorf("%v, %v", got, other)
	}
}

// P2.2: orders of keys of several types, as cmp.Compare has them.
func TestOrderOfKeys(t *testing.T) {
	texts := New[string, int]()
	for i, k := range []string{"b", "", "a\x00", "a", "\xff", "B", "ab"} {
		texts.Put(k, i)
	}
	if got := texts.Keys(); !slices.Equal(got, []string{"", "B", "a", "a\x00", "ab", "b", "\xff"}) {
		t.Errorf("%q", got)
	}
	numbers := New[float64, int]()
	for i, k := range []float64{1, math.Inf(1), -2, math.Inf(-1), 0, 1e-300} {
		numbers.Put(k, i)
	}
	if got := numbers.Keys(); !slices.Equal(got, []float64{math.Inf(-1), -2, 0, 1e-300, 1, math.Inf(1)}) {
		t.Errorf("%v", got)
	}
	if got := paired(numbers.Put(math.Copysign(0, -1), 9)); got != (pair[int]{4, true}) {
		t.Errorf("two noughts: %v", got)
	}
	bytes := New[int8, int]()
	for i := range 256 {
		bytes.Put(int8(i), i)
	}
	if got := bytes.Keys(); got[0] != -128 || got[255] != 127 || !slices.IsSorted(got) {
		t.Errorf("%v", got)
	}
}

// P1: calls end and don't panic with keys that aren't equal to themselves, either.
func TestNoNumbers(t *testing.T) {
	x := New[float64, int]()
	next := steps(8)
	for i := range 3000 {
		key := float64(next(90))
		if next(3) == 0 {
			key = math.NaN()
		}
		x.Put(key, i)
		x.Get(key)
		x.First(key)
		for range x.From(key) {
			break
		}
		if next(2) == 0 {
			x.Delete(key)
		}
	}
	x.Clone()
	x.Keys()
	x.Values()
}

// P2.5: parted nodes keep neither spare room nor what isn't theirs any more.
func TestCut(t *testing.T) {
	list := []int{0, 1, 2, 3, 4, 5, 6}
	ahead, behind := cut(list, 3, 4)
	if !slices.Equal(ahead, []int{0, 1, 2}) || !slices.Equal(behind, []int{4, 5, 6}) {
		t.Errorf("%v, %v", ahead, behind)
	}
	if cap(ahead) != 3 || cap(behind) != 3 {
		t.Errorf("room for %d and %d", cap(ahead), cap(behind))
	}
	if !slices.Equal(list[3:], []int{0, 0, 0, 0}) {
		t.Errorf("%v is kept", list[3:])
	}
}

// P2: two runs of the same calls give the same answers.
func TestSameAnswers(t *testing.T) {
	run := func() []int {
		next := steps(9)
		x := New[int, int]()
		var told []int
		for i := range 2000 {
			a, _ := x.Put(next(300), i)
			b, _ := x.Delete(next(300))
			c, _ := x.First(next(300))
			told = append(told, a, b, c, x.Len())
		}
		return append(append(told, x.Keys()...), x.Values()...)
	}
	if !slices.Equal(run(), run()) {
		t.Error("two runs differ")
	}
}
