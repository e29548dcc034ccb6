package prog

import (
	"math"
	"strconv"
	"strings"
	"testing"

	"argosy/api"
)

// checks fails, unless Check answers what it should.
func checks(t *testing.T, name string, txn api.Txn, regions int, right bool) {
	t.Helper()
	want := api.ErrArg
	if right {
		want = api.OK
	}
	for range 2 {
		if got := Check(txn, regions); got != want {
			t.Errorf("%s, %d regions: %v, want %v", name, regions, got, want)
		}
	}
}

// keyList gives rising keys.
func keyList(first, n int) []string {
	keys := []string{}
	for i := range n {
		keys = append(keys, "k"+strconv.Itoa(first+i))
	}
	return keys
}

// P5.1: the number of regions.
func TestCheckRegions(t *testing.T) {
	for _, c := range []struct {
		regions int
		right   bool
	}{
		{math.MinInt, false}, {-1, false}, {0, false}, {1, true}, {2, true}, {3, true}, {4, false}, {math.MaxInt, false},
	} {
		checks(t, "a run", api.Txn{Kind: api.TxRun}, c.regions, c.right)
		checks(t, "a move", api.Txn{Kind: api.TxMove, Writes: []string{"a"}}, c.regions, c.right)
	}
}

// P5.1: kinds that are none.
func TestCheckKind(t *testing.T) {
	for _, kind := range []int{math.MinInt, -1, 0, 3, math.MaxInt} {
		checks(t, "a kind that is none", api.Txn{Kind: kind}, 3, false)
		checks(t, "a kind that is none", api.Txn{Kind: kind, Writes: []string{"a"}}, 3, false)
	}
}

// P5.1: the declared keys of either kind.
func TestCheckKeys(t *testing.T) {
	long := strings.Repeat("k", 16)
	for name, c := range map[string]struct {
		reads, writes []string
		right         bool
	}{
		"none":                    {nil, nil, true},
		"lists of none":           {[]string{}, []string{}, true},
		"rising":                  {[]string{"a", "c"}, []string{"b", "d"}, true},
		"byte by byte":            {[]string{"B", "a", "a\x00", "ab", "b", "\xff"}, nil, true},
		"a longer one behind":     {nil, []string{"a", "aa"}, true},
		"a longer one ahead":      {nil, []string{"aa", "a"}, false},
		"Reads fall":              {[]string{"b", "a"}, nil, false},
		"Writes fall":             {nil, []string{"b", "a"}, false},
		"the last of Reads falls": {[]string{"a", "c", "b"}, nil, false},
		"one twice in Reads":      {[]string{"a", "a"}, nil, false},
		"one twice in Writes":     {nil, []string{"a", "b", "b"}, false},
		"one in both":             {[]string{"a", "b"}, []string{"b", "c"}, false},
		"the ends in both":        {[]string{"a", "z"}, []string{"b", "z"}, false},
		"eight":                   {keyList(1, 4), keyList(5, 4), true},
		"nine":                    {keyList(1, 4), keyList(5, 5), false},
		"eight Reads":             {keyList(1, 8), nil, true},
		"nine Reads":              {keyList(1, 9), nil, false},
		"eight Writes":            {nil, keyList(1, 8), true},
		"nine Writes":             {nil, keyList(1, 9), false},
		"of 16 bytes":             {[]string{long}, []string{long[:15] + "l"}, true},
		"of 17 bytes, in Reads":   {[]string{long + "k"}, nil, false},
		"of 17 bytes, in Writes":  {nil, []string{"a", long + "k"}, false},
		"an empty one in Reads":   {[]string{"", "a"}, nil, false},
		"an empty one in Writes":  {nil, []string{""}, false},
		"16 signs of 2 bytes":     {[]string{strings.Repeat("é", 16)}, nil, false},
		"8 signs of 2 bytes":      {[]string{strings.Repeat("é", 8)}, nil, true},
		"any bytes":               {[]string{"\x00"}, []string{"\xfe\xff"}, true},
	} {
		checks(t, name, api.Txn{Kind: api.TxRun, Reads: c.reads, Writes: c.writes}, 2, c.right)
	}
}

// P5.1: how many operations there may be, and no region.
func TestCheckRun(t *testing.T) {
	op := api.Op{Kind: api.OpEmit, Value: []byte("a")}
	for n, right := range map[int]bool{0: true, 1: true, 16: true, 17: false, 100: false} {
		txn := api.Txn{Kind: api.TxRun}
		for range n {
			txn.Ops = append(txn.Ops, op)
		}
		checks(t, "operations", txn, 1, right)
	}
	for _, to := range []int{math.MinInt, -1, 1, 2, math.MaxInt} {
		checks(t, "a run to a region", api.Txn{Kind: api.TxRun, To: to}, 3, false)
	}
	bad := api.Op{Kind: api.OpEmit, Key: "r"}
	for at := range 3 {
		ops := []api.Op{op, op, op}
		ops[at] = bad
		checks(t, "one that is wrong among others", api.Txn{Kind: api.TxRun, Reads: []string{"r"}, Ops: ops}, 3, false)
	}
}

// P5.1: which key, value and number each kind of operation may have.
func TestCheckOps(t *testing.T) {
	const read, written, none = "r", "w", ""
	keys := map[int][]string{
		api.OpRead:   {read, written},
		api.OpWrite:  {written},
		api.OpDelete: {written},
		api.OpCheck:  {read, written},
		api.OpAbsent: {read, written},
		api.OpAdd:    {written},
		api.OpEmit:   {none},
	}
	valued := map[int]bool{api.OpWrite: true, api.OpCheck: true, api.OpEmit: true}
	for kind := -2; kind <= 10; kind++ {
		for _, key := range []string{read, written, none, "q", "rr", "x"} {
			for _, size := range []int{0, 1, 32, 33, 1000} {
				for _, n := range []int64{0, 1, -1, math.MaxInt64, math.MinInt64} {
					right := size <= 32
					keyed := false
					for _, k := range keys[kind] {
						keyed = keyed || k == key
					}
					right = right && keyed && (size == 0 || valued[kind]) && (n == 0 || kind == api.OpAdd)
					op := api.Op{Kind: kind, Key: key, Value: make([]byte, size), N: n}
					txn := api.Txn{Kind: api.TxRun, Reads: []string{"p", read}, Writes: []string{"v", written}, Ops: []api.Op{op}}
					name := "kind " + strconv.Itoa(kind) + ", key " + key + ", value of " + strconv.Itoa(size) + ", N " + strconv.FormatInt(n, 10)
					checks(t, name, txn, 2, right)
				}
			}
		}
	}
	for _, kind := range []int{math.MinInt, math.MaxInt} {
		checks(t, "no kind", api.Txn{Kind: api.TxRun, Writes: []string{"w"}, Ops: []api.Op{{Kind: kind, Key: "w"}}}, 2, false)
	}
}

// P5.1: the chapter's example.
func TestCheckExample(t *testing.T) {
	txn := api.Txn{Kind: api.TxRun, Reads: []string{"a"}, Writes: []string{"b"}, Ops: []api.Op{
		{Kind: api.OpAdd, Key: "b", N: 5},
		{Kind: api.OpRead, Key: "a"},
	}}
	checks(t, "the example", txn, 1, true)
	txn.Ops = append(txn.Ops, api.Op{Kind: api.OpWrite, Key: "a"})
	checks(t, "OpWrite of a", txn, 1, false)
}

// P5.1: moves.
func TestCheckMove(t *testing.T) {
	long := strings.Repeat("k", 17)
	for name, c := range map[string]struct {
		txn   api.Txn
		right bool
	}{
		"a move":            {api.Txn{Writes: []string{"a"}, To: 1}, true},
		"lists of none":     {api.Txn{Reads: []string{}, Writes: []string{"a"}, Ops: []api.Op{}}, true},
		"of 16 bytes":       {api.Txn{Writes: []string{long[:16]}}, true},
		"of 17 bytes":       {api.Txn{Writes: []string{long}}, false},
		"an empty key":      {api.Txn{Writes: []string{""}}, false},
		"no key":            {api.Txn{To: 1}, false},
		"two keys":          {api.Txn{Writes: []string{"a", "b"}}, false},
		"Reads":             {api.Txn{Reads: []string{"b"}, Writes: []string{"a"}}, false},
		"Reads alone":       {api.Txn{Reads: []string{"a"}}, false},
		"an operation":      {api.Txn{Writes: []string{"a"}, Ops: []api.Op{{Kind: api.OpRead, Key: "a"}}}, false},
		"an operation of 0": {api.Txn{Writes: []string{"a"}, Ops: []api.Op{{}}}, false},
	} {
		c.txn.Kind = api.TxMove
		checks(t, name, c.txn, 2, c.right)
	}
	for regions := 1; regions <= 3; regions++ {
		for to := -2; to <= 5; to++ {
			checks(t, "to "+strconv.Itoa(to), api.Txn{Kind: api.TxMove, Writes: []string{"a"}, To: to}, regions, to >= 0 && to < regions)
		}
		for _, to := range []int{math.MinInt, math.MaxInt} {
			checks(t, "to "+strconv.Itoa(to), api.Txn{Kind: api.TxMove, Writes: []string{"a"}, To: to}, regions, false)
		}
	}
}
