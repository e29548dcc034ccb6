package front

import (
	"fmt"
	"testing"

	"argosy/api"
	"argosy/prog"
	"argosy/sched"
)

// model is a front that is kept by the words of the chapter: all submissions that were ever taken, each with what it is.
type model struct {
	all []*submission
}

type submission struct {
	id     api.Id
	txn    api.Txn
	try    int
	order  *api.Order // of the try; nil, if it has none yet
	closed bool
}

func (m *model) open() []*submission {
	var open []*submission
	for _, s := range m.all {
		if !s.closed {
			open = append(open, s)
		}
	}
	return open
}

func (m *model) submit(t api.Txn) (api.Id, api.Errno) {
	if prog.Check(t, 3) != api.OK {
		return api.Id{}, api.ErrArg
	}
	if len(m.open()) >= 64 {
		return api.Id{}, api.ErrFull
	}
	id := idOf(uint64(len(m.all) + 1))
	m.all = append(m.all, &submission{id: id, txn: t})
	return id, api.OK
}

func (m *model) orders(sc *sched.Sched) []api.Order {
	var orders []api.Order
	for _, s := range m.open() {
		if s.order == nil {
			o := sc.Make(api.Tag{Id: s.id, Try: s.try}, s.txn)
			s.order = &o
		}
		orders = append(orders, *s.order)
	}
	return orders
}

// present gives the open submission whose present try has a tag, and an order; or nil.
func (m *model) present(tag api.Tag) *submission {
	for _, s := range m.open() {
		if s.order != nil && tag == (api.Tag{Id: s.id, Try: s.try}) {
			return s
		}
	}
	return nil
}

func (m *model) decide(d api.Decision) (api.Reply, bool) {
	s := m.present(d.Tag)
	if s == nil {
		return api.Reply{}, false
	}
	if d.Result.Code == api.ErrStale && s.try < 2 {
		s.try, s.order = s.try+1, nil
		return api.Reply{}, false
	}
	s.closed = true
	if d.Result.Code == api.ErrStale {
		return api.Reply{Id: s.id, Result: api.Result{Code: api.ErrTries}}, true
	}
	return api.Reply{Id: s.id, Result: d.Result}, true
}

func (m *model) full(tag api.Tag) (api.Reply, bool) {
	s := m.present(tag)
	if s == nil {
		return api.Reply{}, false
	}
	s.closed = true
	return api.Reply{Id: s.id, Result: api.Result{Code: api.ErrLog}}, true
}

func (m *model) ids() []api.Id {
	var ids []api.Id
	for _, s := range m.open() {
		ids = append(ids, s.id)
	}
	return ids
}

// The kinds of calls.
const (
	submit = iota
	tell
	decide
	full
	kinds
)

// call is one of a kind: of a transaction, a sched, a decision, or a tag.
type call struct {
	kind     int
	txn      api.Txn
	sched    *sched.Sched
	decision api.Decision
}

// do does a call to both, and tells what each answered, and has open then.
func (c call) do(f *Front, m *model) (string, string) {
	var got, want string
	switch c.kind {
	case submit:
		id, err := f.Submit(c.txn)
		got = fmt.Sprint(id, err)
		id, err = m.submit(c.txn)
		want = fmt.Sprint(id, err)
	case tell:
		got = fmt.Sprint(f.Orders(c.sched))
		want = fmt.Sprint(m.orders(c.sched))
	case decide:
		reply, ok := f.Decide(c.decision)
		got = fmt.Sprint(reply, ok)
		reply, ok = m.decide(c.decision)
		want = fmt.Sprint(reply, ok)
	case full:
		reply, ok := f.Full(c.decision.Tag)
		got = fmt.Sprint(reply, ok)
		reply, ok = m.full(c.decision.Tag)
		want = fmt.Sprint(reply, ok)
	}
	return got + fmt.Sprint(f.Open()), want + fmt.Sprint(m.ids())
}

// scheds gives scheds whose records differ.
func scheds(t *testing.T, count int) []*sched.Sched {
	t.Helper()
	var all []*sched.Sched
	for i := range count {
		s := scheduled(t)
		for k := range i {
			move(t, s, "a", k%3)
			move(t, s, "b", 2-k%3)
		}
		all = append(all, s)
	}
	return all
}

// few gives calls that are about the first two submissions.
func few(t *testing.T) []call {
	t.Helper()
	all := []call{{kind: submit, txn: reading("a")}, {kind: submit, txn: api.Txn{Kind: api.TxRun}}}
	for _, s := range scheds(t, 2) {
		all = append(all, call{kind: tell, sched: s})
	}
	for try := range 2 {
		all = append(all,
			call{kind: decide, decision: decided(tryOf(1, try), api.ErrStale)},
			call{kind: decide, decision: decided(tryOf(1, try), api.OK, "out")},
			call{kind: full, decision: decided(tryOf(1, try), api.OK)},
		)
	}
	return append(all,
		call{kind: decide, decision: decided(tryOf(1, 2), api.ErrStale)},
		call{kind: decide, decision: decided(tryOf(2, 0), api.ErrAbort)},
	)
}

// P21.1 to P21.4: all rows of few calls.
func TestAllRowsOfCalls(t *testing.T) {
	calls := few(t)
	const length = 4
	rows := 1
	for range length {
		rows *= len(calls)
	}
	for row := range rows {
		f, m := began(), &model{}
		first := call{kind: submit, txn: writing("x", "a", "b")}
		first.do(f, m)
		for i, rest := 0, row; i < length; i, rest = i+1, rest/len(calls) {
			c := calls[rest%len(calls)]
			if got, want := c.do(f, m); got != want {
				t.Fatalf("row %d, call %d: %v:\n%s, want\n%s", row, i, c, got, want)
			}
		}
	}
}

// thrown gives a call that is at or near what is open; of so many calls about one more is a submission than of others.
func thrown(next func(int) int, m *model, all []*sched.Sched, rare int) call {
	txns := append([]api.Txn{reading("a"), reading("a", "b"), writing("x", "b", "c"), moving("b", 1), {Kind: api.TxRun}}, wrong()[next(len(wrong()))])
	c := call{kind: next(kinds), txn: txns[next(len(txns))], sched: all[next(len(all))]}
	if next(rare) == 0 {
		c.kind = submit
	}
	tag := tryOf(uint64(next(len(m.all)+2)), next(4)-1)
	if open := m.open(); len(open) > 0 && next(4) > 0 {
		s := open[next(len(open))]
		tag = api.Tag{Id: s.id, Try: s.try}
	}
	if next(40) == 0 {
		tag.Id.Epoch++
	}
	code := []api.Errno{api.ErrStale, api.ErrStale, api.ErrStale, api.OK, api.ErrAbort, api.ErrOver}[next(6)]
	c.decision = decided(tag, code, []string{"one", "two", "three"}[next(3):]...)
	return c
}

// P21.1 to P21.4: long rows of calls.
func TestLongRows(t *testing.T) {
	next, all := steps(21), scheds(t, 5)
	tries, full := 0, 0
	for row := range 20 {
		f, m := began(), &model{}
		for i := range 500 {
			c := thrown(next, m, all, 2+row%2*20)
			got, want := c.do(f, m)
			if got != want {
				t.Fatalf("row %d, call %d: %v:\n%s, want\n%s", row, i, c, got, want)
			}
			if len(m.open()) == 64 {
				full++
			}
		}
		for _, s := range m.all {
			if s.try == 2 && s.closed {
				tries++
			}
		}
	}
	if tries < 20 || full < 100 {
		t.Errorf("%d submissions were closed in their last try, %d times it was full", tries, full)
	}
}
