package world

import (
	"fmt"
	"slices"
	"strings"
	"testing"

	"argosy/api"
	"argosy/eval"
	"argosy/order"
	"argosy/prog"
	"argosy/route"
	"argosy/store"
)

// stage is a world, and what has been seen of it from outside: what happens is held against all that was before.
type stage struct {
	t                 *testing.T
	next              func(int) int
	w                 *World
	regions, replicas int
	events            int
	crashed, wiped    []bool // by nodes: whether one was crashed since it was up last, or wiped ever
	born              []int  // by nodes, the number of the event by which the present life began
	order             int    // in which all parcels come

	logs   [][]string             // what any node has known of each log
	heard  map[[2]int]int         // of each node and log, how many entries were held against these
	orders map[api.Tag]api.Order  // those that stand in logs
	made   int                    // how many decisions were looked at
	done   map[api.Tag]api.Result // of each try, what became of it
	rows   map[string]string      // of each number of entries of each log, what came of them
	lives  [][]api.Tag            // of each life, the tries that its node has decided, or had in its checkpoint
	now    []int                  // by nodes, their present lives
	saved  [][]api.Tag            // by nodes, the tries in their checkpoints
}

// newStage gives one in which nothing has happened.
func newStage(t *testing.T, seed uint64, regions, replicas int) *stage {
	t.Helper()
	nodes := regions * replicas
	return &stage{
		t: t, next: steps(seed), w: begun(t, regions, replicas), regions: regions, replicas: replicas,
		crashed: make([]bool, nodes), wiped: make([]bool, nodes), born: slices.Repeat([]int{-1}, nodes),
		logs: make([][]string, regions+1), heard: map[[2]int]int{}, orders: map[api.Tag]api.Order{},
		done: map[api.Tag]api.Result{}, rows: map[string]string{},
		lives: make([][]api.Tag, nodes), now: span(0, nodes), saved: make([][]api.Tag, nodes),
	}
}

// span gives so many numbers from the first one on.
func span(first, count int) []int {
	var all []int
	for i := range count {
		all = append(all, first+i)
	}
	return all
}

// nodes gives all nodes.
func (s *stage) nodes() []int {
	return span(0, s.regions*s.replicas)
}

// members gives those of a log.
func (s *stage) members(group int) []int {
	if group == s.regions {
		return s.nodes()
	}
	return span(group*s.replicas, s.replicas)
}

// do lets something happen, and looks at the node to which it does.
func (s *stage) do(e api.Event) api.Errno {
	s.t.Helper()
	if e.Kind == api.EvCrash {
		// What the node knows by now it doesn't tell any more.
		s.knows(e.Who)
	}
	err := s.w.Do(e)
	if err == api.OK {
		s.note(e)
	}
	s.events++
	switch e.Kind {
	case api.EvPick, api.EvOpen:
		s.knows(e.Who)
		s.decides(e.Who)
	case api.EvTick:
		s.knows(e.Who)
	}
	return err
}

// note keeps what an event has changed of what is known of the nodes.
func (s *stage) note(e api.Event) {
	switch e.Kind {
	case api.EvCheck:
		s.saved[e.Who] = slices.Clone(s.lives[s.now[e.Who]])
	case api.EvCrash:
		s.crashed[e.Who] = true
	case api.EvWipe:
		s.wiped[e.Who], s.saved[e.Who] = true, nil
	case api.EvOpen:
		s.crashed[e.Who], s.born[e.Who], s.now[e.Who] = false, s.events, len(s.lives)
		s.lives = append(s.lives, slices.Clone(s.saved[e.Who]))
		for group := range s.logs {
			s.heard[[2]int{e.Who, group}] = 0
		}
	}
}

// knows holds what a node knows of the logs against what others knew: P24.4.
func (s *stage) knows(who int) {
	s.t.Helper()
	for group := range s.logs {
		got, at := s.w.Chosen(who, group), [2]int{who, group}
		if len(got) == s.heard[at] {
			continue
		}
		s.heard[at] = len(got)
		known := min(len(got), len(s.logs[group]))
		if !slices.Equal(got[:known], s.logs[group][:known]) {
			s.t.Fatalf("%d knows others than were chosen in %d", who, group)
		}
		for _, entry := range got[known:] {
			s.reads(group, entry)
		}
		s.logs[group] = append(s.logs[group], got[known:]...)
	}
}

// reads notes the order that stands in an entry.
func (s *stage) reads(group int, entry string) {
	s.t.Helper()
	o, err := order.Read([]byte(entry))
	if group < s.regions {
		var i api.Item
		i, err = order.ReadItem([]byte(entry))
		o = i.Order
	}
	wants(s.t, "an entry", err, api.OK)
	if was, again := s.orders[o.Tag]; again && fmt.Sprint(was) != fmt.Sprint(o) {
		s.t.Fatalf("two orders of %v: %v, %v", o.Tag, was, o)
	}
	s.orders[o.Tag] = o
}

// decides holds what a node has decided, and has come to, against what others did: P24.5.
func (s *stage) decides(who int) {
	s.t.Helper()
	made := s.w.Made()
	for _, m := range made[s.made:] {
		if m.Node != who || m.At != s.events-1 {
			s.t.Fatalf("%v, by %d at %d", m, who, s.events-1)
		}
		tag := m.Decision.Tag
		if was, again := s.done[tag]; again && fmt.Sprint(was) != fmt.Sprint(m.Decision.Result) {
			s.t.Fatalf("%v: %v, and %v", tag, was, m.Decision.Result)
		}
		s.done[tag] = m.Decision.Result
		s.lives[s.now[who]] = append(s.lives[s.now[who]], tag)
	}
	s.made = len(made)
	if !s.w.Up(who) {
		return
	}
	if waiting := s.w.Waiting(who); len(waiting) > 0 {
		s.stands(who, waiting)
		return
	}
	var fed strings.Builder
	for region := range s.regions {
		fmt.Fprint(&fed, s.w.Fed(who, region), " ")
	}
	rows := fmt.Sprint(s.w.Rows(who))
	if was, again := s.rows[fed.String()]; again && was != rows {
		s.t.Fatalf("behind %s: %s, and %s", fed.String(), was, rows)
	}
	s.rows[fed.String()] = rows
}

// stands fails, if tries none of whose marks is Gone wait for each other in a circle: P24.5.
func (s *stage) stands(who int, waiting []api.Tag) {
	s.t.Helper()
	records := s.records(s.w.Rows(who))
	left := map[api.Tag][]api.Tag{}
	for _, tag := range waiting {
		gone := func(m api.Mark) bool { return route.Look(records(m.Key), m) == api.Gone }
		if !slices.ContainsFunc(s.orders[tag].Marks, gone) {
			left[tag] = s.w.Ahead(who, tag)
		}
	}
	for more := true; more; {
		more = false
		for tag, ahead := range left {
			waits := func(other api.Tag) bool { _, ok := left[other]; return ok }
			if !slices.ContainsFunc(ahead, waits) {
				delete(left, tag)
				more = true
			}
		}
	}
	if len(left) > 0 {
		s.t.Fatalf("at %d wait for each other: %v", who, left)
	}
}

// records tells what is known of each key, by the rows that there are.
func (s *stage) records(rows []api.Row) func(key string) api.Record {
	s.t.Helper()
	fresh, err := store.New(s.regions)
	wants(s.t, "store.New", err, api.OK)
	return func(key string) api.Record {
		for _, row := range rows {
			if row.Key == key {
				return row.Record
			}
		}
		return fresh.Get(key)
	}
}

// replied holds the replies against the decisions, and gives of each try that isn't stale the number of its submission: P24.6.
func (s *stage) replied() map[api.Tag]int {
	s.t.Helper()
	places, tries := map[api.Id]int{}, map[api.Tag]int{}
	subs := s.w.Subs()
	for i, sub := range subs {
		if _, again := places[sub.Id]; again {
			s.t.Fatalf("two submissions are %v", sub.Id)
		}
		places[sub.Id] = i
	}
	results := map[int]api.Result{}
	for tag, result := range s.done {
		i, ok := places[tag.Id]
		if !ok {
			s.t.Fatalf("decided: %v", tag)
		}
		if result.Code != api.ErrStale {
			if _, again := results[i]; again {
				s.t.Fatalf("two tries of %v are decided", tag.Id)
			}
			results[i], tries[tag] = result, i
		}
	}
	for i, sub := range subs {
		result, ok := results[i]
		if sub.End >= 0 && sub.Result.Code != api.ErrTries && sub.Result.Code != api.ErrLog && (!ok || fmt.Sprint(result) != fmt.Sprint(sub.Result)) {
			s.t.Fatalf("replied: %v, decided: %v, %v", sub, result, ok)
		}
	}
	return tries
}

// meet tells whether it matters which one of two transactions is ahead.
func meet(a, b api.Txn) bool {
	for _, key := range prog.Keys(a) {
		if slices.Contains(prog.Keys(b), key) && (prog.Writes(a, key) || prog.Writes(b, key)) {
			return true
		}
	}
	return false
}

// oneOrder fails, unless there is an order of all tries that were decided, but the stale ones, as P24.6 asks for it.
func (s *stage) oneOrder() {
	s.t.Helper()
	tries, subs := s.replied(), s.w.Subs()
	behind := map[api.Tag]map[api.Tag]struct{}{}
	for tag := range tries {
		behind[tag] = map[api.Tag]struct{}{}
	}
	for _, life := range s.lives {
		life = slices.DeleteFunc(slices.Clone(life), func(tag api.Tag) bool { return s.done[tag].Code == api.ErrStale })
		for i, later := range life {
			for _, tag := range life[:i] {
				if meet(subs[tries[tag]].Txn, subs[tries[later]].Txn) {
					behind[tag][later] = struct{}{}
				}
			}
		}
	}
	for tag, i := range tries {
		for later, k := range tries {
			if subs[i].End >= 0 && subs[i].End < subs[k].Start {
				behind[tag][later] = struct{}{}
			}
		}
	}
	s.replay(sorted(s.t, behind))
}

// sorted gives an order in which each one comes ahead of those behind it.
func sorted(t *testing.T, behind map[api.Tag]map[api.Tag]struct{}) []api.Tag {
	t.Helper()
	ahead := map[api.Tag]int{}
	for _, later := range behind {
		for tag := range later {
			ahead[tag]++
		}
	}
	var row []api.Tag
	for tag := range behind {
		if ahead[tag] == 0 {
			row = append(row, tag)
		}
	}
	for i := 0; i < len(row); i++ {
		for tag := range behind[row[i]] {
			ahead[tag]--
			if ahead[tag] == 0 {
				row = append(row, tag)
			}
		}
	}
	if len(row) < len(behind) {
		t.Fatalf("only %d of %d tries can stand in an order", len(row), len(behind))
	}
	return row
}

// replay fails, unless each try's result is what Run gives over the records that the ones ahead of it have left.
func (s *stage) replay(row []api.Tag) {
	s.t.Helper()
	records, err := store.New(s.regions)
	wants(s.t, "store.New", err, api.OK)
	for _, tag := range row {
		result, writes := eval.Run(records, s.orders[tag].Txn)
		same(s.t, fmt.Sprint("the result of ", tag), s.done[tag], result)
		eval.Apply(records, writes)
	}
}
