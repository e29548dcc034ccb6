package durable

import (
	"strings"
	"testing"

	"argosy/api"
)

// P22.6: states of any size, one in the other's place, in this life and the next ones, whether the node is a voter or not.
func TestState(t *testing.T) {
	for _, voter := range []bool{true, false} {
		d := newDisk(t)
		if voter {
			wants(t, "Format", Format(d), api.OK)
		}
		k := opened(t, d, 1)
		fails(t, k, api.ErrNoFile)
		for _, state := range []string{"", "a", "\x00", strings.Repeat("long", 10000), "short"} {
			wants(t, "Save", k.Save([]byte(state)), api.OK)
			loads(t, k, state)
			life, _ := d.Read("life")
			stands(t, d, "life", string(life), "state", packed(state))
			d = d.Crash(nil)
			k = opened(t, d, 1)
			loads(t, k, state)
		}
	}
}

// P22.6: a state that can't be read is Load's error alone.
func TestTornState(t *testing.T) {
	d := newDisk(t, "life", packed("\x00\x01"), "state", "torn", "state~", "torn")
	k := opened(t, d, 1)
	fails(t, k, api.ErrTorn)
	takes(t, k, 1, vote(0, 1, "x"))
	wants(t, "Save", k.Save([]byte("state")), api.OK)
	loads(t, k, "state")
}

// P22.6: the errors of the disk.
func TestStateErrors(t *testing.T) {
	for limit := range 4 {
		d, k := formatted(t)
		wants(t, "Save", k.Save([]byte("elder")), api.OK)
		d.Limit(limit)
		want := api.ErrDown
		if limit == 3 {
			want = api.OK
		}
		wants(t, "Save", k.Save([]byte("state")), want)
		if limit == 3 {
			loads(t, k, "state")
			continue
		}
		fails(t, k, api.ErrDown)
		loads(t, opened(t, d.Crash([]int{-1, -1, -1, -1})), "elder")
	}
	_, k := formatted(t)
	wants(t, "Save", k.Save([]byte("elder")), api.OK)
	wants(t, "Save", k.Save(make([]byte, api.MaxRoom)), api.ErrFull)
	loads(t, k, "elder")
}
