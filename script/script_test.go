package script_test

import (
	"math"
	"reflect"
	"strings"
	"testing"

	"memento/api"
	"memento/script"
)

func ev(kind, node, n int, mask uint64) api.Event {
	return api.Event{Kind: kind, Node: node, N: n, Mask: mask}
}

func asked(node int, c api.Call) api.Event {
	return api.Event{Kind: api.EvCall, Node: node, Call: c}
}

func create() api.VolCmd {
	return api.VolCmd{Kind: api.Create, Vol: 1, Blocks: 300, Size: 2, Per: 3, Place: []int{1, 0}, Total: 4, At: 5, Index: 6, Items: []api.Item{{Block: 7, Data: []byte("\xab\x00")}}}
}

var lines = []struct {
	line string
	e    api.Event
}{
	{"tick", ev(api.EvTick, 0, 0, 0)},
	{"arrive 0", ev(api.EvArrive, 0, 0, 0)},
	{"arrive 9223372036854775807", ev(api.EvArrive, 0, math.MaxInt, 0)},
	{"twice 12", ev(api.EvTwice, 0, 12, 0)},
	{"drop 3", ev(api.EvDrop, 0, 3, 0)},
	{"crash 2", ev(api.EvCrash, 2, 0, 0)},
	{"crash 9223372036854775807", ev(api.EvCrash, math.MaxInt, 0, 0)},
	{"power 2 40", ev(api.EvPower, 2, 40, 0)},
	{"start 2 5 -1", ev(api.EvStart, 2, -1, 5)},
	{"start 2 18446744073709551615 0", ev(api.EvStart, 2, 0, math.MaxUint64)},
	{"start 0 0 64", ev(api.EvStart, 0, 64, 0)},
	{"split 18446744073709551615", ev(api.EvSplit, 0, 0, math.MaxUint64)},
	{"split 0", ev(api.EvSplit, 0, 0, 0)},
	{"call 1 77 0101ac02020304050602010001" + "0702ab00", asked(1, api.Call{Id: 77, Kind: api.CallVol, Cmd: create()})},
	{"call 0 0 08000000000000000000", asked(0, api.Call{Kind: api.CallVol, Cmd: api.VolCmd{Kind: api.Stat}})},
	{"read 2 8 3 255 9223372036854775807", asked(2, api.Call{Id: 8, Kind: api.CallRead, Vol: 3, Block: 255, At: math.MaxInt64})},
	{"conf 2 9 1 4 1", asked(2, api.Call{Id: 9, Kind: api.CallConf, Group: 1, Node: 4, Add: true})},
	{"conf 2 9 1 4 0", asked(2, api.Call{Id: 9, Kind: api.CallConf, Group: 1, Node: 4})},
}

// same: alike, a nil list and an empty one too.
func same(a, b api.Event) bool {
	for _, c := range []*api.VolCmd{&a.Call.Cmd, &b.Call.Cmd} {
		if len(c.Place) == 0 {
			c.Place = nil
		}
		if len(c.Items) == 0 {
			c.Items = nil
		}
	}
	return reflect.DeepEqual(a, b)
}

// P25.1, P25.2, P25.3
func TestLines(t *testing.T) {
	var all []api.Event
	text := ""
	for _, x := range lines {
		if !script.Right(x.e) {
			t.Errorf("%s isn't right", x.line)
		}
		if got := script.Print(x.e); got != x.line+"\n" {
			t.Errorf("Print: %q, not %q", got, x.line)
		}
		if l, n, e := script.Parse(x.line); e != api.OK || n != 0 || len(l) != 1 || !same(l[0], x.e) {
			t.Errorf("Parse of %q: %+v, %d, %d", x.line, l, n, e)
		}
		all, text = append(all, x.e), text+x.line+"\n"
	}
	if got := script.Print(all...); got != text {
		t.Errorf("Print: %s", got)
	}
	l, n, e := script.Parse(text)
	if e != api.OK || n != 0 || len(l) != len(all) {
		t.Fatalf("Parse: %d, %d", n, e)
	}
	for i := range l {
		if !same(l[i], all[i]) {
			t.Errorf("Parse %d: %+v", i, l[i])
		}
	}
}

// P25.1
func TestSpaces(t *testing.T) {
	for _, s := range []string{"tick\n\n  \ndrop 3", "\n  tick   \n drop   3 \n\n", "tick\ndrop 3\n"} {
		if l, n, e := script.Parse(s); e != api.OK || n != 0 || len(l) != 2 || !same(l[0], lines[0].e) || !same(l[1], lines[4].e) {
			t.Errorf("Parse of %q: %+v, %d, %d", s, l, n, e)
		}
	}
	for _, s := range []string{"", " ", "\n", "\n  \n"} {
		if l, n, e := script.Parse(s); e != api.OK || n != 0 || len(l) != 0 {
			t.Errorf("Parse of %q: %+v, %d, %d", s, l, n, e)
		}
	}
}

// P25.1, P25.2
func TestWrongLines(t *testing.T) {
	for _, s := range []string{
		"x", "Tick", "tick 1", "tick\t", "\ttick", "tick\r", "arrive", "arrive 1 2", "arrive -1", "arrive +1", "arrive 01", "arrive 00", "arrive 1_0", "arrive 0x1", "arrive a", "arrive 9223372036854775808", "arrive 99999999999999999999", "arrive -1",
		"twice", "drop", "drop -1", "crash", "crash -1", "crash 1 2", "power 1", "power 1 -1", "power 1 2 3", "start 1 2", "start 1 2 -2", "start 1 -1 0", "start -1 0 0", "start 1 2 -01", "start 1 2 - 1", "start 1 18446744073709551616 0", "start 1 2 3 4",
		"split", "split -1", "split 18446744073709551616", "split 1 2", "call", "call 1", "call 1 2", "call 1 2 ", "call 1 2 0", "call 1 2 080000000000000000", "call 1 2 0800000000000000000000", "call 1 2 0800000000000000000", "call 1 2 0800000000000000000g",
		"call 1 2 0801000000000000000A", "call 1 2 09000000000000000000", "call 1 2 08000000000000000000 0", "call -1 2 08000000000000000000", "call 1 2 0x000000000000000000",
		"read 1 2 3 4", "read 1 2 3 4 5 6", "read 1 2 3 -4 5", "read 1 2 3 4 9223372036854775808", "conf 1 2 3 4", "conf 1 2 3 4 2", "conf 1 2 3 4 -1", "conf 1 2 3 4 1 1", "conf 1 2 3 4 true", "1 2", "tick,", "tick;tick", "\xff", "read\xa01 2 3 4 5",
	} {
		for n, before := range []string{"", "tick\n", "tick\n\n", "\n tick\n   \n"} {
			if l, at, e := script.Parse(before + s + "\nx\n"); e != api.ErrWord || at != strings.Count(before, "\n") || len(l) != 0 {
				t.Errorf("Parse of %q behind %d: %+v, %d, %d", s, n, l, at, e)
			}
		}
	}
}

// P25.2
func TestWrongEvents(t *testing.T) {
	var l []api.Event
	for _, kind := range []int{-1, 9, math.MaxInt, math.MinInt} {
		l = append(l, ev(kind, 0, 0, 0))
	}
	for _, x := range lines {
		kind, call := x.e.Kind, x.e.Call.Kind
		node := kind == api.EvCrash || kind == api.EvPower || kind == api.EvStart || kind == api.EvCall
		n := kind == api.EvArrive || kind == api.EvTwice || kind == api.EvDrop || kind == api.EvPower || kind == api.EvStart
		if !node {
			l = append(l, changed(x.e, func(e *api.Event) { e.Node = 1 }))
		}
		if !n {
			l = append(l, changed(x.e, func(e *api.Event) { e.N = 1 }))
		}
		if kind != api.EvStart && kind != api.EvSplit {
			l = append(l, changed(x.e, func(e *api.Event) { e.Mask = 1 }))
		}
		if kind != api.EvCall {
			l = append(l, changed(x.e, func(e *api.Event) { e.Call.Id = 1 }), changed(x.e, func(e *api.Event) { e.Call.Kind = 1 }))
		}
		if call != api.CallVol {
			l = append(l, changed(x.e, func(e *api.Event) { e.Call.Cmd.Kind = 1 }), changed(x.e, func(e *api.Event) { e.Call.Cmd.Place = []int{1} }), changed(x.e, func(e *api.Event) { e.Call.Cmd.Items = []api.Item{{}} }))
		}
		if call != api.CallRead {
			l = append(l, changed(x.e, func(e *api.Event) { e.Call.Vol = 1 }), changed(x.e, func(e *api.Event) { e.Call.Block = 1 }), changed(x.e, func(e *api.Event) { e.Call.At = 1 }))
		}
		if call != api.CallConf {
			l = append(l, changed(x.e, func(e *api.Event) { e.Call.Group = 1 }), changed(x.e, func(e *api.Event) { e.Call.Node = 1 }), changed(x.e, func(e *api.Event) { e.Call.Add = true }))
		}
		l = append(l,
			changed(x.e, func(e *api.Event) { e.Node = -1 }), changed(x.e, func(e *api.Event) { e.N = -2 }), changed(x.e, func(e *api.Event) { e.Call.Id = -1 }), changed(x.e, func(e *api.Event) { e.Call.Kind = 4 }),
			changed(x.e, func(e *api.Event) { e.Call.Vol = -1 }), changed(x.e, func(e *api.Event) { e.Call.Block = -1 }), changed(x.e, func(e *api.Event) { e.Call.At = -1 }), changed(x.e, func(e *api.Event) { e.Call.Group = -1 }), changed(x.e, func(e *api.Event) { e.Call.Node = -1 }),
			changed(x.e, func(e *api.Event) { e.Call.Cmd.Vol = 8 }), changed(x.e, func(e *api.Event) { e.Call.Cmd.At = -1 }),
		)
		if kind != api.EvStart {
			l = append(l, changed(x.e, func(e *api.Event) { e.N = -1 }))
		}
	}
	for i, e := range l {
		if script.Right(e) || script.Print(e) != "" {
			t.Errorf("wrong %d is right: %+v", i, e)
		}
	}
	if got := script.Print(append(l, lines[0].e, l[0], lines[4].e)...); got != "tick\ndrop 3\n" || script.Print() != "" {
		t.Errorf("Print: %q", got)
	}
}

func changed(e api.Event, change func(e *api.Event)) api.Event {
	change(&e)
	return e
}
