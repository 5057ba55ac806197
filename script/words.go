package script

import (
	"math"
	"strconv"
	"strings"

	"memento/api"
	"memento/msm"
)

// digits of HEX.
const digits = "0123456789abcdef"

// words: those of a line that aren't read yet; whether one was none that may stand there.
type words struct {
	left []string
	bad  bool
}

// next: the next word; "" behind the last one.
func (w *words) next() string {
	if len(w.left) == 0 {
		return ""
	}
	s := w.left[0]
	w.left = w.left[1:]
	return s
}

// num: the number up to most that is next.
func (w *words) num(most uint64) uint64 {
	s := w.next()
	n, err := strconv.ParseUint(s, 10, 64)
	if err != nil || n > most || strconv.FormatUint(n, 10) != s {
		w.bad = true
		return 0
	}
	return n
}

// number: the number that is next.
func (w *words) number() int {
	return int(w.num(math.MaxInt64))
}

// numberOrNone: the number that is next, or -1.
func (w *words) numberOrNone() int {
	if len(w.left) > 0 && w.left[0] == "-1" {
		w.next()
		return -1
	}
	return w.number()
}

// cmd: the call to group 0 whose bytes are next.
func (w *words) cmd() api.VolCmd {
	b, ok := unhex(w.next())
	c, e := msm.ReadCmd(b)
	if !ok || e != api.OK {
		w.bad = true
		return api.VolCmd{}
	}
	return c
}

// read: the event that line says.
func read(line string) (api.Event, bool) {
	w := &words{left: strings.FieldsFunc(line, func(r rune) bool { return r == ' ' })}
	e := w.event(w.next())
	if w.bad || len(w.left) > 0 {
		return api.Event{}, false
	}
	return e, true
}

// event: the event that the words behind the first one say.
func (w *words) event(first string) api.Event {
	switch first {
	case "tick":
		return api.Event{Kind: api.EvTick}
	case "arrive":
		return api.Event{Kind: api.EvArrive, N: w.number()}
	case "twice":
		return api.Event{Kind: api.EvTwice, N: w.number()}
	case "drop":
		return api.Event{Kind: api.EvDrop, N: w.number()}
	case "crash":
		return api.Event{Kind: api.EvCrash, Node: w.number()}
	case "power":
		return api.Event{Kind: api.EvPower, Node: w.number(), N: w.number()}
	case "start":
		return api.Event{Kind: api.EvStart, Node: w.number(), Mask: w.num(math.MaxUint64), N: w.numberOrNone()}
	case "split":
		return api.Event{Kind: api.EvSplit, Mask: w.num(math.MaxUint64)}
	}
	return api.Event{Kind: api.EvCall, Node: w.number(), Call: w.call(first)}
}

// call: the call that the words behind the node say.
func (w *words) call(first string) api.Call {
	c := api.Call{Id: w.number()}
	switch first {
	case "call":
		c.Kind, c.Cmd = api.CallVol, w.cmd()
	case "read":
		c.Kind, c.Vol, c.Block, c.At = api.CallRead, w.number(), w.number(), int64(w.number())
	case "conf":
		c.Kind, c.Group, c.Node, c.Add = api.CallConf, w.number(), w.number(), w.num(1) == 1
	default:
		w.bad = true
	}
	return c
}

// hex: two digits a byte.
func hex(l []byte) string {
	var b strings.Builder
	for _, x := range l {
		b.WriteByte(digits[x>>4])
		b.WriteByte(digits[x&15])
	}
	return b.String()
}

// unhex: the bytes that s has two digits each of.
func unhex(s string) ([]byte, bool) {
	var b []byte
	for i := 0; i+1 < len(s); i += 2 {
		high, low := strings.IndexByte(digits, s[i]), strings.IndexByte(digits, s[i+1])
		if high < 0 || low < 0 {
			return nil, false
		}
		b = append(b, byte(high<<4|low))
	}
	return b, len(s)%2 == 0
}
