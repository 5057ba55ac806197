package play_test

import (
	"fmt"

	"memento/api"
	"memento/play"
	"memento/script"
)

// A write, and what the block was ahead of it and behind it.
func Example() {
	world, _, _ := play.Run(3, 2, 512) // nodes, groups, sectors of a disk
	play.Fair(world, play.Bound(3))    // all words arrive: each group has a leader
	leader := play.Leader(world, 0)

	ask := func(id int, c api.VolCmd) {
		world.Do(api.Event{Kind: api.EvCall, Node: leader, Call: api.Call{Id: id, Kind: api.CallVol, Cmd: c}})
	}
	ask(1, api.VolCmd{Kind: api.Create, Vol: 0, Blocks: 4, Size: 2, Per: 2, Place: []int{1, 1}})
	ask(2, api.VolCmd{Kind: api.Put, Vol: 0, Items: []api.Item{{Block: 3, Data: []byte("hi")}}})
	for _, a := range play.Fair(world, 30) {
		fmt.Println("call", a.Id, "code", a.Reply.Code, "len", a.Reply.Len)
	}

	reads, _, _ := script.Parse("read 0 3 0 3 0\nread 0 4 0 3 1\n")
	for _, e := range reads {
		answers, _ := world.Do(e)
		fmt.Printf("block 3 at %d: %q\n", e.Call.At, answers[0].Reply.Data)
	}
	fmt.Println("whole:", play.Whole(world))
	// Output:
	// call 1 code 0 len 0
	// call 2 code 0 len 1
	// block 3 at 0: "\x00\x00"
	// block 3 at 1: "hi"
	// whole: true
}
