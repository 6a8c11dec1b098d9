package shape

import (
	"swingbridge/api"
	"swingbridge/isa"
)

// classBits are those of an Op that tell its class.
const classBits = 0x07

// lastRegister is the end of the stack, which no program may move.
const lastRegister = 10

// The Ops of the class JMP that test nothing.
const (
	always = api.ClassJMP | api.Ja
	call   = api.ClassJMP | api.Call
	exit   = api.ClassJMP | api.Exit
)

// writes tells whether Dst is a register that is written to: of stores it says where to, and of tests what is tested.
func writes(i api.Insn) bool {
	switch i.Op & classBits {
	case api.ClassALU, api.ClassALU64, api.ClassLDX:
		return true
	}
	return isa.Wide(i)
}

func isHelper(number int32) bool {
	switch number {
	case api.FnLookup, api.FnUpdate, api.FnDelete, api.FnTime, api.FnRandom, api.FnEmit:
		return true
	}
	return false
}

func jumps(i api.Insn) bool {
	switch i.Op & classBits {
	case api.ClassJMP, api.ClassJMP32:
		return i.Op != call && i.Op != exit
	}
	return false
}

// target is the place to which the jump at a place leads.
func target(l []api.Insn, at int) int { return at + 1 + int(l[at].Off) }

// mayLead tells whether the jump at a place goes forward, to an instruction.
func mayLead(l []api.Insn, at int) bool {
	to := target(l, at)
	return l[at].Off >= 0 && to < len(l) && !isHalf(l, to)
}

// isHalf tells whether a second half stands there. No half has the Op of a wide one, so that the one ahead tells it.
func isHalf(l []api.Insn, at int) bool { return at > 0 && isa.Wide(l[at-1]) }
