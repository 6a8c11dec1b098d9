package isa

import "swingbridge/api"

// What the bits of an Op stand for.
const (
	classBits     = 0x07
	operationBits = 0xF0
	modeBits      = 0xE0
)

// registers is how many numbers four bits tell.
const registers = 16

// parts are those of an instruction, beside its Op, that say something.
type parts uint8

const (
	dst parts = 1 << iota
	src
	off
	imm
)

// class tells of an instruction of its class which parts it has, and whether there is one of that Op at all.
type class func(i api.Insn) (parts, bool)

// classes are all of them, by their numbers.
func classes() [classBits + 1]class {
	wide := func(i api.Insn) (parts, bool) {
		return dst | src | imm, Wide(i) && i.Src <= api.WideMap
	}
	memory := func(has parts) class {
		return func(i api.Insn) (parts, bool) { return has, i.Op&modeBits == api.Mem }
	}
	return [...]class{
		api.ClassLD:    wide,
		api.ClassLDX:   memory(dst | src | off),
		api.ClassST:    memory(dst | off | imm),
		api.ClassSTX:   memory(dst | src | off),
		api.ClassALU:   operation,
		api.ClassJMP:   jump,
		api.ClassJMP32: branch,
		api.ClassALU64: operation,
	}
}

// operation is the class ALU, and ALU64.
func operation(i api.Insn) (parts, bool) {
	if i.Op&operationBits == api.Neg {
		return dst, i.Op&api.SrcReg == 0
	}
	return dst | second(i), i.Op&operationBits <= api.Arsh
}

// jump is the class JMP.
func jump(i api.Insn) (parts, bool) {
	switch i.Op {
	case api.ClassJMP | api.Ja:
		return off, true
	case api.ClassJMP | api.Call:
		return imm, true
	case api.ClassJMP | api.Exit:
		return 0, true
	}
	return branch(i)
}

// branch is the class JMP32, and what JMP shares with it: jumps that compare.
func branch(i api.Insn) (parts, bool) {
	switch i.Op & operationBits {
	case api.Jeq, api.Jgt, api.Jge, api.Jset, api.Jne, api.Jsgt, api.Jsge, api.Jlt, api.Jle, api.Jslt, api.Jsle:
		return dst | second(i) | off, true
	}
	return 0, false
}

// second is where an operation's second number stands.
func second(i api.Insn) parts {
	if i.Op&api.SrcReg != 0 {
		return src
	}
	return imm
}

// areAllOf tells whether the instruction's other parts are 0, and its registers fit into four bits each.
func (has parts) areAllOf(i api.Insn) bool {
	if i.Dst >= registers || i.Src >= registers {
		return false
	}
	rest := api.Insn{Op: i.Op}
	if has&dst != 0 {
		rest.Dst = i.Dst
	}
	if has&src != 0 {
		rest.Src = i.Src
	}
	if has&off != 0 {
		rest.Off = i.Off
	}
	if has&imm != 0 {
		rest.Imm = i.Imm
	}
	return rest == i
}
