package isa

import "swingbridge/api"

// size is how many bytes an instruction has.
const size = 8

// insnOf is what eight bytes say.
func insnOf(b []byte) api.Insn {
	return api.Insn{
		Op:  b[0],
		Dst: b[1] % registers,
		Src: b[1] / registers,
		Off: int16(b[2]) | int16(b[3])<<8,
		Imm: int32(b[4]) | int32(b[5])<<8 | int32(b[6])<<16 | int32(b[7])<<24,
	}
}

// appendInsn puts the eight bytes that say i behind b; its registers are below 16.
func appendInsn(b []byte, i api.Insn) []byte {
	return append(b,
		i.Op,
		i.Dst+registers*i.Src,
		byte(i.Off), byte(i.Off>>8),
		byte(i.Imm), byte(i.Imm>>8), byte(i.Imm>>16), byte(i.Imm>>24))
}
