package sender

import (
	"gist/api"
	"gist/lowbits"
	"gist/state"
)

// needs tells the least kind of frame by which a receiver that is at one state
// learns the next one.
func needs(next state.State, at state.State) uint8 {
	if next.Stride != at.Stride || next.Flags != at.Flags {
		return api.Full
	}
	if next.Offset == at.Offset && next.Lag == at.Lag && seqIn(4, next, at) {
		return api.Tiny
	}
	if seqIn(8, next, at) && restIn8(next, at) {
		return api.Short
	}
	return api.Full
}

func seqIn(bits int, next state.State, at state.State) bool {
	told, _ := lowbits.Fits16(next.Seq, at.Seq, bits, 1)
	return told
}

func restIn8(next state.State, at state.State) bool {
	offset, _ := lowbits.Fits16(next.Offset, at.Offset, 8, 128)
	lag, _ := lowbits.Fits32(next.Lag, at.Lag, 8, 128)
	return offset && lag
}
