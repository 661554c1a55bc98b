package receiver

import (
	"gist/lowbits"
	"gist/state"
)

// afterShort tells the state behind a SHORT frame that says these lowest bits.
func afterShort(at state.State, bits state.State) state.State {
	at.Seq = seqAfter(at.Seq, 8, bits.Seq)
	offset, _ := lowbits.Low16(at.Offset, 8, 128, bits.Offset)
	at.Offset = offset
	lag, _ := lowbits.Low32(at.Lag, 8, 128, bits.Lag)
	at.Lag = lag
	return at
}

// afterTiny tells the state behind a TINY frame that says these lowest bits.
func afterTiny(at state.State, bits state.State) state.State {
	at.Seq = seqAfter(at.Seq, 4, bits.Seq)
	return at
}

// seqAfter lets few numbers lie behind the reference: packets mostly go on.
func seqAfter(at uint16, k int, bits uint16) uint16 {
	seq, _ := lowbits.Low16(at, k, 1, bits)
	return seq
}
