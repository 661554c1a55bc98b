// Package check: the checks and the sum by which a text is believed.
package check

import "gist/api"

// Crc tells the check of a text: of width 3, 7 or 8.
func Crc(width int, text string) (uint8, api.Errno) {
	start, mix := rule(width)
	if start == 0 {
		return 0, api.ErrNumber
	}
	check := start
	for i := 0; i < len(text); i++ {
		check = addByte(check, mix, text[i])
	}
	return check, api.OK
}

// rule tells where a check begins and what is mixed into it; a start of 0
// stands for a width that is none, since no check begins there.
func rule(width int) (uint8, uint8) {
	switch width {
	case 3:
		return 7, 6
	case 7:
		return 127, 121
	case 8:
		return 255, 224
	}
	return 0, 0
}

func addByte(check uint8, mix uint8, next uint8) uint8 {
	for i := 0; i < 8; i++ {
		lowest := (check ^ next) & 1
		check = check >> 1
		next = next >> 1
		if lowest == 1 {
			check = check ^ mix
		}
	}
	return check
}

// Sum tells the sum of a text.
func Sum(text string) uint16 {
	total := uint32(0)
	for i := 0; i < len(text); i++ {
		total += share(i, text[i])
		// The carry goes back at once: gathered up, the carries of a
		// long text would run out of the 32 bits.
		total = total&65535 + total>>16
	}
	return ^uint16(total)
}

// share tells what byte i adds to its number of 16 bits. Taken one by one the
// bytes need no nought behind an odd number of them, and the sum is the same:
// it does not matter in which order carries go back.
func share(i int, b uint8) uint32 {
	if i%2 == 0 {
		return uint32(b) << 8
	}
	return uint32(b)
}
