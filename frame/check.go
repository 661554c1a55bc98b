package frame

import (
	"gist/api"
	"gist/check"
)

// checkOf tells the check that a frame of this kind says of a header.
func checkOf(kind uint8, header string) uint8 {
	sum, _ := check.Crc(width(kind), header)
	return sum
}

func width(kind uint8) int {
	switch kind {
	case api.Tiny:
		return 3
	case api.Short:
		return 7
	}
	return 8
}
