package receiver

import (
	"gist/api"
	"gist/wire"
)

// feedback tells what the sender is asked for behind an error, by the count of
// frames missed, this one among them.
func feedback(err api.Errno, missed uint8, cid uint8) string {
	letter := asks(err, missed)
	if letter == "" {
		return ""
	}
	return letter + wire.Text8(cid)
}

// asks tells the letter of the feedback, if any. Full frames do not help a
// context that has no route, so it asks for whole ones, and at once.
func asks(err api.Errno, missed uint8) string {
	phase := missed % 4
	switch {
	case err == api.ErrContext && phase == 1:
		return "S"
	case err == api.ErrContext:
		return ""
	case phase == 2:
		return "D"
	case phase == 0:
		return "S"
	}
	return ""
}
