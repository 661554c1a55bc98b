// Package bundle: lists of frames as one text.
package bundle

import (
	"gist/api"
	"gist/wire"
)

// longMark is what a first byte has ahead of a length that takes two bytes;
// lengths below it take one.
const longMark = 128

// Join makes one text of frames.
func Join(frames []string) (string, api.Errno) {
	if len(frames) > api.MaxFrames {
		return "", api.ErrMany
	}
	text := ""
	for i := 0; i < len(frames); i++ {
		if len(frames[i]) > api.MaxFrame {
			return "", api.ErrLong
		}
		text = text + lengthText(len(frames[i])) + frames[i]
	}
	return text, api.OK
}

// lengthText tells the length of a frame that Join takes.
func lengthText(length int) string {
	if length < longMark {
		return wire.Text8(uint8(length))
	}
	return wire.Text8(uint8(longMark+length/256)) + wire.Text8(uint8(length%256))
}

// Split makes the frames of a text.
func Split(text string) ([]string, api.Errno) {
	var frames []string
	for len(frames) < api.MaxFrames && text != "" {
		frame, rest, ok := cutFrame(text)
		if !ok {
			return nil, api.ErrFrame
		}
		frames = append(frames, frame)
		text = rest
	}
	if text != "" {
		return nil, api.ErrFrame
	}
	return frames, api.OK
}

// cutFrame tells the frame with which a text begins, and what stands behind it.
func cutFrame(text string) (string, string, bool) {
	length, size := readLength(text)
	if size == 0 || length > len(text)-size {
		return "", "", false
	}
	return text[size : size+length], text[size+length:], true
}

// readLength tells the length with which a text begins, and how many bytes
// tell it: 0, if Join would not begin so.
func readLength(text string) (int, int) {
	if len(text) == 0 {
		return 0, 0
	}
	if text[0] < longMark {
		return int(text[0]), 1
	}
	if len(text) == 1 {
		return 0, 0
	}
	length := int(text[0]-longMark)*256 + int(text[1])
	if length < longMark || length > api.MaxFrame {
		return 0, 0
	}
	return length, 2
}
