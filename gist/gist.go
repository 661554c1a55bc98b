// Package gist: headers said in a byte or two: see DOC.md.
package gist

import (
	"gist/api"
	"gist/bundle"
	"gist/check"
	"gist/lowbits"
	"gist/packet"
	"gist/receiver"
	"gist/sender"
)

// Sender is the end that sends.
type Sender struct {
	end sender.Sender
}

// Receiver is the end that takes.
type Receiver struct {
	end receiver.Receiver
}

// Crc tells the check of a text (P3).
func Crc(width int, text string) (uint8, api.Errno) {
	return check.Crc(width, text)
}

// Sum tells the sum of a text (P3).
func Sum(text string) uint16 {
	return check.Sum(text)
}

// Low16 tells the number that low bits tell (P4).
func Low16(ref uint16, k int, p uint16, bits uint16) (uint16, api.Errno) {
	return lowbits.Low16(ref, k, p, bits)
}

// Low32 tells the number that low bits tell (P4).
func Low32(ref uint32, k int, p uint32, bits uint32) (uint32, api.Errno) {
	return lowbits.Low32(ref, k, p, bits)
}

// Fits16 tells whether low bits can tell a number (P4).
func Fits16(v uint16, ref uint16, k int, p uint16) (bool, api.Errno) {
	return lowbits.Fits16(v, ref, k, p)
}

// Fits32 tells whether low bits can tell a number (P4).
func Fits32(v uint32, ref uint32, k int, p uint32) (bool, api.Errno) {
	return lowbits.Fits32(v, ref, k, p)
}

// Write makes a text of a packet (P5).
func Write(p api.Packet) (string, api.Errno) {
	return packet.Write(p)
}

// Read makes a packet of a text (P5).
func Read(text string) (api.Packet, api.Errno) {
	return packet.Read(text)
}

// Join makes one text of frames (P6).
func Join(frames []string) (string, api.Errno) {
	return bundle.Join(frames)
}

// Split makes frames of a text (P6).
func Split(text string) ([]string, api.Errno) {
	return bundle.Split(text)
}

// NewSender makes a sender (P7).
func NewSender(c api.Config) (*Sender, api.Errno) {
	end, err := sender.New(c)
	if err != api.OK {
		return nil, err
	}
	return &Sender{end: end}, api.OK
}

// Send makes a frame of a packet (P8).
func (s *Sender) Send(p api.Packet) (string, api.Errno) {
	return s.end.Send(p)
}

// Hear takes feedback (P9).
func (s *Sender) Hear(feedback string) api.Errno {
	return s.end.Hear(feedback)
}

// Flows tells of the contexts (P7).
func (s *Sender) Flows() []api.Flow {
	return s.end.Flows()
}

// NewReceiver makes a receiver (P10).
func NewReceiver(c api.Config) (*Receiver, api.Errno) {
	end, err := receiver.New(c)
	if err != api.OK {
		return nil, err
	}
	return &Receiver{end: end}, api.OK
}

// Take makes a packet of a frame (P11).
func (r *Receiver) Take(frame string) (api.Packet, string, api.Errno) {
	return r.end.Take(frame)
}

// Flows tells of the contexts (P10).
func (r *Receiver) Flows() []api.Flow {
	return r.end.Flows()
}
