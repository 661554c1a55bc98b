// Package sender: the end that sends, and says only what the other one cannot
// know already.
package sender

import (
	"gist/api"
	"gist/config"
	"gist/frame"
	"gist/state"
)

const feedbackSize = 2

// Sender is the end that sends.
type Sender struct {
	config   api.Config
	contexts [api.MaxCids]context
}

// New makes a sender without flows.
func New(c api.Config) (Sender, api.Errno) {
	s := Sender{}
	if !config.Valid(c) {
		return s, api.ErrConfig
	}
	s.config = c
	for i := 0; i < len(s.contexts); i++ {
		// Above each rank of a context that was sent on, so that those
		// that have had no flow yet are taken first.
		s.contexts[i].rank = api.MaxCids
	}
	return s, api.OK
}

// Send makes the frame of a packet.
func (s *Sender) Send(p api.Packet) (string, api.Errno) {
	if len(p.Body) > api.MaxBody {
		return "", api.ErrLong
	}
	cid := s.choose(p.Route)
	c := s.contexts[cid]
	if !c.has(p.Route) {
		c = c.begin(p.Route, s.config.Keep)
	}
	next := state.Of(p, c.stride(p))
	kind := c.kind(next, s.config.Refresh)
	s.fallBack(c.rank)
	s.contexts[cid] = c.sent(kind, next, s.config.Keep)
	return frame.Make(kind, c.place(cid), p, next), api.OK
}

// choose tells the number of the context that has a route or else of the one
// whose place a flow with this route takes.
func (s *Sender) choose(route api.Route) int {
	for i := 0; i < len(s.contexts); i++ {
		if s.contexts[i].has(route) {
			return i
		}
	}
	return s.oldest()
}

// oldest tells the number of the context of the greatest rank, the lowest of
// several: those that have had no flow yet share a rank above all others.
func (s *Sender) oldest() int {
	oldest := 0
	for i := 1; i < s.config.Cids && i < len(s.contexts); i++ {
		if s.contexts[i].rank > s.contexts[oldest].rank {
			oldest = i
		}
	}
	return oldest
}

// fallBack makes room at rank 0 for a context that had this rank: those that
// were sent on since its last packet have one more ahead of them.
func (s *Sender) fallBack(rank int) {
	for i := 0; i < len(s.contexts); i++ {
		if s.contexts[i].rank < rank {
			s.contexts[i].rank++
		}
	}
}

// Hear takes feedback.
func (s *Sender) Hear(feedback string) api.Errno {
	if len(feedback) != feedbackSize {
		return api.ErrFeedback
	}
	cid := int(feedback[1])
	if cid >= len(s.contexts) || s.contexts[cid].kept == 0 {
		return api.ErrFeedback
	}
	switch feedback[0] {
	case 'S':
		s.contexts[cid].whole = s.config.Keep
	case 'D':
		s.contexts[cid].full = s.config.Keep
	default:
		return api.ErrFeedback
	}
	return api.OK
}

// Flows tells of each context that has a flow.
func (s *Sender) Flows() []api.Flow {
	var flows []api.Flow
	for i := 0; i < len(s.contexts); i++ {
		if s.contexts[i].kept > 0 {
			flows = append(flows, s.contexts[i].flow(i))
		}
	}
	return flows
}
