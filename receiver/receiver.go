// Package receiver: the end that takes frames and makes the packets again.
package receiver

import (
	"gist/api"
	"gist/config"
	"gist/frame"
)

// Receiver is the end that takes.
type Receiver struct {
	cids     int
	contexts [api.MaxCids]context
}

// New makes a receiver whose contexts are empty.
func New(c api.Config) (Receiver, api.Errno) {
	if !config.Valid(c) {
		return Receiver{}, api.ErrConfig
	}
	return Receiver{cids: c.Cids}, api.OK
}

// Take makes the packet of a frame again; or else tells the feedback with
// which the sender is asked for help.
func (r *Receiver) Take(text string) (api.Packet, string, api.Errno) {
	f, is := frame.Read(text)
	cid := int(f.At.Cid)
	if !is || cid >= r.cids || cid >= len(r.contexts) {
		return api.Packet{}, "", api.ErrFrame
	}
	c := r.contexts[cid]
	next := c.follow(f)
	p := next.state.Packet(next.route, f.Body)
	err := c.refusal(f, p)
	if err == api.OK {
		r.contexts[cid] = next
		return p, "", api.OK
	}
	if f.Kind == api.Whole {
		// That it is spoilt tells nothing of the context.
		return api.Packet{}, "", err
	}
	c.missed++
	r.contexts[cid] = c
	return api.Packet{}, feedback(err, c.missed, f.At.Cid), err
}

// Flows tells of each context that has a state.
func (r *Receiver) Flows() []api.Flow {
	var flows []api.Flow
	for i := 0; i < len(r.contexts); i++ {
		if r.contexts[i].begun {
			flows = append(flows, r.contexts[i].flow(i))
		}
	}
	return flows
}
