package server

import (
	"bytes"

	"tickertape/api"
	"tickertape/cmd"
	"tickertape/deck"
	"tickertape/frag"
	"tickertape/index"
	"tickertape/peer"
	"tickertape/screen"
	"tickertape/seek"
	"tickertape/sync"
)

// serverDir is the direction of what the server sends.
const serverDir = 1

// nowhere is a peer's address as long as nothing has come.
const nowhere = -1

// viewer is the server's side of one viewer. What it gets is never cut, so nothing has to be gathered.
type viewer struct {
	num    int
	peer   *peer.Peer
	deck   *deck.Deck
	sender *sync.Sender
	// done is the last command that was done, answered what it was behind the last Tick.
	done, answered uint64
	// id and message are of the last message, sent and sentAt the state that it told, and when.
	id           uint64
	message      []byte
	sent, sentAt uint64
}

// fault is what gives up a viewer's turn; turn catches it.
type fault struct{}

func must(e api.Errno) {
	if e != api.OK {
		panic(fault{})
	}
}

// Join makes room for a viewer that has this key.
func (s *Server) Join(key []byte) (int, api.Errno) {
	for num, v := range s.viewers {
		if v != nil {
			continue
		}
		p, e := peer.New(key, serverDir, num, 0)
		if e != api.OK {
			return 0, e
		}
		s.viewers[num] = &viewer{num: num, peer: p, deck: deck.New(), sender: sync.NewSender(0)}
		return num, api.OK
	}
	return 0, api.ErrBusy
}

// viewer is the viewer of that number, or nil.
func (s *Server) viewer(num int) *viewer {
	if num < 0 || num >= len(s.viewers) {
		return nil
	}
	return s.viewers[num]
}

// Leave lets a viewer go.
func (s *Server) Leave(viewer int) bool {
	if s.viewer(viewer) == nil {
		return false
	}
	s.viewers[viewer] = nil
	return true
}

// Take takes a datagram of a viewer.
func (s *Server) Take(viewer, from int, b []byte) api.Errno {
	v := s.viewer(viewer)
	if v == nil {
		return api.ErrNone
	}
	body, e := v.peer.Take(from, b)
	if e != api.OK {
		return e
	}
	r, e := sync.DecodeReport(body)
	if e != api.OK {
		return api.ErrForm
	}
	v.sender.Has(r.Have)
	if r.Num == v.done+1 {
		s.do(v, r)
	}
	return api.OK
}

// do does a command. That it is done is all that is answered: what can't be done is done, too.
func (s *Server) do(v *viewer, r sync.Report) {
	v.done = r.Num
	if c, e := cmd.Decode(r.Command); e == api.OK {
		cmd.Do(v.deck, c, s.now, s.lo, s.hi)
	}
}

// turn shows a viewer what its deck stands at; the first error ends it.
func (s *Server) turn(v *viewer, hint []index.Entry) {
	defer func() {
		if given := recover(); given != nil {
			if _, own := given.(fault); !own {
				panic(given)
			}
		}
	}()
	asked := v.done != v.answered
	v.answered = v.done
	v.deck.Tick(s.now, s.lo, s.hi)
	before := uint64(0)
	if asked {
		before = v.sender.Last().Num
	}
	if pos, x, ok := s.stands(v, hint); ok {
		must(v.sender.Show(v.deck.Mode(), pos, x))
	}
	// A command that changes nothing needs a state that brings its answer.
	if before != 0 && v.sender.Last().Num == before {
		must(v.sender.Again())
	}
	s.send(v)
}

// stands is the screen that the viewer's deck stands at, and its time.
func (s *Server) stands(v *viewer, hint []index.Entry) (uint64, screen.Screen, bool) {
	if v.deck.Mode() == deck.OnAir {
		return s.since, s.seen, true
	}
	found, e := seek.At(s.film, hint, v.deck.Pos())
	return found.Time, found.Screen, e == api.OK
}

// send sends the viewer what it lacks, if it is new, or was sent long ago.
func (s *Server) send(v *viewer) {
	u, ok := v.sender.Update(v.done)
	if !ok || v.peer.Address() == nowhere {
		return
	}
	if u.Num == v.sent && s.now-v.sentAt < s.resend {
		return
	}
	b, e := sync.EncodeUpdate(u)
	must(e)
	id := v.id
	if id == 0 || !bytes.Equal(b, v.message) {
		id++
	}
	parts, e := frag.Cut(id, b)
	must(e)
	v.id, v.message = id, b
	v.sent, v.sentAt = u.Num, s.now
	for _, part := range parts {
		packet, e := v.peer.Send(part)
		must(e)
		s.out = append(s.out, Datagram{Viewer: v.num, Address: v.peer.Address(), Bytes: packet})
	}
}
