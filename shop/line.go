package shop

import (
	"slices"

	"speculum/api"
)

// Server is a book of facts to which clients add over a line.
type Server struct {
	book    *book
	answers map[int]api.Letter // the last one to each client
}

// NewServer is a server that has heard no letters.
func NewServer(x api.Shop, facts []string) (*Server, api.Errno) {
	b, _, e := bookOf(x, facts)
	if e != api.OK {
		return nil, e
	}
	b.shop = copyOf(x)
	return &Server{book: b, answers: map[int]api.Letter{}}, api.OK
}

// Hear is the answer to a letter, if there is one. A letter is done once, and its answer is kept until the next one.
func (s *Server) Hear(l api.Letter) (api.Letter, bool) {
	if s == nil || !isWithin(l.Client, 1, api.MaxClients) {
		return api.Letter{}, false
	}
	last, isKept := s.answers[l.Client]
	if isKept && l.Number == last.Number {
		return last, true
	}
	if l.Number != last.Number+1 {
		return api.Letter{}, false
	}
	answer := api.Letter{Client: l.Client, Number: l.Number, Text: written("ok", s.book.accept(l.Text))}
	s.answers[l.Client] = answer
	return answer, true
}

// Facts is the facts of a server.
func (s *Server) Facts() []string {
	if s == nil {
		return nil
	}
	return slices.Clone(s.book.facts)
}

// Client asks one request after the other.
type Client struct {
	asked api.Letter // the last one; its text is kept as long as the client waits
	waits bool
}

// NewClient is a client that has asked nothing.
func NewClient(number int) (*Client, api.Errno) {
	if !isWithin(number, 1, api.MaxClients) {
		return nil, api.ErrRange
	}
	return &Client{asked: api.Letter{Client: number}}, api.OK
}

// Ask is the letter of the next request.
func (c *Client) Ask(text string) (api.Letter, api.Errno) {
	if c == nil {
		return api.Letter{}, api.ErrNil
	}
	if c.waits {
		return api.Letter{}, api.ErrBusy
	}
	c.asked.Number++
	c.asked.Text, c.waits = text, true
	return c.asked, api.OK
}

// Again is the letter of the last request, as long as the client waits.
func (c *Client) Again() (api.Letter, bool) {
	if !c.Waiting() {
		return api.Letter{}, false
	}
	return c.asked, true
}

// Hear is the text of a letter, if it is the answer for which the client waits.
func (c *Client) Hear(l api.Letter) (string, bool) {
	if !c.Waiting() || l.Client != c.asked.Client || l.Number != c.asked.Number {
		return "", false
	}
	c.asked.Text, c.waits = "", false
	return l.Text, true
}

// Waiting reports whether a client waits for an answer.
func (c *Client) Waiting() bool {
	return c != nil && c.waits
}
