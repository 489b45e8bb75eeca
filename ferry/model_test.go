package ferry_test

import (
	"math/rand/v2"
	"slices"
	"strings"
	"testing"

	"ferry/api"
	"ferry/ferry"
)

// model is a second ferry, as plain as the document's words: one thing behind the other, texts and lists alone. Accepted requests wait in it.
type model struct {
	c       api.Config
	seats   []*modelClient
	came    int
	stopped bool
}

type modelClient struct {
	number, phase, tokens int
	sent, outbox          string
	queue                 []api.Message
}

func newModel(c api.Config) *model {
	return &model{c: c, seats: make([]*modelClient, c.Clients)}
}

func (x *model) find(u int) *modelClient {
	for _, c := range x.seats {
		if c != nil && c.number == u {
			return c
		}
	}
	return nil
}

func (x *model) connect(weight int) (int, api.Errno) {
	if x.stopped {
		return 0, api.ErrStopped
	}
	if weight < 1 || weight > 4 {
		return 0, api.ErrArg
	}
	for i, c := range x.seats {
		if c == nil {
			x.seats[i] = &modelClient{number: x.came, tokens: x.c.Burst}
			x.came++
			return x.came - 1, api.OK
		}
	}
	return 0, api.ErrFull
}

func (x *model) send(u int, s string) api.Errno {
	c := x.find(u)
	if c == nil || c.phase == 4 {
		return api.ErrClient
	}
	if len(c.sent)+len(s) > 1024 {
		return api.ErrLong
	}
	c.sent += s
	return api.OK
}

func (x *model) take(u, n int) (string, api.Errno) {
	c := x.find(u)
	if c == nil {
		return "", api.ErrClient
	}
	if n < 0 {
		return "", api.ErrArg
	}
	s := c.outbox[:min(n, len(c.outbox))]
	c.outbox = c.outbox[len(s):]
	x.end()
	return s, api.OK
}

func (x *model) hang(u int) api.Errno {
	c := x.find(u)
	if c == nil {
		return api.ErrClient
	}
	c.close()
	x.end()
	return api.OK
}

func (x *model) client(u int) (api.Status, api.Errno) {
	c := x.find(u)
	if c == nil {
		return api.Status{}, api.ErrClient
	}
	return api.Status{Phase: c.phase, Unread: len(c.sent), Queued: len(c.queue), Tokens: c.tokens, Out: len(c.outbox)}, api.OK
}

func (x *model) end() {
	for i, c := range x.seats {
		if c != nil && (c.phase == 4 || c.phase == 3 && len(c.queue) == 0 && c.outbox == "") {
			x.seats[i] = nil
		}
	}
}

func (x *model) tick() {
	for _, c := range x.seats {
		if c != nil {
			c.tokens = min(c.tokens+x.c.Rate, x.c.Burst)
		}
	}
	for _, c := range x.seats {
		for c != nil && !x.stopped && c.phase < 3 && c.readOne(x.c) {
		}
	}
	x.end()
}

func (c *modelClient) close() {
	*c = modelClient{number: c.number, phase: 4, tokens: c.tokens}
}

func (c *modelClient) readOne(k api.Config) bool {
	room := len(c.outbox) + 6
	if len(c.queue) > 0 {
		room += 4
		if c.queue[0].Kind == 0 {
			room += c.queue[0].Length
		}
	}
	m, n := c.first(k)
	if n == 0 || room > k.Out || len(c.queue) >= k.Queue {
		return false
	}
	c.sent = c.sent[n:]
	c.hear(k, m)
	return true
}

// first finds the shortest piece in which a message stands; the cookies that wait are put ahead of it, so that they are in use.
func (c *modelClient) first(k api.Config) (api.Message, int) {
	var ahead strings.Builder
	for _, m := range c.queue {
		ahead.WriteString(head(m.Kind, m.Flag, m.Cookie, m.Offset, m.Length) + m.Data)
	}
	for n := 1; n <= len(c.sent); n++ {
		if l, _ := ferry.Decode(k, c.phase, ahead.String()+c.sent[:n]); len(l) > len(c.queue) {
			return l[len(c.queue)], n
		}
	}
	return api.Message{}, 0
}

func (c *modelClient) hear(k api.Config, m api.Message) {
	switch {
	case m.What == api.Greeting && m.Name == "a":
		c.outbox, c.phase = c.outbox+"Y", 1
	case m.What == api.Greeting:
		c.outbox += "N"
	case m.What == api.Option && m.Name == "g":
		c.outbox, c.phase = c.outbox+"G", 2
	case m.What == api.Option && m.Name == "i":
		c.outbox += "I" + twoBytes(k.Size) + twoBytes(k.Max)
	case m.What == api.Option:
		c.outbox += "U" + m.Name
	case m.What == api.Closing:
		c.close()
	case m.Err != 0:
		c.outbox += "R" + string([]byte{byte(m.Err)}) + twoBytes(m.Cookie)
	case m.Kind == api.Bye:
		c.phase = 3
	default:
		c.queue = append(c.queue, m)
	}
}

// script hands out numbers until its bytes are used up.
type script struct{ left []byte }

func (s *script) below(n int) int {
	if len(s.left) == 0 {
		return 0
	}
	b := int(s.left[0])
	s.left = s.left[1:]
	return b % n
}

func (s *script) config() api.Config {
	most := 4 * (1 + s.below(8))
	return api.Config{
		Size: 4 * (1 + s.below(64)), Clients: 1 + s.below(8), Queue: 1 + s.below(8), Max: most,
		Quantum: min(64, most+s.below(32)), Rate: 1 + s.below(16), Burst: 1 + s.below(32),
		Workers: 1 + s.below(8), Out: min(256, most+4+s.below(60)),
	}
}

// message mostly fits the phase: what closes a client at once tells little.
func (s *script) message(k api.Config, phase int) string {
	if s.below(40) == 0 {
		return []string{"FERRYb", "FERRY", "FE", "x", "!", "X", "Q", "\x00", "\xff"}[s.below(9)]
	}
	switch phase {
	case 0:
		return []string{"FERRYag", "FERRYa", "FERRYag", "FERRYb", "FE", "FERRYaig"}[s.below(6)]
	case 1:
		return []string{"g", "g", "i", "z", "xyz"}[s.below(5)]
	}
	return s.request(k)
}

func (s *script) request(k api.Config) string {
	cookie := s.below(256) + 256*s.below(8)
	offset, length := 4*s.below(k.Size/4+1), 4*s.below(k.Max/4+1)
	switch what := s.below(40); {
	case what < 6:
		return head(api.Write, s.below(2), cookie, offset, length) + strings.Repeat("d", length)
	case what < 14:
		return head(api.Trim+s.below(2), s.below(2), cookie, offset, length)
	case what < 24:
		return head(api.Read, 0, cookie, offset, length)
	case what < 28:
		return head(api.Flush, 0, cookie, 0, 0)
	case what < 38:
		return head(9, 0, cookie, 0, 0)
	case what < 39:
		return head(api.Bye, 0, cookie, 0, 0)
	}
	return head(api.Flush, 0, s.below(2), 0, 0)
}

// someone is mostly one who has a seat.
func (x *model) someone(s *script) (int, int) {
	if c := x.seats[s.below(len(x.seats))]; c != nil {
		return c.number, c.phase
	}
	return x.came - s.below(10), 0
}

// game is a script that is played to a ferry and to the model, whose answers are held against each other.
type game struct {
	*script
	t    *testing.T
	c    api.Config
	x    *ferry.Ferry
	y    *model
	step int
}

func newGame(t *testing.T, data []byte) *game {
	s := &script{data}
	c := s.config()
	return &game{s, t, c, begun(t, c), newModel(c), 0}
}

// next plays one step, and tells whether there was one.
func (g *game) next() bool {
	g.t.Helper()
	if len(g.left) == 0 {
		return false
	}
	g.step++
	u, phase := g.y.someone(g.script)
	switch g.below(12) {
	case 0, 1:
		g.connect(g.below(6))
	case 2, 3, 4, 5, 6:
		g.send(u, g.message(g.c, phase))
	case 7, 8:
		g.take(u, []int{0, 1, 3, 10, 40, 300, -1}[g.below(7)])
	case 9:
		g.seldom(u)
	default:
		g.x.Tick()
		g.y.tick()
	}
	g.sameClients()
	return true
}

func (g *game) connect(weight int) {
	g.t.Helper()
	n, e := g.x.Connect(weight)
	m, f := g.y.connect(weight)
	if n != m || e != f {
		g.t.Fatalf("P5: step %d: Connect(%d) = %d, %d, want %d, %d", g.step, weight, n, e, m, f)
	}
}

func (g *game) send(u int, s string) {
	g.t.Helper()
	if e, f := g.x.Send(u, s), g.y.send(u, s); e != f {
		g.t.Fatalf("P6: step %d: Send(%d, %q) = %d, want %d", g.step, u, s, e, f)
	}
}

func (g *game) take(u, n int) {
	g.t.Helper()
	s, e := g.x.Take(u, n)
	r, f := g.y.take(u, n)
	if s != r || e != f {
		g.t.Fatalf("P6: step %d: Take(%d, %d) = %q, %d, want %q, %d", g.step, u, n, s, e, r, f)
	}
}

func (g *game) seldom(u int) {
	g.t.Helper()
	switch g.below(64) {
	case 1:
		g.x.Stop()
		g.y.stopped = true
	case 2, 3, 4, 5, 6, 7, 8, 9:
		if e, f := g.x.Hang(u), g.y.hang(u); e != f {
			g.t.Fatalf("P7: step %d: Hang(%d) = %d, want %d", g.step, u, e, f)
		}
	}
}

func (g *game) sameClients() {
	g.t.Helper()
	for u := g.y.came - 3*g.c.Clients; u <= g.y.came; u++ {
		a, e := g.x.Client(u)
		b, f := g.y.client(u)
		if a != b || e != f {
			g.t.Fatalf("P9: step %d: Client(%d) = %+v, %d, want %+v, %d", g.step, u, a, e, b, f)
		}
	}
}

func someBytes(seed uint64, n int) []byte {
	r := rand.New(rand.NewPCG(seed, seed))
	b := make([]byte, n)
	for i := range b {
		b[i] = byte(r.Uint32())
	}
	return b
}

func play(t *testing.T, data []byte) {
	t.Helper()
	for g := newGame(t, data); g.next(); {
	}
}

func TestAgainstTheModel(t *testing.T) {
	for seed := range uint64(300) {
		play(t, someBytes(seed, 1500))
	}
}

// TestInTurns: P2: ferries that are used in turns answer as each of them alone.
func TestInTurns(t *testing.T) {
	for seed := range uint64(20) {
		var games []*game
		for i := range uint64(4) {
			games = append(games, newGame(t, someBytes(500+4*seed+i, 800)))
		}
		for on := true; on; {
			on = false
			for _, g := range games {
				on = g.next() || on
			}
		}
	}
}

// TestSideBySide: P2: ferries that are used at the same time do not touch each other.
func TestSideBySide(t *testing.T) {
	for range 8 {
		t.Run("one of many", func(t *testing.T) {
			t.Parallel()
			for seed := range uint64(10) {
				play(t, someBytes(700+seed, 800))
			}
		})
	}
}

// FuzzCalls: more scripts than those of TestAgainstTheModel.
func FuzzCalls(f *testing.F) {
	for seed := range uint64(20) {
		f.Add(someBytes(1000+seed, 300))
	}
	f.Fuzz(func(t *testing.T, data []byte) { play(t, slices.Clone(data)) })
}
