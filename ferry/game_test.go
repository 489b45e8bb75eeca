package ferry_test

import (
	"math/rand/v2"
	"slices"
	"strings"
	"testing"

	"ferry/api"
	"ferry/ferry"
)

// script hands out numbers until its bytes are used up.
type script struct{ left []byte }

func (s *script) below(n int) int {
	if len(s.left) == 0 {
		return 0
	}
	b := int(s.left[0])
	s.left = s.left[1:]
	return b % n
}

func (s *script) config() api.Config {
	most := 4 * (1 + s.below(8))
	return api.Config{
		Size: 4 * (1 + s.below(64)), Clients: 1 + s.below(8), Queue: 1 + s.below(8), Max: most,
		Quantum: min(64, most+s.below(32)), Rate: 1 + s.below(16), Burst: 1 + s.below(32),
		Workers: 1 + s.below(8), Out: min(256, most+4+s.below(60)),
	}
}

// message mostly fits the phase: what closes a client at once tells little.
func (s *script) message(k api.Config, phase int) string {
	if s.below(40) == 0 {
		return []string{"FERRYb", "FERRY", "FE", "x", "!", "X", "Q", "\x00", "\xff"}[s.below(9)]
	}
	switch phase {
	case 0:
		return []string{"FERRYag", "FERRYa", "FERRYag", "FERRYb", "FE", "FERRYaig"}[s.below(6)]
	case 1:
		return []string{"g", "g", "i", "z", "xyz"}[s.below(5)]
	}
	return s.request(k)
}

// request is mostly a row of some that lie one behind the other: they may go off as one job.
func (s *script) request(k api.Config) string {
	cookie := s.below(256) + 256*s.below(8)
	switch what := s.below(40); {
	case what < 12:
		return s.row(k, api.Write, s.below(2), cookie)
	case what < 20:
		return s.row(k, api.Trim+s.below(2), s.below(2), cookie)
	case what < 31:
		return s.row(k, api.Read, 0, cookie)
	case what < 35:
		return head(api.Flush, 0, cookie, 0, 0)
	case what < 38:
		return head(9, 0, cookie, 0, 0)
	case what < 39:
		return head(api.Bye, 0, cookie, 0, 0)
	}
	return head(api.Flush, 0, s.below(2), 0, 0)
}

func (s *script) row(k api.Config, kind, flag, cookie int) string {
	var out strings.Builder
	offset := 4 * s.below(k.Size/4)
	for i := range 1 + s.below(4) {
		length := 4 * (1 + s.below(k.Max/4))
		if s.below(3) > 0 {
			length = 4
		}
		out.WriteString(head(kind, flag, cookie+i, offset, length))
		if kind == api.Write {
			out.WriteString(strings.Repeat(string([]byte{byte('A' + s.below(26))}), length))
		}
		offset += length
		if s.below(12) == 0 {
			offset, flag = 4*s.below(k.Size/4+1), s.below(2)
		}
	}
	return out.String()
}

// someone is mostly one who has a seat.
func (x *model) someone(s *script) (int, int) {
	if c := x.seats[s.below(len(x.seats))]; c != nil {
		return c.number, c.phase
	}
	return x.came - s.below(10), 0
}

// game is a script that is played to a ferry and to the model, whose answers are held against each other.
type game struct {
	*script
	t    *testing.T
	c    api.Config
	x    *ferry.Ferry
	y    *model
	step int
}

func newGame(t *testing.T, data []byte) *game {
	s := &script{data}
	c := s.config()
	return &game{s, t, c, begun(t, c), newModel(c), 0}
}

// next plays one step, and tells whether there was one.
func (g *game) next() bool {
	g.t.Helper()
	if len(g.left) == 0 {
		return false
	}
	g.step++
	u, phase := g.y.someone(g.script)
	switch g.below(16) {
	case 0, 1:
		g.connect(g.below(6))
	case 2, 3, 4, 5, 6:
		g.send(u, g.message(g.c, phase))
	case 7, 8, 9:
		g.take(u, []int{0, 1, 3, 10, 40, 300, 300, 300, -1}[g.below(9)])
	case 10:
		g.seldom(u)
	case 11:
		g.fate([]int{1, 1, 2, 3, 5, 16, 0, 17}[g.below(8)], g.below(3) == 0, []int{0, 1, 2, 3, 9, -1}[g.below(6)])
	default:
		g.x.Tick()
		g.y.tick()
	}
	g.sameClients()
	g.sameRest()
	return true
}

func (g *game) fate(delay int, fails bool, part int) {
	g.t.Helper()
	if e, f := g.x.Fate(delay, fails, part), g.y.fate(delay, fails, part); e != f {
		g.t.Fatalf("P8: step %d: Fate(%d, %t, %d) = %d, want %d", g.step, delay, fails, part, e, f)
	}
}

func (g *game) sameRest() {
	g.t.Helper()
	if s := g.x.Disk(); s != g.y.disk {
		g.t.Fatalf("P10: step %d: Disk() = %q, want %q", g.step, s, g.y.disk)
	}
	for _, keep := range g.keeps() {
		if s := g.x.Crash(keep); s != g.y.crash(keep) {
			g.t.Fatalf("P10: step %d: Crash(%q) = %q, want %q", g.step, keep, s, g.y.crash(keep))
		}
	}
	if l := g.x.Log(); !slices.Equal(l, g.y.log) {
		g.t.Fatalf("P10: step %d: Log() = %+v, want %+v", g.step, l, g.y.log)
	}
	if d := g.x.Done(); d != g.y.done() {
		g.t.Fatalf("P8: step %d: Done() = %t, want %t", g.step, d, g.y.done())
	}
}

// keeps are made of the step's number, not of the script: that one is to be used up by what changes something.
func (g *game) keeps() []string {
	long := len(g.y.writes)
	r := rand.New(rand.NewPCG(uint64(g.step), 3))
	out := []string{"", strings.Repeat("1", long+1)}
	for _, choice := range []string{"01", "0111", "0001", "01x"} {
		var keep strings.Builder
		for range r.IntN(long + 5) {
			keep.WriteByte(choice[r.IntN(len(choice))])
		}
		out = append(out, keep.String())
	}
	return out
}

func (g *game) connect(weight int) {
	g.t.Helper()
	n, e := g.x.Connect(weight)
	m, f := g.y.connect(weight)
	if n != m || e != f {
		g.t.Fatalf("P5: step %d: Connect(%d) = %d, %d, want %d, %d", g.step, weight, n, e, m, f)
	}
}

func (g *game) send(u int, s string) {
	g.t.Helper()
	if e, f := g.x.Send(u, s), g.y.send(u, s); e != f {
		g.t.Fatalf("P6: step %d: Send(%d, %q) = %d, want %d", g.step, u, s, e, f)
	}
}

func (g *game) take(u, n int) {
	g.t.Helper()
	s, e := g.x.Take(u, n)
	r, f := g.y.take(u, n)
	if s != r || e != f {
		g.t.Fatalf("P6: step %d: Take(%d, %d) = %q, %d, want %q, %d", g.step, u, n, s, e, r, f)
	}
}

func (g *game) seldom(u int) {
	g.t.Helper()
	switch g.below(64) {
	case 1:
		g.x.Stop()
		g.y.stopped = true
	case 2, 3, 4, 5, 6, 7, 8, 9:
		if e, f := g.x.Hang(u), g.y.hang(u); e != f {
			g.t.Fatalf("P7: step %d: Hang(%d) = %d, want %d", g.step, u, e, f)
		}
	}
}

func (g *game) sameClients() {
	g.t.Helper()
	for u := g.y.came - 3*g.c.Clients; u <= g.y.came; u++ {
		a, e := g.x.Client(u)
		b, f := g.y.client(u)
		if a != b || e != f {
			g.t.Fatalf("P9: step %d: Client(%d) = %+v, %d, want %+v, %d", g.step, u, a, e, b, f)
		}
	}
}

func someBytes(seed uint64, n int) []byte {
	r := rand.New(rand.NewPCG(seed, seed))
	b := make([]byte, n)
	for i := range b {
		b[i] = byte(r.Uint32())
	}
	return b
}

func play(t *testing.T, data []byte) {
	t.Helper()
	for g := newGame(t, data); g.next(); {
	}
}

func TestAgainstTheModel(t *testing.T) {
	for seed := range uint64(300) {
		play(t, someBytes(seed, 1500))
	}
}

// TestInTurns: P2: ferries that are used in turns answer as each of them alone.
func TestInTurns(t *testing.T) {
	for seed := range uint64(20) {
		var games []*game
		for i := range uint64(4) {
			games = append(games, newGame(t, someBytes(500+4*seed+i, 800)))
		}
		for on := true; on; {
			on = false
			for _, g := range games {
				on = g.next() || on
			}
		}
	}
}

// TestSideBySide: P2: ferries that are used at the same time do not touch each other.
func TestSideBySide(t *testing.T) {
	for range 8 {
		t.Run("one of many", func(t *testing.T) {
			t.Parallel()
			for seed := range uint64(10) {
				play(t, someBytes(700+seed, 800))
			}
		})
	}
}

// FuzzCalls: more scripts than those of TestAgainstTheModel.
func FuzzCalls(f *testing.F) {
	for seed := range uint64(20) {
		f.Add(someBytes(1000+seed, 300))
	}
	f.Fuzz(func(t *testing.T, data []byte) { play(t, slices.Clone(data)) })
}
