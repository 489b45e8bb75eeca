package ferry

import (
	"ferry/api"
	"ferry/wire"
)

// Decode tells what a client says (P4).
func Decode(c api.Config, phase int, s string) ([]api.Message, int) {
	if Check(c) != api.OK || !within(phase, wire.PhaseGreeting, wire.PhaseRequests) {
		return nil, 0
	}
	var said []api.Message
	taken := 0
	for m, n := range wire.NewReader(c, phase).Messages(s) {
		said = append(said, m)
		taken += n
	}
	return said, taken
}
