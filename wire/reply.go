package wire

import "ferry/api"

// MostAtOnce is how many bytes the longest reply takes that is given at once.
const MostAtOnce = 6

// Answer is what a client hears at once when it has said m: nothing, if m is
// accepted, a BYE that is not bad, or a Closing.
func Answer(c api.Config, m api.Message) string {
	switch m.What {
	case api.Greeting:
		return answerGreeting(m.Name)
	case api.Option:
		return answerOption(c, m.Name)
	case api.Request:
		if m.Err != api.Fine {
			return Reply(m.Err, m.Cookie, "")
		}
	}
	return ""
}

func answerGreeting(name string) string {
	if name == wanted {
		return "Y"
	}
	return "N"
}

func answerOption(c api.Config, name string) string {
	switch name {
	case inform:
		return "I" + lowFirst(c.Size) + lowFirst(c.Max)
	case goOn:
		return "G"
	}
	return "U" + name
}

// Reply is the reply to a request.
func Reply(err, cookie int, data string) string {
	return "R" + oneByte(byte(err)) + lowFirst(cookie) + data
}

// ReplyBytes is how many bytes the reply without error to m takes.
func ReplyBytes(m api.Message) int {
	if m.Kind == api.Read {
		return api.Head + m.Length
	}
	return api.Head
}

func lowFirst(n int) string {
	return string([]byte{byte(n), byte(n >> 8)})
}
