package wire

import (
	"testing"

	"ferry/api"
)

func wantAnswer(t *testing.T, c api.Config, m api.Message, want string) {
	t.Helper()
	got := Answer(c, m)
	if got != want {
		t.Errorf("Answer(.., %+v) = %q, want %q", m, got, want)
	}
	if len(got) > MostAtOnce {
		t.Errorf("Answer(.., %+v) takes %d bytes, but room is kept for %d", m, len(got), MostAtOnce)
	}
}

func TestAnswerGreeting(t *testing.T) {
	for b := range 256 {
		want := "N"
		if b == 'a' {
			want = "Y"
		}
		wantAnswer(t, config, api.Message{What: api.Greeting, Name: string([]byte{byte(b)})}, want)
	}
}

func TestAnswerOption(t *testing.T) {
	for b := 'a'; b <= 'z'; b++ {
		want := "U" + string(b)
		switch b {
		case 'i':
			want = "I\x40\x00\x08\x00"
		case 'g':
			want = "G"
		}
		wantAnswer(t, config, api.Message{What: api.Option, Name: string(b)}, want)
	}
	most := api.Config{Size: api.MaxSize, Max: api.MaxData}
	wantAnswer(t, most, api.Message{What: api.Option, Name: "i"}, "I\x00\x01\x20\x00")
}

func TestAnswerRequest(t *testing.T) {
	wantAnswer(t, config, api.Message{What: api.Request, Kind: 9, Cookie: 0x1234, Err: api.Invalid}, "R\x16\x34\x12")
	wantAnswer(t, config, api.Message{What: api.Request, Kind: api.Write, Cookie: 0xff00, Err: api.NoSpace}, "R\x1c\x00\xff")
	wantAnswer(t, config, api.Message{What: api.Request, Kind: api.Bye, Cookie: 7, Err: api.Invalid}, "R\x16\x07\x00")
	for kind := range 6 {
		wantAnswer(t, config, api.Message{What: api.Request, Kind: kind, Cookie: 7}, "")
	}
	wantAnswer(t, config, api.Message{What: api.Closing}, "")
}

func TestReplyBytes(t *testing.T) {
	for kind := range 5 {
		for length := 0; length <= api.MaxData; length += api.Sector {
			data := ""
			if kind == api.Read {
				data = string(make([]byte, length))
			}
			m := api.Message{What: api.Request, Kind: kind, Length: length}
			if got, want := ReplyBytes(m), len(Reply(api.Fine, 7, data)); got != want {
				t.Errorf("ReplyBytes(%+v) = %d, want %d", m, got, want)
			}
		}
	}
	if got := Reply(api.Fine, 0x0102, "abcd"); got != "R\x00\x02\x01abcd" {
		t.Errorf("Reply = %q", got)
	}
}
