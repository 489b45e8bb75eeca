package ferry_test

import (
	"math"
	"slices"
	"strings"
	"testing"

	"ferry/api"
	"ferry/ferry"
)

// said is a message beside the bytes that it stands in.
type said struct {
	bytes   string
	message api.Message
}

func twoBytes(n int) string { return string([]byte{byte(n), byte(n >> 8)}) }

func head(kind, flag, cookie, offset, length int) string {
	return "Q" + string([]byte{byte(kind), byte(flag)}) + twoBytes(cookie) + twoBytes(offset) + twoBytes(length)
}

func greet(name string) said {
	return said{"FERRY" + name, api.Message{What: api.Greeting, Name: name}}
}

func option(name string) said {
	return said{name, api.Message{What: api.Option, Name: name}}
}

func closes(bytes string) said {
	return said{bytes, api.Message{What: api.Closing}}
}

func ask(kind, flag, cookie, offset, length, err int) said {
	return said{head(kind, flag, cookie, offset, length), api.Message{What: api.Request, Kind: kind, Flag: flag, Cookie: cookie, Offset: offset, Length: length, Err: err}}
}

func write(flag, cookie, offset int, data string, err int) said {
	w := ask(api.Write, flag, cookie, offset, len(data), err)
	w.bytes += data
	w.message.Data = data
	return w
}

func bytesOf(l []said) string {
	var b strings.Builder
	for _, m := range l {
		b.WriteString(m.bytes)
	}
	return b.String()
}

func messagesOf(l []said) []api.Message {
	var out []api.Message
	for _, m := range l {
		out = append(out, m.message)
	}
	return out
}

// wantDecode asks twice, and spoils the first answer and its spare room in between (P2).
func wantDecode(t *testing.T, c api.Config, phase int, s string, want []api.Message, n int) {
	t.Helper()
	first, n1 := ferry.Decode(c, phase, s)
	kept := slices.Clone(first)
	first = first[:cap(first)]
	for i := range first {
		first[i] = api.Message{What: 99, Name: "spoilt", Kind: -1, Data: "spoilt", Err: -1}
	}
	second, n2 := ferry.Decode(c, phase, s)
	if !slices.Equal(kept, second) || n1 != n2 {
		t.Errorf("P2: Decode(.., %d, %.60q) twice = %+v, %d and %+v, %d", phase, s, kept, n1, second, n2)
	}
	if !slices.Equal(second, want) || n2 != n {
		t.Errorf("P4: Decode(.., %d, %.60q) = %+v, %d, want %+v, %d", phase, s, second, n2, want, n)
	}
}

// wantSaid decodes the messages, one behind the other, with the tail behind them, of which nothing is read.
func wantSaid(t *testing.T, phase int, tail string, l ...said) {
	t.Helper()
	s := bytesOf(l)
	wantDecode(t, good, phase, s+tail, messagesOf(l), len(s))
}

func TestDecodeExamples(t *testing.T) {
	wantSaid(t, 0, "", greet("a"), option("i"), option("g"))
	wantSaid(t, 0, "", greet("b"), greet("a"))
	wantSaid(t, 0, "", closes("FERX"))
	wantSaid(t, 0, "FER")
	wantSaid(t, 1, "", option("x"), closes("!"))
	wantDecode(t, good, 2, "Q\x00\x00\x07\x00\x04\x00\x08\x00", []api.Message{{What: api.Request, Cookie: 7, Offset: 4, Length: 8}}, 9)
	wantDecode(t, good, 2, "Q\x01\x00\x07\x00\x04\x00\x04\x00abc", nil, 0)
	wantDecode(t, good, 2, "Q\x01\x00\x07\x00\x04\x00\x04\x00abcd", []api.Message{{What: api.Request, Kind: 1, Cookie: 7, Offset: 4, Length: 4, Data: "abcd"}}, 13)
	wantSaid(t, 2, "", ask(9, 0, 7, 0, 0, 22))
	wantSaid(t, 2, "", ask(0, 0, 7, 60, 8, 22))
	wantSaid(t, 2, "", write(0, 7, 60, "abcdefgh", 28))
	wantSaid(t, 2, "", closes(head(0, 0, 7, 0, 9)))
}

func TestDecodeGreetings(t *testing.T) {
	for b := range 256 {
		name := string([]byte{byte(b)})
		if name == "a" {
			wantSaid(t, 0, "", greet(name), option("f"), closes("E"))
			continue
		}
		wantSaid(t, 0, "", greet(name), greet(name), greet("a"), option("g"), ask(2, 0, 1, 0, 0, 0))
	}
	for i := range 5 {
		for b := range 256 {
			if byte(b) == "FERRY"[i] {
				continue
			}
			wrong := "FERRY"[:i] + string([]byte{byte(b)})
			wantSaid(t, 0, "", closes(wrong))
			wantSaid(t, 0, "FERRYa", greet("b"), closes(wrong))
		}
	}
	wantSaid(t, 0, "", greet("A"), greet("F"), closes("Fe"))
}

func TestDecodeOptions(t *testing.T) {
	for b := range 256 {
		name := string([]byte{byte(b)})
		switch {
		case name == "g":
			wantSaid(t, 1, "ix", option("i"), option(name))
		case b >= 'a' && b <= 'z':
			wantSaid(t, 1, "", option(name), option(name), option("i"))
		default:
			wantSaid(t, 1, "ig", closes(name))
			wantSaid(t, 1, "ig", option("a"), closes(name))
		}
	}
}

// cutShort holds Decode against every piece from the front: a message that is not whole is not told.
func cutShort(t *testing.T, c api.Config, phase int, l []said) {
	t.Helper()
	s := bytesOf(l)
	whole, n := 0, 0
	for cut := range len(s) + 1 {
		if whole < len(l) && cut == n+len(l[whole].bytes) {
			whole, n = whole+1, cut
		}
		wantDecode(t, c, phase, s[:cut], messagesOf(l[:whole]), n)
	}
}

func TestDecodeCutAnywhere(t *testing.T) {
	cutShort(t, good, 0, []said{
		greet("b"), greet("a"), option("i"), option("z"), option("g"),
		ask(api.Read, 0, 1, 56, 8, 0), write(0, 2, 0, "QQQQ", 0), write(1, 3, 4, "\x00\xff\x80a\nFER", 0),
		ask(api.Flush, 0, 4, 0, 0, 0), ask(api.Trim, 1, 5, 0, 4, 0), ask(api.Zero, 0, 0, 8, 8, 0),
		write(0, 6, 0, "abc", 22), write(0, 6, 64, "abcd", 28), ask(api.Read, 0, 6, 1, 8, 22),
		write(0, 6, 8, "QQQQQQQQ", 0), ask(255, 255, 7, 65535, 8, 22), ask(api.Bye, 1, 7, 0, 0, 22), ask(api.Bye, 0, 7, 0, 0, 0),
	})
	cutShort(t, good, 0, []said{greet("\xff"), closes("FERRX")})
	cutShort(t, good, 1, []said{option("h"), closes("G")})
	cutShort(t, good, 2, []said{write(0, 1, 0, "abcd", 0), closes(head(api.Write, 0, 2, 0, 9))})
	cutShort(t, good, 2, []said{write(0, 1, 0, "abcd", 0), closes(head(api.Write, 0, 1, 0, 4))})
	cutShort(t, good, 2, []said{ask(2, 0, 1, 0, 0, 0), closes("q" + head(2, 0, 2, 0, 0)[1:])})
}

func TestDecodeWhatCloses(t *testing.T) {
	for b := range 256 {
		if b != 'Q' {
			wantSaid(t, 2, "abcd", closes(string([]byte{byte(b)})+head(api.Write, 0, 7, 0, 4)[1:]))
		}
	}
	for kind := range 256 {
		for _, length := range []int{9, 12, 256, 264, 65535} {
			wantSaid(t, 2, strings.Repeat("Q", 12), ask(2, 0, 1, 0, 0, 0), closes(head(kind, 9, 7, 3, length)))
			wantSaid(t, 2, head(2, 0, 9, 0, 0), closes(head(kind, 0, 7, 0, length)))
		}
	}
}

func TestDecodeLongestRequest(t *testing.T) {
	most := good
	most.Max, most.Quantum, most.Out, most.Size = 32, 32, 36, 256
	data := strings.Repeat("x", 32)
	cutShort(t, most, 2, []said{write(0, 1, 224, data, 0), write(0, 2, 228, data, 28), closes(head(0, 0, 3, 0, 33))})
	least := good
	least.Max, least.Quantum, least.Out, least.Size = 4, 4, 8, 4
	cutShort(t, least, 2, []said{write(0, 1, 0, "abcd", 0), write(0, 2, 4, "abcd", 28), closes(head(0, 0, 3, 0, 5))})
	wide := least
	wide.Max, wide.Quantum, wide.Out = 32, 32, 36
	cutShort(t, wide, 2, []said{ask(api.Read, 0, 1, 0, 4, 0), ask(api.Read, 0, 2, 0, 8, 22), ask(api.Zero, 0, 3, 0, 32, 28)})
}

func TestDecodeCookies(t *testing.T) {
	accepted := []said{ask(api.Read, 0, 7, 0, 4, 0), write(1, 7, 0, "abcd", 0), ask(api.Flush, 0, 7, 0, 0, 0), ask(api.Trim, 0, 7, 0, 4, 0), ask(api.Zero, 1, 7, 0, 4, 0)}
	for _, a := range accepted {
		for kind := range 7 {
			wantSaid(t, 2, "abcd", a, closes(head(kind, 0, 7, 0, 4)))
			wantSaid(t, 2, "abcd", a, closes(head(kind, 9, 7, 3, 3)))
		}
		wantSaid(t, 2, "", a, closes(head(api.Bye, 0, 7, 0, 0)))
		wantSaid(t, 2, "", a, ask(2, 0, 8, 0, 0, 0), ask(2, 0, 9, 0, 0, 0), closes(head(2, 0, 8, 0, 0)))
		wantSaid(t, 2, "", a, ask(2, 0, 0x700, 0, 0, 0), ask(2, 0, 0x707, 0, 0, 0), ask(2, 0, 0, 0, 0, 0), ask(2, 0, 65535, 0, 0, 0), ask(api.Bye, 0, 1, 0, 0, 0))
	}
	for _, bad := range []said{ask(6, 0, 7, 0, 0, 22), ask(0, 1, 7, 0, 4, 22), ask(2, 0, 7, 4, 0, 22), ask(5, 0, 7, 0, 4, 22), ask(0, 0, 7, 0, 0, 22), write(0, 7, 64, "abcd", 28), ask(3, 0, 7, 64, 4, 22)} {
		wantSaid(t, 2, "", bad, bad, accepted[1], closes(bad.bytes[:9]))
		wantSaid(t, 2, "", bad, ask(api.Bye, 0, 7, 0, 0, 0))
	}
}

func TestDecodeWhatIsBad(t *testing.T) {
	for kind := 6; kind < 256; kind++ {
		wantSaid(t, 2, "", ask(kind, 0, 7, 0, 4, 22), ask(kind, 1, 7, 60, 8, 22), ask(kind, 0, 7, 0, 0, 22), ask(kind, 255, 7, 65535, 8, 22))
	}
	for flag := 2; flag < 256; flag++ {
		wantSaid(t, 2, "", ask(0, flag, 7, 0, 4, 22), write(flag, 7, 0, "abcd", 22), write(flag, 7, 64, "abcd", 22), ask(2, flag, 7, 0, 0, 22), ask(3, flag, 7, 0, 4, 22), ask(4, flag, 7, 64, 4, 22), ask(5, flag, 7, 0, 0, 22))
	}
	wantSaid(t, 2, "", ask(0, 1, 1, 0, 4, 22), write(1, 2, 0, "abcd", 0), ask(2, 1, 3, 0, 0, 22), ask(3, 1, 4, 0, 4, 0), ask(4, 1, 5, 0, 4, 0), ask(5, 1, 6, 0, 0, 22))
	for _, kind := range []int{api.Flush, api.Bye} {
		wantSaid(t, 2, "", ask(kind, 0, 7, 1, 0, 22), ask(kind, 0, 7, 4, 0, 22), ask(kind, 0, 7, 0, 4, 22), ask(kind, 0, 7, 65535, 0, 22), ask(kind, 0, 7, 256, 8, 22), ask(kind, 0, 7, 0, 0, 0))
	}
}

// TestDecodeRanges goes through all offsets and lengths about the disk's end, and far ones.
func TestDecodeRanges(t *testing.T) {
	offsets := []int{256, 260, 4096, 32768, 65528, 65531, 65532, 65534, 65535}
	for n := range 80 {
		offsets = append(offsets, n)
	}
	for _, kind := range []int{api.Read, api.Write, api.Trim, api.Zero} {
		for _, offset := range offsets {
			for length := range 9 {
				err := 0
				switch {
				case length == 0 || length%4 != 0 || offset%4 != 0:
					err = 22
				case offset+length > 64 && (kind == api.Write || kind == api.Zero):
					err = 28
				case offset+length > 64:
					err = 22
				}
				if kind == api.Write {
					wantSaid(t, 2, "", write(0, 7, offset, "abcdefgh"[:length], err))
				} else {
					wantSaid(t, 2, "", ask(kind, 0, 7, offset, length, err))
				}
			}
		}
	}
}

func TestDecodeBehindTheEnd(t *testing.T) {
	tail := bytesOf([]said{greet("a"), option("i"), write(0, 9, 0, "abcd", 0)})
	for i := range len(tail) + 1 {
		wantSaid(t, 2, tail[i:], ask(api.Read, 0, 1, 0, 4, 0), ask(api.Bye, 0, 7, 0, 0, 0))
		wantSaid(t, 2, tail[i:], closes(head(0, 0, 7, 0, 9)))
		wantSaid(t, 1, tail[i:], closes("\x00"))
		wantSaid(t, 0, tail[i:], closes("FERY"))
	}
	wantSaid(t, 2, "", ask(api.Bye, 0, 7, 0, 4, 22), ask(api.Bye, 1, 7, 0, 0, 22), write(0, 7, 0, "abcd", 0), ask(api.Bye, 0, 8, 0, 0, 0))
}

func TestDecodeEachPhase(t *testing.T) {
	s := head(2, 0, 7, 0, 0)
	wantSaid(t, 0, s[1:], closes(s[:1]))
	wantSaid(t, 1, s[1:], closes(s[:1]))
	wantSaid(t, 2, "", said{s, ask(2, 0, 7, 0, 0, 0).message})
	wantSaid(t, 1, "ERRYa", closes("F"))
	wantSaid(t, 2, "", closes("FERRYaggg"))
	wantSaid(t, 2, "FERRYagg")
	for phase := range 3 {
		wantSaid(t, phase, "")
	}
}

func TestDecodeOfNothing(t *testing.T) {
	s := bytesOf([]said{greet("a"), option("g"), ask(2, 0, 7, 0, 0, 0)})
	for _, phase := range append([]int{-1, 3, 4, 5, 256, 257, 258}, far...) {
		if l, n := ferry.Decode(good, phase, s); l != nil || n != 0 {
			t.Errorf("P4: Decode in phase %d = %+v, %d, want nil and 0", phase, l, n)
		}
	}
	for _, f := range fields() {
		for _, n := range append([]int{f.least - 1, f.most + 1, 0, -1}, far...) {
			c := good
			*f.of(&c) = n
			for phase := range 3 {
				if l, n := ferry.Decode(c, phase, s); l != nil || n != 0 {
					t.Errorf("P4: Decode of no configuration %+v = %+v, %d, want nil and 0", c, l, n)
				}
			}
		}
	}
}

func TestDecodeLongTexts(t *testing.T) {
	const many = 1 << 17
	for _, c := range []struct {
		phase          int
		s              string
		messages, took int
	}{
		{0, strings.Repeat("FERRYb", many), many, 6 * many},
		{0, strings.Repeat("F", many), 1, 2},
		{1, strings.Repeat("i", many), many, many},
		{1, "g" + strings.Repeat("i", many), 2, 10},
		{2, strings.Repeat(head(9, 0, 7, 0, 0), many), many, 9 * many},
		{2, strings.Repeat(write(0, 7, 64, "abcd", 28).bytes, many), many, 13 * many},
		{2, strings.Repeat("Q", many), 1, 9},
		{2, strings.Repeat("\x00", many), 1, 9},
		{2, head(5, 0, 7, 0, 0) + strings.Repeat("Q", many), 1, 9},
	} {
		if l, n := ferry.Decode(good, c.phase, c.s); len(l) != c.messages || n != c.took {
			t.Errorf("P4: Decode(.., %d, %.20q and so on) = %d messages, %d, want %d, %d", c.phase, c.s, len(l), n, c.messages, c.took)
		}
	}
}

func TestDecodeEveryCookie(t *testing.T) {
	var b strings.Builder
	for cookie := range 1 << 16 {
		b.WriteString(head(2, 0, cookie, 0, 0))
	}
	s := b.String()
	l, n := ferry.Decode(good, 2, s)
	if len(l) != 1<<16 || n != len(s) {
		t.Fatalf("P4: Decode of every cookie = %d messages, %d", len(l), n)
	}
	for i, m := range l {
		if m != ask(2, 0, i, 0, 0, 0).message {
			t.Fatalf("P4: Decode of every cookie: message %d = %+v", i, m)
		}
	}
	for _, cookie := range []int{0, 1, 255, 256, math.MaxUint16} {
		l, n = ferry.Decode(good, 2, s+head(2, 0, cookie, 0, 0))
		if len(l) != 1<<16+1 || l[1<<16].What != api.Closing || n != len(s)+9 {
			t.Errorf("P4: Decode of every cookie and %d again = %d messages, %d", cookie, len(l), n)
		}
	}
}
