package wire

import (
	"strings"

	"ferry/api"
)

const (
	hello     = "FERRY"
	wanted    = "a" // the name that a greeting must give to get on
	inform    = "i" // the option that asks how large all is
	goOn      = "g" // the option behind which requests begin
	headBytes = 9
)

// greeting gives up at the first wrong byte, however few there are behind it.
func greeting(s string) (api.Message, int) {
	for i := range min(len(s), len(hello)) {
		if s[i] != hello[i] {
			panic(breach{i + 1})
		}
	}
	if len(s) <= len(hello) {
		return api.Message{}, 0
	}
	return api.Message{What: api.Greeting, Name: oneByte(s[len(hello)])}, len(hello) + 1
}

func option(s string) (api.Message, int) {
	if s == "" {
		return api.Message{}, 0
	}
	if s[0] < 'a' || s[0] > 'z' {
		panic(breach{1})
	}
	return api.Message{What: api.Option, Name: oneByte(s[0])}, 1
}

// oneByte goes by way of a slice: a byte converted alone would be taken for a
// rune, and become two bytes from 128 on.
func oneByte(b byte) string {
	return string([]byte{b})
}

// request copies the data: a piece of s would keep all of s in memory.
func (r *Reader) request(s string) (api.Message, int) {
	if len(s) < headBytes {
		return api.Message{}, 0
	}
	m := r.head(s)
	n := headBytes
	if m.Kind == api.Write {
		n += m.Length
	}
	if len(s) < n {
		return api.Message{}, 0
	}
	m.Data = strings.Clone(s[headBytes:n])
	m.Err = fault(m, r.size)
	return m, n
}

// head is apart from the data, because a head that closes the client does so
// before any data are there.
func (r *Reader) head(s string) api.Message {
	m := api.Message{
		What:   api.Request,
		Kind:   int(s[1]),
		Flag:   int(s[2]),
		Cookie: twoBytes(s[3:]),
		Offset: twoBytes(s[5:]),
		Length: twoBytes(s[7:]),
	}
	_, used := r.used[m.Cookie]
	if s[0] != 'Q' || m.Length > r.max || used {
		panic(breach{headBytes})
	}
	return m
}

func twoBytes(s string) int {
	return int(s[0]) + int(s[1])<<8
}

// fault tells with which error a request is answered at once. The first reason
// counts: a range is held against the disk only when all else is right.
func fault(m api.Message, size int) int {
	switch {
	case m.Kind > api.Bye || !flagFits(m) || !rangeFits(m):
		return api.Invalid
	case m.Offset+m.Length <= size:
		return api.Fine
	case m.Kind == api.Write || m.Kind == api.Zero:
		return api.NoSpace
	}
	return api.Invalid
}

func flagFits(m api.Message) bool {
	switch m.Kind {
	case api.Write, api.Trim, api.Zero:
		return m.Flag <= 1
	}
	return m.Flag == 0
}

func rangeFits(m api.Message) bool {
	switch m.Kind {
	case api.Flush, api.Bye:
		return m.Offset == 0 && m.Length == 0
	}
	return m.Length != 0 && m.Offset%api.Sector == 0 && m.Length%api.Sector == 0
}
