package lex

import (
	"strconv"
	"strings"

	"metronome/api"
	"metronome/bv"
)

const (
	maxDigits      = 20 // of a number with a kind
	maxPlainDigits = 9  // of a number without
)

// reader goes over a text from the left: at is where it stands.
type reader struct {
	text  string
	at    int
	words map[string]int
}

// next answers the next token; beside an error the token has but its place.
func (r *reader) next() (api.Token, api.Errno) {
	r.skip()
	at := r.at
	t, e := r.choose()()
	if e != api.OK {
		return api.Token{At: at}, e
	}
	t.At = at
	// A piece of the text would keep the text that was handed in.
	t.Text = strings.Clone(r.text[at:r.at])
	return t, api.OK
}

// choose answers the reader of the token that begins here: its first byte
// tells which one it is.
func (r *reader) choose() func() (api.Token, api.Errno) {
	if r.at == len(r.text) {
		return r.end
	}
	c := r.text[r.at]
	switch {
	case isDigit(c):
		return r.number
	case isWord(c):
		return r.name
	}
	return r.sign
}

// skip passes over blanks and comments.
func (r *reader) skip() {
	for r.at < len(r.text) {
		switch {
		case isBlank(r.text[r.at]):
			r.at++
		case r.peek(0) == '-' && r.peek(1) == '-':
			r.take(isInLine)
		default:
			return
		}
	}
}

func (r *reader) end() (api.Token, api.Errno) {
	return api.Token{Kind: api.TokEnd}, api.OK
}

func (r *reader) name() (api.Token, api.Errno) {
	name := r.take(isWord)
	if _, ok := r.words[name]; ok {
		return api.Token{Kind: api.TokKey}, api.OK
	}
	if len(name) > api.MaxName {
		return api.Token{}, api.ErrLong
	}
	return api.Token{Kind: api.TokName}, api.OK
}

func (r *reader) number() (api.Token, api.Errno) {
	digits := r.take(isDigit)
	ending := r.take(isWord)
	if ending == "" {
		return plainNumber(digits)
	}
	return numberOf(r.words[ending], digits)
}

func (r *reader) sign() (api.Token, api.Errno) {
	width := signWidth(r.peek(0), r.peek(1))
	if width == 0 {
		return api.Token{}, api.ErrByte
	}
	r.at += width
	return api.Token{Kind: api.TokSign}, api.OK
}

// take passes over the bytes of one sort and answers them.
func (r *reader) take(of func(byte) bool) string {
	from := r.at
	for r.at < len(r.text) && of(r.text[r.at]) {
		r.at++
	}
	return r.text[from:r.at]
}

// peek answers the byte so far on; behind the end 0, which begins no token.
func (r *reader) peek(on int) byte {
	if r.at+on >= len(r.text) {
		return 0
	}
	return r.text[r.at+on]
}

// plainNumber is a number without a kind. Its digits are counted, noughts
// ahead too, so that it can't be too great.
func plainNumber(digits string) (api.Token, api.Errno) {
	n, err := strconv.Atoi(digits)
	if err != nil || len(digits) > maxPlainDigits {
		return api.Token{}, api.ErrNumber
	}
	return api.Token{Kind: api.TokNumber, N: n}, api.OK
}

// numberOf is a number with a kind; of no kind of numbers there is none.
func numberOf(kind int, digits string) (api.Token, api.Errno) {
	n, err := strconv.ParseUint(digits, 10, 64)
	if err != nil || len(digits) > maxDigits || kind < api.I8 || n > greatest(kind) {
		return api.Token{}, api.ErrNumber
	}
	return api.Token{Kind: api.TokNumber, N: bv.Wrap(kind, int(n)), T: api.Type{Kind: kind}}, api.OK
}

// greatest answers the greatest number that may be written of a kind: of the
// signed ones the least value without its sign, which is read ahead of it.
func greatest(kind int) uint64 {
	width := bv.Width(kind)
	if kind <= api.I64 {
		return 1 << (width - 1)
	}
	return ^uint64(0) >> (64 - width)
}

// signWidth answers how many bytes the longest sign has that begins with c, if
// d is behind it; 0 if there is none.
func signWidth(c, d byte) int {
	switch c {
	case '<':
		if d == '<' {
			return 2
		}
		fallthrough
	case '>':
		if d == '=' {
			return 2
		}
		fallthrough
	case '-', '=':
		if d == '>' {
			return 2
		}
		fallthrough
	case '(', ')', '[', ']', ',', ';', ':', '+', '*', '/', '&', '|', '^':
		return 1
	}
	return 0
}

func isBlank(c byte) bool { return c == ' ' || c == '\t' || c == '\n' || c == '\r' }

func isInLine(c byte) bool { return c != '\n' }

func isDigit(c byte) bool { return '0' <= c && c <= '9' }

func isWord(c byte) bool {
	return c == '_' || isDigit(c) || 'a' <= c && c <= 'z' || 'A' <= c && c <= 'Z'
}
