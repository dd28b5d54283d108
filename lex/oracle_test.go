package lex

import (
	"math/big"
	"math/rand"
	"reflect"
	"regexp"
	"strings"
	"testing"

	"metronome/api"
)

// The rules of P201 as expressions, each anchored where a token would begin.
var (
	passed = regexp.MustCompile(`^(?:[ \t\n\r]|--[^\n]*)+`)
	named  = regexp.MustCompile(`^[A-Za-z_][A-Za-z0-9_]*`)
	keyed  = regexp.MustCompile(`^(?:node|returns|var|let|tel|if|then|else|not|and|or|xor|mod|pre|fby|when|merge|cast|tick|reset|rep|map|fold|on|true|false|automaton|state|do|unless|until|continue|end|bool|[iu](?:8|16|32|64))$`)
	digits = regexp.MustCompile(`^([0-9]+)([A-Za-z0-9_]*)`)
	ending = regexp.MustCompile(`^([iu])(8|16|32|64)$`)
	signed = regexp.MustCompile(`^(?:->|=>|<>|<=|>=|<<|>>|[()\[\],;:=<>+\-*/&|^])`)
)

var endings = map[string]int{"i8": api.I8, "i16": api.I16, "i32": api.I32, "i64": api.I64, "u8": api.U8, "u16": api.U16, "u32": api.U32, "u64": api.U64}

// oracle reads the tokens of a text that breaks no limit but that of names.
func oracle(s string) ([]api.Token, int, api.Errno) {
	var l []api.Token
	at := 0
	for {
		at += len(passed.FindString(s[at:]))
		t := api.Token{At: at}
		rest := s[at:]
		if rest == "" {
			t.Kind = api.TokEnd
			return append(l, t), 0, api.OK
		}
		if t.Text = named.FindString(rest); t.Text != "" {
			t.Kind = api.TokName
			if keyed.MatchString(t.Text) {
				t.Kind = api.TokKey
			} else if len(t.Text) > api.MaxName {
				return nil, at, api.ErrLong
			}
		} else if m := digits.FindStringSubmatch(rest); m != nil {
			n, ok := oracleNumber(m[1], m[2])
			if !ok {
				return nil, at, api.ErrNumber
			}
			t.Kind, t.Text, t.N, t.T.Kind = api.TokNumber, m[0], n, endings[m[2]]
		} else if t.Text = signed.FindString(rest); t.Text != "" {
			t.Kind = api.TokSign
		} else {
			return nil, at, api.ErrByte
		}
		l = append(l, t)
		at += len(t.Text)
	}
}

func oracleNumber(figures, kind string) (int, bool) {
	n, _ := new(big.Int).SetString(figures, 10)
	if kind == "" {
		return int(n.Int64()), len(figures) <= 9
	}
	m := ending.FindStringSubmatch(kind)
	if m == nil || len(figures) > 20 {
		return 0, false
	}
	width := map[string]uint{"8": 8, "16": 16, "32": 32, "64": 64}[m[2]]
	half := new(big.Int).Lsh(big.NewInt(1), width-1)
	whole := new(big.Int).Lsh(big.NewInt(1), width)
	if m[1] == "i" {
		if n.Cmp(half) > 0 {
			return 0, false
		}
		if n.Cmp(half) == 0 {
			n.Sub(n, whole)
		}
		return int(n.Int64()), true
	}
	return int(n.Uint64()), n.Cmp(whole) < 0
}

// TestP201Oracle holds Tokens against the oracle on texts of pieces that lie
// near the edges of the rules, glued with and without blanks.
func TestP201Oracle(t *testing.T) {
	pieces := strings.Fields("a x1 _ if iff node u64 bool on end i8 i9 0 7 09 127 128 129 255 256 32768 32769 65535 65536 2147483648 4294967295 999999999 1000000000 9223372036854775808 9223372036854775809 18446744073709551615 18446744073709551616 00000000000000000001 i8 i16 i32 i64 u8 u16 u32 < > = - -- -> => <> <= >= << >> ( ) [ ] , ; : + * / & | ^ # ! . \x00 \xff")
	pieces = append(pieces, " ", " ", " ", "\n", "\n", "\t", "\r", "\x00", "\xff", strings.Repeat("n", 40), strings.Repeat("n", 41))
	r := rand.New(rand.NewSource(1))
	for range 40000 {
		var b strings.Builder
		for range r.Intn(12) {
			b.WriteString(pieces[r.Intn(len(pieces))])
			if r.Intn(2) == 0 {
				b.WriteByte(' ')
			}
		}
		sameAsOracle(t, b.String())
	}
	for c := range 256 {
		for d := range 256 {
			sameAsOracle(t, string([]byte{byte(c), byte(d)}))
		}
	}
}

func sameAsOracle(t *testing.T, s string) {
	t.Helper()
	got, at, e := Tokens(s)
	want, wantAt, wantE := oracle(s)
	if at != wantAt || e != wantE || !reflect.DeepEqual(got, want) {
		t.Fatalf("Tokens(%q) = %+v, %d, %d; not %+v, %d, %d", s, got, at, e, want, wantAt, wantE)
	}
}
