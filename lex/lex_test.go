package lex

import (
	"reflect"
	"strings"
	"testing"
	"unsafe"

	"metronome/api"
)

func name(text string, at int) api.Token { return api.Token{Kind: api.TokName, Text: text, At: at} }
func key(text string, at int) api.Token  { return api.Token{Kind: api.TokKey, Text: text, At: at} }
func sign(text string, at int) api.Token { return api.Token{Kind: api.TokSign, Text: text, At: at} }
func end(at int) api.Token               { return api.Token{Kind: api.TokEnd, At: at} }

func number(text string, kind, n, at int) api.Token {
	return api.Token{Kind: api.TokNumber, Text: text, N: n, T: api.Type{Kind: kind}, At: at}
}

// wantTokens asks for just these tokens of a text, all fields of them.
func wantTokens(t *testing.T, s string, want ...api.Token) {
	t.Helper()
	got, at, e := Tokens(s)
	if e != api.OK || at != 0 || !reflect.DeepEqual(got, want) {
		t.Errorf("Tokens(%.40q) = %+v, %d, %d; not %+v", s, got, at, e, want)
	}
}

// wantFault asks for an error at a place, and for no tokens beside it.
func wantFault(t *testing.T, s string, where int, what api.Errno) {
	t.Helper()
	got, at, e := Tokens(s)
	if e != what || at != where || len(got) != 0 {
		t.Errorf("Tokens(%.40q) = %d tokens, %d, %d; not %d, %d", s, len(got), at, e, where, what)
	}
}

func TestP201Examples(t *testing.T) {
	wantTokens(t, "x1 -> 5i8 -- c", name("x1", 0), sign("->", 3), number("5i8", api.I8, 5, 6), end(14))
	wantFault(t, "300u8", 0, api.ErrNumber)
	wantFault(t, "5x", 0, api.ErrNumber)
	wantTokens(t, "007", number("007", 0, 7, 0), end(3))
	wantFault(t, "#", 0, api.ErrByte)
	wantTokens(t, "128i8", number("128i8", api.I8, -128, 0), end(5))
	wantFault(t, "129i8", 0, api.ErrNumber)
}

func TestP201BlanksAndComments(t *testing.T) {
	wantTokens(t, "", end(0))
	wantTokens(t, " \t\r\n", end(4))
	wantTokens(t, "\ta\rb\nc d", name("a", 1), name("b", 3), name("c", 5), name("d", 7), end(8))
	wantTokens(t, "--", end(2))
	wantTokens(t, "-->", end(3))
	wantTokens(t, "a--b\nc", name("a", 0), name("c", 5), end(6))
	wantTokens(t, "a--\n\n--#\x00\xff\r!\n--\nc--", name("a", 0), name("c", 16), end(19))
	wantTokens(t, "- -a", sign("-", 0), sign("-", 2), name("a", 3), end(4))
	wantTokens(t, "->--\n>", sign("->", 0), sign(">", 5), end(6))
	wantTokens(t, "5--i8", number("5", 0, 5, 0), end(5))
	wantFault(t, "--x\r#\n #", 7, api.ErrByte)
}

func TestP201Names(t *testing.T) {
	wantTokens(t, "a _ Z9_ iff Node nodes", name("a", 0), name("_", 2), name("Z9_", 4), name("iff", 8), name("Node", 12), name("nodes", 17), end(22))
	wantTokens(t, "i9 u128 I8 _i8 __", name("i9", 0), name("u128", 3), name("I8", 8), name("_i8", 11), name("__", 15), end(17))
	long := strings.Repeat("b", api.MaxName)
	wantTokens(t, " "+long, name(long, 1), end(1+api.MaxName))
	wantFault(t, "a "+long+"b", 2, api.ErrLong)
	wantFault(t, "if "+long+"9#", 3, api.ErrLong)
	wantFault(t, strings.Repeat("_", api.MaxSource), 0, api.ErrLong)
}

func TestP201Keys(t *testing.T) {
	all := strings.Fields("node returns var let tel if then else not and or xor mod pre fby when merge cast tick reset rep map fold on true false automaton state do unless until continue end bool i8 i16 i32 i64 u8 u16 u32 u64")
	for _, k := range all {
		wantTokens(t, k, key(k, 0), end(len(k)))
		wantTokens(t, k+"_", name(k+"_", 0), end(len(k)+1))
		wantTokens(t, strings.ToUpper(k), name(strings.ToUpper(k), 0), end(len(k)))
	}
	if len(words()) != len(all) {
		t.Errorf("%d keys, not %d", len(words()), len(all))
	}
}

func TestP201NumbersOfAKind(t *testing.T) {
	for _, x := range []struct {
		text    string
		kind, n int
	}{
		{"0i8", api.I8, 0}, {"127i8", api.I8, 127}, {"128i8", api.I8, -128},
		{"32767i16", api.I16, 32767}, {"32768i16", api.I16, -32768},
		{"2147483647i32", api.I32, 1<<31 - 1}, {"2147483648i32", api.I32, -1 << 31},
		{"9223372036854775807i64", api.I64, 1<<63 - 1}, {"9223372036854775808i64", api.I64, -1 << 63},
		{"255u8", api.U8, 255}, {"65535u16", api.U16, 65535}, {"4294967295u32", api.U32, 1<<32 - 1},
		{"9223372036854775808u64", api.U64, -1 << 63}, {"18446744073709551615u64", api.U64, -1},
		{"0000000000i32", api.I32, 0}, {"00000000000000000001u8", api.U8, 1}, {"00000000000000000128i8", api.I8, -128},
		{"1000000000i64", api.I64, 1000000000},
	} {
		wantTokens(t, x.text, number(x.text, x.kind, x.n, 0), end(len(x.text)))
	}
	for _, s := range []string{
		"129i8", "255i8", "256i8", "32769i16", "65536i16", "2147483649i32", "4294967296i32", "9223372036854775809i64", "18446744073709551615i64", "18446744073709551616i64",
		"256u8", "65536u16", "4294967296u32", "18446744073709551616u64", "99999999999999999999u64",
		"000000000000000000000u64", "000000000000000000001u8", strings.Repeat("0", 60000) + "i8", strings.Repeat("9", 60000) + "u64",
		"5x", "5_", "5bool", "5i", "5i9", "5i8x", "5i8_", "5i81", "5u128", "5I8", "5if", "5true", "0x1", "1e3", "5i8i8",
	} {
		wantFault(t, s, 0, api.ErrNumber)
		wantFault(t, "a\n+ "+s, 4, api.ErrNumber)
	}
	wantTokens(t, "5i8+6u16", number("5i8", api.I8, 5, 0), sign("+", 3), number("6u16", api.U16, 6, 4), end(8))
	wantTokens(t, "5 i8", number("5", 0, 5, 0), key("i8", 2), end(4))
}

func TestP201NumbersWithoutAKind(t *testing.T) {
	wantTokens(t, "0 00 999999999 000000001", number("0", 0, 0, 0), number("00", 0, 0, 2), number("999999999", 0, 999999999, 5), number("000000001", 0, 1, 15), end(24))
	wantFault(t, "1000000000", 0, api.ErrNumber)
	wantFault(t, "7 0000000001", 2, api.ErrNumber)
	wantFault(t, strings.Repeat("0", api.MaxSource), 0, api.ErrNumber)
	wantTokens(t, "-1", sign("-", 0), number("1", 0, 1, 1), end(2))
}

func TestP201Signs(t *testing.T) {
	for _, s := range strings.Fields("-> => <> <= >= << >> ( ) [ ] , ; : = < > + - * / & | ^") {
		wantTokens(t, s, sign(s, 0), end(len(s)))
		wantTokens(t, "a"+s+"1", name("a", 0), sign(s, 1), number("1", 0, 1, 1+len(s)), end(2+len(s)))
	}
	wantTokens(t, "<->=>=<<=>>>><=", sign("<", 0), sign("->", 1), sign("=>", 3), sign("=", 5), sign("<<", 6), sign("=>", 8), sign(">>", 10), sign(">", 12), sign("<=", 13), end(15))
	wantTokens(t, "==><", sign("=", 0), sign("=>", 1), sign("<", 3), end(4))
}

func TestP201Bytes(t *testing.T) {
	const begins = "\t\n\r ()[],;:=<>+-*/&|^_0123456789abcdefghijklmnopqrstuvwxyzABCDEFGHIJKLMNOPQRSTUVWXYZ"
	for c := range 256 {
		b := string([]byte{byte(c)})
		if _, _, e := Tokens(b); (e == api.OK) != strings.Contains(begins, b) {
			t.Errorf("byte %d: %d", c, e)
		}
		if !strings.Contains(begins, b) {
			wantFault(t, b, 0, api.ErrByte)
			wantFault(t, "ab "+b+" 5x", 3, api.ErrByte)
			wantFault(t, "ab"+b, 2, api.ErrByte)
			wantFault(t, "7"+b, 1, api.ErrByte)
			wantFault(t, "<"+b, 1, api.ErrByte)
		}
	}
}

func TestP201TheFirstFault(t *testing.T) {
	wantFault(t, "a # 5x", 2, api.ErrByte)
	wantFault(t, "a 5x #", 2, api.ErrNumber)
	wantFault(t, strings.Repeat("a", 41)+" 5x #", 0, api.ErrLong)
	wantFault(t, "5x "+strings.Repeat("a", 41), 0, api.ErrNumber)
	wantFault(t, "##", 0, api.ErrByte)
}

func TestP201MaxSource(t *testing.T) {
	wantTokens(t, strings.Repeat(" ", api.MaxSource), end(api.MaxSource))
	wantFault(t, strings.Repeat(" ", api.MaxSource+1), 0, api.ErrLong)
	wantFault(t, " #"+strings.Repeat(" ", api.MaxSource), 0, api.ErrLong)
}

func TestP201MaxTokens(t *testing.T) {
	most := strings.Repeat("a ", api.MaxTokens-1)
	got, at, e := Tokens(most)
	if e != api.OK || at != 0 || len(got) != api.MaxTokens || got[api.MaxTokens-1] != end(len(most)) || got[1] != name("a", 2) {
		t.Errorf("the most tokens: %d, %d, %d", len(got), at, e)
	}
	wantFault(t, most+"a", len(most)+1, api.ErrLong)
	wantFault(t, most+"a -- c", len(most)+6, api.ErrLong)
	wantFault(t, most+"a  bc 5x #", len(most)+3, api.ErrLong)
	wantFault(t, most+"5x b", len(most), api.ErrNumber)
	wantFault(t, strings.Repeat("+", api.MaxSource), api.MaxTokens, api.ErrLong)
	// What is wrong in itself is no token: it is not one too many.
	wantFault(t, most+"a #", len(most)+2, api.ErrByte)
	wantFault(t, most+"a 5x", len(most)+2, api.ErrNumber)
}

func TestP202NewMemory(t *testing.T) {
	s := strings.Clone("node f -> 5i8 , x")
	first, _, _ := Tokens(s)
	kept := append([]api.Token(nil), first...)
	from := uintptr(unsafe.Pointer(unsafe.StringData(s)))
	for i, x := range first {
		if p := uintptr(unsafe.Pointer(unsafe.StringData(x.Text))); x.Text != "" && p >= from && p < from+uintptr(len(s)) {
			t.Errorf("token %d shares the memory of the text", i)
		}
		first[i] = api.Token{}
	}
	Tokens("# other")
	if second, at, e := Tokens(s); at != 0 || e != api.OK || !reflect.DeepEqual(second, kept) {
		t.Errorf("a second call answers %+v, %d, %d", second, at, e)
	}
}
