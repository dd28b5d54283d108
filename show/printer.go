package show

import (
	"strconv"
	"strings"

	"metronome/api"
)

// unknown stands where a program has nothing that could be told: no token has
// such a byte, so that the text is never parsed as another program.
const unknown = "?"

// form prints expressions of one form.
type form func(p *printer, e api.Exp)

// printer gathers a text. It is written from the left and never copied, since
// expressions may be as deep as the text is long.
type printer struct {
	text  strings.Builder
	forms [api.EFold + 1]form
}

func newPrinter() *printer {
	return &printer{forms: byForm()}
}

// put adds texts.
func (p *printer) put(texts ...string) {
	for _, t := range texts {
		p.text.WriteString(t)
	}
}

// line adds a line, so deep within others.
func (p *printer) line(deep int, texts ...string) {
	p.blanks(deep)
	p.put(texts...)
	p.put("\n")
}

// blanks adds the blanks ahead of a line. A program that was parsed never needs
// the most of them; the lines of one that is deeper grow no further, since its
// text would else be far longer than itself.
func (p *printer) blanks(deep int) {
	p.put(strings.Repeat(" ", min(deep, 2*api.MaxDeep)))
}

// around adds texts with the kids between them: one kid less than texts.
func (p *printer) around(kids []api.Exp, texts ...string) {
	for i, t := range texts {
		p.put(t)
		if i == len(texts)-1 {
			return
		}
		if i < len(kids) {
			p.exp(kids[i])
		} else {
			p.put(unknown)
		}
	}
}

// list adds expressions, with commas between them.
func (p *printer) list(all []api.Exp) {
	for i, e := range all {
		if i > 0 {
			p.put(", ")
		}
		p.exp(e)
	}
}

// digits answers a number; of U64, whose ints may be below 0, without a sign.
func digits(kind, n int) string {
	if kind == api.U64 {
		return strconv.FormatUint(uint64(n), 10)
	}
	return strconv.Itoa(n)
}

func kindText(kind int) string {
	words := [...]string{api.Bool: "bool", api.I8: "i8", api.I16: "i16", api.I32: "i32", api.I64: "i64", api.U8: "u8", api.U16: "u16", api.U32: "u32", api.U64: "u64"}
	if kind < api.Bool || kind >= len(words) {
		return unknown
	}
	return words[kind]
}

func edgeText(e api.Edge) string {
	if e.On {
		return e.Name
	}
	return "not " + e.Name
}
