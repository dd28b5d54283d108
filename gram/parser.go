package gram

import "metronome/api"

// parser goes over the tokens from the left: at is the place of the next one,
// deep how many expressions and automata it is within. The last token is the
// end, which nothing takes, so that there always is a next one.
type parser struct {
	tokens []api.Token
	at     int
	deep   int
	rules  []rule
}

func newParser(tokens []api.Token) *parser {
	p := &parser{tokens: tokens}
	p.rules = p.byPrecedence()
	return p
}

// fail gives up: what is wrong is seen at the next token.
func (p *parser) fail(what api.Errno) {
	panic(fault{p.next().At, what})
}

func (p *parser) next() api.Token { return p.tokens[p.at] }

func (p *parser) take() api.Token {
	t := p.next()
	p.at++
	return t
}

// sees tells whether the next token is that word or sign. The text alone tells
// it: no name and no number is written as one of them.
func (p *parser) sees(text string) bool { return p.next().Text == text }

func (p *parser) seesName() bool { return p.next().Kind == api.TokName }

func (p *parser) seesNumber() bool { return p.next().Kind == api.TokNumber }

func (p *parser) accept(text string) bool {
	if !p.sees(text) {
		return false
	}
	p.take()
	return true
}

// need gives up if the next token is found to be none that may stand there.
func (p *parser) need(fits bool) {
	if !fits {
		p.fail(api.ErrSyntax)
	}
}

func (p *parser) expect(text string) api.Token {
	p.need(p.sees(text))
	return p.take()
}

func (p *parser) name() string {
	p.need(p.seesName())
	return p.take().Text
}

// size reads a number without a kind.
func (p *parser) size() int {
	p.need(p.seesNumber() && p.next().T.Kind == 0)
	return p.take().N
}

func (p *parser) kind() int {
	kind := kindOf(p.next().Text)
	p.need(kind != 0)
	p.take()
	return kind
}

// kindOf answers the kind that a word names; 0 if it names none.
func kindOf(word string) int {
	words := [...]string{api.Bool: "bool", api.I8: "i8", api.I16: "i16", api.I32: "i32", api.I64: "i64", api.U8: "u8", api.U16: "u16", api.U32: "u32", api.U64: "u64"}
	for kind := api.Bool; kind < len(words); kind++ {
		if words[kind] == word {
			return kind
		}
	}
	return 0
}

// room gives up if a list that has so many parts is full. It is asked where the
// next token is known to begin another one: what can't begin one is no part too
// many, but may not stand there.
func (p *parser) room(has, most int) {
	if has >= most {
		p.fail(api.ErrLong)
	}
}

// within reads a part that counts as one more within the others.
func within[T any](p *parser, read func() T) T {
	p.room(p.deep, api.MaxDeep)
	p.deep++
	part := read()
	p.deep--
	return part
}

// many reads parts for as long as the next token begins one.
func many[T any](p *parser, most int, begins func() bool, read func() T) []T {
	var parts []T
	for begins() {
		p.room(len(parts), most)
		parts = append(parts, read())
	}
	return parts
}

// some reads parts as many does, but at least one.
func some[T any](p *parser, most int, begins func() bool, read func() T) []T {
	p.need(begins())
	return many(p, most, begins, read)
}

// parted reads parts, at least one, that a word or sign parts.
func parted[T any](p *parser, by string, begins func() bool, read func() T) []T {
	var parts []T
	for more := true; more; more = p.accept(by) {
		p.need(begins())
		p.room(len(parts), api.MaxKids)
		parts = append(parts, read())
	}
	return parts
}
