package gram

import (
	"math/rand"
	"regexp"
	"strings"
	"testing"

	"metronome/api"
	"metronome/lex"
)

// The chapter's grammar, as it stands there. LEAST is a VALUE that only a `-` ahead of it makes one of its kind (P302): so it is no prim.
const chapter = `
program = { node }
node    = "node" NAME "(" [ decls ] ")" "returns" "(" decls ")" [ "var" locals ] "let" items "tel"
decls   = decl { ";" decl }
decl    = NAME { "," NAME } ":" ty
ty      = kind [ "^" SIZE ]
kind    = "bool" | "i8" | "i16" | "i32" | "i64" | "u8" | "u16" | "u32" | "u64"
locals  = local ";" { local ";" }
local   = decl [ "when" edge { "and" edge } ]
edge    = [ "not" ] NAME
items   = item { item }
item    = lhs "=" exp ";" | "automaton" state { state } "end"
lhs     = NAME | "(" NAME { "," NAME } ")"
state   = "state" NAME { "unless" trans } [ "var" locals ] "do" items { "until" trans }
trans   = exp ( "then" | "continue" ) NAME ";"
exp     = arrow
arrow   = fby [ "->" arrow ]
fby     = imp [ "fby" fby ]
imp     = or [ "=>" imp ]
or      = and { ("or" | "xor") and }
and     = cmp { "and" cmp }
cmp     = bor [ ("=" | "<>" | "<" | "<=" | ">" | ">=") bor ]
bor     = band { ("|" | "^") band }
band    = shift { "&" shift }
shift   = sum { ("<<" | ">>") sum }
sum     = term { ("+" | "-") term }
term    = unary { ("*" | "/" | "mod") unary }
unary   = ("not" | "-" | "pre") unary | post | "-" LEAST { "[" SIZE "]" }
post    = prim { "[" SIZE "]" }
prim    = VALUE | "true" | "false" | NAME | NAME "(" [ exps ] ")" | "(" exp ")" | "if" exp "then" exp "else" exp | "when" "(" exp "," edge ")" | "merge" "(" NAME "," exp "," exp ")" | "cast" "(" kind "," exp ")" | "tick" "(" SIZE "," SIZE ")" | "reset" "(" NAME "(" [ exps ] ")" "," exp ")" | "[" exps "]" | "rep" "(" exp "," SIZE ")" | "map" "(" NAME "," exps ")" | "fold" "(" NAME "," exp "," exp ")"
exps    = exp { "," exp }
`

// earley is a grammar of plain productions, read from a text: which names stand for which lists of symbols, and which may be empty. A symbol is a name's, or a quoted word.
type earley struct {
	rules map[string][][]string
	empty map[string]bool
	fresh int
}

var symbols = regexp.MustCompile(`"[^"]*"|[A-Za-z]+|[(){}\[\]|]`)

func readGrammar(text string) *earley {
	g := &earley{rules: map[string][][]string{}, empty: map[string]bool{}}
	for _, line := range strings.Split(strings.TrimSpace(text), "\n") {
		name, right, _ := strings.Cut(line, "=")
		rest := symbols.FindAllString(right, -1)
		g.rules[strings.TrimSpace(name)] = g.choices(&rest)
	}
	for grew := true; grew; {
		grew = false
		for name, all := range g.rules {
			for _, right := range all {
				if !g.empty[name] && g.vanishes(right) {
					g.empty[name], grew = true, true
				}
			}
		}
	}
	return g
}

func (g *earley) vanishes(right []string) bool {
	for _, s := range right {
		if !g.empty[s] {
			return false
		}
	}
	return true
}

// choices reads up to a closing bracket or the end.
func (g *earley) choices(rest *[]string) [][]string {
	all := [][]string{nil}
	for len(*rest) > 0 {
		s := (*rest)[0]
		*rest = (*rest)[1:]
		last := &all[len(all)-1]
		switch s {
		case ")", "]", "}":
			return all
		case "|":
			all = append(all, nil)
		case "(":
			*last = append(*last, g.name(g.choices(rest)))
		case "[":
			*last = append(*last, g.name(append(g.choices(rest), nil)))
		case "{":
			n := g.name([][]string{nil})
			for _, right := range g.choices(rest) {
				g.rules[n] = append(g.rules[n], append([]string{n}, right...))
			}
			*last = append(*last, n)
		default:
			*last = append(*last, s)
		}
	}
	return all
}

func (g *earley) name(all [][]string) string {
	g.fresh++
	n := strings.Repeat("'", g.fresh)
	g.rules[n] = all
	return n
}

// place is a production of a name, how far it is read, and where it began.
type place struct {
	name            string
	which, on, from int
}

// wrong answers the number of the first token that no program has there behind those ahead of it; -1 if the tokens are a program.
func (g *earley) wrong(tokens []string) int {
	sets := make([][]place, len(tokens)+1)
	seen := make([]map[place]bool, len(tokens)+1)
	put := func(at int, p place) {
		if seen[at] == nil {
			seen[at] = map[place]bool{}
		}
		if !seen[at][p] {
			seen[at][p] = true
			sets[at] = append(sets[at], p)
		}
	}
	predict := func(at int, name string) {
		for which := range g.rules[name] {
			put(at, place{name, which, 0, at})
		}
	}
	predict(0, "program")
	for at := range sets {
		whole := false
		for i := 0; i < len(sets[at]); i++ {
			p := sets[at][i]
			right := g.rules[p.name][p.which]
			on := p
			on.on++
			switch {
			case p.on == len(right):
				whole = whole || p.name == "program" && p.from == 0
				for _, q := range sets[p.from] {
					if r := g.rules[q.name][q.which]; q.on < len(r) && r[q.on] == p.name {
						q.on++
						put(at, q)
					}
				}
			case g.rules[right[p.on]] != nil:
				predict(at, right[p.on])
				if g.empty[right[p.on]] {
					put(at, on)
				}
			case at < len(tokens) && right[p.on] == tokens[at]:
				put(at+1, on)
			}
		}
		if at == len(tokens) && whole {
			return -1
		}
		if at == len(tokens) || len(sets[at+1]) == 0 {
			return at
		}
	}
	return -1
}

// class is the symbol of the grammar that a token is.
func class(t api.Token) string {
	switch {
	case t.Kind == api.TokName:
		return "NAME"
	case t.Kind == api.TokNumber && t.T.Kind == 0:
		return "SIZE"
	case t.Kind == api.TokNumber && t.T.Kind <= api.I64 && t.N < 0:
		return "LEAST"
	case t.Kind == api.TokNumber:
		return "VALUE"
	}
	return `"` + t.Text + `"`
}

// sameAsGrammar asks for just the texts of the grammar to be taken, the others to be ErrSyntax at the first token that can't go on.
func sameAsGrammar(t *testing.T, g *earley, s string) (taken bool) {
	t.Helper()
	tokens, _, e := lex.Tokens(s)
	if e != api.OK {
		t.Fatalf("%q has no tokens", s)
	}
	var classes []string
	for _, x := range tokens[:len(tokens)-1] {
		classes = append(classes, class(x))
	}
	_, at, e := Parse(s)
	wrong := g.wrong(classes)
	if wrong < 0 && (e != api.OK || at != 0) {
		t.Fatalf("Parse(%q) = %d, %d; it is of the grammar", s, at, e)
	}
	if wrong >= 0 && (e != api.ErrSyntax || at != tokens[wrong].At) {
		t.Fatalf("Parse(%q) = %d, %d; not ErrSyntax at %d", s, at, e, tokens[wrong].At)
	}
	return wrong < 0
}

// TestP301Oracle turns a few tokens of programs that are right.
func TestP301Oracle(t *testing.T) {
	g := readGrammar(chapter)
	pieces := strings.Fields("a b f S 1 2i8 128i8 7u64 true node returns var let tel if then else not and or mod pre fby when merge cast tick reset rep map fold on automaton state do unless until continue end bool i8 -> => <> <= << ( ) ( ) [ ] , , ; ; : = = < > + - - * / & | ^")
	r := rand.New(rand.NewSource(3))
	taken := 0
	for n := range 3000 {
		m := &maker{r: r}
		m.node(2 + n%4)
		tokens, _, _ := lex.Tokens(m.text.String())
		var texts []string
		for _, x := range tokens[:len(tokens)-1] {
			texts = append(texts, x.Text)
		}
		for range r.Intn(3) {
			at := r.Intn(len(texts))
			switch r.Intn(4) {
			case 0:
				texts = append(texts[:at], texts[at+1:]...)
			case 1:
				texts[at] = pieces[r.Intn(len(pieces))]
			case 2:
				texts = append(texts[:at], append([]string{pieces[r.Intn(len(pieces))]}, texts[at:]...)...)
			case 3:
				other := r.Intn(len(texts))
				texts[at], texts[other] = texts[other], texts[at]
			}
		}
		if sameAsGrammar(t, g, strings.Join(texts, " ")) {
			taken++
		}
	}
	if taken < 500 || taken > 2500 {
		t.Errorf("%d of 3000 texts are right: too few of one sort", taken)
	}
}

// TestP301Pairs asks for each piece behind each other one, in an expression that goes on in several ways.
func TestP301Pairs(t *testing.T) {
	g := readGrammar(chapter)
	pieces := strings.Fields("a 1 2i8 128i8 true if then else not and or fby pre when merge cast tick reset rep map fold on i8 -> < <= ( ) [ ] , ; : = + - * ^")
	for _, x := range pieces {
		for _, y := range pieces {
			for _, ahead := range []string{"", "a", "- ", "f(", "if a then b else c", "when(a,", "a < b "} {
				sameAsGrammar(t, g, equation(ahead+" "+x+" "+y+" b"))
			}
		}
	}
}
