package show

import (
	"math/big"
	"strings"

	"metronome/api"
)

// The oracle tells the chapter's texts by patterns: a capital letter from A on is a kid, f the name, i8 the kind, P and O the numbers, * all kids.
var patterns = map[int]string{
	api.EIf: "(if A then B else C)", api.EPre: "(pre A)", api.EArrow: "(A -> B)", api.EFby: "(A fby B)",
	api.EMerge: "merge(f, A, B)", api.ECast: "cast(i8, A)", api.ETick: "tick(P, O)", api.ECall: "f(*)",
	api.EReset: "reset(f(*), C)", api.EArr: "[*]", api.ERep: "rep(A, P)", api.EMap: "map(f, *)", api.EFold: "fold(f, A, B)",
}

var kindWords = []string{"", "bool", "i8", "i16", "i32", "i64", "u8", "u16", "u32", "u64"}

var opWords = []string{"", "not", "-", "+", "-", "*", "/", "mod", "&", "|", "^", "=>", "<<", ">>", "=", "<>", "<", "<=", ">", ">="}

func oracleExp(e api.Exp) string {
	var kids []string
	for _, k := range e.Kids {
		kids = append(kids, oracleExp(k))
	}
	switch e.Form {
	case api.ELit:
		return oracleLit(e)
	case api.EVar:
		return e.Name
	case api.EUn:
		return "(" + opWords[e.Sub] + " " + oracleApart(kids[0]) + ")"
	case api.EBin:
		return "(" + strings.Join(kids, " "+opWords[e.Sub]+" ") + ")"
	case api.EWhen:
		return "when(" + kids[0] + ", " + []string{"not ", ""}[e.N] + e.Name + ")"
	case api.EIndex:
		return oracleApart(kids[0]) + "[" + big.NewInt(int64(e.N)).String() + "]"
	}
	return fill(patterns[e.Form], e, kids)
}

func oracleLit(e api.Exp) string {
	if e.T.Kind == api.Bool {
		return []string{"false", "true"}[e.N]
	}
	n := big.NewInt(int64(e.N))
	if e.T.Kind == api.U64 && e.N < 0 {
		n.Add(n, new(big.Int).Lsh(big.NewInt(1), 64))
	}
	if n.Sign() < 0 {
		return "(" + n.String() + kindWords[e.T.Kind] + ")"
	}
	return n.String() + kindWords[e.T.Kind]
}

// oracleApart puts a text that begins with a digit in brackets.
func oracleApart(text string) string {
	if text[0] >= '0' && text[0] <= '9' {
		return "(" + text + ")"
	}
	return text
}

func fill(pattern string, e api.Exp, kids []string) string {
	if e.Form == api.EReset {
		return "reset(" + e.Name + "(" + strings.Join(kids[:len(kids)-1], ", ") + "), " + kids[len(kids)-1] + ")"
	}
	var text strings.Builder
	for at := 0; at < len(pattern); at++ {
		word := strings.HasSuffix(pattern[:at], "(") || at == 0
		switch c := pattern[at]; {
		case c >= 'A' && c <= 'C':
			text.WriteString(kids[c-'A'])
		case c == 'P':
			text.WriteString(big.NewInt(int64(e.N)).String())
		case c == 'O':
			text.WriteString(big.NewInt(int64(e.M)).String())
		case c == '*':
			text.WriteString(strings.Join(kids, ", "))
		case c == 'f' && word && !strings.HasPrefix(pattern[at:], "fo") && !strings.HasPrefix(pattern[at:], "fb"):
			text.WriteString(e.Name)
		case strings.HasPrefix(pattern[at:], "i8"):
			text.WriteString(kindWords[e.T.Kind])
			at++
		default:
			text.WriteByte(c)
		}
	}
	return text.String()
}

// oracleLines are the lines of a program, each with its blanks ahead.
func oracleLines(p api.Program) (lines []string) {
	for _, n := range p.Nodes {
		lines = append(lines, "node "+n.Name+"("+oracleVars(n.Ins, "; ")+") returns ("+oracleVars(n.Outs, "; ")+")")
		lines = append(lines, oracleLocals(n.Locals)...)
		lines = append(lines, "let")
		lines = append(lines, moreBlanks(oracleItems(n.Items))...)
		lines = append(lines, "tel")
	}
	return lines
}

func moreBlanks(lines []string) (more []string) {
	for _, l := range lines {
		more = append(more, " "+l)
	}
	return more
}

func oracleVars(vars []api.Var, between string) string {
	text := ""
	for _, v := range vars {
		text += between + v.Name + ": " + kindWords[v.T.Kind]
		if v.T.Len != 0 {
			text += "^" + big.NewInt(int64(v.T.Len)).String()
		}
		for i, e := range v.Clock {
			text += []string{" when ", " and "}[min(i, 1)]
			if !e.On {
				text += "not "
			}
			text += e.Name
		}
	}
	return strings.TrimPrefix(text, between)
}

func oracleLocals(vars []api.Var) []string {
	if len(vars) == 0 {
		return nil
	}
	lines := []string{"var"}
	for _, l := range strings.Split(oracleVars(vars, "\n"), "\n") {
		lines = append(lines, " "+l+";")
	}
	return lines
}

func oracleItems(items []api.Item) (lines []string) {
	for _, i := range items {
		switch {
		case len(i.States) > 0:
			lines = append(lines, "automaton")
			for _, s := range i.States {
				lines = append(lines, "state "+s.Name)
				lines = append(lines, moreBlanks(oracleState(s))...)
			}
			lines = append(lines, "end")
		case len(i.Names) == 1:
			lines = append(lines, i.Names[0]+" = "+oracleExp(i.E)+";")
		default:
			lines = append(lines, "("+strings.Join(i.Names, ", ")+") = "+oracleExp(i.E)+";")
		}
	}
	return lines
}

func oracleState(s api.State) []string {
	lines := append(oracleTransitions("unless", s.Unless), oracleLocals(s.Locals)...)
	lines = append(lines, "do")
	lines = append(lines, moreBlanks(oracleItems(s.Items))...)
	return append(lines, oracleTransitions("until", s.Until)...)
}

func oracleTransitions(word string, all []api.Trans) (lines []string) {
	for _, t := range all {
		goes := "then"
		if t.Cont {
			goes = "continue"
		}
		lines = append(lines, strings.Join([]string{word, oracleExp(t.Cond), goes, t.To}, " ")+";")
	}
	return lines
}
