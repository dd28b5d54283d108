package gram

import (
	"math/rand"
	"reflect"
	"strconv"
	"strings"
	"testing"

	"metronome/api"
)

// maker writes texts by the grammar, and beside each what it must be parsed as (P302). Where an expression is last, what stands behind it can't go on with it: there alone an `if` may stand without brackets.
type maker struct {
	r    *rand.Rand
	text strings.Builder
}

// put writes a token, with what may part it from the one ahead, and answers its place.
func (m *maker) put(token string) int {
	const alone = "()[],;:"
	s := m.text.String()
	glued := s == "" || strings.Contains(alone, s[len(s)-1:]) || strings.Contains(alone, token[:1])
	if !glued || m.r.Intn(2) == 0 {
		m.text.WriteString([]string{" ", "\n", "\t\r", " -- tel ;\n"}[m.r.Intn(4)])
	}
	at := m.text.Len()
	m.text.WriteString(token)
	return at
}

func (m *maker) name() (string, int) {
	n := []string{"a", "b", "x1", "_", "nodes", "iff"}[m.r.Intn(6)]
	return n, m.put(n)
}

func (m *maker) size() int {
	n := m.r.Intn(20)
	m.put(strconv.Itoa(n))
	return n
}

// makerKinds are the kinds with what may be written of each, and what it is with a `-`.
var makerKinds = []struct {
	kind         int
	text         string
	value, minus int
}{
	{api.I8, "0i8", 0, 0}, {api.I8, "127i8", 127, -127}, {api.I16, "05i16", 5, -5}, {api.I32, "2147483647i32", 1<<31 - 1, 1 - 1<<31}, {api.I64, "9i64", 9, -9},
	{api.U8, "128u8", 128, 128}, {api.U8, "1u8", 1, 255}, {api.U16, "1u16", 1, 65535}, {api.U32, "2u32", 2, 1<<32 - 2}, {api.U64, "18446744073709551615u64", -1, 1}, {api.U64, "9223372036854775808u64", -1 << 63, -1 << 63},
}

func (m *maker) value(minus bool) api.Exp {
	x := makerKinds[m.r.Intn(len(makerKinds))]
	if !minus {
		return lit(x.kind, x.value, m.put(x.text))
	}
	at := m.put("-")
	if m.r.Intn(3) == 0 {
		m.put("128i8")
		return lit(api.I8, -128, at)
	}
	m.put(x.text)
	return lit(x.kind, x.minus, at)
}

func (m *maker) kind() int {
	k := m.r.Intn(9)
	m.put(strings.Fields("bool i8 i16 i32 i64 u8 u16 u32 u64")[k])
	return k + api.Bool
}

// makerLevels are the operations from the loosest to the tightest: r is from the right, l from the left, o once.
var makerLevels = []struct {
	how   byte
	signs string
	made  []int // the form, or of EBin 100 and the operation
}{
	{'r', "->", []int{api.EArrow}}, {'r', "fby", []int{api.EFby}}, {'r', "=>", []int{100 + api.OpImp}},
	{'l', "or xor", []int{100 + api.OpOr, 100 + api.OpXor}}, {'l', "and", []int{100 + api.OpAnd}},
	{'o', "= <> < <= > >=", []int{100 + api.OpEq, 100 + api.OpNe, 100 + api.OpLt, 100 + api.OpLe, 100 + api.OpGt, 100 + api.OpGe}},
	{'l', "| ^", []int{100 + api.OpOr, 100 + api.OpXor}}, {'l', "&", []int{100 + api.OpAnd}}, {'l', "<< >>", []int{100 + api.OpShl, 100 + api.OpShr}},
	{'l', "+ -", []int{100 + api.OpAdd, 100 + api.OpSub}}, {'l', "* / mod", []int{100 + api.OpMul, 100 + api.OpDiv, 100 + api.OpMod}},
}

func (m *maker) exp(size int) api.Exp { return m.level(0, size, true) }

func (m *maker) level(i, size int, last bool) api.Exp {
	if i == len(makerLevels) {
		return m.unary(size, last)
	}
	l := makerLevels[i]
	joins := 0
	if size > 0 && m.r.Intn(6) == 0 {
		joins = 1 + m.r.Intn(2)
		size /= 2
	}
	if l.how == 'o' && joins > 1 {
		joins = 1
	}
	parts := []api.Exp{m.level(i+1, size, last && joins == 0)}
	var made []int
	for j := range joins {
		k := m.r.Intn(len(l.made))
		m.put(strings.Fields(l.signs)[k])
		made = append(made, l.made[k])
		parts = append(parts, m.level(i+1, size, last && j == joins-1))
	}
	return foldParts(l.how, parts, made)
}

func foldParts(how byte, parts []api.Exp, made []int) api.Exp {
	join := func(a, b api.Exp, k int) api.Exp {
		if k > 100 {
			return of(api.EBin, k-100, a.At, a, b)
		}
		return of(k, 0, a.At, a, b)
	}
	if how == 'r' {
		e := parts[len(parts)-1]
		for i := len(made) - 1; i >= 0; i-- {
			e = join(parts[i], e, made[i])
		}
		return e
	}
	e := parts[0]
	for i, k := range made {
		e = join(e, parts[i+1], k)
	}
	return e
}

func (m *maker) unary(size int, last bool) api.Exp {
	switch m.r.Intn(12) {
	case 0:
		at := m.put("not")
		return of(api.EUn, api.OpNot, at, m.unary(size/2, last))
	case 1:
		at := m.put("pre")
		return of(api.EPre, 0, at, m.unary(size/2, last))
	case 2:
		at := m.put("-")
		n, nameAt := m.name()
		return of(api.EUn, api.OpNeg, at, m.indices(variable(n, nameAt)))
	case 3:
		at := m.put("-")
		inner := m.put("-")
		n, nameAt := m.name()
		return of(api.EUn, api.OpNeg, at, of(api.EUn, api.OpNeg, inner, variable(n, nameAt)))
	case 4:
		return m.indices(m.value(true))
	}
	if size > 0 && last && m.r.Intn(4) == 0 {
		return m.choice(size / 2)
	}
	return m.indices(m.prim(size / 2))
}

func (m *maker) indices(e api.Exp) api.Exp {
	for m.r.Intn(6) == 0 {
		m.put("[")
		e = index(e, m.size())
		m.put("]")
	}
	return e
}

func (m *maker) choice(size int) api.Exp {
	e := api.Exp{Form: api.EIf, At: m.put("if")}
	e.Kids = append(e.Kids, m.exp(size))
	m.put("then")
	e.Kids = append(e.Kids, m.exp(size))
	m.put("else")
	e.Kids = append(e.Kids, m.exp(size))
	return e
}

func (m *maker) exps(size int) []api.Exp {
	kids := []api.Exp{m.exp(size)}
	for m.r.Intn(2) == 0 && len(kids) < 5 {
		m.put(",")
		kids = append(kids, m.exp(size))
	}
	return kids
}

func (m *maker) arguments(size int) (kids []api.Exp) {
	m.put("(")
	if m.r.Intn(3) > 0 {
		kids = m.exps(size)
	}
	m.put(")")
	return kids
}

func (m *maker) prim(size int) api.Exp {
	pick := m.r.Intn(16)
	if size <= 0 {
		pick %= 4
	}
	var e api.Exp
	switch pick {
	case 0:
		return m.value(false)
	case 1:
		n := m.r.Intn(2)
		return lit(api.Bool, n, m.put([]string{"false", "true"}[n]))
	case 2, 3:
		e.Form = api.EVar
		e.Name, e.At = m.name()
	case 4:
		e.Form = api.ECall
		e.Name, e.At = m.name()
		e.Kids = m.arguments(size)
	case 5, 6:
		m.put("(")
		e = m.exp(size)
		m.put(")")
	case 7:
		e.Form, e.At = api.EArr, m.put("[")
		e.Kids = m.exps(size)
		m.put("]")
	default:
		return m.worded(pick, size)
	}
	return e
}

// worded writes a form that begins with a word: its parts are letters here.
func (m *maker) worded(pick, size int) api.Exp {
	x := []struct {
		word  string
		form  int
		parts string
	}{
		{"when", api.EWhen, "ec"}, {"merge", api.EMerge, "nee"}, {"cast", api.ECast, "ke"}, {"tick", api.ETick, "NM"},
		{"reset", api.EReset, "fe"}, {"rep", api.ERep, "eN"}, {"map", api.EMap, "nE"}, {"fold", api.EFold, "nee"},
	}[pick-8]
	e := api.Exp{Form: x.form, At: m.put(x.word)}
	for i, part := range x.parts {
		m.put([]string{"(", ","}[min(i, 1)])
		switch part {
		case 'e':
			e.Kids = append(e.Kids, m.exp(size))
		case 'E':
			e.Kids = m.exps(size)
		case 'n':
			e.Name, _ = m.name()
		case 'N':
			e.N = m.size()
		case 'M':
			e.M = m.size()
		case 'k':
			e.T.Kind = m.kind()
		case 'f':
			e.Name, _ = m.name()
			e.Kids = m.arguments(size)
		case 'c':
			edge := m.edge()
			e.Name = edge.Name
			if edge.On {
				e.N = 1
			}
		}
	}
	m.put(")")
	return e
}

func (m *maker) edge() api.Edge {
	on := m.r.Intn(2) == 0
	if !on {
		m.put("not")
	}
	n, _ := m.name()
	return api.Edge{Name: n, On: on}
}

func (m *maker) decl() []api.Var {
	var vars []api.Var
	for more := true; more; more = m.r.Intn(3) == 0 {
		if len(vars) > 0 {
			m.put(",")
		}
		n, at := m.name()
		vars = append(vars, api.Var{Name: n, At: at})
	}
	m.put(":")
	ty := api.Type{Kind: m.kind()}
	if m.r.Intn(3) == 0 {
		m.put("^")
		ty.Len = m.size()
	}
	for i := range vars {
		vars[i].T = ty
	}
	return vars
}

func (m *maker) decls() []api.Var {
	vars := m.decl()
	for m.r.Intn(3) == 0 {
		m.put(";")
		vars = append(vars, m.decl()...)
	}
	return vars
}

func (m *maker) locals() (vars []api.Var) {
	if m.r.Intn(2) == 0 {
		return nil
	}
	m.put("var")
	for more := true; more; more = m.r.Intn(2) == 0 {
		l := m.decl()
		if m.r.Intn(2) == 0 {
			m.put("when")
			clock := []api.Edge{m.edge()}
			for m.r.Intn(3) == 0 {
				m.put("and")
				clock = append(clock, m.edge())
			}
			for i := range l {
				l[i].Clock = clock
			}
		}
		m.put(";")
		vars = append(vars, l...)
	}
	return vars
}

func (m *maker) items(size int) (items []api.Item) {
	for more := true; more; more = m.r.Intn(3) == 0 {
		items = append(items, m.item(size))
	}
	return items
}

func (m *maker) item(size int) api.Item {
	var i api.Item
	if size > 0 && m.r.Intn(4) == 0 {
		i.At = m.put("automaton")
		for more := true; more; more = m.r.Intn(2) == 0 {
			i.States = append(i.States, m.state(size/2))
		}
		m.put("end")
		return i
	}
	if m.r.Intn(3) > 0 {
		n, at := m.name()
		i.Names, i.At = []string{n}, at
	} else {
		i.At = m.put("(")
		for more := true; more; more = m.r.Intn(2) == 0 && len(i.Names) < 10 {
			if len(i.Names) > 0 {
				m.put(",")
			}
			n, _ := m.name()
			i.Names = append(i.Names, n)
		}
		m.put(")")
	}
	m.put("=")
	i.E = m.exp(size)
	m.put(";")
	return i
}

func (m *maker) state(size int) api.State {
	s := api.State{At: m.put("state")}
	s.Name, _ = m.name()
	s.Unless = m.transitions("unless", size)
	s.Locals = m.locals()
	m.put("do")
	s.Items = m.items(size)
	s.Until = m.transitions("until", size)
	return s
}

func (m *maker) transitions(word string, size int) (all []api.Trans) {
	for m.r.Intn(3) == 0 && len(all) < 10 {
		m.put(word)
		t := api.Trans{Cond: m.exp(size), Cont: m.r.Intn(2) == 0}
		t.At = t.Cond.At
		m.put(map[bool]string{false: "then", true: "continue"}[t.Cont])
		t.To, _ = m.name()
		m.put(";")
		all = append(all, t)
	}
	return all
}

func (m *maker) node(size int) api.Node {
	n := api.Node{At: m.put("node")}
	n.Name, _ = m.name()
	m.put("(")
	if m.r.Intn(2) == 0 {
		n.Ins = m.decls()
	}
	m.put(")")
	m.put("returns")
	m.put("(")
	n.Outs = m.decls()
	m.put(")")
	n.Locals = m.locals()
	m.put("let")
	n.Items = m.items(size)
	m.put("tel")
	return n
}

func TestP302Maker(t *testing.T) {
	r := rand.New(rand.NewSource(2))
	forms := [api.EFold + 1]int{}
	for n := range 4000 {
		m := &maker{r: r}
		var want api.Program
		for range r.Intn(4) {
			want.Nodes = append(want.Nodes, m.node(2+n%30))
		}
		got, at, e := Parse(m.text.String())
		if e != api.OK || at != 0 || !reflect.DeepEqual(got, want) {
			t.Fatalf("Parse(%q) = %+v, %d, %d; not %+v", m.text.String(), got, at, e, want)
		}
		for _, node := range want.Nodes {
			for _, i := range node.Items {
				countForms(i.E, &forms)
			}
		}
	}
	for form := api.ELit; form <= api.EFold; form++ {
		if forms[form] < 100 {
			t.Errorf("form %d came %d times", form, forms[form])
		}
	}
}

func countForms(e api.Exp, forms *[api.EFold + 1]int) {
	forms[e.Form]++
	for _, k := range e.Kids {
		countForms(k, forms)
	}
}
