package parse_test

import (
	"math/rand"
	"slices"
	"strings"
	"testing"

	"chancel/api"
	"chancel/lex"
	"chancel/parse"
)

// grammar is that of the document, but for mem, which tells at once that a call is one of contains.
const grammar = `
policy  = ("permit" | "forbid") "(" "principal" scope "," "action" scope "," "resource" scope ")" { ("when" | "unless") "{" expr "}" } ";"
scope   = [ ("==" | "in") uid ]
uid     = name "::" str
expr    = "if" expr "then" expr "else" expr | or
or      = and { "||" and }
and     = rel { "&&" rel }
rel     = add [ ("==" | "!=" | "<" | "<=" | ">" | ">=" | "in") add | "has" name | "like" str ]
add     = mul { ("+" | "-") mul }
mul     = un { "*" un }
un      = "!" un | "-" un | mem
mem     = prim { "." name | "." "contains" "(" expr ")" }
prim    = uid | "true" | "false" | "principal" | "action" | "resource" | long | str | "(" expr ")" | "[" [ expr { "," expr } ] "]"
schema  = { kind | act }
kind    = "entity" name [ "in" name { "," name } ] "{" [ field { "," field } ] "}" ";"
field   = name ":" type
type    = "Set" "<" base ">" | base
base    = "Bool" | "Long" | "String" | name
act     = "action" name ":" name { "," name } "->" name { "," name } ";"
entity  = uid [ "in" uid { "," uid } ] "{" [ attr { "," attr } ] "}" ";"
attr    = name ":" lit
lit     = one | "[" [ one { "," one } ] "]"
one     = uid | "true" | "false" | str | long | "-" long
`

// piece is one of the right side of a rule: a word or sign, the name of a rule, or a row, a choice, a repetition of pieces.
type piece struct {
	form  string // quoted, named, row, choice, many, maybe
	text  string
	parts []piece
}

// rules are those of the grammar.
func rules() map[string]piece {
	all := map[string]piece{}
	for line := range strings.Lines(grammar) {
		name, right, ok := strings.Cut(line, "=")
		if ok {
			rest := strings.Fields(strings.NewReplacer(`("`, `( "`, `")`, `" )`).Replace(strings.ReplaceAll(strings.ReplaceAll(right, `"("`, `"OPEN"`), `")"`, `"CLOSE"`)))
			all[strings.TrimSpace(name)] = choiceOf(&rest)
		}
	}
	return all
}

func choiceOf(rest *[]string) piece {
	c := piece{form: "choice", parts: []piece{rowOf(rest)}}
	for len(*rest) > 0 && (*rest)[0] == "|" {
		*rest = (*rest)[1:]
		c.parts = append(c.parts, rowOf(rest))
	}
	return c
}

func rowOf(rest *[]string) piece {
	row := piece{form: "row"}
	for len(*rest) > 0 && !slices.Contains([]string{"|", ")", "]", "}"}, (*rest)[0]) {
		word := (*rest)[0]
		*rest = (*rest)[1:]
		switch word {
		case "(", "[", "{":
			inner := choiceOf(rest)
			*rest = (*rest)[1:]
			row.parts = append(row.parts, piece{form: map[string]string{"(": "row", "[": "maybe", "{": "many"}[word], parts: []piece{inner}})
		default:
			row.parts = append(row.parts, terminalOf(word))
		}
	}
	return row
}

func terminalOf(word string) piece {
	if !strings.HasPrefix(word, `"`) {
		return piece{form: "named", text: word}
	}
	return piece{form: "quoted", text: strings.NewReplacer("OPEN", "(", "CLOSE", ")").Replace(strings.Trim(word, `"`))}
}

// matcher tells by all ways through the rules whether tokens are read by one; it knows nothing of which is as long as may be.
type matcher struct {
	rules  map[string]piece
	tokens []lex.Token
	known  map[string]map[int][]int
}

func accepts(all map[string]piece, rule string, tokens []lex.Token) bool {
	m := matcher{all, tokens, map[string]map[int][]int{}}
	return slices.Contains(m.ends(piece{form: "named", text: rule}, 0), len(tokens))
}

// ends tells where p may end that begins at a place.
func (m *matcher) ends(p piece, at int) []int {
	switch p.form {
	case "quoted":
		kind := lex.Sign
		if lex.Ident(p.text) {
			kind = lex.Name
		}
		return m.one(at, func(t lex.Token) bool { return t.Kind == kind && t.Text == p.text })
	case "named":
		return m.named(p.text, at)
	case "choice":
		var l []int
		for _, part := range p.parts {
			l = append(l, m.ends(part, at)...)
		}
		return unlike(l)
	case "maybe":
		return unlike(append(m.ends(p.parts[0], at), at))
	case "many":
		all := []int{at}
		for i := 0; i < len(all); i++ {
			for _, end := range m.ends(p.parts[0], all[i]) {
				if !slices.Contains(all, end) {
					all = append(all, end)
				}
			}
		}
		return unlike(all)
	}
	l := []int{at}
	for _, part := range p.parts {
		var next []int
		for _, place := range l {
			next = append(next, m.ends(part, place)...)
		}
		l = unlike(next)
	}
	return l
}

func (m *matcher) one(at int, fits func(lex.Token) bool) []int {
	if at < len(m.tokens) && fits(m.tokens[at]) {
		return []int{at + 1}
	}
	return nil
}

func (m *matcher) named(rule string, at int) []int {
	if kind := map[string]int{"name": lex.Name, "long": lex.Long, "str": lex.Str}[rule]; kind != 0 {
		return m.one(at, func(t lex.Token) bool { return t.Kind == kind })
	}
	if l, ok := m.known[rule][at]; ok {
		return l
	}
	l := m.ends(m.rules[rule], at)
	if m.known[rule] == nil {
		m.known[rule] = map[int][]int{}
	}
	m.known[rule][at] = l
	return l
}

func unlike(l []int) []int {
	slices.Sort(l)
	return slices.Compact(l)
}

// callsOf are the calls by the rules that they read by; each tells its error alone.
func callsOf() map[string]func(string) api.Errno {
	return map[string]func(string) api.Errno{
		"policy": func(s string) api.Errno { _, err := parse.Policy(s); return err },
		"expr":   func(s string) api.Errno { _, err := parse.Expr(s); return err },
		"schema": func(s string) api.Errno { _, err := parse.Schema(s); return err },
		"entity": func(s string) api.Errno { _, err := parse.Entity(s); return err },
		"uid":    func(s string) api.Errno { _, err := parse.Uid(s); return err },
	}
}

// wholes are texts, pieces parted by blanks, that are read by the rules.
func wholes() map[string][]string {
	return map[string][]string{
		"policy": {
			`permit ( principal , action , resource ) ;`,
			`forbid ( principal == A :: "b" , action in C :: "d" , resource == E :: "f" ) when { true } unless { 1 < 2 } when { if :: "x" . y } ;`,
			`permit ( principal in A :: "b" , action , resource ) unless { if true then 1 else 2 } ;`,
		},
		"expr": {
			`1`, `principal`, `A :: "b"`, `( 1 )`, `[ ]`, `[ 1 , "a" , [ true ] ]`,
			`if 1 then 2 else 3`,
			`1 || 2 && 3 == 4 + 5 * - ! 6 - 7`,
			`principal . a . contains ( 1 + 2 ) . b has c && "x" like "y*" || action in [ A :: "b" , resource ]`,
			`1 < 2 && 1 <= 2 && 1 > 2 && 1 >= 2 && 1 != 2`,
			`( if if :: "a" == then :: "b" then else :: "c" else false ) . if`,
		},
		"schema": {
			`entity A { } ;`,
			`entity A in B , C { f : Long , g : Set < D > , h : Set , i : Bool , j : String } ;`,
			`action a : A -> B ;`,
			`action a : A , B -> C , D ; entity entity in in { in : in } ; action action : action -> entity ;`,
		},
		"entity": {
			`A :: "b" { } ;`,
			`A :: "b" in C :: "d" , E :: "f" { g : 1 , h : [ J :: "k" , L :: "m" ] , n : - 5 , o : true , p : [ ] , q : "s" } ;`,
			`in :: "b" in in :: "d" { true : true :: "x" , false : false } ;`,
		},
		"uid": {`A :: "b"`, `if :: ""`},
	}
}

// pool are pieces that may come in the place of others.
func pool() []string {
	l := append(slices.Clone(words), `x`, `Y`, `1`, `0`, `"s"`, `""`, `"in"`, `"("`, `"true"`, `"::"`)
	return append(l, strings.Fields(`:: == != <= >= && || -> ( ) { } [ ] , ; : . < > ! + - *`)...)
}

// checkForm holds what all calls tell of a text's form against the rules.
func checkForm(t *testing.T, all map[string]piece, s string) {
	t.Helper()
	tokens, err := lex.Tokens(s)
	for rule, call := range callsOf() {
		got := call(s)
		switch {
		case err != api.OK:
			if got != err {
				t.Fatalf("%s: %s: %v, not lex's %v", rule, s, got, err)
			}
		case accepts(all, rule, tokens) == (got == api.ErrForm):
			t.Fatalf("%s: %s: %v", rule, s, got)
		}
	}
}

func TestTheRulesReadWhatIsWhole(t *testing.T) {
	all := rules()
	if len(all) != 22 {
		t.Fatalf("%d rules", len(all))
	}
	for rule, l := range wholes() {
		for _, s := range l {
			tokens, err := lex.Tokens(s)
			if err != api.OK || !accepts(all, rule, tokens) || len(tokens) != len(strings.Fields(s)) {
				t.Errorf("%s: %s: %v", rule, s, err)
			}
			if err := callsOf()[rule](s); err != api.OK {
				t.Errorf("%s: %s: %v", rule, s, err)
			}
		}
	}
}

// Each piece left out, doubled, taken for another, or with another ahead or behind; each front and each end.
func TestP501FormWithOnePieceOtherwise(t *testing.T) {
	all, others := rules(), pool()
	for _, l := range wholes() {
		for _, whole := range l {
			pieces := strings.Fields(whole)
			for i := range len(pieces) + 1 {
				front, back := strings.Join(pieces[:i], " "), strings.Join(pieces[i:], " ")
				checkForm(t, all, front)
				checkForm(t, all, back)
				for _, other := range others {
					checkForm(t, all, front+" "+other+" "+back)
				}
				if i == len(pieces) {
					continue
				}
				rest := strings.Join(pieces[i+1:], " ")
				checkForm(t, all, front+" "+rest)
				checkForm(t, all, front+" "+pieces[i]+" "+back)
				for _, other := range others {
					checkForm(t, all, front+" "+other+" "+rest)
				}
			}
		}
	}
}

// Several pieces otherwise, and pieces of several texts one behind the other.
func TestP501FormWithManyPiecesOtherwise(t *testing.T) {
	all, others, r := rules(), pool(), rand.New(rand.NewSource(5))
	var texts [][]string
	for _, rule := range []string{"policy", "expr", "schema", "entity", "uid"} {
		for _, s := range wholes()[rule] {
			texts = append(texts, strings.Fields(s))
		}
	}
	for range 20000 {
		pieces := slices.Clone(texts[r.Intn(len(texts))])
		for range 1 + r.Intn(4) {
			i := r.Intn(len(pieces) + 1)
			k := min(len(pieces), i+r.Intn(3))
			switch r.Intn(3) {
			case 0:
				pieces = slices.Delete(pieces, i, k)
			case 1:
				pieces = slices.Insert(pieces, i, others[r.Intn(len(others))])
			default:
				from := texts[r.Intn(len(texts))]
				a := r.Intn(len(from))
				pieces = slices.Replace(pieces, i, k, from[a:min(len(from), a+1+r.Intn(6))]...)
			}
		}
		checkForm(t, all, strings.Join(pieces, " "))
	}
}

// Texts made by the rules at random are all read, whatever else may be told of them.
func TestP501FormOfTextsMadeByTheRules(t *testing.T) {
	all, r := rules(), rand.New(rand.NewSource(6))
	for rule := range callsOf() {
		for range 1500 {
			s := strings.Join(made(all, piece{form: "named", text: rule}, r, 14), " ")
			checkForm(t, all, s)
		}
	}
}

// made tells pieces that a rule may read; with no room left the last choice that is not its own, none of many.
func made(all map[string]piece, p piece, r *rand.Rand, room int) []string {
	switch p.form {
	case "quoted":
		return []string{p.text}
	case "named":
		switch p.text {
		case "name":
			return []string{append([]string{"a", "B", "contains"}, words...)[r.Intn(3+len(words))]}
		case "long":
			return []string{[]string{"0", "1", "9223372036854775807"}[r.Intn(3)]}
		case "str":
			return []string{[]string{`""`, `"a"`, `"in"`}[r.Intn(3)]}
		case "expr":
			if room <= 0 {
				return []string{"1"}
			}
			room -= 3
		}
		return made(all, all[p.text], r, room-1)
	case "choice":
		return made(all, p.parts[r.Intn(len(p.parts))], r, room-1)
	case "maybe", "many":
		var l []string
		for room > 0 && r.Intn(3) == 0 {
			l = append(l, made(all, p.parts[0], r, room-2)...)
			if p.form == "maybe" {
				break
			}
		}
		return l
	}
	var l []string
	for _, part := range p.parts {
		l = append(l, made(all, part, r, room)...)
	}
	return l
}
