package schema_test

import (
	"regexp"
	"slices"
	"strings"
	"testing"

	"refrain/api"
	"refrain/schema"
)

// TestPrint: P2.4.
func TestPrint(t *testing.T) {
	for _, x := range []struct {
		t    api.Type
		want string
	}{
		{trade(), "TYPE Trade (price INT, sym STR, live BOOL)"}, {api.Type{Name: "Tick"}, "TYPE Tick ()"}, {api.Type{Name: "Tick", Attrs: []api.Attr{}}, "TYPE Tick ()"},
		{api.Type{Name: "_", Attrs: []api.Attr{{Name: "a", Kind: api.KBool}}}, "TYPE _ (a BOOL)"}, {api.Type{Name: "time", Attrs: []api.Attr{{Name: "str", Kind: api.KInt}, {Name: "Time", Kind: api.KStr}}}, "TYPE time (str INT, Time STR)"},
		{api.Type{Name: "Full", Attrs: attrs(16)}, "TYPE Full (a0 INT, a1 STR, a2 BOOL, a3 INT, a4 STR, a5 BOOL, a6 INT, a7 STR, a8 BOOL, a9 INT, a10 STR, a11 BOOL, a12 INT, a13 STR, a14 BOOL, a15 INT)"},
	} {
		if s, e := schema.Print(x.t); s != x.want || e != api.OK {
			t.Errorf("Print(%+v) = %q, %d, want %q", x.t, s, e, x.want)
		}
	}
}

// TestPrintRefused: P2.4, P0.2.
func TestPrintRefused(t *testing.T) {
	for _, w := range wrongTypes() {
		if s, e := schema.Print(w.t); s != "" || e != w.e {
			t.Errorf("Print(%.200v) = %q, %d, want %d", w.t, s, e, w.e)
		}
	}
}

// What a declaration wants next, in the model.
const (
	wantTYPE = iota
	wantName
	wantOpen
	wantFirst // an attribute or the closing sign
	wantKind
	wantComma // a comma or the closing sign
	wantAttr
	wantEnd
)

var (
	tokenForm = regexp.MustCompile(`^([A-Za-z0-9_]+|[(),])`)
	wordForm  = regexp.MustCompile(`^[A-Za-z0-9_]+$`)
	kindsOf   = map[string]int{"INT": api.KInt, "STR": api.KStr, "BOOL": api.KBool}
)

// model reads a declaration as P2.5 says, by a table of what is wanted.
func model(text string) (api.Type, int, api.Errno) {
	var t api.Type
	if len(text) > 4096 {
		return t, 0, api.ErrLong
	}
	want := wantTYPE
	for at := 0; ; {
		for at < len(text) && strings.IndexByte(" \t\n\r", text[at]) >= 0 {
			at++
		}
		token := tokenForm.FindString(text[at:])
		if at == len(text) && want == wantEnd {
			return t, 0, api.OK
		}
		e := api.ErrDecl
		if token != "" {
			want, e = modelStep(&t, want, token)
		}
		if e != api.OK {
			return api.Type{}, at, e
		}
		at += len(token)
	}
}

// modelStep takes a token: what is wanted then, or what is wrong with it.
func modelStep(t *api.Type, want int, token string) (int, api.Errno) {
	word := wordForm.MatchString(token)
	switch {
	case want == wantTYPE && token == "TYPE":
		return wantName, api.OK
	case want == wantName && word && !isName(token):
		return 0, api.ErrName
	case want == wantName && word:
		t.Name = token
		return wantOpen, api.OK
	case want == wantOpen && token == "(":
		return wantFirst, api.OK
	case (want == wantFirst || want == wantComma) && token == ")":
		return wantEnd, api.OK
	case (want == wantFirst || want == wantAttr) && word:
		return modelAttr(t, token)
	case want == wantKind && kindsOf[token] != 0:
		t.Attrs[len(t.Attrs)-1].Kind = kindsOf[token]
		return wantComma, api.OK
	case want == wantComma && token == ",":
		return wantAttr, api.OK
	}
	return 0, api.ErrDecl
}

func modelAttr(t *api.Type, name string) (int, api.Errno) {
	switch {
	case len(t.Attrs) == 16:
		return 0, api.ErrLong
	case !isName(name) || name == "time":
		return 0, api.ErrName
	case slices.ContainsFunc(t.Attrs, func(a api.Attr) bool { return a.Name == name }):
		return 0, api.ErrDup
	}
	t.Attrs = append(t.Attrs, api.Attr{Name: name})
	return wantKind, api.OK
}

// ask holds Parse of a text against the model; of one that is read, Print is the text again but for blanks.
func ask(t *testing.T, text string) {
	t.Helper()
	want, place, e := model(text)
	got, at, e2 := schema.Parse(text)
	if !same(got, want) || at != place || e2 != e {
		t.Fatalf("Parse(%.300q) = %+v, %d, %d, want %+v, %d, %d", text, got, at, e2, want, place, e)
	}
	if e != api.OK {
		return
	}
	shown, e := schema.Print(got)
	if bare(shown) != bare(text) || e != api.OK {
		t.Fatalf("Print of Parse(%.300q) = %q, %d", text, shown, e)
	}
}

// bare is a text without its blanks.
func bare(s string) string {
	return strings.NewReplacer(" ", "", "\t", "", "\n", "", "\r", "").Replace(s)
}

// TestParseExamples: P2.5, what the document writes out, and each fault by hand.
func TestParseExamples(t *testing.T) {
	none := api.Type{}
	full, _ := schema.Print(api.Type{Name: "T", Attrs: attrs(16)})
	more := strings.TrimSuffix(full, ")") + ", "
	for _, x := range []struct {
		text string
		want api.Type
		at   int
		e    api.Errno
	}{
		{"TYPE Trade (price INT,sym STR)", api.Type{Name: "Trade", Attrs: trade().Attrs[:2]}, 0, api.OK}, {" TYPE\nTick( ) ", api.Type{Name: "Tick"}, 0, api.OK}, {full, api.Type{Name: "T", Attrs: attrs(16)}, 0, api.OK},
		{"TYPE time(Time INT,int STR)", api.Type{Name: "time", Attrs: []api.Attr{{Name: "Time", Kind: api.KInt}, {Name: "int", Kind: api.KStr}}}, 0, api.OK},
		{"", none, 0, api.ErrDecl}, {" \n", none, 2, api.ErrDecl}, {"type T ()", none, 0, api.ErrDecl}, {" Type T ()", none, 1, api.ErrDecl}, {"TYPET ()", none, 0, api.ErrDecl}, {"T ()", none, 0, api.ErrDecl}, {"()", none, 0, api.ErrDecl}, {"\xff", none, 0, api.ErrDecl},
		{"TYPE", none, 4, api.ErrDecl}, {"TYPE ", none, 5, api.ErrDecl}, {"TYPE (", none, 5, api.ErrDecl}, {"TYPE INT ()", none, 5, api.ErrName}, {"TYPE 9a ()", none, 5, api.ErrName}, {"TYPE TYPE ()", none, 5, api.ErrName}, {"TYPE " + strings.Repeat("n", 33), none, 5, api.ErrName}, {"TYPE \x00", none, 5, api.ErrDecl}, {"TYPE T\u00e4 ()", none, 6, api.ErrDecl},
		{"TYPE T", none, 6, api.ErrDecl}, {"TYPE T )", none, 7, api.ErrDecl}, {"TYPE T U ()", none, 7, api.ErrDecl}, {"TYPE T (", none, 8, api.ErrDecl}, {"TYPE T (,", none, 8, api.ErrDecl}, {"TYPE T ((", none, 8, api.ErrDecl},
		{"TYPE T (a", none, 9, api.ErrDecl}, {"TYPE T (a)", none, 9, api.ErrDecl}, {"TYPE T (a int)", none, 10, api.ErrDecl}, {"TYPE T (a INTS)", none, 10, api.ErrDecl}, {"TYPE T (a TRUE)", none, 10, api.ErrDecl}, {"TYPE T (a INT", none, 13, api.ErrDecl}, {"TYPE T (a INT b STR)", none, 14, api.ErrDecl}, {"TYPE T (a INT, )", none, 15, api.ErrDecl}, {"TYPE T (a INT,", none, 14, api.ErrDecl}, {"TYPE T (a INT,, b", none, 14, api.ErrDecl},
		{"TYPE T (a INT, a STR)", none, 15, api.ErrDup}, {"TYPE T (a INT, a int)", none, 15, api.ErrDup}, {"TYPE T (time INT)", none, 8, api.ErrName}, {"TYPE T (time", none, 8, api.ErrName}, {"TYPE T (9 INT)", none, 8, api.ErrName}, {"TYPE T (INT INT)", none, 8, api.ErrName}, {"TYPE T (a INT, STR", none, 15, api.ErrName}, {"TYPE T (" + strings.Repeat("n", 33), none, 8, api.ErrName},
		{more + "q INT)", none, len(more), api.ErrLong}, {more + "a0 INT)", none, len(more), api.ErrLong}, {more + "time", none, len(more), api.ErrLong}, {more + "9", none, len(more), api.ErrLong}, {more + ")", none, len(more), api.ErrDecl}, {more + ",", none, len(more), api.ErrDecl}, {more, none, len(more), api.ErrDecl}, {more + "!", none, len(more), api.ErrDecl},
		{"TYPE T () x", none, 10, api.ErrDecl}, {"TYPE T () !", none, 10, api.ErrDecl}, {"TYPE T ())", none, 9, api.ErrDecl}, {"TYPE T ()\x00", none, 9, api.ErrDecl}, {"TYPE T () TYPE U ()", none, 10, api.ErrDecl}, {"TYPE T ();", none, 9, api.ErrDecl},
	} {
		if got, at, e := schema.Parse(x.text); !same(got, x.want) || at != x.at || e != x.e {
			t.Errorf("Parse(%q) = %+v, %d, %d, want %+v, %d, %d", x.text, got, at, e, x.want, x.at, x.e)
		}
		ask(t, x.text)
	}
}

// TestParseLong: P2.5: the bound on the text, ahead of all else.
func TestParseLong(t *testing.T) {
	const decl = "TYPE T (a INT)"
	for _, n := range []int{4095, 4096, 4097, 5000, 100000} {
		fill := strings.Repeat(" ", n-len(decl))
		for _, text := range []string{decl + fill, fill + decl, "TYPE" + fill + decl[4:], strings.Repeat(" ", n), strings.Repeat("a", n), strings.Repeat("!", n), strings.Repeat("\xff", n), "TYPE " + strings.Repeat("(", n-5)} {
			ask(t, text)
		}
		got, at, e := schema.Parse(decl + fill)
		if n <= api.MaxText && (got.Name != "T" || len(got.Attrs) != 1 || e != api.OK) || n > api.MaxText && (!zero(got) || at != 0 || e != api.ErrLong) {
			t.Errorf("Parse of %d bytes = %+v, %d, %d", n, got, at, e)
		}
	}
}

// TestParseOfPrint: P2.5: Parse of Print is the type, with other blanks too.
func TestParseOfPrint(t *testing.T) {
	for _, u := range rightTypes() {
		text, e := schema.Print(u)
		if e != api.OK {
			t.Fatalf("Print(%+v) = %d", u, e)
		}
		tight := regexp.MustCompile(` ?([(),]) ?`).ReplaceAllString(text, "$1")
		wide := regexp.MustCompile(`([(),])`).ReplaceAllString(" "+text+" ", "\r\n $1\t ")
		for _, s := range []string{text, tight, wide, strings.ReplaceAll(text, " ", "\n"), strings.ReplaceAll(text, " ", "\t"), strings.ReplaceAll(text, " ", "\r"), strings.ReplaceAll(text, " ", " \t\n\r ")} {
			if v, at, e := schema.Parse(s); !same(v, u) || at != 0 || e != api.OK {
				t.Errorf("Parse(%q) = %+v, %d, %d, want %+v", s, v, at, e, u)
			}
			ask(t, s)
		}
	}
}

// TestParseAnyByte: P2.5: any byte in place of any other, ahead of it or behind; and a text that ends anywhere.
func TestParseAnyByte(t *testing.T) {
	for _, s := range []string{"TYPE T (a INT, b9 STR)", " TYPE\tT\r(\n)\n", "TYPE _(a BOOL)"} {
		for i := range len(s) + 1 {
			ask(t, s[:i])
			ask(t, s[i:])
			for c := range 256 {
				b := string([]byte{byte(c)})
				ask(t, s[:i]+b)
				ask(t, s[:i]+b+s[i:])
				ask(t, s[:i]+b+b+s[i:])
				ask(t, s[:i]+" "+b+" "+s[i:])
				if i < len(s) {
					ask(t, s[:i]+b+s[i+1:])
				}
			}
			for _, r := range []string{"\u00a0", "\u0085", "\u2028", "\u3000", "\ufeff", "\u00e4", "\u0663", "\u212a", "//x\n", "--", "\\n"} {
				ask(t, s[:i]+r+s[i:])
			}
		}
	}
}

// TestParseAnyToken: P2.5: up to three tokens of a declaration changed, taken out or put in.
func TestParseAnyToken(t *testing.T) {
	others := []string{"", "TYPE", "T", "a", "b", "A", "time", "INT", "STR", "BOOL", "int", "SEQ", "(", ")", ",", "9a", "!", "( )", ", c INT"}
	full, _ := schema.Print(api.Type{Name: "T", Attrs: attrs(16)})
	for _, x := range []struct {
		text string
		most int
	}{{"TYPE T ( )", 3}, {"TYPE T ( a INT )", 3}, {"TYPE T ( a INT , b STR )", 2}, {"TYPE T ( a INT , b STR , c BOOL )", 2}, {full, 1}, {strings.TrimSuffix(full, ")") + ", q STR)", 1}} {
		askChanged(t, strings.Split(x.text, " "), 0, x.most, others)
	}
}

// askChanged asks for the tokens with at most so many of them, from one on, changed.
func askChanged(t *testing.T, tokens []string, from, most int, others []string) {
	ask(t, strings.Join(tokens, " "))
	if most == 0 {
		return
	}
	for i := from; i < len(tokens); i++ {
		old := tokens[i]
		for _, o := range others {
			for _, s := range []string{o, o + " " + old} {
				tokens[i] = s
				askChanged(t, tokens, i+1, most-1, others)
			}
		}
		tokens[i] = old
	}
	last := len(tokens) - 1
	old := tokens[last]
	for _, o := range others {
		tokens[last] = old + " " + o
		ask(t, strings.Join(tokens, " "))
	}
	tokens[last] = old
}
