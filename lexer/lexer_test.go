package lexer_test

import (
	"math/rand"
	"reflect"
	"strings"
	"testing"

	"classroom/api"
	"classroom/lexer"
)

var words = strings.Fields("import func let if else while return true false int bool list len push set")

func TestP8_1_Reserved(t *testing.T) {
	for _, w := range words {
		if !lexer.Reserved(w) || lexer.IsName(w) {
			t.Errorf("%q is reserved", w)
		}
		for _, s := range []string{w + "s", " " + w, strings.ToUpper(w), w[1:]} {
			if lexer.Reserved(s) {
				t.Errorf("%q is not reserved", s)
			}
		}
	}
	if lexer.Reserved("") || lexer.Reserved("for") {
		t.Error("no reserved words")
	}
}

func TestP8_1_IsName(t *testing.T) {
	for s, want := range map[string]bool{
		"a": true, "_": true, "Z9": true, "größe": true, "ö": true, "\u0080": true, "\uFFFD": true, "𝒳1": true, strings.Repeat("a", 24): true, strings.Repeat("ö", 12): true, "iff": true,
		"": false, "9": false, "9a": false, "a b": false, " a": false, "a ": false, "a//": false, "a\n": false, "a-b": false, "a.b": false, "\"a\"": false, "\xff": false, "a\xff": false,
		strings.Repeat("a", 25): false, strings.Repeat("ö", 12) + "a": false, strings.Repeat("ö", 13): false, strings.Repeat("a", 5000): false, "a\x7f": false, "if": false,
	} {
		if lexer.IsName(s) != want {
			t.Errorf("IsName(%q) is not %t", s, want)
		}
	}
}

func TestP8_1_AllBytes(t *testing.T) {
	const letters = "abcdefghijklmnopqrstuvwxyzABCDEFGHIJKLMNOPQRSTUVWXYZ_"
	for c := range 128 {
		first := strings.IndexByte(letters, byte(c)) >= 0
		next := first || strings.IndexByte("0123456789", byte(c)) >= 0
		if lexer.IsName(string(rune(c))) != first || lexer.IsName("x"+string(rune(c))) != next || lexer.IsName(string(rune(c))+"x") != first {
			t.Errorf("the byte %d", c)
		}
		// All bytes from U+0020 to U+007E but two may occur in a string.
		s := `"` + string(rune(c)) + `"`
		l, at, e := lexer.Split(s)
		good := c >= 32 && c <= 126 && c != '"' && c != '\\'
		if c != '"' && (good != (e == api.OK) || good && l[0].Text != string(rune(c)) || !good && (at != 0 || e != api.ErrToken)) {
			t.Errorf("the byte %d in a string: %v, %d, %d", c, l, at, e)
		}
		if _, _, e := lexer.Split(string(rune(c))); (e == api.OK) != (next || strings.IndexByte(" \t\n\r(){}[],;.=<>+-*/%!", byte(c)) >= 0) {
			t.Errorf("the byte %d alone: %d", c, e)
		}
	}
}

func tk(kind int, text string, num int64, at int) api.Token {
	return api.Token{Kind: kind, Text: text, Num: num, At: at}
}

func TestP8_2_Tokens(t *testing.T) {
	for s, want := range map[string][]api.Token{
		"":                        {tk(api.TkEnd, "", 0, 0)},
		" \t\r\n// x\xc3\xb6\n ":  {tk(api.TkEnd, "", 0, 12)},
		"//":                      {tk(api.TkEnd, "", 0, 2)},
		"let größe=07;":           {tk(api.TkWord, "let", 0, 0), tk(api.TkName, "größe", 0, 4), tk(api.TkSign, "=", 0, 11), tk(api.TkInt, "07", 7, 12), tk(api.TkSign, ";", 0, 14), tk(api.TkEnd, "", 0, 15)},
		"a/b//c\rd\n/e":           {tk(api.TkName, "a", 0, 0), tk(api.TkSign, "/", 0, 1), tk(api.TkName, "b", 0, 2), tk(api.TkSign, "/", 0, 9), tk(api.TkName, "e", 0, 10), tk(api.TkEnd, "", 0, 11)},
		`"" "a~ !" "//"`:          {tk(api.TkString, "", 0, 0), tk(api.TkString, "a~ !", 0, 3), tk(api.TkString, "//", 0, 10), tk(api.TkEnd, "", 0, 14)},
		"9223372036854775807 0":   {tk(api.TkInt, "9223372036854775807", 1<<63-1, 0), tk(api.TkInt, "0", 0, 20), tk(api.TkEnd, "", 0, 21)},
		"=== !== <=> &&|| !!":     {tk(api.TkSign, "==", 0, 0), tk(api.TkSign, "=", 0, 2), tk(api.TkSign, "!=", 0, 4), tk(api.TkSign, "=", 0, 6), tk(api.TkSign, "<=", 0, 8), tk(api.TkSign, ">", 0, 10), tk(api.TkSign, "&&", 0, 12), tk(api.TkSign, "||", 0, 14), tk(api.TkSign, "!", 0, 17), tk(api.TkSign, "!", 0, 18), tk(api.TkEnd, "", 0, 19)},
		`1"a"2`:                   {tk(api.TkInt, "1", 1, 0), tk(api.TkString, "a", 0, 1), tk(api.TkInt, "2", 2, 4), tk(api.TkEnd, "", 0, 5)},
		"a\uFFFDb":                {tk(api.TkName, "a\uFFFDb", 0, 0), tk(api.TkEnd, "", 0, 5)},
		"\ufeffx":                 {tk(api.TkName, "\ufeffx", 0, 0), tk(api.TkEnd, "", 0, 4)},
		"a\u0085b\u00a0":          {tk(api.TkName, "a\u0085b\u00a0", 0, 0), tk(api.TkEnd, "", 0, 6)},
		"00000000000000000000001": {tk(api.TkInt, "00000000000000000000001", 1, 0), tk(api.TkEnd, "", 0, 23)},
		`"a"b`:                    {tk(api.TkString, "a", 0, 0), tk(api.TkName, "b", 0, 3), tk(api.TkEnd, "", 0, 4)},
	} {
		l, at, e := lexer.Split(s)
		if at != 0 || e != api.OK || !reflect.DeepEqual(l, want) {
			t.Errorf("Split(%q): %v, %d, %d", s, l, at, e)
		}
	}
	for _, sign := range strings.Fields("( ) { } [ ] , ; . = == != < <= > >= + - * / % ! && ||") {
		if l, _, e := lexer.Split(sign); e != api.OK || len(l) != 2 || l[0] != tk(api.TkSign, sign, 0, 0) {
			t.Errorf("the sign %q: %v, %d", sign, l, e)
		}
	}
	for _, w := range words {
		if l, _, e := lexer.Split(w); e != api.OK || len(l) != 2 || l[0] != tk(api.TkWord, w, 0, 0) {
			t.Errorf("the word %q: %v, %d", w, l, e)
		}
	}
}

func TestP8_2_Errors(t *testing.T) {
	long := strings.Repeat("x", 25)
	full := strings.Repeat("; ", 1023)
	for _, x := range []struct {
		s    string
		at   int
		want api.Errno
	}{
		{strings.Repeat(" ", 4097), 0, api.ErrLong}, {"\xff" + strings.Repeat(" ", 4096), 0, api.ErrLong},
		{"\xff", 0, api.ErrRune}, {"a\xc3", 1, api.ErrRune}, {"// \xc3\x28", 3, api.ErrRune}, {"//ö\x80", 4, api.ErrRune}, {"\xc0\x80", 0, api.ErrRune}, {"a \xed\xa0\x80", 2, api.ErrRune}, {"\xf4\x90\x80\x80", 0, api.ErrRune}, {"\xe0\x80\xaf", 0, api.ErrRune}, {"a\xef\xbf", 1, api.ErrRune}, {"1\xff", 1, api.ErrRune}, {"/\xff", 1, api.ErrRune},
		{"a # b", 2, api.ErrToken}, {"&", 0, api.ErrToken}, {"a|b", 1, api.ErrToken}, {"& &", 0, api.ErrToken}, {"\\", 0, api.ErrToken}, {"\x00", 0, api.ErrToken}, {"a \x7f", 2, api.ErrToken}, {"'", 0, api.ErrToken}, {"a\vb", 1, api.ErrToken}, {"a\fb", 1, api.ErrToken}, {"~", 0, api.ErrToken}, {"@", 0, api.ErrToken}, {"?:", 0, api.ErrToken},
		{`a "b`, 2, api.ErrToken}, {`"`, 0, api.ErrToken}, {"\"a\nb\"", 0, api.ErrToken}, {`"a\n"`, 0, api.ErrToken}, {"\"ö\"", 0, api.ErrToken}, {"\"\x7f\"", 0, api.ErrToken}, {"\"\t\"", 0, api.ErrToken}, {"\"a\xff\"", 0, api.ErrToken}, {`"a" "`, 4, api.ErrToken}, {"\"\x1f\"", 0, api.ErrToken},
		{"let größe=0x;", 13, api.ErrToken}, {"1a", 1, api.ErrToken}, {"1if", 1, api.ErrToken}, {"0_", 1, api.ErrToken}, {"12ö", 2, api.ErrToken}, {"1" + long, 1, api.ErrToken},
		{"9223372036854775808", 0, api.ErrNumber}, {"a 99999999999999999999999a", 2, api.ErrNumber}, {"00000000000000000000009223372036854775808", 0, api.ErrNumber}, {"9223372036854775808\xff", 0, api.ErrNumber},
		{long, 0, api.ErrLong}, {"a " + long + "\xff", 2, api.ErrLong}, {strings.Repeat("ö", 13), 0, api.ErrLong}, {"a" + strings.Repeat("ö", 12), 0, api.ErrLong}, {"# " + long, 0, api.ErrToken},
		{full + "; ;", 2048, api.ErrLong}, {full + ";;", 2047, api.ErrLong}, {full + "; 1a", 2048, api.ErrLong}, {full + "; #", 2048, api.ErrToken}, {full + "; 9223372036854775808", 2048, api.ErrNumber}, {full + "; \"", 2048, api.ErrToken}, {full + "1a", 2047, api.ErrToken}, {full + "; \xff", 2048, api.ErrRune}, {full + "; //\xff", 2050, api.ErrRune}, {full + "; " + long, 2048, api.ErrLong},
	} {
		if l, at, e := lexer.Split(x.s); len(l) != 0 || at != x.at || e != x.want {
			t.Errorf("Split(%q): %d tokens, %d, %d; want %d, %d", x.s, len(l), at, e, x.at, x.want)
		}
	}
	for _, s := range []string{full + ";", full + "; // the end\n", strings.Repeat(" ", 4096), strings.Repeat(" ", 4095) + ";", "//" + strings.Repeat("x", 4094)} {
		if l, at, e := lexer.Split(s); e != api.OK || at != 0 || l[len(l)-1] != tk(api.TkEnd, "", 0, len(s)) {
			t.Errorf("Split of %d bytes: %d, %d", len(s), at, e)
		}
	}
}

// A rune that Go writes for invalid bytes must not hide them, and all valid runes are accepted.
func TestP8_2_Runes(t *testing.T) {
	for _, r := range []rune{0x80, 0x7ff, 0x800, 0xd7ff, 0xe000, 0xfffd, 0xffff, 0x10000, 0x10ffff} {
		s := "x" + string(r)
		if l, _, e := lexer.Split(s); e != api.OK || len(l) != 2 || l[0] != tk(api.TkName, s, 0, 0) {
			t.Errorf("%x: %v, %d", r, l, e)
		}
	}
}

func TestP8_3_Cover(t *testing.T) {
	r := rand.New(rand.NewSource(10))
	parts := append(strings.Fields(`a größe _x1 12 0 "s" "a b" ( ) { } [ ] , ; . = == != < <= > >= + - * / % ! && || // & 9223372036854775808`), words...)
	parts = append(parts, " ", "\n", "\t", "//c\n", "ö", "\"", " ", " ", " ")
	good := 0
	for range 20000 {
		s := ""
		for range r.Intn(12) {
			s += parts[r.Intn(len(parts))]
		}
		l, _, e := lexer.Split(s)
		if e != api.OK {
			continue
		}
		good++
		again, end := "", 0
		for i, k := range l {
			if k.At < end || strings.TrimSpace(strip(s[end:k.At])) != "" {
				t.Fatalf("%q: the gap before token %d", s, i)
			}
			text := k.Text
			if k.Kind == api.TkString {
				text = `"` + text + `"`
			}
			if !strings.HasPrefix(s[k.At:], text) {
				t.Fatalf("%q: token %d", s, i)
			}
			end = k.At + len(text)
			again += text + " "
		}
		m, _, e := lexer.Split(again)
		if e != api.OK || len(m) != len(l) {
			t.Fatalf("%q splits in another way than %q", again, s)
		}
		for i := range m {
			m[i].At = l[i].At
		}
		if !reflect.DeepEqual(l, m) {
			t.Fatalf("%q splits in another way than %q", again, s)
		}
	}
	if good < 1000 {
		t.Errorf("only %d texts", good)
	}
}

// strip removes the comments from a text that has no strings.
func strip(s string) string {
	for {
		i := strings.Index(s, "//")
		if i < 0 {
			return s
		}
		end := strings.IndexByte(s[i:], '\n')
		if end < 0 {
			return s[:i]
		}
		s = s[:i] + s[i+end:]
	}
}
