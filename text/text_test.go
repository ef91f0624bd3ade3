package text_test

import (
	"encoding/json"
	"fmt"
	"math/rand"
	"regexp"
	"strings"
	"testing"
	"unicode/utf8"

	"roundelay/api"
	"roundelay/fault"
	"roundelay/text"
)

// broken are texts that are not UTF-8, and how many of their bytes are no part of it.
var broken = []struct {
	s     string
	bytes int
}{
	{"\x80", 1},
	{"\xbf", 1},
	{"\xc3", 1},
	{"\xc0\x80", 2},
	{"\xc1\xbf", 2},
	{"\xe2\x82", 2},
	{"\xe0\x80\x80", 3},
	{"\xed\xa0\x80", 3},
	{"\xed\xbf\xbf", 3},
	{"\xf0\x9f\x98", 3},
	{"\xf0\x8f\xbf\xbf", 4},
	{"\xf4\x90\x80\x80", 4},
	{"\xf5\x80\x80\x80", 4},
	{"\xfe", 1},
	{"\xff\xff", 2},
}

// plain are characters that stand in quotes as they are.
var plain = []string{" ", "!", "#", "/", "[", "]", "a", "\x7f", "\u0080", "é", "\u07ff", "\u0800", "€", "\u2028", "\ud7ff", "\ue000", "\ufeff", "\ufffd", "\uffff", "\U00010000", "\U0001F600", "\U0010ffff"}

func checkRead(t *testing.T, s, want string, bytes int) {
	t.Helper()
	got, n, err := text.Unquote(s)
	if got != want || n != bytes || err != nil {
		t.Errorf("Unquote(%q) = %q, %d, %v; want %q, %d", s, got, n, err, want, bytes)
	}
}

func checkWrong(t *testing.T, s string) {
	t.Helper()
	got, n, err := text.Unquote(s)
	if got != "" || n != 0 || fault.Code(err) != api.ErrForm {
		t.Errorf("Unquote(%q) = %q, %d, %v; want ErrForm alone", s, got, n, err)
	}
}

// P2.1

func TestValidTellsUTF8(t *testing.T) {
	for _, s := range append([]string{"", "abc", "\x00", "\x1f", "\"\\"}, plain...) {
		if !text.Valid(s) || !text.Valid("a"+s+"b") {
			t.Errorf("%q is UTF-8", s)
		}
	}
	for _, x := range broken {
		if text.Valid(x.s) || text.Valid("a"+x.s+"b") {
			t.Errorf("%q is not UTF-8", x.s)
		}
	}
}

func TestQuoteLeavesPlainCharacters(t *testing.T) {
	for _, s := range append([]string{"", "abc", "naïve €"}, plain...) {
		if got := text.Quote(s); got != `"`+s+`"` {
			t.Errorf("Quote(%q) = %q", s, got)
		}
	}
}

func TestQuoteEscapesQuotesAndBackslashes(t *testing.T) {
	for in, want := range map[string]string{
		`"`:    `"\""`,
		`\`:    `"\\"`,
		`\"`:   `"\\\""`,
		`a"b`:  `"a\"b"`,
		`\n`:   `"\\n"`,
		`\u00`: `"\\u00"`,
		`'/`:   `"'/"`,
	} {
		if got := text.Quote(in); got != want {
			t.Errorf("Quote(%q) = %s, want %s", in, got, want)
		}
	}
}

func TestQuoteEscapesEachByteBelow32(t *testing.T) {
	short := map[byte]string{8: `\b`, 9: `\t`, 10: `\n`, 12: `\f`, 13: `\r`}
	for b := byte(0); b < 32; b++ {
		want, ok := short[b]
		if !ok {
			want = fmt.Sprintf(`\u%04x`, b)
		}
		if got := text.Quote("a" + string(rune(b)) + "b"); got != `"a`+want+`b"` {
			t.Errorf("byte %d: %s, want %s", b, got, want)
		}
	}
}

func TestQuoteReplacesEachByteThatIsNoUTF8(t *testing.T) {
	for _, x := range broken {
		want := strings.Repeat(`\ufffd`, x.bytes)
		if got := text.Quote(x.s); got != `"`+want+`"` {
			t.Errorf("Quote(%q) = %q", x.s, got)
		}
		if got := text.Quote("é" + x.s + "\n€"); got != `"é`+want+`\n€"` {
			t.Errorf("Quote of %q between others = %q", x.s, got)
		}
	}
}

// P2.2

func TestUnquoteReadsPlainCharacters(t *testing.T) {
	checkRead(t, `""`, "", 2)
	for _, s := range append([]string{"abc", "naïve €"}, plain...) {
		checkRead(t, `"`+s+`"`, s, len(s)+2)
	}
}

func TestUnquoteReadsEachShortEscape(t *testing.T) {
	want := map[byte]string{'"': `"`, '\\': `\`, '/': "/", 'b': "\b", 'f': "\f", 'n': "\n", 'r': "\r", 't': "\t"}
	for c := 0; c < 256; c++ {
		s := `"a\` + string([]byte{byte(c)}) + `b"`
		if x, ok := want[byte(c)]; ok {
			checkRead(t, s, "a"+x+"b", 6)
		} else {
			checkWrong(t, s)
		}
	}
}

func TestUnquoteReadsEachUnit(t *testing.T) {
	for u := 0; u < 0x10000; u++ {
		for _, form := range []string{`"x\u%04xy"`, `"x\u%04Xy"`} {
			s := fmt.Sprintf(form, u)
			if u >= 0xd800 && u < 0xe000 {
				checkWrong(t, s)
			} else {
				checkRead(t, s, "x"+string(rune(u))+"y", 10)
			}
		}
	}
	checkRead(t, `"\u00eF\uAbCd"`, "\u00ef\uabcd", 14)
}

func TestUnquoteTakesNoDigitOfAnotherBase(t *testing.T) {
	for place := 0; place < 4; place++ {
		for c := 0; c < 256; c++ {
			digits := []byte("0041")
			digits[place] = byte(c)
			s := `"\u` + string(digits) + `"`
			if strings.IndexByte("0123456789abcdefABCDEF", byte(c)) < 0 {
				checkWrong(t, s)
			} else if _, n, err := text.Unquote(s); (n != 8 || err != nil) && !(place == 0 && (c == 'd' || c == 'D')) {
				t.Errorf("Unquote(%q): %d, %v", s, n, err)
			}
		}
	}
	for _, s := range []string{`"\u"`, `"\u1"`, `"\u12"`, `"\u123"`, `"\u+041"`, `"\u0x41"`, `"\u{41}"`, `"\U0041"`, `"\u 041"`, `"\u00_1"`} {
		checkWrong(t, s)
	}
	checkRead(t, `"\u00412"`, "A2", 9)
}

func TestUnquoteJoinsTwoUnits(t *testing.T) {
	checkRead(t, `"\ud800\udc00"`, "\U00010000", 14)
	checkRead(t, `"\ud800\udfff"`, "\U000103ff", 14)
	checkRead(t, `"\udbff\udc00"`, "\U0010fc00", 14)
	checkRead(t, `"\uDBFF\uDfFf"`, "\U0010ffff", 14)
	checkRead(t, `"a\uD83D\ude00b"c`, "a\U0001F600b", 16)
	checkRead(t, `"\ud83d\ude00\ud83d\ude01"`, "\U0001F600\U0001F601", 26)
	for r := rune(0x10000); r <= utf8.MaxRune; r += 251 {
		s := fmt.Sprintf(`"\u%04x\u%04X"`, 0xd800+(r-0x10000)>>10, 0xdc00+(r-0x10000)&0x3ff)
		checkRead(t, s, string(r), 14)
	}
}

func TestUnquoteTakesNoHalf(t *testing.T) {
	for _, in := range []string{
		`\ud800`, `\udbff`, `\udc00`, `\udfff`,
		`\ud800x`, `\udc00x`, `x\udfff`,
		`\ud800\u0041`, `\ud800\ud800`, `\ud800\ud800\udc00`, `\udc00\ud800`, `\udc00\udc00`,
		`\ud800\ud7ff`, `\ud800\ue000`, `\ud800\udbff`,
		`\ud800\n`, `\ud800x\udc00`, `\ud800\udc0`, `\ud800\udc0g`, `\ud800\u`, `\ud800\`, `\ud800udc00`, `\ud800\\udc00`, `\ud800/udc00`, `\ud800\xdc00`,
		`\ud800\udc00\udc00`, `\ud800\udc00\ud800`, "\\ud800\xed\xb0\x80",
	} {
		checkWrong(t, `"`+in+`"`)
	}
}

func TestUnquoteTakesNoByteBelow32(t *testing.T) {
	for b := byte(0); b < 32; b++ {
		checkWrong(t, `"`+string(rune(b))+`"`)
		checkWrong(t, `"a`+string(rune(b))+`b"`)
	}
}

func TestUnquoteTakesUTF8Alone(t *testing.T) {
	for _, x := range broken {
		checkWrong(t, `"`+x.s+`"`)
		checkWrong(t, `"é`+x.s+`b"`)
		checkWrong(t, `"`+x.s)
	}
}

func TestUnquoteNeedsBothQuotes(t *testing.T) {
	for _, s := range []string{
		"", "a", `a"b"`, ` ""`, `'a'`, `\""`, "\x00", "\xff\"\"", "\n\"\"",
		`"`, `"a`, `"é`, `"\"`, `"a\"`, `"\\\"`, `"\`, `"\\`, `"\u`, `"\u0041`, `"\ud83d\ude00`, `"\n`, `"a\u0022`,
	} {
		checkWrong(t, s)
	}
}

func TestUnquoteLeavesWhatStandsBehind(t *testing.T) {
	for _, behind := range []string{"", "b", `"`, `""`, `\`, `\ud800`, "\n", "\x00", "\xff", " :", `,"b"`} {
		checkRead(t, `"a\u0041"`+behind, "aA", 9)
		checkRead(t, `""`+behind, "", 2)
		checkRead(t, `"\\"`+behind, `\`, 4)
	}
}

func TestErrorsLeaveWhatWasReadUntold(t *testing.T) {
	checkWrong(t, `"much text\u00e9`+strings.Repeat("x", 5000)+"\n\"")
	checkWrong(t, `"good" `[:5])
}

// Both together

func TestUnquoteReadsWhatQuoteWrote(t *testing.T) {
	source := rand.New(rand.NewSource(2))
	pieces := append([]string{"\"", "\\", "\b", "\t", "\n", "\f", "\r", "\x00", "\x0b", "\x0e", "\x1f", "u", "n", "0041", "\xff", "\xed\xa0\x80", "\xc3"}, plain...)
	for i := 0; i < 20000; i++ {
		var b strings.Builder
		for n := source.Intn(8); n > 0; n-- {
			b.WriteString(pieces[source.Intn(len(pieces))])
		}
		s := b.String()
		quoted := text.Quote(s)
		checkRead(t, quoted+"behind\xff", string([]rune(s)), len(quoted))
		if !text.Valid(quoted) {
			t.Errorf("Quote(%q) is not UTF-8: %q", s, quoted)
		}
	}
}

// What stands in quotes, in the words of another kind of program: it takes what is no UTF-8, too, so that this is asked beside.
var inQuotes = regexp.MustCompile(`^"(?:[^"\\\x00-\x1f]|\\["\\/bfnrt]|\\u[0-9a-cA-Ce-fE-F][0-9a-fA-F]{3}|\\u[dD][0-7][0-9a-fA-F]{2}|\\u[dD][89abAB][0-9a-fA-F]{2}\\u[dD][c-fC-F][0-9a-fA-F]{2})*"`)

func TestUnquoteIsWhatAnotherReaderTells(t *testing.T) {
	pieces := []string{`"`, `\`, "u", "n", "/", "0041", "D83D", "de00", `\u`, "a", "é", "\xc3", "\x1f", "\x7f", `\ud83d`, `\uDE00`}
	var all func(s string, more int)
	all = func(s string, more int) {
		found := inQuotes.FindString(s)
		if found == "" || !utf8.ValidString(found) {
			checkWrong(t, s)
		} else {
			var want string
			if err := json.Unmarshal([]byte(found), &want); err != nil {
				t.Fatal(found, err)
			}
			checkRead(t, s, want, len(found))
		}
		for _, piece := range pieces {
			if more > 0 {
				all(s+piece, more-1)
			}
		}
	}
	all("", 2)
	all(`"`, 4)
}

// Many texts stand one behind the other in what is read: each must cost no more than its own bytes.
func TestUnquoteStopsAtTheSecondQuote(t *testing.T) {
	s := strings.Repeat(`"a"`, 1<<20)
	for read := 0; read < len(s); read += 3 {
		if _, n, err := text.Unquote(s[read:]); n != 3 || err != nil {
			t.Fatal(read, n, err)
		}
	}
}
