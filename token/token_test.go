package token

import (
	"slices"
	"strconv"
	"strings"
	"testing"
	"unsafe"

	"innkeep/api"
)

const top = api.MaxNumber

// pieces are bytes that lines are made of here: a gap, what other tools hold for one, and what is no text.
var pieces = []string{" ", "a", "\t", "\xff", "\x00"}

// texts are all texts of at most most pieces.
func texts(most int, pieces []string) []string {
	all := []string{""}
	for first := 0; most > 0; most-- {
		last := len(all)
		for _, text := range all[first:last] {
			for _, piece := range pieces {
				all = append(all, text+piece)
			}
		}
		first = last
	}
	return all
}

// runs tells a line's words byte by byte, as the chapter has them.
func runs(line string) []string {
	var words []string
	inside := false
	for i := range len(line) {
		if line[i] == 0x20 {
			inside = false
			continue
		}
		if !inside {
			words = append(words, "")
		}
		inside = true
		words[len(words)-1] += line[i : i+1]
	}
	return words
}

// P2.1

func TestCut(t *testing.T) {
	for _, x := range []struct {
		line string
		want []string
	}{
		{"", nil},
		{" ", nil},
		{"     ", nil},
		{"get", []string{"get"}},
		{"get 5", []string{"get", "5"}},
		{"  get 5 ", []string{"get", "5"}},
		{" get", []string{"get"}},
		{"get ", []string{"get"}},
		{"put   1 in  0", []string{"put", "1", "in", "0"}},
		{"a a a", []string{"a", "a", "a"}},
		{"\t", []string{"\t"}},
		{"get\t5", []string{"get\t5"}},
		{"get 5\n", []string{"get", "5\n"}},
		{"get\r\n5\v\f", []string{"get\r\n5\v\f"}},
		{"get\u00a05\u2003\u0085", []string{"get\u00a05\u2003\u0085"}},
		{"\x85 \xa0", []string{"\x85", "\xa0"}},
		{"\x00 \xff\xfe", []string{"\x00", "\xff\xfe"}},
		{"GET \u00e9", []string{"GET", "\u00e9"}},
	} {
		if got := Cut(x.line); !slices.Equal(got, x.want) {
			t.Errorf("Cut(%q) = %q", x.line, got)
		}
	}
}

func TestCutAtOneByteAlone(t *testing.T) {
	for b := range 256 {
		line := string([]byte{'a', byte(b), 'b'})
		want := []string{line}
		if b == 0x20 {
			want = []string{"a", "b"}
		}
		if got := Cut(line); !slices.Equal(got, want) {
			t.Errorf("Cut(%q) = %q", line, got)
		}
	}
}

func TestCutOfAllShortLines(t *testing.T) {
	for _, line := range texts(6, pieces) {
		if got := Cut(line); !slices.Equal(got, runs(line)) {
			t.Errorf("Cut(%q) = %q", line, got)
		}
	}
}

func TestCutOfLongLines(t *testing.T) {
	const many = 100000
	if got := Cut(strings.Repeat(" ", many)); len(got) != 0 {
		t.Errorf("a line of gaps alone has %d words", len(got))
	}
	word := strings.Repeat("x", many)
	if got := Cut(word); len(got) != 1 || got[0] != word {
		t.Errorf("a long word is cut into %d", len(got))
	}
	got := Cut(strings.Repeat(" ab ", many))
	if len(got) != many {
		t.Fatalf("%d words are cut into %d", many, len(got))
	}
	for i, word := range got {
		if word != "ab" {
			t.Fatalf("the word %d is %q", i, word)
		}
	}
}

func TestJoin(t *testing.T) {
	for _, x := range []struct {
		words []string
		want  string
	}{
		{nil, ""},
		{[]string{}, ""},
		{[]string{""}, ""},
		{[]string{"get"}, "get"},
		{[]string{"get", "5"}, "get 5"},
		{[]string{"put", "1", "in", "0"}, "put 1 in 0"},
		{[]string{"", ""}, " "},
		{[]string{"a", "", "b"}, "a  b"},
		{[]string{"", "a", ""}, " a "},
		{[]string{"a b", " c"}, "a b  c"},
		{[]string{"\t", "\x00\xff", "\n"}, "\t \x00\xff \n"},
	} {
		if got := Join(x.words...); got != x.want {
			t.Errorf("Join(%q) = %q", x.words, got)
		}
	}
	if Join() != "" || Join("give", "1", "to", "2") != "give 1 to 2" {
		t.Error("words, joined one by one")
	}
}

// P2.2

func TestNumber(t *testing.T) {
	for _, x := range []struct {
		word string
		want int
	}{
		{"0", 0}, {"1", 1}, {"7", 7}, {"9", 9}, {"10", 10}, {"16", 16}, {"100", 100},
		{"1000000000", 1000000000},
		{"1073741819", top - 5}, {"1073741823", top - 1}, {"1073741824", top},
	} {
		if n, ok := Number(x.word); n != x.want || !ok {
			t.Errorf("Number(%q) = %d, %v", x.word, n, ok)
		}
	}
}

func TestNumberOfWrongWords(t *testing.T) {
	for _, word := range []string{
		"", " ", " 5", "5 ", "5\n", "5\x00", "\t5", "1 2",
		"00", "05", "007", "01073741824", "0x5", "0b1", "0o7",
		"+", "-", "+0", "-0", "+5", "-5", "5-", "--5",
		"a", "1a", "a1", "five", "1_0", "1,000", "1.0", "1e3", ".", "0.",
		"1/", "1:", "/1", ":1", // the bytes beside the digits
		"\u0665", "\uff15", "5\u0665", "\xff", "\xb5", // other digits, and none
		"1073741825", "1073741830", "1073741834", "1999999999", "2000000000", "2147483648", "9999999999",
		"4294967296", "4294967297", "10737418240", // wrapped round at 32 bits, or a digit more
		"9223372036854775807", "9223372036854775808",
		"18446744073709551616", "18446744073709551617", "99999999999999999999", // wrapped round at 64 bits
		"1073741825x", "x1073741825",
	} {
		checkNone(t, word)
	}
	for b := range 256 {
		if b < '0' || b > '9' {
			checkNone(t, string([]byte{byte(b)}))
			checkNone(t, string([]byte{'1', byte(b)}))
			checkNone(t, string([]byte{byte(b), '1'}))
			checkNone(t, string([]byte{'1', byte(b), '1'}))
		}
	}
}

func TestNumberOfVeryLongWords(t *testing.T) {
	for _, size := range []int{20, 64, 400, 100000} {
		checkNone(t, strings.Repeat("0", size))
		checkNone(t, strings.Repeat("0", size)+"5")
		checkNone(t, strings.Repeat("9", size))
		checkNone(t, "1"+strings.Repeat("0", size))
		checkNone(t, "5"+strings.Repeat("x", size))
	}
	// A word whose digits are worth 0, or 1, at any width of bits that doubles up to 256.
	checkNone(t, "115792089237316195423570985008687907853269984665640564039457584007913129639936")
	checkNone(t, "115792089237316195423570985008687907853269984665640564039457584007913129639937")
}

// checkNone holds a word that is no number's against Number.
func checkNone(t *testing.T, word string) {
	t.Helper()
	if n, ok := Number(word); n != 0 || ok {
		t.Errorf("Number(%.40q) = %d, %v", word, n, ok)
	}
}

func TestWord(t *testing.T) {
	for _, x := range []struct {
		n    int
		want string
	}{
		{0, "0"}, {1, "1"}, {9, "9"}, {10, "10"}, {99, "99"}, {100, "100"}, {101, "101"},
		{65536, "65536"}, {1000000000, "1000000000"}, {top - 1, "1073741823"}, {top, "1073741824"},
	} {
		if got := Word(x.n); got != x.want {
			t.Errorf("Word(%d) = %q", x.n, got)
		}
	}
}

func TestWordsAreNumbers(t *testing.T) {
	checkWord := func(n int) {
		word := Word(n)
		if word != strconv.Itoa(n) {
			t.Fatalf("Word(%d) = %q", n, word)
		}
		if got, ok := Number(word); got != n || !ok {
			t.Fatalf("Number(%q) = %d, %v", word, got, ok)
		}
	}
	for n := range 20000 {
		checkWord(n)
		checkWord(top - n)
	}
	for ten := 1; ten <= top; ten *= 10 {
		for n := max(0, ten-20); n <= ten+20; n++ {
			checkWord(n)
		}
	}
	for n := 0; n <= top; n += 9973 {
		checkWord(n)
	}
	for n := top + 1; n < top+20000; n++ {
		checkNone(t, strconv.Itoa(n))
	}
}

func TestNumberOfAllShortWords(t *testing.T) {
	for _, word := range texts(4, []string{"0", "1", "9", "-", "+", "_", " ", "x"}) {
		n, err := strconv.ParseUint(word, 10, 30)
		// Of what strconv reads, a 0 ahead of other digits alone is no number's word.
		want := err == nil && strconv.FormatUint(n, 10) == word
		got, ok := Number(word)
		if ok != want || ok && got != int(n) || !ok && got != 0 {
			t.Errorf("Number(%q) = %d, %v", word, got, ok)
		}
	}
}

// P2.3

func TestWordsJoinedAreCutIntoTheSame(t *testing.T) {
	words := texts(2, []string{"a", "0", "\t", "\x00", "\xff"})[1:]
	checkSame(t)
	for _, a := range words {
		checkSame(t, a)
		for _, b := range words {
			checkSame(t, a, b)
			checkSame(t, b, a, a, b)
		}
	}
	checkSame(t, strings.Repeat("x", 100000), "\u00a0", "\u2003\u0085", "\r\n", "\x1f", "\x21")
	many := make([]string, 5000)
	for i := range many {
		many[i] = Word(i)
	}
	checkSame(t, many...)
}

// checkSame joins words, and cuts what comes of them, with gaps more than there need be, too.
func checkSame(t *testing.T, words ...string) {
	t.Helper()
	line := Join(words...)
	if got := Cut(line); !slices.Equal(got, words) {
		t.Errorf("%.80q is cut into %.80q", line, got)
	}
	wide := "  " + strings.ReplaceAll(line, " ", "   ") + " "
	if got := Cut(wide); !slices.Equal(got, words) {
		t.Errorf("%.80q is cut into %.80q", wide, got)
	}
}

// P2.4

// shares tells whether two texts have a byte of memory in common.
func shares(a, b string) bool {
	if a == "" || b == "" {
		return false
	}
	atA := uintptr(unsafe.Pointer(unsafe.StringData(a)))
	atB := uintptr(unsafe.Pointer(unsafe.StringData(b)))
	return atA < atB+uintptr(len(b)) && atB < atA+uintptr(len(a))
}

func TestCutAnswersNewMemory(t *testing.T) {
	for _, line := range []string{"get", "x", " get 5 ", "trade 2 give 1 2 coins 5 for coins 0"} {
		got, again := Cut(line), Cut(line)
		want := slices.Clone(again)
		for i := range got {
			for j := range again {
				if shares(got[i], line) || shares(got[i], again[j]) {
					t.Errorf("of %q the word %q is no new memory", line, got[i])
				}
			}
		}
		for i := range got {
			got[i] = "changed"
		}
		got = append(got, "more")
		if !slices.Equal(again, want) || !slices.Equal(Cut(line), want) {
			t.Errorf("what %q is cut into hangs on %q", line, got)
		}
	}
}

func TestCutLeavesTheLine(t *testing.T) {
	bytes := []byte("  get 5 ")
	line := unsafe.String(&bytes[0], len(bytes))
	words := Cut(line)
	if string(bytes) != "  get 5 " {
		t.Errorf("the line was changed to %q", bytes)
	}
	for i := range bytes {
		bytes[i] = '?'
	}
	if !slices.Equal(words, []string{"get", "5"}) {
		t.Errorf("the line's memory is kept: %q", words)
	}
}

func TestJoinLeavesTheWords(t *testing.T) {
	room := []string{"put", "1", "in", "0", "behind", "it"}
	want := slices.Clone(room)
	line := Join(room[:4]...)
	if line != "put 1 in 0" || !slices.Equal(room, want) {
		t.Errorf("Join makes %q, and leaves %q", line, room)
	}
	room[0] = "changed"
	if line != "put 1 in 0" {
		t.Errorf("the line became %q", line)
	}
}

func TestJoinAnswersNewMemory(t *testing.T) {
	for _, words := range [][]string{{"x"}, {"get"}, {"", "get"}, {"get", ""}, {"get", "5"}} {
		line, again := Join(words...), Join(words...)
		if shares(line, again) {
			t.Errorf("two lines of %q share memory", words)
		}
		for _, word := range words {
			if shares(line, word) {
				t.Errorf("of %q the line shares %q", words, word)
			}
		}
	}
	bytes := []byte("get")
	line := Join(unsafe.String(&bytes[0], len(bytes)))
	bytes[0] = 'l'
	if line != "get" {
		t.Errorf("the word's memory is kept: %q", line)
	}
}

func TestWordAnswersNewMemory(t *testing.T) {
	for _, n := range []int{0, 7, 10, 42, 99, 100, top} {
		if shares(Word(n), Word(n)) {
			t.Errorf("two words of %d share memory", n)
		}
	}
}

func TestNumberLeavesTheWord(t *testing.T) {
	for _, text := range []string{"0", "05", "1073741824", "-1"} {
		bytes := []byte(text)
		Number(unsafe.String(&bytes[0], len(bytes)))
		if string(bytes) != text {
			t.Errorf("%q was changed to %q", text, bytes)
		}
	}
}
