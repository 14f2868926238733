package words_test

import (
	"iter"
	"math"
	"regexp"
	"strings"
	"testing"

	"amalgam/api"
	"amalgam/words"
)

// told is what Next tells.
type told struct {
	w      api.Word
	behind int
	e      api.Errno
}

func wantNext(t *testing.T, text string, at int, want told) {
	t.Helper()
	w, behind, e := words.Next(text, at)
	if got := (told{w, behind, e}); got != want {
		t.Errorf("Next of %.60q at %d = %v; want %v", text, at, got, want)
	}
}

// word is what is told of a word that stands at a place.
func word(kind api.WordKind, text string, at int) told {
	return told{api.Word{Kind: kind, Text: text, At: at}, at + len(text), api.OK}
}

func nothing(end int) told             { return told{behind: end} }
func refused(e api.Errno, at int) told { return told{behind: at, e: e} }

func digits(n int) string { return strings.Repeat("1234567890", n/10+1)[:n] }

func TestNextKinds(t *testing.T) {
	for _, c := range []struct {
		text string
		kind api.WordKind
	}{
		{"a", api.WordName}, {"z9a0", api.WordName}, {"plus", api.WordName},
		{"X", api.WordVar}, {"XyZ2", api.WordVar}, {"A0", api.WordVar}, {"_1", api.WordVar}, {"_9", api.WordVar}, {"_10", api.WordVar},
		{"(", api.WordOpen}, {")", api.WordClose}, {",", api.WordComma}, {"=", api.WordEqual}, {"->", api.WordTo},
	} {
		wantNext(t, c.text, 0, word(c.kind, c.text, 0))
		wantNext(t, "  "+c.text+" ", 0, word(c.kind, c.text, 2))
		wantNext(t, ")"+c.text+")", 1, word(c.kind, c.text, 1))
	}
}

func TestKindsHaveTheirNumbers(t *testing.T) {
	l, _, _ := words.List("f X ( ) , = ->")
	for i, w := range l {
		if int(w.Kind) != i+1 {
			t.Errorf("the kind of %q is %d", w.Text, w.Kind)
		}
	}
	if len(l) != 7 {
		t.Errorf("there are %d words", len(l))
	}
}

func TestNextAtTheEdges(t *testing.T) {
	wantNext(t, "", 0, nothing(0))
	wantNext(t, "  ", 0, nothing(2))
	wantNext(t, "  ", 1, nothing(2))
	wantNext(t, "  ", 2, nothing(2))
	wantNext(t, "ab  ", 2, nothing(4))
	wantNext(t, "ab", 0, word(api.WordName, "ab", 0))
	wantNext(t, "ab", 1, word(api.WordName, "b", 1))
	wantNext(t, "ab", 2, nothing(2))
	for _, text := range []string{"", "  ", "ab", "[", strings.Repeat("a", 13)} {
		for _, at := range []int{-1, -2, math.MinInt, len(text) + 1, len(text) + 2, math.MaxInt} {
			wantNext(t, text, at, refused(api.ErrArg, 0))
		}
	}
}

func TestNextFromWithinAWord(t *testing.T) {
	wantNext(t, "aX", 0, word(api.WordName, "a", 0))
	wantNext(t, "aX", 1, word(api.WordVar, "X", 1))
	wantNext(t, "_12", 1, refused(api.ErrWordsByte, 1))
	wantNext(t, "->", 1, refused(api.ErrWordsByte, 1))
	wantNext(t, strings.Repeat("a", 13), 1, word(api.WordName, strings.Repeat("a", 12), 1))
}

func TestNextLong(t *testing.T) {
	for _, c := range []struct{ first, next string }{{"a", "a"}, {"a", "9"}, {"X", "X"}, {"X", "y"}, {"X", "0"}, {"_1", "0"}, {"_", "7"}} {
		kind := api.WordVar
		if c.first == "a" {
			kind = api.WordName
		}
		short := c.first + strings.Repeat(c.next, 12-len(c.first))
		for _, behind := range []string{"", " ", " a", "(", "["} {
			wantNext(t, short+behind, 0, word(kind, short, 0))
			wantNext(t, " "+short+behind, 0, word(kind, short, 1))
			wantNext(t, short+c.next+behind, 0, refused(api.ErrWordsLong, 0))
			wantNext(t, "  "+short+c.next+behind, 1, refused(api.ErrWordsLong, 2))
		}
		wantNext(t, c.first+strings.Repeat(c.next, 1<<16), 0, refused(api.ErrWordsLong, 0))
	}
}

func TestNextNumbered(t *testing.T) {
	for _, text := range []string{"_", "_ ", "_ 1", "_0", "_01", "_00", "_X", "_a", "__1", "_(", "_-1", "_0" + digits(10), "_0" + digits(11), "_0" + digits(99)} {
		wantNext(t, text, 0, refused(api.ErrWordsByte, 0))
		wantNext(t, "a  "+text, 1, refused(api.ErrWordsByte, 3))
	}
	wantNext(t, "_"+digits(11), 0, word(api.WordVar, "_"+digits(11), 0))
	wantNext(t, "_"+digits(12), 0, refused(api.ErrWordsLong, 0))
	wantNext(t, "_1a", 0, word(api.WordVar, "_1", 0))
	wantNext(t, "_1X", 0, word(api.WordVar, "_1", 0))
	wantNext(t, "_1_2", 0, word(api.WordVar, "_1", 0))
	wantNext(t, "X_1", 0, word(api.WordVar, "X", 0))
	wantNext(t, "a_1", 0, word(api.WordName, "a", 0))
}

func TestNextArrow(t *testing.T) {
	for _, text := range []string{"-", "- ", "- >", "--", "-->", "-a", "-=", ">", ">-"} {
		wantNext(t, text, 0, refused(api.ErrWordsByte, 0))
		wantNext(t, "X "+text, 1, refused(api.ErrWordsByte, 2))
	}
	wantNext(t, "->>", 0, word(api.WordTo, "->", 0))
	wantNext(t, "->->", 2, word(api.WordTo, "->", 2))
	wantNext(t, "X->", 0, word(api.WordVar, "X", 0))
	wantNext(t, "=->", 0, word(api.WordEqual, "=", 0))
}

// Only the byte 32 is a blank, and only ASCII's letters and digits are letters and digits.
func TestNextOtherBytes(t *testing.T) {
	for _, text := range []string{"\t", "\n", "\r", "\x00", "\u00a0", "\u2003", "é", "É", "\u0661", "\uff11", "\xff", "\xe1", "0", "9", "1a", "[", "]", "{", ".", ";", "'", "\"", "+", "*", "@", "`"} {
		wantNext(t, text, 0, refused(api.ErrWordsByte, 0))
		wantNext(t, " "+text, 0, refused(api.ErrWordsByte, 1))
		wantNext(t, text+"a", 0, refused(api.ErrWordsByte, 0))
	}
	for _, text := range []string{"\t", "\x00", "é", "É", "\u0661", "\uff11", "\xff", "["} {
		wantNext(t, "a"+text, 0, word(api.WordName, "a", 0))
		wantNext(t, "A"+text, 0, word(api.WordVar, "A", 0))
		wantNext(t, "_1"+text, 0, word(api.WordVar, "_1", 0))
	}
}

// saidAgain is the document's words on Next, said again by a pattern for each kind.
func saidAgain() func(text string, at int) told {
	name := regexp.MustCompile(`^[a-z][a-z0-9]*`)
	written := regexp.MustCompile(`^[A-Z][A-Za-z0-9]*`)
	numbered := regexp.MustCompile(`^_[0-9]*`)
	sign := regexp.MustCompile(`^(\(|\)|,|=|->)`)
	return func(text string, at int) told {
		if at < 0 || at > len(text) {
			return refused(api.ErrArg, 0)
		}
		rest := strings.TrimLeft(text[at:], " ")
		p := len(text) - len(rest)
		if rest == "" {
			return nothing(p)
		}
		if s := name.FindString(rest); len(s) > 12 {
			return refused(api.ErrWordsLong, p)
		} else if s != "" {
			return word(api.WordName, s, p)
		}
		if s := written.FindString(rest); len(s) > 12 {
			return refused(api.ErrWordsLong, p)
		} else if s != "" {
			return word(api.WordVar, s, p)
		}
		if s := numbered.FindString(rest); s == "_" || strings.HasPrefix(s, "_0") {
			return refused(api.ErrWordsByte, p)
		} else if len(s) > 12 {
			return refused(api.ErrWordsLong, p)
		} else if s != "" {
			return word(api.WordVar, s, p)
		}
		if s := sign.FindString(rest); s != "" {
			kinds := map[string]api.WordKind{"(": api.WordOpen, ")": api.WordClose, ",": api.WordComma, "=": api.WordEqual, "->": api.WordTo}
			return word(kinds[s], s, p)
		}
		return refused(api.ErrWordsByte, p)
	}
}

// smallTexts goes through all texts of at most so many of these pieces.
func smallTexts(pieces []string, most int) iter.Seq[string] {
	return func(yield func(string) bool) {
		var grow func(text string, left int) bool
		grow = func(text string, left int) bool {
			if !yield(text) {
				return false
			}
			for _, p := range pieces {
				if left > 0 && !grow(text+p, left-1) {
					return false
				}
			}
			return true
		}
		grow("", most)
	}
}

// pieces hold a byte of each sort, and names that are all but too long.
func pieces() []string {
	return []string{"a", "X", "_", "0", "1", "(", "-", ">", " ", "[", "bbbbbbbbbbb", "YYYYYYYYYYY"}
}

func TestNextOfAllSmallTexts(t *testing.T) {
	want := saidAgain()
	for text := range smallTexts(pieces(), 4) {
		for at := -1; at <= len(text)+1; at++ {
			wantNext(t, text, at, want(text, at))
		}
		if t.Failed() {
			return
		}
	}
}

func TestNextOfEveryPairOfBytes(t *testing.T) {
	want := saidAgain()
	for b := range 256 {
		for c := range 256 {
			text := string([]byte{byte(b), byte(c)})
			for at := 0; at <= 2; at++ {
				wantNext(t, text, at, want(text, at))
			}
		}
	}
}
