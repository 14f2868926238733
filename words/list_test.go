package words_test

import (
	"slices"
	"strings"
	"testing"

	"amalgam/api"
	"amalgam/words"
)

func wantList(t *testing.T, text string, want ...api.Word) {
	t.Helper()
	l, e, at := words.List(text)
	if e != api.OK || at != 0 || !slices.Equal(l, want) {
		t.Errorf("List of %q = %v, %d, %d; want %v", text, l, e, at, want)
	}
}

func wantNoList(t *testing.T, text string, wantE api.Errno, wantAt int) {
	t.Helper()
	l, e, at := words.List(text)
	if len(l) != 0 || e != wantE || at != wantAt {
		t.Errorf("List of %.60q = %v, %d, %d; want none, %d, %d", text, l, e, at, wantE, wantAt)
	}
}

func TestListExamples(t *testing.T) {
	wantList(t, "f(X, a2) = _1",
		api.Word{Kind: api.WordName, Text: "f", At: 0}, api.Word{Kind: api.WordOpen, Text: "(", At: 1},
		api.Word{Kind: api.WordVar, Text: "X", At: 2}, api.Word{Kind: api.WordComma, Text: ",", At: 3},
		api.Word{Kind: api.WordName, Text: "a2", At: 5}, api.Word{Kind: api.WordClose, Text: ")", At: 7},
		api.Word{Kind: api.WordEqual, Text: "=", At: 9}, api.Word{Kind: api.WordVar, Text: "_1", At: 11})
	wantList(t, "aX->b",
		api.Word{Kind: api.WordName, Text: "a", At: 0}, api.Word{Kind: api.WordVar, Text: "X", At: 1},
		api.Word{Kind: api.WordTo, Text: "->", At: 2}, api.Word{Kind: api.WordName, Text: "b", At: 4})
	wantNoList(t, "f [", api.ErrWordsByte, 2)
	wantNoList(t, "_0", api.ErrWordsByte, 0)
	wantNoList(t, "-", api.ErrWordsByte, 0)
	wantNoList(t, strings.Repeat("a", 13), api.ErrWordsLong, 0)
}

func TestListOfNothing(t *testing.T) {
	for _, text := range []string{"", " ", "     "} {
		wantList(t, text)
	}
}

func TestListErrorsHaveTheirNumbers(t *testing.T) {
	wantNoList(t, "?", 21, 0)
	wantNoList(t, "AAAAAAAAAAAAA", 22, 0)
}

// The first error is told, at its own place, however much stands ahead of it and behind it.
func TestListErrorBehindWords(t *testing.T) {
	long := strings.Repeat("b", 13)
	wantNoList(t, "f(X)->a_", api.ErrWordsByte, 7)
	wantNoList(t, "f(X)->a  -", api.ErrWordsByte, 9)
	wantNoList(t, "f(X,   "+long+")", api.ErrWordsLong, 7)
	wantNoList(t, "f [ "+long, api.ErrWordsByte, 2)
	wantNoList(t, "f "+long+" [", api.ErrWordsLong, 2)
	wantNoList(t, "[ f", api.ErrWordsByte, 0)
	wantNoList(t, "  [", api.ErrWordsByte, 2)
	wantNoList(t, "X _"+digits(12), api.ErrWordsLong, 2)
	wantNoList(t, strings.Repeat("a ", 5000)+"!", api.ErrWordsByte, 10000)
}

// allWords is what List tells, said again by Next.
func allWords(text string) ([]api.Word, api.Errno, int) {
	want := saidAgain()
	var l []api.Word
	for at := 0; ; {
		n := want(text, at)
		if n.e != api.OK {
			return nil, n.e, n.behind
		}
		if n.w.Kind == 0 {
			return l, api.OK, 0
		}
		l, at = append(l, n.w), n.behind
	}
}

func TestListOfAllSmallTexts(t *testing.T) {
	for text := range smallTexts(pieces(), 4) {
		l, e, at := words.List(text)
		wantL, wantE, wantAt := allWords(text)
		if e != wantE || at != wantAt || !slices.Equal(l, wantL) {
			t.Fatalf("List of %q = %v, %d, %d; want %v, %d, %d", text, l, e, at, wantL, wantE, wantAt)
		}
	}
}
