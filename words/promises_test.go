package words_test

import (
	"slices"
	"strings"
	"sync"
	"testing"
	"unsafe"

	"amalgam/api"
	"amalgam/sig"
	"amalgam/words"
)

// P2.1
func wantInPlace(t *testing.T, text string, l []api.Word) {
	t.Helper()
	behind := 0
	for _, w := range l {
		if w.At < behind || !strings.HasPrefix(text[w.At:], w.Text) || w.Text == "" {
			t.Fatalf("%q does not stand in %q at %d", w.Text, text, w.At)
		}
		if strings.Trim(text[behind:w.At], " ") != "" {
			t.Errorf("ahead of %q stands %q", w.Text, text[behind:w.At])
		}
		if w.Kind == api.WordName && !sig.Name(w.Text) || w.Kind == api.WordVar && !sig.Var(w.Text) {
			t.Errorf("%q is of the kind %d", w.Text, w.Kind)
		}
		if w.Kind < api.WordName || w.Kind > api.WordTo {
			t.Errorf("%q has no kind: %d", w.Text, w.Kind)
		}
		behind = w.At + len(w.Text)
	}
	if strings.Trim(text[behind:], " ") != "" {
		t.Errorf("behind the words stands %q", text[behind:])
	}
}

func TestWordsStandInTheText(t *testing.T) {
	right := 0
	for text := range smallTexts(pieces(), 4) {
		if l, e, _ := words.List(text); e == api.OK {
			right++
			wantInPlace(t, text, l)
		}
	}
	if right < 1000 {
		t.Errorf("only %d of the texts are without an error", right)
	}
	for _, text := range []string{"f(X, a2) = _1", " " + strings.Repeat("f(Abc2,_12)->  ", 500)} {
		l, e, at := words.List(text)
		if e != api.OK {
			t.Fatalf("List of %.60q: %d, %d", text, e, at)
		}
		wantInPlace(t, text, l)
	}
}

// P2.2
func TestTwoTextsWithABlankBetween(t *testing.T) {
	var right []string
	for text := range smallTexts([]string{"a", "X", "_1", "9", "->", " ", "(", "bbbbbbbbbbb", "=", "_"}, 3) {
		if _, e, _ := words.List(text); e == api.OK {
			right = append(right, text)
		}
	}
	for _, one := range right {
		for _, other := range right {
			l, e, at := words.List(one + " " + other)
			want, _, _ := words.List(one)
			behind, _, _ := words.List(other)
			for _, w := range behind {
				w.At += len(one) + 1
				want = append(want, w)
			}
			if e != api.OK || at != 0 || !slices.Equal(l, want) {
				t.Fatalf("List of %q = %v, %d, %d; want %v", one+" "+other, l, e, at, want)
			}
		}
	}
	if len(right) < 100 {
		t.Errorf("only %d texts are without an error", len(right))
	}
}

// P3: what is handed in stays as it was, and no answer shares its memory.
func TestTextStaysAndIsNotKept(t *testing.T) {
	const was = "f(X, a2) -> _12"
	bytes := []byte(was)
	text := unsafe.String(&bytes[0], len(bytes))
	w, _, _ := words.Next(text, 0)
	l, _, _ := words.List(text)
	all := slices.Collect(words.All(text))
	if string(bytes) != was {
		t.Fatalf("the text was changed: %s", bytes)
	}
	for i := range bytes {
		bytes[i] = '#'
	}
	if got := w.Text + " " + texts(l) + " " + texts(all); got != "f f|(|X|,|a2|)|->|_12| f|(|X|,|a2|)|->|_12|" {
		t.Errorf("the words share the text's memory: %s", got)
	}
}

// P3: what comes out is new memory, its spare room too.
func TestListComesOutNew(t *testing.T) {
	const text = "f(X)=a"
	first, _, _ := words.List(text)
	second, _, _ := words.List(text)
	room := first[:cap(first)]
	for i := range room {
		room[i] = api.Word{Kind: 9, Text: "spoilt", At: 77}
	}
	if grown := append(second, api.Word{Text: "more"}); texts(grown) != "f|(|X|)|=|a|more|" {
		t.Errorf("two answers share memory: %v", grown)
	}
	third, _, _ := words.List(text)
	if !slices.Equal(third, second) {
		t.Errorf("an answer spoils the next one: %v", third)
	}
}

// P3: an answer hangs on the arguments alone, not on what was asked ahead of it or is asked at the same time.
func TestNothingIsKept(t *testing.T) {
	var group sync.WaitGroup
	for range 8 {
		group.Go(func() {
			for range 100 {
				words.List("f [")
				wantNext(t, "  ab", 1, word(api.WordName, "ab", 2))
				wantNoList(t, "f [", api.ErrWordsByte, 2)
				wantList(t, "=", api.Word{Kind: api.WordEqual, Text: "="})
			}
		})
	}
	group.Wait()
}

// P1, P2: at all texts there is an answer, and beside an error nothing else but the place.
func FuzzWords(f *testing.F) {
	for _, text := range []string{"", " ", "f(X, a2) = _1", "aX->b", "f [", "_0", "-", "aaaaaaaaaaaaa", "\xff\x00é", "_0123456789012"} {
		f.Add(text, 0)
		f.Add(text, len(text))
		f.Add(text, -1)
	}
	want := saidAgain()
	f.Fuzz(func(t *testing.T, text string, at int) {
		wantNext(t, text, at, want(text, at))
		l, e, place := words.List(text)
		wantL, wantE, wantAt := allWords(text)
		if e != wantE || place != wantAt || !slices.Equal(l, wantL) {
			t.Errorf("List of %q = %v, %d, %d; want %v, %d, %d", text, l, e, place, wantL, wantE, wantAt)
		}
	})
}
