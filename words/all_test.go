package words_test

import (
	"slices"
	"strings"
	"testing"

	"amalgam/api"
	"amalgam/words"
)

func texts(l []api.Word) string {
	var b strings.Builder
	for _, w := range l {
		b.WriteString(w.Text + "|")
	}
	return b.String()
}

func TestAllGoesThroughTheWords(t *testing.T) {
	for _, text := range []string{"", "   ", "a", "f(X, a2) = _1", "aX->b", " a  b ", strings.Repeat("f(X)", 300)} {
		l, e, _ := words.List(text)
		if got := slices.Collect(words.All(text)); e != api.OK || !slices.Equal(got, l) {
			t.Errorf("All of %q: %v; List: %v, %d", text, got, l, e)
		}
	}
}

func TestAllEndsAtTheFirstThatIsNone(t *testing.T) {
	for text, want := range map[string]string{
		"f [ g": "f|", "[ g": "", "_0": "", "a -": "a|", "X " + strings.Repeat("a", 13) + " b": "X|", "f(X)_": "f|(|X|)|", "a\tb": "a|",
	} {
		if got := texts(slices.Collect(words.All(text))); got != want {
			t.Errorf("All of %q: %s; want %s", text, got, want)
		}
	}
}

func TestAllOfAllSmallTexts(t *testing.T) {
	next := saidAgain()
	for text := range smallTexts(pieces(), 4) {
		var want []api.Word
		for n := next(text, 0); n.e == api.OK && n.w.Kind != 0; n = next(text, n.behind) {
			want = append(want, n.w)
		}
		if got := slices.Collect(words.All(text)); !slices.Equal(got, want) {
			t.Fatalf("All of %q: %v; want %v", text, got, want)
		}
	}
}

func TestAllLeftEarly(t *testing.T) {
	const text = "f(X,a)"
	whole, _, _ := words.List(text)
	for most := 1; most <= len(whole); most++ {
		var got []api.Word
		for w := range words.All(text) {
			got = append(got, w)
			if len(got) == most {
				break
			}
		}
		if !slices.Equal(got, whole[:most]) {
			t.Errorf("left behind %d words: %v", most, got)
		}
	}
	asked := 0
	words.All(text)(func(api.Word) bool { asked++; return false })
	if asked != 1 {
		t.Errorf("asked %d times, though it was left at once", asked)
	}
}

func TestAllGoneThroughAgain(t *testing.T) {
	all := words.All("f(X)")
	for w := range all {
		if w.Text == "(" {
			break
		}
	}
	for range 3 {
		if got := texts(slices.Collect(all)); got != "f|(|X|)|" {
			t.Errorf("gone through again: %s", got)
		}
	}
}

func TestAllWithinItself(t *testing.T) {
	all := words.All("a X =")
	var got strings.Builder
	for v := range all {
		for w := range all {
			got.WriteString(v.Text + w.Text + " ")
		}
	}
	if got.String() != "aa aX a= Xa XX X= =a =X == " {
		t.Errorf("within itself: %s", got.String())
	}
}
