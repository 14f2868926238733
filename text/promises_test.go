package text_test

import (
	"strings"
	"testing"

	"amalgam/api"
	"amalgam/words"
)

func wantSecond(t *testing.T, way int, s api.Signature, in string) answer {
	t.Helper()
	got, want := reading(t, way, s, in), secondReading(way, s, in)
	if got != want {
		t.Fatalf("way %d of %q: %v; want %v", way, in, got, want)
	}
	return got
}

// TestAllRowsOfWords: all rows of at most four words, held against a second reading; and of at most eight, as long as they may become what is read, with each word behind these.
func TestAllRowsOfWords(t *testing.T) {
	s := exampleSignature()
	seen := map[api.Errno]int{}
	var walk func(in string, n int)
	walk = func(in string, n int) {
		alive := n < 4
		for way := range ways {
			e := wantSecond(t, way, s, in).e
			seen[e]++
			alive = alive || e == api.OK || e == api.ErrTextShort || e == api.ErrTermsArgs
		}
		if !alive || n == 8 {
			return
		}
		for _, x := range pool() {
			walk(in+x+" ", n+1)
		}
	}
	walk("", 0)
	for _, e := range []api.Errno{api.OK, api.ErrTextShort, api.ErrTextWord, api.ErrTextSymbol, api.ErrTextRest, api.ErrWordsByte, api.ErrTermsArgs} {
		if seen[e] < 30 {
			t.Errorf("the answer %d came %d times", e, seen[e])
		}
	}
}

// TestSpoiltTexts: longer texts, in which something is wrong somewhere.
func TestSpoiltTexts(t *testing.T) {
	m := newMaker(73)
	seen := map[api.Errno]int{}
	for i := range 60000 {
		s := signatures()[i%3]
		way := m.Intn(ways)
		row := m.row(way, s, 1+m.Intn(45))
		if i%4 > 0 {
			row = m.spoilt(row)
		}
		in, _ := m.spaced(row)
		for other := range ways {
			seen[wantSecond(t, other, s, in).e]++
		}
	}
	for _, e := range []api.Errno{api.OK, api.ErrTextShort, api.ErrTextWord, api.ErrTextSymbol, api.ErrTextRest, api.ErrTextLong, api.ErrWordsByte, api.ErrWordsLong, api.ErrTermsArgs, api.ErrTermsLong} {
		if seen[e] < 100 {
			t.Errorf("the answer %d came %d times", e, seen[e])
		}
	}
}

// TestAllBytes: P1 for texts of any bytes.
func TestAllBytes(t *testing.T) {
	s := exampleSignature()
	for way := range ways {
		for x := range 256 {
			for y := range 256 {
				wantSecond(t, way, s, string([]byte{byte(x), byte(y)}))
			}
			for _, ahead := range []string{"", "X", "X ", "a", "f(", "f(X", "f(X,", "f(X,a)", "X=", "a = ", "X=a", "X->", "X -> a", "X->a,"} {
				wantSecond(t, way, s, ahead+string([]byte{byte(x)}))
			}
		}
	}
	m := newMaker(79)
	for range 3000 {
		b := make([]byte, m.Intn(820))
		m.Read(b)
		for way := range ways {
			wantSecond(t, way, s, string(b))
		}
	}
}

// P5.2: with other blanks between the words all is read alike; an error stands at the same word.
func TestBlanksChangeNothing(t *testing.T) {
	m := newMaker(83)
	for i := range 20000 {
		s := signatures()[i%3]
		way := m.Intn(ways)
		row := m.row(way, s, 1+m.Intn(12))
		if i%2 > 0 {
			row = m.spoilt(row)
		}
		one, onePlaces := m.spaced(row)
		other, otherPlaces := m.spaced(row)
		if len(one) > 800 || len(other) > 800 {
			continue
		}
		got, again := reading(t, way, s, one), reading(t, way, s, other)
		if got.e != again.e || got.read != again.read || wordAt(got, one, onePlaces) != wordAt(again, other, otherPlaces) {
			t.Fatalf("way %d of %q: %v; of %q: %v", way, one, got, other, again)
		}
	}
}

// wordAt is which word an error's place is that of; what is no error of a word has the place 0.
func wordAt(got answer, in string, places []int) int {
	if got.e == api.OK || got.e == api.ErrTermsArgs || got.e == api.ErrTermsLong {
		return got.at
	}
	if got.e == api.ErrTextShort && got.at == len(in) {
		return len(places)
	}
	for i, at := range places {
		if at == got.at {
			return i
		}
	}
	return -1
}

// TestBlanksEverywhere: a blank more at each place between two words, around the whole, and many at once.
func TestBlanksEverywhere(t *testing.T) {
	s := exampleSignature()
	for way, in := range []string{"f(plus(X,a,_1),times(one,Y))", "f(X,a)=plus(one,f(a,a),X)", "X->f(X,a),_1->Y,Y->one"} {
		want := reading(t, way, s, in)
		if want.e != api.OK {
			t.Fatalf("%q: %v", in, want)
		}
		places := []int{len(in)}
		for w := range words.All(in) {
			places = append(places, w.At)
		}
		for _, at := range places {
			for _, n := range []int{1, 2, 5, 700} {
				if got := reading(t, way, s, in[:at]+strings.Repeat(" ", n)+in[at:]); got != want {
					t.Errorf("%d blanks at %d of %q: %v", n, at, in, got)
				}
			}
			for _, other := range []string{"\t", "\n", "\r", "\v", "\f", "\x00", "\u00a0"} {
				if got := reading(t, way, s, in[:at]+other+in[at:]); got != (answer{e: api.ErrWordsByte, at: at}) {
					t.Errorf("%q at %d of %q: %v", other, at, in, got)
				}
			}
		}
	}
	// Within a word a blank parts it.
	wantFaults(t, asTerm, s, []fault{{"pl us(X,a)", api.ErrTextSymbol, 0}, {"X 2", api.ErrWordsByte, 2}})
	wantFaults(t, asBinds, s, []fault{{"X - > a", api.ErrWordsByte, 2}})
}
