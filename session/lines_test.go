package session_test

import (
	"strconv"
	"strings"
	"testing"

	"amalgam/api"
)

// A script just as long as it may be, in bytes, and one more: of whatever lines.
func TestBytes(t *testing.T) {
	for _, x := range []struct{ first, told string }{{"", ""}, {"free a 0\n", "ok\n"}, {declared, oks}, {"free a 0\n\n\n#\nbasis 1 = 1\n", "ok\n1 1\nend 1\n"}} {
		comment := x.first + "#" + strings.Repeat("x", 20000-len(x.first)-1)
		wantRun(t, comment, x.told, 0, api.OK)
		wantRun(t, comment[:19999]+"\n", x.told, 0, api.OK)
		wantRun(t, comment+"\n", "", 0, api.ErrSessionLong)
		wantRun(t, comment+"x", "", 0, api.ErrSessionLong)
		wantRun(t, comment+comment, "", 0, api.ErrSessionLong)
	}
	wrong := "basis 1 = 1\n" + strings.Repeat("x", 20000-12)
	wantRun(t, wrong, "1 1\nend 1\n", 2, api.ErrSessionLine)
	wantRun(t, wrong+"x", "", 0, api.ErrSessionLong)
	wantRun(t, "free "+strings.Repeat("a", 20000-7)+" 0", "error 11\n", 0, api.OK)
	wantRun(t, "free "+strings.Repeat("a", 20000-6)+" 0", "", 0, api.ErrSessionLong)
	wantRun(t, "term "+strings.Repeat("\xff", 20000-5), "error 55 at 0\n", 0, api.OK)
	wantRun(t, strings.Repeat("\x00", 20000), "", 1, api.ErrSessionLine)
	wantRun(t, strings.Repeat("\x00", 20001), "", 0, api.ErrSessionLong)
	wantRun(t, strings.Repeat("é", 10000), "", 1, api.ErrSessionLine)
	wantRun(t, strings.Repeat("é", 10001), "", 0, api.ErrSessionLong)
	wantRun(t, strings.Repeat("x", 1<<24), "", 0, api.ErrSessionLong)
	wantRun(t, strings.Repeat("\n", 1<<24), "", 0, api.ErrSessionLong)
}

// A script of just as many lines as may be, and one more: nothing behind a newline at the end is a line.
func TestLines(t *testing.T) {
	ok := func(many int) string { return strings.Repeat("1 1\nend 1\n", many) }
	wantRun(t, "", "", 0, api.OK)
	for _, n := range []int{1, 2, 199, 200} {
		wantRun(t, strings.Repeat("\n", n), "", 0, api.OK)
		wantRun(t, strings.Repeat("#\n", n), "", 0, api.OK)
		wantRun(t, strings.Repeat("#\n", n-1)+"#", "", 0, api.OK)
		wantRun(t, strings.Repeat("basis 1 = 1\n", n), ok(n), 0, api.OK)
		wantRun(t, strings.Repeat("basis 1 = 1\n", n-1)+"basis 1 = 1", ok(n), 0, api.OK)
		wantRun(t, strings.Repeat("basis 1 = 1\n", n-1)+"x\n", ok(n-1), n, api.ErrSessionLine)
		wantRun(t, strings.Repeat("basis 1 = 1\n", n-1)+"x", ok(n-1), n, api.ErrSessionLine)
		wantRun(t, strings.Repeat("\n", n-1)+" ", "", n, api.ErrSessionLine)
	}
	for _, n := range []int{201, 202, 1000, 10000} {
		for _, line := range []string{"", "#", "x"} {
			wantRun(t, strings.Repeat(line+"\n", n), "", 0, api.ErrSessionLong)
			wantRun(t, strings.Repeat(line+"\n", n-1)+"x", "", 0, api.ErrSessionLong)
		}
	}
	wantRun(t, strings.Repeat("basis 1 = 1\n", 200)+"\n", "", 0, api.ErrSessionLong)
	wantRun(t, strings.Repeat("basis 1 = 1\n", 200)+"#", "", 0, api.ErrSessionLong)
	wantRun(t, "what\n"+strings.Repeat("\n", 199), "", 1, api.ErrSessionLine)
	wantRun(t, "what\n"+strings.Repeat("\n", 200), "", 0, api.ErrSessionLong)
}

// Lines that are empty, or begin with #, are right, and tell nothing; they are counted.
func TestEmptyLinesAndRemarks(t *testing.T) {
	for _, nothing := range []string{"", "#", "##", "# ", "#show 0", "# free a 0", "#\x00\xff", "#  two  blanks  ", "#\r", "#\ttab", "#=", "# é"} {
		wantRun(t, nothing, "", 0, api.OK)
		wantRun(t, nothing+"\n", "", 0, api.OK)
		want(t, lines(nothing, "free a 0", nothing, nothing, "term a", nothing), "ok\nterm 0\n")
		wantWrong(t, lines(nothing, nothing, "free a 0", nothing, "what", nothing), "ok\n", 5)
	}
	for _, no := range []string{" ", "  ", " #", " # free a 0", "\t", "\t#", "\r", "\x00", "\xff", "-", "\v", "\u00a0", "\u2028"} {
		wantWrong(t, no, "", 1)
		wantWrong(t, lines("", "#", no), "", 3)
		wantWrong(t, lines("free a 0", no), "ok\n", 2)
	}
}

// right is a right line of each row, and what it tells behind ready.
func right() []struct{ line, told string } {
	return []struct{ line, told string }{
		{"free c 3", "ok\n"},
		{"ac or", "ok\n"},
		{"acu and zero", "ok\n"},
		{"term g(b)", "term 3\n"},
		{"show 0", "plus(b,times(one,X),a)\n"},
		{"canon 0", "plus(X,a,b)\n"},
		{"size 0", "6\n"},
		{"vars 0", "X\n"},
		{"equal 0 1", "no\n"},
		{"way 0 0", "yes\n"},
		{"unify 1 2", "0: Y -> X\nend 1\n"},
		{"match 1 2", "0: X -> Y\nend 1\n"},
		{"minimise", "0: Y -> X\nend 1\n"},
		{"proofs", "holds 1\n"},
		{"apply 0 2", "plus(X,a)\n"},
		{"instance 0 0", "yes\n"},
		{"basis 2 1 = 3", "0 3 1\n1 1 1\n3 0 2\nend 3\n"},
	}
}

// ready is a script behind which each row has something to do, and what it tells.
const ready = declared + "term plus(b,times(one,X),a)\nterm plus(X,a)\nterm plus(a,Y)\nunify 1 2\n"

var readyTold = oks + "term 0\nterm 1\nterm 2\n0: Y -> X\nend 1\n"

func TestEachRow(t *testing.T) {
	if n := len(forms); n != 17 || len(right()) != n {
		t.Errorf("%d rows", n)
	}
	for _, x := range right() {
		want(t, ready+x.line+"\n", readyTold+x.told)
	}
}

// Blanks at a line's start, at its end and doubled: words are none empty. Of term what stands behind one blank is its text, whatever it is.
func TestBlanks(t *testing.T) {
	for _, x := range right() {
		first, rest, more := strings.Cut(x.line, " ")
		wantWrong(t, ready+" "+x.line, readyTold, 15)
		wantWrong(t, ready+"  "+x.line, readyTold, 15)
		if first == "term" {
			continue
		}
		wantWrong(t, ready+x.line+" ", readyTold, 15)
		wantWrong(t, ready+x.line+"  ", readyTold, 15)
		if more {
			wantWrong(t, ready+first+"  "+rest, readyTold, 15)
			wantWrong(t, ready+first+" ", readyTold, 15)
			words := strings.Split(x.line, " ")
			for i := 1; i < len(words); i++ {
				wantWrong(t, ready+strings.Join(words[:i], " ")+"  "+strings.Join(words[i:], " "), readyTold, 15)
			}
		}
		for _, sign := range []string{"\t", "\r", "\x00", "\v", "\u00a0", "\xff"} {
			if strings.HasPrefix(first, "ac") || first == "free" {
				break
			}
			wantWrong(t, ready+x.line+sign, readyTold, 15)
			wantWrong(t, ready+sign+x.line, readyTold, 15)
			wantWrong(t, ready+strings.ReplaceAll(x.line, " ", sign)+sign, readyTold, 15)
		}
	}
	want(t, ready+"term  g(b)\nshow 3\n", readyTold+"term 3\ng(b)\n")
	want(t, ready+"term g(b) \nshow 3\n", readyTold+"term 3\ng(b)\n")
	want(t, ready+"term   g(  b )  \nshow 3\n", readyTold+"term 3\ng(b)\n")
}

// Rows with a word too few and a word too many.
func TestWordsTooFewAndTooMany(t *testing.T) {
	for _, x := range right() {
		words := strings.Split(x.line, " ")
		if words[0] == "term" {
			continue
		}
		for i := 1; i < len(words) && words[0] != "basis"; i++ {
			wantWrong(t, ready+strings.Join(words[:i], " "), readyTold, 15)
			wantWrong(t, ready+words[0]+strings.Repeat(" ", i), readyTold, 15)
		}
		for _, more := range []string{"0", "1", "a", "=", "-", "#", "# 0", "0 0"} {
			if words[0] != "basis" {
				wantWrong(t, ready+x.line+" "+more, readyTold, 15)
			}
		}
	}
	for _, line := range []string{"basis", "basis 1", "basis 1 2", "basis = =", "basis 1 = 2 = 3", "basis 1 = 2 =", "basis = 1 =", "basis == 1", "basis 1 == 1", "basis 1=1", "basis 1 -> 1", "basis a = 1", "basis 1 = a", "basis 1 a = 1", "basis 1 = 1 a", "basis 1 = 1 #", "basis 1 = -", "basis 1, 1 = 2", "basis 1.0 = 1", "basis =1", "basis 1 =1"} {
		wantWrong(t, ready+line, readyTold, 15)
	}
	for _, line := range []string{"free", "free c", "free 0", "free c c", "free c 0 0", "free 0 c", "ac", "ac or or", "ac or 2", "acu", "acu and", "acu and zero 2", "acu and zero one"} {
		wantWrong(t, ready+line, readyTold, 15)
	}
}

// What begins no row, however like it is.
func TestOtherWords(t *testing.T) {
	for _, line := range []string{"what", "Show 0", "SHOW 0", "shows 0", "sho 0", "show0", "show-1", "0", "1 2", "=", "a", "free,a 0", "terms a", "term(a)", "term\ta", "terma", "list", "minimize", "proof", "apply", "end 0", "ok", "yes", "error 1", "NAME", "N", "TEXT", "N..", "TERM", "MEMBER", "show TERM", "apply MEMBER TERM", "free NAME N", "\xffshow 0", "show\x00 0", "échange", "\u200bshow 0"} {
		wantWrong(t, line, "", 1)
		wantWrong(t, ready+line, readyTold, 15)
	}
}

// numbers are words, and whether they are numbers.
func numbers() map[string]bool {
	all := map[string]bool{
		"0": true, "1": true, "9": true, "10": true, "-1": true, "-9": true, "-10": true, "99999": true, "100000": true, "123456": true, "999999": true, "-100000": true, "-999999": true,
		"-0": false, "00": false, "01": false, "-00": false, "-01": false, "000000": false, "012345": false, "1000000": false, "1234567": false, "-1000000": false, "0000001": false,
		"": false, "-": false, "--1": false, "+1": false, "+0": false, "1-": false, "1-1": false, "1.0": false, "1e3": false, "0x1": false, "1_0": false, "a": false, "1a": false, "a1": false, "#": false, "=": false,
		"\x00": false, "1\x00": false, "\xff": false, "1\xff": false, "٣": false, "1٣": false, "１": false, "−1": false, "1\r": false, "1\t": false, "1,": false, "1/": false, "1:": false, "/": false, ":": false,
	}
	all[strings.Repeat("1", 1000)] = false
	all["-"+strings.Repeat("9", 5000)] = false
	return all
}

// Numbers as they may be written, and as they may not, wherever a row asks for one. Those that may be say a term that there is not.
func TestNumbers(t *testing.T) {
	for word, is := range numbers() {
		n, _ := strconv.Atoi(word)
		for _, form := range []string{"show %", "canon %", "size %", "vars %", "equal % 0", "equal 0 %", "way 1 %", "way % %", "unify % 7", "unify 7 %", "match 0 %", "apply 0 %", "apply % 0", "instance % 1", "instance 0 %"} {
			line := strings.ReplaceAll(form, "%", word)
			if !is {
				wantWrong(t, line, "", 1)
				wantWrong(t, ready+line, readyTold, 15)
				continue
			}
			want(t, line+"\n", "error 1\n")
			if n < 0 || n > 2 {
				want(t, ready+line+"\n", readyTold+"error 1\n")
			}
		}
		for _, form := range []string{"basis % = 1", "basis = %", "basis % 1 =", "basis 1 = 1 %", "basis 1 1 1 1 1 1 = %", "free h %"} {
			line := strings.ReplaceAll(form, "%", word)
			if !is {
				wantWrong(t, line, "", 1)
			} else if told, no, e := again(line); no != 0 || e != api.OK {
				t.Errorf("%s: %s, %d, %d", line, told, no, e)
			} else {
				want(t, line+"\n", told)
			}
		}
	}
}

// Names are words of any bytes: what may not be a symbol's is told as an error, but the line is right.
func TestNames(t *testing.T) {
	for _, name := range []string{"A", "X", "aB", "1", "0", "-1", "=", "#", "->", "(", "a(", "a,", "_1", "é", "a\x00", "\x00", "\xff", "a\xff", "a\t", "\r", "a\r", "\u00a0", "abcdefghijklm", strings.Repeat("a", 5000)} {
		want(t, "free "+name+" 0\nac "+name+"\nacu "+name+" one\n", "error 11\nerror 11\nerror 11\n")
		want(t, "free a 0\nacu b "+name+"\nterm b(a,a)\n", "ok\nerror 14\nerror 53 at 0\n")
	}
	for _, name := range []string{"a", "z", "a0", "z9", "abcdefghijkl", "free", "ac", "acu", "term", "minimise", "basis", "ok"} {
		want(t, "free "+name+" 0\nterm "+name+"\nshow 0\nacu b1 "+name+"\nfree "+name+" 0\n", "ok\nterm 0\n"+name+"\nok\nerror 11\n")
	}
}

// The word term alone, and with any bytes behind it.
func TestTexts(t *testing.T) {
	for _, x := range []struct{ line, told string }{
		{"term", "error 51 at 0\n"},
		{"term ", "error 51 at 0\n"},
		{"term  ", "error 51 at 1\n"},
		{"term     ", "error 51 at 4\n"},
		{"term X", "term 0\n"},
		{"term  X", "term 0\n"},
		{"term X ", "term 0\n"},
		{"term plus( X , a )", "term 0\n"},
		{"term \tX", "error 21 at 0\n"},
		{"term X\r", "error 21 at 1\n"},
		{"term #", "error 21 at 0\n"},
		{"term # X", "error 21 at 0\n"},
		{"term \x00", "error 21 at 0\n"},
		{"term X\xff", "error 21 at 1\n"},
		{"term é", "error 21 at 0\n"},
		{"term 0", "error 21 at 0\n"},
		{"term -", "error 21 at 0\n"},
		{"term _0", "error 21 at 0\n"},
		{"term _1", "term 0\n"},
		{"term term", "error 53 at 0\n"},
		{"term term X", "error 53 at 0\n"},
		{"term show 0", "error 53 at 0\n"},
		{"term X Y", "error 54 at 2\n"},
		{"term X = Y", "error 54 at 2\n"},
		{"term X -> a", "error 54 at 2\n"},
	} {
		want(t, declared+x.line+"\n", oks+x.told)
	}
	want(t, declared+"term X\nshow 0\nterm  Y \nshow 1\nterm plus( X ,a)\nshow 2\n", oks+"term 0\nX\nterm 1\nY\nterm 2\nplus(X,a)\n")
	for _, line := range []string{"term\tX", "term\x00", "term\r", "terms", "termX", "term=X", "\tterm X"} {
		wantWrong(t, declared+line, oks, 11)
	}
}
