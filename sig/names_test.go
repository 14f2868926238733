package sig_test

import (
	"strings"
	"testing"

	"amalgam/sig"
)

const (
	smalls = "abcdefghijklmnopqrstuvwxyz"
	greats = "ABCDEFGHIJKLMNOPQRSTUVWXYZ"
	digits = "0123456789"
)

func oneOf(b byte, set string) bool { return strings.IndexByte(set, b) >= 0 }

func TestNameTable(t *testing.T) {
	for _, c := range []struct {
		s    string
		want bool
	}{
		{"f", true}, {"f2", true}, {"plus", true}, {"a0", true}, {"z9z9", true},
		{"", false}, {"F", false}, {"2f", false}, {"2", false}, {"_", false}, {"_1", false},
		{"fX", false}, {"f_1", false}, {"f g", false}, {" f", false}, {"f ", false}, {"f\n", false}, {"f\x00", false},
		{"a", true}, {strings.Repeat("a", 12), true}, {strings.Repeat("a", 13), false},
		{"a" + strings.Repeat("9", 11), true}, {"a" + strings.Repeat("9", 12), false},
		{strings.Repeat("a", 11) + "A", false}, {strings.Repeat("a", 1<<20), false},
		{"é", false}, {"aé", false}, {"a\xff", false}, {"\xff", false}, {"a\xc3", false}, {"a\ufffd", false},
		{"\u0161", false}, {"a\u0161", false}, {"a\u0661", false}, {"a\uff11", false}, {"ſ", false}, {"ß", false},
	} {
		if got := sig.Name(c.s); got != c.want {
			t.Errorf("Name(%q) = %v", c.s, got)
		}
	}
}

func TestNameEveryByte(t *testing.T) {
	for b := 0; b < 256; b++ {
		first, next := oneOf(byte(b), smalls), oneOf(byte(b), smalls+digits)
		one := string([]byte{byte(b)})
		for _, c := range []struct {
			s    string
			want bool
		}{
			{one, first}, {one + "b2", first}, {"a" + one, next}, {"a" + one + "b", next},
			{"abcdefghijk" + one, next}, {"abcdefghijkl" + one, false},
		} {
			if got := sig.Name(c.s); got != c.want {
				t.Errorf("Name(%q) = %v", c.s, got)
			}
		}
	}
}

func TestVarTable(t *testing.T) {
	for _, c := range []struct {
		s    string
		want bool
	}{
		{"X", true}, {"Xy2", true}, {"XY", true}, {"X0", true}, {"_1", true}, {"_9", true}, {"_10", true}, {"_12345", true},
		{"", false}, {"x", false}, {"xY", false}, {"1X", false}, {"1", false}, {"_", false},
		{"_0", false}, {"_01", false}, {"_00", false}, {"__1", false}, {"_X", false}, {"_x", false}, {"_1x", false}, {"_1X", false}, {"_1_", false},
		{"_-1", false}, {"_+1", false}, {"_ 1", false}, {"_1 ", false}, {" _1", false},
		{"X_", false}, {"X_1", false}, {"X y", false}, {" X", false}, {"X ", false}, {"X\x00", false},
		{strings.Repeat("X", 12), true}, {strings.Repeat("X", 13), false},
		{"X" + strings.Repeat("a", 11), true}, {"X" + strings.Repeat("a", 12), false},
		{"_" + strings.Repeat("1", 11), true}, {"_" + strings.Repeat("1", 12), false},
		{strings.Repeat("X", 1<<20), false}, {"_" + strings.Repeat("9", 1<<20), false},
		{"É", false}, {"XÉ", false}, {"X\xff", false}, {"\xff", false}, {"X\ufffd", false},
		{"\u0141", false}, {"X\u0141", false}, {"X\u0161", false}, {"_\u0661", false}, {"_1\uff11", false}, {"_\xff", false}, {"_\u0131", false},
	} {
		if got := sig.Var(c.s); got != c.want {
			t.Errorf("Var(%q) = %v", c.s, got)
		}
	}
}

func TestVarEveryByte(t *testing.T) {
	for b := 0; b < 256; b++ {
		first, next := oneOf(byte(b), greats), oneOf(byte(b), greats+smalls+digits)
		figure, lead := oneOf(byte(b), digits), oneOf(byte(b), "123456789")
		one := string([]byte{byte(b)})
		for _, c := range []struct {
			s    string
			want bool
		}{
			{one, first}, {one + "aB2", first}, {one + "1", first || b == '_'}, {one + "0", first},
			{"X" + one, next}, {"X" + one + "b", next}, {"ABCDefghijk" + one, next}, {"ABCDefghijkl" + one, false},
			{"_" + one, lead}, {"_" + one + "0", lead}, {"_1" + one, figure}, {"_1234567890" + one, figure}, {"_12345678901" + one, false},
		} {
			if got := sig.Var(c.s); got != c.want {
				t.Errorf("Var(%q) = %v", c.s, got)
			}
		}
	}
}

func TestNoNameIsAVariable(t *testing.T) {
	for b := 0; b < 256; b++ {
		for c := 0; c < 256; c++ {
			if s := string([]byte{byte(b), byte(c)}); sig.Name(s) && sig.Var(s) {
				t.Errorf("%q is both", s)
			}
		}
	}
}
