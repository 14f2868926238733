package rejoin_test

import (
	"math"
	"strconv"
	"strings"
	"testing"

	"amalgam/api"
	"amalgam/rejoin"
	"amalgam/sig"
)

func wantNumber(t *testing.T, name string, want int) {
	t.Helper()
	if n, ok := rejoin.Number(name); n != want || ok != (want > 0) {
		t.Errorf("Number of %.40q: %d, %v; want %d", name, n, ok, want)
	}
}

// numbers are those about which names have one digit more, and others.
func numbers() []int {
	l := []int{2, 3, 7, 12, 42, 120, 4096, 65536, 1 << 20, 1<<20 + 16, 12345678901, 98765432109}
	for n := 1; n <= 10000000000; n *= 10 {
		l = append(l, n, n+1, 10*n-1)
	}
	return l
}

// P14.1: the chapter's examples of Name and Number.
func TestP141ExamplesOfNames(t *testing.T) {
	for n, want := range map[int]string{1: "_1", 120: "_120", 0: ""} {
		if name := rejoin.Name(n); name != want {
			t.Errorf("Name of %d: %q", n, name)
		}
	}
	wantNumber(t, "_7", 7)
	for _, name := range []string{"_07", "X", "_"} {
		wantNumber(t, name, 0)
	}
}

func TestName(t *testing.T) {
	for _, n := range numbers() {
		if name := rejoin.Name(n); name != "_"+strconv.Itoa(n) || !sig.Var(name) {
			t.Errorf("Name of %d: %q", n, name)
		}
	}
	for n := 1; n < 20000; n++ {
		if name := rejoin.Name(n); name != "_"+strconv.Itoa(n) {
			t.Fatalf("Name of %d: %q", n, name)
		}
	}
	if name := rejoin.Name(99999999999); name != "_99999999999" || len(name) != api.MaxName {
		t.Errorf("the greatest number of eleven digits: %q", name)
	}
}

func TestNameOfOtherNumbers(t *testing.T) {
	for _, n := range []int{0, -1, -2, -7, -10, -120, -9999999999, -99999999999, math.MinInt, math.MinInt + 1, 100000000000, 100000000001, 999999999999, 1000000000000, math.MaxInt} {
		if name := rejoin.Name(n); name != "" {
			t.Errorf("Name of %d: %q", n, name)
		}
	}
}

// TestNumberOfEachName: there and back.
func TestNumberOfEachName(t *testing.T) {
	for _, n := range numbers() {
		wantNumber(t, rejoin.Name(n), n)
	}
	for n := range 20000 {
		wantNumber(t, rejoin.Name(n), n)
	}
	wantNumber(t, "_99999999999", 99999999999)
}

func TestNumberOfOtherNames(t *testing.T) {
	for _, name := range []string{
		"", "_", "_0", "_00", "_01", "_07", "_007", "_00000000001", "_09999999999",
		"_+1", "_-1", "_+0", "_-0", "_ 1", "_1 ", " _1", "_\t1", "_1\n", "_1\x00", "\x00_1",
		"_1a", "_a1", "_1a1", "_1X", "_X", "_Xa", "_0x1", "_0b1", "_0o7", "_1e3", "_1.0", "_1,0", "_1_000", "_1_", "__1", "__", "_1(", "_inf",
		"_100000000000", "_123456789012", "_999999999999", "_000000000001", "_9223372036854775807", "_9223372036854775808", "_18446744073709551617", "_-9223372036854775808",
		"X", "X1", "Xy2", "x", "1", "7", "120", "+1", "-1", "a", "A_1", "-_1", "1_", "‿1", "＿1", "_１", "_٣", "_1é", "_\xff", "\xff_1", "_²",
		strings.Repeat("_", 12), strings.Repeat("1", 12), strings.Repeat("_", 1<<20), "_" + strings.Repeat("1", 1<<20), "_" + strings.Repeat("0", 1<<20) + "1",
	} {
		wantNumber(t, name, 0)
	}
}

// TestNumberOfAllShortTexts: of texts of up to four of these bytes a number has just those that Name gives.
func TestNumberOfAllShortTexts(t *testing.T) {
	names := map[string]int{}
	for n := range 1000 {
		names[rejoin.Name(n)] = n
	}
	l := []string{""}
	met := 0
	for range 4 {
		var longer []string
		for _, x := range l {
			for _, c := range "_019+- aX" {
				name := x + string(c)
				longer = append(longer, name)
				wantNumber(t, name, names[name])
				if names[name] > 0 {
					met++
				}
			}
		}
		l = longer
	}
	if met != 2+2*3+2*3*3 {
		t.Errorf("%d names were met", met)
	}
}
