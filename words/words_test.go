package words_test

import (
	"fmt"
	"testing"

	"fiacre/api"
	"fiacre/words"
)

func TestIsName(t *testing.T) {
	for _, s := range []string{"a", "Z", "a-", "car-7", "abcdefghij-2"} {
		if !words.IsName(s) {
			t.Errorf("%q is a name", s)
		}
	}
	for _, s := range []string{"", "-a", "7a", "a b", "a_b", "a,b", "abcdefghijklm", "\xe4", "a\xe4", "a\n", "@", "[", "`", "{", "a/", "a:"} {
		if words.IsName(s) {
			t.Errorf("%q is no name", s)
		}
	}
}

func TestErrorOfName(t *testing.T) {
	names := []string{"a", "b", "7", "a", "A"}
	for i, wanted := range []api.Errno{api.OK, api.OK, api.ErrName, api.ErrExists, api.OK} {
		if e := words.ErrorOfName(i, func(j int) string { return names[j] }); e != wanted {
			t.Errorf("%d: error %d, want %d", i, e, wanted)
		}
	}
}

func TestNumber(t *testing.T) {
	for s, wanted := range map[string]int{"0": 0, "7": 7, "-7": -7, "123": 123, "-123": -123} {
		if n, ok := words.Number(s, 3); n != wanted || !ok {
			t.Errorf("%q: %d, %t", s, n, ok)
		}
	}
	for _, s := range []string{"", "-", "+1", "01", "-01", "-0", "00", "1234", "-1234", "--1", "1_0", "0x1", "1 ", " 1", "1e1", "\xd9\xa1"} {
		if n, ok := words.Number(s, 3); n != 0 || ok {
			t.Errorf("%q: %d, %t", s, n, ok)
		}
	}
	if n, ok := words.Number("99999999999999999999", 30); n != 0 || ok {
		t.Errorf("more than an int: %d, %t", n, ok)
	}
}

func TestNumbers(t *testing.T) {
	for s, wanted := range map[string][]int{"5": {5}, "0,-3,99": {0, -3, 99}} {
		l, ok := words.Numbers(s, 2)
		if fmt.Sprint(l) != fmt.Sprint(wanted) || !ok {
			t.Errorf("%q: %v, %t", s, l, ok)
		}
	}
	for _, s := range []string{"", ",", "1,", ",1", "1,,2", "1, 2", "1,100", "-"} {
		if l, ok := words.Numbers(s, 2); l != nil || ok {
			t.Errorf("%q: %v, %t", s, l, ok)
		}
	}
}

func TestJoined(t *testing.T) {
	if s := words.Joined(",", 1, -2, 0) + words.Joined("", 3, 4) + words.Joined(" "); s != "1,-2,034" {
		t.Error(s)
	}
}
