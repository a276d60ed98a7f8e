package account_test

import (
	"fmt"
	"math"
	"math/rand"
	"testing"

	"fiacre/account"
	"fiacre/api"
)

// TestFormatEntry is of P8.7: the text of an entry, whatever it is.
func TestFormatEntry(t *testing.T) {
	for _, x := range []struct {
		e      api.AccountEntry
		wanted string
	}{
		{paid(), "12 trip1 cash=600 vouchers=500 owner=-501 ann=-400 office=-100 ann=-99"},
		{entry(100000, line("a", 0)), "100000 n a=0"},
		{entry(0), "0 n"},
		{api.AccountEntry{}, "0 "},
		{api.AccountEntry{Date: math.MinInt, Note: "a b\n\xff", Lines: []api.AccountLine{line("", math.MaxInt), line("= ", math.MinInt)}}, "-9223372036854775808 a b\n\xff =9223372036854775807 = =-9223372036854775808"},
	} {
		if s := account.FormatEntry(x.e); s != x.wanted {
			t.Errorf("the text of %v is %q, want %q", x.e, s, x.wanted)
		}
	}
}

// TestParseEntry is of P8.7: texts of entries, of which nothing is asked but the form.
func TestParseEntry(t *testing.T) {
	for s, wanted := range map[string]api.AccountEntry{
		"12 trip1 cash=600 vouchers=500 owner=-501 ann=-400 office=-100 ann=-99": paid(),
		"0 n":                         entry(0),
		"-5 n a=0":                    entry(-5, line("a", 0)),
		"999999999999999 n a=1":       entry(999999999999999, line("a", 1)),
		"-999999999999999 n a=1":      entry(-999999999999999, line("a", 1)),
		"1 n a=-999999999999999":      entry(1, line("a", -999999999999999)),
		"1 n a=999999999999999":       entry(1, line("a", 999999999999999)),
		"1 a=b a=5":                   {Date: 1, Note: "a=b", Lines: []api.AccountLine{line("a", 5)}},
		"1 = a=5":                     {Date: 1, Note: "=", Lines: []api.AccountLine{line("a", 5)}},
		"1 7\n\t\xff \n=5 -=6 \xff=7": {Date: 1, Note: "7\n\t\xff", Lines: []api.AccountLine{line("\n", 5), line("-", 6), line("\xff", 7)}},
		"1 n abcdefghijklm=5":         entry(1, line("abcdefghijklm", 5)),
	} {
		gives(t, fmt.Sprintf("%q", s), wanted)(account.ParseEntry(s))
	}
}

// TestParseEntryErrors is of P8.7: texts that are no entries.
func TestParseEntryErrors(t *testing.T) {
	for _, s := range []string{
		"", " ", "  ", "1", "1 ", " 1", " 1 n", " n", "n", "n 1", "x n a=5",
		"1 n ", "1  n", "1  a=5", "1 n  a=5", "1 n a=5 ", "1 n a=5  b=6", " 1 n a=5",
		"1\tn", "1\nn", "1\n n", "01 n", "+1 n", "-0 n", "00 n", "1.0 n", "1e3 n", "- n",
		"1000000000000000 n", "-1000000000000000 n", "99999999999999999999 n",
		"1 n a", "1 n a=", "1 n =5", "1 n =", "1 n a=b", "1 n a=5=6", "1 n a==5", "1 n a=b=5", "1 n ==5", "1 n =a=5",
		"1 n a=05", "1 n a=+5", "1 n a=-0", "1 n a=5\n", "1 n a=\t5", "1 n a= 5", "1 n a =5", "1 n a=-",
		"1 n a=1000000000000000", "1 n a=-1000000000000000", "1 n a=5 b", "1 n a=5 b=x", "1 n b a=5", "1 n a=5 =6", "1 n a=5,b=6",
		"1 n a=\xd9\xa1", "\xd9\xa1 n",
	} {
		fails(t, fmt.Sprintf("%q", s), api.ErrSyntax)(account.ParseEntry(s))
	}
}

// TestParseUndoesFormat is of P8.14: a right entry is read from its text.
func TestParseUndoesFormat(t *testing.T) {
	r := rand.New(rand.NewSource(91))
	for range 2000 {
		e := anyEntry(r, many(20), r.Intn(100001))
		e.Note = []string{"n", "trip-1", "A", "abcdefghij-2"}[r.Intn(4)]
		gives(t, "ParseEntry", e)(account.ParseEntry(account.FormatEntry(e)))
	}
}

// TestFormatUndoesParse is of P8.7: whatever is read as an entry is its text.
func TestFormatUndoesParse(t *testing.T) {
	r := rand.New(rand.NewSource(92))
	read := 0
	for range 20000 {
		s := scribbled(r, "12 n a=10 b=-10")
		if e, code := account.ParseEntry(s); code == api.OK {
			read++
			if got := account.FormatEntry(e); got != s {
				t.Errorf("%q is read as the entry of %q", s, got)
			}
		}
	}
	if read < 2000 {
		t.Errorf("too few texts are read: %d", read)
	}
}

// scribbled returns a text in which a few bytes are changed.
func scribbled(r *rand.Rand, s string) string {
	b := []byte(s)
	for range r.Intn(4) {
		b[r.Intn(len(b))] = "01 29-ab=+\xff\t"[r.Intn(12)]
	}
	return string(b)
}
