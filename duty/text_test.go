package duty_test

import (
	"fmt"
	"math"
	"math/rand"
	"testing"

	"fiacre/api"
	"fiacre/duty"
)

// TestFormatRecord is of P7.8: the text of a record, whatever it is.
func TestFormatRecord(t *testing.T) {
	for _, x := range []struct {
		record api.DutyRecord
		wanted string
	}{
		{api.DutyRecord{Driver: "ann", From: 0, To: 10000}, "ann 0 10000"},
		{api.DutyRecord{Driver: "a-1", From: 8639999999, To: 8640000000}, "a-1 8639999999 8640000000"},
		{api.DutyRecord{}, " 0 0"},
		{api.DutyRecord{Driver: "a b\n\xff", From: -5, To: math.MaxInt}, "a b\n\xff -5 9223372036854775807"},
		{api.DutyRecord{Driver: "7", From: math.MinInt, To: -0}, "7 -9223372036854775808 0"},
	} {
		if s := duty.FormatRecord(x.record); s != x.wanted {
			t.Errorf("the text of %v is %q, want %q", x.record, s, x.wanted)
		}
	}
}

// TestParseRecord is of P7.8: texts that are no records, and which error comes first.
func TestParseRecord(t *testing.T) {
	gives(t, "the record of the examples", api.DutyRecord{Driver: "ann", From: 0, To: 10000})(duty.ParseRecord("ann 0 10000"))
	gives(t, "the last second", api.DutyRecord{Driver: "Z-9", From: 8639999999, To: 8640000000})(duty.ParseRecord("Z-9 8639999999 8640000000"))
	for s, wanted := range map[string]api.Errno{
		"":                     api.ErrSyntax,
		" ":                    api.ErrSyntax,
		"  ":                   api.ErrSyntax,
		"ann":                  api.ErrSyntax,
		"ann 0":                api.ErrSyntax,
		"ann 0 ":               api.ErrSyntax,
		"ann 0 1 ":             api.ErrSyntax,
		"ann 0 1 2":            api.ErrSyntax,
		" ann 0 1":             api.ErrSyntax,
		" 0 1":                 api.ErrSyntax,
		"ann  0 1":             api.ErrSyntax,
		"ann 0  1":             api.ErrSyntax,
		"ann\t0 1":             api.ErrSyntax,
		"ann 0\t1":             api.ErrSyntax,
		"ann 0 1\n":            api.ErrSyntax,
		"ann x 1":              api.ErrSyntax,
		"ann 0 x":              api.ErrSyntax,
		"ann 00 1":             api.ErrSyntax,
		"ann 0 01":             api.ErrSyntax,
		"ann +0 1":             api.ErrSyntax,
		"ann 0 +1":             api.ErrSyntax,
		"ann -0 1":             api.ErrSyntax,
		"ann 0 1.0":            api.ErrSyntax,
		"ann 0 100000000000":   api.ErrSyntax,
		"ann 100000000000 1":   api.ErrSyntax,
		"7 0 x":                api.ErrSyntax,
		"7 0 1":                api.ErrName,
		"a\t 0 1":              api.ErrName,
		"abcdefghijklm 0 1":    api.ErrName,
		"7 -1 99999999999":     api.ErrName,
		"ann 0 8640000001":     api.ErrRange,
		"ann 99999999999 5":    api.ErrRange,
		"ann -1 5":             api.ErrRange,
		"ann -99999999999 5":   api.ErrRange,
		"ann 5 -1":             api.ErrRange,
		"ann 5 5":              api.ErrOrder,
		"ann 6 5":              api.ErrOrder,
		"ann 8640000000 0":     api.ErrOrder,
		"ann 0 -100000000000":  api.ErrSyntax,
		"ann 0 1e3":            api.ErrSyntax,
		"ann 0 \xd9\xa1":       api.ErrSyntax,
		"ann,0,1":              api.ErrSyntax,
		"ann 0 1 ann 0 1":      api.ErrSyntax,
		"ann 0 1\r":            api.ErrSyntax,
		"ann 0 1\x00":          api.ErrSyntax,
		"\xff 0 1":             api.ErrName,
		"ann 18446744073709 1": api.ErrSyntax,
	} {
		fails(t, fmt.Sprintf("%q", s), wanted)(duty.ParseRecord(s))
	}
}

// TestParseUndoesFormat is of P7.14: a right record is read from its text.
func TestParseUndoesFormat(t *testing.T) {
	r := rand.New(rand.NewSource(83))
	for range 2000 {
		x := api.DutyRecord{Driver: []string{"a", "Ann", "a-b-c-d-e-f-", "Z9"}[r.Intn(4)]}
		x.From = r.Intn([]int{10, 100000, 8640000000}[r.Intn(3)])
		x.To = x.From + 1 + r.Intn(8640000000-x.From)
		gives(t, "ParseRecord", x)(duty.ParseRecord(duty.FormatRecord(x)))
	}
}

// TestFormatUndoesParse is of P7.8: whatever is read as a record is its text.
func TestFormatUndoesParse(t *testing.T) {
	r := rand.New(rand.NewSource(84))
	read := 0
	for range 20000 {
		s := scribbled(r, "an 10 20")
		if x, e := duty.ParseRecord(s); e == api.OK {
			read++
			if got := duty.FormatRecord(x); got != s {
				t.Errorf("%q is read as the record of %q", s, got)
			}
		}
	}
	if read < 2000 {
		t.Errorf("too few texts are read: %d", read)
	}
}

// scribbled returns a text in which a few bytes are changed.
func scribbled(r *rand.Rand, s string) string {
	b := []byte(s)
	for range r.Intn(4) {
		b[r.Intn(len(b))] = "01 29-an+\xff\t"[r.Intn(11)]
	}
	return string(b)
}
