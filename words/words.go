// Package words knows the words that the texts of all chapters are made of: names, numbers, and lists of numbers.
package words

import (
	"strconv"
	"strings"

	"fiacre/api"
)

// IsName tells whether s is a name.
func IsName(s string) bool {
	if len(s) < 1 || len(s) > api.MaxName || !isLetter(s[0]) {
		return false
	}
	for i := range len(s) {
		if !isLetter(s[i]) && !isDigit(s[i]) && s[i] != '-' {
			return false
		}
	}
	return true
}

// ErrorOfName returns the error of the name i in a list of names that differ.
func ErrorOfName(i int, name func(j int) string) api.Errno {
	if !IsName(name(i)) {
		return api.ErrName
	}
	for j := range i {
		if name(j) == name(i) {
			return api.ErrExists
		}
	}
	return api.OK
}

func isLetter(b byte) bool { return 'a' <= b && b <= 'z' || 'A' <= b && b <= 'Z' }

func isDigit(b byte) bool { return '0' <= b && b <= '9' }

// Number returns the number that s is, if it is one of at most so many digits.
func Number(s string, digits int) (int, bool) {
	if len(strings.TrimPrefix(s, "-")) > digits {
		return 0, false
	}
	n, err := strconv.Atoi(s)
	// Atoi also reads a plus sign, leading zeros and "-0", which no number is written with.
	if err != nil || strconv.Itoa(n) != s {
		return 0, false
	}
	return n, true
}

// Numbers returns the numbers in s with single commas between, one at least, each of at most so many digits.
func Numbers(s string, digits int) ([]int, bool) {
	var list []int
	for part := range strings.SplitSeq(s, ",") {
		n, ok := Number(part, digits)
		if !ok {
			return nil, false
		}
		list = append(list, n)
	}
	return list, true
}

// Joined returns the text of numbers with sep between.
func Joined(sep string, numbers ...int) string {
	parts := make([]string, len(numbers))
	for i, n := range numbers {
		parts[i] = strconv.Itoa(n)
	}
	return strings.Join(parts, sep)
}
