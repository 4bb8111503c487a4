// Package decimal: exact decimals as texts: see ../../shared/doc/01-decimal.md.
package decimal

import (
	"strconv"
	"strings"

	"diptych/api"
)

// Check tells whether a is a decimal: those are the texts that Read leaves as they are.
func Check(a string) bool {
	text, err := Read(a)
	return err == api.OK && text == a
}

// Read tells the number that s says as a decimal.
func Read(s string) (string, api.Errno) {
	negative, ahead, behind, ok := split(s)
	if !ok {
		return "", api.ErrForm
	}
	return write(negative, ahead, behind)
}

// OfInt tells n as a decimal.
func OfInt(n int64) string {
	return strconv.FormatInt(n, 10) + ".0"
}

// ToInt tells the whole number that a is.
func ToInt(a string) (int64, bool) {
	if !Check(a) {
		return 0, false
	}
	// Behind the point of a decimal a nought stands last only where it stands alone.
	whole, ok := strings.CutSuffix(a, ".0")
	if !ok {
		return 0, false
	}
	n, err := strconv.ParseInt(whole, 10, 64)
	if err != nil {
		return 0, false
	}
	return n, true
}

// Compare tells -1, 0 or 1, as a is below b, equal to it or above it.
func Compare(a, b string) int {
	x, y, ok := parseBoth(a, b)
	if !ok {
		return 0
	}
	return x.compare(y)
}

// Add tells the sum.
func Add(a, b string) (string, api.Errno) {
	return reckon(a, b, number.plus)
}

// Sub tells what is left of a without b.
func Sub(a, b string) (string, api.Errno) {
	return reckon(a, b, number.minus)
}

// Mul tells the product.
func Mul(a, b string) (string, api.Errno) {
	return reckon(a, b, number.times)
}

// Div tells the quotient, cut behind MaxScale digits.
func Div(a, b string) (string, api.Errno) {
	x, y, ok := parseBoth(a, b)
	if !ok {
		return "", api.ErrArg
	}
	if y.isZero() {
		return "", api.ErrZero
	}
	ahead, behind := x.over(y)
	return write(x.negative != y.negative, ahead, behind)
}

// Neg tells a with the other sign.
func Neg(a string) (string, api.Errno) {
	x, ok := parse(a)
	if !ok {
		return "", api.ErrArg
	}
	return x.opposite().text()
}

// Sum tells the sum of all of l.
func Sum(l []string) (string, api.Errno) {
	var total number
	for _, a := range l {
		x, ok := parse(a)
		if !ok {
			return "", api.ErrArg
		}
		total = total.plus(x)
	}
	return total.text()
}

func reckon(a, b string, operation func(x, y number) number) (string, api.Errno) {
	x, y, ok := parseBoth(a, b)
	if !ok {
		return "", api.ErrArg
	}
	return operation(x, y).text()
}
