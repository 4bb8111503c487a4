package decimal

import (
	"strings"

	"diptych/api"
)

// split parts a text of Read's form into its sign and its digits, needless noughts among them.
func split(s string) (negative bool, ahead, behind string, ok bool) {
	negative = strings.HasPrefix(s, "-")
	if negative || strings.HasPrefix(s, "+") {
		s = s[1:]
	}
	ahead, behind, point := strings.Cut(s, ".")
	if !isDigits(ahead) || point && !isDigits(behind) {
		return false, "", "", false
	}
	return negative, ahead, behind, true
}

func isDigits(s string) bool {
	for i := range len(s) {
		if s[i] < '0' || s[i] > '9' {
			return false
		}
	}
	return s != ""
}

// write tells the decimal of these digits; every decimal that the package tells is written here.
func write(negative bool, ahead, behind string) (string, api.Errno) {
	ahead = strings.TrimLeft(ahead, "0")
	behind = strings.TrimRight(behind, "0")
	if len(ahead) > api.MaxDigits || len(behind) > api.MaxScale {
		return "", api.ErrOverflow
	}
	sign := ""
	if negative && ahead+behind != "" {
		sign = "-"
	}
	return sign + orNought(ahead) + "." + orNought(behind), api.OK
}

func orNought(digits string) string {
	if digits == "" {
		return "0"
	}
	return digits
}
