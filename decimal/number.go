package decimal

import "diptych/api"

// A word has nine digits. A number has room for twice the words of a decimal, on both sides of the point, so that
// every product of two decimals and every sum of fewer than 10^49 of them fits.
const (
	wordDigits  = 9
	wordLimit   = 1_000_000_000
	wordsAhead  = 2 * ((api.MaxDigits + wordDigits - 1) / wordDigits)
	wordsBehind = 2 * ((api.MaxScale + wordDigits - 1) / wordDigits)
	allWords    = wordsAhead + wordsBehind
	allDigits   = allWords * wordDigits
	unitPlace   = wordsBehind * wordDigits

	// The words of a decimal: from the lowest one to one behind the highest.
	firstWord = wordsBehind / 2
	endWord   = wordsBehind + wordsAhead/2
)

// number is a sign and an amount, its lowest word first. A nought may have either sign, but what parse tells has none.
type number struct {
	negative bool
	words    [allWords]uint32
}

func parse(a string) (number, bool) {
	if !Check(a) {
		return number{}, false
	}
	negative, ahead, behind, _ := split(a)
	n := number{negative: negative}
	for i := range len(ahead) {
		n.put(unitPlace+len(ahead)-1-i, ahead[i])
	}
	for i := range len(behind) {
		n.put(unitPlace-1-i, behind[i])
	}
	return n, true
}

func parseBoth(a, b string) (x, y number, ok bool) {
	x, ok = parse(a)
	if !ok {
		return number{}, number{}, false
	}
	y, ok = parse(b)
	if !ok {
		return number{}, number{}, false
	}
	return x, y, true
}

func (n number) text() (string, api.Errno) {
	var digits [allDigits]byte
	for place := range allDigits {
		digits[allDigits-1-place] = n.digit(place)
	}
	point := allDigits - unitPlace
	return write(n.negative, string(digits[:point]), string(digits[point:]))
}

// put lays a digit at a place that has none yet; places count from the lowest one on.
func (n *number) put(place int, digit byte) {
	n.words[place/wordDigits] += uint32(digit-'0') * powerOfTen(place%wordDigits)
}

// digit tells the digit at a place; below the lowest one there are noughts.
func (n number) digit(place int) byte {
	if place < 0 {
		return '0'
	}
	return '0' + byte(n.words[place/wordDigits]/powerOfTen(place%wordDigits)%10)
}

func powerOfTen(exponent int) uint32 {
	powers := [wordDigits]uint32{1, 10, 100, 1_000, 10_000, 100_000, 1_000_000, 10_000_000, 100_000_000}
	return powers[exponent]
}

// push moves all digits one place up and lays one more below them.
func (n *number) push(digit byte) {
	carry := uint64(digit - '0')
	for i := range n.words {
		moved := uint64(n.words[i])*10 + carry
		n.words[i], carry = uint32(moved%wordLimit), moved/wordLimit
	}
}

func (n number) isZero() bool {
	return n.words == [allWords]uint32{}
}

func (n number) opposite() number {
	n.negative = !n.negative
	return n
}

// compareAmount is Compare without signs.
func (n number) compareAmount(m number) int {
	for i := allWords - 1; i >= 0; i-- {
		if n.words[i] < m.words[i] {
			return -1
		}
		if n.words[i] > m.words[i] {
			return 1
		}
	}
	return 0
}

func (n number) compare(m number) int {
	switch {
	case n.negative && !m.negative:
		return -1
	case m.negative && !n.negative:
		return 1
	case n.negative:
		return m.compareAmount(n)
	}
	return n.compareAmount(m)
}

func (n number) plus(m number) number {
	if n.negative == m.negative {
		n.addAmount(m)
		return n
	}
	if n.compareAmount(m) < 0 {
		n, m = m, n
	}
	n.takeAmount(m)
	return n
}

func (n number) minus(m number) number {
	return n.plus(m.opposite())
}

func (n *number) addAmount(m number) {
	carry := uint32(0)
	for i := range n.words {
		sum := n.words[i] + m.words[i] + carry
		n.words[i], carry = sum%wordLimit, sum/wordLimit
	}
}

// takeAmount takes an amount away that is not above n's.
func (n *number) takeAmount(m number) {
	borrow := uint32(0)
	for i := range n.words {
		left := wordLimit + n.words[i] - m.words[i] - borrow
		n.words[i], borrow = left%wordLimit, 1-left/wordLimit
	}
}

// times multiplies two numbers that parse has told.
func (n number) times(m number) number {
	product := number{negative: n.negative != m.negative}
	for i := firstWord; i < endWord; i++ {
		carry := uint64(0)
		for j := firstWord; j < endWord; j++ {
			at := i + j - wordsBehind
			sum := uint64(n.words[i])*uint64(m.words[j]) + uint64(product.words[at]) + carry
			product.words[at], carry = uint32(sum%wordLimit), sum/wordLimit
		}
		product.words[i+endWord-wordsBehind] = uint32(carry)
	}
	return product
}

// over divides the amounts of two numbers that parse has told, the second of which is not 0, and tells the quotient's
// digits ahead of the point and MaxScale behind it. Both amounts have the point at one place, so it falls out.
func (n number) over(m number) (ahead, behind string) {
	var rest number
	quotient := make([]byte, 0, allDigits+api.MaxScale)
nextDigit:
	for place := allDigits - 1; place >= -api.MaxScale; place-- {
		rest.push(n.digit(place))
		for digit := byte('0'); ; digit++ {
			if rest.compareAmount(m) < 0 {
				quotient = append(quotient, digit)
				continue nextDigit
			}
			rest.takeAmount(m)
		}
	}
	return string(quotient[:allDigits]), string(quotient[allDigits:])
}
