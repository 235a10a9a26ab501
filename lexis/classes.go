package lexis

// class is what a byte begins or continues. Each class is a bit, so that several of them are a sum.
type class byte

const (
	letter class = 1 << iota
	digit
	underscore
	minus
	quote
	sign
	space
	hash

	inWord = letter + digit + underscore
)

// classes has the class of each byte below 128, or 0 if it begins nothing and continues nothing.
var classes = [128]class{
	'\t': space, '\n': space, '\r': space, ' ': space,
	'_': underscore, '-': minus, '"': quote, '#': hash,
	'{': sign, '}': sign, '(': sign, ')': sign, '[': sign, ']': sign,
	';': sign, ',': sign, ':': sign, '/': sign, '=': sign, '<': sign, '>': sign,
	'0': digit, '1': digit, '2': digit, '3': digit, '4': digit,
	'5': digit, '6': digit, '7': digit, '8': digit, '9': digit,
	'A': letter, 'B': letter, 'C': letter, 'D': letter, 'E': letter, 'F': letter, 'G': letter,
	'H': letter, 'I': letter, 'J': letter, 'K': letter, 'L': letter, 'M': letter, 'N': letter,
	'O': letter, 'P': letter, 'Q': letter, 'R': letter, 'S': letter, 'T': letter, 'U': letter,
	'V': letter, 'W': letter, 'X': letter, 'Y': letter, 'Z': letter,
	'a': letter, 'b': letter, 'c': letter, 'd': letter, 'e': letter, 'f': letter, 'g': letter,
	'h': letter, 'i': letter, 'j': letter, 'k': letter, 'l': letter, 'm': letter, 'n': letter,
	'o': letter, 'p': letter, 'q': letter, 'r': letter, 's': letter, 't': letter, 'u': letter,
	'v': letter, 'w': letter, 'x': letter, 'y': letter, 'z': letter,
}

func classOf(b byte) class {
	if int(b) >= len(classes) {
		return 0
	}
	return classes[b]
}

// span returns how many bytes at the beginning of a text are of the given classes.
func span(s string, of class) (n int) {
	for n < len(s) && classOf(s[n])&of != 0 {
		n++
	}
	return n
}
