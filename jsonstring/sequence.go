package jsonstring

import (
	"strconv"
	"strings"
)

// numberLength is the length of an escape sequence with a number.
const numberLength = len(`\u0041`)

// The numbers from firstHigh to lastLow are no runes. Those before firstLow are the first of a pair of sequences, and the others the second. Pairs stand for the runes from firstPair on.
const (
	firstHigh = 0xD800
	firstLow  = 0xDC00
	lastLow   = 0xDFFF
	firstPair = 0x10000
)

// escape is the letter of an escape sequence, with the byte that the sequence stands for.
type escape struct {
	letter, meaning byte
}

var escapes = [8]escape{
	{'"', '"'},
	{'\\', '\\'},
	{'/', '/'},
	{'b', 8},
	{'f', 12},
	{'n', 10},
	{'r', 13},
	{'t', 9},
}

// letterFor returns the letter of the escape sequence that stands for a byte.
func letterFor(c byte) (byte, bool) {
	for _, x := range escapes {
		if x.meaning == c {
			return x.letter, true
		}
	}
	return 0, false
}

// sequence returns the rune and the length of the escape sequence, or of the pair, at the beginning of a string of at least two bytes. It returns zeros if it is not permitted.
func sequence(s string) (rune, int) {
	for _, x := range escapes {
		if x.letter == s[1] {
			return rune(x.meaning), 2
		}
	}
	high, ok := number(s)
	if !ok {
		return 0, 0
	}
	if high < firstHigh || high > lastLow {
		return high, numberLength
	}
	low, ok := number(s[numberLength:])
	if !ok || high >= firstLow || low < firstLow || low > lastLow {
		return 0, 0
	}
	return firstPair + (high-firstHigh)*0x400 + (low - firstLow), 2 * numberLength
}

// number returns the number of the escape sequence with four digits at the beginning of a string.
func number(s string) (rune, bool) {
	if len(s) < numberLength || !strings.HasPrefix(s, `\u`) {
		return 0, false
	}
	n, err := strconv.ParseUint(s[2:numberLength], 16, 16)
	if err != nil {
		return 0, false
	}
	return rune(n), true
}
