package syntax

import (
	"strings"
	"unicode"
	"unicode/utf8"

	"scaler/api"
)

type tokenKind int

const (
	end tokenKind = iota
	sign
	number
	name
	wrong // can stand nowhere: too long, or no token at all
)

const (
	blanks = " \t\n"
	signs  = "?:<>=+-*/(),"
)

type token struct {
	kind tokenKind
	text string
	at   int
}

// tokenFrom reads one token and no further: a wrong token must not be told ahead of an earlier fault.
func tokenFrom(src string, from int) token {
	rest := strings.TrimLeft(src[from:], blanks)
	kind, text := firstToken(rest)
	return token{kind, text, len(src) - len(rest)}
}

func firstToken(rest string) (tokenKind, string) {
	if rest == "" {
		return end, ""
	}
	first, size := utf8.DecodeRuneInString(rest)
	switch {
	case strings.IndexByte(signs, rest[0]) >= 0:
		return sign, rest[:size]
	case isDigit(first):
		digits := run(rest, isDigit)
		return limited(number, len(digits), api.MaxDigits), digits
	case unicode.IsLetter(first):
		word := run(rest, isNamePart)
		return limited(name, utf8.RuneCountInString(word), api.MaxName), word
	}
	return wrong, rest[:size]
}

// limited makes a token that is too long a wrong one.
func limited(kind tokenKind, length, most int) tokenKind {
	if length > most {
		return wrong
	}
	return kind
}

func run(text string, fits func(rune) bool) string {
	n := strings.IndexFunc(text, func(r rune) bool { return !fits(r) })
	if n < 0 {
		return text
	}
	return text[:n]
}

// isDigit knows 0 to 9 alone: other scripts' digits stand in names only.
func isDigit(r rune) bool { return '0' <= r && r <= '9' }

func isNamePart(r rune) bool { return unicode.IsLetter(r) || unicode.IsDigit(r) }

// IsName tells whether a text is a name, and nothing besides.
func IsName(text string) bool {
	kind, word := firstToken(text)
	return kind == name && word == text
}

// IsKind tells whether a name is a measure's kind.
func IsKind(word string) bool {
	switch word {
	case "sum", "count", "least", "most", "mean", "last":
		return true
	}
	return false
}
