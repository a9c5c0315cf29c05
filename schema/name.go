package schema

import "refrain/api"

const (
	typeWord = "TYPE"

	noKind = 0
)

// kindWords are the words of the kinds, by their numbers.
var kindWords = [...]string{
	noKind:    "",
	api.KInt:  "INT",
	api.KStr:  "STR",
	api.KBool: "BOOL",
}

// Name tells whether a text may be a name.
func Name(s string) bool {
	if s == "" || len(s) > api.MaxName || isDigit(rune(s[0])) {
		return false
	}
	return wordLen(s) == len(s) && !ofLanguage(s)
}

// attrName tells whether a text may be an attribute's name: one of time would hide the event's own.
func attrName(s string) bool {
	return Name(s) && s != api.TimeAttr
}

func ofLanguage(s string) bool {
	switch s {
	case "PATTERN", "SEQ", "PARTITION", "BY", "WHERE", "WITHIN", "RETURN", "AND", "OR", "NOT", "TRUE", "FALSE", typeWord:
		return true
	}
	return kindOf(s) != noKind
}

func isKind(kind int) bool {
	return kind > noKind && kind < len(kindWords)
}

// kindOf is the kind that a word stands for, or noKind.
func kindOf(word string) int {
	for kind, w := range kindWords {
		if w == word {
			return kind
		}
	}
	return noKind
}

// wordLen is how many bytes the word has with which a text begins: 0 if it begins with none.
func wordLen(s string) int {
	for i, c := range s {
		if !isDigit(c) && !isLetter(c) && c != '_' {
			return i
		}
	}
	return len(s)
}

func isDigit(c rune) bool { return c >= '0' && c <= '9' }

func isLetter(c rune) bool { return c >= 'a' && c <= 'z' || c >= 'A' && c <= 'Z' }
