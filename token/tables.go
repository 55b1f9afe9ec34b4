package token

// The keywords, in the order of the document.
var keywords = [...]string{
	"actor", "and", "as", "be", "box", "break", "class", "consume", "continue", "do", "else",
	"elseif", "end", "error", "false", "for", "fun", "if", "ifdef", "in", "interface", "is", "isnt",
	"iso", "let", "match", "new", "not", "object", "or", "primitive", "recover", "ref", "repeat",
	"return", "tag", "then", "this", "trait", "trn", "true", "try", "type", "until", "use", "val",
	"var", "where", "while", "with", "xor",
}

// The symbols, in the order of the document.
var symbols = [...]string{
	"<<", ">>", "==", "!=", "<=", ">=", "=>", "->", ".>", "+?", "-?", "*?", "/?", "%?",
	"#read", "#send", "#share", "#alias", "#any",
	"(", ")", "[", "]", "{", "}", ",", ".", ":", ";", "?", "=", "<", ">",
	"+", "-", "*", "/", "%", "|", "&", "^", "!", "~",
}

// keywordSet serves a whole text; a single word is compared with the table directly.
func keywordSet() map[string]bool {
	set := map[string]bool{}
	for _, s := range keywords {
		set[s] = true
	}
	return set
}

func isKeyword(s string) bool {
	for _, k := range keywords {
		if k == s {
			return true
		}
	}
	return false
}

func isLetter(c byte) bool { return c >= 'a' && c <= 'z' || c >= 'A' && c <= 'Z' }

func isDigit(c byte) bool { return c >= '0' && c <= '9' }

// inWord reports whether a byte may stand inside of an identifier, ahead of its primes.
func inWord(c byte) bool { return isLetter(c) || isDigit(c) || c == '_' }

// isWord reports whether a text has the form of an identifier; keywords have it, too.
func isWord(s string) bool {
	if s == "" || isDigit(s[0]) || !inWord(s[0]) {
		return false
	}
	return wordEnd(s, 0) == len(s)
}

// wordEnd returns where the word that begins at a place ends.
func wordEnd(s string, at int) int {
	for at < len(s) && inWord(s[at]) {
		at++
	}
	for at < len(s) && s[at] == '\'' {
		at++
	}
	return at
}
