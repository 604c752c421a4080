package class

import (
	"bolter/api"
	"bolter/byteset"
)

// named tells the set that a name stands for, and whether it is a name.
func named(word string) (s api.Set, known bool) {
	switch word {
	case "digit":
		s = digit()
	case "lower":
		s = lower()
	case "upper":
		s = upper()
	case "alpha":
		s = alpha()
	case "alnum":
		s = alnum()
	case "word":
		s = byteset.Union(alnum(), byteset.Of('_'))
	case "xdigit":
		s = byteset.Union(digit(), byteset.Union(byteset.Range('a', 'f'), byteset.Range('A', 'F')))
	case "blank":
		s = byteset.Of(' ', '\t')
	case "space":
		s = byteset.Union(byteset.Range(9, 13), byteset.Of(' '))
	case "punct":
		s = punct()
	case "print":
		s = byteset.Range(32, 126)
	case "cntrl":
		s = byteset.Union(byteset.Range(0, 31), byteset.Of(127))
	case "any":
		s = byteset.All()
	default:
		return api.Set{}, false
	}
	return s, true
}

func digit() api.Set { return byteset.Range('0', '9') }
func lower() api.Set { return byteset.Range('a', 'z') }
func upper() api.Set { return byteset.Range('A', 'Z') }
func alpha() api.Set { return byteset.Union(lower(), upper()) }
func alnum() api.Set { return byteset.Union(alpha(), digit()) }
func punct() api.Set { return byteset.Minus(byteset.Range(33, 126), alnum()) }
