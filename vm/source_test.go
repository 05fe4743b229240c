package vm

import (
	"math/rand"
	"strconv"
	"strings"
)

// rules are what can stand for a letter behind a $: i, b and s are an expression of that type, I, B and S a name that has it, and may be set, n one that has an int; 1 is a statement, 2 a few; v is a new name, r a return or nothing. What comes first in a row is short.
var rules = map[byte][]string{
	'i': {"0", "1", "2", "$n", "$n", "9223372036854775807", "$n", "($i + $i)", "($i - $i)", "($i * $i)", "($i / $i)", "$i % $i", "-$n", "-($i)", "len($s)", "whole($i, $b, $s)"},
	'b': {"true", "false", "$B", "$B", "($i < $i)", "($n <= $i)", "($i > $n)", "($i >= $i)", "($i == $i)", "($b != $b)", "($s == $s)", "!$b", "$b && $b", "($b || $b)", "has($s)", "is($s, $b)"},
	's': {`""`, `"a"`, `"key"`, "$S", "$S", `"0123456789abcdef"`, "($s + $s)", "$S + $S", "get($s)", "part($i, $s)"},
	'1': {"$I = $i; ", "$B = $b; ", "$S = $s; ", "put($s, $s); ", "del($s); ", "none($b); ", "whole($i, $b, $s); ", "is($s, $b); ", "$r", "let $v = $i; ", "if $b { $2} ", "if $b { $2} else { $2} ", "for $v = 0 to $i { $2} ", "for $v = $i to $i { $2} ", "for $v = 0 to 3 { $2} "},
	'2': {"", "$1", "$1", "$1$1", "$1$1$1"},
}

// heads are functions without their bodies, the letter of what they return, and names that each of them can set.
var heads = [][2]string{
	{"fn whole(x: int, y: bool, z: bytes): int { let n = 3; ", "i"},
	{"fn is(z: bytes, y: bool): bool { let x = 1; let n = 0; ", "b"},
	{"fn part(x: int, z: bytes): bytes { let y = x < 2; let n = x; ", "s"},
	{"fn none(y: bool) { let x = 2; let z = \"key\"; let n = 5; ", ""},
}

// writer writes sources by the rules.
type writer struct {
	source *rand.Rand
	result string
	count  int      // of the names that were made
	names  []string // those that are in scope
}

// written is a text with all that a $ stands for; the less levels there are left, the shorter it is. A new name is in scope from the end of a let on, or within the block of a for.
func (w *writer) written(s string, levels int) string {
	var b strings.Builder
	outer, made := len(w.names), w.count
	for i := 0; i < len(s); i++ {
		if s[i] == '$' {
			i++
			b.WriteString(w.one(s[i], levels-1))
			continue
		}
		b.WriteByte(s[i])
		if s[i] == '{' {
			outer = len(w.names)
		}
		if s[i] == '}' {
			w.names = w.names[:outer]
		} else if strings.Contains(s, "$v") && (s[i] == '{' || s[i] == ';') {
			w.names = append(w.names, "v"+strconv.Itoa(made+1))
		}
	}
	return b.String()
}

func (w *writer) one(letter byte, levels int) string {
	switch letter {
	case 'I':
		return pick(w.source, "x", "n")
	case 'n':
		return pick(w.source, append([]string{"x", "n"}, w.names...)...)
	case 'B':
		return "y"
	case 'S':
		return "z"
	case 'v':
		w.count++
		return "v" + strconv.Itoa(w.count)
	case 'r':
		if w.source.Intn(3) > 0 {
			return ""
		}
		return w.end(levels)
	}
	l := rules[letter]
	if levels <= 0 {
		l = l[:min(len(l), 4)]
	}
	return w.written(pick(w.source, l...), levels)
}

// end is a return.
func (w *writer) end(levels int) string {
	if w.result == "" {
		return "return; "
	}
	return w.written("return $"+w.result+"; ", levels)
}

// program is a source of four functions.
func (w *writer) program() string {
	var b strings.Builder
	for _, h := range heads {
		w.result, w.count, w.names = h[1], 0, nil
		b.WriteString(h[0] + w.written(pick(w.source, "$1", "$1$1", "$1$1$1$1"), 4) + w.end(3) + "}\n")
	}
	return b.String()
}
