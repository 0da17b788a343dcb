package nibble

import "strings"

// The rules of the chapter once more, in other words: a row is written as hexadecimal digits, and what is asked of a text is found by going over all rows that are short enough.

const digits = "0123456789abcdef"

// ruleDigits is n's digits, one a nibble; false, if n is no row.
func ruleDigits(n string) (string, bool) {
	var out strings.Builder
	for _, b := range []byte(n) {
		if int(b) >= len(digits) {
			return "", false
		}
		out.WriteByte(digits[b])
	}
	return out.String(), true
}

// ruleRow is the row that has these digits.
func ruleRow(s string) string {
	row := []byte(s)
	for i, d := range row {
		row[i] = byte(strings.IndexByte(digits, d))
	}
	return string(row)
}

// rulePack is Pack in digits: those of the flags, of the first nibble, or of 0 in its place, and of what is left.
func rulePack(n string, leaf bool) string {
	flag := 0
	if leaf {
		flag += 2
	}
	all, _ := ruleDigits(n)
	if len(n)%2 == 0 {
		all = "0" + all
	} else {
		flag++
	}
	return digits[flag:flag+1] + all
}

// ruleRows is every row of at most that many nibbles.
func ruleRows(most int) []string {
	rows, level := []string{""}, []string{""}
	for range most {
		var next []string
		for _, row := range level {
			for b := range byte(16) {
				next = append(next, row+string([]byte{b}))
			}
		}
		rows = append(rows, next...)
		level = next
	}
	return rows
}

// ruleBehind is whether row is greater than all that begin with n: it stands behind n, and does not itself begin with it.
func ruleBehind(row, n string) bool {
	return ruleBefore(n, row) && !strings.HasPrefix(row, n)
}

// ruleBefore is whether a stands ahead of b, told from the first place at which they differ.
func ruleBefore(a, b string) bool {
	for i := 0; ; i++ {
		switch {
		case i == len(b):
			return false
		case i == len(a):
			return true
		case a[i] != b[i]:
			return int(a[i]) < int(b[i])
		}
	}
}
