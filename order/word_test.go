package order_test

import (
	"slices"
	"strings"
	"testing"

	"drover/api"
	"drover/order"
	"drover/runes"
)

// notNumbers are what words say that say no number: of no digit, of a 0 ahead of others, of a sign, of what is no digit at an end or within, of too many digits.
func notNumbers() []string {
	return []string{
		"", "00", "01", "007", "00000000000001", "0000000000000",
		"+1", "-1", "-0", "+0", "+", "1-", "1+",
		"x", "a1", "1a", "1a1", "x0", "0x", "0x1", "1e3", "1_0", "1.0", "1.", ".1", "1/", "/1", "/", "1;", ";1", "1 ", " 1", "1 1", " ", `"`, `1"`, `\`, `1\`,
		"١", "1١", "１", "1１", "²", "1²", "五", "\ufffd", "1\ufffd", "a٣", "α", "1α",
		"10000000000000", "99999999999999", "100000000000000", "9223372036854775807", "9223372036854775808", "18446744073709551616", "18446744073709551617", strings.Repeat("1", 100),
	}
}

// places are those of x whose words are of that role.
func (x said) places(role byte) []int {
	var l []int
	for i, r := range []byte(x.roles) {
		if r == role {
			l = append(l, i)
		}
	}
	return l
}

// P20.1: what is no number where a number should be.
func TestNotNumbers(t *testing.T) {
	for _, x := range saids() {
		for _, i := range x.places('n') {
			for _, word := range append(notNumbers(), "-", "1,2", "1:2", "1:", ":", "1,") {
				parsesNot(t, api.ErrBad, x.with(i, runes.Quote(word)))
			}
		}
	}
}

// P20.1: numbers of 1 to 13 digits are numbers, whether what they mean is formed or not.
func TestNumbers(t *testing.T) {
	for _, x := range saids() {
		for _, i := range x.places('n') {
			for _, word := range []string{"1000000000000", number, "1099511627777", "4294967297", "2147483648"} {
				parsesNot(t, api.ErrForm, x.with(i, word))
			}
			if x.c.Kind == 2 && i == 3 {
				continue // a priority may be 0
			}
			parsesNot(t, api.ErrForm, x.with(i, "0"))
		}
	}
	n, word := int64(0), ""
	for _, digit := range []int64{1, 0, 9, 8, 7, 6, 5, 4, 3, 2, 0, 1, 9} {
		n, word = 10*n+digit, word+string(rune('0'+digit))
		parses(t, "up a 1 0:"+word+":0:0", order.Command{Kind: 5, Node: "a", Epoch: 1, Vector: api.Vector{0, n}})
		if n <= last {
			parses(t, "beat a "+word, order.Command{Kind: 6, Node: "a", Epoch: n})
			parses(t, "done a 1 1 "+word, order.Command{Kind: 7, Node: "a", Epoch: 1, Number: 1, Attempt: n})
			continue
		}
		parsesNot(t, api.ErrForm, "beat a "+word, "done a 1 1 "+word)
	}
	if n != 1098765432019 {
		t.Fatalf("the greatest one is %d", n)
	}
	for i := range int64(1200) {
		s := []byte("cancel 0000")
		s[7], s[8], s[9], s[10] = byte('0'+i/1000), byte('0'+i/100%10), byte('0'+i/10%10), byte('0'+i%10)
		word := strings.TrimLeft(string(s[7:]), "0")
		if i == 0 {
			word = "0"
		}
		if 1 <= i && i <= 100 {
			parses(t, "cancel "+word, order.Command{Kind: 3, Number: i})
		} else {
			parsesNot(t, api.ErrForm, "cancel "+word)
		}
		if len(word) < 4 {
			parsesNot(t, api.ErrBad, string(s))
		}
	}
}

// P20.1: what is no vector where a vector should be.
func TestNotVectors(t *testing.T) {
	bad := []string{
		"", "-", "x", "1", "1:0", "1:0:0", "1:0:0:0:0", "1:0:0:0:0:0:0:0", ":", "::", ":::", "::::",
		"1::0:0", ":0:0:0", "1:0:0:", "1:0::0", "1:0:0:0:", ":1:0:0:0", "1::0:0:0", "1:0:0:::",
		"1,0,0,0", "1;0;0;0", "1.0.0.0", "1-0-0-0", "1:0:0,0", "1 0 0 0", "1: 0:0:0", " 1:0:0:0", "1:0:0:0 ", "1：0：0：0", `{1:0:0:0}`,
	}
	for _, word := range notNumbers() {
		for place := range 4 {
			parts := []string{"1", "2", "3", "4"}
			parts[place] = word
			bad = append(bad, strings.Join(parts, ":"))
		}
	}
	for _, x := range saids() {
		for _, i := range x.places('v') {
			for _, word := range bad {
				parsesNot(t, api.ErrBad, x.with(i, runes.Quote(word)))
			}
			for place := range 4 {
				parts := []string{"1", "2", "3", "4"}
				parts[place] = "1099511627777"
				parsesNot(t, api.ErrForm, x.with(i, strings.Join(parts, ":")))
				parts[place] = number
				parsesNot(t, api.ErrForm, x.with(i, strings.Join(parts, ":")))
			}
		}
	}
	parsesNot(t, api.ErrBad, "submit 3 a 0 1 - 1:0:0:0 1:0:0 1:0:0:0", "submit 3 a 0 1 - 1:0:0:0 1:0:0:0 -", "submit 3 a 0 1 - 1:0:0:0 2", "submit 3 a 0 1 - 1 1:0:0:0", "submit 3 a 0 1 1:0:0:0 -")
	parsesNot(t, api.ErrForm, "submit 3 a 0 1 - 1:0:0:0 1:0:0:1099511627777 1:0:0:0")
}

// parent is a submit of 50, whose parents are a list.
func parent(list string) string {
	return "submit 50 a 0 1 " + list + " 1:0:0:0"
}

// child is the command that it says, if these are the parents.
func child(parents ...int64) order.Command {
	return order.Command{Kind: 2, Job: api.Job{ID: 50, Tenant: "a", Runtime: 1, Parents: parents, Tasks: []api.Vector{{1}}}}
}

// P20.1, P20.4: lists are put in order, each job once.
func TestLists(t *testing.T) {
	for list, parents := range map[string][]int64{
		"-": nil, `"-"`: nil, "1": {1}, "100": {100}, "49": {49},
		"1,2": {1, 2}, "2,1": {1, 2}, "4,3,2,1": {1, 2, 3, 4}, "3,1,4,2": {1, 2, 3, 4}, "9,10": {9, 10}, "10,9": {9, 10}, "100,2,11": {2, 11, 100},
		"1,1": {1}, "2,1,1": {1, 2}, "1,2,1": {1, 2}, "2,1,2,1,2,1": {1, 2}, "4,4,3,3,2,2,1,1": {1, 2, 3, 4}, "1,2,3,4,1,2,3,4": {1, 2, 3, 4}, "100,1,100": {1, 100},
		"1" + strings.Repeat(",1", 200): {1},
	} {
		parses(t, parent(list), child(parents...))
	}
	// Each list of at most four of five numbers, in each order and with each of them as often as may be.
	var grow func(string, []int64, int)
	grow = func(list string, l []int64, left int) {
		want := slices.Compact(slices.Sorted(slices.Values(l)))
		if len(l) > 0 {
			parses(t, parent(list[1:]), child(want...))
		}
		for _, n := range []string{"7", "10", "9", "100", "1"} {
			if left > 0 {
				grow(list+","+n, append(slices.Clone(l), map[string]int64{"7": 7, "10": 10, "9": 9, "100": 100, "1": 1}[n]), left-1)
			}
		}
	}
	grow("", nil, 4)
}

// P20.1: what is no list where a list should be; and lists of what may be no parents.
func TestNotLists(t *testing.T) {
	parsesNot(t, api.ErrBad, parent(`""`), parent(","), parent("1,"), parent(",1"), parent("1,,2"), parent("1,2,"), parent(",,"), parent("--"), parent("-1"), parent("-,1"), parent("1,-"), parent("-,-"), parent("-,"), parent(`"- "`), parent(`" -"`),
		parent("1:2"), parent("1;2"), parent(`"1, 2"`), parent(`"1 2"`), parent("1:0:0:0"), parent("1，2"), parent("—"))
	for _, word := range notNumbers() {
		for _, list := range []string{word, "1," + word, word + ",1", "1," + word + ",2", "0," + word} {
			parsesNot(t, api.ErrBad, parent(runes.Quote(list)))
		}
	}
	parsesNot(t, api.ErrForm, parent("0"), parent("101"), parent("50"), parent("1,0"), parent("0,1"), parent("1,101"), parent("101,1"), parent("1,50"), parent("50,1"), parent("50,50"), parent(number), parent("1,"+number),
		parent("1,2,3,4,5"), parent("5,4,3,2,1"), parent("1,2,3,4,5,1,2,3,4,5"), parent("1,2,3,4,0"), parent("4294967297"))
}
