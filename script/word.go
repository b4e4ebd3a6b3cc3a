package script

import (
	"porter/api"
	"porter/tuple"
)

// maxDigits: so many digits a number has at most.
const maxDigits = 9

// number: the number that a word is.
func number(word string) (int, api.Errno) {
	if len(word) < 1 || len(word) > maxDigits {
		return 0, api.ErrCommand
	}
	n := 0
	for i := range len(word) {
		if word[i] < '0' || word[i] > '9' {
			return 0, api.ErrCommand
		}
		n = 10*n + int(word[i]-'0')
	}
	return n, api.OK
}

// numbers: the numbers that all of some words are.
func numbers(words ...string) ([]int, api.Errno) {
	var list []int
	for _, word := range words {
		n, e := number(word)
		if e != api.OK {
			return nil, e
		}
		list = append(list, n)
	}
	return list, api.OK
}

// signed: the mutations and the conditions that some words are: tuples, each behind a sign.
func signed(words []string) ([]api.Mutation, []api.Condition, api.Errno) {
	var muts []api.Mutation
	var pre []api.Condition
	for _, word := range words {
		if word == "" {
			return nil, nil, api.ErrCommand
		}
		t, e := tuple.Parse(word[1:])
		if e != api.OK {
			return nil, nil, e
		}
		switch sign := word[0]; sign {
		case '+', '-':
			muts = append(muts, api.Mutation{Delete: sign == '-', Tuple: t})
		case '?', '!':
			pre = append(pre, api.Condition{Absent: sign == '!', Tuple: t})
		default:
			return nil, nil, api.ErrCommand
		}
	}
	return muts, pre, api.OK
}
