package ledger

import (
	"drover/api"
	"drover/vector"
)

// account is what may be used and what is used, both formed; more is used than the limit says only where that was made less.
type account struct {
	limit, used api.Vector
}

// left answers the limit without what is used, 0 where more is used.
func (a account) left() api.Vector {
	var left api.Vector
	for i, n := range a.limit {
		left[i] = max(0, n-a.used[i])
	}
	return left
}

// taken answers an account behind a take. Amounts are not below 0, so that what is too much ahead of other entries stays so behind them: to ask at each is to ask of all together.
func taken(a account, v api.Vector) (account, api.Errno) {
	used, err := vector.Add(a.used, v)
	// A sum that is too great to be an amount is more than any limit.
	if err != api.OK || !vector.Fits(used, a.limit) {
		return account{}, api.ErrQuota
	}
	a.used = used
	return a, api.OK
}

// given answers an account behind a gift, for which the same holds.
func given(a account, v api.Vector) (account, api.Errno) {
	used, err := vector.Sub(a.used, v)
	if err != api.OK {
		return account{}, api.ErrRange
	}
	a.used = used
	return a, api.OK
}
