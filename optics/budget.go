package optics

import "speculum/api"

const (
	maxBudget = 100000000 // totals of budgets
	maxShare  = 10000     // effects and amounts
)

// checkEffects is the error of the total of a budget and of the number of its effects.
func checkEffects(total int, effects []int) api.Errno {
	if !isWithin(total, 0, maxBudget) {
		return api.ErrRange
	}
	if len(effects) > api.MaxEffects {
		return api.ErrLarge
	}
	return api.OK
}

// CheckBudget is the square of the total less those of the effects times the amounts: at most 30 times 10^16 together.
func CheckBudget(b api.Budget) (int, api.Errno) {
	if e := checkEffects(b.Total, b.Effects); e != api.OK {
		return 0, e
	}
	if len(b.Amounts) != len(b.Effects) {
		return 0, api.ErrShape
	}
	left := b.Total * b.Total
	for i, effect := range b.Effects {
		amount := b.Amounts[i]
		if !isWithin(effect, 0, maxShare) || !isWithin(amount, 0, maxShare) {
			return 0, api.ErrRange
		}
		left -= effect * amount * effect * amount
	}
	if left < 0 {
		return 0, api.ErrBreak
	}
	return left, api.OK
}

// SplitBudget is the greatest amount of each effect with which no effect takes more than its share of the square.
func SplitBudget(total int, effects []int) ([]int, api.Errno) {
	if e := checkEffects(total, effects); e != api.OK {
		return nil, e
	}
	shares := 0
	for _, effect := range effects {
		if !isWithin(effect, 0, maxShare) {
			return nil, api.ErrRange
		}
		if effect != 0 {
			shares++
		}
	}
	amounts := make([]int, len(effects))
	for i, effect := range effects {
		amounts[i] = maxShare
		if effect != 0 {
			amounts[i] = min(rootDown(total*total/shares)/effect, maxShare)
		}
	}
	return amounts, api.OK
}
