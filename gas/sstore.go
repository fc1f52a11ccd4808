package gas

import "smithy/api"

const (
	setPrice   = 20000 // a slot that had nothing at first
	resetPrice = 2900

	clearRefund = 4800
	// What the first store of the row paid above a warm one's price.
	setBack   = setPrice - warmPrice
	resetBack = resetPrice - warmPrice
)

// Sstore is what writing a slot costs, and what is refunded.
func Sstore(first, now, next api.Word, cold bool) (uint64, int64) {
	return when(cold, coldSlot) + storePrice(first, now, next), storeRefund(first, now, next)
}

// storePrice is what writing a slot costs that isn't cold.
func storePrice(first, now, next api.Word) uint64 {
	if now == next || first != now {
		return warmPrice
	}
	if none(first) {
		return setPrice
	}
	return resetPrice
}

// storeRefund is what is refunded; below 0: what is taken back.
func storeRefund(first, now, next api.Word) int64 {
	if now == next {
		return 0
	}
	refund := cleared(first, next) - cleared(first, now)
	if first == next {
		refund += restored(first)
	}
	return refund
}

// cleared is what has been refunded while a slot holds a word, for its being 0:
// so an earlier store's refund is taken back as soon as the slot isn't 0.
func cleared(first, held api.Word) int64 {
	if !none(first) && none(held) {
		return clearRefund
	}
	return 0
}

// restored is what is refunded for a slot's having again what it had at first.
func restored(first api.Word) int64 {
	if none(first) {
		return setBack
	}
	return resetBack
}

func none(a api.Word) bool { return a == api.Word{} }
