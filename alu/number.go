package alu

import (
	"smithy/api"
	"smithy/sign"
	"smithy/wide"
	"smithy/word"
)

// number is a word that is reckoned with: each method is what an instruction
// does, told by the first word that it takes, and handed the others.
type number api.Word

// wordBits is how many bits a word has: a shift by as many leaves none of
// them, and one by more does the same.
const wordBits = 256

func (a number) plus(b number) number { return number(word.Add(api.Word(a), api.Word(b))) }

func (a number) times(b number) number { return number(word.Mul(api.Word(a), api.Word(b))) }

func (a number) minus(b number) number { return number(word.Sub(api.Word(a), api.Word(b))) }

func (a number) quotient(b number) number {
	quotient, _ := wide.Div(api.Word(a), api.Word(b))
	return number(quotient)
}

func (a number) signedQuotient(b number) number {
	quotient, _ := sign.Div(api.Word(a), api.Word(b))
	return number(quotient)
}

func (a number) rest(b number) number {
	_, rest := wide.Div(api.Word(a), api.Word(b))
	return number(rest)
}

func (a number) signedRest(b number) number {
	_, rest := sign.Div(api.Word(a), api.Word(b))
	return number(rest)
}

func (a number) plusRest(b, c number) number {
	return number(wide.AddMod(api.Word(a), api.Word(b), api.Word(c)))
}

func (a number) timesRest(b, c number) number {
	return number(wide.MulMod(api.Word(a), api.Word(b), api.Word(c)))
}

func (a number) power(b number) number { return number(wide.Exp(api.Word(a), api.Word(b))) }

func (a number) extend(b number) number { return number(sign.Extend(api.Word(a), api.Word(b))) }

func (a number) less(b number) number { return flag(word.Compare(api.Word(a), api.Word(b)) < 0) }

func (a number) more(b number) number { return b.less(a) }

func (a number) signedLess(b number) number { return flag(sign.Less(api.Word(a), api.Word(b))) }

func (a number) signedMore(b number) number { return b.signedLess(a) }

func (a number) same(b number) number { return flag(a == b) }

func (a number) isZero() number { return flag(a == number{}) }

func (a number) and(b number) number { return number(word.And(api.Word(a), api.Word(b))) }

func (a number) or(b number) number { return number(word.Or(api.Word(a), api.Word(b))) }

func (a number) xor(b number) number { return number(word.Xor(api.Word(a), api.Word(b))) }

func (a number) not() number { return number(word.Not(api.Word(a))) }

func (a number) byteOf(b number) number {
	place, ok := word.Small(api.Word(a))
	if !ok {
		return number{}
	}
	return number(word.Of(uint64(word.Byte(api.Word(b), place))))
}

func (a number) up(b number) number { return number(word.Shl(api.Word(b), a.shift())) }

func (a number) down(b number) number { return number(word.Shr(api.Word(b), a.shift())) }

func (a number) signedDown(b number) number { return number(sign.Sar(api.Word(b), a.shift())) }

// shift is by how many bits a number shifts. A uint need not hold every
// number, but those that it may not hold all shift alike.
func (a number) shift() uint {
	places, ok := word.Small(api.Word(a))
	if !ok {
		return wordBits
	}
	return uint(min(places, wordBits))
}

// flag is how an instruction puts that something is so, or isn't.
func flag(so bool) number {
	if so {
		return number{1}
	}
	return number{}
}
