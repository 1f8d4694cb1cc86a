package genstack

import "wafer/api"

// put puts operations.
func (g *generator) put(ops ...int) {
	for _, op := range ops {
		g.with(op, 0)
	}
}

// with tells where it puts an operation with a number.
func (g *generator) with(op, k int) int {
	g.code = append(g.code, api.Code{Op: op, K: int32(k)})
	return len(g.code) - 1
}

// push puts a number.
func (g *generator) push(n int) { g.with(api.Push, n) }

// jump tells where it puts a jump (always, or of 0), of which land says where to.
func (g *generator) jump(op int) int { return g.with(op, 0) }

// land lets a jump lead here.
func (g *generator) land(at int) { g.code[at].K = int32(len(g.code)) }

// raiseIf ends the run by a trap, if what was asked is so.
func (g *generator) raiseIf(number int) {
	over := g.jump(api.Zero)
	g.with(api.Raise, number)
	g.land(over)
}

// raiseUnless ends the run by a trap, unless what was asked is so.
func (g *generator) raiseUnless(number int) {
	g.not()
	g.raiseIf(number)
}

// not makes TRUE FALSE, and FALSE TRUE.
func (g *generator) not() {
	g.push(1)
	g.put(api.CXor)
}

// within asks whether a number is 0 to n - 1.
func (g *generator) within(n int) {
	g.put(api.Dup)
	g.push(n)
	g.put(api.CLt, api.Swap)
	g.push(-1)
	g.put(api.Swap, api.CLt, api.CAnd)
}

// inRange ends the run by a trap, unless a number is 0 to n - 1.
func (g *generator) inRange(n, number int) {
	g.put(api.Dup)
	g.within(n)
	g.raiseUnless(number)
}

// more adds to the word at a place that is known.
func (g *generator) more(at, n int) {
	g.push(at)
	g.put(api.Dup, api.Load)
	g.push(n)
	g.put(api.CAdd, api.Store)
}

// keep takes a word of the frame's end, and keeps an operand there.
func (g *generator) keep() int {
	at := g.proc.ownWords + g.kept
	g.kept++
	g.proc.words = max(g.proc.words, at+1)
	g.set(at)
	return at
}

// drop lets so many words at the frame's end go.
func (g *generator) drop(n int) { g.kept -= n }

// set keeps an operand in a word of the frame.
func (g *generator) set(at int) {
	g.with(api.Local, at)
	g.put(api.Swap, api.Store)
}

// get puts a word of the frame.
func (g *generator) get(at int) {
	g.with(api.Local, at)
	g.put(api.Load)
}
