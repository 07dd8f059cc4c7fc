package parse

import "drachm/api"

// What may stand at each place of the grammar.

func (r *reader) behindOpen() {
	r.ask(r.inverse, r.symbol, r.number, r.left, r.alone)
}

func (r *reader) behindOperator() {
	r.ask(r.symbol, r.number, r.left, r.alone)
}

func (r *reader) behindSymbol() {
	if r.pow {
		r.ask(r.raise, r.note, r.operator, r.right, r.end)
		return
	}
	r.ask(r.sign, r.power, r.note, r.operator, r.right, r.end)
}

func (r *reader) behindPow() { r.ask(r.sign, r.power) }

func (r *reader) behindSign() { r.ask(r.power) }

func (r *reader) behindBase() { r.ask(r.note, r.operator, r.right, r.end) }

func (r *reader) behindNote() { r.ask(r.operator, r.right, r.end) }

// What stands there: each tells whether it does, and takes it.

// inverse is a Div ahead of the first item.
func (r *reader) inverse(at int) bool {
	if !r.is(at, api.TokDiv) {
		return false
	}
	r.wait(api.StepInv)
	return true
}

// symbol puts down which token it is, as Atom: what symbols are is asked when all else is right.
func (r *reader) symbol(at int) bool {
	if !r.is(at, api.TokSym) {
		return false
	}
	r.put(api.Step{Op: api.StepSym, Atom: at, N: 1})
	r.below = false
	r.behindSymbol()
	return true
}

func (r *reader) raise(at int) bool {
	if !r.is(at, api.TokPow) {
		return false
	}
	r.behindPow()
	return true
}

func (r *reader) sign(at int) bool {
	if !r.is(at, api.TokSign) {
		return false
	}
	r.below = r.tokens[at].Text == "-"
	r.behindSign()
	return true
}

// power is the number of the symbol that was put down last.
func (r *reader) power(at int) bool {
	if !r.is(at, api.TokNum) || r.tokens[at].N < 0 || r.tokens[at].N > api.MaxDim {
		return false
	}
	power := int(r.tokens[at].N)
	if r.below {
		power = -power
	}
	r.tree[len(r.tree)-1].N = power
	r.behindBase()
	return true
}

// number is one that is a base.
func (r *reader) number(at int) bool {
	if !r.is(at, api.TokNum) || r.tokens[at].N < 1 {
		return false
	}
	r.put(api.Step{Op: api.StepNum, Num: r.tokens[at].N})
	r.behindBase()
	return true
}

// left may stand there, but be one too many: that is an error of its own.
func (r *reader) left(at int) bool {
	if !r.is(at, api.TokLeft) {
		return false
	}
	if r.nested() == api.MaxNest {
		panic(refusal{Err: api.ErrDeep, At: r.place(at)})
	}
	r.open()
	return true
}

func (r *reader) right(at int) bool {
	if !r.is(at, api.TokRight) || r.nested() == 0 {
		return false
	}
	r.close()
	r.waits = r.waits[:len(r.waits)-1]
	r.behindBase()
	return true
}

// note is one on what stands ahead of it.
func (r *reader) note(at int) bool { return r.noted(at, api.StepNote) }

// alone is a note on nothing.
func (r *reader) alone(at int) bool { return r.noted(at, api.StepAlone) }

func (r *reader) noted(at, op int) bool {
	if !r.is(at, api.TokNote) {
		return false
	}
	r.put(api.Step{Op: op, Text: r.tokens[at].Text})
	r.behindNote()
	return true
}

// operator is Mul or Div behind an item, ahead of another one.
func (r *reader) operator(at int) bool {
	op := 0
	switch {
	case r.is(at, api.TokMul):
		op = api.StepMul
	case r.is(at, api.TokDiv):
		op = api.StepDiv
	default:
		return false
	}
	r.close()
	r.wait(op)
	return true
}

// end is what stands behind the last token.
func (r *reader) end(at int) bool {
	if at < len(r.tokens) || r.nested() > 0 {
		return false
	}
	r.close()
	return true
}
