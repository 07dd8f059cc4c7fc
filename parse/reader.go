package parse

import "drachm/api"

// none is the place of a prefix, where there is none.
const none = -1

// refusal is what a panic tells of a row of tokens that has no tree: the error, and its place.
type refusal api.Parsed

// reader goes through tokens, one by one, and puts down the steps of their tree, but for what the symbols are.
type reader struct {
	tokens []api.Token
	size   int
	// pow is whether a Pow stands ahead of a symbol's number.
	pow bool
	// may are all that may stand at a place: each is asked whether it does, and if so, takes what stands there.
	may []func(at int) bool
	// waits are what is done when the next item is there: of the main itself, then of each one in brackets that are open; 0, where nothing is.
	waits []int
	// below is whether the number that comes is one below 0.
	below bool
	tree  []api.Step
}

// read goes through the tokens, and the end behind them.
func (r *reader) read() {
	r.open()
tokens:
	for at := range len(r.tokens) + 1 {
		for _, takes := range r.may {
			if takes(at) {
				continue tokens
			}
		}
		panic(refusal{Err: api.ErrSyntax, At: r.place(at)})
	}
}

// place is where a token stands in the text; the text's size, behind the last one.
func (r *reader) place(at int) int {
	if at < len(r.tokens) {
		return r.tokens[at].At
	}
	return r.size
}

// nested is how many brackets are open.
func (r *reader) nested() int { return len(r.waits) - 1 }

// ask puts down what may stand at the next place.
func (r *reader) ask(may ...func(at int) bool) { r.may = may }

// is tells whether a token of that kind stands there. At the end there is none of any kind.
func (r *reader) is(at, kind int) bool {
	return at < len(r.tokens) && r.tokens[at].Kind == kind
}

func (r *reader) put(x api.Step) {
	x.Prefix = none
	r.tree = append(r.tree, x)
}

// open begins a main: nothing waits for its first item yet.
func (r *reader) open() {
	r.waits = append(r.waits, 0)
	r.behindOpen()
}

// wait puts off what is done with the item that comes, until that is there.
func (r *reader) wait(op int) {
	r.waits[len(r.waits)-1] = op
	r.behindOperator()
}

// close ends an item: what has waited for it is done.
func (r *reader) close() {
	if op := r.waits[len(r.waits)-1]; op != 0 {
		r.put(api.Step{Op: op})
	}
}
