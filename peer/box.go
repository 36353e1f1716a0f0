package peer

// mostRoom is for how many things a box has room at most.
const mostRoom = 1 << 16

// Box is things that wait, as long as there is room.
type Box[T any] struct {
	// Pointers, as a channel's own elements may not be greater than 64 kB, and its room is taken at once, however few things come.
	// nil is the zero box: a select never finds it ready, so that it needs no case of its own.
	things chan *T
}

// NewBox is an empty box with room for so many things.
func NewBox[T any](room int) *Box[T] {
	return &Box[T]{things: make(chan *T, min(max(room, 0), mostRoom))}
}

// Put puts a thing behind the others, if there is room.
func (b *Box[T]) Put(x T) bool {
	if b == nil {
		return false
	}
	select {
	case b.things <- &x:
		return true
	default:
		return false
	}
}

// Take takes the first thing out, if there is one.
func (b *Box[T]) Take() (T, bool) {
	var none T
	if b == nil {
		return none, false
	}
	select {
	case x := <-b.things:
		return *x, true
	default:
		return none, false
	}
}

// Len is how many things there are.
func (b *Box[T]) Len() int {
	if b == nil {
		return 0
	}
	return len(b.things)
}
