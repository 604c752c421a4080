package follow

// stack grows and shrinks at its top.
type stack[T any] struct {
	list []T
}

func (s *stack[T]) push(x T) {
	s.list = append(s.list, x)
}

func (s *stack[T]) pop() T {
	x := *s.top()
	s.list = s.list[:len(s.list)-1]
	return x
}

// top may be written to until the next push.
func (s *stack[T]) top() *T {
	return &s.list[len(s.list)-1]
}

func (s *stack[T]) empty() bool {
	return len(s.list) == 0
}
