package fixed

import (
	"slices"
	"testing"
)

// squares is a list of so many square numbers.
func squares(many int) List[int] { return Make(many, func(at int) int { return at * at }) }

func TestMakeAndAt(t *testing.T) {
	l := squares(4)
	if l.Len() != 4 || *l.At(0) != 0 || *l.At(3) != 9 {
		t.Errorf("Make: %v", l)
	}
	*l.At(3) = 7
	if *l.At(3) != 7 {
		t.Errorf("At: the list is not changed by what is changed there")
	}
}

func TestHas(t *testing.T) {
	for at, want := range map[int]bool{-1: false, 0: true, 2: true, 3: false} {
		if squares(3).Has(at) != want {
			t.Errorf("Has(%d): %t", at, !want)
		}
	}
	if (List[int]{}).Has(0) || squares(0).Len() != 0 {
		t.Errorf("an empty list has something")
	}
}

func TestAll(t *testing.T) {
	l := squares(4)
	var places, things []int
	for at, thing := range l.All() {
		if at == 3 {
			break
		}
		places, things = append(places, at), append(things, *thing)
		*thing = -at
	}
	if !slices.Equal(places, []int{0, 1, 2}) || !slices.Equal(things, []int{0, 1, 4}) {
		t.Errorf("All: %v, %v", places, things)
	}
	if !slices.Equal(l.Copy(), []int{0, -1, -2, 9}) {
		t.Errorf("All: what is changed on the way: %v", l.Copy())
	}
}

func TestFillAndCopy(t *testing.T) {
	l := squares(3)
	copied := l.Copy()
	l.Fill(5)
	if !slices.Equal(copied, []int{0, 1, 4}) || !slices.Equal(l.Copy(), []int{5, 5, 5}) {
		t.Errorf("Fill, Copy: %v, %v", copied, l.Copy())
	}
	clear(copied)
	if *l.At(0) != 5 {
		t.Errorf("Copy: the list is changed by its copy")
	}
}
