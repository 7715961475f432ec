package format

import "testing"

func TestLettersAreThoseOfTheirCounts(t *testing.T) {
	if Letter(LeastAgain) != End+1 || Letter(MostAgain) != MostLetters-1 {
		t.Errorf("the letters of the least and the most are %d and %d", Letter(LeastAgain), Letter(MostAgain))
	}
	for count := LeastAgain; count <= MostAgain; count++ {
		letter := Letter(count)
		if s := Again(letter); letter <= End || letter >= MostLetters || count < s.Least || count > s.Most() {
			t.Errorf("%d bytes again are told by letter %d, which tells %d to %d", count, letter, s.Least, s.Most())
		}
	}
}

func TestStepsAreThoseOfTheirBacks(t *testing.T) {
	if Step(1) != 0 || Step(MostBack) != MostSteps-1 {
		t.Errorf("the steps of the least and the most are %d and %d", Step(1), Step(MostBack))
	}
	for back := 1; back <= MostBack; back++ {
		step := Step(back)
		if s := Back(step); step < 0 || step >= MostSteps || back < s.Least || back > s.Most() {
			t.Errorf("%d back is told by step %d, which tells %d to %d", back, step, s.Least, s.Most())
		}
	}
}
