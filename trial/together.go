package trial

import (
	"slices"

	"butler/api"
)

// slowKeys are so many that building them, one for the other, takes longer than letting all threads of a Play begin.
const slowKeys = 60

// Together lets threads that go freely meet, which would be over one by one before the next one begins: all ask first for one key more, whose building takes its time and gives 0, and so go on at about the same time. There are to be fewer than slowKeys recipes.
func Together(l []api.Recipe, scripts [][]api.Call) ([]api.Recipe, [][]api.Call) {
	slow, late := slices.Clone(l), slices.Clone(scripts)
	for key := len(l); key < slowKeys; key++ {
		slow = append(slow, api.Recipe{Needs: []int{key + 1}})
	}
	slow[slowKeys-1].Needs = nil
	for thread, calls := range scripts {
		late[thread] = append([]api.Call{{Op: 1, A: 0, B: len(l)}}, calls...)
	}
	return slow, late
}
