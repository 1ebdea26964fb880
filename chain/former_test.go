package chain

import (
	"maps"
	"math/rand"
	"testing"
)

// No two blocks of a chain have the same id: a grant's LockTime is its height, and each other transaction spends what must have been made anew by then. What would be told if two had is therefore asked here of the maps.

// TestPutAndBack: the last value of a key is told, and the one ahead of it again when it is taken back.
func TestPutAndBack(t *testing.T) {
	m := map[string]int{"there": 1}
	one := []former[string, int]{put(m, "there", 2), put(m, "new", 2)}
	two := []former[string, int]{put(m, "new", 3), put(m, "there", 0), put(m, "new", 4)}
	if !maps.Equal(m, map[string]int{"there": 0, "new": 4}) {
		t.Errorf("P13.2: %v", m)
	}
	goBack(m, two)
	if !maps.Equal(m, map[string]int{"there": 2, "new": 2}) {
		t.Errorf("P13.3: %v", m)
	}
	goBack(m, one)
	if !maps.Equal(m, map[string]int{"there": 1}) {
		t.Errorf("P13.3: %v", m)
	}
	goBack(m, nil)
	if !maps.Equal(m, map[string]int{"there": 1}) {
		t.Errorf("P13.3: %v", m)
	}
}

// TestPutByChance: whatever is put, taken back it is as it was.
func TestPutByChance(t *testing.T) {
	r := rand.New(rand.NewSource(13))
	for range 1000 {
		m := map[int]int{}
		var was []map[int]int
		var changes [][]former[int, int]
		for range r.Intn(8) {
			was = append(was, maps.Clone(m))
			var l []former[int, int]
			for range r.Intn(6) {
				key, value := r.Intn(5), r.Intn(3)
				l = append(l, put(m, key, value))
				if m[key] != value {
					t.Errorf("P13.2: %d, not %d", m[key], value)
				}
			}
			changes = append(changes, l)
		}
		for i := len(changes) - 1; i >= 0; i-- {
			if goBack(m, changes[i]); !maps.Equal(m, was[i]) {
				t.Fatalf("P13.3: %v, not %v", m, was[i])
			}
		}
	}
}

// TestKeepsNoMore: no more blocks are kept than can be taken back.
func TestKeepsNoMore(t *testing.T) {
	c := New()
	for height := 1; height < 30; height++ {
		if err := c.Connect(nil); err != nil || len(c.last) > 6 {
			t.Errorf("P13.3: %v, and %d blocks are kept", err, len(c.last))
		}
	}
}
