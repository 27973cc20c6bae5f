package enc

import (
	"math"
	"slices"
	"testing"

	"spool/api"
	"spool/shape"
)

// 15.1: each wave is brought into -2^20 to 2^20 ahead of the search, in each place. No right encoder has such waves, so that this is to be seen here alone.
func TestWavesAreBroughtNear(t *testing.T) {
	const edge = 1 << 20
	waves := []int{edge - 1, -edge / 2, 0, 7, edge, -edge, 300000, -1}
	for _, n := range []int{2, 4, 8} {
		for i := range n {
			for _, c := range [][2]int{
				{edge, edge}, {-edge, -edge}, {edge - 1, edge - 1}, {1 - edge, 1 - edge}, {edge + 1, edge}, {-edge - 1, -edge}, {2 * edge, edge}, {-2 * edge, -edge},
				{1<<32 + 5, edge}, {5 - 1<<32, -edge}, {math.MaxInt, edge}, {math.MinInt, -edge}, {math.MinInt + 1, -edge},
			} {
				far, near := slices.Clone(waves[:n]), slices.Clone(waves[:n])
				far[i], near[i] = c[0], c[1]
				for k := 1; k <= api.MaxPulse; k++ {
					handed := slices.Clone(far)
					want, err := shape.Find(near, k)
					if got := pulses(far, k); !slices.Equal(got, want) || err != api.OK {
						t.Errorf("pulses(%v, %d) = %v, want %v (%d)", far, k, got, want, err)
					}
					if !slices.Equal(far, handed) {
						t.Errorf("the waves %v became %v", handed, far)
					}
				}
			}
		}
	}
}
