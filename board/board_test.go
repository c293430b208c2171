package board_test

import (
	"math"
	"slices"
	"testing"

	"tstate/api"
	"tstate/board"
	"tstate/core"
	"tstate/irq"
	"tstate/memory"
	"tstate/pic"
	"tstate/regions"
)

// ram returns a board whose memory is RAM, with code from the address 0 on, the controller at port 0x20 and the DMA
// master at port 0x40.
func ram(chip int, code ...byte) api.Board {
	return api.Board{Chip: chip, Regions: []api.Region{{To: 0xFFFF, RAM: true}}, PicPort: 0x20, DmaPort: 0x40, Image: memory.Load(0, code)}
}

// P25.1: the errors, one by one, and which of two comes first. New and Run return them as well, and nothing else.
func TestErrors(t *testing.T) {
	many, wrong := make([]api.Region, api.MaxRegions+1), []api.Region{{From: 2, To: 1}}
	for i, x := range []struct {
		change func(b *api.Board)
		want   api.Errno
	}{
		{func(b *api.Board) {}, api.OK},
		{func(b *api.Board) { *b = api.Board{Chip: api.Chip8080} }, api.OK},
		{func(b *api.Board) { *b = api.Board{Chip: api.Chip8085} }, api.OK},
		{func(b *api.Board) { *b = api.Board{} }, api.ErrArgument},
		{func(b *api.Board) { b.Chip = 3 }, api.ErrArgument},
		{func(b *api.Board) { b.Chip = -1 }, api.ErrArgument},
		{func(b *api.Board) { b.Chip = api.Chip8085 + 256 }, api.ErrArgument},
		{func(b *api.Board) { b.Chip = math.MinInt }, api.ErrArgument},
		{func(b *api.Board) { b.Regions = many }, api.ErrLimit},
		{func(b *api.Board) { b.Regions = many[:api.MaxRegions] }, api.OK},
		{func(b *api.Board) { b.Regions = wrong }, api.ErrArgument},
		{func(b *api.Board) { b.Regions = []api.Region{{Waits: api.MaxWaits + 1}} }, api.ErrArgument},
		{func(b *api.Board) { b.Regions = []api.Region{{Waits: -1}} }, api.ErrArgument},
		{func(b *api.Board) { b.IOWaits = api.MaxWaits }, api.OK},
		{func(b *api.Board) { b.IOWaits = api.MaxWaits + 1 }, api.ErrArgument},
		{func(b *api.Board) { b.IOWaits = -1 }, api.ErrArgument},
		{func(b *api.Board) { b.IOWaits = math.MinInt }, api.ErrArgument},
		{func(b *api.Board) { b.Image = nil }, api.OK},
		{func(b *api.Board) { b.Image = []api.Cell{{At: 1, Val: 1}, {At: 2, Val: 1}} }, api.OK},
		{func(b *api.Board) { b.Image = []api.Cell{{At: 1, Val: 0}} }, api.ErrArgument},
		{func(b *api.Board) { b.Image = []api.Cell{{At: 2, Val: 1}, {At: 1, Val: 1}} }, api.ErrArgument},
		{func(b *api.Board) { b.Image = []api.Cell{{At: 2, Val: 1}, {At: 2, Val: 1}} }, api.ErrArgument},
		{func(b *api.Board) { b.PicPort, b.DmaPort, b.Jam = 255, 255, true }, api.OK},
		{func(b *api.Board) { b.Chip, b.Regions = 0, many }, api.ErrArgument},
		{func(b *api.Board) { b.Regions, b.IOWaits = many, -1 }, api.ErrLimit},
		{func(b *api.Board) { b.Regions, b.Image = many, []api.Cell{{}} }, api.ErrLimit},
	} {
		b := ram(api.Chip8085, 1, 2, 3)
		x.change(&b)
		s, e := board.New(b)
		r, e2 := board.Run(b, make([]byte, 40))
		if got := board.Validate(b); got != x.want || e != x.want || e2 != x.want {
			t.Errorf("%d: Validate, New and Run return %d, %d and %d, want %d", i, got, e, e2, x.want)
		}
		if e != api.OK && (!sameSystem(s, api.System{}) || !sameRun(r, api.Run{})) {
			t.Errorf("%d: beside an error there are %+v and %+v", i, s, r)
		}
	}
}

// P25.1: the error of the regions is that of regions.Validate, for any boards that are otherwise valid.
func TestErrorsOfManyBoards(t *testing.T) {
	m := newMaker()
	for range 20000 {
		b := m.board(m.one(chips))
		want := api.OK
		switch {
		case b.Chip != 1 && b.Chip != 2:
			want = api.ErrArgument
		case regions.Validate(b.Regions) != api.OK:
			want = regions.Validate(b.Regions)
		case b.IOWaits < 0 || b.IOWaits > 100 || !memory.Valid(b.Image):
			want = api.ErrArgument
		}
		s, e := board.New(b)
		if board.Validate(b) != want || e != want {
			t.Fatalf("Validate and New of %+v return %d and %d, want %d", b, board.Validate(b), e, want)
		}
		if e == api.OK && !sameSystem(s, beginning(b)) {
			t.Fatalf("New(%+v) = %+v", b, s)
		}
	}
}

// P25.1
func TestNew(t *testing.T) {
	for _, chip := range both {
		b := ram(chip, 0, 7, 0, 8)
		b.IOWaits, b.Jam = 5, chip == api.Chip8080
		s, _ := board.New(b)
		want := api.System{Core: core.New(chip), Memory: []api.Cell{{At: 1, Val: 7}, {At: 3, Val: 8}}, PIC: pic.New()}
		if !sameSystem(s, want) || s.PIC.Lowest != 7 || s.Core.CPU != irq.Reset(api.CPU{Chip: chip}) || s.Core.Next != api.T1 {
			t.Errorf("New(%+v) = %+v, want %+v", b, s, want)
		}
	}
}

// P25.1 and R2: the system does not share the image.
func TestNewCopiesTheImage(t *testing.T) {
	b := ram(api.Chip8080, 1, 2, 3)
	b.Image = b.Image[:2]
	s, _ := board.New(b)
	b.Image[0].Val = 9
	if !slices.Equal(s.Memory, []api.Cell{{At: 0, Val: 1}, {At: 1, Val: 2}}) {
		t.Errorf("the memory turns into %v", s.Memory)
	}
	for i := range s.Memory[:cap(s.Memory)] {
		s.Memory[:cap(s.Memory)][i].Val = 77
	}
	if got := b.Image[:3]; !slices.Equal(got, []api.Cell{{At: 0, Val: 9}, {At: 1, Val: 2}, {At: 2, Val: 3}}) {
		t.Errorf("the image turns into %v", got)
	}
}
