// Package source: an upper chain that grows and turns, and that answers when
// it is asked, or does not: see DOC.md. It stands apart from package node so
// that a node sees of it what it asks for, and nothing else.
package source

import (
	"errors"
	"slices"
	"strings"

	"tributary/api"
	"tributary/check"
)

// ErrSilent is told in place of an answer.
var ErrSilent = errors.New("the upper chain does not answer")

// Chain is an upper chain.
type Chain struct {
	blocks []api.Upper
	lastId int // that any block got, one that has gone since too
	silent int // so often it will not answer
}

// New is a chain of this block, which must be such as may be the first one.
func New(first api.Upper) *Chain {
	c := &Chain{}
	c.lay(first)
	return c
}

// Extend lays a block behind the others, and tells its Id.
func (c *Chain) Extend(b api.Upper) (int, api.Errno) {
	if len(c.blocks) >= api.MaxUpper {
		return 0, api.ErrFull
	}
	if !check.Next(c.blocks[len(c.blocks)-1].Time, b) {
		return 0, api.ErrBlock
	}
	return c.lay(b), api.OK
}

// Turn takes the last depth blocks off.
func (c *Chain) Turn(depth int) api.Errno {
	if depth < 0 || depth >= len(c.blocks) {
		return api.ErrDepth
	}
	c.blocks = slices.Delete(c.blocks, len(c.blocks)-depth, len(c.blocks))
	return api.OK
}

// Fail lets the chain not answer so often, whatever an earlier Fail said.
func (c *Chain) Fail(times int) api.Errno {
	if times < 0 || times > api.MaxFail {
		return api.ErrDepth
	}
	c.silent = times
	return api.OK
}

// ByNumber answers with the block of a number, if there is one. The block is
// to be read, not to be kept or written to.
func (c *Chain) ByNumber(number int) (api.Upper, bool, error) {
	return c.answer(number)
}

// ById answers with the block of an Id, likewise.
func (c *Chain) ById(id int) (api.Upper, bool, error) {
	return c.answer(slices.IndexFunc(c.blocks, func(b api.Upper) bool { return b.Id == id }))
}

// answer is what the chain says when it is asked for its block i.
func (c *Chain) answer(i int) (api.Upper, bool, error) {
	if c.silent > 0 {
		c.silent--
		return api.Upper{}, false, ErrSilent
	}
	if i < 0 || i >= len(c.blocks) {
		return api.Upper{}, false, nil
	}
	return c.blocks[i], true, nil
}

// lay lays a copy of a block down, with the next Id, which it tells.
func (c *Chain) lay(b api.Upper) int {
	c.lastId++
	b = clone(b)
	b.Id = c.lastId
	c.blocks = append(c.blocks, b)
	return b.Id
}

// clone shares no memory with the block that was handed in.
func clone(b api.Upper) api.Upper {
	b.Txs = slices.Clone(b.Txs)
	for i := range b.Txs {
		b.Txs[i].Data = strings.Clone(b.Txs[i].Data)
	}
	b.Logs = slices.Clone(b.Logs)
	for i := range b.Logs {
		b.Logs[i] = strings.Clone(b.Logs[i])
	}
	return b
}
