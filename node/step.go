package node

import "tributary/api"

// step goes back if it must, else on, and tells which. Beside an error, which
// the upper chain gives when it does not answer, nothing has changed.
func (n *Node) step() (uint8, error) {
	common, err := n.common()
	if err != nil {
		return 0, err
	}
	if n.reset || common != n.view.last() {
		return api.Back, n.goBack(common)
	}
	return n.goOn()
}

// common is the number of the last block that the node has taken and the
// upper chain still has.
func (n *Node) common() (int, error) {
	for number, id := range n.view.ancestors() {
		_, found, err := n.upper.ById(id)
		if found || err != nil {
			return number, err
		}
	}
	// Not reached: no Turn takes the first block off.
	return 0, nil
}

// goOn lays down what has come, or takes the next block of the upper chain.
func (n *Node) goOn() (uint8, error) {
	v := n.view
	if len(v.coming) == 0 {
		b, found, err := n.upper.ByNumber(len(v.seen))
		if !found || err != nil {
			return api.Idle, err
		}
		v.take(b)
	}
	v.lay(len(v.coming))
	return api.Going, nil
}

// goBack goes back to the block common, and draws again what the upper chain
// gives up to there: all of it, since what waits at a block hangs on blocks
// far ahead of it. But the log becomes no shorter than it must. Blocks behind
// common may well give what the log has, so they are taken too, up to the
// first one that gives something else.
func (n *Node) goBack(common int) error {
	log := n.view.log
	v := newView(n.config)
	for number := 0; number <= common || v.regains(log); number++ {
		b, found, err := n.upper.ByNumber(number)
		if err != nil {
			return err
		}
		if !found {
			break
		}
		v.take(b)
		v.lay(alike(v.coming, log[len(v.log):]))
	}
	n.view = v
	n.reset = false
	return nil
}
