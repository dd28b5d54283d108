package names

import (
	"metronome/api"
)

// nodeCheck checks a node.
type nodeCheck struct {
	*checker
	node    api.Node
	defined set
}

func (c *checker) checkNode(node api.Node) fault {
	n := &nodeCheck{checker: c, node: node}
	return inOrder(n.name, n.inputs, n.outputs, n.locals, n.items, n.outputsDefined, n.localsDefined, n.localClocks, n.leave)
}

func (n *nodeCheck) name() fault {
	if n.there[aNode].has(n.node.Name) {
		return fault{n.node.At, api.ErrTwice}
	}
	return fault{}
}

func (n *nodeCheck) inputs() fault { return n.declare(anIn, n.node.Ins) }

func (n *nodeCheck) outputs() fault { return n.declare(anOwn, n.node.Outs) }

func (n *nodeCheck) locals() fault { return n.declare(anOwn, n.node.Locals) }

func (n *nodeCheck) items() (f fault) {
	n.defined, f = n.checkItems(n.node.Items)
	return f
}

func (n *nodeCheck) outputsDefined() fault { return missing(n.node.Outs, n.defined) }

func (n *nodeCheck) localsDefined() fault { return missing(n.node.Locals, n.defined) }

func (n *nodeCheck) localClocks() fault { return n.clocks(n.node.Locals, n.node.Items) }

// leave lets the nodes behind this one call it, but not see its variables.
func (n *nodeCheck) leave() fault {
	n.forget(anIn, n.node.Ins)
	n.forget(anOwn, n.node.Outs)
	n.forget(anOwn, n.node.Locals)
	n.there[aNode].add(n.node.Name)
	return fault{}
}
