package thread

// joint is a node's place in a second picture of what hangs below what, in which the topmost one above any of them is found quickly. (To go up from one to the next takes as long as they hang deep, for every reference anew.)
//
// It is a link-cut tree: each of the paths that the forest is cut into is a splay tree, what hangs higher to the left. over leads to the one above in that tree; from a tree's head to the joint that its path hangs below.
type joint struct {
	over, left, right *joint
}

func (j *joint) isHead() bool {
	return j.over == nil || j.over.left != j && j.over.right != j
}

// rise exchanges j and the one over it, in the tree of one path.
func (j *joint) rise() {
	p := j.over
	if !p.isHead() {
		if p.over.left == p {
			p.over.left = j
		} else {
			p.over.right = j
		}
	}
	j.over, p.over = p.over, j
	if p.left == j {
		p.left, j.right = j.right, p
		p.left.setOver(p)
	} else {
		p.right, j.left = j.left, p
		p.right.setOver(p)
	}
}

func (j *joint) setOver(p *joint) {
	if j != nil {
		j.over = p
	}
}

// splay makes j the head of its tree.
func (j *joint) splay() {
	for !j.isHead() {
		p := j.over
		switch {
		case p.isHead():
		case (p.left == j) == (p.over.left == p):
			p.rise()
		default:
			j.rise()
		}
		j.rise()
	}
}

// open makes the way from the topmost one down to j one path, with j the head of its tree.
func (j *joint) open() {
	var below *joint
	for p := j; p != nil; p = p.over {
		p.splay()
		p.right = below
		below = p
	}
	j.splay()
}

// top is the topmost one above j, or j itself.
func (j *joint) top() *joint {
	j.open()
	for j.left != nil {
		j = j.left
	}
	j.splay()
	return j
}

// tie hangs j, which is topmost, below another one, which does not hang below j.
func (j *joint) tie(other *joint) {
	j.open()
	other.open()
	j.over = other
}

// loosen takes j off what it hangs below.
func (j *joint) loosen() {
	j.open()
	j.left.over = nil
	j.left = nil
}
