package unmark

import "unicode/utf8"

// tag is a tag that is not told yet.
type tag struct {
	kind         int // Start or End
	name         []byte
	buffer       []byte // the name as it came, kept in LESSNAME: it may turn out to be text
	attributes   []attribute
	names        map[string]struct{} // of the attributes: a look through them all for each would take long
	closesItself bool
}

// attribute is one of a tag that is not told yet.
type attribute struct {
	name  []byte
	value []byte
	twice bool // an earlier one has its name: it is dropped, once it is read
}

// lookWithinTag shows c to the state of a tag in which it is.
func (t *Tokenizer) lookWithinTag(c rune) verdict {
	switch t.state {
	case inAttr:
		return t.lookInAttr(c)
	case inName:
		return t.lookInName(c)
	case inAfter:
		return t.lookInAfter(c)
	case inEquals:
		return t.lookInEquals(c)
	case inDouble:
		return t.lookInQuotes(c, '"')
	case inSingle:
		return t.lookInQuotes(c, '\'')
	case inPlain:
		return t.lookInPlain(c)
	case inValue:
		return t.lookInValue(c)
	case inSelf:
		return t.lookInSelf(c)
	}
	return t.lookInTag(c)
}

func (t *Tokenizer) lookInTag(c rune) verdict {
	switch {
	case isBlank(c):
		return t.to(inAttr)
	case c == '/':
		return t.to(inSelf)
	case c == '>':
		return t.tellTag()
	case c == theEnd:
		return t.dropTag()
	}
	t.tag.name = utf8.AppendRune(t.tag.name, low(t.withoutNul(c)))
	return taken
}

func (t *Tokenizer) lookInSelf(c rune) verdict {
	switch c {
	case '>':
		t.tag.closesItself = true
		return t.tellTag()
	case theEnd:
		return t.dropTag()
	}
	t.wrong("slash")
	return t.again(inAttr)
}

// tellTag tells the tag, which is whole, and goes on where it leads to.
func (t *Tokenizer) tellTag() verdict {
	whole := t.tag
	t.tag = tag{}
	name := string(whole.name)
	if whole.kind == Start {
		t.tell(Token{Kind: Start, Name: name, Attrs: whole.attrs(), Flag: whole.closesItself})
		t.lastStart = name
		return t.leadTo(stateBehind(name))
	}
	if len(whole.attributes) > 0 {
		t.wrong("end-attributes")
	}
	if whole.closesItself {
		t.wrong("end-slash")
	}
	t.tell(Token{Kind: End, Name: name})
	return t.leadTo(inData)
}

// leadTo goes on with the texts that a tag leads to.
func (t *Tokenizer) leadTo(base state) verdict {
	t.base = base
	return t.to(base)
}

// dropTag drops the tag, which the end has cut off.
func (t *Tokenizer) dropTag() verdict {
	t.wrong("end-in-tag")
	t.tag = tag{}
	return taken
}

// stateBehind tells the state that a start tag of that name leads to.
func stateBehind(name string) state {
	switch name {
	case "title", "textarea":
		return inTitle
	case "script", "style", "xmp":
		return inRaw
	}
	return inData
}

// attrs tells the names and values, in turn, of the attributes that are not dropped.
func (g *tag) attrs() []string {
	var list []string
	for _, a := range g.attributes {
		if !a.twice {
			list = append(list, string(a.name), string(a.value))
		}
	}
	return list
}

func (g *tag) newAttribute() {
	g.attributes = append(g.attributes, attribute{})
}

// lastAttribute tells the one that is being read.
func (g *tag) lastAttribute() *attribute {
	return &g.attributes[len(g.attributes)-1]
}

// nameIsNew tells whether no earlier attribute has this name, and keeps it.
func (g *tag) nameIsNew(name string) bool {
	if _, known := g.names[name]; known {
		return false
	}
	if g.names == nil {
		g.names = make(map[string]struct{})
	}
	g.names[name] = struct{}{}
	return true
}
