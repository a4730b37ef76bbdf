package parse

import "espalier/api"

// The levels of expressions, as the grammar's rows name them: what stands on one binds closer than what stands on those ahead.
const (
	listLevel = iota
	singleLevel
	orLevel
	andLevel
	compareLevel
	rangeLevel
	sumLevel
	productLevel
	unionLevel
	interLevel
	instanceLevel
	treatLevel
	castableLevel
	castLevel
	unaryLevel
	pathLevel
	stepLevel
)

// operator is a word between two operands.
type operator struct {
	word  string
	op    api.Op
	level int
}

// operators are all of them; of two words for one thing the writer takes the first.
var operators = [...]operator{
	{"or", api.Or, orLevel},
	{"and", api.And, andLevel},
	{"eq", api.VEq, compareLevel},
	{"ne", api.VNe, compareLevel},
	{"lt", api.VLt, compareLevel},
	{"le", api.VLe, compareLevel},
	{"gt", api.VGt, compareLevel},
	{"ge", api.VGe, compareLevel},
	{"=", api.GEq, compareLevel},
	{"!=", api.GNe, compareLevel},
	{"<", api.GLt, compareLevel},
	{"<=", api.GLe, compareLevel},
	{">", api.GGt, compareLevel},
	{">=", api.GGe, compareLevel},
	{"is", api.Is, compareLevel},
	{"<<", api.Before, compareLevel},
	{">>", api.After, compareLevel},
	{"to", api.Range, rangeLevel},
	{"+", api.Add, sumLevel},
	{"-", api.Sub, sumLevel},
	{"*", api.Mul, productLevel},
	{"div", api.Div, productLevel},
	{"idiv", api.IDiv, productLevel},
	{"mod", api.Mod, productLevel},
	// The sign goes ahead of the word, for it can't be read as a step's name behind a / that stands alone.
	{"|", api.Union, unionLevel},
	{"union", api.Union, unionLevel},
	{"intersect", api.Inter, interLevel},
	{"except", api.Except, interLevel},
}

// byWord is the operators by their words.
func byWord() map[string]operator {
	all := map[string]operator{}
	for _, o := range operators {
		all[o.word] = o
	}
	return all
}

// ofOp is the operator that makes such expressions; false, if none does.
func ofOp(op api.Op) (operator, bool) {
	for _, o := range operators {
		if o.op == op {
			return o, true
		}
	}
	return operator{}, false
}

// once tells whether an operator stands but once between operands of the next level.
func (o operator) once() bool {
	return o.level == compareLevel || o.level == rangeLevel
}

// typing is two words and a type behind an operand.
type typing struct {
	first, second string
	op            api.Op
	level         int
}

// typings are all of them, the closest first.
var typings = [...]typing{
	{"cast", "as", api.Cast, castLevel},
	{"castable", "as", api.Castable, castableLevel},
	{"treat", "as", api.Treat, treatLevel},
	{"instance", "of", api.Instance, instanceLevel},
}

// axes are the axes' names.
var axes = [api.Axes]string{
	api.Child:      "child",
	api.Descendant: "descendant",
	api.Attribute:  "attribute",
	api.Self:       "self",
	api.DescSelf:   "descendant-or-self",
	api.Following:  "following-sibling",
	api.Parent:     "parent",
	api.Ancestor:   "ancestor",
	api.Preceding:  "preceding-sibling",
	api.AncSelf:    "ancestor-or-self",
}

// kind is a word that is a test, if parentheses stand behind it.
type kind struct {
	word string
	test api.TestKind
	item api.ItemKind
}

var kinds = [...]kind{
	{"node", api.AnyNode, api.NodeItem},
	{"text", api.TextTest, api.TextItem},
	{"comment", api.CommentTest, api.ComItem},
	{"document-node", api.DocTest, api.DocItem},
	{"element", api.ElemTest, api.ElemItem},
	{"attribute", api.AttrTest, api.AttrItem},
}

// named tells whether a name may stand in the parentheses.
func (k kind) named() bool {
	return k.test == api.ElemTest || k.test == api.AttrTest
}

// atomTypes are the names of the types of atomic values.
var atomTypes = [...]struct {
	word string
	item api.ItemKind
}{
	{"xs:integer", api.IntItem},
	{"xs:decimal", api.DecItem},
	{"xs:string", api.StrItem},
	{"xs:boolean", api.BoolItem},
	{"xs:untypedAtomic", api.UntItem},
	{"xs:anyAtomicType", api.AtomItem},
}

// maker is a word that begins a Computed.
type maker struct {
	word string
	op   api.Op
}

var makers = [...]maker{
	{"element", api.MakeElem},
	{"attribute", api.MakeAttr},
	{"text", api.MakeText},
	{"comment", api.MakeCom},
	{"document", api.MakeDoc},
}

// named tells whether what is made has a name.
func (m maker) named() bool {
	return m.op == api.MakeElem || m.op == api.MakeAttr
}

// anything is the type that no "as" says.
var anything = api.SeqType{Item: api.AnyItem, Occ: api.Star}
