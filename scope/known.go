package scope

// takes is how many arguments a function that is there takes, at least and at most; of a name that is none no number lies between both.
func takes(name string) (least, most int) {
	switch name {
	case "true", "false", "position", "last":
		return 0, 0
	case "string", "string-length", "normalize-space", "name", "root", "error":
		return 0, 1
	case "count", "empty", "exists", "not", "boolean", "data", "codepoints-to-string", "string-to-codepoints",
		"avg", "max", "min", "abs", "floor", "ceiling", "round", "reverse", "distinct-values",
		"exactly-one", "zero-or-one", "one-or-more", "doc",
		"xs:integer", "xs:decimal", "xs:string", "xs:boolean", "xs:untypedAtomic":
		return 1, 1
	case "sum":
		return 1, 2
	case "contains", "starts-with", "ends-with", "substring-before", "substring-after",
		"string-join", "compare", "index-of", "remove", "deep-equal":
		return 2, 2
	case "substring", "subsequence":
		return 2, 3
	case "concat":
		return 2, 8
	case "translate", "insert-before":
		return 3, 3
	}
	return 1, 0
}
