package tree

import (
	"strconv"
	"strings"

	"augury/api"
)

// quote stands ahead of a text, and behind it.
const quote = '\''

// texts are those of numbers, by these; the others have none.
type texts [api.ExSub + 1]string

// What numbers of the package api are in a query's text.

func cmps() texts {
	return texts{api.Eq: "=", api.Ne: "!=", api.Lt: "<", api.Le: "<=", api.Gt: ">", api.Ge: ">="}
}

func modes() texts { return texts{api.Plus: "+", api.Opt: "?"} }

func picks() texts { return texts{api.Any: "any", api.Next: "next", api.Strict: "strict"} }

func calls() texts {
	return texts{api.ExCount: "count", api.ExSum: "sum", api.ExMin: "min", api.ExMax: "max"}
}

func sums() texts { return texts{api.ExAdd: "+", api.ExSub: "-"} }

// truths are the texts of a Bool's N.
var truths = [2]string{"false", "true"}

// Print is a query's text; nothing, if it is not right.
func Print(q api.Query) string {
	if !Right(q) {
		return ""
	}
	text := "seq " + joined(q.Items, " then ", itemText)
	if len(q.Preds) > 0 {
		text += " where " + joined(q.Preds, " and ", predText)
	}
	text += " within " + strconv.FormatInt(q.Within, 10)
	if q.By != "" {
		text += " by " + q.By
	}
	return text + " pick " + picks()[q.Pick]
}

// joined are the texts of all of l, with one between each two.
func joined[T any](l []T, between string, text func(x T) string) string {
	var all []string
	for _, x := range l {
		all = append(all, text(x))
	}
	return strings.Join(all, between)
}

func itemText(i api.Item) string {
	text := strings.Join(i.Names, " or ") + " " + i.Var + modes()[i.Mode]
	if i.Not {
		return "not " + text
	}
	return text
}

func predText(p api.Pred) string {
	return exprText(p.L) + " " + cmps()[p.Cmp] + " " + exprText(p.R)
}

func exprText(x api.Expr) string {
	switch x.Kind {
	case api.ExVal:
		return valText(x.Val)
	case api.ExField:
		return x.Var + "." + x.Field
	case api.ExCount:
		return calls()[x.Kind] + "(" + x.Var + ")"
	case api.ExSum, api.ExMin, api.ExMax:
		return calls()[x.Kind] + "(" + x.Var + "." + x.Field + ")"
	}
	// Without brackets the first two are together first.
	second := exprText(x.Kids[1])
	if double(x.Kids[1].Kind) {
		second = "(" + second + ")"
	}
	return exprText(x.Kids[0]) + " " + sums()[x.Kind] + " " + second
}

func valText(v api.Val) string {
	switch v.Kind {
	case api.Text:
		return string(quote) + v.S + string(quote)
	case api.Bool:
		return truths[v.N]
	}
	return strconv.FormatInt(v.N, 10)
}
