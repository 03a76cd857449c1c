package ast

// Same tells whether two expressions are the same.
func (e Expr) Same(o Expr) bool {
	var q questions
	return q.sameExprs(&e, &o) && q.allHold()
}

// Same tells whether two entries are the same, wherever they stand.
func (e Entry) Same(o Entry) bool {
	var q questions
	return e.Type == o.Type && e.Level == o.Level && e.Text == o.Text && e.Name == o.Name &&
		q.samePatterns(e.Value, o.Value) && q.sameAttrs(e.Attrs, o.Attrs) && q.allHold()
}

func (q *questions) sameExprs(e, o *Expr) bool {
	return e.Kind == o.Kind && e.Text == o.Text && e.Name == o.Name && e.Attr == o.Attr &&
		q.sameArgs(e.Args, o.Args) && q.sameWithin(e.Inner, o.Inner) && q.sameVariants(e.Variants, o.Variants)
}

// sameWithin is sameExprs of what stands within something, or is none.
func (q *questions) sameWithin(e, o *Expr) bool {
	if e == o || e == nil || o == nil {
		return e == o
	}
	return q.later(func() bool { return q.sameExprs(e, o) })
}

func (q *questions) sameArgs(list, other []Arg) bool {
	return areSame(len(list), len(other), func(i int) bool {
		return list[i].Name == other[i].Name && q.sameWithin(&list[i].Value, &other[i].Value)
	})
}

func (q *questions) sameVariants(list, other []Variant) bool {
	return areSame(len(list), len(other), func(i int) bool {
		v, o := &list[i], &other[i]
		return v.Key == o.Key && v.Default == o.Default && q.later(func() bool { return q.samePatterns(v.Value, o.Value) })
	})
}

func (q *questions) samePatterns(list, other []Elem) bool {
	return areSame(len(list), len(other), func(i int) bool {
		return list[i].Text == other[i].Text && q.sameWithin(list[i].Place, other[i].Place)
	})
}

func (q *questions) sameAttrs(list, other []Attr) bool {
	return areSame(len(list), len(other), func(i int) bool {
		return list[i].Name == other[i].Name && q.samePatterns(list[i].Value, other[i].Value)
	})
}

// areSame tells whether lists of so many elements are as long as each other, and the same at each place.
func areSame(size, otherSize int, isSame func(i int) bool) bool {
	if size != otherSize {
		return false
	}
	for i := range size {
		if !isSame(i) {
			return false
		}
	}
	return true
}
