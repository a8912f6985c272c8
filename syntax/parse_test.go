package syntax

import (
	"strings"
	"testing"

	"skerry/api"
	"skerry/fragment"
	"skerry/lex"
)

// P4.1: what is parsed

func TestExpr(t *testing.T) {
	for _, x := range []struct{ text, want string }{
		// atoms
		{"3", "3"}, {"-3", "-3"}, {"#t", "#t"}, {"#f", "#f"}, {"x", "x"}, {"<a>", "<a>"}, {"x@l", "x@l"}, {"( x )", "x"}, {"( ( -3 ) )", "-3"},
		{"begin end", "#f"}, {"begin a end", "a"}, {"begin a ; end", "a"}, {"begin a ; b end", "(seq a b)"}, {"begin begin a ; b end ; c end", "(seq (seq a b) c)"},
		{"begin begin a ; b end end", "(seq a b)"}, {"begin a ; begin b ; c end end", "(seq a (seq b c))"},
		{"method ( ) end", "(fn [] #f)"}, {"method ( x ) x end", "(fn [x:<object>] x)"}, {"method ( x :: <a> , y ) x ; y ; end", "(fn [x:<a> y:<object>] (seq x y))"},
		{"method ( x == 3 , y == -3 , z == #t , u == #f ) end", "(fn [x:3..3 y:-3..-3 z:bool1 u:bool0] #f)"}, {"method ( x@3 :: type-union ( ) ) x@3 end", "(fn [x@3:union[]] x@3)"},
		{"if ( a ) end", "(if a #f #f)"}, {"if ( a ) b end", "(if a b #f)"}, {"if ( a ) b else c end", "(if a b c)"}, {"if ( a ) else c end", "(if a #f c)"}, {"if ( a ) b else end", "(if a b #f)"},
		{"if ( a ) b ; elseif ( c ) d ; else e ; end", "(if a b (if c d e))"}, {"if ( a ) elseif ( c ) end", "(if a #f (if c #f #f))"}, {"if ( a ) b elseif ( c ) d elseif ( e ) f end", "(if a b (if c d (if e f #f)))"},
		{"if ( a ) b ; c else d ; e end", "(if a (seq b c) (seq d e))"}, {"if ( a ) ( b ) + c end", "(if a (prim + b c) #f)"},
		{"block ( ) end", "(block #f)"}, {"block ( x ) x ( 1 ) end", "(block x (call x 1))"}, {"block ( ) a cleanup b end", "(block a b)"}, {"block ( x ) a ; b ; cleanup c ; d ; end", "(block x (seq a b) (seq c d))"}, {"block ( ) cleanup end", "(block #f #f)"},
		{"next-method ( )", "(next)"}, {"next-method ( a , -1 )", "(next a -1)"}, {"next-method ( ) ( a )", "(call (next) a)"},
		{"make ( <a> )", "(make <a>)"}, {"make ( f ( x ) , k: 1 , end: 2 )", "(make (call f x) k: 1 end: 2)"},
		{"instance? ( a , <b> )", "(is <b> a)"}, {"load-patch ( 0 )", "(load)"}, {"load-patch ( 7 )", "(load 7)"},
		{"print ( a )", "(prim print a)"}, {"signal ( a )", "(prim signal a)"}, {"object-class ( a )", "(prim class-of a)"}, {"quotient ( a , b )", "(prim quotient a b)"},
		// calls
		{"f ( )", "(call f)"}, {"f ( a )", "(call f a)"}, {"f ( a , 1 , g ( ) )", "(call f a 1 (call g))"}, {"f ( a ) ( b )", "(call (call f a) b)"}, {"3 ( a )", "(call 3 a)"}, {"#t . x", "(call x #t)"},
		{"a . x", "(call x a)"}, {"a . x . y", "(call y (call x a))"}, {"a . x ( b )", "(call (call x a) b)"}, {"f ( a ) . x", "(call x (call f a))"}, {"( a ) ( b )", "(call a b)"}, {"begin a end ( b )", "(call a b)"},
		// operators
		{"a + b", "(prim + a b)"}, {"a - b", "(prim - a b)"}, {"a * b", "(prim * a b)"}, {"a / b", "(prim quotient a b)"}, {"a = b", "(prim = a b)"}, {"a == b", "(prim == a b)"}, {"a < b", "(prim < a b)"}, {"a > b", "(prim > a b)"}, {"a <= b", "(prim <= a b)"}, {"a >= b", "(prim >= a b)"},
		{"a & b", "(if a b #f)"}, {"a | b", "(let %| a (if %| %| b))"}, {"~ a", "(prim not a)"}, {"- a", "(prim - 0 a)"}, {"- 3", "(prim - 0 3)"}, {"- -3", "(prim - 0 -3)"}, {"~ - ~ a", "(prim not (prim - 0 (prim not a)))"}, {"1 - - 2", "(prim - 1 (prim - 0 2))"},
		{"a - b - c", "(prim - (prim - a b) c)"}, {"a - b + c", "(prim + (prim - a b) c)"}, {"a / b * c", "(prim * (prim quotient a b) c)"}, {"a < b = c", "(prim = (prim < a b) c)"}, {"a == b >= c", "(prim >= (prim == a b) c)"}, {"a & b & c", "(if (if a b #f) c #f)"},
		{"a & b | c", "(let %| (if a b #f) (if %| %| c))"}, {"a | b & c", "(if (let %| a (if %| %| b)) c #f)"}, {"a | b | c", "(let %| (let %| a (if %| %| b)) (if %| %| c))"}, {"a | ( b | c )", "(let %| a (if %| %| (let %| b (if %| %| c))))"},
		{"a + b * c", "(prim + a (prim * b c))"}, {"a * b + c", "(prim + (prim * a b) c)"}, {"a + b = c - d", "(prim = (prim + a b) (prim - c d))"}, {"a = b & c", "(if (prim = a b) c #f)"}, {"a & b = c", "(if a (prim = b c) #f)"}, {"- a * b", "(prim * (prim - 0 a) b)"}, {"~ a = b", "(prim = (prim not a) b)"},
		{"- f ( a )", "(prim - 0 (call f a))"}, {"~ a . x", "(prim not (call x a))"}, {"a * - b", "(prim * a (prim - 0 b))"}, {"( a + b ) * c", "(prim * (prim + a b) c)"}, {"a - ( b - c )", "(prim - a (prim - b c))"}, {"f ( x ) . y + 1", "(prim + (call y (call f x)) 1)"},
		// setters
		{"p . x := 3", "(call x-setter 3 p)"}, {"x ( p ) := 3", "(call x-setter 3 p)"}, {"x ( ) := 3", "(call x-setter 3)"}, {"x ( a , b ) := c", "(call x-setter c a b)"}, {"x@l ( p ) := 3", "(call x-setter@l 3 p)"}, {"<a> ( p ) := 3", "(call <a>-setter 3 p)"},
		{"p . x . y := 3", "(call y-setter 3 (call x p))"}, {"( p . x ) := 3", "(call x-setter 3 p)"}, {"p . x := q . y := 3", "(call x-setter (call y-setter 3 q) p)"}, {"p . x := a | b", "(call x-setter (let %| a (if %| %| b)) p)"}, {"( p . x := 3 ) ( 4 )", "(call (call x-setter 3 p) 4)"},
		{"p . x-setter := 3", "(call x-setter-setter 3 p)"}, {"begin let x-setter = f ; p . x := 3 end", "(let x-setter f (call x-setter 3 p))"},
	} {
		e, at, err := ParseExpr(toks(x.text))
		if err != api.OK || at != 0 || show(e) != x.want {
			t.Errorf("ParseExpr(%s) = %s, %d, %d; expected %s", x.text, show(e), at, err, x.want)
		}
	}
}

func TestBodies(t *testing.T) {
	for _, x := range []struct{ body, want string }{
		{"", "#f"}, {"a", "a"}, {"a ;", "a"}, {"a ; b", "(seq a b)"}, {"a ; b ; c ;", "(seq a b c)"},
		{"let x = a", "(let x a #f)"}, {"let x = a ;", "(let x a #f)"}, {"let x = a ; x", "(let x a x)"}, {"let x = a ; x ; y", "(let x a (seq x y))"}, {"let x = a ; let y = b ; c", "(let x a (let y b c))"}, {"let x@3 = a ; x@3", "(let x@3 a x@3)"},
		{"a ; let x = b", "(seq a (let x b #f))"}, {"a ; let x = b ; c", "(seq a (let x b c))"}, {"a ; b ; let x = c ; d ; e ;", "(seq a b (let x c (seq d e)))"}, {"let x = a ; b ; let y = c ; d", "(let x a (seq b (let y c d)))"},
		{"let handler <e> = h", "(handle <e> h #f)"}, {"let handler <e> = h ; a ; b", "(handle <e> h (seq a b))"}, {"a ; let handler limited ( 1 , 2 ) = h ; b", "(seq a (handle 1..2 h b))"}, {"a ; b ; let handler <e> = h ;", "(seq a b (handle <e> h #f))"},
		{"local method f ( ) end", "(let f (fn f [] #f) #f)"}, {"local method f ( x ) f ( x ) end ; f", "(let f (fn f [x:<object>] (call f x)) f)"}, {"a ; local method f ( x :: <a> , y == 1 ) a ; b end ; c ; d", "(seq a (let f (fn f [x:<a> y:1..1] (seq a b)) (seq c d)))"},
		{"let f = method ( ) f end ; f", "(let f (fn [] f) f)"}, {"local method f ( f ) f end ; f", "(let f (fn f [f:<object>] f) f)"},
		{"let handler <e> = h ; local method f ( ) end ; let x = a ; x", "(handle <e> h (let f (fn f [] #f) (let x a x)))"},
		{"- a", "(prim - 0 a)"}, {"( a ) ; ( b )", "(seq a b)"}, {"a := b", ""}, {"f ( ) := b ; c", "(seq (call f-setter b) c)"},
	} {
		for _, y := range []struct{ text, want string }{
			{"begin # end", "#"}, {"method ( ) # end", "(fn [] #)"}, {"if ( a ) # end", "(if a # #f)"}, {"if ( a ) # else b end", "(if a # b)"}, {"if ( a ) # elseif ( b ) c end", "(if a # (if b c #f))"},
			{"if ( a ) b else # end", "(if a b #)"}, {"if ( a ) b elseif ( c ) # end", "(if a b (if c # #f))"}, {"block ( ) # end", "(block #)"}, {"block ( ) # cleanup a end", "(block # a)"}, {"block ( ) a cleanup # end", "(block a #)"},
			{"begin local method g ( ) # end end", "(let g (fn g [] #) #f)"},
		} {
			text, want := strings.ReplaceAll(y.text, "#", x.body), strings.Replace(y.want, "#", x.want, 1)
			e, at, err := ParseExpr(toks(text))
			if x.want == "" {
				if err != api.ErrParse {
					t.Errorf("ParseExpr(%s) = %s, %d, %d", text, show(e), at, err)
				}
			} else if err != api.OK || show(e) != want {
				t.Errorf("ParseExpr(%s) = %s, %d, %d; expected %s", text, show(e), at, err, want)
			}
		}
	}
}

func TestType(t *testing.T) {
	for _, x := range []struct{ text, want string }{
		{"<a>", "<a>"}, {"a", "a"}, {"<a>@l", "<a>@l"}, {"limited ( 0 , 9 )", "0..9"}, {"limited ( -9 , -9 )", "-9..-9"}, {"singleton ( 3 )", "3..3"}, {"singleton ( -3 )", "-3..-3"}, {"singleton ( #t )", "bool1"}, {"singleton ( #f )", "bool0"},
		{"subclass ( <a> )", "sub:<a>"}, {"type-union ( )", "union[]"}, {"type-union ( <a> )", "union[<a>]"}, {"type-union ( <a> , limited ( 0 , 9 ) )", "union[<a> 0..9]"}, {"type-union ( type-union ( ) , type-union ( <a> ) , <b> )", "union[union[] union[<a>] <b>]"},
	} {
		y, at, e := ParseType(toks(x.text))
		if e != api.OK || at != 0 || showType(y) != x.want {
			t.Errorf("ParseType(%s) = %s, %d, %d; expected %s", x.text, showType(y), at, e, x.want)
		}
	}
}

func TestSource(t *testing.T) {
	for _, x := range []struct{ text, want string }{
		{"library a ;", "library a"}, {"patch a-1 ;", "patch a-1"},
		{"library a ; use b ;", "library a / use b true []"}, {"library a ; use b ; use c ;", "library a / use b true [] / use c true []"}, {"library a ; use b , prefix: p_ ;", "library a / use b true p_[]"},
		{"library a ; use b , import: { x } ;", "library a / use b false [x>x]"}, {"library a ; use b , import: { x => y , z , u => v } ;", "library a / use b false [x>y z>z u>v]"},
		{"library a ; export x ;", "library a / export [x]"}, {"library a ; export x , <y> ;", "library a / export [x <y>]"}, {"library a ; use b ; export x ; define constant x = 1 ; x", "library a / use b true [] / export [x] / constant x 1 / x"},
		{"library a ; x", "library a / x"}, {"library a ; x ;", "library a / x"}, {"library a ; -3", "library a / -3"}, {"library a ; begin a ; b end ;", "library a / (seq a b)"},
		{"library a ; define constant x = -1 ; define constant <y> = f ( x ) ;", "library a / constant x -1 / constant <y> (call f x)"},
		{"library a ; define generic f ( ) ;", "library a / generic f 0 false"}, {"library a ; define sealed generic f ( x ) ;", "library a / generic f 1 true"}, {"library a ; define generic f ( x , x , y@l ) ;", "library a / generic f 3 false"},
		{"library a ; define method f ( ) end ;", "library a / method f [] <object> #f"}, {"library a ; define method f ( x :: <a> , y == 2 , z ) => <b> x ; y end ;", "library a / method f [x:<a> y:2..2 z:<object>] <b> (seq x y)"}, {"library a ; define method f@l ( ) => type-union ( ) ( 1 ) end ;", "library a / method f@l [] union[] 1"},
		{"library a ; define sealed method f ( ) end ;", "library a / method f [] <object> #f / domain f []"}, {"library a ; define sealed method f ( x , y :: <a> , z == #t ) 1 end ; 2", "library a / method f [x:<object> y:<a> z:bool1] <object> 1 / domain f [<object> <a> bool1] / 2"},
		{"library a ; define sealed domain f ( ) ;", "library a / domain f []"}, {"library a ; define sealed domain f@l ( <a> , subclass ( <b> ) ) ;", "library a / domain f@l [<a> sub:<b>]"},
		{"library a ; define class <c> ( <a> ) end ;", "library a / class <c> [<a>] false false []"}, {"library a ; define abstract class <c> ( <a> , <b>@l ) end ;", "library a / class <c> [<a> <b>@l] true false []"}, {"library a ; define sealed class <c> ( <a> ) end ;", "library a / class <c> [<a>] false true []"}, {"library a ; define abstract sealed class c ( a ) end ;", "library a / class c [a] true true []"},
		{"library a ; define class <c> ( <a> ) slot x ; end ;", "library a / class <c> [<a>] false false [1:x:<object>::[]]"}, {"library a ; define class <c> ( <a> ) class slot x ; each-subclass slot y ; virtual slot z ; slot u :: <b> ; end ;", "library a / class <c> [<a>] false false [2:x:<object>::[] 3:y:<object>::[] 4:z:<object>::[] 1:u:<b>::[]]"},
		{"library a ; define class <c> ( <a> ) slot x , init-keyword: k: ; slot y :: <b> , init-value: f ( -1 ) ; end ;", "library a / class <c> [<a>] false false [1:x:<object>:k:[] 1:y:<b>::[(call f -1)]]"}, {"library a ; define class <c> ( <a> ) slot x , init-value: -1 , init-keyword: slot: , init-value: 2 , init-keyword: end: ; end ;", "library a / class <c> [<a>] false false [1:x:<object>:end:[2]]"},
		{"patch a ; define constant x = 1 ;", "patch a / constant x 1"},
	} {
		s, at, e := ParseTokens(toks(x.text))
		if e != api.OK || at != 0 || showSource(s) != x.want {
			t.Errorf("ParseTokens(%s) = %s, %d, %d; expected %s", x.text, showSource(s), at, e, x.want)
		}
	}
}

// Parse is ParseTokens of fragment.Flat.
func TestParse(t *testing.T) {
	text := "library a; define class <c> (<object>) slot x; end class <c>; define sealed method f (o :: type-union(<c>, <d>)) if (o) 1 end end method f; define method g () end g; f(3)"
	tokens, _, _ := lex.Scan(text)
	frags, _, _ := fragment.Read(tokens, nil)
	s, at, e := Parse(frags)
	want := "library a / class <c> [<object>] false false [1:x:<object>::[]] / method f [o:union[<c> <d>]] <object> (if o 1 #f) / domain f [union[<c> <d>]] / method g [] <object> #f / (call f 3)"
	if e != api.OK || at != 0 || showSource(s) != want {
		t.Errorf("Parse(%s) = %s, %d, %d; expected %s", text, showSource(s), at, e, want)
	}
	if !apart(s) {
		t.Errorf("Parse(%s) has lists with the same memory", text)
	}
	if _, at, e := ParseTokens(tokens); at != 13 || e != api.ErrParse {
		t.Errorf("ParseTokens(%s) = %d, %d", text, at, e)
	}
	deep := []api.Frag{{Tok: toks("(")[0], Open: "("}}
	for range api.MaxDeep {
		deep = []api.Frag{{Tok: toks("(")[0], Open: "(", Kids: deep}}
	}
	for _, l := range [][]api.Frag{nil, {}, deep, make([]api.Frag, api.MaxTokens+1)} { // fragment.Flat has no tokens for them
		if s, at, e := Parse(l); !same(s, api.Source{}) || at != 0 || e != api.ErrParse {
			t.Errorf("Parse of %d fragments = %s, %d, %d", len(l), showSource(s), at, e)
		}
	}
}

// Marks

func TestMarks(t *testing.T) {
	for _, x := range []struct{ text, want string }{
		{"x'1", "x@0"}, {"x", "x"}, {"begin x'1 ; y'2 ; f'1 ( -1 ) end", "(seq x@0 y@0 (call f@0 -1))"}, {"a . x'7", "(call x@0 a)"}, {"make ( c'1 , k:'1 a'1 )", "(make c@0 k: a@0)"},
		// let: the rest of the body
		{"begin let x'1 = x'1 ; x'1 ; x ; x'2 end", "(let x@1 x@0 (seq x@1 x x@0))"}, {"begin let x = a ; x'1 ; x end", "(let x a (seq x@0 x))"}, {"begin let'3 x'12 ='4 a ; x'12 end", "(let x@12 a x@12)"},
		{"begin begin let x'1 = a ; x'1 end ; x'1 end", "(seq (let x@1 a x@1) x@0)"}, {"begin let x'1 = a ; begin let x'1 = x'1 ; x'1 end ; x'1 end", "(let x@1 a (seq (let x@1 x@1 x@1) x@1))"}, {"begin let x'1 = a ; let x'2 = b ; x'1 + x'2 end", "(let x@1 a (let x@2 b (prim + x@1 x@2)))"},
		{"begin x'1 ; let x'1 = a end", "(seq x@0 (let x@1 a #f))"}, {"begin let x'1 = a ; let y = x'1 ; b . x'1 end", "(let x@1 a (let y x@1 (call x@1 b)))"},
		// local: the method itself, too
		{"begin f'1 ; local method f'1 ( ) f'1 end ; f'1 end", "(seq f@0 (let f@1 (fn f@1 [] f@1) f@1))"}, {"begin local method f'1 ( x'1 , f'2 , y ) x'1 ; f'1 ; f'2 ; y'1 ; y end ; x'1 ; f'2 end", "(let f@1 (fn f@1 [x@1:<object> f@2:<object> y:<object>] (seq x@1 f@1 f@2 y@0 y)) (seq x@0 f@0))"},
		{"begin begin local method f'1 ( ) end end ; f'1 end", "(seq (let f@1 (fn f@1 [] #f) #f) f@0)"},
		// parameters: the body of the method
		{"begin method ( x'1 ) x'1 end ; x'1 end", "(seq (fn [x@1:<object>] x@1) x@0)"}, {"method ( x'1 , x'2 , x ) x'1 ; x'2 ; x'3 ; x end", "(fn [x@1:<object> x@2:<object> x:<object>] (seq x@1 x@2 x@0 x))"},
		// block: the first body
		{"begin block ( x'1 ) x'1 cleanup x'1 end ; x'1 end", "(seq (block x@1 x@1 x@0) x@0)"}, {"block ( x'1 ) method ( ) x'1 end end", "(block x@1 (fn [] x@1))"},
		// handlers bind nothing
		{"begin let x'1 = a ; let handler <e>'1 = x'1 ; x'1 end", "(let x@1 a (handle <e> x@1 x@1))"},
		// names that are no variables have no marks
		{"instance? ( a , type-union ( <b>'1 , subclass ( <c>'2 ) ) )", "(is union[<b> sub:<c>] a)"}, {"method ( x'1 :: <a>'1 ) end", "(fn [x@1:<a>] #f)"}, {"make ( a , k:'3 b )", "(make a k: b)"}, {"print'1 ( a )", "(prim print a)"},
		// words and signs
		{"if'1 ('1 a )'1 b'1 else'1 c end'1", "(if a b@0 c)"}, {"a'1 |'1 b", "(let %| a@0 (if %| %| b))"}, {"begin let x'1 = a ; x'1 | x'1 end", "(let x@1 a (let %| x@1 (if %| %| x@1)))"},
		// names that are qualified have no marks, and are what they are
		{"begin let x@1 = a ; x@1 ; x'1 end", "(let x@1 a (seq x@1 x@0))"}, {"begin let x'1 = a ; x@1 end", "(let x@1 a x@1)"},
		// setters
		{"p . x'1 := v", "(call x-setter@0 v p)"}, {"x'1 ( p , q ) := v", "(call x-setter@0 v p q)"}, {"p . x-setter'1 := v", "(call x-setter-setter@0 v p)"}, {"begin let x'1 = a ; p . x'1 := v end", "(let x@1 a (call x-setter@0 v p))"},
		{"begin let x'1 = a ; let x-setter'1 = b ; p . x'1 := v end", "(let x@1 a (let x-setter@1 b (call x-setter@1 v p)))"}, {"begin let x'1 = a ; let x-setter'2 = b ; let x-setter = c ; p . x'1 := v end", "(let x@1 a (let x-setter@2 b (let x-setter c (call x-setter@0 v p))))"},
		{"begin let x-setter'1 = b ; p . x'1 := v end", "(let x-setter@1 b (call x-setter@0 v p))"}, {"begin let x'1 = a ; begin let x-setter'1 = b end ; p . x'1 := v end", "(let x@1 a (seq (let x-setter@1 b #f) (call x-setter@0 v p)))"}, {"begin let x'1 = a ; let x-setter@1 = b ; p . x'1 := v end", "(let x@1 a (let x-setter@1 b (call x-setter@1 v p)))"},
		{"p . x@0 := v", "(call x-setter@0 v p)"}, {"p . x@3 := v", "(call x-setter@0 v p)"}, {"begin let x-setter'3 = a ; p . x@3 := v end", "(let x-setter@3 a (call x-setter@3 v p))"}, {"p . x@l := v", "(call x-setter@l v p)"}, {"p . x@03 := v", "(call x-setter@03 v p)"},
	} {
		e, at, err := ParseExpr(toks(x.text))
		if err != api.OK || show(e) != x.want {
			t.Errorf("ParseExpr(%s) = %s, %d, %d; expected %s", x.text, show(e), at, err, x.want)
		}
	}
}

func TestMarksOfSources(t *testing.T) {
	for _, x := range []struct{ text, want string }{
		{"library'1 a'1 ;'1 use'1 b'2 ,'1 import:'1 {'1 x'1 =>'1 y'2 } ; export'1 z'3 ;", "library a / use b false [x>y] / export [z]"}, {"library a ; use b , prefix:'1 p'1 ;", "library a / use b true p[]"},
		{"library a ; define'1 method'1 f'1 ( x'1 :: <a>'1 , x'2 , x ) =>'1 <b>'1 x'1 ; x'2 ; x ; x'3 ; f'1 end ;", "library a / method f [x@1:<a> x@2:<object> x:<object>] <b> (seq x@1 x@2 x x@0 f@0)"}, {"library a ; define sealed method f'1 ( x'1 :: <a>'1 ) end ; x'1", "library a / method f [x@1:<a>] <object> #f / domain f [<a>] / x@0"},
		{"library a ; define class'1 <c>'1 ( <a>'1 ) slot'1 x'1 ::'1 <b>'1 , init-keyword:'1 k:'1 , init-value:'1 x'1 ; end'1 ;", "library a / class <c> [<a>] false false [1:x:<b>:k:[x@0]]"},
		{"library a ; define generic'1 f'1 ( x'1 , y@l'1 ) ; define sealed'1 domain'1 f'1 ( <a>'1 ) ; define constant'1 c'1 = c'1 ; c'1", "library a / generic f 2 false / domain f [<a>] / constant c c@0 / c@0"}, {"library a ; define method f@l'1 ( ) => <b>@l'1 1 end ;", "library a / method f@l [] <b>@l 1"},
	} {
		s, at, e := ParseTokens(toks(x.text))
		if e != api.OK || showSource(s) != x.want {
			t.Errorf("ParseTokens(%s) = %s, %d, %d; expected %s", x.text, showSource(s), at, e, x.want)
		}
	}
}
