import PyProof.Rows.All
import KE.KDictOf
import KE.KDictSum
import KE.KFromBytes
import KE.KIsAll
import KE.KRevSl
import KE.KSortTup
import KE.KUnpack
import PySem.Challenge.RW_braemantle_k40_whole_tilted_lands
set_option Elab.async false
set_option linter.all false
set_option maxRecDepth 100000
set_option maxHeartbeats 4000000
set_option hygiene false
set_option bootstrap.genMatcherCode false
set_option genSizeOf false
set_option genSizeOfSpec false
def ZB:=@PySem.wpAny_bind
def ZP:=@PySem.wpAny_pure
set_option bootstrap.genMatcherCode false
namespace Att
end Att
namespace HT
end HT
namespace L2
end L2
namespace Lk40
end Lk40
namespace PI
end PI
namespace PI
noncomputable section
open PySem
noncomputable section
inductive U where
 | non | bl (b:Bool) | int (i:Int) | str (s:Str) | tup (xs:List U) | fro (xs:List U) | ref (n:Nat) | xn (c:Nat) (fs:List U)
inductive Op where | add | sub | mul | fdiv | mod | pow
inductive Cp where | eq | ne | lt | le | gt | ge | isN | notN | inn | nin
inductive Bi where | len | abs | list | mn | mx | srt | sum | tupl | cat | sset | dct
inductive Ty where | tint | tbool | tstr | ttuple | tlist | own (c:Nat)
inductive Tg where | nm (i:Nat) | tp (is:List Nat)
inductive E where
 | var (i:Nat) | cst (u:U)
 | bin (op:Op) (a b:E) | cmp (op:Cp) (a b:E) | chain (op op':Cp) (a b c:E)
 | and (a b:E) | or (a b:E) | not (a:E) | neg (a:E) | ite (c a b:E)
 | tup (es:List E) | lst (es:List E)
 | idx (a b:E) | slc (a:E) (lo hi:Option E) | rev (a:E)
 | call (f:Nat) (es:List E) | callx (f:Nat) (es:List E) | callk (f:Nat) (es ks:List E) (pm:List (Nat ⊕ U))
 | fld (a:E) (j:Nat) (cs:List Nat) | make (c f:Nat) (es ks:List E) (pm:List (Nat ⊕ U)) | meth (a:E) (j:Nat) (tb:List (Nat×Nat×List (Nat ⊕ U))) (es ks:List E) | revm (o:E)
 | bi (b:Bi) (es:List E)
 | isi (a:E) (t:Ty)
 | app (o v:E) | ext (o v:E) | pop (o:E) | popi (o v:E)
 | rng1 (a:E) | rng2 (a b:E) | enm (a:E) | dnew
 | comp (own:Nat) (fr:List Nat) (gs:List (Tg×E×List E)) (elt:E)
 | ddsp (ks:List Str) (es:List E) | dgt (o k x:E) | pair (k v:E) | dcmp (own:Nat) (fr:List Nat) (gs:List (Tg×E×List E)) (k v:E)
inductive S where
 | ret (e:E) | retN | set (t:Tg) (e:E) | par (i j:Nat) (a b:E)
 | sub (o i e:E) | aug (i:Nat) (op:Op) (e:E)
 | exp (e:E) | ife (c:E) (a b:List S) | whl (c:E) (b:List S) | for (t:Tg) (it:E) (b:List S)
 | pass | brk | cont | never | del (o i:E) | fset (a:E) (j:Nat) (cs:List Nat) (e:E)
 | nox (b:List S) | ifx (c:E) (a b:List S) | forx (t:Tg) (it:E) (b:List S) | raise (c:Nat) (es:List E) | tryf (j f:Nat) (es:List E) (c:Nat) (xs:List (Option U))
structure Fn where
 np:Nat
 ns:Nat
 body:List S
end
open PySem PySem.Spec PyProof.Rows L2
section
variable{K:PySem.W.Frag}{ρ ρ' ρ'':List Addr}{H H' H'':Hp}{g:G}
noncomputable def dig:Nat->Nat->List Nat
 | 0,_=>[]
 | f+1,n=>if n=0 then [] else n % 128 :: dig f (n / 128)
noncomputable def w5_:Nat:=128 ^ 64
noncomputable def x6_(n:Nat):Str:=⟨(dig 64 n).toArray⟩
end
open PySem PySem.Spec PyProof.Rows L2 PySem.W
noncomputable def uQ_(names:List Str):List Str->Bool
 | []=>true
 | k :: r => !names.contains k && uQ_ (names++[k]) r
noncomputable def place{α:Type}(ns ks kw:List Str)(dd:List (Str×α))(us ws:List α):List α:=(ns++ks).filterMap λn=>(ns.zip us++(kw.zip ws++dd)).lookup n
structure KF where
 ns:List Str
 ks:List Str
 dd:List (Str×U)
noncomputable def mo_(F:KF)(np:Nat)(kw:List Str):List (Nat ⊕ U):=place F.ns F.ks kw (F.dd.map λp=>(p.1,.inr p.2)) ((List.range' 0 np).map .inl) ((List.range' np kw.length).map .inl)
noncomputable def yF_(F:KF)(nd np:Nat)(kw:List Str):Bool:=decide (np<=F.ns.length) && kw.all (λk=>F.ns.contains k || F.ks.contains k) && uQ_ (F.ns.take np) kw && (F.ns.take (F.ns.length - nd)).all λn=>(F.ns.take np++kw).contains n
noncomputable def zr_(kws:List Keyword):List Str:=kws.filterMap (·.arg)
noncomputable def kwOk(kws:List Keyword):Bool:=kws.all (·.arg.isSome)
open PySem PySem.Spec PyProof.Rows L2
structure Tab where
 fns:List Str
 cs:List (Str×U)
 bt:List Str
 kf:List (Str×Nat×KF×Nat)
 cl:List (Str×Nat×Nat×KF×Nat)
 mt:List (Str×List (Nat×Nat×KF×Nat))
 fl:List (Str×List Nat)
noncomputable def u6_(N:List Str)(x:Str):Option Nat:=N.findIdx? (· == x)
noncomputable def dQ_:Operator->Option Op
 | .Add=>some .add | .Sub=>some .sub | .Mult=>some .mul | .FloorDiv=>some .fdiv | .Mod=>some .mod | .Pow=>some .pow | _=>none
noncomputable def fF_:CmpOp->Option Cp
 | .Eq=>some .eq | .NotEq=>some .ne | .Lt=>some .lt | .LtE=>some .le | .Gt=>some .gt | .GtE=>some .ge | .Is=>some .isN | .IsNot=>some .notN | .In=>some .inn | .NotIn=>some .nin
noncomputable def isStar:Expr->Bool
 | .Starred .. => true
 | _=>false
noncomputable def t5_:Expr->Bool
 | .Set .. => true
 | _=>false
noncomputable def xQ_:Expr->Bool
 | .ListComp .. => true | .SetComp .. => true | .DictComp .. => true | _=>false
noncomputable def wH_:Expr->Bool
 | .Call .. => true | _=>false
noncomputable def v4_:Expr->Bool
 | .Tuple .. => true | _=>false
noncomputable def wE_:Expr->Bool
 | .Slice .. => true | _=>false
noncomputable def eB_(x:Str):Option Ty:=if x = "int" then some .tint else if x = "bool" then some .tbool else if x = "str" then some .tstr else if x = "tuple" then some .ttuple else if x = "list" then some .tlist else none
noncomputable def i0_(x:Str):Bool := !(x == ("__debug__" : Str)) && !(x == ("__classdict__" : Str)) && !(x == ("__name__" : Str))
noncomputable def zc_{α:Type}:List (Option α)->Option (List α)
 | []=>some []
 | none :: _=>none
 | some a :: r=>(zc_ r).map (a :: ·)
noncomputable def tQ_:E->Bool
 | .rng1 _=>false | .rng2 _ _=>false | .enm _=>false | _=>true
noncomputable def u5_(b:Bool)(sc:Scope)(x:Str):Bool:=sc.names.lookup x == some .local || (b && sc.names.lookup x == some .cell)
noncomputable def uZ_(b:Bool)(sc:Scope)(N:List Str)(x:Str):Option Nat:=if u5_ b sc x then u6_ N x else none
noncomputable def vj_(b:Bool)(sc:Scope)(N:List Str)(e:Expr):Option Nat:=match e with
 | .Name x _=>uZ_ b sc N x
 | _=>none
noncomputable def w6_(b:Bool)(sc:Scope)(N:List Str):Expr->Option Tg
 | .Name x _=>(uZ_ b sc N x).map .nm
 | .Tuple ts _ _=>(zc_ (ts.map (vj_ b sc N))).map .tp
 | _=>none
noncomputable def oif{α:Type}(c:Bool)(x:Option α):Option α:=match c with
 | true=>x
 | false=>none
noncomputable def nmE(e:Expr):Option Str:=match e with
 | .Name x _=>some x
 | _=>none
noncomputable def v8_(e:Expr):Option (Str×List Expr):=match e with
 | .Call f es kws _=>match kws with
  | []=>(nmE f).map λn=>(n,es)
  | _ :: _=>none
 | _=>none
noncomputable def iY_(ce:Expr->Option E)(k:E->E)(es:List Expr):Option E:=match es with
 | []=>none
 | a :: es=>match es with
  | []=>(ce a).map k
  | _ :: _=>none
noncomputable def eL_(ce:Expr->Option E)(k:E->E->E)(es:List Expr):Option E:=match es with
 | []=>none
 | a :: es=>match es with
  | []=>none
  | b :: es=>match es with
   | []=>(ce a).bind λa'=>(ce b).map (k a')
   | _ :: _=>none
noncomputable def wt_{α:Type}(l:List α):Bool:=match l with
 | []=>true
 | _ :: _=>false
noncomputable def eO_(f:Expr->Option E)(es:List Expr):Option E:=match es with
 | []=>none
 | _ :: r=>match wt_ r with
  | true=>iY_ f .rng1 es
  | false=>eL_ f .rng2 es
noncomputable def cIt(f:Expr->Option E)(e:Expr):Option E:=oif (!t5_ e) ((f e).bind λe'=>oif (tQ_ e') (some e'))
noncomputable def sI_(T:Tab)(sc:Scope)(f:Expr->Option E)(e:Expr):Option E:=match v8_ e with
 | some c=>if c.1 = "range" then oif (T.bt.contains c.1 && (sc.names.lookup c.1 == some .globalImplicit) && !c.2.any isStar) (eO_ f c.2) else cIt f e
 | none=>cIt f e
noncomputable def rQ_(T:Tab)(sc:Scope)(f:Expr->Option E)(tg e:Expr):Option E:=match v8_ e with
 | some c=>if c.1 = "enumerate" then oif (T.bt.contains c.1 && (sc.names.lookup c.1 == some .globalImplicit) && !c.2.any isStar && v4_ tg) (iY_ f .enm c.2) else sI_ T sc f e
 | none=>sI_ T sc f e
noncomputable def zS_(scope sc:Scope):Scope:={ scope with names:=scope.names.map λ(n,k)=>if (k == .free && sc.kind == .function && sc.names.lookup n == some .cell) then (n,.cell) else (n,k) }
noncomputable def kP_:Expr->List Str
 | .Name x _=>[x]
 | .Tuple ts _ _=>ts.filterMap fun | .Name x _=>some x | _=>none
 | _=>[]
noncomputable def ownOf(gs:List Comprehension):List Str:=(gs.map λg=>kP_ g.target).flatten
noncomputable def freeOf(scope:Scope):List Str:=(scope.names.filter λx=>x.2 == .free).map (·.1)
noncomputable def vG_(scope sc:Scope)(own fr:List Str):Bool :=
 (scope.kind == .function) && (scope.names.all λx=>x.2 != .local || scope.names.lookup x.1 == some .local) && (scope.names.all λx=>x.2 != .cell || scope.names.lookup x.1 == some .cell) && (scope.names.all λx=>x.2 != .free || sc.names.lookup x.1 == some .cell)
  && (own.all λx=>scope.names.lookup x == some .local || scope.names.lookup x == some .cell) && decide ((own++fr).Nodup) && (fr.all λx=>scope.names.lookup x == some .free)
noncomputable def ko_(T:Tab)(sc:Scope)(N:List Str)(f:Expr->Option E):List Comprehension->Option (List (Tg×E×List E))
 | []=>some []
 | g :: r=>oif (g.is_async == 0) ((w6_ false sc N g.target).bind λt=>(sI_ T sc f g.iter).bind λit=>(zc_ (g.ifs.map f)).bind λcs=>(ko_ T sc N f r).map λr'=>(t,it,cs) :: r')
noncomputable def pn_(f:Str):Nat:=f.cps.toList.foldr (λd n=>d+128*n) 0
noncomputable def kI_(f:Str):Bool:=decide (x6_ (pn_ f)=f) && decide (pn_ f < w5_)
noncomputable def qB_(T:Tab)(sc:Scope)(ce:Expr->Option E)(f:Str)(es:List Expr)(kws:List Keyword):Option E:=oif (i0_ f && !es.any isStar && (sc.names.lookup f == some .globalImplicit) && kwOk kws)
  ((zc_ (es.map ce)).bind λes'=>(zc_ (kws.map λk=>ce k.value)).bind λks'=>match T.kf.lookup f with
   | some q=>oif (yF_ q.2.1 q.2.2 es.length (zr_ kws)) (some (.callk q.1 es' ks' (mo_ q.2.1 es.length (zr_ kws))))
   | none=>(T.cl.lookup f).bind λq=>oif (yF_ q.2.2.1 q.2.2.2 (es.length+1) (zr_ kws)) (some (.make q.1 q.2.1 es' ks' (mo_ q.2.2.1 (es.length+1) (zr_ kws)))))
noncomputable def kk_(T:Tab)(ce:Expr->Option E)(o':E)(m:Str)(ap cp:Pos)(es:List Expr)(kws:List Keyword):Option E:=oif (kI_ m && !es.any isStar && kwOk kws && decide (es.length+kws.length+1 < 30) && (ap.endLine == cp.line))
  ((zc_ (es.map ce)).bind λes'=>(zc_ (kws.map λk=>ce k.value)).bind λks'=>(T.mt.lookup m).bind λl =>
   oif (l.all (λe=>yF_ e.2.2.1 e.2.2.2 (es.length+1) (zr_ kws))) (some (.meth o' (pn_ m) (l.map λe=>(e.1,e.2.1,mo_ e.2.2.1 (es.length+1) (zr_ kws))) es' ks')))
noncomputable def g9_(f:Str)(n:Nat)(biOf:Str->Option Bi):Option Bi :=
 biOf f
noncomputable def biOf(f:Str):Option Bi :=
 if f = "len" then some .len else
 if f = "abs" then some .abs else
 if f = "list" then some .list else
 if f = "min" then some .mn else
 if f = "max" then some .mx else
 if f = "sorted" then some .srt else
 if f = "sum" then some .sum else
 none
noncomputable def iw_(T:Tab)(sc:Scope)(N:List Str)(x:Str):Option E:=oif (i0_ x) ((sc.names.lookup x).bind λk=>match k with
 | .local=>(u6_ N x).map .var
 | .cell=>(u6_ N x).map .var
 | .free=>(u6_ N x).map .var
 | .globalImplicit=>(T.cs.lookup x).map .cst
 | _=>none)
noncomputable def bJ_(v:Const):Option E:=match v with
 | .int i=>some (.cst (.int i))
 | .bool b=>some (.cst (.bl b))
 | .none=>some (.cst .non)
 | .str s=>some (.cst (.str s))
 | _=>none
section
variable(T:Tab)(sc:Scope)(ce:Expr->Option E)
noncomputable def b6_(o:Operator)(a b:Expr):Option E:=(dQ_ o).bind λo'=>(ce a).bind λa'=>(ce b).map (.bin o' a')
noncomputable def ff_(a:Expr)(o:CmpOp)(b:Expr):Option E:=oif (!t5_ b) ((fF_ o).bind λo'=>(ce a).bind λa'=>(ce b).map (.cmp o' a'))
noncomputable def hs_(a:Expr)(o q:CmpOp)(b c:Expr):Option E:=oif (!t5_ c) ((fF_ o).bind λo'=>(fF_ q).bind λq'=>(ce a).bind λa'=>(ce b).bind λb'=>(ce c).map (.chain o' q' a' b'))
noncomputable def bK_(a:Expr)(os:List CmpOp)(bs:List Expr):Option E:=match os with
 | []=>none
 | o :: os=>match bs with
  | []=>none
  | b :: bs=>match os with
   | []=>oif (wt_ bs) (ff_ ce a o b)
   | q :: os=>match bs with
    | []=>none
    | c :: bs=>oif (wt_ os && wt_ bs) (hs_ ce a o q b c)
noncomputable def cY_(o:BoolOp)(es:List Expr)(pos:Pos):Option E:=match es with
 | []=>none
 | a :: es=>match es with
  | []=>ce a
  | b :: rest=>match o with
   | .And=>(ce a).bind λa'=>(ce (.BoolOp .And (b :: rest) pos)).map (.and a')
   | .Or=>(ce a).bind λa'=>(ce (.BoolOp .Or (b :: rest) pos)).map (.or a')
noncomputable def cUn(o:UnaryOp)(a:Expr):Option E:=match o with
 | .Not=>(ce a).map .not
 | .USub=>(ce a).map .neg
 | _=>none
noncomputable def cX_(k:List E->E)(es:List Expr):Option E:=oif (!es.any isStar) ((zc_ (es.map ce)).map k)
noncomputable def bI_(e:Expr):Bool:=match e with
 | .UnaryOp o a _=>match o with
  | .USub=>match a with
   | .Constant v _ _=>match v with
    | .int i=>i == 1
    | _=>false
   | _=>false
  | _=>false
 | _=>false
noncomputable def e9_(lo:Option Expr):Option (Option E):=match lo with
 | none=>some none
 | some l=>(ce l).map some
noncomputable def cy_{α:Type}(o:Option α):Bool:=match o with
 | none=>true
 | some _=>false
noncomputable def as_(a s:Expr):Option E:=match s with
 | .Slice lo hi st _=>match st with
  | none=>(ce a).bind λa'=>(e9_ ce lo).bind λl'=>(e9_ ce hi).map (.slc a' l')
  | some st=>oif (cy_ lo && cy_ hi && bI_ st) ((ce a).map .rev)
 | _=>none
noncomputable def e3_(a s:Expr):Option E:=match wE_ s with
 | true=>as_ ce a s
 | false=>(ce a).bind λa'=>(ce s).map (.idx a')
noncomputable def d9_(a t:Expr):Option E:=(nmE t).bind λtn=>(eB_ tn).bind λt=>(ce a).bind λa'=>oif (T.bt.contains tn && (sc.names.lookup tn == some .globalImplicit)) (some (.isi a' t))
noncomputable def bl_(es:List Expr):Option E:=match es with
 | []=>none
 | a :: es=>match es with
  | []=>none
  | t :: es=>oif (wt_ es) (d9_ T sc ce a t)
noncomputable def cBi(f:Str)(es:List Expr):Option E:=(g9_ f es.length biOf).bind λb=>oif (!wt_ es) ((zc_ (es.map ce)).map (.bi b))
noncomputable def er_(T:Tab)(sc:Scope)(ce:Expr->Option E)(f:Str)(es:List Expr):Option E :=
 if f = "isinstance" then bl_ T sc ce es else
 cBi ce f es
noncomputable def c9_(f:Str)(es:List Expr):Option E:=oif (i0_ f && !es.any isStar && (sc.names.lookup f == some .globalImplicit)) (match u6_ T.fns f with
 | some i=>(zc_ (es.map ce)).map (.call i)
 | none=>match T.bt.contains f with
  | true=>er_ T sc ce f es
  | false=>qB_ T sc ce f es [])
noncomputable def cMt(o':E)(m:Str)(ap cp:Pos)(es:List Expr):Option E :=
 if m = "append" then iY_ ce (.app o') es else
 if m = "extend" then iY_ ce (.ext o') es else
 if m = "pop" then (match es with
  | []=>some (.pop o')
  | _ :: _=>none) else
 kk_ T ce o' m ap cp es []
noncomputable def d5_(o:Expr)(m:Str)(ap cp:Pos)(es:List Expr)(kws:List Keyword):Option E:=oif (!wH_ o) ((ce o).bind λo'=>match kws with
 | []=>oif (ap.endLine == cp.line && !es.any isStar) (cMt T ce o' m ap cp es)
 | k :: kws=>kk_ T ce o' m ap cp es (k :: kws))
noncomputable def bM_(fn:Expr)(es:List Expr)(kws:List Keyword)(cp:Pos):Option E:=match fn with
 | .Name f _=>match kws with
  | []=>c9_ T sc ce f es
  | k :: kws=>qB_ T sc ce f es (k :: kws)
 | .Attribute o m ap=>d5_ T ce o m ap cp es kws
 | _=>none
noncomputable def b8_(o:Expr)(f:Str):Option E:=(T.fl.lookup f).bind λcs=>(ce o).bind λo'=>oif (kI_ f && !wH_ o) (some (.fld o' (pn_ f) cs))
noncomputable def bk_(ce:Expr->Option E)(keys:List (Option Expr))(vs:List Expr):Option E:=match keys with
 | []=>oif (wt_ vs) (some .dnew)
 | _ :: _=>none
noncomputable def dd_(N:List Str)(ci:Expr->Option E)(g:Comprehension)(rest:List Comprehension)(scope:Scope):Option (List Nat×List (Tg×E×List E)) :=
 oif (vG_ scope sc (ownOf (g :: rest)) (freeOf scope) && (g.is_async == 0)) ((sI_ T sc ce g.iter).bind λit'=>(w6_ true scope (ownOf (g :: rest)++freeOf scope) g.target).bind λt=>(zc_ (g.ifs.map ci)).bind λcs =>
  (ko_ T (zS_ scope sc) (ownOf (g :: rest)++freeOf scope) ci rest).bind λrest'=>(zc_ ((freeOf scope).map (u6_ N))).map λfrI=>(frI,(t,it',cs) :: rest'))
end
noncomputable def zK_(T:Tab)(sc:Scope)(N:List Str):Nat->Expr->Option E
 | 0,_=>none
 | n+1,e=>match e with
  | .Name x _=>iw_ T sc N x
  | .Constant v _ _=>bJ_ v
  | .BinOp a o b _=>b6_ (zK_ T sc N n) o a b
  | .Compare a os bs _=>bK_ (zK_ T sc N n) a os bs
  | .BoolOp o es pos=>cY_ (zK_ T sc N n) o es pos
  | .UnaryOp o a _=>cUn (zK_ T sc N n) o a
  | .Tuple es _ _=>cX_ (zK_ T sc N n) .tup es
  | .List es _=>cX_ (zK_ T sc N n) .lst es
  | .Subscript a s _=>e3_ (zK_ T sc N n) a s
  | .Call fn es kws cp=>bM_ T sc (zK_ T sc N n) fn es kws cp
  | .Attribute o f _=>b8_ T (zK_ T sc N n) o f
  | .Dict keys vs _=>bk_ (zK_ T sc N n) keys vs
  | .ListComp elt gs scope _=>match gs with
   | []=>none
   | g :: rest=>(dd_ T sc (zK_ T sc N n) N (zK_ T (zS_ scope sc) (ownOf (g :: rest)++freeOf scope) n) g rest scope).bind λq=>(zK_ T (zS_ scope sc) (ownOf (g :: rest)++freeOf scope) n elt).map (.comp (ownOf (g :: rest)).length q.1 q.2)
  | .DictComp kx vx gs scope _=>match gs with
   | []=>none
   | g :: rest=>(dd_ T sc (zK_ T sc N n) N (zK_ T (zS_ scope sc) (ownOf (g :: rest)++freeOf scope) n) g rest scope).bind λq =>
    (zK_ T (zS_ scope sc) (ownOf (g :: rest)++freeOf scope) n kx).bind λk'=>(zK_ T (zS_ scope sc) (ownOf (g :: rest)++freeOf scope) n vx).map (.dcmp (ownOf (g :: rest)).length q.1 q.2 k')
  | _=>none
noncomputable def qD_(sc:Scope)(x y:Str)(px py:Pos)(a b:Expr):Bool :=
 (sc.names.lookup x == some .local) && (sc.names.lookup y == some .local) && !(x == y) && (py.line == px.line) && !isStar a && !isStar b && !(foldedForSure 8 a && foldedForSure 8 b) && !(constantsAlone 8 a && constantsAlone 8 b)
noncomputable def cD_(sc:Scope)(x:Str)(px:Pos)(scope:Scope)(p:Pos):Bool:=(sc.names.lookup x == some .local) && (px.line == p.line) && !(scope.names.any λ(n,k)=>n == x && (k == .local || k == .cell))
noncomputable def lC_{α:Type}(l:List α):Option (α×α):=match l with
 | []=>none
 | a :: l=>match l with
  | []=>none
  | b :: l=>match l with
   | []=>some (a,b)
   | _ :: _=>none
noncomputable def nmP(e:Expr):Option (Str×Pos):=match e with
 | .Name x p=>some (x,p)
 | _=>none
noncomputable def cT_(e:Expr):Option (List Expr×Nat×Pos):=match e with
 | .Tuple es k p=>some (es,k,p)
 | _=>none
noncomputable def vx_(T:Tab)(sc:Scope)(N:List Str)(cE:Expr->Option E)(ts:List Expr)(kt:Nat)(pt:Pos)(e:Expr):Option S :=
 (cT_ e).bind λq=>(lC_ ts).bind λt=>(nmP t.1).bind λx=>(nmP t.2).bind λy=>(lC_ q.1).bind λa=>match qD_ sc x.1 y.1 x.2 y.2 a.1 a.2 with
  | true=>(u6_ N x.1).bind λi=>(u6_ N y.1).bind λj=>(cE a.1).bind λa'=>(cE a.2).map (.par i j a')
  | false=>oif (foldedForSure 8 a.1 && foldedForSure 8 a.2) ((w6_ true sc N (.Tuple ts kt pt)).bind λt=>(cE e).map (.set t))
noncomputable def lcE(e:Expr):Option (Scope×Pos):=match e with
 | .ListComp _ gs scope p=>match gs with
  | []=>none
  | _ :: _=>some (scope,p)
 | _=>none
noncomputable def oJ_(sc:Scope)(N:List Str)(cE:Expr->Option E)(x:Str)(px:Pos)(e:Expr):Option S:=oif (match lcE e with
 | some q=>cD_ sc x px q.1 q.2
 | none => !xQ_ e) ((uZ_ true sc N x).bind λi=>(cE e).map (.set (.nm i)))
noncomputable def ii_(T:Tab)(cE:Expr->Option E)(o:Expr)(f:Str)(e:Expr):Option S:=(nmP o).bind λ_=>(T.fl.lookup f).bind λcs=>(cE o).bind λo'=>(cE e).bind λe'=>oif (kI_ f) (some (.fset o' (pn_ f) cs e'))
noncomputable def rF_(T:Tab)(sc:Scope)(N:List Str)(cE:Expr->Option E)(t e:Expr):Option S:=match t with
 | .Name x px=>oJ_ sc N cE x px e
 | .Tuple ts k p=>match v4_ e with
  | true=>vx_ T sc N cE ts k p e
  | false=>(w6_ true sc N (.Tuple ts k p)).bind λt=>(cE e).map (.set t)
 | .Subscript o i _=>oif (!wE_ i && !xQ_ e) ((cE o).bind λo'=>(cE i).bind λi'=>(cE e).map (.sub o' i'))
 | .Attribute o f _=>ii_ T cE o f e
 | _=>none
noncomputable def uA_(T:Tab)(sc:Scope)(N:List Str):Nat->Stmt->Option S
 | 0,_=>none
 | n+1,st=>match st with
  | .Return o _=>match o with
   | none=>none
   | some e=>(zK_ T sc N n e).map .ret
  | .Assign ts e _=>match ts with
   | []=>none
   | t :: r=>oif (wt_ r) (rF_ T sc N (zK_ T sc N n) t e)
  | .Expr e _=>oif (!xQ_ e) ((zK_ T sc N n e).map .exp)
  | .If c a b _=>(zK_ T sc N n c).bind λc'=>(zc_ (a.map (uA_ T sc N n))).bind λa'=>(zc_ (b.map (uA_ T sc N n))).map (.ife c' a')
  | .While c b o _=>oif (wt_ o) ((zK_ T sc N n c).bind λc'=>(zc_ (b.map (uA_ T sc N n))).map (.whl c'))
  | .For tg it b o _=>oif (wt_ o) ((w6_ true sc N tg).bind λt=>(rQ_ T sc (zK_ T sc N n) tg it).bind λit'=>(zc_ (b.map (uA_ T sc N n))).map (.for t it'))
  | .Raise _ _ _=>some .never
  | _=>none
open PySem PySem.Spec PyProof.Rows L2 PySem.W
noncomputable def sS_:Nat->List Obj->Frag
 | _,[]=>[]
 | n,o :: r=>match o.data with
  | .freed=>sS_ (n+1) r
  | _=>(n,o) :: sS_ (n+1) r
noncomputable def t6_(h:Heap):Frag:=sS_ 0 h.objs.toList
structure Inf where
 x:Str
 N:List Str
 ps:List Str
 cm:Option (Str×Str)
 kf:Option (KF×Nat)
noncomputable def uY_(N ps:List Str)(sc:Scope):Bool :=
 decide (sc.kind=.function) && !sc.isCoroutine && !sc.isGenerator && decide N.Nodup && decide (N.take ps.length=ps) && ps.all (λx=>decide (sc.names.lookup x=some .local) || decide (sc.names.lookup x=some .cell)) && sc.names.all λy=>decide (y.2 ≠ .free)
noncomputable def jh_(ps:List Str)(p:Arguments):Bool:=p.posonlyargs.isEmpty && decide (p.args.map (·.arg)=ps) && p.vararg.isNone && p.kwonlyargs.isEmpty && p.kwarg.isNone
noncomputable def cZ_:Value->Bool
 | .none=>true
 | _=>false
noncomputable def eh_:U->Value->Bool
 | .int i,.int j _=>decide (i=j)
 | .non,.none=>true
 | .bl b,.bool c=>b == c
 | .str s,.str t _=>decide (s=t)
 | _,_=>false
noncomputable def ot_:List U->List Value->Bool
 | [],[]=>true
 | u :: us,v :: vs=>eh_ u v && ot_ us vs
 | _,_=>false
noncomputable def tupU(K:Frag):U->Value->Bool
 | .xn _ us,.ref a=>match K.lookup a with
  | some ⟨.type "tuple",_,.seq its _,_⟩=>decide (its.size<=1000) && ot_ us its.toList
  | _=>false
 | _,_=>false
noncomputable def ed_(K:Frag)(u:U)(v:Value):Bool:=eh_ u v || tupU K u v
noncomputable def oi_(K:Frag):List U->List Value->Bool
 | [],[]=>true
 | u :: us,v :: vs=>ed_ K u v && oi_ K us vs
 | _,_=>false
noncomputable def eR_(K:Frag):Value->Option (List Value)
 | .none=>some []
 | .ref a=>match K.lookup a with
  | some ⟨_,_,.seq its _,_⟩=>some its.toList
  | _=>none
 | _=>none
noncomputable def nH_(K:Frag)(v:Value)(n:Str):Option Value:=match v with
 | .ref d=>match nsIn K d n with
  | some (some v)=>some v
  | _=>none
 | _=>none
noncomputable def kfB(K:Frag)(fd:FuncData)(F:KF)(nd:Nat):Bool:=fd.params.posonlyargs.isEmpty && decide (fd.params.args.map (·.arg)=F.ns) && fd.params.vararg.isNone && decide (fd.params.kwonlyargs.map (·.arg)=F.ks) && fd.params.kwarg.isNone && decide (nd<=F.ns.length) &&
 (F.ks.all λn=>(nH_ K fd.kwdefaults n).isSome) && decide (F.dd.map (·.1)=F.ns.drop (F.ns.length - nd)++F.ks) && match eR_ K fd.defaults with
  | some dsv=>decide (dsv.length=nd) && oi_ K (F.dd.map (·.2)) (dsv++F.ks.map λn=>(nH_ K fd.kwdefaults n).getD .none)
  | none=>false
noncomputable def csB(K:Frag)(c:Str×U):Bool:=match nsIn K mainGlobals c.1 with
 | some (some val)=>ed_ K c.2 val
 | _=>false
noncomputable def hn_(x q:Str)(fd:FuncData):Bool:=decide (fd.name=x) && decide (fd.qualname=q) && (fd.globals == mainGlobals) && fd.closure.isEmpty && (fd.builtins == builtinsNs)
noncomputable def cH_(K:Frag)(i:Inf)(fd:FuncData):Bool:=match i.kf with
 | none=>jh_ i.ps fd.params && cZ_ fd.defaults
 | some (F,nd)=>decide (i.ps=F.ns++F.ks) && !i.ps.isEmpty && kfB K fd F nd
noncomputable def eb_(K:Frag)(C:Addr):Bool:=plainGet K C Str.empty && hasDictIn K C && plainOver K C && (findIn K (.ref C) "__setattr__" == some (some (.builtin "object.__setattr__")))
noncomputable def dR_(K:Frag)(i:Inf):Option Addr:=match i.cm with
 | none=>match nsIn K mainGlobals i.x with
  | some (some (.ref a))=>some a
  | _=>none
 | some c=>match nsIn K mainGlobals c.1 with
  | some (some (.ref C))=>match findIn K (.ref C) c.2 with
   | some (some (.ref a))=>if eb_ K C && isFn K (.ref a) && keepIn K (.ref a) && (!decide (c.2 = "__init__") || (makesIn K C && keepIn K (.ref C))) then some a else none
   | _=>none
  | _=>none
noncomputable def Inf.nm(i:Inf):Str:=match i.cm with | none=>i.x | some c=>c.2
noncomputable def mM_(K:Frag)(i:Inf):Option (Scope×List Stmt):=match dR_ K i with
 | some a=>match K.lookup a with
  | some ⟨_,_,.func fd,_⟩=>match fd.body with
   | .stmts b=>if hn_ i.nm i.x fd && uY_ i.N i.ps fd.scope && cH_ K i fd && codeIn K fd.code i.x && keepIn K (.ref a) then some (fd.scope,b) else none
   | _=>none
  | _=>none
 | none=>none
noncomputable def mkF(T:Tab)(q:Inf×Option (Scope×List Stmt)):Option Fn:=match q.2 with
 | some r=>(zc_ (r.2.map (uA_ T r.1 q.1.N 60))).map λb'=>⟨q.1.ps.length,q.1.N.length,b'⟩
 | none=>none
noncomputable def fdB(K:Frag)(e:Str×List Nat):Bool:=e.2.all λc=>match nsIn K mainGlobals (x6_ c) with
 | some (some (.ref C))=>eb_ K C && (findIn K (.ref C) e.1 == some none)
 | _=>false
noncomputable def f9_(is:List Inf):List (Str×Nat×KF×Nat):=is.zipIdx.filterMap λp=>match p.1.cm,p.1.kf with
 | none,some k=>some (p.1.x,p.2,k.1,k.2)
 | _,_=>none
noncomputable def ek_(is:List Inf):List (Str×Nat×Nat×KF×Nat):=is.zipIdx.filterMap λp=>match p.1.cm,p.1.kf with
 | some c,some k=>if c.2 = "__init__" then some (c.1,pn_ c.1,p.2,k.1,k.2) else none
 | _,_=>none
noncomputable def af_(is:List Inf)(m:Str):List (Nat×Nat×KF×Nat):=is.zipIdx.filterMap λp=>match p.1.cm,p.1.kf with
 | some c,some k=>if c.2=m then some (pn_ c.1,p.2,k.1,k.2) else none
 | _,_=>none
noncomputable def oc_(is:List Inf)(ms:List Str):List (Str×List (Nat×Nat×KF×Nat)):=ms.map λm=>(m,af_ is m)
open PySem PySem.Spec PyProof.Rows L2 PySem.W PySem.Calls
noncomputable section
noncomputable def bR_(p:Program)(w:World)(N:Nat)(s₀ : Shared):Option Shared :=
 match s₀.heap.isNs mainGlobals && s₀.gens.size == 0 with
 | true=>(Fast.tw14082659384304107361 Fast.tw14364793385576792824 p w s₀.heap.objs.size (s₀.heap.nsMap mainGlobals "__annotations__") N s₀ (topStub p)).bind λs₁ => match staticsOk (importedModules p.main.body) s₀.heap s₁.heap && namesBound p s₁.heap && gensDone s₁ && laidKept s₀.heap s₁.heap with
   | true=>some s₁
   | false=>none
 | false=>none
noncomputable def endsF(p:Program)(w:World)(N:Nat):Option Shared :=
 ((Fast.tw10274390034422433532 Fast.tw14364793385576792824 (opening p) w N (Fast.tw1435165496053646825 (opening p)).1 (Fast.tw1435165496053646825 (opening p)).2).bind (Fast.tw14289696077712309145 p)).bind (bR_ p w N)
noncomputable def lastOf(p:Program):Program:={ p with main:={ p.main with body:=p.main.body.drop (p.main.body.length - 1) } }
noncomputable def d8_(T:Tab)(K:Frag)(is:List Inf):Bool:=T.bt.all (λx=>(nsIn K mainGlobals x).any Option.isNone) && T.cs.all (csB K) && T.fl.all (fdB K) && is.all (λi=>i.cm.all λc=>kI_ c.1)
noncomputable def yl_(b:List Stmt)(n:Nat):Option (Scope×List Stmt):=match b[n]? with
 | some (.FunctionDef _ _ b _ _ _ sc _ _ _)=>some (sc,b)
 | _=>none
noncomputable def lN_(b:List Stmt)(n m:Nat):Option (Scope×List Stmt):=match b[n]? with
 | some (.ClassDef _ _ _ b _ _ _ _ _ _ _)=>yl_ b m
 | _=>none
end
end
end PI
section
noncomputable def PI.sO:=PySem.Str.ofString
namespace Lk40
open PI
noncomputable def vr_:Fn:=⟨1,1,[(.ret (.and (.isi (.var 0) .tint) (.not (.isi (.var 0) .tbool))))]⟩
noncomputable def pL_:Fn:=⟨1,4,[(.set (.tp [1,2,3]) (.var 0)),(.ret (.comp 2 [2,3] [((.nm 0),(.rng1 (.bin .add (.bin .mul (.var 1) (.var 3)) (.cst (.int 1)))),[]),((.nm 1),(.rng1 (.bin .add (.bin .mul (.var 2) (.var 3)) (.cst (.int 1)))),[])] (.tup [.var 0,.var 1])))]⟩
noncomputable def xn_:Fn:=⟨3,7,[(.par 3 4 (.bin .mul (.var 0) (.var 2)) (.bin .mul (.var 1) (.var 2))),(.par 5 6 (.bin .add (.var 3) (.var 2)) (.bin .add (.var 4) (.var 2))),(.ife (.cmp .eq (.bin .mod (.bin .add (.var 0) (.var 1)) (.cst (.int 2))) (.cst (.int 0))) [(.ret (.lst [(.tup [.var 3,.var 4,.var 5,.var 6,.var 5,.var 4]),(.tup [.var 5,.var 6,.var 3,.var 4,.var 3,.var 6])]))] []),(.ret (.lst [(.tup [.var 5,.var 4,.var 3,.var 6,.var 5,.var 6]),(.tup [.var 3,.var 6,.var 5,.var 4,.var 3,.var 4])]))]⟩
noncomputable def rr_:Fn:=⟨1,4,[(.set (.tp [1,2,3]) (.var 0)),(.ret (.comp 3 [2,3] [((.nm 0),(.rng1 (.var 1)),[]),((.nm 1),(.rng1 (.var 3)),[]),((.nm 2),(.call 2 [.var 0,.var 1,.var 4]),[])] (.var 2)))]⟩
noncomputable def t9_:Fn:=⟨1,5,[(.set (.tp [1,2,3,4]) (.slc (.var 0) none (some (.cst (.int 4))))),(.ife (.or (.cmp .eq (.bin .mod (.bin .add (.var 1) (.var 3)) (.cst (.int 2))) (.cst (.int 1))) (.cmp .eq (.bin .mod (.bin .add (.var 2) (.var 4)) (.cst (.int 2))) (.cst (.int 1)))) [(.ret (.cst .non))] []),(.ret (.tup [(.bin .fdiv (.bin .add (.var 1) (.var 3)) (.cst (.int 2))),(.bin .fdiv (.bin .add (.var 2) (.var 4)) (.cst (.int 2)))]))]⟩
noncomputable def so_:Fn:=⟨1,10,[(.set (.nm 1) (.call 4 [.var 0])),(.ife (.cmp .isN (.var 1) (.cst .non)) [.never] []),(.set (.tp [2,3]) (.var 1)),(.set (.tp [4,5,6,7,8,9]) (.var 0)),(.ret (.lst [(.tup [.var 4,.var 5,.var 8,.var 9,.var 2,.var 3]),(.tup [.var 8,.var 9,.var 6,.var 7,.var 2,.var 3])]))]⟩
noncomputable def im_:Fn:=⟨1,4,[(.set (.nm 1) (.lst [])),(.set (.nm 2) (.rev (.var 0))),(.whl (.var 2) [(.set (.nm 3) (.pop (.var 2))),(.exp (.app (.var 1) (.var 3))),(.ife (.cmp .notN (.call 4 [.var 3]) (.cst .non)) [(.exp (.ext (.var 2) (.rev (.call 5 [.var 3]))))] [])]),(.ret (.var 1))]⟩
noncomputable def tx_:Fn:=⟨1,1,[(.ret (.call 6 [(.call 3 [.var 0])]))]⟩
noncomputable def o1_:Fn:=⟨5,7,[(.set (.tp [5,6]) (.var 4)),(.ret (.bin .sub (.bin .mul (.bin .sub (.var 2) (.var 0)) (.bin .sub (.var 6) (.var 1))) (.bin .mul (.bin .sub (.var 3) (.var 1)) (.bin .sub (.var 5) (.var 0)))))]⟩
noncomputable def fL_:Fn:=⟨1,7,[(.set (.tp [1,2,3,4,5,6]) (.var 0)),(.ret (.tup [(.bi .mn [.var 1,.var 3,.var 5]),(.bi .mn [.var 2,.var 4,.var 6]),(.bi .mx [.var 1,.var 3,.var 5]),(.bi .mx [.var 2,.var 4,.var 6])]))]⟩
noncomputable def tN_:Fn:=⟨2,8,[(.set (.tp [2,3,4,5]) (.call 9 [.var 0])),(.set (.tp [6,7]) (.var 1)),(.ret (.and (.chain .le .le (.var 2) (.var 6) (.var 4)) (.chain .le .le (.var 3) (.var 7) (.var 5))))]⟩
noncomputable def sh_:Fn:=⟨2,9,[(.set (.tp [2,3,4,5,6,7]) (.var 0)),(.set (.nm 8) (.lst [(.call 8 [.var 2,.var 3,.var 4,.var 5,.var 1]),(.call 8 [.var 4,.var 5,.var 6,.var 7,.var 1]),(.call 8 [.var 6,.var 7,.var 2,.var 3,.var 1])])),(.ret (.and (.call 10 [.var 0,.var 1]) (.or (.cmp .ge (.bi .mn [.var 8]) (.cst (.int 0))) (.cmp .le (.bi .mx [.var 8]) (.cst (.int 0))))))]⟩
noncomputable def pl_:Fn:=⟨1,5,[(.set (.tp [1,2,3,4]) (.call 9 [.var 0])),(.ret (.comp 2 [4,2,0] [((.nm 0),(.rng2 (.var 1) (.bin .add (.var 3) (.cst (.int 1)))),[]),((.nm 1),(.rng2 (.var 3) (.bin .add (.var 2) (.cst (.int 1)))),[(.call 11 [.var 4,(.tup [.var 0,.var 1])])])] (.tup [.var 0,.var 1])))]⟩
noncomputable def ra_:Fn:=⟨2,3,[(.ife (.cmp .eq (.var 1) (.cst (.int 0))) [.never] []),(.set (.nm 2) (.call 14 [(.bi .abs [.var 0]),(.bi .abs [.var 1])])),(.ife (.cmp .lt (.var 1) (.cst (.int 0))) [(.set (.nm 2) (.neg (.var 2)))] []),(.ret (.tup [(.bin .fdiv (.var 0) (.var 2)),(.bin .fdiv (.var 1) (.var 2))]))]⟩
noncomputable def tw_:Fn:=⟨2,2,[(.whl (.cmp .ne (.var 1) (.cst (.int 0))) [(.par 0 1 (.var 1) (.bin .mod (.var 0) (.var 1)))]),(.ret (.var 0))]⟩
noncomputable def xg_:Fn:=⟨2,2,[(.ife (.or (.not (.call 0 [.var 1])) (.or (.cmp .lt (.var 1) (.neg (.cst (.int 1000)))) (.cmp .gt (.var 1) (.cst (.int 1000))))) [.never] [])]⟩
noncomputable def wq_:Fn:=⟨2,2,[(.ife (.cmp .ne (.bi .len [.var 0]) (.var 1)) [.never] [])]⟩
noncomputable def wO_:Fn:=⟨2,10,[(.set (.tp [2,3,4]) (.var 0)),(.exp (.call 16 [.var 1,(.bin .add (.bin .mul (.var 3) (.var 4)) (.cst (.int 1)))])),(.for (.nm 5) (.var 1) [(.exp (.call 16 [.var 5,(.bin .add (.bin .mul (.var 2) (.var 4)) (.cst (.int 1)))]))]),(.set (.nm 6) .dnew),(.for (.tp [7,5]) (.enm (.var 1)) [(.for (.tp [8,9]) (.enm (.var 5)) [(.exp (.call 15 [(.tup [.var 8,.var 7]),.var 9])),(.sub (.var 6) (.tup [.var 8,.var 7]) (.var 9))])]),(.ret (.var 6))]⟩
noncomputable def r0_:Fn:=⟨2,14,[(.set (.tp [2,3,4,5,6,7]) (.var 0)),(.set (.tp [8,9,10]) (.var 1)),(.set (.nm 11) (.bin .sub (.bin .mul (.bin .sub (.var 4) (.var 2)) (.bin .sub (.var 7) (.var 3))) (.bin .mul (.bin .sub (.var 5) (.var 3)) (.bin .sub (.var 6) (.var 2))))),(.set (.nm 12) (.bin .sub (.bin .mul (.bin .sub (.var 9) (.var 8)) (.bin .sub (.var 7) (.var 3))) (.bin .mul (.bin .sub (.var 10) (.var 8)) (.bin .sub (.var 5) (.var 3))))),(.set (.nm 13) (.bin .sub (.bin .mul (.bin .sub (.var 10) (.var 8)) (.bin .sub (.var 4) (.var 2))) (.bin .mul (.bin .sub (.var 9) (.var 8)) (.bin .sub (.var 6) (.var 2))))),(.ret (.tup [.var 12,.var 13,(.bin .sub (.bin .sub (.bin .mul (.var 8) (.var 11)) (.bin .mul (.var 12) (.var 2))) (.bin .mul (.var 13) (.var 3))),.var 11]))]⟩
noncomputable def yA_:Fn:=⟨3,3,[(.ife (.cmp .isN (.var 2) (.cst .non)) [(.fset (.var 0) 509789213455080 [211529932] (.dcmp 1 [] [((.nm 0),(.call 1 [.var 1]),[])] (.var 0) (.cst (.int 0))))] [(.fset (.var 0) 509789213455080 [211529932] (.call 17 [.var 1,.var 2]))]),(.fset (.var 0) 232289904 [211529932] (.var 1)),(.fset (.var 0) 487627477906021 [211529932] (.cst (.int 0))),(.fset (.var 0) 31083624820 [211529932] (.cst (.int 0))),(.fset (.var 0) 31083802852 [211529932] .dnew),(.fset (.var 0) 213628900 [211529932] (.lst [])),(.fset (.var 0) 3500095911797 [211529932] (.lst [])),(.fset (.var 0) 243020007 [211529932] (.dcmp 1 [] [((.nm 0),(.call 7 [.var 1]),[])] (.var 0) (.cst .non)))]⟩
noncomputable def x3_:Fn:=⟨2,2,[(.ret (.cmp .inn (.var 1) (.fld (.var 0) 243020007 [211529932])))]⟩
noncomputable def zX_:Fn:=⟨2,2,[(.ife (.not (.meth (.var 0) 31121471339 [(211529932,20,[.inl 0,.inl 1])] [.var 1] [])) [.never] [])]⟩
noncomputable def x2_:Fn:=⟨2,8,[(.exp (.meth (.var 0) 1970067245619097943106220782 [(211529932,21,[.inl 0,.inl 1])] [.var 1] [])),(.set (.tp [2,3,4,5,6,7]) (.var 1)),(.ret (.comp 1 [0] [((.nm 0),(.tup [(.tup [.var 2,.var 3]),(.tup [.var 4,.var 5]),(.tup [.var 6,.var 7])]),[])] (.idx (.fld (.var 1) 509789213455080 [211529932]) (.var 0))))]⟩
noncomputable def wT_:Fn:=⟨2,2,[(.ret (.call 18 [.var 1,(.meth (.var 0) 31089882344 [(211529932,22,[.inl 0,.inl 1])] [.var 1] [])]))]⟩
noncomputable def ve_:Fn:=⟨2,2,[(.exp (.meth (.var 0) 1970067245619097943106220782 [(211529932,21,[.inl 0,.inl 1])] [.var 1] [])),(.ife (.cmp .isN (.idx (.fld (.var 0) 243020007 [211529932]) (.var 1)) (.cst .non)) [(.sub (.fld (.var 0) 243020007 [211529932]) (.var 1) (.meth (.var 0) 56743007633339122 [(211529932,25,[.inl 0,.inl 1])] [.var 1] []))] []),(.ret (.idx (.fld (.var 0) 243020007 [211529932]) (.var 1)))]⟩
noncomputable def yC_:Fn:=⟨2,11,[(.set (.tp [2,3,4,5]) (.meth (.var 0) 244872806 [(211529932,23,[.inl 0,.inl 1])] [.var 1] [])),(.set (.tp [6,7]) (.tup [(.neg (.cst (.int 1))),.cst .non])),(.for (.tp [8,9]) (.call 12 [.var 1]) [(.set (.nm 10) (.bi .abs [(.bin .sub (.bin .mul (.idx (.fld (.var 0) 509789213455080 [211529932]) (.tup [.var 8,.var 9])) (.var 5)) (.bin .add (.bin .add (.bin .mul (.var 2) (.var 8)) (.bin .mul (.var 3) (.var 9))) (.var 4)))])),(.ife (.cmp .gt (.var 10) (.var 6)) [(.par 6 7 (.var 10) (.tup [.var 8,.var 9]))] [])]),(.ret (.tup [(.call 13 [.var 6,(.bi .abs [.var 5])]),.var 7]))]⟩
noncomputable def qY_:Fn:=⟨2,6,[(.set (.tp [2,3,4,5]) (.meth (.var 0) 244872806 [(211529932,23,[.inl 0,.inl 1])] [.var 1] [])),(.ret (.tup [(.call 13 [.var 2,.var 5]),(.call 13 [.var 3,.var 5])]))]⟩
noncomputable def x1_:Fn:=⟨1,1,[(.ret (.and (.isi (.var 0) .tint) (.not (.isi (.var 0) .tbool))))]⟩
noncomputable def wv_:Fn:=⟨2,3,[(.ife (.cmp .isN (.var 1) (.cst .non)) [(.ret (.cmp .isN (.var 0) (.cst .non)))] []),(.ife (.isi (.var 1) .tbool) [(.ret (.and (.isi (.var 0) .tbool) (.cmp .eq (.var 0) (.var 1))))] []),(.ife (.isi (.var 1) .tint) [(.ret (.and (.call 27 [.var 0]) (.cmp .eq (.var 0) (.var 1))))] []),(.ife (.isi (.var 1) .tstr) [(.ret (.and (.isi (.var 0) .tstr) (.cmp .eq (.var 0) (.var 1))))] []),(.ife (.and (.isi (.var 1) .ttuple) (.not (.isi (.var 0) .ttuple))) [(.ret (.cst (.bl false)))] []),(.ife (.and (.isi (.var 1) .tlist) (.not (.isi (.var 0) .tlist))) [(.ret (.cst (.bl false)))] []),(.ife (.cmp .ne (.bi .len [.var 0]) (.bi .len [.var 1])) [(.ret (.cst (.bl false)))] []),(.for (.nm 2) (.rng1 (.bi .len [.var 1])) [(.ife (.not (.call 28 [(.idx (.var 0) (.var 2)),(.idx (.var 1) (.var 2))])) [(.ret (.cst (.bl false)))] [])]),(.ret (.cst (.bl true)))]⟩
noncomputable def vo_:Fn:=⟨1,1,[(.ret (.lst [(.bi .list [(.slc (.var 0) none (some (.cst (.int 63))))]),(.cst (.int 0)),(.cst (.int 7))]))]⟩
noncomputable def wl_:Fn:=⟨2,5,[(.set (.nm 2) (.idx (.var 0) (.cst (.int 0)))),(.set (.nm 3) (.idx (.var 0) (.cst (.int 1)))),(.set (.nm 4) (.cst (.int 0))),(.ife (.cmp .gt (.bi .len [.var 2]) (.cst (.int 0))) [(.set (.nm 4) (.idx (.var 2) (.bin .mod (.var 3) (.bi .len [.var 2]))))] []),(.ife (.cmp .lt (.var 4) (.cst (.int 0))) [(.set (.nm 4) (.bin .sub (.cst (.int 1)) (.var 4)))] []),(.ife (.cmp .ge (.var 4) (.bin .pow (.cst (.int 10)) (.cst (.int 18)))) [(.sub (.var 2) (.bin .mod (.var 3) (.bi .len [.var 2])) (.bin .fdiv (.var 4) (.var 1))),(.ret (.bin .mod (.var 4) (.var 1)))] []),(.sub (.var 0) (.cst (.int 1)) (.bin .add (.var 3) (.cst (.int 1)))),(.sub (.var 0) (.cst (.int 2)) (.bin .mod (.bin .add (.bin .add (.bin .add (.bin .mul (.idx (.var 0) (.cst (.int 2))) (.cst (.int 48271))) (.bin .mul (.var 4) (.cst (.int 9973)))) (.bin .mul (.var 3) (.cst (.int 31)))) (.cst (.int 11))) (.cst (.int 2147483647)))),(.ret (.bin .mod (.bin .fdiv (.bin .mod (.bin .mul (.idx (.var 0) (.cst (.int 2))) (.cst (.int 69621))) (.cst (.int 2147483629))) (.cst (.int 64))) (.var 1)))]⟩
noncomputable def wC_:Fn:=⟨1,2,[(.set (.nm 1) (.lst [(.tup [(.cst (.int 1)),(.cst (.int 1)),(.cst (.int 2))]),(.tup [(.cst (.int 1)),(.cst (.int 1)),(.cst (.int 4))]),(.tup [(.cst (.int 2)),(.cst (.int 1)),(.cst (.int 2))]),(.tup [(.cst (.int 1)),(.cst (.int 2)),(.cst (.int 2))]),(.tup [(.cst (.int 2)),(.cst (.int 2)),(.cst (.int 2))]),(.tup [(.cst (.int 1)),(.cst (.int 1)),(.cst (.int 4))])])),(.set (.nm 1) (.bin .add (.var 1) (.lst [(.tup [(.cst (.int 3)),(.cst (.int 1)),(.cst (.int 2))]),(.tup [(.cst (.int 1)),(.cst (.int 3)),(.cst (.int 2))]),(.tup [(.cst (.int 2)),(.cst (.int 1)),(.cst (.int 4))]),(.tup [(.cst (.int 1)),(.cst (.int 2)),(.cst (.int 4))]),(.tup [(.cst (.int 3)),(.cst (.int 2)),(.cst (.int 2))]),(.tup [(.cst (.int 1)),(.cst (.int 1)),(.cst (.int 8))])]))),(.ret (.idx (.var 1) (.call 30 [.var 0,(.cst (.int 12))])))]⟩
noncomputable def xb_:Fn:=⟨1,4,[(.set (.nm 1) (.lst [])),(.for (.nm 2) (.rng1 (.bin .add (.bin .mul (.idx (.var 0) (.cst (.int 0))) (.idx (.var 0) (.cst (.int 2)))) (.cst (.int 1)))) [(.for (.nm 3) (.rng1 (.bin .add (.bin .mul (.idx (.var 0) (.cst (.int 1))) (.idx (.var 0) (.cst (.int 2)))) (.cst (.int 1)))) [(.exp (.app (.var 1) (.tup [.var 2,.var 3])))])]),(.ret (.var 1))]⟩
noncomputable def xS_:Fn:=⟨1,7,[(.set (.nm 1) (.lst [])),(.set (.nm 2) (.idx (.var 0) (.cst (.int 2)))),(.for (.nm 3) (.rng1 (.idx (.var 0) (.cst (.int 0)))) [(.for (.nm 4) (.rng1 (.idx (.var 0) (.cst (.int 1)))) [(.set (.nm 5) (.bin .mul (.var 3) (.var 2))),(.set (.nm 6) (.bin .mul (.var 4) (.var 2))),(.ife (.cmp .eq (.bin .mod (.bin .add (.var 3) (.var 4)) (.cst (.int 2))) (.cst (.int 0))) [(.exp (.app (.var 1) (.tup [.var 5,.var 6,(.bin .add (.var 5) (.var 2)),(.bin .add (.var 6) (.var 2)),(.bin .add (.var 5) (.var 2)),.var 6]))),(.exp (.app (.var 1) (.tup [(.bin .add (.var 5) (.var 2)),(.bin .add (.var 6) (.var 2)),.var 5,.var 6,.var 5,(.bin .add (.var 6) (.var 2))])))] [(.exp (.app (.var 1) (.tup [(.bin .add (.var 5) (.var 2)),.var 6,.var 5,(.bin .add (.var 6) (.var 2)),(.bin .add (.var 5) (.var 2)),(.bin .add (.var 6) (.var 2))]))),(.exp (.app (.var 1) (.tup [.var 5,(.bin .add (.var 6) (.var 2)),(.bin .add (.var 5) (.var 2)),.var 6,.var 5,.var 6])))])])]),(.ret (.var 1))]⟩
noncomputable def xk_:Fn:=⟨1,1,[(.ife (.or (.cmp .eq (.bin .mod (.bin .add (.idx (.var 0) (.cst (.int 0))) (.idx (.var 0) (.cst (.int 2)))) (.cst (.int 2))) (.cst (.int 1))) (.cmp .eq (.bin .mod (.bin .add (.idx (.var 0) (.cst (.int 1))) (.idx (.var 0) (.cst (.int 3)))) (.cst (.int 2))) (.cst (.int 1)))) [(.ret (.cst .non))] []),(.ret (.tup [(.bin .fdiv (.bin .add (.idx (.var 0) (.cst (.int 0))) (.idx (.var 0) (.cst (.int 2)))) (.cst (.int 2))),(.bin .fdiv (.bin .add (.idx (.var 0) (.cst (.int 1))) (.idx (.var 0) (.cst (.int 3)))) (.cst (.int 2)))]))]⟩
noncomputable def xj_:Fn:=⟨1,4,[(.set (.nm 1) (.call 34 [.var 0])),(.set (.nm 2) (.tup [(.idx (.var 0) (.cst (.int 0))),(.idx (.var 0) (.cst (.int 1))),(.idx (.var 0) (.cst (.int 4))),(.idx (.var 0) (.cst (.int 5))),(.idx (.var 1) (.cst (.int 0))),(.idx (.var 1) (.cst (.int 1)))])),(.set (.nm 3) (.tup [(.idx (.var 0) (.cst (.int 4))),(.idx (.var 0) (.cst (.int 5))),(.idx (.var 0) (.cst (.int 2))),(.idx (.var 0) (.cst (.int 3))),(.idx (.var 1) (.cst (.int 0))),(.idx (.var 1) (.cst (.int 1)))])),(.ret (.lst [.var 2,.var 3]))]⟩
noncomputable def yh_:Fn:=⟨1,1,[(.ret (.lst [(.tup [(.idx (.var 0) (.cst (.int 0))),(.idx (.var 0) (.cst (.int 1)))]),(.tup [(.idx (.var 0) (.cst (.int 2))),(.idx (.var 0) (.cst (.int 3)))]),(.tup [(.idx (.var 0) (.cst (.int 4))),(.idx (.var 0) (.cst (.int 5)))])]))]⟩
noncomputable def xZ_:Fn:=⟨3,4,[(.set (.nm 3) (.bin .mul (.bin .sub (.idx (.var 1) (.cst (.int 0))) (.idx (.var 0) (.cst (.int 0)))) (.bin .sub (.idx (.var 2) (.cst (.int 1))) (.idx (.var 0) (.cst (.int 1)))))),(.ret (.bin .sub (.var 3) (.bin .mul (.bin .sub (.idx (.var 2) (.cst (.int 0))) (.idx (.var 0) (.cst (.int 0)))) (.bin .sub (.idx (.var 1) (.cst (.int 1))) (.idx (.var 0) (.cst (.int 1)))))))]⟩
noncomputable def zV_:Fn:=⟨4,11,[(.set (.tp [4,5,6]) (.comp 1 [3] [((.nm 0),(.call 36 [.var 0]),[])] (.tup [(.bin .mul (.idx (.var 0) (.cst (.int 0))) (.var 1)),(.bin .mul (.idx (.var 0) (.cst (.int 1))) (.var 1))]))),(.set (.nm 7) (.tup [.var 1,.var 2])),(.set (.nm 8) (.cst (.int 1))),(.ife (.cmp .lt (.call 37 [.var 4,.var 5,.var 6]) (.cst (.int 0))) [(.set (.nm 8) (.bin .sub (.cst (.int 0)) (.cst (.int 1))))] []),(.set (.nm 9) (.bin .mul (.var 8) (.call 37 [.var 7,.var 5,.var 6]))),(.set (.nm 10) (.bin .mul (.var 8) (.call 37 [.var 4,.var 7,.var 6]))),(.ret (.lst [.var 9,.var 10,(.bin .mul (.var 8) (.call 37 [.var 4,.var 5,.var 7]))]))]⟩
noncomputable def y5_:Fn:=⟨2,5,[(.set (.nm 2) (.bi .srt [(.lst [(.idx (.var 0) (.cst (.int 0))),(.idx (.var 0) (.cst (.int 2))),(.idx (.var 0) (.cst (.int 4)))])])),(.set (.nm 3) (.bi .srt [(.lst [(.idx (.var 0) (.cst (.int 1))),(.idx (.var 0) (.cst (.int 3))),(.idx (.var 0) (.cst (.int 5)))])])),(.set (.nm 4) (.and (.chain .le .le (.idx (.var 2) (.cst (.int 0))) (.idx (.var 1) (.cst (.int 0))) (.idx (.var 2) (.cst (.int 2)))) (.chain .le .le (.idx (.var 3) (.cst (.int 0))) (.idx (.var 1) (.cst (.int 1))) (.idx (.var 3) (.cst (.int 2)))))),(.ret (.and (.var 4) (.cmp .ge (.bi .mn [(.call 38 [.var 0,(.idx (.var 1) (.cst (.int 0))),(.idx (.var 1) (.cst (.int 1))),(.cst (.int 1))])]) (.cst (.int 0)))))]⟩
noncomputable def xX_:Fn:=⟨1,6,[(.set (.nm 1) (.bi .srt [(.lst [(.idx (.var 0) (.cst (.int 0))),(.idx (.var 0) (.cst (.int 2))),(.idx (.var 0) (.cst (.int 4)))])])),(.set (.nm 2) (.bi .srt [(.lst [(.idx (.var 0) (.cst (.int 1))),(.idx (.var 0) (.cst (.int 3))),(.idx (.var 0) (.cst (.int 5)))])])),(.set (.nm 3) (.lst [])),(.for (.nm 4) (.rng2 (.idx (.var 1) (.cst (.int 0))) (.bin .add (.idx (.var 1) (.cst (.int 2))) (.cst (.int 1)))) [(.for (.nm 5) (.rng2 (.idx (.var 2) (.cst (.int 0))) (.bin .add (.idx (.var 2) (.cst (.int 2))) (.cst (.int 1)))) [(.ife (.call 39 [.var 0,(.tup [.var 4,.var 5])]) [(.exp (.app (.var 3) (.tup [.var 4,.var 5])))] [])])]),(.ret (.var 3))]⟩
noncomputable def va_:Fn:=⟨2,5,[(.set (.nm 2) (.bi .abs [.var 0])),(.set (.nm 3) (.bi .abs [.var 1])),(.whl (.cmp .gt (.var 3) (.cst (.int 0))) [(.set (.nm 4) (.bin .mod (.var 2) (.var 3))),(.set (.nm 2) (.var 3)),(.set (.nm 3) (.var 4))]),(.ife (.cmp .lt (.var 1) (.cst (.int 0))) [(.set (.nm 2) (.bin .sub (.cst (.int 0)) (.var 2)))] []),(.ret (.tup [(.bin .fdiv (.var 0) (.var 2)),(.bin .fdiv (.var 1) (.var 2))]))]⟩
noncomputable def vs_:Fn:=⟨2,10,[(.set (.nm 2) (.call 36 [.var 1])),(.set (.nm 3) (.bin .sub (.cst (.int 0)) (.cst (.int 1)))),(.set (.nm 4) (.cst .non)),(.set (.nm 5) (.cst (.int 1))),(.for (.nm 6) (.call 40 [.var 1]) [(.set (.nm 7) (.call 38 [.var 1,(.idx (.var 6) (.cst (.int 0))),(.idx (.var 6) (.cst (.int 1))),(.cst (.int 1))])),(.set (.nm 5) (.bi .sum [.var 7])),(.set (.nm 8) (.bi .sum [(.comp 1 [0,7,2] [((.nm 0),(.rng1 (.cst (.int 3))),[])] (.bin .mul (.idx (.var 2) (.var 0)) (.idx (.var 1) (.idx (.var 3) (.var 0)))))])),(.set (.nm 9) (.bi .abs [(.bin .sub (.bin .mul (.idx (.var 0) (.var 6)) (.var 5)) (.var 8))])),(.ife (.cmp .gt (.var 9) (.var 3)) [(.set (.nm 3) (.var 9)),(.set (.nm 4) (.var 6))] [])]),(.ret (.tup [(.call 41 [.var 3,.var 5]),.var 4]))]⟩
noncomputable def wm_:Fn:=⟨2,4,[(.set (.nm 2) (.lst [])),(.for (.nm 3) (.rng1 (.bin .add (.bin .mul (.idx (.var 0) (.cst (.int 1))) (.idx (.var 0) (.cst (.int 2)))) (.cst (.int 1)))) [(.exp (.app (.var 2) (.comp 1 [1,3] [((.nm 0),(.rng1 (.bin .add (.bin .mul (.idx (.var 0) (.cst (.int 0))) (.idx (.var 0) (.cst (.int 2)))) (.cst (.int 1)))),[])] (.idx (.var 1) (.tup [.var 0,.var 2])))))]),(.ret (.var 2))]⟩
noncomputable def x4_:Fn:=⟨2,5,[(.set (.nm 2) (.call 33 [.var 1])),(.set (.nm 3) (.idx (.var 2) (.call 30 [.var 0,(.bi .len [.var 2])]))),(.for (.nm 4) (.rng1 (.call 30 [.var 0,(.cst (.int 8))])) [(.ife (.cmp .notN (.call 34 [.var 3]) (.cst .non)) [(.set (.nm 3) (.idx (.call 35 [.var 3]) (.call 30 [.var 0,(.cst (.int 2))])))] [])]),(.ret (.var 3))]⟩
noncomputable def wp_:Fn:=⟨2,2,[(.ret (.make 211529932 19 [.var 0,(.call 43 [.var 0,.var 1])] [] [.inl 0,.inl 1,.inl 2]))]⟩
noncomputable def gu_:Fn:=⟨1,19,[(.set (.nm 1) (.call 29 [.var 0])),(.set (.nm 2) (.call 31 [.var 1])),(.set (.nm 3) (.bin .sub (.call 30 [.var 1,(.cst (.int 21))]) (.cst (.int 10)))),(.set (.nm 4) (.bin .sub (.call 30 [.var 1,(.cst (.int 21))]) (.cst (.int 10)))),(.set (.nm 5) (.bin .sub (.call 30 [.var 1,(.cst (.int 201))]) (.cst (.int 100)))),(.set (.nm 6) .dnew),(.set (.nm 7) .dnew),(.set (.nm 8) .dnew),(.for (.nm 9) (.call 32 [.var 2]) [(.sub (.var 6) (.var 9) (.bin .sub (.call 30 [.var 1,(.cst (.int 401))]) (.cst (.int 200)))),(.sub (.var 7) (.var 9) (.bin .add (.bin .add (.bin .add (.idx (.var 6) (.var 9)) (.bin .mul (.var 3) (.idx (.var 9) (.cst (.int 0))))) (.bin .mul (.var 4) (.idx (.var 9) (.cst (.int 1))))) (.var 5))),(.sub (.var 8) (.var 9) (.bin .sub (.cst (.int 0)) (.idx (.var 6) (.var 9))))]),(.set (.nm 10) (.call 45 [.var 2,.var 6])),(.set (.nm 11) (.call 45 [.var 2,.var 7])),(.set (.nm 12) (.call 45 [.var 2,.var 8])),(.set (.nm 13) (.cst (.bl true))),(.for (.nm 14) (.rng1 (.cst (.int 10))) [(.set (.nm 15) (.call 44 [.var 1,.var 2])),(.set (.nm 16) (.meth (.var 10) 1847527 [(211529932,24,[.inl 0,.inl 1])] [.var 15] [])),(.set (.nm 13) (.and (.var 13) (.call 28 [.var 16,(.call 42 [.var 6,.var 15])]))),(.set (.nm 13) (.and (.var 13) (.and (.call 28 [(.meth (.var 11) 1847527 [(211529932,24,[.inl 0,.inl 1])] [.var 15] []),.var 16]) (.call 28 [(.meth (.var 12) 1847527 [(211529932,24,[.inl 0,.inl 1])] [.var 15] []),.var 16])))),(.set (.nm 17) (.call 26 [.var 10,.var 15])),(.set (.nm 18) (.call 26 [.var 11,.var 15])),(.set (.nm 13) (.and (.var 13) (.cmp .eq (.bin .mul (.idx (.idx (.var 18) (.cst (.int 0))) (.cst (.int 0))) (.idx (.idx (.var 17) (.cst (.int 0))) (.cst (.int 1)))) (.bin .mul (.bin .add (.idx (.idx (.var 17) (.cst (.int 0))) (.cst (.int 0))) (.bin .mul (.var 3) (.idx (.idx (.var 17) (.cst (.int 0))) (.cst (.int 1))))) (.idx (.idx (.var 18) (.cst (.int 0))) (.cst (.int 1))))))),(.set (.nm 13) (.and (.var 13) (.cmp .eq (.bin .mul (.idx (.idx (.var 18) (.cst (.int 1))) (.cst (.int 0))) (.idx (.idx (.var 17) (.cst (.int 1))) (.cst (.int 1)))) (.bin .mul (.bin .add (.idx (.idx (.var 17) (.cst (.int 1))) (.cst (.int 0))) (.bin .mul (.var 4) (.idx (.idx (.var 17) (.cst (.int 1))) (.cst (.int 1))))) (.idx (.idx (.var 18) (.cst (.int 1))) (.cst (.int 1)))))))]),(.ret (.var 13))]⟩
noncomputable def fns:List Fn:=[vr_,pL_,xn_,rr_,t9_,so_,im_,tx_,o1_,fL_,tN_,sh_,pl_,ra_,tw_,xg_,wq_,wO_,r0_,yA_,x3_,zX_,x2_,wT_,ve_,yC_,qY_,x1_,wv_,vo_,wl_,wC_,xb_,xS_,xk_,xj_,yh_,xZ_,zV_,y5_,xX_,va_,vs_,wm_,x4_,wp_,gu_]
end Lk40
end
section
namespace Lk40
noncomputable section
open PySem PI L2
noncomputable def sA_:List Inf:=[⟨"is_whole",["thing"],["thing"],none,none⟩,⟨"places",["plan","wide","deep","side"],["plan"],none,none⟩,⟨"block_roots",["i","j","side","x","y","right","top"],["i","j","side"],none,none⟩,⟨"roots",["plan","wide","deep","side"],["plan"],none,none⟩,⟨"middle",["shape","ax","ay","bx","by"],["shape"],none,none⟩,⟨"halved",["shape","place","x","y","ax","ay","bx","by","cx","cy"],["shape"],none,none⟩,⟨"kin",["starts","told","waiting","shape"],["starts"],none,none⟩,⟨"shapes",["plan"],["plan"],none,none⟩,⟨"turn",["ax","ay","bx","by","at","x","y"],["ax","ay","bx","by","at"],none,none⟩,⟨"box",["shape","ax","ay","bx","by","cx","cy"],["shape"],none,none⟩,⟨"in_box",["shape","at","left","low","right","high","x","y"],["shape","at"],none,none⟩,⟨"covers",["shape","at","ax","ay","bx","by","cx","cy","turns"],["shape","at"],none,none⟩,⟨"under",["shape","left","low","right","high"],["shape"],none,none⟩,⟨"share",["over","under","divisor"],["over","under"],none,none⟩,⟨"common",["one","other"],["one","other"],none,none⟩,⟨"need_height",["at","high"],["at","high"],none,none⟩,⟨"need_size",["things","size"],["things","size"],none,none⟩,⟨"read_rows",["plan","rows","wide","deep","side","row","heights","y","x","high"],["plan","rows"],none,none⟩,⟨"plane",["shape","highs","ax","ay","bx","by","cx","cy","start","first","second","whole","rise","climb"],["shape","highs"],none,none⟩,⟨"Land.__init__",["self","plan","rows"],["self","plan","rows"],some ("Land","__init__"),some (⟨["self","plan","rows"],[],[("rows",.non)]⟩,1)⟩,⟨"Land.knows",["self","shape"],["self","shape"],some ("Land","knows"),some (⟨["self","shape"],[],[]⟩,0)⟩,⟨"Land.need_triangle",["self","shape"],["self","shape"],some ("Land","need_triangle"),some (⟨["self","shape"],[],[]⟩,0)⟩,⟨"Land.highs",["self","shape","ax","ay","bx","by","cx","cy"],["self","shape"],some ("Land","highs"),some (⟨["self","shape"],[],[]⟩,0)⟩,⟨"Land.flat",["self","shape"],["self","shape"],some ("Land","flat"),some (⟨["self","shape"],[],[]⟩,0)⟩,⟨"Land.gap",["self","shape"],["self","shape"],some ("Land","gap"),some (⟨["self","shape"],[],[]⟩,0)⟩,⟨"Land.reckoned",["self","shape","rise","climb","base","whole","greatest","where","x","y","distance"],["self","shape"],some ("Land","reckoned"),some (⟨["self","shape"],[],[]⟩,0)⟩,⟨"slope",["land","shape","rise","climb","base","whole"],["land","shape"],none,none⟩,⟨"_law_whole",["_law_found"],["_law_found"],none,none⟩,⟨"_law_same",["_law_found","_law_due","_law_k"],["_law_found","_law_due"],none,none⟩,⟨"_law_bag",["_law_script"],["_law_script"],none,none⟩,⟨"_law_draw",["_law_bag_here","_law_many","_law_cells","_law_at","_law_cell"],["_law_bag_here","_law_many"],none,none⟩,⟨"_law_plan",["_law_bag_here","_law_menu"],["_law_bag_here"],none,none⟩,⟨"_law_places",["_law_plan_here","_law_found","_law_x","_law_y"],["_law_plan_here"],none,none⟩,⟨"_law_roots",["_law_plan_here","_law_found","_law_side","_law_i","_law_j","_law_x","_law_y"],["_law_plan_here"],none,none⟩,⟨"_law_middle",["_law_shape_here"],["_law_shape_here"],none,none⟩,⟨"_law_halves",["_law_shape_here","_law_at","_law_one","_law_two"],["_law_shape_here"],none,none⟩,⟨"_law_corners_of",["_law_shape_here"],["_law_shape_here"],none,none⟩,⟨"_law_cross",["_law_one","_law_two","_law_three","_law_first"],["_law_one","_law_two","_law_three"],none,none⟩,⟨"_law_weigh",["_law_shape_here","_law_x","_law_y","_law_scale","_law_a","_law_b","_law_c","_law_spot","_law_sign","_law_one","_law_two"],["_law_shape_here","_law_x","_law_y","_law_scale"],none,none⟩,⟨"_law_covers",["_law_shape_here","_law_at","_law_wide","_law_tall","_law_inner"],["_law_shape_here","_law_at"],none,none⟩,⟨"_law_under",["_law_shape_here","_law_wide","_law_tall","_law_found","_law_x","_law_y"],["_law_shape_here"],none,none⟩,⟨"_law_low",["_law_gain","_law_base","_law_one","_law_two","_law_rest"],["_law_gain","_law_base"],none,none⟩,⟨"_law_gap",["_law_heights","_law_shape_here","_law_tips","_law_best","_law_spot","_law_total","_law_at","_law_parts","_law_plane","_law_away"],["_law_heights","_law_shape_here"],none,none⟩,⟨"_law_rows",["_law_plan_here","_law_heights","_law_found","_law_y"],["_law_plan_here","_law_heights"],none,none⟩,⟨"_law_shape",["_law_bag_here","_law_plan_here","_law_some","_law_shape_here","_law_turn"],["_law_bag_here","_law_plan_here"],none,none⟩,⟨"_law_made",["_law_plan_here","_law_heights"],["_law_plan_here","_law_heights"],none,none⟩,⟨"law",["_law_script","_law_bag_here","_law_plan_here","_law_across","_law_along","_law_raised","_law_heights","_law_tilted","_law_down","_law_at","_law_land","_law_other","_law_turned_land","_law_good","_law_k","_law_shape_here","_law_due","_law_one","_law_two"],["_law_script"],none,none⟩]
noncomputable def ms:List Str:=["__init__","flat","gap","highs","knows","need_triangle","reckoned"]
noncomputable def T:Tab:=⟨[(sO "is_whole"),(sO "places"),(sO "block_roots"),(sO "roots"),(sO "middle"),(sO "halved"),(sO "kin"),(sO "shapes"),(sO "turn"),(sO "box"),(sO "in_box"),(sO "covers"),(sO "under"),(sO "share"),(sO "common"),(sO "need_height"),(sO "need_size"),(sO "read_rows"),(sO "plane"),(sO "__debug__"),(sO "__debug__"),(sO "__debug__"),(sO "__debug__"),(sO "__debug__"),(sO "__debug__"),(sO "__debug__"),(sO "slope"),(sO "_law_whole"),(sO "_law_same"),(sO "_law_bag"),(sO "_law_draw"),(sO "_law_plan"),(sO "_law_places"),(sO "_law_roots"),(sO "_law_middle"),(sO "_law_halves"),(sO "_law_corners_of"),(sO "_law_cross"),(sO "_law_weigh"),(sO "_law_covers"),(sO "_law_under"),(sO "_law_low"),(sO "_law_gap"),(sO "_law_rows"),(sO "_law_shape"),(sO "_law_made"),(sO "law")],[("HIGH",(.int 1000))],["abs","bool","enumerate","int","isinstance","len","list","max","min","range","sorted","str","sum","tuple"],f9_ sA_,ek_ sA_,oc_ sA_ ms,[("plan",[211529932]),("edition",[211529932]),("tries",[211529932]),("dates",[211529932]),("done",[211529932]),("undone",[211529932]),("gaps",[211529932]),("heights",[211529932])]⟩
noncomputable def loose:List Str:=[(sO "_wall"),(sO "LandError"),(sO "LookError"),(sO "NoShare"),(sO "BadSize"),(sO "BadHeight"),(sO "NoHalf"),(sO "NoPlace"),(sO "NoTriangle"),(sO "NothingLeft"),(sO "is_whole"),(sO "in_land"),(sO "need_place"),(sO "places"),(sO "block_roots"),(sO "roots"),(sO "middle"),(sO "halved"),(sO "kin"),(sO "shapes"),(sO "turn"),(sO "box"),(sO "in_box"),(sO "covers"),(sO "under"),(sO "share"),(sO "common"),(sO "HIGH"),(sO "need_height"),(sO "need_size"),(sO "read_rows"),(sO "touched"),(sO "plane"),(sO "Land"),(sO "slope"),(sO "_law_whole"),(sO "_law_same"),(sO "_law_bag"),(sO "_law_draw"),(sO "_law_plan"),(sO "_law_places"),(sO "_law_roots"),(sO "_law_middle"),(sO "_law_halves"),(sO "_law_corners_of"),(sO "_law_cross"),(sO "_law_weigh"),(sO "_law_covers"),(sO "_law_under"),(sO "_law_low"),(sO "_law_gap"),(sO "_law_rows"),(sO "_law_shape"),(sO "_law_made")]
end
end Lk40
end
section
open PySem PySem.W PyProof.Rows
noncomputable def Lk40.raws:List (Option (Scope×List Stmt)):=[PI.yl_ PySem.Challenge.rw_braemantle_k40_whole_tilted_lands.prog.main.body 12,PI.yl_ PySem.Challenge.rw_braemantle_k40_whole_tilted_lands.prog.main.body 15,PI.yl_ PySem.Challenge.rw_braemantle_k40_whole_tilted_lands.prog.main.body 17,PI.yl_ PySem.Challenge.rw_braemantle_k40_whole_tilted_lands.prog.main.body 18,PI.yl_ PySem.Challenge.rw_braemantle_k40_whole_tilted_lands.prog.main.body 19,PI.yl_ PySem.Challenge.rw_braemantle_k40_whole_tilted_lands.prog.main.body 20,PI.yl_ PySem.Challenge.rw_braemantle_k40_whole_tilted_lands.prog.main.body 21,PI.yl_ PySem.Challenge.rw_braemantle_k40_whole_tilted_lands.prog.main.body 22,PI.yl_ PySem.Challenge.rw_braemantle_k40_whole_tilted_lands.prog.main.body 23,PI.yl_ PySem.Challenge.rw_braemantle_k40_whole_tilted_lands.prog.main.body 24,PI.yl_ PySem.Challenge.rw_braemantle_k40_whole_tilted_lands.prog.main.body 25,PI.yl_ PySem.Challenge.rw_braemantle_k40_whole_tilted_lands.prog.main.body 26,PI.yl_ PySem.Challenge.rw_braemantle_k40_whole_tilted_lands.prog.main.body 27,PI.yl_ PySem.Challenge.rw_braemantle_k40_whole_tilted_lands.prog.main.body 29,PI.yl_ PySem.Challenge.rw_braemantle_k40_whole_tilted_lands.prog.main.body 30,PI.yl_ PySem.Challenge.rw_braemantle_k40_whole_tilted_lands.prog.main.body 33,PI.yl_ PySem.Challenge.rw_braemantle_k40_whole_tilted_lands.prog.main.body 34,PI.yl_ PySem.Challenge.rw_braemantle_k40_whole_tilted_lands.prog.main.body 35,PI.yl_ PySem.Challenge.rw_braemantle_k40_whole_tilted_lands.prog.main.body 37,PI.lN_ PySem.Challenge.rw_braemantle_k40_whole_tilted_lands.prog.main.body 38 0,PI.lN_ PySem.Challenge.rw_braemantle_k40_whole_tilted_lands.prog.main.body 38 12,PI.lN_ PySem.Challenge.rw_braemantle_k40_whole_tilted_lands.prog.main.body 38 13,PI.lN_ PySem.Challenge.rw_braemantle_k40_whole_tilted_lands.prog.main.body 38 14,PI.lN_ PySem.Challenge.rw_braemantle_k40_whole_tilted_lands.prog.main.body 38 15,PI.lN_ PySem.Challenge.rw_braemantle_k40_whole_tilted_lands.prog.main.body 38 16,PI.lN_ PySem.Challenge.rw_braemantle_k40_whole_tilted_lands.prog.main.body 38 17,PI.yl_ PySem.Challenge.rw_braemantle_k40_whole_tilted_lands.prog.main.body 40,PI.yl_ PySem.Challenge.rw_braemantle_k40_whole_tilted_lands.prog.main.body 42,PI.yl_ PySem.Challenge.rw_braemantle_k40_whole_tilted_lands.prog.main.body 43,PI.yl_ PySem.Challenge.rw_braemantle_k40_whole_tilted_lands.prog.main.body 44,PI.yl_ PySem.Challenge.rw_braemantle_k40_whole_tilted_lands.prog.main.body 45,PI.yl_ PySem.Challenge.rw_braemantle_k40_whole_tilted_lands.prog.main.body 46,PI.yl_ PySem.Challenge.rw_braemantle_k40_whole_tilted_lands.prog.main.body 47,PI.yl_ PySem.Challenge.rw_braemantle_k40_whole_tilted_lands.prog.main.body 48,PI.yl_ PySem.Challenge.rw_braemantle_k40_whole_tilted_lands.prog.main.body 49,PI.yl_ PySem.Challenge.rw_braemantle_k40_whole_tilted_lands.prog.main.body 50,PI.yl_ PySem.Challenge.rw_braemantle_k40_whole_tilted_lands.prog.main.body 51,PI.yl_ PySem.Challenge.rw_braemantle_k40_whole_tilted_lands.prog.main.body 52,PI.yl_ PySem.Challenge.rw_braemantle_k40_whole_tilted_lands.prog.main.body 53,PI.yl_ PySem.Challenge.rw_braemantle_k40_whole_tilted_lands.prog.main.body 54,PI.yl_ PySem.Challenge.rw_braemantle_k40_whole_tilted_lands.prog.main.body 55,PI.yl_ PySem.Challenge.rw_braemantle_k40_whole_tilted_lands.prog.main.body 56,PI.yl_ PySem.Challenge.rw_braemantle_k40_whole_tilted_lands.prog.main.body 57,PI.yl_ PySem.Challenge.rw_braemantle_k40_whole_tilted_lands.prog.main.body 58,PI.yl_ PySem.Challenge.rw_braemantle_k40_whole_tilted_lands.prog.main.body 59,PI.yl_ PySem.Challenge.rw_braemantle_k40_whole_tilted_lands.prog.main.body 60,PI.yl_ PySem.Challenge.rw_braemantle_k40_whole_tilted_lands.prog.main.body 61]
set_option maxRecDepth 100000 in
set_option maxHeartbeats 0 in
theorem Lk40.chk0(w:World):(PI.endsF PySem.Challenge.rw_braemantle_k40_whole_tilted_lands.prog w 20000).map (λs=>(Fast.tw4187177175401517315 (PI.lastOf PySem.Challenge.rw_braemantle_k40_whole_tilted_lands.prog) Lk40.loose (PySem.importedModules PySem.Challenge.rw_braemantle_k40_whole_tilted_lands.prog.main.body) (λ_=>true) true s,PI.d8_ Lk40.T (PI.t6_ s.heap) Lk40.sA_))=some (openGood (PI.lastOf PySem.Challenge.rw_braemantle_k40_whole_tilted_lands.prog) Lk40.loose,true):=by kernel_rfl
set_option maxRecDepth 100000 in
set_option maxHeartbeats 0 in
theorem Lk40.chk1(w:World):(PI.endsF PySem.Challenge.rw_braemantle_k40_whole_tilted_lands.prog w 20000).map (λs=>(Lk40.sA_.take 26).map (PI.mM_ (PI.t6_ s.heap)))=some (Lk40.raws.take 26):=by kernel_rfl
set_option maxRecDepth 100000 in
set_option maxHeartbeats 0 in
theorem Lk40.chk2(w:World):(PI.endsF PySem.Challenge.rw_braemantle_k40_whole_tilted_lands.prog w 20000).map (λs=>((Lk40.sA_.drop 26).take 21).map (PI.mM_ (PI.t6_ s.heap)))=some ((Lk40.raws.drop 26).take 21):=by kernel_rfl
set_option maxRecDepth 100000 in
set_option maxHeartbeats 0 in
theorem Lk40.part0:PI.zc_ (((Lk40.sA_.zip Lk40.raws).take 17).map (PI.mkF Lk40.T))=some (Lk40.fns.take 17):=by kernel_rfl
set_option maxRecDepth 100000 in
set_option maxHeartbeats 0 in
theorem Lk40.part1:PI.zc_ ((((Lk40.sA_.zip Lk40.raws).drop 17).take 11).map (PI.mkF Lk40.T))=some ((Lk40.fns.drop 17).take 11):=by kernel_rfl
set_option maxRecDepth 100000 in
set_option maxHeartbeats 0 in
theorem Lk40.part2:PI.zc_ ((((Lk40.sA_.zip Lk40.raws).drop 28).take 6).map (PI.mkF Lk40.T))=some ((Lk40.fns.drop 28).take 6):=by kernel_rfl
set_option maxRecDepth 100000 in
set_option maxHeartbeats 0 in
theorem Lk40.part3:PI.zc_ ((((Lk40.sA_.zip Lk40.raws).drop 34).take 8).map (PI.mkF Lk40.T))=some ((Lk40.fns.drop 34).take 8):=by kernel_rfl
set_option maxRecDepth 100000 in
set_option maxHeartbeats 0 in
theorem Lk40.part4:PI.zc_ ((((Lk40.sA_.zip Lk40.raws).drop 42).take 5).map (PI.mkF Lk40.T))=some ((Lk40.fns.drop 42).take 5):=by kernel_rfl
end
namespace L2
open PySem PySem.Spec PyProof.Rows
noncomputable abbrev Key:=Sum Int Str
noncomputable def sH_:Key->Value->Bool
 | .inl k,v=>Value.isInt k v
 | .inr x,v=>Value.isStrOf x v
noncomputable def b0_(w:World):Key->Int
 | .inl k=>hashInt k
 | .inr x=>hashStr w x
theorem zy_:∀ {k:Key} {v:Value},sH_ k v=true->(∃ i t,k=Sum.inl i/\v=Value.int i t)\/(∃ x t,k=Sum.inr x/\v=Value.str x t)
 | .inl i,v,h=>by
  obtain ⟨t,e⟩:=Value.isInt_shape (k:=i) (v:=v) h;exact .inl ⟨i,t,rfl,e⟩
 | .inr x,v,h=>by
  obtain ⟨t,e⟩:=Value.isStrOf_shape (x:=x) (v:=v) h;exact .inr ⟨x,t,rfl,e⟩
theorem rG_(i:Int)(t:Tok):sH_ (.inl i) (.int i t)=true:=by simp [sH_,Value.isInt]
theorem qp_(x:Str)(t:Tok):sH_ (.inr x) (.str x t)=true:=by simp [sH_,Value.isStrOf]
theorem jC_(a b:Int):decide ((Sum.inl a:Key)=Sum.inl b)=(a == b):=by
 by_cases e:a=b
 .subst e;simp
 .have h : ¬ (Sum.inl a:Key)=Sum.inl b:=λq=>e (Sum.inl.inj q)
  rw [decide_eq_false h];exact (beq_eq_false_iff_ne.mpr e).symm
theorem g1_(a b:Str):decide ((Sum.inr a:Key)=Sum.inr b)=decide (a=b):=by
 by_cases e:a=b
 .subst e;simp
 .have h : ¬ (Sum.inr a:Key)=Sum.inr b:=λq=>e (Sum.inr.inj q)
  rw [decide_eq_false h,decide_eq_false e]
theorem hf_(a:Int)(b:Str):decide ((Sum.inl a:Key)=Sum.inr b)=false:=decide_eq_false (λq=>nomatch q)
theorem j2_(a:Str)(b:Int):decide ((Sum.inr a:Key)=Sum.inl b)=false:=decide_eq_false (λq=>nomatch q)
noncomputable def zL_(prog:Program)(w:World):PySem.KeyKind prog w Key where
 is:=sH_
 hash:=b0_ w
 inj:=λv a b ha hb=>by
  rcases zy_ ha with ⟨i,t,rfl,rfl⟩ | ⟨x,t,rfl,rfl⟩
  .rcases zy_ hb with ⟨j,u,rfl,e⟩ | ⟨y,u,rfl,e⟩
   .injection e with e1 _;rw [e1]
   .exact nomatch e
  .rcases zy_ hb with ⟨j,u,rfl,e⟩ | ⟨y,u,rfl,e⟩
   .exact nomatch e
   .injection e with e1 _;rw [e1]
 byValue:=λk v h=>by
  rcases zy_ h with ⟨i,t,rfl,rfl⟩ | ⟨x,t,rfl,rfl⟩ <;> rfl
 pyHash:=λhv h=>by
  rcases zy_ hv with ⟨i,t,rfl,rfl⟩ | ⟨x,t,rfl,rfl⟩
  .exact wpAny_pyHash_int h
  .exact wpAny_pyHash_str h
 eqBool:=λhu hv h=>by
  rcases zy_ hu with ⟨i,t,rfl,rfl⟩ | ⟨x,t,rfl,rfl⟩
  .rcases zy_ hv with ⟨j,u,rfl,rfl⟩ | ⟨y,u,rfl,rfl⟩
   .rw [jC_] at h;exact wpAny_eqBool_int h
   .rw [hf_] at h;exact SeqAt.EqAt.int_str i t y u _ _ _ _ h
  .rcases zy_ hv with ⟨j,u,rfl,rfl⟩ | ⟨y,u,rfl,rfl⟩
   .rw [j2_] at h;exact SeqAt.EqAt.str_int x t j u _ _ _ _ h
   .rw [g1_] at h;exact wpAny_eqBool_str h
 «strs» := λk x t v h=>by
  rcases zy_ h with ⟨i,u,rfl,e⟩ | ⟨y,u,rfl,e⟩
  .exact nomatch e
  .injection e with e1 _
   subst e1;cases v <;> rfl
theorem tm_(prog:Program)(w:World)(i:Int)(t:Tok):(zL_ prog w).is (.inl i) (.int i t)=true:=rG_ i t
theorem tk_(prog:Program)(w:World)(x:Str)(t:Tok):(zL_ prog w).is (.inr x) (.str x t)=true:=qp_ x t
end L2
namespace L2
open PySem PySem.Spec PyProof.Rows
inductive V where
 | non | bl (b:Bool) | int (i:Int) | str (x:Str) | byt (b:Array UInt8) | flt (b:UInt64) | ref (a:Addr) | ty (n:String)
 deriving DecidableEq
noncomputable def RelV:V->Value->Prop
 | .non,u=>u=Value.none
 | .bl b,u=>u=Value.bool b
 | .int i,u => ∃ t,u=Value.int i t
 | .str x,u => ∃ t,u=Value.str x t
 | .byt b,u => ∃ t,u=Value.bytes b t
 | .flt b,u => ∃ t,u=Value.float b t
 | .ref a,u=>u=Value.ref a
 | .ty n,u=>u=Value.type n
noncomputable abbrev Vals:List V->List Value->Prop:=Paired RelV
theorem Vals.length{xs:List V}{us:List Value}(r:Vals xs us):xs.length=us.length:=Paired.length r
theorem Vals.get:∀ {xs:List V} {us:List Value} {i:Nat} {x:V},Vals xs us->xs[i]? = some x -> ∃ u,us[i]? = some u/\RelV x u
 | _,_,_,_,.nil,e=>by simp at e
 | _,_,0,_,.cons r _,e=>by simp at e;subst e;exact ⟨_,rfl,r⟩
 | _,_,i+1,x,.cons _ t,e=>by
  obtain ⟨u,h1,h2⟩:=Vals.get (i:=i) (x:=x) t (by simpa using e)
  exact ⟨u,by simpa using h1,h2⟩
theorem Vals.set{x:V}{u:Value}(r:RelV x u):∀ {xs:List V} {us:List Value} (i:Nat),Vals xs us->Vals (xs.set i x) (us.set i u)
 | _,_,_,.nil => .nil
 | _,_,0,.cons _ t => .cons r t
 | _,_,i+1,.cons q t => .cons q (Vals.set r i t)
theorem Vals.append:∀ {xs ys:List V} {us ws:List Value},Vals xs us->Vals ys ws->Vals (xs++ys) (us++ws)
 | _,_,_,_,.nil,s=>s
 | _,_,_,_,.cons r t,s => .cons r (Vals.append t s)
theorem Vals.take:∀ {xs:List V} {us:List Value} (n:Nat),Vals xs us->Vals (xs.take n) (us.take n)
 | _,_,0,_ => .nil
 | _,_,_+1,.nil => .nil
 | _,_,n+1,.cons r t => .cons r (Vals.take n t)
theorem Vals.drop:∀ {xs:List V} {us:List Value} (n:Nat),Vals xs us->Vals (xs.drop n) (us.drop n)
 | _,_,0,r=>r
 | _,_,_+1,.nil => .nil
 | _,_,n+1,.cons _ t=>Vals.drop n t
noncomputable def RelO:Option V->Option Value->Prop
 | some v,some u=>RelV v u
 | none,none=>True
 | _,_=>False
noncomputable def KV{κ:Type}:List (κ×V)->List (κ×Value)->Prop:=Paired λ(p:κ×V) (q:κ×Value)=>p.1=q.1/\RelV p.2 q.2
noncomputable def kV:Key->V
 | .inl i => .int i
 | .inr x => .str x
inductive HO where
 | lst (xs:List V)
 | tup (xs:List V)
 | dK (kvs:List (Key×V)) | dT (kvs:List (List Key×V))
 | set (S:Int->Bool) (n:Nat)
 | ins (C dx:Addr) (fs:List (Str×V))
 | own (x:Addr)
 | xd (fs:List (Str×V))
 | met (f x:Addr)
 | rng (lo hi:Int)
 | frz (o:Obj) (u:HO)
 | tbl (ps:Array Value)
 | ext (φ:Heap->Prop)
noncomputable abbrev Hp:=Addr->Option HO
noncomputable def upd(H:Hp)(a:Addr)(o:HO):Hp:=λb=>if b=a then some o else H b
theorem upd_same{H:Hp}{a:Addr}{o:HO}:upd H a o a=some o:=by unfold upd;rw [if_pos rfl]
theorem zg_{H:Hp}{a b:Addr}{o:HO}(h:b≠a):upd H a o b=H b:=by unfold upd;rw [if_neg h]
theorem s0_{H:Hp}{a b:Addr}{o u:HO}(h:H a=some o)(h':H b=some u)(d:o≠u):a≠b:=by
 intro e;subst e;rw [h] at h';exact d (Option.some.inj h')
theorem zt_{H:Hp}{a b:Addr}{o:HO}(h:H a=some o)(h':H b=none):a≠b:=by
 intro e;subst e;rw [h] at h';cases h'
section
variable(P:Program)(w:World)
noncomputable def ObjOk(H:Hp)(h:Heap)(a:Addr):HO->Prop
 | .lst xs=>xs.length<=sizeLine /\ ∃ (its:List Value) (n:Nat),Vals xs its/\h.get? a=some { cls := .type "list",data := .seq its.toArray n }
 | .tup xs=>xs.length<=sizeLine /\ ∃ its:List Value,Vals xs its/\IsTup h a its.toArray
 | .dK kvs=>kvs.length<=sizeLine/\(a == sysModules)=false /\ ∃ vs,KV kvs vs/\h.DictOf (zL_ P w) a vs
 | .dT kvs=>kvs.length<=sizeLine/\(a == sysModules)=false /\ ∃ xs:List (List Key×Addr×Value),
   Paired (λ(p:List Key×V) (q:List Key×Addr×Value)=>p.1=q.1/\H q.2.1=some (.tup (p.1.map kV))/\RelV p.2 q.2.2) kvs xs /\
   ∃ o es ep,h.get? a=some o/\o.ExactDict/\o.data=.dict es ep/\es.toList=xs.map (entryOfKey (tupleKind (zL_ P w)))/\(xs.map (·.1)).Nodup
 | .set S n=>h.SetOf (intKind P w) a S n
 | .ins C dx fs=>H dx=some (.own a)/\fs.length<=1000/\dx≠a/\h.get? a=some (PySem.W.instObj C dx) /\
   ∃ mA,h.Ns1 dx mA/\(∀ f,RelO (fs.lookup f) (mA f))/\PySem.Within mA (fs.map (·.1))
 | .own _ => ∃ o,h.get? a=some o
 | .xd fs => ∃ mA,h.Ns1 a mA /\ ∀ f,RelO (fs.lookup f) (mA f)
 | .rng lo hi => ∃ t u v,h.get? a=some { cls := .type "range",data := .fields #[.int lo t,.int hi u,.int 1 v] }
 | .frz o u=>h.get? a=some o/\ObjOk H h a u
 | .tbl ps=>h.get? a=some { cls := .none,data := .fields ps }
 | .met f x=>h.get? a=some (PySem.W.methodObj (.ref f) (.ref x))
 | .ext φ=>φ h/\(∃ o,h.get? a=some o) /\ ∀ h1 h2:Heap,φ h1->(∀ o,h1.get? a=some o->h2.get? a=some o)->φ h2
noncomputable def HOk(H:Hp)(h:Heap):Prop := ∀ a o,H a=some o->ObjOk P w H h a o
end
section
variable{P:Program}{w:World}{H H':Hp}{h h':Heap}{a:Addr}{o:HO}
theorem ObjOk.lt(x:ObjOk P w H h a o):a < h.objs.size:=by
 cases o with
 | lst xs=>obtain ⟨_,_,_,_,e⟩:=x;exact Heap.lt_size e
 | tup xs=>obtain ⟨_,_,_,p⟩:=x;exact p.lt
 | dK kvs=>obtain ⟨_,_,_,_,o,_,_,e,_⟩:=x;exact Heap.lt_size e
 | dT kvs=>obtain ⟨_,_,_,_,o,_,_,e,_⟩:=x;exact Heap.lt_size e
 | set S n=>obtain ⟨o,_,_,_,e,_⟩:=x;exact Heap.lt_size e
 | ins C dx fs=>obtain ⟨_,_,_,e,_⟩:=x;exact Heap.lt_size e
 | own y=>obtain ⟨_,e⟩:=x;exact Heap.lt_size e
 | xd fs=>obtain ⟨_,⟨_,_,_,e,_⟩,_⟩:=x;exact Heap.lt_size e
 | rng lo hi=>obtain ⟨_,_,_,e⟩:=x;exact Heap.lt_size e
 | frz ob u=>obtain ⟨e,_⟩:=x;exact Heap.lt_size e
 | tbl ps=>exact Heap.lt_size (show h.get? a=some _ from x)
 | met f y=>exact Heap.lt_size (show h.get? a=some _ from x)
 | ext φ=>obtain ⟨_,⟨_,e⟩,_⟩:=x;exact Heap.lt_size e
theorem Paired.mapP{α β:Type}{F G:α->β->Prop}:∀ {l₁ : List α} {l₂ : List β},Paired F l₁ l₂ -> (∀ a b,F a b->G a b)->Paired G l₁ l₂
 | _,_,.nil,_ => .nil
 | _,_,.cons r t,f => .cons (f _ _ r) (Paired.mapP t f)
theorem ObjOk.stay(x:ObjOk P w H h a o)(k:∀ b u,(b=a\/H b=some (.own a))->h.get? b=some u->h'.get? b=some u)
  (ho:∀ b,H b=some (.own a)->H' b=some (.own a)) (ht:∀ b xs,H b=some (.tup xs)->H' b=some (.tup xs)):ObjOk P w H' h' a o:=by
 induction o with
 | lst xs=>obtain ⟨z,its,n,r,e⟩:=x;exact ⟨z,its,n,r,k _ _ (.inl rfl) e⟩
 | tup xs=>obtain ⟨z,its,r,ob,e,c⟩:=x;exact ⟨z,its,r,ob,k _ _ (.inl rfl) e,c⟩
 | dK kvs=>obtain ⟨z,y,vs,r,ob,es,ep,e,c⟩:=x;exact ⟨z,y,vs,r,ob,es,ep,k _ _ (.inl rfl) e,c⟩
 | dT kvs =>
  obtain ⟨z,y,xs,r,ob,es,ep,e,c⟩:=x;exact ⟨z,y,xs,Paired.mapP r λp q z=>⟨z.1,ht _ _ z.2.1,z.2.2⟩,ob,es,ep,k _ _ (.inl rfl) e,c⟩
 | set S n=>obtain ⟨ob,es,ep,t,e,c⟩:=x;exact ⟨ob,es,ep,t,k _ _ (.inl rfl) e,c⟩
 | ins C dx fs =>
  obtain ⟨d,z,ne,e,mA,⟨od,es,ep,e2,c⟩,r⟩:=x;exact ⟨ho _ d,z,ne,k _ _ (.inl rfl) e,mA,⟨od,es,ep,k _ _ (.inr d) e2,c⟩,r⟩
 | own y=>obtain ⟨ob,e⟩:=x;exact ⟨ob,k _ _ (.inl rfl) e⟩
 | xd fs=>obtain ⟨mA,⟨od,es,ep,e,c⟩,r⟩:=x;exact ⟨mA,⟨od,es,ep,k _ _ (.inl rfl) e,c⟩,r⟩
 | rng lo hi=>obtain ⟨t,u,v,e⟩:=x;exact ⟨t,u,v,k _ _ (.inl rfl) e⟩
 | frz ob u ih=>obtain ⟨e,q⟩:=x;exact ⟨k _ _ (.inl rfl) e,ih q⟩
 | tbl ps =>
  have e:h.get? a=some { cls := .none,data := .fields ps }:=x;show h'.get? a=some { cls := .none,data := .fields ps };exact k a _ (.inl rfl) e
 | met f y =>
  have e:h.get? a=some (PySem.W.methodObj (.ref f) (.ref y)):=x;show h'.get? a=some (PySem.W.methodObj (.ref f) (.ref y));exact k a _ (.inl rfl) e
 | ext φ=>obtain ⟨p,⟨o,e⟩,st⟩:=x;exact ⟨st _ _ p λo q=>k _ _ (.inl rfl) q,⟨o,k _ _ (.inl rfl) e⟩,st⟩
theorem HOk.lt(x:HOk P w H h)(e:H a=some o):a < h.objs.size:=(x a o e).lt
theorem HOk.fresh(x:HOk P w H h)(e:h.objs.size<=a):H a=none:=by
 cases q:H a with
 | none=>rfl
 | some u=>exact absurd (Nat.lt_of_lt_of_le (x.lt q) e) (Nat.lt_irrefl _)
theorem HOk.kept(x:HOk P w H h)(k:∀ b u,h.get? b=some u->h'.get? b=some u):HOk P w H h':=λa o e =>
 (x a o e).stay (λb u _ q=>k b u q) (λ_ q=>q) λ_ _ q=>q
theorem HOk.laid(x:HOk P w H h)(k:∀ b u,h.get? b=some u->h'.get? b=some u)(hp:h.objs.size<=a)(new:ObjOk P w (upd H a o) h' a o):HOk P w (upd H a o) h':=λb u e=>by
 have hn:=x.fresh hp;by_cases hb:b=a
 .subst hb;rw [upd_same] at e;cases e;exact new
 .rw [zg_ hb] at e
  exact (x b u e).stay (λc v _ q=>k c v q) (λc q=>by rw [zg_ (zt_ q hn)];exact q) λc xs q=>by rw [zg_ (zt_ q hn)];exact q
end
noncomputable def Rd(H:Hp)(a:Addr)(u:HO):Prop:=H a=some u \/ ∃ o,H a=some (.frz o u)
theorem Rd.ok{P:Program}{w:World}{H:Hp}{h:Heap}{a:Addr}{u:HO}(r:Rd H a u)(x:HOk P w H h):ObjOk P w H h a u:=by
 rcases r with r | ⟨o,r⟩
 .exact x a u r
 .obtain ⟨_,q⟩:=x a _ r
  exact q
noncomputable def Mut:Option HO->Prop
 | some (.lst _)=>True
 | some (.dK _)=>True
 | some (.dT _)=>True
 | some (.set _ _)=>True
 | some (.ins _ _ _)=>True
 | some (.ext _)=>True
 | _=>False
section
variable{P:Program}{w:World}{H:Hp}{h h':Heap}{x e:Addr}{o':HO}
theorem HOk.write(ok:HOk P w H h)(mu:Mut (H x))(he:e=x\/H e=some (.own x))(k:∀ b u,b≠e->h.get? b=some u->h'.get? b=some u)(heo:∃ u,h'.get? e=some u)
  (new:ObjOk P w (upd H x o') h' x o'):HOk P w (upd H x o') h':=λb u q=>by
 have nown:∀ c y,H c=some (.own y)->c≠x:=λc y r z=>by subst z;rw [r] at mu;exact mu
 have ntup:∀ c xs,H c=some (.tup xs)->c≠x:=λc xs r z=>by subst z;rw [r] at mu;exact mu
 by_cases hb:b=x
 .subst hb;rw [upd_same] at q;cases q;exact new
 .rw [zg_ hb] at q
  by_cases hbe:b=e
  .have q':H b=some (.own x):=by
    rcases he with z | z
    .exact absurd (hbe.trans z) hb
    .rw [hbe];exact z
   rw [q] at q';cases q';obtain ⟨v,hv⟩:=heo;exact ⟨v,by rw [hbe];exact hv⟩
  .refine (ok b u q).stay (λc v hc r=>k c v ?_ r) (λc r=>by rw [zg_ (nown c b r)];exact r) λc xs r=>by rw [zg_ (ntup c xs r)];exact r
   rcases hc with rfl | hc
   .exact hbe
   .rintro rfl
    rcases he with z | z
    .exact nown c b hc z
    .rw [hc] at z;cases z;exact hb rfl
end
structure Un(fs ex:List Addr)(H H':Hp)(h h':Heap):Prop where
 keep:∀ b o,h.get? b=some o->H b=none->b ∉ fs->b ∉ ex->h'.get? b=some o
 slot:∀ b o,h.get? b=some o->H b=none->b∈fs->b ∉ ex -> ∃ sl,h'.get? b=some { o with slots:=sl }
 free:∀ b o,h.get? b=some o->H b=none->b ∉ ex->H' b=none
 there:∀ b o,h.get? b=some o->b ∉ ex -> ∃ o',h'.get? b=some o'
 tups:∀ b xs,H b=some (.tup xs)->H' b=some (.tup xs)
 frzs:∀ b o u,H b=some (.frz o u)->H' b=some (.frz o u)
 tbls:∀ b ps,H b=some (.tbl ps) -> ∃ more,H' b=some (.tbl (ps++more))
section
variable{fs fs' ex ex':List Addr}{H H1 H2:Hp}{h h1 h2 h':Heap}{a x e:Addr}{o:HO}
theorem Un.any(u:Un fs ex H H1 h h1){b:Addr}{ob:Obj}(q:h.get? b=some ob)(n:H b=none)(hx:b ∉ ex):∃ sl,h1.get? b=some { ob with slots:=sl }:=by
 by_cases hb:b∈fs
 .exact u.slot b ob q n hb hx
 .exact ⟨ob.slots,u.keep b ob q n hb hx⟩
theorem Un.kept(k:∀ b u,h.get? b=some u->h'.get? b=some u):Un fs ex H H h h' :=
 ⟨λb ob q _ _ _=>k b ob q,λb ob q _ _ _=>⟨ob.slots,k b ob q⟩,λ_ _ _ n _=>n,λb ob q _=>⟨ob,k b ob q⟩,λ_ _ q=>q,λ_ _ _ q=>q,λ_ ps q=>⟨#[],by rw [q];simp⟩⟩
theorem Un.refl:Un fs ex H H h h:=Un.kept λ_ _ q=>q
theorem Un.laid(k:∀ b u,h.get? b=some u->h'.get? b=some u)(hp:h.objs.size<=a)(hn:H a=none):Un fs ex H (upd H a o) h h' where
 keep:=λb u q _ _ _=>k b u q
 slot:=λb u q _ _ _=>⟨u.slots,k b u q⟩
 free:=λb u q n _=>by rw [zg_ (Nat.ne_of_lt (Nat.lt_of_lt_of_le (Heap.lt_size q) hp))];exact n
 there:=λb u q _=>⟨u,k b u q⟩
 tups:=λb xs q=>by rw [zg_ (zt_ q hn)];exact q
 frzs:=λb u xs q=>by rw [zg_ (zt_ q hn)];exact q
 tbls:=λb ps q=>⟨#[],by rw [zg_ (zt_ q hn),q];simp⟩
theorem Un.write(mu:Mut (H x))(he:e=x\/H e=some (.own x))(k:∀ b u,b≠e->h.get? b=some u->h'.get? b=some u)(heo:∃ u,h'.get? e=some u):Un fs ex H (upd H x o) h h':=by
 have hx:∀ b,H b=none->b≠x:=λb n z=>by subst z;rw [n] at mu;exact mu
 have hb:∀ b,H b=none->b≠e:=λb n z=>by
  subst z;rcases he with r | r
  .exact hx b n r
  .rw [n] at r;cases r
 have hm:∀ b u,H b=some u -> ¬ Mut (some u)->b≠x:=λb u q nm z=>by subst z;rw [q] at mu;exact nm mu
 refine ⟨λb u q n _ _=>k b u (hb b n) q,λb u q n _ _=>⟨u.slots,k b u (hb b n) q⟩,λb u q n _=>by rw [zg_ (hx b n)];exact n,λb u q _ => ?_,
  λb xs q=>by rw [zg_ (hm b _ q λz=>z)];exact q,λb u xs q=>by rw [zg_ (hm b _ q λz=>z)];exact q,λb ps q=>⟨#[],by rw [zg_ (hm b _ q λz=>z),q];simp⟩⟩
 by_cases hbe:b=e
 .subst hbe;exact heo
 .exact ⟨u,k b u hbe q⟩
end
noncomputable def trk(h:Heap)(H:Hp):List Addr:=(List.range h.objs.size).filter λa=>(H a).isSome
noncomputable def ow_(h:Heap)(H:Hp):Heap:=PySem.W.hideAll h (trk h H)
theorem qJ_(h:Heap)(H:Hp):(ow_ h H).objs.size=h.objs.size:=PySem.W.hideAll_size _ _
theorem p1_{h:Heap}{H:Hp}{b:Addr}{o:Obj}(e:h.get? b=some o)(n:H b=none):(ow_ h H).get? b=some o :=
 PySem.W.hideAll_get _ e λhm=>by
  have q:(H b).isSome=true:=(List.mem_filter.mp hm).2;rw [n] at q;simp at q
theorem lM_{h:Heap}{H:Hp}{b:Addr}{o:Obj}(e:(ow_ h H).get? b=some o):h.get? b=some o/\H b=none:=by
 have e':h.get? b=some o:=PySem.W.of_hideAll (trk h H) e;refine ⟨e',?_⟩;cases q:H b with
 | none=>rfl
 | some x =>
  have hm:b∈trk h H:=List.mem_filter.mpr ⟨List.mem_range.mpr (Heap.lt_size e'),by simp [q]⟩
  have z:(ow_ h H).get? b=none:=PySem.W.hideAll_none (trk h H) hm;rw [z] at e;cases e
end L2
namespace L2
open PySem PySem.Spec PyProof.Rows
structure Mod(K:PySem.W.Frag)(mg:Str->Option Value)(base:Heap):Prop where
 kin:K.In base
 glob:base.Ns mainGlobals mg
 blt:∃ mb,base.Ns builtinsNs mb /\ ∀ x:Str,x ≠ "__name__" -> mb x=bootBuiltins x
 nolimit:base.NoLimit
structure Cx where
 prog:Program
 w:World
 K:PySem.W.Frag
 mg:Str->Option Value
 base:Heap
 A:Around
 N:List Str
 s₀ : Shared
 H₀ : Hp
 env:Env
 outer:List Env
 stack:List Env
 ex:List Addr
 fn:Str->Bool
 calm:Bool
 pn:List (Addr×Obj)
 xe:Value->Shared->Prop
noncomputable def frs(l:List Env):List Addr:=l.filterMap (·.frame)
noncomputable abbrev Cx.fs(X:Cx):List Addr:=frs X.outer
noncomputable def Vis(sc:Scope)(x:Str):Prop:=sc.names.lookup x=some .local\/sc.names.lookup x=some .cell\/sc.names.lookup x=some .free
noncomputable def Loc(sc:Scope)(x:Str):Prop:=sc.names.lookup x=some .local\/sc.names.lookup x=some .cell
noncomputable def Look(env:Env)(h:Heap)(m:Str->Option Value)(x:Str)(u:Value):Prop :=
 (env.kindOf x=some .local/\m x=some u)\/((env.kindOf x=some .cell\/env.kindOf x=some .free) /\ ∃ c,env.cells.lookup x=some c/\h.IsCell c (some u))
structure Cx.Ok(X:Cx):Prop where
 mod:Mod X.K X.mg X.base
 kind:X.env.scope.kind=.function
 glob:X.env.globals=mainGlobals
 blt:X.env.builtins=builtinsNs
 above:X.s₀.heap.objs.size<=X.env.locals
 inj:∀ x y c,X.env.cells.lookup x=some c->X.env.cells.lookup y=some c->x=y
 has:∀ x,(X.env.kindOf x=some .cell\/X.env.kindOf x=some .free) -> ∃ c,X.env.cells.lookup x=some c
 cab:∀ x c,X.fn x=true->X.env.cells.lookup x=some c->X.s₀.heap.objs.size<=c
 hd:X.calm=true->X.A.handled=none
 frames:X.A.frames=some X.stack
 stk:X.stack=X.outer\/(X.stack=X.env :: X.outer/\X.env.frame=some X.env.locals)
 exf:∀ b∈X.ex,b≠X.env.locals /\ ∀ x c,X.env.cells.lookup x=some c->c≠b
 bs:∀ b o,X.base.get? b=some o->X.s₀.heap.get? b=some o/\X.H₀ b=none
 bsz:X.base.objs.size<=X.s₀.heap.objs.size
 noex:∀ b o,X.base.get? b=some o->b ∉ X.ex
 exfs:∀ b∈X.ex,b ∉ X.fs
 funs:X.s₀.heap.FunFrames X.base X.outer
 frf:∀ b∈X.fs,X.H₀ b=none
structure Inv(X:Cx)(pins:List (Addr×Obj))(σ:List (Option V))(H:Hp)(s:Shared):Prop where
 ok:X.Ok
 os:s.os=X.s₀.os
 bare:AllBare s.gens
 base:Un X.fs X.ex X.H₀ H X.s₀.heap s.heap
 loc:∃ m,s.heap.Ns X.env.locals m /\ ∀ (i:Nat) (x:Str) (v:V),X.N[i]? = some x->σ[i]? = some (some v)->Vis X.env.scope x -> ∃ u,RelV v u/\Look X.env s.heap m x u
 cell:∀ x c,X.env.cells.lookup x=some c -> ∃ v,s.heap.IsCell c v
 free:H X.env.locals=none
 freeC:∀ x c,X.env.cells.lookup x=some c->H c=none
 pin:∀ p∈X.pn++pins,s.heap.get? p.1=some p.2/\H p.1=none/\p.1≠X.env.locals/\p.1 ∉ X.fs /\ ∀ v,p.2.data ≠ .cell v
 hok:HOk X.prog X.w H s.heap
 len:σ.length=X.N.length
section
variable{X:Cx}{pins:List (Addr×Obj)}{σ:List (Option V)}{H H':Hp}{s:Shared}{h':Heap}
theorem Cx.Ok.nofr(ok:X.Ok){b:Addr}{o:Obj}(e:X.base.get? b=some o):b ∉ X.fs:=λhb=>by
 have:=(ok.funs.mem hb).1;rw [e] at this;cases this
theorem Inv.bs(I:Inv X pins σ H s):∀ b o,X.base.get? b=some o->s.heap.get? b=some o/\H b=none:=λb o e =>
 ⟨I.base.keep b o (I.ok.bs b o e).1 (I.ok.bs b o e).2 (I.ok.nofr e) (I.ok.noex b o e),I.base.free b o (I.ok.bs b o e).1 (I.ok.bs b o e).2 (I.ok.noex b o e)⟩
theorem Inv.bk(I:Inv X pins σ H s):∀ b o,X.base.get? b=some o->s.heap.get? b=some o:=λb o e=>(I.bs b o e).1
theorem Inv.mod(I:Inv X pins σ H s):Mod X.K X.mg X.base:=I.ok.mod
theorem Inv.kIn(I:Inv X pins σ H s):X.K.In s.heap:=I.ok.mod.kin.keeps I.bk
theorem Inv.lt(I:Inv X pins σ H s):X.env.locals < s.heap.objs.size:=let ⟨_,hn,_⟩:=I.loc;hn.lt
theorem Inv.sz(I:Inv X pins σ H s):X.s₀.heap.objs.size<=s.heap.objs.size:=Nat.le_trans I.ok.above (Nat.le_of_lt I.lt)
theorem Inv.nofs(I:Inv X pins σ H s){a:Addr}(h:s.heap.objs.size<=a):a ∉ X.fs:=λhb=>by
 obtain ⟨_,o,ho,_⟩:=I.ok.funs.mem hb;exact absurd (Nat.lt_of_lt_of_le (Heap.lt_size ho) (Nat.le_trans I.sz h)) (Nat.lt_irrefl _)
theorem Inv.cne(I:Inv X pins σ H s):∀ x c,X.env.cells.lookup x=some c->c≠X.env.locals:=λx c e z=>by
 obtain ⟨v,o,ho,hd⟩:=I.cell x c e;obtain ⟨m,⟨o',es,ep,ho',hd',_⟩,_⟩:=I.loc;rw [z,ho'] at ho;cases ho;rw [hd'] at hd;cases hd
theorem Inv.funs(I:Inv X pins σ H s):s.heap.FunFrames X.base X.outer:=by
 have all:∀ (l:List Env),(∀ b∈frs l,b∈X.fs)->X.s₀.heap.FunFrames X.base l->s.heap.FunFrames X.base l:=by
  intro l
  induction l with
  | nil=>intro _ _;trivial
  | cons env r ih =>
   intro hs hl;obtain ⟨hk,⟨L,o,hf,hn,ho,hd⟩,hr⟩:=hl;have hL:L∈X.fs:=hs L (by unfold frs;rw [List.filterMap_cons,hf];exact List.mem_cons_self)
   obtain ⟨sl,e⟩:=I.base.slot L o ho (I.ok.frf L hL) hL λz=>I.ok.exfs L z hL;exact ⟨hk,⟨L,_,hf,hn,e,hd⟩,ih (λb hb=>hs b (by unfold frs;rw [List.filterMap_cons,hf];exact List.mem_cons_of_mem _ hb)) hr⟩
 exact all X.outer (λ_ hb=>hb) I.ok.funs
theorem Inv.stack(I:Inv X pins σ H s):s.heap.FunFrames X.base X.stack:=by
 rcases I.ok.stk with e | ⟨e,hf⟩
 .rw [e];exact I.funs
 .rw [e]
  obtain ⟨m,hn,_⟩:=I.loc;refine .cons (by rw [I.ok.kind];decide) hf hn ?_ I.funs
  exact Heap.get?_none_of_le (Nat.le_trans I.ok.bsz I.ok.above)
theorem Inv.stkSub(I:Inv X pins σ H s):∀ b∈frs X.stack,b∈X.env.locals :: X.fs:=λb hb=>by
 rcases I.ok.stk with e | ⟨e,hf⟩
 .rw [e] at hb;exact List.mem_cons_of_mem _ hb
 .rw [e] at hb
  unfold frs at hb;rw [List.filterMap_cons,hf] at hb;exact hb
theorem Inv.stkFree(I:Inv X pins σ H s):∀ b∈frs X.stack,H b=none:=λb hb=>by
 rcases List.mem_cons.mp (I.stkSub b hb) with e | hb
 .rw [e];exact I.free
 .obtain ⟨_,o,ho,_⟩:=I.ok.funs.mem hb
  exact I.base.free b o ho (I.ok.frf b hb) λz=>I.ok.exfs b z hb
theorem Inv.step{g':Array GenState}{t':Nat}{d':Drawn}{ch:List Addr}(I:Inv X pins σ H s)
  (hch:∀ b∈ch,(b∈X.ex\/X.s₀.heap.objs.size<=b)/\b≠X.env.locals/\(∀ x c,X.env.cells.lookup x=some c->c≠b) /\ ∀ p∈X.pn++pins,p.1≠b)
  (keep:∀ b o,b≠X.env.locals->b ∉ X.fs->b ∉ ch->s.heap.get? b=some o->H b=none->h'.get? b=some o)
  (slot:∀ b o,b≠X.env.locals->b∈X.fs->b ∉ ch->s.heap.get? b=some o->H b=none -> ∃ sl,h'.get? b=some { o with slots:=sl }) (free:∀ b o,b ∉ ch->s.heap.get? b=some o->H b=none->H' b=none)
  (there:∀ b o,b ∉ ch->s.heap.get? b=some o -> ∃ o',h'.get? b=some o')
  (tups:∀ b xs,H b=some (.tup xs)->H' b=some (.tup xs)) (frzs:∀ b o u,H b=some (.frz o u)->H' b=some (.frz o u)) (tbls:∀ b ps,H b=some (.tbl ps) -> ∃ more,H' b=some (.tbl (ps++more)))
  (ns:∀ m,s.heap.Ns X.env.locals m->h'.Ns X.env.locals m) (hok:HOk X.prog X.w H' h') (hg:AllBare g') :
  Inv X pins σ H' { s with heap:=h',gens:=g',drawn:=d',toks:=t' }:=by
 have neL:∀ b o,X.s₀.heap.get? b=some o->b≠X.env.locals:=λb o e=>Nat.ne_of_lt (Nat.lt_of_lt_of_le (Heap.lt_size e) I.ok.above);have neC:∀ b o,X.s₀.heap.get? b=some o->b ∉ X.ex->b ∉ ch:=λb o e hx hb=>by
  rcases (hch b hb).1 with z | z
  .exact hx z
  .exact absurd (Nat.lt_of_lt_of_le (Heap.lt_size e) z) (Nat.lt_irrefl _)
 have cellK:∀ x c,X.env.cells.lookup x=some c -> ∀ v,s.heap.IsCell c v->h'.IsCell c v:=λx c e v ⟨o,ho,hd⟩=>by
  have nch:c ∉ ch:=λz=>(hch c z).2.2.1 x c e rfl;by_cases hc:c∈X.fs
  .obtain ⟨sl,q⟩:=slot c o (I.cne x c e) hc nch ho (I.freeC x c e)
   exact ⟨_,q,hd⟩
  .exact ⟨o,keep c o (I.cne x c e) hc nch ho (I.freeC x c e),hd⟩
 refine ⟨I.ok,I.os,hg,⟨λb o e n hb hx => ?_,λb o e n hb hx => ?_,λb o e n hx => ?_,λb o e hx => ?_,λb xs e=>tups b xs (I.base.tups b xs e),λb o xs e=>frzs b o xs (I.base.frzs b o xs e),λb ps e => ?_⟩,?_,λx c e => ?_,?_,λx c e => ?_,λp hp => ?_,hok,I.len⟩
 .exact keep b o (neL b o e) hb (neC b o e hx) (I.base.keep b o e n hb hx) (I.base.free b o e n hx)
 .obtain ⟨sl,e1⟩:=I.base.slot b o e n hb hx
  obtain ⟨sl',e2⟩:=slot b _ (neL b o e) hb (neC b o e hx) e1 (I.base.free b o e n hx);exact ⟨sl',e2⟩
 .obtain ⟨o',e1⟩:=I.base.there b o e hx
  exact free b o' (neC b o e hx) e1 (I.base.free b o e n hx)
 .obtain ⟨o',e1⟩:=I.base.there b o e hx
  exact there b o' (neC b o e hx) e1
 .obtain ⟨m1,e1⟩:=I.base.tbls b ps e
  obtain ⟨m2,e2⟩:=tbls b _ e1;exact ⟨m1++m2,by rw [e2,Array.append_assoc]⟩
 .obtain ⟨m,hn,hl⟩:=I.loc
  refine ⟨m,ns m hn,λi x v e1 e2 e3 => ?_⟩;obtain ⟨u,r,l⟩:=hl i x v e1 e2 e3;refine ⟨u,r,?_⟩;rcases l with l | ⟨k,c,e,z⟩
  .exact .inl l
  .exact .inr ⟨k,c,e,cellK x c e _ z⟩
 .obtain ⟨v,z⟩:=I.cell x c e
  exact ⟨v,cellK x c e v z⟩
 .obtain ⟨m,⟨o,_,_,ho,_⟩,_⟩:=I.loc
  exact free _ o (λz=>(hch _ z).2.1 rfl) ho I.free
 .obtain ⟨v,o,ho,hd⟩:=I.cell x c e
  exact free c o (λz=>(hch c z).2.2.1 x c e rfl) ho (I.freeC x c e)
 .obtain ⟨e,n,ne,nf,d⟩:=I.pin p hp
  have nch:p.1 ∉ ch:=λz=>(hch p.1 z).2.2.2 p hp rfl;exact ⟨keep p.1 p.2 ne nf nch e n,free p.1 p.2 nch e n,ne,nf,d⟩
theorem Inv.un{t':Nat}(I:Inv X pins σ H s)(u:Un X.fs [] H H' s.heap h')(hok:HOk X.prog X.w H' h'):Inv X pins σ H' { s with heap:=h',toks:=t' }:=by
 obtain ⟨m,⟨o,es,ep,ho,r⟩,_⟩:=id I.loc;obtain ⟨sl,hL⟩:=u.any ho I.free (by simp)
 exact I.step (g':=s.gens) (d':=s.drawn) (ch:=[]) (λ_ z=>nomatch z) (λb o _ hb _ e n=>u.keep b o e n hb (by simp)) (λb o _ hb _ e n=>u.slot b o e n hb (by simp)) (λb o _ e n=>u.free b o e n (by simp)) (λb o _ e=>u.there b o e (by simp)) u.tups u.frzs u.tbls (λm' hm=>by
  obtain ⟨o',es',ep',ho',r'⟩:=hm;rw [ho] at ho';cases ho';exact ⟨_,es',ep',hL,r'⟩) hok I.bare
theorem Inv.call{g':Array GenState}{t':Nat}{d':Drawn}{ch:List Addr}(I:Inv X pins σ H s)(u:Un (frs X.stack) ch H H' s.heap h')(hok:HOk X.prog X.w H' h')(hg:AllBare g')
  (hch:∀ b∈ch,(b∈X.ex\/X.s₀.heap.objs.size<=b)/\b≠X.env.locals/\(∀ x c,X.env.cells.lookup x=some c->c≠b) /\ ∀ p∈X.pn++pins,p.1≠b) :
  Inv X pins σ H' { s with heap:=h',gens:=g',drawn:=d',toks:=t' }:=by
 obtain ⟨m,⟨o,es,ep,ho,r⟩,_⟩:=id I.loc;obtain ⟨sl,hL⟩:=u.any ho I.free λz=>(hch _ z).2.1 rfl
 exact I.step (ch:=ch) hch (λb o hL hb hc e n=>u.keep b o e n (λz=>(List.mem_cons.mp (I.stkSub b z)).elim hL hb) hc) (λb o _ _ hc e n=>u.any e n hc) (λb o hc e n=>u.free b o e n hc) (λb o hc e=>u.there b o e hc) u.tups u.frzs u.tbls (λm' hm=>by
  obtain ⟨o',es',ep',ho',r'⟩:=hm;rw [ho] at ho';cases ho';exact ⟨_,es',ep',hL,r'⟩) hok hg
theorem Inv.turned{t':Nat}{it:Addr}(I:Inv X pins σ H s)(k:∀ b o,b≠it->s.heap.get? b=some o->h'.get? b=some o)(hn:H it=none)(hL:it≠X.env.locals)
  (h1:it∈X.ex\/X.s₀.heap.objs.size<=it) (h2:∀ x c,X.env.cells.lookup x=some c->c≠it) (h3:∀ p∈X.pn++pins,p.1≠it):Inv X pins σ H { s with heap:=h',toks:=t' }:=by
 have nit:∀ b u,H b=some u->b≠it:=λb u e z=>by rw [z,hn] at e;cases e
 refine I.step (g':=s.gens) (d':=s.drawn) (ch:=[it]) (λb hb => ?_) (λb o _ _ hc e _=>k b o (λz=>hc (by simp [z])) e) (λb o _ _ hc e _=>⟨o.slots,k b o (λz=>hc (by simp [z])) e⟩) (λ_ _ _ _ n=>n)
  (λb o hc e=>⟨o,k b o (λz=>hc (by simp [z])) e⟩) (λ_ _ e=>e) (λ_ _ _ e=>e) (λb ps e=>⟨#[],by rw [e];simp⟩) (λm hm => ?_) (λb u e => ?_) I.bare
 .have e:b=it:=by simpa using hb
  subst e;exact ⟨h1,hL,h2,h3⟩
 .obtain ⟨o,es,ep,ho,r⟩:=hm
  exact ⟨o,es,ep,k _ o (Ne.symm hL) ho,r⟩
 .refine (I.hok b u e).stay (λc v hc q=>k c v ?_ q) (λ_ q=>q) λ_ _ q=>q
  rcases hc with z | z
  .rw [z];exact nit b u e
  .exact nit c _ z
theorem Inv.tok(I:Inv X pins σ H s)(t:Nat):Inv X pins σ H { s with toks:=t }:=I.un (h':=s.heap) (t':=t) Un.refl I.hok
theorem Inv.kept{t':Nat}(I:Inv X pins σ H s)(k:∀ b u,s.heap.get? b=some u->h'.get? b=some u):Inv X pins σ H { s with heap:=h',toks:=t' }:=I.un (Un.kept k) (I.hok.kept k)
theorem Inv.laid{a:Addr}{o:HO}{t':Nat}(I:Inv X pins σ H s)(k:∀ b u,s.heap.get? b=some u->h'.get? b=some u)(hp:s.heap.objs.size<=a)(new:ObjOk X.prog X.w (upd H a o) h' a o):
  Inv X pins σ (upd H a o) { s with heap:=h',toks:=t' }:=I.un (Un.laid k hp (I.hok.fresh hp)) (I.hok.laid k hp new)
theorem Inv.write{x e:Addr}{o:HO}{t':Nat}(I:Inv X pins σ H s)(mu:Mut (H x))(he:e=x\/H e=some (.own x))(k:∀ b u,b≠e->s.heap.get? b=some u->h'.get? b=some u)(heo:∃ u,h'.get? e=some u)
  (new:ObjOk X.prog X.w (upd H x o) h' x o):Inv X pins σ (upd H x o) { s with heap:=h',toks:=t' }:=I.un (Un.write mu he k heo) (I.hok.write mu he k heo new)
theorem Inv.pins_of{pins':List (Addr×Obj)}(I:Inv X pins σ H s)(h:∀ p∈pins',s.heap.get? p.1=some p.2/\H p.1=none/\p.1≠X.env.locals/\p.1 ∉ X.fs /\ ∀ v,p.2.data ≠ .cell v):Inv X pins' σ H s :=
 ⟨I.ok,I.os,I.bare,I.base,I.loc,I.cell,I.free,I.freeC,λp hp=>(List.mem_append.mp hp).elim (λz=>I.pin p (List.mem_append_left _ z)) (h p),I.hok,I.len⟩
theorem t2_{N:List Str}(hN:N.Nodup){i j:Nat}{x:Str}(a:N[i]? = some x)(b:N[j]? = some x):i=j:=by
 obtain ⟨h1,e1⟩:=List.getElem?_eq_some_iff.mp a;obtain ⟨h2,e2⟩:=List.getElem?_eq_some_iff.mp b;exact (List.getElem_inj hN).mp (e1.trans e2.symm)
theorem uw_{M:Model}{A:Around}{E:Value->Shared->Prop}{i:Nat}{x:Str}{v:V}{u:Value}{Q:Unit->Shared->Prop}(I:Inv X pins σ H s)(hN:X.N.Nodup)(hi:X.N[i]? = some x)(hx:Loc X.env.scope x)(r:RelV v u)
  (h:∀ s',Inv X pins (σ.set i (some v)) H s'->(∃ a,Heap.SameBut a s.heap s'.heap/\(a=X.env.locals\/X.env.cells.lookup x=some a))->Q () s') (hf:X.fn x=true\/X.env.scope.names.lookup x=some .local:=by first | exact .inl rfl | exact .inr rfl | assumption):wpAny M A (storeName X.env x u) Q E s:=by
 obtain ⟨m,hn,hl⟩:=id I.loc;have hcls:(X.env.scope.kind == .class || (X.env.scope.kind == .module && X.env.locals != X.env.globals))=false:=by rw [I.ok.kind];rfl
 have hiσ:i < σ.length:=by rw [I.len];exact (List.getElem?_eq_some_iff.mp hi).1
 have cne:=I.cne;have tracked:∀ {a:Addr} {h':Heap},(∃ o,s.heap.get? a=some o/\H a=none)->Heap.SameBut a s.heap h'->HOk X.prog X.w H h':=λ{a h'} ha hs b ob e=>by
  obtain ⟨_,_,hfree⟩:=ha;refine (I.hok b ob e).stay (λc w' hc q=>(hs.2 c ?_).trans q) (λ_ q=>q) λ_ _ q=>q;rintro rfl;rcases hc with rfl | hc
  .rw [hfree] at e;cases e
  .rw [hfree] at hc;cases hc
 rcases hx with hk | hk
 .refine wpAny_storeName_local hk hn (λh' hn' hs => ?_) hcls
  obtain ⟨oL,_,_,hoL,_⟩:=id hn;refine h _ ⟨I.ok,I.os,I.bare,⟨λb o e n hb hx => ?_,λb o e n hb hx => ?_,I.base.free,λb o e hx => ?_,I.base.tups,I.base.frzs,I.base.tbls⟩,⟨_,hn',λj y v' e1 e2 e3 => ?_⟩,λy c e => ?_,I.free,I.freeC,λp hp => ?_,tracked ⟨oL,hoL,I.free⟩ hs,by simpa using I.len⟩ ⟨_,hs,.inl rfl⟩
  .exact (hs.2 b (Nat.ne_of_lt (Nat.lt_of_lt_of_le (Heap.lt_size e) I.ok.above))).trans (I.base.keep b o e n hb hx)
  .obtain ⟨sl,e1⟩:=I.base.slot b o e n hb hx
   exact ⟨sl,(hs.2 b (Nat.ne_of_lt (Nat.lt_of_lt_of_le (Heap.lt_size e) I.ok.above))).trans e1⟩
  .obtain ⟨o',e1⟩:=I.base.there b o e hx
   exact ⟨o',(hs.2 b (Nat.ne_of_lt (Nat.lt_of_lt_of_le (Heap.lt_size e) I.ok.above))).trans e1⟩
  .by_cases hj:j=i
   .subst hj
    rw [hi] at e1;cases e1;rw [List.getElem?_set_self hiσ] at e2;cases e2;exact ⟨u,r,.inl ⟨hk,by simp⟩⟩
   .rw [List.getElem?_set_ne (Ne.symm hj)] at e2
    obtain ⟨u',r',q⟩:=hl j y v' e1 e2 e3;refine ⟨u',r',?_⟩;rcases q with ⟨k,e⟩ | ⟨k,c,e,z⟩
    .refine .inl ⟨k,?_⟩
     have:y≠x:=λe=>hj (t2_ hN e1 (e ▸ hi));simp [this,e]
    .exact .inr ⟨k,c,e,z.sameBut hs (cne y c e)⟩
  .obtain ⟨w',z⟩:=I.cell y c e
   exact ⟨w',z.sameBut hs (cne y c e)⟩
  .obtain ⟨e,n,ne,nf,d⟩:=I.pin p hp
   exact ⟨(hs.2 p.1 ne).trans e,n,ne,nf,d⟩
 .have hfn:X.fn x=true:=by
   rcases hf with z | z
   .exact z
   .rw [z] at hk;cases hk
  obtain ⟨c,hc⟩:=I.ok.has x (.inl hk);obtain ⟨w',z⟩:=I.cell x c hc;refine wpAny_storeName_cell I.ok.kind hk hc z (λh' hc' hs => ?_);obtain ⟨oc,hoc,hocd⟩:=id z;refine h { s with heap:=h' } ⟨I.ok,I.os,I.bare,⟨λb o e n hb hx => ?_,λb o e n hb hx => ?_,I.base.free,λb o e hx => ?_,I.base.tups,I.base.frzs,I.base.tbls⟩,⟨m,hn.sameBut hs (Ne.symm (cne x c hc)),λj y v' e1 e2 e3 => ?_⟩,λy c' e => ?_,I.free,I.freeC,λp hp => ?_,tracked ⟨oc,hoc,I.freeC x c hc⟩ hs,by simpa using I.len⟩ ⟨c,hs,.inr hc⟩
  .exact (hs.2 b (Nat.ne_of_lt (Nat.lt_of_lt_of_le (Heap.lt_size e) (I.ok.cab x c hfn hc)))).trans (I.base.keep b o e n hb hx)
  .obtain ⟨sl,e1⟩:=I.base.slot b o e n hb hx
   exact ⟨sl,(hs.2 b (Nat.ne_of_lt (Nat.lt_of_lt_of_le (Heap.lt_size e) (I.ok.cab x c hfn hc)))).trans e1⟩
  .obtain ⟨o',e1⟩:=I.base.there b o e hx
   exact ⟨o',(hs.2 b (Nat.ne_of_lt (Nat.lt_of_lt_of_le (Heap.lt_size e) (I.ok.cab x c hfn hc)))).trans e1⟩
  .by_cases hj:j=i
   .subst hj
    rw [hi] at e1;cases e1;rw [List.getElem?_set_self hiσ] at e2;cases e2;exact ⟨u,r,.inr ⟨.inl hk,c,hc,hc'⟩⟩
   .rw [List.getElem?_set_ne (Ne.symm hj)] at e2
    obtain ⟨u',r',q⟩:=hl j y v' e1 e2 e3;refine ⟨u',r',?_⟩;rcases q with q | ⟨k,c',e,z'⟩
    .exact .inl q
    .refine .inr ⟨k,c',e,z'.sameBut hs ?_⟩
     rintro rfl;exact hj (t2_ hN e1 (I.ok.inj _ _ _ e hc ▸ hi))
  .by_cases hcc:c'=c
   .subst hcc;exact ⟨_,hc'⟩
   .obtain ⟨w2,z2⟩:=I.cell y c' e
    exact ⟨w2,z2.sameBut hs hcc⟩
  .obtain ⟨e,n,ne,nf,d⟩:=I.pin p hp
   refine ⟨(hs.2 p.1 ?_).trans e,n,ne,nf,d⟩;intro q;rw [q,hoc] at e;have q':oc=p.2:=Option.some.inj e;exact d w' (by rw [<-q'];exact hocd)
theorem wc_{M:Model}{A:Around}{E:Value->Shared->Prop}{i:Nat}{x:Str}{v:V}{u:Value}{Q:Unit->Shared->Prop}(I:Inv X pins σ H s)(hN:X.N.Nodup)(hi:X.N[i]? = some x)(hx:Loc X.env.scope x)(r:RelV v u)
  (h:∀ s',Inv X pins (σ.set i (some v)) H s'->Q () s') (hf:X.fn x=true\/X.env.scope.names.lookup x=some .local:=by first | exact .inl rfl | exact .inr rfl | assumption):wpAny M A (storeName X.env x u) Q E s :=
 uw_ I hN hi hx r (λs' I' _=>h s' I') hf
theorem Inv.call'{s':Shared}{ch:List Addr}(I:Inv X pins σ H s)(ho:s'.os=s.os)(u:Un (frs X.stack) ch H H' s.heap s'.heap)(hok:HOk X.prog X.w H' s'.heap)(hg:AllBare s'.gens)
  (hch:∀ b∈ch,(b∈X.ex\/X.s₀.heap.objs.size<=b)/\b≠X.env.locals/\(∀ x c,X.env.cells.lookup x=some c->c≠b) /\ ∀ p∈X.pn++pins,p.1≠b):Inv X pins σ H' s':=by
 obtain ⟨h',g',d',t',o'⟩:=s';have e:o'=s.os:=ho;subst e;exact I.call (g':=g') (t':=t') (d':=d') u hok hg hch
end
noncomputable abbrev XK:=Value->Option Addr->Hp->Prop
noncomputable abbrev St:=List (Option V)
noncomputable abbrev VK:=V->Hp->Prop
noncomputable abbrev TE:=St->Hp->VK->Prop
noncomputable abbrev TT:=St->Hp->(Bool->Hp->Prop)->Prop
noncomputable abbrev TA:=St->Hp->(List V->Hp->Prop)->Prop
structure Ends where
 nx:St->Hp->Prop
 rt:VK
 bk:St->Hp->Prop:=λ_ _=>False
 ct:St->Hp->Prop:=λ_ _=>False
noncomputable abbrev TS:=Ends->St->Hp->Prop
noncomputable def EP(X:Cx)(pins:List (Addr×Obj))(σ:St)(Q:VK)(u:Value)(s':Shared):Prop := ∃ v H',Inv X pins σ H' s'/\RelV v u/\Q v H'
noncomputable def TP(X:Cx)(pins:List (Addr×Obj))(σ:St)(Q:Bool->Hp->Prop)(b:Bool)(s':Shared):Prop := ∃ H',Inv X pins σ H' s'/\Q b H'
noncomputable def AP(X:Cx)(pins:List (Addr×Obj))(σ:St)(Q:List V->Hp->Prop)(us:List Value)(s':Shared):Prop := ∃ vs H',Inv X pins σ H' s'/\Vals vs us/\Q vs H'
noncomputable def SP(X:Cx)(pins:List (Addr×Obj))(D:Ends)(f:Flow)(s':Shared):Prop :=
 match f with
 | .next => ∃ σ' H',Inv X pins σ' H' s'/\D.nx σ' H'
 | .brk => ∃ σ' H',Inv X pins σ' H' s'/\D.bk σ' H'
 | .cont => ∃ σ' H',Inv X pins σ' H' s'/\D.ct σ' H'
 | .ret u => ∃ v σ' H',Inv X pins σ' H' s'/\RelV v u/\D.rt v H'
noncomputable def PE(X:Cx)(e:Expr)(t:TE):Prop :=
 ∀ (pins:List (Addr×Obj)) (s:Shared) (σ:St) (H:Hp) (Q:VK),Inv X pins σ H s->t σ H Q->wpAny (model X.prog X.w) X.A (eval e X.env) (EP X pins σ Q) X.xe s
noncomputable def PT(X:Cx)(e:Expr)(t:TT):Prop :=
 ∀ (pins:List (Addr×Obj)) (s:Shared) (σ:St) (H:Hp) (Q:Bool->Hp->Prop),Inv X pins σ H s->t σ H Q->wpAny (model X.prog X.w) X.A (isTrue e X.env (eval e X.env)) (TP X pins σ Q) X.xe s
noncomputable def PW(X:Cx)(e:Expr)(t:TT):Prop :=
 ∀ (whole:Sem Value) (pins:List (Addr×Obj)) (s:Shared) (σ:St) (H:Hp) (Q:Bool->Hp->Prop),Inv X pins σ H s->t σ H Q->wpAny (model X.prog X.w) X.A (isTrue e X.env whole) (TP X pins σ Q) X.xe s
theorem PW.pt{X:Cx}{e:Expr}{t:TT}(h:PW X e t):PT X e t:=h _
noncomputable def PA(X:Cx)(es:List Expr)(t:TA):Prop :=
 ∀ (pos:Pos) (pins:List (Addr×Obj)) (s:Shared) (σ:St) (H:Hp) (Q:List V->Hp->Prop),Inv X pins σ H s->t σ H Q->wpAny (model X.prog X.w) X.A (spliced (backTo pos (starEach es X.env))) (AP X pins σ Q) X.xe s
noncomputable def PS(X:Cx)(st:Stmt)(t:TS):Prop :=
 ∀ (pins:List (Addr×Obj)) (s:Shared) (σ:St) (H:Hp) (D:Ends),Inv X pins σ H s->t D σ H->wpAny (model X.prog X.w) X.A (exec st X.env) (SP X pins D) X.xe s
noncomputable def PSs(X:Cx)(st:List Stmt)(t:TS):Prop :=
 ∀ (pins:List (Addr×Obj)) (s:Shared) (σ:St) (H:Hp) (D:Ends),Inv X pins σ H s->t D σ H->wpAny (model X.prog X.w) X.A (execs st X.env) (SP X pins D) X.xe s
theorem thn{α:Type}{t:Sem α}{Q Q':α->Shared->Prop}{M:Model}{A:Around}{E:Value->Shared->Prop}{s:Shared}(h:wpAny M A t Q E s)(hQ:∀ a s,Q a s->Q' a s):wpAny M A t Q' E s:=wpAny_mono h hQ λ_ _ x=>x
end L2
namespace L2
open PySem PySem.Spec PyProof.Rows
section
variable{X:Cx}
noncomputable def bV_(i:Nat):TE:=λσ H Q => ∃ v,σ[i]? = some (some v)/\Q v H
noncomputable def tC(v:V):TE:=λ_ H Q=>Q v H
theorem he_{i:Nat}{x:Str}{pos:Pos}(hN:X.N[i]? = some x)(hv:Vis X.env.scope x)(hd:(x == ("__debug__" : Str))=false:=by decide)(hcd:(x == ("__classdict__" : Str))=false:=by decide):PE X (.Name x pos) (bV_ i):=by
 intro pins s σ H Q I h;obtain ⟨v,e,h⟩:=h;obtain ⟨m,hn,hl⟩:=I.loc;obtain ⟨u,r,l⟩:=hl i x v hN e hv;have fin:EP X pins σ Q u s:=⟨v,H,I,r,h⟩;rcases l with ⟨hk,hm⟩ | ⟨hk,c,hc,hcell⟩
 .exact wpAny_Name (wpAny_loadName_local I.ok.kind hk hn hm fin) hd
 .rcases hk with hk | hk
  .exact wpAny_Name (wpAny_loadName_cell I.ok.kind hk hc hcell fin) hd
  .exact wpAny_Name (wpAny_loadName_free I.ok.kind hk hc hcell fin hcd) hd
theorem mI_{i j pos}:PE X (.Constant (.int i) j pos) (tC (.int i)):=λ_ _ _ H _ I h=>wpAny_Constant_int ⟨.int i,H,I.tok _,⟨_,rfl⟩,h⟩
theorem cw_{b j pos}:PE X (.Constant (.bool b) j pos) (tC (.bl b)):=λ_ _ _ H _ I h=>Constant_bool ⟨.bl b,H,I,rfl,h⟩
theorem gv_{j pos}:PE X (.Constant .none j pos) (tC .non):=λ_ _ _ H _ I h=>Constant_none ⟨.non,H,I,rfl,h⟩
theorem gI_{x j pos}:PE X (.Constant (.str x) j pos) (tC (.str x)):=λ_ _ _ H _ I h=>Calls.Constant_str ⟨.str x,H,I.tok _,⟨_,rfl⟩,h⟩
noncomputable def Gl(X:Cx)(x:Str):Prop:=X.env.kindOf x=some .globalImplicit
theorem xw_{E:Value->Shared->Prop}{pins:List (Addr×Obj)}{s:Shared}{σ:St}{H:Hp}{x:Str}{u:Value}{pos:Pos}{Q:Value->Shared->Prop}(I:Inv X pins σ H s)(hg:Gl X x)(hm:X.mg x=some u)(h:Q u s)
  (hd:(x == ("__debug__" : Str))=false:=by decide):wpAny (model X.prog X.w) X.A (eval (.Name x pos) X.env) Q E s :=
 Calls.Name_function_global I.ok.kind hg (Calls.loadGlobal_global (by rw [I.ok.glob];exact I.mod.glob.keeps I.bk) hm h) hd
theorem vk_{E:Value->Shared->Prop}{pins:List (Addr×Obj)}{s:Shared}{σ:St}{H:Hp}{x:Str}{u:Value}{pos:Pos}{Q:Value->Shared->Prop}(I:Inv X pins σ H s)(hg:Gl X x)(hm:X.mg x=none)(hv:bootBuiltins x=some u)(h:Q u s)
  (hn:x ≠ "__name__" := by decide) (hd:(x == ("__debug__" : Str))=false:=by decide):wpAny (model X.prog X.w) X.A (eval (.Name x pos) X.env) Q E s:=by
 obtain ⟨mb,h1,h2⟩:=I.mod.blt;exact Calls.Name_function_global I.ok.kind hg (Calls.loadGlobal_builtin (by rw [I.ok.glob];exact I.mod.glob.keeps I.bk) hm (by rw [I.ok.blt];exact h1.keeps I.bk) ((h2 x hn).trans hv) h) hd
theorem lP_{x:Str}{v:V}{u:Value}{pos:Pos}(hg:Gl X x)(hm:X.mg x=some u)(r:RelV v u)(hd:(x == ("__debug__" : Str))=false:=by decide):PE X (.Name x pos) (tC v) :=
 λ_ _ _ H _ I h=>xw_ I hg hm ⟨v,H,I,r,h⟩ hd
theorem kv_{x:Str}{v:V}{u:Value}{pos:Pos}(hg:Gl X x)(hm:X.mg x=none)(hv:bootBuiltins x=some u)(r:RelV v u)(hn:x ≠ "__name__" := by decide)(hd:(x == ("__debug__" : Str))=false:=by decide):PE X (.Name x pos) (tC v) :=
 λ_ _ _ H _ I h=>vk_ I hg hm hv ⟨v,H,I,r,h⟩ hn hd
variable{a b:Expr}{ta tb:TE}{pos:Pos}
variable{tA tB':TT}{rest:List Expr}
noncomputable def au_(t u:TT):TT:=λσ H Q=>t σ H λc H1=>if c=true then u σ H1 Q else Q false H1
noncomputable def tOr(t u:TT):TT:=λσ H Q=>t σ H λc H1=>if c=true then Q true H1 else u σ H1 Q
noncomputable def bZ_(t:TT):TT:=λσ H Q=>t σ H λc H1=>Q (!c) H1
theorem l6_(ha:PT X a tA):PW X (.BoolOp .And [a] pos) tA:=by
 intro wh pins s σ H Q I h;refine isTrue_and (thn (ha pins s σ H Q I h) λc s1 e => ?_);cases c with
 | true=>exact isTrue_and_nil e
 | false=>exact e
theorem i2_(ha:PT X a tA):PW X (.BoolOp .Or [a] pos) tA:=by
 intro wh pins s σ H Q I h;refine isTrue_or (thn (ha pins s σ H Q I h) λc s1 e => ?_);cases c with
 | false=>exact isTrue_or_nil e
 | true=>exact e
theorem hk_(ha:PT X a tA)(hb:PW X (.BoolOp .And (b :: rest) pos) tB'):PW X (.BoolOp .And (a :: b :: rest) pos) (au_ tA tB'):=by
 intro wh pins s σ H Q I h;refine isTrue_and (thn (ha pins s σ H _ I h) λc s1 ⟨H1,I1,q1⟩ => ?_);cases c with
 | true=>exact hb wh pins s1 σ H1 Q I1 q1
 | false=>exact ⟨H1,I1,q1⟩
theorem dW_(ha:PT X a tA)(hb:PW X (.BoolOp .Or (b :: rest) pos) tB'):PW X (.BoolOp .Or (a :: b :: rest) pos) (tOr tA tB'):=by
 intro wh pins s σ H Q I h;refine isTrue_or (thn (ha pins s σ H _ I h) λc s1 ⟨H1,I1,q1⟩ => ?_);cases c with
 | true=>exact ⟨H1,I1,q1⟩
 | false=>exact hb wh pins s1 σ H1 Q I1 q1
theorem iq_(ha:PT X a tA):PT X (.UnaryOp .Not a pos) (bZ_ tA):=by
 intro pins s σ H Q I h;exact isTrue_not (ha pins s σ H (λc H1=>Q (!c) H1) I h)
noncomputable def eX_(ta tb:TE):TE:=λσ H Q=>ta σ H λx H1 => ∃ c,x=.bl c/\if c=true then tb σ H1 Q else Q (.bl false) H1
noncomputable def aA_(ta tb:TE):TE:=λσ H Q=>ta σ H λx H1 => ∃ c,x=.bl c/\if c=true then Q (.bl true) H1 else tb σ H1 Q
theorem i3_{op}{t:TE}(h:PE X a t):PE X (.BoolOp op [a] pos) t:=λpins s σ H Q I hw=>BoolOp_one (h pins s σ H Q I hw)
theorem gg_(ha:PE X a ta)(hb:PE X (.BoolOp .And (b :: rest) pos) tb):PE X (.BoolOp .And (a :: b :: rest) pos) (eX_ ta tb):=by
 intro pins s σ H Q I h;refine BoolOp_and (thn (ha pins s σ H _ I h) λv s1 ⟨x,H1,I1,r1,q1⟩ => ?_);obtain ⟨c,rfl,q1⟩:=q1;cases r1;refine wpAny_truthy_bool ?_;cases c with
 | true=>exact hb pins s1 σ H1 Q I1 q1
 | false=>exact ⟨.bl false,H1,I1,rfl,q1⟩
theorem d1_(ha:PE X a ta)(hb:PE X (.BoolOp .Or (b :: rest) pos) tb):PE X (.BoolOp .Or (a :: b :: rest) pos) (aA_ ta tb):=by
 intro pins s σ H Q I h;refine BoolOp_or (thn (ha pins s σ H _ I h) λv s1 ⟨x,H1,I1,r1,q1⟩ => ?_);obtain ⟨c,rfl,q1⟩:=q1;cases r1;refine wpAny_truthy_bool ?_;cases c with
 | false=>exact hb pins s1 σ H1 Q I1 q1
 | true=>exact ⟨.bl true,H1,I1,rfl,q1⟩
end
end L2
namespace L2
open PySem PySem.Spec PyProof.Rows
noncomputable def SqL(K:PySem.W.Frag)(H:Hp)(a:Addr)(xs:List V):Prop :=
 Rd H a (.lst xs) \/
  ∃ (o:Obj) (its:Array Value) (n:Nat),K.lookup a=some o/\o.cls=.type "list" /\ o.dict=none/\o.data=.seq its n/\its.size<=sizeLine/\Vals xs its.toList
noncomputable def SqT(K:PySem.W.Frag)(H:Hp)(a:Addr)(xs:List V):Prop :=
 Rd H a (.tup xs) \/
  ∃ (o:Obj) (its:Array Value) (n:Nat),K.lookup a=some o/\o.cls=.type "tuple" /\ o.data=.seq its n/\its.size<=sizeLine/\Vals xs its.toList
noncomputable def aa_:Value->Option V
 | .none=>some .non
 | .bool b=>some (.bl b)
 | .int i _=>some (.int i)
 | .str x _=>some (.str x)
 | .bytes b _=>some (.byt b)
 | .float b _=>some (.flt b)
 | .ref a=>some (.ref a)
 | .type n=>some (.ty n)
 | _=>none
theorem RelV.abs{x:V}{u:Value}(r:RelV x u):aa_ u=some x:=by
 cases x with
 | non=>cases r;rfl
 | bl _=>cases r;rfl
 | int _=>obtain ⟨t,rfl⟩:=r;rfl
 | str _=>obtain ⟨t,rfl⟩:=r;rfl
 | byt _=>obtain ⟨t,rfl⟩:=r;rfl
 | flt _=>obtain ⟨t,rfl⟩:=r;rfl
 | ref _=>cases r;rfl
 | ty _=>cases r;rfl
theorem RelV.inj{x y:V}{u:Value}(r:RelV x u)(q:RelV y u):x=y:=Option.some.inj (r.abs.symm.trans q.abs)
theorem Vals.inj:∀ {xs ys:List V} {us:List Value},Vals xs us->Vals ys us->xs=ys
 | _,_,_,.nil,.nil=>rfl
 | _,_,_,.cons r t,.cons r' t'=>by rw [r.inj r',Vals.inj t t']
section
variable{X:Cx}{pins:List (Addr×Obj)}{σ:St}{H:Hp}{s:Shared}{a:Addr}{xs ys:List V}
theorem SqL.of{K:PySem.W.Frag}(h:H a=some (.lst xs)):SqL K H a xs := .inl (.inl h)
theorem SqT.of{K:PySem.W.Frag}(h:H a=some (.tup xs)):SqT K H a xs := .inl (.inl h)
theorem Inv.list(I:Inv X pins σ H s)(h:SqL X.K H a xs):∃ its:List Value,Vals xs its/\PlainL s.heap a its.toArray/\xs.length<=sizeLine:=by
 rcases h with h | ⟨o,its,n,hk,hc,hd,hs,hz,r⟩
 .obtain ⟨z,its,n,r,e⟩:=h.ok I.hok
  exact ⟨its,r,⟨_,n,e,rfl,rfl,rfl⟩,z⟩
 .refine ⟨its.toList,r,⟨o,n,I.kIn a o hk,hc,hd,by simpa using hs⟩,?_⟩
  have e:=r.length;simp only [Array.length_toList] at e;omega
theorem Inv.tuple(I:Inv X pins σ H s)(h:SqT X.K H a xs):∃ its:List Value,Vals xs its/\IsTup s.heap a its.toArray/\xs.length<=sizeLine:=by
 rcases h with h | ⟨o,its,n,hk,hc,hs,hz,r⟩
 .obtain ⟨z,its,r,p⟩:=h.ok I.hok
  exact ⟨its,r,p,z⟩
 .refine ⟨its.toList,r,⟨o,I.kIn a o hk,hc,n,by simpa using hs⟩,?_⟩
  have e:=r.length;simp only [Array.length_toList] at e;omega
theorem Inv.list_inj(I:Inv X pins σ H s)(h:SqL X.K H a xs)(h':SqL X.K H a ys):xs=ys:=by
 obtain ⟨its,r,⟨o,n,e,_,_,d⟩,_⟩:=I.list h;obtain ⟨its',r',⟨o',n',e',_,_,d'⟩,_⟩:=I.list h';rw [e] at e';cases e';rw [d] at d';injection d' with d1 _
 have:its=its':=by simpa using congrArg Array.toList d1
 subst this;exact r.inj r'
theorem Inv.tuple_inj(I:Inv X pins σ H s)(h:SqT X.K H a xs)(h':SqT X.K H a ys):xs=ys:=by
 obtain ⟨its,r,⟨o,e,_,n,d⟩,_⟩:=I.tuple h;obtain ⟨its',r',⟨o',e',_,n',d'⟩,_⟩:=I.tuple h';rw [e] at e';cases e';rw [d] at d';injection d' with d1 _
 have:its=its':=by simpa using congrArg Array.toList d1
 subst this;exact r.inj r'
end
noncomputable abbrev Cx.wish(X:Cx)(E:Value->Shared->Prop):Cx:={ X with xe:=E }
noncomputable abbrev Cx.nox(X:Cx):Cx:=X.wish λ_ _=>False
theorem Cx.Ok.wish{X:Cx}(ok:X.Ok)(E:Value->Shared->Prop):(X.wish E).Ok :=
 ⟨ok.mod,ok.kind,ok.glob,ok.blt,ok.above,ok.inj,ok.has,ok.cab,ok.hd,ok.frames,ok.stk,ok.exf,ok.bs,ok.bsz,ok.noex,ok.exfs,ok.funs,ok.frf⟩
theorem Cx.Ok.unwish{X:Cx}{E:Value->Shared->Prop}(ok:(X.wish E).Ok):X.Ok :=
 ⟨ok.mod,ok.kind,ok.glob,ok.blt,ok.above,ok.inj,ok.has,ok.cab,ok.hd,ok.frames,ok.stk,ok.exf,ok.bs,ok.bsz,ok.noex,ok.exfs,ok.funs,ok.frf⟩
section
variable{X:Cx}{pins:List (Addr×Obj)}{σ:St}{H:Hp}{s:Shared}{E:Value->Shared->Prop}
theorem Inv.wish(I:Inv X pins σ H s)(E:Value->Shared->Prop):Inv (X.wish E) pins σ H s:=⟨I.ok.wish E,I.os,I.bare,I.base,I.loc,I.cell,I.free,I.freeC,I.pin,I.hok,I.len⟩
theorem Inv.unwish(I:Inv (X.wish E) pins σ H s):Inv X pins σ H s:=⟨I.ok.unwish,I.os,I.bare,I.base,I.loc,I.cell,I.free,I.freeC,I.pin,I.hok,I.len⟩
theorem SP.unwish{D:Ends}{f:Flow}{s':Shared}(h:SP (X.wish E) pins D f s'):SP X pins D f s':=by
 cases f with
 | next=>obtain ⟨σ',H',I,q⟩:=h;exact ⟨σ',H',I.unwish,q⟩
 | brk=>obtain ⟨σ',H',I,q⟩:=h;exact ⟨σ',H',I.unwish,q⟩
 | cont=>obtain ⟨σ',H',I,q⟩:=h;exact ⟨σ',H',I.unwish,q⟩
 | ret u=>obtain ⟨v,σ',H',I,r,q⟩:=h;exact ⟨v,σ',H',I.unwish,r,q⟩
theorem PSs.nox{st:List Stmt}{t:TS}(h:PSs X.nox st t):PSs X st t:=λpins s σ H D I hw =>
 wpAny_mono (h pins s σ H D (I.wish _) hw) (λ_ _ q=>q.unwish) λ_ _ z=>False.elim z
end
section
variable{X:Cx}{st:Stmt}{rest:List Stmt}{t u:TS}{e:Expr}{te:TE}{pos:Pos}
noncomputable def dB_:TS:=λD σ H=>D.nx σ H
noncomputable def ax_(t u:TS):TS:=λD σ H=>t { D with nx:=u D } σ H
theorem lw_:PSs X [] dB_:=λ_ _ σ H _ I h=>wpAny_execs_nil ⟨σ,H,I,h⟩
theorem p2_(h1:PS X st t)(h2:PSs X rest u):PSs X (st :: rest) (ax_ t u):=by
 intro pins s σ H D I h;refine wpAny_execs_cons (thn (h1 pins s σ H { D with nx:=u D } I h) λf s1 q => ?_)
 cases f with
 | next =>
  obtain ⟨σ',H',I',q⟩:=q;exact h2 pins s1 σ' H' D I' q
 | ret v=>exact q
 | brk=>exact q
 | cont=>exact q
theorem Inv.quiet{pins:List (Addr×Obj)}{σ:St}{H:Hp}{s:Shared}(I:Inv X pins σ H s):interactive X.env=false:=by simp [interactive,I.ok.kind]
noncomputable def dT_(te:TE):TS:=λD σ H=>te σ H λ_ H1=>D.nx σ H1
theorem lZ_(he:PE X e te)(hs:swapsWith e none pos.line X.env=pure false:=by rfl):PS X (.Expr e pos) (dT_ te):=by
 intro pins s σ H D I h;exact wpAny_Expr_any (thn (he pins s σ H _ I h) λv s1 ⟨x,H1,I1,r1,q1⟩=>⟨σ,H1,I1,q1⟩) I.quiet hs
noncomputable def aD_(te:TE):TS:=λD σ H=>te σ H D.rt
theorem gh_(he:PE X e te):PS X (.Return (some e) pos) (aD_ te):=by
 intro pins s σ H D I h;exact wpAny_Return_some (thn (he pins s σ H _ I h) λv s1 ⟨x,H1,I1,r1,q1⟩=>⟨x,σ,H1,I1,r1,q1⟩)
noncomputable def ar_(c:TT)(t u:TS):TS:=λD σ H=>c σ H λb H1=>if b=true then t D σ H1 else u D σ H1
theorem dA_{c:Expr}{a b:List Stmt}{tc:TT}(hc:PT X c tc)(ha:PSs X a t)(hb:PSs X b u):PS X (.If c a b pos) (ar_ tc t u):=by
 intro pins s σ H D I h;refine wpAny_If (thn (hc pins s σ H _ I h) λd s1 ⟨H1,I1,q1⟩ => ?_);cases d with
 | true=>exact ha pins s1 σ H1 D I1 q1
 | false=>exact hb pins s1 σ H1 D I1 q1
end
noncomputable abbrev TG:=V->St->Hp->(St->Hp->Prop)->Prop
noncomputable abbrev TGs:=List V->St->Hp->(St->Hp->Prop)->Prop
noncomputable def PG(X:Cx)(target:Expr)(t:TG):Prop :=
 ∀ (pins:List (Addr×Obj)) (s:Shared) (σ:St) (H:Hp) (v:V) (u:Value) (Q:St->Hp->Prop),Inv X pins σ H s->RelV v u->t v σ H Q ->
  wpAny (model X.prog X.w) X.A (assign target X.env u) (λ_ s' => ∃ σ' H',Inv X pins σ' H' s'/\Q σ' H') X.xe s
noncomputable def PGs(X:Cx)(ts:List Expr)(t:TGs):Prop :=
 ∀ (pins:List (Addr×Obj)) (s:Shared) (σ:St) (H:Hp) (vs:List V) (us:List Value) (Q:St->Hp->Prop),Inv X pins σ H s->Vals vs us->t vs σ H Q ->
  wpAny (model X.prog X.w) X.A (assignInOrder ((assignEach ts X.env).map (·.2)) us) (λ_ s' => ∃ σ' H',Inv X pins σ' H' s'/\Q σ' H') X.xe s
noncomputable abbrev gK_:=V->V->V->Hp->(Hp->Prop)->Prop
noncomputable def kT_(X:Cx)(t:gK_):Prop :=
 ∀ (pins:List (Addr×Obj)) (s:Shared) (σ:St) (H:Hp) (o i v:V) (ov iv u:Value) (Q:Hp->Prop),Inv X pins σ H s->RelV o ov->RelV i iv->RelV v u->t o i v H Q ->
  wpAny (model X.prog X.w) X.A (setItem ov iv u) (λ_ s' => ∃ H',Inv X pins σ H' s'/\Q H') X.xe s
section
variable{X:Cx}{pos:Pos}
noncomputable def jE_(i:Nat):TG:=λv σ H Q=>Q (σ.set i (some v)) H
theorem q3_{i:Nat}{x:Str}(hN:X.N.Nodup)(hi:X.N[i]? = some x)(hx:Loc X.env.scope x)(hf:X.fn x=true\/X.env.scope.names.lookup x=some .local:=by first | exact .inl rfl | exact .inr rfl | assumption):PG X (.Name x pos) (jE_ i):=by
 intro pins s σ H v u Q I r h;exact wpAny_assign_Name (wc_ I hN hi hx r (λs' I'=>⟨_,H,I',h⟩) hf)
noncomputable def aq_:TGs:=λvs σ H Q=>vs=[]/\Q σ H
noncomputable def et_(t:TG)(u:TGs):TGs:=λvs σ H Q => ∃ v r,vs=v :: r/\t v σ H λσ' H'=>u r σ' H' Q
theorem lS_:PGs X [] aq_:=by
 intro pins s σ H vs us Q I r h;obtain ⟨e,h⟩:=h;subst e;cases r;exact assignInOrder_nil ⟨σ,H,I,h⟩
theorem or_{e:Expr}{es:List Expr}{t:TG}{u:TGs}(h1:PG X e t)(h2:PGs X es u)
  (hs:(assignEach (e :: es) X.env).map (·.2)=assign e X.env :: (assignEach es X.env).map (·.2):=by rfl):PGs X (e :: es) (et_ t u):=by
 intro pins s σ H vs us Q I r h;obtain ⟨v,vr,e1,h⟩:=h;subst e1;cases r with
 | cons r rr =>
  rw [hs];refine assignInOrder_cons (thn (h1 pins s σ H _ _ _ I r h) λ_ s1 ⟨σ1,H1,I1,q1⟩ => ?_);exact h2 pins s1 σ1 H1 _ _ Q I1 rr q1
noncomputable def aI_(K:PySem.W.Frag)(n:Nat)(t:TGs):TG:=λv σ H Q => ∃ a xs,v=.ref a/\SqT K H a xs/\xs.length=n/\t xs σ H Q
theorem gD_{es:List Expr}{k:Nat}{t:TGs}{n:Nat}(hc:X.calm=true)(h:PGs X es t)
  (hn:(assignEach es X.env).length=n:=by rfl) (hst:(assignEach es X.env).findIdx? (·.1)=none:=by rfl):PG X (.Tuple es k pos) (aI_ X.K n t):=by
 intro pins s σ H v u Q I r hw;obtain ⟨a,xs,e1,hq,hl,hw⟩:=hw;subst e1;cases r;obtain ⟨its,rv,ht,hz⟩:=I.tuple hq;refine assign_Tuple_tuple (I.ok.hd hc) ht (by simp [hn,<-hl,rv.length]) hst λh' hx => ?_
 have I1:Inv X pins σ H { s with heap:=h' }:=I.kept (t':=s.toks) λb o e=>hx b o (Nat.ne_of_lt (Heap.lt_size e)) e
 exact h pins _ σ H xs _ Q I1 (by simpa using rv) hw
noncomputable def aG_(to ti:TE)(t:gK_):TG:=λv σ H Q=>to σ H λo H1=>ti σ H1 λi H2=>t o i v H2 λH3=>Q σ H3
theorem fr_{o i:Expr}{to ti:TE}{t:gK_}(ho:PE X o to)(hi:PE X i ti)(hs:kT_ X t)
  (ha:∀ v,assign (.Subscript o i pos) X.env v=(do
   let ov <- holding [v] (eval o X.env)
   let iv <- holding [v,ov] (eval i X.env)
   standAt pos
   holding [v,ov,iv] (setItem ov iv v)
   release [v,ov,iv] []):=by intro _;rfl):PG X (.Subscript o i pos) (aG_ to ti t):=by
 intro pins s σ H v u Q I r h;rw [ha];refine ZB (wpAny_holding (thn (ho pins s σ H _ I h) λov s1 ⟨x,H1,I1,r1,q1⟩ => ?_));refine ZB (wpAny_holding (thn (hi pins s1 σ H1 _ I1 q1) λiv s2 ⟨y,H2,I2,r2,q2⟩ => ?_));refine ZB (wpAny_standAt (ZB (wpAny_holding (thn (hs pins s2 σ H2 x y v ov iv u _ I2 r1 r2 r q2) λ_ s3 ⟨H3,I3,q3⟩ => ?_))));exact wpAny_release ⟨σ,H3,I3,q3⟩
noncomputable def cR_(te:TE)(g:TG):TS:=λD σ H=>te σ H λx H1=>g x σ H1 D.nx
theorem mA_{tg e:Expr}{te:TE}{g:TG}(he:PE X e te)(hg:PG X tg g)(hs:swapsWithSole [tg] e pos.line X.env=pure false:=by rfl)(hw:swappedStores [tg] e X.env=pure none:=by rfl)
  (h1:(assignEach [tg] X.env).map (·.2)=[assign tg X.env]:=by rfl):PS X (.Assign [tg] e pos) (cR_ te g):=by
 intro pins s σ H D I h;refine wpAny_Assign_stores (thn (he pins s σ H _ I h) λv s1 ⟨x,H1,I1,r1,q1⟩ => ?_) hs hw;rw [h1];exact thn (hg pins s1 σ H1 x v _ I1 r1 q1) λ_ s2 q=>q
theorem iF_{i:Nat}{x:Str}{e:Expr}{te:TE}{pos':Pos}(hN:X.N.Nodup)(hi:X.N[i]? = some x)(hx:Loc X.env.scope x)(he:PE X e te)(hs:swapsWith e (some (.Name x pos')) pos.line X.env=pure false:=by rfl)(hf:X.fn x=true\/X.env.scope.names.lookup x=some .local:=by first | exact .inl rfl | exact .inr rfl | assumption):
  PS X (.Assign [.Name x pos'] e pos) (cR_ te (jE_ i)):=by
 intro pins s σ H D I h;refine wpAny_Assign_Name (thn (he pins s σ H _ I h) λv s1 ⟨y,H1,I1,r1,q1⟩ => ?_) hs;exact wc_ I1 hN hi hx r1 (λs2 I2=>⟨_,H1,I2,q1⟩) hf
noncomputable def ad_(i j:Nat)(ta:TA):TS:=λD σ H=>ta σ H λvs H1 => ∃ v w,vs=[v,w]/\D.nx ((σ.set i (some v)).set j (some w)) H1
theorem hg_{i j:Nat}{x y:Str}{a b:Expr}{ta:TA}{px py pt:Pos}{kt k2 pt2}(hc:X.calm=true)(hN:X.N.Nodup)(hi:X.N[i]? = some x)(hj:X.N[j]? = some y)(hij:i≠j)
  (hx:X.env.scope.names.lookup x=some .local) (hy:X.env.scope.names.lookup y=some .local) (ha:PA X [a,b] ta)
  (hw:swappedStores [.Tuple [.Name x px,.Name y py] kt pt] (.Tuple [a,b] k2 pt2) X.env=pure (some [x,y]))
  (hs:swapsWithSole [.Tuple [.Name x px,.Name y py] kt pt] (.Tuple [a,b] k2 pt2) pos.line X.env=pure false:=by rfl) :
  PS X (.Assign [.Tuple [.Name x px,.Name y py] kt pt] (.Tuple [a,b] k2 pt2) pos) (ad_ i j ta):=by
 intro pins s σ H D I h;rw [exec_Assign_arm];refine ZB (wpAny_standAt ?_);rw [hs];refine ZB (ZP ?_);rw [if_neg (by decide)]
 refine ZB (Tuple_ (thn (ha _ pins s σ H _ I h) λus s1 ⟨vs,H1,I1,r1,q1⟩ => ?_));obtain ⟨v,w,e1,q1⟩:=q1;subst e1;obtain ⟨u1,u2,rfl,rv,rw'⟩:∃ u1 u2,us=[u1,u2]/\RelV v u1/\RelV w u2:=by
  cases r1 with
  | cons p q =>
   cases q with
   | cons p' q' =>
    cases q';exact ⟨_,_,rfl,p,p'⟩
 refine wpAny_newObj_type ?_ (by show 2<=sizeLine;decide)
 have I2:Inv X pins σ H1 { s1 with heap:=s1.heap.push { cls := .type "tuple",data := .seq [u1,u2].toArray } }:=I1.kept (t':=s1.toks) λb o e=>Heap.get?_push_of_some _ e
 rw [hw];refine ZB (ZP ?_);show wpAny (model X.prog X.w) X.A (do rule "assign.swapped-stores";let items <- unpackItems (.ref s1.heap.objs.size) 2 none;assignInOrder [λv=>bindName X.env y v,λv=>bindName X.env x v] items.reverse;pure Flow.next) _ _ _
 refine ZB (wpAny_rule (ZB (unpackItems_tuple (items := #[u1,u2]) (I.ok.hd hc) (IsTup.new s1.heap _) λh' hx' => ?_)));have I3:=I2.kept (h':=h') (t':=s1.toks) λb o e=>hx' b o (Nat.ne_of_lt (Heap.lt_size e)) e;show wpAny _ _ (assignInOrder [λv=>bindName X.env y v,λv=>bindName X.env x v] [u2,u1] >>= λ_=>pure Flow.next) _ _ _;refine ZB (assignInOrder_cons (wpAny_bindName (wc_ I3 hN hj (.inl hy) rw' (λs2 I4 => ?_) (.inr hy))));refine assignInOrder_cons (wpAny_bindName (wc_ I4 hN hi (.inl hx) rv (λs3 I5=>assignInOrder_nil (ZP ?_)) (.inr hx)));rw [List.set_comm _ _ (Ne.symm hij)] at I5;exact ⟨_,H1,I5,q1⟩
end
section
variable{X:Cx}{pos:Pos}
end
structure It where
 go:Nat->Hp->Prop
 yld:Nat->Hp->V->Hp->Prop
 stop:Nat->Hp->Prop
noncomputable def uK_(X:Cx)(pins:List (Addr×Obj))(H:Hp)(b:Addr):Prop :=
 H b=none/\b≠X.env.locals/\b ∉ X.fs/\(b∈X.ex\/X.s₀.heap.objs.size<=b)/\(∀ x c,X.env.cells.lookup x=some c->c≠b) /\ ∀ p∈X.pn++pins,p.1≠b
theorem Inv.fpOk{X:Cx}{pins:List (Addr×Obj)}{σ:St}{H H':Hp}{s:Shared}{b:Addr}(I:Inv X pins σ H s)(hb:s.heap.objs.size<=b)(hn:H' b=none):uK_ X pins H' b:=by
 refine ⟨hn,Nat.ne_of_gt (Nat.lt_of_lt_of_le I.lt hb),I.nofs hb,.inr (Nat.le_trans I.sz hb),λx c e z => ?_,λp hp z => ?_⟩
 .obtain ⟨v,q⟩:=I.cell x c e
  exact absurd (Nat.lt_of_lt_of_le q.lt (by rw [z];exact hb)) (Nat.lt_irrefl _)
 .exact absurd (Nat.lt_of_lt_of_le (Heap.lt_size (I.pin p hp).1) (by rw [z];exact hb)) (Nat.lt_irrefl _)
structure Turn(P:Program)(w:World)(K:PySem.W.Frag)(tg:Expr)(J:It)(fp:List Addr)(it:Addr)(tn:Nat->Heap->Prop):Prop where
 mem:it∈fp
 obj:∀ i h,tn i h -> ∀ b∈fp,∃ o,h.get? b=some o /\ ∀ v,o.data ≠ .cell v
 keep:∀ i h h',tn i h->(∀ b∈fp,∀ o,h.get? b=some o->h'.get? b=some o)->tn i h'
 item:∀ (X:Cx),X.prog=P->X.w=w->X.K=K->X.calm=true -> ∀ (i:Nat) (pins:List (Addr×Obj)) (s:Shared) (σ:St) (H:Hp) (E:Value->Shared->Prop),Inv X pins σ H s->(∀ b∈fp,uK_ X pins H b)->tn i s.heap->J.go i H ->
  wpAny (model P w) X.A (pyNext (.ref it)) (λr s1 => ∃ u,r=some u /\
   wpAny (model P w) X.A (letOwnedTupleGo tg (.ref it) u) (λ_ s2 => ∃ x H',Inv X pins σ H' s2/\RelV x u/\J.yld i H x H'/\tn (i+1) s2.heap /\ ∀ b∈fp,H' b=none) E s1) E s
 done:∀ (X:Cx),X.prog=P->X.w=w->X.K=K->X.calm=true -> ∀ (i:Nat) (pins:List (Addr×Obj)) (s:Shared) (σ:St) (H:Hp) (E:Value->Shared->Prop),Inv X pins σ H s->(∀ b∈fp,uK_ X pins H b)->tn i s.heap->J.stop i H ->
  wpAny (model P w) X.A (pyNext (.ref it)) (λr s1=>r=none/\Inv X pins σ H s1) E s
 self:∀ (A:Around) (i:Nat) (s:Shared) (Q:Value->Shared->Prop) (E:Value->Shared->Prop),tn i s.heap->Q (.ref it) s->wpAny (model P w) A (pyIter (.ref it)) Q E s
noncomputable abbrev TI:=St->Hp->(It->Hp->Prop)->Prop
noncomputable def PIE(X:Cx)(pins:List (Addr×Obj))(σ:St)(tg:Expr)(R:It->Hp->Prop)(itv:Value)(s2:Shared):Prop :=
 ∃ (it:Addr) (fp:List Addr) (tn:Nat->Heap->Prop) (J:It) (H':Hp),itv=.ref it/\Inv X pins σ H' s2/\Turn X.prog X.w X.K tg J fp it tn/\tn 0 s2.heap/\(∀ b∈fp,uK_ X pins H' b)/\R J H'
noncomputable def PI(X:Cx)(tg iter:Expr)(wi:TI):Prop :=
 ∀ (pins:List (Addr×Obj)) (s:Shared) (σ:St) (H:Hp) (R:It->Hp->Prop),Inv X pins σ H s->wi σ H R ->
  wpAny (model X.prog X.w) X.A (eval iter X.env) (λv s1=>wpAny (model X.prog X.w) X.A (pyIter v) (PIE X pins σ tg R) X.xe s1) X.xe s
theorem pZ_{M:Model}{A:Around}{E:Value->Shared->Prop}{s:Shared}{tg:Expr}{it:Addr}{u:Value}{o:Obj}{n:String}{vs:Array Value}{Q:Unit->Shared->Prop}(ho:s.heap.get? it=some o)(hc:o.cls=.type n)(hd:o.data=.fields vs)
    (hn:["enumerate","zip","dict_itemiterator","dict_reverseitemiterator","odict_iterator","itertools.zip_longest","itertools.pairwise"].contains n=false) (hQ:Q () s):wpAny M A (letOwnedTupleGo tg (.ref it) u) Q E s:=by
  unfold letOwnedTupleGo;cases tg <;> first
    | exact ZP hQ
    | (cases u <;> first
        | exact ZP hQ
        | (refine ZB (wpAny_load ho ?_)
           rw [hc,hd];show wpAny M A (if (["enumerate","zip","dict_itemiterator","dict_reverseitemiterator","odict_iterator","itertools.zip_longest","itertools.pairwise"].contains n && vs[0]? == some (rawInt _))=true then _ else _) Q E s
           rw [if_neg (by intro h;rw [hn,Bool.false_and] at h;cases h)]
           exact ZP hQ))
noncomputable def Itl(K:PySem.W.Frag)(a:Addr):It :=
 ⟨λi H => ∃ xs x,SqL K H a xs/\xs[i]? = some x,λi H x H'=>H'=H /\ ∀ xs,SqL K H a xs->xs[i]? = some x,λi H => ∃ xs,SqL K H a xs/\xs.length<=i⟩
noncomputable def Itt(K:PySem.W.Frag)(a:Addr):It :=
 ⟨λi H => ∃ xs x,SqT K H a xs/\xs[i]? = some x,λi H x H'=>H'=H /\ ∀ xs,SqT K H a xs->xs[i]? = some x,λi H => ∃ xs,SqT K H a xs/\xs.length<=i⟩
noncomputable def Itr(lo:Int)(n:Nat):It:=⟨λi _=>i < n,λi H x H'=>H'=H/\x=.int (lo+i),λi _=>n<=i⟩
theorem rz_{P:Program}{w:World}{K:PySem.W.Frag}{tg:Expr}(a it:Addr):Turn P w K tg (Itl K a) [it] it (λi h=>h.IsListIter it a i) where
 mem:=by simp
 obj:=λi h st b hb=>by
  have e:b=it:=by simpa using hb
  subst e;obtain ⟨o,e,c,d⟩:=st;exact ⟨o,e,λv z=>by rw [d] at z;cases z⟩
 keep:=λi h h' st k=>st.at λo e=>k it (by simp) o e
 item:=by
  intro X hP hw hK hc i pins s σ H E I hf st hg;subst hP hw hK;obtain ⟨xs,x,hq,hx⟩:=hg;obtain ⟨its,rv,p,hz⟩:=I.list hq;obtain ⟨u,hu,ru⟩:=rv.get hx;obtain ⟨f0,f1,f2,f3,f4,f5⟩:=hf it (by simp)
  refine wpAny_pyNext_list_item st p.isList (x:=u) (by simpa using hu) λh' st' sb => ?_
  have I1:Inv X pins σ H { s with heap:=h' }:=I.turned (t':=s.toks) (λb o hb e=>(sb.2 b hb).trans e) f0 f1 f3 f4 f5
  obtain ⟨o,e,c,d⟩:=id st';exact ⟨u,rfl,pZ_ (s:={ s with heap:=h' }) e c d (by decide) ⟨x,H,I1,ru,⟨rfl,λys hy=>by rw [I.list_inj hy hq];exact hx⟩,st',λb hb=>(hf b hb).1⟩⟩
 done:=by
  intro X hP hw hK hc i pins s σ H E I hf st hg;subst hP hw hK;obtain ⟨xs,hq,hx⟩:=hg;obtain ⟨its,rv,p,hz⟩:=I.list hq;obtain ⟨f0,f1,f2,f3,f4,f5⟩:=hf it (by simp)
  have hl:=rv.length;exact wpAny_pyNext_list_end (I.ok.hd hc) st p.isList (by simp;omega) λh' eb=>⟨rfl,I.turned (t':=s.toks) (λb o hb e=>eb b o hb e) f0 f1 f3 f4 f5⟩
 self:=λ_ _ _ _ _ st h=>wpAny_pyIter_listiter st h
theorem sD_{P:Program}{w:World}{K:PySem.W.Frag}{tg:Expr}(a it:Addr):Turn P w K tg (Itt K a) [it] it (λi h=>h.IsTupleIter it a i) where
 mem:=by simp
 obj:=λi h st b hb=>by
  have e:b=it:=by simpa using hb
  subst e;obtain ⟨o,e,c,d⟩:=st;exact ⟨o,e,λv z=>by rw [d] at z;cases z⟩
 keep:=λi h h' st k=>st.at λo e=>k it (by simp) o e
 item:=by
  intro X hP hw hK hc i pins s σ H E I hf st hg;subst hP hw hK;obtain ⟨xs,x,hq,hx⟩:=hg;obtain ⟨its,rv,p,hz⟩:=I.tuple hq;obtain ⟨u,hu,ru⟩:=rv.get hx;obtain ⟨f0,f1,f2,f3,f4,f5⟩:=hf it (by simp)
  refine wpAny_pyNext_tuple_item st (show s.heap.IsTuple a its.toArray from p) (x:=u) (by simpa using hu) λh' st' sb => ?_
  have I1:Inv X pins σ H { s with heap:=h' }:=I.turned (t':=s.toks) (λb o hb e=>(sb.2 b hb).trans e) f0 f1 f3 f4 f5
  obtain ⟨o,e,c,d⟩:=id st';exact ⟨u,rfl,pZ_ (s:={ s with heap:=h' }) e c d (by decide) ⟨x,H,I1,ru,⟨rfl,λys hy=>by rw [I.tuple_inj hy hq];exact hx⟩,st',λb hb=>(hf b hb).1⟩⟩
 done:=by
  intro X hP hw hK hc i pins s σ H E I hf st hg;subst hP hw hK;obtain ⟨xs,hq,hx⟩:=hg;obtain ⟨its,rv,p,hz⟩:=I.tuple hq;obtain ⟨f0,f1,f2,f3,f4,f5⟩:=hf it (by simp)
  have hl:=rv.length;exact wpAny_pyNext_tuple_end (I.ok.hd hc) st (show s.heap.IsTuple a its.toArray from p) (by simp;omega) λh' eb=>⟨rfl,I.turned (t':=s.toks) (λb o hb e=>eb b o hb e) f0 f1 f3 f4 f5⟩
 self:=λ_ _ _ _ _ st h=>wpAny_pyIter_tupleiter st h
theorem s4_{P:Program}{w:World}{K:PySem.W.Frag}{tg:Expr}(it:Addr)(lo:Int)(n:Nat):Turn P w K tg (Itr lo n) [it] it (λi h=>IsRangeIter h it (lo+(i:Nat)*1) ((n:Int) - (i:Nat)) 1) where
 mem:=by simp
 obj:=λi h st b hb=>by
  have e:b=it:=by simpa using hb
  subst e
  exact ⟨_,st,λv z=>by
   have z':Data.fields _=Data.cell v:=z;cases z'⟩
 keep:=λi h h' st k=>k it (by simp) _ st
 item:=by
  intro X hP hw hK hc i pins s σ H E I hf st hg;subst hP hw hK;obtain ⟨f0,f1,f2,f3,f4,f5⟩:=hf it (by simp)
  have W:=Walks.range (prog:=X.prog) (w:=X.w) (I.ok.hd hc) it lo 1 n;refine W.item i s _ _ hg st λv h' tk hv st' kk => ?_;obtain ⟨t,rfl⟩:=hv;have I1:Inv X pins σ H { s with heap:=h',toks:=tk }:=I.turned (λb o hb e=>kk b o (by simpa using hb) e) f0 f1 f3 f4 f5
  refine ⟨_,rfl,pZ_ (s:={ s with heap:=h',toks:=tk }) (n := "range_iterator") st' rfl rfl (by decide) ⟨.int (lo+i),H,I1,⟨t,?_⟩,⟨rfl,rfl⟩,st',λb hb=>(hf b hb).1⟩⟩
  rw [Int.mul_one]
 done:=by
  intro X hP hw hK hc i pins s σ H E I hf st hg;subst hP hw hK;obtain ⟨f0,f1,f2,f3,f4,f5⟩:=hf it (by simp)
  exact wpAny_pyNext_range_end (I.ok.hd hc) st (by have:n<=i:=hg;omega) λh' eb=>⟨rfl,I.turned (t':=s.toks) (λb o hb e=>eb b o hb e) f0 f1 f3 f4 f5⟩
 self:=λ_ _ _ _ _ st h=>wpAny_pyIter_rangeiter st h
end L2
namespace L2
open PySem PySem.Spec PyProof.Rows
section
variable{X:Cx}{tg:Expr}
theorem tJ_{pins:List (Addr×Obj)}{σ:St}{H:Hp}{s:Shared}{R:It->Hp->Prop}{E:Value->Shared->Prop}{lo hi:Int}{t u v:Tok}{tk:Nat}(I:Inv X pins σ H s)(h1 : -(2 ^ 62)<=lo)(h2:lo < 2 ^ 62)(h3 : -(2 ^ 62)<=hi)(h4:hi < 2 ^ 62)
  (q:R (Itr lo (hi - lo).toNat) H):wpAny (model X.prog X.w) X.A (pyIter (.ref s.heap.objs.size)) (PIE X pins σ tg R) E { s with heap:=s.heap.push { cls := .type "range",data := .fields #[.int lo t,.int hi u,.int 1 v] },toks:=tk }:=by
 refine wpAny_pyIter_range (IsRange.new ..) (small_one h1 h2 h3 h4) ?_;have I1:Inv X pins σ H { s with heap:=s.heap.push { cls := .type "range",data := .fields #[.int lo t,.int hi u,.int 1 v] },toks:=tk }:=I.kept λb o e=>Heap.get?_push_of_some _ e
 refine ⟨(s.heap.push { cls := .type "range",data := .fields #[.int lo t,.int hi u,.int 1 v] }).objs.size,[(s.heap.push { cls := .type "range",data := .fields #[.int lo t,.int hi u,.int 1 v] }).objs.size],_,_,H,rfl,
  I1.kept (t':=tk) λb o e=>Heap.get?_push_of_some _ e,s4_ _ lo (hi - lo).toNat,?_,λb hb => ?_,q⟩
 .have e1:lo+((0:Nat):Int)*1=lo:=by simp
  have e2:(((hi - lo).toNat:Nat):Int) - ((0:Nat):Int)=Builtin.Range.rangeSize lo hi 1:=by rw [rangeSize_one];split <;> omega
  show IsRangeIter _ _ (lo+((0:Nat):Int)*1) ((((hi - lo).toNat:Nat):Int) - ((0:Nat):Int)) 1;rw [e1,e2];exact Heap.get?_push_size _ rfl
 .have e:b=(s.heap.push { cls := .type "range",data := .fields #[.int lo t,.int hi u,.int 1 v] }).objs.size:=by simpa using hb
  subst e;exact I1.fpOk (Nat.le_refl _) (I1.hok.fresh (Nat.le_refl _))
noncomputable def dS_(ta:TA):TI:=λσ H R=>ta σ H λvs H1 => ∃ j:Int,vs=[.int j] /\ -(2 ^ 62)<=j/\j < 2 ^ 62/\R (Itr 0 j.toNat) H1
noncomputable def dC_(ta:TA):TI:=λσ H R=>ta σ H λvs H1 => ∃ i j:Int,vs=[.int i,.int j]/\(-(2 ^ 62)<=i/\i < 2 ^ 62 /\ -(2 ^ 62)<=j/\j < 2 ^ 62)/\R (Itr i (j - i).toNat) H1
theorem qm_{a:Expr}{ta:TA}{p pos:Pos}(hg:Gl X "range")(hm:X.mg "range" = none)(ha:PA X [a] ta)(hs:starEach [a] X.env=[(false,eval a X.env)]:=by rfl):PI X tg (.Call (.Name "range" p) [a] [] pos) (dS_ ta):=by
 intro pins s σ H R I h;refine Call_ (vk_ I hg hm boot_range (PyProof.Rows.callWith_type1 (thn (ha pos pins s σ H _ I h) λus s1 ⟨vs,H1,I1,r1,q1⟩ => ?_) hs rfl));obtain ⟨j,e,q1,q2,q⟩:=q1;subst e;cases r1 with
 | cons r rr =>
  cases rr;obtain ⟨t,rfl⟩:=r;exact call_range_1 (tJ_ I1 (by omega) (by omega) q1 q2 (by simpa using q))
theorem q8_{a b:Expr}{ta:TA}{p pos:Pos}(hg:Gl X "range")(hm:X.mg "range" = none)(ha:PA X [a,b] ta)(hs:starEach [a,b] X.env=[(false,eval a X.env),(false,eval b X.env)]:=by rfl)(hs2:starEach [b] X.env=[(false,eval b X.env)]:=by rfl):
  PI X tg (.Call (.Name "range" p) [a,b] [] pos) (dC_ ta):=by
 intro pins s σ H R I h;refine Call_ (vk_ I hg hm boot_range (PyProof.Rows.callWith_type1 (thn (ha pos pins s σ H _ I h) λus s1 ⟨vs,H1,I1,r1,q1⟩ => ?_) (by rw [hs,hs2]) (by rw [hs2];rfl)))
 obtain ⟨i,j,e,⟨q1,q2,q3,q4⟩,q⟩:=q1;subst e;cases r1 with
 | cons r rr =>
  cases rr with
  | cons r' rr =>
   cases rr;obtain ⟨t,rfl⟩:=r;obtain ⟨t',rfl⟩:=r';exact call_range_2 (tJ_ I1 q1 q2 q3 q4 q)
noncomputable def b2_(wi:TI)(g:TG)(tb:TS):TS:=λD σ H=>wi σ H λJ H1 => ∃ W:Nat->Nat->St->Hp->Prop,(∃ m,W 0 m σ H1) /\ ∀ i m σ H,W i m σ H ->
 (J.stop i H/\D.nx σ H)\/(J.go i H /\ ∃ N:St->Hp->Prop,(∀ σ' H',N σ' H' -> ∃ m',m' < m/\W (i+1) m' σ' H') /\ ∀ x H',J.yld i H x H'->g x σ H' λσ2 H2=>tb { D with nx:=N,ct:=N,bk:=D.nx } σ2 H2)
noncomputable def v5_(fp:List Addr)(h:Heap):List (Addr×Obj):=fp.filterMap λb=>(h.get? b).map λo=>(b,o)
theorem yM_{fp:List Addr}{h:Heap}{b:Addr}{o:Obj}(hb:b∈fp)(e:h.get? b=some o):(b,o)∈v5_ fp h:=List.mem_filterMap.mpr ⟨b,hb,by rw [e];rfl⟩
theorem rp_{fp:List Addr}{h:Heap}{p:Addr×Obj}(hp:p∈v5_ fp h):p.1∈fp/\h.get? p.1=some p.2:=by
 obtain ⟨b,hb,e⟩:=List.mem_filterMap.mp hp;cases q:h.get? b with
 | none=>rw [q] at e;cases e
 | some o =>
  rw [q] at e;have e':(b,o)=p:=Option.some.inj e;subst e';exact ⟨hb,q⟩
theorem Inv.pinned{pins:List (Addr×Obj)}{σ:St}{H:Hp}{s:Shared}{fp:List Addr}(I:Inv X pins σ H s)(hf:∀ b∈fp,uK_ X pins H b)(ho:∀ b∈fp,∃ o,s.heap.get? b=some o /\ ∀ v,o.data ≠ .cell v):Inv X (pins++v5_ fp s.heap) σ H s :=
 I.pins_of λp hp=>(List.mem_append.mp hp).elim (λz=>I.pin p (List.mem_append_right _ z)) λz=>by
  obtain ⟨hb,e⟩:=rp_ z;obtain ⟨f0,f1,f2,_⟩:=hf p.1 hb;obtain ⟨o,e',d⟩:=ho p.1 hb;rw [e] at e';cases e';exact ⟨e,f0,f1,f2,d⟩
theorem Inv.unpinned{pins pl:List (Addr×Obj)}{σ:St}{H:Hp}{s:Shared}(I:Inv X (pins++pl) σ H s):Inv X pins σ H s:=I.pins_of λp hp=>I.pin p (List.mem_append_right _ (List.mem_append_left _ hp))
theorem h6_{iter:Expr}{body:List Stmt}{wi:TI}{g:TG}{tb:TS}{pos:Pos}(hp:PassesOwn (model X.prog X.w) X.A X.env X.xe)(hc:X.calm=true)(hi:PI X tg iter wi)(hg:PG X tg g)(hb:PSs X body tb)
  (hs:∀ x,foldedSetIterable iter X.env x=pure x:=by intro _;rfl):PS X (.For tg iter body [] pos) (b2_ wi g tb):=by
 intro pins s σ H D I h;refine wpAny_For (thn (hi pins s σ H _ I h) λv s1 h1=>thn h1 λitv s2 h2 => ?_) hs;obtain ⟨it,fp,tn,J,H2,e,I2,T,st2,f2,W,⟨m0,w0⟩,turn⟩:=h2;subst e;have stat:∀ {H':Hp},(∀ b∈fp,H' b=none) -> ∀ b∈fp,uK_ X pins H' b:=λhn b hb=>⟨hn b hb,(f2 b hb).2⟩;refine codeAny_forLoop_any (λn s' => ∃ i σ' H',Inv X pins σ' H' s'/\tn i s'.heap/\(∀ b∈fp,H' b=none)/\W i n σ' H') ?_ m0 ⟨0,σ,H2,I2,st2,λb hb=>(f2 b hb).1,w0⟩;rintro n s3 ⟨i,σ3,H3,I3,st3,fr3,w3⟩;rcases turn i n σ3 H3 w3 with ⟨stop,qn⟩ | ⟨go,N,hN,step⟩
 .refine wpAny_passesOwn hp (thn (T.done X rfl rfl rfl hc i pins s3 σ3 H3 X.xe I3 (stat fr3) st3 stop) λr s4 ⟨hr,I4⟩ => ?_)
  subst hr;exact wpAny_execs_nil ⟨σ3,H3,I4,qn⟩
 .refine wpAny_passesOwn hp (thn (T.item X rfl rfl rfl hc i pins s3 σ3 H3 X.xe I3 (stat fr3) st3 go) λr s4 ⟨u,hr,h4⟩ => ?_)
  subst hr;refine wpAny_passesOwn hp (thn h4 λ_ s5 ⟨x,H5,I5,r5,y5,st5,fr5⟩ => ?_);have I5':=I5.pinned (stat fr5) (T.obj _ _ st5);refine wpAny_passesOwn hp (thn (hg _ s5 σ3 H5 x u _ I5' r5 (step x H5 y5)) λ_ s6 ⟨σ6,H6,I6,q6⟩ => ?_);refine wpAny_passesOwn hp (thn (hb _ s6 σ6 H6 _ I6 q6) λf s7 q7 => ?_);have again:∀ {σ7:St} {H7:Hp},Inv X (pins++v5_ fp s5.heap) σ7 H7 s7->N σ7 H7 -> ∃ m,m < n /\ ∃ i σ' H',Inv X pins σ' H' s7/\tn i s7.heap/\(∀ b∈fp,H' b=none)/\W i m σ' H':=λ{σ7 H7} I7 n7=>by
   obtain ⟨m',hm,w7⟩:=hN σ7 H7 n7;refine ⟨m',hm,i+1,σ7,H7,I7.unpinned,T.keep _ _ _ st5 λb hb o e=>(I7.pin (b,o) (List.mem_append_right _ (List.mem_append_right _ (yM_ hb e)))).1,λb hb => ?_,w7⟩;obtain ⟨o,e,d⟩:=T.obj _ _ st5 b hb;exact (I7.pin (b,o) (List.mem_append_right _ (List.mem_append_right _ (yM_ hb e)))).2.1
  cases f with
  | next=>obtain ⟨σ7,H7,I7,n7⟩:=q7;exact again I7 n7
  | cont=>obtain ⟨σ7,H7,I7,n7⟩:=q7;exact again I7 n7
  | brk=>obtain ⟨σ7,H7,I7,q7⟩:=q7;exact ⟨σ7,H7,I7.unpinned,q7⟩
  | ret v=>obtain ⟨x7,σ7,H7,I7,r7,q7⟩:=q7;exact ⟨x7,σ7,H7,I7.unpinned,r7,q7⟩
end
end L2
namespace L2
open PySem PySem.Spec PyProof.Rows
noncomputable abbrev R2:=V->V->Hp->VK->Prop
noncomputable def OpR(X:Cx)(f:Value->Value->Sem Value)(r:R2):Prop :=
 ∀ (pins:List (Addr×Obj)) (s:Shared) (σ:St) (H:Hp) (x y:V) (v u:Value) (Q:VK),Inv X pins σ H s->RelV x v->RelV y u->r x y H Q ->
  wpAny (model X.prog X.w) X.A (f v u) (EP X pins σ Q) X.xe s
noncomputable def UnR(X:Cx)(f:Value->Sem Value)(r:V->Hp->VK->Prop):Prop :=
 ∀ (pins:List (Addr×Obj)) (s:Shared) (σ:St) (H:Hp) (x:V) (v:Value) (Q:VK),Inv X pins σ H s->RelV x v->r x H Q ->
  wpAny (model X.prog X.w) X.A (f v) (EP X pins σ Q) X.xe s
noncomputable def CallR(X:Cx)(f:Value)(r:List V->Hp->VK->Prop):Prop :=
 ∀ (pins:List (Addr×Obj)) (s:Shared) (σ:St) (H:Hp) (xs:List V) (us:List Value) (Q:VK),Inv X pins σ H s->Vals xs us->r xs H Q ->
  wpAny (model X.prog X.w) X.A (call f us) (EP X pins σ Q) X.xe s
noncomputable def aF_(X:Cx)(r:V->Hp->(Bool->Hp->Prop)->Prop):Prop :=
 ∀ (pins:List (Addr×Obj)) (s:Shared) (σ:St) (H:Hp) (x:V) (v:Value) (Q:Bool->Hp->Prop),Inv X pins σ H s->RelV x v->r x H Q ->
  wpAny (model X.prog X.w) X.A (truthy v) (TP X pins σ Q) X.xe s
noncomputable def tOp(r:R2)(ta tb:TE):TE:=λσ H Q=>ta σ H λx H1=>tb σ H1 λy H2=>r x y H2 Q
noncomputable def tUn(r:V->Hp->VK->Prop)(ta:TE):TE:=λσ H Q=>ta σ H λx H1=>r x H1 Q
noncomputable def rI(C:Int->Int->Prop)(g:Int->Int->V):R2:=λx y H Q => ∃ i j,x=.int i/\y=.int j/\C i j/\Q (g i j) H
noncomputable def rI0(g:Int->Int->V):R2:=λx y H Q => ∃ i j,x=.int i/\y=.int j/\Q (g i j) H
noncomputable def rU(g:Int->V):V->Hp->VK->Prop:=λx H Q => ∃ i,x=.int i/\Q (g i) H
section
variable{X:Cx}{a b c:Expr}{ta tb tc:TE}{pos:Pos}
theorem eP_(ha:PE X a ta)(hb:PE X b tb){pins:List (Addr×Obj)}{s:Shared}{σ:St}{H:Hp}{R:V->V->Hp->Prop}(I:Inv X pins σ H s)
  (h:ta σ H λx H1=>tb σ H1 λy H2=>R x y H2) {Q:Value->Shared->Prop} {f:Value->Value->Sem Value}
  (hf:∀ v u s2 x y H2,Inv X pins σ H2 s2->RelV x v->RelV y u->R x y H2->wpAny (model X.prog X.w) X.A (f v u) Q X.xe s2) :
  wpAny (model X.prog X.w) X.A (eval a X.env) (λv s₁ => wpAny (model X.prog X.w) X.A (eval b X.env) (λu s₂ => wpAny (model X.prog X.w) X.A (f v u) Q X.xe s₂) X.xe s₁) X.xe s:=by
 refine thn (ha pins s σ H _ I h) λv s1 ⟨x,H1,I1,r1,q1⟩ => ?_;refine thn (hb pins s1 σ H1 _ I1 q1) λu s2 ⟨y,H2,I2,r2,q2⟩ => ?_;exact hf v u s2 x y H2 I2 r1 r2 q2
theorem cE_{op:Operator}{r:R2}(ho:OpR X (binaryOp op) r)(ha:PE X a ta)(hb:PE X b tb):PE X (.BinOp a op b pos) (tOp r ta tb):=by
 intro pins s σ H Q I h;exact wpAny_BinOp (eP_ ha hb I h λv u s2 x y H2 I2 rx ry q=>ho pins s2 σ H2 x y v u Q I2 rx ry q)
theorem hT_{op:UnaryOp}{r:V->Hp->VK->Prop}(ho:UnR X (unaryOp op) r)(ha:PE X a ta):PE X (.UnaryOp op a pos) (tUn r ta):=by
 intro pins s σ H Q I h;exact UnaryOp_ (thn (ha pins s σ H _ I h) λv s1 ⟨x,H1,I1,r1,q1⟩=>ho pins s1 σ H1 x v Q I1 r1 q1)
theorem opI{f:Value->Value->Sem Value}{C:Int->Int->Prop}{g:Int->Int->Int}
  (rule:∀ (i j:Int) (t u:Tok) (s:Shared) (Q:Value->Shared->Prop) (E:Value->Shared->Prop),C i j->Q (.int (g i j) s.toks) { s with toks:=s.toks+1 }->wpAny (model X.prog X.w) X.A (f (.int i t) (.int j u)) Q E s) :
  OpR X f (rI C λi j => .int (g i j)):=by
 intro pins s σ H x y v u Q I rx ry h;obtain ⟨i,j,rfl,rfl,hc,q⟩:=h;obtain ⟨t,rfl⟩:=rx;obtain ⟨t',rfl⟩:=ry;exact rule i j t t' s _ _ hc ⟨.int (g i j),H,I.tok _,⟨_,rfl⟩,q⟩
theorem c8_{f:Value->Value->Sem Value}{g:Int->Int->Int}
  (rule:∀ (i j:Int) (t u:Tok) (s:Shared) (Q:Value->Shared->Prop) (E:Value->Shared->Prop),Q (.int (g i j) s.toks) { s with toks:=s.toks+1 }->wpAny (model X.prog X.w) X.A (f (.int i t) (.int j u)) Q E s) :
  OpR X f (rI0 λi j => .int (g i j)):=by
 intro pins s σ H x y v u Q I rx ry h;obtain ⟨i,j,rfl,rfl,q⟩:=h;obtain ⟨t,rfl⟩:=rx;obtain ⟨t',rfl⟩:=ry;exact rule i j t t' s _ _ ⟨.int (g i j),H,I.tok _,⟨_,rfl⟩,q⟩
theorem f8_{f:Value->Value->Sem Value}{g:Int->Int->Bool}
  (rule:∀ (i j:Int) (t u:Tok) (s:Shared) (Q:Value->Shared->Prop) (E:Value->Shared->Prop),Q (.bool (g i j)) s->wpAny (model X.prog X.w) X.A (f (.int i t) (.int j u)) Q E s) :
  OpR X f (rI0 λi j => .bl (g i j)):=by
 intro pins s σ H x y v u Q I rx ry h;obtain ⟨i,j,rfl,rfl,q⟩:=h;obtain ⟨t,rfl⟩:=rx;obtain ⟨t',rfl⟩:=ry;exact rule i j t t' s _ _ ⟨.bl (g i j),H,I,rfl,q⟩
noncomputable def bg_(i j:Int):Prop:=0<=j/\j<=1000000/\i.natAbs < 2 ^ 64
noncomputable def CMul(i j:Int):Prop:=(-(2 ^ 64) < i/\i < 2 ^ 64)\/(-(2 ^ 64) < j/\j < 2 ^ 64)
theorem CMul.ok{i j:Int}(h:CMul i j):IntMulOk i j:=by
 rcases h with ⟨h1,h2⟩ | ⟨h1,h2⟩
 .exact .of_left (intBits_le_64 h1 h2)
 .exact .of_right (intBits_le_64 h1 h2)
theorem se_:OpR X (binaryOp .Add) (rI0 λi j => .int (i+j)):=c8_ λ_ _ _ _ _ _ _ q=>add_int q
theorem tS_:OpR X (binaryOp .Sub) (rI0 λi j => .int (i - j)):=c8_ λ_ _ _ _ _ _ _ q=>sub_int q
theorem kb_:OpR X (binaryOp .Mod) (rI (λ_ j=>j≠0) λi j => .int (i.fmod j)):=opI λ_ _ _ _ _ _ _ hc q=>mod_int' hc q
theorem j6_:OpR X (binaryOp .Pow) (rI bg_ λi j => .int (i ^ j.toNat)):=opI λ_ _ _ _ _ _ _ hc q=>pow_int_small hc.1 hc.2.1 hc.2.2 q
theorem unI{f:Value->Sem Value}{g:Int->Int}
  (rule:∀ (i:Int) (t:Tok) (s:Shared) (Q:Value->Shared->Prop) (E:Value->Shared->Prop),Q (.int (g i) s.toks) { s with toks:=s.toks+1 }->wpAny (model X.prog X.w) X.A (f (.int i t)) Q E s) :
  UnR X f (rU λi => .int (g i)):=by
 intro pins s σ H x v Q I rx h;obtain ⟨i,rfl,q⟩:=h;obtain ⟨t,rfl⟩:=rx;exact rule i t s _ _ ⟨.int (g i),H,I.tok _,⟨_,rfl⟩,q⟩
theorem ny_:UnR X (unaryOp .USub) (rU λi => .int (-i)):=unI λ_ _ _ _ _ q=>neg_int q
end
noncomputable def bW_:V->V->Bool
 | .non,.non=>true | .non,.int _=>true | .int _,.non=>true | .non,.bl _=>true | .bl _,.non=>true | .non,.str _=>true | .str _,.non=>true
 | .int _,.int _=>true | .bl _,.bl _=>true | .str _,.str _=>true | .byt _,.byt _=>true
 | .int _,.str _=>true | .str _,.int _=>true | .bl _,.str _=>true | .str _,.bl _=>true
 | _,_=>false
noncomputable def rNe:R2:=λx y H Q=>bW_ x y=true/\Q (.bl (!decide (x=y))) H
theorem r8_{i j:Int}:decide (V.int i=V.int j)=(i == j):=by
 rw [Bool.eq_iff_iff];simp
theorem nt_{i j:Bool}:decide (V.bl i=V.bl j)=(i == j):=by
 rw [Bool.eq_iff_iff];simp
theorem re_{i j:Str}:decide (V.str i=V.str j)=(i == j):=by
 rw [Bool.eq_iff_iff];simp
theorem lX_{i j:Array UInt8}:decide (V.byt i=V.byt j)=(i.toList == j.toList):=by
 rw [Bool.eq_iff_iff];cases i;cases j;simp
section
variable{X:Cx}{a b c:Expr}{ta tb tc:TE}{pos:Pos}
theorem zU_{pins:List (Addr×Obj)}{σ:St}{H:Hp}{s:Shared}{Q:VK}{k k':Bool}(I:Inv X pins σ H s)(q:Q (.bl k) H)(e:k=k'):EP X pins σ Q (.bool k') s:=by
 subst e;exact ⟨.bl k,H,I,rfl,q⟩
theorem eU_:OpR X (compareOp .NotEq) rNe:=by
 intro pins s σ H x y v u Q I rx ry h;obtain ⟨hs,q⟩:=h;cases x with
 | non =>
  cases rx;cases y with
  | non=>cases ry;exact PySem.EqNone.ne_none_none (zU_ I q (by simp))
  | bl j=>cases ry;exact PySem.EqNone.ne_none_bool (zU_ I q (by simp))
  | int j=>obtain ⟨t',rfl⟩:=ry;exact PySem.EqNone.ne_none_int (zU_ I q (by simp))
  | str j=>obtain ⟨t',rfl⟩:=ry;exact PySem.EqNone.ne_none_str (zU_ I q (by simp))
  | _=>exact absurd (show false=true from hs) Bool.false_ne_true
 | bl i =>
  cases rx;cases y with
  | non=>cases ry;exact PySem.EqNone.ne_bool_none (zU_ I q (by simp))
  | bl j=>cases ry;exact ne_bool (zU_ I q (congrArg not nt_))
  | str j=>obtain ⟨t',rfl⟩:=ry;exact PySem.EqMixed.ne_bool_str (zU_ I q (by simp))
  | _=>exact absurd (show false=true from hs) Bool.false_ne_true
 | int i =>
  obtain ⟨t,rfl⟩:=rx;cases y with
  | non=>cases ry;exact PySem.EqNone.ne_int_none (zU_ I q (by simp))
  | int j=>obtain ⟨t',rfl⟩:=ry;exact ne_int (zU_ I q (congrArg not r8_))
  | str j=>obtain ⟨t',rfl⟩:=ry;exact PySem.EqMixed.ne_int_str (zU_ I q (by simp))
  | _=>exact absurd (show false=true from hs) Bool.false_ne_true
 | str i =>
  obtain ⟨t,rfl⟩:=rx;cases y with
  | non=>cases ry;exact PySem.EqNone.ne_str_none (zU_ I q (by simp))
  | bl j=>cases ry;exact PySem.EqMixed.ne_str_bool (zU_ I q (by simp))
  | int j=>obtain ⟨t',rfl⟩:=ry;exact PySem.EqMixed.ne_str_int (zU_ I q (by simp))
  | str j=>obtain ⟨t',rfl⟩:=ry;exact ne_str (zU_ I q (congrArg not re_))
  | _=>exact absurd (show false=true from hs) Bool.false_ne_true
 | byt i =>
  obtain ⟨t,rfl⟩:=rx;cases y with
  | byt j=>obtain ⟨t',rfl⟩:=ry;exact PySem.W.ne_bytes (zU_ I q (congrArg not lX_))
  | _=>exact absurd (show false=true from hs) Bool.false_ne_true
 | _=>cases y <;> exact absurd (show false=true from hs) Bool.false_ne_true
theorem eI_:OpR X (compareOp .Lt) (rI0 λi j => .bl (decide (i < j))):=f8_ λ_ _ _ _ _ _ _ q=>lt_int q
theorem eM_:OpR X (compareOp .LtE) (rI0 λi j => .bl (decide (i<=j))):=f8_ λ_ _ _ _ _ _ _ q=>le_int q
theorem eV_:OpR X (compareOp .Gt) (rI0 λi j => .bl (decide (j < i))):=f8_ λ_ _ _ _ _ _ _ q=>gt_int q
theorem cC_:OpR X (compareOp .GtE) (rI0 λi j => .bl (decide (j<=i))):=f8_ λ_ _ _ _ _ _ _ q=>ge_int q
theorem j7_:OpR X (compareOp .Is) (λx y H Q=>y=.non/\Q (.bl (decide (x=.non))) H):=by
 intro pins s σ H x y v u Q I rx ry h;obtain ⟨rfl,q⟩:=h;cases ry;refine is_none_gen (zU_ I q ?_);cases x <;> first
  | (cases rx;rfl)
  | (obtain ⟨t,rfl⟩:=rx;rfl)
theorem kd_:OpR X (compareOp .IsNot) (λx y H Q=>y=.non/\Q (.bl (!decide (x=.non))) H):=by
 intro pins s σ H x y v u Q I rx ry h;obtain ⟨rfl,q⟩:=h;cases ry;refine isnot_none_gen (zU_ I q ?_);cases x <;> first
  | (cases rx;rfl)
  | (obtain ⟨t,rfl⟩:=rx;rfl)
theorem lg_{op:CmpOp}{r:R2}(ho:OpR X (compareOp op) r)(ha:PE X a ta)(hb:PE X b tb)(hm:behindInMarks op b=false):PE X (.Compare a [op] [b] pos) (tOp r ta tb):=by
 intro pins s σ H Q I h;exact wpAny_Compare1 (eP_ ha hb I h λv u s2 x y H2 I2 rx ry q=>ho pins s2 σ H2 x y v u Q I2 rx ry q) hm
noncomputable def gJ_(t:TE):TT:=λσ H Q=>t σ H λx H' => ∃ k,x=.bl k/\Q k H'
theorem kH_{op:CmpOp}{r:R2}(ho:OpR X (compareOp op) r)(ha:PE X a ta)(hb:PE X b tb)(hm:behindInMarks op b=false):PT X (.Compare a [op] [b] pos) (gJ_ (tOp r ta tb)):=by
 intro pins s σ H Q I h;refine wpAny_isTrue_Compare1 (thn (ha pins s σ H _ I h) λv s1 ⟨x,H1,I1,r1,q1⟩=>thn (hb pins s1 σ H1 _ I1 q1) λu s2 ⟨y,H2,I2,r2,q2⟩ =>
  thn (ho pins s2 σ H2 x y v u _ I2 r1 r2 q2) λc s3 ⟨z,H3,I3,r3,k,e,q3⟩ => ?_) hm
 subst e;cases r3;exact wpAny_truthy_bool ⟨H3,I3,q3⟩
noncomputable def qE_(r r':R2)(ta tb tc:TE):TE:=λσ H Q=>ta σ H λx H1=>tb σ H1 λy H2=>r x y H2 λz H3 => ∃ k,z=.bl k /\
 (if k=true then tc σ H3 λw' H4=>r' y w' H4 Q else Q (.bl false) H3)
theorem p7_{op op':CmpOp}{r r':R2}(ho:OpR X (compareOp op) r)(ho':OpR X (compareOp op') r')(ha:PE X a ta)(hb:PE X b tb)(hc:PE X c tc)
  (hm:lastMarks [op,op'] [b,c]=false:=by with_unfolding_all rfl):PE X (.Compare a [op,op'] [b,c] pos) (qE_ r r' ta tb tc):=by
 intro pins s σ H Q I h;refine Compare_chain (thn (ha pins s σ H _ I h) λv s1 ⟨x,H1,I1,r1,q1⟩=>chain_link (thn (hb pins s1 σ H1 _ I1 q1) λu s2 ⟨y,H2,I2,r2,q2⟩ =>
  thn (ho pins s2 σ H2 x y v u _ I2 r1 r2 q2) λd s3 ⟨z,H3,I3,r3,k,e,q3⟩ => ?_)) hm
 subst e;cases r3;refine wpAny_truthy_bool ?_;cases k with
 | false=>exact ite_ff ⟨.bl false,H3,I3,rfl,q3⟩
 | true=>exact ite_tt (chain_last (thn (hc pins s3 σ H3 _ I3 q3) λw' s4 ⟨z',H4,I4,r4,q4⟩=>ho' pins s4 σ H4 y z' u w' Q I4 r2 r4 q4))
theorem pC_{op op':CmpOp}{r r':R2}(ho:OpR X (compareOp op) r)(ho':OpR X (compareOp op') r')(ha:PE X a ta)(hb:PE X b tb)(hc:PE X c tc)
  (hm:lastMarks [op,op'] [b,c]=false:=by with_unfolding_all rfl):PT X (.Compare a [op,op'] [b,c] pos) (gJ_ (qE_ r r' ta tb tc)):=by
 intro pins s σ H Q I h;refine isTrue_chain (thn (ha pins s σ H _ I h) λv s1 ⟨x,H1,I1,r1,q1⟩=>test_link (thn (hb pins s1 σ H1 _ I1 q1) λu s2 ⟨y,H2,I2,r2,q2⟩ =>
  thn (ho pins s2 σ H2 x y v u _ I2 r1 r2 q2) λd s3 ⟨z,H3,I3,r3,k,e,q3⟩ => ?_)) hm
 subst e;cases r3;refine wpAny_truthy_bool ?_;cases k with
 | false =>
  obtain ⟨k',e',q'⟩:=q3;cases e';exact ite_ff ⟨H3,I3,q'⟩
 | true =>
  refine ite_tt (test_last (thn (hc pins s3 σ H3 _ I3 q3) λw' s4 ⟨z',H4,I4,r4,q4⟩=>thn (ho' pins s4 σ H4 y z' u w' _ I4 r2 r4 q4) λd' s5 ⟨z2,H5,I5,r5,k2,e2,q5⟩ => ?_));subst e2;cases r5;exact wpAny_truthy_bool ⟨H5,I5,q5⟩
noncomputable def ep_(K:PySem.W.Frag)(x:V)(H:Hp)(k:Bool):Prop :=
 match x with
 | .non=>k=false
 | .bl b=>k=b
 | .int i=>k=(i != 0)
 | .str y=>y.length<=sizeLine/\k=((y.length:Int) != 0)
 | .byt y=>y.size<=sizeLine/\k=((y.size:Int) != 0)
 | .ref p=>(∃ xs,SqL K H p xs/\k = !xs.isEmpty)\/(∃ xs,SqT K H p xs/\k = !xs.isEmpty) \/ ∃ kvs,H p=some (.dK kvs)/\k = !kvs.isEmpty
 | _=>False
theorem sx_{κ:Type}{kvs:List (κ×V)}{vs:List (κ×Value)}(r:KV kvs vs):(!vs.isEmpty) = !kvs.isEmpty:=by
 cases r <;> rfl
theorem vu_{xs:List V}{its:List Value}(r:Vals xs its):(!its.toArray.isEmpty) = !xs.isEmpty:=by
 cases r <;> simp
theorem uz_:(sizeLine:Nat) < 2 ^ 63:=by rw [sizeLine_eq];decide
theorem oD_:aF_ X (λx H Q => ∃ k,ep_ X.K x H k/\Q k H):=by
 intro pins s σ H x v Q I rx h;obtain ⟨k,e,q⟩:=h;have hl:=uz_;have hs:sizeLine=16777216:=sizeLine_eq;cases x with
 | non =>
  cases rx;have e':k=false:=e;subst e';exact truthy_none ⟨H,I,q⟩
 | bl b =>
  cases rx;have e':k=b:=e;subst e';exact wpAny_truthy_bool ⟨H,I,q⟩
 | int i =>
  obtain ⟨t,rfl⟩:=rx;have e':k=(i != 0):=e;subst e';exact PySem.P.truthy_int ⟨H,I,q⟩
 | str y =>
  obtain ⟨t,rfl⟩:=rx;obtain ⟨hy,e'⟩:y.length<=sizeLine/\k=((y.length:Int) != 0):=e;subst e';exact PySem.P.truthy_str (by omega) ⟨H,I.tok _,q⟩
 | byt y =>
  obtain ⟨t,rfl⟩:=rx;obtain ⟨hy,e'⟩:y.size<=sizeLine/\k=((y.size:Int) != 0):=e;subst e';exact PySem.W.truthy_bytes (by omega) ⟨H,I.tok _,q⟩
 | ref p =>
  cases rx;have e':(∃ xs,SqL X.K H p xs/\k = !xs.isEmpty)\/(∃ xs,SqT X.K H p xs/\k = !xs.isEmpty) \/ ∃ kvs,H p=some (.dK kvs)/\k = !kvs.isEmpty:=e;rcases e' with ⟨xs,hx,e'⟩ | ⟨xs,hx,e'⟩ | ⟨kvs,hx,e'⟩
  .subst e'
   obtain ⟨its,r,pl,hz⟩:=I.list hx;have hlen:=r.length;exact wpAny_truthy_list pl.isList (by simp only [List.size_toArray];omega) ⟨H,I.tok _,by rw [vu_ r];exact q⟩
  .subst e'
   obtain ⟨its,r,pl,hz⟩:=I.tuple hx;have hlen:=r.length;exact truthy_tuple pl (by simp only [List.size_toArray];omega) ⟨H,I.tok _,by rw [vu_ r];exact q⟩
  .subst e'
   obtain ⟨hz,hS,vs,r,m⟩:kvs.length<=sizeLine/\(p == sysModules)=false /\ ∃ vs,KV kvs vs/\s.heap.DictOf (zL_ X.prog X.w) p vs:=I.hok p _ hx;have hlen:kvs.length=vs.length:=Paired.length r;exact wpAny_truthy_dict hS m (by omega) ⟨H,I.tok _,by rw [sx_ r];exact q⟩
 | _=>exact (show False from e).elim
theorem pE_(ha:PE X a ta)(he:∀ whole,isTrue a X.env whole=(do let v <- whole;standAt a.pos;holding [v] (truthy v))):
  PT X a (λσ H Q=>ta σ H λx H' => ∃ k,ep_ X.K x H' k/\Q k H'):=by
 intro pins s σ H Q I h;exact isTrue_plain (thn (ha pins s σ H _ I h) λv s1 ⟨x,H1,I1,r1,q1⟩=>oD_ pins s1 σ H1 x v Q I1 r1 q1) (he _)
theorem vals1{x:V}{us:List Value}(r:Vals [x] us):∃ u,us=[u]/\RelV x u:=by
 cases r with
 | cons r1 r2=>cases r2;exact ⟨_,rfl,r1⟩
theorem vals2{x y:V}{us:List Value}(r:Vals [x,y] us):∃ u w',us=[u,w']/\RelV x u/\RelV y w':=by
 cases r with
 | cons r1 r2 =>
  cases r2 with
  | cons r3 r4=>cases r4;exact ⟨_,_,rfl,r1,r3⟩
theorem call_abs:CallR X (.builtin "abs") (λxs H Q => ∃ i,xs=[.int i]/\Q (.int (if i < 0 then -i else i)) H):=by
 intro pins s σ H xs us Q I r h;obtain ⟨i,rfl,q⟩:=h;obtain ⟨u,rfl,t,rfl⟩:=vals1 r;exact call_abs_int λu tk=>⟨.int (if i < 0 then -i else i),H,I.tok _,⟨_,rfl⟩,q⟩
theorem qI_(hc:X.calm=true):CallR X (.builtin "max") (λxs H Q => ∃ i j,xs=[.int i,.int j]/\Q (.int (if j > i then j else i)) H):=by
 intro pins s σ H xs us Q I r h;obtain ⟨i,j,rfl,q⟩:=h;obtain ⟨u,w',rfl,⟨t,rfl⟩,⟨t',rfl⟩⟩:=vals2 r;refine max_two_ints (I.ok.hd hc) λh' tk k=>⟨_,H,I.kept k,?_,q⟩;by_cases hj:j > i
 .rw [if_pos hj,if_pos hj];exact ⟨_,rfl⟩
 .rw [if_neg hj,if_neg hj];exact ⟨_,rfl⟩
theorem rk_(hc:X.calm=true):CallR X (.builtin "min") (λxs H Q => ∃ i j,xs=[.int i,.int j]/\Q (.int (if j < i then j else i)) H):=by
 intro pins s σ H xs us Q I r h;obtain ⟨i,j,rfl,q⟩:=h;obtain ⟨u,w',rfl,⟨t,rfl⟩,⟨t',rfl⟩⟩:=vals2 r;refine min_two_ints (I.ok.hd hc) λh' tk k=>⟨_,H,I.kept k,?_,q⟩;by_cases hj:j < i
 .rw [if_pos hj,if_pos hj];exact ⟨_,rfl⟩
 .rw [if_neg hj,if_neg hj];exact ⟨_,rfl⟩
end
end L2
namespace L2
open PySem PySem.Spec PyProof.Rows
structure ObjM(h:Heap)(x dx C:Addr)(mA:Str->Option Value):Prop where
 obj:h.get? x=some (PySem.W.instObj C dx)
 ns:h.Ns1 dx mA
 ne:dx≠x
theorem pd_{h:Heap}{dx:Addr}{mA:Str->Option Value}(n:h.Ns1 dx mA):∃ od,h.get? dx=some od /\ ∀ name,PySem.W.lookIn name od=some (mA name):=by
 obtain ⟨o,es,ep,ho,hd,hk,_,hm⟩:=n;refine ⟨o,ho,λname => ?_⟩;have e:=hm name;unfold nsFind findBy at e;rw [<-Array.find?_toList] at e;unfold PySem.W.lookIn;rw [hd];dsimp only;split
 .rename_i y q
  rw [q] at e;exact congrArg some e
 .rename_i q
  rw [q] at e;have a:es.toList.any (·.refKey)=false:=by
   rw [List.any_eq_false];intro y hy;obtain ⟨z,t,hkey⟩:=hk y (Array.mem_toList_iff.mp hy);simp [DictEntry.refKey,hkey]
  have a' : ¬ es.toList.any (·.refKey)=true:=by rw [a];exact Bool.false_ne_true
  rw [if_neg a'];exact congrArg some e
theorem ObjM.look{h:Heap}{x dx C:Addr}{mA:Str->Option Value}(I:ObjM h x dx C mA):∃ od,PySem.W.InstAt h x (PySem.W.instObj C dx) C (some od) /\ ∀ name,PySem.W.lookIn name od=some (mA name) :=
 let ⟨od,ho,hl⟩:=pd_ I.ns
 ⟨od,⟨I.obj,rfl,rfl,ho⟩,hl⟩
section
variable{prog:Program}{w:World}{A:Around}{E:Value->Shared->Prop}{s:Shared}{K:PySem.W.Frag}{x dx C f:Addr}{mA:Str->Option Value}{name:Str}{v:Value}
theorem get_map{expr:Bool}{Q:Value->Shared->Prop}(X:K.In s.heap)(I:ObjM s.heap x dx C mA)(hg:PySem.W.plainGet K C name=true)(hh:PySem.W.hasDictIn K C=true)
  (ha:PySem.W.findIn K (.ref C) name=some none) (hv:mA name=some v) (hv':PySem.W.handedIn v=true) (h:Q v { s with toks:=s.toks+1 }) :
  wpAny (model prog w) A (getAttr (.ref x) name expr) Q E s:=by
 obtain ⟨od,J,hl⟩:=I.look;exact PySem.W.get_value X J (PySem.W.plainGet_of hg).1 (PySem.W.findObj_own hh ha rfl (by rw [hl,hv])) hv' h
theorem ol_{pl:Sem Bool}{Q:Value×List Value->Shared->Prop}(X:K.In s.heap)(I:ObjM s.heap x dx C mA)(hg:PySem.W.plainGet K C name=true)
  (hf:PySem.W.findIn K (.ref C) name=some (some (.ref f))) (ht:PySem.W.isFn K (.ref f)=true) (hv:mA name=none) (h:Q (.ref f,[.ref x]) s) :
  wpAny (model prog w) A (getMethod (.ref x) name pl) Q E s:=by
 obtain ⟨od,J,hl⟩:=I.look;exact PySem.W.method_fn X J (PySem.W.plainGet_of hg).1 (PySem.W.plainGet_of hg).2 hf (beq_iff_eq.mp ht) (by show (PySem.W.lookIn name od).map (·.isSome)=some false;rw [hl,hv];rfl) h
theorem m5_{ns:List Str}{Q:Unit->Shared->Prop}(X:K.In s.heap)(I:ObjM s.heap x dx C mA)
  (hs:PySem.W.findIn K (.ref C) "__setattr__" = some (some (.builtin "object.__setattr__"))) (hp:PySem.W.plainOver K C=true) (ht:PySem.W.takerIn K C name=some none) (hh:PySem.W.hasDictIn K C=true)
  (hw:PySem.Within mA ns) (hsz:ns.length<=sizeLine)
  (h:∀ h',ObjM h' x dx C (λy=>if y=name then some v else mA y)->Heap.SameBut dx s.heap h'->Q () { s with heap:=h',toks:=s.toks+2 }) :
  wpAny (model prog w) A (setAttr (.ref x) name v) Q E s:=by
 obtain ⟨od,J,hl⟩:=I.look;refine PySem.W.set_plain X J hs (PySem.W.osa_open (s:={ s with toks:=s.toks+1 }) (r:=none) X J hp ht λb => ?_)
 obtain ⟨cd,hc,hd'⟩:=PySem.W.any_some hh;have hx:s.heap.get? x=some ⟨.ref C,some dx,.plain,#[]⟩:=I.obj;refine ZB (ZP (ZB (ZB (wpAny_loadPart hx (ZB (PySem.W.Looks.here (s:={ s with toks:=s.toks+1 }) (PySem.W.looks_clsIn X hc) ?_))))))
 rw [hd'];refine ZP (a:=some dx) (ZB (ZP (ZB ?_)));refine wpAny_nsSet1 (s:={ s with toks:=s.toks+1 }) I.ns λh' hn2 hs2 => ?_
 obtain ⟨oD,esD,epD,hoD,hdD,hcD⟩:=hn2.count (PySem.Within.cons name v hw);refine ZB (wpAny_lookBehind hoD (by rw [hdD];exact pastItsLine_dict (Nat.le_trans hcD (by rw [List.length_cons];omega))) ?_)
 exact ZP (h _ ⟨(hs2.2 _ (Ne.symm I.ne)).trans I.obj,hn2,I.ne⟩ hs2)
theorem pt_{R:Result->Shared->Prop}{vs:List Value}{kw:List (Str×Value)}(X:K.In s.heap)(hm:PySem.W.makesIn K C=true)
  (hi:PySem.W.findIn K (.ref C) "__init__" = some (some (.ref f))) (hf:PySem.W.typeIn K (.ref f)=some (.type "function"))
  (h:codeAny (model prog w) (A.under (.builtin "type.__call__" ⟨.ref C :: vs,kw⟩)) (.call (.ref f) ⟨.ref (s.heap.objs.size+1) :: vs,kw⟩) (PySem.W.InitBack (s.heap.objs.size+1) R)
   { s with heap:=(s.heap.push PySem.W.emptyDict).push (PySem.W.instObj C s.heap.objs.size) }) :
  codeAny (model prog w) A (.call (.ref C) ⟨vs,kw⟩) R s:=by
 obtain ⟨hh,g,d,t,os⟩:=s;exact PySem.W.make_core (PySem.W.makes_of X hm) (PySem.W.looks_findIn X hi) (λself=>PySem.W.bind_fn X self hf) (.inl rfl) h
end
noncomputable def vz_(f:Str)(v:V):List (Str×V)->List (Str×V)
 | []=>[(f,v)]
 | (g,x) :: r=>if g=f then (g,v) :: r else (g,x) :: vz_ f v r
theorem wi_(f g:Str)(v:V):∀ fs:List (Str×V),(vz_ f v fs).lookup g=if g=f then some v else fs.lookup g
 | []=>by
  show List.lookup g [(f,v)]=_;by_cases h:g=f
  .have hb:(g == f)=true:=beq_iff_eq.mpr h
   simp only [List.lookup,hb,if_pos h]
  .have hb:(g == f)=false:=beq_eq_false_iff_ne.mpr h
   simp only [List.lookup,hb,if_neg h]
 | (k,x) :: r=>by
  have ih:=wi_ f g v r;rw [show vz_ f v ((k,x) :: r)=(if k=f then (k,v) :: r else (k,x) :: vz_ f v r) from rfl]
  by_cases hk:k=f
  .rw [if_pos hk]
   by_cases h:g=k
   .have hb:(g == k)=true:=beq_iff_eq.mpr h
    simp only [List.lookup,hb,if_pos (h.trans hk)]
   .have hb:(g == k)=false:=beq_eq_false_iff_ne.mpr h
    simp only [List.lookup,hb,if_neg (λe:g=f=>h (e.trans hk.symm))]
  .rw [if_neg hk]
   by_cases h:g=k
   .have hb:(g == k)=true:=beq_iff_eq.mpr h
    simp only [List.lookup,hb,if_neg (λe:g=f=>hk (h.symm.trans e))]
   .have hb:(g == k)=false:=beq_eq_false_iff_ne.mpr h
    simp only [List.lookup,hb];exact ih
theorem wU_(f:Str)(v:V):∀ fs:List (Str×V),f∈(vz_ f v fs).map (·.1) /\ ∀ g,g∈fs.map (·.1)->g∈(vz_ f v fs).map (·.1)
 | []=>⟨by simp [vz_],λg h=>by simp at h⟩
 | (k,x) :: r=>by
  obtain ⟨i1,i2⟩:=wU_ f v r;rw [show vz_ f v ((k,x) :: r)=(if k=f then (k,v) :: r else (k,x) :: vz_ f v r) from rfl]
  by_cases hk:k=f
  .rw [if_pos hk]
   subst hk;exact ⟨by simp,λg h=>by simpa using h⟩
  .rw [if_neg hk]
   refine ⟨?_,λg h => ?_⟩
   .rw [List.map_cons]
    exact List.mem_cons_of_mem _ i1
   .rw [List.map_cons] at h ⊢
    rcases List.mem_cons.mp h with e | e
    .exact List.mem_cons.mpr (.inl e)
    .exact List.mem_cons_of_mem _ (i2 g e)
theorem wV_(f:Str)(v:V):∀ fs:List (Str×V),(vz_ f v fs).length<=fs.length+1
 | []=>by simp [vz_]
 | (k,x) :: r=>by
  have ih:=wV_ f v r;rw [show vz_ f v ((k,x) :: r)=(if k=f then (k,v) :: r else (k,x) :: vz_ f v r) from rfl]
  by_cases hk:k=f
  .rw [if_pos hk,List.length_cons,List.length_cons];omega
  .rw [if_neg hk,List.length_cons,List.length_cons];omega
theorem RelO.some_of{v:V}{o:Option Value}(r:RelO (some v) o):∃ u,o=some u/\RelV v u:=by
 cases o with
 | none=>exact (show False from r).elim
 | some u=>exact ⟨u,rfl,r⟩
theorem RelO.none_of{o:Option Value}(r:RelO none o):o=none:=by
 cases o with
 | none=>rfl
 | some u=>exact (show False from r).elim
theorem r9_{v:V}{u:Value}(r:RelV v u):PySem.W.handedIn u=true:=by
 cases v with
 | non=>cases (show u=Value.none from r);rfl
 | bl b=>cases (show u=Value.bool b from r);rfl
 | int i=>obtain ⟨t,e⟩:=(show ∃ t,u=Value.int i t from r);cases e;rfl
 | str x=>obtain ⟨t,e⟩:=(show ∃ t,u=Value.str x t from r);cases e;rfl
 | byt b=>obtain ⟨t,e⟩:=(show ∃ t,u=Value.bytes b t from r);cases e;rfl
 | flt b=>obtain ⟨t,e⟩:=(show ∃ t,u=Value.float b t from r);cases e;rfl
 | ref a=>cases (show u=Value.ref a from r);rfl
 | ty n=>cases (show u=Value.type n from r);rfl
section
variable{P:Program}{w:World}{H H':Hp}{h h':Heap}{a C dx:Addr}{fs fs':List (Str×V)}
theorem tc_(hok:HOk P w H h)(e:H a=some (.ins C dx fs)):∃ mA,ObjM h a dx C mA/\(∀ f,RelO (fs.lookup f) (mA f))/\PySem.Within mA (fs.map (·.1))/\fs.length<=1000/\H dx=some (.own a):=by
 obtain ⟨d,z,ne,ob,mA,n,r,q⟩:=(show ObjOk P w H h a (.ins C dx fs) from hok a _ e);exact ⟨mA,⟨ob,n,ne⟩,r,q,z,d⟩
end
structure Cls(K:PySem.W.Frag)(C:Addr):Prop where
 pg:PySem.W.plainGet K C Str.empty=true
 hd:PySem.W.hasDictIn K C=true
 po:PySem.W.plainOver K C=true
 sa:PySem.W.findIn K (.ref C) "__setattr__" = some (some (.builtin "object.__setattr__"))
theorem Cls.get{K:PySem.W.Frag}{C:Addr}(c:Cls K C)(f:Str):PySem.W.plainGet K C f=true:=c.pg
noncomputable def NoAttr(K:PySem.W.Frag)(C:Addr)(f:Str):Prop:=PySem.W.findIn K (.ref C) f=some none
theorem NoAttr.taker{K:PySem.W.Frag}{C:Addr}{f:Str}(n:NoAttr K C f):PySem.W.takerIn K C f=some none:=by
 unfold PySem.W.takerIn;rw [show PySem.W.findIn K (.ref C) f=some none from n]
 rfl
structure Con(K:PySem.W.Frag)(C:Addr)(f:Str)(v:V)(u:Value):Prop where
 at_:PySem.W.findIn K (.ref C) f=some (some u)
 rel:RelV v u
 get:PySem.W.specialIn K u "__get__" = some none
 cp:PySem.W.copiedNames.contains f=false
structure Meth(K:PySem.W.Frag)(C:Addr)(m:Str)(f:Addr):Prop where
 at_:PySem.W.findIn K (.ref C) m=some (some (.ref f))
 fn:PySem.W.isFn K (.ref f)=true
 kp:PySem.W.keepIn K (.ref f)=true
section
variable{X:Cx}{pins:List (Addr×Obj)}{σ:St}{H:Hp}{s:Shared}{a C dx:Addr}{fs:List (Str×V)}{f:Str}{v:V}{A:Around}{E:Value->Shared->Prop}
theorem sM_{b:Bool}{Q:Value->Shared->Prop}(I:Inv X pins σ H s)(e:H a=some (.ins C dx fs))(c:Cls X.K C)(n:NoAttr X.K C f)(l:fs.lookup f=some v)
  (h:∀ u s',Inv X pins σ H s'->RelV v u->Q u s'):wpAny (model X.prog X.w) A (getAttr (.ref a) f b) Q E s:=by
 obtain ⟨mA,O,r,_,_,_⟩:=tc_ I.hok e;obtain ⟨u,hu,ru⟩:=RelO.some_of (v:=v) (o:=mA f) (by rw [<-l];exact r f)
 exact get_map I.kIn O (c.get f) c.hd n hu (r9_ ru) (h u _ (I.tok _) ru)
theorem sz_{m:Str}{g:Addr}{pl:Sem Bool}{Q:Value×List Value->Shared->Prop}(I:Inv X pins σ H s)(e:H a=some (.ins C dx fs))(c:Cls X.K C)(k:Meth X.K C m g)(l:fs.lookup m=none)
  (h:Q (.ref g,[.ref a]) s):wpAny (model X.prog X.w) A (getMethod (.ref a) m pl) Q E s:=by
 obtain ⟨mA,O,r,_,_,_⟩:=tc_ I.hok e;have hn:mA m=none:=RelO.none_of (by rw [<-l];exact r m)
 exact ol_ I.kIn O (c.get m) k.at_ k.fn hn h
theorem s2_{y:V}{u:Value}{Q:Unit->Shared->Prop}(I:Inv X pins σ H s)(e:H a=some (.ins C dx fs))(c:Cls X.K C)(n:NoAttr X.K C f)(hl:fs.length < 1000)(ry:RelV y u)
  (h:∀ s',Inv X pins σ (upd H a (.ins C dx (vz_ f y fs))) s'->Q () s'):wpAny (model X.prog X.w) A (setAttr (.ref a) f u) Q E s:=by
 obtain ⟨mA,O,r,wi,_,ho⟩:=tc_ I.hok e;have hz:(fs.map (·.1)).length<=sizeLine:=by rw [List.length_map,sizeLine_eq];omega
 refine m5_ I.kIn O c.sa c.po n.taker c.hd wi hz λh' O' sb=>h _ ?_;have hd:∃ o,h'.get? dx=some o:=let ⟨o,_,_,e',_⟩:=O'.ns;⟨o,e'⟩
 refine I.write (x:=a) (e:=dx) (by rw [e];exact True.intro) (.inr ho) (λb q hb z=>(sb.2 b hb).trans z) hd ?_
 refine ⟨by rw [zg_ O.ne];exact ho,?_,O.ne,O'.obj,_,O'.ns,λg => ?_,λg hg => ?_⟩
 .have:=wV_ f y fs;omega
 .show RelO ((vz_ f y fs).lookup g) (if g=f then some u else mA g)
  rw [wi_];by_cases q:g=f
  .rw [if_pos q,if_pos q];exact ry
  .rw [if_neg q,if_neg q];exact r g
 .by_cases q:g=f
  .rw [q];exact (wU_ f y fs).1
  .refine (wU_ f y fs).2 g (wi g λz=>hg ?_)
   show (if g=f then some u else mA g)=none
   rw [if_neg q];exact z
theorem Inv.made(I:Inv X pins σ H s):Inv X pins σ (upd (upd H s.heap.objs.size (.own (s.heap.objs.size+1))) (s.heap.objs.size+1) (.ins C s.heap.objs.size []))
  { s with heap:=(s.heap.push PySem.W.emptyDict).push (PySem.W.instObj C s.heap.objs.size) }:=by
 have e1:(s.heap.push PySem.W.emptyDict).get? s.heap.objs.size=some PySem.W.emptyDict:=Heap.get?_push_size s.heap rfl;have e2:((s.heap.push PySem.W.emptyDict).push (PySem.W.instObj C s.heap.objs.size)).get? (s.heap.objs.size+1)=some (PySem.W.instObj C s.heap.objs.size):=by
  have:=Heap.get?_push_size (s.heap.push PySem.W.emptyDict) (o:=PySem.W.instObj C s.heap.objs.size) rfl;rwa [Heap.size_push] at this
 have e3:(s.heap.push PySem.W.emptyDict).Ns s.heap.objs.size (λ_=>none):=⟨PySem.W.emptyDict,#[],_,e1,rfl,(λe he=>absurd he (by simp)),λ_=>rfl⟩
 have I1:=I.laid (a:=s.heap.objs.size) (o := .own (s.heap.objs.size+1)) (h':=s.heap.push PySem.W.emptyDict) (t':=s.toks) (λb u q=>Heap.get?_push_of_some _ q) (Nat.le_refl _) ⟨_,e1⟩;refine I1.laid (a:=s.heap.objs.size+1) (o := .ins C s.heap.objs.size []) (t':=s.toks) (λb u q=>Heap.get?_push_of_some _ q) (Nat.le_of_eq (Heap.size_push _ _)) ?_;have ne:s.heap.objs.size≠s.heap.objs.size+1:=Nat.ne_of_lt (Nat.lt_succ_self _);refine ⟨by rw [zg_ ne,upd_same],Nat.zero_le _,ne,e2,λ_=>none,(Heap.Ns1.of_empty e3).at λo q=>Heap.get?_push_of_some _ q,λ_=>True.intro,λy hy=>absurd rfl hy⟩
theorem lf_{prog:Program}{w:World}{env:Env}{e:Expr}{f:Str}{pos:Pos}{s:Shared}{Q:Value->Shared->Prop}(hb:attributeBase e f env (eval e env)=eval e env)
  (h:wpAny (model prog w) A (eval e env) (λo s₁ => wpAny (model prog w) A (getAttr o f true) Q E s₁) E s):wpAny (model prog w) A (eval (.Attribute e f pos) env) Q E s :=
 Attribute_any_ h (by rw [arm_eval_Attribute,hb])
end
noncomputable def ai_(K:PySem.W.Frag)(ta:TE)(f:Str):TE:=λσ H Q=>ta σ H λx H1 => ∃ a C dx fs v,x=.ref a/\H1 a=some (.ins C dx fs)/\Cls K C/\NoAttr K C f/\fs.lookup f=some v/\Q v H1
noncomputable def an_(K:PySem.W.Frag)(ta tv:TE)(f:Str):TS:=λD σ H=>tv σ H λy H1=>ta σ H1 λx H2 => ∃ a C dx fs,x=.ref a/\H2 a=some (.ins C dx fs)/\Cls K C/\NoAttr K C f/\fs.length < 1000 /\
 D.nx σ (upd H2 a (.ins C dx (vz_ f y fs)))
section
variable{X:Cx}{o e value:Expr}{f:Str}{pos pos' tpos:Pos}{ta tv:TE}
theorem it_(he:PE X e ta)(hb:attributeBase e f X.env (eval e X.env)=eval e X.env):PE X (.Attribute e f pos) (ai_ X.K ta f):=by
 intro pins s σ H Q I h;refine lf_ hb (thn (he pins s σ H _ I h) λu s1 ⟨x,H1,I1,rx,a,C,dx,fs,v,ex,ea,c,n,l,q⟩ => ?_);subst ex;obtain rfl:u=Value.ref a:=rx;exact sM_ I1 ea c n l λu' s2 I2 ru=>⟨v,H1,I2,ru,q⟩
theorem iN_(ha:PE X o ta)(hv:PE X value tv)(hs:swapsWith value (some (.Attribute o f pos')) pos.line X.env=pure false):PS X (.Assign [.Attribute o f pos'] value pos) (an_ X.K ta tv f):=by
 intro pins s σ H D I h;refine plainObj_wpAny_Assign_Attribute (thn (hv pins s σ H _ I h) λu s1 ⟨y,H1,I1,ry,q⟩=>thn (ha pins s1 σ H1 _ I1 q) λov s2 ⟨x,H2,I2,rx,a,C,dx,fs,ex,ea,c,n,l,q2⟩ => ?_) hs;subst ex;obtain rfl:ov=Value.ref a:=rx;exact s2_ I2 ea c n l ry λs3 I3=>⟨σ,_,I3,q2⟩
end
section
variable{X:Cx}{pins:List (Addr×Obj)}{σ:St}{H:Hp}{s:Shared}{A:Around}{E:Value->Shared->Prop}{Q:Value->Shared->Prop}{c:Value}{b:Bool}
inductive TyOf(K:PySem.W.Frag)(H:Hp):V->Value->Prop where
 | non:TyOf K H .non (.type "NoneType")
 | bl (x:Bool):TyOf K H (.bl x) (.type "bool")
 | int (i:Int):TyOf K H (.int i) (.type "int")
 | str (x:Str):TyOf K H (.str x) (.type "str")
 | flt (x:UInt64):TyOf K H (.flt x) (.type "float")
 | lst {a:Addr} {xs:List V} (e:H a=some (.lst xs)):TyOf K H (.ref a) (.type "list")
 | frz {a:Addr} {o:Obj} {xs:List V} (e:H a=some (.frz o (.lst xs))):TyOf K H (.ref a) (.type "list")
 | tup {a:Addr} {xs:List V} (e:H a=some (.tup xs)):TyOf K H (.ref a) (.type "tuple")
 | dK {a:Addr} {kvs:List (Key×V)} (e:H a=some (.dK kvs)):TyOf K H (.ref a) (.type "dict")
 | dT {a:Addr} {kvs:List (List Key×V)} (e:H a=some (.dT kvs)):TyOf K H (.ref a) (.type "dict")
 | ins {a C dx:Addr} {fs:List (Str×V)} (e:H a=some (.ins C dx fs)) (cl:Cls K C) (ha:PySem.W.findIn K (.ref C) "__class__" = some (some (.builtin "object.__class__")))
   (hn:PySem.W.specialIn K (.builtin "object.__class__") "__get__" = some (some (.builtin "getset_descriptor.__get__"))) (htk:PySem.W.takesIn K (.builtin "object.__class__")=some true)
   (hm:PySem.W.mroIn K C (.type "object")=some true):TyOf K H (.ref a) (.ref C)
end
end L2
namespace L2
open PySem PySem.Spec PyProof.Rows
structure Room(k:Nat)(A:Around):Prop where
 hd:A.handled=none
 dp:A.depth+3*k+5 < recursionLimit
 un:A.units+16*k+200 < cLine
theorem Room.deeper{k:Nat}{A:Around}(r:Room (k+1) A)(env:Env):Room k (A.deeper env) :=
 ⟨r.hd,by have:=r.dp;show A.depth+1+3*k+5 < _;omega,by have:=r.un;show A.units+3+16*k+200 < _;omega⟩
theorem sG_{A:Around}{C:Addr}{us:List Value}{kw:List (Str×Value)}:(A.under (.builtin "type.__call__" ⟨.ref C :: us,kw⟩)).depth=A.depth+1:=by
 first | rfl | simp [Around.under,Code.weight,Code.isCreation,Code.isGuard,Code.isCaller,Code.frames,Code.isFrame,guardIds]
theorem sC_{A:Around}{C:Addr}{us:List Value}{kw:List (Str×Value)}:(A.under (.builtin "type.__call__" ⟨.ref C :: us,kw⟩)).units=A.units+1:=by
 first | rfl | simp [Around.under,Code.cUnits,Code.frames,Code.isFrame]
theorem Room.make{k:Nat}{A:Around}(r:Room (k+1) A)(C:Addr)(us:List Value)(kw:List (Str×Value)):Room k (A.under (.builtin "type.__call__" ⟨.ref C :: us,kw⟩)) :=
 ⟨r.hd,by have:=r.dp;rw [sG_];omega,by have:=r.un;rw [sC_];omega⟩
theorem Room.depth{k:Nat}{A:Around}(r:Room k A):A.depth < recursionLimit:=by have:=r.dp;omega
theorem Room.units{k:Nat}{A:Around}(r:Room k A):A.units+64 < cLine:=by have:=r.un;omega
noncomputable def eC_:TA:=λ_ H Q=>Q [] H
noncomputable def jg_(ta:TE)(tr:TA):TA:=λσ H Q=>ta σ H λx H1=>tr σ H1 λxs H2=>Q (x :: xs) H2
section
variable{X:Cx}{e:Expr}{es:List Expr}{te:TE}{t:TA}{pos:Pos}
theorem wQ_:PA X [] eC_:=λ_ _ _ _ H Q I h=>Calls.spliced_nil ⟨[],H,I,.nil,h⟩
theorem yf_(ha:PE X e te)(hr:PA X es t)(hs:starEach (e :: es) X.env=(false,eval e X.env) :: starEach es X.env:=by rfl):PA X (e :: es) (jg_ te t):=by
 intro pos pins s σ H Q I h;rw [hs];show wpAny _ _ (spliced ((false,eval e X.env) :: backTo pos (starEach es X.env))) _ _ s;refine Calls.spliced_cons (thn (ha pins s σ H _ I h) λu s1 ⟨x,H1,I1,r1,q1⟩ => ?_);exact thn (hr pos pins s1 σ H1 _ I1 q1) λus s2 ⟨xs,H2,I2,r2,q2⟩=>⟨x :: xs,H2,I2,.cons r1 r2,q2⟩
noncomputable def b4_(t:TA):TE:=λσ H Q=>t σ H λxs H1=>xs.length<=sizeLine /\ ∀ p,H1 p=none->Q (.ref p) (upd H1 p (.tup xs))
noncomputable def ao_(t:TA):TE:=λσ H Q=>t σ H λxs H1=>xs.length<=sizeLine /\ ∀ p,H1 p=none->Q (.ref p) (upd H1 p (.lst xs))
theorem gX_{x1}(h:PA X es t):PE X (.Tuple es x1 pos) (b4_ t):=by
 intro pins s σ H Q I hq;refine wpAny_Tuple_spliced (thn (h pos pins s σ H _ I hq) λus s1 ⟨xs,H1,I1,r,z,q⟩=>⟨by rw [<-r.length];exact z,?_⟩)
 have hf:H1 s1.heap.objs.size=none:=I1.hok.fresh (Nat.le_refl _);refine ⟨.ref s1.heap.objs.size,upd H1 s1.heap.objs.size (.tup xs),I1.laid (t':=s1.toks) (λb u e=>Heap.get?_push_of_some _ e) (Nat.le_refl _) ?_,rfl,q _ hf⟩;exact ⟨z,us,r,⟨_,Heap.get?_push_size _ rfl,rfl,_,rfl⟩⟩
theorem iU_(h:PA X es t):PE X (.List es pos) (ao_ t):=by
 intro pins s σ H Q I hq;refine wpAny_List_spliced (thn (h pos pins s σ H _ I hq) λus s1 ⟨xs,H1,I1,r,z,q⟩=>⟨by rw [<-r.length];exact z,?_⟩)
 have hf:H1 s1.heap.objs.size=none:=I1.hok.fresh (Nat.le_refl _);refine ⟨.ref s1.heap.objs.size,upd H1 s1.heap.objs.size (.lst xs),I1.laid (t':=s1.toks) (λb u e=>Heap.get?_push_of_some _ e) (Nat.le_refl _) ?_,rfl,q _ hf⟩;exact ⟨z,us,0,r,Heap.get?_push_size _ rfl⟩
end
noncomputable abbrev Sp:=List V->Hp->VK->XK->Prop
noncomputable abbrev CXT:=List Env->Hp->Shared->XK->Value->Shared->Prop
structure Env0(P:Program)(w:World)(K:PySem.W.Frag)(mg:Str->Option Value)(base:Heap)(A:Around)(outer:List Env)(s:Shared)(H:Hp):Prop where
 frames:A.frames=some outer
 mod:Mod K mg base
 bs:∀ b o,base.get? b=some o->s.heap.get? b=some o/\H b=none
 bsz:base.objs.size<=s.heap.objs.size
 funs:s.heap.FunFrames base outer
 frf:∀ b∈frs outer,H b=none
 hok:HOk P w H s.heap
 bare:AllBare s.gens
noncomputable def CE(outer:List Env)(P:Program)(w:World)(H:Hp)(s:Shared)(Q:VK)(u:Value)(s':Shared):Prop :=
 ∃ v H',s'.os=s.os/\AllBare s'.gens/\Un (frs outer) [] H H' s.heap s'.heap/\HOk P w H' s'.heap/\RelV v u/\Q v H'
noncomputable def CR(CX:CXT)(outer:List Env)(P:Program)(w:World)(H:Hp)(s:Shared)(Q:VK)(E:XK)(r:Result)(s':Shared):Prop :=
 match r with
 | .ok (.ret u)=>CE outer P w H s Q u s'
 | .ok _=>False
 | .error e=>CX outer H s E e s'
structure FnOk(P:Program)(w:World)(K:PySem.W.Frag)(mg:Str->Option Value)(base:Heap)(CX:CXT)(k:Nat)(f:Addr)(fd:FuncData)(ps:List Str)(sp:Sp):Prop where
 len:∀ vs H Q E,sp vs H Q E->vs.length=ps.length
 run:∀ (A:Around) (outer:List Env) (s:Shared) (H:Hp) (args:Args) (us:List Value) (vs:List V) (Q:VK) (E:XK),Room k A->Env0 P w K mg base A outer s H->BindsTo s fd args (ps.zip us)->Vals vs us->sp vs H Q E ->
  codeAny (model P w) A (.call (.ref f) args) (CR CX outer P w H s Q E) s
theorem Env0.make{P:Program}{w:World}{K:PySem.W.Frag}{mg:Str->Option Value}{base:Heap}{A:Around}{outer:List Env}{s:Shared}{H:Hp}(e:Env0 P w K mg base A outer s H)(C:Addr)(us:List Value)(kw:List (Str×Value)):
  Env0 P w K mg base (A.under (.builtin "type.__call__" ⟨.ref C :: us,kw⟩)) outer s H:=⟨by first | exact e.frames | (simpa [Around.under,Code.envs,Code.isFrame,pushEnvs] using e.frames),e.mod,e.bs,e.bsz,e.funs,e.frf,e.hok,e.bare⟩
section
variable{X:Cx}{pins:List (Addr×Obj)}{σ:St}{H:Hp}{s s':Shared}
theorem Inv.env0(I:Inv X pins σ H s):Env0 X.prog X.w X.K X.mg X.base X.A X.stack s H :=
 ⟨I.ok.frames,I.ok.mod,I.bs,Nat.le_trans I.ok.bsz I.sz,I.stack,I.stkFree,I.hok,I.bare⟩
theorem Inv.after{Q:VK}{u:Value}(I:Inv X pins σ H s)(h:CE X.stack X.prog X.w H s Q u s'):EP X pins σ Q u s':=by
 obtain ⟨v,H',os,bare,un,hok,r,q⟩:=h;obtain ⟨hh,g,d,t,os'⟩:=s';obtain rfl:os'=s.os:=os;exact ⟨v,H',I.call (h':=hh) (g':=g) (d':=d) (t':=t) (ch:=[]) un hok bare (λb z=>absurd z (by simp)),r,q⟩
end
noncomputable def k5_(sp:Sp)(dvs:List V)(E:XK)(t:TA):TE:=λσ H Q=>t σ H λvs H1=>sp (vs++dvs) H1 Q E
noncomputable def Binds(K:PySem.W.Frag)(fd:FuncData)(ps:List Str)(ds:List Value):Prop :=
 ∀ (s:Shared) (us:List Value),K.In s.heap->(us++ds).length=ps.length->BindsTo s fd ⟨us,[]⟩ (ps.zip (us++ds))
theorem Binds.all{K:PySem.W.Frag}{fd:FuncData}{ps:List Str}(h:∀ us:List Value,us.length=ps.length->bindArgs fd ⟨us,[]⟩=pure (ps.zip us)):Binds K fd ps []:=λs us _ hl=>by
 rw [List.append_nil] at hl ⊢;exact .of_eq (h us hl)
noncomputable def yQ_(CX:CXT)(X:Cx)(E:XK):Prop := ∀ (pins:List (Addr×Obj)) (σ:St) (H:Hp) (s:Shared) (e:Value) (s':Shared),Inv X pins σ H s->CX X.stack H s E e s'->X.xe e s'
section
variable{X:Cx}{CX:CXT}{k:Nat}{f C:Addr}{fd:FuncData}{ps:List Str}{sp:Sp}{dvs:List V}{ds:List Value}{E:XK}{x m:Str}{p pos apos:Pos}{e o:Expr}{es:List Expr}{ta:TE}{t:TA}
theorem mJ_{pins:List (Addr×Obj)}{σ:St}{H:Hp}{s:Shared}{Q:VK}{us:List Value}{vs:List V}(F:FnOk X.prog X.w X.K X.mg X.base CX k f fd ps sp)(hr:Room k X.A)(hb:Binds X.K fd ps ds)(hd:Vals dvs ds)(hx:yQ_ CX X E)
  (I:Inv X pins σ H s) (r:Vals vs us) (h:sp (vs++dvs) H Q E):wpAny (model X.prog X.w) X.A (call (.ref f) us) (EP X pins σ Q) X.xe s:=by
 have r2:Vals (vs++dvs) (us++ds):=r.append hd;have hl:(us++ds).length=ps.length:=by rw [<-r2.length];exact F.len _ _ _ _ h
 refine wpAny_call (codeAny_mono (F.run X.A X.stack s H ⟨us,[]⟩ (us++ds) (vs++dvs) Q E hr I.env0 (hb s us I.kIn hl) r2 h) λr s' hq => ?_);cases r with
 | error e=>exact hx pins σ H s e s' I hq
 | ok fl =>
  cases fl with
  | ret u=>exact I.after hq
  | next=>exact False.elim hq
  | brk=>exact False.elim hq
  | cont=>exact False.elim hq
theorem m1_(F:FnOk X.prog X.w X.K X.mg X.base CX k f fd ps sp)(hr:Room k X.A)(hg:Gl X x)(hm:X.mg x=some (.ref f))(hk:PySem.W.keepIn X.K (.ref f)=true)(hb:Binds X.K fd ps ds)(hd:Vals dvs ds)(hx:yQ_ CX X E)
  (ha:PA X (e :: es) t) (hdb:(x == ("__debug__" : Str))=false:=by decide) (he:starEach (e :: es) X.env=(false,eval e X.env) :: starEach es X.env:=by rfl) (hpl:(backTo pos (starEach es X.env)).any (·.1)=false:=by rfl) :
  PE X (.Call (.Name x p) (e :: es) [] pos) (k5_ sp dvs E t):=by
 intro pins s σ H Q I h;refine wpAny_Call_Name_kw (xw_ I hg hm ?_ hdb);refine PySem.W.callWith_K (h₀ := X.base) I.ok.mod.kin hk (thn (ha pos pins s σ H _ I h) λus s1 ⟨vs,H1,I1,r,q⟩=>⟨I1.kIn,?_⟩) he hpl;exact mJ_ F hr hb hd hx I1 r q
theorem pq_(F:FnOk X.prog X.w X.K X.mg X.base CX k f fd ps sp)(hr:Room k X.A)(hg:Gl X x)(hm:X.mg x=some (.ref f))(hk:PySem.W.keepIn X.K (.ref f)=true)(hb:Binds X.K fd ps ds)(hd:Vals dvs ds)(hx:yQ_ CX X E)
  (hdb:(x == ("__debug__" : Str))=false:=by decide):PE X (.Call (.Name x p) [] [] pos) (k5_ sp dvs E eC_):=by
 intro pins s σ H Q I h;refine wpAny_Call_Name_kw (xw_ I hg hm ?_ hdb);exact PySem.W.callWith_K0 I.kIn hk (mJ_ (us:=[]) F hr hb hd hx I .nil h)
structure Mk(K:PySem.W.Frag)(C f:Addr):Prop where
 makes:PySem.W.makesIn K C=true
 init:PySem.W.findIn K (.ref C) "__init__" = some (some (.ref f))
 fn:PySem.W.isFn K (.ref f)=true
 kp:PySem.W.keepIn K (.ref C)=true
end
noncomputable def PK(X:Cx)(kws:List Keyword)(t:TA):Prop :=
 ∀ (pos:Pos) (pins:List (Addr×Obj)) (s:Shared) (σ:St) (H:Hp) (Q:List V->Hp->Prop),Inv X pins σ H s->t σ H Q->wpAny (model X.prog X.w) X.A (evalAll ((backToKw pos (keywordEach kws X.env)).map (·.2))) (AP X pins σ Q) X.xe s
section
variable{X:Cx}{CX:CXT}{k:Nat}{f C:Addr}{fd:FuncData}{ps ks:List Str}{sp:Sp}{E:XK}{x m:Str}{p pos apos kpos:Pos}{e o:Expr}{es:List Expr}{kws:List Keyword}{te ta:TE}{t tk:TA}{nm:Option Str}
theorem i9_:PK X [] eC_:=λ_ _ _ _ H Q I h=>wpAny_evalAll_nil ⟨[],H,I,.nil,h⟩
theorem lh_(ha:PE X e te)(hr:PK X kws t):PK X (⟨nm,e,kpos⟩ :: kws) (jg_ te t):=by
 intro pos pins s σ H Q I h;show wpAny _ _ (evalAll ((do let v <- eval e X.env;standAt pos;pure v) :: (backToKw pos (keywordEach kws X.env)).map (·.2))) _ _ s
 refine wpAny_evalAll_cons (ZB (thn (ha pins s σ H _ I h) λu s1 ⟨x,H1,I1,r1,q1⟩=>ZB (wpAny_standAt (ZP ?_))));exact thn (hr pos pins s1 σ H1 _ I1 q1) λus s2 ⟨xs,H2,I2,r2,q2⟩=>⟨x :: xs,H2,I2,.cons r1 r2,q2⟩
structure KBinds(K:PySem.W.Frag)(fd:FuncData)(ps ks:List Str)(g:List Value->List Value->List Value)(gV:List V->List V->List V):Prop where
 to:∀ (s:Shared) (us ws:List Value),K.In s.heap->(g us ws).length=ps.length->BindsTo s fd ⟨us,ks.zip ws⟩ (ps.zip (g us ws))
 rel:∀ {vs:List V} {us:List Value} {zs:List V} {ws:List Value},Vals vs us->Vals zs ws->Vals (gV vs zs) (g us ws)
noncomputable def oY_(sp:Sp)(gV:List V->List V->List V)(E:XK)(t tk:TA):TE:=λσ H Q=>t σ H λvs H1=>tk σ H1 λzs H2=>sp (gV vs zs) H2 Q E
variable{g:List Value->List Value->List Value}{gV:List V->List V->List V}
theorem vE_{pins:List (Addr×Obj)}{σ:St}{H:Hp}{s:Shared}{Q:VK}{us ws:List Value}{vs zs:List V}(F:FnOk X.prog X.w X.K X.mg X.base CX k f fd ps sp)(hr:Room k X.A)(hb:KBinds X.K fd ps ks g gV)(hx:yQ_ CX X E)
  (I:Inv X pins σ H s) (r:Vals vs us) (rz:Vals zs ws) (h:sp (gV vs zs) H Q E):wpAny (model X.prog X.w) X.A (call (.ref f) us (ks.zip ws)) (EP X pins σ Q) X.xe s:=by
 have r2:=hb.rel r rz;have hl:(g us ws).length=ps.length:=by rw [<-r2.length];exact F.len _ _ _ _ h
 refine wpAny_call (codeAny_mono (F.run X.A X.stack s H ⟨us,ks.zip ws⟩ (g us ws) (gV vs zs) Q E hr I.env0 (hb.to s us ws I.kIn hl) r2 h) λr s' hq => ?_);cases r with
 | error e=>exact hx pins σ H s e s' I hq
 | ok fl =>
  cases fl with
  | ret u=>exact I.after hq
  | next=>exact False.elim hq
  | brk=>exact False.elim hq
  | cont=>exact False.elim hq
theorem pM_(F:FnOk X.prog X.w X.K X.mg X.base CX k f fd ps sp)(hr:Room k X.A)(hg:Gl X x)(hm:X.mg x=some (.ref f))(hk:PySem.W.keepIn X.K (.ref f)=true)(hb:KBinds X.K fd ps ks g gV)(hx:yQ_ CX X E)
  (ha:PA X (e :: es) t) (hkw:PK X kws tk) (hall:(backToKw pos (keywordEach kws X.env)).all (·.1.isSome)=true:=by rfl) (hks:(backToKw pos (keywordEach kws X.env)).filterMap (·.1)=ks:=by rfl)
  (hdb:(x == ("__debug__" : Str))=false:=by decide) (he:starEach (e :: es) X.env=(false,eval e X.env) :: starEach es X.env:=by rfl)
  (hpl:((backTo pos (starEach (e :: es) X.env)).any (·.1) || (backToKw pos (keywordEach kws X.env)).any (·.1.isNone))=false:=by rfl) :
  PE X (.Call (.Name x p) (e :: es) kws pos) (oY_ sp gV E t tk):=by
 intro pins s σ H Q I h;refine wpAny_Call_Name_kw (xw_ I hg hm ?_ hdb);refine PySem.W.callWith_KW (h₀ := X.base) I.ok.mod.kin hk hall (thn (ha pos pins s σ H _ I h) λus s1 ⟨vs,H1,I1,r,q⟩ => ?_) hpl he;refine thn (hkw pos pins s1 σ H1 _ I1 q) λws s2 ⟨zs,H2,I2,rz,q2⟩=>⟨I2.kIn,?_⟩;rw [hks];exact vE_ F hr hb hx I2 r rz q2
end
structure FnScope(N P:List Str)(sc:Scope):Prop where
 kind:sc.kind=.function
 co:sc.isCoroutine=false
 gen:sc.isGenerator=false
 nd:N.Nodup
 pre:N.take P.length=P
 par:∀ x∈P,sc.names.lookup x=some .local\/sc.names.lookup x=some .cell
 nofree:∀ y∈sc.names,y.2 ≠ .free
theorem uq_{kindOf:Str->Option NameKind}{x:Str}:∀ {binds:List (Str×Value)} {m:Str->Option Value},(∀ v,(x,v) ∉ binds)->bindL kindOf binds m x=m x
 | [],_,_=>rfl
 | (n,v) :: r,m,h=>by
  unfold bindL;rw [uq_ λw hw=>h w (List.mem_cons_of_mem _ hw)];split
  .have:x≠n:=by rintro rfl;exact h v List.mem_cons_self
   simp [this]
  .rfl
theorem ub_{kindOf:Str->Option NameKind}{x:Str}:∀ {binds:List (Str×Value)} {m:Str->Option Value},(∀ v,(x,v) ∉ binds)->bindC kindOf binds m x=m x
 | [],_,_=>rfl
 | (n,v) :: r,m,h=>by
  unfold bindC;rw [ub_ λw hw=>h w (List.mem_cons_of_mem _ hw)];split
  .rfl
  .have:x≠n:=by rintro rfl;exact h v List.mem_cons_self
   simp [this]
theorem uB_{kindOf:Str->Option NameKind}{x:Str}{v:Value}:∀ {P:List Str} {vs:List Value} {i:Nat} {m:Str->Option Value},P.Nodup->P[i]? = some x->vs[i]? = some v->kindOf x=some .local ->
  bindL kindOf (P.zip vs) m x=some v
 | [],_,_,_,_,h,_,_=>by simp at h
 | _ :: _,[],_,_,_,_,h,_=>by simp at h
 | p :: P,w :: vs,0,m,nd,h1,h2,hk=>by
  simp at h1 h2;subst h1;subst h2;show bindL kindOf ((p,w) :: P.zip vs) m p=_;unfold bindL;rw [uq_ λv hv=>(List.nodup_cons.mp nd).1 (List.of_mem_zip hv).1,if_pos hk];simp
 | p :: P,w :: vs,i+1,m,nd,h1,h2,hk=>by
  show bindL kindOf ((p,w) :: P.zip vs) m x=_;unfold bindL;exact uB_ (i:=i) (List.nodup_cons.mp nd).2 (by simpa using h1) (by simpa using h2) hk
theorem uk_{kindOf:Str->Option NameKind}{x:Str}{v:Value}:∀ {P:List Str} {vs:List Value} {i:Nat} {m:Str->Option Value},P.Nodup->P[i]? = some x->vs[i]? = some v->kindOf x≠some .local ->
  bindC kindOf (P.zip vs) m x=some v
 | [],_,_,_,_,h,_,_=>by simp at h
 | _ :: _,[],_,_,_,_,h,_=>by simp at h
 | p :: P,w :: vs,0,m,nd,h1,h2,hk=>by
  simp at h1 h2;subst h1;subst h2;show bindC kindOf ((p,w) :: P.zip vs) m p=_;unfold bindC;rw [ub_ λv hv=>(List.nodup_cons.mp nd).1 (List.of_mem_zip hv).1,if_neg hk];simp
 | p :: P,w :: vs,i+1,m,nd,h1,h2,hk=>by
  show bindC kindOf ((p,w) :: P.zip vs) m x=_;unfold bindC;exact uk_ (i:=i) (List.nodup_cons.mp nd).2 (by simpa using h1) (by simpa using h2) hk
noncomputable def start(N:List Str)(vs:List V):St:=vs.map some++List.replicate (N.length - vs.length) none
noncomputable def kW_(CX:CXT)(P:Program)(w:World)(K:PySem.W.Frag)(mg:Str->Option Value)(base:Heap)(N:List Str)(qual:Str)(scope:Scope)(f:Addr)(cd:Value)(A:Around)(outer:List Env)(s:Shared)(H:Hp)(E:XK):Cx where
 prog:=P
 w:=w
 K:=K
 mg:=mg
 base:=base
 A:=A.deeper (envOfC qual scope s.heap.objs.size f cd)
 N:=N
 s₀ := s
 H₀ := H
 env:=envOfC qual scope s.heap.objs.size f cd
 outer:=outer
 stack:=envOfC qual scope s.heap.objs.size f cd :: outer
 ex:=[]
 calm:=true
 fn:=λ_=>true
 pn:=[]
 xe:=λe s'=>wpAny (model P w) (A.deeper (envOfC qual scope s.heap.objs.size f cd)) (leaving (envOfC qual scope s.heap.objs.size f cd) e) (λ_ s''=>CX outer H s E e s'') (λe' s''=>CX outer H s E e' s'') s'
theorem sp_{sc:Scope}{n:Nat}{x:Str}(h:sc.names.lookup x=some .cell):∃ c,(cellsFrom n sc.names []).lookup x=some c:=by
 have q:=PySem.W.cellsFrom_some sc.names n [] (.inl h);exact Option.isSome_iff_exists.mp q
theorem rU_{CX:CXT}{P:Program}{w:World}{K:PySem.W.Frag}{mg:Str->Option Value}{base:Heap}{N ps:List Str}{qual:Str}{scope:Scope}{f:Addr}{cd:Value}{A:Around}{outer:List Env}{s s1:Shared}{H:Hp}{E:XK}{us:List Value}{vs:List V}
  (S:FnScope N ps scope) (hd:A.handled=none) (e0:Env0 P w K mg base A outer s H) (hl:vs.length=ps.length) (r:Vals vs us)
  (x:InCallC s s.heap.objs.size (bindL (envOfC qual scope s.heap.objs.size f cd).kindOf (ps.zip us) λ_=>none) (cellsFrom (s.heap.objs.size+1) scope.names []) (bindC (envOfC qual scope s.heap.objs.size f cd).kindOf (ps.zip us) λ_=>none) s1) :
  Inv (kW_ CX P w K mg base N qual scope f cd A outer s H E) [] (start N vs) H s1:=by
 have hpl:ps.length<=N.length:=by have:=congrArg List.length S.pre;rw [List.length_take] at this;omega
 obtain ⟨h1,tk,rfl,hk⟩:=x.done;have noA:∀ b:Addr,b ∉ (kW_ CX P w K mg base N qual scope f cd A outer s H E).ex:=λb z=>absurd (show b∈([]:List Addr) from z) (by simp)
 refine ⟨⟨e0.mod,S.kind,rfl,rfl,Nat.le_refl _,λy z c h1 h2 => ?_,λy hy => ?_,λy c _ h => ?_,λ_=>hd,Around.frames_deeper e0.frames,.inr ⟨rfl,rfl⟩,λb z=>absurd z (noA b),e0.bs,e0.bsz,λb _ _=>noA b,λb z=>absurd z (noA b),e0.funs,e0.frf⟩,
  rfl,e0.bare,Un.kept hk,⟨_,x.toInCall.ns,λi y v h1 h2 h3 => ?_⟩,λy c h=>⟨_,x.cell y c h⟩,e0.hok.fresh (Nat.le_refl _),λy c h => ?_,λp hp=>absurd (show p∈([]:List (Addr×Obj)) from hp) (by simp),e0.hok.kept hk,?_⟩
 .exact name_of_addr x.apart (PySem.mem_of_lookup h1) (PySem.mem_of_lookup h2)
 .have hy:scope.names.lookup y=some .cell\/scope.names.lookup y=some .free:=hy
  rcases hy with hy | hy
  .exact sp_ hy
  .exact absurd rfl (S.nofree _ (PySem.mem_of_lookup hy))
 .exact Nat.le_of_lt (x.above y c (PySem.mem_of_lookup h))
 .have hi:i < vs.length:=by
   unfold start at h2;by_cases hi:i < vs.length
   .exact hi
   .rw [List.getElem?_append_right (by simpa using hi)] at h2
    rw [List.getElem?_replicate] at h2;split at h2 <;> cases h2
  have ha:vs[i]? = some v:=by
   unfold start at h2;rw [List.getElem?_append_left (by simpa using hi),List.getElem?_map] at h2
   cases e:vs[i]? with
   | none=>rw [e] at h2;cases h2
   | some a=>rw [e] at h2;cases h2;rfl
  obtain ⟨u,hu,rv⟩:=r.get ha;have hp:ps[i]? = some y:=by
   rw [<-S.pre,List.getElem?_take_of_lt (by omega)];exact h1
  have ndP:ps.Nodup:=by rw [<-S.pre];exact S.nd.sublist (List.take_sublist _ _)
  refine ⟨u,rv,?_⟩;rcases S.par y (List.mem_of_getElem? hp) with k | k
  .exact .inl ⟨k,uB_ ndP hp hu k⟩
  .obtain ⟨c,e⟩:=sp_ (n:=s.heap.objs.size+1) k
   refine .inr ⟨.inl k,c,e,?_⟩;have q:=x.cell y c e;rw [uk_ ndP hp hu (by show scope.names.lookup y≠_;rw [k];decide)] at q
   exact q
 .exact e0.hok.fresh (Nat.le_of_lt (x.above y c (PySem.mem_of_lookup h)))
 .unfold start
  show _=N.length;rw [List.length_append,List.length_map,List.length_replicate];omega
theorem dy_{CX:CXT}{P:Program}{w:World}{K:PySem.W.Frag}{mg:Str->Option Value}{base:Heap}{k:Nat}{f:Addr}{name qual:Str}{params:Arguments}{body:List Stmt}{scope:Scope}{dV kV doc pm cdv ct oc:Value}{an od:Option Addr}
  {osl:Array (Option Value)} {N ps:List Str} {sp:Sp} (lk:K.lookup f=some ⟨oc,od,.func (PySem.W.fnOf name qual params body scope dV kV doc pm an cdv ct),osl⟩) (hcd:PySem.W.codeIn K cdv qual=true) (S:FnScope N ps scope)
  (len:∀ vs H Q E,sp vs H Q E->vs.length=ps.length)
  (hbody:∀ (A:Around) (outer:List Env) (s:Shared) (H:Hp) (vs:List V) (Q:VK) (E:XK),Room k (A.deeper (envOfC qual scope s.heap.objs.size f cdv))->sp vs H Q E ->
   ∃ t,PSs (kW_ CX P w K mg base N qual scope f cdv A outer s H E) body t/\t { nx:=λ_ H'=>Q .non H',rt:=Q } (start N vs) H) :
  FnOk P w K mg base CX (k+1) f (PySem.W.fnOf name qual params body scope dV kV doc pm an cdv ct) ps sp:=by
 refine ⟨len,λA outer s H args us vs Q E hr e0 hb r hsp => ?_⟩;have hl:=len _ _ _ _ hsp;have KX:K.In s.heap:=e0.mod.kin.keeps λb o e=>(e0.bs b o e).1;have lim:s.heap.NoLimit:=e0.mod.nolimit.keeps λb o e=>(e0.bs b o e).1;have hkind:∀ y∈ps.zip us,scope.names.lookup y.1=some .local\/(scope.names.lookup y.1=some .cell/\((cellsFrom (s.heap.objs.size+1) scope.names []).lookup y.1).isSome=true):=λ⟨n,v⟩ hy=>by
  rcases S.par n (List.of_mem_zip hy).1 with q | q
  .exact .inl q
  .exact .inr ⟨q,PySem.W.cellsFrom_some _ _ _ (.inl q)⟩
 refine codeAny_call_function hr.depth (KX _ _ lk) rfl S.co S.gen rfl (PySem.W.codeRec_of KX hcd) (hb _ _ _ _ ?_);refine wpAny_newFunctionEnv_cells S.kind hkind λenv he s1 x => ?_;subst he;refine ⟨lim.keeps x.toInCall.keep,codeAny_func ?_⟩;obtain ⟨t,ht,hq⟩:=hbody A outer s H vs Q E (hr.deeper _) hsp;have I:Inv (kW_ CX P w K mg base N qual scope f cdv A outer s H E) [] (start N vs) H s1:=rU_ S hr.hd e0 hl r x;refine wpAny_mono (ht [] s1 (start N vs) H _ I hq) (λfl s' hs => ?_) λe s' hs=>hs;have fin:∀ {σ':St} {H':Hp} {v:V} {u:Value},Inv (kW_ CX P w K mg base N qual scope f cdv A outer s H E) [] σ' H' s'->RelV v u->Q v H'->CE outer P w H s Q u s' :=
  λ{σ' H' v u} J rv q=>⟨v,H',J.os,J.bare,J.base,J.hok,rv,q⟩
 cases fl with
 | ret u =>
  obtain ⟨v,σ',H',J,rv,q⟩:=hs;exact fin J rv q
 | next =>
  obtain ⟨σ',H',J,q⟩:=hs;exact fin (v:=V.non) (u:=Value.none) J rfl q
 | brk =>
  obtain ⟨_,_,_,q⟩:=hs;exact False.elim q
 | cont =>
  obtain ⟨_,_,_,q⟩:=hs;exact False.elim q
end L2
namespace L2
open PySem PySem.Spec PyProof.Rows
section
variable{X:Cx}{x:Str}{p pos:Pos}{e:Expr}{es:List Expr}{t:TA}{id T:String}{r:List V->Hp->VK->Prop}
noncomputable def tCB(r:List V->Hp->VK->Prop)(t:TA):TE:=λσ H Q=>t σ H λvs H1=>r vs H1 Q
theorem pe_callB(hc:CallR X (.builtin id) r)(hg:Gl X x)(hm:X.mg x=none)(hv:bootBuiltins x=some (.builtin id))(ha:PA X (e :: es) t)(hn:x ≠ "__name__" := by decide)(hdb:(x == ("__debug__" : Str))=false:=by decide)
  (he:starEach (e :: es) X.env=(false,eval e X.env) :: starEach es X.env:=by rfl) (hpl:(backTo pos (starEach es X.env)).any (·.1)=false:=by rfl):PE X (.Call (.Name x p) (e :: es) [] pos) (tCB r t):=by
 intro pins s σ H Q I h;refine wpAny_Call_Name_kw (vk_ I hg hm hv ?_ hn hdb);exact PyProof.Rows.callWith_builtin1 (thn (ha pos pins s σ H _ I h) λus s1 ⟨vs,H1,I1,r1,q1⟩=>hc pins s1 σ H1 vs us Q I1 r1 q1) he hpl
theorem pe_callTy(hc:CallR X (.type T) r)(hg:Gl X x)(hm:X.mg x=none)(hv:bootBuiltins x=some (.type T))(ha:PA X (e :: es) t)(hn:x ≠ "__name__" := by decide)(hdb:(x == ("__debug__" : Str))=false:=by decide)
  (he:starEach (e :: es) X.env=(false,eval e X.env) :: starEach es X.env:=by rfl) (hpl:(backTo pos (starEach es X.env)).any (·.1)=false:=by rfl):PE X (.Call (.Name x p) (e :: es) [] pos) (tCB r t):=by
 intro pins s σ H Q I h;refine wpAny_Call_Name_kw (vk_ I hg hm hv ?_ hn hdb);exact PyProof.Rows.callWith_type1 (thn (ha pos pins s σ H _ I h) λus s1 ⟨vs,H1,I1,r1,q1⟩=>hc pins s1 σ H1 vs us Q I1 r1 q1) he hpl
end
end L2
namespace HT
open PySem PyProof.Rows
section
open PySem.SeqAt
open PySem.AutoSeq1 (wpAny_loadPart')
open PySem.MeetsSeq PySem.MeetsSeq2 PySem.MeetsSeq3
end
section
variable{prog:Program}{w:World}{A:Around}{E:Value->Shared->Prop}{s:Shared}
noncomputable def sIx(n d:Nat):Option Int->Nat
 | none=>d
 | some v=>if v < 0 then (v+(n:Int)).toNat else min v.toNat n
theorem gV_(n d:Nat)(hd:d<=n)(o:Option Int):sIx n d o<=n:=by
 cases o with
 | none=>exact hd
 | some v =>
  show (if v < 0 then (v+(n:Int)).toNat else min v.toNat n)<=n
  by_cases hv:v < 0
  .rw [if_pos hv];omega
  .rw [if_neg hv];exact Nat.min_le_right _ _
theorem qe_(v:Int)(n d:Nat):(if v < 0 then max (v+(n:Int)) 0 else min v (n:Int))=((sIx n d (some v):Nat):Int):=by
 show (if v < 0 then max (v+(n:Int)) 0 else min v (n:Int))=(((if v < 0 then (v+(n:Int)).toNat else min v.toNat n):Nat):Int)
 by_cases hv:v < 0
 .simp only [if_pos hv];omega
 .simp only [if_neg hv];omega
theorem s1_(lo hi:Option Int)(n:Nat):Builtin.Slice.sliceAdjust lo hi 1 (n:Int)=(((sIx n 0 lo:Nat):Int),((sIx n n hi:Nat):Int)):=by
 have h1 : ¬ ((1:Int) < 0):=by omega
 unfold Builtin.Slice.sliceAdjust;simp only [h1,if_false];refine Prod.ext ?_ ?_
 .cases lo with
  | none=>rfl
  | some v=>exact qe_ v n 0
 .cases hi with
  | none=>rfl
  | some v=>exact qe_ v n n
theorem sr_(i j:Nat):Builtin.Slice.slicePlaces (i:Int) (j:Int) 1=j - i:=by
 unfold Builtin.Slice.slicePlaces;have h1:(1:Int) > 0:=by omega
 simp only [h1,if_true,Int.ediv_one];split <;> omega
theorem vc_{v:Value}{o:Option Int}{Q:Option Int->Shared->Prop}(p:IsPart v o)(h:Q o s):wpAny (model prog w) A (Builtin.Slice.slicePartIndex v) Q E s:=by
 cases p with
 | none=>exact slicePart_none h
 | int i t=>exact slicePart_int h
theorem x7_{sl:Addr}{vl vu:Value}{lo hi:Option Int}{n:Nat}{Q:Int×Int×Nat->Shared->Prop}(hs:s.heap.IsSliceOf sl vl vu .none)(pl:IsPart vl lo)(pu:IsPart vu hi)
  (h:Q (((sIx n 0 lo:Nat):Int),1,sIx n n hi - sIx n 0 lo) s):wpAny (model prog w) A (Builtin.Slice.sliceApplied (.ref sl) (pure (n:Int))) Q E s:=by
 obtain ⟨os,hos,hcs,hds⟩:=id hs;unfold Builtin.Slice.sliceApplied Builtin.Slice.sliceFields;refine ZB (ZB (wpAny_field hos hds (x:=vl) rfl (ZB (wpAny_field hos hds (x:=vu) rfl (ZB (wpAny_field hos hds (x := .none) rfl (ZP ?_)))))));refine ZB (slicePart_none ?_);show wpAny _ _ (if ((1:Int) == 0)=true then _ else _) _ _ s
 rw [if_neg (by decide)]
 refine ZB (vc_ pl (ZB (vc_ pu (ZB (ZP ?_)))));show wpAny _ _ (match Builtin.Slice.sliceAdjust lo hi 1 (n:Int) with | (lo,hi)=>pure (lo,(1:Int),Builtin.Slice.slicePlaces lo hi 1)) _ _ s
 rw [s1_ lo hi n];show wpAny _ _ (pure (((sIx n 0 lo:Nat):Int),(1:Int),Builtin.Slice.slicePlaces ((sIx n 0 lo:Nat):Int) ((sIx n n hi:Nat):Int) 1)) _ _ s;rw [sr_];exact ZP h
theorem pA_(xs:Array Value)(i k:Nat):((List.range k).filterMap λ(m:Nat)=>xs[((i:Int)+(m:Int)*1).toNat]?).toArray=((xs.toList.drop i).take k).toArray:=by
 have e:(λ(m:Nat)=>xs[((i:Int)+(m:Int)*1).toNat]?)=λm=>xs[i+m]? := by
  funext m;have:((i:Int)+(m:Int)*1).toNat=i+m:=by omega
  rw [this]
 rw [e];have:=pick_run xs i k;rw [List.filterMap_map] at this;have e2:((λx=>xs[x]?) ∘ λx=>i+x)=λm=>xs[i+m]? := rfl;rw [e2] at this;rw [this]
theorem getItem_tuple_cut{t sl:Addr}{items:Array Value}{vl vu:Value}{lo hi:Option Int}{Q:Value->Shared->Prop}(ht:IsTup s.heap t items)(hs:s.heap.IsSliceOf sl vl vu .none)(pl:IsPart vl lo)(pu:IsPart vu hi)
  (hw : ¬ (sIx items.size 0 lo=0/\sIx items.size items.size hi=items.size))
  (h:Q (.ref s.heap.objs.size) { s with heap:=s.heap.push { cls := .type "tuple",data := .seq ((items.toList.drop (sIx items.size 0 lo)).take (sIx items.size items.size hi - sIx items.size 0 lo)).toArray } })
  (hsz:items.size<=sizeLine):wpAny (model prog w) A (getItem (.ref t) (.ref sl)) Q E s:=by
 have htake:sizeOk (.seq ((items.toList.drop (sIx items.size 0 lo)).take (sIx items.size items.size hi - sIx items.size 0 lo)).toArray):=by
  show ((items.toList.drop (sIx items.size 0 lo)).take (sIx items.size items.size hi - sIx items.size 0 lo)).toArray.size<=sizeLine;rw [List.size_toArray,List.length_take,List.length_drop,Array.length_toList];omega
 have hj:sIx items.size items.size hi<=items.size:=gV_ _ _ (Nat.le_refl _) hi;obtain ⟨os,hos,hcs,hds⟩:=id hs;have hTs:s.TypeIs (.ref sl) "slice" := ⟨os,hos,hcs⟩;unfold getItem
 try with_reducible refine wpAny_holding ?_
 first | refine ZB (ZP ?_) | skip
 refine ZB (wpAny_sequenceKey ht.typeIs (by decide) ?_)
 refine ZB (wpAny_callSpecial?_slot (name:=Str.ofString "__getitem__") ht.typeIs PyProof.Rows.slot_tuple_getitem
  (wpAny_call_entry PyProof.Rows.slot_tuple_getitem ht.typeIs entry_tuple_getitem ?_ (args_tuple_getitem _ _)))
 show wpAny _ _ (Builtin.Tuple.tupleItemsOf (.ref t) >>= _) _ _ s;refine ZB (tupleItemsOf_ ht ?_);refine ZB (wpAny_typeOf hTs ?_);rw [if_pos (by decide)]
 refine ZB (x7_ hs pl pu ?_);have hno : ¬ ((((sIx items.size 0 lo:Nat):Int) == 0 && (1:Int) == 1 && (sIx items.size items.size hi - sIx items.size 0 lo) == items.size)=true):=by
  intro q;rw [Bool.and_eq_true,Bool.and_eq_true] at q;have q1:((sIx items.size 0 lo:Nat):Int)=0:=eq_of_beq q.1.1;have q2:sIx items.size items.size hi - sIx items.size 0 lo=items.size:=eq_of_beq q.2;exact hw ⟨by omega,by omega⟩
 show wpAny _ _ (if (((sIx items.size 0 lo:Nat):Int) == 0 && (1:Int) == 1 && (sIx items.size items.size hi - sIx items.size 0 lo) == items.size)=true then _ else _) _ _ s
 rw [if_neg hno,pA_]
 first
  | exact ZB (m:=Builtin.Tuple.tupleExact _) (wpAny_newObj_type (ZP ⟨_,rfl,ZP h⟩) htake)
  | exact ZB (m:=Builtin.Tuple.tupleExact _) (wpAny_newObj_type (ZB (ZP (ZP ⟨_,rfl,ZP h⟩))) htake)
  | exact ZB (ZB (m:=Builtin.Tuple.tupleExact _) (wpAny_newObj_type (ZP (ZP ⟨_,rfl,ZP h⟩)) htake))
  | exact ZB (ZB (m:=Builtin.Tuple.tupleExact _) (wpAny_newObj_type (ZP ⟨_,rfl,ZP h⟩) htake))
end
end HT
namespace L2
open PySem PySem.Spec PyProof.Rows
noncomputable abbrev TO:=St->Hp->(Option Int->Hp->Prop)->Prop
noncomputable def PO(X:Cx)(e:Option Expr)(t:TO):Prop :=
 ∀ (pins:List (Addr×Obj)) (s:Shared) (σ:St) (H:Hp) (Q:Option Int->Hp->Prop),Inv X pins σ H s->t σ H Q ->
  wpAny (model X.prog X.w) X.A (evalPart e X.env) (λu s' => ∃ o H',Inv X pins σ H' s'/\IsPart u o/\Q o H') X.xe s
noncomputable def lr_:TO:=λ_ H Q=>Q none H
noncomputable def cO_(t:TE):TO:=λσ H Q=>t σ H λx H1 => ∃ i,x=.int i/\Q (some i) H1
section
variable{X:Cx}{e:Expr}{te:TE}{lo hi:Option Expr}{tl th:TO}{pos p2:Pos}
theorem ks_:PO X none lr_:=by
 intro pins s σ H Q I h;rw [evalPart_none];exact ZP ⟨none,H,I,.none,h⟩
theorem lK_(h:PE X e te):PO X (some e) (cO_ te):=by
 intro pins s σ H Q I hw;rw [evalPart_some];refine thn (h pins s σ H _ I hw) λu s1 ⟨x,H1,I1,r1,q1⟩ => ?_;obtain ⟨i,rfl,q⟩:=q1;obtain ⟨t,rfl⟩:=r1;exact ⟨some i,H1,I1,.int i t,q⟩
noncomputable def SlR(X:Cx)(r:V->Option Int->Option Int->Hp->VK->Prop):Prop :=
 ∀ (pins:List (Addr×Obj)) (s:Shared) (σ:St) (H:Hp) (x:V) (v vl vu:Value) (lo hi:Option Int) (sl:Addr) (Q:VK),Inv X pins σ H s->RelV x v->s.heap.IsSliceOf sl vl vu .none->IsPart vl lo->IsPart vu hi->r x lo hi H Q ->
  ∃ T id,typeLookup (.type T) "__getitem__" = pure (some (.builtin id))/\s.TypeIs v T/\wpAny (model X.prog X.w) X.A (getItem v (.ref sl)) (EP X pins σ Q) X.xe s
theorem SlR.or{r r':V->Option Int->Option Int->Hp->VK->Prop}(h:SlR X r)(h':SlR X r'):SlR X (λx lo hi H Q=>r x lo hi H Q\/r' x lo hi H Q):=by
 intro pins s σ H x v vl vu lo hi sl Q I rx hs pl pu q;rcases q with q | q
 .exact h pins s σ H x v vl vu lo hi sl Q I rx hs pl pu q
 .exact h' pins s σ H x v vl vu lo hi sl Q I rx hs pl pu q
noncomputable def tSl(r:V->Option Int->Option Int->Hp->VK->Prop)(te:TE)(tl th:TO):TE:=λσ H Q=>te σ H λx H1=>tl σ H1 λl H2=>th σ H2 λu H3=>r x l u H3 Q
theorem po_{r:V->Option Int->Option Int->Hp->VK->Prop}(hr:SlR X r)(he:PE X e te)(hl:PO X lo tl)(hu:PO X hi th):PE X (.Subscript e (.Slice lo hi none p2) pos) (tSl r te tl th):=by
 intro pins s σ H Q I h;refine Subscript_ (thn (he pins s σ H _ I h) λv s1 ⟨x,H1,I1,r1,q1⟩ => ?_);refine wpAny_Slice (thn (hl pins s1 σ H1 _ I1 q1) λvl s2 ⟨l,H2,I2,pl,q2⟩=>thn (hu pins s2 σ H2 _ I2 q2) λvu s3 ⟨u,H3,I3,pu,q3⟩ => ?_);rw [evalPart_none];refine ZP ?_;have I4:Inv X pins σ H3 { s3 with heap:=s3.heap.push { cls := .type "slice",data := .fields #[vl,vu,.none] } }:=I3.kept (t':=s3.toks) λb ob q=>Heap.get?_push_of_some _ q
 obtain ⟨T,id,hT,ht,hg⟩:=hr pins { s3 with heap:=s3.heap.push { cls := .type "slice",data := .fields #[vl,vu,.none] } } σ H3 x v vl vu l u s3.heap.objs.size Q I4 r1 (Heap.IsSliceOf.new ..) pl pu q3
 show wpAny (model X.prog X.w) X.A (subscriptTail e (.Slice lo hi none p2) v (.ref s3.heap.objs.size)) (EP X pins σ Q) X.xe { s3 with heap:=s3.heap.push { cls := .type "slice",data := .fields #[vl,vu,.none] } }
 exact tail_any (ops:=[.ref s3.heap.objs.size,v]) ht hT hg (by with_unfolding_all rfl)
noncomputable def mr_(xs:List V)(lo hi:Option Int):List V:=(xs.drop (HT.sIx xs.length 0 lo)).take (HT.sIx xs.length xs.length hi - HT.sIx xs.length 0 lo)
theorem wn_(xs:List V)(lo hi:Option Int):(mr_ xs lo hi).length<=xs.length:=by
 unfold mr_;rw [List.length_take,List.length_drop];omega
noncomputable def ay_(K:PySem.W.Frag):V->Option Int->Option Int->Hp->VK->Prop:=λx lo hi H Q => ∃ a xs,x=.ref a/\SqT K H a xs /\
 ¬ (HT.sIx xs.length 0 lo=0/\HT.sIx xs.length xs.length hi=xs.length) /\ ∀ p,H p=none->Q (.ref p) (upd H p (.tup (mr_ xs lo hi)))
theorem fK_:SlR X (ay_ X.K):=by
 intro pins s σ H x v vl vu lo hi sl Q I rx hs pl pu h;obtain ⟨a,xs,rfl,hx,hw,q⟩:=h;cases rx;obtain ⟨its,r,ht,hz⟩:=I.tuple hx;have hlen:its.toArray.size=xs.length:=by rw [List.size_toArray];exact r.length.symm
 refine ⟨"tuple",_,PyProof.Rows.slot_tuple_getitem.lookup,ht.typeIs,?_⟩;refine HT.getItem_tuple_cut ht hs pl pu (by rw [hlen];exact hw) ?_ (by rw [hlen];exact hz)
 rw [hlen];refine ⟨.ref s.heap.objs.size,_,I.laid (t':=s.toks) (o := .tup (mr_ xs lo hi)) (λb ob q=>Heap.get?_push_of_some _ q) (Nat.le_refl _) ?_,rfl,q _ (I.hok.fresh (Nat.le_refl _))⟩;exact ⟨Nat.le_trans (wn_ xs lo hi) hz,_,(r.drop (HT.sIx xs.length 0 lo)).take (HT.sIx xs.length xs.length hi - HT.sIx xs.length 0 lo),IsTup.new _ _⟩
end
end L2
namespace L2
open PySem PySem.Spec PyProof.Rows
noncomputable def ixN(n:Nat)(i:Int):Option Nat:=if 0<=i then (if i < n then some i.toNat else none) else if -(n:Int)<=i then some (i+n).toNat else none
noncomputable def atI{α:Type}(xs:List α)(i:Int):Option α:=(ixN xs.length i).bind λj=>xs[j]?
theorem qu_{n:Nat}{i:Int}{j:Nat}(h:ixN n i=some j):seqIndex? i n=some j/\j < n /\ -(n:Int)<=i/\i < n:=by
 unfold ixN at h;by_cases h0:0<=i
 .rw [if_pos h0] at h
  by_cases h1:i < n
  .rw [if_pos h1] at h
   have e:i.toNat=j:=Option.some.inj h;exact ⟨by rw [seqIndex_of h0 h1,e],by omega,by omega,h1⟩
  .rw [if_neg h1] at h;cases h
 .rw [if_neg h0] at h
  by_cases h1 : -(n:Int)<=i
  .rw [if_pos h1] at h
   have e:(i+n).toNat=j:=Option.some.inj h;exact ⟨by rw [seqIndex_neg (by omega) h1,e],by omega,h1,by omega⟩
  .rw [if_neg h1] at h;cases h
theorem rt_{α:Type}{xs:List α}{i:Int}{v:α}(h:atI xs i=some v):∃ j,seqIndex? i xs.length=some j/\xs[j]? = some v/\j < xs.length /\ -(xs.length:Int)<=i/\i < xs.length:=by
 unfold atI at h;cases e:ixN xs.length i with
 | none=>rw [e] at h;cases h
 | some j =>
  rw [e] at h;obtain ⟨h1,h2,h3,h4⟩:=qu_ e;exact ⟨j,h1,h,h2,h3,h4⟩
noncomputable def ti_(b:Expr):Prop := ∀ o i,subscripted b false o i=operate [o,i] (getItem o i)
noncomputable def IxR(X:Cx)(r:R2):Prop :=
 ∀ (value slice:Expr) (pins:List (Addr×Obj)) (s:Shared) (σ:St) (H:Hp) (x y:V) (v u:Value) (Q:VK),Inv X pins σ H s->RelV x v->RelV y u->r x y H Q ->
  subscripted slice false v u=operate [v,u] (getItem v u)->wpAny (model X.prog X.w) X.A (subscriptTail value slice v u) (EP X pins σ Q) X.xe s
noncomputable def MtR(X:Cx)(id:String)(r:V->List V->Hp->VK->Prop):Prop :=
 ∀ (pins:List (Addr×Obj)) (s:Shared) (σ:St) (H:Hp) (x:V) (xs:List V) (v:Value) (us:List Value) (Q:VK),Inv X pins σ H s->RelV x v->Vals xs us->r x xs H Q ->
  wpAny (model X.prog X.w) X.A (call (.builtin id) (v :: us)) (EP X pins σ Q) X.xe s
section
variable{X:Cx}{a b:Expr}{ta tb:TE}{pos:Pos}
theorem IxR.or{r r':R2}(h:IxR X r)(h':IxR X r'):IxR X (λx y H Q=>r x y H Q\/r' x y H Q):=by
 intro value slice pins s σ H x y v u Q I rx ry q hs;rcases q with q | q
 .exact h value slice pins s σ H x y v u Q I rx ry q hs
 .exact h' value slice pins s σ H x y v u Q I rx ry q hs
theorem ez_{r:R2}(hr:IxR X r)(ha:PE X a ta)(hb:PE X b tb)(hs:ti_ b):PE X (.Subscript a b pos) (tOp r ta tb):=by
 intro pins s σ H Q I h;exact Subscript_ (eP_ ha hb I h λv u s2 x y H2 I2 rx ry q=>hr a b pins s2 σ H2 x y v u Q I2 rx ry q (hs _ _))
noncomputable def ak_(K:PySem.W.Frag):R2:=λx y H Q => ∃ p xs i v,x=.ref p/\y=.int i/\SqL K H p xs/\atI xs i=some v/\Q v H
noncomputable def bX_(K:PySem.W.Frag):R2:=λx y H Q => ∃ p xs i v,x=.ref p/\y=.int i/\SqT K H p xs/\atI xs i=some v/\Q v H
theorem kE_:IxR X (ak_ X.K):=by
 intro value slice pins s σ H x y v u Q I rx ry h hs;obtain ⟨p,xs,i,z,rfl,rfl,hq,he,q⟩:=h;cases rx;obtain ⟨t,rfl⟩:=ry;obtain ⟨its,r,pl,hz⟩:=I.list hq;obtain ⟨j,h1,h2,h3,h4,h5⟩:=rt_ he;obtain ⟨w,ew,rw'⟩:=r.get h2;have hl:=r.length;have hn:=uz_;have fin:EP X pins σ Q w s:=⟨z,H,I,rw',q⟩;by_cases h0:0<=i
 .have hj:i.toNat=j:=by
   rw [seqIndex_of h0 h5] at h1;exact Option.some.inj h1
  exact item_listR pl.isList h0 (by omega) (by rw [hj];simpa using ew) fin hs
 .have hj:(i+(its.toArray.size:Int)).toNat=j:=by
   rw [seqIndex_neg (by omega) h4] at h1
   rw [List.size_toArray,<-hl];exact Option.some.inj h1
  exact subscriptTail_builtinR (x:=w) pl.isList.typeIs slot_list_getitem.lookup
   (wpAny_getItem_list_neg (Q:=λr s'=>r=w/\EP X pins σ Q r s') pl.isList (by omega) (by rw [List.size_toArray] <;> omega) (by omega) (by rw [hj];simpa using ew) ⟨rfl,fin⟩) hs
theorem gE_:IxR X (bX_ X.K):=by
 intro value slice pins s σ H x y v u Q I rx ry h hs;obtain ⟨p,xs,i,z,rfl,rfl,hq,he,q⟩:=h;cases rx;obtain ⟨t,rfl⟩:=ry;obtain ⟨its,r,pl,hz⟩:=I.tuple hq;obtain ⟨j,h1,h2,h3,h4,h5⟩:=rt_ he;obtain ⟨w,ew,rw'⟩:=r.get h2;have hl:=r.length;have hn:=uz_;have fin:EP X pins σ Q w s:=⟨z,H,I,rw',q⟩;exact subscriptTail_builtinR (x:=w) pl.typeIs slot_tuple_getitem.lookup
  (getItem_tuple (j:=j) (Q:=λr s'=>r=w/\EP X pins σ Q r s') pl (by omega) (by omega) (by rw [List.size_toArray,<-hl];exact h1) (by simpa using ew) ⟨rfl,fin⟩) hs
theorem sR_(its:List Value)(n j:Nat)(u:Value):Obj.mapSeq (·.setIfInBounds j u) { cls := .type "list",data := .seq its.toArray n }={ cls := .type "list",data := .seq (its.set j u).toArray n }:=by
 simp [Obj.mapSeq]
theorem Inv.lst{pins:List (Addr×Obj)}{σ:St}{H:Hp}{s:Shared}{p:Addr}{xs:List V}(I:Inv X pins σ H s)(h:H p=some (.lst xs)):
  ∃ (its:List Value) (n:Nat),Vals xs its/\s.heap.get? p=some { cls := .type "list",data := .seq its.toArray n }/\xs.length<=sizeLine:=by
 obtain ⟨z,its,n,r,e⟩:=I.hok p _ h;exact ⟨its,n,r,e,z⟩
theorem Inv.lstUpd{pins:List (Addr×Obj)}{σ:St}{H:Hp}{s:Shared}{p:Addr}{xs ys:List V}{its its':List Value}{n n':Nat}{f:Obj->Obj}(I:Inv X pins σ H s)(h:H p=some (.lst xs))
  (ho:s.heap.get? p=some { cls := .type "list",data := .seq its.toArray n }) (hf:f { cls := .type "list",data := .seq its.toArray n }={ cls := .type "list",data := .seq its'.toArray n' }) (r:Vals ys its') (hz:ys.length<=sizeLine) (t:Nat) :
  Inv X pins σ (upd H p (.lst ys)) { s with heap:=s.heap.update p f,toks:=t }:=by
 have e:(s.heap.update p f).get? p=some { cls := .type "list",data := .seq its'.toArray n' }:=by
  rw [Heap.get?_update_self f ho (by rw [hf] <;> rfl),hf]
 refine I.write (x:=p) (e:=p) (by rw [h];trivial) (.inl rfl) (λb u hb q=>(Heap.get?_update_other _ _ (Ne.symm hb)).trans q) ⟨_,e⟩ ?_
 exact ⟨hz,its',n',r,e⟩
noncomputable def e5_:V->V->V->Hp->(Hp->Prop)->Prop:=λo i v H Q => ∃ p xs k j,o=.ref p/\i=.int k/\H p=some (.lst xs)/\ixN xs.length k=some j/\Q (upd H p (.lst (xs.set j v)))
theorem set_list:kT_ X e5_:=by
 intro pins s σ H o i v ov iv u Q I ro ri rv h;obtain ⟨p,xs,k,j,rfl,rfl,hp,hj,q⟩:=h;cases ro;obtain ⟨t,rfl⟩:=ri;obtain ⟨its,n,r,ho,hz⟩:=I.lst hp;obtain ⟨h1,h2,h3,h4⟩:=qu_ hj;have hl:=r.length;have hn:=uz_;have I':Inv X pins σ (upd H p (.lst (xs.set j v))) { s with heap:=s.heap.update p (Obj.mapSeq (·.setIfInBounds j u)) } :=
  I.lstUpd hp ho (sR_ its n j u) (r.set rv j) (by rw [List.length_set];exact hz) s.toks
 by_cases h0:0<=k
 .have hk:k.toNat=j:=by
   rw [seqIndex_of h0 h4] at h1;exact Option.some.inj h1
  exact PySem.W.ki_setAt ho h0 (by omega) (by rw [List.size_toArray,<-hl];exact h4) (by rw [hk];exact ⟨_,I',q⟩)
 .have hk:(k+(its.toArray.size:Int)).toNat=j:=by
   rw [seqIndex_neg (by omega) h3] at h1
   rw [List.size_toArray,<-hl];exact Option.some.inj h1
  exact PySem.W.ki_setBack ho (by omega) (by rw [List.size_toArray,<-hl];exact h3) (by omega) (by rw [hk];exact ⟨_,I',q⟩)
theorem um_(lo hi:Option Int)(n:Nat):(sliceBounds lo hi none n).1=((HT.sIx n 0 lo:Nat):Int)/\(sliceBounds lo hi none n).2.1=((HT.sIx n n hi:Nat):Int)/\(sliceBounds lo hi none n).2.2=1:=by
 refine ⟨?_,?_,rfl⟩
 .cases lo with
  | none=>simp [sliceBounds,HT.sIx]
  | some i =>
   simp only [sliceBounds,HT.sIx,Option.getD_none,show (1:Int) > 0 by decide,if_true]
   by_cases h:i < 0
   .simp only [h,if_true] <;> omega
   .simp only [h,if_false] <;> omega
 .cases hi with
  | none=>simp [sliceBounds,HT.sIx]
  | some i =>
   simp only [sliceBounds,HT.sIx,Option.getD_none,show (1:Int) > 0 by decide,if_true]
   by_cases h:i < 0
   .simp only [h,if_true] <;> omega
   .simp only [h,if_false] <;> omega
theorem vw_(its:List Value)(lo hi:Option Int):slicePick its.toArray lo hi none=((its.drop (HT.sIx its.length 0 lo)).take (HT.sIx its.length its.length hi - HT.sIx its.length 0 lo)).toArray:=by
 obtain ⟨h1,h2,h3⟩:=um_ lo hi its.toArray.size;unfold slicePick;rw [h1,h2,h3];simp only [sliceRange_one,pick_run,List.size_toArray] <;> rfl
noncomputable def aC_(K:PySem.W.Frag):V->Option Int->Option Int->Hp->VK->Prop:=λx lo hi H Q => ∃ a xs,x=.ref a/\SqL K H a xs /\ ∀ p,H p=none->Q (.ref p) (upd H p (.lst (mr_ xs lo hi)))
theorem kf_:SlR X (aC_ X.K):=by
 intro pins s σ H x v vl vu lo hi sl Q I rx hs pl pu h;obtain ⟨a,xs,rfl,hx,q⟩:=h;cases rx;obtain ⟨its,r,ht,hz⟩:=I.list hx;have hlen:=r.length;refine ⟨"list",_,slot_list_getitem.lookup,ht.isList.typeIs,?_⟩;refine wpAny_getItem_list_slice ht.isList hs pl pu .none (by simp) ?_ (by rw [List.size_toArray] <;> omega)
 rw [vw_,<-hlen];refine ⟨.ref s.heap.objs.size,_,I.laid (t':=s.toks) (o := .lst (mr_ xs lo hi)) (λb ob q=>Heap.get?_push_of_some _ q) (Nat.le_refl _) ?_,rfl,q _ (I.hok.fresh (Nat.le_refl _))⟩;exact ⟨Nat.le_trans (wn_ xs lo hi) hz,_,0,(r.drop (HT.sIx xs.length 0 lo)).take (HT.sIx xs.length xs.length hi - HT.sIx xs.length 0 lo),Heap.get?_push_size _ rfl⟩
noncomputable def ou_:V->Bool
 | .non=>true
 | .bl _=>true
 | .int _=>true
 | .str _=>true
 | _=>false
noncomputable def eqV:V->V->Bool
 | .non,.non=>true
 | .bl a,.bl b=>a == b
 | .bl a,.int b=>(if a then 1 else 0) == b
 | .int a,.bl b=>a == (if b then 1 else 0)
 | .int a,.int b=>a == b
 | .str a,.str b=>a == b
 | _,_=>false
theorem rH_{A:Around}{s:Shared}{y x:V}{u v:Value}(ry:RelV y u)(rx:RelV x v)(fy:ou_ y=true)(fx:ou_ x=true):SeqAt.EqAt A s u v (eqV y x):=by
 cases y with
 | non =>
  cases ry;cases x with
  | non=>cases rx;exact SeqAt.EqAt.same _
  | bl b=>cases rx;exact SeqAt.EqAt.none_bool b
  | int b=>obtain ⟨t,rfl⟩:=rx;exact SeqAt.EqAt.none_int b t
  | str b=>obtain ⟨t,rfl⟩:=rx;exact SeqAt.EqAt.none_str b t
  | _=>exact absurd (show false=true from fx) Bool.false_ne_true
 | bl a =>
  cases ry;cases x with
  | non=>cases rx;exact SeqAt.EqAt.bool_none a
  | bl b=>cases rx;exact SeqAt.EqAt.bool_bool a b
  | int b=>obtain ⟨t,rfl⟩:=rx;exact SeqAt.EqAt.bool_int a b t
  | str b=>obtain ⟨t,rfl⟩:=rx;exact SeqAt.EqAt.bool_str a b t
  | _=>exact absurd (show false=true from fx) Bool.false_ne_true
 | int a =>
  obtain ⟨t',rfl⟩:=ry;cases x with
  | non=>cases rx;exact SeqAt.EqAt.int_none a t'
  | bl b=>cases rx;exact SeqAt.EqAt.int_bool a t' b
  | int b=>obtain ⟨t,rfl⟩:=rx;exact SeqAt.EqAt.int_int a t' b t
  | str b=>obtain ⟨t,rfl⟩:=rx;exact SeqAt.EqAt.int_str a t' b t
  | _=>exact absurd (show false=true from fx) Bool.false_ne_true
 | str a =>
  obtain ⟨t',rfl⟩:=ry;cases x with
  | non=>cases rx;exact SeqAt.EqAt.str_none a t'
  | bl b=>cases rx;exact SeqAt.EqAt.str_bool a t' b
  | int b=>obtain ⟨t,rfl⟩:=rx;exact SeqAt.EqAt.str_int a t' b t
  | str b=>obtain ⟨t,rfl⟩:=rx;exact SeqAt.EqAt.str_str a t' b t
  | _=>exact absurd (show false=true from fx) Bool.false_ne_true
 | _=>exact absurd (show false=true from fy) Bool.false_ne_true
theorem call_len_seq:CallR X (.builtin "len") (λxs H Q => ∃ p ys,xs=[.ref p]/\(SqL X.K H p ys\/SqT X.K H p ys)/\Q (.int ys.length) H):=by
 intro pins s σ H xs us Q I r h;obtain ⟨p,ys,rfl,hq,q⟩:=h;obtain ⟨u,rfl,rx⟩:=vals1 r;cases rx;have hn:=uz_;rcases hq with hq | hq
 .obtain ⟨its,r',pl,hz⟩:=I.list hq
  have hlen:=r'.length;exact Calls.call_len_list pl.isList (by simp only [List.size_toArray] <;> omega) ⟨.int ys.length,H,I.tok _,⟨s.toks+1,by rw [List.size_toArray,hlen]⟩,q⟩
 .obtain ⟨its,r',pl,hz⟩:=I.tuple hq
  have hlen:=r'.length;exact len_tuple pl (by simp only [List.size_toArray] <;> omega) ⟨.int ys.length,H,I.tok _,⟨s.toks+1,by rw [List.size_toArray,hlen]⟩,q⟩
theorem CallR.or{f:Value}{r r':List V->Hp->VK->Prop}(h:CallR X f r)(h':CallR X f r'):CallR X f (λxs H Q=>r xs H Q\/r' xs H Q):=by
 intro pins s σ H xs us Q I rs q;rcases q with q | q
 .exact h pins s σ H xs us Q I rs q
 .exact h' pins s σ H xs us Q I rs q
theorem call_list_of:CallR X (.type "list") (λxs H Q => ∃ p ys,xs=[.ref p]/\(SqL X.K H p ys\/SqT X.K H p ys) /\ ∀ l,H l=none->Q (.ref l) (upd H l (.lst ys))):=by
 intro pins s σ H xs us Q I r h;obtain ⟨p,ys,rfl,hq,q⟩:=h;obtain ⟨u,rfl,rx⟩:=vals1 r;cases rx;have fin:∀ (its:List Value),Vals ys its->ys.length<=sizeLine -> ∀ (h':Heap) (c':Nat),(∀ b o',s.heap.get? b=some o'->h'.get? b=some o') ->
   h'.get? s.heap.objs.size=some { cls := .type "list",dict:=none,data := .seq its.toArray c',slots := #[] }->EP X pins σ Q (.ref s.heap.objs.size) { s with heap:=h' }:=λits r' hz h' c' kp e =>
  ⟨.ref s.heap.objs.size,_,I.laid (t':=s.toks) kp (Nat.le_refl _) (show ObjOk X.prog X.w _ h' _ (.lst ys) from ⟨hz,its,c',r',e⟩),rfl,q _ (I.hok.fresh (Nat.le_refl _))⟩
 rcases hq with hq | hq
 .obtain ⟨its,r',pl,hz⟩:=I.list hq
  have hlen:=r'.length;obtain ⟨o,ho,hc,n,hd⟩:=pl.isList;exact call_list_seq p (.inl rfl) ho hc hd (λh' c' kp e=>fin its r' hz h' c' kp e) (by simp only [List.size_toArray] <;> omega)
 .obtain ⟨its,r',pl,hz⟩:=I.tuple hq
  have hlen:=r'.length;obtain ⟨o,ho,hc,n,hd⟩:=pl;exact call_list_seq p (.inr rfl) ho hc hd (λh' c' kp e=>fin its r' hz h' c' kp e) (by simp only [List.size_toArray] <;> omega)
noncomputable def tyV(K:PySem.W.Frag)(T:String)(x:V)(H:Hp):Prop:=match x with
 | .str _=>T = "str"
 | .int _=>T = "int"
 | .ref p=>(T = "list" /\ ∃ xs,SqL K H p xs)\/(T = "tuple" /\ ∃ o,K.lookup p=some o/\o.cls=.type "tuple" /\ o.dict=none) \/
   (T = "dict" /\ ((∃ kvs,H p=some (.dK kvs)) \/ ∃ kvs,H p=some (.dT kvs)))\/(T = "set" /\ ∃ S n,H p=some (.set S n))
 | _=>False
theorem mO_{pins:List (Addr×Obj)}{σ:St}{H:Hp}{s:Shared}{T:String}{x:V}{v:Value}(I:Inv X pins σ H s)(r:RelV x v)(ty:tyV X.K T x H):
  s.TypeIs v T /\ ∀ a,v=.ref a -> ∃ ob,s.heap.get? a=some ob/\ob.dict=none:=by
 cases x with
 | str z =>
  obtain ⟨t,rfl⟩:=r;cases (show T = "str" from ty);exact ⟨typeIs_str s z t,λ_ e=>nomatch e⟩
 | int i =>
  obtain ⟨t,rfl⟩:=r;cases (show T = "int" from ty);exact ⟨typeIs_int s i t,λ_ e=>nomatch e⟩
 | ref p =>
  cases r;rcases ty with ⟨rfl,xs,hq⟩ | ⟨rfl,o,hk,hc,hd⟩ | ⟨rfl,hk⟩ | ⟨rfl,S,n,hk⟩
  .obtain ⟨its,_,pl,_⟩:=I.list hq
   refine ⟨pl.isList.typeIs,λa e => ?_⟩;cases e;obtain ⟨o,n,e,c,hd,_⟩:=pl;exact ⟨o,e,hd⟩
  .refine ⟨⟨o,I.kIn p o hk,hc⟩,λa e => ?_⟩
   cases e;exact ⟨o,I.kIn _ o hk,hd⟩
  .have z:∃ o,s.heap.get? p=some o/\o.ExactDict:=by
    rcases hk with ⟨kvs,hk⟩ | ⟨kvs,hk⟩
    .obtain ⟨_,_,_,_,o,_,_,e,ex,_⟩:=I.hok p _ hk
     exact ⟨o,e,ex⟩
    .obtain ⟨_,_,_,_,o,_,_,e,ex,_⟩:=I.hok p _ hk
     exact ⟨o,e,ex⟩
   obtain ⟨o,e,ex⟩:=z;refine ⟨⟨o,e,ex.1⟩,λa e2 => ?_⟩;cases e2;exact ⟨o,e,ex.2.1⟩
  .obtain ⟨o,_,_,_,e,ex,_⟩:=I.hok p _ hk
   refine ⟨⟨o,e,ex.1⟩,λa e2 => ?_⟩;cases e2;exact ⟨o,e,ex.2.1⟩
 | _=>exact False.elim ty
noncomputable def ac_(K:PySem.W.Frag)(T:String)(r:V->List V->Hp->VK->Prop)(to:TE):TE:=λσ H Q=>to σ H λx H1=>tyV K T x H1/\r x [] H1 Q
noncomputable def tBM(K:PySem.W.Frag)(T:String)(r:V->List V->Hp->VK->Prop)(to:TE)(t:TA):TE:=λσ H Q=>to σ H λx H1=>tyV K T x H1/\t σ H1 λxs H2=>r x xs H2 Q
variable{o e:Expr}{es:List Expr}{to:TE}{t:TA}{name:Str}{apos cpos:Pos}{T id:String}{r:V->List V->Hp->VK->Prop}
theorem fk_(pa:PlainAttrs T)(slot:Slot T name id)(hty:typeOf (.builtin id)=pure (.type "method_descriptor"))(hm:MtR X id r)(ho:PE X o to)
  (hbase:attributeBase o name X.env (eval o X.env)=eval o X.env:=by rfl) (hline:(apos.endLine == cpos.line)=true:=by rfl):PE X (.Call (.Attribute o name apos) [] [] cpos) (ac_ X.K T r to):=by
 intro pins s σ H Q I h;refine wpAny_Call_method0_late hbase hline (thn (ho pins s σ H _ I h) λv s1 ⟨x,H1,I1,r1,ty,q1⟩ => ?_);obtain ⟨h1,h2⟩:=mO_ I1 r1 ty;exact ⟨T,id,pa,slot,hty,h1,h2,Calls.callWith_builtin rfl (PySem.evalArgs_none (hm pins s1 σ H1 x [] v [] Q I1 r1 .nil q1))⟩
theorem e7_(pa:PlainAttrs T)(slot:Slot T name id)(hty:typeOf (.builtin id)=pure (.type "method_descriptor"))(hm:MtR X id r)(ho:PE X o to)(ha:PA X (e :: es) t)
  (hbase:attributeBase o name X.env (eval o X.env)=eval o X.env:=by rfl)
  (hfew:((backTo cpos (starEach (e :: es) X.env)).all (λx => !x.1) && (backToKw cpos (keywordEach [] X.env)).all (λx=>x.1.isSome)
   && decide ((e :: es).length+([]:List Keyword).length+(if ([]:List Keyword).isEmpty then 0 else 1) < 30))=true:=by rfl)
  (hline:(apos.endLine == cpos.line)=true:=by rfl) (hs:starEach (e :: es) X.env=(false,eval e X.env) :: starEach es X.env:=by rfl) (hplain:(backTo cpos (starEach es X.env)).any (·.1)=false:=by rfl) :
  PE X (.Call (.Attribute o name apos) (e :: es) [] cpos) (tBM X.K T r to t):=by
 intro pins s σ H Q I h;refine wpAny_Call_method_late hbase hfew hline rfl (thn (ho pins s σ H _ I h) λv s1 ⟨x,H1,I1,r1,ty,q1⟩ => ?_);obtain ⟨h1,h2⟩:=mO_ I1 r1 ty;refine ⟨T,id,pa,slot,hty,h1,h2,?_⟩;have hA:=ha cpos pins s1 σ H1 _ I1 q1;rw [hs] at hA ⊢;refine Calls.callWith_builtin (by show (false || (backTo cpos (starEach es X.env)).any (·.1))=false;rw [hplain] <;> rfl) (Calls.evalArgs_plain ?_)
 exact thn hA λus s2 ⟨vs,H2,I2,r2,q2⟩=>hm pins s2 σ H2 x vs v us Q I2 r1 r2 q2
end
end L2
namespace L2
open PySem PySem.Spec PyProof.Rows
noncomputable def MtM(X:Cx)(id:String)(r:V->List V->Hp->VK->Prop):Prop :=
 ∀ (pins:List (Addr×Obj)) (s:Shared) (σ:St) (H:Hp) (x:V) (xs:List V) (v:Value) (us:List Value) (Q:VK),Inv X pins σ H s->RelV x v->Vals xs us->r x xs H Q ->
  wpAny (model X.prog X.w) X.A (call (.builtin id) (v :: us)) (EP X pins σ Q) X.xe s
theorem Vals.one:∀ {x:V} {us:List Value},Vals [x] us -> ∃ u,us=[u]/\RelV x u
 | _,_,.cons r .nil=>⟨_,rfl,r⟩
theorem Vals.zero:∀ {us:List Value},Vals [] us->us=[]
 | _,.nil=>rfl
theorem Vals.dropLast{xs:List V}{us:List Value}(h:Vals xs us):Vals xs.dropLast us.dropLast:=by
 induction h with
 | nil=>exact .nil
 | cons r t ih =>
  cases t with
  | nil=>exact .nil
  | cons q t'=>exact .cons r ih
theorem Vals.reverse{xs:List V}{us:List Value}(h:Vals xs us):Vals xs.reverse us.reverse:=by
 induction h with
 | nil=>exact .nil
 | cons r t ih=>rw [List.reverse_cons,List.reverse_cons];exact Vals.append ih (.cons r .nil)
theorem sB_{α:Type}(l:List α):l.eraseIdx (l.length - 1)=l.dropLast:=by
 induction l with
 | nil=>rfl
 | cons a r ih =>
  cases r with
  | nil=>rfl
  | cons b r =>
   have e:(a :: b :: r).length - 1=((b :: r).length - 1)+1:=by
    have h1:(a :: b :: r).length=r.length+2:=rfl;have h2:(b :: r).length=r.length+1:=rfl;omega
   rw [e,List.eraseIdx_cons_succ,ih]
   all_goals rfl
section
variable{X:Cx}{pins:List (Addr×Obj)}{σ:St}{H:Hp}{s:Shared}{l b:Addr}{xs ys zs:List V}
theorem Inv.lset{its its':List Value}{n:Nat}{f:Array Value->Array Value}{t':Nat}(I:Inv X pins σ H s)(hH:H l=some (.lst xs))
  (e:s.heap.get? l=some { cls := .type "list",data := .seq its.toArray n }) (hf:f its.toArray=its'.toArray) (hv:Vals ys its') (hz:ys.length<=sizeLine) :
  Inv X pins σ (upd H l (.lst ys)) { s with heap:=s.heap.update l (Obj.mapSeq f),toks:=t' }:=by
 have q:=PySem.IsL.update e f;rw [hf] at q;refine I.write (x:=l) (e:=l) (by rw [hH];exact trivial) (.inl rfl) (λb' u hb hu=>(Heap.get?_update_other s.heap (Obj.mapSeq f) (Ne.symm hb)).trans hu) ⟨_,q⟩ ?_
 exact ⟨hz,its',_,hv,q⟩
theorem Inv.lnew{its:List Value}{t':Nat}(I:Inv X pins σ H s)(hv:Vals ys its)(hz:ys.length<=sizeLine):
  Inv X pins σ (upd H s.heap.objs.size (.lst ys)) { s with heap:=s.heap.push { cls := .type "list",data := .seq its.toArray },toks:=t' } :=
 I.laid (λ_ _ q=>Heap.get?_push_of_some _ q) (Nat.le_refl _) ⟨hz,its,0,hv,Heap.get?_push_size _ rfl⟩
theorem Inv.fresh(I:Inv X pins σ H s):H s.heap.objs.size=none:=I.hok.fresh (Nat.le_refl _)
theorem Inv.lstM(I:Inv X pins σ H s)(hH:H l=some (.lst xs)):xs.length<=sizeLine /\ ∃ (its:List Value) (n:Nat),Vals xs its/\xs.length=its.length/\s.heap.get? l=some { cls := .type "list",data := .seq its.toArray n }:=by
 obtain ⟨z,its,n,r,e⟩:=I.hok l _ hH;exact ⟨z,its,n,r,r.length,e⟩
theorem pz_{n:Nat}(h:n<=sizeLine):Builtin.List.listTooLong n=false:=by
 unfold Builtin.List.listTooLong;exact decide_eq_false (by omega)
end
section
variable{X:Cx}
noncomputable def kJ_:V->List V->Hp->VK->Prop:=λx vs H Q => ∃ l xs y,x=.ref l/\vs=[y]/\H l=some (.lst xs)/\xs.length < sizeLine/\Q .non (upd H l (.lst (xs++[y])))
theorem ug_:MtM X "list.append" kJ_:=by
 intro pins s σ H x vs v us Q I rx rv h;obtain ⟨l,xs,y,rfl,rfl,hH,hz,q⟩:=h;cases rx;obtain ⟨u,rfl,ru⟩:=rv.one;obtain ⟨z,its,n,r,hl,e⟩:=I.lstM hH;refine call_meets F.slot_list_append ⟨_,e,rfl⟩ F.entry_list_append (F.args_list_append_2 _ _) (PySem.list_append l its.toArray n u (by rw [List.size_toArray];omega)) ⟨e,?_⟩
 refine ⟨.non,_,I.lset (its':=its++[u]) hH e (by simp) (r.append (.cons ru .nil)) ?_,rfl,q⟩
 rw [List.length_append,List.length_singleton];omega
noncomputable def l9_:V->List V->Hp->VK->Prop:=λx vs H Q => ∃ l b xs zs,x=.ref l/\vs=[.ref b]/\H l=some (.lst xs)/\H b=some (.lst zs)/\xs.length+zs.length<=sizeLine/\Q .non (upd H l (.lst (xs++zs)))
theorem qN_:MtM X "list.extend" l9_:=by
 intro pins s σ H x vs v us Q I rx rv h;obtain ⟨l,b,xs,zs,rfl,rfl,hH,hB,hz,q⟩:=h;cases rx;obtain ⟨u,rfl,ru⟩:=rv.one;cases ru;obtain ⟨z,its,n,r,hl,e⟩:=I.lstM hH;obtain ⟨z2,its2,n2,r2,hl2,e2⟩:=I.lstM hB;have hsz:its.toArray.size+its2.toArray.size<=sizeLine:=by rw [List.size_toArray,List.size_toArray];omega
 have hlong : ¬ (!its.toArray.isEmpty && Builtin.List.listTooLong (its.toArray.size+its2.toArray.size))=true:=by
  rw [pz_ hsz,Bool.and_false];exact Bool.false_ne_true
 refine call_meets F.slot_list_extend ⟨_,e,rfl⟩ F.entry_list_extend (F.args_list_extend_2 _ _)
  (AutoSeq1.list_extend_list_list_0 l its.toArray n b its2.toArray n2 hlong (by rw [List.size_toArray];omega) (by omega)) ⟨e,e2,?_⟩
 refine ⟨.non,_,I.lset (its':=its++its2) hH e (by simp) (r.append r2) ?_,rfl,q⟩
 rw [List.length_append];omega
noncomputable def b5_:V->List V->Hp->VK->Prop:=λx vs H Q => ∃ l xs y,x=.ref l/\vs=[]/\H l=some (.lst xs)/\xs[xs.length - 1]? = some y/\Q y (upd H l (.lst xs.dropLast))
theorem jR_:MtM X "list.pop" b5_:=by
 intro pins s σ H x vs v us Q I rx rv h;obtain ⟨l,xs,y,rfl,rfl,hH,hy,q⟩:=h;cases rx;have hus:=rv.zero;subst hus;obtain ⟨z,its,n,r,hl,e⟩:=I.lstM hH;obtain ⟨u,hu,ru⟩:=r.get hy;have hy':its.toArray[its.toArray.size - 1]? = some u:=by
  show its.toArray[its.length - 1]? = some u;rw [<-Array.getElem?_toList,<-hl];exact hu
 refine call_meets F.slot_list_pop ⟨_,e,rfl⟩ F.entry_list_pop (F.args_list_pop_1 _) (MeetsSeq.list_pop_last l its.toArray n u hy' (by rw [List.size_toArray];omega)) ⟨e,?_⟩
 refine ⟨y,_,I.lset (its':=its.dropLast) hH e ?_ r.dropLast ?_,ru,q⟩
 .show its.toArray.eraseIdxIfInBounds (its.toArray.size - 1)=its.dropLast.toArray
  rw [List.size_toArray,List.eraseIdxIfInBounds_toArray,sB_]
 .rw [List.length_dropLast]
  omega
noncomputable def bn_:R2:=λx y H Q => ∃ l b xs zs,x=.ref l/\y=.ref b/\H l=some (.lst xs)/\H b=some (.lst zs)/\xs.length+zs.length<=sizeLine /\ ∀ p,H p=none->Q (.ref p) (upd H p (.lst (xs++zs)))
theorem hj_:OpR X (binaryOp .Add) bn_:=by
 intro pins s σ H x y v u Q I rx ry h;obtain ⟨l,b,xs,zs,rfl,rfl,hH,hB,hz,q⟩:=h;cases rx;cases ry;obtain ⟨z,its,n,r,hl,e⟩:=I.lstM hH;obtain ⟨z2,its2,n2,r2,hl2,e2⟩:=I.lstM hB;refine PySem.P.add_list e e2 ?_ (by rw [List.size_toArray,List.size_toArray];omega)
 have ea:its.toArray++its2.toArray=(its++its2).toArray:=by simp
 rw [ea];exact ⟨.ref _,_,I.lnew (t':=s.toks) (r.append r2) (by rw [List.length_append];omega),rfl,q _ I.fresh⟩
end
section
variable{prog:Program}{w:World}{A:Around}{E:Value->Shared->Prop}{s:Shared}
end
section
variable{X:Cx}
end
end L2
namespace Att
open PySem PySem.W PySem.Calls PyProof.Rows
theorem wR_{P:Params}{h:Heap}:∀ (ns:List Int) (vs:List Value),WellAll P h vs (ns.map WData.int)->IntsAre vs ns:=by
 intro ns
 induction ns with
 | nil =>
  intro vs w;rw [List.map_nil] at w;cases w;exact .nil
 | cons n ns ih =>
  intro vs w;rw [List.map_cons] at w;cases w with
  | cons a b =>
   cases a;exact .cons _ _ (ih _ b)
theorem qC_{l:OpenLaw}{n:Nat}(hn:l.most=some n){P:Params}{h:Heap}{args:List WData}{vals:List Value}
  (hpre:l.row.toRowW.claim.pre args=true) (hwl:WellAll P h vals args) :
  ∃ a vs ns,vals=[Value.ref a]/\args=[WData.list (ns.map WData.int)]/\h.get? a=some { cls := .type "list",data := .seq vs.toArray }/\IntsAre vs ns/\ns.length<=n:=by
 have hsh:WShape.hasAll [] args [.list .int]=true:=(pre_splitW hpre).1;have hc:l.pre.holds [] { args:=args }=true:=(pre_splitW hpre).2;obtain ⟨d,r,rfl,h1,h2⟩:=hasAllW_cons hsh;obtain rfl:=hasAllW_nil h2;obtain ⟨xs,rfl,h3⟩:=hasW_list h1;obtain ⟨ns,rfl⟩:=items_int h3;have hlen:ns.length<=n:=by
  unfold OpenLaw.pre at hc;have h4:(WTm.not (.lt (.lit (.int (n:Int))) (.len (.arg 0)))).holds [] { args:=[.list (ns.map .int)] }=true:=by
   have h4:=(holds_andW hc).1;rw [hn] at h4;exact h4
  have h5:=condW_of h4 (w_not (w_lt w_lit (w_len_list (w_arg rfl))));rw [List.length_map] at h5;refine Nat.le_of_not_lt λq => ?_;have q':(n:Int) < ((ns.length:Nat):Int):=by omega
  first
   | (rw [decide_eq_true q'] at h5;exact absurd h5 (by decide))
   | (simp at h5;omega)
 cases hwl with
 | cons w1 w2 =>
  cases w2;cases w1 with
  | list ho hall=>exact ⟨_,_,ns,rfl,rfl,ho,wR_ ns _ hall,hlen⟩
theorem qK_(l:OpenLaw)(args:List WData):l.row.toRowW.claim.post args (.bool true) args=true :=
 postW_of (r:=l.row.toRowW) (X:=(true == true))
  (show WShape.has [] (.bool true) .bool=true by first | rfl | decide | simp [WShape.has,WShape.arms,WShape.armsAll])
  (show (WTm.eq .res (.lit (.bool true))).value [] { args:=args,res:=some (.bool true),after:=args }=some (.bool (true == true)) from w_eq_bool (w_res rfl) w_lit) rfl
theorem attach_call{l:OpenLaw}{n:Nat}{q:Program}{loose:List Str}{XP:(Str->Option Value)->Heap->Prop}{YP:World->Heap->Prop}{d:DefRec}
  (hn:l.most=some n) (hdf:d.params.defaults=[])
  (call:∀ (w:World) (s₀ s₁ : Shared) (mg mb:Str->Option Value) (fa:Addr) (o:Obj) (pm cd doc:Value) (a:Addr) (vs:List Value) (ns:List Int),
   Ground q loose [] XP w s₀ mg mb s₁.heap->YP w s₁.heap ->
   s₁.heap.get? fa=some o->o.data=.func (docDef d.name d.params d.body d.scope pm cd doc)->s₁.heap.CodeRec cd d.name->mg d.name=some (.ref fa) ->
   s₁.heap.get? a=some { cls := .type "list",data := .seq vs.toArray }->IntsAre vs ns->ns.length<=n->s₁.gens = #[] ->
   codeAny (model l.prog w) callerA (.call (.ref fa) ⟨[.ref a],[]⟩) (λr s'=>r=.ok (.ret (.bool true))/\OldK s₁.heap s'.heap/\s'.os=s₁.os/\AllBare s'.gens) s₁) :
  WalkO q loose XP YP l.row.toRowW d [] (λf vs=>PySem.call f vs):=by
 intro w s₀ s₁ mg mb G Y fa o pm cd doc dV kV ho hd hcd hD hmg hg args vals as hpre hlay hrd hwl hlo;obtain rfl:dV=.none:=Dflts.none hD hdf;obtain rfl:kV=.none:=Dflts.noKw hD;obtain ⟨a,vs,ns,rfl,rfl,hobj,hints,hlen⟩:=qC_ hn hpre hwl;refine enter_call (codeAny_mono (call w s₀ s₁ mg mb fa o pm cd doc a vs ns G Y ho (fd_plain hd) hcd hmg hobj hints hlen hg) λr s' hq => ?_);obtain ⟨rfl,h2,h3,h4⟩:=hq;exact ⟨.inl ⟨.bool true,.bool true,[],rfl,λ_=>rfl,.bool true,qK_ l _,λ_=>⟨List.Pairwise.nil,λ_ hm=>(nomatch hm)⟩⟩,h2,h3,h4⟩
section
variable{prog:Program}{w:World}{A:Around}{E:Value->Shared->Prop}{s:Shared}{K:Frag}
end
end Att
namespace L2
open PySem PySem.Spec PyProof.Rows
theorem wN_:∀ {vs:List Value} {ns:List Int},IntsAre vs ns->Vals (ns.map V.int) vs
 | _,_,.nil => .nil
 | _,_,.cons n t h => .cons ⟨t,rfl⟩ (wN_ h)
noncomputable def f5_(H:Hp):Prop := ∀ b,H b=none \/ ∃ o xs,H b=some (.frz o (.lst xs))
theorem pr_{P:Program}{w:World}{K:PySem.W.Frag}{mg mb:Str->Option Value}{CX:CXT}{k:Nat}{fa a:Addr}{fd:FuncData}{x:Str}{sp:Sp}{s₁ : Shared}{vs:List Value}{ns:List Int}
  (KX:K.In s₁.heap) (hns:s₁.heap.Ns mainGlobals mg) (hb:s₁.heap.Ns builtinsNs mb) (hbb:∀ x:Str,x ≠ "__name__" -> mb x=bootBuiltins x) (hlim:s₁.heap.NoLimit) (hg:s₁.gens = #[])
  (ha:s₁.heap.get? a=some { cls := .type "list",data := .seq vs.toArray }) (hi:IntsAre vs ns) (hl:ns.length<=sizeLine) (hr:Room k callerA)
  (F:∀ base:Heap,K.In base->base.Ns mainGlobals mg->FnOk P w K mg base CX k fa fd [x] sp) (hbind:∀ (s:Shared) (u:Value),BindsTo s fd ⟨[u],[]⟩ [(x,u)])
  (hsp:∀ H:Hp,f5_ H->SqL K H a (ns.map V.int)->sp [.ref a] H (λv _=>v=.bl true) λ_ _ _=>False)
  (hCX:∀ H e s',CX [] H s₁ (λ_ _ _=>False) e s'->False) :
  codeAny (model P w) callerA (.call (.ref fa) ⟨[.ref a],[]⟩) (λr s'=>r=.ok (.ret (.bool true))/\OldK s₁.heap s'.heap/\s'.os=s₁.os/\AllBare s'.gens) s₁ := by
 have rv:=wN_ hi;have lenV:=hi.length;have core:∀ H:Hp,f5_ H->SqL K H a (ns.map V.int)->HOk P w H s₁.heap->(∀ b,H b≠none->b=a)->(H a≠none->K.lookup a=none) ->
   codeAny (model P w) callerA (.call (.ref fa) ⟨[.ref a],[]⟩) (λr s'=>r=.ok (.ret (.bool true))/\OldK s₁.heap s'.heap/\s'.os=s₁.os/\AllBare s'.gens) s₁ := by
  intro H hO hS hok hA hK;have base_of:∀ {b:Addr} {o:Obj},s₁.heap.get? b=some o->H b=none->(ow_ s₁.heap H).get? b=some o:=λe n=>p1_ e n;have noA:∀ {b:Addr} {o:Obj} {es:Array DictEntry} {ep:Nat},s₁.heap.get? b=some o->o.data=.dict es ep->H b=none:=λ{b o es ep} e d=>by
   cases q:H b with
   | none=>rfl
   | some u =>
    have e':b=a:=hA b (by rw [q];simp)
    subst e';rw [ha] at e;cases e;have d':Data.seq vs.toArray _=Data.dict es ep:=d;cases d'
  have nsK:∀ {b:Addr} {m:Str->Option Value},s₁.heap.Ns b m->(ow_ s₁.heap H).Ns b m:=λ{b m} ⟨o,es,ep,e,d,r⟩=>⟨o,es,ep,base_of e (noA e d),d,r⟩
  have hKb:K.In (ow_ s₁.heap H):=λb o e=>base_of (KX b o e) (by
   cases q:H b with
   | none=>rfl
   | some u =>
    have e':b=a:=hA b (by rw [q];simp)
    subst e'
    rw [hK (by rw [q];simp)] at e;cases e)
  have hM:Mod K mg (ow_ s₁.heap H):=⟨hKb,nsK hns,⟨mb,nsK hb,hbb⟩,let ⟨mc,h1,h2⟩:=hlim;⟨mc,nsK h1,h2⟩⟩
  have e0:Env0 P w K mg (ow_ s₁.heap H) callerA [] s₁ H:=⟨rfl,hM,λb o e=>lM_ e,Nat.le_of_eq (qJ_ _ _),trivial,λb hb=>absurd (show b∈([]:List Addr) from hb) (by simp),hok,.of_eq hg⟩
  refine codeAny_mono ((F _ hKb (nsK hns)).run callerA [] s₁ H ⟨[.ref a],[]⟩ [.ref a] [.ref a] _ _ hr e0 (hbind s₁ (.ref a)) (.cons rfl .nil) (hsp H hO hS)) λr s' h => ?_;cases r with
  | error e=>exact (hCX H e s' h).elim
  | ok fl =>
   cases fl with
   | next=>exact False.elim h
   | brk=>exact False.elim h
   | cont=>exact False.elim h
   | ret u =>
    obtain ⟨v,H',os,bare,un,hok',r',q⟩:=h;have q':v=.bl true:=q;subst q';obtain rfl:u=Value.bool true:=r';refine ⟨rfl,OldK.of_keep λb o e => ?_,os,bare⟩;cases q:H b with
    | none=>exact un.keep b o e q (by intro z;exact absurd (show b∈([]:List Addr) from z) (by simp)) (by simp)
    | some u =>
     rcases hO b with z | ⟨ob,xs,z⟩
     .rw [q] at z;cases z
     .have z2:=un.frzs b ob _ z
      obtain ⟨e1,_⟩:=hok b _ z;obtain ⟨e2,_⟩:=hok' b _ z2;rw [e] at e1;cases e1;exact e2
 cases hk:K.lookup a with
 | some o =>
  have e:=KX a o hk;rw [ha] at e;cases e;refine core (λ_=>none) (λ_ => .inl rfl) (.inr ⟨_,vs.toArray,_,hk,rfl,rfl,rfl,by rw [List.size_toArray,lenV];exact hl,by simpa using rv⟩) (λb u z=>by have z':(none:Option HO)=some u:=z;cases z') (λb z=>absurd rfl z) λz=>absurd rfl z
 | none =>
  refine core (λb=>if b=a then some (.frz { cls := .type "list",data := .seq vs.toArray } (.lst (ns.map V.int))) else none) (λb => ?_) (.inl (.inr ⟨{ cls := .type "list",data := .seq vs.toArray },if_pos rfl⟩)) (λb u z => ?_) (λb z => ?_) λ_=>hk
  .by_cases hb:b=a
   .exact .inr ⟨_,_,if_pos hb⟩
   .exact .inl (if_neg hb)
  .by_cases hb:b=a
   .have z':=(if_pos hb).symm.trans z
    cases z';subst hb;exact ⟨ha,by rw [List.length_map];exact hl,vs,_,rv,ha⟩
   .have z':=(if_neg hb).symm.trans z
    cases z'
  .by_cases hb:b=a
   .exact hb
   .exact absurd (if_neg hb) z
end L2
namespace L2
open PySem PySem.Spec PyProof.Rows
end L2
namespace L2
open PySem PySem.Spec PyProof.Rows
noncomputable def wP_(s:Stmt):Arguments:=match s with
 | .FunctionDef _ a _ _ _ _ _ _ _ _=>a
 | _=>{ posonlyargs:=[],args:=[],vararg:=none,kwonlyargs:=[],kw_defaults:=[],kwarg:=none,defaults:=[] }
noncomputable def wX_(s:Stmt):List Stmt:=match s with
 | .FunctionDef _ _ b _ _ _ _ _ _ _=>b
 | _=>[]
noncomputable def zY_(s:Stmt):Scope:=match s with
 | .FunctionDef _ _ _ _ _ _ sc _ _ _=>sc
 | _=>{ kind := .function,names:=[],isGenerator:=false,isCoroutine:=false }
noncomputable abbrev CX0:CXT:=λ_ _ _ _ _ _=>False
noncomputable abbrev E0:XK:=λ_ _ _=>False
theorem r5_{X:Cx}:yQ_ CX0 X E0:=λ_ _ _ _ _ _ _ h=>h.elim
structure Fun(K:PySem.W.Frag)(x qual:Str)(st:Stmt)(f:Addr)(fd:FuncData):Prop where
 ex:∃ (oc:Value) (od:Option Addr) (kV doc pm:Value) (an:Option Addr) (cdv ct:Value) (osl:Array (Option Value)),
  fd=PySem.W.fnOf x qual (wP_ st) (wX_ st) (zY_ st) .none kV doc pm an cdv ct/\K.lookup f=some ⟨oc,od,.func fd,osl⟩/\PySem.W.codeIn K cdv qual=true
 kp:PySem.W.keepIn K (.ref f)=true
section
variable{P:Program}{w:World}{K:PySem.W.Frag}{mg:Str->Option Value}{base:Heap}
end
section
variable{X:Cx}
end
theorem nF_{A B:Prop}(h:B):if false=true then A else B:=by
 rw [if_neg Bool.false_ne_true];exact h
theorem nj_{A B:Prop}(h:A):if true=true then A else B:=by
 rw [if_pos rfl];exact h
end L2
namespace L2
open PySem PySem.Spec PyProof.Rows
section
variable{κ:Type}[DecidableEq κ]
noncomputable def u7_(kvs:List (κ×V))(k:κ):Option V:=(kvs.find? λkv=>decide (kv.1=k)).map (·.2)
noncomputable def putK(kvs:List (κ×V))(k:κ)(v:V):List (κ×V) :=
 if (kvs.any λkv=>decide (kv.1=k))=true then kvs.map (λkv=>if kv.1=k then (kv.1,v) else kv) else kvs++[(k,v)]
theorem yL_{p:κ×V}{r:List (κ×V)}{k:κ}(e:p.1=k):u7_ (p :: r) k=some p.2:=by simp [u7_,List.find?_cons,e]
theorem yK_{p:κ×V}{r:List (κ×V)}{k:κ}(e : ¬ p.1=k):u7_ (p :: r) k=u7_ r k:=by simp [u7_,List.find?_cons,e]
theorem tI_(k:κ):∀ kvs:List (κ×V),(kvs.any λkv=>decide (kv.1=k))=(u7_ kvs k).isSome
 | []=>rfl
 | p :: r=>by
  rw [List.any_cons];by_cases e:p.1=k
  .simp only [yL_ e,decide_eq_true e,Bool.true_or,Option.isSome_some]
  .rw [yK_ e,decide_eq_false e,Bool.false_or];exact tI_ k r
theorem y1_(kvs:List (κ×V))(k:κ)(v:V):(putK kvs k v).length<=kvs.length+1:=by
 unfold putK;split
 .rw [List.length_map];omega
 .rw [List.length_append,List.length_cons,List.length_nil];omega
theorem RelO.isSome_eq{o:Option V}{u:Option Value}(r:RelO o u):o.isSome=u.isSome:=by
 cases o with
 | none=>cases u with
  | none=>rfl
  | some _=>exact (show False from r).elim
 | some _=>cases u with
  | none=>exact (show False from r).elim
  | some _=>rfl
theorem KV.val{kvs:List (κ×V)}{vs:List (κ×Value)}(r:KV kvs vs)(k:κ):RelO (u7_ kvs k) (valueAt vs k):=by
 unfold KV at r
 induction r with
 | nil=>exact True.intro
 | @cons p q ps qs h t ih =>
  obtain ⟨h1,h2⟩:=h;by_cases e:p.1=k
  .have e':q.1=k:=h1.symm.trans e
   have b:valueAt (q :: qs) k=some q.2:=by simp [valueAt,List.find?_cons,e']
   rw [yL_ e,b];exact h2
  .have e' : ¬ q.1=k:=λz=>e (h1.trans z)
   have b:valueAt (q :: qs) k=valueAt qs k:=by simp [valueAt,List.find?_cons,e']
   rw [yK_ e,b];exact ih
theorem KV.any{kvs:List (κ×V)}{vs:List (κ×Value)}(r:KV kvs vs)(k:κ):(kvs.any λkv=>decide (kv.1=k))=vs.any λkv=>decide (kv.1=k):=by
 unfold KV at r
 induction r with
 | nil=>rfl
 | cons h t ih=>rw [List.any_cons,List.any_cons,ih,h.1]
theorem KV.repl{kvs:List (κ×V)}{vs:List (κ×Value)}(r:KV kvs vs)(k:κ){y:V}{u:Value}(ry:RelV y u):
  KV (kvs.map λkv=>if kv.1=k then (kv.1,y) else kv) (vs.map λkv=>if kv.1=k then (kv.1,u) else kv):=by
 unfold KV at r ⊢
 induction r with
 | nil=>exact .nil
 | @cons p q ps qs h t ih =>
  rw [List.map_cons,List.map_cons];refine .cons ?_ ih;obtain ⟨h1,h2⟩:=h;by_cases e:p.1=k
  .rw [if_pos e,if_pos (h1.symm.trans e)];exact ⟨h1,ry⟩
  .rw [if_neg e,if_neg (λz=>e (h1.trans z))];exact ⟨h1,h2⟩
theorem KV.put{kvs:List (κ×V)}{vs:List (κ×Value)}(r:KV kvs vs)(k:κ){y:V}{u:Value}(ry:RelV y u):KV (putK kvs k y) (stored vs k u):=by
 unfold putK stored;rw [r.any k];by_cases e:(vs.any λkv=>decide (kv.1=k))=true
 .rw [if_pos e,if_pos e];exact r.repl k ry
 .rw [if_neg e,if_neg e];exact Paired.snoc r ⟨rfl,ry⟩
theorem KV.length{kvs:List (κ×V)}{vs:List (κ×Value)}(r:KV kvs vs):kvs.length=vs.length:=Paired.length r
end
theorem rh_{P:Program}{w:World}{k:Key}{u:Value}(r:RelV (kV k) u):(zL_ P w).is k u=true:=by
 cases k with
 | inl i=>obtain ⟨t,e⟩:=(show ∃ t,u=Value.int i t from r);subst e;exact tm_ P w i t
 | inr x=>obtain ⟨t,e⟩:=(show ∃ t,u=Value.str x t from r);subst e;exact tk_ P w x t
theorem v6_{P:Program}{w:World}:∀ {ks:List Key} {us:List Value},Vals (ks.map kV) us->ItemsAre (zL_ P w) ks us
 | [],_,r=>by rw [List.map_nil] at r;cases r;exact .nil
 | k :: ks,_,r=>by
  rw [List.map_cons] at r;cases r with
  | cons h t=>exact .cons (rh_ h) (v6_ t)
noncomputable abbrev KT(H:Hp):List (List Key×V)->List (List Key×Addr×Value)->Prop:=Paired λp q=>p.1=q.1/\H q.2.1=some (.tup (p.1.map kV))/\RelV p.2 q.2.2
theorem KT.val{H:Hp}{kvs:List (List Key×V)}{xs:List (List Key×Addr×Value)}(r:KT H kvs xs)(k:List Key):RelO (u7_ kvs k) ((atKey xs k).map (·.2)):=by
 induction r with
 | nil=>exact True.intro
 | @cons p q ps qs h t ih =>
  obtain ⟨h1,_,h2⟩:=h;by_cases e:p.1=k
  .have e':q.1=k:=h1.symm.trans e
   have b:atKey (q :: qs) k=some q.2:=by simp [atKey,List.find?_cons,e']
   rw [yL_ e,b];exact h2
  .have e' : ¬ q.1=k:=λz=>e (h1.trans z)
   have b:atKey (q :: qs) k=atKey qs k:=by simp [atKey,List.find?_cons,e']
   rw [yK_ e,b];exact ih
theorem KT.repl{H:Hp}{kvs:List (List Key×V)}{xs:List (List Key×Addr×Value)}(r:KT H kvs xs)(k:List Key){y:V}{u:Value}(ry:RelV y u):
  KT H (kvs.map λkv=>if kv.1=k then (kv.1,y) else kv) (xs.map (putAt k u)):=by
 induction r with
 | nil=>exact .nil
 | @cons p q ps qs h t ih =>
  rw [List.map_cons,List.map_cons];refine .cons ?_ ih;obtain ⟨h1,h2,h3⟩:=h;unfold putAt;by_cases e:p.1=k
  .rw [if_pos e,if_pos (h1.symm.trans e)];exact ⟨h1,h2,ry⟩
  .rw [if_neg e,if_neg (λz=>e (h1.trans z))];exact ⟨h1,h2,h3⟩
theorem KT.put{H:Hp}{kvs:List (List Key×V)}{xs:List (List Key×Addr×Value)}(r:KT H kvs xs)(k:List Key){b:Addr}{y:V}{u:Value}(hb:H b=some (.tup (k.map kV)))(ry:RelV y u):
  KT H (putK kvs k y) (storedH xs k b u):=by
 have e:(kvs.any λkv=>decide (kv.1=k))=(atKey xs k).isSome:=by
  rw [tI_,(r.val k).isSome_eq,Option.isSome_map]
 unfold putK storedH;rw [e];by_cases q:(atKey xs k).isSome=true
 .rw [if_pos q,if_pos q];exact r.repl k ry
 .rw [if_neg q,if_neg q];exact Paired.snoc r ⟨rfl,hb,ry⟩
theorem KT.keeps{H H':Hp}{kvs:List (List Key×V)}{xs:List (List Key×Addr×Value)}(r:KT H kvs xs)(ht:∀ b ys,H b=some (.tup ys)->H' b=some (.tup ys)):KT H' kvs xs :=
 Paired.mapP r λ_ _ z=>⟨z.1,ht _ _ z.2.1,z.2.2⟩
section
variable{P:Program}{w:World}{H:Hp}{h:Heap}{a:Addr}
theorem kZ_{u:HO}(ok:HOk P w H h)(e:Rd H a u):ObjOk P w H h a u:=e.ok ok
theorem rX_{kvs:List (Key×V)}(ok:HOk P w H h)(e:Rd H a (.dK kvs)):kvs.length<=sizeLine/\(a == sysModules)=false /\ ∃ vs,KV kvs vs/\h.DictOf (zL_ P w) a vs :=
 show ObjOk P w H h a (.dK kvs) from kZ_ ok e
theorem eS_{kvs:List (Key×V)}(ok:HOk P w H h)(e:H a=some (.dK kvs)):kvs.length<=sizeLine/\(a == sysModules)=false /\ ∃ vs,KV kvs vs/\h.DictOf (zL_ P w) a vs:=rX_ ok (.inl e)
theorem vm_{ks:List Key}(ok:HOk P w H h)(e:H a=some (.tup (ks.map kV))):(tupleKind (zL_ P w)).is h ks a:=by
 obtain ⟨_,its,r,o,h1,h2,n,h3⟩:=(show ObjOk P w H h a (.tup (ks.map kV)) from ok a _ e);exact ⟨o,its.toArray,n,h1,h2,h3,by simpa using v6_ r⟩
theorem rV_{kvs:List (List Key×V)}(ok:HOk P w H h)(e:Rd H a (.dT kvs)):kvs.length<=sizeLine/\(a == sysModules)=false /\
  ∃ xs,KT H kvs xs/\h.DictOfH (tupleKind (zL_ P w)) a xs:=by
 obtain ⟨z,y,xs,r,o,es,ep,h1,h2,h3,h4,h5⟩:=(show ObjOk P w H h a (.dT kvs) from kZ_ ok e);refine ⟨z,y,xs,r,o,es,ep,h1,h2,h3,h4,λx hx => ?_,h5⟩;have all:∀ {l:List (List Key×V)} {m:List (List Key×Addr×Value)},KT H l m -> ∀ x∈m,(tupleKind (zL_ P w)).is h x.1 x.2.1:=by
  intro l m q
  induction q with
  | nil=>intro x hx;exact nomatch hx
  | @cons p q ps qs hq t ih =>
   intro x hx;rcases List.mem_cons.mp hx with e | hx
   .subst e
    exact vm_ ok (by rw [<-hq.1];exact hq.2.1)
   .exact ih x hx
 exact all r x hx
theorem gA_{kvs:List (List Key×V)}(ok:HOk P w H h)(e:H a=some (.dT kvs)):kvs.length<=sizeLine/\(a == sysModules)=false /\
  ∃ xs,KT H kvs xs/\h.DictOfH (tupleKind (zL_ P w)) a xs:=rV_ ok (.inl e)
end
noncomputable def DGet(H:Hp)(a:Addr)(y:V)(r:Option V):Prop :=
 (∃ kvs k,Rd H a (.dK kvs)/\y=kV k/\r=u7_ kvs k) \/ ∃ kvs k b,Rd H a (.dT kvs)/\y=.ref b/\H b=some (.tup (k.map kV))/\r=u7_ kvs k
noncomputable def DPut(H:Hp)(a:Addr)(y v:V)(H':Hp):Prop :=
 (∃ kvs k,H a=some (.dK kvs)/\y=kV k/\kvs.length < sizeLine/\H'=upd H a (.dK (putK kvs k v))) \/
 ∃ kvs k b,H a=some (.dT kvs)/\y=.ref b/\H b=some (.tup (k.map kV))/\kvs.length < sizeLine/\H'=upd H a (.dT (putK kvs k v))
theorem DGet.k{H:Hp}{a:Addr}{kvs:List (Key×V)}{k:Key}(e:H a=some (.dK kvs)):DGet H a (kV k) (u7_ kvs k) := .inl ⟨kvs,k,.inl e,rfl,rfl⟩
theorem DGet.t{H:Hp}{a b:Addr}{kvs:List (List Key×V)}{k:List Key}(e:H a=some (.dT kvs))(eb:H b=some (.tup (k.map kV))):DGet H a (.ref b) (u7_ kvs k) := .inr ⟨kvs,k,b,.inl e,rfl,eb,rfl⟩
theorem DPut.k{H:Hp}{a:Addr}{kvs:List (Key×V)}{k:Key}{v:V}(e:H a=some (.dK kvs))(hl:kvs.length < sizeLine):DPut H a (kV k) v (upd H a (.dK (putK kvs k v))) := .inl ⟨kvs,k,e,rfl,hl,rfl⟩
theorem DPut.t{H:Hp}{a b:Addr}{kvs:List (List Key×V)}{k:List Key}{v:V}(e:H a=some (.dT kvs))(eb:H b=some (.tup (k.map kV)))(hl:kvs.length < sizeLine):
  DPut H a (.ref b) v (upd H a (.dT (putK kvs k v))) := .inr ⟨kvs,k,b,e,rfl,eb,hl,rfl⟩
section
variable{X:Cx}{pins:List (Addr×Obj)}{σ:St}{H:Hp}{s:Shared}{a:Addr}{y v:V}{u r:Value}{o:Option V}{A:Around}{E:Value->Shared->Prop}
theorem Inv.big(I:Inv X pins σ H s):sysModules < s.heap.objs.size:=by
 have h:mainGlobals < s.heap.objs.size:=(I.mod.glob.keeps I.bk).lt;exact Nat.lt_trans (by decide) h
theorem qF_{Q:Value->Shared->Prop}(hu:A.units+1 < cLine)(I:Inv X pins σ H s)(g:DGet H a y (some v))(ry:RelV y u)(h:∀ w' s',Inv X pins σ H s'->RelV v w'->Q w' s'):
  wpAny (model X.prog X.w) A (getItem (.ref a) u) Q E s:=by
 rcases g with ⟨kvs,k,e,ey,l⟩ | ⟨kvs,k,b,e,ey,eb,l⟩
 .subst ey
  obtain ⟨z,hd,vs,rel,dd⟩:=rX_ I.hok e;obtain ⟨w',hw,rw'⟩:=RelO.some_of (v:=v) (o:=valueAt vs k) (by rw [l];exact rel.val k)
  exact wpAny_getItem_of (rh_ ry) dd.mapOf hw (h w' _ (I.tok _) rw')
 .subst ey
  cases (show u=Value.ref b from ry);obtain ⟨z,hd,xs,rel,dd⟩:=rV_ I.hok e;obtain ⟨w',hw,rw'⟩:=RelO.some_of (v:=v) (o:=(atKey xs k).map (·.2)) (by rw [l];exact rel.val k)
  obtain ⟨p,hp,hp2⟩:=Option.map_eq_some_iff.mp hw;refine wpAny_getItem_heap (tupleKind_room_in1 hu) (vm_ I.hok eb) dd hp ?_;rw [hp2];exact h w' _ (I.tok _) rw'
theorem ap_{Q:Value->Shared->Prop}(hu:A.units+1 < cLine)(I:Inv X pins σ H s)(g:DGet H a y o)(ry:RelV y u)(h:∀ s',Inv X pins σ H s'->Q (.bool o.isSome) s'):
  wpAny (model X.prog X.w) A (compareOp .In u (.ref a)) Q E s:=by
 rcases g with ⟨kvs,k,e,ey,l⟩ | ⟨kvs,k,b,e,ey,eb,l⟩
 .subst ey
  obtain ⟨z,hd,vs,rel,dd⟩:=rX_ I.hok e;refine wpAny_in_of (rh_ ry) hd dd.mapOf ?_;rw [<-(rel.val k).isSome_eq,<-l];exact h _ (I.tok _)
 .subst ey
  cases (show u=Value.ref b from ry);obtain ⟨z,hd,xs,rel,dd⟩:=rV_ I.hok e;refine wpAny_in_heap (tupleKind_room_in1 hu) (vm_ I.hok eb) hd dd ?_;have q:=(rel.val k).isSome_eq;rw [Option.isSome_map] at q;rw [<-q,<-l];exact h _ (I.tok _)
theorem kz_{Q:Value->Shared->Prop}(hu:A.units+1 < cLine)(I:Inv X pins σ H s)(g:DGet H a y o)(ry:RelV y u)(h:∀ s',Inv X pins σ H s'->Q (.bool (!o.isSome)) s'):
  wpAny (model X.prog X.w) A (compareOp .NotIn u (.ref a)) Q E s:=by
 rcases g with ⟨kvs,k,e,ey,l⟩ | ⟨kvs,k,b,e,ey,eb,l⟩
 .subst ey
  obtain ⟨z,hd,vs,rel,dd⟩:=rX_ I.hok e;refine wpAny_notIn_of (rh_ ry) hd dd.mapOf ?_;rw [<-(rel.val k).isSome_eq,<-l];exact h _ (I.tok _)
 .subst ey
  cases (show u=Value.ref b from ry);obtain ⟨z,hd,xs,rel,dd⟩:=rV_ I.hok e;refine wpAny_notIn_heap (tupleKind_room_in1 hu) (vm_ I.hok eb) hd dd ?_;have q:=(rel.val k).isSome_eq;rw [Option.isSome_map] at q;rw [<-q,<-l];exact h _ (I.tok _)
theorem u4_{h':Heap}{t':Nat}{ob:HO}(I:Inv X pins σ H s)(mu:Mut (H a))(hs:Heap.SameBut a s.heap h')(he:∃ q,h'.get? a=some q)(new:ObjOk X.prog X.w (upd H a ob) h' a ob):
  Inv X pins σ (upd H a ob) { s with heap:=h',toks:=t' } :=
 I.write (x:=a) (e:=a) mu (.inl rfl) (λb q hb z=>(hs.2 b hb).trans z) he new
theorem fj_{P:Program}{w:World}{H':Hp}{h':Heap}{kvs:List (Key×V)}{vs:List (Key×Value)}(z:kvs.length<=sizeLine)(hd:(a == sysModules)=false)(rel:KV kvs vs)(dd:h'.DictOf (zL_ P w) a vs):
  ObjOk P w H' h' a (.dK kvs):=⟨z,hd,vs,rel,dd⟩
theorem qL_{H':Hp}{Q:Unit->Shared->Prop}(hu:A.units+1 < cLine)(I:Inv X pins σ H s)(g:DPut H a y v H')(ry:RelV y u)(rv:RelV v r)(h:∀ s',Inv X pins σ H' s'->Q () s'):
  wpAny (model X.prog X.w) A (setItem (.ref a) u r) Q E s:=by
 rcases g with ⟨kvs,k,e,ey,l,eH⟩ | ⟨kvs,k,b,e,ey,eb,l,eH⟩
 .subst ey eH
  obtain ⟨z,hd,vs,rel,dd⟩:=eS_ I.hok e;have hz:vs.length<=sizeLine:=by rw [<-rel.length];exact z
  have hl:(putK kvs k v).length<=sizeLine:=by have:=y1_ kvs k v;omega
  refine wpAny_setItem_pairs (hsz:=hz) (rh_ ry) dd λh' dd' hs=>h _ ?_;have he:∃ q,h'.get? a=some q:=let ⟨q,_,_,hq,_⟩:=dd';⟨q,hq⟩
  exact u4_ I (by rw [e];exact True.intro) hs he (fj_ hl hd (rel.put k rv) dd')
 .subst ey eH
  cases (show u=Value.ref b from ry);obtain ⟨z,hd,xs,rel,dd⟩:=gA_ I.hok e;have hz:xs.length<=sizeLine:=by rw [<-Paired.length rel];exact z
  have hl:(putK kvs k v).length<=sizeLine:=by have:=y1_ kvs k v;omega
  refine wpAny_setItem_heap (hsz:=hz) (tupleKind_room_in1 hu) (vm_ I.hok eb) dd λh' dd' hs=>h _ ?_;obtain ⟨q,es,ep,hq,h2,h3,h4,_,h5⟩:=dd';refine u4_ I (by rw [e];exact True.intro) hs ⟨q,hq⟩ ⟨hl,hd,_,(rel.put k eb rv).keeps λc ys ec => ?_,q,es,ep,hq,h2,h3,h4,h5⟩
  rw [zg_ (s0_ ec e (λz=>nomatch z))];exact ec
end
section
variable{X:Cx}{pins:List (Addr×Obj)}{σ:St}{H:Hp}{s:Shared}{a:Addr}{kvs:List (Key×V)}{k:Key}{u:Value}{A:Around}{E:Value->Shared->Prop}
end
end L2
namespace L2
open PySem PySem.Spec PyProof.Rows
theorem sl_{P:Program}{w:World}{H:Hp}(h:Heap)(hb:sysModules < h.objs.size):ObjOk P w H (h.push { cls := .type "dict",data := .dict #[] }) h.objs.size (.dT []) :=
 ⟨Nat.zero_le _,beq_eq_false_iff_ne.mpr (Ne.symm (Nat.ne_of_lt hb)),[],.nil,_,#[],0,Heap.get?_push_size _ rfl,⟨rfl,rfl,rfl⟩,rfl,rfl,List.nodup_nil⟩
noncomputable def fi_:TE:=λ_ H Q => ∀ p,H p=none->Q (.ref p) (upd H p (.dT []))
section
variable{X:Cx}{pos:Pos}
theorem p5_:PE X (.Dict [] [] pos) fi_:=λpins s σ H Q I h =>
 wpAny_Dict_empty ⟨.ref s.heap.objs.size,_,I.laid (a:=s.heap.objs.size) (o := .dT []) (t':=s.toks) (λ_ _ q=>Heap.get?_push_of_some _ q) (Nat.le_refl _) (sl_ s.heap I.big),rfl,h _ (I.hok.fresh (Nat.le_refl _))⟩
end
structure M1(X:Cx)(o:Expr)(m:Str)(apos:Pos)(e:Expr)(cpos:Pos):Prop where
 base:attributeBase o m X.env (eval o X.env)=eval o X.env
 few:((backTo cpos (starEach [e] X.env)).all (λx => !x.1) && (backToKw cpos (keywordEach [] X.env)).all (λx=>x.1.isSome)
  && decide (([e]:List Expr).length+([]:List Keyword).length+(if ([]:List Keyword).isEmpty then 0 else 1) < 30))=true
 line:(apos.endLine == cpos.line)=true
 trees:backTo cpos (starEach [e] X.env)=[(false,eval e X.env)]
structure M2(X:Cx)(o:Expr)(m:Str)(apos:Pos)(e f:Expr)(cpos:Pos):Prop where
 base:attributeBase o m X.env (eval o X.env)=eval o X.env
 few:((backTo cpos (starEach [e,f] X.env)).all (λx => !x.1) && (backToKw cpos (keywordEach [] X.env)).all (λx=>x.1.isSome)
  && decide (([e,f]:List Expr).length+([]:List Keyword).length+(if ([]:List Keyword).isEmpty then 0 else 1) < 30))=true
 line:(apos.endLine == cpos.line)=true
 trees:backTo cpos (starEach [e,f] X.env)=[(false,eval e X.env),(false,eval f X.env)]
section
variable{X:Cx}{pins:List (Addr×Obj)}{σ:St}{H:Hp}{s:Shared}{a:Addr}{y d:V}{u r:Value}{o:Option V}{A:Around}{E:Value->Shared->Prop}
end
section
variable{X:Cx}{o e f:Expr}{apos cpos:Pos}{td ty tx:TE}
end
end L2
namespace PI
noncomputable section
open PySem
section
variable{t:SetTable}{es:Array (Int×Value)}{Z:Z3}
end
section
variable{t:SetTable}{es:Array (Int×Value)}{Z:Z3}
end
section
variable{M:Nat}{owner:Own}{hs:List Int}{Y:List Nat}
end
section
variable{t:SetTable}{es:Array (Int×Value)}{Z:Z3}
end
open PySem PyProof.Rows
section
variable{prog:Program}{w:World}{A:Around}{E:Value->Shared->Prop}{s:Shared}
end
section
variable{prog:Program}{w:World}{A:Around}{E:Value->Shared->Prop}{s:Shared}{a b:Addr}{o:Obj}{D:List (List Int×Addr)}{es:Array (Int×Value)}{ep:Nat}{t:SetTable}{Z:Z3}{k:List Int}
end
section
variable{prog:Program}{w:World}{A:Around}{E:Value->Shared->Prop}{s:Shared}{a b:Addr}{o:Obj}{D:List (List Int×Addr)}{es:Array (Int×Value)}{ep:Nat}{t:SetTable}{Z:Z3}{k:List Int}
end
section
variable{prog:Program}{w:World}{A:Around}{R:Result->Shared->Prop}{I:Addr}{fp wr:List Addr}{G:Array GenState->Array GenState->Prop}{n:Nat}{P:Nat->Value->Prop}{St:Nat->Shared->Prop}
end
section
variable{prog:Program}{w:World}{A:Around}{E:Value->Shared->Prop}{s:Shared}
end
section
variable{prog:Program}{w:World}{A:Around}{E:Value->Shared->Prop}{s:Shared}{S it:Addr}{o:Obj}{D:List (List Int×Addr)}{es:Array (Int×Value)}{ep:Nat}{t:SetTable}{Z:Z3}
end
noncomputable def bS_:List Int->List Int->Bool
 | [],[]=>false
 | [],_ :: _=>true
 | _ :: _,[]=>false
 | a :: r,b :: q=>if a=b then bS_ r q else decide (a < b)
section
variable{prog:Program}{w:World}{A:Around}{E:Value->Shared->Prop}{s:Shared}
end
section
variable{prog:Program}{w:World}{A:Around}{E:Value->Shared->Prop}{s:Shared}{a₀ : Array Keyed}{rk:Keyed->Nat}{κ:SortKind}{st:SortSt}{lo hi:Nat}
end
section
variable{prog:Program}{w:World}{A:Around}{E:Value->Shared->Prop}{s:Shared}{a₀ : Array Keyed}{rk:Keyed->Nat}{κ:SortKind}{st:SortSt}{lo hi:Nat}
end
section
variable{prog:Program}{w:World}{A:Around}{E:Value->Shared->Prop}{s:Shared}{a₀ : Array Keyed}{rk:Keyed->Nat}{κ:SortKind}{st:SortSt}{lo hi:Nat}
end
noncomputable abbrev KyB:=List (List Int×Addr)
section
variable{prog:Program}{w:World}{A:Around}{E:Value->Shared->Prop}{s:Shared}{D:KyB}
end
section
variable{prog:Program}{w:World}{A:Around}{E:Value->Shared->Prop}{s:Shared}{a₀ : Array Keyed}{rk:Keyed->Nat}{κ:SortKind}{st:SortSt}
end
section
variable{rk:Keyed->Nat}{a b out:List Keyed}{ia ib:Nat}
end
section
variable{prog:Program}{w:World}{A:Around}{E:Value->Shared->Prop}{s:Shared}{a₀ : Array Keyed}{rk:Keyed->Nat}{κ:SortKind}{st:SortSt}
end
section
variable{prog:Program}{w:World}{A:Around}{E:Value->Shared->Prop}{s:Shared}{a₀ : Array Keyed}{rk:Keyed->Nat}{κ:SortKind}{st:SortSt}
end
section
variable{rk:Keyed->Nat}{a b out:List Keyed}{na nb:Nat}
end
section
variable{prog:Program}{w:World}{A:Around}{E:Value->Shared->Prop}{s:Shared}{a₀ : Array Keyed}{rk:Keyed->Nat}{κ:SortKind}{st:SortSt}
end
section
variable{rk:Keyed->Nat}
end
section
variable{prog:Program}{w:World}{A:Around}{E:Value->Shared->Prop}{s:Shared}{a₀ : Array Keyed}{rk:Keyed->Nat}{κ:SortKind}{st:SortSt}
end
section
variable{r r':Nat->Nat}
end
section
variable{prog:Program}{w:World}{A:Around}{E:Value->Shared->Prop}{s:Shared}{a₀ : Array Keyed}{rk:Keyed->Nat}{κ:SortKind}{st:SortSt}
end
section
variable{prog:Program}{w:World}{A:Around}{E:Value->Shared->Prop}{s:Shared}{a₀ : Array Keyed}{rk:Keyed->Nat}{κ:SortKind}{st:SortSt}
end
open PySem PyProof.Rows PySem.W
noncomputable def refs(D:KyB):List Value:=D.map λd => .ref d.2
section
variable{prog:Program}{w:World}{A:Around}{E:Value->Shared->Prop}{s:Shared}{D:KyB}
end
section
variable{prog:Program}{w:World}{A:Around}{E:Value->Shared->Prop}{s:Shared}{D:KyB}
end
open PySem
noncomputable section
inductive O where
 | lst (xs:List U) | dic (kvs:List (List Int×U)) | dif (kvs:List (List Int×U)) | dst (kvs:List (Str×U)) | ins (c:Nat) (fs:List (Nat×U))
noncomputable abbrev G:=List O
noncomputable abbrev Su:=List (Option U)
inductive Out(α:Type) where
 | ok (a:α) (g:G) | exc (c:Nat) (fs:List U) (g:G) | bad
noncomputable def Out.bind{α β:Type}(o:Out α)(k:α->G->Out β):Out β:=match o with
 | .ok a g=>k a g
 | .exc c fs g => .exc c fs g
 | .bad => .bad
noncomputable def Out.noex{α:Type}(o:Out α):Out α:=match o with
 | .ok a g => .ok a g
 | _ => .bad
noncomputable def Out.bindB{α β:Type}(o:Out α)(k:α->G->Out β):Out β:=match o with
 | .ok a g=>k a g
 | _ => .bad
inductive Fl where | nx (σ:Su) | rt (u:U) | bk (σ:Su) | ct (σ:Su)
inductive Iter where | lst (id:Nat) | dic (id:Nat) | enm (id:Nat) | seq (xs:List U) | rng (lo:Int) (n:Nat)
noncomputable def yY_(x y:U):Option Bool:=match x with
 | .non=>match y with
  | .non=>some true
  | .bl _=>some false
  | .int _=>some false
  | .str _=>some false
  | _=>none
 | .bl a=>match y with
  | .non=>some false
  | .bl b=>some (a == b)
  | .int b=>some ((if a then 1 else 0) == b)
  | .str _=>some false
  | _=>none
 | .int a=>match y with
  | .non=>some false
  | .bl b=>some (a == (if b then 1 else 0))
  | .int b=>some (a == b)
  | .str _=>some false
  | _=>none
 | .str a=>match y with
  | .non=>some false
  | .bl _=>some false
  | .int _=>some false
  | .str b=>some (a == b)
  | _=>none
 | _=>none
noncomputable def xt_:List U->List U->Option Bool
 | [],[]=>some true
 | x :: xs,y :: ys=>match yY_ x y with
  | none=>none
  | some b=>match xt_ xs ys with
   | none=>none
   | some c=>some (b && c)
 | _,_=>none
noncomputable def ueq:U->U->Option Bool
 | .tup xs,.tup ys=>xt_ xs ys
 | x,y=>yY_ x y
noncomputable def sF_:U->U->Bool
 | .int _,.int _=>true
 | .bl _,.bl _=>true
 | .str _,.str _=>true
 | .non,.non=>true
 | _,_=>false
noncomputable def u2_:Int:=18446744073709551616
noncomputable def yw_:Int:=115792089237316195423570985008687907853269984665640564039457584007913129639936
noncomputable def opZ(op:Op)(i j:Int):Option U:=match op with
 | .add=>some (.int (i+j))
 | .sub=>some (.int (i - j))
 | .mul=>if (decide (-u2_ < i) && decide (i < u2_)) || (decide (-u2_ < j) && decide (j < u2_)) || (decide (-yw_ < i) && decide (i < yw_) && decide (-yw_ < j) && decide (j < yw_)) then some (.int (i*j)) else none
 | .fdiv=>if 0 < j then (if j < yw_ then some (.int (i / j)) else none)
   else if j=0 then none else if -yw_ < j then some (.int (i.fdiv j)) else none
 | .mod=>if 0 < j then some (.int (i % j)) else if j=0 then none else some (.int (i.fmod j))
 | .pow=>if 0<=j/\j<=1000/\i.natAbs < 1000000 then some (.int (i ^ j.toNat)) else none
noncomputable def op2(op:Op)(x y:U):Option U:=match x with
 | .int i=>match y with
  | .int j=>opZ op i j
  | _=>none
 | _=>none
noncomputable def kS_:Op->U->U->Option U
 | .add,.int a,.int b=>some (.int (a+b))
 | .sub,.int a,.int b=>some (.int (a - b))
 | _,_,_=>none
noncomputable def uin(x:U):List U->Option Bool
 | []=>some false
 | y :: ys=>match ueq y x with
  | none=>none
  | some b=>match uin x ys with
   | none=>none
   | some c=>some (b || c)
noncomputable def items(u:U)(g:G):Option (List U):=match u with
 | .tup xs=>some xs
 | .fro xs=>some xs
 | .xn _ xs=>some xs
 | .ref n=>match g[n]? with
  | some (.lst xs)=>some xs
  | _=>none
 | _=>none
noncomputable def z8_:U->Bool
 | .non=>true
 | _=>false
noncomputable def intsOf:List U->Option (List Int)
 | []=>some []
 | .int i :: r=>(intsOf r).map (i :: ·)
 | _ :: _=>none
noncomputable def keyOf(u:U):Option (List Int):=match u with
 | .tup us=>intsOf us
 | _=>none
noncomputable def yy_(kvs:List (List Int×U))(k:List Int):Option U:=(kvs.find? λkv=>decide (kv.1=k)).map (·.2)
noncomputable def dput(kvs:List (List Int×U))(k:List Int)(v:U):List (List Int×U) :=
 if (kvs.any λkv=>decide (kv.1=k))=true then kvs.map (λkv=>if kv.1=k then (kv.1,v) else kv) else kvs++[(k,v)]
noncomputable def su_(kvs:List (List Int×U))(x:U):Option (List (List Int×U)):=match x with
 | .tup [k,u]=>(keyOf k).map λks=>dput kvs ks u
 | _=>none
noncomputable def dfold:List U->List (List Int×U)->Option (List (List Int×U))
 | [],kvs=>some kvs
 | x :: r,kvs=>(su_ kvs x).bind λk=>dfold r k
noncomputable def rD_(kvs:List (Str×U))(k:Str):Option U:=(kvs.find? λkv=>decide (kv.1=k)).map (·.2)
noncomputable def dc_(kvs:List (Str×U))(k:Str)(v:U):List (Str×U) :=
 if (kvs.any λkv=>decide (kv.1=k))=true then kvs.map (λkv=>if kv.1=k then (kv.1,v) else kv) else kvs++[(k,v)]
noncomputable def asS(y:U)(g:G):Option (List (Str×U)):=match y with
 | .ref n=>match g[n]? with
  | some (.dst kvs)=>some kvs
  | _=>none
 | _=>none
noncomputable def asD(y:U)(g:G):Option (List (List Int×U)):=match y with
 | .ref n=>match g[n]? with
  | some (.dic kvs)=>some kvs
  | some (.dif kvs)=>some kvs
  | _=>none
 | _=>none
noncomputable def zA_(x y:U)(g:G):Option (Option U):=match asD y g with
 | some kvs=>(keyOf x).map (yy_ kvs)
 | none=>none
noncomputable def qR_(x y:U)(g:G):Option (List U×List U):=match x with
 | .ref n=>match y with
  | .ref m=>match g[n]? with
   | some (.lst xs)=>match g[m]? with
    | some (.lst ys)=>some (xs,ys)
    | _=>none
   | _=>none
  | _=>none
 | _=>none
noncomputable def qs(q:U->U->Option Bool):List U->List U->Option Bool
 | [],[]=>some true
 | x :: xs,y :: ys=>match q x y with
  | none=>none
  | some b=>match qs q xs ys with
   | none=>none
   | some c=>some (b && c)
 | _,_=>none
noncomputable def d6_:U->U->Option Bool
 | .tup xs,.tup ys=>qs ueq xs ys
 | x,y=>yY_ x y
noncomputable def cmp2(op:Cp)(x y:U)(g:G):Option Bool:=match op with
 | .eq=>match qR_ x y g with
  | some p=>qs d6_ p.1 p.2
  | none=>ueq x y
 | .ne=>if sF_ x y then (yY_ x y).map (!·) else none
 | .lt=>match x,y with | .int i,.int j=>some (decide (i < j)) | _,_=>none
 | .le=>match x,y with | .int i,.int j=>some (decide (i<=j)) | _,_=>none
 | .gt=>match x,y with | .int i,.int j=>some (decide (j < i)) | _,_=>none
 | .ge=>match x,y with | .int i,.int j=>some (decide (j<=i)) | _,_=>none
 | .isN=>if z8_ y then some (z8_ x) else none
 | .notN=>if z8_ y then some (!z8_ x) else none
 | .inn=>match items y g with | some ys=>uin x ys | none=>(zA_ x y g).map Option.isSome
 | .nin=>match items y g with | some ys=>(uin x ys).map (!·) | none=>(zA_ x y g).map λo => !o.isSome
noncomputable def tru(u:U)(g:G):Option Bool:=match u with
 | .non=>some false
 | .bl b=>some b
 | .int i=>some (i != 0)
 | .tup xs=>some (!xs.isEmpty)
 | .fro xs=>some (!xs.isEmpty)
 | .ref n=>match g[n]? with
  | some (.lst xs)=>some (!xs.isEmpty)
  | _=>none
 | _=>none
noncomputable def uix(xs:List U)(i:Int):Option U:=L2.atI xs i
noncomputable def lift{α:Type}(o:Option α)(g:G):Out α:=match o with
 | some a => .ok a g
 | none => .bad
noncomputable def alloc(o:O)(g:G):Out U := .ok (.ref g.length) (g++[o])
noncomputable def zd_:Nat:=16777000
noncomputable def rT_(op:Op)(x y:U)(g:G):Out U:=match qR_ x y g with
 | some p=>match op with
  | .add=>if p.1.length+p.2.length<=zd_ then alloc (.lst (p.1++p.2)) g else .bad
  | _ => .bad
 | none=>lift (op2 op x y) g
noncomputable def yz_(x:U)(g:G):Option (Nat×List (Nat×U)):=match x with
 | .ref n=>match g[n]? with
  | some (.ins c fs)=>some (c,fs)
  | _=>none
 | _=>none
noncomputable def kU_(j:Nat)(u:U):List (Nat×U)->List (Nat×U)
 | []=>[(j,u)]
 | (i,x) :: r=>if i=j then (i,u) :: r else (i,x) :: kU_ j u r
noncomputable def uU_(j:Nat)(cs:List Nat)(p:Nat×List (Nat×U)):Option U:=if cs.contains p.1 then p.2.lookup j else none
noncomputable def yO_(x:U)(j:Nat)(cs:List Nat)(u:U)(g:G):Option G:=match x with
 | .ref n=>match g[n]? with
  | some (.ins c fs)=>if cs.contains c/\fs.length < 1000 then some (g.set n (.ins c (kU_ j u fs))) else none
  | _=>none
 | _=>none
noncomputable def y4_(j:Nat)(tb:List (Nat×Nat×List (Nat ⊕ U)))(p:Nat×List (Nat×U)):Option (Nat×List (Nat ⊕ U)):=match p.2.lookup j with
 | none=>tb.lookup p.1
 | some _=>none
noncomputable def pm_(t:Ty):Option Bool:=match t with | .tlist=>some true | .own _=>none | _=>some false
noncomputable def vL_(t:Ty)(u:U)(g:G):Option Bool:=match u with
 | .non=>match t with | .own _=>none | _=>some false
 | .bl _=>match t with | .tint=>some true | .tbool=>some true | .own _=>none | _=>some false
 | .int _=>match t with | .tint=>some true | .own _=>none | _=>some false
 | .str _=>match t with | .tstr=>some true | .own _=>none | _=>some false
 | .tup _=>match t with | .ttuple=>some true | .own _=>none | _=>some false
 | .ref n=>match g[n]? with
  | some (.lst _)=>pm_ t
  | _=>none
 | _=>none
noncomputable def tP_(xs:List U)(lo hi:Option Int):List U:=(xs.drop (HT.sIx xs.length 0 lo)).take (HT.sIx xs.length xs.length hi - HT.sIx xs.length 0 lo)
noncomputable def best(m:Bool)(a:Int)(r:List Int):Int:=r.foldl (λx y=>if m then (if y < x then y else x) else (if y > x then y else x)) a
noncomputable def insI(a:Int):List Int->List Int
 | []=>[a]
 | b :: r=>if a<=b then a :: b :: r else b :: insI a r
noncomputable def sortI:List Int->List Int
 | []=>[]
 | a :: r=>insI a (sortI r)
noncomputable def pT_(us:List U)(g:G):Out U:=match us with
 | [u]=>match items u g with
  | some xs => .ok (.int xs.length) g
  | none => .bad
 | _ => .bad
noncomputable def m7_(us:List U)(g:G):Out U:=match us with
 | [u]=>match u with
  | .int i => .ok (.int (if i < 0 then -i else i)) g
  | _ => .bad
 | _ => .bad
noncomputable def tupI(k:List Int):U := .tup (k.map .int)
noncomputable def uE_(us:List U)(g:G):Out U:=match us with
 | [u]=>match items u g with
  | some xs=>alloc (.lst xs) g
  | none=>match asD u g with
   | some kvs=>alloc (.lst (kvs.map λkv=>tupI kv.1)) g
   | none => .bad
 | _ => .bad
noncomputable def zu_(us:List U)(g:G):Option (List Int):=match us with
 | [.ref n]=>match g[n]? with
  | some (.lst xs)=>intsOf xs
  | _=>none
 | _=>none
noncomputable def mh_(m:Bool)(us:List U)(g:G):Out U:=match intsOf us with
 | some ns=>match ns with
  | [a,b] => .ok (.int (best m a [b])) g
  | [a,b,c] => .ok (.int (best m a [b,c])) g
  | _ => .bad
 | none=>match zu_ us g with
  | some ns=>match ns with
   | a :: r => .ok (.int (best m a r)) g
   | [] => .bad
  | none => .bad
noncomputable def pQ_(us:List U)(g:G):Out U:=match zu_ us g with
 | some ns => .ok (.int ns.sum) g
 | none => .bad
noncomputable def co_(us:List U)(g:G):Out U:=match us with
 | [u]=>match u with
  | .tup xs => .ok (.tup xs) g
  | .xn c xs => .ok (.xn c xs) g
  | .ref n=>match g[n]? with
   | some (.lst xs) => .ok (.tup xs) g
   | _ => .bad
  | _ => .bad
 | _ => .bad
noncomputable def gp_(g:G):List U->Option (List U)
 | []=>some []
 | .ref n :: r=>match g[n]? with
  | some (.lst xs)=>(gp_ g r).map (xs ++ ·)
  | _=>none
 | _ :: _=>none
noncomputable def dO_(us:List U)(g:G):Out U:=match us with
 | [.ref n,.ref m]=>match g[n]? with
  | some (.lst (x :: xs))=>match g[m]? with
   | some (.lst [])=>match gp_ g (x :: xs) with
    | some zs=>if zs.length<=zd_ then alloc (.lst zs) g else .bad
    | none => .bad
   | _ => .bad
  | _ => .bad
 | _ => .bad
noncomputable def ha_:List U->Option (List (List Int))
 | []=>some []
 | u :: r=>match keyOf u with
  | none=>none
  | some k=>match ha_ r with
   | none=>none
   | some ks=>some (k :: ks)
noncomputable def bi_(a:List Int):List (List Int)->List (List Int)
 | []=>[a]
 | b :: r=>if a=b then b :: r else if bS_ a b=true then a :: b :: r else b :: bi_ a r
noncomputable def sU:List (List Int)->List (List Int)
 | []=>[]
 | a :: r=>bi_ a (sU r)
noncomputable def hkL(k:List Int):Int:=reduceHash (Builtin.Tuple.tupleHashOf (k.map hashInt))
noncomputable def okS(ks:List (List Int)):Prop:=ks.length<=300/\(∀ k∈ks,k≠[]) /\ ∀ a∈ks,∀ b∈ks,hkL a=hkL b->a=b
noncomputable def h7_(us:List U)(g:G):Out U:=match us with
 | [.ref n]=>match g[n]? with
  | some (.lst xs)=>match ha_ xs with
   | some ks=>open Classical in if okS ks then alloc (.lst ((sU ks).map tupI)) g else .bad
   | none => .bad
  | _ => .bad
 | _ => .bad
noncomputable def st_(us:List U)(g:G):Out U:=match zu_ us g with
 | some ns=>if ns.length < 64 then alloc (.lst ((sortI ns).map U.int)) g else .bad
 | none => .bad
noncomputable def db_(us:List U)(g:G):Out U:=match us with
 | [u]=>match asD u g with
  | some kvs=>open Classical in if kvs≠[] /\ ∀ a∈kvs.map (·.1),∀ b∈kvs.map (·.1),hkL a=hkL b->a=b then alloc (.dic kvs) g else .bad
  | none => .bad
 | _ => .bad
noncomputable def bi1(b:Bi)(us:List U)(g:G):Out U:=match b with
 | .len=>pT_ us g
 | .abs=>m7_ us g
 | .list=>uE_ us g
 | .mn=>mh_ true us g
 | .mx=>mh_ false us g
 | .srt=>st_ us g
 | .sum=>pQ_ us g
 | .tupl=>co_ us g
 | .cat=>dO_ us g
 | .sset=>h7_ us g
 | .dct=>db_ us g
noncomputable def asL(x:U)(g:G):Option Nat:=match x with
 | .ref n=>match g[n]? with
  | some (.lst _)=>some n
  | _=>none
 | _=>none
noncomputable def xm_(n:Nat)(y:U)(g:G):Out U:=match g[n]? with
 | some (.lst xs)=>if xs.length < zd_ then .ok .non (g.set n (.lst (xs++[y]))) else .bad
 | _ => .bad
noncomputable def vA_(n:Nat)(y:U)(g:G):Out U:=match asL y g with
 | some m=>match g[n]?,g[m]? with
  | some (.lst xs),some (.lst ys)=>if xs.length+ys.length < zd_ then .ok .non (g.set n (.lst (xs++ys))) else .bad
  | _,_ => .bad
 | none => .bad
noncomputable def ux_(n:Nat)(g:G):Out U:=match g[n]? with
 | some (.lst xs) => .ok .non (g.set n (.lst xs.reverse))
 | _ => .bad
noncomputable def w1_(n:Nat)(g:G):Out U:=match g[n]? with
 | some (.lst xs)=>match xs[xs.length - 1]? with
  | some y => .ok y (g.set n (.lst xs.dropLast))
  | none => .bad
 | _ => .bad
noncomputable def uj_(n:Nat)(y:U)(g:G):Out U:=match y with
 | .int i=>match g[n]? with
  | some (.lst xs)=>if 0<=i/\i < 9223372036854775808 then match xs[i.toNat]? with
   | some u => .ok u (g.set n (.lst (xs.eraseIdx i.toNat)))
   | none => .bad
   else .bad
  | _ => .bad
 | _ => .bad
noncomputable def evs(f:E->Su->G->Out U):List E->Su->G->Out (List U)
 | [],_,g => .ok [] g
 | e :: es,σ,g=>(f e σ g).bind λu g=>(evs f es σ g).bind λus g => .ok (u :: us) g
noncomputable def evo(f:E->Su->G->Out U):Option E->Su->G->Out (Option Int)
 | none,_,g => .ok none g
 | some e,σ,g=>(f e σ g).bind λu g=>match u with
  | .int i => .ok (some i) g
  | _ => .bad
noncomputable def next(it:Iter)(i:Nat)(g:G):Option (Option U):=match it with
 | .lst id=>match g[id]? with
  | some (.lst xs)=>some xs[i]?
  | _=>none
 | .dic id=>match g[id]? with
  | some (.dif kvs)=>some ((kvs[i]?).map λkv => .tup (kv.1.map .int))
  | _=>none
 | .enm id=>match g[id]? with
  | some (.lst xs)=>some ((xs[i]?).map λu => .tup [.int i,u])
  | _=>none
 | .seq xs=>some xs[i]?
 | .rng lo n=>some (if i < n then some (.int (lo+i)) else none)
noncomputable def bindL:List Nat->List U->Su->Option Su
 | [],[],σ=>some σ
 | i :: is,u :: us,σ=>if i < σ.length then bindL is us (σ.set i (some u)) else none
 | _,_,_=>none
noncomputable def yN_(t:Tg)(σ:Su):Bool:=match t with
 | .nm i=>match σ[i]? with | some none=>true | _=>false
 | .tp is=>is.all λi=>match σ[i]? with | some none=>true | _=>false
noncomputable def zw_(t:Tg)(u:U)(σ:Su):Option Su:=match t with
 | .nm i=>if i < σ.length then some (σ.set i (some u)) else none
 | .tp is=>match u with
  | .tup us=>bindL is us σ
  | _=>none
noncomputable def unl(t:Tg)(u:U)(g:G):U:=match t with
 | .nm _=>u
 | .tp _=>match u with
  | .ref n=>match g[n]? with
   | some (.lst xs) => .tup xs
   | _=>u
  | _=>u
noncomputable def pick(us:List U)(p:Nat ⊕ U):U:=match p with
 | .inl i=>us[i]?.getD .non
 | .inr u=>u
noncomputable def perm(us:List U)(pm:List (Nat ⊕ U)):List U:=pm.map (pick us)
structure L where
 ev:E->Su->G->Out U
 ts:E->Su->G->Out Bool
 ex:List S->Su->G->Out Fl
 wh:E->List S->Su->G->Out Fl
 fr:Tg->Iter->Nat->List S->Su->G->Out Fl
 cm:Iter->Nat->Tg->List E->List (Tg×E×List E)->E->List U->Su->G->Out (List U)
noncomputable def itF(r:L)(e:E)(σ:Su)(g:G):Out Iter:=match e with
 | .rng1 a=>(r.ev a σ g).bind λu g=>match u with
  | .int j=>if -1000000 < j/\j < 1000000 then .ok (.rng 0 j.toNat) g else .bad
  | _ => .bad
 | .rng2 a b=>(r.ev a σ g).bind λu g=>(r.ev b σ g).bind λw g=>match u,w with
  | .int i,.int j=>if -1000000 < i/\i < 1000000 /\ -1000000 < j/\j < 1000000 then .ok (.rng i (j - i).toNat) g else .bad
  | _,_ => .bad
 | .enm a=>(r.ev a σ g).bind λu g=>match asL u g with
  | some n => .ok (.enm n) g
  | none => .bad
 | e=>(r.ev e σ g).bind λu g=>match u with
  | .tup xs => .ok (.seq xs) g
  | .xn _ xs => .ok (.seq xs) g
  | .ref n=>match g[n]? with
   | some (.lst _) => .ok (.lst n) g
   | some (.dic kvs) => .ok (.dic n) (g.set n (.dif kvs))
   | some (.dif _) => .ok (.dic n) g
   | _ => .bad
  | _ => .bad
noncomputable def evF(C:Nat->List U->G->Out U)(r:L)(e:E)(σ:Su)(g:G):Out U:=match e with
 | .var i=>match σ[i]? with
  | some (some u) => .ok u g
  | _ => .bad
 | .cst u => .ok u g
 | .bin op a b=>(r.ev a σ g).bind λx g=>(r.ev b σ g).bind λy g=>rT_ op x y g
 | .cmp op a b=>(r.ev a σ g).bind λx g=>(r.ev b σ g).bind λy g=>match cmp2 op x y g with
  | some c => .ok (.bl c) g
  | none => .bad
 | .chain op op' a b c=>(r.ev a σ g).bind λx g=>(r.ev b σ g).bind λy g=>match cmp2 op x y g with
  | some true=>(r.ev c σ g).bind λz g=>match cmp2 op' y z g with
   | some c => .ok (.bl c) g
   | none => .bad
  | some false => .ok (.bl false) g
  | none => .bad
 | .and a b=>(r.ev a σ g).bind λx g=>match x with
  | .bl true=>r.ev b σ g
  | .bl false => .ok (.bl false) g
  | _ => .bad
 | .or a b=>(r.ev a σ g).bind λx g=>match x with
  | .bl true => .ok (.bl true) g
  | .bl false=>r.ev b σ g
  | _ => .bad
 | .not a=>(r.ev a σ g).bind λx g=>match tru x g with
  | some c => .ok (.bl (!c)) g
  | none => .bad
 | .neg a=>(r.ev a σ g).bind λx g=>match x with
  | .int i => .ok (.int (-i)) g
  | _ => .bad
 | .ite c a b=>(r.ts c σ g).bind λk g=>if k then r.ev a σ g else r.ev b σ g
 | .tup es=>(evs r.ev es σ g).bind λus g=>if us.length<=zd_ then .ok (.tup us) g else .bad
 | .lst es=>(evs r.ev es σ g).bind λus g=>if us.length<=zd_ then alloc (.lst us) g else .bad
 | .idx a b=>(r.ev a σ g).bind λx g=>(r.ev b σ g).bind λy g=>match y with
  | .int i=>match items x g with
   | some xs=>lift (uix xs i) g
   | none => .bad
  | .tup _=>lift ((zA_ y x g).bind id) g
  | .str k=>lift ((asS x g).bind λkvs=>rD_ kvs k) g
  | _ => .bad
 | .slc a lo hi=>(r.ev a σ g).bind λx g=>(evo r.ev lo σ g).bind λl g=>(evo r.ev hi σ g).bind λh g=>match x with
  | .tup xs=>if HT.sIx xs.length 0 l=0/\HT.sIx xs.length xs.length h=xs.length then .bad else .ok (.tup (tP_ xs l h)) g
  | .fro xs=>alloc (.lst (tP_ xs l h)) g
  | .ref n=>match g[n]? with
   | some (.lst xs)=>alloc (.lst (tP_ xs l h)) g
   | _ => .bad
  | _ => .bad
 | .rev a=>(r.ev a σ g).bind λx g=>match x with
  | .ref n=>match g[n]? with
   | some (.lst xs)=>alloc (.lst xs.reverse) g
   | _ => .bad
  | _ => .bad
 | .call f es=>(evs r.ev es σ g).bind λus g=>C f us g
 | .callx f es=>(evs r.ev es σ g).noex.bind λus g=>C f us g
 | .callk f es ks pm=>(evs r.ev es σ g).noex.bind λus g=>(evs r.ev ks σ g).noex.bind λws g=>if us.length=es.length/\ws.length=ks.length then C f (perm (us++ws) pm) g else .bad
 | .fld a j cs=>(r.ev a σ g).bind λx g=>lift ((yz_ x g).bind (uU_ j cs)) g
 | .make c f es ks pm=>(evs r.ev es σ g).bind λus g=>(evs r.ev ks σ g).bind λws g=>if us.length=es.length/\ws.length=ks.length then
   (C f (perm (.ref g.length :: us++ws) pm) (g++[.ins c []])).bind λu g'=>if z8_ u then .ok (.ref g.length) g' else .bad else .bad
 | .meth a j tb es ks=>(r.ev a σ g).bind λx g=>match (yz_ x g).bind (y4_ j tb) with
  | some p=>(evs r.ev es σ g).bind λus g=>(evs r.ev ks σ g).bind λws g=>if us.length=es.length/\ws.length=ks.length then C p.1 (perm (x :: us++ws) p.2) g else .bad
  | none => .bad
 | .revm o=>(r.ev o σ g).bind λx g=>match asL x g with
  | some n=>ux_ n g
  | none => .bad
 | .bi b es=>(evs r.ev es σ g).bind λus g=>bi1 b us g
 | .isi a t=>(r.ev a σ g).bind λx g=>match vL_ t x g with
  | some c => .ok (.bl c) g
  | none => .bad
 | .popi o v=>(r.ev o σ g).bind λx g=>match asL x g with
  | some n=>(r.ev v σ g).bind λy g=>uj_ n y g
  | none => .bad
 | .app o v=>(r.ev o σ g).bind λx g=>match asL x g with
  | some n=>(r.ev v σ g).bind λy g=>xm_ n y g
  | none => .bad
 | .ext o v=>(r.ev o σ g).bind λx g=>match asL x g with
  | some n=>(r.ev v σ g).bind λy g=>vA_ n y g
  | none => .bad
 | .pop o=>(r.ev o σ g).bind λx g=>match asL x g with
  | some n=>w1_ n g
  | none => .bad
 | .rng1 _ => .bad
 | .rng2 _ _ => .bad
 | .enm _ => .bad
 | .dnew=>alloc (.dic []) g
 | .comp own fr gs elt=>match gs with
  | [] => .bad
  | (t,it,cs) :: rest=>(itF r it σ g).bind λi g =>
    (r.cm i 0 t cs rest elt [] (List.replicate own none++fr.map λj=>(σ[j]?).getD none) g).bindB λus g =>
     if us.length<=zd_ then alloc (.lst us) g else .bad
 | .ddsp ks es=>(evs r.ev es σ g).bind λus g=>alloc (.dst (ks.zip us)) g
 | .dgt o k x=>(r.ev o σ g).bind λd g=>match asD d g with
  | some _=>(r.ev k σ g).bind λy g=>(r.ev x σ g).bind λz g=>match zA_ y d g with
   | some w => .ok (w.getD z) g
   | none => .bad
  | none => .bad
 | .pair k v=>(r.ev k σ g).bind λx g=>(r.ev v σ g).bind λy g=>match keyOf x with
  | some _ => .ok (.tup [x,y]) g
  | none => .bad
 | .dcmp own fr gs k v=>match gs with
  | [] => .bad
  | (t,it,cs) :: rest=>(itF r it σ g).bind λi g =>
    (r.cm i 0 t cs rest (.pair k v) [] (List.replicate own none++fr.map λj=>(σ[j]?).getD none) g).bindB λus g=>match dfold us [] with
     | some kvs=>alloc (.dic kvs) g
     | none => .bad
noncomputable def tsF(r:L)(e:E)(σ:Su)(g:G):Out Bool:=match e with
 | .and a b=>(r.ts a σ g).bind λc g=>if c then r.ts b σ g else .ok false g
 | .or a b=>(r.ts a σ g).bind λc g=>if c then .ok true g else r.ts b σ g
 | .not a=>(r.ts a σ g).bind λc g => .ok (!c) g
 | .ite c a b=>(r.ts c σ g).bind λk g=>if k then r.ts a σ g else r.ts b σ g
 | e=>(r.ev e σ g).bind λx g=>lift (tru x g) g
noncomputable def dk_(n:Nat)(k:Int)(u:U)(σ:Su)(g:G):Out Fl:=match g[n]? with
 | some (.lst xs)=>match L2.ixN xs.length k with
  | some j => .ok (.nx σ) (g.set n (.lst (xs.set j u)))
  | none => .bad
 | _ => .bad
noncomputable def dZ_(n:Nat)(us:List U)(u:U)(σ:Su)(g:G):Out Fl:=match g[n]? with
 | some (.dic kvs)=>match intsOf us with
  | some k=>if kvs.length < zd_ then .ok (.nx σ) (g.set n (.dic (dput kvs k u))) else .bad
  | none => .bad
 | _ => .bad
noncomputable def bL_(n:Nat)(k:Str)(u:U)(σ:Su)(g:G):Out Fl:=match g[n]? with
 | some (.dst kvs)=>if kvs.length < zd_ then .ok (.nx σ) (g.set n (.dst (dc_ kvs k u))) else .bad
 | _ => .bad
noncomputable def e8_(kvs:List (List Int×U))(k:List Int):List (List Int×U):=kvs.filter λx => !decide (x.1=k)
noncomputable def qx_(x y:U)(σ:Su)(g:G):Out Fl:=match x with
 | .ref n=>match g[n]? with
  | some (.dic kvs)=>match keyOf y with
   | some k=>if k∈kvs.map (·.1) then .ok (.nx σ) (g.set n (.dic (e8_ kvs k))) else .bad
   | none => .bad
  | _ => .bad
 | _ => .bad
noncomputable def subAt(x y u:U)(σ:Su)(g:G):Out Fl:=match x with
 | .ref n=>match y with
  | .int k=>dk_ n k u σ g
  | .tup us=>dZ_ n us u σ g
  | .str k=>bL_ n k u σ g
  | _ => .bad
 | _ => .bad
noncomputable def xvs(fs:List U):List (Option U)->Option (List U)
 | []=>some []
 | some u :: r=>(xvs fs r).map (u :: ·)
 | none :: r=>match fs with
  | [v]=>(xvs fs r).map (v :: ·)
  | _=>none
noncomputable def d7_(o:Out U)(j c:Nat)(xs:List (Option U))(σ:Su):Out Fl:=match o with
 | .ok u g=>if j < σ.length then .ok (.nx (σ.set j (some u))) g else .bad
 | .exc c' fs g=>if c'=c/\j < σ.length/\xs.length<=zd_/\fs.length=1 then match xvs fs xs with
  | some us => .ok (.nx ((List.replicate σ.length none).set j (some (.tup us)))) g
  | none => .bad
  else .bad
 | .bad => .bad
noncomputable def s1F(r:L)(s:S)(σ:Su)(g:G):Out Fl:=match s with
 | .ret e=>(r.ev e σ g).bind λu g => .ok (.rt u) g
 | .retN => .ok (.rt .non) g
 | .set t e=>(r.ev e σ g).bind λu g=>match zw_ t (unl t u g) σ with
   | some σ' => .ok (.nx σ') g
   | none => .bad
 | .par i j a b=>(r.ev a σ g).bind λu g=>(r.ev b σ g).bind λw g =>
    if i < σ.length/\j < σ.length then .ok (.nx ((σ.set i (some u)).set j (some w))) g else .bad
 | .del o i=>(r.ev o σ g).bind λx g=>(r.ev i σ g).bind λy g=>qx_ x y σ g
 | .sub o i e=>(r.ev e σ g).bind λu g=>(r.ev o σ g).bind λx g=>(r.ev i σ g).bind λy g=>subAt x y u σ g
 | .aug i op e=>match σ[i]? with
   | some (some x)=>(r.ev e σ g).bind λy g=>match kS_ op x y with
    | some z => .ok (.nx (σ.set i (some z))) g
    | none => .bad
   | _ => .bad
 | .exp e=>(r.ev e σ g).bind λ_ g => .ok (.nx σ) g
 | .ife c a b=>(r.ts c σ g).bind λk g=>if k then r.ex a σ g else r.ex b σ g
 | .whl c b=>r.wh c b σ g
 | .for t it b=>(itF r it σ g).bind λi g=>r.fr t i 0 b σ g
 | .pass => .ok (.nx σ) g
 | .brk => .ok (.bk σ) g
 | .cont => .ok (.ct σ) g
 | .never => .bad
 | .fset a j cs e=>(r.ev e σ g).bind λu g=>(r.ev a σ g).bind λx g=>match yO_ x j cs u g with
  | some g' => .ok (.nx σ) g'
  | none => .bad
 | .nox b=>(r.ex b σ g).noex
 | .ifx c a b=>(r.ts c σ g).noex.bind λk g=>if k then r.ex a σ g else r.ex b σ g
 | .forx t it b=>(itF r it σ g).noex.bind λi g=>r.fr t i 0 b σ g
 | .raise c es=>(evs r.ev es σ g).noex.bind λus g=>if us.length<=zd_ then .exc c us g else .bad
 | .tryf j f es c xs=>d7_ (r.ev (.callx f es) σ g) j c xs σ
noncomputable def exF(r:L)(ss:List S)(σ:Su)(g:G):Out Fl:=match ss with
 | [] => .ok (.nx σ) g
 | s :: rest=>(s1F r s σ g).bind λf g=>match f with
  | .nx σ'=>r.ex rest σ' g
  | f => .ok f g
noncomputable def whF(r:L)(c:E)(b:List S)(σ:Su)(g:G):Out Fl :=
 (r.ts c σ g).bind λk g=>if k then (r.ex b σ g).bind λf g=>match f with
  | .nx σ'=>r.wh c b σ' g
  | .ct σ'=>r.wh c b σ' g
  | .bk σ' => .ok (.nx σ') g
  | .rt u => .ok (.rt u) g
 else .ok (.nx σ) g
noncomputable def frF(r:L)(t:Tg)(it:Iter)(i:Nat)(b:List S)(σ:Su)(g:G):Out Fl:=match next it i g with
 | none => .bad
 | some none => .ok (.nx σ) g
 | some (some u)=>match zw_ t u σ with
  | none => .bad
  | some σ1=>(r.ex b σ1 g).bind λf g=>match f with
   | .nx σ'=>r.fr t it (i+1) b σ' g
   | .ct σ'=>r.fr t it (i+1) b σ' g
   | .bk σ' => .ok (.nx σ') g
   | .rt u => .ok (.rt u) g
noncomputable def wY_(f:E->Su->G->Out Bool):List E->Su->G->Out Bool
 | [],_,g => .ok true g
 | c :: cs,σ,g=>(f c σ g).bind λk g=>if k then wY_ f cs σ g else .ok false g
noncomputable def cmF(r:L)(it:Iter)(i:Nat)(t:Tg)(cs:List E)(rest:List (Tg×E×List E))(elt:E)(acc:List U)(σ:Su)(g:G):Out (List U):=match next it i g with
 | none => .bad
 | some none => .ok acc g
 | some (some u)=>if yN_ t σ then match zw_ t u σ with
  | none => .bad
  | some σ1=>(wY_ r.ts cs σ1 g).bindB λk g=>if k then
    match rest with
    | []=>(r.ev elt σ1 g).bindB λv g=>if acc.length < zd_ then r.cm it (i+1) t cs rest elt (acc++[v]) σ g else .bad
    | (t2,it2,cs2) :: rest2=>(itF r it2 σ1 g).bindB λj g=>(r.cm j 0 t2 cs2 rest2 elt acc σ1 g).bindB λacc2 g=>r.cm it (i+1) t cs rest elt acc2 σ g
   else r.cm it (i+1) t cs rest elt acc σ g
  else .bad
noncomputable def lev(C:Nat->List U->G->Out U):Nat->L
 | 0=>⟨λ_ _ _ => .bad,λ_ _ _ => .bad,λ_ _ _ => .bad,λ_ _ _ _ => .bad,λ_ _ _ _ _ _ => .bad,λ_ _ _ _ _ _ _ _ _ => .bad⟩
 | n+1=>let r:=lev C n
  ⟨evF C r,tsF r,exF r,whF r,frF r,cmF r⟩
noncomputable def nV_(fu:Nat)(C:Nat->List U->G->Out U)(F:Fn)(us:List U)(g:G):Out U :=
 if us.length=F.np then
  ((lev C fu).ex F.body (us.map some++List.replicate (F.ns - us.length) none) g).bind λf g=>match f with
   | .rt u => .ok u g
   | .nx _ => .ok .non g
   | _ => .bad
 else .bad
noncomputable def zb_(fns:List Fn)(fu:Nat):Nat->Nat->List U->G->Out U
 | 0=>λ_ _ _ => .bad
 | d+1=>λf us g=>match fns[f]? with
  | some F=>nV_ fu (zb_ fns fu d) F us g
  | none => .bad
end
end
end PI
namespace L2
open PySem PySem.Spec PyProof.Rows
section
variable{prog:Program}{w:World}{A:Around}{E:Value->Shared->Prop}{s:Shared}
theorem qg_{d:Addr}{o:Obj}{es:Array DictEntry}{ep:Nat}{Q:Value->Shared->Prop}(hs:(d == sysModules)=false)(ho:s.heap.get? d=some o)(hx:o.ExactDict)(hd:o.data=.dict es ep)
  (h:Q (.ref s.heap.objs.size) { s with heap:=s.heap.push { cls := .type "dict_keyiterator",data := .fields #[.ref d,.int 0 0,.int es.size 0,.int ep 0] } }):wpAny (model prog w) A (pyIter (.ref d)) Q E s:=by
 have t:s.TypeIs (.ref d) "dict" := ⟨o,ho,hx.1⟩;refine wpAny_pyIter_slot t F.slot_dict_iter (wpAny_call_entry F.slot_dict_iter t F.entry_dict_iter ?_ (F.args_dict_iter_1 _));unfold Builtin.«dict.__iter__»;refine ZB ?_;unfold Builtin.Dict.dictSlotNone;refine ZB (wpAny_notOrdered_dict t ?_);show wpAny _ _ (pure (Value.ref d)) _ _ s;refine ZP ?_;show wpAny _ _ (Builtin.Dict.showsAll d >>= _) _ _ s;unfold Builtin.Dict.showsAll;rw [hs,if_neg Bool.false_ne_true];refine ZB (ZP (ZB (wpAny_dictEntries ho hd (ZB (wpAny_dictEpoch ho hd ?_)))));exact ZB (wpAny_newObj_type (ZP ⟨_,rfl,"dict_keyiterator",_,⟨_,Heap.get?_push_size _ rfl,rfl⟩,F.slot_dict_keyiterator_next.lookup,by simpa [rawInt] using h⟩))
theorem pg_{it d:Addr}{od:Obj}{i ep:Nat}{es:Array DictEntry}{e:DictEntry}{Q:Option Value->Shared->Prop}(hit:s.heap.IsKeyIter it d i es.size ep)(hod:s.heap.get? d=some od)(hdd:od.data=.dict es ep)(hx:es[i]? = some e)
  (h:∀ h',h'.IsKeyIter it d (i+1) es.size ep->Heap.SameBut it s.heap h'->Q (some e.key) { s with heap:=h' }):wpAny (model prog w) A (pyNext (.ref it)) Q E s:=by
 obtain ⟨o,ho,hc,hd⟩:=id hit;obtain ⟨hlt,hel⟩:=Array.getElem?_eq_some_iff.mp hx;unfold pyNext;refine ZB (wpAny_attempt (wpAny_callSpecial?_slot (name:=Str.ofString "__next__") hit.typeIs F.slot_dict_keyiterator_next (wpAny_call_entry F.slot_dict_keyiterator_next hit.typeIs F.entry_dict_keyiterator_next ?_ (F.args_dict_keyiterator_next_1 _))));refine ZB (ZP ?_);refine ZB ?_;refine ZB ?_
 (first | refine ZB (wpAny_typeNameOfWhole_keyiter hit.typeIs (ZP ?_)) | refine ZB (wpAny_typeNameOf_keyiter hit.typeIs (ZP ?_)))
 refine ZB (wpAny_fieldsOf ho hd ?_);simp only [show Builtin.Dict_items.ownsTuple "dict_keyiterator" = false from by decide,Bool.false_eq_true,if_false]
 show wpAny _ _ (if (Value.ref d == Value.none)=true then _ else _) _ _ s;rw [if_neg (show ¬ ((Value.ref d == Value.none)=true) from Bool.false_ne_true)]
 refine ZB (ZP (ZB (wpAny_dictEntries hod hdd ?_)));rw [if_neg (by simp)];refine ZB (ZP (ZB (wpAny_dictEpoch hod hdd ?_)));rw [if_neg (by simp)];refine ZP ?_
 simp only [show ¬ ((i:Int) < 0) from by omega,if_false,Int.toNat_natCast,hx];refine ZB ?_
 (first | refine ZB (wpAny_typeNameOfWhole_keyiter hit.typeIs (ZP ?_)) | refine ZB (wpAny_typeNameOf_keyiter hit.typeIs (ZP ?_)))
 refine ZB (wpAny_isOneOf_keyiter hit.typeIs ?_);show wpAny _ _ (setField (.ref it) 1 (rawInt ((i:Int)+1)) >>= _) _ _ s;refine ZB (wpAny_setField ho hd (by simp) ?_)
 have n:(s.heap.update it (Obj.mapFields (·.setIfInBounds 1 (rawInt ((i:Int)+1))))).IsKeyIter it d (i+1) es.size ep:=⟨_,Heap.get?_update_self _ ho (Obj.isFreed_of_fields (Obj.data_mapFields hd _)),(Obj.cls_mapFields ..).trans hc,by rw [Obj.data_mapFields hd];simp [rawInt]⟩
 refine ZB (wpAny_holding (ZB (wpAny_isOneOf_keyiter (s:={ s with heap:=s.heap.update it (Obj.mapFields (·.setIfInBounds 1 (rawInt ((i:Int)+1)))) }) n.typeIs ?_)));show wpAny _ _ (pure e.key) _ _ _
 exact ZP (ZP ⟨_,rfl,ZP (h _ n (Heap.SameBut.update ..))⟩)
theorem ri_{it d:Addr}{od:Obj}{i ep:Nat}{es:Array DictEntry}{Q:Option Value->Shared->Prop}(hh:A.handled=none)(hit:s.heap.IsKeyIter it d i es.size ep)(hod:s.heap.get? d=some od)(hdd:od.data=.dict es ep)(hx:es[i]? = none)
  (h:∀ h',Heap.ExtBut it s.heap h'->Q none { s with heap:=h' }):wpAny (model prog w) A (pyNext (.ref it)) Q E s:=by
 obtain ⟨o,ho,hc,hd⟩:=id hit;unfold pyNext;refine ZB (wpAny_attempt (wpAny_callSpecial?_slot (name:=Str.ofString "__next__") hit.typeIs F.slot_dict_keyiterator_next (wpAny_call_entry F.slot_dict_keyiterator_next hit.typeIs F.entry_dict_keyiterator_next ?_ (F.args_dict_keyiterator_next_1 _))));refine ZB (ZP ?_);refine ZB ?_;refine ZB ?_
 (first | refine ZB (wpAny_typeNameOfWhole_keyiter hit.typeIs (ZP ?_)) | refine ZB (wpAny_typeNameOf_keyiter hit.typeIs (ZP ?_)))
 refine ZB (wpAny_fieldsOf ho hd ?_);simp only [show Builtin.Dict_items.ownsTuple "dict_keyiterator" = false from by decide,Bool.false_eq_true,if_false]
 show wpAny _ _ (if (Value.ref d == Value.none)=true then _ else _) _ _ s;rw [if_neg (show ¬ ((Value.ref d == Value.none)=true) from Bool.false_ne_true)]
 refine ZB (ZP (ZB (wpAny_dictEntries hod hdd ?_)));rw [if_neg (by simp)];refine ZB (ZP (ZB (wpAny_dictEpoch hod hdd ?_)));rw [if_neg (by simp)];refine ZP ?_
 simp only [show ¬ ((i:Int) < 0) from by omega,if_false,Int.toNat_natCast,hx];refine ZB ?_
 (first | refine ZB (wpAny_typeNameOfWhole_keyiter hit.typeIs (ZP ?_)) | refine ZB (wpAny_typeNameOf_keyiter hit.typeIs (ZP ?_)))
 show wpAny _ _ (setField (.ref it) 0 .none >>= _) _ _ s;refine ZB (wpAny_setField ho hd (by simp) ?_);show wpAny _ _ (newExc (.type "StopIteration") [] >>= _) _ _ _
 refine ZB ?_;simp only [newExc,newTuple];refine ZB (wpAny_newObj_type ?_ (by size_fits))
 refine ZB (m:=firstArgMember _ _) (wpAny_of_eq (a:=Value.none) (by first | rfl | (simp only [firstArgMember];rfl)) (wpAny_newObj_type ?_ (by size_fits)));simp only [raiseNew]
 refine ZB (wpAny_handled ?_);rw [show A.in1.handled=none from hh];refine ZB (ZP (wpAny_throw ?_));exact ZB (wpAny_isInstance (T := "StopIteration") (b:=true) ⟨_,Heap.get?_push_size _ rfl,rfl⟩ isSubtype_stop (ZP (h _ (((Heap.SameBut.update ..).extBut.push _).push _))))
end
noncomputable def Itd(a:Addr)(o:Obj)(kvs:List (List Key×V)):It :=
 ⟨λi H=>H a=some (.frz o (.dT kvs))/\i < kvs.length,λi H x H'=>H'=H /\ ∃ b k v,x=.ref b/\kvs[i]? = some (k,v)/\H b=some (.tup (k.map kV)),λi H=>H a=some (.frz o (.dT kvs))/\kvs.length<=i⟩
theorem c4_{P:Program}{w:World}{H:Hp}{h:Heap}{a:Addr}{kvs:List (List Key×V)}(z:ObjOk P w H h a (.dT kvs)):kvs.length<=sizeLine/\(a == sysModules)=false /\ ∃ o es ep,h.get? a=some o/\o.ExactDict/\o.data=.dict es ep/\es.size=kvs.length /\
  ∀ (i:Nat) (k:List Key) (v:V),kvs[i]? = some (k,v) -> ∃ (b:Addr) (en:DictEntry),es[i]? = some en/\en.key=.ref b/\H b=some (.tup (k.map kV)):=by
 obtain ⟨hl0,hs,xs,pr,o,es,ep,ho,hx,hd,hes,_⟩:=z;have hl:es.size=xs.length:=by rw [<-Array.length_toList,hes,List.length_map]
 refine ⟨hl0,hs,o,es,ep,ho,hx,hd,by rw [hl,Paired.length pr],λi k v hk => ?_⟩
 have key:∀ {kvs:List (List Key×V)} {xs:List (List Key×Addr×Value)},Paired (λ(p:List Key×V) (q:List Key×Addr×Value)=>p.1=q.1/\H q.2.1=some (.tup (p.1.map kV))/\RelV p.2 q.2.2) kvs xs -> ∀ (i:Nat) (k:List Key) (v:V),kvs[i]? = some (k,v) -> ∃ q:List Key×Addr×Value,xs[i]? = some q/\H q.2.1=some (.tup (k.map kV)):=by
  intro kvs xs pr
  induction pr with
  | nil=>intro i k v z;simp at z
  | cons h1 _ ih =>
   intro i k v z;cases i with
   | zero=>simp at z;subst z;exact ⟨_,by simp,h1.2.1⟩
   | succ j=>obtain ⟨q,z1,z2⟩:=ih j k v (by simpa using z);exact ⟨q,by simpa using z1,z2⟩
 obtain ⟨q,hq,hb⟩:=key pr i k v hk;refine ⟨q.2.1,entryOfKey (tupleKind (zL_ P w)) q,?_,rfl,hb⟩;rw [<-Array.getElem?_toList,hes,List.getElem?_map,hq];rfl
theorem lO_{P:Program}{w:World}{H:Hp}{h:Heap}{a:Addr}{o:Obj}{kvs:List (List Key×V)}(ok:HOk P w H h)(e:H a=some (.frz o (.dT kvs))):h.get? a=some o/\o.ExactDict/\(a == sysModules)=false /\ ∃ es ep,o.data=.dict es ep/\es.size=kvs.length /\
  ∀ (i:Nat) (k:List Key) (v:V),kvs[i]? = some (k,v) -> ∃ (b:Addr) (en:DictEntry),es[i]? = some en/\en.key=.ref b/\H b=some (.tup (k.map kV)):=by
 obtain ⟨ho,z⟩:=ok a _ e;obtain ⟨_,hs,o',es,ep,ho',r⟩:=c4_ z;rw [ho] at ho';cases ho';exact ⟨ho,r.1,hs,es,ep,r.2⟩
theorem rY_{P:Program}{w:World}{K:PySem.W.Frag}{tg:Expr}(a it:Addr)(o:Obj)(kvs:List (List Key×V)):
  Turn P w K tg (Itd a o kvs) [it] it (λi h => ∃ es ep,o.data=.dict es ep/\h.IsKeyIter it a i es.size ep) where
 mem:=by simp
 obj:=λi h st b hb=>by
  have e:b=it:=by simpa using hb
  obtain ⟨_,_,_,q,e1,_,d⟩:=st;subst e;exact ⟨q,e1,λv z=>by rw [d] at z;cases z⟩
 keep:=λi h h' ⟨es,ep,hd,st⟩ k=>⟨es,ep,hd,st.at λo e=>k it (by simp) o e⟩
 item:=by
  intro X hP hw hK hc i pins s σ H E I hf ⟨es,ep,hd,st⟩ ⟨hfr,hlt⟩;subst hP hw hK;obtain ⟨ho,hx,_,es',ep',hd',hl,hk⟩:=lO_ I.hok hfr;rw [hd] at hd';cases hd';obtain ⟨⟨k,v⟩,hkv⟩:∃ p,kvs[i]? = some p:=⟨_,List.getElem?_eq_getElem hlt⟩;obtain ⟨b,en,hen,hke,hb⟩:=hk i k v hkv;obtain ⟨f0,f1,f2,f3,f4,f5⟩:=hf it (by simp)
  refine pg_ st ho hd hen λh' st' sb => ?_;have I1:Inv X pins σ H { s with heap:=h' }:=I.turned (t':=s.toks) (λb o hb e=>(sb.2 b hb).trans e) f0 f1 f3 f4 f5
  obtain ⟨q,e,c,d⟩:=id st';refine ⟨en.key,rfl,pZ_ (s:={ s with heap:=h' }) e c d (by decide) ⟨.ref b,H,I1,?_,⟨rfl,b,k,v,rfl,hkv,hb⟩,⟨es,ep,hd,st'⟩,λb hb=>(hf b hb).1⟩⟩
  rw [hke];rfl
 done:=by
  intro X hP hw hK hc i pins s σ H E I hf ⟨es,ep,hd,st⟩ ⟨hfr,hlt⟩;subst hP hw hK;obtain ⟨ho,hx,_,es',ep',hd',hl,hk⟩:=lO_ I.hok hfr;rw [hd] at hd';cases hd';obtain ⟨f0,f1,f2,f3,f4,f5⟩:=hf it (by simp)
  exact ri_ (I.ok.hd hc) st ho hd (Array.getElem?_eq_none (by omega)) λh' eb=>⟨rfl,I.turned (t':=s.toks) (λb o hb e=>eb b o hb e) f0 f1 f3 f4 f5⟩
 self:=λ_ _ _ _ _ ⟨_,_,_,st⟩ h=>wpAny_pyIter_keyiter st h
noncomputable def ag_:R2:=λx y H Q => ∃ a v,x=.ref a/\DGet H a y (some v)/\Q v H
theorem gC_{X:Cx}{pins:List (Addr×Obj)}{σ:St}{H:Hp}{s:Shared}{a:Addr}{y:V}{o:Option V}(I:Inv X pins σ H s)(g:DGet H a y o):s.TypeIs (.ref a) "dict" := by
 rcases g with ⟨kvs,k,e,q⟩ | ⟨kvs,k,b,e,q⟩
 .exact let ⟨_,_,_,_,dd⟩:=rX_ I.hok e;dd.typeIs
 .exact let ⟨_,_,_,_,dd⟩:=rV_ I.hok e;dd.typeIs
theorem ke_{X:Cx}(hu:X.A.units+1 < cLine):IxR X ag_:=by
 intro value slice pins s σ H x y v u Q I rx ry ⟨a,z,e,g,q⟩ hs;subst e;obtain rfl:v=Value.ref a:=rx;have hT:=gC_ I g;have fin:wpAny (model X.prog X.w) X.A (subscripted slice false (.ref a) u) (λr s3=>wpAny (model X.prog X.w) X.A (letTemporaryGo value (.ref a) r >>= λ_=>pure r) (EP X pins σ Q) X.xe s3) X.xe s:=by
  rw [hs];exact wpAny_operating (qF_ hu I g ry λw' s3 I3 rw'=>ZB (wpAny_letTemporaryGo (ZP ⟨z,H,I3,rw',q⟩)))
 unfold subscriptTail;refine ZB ?_;rw [getitemInPython_of_ne hT.not_modules];refine ZB (wpAny_specialOf hT PySem.F.slot_dict_getitem.lookup ?_)
 (first | exact ZP (ZB fin) | exact ZB (ZP (ZB fin)) | exact ZB fin)
theorem Inv.freeze{X:Cx}{pins:List (Addr×Obj)}{σ:St}{H:Hp}{s:Shared}{a:Addr}{kvs:List (List Key×V)}(I:Inv X pins σ H s)(e:H a=some (.dT kvs)):∃ o,Inv X pins σ (upd H a (.frz o (.dT kvs))) s:=by
 obtain ⟨z,hs,xs,pr,o,es,ep,ho,hx,hd,hes,nd⟩:=I.hok a _ e;refine ⟨o,I.write (x:=a) (e:=a) (h':=s.heap) (t':=s.toks) (by rw [e];trivial) (.inl rfl) (λ_ _ _ q=>q) ⟨o,ho⟩ ⟨ho,z,hs,xs,KT.keeps (H:=H) pr λc ys ec => ?_,o,es,ep,ho,hx,hd,hes,nd⟩⟩
 rw [zg_ (s0_ ec e (λz=>nomatch z))];exact ec
theorem jZ_{X:Cx}{pins:List (Addr×Obj)}{σ:St}{H:Hp}{s:Shared}{a:Addr}{o:Obj}{kvs:List (List Key×V)}{tg:Expr}{R:It->Hp->Prop}{E:Value->Shared->Prop}(I:Inv X pins σ H s)(e:H a=some (.frz o (.dT kvs)))(q:R (Itd a o kvs) H):
  wpAny (model X.prog X.w) X.A (pyIter (.ref a)) (PIE X pins σ tg R) E s:=by
 obtain ⟨ho,hx,hs,es,ep,hd,hl,hk⟩:=lO_ I.hok e;refine qg_ hs ho hx hd ⟨s.heap.objs.size,[s.heap.objs.size],_,_,H,rfl,I.kept (t':=s.toks) λb o e=>Heap.get?_push_of_some _ e,rY_ a _ o kvs,⟨es,ep,hd,_,Heap.get?_push_size _ rfl,rfl,rfl⟩,λb hb => ?_,q⟩;have e:b=s.heap.objs.size:=by simpa using hb
 subst e;exact I.fpOk (Nat.le_refl _) (I.hok.fresh (Nat.le_refl _))
noncomputable def Ite(K:PySem.W.Frag)(a:Addr):It :=
 ⟨λi H => ∃ xs x,SqL K H a xs/\xs[i]? = some x,λi H x H' => ∃ p v,H p=none/\x=.ref p/\H'=upd H p (.tup [.int i,v]) /\ ∀ xs,SqL K H a xs->xs[i]? = some v,λi H => ∃ xs,SqL K H a xs/\xs.length<=i⟩
theorem Inv.pairNew{X:Cx}{pins:List (Addr×Obj)}{σ:St}{H:Hp}{s:Shared}{e it:Addr}{h':Heap}{t':Nat}{vs:List V}(I:Inv X pins σ H s)(hk:∀ b o,b≠e->b≠it->s.heap.get? b=some o->h'.get? b=some o)(he:uK_ X pins H e)(hi:uK_ X pins H it)
  (hte:∃ o,h'.get? e=some o) (hti:∃ o,h'.get? it=some o) (new:ObjOk X.prog X.w (upd H s.heap.objs.size (.tup vs)) h' s.heap.objs.size (.tup vs)):Inv X pins σ (upd H s.heap.objs.size (.tup vs)) { s with heap:=h',toks:=t' }:=by
 have fresh:H s.heap.objs.size=none:=I.hok.fresh (Nat.le_refl _);have old:∀ b o,H b=some o->b≠s.heap.objs.size:=λb o q z=>by subst z;rw [fresh] at q;cases q
 have ne:∀ b o,H b=some o->b≠e/\b≠it:=λb o q=>⟨λz=>(by subst z;rw [he.1] at q;cases q),λz=>(by subst z;rw [hi.1] at q;cases q)⟩
 refine I.call' (ch:=[e,it]) rfl ⟨λb o q _ _ nx => ?_,λb o q _ _ nx => ?_,λb o q n _ => ?_,λb o q _ => ?_,λb xs q => ?_,λb o u q => ?_,λb ps q => ?_⟩ (λb u q => ?_) I.bare λb hb => ?_
 .exact hk b o (λz=>nx (by simp [z])) (λz=>nx (by simp [z])) q
 .exact ⟨o.slots,hk b o (λz=>nx (by simp [z])) (λz=>nx (by simp [z])) q⟩
 .rw [zg_ (Nat.ne_of_lt (Heap.lt_size q))];exact n
 .by_cases z1:b=e
  .subst z1;exact hte
  .by_cases z2:b=it
   .subst z2;exact hti
   .exact ⟨o,hk b o z1 z2 q⟩
 .rw [zg_ (old b _ q)];exact q
 .rw [zg_ (old b _ q)];exact q
 .exact ⟨#[],by rw [zg_ (old b _ q),Array.append_empty];exact q⟩
 .by_cases z:b=s.heap.objs.size
  .subst z;rw [upd_same] at q;cases q;exact new
  .rw [zg_ z] at q
   refine (I.hok b u q).stay (λc v hc r => ?_) (λc r=>by rw [zg_ (old c _ r)];exact r) λc xs r=>by rw [zg_ (old c _ r)];exact r
   have hcH:∃ o,H c=some o:=by rcases hc with rfl | hc <;> exact ⟨_,by assumption⟩
   obtain ⟨o,hcH⟩:=hcH;exact hk c v (ne c o hcH).1 (ne c o hcH).2 r
 .have hf:uK_ X pins H b:=by
   rcases List.mem_cons.mp hb with rfl | hb
   .exact he
   .rcases List.mem_cons.mp hb with rfl | hb
    .exact hi
    .cases hb
  exact ⟨hf.2.2.2.1,hf.2.1,hf.2.2.2.2.1,hf.2.2.2.2.2⟩
theorem qH_{P:Program}{w:World}{K:PySem.W.Frag}{elts:List Expr}{x1:Nat}{tp:Pos}(a e it:Addr)(hei:e≠it):
  Turn P w K (.Tuple elts x1 tp) (Ite K a) [e,it] e (λi h=>(∃ old,IsEnum h e it i old)/\h.IsListIter it a i) where
 mem:=by simp
 obj:=λi h st b hb=>by
  obtain ⟨⟨old,he⟩,o,hi,_,d⟩:=st;rcases List.mem_cons.mp hb with rfl | hb
  .exact ⟨_,he,λv z=>by cases z⟩
  .obtain rfl:b=it:=by simpa using hb
   exact ⟨o,hi,λv z=>by rw [d] at z;cases z⟩
 keep:=λi h h' ⟨⟨old,he⟩,hi⟩ k=>⟨⟨old,k e (by simp) _ he⟩,hi.at λo q=>k it (by simp) o q⟩
 item:=by
  intro X hP hw hK hc i pins s σ H E I hf ⟨⟨old,he⟩,hi⟩ ⟨xs,x,hq,hx⟩;subst hP hw hK;obtain ⟨its,rv,p,hz⟩:=I.list hq;obtain ⟨u,hu,ru⟩:=rv.get hx;have fe:=hf e (by simp)
  have fi:=hf it (by simp)
  refine wpAny_pyNext_enum_item he hi p.isList (x:=u) (by simpa using hu) hei λh' ho hi' hT hsz hk=>⟨_,rfl,?_⟩
  have hes:e < s.heap.objs.size:=Heap.lt_size he;have his:it < s.heap.objs.size:=let ⟨_,q,_⟩:=hi;Heap.lt_size q
  refine wpAny_letOwnedTupleGo_enum ho λh2 he2 hs2 => ?_;have hs2':Heap.SameBut e h' h2:=hs2;have hT2:h2.get? s.heap.objs.size=some { cls := .type "tuple",data := .seq #[.int i s.toks,u] }:=(hs2'.2 _ (Nat.ne_of_gt hes)).trans hT;have hi2:h2.IsListIter it a (i+1):=hi'.at λo q=>(hs2'.2 it (Ne.symm hei)).trans q;have hk2:∀ b o,b≠e->b≠it->s.heap.get? b=some o->h2.get? b=some o:=λb o b1 b2 q=>(hs2'.2 b b1).trans (hk b o b1 b2 q);have I2:Inv X pins σ (upd H s.heap.objs.size (.tup [.int i,x])) { s with heap:=h2,toks:=s.toks+1 }:=I.pairNew hk2 fe fi ⟨_,he2⟩ (let ⟨o,q,_⟩:=hi2;⟨o,q⟩) ⟨(by show 2<=sizeLine;decide),[.int i s.toks,u],.cons ⟨_,rfl⟩ (.cons ru .nil),⟨_,hT2,rfl,_,rfl⟩⟩
  refine ⟨.ref s.heap.objs.size,_,I2,rfl,⟨s.heap.objs.size,x,I.hok.fresh (Nat.le_refl _),rfl,rfl,λys hy=>by rw [I.list_inj hy hq];exact hx⟩,⟨⟨u,by simpa using he2⟩,hi2⟩,λb hb => ?_⟩
  have hlt:b < s.heap.objs.size:=by
   rcases List.mem_cons.mp hb with rfl | hb
   .exact hes
   .obtain rfl:b=it:=by simpa using hb
    exact his
  rw [zg_ (Nat.ne_of_lt hlt)];exact (hf b hb).1
 done:=by
  intro X hP hw hK hc i pins s σ H E I hf ⟨⟨old,he⟩,hi⟩ ⟨xs,hq,hx⟩;subst hP hw hK;obtain ⟨its,rv,p,hz⟩:=I.list hq;obtain ⟨f0,f1,f2,f3,f4,f5⟩:=hf it (by simp)
  have hl:=rv.length;exact wpAny_pyNext_enum_end (I.ok.hd hc) he hi p.isList (by simp;omega) λh' eb=>⟨rfl,I.turned (t':=s.toks) (λb o hb e=>eb b o hb e) f0 f1 f3 f4 f5⟩
 self:=λ_ _ _ _ _ ⟨⟨_,he⟩,_⟩ h=>wpAny_pyIter_enum he h
noncomputable def dh_(K:PySem.W.Frag)(ta:TA):TI:=λσ H R=>ta σ H λvs H1 => ∃ a,vs=[.ref a]/\(∃ xs,SqL K H1 a xs)/\R (Ite K a) H1
theorem mW_{X:Cx}{l:Expr}{ta:TA}{p pos tp:Pos}{elts:List Expr}{x1:Nat}(hg:Gl X "enumerate")(hm:X.mg "enumerate" = none)(ha:PA X [l] ta)(hs:starEach [l] X.env=[(false,eval l X.env)]):PI X (.Tuple elts x1 tp) (.Call (.Name "enumerate" p) [l] [] pos) (dh_ X.K ta):=by
 intro pins s σ H R I h;refine Call_ (vk_ I hg hm boot_enumerate (PyProof.Rows.callWith_type1 (thn (ha pos pins s σ H _ I h) λus s1 ⟨vs,H1,I1,r1,q1⟩ => ?_) hs rfl));obtain ⟨a,rfl,⟨xs,hq⟩,q⟩:=q1;cases r1 with
 | cons r rr =>
  cases rr;cases r;obtain ⟨its,rv,pl,hz⟩:=I1.list hq;refine call_enumerate_list pl.isList λh' hE hI hsz hk=>wpAny_pyIter_enum hE ?_;refine ⟨s1.heap.objs.size+1,[s1.heap.objs.size+1,s1.heap.objs.size],_,_,H1,rfl,I1.kept (t':=s1.toks) hk,qH_ a _ _ (by simp),⟨⟨_,hE⟩,hI⟩,λb hb => ?_,q⟩
  have hb':s1.heap.objs.size<=b:=by
   rcases List.mem_cons.mp hb with rfl | hb
   .exact Nat.le_succ _
   .obtain rfl:b=s1.heap.objs.size:=by simpa using hb
    exact Nat.le_refl _
  exact I1.fpOk hb' (I1.hok.fresh hb')
end L2
namespace PI
noncomputable section
open PySem PySem.Spec PyProof.Rows L2
noncomputable def SqF(K:PySem.W.Frag)(H:Hp)(a:Addr)(xs:List V):Prop :=
 (∃ o,H a=some (.frz o (.lst xs))) \/
  ∃ (o:Obj) (its:Array Value) (n:Nat),K.lookup a=some o/\o.cls=.type "list" /\ o.dict=none/\o.data=.seq its n/\its.size<=sizeLine/\Vals xs its.toList
theorem SqF.sq{K:PySem.W.Frag}{H:Hp}{a:Addr}{xs:List V}(h:SqF K H a xs):SqL K H a xs:=by
 rcases h with h | h
 .exact .inl (.inr h)
 .exact .inr h
noncomputable def SqU(_:PySem.W.Frag)(H:Hp)(a:Addr)(xs:List V):Prop:=H a=some (.tup xs)
theorem SqU.sq{K:PySem.W.Frag}{H:Hp}{a:Addr}{xs:List V}(h:SqU K H a xs):SqT K H a xs := .of h
noncomputable def SqC(K:PySem.W.Frag)(a:Addr)(xs:List V):Prop :=
 ∃ (o:Obj) (its:Array Value) (n:Nat),K.lookup a=some o/\o.cls=.type "tuple" /\ o.data=.seq its n/\its.size<=sizeLine/\Vals xs its.toList
theorem SqC.sq{K:PySem.W.Frag}{H:Hp}{a:Addr}{xs:List V}(h:SqC K a xs):SqT K H a xs := .inr h
mutual
noncomputable def RV(K:PySem.W.Frag)(ρ:List Addr)(H:Hp):U->V->Prop
 | .non,v=>v=.non
 | .bl b,v=>v=.bl b
 | .int i,v=>v=.int i
 | .str s,v=>v=.str s
 | .tup us,v => ∃ a vs,v=.ref a/\SqU K H a vs/\RVs K ρ H us vs
 | .fro us,v => ∃ a vs,v=.ref a/\SqF K H a vs/\RVs K ρ H us vs
 | .ref n,v => ∃ a,v=.ref a/\ρ[n]? = some a
 | .xn _ us,v => ∃ a vs,v=.ref a/\SqC K a vs/\RVs K ρ H us vs
noncomputable def RVs(K:PySem.W.Frag)(ρ:List Addr)(H:Hp):List U->List V->Prop
 | [],vs=>vs=[]
 | u :: us,vs => ∃ v r,vs=v :: r/\RV K ρ H u v/\RVs K ρ H us r
end
structure Stp(K:PySem.W.Frag)(ρ:List Addr)(H:Hp)(ρ':List Addr)(H':Hp):Prop where
 ext:∀ (n:Nat) (a:Addr),ρ[n]? = some a->ρ'[n]? = some a
 new:∀ (n:Nat) (a:Addr),ρ'[n]? = some a->ρ[n]? = some a\/H a=none
 oth:∀ a o,H a=some o->a ∉ ρ->H' a=some o
 live:∀ a,H a≠none->H' a≠none
 tup:∀ a xs,SqU K H a xs->SqU K H' a xs
 fro:∀ a xs,SqF K H a xs->SqF K H' a xs
 frz:∀ a o u,H a=some (.frz o u)->H' a=some (.frz o u)
section
variable{K:PySem.W.Frag}{ρ ρ' ρ'':List Addr}{H H' H'':Hp}{g:G}
theorem Stp.refl:Stp K ρ H ρ H:=⟨λ_ _ h=>h,λ_ _ h => .inl h,λ_ _ h _=>h,λ_ h=>h,λ_ _ h=>h,λ_ _ h=>h,λ_ _ _ h=>h⟩
theorem Stp.trans(a:Stp K ρ H ρ' H')(b:Stp K ρ' H' ρ'' H''):Stp K ρ H ρ'' H'' where
 ext:=λn x h=>b.ext n x (a.ext n x h)
 new:=λn x h=>by
  rcases b.new n x h with q | q
  .exact a.new n x q
  .refine .inr ?_
   cases e:H x with
   | none=>rfl
   | some o=>exact absurd q (a.live x (by rw [e];simp))
 oth:=λx o h hn=>b.oth x o (a.oth x o h hn) λhx=>by
  obtain ⟨n,hn'⟩:=List.mem_iff_getElem?.mp hx;rcases a.new n x hn' with q | q
  .exact hn (List.mem_iff_getElem?.mpr ⟨n,q⟩)
  .rw [q] at h;cases h
 live:=λx h=>b.live x (a.live x h)
 tup:=λx xs h=>b.tup x xs (a.tup x xs h)
 fro:=λx xs h=>b.fro x xs (a.fro x xs h)
 frz:=λx o u h=>b.frz x o u (a.frz x o u h)
mutual
theorem RV.mono(he:∀ (n:Nat) (a:Addr),ρ[n]? = some a->ρ'[n]? = some a)(ht:∀ a xs,SqU K H a xs->SqU K H' a xs)(hf:∀ a xs,SqF K H a xs->SqF K H' a xs):∀ (u:U) (v:V),RV K ρ H u v->RV K ρ' H' u v
 | .non,_,h=>h
 | .bl _,_,h=>h
 | .int _,_,h=>h
 | .str _,_,h=>h
 | .tup us,v,h=>by
  obtain ⟨a,vs,e,h1,h2⟩:=h;exact ⟨a,vs,e,ht _ _ h1,RVs.mono he ht hf us vs h2⟩
 | .fro us,v,h=>by
  obtain ⟨a,vs,e,h1,h2⟩:=h;exact ⟨a,vs,e,hf _ _ h1,RVs.mono he ht hf us vs h2⟩
 | .ref n,v,h=>by
  obtain ⟨a,e,h1⟩:=h;exact ⟨a,e,he _ _ h1⟩
 | .xn _ us,v,h=>by
  obtain ⟨a,vs,e,h1,h2⟩:=h;exact ⟨a,vs,e,h1,RVs.mono he ht hf us vs h2⟩
theorem RVs.mono(he:∀ (n:Nat) (a:Addr),ρ[n]? = some a->ρ'[n]? = some a)(ht:∀ a xs,SqU K H a xs->SqU K H' a xs)(hf:∀ a xs,SqF K H a xs->SqF K H' a xs):∀ (us:List U) (vs:List V),RVs K ρ H us vs->RVs K ρ' H' us vs
 | [],_,h=>h
 | u :: us,vs,h=>by
  obtain ⟨v,r,e,h1,h2⟩:=h;exact ⟨v,r,e,RV.mono he ht hf u v h1,RVs.mono he ht hf us r h2⟩
end
theorem RV.step(s:Stp K ρ H ρ' H')(u:U)(v:V)(h:RV K ρ H u v):RV K ρ' H' u v:=RV.mono s.ext s.tup s.fro u v h
theorem RVs.step(s:Stp K ρ H ρ' H')(us:List U)(vs:List V)(h:RVs K ρ H us vs):RVs K ρ' H' us vs:=RVs.mono s.ext s.tup s.fro us vs h
theorem RVs.length:∀ {us:List U} {vs:List V},RVs K ρ H us vs->us.length=vs.length
 | [],_,h=>by cases h;rfl
 | _ :: us,_,h=>by
  obtain ⟨v,r,rfl,_,h2⟩:=h;simp [RVs.length h2]
theorem RVs.get:∀ {us:List U} {vs:List V} {i:Nat} {u:U},RVs K ρ H us vs->us[i]? = some u -> ∃ v,vs[i]? = some v/\RV K ρ H u v
 | [],_,_,_,_,e=>by simp at e
 | x :: us,_,0,u,h,e=>by
  obtain ⟨v,r,rfl,h1,_⟩:=h;simp at e;subst e;exact ⟨v,by simp,h1⟩
 | x :: us,_,i+1,u,h,e=>by
  obtain ⟨v,r,rfl,_,h2⟩:=h;obtain ⟨w,e1,e2⟩:=RVs.get (i:=i) (u:=u) h2 (by simpa using e)
  exact ⟨w,by simpa using e1,e2⟩
theorem RVs.none_of{us:List U}{vs:List V}{i:Nat}(h:RVs K ρ H us vs)(e:us[i]? = none):vs[i]? = none:=by
 have h1:=h.length;have h2:us.length<=i:=List.getElem?_eq_none_iff.mp e;exact List.getElem?_eq_none_iff.mpr (by omega)
theorem RVs.append:∀ {us ws:List U} {vs xs:List V},RVs K ρ H us vs->RVs K ρ H ws xs->RVs K ρ H (us++ws) (vs++xs)
 | [],_,_,_,h,q=>by cases h;exact q
 | u :: us,_,_,_,h,q=>by
  obtain ⟨v,r,rfl,h1,h2⟩:=h;exact ⟨v,r++_,rfl,h1,RVs.append h2 q⟩
theorem RVs.one{u:U}{v:V}(h:RV K ρ H u v):RVs K ρ H [u] [v]:=⟨v,[],rfl,h,rfl⟩
theorem RVs.drop:∀ {us:List U} {vs:List V} (n:Nat),RVs K ρ H us vs->RVs K ρ H (us.drop n) (vs.drop n)
 | _,_,0,h=>h
 | [],_,_+1,h=>by cases h;rfl
 | u :: us,_,n+1,h=>by
  obtain ⟨v,r,rfl,h1,h2⟩:=h;exact RVs.drop n h2
theorem RVs.take:∀ {us:List U} {vs:List V} (n:Nat),RVs K ρ H us vs->RVs K ρ H (us.take n) (vs.take n)
 | _,_,0,h=>by simp [RVs]
 | [],_,_+1,h=>by cases h;rfl
 | u :: us,_,n+1,h=>by
  obtain ⟨v,r,rfl,h1,h2⟩:=h;exact ⟨v,r.take n,rfl,h1,RVs.take n h2⟩
theorem RVs.set{u:U}{v:V}(q:RV K ρ H u v):∀ {us:List U} {vs:List V} (i:Nat),RVs K ρ H us vs->RVs K ρ H (us.set i u) (vs.set i v)
 | [],_,_,h=>by cases h;rfl
 | x :: us,_,0,h=>by
  obtain ⟨w,r,rfl,_,h2⟩:=h;exact ⟨v,r,rfl,q,h2⟩
 | x :: us,_,i+1,h=>by
  obtain ⟨w,r,rfl,h1,h2⟩:=h;exact ⟨w,r.set i v,rfl,h1,RVs.set q i h2⟩
theorem RVs.reverse:∀ {us:List U} {vs:List V},RVs K ρ H us vs->RVs K ρ H us.reverse vs.reverse
 | [],_,h=>by cases h;rfl
 | u :: us,_,h=>by
  obtain ⟨v,r,rfl,h1,h2⟩:=h;rw [List.reverse_cons,List.reverse_cons];exact RVs.append (RVs.reverse h2) (.one h1)
theorem RVs.dropLast{us:List U}{vs:List V}(h:RVs K ρ H us vs):RVs K ρ H us.dropLast vs.dropLast:=by
 rw [List.dropLast_eq_take,List.dropLast_eq_take,h.length];exact h.take _
noncomputable def RD(K:PySem.W.Frag)(ρ:List Addr)(H:Hp):List (List Int×U)->List (List Key×V)->Prop
 | [],ws=>ws=[]
 | (k,u) :: r,ws => ∃ v s,ws=(k.map Sum.inl,v) :: s/\RV K ρ H u v/\RD K ρ H r s
theorem RD.mono(he:∀ (n:Nat) (a:Addr),ρ[n]? = some a->ρ'[n]? = some a)(ht:∀ a xs,SqU K H a xs->SqU K H' a xs)(hf:∀ a xs,SqF K H a xs->SqF K H' a xs):∀ (us:List (List Int×U)) (vs:List (List Key×V)),RD K ρ H us vs->RD K ρ' H' us vs
 | [],_,h=>h
 | (k,u) :: us,vs,h=>by
  obtain ⟨v,r,e,h1,h2⟩:=h;exact ⟨v,r,e,RV.mono he ht hf u v h1,RD.mono he ht hf us r h2⟩
noncomputable def RK(K:PySem.W.Frag)(ρ:List Addr)(H:Hp):List (Str×U)->List (Key×V)->Prop
 | [],ws=>ws=[]
 | (k,u) :: r,ws => ∃ v s,ws=(Sum.inr k,v) :: s/\RV K ρ H u v/\RK K ρ H r s
theorem RK.mono(he:∀ (n:Nat) (a:Addr),ρ[n]? = some a->ρ'[n]? = some a)(ht:∀ a xs,SqU K H a xs->SqU K H' a xs)(hf:∀ a xs,SqF K H a xs->SqF K H' a xs):∀ (us:List (Str×U)) (vs:List (Key×V)),RK K ρ H us vs->RK K ρ' H' us vs
 | [],_,h=>h
 | (k,u) :: us,vs,h=>by
  obtain ⟨v,r,e,h1,h2⟩:=h;exact ⟨v,r,e,RV.mono he ht hf u v h1,RK.mono he ht hf us r h2⟩
theorem ro_:∀ (f a b:Nat),a < 128 ^ f->b < 128 ^ f->dig f a=dig f b->a=b
 | 0,a,b,h1,h2,_=>by simp at h1 h2;omega
 | f+1,a,b,h1,h2,e=>by
  rw [Nat.pow_succ] at h1 h2;simp only [dig] at e;split at e
  .split at e
   .omega
   .cases e
  .split at e
   .cases e
   .have e1:a % 128=b % 128:=(List.cons.inj e).1
    have e2:=ro_ f (a / 128) (b / 128) (by omega) (by omega) (List.cons.inj e).2
    omega
theorem nR_{a b:Nat}(h1:a < w5_)(h2:b < w5_)(e:x6_ a=x6_ b):a=b:=ro_ 64 a b h1 h2 (by have:=congrArg (λs:Str=>s.cps.toList) e;simpa [x6_] using this)
noncomputable def RF(K:PySem.W.Frag)(ρ:List Addr)(H:Hp):List (Nat×U)->List (Str×V)->Prop
 | [],ws=>ws=[]
 | (j,u) :: r,ws => ∃ v s,ws=(x6_ j,v) :: s/\j < w5_/\RV K ρ H u v/\RF K ρ H r s
theorem RF.mono(he:∀ (n:Nat) (a:Addr),ρ[n]? = some a->ρ'[n]? = some a)(ht:∀ a xs,SqU K H a xs->SqU K H' a xs)(hf:∀ a xs,SqF K H a xs->SqF K H' a xs):∀ (us:List (Nat×U)) (vs:List (Str×V)),RF K ρ H us vs->RF K ρ' H' us vs
 | [],_,h=>h
 | (k,u) :: us,vs,h=>by
  obtain ⟨v,r,e,h0,h1,h2⟩:=h;exact ⟨v,r,e,h0,RV.mono he ht hf u v h1,RF.mono he ht hf us r h2⟩
theorem RF.look{j:Nat}(hj:j < w5_):∀ {us:List (Nat×U)} {vs:List (Str×V)},RF K ρ H us vs->(us.lookup j=none/\vs.lookup (x6_ j)=none) \/ ∃ u v,us.lookup j=some u/\vs.lookup (x6_ j)=some v/\RV K ρ H u v
 | [],_,h=>by cases h;exact .inl ⟨rfl,rfl⟩
 | (i,u) :: us,_,h=>by
  obtain ⟨v,r,rfl,h0,h1,h2⟩:=h;rw [List.lookup_cons,List.lookup_cons];by_cases e:j=i
  .subst e
   rw [beq_self_eq_true,beq_self_eq_true];exact .inr ⟨u,v,rfl,rfl,h1⟩
  .have e1:(j == i)=false:=beq_false_of_ne e
   have e2:(x6_ j == x6_ i)=false:=beq_false_of_ne λz=>e (nR_ hj h0 z);rw [e1,e2];exact RF.look hj h2
theorem RF.put{j:Nat}{u:U}{v:V}(hj:j < w5_)(hv:RV K ρ H u v):∀ {us:List (Nat×U)} {vs:List (Str×V)},RF K ρ H us vs->RF K ρ H (kU_ j u us) (vz_ (x6_ j) v vs)
 | [],_,h=>by cases h;exact ⟨v,[],rfl,hj,hv,rfl⟩
 | (i,x) :: us,_,h=>by
  obtain ⟨w,r,rfl,h0,h1,h2⟩:=h;unfold kU_ vz_;by_cases e:i=j
  .subst e
   rw [if_pos rfl,if_pos rfl];exact ⟨v,r,rfl,h0,hv,h2⟩
  .rw [if_neg e,if_neg λz=>e (nR_ h0 hj z)]
   exact ⟨w,_,rfl,h0,h1,RF.put hj hv h2⟩
theorem RF.length:∀ {us:List (Nat×U)} {vs:List (Str×V)},RF K ρ H us vs->us.length=vs.length
 | [],_,h=>by cases h;rfl
 | (i,x) :: us,_,h=>by
  obtain ⟨w,r,rfl,h0,h1,h2⟩:=h;simp [RF.length h2]
noncomputable def RHO(K:PySem.W.Frag)(ρ:List Addr)(H:Hp):O->HO->Prop
 | .lst us,o => ∃ vs,o=.lst vs/\RVs K ρ H us vs
 | .dic kvs,o => ∃ ws,o=.dT ws/\RD K ρ H kvs ws
 | .dif kvs,o => ∃ ob ws,o=.frz ob (.dT ws)/\RD K ρ H kvs ws
 | .dst kvs,o => ∃ ws,o=.dK ws/\RK K ρ H kvs ws
 | .ins c us,o => ∃ C dx vs,o=.ins C dx vs/\PySem.W.nsIn K mainGlobals (x6_ c)=some (some (.ref C))/\RF K ρ H us vs
noncomputable def RO(K:PySem.W.Frag)(ρ:List Addr)(H:Hp)(a:Addr)(o:O):Prop := ∃ ho,H a=some ho/\RHO K ρ H o ho
theorem RHO.mono(he:∀ (n:Nat) (a:Addr),ρ[n]? = some a->ρ'[n]? = some a)(ht:∀ a xs,SqU K H a xs->SqU K H' a xs)(hf:∀ a xs,SqF K H a xs->SqF K H' a xs){o:O}{ho:HO}(h:RHO K ρ H o ho):RHO K ρ' H' o ho:=by
 cases o with
 | lst us=>obtain ⟨vs,e,r⟩:=h;exact ⟨vs,e,RVs.mono he ht hf _ _ r⟩
 | dic kvs=>obtain ⟨ws,e,r⟩:=h;exact ⟨ws,e,RD.mono he ht hf _ _ r⟩
 | dif kvs=>obtain ⟨ob,ws,e,r⟩:=h;exact ⟨ob,ws,e,RD.mono he ht hf _ _ r⟩
 | dst kvs=>obtain ⟨ws,e,r⟩:=h;exact ⟨ws,e,RK.mono he ht hf _ _ r⟩
 | ins c us=>obtain ⟨C,dx,vs,e,h0,r⟩:=h;exact ⟨C,dx,vs,e,h0,RF.mono he ht hf _ _ r⟩
theorem RHO.step(s:Stp K ρ H ρ' H'){o:O}{ho:HO}(h:RHO K ρ H o ho):RHO K ρ' H' o ho:=h.mono s.ext s.tup s.fro
theorem RO.step(s:Stp K ρ H ρ' H'){a:Addr}{o:O}(e:∀ ho,H a=some ho->H' a=some ho)(h:RO K ρ H a o):RO K ρ' H' a o :=
 let ⟨ho,e1,r⟩:=h;⟨ho,e ho e1,r.step s⟩
structure RH(K:PySem.W.Frag)(ρ:List Addr)(H:Hp)(g:G):Prop where
 len:ρ.length=g.length
 inj:∀ (i j:Nat) (a:Addr),ρ[i]? = some a->ρ[j]? = some a->i=j
 obj:∀ (n:Nat) (a:Addr) (o:O),ρ[n]? = some a->g[n]? = some o->RO K ρ H a o
theorem RH.at(h:RH K ρ H g){n:Nat}{o:O}(e:g[n]? = some o):∃ a,ρ[n]? = some a/\RO K ρ H a o:=by
 have hn:n < g.length:=(List.getElem?_eq_some_iff.mp e).1;have hr:n < ρ.length:=by rw [h.len];exact hn
 exact ⟨ρ[n],List.getElem?_eq_getElem hr,h.obj n ρ[n] _ (List.getElem?_eq_getElem hr) e⟩
theorem RH.lst(h:RH K ρ H g){n:Nat}{us:List U}(e:g[n]? = some (.lst us)):∃ a vs,ρ[n]? = some a/\H a=some (.lst vs)/\RVs K ρ H us vs:=by
 obtain ⟨a,h1,ho,h2,vs,rfl,h3⟩:=h.at e;exact ⟨a,vs,h1,h2,h3⟩
theorem RH.dic(h:RH K ρ H g){n:Nat}{kvs:List (List Int×U)}(e:g[n]? = some (.dic kvs)):∃ a ws,ρ[n]? = some a/\H a=some (.dT ws)/\RD K ρ H kvs ws:=by
 obtain ⟨a,h1,ho,h2,vs,rfl,h3⟩:=h.at e;exact ⟨a,vs,h1,h2,h3⟩
theorem RH.dif(h:RH K ρ H g){n:Nat}{kvs:List (List Int×U)}(e:g[n]? = some (.dif kvs)):∃ a ob ws,ρ[n]? = some a/\H a=some (.frz ob (.dT ws))/\RD K ρ H kvs ws:=by
 obtain ⟨a,h1,ho,h2,ob,vs,rfl,h3⟩:=h.at e;exact ⟨a,ob,vs,h1,h2,h3⟩
theorem RH.dst(h:RH K ρ H g){n:Nat}{kvs:List (Str×U)}(e:g[n]? = some (.dst kvs)):∃ a ws,ρ[n]? = some a/\H a=some (.dK ws)/\RK K ρ H kvs ws:=by
 obtain ⟨a,h1,ho,h2,vs,rfl,h3⟩:=h.at e;exact ⟨a,vs,h1,h2,h3⟩
theorem RH.ins(h:RH K ρ H g){n c:Nat}{fs:List (Nat×U)}(e:g[n]? = some (.ins c fs)):∃ a C dx vs,ρ[n]? = some a/\H a=some (.ins C dx vs)/\PySem.W.nsIn K mainGlobals (x6_ c)=some (some (.ref C))/\RF K ρ H fs vs:=by
 obtain ⟨a,h1,ho,h2,C,dx,vs,rfl,h3,h4⟩:=h.at e;exact ⟨a,C,dx,vs,h1,h2,h3,h4⟩
theorem RH.there(h:RH K ρ H g){n:Nat}{a:Addr}(e:ρ[n]? = some a):∃ o,H a=some o:=by
 have hr:n < ρ.length:=(List.getElem?_eq_some_iff.mp e).1;have hn:n < g.length:=by rw [<-h.len];exact hr
 obtain ⟨ho,h1,_⟩:=h.obj n a g[n] e (List.getElem?_eq_getElem hn);exact ⟨ho,h1⟩
theorem kC_{a p:Addr}{o:HO}{xs:List V}(h:SqU K H a xs)(hp:a≠p):SqU K (upd H p o) a xs:=by
 unfold SqU;rw [zg_ hp];exact h
theorem l2_{a p:Addr}{o:HO}{xs:List V}(h:SqF K H a xs)(hp:a≠p):SqF K (upd H p o) a xs:=by
 rcases h with ⟨ob,h⟩ | h
 .exact .inl ⟨ob,by rw [zg_ hp];exact h⟩
 .exact .inr h
noncomputable def pX_:HO->Prop
 | .lst _=>True
 | .dT _=>True
 | .dK _=>True
 | .ins _ _ _=>True
 | _=>False
theorem z0_{a p:Addr}{o:HO}{xs:List V}(h:SqU K H a xs)(hp:H p=none \/ ∃ ho,H p=some ho/\pX_ ho):SqU K (upd H p o) a xs :=
 kC_ h (by rintro rfl;rcases hp with z | ⟨ys,z,m⟩ <;> · unfold SqU at h;rw [h] at z;cases z;try exact m)
theorem zZ_{a p:Addr}{o:HO}{xs:List V}(h:SqF K H a xs)(hp:H p=none \/ ∃ ho,H p=some ho/\pX_ ho):SqF K (upd H p o) a xs:=by
 rcases h with ⟨ob,h⟩ | h
 .exact l2_ (.inl ⟨ob,h⟩) (by rintro rfl;rcases hp with z | ⟨ys,z,m⟩ <;> · rw [h] at z;cases z;try exact m)
 .exact .inr h
theorem Stp.fresh{p:Addr}{o:HO}(hp:H p=none):Stp K ρ H ρ (upd H p o) where
 ext:=λ_ _ h=>h
 new:=λ_ _ h => .inl h
 oth:=λa u h _=>by rw [zg_ (zt_ h hp)];exact h
 live:=λa h=>by
  by_cases e:a=p
  .subst e;rw [upd_same];simp
  .rw [zg_ e];exact h
 tup:=λa xs h=>z0_ h (.inl hp)
 fro:=λa xs h=>zZ_ h (.inl hp)
 frz:=λa ob u h=>by rw [zg_ (zt_ h hp)];exact h
theorem RH.step_fresh{p:Addr}{o:HO}(h:RH K ρ H g)(hp:H p=none):RH K ρ (upd H p o) g where
 len:=h.len
 inj:=h.inj
 obj:=λn a ob h1 h2=>(h.obj n a ob h1 h2).step (Stp.fresh hp) λho e=>by rw [zg_ (zt_ e hp)];exact e
theorem Stp.alloc{p:Addr}{ho:HO}(hp:H p=none):Stp K ρ H (ρ++[p]) (upd H p ho) where
 ext:=λn a h=>by rw [List.getElem?_append_left (List.getElem?_eq_some_iff.mp h).1];exact h
 new:=λn a h=>by
  by_cases hn:n < ρ.length
  .rw [List.getElem?_append_left hn] at h;exact .inl h
  .rw [List.getElem?_append_right (by omega)] at h
   have:a=p:=by
    cases hk:n - ρ.length with
    | zero=>rw [hk] at h;simpa using h.symm
    | succ k=>rw [hk] at h;simp at h
   subst this;exact .inr hp
 oth:=λa u h _=>by rw [zg_ (zt_ h hp)];exact h
 live:=(Stp.fresh (K:=K) (ρ:=ρ) hp).live
 tup:=λa xs h=>z0_ h (.inl hp)
 fro:=λa xs h=>zZ_ h (.inl hp)
 frz:=λa ob u h=>by rw [zg_ (zt_ h hp)];exact h
theorem RH.allocO{p:Addr}{ob:O}{ho:HO}(h:RH K ρ H g)(hp:H p=none)(r:RHO K ρ H ob ho):RH K (ρ++[p]) (upd H p ho) (g++[ob]) where
 len:=by simp [h.len]
 inj:=λi j a h1 h2=>by
  have key:∀ k b,(ρ++[p])[k]? = some b->(k < ρ.length/\ρ[k]? = some b)\/(k=ρ.length/\b=p):=λk b e=>by
   by_cases hk:k < ρ.length
   .rw [List.getElem?_append_left hk] at e;exact .inl ⟨hk,e⟩
   .rw [List.getElem?_append_right (by omega)] at e
    cases hd:k - ρ.length with
    | zero=>rw [hd] at e;exact .inr ⟨by omega,by simpa using e.symm⟩
    | succ m=>rw [hd] at e;simp at e
  have noP:∀ k,ρ[k]? ≠ some p:=λk e=>by
   obtain ⟨o,ho⟩:=h.there e;rw [hp] at ho;cases ho
  rcases key i a h1 with ⟨_,e1⟩ | ⟨e1,e1'⟩
  .rcases key j a h2 with ⟨_,e2⟩ | ⟨e2,e2'⟩
   .exact h.inj i j a e1 e2
   .subst e2';exact absurd e1 (noP i)
  .rcases key j a h2 with ⟨_,e2⟩ | ⟨e2,e2'⟩
   .subst e1';exact absurd e2 (noP j)
   .omega
 obj:=λn a o h1 h2=>by
  by_cases hn:n < ρ.length
  .rw [List.getElem?_append_left hn] at h1
   rw [List.getElem?_append_left (by rw [<-h.len];exact hn)] at h2
   exact (h.obj n a o h1 h2).step (Stp.alloc hp) λho e=>by rw [zg_ (zt_ e hp)];exact e
  .have hl:=h.len
   rw [List.getElem?_append_right (by omega)] at h1
   rw [List.getElem?_append_right (by omega)] at h2
   rw [<-hl] at h2;cases hd:n - ρ.length with
   | zero =>
    rw [hd] at h1 h2;have e1:a=p:=by simpa using h1.symm
    have e2:o=ob:=by simpa using h2.symm
    subst e1;subst e2;exact ⟨ho,upd_same,r.step (Stp.alloc hp)⟩
   | succ m=>rw [hd] at h1;simp at h1
theorem RH.alloc{p:Addr}{us:List U}{vs:List V}(h:RH K ρ H g)(hp:H p=none)(r:RVs K ρ H us vs):RH K (ρ++[p]) (upd H p (.lst vs)) (g++[.lst us]):=h.allocO hp ⟨vs,rfl,r⟩
theorem Stp.writeO{n:Nat}{a:Addr}{x y:HO}(hn:ρ[n]? = some a)(ha:H a=some x)(hm:pX_ x):Stp K ρ H ρ (upd H a y) where
 ext:=λ_ _ h=>h
 new:=λ_ _ h => .inl h
 oth:=λb u h hb=>by
  have:b≠a:=λe=>hb (e ▸ List.mem_iff_getElem?.mpr ⟨n,hn⟩);rw [zg_ this];exact h
 live:=λb h=>by
  by_cases e:b=a
  .subst e;rw [upd_same];simp
  .rw [zg_ e];exact h
 tup:=λb zs h=>z0_ h (.inr ⟨_,ha,hm⟩)
 fro:=λb zs h=>zZ_ h (.inr ⟨_,ha,hm⟩)
 frz:=λb ob u h=>by rw [zg_ (s0_ h ha (by rintro rfl;exact hm))];exact h
theorem Stp.write{n:Nat}{a:Addr}{xs ys:List V}(hn:ρ[n]? = some a)(ha:H a=some (.lst xs)):Stp K ρ H ρ (upd H a (.lst ys)):=Stp.writeO hn ha trivial
theorem RH.writeO{n:Nat}{a:Addr}{x y:HO}{ob:O}(h:RH K ρ H g)(hn:ρ[n]? = some a)(ha:H a=some x)(hm:pX_ x)(r:RHO K ρ H ob y):RH K ρ (upd H a y) (g.set n ob) where
 len:=by simp [h.len]
 inj:=h.inj
 obj:=λm b o h1 h2=>by
  by_cases e:m=n
  .subst e
   rw [hn] at h1;cases h1;rw [List.getElem?_set_self (by rw [<-h.len];exact (List.getElem?_eq_some_iff.mp hn).1)] at h2
   cases h2;exact ⟨y,upd_same,r.step (Stp.writeO hn ha hm)⟩
  .rw [List.getElem?_set_ne (Ne.symm e)] at h2
   have ne:b≠a:=λz=>e (h.inj m n a (z ▸ h1) hn);exact (h.obj m b o h1 h2).step (Stp.writeO hn ha hm) λho e1=>by rw [zg_ ne];exact e1
theorem RH.write{n:Nat}{a:Addr}{us:List U}{xs ys:List V}(h:RH K ρ H g)(hn:ρ[n]? = some a)(ha:H a=some (.lst xs))(r:RVs K ρ H us ys):RH K ρ (upd H a (.lst ys)) (g.set n (.lst us)):=h.writeO hn ha trivial ⟨ys,rfl,r⟩
structure RS(K:PySem.W.Frag)(ρ:List Addr)(H:Hp)(σu:Su)(σ:L2.St):Prop where
 len:σu.length=σ.length
 val:∀ (i:Nat) (u:U),σu[i]? = some (some u) -> ∃ v,σ[i]? = some (some v)/\RV K ρ H u v
theorem RS.step{σu:Su}{σ:L2.St}(h:RS K ρ H σu σ)(s:Stp K ρ H ρ' H'):RS K ρ' H' σu σ :=
 ⟨h.len,λi u e=>let ⟨v,e1,r⟩:=h.val i u e;⟨v,e1,RV.step s _ _ r⟩⟩
theorem RS.set{σu:Su}{σ:L2.St}{i:Nat}{u:U}{v:V}(h:RS K ρ H σu σ)(r:RV K ρ H u v):RS K ρ H (σu.set i (some u)) (σ.set i (some v)) where
 len:=by simp [h.len]
 val:=λj w e=>by
  by_cases hj:j=i
  .subst hj
   have hl:j < σu.length:=by
    have:=(List.getElem?_eq_some_iff.mp e).1;simpa using this
   rw [List.getElem?_set_self hl] at e;cases e;exact ⟨v,by rw [List.getElem?_set_self (by rw [<-h.len];exact hl)],r⟩
  .rw [List.getElem?_set_ne (Ne.symm hj)] at e
   obtain ⟨x,e1,e2⟩:=h.val j w e;exact ⟨x,by rw [List.getElem?_set_ne (Ne.symm hj)];exact e1,e2⟩
end
noncomputable abbrev XQ:=Nat->List V->Hp->Prop
section
variable(K:PySem.W.Frag)(W:XQ)
noncomputable def post{α β:Type}(R:List Addr->Hp->α->β->Prop)(o:Out α)(ρ:List Addr)(H:Hp)(Q:β->Hp->Prop):Prop:=match o with
 | .ok u g => ∀ v ρ' H',Stp K ρ H ρ' H'->RH K ρ' H' g->R ρ' H' u v->Q v H'
 | .exc c fs g => ∀ vs ρ' H',Stp K ρ H ρ' H'->RH K ρ' H' g->RVs K ρ' H' fs vs->W c vs H'
 | .bad=>False
noncomputable def postS(o:Out Fl)(ρ:List Addr)(H:Hp)(D:Ends):Prop:=match o with
 | .ok (.nx σu) g => ∀ σ ρ' H',Stp K ρ H ρ' H'->RH K ρ' H' g->RS K ρ' H' σu σ->D.nx σ H'
 | .ok (.bk σu) g => ∀ σ ρ' H',Stp K ρ H ρ' H'->RH K ρ' H' g->RS K ρ' H' σu σ->D.bk σ H'
 | .ok (.ct σu) g => ∀ σ ρ' H',Stp K ρ H ρ' H'->RH K ρ' H' g->RS K ρ' H' σu σ->D.ct σ H'
 | .ok (.rt u) g => ∀ v ρ' H',Stp K ρ H ρ' H'->RH K ρ' H' g->RV K ρ' H' u v->D.rt v H'
 | .exc c fs g => ∀ vs ρ' H',Stp K ρ H ρ' H'->RH K ρ' H' g->RVs K ρ' H' fs vs->W c vs H'
 | .bad=>False
noncomputable abbrev REq{α:Type}:List Addr->Hp->α->α->Prop:=λ_ _ a b=>a=b
noncomputable def tE(f:Su->G->Out U):TE:=λσ H Q => ∃ σu ρ g,RS K ρ H σu σ/\RH K ρ H g/\post K W (RV K) (f σu g) ρ H Q
noncomputable def tT(f:Su->G->Out Bool):TT:=λσ H Q => ∃ σu ρ g,RS K ρ H σu σ/\RH K ρ H g/\post K W REq (f σu g) ρ H Q
noncomputable def tAr(f:Su->G->Out (List U)):TA:=λσ H Q => ∃ σu ρ g,RS K ρ H σu σ/\RH K ρ H g/\post K W (RVs K) (f σu g) ρ H Q
noncomputable def tSt(f:Su->G->Out Fl):TS:=λD σ H => ∃ σu ρ g,RS K ρ H σu σ/\RH K ρ H g/\postS K W (f σu g) ρ H D
end
section
variable{K:PySem.W.Frag}{W:XQ}{ρ ρ':List Addr}{H H':Hp}{α β α' β':Type}{R:List Addr->Hp->α->β->Prop}{R':List Addr->Hp->α'->β'->Prop}
theorem post.from{o:Out α}{Q:β->Hp->Prop}(h:post K W R o ρ H Q)(s:Stp K ρ H ρ' H'):post K W R o ρ' H' Q:=by
 cases o with
 | ok u g=>exact λv ρ2 H2 s2=>h v ρ2 H2 (s.trans s2)
 | exc c fs g=>exact λv ρ2 H2 s2=>h v ρ2 H2 (s.trans s2)
 | bad=>exact h
theorem postS.from{o:Out Fl}{D:Ends}(h:postS K W o ρ H D)(s:Stp K ρ H ρ' H'):postS K W o ρ' H' D:=by
 cases o with
 | ok f g=>cases f <;> exact λv ρ2 H2 s2=>h v ρ2 H2 (s.trans s2)
 | exc c fs g=>exact λv ρ2 H2 s2=>h v ρ2 H2 (s.trans s2)
 | bad=>exact h
theorem post.bind{o:Out α}{k:α->G->Out α'}{Q:β'->Hp->Prop}(h:post K W R' (o.bind k) ρ H Q):
  post K W R o ρ H (λv H1 => ∃ ρ1 u g1,Stp K ρ H ρ1 H1/\RH K ρ1 H1 g1/\R ρ1 H1 u v/\post K W R' (k u g1) ρ1 H1 Q):=by
 cases o with
 | ok u g=>exact λv ρ1 H1 s1 h1 r1=>⟨ρ1,u,g,s1,h1,r1,post.from (o:=k u g) h s1⟩
 | exc c fs g=>exact h
 | bad=>exact h
theorem postS.bind{o:Out α}{k:α->G->Out Fl}{D:Ends}(h:postS K W (o.bind k) ρ H D):
  post K W R o ρ H (λv H1 => ∃ ρ1 u g1,Stp K ρ H ρ1 H1/\RH K ρ1 H1 g1/\R ρ1 H1 u v/\postS K W (k u g1) ρ1 H1 D):=by
 cases o with
 | ok u g=>exact λv ρ1 H1 s1 h1 r1=>⟨ρ1,u,g,s1,h1,r1,postS.from (o:=k u g) h s1⟩
 | exc c fs g=>exact h
 | bad=>exact h
theorem post.mono{o:Out α}{Q Q':β->Hp->Prop}(h:post K W R o ρ H Q)(q:∀ v H1,Q v H1->Q' v H1):post K W R o ρ H Q':=by
 cases o with
 | ok u g=>exact λv ρ1 H1 s1 h1 r1=>q _ _ (h v ρ1 H1 s1 h1 r1)
 | exc c fs g=>exact h
 | bad=>exact h
theorem post.okHere{u:α}{v:β}{g:G}{Q:β->Hp->Prop}(h:post K W R (.ok u g) ρ H Q)(hg:RH K ρ H g)(r:R ρ H u v):Q v H:=h v ρ H .refl hg r
theorem post.lift{o:Option α}{g:G}{Q:β->Hp->Prop}(h:post K W R (lift o g) ρ H Q):∃ u,o=some u/\post K W R (.ok u g) ρ H Q:=by
 cases o with
 | none=>exact h.elim
 | some u=>exact ⟨u,rfl,h⟩
end
theorem _root_.L2.PE.imp{X:Cx}{e:Expr}{t t':TE}(h:PE X e t)(q:∀ σ H Q,t' σ H Q->t σ H Q):PE X e t':=λpins s σ H Q I h'=>h pins s σ H Q I (q σ H Q h')
theorem _root_.L2.PT.imp{X:Cx}{e:Expr}{t t':TT}(h:PT X e t)(q:∀ σ H Q,t' σ H Q->t σ H Q):PT X e t':=λpins s σ H Q I h'=>h pins s σ H Q I (q σ H Q h')
theorem _root_.L2.PW.imp{X:Cx}{e:Expr}{t t':TT}(h:PW X e t)(q:∀ σ H Q,t' σ H Q->t σ H Q):PW X e t':=λwh pins s σ H Q I h'=>h wh pins s σ H Q I (q σ H Q h')
theorem _root_.L2.PA.imp{X:Cx}{e:List Expr}{t t':TA}(h:PA X e t)(q:∀ σ H Q,t' σ H Q->t σ H Q):PA X e t':=λpos pins s σ H Q I h'=>h pos pins s σ H Q I (q σ H Q h')
theorem _root_.L2.PS.imp{X:Cx}{e:Stmt}{t t':TS}(h:PS X e t)(q:∀ D σ H,t' D σ H->t D σ H):PS X e t':=λpins s σ H Q I h'=>h pins s σ H Q I (q Q σ H h')
theorem _root_.L2.PSs.imp{X:Cx}{e:List Stmt}{t t':TS}(h:PSs X e t)(q:∀ D σ H,t' D σ H->t D σ H):PSs X e t':=λpins s σ H Q I h'=>h pins s σ H Q I (q Q σ H h')
theorem _root_.L2.PE.bad{X:Cx}{e:Expr}{K:PySem.W.Frag}{W:XQ}{f:Su->G->Out U}(h:∀ σ g,f σ g=.bad):PE X e (tE K W f):=λpins s σ H Q I ⟨σu,ρ,g,_,_,p⟩=>by rw [h] at p;exact p.elim
theorem _root_.L2.PT.bad{X:Cx}{e:Expr}{K:PySem.W.Frag}{W:XQ}{f:Su->G->Out Bool}(h:∀ σ g,f σ g=.bad):PT X e (tT K W f):=λpins s σ H Q I ⟨σu,ρ,g,_,_,p⟩=>by rw [h] at p;exact p.elim
theorem _root_.L2.PSs.bad{X:Cx}{e:List Stmt}{K:PySem.W.Frag}{W:XQ}{f:Su->G->Out Fl}(h:∀ σ g,f σ g=.bad):PSs X e (tSt K W f):=λpins s σ H Q I ⟨σu,ρ,g,_,_,p⟩=>by rw [h] at p;exact p.elim
theorem _root_.L2.PS.bad{X:Cx}{e:Stmt}{K:PySem.W.Frag}{W:XQ}{f:Su->G->Out Fl}(h:∀ σ g,f σ g=.bad):PS X e (tSt K W f):=λpins s σ H Q I ⟨σu,ρ,g,_,_,p⟩=>by rw [h] at p;exact p.elim
section
variable{K:PySem.W.Frag}{ρ:List Addr}{H:Hp}
theorem RV.flat{u w:U}{x y:V}{b:Bool}(r1:RV K ρ H u x)(r2:RV K ρ H w y)(e:yY_ u w=some b):ou_ x=true/\ou_ y=true/\eqV x y=b:=by
 cases u <;> cases w <;> simp only [yY_,Option.some.injEq,reduceCtorEq] at e <;> (subst e;cases r1;cases r2;exact ⟨rfl,rfl,rfl⟩)
theorem xo_:∀ {us ws:List U} {vs:List V} {b:Bool},RVs K ρ H us vs->RVs K ρ H ws vs->xt_ us ws=some b->b=true
 | [],[],_,b,_,_,e=>by simpa [xt_] using e.symm
 | [],_ :: _,_,b,_,_,e=>by simp [xt_] at e
 | _ :: _,[],_,b,_,_,e=>by simp [xt_] at e
 | u :: us,w :: ws,_,b,h1,h2,e=>by
  obtain ⟨v,r,rfl,a1,a2⟩:=h1;obtain ⟨v',r',e',b1,b2⟩:=h2;cases e';simp only [xt_] at e;cases e0:yY_ u w with
  | none=>simp [e0] at e
  | some c =>
   cases e1:xt_ us ws with
   | none=>simp [e0,e1] at e
   | some d =>
    simp only [e0,e1,Option.some.injEq] at e;subst e;rw [xo_ a2 b2 e1];have:c=true:=by
     cases u <;> cases w <;> simp only [yY_,Option.some.injEq,reduceCtorEq] at e0 <;> (subst e0;cases a1;cases b1;try simp)
    simp [this]
noncomputable def scU:U->Bool
 | .non | .bl _ | .int _ | .str _=>true
 | _=>false
theorem q1_{u z:U}{b:Bool}(e:yY_ u z=some b):scU u=true:=by
 cases u <;> first | rfl | (cases z <;> cases e)
theorem e4_{u u':U}{v:V}(h1:RV K ρ H u v)(h2:RV K ρ H u' v)(e:scU u=true)(e':scU u'=true):u=u':=by
 cases u <;> first | (cases e;done) | (cases h1;cases u' <;> first | (cases e';done) | (cases h2 <;> rfl))
theorem o8_{u u' z z':U}{v:V}{b b':Bool}(h1:RV K ρ H u v)(h2:RV K ρ H u' v)(e:yY_ u z=some b)(e':yY_ u' z'=some b'):u=u':=e4_ h1 h2 (q1_ e) (q1_ e')
theorem rB_:∀ {us us' zs:List U} {vs:List V} {b b':Bool},RVs K ρ H us vs->RVs K ρ H us' vs->xt_ us zs=some b->xt_ us' zs=some b'->us=us'
 | [],_,_,_,_,_,h1,h2,_,_=>by
  cases h1;have:=h2.length;simp at this;exact this.symm
 | _ :: _,_,[],_,_,_,_,_,e,_=>by simp [xt_] at e
 | u :: us,[],_,_,_,_,h1,h2,_,_=>by
  obtain ⟨v,r,rfl,_,_⟩:=h1;cases h2
 | u :: us,u' :: us',z :: zs,_,b,b',h1,h2,e,e'=>by
  obtain ⟨v,r,rfl,a1,a2⟩:=h1;obtain ⟨v',r',q,b1,b2⟩:=h2;cases q;simp only [xt_] at e e';cases e0:yY_ u z with
  | none=>simp [e0] at e
  | some c =>
   cases e1:xt_ us zs with
   | none=>simp [e0,e1] at e
   | some d =>
    cases e0':yY_ u' z with
    | none=>simp [e0'] at e'
    | some c' =>
     cases e1':xt_ us' zs with
     | none=>simp [e0',e1'] at e'
     | some d'=>rw [o8_ a1 b1 e0 e0',rB_ a2 b2 e1 e1']
theorem xq_{u w:U}{b:Bool}(e:ueq u w=some b):(∃ us ws,u=.tup us/\w=.tup ws/\xt_ us ws=some b)\/yY_ u w=some b:=by
 cases u <;> cases w <;> first | exact .inr e | exact .inl ⟨_,_,rfl,rfl,e⟩
end
section
variable{X:Cx}{pins:List (Addr×Obj)}{σ:L2.St}{H:Hp}{s:Shared}{A:Around}
theorem l0_{K:PySem.W.Frag}{ρ:List Addr}{u w:U}{x y:V}{v v':Value}{b:Bool}(r1:RV K ρ H u x)(r2:RV K ρ H w y)(rx:RelV x v)(ry:RelV y v')(e:yY_ u w=some b):SeqAt.RcAt A s v v' b:=by
 cases u with
 | non =>
  cases r1;cases rx;cases w <;> simp only [yY_,Option.some.injEq,reduceCtorEq] at e
  .subst e;cases r2;cases ry;exact SeqAt.RcAt.none_none
  .subst e;cases r2;cases ry;exact SeqAt.RcAt.none_bool _
  .subst e;cases r2;obtain ⟨t',rfl⟩:=ry;exact SeqAt.RcAt.none_int _ _
  .subst e;cases r2;obtain ⟨t',rfl⟩:=ry;exact SeqAt.RcAt.none_str _ _
 | bl a =>
  cases r1;cases rx;cases w <;> simp only [yY_,Option.some.injEq,reduceCtorEq] at e
  .subst e;cases r2;cases ry;exact SeqAt.RcAt.bool_none _
  .subst e;cases r2;cases ry;exact SeqAt.RcAt.bool_bool _ _
  .subst e;cases r2;obtain ⟨t',rfl⟩:=ry;exact SeqAt.RcAt.bool_int _ _ _
  .subst e;cases r2;obtain ⟨t',rfl⟩:=ry;exact SeqAt.RcAt.bool_str _ _ _
 | int a =>
  cases r1;obtain ⟨t,rfl⟩:=rx;cases w <;> simp only [yY_,Option.some.injEq,reduceCtorEq] at e
  .subst e;cases r2;cases ry;exact SeqAt.RcAt.int_none _ _
  .subst e;cases r2;cases ry;exact SeqAt.RcAt.int_bool _ _ _
  .subst e;cases r2;obtain ⟨t',rfl⟩:=ry;exact SeqAt.RcAt.int_int _ _ _ _
  .subst e;cases r2;obtain ⟨t',rfl⟩:=ry;exact SeqAt.RcAt.int_str _ _ _ _
 | str a =>
  cases r1;obtain ⟨t,rfl⟩:=rx;cases w <;> simp only [yY_,Option.some.injEq,reduceCtorEq] at e
  .subst e;cases r2;cases ry;exact SeqAt.RcAt.str_none _ _
  .subst e;cases r2;cases ry;exact SeqAt.RcAt.str_bool _ _ _
  .subst e;cases r2;obtain ⟨t',rfl⟩:=ry;exact SeqAt.RcAt.str_int _ _ _ _
  .subst e;cases r2;obtain ⟨t',rfl⟩:=ry;exact SeqAt.RcAt.str_str _ _ _ _
 | _=>simp [yY_] at e
theorem uG_{K:PySem.W.Frag}{ρ:List Addr}:∀ {us ws:List U} {xs ys:List V} {vs vs':List Value} {b:Bool},RVs K ρ H us xs->RVs K ρ H ws ys->Vals xs vs->Vals ys vs'->xt_ us ws=some b ->
  ∃ e:Nat->Bool,vs.length=vs'.length/\(∀ j (h1:j < vs.length) (h2:j < vs'.length),SeqAt.EqAt A s vs[j] vs'[j] (e j))/\(List.range vs.length).all e=b
 | [],[],_,_,_,_,b,h1,h2,q1,q2,e=>by
  cases h1;cases h2;cases q1;cases q2;simp only [xt_,Option.some.injEq] at e;subst e;exact ⟨λ_=>true,rfl,λj h1=>absurd h1 (by simp),rfl⟩
 | [],_ :: _,_,_,_,_,b,h1,h2,q1,q2,e=>by simp [xt_] at e
 | _ :: _,[],_,_,_,_,b,h1,h2,q1,q2,e=>by simp [xt_] at e
 | u :: us,w :: ws,_,_,_,_,b,h1,h2,q1,q2,e=>by
  obtain ⟨x,xs,rfl,a1,a2⟩:=h1;obtain ⟨y,ys,rfl,b1,b2⟩:=h2;cases q1 with
  | cons rx q1 =>
  cases q2 with
  | cons ry q2 =>
  simp only [xt_] at e;cases e0:yY_ u w with
  | none=>simp [e0] at e
  | some c =>
   cases e1:xt_ us ws with
   | none=>simp [e0,e1] at e
   | some d =>
    simp only [e0,e1,Option.some.injEq] at e;subst e;obtain ⟨f,l,hf,hd⟩:=uG_ a2 b2 q1 q2 e1;obtain ⟨fx,fy,ev⟩:=a1.flat b1 e0;refine ⟨λj=>match j with | 0=>c | j+1=>f j,by simp [l],λj h1 h2 => ?_,?_⟩
    .cases j with
     | zero=>subst ev;exact rH_ rx ry fx fy
     | succ j=>exact hf j (by simpa using h1) (by simpa using h2)
    .subst hd
     rw [List.length_cons,List.range_succ_eq_map,List.all_cons,List.all_map]
     rfl
theorem ji_{ρ:List Addr}{u w:U}{x y:V}{v v':Value}{b:Bool}(I:Inv X pins σ H s)(hu:A.units < cLine)(r1:RV X.K ρ H u x)(r2:RV X.K ρ H w y)(rx:RelV x v)(ry:RelV y v')(e:ueq u w=some b):SeqAt.RcAt A s v v' b:=by
 by_cases ht:∃ us ws,u=.tup us/\w=.tup ws
 .obtain ⟨us,ws,rfl,rfl⟩:=ht
  obtain ⟨a,xs,rfl,h1,h2⟩:=r1;obtain ⟨a',ys,rfl,h3,h4⟩:=r2;cases rx;cases ry;obtain ⟨its,q1,p1,_⟩:=I.tuple h1.sq;obtain ⟨its',q2,p2,_⟩:=I.tuple h3.sq;obtain ⟨f,l,hf,hd⟩:=uG_ (A:=A.in1) (s:=s) h2 h4 q1 q2 e;have:=SeqAt.RcAt.tuples (A:=A) (s:=s) (l:=a) (b:=a') (items:=its.toArray) (items2:=its'.toArray) (e:=f) p1 p2 hu (λj h1 h2=>by simpa using hf j (by simpa using h1) (by simpa using h2))
  have e2:((List.range (min its.toArray.size its'.toArray.size)).all f && its.toArray.size == its'.toArray.size)=b:=by simp [<-l,hd]
  rw [e2] at this;exact this
 .have e':yY_ u w=some b:=by
   cases u <;> cases w <;> first | exact e | exact absurd ⟨_,_,rfl,rfl⟩ ht
  exact l0_ r1 r2 rx ry e'
theorem fe_{ρ:List Addr}{u w:U}{x y:V}{v v':Value}{b:Bool}(I:Inv X pins σ H s)(hu:A.units < cLine)(r1:RV X.K ρ H u x)(r2:RV X.K ρ H w y)(rx:RelV x v)(ry:RelV y v')(e:ueq u w=some b):SeqAt.EqAt A s v v' b:=by
 by_cases ht:∃ us ws,u=.tup us/\w=.tup ws
 .have rc:=ji_ I hu r1 r2 rx ry e
  obtain ⟨us,ws,rfl,rfl⟩:=ht;obtain ⟨a,xs,rfl,h1,h2⟩:=r1;obtain ⟨a',ys,rfl,h3,h4⟩:=r2;cases rx;cases ry;by_cases ha:a=a'
  .subst ha
   obtain rfl:=I.tuple_inj h1.sq h3.sq;have:=xo_ h2 h4 e;subst this;exact SeqAt.EqAt.same _
  .exact SeqAt.EqAt.of_refs ha rc
 .have e':yY_ u w=some b:=by
   cases u <;> cases w <;> first | exact e | exact absurd ⟨_,_,rfl,rfl⟩ ht
  obtain ⟨fx,fy,ev⟩:=r1.flat r2 e';subst ev;exact rH_ rx ry fx fy
theorem oh_{ρ:List Addr}{u w:U}{y:V}{b:Bool}(I:Inv X pins σ H s)(h1:RV X.K ρ H u y)(h2:RV X.K ρ H w y)(e:ueq u w=some b):b=true:=by
 rcases xq_ e with ⟨us,ws,rfl,rfl,e⟩ | e
 .obtain ⟨a,xs,rfl,t1,t2⟩:=h1
  obtain ⟨a',ys,q,t3,t4⟩:=h2;cases q;obtain rfl:=I.tuple_inj t1.sq t3.sq;exact xo_ t2 t4 e
 .have:=xo_ (b:=b && true) (RVs.one h1) (RVs.one h2) (by simp only [xt_,e])
  simpa using this
theorem vK_{ρ:List Addr}{q:U->U->Option Bool}(hq:∀ u w x y v v' b,RV X.K ρ H u x->RV X.K ρ H w y->RelV x v->RelV y v'->q u w=some b->SeqAt.EqAt A s v v' b):∀ {us ws:List U} {xs ys:List V} {its its':List Value} {b:Bool},RVs X.K ρ H us xs->RVs X.K ρ H ws ys->Vals xs its->Vals ys its'->qs q us ws=some b ->
  ∃ f:Nat->Bool,its.length=its'.length/\(∀ j (h1:j < its.length) (h2:j < its'.length),SeqAt.EqAt A s its[j] its'[j] (f j))/\(List.range its.length).all f=b
 | [],[],_,_,_,_,b,h1,h2,q1,q2,e=>by
  cases h1;cases h2;cases q1;cases q2;simp only [qs,Option.some.injEq] at e;subst e;exact ⟨λ_=>true,rfl,λj h=>by simp at h,rfl⟩
 | [],_ :: _,_,_,_,_,_,_,_,_,_,e=>by simp [qs] at e
 | _ :: _,[],_,_,_,_,_,_,_,_,_,e=>by simp [qs] at e
 | u :: us,w :: ws,_,_,_,_,b,h1,h2,q1,q2,e=>by
  obtain ⟨x,xs,rfl,a1,a2⟩:=h1;obtain ⟨y,ys,rfl,b1,b2⟩:=h2;cases q1 with
  | cons rx q1 =>
  cases q2 with
  | cons ry q2 =>
  simp only [qs] at e;cases e0:q u w with
  | none=>simp [e0] at e
  | some c =>
   cases e1:qs q us ws with
   | none=>simp [e0,e1] at e
   | some d =>
    simp only [e0,e1,Option.some.injEq] at e;subst e;obtain ⟨f,l,hf,hd⟩:=vK_ hq a2 b2 q1 q2 e1;refine ⟨λj=>match j with | 0=>c | j+1=>f j,by simp [l],λj h1 h2 => ?_,?_⟩
    .cases j with
     | zero=>exact hq u w x y _ _ c a1 b1 rx ry e0
     | succ j=>exact hf j (by simpa using h1) (by simpa using h2)
    .subst hd
     rw [List.length_cons,List.range_succ_eq_map,List.all_cons,List.all_map]
     rfl
theorem qP_{ρ:List Addr}{q:U->U->Option Bool}(hq:∀ u w y b,RV X.K ρ H u y->RV X.K ρ H w y->q u w=some b->b=true):∀ {us ws:List U} {xs:List V} {b:Bool},RVs X.K ρ H us xs->RVs X.K ρ H ws xs->qs q us ws=some b->b=true
 | [],[],_,b,_,_,e=>by simpa [qs] using e.symm
 | [],_ :: _,_,_,_,_,e=>by simp [qs] at e
 | _ :: _,[],_,_,_,_,e=>by simp [qs] at e
 | u :: us,w :: ws,_,b,h1,h2,e=>by
  obtain ⟨x,xs,rfl,a1,a2⟩:=h1;obtain ⟨y,ys,z,b1,b2⟩:=h2;cases z;simp only [qs] at e;cases e0:q u w with
  | none=>simp [e0] at e
  | some c =>
   cases e1:qs q us ws with
   | none=>simp [e0,e1] at e
   | some d =>
    simp only [e0,e1,Option.some.injEq] at e;rw [<-e,hq u w _ c a1 b1 e0,qP_ hq a2 b2 e1]
    rfl
theorem jk_{ρ:List Addr}{u w:U}{x y:V}{v v':Value}{b:Bool}(I:Inv X pins σ H s)(hu:A.units+1 < cLine)(r1:RV X.K ρ H u x)(r2:RV X.K ρ H w y)(rx:RelV x v)(ry:RelV y v')(e:d6_ u w=some b):SeqAt.EqAt A s v v' b:=by
 by_cases ht:∃ us ws,u=.tup us/\w=.tup ws
 .obtain ⟨us,ws,rfl,rfl⟩:=ht
  obtain ⟨a,xs,rfl,h1,h2⟩:=r1;obtain ⟨a',ys,rfl,h3,h4⟩:=r2;cases rx;cases ry;have e:qs ueq us ws=some b:=e;by_cases ha:a=a'
  .subst ha
   obtain rfl:=I.tuple_inj h1.sq h3.sq;have:=qP_ (λu w y b q1 q2 q3=>oh_ I q1 q2 q3) h2 h4 e;subst this;exact SeqAt.EqAt.same _
  .refine SeqAt.EqAt.of_refs ha ?_
   obtain ⟨its,q1,p1,_⟩:=I.tuple h1.sq;obtain ⟨its',q2,p2,_⟩:=I.tuple h3.sq;obtain ⟨f,l,hf,hd⟩:=vK_ (A:=A.in1) (s:=s) (λu w x y v v' b q1 q2 q3 q4 q5=>fe_ (A:=A.in1) I hu q1 q2 q3 q4 q5) h2 h4 q1 q2 e;have:=SeqAt.RcAt.tuples (A:=A) (s:=s) (l:=a) (b:=a') (items:=its.toArray) (items2:=its'.toArray) (e:=f) p1 p2 (by omega) (λj h1 h2=>by simpa using hf j (by simpa using h1) (by simpa using h2))
   have e2:((List.range (min its.toArray.size its'.toArray.size)).all f && its.toArray.size == its'.toArray.size)=b:=by simp [<-l,hd]
   rw [e2] at this;exact this
 .have e':yY_ u w=some b:=by
   cases u <;> cases w <;> first | exact e | exact absurd ⟨_,_,rfl,rfl⟩ ht
  obtain ⟨fx,fy,ev⟩:=r1.flat r2 e';subst ev;exact rH_ rx ry fx fy
end
section
variable{X:Cx}{W:XQ}{C:Nat->List U->G->Out U}{r:L}{pos:Pos}
theorem jo_(hu:X.A.units < cLine):OpR X (compareOp .Eq) (λx y H Q => ∃ ρ u w b,RV X.K ρ H u x/\RV X.K ρ H w y/\ueq u w=some b/\Q (.bl b) H):=by
 intro pins s σ H x y v u Q I rx ry ⟨ρ,a,w,b,r1,r2,e,q⟩;exact ji_ I hu r1 r2 rx ry e X.prog X.w X.xe _ ⟨.bl b,H,I,rfl,q⟩
theorem t0_{x y:U}{g:G}{p:List U×List U}(e:qR_ x y g=some p):∃ n m,x=.ref n/\y=.ref m/\g[n]? = some (.lst p.1)/\g[m]? = some (.lst p.2):=by
 unfold qR_ at e;split at e
 .split at e
  .split at e
   .split at e
    .rename_i h1 _ _ h2
     cases e;exact ⟨_,_,rfl,rfl,h1,h2⟩
    .cases e
   .cases e
  .cases e
 .cases e
theorem jN_(hu:X.A.units+2 < cLine):OpR X (compareOp .Eq) (λx y H Q => ∃ ρ g u w p b,RH X.K ρ H g/\RV X.K ρ H u x/\RV X.K ρ H w y/\qR_ u w g=some p/\qs d6_ p.1 p.2=some b/\Q (.bl b) H):=by
 intro pins s σ H x y v u Q I rx ry ⟨ρ,g,a,w,p,b,hg,r1,r2,hl,e,q⟩;obtain ⟨n,m,rfl,rfl,g1,g2⟩:=t0_ hl;obtain ⟨a1,vs,c1,c2,c3⟩:=hg.lst g1;obtain ⟨a2,ws,d1,d2,d3⟩:=hg.lst g2;obtain ⟨a1',rfl,z⟩:=r1;rw [c1] at z;cases z;obtain ⟨a2',rfl,z⟩:=r2;rw [d1] at z;cases z;cases rx;cases ry;obtain ⟨its,q1,p1,_⟩:=I.list (.of c2);obtain ⟨its',q2,p2,_⟩:=I.list (.of d2);obtain ⟨f,l,hf,hd⟩:=vK_ (A:=X.A.in1) (s:=s) (λu w x y v v' b q1 q2 q3 q4 q5=>jk_ (A:=X.A.in1) I (by exact hu) q1 q2 q3 q4 q5) c3 d3 q1 q2 e
 refine SeqAt.eq_listAt (e:=f) p1.isList p2.isList (by simp [l]) (by omega) (λj h1 h2=>by simpa using hf j (by simpa using h1) (by simpa using h2)) ?_
 refine ⟨.bl b,H,I,?_,q⟩;rw [<-hd];simp only [List.size_toArray]
 rfl
theorem y3_{K:PySem.W.Frag}{ρ:List Addr}{H:Hp}{g:G}{u:U}{x:V}{us:List U}(h:RH K ρ H g)(r1:RV K ρ H u x)(e:items u g=some us):∃ a vs,x=.ref a/\(SqL K H a vs\/SqT K H a vs)/\RVs K ρ H us vs:=by
 cases u with
 | tup xs=>obtain ⟨a,vs,rfl,h1,h2⟩:=r1;cases e;exact ⟨a,vs,rfl,.inr h1.sq,h2⟩
 | fro xs=>obtain ⟨a,vs,rfl,h1,h2⟩:=r1;cases e;exact ⟨a,vs,rfl,.inl h1.sq,h2⟩
 | xn _ xs=>obtain ⟨a,vs,rfl,h1,h2⟩:=r1;cases e;exact ⟨a,vs,rfl,.inr h1.sq,h2⟩
 | ref n =>
  obtain ⟨a,rfl,hn⟩:=r1;simp only [items] at e;cases eg:g[n]? with
  | none=>simp [eg] at e
  | some o =>
   cases o with
   | lst xs =>
    simp only [eg,Option.some.injEq] at e;subst e;obtain ⟨a',vs,h1,h2,h3⟩:=h.lst eg;rw [hn] at h1;cases h1;exact ⟨a,vs,rfl,.inl (.of h2),h3⟩
   | dic _=>simp [eg] at e
   | dif _=>simp [eg] at e
   | dst _=>simp [eg] at e
   | ins _ _=>simp [eg] at e
 | _=>simp [items] at e
theorem ls_{ρ:List Addr}{H:Hp}{pins:List (Addr×Obj)}{σ:L2.St}{s:Shared}{w w' u:U}{y:V}{c c':Bool}(I:Inv X pins σ H s)(h1:RV X.K ρ H w y)(h2:RV X.K ρ H w' y)(e:ueq w u=some c)(e':ueq w' u=some c'):c=c':=by
 have key:w=w':=by
  rcases xq_ e with ⟨us,zs,rfl,rfl,e⟩ | e
  .rcases xq_ e' with ⟨us',zs',rfl,q,e'⟩ | e'
   .cases q
    obtain ⟨a,vs,rfl,t1,t2⟩:=h1;obtain ⟨a',vs',q,t3,t4⟩:=h2;cases q;obtain rfl:=I.tuple_inj t1.sq t3.sq;rw [rB_ t2 t4 e e']
   .cases w' <;> simp [yY_] at e'
  .rcases xq_ e' with ⟨us',zs',rfl,rfl,e'⟩ | e'
   .cases w <;> simp [yY_] at e
   .exact o8_ h1 h2 e e'
 subst key;rw [e] at e';exact Option.some.inj e'
theorem w7_{α:Type}{e f:α->Bool}:∀ {l:List α},(∀ z∈l,e z=f z)->l.any e=l.any f
 | [],_=>rfl
 | x :: l,h=>by rw [List.any_cons,List.any_cons,h x List.mem_cons_self,w7_ λz hz=>h z (List.mem_cons_of_mem _ hz)]
theorem yH_{ρ:List Addr}{H:Hp}{pins:List (Addr×Obj)}{σ:L2.St}{s:Shared}{A:Around}{u:U}{x:V}{v:Value}(I:Inv X pins σ H s)(hu:A.units < cLine)(r1:RV X.K ρ H u x)(rx:RelV x v):
  ∀ {us:List U} {vs:List V} {its:List Value} {b:Bool},RVs X.K ρ H us vs->Vals vs its->uin u us=some b ->
   ∃ e:Value->Bool,(∀ y∈its,SeqAt.EqAt A s y v (e y))/\its.any e=b /\ ∀ w y vy c,RV X.K ρ H w y->RelV y vy->vy∈its->ueq w u=some c->e vy=c
 | [],_,_,b,h,q,e=>by
  cases h;cases q;simp only [uin,Option.some.injEq] at e;subst e;exact ⟨λ_=>false,λy hy=>by simp at hy,rfl,λ_ _ _ _ _ _ hm=>by simp at hm⟩
 | w :: us,_,_,b,h,q,e=>by
  obtain ⟨y,ys,rfl,a1,a2⟩:=h;cases q with
  | cons ry q =>
  rename_i vy its;simp only [uin] at e;cases e0:ueq w u with
  | none=>simp [e0] at e
  | some c =>
   cases e1:uin u us with
   | none=>simp [e0,e1] at e
   | some d =>
    simp only [e0,e1,Option.some.injEq] at e;subst e;obtain ⟨f,hf,hd,hc⟩:=yH_ I hu r1 rx a2 q e1;have hy:SeqAt.EqAt A s vy v c:=fe_ I hu a1 r1 ry rx e0;have same:∀ z∈its,(if z=vy then c else f z)=f z:=λz hz=>by
     by_cases hz2:z=vy
     .subst hz2
      rw [if_pos rfl];exact (hc w y _ c a1 ry hz e0).symm
     .rw [if_neg hz2]
    refine ⟨λz=>if z=vy then c else f z,λz hz => ?_,?_,λw' y' vy' c' h1 h2 hm e' => ?_⟩
    .by_cases hz2:z=vy
     .subst hz2;simpa using hy
     .rcases List.mem_cons.mp hz with h | h
      .exact absurd h hz2
      .simpa [hz2] using hf z h
    .rw [List.any_cons,w7_ same,hd]
     simp
    .by_cases hz2:vy'=vy
     .subst hz2
      obtain rfl:=h2.inj ry;simpa using (ls_ I a1 h1 e0 e')
     .rcases List.mem_cons.mp hm with h | h
      .exact absurd h hz2
      .simpa [hz2] using hc w' y' vy' c' h1 h2 h e'
theorem gP_(hu:X.A.units+1 < cLine):OpR X (compareOp .In) (λx y H Q => ∃ ρ g u w us b,RH X.K ρ H g/\RV X.K ρ H u x/\RV X.K ρ H w y/\items w g=some us/\uin u us=some b/\Q (.bl b) H):=by
 intro pins s σ H x y v u Q I rx ry ⟨ρ,g,a,w,us,b,hg,r1,r2,ei,e,q⟩;obtain ⟨p,vs,rfl,hq,rs⟩:=y3_ hg r2 ei;cases ry;rcases hq with hq | hq
 .obtain ⟨its,rv,pl,hz⟩:=I.list hq
  obtain ⟨f,hf,hd,_⟩:=yH_ (A:=X.A.in1) I (by exact hu) r1 rx rs rv e
  exact SeqAt.in_listAt f pl.isList (λw hw=>hf w (by simpa using hw)) ⟨.bl b,H,I,by rw [show its.toArray.any f=its.any f by simp,hd];rfl,q⟩
 .obtain ⟨its,rv,pl,hz⟩:=I.tuple hq
  obtain ⟨f,hf,hd,_⟩:=yH_ (A:=X.A.in1) I (by exact hu) r1 rx rs rv e
  exact SeqAt.in_tupleAt f pl (λw hw=>hf w (by simpa using hw)) ⟨.bl b,H,I,by rw [show its.toArray.any f=its.any f by simp,hd];rfl,q⟩
theorem l4_(hu:X.A.units+1 < cLine):OpR X (compareOp .NotIn) (λx y H Q => ∃ ρ g u w us b,RH X.K ρ H g/\RV X.K ρ H u x/\RV X.K ρ H w y/\items w g=some us/\uin u us=some b/\Q (.bl (!b)) H):=by
 intro pins s σ H x y v u Q I rx ry ⟨ρ,g,a,w,us,b,hg,r1,r2,ei,e,q⟩;obtain ⟨p,vs,rfl,hq,rs⟩:=y3_ hg r2 ei;cases ry;rcases hq with hq | hq
 .obtain ⟨its,rv,pl,hz⟩:=I.list hq
  obtain ⟨f,hf,hd,_⟩:=yH_ (A:=X.A.in1) I (by exact hu) r1 rx rs rv e
  exact SeqAt.notIn_listAt f pl.isList (λw hw=>hf w (by simpa using hw)) ⟨.bl (!b),H,I,by rw [show its.toArray.any f=its.any f by simp,hd];rfl,q⟩
 .obtain ⟨its,rv,pl,hz⟩:=I.tuple hq
  obtain ⟨f,hf,hd,_⟩:=yH_ (A:=X.A.in1) I (by exact hu) r1 rx rs rv e
  exact SeqAt.notIn_tupleAt f pl (λw hw=>hf w (by simpa using hw)) ⟨.bl (!b),H,I,by rw [show its.toArray.any f=its.any f by simp,hd];rfl,q⟩
end
open PySem PySem.Spec PyProof.Rows L2 PySem.W
theorem yt_{α β:Type}{M:Model}{h:Heap}{f:α->β->Sem (ForInStep β)}{g:β->α->β}(I:List α->β->Prop)(hs:∀ x r b,I (x :: r) b->Looks M h (f x b) (.yield (g b x))/\I r (g b x)):∀ (l:List α) (b:β),I l b->Looks M h (forIn l b f) (l.foldl g b)
 | [],b,_=>by rw [List.forIn_nil];exact .now
 | x :: l,b,hi=>by
  rw [List.forIn_cons];exact (hs x l b hi).1.andThen (yt_ I hs l _ (hs x l b hi).2)
noncomputable def yU_(b:List (Str×Value))(x:Str×Value):List (Str×Value):=if (b.lookup x.1).isNone=true then b++[x] else b
theorem zM_{α:Type}{n:Str}:∀ {b c:List (Str×α)},(b++c).lookup n=match b.lookup n with | some v=>some v | none=>c.lookup n
 | [],c=>rfl
 | (m,v) :: b,c=>by
  rw [List.cons_append,List.lookup_cons,List.lookup_cons];cases n == m with
  | true=>rfl
  | false=>exact zM_
theorem xW_{n:Str}{b:List (Str×Value)}{x:Str×Value}:(yU_ b x).lookup n=(b++[x]).lookup n:=by
 unfold yU_;split
 .rfl
 .rename_i h
  rw [zM_];cases e:b.lookup n with
  | some v=>rfl
  | none =>
   obtain ⟨m,v⟩:=x;simp only [List.lookup_cons,List.lookup_nil];cases q:n == m with
   | false=>rfl
   | true=>rw [eq_of_beq q] at e;rw [e] at h;exact absurd rfl h
theorem yr_{n:Str}:∀ {l b:List (Str×Value)},(l.foldl yU_ b).lookup n=(b++l).lookup n
 | [],b=>by simp
 | x :: l,b=>by
  rw [List.foldl_cons,yr_,zM_,xW_,<-zM_,List.append_assoc]
  rfl
theorem ut_{α:Type}{n:Str}:∀ {l:List (Str×α)},(l.map (·.1)).contains n=false->l.lookup n=none
 | [],_=>rfl
 | (m,v) :: l,h=>by
  rw [List.map_cons,List.contains_cons,Bool.or_eq_false_iff] at h;rw [List.lookup_cons,h.1];exact ut_ h.2
theorem xO_{α:Type}{n:Str}:∀ {l:List (Str×α)},(l.map (·.1)).contains n=true->(l.lookup n).isSome=true
 | [],h=>by cases h
 | (m,v) :: l,h=>by
  rw [List.map_cons,List.contains_cons,Bool.or_eq_true] at h;rw [List.lookup_cons];cases q:n == m with
  | true=>rfl
  | false =>
   rcases h with h | h
   .rw [q] at h;cases h
   .exact xO_ h
theorem y9_{α:Type}:∀ {ns:List Str} {us:List α},(ns.zip us).map (·.1)=ns.take us.length
 | [],_=>by simp
 | _ :: _,[]=>by simp
 | n :: ns,u :: us=>by simp [y9_ (ns:=ns) (us:=us)]
theorem sJ_{K:Frag}{M:Model}{h:Heap}{fd:FuncData}{ns ks:List Str}{us:List Value}{kw:List (Str×Value)}{od:Option (Array Value)}{kd:Str->Value}(X:K.In h)
  (h1:fd.params.posonlyargs=[]) (h2:fd.params.args.map (·.arg)=ns) (h3:fd.params.vararg=none) (h4:fd.params.kwonlyargs.map (·.arg)=ks) (h5:fd.params.kwarg=none)
  (hd:Looks M h (seqItems? fd.defaults) od) (hdl:(od.getD #[]).toList.length<=ns.length) (hl:us.length<=ns.length) (hkw:∀ p∈kw,(ns.contains p.1 || ks.contains p.1)=true) (hf:uQ_ (ns.take us.length) (kw.map (·.1))=true)
  (hm:∀ n∈ns.take (ns.length - (od.getD #[]).toList.length),(ns.take us.length++kw.map (·.1)).contains n=true)
  (hk:∀ n∈ks,(ns.take us.length++kw.map (·.1)).contains n=false -> ∃ d,fd.kwdefaults=.ref d/\nsIn K d n=some (some (kd n))) :
  Looks M h (bindArgs fd ⟨us,kw⟩) ((ns++ks).filterMap λn=>((ns.zip us++(kw++((ns.drop (ns.length - (od.getD #[]).toList.length)).zip (od.getD #[]).toList++ks.map λn=>(n,kd n)))).lookup n).map (n,·)):=by
 unfold bindArgs;simp only [h1,h2,h3,h4,h5,List.map_nil,List.nil_append,Option.isSome_none,Bool.false_eq_true,if_false];have e1:∀ (l:List (Str×Value)) (b:List (Str×Value)×List (Str×Value)),l.foldl (λb x=>(b.1++[x],b.2)) b=(b.1++l,b.2):=by
  intro l
  induction l with
  | nil=>intro b;simp
  | cons x l ih=>intro b;rw [List.foldl_cons,ih];simp
 refine Looks.andThen (a:=(ns.zip us++kw,[])) ?l1 ?l2
 case l1 =>
  have:=e1 kw (ns.zip us,[]);rw [<-this];refine yt_ (g:=λ(b:List (Str×Value)×List (Str×Value)) x=>(b.1++[x],b.2)) (λr b=>(∀ p∈r,(ns.contains p.1 || ks.contains p.1)=true)/\uQ_ (b.1.map (·.1)) (r.map (·.1))=true) ?_ kw _ ⟨hkw,by rw [y9_];exact hf⟩
  rintro x r b ⟨q1,q2⟩;rw [List.map_cons,uQ_,Bool.and_eq_true,Bool.not_eq_true'] at q2;refine ⟨?_,λp hp=>q1 p (List.mem_cons_of_mem _ hp),by rw [List.map_append];exact q2.2⟩
  rw [if_pos (q1 x List.mem_cons_self),ut_ q2.1];exact .now
 refine hd.andThen ?_;have hg : ¬ us.length > ns.length:=by omega
 generalize hds:(od.getD #[]).toList=ds at *;have e2:List.drop (ds.length - ns.length) ds=ds:=by rw [Nat.sub_eq_zero_of_le hdl,List.drop_zero]
 simp only [decide_eq_false hg,Bool.false_and,Bool.false_eq_true,if_false,e2];have e3:List.filter (λn=>((ns.zip us++kw).lookup n).isNone) (ns.take (ns.length - ds.length))=[]:=by
  rw [List.filter_eq_nil_iff];intro x hx;have:=xO_ (l:=ns.zip us++kw) (n:=x) (by rw [List.map_append,y9_];exact hm x hx)
  cases q:(ns.zip us++kw).lookup x with
  | none=>rw [q] at this;cases this
  | some v=>simp
 simp only [e3,List.isEmpty_nil,Bool.not_true,Bool.false_eq_true,if_false];have e4:∀ (l:List Str) (b:List (Str×Value)×List Str),l.foldl (λ(b:List (Str×Value)×List Str) n=>(yU_ b.1 (n,kd n),b.2)) b=((l.map λn=>(n,kd n)).foldl yU_ b.1,b.2):=by
  intro l
  induction l with
  | nil=>intro b;rfl
  | cons x l ih=>intro b;rw [List.foldl_cons,ih];rfl
 refine Looks.andThen (a:=List.foldl yU_ (ns.zip us++kw) ((ns.drop (ns.length - ds.length)).zip ds)) ?l3 ?l4
 case l3 =>
  refine yt_ (g:=yU_) (λ_ _=>True) ?_ _ _ trivial;rintro x r b -;refine ⟨?_,trivial⟩;unfold yU_;split
  .exact .now
  .exact .now
 refine Looks.andThen (a:=((ks.map λn=>(n,kd n)).foldl yU_ (List.foldl yU_ (ns.zip us++kw) ((ns.drop (ns.length - ds.length)).zip ds)),[])) ?l5 ?l6
 case l5 =>
  have:=e4 ks (List.foldl yU_ (ns.zip us++kw) ((ns.drop (ns.length - ds.length)).zip ds),[]);rw [<-this];refine yt_ (g:=λ(b:List (Str×Value)×List Str) n=>(yU_ b.1 (n,kd n),b.2)) (λr b => ∀ n∈r,(b.1.lookup n).isNone=true -> ∃ d,fd.kwdefaults=.ref d/\nsIn K d n=some (some (kd n))) ?_ ks _ ?_
  .intro x r b q
   refine ⟨?_,λn hn hi => ?_⟩
   .dsimp only [yU_]
    split
    .rename_i hi
     obtain ⟨d,d1,d2⟩:=q x List.mem_cons_self hi;rw [d1];exact (looks_nsIn X d2).andThen .now
    .exact .now
   .refine q n (List.mem_cons_of_mem _ hn) ?_
    have:=xW_ (n:=n) (b:=b.1) (x:=(x,kd x));dsimp only at hi;rw [this,zM_] at hi;cases e:b.1.lookup n with
    | none=>rfl
    | some v=>rw [e] at hi;cases hi
  .intro n hn hi
   refine hk n hn ?_;dsimp only at hi;rw [yr_,zM_] at hi;cases e:(ns.zip us++kw).lookup n with
   | some v=>rw [e] at hi;cases hi
   | none =>
    rw [Bool.eq_false_iff];intro z;have:=xO_ (l:=ns.zip us++kw) (n:=n) (by rw [List.map_append,y9_];exact z)
    rw [e] at this;cases this
 simp only [List.isEmpty_nil,Bool.not_true,Bool.false_eq_true,if_false];have e5:∀ n,(List.foldl yU_ (List.foldl yU_ (ns.zip us++kw) ((ns.drop (ns.length - ds.length)).zip ds)) (ks.map λn=>(n,kd n))).lookup n=(ns.zip us++(kw++((ns.drop (ns.length - ds.length)).zip ds++ks.map λn=>(n,kd n)))).lookup n:=λn=>by
  rw [yr_,zM_,yr_,<-zM_];simp only [List.append_assoc]
 simp only [e5];exact .now
inductive F2{α β:Type}(R:α->β->Prop):List α->List β->Prop
 | nil:F2 R [] []
 | cons {a:α} {b:β} {l:List α} {m:List β}:R a b->F2 R l m->F2 R (a :: l) (b :: m)
section
variable{α β:Type}{R:α->β->Prop}
noncomputable def PR(R:α->β->Prop)(p:Str×α)(q:Str×β):Prop:=p.1=q.1/\R p.2 q.2
theorem F2.zip{l:List α}{m:List β}(h:F2 R l m):∀ ns:List Str,F2 (PR R) (ns.zip l) (ns.zip m):=by
 induction h with
 | nil=>intro ns;cases ns <;> exact .nil
 | cons r _ ih =>
  intro ns;cases ns with
  | nil=>exact .nil
  | cons n ns=>exact .cons ⟨rfl,r⟩ (ih ns)
theorem F2.append{l l':List α}{m m':List β}(h:F2 R l m)(h':F2 R l' m'):F2 R (l++l') (m++m'):=by
 induction h with
 | nil=>exact h'
 | cons r _ ih=>exact .cons r ih
theorem F2.lookup{l:List (Str×α)}{m:List (Str×β)}(h:F2 (PR R) l m)(n:Str):(l.lookup n=none/\m.lookup n=none) \/ ∃ a b,l.lookup n=some a/\m.lookup n=some b/\R a b:=by
 induction h with
 | nil=>exact .inl ⟨rfl,rfl⟩
 | @cons a b l m r _ ih =>
  obtain ⟨n1,a⟩:=a;obtain ⟨n2,b⟩:=b;obtain ⟨e,r⟩:=r;dsimp only at e r;subst e;rw [List.lookup_cons,List.lookup_cons];cases q:n == n1 with
  | true=>exact .inr ⟨a,b,rfl,rfl,r⟩
  | false=>exact ih
theorem F2.filterMap{f:Str->Option α}{f':Str->Option β}(h:∀ n,(f n=none/\f' n=none) \/ ∃ a b,f n=some a/\f' n=some b/\R a b):∀ ns:List Str,F2 R (ns.filterMap f) (ns.filterMap f')
 | [] => .nil
 | n :: ns=>by
  rw [List.filterMap_cons,List.filterMap_cons];rcases h n with ⟨a,b⟩ | ⟨x,y,a,b,r⟩
  .rw [a,b];exact F2.filterMap h ns
  .rw [a,b];exact .cons r (F2.filterMap h ns)
end
theorem yB_{α β:Type}{R:α->β->Prop}{ns ks kw:List Str}{dd:List (Str×α)}{dd':List (Str×β)}{us ws:List α}{us' ws':List β}(hd:F2 (PR R) dd dd')(hu:F2 R us us')(hw:F2 R ws ws'):F2 R (place ns ks kw dd us ws) (place ns ks kw dd' us' ws') :=
 F2.filterMap (λn=>((hu.zip ns).append ((hw.zip kw).append hd)).lookup n) _
theorem uC_{α:Type}{f:Str->Option α}:∀ {ps:List Str},(ps.filterMap f).length=ps.length->(ps.filterMap λn=>(f n).map (n,·))=ps.zip (ps.filterMap f)
 | [],_=>rfl
 | n :: ps,h=>by
  rw [List.filterMap_cons] at h ⊢;rw [List.filterMap_cons];cases e:f n with
  | none =>
   rw [e] at h;have:=List.length_filterMap_le f ps;simp only [List.length_cons] at h;omega
  | some v =>
   rw [e] at h;simp only [Option.map_some,List.zip_cons_cons];rw [uC_ (by simpa using h)]
theorem xN_{us:List U}:∀ {l pre post:List U},us=pre++(l++post)->F2 (λp u=>pick us p=u) ((List.range' pre.length l.length).map Sum.inl) l
 | [],_,_,_ => .nil
 | x :: l,pre,post,e=>by
  rw [List.length_cons,List.range'_succ,List.map_cons];refine .cons ?_ ?_
  .show us[pre.length]?.getD U.non=x
   rw [e,List.cons_append,List.getElem?_append_right (Nat.le_refl _)];simp
  .have:=xN_ (l:=l) (pre:=pre++[x]) (post:=post) (us:=us) (by rw [e];simp)
   simpa using this
theorem xI_{F:KF}{np:Nat}{kw:List Str}{us ws:List U}(h1:us.length=np)(h2:ws.length=kw.length):perm (us++ws) (mo_ F np kw)=place F.ns F.ks kw F.dd us ws:=by
 have key:∀ {l:List (Nat ⊕ U)} {m:List U},F2 (λp u=>pick (us++ws) p=u) l m->l.map (pick (us++ws))=m:=λ{l m} h=>by
  induction h with
  | nil=>rfl
  | cons r _ ih=>rw [List.map_cons,r,ih]
 refine key (yB_ ?_ ?_ ?_)
 .have:∀ l:List (Str×U),F2 (PR λp u=>pick (us++ws) p=u) (l.map λp=>(p.1,Sum.inr p.2)) l:=by
   intro l
   induction l with
   | nil=>exact .nil
   | cons x l ih=>exact .cons ⟨rfl,rfl⟩ ih
  exact this _
 .have:=xN_ (us:=us++ws) (l:=us) (pre:=[]) (post:=ws) (by simp)
  rw [h1] at this;exact this
 .have:=xN_ (us:=us++ws) (l:=ws) (pre:=us) (post:=[]) (by simp)
  rw [h1,h2] at this;exact this
theorem F2.vals{vs:List V}{us:List Value}(h:Vals vs us):F2 RelV vs us:=by
 induction h with
 | nil=>exact .nil
 | cons r _ ih=>exact .cons r ih
theorem F2.toVals{vs:List V}{us:List Value}(h:F2 RelV vs us):Vals vs us:=by
 induction h with
 | nil=>exact .nil
 | cons r _ ih=>exact .cons r ih
theorem F2.rvs{K:Frag}{ρ:List Addr}{H:Hp}:∀ {us:List U} {vs:List V},RVs K ρ H us vs->F2 (RV K ρ H) us vs
 | [],_,h=>by cases h;exact .nil
 | u :: us,_,h=>by obtain ⟨v,r,rfl,h1,h2⟩:=h;exact .cons h1 (F2.rvs h2)
theorem F2.toRvs{K:Frag}{ρ:List Addr}{H:Hp}{us:List U}{vs:List V}(h:F2 (RV K ρ H) us vs):RVs K ρ H us vs:=by
 induction h with
 | nil=>rfl
 | cons r _ ih=>exact ⟨_,_,rfl,r,ih⟩
structure KFok(K:Frag)(fd:FuncData)(F:KF)(nd:Nat)(ddV:List (Str×V))(dd:List (Str×Value)):Prop where
 h1:fd.params.posonlyargs=[]
 h2:fd.params.args.map (·.arg)=F.ns
 h3:fd.params.vararg=none
 h4:fd.params.kwonlyargs.map (·.arg)=F.ks
 h5:fd.params.kwarg=none
 ds:∃ (dsv:List Value) (kd:Str->Value),(∀ (M:Model) (h:Heap),K.In h -> ∃ od:Option (Array Value),(od.getD #[]).toList=dsv/\Looks M h (seqItems? fd.defaults) od)/\dsv.length=nd/\nd<=F.ns.length /\
  (∀ n∈F.ks,∃ d,fd.kwdefaults=.ref d/\nsIn K d n=some (some (kd n)))/\dd=(F.ns.drop (F.ns.length - nd)).zip dsv++F.ks.map λn=>(n,kd n)
 rel:F2 (PR RelV) ddV dd
 urel:F2 (PR λu v => ∀ ρ H,RV K ρ H u v) F.dd ddV
theorem KFok.binds{K:Frag}{fd:FuncData}{F:KF}{nd np:Nat}{ddV:List (Str×V)}{dd:List (Str×Value)}{kw:List Str}(O:KFok K fd F nd ddV dd)(hs:yF_ F nd np kw=true)(hne:F.ns++F.ks≠[]):
  KBinds K fd (F.ns++F.ks) kw (λus ws=>if us.length=np/\ws.length=kw.length then place F.ns F.ks kw dd us ws else []) (λvs zs=>if vs.length=np/\zs.length=kw.length then place F.ns F.ks kw ddV vs zs else []):=by
 refine ⟨λs us ws X hl => ?_,λ{vs us zs ws} r1 r2 => ?_⟩
 .split at hl
  .rename_i hc
   obtain ⟨c1,c2⟩:=hc;rw [if_pos ⟨c1,c2⟩];simp only [yF_,Bool.and_eq_true,decide_eq_true_eq,List.all_eq_true] at hs;obtain ⟨⟨⟨s1,s2⟩,s3⟩,s4⟩:=hs;obtain ⟨dsv,kd,L,l1,l2,l3,l4⟩:=O.ds;have kz:(kw.zip ws).map (·.1)=kw:=by rw [y9_,c2,List.take_length]
   intro M A E Q q;obtain ⟨od,o1,Ld⟩:=L M s.heap X;have:=sJ_ (M:=M) (us:=us) (kw:=kw.zip ws) (kd:=kd) X O.h1 O.h2 O.h3 O.h4 O.h5 Ld (by rw [o1,l1];exact l2) (by rw [c1];exact s1)
    (λp hp=>by have:=s2 p.1 (by rw [<-kz];exact List.mem_map_of_mem hp);simpa using this) (by rw [c1,kz];exact s3) (λn hn=>by rw [o1,l1] at hn;rw [c1,kz];exact s4 n hn) (λn hn _=>l3 n hn)
   refine this.here ?_;rw [o1,l1,<-l4];rw [uC_ (by exact hl)]
   exact q
  .exact absurd (List.length_eq_zero_iff.mp hl.symm) hne
 .have e1:=r1.length
  have e2:=r2.length;rw [e1,e2];split
  .exact (yB_ O.rel (.vals r1) (.vals r2)).toVals
  .exact .nil
open PySem PySem.Spec PyProof.Rows L2
section
variable{K:PySem.W.Frag}{ρ:List Addr}{H:Hp}
theorem y0_{a b:List Int}:(a.map (Sum.inl:Int->Key)=b.map Sum.inl) ↔ a=b :=
 ⟨λh=>(List.map_inj_right (λx y e=>Sum.inl.inj e)).mp h,λh=>by rw [h]⟩
theorem RD.val(k:List Int):∀ {kvs:List (List Int×U)} {ws:List (List Key×V)},RD K ρ H kvs ws->(u7_ ws (k.map Sum.inl)).isSome=(yy_ kvs k).isSome
 | [],_,h=>by cases h;rfl
 | (k',u) :: r,_,h=>by
  obtain ⟨v,s,rfl,h1,h2⟩:=h;by_cases e:k'=k
  .rw [yL_ (y0_.mpr e)]
   simp [yy_,List.find?_cons,e]
  .rw [yK_ (λz=>e (y0_.mp z)),RD.val k h2]
   simp [yy_,List.find?_cons,e]
theorem RD.got(k:List Int){u:U}:∀ {kvs:List (List Int×U)} {ws:List (List Key×V)},RD K ρ H kvs ws->yy_ kvs k=some u -> ∃ v,u7_ ws (k.map Sum.inl)=some v/\RV K ρ H u v
 | [],_,h,e=>by cases e
 | (k',u') :: r,_,h,e=>by
  obtain ⟨v,s,rfl,h1,h2⟩:=h;by_cases z:k'=k
  .rw [yL_ (y0_.mpr z)]
   simp [yy_,List.find?_cons,z] at e;subst e;exact ⟨v,rfl,h1⟩
  .rw [yK_ (λy=>z (y0_.mp y))]
   exact RD.got k h2 (by simpa [yy_,List.find?_cons,z] using e)
theorem RD.at:∀ {kvs:List (List Int×U)} {ws:List (List Key×V)} {i:Nat} {k:List Int} {u:U},RD K ρ H kvs ws->kvs[i]? = some (k,u) -> ∃ v,ws[i]? = some (k.map Sum.inl,v)/\RV K ρ H u v
 | [],_,_,_,_,_,e=>by simp at e
 | (k',u') :: r,_,0,k,u,h,e=>by
  obtain ⟨v,s,rfl,h1,h2⟩:=h;simp at e;obtain ⟨rfl,rfl⟩:=e;exact ⟨v,by simp,h1⟩
 | (k',u') :: r,_,i+1,k,u,h,e=>by
  obtain ⟨v,s,rfl,h1,h2⟩:=h;obtain ⟨x,e1,e2⟩:=RD.at (i:=i) h2 (by simpa using e)
  exact ⟨x,by simpa using e1,e2⟩
theorem RD.any(k:List Int):∀ {kvs:List (List Int×U)} {ws:List (List Key×V)},RD K ρ H kvs ws->(ws.any λkv=>decide (kv.1=k.map Sum.inl))=kvs.any λkv=>decide (kv.1=k)
 | [],_,h=>by cases h;rfl
 | (k',u) :: r,_,h=>by
  obtain ⟨v,s,rfl,h1,h2⟩:=h;rw [List.any_cons,List.any_cons,RD.any k h2];congr 1;exact decide_eq_decide.mpr y0_
theorem RD.len:∀ {kvs:List (List Int×U)} {ws:List (List Key×V)},RD K ρ H kvs ws->kvs.length=ws.length
 | [],_,h=>by cases h;rfl
 | (k',u) :: r,_,h=>by
  obtain ⟨v,s,rfl,h1,h2⟩:=h;simp [RD.len h2]
theorem RD.snoc{k:List Int}{u:U}{v:V}(q:RV K ρ H u v):∀ {kvs:List (List Int×U)} {ws:List (List Key×V)},RD K ρ H kvs ws->RD K ρ H (kvs++[(k,u)]) (ws++[(k.map Sum.inl,v)])
 | [],_,h=>by cases h;exact ⟨v,[],rfl,q,rfl⟩
 | (k',u') :: r,_,h=>by
  obtain ⟨w,s,rfl,h1,h2⟩:=h;exact ⟨w,_,rfl,h1,RD.snoc q h2⟩
theorem RD.repl{k:List Int}{u:U}{v:V}(q:RV K ρ H u v):∀ {kvs:List (List Int×U)} {ws:List (List Key×V)},RD K ρ H kvs ws ->
  RD K ρ H (kvs.map λkv=>if kv.1=k then (kv.1,u) else kv) (ws.map λkv=>if kv.1=k.map Sum.inl then (kv.1,v) else kv)
 | [],_,h=>by cases h;rfl
 | (k',u') :: r,_,h=>by
  obtain ⟨w,s,rfl,h1,h2⟩:=h;rw [List.map_cons,List.map_cons];by_cases e:k'=k
  .rw [if_pos e,if_pos (y0_.mpr e)];exact ⟨v,_,rfl,q,RD.repl q h2⟩
  .rw [if_neg e,if_neg (λz=>e (y0_.mp z))];exact ⟨w,_,rfl,h1,RD.repl q h2⟩
theorem RD.put{k:List Int}{u:U}{v:V}(q:RV K ρ H u v){kvs:List (List Int×U)}{ws:List (List Key×V)}(h:RD K ρ H kvs ws):RD K ρ H (dput kvs k u) (putK ws (k.map Sum.inl) v):=by
 unfold dput putK;rw [h.any k];split
 .exact h.repl q
 .exact h.snoc q
theorem RK.len:∀ {kvs:List (Str×U)} {ws:List (Key×V)},RK K ρ H kvs ws->kvs.length=ws.length
 | [],_,h=>by cases h;rfl
 | (k',u) :: r,_,h=>by
  obtain ⟨v,s,rfl,h1,h2⟩:=h;simp [RK.len h2]
theorem RK.got(k:Str){u:U}:∀ {kvs:List (Str×U)} {ws:List (Key×V)},RK K ρ H kvs ws->rD_ kvs k=some u -> ∃ v,u7_ ws (Sum.inr k)=some v/\RV K ρ H u v
 | [],_,h,e=>by cases e
 | (k',u') :: r,_,h,e=>by
  obtain ⟨v,s,rfl,h1,h2⟩:=h;by_cases z:k'=k
  .rw [yL_ (congrArg Sum.inr z)]
   simp [rD_,List.find?_cons,z] at e;subst e;exact ⟨v,rfl,h1⟩
  .rw [yK_ (λy=>z (Sum.inr.inj y))]
   exact RK.got k h2 (by simpa [rD_,List.find?_cons,z] using e)
theorem RK.any(k:Str):∀ {kvs:List (Str×U)} {ws:List (Key×V)},RK K ρ H kvs ws->(ws.any λkv=>decide (kv.1=Sum.inr k))=kvs.any λkv=>decide (kv.1=k)
 | [],_,h=>by cases h;rfl
 | (k',u) :: r,_,h=>by
  obtain ⟨v,s,rfl,h1,h2⟩:=h;rw [List.any_cons,List.any_cons,RK.any k h2];congr 1;exact decide_eq_decide.mpr ⟨Sum.inr.inj,congrArg Sum.inr⟩
theorem RK.snoc{k:Str}{u:U}{v:V}(q:RV K ρ H u v):∀ {kvs:List (Str×U)} {ws:List (Key×V)},RK K ρ H kvs ws->RK K ρ H (kvs++[(k,u)]) (ws++[(Sum.inr k,v)])
 | [],_,h=>by cases h;exact ⟨v,[],rfl,q,rfl⟩
 | (k',u') :: r,_,h=>by
  obtain ⟨w,s,rfl,h1,h2⟩:=h;exact ⟨w,_,rfl,h1,RK.snoc q h2⟩
theorem RK.repl{k:Str}{u:U}{v:V}(q:RV K ρ H u v):∀ {kvs:List (Str×U)} {ws:List (Key×V)},RK K ρ H kvs ws ->
  RK K ρ H (kvs.map λkv=>if kv.1=k then (kv.1,u) else kv) (ws.map λkv=>if kv.1=Sum.inr k then (kv.1,v) else kv)
 | [],_,h=>by cases h;rfl
 | (k',u') :: r,_,h=>by
  obtain ⟨w,s,rfl,h1,h2⟩:=h;rw [List.map_cons,List.map_cons];by_cases e:k'=k
  .rw [if_pos e,if_pos (congrArg Sum.inr e)];exact ⟨v,_,rfl,q,RK.repl q h2⟩
  .rw [if_neg e,if_neg (λz=>e (Sum.inr.inj z))];exact ⟨w,_,rfl,h1,RK.repl q h2⟩
theorem RK.put{k:Str}{u:U}{v:V}(q:RV K ρ H u v){kvs:List (Str×U)}{ws:List (Key×V)}(h:RK K ρ H kvs ws):RK K ρ H (dc_ kvs k u) (putK ws (Sum.inr k) v):=by
 unfold dc_ putK;rw [h.any k];split
 .exact h.repl q
 .exact h.snoc q
theorem f3_{g:G}{y:U}{vy:V}{kvs:List (Str×U)}(hg:RH K ρ H g)(ry:RV K ρ H y vy)(e:asS y g=some kvs):∃ n a ws,y=.ref n/\g[n]? = some (.dst kvs)/\ρ[n]? = some a/\vy=.ref a/\H a=some (.dK ws)/\RK K ρ H kvs ws:=by
 cases y with
 | ref n =>
  simp only [asS] at e;cases eg:g[n]? with
  | none=>rw [eg] at e;cases e
  | some ob =>
   cases ob with
   | dst kvs' =>
    rw [eg] at e;cases e;obtain ⟨a,ws,hn,ha,rk⟩:=hg.dst eg;obtain ⟨a',rfl,hn'⟩:=ry;rw [hn] at hn';cases hn';exact ⟨n,_,ws,rfl,eg,hn,rfl,ha,rk⟩
   | _=>rw [eg] at e;cases e
 | _=>cases e
theorem xd_:∀ {us:List U} {ns:List Int} {vs:List V},intsOf us=some ns->RVs K ρ H us vs->vs=ns.map V.int
 | [],_,_,e,h=>by cases e;cases h;rfl
 | u :: us,ns,vs,e,h=>by
  obtain ⟨v,r,rfl,h1,h2⟩:=h;cases u with
  | int i =>
   simp only [intsOf] at e;obtain ⟨m,e1,rfl⟩:=Option.map_eq_some_iff.mp e;cases h1;rw [xd_ e1 h2];rfl
  | _=>cases e
theorem vq_:∀ ns:List Int,intsOf (ns.map U.int)=some ns
 | []=>rfl
 | n :: ns=>by simp [intsOf,vq_ ns]
theorem tG_{x:U}{v:V}{k:List Int}(e:keyOf x=some k)(r:RV K ρ H x v):∃ b,v=.ref b/\H b=some (.tup ((k.map Sum.inl).map kV)):=by
 cases x with
 | tup us =>
  obtain ⟨a,vs,rfl,h1,h2⟩:=r;refine ⟨a,rfl,?_⟩;rw [show H a=some (.tup vs) from h1,xd_ e h2,List.map_map]
  rfl
 | _=>cases e
theorem vF_{g:G}{x y:U}{vx vy:V}{o:Option U}(hg:RH K ρ H g)(rx:RV K ρ H x vx)(ry:RV K ρ H y vy)(e:zA_ x y g=some o):∃ a ov,vy=.ref a/\DGet H a vx ov/\ov.isSome=o.isSome /\ ∀ u,o=some u -> ∃ v,ov=some v/\RV K ρ H u v:=by
 unfold zA_ at e;cases ed:asD y g with
 | none=>rw [ed] at e;cases e
 | some kvs =>
  rw [ed] at e;obtain ⟨k,ek,rfl⟩:=Option.map_eq_some_iff.mp e;cases y with
  | ref n =>
   simp only [asD] at ed;cases eg:g[n]? with
   | none=>rw [eg] at ed;cases ed
   | some ob =>
    cases ob with
    | dic kvs' =>
     rw [eg] at ed;cases ed;obtain ⟨a,ws,hn,ha,rd⟩:=hg.dic eg;obtain ⟨a',rfl,hn'⟩:=ry;rw [hn] at hn';cases hn';obtain ⟨b,rfl,hb⟩:=tG_ ek rx;exact ⟨a,_,rfl,DGet.t ha hb,rd.val k,λu z=>rd.got k z⟩
    | dif kvs' =>
     rw [eg] at ed;cases ed;obtain ⟨a,ob,ws,hn,ha,rd⟩:=hg.dif eg;obtain ⟨a',rfl,hn'⟩:=ry;rw [hn] at hn';cases hn';obtain ⟨b,rfl,hb⟩:=tG_ ek rx;exact ⟨a,_,rfl,.inr ⟨ws,_,b,.inr ⟨ob,ha⟩,rfl,hb,rfl⟩,rd.val k,λu z=>rd.got k z⟩
    | _=>rw [eg] at ed;cases ed
  | _=>cases ed
end
section
variable{X:Cx}
theorem j5_(hu:X.A.units+1 < cLine):OpR X (compareOp .In) (λy x H Q => ∃ a o,x=.ref a/\DGet H a y o/\Q (.bl o.isSome) H):=by
 intro pins s σ H y x v u Q I ry rx ⟨a,o,e,g,q⟩;subst e;obtain rfl:u=Value.ref a:=rx;exact ap_ hu I g ry λs3 I3=>⟨.bl o.isSome,H,I3,rfl,q⟩
theorem kw_(hu:X.A.units+1 < cLine):OpR X (compareOp .NotIn) (λy x H Q => ∃ a o,x=.ref a/\DGet H a y o/\Q (.bl (!o.isSome)) H):=by
 intro pins s σ H y x v u Q I ry rx ⟨a,o,e,g,q⟩;subst e;obtain rfl:u=Value.ref a:=rx;exact kz_ hu I g ry λs3 I3=>⟨.bl (!o.isSome),H,I3,rfl,q⟩
theorem mn_{f:Value->Value->Sem Value}{r r':R2}(h:OpR X f r)(h':OpR X f r'):OpR X f (λx y H Q=>r x y H Q\/r' x y H Q):=λpins s σ H x y v u Q I rx ry q =>
 q.elim (λq=>h pins s σ H x y v u Q I rx ry q) λq=>h' pins s σ H x y v u Q I rx ry q
theorem dr_{pins:List (Addr×Obj)}{σ:L2.St}{H:Hp}{s:Shared}{a b:Addr}{kvs:List (List Key×V)}{k:List Key}{v:V}{r:Value}{E:Value->Shared->Prop}{Q:Unit->Shared->Prop}(hu:X.A.units+1 < cLine)(I:L2.Inv X pins σ H s)(e:H a=some (.dT kvs))(eb:H b=some (.tup (k.map kV)))(l:kvs.length < sizeLine)(rv:RelV v r)
  (h:∀ s',L2.Inv X pins σ (upd H a (.dT (putK kvs k v))) s'->Q () s'):wpAny (model X.prog X.w) X.A (dictSet a (.ref b) r) Q E s:=by
 obtain ⟨z,hd,xs,rel,dd⟩:=gA_ I.hok e;refine wpAny_dictSet_heap (hsz:=by rw [<-Paired.length rel];exact z) (by exact Nat.lt_of_succ_lt hu) (vm_ I.hok eb) dd λh' dd' hs=>h _ ?_
 obtain ⟨q,es,ep,hq,h2,h3,h4,_,h5⟩:=dd';refine u4_ I (by rw [e];exact True.intro) hs ⟨q,hq⟩ ⟨by have:=y1_ kvs k v;omega,hd,_,(rel.put k eb rv).keeps λc ys ec => ?_,q,es,ep,hq,h2,h3,h4,h5⟩
 rw [zg_ (s0_ ec e (λz=>nomatch z))];exact ec
noncomputable def cI_:gK_:=λo i v H Q => ∃ a H',o=.ref a/\DPut H a i v H'/\Q H'
theorem set_dict(hu:X.A.units+1 < cLine):kT_ X cI_:=by
 intro pins s σ H o i v ov iv u Q I ro ri rv ⟨a,H',e,g,q⟩;subst e;obtain rfl:ov=Value.ref a:=ro;exact qL_ hu I g ri rv λs4 I4=>⟨H',I4,q⟩
theorem m6_{r r':gK_}(h:kT_ X r)(h':kT_ X r'):kT_ X (λo i v H Q=>r o i v H Q\/r' o i v H Q):=λpins s σ H o i v ov iv u Q I ro ri rv q =>
 q.elim (λq=>h pins s σ H o i v ov iv u Q I ro ri rv q) λq=>h' pins s σ H o i v ov iv u Q I ro ri rv q
end
theorem tX_(m:Bool):∀ (r:List Int) (a:Int),best m a r∈a :: r
 | [],a=>by simp [best]
 | b :: r,a=>by
  have:=tX_ m r (if m then (if b < a then b else a) else (if b > a then b else a))
  simp only [best,List.foldl_cons] at *;simp only [List.mem_cons] at this ⊢;rcases this with h | h
  .rw [h];cases m <;> simp only [if_true,Bool.false_eq_true,if_false] <;> split <;> simp
  .exact .inr (.inr h)
theorem tz_:∀ (r:List Int) (a:Int),∀ x∈a :: r,best true a r<=x
 | [],a,x,h=>by simp [best] at *;omega
 | b :: r,a,x,h=>by
  have ih:=tz_ r (if b < a then b else a)
  simp only [best,List.foldl_cons,if_true] at *;have h0:=ih _ (List.mem_cons_self);rcases List.mem_cons.mp h with rfl | h
  .exact Int.le_trans h0 (by split <;> omega)
  .rcases List.mem_cons.mp h with rfl | h
   .exact Int.le_trans h0 (by split <;> omega)
   .exact ih x (List.mem_cons_of_mem _ h)
theorem tt_:∀ (r:List Int) (a:Int),∀ x∈a :: r,x<=best false a r
 | [],a,x,h=>by simp [best] at *;omega
 | b :: r,a,x,h=>by
  have ih:=tt_ r (if b > a then b else a)
  simp only [best,List.foldl_cons,Bool.false_eq_true,if_false] at *;have h0:=ih _ (List.mem_cons_self);rcases List.mem_cons.mp h with rfl | h
  .exact Int.le_trans (by split <;> omega) h0
  .rcases List.mem_cons.mp h with rfl | h
   .exact Int.le_trans (by split <;> omega) h0
   .exact ih x (List.mem_cons_of_mem _ h)
theorem insI_perm(a:Int):∀ r:List Int,(insI a r).Perm (a :: r)
 | [] => .refl _
 | b :: r=>by
  simp only [insI];split
  .exact .refl _
  .exact ((insI_perm a r).cons b).trans (.swap a b r)
theorem sortI_perm:∀ r:List Int,(sortI r).Perm r
 | [] => .refl _
 | a :: r=>(insI_perm a _).trans ((sortI_perm r).cons a)
theorem kK_{b:Int}(a:Int):∀ {r:List Int},b<=a->(∀ x∈r,b<=x) -> ∀ x∈insI a r,b<=x:=λ{r} h h' x hx=>by
 rcases List.mem_cons.mp ((insI_perm a r).mem_iff.mp hx) with rfl | z
 .exact h
 .exact h' x z
theorem tv_(a:Int):∀ {r:List Int},r.Pairwise (· <= ·)->(insI a r).Pairwise (· <= ·)
 | [],_=>by simp [insI]
 | b :: r,h=>by
  obtain ⟨h1,h2⟩:=List.pairwise_cons.mp h;simp only [insI];split
  .rename_i hab
   exact List.pairwise_cons.mpr ⟨λx hx=>by rcases List.mem_cons.mp hx with rfl | z;exact hab;exact Int.le_trans hab (h1 x z),h⟩
  .exact List.pairwise_cons.mpr ⟨kK_ a (by omega) h1,tv_ a h2⟩
theorem vZ_:∀ r:List Int,(sortI r).Pairwise (· <= ·)
 | [] => .nil
 | a :: r=>tv_ a (vZ_ r)
theorem qv_{a b:List Int}(hp:a.Perm b)(ha:a.Pairwise (· <= ·))(hb:b.Pairwise (· <= ·)):a=b :=
 hp.eq_of_pairwise (λx y _ _ h1 h2=>Int.le_antisymm h1 h2) ha hb
theorem xl_:∀ {ns:List Int} {us:List Value},Vals (ns.map V.int) us->IntsAre us ns
 | [],us,h=>by cases h;exact .nil
 | n :: ns,us,h=>by
  cases h with
  | cons r t =>
   obtain ⟨k,rfl⟩:=r;exact .cons n k (xl_ t)
theorem pF_:∀ {ns:List Int} {us:List Value},IntsAre us ns->Vals (ns.map V.int) us:=λh=>wN_ h
section
variable{prog:Program}{w:World}{A:Around}{E:Value->Shared->Prop}{s:Shared}{l:Addr}{vs:List Value}{ns:List Int}{Q:Value->Shared->Prop}
theorem az_(hh:A.handled=none)(hl:s.heap.IsList l vs.toArray)(hi:IntsAre vs ns)(hne:0 < ns.length)
  (h:∀ h' M (t:Tok) tk,(∀ b o,s.heap.get? b=some o->h'.get? b=some o)->M∈ns->(∀ a,a∈ns->M<=a)->Q (.int M t) { s with heap:=h',toks:=tk }):wpAny (model prog w) A (call (.builtin "min") [.ref l]) Q E s:=by
 obtain ⟨xs,e⟩:=hi.allInts.items;have hns:ns=xs.toList.map (·.1):=by rw [<-hi.numsOf,<-nums_intItems,<-e]
 have hsz:0 < xs.size:=by have h3:=hne;rw [hns,List.length_map,Array.length_toList] at h3;exact h3
 rw [e] at hl;refine min_intList hh hl hsz λv h' tk hv hk => ?_;obtain ⟨t,rfl⟩:=intItems_at hv;obtain ⟨h1,h2⟩:=argBest_lt (numAt xs) (xs.size - 1);refine h _ _ t tk hk ?_ λa ha => ?_
 .rw [hns,numAt_eq];exact getD_mem (by rw [List.length_map,Array.length_toList];omega)
 .rw [hns] at ha
  obtain ⟨j,hj,rfl⟩:=mem_getD ha;rw [List.length_map,Array.length_toList] at hj;rw [<-numAt_eq];exact h2 j (by omega)
theorem aB_(hh:A.handled=none)(hl:s.heap.IsList l vs.toArray)(hi:IntsAre vs ns)(hne:0 < ns.length)
  (h:∀ h' M (t:Tok) tk,(∀ b o,s.heap.get? b=some o->h'.get? b=some o)->M∈ns->(∀ a,a∈ns->a<=M)->Q (.int M t) { s with heap:=h',toks:=tk }):wpAny (model prog w) A (call (.builtin "max") [.ref l]) Q E s:=by
 obtain ⟨xs,e⟩:=hi.allInts.items;have hns:ns=xs.toList.map (·.1):=by rw [<-hi.numsOf,<-nums_intItems,<-e]
 have hsz:0 < xs.size:=by have h3:=hne;rw [hns,List.length_map,Array.length_toList] at h3;exact h3
 rw [e] at hl;refine max_intList hh hl hsz λv h' tk hv hk => ?_;obtain ⟨t,rfl⟩:=intItems_at hv;obtain ⟨h1,h2⟩:=argBest_gt (numAt xs) (xs.size - 1);refine h _ _ t tk hk ?_ λa ha => ?_
 .rw [hns,numAt_eq];exact getD_mem (by rw [List.length_map,Array.length_toList];omega)
 .rw [hns] at ha
  obtain ⟨j,hj,rfl⟩:=mem_getD ha;rw [List.length_map,Array.length_toList] at hj;rw [<-numAt_eq];exact h2 j (by omega)
theorem aE_(hh:A.handled=none)(hl:s.heap.IsList l vs.toArray)(hi:IntsAre vs ns)
  (h:∀ h' tk t,(∀ b o,s.heap.get? b=some o->h'.get? b=some o)->Q (.int ns.sum t) { s with heap:=h',toks:=tk }):wpAny (model prog w) A (call (.builtin "sum") [.ref l]) Q E s:=by
 obtain ⟨xs,hx⟩:=hi.allInts.items;have hl':s.heap.IsList l (intItems xs):=hx ▸ hl;refine sum_intListG hh hl' λh' tk t' hk => ?_;have e1:ns=xs.toList.map (·.1):=by
  rw [<-nums_intItems,<-hx];exact (show numsOf vs.toArray.toList=ns from hi.numsOf).symm
 have e2:preSum (numAt xs) xs.size=ns.sum:=by
  rw [preSum_eq,List.take_of_length_le (by simp),e1]
 rw [e2];exact h h' tk t' hk
end
section
variable{X:Cx}
noncomputable def rMm(m:Bool):List V->Hp->VK->Prop:=λxs H Q=>(∃ i j,xs=[.int i,.int j]/\Q (.int (best m i [j])) H)\/(∃ i j k,xs=[.int i,.int j,.int k]/\Q (.int (best m i [j,k])) H) \/
 ∃ p i ns,xs=[.ref p]/\H p=some (.lst ((i :: ns).map V.int))/\Q (.int (best m i ns)) H
theorem qd_{m:Bool}{i M:Int}{ns:List Int}(h1:M∈i :: ns)(h2:∀ a,a∈i :: ns->if m then M<=a else a<=M):M=best m i ns:=by
 have a:=h2 _ (tX_ m ns i);cases m with
 | true=>exact Int.le_antisymm (by simpa using a) (tz_ ns i M h1)
 | false=>exact Int.le_antisymm (tt_ ns i M h1) (by simpa using a)
theorem call_mn(hc:X.calm=true):CallR X (.builtin "min") (rMm true):=by
 intro pins s σ H xs us Q I r h;rcases h with ⟨i,j,rfl,q⟩ | ⟨i,j,k,rfl,q⟩ | ⟨p,i,ns,rfl,hp,q⟩
 .exact rk_ hc pins s σ H _ us Q I r ⟨i,j,rfl,q⟩
 .cases r with
  | cons r1 r =>
   cases r with
   | cons r2 r =>
    cases r with
    | cons r3 r =>
     cases r;obtain ⟨t,rfl⟩:=r1;obtain ⟨u,rfl⟩:=r2;obtain ⟨x,rfl⟩:=r3;refine min_three_ints (I.ok.hd hc) λh' tk kk=>⟨_,H,I.kept kk,?_,q⟩;simp only [best,List.foldl_cons,List.foldl_nil,if_true];split <;> split <;> exact ⟨_,rfl⟩
 .obtain ⟨u,rfl,rx⟩:=vals1 r
  cases rx;obtain ⟨its,rv,pl,hz⟩:=I.list (SqL.of hp);exact az_ (I.ok.hd hc) pl.isList (xl_ rv) (Nat.succ_pos _) λh' M t tk kk h1 h2=>⟨.int M,H,I.kept kk,⟨t,rfl⟩,by rw [qd_ (m:=true) h1 (by simpa using h2)];exact q⟩
theorem call_mx(hc:X.calm=true):CallR X (.builtin "max") (rMm false):=by
 intro pins s σ H xs us Q I r h;rcases h with ⟨i,j,rfl,q⟩ | ⟨i,j,k,rfl,q⟩ | ⟨p,i,ns,rfl,hp,q⟩
 .exact qI_ hc pins s σ H _ us Q I r ⟨i,j,rfl,q⟩
 .cases r with
  | cons r1 r =>
   cases r with
   | cons r2 r =>
    cases r with
    | cons r3 r =>
     cases r;obtain ⟨t,rfl⟩:=r1;obtain ⟨u,rfl⟩:=r2;obtain ⟨x,rfl⟩:=r3;refine max_three_ints (I.ok.hd hc) λh' tk kk=>⟨_,H,I.kept kk,?_,q⟩;simp only [best,List.foldl_cons,List.foldl_nil,Bool.false_eq_true,if_false];split <;> split <;> exact ⟨_,rfl⟩
 .obtain ⟨u,rfl,rx⟩:=vals1 r
  cases rx;obtain ⟨its,rv,pl,hz⟩:=I.list (SqL.of hp);exact aB_ (I.ok.hd hc) pl.isList (xl_ rv) (Nat.succ_pos _) λh' M t tk kk h1 h2=>⟨.int M,H,I.kept kk,⟨t,rfl⟩,by rw [qd_ (m:=false) h1 (by simpa using h2)];exact q⟩
theorem call_sum(hc:X.calm=true):CallR X (.builtin "sum") (λxs H Q => ∃ (p:Addr) (ns:List Int),xs=[.ref p]/\H p=some (.lst (ns.map V.int))/\Q (.int ns.sum) H):=by
 intro pins s σ H xs us Q I r ⟨p,ns,e,hp,q⟩;subst e;obtain ⟨u,rfl,rx⟩:=vals1 r;cases rx;obtain ⟨its,rv,pl,hz⟩:=I.list (SqL.of hp);exact aE_ (I.ok.hd hc) pl.isList (xl_ rv) λh' tk t kk=>⟨.int ns.sum,H,I.kept kk,⟨t,rfl⟩,q⟩
theorem pO_:CallR X (.builtin "sorted") (λxs H Q => ∃ (p:Addr) (ns:List Int),xs=[.ref p]/\H p=some (.lst (ns.map V.int))/\ns.length < 64 /\ ∀ l,H l=none->Q (.ref l) (upd H l (.lst ((sortI ns).map V.int)))):=by
 intro pins s σ H xs us Q I r ⟨p,ns,e,hp,hl,q⟩;subst e;obtain ⟨u,rfl,rx⟩:=vals1 r;cases rx;obtain ⟨its,rv,pl,hz⟩:=I.list (SqL.of hp);have hi:=xl_ rv;refine sorted_ints pl.isList hi (by rw [hi.length];exact hl) λout ns' a1 a2 a3 => ?_
 obtain ⟨c,he⟩:=sortedAll_at s.heap its out;have en:ns'=sortI ns:=qv_ (a2.trans (sortI_perm ns).symm) a3 (vZ_ ns);subst en;have hf:H (s.heap.objs.size+1)=none:=I.hok.fresh (Nat.le_succ _);refine ⟨.ref (s.heap.objs.size+1),_,I.laid (t':=s.toks) (λ_ _=>sortedAll_old) (Nat.le_succ _) (show ObjOk X.prog X.w _ _ _ (.lst ((sortI ns).map V.int)) from ⟨?_,out.toList,c,pF_ a1,?_⟩),rfl,q _ hf⟩
 .rw [List.length_map,(sortI_perm ns).length_eq]
  exact Nat.le_trans (Nat.le_of_lt hl) (by decide)
 .exact he
end
section
variable{X:Cx}{W:XQ}{C:Nat->List U->G->Out U}{r:L}{pos:Pos}{a b c:Expr}{a' b' c':E}
theorem one{α β:Type}{R:List Addr->Hp->α->β->Prop}{f:Su->G->Out U}{k:Su->U->G->Out α}{σ:L2.St}{H:Hp}{Q:β->Hp->Prop}{Q2:V->Hp->Prop}
  (hp:∃ σu ρ g,RS X.K ρ H σu σ/\RH X.K ρ H g/\post X.K W R ((f σu g).bind λx g=>k σu x g) ρ H Q)
  (imp:∀ σu ρ H g u x,RS X.K ρ H σu σ->RH X.K ρ H g->RV X.K ρ H u x->post X.K W R (k σu u g) ρ H Q->Q2 x H):tE X.K W f σ H Q2:=by
 obtain ⟨σu,ρ,g,hs,hg,p⟩:=hp;exact ⟨σu,ρ,g,hs,hg,(post.bind p).mono λx H1 ⟨ρ1,u,g1,s1,h1,r1,p1⟩=>imp σu ρ1 H1 g1 u x (hs.step s1) h1 r1 p1⟩
theorem two{α β:Type}{R:List Addr->Hp->α->β->Prop}{f h:Su->G->Out U}{k:Su->U->U->G->Out α}{σ:L2.St}{H:Hp}{Q:β->Hp->Prop}{Q2:V->V->Hp->Prop}
  (hp:∃ σu ρ g,RS X.K ρ H σu σ/\RH X.K ρ H g/\post X.K W R ((f σu g).bind λx g=>(h σu g).bind λy g=>k σu x y g) ρ H Q)
  (imp:∀ σu ρ H g u w x y,RS X.K ρ H σu σ->RH X.K ρ H g->RV X.K ρ H u x->RV X.K ρ H w y->post X.K W R (k σu u w g) ρ H Q->Q2 x y H) :
  tE X.K W f σ H λx H1=>tE X.K W h σ H1 λy H2=>Q2 x y H2:=by
 obtain ⟨σu,ρ,g,hs,hg,p⟩:=hp;refine ⟨σu,ρ,g,hs,hg,(post.bind p).mono λx H1 ⟨ρ1,u,g1,s1,h1,r1,p1⟩ => ?_⟩;refine ⟨σu,ρ1,g1,hs.step s1,h1,(post.bind p1).mono λy H2 ⟨ρ2,w,g2,s2,h2,r2,p2⟩ => ?_⟩;exact imp σu ρ2 H2 g2 u w x y ((hs.step s1).step s2) h2 (RV.step s2 _ _ r1) r2 p2
theorem io_{i:Nat}{x:Str}(hN:X.N[i]? = some x)(hv:Vis X.env.scope x)(hd:(x == ("__debug__" : Str))=false)(hcd:(x == ("__classdict__" : Str))=false):PE X (.Name x pos) (tE X.K W (evF C r (.var i))):=by
 refine (he_ hN hv hd hcd).imp λσ H Q ⟨σu,ρ,g,hs,hg,p⟩ => ?_;simp only [evF] at p;cases e:σu[i]? with
 | none=>simp [e] at p;exact p.elim
 | some o =>
  cases o with
  | none=>simp [e] at p;exact p.elim
  | some u =>
   simp only [e] at p;obtain ⟨v,e1,e2⟩:=hs.val i u e;exact ⟨v,e1,post.okHere p hg e2⟩
theorem uH_{u:U}{v:V}{e:Expr}(h:PE X e (tC v))(hr:∀ ρ H,RV X.K ρ H u v):PE X e (tE X.K W (evF C r (.cst u))) :=
 h.imp λσ H Q ⟨σu,ρ,g,hs,hg,p⟩=>post.okHere (u:=u) p hg (hr ρ H)
theorem vh_{o:Operator}{op:Op}{r2:R2}(ho:OpR X (binaryOp o) r2)
  (imp:∀ u w z x y ρ (H:Hp) Q,RV X.K ρ H u x->RV X.K ρ H w y->op2 op u w=some z->(∀ v,RV X.K ρ H z v->Q v H)->r2 x y H Q)
  (imp2:∀ u w x y ρ (H:Hp) g p Q,RH X.K ρ H g->RV X.K ρ H u x->RV X.K ρ H w y->qR_ u w g=some p->post X.K W (RV X.K) (rT_ op u w g) ρ H Q->r2 x y H Q)
  (ha:PE X a (tE X.K W (r.ev a'))) (hb:PE X b (tE X.K W (r.ev b'))):PE X (.BinOp a o b pos) (tE X.K W (evF C r (.bin op a' b'))):=by
 refine (cE_ ho ha hb).imp λσ H Q hp=>two hp λσu ρ H g u w x y hs hg r1 r2 p => ?_;cases el:qR_ u w g with
 | some q=>exact imp2 u w x y ρ H g q Q hg r1 r2 el p
 | none =>
  have p:post X.K W (RV X.K) (rT_ op u w g) ρ H Q:=p;unfold rT_ at p;rw [el] at p;obtain ⟨z,e,p⟩:=post.lift p;exact imp u w z x y ρ H Q r1 r2 e λv rv=>post.okHere p hg rv
theorem uM_{op:Op}(h:op ≠ .add){r2:R2}(u w:U)(x y:V)(ρ:List Addr)(H:Hp)(g:G)(q:List U×List U)(Q:VK)(_:RH X.K ρ H g)(_:RV X.K ρ H u x)(_:RV X.K ρ H w y)(el:qR_ u w g=some q)(p:post X.K W (RV X.K) (rT_ op u w g) ρ H Q):r2 x y H Q:=by
 unfold rT_ at p;rw [el] at p;cases op <;> first | exact absurd rfl h | exact p.elim
theorem nr_{f:Value->Value->Sem Value}{r r':R2}(h:OpR X f r)(h':OpR X f r'):OpR X f λx y H Q=>r x y H Q\/r' x y H Q:=λpins s σ H x y v u Q I rx ry q=>q.elim (h pins s σ H x y v u Q I rx ry) (h' pins s σ H x y v u Q I rx ry)
theorem fQ_(u w:U)(x y:V)(ρ:List Addr)(H:Hp)(g:G)(q:List U×List U)(Q:VK)(hg:RH X.K ρ H g)(r1:RV X.K ρ H u x)(r2:RV X.K ρ H w y)(el:qR_ u w g=some q)(p:post X.K W (RV X.K) (rT_ .add u w g) ρ H Q):bn_ x y H Q:=by
 unfold rT_ at p;rw [el] at p;dsimp only at p;split at p
 .rename_i hl
  obtain ⟨n,m,rfl,rfl,g1,g2⟩:=t0_ el;obtain ⟨a1,vs,c1,c2,c3⟩:=hg.lst g1;obtain ⟨a2,ws,d1,d2,d3⟩:=hg.lst g2;obtain ⟨a1',rfl,z⟩:=r1;rw [c1] at z;cases z;obtain ⟨a2',rfl,z⟩:=r2;rw [d1] at z;cases z;refine ⟨a1,a2,vs,ws,rfl,rfl,c2,d2,by rw [<-c3.length,<-d3.length,sizeLine_eq];unfold zd_ at hl;omega,λl hl' => ?_⟩
  exact p (.ref l) _ _ (Stp.alloc hl') (hg.alloc hl' (c3.append d3)) ⟨l,rfl,by rw [<-hg.len];simp⟩
 .exact p.elim
theorem xB_{op:Op}{g:Int->Int->Int}{Cc:Int->Int->Prop}(h:∀ u w z,op2 op u w=some z -> ∃ i j,u=.int i/\w=.int j/\z=.int (g i j)/\Cc i j){K:PySem.W.Frag}(u w z:U)(x y:V)(ρ:List Addr)(H:Hp)(Q:VK)(r1:RV K ρ H u x)(r2:RV K ρ H w y)
  (e:op2 op u w=some z) (q:∀ v,RV K ρ H z v->Q v H):rI Cc (λi j => .int (g i j)) x y H Q:=by
 obtain ⟨i,j,rfl,rfl,rfl,hc⟩:=h u w z e;cases r1;cases r2;exact ⟨i,j,rfl,rfl,hc,q _ rfl⟩
theorem o4_{f:Value->Value->Sem Value}{g:Int->Int->V}(h:OpR X f (rI0 g)):OpR X f (rI (λ_ _=>True) g):=λpins s σ H x y v u Q I rx ry ⟨i,j,e1,e2,_,q⟩=>h pins s σ H x y v u Q I rx ry ⟨i,j,e1,e2,q⟩
theorem log2_small{n:Nat}(h:n < 115792089237316195423570985008687907853269984665640564039457584007913129639936):n.log2 < 9000:=by
 by_cases h0:n=0
 .subst h0;decide
 .exact Nat.lt_of_lt_of_le ((Nat.log2_lt h0).mpr (show n < 2 ^ 256 from h)) (by decide)
theorem lq_:OpR X (binaryOp .FloorDiv) (rI (λi j=>j≠0 /\ -yw_ < j/\j < yw_) λi j => .int (i.fdiv j)):=opI λi j _ _ _ _ _ hc q =>
 floordiv_int hc.1 q (.inl (PyProof.noPylong_of_log2 (log2_small (by have:=hc.2;unfold yw_ at this;omega))))
theorem lp_:OpR X (binaryOp .Mult) (rI (λi j=>CMul i j\/((-yw_ < i/\i < yw_) /\ -yw_ < j/\j < yw_)) λi j => .int (i*j)):=opI λi j _ _ _ _ _ hc q=>by
 rcases hc with hc | ⟨⟨h1,h2⟩,h3,h4⟩
 .exact mul_int q hc.ok
 .unfold yw_ at h1 h2 h3 h4
  exact mul_int q (IntMulOk.of_bits (Nat.le_trans (intBits_le (k:=256) (show i.natAbs < 115792089237316195423570985008687907853269984665640564039457584007913129639936 by omega)) (by decide)) (Nat.le_trans (intBits_le (k:=256) (show j.natAbs < 115792089237316195423570985008687907853269984665640564039457584007913129639936 by omega)) (by decide)))
theorem xD_{op:Op}{u w z:U}(e:op2 op u w=some z):∃ i j,u=.int i/\w=.int j:=by
 cases u <;> first | (cases op <;> cases e <;> done) | skip
 cases w <;> first | (cases op <;> cases e <;> done) | skip
 exact ⟨_,_,rfl,rfl⟩
theorem pv_{op:Op}{o:Operator}(hop:(op=.add/\o = .Add)\/(op=.sub/\o = .Sub)\/(op=.mul/\o = .Mult)\/(op=.fdiv/\o = .FloorDiv)\/(op=.mod/\o = .Mod)\/(op=.pow/\o = .Pow))
  (ha:PE X a (tE X.K W (r.ev a'))) (hb:PE X b (tE X.K W (r.ev b'))):PE X (.BinOp a o b pos) (tE X.K W (evF C r (.bin op a' b'))):=by
 rcases hop with ⟨rfl,rfl⟩ | ⟨rfl,rfl⟩ | ⟨rfl,rfl⟩ | ⟨rfl,rfl⟩ | ⟨rfl,rfl⟩ | ⟨rfl,rfl⟩
 .exact vh_ (nr_ (o4_ se_) hj_) (λu w z x y ρ H Q r1 r2 e q => .inl (xB_ (λu w z e=>by
   obtain ⟨i,j,rfl,rfl⟩:=xD_ e;cases e;exact ⟨_,_,rfl,rfl,rfl,trivial⟩) u w z x y ρ H Q r1 r2 e q)) (λu w x y ρ H g q Q hg r1 r2 el p => .inr (fQ_ u w x y ρ H g q Q hg r1 r2 el p)) ha hb
 .exact vh_ (o4_ tS_) (xB_ λu w z e=>by
   obtain ⟨i,j,rfl,rfl⟩:=xD_ e;cases e
   exact ⟨_,_,rfl,rfl,rfl,trivial⟩) (uM_ (by simp)) ha hb
 .refine vh_ lp_ (xB_ λu w z e => ?_) (uM_ (by simp)) ha hb
  obtain ⟨i,j,rfl,rfl⟩:=xD_ e;simp only [op2,opZ,Option.ite_none_right_eq_some,Option.some.injEq] at e;obtain ⟨h,rfl⟩:=e;refine ⟨_,_,rfl,rfl,rfl,?_⟩;rw [Bool.or_eq_true,Bool.or_eq_true,Bool.and_eq_true,Bool.and_eq_true,Bool.and_eq_true,Bool.and_eq_true,Bool.and_eq_true] at h;unfold CMul;rw [show ((2:Int) ^ 64)=u2_ from rfl];rcases h with (⟨h1,h2⟩ | ⟨h1,h2⟩) | ⟨⟨⟨h1,h2⟩,h3⟩,h4⟩
  .exact .inl (.inl ⟨of_decide_eq_true h1,of_decide_eq_true h2⟩)
  .exact .inl (.inr ⟨of_decide_eq_true h1,of_decide_eq_true h2⟩)
  .exact .inr ⟨⟨of_decide_eq_true h1,of_decide_eq_true h2⟩,of_decide_eq_true h3,of_decide_eq_true h4⟩
 .refine vh_ lq_ (xB_ λu w z e => ?_) (uM_ (by simp)) ha hb
  obtain ⟨i,j,rfl,rfl⟩:=xD_ e;simp only [op2,opZ] at e;refine ⟨i,j,rfl,rfl,?_⟩;by_cases h0:0 < j
  .rw [if_pos h0] at e
   have ef:i / j=i.fdiv j:=(Int.fdiv_eq_ediv_of_nonneg i (by omega)).symm
   by_cases h1:j < yw_
   .rw [if_pos h1] at e
    rw [<-ef];exact ⟨(Option.some.inj e).symm,by omega,by unfold yw_;omega,h1⟩
   .rw [if_neg h1] at e;cases e
  .rw [if_neg h0] at e
   by_cases h1:j=0
   .rw [if_pos h1] at e;cases e
   .rw [if_neg h1] at e
    by_cases h2 : -yw_ < j
    .rw [if_pos h2] at e
     exact ⟨(Option.some.inj e).symm,h1,h2,by unfold yw_;omega⟩
    .rw [if_neg h2] at e;cases e
 .refine vh_ kb_ (xB_ λu w z e => ?_) (uM_ (by simp)) ha hb
  obtain ⟨i,j,rfl,rfl⟩:=xD_ e;simp only [op2,opZ] at e;refine ⟨i,j,rfl,rfl,?_⟩;by_cases h0:0 < j
  .rw [if_pos h0] at e
   have ef:i % j=i.fmod j:=(Int.fmod_eq_emod_of_nonneg i (by omega)).symm
   rw [<-ef];exact ⟨(Option.some.inj e).symm,by omega⟩
  .rw [if_neg h0] at e
   by_cases h1:j=0
   .rw [if_pos h1] at e;cases e
   .rw [if_neg h1] at e
    exact ⟨(Option.some.inj e).symm,h1⟩
 .exact vh_ j6_ (xB_ λu w z e=>by
   obtain ⟨i,j,rfl,rfl⟩:=xD_ e;simp only [op2,opZ,Option.ite_none_right_eq_some,Option.some.injEq] at e;obtain ⟨h,rfl⟩:=e;refine ⟨_,_,rfl,rfl,rfl,?_⟩;unfold bg_
   omega) (uM_ (by simp)) ha hb
theorem gU_(ha:PE X a (tE X.K W (r.ev a'))):PE X (.UnaryOp .USub a pos) (tE X.K W (evF C r (.neg a'))):=by
 refine (hT_ ny_ ha).imp λσ H Q hp=>one hp λσu ρ H g u x hs hg r1 p => ?_;cases u <;> simp only [] at p <;> first | exact p.elim | skip
 cases r1;exact ⟨_,rfl,post.okHere p hg rfl⟩
noncomputable def vI_(X:Cx)(op:Cp)(o:CmpOp):Prop := ∃ r2,OpR X (compareOp o) r2 /\ ∀ ρ (H:Hp) g u w x y b Q,RH X.K ρ H g->RV X.K ρ H u x->RV X.K ρ H w y->cmp2 op u w g=some b->Q (V.bl b) H->r2 x y H Q
theorem xc_{op:Cp}{o:CmpOp}{f:Int->Int->Bool}(ho:OpR X (compareOp o) (rI0 λi j => .bl (f i j)))(h:∀ u w g b,cmp2 op u w g=some b -> ∃ i j,u=.int i/\w=.int j/\b=f i j):vI_ X op o :=
 ⟨_,ho,λρ H g u w x y b Q hg r1 r2 e q=>by
  obtain ⟨i,j,rfl,rfl,rfl⟩:=h u w g b e;cases r1;cases r2;exact ⟨i,j,rfl,rfl,q⟩⟩
theorem wj_{K:PySem.W.Frag}{ρ:List Addr}{H:Hp}{u:U}{x:V}(h:RV K ρ H u x):z8_ u=decide (x=.non):=by
 cases u with
 | tup us=>obtain ⟨a,vs,rfl,_⟩:=h;rfl
 | fro us=>obtain ⟨a,vs,rfl,_⟩:=h;rfl
 | ref us=>obtain ⟨a,rfl,_⟩:=h;rfl
 | xn _ us=>obtain ⟨a,vs,rfl,_⟩:=h;rfl
 | _=>cases h;rfl
theorem tK_{f:Int->Int->Bool}{u w:U}{b:Bool}(e:(match u,w with | .int i,.int j=>some (f i j) | _,_=>none)=some b):∃ i j,u=.int i/\w=.int j/\b=f i j:=by
 cases u <;> first | (cases e;done) | skip
 cases w <;> first | (cases e;done) | skip
 exact ⟨_,_,rfl,rfl,(Option.some.inj e).symm⟩
theorem sw_{u w:U}(h:sF_ u w=true):(u=.non/\w=.non)\/(∃ a b,u=.bl a/\w=.bl b)\/(∃ a b,u=.int a/\w=.int b) \/ ∃ a b,u=.str a/\w=.str b:=by
 cases u <;> cases w <;> first | (cases h;done) | exact .inl ⟨rfl,rfl⟩ | exact .inr (.inl ⟨_,_,rfl,rfl⟩) | exact .inr (.inr (.inl ⟨_,_,rfl,rfl⟩)) | exact .inr (.inr (.inr ⟨_,_,rfl,rfl⟩))
theorem cz_(hu:X.A.units+2 < cLine)(op:Cp)(o:CmpOp)(h:(op=.eq/\o = .Eq)\/(op=.ne/\o = .NotEq)\/(op=.lt/\o = .Lt)\/(op=.le/\o = .LtE)\/(op=.gt/\o = .Gt)\/(op=.ge/\o = .GtE)\/(op=.isN/\o = .Is)\/(op=.notN/\o = .IsNot)\/(op=.inn/\o = .In)\/(op=.nin/\o = .NotIn)):vI_ X op o:=by
 rcases h with ⟨rfl,rfl⟩ | ⟨rfl,rfl⟩ | ⟨rfl,rfl⟩ | ⟨rfl,rfl⟩ | ⟨rfl,rfl⟩ | ⟨rfl,rfl⟩ | ⟨rfl,rfl⟩ | ⟨rfl,rfl⟩ | ⟨rfl,rfl⟩ | ⟨rfl,rfl⟩
 .refine ⟨_,nr_ (jo_ (by omega)) (jN_ hu),λρ H g u w x y b Q hg r1 r2 e q => ?_⟩
  simp only [cmp2] at e;cases el:qR_ u w g with
  | none=>rw [el] at e;exact .inl ⟨ρ,u,w,b,r1,r2,e,q⟩
  | some p=>rw [el] at e;exact .inr ⟨ρ,g,u,w,p,b,hg,r1,r2,el,e,q⟩
 .refine ⟨_,eU_,λρ H g u w x y b Q hg r1 r2 e q => ?_⟩
  have hs:sF_ u w=true:=by
   cases hs:sF_ u w with
   | true=>rfl
   | false=>simp only [cmp2,hs,Bool.false_eq_true,if_false,reduceCtorEq] at e
  rcases sw_ hs with ⟨rfl,rfl⟩ | ⟨a,c,rfl,rfl⟩ | ⟨a,c,rfl,rfl⟩ | ⟨a,c,rfl,rfl⟩ <;> simp only [cmp2,sF_,if_true,yY_,Option.map_some,Option.some.injEq] at e <;> subst e <;> cases r1 <;> cases r2 <;> refine ⟨rfl,?_⟩ <;>
   first | exact q | (rw [r8_];exact q) | (rw [nt_];exact q) | (rw [re_];exact q) | simpa using q
 .exact xc_ eI_ λu w g b e=>tK_ e
 .exact xc_ eM_ λu w g b e=>tK_ e
 .exact xc_ eV_ λu w g b e=>tK_ e
 .exact xc_ cC_ λu w g b e=>tK_ e
 .refine ⟨_,j7_,λρ H g u w x y b Q hg r1 r2 e q => ?_⟩
  cases w <;> simp only [cmp2,z8_,if_true,Bool.false_eq_true,if_false,Option.some.injEq,reduceCtorEq] at e
  cases r2;subst e;refine ⟨rfl,?_⟩;rw [<-wj_ r1];cases u <;> exact q
 .refine ⟨_,kd_,λρ H g u w x y b Q hg r1 r2 e q => ?_⟩
  cases w <;> simp only [cmp2,z8_,if_true,Bool.false_eq_true,if_false,Option.some.injEq,reduceCtorEq] at e
  cases r2;subst e;refine ⟨rfl,?_⟩;rw [<-wj_ r1];cases u <;> exact q
 .refine ⟨_,mn_ (gP_ (by omega)) (j5_ (by omega)),λρ H g u w x y b Q hg r1 r2 e q => ?_⟩
  simp only [cmp2] at e;cases ei:items w g with
  | none =>
   simp only [ei] at e;obtain ⟨o,eo,rfl⟩:=Option.map_eq_some_iff.mp e;obtain ⟨a,ov,ey,dg,es,_⟩:=vF_ hg r1 r2 eo;exact .inr ⟨a,ov,ey,dg,by rw [es];exact q⟩
  | some us=>simp only [ei] at e;exact .inl ⟨ρ,g,u,w,us,b,hg,r1,r2,ei,e,q⟩
 .refine ⟨_,mn_ (l4_ (by omega)) (kw_ (by omega)),λρ H g u w x y b Q hg r1 r2 e q => ?_⟩
  simp only [cmp2] at e;cases ei:items w g with
  | none =>
   simp only [ei] at e;obtain ⟨o,eo,rfl⟩:=Option.map_eq_some_iff.mp e;obtain ⟨a,ov,ey,dg,es,_⟩:=vF_ hg r1 r2 eo;exact .inr ⟨a,ov,ey,dg,by rw [es];exact q⟩
  | some us =>
   simp only [ei] at e;cases eu:uin u us with
   | none=>simp [eu] at e
   | some d=>simp only [eu,Option.map_some,Option.some.injEq] at e;subst e;exact .inl ⟨ρ,g,u,w,us,d,hg,r1,r2,ei,eu,q⟩
theorem hv_{op:Cp}{o:CmpOp}(ho:vI_ X op o)(hm:behindInMarks o b=false)(ha:PE X a (tE X.K W (r.ev a')))(hb:PE X b (tE X.K W (r.ev b'))):PE X (.Compare a [o] [b] pos) (tE X.K W (evF C r (.cmp op a' b'))):=by
 obtain ⟨r2,ho,imp⟩:=ho;refine (lg_ ho ha hb hm).imp λσ H Q hp=>two hp λσu ρ H g u w x y hs hg r1 r2 p => ?_;cases e:cmp2 op u w g with
 | none=>simp only [e] at p;exact p.elim
 | some k=>simp only [e] at p;exact imp ρ H g u w x y k Q hg r1 r2 e (post.okHere p hg rfl)
theorem hQ_{op:Cp}{o:CmpOp}(ho:vI_ X op o)(hm:behindInMarks o b=false)(ha:PE X a (tE X.K W (r.ev a')))(hb:PE X b (tE X.K W (r.ev b'))):PT X (.Compare a [o] [b] pos) (tT X.K W (λσ g=>(evF C r (.cmp op a' b') σ g).bind λx g=>lift (tru x g) g)):=by
 obtain ⟨r2,ho,imp⟩:=ho;refine (kH_ ho ha hb hm).imp λσ H Q hp => ?_;have hp':∃ σu ρ g,RS X.K ρ H σu σ/\RH X.K ρ H g/\post X.K W REq ((r.ev a' σu g).bind λx g=>(r.ev b' σu g).bind λy g=>match cmp2 op x y g with | some c=>Out.ok c g | none => .bad) ρ H Q:=by
  obtain ⟨σu,ρ,g,hs,hg,p⟩:=hp;refine ⟨σu,ρ,g,hs,hg,?_⟩;have e:((evF C r (.cmp op a' b') σu g).bind λx g=>lift (tru x g) g)=((r.ev a' σu g).bind λx g=>(r.ev b' σu g).bind λy g=>match cmp2 op x y g with | some c=>Out.ok c g | none => .bad):=by
   simp only [evF];cases r.ev a' σu g with
   | ok x g1 =>
    simp only [Out.bind];cases r.ev b' σu g1 with
    | ok y g2=>simp only [Out.bind];cases cmp2 op x y g2 <;> rfl
    | exc _ _ _=>rfl
    | bad=>rfl
   | exc _ _ _=>rfl
   | bad=>rfl
  have p2:=p
  change post X.K W REq ((evF C r (.cmp op a' b') σu g).bind λx g=>lift (tru x g) g) ρ H Q at p2
  rw [e] at p2;exact p2
 refine two hp' λσu ρ H g u w x y hs hg r1 r2 p => ?_;cases e:cmp2 op u w g with
 | none=>simp only [e] at p;exact p.elim
 | some k=>simp only [e] at p;exact imp ρ H g u w x y k _ hg r1 r2 e ⟨k,rfl,post.okHere p hg rfl⟩
end
section
variable{X:Cx}{W:XQ}{C:Nat->List U->G->Out U}{r:L}{pos:Pos}{a b c:Expr}{a' b' c':E}{rest:List Expr}
theorem okE{u:U}{v:V}{g:G}{ρ:List Addr}{H:Hp}{Q:VK}(p:post X.K W (RV X.K) (.ok u g) ρ H Q)(hg:RH X.K ρ H g)(r:RV X.K ρ H u v):Q v H:=post.okHere p hg r
theorem up_{op op':Cp}{r2 r3:R2}
  (imp:∀ ρ (H:Hp) g u w x y b Q,RH X.K ρ H g->RV X.K ρ H u x->RV X.K ρ H w y->cmp2 op u w g=some b->Q (V.bl b) H->r2 x y H Q)
  (imp':∀ ρ (H:Hp) g u w x y b Q,RH X.K ρ H g->RV X.K ρ H u x->RV X.K ρ H w y->cmp2 op' u w g=some b->Q (V.bl b) H->r3 x y H Q) (σ:L2.St) (H:Hp) (Q:VK) (hp:tE X.K W (evF C r (.chain op op' a' b' c')) σ H Q) :
  qE_ r2 r3 (tE X.K W (r.ev a')) (tE X.K W (r.ev b')) (tE X.K W (r.ev c')) σ H Q:=by
 refine two hp λσu ρ H g u w x y hs hg r1 r2 p => ?_;cases e:cmp2 op u w g with
 | none=>simp only [e] at p;exact p.elim
 | some k =>
  refine imp ρ H g u w x y k _ hg r1 r2 e ⟨k,rfl,?_⟩;cases k with
  | false=>simp only [e] at p;exact nF_ (okE p hg rfl)
  | true =>
   simp only [e] at p;refine nj_ ?_;refine ⟨σu,ρ,g,hs,hg,(post.bind p).mono λv H2 ⟨ρ2,z,g2,s2,h2,rz,p2⟩ => ?_⟩;cases e2:cmp2 op' w z g2 with
   | none=>simp only [e2] at p2;exact p2.elim
   | some k2=>simp only [e2] at p2;exact imp' ρ2 H2 g2 w z y v k2 Q h2 (RV.step s2 _ _ r2) rz e2 (okE p2 h2 rfl)
theorem pV_{op op':Cp}{o o':CmpOp}(ho:vI_ X op o)(ho':vI_ X op' o')(hm:lastMarks [o,o'] [b,c]=false)(ha:PE X a (tE X.K W (r.ev a')))(hb:PE X b (tE X.K W (r.ev b')))(hc:PE X c (tE X.K W (r.ev c'))):
  PE X (.Compare a [o,o'] [b,c] pos) (tE X.K W (evF C r (.chain op op' a' b' c'))):=by
 obtain ⟨r2,ho,imp⟩:=ho;obtain ⟨r3,ho',imp'⟩:=ho';exact (p7_ ho ho' ha hb hc hm).imp (up_ imp imp')
theorem oa_{f:Su->G->Out U}(hf:∀ σ g u g',f σ g=.ok u g' -> ∃ c,u=.bl c)(σ:L2.St)(H:Hp)(Q:Bool->Hp->Prop)(hp:tT X.K W (λσ g=>(f σ g).bind λx g=>lift (tru x g) g) σ H Q):tE X.K W f σ H (λx H1 => ∃ c,x=.bl c/\Q c H1):=by
 obtain ⟨σu,ρ,g,hs,hg,p⟩:=hp;refine ⟨σu,ρ,g,hs,hg,?_⟩;have hk:=hf σu g
 change post X.K W REq ((f σu g).bind λx g=>lift (tru x g) g) ρ H Q at p
 revert p hk;cases f σu g with
 | ok u g1 =>
  intro hk p;obtain ⟨c,rfl⟩:=hk u g1 rfl;intro v ρ1 H1 s1 h1 r1;cases r1;exact ⟨c,rfl,p c ρ1 H1 s1 h1 rfl⟩
 | exc c fs g1=>exact λ_ p=>p
 | bad=>exact λ_ p=>p
theorem oj_{op op':Cp}(σ:Su)(g:G)(u:U)(g':G)(h:evF C r (.chain op op' a' b' c') σ g=.ok u g'):∃ c,u=.bl c:=by
 simp only [evF] at h;revert h;cases r.ev a' σ g with
 | ok x g1 =>
  simp only [Out.bind];cases r.ev b' σ g1 with
  | ok y g2 =>
   simp only [Out.bind];cases cmp2 op x y g2 with
   | none=>intro h;cases h
   | some k =>
    cases k with
    | false=>intro h;cases h;exact ⟨_,rfl⟩
    | true =>
     simp only [];cases r.ev c' σ g2 with
     | ok z g3 =>
      simp only [Out.bind];cases cmp2 op' y z g3 with
      | none=>intro h;cases h
      | some k=>intro h;cases h;exact ⟨_,rfl⟩
     | exc _ _ _=>intro h;cases h
     | bad=>intro h;cases h
  | exc _ _ _=>intro h;cases h
  | bad=>intro h;cases h
 | exc _ _ _=>intro h;cases h
 | bad=>intro h;cases h
theorem pp_{op op':Cp}{o o':CmpOp}(ho:vI_ X op o)(ho':vI_ X op' o')(hm:lastMarks [o,o'] [b,c]=false)(ha:PE X a (tE X.K W (r.ev a')))(hb:PE X b (tE X.K W (r.ev b')))(hc:PE X c (tE X.K W (r.ev c'))):
  PT X (.Compare a [o,o'] [b,c] pos) (tT X.K W (λσ g=>(evF C r (.chain op op' a' b' c') σ g).bind λx g=>lift (tru x g) g)):=by
 obtain ⟨r2,ho,imp⟩:=ho;obtain ⟨r3,ho',imp'⟩:=ho';exact (pC_ ho ho' ha hb hc hm).imp λσ H Q hp=>up_ imp imp' σ H _ (oa_ oj_ σ H Q hp)
theorem g0_(ha:PE X a (tE X.K W (r.ev a')))(hb:PE X (.BoolOp .And (b :: rest) pos) (tE X.K W (r.ev b'))):PE X (.BoolOp .And (a :: b :: rest) pos) (tE X.K W (evF C r (.and a' b'))):=by
 refine (gg_ ha hb).imp λσ H Q hp=>one hp λσu ρ H g u x hs hg r1 p => ?_;cases u with
 | bl k =>
  cases r1;refine ⟨k,rfl,?_⟩;cases k with
  | true=>exact nj_ ⟨σu,ρ,g,hs,hg,p⟩
  | false=>exact nF_ (okE p hg rfl)
 | _=>exact p.elim
theorem cF_(ha:PE X a (tE X.K W (r.ev a')))(hb:PE X (.BoolOp .Or (b :: rest) pos) (tE X.K W (r.ev b'))):PE X (.BoolOp .Or (a :: b :: rest) pos) (tE X.K W (evF C r (.or a' b'))):=by
 refine (d1_ ha hb).imp λσ H Q hp=>one hp λσu ρ H g u x hs hg r1 p => ?_;cases u with
 | bl k =>
  cases r1;refine ⟨k,rfl,?_⟩;cases k with
  | true=>exact nj_ (okE p hg rfl)
  | false=>exact nF_ ⟨σu,ρ,g,hs,hg,p⟩
 | _=>exact p.elim
theorem o2_{ρ:List Addr}{H:Hp}{g:G}{u:U}{x:V}{k:Bool}(hg:RH X.K ρ H g)(r1:RV X.K ρ H u x)(e:tru u g=some k):ep_ X.K x H k:=by
 have len0:∀ {us:List U} {vs:List V},RVs X.K ρ H us vs->(!us.isEmpty) = !vs.isEmpty:=λ{us vs} h=>by
  cases us with
  | nil=>cases h;rfl
  | cons u us=>obtain ⟨v,r,rfl,_⟩:=h;rfl
 cases u with
 | non=>cases r1;cases e;rfl
 | bl b=>cases r1;cases e;rfl
 | int i=>cases r1;cases e;rfl
 | str s=>simp [tru] at e
 | tup us=>obtain ⟨a,vs,rfl,h1,h2⟩:=r1;cases e;exact .inr (.inl ⟨vs,h1.sq,len0 h2⟩)
 | fro us=>obtain ⟨a,vs,rfl,h1,h2⟩:=r1;cases e;exact .inl ⟨vs,h1.sq,len0 h2⟩
 | ref n =>
  obtain ⟨a,rfl,hn⟩:=r1;simp only [tru] at e;cases eg:g[n]? with
  | none=>simp [eg] at e
  | some o =>
   cases o with
   | lst xs =>
    simp only [eg,Option.some.injEq] at e;subst e;obtain ⟨a',vs,h1,h2,h3⟩:=hg.lst eg;rw [hn] at h1;cases h1;exact .inl ⟨vs,.of h2,len0 h3⟩
   | dic _=>simp [eg] at e
   | dif _=>simp [eg] at e
   | dst _=>simp [eg] at e
   | ins _ _=>simp [eg] at e
 | xn _ _=>simp [tru] at e
theorem hD_(ha:PE X a (tE X.K W (r.ev a'))):PE X (.UnaryOp .Not a pos) (tE X.K W (evF C r (.not a'))):=by
 intro pins s σ H Q I hp;have hp':tE X.K W (r.ev a') σ H (λx H1 => ∃ k,ep_ X.K x H1 k/\Q (.bl (!k)) H1):=one hp λσu ρ H g u x hs hg r1 p=>by
  cases e:tru u g with
  | none=>simp only [e] at p;exact p.elim
  | some k=>simp only [e] at p;exact ⟨k,o2_ hg r1 e,okE p hg rfl⟩
 refine UnaryOp_ (thn (ha pins s σ H _ I hp') λv s1 ⟨x,H1,I1,r1,k,tr,q1⟩ => ?_);exact not_of (thn (oD_ pins s1 σ H1 x v (λb H2=>Q (.bl (!b)) H2) I1 r1 ⟨k,tr,q1⟩) λb s2 ⟨H2,I2,q2⟩=>⟨.bl (!b),H2,I2,rfl,q2⟩)
theorem ok_(ha:PE X a (tE X.K W (r.ev a')))(he:∀ whole,isTrue a X.env whole=(do let v <- whole;standAt a.pos;holding [v] (truthy v))):PT X a (tT X.K W (λσ g=>(r.ev a' σ g).bind λx g=>lift (tru x g) g)):=by
 refine (pE_ ha he).imp λσ H Q hp=>one (k:=λ_ x g=>lift (tru x g) g) hp λσu ρ H g u x hs hg r1 p => ?_;obtain ⟨k,e,p⟩:=post.lift p;exact ⟨k,o2_ hg r1 e,post.okHere p hg rfl⟩
theorem id_(ha:PT X a (tT X.K W (r.ts a')))(hb:PW X (.BoolOp .And (b :: rest) pos) (tT X.K W (r.ts b'))):PW X (.BoolOp .And (a :: b :: rest) pos) (tT X.K W (tsF r (.and a' b'))):=by
 refine (hk_ ha hb).imp λσ H Q ⟨σu,ρ,g,hs,hg,p⟩ => ?_;refine ⟨σu,ρ,g,hs,hg,(post.bind (R:=REq) p).mono λk H1 ⟨ρ1,k',g1,s1,h1,e1,p1⟩ => ?_⟩;subst e1;cases k' with
 | true=>exact nj_ ⟨σu,ρ1,g1,hs.step s1,h1,p1⟩
 | false=>exact nF_ (post.okHere p1 h1 rfl)
theorem cj_(ha:PT X a (tT X.K W (r.ts a')))(hb:PW X (.BoolOp .Or (b :: rest) pos) (tT X.K W (r.ts b'))):PW X (.BoolOp .Or (a :: b :: rest) pos) (tT X.K W (tsF r (.or a' b'))):=by
 refine (dW_ ha hb).imp λσ H Q ⟨σu,ρ,g,hs,hg,p⟩ => ?_;refine ⟨σu,ρ,g,hs,hg,(post.bind (R:=REq) p).mono λk H1 ⟨ρ1,k',g1,s1,h1,e1,p1⟩ => ?_⟩;subst e1;cases k' with
 | true=>exact nj_ (post.okHere p1 h1 rfl)
 | false=>exact nF_ ⟨σu,ρ1,g1,hs.step s1,h1,p1⟩
theorem g4_(ha:PT X a (tT X.K W (r.ts a'))):PT X (.UnaryOp .Not a pos) (tT X.K W (tsF r (.not a'))):=by
 refine (iq_ ha).imp λσ H Q ⟨σu,ρ,g,hs,hg,p⟩ => ?_;refine ⟨σu,ρ,g,hs,hg,(post.bind (R:=REq) p).mono λk H1 ⟨ρ1,k',g1,s1,h1,e1,p1⟩ => ?_⟩;subst e1;exact post.okHere p1 h1 rfl
theorem hK_:PA X [] (tAr X.K W (evs r.ev [])):=wQ_.imp λσ H Q ⟨σu,ρ,g,hs,hg,p⟩=>post.okHere (R:=RVs X.K) (u:=[]) p hg rfl
theorem la_{es:List Expr}{es':List E}(ha:PE X a (tE X.K W (r.ev a')))(hr:PA X es (tAr X.K W (evs r.ev es')))(hs:starEach (a :: es) X.env=(false,eval a X.env) :: starEach es X.env):PA X (a :: es) (tAr X.K W (evs r.ev (a' :: es'))):=by
 refine (yf_ ha hr hs).imp λσ H Q hp=>one hp λσu ρ H g u x hs hg r1 p => ?_;refine ⟨σu,ρ,g,hs,hg,(post.bind p).mono λxs H1 ⟨ρ1,us,g1,s1,h1,rs,p1⟩ => ?_⟩;exact post.okHere (R:=RVs X.K) p1 h1 ⟨x,xs,rfl,RV.step s1 _ _ r1,rs⟩
theorem szl{us:List U}{vs:List V}{ρ:List Addr}{H:Hp}(rs:RVs X.K ρ H us vs)(h:us.length<=zd_):vs.length<=sizeLine:=by
 rw [<-rs.length,sizeLine_eq];unfold zd_ at h;omega
theorem jT_{es:List Expr}{es':List E}{k:Nat}(h:PA X es (tAr X.K W (evs r.ev es'))):PE X (.Tuple es k pos) (tE X.K W (evF C r (.tup es'))):=by
 refine (gX_ h).imp λσ H Q ⟨σu,ρ,g,hs,hg,p⟩ => ?_;refine ⟨σu,ρ,g,hs,hg,(post.bind (R:=RVs X.K) p).mono λxs H1 ⟨ρ1,us,g1,s1,h1,rs,p1⟩ => ?_⟩;by_cases hl:us.length<=zd_
 .rw [if_pos hl] at p1
  refine ⟨szl rs hl,λq hq => ?_⟩;exact p1 _ ρ1 _ (Stp.fresh hq) (h1.step_fresh hq) ⟨q,xs,rfl,upd_same,RVs.step (Stp.fresh hq) _ _ rs⟩
 .rw [if_neg hl] at p1;exact p1.elim
theorem ym_{us:List U}{xs:List V}{g:G}{ρ:List Addr}{H:Hp}{Q:VK}(p:post X.K W (RV X.K) (alloc (.lst us) g) ρ H Q)(hg:RH X.K ρ H g)(rs:RVs X.K ρ H us xs)(q:Addr)(hq:H q=none):Q (.ref q) (upd H q (.lst xs)):=by
 refine p (.ref q) (ρ++[q]) _ (Stp.alloc hq) (hg.alloc hq rs) ⟨q,rfl,?_⟩;rw [<-hg.len];simp
theorem ir_{es:List Expr}{es':List E}(h:PA X es (tAr X.K W (evs r.ev es'))):PE X (.List es pos) (tE X.K W (evF C r (.lst es'))):=by
 refine (iU_ h).imp λσ H Q ⟨σu,ρ,g,hs,hg,p⟩ => ?_;refine ⟨σu,ρ,g,hs,hg,(post.bind (R:=RVs X.K) p).mono λxs H1 ⟨ρ1,us,g1,s1,h1,rs,p1⟩ => ?_⟩;by_cases hl:us.length<=zd_
 .rw [if_pos hl] at p1
  exact ⟨szl rs hl,λq hq=>ym_ p1 h1 rs q hq⟩
 .rw [if_neg hl] at p1;exact p1.elim
theorem lJ_{us:List U}{vs:List V}{ρ:List Addr}{H:Hp}{i:Int}{u:U}(rs:RVs X.K ρ H us vs)(e:uix us i=some u):∃ v,atI vs i=some v/\RV X.K ρ H u v:=by
 unfold uix atI at e;unfold atI;rw [<-rs.length];cases ej:ixN us.length i with
 | none=>simp [ej] at e
 | some j =>
  rw [ej] at e;obtain ⟨v,h1,h2⟩:=rs.get (show us[j]? = some u from e);exact ⟨v,h1,h2⟩
theorem jP_(hu:X.A.units+1 < cLine)(ha:PE X a (tE X.K W (r.ev a')))(hb:PE X b (tE X.K W (r.ev b')))(hs:ti_ b):PE X (.Subscript a b pos) (tE X.K W (evF C r (.idx a' b'))):=by
 refine (ez_ ((kE_.or gE_).or (ke_ hu)) ha hb hs).imp λσ H Q hp=>two hp λσu ρ H g u w x y hs hg r1 r2 p => ?_;cases w with
 | int i =>
  cases r2;cases e:items u g with
  | none=>simp only [e] at p;exact p.elim
  | some us =>
   simp only [e] at p;obtain ⟨z,ez,p⟩:=post.lift p;obtain ⟨q,vs,rfl,hq,rs⟩:=y3_ hg r1 e;obtain ⟨v,ev,rv⟩:=lJ_ rs ez;rcases hq with hq | hq
   .exact .inl (.inl ⟨q,vs,i,v,rfl,rfl,hq,ev,okE p hg rv⟩)
   .exact .inl (.inr ⟨q,vs,i,v,rfl,rfl,hq,ev,okE p hg rv⟩)
 | tup us =>
  obtain ⟨z,ez,p⟩:=post.lift p;obtain ⟨o,eo,eo'⟩:=Option.bind_eq_some_iff.mp ez;obtain ⟨q,ov,rfl,dg,_,got⟩:=vF_ hg r2 r1 eo;obtain ⟨v,rfl,rv⟩:=got z eo';exact .inr ⟨q,v,rfl,dg,okE p hg rv⟩
 | str k =>
  obtain ⟨z,ez,p2⟩:=post.lift p;clear p;obtain ⟨kvs,eo,eo'⟩:=Option.bind_eq_some_iff.mp ez;obtain ⟨n,q,ws,rfl,_,_,rfl,ha,rk⟩:=f3_ hg r1 eo;obtain ⟨v,ev,rv⟩:=rk.got k eo';cases r2;exact .inr ⟨q,v,rfl,by rw [<-ev];exact DGet.k (k:=Sum.inr k) ha,okE p2 hg rv⟩
 | _=>exact p.elim
theorem yq_{K:PySem.W.Frag}{ρ:List Addr}{H:Hp}:∀ ns:List Int,RVs K ρ H (ns.map U.int) (ns.map V.int)
 | []=>rfl
 | n :: ns=>⟨.int n,ns.map V.int,rfl,rfl,yq_ ns⟩
theorem se_bi{b:Bi}{f:Str}{p':Pos}{e:Expr}{es:List Expr}{es':List E}{rr:List V->Hp->VK->Prop}(h:PE X (.Call (.Name f p') (e :: es) [] pos) (tCB rr (tAr X.K W (evs r.ev es'))))
  (imp:∀ ρ H g us xs Q,RH X.K ρ H g->RVs X.K ρ H us xs->post X.K W (RV X.K) (bi1 b us g) ρ H Q->rr xs H Q):PE X (.Call (.Name f p') (e :: es) [] pos) (tE X.K W (evF C r (.bi b es'))):=by
 refine h.imp λσ H Q ⟨σu,ρ,g,hs,hg,p⟩ => ?_;exact ⟨σu,ρ,g,hs,hg,(post.bind (R:=RVs X.K) p).mono λxs H1 ⟨ρ1,us,g1,s1,h1,rs,p1⟩=>imp ρ1 H1 g1 us xs Q h1 rs p1⟩
theorem imp_len(ρ:List Addr)(H:Hp)(g:G)(us:List U)(xs:List V)(Q:VK)(hg:RH X.K ρ H g)(rs:RVs X.K ρ H us xs)(p:post X.K W (RV X.K) (bi1 .len us g) ρ H Q):
  ∃ p ys,xs=[.ref p]/\(SqL X.K H p ys\/SqT X.K H p ys)/\Q (.int ys.length) H:=by
 match us,rs with
 | [u],rs =>
  obtain ⟨x,r',rfl,r1,e⟩:=rs;cases e;simp only [bi1,pT_,uE_] at p;cases e:items u g with
  | none=>simp only [e] at p;exact p.elim
  | some zs =>
   simp only [e] at p;obtain ⟨q,vs,rfl,hq,rz⟩:=y3_ hg r1 e;exact ⟨q,vs,rfl,hq,by rw [<-rz.length];exact okE p hg rfl⟩
 | [],_=>exact p.elim
 | _ :: _ :: _,_=>exact p.elim
theorem imp_abs(ρ:List Addr)(H:Hp)(g:G)(us:List U)(xs:List V)(Q:VK)(hg:RH X.K ρ H g)(rs:RVs X.K ρ H us xs)(p:post X.K W (RV X.K) (bi1 .abs us g) ρ H Q):
  ∃ i,xs=[.int i]/\Q (.int (if i < 0 then -i else i)) H:=by
 match us,rs with
 | [u],rs =>
  obtain ⟨x,r',rfl,r1,e⟩:=rs;cases e;cases u with
  | int i=>cases r1;exact ⟨i,rfl,okE p hg rfl⟩
  | _=>exact p.elim
 | [],_=>exact p.elim
 | _ :: _ :: _,_=>exact p.elim
theorem wK_{ρ:List Addr}{H:Hp}{g:G}{us:List U}{xs:List V}{ns:List Int}(hg:RH X.K ρ H g)(rs:RVs X.K ρ H us xs)(e:zu_ us g=some ns):∃ p,xs=[.ref p]/\H p=some (.lst (ns.map V.int)):=by
 match us,rs with
 | [],_=>cases e
 | _ :: _ :: _,_=>unfold zu_ at e;split at e <;> first | cases e | (rename_i h;cases h)
 | [u],rs =>
  obtain ⟨x,r',rfl,r1,e'⟩:=rs;cases e';cases u with
  | ref n =>
   simp only [zu_] at e;cases eg:g[n]? with
   | none=>rw [eg] at e;cases e
   | some ob =>
    cases ob with
    | lst us =>
     rw [eg] at e;obtain ⟨a,vs,hn,ha,rv⟩:=hg.lst eg;obtain ⟨a',rfl,hn'⟩:=r1;rw [hn] at hn';cases hn';exact ⟨a,rfl,by rw [ha,xd_ e rv]⟩
    | _=>rw [eg] at e;cases e
  | _=>cases e
theorem imp_mm{b:Bi}{m:Bool}(hb:∀ us g,bi1 b us g=mh_ m us g)(ρ:List Addr)(H:Hp)(g:G)(us:List U)(xs:List V)(Q:VK)(hg:RH X.K ρ H g)(rs:RVs X.K ρ H us xs)(p:post X.K W (RV X.K) (bi1 b us g) ρ H Q):rMm m xs H Q:=by
 rw [hb] at p;unfold mh_ at p;cases e:intsOf us with
 | some ns =>
  have ex:=xd_ e rs;subst ex;simp only [e] at p
  match ns,p with
  | [a,b],p=>exact .inl ⟨a,b,rfl,okE p hg rfl⟩
  | [a,b,c],p=>exact .inr (.inl ⟨a,b,c,rfl,okE p hg rfl⟩)
  | [],p=>exact p.elim
  | [_],p=>exact p.elim
  | _ :: _ :: _ :: _ :: _,p=>exact p.elim
 | none =>
  simp only [e] at p;cases e2:zu_ us g with
  | none=>simp only [e2] at p;exact p.elim
  | some ns =>
   simp only [e2] at p;obtain ⟨q,rfl,hq⟩:=wK_ hg rs e2;cases ns with
   | nil=>exact p.elim
   | cons a r=>exact .inr (.inr ⟨q,a,r,rfl,hq,okE p hg rfl⟩)
theorem imp_sum(ρ:List Addr)(H:Hp)(g:G)(us:List U)(xs:List V)(Q:VK)(hg:RH X.K ρ H g)(rs:RVs X.K ρ H us xs)(p:post X.K W (RV X.K) (bi1 .sum us g) ρ H Q):
  ∃ (p:Addr) (ns:List Int),xs=[.ref p]/\H p=some (.lst (ns.map V.int))/\Q (.int ns.sum) H:=by
 simp only [bi1,pQ_] at p;cases e2:zu_ us g with
 | none=>simp only [e2] at p;exact p.elim
 | some ns =>
  simp only [e2] at p;obtain ⟨q,rfl,hq⟩:=wK_ hg rs e2;exact ⟨q,ns,rfl,hq,okE p hg rfl⟩
theorem lu_:PE X (.Dict [] [] pos) (tE X.K W (evF C r .dnew)):=by
 refine (p5_).imp λσ H Q ⟨σu,ρ,g,hs,hg,p⟩ q hq => ?_;refine p (.ref q) (ρ++[q]) _ (Stp.alloc hq) (hg.allocO hq ⟨[],rfl,rfl⟩) ⟨q,rfl,?_⟩;rw [<-hg.len];simp
end
section
variable{X:Cx}
theorem vY_:∀ D:KyB,Vals (D.map λd=>V.ref d.2) (refs D)
 | [] => .nil
 | d :: D => .cons rfl (vY_ D)
end
section
variable{K:PySem.W.Frag}{ρ:List Addr}{H:Hp}
end
section
variable{X:Cx}{W:XQ}{C:Nat->List U->G->Out U}{r:L}{a:Expr}{a':E}{p p2 pos pos2:Pos}
theorem sf_{K:PySem.W.Frag}{ρ:List Addr}{H:Hp}:∀ {D:KyB},(∀ d∈D,H d.2=some (.tup (d.1.map V.int)))->RVs K ρ H ((D.map (·.1)).map tupI) (D.map λd=>V.ref d.2)
 | [],_=>rfl
 | d :: D,h=>⟨_,_,rfl,⟨d.2,_,rfl,h d List.mem_cons_self,yq_ _⟩,sf_ λd hd=>h d (List.mem_cons_of_mem _ hd)⟩
end
open PySem PySem.Spec PyProof.Rows L2 PySem.W
section
variable{prog:Program}{w:World}{A:Around}
theorem pj_{o:Obj}{es:Array DictEntry}{ep:Nat}(hh:A.handled=none){d it:Addr}(hne:d≠it)(hd:o.data=.dict es ep):
  Walks prog w A it [it,d] [it] es.size (λi v => ∃ e,es[i]? = some e/\v=e.key) (λi h=>h.IsKeyIter it d i es.size ep/\h.get? d=some o) where
 sub:=λb hb=>by simp at hb;simp [hb]
 frame:=λi h h' ⟨a,b⟩ hk=>⟨a.at λo e=>hk it (by simp) o e,hk d (by simp) o b⟩
 item:=λi s Q E hi ⟨a,b⟩ hQ=>by
  have he:es[i]? = some es[i]:=Array.getElem?_eq_getElem hi;refine pg_ a b hd he λh' a' sb => ?_;exact hQ _ h' s.toks ⟨_,he,rfl⟩ ⟨a',(sb.2 d hne).trans b⟩ λb o hb e=>(sb.2 b λq=>hb (by simp [q])).trans e
 done:=λs Q E ⟨a,b⟩ hQ=>ri_ hh a b hd (Array.getElem?_eq_none (Nat.le_refl _)) λh' eb=>hQ h' s.toks λb o hb e=>eb b o (λq=>hb (by simp [q])) e
 self:=λi s Q E ⟨a,_⟩ hQ=>wpAny_pyIter_keyiter a hQ
theorem og_{o:Obj}{es:Array DictEntry}{ep:Nat}{d:Addr}(hs:(d == sysModules)=false)(hx:o.ExactDict)(hd:o.data=.dict es ep):
  KdlSrc prog w "dict" d d es.size (λi v => ∃ e,es[i]? = some e/\v=e.key) (λh=>h.get? d=some o) where
 type:=λ_ hm=>⟨o,hm,hx.1⟩
 there:=λ_ hm=>⟨Heap.lt_size hm,Heap.lt_size hm⟩
 keep:=λ_ _ hm hk=>hk d (.inl rfl) o hm
 notList:=by decide
 notTuple:=by decide
 hint:=λ_ _ _ _ hm hq=>kdl_hint_dict ⟨o,hm,hx.1⟩ hq
 iter:=λ_ s hh hm=>⟨_,_,(λ_ _ hq=>qg_ hs hm hx hd hq),pj_ hh (Nat.ne_of_lt (Heap.lt_size hm)) hd,⟨⟨_,Heap.get?_push_size _ rfl,rfl,rfl⟩,Heap.get?_push_of_some _ hm⟩⟩
end
section
variable{X:Cx}{W:XQ}
theorem qU_{K:PySem.W.Frag}{ρ:List Addr}{H:Hp}:∀ {kvs:List (List Int×U)} {ws:List (List Key×V)},RD K ρ H kvs ws->ws.map (·.1)=kvs.map λkv=>kv.1.map Sum.inl
 | [],ws,h=>by cases h;rfl
 | (k,u) :: r,ws,⟨v,s,e,_,h⟩=>by subst e;rw [List.map_cons,List.map_cons,qU_ h]
theorem oQ_:∀ k:List Int,(k.map (Sum.inl:Int->Key)).map kV=k.map V.int
 | []=>rfl
 | i :: k=>by rw [List.map_cons,List.map_cons,List.map_cons,oQ_ k];rfl
noncomputable def DKs(H:Hp)(a:Addr)(ks:List (List Int)):Prop := ∃ ws,Rd H a (.dT ws)/\ws.map (·.1)=ks.map λk=>k.map Sum.inl
noncomputable def bz_(H:Hp)(D:KyB):Prop := ∀ d∈D,H d.2=some (.tup (d.1.map V.int))
theorem kt_{P:Program}{w:World}{H:Hp}{h:Heap}{a:Addr}{ks:List (List Int)}(ok:HOk P w H h)(z:DKs H a ks):∃ o es ep,ks.length<=sizeLine/\(a == sysModules)=false/\h.get? a=some o/\o.ExactDict/\o.data=.dict es ep/\es.size=ks.length /\
  ∀ vs:List Value,vs.length=es.size->(∀ (j:Nat) (v:Value),vs[j]? = some v -> ∃ e,es[j]? = some e/\v=e.key) -> ∃ D:KyB,vs=refs D/\D.map (·.1)=ks/\bz_ H D:=by
 obtain ⟨ws,rd,ew⟩:=z;obtain ⟨h1,h2,o,es,ep,h3,h4,h5,h6,h7⟩:=c4_ (rd.ok ok);have hl:ws.length=ks.length:=by rw [<-List.length_map (f:=(·.1)),ew,List.length_map]
 refine ⟨o,es,ep,by rw [<-hl];exact h1,h2,h3,h4,h5,by rw [h6,hl],λvs hv hs => ?_⟩
 rw [h6] at hv;clear rd h1 h6;have each:∀ (j:Nat) (v:Value),vs[j]? = some v -> ∃ b k,v=.ref b/\ks[j]? = some k/\H b=some (.tup (k.map V.int)):=λj v e=>by
  obtain ⟨en,e1,e2⟩:=hs j v e;have hj:j < ws.length:=by rw [<-hv];exact (List.getElem?_eq_some_iff.mp e).1
  obtain ⟨⟨k0,v0⟩,e3⟩:∃ q,ws[j]? = some q:=⟨_,List.getElem?_eq_getElem hj⟩;obtain ⟨b,en',e4,e5,e6⟩:=h7 j k0 v0 e3;rw [e1] at e4;cases e4;have e7:(ws.map (·.1))[j]? = some k0:=by rw [List.getElem?_map,e3];rfl
  rw [ew,List.getElem?_map] at e7;cases e8:ks[j]? with
  | none=>rw [e8] at e7;cases e7
  | some k =>
   rw [e8] at e7;cases e7;exact ⟨b,k,e2.trans e5,rfl,by rw [<-oQ_];exact e6⟩
 have hv2:vs.length=ks.length:=by rw [hv,hl]
 clear hv hs h7 ew hl h5 h4 h3
 induction vs generalizing ks with
 | nil =>
  cases ks with
  | nil=>exact ⟨[],rfl,rfl,λd hd=>nomatch hd⟩
  | cons _ _=>cases hv2
 | cons v vs ih =>
  cases ks with
  | nil=>cases hv2
  | cons k ks =>
   obtain ⟨b,k',rfl,e1,e2⟩:=each 0 v rfl;cases e1;obtain ⟨D,d1,d2,d3⟩:=ih (λj v e=>each (j+1) v e) (by simpa using hv2)
   refine ⟨(k,b) :: D,by rw [d1];rfl,by rw [List.map_cons,d2],λd hd => ?_⟩
   rcases List.mem_cons.mp hd with rfl | hd
   .exact e2
   .exact d3 d hd
noncomputable def nm_(X:Cx):List V->Hp->VK->Prop:=λxs H Q => ∃ (a:Addr) (ks:List (List Int)),xs=[.ref a]/\DKs H a ks /\
 ∀ (l:Addr) (D:KyB),H l=none->D.map (·.1)=ks->bz_ H D->Q (.ref l) (upd H l (.lst (D.map λd=>V.ref d.2)))
theorem call_listD(hc:X.calm=true):CallR X (.type "list") (nm_ X):=by
 intro pins s σ H xs us Q I r ⟨a,ks,e,z,q⟩;subst e;obtain ⟨u,rfl,rx⟩:=vals1 r;cases rx;obtain ⟨o,es,ep,h1,h2,h3,h4,h5,h6,h7⟩:=kt_ I.hok z;refine kdl_call (og_ h2 h4 h5) (I.ok.hd hc) h3 (by rw [h6];exact h1) λh' tk acc c hk hL hacc => ?_
 obtain ⟨D,d1,d2,d3⟩:=h7 acc.toList (by rw [Array.length_toList];exact hacc.1) λj v e=>hacc.2 j v (by rw [<-Array.getElem?_toList];exact e)
 have ea:acc=(refs D).toArray:=by rw [<-d1]
 subst ea;refine ⟨.ref s.heap.objs.size,_,I.laid (t':=tk) hk (Nat.le_refl _) (show ObjOk X.prog X.w _ h' _ (.lst (D.map λd=>V.ref d.2)) from ⟨?_,refs D,c,vY_ D,hL⟩),rfl,q _ D (I.hok.fresh (Nat.le_refl _)) d2 d3⟩;rw [List.length_map,<-List.length_map (f:=(·.1)),d2];exact h1
theorem gi_{K:PySem.W.Frag}{ρ:List Addr}{H:Hp}{g:G}{u:U}{x:V}{kvs:List (List Int×U)}(hg:RH K ρ H g)(r1:RV K ρ H u x)(e:asD u g=some kvs):∃ a,x=.ref a/\DKs H a (kvs.map (·.1)):=by
 cases u with
 | ref n =>
  simp only [asD] at e;cases eg:g[n]? with
  | none=>rw [eg] at e;cases e
  | some ob =>
   obtain ⟨a',rfl,hn'⟩:=r1;cases ob with
   | dic kvs' =>
    rw [eg] at e;cases e;obtain ⟨a,ws,hn,ha,rd⟩:=hg.dic eg;rw [hn] at hn';cases hn';exact ⟨_,rfl,ws,.inl ha,by rw [qU_ rd,List.map_map];rfl⟩
   | dif kvs' =>
    rw [eg] at e;cases e;obtain ⟨a,ob,ws,hn,ha,rd⟩:=hg.dif eg;rw [hn] at hn';cases hn';exact ⟨_,rfl,ws,.inr ⟨ob,ha⟩,by rw [qU_ rd,List.map_map];rfl⟩
   | _=>rw [eg] at e;cases e
 | _=>cases e
theorem imp_list(ρ:List Addr)(H:Hp)(g:G)(us:List U)(xs:List V)(Q:VK)(hg:RH X.K ρ H g)(rs:RVs X.K ρ H us xs)(p:post X.K W (RV X.K) (bi1 .list us g) ρ H Q):
  (∃ p ys,xs=[.ref p]/\(SqL X.K H p ys\/SqT X.K H p ys) /\ ∀ l,H l=none->Q (.ref l) (upd H l (.lst ys)))\/nm_ X xs H Q:=by
 match us,rs with
 | [u],rs =>
  obtain ⟨x,r',rfl,r1,e⟩:=rs;cases e;simp only [bi1,uE_] at p;cases e:items u g with
  | none =>
   simp only [e] at p;cases ed:asD u g with
   | none=>simp only [ed] at p;exact p.elim
   | some kvs =>
    simp only [ed] at p;obtain ⟨a,rfl,z⟩:=gi_ hg r1 ed;refine .inr ⟨a,_,rfl,z,λl D hl e1 e2=>ym_ p hg ?_ l hl⟩;have:=sf_ (K:=X.K) (ρ:=ρ) e2;rw [e1,List.map_map] at this;exact this
  | some zs =>
   simp only [e] at p;obtain ⟨q,vs,rfl,hq,rz⟩:=y3_ hg r1 e;exact .inl ⟨q,vs,rfl,hq,λl hl=>ym_ p hg rz l hl⟩
 | [],_=>exact p.elim
 | _ :: _ :: _,_=>exact p.elim
theorem imp_srt(ρ:List Addr)(H:Hp)(g:G)(us:List U)(xs:List V)(Q:VK)(hg:RH X.K ρ H g)(rs:RVs X.K ρ H us xs)(p:post X.K W (RV X.K) (bi1 .srt us g) ρ H Q):
  ∃ (p:Addr) (ns:List Int),xs=[.ref p]/\H p=some (.lst (ns.map V.int))/\ns.length < 64 /\ ∀ l,H l=none->Q (.ref l) (upd H l (.lst ((sortI ns).map V.int))):=by
 simp only [bi1,st_] at p;cases e2:zu_ us g with
 | none=>simp only [e2] at p;exact p.elim
 | some ns =>
  simp only [e2] at p;obtain ⟨q,rfl,hq⟩:=wK_ hg rs e2;by_cases hl:ns.length < 64
  .rw [if_pos hl] at p
   exact ⟨q,ns,rfl,hq,hl,λl h=>ym_ p hg (yq_ _) l h⟩
  .rw [if_neg hl] at p;exact p.elim
theorem call_srtX(hc:X.calm=true)(hu:X.A.units+2 < cLine):CallR X (.builtin "sorted") (λxs H Q => ∃ (p:Addr) (ns:List Int),xs=[.ref p]/\H p=some (.lst (ns.map V.int))/\ns.length < 64 /\ ∀ l,H l=none->Q (.ref l) (upd H l (.lst ((sortI ns).map V.int)))):=pO_
end
section
variable{prog:Program}{w:World}{A:Around}{E:Value->Shared->Prop}{s:Shared}
end
section
variable{X:Cx}{W:XQ}
end
open PySem PySem.Spec PyProof.Rows L2
section
variable{X:Cx}{W:XQ}{C:Nat->List U->G->Out U}{r:L}{pos p2:Pos}{a b c e:Expr}{a' b' c' e':E}{lo hi:Option Expr}{lo' hi':Option E}
noncomputable def iP_(K:PySem.W.Frag)(W:XQ)(f:Su->G->Out (Option Int)):TO:=λσ H Q => ∃ σu ρ g,RS K ρ H σu σ/\RH K ρ H g/\post K W REq (f σu g) ρ H Q
theorem lY_:PO X none (iP_ X.K W (evo r.ev none)):=λpins s σ H Q I ⟨σu,ρ,g,hs,hg,p⟩=>ks_ pins s σ H Q I (post.okHere (R:=REq) p hg rfl)
theorem l1_(h:PE X e (tE X.K W (r.ev e'))):PO X (some e) (iP_ X.K W (evo r.ev (some e'))):=λpins s σ H Q I hp=>by
 refine lK_ h pins s σ H Q I (one (k:=λ_ u g=>match u with | .int i=>Out.ok (some i) g | _ => .bad) hp λσu ρ H g u x hs hg r1 p => ?_)
 cases u with
 | int i=>cases r1;exact ⟨i,rfl,post.okHere (R:=REq) p hg rfl⟩
 | _=>exact p.elim
theorem tn_{us:List U}{vs:List V}{ρ:List Addr}{H:Hp}{l h:Option Int}(rs:RVs X.K ρ H us vs):RVs X.K ρ H (tP_ us l h) (mr_ vs l h):=by
 unfold tP_ mr_;rw [rs.length];exact (rs.drop _).take _
theorem fM_(ha:PE X a (tE X.K W (r.ev a')))(hl:PO X lo (iP_ X.K W (evo r.ev lo')))(hh:PO X hi (iP_ X.K W (evo r.ev hi'))):PE X (.Subscript a (.Slice lo hi none p2) pos) (tE X.K W (evF C r (.slc a' lo' hi'))):=by
 refine (po_ (kf_.or fK_) ha hl hh).imp λσ H Q ⟨σu,ρ,g,hs,hg,p⟩ => ?_;refine ⟨σu,ρ,g,hs,hg,(post.bind p).mono λx H1 ⟨ρ1,u,g1,s1,h1,r1,p1⟩ => ?_⟩;refine ⟨σu,ρ1,g1,hs.step s1,h1,(post.bind (R:=REq) p1).mono λl H2 ⟨ρ2,l',g2,s2,h2,e2,p2⟩ => ?_⟩;subst e2;refine ⟨σu,ρ2,g2,(hs.step s1).step s2,h2,(post.bind (R:=REq) p2).mono λh H3 ⟨ρ3,h',g3,s3,h3,e3,p3⟩ => ?_⟩;subst e3;have r3:=RV.step s3 _ _ (RV.step s2 _ _ r1);cases u with
 | tup us =>
  obtain ⟨q,vs,rfl,t1,t2⟩:=r3;refine .inr ⟨q,vs,rfl,t1.sq,?_⟩;simp only [] at p3;rw [t2.length] at p3;split at p3
  .exact p3.elim
  .rename_i hn
   refine ⟨hn,λk hk => ?_⟩;exact p3 _ ρ3 _ (Stp.fresh hk) (h3.step_fresh hk) ⟨k,_,rfl,upd_same,RVs.step (Stp.fresh hk) _ _ (tn_ t2)⟩
 | fro us =>
  obtain ⟨q,vs,rfl,t1,t2⟩:=r3;exact .inl ⟨q,vs,rfl,t1.sq,λk hk=>ym_ p3 h3 (tn_ t2) k hk⟩
 | ref n =>
  obtain ⟨q,rfl,hn⟩:=r3;simp only [] at p3;cases eg:g3[n]? with
  | none=>simp only [eg] at p3;exact p3.elim
  | some o =>
   cases o with
   | lst us =>
    simp only [eg] at p3;obtain ⟨q',vs,t1,t2,t3⟩:=h3.lst eg;rw [hn] at t1;cases t1;exact .inl ⟨q,vs,rfl,.of t2,λk hk=>ym_ p3 h3 (tn_ t3) k hk⟩
   | dic _=>simp only [eg] at p3;exact p3.elim
   | dif _=>simp only [eg] at p3;exact p3.elim
   | dst _=>simp only [eg] at p3;exact p3.elim
   | ins _ _=>simp only [eg] at p3;exact p3.elim
 | _=>exact p3.elim
theorem hL_{k:Nat}{p3 p4:Pos}(ha:PE X a (tE X.K W (r.ev a'))):PE X (.Subscript a (.Slice none none (some (.UnaryOp .USub (.Constant (.int 1) k p3) p4)) p2) pos) (tE X.K W (evF C r (.rev a'))):=by
 intro pins s σ H Q I hp;have hp':tE X.K W (r.ev a') σ H (λx H1 => ∃ q vs,x=.ref q/\H1 q=some (.lst vs) /\ ∀ k,H1 k=none->Q (.ref k) (upd H1 k (.lst vs.reverse))):=one hp λσu ρ H g u x hs hg r1 p=>by
  cases u with
  | ref n =>
   obtain ⟨q,rfl,hn⟩:=r1;simp only [] at p;cases eg:g[n]? with
   | none=>simp only [eg] at p;exact p.elim
   | some o =>
    cases o with
    | lst us =>
     simp only [eg] at p;obtain ⟨q',vs,t1,t2,t3⟩:=hg.lst eg;rw [hn] at t1;cases t1;exact ⟨q,vs,rfl,t2,λk hk=>ym_ p hg t3.reverse k hk⟩
    | dic _=>simp only [eg] at p;exact p.elim
    | dif _=>simp only [eg] at p;exact p.elim
    | dst _=>simp only [eg] at p;exact p.elim
    | ins _ _=>simp only [eg] at p;exact p.elim
  | _=>exact p.elim
 refine Subscript_ (thn (ha pins s σ H _ I hp') λv s1 ⟨x,H1,I1,r1,q1⟩ => ?_);obtain ⟨q,vs,rfl,hv,fin⟩:=q1;cases r1;refine wpAny_Slice ?_;rw [evalPart_none];refine ZP (ZP ?_);rw [evalPart_some];refine thn (hT_ ny_ mI_ pins s1 σ H1 (λx H2=>x=.int (-1)/\H2=H1) I1 ⟨1,rfl,rfl,rfl⟩) λvst s2 ⟨z,H2,I2,rz,ez,eh⟩ => ?_;subst ez;subst eh;obtain ⟨t,rfl⟩:=rz;have I3:L2.Inv X pins σ H2 { s2 with heap:=s2.heap.push { cls := .type "slice",data := .fields #[.none,.none,.int (-1) t] } }:=I2.kept (t':=s2.toks) λb ob q=>Heap.get?_push_of_some _ q
 obtain ⟨its,n,rv,ho,hz⟩:=I3.lst hv;have hl:Heap.IsList (s2.heap.push { cls := .type "slice",data := .fields #[.none,.none,.int (-1) t] }) q its.toArray:=⟨_,ho,rfl,n,rfl⟩;have hlen:=rv.length;refine tail_any (ops:=[.ref q,.ref s2.heap.objs.size]) (T := "list") hl.typeIs slot_list_getitem.lookup ?_ (by with_unfolding_all rfl)
 refine wpAny_getItem_list_slice hl (Heap.IsSliceOf.new ..) .none .none (.int (-1) t) (by simp) ?_ (by rw [List.size_toArray];omega)
 rw [PySem.W.krv_pick];have hf:=I3.hok.fresh (Nat.le_refl _);refine ⟨.ref _,_,I3.laid (t':=s2.toks) (o := .lst vs.reverse) (λb ob q=>Heap.get?_push_of_some _ q) (Nat.le_refl _) ?_,rfl,fin _ hf⟩;exact ⟨by rw [List.length_reverse];exact hz,its.reverse,0,rv.reverse,Heap.get?_push_size _ rfl⟩
noncomputable def tyName:Ty->String
 | .tint => "int" | .tbool => "bool" | .tstr => "str" | .ttuple => "tuple" | .tlist => "list" | .own _ => "?"
theorem hH_{ρ:List Addr}{H:Hp}{g:G}{u:U}{x:V}{t:Ty}{k:Bool}{pins:List (Addr×Obj)}{σ:L2.St}{s:Shared}{v:Value}{Q:VK}(I:L2.Inv X pins σ H s)(hg:RH X.K ρ H g)(r1:RV X.K ρ H u x)(rx:RelV x v)
  (e:vL_ t u g=some k) (q:Q (.bl k) H):wpAny (model X.prog X.w) X.A (call (.builtin "isinstance") [v,.type (tyName t)]) (EP X pins σ Q) X.xe s:=by
 have fin:∀ tk,EP X pins σ Q (.bool k) { s with toks:=tk }:=λtk=>⟨.bl k,H,I.tok tk,rfl,q⟩
 have isT:∀ {p:Addr} {us:List U} {vs:List V},SqT X.K H p vs->vL_ t (.tup us) g=some k->wpAny (model X.prog X.w) X.A (call (.builtin "isinstance") [.ref p,.type (tyName t)]) (EP X pins σ Q) X.xe s:=λ{p us vs} h e=>by
  obtain ⟨its,_,⟨o,h1,h2,_⟩,_⟩:=I.tuple h;cases t <;> simp only [vL_,Option.some.injEq,reduceCtorEq] at e <;> subst e <;> exact PySem.W.kia_one PySem.W.kitx_tuple I.kIn ⟨o,h1,h2⟩ rfl (λz=>nomatch z) fin
 have isL:∀ {p:Addr} {vs:List V},SqL X.K H p vs->pm_ t=some k->wpAny (model X.prog X.w) X.A (call (.builtin "isinstance") [.ref p,.type (tyName t)]) (EP X pins σ Q) X.xe s:=λ{p vs} h e=>by
  obtain ⟨its,_,⟨o,n,h1,h2,_⟩,_⟩:=I.list h;cases t <;> simp only [pm_,Option.some.injEq,reduceCtorEq] at e <;> subst e <;> exact PySem.W.kia_one PySem.W.kitx_list I.kIn ⟨o,h1,h2⟩ rfl (λz=>nomatch z) fin
 cases u with
 | non=>cases r1;cases rx;cases t <;> simp only [vL_,Option.some.injEq,reduceCtorEq] at e <;> subst e <;> exact PySem.W.kia_one PySem.W.kitx_none I.kIn True.intro rfl (λz=>nomatch z) fin
 | bl b=>cases r1;cases rx;cases t <;> simp only [vL_,Option.some.injEq,reduceCtorEq] at e <;> subst e <;> exact PySem.W.kia_one PySem.W.kitx_bool I.kIn True.intro rfl (λz=>nomatch z) fin
 | int i=>cases r1;obtain ⟨tk,rfl⟩:=rx;cases t <;> simp only [vL_,Option.some.injEq,reduceCtorEq] at e <;> subst e <;> exact PySem.W.kia_one PySem.W.kitx_int I.kIn True.intro rfl (λz=>nomatch z) fin
 | str z=>cases r1;obtain ⟨tk,rfl⟩:=rx;cases t <;> simp only [vL_,Option.some.injEq,reduceCtorEq] at e <;> subst e <;> exact PySem.W.kia_one PySem.W.kitx_str I.kIn True.intro rfl (λz=>nomatch z) fin
 | tup us=>obtain ⟨p,vs,rfl,h1,h2⟩:=r1;cases rx;exact isT h1.sq e
 | fro us=>simp [vL_] at e
 | ref n =>
  obtain ⟨p,rfl,hn⟩:=r1;cases rx;simp only [vL_] at e;cases eg:g[n]? with
  | none=>simp only [eg] at e;cases e
  | some o =>
   cases o with
   | lst us =>
    simp only [eg] at e;obtain ⟨q',vs,t1,t2,t3⟩:=hg.lst eg;rw [hn] at t1;cases t1;exact isL (.of t2) e
   | dic _=>simp only [eg] at e;cases e
   | dif _=>simp only [eg] at e;cases e
   | dst _=>simp only [eg] at e;cases e
   | ins _ _=>simp only [eg] at e;cases e
 | xn _ _=>simp [vL_] at e
theorem fq_{t:Ty}{tn:Str}{p1 p2:Pos}(ht:tn=Str.ofString (tyName t))(hgt:Gl X tn)(hmt:X.mg tn=none)(hbt:bootBuiltins tn=some (.type (tyName t)))(hn:tn ≠ "__name__")(hdb:(tn == ("__debug__" : Str))=false)
  (hg:Gl X "isinstance") (hm:X.mg "isinstance" = none) (ha:PE X a (tE X.K W (r.ev a'))) (hs:∀ es,starEach (a :: es) X.env=(false,eval a X.env) :: starEach es X.env) :
  PE X (.Call (.Name "isinstance" p1) [a,.Name tn p2] [] pos) (tE X.K W (evF C r (.isi a' t))):=by
 have hc:CallR X (.builtin "isinstance") (λxs H Q => ∃ x ρ g u k,xs=[x,.ty (tyName t)]/\RH X.K ρ H g/\RV X.K ρ H u x/\vL_ t u g=some k/\Q (.bl k) H):=by
  intro pins s σ H xs us Q I rs ⟨x,ρ,g,u,k,e,hg,r1,ek,q⟩;subst e;cases rs with
  | cons rx rs =>
   cases rs with
   | cons ry rs =>
    cases rs;cases ry;exact hH_ I hg r1 rx ek q
 refine (pe_callB hc hg hm (by rfl) (yf_ ha (yf_ (kv_ (v := .ty (tyName t)) hgt hmt hbt rfl hn hdb) wQ_ rfl) (hs _)) (by decide) (by decide) (hs _) rfl).imp λσ H Q hp => ?_
 refine one hp λσu ρ H g u x hs hg r1 p => ?_;cases ek:vL_ t u g with
 | none=>simp only [ek] at p;exact p.elim
 | some k=>simp only [ek] at p;exact ⟨x,ρ,g,u,k,rfl,hg,r1,ek,okE p hg rfl⟩
theorem sO_{ρ:List Addr}{H:Hp}{g:G}{n:Nat}{us:List U}{x:V}(hg:RH X.K ρ H g)(r1:RV X.K ρ H (.ref n) x)(eg:g[n]? = some (.lst us)):∃ q vs,x=.ref q/\ρ[n]? = some q/\H q=some (.lst vs)/\RVs X.K ρ H us vs:=by
 obtain ⟨q,rfl,hn⟩:=r1;obtain ⟨q',vs,t1,t2,t3⟩:=hg.lst eg;rw [hn] at t1;cases t1;exact ⟨q,vs,rfl,hn,t2,t3⟩
theorem vP_{x:U}{g:G}{n:Nat}(e:asL x g=some n):x=.ref n /\ ∃ us,g[n]? = some (.lst us):=by
 cases x <;> simp only [asL,reduceCtorEq] at e
 rename_i m;cases eg:g[m]? with
 | none=>simp [eg] at e
 | some o =>
  cases o with
  | lst us=>simp only [eg,Option.some.injEq] at e;subst e;exact ⟨rfl,us,eg⟩
  | dic _=>simp [eg] at e
  | dif _=>simp [eg] at e
  | dst _=>simp [eg] at e
  | ins _ _=>simp [eg] at e
theorem mP_{o:Expr}{o':E}{apos cpos:Pos}{name:Str}{id:String}{rr:V->List V->Hp->VK->Prop}{f:Nat->U->G->Out U}(slot:Slot "list" name id)(hty:typeOf (.builtin id)=pure (.type "method_descriptor"))(mt:MtR X id rr)
  (imp:∀ ρ H g n q y v Q,RH X.K ρ H g->ρ[n]? = some q->RV X.K ρ H y v->post X.K W (RV X.K) (f n y g) ρ H Q->rr (.ref q) [v] H Q)
  (ho:PE X o (tE X.K W (r.ev o'))) (ha:PE X a (tE X.K W (r.ev a'))) (hbase:attributeBase o name X.env (eval o X.env)=eval o X.env) (hline:(apos.endLine == cpos.line)=true)
  (hs:∀ es,starEach (a :: es) X.env=(false,eval a X.env) :: starEach es X.env):PE X (.Call (.Attribute o name apos) [a] [] cpos) (tE X.K W (λσ g=>(r.ev o' σ g).bind λx g=>match asL x g with
  | some n=>(r.ev a' σ g).bind λy g=>f n y g
  | none => .bad)):=by
 refine (e7_ (T := "list") PySem.F.plainAttrs_list slot hty mt ho (yf_ ha wQ_ (hs _)) hbase (by rw [hs];rfl) hline (hs _) rfl).imp λσ H Q ⟨σu,ρ,g,hs,hg,p⟩ => ?_
 refine ⟨σu,ρ,g,hs,hg,(post.bind p).mono λx H1 ⟨ρ1,u,g1,s1,h1,r1,p1⟩ => ?_⟩;cases ea:asL u g1 with
 | none=>simp only [ea] at p1;exact p1.elim
 | some n =>
  simp only [ea] at p1;obtain ⟨rfl,us,eg⟩:=vP_ ea;obtain ⟨q,vs,rfl,hn,t2,t3⟩:=sO_ h1 r1 eg;refine ⟨.inl ⟨rfl,vs,.of t2⟩,σu,ρ1,g1,hs.step s1,h1,(post.bind p1).mono λy H2 ⟨ρ2,w,g2,s2,h2,r2,p2⟩ => ?_⟩;exact imp ρ2 H2 g2 n q w y Q h2 (s2.ext _ _ hn) r2 p2
theorem vd_{ρ:List Addr}{H:Hp}{g:G}{n:Nat}{q:Addr}{us:List U}(hg:RH X.K ρ H g)(hn:ρ[n]? = some q)(eg:g[n]? = some (.lst us)):∃ vs,H q=some (.lst vs)/\RVs X.K ρ H us vs:=by
 obtain ⟨q',vs,t1,t2,t3⟩:=hg.lst eg;rw [hn] at t1;cases t1;exact ⟨vs,t2,t3⟩
theorem jc_{o:Expr}{o':E}{apos cpos:Pos}(ho:PE X o (tE X.K W (r.ev o')))(ha:PE X a (tE X.K W (r.ev a')))(hbase:attributeBase o "append" X.env (eval o X.env)=eval o X.env)(hline:(apos.endLine == cpos.line)=true)
  (hs:∀ es,starEach (a :: es) X.env=(false,eval a X.env) :: starEach es X.env):PE X (.Call (.Attribute o "append" apos) [a] [] cpos) (tE X.K W (evF C r (.app o' a'))):=by
 refine mP_ PySem.F.slot_list_append PySem.F.type_list_append ug_ (λρ H g n q y v Q hg hn ry p => ?_) ho ha hbase hline hs;simp only [xm_] at p;cases eg:g[n]? with
 | none=>simp only [eg] at p;exact p.elim
 | some o =>
  cases o with
  | lst us =>
   simp only [eg] at p;obtain ⟨vs,t2,t3⟩:=vd_ hg hn eg;split at p
   .rename_i hl
    exact ⟨q,vs,v,rfl,rfl,t2,by rw [<-t3.length,sizeLine_eq];unfold zd_ at hl;omega,p _ ρ _ (Stp.write hn t2) (hg.write hn t2 (t3.append (.one ry))) rfl⟩
   .exact p.elim
  | dic _=>simp only [eg] at p;exact p.elim
  | dif _=>simp only [eg] at p;exact p.elim
  | dst _=>simp only [eg] at p;exact p.elim
  | ins _ _=>simp only [eg] at p;exact p.elim
theorem fb_{o:Expr}{o':E}{apos cpos:Pos}(ho:PE X o (tE X.K W (r.ev o')))(ha:PE X a (tE X.K W (r.ev a')))(hbase:attributeBase o "extend" X.env (eval o X.env)=eval o X.env)(hline:(apos.endLine == cpos.line)=true)
  (hs:∀ es,starEach (a :: es) X.env=(false,eval a X.env) :: starEach es X.env):PE X (.Call (.Attribute o "extend" apos) [a] [] cpos) (tE X.K W (evF C r (.ext o' a'))):=by
 refine mP_ PySem.F.slot_list_extend PySem.F.type_list_extend qN_ (λρ H g n q y v Q hg hn ry p => ?_) ho ha hbase hline hs;simp only [vA_] at p;cases ea:asL y g with
 | none=>simp only [ea] at p;exact p.elim
 | some m =>
  simp only [ea] at p;obtain ⟨rfl,zs,em⟩:=vP_ ea;obtain ⟨q2,ws,rfl,hm,w2,w3⟩:=sO_ hg ry em;cases eg:g[n]? with
  | none=>simp only [eg] at p;exact p.elim
  | some o =>
   cases o with
   | lst us =>
    simp only [eg,em] at p;obtain ⟨vs,t2,t3⟩:=vd_ hg hn eg;split at p
    .rename_i hl
     exact ⟨q,q2,vs,ws,rfl,rfl,t2,w2,by rw [<-t3.length,<-w3.length,sizeLine_eq];unfold zd_ at hl;omega,p _ ρ _ (Stp.write hn t2) (hg.write hn t2 (t3.append w3)) rfl⟩
    .exact p.elim
   | dic _=>simp only [eg] at p;exact p.elim
   | dif _=>simp only [eg] at p;exact p.elim
   | dst _=>simp only [eg] at p;exact p.elim
   | ins _ _=>simp only [eg] at p;exact p.elim
theorem gd_{o:Expr}{o':E}{apos cpos:Pos}(ho:PE X o (tE X.K W (r.ev o')))(hbase:attributeBase o "pop" X.env (eval o X.env)=eval o X.env)(hline:(apos.endLine == cpos.line)=true):
  PE X (.Call (.Attribute o "pop" apos) [] [] cpos) (tE X.K W (evF C r (.pop o'))):=by
 refine (fk_ (T := "list") PySem.F.plainAttrs_list PySem.F.slot_list_pop PySem.F.type_list_pop jR_ ho hbase hline).imp λσ H Q hp=>one hp λσu ρ H g u x hs hg r1 p => ?_;cases ea:asL u g with
 | none=>simp only [ea] at p;exact p.elim
 | some n =>
  simp only [ea] at p;obtain ⟨rfl,us,eg⟩:=vP_ ea;obtain ⟨q,vs,rfl,hn,t2,t3⟩:=sO_ hg r1 eg;refine ⟨.inl ⟨rfl,vs,.of t2⟩,?_⟩;simp only [w1_,eg] at p;cases el:us[us.length - 1]? with
  | none=>simp only [el] at p;exact p.elim
  | some y =>
   simp only [el] at p;obtain ⟨v,ev,rv⟩:=t3.get el;exact ⟨q,vs,v,rfl,rfl,t2,by rw [<-t3.length];exact ev,p _ ρ _ (Stp.write hn t2) (hg.write hn t2 t3.dropLast) (RV.step (Stp.write hn t2) _ _ rv)⟩
end
section
variable(K:PySem.W.Frag)
noncomputable def tG(t:Tg):TG:=λv σ H Q => ∃ σu ρ g u σu',RS K ρ H σu σ/\RH K ρ H g/\RV K ρ H u v/\zw_ t (unl t u g) σu=some σu' /\ ∀ σ',RS K ρ H σu' σ'->Q σ' H
noncomputable def tGs(is:List Nat):TGs:=λvs σ H Q => ∃ σu ρ us σu',RS K ρ H σu σ/\RVs K ρ H us vs/\bindL is us σu=some σu' /\ ∀ σ',RS K ρ H σu' σ'->Q σ' H
noncomputable def RI(ρ:List Addr)(H:Hp)(i:Iter)(J:It):Prop:=match i with
 | .lst n => ∃ a,ρ[n]? = some a/\J=Itl K a
 | .dic n => ∃ a o ws,ρ[n]? = some a/\H a=some (.frz o (.dT ws))/\J=Itd a o ws
 | .enm n => ∃ a,ρ[n]? = some a/\J=Ite K a
 | .seq us => ∃ a vs,(SqU K H a vs\/SqC K a vs)/\RVs K ρ H us vs/\J=Itt K a
 | .rng lo n=>J=Itr lo n
noncomputable def tI(W:XQ)(f:Su->G->Out Iter):TI:=λσ H R => ∃ σu ρ g,RS K ρ H σu σ/\RH K ρ H g/\post K W (RI K) (f σu g) ρ H R
end
theorem RI.step{K:PySem.W.Frag}{ρ ρ':List Addr}{H H':Hp}{i:Iter}{J:It}(s:Stp K ρ H ρ' H')(h:RI K ρ H i J):RI K ρ' H' i J:=by
 cases i with
 | lst n=>obtain ⟨a,h1,h2⟩:=h;exact ⟨a,s.ext _ _ h1,h2⟩
 | dic n=>obtain ⟨a,o,ws,h1,h2,h3⟩:=h;exact ⟨a,o,ws,s.ext _ _ h1,s.frz _ _ _ h2,h3⟩
 | enm n=>obtain ⟨a,h1,h2⟩:=h;exact ⟨a,s.ext _ _ h1,h2⟩
 | seq us=>obtain ⟨a,vs,h1,h2,h3⟩:=h;exact ⟨a,vs,h1.imp_left (s.tup _ _),RVs.step s _ _ h2,h3⟩
 | rng lo n=>exact h
section
variable{X:Cx}{W:XQ}{C:Nat->List U->G->Out U}{r:L}{pos p2:Pos}{a b c e tg:Expr}{a' b' c' e':E}{t:Tg}
theorem uc_{t:Tg}{u:U}{g:G}{σ σ1:Su}(h:zw_ t u σ=some σ1):zw_ t (unl t u g) σ=some σ1:=by
 cases t with
 | nm i=>exact h
 | tp is =>
  cases u with
  | ref n=>simp [zw_] at h
  | _=>exact h
noncomputable def ex_(K:PySem.W.Frag)(n:Nat)(t:TGs):TG:=λv σ H Q => ∃ a xs,v=.ref a/\SqL K H a xs/\xs.length=n/\t xs σ H Q
theorem kR_{es:List Expr}{k:Nat}{t:TGs}{n:Nat}(hc:X.calm=true)(h:PGs X es t)
  (hn:(assignEach es X.env).length=n) (hst:(assignEach es X.env).findIdx? (·.1)=none):PG X (.Tuple es k pos) (ex_ X.K n t):=by
 intro pins s σ H v u Q I r hw;obtain ⟨a,xs,e1,hq,hl,hw⟩:=hw;subst e1;cases r;obtain ⟨its,rv,⟨o,m,e,hcls,hdic,hdat⟩,hz⟩:=I.list hq;have hL:s.heap.IsList a its.toArray:=⟨o,e,hcls,m,hdat⟩;rw [assign_Tuple];refine ZB (wpAny_standAt ?_);unfold unpack;have hlen:(assignEach es X.env).length=its.toArray.size:=by simp [hn,<-hl,rv.length]
 rw [hlen,hst];refine ZB (wpAny_holding (PySem.W.kun_itemsOf (I.ok.hd hc) hL λh' hx => ?_));have I1:Inv X pins σ H { s with heap:=h' }:=I.kept (t':=s.toks) λb o e=>hx b o (Nat.ne_of_lt (Heap.lt_size e)) e
 exact h pins _ σ H xs _ Q I1 (by simpa using rv) hw
theorem d3_{i:Nat}{x:Str}(hN:X.N.Nodup)(hi:X.N[i]? = some x)(hx:Loc X.env.scope x)(hf:X.fn x=true\/X.env.scope.names.lookup x=some .local):PG X (.Name x pos) (tG X.K (.nm i)):=by
 intro pins s σ H v u Q I rv ⟨σu,ρ,g,w,σu',hs,hg,rw',e,q⟩;refine q3_ hN hi hx hf pins s σ H v u Q I rv ?_;simp only [unl,zw_] at e;split at e
 .cases e;exact q _ (hs.set rw')
 .cases e
theorem sgs_nil:PGs X [] (tGs X.K []):=by
 intro pins s σ H vs us Q I rv ⟨σu,ρ,ws,σu',hs,rw',e,q⟩;refine lS_ pins s σ H vs us Q I rv ?_;cases ws with
 | nil=>cases rw';cases e;exact ⟨rfl,q _ hs⟩
 | cons _ _=>cases e
theorem pK_{i:Nat}{is:List Nat}{x:Str}{ts:List Expr}(hN:X.N.Nodup)(hi:X.N[i]? = some x)(hx:Loc X.env.scope x)(hf:X.fn x=true\/X.env.scope.names.lookup x=some .local)(h:PGs X ts (tGs X.K is)):PGs X (.Name x pos :: ts) (tGs X.K (i :: is)):=by
 intro pins s σ H vs us Q I rv ⟨σu,ρ,ws,σu',hs,rw',e,q⟩;refine or_ (q3_ hN hi hx hf) h rfl pins s σ H vs us Q I rv ?_;cases ws with
 | nil=>cases e
 | cons w ws =>
  obtain ⟨v,vr,rfl,r1,r2⟩:=rw';simp only [bindL] at e;split at e
  .exact ⟨v,vr,rfl,_,ρ,ws,σu',hs.set r1,r2,e,q⟩
  .cases e
theorem wk_:∀ {is:List Nat} {us:List U} {σ σ':Su},bindL is us σ=some σ'->us.length=is.length
 | [],[],_,_,_=>rfl
 | _ :: is,_ :: us,_,_,e=>by
  simp only [bindL] at e;split at e
  .simp [wk_ e]
  .cases e
 | [],_ :: _,_,_,e=>by simp [bindL] at e
 | _ :: _,[],_,_,e=>by simp [bindL] at e
theorem du_{is:List Nat}{ts:List Expr}{k:Nat}(hc:X.calm=true)(h:PGs X ts (tGs X.K is))(hn:(assignEach ts X.env).length=is.length)(hst:(assignEach ts X.env).findIdx? (·.1)=none):PG X (.Tuple ts k pos) (tG X.K (.tp is)):=by
 intro pins s σ H v u Q I rv ⟨σu,ρ,g,w,σu',hs,hg,rw',e,q⟩;cases w with
 | tup us =>
  refine gD_ hc h hn hst pins s σ H v u Q I rv ?_;obtain ⟨a,vs,rfl,h1,h2⟩:=rw';have e':bindL is us σu=some σu':=e;exact ⟨a,vs,rfl,h1.sq,by rw [<-h2.length];exact wk_ e',σu,ρ,us,σu',hs,h2,e',q⟩
 | ref n =>
  simp only [unl] at e;cases eg:g[n]? with
  | none=>simp [eg,zw_] at e
  | some o =>
   cases o with
   | lst xs =>
    refine kR_ hc h hn hst pins s σ H v u Q I rv ?_;obtain ⟨a,vs,hr,hH,h2⟩:=hg.lst eg;obtain ⟨a',rfl,hr'⟩:=rw';rw [hr] at hr';cases hr';have e':bindL is xs σu=some σu':=by simpa [eg,zw_] using e
    exact ⟨a,vs,rfl,.of hH,by rw [<-h2.length];exact wk_ e',σu,ρ,xs,σu',hs,h2,e',q⟩
   | _=>simp [eg,zw_] at e
 | _=>simp [unl,zw_] at e
theorem hl_{l:Expr}{l':E}(hl:PE X l (tE X.K W (r.ev l'))):PI X tg l (tI X.K W (λσ g=>(r.ev l' σ g).bind λu g=>match u with
  | .tup xs=>Out.ok (Iter.seq xs) g
  | .xn _ xs=>Out.ok (Iter.seq xs) g
  | .ref n=>match g[n]? with
   | some (.lst _) => .ok (.lst n) g
   | some (.dic kvs) => .ok (.dic n) (g.set n (.dif kvs))
   | some (.dif _) => .ok (.dic n) g
   | _ => .bad
  | _ => .bad)):=by
 intro pins s σ H R I hp;have hp':tE X.K W (r.ev l') σ H (λx H1=>(∃ a,x=.ref a/\(∃ xs,SqL X.K H1 a xs)/\R (Itl X.K a) H1)\/(∃ a,x=.ref a/\(∃ xs,SqT X.K H1 a xs)/\R (Itt X.K a) H1)\/(∃ a ws,x=.ref a/\H1 a=some (.dT ws) /\ ∀ o,R (Itd a o ws) (upd H1 a (.frz o (.dT ws)))) \/ ∃ a o ws,x=.ref a/\H1 a=some (.frz o (.dT ws))/\R (Itd a o ws) H1):=by
  refine one (R:=RI X.K) hp λσu ρ H g u x hs hg r1 p => ?_;cases u with
  | tup us=>obtain ⟨a,vs,rfl,h1,h2⟩:=r1;exact .inr (.inl ⟨a,rfl,⟨vs,h1.sq⟩,post.okHere (R:=RI X.K) p hg ⟨a,vs,.inl h1,h2,rfl⟩⟩)
  | xn _ us=>obtain ⟨a,vs,rfl,h1,h2⟩:=r1;exact .inr (.inl ⟨a,rfl,⟨vs,h1.sq⟩,post.okHere (R:=RI X.K) p hg ⟨a,vs,.inr h1,h2,rfl⟩⟩)
  | ref n =>
   simp only [] at p;cases eg:g[n]? with
   | none=>simp only [eg] at p;exact p.elim
   | some o =>
    cases o with
    | lst us =>
     simp only [eg] at p;obtain ⟨q,vs,rfl,hn,t2,t3⟩:=sO_ hg r1 eg;exact .inl ⟨q,rfl,⟨vs,.of t2⟩,post.okHere (R:=RI X.K) p hg ⟨q,hn,rfl⟩⟩
    | dic kvs =>
     simp only [eg] at p;obtain ⟨q,ws,hn,ha,rd⟩:=hg.dic eg;obtain ⟨q',rfl,hn'⟩:=r1;rw [hn] at hn';cases hn';refine .inr (.inr (.inl ⟨q,ws,rfl,ha,λo => ?_⟩));exact p _ ρ _ (Stp.writeO hn ha trivial) (hg.writeO hn ha trivial ⟨o,ws,rfl,rd⟩) ⟨q,o,ws,hn,upd_same,rfl⟩
    | dif kvs =>
     simp only [eg] at p;obtain ⟨q,o,ws,hn,ha,rd⟩:=hg.dif eg;obtain ⟨q',rfl,hn'⟩:=r1;rw [hn] at hn';cases hn';exact .inr (.inr (.inr ⟨q,o,ws,rfl,ha,post.okHere (R:=RI X.K) p hg ⟨q,o,ws,hn,ha,rfl⟩⟩))
    | dst _=>simp only [eg] at p;exact p.elim
    | ins _ _=>simp only [eg] at p;exact p.elim
  | _=>exact p.elim
 refine thn (hl pins s σ H _ I hp') λv s1 ⟨x,H1,I1,r1,q1⟩ => ?_;rcases q1 with ⟨a,e,⟨xs,hq⟩,q⟩ | ⟨a,e,⟨xs,hq⟩,q⟩ | ⟨a,ws,e,ha,q⟩ | ⟨a,o,ws,e,ha,q⟩
 .subst e
  cases r1;obtain ⟨its,rv,p,hz⟩:=I1.list hq;refine wpAny_pyIter_list p.isList ?_;refine ⟨s1.heap.objs.size,[s1.heap.objs.size],_,_,H1,rfl,I1.kept (t':=s1.toks) λb o e=>Heap.get?_push_of_some _ e,rz_ a _,⟨_,Heap.get?_push_size _ rfl,rfl,rfl⟩,λb hb => ?_,q⟩;have e:b=s1.heap.objs.size:=by simpa using hb
  subst e;exact I1.fpOk (Nat.le_refl _) (I1.hok.fresh (Nat.le_refl _))
 .subst e
  cases r1;obtain ⟨its,rv,p,hz⟩:=I1.tuple hq;refine wpAny_pyIter_tuple (show s1.heap.IsTuple a its.toArray from p) ?_;refine ⟨s1.heap.objs.size,[s1.heap.objs.size],_,_,H1,rfl,I1.kept (t':=s1.toks) λb o e=>Heap.get?_push_of_some _ e,sD_ a _,⟨_,Heap.get?_push_size _ rfl,rfl,rfl⟩,λb hb => ?_,q⟩;have e:b=s1.heap.objs.size:=by simpa using hb
  subst e;exact I1.fpOk (Nat.le_refl _) (I1.hok.fresh (Nat.le_refl _))
 .subst e
  cases r1;obtain ⟨o,I2⟩:=I1.freeze ha;exact jZ_ I2 upd_same (q o)
 .subst e
  cases r1;exact jZ_ I1 ha q
theorem PI.imp{iter:Expr}{t t':TI}(h:PI X tg iter t)(q:∀ σ H Q,t' σ H Q->t σ H Q):PI X tg iter t':=λpins s σ H Q I h'=>h pins s σ H Q I (q σ H Q h')
theorem i5_{p tp:Pos}{elts:List Expr}{x1:Nat}(hg:Gl X "enumerate")(hm:X.mg "enumerate" = none)(ha:PE X a (tE X.K W (r.ev a')))(hs:∀ es,starEach (a :: es) X.env=(false,eval a X.env) :: starEach es X.env):
  PI X (.Tuple elts x1 tp) (.Call (.Name "enumerate" p) [a] [] pos) (tI X.K W (itF r (.enm a'))):=by
 refine PI.imp (mW_ hg hm (yf_ ha wQ_ (hs _)) (hs _)) λσ H R hp=>one (R:=RI X.K) hp λσu ρ H g u x hs hg r1 p => ?_;cases ea:asL u g with
 | none=>simp only [ea] at p;exact p.elim
 | some n =>
  simp only [ea] at p;obtain ⟨rfl,us,eg⟩:=vP_ ea;obtain ⟨q,vs,rfl,hn,t2,t3⟩:=sO_ hg r1 eg;exact ⟨q,rfl,⟨vs,.of t2⟩,post.okHere (R:=RI X.K) p hg ⟨q,hn,rfl⟩⟩
theorem lV_{p:Pos}(hg:Gl X "range")(hm:X.mg "range" = none)(ha:PE X a (tE X.K W (r.ev a')))(hs:∀ es,starEach (a :: es) X.env=(false,eval a X.env) :: starEach es X.env):
  PI X tg (.Call (.Name "range" p) [a] [] pos) (tI X.K W (itF r (.rng1 a'))):=by
 refine PI.imp (qm_ hg hm (yf_ ha wQ_ (hs _)) (hs _)) λσ H R hp=>one (R:=RI X.K) hp λσu ρ H g u x hs hg r1 p => ?_;cases u with
 | int j =>
  cases r1;simp only [] at p;split at p
  .rename_i hj
   exact ⟨j,rfl,by omega,by omega,post.okHere (R:=RI X.K) p hg rfl⟩
  .exact p.elim
 | _=>exact p.elim
theorem lU_{p:Pos}(hg:Gl X "range")(hm:X.mg "range" = none)(ha:PE X a (tE X.K W (r.ev a')))(hb:PE X b (tE X.K W (r.ev b')))(hs:∀ es,starEach (a :: es) X.env=(false,eval a X.env) :: starEach es X.env)
  (hs2:∀ es,starEach (b :: es) X.env=(false,eval b X.env) :: starEach es X.env):PI X tg (.Call (.Name "range" p) [a,b] [] pos) (tI X.K W (itF r (.rng2 a' b'))):=by
 refine PI.imp (q8_ hg hm (yf_ ha (yf_ hb wQ_ (hs2 _)) (hs _)) (by rw [hs,hs2];rfl) (hs2 _)) λσ H R hp=>two (R:=RI X.K) hp λσu ρ H g u w x y hs hg r1 r2 p => ?_
 cases u with
 | int i =>
  cases w with
  | int j =>
   cases r1;cases r2;simp only [] at p;split at p
   .exact ⟨i,j,rfl,by omega,post.okHere (R:=RI X.K) p hg rfl⟩
   .exact p.elim
  | _=>exact p.elim
 | _=>cases w <;> exact p.elim
theorem r6_{ρ:List Addr}{H:Hp}{g:G}{it:Iter}{J:It}{i:Nat}(hg:RH X.K ρ H g)(ri:RI X.K ρ H it J)(e:next it i g=some none):J.stop i H:=by
 cases it with
 | lst n =>
  obtain ⟨a,h1,rfl⟩:=ri;simp only [next] at e;cases eg:g[n]? with
  | none=>simp [eg] at e
  | some o =>
   cases o with
   | lst us =>
    simp only [eg,Option.some.injEq] at e;obtain ⟨vs,t2,t3⟩:=vd_ hg h1 eg;exact ⟨vs,.of t2,List.getElem?_eq_none_iff.mp (t3.none_of e)⟩
   | dic _=>simp [eg] at e
   | dif _=>simp [eg] at e
   | dst _=>simp [eg] at e
   | ins _ _=>simp [eg] at e
 | dic n =>
  obtain ⟨a,o,ws,h1,h2,rfl⟩:=ri;simp only [next] at e;cases eg:g[n]? with
  | none=>simp [eg] at e
  | some ob =>
   cases ob with
   | dif kvs =>
    obtain ⟨a',o',ws',h1',h2',rd⟩:=hg.dif eg;rw [h1] at h1';cases h1';rw [h2] at h2';cases h2';simp only [eg,Option.some.injEq,Option.map_eq_none_iff] at e;exact ⟨h2,by rw [<-rd.len];exact List.getElem?_eq_none_iff.mp e⟩
   | _=>simp [eg] at e
 | enm n =>
  obtain ⟨a,h1,rfl⟩:=ri;simp only [next] at e;cases eg:g[n]? with
  | none=>simp [eg] at e
  | some o =>
   cases o with
   | lst us =>
    simp only [eg,Option.some.injEq,Option.map_eq_none_iff] at e;obtain ⟨vs,t2,t3⟩:=vd_ hg h1 eg;exact ⟨vs,.of t2,List.getElem?_eq_none_iff.mp (t3.none_of e)⟩
   | _=>simp [eg] at e
 | seq us =>
  obtain ⟨a,vs,h1,h2,rfl⟩:=ri;simp only [next,Option.some.injEq] at e;exact ⟨vs,h1.elim SqU.sq SqC.sq,List.getElem?_eq_none_iff.mp (h2.none_of e)⟩
 | rng lo n =>
  cases ri;simp only [next,Option.some.injEq] at e;split at e
  .cases e
  .rename_i h;exact Nat.le_of_not_lt h
theorem fc_{ρ:List Addr}{H:Hp}{g:G}{it:Iter}{J:It}{i:Nat}{u:U}(hg:RH X.K ρ H g)(ri:RI X.K ρ H it J)(e:next it i g=some (some u)):J.go i H /\ ∀ x H',J.yld i H x H'->Stp X.K ρ H ρ H'/\RH X.K ρ H' g/\RV X.K ρ H' u x:=by
 have here:∀ {x:V} {H':Hp},H'=H->RV X.K ρ H u x->Stp X.K ρ H ρ H'/\RH X.K ρ H' g/\RV X.K ρ H' u x:=λe r=>by subst e;exact ⟨.refl,hg,r⟩
 cases it with
 | lst n =>
  obtain ⟨a,h1,rfl⟩:=ri;simp only [next] at e;cases eg:g[n]? with
  | none=>simp [eg] at e
  | some o =>
   cases o with
   | lst us =>
    simp only [eg,Option.some.injEq] at e;obtain ⟨vs,t2,t3⟩:=vd_ hg h1 eg;obtain ⟨v,ev,rv⟩:=t3.get e;refine ⟨⟨vs,v,.of t2,ev⟩,λx H' ⟨h1,h2⟩=>here h1 ?_⟩;have:=h2 vs (.of t2);rw [ev] at this;cases this;exact rv
   | dic _=>simp [eg] at e
   | dif _=>simp [eg] at e
   | dst _=>simp [eg] at e
   | ins _ _=>simp [eg] at e
 | dic n =>
  obtain ⟨a,o,ws,h1,h2,rfl⟩:=ri;simp only [next] at e;cases eg:g[n]? with
  | none=>simp [eg] at e
  | some ob =>
   cases ob with
   | dif kvs =>
    obtain ⟨a',o',ws',h1',h2',rd⟩:=hg.dif eg;rw [h1] at h1';cases h1';rw [h2] at h2';cases h2';simp only [eg,Option.some.injEq] at e;obtain ⟨⟨k,z⟩,e1,e2⟩:=Option.map_eq_some_iff.mp e;obtain ⟨v,ev,rv⟩:=rd.at e1;refine ⟨⟨h2,(List.getElem?_eq_some_iff.mp ev).1⟩,λx H' ⟨h3,b,k',v',ex,ek,hb⟩=>here h3 ?_⟩;rw [ev] at ek;cases ek;subst ex;subst e2;exact ⟨b,k.map V.int,rfl,by rw [List.map_map] at hb;exact hb,yq_ k⟩
   | _=>simp [eg] at e
 | enm n =>
  obtain ⟨a,h1,rfl⟩:=ri;simp only [next] at e;cases eg:g[n]? with
  | none=>simp [eg] at e
  | some o =>
   cases o with
   | lst us =>
    simp only [eg,Option.some.injEq] at e;obtain ⟨w,e1,e2⟩:=Option.map_eq_some_iff.mp e;obtain ⟨vs,t2,t3⟩:=vd_ hg h1 eg;obtain ⟨v,ev,rv⟩:=t3.get e1;refine ⟨⟨vs,v,.of t2,ev⟩,λx H' ⟨p,v',hp,ex,eH,all⟩ => ?_⟩;have:=all vs (.of t2);rw [ev] at this;cases this;subst ex;subst eH;subst e2;have sp:Stp X.K ρ H ρ (upd H p (.tup [.int i,v])):=Stp.fresh hp;exact ⟨sp,hg.step_fresh hp,p,[.int i,v],rfl,upd_same,.int i,[v],rfl,rfl,v,[],rfl,RV.step sp _ _ rv,rfl⟩
   | _=>simp [eg] at e
 | seq us =>
  obtain ⟨a,vs,h1,h2,rfl⟩:=ri;simp only [next,Option.some.injEq] at e;obtain ⟨v,ev,rv⟩:=h2.get e;have h1':SqT X.K H a vs:=h1.elim SqU.sq SqC.sq;refine ⟨⟨vs,v,h1',ev⟩,λx H' ⟨h3,h4⟩=>here h3 ?_⟩;have:=h4 vs h1';rw [ev] at this;cases this;exact rv
 | rng lo n =>
  cases ri;simp only [next,Option.some.injEq] at e;split at e
  .rename_i h
   cases e;exact ⟨h,λx H' ⟨h1,h2⟩=>here h1 h2⟩
  .cases e
variable{st:Stmt}{rest:List Stmt}{s':S}{rest':List S}
theorem hz_:PSs X [] (tSt X.K W (exF r [])):=lw_.imp λD σ H ⟨σu,ρ,g,hs,hg,p⟩=>p σ ρ H .refl hg hs
theorem ki_(h1:PS X st (tSt X.K W (s1F r s')))(h2:PSs X rest (tSt X.K W (r.ex rest'))):PSs X (st :: rest) (tSt X.K W (exF r (s' :: rest'))):=by
 refine (p2_ h1 h2).imp λD σ H ⟨σu,ρ,g,hs,hg,p⟩=>⟨σu,ρ,g,hs,hg,?_⟩;revert p;simp only [exF];cases s1F r s' σu g with
 | ok f g1 =>
  cases f with
  | nx σ1=>exact λp σ2 ρ2 H2 s2 h2 hs2=>⟨σ1,ρ2,g1,hs2,h2,postS.from (o:=r.ex rest' σ1 g1) p s2⟩
  | rt u=>exact λp=>p
  | bk σ1=>exact λp=>p
  | ct σ1=>exact λp=>p
 | exc c fs g1=>exact λp=>p
 | bad=>exact λp=>p
theorem el_{f:Su->G->Out U}{k:Su->U->G->Out Fl}{σ:L2.St}{H:Hp}{D:Ends}{Q2:V->Hp->Prop}
  (hp:∃ σu ρ g,RS X.K ρ H σu σ/\RH X.K ρ H g/\postS X.K W ((f σu g).bind λx g=>k σu x g) ρ H D)
  (imp:∀ σu ρ H g u x,RS X.K ρ H σu σ->RH X.K ρ H g->RV X.K ρ H u x->postS X.K W (k σu u g) ρ H D->Q2 x H):tE X.K W f σ H Q2:=by
 obtain ⟨σu,ρ,g,hs,hg,p⟩:=hp;exact ⟨σu,ρ,g,hs,hg,(postS.bind p).mono λx H1 ⟨ρ1,u,g1,s1,h1,r1,p1⟩=>imp σu ρ1 H1 g1 u x (hs.step s1) h1 r1 p1⟩
theorem h3_(h:PE X e (tE X.K W (r.ev e'))):PS X (.Return (some e) pos) (tSt X.K W (s1F r (.ret e'))) :=
 (gh_ h).imp λD σ H hp=>el_ hp λσu ρ H g u x hs hg r1 p=>p x ρ H .refl hg r1
theorem hJ_(h:PE X e (tE X.K W (r.ev e')))(hs:swapsWith e none pos.line X.env=pure false):PS X (.Expr e pos) (tSt X.K W (s1F r (.exp e'))) :=
 (lZ_ h hs).imp λD σ H hp=>el_ hp λσu ρ H g u x hs hg r1 p=>p _ ρ H .refl hg hs
theorem hw_{v:V}{u:U}{σu:Su}{σ:L2.St}{ρ:List Addr}{H:Hp}{g:G}{D:Ends}(hs:RS X.K ρ H σu σ)(hg:RH X.K ρ H g)(rv:RV X.K ρ H u v)(p:postS X.K W (match zw_ t (unl t u g) σu with | some σ'=>Out.ok (.nx σ') g | none => .bad) ρ H D):tG X.K t v σ H D.nx:=by
 cases e:zw_ t (unl t u g) σu with
 | none=>simp only [e] at p;exact p.elim
 | some σ1=>simp only [e] at p;exact ⟨σu,ρ,g,u,σ1,hs,hg,rv,e,λσ' hs'=>p σ' ρ H .refl hg hs'⟩
theorem mH_(h:PE X e (tE X.K W (r.ev e')))(hg:PG X tg (tG X.K t))(hs:swapsWithSole [tg] e pos.line X.env=pure false)(hw:swappedStores [tg] e X.env=pure none)(h1:(assignEach [tg] X.env).map (·.2)=[assign tg X.env]):
  PS X (.Assign [tg] e pos) (tSt X.K W (s1F r (.set t e'))) :=
 (mA_ h hg hs hw h1).imp λD σ H hp=>el_ hp λσu ρ H g u x hs hg r1 p=>hw_ hs hg r1 p
theorem k8_{i:Nat}{x:Str}{pos':Pos}(hN:X.N.Nodup)(hi:X.N[i]? = some x)(hx:Loc X.env.scope x)(hf:X.fn x=true\/X.env.scope.names.lookup x=some .local)(h:PE X e (tE X.K W (r.ev e')))(hs:swapsWith e (some (.Name x pos')) pos.line X.env=pure false):
  PS X (.Assign [.Name x pos'] e pos) (tSt X.K W (s1F r (.set (.nm i) e'))) :=
 (iF_ hN hi hx h hs hf).imp λD σ H hp=>el_ hp λσu ρ H g u x hs hg r1 p=>by
  simp only [unl,zw_] at p;by_cases hl:i < σu.length
  .rw [if_pos hl] at p;exact p _ ρ H .refl hg (hs.set r1)
  .rw [if_neg hl] at p;exact p.elim
theorem jp_{i j:Nat}{x y:Str}{px py pt:Pos}{kt k2 pt2}(hc:X.calm=true)(hN:X.N.Nodup)(hi:X.N[i]? = some x)(hj:X.N[j]? = some y)(hij:i≠j)
  (hx:X.env.scope.names.lookup x=some .local) (hy:X.env.scope.names.lookup y=some .local) (ha:PE X a (tE X.K W (r.ev a'))) (hb:PE X b (tE X.K W (r.ev b'))) (hsa:∀ es,starEach (a :: es) X.env=(false,eval a X.env) :: starEach es X.env) (hsb:∀ es,starEach (b :: es) X.env=(false,eval b X.env) :: starEach es X.env)
  (hw:swappedStores [.Tuple [.Name x px,.Name y py] kt pt] (.Tuple [a,b] k2 pt2) X.env=pure (some [x,y])) :
  PS X (.Assign [.Tuple [.Name x px,.Name y py] kt pt] (.Tuple [a,b] k2 pt2) pos) (tSt X.K W (s1F r (.par i j a' b'))):=by
 refine (hg_ hc hN hi hj hij hx hy (yf_ ha (yf_ hb wQ_ (hsb _)) (hsa _)) hw rfl).imp λD σ H ⟨σu,ρ,g,hs,hg,p⟩ => ?_;refine ⟨σu,ρ,g,hs,hg,(postS.bind p).mono λv H1 ⟨ρ1,u,g1,s1,h1,r1,p1⟩ => ?_⟩;refine ⟨σu,ρ1,g1,hs.step s1,h1,(postS.bind p1).mono λw H2 ⟨ρ2,u2,g2,s2,h2,r2,p2⟩ => ?_⟩;split at p2
 .exact ⟨v,w,rfl,p2 _ ρ2 H2 .refl h2 ((((hs.step s1).step s2).set (RV.step s2 _ _ r1)).set r2)⟩
 .exact p2.elim
theorem g6_{o i:Expr}{o' i':E}{spos:Pos}(hu:X.A.units+1 < cLine)(h:PE X e (tE X.K W (r.ev e')))(ho:PE X o (tE X.K W (r.ev o')))(hi:PE X i (tE X.K W (r.ev i')))(hs:swapsWithSole [.Subscript o i spos] e pos.line X.env=pure false)(hw:swappedStores [.Subscript o i spos] e X.env=pure none)
  (ha:∀ v,assign (.Subscript o i spos) X.env v=(do
   let ov <- holding [v] (eval o X.env)
   let iv <- holding [v,ov] (eval i X.env)
   standAt spos
   holding [v,ov,iv] (setItem ov iv v)
   release [v,ov,iv] [])):PS X (.Assign [.Subscript o i spos] e pos) (tSt X.K W (s1F r (.sub o' i' e'))):=by
 refine (mA_ h (fr_ ho hi (m6_ set_list (set_dict hu)) ha) hs hw rfl).imp λD σ H ⟨σu,ρ,g,hs,hg,p⟩ => ?_;refine ⟨σu,ρ,g,hs,hg,(postS.bind p).mono λv H1 ⟨ρ1,u,g1,s1,h1,r1,p1⟩ => ?_⟩;refine ⟨σu,ρ1,g1,hs.step s1,h1,(postS.bind p1).mono λw H2 ⟨ρ2,u2,g2,s2,h2,r2,p2⟩ => ?_⟩;refine ⟨σu,ρ2,g2,(hs.step s1).step s2,h2,(postS.bind p2).mono λz H3 ⟨ρ3,u3,g3,s3,h3,r3,p3⟩ => ?_⟩;cases u2 with
 | ref n =>
  cases u3 with
  | int k =>
   cases r3;simp only [subAt,dk_] at p3;cases eg:g3[n]? with
   | none=>simp only [eg] at p3;exact p3.elim
   | some ob =>
    cases ob with
    | lst us =>
     simp only [eg] at p3;obtain ⟨q,vs,rfl,hn,t2,t3⟩:=sO_ h3 (RV.step s3 _ _ r2) eg;cases ej:ixN us.length k with
     | none=>simp only [ej] at p3;exact p3.elim
     | some j =>
      simp only [ej] at p3;have rv:=RV.step s3 _ _ (RV.step s2 _ _ r1);exact .inl ⟨q,vs,k,j,rfl,rfl,t2,by rw [<-t3.length];exact ej,p3 _ ρ3 _ (Stp.write hn t2) (h3.write hn t2 (t3.set rv j)) ((((hs.step s1).step s2).step s3).step (Stp.write hn t2))⟩
    | dic _=>simp only [eg] at p3;exact p3.elim
    | dif _=>simp only [eg] at p3;exact p3.elim
    | dst _=>simp only [eg] at p3;exact p3.elim
    | ins _ _=>simp only [eg] at p3;exact p3.elim
  | tup us =>
   simp only [subAt,dZ_] at p3;cases eg:g3[n]? with
   | none=>simp only [eg] at p3;exact p3.elim
   | some ob =>
    cases ob with
    | dic kvs =>
     simp only [eg] at p3;cases ek:intsOf us with
     | none=>simp only [ek] at p3;exact p3.elim
     | some k =>
      simp only [ek] at p3;by_cases hl:kvs.length < zd_
      .rw [if_pos hl] at p3
       obtain ⟨q,ws,hn,ha,rd⟩:=h3.dic eg;obtain ⟨q',rfl,hn'⟩:=RV.step s3 _ _ r2;rw [hn] at hn';cases hn';obtain ⟨b,rfl,hb⟩:=tG_ (x := .tup us) (k:=k) ek r3;have rv:=RV.step s3 _ _ (RV.step s2 _ _ r1);refine .inr ⟨q,_,rfl,DPut.t ha hb ?_,p3 _ ρ3 _ (Stp.writeO hn ha trivial) (h3.writeO hn ha trivial ⟨_,rfl,rd.put rv⟩) ((((hs.step s1).step s2).step s3).step (Stp.writeO hn ha trivial))⟩;rw [<-rd.len,sizeLine_eq];unfold zd_ at hl;omega
      .rw [if_neg hl] at p3;exact p3.elim
    | lst _=>simp only [eg] at p3;exact p3.elim
    | dif _=>simp only [eg] at p3;exact p3.elim
    | dst _=>simp only [eg] at p3;exact p3.elim
    | ins _ _=>simp only [eg] at p3;exact p3.elim
  | str k =>
   simp only [subAt,bL_] at p3;cases eg:g3[n]? with
   | none=>simp only [eg] at p3;exact p3.elim
   | some ob =>
    cases ob with
    | dst kvs =>
     simp only [eg] at p3;by_cases hl:kvs.length < zd_
     .rw [if_pos hl] at p3
      obtain ⟨q,ws,hn,ha,rk⟩:=h3.dst eg;obtain ⟨q',rfl,hn'⟩:=RV.step s3 _ _ r2;rw [hn] at hn';cases hn';cases r3;have rv:=RV.step s3 _ _ (RV.step s2 _ _ r1);refine .inr ⟨q,_,rfl,DPut.k (k:=Sum.inr k) ha ?_,p3 _ ρ3 _ (Stp.writeO hn ha trivial) (h3.writeO hn ha trivial ⟨_,rfl,rk.put rv⟩) ((((hs.step s1).step s2).step s3).step (Stp.writeO hn ha trivial))⟩;rw [<-rk.len,sizeLine_eq];unfold zd_ at hl;omega
     .rw [if_neg hl] at p3;exact p3.elim
    | _=>simp only [eg] at p3;exact p3.elim
  | _=>exact False.elim p3
 | _=>exact False.elim p3
theorem dK_{as bs:List Stmt}{as' bs':List S}(hc:PT X c (tT X.K W (r.ts c')))(ha:PSs X as (tSt X.K W (r.ex as')))(hb:PSs X bs (tSt X.K W (r.ex bs'))):PS X (.If c as bs pos) (tSt X.K W (s1F r (.ife c' as' bs'))):=by
 refine (dA_ hc ha hb).imp λD σ H ⟨σu,ρ,g,hs,hg,p⟩ => ?_;refine ⟨σu,ρ,g,hs,hg,(postS.bind (R:=REq) p).mono λk H1 ⟨ρ1,k',g1,s1,h1,e1,p1⟩ => ?_⟩;subst e1;cases k' with
 | true=>exact nj_ ⟨σu,ρ1,g1,hs.step s1,h1,p1⟩
 | false=>exact nF_ ⟨σu,ρ1,g1,hs.step s1,h1,p1⟩
theorem jG_{o:Out Fl}{k:Su->G->Out Fl}{ρ:List Addr}{H:Hp}{D:Ends}{N:L2.St->Hp->Prop}
  (p:postS X.K W (o.bind λf g=>match f with | .nx σ'=>k σ' g | .ct σ'=>k σ' g | .bk σ' => .ok (.nx σ') g | .rt u => .ok (.rt u) g) ρ H D)
  (hN:∀ σ1 g1 σ ρ' H',Stp X.K ρ H ρ' H'->RH X.K ρ' H' g1->RS X.K ρ' H' σ1 σ->postS X.K W (k σ1 g1) ρ' H' D->N σ H'):postS X.K W o ρ H { D with nx:=N,ct:=N,bk:=D.nx }:=by
 cases o with
 | ok f g =>
  cases f with
  | nx σ1=>exact λσ ρ' H' s h hs=>hN σ1 g σ ρ' H' s h hs (postS.from (o:=k σ1 g) p s)
  | ct σ1=>exact λσ ρ' H' s h hs=>hN σ1 g σ ρ' H' s h hs (postS.from (o:=k σ1 g) p s)
  | bk σ1=>exact p
  | rt u=>exact p
 | exc c fs g=>exact p
 | bad=>exact p
theorem fo_{bs:List Stmt}{bs':List S}{n:Nat}(hp:PassesOwn (model X.prog X.w) X.A X.env X.xe)(hc:∀ n,PT X c (tT X.K W ((lev C n).ts c')))(hb:∀ n,PSs X bs (tSt X.K W ((lev C n).ex bs'))):
  PS X (.While c bs [] pos) (tSt X.K W (s1F (lev C n) (.whl c' bs'))):=by
 intro pins s σ H D I hw;have key:∀ m σ H,(∃ σu ρ g,RS X.K ρ H σu σ/\RH X.K ρ H g/\postS X.K W ((lev C m).wh c' bs' σu g) ρ H D) -> ∃ m',m=m'+1:=λm σ H ⟨σu,ρ,g,_,_,p⟩=>by
  cases m with
  | zero=>exact p.elim
  | succ m'=>exact ⟨m',rfl⟩
 refine wpAny_While (codeAny_whileLoop (λn s' => ∃ σ' H',L2.Inv X pins σ' H' s' /\ ∃ σu ρ g,RS X.K ρ H' σu σ'/\RH X.K ρ H' g/\postS X.K W ((lev C n).wh c' bs' σu g) ρ H' D) ?_ n ⟨σ,H,I,hw⟩);rintro n s1 ⟨σ1,H1,I1,w1⟩;obtain ⟨m,rfl⟩:=key n σ1 H1 w1;obtain ⟨σu,ρ,g,hs,hg,p⟩:=w1;refine wpAny_passesOwn hp (thn (hc m pins s1 σ1 H1 (λb H2=>if b=true then tSt X.K W ((lev C m).ex bs') { D with nx:=λσ' H' => ∃ σu ρ g,RS X.K ρ H' σu σ'/\RH X.K ρ H' g/\postS X.K W ((lev C m).wh c' bs' σu g) ρ H' D,ct:=λσ' H' => ∃ σu ρ g,RS X.K ρ H' σu σ'/\RH X.K ρ H' g/\postS X.K W ((lev C m).wh c' bs' σu g) ρ H' D,bk:=D.nx } σ1 H2 else D.nx σ1 H2) I1 ?_) λb s2 ⟨H2,I2,q2⟩ => ?_)
 .refine ⟨σu,ρ,g,hs,hg,(postS.bind (R:=REq) p).mono λk H1 ⟨ρ1,k',g1,s1,h1,e1,p1⟩ => ?_⟩
  subst e1;cases k' with
  | true=>exact nj_ ⟨σu,ρ1,g1,hs.step s1,h1,jG_ (k:=λσ' g=>(lev C m).wh c' bs' σ' g) p1 λσ2 g2 σ ρ' H' s2 h2 hs2 p2=>⟨σ2,ρ',g2,hs2,h2,p2⟩⟩
  | false=>exact nF_ (p1 _ ρ1 _ .refl h1 (hs.step s1))
 .cases b with
  | true =>
   rw [if_pos rfl] at q2;rw [if_pos rfl];refine wpAny_passesOwn hp (thn (hb m pins s2 σ1 H2 _ I2 q2) λf s3 q3 => ?_);cases f with
   | next =>
    obtain ⟨σ3,H3,I3,n3⟩:=q3;exact ⟨m,Nat.lt_succ_self _,σ3,H3,I3,n3⟩
   | cont =>
    obtain ⟨σ3,H3,I3,n3⟩:=q3;exact ⟨m,Nat.lt_succ_self _,σ3,H3,I3,n3⟩
   | brk=>exact q3
   | ret v=>exact q3
  | false =>
   rw [if_neg Bool.false_ne_true] at q2;rw [if_neg Bool.false_ne_true];exact wpAny_execs_nil ⟨σ1,H2,I2,q2⟩
end
section
variable{K:PySem.W.Frag}{ρ ρ0:List Addr}{H H0:Hp}{g:G}{D:Addr}{o1 o2:HO}
theorem Stp.accum(s:Stp K ρ0 H0 ρ H)(h0:H0 D=none)(hD:H D=some o1)(hm:pX_ o1):Stp K ρ0 H0 ρ (upd H D o2) where
 ext:=s.ext
 new:=s.new
 oth:=λa o h hn=>by rw [zg_ (zt_ h h0)];exact s.oth a o h hn
 live:=λa h=>by
  by_cases e:a=D
  .subst e;rw [upd_same];simp
  .rw [zg_ e];exact s.live a h
 tup:=λa xs h=>z0_ (s.tup a xs h) (.inr ⟨_,hD,hm⟩)
 fro:=λa xs h=>zZ_ (s.fro a xs h) (.inr ⟨_,hD,hm⟩)
 frz:=λa ob u h=>by rw [zg_ (s0_ (s.frz a ob u h) hD (by rintro rfl;exact hm))];exact s.frz a ob u h
theorem RV.accum(hD:H D=some o1)(hm:pX_ o1){u:U}{v:V}(h:RV K ρ H u v):RV K ρ (upd H D o2) u v:=RV.mono (λ_ _ e=>e) (λ_ _ h=>z0_ h (.inr ⟨_,hD,hm⟩)) (λ_ _ h=>zZ_ h (.inr ⟨_,hD,hm⟩)) u v h
theorem RVs.accum(hD:H D=some o1)(hm:pX_ o1){u:List U}{v:List V}(h:RVs K ρ H u v):RVs K ρ (upd H D o2) u v:=RVs.mono (λ_ _ e=>e) (λ_ _ h=>z0_ h (.inr ⟨_,hD,hm⟩)) (λ_ _ h=>zZ_ h (.inr ⟨_,hD,hm⟩)) u v h
theorem RH.accum(h:RH K ρ H g)(hD:H D=some o1)(hm:pX_ o1)(hn:D ∉ ρ):RH K ρ (upd H D o2) g where
 len:=h.len
 inj:=h.inj
 obj:=λn a o h1 h2=>by
  have q:=h.obj n a o h1 h2;have ne:a≠D:=λe=>hn (e ▸ List.mem_iff_getElem?.mpr ⟨n,h1⟩);obtain ⟨ho,e,r⟩:=q;exact ⟨ho,by rw [zg_ ne];exact e,r.mono (λ_ _ e=>e) (λ_ _ h=>z0_ h (.inr ⟨_,hD,hm⟩)) (λ_ _ h=>zZ_ h (.inr ⟨_,hD,hm⟩))⟩
theorem RH.named{ob:O}(h:RH K ρ H g)(hD:H D=some o1)(hn:D ∉ ρ)(r:RHO K ρ H ob o1):RH K (ρ++[D]) H (g++[ob]):=by
 have up:∀ (n:Nat) (a:Addr),ρ[n]? = some a->(ρ++[D])[n]? = some a:=λn a e=>by rw [List.getElem?_append_left (List.getElem?_eq_some_iff.mp e).1];exact e
 have key:∀ k b,(ρ++[D])[k]? = some b->(k < ρ.length/\ρ[k]? = some b)\/(k=ρ.length/\b=D):=λk b e=>by
  by_cases hk:k < ρ.length
  .rw [List.getElem?_append_left hk] at e;exact .inl ⟨hk,e⟩
  .rw [List.getElem?_append_right (by omega)] at e
   cases hd:k - ρ.length with
   | zero=>rw [hd] at e;exact .inr ⟨by omega,by simpa using e.symm⟩
   | succ m=>rw [hd] at e;simp at e
 have noD:∀ k:Nat,ρ[k]? ≠ some D:=λk e=>hn (List.mem_iff_getElem?.mpr ⟨k,e⟩);refine ⟨by simp [h.len],λi j a h1 h2 => ?_,λn a o h1 h2 => ?_⟩
 .rcases key i a h1 with ⟨_,e1⟩ | ⟨e1,e1'⟩
  .rcases key j a h2 with ⟨_,e2⟩ | ⟨e2,e2'⟩
   .exact h.inj i j a e1 e2
   .subst e2';exact absurd e1 (noD i)
  .rcases key j a h2 with ⟨_,e2⟩ | ⟨e2,e2'⟩
   .subst e1';exact absurd e2 (noD j)
   .omega
 .rcases key n a h1 with ⟨hl,e1⟩ | ⟨e1,e1'⟩
  .rw [List.getElem?_append_left (by rw [<-h.len];exact hl)] at h2
   have q:=h.obj n a o e1 h2;obtain ⟨ho,e,r'⟩:=q;exact ⟨ho,e,r'.mono up (λ_ _ h=>h) (λ_ _ h=>h)⟩
  .subst e1'
   rw [List.getElem?_append_right (by rw [<-h.len];omega),<-h.len,e1] at h2
   have e2:o=ob:=by simpa using h2.symm
   subst e2;exact ⟨_,hD,r.mono up (λ_ _ h=>h) (λ_ _ h=>h)⟩
theorem Stp.named(s:Stp K ρ0 H0 ρ H)(h0:H0 D=none):Stp K ρ0 H0 (ρ++[D]) H where
 ext:=λn a h=>by have:=s.ext n a h;rw [List.getElem?_append_left (List.getElem?_eq_some_iff.mp this).1];exact this
 new:=λn a h=>by
  by_cases hk:n < ρ.length
  .rw [List.getElem?_append_left hk] at h;exact s.new n a h
  .rw [List.getElem?_append_right (by omega)] at h
   cases hd:n - ρ.length with
   | zero =>
    rw [hd] at h;have e:a=D:=by simpa using h.symm
    subst e;exact .inr h0
   | succ m=>rw [hd] at h;simp at h
 oth:=s.oth
 live:=s.live
 tup:=s.tup
 fro:=s.fro
 frz:=s.frz
theorem xy_{ρ':List Addr}{H':Hp}(s:Stp K ρ H ρ' H')(hn:D ∉ ρ)(hD:H D=some o1):D ∉ ρ':=λhm=>by
 obtain ⟨n,e⟩:=List.mem_iff_getElem?.mp hm;rcases s.new n D e with q | q
 .exact hn (List.mem_iff_getElem?.mpr ⟨n,q⟩)
 .rw [hD] at q;cases q
theorem RS.unbind{t:Tg}{u:U}{σu σ1:Su}{σ:L2.St}(hf:yN_ t σu=true)(hb:zw_ t u σu=some σ1)(h:RS K ρ H σ1 σ):RS K ρ H σu σ:=by
 have one:∀ (i:Nat) (w:U) (τ:Su),(match τ[i]? with | some none=>true | _=>false)=true -> ∀ (j:Nat) (z:U),τ[j]? = some (some z)->(τ.set i (some w))[j]? = some (some z):=λi w τ hi j z e=>by
  by_cases hj:j=i
  .subst hj;rw [e] at hi;cases hi
  .rw [List.getElem?_set_ne (Ne.symm hj)];exact e
 cases t with
 | nm i =>
  simp only [zw_] at hb;split at hb
  .cases hb
   exact ⟨by have:=h.len;simpa using this,λj z e=>h.val j z (one i u σu hf j z e)⟩
  .cases hb
 | tp is =>
  cases u with
  | tup us =>
   have hb':bindL is us σu=some σ1:=hb;have all:∀ (is:List Nat) (us:List U) (τ τ1:Su),(∀ i∈is,∀ z,σu[i]? ≠ some (some z))->(∀ (j:Nat) (z:U),σu[j]? = some (some z)->τ[j]? = some (some z))->bindL is us τ=some τ1->τ1.length=τ.length /\ ∀ (j:Nat) (z:U),σu[j]? = some (some z)->τ1[j]? = some (some z):=λis=>by
    induction is with
    | nil =>
     intro us τ τ1 _ hτ e;cases us with
     | nil=>cases e;exact ⟨rfl,hτ⟩
     | cons _ _=>cases e
    | cons i is ih =>
     intro us τ τ1 hi hτ e;cases us with
     | nil=>cases e
     | cons w us =>
      simp only [bindL] at e;split at e
      .obtain ⟨h1,h2⟩:=ih us _ τ1 (λk hk=>hi k (List.mem_cons_of_mem _ hk)) (λj z ej=>by
        have hj:j≠i:=λq=>hi i List.mem_cons_self z (q ▸ ej);rw [List.getElem?_set_ne (Ne.symm hj)];exact hτ j z ej) e
       exact ⟨by rw [h1];simp,h2⟩
      .cases e
   have hi:∀ i∈is,∀ z,σu[i]? ≠ some (some z):=λi hm z e=>by
    have:=List.all_eq_true.mp hf i hm;rw [e] at this;cases this
   obtain ⟨h1,h2⟩:=all is us σu σ1 hi (λ_ _ e=>e) hb';exact ⟨by rw [<-h1];exact h.len,λj z e=>h.val j z (h2 j z e)⟩
  | _=>simp [zw_] at hb
theorem x9_{α β:Type}{o:Out α}{k:α->G->Out β}{b:β}{g':G}(h:o.bindB k=.ok b g'):∃ a g1,o=.ok a g1/\k a g1=.ok b g':=by
 cases o with
 | ok a g1=>exact ⟨a,g1,rfl,h⟩
 | exc _ _ _=>cases h
 | bad=>cases h
end
section
variable{X:Cx}{C:Nat->List U->G->Out U}
noncomputable abbrev ifsT(ifs:List Expr)(env:Env):Sem Bool:=forIn ifs true λc r=>if r=true then do let ok <- isTrue c env (eval c env);pure (ForInStep.yield ok) else pure (ForInStep.yield r)
theorem uL_{env:Env}{M:Model}{A:Around}{E:Value->Shared->Prop}{Q:Bool->Shared->Prop}{s:Shared}(h:Q false s):∀ ifs:List Expr,wpAny M A (forIn ifs false λc r=>if r=true then do let ok <- isTrue c env (eval c env);pure (ForInStep.yield ok) else pure (ForInStep.yield r)) Q E s
 | []=>ZP h
 | c :: cs=>by
  simp only [List.forIn_cons,Bool.false_eq_true,if_false];exact ZB (ZP (uL_ h cs))
noncomputable def PTs(X:Cx)(ifs:List Expr)(f:Su->G->Out Bool):Prop :=
 ∀ (pins:List (Addr×Obj)) (s:Shared) (σ:L2.St) (H:Hp) (Q:Bool->Hp->Prop),L2.Inv X pins σ H s->tT X.K W0' f σ H Q->wpAny (model X.prog X.w) X.A (ifsT ifs X.env) (TP X pins σ Q) X.xe s
where W0':XQ:=λ_ _ _=>False
theorem lI_{r:L}:PTs X [] (wY_ r.ts []):=λpins s σ H Q I ⟨σu,ρ,g,hs,hg,p⟩=>ZP ⟨H,I,post.okHere (R:=REq) p hg rfl⟩
theorem pI_{r:L}{c:Expr}{c':E}{cs:List Expr}{cs':List E}(hc:PT X c (tT X.K PTs.W0' (r.ts c')))(hcs:PTs X cs (wY_ r.ts cs')):PTs X (c :: cs) (wY_ r.ts (c' :: cs')):=by
 intro pins s σ H Q I ⟨σu,ρ,g,hs,hg,p⟩;unfold ifsT;simp only [List.forIn_cons,if_true];refine ZB (ZB (thn (hc pins s σ H (λk H1=>if k=true then tT X.K PTs.W0' (wY_ r.ts cs') σ H1 Q else Q false H1) I ⟨σu,ρ,g,hs,hg,(post.bind (R:=REq) p).mono λk H1 ⟨ρ1,k',g1,s1,h1,e1,p1⟩ => ?_⟩) λk s1 ⟨H1,I1,q1⟩ => ?_))
 .subst e1
  cases k' with
  | true=>exact nj_ ⟨σu,ρ1,g1,hs.step s1,h1,p1⟩
  | false=>exact nF_ (post.okHere (R:=REq) p1 h1 rfl)
 .cases k with
  | true=>rw [if_pos rfl] at q1;exact ZP (hcs pins s1 σ H1 Q I1 q1)
  | false=>rw [if_neg Bool.false_ne_true] at q1;exact ZP (uL_ ⟨H1,I1,q1⟩ cs)
structure Mon(K:PySem.W.Frag)(ρ:List Addr)(H:Hp)(ρ':List Addr)(H':Hp):Prop where
 ext:∀ (n:Nat) (a:Addr),ρ[n]? = some a->ρ'[n]? = some a
 tup:∀ a xs,SqU K H a xs->SqU K H' a xs
 fro:∀ a xs,SqF K H a xs->SqF K H' a xs
 frz:∀ a o u,H a=some (.frz o u)->H' a=some (.frz o u)
theorem Stp.mon{K:PySem.W.Frag}{ρ ρ':List Addr}{H H':Hp}(s:Stp K ρ H ρ' H'):Mon K ρ H ρ' H':=⟨s.ext,s.tup,s.fro,s.frz⟩
theorem Mon.trans{K:PySem.W.Frag}{ρ ρ' ρ'':List Addr}{H H' H'':Hp}(a:Mon K ρ H ρ' H')(b:Mon K ρ' H' ρ'' H''):Mon K ρ H ρ'' H'':=⟨λn x h=>b.ext n x (a.ext n x h),λx xs h=>b.tup x xs (a.tup x xs h),λx xs h=>b.fro x xs (a.fro x xs h),λx o u h=>b.frz x o u (a.frz x o u h)⟩
theorem RI.mon{K:PySem.W.Frag}{ρ ρ':List Addr}{H H':Hp}{i:Iter}{J:It}(s:Mon K ρ H ρ' H')(h:RI K ρ H i J):RI K ρ' H' i J:=by
 cases i with
 | lst n=>obtain ⟨a,h1,h2⟩:=h;exact ⟨a,s.ext _ _ h1,h2⟩
 | dic n=>obtain ⟨a,o,ws,h1,h2,h3⟩:=h;exact ⟨a,o,ws,s.ext _ _ h1,s.frz _ _ _ h2,h3⟩
 | enm n=>obtain ⟨a,h1,h2⟩:=h;exact ⟨a,s.ext _ _ h1,h2⟩
 | seq us=>obtain ⟨a,vs,h1,h2,h3⟩:=h;exact ⟨a,vs,h1.imp_left (s.tup _ _),RVs.mono s.ext s.tup s.fro _ _ h2,h3⟩
 | rng lo n=>exact h
noncomputable def xa_(X:Cx)(C:Nat->List U->G->Out U):List Comprehension->List (Tg×E×List E)->Prop
 | [],[]=>True
 | g :: r,(t,it',cs) :: r'=>g.is_async=0/\PG X g.target (tG X.K t)/\(∀ n,PTs X g.ifs (wY_ (lev C n).ts cs))/\(∀ n,PI X g.target g.iter (tI X.K PTs.W0' (itF (lev C n) it')))/\(∀ x,foldedSetIterable g.iter X.env x=pure x)/\xa_ X C r r'
 | _,_=>False
inductive CK where | lst (elt:Expr) | dic (k v:Expr)
noncomputable def CK.exp(c:CK)(gens:List Comprehension)(scope:Scope)(pos:Pos):Expr:=match c with
 | .lst elt => .ListComp elt gens scope pos
 | .dic k v => .DictComp k v gens scope pos
noncomputable def CK.emit(c:CK)(acc:Value)(env:Env):Sem Unit:=match c with
 | .lst elt=>(do let _ <- call (.builtin "list.append") [acc,<-eval elt env])
 | .dic k v=>(do
   let kv <- eval k env
   let vv <- holding [kv] (eval v env)
   match acc with
   | .ref d=>do
    standAt { k.pos with endLine:=v.pos.endLine,endCol:=v.pos.endCol }
    holding [kv,vv] (dictSet d kv vv)
   | _=>unsupported "internal:dictcomp")
noncomputable def CK.new(c:CK):Sem Value:=match c with
 | .lst _=>newList []
 | .dic _ _=>newDict
noncomputable def CK.obj(c:CK):Obj:=match c with
 | .lst _=>{ cls := .type "list",dict:=none,data := .seq ([]:List Value).toArray }
 | .dic _ _=>{ cls := .type "dict",data := .dict #[] }
noncomputable def CK.ini(c:CK):HO:=match c with
 | .lst _ => .lst []
 | .dic _ _ => .dT []
noncomputable def CK.ho(K:PySem.W.Frag)(ρ:List Addr)(H:Hp)(c:CK)(acc:List U)(o:HO):Prop:=match c with
 | .lst _ => ∃ vs,o=.lst vs/\RVs K ρ H acc vs
 | .dic _ _ => ∃ kvs ws,o=.dT ws/\dfold acc []=some kvs/\RD K ρ H kvs ws
theorem CK.ho.mut{K:PySem.W.Frag}{ρ:List Addr}{H:Hp}{c:CK}{acc:List U}{o:HO}(h:CK.ho K ρ H c acc o):pX_ o:=by
 cases c with
 | lst e=>obtain ⟨vs,rfl,_⟩:=h;trivial
 | dic k v=>obtain ⟨_,ws,rfl,_⟩:=h;trivial
theorem CK.ho.mono{K:PySem.W.Frag}{ρ ρ':List Addr}{H H':Hp}{c:CK}{acc:List U}{o:HO}(h:CK.ho K ρ H c acc o)(he:∀ (n:Nat) (a:Addr),ρ[n]? = some a->ρ'[n]? = some a)(ht:∀ a xs,SqU K H a xs->SqU K H' a xs)(hf:∀ a xs,SqF K H a xs->SqF K H' a xs):CK.ho K ρ' H' c acc o:=by
 cases c with
 | lst e=>obtain ⟨vs,e,r⟩:=h;exact ⟨vs,e,RVs.mono he ht hf _ _ r⟩
 | dic k v=>obtain ⟨kvs,ws,e,d,r⟩:=h;exact ⟨kvs,ws,e,d,RD.mono he ht hf _ _ r⟩
theorem CK.ho.step{K:PySem.W.Frag}{ρ ρ':List Addr}{H H':Hp}{c:CK}{acc:List U}{o:HO}(s:Stp K ρ H ρ' H')(h:CK.ho K ρ H c acc o):CK.ho K ρ' H' c acc o:=h.mono s.ext s.tup s.fro
theorem CK.ho0{K:PySem.W.Frag}{ρ:List Addr}{H:Hp}{c:CK}:CK.ho K ρ H c [] c.ini:=by
 cases c with
 | lst e=>exact ⟨[],rfl,rfl⟩
 | dic k v=>exact ⟨[],[],rfl,rfl,rfl⟩
theorem CK.new_wp{M:Model}{A:Around}{E:Value->Shared->Prop}{s:Shared}{Q:Value->Shared->Prop}{c:CK}(h:Q (.ref s.heap.objs.size) { s with heap:=s.heap.push c.obj }):wpAny M A c.new Q E s:=by
 cases c with
 | lst e=>exact wpAny_newObj_type h
 | dic k v=>exact wpAny_newObj_type h
theorem CK.ini_ok{P:Program}{w:World}{H:Hp}(c:CK)(h:Heap)(hb:sysModules < h.objs.size):ObjOk P w H (h.push c.obj) h.objs.size c.ini:=by
 cases c with
 | lst e=>exact ⟨Nat.zero_le _,[],0,.nil,Heap.get?_push_size _ rfl⟩
 | dic k v=>exact sl_ h hb
noncomputable def RR(X:Cx)(c:CK)(D:Addr)(pins:List (Addr×Obj))(ρ0:List Addr)(H0:Hp)(ρs:List Addr)(Hs:Hp)(σu:Su)(us:List U)(g':G)(r:Result)(s':Shared):Prop :=
 (∃ f,r=.ok f) /\ ∃ σ' H' ρ' vs',L2.Inv X pins σ' H' s'/\Stp X.K ρ0 H0 ρ' H'/\RH X.K ρ' H' g'/\RS X.K ρ' H' σu σ'/\H' D=some vs'/\D ∉ ρ'/\CK.ho X.K ρ' H' c us vs'/\Mon X.K ρs Hs ρ' H'
theorem te_{c:CK}{gens:List Comprehension}{scope:Scope}{pos:Pos}{k:Nat}{g:Comprehension}{it acc:Value}{env:Env}(hk:gens[k]? = some g)(ha:g.is_async=0):
  compTurn (c.exp gens scope pos) k it acc env=(do
   standAt g.iter.pos
   match <- pyNext it with
   | none=>pure (.done .next)
   | some v =>
    letOwnedTupleGo g.target it v
    assign g.target env v
    let ok <- ifsT g.ifs env
    if ok then
     match gens[k+1]? with
     | some g' =>
      let x <- eval g'.iter env
      standAt g'.iter.pos
      let x <- if g'.is_async != 0 then foldedIterable g'.iter x else foldedSetIterable g'.iter env x
      let _ <- runOwn (.compStart (c.exp gens scope pos) (k+1) (<- holding [x] (if g'.is_async != 0 then asyncIter x else pyIter x)) acc env) env
     | none=>c.emit acc env
    again (.compLoop (c.exp gens scope pos) k it acc env)):=by
 cases c with
 | lst elt=>unfold compTurn;simp only [CK.exp,hk,ha];rfl
 | dic kx vx=>unfold compTurn;simp only [CK.exp,hk,ha];rfl
end
section
variable{prog:Program}{w:World}{A:Around}{R:Result->Shared->Prop}{s:Shared}
theorem x0_{c:CK}{gens:List Comprehension}{scope:Scope}{pos:Pos}{k:Nat}{g:Comprehension}{it acc:Value}{env:Env}(hk:gens[k]? = some g)(ha:g.is_async=0)
  (h0:codeAny (model prog w) A (.compLoop (c.exp gens scope pos) k it acc env) R s)
  (h:wpAny (model prog w) A (pyIter it) (λit' s'=>codeAny (model prog w) A (.compLoop (c.exp gens scope pos) k it' acc env) R s')
   (notedBy (model prog w) A env λx s'=>R (.error x) s') s) :
  codeAny (model prog w) A (.compStart (c.exp gens scope pos) k it acc env) R s:=by
 refine codeAny_of_tree ?_;have key:(model prog w).den (.compStart (c.exp gens scope pos) k it acc env)=(compStart (c.exp gens scope pos) k it acc env).onRaise (λx=>do noteFrame x env;standAt theWindowsPlace):=by cases c <;> rfl
 have ku:A.under (.compStart (c.exp gens scope pos) k it acc env)=A:=by cases c <;> rfl
 rw [key,ku];refine wpAny_notedAt ?_;unfold compStart;have hc:(clausesOf (c.exp gens scope pos))[k]? = some g:=by cases c <;> exact hk
 simp only [hc,ha,Option.elim];show wpAny _ _ (ask >>= _) _ _ s;refine ZB (wpAny_askSetting (wpAny_ite ?_));split
 .first
   | exact ZB (ZP (ZP (And.intro rfl h0)))
   | exact ZP (And.intro rfl h0)
 .first
   | exact ZB (wpAny_rule (ZB (wpAny_standAt (ZB (wpAny_mono h (λit' s' h'=>ZP (And.intro rfl h')) λ_ _ x=>x)))))
   | (refine ZB (wpAny_rule ?_);show wpAny _ _ (standAt g.iter.pos >>= _) _ _ s;exact ZB (wpAny_standAt (ZB (wpAny_mono h (λit' s' h'=>ZP (And.intro rfl h')) λ_ _ x=>x))))
end
section
variable{X:Cx}{C:Nat->List U->G->Out U}
theorem noE{α:Type}{t:Sem α}{Q:α->Shared->Prop}{E:Value->Shared->Prop}{s:Shared}(hxe:X.xe=λ_ _=>False)(h:wpAny (model X.prog X.w) X.A t Q X.xe s):wpAny (model X.prog X.w) X.A t Q E s :=
 wpAny_mono h (λ_ _ q=>q) λe s' z=>by rw [hxe] at z;exact z.elim
noncomputable def sb_(X:Cx)(C:Nat->List U->G->Out U)(c:CK)(elt':E):Prop :=
 ∀ (n:Nat) (pins:List (Addr×Obj)) (s:Shared) (σ1:Su) (σ:L2.St) (H:Hp) (ρ:List Addr) (g1:G) (acc:List U) (o:HO) (v:U) (g2:G) (D:Addr),(lev C n).ev elt' σ1 g1=.ok v g2->acc.length < zd_->L2.Inv X pins σ H s->RS X.K ρ H σ1 σ->RH X.K ρ H g1->H D=some o->D ∉ ρ->CK.ho X.K ρ H c acc o ->
  wpAny (model X.prog X.w) X.A (c.emit (.ref D) X.env) (λ_ s2 => ∃ ρ1 H1 o2,L2.Inv X pins σ (upd H1 D o2) s2/\Stp X.K ρ H ρ1 H1/\RH X.K ρ1 H1 g2/\H1 D=some o/\CK.ho X.K ρ1 (upd H1 D o2) c (acc++[v]) o2) X.xe s
theorem si_{elt:Expr}{elt':E}(helt:∀ n,PE X elt (tE X.K PTs.W0' ((lev C n).ev elt'))):sb_ X C (.lst elt) elt':=by
 intro n pins s σ1 σ H ρ g1 acc o v g2 D e1 hl I hs hg hD hn ⟨vs,eo,rv⟩;subst eo;refine ZB (thn (helt n pins s σ H (λx H1 => ∃ ρ1,Stp X.K ρ H ρ1 H1/\RH X.K ρ1 H1 g2/\RV X.K ρ1 H1 v x) I ⟨σ1,ρ,g1,hs,hg,by rw [e1];exact λv ρ1 H1 s1 h1 r1=>⟨ρ1,s1,h1,r1⟩⟩) λu s1 ⟨x,H1,I1,r1,ρ1,sp1,hg1,rx⟩ => ?_)
 have hD1:H1 D=some (.lst vs):=sp1.oth D _ hD hn;refine ZB (thn (ug_ pins s1 σ H1 (.ref D) [x] (.ref D) [u] (λ_ H2=>H2=upd H1 D (.lst (vs++[x]))) I1 rfl (.cons r1 .nil) ⟨D,vs,x,rfl,rfl,hD1,by rw [<-rv.length,sizeLine_eq];unfold zd_ at hl;omega,rfl⟩) λu2 s2 ⟨x2,H2,I2,r2,eh⟩ => ?_)
 subst eh;exact ZP ⟨ρ1,H1,_,I2,sp1,hg1,hD1,_,rfl,((RVs.step sp1 _ _ rv).append (.one rx)).accum hD1 trivial⟩
theorem un_:∀ {xs ys:List U} {k0 kvs:List (List Int×U)},dfold xs k0=some kvs->dfold (xs++ys) k0=dfold ys kvs
 | [],_,_,_,e=>by cases e;rfl
 | x :: xs,ys,k0,kvs,e=>by
  simp only [List.cons_append,dfold] at e ⊢;obtain ⟨k1,h1,h2⟩:=Option.bind_eq_some_iff.mp e;rw [h1];exact un_ h2
theorem oo_{kvs:List (List Int×U)}{k:List Int}{u:U}:(dput kvs k u).length<=kvs.length+1:=by
 unfold dput;split <;> simp
theorem rv_{kvs k1:List (List Int×U)}{x:U}(e:su_ kvs x=some k1):k1.length<=kvs.length+1:=by
 unfold su_ at e;split at e
 .obtain ⟨ks,_,rfl⟩:=Option.map_eq_some_iff.mp e;exact oo_
 .cases e
theorem uD_:∀ {xs:List U} {k0 kvs:List (List Int×U)},dfold xs k0=some kvs->kvs.length<=k0.length+xs.length
 | [],_,_,e=>by cases e;simp
 | x :: xs,k0,kvs,e=>by
  simp only [dfold] at e;obtain ⟨k1,h1,h2⟩:=Option.bind_eq_some_iff.mp e;have:=rv_ h1;have:=uD_ h2;simp only [List.length_cons];omega
theorem p0_{kx vx:Expr}{k' v':E}(hu:X.A.units+1 < cLine)(hk:∀ n,PE X kx (tE X.K PTs.W0' ((lev C n).ev k')))(hv:∀ n,PE X vx (tE X.K PTs.W0' ((lev C n).ev v'))):sb_ X C (.dic kx vx) (.pair k' v'):=by
 intro n pins s σ1 σ H ρ g1 acc o v g2 D e1 hl I hs hg hD hn ⟨kvs,ws,eo,ed,rd⟩;subst eo;cases n with
 | zero=>cases e1
 | succ n =>
  have e1':(((lev C n).ev k' σ1 g1).bind λx g=>((lev C n).ev v' σ1 g).bind λy g=>match keyOf x with | some _ => .ok (.tup [x,y]) g | none => .bad)=Out.ok v g2:=e1
  cases ek:(lev C n).ev k' σ1 g1 with
  | exc _ _ _=>rw [ek] at e1';cases e1'
  | bad=>rw [ek] at e1';cases e1'
  | ok ku ga =>
   rw [ek] at e1';cases ev:(lev C n).ev v' σ1 ga with
   | exc _ _ _=>simp only [Out.bind,ev] at e1';cases e1'
   | bad=>simp only [Out.bind,ev] at e1';cases e1'
   | ok vu gb =>
    simp only [Out.bind,ev] at e1';cases ekk:keyOf ku with
    | none=>rw [ekk] at e1';cases e1'
    | some kk =>
     rw [ekk] at e1';cases e1';refine ZB (thn (hk n pins s σ H (λx H1 => ∃ ρ1,Stp X.K ρ H ρ1 H1/\RH X.K ρ1 H1 ga/\RV X.K ρ1 H1 ku x) I ⟨σ1,ρ,g1,hs,hg,by rw [ek];exact λv ρ1 H1 s1 h1 r1=>⟨ρ1,s1,h1,r1⟩⟩) λu s1 ⟨x,H1,I1,r1,ρ1,sp1,hg1,rx⟩ => ?_)
     refine ZB (wpAny_holding (thn (hv n pins s1 σ H1 (λx H2 => ∃ ρ2,Stp X.K ρ1 H1 ρ2 H2/\RH X.K ρ2 H2 g2/\RV X.K ρ2 H2 vu x) I1 ⟨σ1,ρ1,ga,hs.step sp1,hg1,by rw [ev];exact λv ρ1 H1 s1 h1 r1=>⟨ρ1,s1,h1,r1⟩⟩) λw s2 ⟨y,H2,I2,r2,ρ2,sp2,hg2,ry⟩ => ?_))
     obtain ⟨b,rfl,hb⟩:=tG_ ekk (RV.step sp2 _ _ rx);obtain rfl:u=Value.ref b:=r1;have sp:=sp1.trans sp2;have hD2:H2 D=some (.dT ws):=sp.oth D _ hD hn;refine ZB (wpAny_standAt (wpAny_holding (dr_ hu I2 hD2 hb ?_ r2 λs3 I3=>⟨ρ2,H2,_,I3,sp,hg2,hD2,dput kvs kk vu,_,rfl,?_,?_⟩)))
     .have:=uD_ ed;rw [<-rd.len,sizeLine_eq];unfold zd_ at hl;simp at this;omega
     .rw [un_ ed];simp only [dfold,su_,ekk,Option.map_some,Option.bind_some]
     .exact RD.mono (λ_ _ e=>e) (λ_ _ h=>z0_ h (.inr ⟨_,hD2,trivial⟩)) (λ_ _ h=>zZ_ h (.inr ⟨_,hD2,trivial⟩)) _ _ ((rd.mono sp.ext sp.tup sp.fro).put ry)
noncomputable abbrev postC(c:Code)(R:Result->Shared->Prop)(N:Shared->Prop):PySem.Fin->Shared->Prop:=λfin s'=>match fin with | .done f=>R (.ok f) s' | .again c'=>c'=c/\N s'
theorem rJ_(hc:X.calm=true)(hxe:X.xe=λ_ _=>False){c:CK}{elt':E}{gens:List Comprehension}{scope:Scope}{pos:Pos}{D:Addr}{k:Nat}{gc:Comprehension}{t:Tg}{cs:List E}{rest':List (Tg×E×List E)}{ρ0 ρs:List Addr}{H0 Hs:Hp}
  {it:Addr} {fp:List Addr} {tn:Nat->Heap->Prop} {J:It} {itI:Iter} {pins:List (Addr×Obj)} {σu:Su} {us:List U} {g':G}
  (hk:gens[k]? = some gc) (ha:gc.is_async=0) (hg:PG X gc.target (tG X.K t)) (hts:∀ n,PTs X gc.ifs (wY_ (lev C n).ts cs)) (T:Turn X.prog X.w X.K gc.target J fp it tn) (hst:∀ b∈fp,∀ H':Hp,H' b=none->uK_ X pins H' b) (h0:H0 D=none)
  (inner:∀ (n:Nat) (pins':List (Addr×Obj)) (s:Shared) (σ1:Su) (σ:L2.St) (H:Hp) (ρ:List Addr) (g1:G) (acc:List U) (vs:HO) (i:Nat) (N:Shared->Prop) (E:Value->Shared->Prop),
   (match rest' with
    | []=>((lev C n).ev elt' σ1 g1).bindB λv g=>if acc.length < zd_ then (lev C n).cm itI (i+1) t cs rest' elt' (acc++[v]) σu g else .bad
    | (t2,it2,cs2) :: rest2=>(itF (lev C n) it2 σ1 g1).bindB λj g=>((lev C n).cm j 0 t2 cs2 rest2 elt' acc σ1 g).bindB λacc2 g=>(lev C n).cm itI (i+1) t cs rest' elt' acc2 σu g)=.ok us g' ->
   L2.Inv X pins' σ H s->RS X.K ρ H σ1 σ->RH X.K ρ H g1->Stp X.K ρ0 H0 ρ H->H D=some vs->D ∉ ρ->CK.ho X.K ρ H c acc vs ->
   (∀ s' σ' H' ρ' g2 acc2 vs2,(lev C n).cm itI (i+1) t cs rest' elt' acc2 σu g2=.ok us g'->L2.Inv X pins' σ' H' s'->RS X.K ρ' H' σ1 σ'->RH X.K ρ' H' g2->Stp X.K ρ0 H0 ρ' H'->Mon X.K ρ H ρ' H'->H' D=some vs2->D ∉ ρ'->CK.ho X.K ρ' H' c acc2 vs2->N s') ->
   wpAny (model X.prog X.w) X.A (match gens[k+1]? with
     | some g'=>(do
      let x <- eval g'.iter X.env
      standAt g'.iter.pos
      if (g'.is_async != 0)=true then do
        let x <- foldedIterable g'.iter x
        let y <- holding [x] (if (g'.is_async != 0)=true then asyncIter x else pyIter x)
        let _ <- runOwn (.compStart (c.exp gens scope pos) (k+1) y (.ref D) X.env) X.env
        again (.compLoop (c.exp gens scope pos) k (.ref it) (.ref D) X.env)
       else do
        let x <- foldedSetIterable g'.iter X.env x
        let y <- holding [x] (if (g'.is_async != 0)=true then asyncIter x else pyIter x)
        let _ <- runOwn (.compStart (c.exp gens scope pos) (k+1) y (.ref D) X.env) X.env
        again (.compLoop (c.exp gens scope pos) k (.ref it) (.ref D) X.env))
     | none=>(do
      c.emit (.ref D) X.env
      again (.compLoop (c.exp gens scope pos) k (.ref it) (.ref D) X.env))) (postC (.compLoop (c.exp gens scope pos) k (.ref it) (.ref D) X.env) (RR X c D pins ρ0 H0 ρs Hs σu us g') N) E s)
  (n:Nat) (s:Shared) (i:Nat) (acc:List U) (vs:HO) (σ:L2.St) (H:Hp) (ρ:List Addr) (g0:G) (eq:(lev C n).cm itI i t cs rest' elt' acc σu g0=.ok us g') (I:L2.Inv X pins σ H s) (st:tn i s.heap) (hf:∀ b∈fp,H b=none)
  (hs:RS X.K ρ H σu σ) (hgg:RH X.K ρ H g0) (ri:RI X.K ρ H itI J) (sp:Stp X.K ρ0 H0 ρ H) (hD:H D=some vs) (hn:D ∉ ρ) (rv:CK.ho X.K ρ H c acc vs) (mo:Mon X.K ρs Hs ρ H) :
  codeAny (model X.prog X.w) X.A (.compLoop (c.exp gens scope pos) k (.ref it) (.ref D) X.env) (RR X c D pins ρ0 H0 ρs Hs σu us g') s:=by
 refine codeAny_loop (by cases c <;> rfl) (λn s => ∃ i acc vs σ H ρ g0,(lev C n).cm itI i t cs rest' elt' acc σu g0=.ok us g'/\L2.Inv X pins σ H s/\tn i s.heap/\(∀ b∈fp,H b=none)/\RS X.K ρ H σu σ/\RH X.K ρ H g0/\RI X.K ρ H itI J/\Stp X.K ρ0 H0 ρ H/\H D=some vs/\D ∉ ρ/\CK.ho X.K ρ H c acc vs/\Mon X.K ρs Hs ρ H) ?_ n ⟨i,acc,vs,σ,H,ρ,g0,eq,I,st,hf,hs,hgg,ri,sp,hD,hn,rv,mo⟩
 clear eq I st hf hs hgg ri sp hD hn rv mo;rintro n s ⟨i,acc,vs,σ,H,ρ,g0,eq,I,st,hf,hs,hgg,ri,sp,hD,hn,rv,mo⟩;cases n with
 | zero=>cases eq
 | succ n =>
  have eq':cmF (lev C n) itI i t cs rest' elt' acc σu g0=.ok us g':=eq;clear eq;simp only [cmF] at eq';have key:(model X.prog X.w).den (.compLoop (c.exp gens scope pos) k (.ref it) (.ref D) X.env)=(compTurn (c.exp gens scope pos) k (.ref it) (.ref D) X.env).onRaise (λx=>do noteFrame x X.env;theTreesLotGoes x):=by cases c <;> rfl
  have ku:X.A.under (.compLoop (c.exp gens scope pos) k (.ref it) (.ref D) X.env)=X.A:=by cases c <;> rfl
  rw [key,ku];refine wpAny_noted ?_;rw [te_ hk ha];refine ZB (wpAny_standAt (ZB ?_));have stat:∀ {H':Hp},(∀ b∈fp,H' b=none) -> ∀ b∈fp,uK_ X pins H' b:=λh b hb=>hst b hb _ (h b hb);cases en:next itI i g0 with
  | none=>simp only [en] at eq';cases eq'
  | some o =>
   cases o with
   | none =>
    simp only [en] at eq';cases eq';refine thn (T.done X rfl rfl rfl hc i pins s σ H _ I (stat hf) st (r6_ hgg ri en)) λr s1 ⟨hr,I1⟩ => ?_;subst hr;exact ZP ⟨⟨_,rfl⟩,σ,H,ρ,vs,I1,sp,hgg,hs,hD,hn,rv,mo⟩
   | some u =>
    simp only [en] at eq';obtain ⟨go,yl⟩:=fc_ hgg ri en;refine thn (T.item X rfl rfl rfl hc i pins s σ H _ I (stat hf) st go) λr s1 ⟨u',hr,h4⟩ => ?_;subst hr;refine ZB (thn h4 λ_ s5 ⟨x,H5,I5,r5,y5,st5,fr5⟩ => ?_);obtain ⟨spy,hgg5,rx⟩:=yl x H5 y5;replace hs:=hs.step spy;replace hgg:=hgg5;replace ri:=ri.step spy;replace sp:=sp.trans spy;replace hD:=spy.oth D _ hD hn;replace rv:=rv.step spy;replace mo:=mo.trans spy.mon;have I5':=I5.pinned (stat fr5) (T.obj _ _ st5);split at eq'
    .rename_i hfree
     cases eb:zw_ t u σu with
     | none=>simp only [eb] at eq';cases eq'
     | some σ1 =>
      simp only [eb] at eq';obtain ⟨kk,g1,e1,e2⟩:=x9_ eq';refine ZB (noE hxe (thn (hg _ s5 σ H5 x u' (λσ' H'=>H'=H5/\RS X.K ρ H5 σ1 σ') I5' r5 ⟨σu,ρ,g0,u,σ1,hs,hgg,rx,uc_ eb,λσ' h=>⟨rfl,h⟩⟩) λ_ s6 ⟨σ6,H6,I6,eh,hs6⟩ => ?_));subst eh;refine ZB (noE hxe (thn (hts n _ s6 σ6 H6 (λk' H'=>k'=kk /\ ∃ ρ1,Stp X.K ρ H6 ρ1 H'/\RH X.K ρ1 H' g1) I6 ⟨σ1,ρ,g0,hs6,hgg,by rw [e1];exact λv ρ1 H1 s1 h1 e=>⟨e.symm,ρ1,s1,h1⟩⟩) λk' s7 ⟨H7,I7,ek,ρ1,sp1,hg1⟩ => ?_))
      subst ek;have back:∀ (s':Shared) (σ':L2.St) (H':Hp) (ρ':List Addr) (g2:G) (acc2:List U) (vs2:HO),(lev C n).cm itI (i+1) t cs rest' elt' acc2 σu g2=.ok us g'->L2.Inv X (pins++v5_ fp s5.heap) σ' H' s'->RS X.K ρ' H' σ1 σ'->RH X.K ρ' H' g2->Stp X.K ρ0 H0 ρ' H'->Mon X.K ρ1 H7 ρ' H'->H' D=some vs2->D ∉ ρ'->CK.ho X.K ρ' H' c acc2 vs2 ->
        ∃ m,m < n+1 /\ ∃ i acc vs σ H ρ g0,(lev C m).cm itI i t cs rest' elt' acc σu g0=.ok us g'/\L2.Inv X pins σ H s'/\tn i s'.heap/\(∀ b∈fp,H b=none)/\RS X.K ρ H σu σ/\RH X.K ρ H g0/\RI X.K ρ H itI J/\Stp X.K ρ0 H0 ρ H/\H D=some vs/\D ∉ ρ/\CK.ho X.K ρ H c acc vs/\Mon X.K ρs Hs ρ H:=λs' σ' H' ρ' g2 acc2 vs2 q1 q2 q3 q4 q5 q6 q7 q8 q9=>by
       refine ⟨n,Nat.lt_succ_self _,i+1,acc2,vs2,σ',H',ρ',g2,q1,q2.unpinned,T.keep _ _ _ st5 λb hb o e=>(q2.pin (b,o) (List.mem_append_right _ (List.mem_append_right _ (yM_ hb e)))).1,λb hb => ?_,RS.unbind hfree eb q3,q4,(ri.step sp1).mon q6,q5,q7,q8,q9,(mo.trans sp1.mon).trans q6⟩;obtain ⟨o,e,d⟩:=T.obj _ _ st5 b hb;exact (q2.pin (b,o) (List.mem_append_right _ (List.mem_append_right _ (yM_ hb e)))).2.1
      have hD7:H7 D=some vs:=sp1.oth D _ hD hn;have hn7:D ∉ ρ1:=xy_ sp1 hn hD;have rv7:=rv.step sp1;cases k' with
      | false =>
       simp only [Bool.false_eq_true,if_false] at e2 ⊢;exact ZP ⟨rfl,back s7 σ6 H7 ρ1 g1 acc vs e2 I7 (hs6.step sp1) hg1 (sp.trans sp1) ⟨λ_ _ h=>h,λ_ _ h=>h,λ_ _ h=>h,λ_ _ _ h=>h⟩ hD7 hn7 rv7⟩
      | true =>
       simp only [if_true] at e2 ⊢;exact inner n _ s7 σ1 σ6 H7 ρ1 g1 acc vs i _ _ e2 I7 (hs6.step sp1) hg1 (sp.trans sp1) hD7 hn7 rv7 back
    .cases eq'
theorem pk_(hc:X.calm=true)(hxe:X.xe=λ_ _=>False){c:CK}{elt':E}(hem:sb_ X C c elt'){gens:List Comprehension}{scope:Scope}{pos:Pos}{D:Addr}:
  ∀ (rest:List Comprehension) (rest':List (Tg×E×List E)) (k:Nat) (gc:Comprehension) (t:Tg) (cs:List E),gens[k]? = some gc->gens.drop (k+1)=rest->gc.is_async=0->PG X gc.target (tG X.K t) ->
   (∀ n,PTs X gc.ifs (wY_ (lev C n).ts cs))->xa_ X C rest rest' ->
   ∀ (n:Nat) (pins:List (Addr×Obj)) (s:Shared) (it:Addr) (fp:List Addr) (tn:Nat->Heap->Prop) (J:It) (itI:Iter) (i:Nat) (acc:List U) (vs:HO) (σu:Su) (σ:L2.St) (H:Hp) (ρ ρ0:List Addr) (H0:Hp) (g0:G) (us:List U) (g':G),
    Turn X.prog X.w X.K gc.target J fp it tn->(lev C n).cm itI i t cs rest' elt' acc σu g0=.ok us g'->L2.Inv X pins σ H s->tn i s.heap->(∀ b∈fp,uK_ X pins H b)->RS X.K ρ H σu σ->RH X.K ρ H g0->RI X.K ρ H itI J ->
    Stp X.K ρ0 H0 ρ H->H0 D=none->H D=some vs->D ∉ ρ->CK.ho X.K ρ H c acc vs ->
    codeAny (model X.prog X.w) X.A (.compLoop (c.exp gens scope pos) k (.ref it) (.ref D) X.env) (RR X c D pins ρ0 H0 ρ H σu us g') s:=by
 intro rest
 induction rest with
 | nil =>
  intro rest' k gc t cs hk hdrop ha hg hts hgo n pins s it fp tn J itI i acc vs σu σ H ρ ρ0 H0 g0 us g' T eq I st hf hs hgg ri sp h0 hD hn rv;have hk1:gens[k+1]? = none:=by
   have:=congrArg List.length hdrop;rw [List.length_drop] at this;exact List.getElem?_eq_none_iff.mpr (by simp at this;omega)
  cases rest' with
  | cons _ _=>exact False.elim hgo
  | nil =>
   refine rJ_ hc hxe hk ha hg hts T (λb hb H' h=>⟨h,(hf b hb).2⟩) h0 ?_ n s i acc vs σ H ρ g0 eq I st (λb hb=>(hf b hb).1) hs hgg ri sp hD hn rv ⟨λ_ _ h=>h,λ_ _ h=>h,λ_ _ h=>h,λ_ _ _ h=>h⟩;intro n pins' s σ1 σ H ρ g1 acc vs i N E eq I hs hg sp hD hn rv back;obtain ⟨v,g2,e1,e2⟩:=x9_ eq;rw [hk1];split at e2
   .rename_i hl
    refine ZB (noE hxe (thn (hem n pins' s σ1 σ H ρ g1 acc vs v g2 D e1 hl I hs hg hD hn rv) λ_ s2 ⟨ρ1,H1,o2,I2,sp1,hg1,hD1,rv2⟩ => ?_));have hn1:D ∉ ρ1:=xy_ sp1 hn hD;have hm:=rv.mut;refine ZP ⟨rfl,?_⟩;refine back s2 σ _ ρ1 g2 (acc++[v]) o2 e2 I2 ?_ (hg1.accum hD1 hm hn1) ((sp.trans sp1).accum h0 hD1 hm) (sp1.mon.trans ⟨λ_ _ h=>h,λ_ _ h=>z0_ h (.inr ⟨_,hD1,hm⟩),λ_ _ h=>zZ_ h (.inr ⟨_,hD1,hm⟩),λ_ _ _ h=>by rw [zg_ (s0_ h hD1 (by rintro rfl;exact hm))];exact h⟩) upd_same hn1 rv2
    exact ⟨hs.len,λj z e=>let ⟨w,w1,w2⟩:=(hs.step sp1).val j z e;⟨w,w1,w2.accum hD1 hm⟩⟩
   .cases e2
 | cons gn rest ih =>
  intro rest' k gc t cs hk hdrop ha hg hts hgo n pins s it fp tn J itI i acc vs σu σ H ρ ρ0 H0 g0 us g' T eq I st hf hs hgg ri sp h0 hD hn rv;have hk1:gens[k+1]? = some gn:=by
   have:=congrArg (λl=>l[0]?) hdrop;simpa [List.getElem?_drop] using this
  have hdrop2:gens.drop (k+1+1)=rest:=by
   rw [<-List.drop_drop,hdrop];rfl
  cases rest' with
  | nil=>exact False.elim hgo
  | cons q2 rest2 =>
   obtain ⟨t2,it2,cs2⟩:=q2;obtain ⟨a2,pg2,pts2,pi2,fold2,hgo2⟩:=hgo;refine rJ_ hc hxe hk ha hg hts T (λb hb H' h=>⟨h,(hf b hb).2⟩) h0 ?_ n s i acc vs σ H ρ g0 eq I st (λb hb=>(hf b hb).1) hs hgg ri sp hD hn rv ⟨λ_ _ h=>h,λ_ _ h=>h,λ_ _ h=>h,λ_ _ _ h=>h⟩;intro n pins' s σ1 σ H ρ g1 acc vs i N E eq I hs hg sp hD hn rv back;obtain ⟨j,g3,e1,e2⟩:=x9_ eq;obtain ⟨acc2,g4,e3,e4⟩:=x9_ e2;rw [hk1];refine ZB (noE hxe (thn (pi2 n pins' s σ H (λJ H1 => ∃ ρ1,Stp X.K ρ H ρ1 H1/\RH X.K ρ1 H1 g3/\RI X.K ρ1 H1 j J) I ⟨σ1,ρ,g1,hs,hg,by rw [e1];exact λv ρ1 H1 s1 h1 r1=>⟨ρ1,s1,h1,r1⟩⟩) λv s1 h1=>ZB (wpAny_standAt ?_)))
   rw [a2];rw [if_neg (by decide)]
   refine ZB (wpAny_of_eq (fold2 v) (ZB (wpAny_holding ?_)));rw [if_neg (by decide)]
   refine noE hxe (thn h1 λitv s2 h2 => ?_);obtain ⟨ita,fp2,tn2,J2,H2,e,I2,T2,st2,f2,ρ1,sp1,hg1,ri1⟩:=h2;subst e;have hD1:H2 D=some vs:=sp1.oth D _ hD hn;have hn1:D ∉ ρ1:=xy_ sp1 hn hD;have loop:=ih rest2 (k+1) gn t2 cs2 hk1 hdrop2 a2 pg2 pts2 hgo2 n pins' s2 ita fp2 tn2 J2 j 0 acc vs σ1 σ H2 ρ1 ρ0 H0 g3 acc2 g4 T2 e3 I2 st2 f2 (hs.step sp1) hg1 ri1 (sp.trans sp1) h0 hD1 hn1 (rv.step sp1);refine ZB (wpAny_runOwn (codeAny_mono (x0_ hk1 a2 loop (T2.self _ 0 s2 _ _ st2 loop)) λr s3 hr => ?_));obtain ⟨⟨f,rfl⟩,σ',H',ρ',vs',I3,sp3,hg3,hs3,hD3,hn3,rv3,mo3⟩:=hr;exact ZP ⟨rfl,back s3 σ' H' ρ' g4 acc2 vs' e4 I3 hs3 hg3 sp3 (sp1.mon.trans mo3) hD3 hn3 rv3⟩
end
noncomputable def clF(cells:List (Str×Addr)):List (Str×NameKind)->List (Str×Addr)->List (Str×Addr)
 | [],acc=>acc
 | (x,k) :: r,acc=>if k == .free then (match cells.lookup x with | some c=>clF cells r ((x,c) :: acc) | none=>clF cells r acc) else clF cells r acc
theorem xE_{env:Env}{scope:Scope}(h:∀ x∈scope.names,x.2=.free -> ∃ c,env.cells.lookup x.1=some c):closureFor scope env=pure (clF env.cells scope.names []):=by
 have all:∀ (names:List (Str×NameKind)) (acc:List (Str×Addr)),(∀ x∈names,x.2=.free -> ∃ c,env.cells.lookup x.1=some c) ->
   (forIn names acc λ(x:Str×NameKind) (cs:List (Str×Addr))=>match x with | (name,kind)=>if (kind == NameKind.free)=true then do let c <- cellOf env name;pure (ForInStep.yield ((name,c) :: cs)) else pure (ForInStep.yield cs):Sem (List (Str×Addr)))=pure (clF env.cells names acc):=λnames=>by
  induction names with
  | nil=>intro acc _;rfl
  | cons p r ih =>
   intro acc hp;obtain ⟨x,k⟩:=p;simp only [List.forIn_cons,clF];by_cases hk:k=.free
   .subst hk
    obtain ⟨c,hc⟩:=hp (x,.free) List.mem_cons_self rfl;have hco:cellOf env x=pure c:=by unfold cellOf;simp only at hc;rw [hc]
    simp only [beq_self_eq_true,if_true,hco,hc];exact ih _ λy hy=>hp y (List.mem_cons_of_mem _ hy)
   .have hb:(k == NameKind.free)=false:=by simpa using hk
    simp only [hb,Bool.false_eq_true,if_false];exact ih _ λy hy=>hp y (List.mem_cons_of_mem _ hy)
 unfold closureFor;show ((forIn scope.names [] λ(x:Str×NameKind) (cs:List (Str×Addr))=>match x with | (name,kind)=>if (kind == NameKind.free)=true then do let c <- cellOf env name;pure (ForInStep.yield ((name,c) :: cs)) else pure (ForInStep.yield cs):Sem (List (Str×Addr))) >>= λs=>pure s)=_
 rw [all scope.names [] h]
 rfl
theorem yX_{cells:List (Str×Addr)}:∀ (names:List (Str×NameKind)) (acc:List (Str×Addr)),(∀ x c,acc.lookup x=some c->cells.lookup x=some c) -> ∀ x c,(clF cells names acc).lookup x=some c->cells.lookup x=some c
 | [],_,h=>h
 | (y,k) :: r,acc,h=>by
  unfold clF;split
  .split
   .rename_i c hc
    refine yX_ r _ λx d e => ?_;rw [List.lookup_cons] at e;split at e
    .rename_i hx
     cases e;rw [eq_of_beq hx];exact hc
    .exact h x d e
   .exact yX_ r _ h
  .exact yX_ r _ h
theorem wa_{cells:List (Str×Addr)}{x:Str}:∀ (names:List (Str×NameKind)) (acc:List (Str×Addr)),(acc.lookup x).isSome=true->((clF cells names acc).lookup x).isSome=true
 | [],_,h=>h
 | (y,k) :: r,acc,h=>by
  unfold clF;split
  .split
   .refine wa_ r _ ?_
    rw [List.lookup_cons];split
    .rfl
    .exact h
   .exact wa_ r _ h
  .exact wa_ r _ h
theorem wB_{cells:List (Str×Addr)}{x:Str}{c:Addr}(hc:cells.lookup x=some c):∀ (names:List (Str×NameKind)) (acc:List (Str×Addr)),(x,NameKind.free)∈names->((clF cells names acc).lookup x).isSome=true
 | (y,k) :: r,acc,h=>by
  unfold clF;rcases List.mem_cons.mp h with e | h
  .cases e
   simp only [beq_self_eq_true,if_true,hc];exact wa_ r _ (by simp)
  .split
   .split
    .exact wB_ hc r _ h
    .exact wB_ hc r _ h
   .exact wB_ hc r _ h
theorem w8_:∀ (names:List (Str×NameKind)) (n:Nat) (acc:List (Str×Addr)),cellsFrom n names acc=cellsFrom n names []++acc
 | [],_,_=>rfl
 | (x,k) :: r,n,acc=>by
  unfold cellsFrom;split
  .rw [w8_ r (n+1) ((x,n) :: acc),w8_ r (n+1) [(x,n)],List.append_assoc];rfl
  .exact w8_ r n acc
theorem xU_{x:Str}{c:Addr}:∀ (names:List (Str×NameKind)) (n:Nat),(x,c)∈cellsFrom n names []->(x,NameKind.cell)∈names/\n<=c
 | [],_,h=>nomatch h
 | (y,k) :: r,n,h=>by
  unfold cellsFrom at h;split at h
  .rename_i hk
   rw [w8_,List.mem_append] at h;rcases h with h | h
   .exact ⟨.tail _ (xU_ r _ h).1,Nat.le_of_succ_le (xU_ r _ h).2⟩
   .cases List.mem_singleton.mp h;rw [eq_of_beq hk];exact ⟨.head _,Nat.le_refl _⟩
  .exact ⟨.tail _ (xU_ r _ h).1,(xU_ r _ h).2⟩
theorem qi_{names:List (Str×NameKind)}{n:Nat}{cl:List (Str×Addr)}{x:Str}{c:Addr}(h:(cellsFrom n names cl).lookup x=some c):(cellsFrom n names []).lookup x=some c\/((cellsFrom n names []).lookup x=none/\cl.lookup x=some c):=by
 rw [w8_,List.lookup_append] at h;cases e:(cellsFrom n names []).lookup x with
 | some d=>rw [e] at h;exact .inl h
 | none=>rw [e] at h;exact .inr ⟨rfl,h⟩
theorem gy_{names:List (Str×NameKind)}{n:Nat}{cl:List (Str×Addr)}{x:Str}{c:Addr}(h:cl.lookup x=some c)(hx:(x,NameKind.cell) ∉ names):(cellsFrom n names cl).lookup x=some c:=by
 rw [w8_,List.lookup_append];cases e:(cellsFrom n names []).lookup x with
 | some d=>exact absurd (xU_ _ _ (PySem.mem_of_lookup e)).1 hx
 | none=>exact h
theorem s7_{names:List (Str×NameKind)}{n:Nat}{cells:List (Str×Addr)}{x:Str}{c:Addr}(h:(cellsFrom n names (clF cells names [])).lookup x=some c):cells.lookup x=some c\/n<=c:=by
 rcases qi_ h with z | ⟨_,z⟩
 .exact .inr (xU_ _ _ (PySem.mem_of_lookup z)).2
 .exact .inl (yX_ names [] (λx c h=>by cases h) x c z)
theorem jU_(h:Heap)(names:List (Str×NameKind))(o:Obj):CellsOk (pushCells (h.push o) names) (h.objs.size+1) (cellsFrom (h.objs.size+1) names []):=by
 have:=cellsFrom_ok names (h.push o) (h.objs.size+1) [] ⟨λ_ _ hm=>(nomatch hm),List.Pairwise.nil⟩ (by rw [Heap.size_push];exact Nat.le_refl _)
 rwa [Heap.size_push] at this
theorem od_{M:Model}{A:Around}{E:Value->Shared->Prop}{s:Shared}{scope:Scope}{gl:Addr}{cl:List (Str×Addr)}{qual:Str}{env:Env}{Q:Env->Shared->Prop}
  (h:Q { scope,locals:=s.heap.objs.size,globals:=gl,cells:=cellsFrom (s.heap.objs.size+1) scope.names cl,qual,func:=none,code:=env.code,frame:=env.frame,builtins:=env.builtins } { s with heap:=pushCells (s.heap.push { cls := .type "dict",data := .dict #[] }) scope.names }) :
  wpAny M A (newFunctionEnv scope gl cl [] qual none .none (some env)) Q E s:=by
 simp only [newFunctionEnv,Option.isSome_some,if_true];refine ZB (wpAny_alloc ?_);refine ZB (wpAny_layCells _ (λname kind cells=>by cases hkc:kind == NameKind.cell <;> simp [hkc]) _ _ _ _ ?_)
 rw [show ({ s with heap:=s.heap.push { cls := .type "dict",data := .dict #[] } }:Shared).heap.objs.size=s.heap.objs.size+1 from Heap.size_push ..]
 exact ZB (ZP (ZP h))
noncomputable def zk_(X:Cx)(pins:List (Addr×Obj))(scope:Scope)(s3:Shared)(H3:Hp)(fp:List Addr)(N':List Str):Cx :=
 { X with env:=compEnvC scope (cellsFrom (s3.heap.objs.size+1) scope.names (clF X.env.cells scope.names [])) s3.heap.objs.size X.env,N:=N',s₀ := s3,H₀ := H3,outer:=X.stack,stack:=X.stack,ex:=fp,fn:=λx=>scope.names.lookup x == some .cell,pn:=X.pn++pins,xe:=λ_ _=>False }
section
variable{X:Cx}{pins:List (Addr×Obj)}{scope:Scope}{s3 s4:Shared}{σ:L2.St}{H3:Hp}{fp:List Addr}{own fr:List Str}{frI:List Nat}
structure CompSc(X:Cx)(scope:Scope)(own fr:List Str)(frI:List Nat):Prop where
 kind:scope.kind=.function
 names:∀ x∈scope.names,x.2=.local->scope.names.lookup x.1=some .local
 cells:∀ x∈scope.names,x.2=.cell->scope.names.lookup x.1=some .cell
 frees:∀ x∈scope.names,x.2=.free->X.env.kindOf x.1=some .cell
 loc:∀ x∈own,scope.names.lookup x=some .local\/scope.names.lookup x=some .cell
 nd:(own++fr).Nodup
 frs:∀ x∈fr,scope.names.lookup x=some .free
 ix:frI.length=fr.length /\ ∀ (j:Nat) (x:Str) (i:Nat),fr[j]? = some x->frI[j]? = some i->X.N[i]? = some x
theorem ye_{α:Type}{x:Str}{k:α}:∀ {l:List (Str×α)},l.lookup x=some k->(x,k)∈l
 | [],h=>by cases h
 | (y,z) :: r,h=>by
  rw [List.lookup_cons] at h;split at h
  .rename_i hx;cases h;rw [eq_of_beq hx];exact List.mem_cons_self
  .exact List.mem_cons_of_mem _ (ye_ h)
theorem zR_{env:Env}{x:Str}:∀ {names:List (Str×NameKind)},(names.map λ(n,k)=>if (k == NameKind.free && env.scope.kind == .function && env.kindOf n == some .cell) then (n,NameKind.cell) else (n,k)).lookup x =
  (names.lookup x).map λk=>if (k == NameKind.free && env.scope.kind == .function && env.kindOf x == some .cell) then NameKind.cell else k
 | []=>rfl
 | (n,k) :: r=>by
  have ih := @zR_ env x r;rw [List.map_cons,List.lookup_cons (as:=r)];show List.lookup x ((if (k == NameKind.free && env.scope.kind == .function && env.kindOf n == some .cell)=true then (n,NameKind.cell) else (n,k)) :: _)=_
  cases hx:x == n with
  | true =>
   obtain rfl:=eq_of_beq hx;by_cases hc:(k == NameKind.free && env.scope.kind == .function && env.kindOf x == some .cell)=true
   .rw [if_pos hc,List.lookup_cons,hx]
    simp only [Option.map_some];rw [if_pos hc]
   .rw [if_neg hc,List.lookup_cons,hx]
    simp only [Option.map_some];rw [if_neg hc]
  | false =>
   by_cases hc:(k == NameKind.free && env.scope.kind == .function && env.kindOf n == some .cell)=true
   .rw [if_pos hc,List.lookup_cons,hx];exact ih
   .rw [if_neg hc,List.lookup_cons,hx];exact ih
theorem lo_(S:CompSc X scope own fr frI)(I:L2.Inv X pins σ H3 s3)(hf:∀ b∈fp,uK_ X pins H3 b)(hfl:∀ b∈fp,b < s3.heap.objs.size):(zk_ X pins scope s3 H3 fp (own++fr)).Ok:=by
 have sub:=yX_ (cells:=X.env.cells) scope.names [] (λx c h=>by cases h)
 have kindO:(zk_ X pins scope s3 H3 fp (own++fr)).env.scope.kind=.function:=S.kind;have low:∀ x c,X.env.cells.lookup x=some c->c < s3.heap.objs.size:=λx c h=>let ⟨_,_,ho,_⟩:=I.cell x c h;Heap.lt_size ho
 have ck:=jU_ s3.heap scope.names { cls := .type "dict",data := .dict #[] };refine ⟨I.ok.mod,kindO,I.ok.glob,I.ok.blt,Nat.le_refl _,λx y c h1 h2 => ?_,λx hx => ?_,λx c h1 h2 => ?_,I.ok.hd,I.ok.frames,.inl rfl,λb hb=>⟨Nat.ne_of_lt (hfl b hb),λx c h => ?_⟩,λb o e=>I.bs b o e,Nat.le_trans I.ok.bsz I.sz,λb o e hb => ?_,λb hb hfs => ?_,I.stack,I.stkFree⟩
 .have big:∀ {z},(cellsFrom (s3.heap.objs.size+1) scope.names []).lookup z=some c->s3.heap.objs.size < c:=λh=>(xU_ _ _ (PySem.mem_of_lookup h)).2
  rcases qi_ h1 with z | ⟨_,z⟩ <;> rcases qi_ h2 with z' | ⟨_,z'⟩
  .exact name_of_addr ck.apart (PySem.mem_of_lookup z) (PySem.mem_of_lookup z')
  .exact absurd (Nat.lt_trans (big z) (low _ _ (sub _ _ z'))) (Nat.lt_irrefl _)
  .exact absurd (Nat.lt_trans (big z') (low _ _ (sub _ _ z))) (Nat.lt_irrefl _)
  .exact I.ok.inj x y c (sub x c z) (sub y c z')
 .
  have hx':(zk_ X pins scope s3 H3 fp (own++fr)).env.kindOf x=(scope.names.lookup x).map λk=>if (k == NameKind.free && X.env.scope.kind == .function && X.env.kindOf x == some .cell) then NameKind.cell else k:=zR_
  rw [hx'] at hx;cases hl:scope.names.lookup x with
  | none=>rw [hl] at hx;rcases hx with h | h <;> cases h
  | some k =>
   rw [hl] at hx;have hm:=ye_ hl;refine Option.isSome_iff_exists.mp (PySem.W.cellsFrom_some _ _ _ ?_);cases k with
   | free =>
    obtain ⟨c,hc⟩:=I.ok.has x (.inl (S.frees _ hm rfl));exact .inr (wB_ hc scope.names [] hm)
   | cell=>exact .inl hl
   | «local» => rcases hx with h | h <;> simp at h
   | globalExplicit=>rcases hx with h | h <;> simp at h
   | globalImplicit=>rcases hx with h | h <;> simp at h
 .have h1':scope.names.lookup x=some .cell:=eq_of_beq h1
  rcases qi_ h2 with z | ⟨z,_⟩
  .exact Nat.le_of_succ_le (xU_ _ _ (PySem.mem_of_lookup z)).2
  .have:=PySem.W.cellsFrom_some scope.names (s3.heap.objs.size+1) [] (.inl h1')
   rw [z] at this;cases this
 .rcases s7_ h with z | z
  .exact (hf b hb).2.2.2.2.1 x c z
  .exact Nat.ne_of_gt (Nat.lt_of_lt_of_le (Nat.lt_succ_of_lt (hfl b hb)) z)
 .rcases (hf b hb).2.2.2.1 with z | z
  .exact I.ok.noex b o e z
  .exact absurd (Nat.lt_of_lt_of_le (show b < X.base.objs.size from Heap.lt_size e) (Nat.le_trans I.ok.bsz z)) (Nat.lt_irrefl _)
 .rcases List.mem_cons.mp (I.stkSub b hfs) with z | z
  .exact (hf b hb).2.1 z
  .exact (hf b hb).2.2.1 z
theorem getD_none{α:Type}{o:Option (Option α)}{v:α}(h:o.getD none=some v):o=some (some v):=by
 cases o with
 | none=>cases h
 | some w=>cases h;rfl
theorem ps_(S:CompSc X scope own fr frI)(I:L2.Inv X pins σ H3 s3)(hf:∀ b∈fp,uK_ X pins H3 b)(hfl:∀ b∈fp,b < s3.heap.objs.size){h1:Heap}{tk:Nat}{m0:Str->Option Value}(hns:h1.Ns s3.heap.objs.size m0)(kept:∀ b o,s3.heap.get? b=some o->h1.get? b=some o)(hcl:∀ x c,(x,c)∈cellsFrom (s3.heap.objs.size+1) scope.names [] -> ∃ v,h1.IsCell c v):
  L2.Inv (zk_ X pins scope s3 H3 fp (own++fr)) [] (List.replicate own.length none++frI.map λj=>(σ[j]?).getD none) H3 { s3 with heap:=h1,toks:=tk }:=by
 have sub:=yX_ (cells:=X.env.cells) scope.names [] (λx c h=>by cases h)
 refine ⟨lo_ S I hf hfl,rfl,I.bare,Un.kept kept,⟨m0,hns,λi x v e1 e2 e3 => ?_⟩,λx c h => ?_,I.hok.fresh (Nat.le_refl _),λx c h=>(s7_ h).elim (I.freeC x c) λz=>I.hok.fresh (Nat.le_of_succ_le z),λp hp => ?_,I.hok.kept kept,?_⟩
 .
  have e1':(own++fr)[i]? = some x:=e1;by_cases hi:i < own.length
  .rw [List.getElem?_append_left (by simpa using hi),List.getElem?_replicate,if_pos hi] at e2
   cases e2
  .rw [List.getElem?_append_right (by simpa using hi),List.length_replicate,List.getElem?_map] at e2
   rw [List.getElem?_append_right (by omega)] at e1'
   cases ej:frI[i - own.length]? with
   | none=>rw [ej] at e2;cases e2
   | some k =>
    rw [ej] at e2;have e2':=getD_none (Option.some.inj e2);have hN:=S.ix.2 _ x k e1' ej;have hfrx:=S.frs x (List.mem_of_getElem? e1');have hm:=ye_ hfrx;have hcell:=S.frees _ hm rfl;obtain ⟨m,hn,hl⟩:=I.loc;obtain ⟨u,ru,lk⟩:=hl k x v hN e2' (.inr (.inl hcell));refine ⟨u,ru,?_⟩;rcases lk with ⟨hk,_⟩ | ⟨_,c,hc,hcell'⟩
    .rw [hcell] at hk;cases hk
    .have hkind:(zk_ X pins scope s3 H3 fp (own++fr)).env.kindOf x=some .cell:=by
      have := @zR_ X.env x scope.names;show List.lookup x _=_;refine this.trans ?_;rw [hfrx];have hk:=I.ok.kind;simp [hk,hcell]
     obtain ⟨c',hc'⟩:=Option.isSome_iff_exists.mp (wB_ hc scope.names [] hm);have:=sub x c' hc';rw [hc] at this;cases this;obtain ⟨o,ho,hd⟩:=hcell';exact .inr ⟨.inl hkind,c,gy_ hc' (λz=>by have:=S.cells _ z rfl;rw [hfrx] at this;cases this),o,kept c o ho,hd⟩
 .rcases qi_ h with z | ⟨_,z⟩
  .exact hcl x c (PySem.mem_of_lookup z)
  .obtain ⟨v,o,ho,hd⟩:=I.cell x c (sub x c z)
   exact ⟨v,o,kept c o ho,hd⟩
 .have hp':p∈X.pn++pins:=by
   have:p∈(X.pn++pins)++[]:=hp;simpa using this
  obtain ⟨e,n,ne,nf,d⟩:=I.pin p hp';refine ⟨kept _ _ e,n,Nat.ne_of_lt (Heap.lt_size e),λz => ?_,d⟩;rcases List.mem_cons.mp (I.stkSub p.1 z) with q | q
  .exact ne q
  .exact nf q
 .show (List.replicate own.length none++frI.map λj=>(σ[j]?).getD none).length=(own++fr).length
  simp [S.ix.1]
theorem lk_{K:PySem.W.Frag}{ρ:List Addr}{H:Hp}{σu:Su}{n:Nat}(h:RS K ρ H σu σ):RS K ρ H (List.replicate n none++frI.map λj=>(σu[j]?).getD none) (List.replicate n none++frI.map λj=>(σ[j]?).getD none):=by
 refine ⟨by simp,λi u e => ?_⟩
 by_cases hi:i < n
 .rw [List.getElem?_append_left (by simpa using hi),List.getElem?_replicate,if_pos hi] at e
  cases e
 .rw [List.getElem?_append_right (by simpa using hi),List.length_replicate,List.getElem?_map] at e
  rw [List.getElem?_append_right (by simpa using hi),List.length_replicate,List.getElem?_map]
  cases ej:frI[i - n]? with
  | none=>rw [ej] at e;cases e
  | some k =>
   rw [ej] at e;obtain ⟨v,e1,e2⟩:=h.val k u (getD_none (Option.some.inj e));exact ⟨v,by simp [e1],e2⟩
end
section
variable{X:Cx}{C:Nat->List U->G->Out U}{scope:Scope}{own fr:List Str}{frI:List Nat}
theorem xK_(hc:X.calm=true)(S:CompSc X scope own fr frI){gc:Comprehension}{rest:List Comprehension}{t:Tg}{cs:List E}{rest':List (Tg×E×List E)}{c:CK}{elt':E}{pos:Pos}{n:Nat}(ha:gc.is_async=0)
  (inner:∀ pins s3 H3 fp,PG (zk_ X pins scope s3 H3 fp (own++fr)) gc.target (tG X.K t)/\(∀ n,PTs (zk_ X pins scope s3 H3 fp (own++fr)) gc.ifs (wY_ (lev C n).ts cs))/\xa_ (zk_ X pins scope s3 H3 fp (own++fr)) C rest rest' /\
   sb_ (zk_ X pins scope s3 H3 fp (own++fr)) C c elt')
  {pins:List (Addr×Obj)} {s2:Shared} {σ:L2.St} {H2:Hp} {ρ1:List Addr} {g1:G} {σu:Su} {it:Addr} {fp:List Addr} {tn:Nat->Heap->Prop} {J:It} {iI:Iter} {us:List U} {g2:G} {E:Value->Shared->Prop} {P:Value->Addr->Result->Shared->Prop}
  (I2:L2.Inv X pins σ H2 s2) (T:Turn X.prog X.w X.K gc.target J fp it tn) (st2:tn 0 s2.heap) (f2:∀ b∈fp,uK_ X pins H2 b) (hs:RS X.K ρ1 H2 σu σ) (hg1:RH X.K ρ1 H2 g1) (ri1:RI X.K ρ1 H2 iI J)
  (ecm:(lev C n).cm iI 0 t cs rest' elt' [] (List.replicate own.length none++frI.map λj=>(σu[j]?).getD none) g1=.ok us g2)
  (fin:∀ (D Cc:Addr) (s':Shared) (H':Hp) (ρ':List Addr) (vs':HO) (m:Str->Option Value) (f:Flow),L2.Inv X pins σ H' s'->Stp X.K ρ1 H2 ρ' H'->RH X.K ρ' H' g2->H2 D=none->H' D=some vs'->D ∉ ρ'->CK.ho X.K ρ' H' c us vs'->s'.heap.Ns Cc m->Cc≠X.env.locals->(∀ x c,X.env.cells.lookup x=some c->c≠Cc) ->
   (∀ (s'':Shared) (σ2:L2.St) (H'':Hp) (h':Heap),L2.Inv X pins σ2 H'' s''->(∀ b,H' b=none->b < s'.heap.objs.size->H'' b=none)->Heap.SameBut Cc s''.heap h'->L2.Inv X pins σ2 H'' { s'' with heap:=h' })->P (.ref D) Cc (.ok f) s') :
  wpAny (model X.prog X.w) X.A c.new (λacc s₃ => wpAny (model X.prog X.w) X.A (newFunctionEnv scope X.env.globals (clF X.env.cells scope.names []) [] X.env.qual none .none (some X.env)) (λcenv s₄ =>
    codeAny (model X.prog X.w) X.A (.compStart (c.exp (gc :: rest) scope pos) 0 (.ref it) acc { cenv with scope:=relabel scope X.env }) (P acc cenv.locals) s₄) E s₃) E s2:=by
 refine CK.new_wp (od_ ?_);dsimp only;have ckk:=jU_ (s2.heap.push c.obj) scope.names { cls := .type "dict",data := .dict #[] };have hns₁ := (Heap.Ns.new (s2.heap.push c.obj) (.type "dict")).keeps (pushCells_keeps scope.names _);have kept:∀ b o,(s2.heap.push c.obj).get? b=some o->(pushCells ((s2.heap.push c.obj).push { cls := .type "dict",data := .dict #[] }) scope.names).get? b=some o:=λb o e=>pushCells_keeps _ _ b o (Heap.get?_push_of_some _ e);generalize pushCells ((s2.heap.push c.obj).push { cls := .type "dict",data := .dict #[] }) scope.names=h₁ at ckk hns₁ kept ⊢;have hDn:H2 s2.heap.objs.size=none:=I2.hok.fresh (Nat.le_refl _);have I3:L2.Inv X pins σ (upd H2 s2.heap.objs.size c.ini) { s2 with heap:=s2.heap.push c.obj }:=I2.laid (t':=s2.toks) (λb ob q=>Heap.get?_push_of_some _ q) (Nat.le_refl _) (c.ini_ok _ I2.big)
 have below:∀ b∈fp,b < s2.heap.objs.size:=λb hb=>let ⟨o,e,_⟩:=T.obj _ _ st2 b hb;Heap.lt_size e
 have f3:∀ b∈fp,uK_ X pins (upd H2 s2.heap.objs.size c.ini) b:=λb hb=>⟨by rw [zg_ (Nat.ne_of_lt (below b hb))];exact (f2 b hb).1,(f2 b hb).2⟩
 have hsz:(s2.heap.push c.obj).objs.size=s2.heap.objs.size+1:=Heap.size_push _ _;have hfl:∀ b∈fp,b < (s2.heap.push c.obj).objs.size:=λb hb=>by rw [hsz];exact Nat.lt_succ_of_lt (below b hb)
 have I4:=ps_ (tk:=s2.toks) S I3 f3 hfl hns₁ kept λx c h=>⟨_,(ckk.empty x c h).1⟩;obtain ⟨pg,pts,go,helt⟩:=inner pins { s2 with heap:=s2.heap.push c.obj } (upd H2 s2.heap.objs.size c.ini) fp
 have kept2:∀ b o,s2.heap.get? b=some o->h₁.get? b=some o:=λb o e=>kept b o (Heap.get?_push_of_some _ e);have st4:tn 0 h₁ := T.keep _ _ _ st2 λb _ o e=>kept2 b o e;have hn:s2.heap.objs.size ∉ ρ1:=λhm=>by
  obtain ⟨k,e⟩:=List.mem_iff_getElem?.mp hm;obtain ⟨o,ho⟩:=hg1.there e;rw [hDn] at ho;cases ho
 have sub:=yX_ (cells:=X.env.cells) scope.names [] (λx c h=>by cases h)
 have f4:∀ b∈fp,uK_ (zk_ X pins scope { s2 with heap:=s2.heap.push c.obj } (upd H2 s2.heap.objs.size c.ini) fp (own++fr)) [] (upd H2 s2.heap.objs.size c.ini) b:=λb hb=>by
  refine ⟨(f3 b hb).1,Nat.ne_of_lt (hfl b hb),λz => ?_,.inl hb,λx c h=>(s7_ h).elim ((f3 b hb).2.2.2.2.1 x c) λz=>Nat.ne_of_gt (Nat.lt_of_lt_of_le (Nat.lt_succ_of_lt (hfl b hb)) z),λp hp=>(f3 b hb).2.2.2.2.2 p ?_⟩
  .rcases List.mem_cons.mp (I3.stkSub b z) with q | q
   .exact (f3 b hb).2.1 q
   .exact (f3 b hb).2.2.1 q
  .have:p∈(X.pn++pins)++[]:=hp
   simpa using this
 have loop:=pk_ (X:=zk_ X pins scope { s2 with heap:=s2.heap.push c.obj } (upd H2 s2.heap.objs.size c.ini) fp (own++fr)) (C:=C) hc rfl helt (c:=c) (gens:=gc :: rest) (scope:=scope) (pos:=pos) (D:=s2.heap.objs.size) rest rest' 0 gc t cs rfl rfl ha pg pts go n [] _ it fp tn J iI 0 [] c.ini _ _ _ ρ1 ρ1 H2 g1 us g2 T ecm I4 st4 f4 (lk_ (hs.step (Stp.fresh hDn))) (hg1.step_fresh hDn) (ri1.step (Stp.fresh hDn)) (Stp.fresh hDn) hDn upd_same hn CK.ho0
 refine codeAny_mono (x0_ (k:=0) (g:=gc) rfl ha loop (T.self _ 0 _ _ _ st4 loop)) λr s' hr => ?_;obtain ⟨⟨f,rfl⟩,σ',H',ρ',vs',I5,sp5,hg5,hs5,hD5,hn5,rv5,_⟩:=hr;have chk:∀ b∈fp,(b∈X.ex\/X.s₀.heap.objs.size<=b)/\b≠X.env.locals/\(∀ x c,X.env.cells.lookup x=some c->c≠b) /\ ∀ p∈X.pn++pins,p.1≠b:=λb hb=>⟨(f3 b hb).2.2.2.1,(f3 b hb).2.1,(f3 b hb).2.2.2.2.1,(f3 b hb).2.2.2.2.2⟩;have I6:L2.Inv X pins σ H' s':=I3.call' (ch:=fp) I5.os I5.base I5.hok I5.bare chk;obtain ⟨m',hns',_⟩:=I5.loc;refine fin s2.heap.objs.size _ s' H' ρ' vs' m' f I6 sp5 hg5 hDn hD5 hn5 rv5 hns' (Nat.ne_of_gt I3.lt) (λx c h=>by obtain ⟨v,o,ho,hd⟩:=I3.cell x c h;exact Nat.ne_of_lt (Heap.lt_size ho)) λs'' σ2 H'' h' I7 hH hsb => ?_
 have hCn:H'' (s2.heap.push c.obj).objs.size=none:=hH _ I5.free I5.lt;refine I7.turned (t':=s''.toks) (it:=(s2.heap.push c.obj).objs.size) (λb o hb e=>(hsb.2 b hb).trans e) hCn ?_ (.inr ?_) (λx c h => ?_) λp hp => ?_
 .exact Nat.ne_of_gt I3.lt
 .exact I3.sz
 .obtain ⟨v,o,ho,hd⟩:=I3.cell x c h
  exact Nat.ne_of_lt (Heap.lt_size ho)
 .exact Nat.ne_of_lt (Heap.lt_size (I3.pin p hp).1)
theorem lj_(hc:X.calm=true)(S:CompSc X scope own fr frI){gc:Comprehension}{rest:List Comprehension}{t:Tg}{it':E}{cs:List E}{rest':List (Tg×E×List E)}{elt:Expr}{elt':E}{pos:Pos}{n:Nat}(ha:gc.is_async=0)
  (hi:PI X gc.target gc.iter (tI X.K PTs.W0' (itF (lev C n) it'))) (hfold:∀ x,foldedSetIterable gc.iter X.env x=pure x)
  (inner:∀ pins s3 H3 fp,PG (zk_ X pins scope s3 H3 fp (own++fr)) gc.target (tG X.K t)/\(∀ n,PTs (zk_ X pins scope s3 H3 fp (own++fr)) gc.ifs (wY_ (lev C n).ts cs))/\xa_ (zk_ X pins scope s3 H3 fp (own++fr)) C rest rest' /\
   ∀ n,PE (zk_ X pins scope s3 H3 fp (own++fr)) elt (tE X.K PTs.W0' ((lev C n).ev elt'))) :
  PE X (.ListComp elt (gc :: rest) scope pos) (tE X.K PTs.W0' (evF C (lev C n) (.comp own.length frI ((t,it',cs) :: rest') elt'))):=by
 intro pins s σ H Q I ⟨σu,ρ,g,hs,hg,p⟩;rw [eval_ListComp];obtain ⟨tg,iter,ifs,asy⟩:=gc;obtain rfl:asy=0:=ha;refine wpAny_comprehension_free (use:=none) rfl hfold (xE_ λx hx hk=>I.ok.has x.1 (.inl (S.frees x hx hk))) S.kind S.names ?_;refine thn (hi pins s σ H _ I ⟨σu,ρ,g,hs,hg,post.bind p⟩) λv s1 h1=>thn h1 λitv s2 h2 => ?_;obtain ⟨it,fp,tn,J,H2,e,I2,T,st2,f2,ρ1,iI,g1,sp1,hg1,ri1,p1⟩:=h2;subst e;revert p1;cases ecm:(lev C n).cm iI 0 t cs rest' elt' [] (List.replicate own.length none++frI.map λj=>(σu[j]?).getD none) g1 with
 | exc c fs g2=>intro p1;exact False.elim p1
 | bad=>intro p1;exact False.elim p1
 | ok us g2 =>
  intro p1;simp only [Out.bindB] at p1;split at p1
  .refine xK_ (c := .lst elt) hc S rfl (λpins s3 H3 fp=>let ⟨a,b,c,d⟩:=inner pins s3 H3 fp;⟨a,b,c,si_ d⟩) I2 T st2 f2 (hs.step sp1) hg1 ri1 ecm λD Cc s' H' ρ' vs' m f I' sp' hg' hD0 hD' hn' ⟨vs,eo,rv'⟩ hns' _ _ stay => ?_
   subst eo;refine ⟨m,hns',λh' hsb => ?_⟩;refine ⟨.ref D,H',stay s' σ H' h' I' (λ_ h _=>h) hsb,rfl,?_⟩;refine p1 (.ref D) (ρ'++[D]) H' (sp'.named hD0) (hg'.named hD' hn' ⟨_,rfl,rv'⟩) ⟨D,rfl,?_⟩;rw [<-hg'.len];simp
  .exact False.elim p1
theorem kM_(k v gens scope pos){env:Env}:eval (.DictComp k v gens scope pos) env=comprehension (.DictComp k v gens scope pos) scope env (firstIterPos gens pos) newDict (firstAsync gens) (firstIter gens env):=rfl
theorem ov_(hc:X.calm=true)(hu:X.A.units+1 < cLine)(S:CompSc X scope own fr frI){gc:Comprehension}{rest:List Comprehension}{t:Tg}{it':E}{cs:List E}{rest':List (Tg×E×List E)}{kx vx:Expr}{k' v':E}{pos:Pos}{n:Nat}(ha:gc.is_async=0)
  (hi:PI X gc.target gc.iter (tI X.K PTs.W0' (itF (lev C n) it'))) (hfold:∀ x,foldedSetIterable gc.iter X.env x=pure x)
  (inner:∀ pins s3 H3 fp,PG (zk_ X pins scope s3 H3 fp (own++fr)) gc.target (tG X.K t)/\(∀ n,PTs (zk_ X pins scope s3 H3 fp (own++fr)) gc.ifs (wY_ (lev C n).ts cs))/\xa_ (zk_ X pins scope s3 H3 fp (own++fr)) C rest rest' /\
   (∀ n,PE (zk_ X pins scope s3 H3 fp (own++fr)) kx (tE X.K PTs.W0' ((lev C n).ev k'))) /\ ∀ n,PE (zk_ X pins scope s3 H3 fp (own++fr)) vx (tE X.K PTs.W0' ((lev C n).ev v'))) :
  PE X (.DictComp kx vx (gc :: rest) scope pos) (tE X.K PTs.W0' (evF C (lev C n) (.dcmp own.length frI ((t,it',cs) :: rest') k' v'))):=by
 intro pins s σ H Q I ⟨σu,ρ,g,hs,hg,p⟩;rw [kM_];obtain ⟨tg,iter,ifs,asy⟩:=gc;obtain rfl:asy=0:=ha;refine wpAny_comprehension_free (use:=none) rfl hfold (xE_ λx hx hk=>I.ok.has x.1 (.inl (S.frees x hx hk))) S.kind S.names ?_;refine thn (hi pins s σ H _ I ⟨σu,ρ,g,hs,hg,post.bind p⟩) λv s1 h1=>thn h1 λitv s2 h2 => ?_;obtain ⟨it,fp,tn,J,H2,e,I2,T,st2,f2,ρ1,iI,g1,sp1,hg1,ri1,p1⟩:=h2;subst e;revert p1;cases ecm:(lev C n).cm iI 0 t cs rest' (.pair k' v') [] (List.replicate own.length none++frI.map λj=>(σu[j]?).getD none) g1 with
 | exc c fs g2=>intro p1;exact False.elim p1
 | bad=>intro p1;exact False.elim p1
 | ok us g2 =>
  intro p1;simp only [Out.bindB] at p1;refine xK_ (c := .dic kx vx) hc S rfl (λpins s3 H3 fp=>let ⟨a,b,c,d,e⟩:=inner pins s3 H3 fp;⟨a,b,c,p0_ (X:=zk_ X pins scope s3 H3 fp (own++fr)) hu d e⟩) I2 T st2 f2 (hs.step sp1) hg1 ri1 ecm λD Cc s' H' ρ' vs' m f I' sp' hg' hD0 hD' hn' ⟨kvs,ws,eo,ed,rv'⟩ hns' _ _ stay => ?_
  subst eo;rw [ed] at p1;refine ⟨m,hns',λh' hsb => ?_⟩;refine ⟨.ref D,H',stay s' σ H' h' I' (λ_ h _=>h) hsb,rfl,?_⟩;refine p1 (.ref D) (ρ'++[D]) H' (sp'.named hD0) (hg'.named hD' hn' ⟨_,rfl,rv'⟩) ⟨D,rfl,?_⟩;rw [<-hg'.len];simp
theorem bind_assoc{α β γ:Type}(o:Out α)(k:α->G->Out β)(k':β->G->Out γ):(o.bind k).bind k'=o.bind λa g=>(k a g).bind k':=by
 cases o <;> rfl
theorem sq_(hc:X.calm=true)(S:CompSc X scope own fr frI){gc:Comprehension}{rest:List Comprehension}{t:Tg}{it':E}{cs:List E}{rest':List (Tg×E×List E)}{elt:Expr}{elt':E}{pos spos py:Pos}{n i:Nat}{y:Str}(ha:gc.is_async=0)
  (hi:PI X gc.target gc.iter (tI X.K PTs.W0' (itF (lev C n) it'))) (hfold:∀ x,foldedSetIterable gc.iter X.env x=pure x)
  (inner:∀ pins s3 H3 fp,PG (zk_ X pins scope s3 H3 fp (own++fr)) gc.target (tG X.K t)/\(∀ n,PTs (zk_ X pins scope s3 H3 fp (own++fr)) gc.ifs (wY_ (lev C n).ts cs))/\xa_ (zk_ X pins scope s3 H3 fp (own++fr)) C rest rest' /\
   ∀ n,PE (zk_ X pins scope s3 H3 fp (own++fr)) elt (tE X.K PTs.W0' ((lev C n).ev elt')))
  (hN:X.N.Nodup) (hiy:X.N[i]? = some y) (hy:X.env.scope.names.lookup y=some .local) (hsw:swapsWith (.ListComp elt (gc :: rest) scope pos) (some (.Name y py)) spos.line X.env=pure true) :
  PS X (.Assign [.Name y py] (.ListComp elt (gc :: rest) scope pos) spos) (tSt X.K PTs.W0' (s1F (lev C (n+1)) (.set (.nm i) (.comp own.length frI ((t,it',cs) :: rest') elt')))):=by
 intro pins s σ H Dd I ⟨σu,ρ,g,hs,hg,p⟩;have p':postS X.K PTs.W0' ((itF (lev C n) it' σu g).bind λa g=>(((lev C n).cm a 0 t cs rest' elt' [] (List.replicate own.length none++frI.map λj=>(σu[j]?).getD none) g).bindB λus g=>if us.length<=zd_ then PI.alloc (.lst us) g else .bad).bind λu g=>match zw_ (.nm i) u σu with | some σ'=>Out.ok (.nx σ') g | none => .bad) ρ H Dd:=by
  have e:s1F (lev C (n+1)) (.set (.nm i) (.comp own.length frI ((t,it',cs) :: rest') elt')) σu g=_:=rfl;rw [<-bind_assoc];exact p
 rw [exec_Assign_Name_used _ _ _ _ hsw];refine ZB (wpAny_standAt (ZB ?_));obtain ⟨tg,iter,ifs,asy⟩:=gc;obtain rfl:asy=0:=ha;show wpAny _ _ (do let _ <- comprehension (.ListComp elt (⟨tg,iter,ifs,0⟩ :: rest) scope pos) scope X.env _ (newList []) false (eval iter X.env) (some (assign (.Name y py) X.env))) _ _ s
 refine ZB (thn (wpAny_comprehension_free (use:=some (assign (.Name y py) X.env)) (Q:=λ_ s'=>SP X pins Dd .next s') rfl hfold (xE_ λx hx hk=>I.ok.has x.1 (.inl (S.frees x hx hk))) S.kind S.names ?_) λ_ s' hq=>ZP (ZP hq));refine thn (hi pins s σ H _ I ⟨σu,ρ,g,hs,hg,postS.bind p'⟩) λv s1 h1=>thn h1 λitv s2 h2 => ?_;obtain ⟨it,fp,tn,J,H2,e,I2,T,st2,f2,ρ1,iI,g1,sp1,hg1,ri1,p1⟩:=h2;subst e;revert p1;cases ecm:(lev C n).cm iI 0 t cs rest' elt' [] (List.replicate own.length none++frI.map λj=>(σu[j]?).getD none) g1 with
 | exc c fs g2=>intro p1;exact False.elim p1
 | bad=>intro p1;exact False.elim p1
 | ok us g2 =>
  intro p1;simp only [Out.bindB] at p1;split at p1
  .refine xK_ (c := .lst elt) hc S rfl (λpins s3 H3 fp=>let ⟨a,b,c,d⟩:=inner pins s3 H3 fp;⟨a,b,c,si_ d⟩) I2 T st2 f2 (hs.step sp1) hg1 ri1 ecm λD Cc s' H' ρ' vs' m f I' sp' hg' hD0 hD' hn' ⟨vs,eo,rv'⟩ hns' nl nc stay => ?_
   subst eo;show wpAny _ _ (assign (.Name y py) X.env (.ref D)) _ _ s';refine wpAny_assign_Name (uw_ (v := .ref D) I' hN hiy (.inl hy) rfl (λs3 I3 ⟨a,hsb,ha⟩ => ?_) (.inr hy));have hne:Cc≠a:=by
    rcases ha with rfl | ha
    .exact nl
    .exact Ne.symm (nc y a ha)
   refine ⟨m,hns'.sameBut hsb hne,λh' hs3=>⟨_,H',stay s3 _ H' h' I3 (λ_ h _=>h) hs3,?_⟩⟩;simp only [PI.alloc,Out.bind,unl,zw_] at p1;by_cases hl:i < σu.length
   .simp only [hl,if_true] at p1
    refine p1 _ (ρ'++[D]) H' (sp'.named hD0) (hg'.named hD' hn' ⟨_,rfl,rv'⟩) ((hs.step (sp1.trans (sp'.named hD0))).set (u := .ref g2.length) (v := .ref D) ?_);refine ⟨D,rfl,?_⟩;rw [<-hg'.len];simp
   .simp only [hl,if_false] at p1
    exact False.elim p1
  .exact False.elim p1
end
section
variable{X:Cx}{W:XQ}{r:L}{C:Nat->List U->G->Out U}{pos:Pos}
end
section
variable{prog:Program}{w:World}{A:Around}{R:Result->Shared->Prop}{h0:Heap}{I l S:Addr}{items:Array Value}{zs:Nat->Array Value}
end
section
variable{prog:Program}{w:World}{A:Around}{E:Value->Shared->Prop}{s:Shared}{l e:Addr}{items:Array Value}{zs:Nat->Array Value}{ne:Nat}
end
section
variable{X:Cx}{W:XQ}
end
noncomputable abbrev W0:XQ:=PTs.W0'
section
variable{X:Cx}{W:XQ}{C:Nat->List U->G->Out U}{r:L}{pos p2:Pos}{a b c e tg:Expr}{a' b' c' e':E}{t:Tg}
theorem gN_{iter:Expr}{it':E}{bs:List Stmt}{bs':List S}{n:Nat}(hp:PassesOwn (model X.prog X.w) X.A X.env X.xe)(hc:X.calm=true)(hi:PI X tg iter (tI X.K W (itF (lev C n) it')))(hg:PG X tg (tG X.K t))(hb:∀ n,PSs X bs (tSt X.K W ((lev C n).ex bs')))
  (hs:∀ x,foldedSetIterable iter X.env x=pure x):PS X (.For tg iter bs [] pos) (tSt X.K W (s1F (lev C n) (.for t it' bs'))):=by
 have hb':PSs X bs (λD σ H => ∃ m,tSt X.K W ((lev C m).ex bs') D σ H):=λpins s σ H D I ⟨m,h⟩=>hb m pins s σ H D I h;refine (h6_ hp hc hi hg hb' hs).imp λD σ H ⟨σu,ρ,g,hs,hg,p⟩ => ?_;refine ⟨σu,ρ,g,hs,hg,(postS.bind (R:=RI X.K) p).mono λJ H1 ⟨ρ1,it,g1,s1,h1,ri,p1⟩ => ?_⟩;refine ⟨λi m σ H => ∃ σu ρ g,RS X.K ρ H σu σ/\RH X.K ρ H g/\RI X.K ρ H it J/\postS X.K W ((lev C m).fr t it i bs' σu g) ρ H D,⟨n,σu,ρ1,g1,hs.step s1,h1,ri,p1⟩,?_⟩;rintro i m σ H ⟨σu,ρ,g,hs,hg,ri,p⟩;cases m with
 | zero=>exact p.elim
 | succ m =>
  have p':postS X.K W (frF (lev C m) t it i bs' σu g) ρ H D:=p;simp only [frF] at p';cases en:next it i g with
  | none=>simp only [en] at p';exact p'.elim
  | some o =>
   cases o with
   | none=>simp only [en] at p';exact .inl ⟨r6_ hg ri en,p' _ ρ H .refl hg hs⟩
   | some u =>
    simp only [en] at p';obtain ⟨go,yl⟩:=fc_ hg ri en;refine .inr ⟨go,λσ' H' => ∃ σu ρ g,RS X.K ρ H' σu σ'/\RH X.K ρ H' g/\RI X.K ρ H' it J/\postS X.K W ((lev C m).fr t it (i+1) bs' σu g) ρ H' D,λσ' H' q=>⟨m,Nat.lt_succ_self _,q⟩,λx H' y => ?_⟩;obtain ⟨spy,hgy,rv⟩:=yl x H' y;cases eb:zw_ t u σu with
    | none=>simp only [eb] at p';exact p'.elim
    | some σ1 =>
     simp only [eb] at p';refine ⟨σu,ρ,g,u,σ1,hs.step spy,hgy,rv,uc_ eb,λσ2 hs2=>⟨m,σ1,ρ,g,hs2,hgy,?_⟩⟩;exact jG_ (k:=λσ' g=>(lev C m).fr t it (i+1) bs' σ' g) (postS.from p' spy) λσ3 g3 σ ρ' H' s3 h3 hs3 p3=>⟨σ3,ρ',g3,hs3,h3,(ri.step spy).step s3,p3⟩
noncomputable def spI(K:PySem.W.Frag)(fns:List Fn)(d i np:Nat):Sp:=λvs H Q _ => ∃ fu ρ g us,RH K ρ H g/\RVs K ρ H us vs/\us.length=np/\post K W0 (RV K) (zb_ fns fu d i us g) ρ H Q
theorem ur_{fns:List Fn}{fu d i:Nat}{us:List U}{g:G}{np:Nat}{K:PySem.W.Frag}{ρ:List Addr}{H:Hp}{Q:VK}(hnp:∀ F,fns[i]? = some F->F.np=np)(p:post K W0 (RV K) (zb_ fns fu d i us g) ρ H Q):us.length=np:=by
 cases d with
 | zero=>exact p.elim
 | succ d =>
  simp only [zb_] at p;cases e:fns[i]? with
  | none=>simp only [e] at p;exact p.elim
  | some F =>
   simp only [e,nV_] at p;split at p
   .rename_i h;rw [h,hnp F e]
   .exact p.elim
theorem kA_{fns:List Fn}{fu d i k:Nat}{x:Str}{f:Addr}{fd:FuncData}{ps:List Str}{p:Pos}{es:List Expr}{es':List E}(F:FnOk X.prog X.w X.K X.mg X.base CX0 k f fd ps (spI X.K fns d i ps.length))(hnp:∀ F,fns[i]? = some F->F.np=ps.length)
  (hr:Room k X.A) (hg:Gl X x) (hm:X.mg x=some (.ref f)) (hk:PySem.W.keepIn X.K (.ref f)=true) (hb:Binds X.K fd ps []) (hdb:(x == ("__debug__" : Str))=false) (ha:PA X (a :: es) (tAr X.K W0 (evs r.ev es')))
  (hst:starEach (a :: es) X.env=(false,eval a X.env) :: starEach es X.env) (hpl:(backTo pos (starEach es X.env)).any (·.1)=false) :
  PE X (.Call (.Name x p) (a :: es) [] pos) (tE X.K W0 (evF (zb_ fns fu d) r (.call i es'))):=by
 refine (m1_ F hr hg hm hk hb .nil r5_ ha hdb hst hpl).imp λσ H Q ⟨σu,ρ,g,hs,hg,p⟩ => ?_;refine ⟨σu,ρ,g,hs,hg,(post.bind (R:=RVs X.K) p).mono λvs H1 ⟨ρ1,us,g1,s1,h1,rs,p1⟩ => ?_⟩;exact ⟨fu,ρ1,g1,us,h1,by rw [List.append_nil];exact rs,ur_ hnp p1,p1⟩
theorem pY_{fns:List Fn}{fu d i k:Nat}{x:Str}{f:Addr}{fd:FuncData}{ps:List Str}{p:Pos}(F:FnOk X.prog X.w X.K X.mg X.base CX0 k f fd ps (spI X.K fns d i ps.length))(hnp:∀ F,fns[i]? = some F->F.np=ps.length)
  (hr:Room k X.A) (hg:Gl X x) (hm:X.mg x=some (.ref f)) (hk:PySem.W.keepIn X.K (.ref f)=true) (hb:Binds X.K fd ps []) (hdb:(x == ("__debug__" : Str))=false) :
  PE X (.Call (.Name x p) [] [] pos) (tE X.K W0 (evF (zb_ fns fu d) r (.call i []))):=by
 refine (pq_ F hr hg hm hk hb .nil r5_ hdb).imp λσ H Q ⟨σu,ρ,g,hs,hg,p⟩ => ?_;have p':post X.K W0 (RV X.K) (zb_ fns fu d i [] g) ρ H Q:=p;exact ⟨fu,ρ,g,[],hg,rfl,ur_ hnp p',p'⟩
end
theorem ixOf_get{N:List Str}{x:Str}{i:Nat}(h:u6_ N x=some i):N[i]? = some x:=by
 obtain ⟨h1,h2,_⟩:=List.findIdx?_eq_some_iff_getElem.mp h;rw [List.getElem?_eq_getElem h1];exact congrArg some (eq_of_beq h2)
theorem nI_{e:Expr}{x:Str}(h:nmE e=some x):∃ p,e = .Name x p:=by
 cases e with
 | Name y p=>cases h;exact ⟨p,rfl⟩
 | _=>cases h
theorem v9_{e:Expr}{c:Str×List Expr}(h:v8_ e=some c):∃ p q,e = .Call (.Name c.1 p) c.2 [] q:=by
 cases e with
 | Call f es kws q =>
  cases kws with
  | nil =>
   obtain ⟨n,hn,rfl⟩:=Option.map_eq_some_iff.mp h;obtain ⟨p,rfl⟩:=nI_ hn;exact ⟨p,q,rfl⟩
  | cons _ _=>cases h
 | _=>cases h
section
variable(T:Tab)(sc:Scope)(ce:Expr->Option E)
end
open PySem PySem.Spec PyProof.Rows L2 PySem.W
theorem zx_{a:Expr}{env:Env}(h:isStar a=false)(es:List Expr):starEach (a :: es) env=(false,eval a env) :: starEach es env:=by
 cases a <;> first | rfl | cases h
theorem yo_{env:Env}{pos:Pos}:∀ {es:List Expr},es.any isStar=false->(backTo pos (starEach es env)).any (·.1)=false
 | [],_=>rfl
 | a :: es,h=>by
  rw [List.any_cons,Bool.or_eq_false_iff] at h;rw [zx_ h.1];show (false || (backTo pos (starEach es env)).any (·.1))=false;rw [yo_ h.2]
  rfl
section
variable{K:PySem.W.Frag}{W W':XQ}{ρ:List Addr}{H:Hp}
theorem vb_{α β α' β':Type}{R:List Addr->Hp->α->β->Prop}{R':List Addr->Hp->α'->β'->Prop}{o:Out α}{k:α->G->Out α'}{Q:β'->Hp->Prop}(h:post K W R' (o.noex.bind k) ρ H Q):
  post K W' R o ρ H (λv H1 => ∃ ρ1 u g1,Stp K ρ H ρ1 H1/\RH K ρ1 H1 g1/\R ρ1 H1 u v/\post K W R' (k u g1) ρ1 H1 Q):=by
 cases o with
 | ok u g=>exact λv ρ1 H1 s1 h1 r1=>⟨ρ1,u,g,s1,h1,r1,post.from (o:=k u g) h s1⟩
 | exc c fs g=>exact h.elim
 | bad=>exact h
end
section
variable{X:Cx}{pos:Pos}
theorem wJ_{env:Env}:∀ {kws:List Keyword},kwOk kws=true->(backToKw pos (keywordEach kws env)).all (·.1.isSome)=true/\(backToKw pos (keywordEach kws env)).filterMap (·.1)=zr_ kws/\(backToKw pos (keywordEach kws env)).any (·.1.isNone)=false
 | [],_=>⟨rfl,rfl,rfl⟩
 | ⟨nm,e,kp⟩ :: kws,h=>by
  unfold kwOk at h;rw [List.all_cons,Bool.and_eq_true] at h;obtain ⟨a,b,c⟩:=wJ_ (env:=env) (kws:=kws) h.2;cases nm with
  | none=>cases h.1
  | some n =>
   refine ⟨?_,?_,?_⟩
   .show (true && _)=true
    rw [Bool.true_and];exact a
   .show n :: _=n :: _
    exact congrArg (n :: ·) b
   .show (false || _)=false
    rw [Bool.false_or];exact c
theorem t7_:∀ {kws:List Keyword},kwOk kws=true->(zr_ kws).length=kws.length
 | [],_=>rfl
 | ⟨nm,e,kp⟩ :: kws,h=>by
  unfold kwOk at h;rw [List.all_cons,Bool.and_eq_true] at h;cases nm with
  | none=>cases h.1
  | some n =>
   show (zr_ kws).length+1=kws.length+1;rw [t7_ h.2]
theorem _root_.L2.PK.imp{kws:List Keyword}{t t':TA}(h:PK X kws t)(q:∀ σ H Q,t' σ H Q->t σ H Q):PK X kws t':=λp pins s σ H Q I hw=>h p pins s σ H Q I (q σ H Q hw)
end
section
variable{X:Cx}{CX:CXT}{k:Nat}{f:Addr}{fd:FuncData}{ps ks:List Str}{sp:Sp}{E:XK}{x:Str}{p pos:Pos}{es:List Expr}{kws:List Keyword}{t tk:TA}{g:List Value->List Value->List Value}{gV:List V->List V->List V}
theorem qk_(F:FnOk X.prog X.w X.K X.mg X.base CX k f fd ps sp)(hr:Room k X.A)(hg:Gl X x)(hm:X.mg x=some (.ref f))(hk:PySem.W.keepIn X.K (.ref f)=true)(hb:KBinds X.K fd ps ks g gV)(hx:yQ_ CX X E)
  (ha:PA X es t) (hnil:es=[] -> ∀ σ H Q,t σ H Q->Q [] H) (hkw:PK X kws tk) (hall:(backToKw pos (keywordEach kws X.env)).all (·.1.isSome)=true) (hks:(backToKw pos (keywordEach kws X.env)).filterMap (·.1)=ks)
  (hdb:(x == ("__debug__" : Str))=false) (hst:es.any isStar=false) (hno:(backToKw pos (keywordEach kws X.env)).any (·.1.isNone)=false) :
  PE X (.Call (.Name x p) es kws pos) (oY_ sp gV E t tk):=by
 cases es with
 | cons e es =>
  rw [List.any_cons,Bool.or_eq_false_iff] at hst;refine pM_ F hr hg hm hk hb hx ha hkw hall hks hdb (zx_ hst.1 _) ?_;rw [zx_ hst.1];show ((false || (backTo pos (starEach es X.env)).any (·.1)) || _)=false;rw [yo_ hst.2,hno]
  rfl
 | nil =>
  intro pins s σ H Q I h;refine wpAny_Call_Name_kw (xw_ I hg hm ?_ hdb);refine PySem.W.callWith_KW0 (h₀ := X.base) I.ok.mod.kin hk hall ?_ (by show (false || _)=false;rw [hno];rfl)
  have q:=hnil rfl σ H _ h;refine thn (hkw pos pins s σ H _ I q) λws s2 ⟨zs,H2,I2,rz,q2⟩=>⟨I2.kIn,?_⟩;rw [hks];exact vE_ F hr hb hx I2 .nil rz q2
end
section
variable{X:Cx}{CX:CXT}{k:Nat}{f C:Addr}{fd:FuncData}{ps ks:List Str}{sp:Sp}{E:XK}{x m:Str}{p pos apos:Pos}{o:Expr}{es:List Expr}{kws:List Keyword}{ta:TE}{t tk:TA}{g:List Value->List Value->List Value}{gV:List V->List V->List V}
theorem uI_{pins:List (Addr×Obj)}{σ:L2.St}{H:Hp}{s:Shared}{Q:VK}{us ws:List Value}{vs zs:List V}(M:Mk X.K C f)(F:FnOk X.prog X.w X.K X.mg X.base CX k f fd ps sp)(hr:Room (k+1) X.A)(hb:KBinds X.K fd ps ks g gV)
  (hx:yQ_ CX X E) (I:Inv X pins σ H s) (r:Vals vs us) (rz:Vals zs ws)
  (h:∀ x dx,H x=none->H dx=none->dx≠x->sp (gV (.ref x :: vs) zs) (upd (upd H dx (.own x)) x (.ins C dx [])) (λv H2=>v=.non/\Q (.ref x) H2) E) :
  wpAny (model X.prog X.w) X.A (call (.ref C) us (ks.zip ws)) (EP X pins σ Q) X.xe s:=by
 have hq:=h (s.heap.objs.size+1) s.heap.objs.size (I.hok.fresh (Nat.le_succ _)) (I.hok.fresh (Nat.le_refl _)) (Nat.ne_of_lt (Nat.lt_succ_self _));have I2:=Inv.made (C:=C) I;have r2:Vals (gV (.ref (s.heap.objs.size+1) :: vs) zs) (g (.ref (s.heap.objs.size+1) :: us) ws):=hb.rel (.cons rfl r) rz;have hl:(g (.ref (s.heap.objs.size+1) :: us) ws).length=ps.length:=by rw [<-r2.length];exact F.len _ _ _ _ hq
 refine wpAny_call (pt_ (f:=f) I.kIn M.makes M.init (beq_iff_eq.mp M.fn) (codeAny_mono (F.run _ X.stack _ _ ⟨.ref (s.heap.objs.size+1) :: us,ks.zip ws⟩ _ _ _ E (hr.make C us (ks.zip ws)) (I2.env0.make C us (ks.zip ws)) (hb.to _ _ ws I2.kIn hl) r2 hq) λr s' hq' => ?_));cases r with
 | error e=>exact hx pins σ _ _ e s' I2 hq'
 | ok fl =>
  cases fl with
  | ret u =>
   obtain ⟨v,H',I3,rv,ev,q3⟩:=I2.after hq';subst ev;exact ⟨rv,⟨.ref (s.heap.objs.size+1),H',I3,rfl,q3⟩⟩
  | next=>exact False.elim hq'
  | brk=>exact False.elim hq'
  | cont=>exact False.elim hq'
noncomputable def jf_(C:Addr)(sp:Sp)(gV:List V->List V->List V)(E:XK)(t tk:TA):TE:=λσ H Q=>t σ H λvs H1=>tk σ H1 λzs H2 => ∀ x dx,H2 x=none->H2 dx=none->dx≠x ->
 sp (gV (.ref x :: vs) zs) (upd (upd H2 dx (.own x)) x (.ins C dx [])) (λv H3=>v=.non/\Q (.ref x) H3) E
theorem rE_(M:Mk X.K C f)(F:FnOk X.prog X.w X.K X.mg X.base CX k f fd ps sp)(hr:Room (k+1) X.A)(hg:Gl X x)(hm:X.mg x=some (.ref C))(hb:KBinds X.K fd ps ks g gV)(hx:yQ_ CX X E)
  (ha:PA X es t) (hnil:es=[] -> ∀ σ H Q,t σ H Q->Q [] H) (hkw:PK X kws tk) (hall:(backToKw pos (keywordEach kws X.env)).all (·.1.isSome)=true) (hks:(backToKw pos (keywordEach kws X.env)).filterMap (·.1)=ks)
  (hdb:(x == ("__debug__" : Str))=false) (hst:es.any isStar=false) (hno:(backToKw pos (keywordEach kws X.env)).any (·.1.isNone)=false) :
  PE X (.Call (.Name x p) es kws pos) (jf_ C sp gV E t tk):=by
 intro pins s σ H Q I h;refine wpAny_Call_Name_kw (xw_ I hg hm ?_ hdb);cases es with
 | cons e es =>
  rw [List.any_cons,Bool.or_eq_false_iff] at hst;refine PySem.W.callWith_KW (h₀ := X.base) I.ok.mod.kin M.kp hall (thn (ha pos pins s σ H _ I h) λus s1 ⟨vs,H1,I1,r,q⟩ => ?_) ?_ (zx_ hst.1 _)
  .refine thn (hkw pos pins s1 σ H1 _ I1 q) λws s2 ⟨zs,H2,I2,rz,q2⟩=>⟨I2.kIn,?_⟩
   rw [hks];exact uI_ M F hr hb hx I2 r rz q2
  .rw [zx_ hst.1]
   show ((false || (backTo pos (starEach es X.env)).any (·.1)) || _)=false;rw [yo_ hst.2,hno]
   rfl
 | nil =>
  have q:=hnil rfl σ H _ h;refine PySem.W.callWith_KW0 (h₀ := X.base) I.ok.mod.kin M.kp hall ?_ (by show (false || _)=false;rw [hno];rfl)
  refine thn (hkw pos pins s σ H _ I q) λws s2 ⟨zs,H2,I2,rz,q2⟩=>⟨I2.kIn,?_⟩;rw [hks];exact uI_ M F hr hb hx I2 .nil rz q2
noncomputable def jA_(X:Cx)(CX:CXT)(k:Nat)(m:Str)(ks:List Str)(E:XK)(ta:TE)(t tk:TA):TE:=λσ H Q=>ta σ H λx H1 => ∃ (a C dx:Addr) (fs:List (Str×V)) (f:Addr) (fd:FuncData) (ps:List Str) (sp:Sp) (g:List Value->List Value->List Value) (gV:List V->List V->List V),
 x=.ref a/\H1 a=some (.ins C dx fs)/\fs.lookup m=none/\Cls X.K C/\Meth X.K C m f/\FnOk X.prog X.w X.K X.mg X.base CX k f fd ps sp/\KBinds X.K fd ps ks g gV/\t σ H1 λvs H2=>tk σ H2 λzs H3=>sp (gV (x :: vs) zs) H3 Q E
theorem qw_{pl:Sem Bool}(he:PE X o ta)(hr:Room k X.A)(hx:yQ_ CX X E)(ha:PA X es t)(hnil:es=[] -> ∀ σ H Q,t σ H Q->Q [] H)(hkw:PK X kws tk)(hall:(backToKw pos (keywordEach kws X.env)).all (·.1.isSome)=true)(hks:(backToKw pos (keywordEach kws X.env)).filterMap (·.1)=ks)
  (hst:es.any isStar=false) (hno:(backToKw pos (keywordEach kws X.env)).any (·.1.isNone)=false)
  (ht:eval (.Call (.Attribute o m apos) es kws pos) X.env=(do
   let ov <- eval o X.env
   standAt apos.atName
   let (f,first) <- holding [ov] (getMethod ov m pl)
   callWith pos f first (backTo pos (starEach es X.env)) (backToKw pos (keywordEach kws X.env)))) :
  PE X (.Call (.Attribute o m apos) es kws pos) (jA_ X CX k m ks E ta t tk):=by
 intro pins s σ H Q I h;refine PySem.W.methodCall_KW (pl:=pl) (thn (he pins s σ H _ I h) λu s1 hz => ?_) ht;obtain ⟨x,H1,I1,rx,a,C,dx,fs,f,fd,ps,sp,g,gV,ex,ea,l,c,hm,F,hb,q⟩:=hz;subst ex;obtain rfl:u=Value.ref a:=rx;refine sz_ I1 ea c hm l ?_;cases es with
 | cons e es =>
  rw [List.any_cons,Bool.or_eq_false_iff] at hst;refine PySem.W.callWith_KW (first:=[.ref a]) (h₀ := X.base) I.ok.mod.kin hm.kp hall (thn (ha pos pins s1 σ H1 _ I1 q) λus s2 ⟨vs,H2,I2,r,q2⟩ => ?_) ?_ (zx_ hst.1 _)
  .refine thn (hkw pos pins s2 σ H2 _ I2 q2) λws s3 ⟨zs,H3,I3,rz,q3⟩=>⟨I3.kIn,?_⟩
   rw [hks];exact vE_ (us := .ref a :: us) (vs := .ref a :: vs) F hr hb hx I3 (.cons rfl r) rz q3
  .rw [zx_ hst.1]
   show ((false || (backTo pos (starEach es X.env)).any (·.1)) || _)=false;rw [yo_ hst.2,hno]
   rfl
 | nil =>
  have q:=hnil rfl σ H1 _ q;refine PySem.W.callWith_KW0 (first:=[.ref a]) (h₀ := X.base) I.ok.mod.kin hm.kp hall ?_ (by show (false || _)=false;rw [hno];rfl)
  refine thn (hkw pos pins s1 σ H1 _ I1 q) λws s3 ⟨zs,H3,I3,rz,q3⟩=>⟨I3.kIn,?_⟩;rw [hks];exact vE_ (us:=[.ref a]) (vs:=[.ref a]) F hr hb hx I3 (.cons rfl .nil) rz q3
end
section
variable{X:Cx}{W:XQ}{r:L}{pos p apos:Pos}{fns:List Fn}{fu d i k nd:Nat}{x m:Str}{f:Addr}{fd:FuncData}{F:KF}{ddV:List (Str×V)}{dd:List (Str×Value)}{es:List Expr}{kws:List Keyword}{es' ks':List E}
theorem ry_{K:Frag}(KO:KFok K fd F nd ddV dd)(ρ:List Addr)(H:Hp):F2 (PR (RV K ρ H)) F.dd ddV:=by
 have:=KO.urel;revert this;generalize F.dd=l1;generalize ddV=l2;intro this
 induction this with
 | nil=>exact .nil
 | cons r _ ih=>exact .cons ⟨r.1,r.2 _ _⟩ ih
theorem kL_{us:List U}{g:G}{np:Nat}{K:Frag}{W:XQ}{ρ:List Addr}{H:Hp}{Q:VK}(hnp:∀ F',fns[i]? = some F'->F'.np=np)(p:post K W (RV K) (zb_ fns fu d i us g) ρ H Q):us.length=np:=by
 cases d with
 | zero=>exact p.elim
 | succ d =>
  simp only [zb_] at p;cases e:fns[i]? with
  | none=>rw [e] at p;exact p.elim
  | some F' =>
   rw [e] at p;simp only [nV_] at p;split at p
   .rename_i hl;rw [hl];exact hnp F' e
   .exact p.elim
theorem rO_(O:FnOk X.prog X.w X.K X.mg X.base CX0 k f fd (F.ns++F.ks) (spI X.K fns d i (F.ns++F.ks).length))(hnp:∀ F',fns[i]? = some F'->F'.np=(F.ns++F.ks).length)(KO:KFok X.K fd F nd ddV dd)(hne:F.ns++F.ks≠[])
  (hsh:yF_ F nd es'.length (zr_ kws)=true) (hkw:kwOk kws=true) (hel:es'.length=es.length) (hkl:ks'.length=kws.length) (hr:Room k X.A) (hg:Gl X x) (hm:X.mg x=some (.ref f)) (hk:keepIn X.K (.ref f)=true) (hdb:(x == ("__debug__" : Str))=false)
  (ha:PA X es (tAr X.K W0 (evs r.ev es'))) (hka:PK X kws (tAr X.K W0 (evs r.ev ks'))) (hst:es.any isStar=false) :
  PE X (.Call (.Name x p) es kws pos) (tE X.K W0 (evF (zb_ fns fu d) r (.callk i es' ks' (mo_ F es'.length (zr_ kws))))):=by
 obtain ⟨k1,k2,k3⟩:=wJ_ (pos:=pos) (env:=X.env) hkw;refine (qk_ O hr hg hm hk (KO.binds hsh hne) r5_ ha (λe σ H Q ⟨σu,ρ,g,hs,hg,p⟩=>by subst e;cases es' with | nil=>exact post.okHere (R:=RVs X.K) (u:=[]) p hg rfl | cons=>cases hel) hka k1 k2 hdb hst k3).imp λσ H Q ⟨σu,ρ,g,hs,hg,p⟩ => ?_
 refine ⟨σu,ρ,g,hs,hg,(vb_ (R:=RVs X.K) p).mono λvs H1 ⟨ρ1,us,g1,s1,h1,rs,p1⟩ => ?_⟩;refine ⟨σu,ρ1,g1,hs.step s1,h1,(vb_ (R:=RVs X.K) p1).mono λzs H2 ⟨ρ2,ws,g2,s2,h2,rz,p2⟩ => ?_⟩;split at p2
 .rename_i hc
  obtain ⟨c1,c2⟩:=hc;have c2':ws.length=(zr_ kws).length:=by rw [c2,hkl,t7_ hkw]
  have rs':=RVs.step s2 _ _ rs;have hv:vs.length=es'.length/\zs.length=(zr_ kws).length:=⟨by rw [<-rs'.length];exact c1,by rw [<-rz.length];exact c2'⟩
  rw [xI_ c1 c2'] at p2;refine ⟨fu,ρ2,g2,_,h2,?_,kL_ hnp p2,p2⟩;dsimp only;rw [if_pos hv];exact (yB_ (ry_ KO ρ2 H2) (.rvs rs') (.rvs rz)).toRvs
 .exact p2.elim
theorem ua_{x:U}{g:G}{q:Nat×List (Nat×U)}(e:yz_ x g=some q):∃ n,x=.ref n/\g[n]? = some (.ins q.1 q.2):=by
 unfold yz_ at e;split at e
 .split at e
  .rename_i h;cases e;exact ⟨_,rfl,h⟩
  .cases e
 .cases e
theorem kF_{C:Addr}{c:Nat}(M:Mk X.K C f)(hC:nsIn X.K mainGlobals (x6_ c)=some (some (.ref C)))(O:FnOk X.prog X.w X.K X.mg X.base CX0 k f fd (F.ns++F.ks) (spI X.K fns d i (F.ns++F.ks).length))(hnp:∀ F',fns[i]? = some F'->F'.np=(F.ns++F.ks).length)(KO:KFok X.K fd F nd ddV dd)(hne:F.ns++F.ks≠[])
  (hsh:yF_ F nd (es'.length+1) (zr_ kws)=true) (hkw:kwOk kws=true) (hel:es'.length=es.length) (hkl:ks'.length=kws.length) (hr:Room (k+1) X.A) (hg:Gl X x) (hm:X.mg x=some (.ref C)) (hdb:(x == ("__debug__" : Str))=false)
  (ha:PA X es (tAr X.K W0 (evs r.ev es'))) (hka:PK X kws (tAr X.K W0 (evs r.ev ks'))) (hst:es.any isStar=false) :
  PE X (.Call (.Name x p) es kws pos) (tE X.K W0 (evF (zb_ fns fu d) r (.make c i es' ks' (mo_ F (es'.length+1) (zr_ kws))))):=by
 obtain ⟨k1,k2,k3⟩:=wJ_ (pos:=pos) (env:=X.env) hkw;refine (rE_ M O hr hg hm (KO.binds hsh hne) r5_ ha (λe σ H Q ⟨σu,ρ,g,hs,hg,p⟩=>by subst e;cases es' with | nil=>exact post.okHere (R:=RVs X.K) (u:=[]) p hg rfl | cons=>cases hel) hka k1 k2 hdb hst k3).imp λσ H Q ⟨σu,ρ,g,hs,hg,p⟩ => ?_
 refine ⟨σu,ρ,g,hs,hg,(post.bind (R:=RVs X.K) p).mono λvs H1 ⟨ρ1,us,g1,s1,h1,rs,p1⟩ => ?_⟩;refine ⟨σu,ρ1,g1,hs.step s1,h1,(post.bind (R:=RVs X.K) p1).mono λzs H2 ⟨ρ2,ws,g2,s2,h2,rz,p2⟩ => ?_⟩;intro a dx ha hdx hne';split at p2
 .rename_i hc
  obtain ⟨c1,c2⟩:=hc;have c2':ws.length=(zr_ kws).length:=by rw [c2,hkl,t7_ hkw]
  have hax:(upd H2 dx (.own a)) a=none:=by rw [zg_ (Ne.symm hne')];exact ha
  have st:Stp X.K ρ2 H2 (ρ2++[a]) (upd (upd H2 dx (.own a)) a (.ins C dx [])):=(Stp.fresh hdx).trans (Stp.alloc hax);have rh:RH X.K (ρ2++[a]) (upd (upd H2 dx (.own a)) a (.ins C dx [])) (g2++[.ins c []]):=(h2.step_fresh hdx).allocO hax ⟨C,dx,[],rfl,hC,rfl⟩;have rs':=RVs.step st _ _ (RVs.step s2 _ _ rs);have rz':=RVs.step st _ _ rz;have rx:RV X.K (ρ2++[a]) (upd (upd H2 dx (.own a)) a (.ins C dx [])) (.ref g2.length) (.ref a):=⟨a,rfl,by rw [<-h2.len];simp⟩
  have hv:(V.ref a :: vs).length=es'.length+1/\zs.length=(zr_ kws).length:=⟨by rw [List.length_cons,<-rs'.length,c1],by rw [<-rz.length];exact c2'⟩
  have e1:(U.ref g2.length :: us).length=es'.length+1:=by rw [List.length_cons,c1]
  rw [show (U.ref g2.length :: us++ws)=(U.ref g2.length :: us)++ws from rfl,xI_ (us:=U.ref g2.length :: us) e1 c2'] at p2;have p3:post X.K W0 (RV X.K) (zb_ fns fu d i (place F.ns F.ks (zr_ kws) F.dd (U.ref g2.length :: us) ws) (g2++[.ins c []])) (ρ2++[a]) (upd (upd H2 dx (.own a)) a (.ins C dx [])) (λv H3=>v=.non/\Q (.ref a) H3):=by
   refine (post.bind (R:=RV X.K) (p2.from st)).mono λv H3 ⟨ρ3,u,g3,s3,h3,r3,q3⟩ => ?_;split at q3
   .rename_i hu
    have e:=wj_ r3;rw [hu] at e;exact ⟨of_decide_eq_true e.symm,post.okHere q3 h3 (RV.step s3 _ _ rx)⟩
   .exact q3.elim
  refine ⟨fu,_,_,_,rh,?_,kL_ hnp p3,p3⟩;dsimp only;rw [if_pos hv];exact (yB_ (ry_ KO _ _) (F2.cons rx (.rvs rs')) (.rvs rz')).toRvs
 .exact p2.elim
noncomputable def am_(X:Cx)(fns:List Fn)(d k:Nat)(m:Str)(np:Nat)(kw:List Str)(tb:List (Nat×Nat×List (Nat ⊕ U))):Prop := ∀ c i pm,tb.lookup c=some (i,pm) -> ∃ C f fd F nd ddV dd,nsIn X.K mainGlobals (x6_ c)=some (some (.ref C))/\Cls X.K C/\Meth X.K C m f/\KFok X.K fd F nd ddV dd/\F.ns++F.ks≠[] /\
 yF_ F nd (np+1) kw=true/\pm=mo_ F (np+1) kw/\FnOk X.prog X.w X.K X.mg X.base CX0 k f fd (F.ns++F.ks) (spI X.K fns d i (F.ns++F.ks).length) /\ ∀ F',fns[i]? = some F'->F'.np=(F.ns++F.ks).length
theorem mY_{o:Expr}{o':E}{j:Nat}{tb:List (Nat×Nat×List (Nat ⊕ U))}{pl:Sem Bool}(ho:PE X o (tE X.K W0 (r.ev o')))(hj:j < w5_)(hm:x6_ j=m)(hM:am_ X fns d k m es'.length (zr_ kws) tb)(hkw:kwOk kws=true)(hel:es'.length=es.length)(hkl:ks'.length=kws.length)(hr:Room k X.A)
  (ha:PA X es (tAr X.K W0 (evs r.ev es'))) (hka:PK X kws (tAr X.K W0 (evs r.ev ks'))) (hst:es.any isStar=false)
  (ht:eval (.Call (.Attribute o m apos) es kws pos) X.env=(do
   let ov <- eval o X.env
   standAt apos.atName
   let (f,first) <- holding [ov] (getMethod ov m pl)
   callWith pos f first (backTo pos (starEach es X.env)) (backToKw pos (keywordEach kws X.env)))) :
  PE X (.Call (.Attribute o m apos) es kws pos) (tE X.K W0 (evF (zb_ fns fu d) r (.meth o' j tb es' ks'))):=by
 obtain ⟨k1,k2,k3⟩:=wJ_ (pos:=pos) (env:=X.env) hkw;refine (qw_ ho hr r5_ ha (λe σ H Q ⟨σu,ρ,g,hs,hg,p⟩=>by subst e;cases es' with | nil=>exact post.okHere (R:=RVs X.K) (u:=[]) p hg rfl | cons=>cases hel) hka k1 k2 hst k3 ht).imp λσ H Q hp=>one hp λσu ρ H g u x hs hg r1 p => ?_
 cases ei:yz_ u g with
 | none=>rw [ei] at p;exact p.elim
 | some q =>
  rw [ei] at p;simp only [Option.bind_some] at p;obtain ⟨n,rfl,eg⟩:=ua_ ei;obtain ⟨a,C,dx,fs,c1,c2,c3,c4⟩:=hg.ins eg;obtain ⟨a',rfl,z⟩:=r1;rw [c1] at z;cases z;unfold y4_ at p;rcases c4.look hj with ⟨l1,l2⟩ | ⟨u,v,l1,_,_⟩
  .rw [l1] at p
   dsimp only at p;cases et:tb.lookup q.1 with
   | none=>rw [et] at p;exact p.elim
   | some ip =>
    obtain ⟨i,pm⟩:=ip;rw [et] at p;dsimp only at p;obtain ⟨C',f,fd,F,nd,ddV,dd,m1,m2,m3,KO,hne,hsh,rfl,O,hnp⟩:=hM q.1 i pm et;rw [c3] at m1;cases m1;refine ⟨a,C,dx,fs,f,fd,_,_,_,_,rfl,c2,by rw [<-hm];exact l2,m2,m3,O,KO.binds hsh hne,σu,ρ,g,hs,hg,(post.bind (R:=RVs X.K) p).mono λvs H1 ⟨ρ1,us,g1,s1,h1,rs,p1⟩ => ?_⟩
    refine ⟨σu,ρ1,g1,hs.step s1,h1,(post.bind (R:=RVs X.K) p1).mono λzs H2 ⟨ρ2,ws,g2,s2,h2,rz,p2⟩ => ?_⟩;split at p2
    .rename_i hc
     obtain ⟨c1',c2'⟩:=hc;have c2':ws.length=(zr_ kws).length:=by rw [c2',hkl,t7_ hkw]
     have rs':=RVs.step s2 _ _ rs;have rx:RV X.K ρ2 H2 (.ref n) (.ref a):=⟨a,rfl,s2.ext _ _ (s1.ext _ _ c1)⟩;have hv:(V.ref a :: vs).length=es'.length+1/\zs.length=(zr_ kws).length:=⟨by rw [List.length_cons,<-rs'.length,c1'],by rw [<-rz.length];exact c2'⟩
     have e1:(U.ref n :: us).length=es'.length+1:=by rw [List.length_cons,c1']
     rw [show (U.ref n :: us++ws)=(U.ref n :: us)++ws from rfl,xI_ (us:=U.ref n :: us) e1 c2'] at p2;refine ⟨fu,ρ2,g2,_,h2,?_,kL_ hnp p2,p2⟩
     try dsimp only
     rw [if_pos hv];exact (yB_ (ry_ KO _ _) (F2.cons rx (.rvs rs')) (.rvs rz)).toRvs
    .exact p2.elim
  .rw [l1] at p;exact p.elim
noncomputable def i6_(K:Frag)(f:Str)(cs:List Nat):Prop := ∀ c,cs.contains c=true -> ∃ C,nsIn K mainGlobals (x6_ c)=some (some (.ref C))/\Cls K C/\NoAttr K C f
theorem f2_{C:Nat->List U->G->Out U}{e:Expr}{e':E}{j:Nat}{cs:List Nat}(he:PE X e (tE X.K W (r.ev e')))(hb:attributeBase e m X.env (eval e X.env)=eval e X.env)(hj:j < w5_)(hm:x6_ j=m)(hF:i6_ X.K m cs):PE X (.Attribute e m pos) (tE X.K W (evF C r (.fld e' j cs))):=by
 refine (it_ he hb).imp λσ H Q hp=>one hp λσu ρ H g u x hs hg r1 p => ?_;obtain ⟨w,e0,p'⟩:=post.lift p;clear p;cases ei:yz_ u g with
 | none=>rw [ei] at e0;cases e0
 | some q =>
  rw [ei] at e0;simp only [Option.bind_some,uU_] at e0;split at e0
  .rename_i hc
   obtain ⟨n,rfl,eg⟩:=ua_ ei;obtain ⟨a,C,dx,fs,c1,c2,c3,c4⟩:=hg.ins eg;obtain ⟨a',rfl,z⟩:=r1;rw [c1] at z;cases z;obtain ⟨C',d1,d2,d3⟩:=hF q.1 hc;rw [c3] at d1;cases d1;rcases c4.look hj with ⟨l1,_⟩ | ⟨u,v,l1,l2,rv⟩
   .rw [l1] at e0;cases e0
   .rw [l1] at e0;cases e0
    exact ⟨a,C,dx,fs,v,rfl,c2,d2,d3,by rw [<-hm];exact l2,post.okHere p' hg rv⟩
  .cases e0
theorem kl_{o e:Expr}{o' e':E}{j:Nat}{cs:List Nat}{pos':Pos}(ho:PE X o (tE X.K W (r.ev o')))(he:PE X e (tE X.K W (r.ev e')))(hs:swapsWith e (some (.Attribute o m pos')) pos.line X.env=pure false)(hj:j < w5_)(hm:x6_ j=m)(hF:i6_ X.K m cs):PS X (.Assign [.Attribute o m pos'] e pos) (tSt X.K W (s1F r (.fset o' j cs e'))):=by
 refine (iN_ ho he hs).imp λD σ H ⟨σu,ρ,g,hs,hg,p⟩ => ?_;refine ⟨σu,ρ,g,hs,hg,(postS.bind (R:=RV X.K) p).mono λy H1 ⟨ρ1,u,g1,s1,h1,ry,p1⟩ => ?_⟩;refine ⟨σu,ρ1,g1,hs.step s1,h1,(postS.bind (R:=RV X.K) p1).mono λx H2 ⟨ρ2,w,g2,s2,h2,rx,p2⟩ => ?_⟩;have ry':=RV.step s2 _ _ ry;cases ef:yO_ w j cs u g2 with
 | none=>rw [ef] at p2;exact p2.elim
 | some g' =>
  rw [ef] at p2;unfold yO_ at ef;split at ef
  .split at ef
   .rename_i n c fs eg
    split at ef
    .rename_i hc
     cases ef;obtain ⟨a,C,dx,fs',c1,c2,c3,c4⟩:=h2.ins eg;obtain ⟨a',rfl,z⟩:=rx;rw [c1] at z;cases z;obtain ⟨C',d1,d2,d3⟩:=hF c hc.1;rw [c3] at d1;cases d1;refine ⟨a,C,dx,fs',rfl,c2,d2,d3,by rw [<-c4.length];exact hc.2,?_⟩
     have st:Stp X.K ρ2 H2 ρ2 (upd H2 a (.ins C dx (vz_ m y fs'))):=Stp.writeO c1 c2 trivial;refine p2 σ ρ2 _ st (h2.writeO c1 c2 trivial ⟨C,dx,_,rfl,c3,?_⟩) (((hs.step s1).step s2).step st);rw [<-hm];exact c4.put hj ry'
    .cases ef
   .cases ef
  .cases ef
end
theorem lL_{env:Env}{pos:Pos}{es:List Expr}{kws:List Keyword}(hst:es.any isStar=false)(hkw:kwOk kws=true)(hn:es.length+kws.length+1 < 30):methodCallForm (es.length+kws.length) (backTo pos (starEach es env)) (backToKw pos (keywordEach kws env))=true:=by
 unfold methodCallForm;obtain ⟨k1,_,_⟩:=wJ_ (pos:=pos) (env:=env) hkw;have h1:(backTo pos (starEach es env)).all (!·.1)=true:=by
  have:=yo_ (env:=env) (pos:=pos) hst;rw [List.any_eq_false] at this;rw [List.all_eq_true];intro x hx;simpa using this x hx
 rw [h1,k1,Bool.true_and,Bool.true_and,decide_eq_true_eq];split <;> omega
theorem qo_{o:Expr}{m:Str}{ap cp:Pos}{env:Env}{es:List Expr}{kws:List Keyword}(hb:∀ w,attributeBase o m env w=w)(hst:es.any isStar=false)(hkw:kwOk kws=true)(hn:es.length+kws.length+1 < 30)(hline:(ap.endLine == cp.line)=true):
  eval (.Call (.Attribute o m ap) es kws cp) env=(do
   let ov <- eval o env
   standAt ap.atName
   let (f,first) <- holding [ov] (getMethod ov m (do return (<- importBound o env).getD true))
   callWith cp f first (backTo cp (starEach es env)) (backToKw cp (keywordEach kws env))):=by
 have hf:=lL_ (env:=env) (pos:=cp) hst hkw hn;show (do
  let ov <- attributeBase o m env (eval o env)
  standAt ap.atName
  methodCall o m ap cp env ov (es.length+kws.length) (backTo cp (starEach es env)) (backToKw cp (keywordEach kws env)))=_
 rw [hb];unfold methodCall calleeOf methodCallPos;rw [hf];simp only [if_true,hline,Bool.or_true,pure_bind]
theorem base_of{o:Expr}{m:Str}{env:Env}(h:wH_ o=false)(w:Sem Value):attributeBase o m env w=w:=by
 cases o <;> first | rfl | cases h
open PySem PySem.Spec PyProof.Rows L2
structure XOk(T:Tab)(fns:List Fn)(d:Nat)(X:Cx)(sc:Scope)(N:List Str):Prop where
 hF:∀ (i:Nat) (x:Str),T.fns[i]? = some x->(x == ("__debug__" : Str))=false -> ∃ f fd ps,X.mg x=some (.ref f)/\PySem.W.keepIn X.K (.ref f)=true/\Binds X.K fd ps []/\FnOk X.prog X.w X.K X.mg X.base CX0 (2*d+2) f fd ps (spI X.K fns d i ps.length) /\ ∀ F,fns[i]? = some F->F.np=ps.length
 cs:∀ x u,T.cs.lookup x=some u -> ∃ v val,X.mg x=some val/\RelV v val /\ ∀ ρ H,RV X.K ρ H u v
 bt:∀ x∈T.bt,X.mg x=none
 hK:∀ (y:Str) (i:Nat) (F:KF) (nd:Nat),T.kf.lookup y=some (i,F,nd) -> ∃ f fd ddV dd,X.mg y=some (.ref f)/\PySem.W.keepIn X.K (.ref f)=true/\KFok X.K fd F nd ddV dd/\F.ns++F.ks≠[]/\FnOk X.prog X.w X.K X.mg X.base CX0 (2*d+2) f fd (F.ns++F.ks) (spI X.K fns d i (F.ns++F.ks).length) /\ ∀ F',fns[i]? = some F'->F'.np=(F.ns++F.ks).length
 hC:∀ (y:Str) (c i:Nat) (F:KF) (nd:Nat),T.cl.lookup y=some (c,i,F,nd) -> ∃ C f fd ddV dd,X.mg y=some (.ref C)/\Mk X.K C f/\PySem.W.nsIn X.K mainGlobals (x6_ c)=some (some (.ref C))/\KFok X.K fd F nd ddV dd/\F.ns++F.ks≠[]/\FnOk X.prog X.w X.K X.mg X.base CX0 (2*d+2) f fd (F.ns++F.ks) (spI X.K fns d i (F.ns++F.ks).length) /\ ∀ F',fns[i]? = some F'->F'.np=(F.ns++F.ks).length
 hT:∀ (m:Str) (l:List (Nat×Nat×KF×Nat)),T.mt.lookup m=some l -> ∀ c i F nd,(c,i,F,nd)∈l -> ∃ C f fd ddV dd,PySem.W.nsIn X.K mainGlobals (x6_ c)=some (some (.ref C))/\Cls X.K C/\Meth X.K C m f/\KFok X.K fd F nd ddV dd/\F.ns++F.ks≠[]/\FnOk X.prog X.w X.K X.mg X.base CX0 (2*d+2) f fd (F.ns++F.ks) (spI X.K fns d i (F.ns++F.ks).length) /\ ∀ F',fns[i]? = some F'->F'.np=(F.ns++F.ks).length
 hA:∀ (f:Str) (cs:List Nat),T.fl.lookup f=some cs->i6_ X.K f cs
 room:Room (2*d+3) X.A
 hN:X.N=N
 hsc:X.env.scope=sc
 nd:N.Nodup
 calm:X.calm=true
 xe:X.xe=λ_ _=>False
noncomputable def r2_:Expr->Bool
 | .BoolOp .. => true
 | _=>false
noncomputable def Good(X:Cx)(C:Nat->List U->G->Out U)(e:Expr)(e':E):Prop :=
 (∀ n,PE X e (tE X.K W0 ((lev C n).ev e')))/\(∀ n,PT X e (tT X.K W0 ((lev C n).ts e')))/\(r2_ e=true -> ∀ n,PW X e (tT X.K W0 ((lev C n).ts e')))
section
variable{T:Tab}{fns:List Fn}{fu d:Nat}{X:Cx}{sc:Scope}{N:List Str}{C:Nat->List U->G->Out U}
theorem qN{α:Type}{r:α}{P:Prop}(h:(none:Option α)=some r):P:=by cases h
theorem qB{α β:Type}{o:Option α}{f:α->Option β}{r:β}{P:Prop}(h:o.bind f=some r)(k:∀ a,o=some a->f a=some r->P):P:=by
 cases o with
 | none=>cases h
 | some a=>exact k a rfl h
theorem qM{α β:Type}{o:Option α}{f:α->β}{r:β}{P:Prop}(h:o.map f=some r)(k:∀ a,o=some a->f a=r->P):P:=by
 cases o with
 | none=>cases h
 | some a=>exact k a rfl (Option.some.inj h)
theorem qI{α:Type}{c:Bool}{x:Option α}{r:α}{P:Prop}(h:oif c x=some r)(k:c=true->x=some r->P):P:=by
 cases c with
 | false=>cases h
 | true=>exact k rfl h
theorem qE{α:Type}{c:Prop}[Decidable c]{x y:Option α}{r:α}{P:Prop}(h:(if c then x else y)=some r)(k1:c->x=some r->P)(k2:y=some r->P):P:=by
 by_cases hc:c
 .rw [if_pos hc] at h;exact k1 hc h
 .rw [if_neg hc] at h;exact k2 h
theorem yd_{α:Type}{l:List α}(h:wt_ l=true):l=[]:=by
 cases l with
 | nil=>rfl
 | cons _ _=>cases h
theorem tg_{ce:Expr->Option E}{k:E->E}{es:List Expr}{r:E}{P:Prop}(h:iY_ ce k es=some r)(K:∀ a a',es=[a]->ce a=some a'->k a'=r->P):P:=by
 cases es with
 | nil=>cases h
 | cons a es=>cases es with
  | nil=>exact qM h λa' h1 h2=>K a a' rfl h1 h2
  | cons _ _=>cases h
theorem l8_{ce:Expr->Option E}{k:E->E->E}{es:List Expr}{r:E}{P:Prop}(h:eL_ ce k es=some r)(K:∀ a b a' b',es=[a,b]->ce a=some a'->ce b=some b'->k a' b'=r->P):P:=by
 cases es with
 | nil=>cases h
 | cons a es=>cases es with
  | nil=>cases h
  | cons b es=>cases es with
   | nil=>exact qB h λa' h1 h=>qM h λb' h2 h3=>K a b a' b' rfl h1 h2 h3
   | cons _ _=>cases h
theorem s6_{b:Bool}(h:(!b)=true):b=false:=by cases b with
 | false=>rfl
 | true=>cases h
theorem Good.plain{e:Expr}{e':E}(pe:∀ n,PE X e (tE X.K W0 (evF C (lev C n) e')))(he:∀ whole,isTrue e X.env whole=(do let v <- whole;standAt e.pos;holding [v] (truthy v)))
  (hts:∀ r σ g,tsF r e' σ g=(r.ev e' σ g).bind λx g=>lift (tru x g) g) (hb:r2_ e=false):Good X C e e':=by
 have pe':∀ n,PE X e (tE X.K W0 ((lev C n).ev e')):=λn=>by
  cases n with
  | zero=>exact PE.bad λ_ _=>rfl
  | succ n=>exact pe n
 refine ⟨pe',λn => ?_,λh => ?_⟩
 .cases n with
  | zero=>exact PT.bad λ_ _=>rfl
  | succ n =>
   have:((lev C (n+1)).ts e')=λσ g=>((lev C n).ev e' σ g).bind λx g=>lift (tru x g) g:=by funext σ g;exact hts _ _ _
   rw [this];exact ok_ (pe' n) he
 .rw [hb] at h;cases h
theorem x5_{f:Expr->Option E}(ih:∀ e e',f e=some e'->Good X C e e'):∀ {es:List Expr} {es':List E},es.any isStar=false->zc_ (es.map f)=some es' -> ∀ n,PA X es (tAr X.K W0 (evs (lev C n).ev es'))
 | [],_,_,h=>λn=>by cases h;exact hK_
 | a :: es,es',hs,h=>λn=>by
  rw [List.any_cons,Bool.or_eq_false_iff] at hs;rw [List.map_cons] at h;cases ea:f a with
  | none=>rw [ea] at h;cases h
  | some a' =>
   rw [ea] at h;simp only [zc_] at h;cases er:zc_ (es.map f) with
   | none=>rw [er] at h;cases h
   | some r' =>
    rw [er] at h;cases h;exact la_ ((ih a a' ea).1 n) (x5_ ih hs.2 er n) (zx_ hs.1 _)
theorem tW_{f:Expr->Option E}(ih:∀ e e',f e=some e'->Good X C e e'):∀ {kws:List Keyword} {ks':List E},zc_ (kws.map λk=>f k.value)=some ks' -> ∀ n,PK X kws (tAr X.K W0 (evs (lev C n).ev ks'))
 | [],_,h=>λn=>by cases h;exact i9_.imp λσ H Q ⟨σu,ρ,g,hs,hg,p⟩=>post.okHere (R:=RVs X.K) (u:=[]) p hg rfl
 | ⟨nm,a,kp⟩ :: kws,ks',h=>λn=>by
  rw [List.map_cons] at h;cases ea:f a with
  | none=>rw [ea] at h;cases h
  | some a' =>
   rw [ea] at h;simp only [zc_] at h;cases er:zc_ (kws.map λk=>f k.value) with
   | none=>rw [er] at h;cases h
   | some r' =>
    rw [er] at h;cases h;refine (lh_ ((ih a a' ea).1 n) (tW_ ih er n)).imp λσ H Q hp=>one hp λσu ρ H g u x hs hg r1 p => ?_;refine ⟨σu,ρ,g,hs,hg,(post.bind p).mono λxs H1 ⟨ρ1,us,g1,s1,h1,rs,p1⟩ => ?_⟩;exact post.okHere (R:=RVs X.K) p1 h1 ⟨x,xs,rfl,RV.step s1 _ _ r1,rs⟩
theorem ly_{o:Operator}{o':Op}(h:dQ_ o=some o'):(o'=.add/\o = .Add)\/(o'=.sub/\o = .Sub)\/(o'=.mul/\o = .Mult)\/(o'=.fdiv/\o = .FloorDiv)\/(o'=.mod/\o = .Mod)\/(o'=.pow/\o = .Pow):=by
 cases o <;> simp only [dQ_,reduceCtorEq,Option.some.injEq] at h <;> subst h <;> simp
theorem XOk.room2(ok:XOk T fns d X sc N):Room (2*d+2) X.A:=⟨ok.room.hd,by have:=ok.room.dp;omega,by have:=ok.room.un;omega⟩
theorem XOk.units(ok:XOk T fns d X sc N):X.A.units+2 < cLine:=by have:=ok.room.units;omega
theorem xJ_(ok:XOk T fns d X sc N){o:CmpOp}{o':Cp}(h:fF_ o=some o'):vI_ X o' o:=by
 refine cz_ ok.units o' o ?_;cases o <;> simp only [fF_,reduceCtorEq,Option.some.injEq] at h <;> subst h <;> simp
theorem ts_{b:Expr}{o:CmpOp}(h:t5_ b=false):behindInMarks o b=false:=by
 cases b <;> first | rfl | cases h
theorem XOk.gl(ok:XOk T fns d X sc N){x:Str}(h:sc.names.lookup x=some .globalImplicit):Gl X x:=by
 show X.env.scope.names.lookup x=_;rw [ok.hsc];exact h
theorem tq_{x:Str}(h:i0_ x=true):(x == ("__debug__" : Str))=false/\(x == ("__classdict__" : Str))=false/\x ≠ "__name__" := by
 unfold i0_ at h;simp only [Bool.and_eq_true,Bool.not_eq_true'] at h;exact ⟨h.1.1,h.1.2,λe=>by have:=h.2;rw [e] at this;simp at this⟩
theorem kO_{x:Str}{t:Ty}(h:eB_ x=some t):x=Str.ofString (tyName t)/\bootBuiltins x=some (.type (tyName t))/\x ≠ "__name__" /\ (x == ("__debug__" : Str))=false:=by
 unfold eB_ at h;split at h
 .rename_i e;cases h;subst e;exact ⟨rfl,by rfl,by decide,by decide⟩
 split at h
 .rename_i e;cases h;subst e;exact ⟨rfl,by rfl,by decide,by decide⟩
 split at h
 .rename_i e;cases h;subst e;exact ⟨rfl,by rfl,by decide,by decide⟩
 split at h
 .rename_i e;cases h;subst e;exact ⟨rfl,by rfl,by decide,by decide⟩
 split at h
 .rename_i e;cases h;subst e;exact ⟨rfl,by rfl,by decide,by decide⟩
 .cases h
theorem sE_{b:Expr}(h:wE_ b=false):ti_ b:=by
 cases b <;> first | exact λ_ _=>rfl | cases h
section
variable{r:L}{a:Expr}{a':E}{pos p:Pos}
theorem jK_{b:Bi}{f:Str}{es:List Expr}{es':List E}(hb:biOf f=some b)(hc:X.calm=true)(hu:X.A.units+2 < cLine)(hg:Gl X f)(hm:X.mg f=none)(ha:PA X (a :: es) (tAr X.K W0 (evs r.ev es')))(hs:(a :: es).any isStar=false):
  PE X (.Call (.Name f p) (a :: es) [] pos) (tE X.K W0 (evF C r (.bi b es'))):=by
 rw [List.any_cons,Bool.or_eq_false_iff] at hs;have h1:=zx_ (env:=X.env) hs.1 es;have h2:=yo_ (env:=X.env) (pos:=pos) hs.2;unfold biOf at hb;split at hb
 .rename_i e;subst e;cases hb;exact se_bi (pe_callB call_len_seq hg hm PySem.boot_len ha (by decide) (by decide) h1 h2) imp_len
 split at hb
 .rename_i e;subst e;cases hb;exact se_bi (pe_callB call_abs hg hm (by rfl) ha (by decide) (by decide) h1 h2) imp_abs
 split at hb
 .rename_i e;subst e;cases hb;exact se_bi (pe_callTy (call_list_of.or (call_listD hc)) hg hm (by rfl) ha (by decide) (by decide) h1 h2) imp_list
 split at hb
 .rename_i e;subst e;cases hb;exact se_bi (pe_callB (call_mn hc) hg hm PyProof.Rows.boot_min ha (by decide) (by decide) h1 h2) (imp_mm λ_ _=>rfl)
 split at hb
 .rename_i e;subst e;cases hb;exact se_bi (pe_callB (call_mx hc) hg hm PyProof.Rows.boot_max ha (by decide) (by decide) h1 h2) (imp_mm λ_ _=>rfl)
 split at hb
 .rename_i e;subst e;cases hb;exact se_bi (pe_callB (call_srtX hc hu) hg hm (by rfl) ha (by decide) (by decide) h1 h2) imp_srt
 split at hb
 .rename_i e;subst e;cases hb;exact se_bi (pe_callB (call_sum hc) hg hm PyProof.Rows.boot_sum ha (by decide) (by decide) h1 h2) imp_sum
 cases hb
end
theorem zP_{α β:Type}{f:α->Option β}:∀ {l:List α} {r:List β},zc_ (l.map f)=some r->r.length=l.length
 | [],_,h=>by cases h;rfl
 | a :: l,r,h=>by
  rw [List.map_cons] at h;cases e:f a with
  | none=>rw [e] at h;cases h
  | some b =>
   rw [e] at h;obtain ⟨r',e2,rfl⟩:=Option.map_eq_some_iff.mp h;simp [zP_ e2]
theorem vJ_{f:Str}(h:kI_ f=true):x6_ (pn_ f)=f/\pn_ f < w5_:=by
 unfold kI_ at h;rw [Bool.and_eq_true,decide_eq_true_eq,decide_eq_true_eq] at h;exact h
theorem t3_(ok:XOk T fns d X sc N){ce:Expr->Option E}(ihf:∀ e e',ce e=some e'->Good X (zb_ fns fu d) e e'){f:Str}{es:List Expr}{kws:List Keyword}{e':E}(h:qB_ T sc ce f es kws=some e')(p pos:Pos):Good X (zb_ fns fu d) (.Call (.Name f p) es kws pos) e':=by
 refine qI h λhc h=>qB h λes' hes h=>qB h λks' hks h => ?_;simp only [Bool.and_eq_true,Bool.not_eq_true',beq_iff_eq] at hc;obtain ⟨⟨⟨hnm,hst⟩,hgl⟩,hkw⟩:=hc;obtain ⟨h1,h2,h3⟩:=tq_ hnm;have hl:=zP_ hes;cases hkf:T.kf.lookup f with
 | some q =>
  rw [hkf] at h;obtain ⟨i,F,nd⟩:=q;refine qI h λhsh h => ?_;cases h;obtain ⟨fa,fd,ddV,dd,q1,q2,q3,q4,q5,q6⟩:=ok.hK _ _ _ _ hkf;dsimp only at hsh ⊢;rw [<-hl] at hsh ⊢;exact .plain (λn=>rO_ q5 q6 q3 q4 hsh hkw hl (zP_ hks) ok.room2 (ok.gl hgl) q1 q2 h1 (x5_ ihf hst hes n) (tW_ ihf hks n) hst) (λ_=>rfl) (λ_ _ _=>rfl) rfl
 | none =>
  rw [hkf] at h;refine qB h λq hcl h=>qI h λhsh h => ?_;obtain ⟨c,i,F,nd⟩:=q;cases h;obtain ⟨C,fa,fd,ddV,dd,q1,q2,q3,q4,q5,q6,q7⟩:=ok.hC _ _ _ _ _ hcl;dsimp only at hsh ⊢;rw [<-hl] at hsh ⊢;exact .plain (λn=>kF_ q2 q3 q6 q7 q4 q5 hsh hkw hl (zP_ hks) ok.room (ok.gl hgl) q1 h1 (x5_ ihf hst hes n) (tW_ ihf hks n) hst) (λ_=>rfl) (λ_ _ _=>rfl) rfl
theorem wS_{α β:Type}{f:Nat×α->Nat×β}(hf:∀ e,(f e).1=e.1){c:Nat}{b:β}:∀ {l:List (Nat×α)},(l.map f).lookup c=some b -> ∃ a,(c,a)∈l/\b=(f (c,a)).2
 | [],h=>by cases h
 | (d,a) :: l,h=>by
  rw [List.map_cons,show f (d,a)=((f (d,a)).1,(f (d,a)).2) from rfl,List.lookup_cons,hf] at h;cases q:c == d with
  | true =>
   rw [q] at h;cases h;cases eq_of_beq q;exact ⟨a,List.mem_cons_self,rfl⟩
  | false =>
   rw [q] at h;obtain ⟨a',h1,h2⟩:=wS_ hf h;exact ⟨a',List.mem_cons_of_mem _ h1,h2⟩
theorem tM_(ok:XOk T fns d X sc N){ce:Expr->Option E}(ihf:∀ e e',ce e=some e'->Good X (zb_ fns fu d) e e'){o:Expr}{ap cp:Pos}{o':E}(hbs:wH_ o=false)(ho:Good X (zb_ fns fu d) o o'){m:Str}{es:List Expr}{kws:List Keyword}{e':E}(h:kk_ T ce o' m ap cp es kws=some e'):Good X (zb_ fns fu d) (.Call (.Attribute o m ap) es kws cp) e':=by
 refine qI h λhc h=>qB h λes' hes h=>qB h λks' hks h=>qB h λl hl h=>qI h λhsh h => ?_;simp only [Bool.and_eq_true,Bool.not_eq_true',decide_eq_true_eq] at hc;obtain ⟨⟨⟨⟨hnm,hst⟩,hkw⟩,hn30⟩,hline⟩:=hc;obtain ⟨h1,h2⟩:=vJ_ hnm;cases h;have hel:=zP_ hes;refine .plain (λn=>mY_ (k:=2*d+2) (ho.1 n) h2 h1 (λc i pm hlk => ?_) hkw hel (zP_ hks) ok.room2 (x5_ ihf hst hes n) (tW_ ihf hks n) hst (qo_ (base_of hbs) hst hkw hn30 hline)) (λ_=>rfl) (λ_ _ _=>rfl) rfl;obtain ⟨⟨i',F,nd⟩,hmem,hb⟩:=wS_ (f:=λe:Nat×Nat×KF×Nat=>(e.1,e.2.1,mo_ e.2.2.1 (es.length+1) (zr_ kws))) (λ_=>rfl) hlk;cases hb;obtain ⟨C,f,fd,ddV,dd,q1,q2,q3,q4,q5,q6,q7⟩:=ok.hT _ _ hl _ _ _ _ hmem;refine ⟨C,f,fd,F,nd,ddV,dd,q1,q2,q3,q4,q5,?_,by rw [hel],q6,q7⟩
 rw [hel];exact List.all_eq_true.mp hsh _ hmem
theorem fT_{a:Expr}(h:[a].any isStar=false):isStar a=false:=by simpa using h
theorem vM_{b:Bool}{x:Str}(h:u5_ b sc x=true):L2.Loc sc x/\(b=false->sc.names.lookup x=some .local):=by
 unfold u5_ at h;simp only [Bool.or_eq_true,Bool.and_eq_true,beq_iff_eq] at h;rcases h with h | ⟨h1,h2⟩
 .exact ⟨.inl h,λ_=>h⟩
 .exact ⟨.inr h2,λe=>by rw [e] at h1;cases h1⟩
theorem wg_{b:Bool}{x:Str}{i:Nat}(h:uZ_ b sc N x=some i):N[i]? = some x/\u5_ b sc x=true:=by
 unfold uZ_ at h;split at h
 .rename_i hl;exact ⟨ixOf_get h,hl⟩
 .cases h
theorem pP_{b:Bool}{x:Str}{i:Nat}(h:uZ_ b sc N x=some i):N[i]? = some x/\L2.Loc sc x/\(b=false->sc.names.lookup x=some .local):=⟨(wg_ h).1,vM_ (wg_ h).2⟩
theorem XOk.locX(ok:XOk T fns d X sc N){x:Str}(h:L2.Loc sc x):L2.Loc X.env.scope x:=by rw [ok.hsc];exact h
theorem XOk.fnX(ok:XOk T fns d X sc N){b:Bool}(hb:b=true -> ∀ x,X.fn x=true){x:Str}(h:b=false->sc.names.lookup x=some .local):X.fn x=true\/X.env.scope.names.lookup x=some .local:=by
 rw [ok.hsc];cases b with
 | true=>exact .inl (hb rfl x)
 | false=>exact .inr (h rfl)
theorem XOk.ndX(ok:XOk T fns d X sc N):X.N.Nodup:=by rw [ok.hN];exact ok.nd
theorem XOk.own(ok:XOk T fns d X sc N):PassesOwn (model X.prog X.w) X.A X.env X.xe:=by rw [ok.xe];exact PassesOwn.never
theorem uR_(ok:XOk T fns d X sc N){b:Bool}{sd:Scope}(hl:∀ x,u5_ b sd x=true->L2.Loc X.env.scope x/\(X.fn x=true\/X.env.scope.names.lookup x=some .local)){tg:Expr}{t:Tg}(h:w6_ b sd N tg=some t):PG X tg (tG X.K t):=by
 unfold w6_ at h;split at h
 .cases e:uZ_ b sd N ‹Str› with
  | none=>rw [e] at h;cases h
  | some i =>
   rw [e] at h;cases h;obtain ⟨h1,h2⟩:=wg_ e;exact d3_ ok.ndX (by rw [ok.hN];exact h1) (hl _ h2).1 (hl _ h2).2
 .rename_i ts k p
  cases e:zc_ (ts.map (vj_ b sd N)) with
  | none=>rw [e] at h;cases h
  | some is =>
   rw [e] at h;cases h;have all:∀ (ts:List Expr) (is:List Nat),zc_ (ts.map (vj_ b sd N))=some is->PGs X ts (tGs X.K is)/\(assignEach ts X.env).length=is.length/\(assignEach ts X.env).findIdx? (·.1)=none:=λts=>by
    induction ts with
    | nil=>intro is e;cases e;exact ⟨sgs_nil,rfl,rfl⟩
    | cons a ts ih =>
     intro is e;rw [List.map_cons] at e;cases ea:vj_ b sd N a with
     | none=>rw [ea] at e;cases e
     | some i =>
      rw [ea] at e;simp only [zc_] at e;cases er:zc_ (ts.map (vj_ b sd N)) with
      | none=>rw [er] at e;cases e
      | some is' =>
       rw [er] at e;cases e;obtain ⟨p1,p2,p3⟩:=ih is' er;cases a <;> simp only [vj_,reduceCtorEq] at ea
       obtain ⟨h1,h2⟩:=wg_ ea;refine ⟨pK_ ok.ndX (by rw [ok.hN];exact h1) (hl _ h2).1 (hl _ h2).2 p1,?_,?_⟩
       .show (assignEach ts X.env).length+1=_
        rw [p2];rfl
       .show List.findIdx? (·.1) ((false,_) :: assignEach ts X.env)=none
        rw [List.findIdx?_cons];simp [p3]
   obtain ⟨p1,p2,p3⟩:=all ts is e;exact du_ ok.calm p1 p2 p3
 .cases h
theorem we_(ok:XOk T fns d X sc N){b:Bool}(hb:b=true -> ∀ x,X.fn x=true){tg:Expr}{t:Tg}(h:w6_ b sc N tg=some t):PG X tg (tG X.K t):=uR_ ok (λ_ z=>⟨ok.locX (vM_ z).1,ok.fnX hb (vM_ z).2⟩) h
theorem lD_{pins:List (Addr×Obj)}{scope:Scope}{s3:Shared}{H3:Hp}{fp:List Addr}{N':List Str}{x:Str}(h:u5_ true scope x=true):L2.Loc (zk_ X pins scope s3 H3 fp N').env.scope x/\((zk_ X pins scope s3 H3 fp N').fn x=true\/(zk_ X pins scope s3 H3 fp N').env.scope.names.lookup x=some .local):=by
 have e:(zk_ X pins scope s3 H3 fp N').env.scope.names.lookup x=_:=zR_;simp only [u5_,Bool.or_eq_true,Bool.true_and,beq_iff_eq] at h;rcases h with h | h
 .rw [h] at e;exact ⟨.inl e,.inr e⟩
 .rw [h] at e;exact ⟨.inr e,.inl (beq_iff_eq.mpr h)⟩
theorem lF_{r:L}{e':E}(h:tQ_ e'=true):itF r e'=(λσ g=>(r.ev e' σ g).bind λu g=>match u with
  | .tup xs=>Out.ok (Iter.seq xs) g
  | .xn _ xs=>Out.ok (Iter.seq xs) g
  | .ref n=>match g[n]? with
   | some (.lst _) => .ok (.lst n) g
   | some (.dic kvs) => .ok (.dic n) (g.set n (.dif kvs))
   | some (.dif _) => .ok (.dic n) g
   | _ => .bad
  | _ => .bad):=by
 cases e' <;> first | rfl | cases h
theorem yJ_(ok:XOk T fns d X sc N){f:Expr->Option E}(ihf:∀ e e',f e=some e'->Good X (zb_ fns fu d) e e'){tg it:Expr}{it':E}(h:sI_ T sc f it=some it'):(∀ n,PI X tg it (tI X.K W0 (itF (lev (zb_ fns fu d) n) it'))) /\ ∀ x,foldedSetIterable it X.env x=pure x:=by
 have val:cIt f it=some it'->(∀ n,PI X tg it (tI X.K W0 (itF (lev (zb_ fns fu d) n) it'))) /\ ∀ x,foldedSetIterable it X.env x=pure x:=λh=>qI h λhs h=>qB h λe' he h=>qI h λhr h=>by
  cases h;have hs:=s6_ hs;exact ⟨λn=>by rw [lF_ hr];exact hl_ ((ihf it it' he).1 n),λx=>by cases it <;> first | rfl | cases hs⟩
 unfold sI_ at h;cases hc:v8_ it with
 | none=>rw [hc] at h;exact val h
 | some c =>
  rw [hc] at h;refine qE h (λhf h => ?_) val;obtain ⟨p,q,rfl⟩:=v9_ hc;obtain ⟨n,es⟩:=c;have hf:n = "range" := hf;subst hf;refine qI h λhc h => ?_;simp only [Bool.and_eq_true,Bool.not_eq_true',beq_iff_eq] at hc;obtain ⟨⟨h1,h2⟩,h3⟩:=hc;have hm:=ok.bt _ (List.contains_iff_mem.mp h1);cases es with
  | nil=>cases h
  | cons a es =>
   cases es with
   | nil =>
    refine qM h λa' ha e => ?_;subst e;exact ⟨λn=>lV_ (ok.gl h2) hm ((ihf _ _ ha).1 n) (zx_ (fT_ h3)),λx=>rfl⟩
   | cons b es =>
    refine l8_ (show eL_ f .rng2 (a :: b :: es)=some it' from h) λa b a' b' e1 ha hb e => ?_;cases e1;subst e;rw [List.any_cons,Bool.or_eq_false_iff] at h3;exact ⟨λn=>lU_ (ok.gl h2) hm ((ihf _ _ ha).1 n) ((ihf _ _ hb).1 n) (zx_ h3.1) (zx_ (fT_ h3.2)),λx=>rfl⟩
theorem ul_(ok:XOk T fns d X sc N){f:Expr->Option E}(ihf:∀ e e',f e=some e'->Good X (zb_ fns fu d) e e'){tg it:Expr}{it':E}(h:rQ_ T sc f tg it=some it'):(∀ n,PI X tg it (tI X.K W0 (itF (lev (zb_ fns fu d) n) it'))) /\ ∀ x,foldedSetIterable it X.env x=pure x:=by
 unfold rQ_ at h;cases hc:v8_ it with
 | none=>rw [hc] at h;exact yJ_ ok ihf h
 | some c =>
  rw [hc] at h;refine qE h (λhf h => ?_) (yJ_ ok ihf);obtain ⟨p,q,rfl⟩:=v9_ hc;obtain ⟨n,es⟩:=c;have hf:n = "enumerate" := hf;subst hf;refine qI h λhc h=>tg_ h λa a' e1 ha e => ?_;simp only [Bool.and_eq_true,Bool.not_eq_true',beq_iff_eq] at hc;obtain ⟨⟨⟨h1,h2⟩,h3⟩,h4⟩:=hc;have hm:=ok.bt _ (List.contains_iff_mem.mp h1);have e1:es=[a]:=e1;subst e1;subst e;cases tg with
  | Tuple ts k tp=>exact ⟨λn=>i5_ (ok.gl h2) hm ((ihf _ _ ha).1 n) (zx_ (fT_ h3)),λx=>rfl⟩
  | _=>cases h4
theorem sW_{scope:Scope}{env:Env}(h:env.scope=sc):relabel scope env=zS_ scope sc:=by subst h;rfl
theorem XOk.comp(ok:XOk T fns d X sc N){scope:Scope}{own fr:List Str}(nd:(own++fr).Nodup)(pins:List (Addr×Obj))(s3:Shared)(H3:Hp)(fp:List Addr):XOk T fns d (zk_ X pins scope s3 H3 fp (own++fr)) (zS_ scope sc) (own++fr) :=
 ⟨ok.hF,ok.cs,ok.bt,ok.hK,ok.hC,ok.hT,ok.hA,ok.room,rfl,sW_ ok.hsc,nd,ok.calm,rfl⟩
theorem tp_{f:Expr->Option E}(ih:∀ e e',f e=some e'->Good X C e e'):∀ {es:List Expr} {es':List E},zc_ (es.map f)=some es' -> ∀ n,PTs X es (wY_ (lev C n).ts es')
 | [],_,h=>λn=>by cases h;exact lI_
 | a :: es,es',h=>λn=>by
  rw [List.map_cons] at h;cases ea:f a with
  | none=>rw [ea] at h;cases h
  | some a' =>
   rw [ea] at h;simp only [zc_] at h;cases er:zc_ (es.map f) with
   | none=>rw [er] at h;cases h
   | some r' =>
    rw [er] at h;cases h;exact pI_ ((ih a a' ea).2.1 n) (tp_ ih er n)
theorem tC_(ok:XOk T fns d X sc N){f:Expr->Option E}(ih:∀ e e',f e=some e'->Good X (zb_ fns fu d) e e'):∀ {gs:List Comprehension} {gs':List (Tg×E×List E)},ko_ T sc N f gs=some gs'->xa_ X (zb_ fns fu d) gs gs'
 | [],_,h=>by cases h;trivial
 | g :: gs,gs',h=>qI h λha h=>qB h λt ht h=>qB h λit hit h=>qB h λcs hcs h=>qM h λr' hr e=>by
  subst e;exact ⟨eq_of_beq ha,we_ ok (λe=>by cases e) ht,tp_ ih hcs,(yJ_ ok ih hit).1,(yJ_ (tg:=g.target) ok ih hit).2,tC_ ok ih hr⟩
theorem q6_(ok:XOk T fns d X sc N){scope:Scope}{own:List Str}{frI:List Nat}(h:vG_ scope sc own (freeOf scope)=true)(hI:zc_ ((freeOf scope).map (u6_ N))=some frI):CompSc X scope own (freeOf scope) frI:=by
 unfold vG_ at h;simp only [Bool.and_eq_true,beq_iff_eq,List.all_eq_true,Bool.or_eq_true,bne_iff_ne,decide_eq_true_eq] at h;obtain ⟨⟨⟨⟨⟨⟨h1,h2⟩,h3⟩,h4⟩,h5⟩,h6⟩,h7⟩:=h;refine ⟨h1,λx hx hl=>(h2 x hx).resolve_left λz=>z hl,λx hx hl=>(h3 x hx).resolve_left λz=>z hl,λx hx hl => ?_,h5,h6,h7,?_⟩
 .show X.env.scope.names.lookup x.1=_
  rw [ok.hsc];exact (h4 x hx).resolve_left λz=>z hl
 .have all:∀ (l:List Str) (r:List Nat),zc_ (l.map (u6_ N))=some r->r.length=l.length /\ ∀ (j:Nat) (x:Str) (i:Nat),l[j]? = some x->r[j]? = some i->N[i]? = some x:=λl=>by
   induction l with
   | nil=>intro r e;cases e;exact ⟨rfl,λj x i e=>by simp at e⟩
   | cons y l ih =>
    intro r e;rw [List.map_cons] at e;cases ea:u6_ N y with
    | none=>rw [ea] at e;cases e
    | some k =>
     rw [ea] at e;simp only [zc_] at e;cases er:zc_ (l.map (u6_ N)) with
     | none=>rw [er] at e;cases e
     | some r' =>
      rw [er] at e;cases e;obtain ⟨p1,p2⟩:=ih r' er;refine ⟨by simp [p1],λj x i e1 e2 => ?_⟩
      cases j with
      | zero=>simp at e1 e2;subst e1;subst e2;exact ixOf_get ea
      | succ j=>exact p2 j x i (by simpa using e1) (by simpa using e2)
  rw [ok.hN];exact all _ _ hI
theorem oe_(ok:XOk T fns d X sc N){x:Str}{pos:Pos}{e':E}(h:iw_ T sc N x=some e'):Good X (zb_ fns fu d) (.Name x pos) e':=by
 refine qI h λhx h=>qB h λk hk h => ?_;obtain ⟨h1,h2,h3⟩:=tq_ hx;have var:(k=.local\/k=.cell\/k=.free)->(u6_ N x).map E.var=some e'->Good X (zb_ fns fu d) (.Name x pos) e':=λhk' h=>qM h λi ei e=>by
  subst e;refine .plain (λn=>io_ (by rw [ok.hN];exact ixOf_get ei) ?_ h1 h2) (λ_=>rfl) (λ_ _ _=>rfl) rfl
  show X.env.scope.names.lookup x=_\/_;rw [ok.hsc];rcases hk' with rfl | rfl | rfl
  .exact .inl hk
  .exact .inr (.inl hk)
  .exact .inr (.inr hk)
 cases k with
 | «local» => exact var (.inl rfl) h
 | cell=>exact var (.inr (.inl rfl)) h
 | free=>exact var (.inr (.inr rfl)) h
 | globalImplicit =>
  refine qM h λu ec e => ?_;subst e;obtain ⟨v,val,q1,q2,q3⟩:=ok.cs x u ec;exact .plain (λn=>uH_ (lP_ (ok.gl hk) q1 q2 h1) q3) (λ_=>rfl) (λ_ _ _=>rfl) rfl
 | globalExplicit=>exact qN h
theorem ll_{v:Const}{k:Nat}{pos:Pos}{e':E}(h:bJ_ v=some e'):Good X C (.Constant v k pos) e':=by
 cases v with
 | int i=>cases h;exact .plain (λn=>uH_ mI_ λ_ _=>rfl) (λ_=>rfl) (λ_ _ _=>rfl) rfl
 | bool b=>cases h;exact .plain (λn=>uH_ cw_ λ_ _=>rfl) (λ_=>rfl) (λ_ _ _=>rfl) rfl
 | none=>cases h;exact .plain (λn=>uH_ gv_ λ_ _=>rfl) (λ_=>rfl) (λ_ _ _=>rfl) rfl
 | str s=>cases h;exact .plain (λn=>uH_ gI_ λ_ _=>rfl) (λ_=>rfl) (λ_ _ _=>rfl) rfl
 | _=>exact qN h
section
variable{ce:Expr->Option E}(ok:XOk T fns d X sc N)(ih:∀ e e',ce e=some e'->Good X (zb_ fns fu d) e e'){e':E}{pos:Pos}
include ok in
theorem p4_(ih:∀ e e',ce e=some e'->Good X (zb_ fns fu d) e e'){a b:Expr}{o:CmpOp}(h:ff_ ce a o b=some e'):Good X (zb_ fns fu d) (.Compare a [o] [b] pos) e':=by
 refine qI h λhset h=>qB h λo' ho h=>qB h λa' ha h=>qM h λb' hb e => ?_;subst e;have hm:=ts_ (o:=o) (s6_ hset);refine ⟨λn => ?_,λn => ?_,λh=>by cases h⟩
 .cases n with
  | zero=>exact PE.bad λ_ _=>rfl
  | succ n=>exact hv_ (C:=zb_ fns fu d) (xJ_ ok ho) hm ((ih _ _ ha).1 n) ((ih _ _ hb).1 n)
 .cases n with
  | zero=>exact PT.bad λ_ _=>rfl
  | succ n =>
   cases n with
   | zero=>exact PT.bad λ_ _=>rfl
   | succ n=>exact hQ_ (C:=zb_ fns fu d) (xJ_ ok ho) hm ((ih _ _ ha).1 n) ((ih _ _ hb).1 n)
include ok in
theorem pU_(ih:∀ e e',ce e=some e'->Good X (zb_ fns fu d) e e'){a b c:Expr}{o q:CmpOp}(h:hs_ ce a o q b c=some e'):Good X (zb_ fns fu d) (.Compare a [o,q] [b,c] pos) e':=by
 refine qI h λhset h=>qB h λo' ho h=>qB h λq' hq h=>qB h λa' ha h=>qB h λb' hb h=>qM h λc' hc e => ?_;subst e;have hm:=ts_ (o:=q) (s6_ hset);refine ⟨λn => ?_,λn => ?_,λh=>by cases h⟩
 .cases n with
  | zero=>exact PE.bad λ_ _=>rfl
  | succ n=>exact pV_ (C:=zb_ fns fu d) (xJ_ ok ho) (xJ_ ok hq) hm ((ih _ _ ha).1 n) ((ih _ _ hb).1 n) ((ih _ _ hc).1 n)
 .cases n with
  | zero=>exact PT.bad λ_ _=>rfl
  | succ n =>
   cases n with
   | zero=>exact PT.bad λ_ _=>rfl
   | succ n=>exact pp_ (C:=zb_ fns fu d) (xJ_ ok ho) (xJ_ ok hq) hm ((ih _ _ ha).1 n) ((ih _ _ hb).1 n) ((ih _ _ hc).1 n)
include ok in
theorem lH_(ih:∀ e e',ce e=some e'->Good X (zb_ fns fu d) e e'){a:Expr}{os:List CmpOp}{bs:List Expr}(h:bK_ ce a os bs=some e'):Good X (zb_ fns fu d) (.Compare a os bs pos) e':=by
 cases os with
 | nil=>exact qN h
 | cons o os=>cases bs with
  | nil=>exact qN h
  | cons b bs=>cases os with
   | nil =>
    refine qI h λhb h2 => ?_;cases yd_ hb;exact p4_ ok ih h2
   | cons q os=>cases bs with
    | nil=>exact qN h
    | cons c bs =>
     refine qI h λhb h2 => ?_;rw [Bool.and_eq_true] at hb;cases yd_ hb.1;cases yd_ hb.2;exact pU_ ok ih h2
theorem lc_(ih:∀ e e',ce e=some e'->Good X (zb_ fns fu d) e e'){o:BoolOp}{es:List Expr}(h:cY_ ce o es pos=some e'):Good X (zb_ fns fu d) (.BoolOp o es pos) e':=by
 cases es with
 | nil=>exact qN h
 | cons a es=>cases es with
  | nil =>
   obtain ⟨g1,g2,g3⟩:=ih _ _ h;have pw:∀ n,PW X (.BoolOp o [a] pos) (tT X.K W0 ((lev (zb_ fns fu d) n).ts e')):=λn=>by
    cases o with
    | And=>exact l6_ (g2 n)
    | Or=>exact i2_ (g2 n)
   exact ⟨λn=>i3_ (g1 n),λn=>(pw n).pt,λ_ n=>pw n⟩
  | cons b rest=>cases o with
   | And =>
    refine qB h λa' ha h=>qM h λb' hb e => ?_;subst e;have pw:∀ n,PW X (.BoolOp .And (a :: b :: rest) pos) (tT X.K W0 ((lev (zb_ fns fu d) n).ts (.and a' b'))):=λn=>by
     cases n with
     | zero=>exact λwh pins s σ H Q I ⟨_,_,_,_,_,p⟩=>p.elim
     | succ n=>exact id_ ((ih _ _ ha).2.1 n) ((ih _ _ hb).2.2 rfl n)
    refine ⟨λn => ?_,λn=>(pw n).pt,λ_ n=>pw n⟩;cases n with
    | zero=>exact PE.bad λ_ _=>rfl
    | succ n=>exact g0_ (C:=zb_ fns fu d) ((ih _ _ ha).1 n) ((ih _ _ hb).1 n)
   | Or =>
    refine qB h λa' ha h=>qM h λb' hb e => ?_;subst e;have pw:∀ n,PW X (.BoolOp .Or (a :: b :: rest) pos) (tT X.K W0 ((lev (zb_ fns fu d) n).ts (.or a' b'))):=λn=>by
     cases n with
     | zero=>exact λwh pins s σ H Q I ⟨_,_,_,_,_,p⟩=>p.elim
     | succ n=>exact cj_ ((ih _ _ ha).2.1 n) ((ih _ _ hb).2.2 rfl n)
    refine ⟨λn => ?_,λn=>(pw n).pt,λ_ n=>pw n⟩;cases n with
    | zero=>exact PE.bad λ_ _=>rfl
    | succ n=>exact cF_ (C:=zb_ fns fu d) ((ih _ _ ha).1 n) ((ih _ _ hb).1 n)
theorem jB_(ih:∀ e e',ce e=some e'->Good X (zb_ fns fu d) e e'){o:UnaryOp}{a:Expr}(h:cUn ce o a=some e'):Good X (zb_ fns fu d) (.UnaryOp o a pos) e':=by
 cases o with
 | Not =>
  refine qM h λa' ha e => ?_;subst e;refine ⟨λn => ?_,λn => ?_,λh=>by cases h⟩
  .cases n with
   | zero=>exact PE.bad λ_ _=>rfl
   | succ n=>exact hD_ (C:=zb_ fns fu d) ((ih _ _ ha).1 n)
  .cases n with
   | zero=>exact PT.bad λ_ _=>rfl
   | succ n=>exact g4_ ((ih _ _ ha).2.1 n)
 | USub =>
  refine qM h λa' ha e => ?_;subst e;exact .plain (λn=>gU_ ((ih _ _ ha).1 n)) (λ_=>rfl) (λ_ _ _=>rfl) rfl
 | _=>exact qN h
theorem kQ_{e:Expr}(h:bI_ e=true):∃ k p q,e = .UnaryOp .USub (.Constant (.int 1) k p) q:=by
 cases e with
 | UnaryOp o a q=>cases o with
  | USub=>cases a with
   | Constant v k p=>cases v with
    | int i=>cases eq_of_beq (show (i == 1)=true from h);exact ⟨k,p,q,rfl⟩
    | _=>cases h
   | _=>cases h
  | _=>cases h
 | _=>cases h
theorem r1_{α:Type}{o:Option α}(h:cy_ o=true):o=none:=by
 cases o with
 | none=>rfl
 | some _=>cases h
theorem qZ_(ih:∀ e e',ce e=some e'->Good X (zb_ fns fu d) e e'){lo:Option Expr}{l':Option E}(h:e9_ ce lo=some l')(n:Nat):PO X lo (iP_ X.K W0 (evo (lev (zb_ fns fu d) n).ev l')):=by
 cases lo with
 | none=>cases h;exact lY_
 | some l=>exact qM h λl2 el e=>by subst e;exact l1_ ((ih _ _ el).1 n)
theorem m4_(hu:X.A.units+2 < cLine)(ih:∀ e e',ce e=some e'->Good X (zb_ fns fu d) e e'){a s:Expr}(h:e3_ ce a s=some e'):Good X (zb_ fns fu d) (.Subscript a s pos) e':=by
 unfold e3_ at h;cases hsl:wE_ s with
 | true =>
  rw [hsl] at h;cases s with
  | Slice lo hi st p=>cases st with
   | none =>
    refine qB h λa' ha h=>qB h λl' hl h=>qM h λh' hh e => ?_;subst e;exact .plain (λn=>fM_ ((ih _ _ ha).1 n) (qZ_ ih hl n) (qZ_ ih hh n)) (λ_=>rfl) (λ_ _ _=>rfl) rfl
   | some st =>
    refine qI h λhc h=>qM h λa' ha e => ?_;subst e;rw [Bool.and_eq_true,Bool.and_eq_true] at hc;cases r1_ hc.1.1;cases r1_ hc.1.2;obtain ⟨_,_,_,rfl⟩:=kQ_ hc.2;exact .plain (λn=>hL_ ((ih _ _ ha).1 n)) (λ_=>rfl) (λ_ _ _=>rfl) rfl
  | _=>exact qN h
 | false =>
  rw [hsl] at h;refine qB h λa' ha h=>qM h λb' hb e => ?_;subst e;exact .plain (λn=>jP_ (by omega) ((ih _ _ ha).1 n) ((ih _ _ hb).1 n) (sE_ hsl)) (λ_=>rfl) (λ_ _ _=>rfl) rfl
include ok in
theorem iQ_(ih:∀ e e',ce e=some e'->Good X (zb_ fns fu d) e e'){f:Str}{p:Pos}{es:List Expr}(hgl:sc.names.lookup f=some .globalImplicit)(hm:X.mg f=none)(hst:es.any isStar=false)(h:cBi ce f es=some e'):Good X (zb_ fns fu d) (.Call (.Name f p) es [] pos) e':=by
 refine qB h λb hb h=>qI h λhne h=>qM h λes' ha e => ?_;subst e;cases es with
 | nil=>cases hne
 | cons a es =>
  unfold g9_ at hb;exact .plain (λn=>jK_ hb ok.calm ok.units (ok.gl hgl) hm (x5_ ih hst ha n) hst) (λ_=>rfl) (λ_ _ _=>rfl) rfl
include ok in
theorem lA_(ih:∀ e e',ce e=some e'->Good X (zb_ fns fu d) e e'){p:Pos}{es:List Expr}(hgl:sc.names.lookup ("isinstance" : Str)=some .globalImplicit)(hm:X.mg "isinstance" = none)(hst:es.any isStar=false)(h:bl_ T sc ce es=some e'):Good X (zb_ fns fu d) (.Call (.Name "isinstance" p) es [] pos) e':=by
 cases es with
 | nil=>exact qN h
 | cons a es=>cases es with
  | nil=>exact qN h
  | cons t es =>
   refine qI h λhb h=>qB h λtn hn h=>qB h λty ht h=>qB h λa' ha h=>qI h λhc2 h9 => ?_;cases yd_ hb;obtain ⟨p2,rfl⟩:=nI_ hn;simp only [Bool.and_eq_true,beq_iff_eq] at hc2;cases h9;obtain ⟨t1,t2,t3,t4⟩:=kO_ ht;rw [List.any_cons,Bool.or_eq_false_iff] at hst;exact .plain (λn=>fq_ t1 (ok.gl hc2.2) (ok.bt tn (List.contains_iff_mem.mp hc2.1)) t2 t3 t4 (ok.gl hgl) hm ((ih _ _ ha).1 n) (zx_ hst.1)) (λ_=>rfl) (λ_ _ _=>rfl) rfl
include ok in
theorem kB_(ih:∀ e e',ce e=some e'->Good X (zb_ fns fu d) e e'){f:Str}{p:Pos}{es:List Expr}(hgl:sc.names.lookup f=some .globalImplicit)(hm:X.mg f=none)(hst:es.any isStar=false)(h:er_ T sc ce f es=some e'):Good X (zb_ fns fu d) (.Call (.Name f p) es [] pos) e':=by
 refine qE h (λhf h=>by subst hf;exact lA_ ok ih hgl hm hst h) λh => ?_
 exact iQ_ ok ih hgl hm hst h
include ok in
theorem lz_(ih:∀ e e',ce e=some e'->Good X (zb_ fns fu d) e e'){f:Str}{p:Pos}{es:List Expr}(h:c9_ T sc ce f es=some e'):Good X (zb_ fns fu d) (.Call (.Name f p) es [] pos) e':=by
 refine qI h λhc h => ?_;simp only [Bool.and_eq_true,Bool.not_eq_true',beq_iff_eq] at hc;obtain ⟨⟨hnm,hst⟩,hgl⟩:=hc;obtain ⟨h1,h2,h3⟩:=tq_ hnm;cases hi:u6_ T.fns f with
 | some i =>
  rw [hi] at h;refine qM h λes' ha e => ?_;subst e;obtain ⟨fa,fd,ps,q1,q2,q3,q4,q5⟩:=ok.hF i f (ixOf_get hi) h1;refine .plain (λn => ?_) (λ_=>rfl) (λ_ _ _=>rfl) rfl;cases es with
  | nil=>cases ha;exact pY_ q4 q5 ok.room2 (ok.gl hgl) q1 q2 q3 h1
  | cons a es =>
   have hst':=hst;rw [List.any_cons,Bool.or_eq_false_iff] at hst';exact kA_ q4 q5 ok.room2 (ok.gl hgl) q1 q2 q3 h1 (x5_ ih hst ha n) (zx_ hst'.1 _) (yo_ hst'.2)
 | none =>
  rw [hi] at h;cases hbt:T.bt.contains f with
  | true =>
   have h:(match T.bt.contains f with | true=>er_ T sc ce f es | false=>qB_ T sc ce f es [])=some e':=h
   rw [hbt] at h;exact kB_ ok ih hgl (ok.bt f (List.contains_iff_mem.mp hbt)) hst h
  | false =>
   have h:(match T.bt.contains f with | true=>er_ T sc ce f es | false=>qB_ T sc ce f es [])=some e':=h
   rw [hbt] at h;exact t3_ ok ih h _ _
include ok in
theorem iS_(ih:∀ e e',ce e=some e'->Good X (zb_ fns fu d) e e'){o:Expr}{o':E}{m:Str}{ap cp:Pos}{es:List Expr}(hbs:wH_ o=false)(ho:Good X (zb_ fns fu d) o o')(hline:(ap.endLine == cp.line)=true)(hst:es.any isStar=false)(h:cMt T ce o' m ap cp es=some e'):Good X (zb_ fns fu d) (.Call (.Attribute o m ap) es [] cp) e':=by
 refine qE h (λhf h => ?_) λh => ?_
 .subst hf
  refine tg_ h λa a' e1 ha e => ?_;subst e1;subst e;exact .plain (λn=>jc_ (ho.1 n) ((ih _ _ ha).1 n) (base_of hbs _) hline (zx_ (fT_ hst))) (λ_=>rfl) (λ_ _ _=>rfl) rfl
 refine qE h (λhf h => ?_) λh => ?_
 .subst hf
  refine tg_ h λa a' e1 ha e => ?_;subst e1;subst e;exact .plain (λn=>fb_ (ho.1 n) ((ih _ _ ha).1 n) (base_of hbs _) hline (zx_ (fT_ hst))) (λ_=>rfl) (λ_ _ _=>rfl) rfl
 refine qE h (λhf h5 => ?_) λh => ?_
 .subst hf
  cases es with
  | nil =>
   cases h5;exact .plain (λn=>gd_ (ho.1 n) (base_of hbs _) hline) (λ_=>rfl) (λ_ _ _=>rfl) rfl
  | cons b es =>
   exact qN h5
 exact tM_ ok ih hbs ho h
include ok in
theorem lx_(ih:∀ e e',ce e=some e'->Good X (zb_ fns fu d) e e'){fn:Expr}{es:List Expr}{kws:List Keyword}(h:bM_ T sc ce fn es kws pos=some e'):Good X (zb_ fns fu d) (.Call fn es kws pos) e':=by
 cases fn with
 | Name f p=>cases kws with
  | nil=>exact lz_ ok ih h
  | cons k kws=>exact t3_ ok ih h _ _
 | Attribute o m ap =>
  refine qI h λhbs h=>qB h λo' ho h => ?_;have hbs:=s6_ hbs;cases kws with
  | nil =>
   refine qI h λhc h => ?_;rw [Bool.and_eq_true] at hc;exact iS_ ok ih hbs (ih _ _ ho) hc.1 (s6_ hc.2) h
  | cons k kws=>exact tM_ ok ih hbs (ih _ _ ho) h
 | _=>exact qN h
theorem mV_(ih:∀ e e',ce e=some e'->Good X (zb_ fns fu d) e e'){keys:List (Option Expr)}{vs:List Expr}(h:bk_ ce keys vs=some e'):Good X (zb_ fns fu d) (.Dict keys vs pos) e':=by
 cases keys with
 | nil =>
  refine qI h λhe h => ?_;cases yd_ he;cases h;exact .plain (λn=>lu_) (λ_=>rfl) (λ_ _ _=>rfl) rfl
 | cons k0 keys =>
  exact qN h
include ok in
theorem tl_(ih:∀ e e',ce e=some e'->Good X (zb_ fns fu d) e e'){ci:Expr->Option E}{g:Comprehension}{rest:List Comprehension}{scope:Scope}{q:List Nat×List (Tg×E×List E)}
  (ihg:∀ {X':Cx},XOk T fns d X' (zS_ scope sc) (ownOf (g :: rest)++freeOf scope) -> ∀ e e',ci e=some e'->Good X' (zb_ fns fu d) e e') (h:dd_ T sc ce N ci g rest scope=some q) :
  ∃ t it' cs rest' frI,q=(frI,(t,it',cs) :: rest')/\CompSc X scope (ownOf (g :: rest)) (freeOf scope) frI/\g.is_async=0/\(∀ n,PI X g.target g.iter (tI X.K W0 (itF (lev (zb_ fns fu d) n) it')))/\(∀ x,foldedSetIterable g.iter X.env x=pure x) /\
   ∀ pins s3 H3 fp,XOk T fns d (zk_ X pins scope s3 H3 fp (ownOf (g :: rest)++freeOf scope)) (zS_ scope sc) (ownOf (g :: rest)++freeOf scope)/\PG (zk_ X pins scope s3 H3 fp (ownOf (g :: rest)++freeOf scope)) g.target (tG X.K t)/\(∀ n,PTs (zk_ X pins scope s3 H3 fp (ownOf (g :: rest)++freeOf scope)) g.ifs (wY_ (lev (zb_ fns fu d) n).ts cs)) /\
    xa_ (zk_ X pins scope s3 H3 fp (ownOf (g :: rest)++freeOf scope)) (zb_ fns fu d) rest rest':=by
 refine qI h λhc h=>qB h λit' hit h=>qB h λt ht h=>qB h λcs hcs h=>qB h λrest' hrest h=>qM h λfrI hfr e => ?_;rw [Bool.and_eq_true,beq_iff_eq] at hc;have S:=q6_ ok hc.1 hfr;refine ⟨t,it',cs,rest',frI,e.symm,S,hc.2,(yJ_ ok ih hit).1,(yJ_ (tg:=g.target) ok ih hit).2,λpins s3 H3 fp => ?_⟩;have ok':=ok.comp (scope:=scope) S.nd pins s3 H3 fp;exact ⟨ok',uR_ ok' (λ_=>lD_) ht,tp_ (ihg ok') hcs,tC_ ok' (ihg ok') hrest⟩
end
theorem zJ_:∀ (m:Nat) {X:Cx} {sc:Scope} {N:List Str} (ok:XOk T fns d X sc N) (e:Expr) (e':E),zK_ T sc N m e=some e'->Good X (zb_ fns fu d) e e'
 | 0,_,_,_,_,_,_,h=>by cases h
 | m+1,X,sc,N,ok,e,e',h=>by
  have ih:=zJ_ m ok;cases e with
  | Name x p=>exact oe_ ok h
  | Constant v k p=>exact ll_ h
  | BinOp a o b p =>
   refine qB h λo' ho h=>qB h λa' ha h=>qM h λb' hb e => ?_;subst e;exact .plain (λn=>pv_ (ly_ ho) ((ih _ _ ha).1 n) ((ih _ _ hb).1 n)) (λ_=>rfl) (λ_ _ _=>rfl) rfl
  | Compare a os bs p=>exact lH_ ok ih h
  | BoolOp o es p=>exact lc_ ih h
  | UnaryOp o a p=>exact jB_ ih h
  | Tuple es k p =>
   refine qI h λhs h=>qM h λa' ha e => ?_;subst e;exact .plain (λn=>jT_ (x5_ ih (s6_ hs) ha n)) (λ_=>rfl) (λ_ _ _=>rfl) rfl
  | List es p =>
   refine qI h λhs h=>qM h λa' ha e => ?_;subst e;exact .plain (λn=>ir_ (x5_ ih (s6_ hs) ha n)) (λ_=>rfl) (λ_ _ _=>rfl) rfl
  | Subscript a s p=>exact m4_ ok.units ih h
  | Call fn es kws cp=>exact lx_ ok ih h
  | Attribute o f p =>
   refine qB h λcs hcs h=>qB h λo' ho h=>qI h λhn h => ?_;cases h;rw [Bool.and_eq_true] at hn;obtain ⟨n1,n2⟩:=vJ_ hn.1;exact .plain (λn=>f2_ ((ih _ _ ho).1 n) (base_of (s6_ hn.2) _) n2 n1 (ok.hA _ _ hcs)) (λ_=>rfl) (λ_ _ _=>rfl) rfl
  | Dict keys vs p=>exact mV_ ih h
  | ListComp elt gs scope p=>cases gs with
   | nil=>exact qN h
   | cons g rest =>
    refine qB h λq hq h=>qM h λelt' he e => ?_;subst e;obtain ⟨t,it',cs,rest',frI,rfl,S,h1,h2,h3,h4⟩:=tl_ (fu:=fu) ok ih (λok'=>zJ_ m ok') hq;exact .plain (λn=>lj_ ok.calm S h1 (h2 n) h3 λpins s3 H3 fp=>⟨(h4 pins s3 H3 fp).2.1,(h4 pins s3 H3 fp).2.2.1,(h4 pins s3 H3 fp).2.2.2,(zJ_ m (h4 pins s3 H3 fp).1 _ _ he).1⟩) (λ_=>rfl) (λ_ _ _=>rfl) rfl
  | DictComp kx vx gs scope p=>cases gs with
   | nil=>exact qN h
   | cons g rest =>
    refine qB h λq hq h=>qB h λk' hk h=>qM h λv' hv e => ?_;subst e;obtain ⟨t,it',cs,rest',frI,rfl,S,h1,h2,h3,h4⟩:=tl_ (fu:=fu) ok ih (λok'=>zJ_ m ok') hq;exact .plain (λn=>ov_ ok.calm (by have:=ok.units;omega) S h1 (h2 n) h3 λpins s3 H3 fp=>⟨(h4 pins s3 H3 fp).2.1,(h4 pins s3 H3 fp).2.2.1,(h4 pins s3 H3 fp).2.2.2,(zJ_ m (h4 pins s3 H3 fp).1 _ _ hk).1,(zJ_ m (h4 pins s3 H3 fp).1 _ _ hv).1⟩) (λ_=>rfl) (λ_ _ _=>rfl) rfl
  | _=>exact qN h
theorem u1_(ok:XOk T fns d X sc N){m:Nat}{elt:Expr}{g:Comprehension}{rest:List Comprehension}{scope:Scope}{pos:Pos}{e':E}(h:zK_ T sc N (m+1) (.ListComp elt (g :: rest) scope pos)=some e'):
  ∃ t it' cs rest' elt' frI,e'=.comp (ownOf (g :: rest)).length frI ((t,it',cs) :: rest') elt'/\CompSc X scope (ownOf (g :: rest)) (freeOf scope) frI/\g.is_async=0/\(∀ n,PI X g.target g.iter (tI X.K W0 (itF (lev (zb_ fns fu d) n) it')))/\(∀ x,foldedSetIterable g.iter X.env x=pure x) /\
   ∀ pins s3 H3 fp,PG (zk_ X pins scope s3 H3 fp (ownOf (g :: rest)++freeOf scope)) g.target (tG X.K t)/\(∀ n,PTs (zk_ X pins scope s3 H3 fp (ownOf (g :: rest)++freeOf scope)) g.ifs (wY_ (lev (zb_ fns fu d) n).ts cs)) /\
    xa_ (zk_ X pins scope s3 H3 fp (ownOf (g :: rest)++freeOf scope)) (zb_ fns fu d) rest rest' /\ ∀ n,PE (zk_ X pins scope s3 H3 fp (ownOf (g :: rest)++freeOf scope)) elt (tE X.K W0 ((lev (zb_ fns fu d) n).ev elt')):=by
 refine qB h λq hq h=>qM h λelt' he e => ?_;obtain ⟨t,it',cs,rest',frI,rfl,S,h1,h2,h3,h4⟩:=tl_ (fu:=fu) ok (zJ_ m ok) (λok'=>zJ_ m ok') hq;exact ⟨t,it',cs,rest',elt',frI,e.symm,S,h1,h2,h3,λpins s3 H3 fp=>⟨(h4 pins s3 H3 fp).2.1,(h4 pins s3 H3 fp).2.2.1,(h4 pins s3 H3 fp).2.2.2,(zJ_ m (h4 pins s3 H3 fp).1 _ _ he).1⟩⟩
end
section
variable{prog:Program}{w:World}{K:Type}[DecidableEq K]{knd:HeapKind prog w K}{A:Around}{E:Value->Shared->Prop}{s:Shared}{d a:Addr}{k:K}{xs:List (K×Addr×Value)}
end
section
variable{X:Cx}{pins:List (Addr×Obj)}{σ:L2.St}{H:Hp}{s:Shared}{a b:Addr}{kvs:List (List Key×V)}{k:List Key}
end
section
variable{X:Cx}{W:XQ}{r:L}{o i:Expr}{o' i':E}{pos tpos:Pos}
end
section
variable{T:Tab}{fns:List Fn}{fu d:Nat}{X:Cx}{sc:Scope}{N:List Str}
theorem w9_{e:Expr}{t:Option Expr}{l:Nat}{env:Env}(h:xQ_ e=false):swapsWith e t l env=pure false:=by
 cases e <;> first | rfl | cases h
theorem w2_{e t:Expr}{l:Nat}{env:Env}(h:xQ_ e=false):swapsWithSole [t] e l env=pure false:=by
 cases e <;> first | rfl | cases h
theorem xh_{e:Expr}{ts:List Expr}{k:Nat}{p:Pos}{l:Nat}{env:Env}:swapsWithSole [.Tuple ts k p] e l env=pure false:=by
 cases e <;> rfl
theorem xv_{f:Stmt->Option S}(ih:∀ s s',f s=some s' -> ∀ n,PS X s (tSt X.K W0 (s1F (lev (zb_ fns fu d) n) s'))):∀ {ss:List Stmt} {ss':List S},zc_ (ss.map f)=some ss' -> ∀ n,PSs X ss (tSt X.K W0 ((lev (zb_ fns fu d) n).ex ss'))
 | [],_,h=>λn=>by
  cases h;cases n with
  | zero=>exact PSs.bad λ_ _=>rfl
  | succ n=>exact hz_ (r:=lev (zb_ fns fu d) n)
 | s :: ss,ss',h=>λn=>by
  rw [List.map_cons] at h;cases ea:f s with
  | none=>rw [ea] at h;cases h
  | some s' =>
   rw [ea] at h;simp only [zc_] at h;cases er:zc_ (ss.map f) with
   | none=>rw [er] at h;cases h
   | some r' =>
    rw [er] at h;cases h;cases n with
    | zero=>exact PSs.bad λ_ _=>rfl
    | succ n=>exact ki_ (ih s s' ea n) (xv_ ih er n)
theorem uJ_{ts:List Expr}{pt pt2:Pos}{a b:Expr}{kt k2:Nat}{env:Env}(ha:foldedForSure 8 a=true)(hb:foldedForSure 8 b=true):swappedStores [.Tuple ts kt pt] (.Tuple [a,b] k2 pt2) env=pure none:=by
 have h:[a,b].all (foldedForSure 8)=true:=by simp [ha,hb]
 unfold swappedStores;simp only [h,if_true];split
 .rfl
 .split
  .rfl
  .split <;> rfl
theorem sP_{x y:Str}{px py pt pt2:Pos}{a b:Expr}{kt k2:Nat}(ok:XOk T fns d X sc N)(hk:X.env.blockKind=.function)(h:qD_ sc x y px py a b=true):
  swappedStores [.Tuple [.Name x px,.Name y py] kt pt] (.Tuple [a,b] k2 pt2) X.env=pure (some [x,y]):=by
 unfold qD_ at h;simp only [Bool.and_eq_true,Bool.not_eq_true',beq_iff_eq] at h;obtain ⟨⟨⟨⟨⟨⟨⟨h1,h2⟩,h3⟩,h4⟩,h5⟩,h6⟩,h7⟩,h8⟩:=h;have e1:X.env.kindOf x=some .local:=by show X.env.scope.names.lookup x=_;rw [ok.hsc];exact h1
 have e2:X.env.kindOf y=some .local:=by show X.env.scope.names.lookup y=_;rw [ok.hsc];exact h2
 have nd:[x,y].eraseDups.length=2:=by
  have : ¬ (y == x)=true:=by intro z;rw [beq_iff_eq] at z;subst z;simp at h3
  simp [List.eraseDups_cons,this]
 have b0:([.Tuple [.Name x px,.Name y py] kt pt]:List Expr)=[.Tuple [.Name x px,.Name y py] kt pt]:=rfl;unfold swappedStores;simp [hk,e1,e2,h4,nd,h7,h8];have q1:∀ z:Expr,isStar z=false -> ¬ ((match z with | .Starred value pos=>true | x=>false)=true):=λz hz=>by cases z <;> first | exact Bool.false_ne_true | cases hz
 rw [if_neg (λz=>z.elim (q1 a h5) (q1 b h6))];have px':(Expr.Name x px).pos=px:=rfl;rw [px'];simp only [List.filterMap_cons,List.filterMap_nil,e1,e2,h4,true_and,and_self,if_true];simp [nd]
theorem ss_{o i:Expr}{spos:Pos}{env:Env}(h:wE_ i=false)(v:Value):assign (.Subscript o i spos) env v=(do
   let ov <- holding [v] (eval o env)
   let iv <- holding [v,ov] (eval i env)
   standAt spos
   holding [v,ov,iv] (setItem ov iv v)
   release [v,ov,iv] []):=by
 cases i <;> first | rfl | cases h
theorem sg_{α:Type}{l:List α}{p:α×α}(h:lC_ l=some p):l=[p.1,p.2]:=by
 cases l with
 | nil=>cases h
 | cons a l=>cases l with
  | nil=>cases h
  | cons b l=>cases l with
   | nil=>cases h;rfl
   | cons _ _=>cases h
theorem q9_{e:Expr}{x:Str×Pos}(h:nmP e=some x):e = .Name x.1 x.2:=by
 cases e with
 | Name y p=>cases h;rfl
 | _=>cases h
theorem lE_{e:Expr}{q:List Expr×Nat×Pos}(h:cT_ e=some q):e = .Tuple q.1 q.2.1 q.2.2:=by
 cases e with
 | Tuple es k p=>cases h;rfl
 | _=>cases h
section
variable{cE:Expr->Option E}
theorem sK_(ok:XOk T fns d X sc N)(hk:X.env.blockKind=.function)(hfn:∀ x,X.fn x=true)(ihE:∀ e e',cE e=some e'->Good X (zb_ fns fu d) e e'){ts:List Expr}{kt:Nat}{pt pos:Pos}{e:Expr}{st':S}(h:vx_ T sc N cE ts kt pt e=some st')(n:Nat):PS X (.Assign [.Tuple ts kt pt] e pos) (tSt X.K W0 (s1F (lev (zb_ fns fu d) n) st')):=by
 refine qB h λq hq h=>qB h λt ht h=>qB h λx hx h=>qB h λy hy h=>qB h λa ha h => ?_;cases lE_ hq;cases sg_ ht;rw [q9_ hx,q9_ hy] at h ⊢;rw [sg_ ha] at h ⊢;cases hp:qD_ sc x.1 y.1 x.2 y.2 a.1 a.2 with
 | true =>
  rw [hp] at h;refine qB h λi hi h=>qB h λj hj h=>qB h λa' h1 h=>qM h λb' h2 e => ?_;subst e;have hp':=hp;unfold qD_ at hp';simp only [Bool.and_eq_true,Bool.not_eq_true',beq_iff_eq] at hp';obtain ⟨⟨⟨⟨⟨⟨⟨p1,p2⟩,p3⟩,p4⟩,p5⟩,p6⟩,p7⟩,p8⟩:=hp';refine jp_ ok.calm ok.ndX (by rw [ok.hN];exact ixOf_get hi) (by rw [ok.hN];exact ixOf_get hj) ?_ (by rw [ok.hsc];exact p1) (by rw [ok.hsc];exact p2) ((ihE _ _ h1).1 n) ((ihE _ _ h2).1 n) (zx_ p5) (zx_ p6) (sP_ ok hk hp)
  intro hij;subst hij;have:=(ixOf_get hi).symm.trans (ixOf_get hj);rw [Option.some.inj this] at p3;simp at p3
 | false =>
  rw [hp] at h;refine qI h λhf h=>qB h λt ht h=>qM h λe' he e => ?_;subst e;rw [Bool.and_eq_true] at hf;exact mH_ ((ihE _ _ he).1 n) (we_ ok (λ_=>hfn) ht) xh_ (uJ_ hf.1 hf.2) rfl
end
theorem rM_(ok:XOk T fns d X sc N)(hk:X.env.blockKind=.function)(hfn:∀ x,X.fn x=true){m:Nat}{x:Str}{px:Pos}{e:Expr}{pos:Pos}{st':S}(h:oJ_ sc N (zK_ T sc N m) x px e=some st')(n:Nat):PS X (.Assign [.Name x px] e pos) (tSt X.K W0 (s1F (lev (zb_ fns fu d) n) st')):=by
 refine qI h λhc h=>qB h λi hi h=>qM h λe' he e => ?_;subst e;obtain ⟨h1,h2,h3⟩:=pP_ hi;have plain:xQ_ e=false->PS X (.Assign [.Name x px] e pos) (tSt X.K W0 (s1F (lev (zb_ fns fu d) n) (.set (.nm i) e'))):=λhc=>k8_ ok.ndX (by rw [ok.hN];exact h1) (ok.locX h2) (.inl (hfn _)) ((zJ_ m ok _ _ he).1 n) (w9_ hc)
 cases e with
 | ListComp elt gs scope p=>cases gs with
  | nil=>cases hc
  | cons g rest =>
   have hsw:cD_ sc x px scope p=true:=hc;cases m with
   | zero=>cases he
   | succ m =>
    obtain ⟨t,it',cs,rest',elt',frI,rfl,Sc,ha,hpi,hfold,inner⟩:=u1_ ok he;unfold cD_ at hsw;rw [Bool.and_eq_true,Bool.and_eq_true,beq_iff_eq,beq_iff_eq] at hsw;obtain ⟨⟨q1,q2⟩,q3⟩:=hsw;have hloc:X.env.scope.names.lookup x=some .local:=by rw [ok.hsc];exact q1
    have hkd:X.env.kindOf x=some .local:=hloc;cases n with
    | zero=>exact PS.bad λ_ _=>rfl
    | succ n =>
     refine sq_ ok.calm Sc ha (hpi n) hfold inner ok.ndX (by rw [ok.hN];exact h1) hloc ?_
     show (pure (X.env.blockKind == .function && X.env.kindOf x == some .local && px.line == p.line && !(scope.names.any λ(n,k)=>n == x && (k == .local || k == .cell))):Sem Bool)=pure true;rw [hk,hkd,q2,q3];simp
 | _=>exact plain (s6_ hc)
theorem sZ_(ok:XOk T fns d X sc N)(hk:X.env.blockKind=.function)(hfn:∀ x,X.fn x=true){m:Nat}{t e:Expr}{pos:Pos}{st':S}(h:rF_ T sc N (zK_ T sc N m) t e=some st')(n:Nat):PS X (.Assign [t] e pos) (tSt X.K W0 (s1F (lev (zb_ fns fu d) n) st')):=by
 have ihE:=zJ_ (fu:=fu) m ok;cases t with
 | Name x px=>exact rM_ ok hk hfn h n
 | Tuple ts k p =>
  cases hc:v4_ e with
  | true =>
   have h:(match v4_ e with | true=>vx_ T sc N (zK_ T sc N m) ts k p e | false=>(w6_ true sc N (.Tuple ts k p)).bind λt=>(zK_ T sc N m e).map (S.set t))=some st':=h
   rw [hc] at h;exact sK_ ok hk hfn ihE h n
  | false =>
   have h:(match v4_ e with | true=>vx_ T sc N (zK_ T sc N m) ts k p e | false=>(w6_ true sc N (.Tuple ts k p)).bind λt=>(zK_ T sc N m e).map (S.set t))=some st':=h
   rw [hc] at h;refine qB h λt ht h=>qM h λe' he e1 => ?_;subst e1;refine mH_ ((ihE _ _ he).1 n) (we_ ok (λ_=>hfn) ht) xh_ ?_ rfl;revert hc;cases e <;> first | exact λ_=>rfl | exact λh2=>nomatch h2
 | Subscript o i p =>
  refine qI h λhc h=>qB h λo' ho h=>qB h λi' hi h=>qM h λe' he e => ?_;subst e;rw [Bool.and_eq_true] at hc;exact g6_ (by have:=ok.units;omega) ((ihE _ _ he).1 n) ((ihE _ _ ho).1 n) ((ihE _ _ hi).1 n) (w2_ (s6_ hc.2)) rfl (ss_ (s6_ hc.1))
 | Attribute o f p =>
  refine qB h λx hx h=>qB h λcs hcs h=>qB h λo' ho h=>qB h λe' he h=>qI h λhn h => ?_;cases h;cases q9_ hx;obtain ⟨n1,n2⟩:=vJ_ hn;exact kl_ ((ihE _ _ ho).1 n) ((ihE _ _ he).1 n) (by unfold swapsWith;cases e <;> rfl) n2 n1 (ok.hA _ _ hcs)
 | _=>exact qN h
theorem tu_(ok:XOk T fns d X sc N)(hk:X.env.blockKind=.function)(hfn:∀ x,X.fn x=true):∀ m st st',uA_ T sc N m st=some st' -> ∀ n,PS X st (tSt X.K W0 (s1F (lev (zb_ fns fu d) n) st'))
 | 0,_,_,h=>by cases h
 | m+1,st,st',h=>λn=>by
  have ih:=tu_ ok hk hfn m;have ihE:=zJ_ (fu:=fu) m ok;cases st with
  | Return o p=>cases o with
   | none=>exact qN h
   | some e=>exact qM h λa' ha e=>by subst e;exact h3_ ((ihE _ _ ha).1 n)
  | Assign ts e p=>cases ts with
   | nil=>exact qN h
   | cons t r =>
    refine qI h λhr h => ?_;cases yd_ hr;exact sZ_ ok hk hfn h n
  | Expr e p=>exact qI h λhc h=>qM h λa' ha e=>by subst e;exact hJ_ ((ihE _ _ ha).1 n) (w9_ (s6_ hc))
  | If c a b p=>exact qB h λc' hc h=>qB h λa' ha h=>qM h λb' hb e=>by subst e;exact dK_ ((ihE _ _ hc).2.1 n) (xv_ ih ha n) (xv_ ih hb n)
  | While c b o p =>
   refine qI h λhr h=>qB h λc' hc h=>qM h λb' hb e => ?_;subst e;cases yd_ hr;exact fo_ ok.own (λn=>(ihE _ _ hc).2.1 n) (λn=>xv_ ih hb n)
  | For tg it b o p =>
   refine qI h λhr h=>qB h λt ht h=>qB h λit' hi h=>qM h λb' hb e => ?_;subst e;cases yd_ hr;exact gN_ ok.own ok.calm ((ul_ ok ihE hi).1 n) (we_ ok (λ_=>hfn) ht) (λn=>xv_ ih hb n) (ul_ (fu:=fu) ok ihE hi).2
  | Raise a b p=>cases h;exact PS.bad λ_ _=>rfl
  | _=>exact qN h
end
structure FI where
 x:Str
 st:Stmt
 N:List Str
 ps:List Str
 cm:Option (Str×Str)
 kf:Option (KF×Nat)
structure FunD(K:PySem.W.Frag)(x qual:Str)(st:Stmt)(f:Addr)(fd:FuncData):Prop where
 ex:∃ (oc:Value) (od:Option Addr) (dV kV doc pm:Value) (an:Option Addr) (cdv ct:Value) (osl:Array (Option Value)),
  fd=PySem.W.fnOf x qual (wP_ st) (wX_ st) (zY_ st) dV kV doc pm an cdv ct/\K.lookup f=some ⟨oc,od,.func fd,osl⟩/\PySem.W.codeIn K cdv qual=true
 kp:PySem.W.keepIn K (.ref f)=true
noncomputable def FI.nm(fi:FI):Str:=match fi.cm with | none=>fi.x | some c=>c.2
noncomputable def FI.tn(fi:FI):Str:=if fi.cm.isSome || fi.kf.isSome then "__debug__" else fi.x
noncomputable def FAt(K:PySem.W.Frag)(mg:Str->Option Value)(fi:FI)(f:Addr):Prop:=match fi.cm with
 | none=>mg fi.x=some (.ref f)
 | some c => ∃ C,mg c.1=some (.ref C)/\PySem.W.nsIn K mainGlobals c.1=some (some (.ref C))/\Cls K C/\Meth K C c.2 f/\(c.2 = "__init__" -> Mk K C f)
structure FOk(T:Tab)(K:PySem.W.Frag)(mg:Str->Option Value)(fi:FI)(F:Fn):Prop where
 sc:FnScope fi.N fi.ps (zY_ fi.st)
 np:F.np=fi.ps.length
 ns:F.ns=fi.N.length
 body:∃ m,zc_ ((wX_ fi.st).map (uA_ T (zY_ fi.st) fi.N m))=some F.body
 obj:∃ f fd,FAt K mg fi f/\FunD K fi.nm fi.x fi.st f fd/\(fi.kf=none->Binds K fd fi.ps []) /\ ∀ F nd,fi.kf=some (F,nd)->fi.ps=F.ns++F.ks/\F.ns++F.ks≠[] /\ ∃ ddV dd,KFok K fd F nd ddV dd
noncomputable def AllOk(T:Tab)(K:PySem.W.Frag)(mg:Str->Option Value):List FI->List Fn->Prop
 | [],[]=>True
 | fi :: r,F :: s=>FOk T K mg fi F/\AllOk T K mg r s
 | _,_=>False
section
variable{T:Tab}{K:PySem.W.Frag}{mg:Str->Option Value}{P:Program}{w:World}{base:Heap}
theorem AllOk.get:∀ {fis:List FI} {fns:List Fn} {i:Nat} {fi:FI},AllOk T K mg fis fns->fis[i]? = some fi -> ∃ F,fns[i]? = some F/\FOk T K mg fi F
 | [],_,_,_,_,e=>by simp at e
 | _ :: _,[],_,_,h,_=>False.elim h
 | _ :: _,F :: _,0,_,h,e=>by simp at e;subst e;exact ⟨F,rfl,h.1⟩
 | _ :: r,_ :: s,i+1,fi,h,e=>by
  obtain ⟨F,e1,e2⟩:=AllOk.get (i:=i) (fi:=fi) h.2 (by simpa using e)
  exact ⟨F,by simpa using e1,e2⟩
structure PgOk(T:Tab)(K:PySem.W.Frag)(mg:Str->Option Value)(fis:List FI)(fns:List Fn):Prop where
 names:T.fns=fis.map FI.tn
 all:AllOk T K mg fis fns
 cs:∀ x u,T.cs.lookup x=some u -> ∃ v val,mg x=some val/\RelV v val /\ ∀ ρ H,RV K ρ H u v
 bt:∀ x∈T.bt,mg x=none
 kfs:∀ (y:Str) (i:Nat) (F:KF) (nd:Nat),T.kf.lookup y=some (i,F,nd) -> ∃ fi,fis[i]? = some fi/\fi.x=y/\fi.cm=none/\fi.kf=some (F,nd)
 cls:∀ (y:Str) (c i:Nat) (F:KF) (nd:Nat),T.cl.lookup y=some (c,i,F,nd)->x6_ c=y /\ ∃ fi,fis[i]? = some fi/\fi.cm=some (y,("__init__" : Str))/\fi.kf=some (F,nd)
 mts:∀ (m:Str) (l:List (Nat×Nat×KF×Nat)),T.mt.lookup m=some l -> ∀ c i F nd,(c,i,F,nd)∈l -> ∃ fi,fis[i]? = some fi/\fi.cm=some (x6_ c,m)/\fi.kf=some (F,nd)
 fls:∀ (f:Str) (cs:List Nat),T.fl.lookup f=some cs->i6_ K f cs
theorem pW_{ρ:List Addr}{H:Hp}{us:List U}{vs:List V}{N:List Str}{n:Nat}(hn:n=N.length)(h:RVs K ρ H us vs)(hl:us.length<=N.length):RS K ρ H (us.map some++List.replicate (n - us.length) none) (L2.start N vs) where
 len:=by unfold L2.start;simp [h.length,hn]
 val:=λi u e=>by
  subst hn;unfold L2.start;by_cases hi:i < us.length
  .rw [List.getElem?_append_left (by simpa using hi),List.getElem?_map] at e
   rw [List.getElem?_append_left (by rw [List.length_map,<-h.length];exact hi),List.getElem?_map]
   cases eu:us[i]? with
   | none=>rw [eu] at e;cases e
   | some w =>
    rw [eu] at e;cases e;obtain ⟨v,e1,e2⟩:=h.get eu;exact ⟨v,by rw [e1];rfl,e2⟩
  .rw [List.getElem?_append_right (by simpa using hi),List.getElem?_replicate] at e
   split at e <;> cases e
theorem jm_{env:Env}(h:env.scope.kind=.function):env.blockKind=.function:=by
 unfold Env.blockKind;rw [h]
 rfl
theorem li_{W:XQ}{o:Out Fl}{ρ:List Addr}{H:Hp}{Q:VK}(p:post K W (RV K) (o.bind λf g=>match f with | .rt u => .ok u g | .nx _ => .ok .non g | _ => .bad) ρ H Q):postS K W o ρ H { nx:=λ_ H'=>Q .non H',rt:=Q }:=by
 revert p;cases o with
 | ok fl g1 =>
  cases fl with
  | nx σ1=>exact λp σ ρ' H' s h hs=>p .non ρ' H' s h rfl
  | rt u=>exact λp=>p
  | bk σ1=>exact λp=>p.elim
  | ct σ1=>exact λp=>p.elim
 | exc c fs g1=>exact λp=>p
 | bad=>exact λp=>p
theorem oN_{fis:List FI}{fns:List Fn}(G:PgOk T K mg fis fns):∀ (d i:Nat) (fi:FI),fis[i]? = some fi -> ∀ f fd,FunD K fi.nm fi.x fi.st f fd->FnOk P w K mg base CX0 (2*d+2) f fd fi.ps (spI K fns d i fi.ps.length)
 | 0,i,fi,_,f,fd,_=>⟨λvs H Q E ⟨_,ρ,g,us,_,_,_,p⟩=>p.elim,λA outer s H args us vs Q E _ _ _ _ ⟨_,ρ,g,us,_,_,_,p⟩=>p.elim⟩
 | d+1,i,fi,hi,f,fd,F=>by
  obtain ⟨Fi,ei,O⟩:=G.all.get hi;obtain ⟨m,hb⟩:=O.body;have callee:∀ j fj,fis[j]? = some fj -> ∃ f fd,FAt K mg fj f/\PySem.W.keepIn K (.ref f)=true/\(fj.kf=none->Binds K fd fj.ps [])/\(∀ F nd,fj.kf=some (F,nd)->fj.ps=F.ns++F.ks/\F.ns++F.ks≠[] /\ ∃ ddV dd,KFok K fd F nd ddV dd)/\FnOk P w K mg base CX0 (2*d+2) f fd fj.ps (spI K fns d j fj.ps.length) /\ ∀ F,fns[j]? = some F->F.np=fj.ps.length:=λj fj ej=>by
   obtain ⟨Fj,ej',Oj⟩:=G.all.get ej;obtain ⟨f',fd',m1,m2,m3,m4⟩:=Oj.obj;exact ⟨f',fd',m1,m2.kp,m3,m4,oN_ G d j fj ej f' fd' m2,λF' e=>by rw [ej'] at e;cases e;exact Oj.np⟩
  obtain ⟨oc,od,dV,kV,doc,pm,an,cdv,ct,osl,rfl,lk,hcd⟩:=F.ex;refine dy_ (k:=2*d+3) lk hcd O.sc (λvs H Q E ⟨_,ρ,g,us,_,rs,hl,_⟩=>by rw [<-rs.length];exact hl) λA outer s H vs Q E hr h => ?_
  have ok:XOk T fns d (kW_ CX0 P w K mg base fi.N fi.x (zY_ fi.st) f cdv A outer s H E).nox (zY_ fi.st) fi.N:=by
   refine ⟨λj x hx hdb => ?_,G.cs,G.bt,λy j F nd hy => ?_,λy c j F nd hy => ?_,λmm l hl c j F nd hmem => ?_,G.fls,hr,rfl,rfl,O.sc.nd,rfl,rfl⟩
   .rw [G.names,List.getElem?_map] at hx
    cases ej:fis[j]? with
    | none=>rw [ej] at hx;cases hx
    | some fj =>
     rw [ej] at hx;have hx:fj.tn=x:=by simpa using hx
     unfold FI.tn at hx;obtain ⟨f',fd',m1,m2,m3,m4,m5,m6⟩:=callee j fj ej;cases hc:fj.cm with
     | some c=>rw [hc] at hx;subst hx;cases hdb
     | none =>
      cases hk:fj.kf with
      | some c=>rw [hc,hk] at hx;subst hx;cases hdb
      | none =>
       rw [hc,hk] at hx;have hx:fj.x=x:=hx;subst hx;have m1':mg fj.x=some (.ref f'):=by unfold FAt at m1;rw [hc] at m1;exact m1
       exact ⟨f',fd',fj.ps,m1',m2,m3 hk,m5,m6⟩
   .obtain ⟨fj,ej,rfl,hc,hk⟩:=G.kfs y j F nd hy
    obtain ⟨f',fd',m1,m2,m3,m4,m5,m6⟩:=callee j fj ej;obtain ⟨b1,b2,ddV,dd,b3⟩:=m4 F nd hk;have m1':mg fj.x=some (.ref f'):=by unfold FAt at m1;rw [hc] at m1;exact m1
    rw [b1] at m5;exact ⟨f',fd',ddV,dd,m1',m2,b3,b2,m5,λF' e=>by rw [m6 F' e,b1]⟩
   .obtain ⟨hn,fj,ej,hc,hk⟩:=G.cls y c j F nd hy
    obtain ⟨f',fd',m1,m2,m3,m4,m5,m6⟩:=callee j fj ej;obtain ⟨b1,b2,ddV,dd,b3⟩:=m4 F nd hk;unfold FAt at m1;rw [hc] at m1;obtain ⟨C,c1,c2,c3,c4,c5⟩:=m1;rw [b1] at m5;exact ⟨C,f',fd',ddV,dd,c1,c5 rfl,by rw [hn];exact c2,b3,b2,m5,λF' e=>by rw [m6 F' e,b1]⟩
   .obtain ⟨fj,ej,hc,hk⟩:=G.mts mm l hl c j F nd hmem
    obtain ⟨f',fd',m1,m2,m3,m4,m5,m6⟩:=callee j fj ej;obtain ⟨b1,b2,ddV,dd,b3⟩:=m4 F nd hk;unfold FAt at m1;rw [hc] at m1;obtain ⟨C,c1,c2,c3,c4,c5⟩:=m1;rw [b1] at m5;exact ⟨C,f',fd',ddV,dd,c2,c3,c4,b3,b2,m5,λF' e=>by rw [m6 F' e,b1]⟩
  obtain ⟨fu,ρ,g,us,hg,rs,hl,p⟩:=h;refine ⟨tSt K W0 ((lev (zb_ fns fu d) fu).ex Fi.body),PSs.nox (xv_ (tu_ ok (jm_ O.sc.kind) (λ_=>rfl) m) hb fu),?_⟩;simp only [zb_,ei,nV_] at p;rw [if_pos (by rw [hl,O.np])] at p
  have hpl:fi.ps.length<=fi.N.length:=by have:=congrArg List.length O.sc.pre;rw [List.length_take] at this;omega
  exact ⟨_,ρ,g,pW_ O.ns rs (by omega),hg,li_ p⟩
theorem hU_{H:Hp}{a:Addr}{xs:List V}(hO:f5_ H)(h:SqL K H a xs):SqF K H a xs:=by
 rcases h with (h | h) | h
 .rcases hO a with z | ⟨o,ys,z⟩
  .rw [h] at z;cases z
  .rw [h] at z;cases z
 .exact .inl h
 .exact .inr h
theorem sa_{ρ:List Addr}{H:Hp}:∀ ns:List Int,RVs K ρ H (ns.map U.int) (ns.map V.int)
 | []=>rfl
 | n :: ns=>⟨.int n,ns.map V.int,rfl,rfl,sa_ ns⟩
theorem jI_{fns:List Fn}{d i:Nat}{H:Hp}{a:Addr}{ns:List Int}{E:XK}(hO:f5_ H)(hS:SqL K H a (ns.map V.int)){fu:Nat}{g':G}(h:zb_ fns fu d i [.fro (ns.map U.int)] []=.ok (.bl true) g'):
  spI K fns d i 1 [.ref a] H (λv _=>v=.bl true) E:=by
 refine ⟨fu,[],[],[.fro (ns.map U.int)],⟨rfl,λi j a e=>by simp at e,λn a o e=>by simp at e⟩,⟨_,_,rfl,⟨a,_,rfl,hU_ hO hS,sa_ ns⟩,rfl⟩,rfl,?_⟩
 rw [h];exact λv ρ' H' _ _ r=>r
end
open PySem PySem.Spec PyProof.Rows L2 PySem.W
theorem sc_{α β:Type}{f g:α->Option β}:∀ {l:List α},(∀ x∈l,f x=g x)->l.filterMap f=l.filterMap g
 | [],_=>rfl
 | a :: l,h=>by rw [List.filterMap_cons,List.filterMap_cons,h a (.head _),sc_ λx hx=>h x (.tail _ hx)]
theorem sL_{α:Type}:∀ {ps:List Str} {us:List α},ps.Nodup->us.length=ps.length->(ps.filterMap λn=>((ps.zip us).lookup n).map (n,·))=ps.zip us:=by
 intro ps
 induction ps with
 | nil=>intro us _ _;cases us <;> rfl
 | cons p ps ih =>
  intro us nd hl;cases us with
  | nil=>simp at hl
  | cons u us =>
   have hp:p ∉ ps:=(List.nodup_cons.mp nd).1;rw [List.filterMap_cons];simp only [List.zip_cons_cons,List.lookup_cons,beq_self_eq_true,Option.map_some];congr 1;refine (sc_ λx hx => ?_).trans (ih (List.nodup_cons.mp nd).2 (by simpa using hl))
   have:(x == p)=false:=by
    rw [beq_eq_false_iff_ne];rintro rfl;exact hp hx
   simp only [this]
theorem rd_{α:Type}:∀ {ps:List Str} {us:List α},us.length=ps.length -> ∀ x∈ps,((ps.zip us).lookup x).isNone=false
 | [],_,_,x,hx=>by simp at hx
 | p :: ps,[],hl,_,_=>by simp at hl
 | p :: ps,u :: us,hl,x,hx=>by
  simp only [List.zip_cons_cons,List.lookup_cons];cases e:x == p with
  | true=>rfl
  | false =>
   rcases List.mem_cons.mp hx with rfl | h
   .simp at e
   .exact rd_ (by simpa using hl) x h
theorem sN_{fd:FuncData}{ps:List Str}{us:List Value}(h1:fd.params.posonlyargs=[])(h2:fd.params.args.map (·.arg)=ps)(h3:fd.params.vararg=none)(h4:fd.params.kwonlyargs=[])(h5:fd.params.kwarg=none)
  (h6:fd.defaults=.none) (nd:ps.Nodup) (hl:us.length=ps.length):bindArgs fd ⟨us,[]⟩=pure (ps.zip us):=by
 unfold bindArgs;have e:(List.filter (λn=>((ps.zip us).lookup n).isNone) ps)=[]:=by
  rw [List.filter_eq_nil_iff];intro x hx;rw [rd_ hl x hx];decide
 have e2:=sL_ nd hl;have hs:seqItems? Value.none=pure none:=rfl;have hg : ¬ us.length > ps.length:=by omega
 simp only [h1,h2,h3,h4,h5,h6,List.map_nil,List.nil_append,List.append_nil,List.forIn_nil,pure_bind,hs,Option.getD_none,List.length_nil,Nat.zero_sub,List.drop_nil,Nat.sub_zero,List.take_length,e,List.drop_length,List.zip_nil_right,List.isEmpty_nil,Bool.not_true,Bool.false_eq_true,if_false,decide_eq_false hg,Bool.false_and,e2]
theorem qt_{b:Addr}{o:Obj}:∀ {l:List Obj} {n:Nat},(sS_ n l).lookup b=some o->n<=b/\l[b - n]? = some o/\o.data ≠ .freed
 | [],_,e=>by cases e
 | x :: l,n,e=>by
  have rest:(sS_ (n+1) l).lookup b=some o->n<=b/\(x :: l)[b - n]? = some o/\o.data ≠ .freed:=λe=>by
   obtain ⟨h1,h2,h3⟩:=qt_ e;obtain ⟨k,rfl⟩:=Nat.exists_eq_add_of_le h1;rw [Nat.add_sub_cancel_left] at h2;refine ⟨Nat.le_trans (Nat.le_succ n) h1,?_,h3⟩;rw [show n+1+k - n=k+1 by omega,List.getElem?_cons_succ]
   exact h2
  unfold sS_ at e;split at e
  .exact rest e
  .rename_i hf
   rw [List.lookup_cons] at e;split at e
   .rename_i z
    cases e;have:=eq_of_beq z;subst this;exact ⟨Nat.le_refl _,by rw [Nat.sub_self];rfl,hf⟩
   .exact rest e
theorem le_(h:Heap):(t6_ h).In h:=λb o e=>by
 obtain ⟨_,h2,h3⟩:=qt_ e;rw [Nat.sub_zero,Array.getElem?_toList] at h2;unfold Heap.get?;rw [h2];split
 .rename_i q;cases q;exact absurd rfl h3
 .rfl
theorem p9_{N ps:List Str}{sc:Scope}(h:uY_ N ps sc=true):FnScope N ps sc:=by
 simp only [uY_,Bool.and_eq_true,Bool.not_eq_true',decide_eq_true_eq,List.all_eq_true,Bool.or_eq_true] at h;obtain ⟨⟨⟨⟨⟨⟨a,b⟩,c⟩,d⟩,e⟩,f⟩,g⟩:=h;exact ⟨a,b,c,d,e,f,g⟩
noncomputable def l3_(fd:FuncData)(b:List Stmt):Stmt := .FunctionDef fd.name fd.params b [] none [] fd.scope none fd.name ⟨0,0,0,0⟩
theorem kj_{v:Value}(h:cZ_ v=true):v=.none:=by cases v <;> first | rfl | cases h
noncomputable def vOf:U->V
 | .int i => .int i
 | .bl b => .bl b
 | .str s => .str s
 | _ => .non
theorem oZ_{K:Frag}{u:U}{val:Value}(h:eh_ u val=true):RelV (vOf u) val /\ ∀ ρ H,RV K ρ H u (vOf u):=by
 unfold eh_ at h;split at h
 .cases of_decide_eq_true h;exact ⟨⟨_,rfl⟩,λ_ _=>rfl⟩
 .exact ⟨rfl,λ_ _=>rfl⟩
 .cases eq_of_beq h;exact ⟨rfl,λ_ _=>rfl⟩
 .cases of_decide_eq_true h;exact ⟨⟨_,rfl⟩,λ_ _=>rfl⟩
 .cases h
theorem qz_{K:Frag}:∀ {us:List U} {vals:List Value},ot_ us vals=true->Vals (us.map vOf) vals /\ ∀ ρ H,RVs K ρ H us (us.map vOf)
 | [],[],_=>⟨.nil,λ_ _=>rfl⟩
 | [],_ :: _,h=>by cases h
 | _ :: _,[],h=>by cases h
 | u :: us,v :: vs,h=>by
  rw [ot_,Bool.and_eq_true] at h;obtain ⟨a,b⟩:=oZ_ (K:=K) h.1;obtain ⟨c,d⟩:=qz_ (K:=K) h.2;exact ⟨.cons a c,λρ H=>⟨_,_,rfl,b ρ H,d ρ H⟩⟩
theorem mZ_{K:Frag}{u:U}{val:Value}(h:tupU K u val=true):∃ v,RelV v val /\ ∀ ρ H,RV K ρ H u v:=by
 unfold tupU at h;split at h
 .split at h
  .rename_i od its n sl ho
   rw [Bool.and_eq_true,decide_eq_true_eq] at h;obtain ⟨c1,c2⟩:=qz_ (K:=K) h.2;exact ⟨.ref _,rfl,λρ H=>⟨_,_,rfl,⟨_,its,n,ho,rfl,rfl,Nat.le_trans h.1 (by decide),c1⟩,c2 ρ H⟩⟩
  .cases h
 .cases h
theorem qa_{K:Frag}{u:U}{val:Value}(e:ed_ K u val=true):∃ v,RelV v val /\ ∀ ρ H,RV K ρ H u v:=by
 unfold ed_ at e;rw [Bool.or_eq_true] at e;rcases e with e | e
 .obtain ⟨a,b⟩:=oZ_ (K:=K) e;exact ⟨_,a,b⟩
 .exact mZ_ e
theorem pe_{K:Frag}:∀ {ns:List Str} {dd:List (Str×U)} {vals:List Value},dd.map (·.1)=ns->oi_ K (dd.map (·.2)) vals=true -> ∃ ddV,F2 (PR RelV) ddV (ns.zip vals)/\F2 (PR λu v => ∀ ρ H,RV K ρ H u v) dd ddV
 | _,[],[],h,_=>by subst h;exact ⟨[],.nil,.nil⟩
 | _,[],_ :: _,_,h=>by cases h
 | _,_ :: _,[],_,h=>by cases h
 | _,(n,u) :: dd,v :: vs,h,q=>by
  subst h;rw [List.map_cons,oi_,Bool.and_eq_true] at q;obtain ⟨w,a,b⟩:=qa_ q.1;obtain ⟨ddV,c,d⟩:=pe_ (dd:=dd) rfl q.2;exact ⟨(n,w) :: ddV,.cons ⟨rfl,a⟩ c,.cons ⟨rfl,b⟩ d⟩
theorem da_{K:Frag}{v:Value}{dsv:List Value}(h:eR_ K v=some dsv)(M:Model)(hp:Heap)(X:K.In hp):∃ od:Option (Array Value),(od.getD #[]).toList=dsv/\Looks M hp (seqItems? v) od:=by
 unfold eR_ at h;split at h
 .cases h;exact ⟨none,rfl,.of_pure rfl⟩
 .split at h
  .rename_i its _ _ ho
   cases h;exact ⟨some its,rfl,λA Q E s k q=>wpAny_seqItems (k _ _ (X _ _ ho)) rfl q⟩
  .cases h
 .cases h
theorem ch_{K:Frag}{v:Value}{n:Str}{u:Value}(h:nH_ K v n=some u):∃ d,v=.ref d/\nsIn K d n=some (some u):=by
 unfold nH_ at h;split at h
 .split at h
  .rename_i q;cases h;exact ⟨_,rfl,q⟩
  .cases h
 .cases h
theorem tA_{α β:Type}:∀ {l l':List α} {m m':List β},l.length=m.length->(l++l').zip (m++m')=l.zip m++l'.zip m'
 | [],_,[],_,_=>rfl
 | [],_,_ :: _,_,h=>by simp at h
 | _ :: _,_,[],_,h=>by simp at h
 | a :: l,l',b :: m,m',h=>by simp [tA_ (l:=l) (m:=m) (by simpa using h)]
theorem cr_{K:Frag}{fd:FuncData}{F:KF}{nd:Nat}(h:kfB K fd F nd=true):∃ ddV dd,KFok K fd F nd ddV dd:=by
 simp only [kfB,Bool.and_eq_true,decide_eq_true_eq,List.isEmpty_iff,Option.isNone_iff_eq_none,List.all_eq_true] at h;obtain ⟨⟨⟨⟨⟨⟨⟨⟨p1,p2⟩,p3⟩,p4⟩,p5⟩,p6⟩,p7⟩,p8⟩,p9⟩:=h;split at p9
 .rename_i dsv hds
  rw [Bool.and_eq_true,decide_eq_true_eq] at p9;obtain ⟨l1,q⟩:=p9;obtain ⟨ddV,c1,c2⟩:=pe_ (K:=K) p8 q;refine ⟨ddV,_,p1,p2,p3,p4,p5,⟨dsv,λn=>(nH_ K fd.kwdefaults n).getD .none,λM h X=>da_ hds M h X,l1,p6,λn hn => ?_,rfl⟩,?_,c2⟩
  .have:=p7 n hn
   cases e:nH_ K fd.kwdefaults n with
   | none=>rw [e] at this;cases this
   | some u=>exact ch_ (by show _=some (Option.getD _ _);rw [e];rfl)
  .rw [tA_ (by rw [List.length_drop,l1];omega)] at c1
   have:F.ks.zip (F.ks.map λn=>(nH_ K fd.kwdefaults n).getD .none)=F.ks.map λn=>(n,(nH_ K fd.kwdefaults n).getD .none):=by
    generalize F.ks=l
    induction l with
    | nil=>rfl
    | cons a l ih=>simp [ih]
   rw [this] at c1;exact c1
 .cases p9
theorem df_{K:Frag}{h:Heap}{mg:Str->Option Value}{x:Str}{u:U}(X:K.In h)(G:h.Ns mainGlobals mg)(e:csB K (x,u)=true):∃ v val,mg x=some val/\RelV v val /\ ∀ ρ H,RV K ρ H u v:=by
 unfold csB at e;split at e
 .rename_i val hv
  have hm:mg x=some val:=mg_of X G hv;obtain ⟨v,a,b⟩:=qa_ e;exact ⟨v,val,hm,a,b⟩
 .cases e
theorem oR_{K:Frag}{C:Addr}(h:eb_ K C=true):Cls K C:=by
 simp only [eb_,Bool.and_eq_true,beq_iff_eq] at h;obtain ⟨⟨⟨a,b⟩,c⟩,d⟩:=h;exact ⟨a,b,c,d⟩
noncomputable def vl_(T:Tab)(K:Frag)(i:Inf):Option Fn:=mkF T (i,mM_ K i)
theorem px_{T:Tab}{i:Inf}{o:Option (Scope×List Stmt)}{F:Fn}(h:mkF T (i,o)=some F):∃ r,o=some r/\(zc_ (r.2.map (uA_ T r.1 i.N 60))).map (λb'=>(⟨i.ps.length,i.N.length,b'⟩:Fn))=some F:=by
 cases o with
 | none=>cases h
 | some r=>exact ⟨r,rfl,h⟩
theorem n7_{K:Frag}{h:Heap}{mg:Str->Option Value}(X:K.In h)(G:h.Ns mainGlobals mg){i:Inf}{fi:FI}{a:Addr}(hx:fi.x=i.x)(hc:fi.cm=i.cm)(e:dR_ K i=some a):FAt K mg fi a:=by
 unfold FAt;rw [hc,hx];unfold dR_ at e;split at e
 .rename_i h0
  try rw [h0]
  split at e
  .rename_i h1;cases e;exact mg_of X G h1
  .cases e
 .rename_i c h0
  try rw [h0]
  split at e
  .rename_i C h1
   split at e
   .rename_i a' h2
    split at e
    .rename_i hb
     cases e;simp only [Bool.and_eq_true,Bool.or_eq_true,Bool.not_eq_true',decide_eq_false_iff_not] at hb;obtain ⟨⟨⟨b1,b2⟩,b3⟩,b4⟩:=hb;refine ⟨C,mg_of X G h1,h1,oR_ b1,⟨h2,b2,b3⟩,λhi => ?_⟩;rcases b4 with z | ⟨z1,z2⟩
     .exact absurd hi z
     .rw [hi] at h2;exact ⟨z1,h2,b2,z2⟩
    .cases e
   .cases e
  .cases e
noncomputable def Plain(K:Frag)(mg:Str->Option Value)(i:Inf)(fi:FI):Prop :=
 i.kf=none ->
 i.cm=none -> ∀ f fd,mg fi.x=some (.ref f)->FunD K fi.nm fi.x fi.st f fd -> ∀ us:List Value,us.length=i.ps.length->bindArgs fd ⟨us,[]⟩=pure (i.ps.zip us)
theorem kp_{T:Tab}{K:Frag}{i:Inf}{F:Fn}{h:Heap}{mg:Str->Option Value}(X:K.In h)(G:h.Ns mainGlobals mg)(e:vl_ T K i=some F):
  ∃ fi:FI,fi.x=i.x/\fi.ps=i.ps/\fi.cm=i.cm /\
  fi.kf=i.kf /\
  FOk T K mg fi F/\Plain K mg i fi:=by
 unfold vl_ at e;obtain ⟨r,hr,e⟩:=px_ e;unfold mM_ at hr;split at hr
 .rename_i a h1
  split at hr
  .rename_i oc od fd sl h2
   split at hr
   .rename_i b hb
    split at hr
    .rename_i hc
     cases hr;simp only [Bool.and_eq_true] at hc;obtain ⟨⟨⟨⟨c1,c2⟩,c3⟩,c4⟩,c5⟩:=hc;have sc:=p9_ c2;simp only [hn_,Bool.and_eq_true,decide_eq_true_eq,beq_iff_eq,List.isEmpty_iff] at c1;obtain ⟨⟨⟨⟨d1,d2⟩,d3⟩,d4⟩,d6⟩:=c1;obtain ⟨b',hb',rfl⟩:=Option.map_eq_some_iff.mp e;have hps:i.ps.Nodup:=by rw [<-sc.pre];exact sc.nd.sublist (List.take_sublist _ _)
     have hfd:fd=fnOf i.nm i.x (wP_ (l3_ fd b)) (wX_ (l3_ fd b)) (zY_ (l3_ fd b)) fd.defaults fd.kwdefaults fd.doc fd.pyModule fd.annotations fd.code fd.closureTuple:=by
      obtain ⟨n,q,pa,bo,scp,gl,cl,de,kw,dc,pm,an,cd,ct,bu⟩:=fd;simp only [l3_,wP_,wX_,zY_] at *;subst d1;subst d2;subst d3;subst d4;subst d6;subst hb
      rfl
     have hpl:i.kf=none -> ∀ us:List Value,us.length=i.ps.length->bindArgs fd ⟨us,[]⟩=pure (i.ps.zip us):=λhz us hl=>by
      unfold cH_ at c3;rw [hz] at c3;simp only [jh_,Bool.and_eq_true,decide_eq_true_eq,List.isEmpty_iff,Option.isNone_iff_eq_none] at c3;obtain ⟨⟨⟨⟨⟨p1,p2⟩,p3⟩,p4⟩,p5⟩,p6⟩:=c3;exact sN_ p1 p2 p3 p4 p5 (kj_ p6) hps hl
     have hnm:(⟨i.x,l3_ fd b,i.N,i.ps,i.cm,i.kf⟩:FI).nm=i.nm:=rfl;refine ⟨⟨i.x,l3_ fd b,i.N,i.ps,i.cm,i.kf⟩,rfl,rfl,rfl,rfl,⟨sc,rfl,rfl,⟨60,hb'⟩,a,fd,n7_ X G rfl rfl h1,⟨⟨oc,od,fd.defaults,fd.kwdefaults,fd.doc,fd.pyModule,fd.annotations,fd.code,fd.closureTuple,sl,by rw [hnm];exact hfd,h2,c4⟩,c5⟩,λhz => .all λus hl=>hpl hz us hl,λF nd hz => ?_⟩,λhz hcm f fd' hf hF us hl => ?_⟩
     .have hz:i.kf=some (F,nd):=hz
      unfold cH_ at c3;rw [hz] at c3;simp only [Bool.and_eq_true,decide_eq_true_eq,Bool.not_eq_true',List.isEmpty_eq_false_iff] at c3;obtain ⟨⟨g1,g2⟩,g3⟩:=c3;exact ⟨g1,by rw [<-g1];exact g2,cr_ g3⟩
     .have hat:FAt K mg ⟨i.x,l3_ fd b,i.N,i.ps,i.cm,i.kf⟩ a:=n7_ X G rfl rfl h1
      unfold FAt at hat;dsimp only at hat;rw [hcm] at hat;have hf:mg i.x=some (.ref f):=hf;rw [show mg i.x=some (.ref a) from hat] at hf;cases hf;obtain ⟨oc',od',dV,kV,doc,pm,an,cdv,ct,osl,_,lk,_⟩:=hF.ex;rw [h2] at lk;cases lk;exact hpl hz us hl
    .cases hr
   .cases hr
  .cases hr
 .cases hr
theorem di_{K:Frag}{f:Str}{cs:List Nat}(h:fdB K (f,cs)=true):i6_ K f cs:=λc hc=>by
 have:=List.all_eq_true.mp h c (List.contains_iff_mem.mp hc);dsimp only at this;split at this
 .rename_i C h1
  rw [Bool.and_eq_true,beq_iff_eq] at this;exact ⟨C,h1,oR_ this.1,this.2⟩
 .cases this
noncomputable def Inf.tn(i:Inf):Str:=if i.cm.isSome || i.kf.isSome then "__debug__" else i.x
noncomputable def allFrom(T:Tab)(K:Frag)(is:List Inf):Option (List Fn):=if T.bt.all (λx=>(nsIn K mainGlobals x).any Option.isNone) && T.cs.all (csB K) && T.fl.all (fdB K) && is.all (λi=>i.cm.all λc=>kI_ c.1) then zc_ (is.map (vl_ T K)) else none
theorem sk_{T:Tab}{K:Frag}{h:Heap}{mg:Str->Option Value}(X:K.In h)(G:h.Ns mainGlobals mg):∀ {is:List Inf} {fns:List Fn},zc_ (is.map (vl_ T K))=some fns ->
  ∃ fis:List FI,fis.map FI.tn=is.map Inf.tn/\AllOk T K mg fis fns /\ ∀ (j:Nat) (i:Inf),is[j]? = some i -> ∃ fi,fis[j]? = some fi/\fi.x=i.x/\fi.ps=i.ps/\fi.cm=i.cm /\
   fi.kf=i.kf /\
   Plain K mg i fi
 | [],fns,e=>by cases e;exact ⟨[],rfl,trivial,λj i h=>by simp at h⟩
 | i :: is,fns,e=>by
  rw [List.map_cons] at e;cases q:vl_ T K i with
  | none=>rw [q] at e;cases e
  | some F =>
   rw [q] at e;obtain ⟨r,e',rfl⟩:=Option.map_eq_some_iff.mp e;obtain ⟨fis,a,b,c⟩:=sk_ X G e';obtain ⟨fi,f1,f2,f3,f4,f5,f6⟩:=kp_ X G q;refine ⟨fi :: fis,by simp [a,FI.tn,Inf.tn,f1,f3,f4],⟨f5,b⟩,λj k h => ?_⟩
   cases j with
   | zero=>simp at h;subst h;exact ⟨fi,rfl,f1,f2,f3,f4,f6⟩
   | succ j=>exact c j k (by simpa using h)
theorem mem_zipIdx'{is:List Inf}{p:Inf×Nat}(h:p∈is.zipIdx):is[p.2]? = some p.1:=by
 obtain ⟨i,k⟩:=p;have:=List.mem_zipIdx h;simp only [Nat.zero_add,Nat.sub_zero] at this;exact List.getElem?_eq_some_iff.mpr ⟨by omega,this.2.2.symm⟩
noncomputable def nf_(T:Tab)(is:List Inf)(fns:List Fn)(h:Heap):Prop := ∃ K:Frag,K.In h/\allFrom T K is=some fns
theorem qq_{T:Tab}{is:List Inf}{ms:List Str}{fns:List Fn}{h:Heap}{mg:Str->Option Value}{K:Frag}(hn:T.fns=is.map Inf.tn)(hk:T.kf=f9_ is)(hcl:T.cl=ek_ is)(hmt:T.mt=oc_ is ms)(X:K.In h)(e:allFrom T K is=some fns)(G:h.Ns mainGlobals mg):
  ∃ fis:List FI,PgOk T K mg fis fns /\ ∀ (j:Nat) (i:Inf),is[j]? = some i -> ∃ fi,fis[j]? = some fi/\fi.x=i.x/\fi.ps=i.ps/\fi.cm=i.cm /\
   fi.kf=i.kf /\
   Plain K mg i fi:=by
 unfold allFrom at e;split at e
 .rename_i hb
  simp only [Bool.and_eq_true] at hb;obtain ⟨⟨⟨hb,hcs⟩,hfl⟩,hnm⟩:=hb;obtain ⟨fis,a,b,c⟩:=sk_ X G e;have nm:∀ i∈is,∀ cm,i.cm=some cm->x6_ (pn_ cm.1)=cm.1:=λi hi cm hc=>by
   have:=List.all_eq_true.mp hnm i hi;rw [hc] at this;exact (vJ_ this).1
  refine ⟨fis,⟨hn.trans a.symm,b,λx u h=>df_ X G (List.all_eq_true.mp hcs (x,u) (mem_of_lookup h)),λx hx => ?_,λy i F nd hy => ?_,λy cc i F nd hy => ?_,λm l hl cc i F nd hmem => ?_,λf cs h=>di_ (List.all_eq_true.mp hfl (f,cs) (mem_of_lookup h))⟩,c⟩
  .have:=List.all_eq_true.mp hb x hx
   cases q:nsIn K mainGlobals x with
   | none=>rw [q] at this;cases this
   | some v =>
    cases v with
    | some v=>rw [q] at this;cases this
    | none=>exact mg_none_of X G q
  .rw [hk] at hy
   obtain ⟨p,hp,hq⟩:=List.mem_filterMap.mp (mem_of_lookup hy);split at hq
   .rename_i k h1 h2
    cases hq;obtain ⟨fi,f1,f2,_,f3,f4,_⟩:=c _ _ (mem_zipIdx' hp);exact ⟨fi,f1,f2,f3.trans h1,f4.trans h2⟩
   .cases hq
  .rw [hcl] at hy
   obtain ⟨p,hp,hq⟩:=List.mem_filterMap.mp (mem_of_lookup hy);split at hq
   .rename_i cm k h1 h2
    split at hq
    .rename_i hi
     cases hq;have hz:=mem_zipIdx' hp;obtain ⟨fi,f1,f2,_,f3,f4,_⟩:=c _ _ hz;refine ⟨nm _ (List.mem_of_getElem? hz) _ h1,fi,f1,?_,f4.trans h2⟩;rw [f3,h1,<-hi]
    .cases hq
   .cases hq
  .rw [hmt] at hl
   obtain ⟨m',hm',hq⟩:=List.mem_map.mp (mem_of_lookup hl);cases hq;obtain ⟨p,hp,hq⟩:=List.mem_filterMap.mp hmem;split at hq
   .rename_i cm k h1 h2
    split at hq
    .rename_i hi
     cases hq;have hz:=mem_zipIdx' hp;obtain ⟨fi,f1,f2,_,f3,f4,_⟩:=c _ _ hz;refine ⟨fi,f1,?_,f4.trans h2⟩;rw [f3,h1,nm _ (List.mem_of_getElem? hz) _ h1,<-hi]
    .cases hq
   .cases hq
 .cases e
theorem cL_{l:OpenLaw}{q:Program}{loose:List Str}{XP:(Str->Option Value)->Heap->Prop}{dr:DefRec}{T:Tab}{is:List Inf}{ms:List Str}{fns:List Fn}{d i:Nat}{N:List Str}{x:Str}
  (hn:l.most=some 63) (hdf:dr.params.defaults=[]) (hr:Room (2*d+2) callerA) (hnm:T.fns=is.map Inf.tn) (hk:T.kf=f9_ is) (hcl:T.cl=ek_ is) (hmt:T.mt=oc_ is ms) (hi:is[i]? = some ⟨dr.name,N,[x],none,none⟩)
  (hrun:∀ ns:List Int,ns.length<=63 -> ∃ fu g',zb_ fns fu d i [.fro (ns.map U.int)] []=.ok (.bl true) g') :
  WalkO q loose XP (λ_ h=>nf_ T is fns h) l.row.toRowW dr [] (λf vs=>PySem.call f vs):=by
 refine Att.attach_call hn hdf λw s₀ s₁ mg mb fa o pm cd doc a vs ns G Y ho hd hcd hmg hobj hints hlen hg => ?_;obtain ⟨K,KX,hK⟩:=Y;obtain ⟨fis,PG,hf⟩:=qq_ hnm hk hcl hmt KX hK G.T.g;obtain ⟨fi,e1,e2,e3,e5,e6,e4⟩:=hf i _ hi;obtain ⟨Fi,ei,O⟩:=PG.all.get e1;obtain ⟨f,fd,m1,m2,m3⟩:=O.obj;unfold FAt at m1;rw [e5] at m1;have m1':mg fi.x=some (.ref f):=m1;have m1:=m1';rw [e2,hmg] at m1;cases m1;refine pr_ (CX:=CX0) (k:=2*d+2) (x:=x) (fd:=fd) (sp:=spI K fns d i 1) KX G.T.g G.T.b G.T.builtins G.T.nolimit hg hobj hints (Nat.le_trans hlen (by decide)) hr (λbase kb nb => ?_) (λs u => ?_) (λH hO hS => ?_) λH e s' z=>z
 .have:=oN_ (P:=l.prog) (w:=w) (base:=base) PG d i fi e1 fa fd m2
  rw [e3] at this;exact this
 .exact .of_eq (e4 rfl rfl fa fd m1' m2 [u] rfl)
 .obtain ⟨fu,g',e⟩:=hrun ns hlen
  exact jI_ hO hS e
open PySem PySem.Spec PyProof.Rows L2 PySem.W PySem.Calls
noncomputable section
theorem l5_(p:Program)(w:World)(N:Nat):openEnds treeTable p w N=endsF p w N:=by
 unfold openEnds fencedOpening topFrom endsF bR_;rw [Fast.te10274390034422433532,Fast.te14364793385576792824,Fast.te1435165496053646825,Fast.te14289696077712309145,Fast.te14082659384304107361]
 rfl
noncomputable def ob_(p:Program):DefRec:=match p.main.body.getD (p.main.body.length - 1) (.Pass ⟨0,0,0,0⟩) with
 | .FunctionDef n a b _ _ _ sc _ _ ps=>⟨n,a,b,sc,ps⟩
 | _=>⟨"",wP_ (.Pass ⟨0,0,0,0⟩),[],zY_ (.Pass ⟨0,0,0,0⟩),⟨0,0,0,0⟩⟩
theorem hi_{α β γ:Type}{o:Option α}{f:α->β}{g:α->γ}{a:β}{b:γ}(h:o.map (λs=>(f s,g s))=some (a,b)):o.map f=some a:=by
 cases o with
 | none=>cases h
 | some s=>cases h;rfl
theorem jL_{α β γ:Type}{o:Option α}{f:α->β}{g:α->γ}{a:β}{b:γ}(h:o.map (λs=>(f s,g s))=some (a,b)):o.map g=some b:=by
 cases o with
 | none=>cases h
 | some s=>cases h;rfl
theorem rZ_{α β:Type}{f:α->Option β}:∀ {l m:List α} {a b:List β},zc_ (l.map f)=some a->zc_ (m.map f)=some b->zc_ ((l++m).map f)=some (a++b)
 | [],m,a,b,h1,h2=>by cases h1;exact h2
 | x :: l,m,a,b,h1,h2=>by
  rw [List.map_cons] at h1;rw [List.cons_append,List.map_cons];cases hx:f x with
  | none=>rw [hx] at h1;cases h1
  | some y =>
   rw [hx] at h1;cases hl:zc_ (l.map f) with
   | none=>simp only [zc_,hl] at h1;cases h1
   | some ys =>
    have ih:=rZ_ hl h2;simp only [zc_,hl] at h1;simp only [zc_,ih];cases h1
    rfl
theorem xr_{α β:Type}{f:α->Option β}{l:List α}{m:List β}{k c:Nat}(h1:zc_ ((l.take k).map f)=some (m.take k))(h2:zc_ (((l.drop k).take c).map f)=some ((m.drop k).take c)):zc_ ((l.take (k+c)).map f)=some (m.take (k+c)):=by
 rw [List.take_add,List.take_add];exact rZ_ h1 h2
theorem on_{o:Option Shared}{is:List Inf}{rs:List (Option (Scope×List Stmt))}{k c:Nat}(h1:o.map (λs=>(is.take k).map (mM_ (t6_ s.heap)))=some (rs.take k))(h2:o.map (λs=>((is.drop k).take c).map (mM_ (t6_ s.heap)))=some ((rs.drop k).take c)):o.map (λs=>(is.take (k+c)).map (mM_ (t6_ s.heap)))=some (rs.take (k+c)):=by
 cases o with
 | none=>cases h1
 | some s =>
  simp only [Option.map_some,Option.some.injEq] at h1 h2 ⊢;rw [List.take_add,List.take_add,List.map_append,h1,h2]
theorem gT_{β:Type}{o:Option Shared}{f:Shared->β}{b:β}{T:Tab}{is:List Inf}{rs:List (Option (Scope×List Stmt))}{fns:List Fn}{k:Nat}(ha:o.map (λs=>d8_ T (t6_ s.heap) is)=some true)(hg:o.map f=some b)
  (hr:o.map (λs=>(is.take k).map (mM_ (t6_ s.heap)))=some (rs.take k)) (h:zc_ (((is.zip rs).take k).map (mkF T))=some (fns.take k)) (h1:is.length<=k) (h2:fns.length<=k) (h3:rs.length<=k):o.map (λs=>(f s,allFrom T (t6_ s.heap) is))=some (b,some fns):=by
 rw [List.take_of_length_le (Nat.le_trans (List.length_zip ▸ Nat.min_le_left _ _) h1),List.take_of_length_le h2] at h;rw [List.take_of_length_le h1,List.take_of_length_le h3] at hr;cases o with
 | none=>cases ha
 | some s =>
  simp only [Option.map_some,Option.some.injEq,Prod.mk.injEq] at ha hg hr ⊢;refine ⟨hg,?_⟩;unfold allFrom;unfold d8_ at ha;rw [if_pos ha,<-h];congr 1;rw [<-hr];generalize is=l
  induction l with
  | nil=>rfl
  | cons i l ih=>rw [List.map_cons,List.map_cons,List.zip_cons_cons,List.map_cons,ih,vl_]
theorem k9_{l:OpenLaw}{T:Tab}{is:List Inf}{ms:List Str}{fns:List Fn}{loose N0:List Str}{d i N:Nat}{x:Str}
  (said:Fast.tw9446332074065402090 l=true)
  (hl:∀ w,(endsF l.prog w N).map (λs=>(Fast.tw4187177175401517315 (lastOf l.prog) loose (importedModules l.prog.main.body) (λ_=>true) true s,allFrom T (t6_ s.heap) is))=some (openGood (lastOf l.prog) loose,some fns))
  (h1:defOf (lastOf l.prog) l.name=some (ob_ l.prog,[])) (h2:l.prog.theDef l.name=some ((ob_ l.prog).params,(ob_ l.prog).body,(ob_ l.prog).scope)) (h3:kwWritten? (ob_ l.prog).params.kwonlyargs (ob_ l.prog).params.kw_defaults=some [])
  (h4:(ob_ l.prog).params.defaults=[])
  (ok:(chainsOk (lastOf l.prog) && opensWell l.prog && (frees l.row.toRowW && l.row.within.isEmpty))=true) (hb:l.prog.bare) (hw:l.row.toRowW.promised)
  (hn:l.most=some 63) (hr:Room (2*d+2) callerA) (hnm:T.fns=is.map Inf.tn) (hk:T.kf=f9_ is) (hcl:T.cl=ek_ is) (hmt:T.mt=oc_ is ms) (hi:is[i]? = some ⟨(ob_ l.prog).name,N0,[x],none,none⟩)
  (hrun:∀ ns:List Int,ns.length<=63 -> ∃ fu g',zb_ fns fu d i [.fro (ns.map U.int)] []=.ok (.bl true) g'):l.Holds:=by
 have sd:l.wellSaid=true:=by rw [Fast.te9446332074065402090];exact said
 refine holds_law sd λsaid' => ?_;refine holds_open (r:=l.row) (q:=lastOf l.prog) (loose:=loose) (Xt:=λ_=>true) (XP:=λ_ _=>True) (Yf:=λs=>allFrom T (t6_ s.heap) is) (Ya:=λ_=>some fns) (YP:=λ_ h=>nf_ T is fns h) (N:=N) (d:=ob_ l.prog) (kwd:=[]) ?_
  (λw s e=>⟨t6_ s.heap,le_ _,e⟩) (λw h h' ⟨K,k1,k2⟩ hk=>⟨K,k1.keeps hk,k2⟩) (λ_ _=>trivial) (λ_ _ _ _ _=>trivial) h1 h2 h3 (λs _=>recFacts_nil rfl) (by simp [OpenLaw.row]) said' ok hb hw (cL_ hn h4 hr hnm hk hcl hmt hi hrun)
 intro w;have:=hl w;rw [<-l5_,<-Fast.te4187177175401517315] at this;exact this
end
end
end PI
section
namespace Lk40
open PI
end Lk40
namespace Lk40
noncomputable section
open PySem PI L2
end
end Lk40
open PySem PySem.W PyProof.Rows
set_option maxRecDepth 100000 in
set_option maxHeartbeats 0 in
theorem Lk40.all(w:World):(PI.endsF PySem.Challenge.rw_braemantle_k40_whole_tilted_lands.prog w 20000).map (λs=>(Fast.tw4187177175401517315 (PI.lastOf PySem.Challenge.rw_braemantle_k40_whole_tilted_lands.prog) Lk40.loose (PySem.importedModules PySem.Challenge.rw_braemantle_k40_whole_tilted_lands.prog.main.body) (λ_=>true) true s,PI.allFrom Lk40.T (PI.t6_ s.heap) Lk40.sA_))=some (openGood (PI.lastOf PySem.Challenge.rw_braemantle_k40_whole_tilted_lands.prog) Lk40.loose,some Lk40.fns):=PI.gT_ (k:=47) (PI.jL_ (Lk40.chk0 w)) (PI.hi_ (Lk40.chk0 w)) (PI.on_ (k:=26) (c:=21) (Lk40.chk1 w) (Lk40.chk2 w)) (PI.xr_ (k:=42) (c:=5) (PI.xr_ (k:=34) (c:=8) (PI.xr_ (k:=28) (c:=6) (PI.xr_ (k:=17) (c:=11) (Lk40.part0) Lk40.part1) Lk40.part2) Lk40.part3) Lk40.part4) (by decide) (by decide) (by decide)
end
namespace PI
noncomputable section
section
variable{α:Type}{P:List α->Prop}
end
noncomputable def Out.le{α:Type}(o o':Out α):Prop:=o=.bad\/o=o'
theorem Out.le.rfl{α:Type}{o:Out α}:o.le o := .inr (Eq.refl _)
theorem Out.le.bot{α:Type}{o:Out α}:(Out.bad:Out α).le o := .inl (Eq.refl _)
theorem Out.le.trans{α:Type}{a b c:Out α}(h:a.le b)(k:b.le c):a.le c:=by
 rcases h with rfl | rfl
 .exact .bot
 .exact k
theorem zm_{α β:Type}{o o':Out α}{k k':α->G->Out β}(h:o.le o')(hk:∀ a g,(k a g).le (k' a g)):(o.bind k).le (o'.bind k'):=by
 rcases h with rfl | rfl
 .exact .bot
 .cases o with
  | ok a g=>exact hk a g
  | exc c fs g=>exact .rfl
  | bad=>exact .bot
theorem ya_{α β:Type}{o o':Out α}{k k':α->G->Out β}(h:o.le o')(hk:∀ a g,(k a g).le (k' a g)):(o.bindB k).le (o'.bindB k'):=by
 rcases h with rfl | rfl
 .exact .bot
 .cases o with
  | ok a g=>exact hk a g
  | exc c fs g=>exact .rfl
  | bad=>exact .bot
theorem yZ_{α:Type}{o o':Out α}(h:o.le o'):o.noex.le o'.noex:=by
 rcases h with rfl | rfl
 .exact .bot
 .exact .rfl
theorem lt_{o o':Out U}{j c:Nat}{xs:List (Option U)}{σ:Su}(h:o.le o'):(d7_ o j c xs σ).le (d7_ o' j c xs σ):=by
 rcases h with rfl | rfl
 .exact .bot
 .exact .rfl
noncomputable abbrev CC:=Nat->List U->G->Out U
structure L.le(r r':L):Prop where
 ev:∀ e σ g,(r.ev e σ g).le (r'.ev e σ g)
 ts:∀ e σ g,(r.ts e σ g).le (r'.ts e σ g)
 ex:∀ e σ g,(r.ex e σ g).le (r'.ex e σ g)
 wh:∀ e b σ g,(r.wh e b σ g).le (r'.wh e b σ g)
 fr:∀ t it i b σ g,(r.fr t it i b σ g).le (r'.fr t it i b σ g)
 cm:∀ it i t cs rest elt acc σ g,(r.cm it i t cs rest elt acc σ g).le (r'.cm it i t cs rest elt acc σ g)
section
variable{C C':CC}{r r':L}
theorem yu_{f f':E->Su->G->Out U}(h:∀ e σ g,(f e σ g).le (f' e σ g)):∀ es σ g,(evs f es σ g).le (evs f' es σ g)
 | [],_,_ => .rfl
 | e :: es,σ,g=>zm_ (h e σ g) λ_ _=>zm_ (yu_ h es _ _) λ_ _ => .rfl
theorem nS_{f f':E->Su->G->Out U}(h:∀ e σ g,(f e σ g).le (f' e σ g)):∀ e σ g,(evo f e σ g).le (evo f' e σ g)
 | none,_,_ => .rfl
 | some e,σ,g=>zm_ (h e σ g) λ_ _ => .rfl
theorem vy_{f f':E->Su->G->Out Bool}(h:∀ e σ g,(f e σ g).le (f' e σ g)):∀ es σ g,(wY_ f es σ g).le (wY_ f' es σ g)
 | [],_,_ => .rfl
 | e :: es,σ,g=>zm_ (h e σ g) λk _=>by
  cases k
  .exact .rfl
  .exact vy_ h es _ _
local macro_rules | `(tactic| sleep 8) => `(tactic| (repeat (first | exact Out.le.rfl | exact Out.le.bot | assumption | apply L.le.ev | apply L.le.ts | apply L.le.ex | apply L.le.wh | apply L.le.fr | apply L.le.cm | apply yu_ | apply nS_ | apply vy_ | apply zm_ | apply ya_ | intro _ | split)))
theorem vi_(h:r.le r')(e:E)(σ:Su)(g:G):(itF r e σ g).le (itF r' e σ g):=by
 unfold itF;split <;> sleep 8
theorem q7_(hC:∀ f us g,(C f us g).le (C' f us g))(h:r.le r')(e:E)(σ:Su)(g:G):(evF C r e σ g).le (evF C' r' e σ g):=by
 cases e with
 | call f es=>exact zm_ (yu_ h.ev _ _ _) λus g=>hC f us g
 | callx f es=>exact zm_ (yZ_ (yu_ h.ev _ _ _)) λus g=>hC f us g
 | callk f es ks pm =>
  refine zm_ (yZ_ (yu_ h.ev _ _ _)) λus g=>zm_ (yZ_ (yu_ h.ev _ _ _)) λws g => ?_;split
  .exact hC _ _ _
  .exact .rfl
 | make c f es ks pm =>
  refine zm_ (yu_ h.ev _ _ _) λus g=>zm_ (yu_ h.ev _ _ _) λws g => ?_;split
  .exact zm_ (hC _ _ _) λu g => .rfl
  .exact .rfl
 | meth a j tb es ks =>
  refine zm_ (h.ev _ _ _) λx g => ?_;split
  .refine zm_ (yu_ h.ev _ _ _) λus g=>zm_ (yu_ h.ev _ _ _) λws g => ?_
   split
   .exact hC _ _ _
   .exact .rfl
  .exact .rfl
 | comp own fr gs elt =>
  cases gs with
  | nil=>exact .rfl
  | cons t rest =>
   obtain ⟨t,it,cs⟩:=t;exact zm_ (vi_ h _ _ _) λi g=>ya_ (h.cm _ _ _ _ _ _ _ _ _) λ_ _ => .rfl
 | dcmp own fr gs k v =>
  cases gs with
  | nil=>exact .rfl
  | cons t rest =>
   obtain ⟨t,it,cs⟩:=t;exact zm_ (vi_ h _ _ _) λi g=>ya_ (h.cm _ _ _ _ _ _ _ _ _) λ_ _ => .rfl
 | dgt o k x =>
  refine zm_ (h.ev _ _ _) λx g => ?_;split
  .exact zm_ (h.ev _ _ _) λ_ g=>zm_ (h.ev _ _ _) λ_ g => .rfl
  .exact .rfl
 | _=>simp only [evF];sleep 8
theorem rW_(h:r.le r')(e:E)(σ:Su)(g:G):(tsF r e σ g).le (tsF r' e σ g):=by
 unfold tsF;split <;> sleep 8
theorem oH_(h:r.le r')(s:S)(σ:Su)(g:G):(s1F r s σ g).le (s1F r' s σ g):=by
 cases s with
 | «for» t it b=>exact zm_ (vi_ h _ _ _) λi g=>h.fr _ _ _ _ _ _
 | nox b=>exact yZ_ (h.ex _ _ _)
 | ifx c a b=>exact zm_ (yZ_ (h.ts _ _ _)) λk g=>by cases k <;> exact h.ex _ _ _
 | forx t it b=>exact zm_ (yZ_ (vi_ h _ _ _)) λi g=>h.fr _ _ _ _ _ _
 | raise c es=>exact zm_ (yZ_ (yu_ h.ev _ _ _)) λus g => .rfl
 | tryf j f es c xs=>exact lt_ (h.ev _ _ _)
 | _=>simp only [s1F];sleep 8
theorem rs_(h:r.le r')(ss:List S)(σ:Su)(g:G):(exF r ss σ g).le (exF r' ss σ g):=by
 cases ss with
 | nil=>exact .rfl
 | cons s rest=>exact zm_ (oH_ h _ _ _) λf g=>by cases f <;> sleep 8
theorem rI_(h:r.le r')(c:E)(b:List S)(σ:Su)(g:G):(whF r c b σ g).le (whF r' c b σ g):=by
 unfold whF;sleep 8
theorem rK_(h:r.le r')(t:Tg)(it:Iter)(i:Nat)(b:List S)(σ:Su)(g:G):(frF r t it i b σ g).le (frF r' t it i b σ g):=by
 unfold frF;sleep 8
theorem qy_(h:r.le r')(it:Iter)(i:Nat)(t:Tg)(cs:List E)(rest:List (Tg×E×List E))(elt:E)(acc:List U)(σ:Su)(g:G):(cmF r it i t cs rest elt acc σ g).le (cmF r' it i t cs rest elt acc σ g):=by
 unfold cmF;split
 .sleep 8
 .sleep 8
 .split
  .split
   .sleep 8
   .refine ya_ (vy_ h.ts _ _ _) λk g => ?_
    split
    .cases rest with
     | nil=>exact ya_ (h.ev _ _ _) λv g=>by sleep 8
     | cons t rest =>
      obtain ⟨t2,it2,cs2⟩:=t;exact ya_ (vi_ h _ _ _) λj g=>ya_ (h.cm _ _ _ _ _ _ _ _ _) λ_ _=>h.cm _ _ _ _ _ _ _ _ _
    .sleep 8
  .sleep 8
theorem z5_(hC:∀ f us g,(C f us g).le (C' f us g)):∀ {m n:Nat},m<=n->(lev C m).le (lev C' n)
 | 0,n,_=>⟨λ_ _ _ => .bot,λ_ _ _ => .bot,λ_ _ _ => .bot,λ_ _ _ _ => .bot,λ_ _ _ _ _ _ => .bot,λ_ _ _ _ _ _ _ _ _ => .bot⟩
 | m+1,0,h=>absurd h (by omega)
 | m+1,n+1,h=>by
  have ih:=z5_ hC (m:=m) (n:=n) (by omega)
  exact ⟨q7_ hC ih,rW_ ih,rs_ ih,rI_ ih,rK_ ih,qy_ ih⟩
theorem ku_(hC:∀ f us g,(C f us g).le (C' f us g)){m n:Nat}(h:m<=n)(F:Fn)(us:List U)(g:G):(nV_ m C F us g).le (nV_ n C' F us g):=by
 unfold nV_;split
 .exact zm_ ((z5_ hC h).ex _ _ _) λf g => .rfl
 .exact .rfl
theorem wu_{fns:List Fn}{m n:Nat}(h:m<=n):∀ (d f:Nat) (us:List U) (g:G),(zb_ fns m d f us g).le (zb_ fns n d f us g)
 | 0,_,_,_ => .rfl
 | d+1,f,us,g=>by
  simp only [zb_];split
  .exact ku_ (wu_ h d) h _ _ _
  .exact .rfl
end
noncomputable abbrev XP:=Nat->List U->G->Prop
noncomputable def holds{α:Type}(o:Out α)(X:XP)(Q:α->G->Prop):Prop:=match o with
 | .ok a g=>Q a g
 | .exc c fs g=>X c fs g
 | .bad=>False
noncomputable def wp{α:Type}(f:Nat->Out α)(X:XP)(Q:α->G->Prop):Prop := ∃ n,holds (f n) X Q
noncomputable def y8_{α:Type}(f:Nat->Out α):Prop := ∀ m n,m<=n->(f m).le (f n)
section
variable{α β:Type}{f f':Nat->Out α}{k k':Nat->α->G->Out β}{X:XP}{Q:α->G->Prop}{R:β->G->Prop}
theorem wd_{o o':Out α}(h:o.le o')(q:holds o X Q):holds o' X Q:=by
 rcases h with rfl | rfl
 .exact q.elim
 .exact q
theorem xz_{o:Out α}{k:α->G->Out β}:holds (o.bind k) X R ↔ holds o X λa g=>holds (k a g) X R:=by cases o <;> exact Iff.rfl
theorem ww_{o:Out α}{k:α->G->Out β}:holds (o.bindB k) X R ↔ holds o (λ_ _ _=>False) λa g=>holds (k a g) X R:=by cases o <;> exact Iff.rfl
theorem xu_{o:Out α}{Q':α->G->Prop}(h:∀ a g,Q a g->Q' a g)(q:holds o X Q):holds o X Q':=by
 cases o with
 | ok a g=>exact h a g q
 | exc c fs g=>exact q
 | bad=>exact q
theorem wp_mono{Q':α->G->Prop}(q:wp f X Q)(h:∀ a g,Q a g->Q' a g):wp f X Q':=let ⟨n,z⟩:=q;⟨n,xu_ h z⟩
theorem za_{o:Out α}:wp (λ_=>o) X Q ↔ holds o X Q:=⟨λ⟨_,h⟩=>h,λh=>⟨0,h⟩⟩
theorem wp_bind(hf:y8_ f)(hk:∀ a g,y8_ λn=>k n a g):wp (λn=>(f n).bind (k n)) X R ↔ wp f X λa g=>wp (λn=>k n a g) X R:=by
 constructor
 .rintro ⟨n,h⟩
  rw [xz_] at h;exact ⟨n,xu_ (λa g q=>⟨n,q⟩) h⟩
 .rintro ⟨n,h⟩
  cases e:f n with
  | ok a g =>
   rw [e] at h;obtain ⟨m,h⟩:=h;refine ⟨max n m,?_⟩;rw [xz_];have h1:f (max n m)=.ok a g:=by
    rcases hf n (max n m) (Nat.le_max_left _ _) with z | z
    .rw [e] at z;cases z
    .rw [<-z,e]
   rw [h1];show holds (k (max n m) a g) X R;exact wd_ (hk a g m (max n m) (Nat.le_max_right _ _)) h
  | exc c fs g=>rw [e] at h;exact ⟨n,by rw [xz_,e];exact h⟩
  | bad=>rw [e] at h;exact h.elim
theorem z1_(hf:y8_ f)(hk:∀ a g,y8_ λn=>k n a g):wp (λn=>(f n).bindB (k n)) X R ↔ wp f (λ_ _ _=>False) λa g=>wp (λn=>k n a g) X R:=by
 constructor
 .rintro ⟨n,h⟩
  rw [ww_] at h;exact ⟨n,xu_ (λa g q=>⟨n,q⟩) h⟩
 .rintro ⟨n,h⟩
  cases e:f n with
  | ok a g =>
   rw [e] at h;obtain ⟨m,h⟩:=h;refine ⟨max n m,?_⟩;rw [ww_];have h1:f (max n m)=.ok a g:=by
    rcases hf n (max n m) (Nat.le_max_left _ _) with z | z
    .rw [e] at z;cases z
    .rw [<-z,e]
   rw [h1];show holds (k (max n m) a g) X R;exact wd_ (hk a g m (max n m) (Nat.le_max_right _ _)) h
  | exc c fs g=>rw [e] at h;exact h.elim
  | bad=>rw [e] at h;exact h.elim
theorem vv_(h:∀ n,∃ m,(f n).le (f' m))(h':∀ n,∃ m,(f' n).le (f m)):wp f X Q ↔ wp f' X Q :=
 ⟨λ⟨n,q⟩=>let ⟨m,z⟩:=h n;⟨m,wd_ z q⟩,λ⟨n,q⟩=>let ⟨m,z⟩:=h' n;⟨m,wd_ z q⟩⟩
end
section
variable(fns:List Fn)(d:Nat)
noncomputable abbrev cA(n:Nat):CC:=zb_ fns n d
noncomputable abbrev lv(n:Nat):L:=lev (zb_ fns n d) n
noncomputable def wpC(f:Nat)(us:List U)(g:G)(X:XP)(Q:U->G->Prop):Prop:=wp (λn=>zb_ fns n d f us g) X Q
noncomputable def wpE(e:E)(σ:Su)(g:G)(X:XP)(Q:U->G->Prop):Prop:=wp (λn=>(lv fns d n).ev e σ g) X Q
noncomputable def wpT(e:E)(σ:Su)(g:G)(X:XP)(Q:Bool->G->Prop):Prop:=wp (λn=>(lv fns d n).ts e σ g) X Q
noncomputable def z3_(es:List E)(σ:Su)(g:G)(X:XP)(Q:List U->G->Prop):Prop:=wp (λn=>evs (lv fns d n).ev es σ g) X Q
noncomputable def wpO(e:Option E)(σ:Su)(g:G)(X:XP)(Q:Option Int->G->Prop):Prop:=wp (λn=>evo (lv fns d n).ev e σ g) X Q
noncomputable def wpA(es:List E)(σ:Su)(g:G)(X:XP)(Q:Bool->G->Prop):Prop:=wp (λn=>wY_ (lv fns d n).ts es σ g) X Q
noncomputable def wpI(e:E)(σ:Su)(g:G)(X:XP)(Q:Iter->G->Prop):Prop:=wp (λn=>itF (lv fns d n) e σ g) X Q
noncomputable def wp1(s:S)(σ:Su)(g:G)(X:XP)(Q:Fl->G->Prop):Prop:=wp (λn=>s1F (lv fns d n) s σ g) X Q
noncomputable def wpS(ss:List S)(σ:Su)(g:G)(X:XP)(Q:Fl->G->Prop):Prop:=wp (λn=>(lv fns d n).ex ss σ g) X Q
noncomputable def wpW(c:E)(b:List S)(σ:Su)(g:G)(X:XP)(Q:Fl->G->Prop):Prop:=wp (λn=>(lv fns d n).wh c b σ g) X Q
noncomputable def wpF(t:Tg)(it:Iter)(i:Nat)(b:List S)(σ:Su)(g:G)(X:XP)(Q:Fl->G->Prop):Prop:=wp (λn=>(lv fns d n).fr t it i b σ g) X Q
noncomputable def wpM(it:Iter)(i:Nat)(t:Tg)(cs:List E)(rest:List (Tg×E×List E))(elt:E)(acc:List U)(σ:Su)(g:G)(X:XP)(Q:List U->G->Prop):Prop:=wp (λn=>(lv fns d n).cm it i t cs rest elt acc σ g) X Q
end
section
variable{fns:List Fn}{d:Nat}{X:XP}{σ:Su}{g:G}
theorem ud_{m n:Nat}(h:m<=n)(f:Nat)(us:List U)(g:G):(cA fns d m f us g).le (cA fns d n f us g):=wu_ h d f us g
theorem wI_{m n:Nat}(h:m<=n):(lv fns d m).le (lv fns d n):=z5_ (ud_ h) h
theorem mC(f:Nat)(us:List U)(g:G):y8_ λn=>zb_ fns n d f us g:=λ_ _ h=>wu_ h d f us g
theorem mE(e:E)(σ:Su)(g:G):y8_ λn=>(lv fns d n).ev e σ g:=λ_ _ h=>(wI_ h).ev _ _ _
theorem mT(e:E)(σ:Su)(g:G):y8_ λn=>(lv fns d n).ts e σ g:=λ_ _ h=>(wI_ h).ts _ _ _
theorem mEs(e:List E)(σ:Su)(g:G):y8_ λn=>evs (lv fns d n).ev e σ g:=λ_ _ h=>yu_ (wI_ h).ev _ _ _
theorem mO(e:Option E)(σ:Su)(g:G):y8_ λn=>evo (lv fns d n).ev e σ g:=λ_ _ h=>nS_ (wI_ h).ev _ _ _
theorem mA(e:List E)(σ:Su)(g:G):y8_ λn=>wY_ (lv fns d n).ts e σ g:=λ_ _ h=>vy_ (wI_ h).ts _ _ _
theorem mI(e:E)(σ:Su)(g:G):y8_ λn=>itF (lv fns d n) e σ g:=λ_ _ h=>vi_ (wI_ h) _ _ _
theorem m1(e:S)(σ:Su)(g:G):y8_ λn=>s1F (lv fns d n) e σ g:=λ_ _ h=>oH_ (wI_ h) _ _ _
theorem mS(e:List S)(σ:Su)(g:G):y8_ λn=>(lv fns d n).ex e σ g:=λ_ _ h=>(wI_ h).ex _ _ _
theorem mW(e:E)(b:List S)(σ:Su)(g:G):y8_ λn=>(lv fns d n).wh e b σ g:=λ_ _ h=>(wI_ h).wh _ _ _ _
theorem mF(t:Tg)(it:Iter)(i:Nat)(b:List S)(σ:Su)(g:G):y8_ λn=>(lv fns d n).fr t it i b σ g:=λ_ _ h=>(wI_ h).fr _ _ _ _ _ _
theorem mM(it:Iter)(i:Nat)(t:Tg)(cs:List E)(rest:List (Tg×E×List E))(elt:E)(acc:List U)(σ:Su)(g:G):y8_ λn=>(lv fns d n).cm it i t cs rest elt acc σ g:=λ_ _ h=>(wI_ h).cm _ _ _ _ _ _ _ _ _
theorem mK{α:Type}(o:Out α):y8_ λ_=>o:=λ_ _ _ => .rfl
theorem mB{α β:Type}{f:Nat->Out α}{k:Nat->α->G->Out β}(h:y8_ f)(hk:∀ a g,y8_ λn=>k n a g):y8_ λn=>(f n).bind (k n):=λm n z=>zm_ (h m n z) λa g=>hk a g m n z
theorem mBB{α β:Type}{f:Nat->Out α}{k:Nat->α->G->Out β}(h:y8_ f)(hk:∀ a g,y8_ λn=>k n a g):y8_ λn=>(f n).bindB (k n):=λm n z=>ya_ (h m n z) λa g=>hk a g m n z
theorem zq_{e:E}{Q:U->G->Prop}:wpE fns d e σ g X Q ↔ wp (λn=>evF (cA fns d n) (lv fns d n) e σ g) X Q :=
 vv_ (λn=>match n with
  | 0=>⟨0,.bot⟩
  | n+1=>⟨n+1,q7_ (C:=cA fns d (n+1)) (λ_ _ _ => .rfl) (z5_ (λ_ _ _ => .rfl) (Nat.le_succ n)) e σ g⟩) λn=>⟨n+1,q7_ (C:=cA fns d n) (C':=cA fns d (n+1)) (ud_ (Nat.le_succ n)) (z5_ (ud_ (Nat.le_succ n)) (Nat.le_refl n)) e σ g⟩
theorem uO_{e:E}{Q:Bool->G->Prop}:wpT fns d e σ g X Q ↔ wp (λn=>tsF (lv fns d n) e σ g) X Q :=
 vv_ (λn=>match n with
  | 0=>⟨0,.bot⟩
  | n+1=>⟨n+1,rW_ (z5_ (λ_ _ _ => .rfl) (Nat.le_succ n)) e σ g⟩) λn=>⟨n+1,rW_ (z5_ (ud_ (Nat.le_succ n)) (Nat.le_refl n)) e σ g⟩
theorem n8_{e:List S}{Q:Fl->G->Prop}:wpS fns d e σ g X Q ↔ wp (λn=>exF (lv fns d n) e σ g) X Q :=
 vv_ (λn=>match n with
  | 0=>⟨0,.bot⟩
  | n+1=>⟨n+1,rs_ (z5_ (λ_ _ _ => .rfl) (Nat.le_succ n)) e σ g⟩) λn=>⟨n+1,rs_ (z5_ (ud_ (Nat.le_succ n)) (Nat.le_refl n)) e σ g⟩
theorem h2_{c:E}{b:List S}{Q:Fl->G->Prop}:wpW fns d c b σ g X Q ↔ wp (λn=>whF (lv fns d n) c b σ g) X Q :=
 vv_ (λn=>match n with
  | 0=>⟨0,.bot⟩
  | n+1=>⟨n+1,rI_ (z5_ (λ_ _ _ => .rfl) (Nat.le_succ n)) c b σ g⟩) λn=>⟨n+1,rI_ (z5_ (ud_ (Nat.le_succ n)) (Nat.le_refl n)) c b σ g⟩
theorem hp_{t:Tg}{it:Iter}{i:Nat}{b:List S}{Q:Fl->G->Prop}:wpF fns d t it i b σ g X Q ↔ wp (λn=>frF (lv fns d n) t it i b σ g) X Q :=
 vv_ (λn=>match n with
  | 0=>⟨0,.bot⟩
  | n+1=>⟨n+1,rK_ (z5_ (λ_ _ _ => .rfl) (Nat.le_succ n)) t it i b σ g⟩) λn=>⟨n+1,rK_ (z5_ (ud_ (Nat.le_succ n)) (Nat.le_refl n)) t it i b σ g⟩
theorem iE_{it:Iter}{i:Nat}{t:Tg}{cs:List E}{rest:List (Tg×E×List E)}{elt:E}{acc:List U}{Q:List U->G->Prop}:wpM fns d it i t cs rest elt acc σ g X Q ↔ wp (λn=>cmF (lv fns d n) it i t cs rest elt acc σ g) X Q :=
 vv_ (λn=>match n with
  | 0=>⟨0,.bot⟩
  | n+1=>⟨n+1,qy_ (z5_ (λ_ _ _ => .rfl) (Nat.le_succ n)) it i t cs rest elt acc σ g⟩) λn=>⟨n+1,qy_ (z5_ (ud_ (Nat.le_succ n)) (Nat.le_refl n)) it i t cs rest elt acc σ g⟩
end
local macro_rules | `(tactic| sleep 9) => `(tactic| (intros; repeat (first | exact mE _ _ _ | exact mT _ _ _ | exact mEs _ _ _ | exact mO _ _ _ | exact mA _ _ _ | exact mI _ _ _ | exact mS _ _ _ | exact mC _ _ _ | exact mW _ _ _ _ | exact mF _ _ _ _ _ _ | exact mM _ _ _ _ _ _ _ _ _ | exact mK _ | apply mB | apply mBB | intro _)))
theorem wp_congr{α:Type}{f:Nat->Out α}{X:XP}{Q Q':α->G->Prop}(h:∀ a g,Q a g ↔ Q' a g):wp f X Q ↔ wp f X Q':=⟨λq=>wp_mono q λa g=>(h a g).1,λq=>wp_mono q λa g=>(h a g).2⟩
section
variable{fns:List Fn}{d:Nat}{X:XP}{σ:Su}{g:G}
theorem z2_{α:Type}{o:Option α}{Q:α->G->Prop}:holds (lift o g) X Q ↔ ∃ a,o=some a/\Q a g:=by
 cases o with
 | none=>exact ⟨λh=>h.elim,λ⟨_,e,_⟩=>by cases e⟩
 | some a=>exact ⟨λh=>⟨a,rfl,h⟩,λ⟨b,e,h⟩=>by cases e;exact h⟩
theorem xM_{o:Option Bool}{Q:U->G->Prop}:holds (match o with | some c=>Out.ok (U.bl c) g | none => .bad) X Q ↔ ∃ c,o=some c/\Q (.bl c) g:=by
 cases o with
 | none=>exact ⟨λh=>h.elim,λ⟨_,e,_⟩=>by cases e⟩
 | some a=>exact ⟨λh=>⟨a,rfl,h⟩,λ⟨b,e,h⟩=>by cases e;exact h⟩
section
variable{Q:U->G->Prop}
theorem eK_{i:Nat}:wpE fns d (.var i) σ g X Q ↔ ∃ u,σ[i]? = some (some u)/\Q u g:=by
 rw [zq_];simp only [evF,za_];cases e:σ[i]? with
 | none=>exact ⟨λh=>h.elim,λ⟨_,e,_⟩=>by cases e⟩
 | some o=>cases o with
  | none=>exact ⟨λh=>h.elim,λ⟨_,e,_⟩=>by cases e⟩
  | some a=>exact ⟨λh=>⟨a,rfl,h⟩,λ⟨b,e,h⟩=>by cases e;exact h⟩
theorem fE_{u:U}:wpE fns d (.cst u) σ g X Q ↔ Q u g:=by rw [zq_];simp only [evF,za_];rfl
theorem dm_{op:Op}{a b:E}:wpE fns d (.bin op a b) σ g X Q ↔ wpE fns d a σ g X λx g=>wpE fns d b σ g X λy g=>holds (rT_ op x y g) X Q:=by
 rw [zq_];simp only [evF];refine (wp_bind (by sleep 9) (by sleep 9)).trans (wp_congr λ_ _ => ?_);refine (wp_bind (by sleep 9) (by sleep 9)).trans (wp_congr λ_ _ => ?_);exact za_
theorem cJ_{a:E}{j:Nat}{cs:List Nat}:wpE fns d (.fld a j cs) σ g X Q ↔ wpE fns d a σ g X λx g => ∃ z,(yz_ x g).bind (uU_ j cs)=some z/\Q z g:=by
 rw [zq_];simp only [evF];refine (wp_bind (by sleep 9) (by sleep 9)).trans (wp_congr λ_ _ => ?_);exact za_.trans z2_
theorem iI_{a:E}:wpE fns d (.revm a) σ g X Q ↔ wpE fns d a σ g X λx g => ∃ n,asL x g=some n/\holds (ux_ n g) X Q:=by
 rw [zq_];simp only [evF];refine (wp_bind (by sleep 9) (by sleep 9)).trans (wp_congr λx g=>za_.trans ?_)
 cases asL x g with
 | none=>exact ⟨λh=>h.elim,λ⟨_,e,_⟩=>by cases e⟩
 | some a=>exact ⟨λh=>⟨a,rfl,h⟩,λ⟨b,e,h⟩=>by cases e;exact h⟩
theorem k6_{c f:Nat}{es ks:List E}{pm:List (Nat ⊕ U)}:wpE fns d (.make c f es ks pm) σ g X Q ↔ z3_ fns d es σ g X λus g=>z3_ fns d ks σ g X λws g=>us.length=es.length/\ws.length=ks.length/\wpC fns d f (perm (.ref g.length :: us++ws) pm) (g++[.ins c []]) X λu g'=>z8_ u=true/\Q (.ref g.length) g':=by
 rw [zq_];simp only [evF];have hm:∀ (us ws:List U) (g:G),y8_ λn=>if us.length=es.length/\ws.length=ks.length then (zb_ fns n d f (perm (.ref g.length :: us++ws) pm) (g++[.ins c []])).bind λu g'=>if z8_ u then Out.ok (U.ref g.length) g' else .bad else .bad:=λus ws g=>by
  split
  .exact mB (mC _ _ _) λ_ _=>mK _
  .exact mK _
 refine (wp_bind (mEs _ _ _) λus g=>mB (mEs _ _ _) λws g=>hm us ws g).trans (wp_congr λus g => ?_);refine (wp_bind (mEs _ _ _) λws g=>hm us ws g).trans (wp_congr λws g => ?_);split
 .rename_i h
  refine Iff.trans ((wp_bind (k:=λ_ u g'=>if z8_ u=true then Out.ok (U.ref (List.length g)) g' else Out.bad) (mC _ _ _) λ_ _=>mK _).trans (wp_congr λu g'=>za_.trans ?_)) ⟨λq=>⟨h.1,h.2,q⟩,λq=>q.2.2⟩
  split
  .rename_i hu;exact ⟨λq=>⟨hu,q⟩,λq=>q.2⟩
  .rename_i hu;exact ⟨λq=>q.elim,λq=>(hu q.1).elim⟩
 .rename_i h;exact ⟨λ⟨_,q⟩=>q.elim,λq=>(h ⟨q.1,q.2.1⟩).elim⟩
theorem is_{a:E}{j:Nat}{tb:List (Nat×Nat×List (Nat ⊕ U))}{es ks:List E}:wpE fns d (.meth a j tb es ks) σ g X Q ↔ wpE fns d a σ g X λx g => ∃ p,(yz_ x g).bind (y4_ j tb)=some p/\z3_ fns d es σ g X λus g=>z3_ fns d ks σ g X λws g=>us.length=es.length/\ws.length=ks.length/\wpC fns d p.1 (perm (x :: us++ws) p.2) g X Q:=by
 rw [zq_];simp only [evF];have hm:∀ (x:U) (p:Nat×List (Nat ⊕ U)) (us ws:List U) (g:G),y8_ λn=>if us.length=es.length/\ws.length=ks.length then zb_ fns n d p.1 (perm (x :: us++ws) p.2) g else .bad:=λx p us ws g=>by
  split
  .exact mC _ _ _
  .exact mK _
 have hm2:∀ (x:U) (g:G) (o:Option (Nat×List (Nat ⊕ U))),y8_ λn=>match o with
   | some p=>(evs (lv fns d n).ev es σ g).bind λus g=>(evs (lv fns d n).ev ks σ g).bind λws g=>if us.length=es.length/\ws.length=ks.length then zb_ fns n d p.1 (perm (x :: us++ws) p.2) g else .bad
   | none => .bad:=λx g o=>by
  cases o with
  | none=>exact mK _
  | some p=>exact mB (mEs _ _ _) λus g=>mB (mEs _ _ _) λws g=>hm x p us ws g
 refine (wp_bind (mE _ _ _) λx g=>hm2 x g _).trans (wp_congr λx g => ?_);cases (yz_ x g).bind (y4_ j tb) with
 | none=>exact ⟨λ⟨_,q⟩=>q.elim,λ⟨_,e,_⟩=>by cases e⟩
 | some p =>
  refine Iff.trans (?_:_ ↔ z3_ fns d es σ g X λus g=>z3_ fns d ks σ g X λws g=>us.length=es.length/\ws.length=ks.length/\wpC fns d p.1 (perm (x :: us++ws) p.2) g X Q) ⟨λq=>⟨p,rfl,q⟩,λ⟨p',e,q⟩=>by cases e;exact q⟩
  refine (wp_bind (mEs _ _ _) λus g=>mB (mEs _ _ _) λws g=>hm x p us ws g).trans (wp_congr λus g => ?_);refine (wp_bind (mEs _ _ _) λws g=>hm x p us ws g).trans (wp_congr λws g => ?_);split
  .rename_i h;exact ⟨λq=>⟨h.1,h.2,q⟩,λq=>q.2.2⟩
  .rename_i h;exact ⟨λ⟨_,q⟩=>q.elim,λq=>(h ⟨q.1,q.2.1⟩).elim⟩
theorem e1_{op:Cp}{a b:E}:wpE fns d (.cmp op a b) σ g X Q ↔ wpE fns d a σ g X λx g=>wpE fns d b σ g X λy g => ∃ z,cmp2 op x y g=some z/\Q (.bl z) g:=by
 rw [zq_];simp only [evF];refine (wp_bind (by sleep 9) (by sleep 9)).trans (wp_congr λ_ _ => ?_);refine (wp_bind (by sleep 9) (by sleep 9)).trans (wp_congr λ_ _ => ?_);exact za_.trans xM_
theorem m0_{op op':Cp}{a b c:E}:wpE fns d (.chain op op' a b c) σ g X Q ↔ wpE fns d a σ g X λx g=>wpE fns d b σ g X λy g => ∃ z,cmp2 op x y g=some z/\if z then wpE fns d c σ g X λw g => ∃ z,cmp2 op' y w g=some z/\Q (.bl z) g else Q (.bl false) g:=by
 rw [zq_];simp only [evF];refine (wp_bind (by sleep 9) (by intro x g;refine mB (mE _ _ _) λy g => ?_;generalize cmp2 op x y g=o;cases o with | none=>exact mK _ | some z=>cases z;exact mK _;exact mB (mE _ _ _) λ_ _=>mK _)).trans (wp_congr λx g => ?_)
 refine (wp_bind (by sleep 9) (by intro y g;generalize cmp2 op x y g=o;cases o with | none=>exact mK _ | some z=>cases z;exact mK _;exact mB (mE _ _ _) λ_ _=>mK _)).trans (wp_congr λy g => ?_)
 generalize cmp2 op x y g=o;cases o with
 | none=>exact ⟨λ⟨_,h⟩=>h.elim,λ⟨_,e,_⟩=>by cases e⟩
 | some z =>
  cases z
  .exact ⟨λ⟨_,h⟩=>⟨false,rfl,h⟩,λ⟨z,e,h⟩=>by cases e;exact ⟨0,h⟩⟩
  .refine Iff.trans ((wp_bind (by sleep 9) (by sleep 9)).trans (wp_congr λ_ _=>za_.trans xM_)) ?_;exact ⟨λh=>⟨true,rfl,h⟩,λ⟨z,e,h⟩=>by cases e;exact h⟩
theorem ds_{a b:E}:wpE fns d (.and a b) σ g X Q ↔ wpE fns d a σ g X λx g => ∃ z,x=.bl z/\if z then wpE fns d b σ g X Q else Q (.bl false) g:=by
 rw [zq_];simp only [evF];refine (wp_bind (by sleep 9) (by intro x g;cases x with | bl b=>cases b;exact mK _;exact mE _ _ _ | _=>exact mK _)).trans (wp_congr λx g => ?_)
 split
 .exact ⟨λh=>⟨true,rfl,h⟩,λ⟨z,e,h⟩=>by cases e;exact h⟩
 .simp only [za_];exact ⟨λh=>⟨false,rfl,h⟩,λ⟨z,e,h⟩=>by cases e;exact h⟩
 .rename_i h1 h2
  simp only [za_];exact ⟨λh=>h.elim,λ⟨z,e,h⟩=>by cases z;exact absurd e h2;exact absurd e h1⟩
theorem aw_{a b:E}:wpE fns d (.or a b) σ g X Q ↔ wpE fns d a σ g X λx g => ∃ z,x=.bl z/\if z then Q (.bl true) g else wpE fns d b σ g X Q:=by
 rw [zq_];simp only [evF];refine (wp_bind (by sleep 9) (by intro x g;cases x with | bl b=>cases b;exact mE _ _ _;exact mK _ | _=>exact mK _)).trans (wp_congr λx g => ?_)
 split
 .simp only [za_];exact ⟨λh=>⟨true,rfl,h⟩,λ⟨z,e,h⟩=>by cases e;exact h⟩
 .exact ⟨λh=>⟨false,rfl,h⟩,λ⟨z,e,h⟩=>by cases e;exact h⟩
 .rename_i h1 h2
  simp only [za_];exact ⟨λh=>h.elim,λ⟨z,e,h⟩=>by cases z;exact absurd e h2;exact absurd e h1⟩
theorem dN_{a:E}:wpE fns d (.not a) σ g X Q ↔ wpE fns d a σ g X λx g => ∃ c,tru x g=some c/\Q (.bl !c) g:=by
 rw [zq_];simp only [evF];refine (wp_bind (by sleep 9) (by sleep 9)).trans (wp_congr λx g=>za_.trans ?_)
 cases tru x g with
 | none=>exact ⟨λh=>h.elim,λ⟨_,e,_⟩=>by cases e⟩
 | some a=>exact ⟨λh=>⟨a,rfl,h⟩,λ⟨b,e,h⟩=>by cases e;exact h⟩
theorem dF_{a:E}:wpE fns d (.neg a) σ g X Q ↔ wpE fns d a σ g X λx g => ∃ i,x=.int i/\Q (.int (-i)) g:=by
 rw [zq_];simp only [evF];refine (wp_bind (by sleep 9) (by sleep 9)).trans (wp_congr λx g=>za_.trans ?_)
 cases x with
 | int a=>exact ⟨λh=>⟨a,rfl,h⟩,λ⟨b,e,h⟩=>by cases e;exact h⟩
 | _=>exact ⟨λh=>h.elim,λ⟨_,e,_⟩=>by cases e⟩
theorem dE_{c a b:E}:wpE fns d (.ite c a b) σ g X Q ↔ wpT fns d c σ g X λk g=>if k then wpE fns d a σ g X Q else wpE fns d b σ g X Q:=by
 rw [zq_];simp only [evF];refine (wp_bind (by sleep 9) (by intro k g;cases k;exact mE _ _ _;exact mE _ _ _)).trans (wp_congr λx g => ?_)
 cases x <;> exact Iff.rfl
theorem cB_{es:List E}:wpE fns d (.tup es) σ g X Q ↔ z3_ fns d es σ g X λus g=>us.length<=zd_/\Q (.tup us) g:=by
 rw [zq_];simp only [evF];refine (wp_bind (by sleep 9) (by sleep 9)).trans (wp_congr λx g=>za_.trans ?_)
 split
 .rename_i h;exact ⟨λq=>⟨h,q⟩,λq=>q.2⟩
 .rename_i h;exact ⟨λq=>q.elim,λq=>h q.1⟩
theorem d0_{es:List E}:wpE fns d (.lst es) σ g X Q ↔ z3_ fns d es σ g X λus g=>us.length<=zd_/\Q (.ref g.length) (g++[.lst us]):=by
 rw [zq_];simp only [evF];refine (wp_bind (by sleep 9) (by sleep 9)).trans (wp_congr λx g=>za_.trans ?_)
 split
 .rename_i h;exact ⟨λq=>⟨h,q⟩,λq=>q.2⟩
 .rename_i h;exact ⟨λq=>q.elim,λq=>h q.1⟩
theorem cx_{a b:E}:wpE fns d (.idx a b) σ g X Q ↔ wpE fns d a σ g X λx g=>wpE fns d b σ g X λy g=>match y with | .tup us => ∃ z,(zA_ (.tup us) x g).bind id=some z/\Q z g | .str k => ∃ z,(asS x g).bind (λkvs=>rD_ kvs k)=some z/\Q z g | y => ∃ i xs z,y=.int i/\items x g=some xs/\uix xs i=some z/\Q z g:=by
 rw [zq_];simp only [evF];refine (wp_bind (by sleep 9) (by sleep 9)).trans (wp_congr λx g=>(wp_bind (by sleep 9) (by sleep 9)).trans (wp_congr λy g=>za_.trans ?_))
 cases y with
 | int i =>
  cases e:items x g with
  | none=>simp only [e];exact ⟨λh=>h.elim,λ⟨_,_,_,_,e,_⟩=>by cases e⟩
  | some xs =>
   simp only [e,z2_];exact ⟨λ⟨z,h,q⟩=>⟨i,xs,z,rfl,rfl,h,q⟩,λ⟨i',xs',z,e1,e2,h,q⟩=>by cases e1;cases e2;exact ⟨z,h,q⟩⟩
 | tup us=>simp only [z2_]
 | str k=>simp only [z2_]
 | _=>exact ⟨λh=>h.elim,λ⟨_,_,_,e,_⟩=>by cases e⟩
theorem eH_{a:E}{lo hi:Option E}:wpE fns d (.slc a lo hi) σ g X Q ↔ wpE fns d a σ g X λx g=>wpO fns d lo σ g X λl g=>wpO fns d hi σ g X λh g=>holds (match x with
  | .tup xs=>if HT.sIx xs.length 0 l=0/\HT.sIx xs.length xs.length h=xs.length then .bad else .ok (.tup (tP_ xs l h)) g
  | .fro xs=>alloc (.lst (tP_ xs l h)) g
  | .ref n=>match g[n]? with
   | some (.lst xs)=>alloc (.lst (tP_ xs l h)) g
   | _ => .bad
  | _ => .bad) X Q:=by
 rw [zq_];simp only [evF];refine (wp_bind (by sleep 9) (by sleep 9)).trans (wp_congr λ_ _ => ?_);refine (wp_bind (by sleep 9) (by sleep 9)).trans (wp_congr λ_ _ => ?_);refine (wp_bind (by sleep 9) (by sleep 9)).trans (wp_congr λ_ _ => ?_);exact za_
theorem dY_{a:E}:wpE fns d (.rev a) σ g X Q ↔ wpE fns d a σ g X λx g => ∃ n xs,x=.ref n/\g[n]? = some (.lst xs)/\Q (.ref g.length) (g++[.lst xs.reverse]):=by
 rw [zq_];simp only [evF];refine (wp_bind (by sleep 9) (by sleep 9)).trans (wp_congr λx g=>za_.trans ?_)
 cases x with
 | ref n =>
  cases e:g[n]? with
  | none=>simp only [e];exact ⟨λh=>h.elim,λ⟨_,_,e1,e2,_⟩=>by cases e1;rw [e] at e2;cases e2⟩
  | some o =>
   cases o with
   | lst xs=>simp only [e];exact ⟨λh=>⟨n,xs,rfl,e,h⟩,λ⟨_,_,e1,e2,h⟩=>by cases e1;rw [e] at e2;cases e2;exact h⟩
   | _=>simp only [e];exact ⟨λh=>h.elim,λ⟨_,_,e1,e2,_⟩=>by cases e1;rw [e] at e2;cases e2⟩
 | _=>exact ⟨λh=>h.elim,λ⟨_,_,e,_⟩=>by cases e⟩
theorem iB_{f:Nat}{es:List E}:wpE fns d (.call f es) σ g X Q ↔ z3_ fns d es σ g X λus g=>wpC fns d f us g X Q:=by
 rw [zq_];simp only [evF];exact wp_bind (by sleep 9) (by sleep 9)
theorem bY_{b:Bi}{es:List E}:wpE fns d (.bi b es) σ g X Q ↔ z3_ fns d es σ g X λus g=>holds (bi1 b us g) X Q:=by
 rw [zq_];simp only [evF];exact (wp_bind (by sleep 9) (by sleep 9)).trans (wp_congr λx g=>za_)
theorem jF_:wpE fns d .dnew σ g X Q ↔ Q (.ref g.length) (g++[.dic []]):=by
 rw [zq_];simp only [evF];exact za_
theorem dL_{a:E}{t:Ty}:wpE fns d (.isi a t) σ g X Q ↔ wpE fns d a σ g X λx g => ∃ c,vL_ t x g=some c/\Q (.bl c) g:=by
 rw [zq_];simp only [evF];exact (wp_bind (by sleep 9) (by sleep 9)).trans (wp_congr λx g=>za_.trans xM_)
theorem optN{α:Type}{o:Option Nat}{f:Nat->Nat->Out α}{Q:α->G->Prop}:wp (λn=>match o with | some k=>f n k | none => .bad) X Q ↔ ∃ k,o=some k/\wp (λn=>f n k) X Q:=by
 cases o with
 | none=>exact ⟨λ⟨_,h⟩=>h.elim,λ⟨_,e,_⟩=>by cases e⟩
 | some a=>exact ⟨λh=>⟨a,rfl,h⟩,λ⟨b,e,h⟩=>by cases e;exact h⟩
theorem mN{α:Type}{o:Option Nat}{f:Nat->Nat->Out α}(h:∀ k,y8_ λn=>f n k):y8_ λn=>(match o with | some k=>f n k | none => .bad:Out α):=by
 cases o with
 | none=>exact mK _
 | some k=>exact h k
theorem cN_{o v:E}:wpE fns d (.app o v) σ g X Q ↔ wpE fns d o σ g X λx g => ∃ k,asL x g=some k/\wpE fns d v σ g X λy g=>holds (xm_ k y g) X Q:=by
 rw [zq_];simp only [evF];refine (wp_bind (by sleep 9) (by intro x g;exact mN λk=>mB (mE _ _ _) λ_ _=>mK _)).trans (wp_congr λx g=>optN.trans (exists_congr λk=>and_congr Iff.rfl ?_))
 refine (wp_bind (by sleep 9) (by sleep 9)).trans (wp_congr λ_ _ => ?_);exact za_
theorem gS_{o v:E}:wpE fns d (.popi o v) σ g X Q ↔ wpE fns d o σ g X λx g => ∃ k,asL x g=some k/\wpE fns d v σ g X λy g=>holds (uj_ k y g) X Q:=by
 rw [zq_];simp only [evF];refine (wp_bind (by sleep 9) (by intro x g;exact mN λk=>mB (mE _ _ _) λ_ _=>mK _)).trans (wp_congr λx g=>optN.trans (exists_congr λk=>and_congr Iff.rfl ?_))
 refine (wp_bind (by sleep 9) (by sleep 9)).trans (wp_congr λ_ _ => ?_);exact za_
theorem dj_{o v:E}:wpE fns d (.ext o v) σ g X Q ↔ wpE fns d o σ g X λx g => ∃ k,asL x g=some k/\wpE fns d v σ g X λy g=>holds (vA_ k y g) X Q:=by
 rw [zq_];simp only [evF];refine (wp_bind (by sleep 9) (by intro x g;exact mN λk=>mB (mE _ _ _) λ_ _=>mK _)).trans (wp_congr λx g=>optN.trans (exists_congr λk=>and_congr Iff.rfl ?_))
 refine (wp_bind (by sleep 9) (by sleep 9)).trans (wp_congr λ_ _ => ?_);exact za_
theorem de_{o:E}:wpE fns d (.pop o) σ g X Q ↔ wpE fns d o σ g X λx g => ∃ k,asL x g=some k/\holds (w1_ k g) X Q:=by
 rw [zq_];simp only [evF];exact (wp_bind (by sleep 9) (by intro x g;exact mN λk=>mK _)).trans (wp_congr λx g=>optN.trans (exists_congr λk=>and_congr Iff.rfl za_))
theorem h9_{own:Nat}{fr:List Nat}{t:Tg}{it:E}{cs:List E}{rest:List (Tg×E×List E)}{k v:E}:wpE fns d (.dcmp own fr ((t,it,cs) :: rest) k v) σ g X Q ↔
  wpI fns d it σ g X λi g=>wpM fns d i 0 t cs rest (.pair k v) [] (List.replicate own none++fr.map λj=>(σ[j]?).getD none) g (λ_ _ _=>False) λus g => ∃ kvs,dfold us []=some kvs/\Q (.ref g.length) (g++[.dic kvs]):=by
 rw [zq_];simp only [evF];refine (wp_bind (by sleep 9) (by sleep 9)).trans (wp_congr λx g=>(z1_ (by sleep 9) (by sleep 9)).trans (wp_congr λus g=>za_.trans ?_))
 cases dfold us [] with
 | none=>exact ⟨λq=>q.elim,λ⟨_,e,_⟩=>by cases e⟩
 | some kvs=>exact ⟨λq=>⟨kvs,rfl,q⟩,λ⟨_,e,q⟩=>by cases e;exact q⟩
theorem ht_{k v:E}:wpE fns d (.pair k v) σ g X Q ↔ wpE fns d k σ g X λx g=>wpE fns d v σ g X λy g => ∃ ks,keyOf x=some ks/\Q (.tup [x,y]) g:=by
 rw [zq_];simp only [evF];refine (wp_bind (by sleep 9) (by sleep 9)).trans (wp_congr λx g=>(wp_bind (by sleep 9) (by sleep 9)).trans (wp_congr λy g=>za_.trans ?_))
 cases keyOf x with
 | none=>exact ⟨λq=>q.elim,λ⟨_,e,_⟩=>by cases e⟩
 | some kvs=>exact ⟨λq=>⟨kvs,rfl,q⟩,λ⟨_,e,q⟩=>q⟩
theorem fY_{ks:List PySem.Str}{es:List E}:wpE fns d (.ddsp ks es) σ g X Q ↔ z3_ fns d es σ g X λus g=>Q (.ref g.length) (g++[.dst (ks.zip us)]):=by
 rw [zq_];simp only [evF];exact (wp_bind (by sleep 9) (by sleep 9)).trans (wp_congr λx g=>za_)
theorem cd_{o k x:E}:wpE fns d (.dgt o k x) σ g X Q ↔ wpE fns d o σ g X λy g => ∃ kvs,asD y g=some kvs/\wpE fns d k σ g X λz g=>wpE fns d x σ g X λw g => ∃ q,zA_ z y g=some q/\Q (q.getD w) g:=by
 rw [zq_];simp only [evF];refine (wp_bind (by sleep 9) (by intro x g;cases asD x g with | none=>exact mK _ | some _=>exact mB (mE _ _ _) λ_ _=>mB (mE _ _ _) λ_ _=>mK _)).trans (wp_congr λy g => ?_)
 cases asD y g with
 | none=>exact za_.trans ⟨λq=>q.elim,λ⟨_,e,_⟩=>(by cases e)⟩
 | some kvs =>
  have main:wp (λn=>((lv fns d n).ev k σ g).bind λz g=>((lv fns d n).ev x σ g).bind λw g=>match zA_ z y g with | some q => .ok (q.getD w) g | none => .bad) X Q ↔ wpE fns d k σ g X λz g=>wpE fns d x σ g X λw g => ∃ q,zA_ z y g=some q/\Q (q.getD w) g:=by
   refine (wp_bind (by sleep 9) (by sleep 9)).trans (wp_congr λz g=>(wp_bind (by sleep 9) (by sleep 9)).trans (wp_congr λw g=>za_.trans ?_))
   cases zA_ z y g with
   | none=>exact ⟨λq=>q.elim,λ⟨_,e,_⟩=>by cases e⟩
   | some o=>exact ⟨λq=>⟨o,rfl,q⟩,λ⟨_,e,q⟩=>by cases e;exact q⟩
  exact main.trans ⟨λq=>⟨kvs,rfl,q⟩,λ⟨_,_,q⟩=>q⟩
theorem hq_{own:Nat}{fr:List Nat}{t:Tg}{it:E}{cs:List E}{rest:List (Tg×E×List E)}{elt:E}:wpE fns d (.comp own fr ((t,it,cs) :: rest) elt) σ g X Q ↔
  wpI fns d it σ g X λi g=>wpM fns d i 0 t cs rest elt [] (List.replicate own none++fr.map λj=>(σ[j]?).getD none) g (λ_ _ _=>False) λus g=>us.length<=zd_/\Q (.ref g.length) (g++[.lst us]):=by
 rw [zq_];simp only [evF];refine (wp_bind (by sleep 9) (by sleep 9)).trans (wp_congr λx g=>(z1_ (by sleep 9) (by sleep 9)).trans (wp_congr λus g=>za_.trans ?_))
 split
 .rename_i h;exact ⟨λq=>⟨h,q⟩,λq=>q.2⟩
 .rename_i h;exact ⟨λq=>q.elim,λq=>h q.1⟩
end
theorem mf_{Q:List U->G->Prop}:z3_ fns d [] σ g X Q ↔ Q [] g:=by unfold z3_;simp only [evs,za_];rfl
theorem q0_{e:E}{es:List E}{Q:List U->G->Prop}:z3_ fns d (e :: es) σ g X Q ↔ wpE fns d e σ g X λu g=>z3_ fns d es σ g X λus g=>Q (u :: us) g:=by
 unfold z3_;simp only [evs];refine (wp_bind (by sleep 9) (by sleep 9)).trans (wp_congr λ_ _ => ?_);refine (wp_bind (by sleep 9) (by sleep 9)).trans (wp_congr λ_ _ => ?_);exact za_
theorem nU_{Q:Option Int->G->Prop}:wpO fns d none σ g X Q ↔ Q none g:=by unfold wpO;simp only [evo,za_];rfl
theorem gx_{e:E}{Q:Option Int->G->Prop}:wpO fns d (some e) σ g X Q ↔ wpE fns d e σ g X λu g => ∃ i,u=.int i/\Q (some i) g:=by
 unfold wpO;simp only [evo];refine (wp_bind (by sleep 9) (by sleep 9)).trans (wp_congr λx g=>za_.trans ?_)
 cases x with
 | int a=>exact ⟨λh=>⟨a,rfl,h⟩,λ⟨b,e,h⟩=>by cases e;exact h⟩
 | _=>exact ⟨λh=>h.elim,λ⟨_,e,_⟩=>by cases e⟩
section
variable{Q:Bool->G->Prop}
theorem dV_{a b:E}:wpT fns d (.and a b) σ g X Q ↔ wpT fns d a σ g X λk g=>if k then wpT fns d b σ g X Q else Q false g:=by
 rw [uO_];simp only [tsF];refine (wp_bind (by sleep 9) (by intro k g;cases k;exact mK _;exact mT _ _ _)).trans (wp_congr λx g => ?_)
 cases x
 .exact za_
 .exact Iff.rfl
theorem b9_{a b:E}:wpT fns d (.or a b) σ g X Q ↔ wpT fns d a σ g X λk g=>if k then Q true g else wpT fns d b σ g X Q:=by
 rw [uO_];simp only [tsF];refine (wp_bind (by sleep 9) (by intro k g;cases k;exact mT _ _ _;exact mK _)).trans (wp_congr λx g => ?_)
 cases x
 .exact Iff.rfl
 .exact za_
theorem cK_{a:E}:wpT fns d (.not a) σ g X Q ↔ wpT fns d a σ g X λk g=>Q (!k) g:=by
 rw [uO_];simp only [tsF];refine (wp_bind (by sleep 9) (by sleep 9)).trans (wp_congr λ_ _ => ?_);exact za_
theorem cA_{c a b:E}:wpT fns d (.ite c a b) σ g X Q ↔ wpT fns d c σ g X λk g=>if k then wpT fns d a σ g X Q else wpT fns d b σ g X Q:=by
 rw [uO_];simp only [tsF];refine (wp_bind (by sleep 9) (by intro k g;cases k;exact mT _ _ _;exact mT _ _ _)).trans (wp_congr λx g => ?_)
 cases x <;> exact Iff.rfl
noncomputable def plainT:E->Bool
 | .and _ _=>false | .or _ _=>false | .not _=>false | .ite _ _ _=>false | _=>true
theorem T_e{e:E}(h:plainT e=true):wpT fns d e σ g X Q ↔ wpE fns d e σ g X λx g => ∃ c,tru x g=some c/\Q c g:=by
 rw [uO_];have:(λn=>tsF (lv fns d n) e σ g)=λn=>((lv fns d n).ev e σ g).bind λx g=>lift (tru x g) g:=by
  funext n;cases e <;> first | rfl | cases h
 rw [this];refine (wp_bind (by sleep 9) (by sleep 9)).trans (wp_congr λ_ _ => ?_);exact za_.trans z2_
theorem jV_:wpA fns d [] σ g X Q ↔ Q true g:=by unfold wpA;simp only [wY_,za_];rfl
theorem fJ_{c:E}{cs:List E}:wpA fns d (c :: cs) σ g X Q ↔ wpT fns d c σ g X λk g=>if k then wpA fns d cs σ g X Q else Q false g:=by
 unfold wpA;simp only [wY_];refine (wp_bind (by sleep 9) (by intro k g;cases k;exact mK _;exact mA _ _ _)).trans (wp_congr λx g => ?_)
 cases x
 .exact za_
 .exact Iff.rfl
end
section
variable{Q:Iter->G->Prop}
theorem fd_{a:E}:wpI fns d (.rng1 a) σ g X Q ↔ wpE fns d a σ g X λu g => ∃ j,u=.int j/\(-1000000 < j/\j < 1000000)/\Q (.rng 0 j.toNat) g:=by
 unfold wpI;simp only [itF];refine (wp_bind (by sleep 9) (by sleep 9)).trans (wp_congr λx g=>za_.trans ?_)
 cases x with
 | int a =>
  simp only [];split
  .rename_i h;exact ⟨λq=>⟨a,rfl,h,q⟩,λ⟨b,e,_,q⟩=>by cases e;exact q⟩
  .rename_i h;exact ⟨λq=>q.elim,λ⟨b,e,h',q⟩=>by cases e;exact h h'⟩
 | _=>exact ⟨λh=>h.elim,λ⟨_,e,_⟩=>by cases e⟩
theorem dI_{a:E}:wpI fns d (.enm a) σ g X Q ↔ wpE fns d a σ g X λu g => ∃ k,asL u g=some k/\Q (.enm k) g:=by
 unfold wpI;simp only [itF];refine (wp_bind (by sleep 9) (by sleep 9)).trans (wp_congr λx g=>za_.trans ?_)
 cases asL x g with
 | none=>exact ⟨λh=>h.elim,λ⟨_,e,_⟩=>(by cases e)⟩
 | some k=>exact ⟨λq=>⟨k,rfl,q⟩,λ⟨_,e,q⟩=>(by cases e;exact q)⟩
theorem hE_{a b:E}:wpI fns d (.rng2 a b) σ g X Q ↔ wpE fns d a σ g X λu g=>wpE fns d b σ g X λw g => ∃ i j,u=.int i/\w=.int j/\(-1000000 < i/\i < 1000000 /\ -1000000 < j/\j < 1000000)/\Q (.rng i (j - i).toNat) g:=by
 unfold wpI;simp only [itF];refine (wp_bind (by sleep 9) (by sleep 9)).trans (wp_congr λx g=>(wp_bind (by sleep 9) (by sleep 9)).trans (wp_congr λy g=>za_.trans ?_))
 cases x with
 | int a =>
  cases y with
  | int b =>
   simp only [];split
   .rename_i h;exact ⟨λq=>⟨a,b,rfl,rfl,h,q⟩,λ⟨_,_,e,e',_,q⟩=>by cases e;cases e';exact q⟩
   .rename_i h;exact ⟨λq=>q.elim,λ⟨_,_,e,e',h',q⟩=>by cases e;cases e';exact h h'⟩
  | _=>exact ⟨λh=>h.elim,λ⟨_,_,_,e,_⟩=>by cases e⟩
 | _=>exact ⟨λh=>h.elim,λ⟨_,_,e,_⟩=>by cases e⟩
theorem I_e{e:E}(h:tQ_ e=true):wpI fns d e σ g X Q ↔ wpE fns d e σ g X λu g=>holds (match u with
  | .tup xs => .ok (.seq xs) g
  | .xn _ xs => .ok (.seq xs) g
  | .ref n=>match g[n]? with
   | some (.lst _) => .ok (.lst n) g
   | some (.dic kvs) => .ok (.dic n) (g.set n (.dif kvs))
   | some (.dif _) => .ok (.dic n) g
   | _ => .bad
  | _ => .bad) X Q:=by
 unfold wpI;have:(λn=>itF (lv fns d n) e σ g)=λn=>((lv fns d n).ev e σ g).bind λu g=>match u with
  | .tup xs => .ok (.seq xs) g
  | .xn _ xs => .ok (.seq xs) g
  | .ref n=>match g[n]? with
   | some (.lst _) => .ok (.lst n) g
   | some (.dic kvs) => .ok (.dic n) (g.set n (.dif kvs))
   | some (.dif _) => .ok (.dic n) g
   | _ => .bad
  | _ => .bad:=by
  funext n;cases e <;> first | rfl | cases h
 rw [this];refine (wp_bind (by sleep 9) (by sleep 9)).trans (wp_congr λ_ _ => ?_);exact za_
end
section
variable{Q:Fl->G->Prop}
theorem hm_:wpS fns d [] σ g X Q ↔ Q (.nx σ) g:=by rw [n8_];simp only [exF,za_];rfl
theorem i4_{s:S}{ss:List S}:wpS fns d (s :: ss) σ g X Q ↔ wp1 fns d s σ g X λf g=>match f with | .nx σ'=>wpS fns d ss σ' g X Q | f=>Q f g:=by
 rw [n8_];simp only [exF];refine (wp_bind (by exact m1 _ _ _) (by intro f g;cases f;exact mS _ _ _;exact mK _;exact mK _;exact mK _)).trans (wp_congr λx g => ?_)
 cases x <;> first | exact Iff.rfl | exact za_
theorem dU_{e:E}:wp1 fns d (.ret e) σ g X Q ↔ wpE fns d e σ g X λu g=>Q (.rt u) g:=by
 unfold wp1;simp only [s1F];exact (wp_bind (by sleep 9) (by sleep 9)).trans (wp_congr λx g=>za_)
theorem fH_:wp1 fns d .retN σ g X Q ↔ Q (.rt .non) g:=by unfold wp1;simp only [s1F,za_];rfl
theorem fP_:wp1 fns d .pass σ g X Q ↔ Q (.nx σ) g:=by unfold wp1;simp only [s1F,za_];rfl
theorem e6_:wp1 fns d .brk σ g X Q ↔ Q (.bk σ) g:=by unfold wp1;simp only [s1F,za_];rfl
theorem ip_:wp1 fns d .cont σ g X Q ↔ Q (.ct σ) g:=by unfold wp1;simp only [s1F,za_];rfl
theorem dJ_{t:Tg}{e:E}:wp1 fns d (.set t e) σ g X Q ↔ wpE fns d e σ g X λu g => ∃ σ',zw_ t (unl t u g) σ=some σ'/\Q (.nx σ') g:=by
 unfold wp1;simp only [s1F];refine (wp_bind (by sleep 9) (by sleep 9)).trans (wp_congr λx g=>za_.trans ?_)
 cases zw_ t (unl t x g) σ with
 | none=>exact ⟨λh=>h.elim,λ⟨_,e,_⟩=>by cases e⟩
 | some a=>exact ⟨λh=>⟨a,rfl,h⟩,λ⟨b,e,h⟩=>by cases e;exact h⟩
theorem d2_{i j:Nat}{a b:E}:wp1 fns d (.par i j a b) σ g X Q ↔ wpE fns d a σ g X λu g=>wpE fns d b σ g X λw g=>(i < σ.length/\j < σ.length)/\Q (.nx ((σ.set i (some u)).set j (some w))) g:=by
 unfold wp1;simp only [s1F];refine (wp_bind (by sleep 9) (by sleep 9)).trans (wp_congr λx g=>(wp_bind (by sleep 9) (by sleep 9)).trans (wp_congr λy g=>za_.trans ?_))
 split
 .rename_i h;exact ⟨λq=>⟨h,q⟩,λq=>q.2⟩
 .rename_i h;exact ⟨λq=>q.elim,λq=>h q.1⟩
theorem h8_{a e:E}{j:Nat}{cs:List Nat}:wp1 fns d (.fset a j cs e) σ g X Q ↔ wpE fns d e σ g X λu g=>wpE fns d a σ g X λx g => ∃ g',yO_ x j cs u g=some g'/\Q (.nx σ) g':=by
 unfold wp1;simp only [s1F];refine (wp_bind (by sleep 9) (by sleep 9)).trans (wp_congr λu g=>(wp_bind (by sleep 9) (by sleep 9)).trans (wp_congr λx g=>za_.trans ?_))
 cases yO_ x j cs u g with
 | none=>exact ⟨λh=>h.elim,λ⟨_,e,_⟩=>by cases e⟩
 | some a=>exact ⟨λh=>⟨a,rfl,h⟩,λ⟨b,e,h⟩=>by cases e;exact h⟩
theorem eu_{o i e:E}:wp1 fns d (.sub o i e) σ g X Q ↔ wpE fns d e σ g X λu g=>wpE fns d o σ g X λx g=>wpE fns d i σ g X λy g=>holds (subAt x y u σ g) X Q:=by
 unfold wp1;simp only [s1F];refine (wp_bind (by sleep 9) (by sleep 9)).trans (wp_congr λ_ _ => ?_);refine (wp_bind (by sleep 9) (by sleep 9)).trans (wp_congr λ_ _ => ?_);refine (wp_bind (by sleep 9) (by sleep 9)).trans (wp_congr λ_ _ => ?_);exact za_
theorem eD_{o i:E}:wp1 fns d (.del o i) σ g X Q ↔ wpE fns d o σ g X λx g=>wpE fns d i σ g X λy g=>holds (qx_ x y σ g) X Q:=by
 unfold wp1;simp only [s1F];refine (wp_bind (by sleep 9) (by sleep 9)).trans (wp_congr λ_ _ => ?_);refine (wp_bind (by sleep 9) (by sleep 9)).trans (wp_congr λ_ _ => ?_);exact za_
theorem ca_{i:Nat}{op:Op}{e:E}:wp1 fns d (.aug i op e) σ g X Q ↔ ∃ x,σ[i]? = some (some x)/\wpE fns d e σ g X λy g => ∃ z,kS_ op x y=some z/\Q (.nx (σ.set i (some z))) g:=by
 unfold wp1;simp only [s1F];cases e1:σ[i]? with
 | none=>simp only [za_];exact ⟨λh=>h.elim,λ⟨_,e,_⟩=>by cases e⟩
 | some o=>cases o with
  | none=>simp only [za_];exact ⟨λh=>h.elim,λ⟨_,e,_⟩=>by cases e⟩
  | some a =>
   simp only [];have:∀ P:U->Prop,(∃ x,some (some a)=some (some x)/\P x) ↔ P a:=λP=>⟨λ⟨_,e,h⟩=>by cases e;exact h,λh=>⟨a,rfl,h⟩⟩
   refine Iff.trans ?_ (this _).symm;refine (wp_bind (by sleep 9) (by sleep 9)).trans (wp_congr λx g=>za_.trans ?_)
   cases kS_ op a x with
   | none=>exact ⟨λh=>h.elim,λ⟨_,e,_⟩=>by cases e⟩
   | some a=>exact ⟨λh=>⟨a,rfl,h⟩,λ⟨b,e,h⟩=>by cases e;exact h⟩
theorem eF_{e:E}:wp1 fns d (.exp e) σ g X Q ↔ wpE fns d e σ g X λ_ g=>Q (.nx σ) g:=by
 unfold wp1;simp only [s1F];exact (wp_bind (by sleep 9) (by sleep 9)).trans (wp_congr λx g=>za_)
theorem cl_{c:E}{a b:List S}:wp1 fns d (.ife c a b) σ g X Q ↔ wpT fns d c σ g X λk g=>if k then wpS fns d a σ g X Q else wpS fns d b σ g X Q:=by
 unfold wp1;simp only [s1F];refine (wp_bind (by sleep 9) (by intro k g;cases k;exact mS _ _ _;exact mS _ _ _)).trans (wp_congr λx g => ?_)
 cases x <;> exact Iff.rfl
theorem dM_{t:Tg}{it:E}{b:List S}:wp1 fns d (.for t it b) σ g X Q ↔ wpI fns d it σ g X λi g=>wpF fns d t i 0 b σ g X Q:=by
 unfold wp1;simp only [s1F];exact wp_bind (by sleep 9) (by sleep 9)
theorem hP_{c:E}{b:List S}:wpW fns d c b σ g X Q ↔ wpT fns d c σ g X λk g=>if k then wpS fns d b σ g X λf g=>(match f with
  | .nx σ'=>wpW fns d c b σ' g X Q
  | .ct σ'=>wpW fns d c b σ' g X Q
  | .bk σ'=>Q (.nx σ') g
  | .rt u=>Q (.rt u) g) else Q (.nx σ) g:=by
 rw [h2_];simp only [whF];refine (wp_bind (mT _ _ _) λk g=>by cases k;exact mK _;refine mB (mS _ _ _) λf g => ?_;cases f;exact mW _ _ _ _;exact mK _;exact mK _;exact mW _ _ _ _).trans (wp_congr λx g => ?_)
 cases x
 .exact za_
 .simp only [if_true]
  refine (wp_bind (by sleep 9) (by intro f g;cases f;exact mW _ _ _ _;exact mK _;exact mK _;exact mW _ _ _ _)).trans (wp_congr λf g => ?_)
  cases f <;> first | exact Iff.rfl | exact za_
theorem o9_{t:Tg}{it:Iter}{i:Nat}{b:List S}:wpF fns d t it i b σ g X Q ↔ ∃ o,next it i g=some o/\match o with
  | none=>Q (.nx σ) g
  | some u => ∃ σ1,zw_ t u σ=some σ1/\wpS fns d b σ1 g X λf g=>match f with
   | .nx σ'=>wpF fns d t it (i+1) b σ' g X Q
   | .ct σ'=>wpF fns d t it (i+1) b σ' g X Q
   | .bk σ'=>Q (.nx σ') g
   | .rt u=>Q (.rt u) g:=by
 rw [hp_];simp only [frF];cases next it i g with
 | none=>simp only [za_];exact ⟨λh=>h.elim,λ⟨_,e,_⟩=>by cases e⟩
 | some o =>
  cases o with
  | none=>simp only [za_];exact ⟨λh=>⟨none,rfl,h⟩,λ⟨o,e,h⟩=>by cases e;exact h⟩
  | some u =>
   simp only [];cases e2:zw_ t u σ with
   | none=>simp only [za_];exact ⟨λh=>h.elim,λ⟨_,e,h⟩=>by cases e;obtain ⟨_,e,_⟩:=h;rw [e2] at e;cases e⟩
   | some σ1 =>
    simp only [];refine (wp_bind (by sleep 9) (by intro f g;cases f;exact mF _ _ _ _ _ _;exact mK _;exact mK _;exact mF _ _ _ _ _ _)).trans ?_
    refine Iff.trans (wp_congr (Q':=λf g=>match f with
       | .nx σ'=>wpF fns d t it (i+1) b σ' g X Q
       | .ct σ'=>wpF fns d t it (i+1) b σ' g X Q
       | .bk σ'=>Q (.nx σ') g
       | .rt u=>Q (.rt u) g) λf g => ?_) ?_
    .cases f <;> first | exact Iff.rfl | exact za_
    exact ⟨λh=>⟨some u,rfl,σ1,e2,h⟩,λ⟨o,e,h⟩=>by cases e;obtain ⟨σ2,e,h⟩:=h;rw [e2] at e;cases e;exact h⟩
end
theorem vf_{it:Iter}{i:Nat}{t:Tg}{cs:List E}{rest:List (Tg×E×List E)}{elt:E}{acc:List U}{Q:List U->G->Prop}:wpM fns d it i t cs rest elt acc σ g X Q ↔ ∃ o,next it i g=some o/\match o with
  | none=>Q acc g
  | some u=>yN_ t σ=true /\ ∃ σ1,zw_ t u σ=some σ1/\wpA fns d cs σ1 g (λ_ _ _=>False) λk g=>if k then
    match rest with
    | []=>wpE fns d elt σ1 g (λ_ _ _=>False) λv g=>acc.length < zd_/\wpM fns d it (i+1) t cs rest elt (acc++[v]) σ g X Q
    | (t2,it2,cs2) :: rest2=>wpI fns d it2 σ1 g (λ_ _ _=>False) λj g=>wpM fns d j 0 t2 cs2 rest2 elt acc σ1 g (λ_ _ _=>False) λacc2 g=>wpM fns d it (i+1) t cs rest elt acc2 σ g X Q
   else wpM fns d it (i+1) t cs rest elt acc σ g X Q:=by
 rw [iE_];simp only [cmF];cases next it i g with
 | none=>simp only [za_];exact ⟨λh=>h.elim,λ⟨_,e,_⟩=>by cases e⟩
 | some o =>
  cases o with
  | none=>simp only [za_];exact ⟨λh=>⟨none,rfl,h⟩,λ⟨o,e,h⟩=>by cases e;exact h⟩
  | some u =>
   simp only [];by_cases hf:yN_ t σ=true
   .simp only [hf,if_true]
    cases e2:zw_ t u σ with
    | none=>simp only [za_];exact ⟨λh=>h.elim,λ⟨_,e,h⟩=>by cases e;obtain ⟨_,_,e,_⟩:=h;rw [e2] at e;cases e⟩
    | some σ1 =>
     simp only [];refine Iff.trans ?_ ⟨λh=>⟨some u,rfl,trivial,σ1,e2,h⟩,λ⟨o,e,h⟩=>by cases e;obtain ⟨_,σ2,e,h⟩:=h;rw [e2] at e;cases e;exact h⟩
     cases rest with
     | nil =>
      refine (z1_ (by sleep 9) (by intro k g;cases k;exact mM _ _ _ _ _ _ _ _ _;refine mBB (mE _ _ _) λv g => ?_;by_cases h:acc.length < zd_;simp only [h,if_true];exact mM _ _ _ _ _ _ _ _ _;simp only [h,if_false];exact mK _)).trans (wp_congr λk g => ?_)
      cases k
      .exact Iff.rfl
      .refine Iff.trans (z1_ (by sleep 9) (by intro v g;by_cases h:acc.length < zd_;simp only [h,if_true];exact mM _ _ _ _ _ _ _ _ _;simp only [h,if_false];exact mK _)) (wp_congr λv g => ?_)
       by_cases h:acc.length < zd_
       .simp only [h,if_true];exact ⟨λq=>⟨trivial,q⟩,λq=>q.2⟩
       .simp only [h,if_false];exact ⟨λ⟨_,q⟩=>q.elim,λq=>q.1.elim⟩
     | cons t2 rest2 =>
      obtain ⟨t2,it2,cs2⟩:=t2;refine (z1_ (by sleep 9) (by intro k g;cases k;exact mM _ _ _ _ _ _ _ _ _;exact mBB (mI _ _ _) λ_ _=>mBB (mM _ _ _ _ _ _ _ _ _) λ_ _=>mM _ _ _ _ _ _ _ _ _)).trans (wp_congr λk g => ?_)
      cases k
      .exact Iff.rfl
      .refine Iff.trans (z1_ (by sleep 9) (by sleep 9)) (wp_congr λj g => ?_)
       exact z1_ (by sleep 9) (by sleep 9)
   .have hf':yN_ t σ=false:=by cases h:yN_ t σ;rfl;exact absurd h hf
    simp only [hf'];exact ⟨λ⟨_,h⟩=>h.elim,λ⟨_,e,h⟩=>by cases e;exact absurd h.1 (by simp)⟩
theorem jO_{f:Nat}{F:Fn}{us:List U}{Q:U->G->Prop}(hf:fns[f]? = some F)(hl:us.length=F.np):wpC fns (d+1) f us g X Q ↔ wpS fns d F.body (us.map some++List.replicate (F.ns - us.length) none) g X λfl g=>match fl with
  | .rt u=>Q u g
  | .nx _=>Q .non g
  | _=>False:=by
 unfold wpC;simp only [zb_,hf,nV_,hl,if_true];refine (wp_bind (f:=λn=>(lv fns d n).ex F.body (us.map some++List.replicate (F.ns - F.np) none) g) (mS _ _ _) (by sleep 9)).trans (wp_congr λx g=>za_.trans ?_)
 cases x <;> exact Iff.rfl
theorem km_{f:Nat}{us:List U}{Q:U->G->Prop}(h:wpC fns d f us g (λ_ _ _=>False) Q):∃ fu u g',zb_ fns fu d f us g=.ok u g'/\Q u g':=by
 obtain ⟨n,h⟩:=h;have h:holds (zb_ fns n d f us g) (λ_ _ _=>False) Q:=h;revert h;cases e:zb_ fns n d f us g with
 | ok u g'=>exact λh=>⟨n,u,g',e,h⟩
 | exc c fs g=>exact λh=>h.elim
 | bad=>exact λh=>h.elim
end
inductive Lk{α:Sort u}(a:α):Type
 | mk:Lk a
@[reducible] def lk{α:Sort u}(a:α):Lk a := .mk
noncomputable def oh{α:Type}(o:Option α){Q:α->Prop}(_:Lk Q):Prop:=match o with
 | some a=>Q a
 | none=>False
noncomputable def bh(k:Bool){A B:Prop}(_:Lk A)(_:Lk B):Prop:=match k with
 | true=>A
 | false=>B
noncomputable def fS(f:Fl){A:Su->Prop}{B:Fl->Prop}(_:Lk A)(_:Lk B):Prop:=match f with
 | .nx σ=>A σ
 | f=>B f
noncomputable def fL(f:Fl){A:Su->Prop}{B:Fl->Prop}(_:Lk A)(_:Lk B):Prop:=match f with
 | .nx σ=>A σ
 | .ct σ=>A σ
 | .bk σ=>B (.nx σ)
 | .rt u=>B (.rt u)
noncomputable def fC(f:Fl){Q:U->Prop}(_:Lk Q):Prop:=match f with
 | .rt u=>Q u
 | .nx _=>Q .non
 | _=>False
theorem vT_{α:Type}{a:α}{Q:α->Prop}:oh (some a) (lk Q)=Q a:=propext Iff.rfl
theorem d4_{A B:Prop}:bh true (lk A) (lk B)=A:=propext Iff.rfl
theorem br_{A B:Prop}:bh false (lk A) (lk B)=B:=propext Iff.rfl
theorem z4_{k:Bool}{A B:Prop}(h:k=true->A)(h':k=false->B):bh k (lk A) (lk B):=by cases k;exact h' rfl;exact h rfl
theorem xF_{k:Bool}{A B:Prop}:(if k=true then A else B) ↔ bh k (lk A) (lk B):=by cases k <;> simp [bh]
theorem dt_{σ:Su}{A:Su->Prop}{B:Fl->Prop}:fS (.nx σ) (lk A) (lk B)=A σ:=propext Iff.rfl
theorem dH_{u:U}{A:Su->Prop}{B:Fl->Prop}:fS (.rt u) (lk A) (lk B)=B (.rt u):=propext Iff.rfl
theorem ev_{σ:Su}{A:Su->Prop}{B:Fl->Prop}:fS (.bk σ) (lk A) (lk B)=B (.bk σ):=propext Iff.rfl
theorem ey_{σ:Su}{A:Su->Prop}{B:Fl->Prop}:fS (.ct σ) (lk A) (lk B)=B (.ct σ):=propext Iff.rfl
theorem iG_{σ:Su}{A:Su->Prop}{B:Fl->Prop}:fL (.nx σ) (lk A) (lk B)=A σ:=propext Iff.rfl
theorem cb_{u:U}{A:Su->Prop}{B:Fl->Prop}:fL (.rt u) (lk A) (lk B)=B (.rt u):=propext Iff.rfl
theorem dq_{σ:Su}{A:Su->Prop}{B:Fl->Prop}:fL (.bk σ) (lk A) (lk B)=B (.nx σ):=propext Iff.rfl
theorem cn_{σ:Su}{A:Su->Prop}{B:Fl->Prop}:fL (.ct σ) (lk A) (lk B)=A σ:=propext Iff.rfl
theorem iV_{u:U}{Q:U->Prop}:fC (.rt u) (lk Q)=Q u:=propext Iff.rfl
theorem e2_{σ:Su}{Q:U->Prop}:fC (.nx σ) (lk Q)=Q .non:=propext Iff.rfl
theorem zN_{α:Type}{o:Option α}{Q:α->Prop}:(∃ a,o=some a/\Q a) ↔ oh o (lk Q):=by
 cases o with
 | none=>exact ⟨λ⟨_,e,_⟩=>(by cases e),λh=>h.elim⟩
 | some a=>exact ⟨λ⟨_,e,h⟩=>(by cases e;exact h),λh=>⟨a,rfl,h⟩⟩
noncomputable def hk{α:Type}(o:Out α)(X:XP){Q:α->G->Prop}(_:Lk Q):Prop:=holds o X Q
theorem fh_{α:Type}{a:α}{g:G}{X:XP}{Q:α->G->Prop}:hk (.ok a g) X (lk Q)=Q a g:=propext Iff.rfl
theorem fR_{α:Type}{c:Nat}{fs:List U}{g:G}{X:XP}{Q:α->G->Prop}:hk (.exc c fs g) X (lk Q)=X c fs g:=propext Iff.rfl
section
variable{fns:List Fn}{d:Nat}{X:XP}{σ σ':Su}{g g':G}
noncomputable def kC(fns:List Fn)(d f:Nat)(us:List U)(g:G)(X:XP){Q:U->G->Prop}(_:Lk Q):Prop:=wpC fns d f us g X Q
noncomputable def kM(fns:List Fn)(d:Nat)(it:Iter)(i:Nat)(t:Tg)(cs:List E)(rest:List (Tg×E×List E))(elt:E)(acc:List U)(σ:Su)(g:G)(X:XP){Q:List U->G->Prop}(_:Lk Q):Prop:=wpM fns d it i t cs rest elt acc σ g X Q
noncomputable def kF(fns:List Fn)(d:Nat)(t:Tg)(it:Iter)(i:Nat)(b:List S)(σ:Su)(g:G)(X:XP){Q:Fl->G->Prop}(_:Lk Q):Prop:=wpF fns d t it i b σ g X Q
noncomputable def kW(fns:List Fn)(d:Nat)(c:E)(b:List S)(σ:Su)(g:G)(X:XP){Q:Fl->G->Prop}(_:Lk Q):Prop:=wpW fns d c b σ g X Q
theorem in_{f:Nat}{es:List E}{Q:U->G->Prop}:wpE fns d (.call f es) σ g X Q ↔ z3_ fns d es σ g X λus g=>kC fns d f us g X (lk Q):=iB_
theorem ah_{b:Bi}{es:List E}{Q:U->G->Prop}:wpE fns d (.bi b es) σ g X Q ↔ z3_ fns d es σ g X λus g=>hk (bi1 b us g) X (lk Q):=bY_
noncomputable def iA_(x:U)(l h:Option Int)(g:G):Out U:=match x with
  | .tup xs=>if HT.sIx xs.length 0 l=0/\HT.sIx xs.length xs.length h=xs.length then .bad else .ok (.tup (tP_ xs l h)) g
  | .fro xs=>alloc (.lst (tP_ xs l h)) g
  | .ref n=>match g[n]? with
   | some (.lst xs)=>alloc (.lst (tP_ xs l h)) g
   | _ => .bad
  | _ => .bad
theorem cp_{a:E}{lo hi:Option E}{Q:U->G->Prop}:wpE fns d (.slc a lo hi) σ g X Q ↔ wpE fns d a σ g X λx g=>wpO fns d lo σ g X λl g=>wpO fns d hi σ g X λh g=>hk (iA_ x l h g) X (lk Q):=eH_
theorem ox_{c:E}{b:List S}{Q:Fl->G->Prop}:wp1 fns d (.whl c b) σ g X Q ↔ kW fns d c b σ g X (lk Q):=Iff.rfl
theorem fA_{t:Tg}{it:E}{b:List S}{Q:Fl->G->Prop}:wp1 fns d (.for t it b) σ g X Q ↔ wpI fns d it σ g X λi g=>kF fns d t i 0 b σ g X (lk Q):=dM_
theorem iy_{e:E}{Q:Option Int->G->Prop}:wpO fns d (some e) σ g X Q ↔ wpE fns d e σ g X λu g=>oh (match u with | .int i=>some i | _=>none) <| lk λi=>Q (some i) g:=gx_.trans (wp_congr λx g=>by
 cases x with
 | int z=>exact ⟨λ⟨_,e,h⟩=>(by cases e;exact h),λh=>⟨z,rfl,h⟩⟩
 | _=>exact ⟨λ⟨_,e,h⟩=>(by cases e),λh=>h.elim⟩)
section
variable{Q:U->G->Prop}
theorem ft_{i:Nat}:wpE fns d (.var i) σ g X Q ↔ oh σ[i]? (lk λo=>oh o (lk λu=>Q u g)):=by
 rw [eK_];cases σ[i]? with
 | none=>exact ⟨λ⟨_,e,_⟩=>(by cases e),λh=>h.elim⟩
 | some o=>cases o with
  | none=>exact ⟨λ⟨_,e,_⟩=>(by cases e),λh=>h.elim⟩
  | some a=>exact ⟨λ⟨_,e,h⟩=>(by cases e;exact h),λh=>⟨a,rfl,h⟩⟩
noncomputable def ob(op:Op)(x y:U)(g:G)(X:XP){Q:U->G->Prop}(_:Lk Q):Prop:=holds (rT_ op x y g) X Q
theorem bH_{op:Op}{i:Int}{y:U}{g:G}{X:XP}{Q:U->G->Prop}:ob op (.int i) y g X (lk Q)=oh (op2 op (.int i) y) (lk λz=>Q z g):=propext (by
 unfold ob;refine Iff.trans (?_:_ ↔ holds (lift (op2 op (.int i) y) g) X Q) (z2_.trans zN_);exact Iff.rfl)
theorem jM_{n m:Nat}{xs ys:List U}{g:G}{X:XP}{Q:U->G->Prop}(h1:g[n]? = some (.lst xs))(h2:g[m]? = some (.lst ys))(hl:xs.length+ys.length<=zd_)(h:Q (.ref g.length) (g++[.lst (xs++ys)])):ob .add (.ref n) (.ref m) g X (lk Q):=by
 unfold ob rT_ qR_;simp only [h1,h2];rw [if_pos hl];exact h
theorem ia_{op:Op}{a b:E}:wpE fns d (.bin op a b) σ g X Q ↔ wpE fns d a σ g X λx g=>wpE fns d b σ g X λy g=>ob op x y g X (lk Q):=dm_
theorem dv_{a:E}{j:Nat}{cs:List Nat}:wpE fns d (.fld a j cs) σ g X Q ↔ wpE fns d a σ g X λx g=>oh ((yz_ x g).bind (uU_ j cs)) <| lk λz=>Q z g:=by simp only [cJ_,zN_]
theorem gG_{a:E}:wpE fns d (.revm a) σ g X Q ↔ wpE fns d a σ g X λx g=>oh (asL x g) <| lk λn=>hk (ux_ n g) X (lk Q):=by simp only [iI_,zN_];exact Iff.rfl
theorem fs_{c f:Nat}{es ks:List E}{pm:List (Nat ⊕ U)}:wpE fns d (.make c f es ks pm) σ g X Q ↔ z3_ fns d es σ g X λus g=>z3_ fns d ks σ g X λws g=>us.length=es.length/\ws.length=ks.length/\kC fns d f (perm (.ref g.length :: us++ws) pm) (g++[.ins c []]) X (lk λu g'=>z8_ u=true/\Q (.ref g.length) g'):=k6_
theorem hG_{a:E}{j:Nat}{tb:List (Nat×Nat×List (Nat ⊕ U))}{es ks:List E}:wpE fns d (.meth a j tb es ks) σ g X Q ↔ wpE fns d a σ g X λx g=>oh ((yz_ x g).bind (y4_ j tb)) <| lk λp=>z3_ fns d es σ g X λus g=>z3_ fns d ks σ g X λws g=>us.length=es.length/\ws.length=ks.length/\kC fns d p.1 (perm (x :: us++ws) p.2) g X (lk Q):=by simp only [is_,zN_];exact Iff.rfl
theorem lb_{a e:E}{j:Nat}{cs:List Nat}{Q:Fl->G->Prop}:wp1 fns d (.fset a j cs e) σ g X Q ↔ wpE fns d e σ g X λu g=>wpE fns d a σ g X λx g=>oh (yO_ x j cs u g) <| lk λg'=>Q (.nx σ) g':=by simp only [h8_,zN_]
theorem cq_{op:Cp}{a b:E}:wpE fns d (.cmp op a b) σ g X Q ↔ wpE fns d a σ g X λx g=>wpE fns d b σ g X λy g=>oh (cmp2 op x y g) <| lk λz=>Q (.bl z) g:=e1_.trans (wp_congr λx g=>wp_congr λy g=>zN_)
theorem kg_{op op':Cp}{a b c:E}:wpE fns d (.chain op op' a b c) σ g X Q ↔ wpE fns d a σ g X λx g=>wpE fns d b σ g X λy g=>oh (cmp2 op x y g) <| lk λz=>bh z (lk (wpE fns d c σ g X λw g=>oh (cmp2 op' y w g) <| lk λz=>Q (.bl z) g)) (lk (Q (.bl false) g)) :=
 m0_.trans (wp_congr λx g=>wp_congr λy g=>zN_.trans (by
  cases cmp2 op x y g with
  | none=>exact Iff.rfl
  | some z =>
   cases z
   .exact Iff.rfl
   .exact wp_congr λw g=>zN_))
theorem ct_{a b:E}:wpE fns d (.and a b) σ g X Q ↔ wpE fns d a σ g X λx g=>oh (match x with | .bl z=>some z | _=>none) <| lk λz=>bh z (lk (wpE fns d b σ g X Q)) (lk (Q (.bl false) g)):=ds_.trans (wp_congr λx g=>by
 cases x with
 | bl z=>exact ⟨λ⟨_,e,h⟩=>(by cases e;exact xF_.1 h),λh=>⟨z,rfl,xF_.2 h⟩⟩
 | _=>exact ⟨λ⟨_,e,h⟩=>(by cases e),λh=>h.elim⟩)
theorem aH_{a b:E}:wpE fns d (.or a b) σ g X Q ↔ wpE fns d a σ g X λx g=>oh (match x with | .bl z=>some z | _=>none) <| lk λz=>bh z (lk (Q (.bl true) g)) (lk (wpE fns d b σ g X Q)):=aw_.trans (wp_congr λx g=>by
 cases x with
 | bl z=>exact ⟨λ⟨_,e,h⟩=>(by cases e;exact xF_.1 h),λh=>⟨z,rfl,xF_.2 h⟩⟩
 | _=>exact ⟨λ⟨_,e,h⟩=>(by cases e),λh=>h.elim⟩)
theorem eJ_{a:E}:wpE fns d (.not a) σ g X Q ↔ wpE fns d a σ g X λx g=>oh (tru x g) <| lk λc=>Q (.bl !c) g:=dN_.trans (wp_congr λx g=>zN_)
theorem eW_{a:E}:wpE fns d (.neg a) σ g X Q ↔ wpE fns d a σ g X λx g=>oh (match x with | .int i=>some i | _=>none) <| lk λi=>Q (.int (-i)) g:=dF_.trans (wp_congr λx g=>by
 cases x with
 | int z=>exact ⟨λ⟨_,e,h⟩=>(by cases e;exact h),λh=>⟨z,rfl,h⟩⟩
 | _=>exact ⟨λ⟨_,e,h⟩=>(by cases e),λh=>h.elim⟩)
theorem cs_{c a b:E}:wpE fns d (.ite c a b) σ g X Q ↔ wpT fns d c σ g X λk g=>bh k (lk (wpE fns d a σ g X Q)) (lk (wpE fns d b σ g X Q)):=dE_.trans (wp_congr λk g=>xF_)
noncomputable def x8_(n:Nat):Bool := @decide (n<=zd_) (Classical.propDecidable _)
theorem vO_{n:Nat}(h:n<=16777000):x8_ n=true:=by unfold x8_;exact @decide_eq_true _ (Classical.propDecidable _) h
theorem uy_{n:Nat}:x8_ n=true ↔ n<=zd_:=by unfold x8_;exact @decide_eq_true_iff _ (Classical.propDecidable _)
theorem fg_{es:List E}:wpE fns d (.tup es) σ g X Q ↔ z3_ fns d es σ g X λus g=>bh (x8_ us.length) (lk (Q (.tup us) g)) (lk False):=cB_.trans (wp_congr λus g=>by
 rw [<-uy_,<-xF_];by_cases h:x8_ us.length=true <;> simp [h])
theorem dl_{es:List E}:wpE fns d (.lst es) σ g X Q ↔ z3_ fns d es σ g X λus g=>bh (x8_ us.length) (lk (Q (.ref g.length) (g++[.lst us]))) (lk False):=d0_.trans (wp_congr λus g=>by
 rw [<-uy_,<-xF_];by_cases h:x8_ us.length=true <;> simp [h])
theorem gZ_{a b:E}:wpE fns d (.idx a b) σ g X Q ↔ wpE fns d a σ g X λx g=>wpE fns d b σ g X λy g=>match y with | .tup us=>oh ((zA_ (.tup us) x g).bind id) <| lk λz=>Q z g | .str k=>oh ((asS x g).bind λkvs=>rD_ kvs k) <| lk λz=>Q z g | y=>oh (match y with | .int i=>some i | _=>none) <| lk λi=>oh (items x g) <| lk λxs=>oh (uix xs i) <| lk λz=>Q z g:=cx_.trans (wp_congr λx g=>wp_congr λy g=>by
 cases y with
 | int i =>
  constructor
  .rintro ⟨i',xs,z,e1,e2,e3,q⟩
   cases e1;show oh (items x g) (lk _);rw [e2];show oh (uix xs i) (lk _);rw [e3];exact q
  .intro h
   have h:oh (items x g) (lk λxs=>oh (uix xs i) (lk λz=>Q z g)):=h;obtain ⟨xs,e2,h⟩:=zN_.2 h;obtain ⟨z,e3,h⟩:=zN_.2 h;exact ⟨i,xs,z,rfl,e2,e3,h⟩
 | tup us =>
  show (∃ z,(zA_ (.tup us) x g).bind id=some z/\Q z g) ↔ oh ((zA_ (.tup us) x g).bind id) (lk λz=>Q z g);cases (zA_ (.tup us) x g).bind id with
  | none=>exact ⟨λ⟨_,e,_⟩=>(by cases e),λh=>False.elim h⟩
  | some z=>exact ⟨λ⟨_,e,q⟩=>(by cases e;exact q),λq=>⟨z,rfl,q⟩⟩
 | str k =>
  show (∃ z,(asS x g).bind (λkvs=>rD_ kvs k)=some z/\Q z g) ↔ oh ((asS x g).bind λkvs=>rD_ kvs k) (lk λz=>Q z g);cases (asS x g).bind (λkvs=>rD_ kvs k) with
  | none=>exact ⟨λ⟨_,e,_⟩=>(by cases e),λh=>False.elim h⟩
  | some z=>exact ⟨λ⟨_,e,q⟩=>(by cases e;exact q),λq=>⟨z,rfl,q⟩⟩
 | _=>exact ⟨λ⟨_,_,_,e,h⟩=>(by cases e),λh=>h.elim⟩)
noncomputable def kV_(x:U)(g:G):Option (List U):=match x with
 | .ref n=>match g[n]? with
  | some (.lst xs)=>some xs
  | _=>none
 | _=>none
theorem dn_{a:E}:wpE fns d (.rev a) σ g X Q ↔ wpE fns d a σ g X λx g=>oh (kV_ x g) <| lk λxs=>Q (.ref g.length) (g++[.lst xs.reverse]):=dY_.trans (wp_congr λx g=>by
 cases x with
 | ref n =>
  simp only [kV_];cases e:g[n]? with
  | none=>exact ⟨λ⟨_,_,e1,e2,_⟩=>(by cases e1;rw [e] at e2;cases e2),λh=>h.elim⟩
  | some o =>
   cases o with
   | lst xs=>exact ⟨λ⟨_,_,e1,e2,h⟩=>(by cases e1;rw [e] at e2;cases e2;exact h),λh=>⟨n,xs,rfl,e,h⟩⟩
   | _=>exact ⟨λ⟨_,_,e1,e2,_⟩=>(by cases e1;rw [e] at e2;cases e2),λh=>h.elim⟩
 | _=>exact ⟨λ⟨_,_,e,h⟩=>(by cases e),λh=>h.elim⟩)
theorem ci_{a:E}{t:Ty}:wpE fns d (.isi a t) σ g X Q ↔ wpE fns d a σ g X λx g=>oh (vL_ t x g) <| lk λc=>Q (.bl c) g:=dL_.trans (wp_congr λx g=>zN_)
theorem cf_{o v:E}:wpE fns d (.app o v) σ g X Q ↔ wpE fns d o σ g X λx g=>oh (asL x g) <| lk λk=>wpE fns d v σ g X λy g=>hk (xm_ k y g) X (lk Q):=cN_.trans (wp_congr λx g=>zN_)
theorem jS_{o v:E}:wpE fns d (.popi o v) σ g X Q ↔ wpE fns d o σ g X λx g=>oh (asL x g) <| lk λk=>wpE fns d v σ g X λy g=>hk (uj_ k y g) X (lk Q):=gS_.trans (wp_congr λx g=>zN_)
theorem ce_{o v:E}:wpE fns d (.ext o v) σ g X Q ↔ wpE fns d o σ g X λx g=>oh (asL x g) <| lk λk=>wpE fns d v σ g X λy g=>hk (vA_ k y g) X (lk Q):=dj_.trans (wp_congr λx g=>zN_)
theorem eY_{o:E}:wpE fns d (.pop o) σ g X Q ↔ wpE fns d o σ g X λx g=>oh (asL x g) <| lk λk=>hk (w1_ k g) X (lk Q):=de_.trans (wp_congr λx g=>zN_)
theorem kY_{own:Nat}{fr:List Nat}{t:Tg}{it:E}{cs:List E}{rest:List (Tg×E×List E)}{k v:E}:wpE fns d (.dcmp own fr ((t,it,cs) :: rest) k v) σ g X Q ↔
  wpI fns d it σ g X λi g=>kM fns d i 0 t cs rest (.pair k v) [] (List.replicate own none++fr.map λj=>(σ[j]?).getD none) g (λ_ _ _=>False) (lk λus g=>oh (dfold us []) <| lk λkvs=>Q (.ref g.length) (g++[.dic kvs])):=by
 simp only [h9_,zN_];exact Iff.rfl
theorem hO_{k v:E}:wpE fns d (.pair k v) σ g X Q ↔ wpE fns d k σ g X λx g=>wpE fns d v σ g X λy g=>oh (keyOf x) <| lk λ_=>Q (.tup [x,y]) g:=by simp only [ht_,zN_]
theorem eT_{o k x:E}:wpE fns d (.dgt o k x) σ g X Q ↔ wpE fns d o σ g X λy g=>oh (asD y g) <| lk λ_=>wpE fns d k σ g X λz g=>wpE fns d x σ g X λw g=>oh (zA_ z y g) <| lk λq=>Q (q.getD w) g:=by simp only [cd_,zN_]
theorem iM_{own:Nat}{fr:List Nat}{t:Tg}{it:E}{cs:List E}{rest:List (Tg×E×List E)}{elt:E}:wpE fns d (.comp own fr ((t,it,cs) :: rest) elt) σ g X Q ↔
  wpI fns d it σ g X λi g=>kM fns d i 0 t cs rest elt [] (List.replicate own none++fr.map λj=>(σ[j]?).getD none) g (λ_ _ _=>False) (lk λus g=>us.length<=zd_/\Q (.ref g.length) (g++[.lst us])):=hq_
end
section
variable{Q:Bool->G->Prop}
theorem dG_{a b:E}:wpT fns d (.and a b) σ g X Q ↔ wpT fns d a σ g X λk g=>bh k (lk (wpT fns d b σ g X Q)) (lk (Q false g)):=dV_.trans (wp_congr λk g=>xF_)
theorem ab_{a b:E}:wpT fns d (.or a b) σ g X Q ↔ wpT fns d a σ g X λk g=>bh k (lk (Q true g)) (lk (wpT fns d b σ g X Q)):=b9_.trans (wp_congr λk g=>xF_)
theorem eQ_{c a b:E}:wpT fns d (.ite c a b) σ g X Q ↔ wpT fns d c σ g X λk g=>bh k (lk (wpT fns d a σ g X Q)) (lk (wpT fns d b σ g X Q)):=cA_.trans (wp_congr λk g=>xF_)
theorem t_e{e:E}(h:plainT e=true):wpT fns d e σ g X Q ↔ wpE fns d e σ g X λx g=>oh (tru x g) <| lk λc=>Q c g:=(T_e h).trans (wp_congr λx g=>zN_)
theorem j4_{c:E}{cs:List E}:wpA fns d (c :: cs) σ g X Q ↔ wpT fns d c σ g X λk g=>bh k (lk (wpA fns d cs σ g X Q)) (lk (Q false g)):=fJ_.trans (wp_congr λk g=>xF_)
end
section
variable{Q:Iter->G->Prop}
noncomputable def zv_(j:Int):Bool := @decide (-1000000 < j/\j < 1000000) (Classical.propDecidable _)
theorem zn_{j:Int}(h : -1000000 < j)(h':j < 1000000):zv_ j=true:=by unfold zv_;exact @decide_eq_true _ (Classical.propDecidable _) ⟨h,h'⟩
theorem g7_{a:E}:wpI fns d (.rng1 a) σ g X Q ↔ wpE fns d a σ g X λu g=>oh (match u with | .int i=>some i | _=>none) <| lk λj=>bh (zv_ j) (lk (Q (.rng 0 j.toNat) g)) (lk False):=fd_.trans (wp_congr λu g=>by
 cases u with
 | int i =>
  show _ ↔ bh (zv_ i) (lk _) (lk _);by_cases h : -1000000 < i/\i < 1000000
  .rw [show zv_ i=true by unfold zv_;exact @decide_eq_true _ (Classical.propDecidable _) h]
   exact ⟨λ⟨_,e,_,q⟩=>(by cases e;exact q),λq=>⟨i,rfl,h,q⟩⟩
  .rw [show zv_ i=false by unfold zv_;exact @decide_eq_false _ (Classical.propDecidable _) h]
   exact ⟨λ⟨_,e,q,_⟩=>(by cases e;exact h q),λq=>q.elim⟩
 | _=>exact ⟨λ⟨_,e,h⟩=>(by cases e),λh=>h.elim⟩)
theorem iR_{a b:E}:wpI fns d (.rng2 a b) σ g X Q ↔ wpE fns d a σ g X λu g=>wpE fns d b σ g X λw g=>oh (match u with | .int i=>some i | _=>none) <| lk λi=>oh (match w with | .int i=>some i | _=>none) <| lk λj=>bh (zv_ i && zv_ j) (lk (Q (.rng i (j - i).toNat) g)) (lk False):=hE_.trans (wp_congr λu g=>wp_congr λw g=>by
 cases u with
 | int i =>
  cases w with
  | int j =>
   show _ ↔ bh (zv_ i && zv_ j) (lk _) (lk _);by_cases h:(zv_ i && zv_ j)=true
   .rw [h]
    have h':=h;simp only [zv_,Bool.and_eq_true,decide_eq_true_eq] at h';exact ⟨λ⟨_,_,e,e',_,q⟩=>(by cases e;cases e';exact q),λq=>⟨i,j,rfl,rfl,⟨h'.1.1,h'.1.2,h'.2.1,h'.2.2⟩,q⟩⟩
   .rw [Bool.not_eq_true] at h
    rw [h];exact ⟨λ⟨_,_,e,e',q,_⟩=>by cases e;cases e';simp [zv_,q] at h,λq=>q.elim⟩
  | _=>exact ⟨λ⟨_,_,e,e',h⟩=>(by cases e'),λh=>h.elim⟩
 | _=>exact ⟨λ⟨_,_,e,h⟩=>(by cases e),λh=>h.elim⟩)
noncomputable def kX_(u:U)(g:G):Option (Iter×G):=match u with
 | .tup xs=>some (.seq xs,g)
 | .xn _ xs=>some (.seq xs,g)
 | .ref n=>match g[n]? with
  | some (.lst _)=>some (.lst n,g)
  | some (.dic kvs)=>some (.dic n,g.set n (.dif kvs))
  | some (.dif _)=>some (.dic n,g)
  | _=>none
 | _=>none
theorem i_e{e:E}(h:tQ_ e=true):wpI fns d e σ g X Q ↔ wpE fns d e σ g X λu g=>oh (kX_ u g) <| lk λp=>Q p.1 p.2:=(I_e h).trans (wp_congr λu g=>by
 cases u with
 | ref n =>
  simp only [kX_];cases g[n]? with
  | none=>exact Iff.rfl
  | some o=>cases o <;> exact Iff.rfl
 | _=>exact Iff.rfl)
theorem dD_{a:E}:wpI fns d (.enm a) σ g X Q ↔ wpE fns d a σ g X λu g=>oh (asL u g) <| lk λk=>Q (.enm k) g:=by simp only [dI_,zN_]
end
section
variable{Q:Fl->G->Prop}
theorem iX_{s:S}{ss:List S}:wpS fns d (s :: ss) σ g X Q ↔ wp1 fns d s σ g X λf g=>fS f (lk (λσ'=>wpS fns d ss σ' g X Q)) (lk λf=>Q f g):=i4_.trans (wp_congr λf g=>by cases f <;> exact Iff.rfl)
theorem gs_{t:Tg}{e:E}:wp1 fns d (.set t e) σ g X Q ↔ wpE fns d e σ g X λu g=>oh (zw_ t (unl t u g) σ) <| lk λσ'=>Q (.nx σ') g:=dJ_.trans (wp_congr λx g=>zN_)
theorem gj_{i j:Nat}{a b:E}:wp1 fns d (.par i j a b) σ g X Q ↔ wpE fns d a σ g X λu g=>wpE fns d b σ g X λw g=>bh (decide (i < σ.length) && decide (j < σ.length)) (lk (Q (.nx ((σ.set i (some u)).set j (some w))) g)) (lk False):=d2_.trans (wp_congr λx g=>wp_congr λy g=>by
 by_cases h:i < σ.length <;> by_cases k:j < σ.length <;> simp [h,k,bh])
theorem iZ_{o i:E}:wp1 fns d (.del o i) σ g X Q ↔ wpE fns d o σ g X λx g=>wpE fns d i σ g X λy g=>hk (qx_ x y σ g) X (lk Q):=eD_
theorem hY_{o i e:E}:wp1 fns d (.sub o i e) σ g X Q ↔ wpE fns d e σ g X λu g=>wpE fns d o σ g X λx g=>wpE fns d i σ g X λy g=>hk (subAt x y u σ g) X (lk Q):=eu_
theorem jr_{i:Nat}{op:Op}{e:E}:wp1 fns d (.aug i op e) σ g X Q ↔ oh σ[i]? (lk λo=>oh o (lk λx=>wpE fns d e σ g X λy g=>oh (kS_ op x y) (lk λz=>Q (.nx (σ.set i (some z))) g))):=ca_.trans (by
 cases σ[i]? with
 | none=>exact ⟨λ⟨_,e,_⟩=>(by cases e),λh=>h.elim⟩
 | some o=>cases o with
  | none=>exact ⟨λ⟨_,e,_⟩=>(by cases e),λh=>h.elim⟩
  | some a=>exact ⟨λ⟨_,e,h⟩=>by cases e;exact (wp_congr λy g=>zN_).1 h,λh=>⟨a,rfl,(wp_congr λy g=>zN_).2 h⟩⟩)
theorem ih_{c:E}{a b:List S}:wp1 fns d (.ife c a b) σ g X Q ↔ wpT fns d c σ g X λk g=>bh k (lk (wpS fns d a σ g X Q)) (lk (wpS fns d b σ g X Q)):=cl_.trans (wp_congr λk g=>xF_)
theorem jQ_{c:E}{b:List S}:wpW fns d c b σ g X Q ↔ wpT fns d c σ g X λk g=>bh k (lk (wpS fns d b σ g X λf g=>fL f (lk (λσ'=>wpW fns d c b σ' g X Q)) (lk λf=>Q f g))) (lk (Q (.nx σ) g)):=hP_.trans (wp_congr λk g=>xF_.trans (by
 cases k
 .exact Iff.rfl
 .exact wp_congr λf g=>by cases f <;> exact Iff.rfl))
theorem n1_{f:Nat}{F:Fn}{us:List U}{Q:U->G->Prop}(hf:fns[f]? = some F)(hl:us.length=F.np):wpC fns (d+1) f us g X Q ↔ wpS fns d F.body (us.map some++List.replicate (F.ns - us.length) none) g X λfl g=>fC fl <| lk λu=>Q u g:=(jO_ hf hl).trans (wp_congr λf g=>by cases f <;> exact Iff.rfl)
theorem sU_{t:Tg}{it:Iter}{b:List S}(us:List U)(Inv:Nat->Su->G->Prop)
  (hn:∀ k σ g,Inv k σ g->next it k g=some us[k]?)
  (hs:∀ k u σ g,us[k]? = some u->Inv k σ g->oh (zw_ t u σ) (lk λσ1=>wpS fns d b σ1 g X λf g=>fL f (lk (λσ'=>Inv (k+1) σ' g)) (lk λf=>Q f g)))
  (hq:∀ σ g,Inv us.length σ g->Q (.nx σ) g):∀ (n i:Nat) (σ:Su) (g:G),i+n=us.length->Inv i σ g->wpF fns d t it i b σ g X Q
 | 0,i,σ,g,e,h=>by
  have e:i=us.length:=by omega
  subst e;rw [o9_];exact ⟨none,by rw [hn _ _ _ h];simp,hq _ _ h⟩
 | n+1,i,σ,g,e,h=>by
  have hi:i < us.length:=by omega
  rw [o9_];obtain ⟨σ1,e1,w⟩:=zN_.2 (hs i us[i] σ g (List.getElem?_eq_getElem hi) h);refine ⟨some us[i],by rw [hn _ _ _ h,List.getElem?_eq_getElem hi],σ1,e1,wp_mono w λf g q => ?_⟩
  cases f with
  | nx σ'=>exact sU_ us Inv hn hs hq n (i+1) σ' g (by omega) q
  | ct σ'=>exact sU_ us Inv hn hs hq n (i+1) σ' g (by omega) q
  | bk σ'=>exact q
  | rt u=>exact q
theorem m3_{c:E}{b:List S}(Inv:Nat->Su->G->Prop)
  (hs:∀ n σ g,Inv n σ g->wpT fns d c σ g X λk g=>bh k (lk (wpS fns d b σ g X λf g=>fL f (lk (λσ' => ∃ m,m < n/\Inv m σ' g)) (lk λf=>Q f g))) (lk (Q (.nx σ) g))):∀ (n:Nat) (σ:Su) (g:G),Inv n σ g->wpW fns d c b σ g X Q:=by
 intro n
 induction n using Nat.strongRecOn with
 | _ n ih =>
  intro σ g h;rw [jQ_];refine wp_mono (hs n σ g h) λk g q => ?_;cases k
  .exact q
  .refine wp_mono q λf g q => ?_
   cases f with
   | nx σ'=>obtain ⟨m,hm,q⟩:=q;exact ih m hm _ _ q
   | ct σ'=>obtain ⟨m,hm,q⟩:=q;exact ih m hm _ _ q
   | bk σ'=>exact q
   | rt u=>exact q
end
noncomputable def oc{α:Type}(o:Option α){A:Prop}{Q:α->Prop}(_:Lk A)(_:Lk Q):Prop:=match o with
 | none=>A
 | some a=>Q a
theorem bq_{α:Type}{A:Prop}{Q:α->Prop}:oc none (lk A) (lk Q)=A:=propext Iff.rfl
theorem bj_{α:Type}{a:α}{A:Prop}{Q:α->Prop}:oc (some a) (lk A) (lk Q)=Q a:=propext Iff.rfl
end
section
variable{fns:List Fn}{d:Nat}{X:XP}{σ:Su}{g:G}
noncomputable abbrev nX:XP:=λ_ _ _=>False
theorem qb_{α β:Type}{o:Out α}{k:α->G->Out β}:o.noex.bind k=o.bindB k:=by cases o <;> rfl
theorem lG_{f:Nat}{es ks:List E}{pm:List (Nat ⊕ U)}{Q:U->G->Prop}:wpE fns d (.callk f es ks pm) σ g X Q ↔ z3_ fns d es σ g nX λus g=>z3_ fns d ks σ g nX λws g=>us.length=es.length/\ws.length=ks.length/\kC fns d f (perm (us++ws) pm) g X (lk Q):=by
 refine zq_.trans ?_;simp only [evF,qb_];have hm:∀ (us ws:List U) (g:G),y8_ λn=>if us.length=es.length/\ws.length=ks.length then zb_ fns n d f (perm (us++ws) pm) g else .bad:=λus ws g=>by
  split
  .exact mC _ _ _
  .exact mK _
 refine (z1_ (mEs _ _ _) λus g=>mBB (mEs _ _ _) λws g=>hm us ws g).trans (wp_congr λus g => ?_);refine (z1_ (mEs _ _ _) λws g=>hm us ws g).trans (wp_congr λws g => ?_);split
 .rename_i h;exact ⟨λq=>⟨h.1,h.2,q⟩,λq=>q.2.2⟩
 .rename_i h;exact ⟨λ⟨_,q⟩=>q.elim,λq=>(h ⟨q.1,q.2.1⟩).elim⟩
end
noncomputable def u9_(f:E->Su->Option U):List E->Su->Option (List U)
 | [],_=>some []
 | e :: es,σ=>match f e σ with
  | some u=>match u9_ f es σ with
   | some us=>some (u :: us)
   | none=>none
  | none=>none
noncomputable def mw_(x y:Option U):Option U:=match x with
 | some (.int i)=>match y with
  | some (.int j)=>some (.int (i+j))
  | _=>none
 | _=>none
noncomputable def ky_(x y:Option U):Option U:=match x with
 | some (.int i)=>match y with
  | some (.int j)=>some (.int (i - j))
  | _=>none
 | _=>none
noncomputable def tupP(x:Option (List U)):Option U:=match x with
 | some us=>match Nat.ble us.length 1000 with
  | true=>some (.tup us)
  | false=>none
 | none=>none
noncomputable def ixP(x:Option U)(k:Int):Option U:=match x with
 | some (.tup xs)=>uix xs k
 | _=>none
noncomputable def eN_(o:Option (Option U)):Option U:=match o with
 | some o=>o
 | none=>none
noncomputable def evP:Nat->E->Su->Option U
 | 0,_,_=>none
 | n+1,e,σ=>match e with
  | .var i=>eN_ σ[i]?
  | .cst u=>some u
  | .tup es=>tupP (u9_ (evP n) es σ)
  | .bin .add a b=>mw_ (evP n a σ) (evP n b σ)
  | .bin .sub a b=>ky_ (evP n a σ) (evP n b σ)
  | .idx a (.cst (.int k))=>ixP (evP n a σ) k
  | _=>none
section
variable{fns:List Fn}{d:Nat}{X:XP}{σ:Su}{g:G}
theorem pEs{f:E->Su->Option U}(hf:∀ e u (Q:U->G->Prop),f e σ=some u->(wpE fns d e σ g X Q ↔ Q u g)):∀ (es:List E) (us:List U) (Q:List U->G->Prop),u9_ f es σ=some us->(z3_ fns d es σ g X Q ↔ Q us g)
 | [],us,Q,h=>by cases h;exact mf_
 | e :: es,us,Q,h=>by
  cases he:f e σ with
  | none=>simp only [u9_,he] at h;cases h
  | some u =>
   cases hs:u9_ f es σ with
   | none=>simp only [u9_,he,hs] at h;cases h
   | some us' =>
    simp only [u9_,he,hs] at h;cases h;exact q0_.trans ((hf e u _ he).trans (pEs hf es us' _ hs))
theorem je_{op:Op}{f:Option U->Option U->Option U}{a b:E}{x y:Option U}{u:U}{Q:U->G->Prop}(ha:∀ u (Q:U->G->Prop),x=some u->(wpE fns d a σ g X Q ↔ Q u g))(hb:∀ u (Q:U->G->Prop),y=some u->(wpE fns d b σ g X Q ↔ Q u g))(hf:f x y=some u)(k:∀ u,f x y=some u -> ∃ i j,x=some (.int i)/\y=some (.int j)/\op2 op (.int i) (.int j)=some u):wpE fns d (.bin op a b) σ g X Q ↔ Q u g:=by
 obtain ⟨i,j,e1,e2,e3⟩:=k u hf;refine ia_.trans ((ha _ _ e1).trans ((hb _ _ e2).trans ?_));rw [bH_,e3,vT_]
theorem pE:∀ (n:Nat) (e:E) (u:U) (Q:U->G->Prop),evP n e σ=some u->(wpE fns d e σ g X Q ↔ Q u g)
 | 0,_,_,_,h=>by cases h
 | n+1,e,u,Q,h=>by
  have ih:=pE n;unfold evP at h;split at h
  .rename_i i
   refine ft_.trans ?_;cases hs:σ[i]? with
   | none=>rw [hs] at h;cases h
   | some o=>rw [hs] at h;have h:o=some u:=h;subst h;exact Iff.rfl
  .cases h;exact fE_
  .rename_i es
   cases hs:u9_ (evP n) es σ with
   | none=>rw [hs] at h;cases h
   | some us =>
    rw [hs] at h;simp only [tupP] at h;cases hb:Nat.ble us.length 1000 with
    | true =>
     rw [hb] at h;cases h;refine fg_.trans ((pEs (λe u Q h=>ih e u Q h) es us _ hs).trans ?_);rw [vO_ (by have:=Nat.le_of_ble_eq_true hb;omega),d4_]
    | false=>rw [hb] at h;cases h
  .rename_i a b
   refine je_ (f:=mw_) (λu Q h=>ih a u Q h) (λu Q h=>ih b u Q h) h λu h => ?_;unfold mw_ at h;split at h
   .split at h
    .cases h;exact ⟨_,_,‹_›,‹_›,rfl⟩
    .cases h
   .cases h
  .rename_i a b
   refine je_ (f:=ky_) (λu Q h=>ih a u Q h) (λu Q h=>ih b u Q h) h λu h => ?_;unfold ky_ at h;split at h
   .split at h
    .cases h;exact ⟨_,_,‹_›,‹_›,rfl⟩
    .cases h
   .cases h
  .rename_i a k
   cases ha:evP n a σ with
   | none=>rw [ha] at h;cases h
   | some x =>
    rw [ha] at h;refine gZ_.trans ((ih a x _ ha).trans (fE_.trans ?_));cases x with
    | tup xs =>
     have h:uix xs k=some u:=h;show oh (uix xs k) (lk _) ↔ _;rw [h,vT_]
    | _=>cases h
  .cases h
noncomputable def nE(fns:List Fn)(d:Nat)(e:E)(σ:Su)(g:G)(X:XP)(Q:U->G->Prop):Prop:=wpE fns d e σ g X Q
noncomputable def nEs(fns:List Fn)(d:Nat)(es:List E)(σ:Su)(g:G)(X:XP)(Q:List U->G->Prop):Prop:=z3_ fns d es σ g X Q
theorem p_E{e:E}{Q:U->G->Prop}:wpE fns d e σ g X Q=oc (evP 8 e σ) (lk (nE fns d e σ g X Q)) (lk λu=>Q u g):=propext (by
 cases h:evP 8 e σ with
 | none=>exact Iff.rfl
 | some u=>exact pE 8 e u Q h)
theorem ae_{es:List E}{Q:List U->G->Prop}:z3_ fns d es σ g X Q=oc (u9_ (evP 8) es σ) (lk (nEs fns d es σ g X Q)) (lk λus=>Q us g):=propext (by
 cases h:u9_ (evP 8) es σ with
 | none=>exact Iff.rfl
 | some us=>exact pEs (λe u Q h=>pE 8 e u Q h) es us Q h)
theorem rR_{own:Nat}{fr:List Nat}{t:Tg}{it:E}{cs:List E}{rest:List (Tg×E×List E)}{k v:E}{Q:U->G->Prop}:nE fns d (.dcmp own fr ((t,it,cs) :: rest) k v) σ g X Q ↔ wpI fns d it σ g X λi g=>kM fns d i 0 t cs rest (.pair k v) [] (List.replicate own none++fr.map λj=>(σ[j]?).getD none) g (λ_ _ _=>False) (lk λus g=>oh (dfold us []) <| lk λkvs=>Q (.ref g.length) (g++[.dic kvs])):=kY_
theorem pi_{k v:E}{Q:U->G->Prop}:nE fns d (.pair k v) σ g X Q ↔ wpE fns d k σ g X λx g=>wpE fns d v σ g X λy g=>oh (keyOf x) <| lk λ_=>Q (.tup [x,y]) g:=hO_
theorem jW_{o k x:E}{Q:U->G->Prop}:nE fns d (.dgt o k x) σ g X Q ↔ wpE fns d o σ g X λy g=>oh (asD y g) <| lk λ_=>wpE fns d k σ g X λz g=>wpE fns d x σ g X λw g=>oh (zA_ z y g) <| lk λq=>Q (q.getD w) g:=eT_
theorem ru_{own:Nat}{fr:List Nat}{t:Tg}{it:E}{cs:List E}{rest:List (Tg×E×List E)}{elt:E}{Q:U->G->Prop}:nE fns d (.comp own fr ((t,it,cs) :: rest) elt) σ g X Q ↔ wpI fns d it σ g X λi g=>kM fns d i 0 t cs rest elt [] (List.replicate own none++fr.map λj=>(σ[j]?).getD none) g (λ_ _ _=>False) (lk λus g=>us.length<=zd_/\Q (.ref g.length) (g++[.lst us])):=iM_
theorem m2_{ks:List PySem.Str}{es:List E}{Q:U->G->Prop}:nE fns d (.ddsp ks es) σ g X Q ↔ z3_ fns d es σ g X λus g=>Q (.ref g.length) (g++[.dst (ks.zip us)]):=fY_
theorem rS_{Q:U->G->Prop}:nE fns d .dnew σ g X Q ↔ Q (.ref g.length) (g++[.dic []]):=jF_
theorem fy_{i:Nat}{Q:U->G->Prop}:nE fns d (.var i) σ g X Q ↔ oh σ[i]? (lk λo=>oh o (lk λu=>Q u g)):=ft_
end
section
variable{n:Nat}{σ:Su}
theorem jH_{f:E->Su->Option U}:u9_ f [] σ=some []:=rfl
theorem nW_{f:E->Su->Option U}{e:E}{es:List E}:u9_ f (e :: es) σ=match f e σ with
  | some u=>match u9_ f es σ with
   | some us=>some (u :: us)
   | none=>none
  | none=>none:=rfl
theorem jt_{i:Nat}:evP (n+1) (.var i) σ=eN_ σ[i]? := rfl
theorem gl_{u:U}:evP (n+1) (.cst u) σ=some u:=rfl
theorem h4_{es:List E}:evP (n+1) (.tup es) σ=tupP (u9_ (evP n) es σ):=rfl
theorem hB_{a b:E}:evP (n+1) (.bin .add a b) σ=mw_ (evP n a σ) (evP n b σ):=rfl
theorem hF_{a b:E}:evP (n+1) (.bin .sub a b) σ=ky_ (evP n a σ) (evP n b σ):=rfl
theorem iJ_{a:E}{k:Int}:evP (n+1) (.idx a (.cst (.int k))) σ=ixP (evP n a σ) k:=rfl
theorem nE_{o:Option U}:eN_ (some o)=o:=rfl
theorem n9_{a:U}:tupP (some [a])=some (.tup [a]):=rfl
theorem mT_{a b:U}:tupP (some [a,b])=some (.tup [a,b]):=rfl
theorem mE_{a b c:U}:tupP (some [a,b,c])=some (.tup [a,b,c]):=rfl
theorem nY_{a b c d:U}:tupP (some [a,b,c,d])=some (.tup [a,b,c,d]):=rfl
theorem mR_{a b c d e:U}:tupP (some [a,b,c,d,e])=some (.tup [a,b,c,d,e]):=rfl
theorem mb_{a b c d e f:U}:tupP (some [a,b,c,d,e,f])=some (.tup [a,b,c,d,e,f]):=rfl
theorem mx_{a b c d e f g:U}:tupP (some [a,b,c,d,e,f,g])=some (.tup [a,b,c,d,e,f,g]):=rfl
theorem oF_{a b c d e f g h:U}:tupP (some [a,b,c,d,e,f,g,h])=some (.tup [a,b,c,d,e,f,g,h]):=rfl
theorem mz_:tupP none=none:=rfl
theorem nT_{i j:Int}:mw_ (some (.int i)) (some (.int j))=some (.int (i+j)):=rfl
theorem nn_{i j:Int}:ky_ (some (.int i)) (some (.int j))=some (.int (i - j)):=rfl
theorem nO_{y:Option U}:mw_ none y=none:=rfl
theorem oS_{y:Option U}:ky_ none y=none:=rfl
theorem oM_{i:Int}:mw_ (some (.int i)) none=none:=rfl
theorem oy_{i:Int}:ky_ (some (.int i)) none=none:=rfl
theorem oC_{i:Nat}{y:Option U}:mw_ (some (.ref i)) y=none:=rfl
theorem jv_{xs:List U}{k:Int}:ixP (some (.tup xs)) k=uix xs k:=rfl
theorem hx_{n:Nat}{k:Int}:ixP (some (.ref n)) k=none:=rfl
theorem jz_{xs:List U}{k:Int}:ixP (some (.fro xs)) k=none:=rfl
theorem fw_{c:Nat}{xs:List U}{k:Int}:ixP (some (.xn c xs)) k=none:=rfl
theorem j1_{k:Int}:ixP none k=none:=rfl
theorem hR_{a b:E}:evP (n+1) (.bin .mul a b) σ=none:=rfl
theorem mu_{a b:E}:evP (n+1) (.bin .fdiv a b) σ=none:=rfl
theorem i7_{a b:E}:evP (n+1) (.bin .mod a b) σ=none:=rfl
theorem hr_{a b:E}:evP (n+1) (.bin .pow a b) σ=none:=rfl
theorem gm_{o:Cp}{a b:E}:evP (n+1) (.cmp o a b) σ=none:=rfl
theorem rj_{o q:Cp}{a b c:E}:evP (n+1) (.chain o q a b c) σ=none:=rfl
theorem j9_{a b:E}:evP (n+1) (.and a b) σ=none:=rfl
theorem bt_{a b:E}:evP (n+1) (.or a b) σ=none:=rfl
theorem fZ_{a:E}:evP (n+1) (.not a) σ=none:=rfl
theorem gr_{a:E}:evP (n+1) (.neg a) σ=none:=rfl
theorem fn_{c a b:E}:evP (n+1) (.ite c a b) σ=none:=rfl
theorem hM_{es:List E}:evP (n+1) (.lst es) σ=none:=rfl
theorem hc_{a:E}{lo hi:Option E}:evP (n+1) (.slc a lo hi) σ=none:=rfl
theorem fx_{a:E}:evP (n+1) (.rev a) σ=none:=rfl
theorem mQ_{f:Nat}{es:List E}:evP (n+1) (.call f es) σ=none:=rfl
theorem js_{a:E}{j:Nat}{cs:List Nat}:evP (n+1) (.fld a j cs) σ=none:=rfl
theorem qh_{f:Nat}{es ks:List E}{pm:List (Nat ⊕ U)}:evP (n+1) (.callk f es ks pm) σ=none:=rfl
theorem oA_{c f:Nat}{es ks:List E}{pm:List (Nat ⊕ U)}:evP (n+1) (.make c f es ks pm) σ=none:=rfl
theorem mF_{a:E}{j:Nat}{tb:List (Nat×Nat×List (Nat ⊕ U))}{es ks:List E}:evP (n+1) (.meth a j tb es ks) σ=none:=rfl
theorem nM_{a:E}:evP (n+1) (.revm a) σ=none:=rfl
theorem cU_{b:Bi}{es:List E}:evP (n+1) (.bi b es) σ=none:=rfl
theorem iK_{a:E}{t:Ty}:evP (n+1) (.isi a t) σ=none:=rfl
theorem jD_{o v:E}:evP (n+1) (.app o v) σ=none:=rfl
theorem nA_{o v:E}:evP (n+1) (.popi o v) σ=none:=rfl
theorem hy_{o v:E}:evP (n+1) (.ext o v) σ=none:=rfl
theorem iv_{o:E}:evP (n+1) (.pop o) σ=none:=rfl
theorem oW_  : evP (n+1) .dnew σ=none:=rfl
theorem ma_{m:Nat}{fr:List Nat}{gs:List (Tg×E×List E)}{e:E}:evP (n+1) (.comp m fr gs e) σ=none:=rfl
theorem mk_{ks:List PySem.Str}{es:List E}:evP (n+1) (.ddsp ks es) σ=none:=rfl
theorem gW_{o k x:E}:evP (n+1) (.dgt o k x) σ=none:=rfl
theorem oU_{k v:E}:evP (n+1) (.pair k v) σ=none:=rfl
theorem mN_{m:Nat}{fr:List Nat}{gs:List (Tg×E×List E)}{k v:E}:evP (n+1) (.dcmp m fr gs k v) σ=none:=rfl
theorem gn_{a:E}{i:Nat}:evP (n+1) (.idx a (.var i)) σ=none:=rfl
theorem i1_{a:E}{f:Nat}{es:List E}:evP (n+1) (.idx a (.call f es)) σ=none:=rfl
theorem gF_{a:E}{es:List E}:evP (n+1) (.idx a (.tup es)) σ=none:=rfl
theorem iH_{a b c:E}{o:Op}:evP (n+1) (.idx a (.bin o b c)) σ=none:=rfl
theorem gH_{a:E}{s:PySem.Str}:evP (n+1) (.idx a (.cst (.str s))) σ=none:=rfl
theorem jY_{a b c:E}:evP (n+1) (.idx a (.idx b c)) σ=none:=rfl
theorem hN_{a b:E}:evP (n+1) (.idx a (.neg b)) σ=none:=rfl
end
section
variable{fns:List Fn}{d:Nat}{X:XP}{σ:Su}{g:G}{Q:U->G->Prop}{QF:Fl->G->Prop}{QB:Bool->G->Prop}{QI:Iter->G->Prop}{QL:List U->G->Prop}{QO:Option Int->G->Prop}{op:Op}{cp:Cp}{cq:Cp}{a:E}{b:E}{c:E}{e:E}{it:E}{o:E}{v:E}{i:Nat}{j:Nat}{k:Nat}{f:Nat}{cc:Nat}{cs:List Nat}{es:List E}{ks:List E}{pm:List (Nat ⊕ U)}{tb:List (Nat×Nat×List (Nat ⊕ U))}{p:Nat×List (Nat ⊕ U)}{x:U}{y:U}{u:U}{w:U}{us:List U}{ws:List U}{xs:List U}{lo:Option E}{hi:Option E}{l:Option Int}{h:Option Int}{t:Tg}{ty:Ty}{z:Bool}{n:Int}{s:S}{ss:List S}{A:List S}{B:List S}{ao:Op}{st:Su}{bb:Bi}{it2:Iter}{pq:Iter×G}{g2:G}{nn:Nat}{ces:List E}{os:Option U}
noncomputable def KV{α:Type}(g:G)(Q:α->G->Prop)(a:α):Prop:=Q a g
theorem b3_{α:Type}{g:G}{Q:α->G->Prop}{a:α}:oh (some a) (lk (KV g Q))=Q a g:=propext Iff.rfl
theorem b1_{α:Type}{g:G}{Q:α->G->Prop}{a:α}{A:Prop}:oc (some a) (lk A) (lk (KV g Q))=Q a g:=propext Iff.rfl
theorem al_{α:Type}{g:G}{Q:α->G->Prop}{A:Prop}:oc none (lk A) (lk (KV g Q))=A:=propext Iff.rfl
theorem bm_{α:Type}{g:G}{Q:α->G->Prop}{a:α}:KV g Q a=Q a g:=propext Iff.rfl
theorem k_E  : wpE fns d e σ g X Q=oc (evP 8 e σ) (lk (nE fns d e σ g X Q)) (lk (KV g Q)):=p_E
theorem cQ_  : z3_ fns d es σ g X QL=oc (u9_ (evP 8) es σ) (lk (nEs fns d es σ g X QL)) (lk (KV g QL)):=ae_
noncomputable def KB(g:G)(Q:U->G->Prop)(z:Bool):Prop:=Q (.bl z) g
theorem aj_  : oh (some z) (lk (KB g Q))=(Q (.bl z) g):=propext Iff.rfl
theorem c7_  : KB g Q z=(Q (.bl z) g):=propext Iff.rfl
noncomputable def Kl2(u:U)(QL:List U->G->Prop)(us:List U)(g:G):Prop:=QL (u :: us) g
theorem ig_  : Kl2 u QL us g=(QL (u :: us) g):=propext Iff.rfl
noncomputable def Kl1(fns:List Fn)(d:Nat)(es:List E)(σ:Su)(X:XP)(QL:List U->G->Prop)(u:U)(g:G):Prop:=z3_ fns d es σ g X (Kl2 u QL)
theorem fl_  : Kl1 fns d es σ X QL u g=(z3_ fns d es σ g X (Kl2 u QL)):=propext Iff.rfl
theorem iL_  : nEs fns d [] σ g X QL ↔ QL [] g:=mf_
theorem qA_  : nEs fns d (e :: es) σ g X QL ↔ wpE fns d e σ g X (Kl1 fns d es σ X QL):=q0_
noncomputable def lW_(op:Op)(x:U)(X:XP)(Q:U->G->Prop)(y:U)(g:G):Prop:=ob op x y g X (lk Q)
theorem rN_  : lW_ op x X Q y g=(ob op x y g X (lk Q)):=propext Iff.rfl
noncomputable def j8_(fns:List Fn)(d:Nat)(op:Op)(b:E)(σ:Su)(X:XP)(Q:U->G->Prop)(x:U)(g:G):Prop:=wpE fns d b σ g X (lW_ op x X Q)
theorem pb_  : j8_ fns d op b σ X Q x g=(wpE fns d b σ g X (lW_ op x X Q)):=propext Iff.rfl
theorem ix_  : nE fns d (.bin op a b) σ g X Q ↔ wpE fns d a σ g X (j8_ fns d op b σ X Q):=ia_
theorem bh_{op:Op}{i:Int}{y:U}{g:G}{X:XP}{Q:U->G->Prop}:ob op (.int i) y g X (lk Q)=oh (op2 op (.int i) y) (lk (KV g Q)):=bH_
noncomputable def sX_(cp:Cp)(x:U)(Q:U->G->Prop)(y:U)(g:G):Prop:=oh (cmp2 cp x y g) (lk (KB g Q))
theorem q5_  : sX_ cp x Q y g=(oh (cmp2 cp x y g) (lk (KB g Q))):=propext Iff.rfl
noncomputable def jb_(fns:List Fn)(d:Nat)(cp:Cp)(b:E)(σ:Su)(X:XP)(Q:U->G->Prop)(x:U)(g:G):Prop:=wpE fns d b σ g X (sX_ cp x Q)
theorem qn_  : jb_ fns d cp b σ X Q x g=(wpE fns d b σ g X (sX_ cp x Q)):=propext Iff.rfl
theorem h1_  : nE fns d (.cmp cp a b) σ g X Q ↔ wpE fns d a σ g X (jb_ fns d cp b σ X Q):=cq_
noncomputable def ej_(fns:List Fn)(d:Nat)(cq:Cp)(y:U)(c:E)(σ:Su)(g:G)(X:XP)(Q:U->G->Prop)(z:Bool):Prop:=bh z (lk (wpE fns d c σ g X (sX_ cq y Q))) (lk (Q (.bl false) g))
theorem g5_  : oh (some z) (lk (ej_ fns d cq y c σ g X Q))=(bh z (lk (wpE fns d c σ g X (sX_ cq y Q))) (lk (Q (.bl false) g))):=propext Iff.rfl
theorem oP_  : ej_ fns d cq y c σ g X Q z=(bh z (lk (wpE fns d c σ g X (sX_ cq y Q))) (lk (Q (.bl false) g))):=propext Iff.rfl
noncomputable def cc_(fns:List Fn)(d:Nat)(cp:Cp)(cq:Cp)(x:U)(c:E)(σ:Su)(X:XP)(Q:U->G->Prop)(y:U)(g:G):Prop:=oh (cmp2 cp x y g) (lk (ej_ fns d cq y c σ g X Q))
theorem nK_  : cc_ fns d cp cq x c σ X Q y g=(oh (cmp2 cp x y g) (lk (ej_ fns d cq y c σ g X Q))):=propext Iff.rfl
noncomputable def bP_(fns:List Fn)(d:Nat)(cp:Cp)(cq:Cp)(b:E)(c:E)(σ:Su)(X:XP)(Q:U->G->Prop)(x:U)(g:G):Prop:=wpE fns d b σ g X (cc_ fns d cp cq x c σ X Q)
theorem mC_  : bP_ fns d cp cq b c σ X Q x g=(wpE fns d b σ g X (cc_ fns d cp cq x c σ X Q)):=propext Iff.rfl
theorem qs_  : nE fns d (.chain cp cq a b c) σ g X Q ↔ wpE fns d a σ g X (bP_ fns d cp cq b c σ X Q):=kg_
noncomputable def bw_(fns:List Fn)(d:Nat)(b:E)(σ:Su)(X:XP)(Q:U->G->Prop)(x:U)(g:G):Prop:=oh (match x with | .bl z=>some z | _=>none) <| lk λz=>bh z (lk (wpE fns d b σ g X Q)) (lk (Q (.bl false) g))
theorem nk_{fns:List Fn}{d:Nat}{b:E}{σ:Su}{X:XP}{Q:U->G->Prop}{z:Bool}{g:G}:bw_ fns d b σ X Q (.bl z) g=bh z (lk (wpE fns d b σ g X Q)) (lk (Q (.bl false) g)):=propext Iff.rfl
theorem i8_  : nE fns d (.and a b) σ g X Q ↔ wpE fns d a σ g X (bw_ fns d b σ X Q):=ct_
noncomputable def Kor(fns:List Fn)(d:Nat)(b:E)(σ:Su)(X:XP)(Q:U->G->Prop)(x:U)(g:G):Prop:=oh (match x with | .bl z=>some z | _=>none) <| lk λz=>bh z (lk (Q (.bl true) g)) (lk (wpE fns d b σ g X Q))
theorem ju_{fns:List Fn}{d:Nat}{b:E}{σ:Su}{X:XP}{Q:U->G->Prop}{z:Bool}{g:G}:Kor fns d b σ X Q (.bl z) g=bh z (lk (Q (.bl true) g)) (lk (wpE fns d b σ g X Q)):=propext Iff.rfl
theorem bd_  : nE fns d (.or a b) σ g X Q ↔ wpE fns d a σ g X (Kor fns d b σ X Q):=aH_
noncomputable def Knt(g:G)(Q:U->G->Prop)(z:Bool):Prop:=Q (.bl !z) g
theorem dg_  : oh (some z) (lk (Knt g Q))=(Q (.bl !z) g):=propext Iff.rfl
theorem fD_  : Knt g Q z=(Q (.bl !z) g):=propext Iff.rfl
noncomputable def bv_(Q:U->G->Prop)(x:U)(g:G):Prop:=oh (tru x g) (lk (Knt g Q))
theorem nJ_  : bv_ Q x g=(oh (tru x g) (lk (Knt g Q))):=propext Iff.rfl
theorem ij_  : nE fns d (.not a) σ g X Q ↔ wpE fns d a σ g X (bv_ Q):=eJ_
noncomputable def bu_(Q:U->G->Prop)(x:U)(g:G):Prop:=oh (match x with | .int i=>some i | _=>none) <| lk λi=>Q (.int (-i)) g
theorem me_{Q:U->G->Prop}{i:Int}{g:G}:bu_ Q (.int i) g=Q (.int (-i)) g:=propext Iff.rfl
theorem fI_  : nE fns d (.neg a) σ g X Q ↔ wpE fns d a σ g X (bu_ Q):=eW_
noncomputable def ba_(fns:List Fn)(d:Nat)(a:E)(b:E)(σ:Su)(X:XP)(Q:U->G->Prop)(z:Bool)(g:G):Prop:=bh z (lk (wpE fns d a σ g X Q)) (lk (wpE fns d b σ g X Q))
theorem k7_  : ba_ fns d a b σ X Q z g=(bh z (lk (wpE fns d a σ g X Q)) (lk (wpE fns d b σ g X Q))):=propext Iff.rfl
theorem eA_  : nE fns d (.ite c a b) σ g X Q ↔ wpT fns d c σ g X (ba_ fns d a b σ X Q):=cs_
noncomputable def bA_(Q:U->G->Prop)(us:List U)(g:G):Prop:=bh (x8_ us.length) (lk (Q (.tup us) g)) (lk False)
theorem ms_  : bA_ Q us g=(bh (x8_ us.length) (lk (Q (.tup us) g)) (lk False)):=propext Iff.rfl
theorem k1_  : nE fns d (.tup es) σ g X Q ↔ z3_ fns d es σ g X (bA_ Q):=fg_
noncomputable def bp_(Q:U->G->Prop)(us:List U)(g:G):Prop:=bh (x8_ us.length) (lk (Q (.ref g.length) (g++[.lst us]))) (lk False)
theorem n0_  : bp_ Q us g=(bh (x8_ us.length) (lk (Q (.ref g.length) (g++[.lst us]))) (lk False)):=propext Iff.rfl
theorem jn_  : nE fns d (.lst es) σ g X Q ↔ z3_ fns d es σ g X (bp_ Q):=dl_
noncomputable def ew_(i:Int)(g:G)(Q:U->G->Prop)(xs:List U):Prop:=oh (uix xs i) (lk (KV g Q))
theorem fX_{i:Int}{g:G}{Q:U->G->Prop}{xs:List U}:oh (some xs) (lk (ew_ i g Q))=oh (uix xs i) (lk (KV g Q)):=propext Iff.rfl
theorem ml_{i:Int}{g:G}{Q:U->G->Prop}{xs:List U}:ew_ i g Q xs=oh (uix xs i) (lk (KV g Q)):=propext Iff.rfl
noncomputable def hh_(x:U)(Q:U->G->Prop)(y:U)(g:G):Prop:=match y with | .tup us=>oh ((zA_ (.tup us) x g).bind id) <| lk λz=>Q z g | .str k=>oh ((asS x g).bind λkvs=>rD_ kvs k) <| lk λz=>Q z g | y=>oh (match y with | .int i=>some i | _=>none) <| lk λi=>oh (items x g) <| lk λxs=>oh (uix xs i) <| lk λz=>Q z g
theorem ni_{x:U}{Q:U->G->Prop}{i:Int}{g:G}:hh_ x Q (.int i) g=oh (items x g) (lk (ew_ i g Q)):=propext Iff.rfl
theorem mj_{x:U}{Q:U->G->Prop}{us:List U}{g:G}:hh_ x Q (.tup us) g=oh ((zA_ (.tup us) x g).bind id) (lk (KV g Q)):=propext Iff.rfl
theorem k4_{x:U}{Q:U->G->Prop}{k:PySem.Str}{g:G}:hh_ x Q (.str k) g=oh ((asS x g).bind λkvs=>rD_ kvs k) (lk (KV g Q)):=propext Iff.rfl
noncomputable def bo_(fns:List Fn)(d:Nat)(b:E)(σ:Su)(X:XP)(Q:U->G->Prop)(x:U)(g:G):Prop:=wpE fns d b σ g X (hh_ x Q)
theorem nh_  : bo_ fns d b σ X Q x g=(wpE fns d b σ g X (hh_ x Q)):=propext Iff.rfl
theorem iu_  : nE fns d (.idx a b) σ g X Q ↔ wpE fns d a σ g X (bo_ fns d b σ X Q):=gZ_
noncomputable def ck_(x:U)(l:Option Int)(X:XP)(Q:U->G->Prop)(h:Option Int)(g:G):Prop:=hk (iA_ x l h g) X (lk Q)
theorem n4_  : ck_ x l X Q h g=(hk (iA_ x l h g) X (lk Q)):=propext Iff.rfl
noncomputable def dP_(fns:List Fn)(d:Nat)(x:U)(hi:Option E)(σ:Su)(X:XP)(Q:U->G->Prop)(l:Option Int)(g:G):Prop:=wpO fns d hi σ g X (ck_ x l X Q)
theorem no_  : dP_ fns d x hi σ X Q l g=(wpO fns d hi σ g X (ck_ x l X Q)):=propext Iff.rfl
noncomputable def c0_(fns:List Fn)(d:Nat)(lo:Option E)(hi:Option E)(σ:Su)(X:XP)(Q:U->G->Prop)(x:U)(g:G):Prop:=wpO fns d lo σ g X (dP_ fns d x hi σ X Q)
theorem o5_  : c0_ fns d lo hi σ X Q x g=(wpO fns d lo σ g X (dP_ fns d x hi σ X Q)):=propext Iff.rfl
theorem jX_  : nE fns d (.slc a lo hi) σ g X Q ↔ wpE fns d a σ g X (c0_ fns d lo hi σ X Q):=cp_
noncomputable def pN_(g:G)(Q:U->G->Prop)(xs:List U):Prop:=Q (.ref g.length) (g++[.lst xs.reverse])
theorem kD_{g:G}{Q:U->G->Prop}{xs:List U}:oh (some xs) (lk (pN_ g Q))=Q (.ref g.length) (g++[.lst xs.reverse]):=propext Iff.rfl
theorem rx_{g:G}{Q:U->G->Prop}{xs:List U}:pN_ g Q xs=Q (.ref g.length) (g++[.lst xs.reverse]):=propext Iff.rfl
noncomputable def bQ_(Q:U->G->Prop)(x:U)(g:G):Prop:=oh (kV_ x g) (lk (pN_ g Q))
theorem md_  : bQ_ Q x g=(oh (kV_ x g) (lk (pN_ g Q))):=propext Iff.rfl
theorem j0_  : nE fns d (.rev a) σ g X Q ↔ wpE fns d a σ g X (bQ_ Q):=dn_
noncomputable def g3_(fns:List Fn)(d:Nat)(f:Nat)(X:XP)(Q:U->G->Prop)(us:List U)(g:G):Prop:=kC fns d f us g X (lk Q)
theorem rq_  : g3_ fns d f X Q us g=(kC fns d f us g X (lk Q)):=propext Iff.rfl
theorem nc_  : nE fns d (.call f es) σ g X Q ↔ z3_ fns d es σ g X (g3_ fns d f X Q):=in_
noncomputable def c6_(j:Nat)(cs:List Nat)(Q:U->G->Prop)(x:U)(g:G):Prop:=oh ((yz_ x g).bind (uU_ j cs)) (lk (KV g Q))
theorem o3_  : c6_ j cs Q x g=(oh ((yz_ x g).bind (uU_ j cs)) (lk (KV g Q))):=propext Iff.rfl
theorem jy_  : nE fns d (.fld a j cs) σ g X Q ↔ wpE fns d a σ g X (c6_ j cs Q):=dv_
noncomputable def dX_(nn:Nat)(Q:U->G->Prop)(u:U)(g:G):Prop:=z8_ u=true/\Q (.ref nn) g
theorem mK_  : dX_ nn Q u g=(z8_ u=true/\Q (.ref nn) g):=propext Iff.rfl
noncomputable def cv_(fns:List Fn)(d:Nat)(cc:Nat)(f:Nat)(us:List U)(es:List E)(ks:List E)(pm:List (Nat ⊕ U))(X:XP)(Q:U->G->Prop)(ws:List U)(g:G):Prop:=us.length=es.length/\ws.length=ks.length/\kC fns d f (perm (.ref g.length :: us++ws) pm) (g++[.ins cc []]) X (lk (dX_ g.length Q))
theorem mS_  : cv_ fns d cc f us es ks pm X Q ws g=(us.length=es.length/\ws.length=ks.length/\kC fns d f (perm (.ref g.length :: us++ws) pm) (g++[.ins cc []]) X (lk (dX_ g.length Q))):=propext Iff.rfl
noncomputable def bE_(fns:List Fn)(d:Nat)(cc:Nat)(f:Nat)(es:List E)(ks:List E)(pm:List (Nat ⊕ U))(σ:Su)(X:XP)(Q:U->G->Prop)(us:List U)(g:G):Prop:=z3_ fns d ks σ g X (cv_ fns d cc f us es ks pm X Q)
theorem mU_  : bE_ fns d cc f es ks pm σ X Q us g=(z3_ fns d ks σ g X (cv_ fns d cc f us es ks pm X Q)):=propext Iff.rfl
theorem n5_  : nE fns d (.make cc f es ks pm) σ g X Q ↔ z3_ fns d es σ g X (bE_ fns d cc f es ks pm σ X Q):=fs_
noncomputable def e0_(fns:List Fn)(d:Nat)(f:Nat)(us:List U)(es:List E)(ks:List E)(pm:List (Nat ⊕ U))(X:XP)(Q:U->G->Prop)(ws:List U)(g:G):Prop:=us.length=es.length/\ws.length=ks.length/\kC fns d f (perm (us++ws) pm) g X (lk Q)
theorem jq_  : e0_ fns d f us es ks pm X Q ws g=(us.length=es.length/\ws.length=ks.length/\kC fns d f (perm (us++ws) pm) g X (lk Q)):=propext Iff.rfl
noncomputable def c3_(fns:List Fn)(d:Nat)(f:Nat)(es:List E)(ks:List E)(pm:List (Nat ⊕ U))(σ:Su)(X:XP)(Q:U->G->Prop)(us:List U)(g:G):Prop:=z3_ fns d ks σ g nX (e0_ fns d f us es ks pm X Q)
theorem fO_  : c3_ fns d f es ks pm σ X Q us g=(z3_ fns d ks σ g nX (e0_ fns d f us es ks pm X Q)):=propext Iff.rfl
theorem lB_  : nE fns d (.callk f es ks pm) σ g X Q ↔ z3_ fns d es σ g nX (c3_ fns d f es ks pm σ X Q):=lG_
noncomputable def cg_(fns:List Fn)(d:Nat)(x:U)(p:Nat×List (Nat ⊕ U))(us:List U)(es:List E)(ks:List E)(X:XP)(Q:U->G->Prop)(ws:List U)(g:G):Prop:=us.length=es.length/\ws.length=ks.length/\kC fns d p.1 (perm (x :: us++ws) p.2) g X (lk Q)
theorem oE_  : cg_ fns d x p us es ks X Q ws g=(us.length=es.length/\ws.length=ks.length/\kC fns d p.1 (perm (x :: us++ws) p.2) g X (lk Q)):=propext Iff.rfl
noncomputable def em_(fns:List Fn)(d:Nat)(x:U)(p:Nat×List (Nat ⊕ U))(es:List E)(ks:List E)(σ:Su)(X:XP)(Q:U->G->Prop)(us:List U)(g:G):Prop:=z3_ fns d ks σ g X (cg_ fns d x p us es ks X Q)
theorem mv_  : em_ fns d x p es ks σ X Q us g=(z3_ fns d ks σ g X (cg_ fns d x p us es ks X Q)):=propext Iff.rfl
noncomputable def f6_(fns:List Fn)(d:Nat)(x:U)(es:List E)(ks:List E)(σ:Su)(g:G)(X:XP)(Q:U->G->Prop)(p:Nat×List (Nat ⊕ U)):Prop:=z3_ fns d es σ g X (em_ fns d x p es ks σ X Q)
theorem k2_  : oh (some p) (lk (f6_ fns d x es ks σ g X Q))=(z3_ fns d es σ g X (em_ fns d x p es ks σ X Q)):=propext Iff.rfl
theorem oV_  : f6_ fns d x es ks σ g X Q p=(z3_ fns d es σ g X (em_ fns d x p es ks σ X Q)):=propext Iff.rfl
noncomputable def bB_(fns:List Fn)(d:Nat)(j:Nat)(tb:List (Nat×Nat×List (Nat ⊕ U)))(es:List E)(ks:List E)(σ:Su)(X:XP)(Q:U->G->Prop)(x:U)(g:G):Prop:=oh ((yz_ x g).bind (y4_ j tb)) (lk (f6_ fns d x es ks σ g X Q))
theorem nx_  : bB_ fns d j tb es ks σ X Q x g=(oh ((yz_ x g).bind (y4_ j tb)) (lk (f6_ fns d x es ks σ g X Q))):=propext Iff.rfl
theorem oT_  : nE fns d (.meth a j tb es ks) σ g X Q ↔ wpE fns d a σ g X (bB_ fns d j tb es ks σ X Q):=hG_
noncomputable def eg_(g:G)(X:XP)(Q:U->G->Prop)(k:Nat):Prop:=hk (ux_ k g) X (lk Q)
theorem h5_  : oh (some k) (lk (eg_ g X Q))=(hk (ux_ k g) X (lk Q)):=propext Iff.rfl
theorem gc_  : eg_ g X Q k=(hk (ux_ k g) X (lk Q)):=propext Iff.rfl
noncomputable def bN_(X:XP)(Q:U->G->Prop)(x:U)(g:G):Prop:=oh (asL x g) (lk (eg_ g X Q))
theorem jd_  : bN_ X Q x g=(oh (asL x g) (lk (eg_ g X Q))):=propext Iff.rfl
noncomputable def en_(g:G)(X:XP)(Q:U->G->Prop)(k:Nat):Prop:=hk (w1_ k g) X (lk Q)
theorem jx_  : oh (some k) (lk (en_ g X Q))=(hk (w1_ k g) X (lk Q)):=propext Iff.rfl
theorem oL_  : en_ g X Q k=(hk (w1_ k g) X (lk Q)):=propext Iff.rfl
noncomputable def be_(X:XP)(Q:U->G->Prop)(x:U)(g:G):Prop:=oh (asL x g) (lk (en_ g X Q))
theorem mD_  : be_ X Q x g=(oh (asL x g) (lk (en_ g X Q))):=propext Iff.rfl
theorem fG_  : nE fns d (.revm o) σ g X Q ↔ wpE fns d o σ g X (bN_ X Q):=gG_
theorem gQ_  : nE fns d (.pop o) σ g X Q ↔ wpE fns d o σ g X (be_ X Q):=eY_
noncomputable def ei_(k:Nat)(X:XP)(Q:U->G->Prop)(y:U)(g:G):Prop:=hk (xm_ k y g) X (lk Q)
theorem o7_  : ei_ k X Q y g=(hk (xm_ k y g) X (lk Q)):=propext Iff.rfl
noncomputable def f7_(fns:List Fn)(d:Nat)(v:E)(σ:Su)(g:G)(X:XP)(Q:U->G->Prop)(k:Nat):Prop:=wpE fns d v σ g X (ei_ k X Q)
theorem ib_  : oh (some k) (lk (f7_ fns d v σ g X Q))=(wpE fns d v σ g X (ei_ k X Q)):=propext Iff.rfl
theorem oz_  : f7_ fns d v σ g X Q k=(wpE fns d v σ g X (ei_ k X Q)):=propext Iff.rfl
noncomputable def bc_(fns:List Fn)(d:Nat)(v:E)(σ:Su)(X:XP)(Q:U->G->Prop)(x:U)(g:G):Prop:=oh (asL x g) (lk (f7_ fns d v σ g X Q))
theorem nG_  : bc_ fns d v σ X Q x g=(oh (asL x g) (lk (f7_ fns d v σ g X Q))):=propext Iff.rfl
theorem iC_  : nE fns d (.app o v) σ g X Q ↔ wpE fns d o σ g X (bc_ fns d v σ X Q):=cf_
noncomputable def es_(k:Nat)(X:XP)(Q:U->G->Prop)(y:U)(g:G):Prop:=hk (vA_ k y g) X (lk Q)
theorem nw_  : es_ k X Q y g=(hk (vA_ k y g) X (lk Q)):=propext Iff.rfl
noncomputable def eo_(fns:List Fn)(d:Nat)(v:E)(σ:Su)(g:G)(X:XP)(Q:U->G->Prop)(k:Nat):Prop:=wpE fns d v σ g X (es_ k X Q)
theorem ga_  : oh (some k) (lk (eo_ fns d v σ g X Q))=(wpE fns d v σ g X (es_ k X Q)):=propext Iff.rfl
theorem nZ_  : eo_ fns d v σ g X Q k=(wpE fns d v σ g X (es_ k X Q)):=propext Iff.rfl
noncomputable def c5_(fns:List Fn)(d:Nat)(v:E)(σ:Su)(X:XP)(Q:U->G->Prop)(x:U)(g:G):Prop:=oh (asL x g) (lk (eo_ fns d v σ g X Q))
theorem mG_  : c5_ fns d v σ X Q x g=(oh (asL x g) (lk (eo_ fns d v σ g X Q))):=propext Iff.rfl
theorem gf_  : nE fns d (.ext o v) σ g X Q ↔ wpE fns d o σ g X (c5_ fns d v σ X Q):=ce_
noncomputable def ee_(k:Nat)(X:XP)(Q:U->G->Prop)(y:U)(g:G):Prop:=hk (uj_ k y g) X (lk Q)
theorem gM_  : ee_ k X Q y g=(hk (uj_ k y g) X (lk Q)):=propext Iff.rfl
noncomputable def ec_(fns:List Fn)(d:Nat)(v:E)(σ:Su)(g:G)(X:XP)(Q:U->G->Prop)(k:Nat):Prop:=wpE fns d v σ g X (ee_ k X Q)
theorem f0_  : oh (some k) (lk (ec_ fns d v σ g X Q))=(wpE fns d v σ g X (ee_ k X Q)):=propext Iff.rfl
theorem gO_  : ec_ fns d v σ g X Q k=(wpE fns d v σ g X (ee_ k X Q)):=propext Iff.rfl
noncomputable def cS_(fns:List Fn)(d:Nat)(v:E)(σ:Su)(X:XP)(Q:U->G->Prop)(x:U)(g:G):Prop:=oh (asL x g) (lk (ec_ fns d v σ g X Q))
theorem fV_  : cS_ fns d v σ X Q x g=(oh (asL x g) (lk (ec_ fns d v σ g X Q))):=propext Iff.rfl
theorem fp_  : nE fns d (.popi o v) σ g X Q ↔ wpE fns d o σ g X (cS_ fns d v σ X Q):=jS_
noncomputable def Kbi(bb:Bi)(X:XP)(Q:U->G->Prop)(us:List U)(g:G):Prop:=hk (bi1 bb us g) X (lk Q)
theorem iD_  : Kbi bb X Q us g=(hk (bi1 bb us g) X (lk Q)):=propext Iff.rfl
theorem bf_  : nE fns d (.bi bb es) σ g X Q ↔ z3_ fns d es σ g X (Kbi bb X Q):=ah_
noncomputable def bb_(ty:Ty)(Q:U->G->Prop)(x:U)(g:G):Prop:=oh (vL_ ty x g) (lk (KB g Q))
theorem oI_  : bb_ ty Q x g=(oh (vL_ ty x g) (lk (KB g Q))):=propext Iff.rfl
theorem jw_  : nE fns d (.isi a ty) σ g X Q ↔ wpE fns d a σ g X (bb_ ty Q):=ci_
noncomputable def Ko(Q:Option Int->G->Prop)(x:U)(g:G):Prop:=oh (match x with | .int i=>some i | _=>none) <| lk λi=>Q (some i) g
theorem bG_{Q:Option Int->G->Prop}{i:Int}{g:G}:Ko Q (.int i) g=Q (some i) g:=propext Iff.rfl
theorem qW_  : wpO fns d (some e) σ g X QO ↔ wpE fns d e σ g X (Ko QO):=iy_
noncomputable def Ktr(QB:Bool->G->Prop)(x:U)(g:G):Prop:=oh (tru x g) (lk (KV g QB))
theorem fC_  : Ktr QB x g=(oh (tru x g) (lk (KV g QB))):=propext Iff.rfl
noncomputable def Kta(fns:List Fn)(d:Nat)(b:E)(σ:Su)(X:XP)(QB:Bool->G->Prop)(z:Bool)(g:G):Prop:=bh z (lk (wpT fns d b σ g X QB)) (lk (QB false g))
theorem fS_  : Kta fns d b σ X QB z g=(bh z (lk (wpT fns d b σ g X QB)) (lk (QB false g))):=propext Iff.rfl
noncomputable def Kto(fns:List Fn)(d:Nat)(b:E)(σ:Su)(X:XP)(QB:Bool->G->Prop)(z:Bool)(g:G):Prop:=bh z (lk (QB true g)) (lk (wpT fns d b σ g X QB))
theorem fN_  : Kto fns d b σ X QB z g=(bh z (lk (QB true g)) (lk (wpT fns d b σ g X QB))):=propext Iff.rfl
noncomputable def Ktn(QB:Bool->G->Prop)(z:Bool)(g:G):Prop:=QB (!z) g
theorem jj_  : Ktn QB z g=(QB (!z) g):=propext Iff.rfl
noncomputable def Kti(fns:List Fn)(d:Nat)(a:E)(b:E)(σ:Su)(X:XP)(QB:Bool->G->Prop)(z:Bool)(g:G):Prop:=bh z (lk (wpT fns d a σ g X QB)) (lk (wpT fns d b σ g X QB))
theorem dz_  : Kti fns d a b σ X QB z g=(bh z (lk (wpT fns d a σ g X QB)) (lk (wpT fns d b σ g X QB))):=propext Iff.rfl
theorem mq_  : wpT fns d (.and a b) σ g X QB ↔ wpT fns d a σ g X (Kta fns d b σ X QB):=dG_
theorem jJ_  : wpT fns d (.or a b) σ g X QB ↔ wpT fns d a σ g X (Kto fns d b σ X QB):=ab_
theorem nL_  : wpT fns d (.not a) σ g X QB ↔ wpT fns d a σ g X (Ktn QB):=cK_
theorem g2_  : wpT fns d (.ite c a b) σ g X QB ↔ wpT fns d c σ g X (Kti fns d a b σ X QB):=eQ_
theorem nB_  : wpT fns d (.var i) σ g X QB ↔ wpE fns d (.var i) σ g X (Ktr QB):=t_e rfl
theorem hd_  : wpT fns d (.cst u) σ g X QB ↔ wpE fns d (.cst u) σ g X (Ktr QB):=t_e rfl
theorem mi_  : wpT fns d (.cmp cp a b) σ g X QB ↔ wpE fns d (.cmp cp a b) σ g X (Ktr QB):=t_e rfl
theorem pG_  : wpT fns d (.chain cp cq a b c) σ g X QB ↔ wpE fns d (.chain cp cq a b c) σ g X (Ktr QB):=t_e rfl
theorem rg_  : wpT fns d (.call f es) σ g X QB ↔ wpE fns d (.call f es) σ g X (Ktr QB):=t_e rfl
theorem cm_  : wpT fns d (.bi bb es) σ g X QB ↔ wpE fns d (.bi bb es) σ g X (Ktr QB):=t_e rfl
theorem oK_  : wpT fns d (.isi a ty) σ g X QB ↔ wpE fns d (.isi a ty) σ g X (Ktr QB):=t_e rfl
theorem fm_  : wpT fns d (.idx a b) σ g X QB ↔ wpE fns d (.idx a b) σ g X (Ktr QB):=t_e rfl
theorem hS_  : wpT fns d (.bin op a b) σ g X QB ↔ wpE fns d (.bin op a b) σ g X (Ktr QB):=t_e rfl
theorem rl_  : wpT fns d (.meth a j tb es ks) σ g X QB ↔ wpE fns d (.meth a j tb es ks) σ g X (Ktr QB):=t_e rfl
theorem f1_  : wpT fns d (.fld a j cs) σ g X QB ↔ wpE fns d (.fld a j cs) σ g X (Ktr QB):=t_e rfl
theorem gb_  : wpT fns d (.rev a) σ g X QB ↔ wpE fns d (.rev a) σ g X (Ktr QB):=t_e rfl
theorem gq_  : wpT fns d (.slc a lo hi) σ g X QB ↔ wpE fns d (.slc a lo hi) σ g X (Ktr QB):=t_e rfl
theorem hb_  : wpT fns d (.tup es) σ g X QB ↔ wpE fns d (.tup es) σ g X (Ktr QB):=t_e rfl
theorem iO_  : wpT fns d (.lst es) σ g X QB ↔ wpE fns d (.lst es) σ g X (Ktr QB):=t_e rfl
theorem iW_  : wpT fns d (.dgt o a b) σ g X QB ↔ wpE fns d (.dgt o a b) σ g X (Ktr QB):=t_e rfl
theorem lR_{fns:List Fn}{d m:Nat}{X:XP}{σ:Su}{g:G}{fr:List Nat}{gs:List (Tg×E×List E)}{e:E}{QB:Bool->G->Prop}:wpT fns d (.comp m fr gs e) σ g X QB ↔ wpE fns d (.comp m fr gs e) σ g X (Ktr QB):=t_e rfl
noncomputable def Kac(fns:List Fn)(d:Nat)(es:List E)(σ:Su)(X:XP)(QB:Bool->G->Prop)(z:Bool)(g:G):Prop:=bh z (lk (wpA fns d es σ g X QB)) (lk (QB false g))
theorem gR_  : Kac fns d es σ X QB z g=(bh z (lk (wpA fns d es σ g X QB)) (lk (QB false g))):=propext Iff.rfl
theorem rA_  : wpA fns d (c :: es) σ g X QB ↔ wpT fns d c σ g X (Kac fns d es σ X QB):=j4_
noncomputable def cW_(Q:Iter->G->Prop)(x:U)(g:G):Prop:=oh (match x with | .int i=>some i | _=>none) <| lk λj=>bh (zv_ j) (lk (Q (.rng 0 j.toNat) g)) (lk False)
theorem my_{Q:Iter->G->Prop}{j:Int}{g:G}:cW_ Q (.int j) g=bh (zv_ j) (lk (Q (.rng 0 j.toNat) g)) (lk False):=propext Iff.rfl
theorem qc_  : wpI fns d (.rng1 a) σ g X QI ↔ wpE fns d a σ g X (cW_ QI):=g7_
noncomputable def dw_(u:U)(Q:Iter->G->Prop)(w:U)(g:G):Prop:=oh (match u with | .int i=>some i | _=>none) <| lk λi=>oh (match w with | .int i=>some i | _=>none) <| lk λj=>bh (zv_ i && zv_ j) (lk (Q (.rng i (j - i).toNat) g)) (lk False)
theorem oX_{Q:Iter->G->Prop}{i j:Int}{g:G}:dw_ (.int i) Q (.int j) g=bh (zv_ i && zv_ j) (lk (Q (.rng i (j - i).toNat) g)) (lk False):=propext Iff.rfl
noncomputable def c2_(fns:List Fn)(d:Nat)(b:E)(σ:Su)(X:XP)(QI:Iter->G->Prop)(u:U)(g:G):Prop:=wpE fns d b σ g X (dw_ u QI)
theorem ng_  : c2_ fns d b σ X QI u g=(wpE fns d b σ g X (dw_ u QI)):=propext Iff.rfl
theorem r3_  : wpI fns d (.rng2 a b) σ g X QI ↔ wpE fns d a σ g X (c2_ fns d b σ X QI):=iR_
noncomputable def of_(g:G)(QI:Iter->G->Prop)(k:Nat):Prop:=QI (.enm k) g
theorem lm_  : oh (some k) (lk (of_ g QI))=(QI (.enm k) g):=propext Iff.rfl
theorem qT_  : of_ g QI k=(QI (.enm k) g):=propext Iff.rfl
noncomputable def bx_(QI:Iter->G->Prop)(u:U)(g:G):Prop:=oh (asL u g) (lk (of_ g QI))
theorem nl_  : bx_ QI u g=(oh (asL u g) (lk (of_ g QI))):=propext Iff.rfl
theorem nq_  : wpI fns d (.enm a) σ g X QI ↔ wpE fns d a σ g X (bx_ QI):=dD_
noncomputable def ef_(Q:Iter->G->Prop)(p:Iter×G):Prop:=Q p.1 p.2
theorem gY_{Q:Iter->G->Prop}{i:Iter}{g:G}:oh (some (i,g)) (lk (ef_ Q))=Q i g:=propext Iff.rfl
theorem n6_{Q:Iter->G->Prop}{i:Iter}{g:G}:ef_ Q (i,g)=Q i g:=propext Iff.rfl
noncomputable def Kit(QI:Iter->G->Prop)(u:U)(g:G):Prop:=oh (kX_ u g) (lk (ef_ QI))
theorem k3_  : Kit QI u g=(oh (kX_ u g) (lk (ef_ QI))):=propext Iff.rfl
theorem n2_  : wpI fns d (.var i) σ g X QI ↔ wpE fns d (.var i) σ g X (Kit QI):=i_e rfl
theorem r4_  : wpI fns d (.call f es) σ g X QI ↔ wpE fns d (.call f es) σ g X (Kit QI):=i_e rfl
theorem cP_  : wpI fns d (.bi bb es) σ g X QI ↔ wpE fns d (.bi bb es) σ g X (Kit QI):=i_e rfl
theorem hW_  : wpI fns d (.idx a b) σ g X QI ↔ wpE fns d (.idx a b) σ g X (Kit QI):=i_e rfl
theorem kq_  : wpI fns d (.meth a j tb es ks) σ g X QI ↔ wpE fns d (.meth a j tb es ks) σ g X (Kit QI):=i_e rfl
theorem iz_  : wpI fns d (.fld a j cs) σ g X QI ↔ wpE fns d (.fld a j cs) σ g X (Kit QI):=i_e rfl
theorem g8_  : wpI fns d (.rev a) σ g X QI ↔ wpE fns d (.rev a) σ g X (Kit QI):=i_e rfl
theorem gt_  : wpI fns d (.slc a lo hi) σ g X QI ↔ wpE fns d (.slc a lo hi) σ g X (Kit QI):=i_e rfl
theorem nv_  : wpI fns d (.tup es) σ g X QI ↔ wpE fns d (.tup es) σ g X (Kit QI):=i_e rfl
theorem gL_  : wpI fns d (.lst es) σ g X QI ↔ wpE fns d (.lst es) σ g X (Kit QI):=i_e rfl
theorem kG_{fns:List Fn}{d m:Nat}{X:XP}{σ:Su}{g:G}{fr:List Nat}{gs:List (Tg×E×List E)}{e:E}{QI:Iter->G->Prop}:wpI fns d (.comp m fr gs e) σ g X QI ↔ wpE fns d (.comp m fr gs e) σ g X (Kit QI):=i_e rfl
noncomputable def hV_(fns:List Fn)(d:Nat)(ss:List S)(X:XP)(Q:Fl->G->Prop)(f:Fl)(g:G):Prop:=fS f (lk (λσ'=>wpS fns d ss σ' g X Q)) (lk λf=>Q f g)
theorem qr_  : hV_ fns d ss X QF (.nx σ) g=(wpS fns d ss σ g X QF):=propext Iff.rfl
theorem q2_  : hV_ fns d ss X QF (.rt u) g=(QF (.rt u) g):=propext Iff.rfl
theorem m9_  : hV_ fns d ss X QF (.bk σ) g=(QF (.bk σ) g):=propext Iff.rfl
theorem m8_  : hV_ fns d ss X QF (.ct σ) g=(QF (.ct σ) g):=propext Iff.rfl
theorem rc_  : wpS fns d (s :: ss) σ g X QF ↔ wp1 fns d s σ g X (hV_ fns d ss X QF):=iX_
noncomputable def bO_(QF:Fl->G->Prop)(u:U)(g:G):Prop:=QF (.rt u) g
theorem nu_  : bO_ QF u g=(QF (.rt u) g):=propext Iff.rfl
theorem o0_  : wp1 fns d (.ret e) σ g X QF ↔ wpE fns d e σ g X (bO_ QF):=dU_
noncomputable def f4_(g:G)(QF:Fl->G->Prop)(st:Su):Prop:=QF (.nx st) g
theorem hX_  : oh (some st) (lk (f4_ g QF))=(QF (.nx st) g):=propext Iff.rfl
theorem oG_  : f4_ g QF st=(QF (.nx st) g):=propext Iff.rfl
noncomputable def Kst(t:Tg)(σ:Su)(QF:Fl->G->Prop)(u:U)(g:G):Prop:=oh (zw_ t (unl t u g) σ) (lk (f4_ g QF))
theorem ge_  : Kst t σ QF u g=(oh (zw_ t (unl t u g) σ) (lk (f4_ g QF))):=propext Iff.rfl
theorem oB_  : wp1 fns d (.set t e) σ g X QF ↔ wpE fns d e σ g X (Kst t σ QF):=gs_
noncomputable def cG_(i:Nat)(j:Nat)(u:U)(σ:Su)(QF:Fl->G->Prop)(w:U)(g:G):Prop:=bh (decide (i < σ.length) && decide (j < σ.length)) (lk (QF (.nx ((σ.set i (some u)).set j (some w))) g)) (lk False)
theorem na_  : cG_ i j u σ QF w g=(bh (decide (i < σ.length) && decide (j < σ.length)) (lk (QF (.nx ((σ.set i (some u)).set j (some w))) g)) (lk False)):=propext Iff.rfl
noncomputable def c1_(fns:List Fn)(d:Nat)(i:Nat)(j:Nat)(b:E)(σ:Su)(X:XP)(QF:Fl->G->Prop)(u:U)(g:G):Prop:=wpE fns d b σ g X (cG_ i j u σ QF)
theorem mB_  : c1_ fns d i j b σ X QF u g=(wpE fns d b σ g X (cG_ i j u σ QF)):=propext Iff.rfl
theorem nz_  : wp1 fns d (.par i j a b) σ g X QF ↔ wpE fns d a σ g X (c1_ fns d i j b σ X QF):=gj_
noncomputable def dp_(u:U)(x:U)(σ:Su)(X:XP)(QF:Fl->G->Prop)(y:U)(g:G):Prop:=hk (subAt x y u σ g) X (lk QF)
theorem ns_  : dp_ u x σ X QF y g=(hk (subAt x y u σ g) X (lk QF)):=propext Iff.rfl
noncomputable def dx_(fns:List Fn)(d:Nat)(u:U)(b:E)(σ:Su)(X:XP)(QF:Fl->G->Prop)(x:U)(g:G):Prop:=wpE fns d b σ g X (dp_ u x σ X QF)
theorem mt_  : dx_ fns d u b σ X QF x g=(wpE fns d b σ g X (dp_ u x σ X QF)):=propext Iff.rfl
noncomputable def bD_(fns:List Fn)(d:Nat)(o:E)(b:E)(σ:Su)(X:XP)(QF:Fl->G->Prop)(u:U)(g:G):Prop:=wpE fns d o σ g X (dx_ fns d u b σ X QF)
theorem mm_  : bD_ fns d o b σ X QF u g=(wpE fns d o σ g X (dx_ fns d u b σ X QF)):=propext Iff.rfl
theorem nC_  : wp1 fns d (.sub o b e) σ g X QF ↔ wpE fns d e σ g X (bD_ fns d o b σ X QF):=hY_
noncomputable def eG_(x:U)(σ:Su)(X:XP)(QF:Fl->G->Prop)(y:U)(g:G):Prop:=hk (qx_ x y σ g) X (lk QF)
theorem k0_  : eG_ x σ X QF y g=(hk (qx_ x y σ g) X (lk QF)):=propext Iff.rfl
noncomputable def bs_(fns:List Fn)(d:Nat)(b:E)(σ:Su)(X:XP)(QF:Fl->G->Prop)(x:U)(g:G):Prop:=wpE fns d b σ g X (eG_ x σ X QF)
theorem fu_  : bs_ fns d b σ X QF x g=(wpE fns d b σ g X (eG_ x σ X QF)):=propext Iff.rfl
theorem jl_  : wp1 fns d (.del o b) σ g X QF ↔ wpE fns d o σ g X (bs_ fns d b σ X QF):=iZ_
noncomputable def Kxp(σ:Su)(QF:Fl->G->Prop)(u:U)(g:G):Prop:=QF (.nx σ) g
theorem fz_  : Kxp σ QF u g=(QF (.nx σ) g):=propext Iff.rfl
theorem nX_  : wp1 fns d (.exp e) σ g X QF ↔ wpE fns d e σ g X (Kxp σ QF):=eF_
noncomputable def Kif(fns:List Fn)(d:Nat)(A:List S)(B:List S)(σ:Su)(X:XP)(QF:Fl->G->Prop)(z:Bool)(g:G):Prop:=bh z (lk (wpS fns d A σ g X QF)) (lk (wpS fns d B σ g X QF))
theorem ja_  : Kif fns d A B σ X QF z g=(bh z (lk (wpS fns d A σ g X QF)) (lk (wpS fns d B σ g X QF))):=propext Iff.rfl
theorem mg_  : wp1 fns d (.ife c A B) σ g X QF ↔ wpT fns d c σ g X (Kif fns d A B σ X QF):=ih_
noncomputable def bC_(fns:List Fn)(d:Nat)(t:Tg)(A:List S)(σ:Su)(X:XP)(QF:Fl->G->Prop)(it2:Iter)(g:G):Prop:=kF fns d t it2 0 A σ g X (lk QF)
theorem ne_  : bC_ fns d t A σ X QF it2 g=(kF fns d t it2 0 A σ g X (lk QF)):=propext Iff.rfl
theorem nN_  : wp1 fns d (.for t it A) σ g X QF ↔ wpI fns d it σ g X (bC_ fns d t A σ X QF):=fA_
noncomputable def ea_(σ:Su)(QF:Fl->G->Prop)(g2:G):Prop:=QF (.nx σ) g2
theorem fW_  : oh (some g2) (lk (ea_ σ QF))=(QF (.nx σ) g2):=propext Iff.rfl
theorem mL_  : ea_ σ QF g2=(QF (.nx σ) g2):=propext Iff.rfl
noncomputable def do_(u:U)(j:Nat)(cs:List Nat)(σ:Su)(QF:Fl->G->Prop)(x:U)(g:G):Prop:=oh (yO_ x j cs u g) (lk (ea_ σ QF))
theorem mp_  : do_ u j cs σ QF x g=(oh (yO_ x j cs u g) (lk (ea_ σ QF))):=propext Iff.rfl
noncomputable def bF_(fns:List Fn)(d:Nat)(a:E)(j:Nat)(cs:List Nat)(σ:Su)(X:XP)(QF:Fl->G->Prop)(u:U)(g:G):Prop:=wpE fns d a σ g X (do_ u j cs σ QF)
theorem nQ_  : bF_ fns d a j cs σ X QF u g=(wpE fns d a σ g X (do_ u j cs σ QF)):=propext Iff.rfl
theorem qX_  : wp1 fns d (.fset a j cs e) σ g X QF ↔ wpE fns d e σ g X (bF_ fns d a j cs σ X QF):=lb_
noncomputable def Kfn(Q:U->G->Prop)(f:Fl)(g:G):Prop:=fC f (lk λu=>Q u g)
theorem n3_{Q:U->G->Prop}{u:U}{g:G}:Kfn Q (.rt u) g=Q u g:=propext Iff.rfl
theorem mc_{Q:U->G->Prop}{σ:Su}{g:G}:Kfn Q (.nx σ) g=Q .non g:=propext Iff.rfl
theorem ze_{fns:List Fn}{d:Nat}{X:XP}{g:G}{f:Nat}{F:Fn}{us:List U}{Q:U->G->Prop}(hf:fns[f]? = some F)(hl:us.length=F.np)(h:wpS fns d F.body (us.map some++List.replicate (F.ns - us.length) none) g X (Kfn Q)):wpC fns (d+1) f us g X Q:=(n1_ hf hl).2 h
end
theorem yW_{xs:List U}{i:Nat}(h:i < xs.length):uix xs (i:Int)=xs[i]? := by
 unfold uix L2.atI L2.ixN;rw [if_pos (by omega),if_pos (by omega)]
 simp
theorem sm_{xs:List U}{i:Int}(h0:0<=i)(h:i < xs.length):uix xs i=xs[i.toNat]? := by
 have:=yW_ (xs:=xs) (i:=i.toNat) (by omega)
 rwa [Int.toNat_of_nonneg h0] at this
theorem fv_{x:U}{xs:List U}:uix (x :: xs) 0=some x:=yW_ (i:=0) (by simp)
theorem gw_{x y:U}{xs:List U}:uix (x :: y :: xs) 1=some y:=yW_ (i:=1) (by simp)
theorem hZ_{x y z:U}{xs:List U}:uix (x :: y :: z :: xs) 2=some z:=yW_ (i:=2) (by simp)
theorem ie_{x y z a:U}{xs:List U}:uix (x :: y :: z :: a :: xs) 3=some a:=yW_ (i:=3) (by simp)
theorem hA_{x y z a b:U}{xs:List U}:uix (x :: y :: z :: a :: b :: xs) 4=some b:=yW_ (i:=4) (by simp)
theorem iT_{x y z a b c:U}{xs:List U}:uix (x :: y :: z :: a :: b :: c :: xs) 5=some c:=yW_ (i:=5) (by simp)
noncomputable def small(i:Int):Prop := -u2_ < i/\i < u2_
theorem zl_{i:Int}(h : -18446744073709551616 < i)(h':i < 18446744073709551616):small i:=⟨h,h'⟩
theorem zH_{i:Int}(h:(decide (-18446744073709551616 < i) && decide (i < 18446744073709551616))=true):small i:=by simp at h;exact h
section
variable{i j:Int}{g:G}
theorem se_:op2 .add (.int i) (.int j)=some (.int (i+j)):=rfl
theorem tS_:op2 .sub (.int i) (.int j)=some (.int (i - j)):=rfl
theorem o6_(h:0 < j):op2 .mod (.int i) (.int j)=some (.int (i % j)):=by simp only [op2,opZ,if_pos h]
theorem pf_(h:0 < j)(h':j < yw_):op2 .fdiv (.int i) (.int j)=some (.int (i / j)):=by simp only [op2,opZ,if_pos h,if_pos h']
theorem ql_(h:small i):op2 .mul (.int i) (.int j)=some (.int (i*j)):=by
 obtain ⟨h1,h2⟩:=h;simp [op2,opZ,h1,h2]
theorem ph_(h:small j):op2 .mul (.int i) (.int j)=some (.int (i*j)):=by
 obtain ⟨h1,h2⟩:=h;simp [op2,opZ,h1,h2]
theorem il_:cmp2 .eq (.int i) (.int j) g=some (decide (i=j)):=by
 simp only [cmp2,ueq,yY_];congr 1
theorem hu_{a b:Bool}:cmp2 .eq (.bl a) (.bl b) g=some (a == b):=rfl
theorem fB_{a b:PySem.Str}:cmp2 .eq (.str a) (.str b) g=some (a == b):=rfl
theorem h0_{xs ys:List U}:cmp2 .eq (.tup xs) (.tup ys) g=xt_ xs ys:=rfl
theorem oO_{xs ys:List U}:xt_ (.int i :: xs) (.int j :: ys)=(xt_ xs ys).map λc=>decide (i=j) && c:=by
 simp only [xt_,yY_];cases xt_ xs ys with
 | none=>rfl
 | some c=>simp only [Option.map_some];congr 1
theorem sn_:xt_ [] []=some true:=rfl
theorem fU_:cmp2 .ne (.int i) (.int j) g=some (!decide (i=j)):=by simp only [cmp2,sF_,if_true,yY_,Option.map_some];congr 1
theorem cV_{x:U}:cmp2 .isN x .non g=some (z8_ x):=rfl
theorem gz_{x:U}:cmp2 .notN x .non g=some (!z8_ x):=rfl
theorem cin{x y:U}:cmp2 .inn x y g=match items y g with | some ys=>uin x ys | none=>(zA_ x y g).map Option.isSome:=rfl
theorem bU_{x y:U}:cmp2 .nin x y g=match items y g with | some ys=>(uin x ys).map (!·) | none=>(zA_ x y g).map λo => !o.isSome:=rfl
theorem clt:cmp2 .lt (.int i) (.int j) g=some (decide (i < j)):=rfl
theorem cle:cmp2 .le (.int i) (.int j) g=some (decide (i<=j)):=rfl
theorem cgt:cmp2 .gt (.int i) (.int j) g=some (decide (j < i)):=rfl
theorem cge:cmp2 .ge (.int i) (.int j) g=some (decide (j<=i)):=rfl
end
section
variable{fns:List Fn}{d:Nat}{X:XP}{σ:Su}{g:G}
theorem qM_{it:Iter}{t:Tg}{cs:List E}{elt:E}{Q:List U->G->Prop}{α:Type}(ys:List α)(enc:α->U)(c:α->Bool)(e:α->U)(Inv:G->Prop)
  (hn:∀ k g,Inv g->next it k g=some (ys.map enc)[k]?)
  (hs:∀ y,y∈ys->yN_ t σ=true/\oh (zw_ t (enc y) σ) (lk λσ1 => ∀ g,Inv g->wpA fns d cs σ1 g (λ_ _ _=>False) λk g=>k=c y/\bh (c y) (lk (wpE fns d elt σ1 g (λ_ _ _=>False) λv g=>v=e y/\Inv g)) (lk (Inv g)))) :
  ∀ (n i:Nat) (acc:List U) (g:G),i+n=ys.length->acc.length+n < zd_->Inv g->(∀ g,Inv g->Q (acc++((ys.drop i).filter c).map e) g)->wpM fns d it i t cs [] elt acc σ g X Q
 | 0,i,acc,g,e1,_,h,hq=>by
  rw [vf_];refine ⟨none,by rw [hn _ _ h];simp;omega,?_⟩
  have:=hq g h;rw [List.drop_eq_nil_of_le (by omega)] at this
  simpa using this
 | n+1,i,acc,g,e1,hl,h,hq=>by
  have hi:i < ys.length:=by omega
  have hd:ys.drop i=ys[i] :: ys.drop (i+1):=List.drop_eq_getElem_cons hi;obtain ⟨hf,hs1⟩:=hs ys[i] (List.getElem_mem hi);obtain ⟨σ1,hb,hw⟩:=zN_.2 hs1;rw [vf_];refine ⟨some (enc ys[i]),by rw [hn _ _ h];simp [hi],hf,σ1,hb,wp_mono (hw g h) λk g q => ?_⟩
  obtain ⟨rfl,q⟩:=q;by_cases hc:c ys[i]=true
  .rw [if_pos hc]
   rw [hc] at q;refine wp_mono q λv g ⟨ev,hg⟩=>⟨by omega,?_⟩
   subst ev;refine qM_ ys enc c e Inv hn hs n (i+1) _ g (by omega) (by simp;omega) hg λg hg => ?_
   have:=hq g hg;rw [hd,List.filter_cons_of_pos hc] at this;simpa using this
  .rw [if_neg hc]
   rw [Bool.not_eq_true] at hc;rw [hc] at q;refine qM_ ys enc c e Inv hn hs n (i+1) _ g (by omega) (by omega) q λg hg => ?_
   have:=hq g hg;rw [hd,List.filter_cons_of_neg (by simp [hc])] at this
   exact this
theorem nP_{it it2:E}{t t2:Tg}{J:Iter}{cs cs2:List E}{elt:E}{Q:List U->G->Prop}{α β:Type}(ys:List α)(enc:α->U)(zs:α->List β)(enc2:β->U)(c2:α->β->Bool)(e:α->β->U)(Inv:G->Prop)(B:Nat)
  (hn:∀ k g,Inv g->next J k g=some (ys.map enc)[k]?)
  (hs:∀ y,y∈ys->(zs y).length<=B/\yN_ t σ=true/\oh (zw_ t (enc y) σ) (lk λσ1 => ∀ g,Inv g->wpA fns d cs σ1 g (λ_ _ _=>False) λk g=>k=true/\wpI fns d it2 σ1 g (λ_ _ _=>False) λJ2 g=>Inv g/\(∀ k g,Inv g->next J2 k g=some ((zs y).map enc2)[k]?) /\
   ∀ z,z∈zs y->yN_ t2 σ1=true/\oh (zw_ t2 (enc2 z) σ1) (lk λσ2 => ∀ g,Inv g->wpA fns d cs2 σ2 g (λ_ _ _=>False) λk g=>k=c2 y z/\bh (c2 y z) (lk (wpE fns d elt σ2 g (λ_ _ _=>False) λv g=>v=e y z/\Inv g)) (lk (Inv g))))) :
  ∀ (n i:Nat) (acc:List U) (g:G),i+n=ys.length->acc.length+n*B+B < zd_->Inv g->(∀ g,Inv g->Q (acc++(ys.drop i).flatMap λy=>((zs y).filter (c2 y)).map (e y)) g)->wpM fns d J i t cs [(t2,it2,cs2)] elt acc σ g X Q
 | 0,i,acc,g,e1,_,h,hq=>by
  rw [vf_];refine ⟨none,by rw [hn _ _ h];simp;omega,?_⟩
  have:=hq g h;rw [List.drop_eq_nil_of_le (by omega)] at this
  simpa using this
 | n+1,i,acc,g,e1,hl,h,hq=>by
  have hi:i < ys.length:=by omega
  have hd:ys.drop i=ys[i] :: ys.drop (i+1):=List.drop_eq_getElem_cons hi;obtain ⟨hB,hf,hs1⟩:=hs ys[i] (List.getElem_mem hi);obtain ⟨σ1,hb,hw⟩:=zN_.2 hs1;rw [vf_];refine ⟨some (enc ys[i]),by rw [hn _ _ h];simp [hi],hf,σ1,hb,wp_mono (hw g h) λk g q => ?_⟩
  obtain ⟨rfl,q⟩:=q;rw [if_pos rfl];refine wp_mono q λJ2 g ⟨hg,hn2,hs2⟩ => ?_;have hmul:(n+1)*B=n*B+B:=Nat.succ_mul n B;refine qM_ (zs ys[i]) enc2 (c2 ys[i]) (e ys[i]) Inv hn2 hs2 (zs ys[i]).length 0 acc g (by omega) (by omega) hg λg hg => ?_
  refine nP_ (it:=it) ys enc zs enc2 c2 e Inv B hn hs n (i+1) _ g (by omega) ?_ hg λg hg => ?_
  .have:(List.map (e ys[i]) (List.filter (c2 ys[i]) (zs ys[i]))).length<=B:=by
    rw [List.length_map];exact Nat.le_trans (List.length_filter_le _ _) hB
   simp only [List.drop_zero,List.length_append];omega
  .have:=hq g hg
   rw [hd,List.flatMap_cons] at this;simpa using this
theorem s9_{it:Iter}{t:Tg}{cs:List E}{elt:E}{Q:List U->G->Prop}{α:Type}(ys:List α)(enc:α->U)(c:α->Bool)(e:α->U)(Inv:G->Prop)(L:List U)
  (hL:(ys.filter c).map e=L)
  (hn:∀ k g,Inv g->next it k g=some (ys.map enc)[k]?)
  (hs:∀ y,y∈ys->yN_ t σ=true/\oh (zw_ t (enc y) σ) (lk λσ1 => ∀ g,Inv g->wpA fns d cs σ1 g (λ_ _ _=>False) λk g=>k=c y/\bh (c y) (lk (wpE fns d elt σ1 g (λ_ _ _=>False) λv g=>v=e y/\Inv g)) (lk (Inv g))))
  (hl:ys.length < 16777000) (h0:Inv g) (hq:∀ g,Inv g->Q L g):wpM fns d it 0 t cs [] elt [] σ g X Q :=
 qM_ ys enc c e Inv hn hs ys.length 0 [] g (Nat.zero_add _) (by simpa [zd_] using hl) h0 λg hg=>by
  have:=hq g hg;rw [<-hL] at this;simpa using this
theorem gk_{it2:E}{t t2:Tg}{J:Iter}{cs cs2:List E}{elt:E}{Q:List U->G->Prop}{α β:Type}(ys:List α)(enc:α->U)(zs:α->List β)(enc2:β->U)(c2:α->β->Bool)(e:α->β->U)(Inv:G->Prop)(B:Nat)(L:List U)
  (hL:(ys.flatMap λy=>((zs y).filter (c2 y)).map (e y))=L)
  (hn:∀ k g,Inv g->next J k g=some (ys.map enc)[k]?)
  (hs:∀ y,y∈ys->(zs y).length<=B/\yN_ t σ=true/\oh (zw_ t (enc y) σ) (lk λσ1 => ∀ g,Inv g->wpA fns d cs σ1 g (λ_ _ _=>False) λk g=>k=true/\wpI fns d it2 σ1 g (λ_ _ _=>False) λJ2 g=>Inv g/\(∀ k g,Inv g->next J2 k g=some ((zs y).map enc2)[k]?) /\
   ∀ z,z∈zs y->yN_ t2 σ1=true/\oh (zw_ t2 (enc2 z) σ1) (lk λσ2 => ∀ g,Inv g->wpA fns d cs2 σ2 g (λ_ _ _=>False) λk g=>k=c2 y z/\bh (c2 y z) (lk (wpE fns d elt σ2 g (λ_ _ _=>False) λv g=>v=e y z/\Inv g)) (lk (Inv g)))))
  (hl:ys.length*B+B < 16777000) (h0:Inv g) (hq:∀ g,Inv g->Q L g):wpM fns d J 0 t cs [(t2,it2,cs2)] elt [] σ g X Q :=
 nP_ (it := .cst .non) ys enc zs enc2 c2 e Inv B hn hs ys.length 0 [] g (Nat.zero_add _) (by simpa [zd_] using hl) h0 λg hg=>by
  have:=hq g hg;rw [<-hL] at this;simpa using this
theorem kn_{it2:E}{t t2:Tg}{J:Iter}{cs cs2:List E}{rest2:List (Tg×E×List E)}{elt:E}{Q:List U->G->Prop}{α:Type}(ys:List α)(enc:α->U)(f:α->List U)(Inv:G->Prop)(B:Nat)
  (hn:∀ k g,Inv g->next J k g=some (ys.map enc)[k]?) (hB:∀ y,y∈ys->(f y).length<=B)
  (hs:∀ y,y∈ys->yN_ t σ=true/\oh (zw_ t (enc y) σ) (lk λσ1 => ∀ g acc,Inv g->acc.length+B < 16777000->wpA fns d cs σ1 g (λ_ _ _=>False) λk g=>k=true/\wpI fns d it2 σ1 g (λ_ _ _=>False) λJ2 g=>wpM fns d J2 0 t2 cs2 rest2 elt acc σ1 g (λ_ _ _=>False) λacc2 g=>acc2=acc++f y/\Inv g)) :
  ∀ (n i:Nat) (acc:List U) (g:G),i+n=ys.length->acc.length+n*B+B < 16777000->Inv g->(∀ g,Inv g->Q (acc++(ys.drop i).flatMap f) g)->wpM fns d J i t cs ((t2,it2,cs2) :: rest2) elt acc σ g X Q
 | 0,i,acc,g,e1,_,h,hq=>by
  rw [vf_];refine ⟨none,by rw [hn _ _ h];simp;omega,?_⟩
  have:=hq g h;rw [List.drop_eq_nil_of_le (by omega)] at this
  simpa using this
 | n+1,i,acc,g,e1,hl,h,hq=>by
  have hi:i < ys.length:=by omega
  have hd:ys.drop i=ys[i] :: ys.drop (i+1):=List.drop_eq_getElem_cons hi;obtain ⟨hf,hs1⟩:=hs ys[i] (List.getElem_mem hi);obtain ⟨σ1,hb,hw⟩:=zN_.2 hs1;have hmul:(n+1)*B=n*B+B:=Nat.succ_mul n B;have hBi:=hB ys[i] (List.getElem_mem hi);rw [vf_];refine ⟨some (enc ys[i]),by rw [hn _ _ h];simp [hi],hf,σ1,hb,wp_mono (hw g acc h (by omega)) λk g q => ?_⟩
  obtain ⟨rfl,q⟩:=q;rw [if_pos rfl];refine wp_mono q λJ2 g q=>wp_mono q λacc2 g q => ?_;obtain ⟨rfl,hg⟩:=q;refine kn_ ys enc f Inv B hn hB hs n (i+1) _ g (by omega) (by simp only [List.length_append];omega) hg λg hg => ?_
  have:=hq g hg;rw [hd,List.flatMap_cons] at this;simpa using this
theorem go_{it:Iter}{t:Tg}{cs:List E}{elt:E}{Q:List U->G->Prop}{α:Type}(ys:List α)(enc:α->U)(c:α->Bool)(e:α->U)(Inv:G->Prop)(acc:List U)
  (hn:∀ k g,Inv g->next it k g=some (ys.map enc)[k]?)
  (hs:∀ y,y∈ys->yN_ t σ=true/\oh (zw_ t (enc y) σ) (lk λσ1 => ∀ g,Inv g->wpA fns d cs σ1 g (λ_ _ _=>False) λk g=>k=c y/\bh (c y) (lk (wpE fns d elt σ1 g (λ_ _ _=>False) λv g=>v=e y/\Inv g)) (lk (Inv g))))
  (hl:acc.length+ys.length < 16777000) (h0:Inv g) (hq:∀ g,Inv g->Q (acc++(ys.filter c).map e) g):wpM fns d it 0 t cs [] elt acc σ g X Q :=
 qM_ ys enc c e Inv hn hs ys.length 0 acc g (Nat.zero_add _) (by simpa [zd_] using hl) h0 λg hg=>by simpa using hq g hg
theorem xH_{t:Tg}{it:Iter}{b:List S}{Q:Fl->G->Prop}(us:List U)(Inv:Nat->Su->G->Prop)
  (hn:∀ k σ g,Inv k σ g->next it k g=some us[k]?) (h0:Inv 0 σ g)
  (hs:∀ k u σ g,us[k]? = some u->Inv k σ g->oh (zw_ t u σ) (lk λσ1=>wpS fns d b σ1 g X λf g=>fL f (lk (λσ'=>Inv (k+1) σ' g)) (lk λf=>Q f g)))
  (hq:∀ σ g,Inv us.length σ g->Q (.nx σ) g):wpF fns d t it 0 b σ g X Q:=sU_ us Inv hn hs hq us.length 0 σ g (Nat.zero_add _) h0
end
theorem vQ_{α:Type}{l:List α}:(l.filter λ_=>true)=l:=List.filter_eq_self.mpr (by simp)
noncomputable abbrev tB_(g:G)(xs:List U)(Q:U->G->Prop):Prop := ∀ gs n,g.length<=n->(g++gs)[n]? = some (.lst xs)->Q (.ref n) (g++gs)
inductive Dt where
 | non | bl (b:Bool) | int (i:Int) | str (s:PySem.Str) | tup (ds:List Dt) | lst (ds:List Dt)
mutual
noncomputable def Rep(g:G):Dt->U->Prop
 | .non,u=>u=.non
 | .bl b,u=>u=.bl b
 | .int i,u=>u=.int i
 | .str s,u=>u=.str s
 | .tup ds,u => ∃ us,u=.tup us/\Reps g ds us
 | .lst ds,u => ∃ n us,u=.ref n/\g[n]? = some (.lst us)/\Reps g ds us
noncomputable def Reps(g:G):List Dt->List U->Prop
 | [],us=>us=[]
 | d :: ds,us => ∃ v vs,us=v :: vs/\Rep g d v/\Reps g ds vs
end
noncomputable def Dt.ok:Nat->Dt->Prop
 | 0,_=>False
 | n+1,.tup ds=>ds.length < 1000000 /\ ∀ D∈ds,D.ok n
 | n+1,.lst ds=>ds.length < 1000000 /\ ∀ D∈ds,D.ok n
 | _+1,_=>True
theorem Dt.ok_tup{n:Nat}{ds:List Dt}:Dt.ok (n+1) (.tup ds) ↔ ds.length < 1000000 /\ ∀ D∈ds,D.ok n:=by rw [Dt.ok]
theorem Dt.ok_lst{n:Nat}{ds:List Dt}:Dt.ok (n+1) (.lst ds) ↔ ds.length < 1000000 /\ ∀ D∈ds,D.ok n:=by rw [Dt.ok]
theorem Reps.length{g:G}:∀ {ds:List Dt} {us:List U},Reps g ds us->us.length=ds.length
 | [],_,h=>by cases h;rfl
 | _ :: ds,_,h=>by obtain ⟨v,vs,rfl,_,h2⟩:=h;simp [Reps.length h2]
theorem Reps.get{g:G}:∀ {ds:List Dt} {us:List U} {i:Nat} {D:Dt},Reps g ds us->ds[i]? = some D -> ∃ v,us[i]? = some v/\Rep g D v
 | [],_,_,_,_,e=>by simp at e
 | x :: ds,_,0,D,h,e=>by
  obtain ⟨v,vs,rfl,h1,_⟩:=h;simp at e;subst e;exact ⟨v,by simp,h1⟩
 | x :: ds,_,i+1,D,h,e=>by
  obtain ⟨v,vs,rfl,_,h2⟩:=h;obtain ⟨w,e1,e2⟩:=Reps.get (i:=i) (D:=D) h2 (by simpa using e)
  exact ⟨w,by simpa using e1,e2⟩
structure Plan where
 w:Int
 d:Int
 s:Int
noncomputable abbrev Pt:=Int×Int
noncomputable abbrev uPl(P:Plan):U := .tup [.int P.w,.int P.d,.int P.s]
noncomputable abbrev uP(p:Pt):U := .tup [.int p.1,.int p.2]
structure Plan.ok(P:Plan):Prop where
 w:P.w=1\/P.w=2\/P.w=3
 d:P.d=1\/P.d=2\/P.d=3
 s:P.s=2\/P.s=4\/P.s=8
theorem Plan.ok.sw{P:Plan}(h:P.ok):small P.w:=by rcases h.w with e | e | e <;> rw [e] <;> exact zH_ (by decide)
theorem Plan.ok.sd{P:Plan}(h:P.ok):small P.d:=by rcases h.d with e | e | e <;> rw [e] <;> exact zH_ (by decide)
theorem Plan.ok.ss{P:Plan}(h:P.ok):small P.s:=by rcases h.s with e | e | e <;> rw [e] <;> exact zH_ (by decide)
theorem Plan.ok.s0{P:Plan}(h:P.ok):0 < P.s:=by rcases h.s with e | e | e <;> rw [e] <;> decide
theorem Plan.ok.sb{P:Plan}(h:P.ok):P.s < yw_:=by rcases h.s with e | e | e <;> rw [e] <;> decide
theorem Plan.ok.ws{P:Plan}(h:P.ok):2<=P.w*P.s/\P.w*P.s<=24:=by rcases h.w with e | e | e <;> rcases h.s with f | f | f <;> rw [e,f] <;> decide
theorem Plan.ok.ds{P:Plan}(h:P.ok):2<=P.d*P.s/\P.d*P.s<=24:=by rcases h.d with e | e | e <;> rcases h.s with f | f | f <;> rw [e,f] <;> decide
noncomputable def zE_(P:Plan)(p:Pt):Bool:=decide (0<=p.1) && decide (p.1<=P.w*P.s) && decide (0<=p.2) && decide (p.2<=P.d*P.s)
noncomputable def ran(n:Int):List Int:=(List.range n.toNat).map λ(i:Nat)=>(i:Int)
theorem zD_(n:Int):(ran n).length=n.toNat:=by simp [ran]
theorem ta_{n i:Int}:i∈ran n ↔ 0<=i/\i < n:=by
 simp only [ran,List.mem_map,List.mem_range];exact ⟨λ⟨k,h,e⟩=>by omega,λ⟨h,k⟩=>⟨i.toNat,by omega,by omega⟩⟩
theorem zI_{j:Int}{k:Nat}{g:G}:next (.rng 0 j.toNat) k g=some ((ran j).map U.int)[k]? := by
 simp only [next,ran];by_cases h:k < j.toNat
 .simp [h]
 .simp [h]
theorem yp_{n:Nat}{xs:List U}{k:Nat}{g:G}(h:g[n]? = some (.lst xs)):next (.lst n) k g=some xs[k]? := by
 simp only [next,h]
noncomputable def placesM(P:Plan):List Pt:=(ran (P.w*P.s+1)).flatMap λx=>(ran (P.d*P.s+1)).map λy=>(x,y)
theorem yT_{P:Plan}{p:Pt}:p∈placesM P ↔ zE_ P p=true:=by
 obtain ⟨x,y⟩:=p;simp only [placesM,List.mem_flatMap,List.mem_map,ta_,zE_,Bool.and_eq_true,decide_eq_true_eq];constructor
 .rintro ⟨a,h1,b,h2,e⟩
  cases e;omega
 .intro h
  exact ⟨x,by omega,y,by omega,rfl⟩
theorem zQ_{α β:Type}{f:α->List β}{B:Nat}:∀ {l:List α},(∀ a∈l,(f a).length<=B)->(l.flatMap f).length<=l.length*B
 | [],_=>by simp
 | a :: l,h=>by
  rw [List.flatMap_cons,List.length_append,List.length_cons,Nat.succ_mul];have h1:=h a (by simp)
  have h2:=zQ_ (f:=f) (B:=B) (l:=l) λb hb=>h b (by simp [hb])
  omega
theorem wF_{P:Plan}(h:P.ok):(placesM P).length<=625:=by
 have h1:=h.ws;have h2:=h.ds;have:=zQ_ (f:=λx=>(ran (P.d*P.s+1)).map λy=>((x,y):Pt)) (B:=25) (l:=ran (P.w*P.s+1)) λa _=>by simp [zD_];omega
 have h3:(ran (P.w*P.s+1)).length<=25:=by rw [zD_];omega
 have h4:(ran (P.w*P.s+1)).length*25<=25*25:=Nat.mul_le_mul_right _ h3;unfold placesM;omega
theorem zf_{g gs:G}{n:Nat}{o:O}(h:g[n]? = some o):(g++gs)[n]? = some o:=by
 rw [List.getElem?_append_left (List.getElem?_eq_some_iff.mp h).1];exact h
theorem zj_{g:G}{o:O}:(g++[o])[g.length]? = some o:=by simp
theorem wh_{g gs:G}{xs:List U}{Q:U->G->Prop}(h:tB_ g xs Q)(hl:xs.length<=16777000):xs.length<=16777000/\Q (.ref (g++gs).length) (g++gs++[.lst xs]):=by
 refine ⟨hl,?_⟩;have:=h (gs++[.lst xs]) (g++gs).length (by simp) (by rw [<-List.append_assoc];exact zj_)
 rw [<-List.append_assoc] at this;exact this
noncomputable def eZ_(xs:List Int)(lo hi:Option Int):List Int:=(xs.drop (HT.sIx xs.length 0 lo)).take (HT.sIx xs.length xs.length hi - HT.sIx xs.length 0 lo)
theorem l7_(ns:List Int)(l h:Option Int):tP_ (ns.map U.int) l h=(eZ_ ns l h).map U.int:=by
 unfold tP_ eZ_;rw [List.length_map,<-List.map_drop,<-List.map_take]
noncomputable abbrev om_(c:Nat)(at_ seed:Int):O := .lst [.ref c,.int at_,.int seed]
noncomputable def Bag(g:G):Prop := ∃ (xs:List Int) (at_ seed:Int),g[1]? = some (.lst (xs.map .int))/\g[2]? = some (om_ 1 at_ seed)
structure Fr(g g':G):Prop where
 bag:Bag g'
 len:g.length<=g'.length
 get:∀ (k:Nat) (o:O),3<=k->g[k]? = some o->g'[k]? = some o
theorem Bag.app{g gs:G}(h:Bag g):Bag (g++gs):=let ⟨xs,a,s,h1,h2⟩:=h;⟨xs,a,s,zf_ h1,zf_ h2⟩
theorem Bag.len{g:G}(h:Bag g):3<=g.length:=by obtain ⟨xs,a,s,h1,h2⟩:=h;exact (List.getElem?_eq_some_iff.mp h2).1
theorem Fr.app{g gs:G}(h:Bag g):Fr g (g++gs):=⟨h.app,by simp,λk o _ e=>zf_ e⟩
theorem Fr.refl{g:G}(h:Bag g):Fr g g:=⟨h,Nat.le_refl _,λk o _ e=>e⟩
theorem Fr.trans{a b c:G}(h:Fr a b)(k:Fr b c):Fr a c:=⟨k.bag,Nat.le_trans h.len k.len,λi o hi e=>k.get i o hi (h.get i o hi e)⟩
noncomputable def pR_(xs:List Int)(at_:Int):Int:=if h:0 < xs.length then xs.getD (at_ % xs.length).toNat 0 else 0
theorem rb_{xs:List Int}{at_:Int}(h:0 < xs.length):0<=at_ % (xs.length:Int)/\at_ % (xs.length:Int) < xs.length:=⟨Int.emod_nonneg _ (by omega),Int.emod_lt_of_pos _ (by omega)⟩
theorem oq_{xs:List Int}{at_:Int}(h:0 < xs.length):uix (xs.map U.int) (at_ % xs.length)=some (.int (pR_ xs at_)):=by
 obtain ⟨h1,h2⟩:=rb_ (at_:=at_) h;rw [sm_ h1 (by simpa using h2)]
 have:(at_ % (xs.length:Int)).toNat < xs.length:=by omega
 simp [pR_,h,List.getElem?_eq_getElem this,List.getD]
theorem lv_{xs:List Int}{at_:Int}(h:0 < xs.length):L2.ixN xs.length (at_ % xs.length)=some (at_ % xs.length).toNat:=by
 obtain ⟨h1,h2⟩:=rb_ (at_:=at_) h;unfold L2.ixN;rw [if_pos h1,if_pos h2]
theorem uo_{P:Plan}{p:Pt}(h:0<=p.1/\p.1<=P.w*P.s/\0<=p.2/\p.2<=P.d*P.s):zE_ P p=true:=by
 simp only [zE_,Bool.and_eq_true,decide_eq_true_eq];omega
noncomputable def dP(p:Pt):Dt := .tup [.int p.1,.int p.2]
theorem rf_{g:G}{i:Int}:Rep g (.int i) (.int i):=by simp only [Rep]
theorem ka_{g:G}:Rep g .non .non:=by simp only [Rep]
theorem ic_{g:G}{p:Pt}:Rep g (dP p) (uP p):=by
 simp only [dP,Rep];refine ⟨_,rfl,?_⟩;simp only [Reps];exact ⟨_,_,rfl,rf_,_,_,rfl,rf_,rfl⟩
theorem ik_{n:Nat}{i:Int}:(Dt.int i).ok (n+1):=by simp [Dt.ok]
theorem hI_{n:Nat}:(Dt.non).ok (n+1):=by simp [Dt.ok]
theorem bT_{n:Nat}{p:Pt}:(dP p).ok (n+2):=by
 unfold dP;rw [Dt.ok_tup];refine ⟨by simp,λD h => ?_⟩
 simp at h;rcases h with rfl | rfl <;> exact ik_
theorem t1_:op2 .pow (.int 10) (.int 18)=some (.int 1000000000000000000):=by simp [op2,opZ]
theorem wG_{n:Nat}{xs:List U}{k:Int}{u:U}{σ:Su}{g:G}(h:g[n]? = some (.lst xs))(h0:0<=k)(h1:k < xs.length):subAt (.ref n) (.int k) u σ g=.ok (.nx σ) (g.set n (.lst (xs.set k.toNat u))):=by
 simp only [subAt,dk_,h];unfold L2.ixN;rw [if_pos h0,if_pos h1]
theorem y6_{n:Nat}{xs:List U}{y:U}{g:G}(h:g[n]? = some (.lst xs))(hl:xs.length < 16777000):xm_ n y g=.ok .non (g.set n (.lst (xs++[y]))):=by
 simp only [xm_,h];rw [if_pos (by simpa [zd_] using hl)]
theorem xR_{xs:List U}{y:U}{g:G}(hl:xs.length < 16777000):xm_ g.length y (g++[.lst xs])=.ok .non (g++[.lst (xs++[y])]):=by
 rw [y6_ zj_ hl];simp
theorem yE_{g:G}{n:Nat}{o o':O}(h:g[n]? = some o):(g.set n o')[n]? = some o':=List.getElem?_set_self (List.getElem?_eq_some_iff.mp h).1
theorem Fr.set1{g:G}(h:Bag g)(xs:List Int):Fr g (g.set 1 (.lst (xs.map U.int))):=by
 obtain ⟨ys,a,s,h1,h2⟩:=h;refine ⟨⟨xs,a,s,yE_ h1,by rw [List.getElem?_set_ne (by decide)];exact h2⟩,by simp,λk o hk e=>by rw [List.getElem?_set_ne (by omega)];exact e⟩
theorem Fr.set2{g:G}(h:Bag g)(a' s':Int):Fr g (g.set 2 (om_ 1 a' s')):=by
 obtain ⟨ys,a,s,h1,h2⟩:=h;refine ⟨⟨ys,a',s',by rw [List.getElem?_set_ne (by decide)];exact h1,yE_ h2⟩,by simp,λk o hk e=>by rw [List.getElem?_set_ne (by omega)];exact e⟩
noncomputable def stride(p:Pt):Int:=if p.1 % 4=0/\p.2 % 4=0 then 4 else if p.1 % 2=0/\p.2 % 2=0 then 2 else 1
noncomputable abbrev Pr:=Pt×Pt
noncomputable def gB_(p:Pt):Prop:=((p.1 - stride p) / (2*stride p)+(p.2 - stride p) / (2*stride p)) % 2=0
instance(p:Pt):Decidable (gB_ p):=by unfold gB_;infer_instance
noncomputable abbrev u2(q:Pr):U := .tup [uP q.1,uP q.2]
noncomputable def r7_:List Plan:=[1,2,3].flatMap λw=>[1,2,3].flatMap λd=>[2,4,8].map λs=>⟨w,d,s⟩
theorem yG_{P:Plan}(h:P.ok):P∈r7_:=by
 have m3:∀ {x a b c:Int},x=a\/x=b\/x=c->x∈[a,b,c]:=λh=>by simpa using h
 exact List.mem_flatMap.mpr ⟨P.w,m3 h.w,List.mem_flatMap.mpr ⟨P.d,m3 h.d,List.mem_map.mpr ⟨P.s,m3 h.s,rfl⟩⟩⟩
theorem hC_{k i:Int}{xs:List U}:uin (.int k) (.int i :: xs)=(uin (.int k) xs).map λc=>decide (i=k) || c:=by
 simp only [uin,ueq,yY_];cases uin (.int k) xs with
 | none=>rfl
 | some c=>simp only [Option.map_some];congr 1
theorem q4_{x:U}:uin x []=some false:=rfl
noncomputable def d2(q:Pr):Dt := .tup [dP q.1,dP q.2]
theorem uW_{α:Type}{l:List α}{f:α->U}{i:Int}(h0:0<=i)(h:i < l.length):∃ a∈l,uix (l.map f) i=some (f a):=by
 have hi:i.toNat < l.length:=by omega
 refine ⟨l[i.toNat],List.getElem_mem hi,?_⟩;rw [sm_ h0 (by simpa using h)]
 simp [hi]
noncomputable def ltP(p q:Pt):Prop:=p.1 < q.1\/(p.1=q.1/\p.2 < q.2)
instance(p q:Pt):Decidable (ltP p q):=by unfold ltP;infer_instance
theorem pc_{p q:Pt}(h:ltP p q)(k:ltP q p):False:=by unfold ltP at h k;omega
theorem lQ_{p:Pt}(h:ltP p p):False:=pc_ h h
theorem vt_(n:Int):(ran n).Pairwise (· < ·):=by
 unfold ran;rw [List.pairwise_map];exact List.Pairwise.imp (λh=>by omega) (List.pairwise_lt_range (n:=n.toNat))
theorem wZ_(P:Plan):(placesM P).Pairwise ltP:=by
 unfold placesM;rw [List.pairwise_flatMap];refine ⟨λx _ => ?_,?_⟩
 .rw [List.pairwise_map]
  exact (vt_ _).imp λh => .inr ⟨rfl,h⟩
 .refine (vt_ _).imp λ{x y} h p hp q hq => ?_
  obtain ⟨_,_,rfl⟩:=List.mem_map.mp hp;obtain ⟨_,_,rfl⟩:=List.mem_map.mp hq;exact .inl h
structure Tri where
 ax:Int
 ay:Int
 bx:Int
 bY:Int
 cx:Int
 cy:Int
deriving DecidableEq
noncomputable abbrev uT(t:Tri):U := .tup [.int t.ax,.int t.ay,.int t.bx,.int t.bY,.int t.cx,.int t.cy]
noncomputable def uO(o:Option Pt):U:=match o with
 | none => .non
 | some p=>uP p
noncomputable def zo_(i j s:Int):List Tri:=if (i+j) % 2=0 then [⟨i*s,j*s,i*s+s,j*s+s,i*s+s,j*s⟩,⟨i*s+s,j*s+s,i*s,j*s,i*s,j*s+s⟩]
 else [⟨i*s+s,j*s,i*s,j*s+s,i*s+s,j*s+s⟩,⟨i*s,j*s+s,i*s+s,j*s,i*s,j*s⟩]
theorem yk_(i j s:Int):(zo_ i j s).length=2:=by unfold zo_;split <;> rfl
noncomputable def yj_(P:Plan):List Tri:=(ran P.w).flatMap λi=>(ran P.d).flatMap λj=>zo_ i j P.s
noncomputable def z6_(t:Tri):Option Pt:=if (t.ax+t.bx) % 2=1\/(t.ay+t.bY) % 2=1 then none else some ((t.ax+t.bx) / 2,(t.ay+t.bY) / 2)
noncomputable def kr_(t:Tri)(m:Pt):List Tri:=[⟨t.ax,t.ay,t.cx,t.cy,m.1,m.2⟩,⟨t.cx,t.cy,t.bx,t.bY,m.1,m.2⟩]
noncomputable def zi_(t:Tri):List Tri:=match z6_ t with
 | none=>[]
 | some m=>kr_ t m
theorem yb_{t:Tri}{m:Pt}(h:z6_ t=some m):zi_ t=kr_ t m:=by unfold zi_;rw [h]
theorem uf_{t:Tri}(h:z6_ t=none):zi_ t=[]:=by unfold zi_;rw [h]
noncomputable def xe_:Nat->Tri->List Tri
 | 0,t=>[t]
 | n+1,t=>t :: (zi_ t).flatMap (xe_ n)
noncomputable def tO_:Nat->Tri->Bool
 | 0,t=>(zi_ t).isEmpty
 | n+1,t=>(zi_ t).all (tO_ n)
noncomputable def z7_(t:Tri):List Tri:=xe_ 7 t
theorem xG_{α β:Type}{f g:α->List β}:∀ {l:List α},(∀ x∈l,f x=g x)->l.flatMap f=l.flatMap g
 | [],_=>rfl
 | a :: l,h=>by rw [List.flatMap_cons,List.flatMap_cons,h a (by simp),xG_ λx hx=>h x (by simp [hx])]
theorem vn_:∀ (n:Nat) (t:Tri),tO_ n t=true->xe_ (n+1) t=xe_ n t
 | 0,t,h=>by
  have:zi_ t=[]:=List.isEmpty_iff.mp h;simp [xe_,this]
 | n+1,t,h=>by
  have h':=List.all_eq_true.mp h;show t :: (zi_ t).flatMap (xe_ (n+1))=t :: (zi_ t).flatMap (xe_ n);rw [xG_ λx hx=>vn_ n x (h' x hx)]
theorem v2_:∀ (n:Nat) (t:Tri),tO_ n t=true->tO_ (n+1) t=true
 | 0,t,h=>by
  have:zi_ t=[]:=List.isEmpty_iff.mp h;simp [tO_,this]
 | n+1,t,h=>List.all_eq_true.mpr λx hx=>v2_ n x (List.all_eq_true.mp h x hx)
theorem uS_{t x:Tri}(h:tO_ 7 t=true)(hx:x∈zi_ t):tO_ 6 x=true:=List.all_eq_true.mp h x hx
theorem sd_{t:Tri}(h:tO_ 7 t=true):z7_ t=t :: (zi_ t).flatMap z7_:=by
 show t :: (zi_ t).flatMap (xe_ 6)=_;rw [xG_ λx hx=>(vn_ 6 x (uS_ h hx)).symm]
 rfl
theorem rm_(t:Tri):0 < (z7_ t).length:=by show 0 < (t :: _).length;simp
noncomputable def shapesM(P:Plan):List Tri:=(yj_ P).flatMap z7_
theorem vp_:(r7_.all λP=>(yj_ P).all (tO_ 7) && decide (((shapesM P).length:Int)=P.w*P.d*(4*P.s*P.s - 2)) && decide ((shapesM P).length<=2286))=true:=by decide +kernel
theorem uF_{P:Plan}(h:P.ok){t:Tri}(ht:t∈yj_ P):tO_ 7 t=true:=by
 have:=List.all_eq_true.mp vp_ P (yG_ h);simp only [Bool.and_eq_true,List.all_eq_true] at this;exact this.1.1 t ht
theorem xP_{P:Plan}(h:P.ok):((shapesM P).length:Int)=P.w*P.d*(4*P.s*P.s - 2)/\(shapesM P).length<=2286:=by
 have:=List.all_eq_true.mp vp_ P (yG_ h);simp only [Bool.and_eq_true,decide_eq_true_eq] at this;exact ⟨this.1.2,this.2⟩
theorem xC_{P:Plan}(h:P.ok):(yj_ P).length<=18:=by
 have a:∀ i,((ran P.d).flatMap λj=>zo_ i j P.s).length<=6:=λi=>by
  have:=zQ_ (f:=λj=>zo_ i j P.s) (B:=2) (l:=ran P.d) λj _=>Nat.le_of_eq (yk_ i j P.s);have h2:(ran P.d).length<=3:=by rw [zD_];rcases h.d with e | e | e <;> rw [e] <;> decide
  omega
 have:=zQ_ (f:=λi=>(ran P.d).flatMap λj=>zo_ i j P.s) (B:=6) (l:=ran P.w) λi _=>a i;have h2:(ran P.w).length<=3:=by rw [zD_];rcases h.w with e | e | e <;> rw [e] <;> decide
 unfold yj_;omega
theorem rC_{n:Nat}{xs:List U}{y:U}{g:G}(h:g[n]? = some (.lst (xs++[y]))):w1_ n g=.ok y (g.set n (.lst xs)):=by
 simp only [w1_,h];simp
theorem qf_{n m:Nat}{xs ys:List U}{g:G}(h:g[n]? = some (.lst xs))(k:g[m]? = some (.lst ys))(hl:xs.length+ys.length < 16777000):vA_ n (.ref m) g=.ok .non (g.set n (.lst (xs++ys))):=by
 simp only [vA_,asL,h,k];rw [if_pos (by simpa [zd_] using hl)]
theorem av_{t:Tri}{g:G}:iA_ (uT t) none (some 4) g=.ok (.tup [.int t.ax,.int t.ay,.int t.bx,.int t.bY]) g:=rfl
noncomputable def dT(t:Tri):Dt := .tup [.int t.ax,.int t.ay,.int t.bx,.int t.bY,.int t.cx,.int t.cy]
theorem tT_{α β:Type}{f:α->List β}:∀ {l:List α},(∀ x∈l,0 < (f x).length)->l.length<=(l.flatMap f).length
 | [],_=>by simp
 | a :: l,h=>by
  rw [List.flatMap_cons,List.length_append,List.length_cons];have h1:=h a (by simp)
  have h2:=tT_ (l:=l) λx hx=>h x (by simp [hx])
  omega
theorem xT_{α β:Type}{f:α->List β}:∀ {l:List α},(l.reverse.flatMap f).length=(l.flatMap f).length
 | []=>rfl
 | a :: l=>by
  rw [List.reverse_cons,List.flatMap_append,List.length_append,xT_,List.flatMap_cons,List.length_append];simp;omega
theorem lT_{α:Type}{l:List α}{a:α}:(l++[a]).isEmpty=false:=by cases l <;> rfl
theorem tE_{g B gs:G}{a b:O}:(g++a :: (B++b :: gs))[g.length]? = some a:=by simp
theorem wf_{g B gs:G}{a b:O}:(g++a :: (B++b :: gs))[g.length+1+B.length]? = some b:=by
 rw [List.getElem?_append_right (by omega),show g.length+1+B.length - g.length=B.length+1 by omega,List.getElem?_cons_succ,List.getElem?_append_right (by omega)]
 simp
theorem pH_{g B gs:G}{a b c:O}:(g++a :: (B++b :: gs)).set g.length c=g++c :: (B++b :: gs):=by simp
theorem tZ_{g B gs:G}{a b c:O}:(g++a :: (B++b :: gs)).set (g.length+1+B.length) c=g++a :: (B++c :: gs):=by
 rw [List.set_append_right _ _ (by omega),show g.length+1+B.length - g.length=B.length+1 by omega,List.set_cons_succ,List.set_append_right _ _ (by omega)]
 simp
theorem uV_{g B gs hs:G}{a b:O}:g++a :: (B++b :: gs)++hs=g++a :: (B++b :: (gs++hs)):=by simp
theorem wD_(i:Int):(if i < 0 then -i else i)=(i.natAbs:Int):=by split <;> omega
noncomputable def big(i:Int):Prop := -yw_ < i/\i < yw_
theorem xA_{i j:Int}(h:big i)(k:big j):op2 .mul (.int i) (.int j)=some (.int (i*j)):=by
 obtain ⟨h1,h2⟩:=h;obtain ⟨k1,k2⟩:=k;simp [op2,opZ,h1,h2,k1,k2]
noncomputable def fdv(i j:Int):Int:=if 0 < j then i / j else i.fdiv j
theorem ty_{i j:Int}(h0:j≠0)(h:big j):op2 .fdiv (.int i) (.int j)=some (.int (fdv i j)):=by
 obtain ⟨h1,h2⟩:=h;unfold fdv;simp only [op2,opZ];by_cases h:0 < j
 .simp [h,h2]
 .simp [h,h0,h1]
noncomputable def w3_(a b:Int):Int:=if b < 0 then -(Nat.gcd a.natAbs b.natAbs:Int) else (Nat.gcd a.natAbs b.natAbs:Int)
noncomputable def lowM(a b:Int):Pt:=(fdv a (w3_ a b),fdv b (w3_ a b))
theorem np_{a b:Int}(hb:b≠0):0 < Nat.gcd a.natAbs b.natAbs/\Nat.gcd a.natAbs b.natAbs<=b.natAbs:=by
 have h:0 < b.natAbs:=by omega
 exact ⟨Nat.gcd_pos_of_pos_right _ h,Nat.le_of_dvd h (Nat.gcd_dvd_right _ _)⟩
theorem qV_{a b:Int}(hb:b≠0)(h:big b):w3_ a b≠0/\big (w3_ a b):=by
 obtain ⟨h1,h2⟩:=np_ (a:=a) hb;obtain ⟨h3,h4⟩:=h;unfold w3_ big;split <;> omega
noncomputable def mid(i:Int):Prop := -10000000000000000000000000000 < i/\i < 10000000000000000000000000000
theorem mid.big{i:Int}(h:mid i):big i:=by unfold mid at h;unfold PI.big yw_;omega
theorem v3_:∀ (n:Nat) (t:Tri),t∈xe_ n t
 | 0,t=>by simp [xe_]
 | n+1,t=>by simp [xe_]
theorem v7_:∀ (n:Nat) (r t x:Tri),tO_ n r=true->t∈xe_ n r->x∈zi_ t->x∈xe_ n r
 | 0,r,t,x,hd,ht,hx=>by
  have h0:zi_ r=[]:=List.isEmpty_iff.mp hd;have:t=r:=by simpa [xe_] using ht
  subst this;rw [h0] at hx;cases hx
 | n+1,r,t,x,hd,ht,hx=>by
  rcases List.mem_cons.mp ht with rfl | h
  .exact List.mem_cons_of_mem _ (List.mem_flatMap.mpr ⟨x,hx,v3_ n x⟩)
  .obtain ⟨y,hy,hty⟩:=List.mem_flatMap.mp h
   exact List.mem_cons_of_mem _ (List.mem_flatMap.mpr ⟨y,hy,v7_ n y t x (List.all_eq_true.mp hd y hy) hty hx⟩)
theorem u3_{P:Plan}(hP:P.ok){t x:Tri}(ht:t∈shapesM P)(hx:x∈zi_ t):x∈shapesM P:=by
 obtain ⟨r,hr,h⟩:=List.mem_flatMap.mp ht;exact List.mem_flatMap.mpr ⟨r,hr,v7_ 7 r t x (uF_ hP hr) h hx⟩
theorem tr_{P:Plan}{t:Tri}(ht:t∈yj_ P):t∈shapesM P:=List.mem_flatMap.mpr ⟨t,ht,v3_ 7 t⟩
noncomputable def ld_(t:Tri):Bool:=[t.ax,t.ay,t.bx,t.bY,t.cx,t.cy].all λi=>decide (0<=i) && decide (i < 32)
structure NT where
 a:Nat
 b:Nat
 c:Nat
 d:Nat
 e:Nat
 f:Nat
noncomputable def ub(x y z v:Nat):Bool:=Nat.ble v x || (Nat.ble v y || Nat.ble v z)
noncomputable def vX_(t:Tri):List Int:=[t.ax,t.ay,t.bx,t.bY,t.cx,t.cy]
theorem vR_{t u:Tri}(h:vX_ t=vX_ u):t=u:=by
 obtain ⟨a,b,c,d,e,f⟩:=t;obtain ⟨a',b',c',d',e',f'⟩:=u;simpa [vX_] using h
theorem uu_{t:Tri}:intsOf [.int t.ax,.int t.ay,.int t.bx,.int t.bY,.int t.cx,.int t.cy]=some (vX_ t):=rfl
theorem wA_{kvs:List (List Int×U)}{k:List Int}:(yy_ kvs k).isSome=kvs.any λkv=>decide (kv.1=k):=by
 unfold yy_
 induction kvs with
 | nil=>rfl
 | cons a r ih =>
  rw [List.find?_cons,List.any_cons];cases decide (a.1=k) with
  | true=>rfl
  | false=>simpa using ih
theorem xs_{kvs:List (List Int×U)}{k:List Int}{v:U}:(dput kvs k v).length<=kvs.length+1:=by
 unfold dput;split <;> simp
theorem yD_{n:Nat}{kvs:List (List Int×U)}{us:List U}{k:List Int}{u:U}{σ:Su}{g:G}(h:g[n]? = some (.dic kvs))(hk:intsOf us=some k)(hl:kvs.length < 16777000):subAt (.ref n) (.tup us) u σ g=.ok (.nx σ) (g.set n (.dic (dput kvs k u))):=by
 simp only [subAt,dZ_,h,hk];rw [if_pos (by simpa [zd_] using hl)]
theorem zT_{n:Nat}{kvs:List (List Int×U)}{us:List U}{k:List Int}{g:G}(h:g[n]? = some (.dic kvs))(hk:intsOf us=some k):zA_ (.tup us) (.ref n) g=some (yy_ kvs k):=by
 simp only [zA_,asD,h,keyOf,hk,Option.map_some]
noncomputable def yv_(a b:Int):List Int:=(List.range (b - a).toNat).map λ(i:Nat)=>a+(i:Int)
theorem ys_(a b:Int):(yv_ a b).length=(b - a).toNat:=by simp [yv_]
theorem vN_{a b i:Int}:i∈yv_ a b ↔ a<=i/\i < b:=by
 simp only [yv_,List.mem_map,List.mem_range];exact ⟨λ⟨k,h,e⟩=>by omega,λ⟨h,k⟩=>⟨(i - a).toNat,by omega,by omega⟩⟩
theorem xp_{a b:Int}{k:Nat}{g:G}:next (.rng a (b - a).toNat) k g=some ((yv_ a b).map U.int)[k]? := by
 simp only [next,yv_];by_cases h:k < (b - a).toNat
 .simp [h]
 .simp [h]
noncomputable abbrev lefT(t:Tri):Int:=best true t.ax [t.bx,t.cx]
noncomputable abbrev lowY(t:Tri):Int:=best true t.ay [t.bY,t.cy]
noncomputable abbrev rigT(t:Tri):Int:=best false t.ax [t.bx,t.cx]
noncomputable abbrev topT(t:Tri):Int:=best false t.ay [t.bY,t.cy]
noncomputable def yR_(t:Tri)(p:Pt):Bool:=decide (lefT t<=p.1) && decide (p.1<=rigT t) && (decide (lowY t<=p.2) && decide (p.2<=topT t))
noncomputable def w0_(ax ay bx by_:Int)(p:Pt):Int:=(bx - ax)*(p.2 - ay) - (by_ - ay)*(p.1 - ax)
noncomputable abbrev tu1(t:Tri)(p:Pt):Int:=w0_ t.ax t.ay t.bx t.bY p
noncomputable abbrev tu2(t:Tri)(p:Pt):Int:=w0_ t.bx t.bY t.cx t.cy p
noncomputable abbrev tu3(t:Tri)(p:Pt):Int:=w0_ t.cx t.cy t.ax t.ay p
noncomputable def zs_(t:Tri)(p:Pt):Bool:=yR_ t p && (decide (0<=best true (tu1 t p) [tu2 t p,tu3 t p]) || decide (best false (tu1 t p) [tu2 t p,tu3 t p]<=0))
noncomputable def zp_(t:Tri):List Pt:=(yv_ (lefT t) (rigT t+1)).flatMap λx=>((yv_ (lowY t) (topT t+1)).filter λy=>zs_ t (x,y)).map λy=>(x,y)
noncomputable def zh_(a b c:Pt):Int:=(b.1 - a.1)*(c.2 - a.2) - (c.1 - a.1)*(b.2 - a.2)
noncomputable def ptA(t:Tri):Pt:=(t.ax,t.ay)
noncomputable def ptB(t:Tri):Pt:=(t.bx,t.bY)
noncomputable def ptC(t:Tri):Pt:=(t.cx,t.cy)
noncomputable def zz_(t:Tri):Int:=if zh_ (ptA t) (ptB t) (ptC t) < 0 then -1 else 1
noncomputable def xY_(t:Tri)(p:Pt):List Int:=[zz_ t*zh_ p (ptB t) (ptC t),zz_ t*zh_ (ptA t) p (ptC t),zz_ t*zh_ (ptA t) (ptB t) p]
theorem cr3(t:Tri)(p:Pt):zh_ (ptA t) (ptB t) p=tu1 t p:=by simp only [zh_,ptA,ptB,tu1,w0_];grind
theorem cr1(t:Tri)(p:Pt):zh_ p (ptB t) (ptC t)=tu2 t p:=by simp only [zh_,ptC,ptB,tu2,w0_];grind
theorem cr2(t:Tri)(p:Pt):zh_ (ptA t) p (ptC t)=tu3 t p:=by simp only [zh_,ptC,ptA,tu3,w0_];grind
theorem cr0(t:Tri)(p:Pt):zh_ (ptA t) (ptB t) (ptC t)=tu1 t p+tu2 t p+tu3 t p:=by simp only [zh_,ptC,ptA,ptB,tu1,tu2,tu3,w0_];grind
theorem zC_{a b c x:Int}:x<=best true a [b,c] ↔ x<=a/\x<=b/\x<=c:=by
 simp only [best,List.foldl_cons,List.foldl_nil,if_true];split <;> split <;> omega
theorem zG_{a b c x:Int}:best false a [b,c]<=x ↔ a<=x/\b<=x/\c<=x:=by
 simp only [best,List.foldl_cons,List.foldl_nil,Bool.false_eq_true,if_false];split <;> split <;> omega
theorem py_(t:Tri)(p:Pt):decide (0<=best true (zz_ t*zh_ p (ptB t) (ptC t)) [zz_ t*zh_ (ptA t) p (ptC t),zz_ t*zh_ (ptA t) (ptB t) p]) =
  (decide (0<=best true (tu1 t p) [tu2 t p,tu3 t p]) || decide (best false (tu1 t p) [tu2 t p,tu3 t p]<=0)):=by
 rw [Bool.eq_iff_iff,Bool.or_eq_true,decide_eq_true_eq,decide_eq_true_eq,decide_eq_true_eq,zC_,zC_,zG_];unfold zz_;rw [cr0 t p,cr1,cr2,cr3];split <;> omega
theorem pu_(a b c:Int):∃ m,sortI [a,b,c]=[best true a [b,c],m,best false a [b,c]]:=by
 simp only [sortI,insI,best,List.foldl_cons,List.foldl_nil,if_true,Bool.false_eq_true,if_false];by_cases h1:b<=c
 .by_cases h2:a<=b
  .simp only [if_pos h1,insI,if_pos h2]
   exact ⟨b,by rw [if_neg (by omega : ¬ b < a),if_neg (by omega : ¬ c < a)];(repeat' split) <;> simp <;> omega⟩
  .by_cases h3:a<=c
   .simp only [if_pos h1,insI,if_neg h2,if_pos h3]
    exact ⟨a,by (repeat' split) <;> simp <;> omega⟩
   .simp only [if_pos h1,insI,if_neg h2,if_neg h3]
    exact ⟨c,by (repeat' split) <;> simp <;> omega⟩
 .by_cases h2:a<=c
  .simp only [if_neg h1,insI,if_pos h2]
   exact ⟨c,by (repeat' split) <;> simp <;> omega⟩
  .by_cases h3:a<=b
   .simp only [if_neg h1,insI,if_neg h2,if_pos h3]
    exact ⟨a,by (repeat' split) <;> simp <;> omega⟩
   .simp only [if_neg h1,insI,if_neg h2,if_neg h3]
    exact ⟨b,by (repeat' split) <;> simp <;> omega⟩
noncomputable def nearT(t:Tri):Prop:=(-100<=t.ax/\t.ax<=100)/\(-100<=t.ay/\t.ay<=100)/\(-100<=t.bx/\t.bx<=100)/\(-100<=t.bY/\t.bY<=100)/\(-100<=t.cx/\t.cx<=100)/\(-100<=t.cy/\t.cy<=100)
theorem nearT.box{t:Tri}(h:nearT t): -100<=lefT t/\rigT t<=100 /\ -100<=lowY t/\topT t<=100:=by
 obtain ⟨a,b,c,d,e,f⟩:=h;refine ⟨zC_.mpr (by omega),zG_.mpr (by omega),zC_.mpr (by omega),zG_.mpr (by omega)⟩
noncomputable def t8_:Int:=1000000000000000000000000000000000000
noncomputable def xx_(p:Pt):Prop:=(-t8_<=p.1/\p.1<=t8_)/\(-t8_<=p.2/\p.2<=t8_)
theorem tL_{a b:Int}(ha : -t8_<=a/\a<=t8_)(hb : -t8_<=b/\b<=t8_): -yw_ < a - b/\a - b < yw_:=by
 unfold t8_ at ha hb;unfold yw_;omega
theorem nearT.pA{t:Tri}(h:nearT t):xx_ (ptA t):=by obtain ⟨a,b,c,d,e,f⟩:=h;unfold xx_ ptA t8_;simp only [];omega
theorem nearT.pB{t:Tri}(h:nearT t):xx_ (ptB t):=by obtain ⟨a,b,c,d,e,f⟩:=h;unfold xx_ ptB t8_;simp only [];omega
theorem nearT.pC{t:Tri}(h:nearT t):xx_ (ptC t):=by obtain ⟨a,b,c,d,e,f⟩:=h;unfold xx_ ptC t8_;simp only [];omega
theorem v0_{t:Tri}(h:nearT t):(zp_ t).length<=201*201:=by
 obtain ⟨b1,b2,b3,b4⟩:=h.box;have:=zQ_ (f:=λx=>((yv_ (lowY t) (topT t+1)).filter λy=>zs_ t (x,y)).map λy=>((x,y):Pt)) (B:=201) (l:=yv_ (lefT t) (rigT t+1)) λx _=>by
  rw [List.length_map];have:=List.length_filter_le (λy=>zs_ t (x,y)) (yv_ (lowY t) (topT t+1));rw [ys_] at this;omega
 have h3:(yv_ (lefT t) (rigT t+1)).length<=201:=by rw [ys_];omega
 have h4:(yv_ (lefT t) (rigT t+1)).length*201<=201*201:=Nat.mul_le_mul_right _ h3;unfold zp_;omega
theorem kc_:(r7_.all λP=>(shapesM P).all ld_)=true:=by decide +kernel
theorem yn_{P:Plan}(h:P.ok){t:Tri}(ht:t∈shapesM P):ld_ t=true:=List.all_eq_true.mp (List.all_eq_true.mp kc_ P (yG_ h)) t ht
theorem tV_{t:Tri}(h:ld_ t=true):nearT t:=by
 simp only [ld_,List.all_cons,List.all_nil,Bool.and_true,Bool.and_eq_true,decide_eq_true_eq] at h;unfold nearT;omega
section
variable{fns:List Fn}{d:Nat}{σ:Su}{X:XP}
end
theorem t4_{k k':List Int}{v:U}:∀ {kvs:List (List Int×U)},((kvs.map λkv=>if kv.1=k then (kv.1,v) else kv).find? λkv=>decide (kv.1=k'))=(kvs.find? λkv=>decide (kv.1=k')).map λkv=>if kv.1=k then (kv.1,v) else kv
 | []=>rfl
 | a :: r=>by
  have ih:=t4_ (k:=k) (k':=k') (v:=v) (kvs:=r);rw [List.map_cons,List.find?_cons,List.find?_cons];have e:decide ((if a.1=k then (a.1,v) else a).1=k')=decide (a.1=k'):=by split <;> rfl
  rw [e];cases decide (a.1=k') with
  | true=>rfl
  | false=>exact ih
theorem zF_{kvs:List (List Int×U)}{k k':List Int}{v:U}:yy_ (dput kvs k v) k'=if k=k' then some v else yy_ kvs k':=by
 by_cases h:(kvs.any λkv=>decide (kv.1=k))=true
 .unfold dput
  rw [if_pos h];unfold yy_;rw [t4_];have hs:=wA_ (kvs:=kvs) (k:=k);rw [h] at hs;unfold yy_ at hs;cases hf:kvs.find? (λkv=>decide (kv.1=k')) with
  | none =>
   by_cases e:k=k'
   .subst e;rw [hf] at hs;simp at hs
   .rw [if_neg e];rfl
  | some kv =>
   have:=List.find?_some hf;simp only [decide_eq_true_eq] at this;by_cases e:k=k'
   .subst e;simp [this]
   .have e' : ¬ k'=k:=λz=>e z.symm
    rw [if_neg e];simp [this,e']
 .unfold dput
  rw [if_neg h];unfold yy_;rw [List.find?_append];by_cases e:k=k'
  .subst e
   have hs:=wA_ (kvs:=kvs) (k:=k);rw [Bool.not_eq_true] at h;rw [h] at hs;have hn:kvs.find? (λkv=>decide (kv.1=k))=none:=by
    unfold yy_ at hs;cases hf:kvs.find? (λkv=>decide (kv.1=k)) with
    | none=>rfl
    | some kv=>rw [hf] at hs;simp at hs
   rw [hn];simp
  .rw [if_neg e]
   cases hf:kvs.find? (λkv=>decide (kv.1=k')) with
   | none=>simp [e]
   | some kv=>simp
theorem rn_{kvs:List (List Int×U)}{k:List Int}{v:U}(h:(yy_ kvs k).isSome=true):(dput kvs k v).length=kvs.length:=by
 rw [wA_] at h;unfold dput;rw [if_pos h];simp
noncomputable def yx_(p:Pt):List Int:=[p.1,p.2]
theorem sj_{p q:Pt}(h:yx_ p=yx_ q):p=q:=by
 obtain ⟨a,b⟩:=p;obtain ⟨c,d⟩:=q;simpa [yx_] using h
theorem yI_{a b:Int}:intsOf [.int a,.int b]=some (yx_ (a,b)):=rfl
theorem us_{α:Type}(key:α->List Int)(e:α->U)(hk:∀ a,keyOf (e a)=some (key a))(v:U):∀ (ts:List α) (kvs:List (List Int×U)),∃ kvs',dfold (ts.map λt => .tup [e t,v]) kvs=some kvs'/\kvs'.length<=kvs.length+ts.length /\ ∀ k,yy_ kvs' k=if k∈ts.map key then some v else yy_ kvs k
 | [],kvs=>⟨kvs,rfl,by simp,λk=>by simp⟩
 | t :: ts,kvs=>by
  obtain ⟨kvs',h1,h2,h3⟩:=us_ key e hk v ts (dput kvs (key t) v);refine ⟨kvs',?_,?_,λk => ?_⟩
  .rw [List.map_cons]
   show (su_ kvs (.tup [e t,v])).bind _=_;simp only [su_,hk,Option.map_some,Option.bind_some];exact h1
  .have:=xs_ (kvs:=kvs) (k:=key t) (v:=v)
   rw [List.length_cons];omega
  .rw [h3,zF_]
   by_cases e1:k∈ts.map key
   .rw [if_pos e1,if_pos (by rw [List.map_cons];exact List.mem_cons_of_mem _ e1)]
   .rw [if_neg e1]
    by_cases e2:key t=k
    .subst e2;rw [if_pos rfl,if_pos (by simp)]
    .rw [if_neg e2,if_neg]
     rw [List.map_cons,List.mem_cons];exact λz=>z.elim (λz=>e2 z.symm) e1
noncomputable def enL(xs:List U):List U:=(List.range xs.length).map λ(i:Nat) => .tup [.int (i:Int),(xs[i]?).getD .non]
theorem tj_{xs:List U}{k:Nat}:(enL xs)[k]? = (xs[k]?).map λu => .tup [.int k,u]:=by
 unfold enL;by_cases h:k < xs.length
 .simp [h]
 .simp [h]
theorem pa_{xs:List U}:(enL xs).length=xs.length:=by simp [enL]
theorem tH_{id k:Nat}{g:G}{xs:List U}(h:g[id]? = some (.lst xs)):next (.enm id) k g=some (enL xs)[k]? := by
 simp only [next,h,tj_]
theorem vW_{u:U}{kvs:List (List Int×U)}{us:List U}{k:List Int}{g:G}(h:asD u g=some kvs)(hk:intsOf us=some k):zA_ (.tup us) u g=some (yy_ kvs k):=by
 simp only [zA_,h,keyOf,hk,Option.map_some]
noncomputable def wholeM(t:Tri):Int:=(t.bx - t.ax)*(t.cy - t.ay) - (t.bY - t.ay)*(t.cx - t.ax)
noncomputable def to_(t:Tri)(a b c:Int):Int:=(b - a)*(t.cy - t.ay) - (c - a)*(t.bY - t.ay)
noncomputable def ws_(t:Tri)(a b c:Int):Int:=(c - a)*(t.bx - t.ax) - (b - a)*(t.cx - t.ax)
noncomputable def sY_(t:Tri)(a b c:Int):Int:=a*wholeM t - to_ t a b c*t.ax - ws_ t a b c*t.ay
noncomputable abbrev Ht:=Pt->Int
noncomputable abbrev riH(H:Ht)(t:Tri):Int:=to_ t (H (ptA t)) (H (ptB t)) (H (ptC t))
noncomputable abbrev clH(H:Ht)(t:Tri):Int:=ws_ t (H (ptA t)) (H (ptB t)) (H (ptC t))
noncomputable abbrev baH(H:Ht)(t:Tri):Int:=sY_ t (H (ptA t)) (H (ptB t)) (H (ptC t))
noncomputable def sT_(H:Ht)(t:Tri)(p:Pt):Int:=H p*wholeM t - (riH H t*p.1+clH H t*p.2+baH H t)
noncomputable def xi_(H:Ht)(t:Tri)(p:Pt):Int:=((sT_ H t p).natAbs:Int)
noncomputable def z9_(H:Ht)(t:Tri)(a:Int×Option Pt)(p:Pt):Int×Option Pt:=if a.1 < xi_ H t p then (xi_ H t p,some p) else a
noncomputable def wx_(H:Ht)(t:Tri):Int×Option Pt:=(zp_ t).foldl (z9_ H t) (-1,none)
noncomputable def eq_(H:Ht)(t:Tri):Pt:=lowM (wx_ H t).1 ((wholeM t).natAbs:Int)
noncomputable abbrev uG(H:Ht)(t:Tri):U := .tup [uP (eq_ H t),uO (wx_ H t).2]
noncomputable def j3_(a b:Pt):Prop:=a.1*b.2 < b.1*a.2
instance{a b:Pt}:Decidable (j3_ a b):=by unfold j3_;infer_instance
structure Low(a:Pt):Prop where
 pos:0 < a.2
 cop:Nat.gcd a.1.natAbs a.2.natAbs=1
theorem uT_{t:Tri}{p:Pt}:p∈zp_ t ↔ zs_ t p=true:=by
 obtain ⟨x,y⟩:=p;unfold zp_;simp only [List.mem_flatMap,vN_,List.mem_map,List.mem_filter,Prod.mk.injEq];constructor
 .rintro ⟨a,ha,b,⟨hb,hc⟩,rfl,rfl⟩;exact hc
 .intro h
  have hb:yR_ t (x,y)=true:=by unfold zs_ at h;exact (Bool.and_eq_true_iff.mp h).1
  simp only [yR_,Bool.and_eq_true,decide_eq_true_eq] at hb;exact ⟨x,by omega,y,⟨by omega,h⟩,rfl,rfl⟩
noncomputable def inT(P:Plan)(t:Tri):Bool:=zE_ P (ptA t) && (zE_ P (ptB t) && zE_ P (ptC t))
noncomputable def whB(t:Tri):Bool:=decide (0 < (wholeM t).natAbs) && decide ((wholeM t).natAbs<=1000)
theorem kN_:(r7_.all λP=>(shapesM P).all λt=>inT P t && whB t)=true:=by decide +kernel
theorem yP_{P:Plan}(h:P.ok){t:Tri}(ht:t∈shapesM P):inT P t=true/\0 < (wholeM t).natAbs/\(wholeM t).natAbs<=1000:=by
 have:=List.all_eq_true.mp (List.all_eq_true.mp kN_ P (yG_ h)) t ht;simpa [whB] using this
theorem yi_{P:Plan}{p:Pt}:zE_ P p=true ↔ 0<=p.1/\p.1<=P.w*P.s/\0<=p.2/\p.2<=P.d*P.s:=by
 simp only [zE_,Bool.and_eq_true,decide_eq_true_eq];omega
theorem wr_{P:Plan}{t:Tri}(h:inT P t=true):zE_ P (ptA t)=true/\zE_ P (ptB t)=true/\zE_ P (ptC t)=true:=by simpa [inT] using h
theorem tR_{P:Plan}{t:Tri}(h:inT P t=true){p:Pt}(hp:p∈zp_ t):zE_ P p=true:=by
 obtain ⟨h1,h2,h3⟩:=wr_ h;rw [yi_] at *;have hb:yR_ t p=true:=by have:=uT_.mp hp;unfold zs_ at this;exact (Bool.and_eq_true_iff.mp this).1
 simp only [yR_,Bool.and_eq_true,decide_eq_true_eq] at hb;obtain ⟨⟨b1,b2⟩,b3,b4⟩:=hb;have m1:0<=lefT t:=(zC_ (a:=t.ax) (b:=t.bx) (c:=t.cx) (x:=0)).mpr ⟨h1.1,h2.1,h3.1⟩;have m2:rigT t<=P.w*P.s:=(zG_ (a:=t.ax) (b:=t.bx) (c:=t.cx) (x:=P.w*P.s)).mpr ⟨h1.2.1,h2.2.1,h3.2.1⟩;have m3:0<=lowY t:=(zC_ (a:=t.ay) (b:=t.bY) (c:=t.cy) (x:=0)).mpr ⟨h1.2.2.1,h2.2.2.1,h3.2.2.1⟩;have m4:topT t<=P.d*P.s:=(zG_ (a:=t.ay) (b:=t.bY) (c:=t.cy) (x:=P.d*P.s)).mpr ⟨h1.2.2.2,h2.2.2.2,h3.2.2.2⟩;generalize lefT t=z1 at *;generalize rigT t=z2 at *;generalize lowY t=z3 at *;generalize topT t=z4 at *;omega
theorem qG_{t:Tri}:ptA t∈zp_ t:=by
 rw [uT_];unfold zs_ yR_;have e1:tu1 t (ptA t)=0:=by simp only [tu1,w0_,ptA];grind
 have e3:tu3 t (ptA t)=0:=by simp only [tu3,w0_,ptA];grind
 rw [e1,e3];simp only [Bool.and_eq_true,Bool.or_eq_true,decide_eq_true_eq,zC_,zG_,lefT,rigT,lowY,topT,best,List.foldl_cons,List.foldl_nil,if_true,Bool.false_eq_true,if_false,ptA];omega
theorem wy_{a b:Int}{A B:Nat}(ha:a.natAbs<=A)(hb:b.natAbs<=B):(a*b).natAbs<=A*B:=by
 rw [Int.natAbs_mul];exact Nat.mul_le_mul ha hb
theorem nb_{a b:Int}{A B:Nat}(ha:a.natAbs<=A)(hb:b.natAbs<=B):(a - b).natAbs<=A+B:=by omega
theorem nd_{t:Tri}(h:ld_ t=true):t.ax.natAbs<=31/\t.ay.natAbs<=31/\t.bx.natAbs<=31/\t.bY.natAbs<=31/\t.cx.natAbs<=31/\t.cy.natAbs<=31:=by
 simp only [ld_,List.all_cons,List.all_nil,Bool.and_true,Bool.and_eq_true,decide_eq_true_eq] at h;omega
noncomputable def hiH(P:Plan)(H:Ht):Prop := ∀ p,zE_ P p=true -> -1000<=H p/\H p<=1000
end
end PI
namespace Lk40
noncomputable section
open PI
local macro_rules | `(tactic| simp? [$xs,*] $[$l:location]?) => do
  let a ← ("hm_ ox_ nU_ jV_ d4_ br_ vT_ iG_ iV_ fh_ bq_ bj_ ru_ rR_ pi_ rS_ bm_ k_E cQ_ c7_ ig_ fl_ qA_ rN_ pb_ ix_ bh_ q5_ qn_ h1_ oP_ nK_ mC_ qs_ nk_ i8_ ju_ bd_ fD_ nJ_ ij_ me_ fI_ ms_ k1_ n0_ jn_ ml_ ni_ mj_ nh_ iu_ n4_ no_ o5_ jX_ rx_ md_ j0_ rq_ nc_ o3_ jy_ mK_ mS_ mU_ n5_ oE_ mv_ oV_ nx_ oT_ oL_ mD_ gQ_ o7_ oz_ nG_ iC_ nw_ nZ_ mG_ gf_ iD_ bf_ oI_ jw_ bG_ qW_ fC_ fS_ fN_ jj_ mq_ jJ_ nL_ nB_ mi_ rg_ oK_ rl_ gR_ rA_ my_ qc_ oX_ ng_ r3_ qT_ nl_ nq_ n6_ k3_ n2_ r4_ nv_ qr_ q2_ rc_ nu_ o0_ oG_ ge_ oB_ na_ mB_ nz_ ns_ mt_ mm_ nC_ fz_ nX_ ja_ mg_ ne_ nN_ mL_ mp_ nQ_ qX_ n3_ mc_ jH_ nW_ jt_ gl_ h4_ hB_ hF_ iJ_ nE_ n9_ mT_ mE_ nY_ mR_ mb_ mx_ oF_ mz_ nT_ nn_ nO_ oS_ oM_ oy_ oC_ jv_ hx_ jz_ fw_ j1_ hR_ mu_ i7_ hr_ gm_ rj_ j9_ bt_ fZ_ gr_ fn_ hM_ hc_ fx_ mQ_ js_ oA_ qh_ mF_ nM_ cU_ iK_ jD_ hy_ iv_ nA_ oW_ ma_ mk_ gW_ oU_ mN_ gn_ i1_ gF_ iH_ gH_ jY_ hN_".splitOn " ").toArray.mapM λs => `(Lean.Parser.Tactic.simpLemma| ↓$(Lean.mkIdent s.toName):ident)
  let b ← ("perm pick yz_ Option.bind_some uU_ y4_ yO_ kU_ List.lookup_cons List.lookup_nil Nat.reduceBEq List.contains_cons List.contains_nil ux_ List.getElem?_nil List.getElem?_cons_zero List.getElem?_cons_succ List.length_cons List.length_nil List.set_cons_zero List.set_cons_succ List.map_cons List.map_nil List.replicate_succ List.replicate_zero List.cons_append List.nil_append Nat.zero_add Nat.reduceAdd Nat.reduceSub Nat.reduceLT Nat.reduceLeDiff Nat.reduceEqDiff Nat.lt_add_left_iff_pos unl zw_ bindL if_true if_false ite_true ite_false and_true true_and Option.getD_some se_ tS_ o6_ pf_ ql_ ph_ il_ hu_ fB_ h0_ oO_ sn_ fU_ cV_ gz_ cin bU_ hC_ q4_ Bool.or_false Bool.or_true Bool.true_or Bool.false_or clt cle cgt cge kS_ tru items kV_ kX_ asL z8_ lift bi1 pT_ m7_ uE_ alloc yN_ vO_ zd_ fv_ gw_ hZ_ ie_ hA_ iT_ vL_ pm_ Option.map_some Int.reduceLT Int.reduceLE Int.reduceNeg Int.reduceEq decide_true decide_false Bool.not_true Bool.not_false Bool.and_true Bool.true_and Bool.and_self decide_eq_true_eq eq_self".splitOn " ").toArray.mapM λs => `(Lean.Parser.Tactic.simpLemma| $(Lean.mkIdent s.toName):ident)
  let a := a ++ b
  `(tactic| simp only [$[$a:simpLemma],*, $xs,*] $[$l]?)
section
variable{d:Nat}{g:G}{X:XP}{Q:U->G->Prop}{P:Plan}{p:Pt}
theorem tf_{i:Int}(h:Q (.bl true) g):wpC fns (d+1) 0 [.int i] g X Q:=by
 refine ze_ (by rfl) (by rfl) ?_;simp only [vr_];simp? [eq_self];exact h
theorem vS_{i j s:Int}(hs:small s)(h:tB_ g ((zo_ i j s).map uT) Q):wpC fns (d+1) 2 [.int i,.int j,.int s] g X Q:=by
 refine ze_ (by rfl) (by rfl) ?_;simp only [xn_]
 simp? [hs];unfold zo_ at h;refine z4_ (λk1 => ?_) λk1 => ?_
 .have k2:(i+j) % 2=0:=by simpa using k1
  simp? [hs];rw [if_pos k2] at h;exact h _ _ (Nat.le_refl _) zj_
 .have k2 : ¬ (i+j) % 2=0:=by simpa using k1
  simp? [hs];rw [if_neg k2] at h;exact h _ _ (Nat.le_refl _) zj_
theorem kh_(hP:P.ok)(h:tB_ g ((yj_ P).map uT) Q):wpC fns (d+2) 3 [uPl P] g X Q:=by
 have hss:=hP.ss;have hl:=xC_ hP;have lw:(ran P.w).length<=3:=by rw [zD_];rcases hP.w with e | e | e <;> rw [e] <;> decide
 have ld:(ran P.d).length<=3:=by rw [zD_];rcases hP.d with e | e | e <;> rw [e] <;> decide
 have r1:zv_ P.w=true:=by rcases hP.w with e | e | e <;> rw [e] <;> exact zn_ (by decide) (by decide)
 have r2:zv_ P.d=true:=by rcases hP.d with e | e | e <;> rw [e] <;> exact zn_ (by decide) (by decide)
 have a:∀ i,((ran P.d).flatMap λj=>(zo_ i j P.s).map uT).length<=6:=λi=>by
  have:=zQ_ (f:=λj=>(zo_ i j P.s).map uT) (B:=2) (l:=ran P.d) λj _=>by rw [List.length_map,yk_];omega
  omega
 refine ze_ (by rfl) (by rfl) ?_;simp only [rr_]
 simp? [r1];refine kn_ (ran P.w) U.int (λi=>(ran P.d).flatMap λj=>(zo_ i j P.s).map uT) (λg' => ∃ gs,g'=g++gs) 8 (λk g' _=>zI_) (λi _=>Nat.le_trans (a i) (by decide)) (λi hi => ?_) _ 0 _ _ (Nat.zero_add _) (by simp only [List.length_nil];omega) ⟨[],by simp⟩ ?_
 .simp? [r2]
  rintro g' acc ⟨gs,rfl⟩ hacc;refine kn_ (ran P.d) U.int (λj=>(zo_ i j P.s).map uT) (λg' => ∃ gs,g'=g++gs) 2 (λk g' _=>zI_) (λj _=>by rw [List.length_map,yk_];omega) (λj hj => ?_) _ 0 _ _ (Nat.zero_add _) (by omega) ⟨gs,rfl⟩ ?_
  .simp? [eq_self]
   rintro g' acc ⟨gs,rfl⟩ hacc;refine vS_ hss λgs2 n hn e => ?_;simp? [e];refine go_ (zo_ i j P.s) uT (λ_=>true) uT (λg'=>g'=g++gs++gs2) acc (λk g' e'=>by rw [e',yp_ e]) (λt ht => ?_) (by rw [yk_];omega) rfl ?_
   .simp? [eq_self]
    rintro g' rfl;trivial
   .rintro g' rfl
    exact ⟨by rw [vQ_],_,List.append_assoc ..⟩
  .rintro g' ⟨gs,rfl⟩
   exact ⟨rfl,_,rfl⟩
 .rintro g' ⟨gs,rfl⟩
  have e:([]++List.flatMap (λi=>List.flatMap (λj=>(zo_ i j P.s).map uT) (ran P.d)) (List.drop 0 (ran P.w)))=(yj_ P).map uT:=by
   simp [yj_,List.map_flatMap]
  rw [e];exact wh_ h (by rw [List.length_map];omega)
theorem tD_{t:Tri}(h:Q (uO (z6_ t)) g):wpC fns (d+1) 4 [uT t] g X Q:=by
 have b2:(2:Int) < yw_:=by decide
 refine ze_ (by rfl) (by rfl) ?_;simp only [t9_]
 simp? [av_];unfold z6_ at h;refine z4_ (λk1 => ?_) λk1 => ?_
 .have k1':(t.ax+t.bx) % 2=1:=by simpa using k1
  rw [if_pos (.inl k1')] at h;simp? [eq_self];exact h
 .have k1' : ¬ (t.ax+t.bx) % 2=1:=by simpa using k1
  simp? [eq_self];refine z4_ (λk2 => ?_) λk2 => ?_
  .have k2':(t.ay+t.bY) % 2=1:=by simpa using k2
   rw [if_pos (.inr k2')] at h;simp? [eq_self];exact h
  .have k2' : ¬ (t.ay+t.bY) % 2=1:=by simpa using k2
   rw [if_neg (by omega)] at h
   simp? [b2];exact h
theorem p6_{t:Tri}{m:Pt}(hm:z6_ t=some m)(h:tB_ g ((zi_ t).map uT) Q):wpC fns (d+2) 5 [uT t] g X Q:=by
 rw [yb_ hm] at h;refine ze_ (by rfl) (by rfl) ?_;simp only [so_]
 simp? [eq_self];refine tD_ ?_;rw [hm];simp? [uO];exact h _ _ (Nat.le_refl _) zj_
theorem eE_{n:Nat}{ts:List Tri}(e:g[n]? = some (.lst (ts.map uT)))(hd:∀ t∈ts,tO_ 7 t=true)(hl:(ts.flatMap z7_).length < 16770000)(h:tB_ g ((ts.flatMap z7_).map uT) Q):wpC fns (d+3) 6 [.ref n] g X Q:=by
 refine ze_ (by rfl) (by rfl) ?_;simp only [im_]
 simp? [zf_ e];obtain ⟨B,hB⟩:∃ B:G,B=[]:=⟨_,rfl⟩;have hlen:(ts.flatMap z7_).length < 16770000:=hl;refine m3_ (λm σ g' => ∃ (T W:List Tri) (gs:G) (o:Option U),T++W.reverse.flatMap z7_=ts.flatMap z7_/\(W.flatMap z7_).length=m/\(∀ t∈W,tO_ 7 t=true)/\g'=(g ++ .lst (T.map uT) :: (B ++ .lst (W.map uT) :: gs))/\σ=[some (.ref n),some (.ref (g).length),some (.ref ((g).length+1+(List.length B))),o]) ?_ (ts.reverse.flatMap z7_).length _ _ ⟨[],ts.reverse,[],none,by simp,rfl,λt ht=>hd t (List.mem_reverse.mp ht),by simp [hB],by simp [hB]⟩
 rintro m σ g' ⟨T,W,gs,o,hT,hm,hW,rfl,rfl⟩;rcases List.eq_nil_or_concat W with hnil | ⟨W',t,rfl⟩
 .subst hnil
  have hT':T=ts.flatMap z7_:=by simpa using hT
  have g2:(g ++ .lst (T.map uT) :: (B ++ .lst [] :: gs))[(g).length+1+(List.length B)]? = some (.lst []):=wf_;simp? [g2,List.isEmpty_nil,List.length_nil,Int.natCast_zero];rw [hT'];refine h _ _ (Nat.le_refl _) tE_
 .have ht:tO_ 7 t=true:=hW t (by simp)
  have hrest:T++([t]++((zi_ t).flatMap z7_++W'.reverse.flatMap z7_))=ts.flatMap z7_:=by
   rw [<-hT];simp [sd_ ht]
  have hm':(W'.flatMap z7_).length+(1+((zi_ t).flatMap z7_).length)=m:=by
   rw [<-hm];simp only [List.concat_eq_append,List.flatMap_append,List.flatMap_cons,List.flatMap_nil,List.append_nil,List.length_append,sd_ ht,List.length_cons];omega
  have lenT:T.length+1<=(ts.flatMap z7_).length:=by rw [<-hrest];simp only [List.length_append,List.length_cons,List.length_nil];omega
  have lenW:W'.length<=(ts.flatMap z7_).length:=by
   have a1:W'.reverse.length<=(W'.reverse.flatMap z7_).length:=tT_ λx _=>rm_ x;rw [List.length_reverse] at a1;rw [<-hrest];simp only [List.length_append,List.length_cons,List.length_nil];omega
  have ne:(W'.concat t).map uT=W'.map uT++[uT t]:=by simp
  have g2:(g ++ .lst (T.map uT) :: (B ++ .lst (W'.map uT++[uT t]) :: gs))[(g).length+1+(List.length B)]? = some (.lst (W'.map uT++[uT t])):=wf_;have g3:(g ++ .lst (T.map uT) :: (B ++ .lst (W'.map uT) :: gs))[(g).length]? = some (.lst (T.map uT)):=tE_;have pop:w1_ ((g).length+1+(List.length B)) (g ++ .lst (T.map uT) :: (B ++ .lst (W'.map uT++[uT t]) :: gs))=.ok (uT t) (g ++ .lst (T.map uT) :: (B ++ .lst (W'.map uT) :: gs)):=by
   rw [rC_ g2,tZ_]
  have app:xm_ (g).length (uT t) (g ++ .lst (T.map uT) :: (B ++ .lst (W'.map uT) :: gs))=.ok .non (g ++ .lst ((T++[t]).map uT) :: (B ++ .lst (W'.map uT) :: gs)):=by
   rw [y6_ g3 (by rw [List.length_map];omega),pH_];simp
  have g4:(g ++ .lst ((T++[t]).map uT) :: (B ++ .lst (W'.map uT) :: gs))[(g).length+1+(List.length B)]? = some (.lst (W'.map uT)):=wf_;have lp:decide ((0:Int) < ((W'.map uT).length+1:Nat))=true   := by simp;try omega
  have lp2:(0:Int) < ((W'.map uT).length+1:Nat):=by omega
  rw [ne];simp? [g2,lT_,List.length_append,lp2,pop,g3,app];refine tD_ ?_;cases hmid:z6_ t with
  | none =>
   simp? [uO,z8_];exact ⟨(W'.flatMap z7_).length,by omega,T++[t],W',gs,_,by rw [<-hrest,uf_ hmid];simp,rfl,λx hx=>hW x (by simp [hx]),rfl,rfl⟩
  | some q =>
   simp? [uO,z8_,g4];refine p6_ hmid λgs2 n2 hn2 e2 => ?_;rw [uV_] at e2 ⊢;simp? [e2];rw [uV_];have g5:(g ++ .lst ((T++[t]).map uT) :: (B ++ .lst (W'.map uT) :: (gs++gs2++[.lst ((zi_ t).map uT).reverse])))[(g).length+1+(List.length B)]? = some (.lst (W'.map uT)):=wf_;have e3:(g ++ .lst ((T++[t]).map uT) :: (B ++ .lst (W'.map uT) :: (gs++gs2++[.lst ((zi_ t).map uT).reverse])))[(List.length (g ++ .lst ((T++[t]).map uT) :: (B ++ .lst (W'.map uT) :: (gs++gs2))))]? = some (.lst ((zi_ t).map uT).reverse):=by
    rw [<-uV_];exact zj_
   have hh:(zi_ t).length<=2:=by rw [yb_ hmid];simp [kr_]
   have ext:vA_ ((g).length+1+(List.length B)) (.ref (List.length (g ++ .lst ((T++[t]).map uT) :: (B ++ .lst (W'.map uT) :: (gs++gs2))))) (g ++ .lst ((T++[t]).map uT) :: (B ++ .lst (W'.map uT) :: (gs++gs2++[.lst ((zi_ t).map uT).reverse])))=.ok .non (g ++ .lst ((T++[t]).map uT) :: (B ++ .lst ((W'++(zi_ t).reverse).map uT) :: (gs++gs2++[.lst ((zi_ t).map uT).reverse]))):=by
    rw [qf_ g5 e3 (by rw [List.length_map,List.length_reverse,List.length_map];omega),tZ_]
    simp
   simp? [ext];refine ⟨((W'++(zi_ t).reverse).flatMap z7_).length,?_,T++[t],W'++(zi_ t).reverse,_,_,?_,rfl,λx hx => ?_,rfl,rfl⟩
   .rw [List.flatMap_append,List.length_append,xT_];omega
   .rw [<-hrest];simp
   .rcases List.mem_append.mp hx with hx | hx
    .exact hW x (by simp [hx])
    .exact v2_ 6 x (uS_ ht (List.mem_reverse.mp hx))
theorem pw_(hP:P.ok)(h:tB_ g ((shapesM P).map uT) Q):wpC fns (d+4) 7 [uPl P] g X Q:=by
 have hl:=(xP_ hP).2;refine ze_ (by rfl) (by rfl) ?_;simp only [tx_]
 simp? [eq_self];refine kh_ hP λgs n hn e => ?_;simp? [eq_self];refine eE_ e (λt ht=>uF_ hP ht) (by show (shapesM P).length < _;omega) λgs2 n2 hn2 e2 => ?_
 simp? [eq_self];rw [List.append_assoc] at e2 ⊢;exact h _ _ (Nat.le_trans (by simp) hn2) e2
theorem qS_{ax ay bx by_:Int}{p:Pt}(h1:small (bx - ax))(h2:small (by_ - ay))(h:Q (.int (w0_ ax ay bx by_ p)) g):wpC fns (d+1) 8 [.int ax,.int ay,.int bx,.int by_,uP p] g X Q:=by
 refine ze_ (by rfl) (by rfl) ?_;simp only [o1_]
 simp? [h1,h2];exact h
theorem ho_{t:Tri}(h:Q (.tup [.int (lefT t),.int (lowY t),.int (rigT t),.int (topT t)]) g):wpC fns (d+1) 9 [uT t] g X Q:=by
 refine ze_ (by rfl) (by rfl) ?_;simp only [fL_]
 simp? [mh_,intsOf];exact h
theorem pD_{t:Tri}(h:Q (.bl (yR_ t p)) g):wpC fns (d+2) 10 [uT t,uP p] g X Q:=by
 refine ze_ (by rfl) (by rfl) ?_;simp only [tN_]
 simp? [eq_self];refine ho_ ?_;simp? [eq_self];simp only [yR_] at h;refine z4_ (λk1 => ?_) λk1=>by simp? [*];simpa [k1] using h
 simp? [*];refine z4_ (λk2 => ?_) λk2 => ?_
 .simp? [*]
  refine z4_ (λk3 => ?_) λk3=>by simp? [*];simpa [k1,k2,k3] using h
  simp? [*];simpa [k1,k2,k3] using h
 .simp? [*];simpa [k1,k2] using h
theorem pJ_{t:Tri}(hn:nearT t)(h:∀ gs,Q (.bl (zs_ t p)) (g++gs)):wpC fns (d+3) 11 [uT t,uP p] g X Q:=by
 obtain ⟨n1,n2,n3,n4,n5,n6⟩:=hn;refine ze_ (by rfl) (by rfl) ?_;simp only [sh_]
 simp? [eq_self];refine qS_ (zl_ (by omega) (by omega)) (zl_ (by omega) (by omega)) ?_
 simp? [eq_self];refine qS_ (zl_ (by omega) (by omega)) (zl_ (by omega) (by omega)) ?_
 simp? [eq_self];refine qS_ (zl_ (by omega) (by omega)) (zl_ (by omega) (by omega)) ?_
 simp? [eq_self];refine pD_ ?_;unfold zs_ at h;have li:zu_ [.ref g.length] (g++[.lst [.int (tu1 t p),.int (tu2 t p),.int (tu3 t p)]])=some [tu1 t p,tu2 t p,tu3 t p]:=by
  simp only [zu_,zj_];rfl
 cases hb:yR_ t p with
 | false =>
  simp? [eq_self];rw [hb] at h;exact h _
 | true =>
  rw [hb] at h;simp only [tu1,tu2,tu3] at li h;simp? [mh_,intsOf,li];refine z4_ (λk1 => ?_) λk1 => ?_
  .simp? [*]
   simpa [k1] using h [.lst [.int (tu1 t p),.int (tu2 t p),.int (tu3 t p)]]
  .simp? [mh_,intsOf,li]
   simpa [k1] using h [.lst [.int (tu1 t p),.int (tu2 t p),.int (tu3 t p)]]
theorem ln_{t:Tri}(hn:nearT t)(h:tB_ g ((zp_ t).map uP) Q):wpC fns (d+4) 12 [uT t] g X Q:=by
 obtain ⟨b1,b2,b3,b4⟩:=hn.box;have hl:=v0_ hn;have k1:lefT t<=100:=by obtain ⟨a,_⟩:=hn;have:=(zC_ (x:=lefT t)).mp (Int.le_refl _);omega
 have k2:lowY t<=100:=by obtain ⟨_,a,_⟩:=hn;have:=(zC_ (x:=lowY t)).mp (Int.le_refl _);omega
 have k3 : -100<=rigT t:=by obtain ⟨a,_⟩:=hn;have:=(zG_ (x:=rigT t)).mp (Int.le_refl _);omega
 have k4 : -100<=topT t:=by obtain ⟨_,a,_⟩:=hn;have:=(zG_ (x:=topT t)).mp (Int.le_refl _);omega
 have r1:zv_ (lefT t)=true:=zn_ (by omega) (by omega)
 have r2:zv_ (rigT t+1)=true:=zn_ (by omega) (by omega)
 have r3:zv_ (lowY t)=true:=zn_ (by omega) (by omega)
 have r4:zv_ (topT t+1)=true:=zn_ (by omega) (by omega)
 refine ze_ (by rfl) (by rfl) ?_;simp only [pl_]
 simp? [eq_self];refine ho_ ?_;simp? [r1,r2];refine gk_ (yv_ (lefT t) (rigT t+1)) U.int (λ_=>yv_ (lowY t) (topT t+1)) U.int (λx y=>zs_ t (x,y)) (λx y=>uP (x,y)) (λg' => ∃ gs,g'=g++gs) 201 ((zp_ t).map uP) (by simp [zp_,List.map_flatMap,Function.comp_def]) (λk g' _=>xp_) (λx hx=>⟨by rw [ys_];omega,?_⟩) (by rw [ys_];omega) ⟨[],by simp⟩ ?_
 .simp? [r3,r4]
  rintro g' ⟨gs,rfl⟩;refine ⟨⟨gs,rfl⟩,λk g' _=>xp_,λy hy => ?_⟩;rintro g' ⟨gs,rfl⟩;refine pJ_ (p:=(x,y)) hn λgs2 => ?_;simp? [eq_self];cases hc:zs_ t (x,y) with
  | true=>simp? [eq_self];exact ⟨_,List.append_assoc ..⟩
  | false=>simp? [eq_self];exact ⟨_,List.append_assoc ..⟩
 .rintro g' ⟨gs,rfl⟩
  refine wh_ h ?_;rw [List.length_map];omega
theorem p3_{a b:Nat}(h:Q (.int (Nat.gcd a b:Nat)) g):wpC fns (d+1) 14 [.int a,.int b] g X Q:=by
 refine ze_ (by rfl) (by rfl) ?_;simp only [tw_]
 simp? [eq_self];refine m3_ (λm σ g'=>g'=g /\ ∃ x y:Nat,Nat.gcd x y=Nat.gcd a b/\y=m/\σ=[some (.int x),some (.int y)]) ?_ b _ _ ⟨rfl,a,b,rfl,rfl,rfl⟩;rintro m σ g' ⟨rfl,x,y,hg,rfl,rfl⟩;simp? [Bool.not_not];refine z4_ (λk1 => ?_) λk1 => ?_
 .have y0:0 < y:=by simp at k1;omega
  have y1:(0:Int) < y:=by omega
  simp? [y1];refine ⟨x % y,Nat.mod_lt _ y0,y,x % y,?_,rfl,?_⟩
  .rw [<-hg,Nat.gcd_comm y,<-Nat.gcd_rec,Nat.gcd_comm]
  .simp
 .have y0:y=0:=by simp at k1;omega
  subst y0;simp? [eq_self];rw [<-hg] at h;simpa using h
theorem u8_{a b:Int}(hb:b≠0)(hB:big b)(h:Q (uP (lowM a b)) g):wpC fns (d+2) 13 [.int a,.int b] g X Q:=by
 obtain ⟨g0,gB⟩:=qV_ (a:=a) hb hB;refine ze_ (by rfl) (by rfl) ?_;simp only [ra_]
 simp? [hb,wD_];refine p3_ ?_;simp? [eq_self];refine z4_ (λk1 => ?_) λk1 => ?_
 .have k2:b < 0:=by simpa using k1
  have e:(-(Nat.gcd a.natAbs b.natAbs:Int))=w3_ a b:=by unfold w3_;rw [if_pos k2]
  simp? [e,ty_ g0 gB];exact h
 .have k2 : ¬ b < 0:=by simpa using k1
  have e:((Nat.gcd a.natAbs b.natAbs:Nat):Int)=w3_ a b:=by unfold w3_;rw [if_neg k2]
  simp? [e,ty_ g0 gB];exact h
theorem vB_{u:U}{i:Int}(h1 : -1000<=i)(h2:i<=1000)(h:Q .non g):wpC fns (d+2) 15 [u,.int i] g X Q:=by
 refine ze_ (by rfl) (by rfl) ?_;simp only [xg_]
 simp? [eq_self];refine tf_ ?_;have e1:decide (i < -1000)=false:=by simpa using h1
 have e2:decide (1000 < i)=false:=by simpa using h2
 simp? [e1,e2];exact h
theorem wz_{n:Nat}{us:List U}{m:Int}(hg:g[n]? = some (.lst us))(hm:m=us.length)(h:Q .non g):wpC fns (d+1) 16 [.ref n,.int m] g X Q:=by
 subst hm;refine ze_ (by rfl) (by rfl) ?_;simp only [wq_]
 simp? [hg];exact h
theorem if_{fns:List Fn}{d:Nat}{X:XP}{σ:Su}{g:G}{Q:Bool->G->Prop}{a:E}{j:Nat}{tb:List (Nat×Nat×List (Nat ⊕ U))}{es ks:List E}:wpT fns d (.meth a j tb es ks) σ g X Q ↔ wpE fns d (.meth a j tb es ks) σ g X λx g=>oh (tru x g) <| lk λc=>Q c g:=t_e rfl
noncomputable def tY_(g:G)(n:Nat)(P:Plan)(H:Ht):Prop := ∃ ms:List Nat,g[n]? = some (.lst (ms.map U.ref))/\ms.length=(P.d*P.s+1).toNat /\ ∀ (y m:Nat),ms[y]? = some m->g[m]? = some (.lst ((ran (P.w*P.s+1)).map λx => .int (H (x,(y:Int)))))
noncomputable def s5_(P:Plan)(ed tr:Int)(hN dN doN unN gN:Nat):O := .ins 211529932 [(509789213455080,.ref hN),(232289904,uPl P),(487627477906021,.int ed),(31083624820,.int tr),(31083802852,.ref dN),(213628900,.ref doN),(3500095911797,.ref unN),(243020007,.ref gN)]
structure LandAt(g:G)(v:Nat)(P:Plan)(H:Ht)(hN gN:Nat):Prop where
 ins:∃ ed tr dN doN unN,g[v]? = some (s5_ P ed tr hN dN doN unN gN)
 hts:∃ hk,g[hN]? = some (.dic hk) /\ ∀ p,zE_ P p=true->yy_ hk (yx_ p)=some (.int (H p))
 gps:∃ gk,g[gN]? = some (.dic gk)/\gk.length<=5000/\(∀ t∈shapesM P,yy_ gk (vX_ t)=some .non\/yy_ gk (vX_ t)=some (uG H t)) /\ ∀ t,t ∉ shapesM P->yy_ gk (vX_ t)=none
 hne:hN≠gN
structure Kp(n:Nat)(g g':G):Prop where
 len:g.length<=g'.length
 get:∀ (k:Nat) (o:O),k≠n->g[k]? = some o->g'[k]? = some o
theorem Kp.refl{n:Nat}{g:G}:Kp n g g:=⟨Nat.le_refl _,λ_ _ _ e=>e⟩
theorem Kp.app{n:Nat}{g gs:G}:Kp n g (g++gs):=⟨by simp,λ_ _ _ e=>zf_ e⟩
theorem Kp.trans{n:Nat}{a b c:G}(h:Kp n a b)(k:Kp n b c):Kp n a c:=⟨Nat.le_trans h.len k.len,λi o hi e=>k.get i o hi (h.get i o hi e)⟩
theorem Kp.set{n:Nat}{g:G}{o:O}:Kp n g (g.set n o):=⟨by simp,λk o' hk e=>by rw [List.getElem?_set_ne (Ne.symm hk)];exact e⟩
theorem LandAt.app{g gs:G}{v:Nat}{P:Plan}{H:Ht}{hN gN:Nat}(h:LandAt g v P H hN gN):LandAt (g++gs) v P H hN gN:=by
 obtain ⟨⟨ed,tr,dN,doN,unN,h1⟩,⟨hk,h2,h3⟩,⟨gk,h4,h5⟩,h6⟩:=h;exact ⟨⟨ed,tr,dN,doN,unN,zf_ h1⟩,⟨hk,zf_ h2,h3⟩,⟨gk,zf_ h4,h5⟩,h6⟩
theorem LandAt.kp{g g':G}{k v:Nat}{P:Plan}{H:Ht}{hN gN:Nat}(h:LandAt g v P H hN gN)(q:Kp k g g')(k1:k≠v)(k2:k≠hN)(k3:k≠gN):LandAt g' v P H hN gN:=by
 obtain ⟨⟨ed,tr,dN,doN,unN,h1⟩,⟨hk,h2,h3⟩,⟨gk,h4,h5⟩,h6⟩:=h;exact ⟨⟨ed,tr,dN,doN,unN,q.get _ _ (Ne.symm k1) h1⟩,⟨hk,q.get _ _ (Ne.symm k2) h2,h3⟩,⟨gk,q.get _ _ (Ne.symm k3) h4,h5⟩,h6⟩
theorem LandAt.fr{g g':G}{v:Nat}{P:Plan}{H:Ht}{hN gN:Nat}(h:LandAt g v P H hN gN)(q:Fr g g')(k1:3<=v)(k2:3<=hN)(k3:3<=gN):LandAt g' v P H hN gN:=by
 obtain ⟨⟨ed,tr,dN,doN,unN,h1⟩,⟨hk,h2,h3⟩,⟨gk,h4,h5⟩,h6⟩:=h;exact ⟨⟨ed,tr,dN,doN,unN,q.get _ _ k1 h1⟩,⟨hk,q.get _ _ k2 h2,h3⟩,⟨gk,q.get _ _ k3 h4,h5⟩,h6⟩
theorem LandAt.lt{g:G}{v:Nat}{P:Plan}{H:Ht}{hN gN:Nat}(h:LandAt g v P H hN gN):v < g.length/\hN < g.length/\gN < g.length/\v≠gN:=by
 obtain ⟨⟨ed,tr,dN,doN,unN,h1⟩,⟨hk,h2,h3⟩,⟨gk,h4,h5⟩,h6⟩:=h;refine ⟨(List.getElem?_eq_some_iff.mp h1).1,(List.getElem?_eq_some_iff.mp h2).1,(List.getElem?_eq_some_iff.mp h4).1,?_⟩;rintro rfl;rw [h1] at h4;simp [s5_] at h4
theorem Bag.kp{g g':G}{k:Nat}(h:Bag g)(q:Kp k g g')(h3:3<=k):Bag g':=by
 obtain ⟨xs,a,s,h1,h2⟩:=h;exact ⟨xs,a,s,q.get _ _ (by omega) h1,q.get _ _ (by omega) h2⟩
theorem Fr.setNew{g g':G}{m:Nat}{o:O}(h:Fr g g')(h1:g.length<=m)(h2:3<=m):Fr g (g'.set m o):=by
 obtain ⟨⟨xs,a,s,b1,b2⟩,l,q⟩:=h;refine ⟨⟨xs,a,s,by rw [List.getElem?_set_ne (by omega)];exact b1,by rw [List.getElem?_set_ne (by omega)];exact b2⟩,by simpa using l,λk o' hk e => ?_⟩
 have:k < g.length:=(List.getElem?_eq_some_iff.mp e).1;rw [List.getElem?_set_ne (by omega)]
 exact q k o' hk e
theorem y7_{g gs:G}{a:O}:(g++a :: gs)[g.length]? = some a:=by simp
theorem tU_{g gs:G}{a b:O}:(g++a :: gs).set g.length b=g++b :: gs:=by simp
theorem qO_{n:Int}{k:Nat}{x:Int}(h:(ran n)[k]? = some x):x=k/\(k:Int) < n:=by
 have hk:k < (ran n).length:=(List.getElem?_eq_some_iff.mp h).1;rw [zD_] at hk;simp only [ran,List.getElem?_map,List.getElem?_range hk,Option.map_some,Option.some.injEq] at h;omega
theorem zO_{u:U}{g gs:G}{kvs:List (List Int×U)}(h:asD u g=some kvs):asD u (g++gs)=some kvs:=by
 cases u with
 | ref n =>
  simp only [asD] at h ⊢;cases e:g[n]? with
  | none=>rw [e] at h;cases h
  | some o=>rw [zf_ e];rw [e] at h;exact h
 | _=>exact h
theorem th_{n:Nat}{H:Ht}(hP:P.ok)(hR:tY_ g n P H)(hH:hiH P H)(h:∀ (kvs:List (List Int×U)),(∀ p,zE_ P p=true->yy_ kvs (yx_ p)=some (.int (H p)))->Q (.ref g.length) (g++[.dic kvs])):wpC fns (d+3) 17 [uPl P,.ref n] g X Q:=by
 obtain ⟨ms,e1,e2,e3⟩:=hR;have s1:=hP.ss;have hws:=hP.ws;have hds:=hP.ds;refine ze_ (by rfl) (by rfl) ?_;simp only [wO_]
 simp? [s1];refine wz_ e1 (by rw [List.length_map];omega) ?_
 simp? [e1];refine xH_ (ms.map U.ref) (λk σ g'=>g=g' /\ ∃ o,σ=[some (uPl P),some (.ref n),some (.int P.w),some (.int P.d),some (.int P.s),o,none,none,none,none]) (λk σ g' hI=>by rw [<-hI.1];exact yp_ e1) ⟨rfl,_,rfl⟩ (λk u σ g' hk hI => ?_) (λσ g' hI => ?_)
 .obtain ⟨rfl,o,rfl⟩:=hI
  simp only [List.getElem?_map,Option.map_eq_some_iff] at hk;obtain ⟨m,hm,rfl⟩:=hk;simp? [s1];refine wz_ (e3 k m hm) (by rw [List.length_map,zD_];omega) ?_
  simp? [eq_self];exact ⟨_,rfl⟩
 .obtain ⟨rfl,o,rfl⟩:=hI
  simp? [zf_ e1];refine xH_ (enL (ms.map U.ref)) (λk σ g' => ∃ (kvs:List (List Int×U)) (o1 o2 o3 o4:Option U),g'=g++[.dic kvs]/\kvs.length<=k*25/\(∀ p:Pt,0<=p.1->p.1<=P.w*P.s->0<=p.2->p.2 < k->yy_ kvs (yx_ p)=some (.int (H p)))/\σ=[some (uPl P),some (.ref n),some (.int P.w),some (.int P.d),some (.int P.s),o1,some (.ref g.length),o2,o3,o4]) (λk σ g' hI => ?_) ⟨[],_,_,_,_,rfl,by simp,λp _ _ h1 h2=>by omega,rfl⟩ (λk u σ g' hk hI => ?_) (λσ g' hI => ?_)
  .obtain ⟨kvs,o1,o2,o3,o4,rfl,_⟩:=hI
   exact tH_ (zf_ e1)
  .obtain ⟨kvs,o1,o2,o3,o4,rfl,hl,hv,rfl⟩:=hI
   rw [tj_] at hk;simp only [List.getElem?_map,Option.map_map,Option.map_eq_some_iff,Function.comp] at hk;obtain ⟨m,hm,rfl⟩:=hk;have hkl:k < ms.length:=(List.getElem?_eq_some_iff.mp hm).1;have e4:=e3 k m hm;simp? [zf_ e4];refine xH_ (enL ((ran (P.w*P.s+1)).map λx => .int (H (x,(k:Int))))) (λj σ g' => ∃ (kvs:List (List Int×U)) (o3 o4:Option U),g'=g++[.dic kvs]/\kvs.length<=k*25+j/\(∀ p:Pt,0<=p.1->p.1<=P.w*P.s->0<=p.2->(p.2 < k\/p.2=k/\p.1 < j)->yy_ kvs (yx_ p)=some (.int (H p)))/\σ=[some (uPl P),some (.ref n),some (.int P.w),some (.int P.d),some (.int P.s),some (.ref m),some (.ref g.length),some (.int k),o3,o4]) (λj σ g' hI => ?_) ⟨kvs,_,_,rfl,by omega,λp h1 h2 h3 h4=>hv p h1 h2 h3 (by omega),rfl⟩ (λj u σ g' hj hI => ?_) (λσ g' hI => ?_)
   .obtain ⟨kvs,o3,o4,rfl,_⟩:=hI
    exact tH_ (zf_ e4)
   .obtain ⟨kvs,o3,o4,rfl,hl,hv,rfl⟩:=hI
    rw [tj_] at hj;simp only [List.getElem?_map,Option.map_map,Option.map_eq_some_iff,Function.comp] at hj;obtain ⟨x,hx,rfl⟩:=hj;obtain ⟨rfl,hx2⟩:=qO_ hx;have hb:=hH ((j:Int),(k:Int)) (uo_ ⟨by omega,by omega,by omega,by omega⟩)
    simp? [eq_self];refine vB_ hb.1 hb.2 ?_;have sb:∀ σ,subAt (.ref g.length) (.tup [.int (j:Int),.int (k:Int)]) (.int (H ((j:Int),(k:Int)))) σ (g++[.dic kvs])=.ok (.nx σ) (g++[.dic (dput kvs (yx_ ((j:Int),(k:Int))) (.int (H ((j:Int),(k:Int)))))]):=λσ=>by
     rw [yD_ zj_ yI_ (by omega)]
     simp
    simp? [sb];refine ⟨_,_,_,rfl,Nat.le_trans xs_ (by omega),λp h1 h2 h3 h4 => ?_,rfl⟩
    rw [zF_];by_cases e:yx_ ((j:Int),(k:Int))=yx_ p
    .have:=sj_ e;subst this;simp
    .rw [if_neg e]
     refine hv p h1 h2 h3 ?_;have : ¬ (p.1=j/\p.2=k):=λz=>e (by unfold yx_;rw [z.1,z.2])
     omega
   .obtain ⟨kvs,o3,o4,rfl,hl,hv,rfl⟩:=hI
    simp? [eq_self];rw [pa_,List.length_map,zD_] at hl hv;exact ⟨kvs,_,_,_,_,rfl,by omega,λp h1 h2 h3 h4=>hv p h1 h2 h3 (by omega),rfl⟩
  .obtain ⟨kvs,o1,o2,o3,o4,rfl,hl,hv,rfl⟩:=hI
   simp? [eq_self];rw [pa_,List.length_map] at hl hv;refine h kvs λp hp => ?_;have:=yi_.mp hp;exact hv p (by omega) (by omega) (by omega) (by omega)
structure SmT(t:Tri):Prop where
 ax:small t.ax
 ay:small t.ay
 bax:small (t.bx - t.ax)
 bay:small (t.bY - t.ay)
 cax:small (t.cx - t.ax)
 cay:small (t.cy - t.ay)
theorem kx_{t:Tri}{a b c:Int}{n:Nat}(hg:g[n]? = some (.lst [.int a,.int b,.int c]))(ha:small a)(s:SmT t)(h:Q (.tup [.int (to_ t a b c),.int (ws_ t a b c),.int (sY_ t a b c),.int (wholeM t)]) g):wpC fns (d+1) 18 [uT t,.ref n] g X Q:=by
 refine ze_ (by rfl) (by rfl) ?_;simp only [r0_]
 simp? [hg,ha,s.ax,s.ay,s.bax,s.bay,s.cax,s.cay];exact h
theorem rw_(t:Tri):keyOf (uT t)=some (vX_ t):=rfl
theorem wM_{n:Nat}{H:Ht}(hP:P.ok)(hR:tY_ g n P H)(hH:hiH P H)(h:∀ (gs:G) (hN gN:Nat),g.length < hN->g.length < gN->LandAt (g++gs) g.length P H hN gN->Q .non (g++gs)):wpC fns (d+5) 19 [.ref g.length,uPl P,.ref n] (g++[.ins 211529932 []]) X Q:=by
 have hR':tY_ (g++[.ins 211529932 []]) n P H:=by
  obtain ⟨ms,e1,e2,e3⟩:=hR;exact ⟨ms,zf_ e1,e2,λy m hm=>zf_ (e3 y m hm)⟩
 refine ze_ (by rfl) (by rfl) ?_;simp only [yA_]
 simp? [eq_self];refine th_ hP hR' hH λhk hget => ?_;have l1:(g++[O.ins 211529932 []]).length=g.length+1:=by simp
 simp? [y7_,tU_,List.append_assoc,l1];refine pw_ hP λgs n2 hn2 e2 => ?_;simp? [e2];refine s9_ (shapesM P) uT (λ_=>true) (λt => .tup [uT t,.non]) (λg'=>g'=_) ((shapesM P).map λt => .tup [uT t,.non]) (by rw [vQ_]) (λk g' e=>by rw [e];exact yp_ e2) (λt ht => ?_) (by have:=(xP_ hP).2;omega) rfl ?_
 .simp? [eq_self]
  rintro g' rfl;simp? [rw_]
 .rintro g' rfl
  obtain ⟨gk,f1,f2,f3⟩:=us_ vX_ uT rw_ .non (shapesM P) [];simp? [f1,y7_,tU_,List.append_assoc];have hl:=(xP_ hP).2;refine h _ (g.length+1) _ (by omega) ?_ ⟨⟨_,_,_,_,_,y7_⟩,⟨hk,by simp,hget⟩,⟨gk,?_,by simp at f2;omega,λt ht => .inl ?_,λt ht => ?_⟩,?_⟩
  .simp only [List.length_append,List.length_cons,List.length_nil];omega
  .simp
  .rw [f3,if_pos (List.mem_map.mpr ⟨t,ht,rfl⟩)]
  .rw [f3,if_neg]
   .rfl
   .intro hm
    obtain ⟨s,hs,e⟩:=List.mem_map.mp hm;exact ht (by rw [<-vR_ e];exact hs)
  .simp only [List.length_append,List.length_cons,List.length_nil];omega
theorem uv_{v:Nat}{H:Ht}{hN gN:Nat}{t:Tri}(L:LandAt g v P H hN gN)(h:Q (.bl (decide (t∈shapesM P))) g):wpC fns (d+1) 20 [.ref v,uT t] g X Q:=by
 obtain ⟨⟨ed,tr,dN,doN,unN,h1⟩,⟨hk,h2,h3⟩,⟨gk,h4,h5,h6,h7⟩,h8⟩:=L;unfold s5_ at h1;have dl:zA_ (uT t) (.ref gN) g=some (yy_ gk (vX_ t)):=zT_ h4 uu_;have gt:(yy_ gk (vX_ t)).isSome=decide (t∈shapesM P):=by
  by_cases ht:t∈shapesM P
  .rcases h6 t ht with e | e <;> rw [e] <;> simp [ht]
  .rw [h7 t ht];simp [ht]
 refine ze_ (by rfl) (by rfl) ?_;simp only [x3_]
 simp? [h1,h4,dl,gt];exact h
theorem zW_{v:Nat}{H:Ht}{hN gN:Nat}{t:Tri}(L:LandAt g v P H hN gN)(ht:t∈shapesM P)(h:Q .non g):wpC fns (d+2) 21 [.ref v,uT t] g X Q:=by
 obtain ⟨ed,tr,dN,doN,unN,h1⟩:=L.ins;unfold s5_ at h1;refine ze_ (by rfl) (by rfl) ?_;simp only [zX_]
 simp? [h1,if_];refine uv_ L ?_;simp? [ht];exact h
theorem v1_{v:Nat}{H:Ht}{hN gN:Nat}{t:Tri}(hP:P.ok)(L:LandAt g v P H hN gN)(ht:t∈shapesM P)(h:tB_ g [.int (H (ptA t)),.int (H (ptB t)),.int (H (ptC t))] Q):wpC fns (d+3) 22 [.ref v,uT t] g X Q:=by
 obtain ⟨ed,tr,dN,doN,unN,h1⟩:=L.ins;obtain ⟨hk,h2,h3⟩:=L.hts;obtain ⟨i1,i2,i3⟩:=wr_ (yP_ hP ht).1;unfold s5_ at h1;refine ze_ (by rfl) (by rfl) ?_;simp only [x2_]
 simp? [h1];refine zW_ L ht ?_;simp? [eq_self];refine s9_ [ptA t,ptB t,ptC t] uP (λ_=>true) (λa => .int (H a)) (λg'=>g'=g) [.int (H (ptA t)),.int (H (ptB t)),.int (H (ptC t))] rfl (λk g' _=>rfl) (λa ha => ?_) (by simp) rfl ?_
 .have hi:zE_ P a=true:=by
   simp only [List.mem_cons,List.not_mem_nil,or_false] at ha;rcases ha with rfl | rfl | rfl
   .exact i1
   .exact i2
   .exact i3
  have dl:zA_ (.tup [.int a.1,.int a.2]) (.ref hN) g=some (some (.int (H a))):=by rw [zT_ h2 yI_,h3 a hi]
  simp? [eq_self];rintro g' rfl;simp? [h1,dl,id]
 .rintro g' rfl
  have:=wh_ (gs:=[]) h (by simp)
  rw [List.append_nil] at this;exact this
theorem fa_{t:Tri}(h:ld_ t=true):SmT t:=by
 have:=nd_ h;exact ⟨zl_ (by omega) (by omega),zl_ (by omega) (by omega),zl_ (by omega) (by omega),zl_ (by omega) (by omega),zl_ (by omega) (by omega),zl_ (by omega) (by omega)⟩
theorem wW_{v:Nat}{H:Ht}{hN gN:Nat}{t:Tri}(hP:P.ok)(L:LandAt g v P H hN gN)(hH:hiH P H)(ht:t∈shapesM P)(h:∀ gs,Q (.tup [.int (riH H t),.int (clH H t),.int (baH H t),.int (wholeM t)]) (g++gs)):wpC fns (d+4) 23 [.ref v,uT t] g X Q:=by
 obtain ⟨ed,tr,dN,doN,unN,h1⟩:=L.ins;obtain ⟨i1,i2,i3⟩:=wr_ (yP_ hP ht).1;have hA:=hH _ i1;unfold s5_ at h1;refine ze_ (by rfl) (by rfl) ?_;simp only [wT_]
 simp? [h1];refine v1_ hP L ht λgs n hn e => ?_;simp? [eq_self];refine kx_ e (zl_ (by omega) (by omega)) (fa_ (yn_ hP ht)) ?_
 simp? [eq_self];exact h gs
theorem wL_{v:Nat}{H:Ht}{hN gN:Nat}{t:Tri}(hP:P.ok)(L:LandAt g v P H hN gN)(hH:hiH P H)(ht:t∈shapesM P)(h:∀ gs,Q (uG H t) (g++gs)):wpC fns (d+5) 25 [.ref v,uT t] g X Q:=by
 obtain ⟨ed,tr,dN,doN,unN,h1⟩:=L.ins;obtain ⟨hk,h2,h3⟩:=L.hts;have hin:=(yP_ hP ht).1;have hw:=(yP_ hP ht).2;have hws:=hP.ws;have hds:=hP.ds;unfold s5_ at h1;refine ze_ (by rfl) (by rfl) ?_;simp only [yC_]
 simp? [h1];refine wW_ hP L hH ht λgs => ?_;simp? [eq_self];refine ln_ (tV_ (yn_ hP ht)) λgs2 n hn e => ?_;simp? [e];refine xH_ ((zp_ t).map uP) (λk σ g'=>g'=g++gs++gs2 /\ ∃ (o1 o2 o3:Option U),σ=[some (.ref v),some (uT t),some (.int (riH H t)),some (.int (clH H t)),some (.int (baH H t)),some (.int (wholeM t)),some (.int (((zp_ t).take k).foldl (z9_ H t) (-1,none)).1),some (uO (((zp_ t).take k).foldl (z9_ H t) (-1,none)).2),o1,o2,o3]) (λk σ g' hI=>by rw [hI.1];exact yp_ e) ⟨rfl,_,_,_,rfl⟩ (λk u σ g' hk' hI => ?_) (λσ g' hI => ?_)
 .obtain ⟨rfl,o1,o2,o3,rfl⟩:=hI
  simp only [List.getElem?_map,Option.map_eq_some_iff] at hk';obtain ⟨p,hp,rfl⟩:=hk';have hpi:=tR_ hin (List.mem_of_getElem? hp);have hpl:=yi_.mp hpi;have hHp:=hH p hpi;have z1:small (H p):=zl_ (by omega) (by omega)
  have z2:small p.1:=zl_ (by omega) (by omega)
  have z3:small p.2:=zl_ (by omega) (by omega)
  have g1:(g++gs++gs2)[v]? = _:=zf_ (zf_ h1);have dl:zA_ (.tup [.int p.1,.int p.2]) (.ref hN) (g++gs++gs2)=some (some (.int (H p))):=by rw [zT_ (zf_ (zf_ h2)) yI_,h3 p hpi]
  have da:(if H p*wholeM t - (riH H t*p.1+clH H t*p.2+baH H t) < 0 then -(H p*wholeM t - (riH H t*p.1+clH H t*p.2+baH H t)) else H p*wholeM t - (riH H t*p.1+clH H t*p.2+baH H t))=xi_ H t p:=wD_ _
  have et:(zp_ t).take (k+1)=(zp_ t).take k++[p]:=by rw [List.take_succ,hp];rfl
  rw [et,List.foldl_append];simp? [g1,dl,id,z1,z2,z3,da];refine z4_ (λk1 => ?_) λk1 => ?_
  .have k2:(((zp_ t).take k).foldl (z9_ H t) (-1,none)).1 < xi_ H t p:=by simpa using k1
   have er:[p].foldl (z9_ H t) (((zp_ t).take k).foldl (z9_ H t) (-1,none))=(xi_ H t p,some p):=if_pos k2;rw [er];simp? [eq_self];exact ⟨_,_,_,rfl⟩
  .have k2 : ¬ (((zp_ t).take k).foldl (z9_ H t) (-1,none)).1 < xi_ H t p:=by simpa using k1
   have er:[p].foldl (z9_ H t) (((zp_ t).take k).foldl (z9_ H t) (-1,none))=((zp_ t).take k).foldl (z9_ H t) (-1,none):=if_neg k2;rw [er];simp? [eq_self];exact ⟨_,_,_,rfl⟩
 .obtain ⟨rfl,o1,o2,o3,rfl⟩:=hI
  rw [List.length_map,List.take_length];simp? [wD_];refine u8_ (by omega) (by unfold big yw_;omega) ?_
  simp? [eq_self];rw [List.append_assoc];exact h _
theorem xL_{v:Nat}{H:Ht}{hN gN:Nat}{t:Tri}(hP:P.ok)(L:LandAt g v P H hN gN)(hH:hiH P H)(ht:t∈shapesM P)(h:∀ g',LandAt g' v P H hN gN->Kp gN g g'->Q (uG H t) g'):wpC fns (d+6) 24 [.ref v,uT t] g X Q:=by
 have L0:=L;obtain ⟨⟨ed,tr,dN,doN,unN,h1⟩,⟨hk,h2,h3⟩,⟨gk,h4,h5,h6,h7⟩,h8⟩:=L;unfold s5_ at h1;refine ze_ (by rfl) (by rfl) ?_;simp only [ve_]
 simp? [h1];refine zW_ L0 ht ?_;have hs:=h6 t ht;rcases hs with e | e
 .have dl:zA_ (uT t) (.ref gN) g=some (some .non):=by rw [zT_ h4 uu_,e]
  simp? [h1,dl,id];refine wL_ hP L0 hH ht λgs => ?_;have h1':=zf_ (gs:=gs) h1;have h4':=zf_ (gs:=gs) h4;have sb:∀ σ,subAt (.ref gN) (uT t) (uG H t) σ (g++gs)=.ok (.nx σ) ((g++gs).set gN (.dic (dput gk (vX_ t) (uG H t)))):=λσ=>yD_ h4' uu_ (by omega)
  have ne:=L0.lt.2.2.2;have i1:((g++gs).set gN (.dic (dput gk (vX_ t) (uG H t))))[v]? = (g++gs)[v]? := List.getElem?_set_ne (Ne.symm ne);rw [h1'] at i1;have i2:((g++gs).set gN (.dic (dput gk (vX_ t) (uG H t))))[gN]? = some (.dic (dput gk (vX_ t) (uG H t))):=yE_ h4';have dl2:zA_ (uT t) (.ref gN) ((g++gs).set gN (.dic (dput gk (vX_ t) (uG H t))))=some (some (uG H t)):=by rw [zT_ i2 uu_,zF_,if_pos rfl]
  simp? [h1',sb,i1,dl2,id];refine h _ ⟨⟨_,_,_,_,_,i1⟩,⟨hk,?_,h3⟩,⟨_,i2,?_,λs hs => ?_,λs hs => ?_⟩,h8⟩ (Kp.app.trans Kp.set)
  .rw [List.getElem?_set_ne (Ne.symm h8)];exact zf_ h2
  .rw [rn_ (by rw [e];rfl)];exact h5
  .rw [zF_]
   by_cases ek:vX_ t=vX_ s
   .have:=vR_ ek;subst this;rw [if_pos rfl];exact .inr rfl
   .rw [if_neg ek];exact h6 s hs
  .rw [zF_,if_neg (λek=>hs (by rw [<-vR_ ek];exact ht))]
   exact h7 s hs
 .have dl:zA_ (uT t) (.ref gN) g=some (some (uG H t)):=by rw [zT_ h4 uu_,e]
  simp? [h1,dl,id];exact h g L0 Kp.refl
theorem rL_{v:Nat}{H:Ht}{hN gN:Nat}{t:Tri}(hP:P.ok)(L:LandAt g v P H hN gN)(hH:hiH P H)(ht:t∈shapesM P)(h:∀ gs,Q (.tup [uP (lowM (riH H t) (wholeM t)),uP (lowM (clH H t) (wholeM t))]) (g++gs)):wpC fns (d+5) 26 [.ref v,uT t] g X Q:=by
 obtain ⟨ed,tr,dN,doN,unN,h1⟩:=L.ins;have hw:=(yP_ hP ht).2;unfold s5_ at h1;refine ze_ (by rfl) (by rfl) ?_;simp only [qY_]
 simp? [h1];refine wW_ hP L hH ht λgs => ?_;simp? [eq_self];refine u8_ (by omega) (by unfold big yw_;omega) ?_
 simp? [eq_self];refine u8_ (by omega) (by unfold big yw_;omega) ?_
 simp? [eq_self];exact h gs
theorem uP_{i:Int}(h:Q (.bl true) g):wpC fns (d+1) 27 [.int i] g X Q:=by
 refine ze_ (by rfl) (by rfl) ?_;simp only [x1_]
 simp? [eq_self];exact h
theorem yS_(n:Nat):∀ (D:Dt) (u v:U) (Q:U->G->Prop),D.ok n->Rep g D u->Rep g D v->Q (.bl true) g->wpC fns (d+n+1) 28 [u,v] g X Q:=by
 induction n with
 | zero=>intro D u v Q hd;exact hd.elim
 | succ n ih =>
  intro D u v Q hd hu hv h;refine (n1_ (d:=d+(n+1)) (by rfl) (by rfl)).2 ?_
  simp only [wv_];have list:∀ (ds:List Dt) (us vs:List U),(∀ D∈ds,D.ok n)->Reps g ds us->Reps g ds vs->items u g=some us->items v g=some vs -> ∀ Q':Fl->G->Prop,(∀ σ,Q' (.nx σ) g)->wpF fns (d+(n+1)) (.nm 2) (.rng 0 (vs.length:Int).toNat) 0 [.ife (.not (.call 28 [.idx (.var 0) (.var 2),.idx (.var 1) (.var 2)])) [.ret (.cst (.bl false))] []] [some u,some v,none] g X Q':=λds us vs hds hus hvs iu iv Q' hQ'=>by
   refine sU_ ((ran (vs.length:Int)).map U.int) (λk σ g'=>g'=g /\ ∃ o,σ=[some u,some v,o]) (λk σ g' _=>zI_) (λk w σ g' hk hI => ?_) (λσ g' hI=>by rw [hI.1];exact hQ' σ) _ 0 _ _ (Nat.zero_add _) ⟨rfl,none,rfl⟩
   obtain ⟨rfl,o,rfl⟩:=hI;simp only [List.getElem?_map,Option.map_eq_some_iff] at hk;obtain ⟨i,hi,rfl⟩:=hk;have hi':=ta_.mp (List.mem_of_getElem? hi);have hlu:=hus.length;have hlv:=hvs.length;have hD:ds[i.toNat]? = some ds[i.toNat]:=List.getElem?_eq_getElem (by omega)
   obtain ⟨a,ea,ra⟩:=hus.get hD;obtain ⟨b,eb,rb⟩:=hvs.get hD;have ua:uix us i=some a:=by rw [sm_ hi'.1 (by omega),ea]
   have ub:uix vs i=some b:=by rw [sm_ hi'.1 (by omega),eb]
   simp only [↓hm_,↓fH_,↓fP_,↓e6_,↓ip_,↓jr_,↓ox_,↓nU_,↓jV_,↓d4_,↓br_,↓vT_,↓dt_,↓dH_,↓ev_,↓ey_,↓iG_,↓cb_,↓dq_,↓cn_,↓iV_,↓e2_,↓fh_,↓fR_,↓bq_,↓bj_,↓ru_,↓rR_,↓pi_,↓jW_,↓m2_,↓rS_,↓fy_,↓b3_,↓b1_,↓al_,↓bm_,↓k_E,↓cQ_,↓aj_,↓c7_,↓ig_,↓fl_,↓iL_,↓qA_,↓rN_,↓pb_,↓ix_,↓bh_,↓q5_,↓qn_,↓h1_,↓g5_,↓oP_,↓nK_,↓mC_,↓qs_,↓nk_,↓i8_,↓ju_,↓bd_,↓dg_,↓fD_,↓nJ_,↓ij_,↓me_,↓fI_,↓k7_,↓eA_,↓ms_,↓k1_,↓n0_,↓jn_,↓fX_,↓ml_,↓ni_,↓mj_,↓k4_,↓nh_,↓iu_,↓n4_,↓no_,↓o5_,↓jX_,↓kD_,↓rx_,↓md_,↓j0_,↓rq_,↓nc_,↓o3_,↓jy_,↓mK_,↓mS_,↓mU_,↓n5_,↓jq_,↓fO_,↓lB_,↓oE_,↓mv_,↓k2_,↓oV_,↓nx_,↓oT_,↓h5_,↓gc_,↓jd_,↓jx_,↓oL_,↓mD_,↓fG_,↓gQ_,↓o7_,↓ib_,↓oz_,↓nG_,↓iC_,↓nw_,↓ga_,↓nZ_,↓mG_,↓gf_,↓gM_,↓f0_,↓gO_,↓fV_,↓fp_,↓iD_,↓bf_,↓oI_,↓jw_,↓bG_,↓qW_,↓fC_,↓fS_,↓fN_,↓jj_,↓dz_,↓mq_,↓jJ_,↓nL_,↓g2_,↓nB_,↓hd_,↓mi_,↓pG_,↓rg_,↓cm_,↓oK_,↓fm_,↓hS_,↓rl_,↓f1_,↓gb_,↓gq_,↓hb_,↓iO_,↓iW_,↓lR_,↓gR_,↓rA_,↓my_,↓qc_,↓oX_,↓ng_,↓r3_,↓lm_,↓qT_,↓nl_,↓nq_,↓gY_,↓n6_,↓k3_,↓n2_,↓r4_,↓cP_,↓hW_,↓kq_,↓iz_,↓g8_,↓gt_,↓nv_,↓gL_,↓kG_,↓qr_,↓q2_,↓m9_,↓m8_,↓rc_,↓nu_,↓o0_,↓hX_,↓oG_,↓ge_,↓oB_,↓na_,↓mB_,↓nz_,↓ns_,↓mt_,↓mm_,↓nC_,↓k0_,↓fu_,↓jl_,↓fz_,↓nX_,↓ja_,↓mg_,↓ne_,↓nN_,↓fW_,↓mL_,↓mp_,↓nQ_,↓qX_,↓n3_,↓mc_,↓jH_,↓nW_,↓jt_,↓gl_,↓h4_,↓hB_,↓hF_,↓iJ_,↓nE_,↓n9_,↓mT_,↓mE_,↓nY_,↓mR_,↓mb_,↓mx_,↓oF_,↓mz_,↓nT_,↓nn_,↓nO_,↓oS_,↓oM_,↓oy_,↓oC_,↓jv_,↓hx_,↓jz_,↓fw_,↓j1_,↓hR_,↓mu_,↓i7_,↓hr_,↓gm_,↓rj_,↓j9_,↓bt_,↓fZ_,↓gr_,↓fn_,↓hM_,↓hc_,↓fx_,↓mQ_,↓js_,↓oA_,↓qh_,↓mF_,↓nM_,↓cU_,↓iK_,↓jD_,↓hy_,↓iv_,↓nA_,↓oW_,↓ma_,↓mk_,↓gW_,↓oU_,↓mN_,↓gn_,↓i1_,↓gF_,↓iH_,↓gH_,↓jY_,↓hN_,perm,pick,yz_,Option.bind_some,uU_,y4_,yO_,kU_,List.lookup_cons,List.lookup_nil,Nat.reduceBEq,List.contains_cons,List.contains_nil,ux_,List.getElem?_cons_zero,List.getElem?_cons_succ,List.length_cons,List.length_nil,List.set_cons_zero,List.set_cons_succ,List.map_cons,List.map_nil,List.replicate_succ,List.replicate_zero,List.cons_append,List.nil_append,Nat.zero_add,Nat.reduceAdd,Nat.reduceSub,Nat.reduceLT,Nat.reduceLeDiff,Nat.reduceEqDiff,Nat.lt_add_left_iff_pos,unl,zw_,bindL,if_true,if_false,ite_true,ite_false,and_true,true_and,Option.getD_some,se_,tS_,o6_,pf_,ql_,ph_,il_,hu_,fB_,h0_,oO_,sn_,fU_,cV_,gz_,cin,bU_,hC_,q4_,Bool.or_false,Bool.or_true,Bool.true_or,Bool.false_or,clt,cle,cgt,cge,kS_,tru,kV_,kX_,asL,z8_,lift,bi1,pT_,m7_,uE_,alloc,yN_,vO_,zd_,fv_,gw_,hZ_,ie_,hA_,iT_,vL_,pm_,Option.map_some,Int.reduceLT,Int.reduceLE,Int.reduceNeg,Int.reduceEq,decide_true,decide_false,Bool.not_true,Bool.not_false,Bool.and_true,Bool.true_and,Bool.and_self,decide_eq_true_eq,eq_self,iu,iv,ua,ub];refine ih _ a b _ (hds _ (List.mem_of_getElem? hD)) ra rb ?_;simp? [eq_self];exact ⟨_,rfl⟩
  cases D with
  | non=>cases hu;cases hv;simp? [eq_self];exact h
  | bl b=>cases hu;cases hv;simp? [eq_self];cases b <;> exact h
  | int i =>
   cases hu;cases hv;simp? [eq_self];refine uP_ (d:=d+n) ?_;simp? [eq_self];simpa using h
  | str s=>cases hu;cases hv;simp? [eq_self];simpa using h
  | tup ds =>
   obtain ⟨us,rfl,hus⟩:=hu;obtain ⟨vs,rfl,hvs⟩:=hv;have hlu:=hus.length;have hlv:=hvs.length;obtain ⟨hlen,hds⟩:=Dt.ok_tup.mp hd;have eq:(us.length:Int)=vs.length:=by omega
   have hr:zv_ (vs.length:Int)=true:=zn_ (by omega) (by omega)
   simp? [eq,hr];refine list ds us vs hds hus hvs rfl rfl _ λσ => ?_;simp? [eq_self];exact h
  | lst ds =>
   obtain ⟨n1,us,rfl,hgu,hus⟩:=hu;obtain ⟨n2,vs,rfl,hgv,hvs⟩:=hv;have hlu:=hus.length;have hlv:=hvs.length;obtain ⟨hlen,hds⟩:=Dt.ok_lst.mp hd;have eq:(us.length:Int)=vs.length:=by omega
   have hr:zv_ (vs.length:Int)=true:=zn_ (by omega) (by omega)
   simp? [eq,hr,hgu,hgv];refine list ds us vs hds hus hvs (by simp only [items,hgu]) (by simp only [items,hgv]) _ λσ => ?_
   simp? [eq_self];exact h
theorem s3_(ns:List Int)(h:∀ zs:List Int,Q (.ref 2) [.lst (zs.map U.int),.lst (zs.map U.int),om_ 1 0 7]):wpC fns (d+1) 29 [.fro (ns.map U.int)] [] X Q:=by
 refine ze_ (by rfl) (by rfl) ?_;simp only [vo_]
 simp? [iA_];have hz:tP_ (ns.map U.int) none (some 63)=(eZ_ ns none (some 63)).map U.int:=l7_ ns _ _;simp? [hz,om_];exact h _
theorem zB_{m:Int}(hb:Bag g)(hm:0 < m)(hm2:m < 1000000000000)(h:∀ (r:Int) (g':G),0<=r->r < m->Fr g g'->Q (.int r) g'):wpC fns (d+1) 30 [.ref 2,.int m] g X Q:=by
 obtain ⟨xs,at_,seed,h1,h2⟩:=hb;have l1:1 < g.length:=(List.getElem?_eq_some_iff.mp h1).1;have l2:2 < g.length:=(List.getElem?_eq_some_iff.mp h2).1;have hmb:m < yw_:=by unfold yw_;omega
 have h63:(2147483647:Int) < yw_:=by decide
 have h64:(64:Int) < yw_:=by decide
 have s1:small 48271:=zH_ (by decide)
 have s2:small 9973:=zH_ (by decide)
 have s3:small 31:=zH_ (by decide)
 have s4:small 69621:=zH_ (by decide)
 refine ze_ (by rfl) (by rfl) ?_;simp only [wl_]
 simp? [h1,h2,om_];have small_:∀ cell:Int,0<=cell -> ¬ 1000000000000000000<=cell->wpS fns d [(.ife (.cmp .ge (.var 4) (.bin .pow (.cst (.int 10)) (.cst (.int 18)))) [(.sub (.var 2) (.bin .mod (.var 3) (.bi .len [(.var 2)])) (.bin .fdiv (.var 4) (.var 1))),(.ret (.bin .mod (.var 4) (.var 1)))] []),(.sub (.var 0) (.cst (.int 1)) (.bin .add (.var 3) (.cst (.int 1)))),(.sub (.var 0) (.cst (.int 2)) (.bin .mod (.bin .add (.bin .add (.bin .add (.bin .mul (.idx (.var 0) (.cst (.int 2))) (.cst (.int 48271))) (.bin .mul (.var 4) (.cst (.int 9973)))) (.bin .mul (.var 3) (.cst (.int 31)))) (.cst (.int 11))) (.cst (.int 2147483647)))),(.ret (.bin .mod (.bin .fdiv (.bin .mod (.bin .mul (.idx (.var 0) (.cst (.int 2))) (.cst (.int 69621))) (.cst (.int 2147483629))) (.cst (.int 64))) (.var 1)))] [some (.ref 2),some (.int m),some (.ref 1),some (.int at_),some (.int cell)] g X λfl g=>fC fl (lk λu=>Q u g):=λcell c0 c1=>by
  have h2':=yE_ (o':=om_ 1 (at_+1) seed) h2;have h2'':=yE_ (o':=om_ 1 (at_+1) ((seed*48271+cell*9973+at_*31+11) % 2147483647)) h2';have cn : ¬ cell < 0:=by omega
  simp? [h1,h2,t1_,cn,c1,wG_ h2 (show (0:Int)<=1 by decide) (by simp),s1,s2,s3,s4,hm,hmb,h63,h64,show (1:Int).toNat=1 from rfl,h2']
  simp? [wG_ h2' (show (0:Int)<=2 by decide) (by simp),s1,s2,s3,s4,hm,hmb,h63,h64,show (2:Int).toNat=2 from rfl,h2'']
  exact h _ _ (Int.emod_nonneg _ (by omega)) (Int.emod_lt_of_pos _ hm) ((Fr.set2 ⟨xs,at_,seed,h1,h2⟩ _ _).trans (Fr.set2 (Fr.set2 ⟨xs,at_,seed,h1,h2⟩ _ _).bag _ _))
 have big_:∀ cell:Int,0 < xs.length->1000000000000000000<=cell->wpS fns d [(.ife (.cmp .ge (.var 4) (.bin .pow (.cst (.int 10)) (.cst (.int 18)))) [(.sub (.var 2) (.bin .mod (.var 3) (.bi .len [(.var 2)])) (.bin .fdiv (.var 4) (.var 1))),(.ret (.bin .mod (.var 4) (.var 1)))] []),(.sub (.var 0) (.cst (.int 1)) (.bin .add (.var 3) (.cst (.int 1)))),(.sub (.var 0) (.cst (.int 2)) (.bin .mod (.bin .add (.bin .add (.bin .add (.bin .mul (.idx (.var 0) (.cst (.int 2))) (.cst (.int 48271))) (.bin .mul (.var 4) (.cst (.int 9973)))) (.bin .mul (.var 3) (.cst (.int 31)))) (.cst (.int 11))) (.cst (.int 2147483647)))),(.ret (.bin .mod (.bin .fdiv (.bin .mod (.bin .mul (.idx (.var 0) (.cst (.int 2))) (.cst (.int 69621))) (.cst (.int 2147483629))) (.cst (.int 64))) (.var 1)))] [some (.ref 2),some (.int m),some (.ref 1),some (.int at_),some (.int cell)] g X λfl g=>fC fl (lk λu=>Q u g):=λcell c0 c1=>by
  have ce:=lv_ (at_:=at_) c0;have cl:(0:Int) < xs.length:=by omega
  obtain ⟨m1,m2⟩:=rb_ (at_:=at_) c0;simp? [h1,h2,t1_,c1,List.length_map,cl,hm,hmb,wG_ h1 m1 (by simpa using m2),<-List.map_set]
  exact h _ _ (Int.emod_nonneg _ (by omega)) (Int.emod_lt_of_pos _ hm) (Fr.set1 ⟨xs,at_,seed,h1,h2⟩ _)
 have fin_:∀ cell:Int,(1000000000000000000<=cell->0 < xs.length)->0<=cell->wpS fns d [(.ife (.cmp .ge (.var 4) (.bin .pow (.cst (.int 10)) (.cst (.int 18)))) [(.sub (.var 2) (.bin .mod (.var 3) (.bi .len [(.var 2)])) (.bin .fdiv (.var 4) (.var 1))),(.ret (.bin .mod (.var 4) (.var 1)))] []),(.sub (.var 0) (.cst (.int 1)) (.bin .add (.var 3) (.cst (.int 1)))),(.sub (.var 0) (.cst (.int 2)) (.bin .mod (.bin .add (.bin .add (.bin .add (.bin .mul (.idx (.var 0) (.cst (.int 2))) (.cst (.int 48271))) (.bin .mul (.var 4) (.cst (.int 9973)))) (.bin .mul (.var 3) (.cst (.int 31)))) (.cst (.int 11))) (.cst (.int 2147483647)))),(.ret (.bin .mod (.bin .fdiv (.bin .mod (.bin .mul (.idx (.var 0) (.cst (.int 2))) (.cst (.int 69621))) (.cst (.int 2147483629))) (.cst (.int 64))) (.var 1)))] [some (.ref 2),some (.int m),some (.ref 1),some (.int at_),some (.int cell)] g X λfl g=>fC fl (lk λu=>Q u g):=λcell c0 c1=>by
  by_cases c2:1000000000000000000<=cell
  .exact big_ cell (c0 c2) c2
  .exact small_ cell c1 c2
 refine z4_ (λk1 => ?_) λk1 => ?_
 .have k1:0 < xs.length:=by simpa using k1
  have cl:(0:Int) < xs.length:=by omega
  simp? [h1,List.length_map,cl,oq_ k1];refine z4_ (λk2 => ?_) λk2 => ?_
  .have z:=fin_ (1 - pR_ xs at_) (λ_=>k1) (by simp only [decide_eq_true_eq] at k2;omega)
   simp? [eq_self] at z ⊢;exact z
  .have z:=fin_ (pR_ xs at_) (λ_=>k1) (by simp only [decide_eq_false_iff_not] at k2;omega)
   simp? [eq_self] at z ⊢;exact z
 .have z:=fin_ 0 (λz=>absurd z (by decide)) (by decide)
  simp? [eq_self] at z ⊢;exact z
noncomputable def uX_:List Plan:=[⟨1,1,2⟩,⟨1,1,4⟩,⟨2,1,2⟩,⟨1,2,2⟩,⟨2,2,2⟩,⟨1,1,4⟩,⟨3,1,2⟩,⟨1,3,2⟩,⟨2,1,4⟩,⟨1,2,4⟩,⟨3,2,2⟩,⟨1,1,8⟩]
theorem mX_{P:Plan}(h:P∈uX_):P.ok:=by
 simp only [uX_,List.mem_cons,List.not_mem_nil,or_false] at h;rcases h with rfl | rfl | rfl | rfl | rfl | rfl | rfl | rfl | rfl | rfl | rfl | rfl <;> exact ⟨by simp,by simp,by simp⟩
theorem ui_(hb:Bag g)(h:∀ (P:Plan) (g':G),P∈uX_->Fr g g'->Q (uPl P) g'):wpC fns (d+2) 31 [.ref 2] g X Q:=by
 refine ze_ (by rfl) (by rfl) ?_;simp only [wC_]
 simp? [eq_self];refine jM_ (zf_ zj_) zj_ (by decide) ?_
 simp? [eq_self];refine zB_ hb.app.app.app (by decide) (by decide) λr g1 a1 b1 f1 => ?_
 have e1:=f1.get _ _ (by have:=hb.len;simp only [List.length_append,List.length_cons,List.length_nil];omega) zj_
 obtain ⟨P,hP,hu⟩:=uW_ (l:=uX_) (f:=uPl) a1 (by exact b1)
 have e2:g1[(g++[O.lst ((uX_.take 6).map uPl)]++[O.lst ((uX_.drop 6).map uPl)]).length]? = some (.lst (uX_.map uPl)):=e1;have fr:Fr g g1:=by
  refine Fr.trans ?_ f1;rw [List.append_assoc,List.append_assoc];exact Fr.app hb
 revert e2;simp only [List.length_append,List.length_cons,List.length_nil];intro e2;simp? [e2,hu,List.length_append];exact h P g1 hP fr
theorem tb_(hb:Bag g)(h:∀ (P:Plan) (g':G),P.ok->Fr g g'->Q (uPl P) g'):wpC fns (d+2) 31 [.ref 2] g X Q:=ui_ hb λP g' hP f=>h P g' (mX_ hP) f
theorem vD_(hP:P.ok)(h:tB_ g ((placesM P).map uP) Q):wpC fns (d+1) 32 [uPl P] g X Q:=by
 have h0:=hP.s0;have h1:=hP.ss;have hw:=hP.ws;have hd:=hP.ds;have r1:zv_ (P.w*P.s+1)=true:=zn_ (by omega) (by omega)
 have r2:zv_ (P.d*P.s+1)=true:=zn_ (by omega) (by omega)
 have hl:=wF_ hP;refine ze_ (by rfl) (by rfl) ?_;simp only [xb_]
 simp? [*];refine sU_ ((ran (P.w*P.s+1)).map U.int) (λk σ g'=>(∃ o1 o2,σ=[some (uPl P),some (.ref g.length),o1,o2])/\g'=g++[.lst ((((ran (P.w*P.s+1)).take k).flatMap λx=>(ran (P.d*P.s+1)).map λy=>((x,y):Pt)).map uP)]) (λk σ g' _=>zI_) (λk u σ g' hk hI => ?_) (λσ g' hI => ?_) _ 0 _ _ (Nat.zero_add _) ⟨⟨none,none,rfl⟩,rfl⟩
 .obtain ⟨⟨o1,o2,rfl⟩,rfl⟩:=hI
  simp only [List.getElem?_map,Option.map_eq_some_iff] at hk;obtain ⟨x,hx,rfl⟩:=hk;simp? [*];refine sU_ ((ran (P.d*P.s+1)).map U.int) (λj σ g'=>(∃ o2,σ=[some (uPl P),some (.ref g.length),some (.int x),o2])/\g'=g++[.lst (((((ran (P.w*P.s+1)).take k).flatMap λx=>(ran (P.d*P.s+1)).map λy=>((x,y):Pt))++(((ran (P.d*P.s+1)).take j).map λy=>((x,y):Pt))).map uP)]) (λk σ g' _=>zI_) (λj u σ g' hj hI => ?_) (λσ g' hI => ?_) _ 0 _ _ (Nat.zero_add _) ⟨⟨o2,rfl⟩,by simp⟩
  .obtain ⟨⟨o2,rfl⟩,rfl⟩:=hI
   simp only [List.getElem?_map,Option.map_eq_some_iff] at hj;obtain ⟨y,hy,rfl⟩:=hj;have hk':=List.length_take_le k (ran (P.w*P.s+1));have hlen:((((ran (P.w*P.s+1)).take k).flatMap λx=>(ran (P.d*P.s+1)).map λy=>((x,y):Pt))++(((ran (P.d*P.s+1)).take j).map λy=>((x,y):Pt))).length<=700:=by
    have a1:=zQ_ (f:=λx=>(ran (P.d*P.s+1)).map λy=>((x,y):Pt)) (B:=25) (l:=(ran (P.w*P.s+1)).take k) λa _=>by simp [zD_];omega
    have a2:((ran (P.w*P.s+1)).take k).length<=25:=by rw [List.length_take,zD_];omega
    have a3:=Nat.mul_le_mul_right 25 a2;rw [List.length_append,List.length_map,List.length_take,zD_];omega
   simp? [zj_,xR_ (show (List.map uP ((((ran (P.w*P.s+1)).take k).flatMap λx=>(ran (P.d*P.s+1)).map λy=>((x,y):Pt))++(((ran (P.d*P.s+1)).take j).map λy=>((x,y):Pt)))).length < 16777000 by rw [List.length_map];omega)]
   refine ⟨⟨_,rfl⟩,?_⟩;rw [List.take_succ,hy];simp
  .obtain ⟨⟨o2,rfl⟩,rfl⟩:=hI
   simp? [eq_self];refine ⟨⟨_,_,rfl⟩,?_⟩;rw [List.take_succ,hx];simp
 .obtain ⟨⟨o1,o2,rfl⟩,rfl⟩:=hI
  simp? [eq_self];refine h _ _ (Nat.le_refl _) ?_;simp [placesM]
theorem uh_(hP:P.ok)(h:tB_ g ((yj_ P).map uT) Q):wpC fns (d+1) 33 [uPl P] g X Q:=by
 have hss:=hP.ss;have hl:=xC_ hP;have r1:zv_ P.w=true:=by rcases hP.w with e | e | e <;> rw [e] <;> exact zn_ (by decide) (by decide)
 have r2:zv_ P.d=true:=by rcases hP.d with e | e | e <;> rw [e] <;> exact zn_ (by decide) (by decide)
 have ld:(ran P.d).length<=3:=by rw [zD_];rcases hP.d with e | e | e <;> rw [e] <;> decide
 have lw:(ran P.w).length<=3:=by rw [zD_];rcases hP.w with e | e | e <;> rw [e] <;> decide
 have a:∀ i k,(((ran P.d).take k).flatMap λj=>zo_ i j P.s).length<=6:=λi k=>by
  have:=zQ_ (f:=λj=>zo_ i j P.s) (B:=2) (l:=(ran P.d).take k) λj _=>Nat.le_of_eq (yk_ i j P.s);have:=List.length_take_le' k (ran P.d);omega
 have b:∀ k,(((ran P.w).take k).flatMap λi=>(ran P.d).flatMap λj=>zo_ i j P.s).length<=18:=λk=>by
  have:=zQ_ (f:=λi=>(ran P.d).flatMap λj=>zo_ i j P.s) (B:=6) (l:=(ran P.w).take k) λi _=>by have:=a i 100;rwa [List.take_of_length_le (by omega)] at this
  have:=List.length_take_le' k (ran P.w);omega
 refine ze_ (by rfl) (by rfl) ?_;simp only [xS_]
 simp? [r1];refine xH_ ((ran P.w).map U.int) (λk σ g'=>(∃ o1 o2 o3 o4,σ=[some (uPl P),some (.ref g.length),some (.int P.s),o1,o2,o3,o4])/\g'=g++[.lst ((((ran P.w).take k).flatMap λi=>(ran P.d).flatMap λj=>zo_ i j P.s).map uT)]) (λk σ g' _=>zI_) ⟨⟨_,_,_,_,rfl⟩,rfl⟩ (λk u σ g' hk hI => ?_) (λσ g' hI => ?_)
 .obtain ⟨⟨o1,o2,o3,o4,rfl⟩,rfl⟩:=hI
  simp only [List.getElem?_map,Option.map_eq_some_iff] at hk;obtain ⟨i,hi,rfl⟩:=hk;simp? [r2];refine xH_ ((ran P.d).map U.int) (λm σ g'=>(∃ o2 o3 o4,σ=[some (uPl P),some (.ref g.length),some (.int P.s),some (.int i),o2,o3,o4])/\g'=g++[.lst (((((ran P.w).take k).flatMap λi=>(ran P.d).flatMap λj=>zo_ i j P.s)++(((ran P.d).take m).flatMap λj=>zo_ i j P.s)).map uT)]) (λk σ g' _=>zI_) ⟨⟨_,_,_,rfl⟩,by simp⟩ (λm u σ g' hm hI => ?_) (λσ g' hI => ?_)
  .obtain ⟨⟨o2,o3,o4,rfl⟩,rfl⟩:=hI
   simp only [List.getElem?_map,Option.map_eq_some_iff] at hm;obtain ⟨j,hj,rfl⟩:=hm;have b1:=b k;have a1:=a i m;have lt0:((((((ran P.w).take k).flatMap λi=>(ran P.d).flatMap λj=>zo_ i j P.s)++(((ran P.d).take m).flatMap λj=>zo_ i j P.s)).map uT):List U).length < 16777000:=by rw [List.length_map,List.length_append];omega
   have lt1:∀ x:U,((((((ran P.w).take k).flatMap λi=>(ran P.d).flatMap λj=>zo_ i j P.s)++(((ran P.d).take m).flatMap λj=>zo_ i j P.s)).map uT)++[x]:List U).length < 16777000:=λx=>by rw [List.length_append,List.length_map,List.length_append];simp only [List.length_cons,List.length_nil];omega
   have ea:∀ x:U,xm_ g.length x (g++[.lst (((((ran P.w).take k).flatMap λi=>(ran P.d).flatMap λj=>zo_ i j P.s)++(((ran P.d).take m).flatMap λj=>zo_ i j P.s)).map uT)])=.ok .non (g++[.lst ((((((ran P.w).take k).flatMap λi=>(ran P.d).flatMap λj=>zo_ i j P.s)++(((ran P.d).take m).flatMap λj=>zo_ i j P.s)).map uT)++[x])]):=λx=>xR_ lt0;have eb:∀ x y:U,xm_ g.length y (g++[.lst ((((((ran P.w).take k).flatMap λi=>(ran P.d).flatMap λj=>zo_ i j P.s)++(((ran P.d).take m).flatMap λj=>zo_ i j P.s)).map uT)++[x])])=.ok .non (g++[.lst ((((((ran P.w).take k).flatMap λi=>(ran P.d).flatMap λj=>zo_ i j P.s)++(((ran P.d).take m).flatMap λj=>zo_ i j P.s)).map uT)++[x]++[y])]):=λx y=>xR_ (lt1 x);simp? [hss];refine z4_ (λk1 => ?_) λk1 => ?_
   .have k2:(i+j) % 2=0:=by simpa using k1
    simp? [zj_,ea,eb];refine ⟨⟨_,_,_,rfl⟩,?_⟩;rw [List.take_succ,hj];simp [zo_,k2]
   .have k2 : ¬ (i+j) % 2=0:=by simpa using k1
    simp? [zj_,ea,eb];refine ⟨⟨_,_,_,rfl⟩,?_⟩;rw [List.take_succ,hj];simp [zo_,k2]
  .obtain ⟨⟨o2,o3,o4,rfl⟩,rfl⟩:=hI
   simp? [eq_self];refine ⟨⟨_,_,_,_,rfl⟩,?_⟩;rw [List.take_succ,hi];simp [List.take_of_length_le]
 .obtain ⟨⟨o1,o2,o3,o4,rfl⟩,rfl⟩:=hI
  simp? [eq_self];refine h _ _ (Nat.le_refl _) ?_;simp [yj_]
theorem xf_{t:Tri}(h:Q (uO (z6_ t)) g):wpC fns (d+1) 34 [uT t] g X Q:=by
 have b2:(2:Int) < yw_:=by decide
 refine ze_ (by rfl) (by rfl) ?_;simp only [xk_]
 simp? [eq_self];unfold z6_ at h;refine z4_ (λk1 => ?_) λk1 => ?_
 .have k1':(t.ax+t.bx) % 2=1:=by simpa using k1
  rw [if_pos (.inl k1')] at h;simp? [eq_self];exact h
 .have k1' : ¬ (t.ax+t.bx) % 2=1:=by simpa using k1
  simp? [eq_self];refine z4_ (λk2 => ?_) λk2 => ?_
  .have k2':(t.ay+t.bY) % 2=1:=by simpa using k2
   rw [if_pos (.inr k2')] at h;simp? [eq_self];exact h
  .have k2' : ¬ (t.ay+t.bY) % 2=1:=by simpa using k2
   rw [if_neg (by omega)] at h
   simp? [b2];exact h
theorem vU_{t:Tri}{m:Pt}(hm:z6_ t=some m)(h:tB_ g ((zi_ t).map uT) Q):wpC fns (d+2) 35 [uT t] g X Q:=by
 rw [yb_ hm] at h;refine ze_ (by rfl) (by rfl) ?_;simp only [xj_]
 simp? [eq_self];refine xf_ ?_;rw [hm];simp? [uO];exact h _ _ (Nat.le_refl _) zj_
theorem yg_{t:Tri}(h:tB_ g ([ptA t,ptB t,ptC t].map uP) Q):wpC fns (d+1) 36 [uT t] g X Q:=by
 refine ze_ (by rfl) (by rfl) ?_;simp only [yh_]
 simp? [eq_self];exact h _ _ (Nat.le_refl _) zj_
theorem yc_{a b c:Pt}(ha:xx_ a)(hb:xx_ b)(hc:xx_ c)(h:Q (.int (zh_ a b c)) g):wpC fns (d+1) 37 [uP a,uP b,uP c] g X Q:=by
 have m1:op2 .mul (.int (b.1 - a.1)) (.int (c.2 - a.2))=some (.int ((b.1 - a.1)*(c.2 - a.2))):=xA_ (tL_ hb.1 ha.1) (tL_ hc.2 ha.2);have m2:op2 .mul (.int (c.1 - a.1)) (.int (b.2 - a.2))=some (.int ((c.1 - a.1)*(b.2 - a.2))):=xA_ (tL_ hc.1 ha.1) (tL_ hb.2 ha.2);refine ze_ (by rfl) (by rfl) ?_;simp only [xZ_]
 simp? [m1,m2];exact h
theorem xV_{t:Tri}(hn:nearT t)(hp:xx_ p)(h:tB_ g ((xY_ t p).map U.int) Q):wpC fns (d+2) 38 [uT t,.int p.1,.int p.2,.int 1] g X Q:=by
 have s1:small 1:=zH_ (by decide)
 refine ze_ (by rfl) (by rfl) ?_;simp only [zV_]
 simp? [eq_self];refine yg_ λgs1 n1 hn1 e1 => ?_;simp? [e1];refine s9_ [ptA t,ptB t,ptC t] uP (λ_=>true) uP (λg'=>g'=g++gs1) ([ptA t,ptB t,ptC t].map uP) rfl (λk g' e=>by rw [e,yp_ e1]) (λq hq => ?_) (by simp) rfl ?_
 .simp? [s1]
  rintro g' rfl;simp? [s1];simp
 .rintro g' rfl
  refine ⟨by simp,?_⟩
  simp? [zj_];refine yc_ hn.pA hn.pB hn.pC ?_;have fin:∀ s:Int,s=zz_ t->wpS fns (d+1) (zV_.body.drop 4) [some (uT t),some (.int p.1),some (.int p.2),some (.int 1),some (uP (ptA t)),some (uP (ptB t)),some (uP (ptC t)),some (uP p),some (.int s),none,none] (g++gs1++[.lst ([ptA t,ptB t,ptC t].map uP)]) X λf g=>fC f (lk λu=>Q u g):=λs hs=>by
   have ss:small s:=by rw [hs];unfold zz_;split <;> exact zH_ (by decide)
   simp only [zV_,List.drop_succ_cons,List.drop_zero];simp? [eq_self];refine yc_ hp hn.pB hn.pC ?_;simp? [ss];refine yc_ hn.pA hp hn.pC ?_;simp? [ss];refine yc_ hn.pA hn.pB hp ?_;simp? [ss];subst hs;have z:=(wh_ (gs:=gs1++[.lst ([ptA t,ptB t,ptC t].map uP)]) h (by simp [xY_])).2
   rw [<-List.append_assoc] at z;exact z
  simp only [zV_,List.drop_succ_cons,List.drop_zero] at fin;simp? [eq_self];refine z4_ (λk1 => ?_) λk1 => ?_
  .have z:=fin (-1) (by unfold zz_;rw [if_pos (by simpa using k1)])
   simp? [eq_self] at z ⊢;exact z
  .have z:=fin 1 (by unfold zz_;rw [if_neg (by simpa using k1)])
   simp? [eq_self] at z ⊢;exact z
theorem vH_{t:Tri}(hn:nearT t)(hp:xx_ p)(h:∀ gs,Q (.bl (zs_ t p)) (g++gs)):wpC fns (d+3) 39 [uT t,uP p] g X Q:=by
 obtain ⟨m1,s1⟩:=pu_ t.ax t.bx t.cx;obtain ⟨m2,s2⟩:=pu_ t.ay t.bY t.cy;have srt:∀ (g:G) (a b c:Int),st_ [.ref g.length] (g++[.lst [.int a,.int b,.int c]])=.ok (.ref (g++([.lst [.int a,.int b,.int c]]:G)).length) (g++[.lst [.int a,.int b,.int c]]++[.lst ((sortI [a,b,c]).map U.int)]):=λg a b c=>by
  simp only [st_,zu_,zj_]
  rfl
 refine ze_ (by rfl) (by rfl) ?_;simp only [y5_]
 have e1:∀ A S1 B S2:O,(g++[A]++[S1]++[B]++[S2])[(g++[A]).length]? = some S1:=λA S1 B S2=>zf_ (zf_ zj_);have e2:∀ A S1 B S2:O,(g++[A]++[S1]++[B]++[S2])[(g++[A]++[S1]++[B]).length]? = some S2:=λA S1 B S2=>zj_;have s0:small 1:=zH_ (by decide)
 unfold zs_ yR_ at h;have w:∀ (g':G),(∃ gs,g'=g++gs)->(decide (lefT t<=p.1) && decide (p.1<=rigT t) && (decide (lowY t<=p.2) && decide (p.2<=topT t)))=true -> ∀ gs2 n2,g'.length<=n2->(g'++gs2)[n2]? = some (.lst ((xY_ t p).map U.int))->Q (.bl (decide (0<=best true (zz_ t*zh_ p (ptB t) (ptC t)) [zz_ t*zh_ (ptA t) p (ptC t),zz_ t*zh_ (ptA t) (ptB t) p]))) (g'++gs2):=λg' hg hb gs2 n2 _ _=>by
  obtain ⟨gs,rfl⟩:=hg;have:=h (gs++gs2);rw [hb,Bool.true_and,<-py_,<-List.append_assoc] at this;exact this
 simp? [srt,s1,s2,e1];refine z4_ (λk1 => ?_) λk1 => ?_
 .simp? [e1]
  refine z4_ (λk2 => ?_) λk2 => ?_
  .simp? [e2]
   refine z4_ (λk3 => ?_) λk3 => ?_
   .simp? [e2]
    refine z4_ (λk4 => ?_) λk4 => ?_
    .simp? [eq_self]
     refine xV_ hn hp λgs2 n2 hn2 e3 => ?_;have li:zu_ [.ref n2] (g++[O.lst [U.int t.ax,U.int t.bx,U.int t.cx]]++[O.lst [U.int (best true t.ax [t.bx,t.cx]),U.int m1,U.int (best false t.ax [t.bx,t.cx])]]++[O.lst [U.int t.ay,U.int t.bY,U.int t.cy]]++[O.lst [U.int (best true t.ay [t.bY,t.cy]),U.int m2,U.int (best false t.ay [t.bY,t.cy])]]++gs2)=some (xY_ t p):=by
      simp only [zu_,e3];exact vq_ _
     simp only [xY_] at li;simp? [mh_,intsOf,li];exact w _ ⟨_,by rw [List.append_assoc,List.append_assoc,List.append_assoc]⟩ (by simp [k1,k2,k3,k4]) gs2 n2 hn2 e3
    .simp? [eq_self]
     have:=h [O.lst [U.int t.ax,U.int t.bx,U.int t.cx],O.lst [U.int (best true t.ax [t.bx,t.cx]),U.int m1,U.int (best false t.ax [t.bx,t.cx])],O.lst [U.int t.ay,U.int t.bY,U.int t.cy],O.lst [U.int (best true t.ay [t.bY,t.cy]),U.int m2,U.int (best false t.ay [t.bY,t.cy])]];simpa [k1,k2,k3,k4] using this
   .simp? [eq_self]
    have:=h [O.lst [U.int t.ax,U.int t.bx,U.int t.cx],O.lst [U.int (best true t.ax [t.bx,t.cx]),U.int m1,U.int (best false t.ax [t.bx,t.cx])],O.lst [U.int t.ay,U.int t.bY,U.int t.cy],O.lst [U.int (best true t.ay [t.bY,t.cy]),U.int m2,U.int (best false t.ay [t.bY,t.cy])]];simpa [k1,k2,k3] using this
  .simp? [eq_self]
   have:=h [O.lst [U.int t.ax,U.int t.bx,U.int t.cx],O.lst [U.int (best true t.ax [t.bx,t.cx]),U.int m1,U.int (best false t.ax [t.bx,t.cx])],O.lst [U.int t.ay,U.int t.bY,U.int t.cy],O.lst [U.int (best true t.ay [t.bY,t.cy]),U.int m2,U.int (best false t.ay [t.bY,t.cy])]];simpa [k1,k2] using this
 .simp? [eq_self]
  have:=h [O.lst [U.int t.ax,U.int t.bx,U.int t.cx],O.lst [U.int (best true t.ax [t.bx,t.cx]),U.int m1,U.int (best false t.ax [t.bx,t.cx])],O.lst [U.int t.ay,U.int t.bY,U.int t.cy],O.lst [U.int (best true t.ay [t.bY,t.cy]),U.int m2,U.int (best false t.ay [t.bY,t.cy])]];simpa [k1] using this
theorem uN_{t:Tri}(hn:nearT t)(h:tB_ g ((zp_ t).map uP) Q):wpC fns (d+4) 40 [uT t] g X Q:=by
 obtain ⟨b1,b2,b3,b4⟩:=hn.box;have hl:=v0_ hn;obtain ⟨m1,s1⟩:=pu_ t.ax t.bx t.cx;obtain ⟨m2,s2⟩:=pu_ t.ay t.bY t.cy;have k1:lefT t<=100:=by obtain ⟨a,_⟩:=hn;have:=(zC_ (x:=lefT t)).mp (Int.le_refl _);omega
 have k2:lowY t<=100:=by obtain ⟨_,a,_⟩:=hn;have:=(zC_ (x:=lowY t)).mp (Int.le_refl _);omega
 have k3 : -100<=rigT t:=by obtain ⟨a,_⟩:=hn;have:=(zG_ (x:=rigT t)).mp (Int.le_refl _);omega
 have k4 : -100<=topT t:=by obtain ⟨_,a,_⟩:=hn;have:=(zG_ (x:=topT t)).mp (Int.le_refl _);omega
 have r1:zv_ (lefT t)=true:=zn_ (by omega) (by omega)
 have r2:zv_ (rigT t+1)=true:=zn_ (by omega) (by omega)
 have r3:zv_ (lowY t)=true:=zn_ (by omega) (by omega)
 have r4:zv_ (topT t+1)=true:=zn_ (by omega) (by omega)
 have srt:∀ (g:G) (a b c:Int),st_ [.ref g.length] (g++[.lst [.int a,.int b,.int c]])=.ok (.ref (g++([.lst [.int a,.int b,.int c]]:G)).length) (g++[.lst [.int a,.int b,.int c]]++[.lst ((sortI [a,b,c]).map U.int)]):=λg a b c=>by
  simp only [st_,zu_,zj_]
  rfl
 have e1:∀ A S1 B S2 D:O,(g++[A]++[S1]++[B]++[S2]++[D])[(g++[A]).length]? = some S1:=λA S1 B S2 D=>zf_ (zf_ (zf_ zj_));have e2:∀ A S1 B S2 D:O,(g++[A]++[S1]++[B]++[S2]++[D])[(g++[A]++[S1]++[B]).length]? = some S2:=λA S1 B S2 D=>zf_ zj_;refine ze_ (by rfl) (by rfl) ?_;simp only [xX_]
 simp? [srt,s1,s2,e1,r1,r2];have hs0:∃ gs,g++[O.lst [U.int t.ax,U.int t.bx,U.int t.cx]]++[O.lst [U.int (best true t.ax [t.bx,t.cx]),U.int m1,U.int (best false t.ax [t.bx,t.cx])]]++[O.lst [U.int t.ay,U.int t.bY,U.int t.cy]]++[O.lst [U.int (best true t.ay [t.bY,t.cy]),U.int m2,U.int (best false t.ay [t.bY,t.cy])]]=g++gs:=⟨_,by rw [List.append_assoc,List.append_assoc,List.append_assoc]⟩
 have e5:(g++[O.lst [U.int t.ax,U.int t.bx,U.int t.cx]]++[O.lst [U.int (best true t.ax [t.bx,t.cx]),U.int m1,U.int (best false t.ax [t.bx,t.cx])]]++[O.lst [U.int t.ay,U.int t.bY,U.int t.cy]]++[O.lst [U.int (best true t.ay [t.bY,t.cy]),U.int m2,U.int (best false t.ay [t.bY,t.cy])]])[(g++[O.lst [U.int t.ax,U.int t.bx,U.int t.cx]]++[O.lst [U.int (best true t.ax [t.bx,t.cx]),U.int m1,U.int (best false t.ax [t.bx,t.cx])]]++[O.lst [U.int t.ay,U.int t.bY,U.int t.cy]]).length]? = some (.lst [.int (lowY t),.int m2,.int (topT t)]):=zj_;clear e1 e2 srt s1 s2;generalize (g++[O.lst [U.int t.ax,U.int t.bx,U.int t.cx]]++[O.lst [U.int (best true t.ax [t.bx,t.cx]),U.int m1,U.int (best false t.ax [t.bx,t.cx])]]++[O.lst [U.int t.ay,U.int t.bY,U.int t.cy]]).length=n2 at e5 ⊢;generalize g++[O.lst [U.int t.ax,U.int t.bx,U.int t.cx]]++[O.lst [U.int (best true t.ax [t.bx,t.cx]),U.int m1,U.int (best false t.ax [t.bx,t.cx])]]++[O.lst [U.int t.ay,U.int t.bY,U.int t.cy]]++[O.lst [U.int (best true t.ay [t.bY,t.cy]),U.int m2,U.int (best false t.ay [t.bY,t.cy])]]=h0 at hs0 e5 ⊢;generalize (g++[O.lst [U.int t.ax,U.int t.bx,U.int t.cx]]).length=n1;have gt:∀ (o:O) (gs:G),(h0++o :: gs)[h0.length]? = some o:=λo gs=>by simp
 have st:∀ (o o':O) (gs:G),(h0++o :: gs).set h0.length o'=h0++o' :: gs:=λo o' gs=>by simp
 have gy:∀ gs:G,(h0++gs)[n2]? = some (.lst [.int (lowY t),.int m2,.int (topT t)]):=λgs=>zf_ e5
 let F:Int->List Pt:=λx=>((yv_ (lowY t) (topT t+1)).filter λy=>zs_ t (x,y)).map λy=>(x,y)
 have fl:∀ (x:Int) (m:Nat),((((yv_ (lowY t) (topT t+1)).take m).filter λy=>zs_ t (x,y)).map λy=>((x,y):Pt)).length<=201:=λx m=>by
  rw [List.length_map];have h1:=List.length_filter_le (λy=>zs_ t (x,y)) ((yv_ (lowY t) (topT t+1)).take m);have h2:=List.length_take_le' m (yv_ (lowY t) (topT t+1));rw [ys_] at h2;omega
 have al:∀ k,(((yv_ (lefT t) (rigT t+1)).take k).flatMap F).length<=201*201:=λk=>by
  have h1:=zQ_ (f:=F) (B:=201) (l:=(yv_ (lefT t) (rigT t+1)).take k) λx _=>by have:=fl x 300;rw [List.take_of_length_le (by rw [ys_];omega)] at this;exact this
  have h2:=List.length_take_le' k (yv_ (lefT t) (rigT t+1));rw [ys_] at h2;have h3:((yv_ (lefT t) (rigT t+1)).take k).length<=201:=by omega
  have h4:((yv_ (lefT t) (rigT t+1)).take k).length*201<=201*201:=Nat.mul_le_mul_right _ h3;omega
 refine xH_ ((yv_ (lefT t) (rigT t+1)).map U.int) (λk σ g' => ∃ (gs:G) (o4 o5:Option U),g'=h0 ++ .lst ((((yv_ (lefT t) (rigT t+1)).take k).flatMap F).map uP) :: gs/\σ=[some (uT t),some (.ref n1),some (.ref n2),some (.ref h0.length),o4,o5]) (λk σ g' _=>xp_) ⟨[],none,none,by simp,rfl⟩ (λk u σ g' hk hI => ?_) (λσ g' hI => ?_)
 .obtain ⟨gs,o4,o5,rfl,rfl⟩:=hI
  simp only [List.getElem?_map,Option.map_eq_some_iff] at hk;obtain ⟨x,hx,rfl⟩:=hk;have xm:=vN_.mp (List.mem_of_getElem? hx);simp? [gy,r3,r4];refine xH_ ((yv_ (lowY t) (topT t+1)).map U.int) (λm σ g' => ∃ (gs:G) (o5:Option U),g'=h0 ++ .lst ((((yv_ (lefT t) (rigT t+1)).take k).flatMap F++(((yv_ (lowY t) (topT t+1)).take m).filter λy=>zs_ t (x,y)).map λy=>(x,y)).map uP) :: gs/\σ=[some (uT t),some (.ref n1),some (.ref n2),some (.ref h0.length),some (.int x),o5]) (λk σ g' _=>xp_) ⟨gs,o5,by simp,rfl⟩ (λm u σ g' hm hI => ?_) (λσ g' hI => ?_)
  .obtain ⟨gs,o5,rfl,rfl⟩:=hI
   simp only [List.getElem?_map,Option.map_eq_some_iff] at hm;obtain ⟨y,hy,rfl⟩:=hm;have ym:=vN_.mp (List.mem_of_getElem? hy);have a1:=al k;have a2:=fl x m;simp? [eq_self];refine vH_ (p:=(x,y)) hn (by unfold xx_ t8_;simp only [];omega) λgs2 => ?_
   have as:h0 ++ .lst ((((yv_ (lefT t) (rigT t+1)).take k).flatMap F++(((yv_ (lowY t) (topT t+1)).take m).filter λy=>zs_ t (x,y)).map λy=>(x,y)).map uP) :: gs++gs2=h0 ++ .lst ((((yv_ (lefT t) (rigT t+1)).take k).flatMap F++(((yv_ (lowY t) (topT t+1)).take m).filter λy=>zs_ t (x,y)).map λy=>(x,y)).map uP) :: (gs++gs2):=by simp
   rw [as];cases hc:zs_ t (x,y) with
   | true =>
    have ap:xm_ h0.length (uP (x,y)) (h0 ++ .lst ((((yv_ (lefT t) (rigT t+1)).take k).flatMap F++(((yv_ (lowY t) (topT t+1)).take m).filter λy=>zs_ t (x,y)).map λy=>(x,y)).map uP) :: (gs++gs2))=.ok .non (h0 ++ .lst ((((yv_ (lefT t) (rigT t+1)).take k).flatMap F++(((yv_ (lowY t) (topT t+1)).take m).filter λy=>zs_ t (x,y)).map λy=>(x,y)).map uP++[uP (x,y)]) :: (gs++gs2)):=by
     rw [y6_ (gt _ _) (by rw [List.length_map,List.length_append];omega),st]
    simp? [gt,ap];refine ⟨gs++gs2,_,?_,rfl⟩;rw [List.take_succ,hy];simp [hc]
   | false =>
    simp? [eq_self];refine ⟨gs++gs2,_,?_,rfl⟩;rw [List.take_succ,hy];simp [hc]
  .obtain ⟨gs,o5,rfl,rfl⟩:=hI
   simp? [eq_self];refine ⟨gs,_,_,?_,rfl⟩;rw [List.take_succ,hx];simp [F,List.take_of_length_le]
 .obtain ⟨gs,o4,o5,rfl,rfl⟩:=hI
  simp? [eq_self];obtain ⟨hs,rfl⟩:=hs0;have z:=h (hs ++ .lst ((zp_ t).map uP) :: gs) (g++hs).length (by simp) (by rw [<-List.append_assoc];simp)
  rw [<-List.append_assoc] at z;simpa [zp_,F,List.take_of_length_le] using z
theorem sV_{a b:Int}(hb:b≠0)(hB:big b)(h:Q (uP (lowM a b)) g):wpC fns (d+1) 41 [.int a,.int b] g X Q:=by
 obtain ⟨g0,gB⟩:=qV_ (a:=a) hb hB;refine ze_ (by rfl) (by rfl) ?_;simp only [va_]
 simp? [wD_];refine m3_ (λm σ g'=>g'=g /\ ∃ (x y:Nat) (o:Option U),Nat.gcd x y=Nat.gcd a.natAbs b.natAbs/\y=m/\σ=[some (.int a),some (.int b),some (.int x),some (.int y),o]) ?_ b.natAbs _ _ ⟨rfl,a.natAbs,b.natAbs,none,rfl,rfl,rfl⟩;rintro m σ g' ⟨rfl,x,y,o,hg,rfl,rfl⟩;simp? [eq_self];refine z4_ (λk1 => ?_) λk1 => ?_
 .have y0:0 < y:=by simp at k1;omega
  have y1:(0:Int) < y:=by omega
  simp? [y1];refine ⟨x % y,Nat.mod_lt _ y0,y,x % y,some (.int ((x:Int) % y)),?_,rfl,?_⟩
  .rw [<-hg,Nat.gcd_comm y,<-Nat.gcd_rec,Nat.gcd_comm]
  .simp
 .have y0:y=0:=by simp at k1;omega
  subst y0;have hx:x=Nat.gcd a.natAbs b.natAbs:=by simpa using hg
  simp? [eq_self];refine z4_ (λk2 => ?_) λk2 => ?_
  .have k3:b < 0:=by simpa using k2
   have e:(0 - (x:Int))=w3_ a b:=by unfold w3_;rw [if_pos k3,hx];omega
   simp? [e,ty_ g0 gB];exact h
  .have k3 : ¬ b < 0:=by simpa using k2
   have e:(x:Int)=w3_ a b:=by unfold w3_;rw [if_neg k3,hx]
   simp? [e,ty_ g0 gB];exact h
theorem wo_(t:Tri):zh_ (ptA t) (ptB t) (ptC t)=wholeM t:=by simp only [zh_,wholeM,ptA,ptB,ptC];grind
theorem s8_(t:Tri)(p:Pt):(xY_ t p).sum=((wholeM t).natAbs:Int):=by
 have e:=cr0 t p;have e0:=wo_ t;rw [e] at e0;simp only [xY_,List.sum_cons,List.sum_nil,cr1,cr2,cr3];unfold zz_;rw [e];split <;> omega
theorem qj_(H:Ht)(t:Tri)(p:Pt):(H p*((wholeM t).natAbs:Int) - (zz_ t*zh_ p (ptB t) (ptC t)*H (ptA t)+(zz_ t*zh_ (ptA t) p (ptC t)*H (ptB t)+(zz_ t*zh_ (ptA t) (ptB t) p*H (ptC t)+0)))).natAbs=(sT_ H t p).natAbs:=by
 have e0:=wo_ t;have k:(H p*((wholeM t).natAbs:Int) - (zz_ t*zh_ p (ptB t) (ptC t)*H (ptA t)+(zz_ t*zh_ (ptA t) p (ptC t)*H (ptB t)+(zz_ t*zh_ (ptA t) (ptB t) p*H (ptC t)+0))))=sT_ H t p\/(H p*((wholeM t).natAbs:Int) - (zz_ t*zh_ p (ptB t) (ptC t)*H (ptA t)+(zz_ t*zh_ (ptA t) p (ptC t)*H (ptB t)+(zz_ t*zh_ (ptA t) (ptB t) p*H (ptC t)+0)))) = -(sT_ H t p):=by
  by_cases c:zh_ (ptA t) (ptB t) (ptC t) < 0
  .right
   have s:zz_ t = -1:=if_pos c;have w:((wholeM t).natAbs:Int) = -wholeM t:=by rw [<-e0];omega
   rw [s,w];unfold sT_ riH clH baH;simp only [to_,ws_,sY_,wholeM,zh_,ptA,ptB,ptC]
   grind
  .left
   have s:zz_ t=1:=if_neg c;have w:((wholeM t).natAbs:Int)=wholeM t:=by rw [<-e0];omega
   rw [s,w];unfold sT_ riH clH baH;simp only [to_,ws_,sY_,wholeM,zh_,ptA,ptB,ptC]
   grind
 rcases k with k | k
 .rw [k]
 .rw [k,Int.natAbs_neg]
theorem b7_:ran 3=[0,1,2]:=by decide
theorem sy_{u:U}{kvs:List (List Int×U)}{H:Ht}{t:Tri}(hP:P.ok)(ht:t∈shapesM P)(hH:hiH P H)(hu:asD u g=some kvs)(hk:∀ p,zE_ P p=true->yy_ kvs (yx_ p)=some (.int (H p)))(h:∀ gs,Q (uG H t) (g++gs)):wpC fns (d+5) 42 [u,uT t] g X Q:=by
 have hin:=(yP_ hP ht).1;obtain ⟨i1,i2,i3⟩:=wr_ hin;have hw:=(yP_ hP ht).2;have hn:=tV_ (yn_ hP ht);have hA:=hH _ i1;have hB:=hH _ i2;have hC:=hH _ i3;have sA:small (H (ptA t)):=zl_ (by omega) (by omega)
 have sB:small (H (ptB t)):=zl_ (by omega) (by omega)
 have sC:small (H (ptC t)):=zl_ (by omega) (by omega)
 have hws:=hP.ws;have hds:=hP.ds;have r3:zv_ 3=true:=zn_ (by decide) (by decide)
 refine ze_ (by rfl) (by rfl) ?_;simp only [vs_]
 simp? [eq_self];refine yg_ λgs1 n1 hn1 e1 => ?_;simp? [eq_self];refine uN_ hn λgs2 n2 hn2 e2 => ?_;simp? [e2];refine xH_ ((zp_ t).map uP) (λk σ g' => ∃ (gs:G) (T:Int) (o1 o2 o3 o4:Option U),g'=g++gs1++gs2++gs/\(k≠0->T=((wholeM t).natAbs:Int))/\σ=[some u,some (uT t),some (.ref n1),some (.int (((zp_ t).take k).foldl (z9_ H t) (-1,none)).1),some (uO (((zp_ t).take k).foldl (z9_ H t) (-1,none)).2),some (.int T),o1,o2,o3,o4]) (λk σ g' hI => ?_) ⟨[],1,_,_,_,_,by simp,λz=>absurd rfl z,rfl⟩ (λk x σ g' hk' hI => ?_) (λσ g' hI => ?_)
 .obtain ⟨gs,T,o1,o2,o3,o4,rfl,_⟩:=hI
  exact yp_ (zf_ e2)
 .obtain ⟨gs,T,o1,o2,o3,o4,rfl,hT,rfl⟩:=hI
  simp only [List.getElem?_map,Option.map_eq_some_iff] at hk';obtain ⟨p,hp,rfl⟩:=hk';have hpi:=tR_ hin (List.mem_of_getElem? hp);have hpl:=yi_.mp hpi;have hHp:=hH p hpi;have z1:small (H p):=zl_ (by omega) (by omega)
  have et:(zp_ t).take (k+1)=(zp_ t).take k++[p]:=by rw [List.take_succ,hp];rfl
  rw [et,List.foldl_append];simp? [eq_self];refine xV_ hn (by unfold xx_ t8_;omega) λgs3 n3 hn3 e3 => ?_
  have e3':(g++gs1++gs2++gs++gs3)[n3]? = some (.lst [.int (zz_ t*zh_ p (ptB t) (ptC t)),.int (zz_ t*zh_ (ptA t) p (ptC t)),.int (zz_ t*zh_ (ptA t) (ptB t) p)]):=e3;have e1':(g++gs1++gs2++gs++gs3)[n1]? = some (.lst [uP (ptA t),uP (ptB t),uP (ptC t)]):=zf_ (zf_ (zf_ e1));have sw:=s8_ t p;simp only [xY_] at sw;have dl:∀ q,zE_ P q=true->zA_ (.tup [.int q.1,.int q.2]) u (g++gs1++gs2++gs++gs3)=some (some (.int (H q))):=λq hq=>by rw [vW_ (zO_ (zO_ (zO_ (zO_ hu)))) yI_,hk q hq]
  simp? [pQ_,zu_,e3',intsOf,sw,r3];refine s9_ ([0,1,2]:List Int) U.int (λ_=>true) (λj => .int (if j=0 then zz_ t*zh_ p (ptB t) (ptC t)*H (ptA t) else if j=1 then zz_ t*zh_ (ptA t) p (ptC t)*H (ptB t) else zz_ t*zh_ (ptA t) (ptB t) p*H (ptC t))) (λg'=>g'=g++gs1++gs2++gs++gs3) [.int (zz_ t*zh_ p (ptB t) (ptC t)*H (ptA t)),.int (zz_ t*zh_ (ptA t) p (ptC t)*H (ptB t)),.int (zz_ t*zh_ (ptA t) (ptB t) p*H (ptC t))] rfl (λk g' _=>by rw [<-b7_];exact zI_) (λj hj => ?_) (by simp) rfl ?_
  .simp only [List.mem_cons,List.not_mem_nil,or_false] at hj
   rcases hj with rfl | rfl | rfl
   .simp? [eq_self]
    rintro g' rfl;simp? [e3',e1',dl _ i1,id,sA]
   .simp? [eq_self]
    rintro g' rfl;simp? [e3',e1',dl _ i2,id,sB]
   .simp? [eq_self]
    rintro g' rfl;simp? [e3',e1',dl _ i3,id,sC]
  .rintro g' rfl
   refine ⟨by simp,?_⟩
   have dl2:zA_ (.tup [.int p.1,.int p.2]) u (g++gs1++gs2++gs++gs3++[O.lst [.int (zz_ t*zh_ p (ptB t) (ptC t)*H (ptA t)),.int (zz_ t*zh_ (ptA t) p (ptC t)*H (ptB t)),.int (zz_ t*zh_ (ptA t) (ptB t) p*H (ptC t))]])=some (some (.int (H p))):=by rw [vW_ (zO_ (zO_ (zO_ (zO_ (zO_ hu))))) yI_,hk p hpi]
   have da:=qj_ H t p;simp? [pQ_,zu_,zj_,intsOf,List.sum_cons,List.sum_nil,dl2,id,z1,wD_,da];have dd:((sT_ H t p).natAbs:Int)=xi_ H t p:=rfl;rw [dd];refine z4_ (λk1 => ?_) λk1 => ?_
   .have k2:(((zp_ t).take k).foldl (z9_ H t) (-1,none)).1 < xi_ H t p:=by simpa using k1
    have er:[p].foldl (z9_ H t) (((zp_ t).take k).foldl (z9_ H t) (-1,none))=(xi_ H t p,some p):=if_pos k2;rw [er];simp? [eq_self];exact ⟨_,_,_,_,_,_,(List.append_assoc ..).trans (List.append_assoc ..),λ_=>rfl,rfl⟩
   .have k2 : ¬ (((zp_ t).take k).foldl (z9_ H t) (-1,none)).1 < xi_ H t p:=by simpa using k1
    have er:[p].foldl (z9_ H t) (((zp_ t).take k).foldl (z9_ H t) (-1,none))=((zp_ t).take k).foldl (z9_ H t) (-1,none):=if_neg k2;rw [er];simp? [eq_self];exact ⟨_,_,_,_,_,_,(List.append_assoc ..).trans (List.append_assoc ..),λ_=>rfl,rfl⟩
 .obtain ⟨gs,T,o1,o2,o3,o4,rfl,hT,rfl⟩:=hI
  have hne:(zp_ t).length≠0:=by
   have:=List.length_pos_of_mem (qG_ (t:=t));omega
  rw [List.length_map] at hT;have hT':=hT hne;subst hT';rw [List.length_map,List.take_length];simp? [eq_self];refine sV_ (by omega) (by unfold big yw_;omega) ?_
  simp? [eq_self];simp only [List.append_assoc];exact h _
theorem td_{u:U}{kvs:List (List Int×U)}{H:Ht}(hP:P.ok)(hu:asD u g=some kvs)(hk:∀ p,zE_ P p=true->yy_ kvs (yx_ p)=some (.int (H p)))(h:∀ (gs:G) (n:Nat),tY_ (g++gs) n P H->Q (.ref n) (g++gs)):wpC fns (d+1) 43 [uPl P,u] g X Q:=by
 have s1:=hP.ss;have hws:=hP.ws;have hds:=hP.ds;have r1:zv_ (P.w*P.s+1)=true:=zn_ (by omega) (by omega)
 have r2:zv_ (P.d*P.s+1)=true:=zn_ (by omega) (by omega)
 refine ze_ (by rfl) (by rfl) ?_;simp only [wm_]
 simp? [s1,r2];refine xH_ ((ran (P.d*P.s+1)).map U.int) (λk σ g' => ∃ (ms:List Nat) (gs:G) (o:Option U),g'=g ++ .lst (ms.map U.ref) :: gs/\ms.length=k/\(∀ (y m:Nat),ms[y]? = some m->g.length < m/\g'[m]? = some (.lst ((ran (P.w*P.s+1)).map λx => .int (H (x,(y:Int))))))/\σ=[some (uPl P),some u,some (.ref g.length),o]) (λk σ g' _=>zI_) ⟨[],[],_,rfl,rfl,λy m e=>by simp at e,rfl⟩ (λk u' σ g' hk' hI => ?_) (λσ g' hI => ?_)
 .obtain ⟨ms,gs,o,rfl,hl,hm,rfl⟩:=hI
  simp only [List.getElem?_map,Option.map_eq_some_iff] at hk';obtain ⟨y,hy,rfl⟩:=hk';obtain ⟨rfl,hy2⟩:=qO_ hy;simp? [y7_,s1,r1];refine s9_ (ran (P.w*P.s+1)) U.int (λ_=>true) (λx => .int (H (x,(k:Int)))) (λg'=>g'=g ++ .lst (ms.map U.ref) :: gs) ((ran (P.w*P.s+1)).map λx => .int (H (x,(k:Int)))) (by rw [vQ_]) (λk g' _=>zI_) (λx hx => ?_) (by rw [zD_];omega) rfl ?_
  .have hx2:=ta_.mp hx
   have dl:zA_ (.tup [.int x,.int (k:Int)]) u (g ++ .lst (ms.map U.ref) :: gs)=some (some (.int (H (x,(k:Int))))):=by
    rw [vW_ (zO_ hu) yI_,hk (x,(k:Int)) (uo_ ⟨by omega,by omega,by omega,by omega⟩)]
   simp? [eq_self];rintro g' rfl;simp? [dl,id]
  .rintro g' rfl
   have ap:xm_ g.length (.ref (g++O.lst (ms.map U.ref) :: gs).length) (g++O.lst (ms.map U.ref) :: gs++[.lst ((ran (P.w*P.s+1)).map λx => .int (H (x,(k:Int))))])=.ok .non (g ++ .lst ((ms++[(g++O.lst (ms.map U.ref) :: gs).length]).map U.ref) :: (gs++[.lst ((ran (P.w*P.s+1)).map λx => .int (H (x,(k:Int))))])):=by
    rw [y6_ (xs:=ms.map U.ref) (by simp) (by rw [List.length_map];omega)]
    simp
   refine ⟨by rw [List.length_map,zD_];omega,?_⟩
   simp? [ap];refine ⟨_,_,_,rfl,by simp [hl],λy m e => ?_,rfl⟩
   rcases Nat.lt_or_ge y ms.length with c | c
   .rw [List.getElem?_append_left c] at e
    obtain ⟨m1,m2⟩:=hm y m e;refine ⟨m1,?_⟩;have c1:m < (g++O.lst (ms.map U.ref) :: gs).length:=(List.getElem?_eq_some_iff.mp m2).1;rw [List.getElem?_append_right (by omega)] at m2 ⊢
    obtain ⟨j,hj⟩:∃ j,m - g.length=j+1:=⟨m - g.length - 1,by omega⟩
    rw [hj,List.getElem?_cons_succ] at m2 ⊢;exact zf_ m2
   .have ey:y=ms.length:=by
     have:=(List.getElem?_eq_some_iff.mp e).1;simp at this;omega
    subst ey;rw [hl];simp at e;subst e;refine ⟨by omega,?_⟩
    rw [show g++O.lst ((ms++[(g++O.lst (ms.map U.ref) :: gs).length]).map U.ref) :: (gs++[O.lst ((ran (P.w*P.s+1)).map λx => .int (H (x,(k:Int))))])=(g++O.lst ((ms++[(g++O.lst (ms.map U.ref) :: gs).length]).map U.ref) :: gs)++[O.lst ((ran (P.w*P.s+1)).map λx => .int (H (x,(k:Int))))] by simp]
    rw [List.getElem?_append_right (by simp)]
    simp
 .obtain ⟨ms,gs,o,rfl,hl,hm,rfl⟩:=hI
  simp? [eq_self];rw [List.length_map,zD_] at hl;refine h _ _ ⟨ms,y7_,hl,λy m e=>(hm y m e).2⟩
theorem qQ_:(r7_.all λP=>decide (0 < (yj_ P).length))=true:=by decide +kernel
theorem rP_{P:Plan}(h:P.ok):0 < (yj_ P).length:=by
 have:=List.all_eq_true.mp qQ_ P (yG_ h);simpa using this
theorem ue_(hP:P.ok)(hb:Bag g)(h:∀ (t:Tri) (g':G),t∈shapesM P->Fr g g'->Q (uT t) g'):wpC fns (d+3) 44 [.ref 2,uPl P] g X Q:=by
 have hl:=xC_ hP;have hp:=rP_ hP;refine ze_ (by rfl) (by rfl) ?_;simp only [x4_]
 simp? [eq_self];refine uh_ hP λgsr n hn e => ?_;simp? [e,List.length_map];refine zB_ hb.app (by omega) (by omega) λr g2 r0 r1 f2 => ?_
 have hn3:3<=n:=by have:=hb.len;omega
 have e2:=f2.get n _ hn3 e;obtain ⟨t0,ht0,hu⟩:=uW_ (f:=uT) r0 r1;simp? [e2,hu];refine zB_ f2.bag (by omega) (by omega) λk g3 k0 k1 f3 => ?_
 have rk:zv_ k=true:=zn_ (by omega) (by omega)
 have fr3:Fr g g3:=((Fr.app hb).trans f2).trans f3;simp? [rk];refine xH_ ((ran k).map U.int) (λ_ σ g' => ∃ (t:Tri) (o:Option U),t∈shapesM P/\Fr g g'/\σ=[some (.ref 2),some (uPl P),some (.ref n),some (uT t),o]) (λk σ g' _=>zI_) ⟨t0,_,tr_ ht0,fr3,rfl⟩ (λk u σ g' hk hI => ?_) (λσ g' hI => ?_)
 .obtain ⟨t,o,ht,fr,rfl⟩:=hI
  simp? [eq_self];refine xf_ ?_;cases hm:z6_ t with
  | none =>
   simp? [uO,z8_];exact ⟨t,_,ht,fr,rfl⟩
  | some m =>
   simp? [uO,z8_];refine vU_ hm λgs4 n4 hn4 e4 => ?_;have h2:(zi_ t).length=2:=by rw [yb_ hm];rfl
   simp? [eq_self];refine zB_ fr.bag.app (by decide) (by decide) λr g5 r0 r1 f5 => ?_
   have e5:=f5.get n4 _ (by have:=fr.bag.len;omega) e4
   obtain ⟨t1,ht1,hu1⟩:=uW_ (f:=uT) (l:=zi_ t) r0 (by rw [h2];exact r1)
   simp? [e5,hu1];exact ⟨t1,_,u3_ hP ht ht1,(fr.trans (Fr.app fr.bag)).trans f5,rfl⟩
 .obtain ⟨t,o,ht,fr,rfl⟩:=hI
  simp? [eq_self];exact h t g' ht fr
theorem u0_{a b:Int}(hb:b≠0):∃ G:Int,G≠0/\a=G*(lowM a b).1/\b=G*(lowM a b).2:=by
 obtain ⟨h1,h2⟩:=np_ (a:=a) hb;have g0:w3_ a b≠0:=by unfold w3_;split <;> omega
 have ex:∀ x:Int,(Nat.gcd a.natAbs b.natAbs:Int) ∣ x->x=w3_ a b*fdv x (w3_ a b):=λx hx=>by
  have hd:w3_ a b ∣ x:=by
   unfold w3_;split
   .exact Int.neg_dvd.mpr hx
   .exact hx
  obtain ⟨p,hp⟩:=hd;have:fdv x (w3_ a b)=p:=by
   unfold fdv;rw [hp];split
   .exact Int.mul_ediv_cancel_left _ g0
   .exact Int.mul_fdiv_cancel_left _ g0
  rw [this];exact hp
 exact ⟨w3_ a b,g0,ex a (Int.dvd_natAbs.mp (Int.ofNat_dvd.mpr (Nat.gcd_dvd_left _ _))),ex b (Int.dvd_natAbs.mp (Int.ofNat_dvd.mpr (Nat.gcd_dvd_right _ _)))⟩
theorem wb_{a b:Int}(hb:b≠0)(ma:mid a)(mb:mid b):mid (lowM a b).1/\mid (lowM a b).2:=by
 obtain ⟨G,g0,e1,e2⟩:=u0_ (a:=a) hb;have ab:∀ x y:Int,x=G*y->y.natAbs<=x.natAbs:=λx y e=>by
  rw [e,Int.natAbs_mul];exact Nat.le_mul_of_pos_left _ (by omega)
 have h1:=ab _ _ e1;have h2:=ab _ _ e2;unfold mid at *;omega
theorem tF_{r w k:Int}(hw:w≠0):(lowM (r+k*w) w).1*(lowM r w).2=((lowM r w).1+k*(lowM r w).2)*(lowM (r+k*w) w).2:=by
 obtain ⟨G,g0,e1,e2⟩:=u0_ (a:=r) hw;obtain ⟨G',g0',e1',e2'⟩:=u0_ (a:=r+k*w) hw;generalize (lowM r w).1=n1 at *;generalize (lowM r w).2=d1 at *;generalize (lowM (r+k*w) w).1=n2 at *;generalize (lowM (r+k*w) w).2=d2 at *;have q:G*d1=G'*d2:=by rw [<-e2,<-e2']
 have q2:G'*n2=G*n1+k*(G*d1):=by rw [<-e1',<-e1,<-e2]
 have m:(G*G')*(n2*d1)=(G*G')*((n1+k*d1)*d2):=by grind
 exact Int.eq_of_mul_eq_mul_left (Int.mul_ne_zero g0 g0') m
noncomputable def y2_(H:Ht)(a b c:Int):Ht:=λp=>H p+a*p.1+b*p.2+c
noncomputable def w4_(H:Ht):Ht:=λp=>0 - H p
theorem vC_(H:Ht)(a b c:Int)(t:Tri):riH (y2_ H a b c) t=riH H t+a*wholeM t:=by
 simp only [y2_,to_,wholeM,ptA,ptB,ptC];grind
theorem vV_(H:Ht)(a b c:Int)(t:Tri):clH (y2_ H a b c) t=clH H t+b*wholeM t:=by
 simp only [y2_,ws_,wholeM,ptA,ptB,ptC];grind
theorem op_(H:Ht)(a b c:Int)(t:Tri)(p:Pt):sT_ (y2_ H a b c) t p=sT_ H t p:=by
 unfold sT_ baH;rw [vC_,vV_];simp only [sY_];have e1:=vC_ H a b c t;have e2:=vV_ H a b c t;simp only [riH,clH] at e1 e2;rw [e1,e2];simp only [y2_,ptA,ptB,ptC]
 grind
theorem pB_(H:Ht)(t:Tri)(p:Pt):sT_ (w4_ H) t p = -(sT_ H t p):=by
 unfold sT_ riH clH baH;simp only [w4_,to_,ws_,sY_]
 grind
theorem vg_{H H':Ht}{t:Tri}(h:∀ p,xi_ H' t p=xi_ H t p):wx_ H' t=wx_ H t:=by
 unfold wx_;have:z9_ H' t=z9_ H t:=by funext a p;unfold z9_;rw [h p]
 rw [this]
theorem p8_(H:Ht)(a b c:Int)(t:Tri):uG (y2_ H a b c) t=uG H t:=by
 have:wx_ (y2_ H a b c) t=wx_ H t:=vg_ λp=>by unfold xi_;rw [op_]
 simp only [uG,eq_,this]
theorem pS_(H:Ht)(t:Tri):uG (w4_ H) t=uG H t:=by
 have:wx_ (w4_ H) t=wx_ H t:=vg_ λp=>by unfold xi_;rw [pB_,Int.natAbs_neg]
 simp only [uG,eq_,this]
noncomputable def dO(o:Option Pt):Dt:=match o with
 | none => .non
 | some p=>dP p
theorem cM_{g:G}{o:Option Pt}:Rep g (dO o) (uO o):=by
 cases o with
 | none=>exact ka_
 | some p=>exact ic_
noncomputable def dG(H:Ht)(t:Tri):Dt := .tup [dP (eq_ H t),dO (wx_ H t).2]
theorem sv_{g:G}{H:Ht}{t:Tri}:Rep g (dG H t) (uG H t):=by
 simp only [dG,Rep];refine ⟨_,rfl,?_⟩;simp only [Reps];exact ⟨_,_,rfl,ic_,_,_,rfl,cM_,rfl⟩
theorem cu_{n:Nat}{H:Ht}{t:Tri}:(dG H t).ok (n+3):=by
 unfold dG;rw [Dt.ok_tup];refine ⟨by simp,λD h => ?_⟩
 simp at h;rcases h with rfl | rfl
 .exact bT_
 .cases (wx_ H t).2 with
  | none=>exact hI_
  | some p=>exact bT_
theorem nD_(hP:P.ok){H:Ht}{t:Tri}(ht:t∈shapesM P)(hH:hiH P H):mid (riH H t)/\mid (clH H t)/\mid (wholeM t):=by
 obtain ⟨a1,a2,a3,a4,a5,a6⟩:=nd_ (yn_ hP ht);obtain ⟨h1,h2,h3⟩:=wr_ (yP_ hP ht).1;have hw:=(yP_ hP ht).2.2;have hA:=hH _ h1;have hB:=hH _ h2;have hC:=hH _ h3;have r:(riH H t).natAbs<=2000*62+2000*62:=nb_ (wy_ (A:=2000) (B:=62) (by omega) (by omega)) (wy_ (A:=2000) (B:=62) (by omega) (by omega))
 have c:(clH H t).natAbs<=2000*62+2000*62:=nb_ (wy_ (A:=2000) (B:=62) (by omega) (by omega)) (wy_ (A:=2000) (B:=62) (by omega) (by omega))
 unfold mid;omega
theorem sQ_{k:Nat}{p:Pt}(h:(placesM P)[k]? = some p):p ∉ (placesM P).take k:=by
 intro hm;have hs:=wZ_ P;obtain ⟨hk,e⟩:=List.getElem?_eq_some_iff.mp h;obtain ⟨j,hj,e2⟩:=List.mem_iff_getElem.mp hm;rw [List.getElem_take] at e2;have hj2:j < k:=by rw [List.length_take] at hj;omega
 have:=List.pairwise_iff_getElem.mp hs j k (by omega) hk hj2
 rw [e2,e] at this;exact lQ_ this
theorem yV_{u:U}{kvs:List (List Int×U)}{H:Ht}(hP:P.ok)(hu:asD u g=some kvs)(hk:∀ p,zE_ P p=true->yy_ kvs (yx_ p)=some (.int (H p)))(hH:hiH P H)(h:∀ (gs:G) (v hN gN:Nat),g.length<=v->v < hN->v < gN->LandAt (g++gs) v P H hN gN->Q (.ref v) (g++gs)):wpC fns (d+6) 45 [uPl P,u] g X Q:=by
 refine ze_ (by rfl) (by rfl) ?_;simp only [wp_]
 simp? [eq_self];refine td_ hP hu hk λgs n R => ?_;simp? [eq_self];refine wM_ hP R hH λgs2 hN gN h1 h2 L => ?_;simp? [eq_self];rw [List.append_assoc] at L ⊢;exact h _ _ hN gN (by simp) h1 h2 L
theorem law_ok(ns:List Int):wpC fns (d+12) 46 [.fro (ns.map U.int)] [] X λu _=>u=.bl true:=by
 refine ze_ (by rfl) (by rfl) ?_;simp only [gu_]
 simp? [eq_self];refine s3_ ns λzs => ?_;have hb:Bag [.lst (zs.map U.int),.lst (zs.map U.int),om_ 1 0 7]:=⟨zs,0,7,rfl,rfl⟩;revert hb;generalize ([.lst (zs.map U.int),.lst (zs.map U.int),om_ 1 0 7]:G)=g0;intro hb;simp? [eq_self];refine tb_ hb λP g1 hP f1 => ?_;have hl:=wF_ hP;have hws:=hP.ws;have hds:=hP.ds;simp? [eq_self];refine zB_ f1.bag (by decide) (by decide) λac g2 a0 a1 f2 => ?_
 simp? [eq_self];refine zB_ f2.bag (by decide) (by decide) λal g3 b0 b1 f3 => ?_
 simp? [eq_self];refine zB_ f3.bag (by decide) (by decide) λra g4 c0 c1 f4 => ?_
 have b4:=f4.bag;have l4:=b4.len;simp? [eq_self];refine vD_ hP λgs5 n5 hn5 e5 => ?_;have z1:small (ac - 10):=zl_ (by omega) (by omega)
 have z2:small (al - 10):=zl_ (by omega) (by omega)
 simp only [List.length_append,List.length_cons,List.length_nil] at hn5;simp? [e5,List.length_append];have F5:Fr g4 (g4++[O.dic []]++[O.dic []]++[O.dic []]++gs5):=by
  simp only [List.append_assoc];exact Fr.app b4
 refine xH_ ((placesM P).map uP) (λk σ g' => ∃ (H:Ht) (k6 k7 k8:List (List Int×U)) (o:Option U),Fr g4 g'/\g'[n5]? = some (.lst ((placesM P).map uP))/\g'[g4.length]? = some (.dic k6)/\g'[g4.length+1]? = some (.dic k7)/\g'[g4.length+1+1]? = some (.dic k8)/\k6.length<=k/\k7.length<=k/\k8.length<=k/\(∀ p∈(placesM P).take k,yy_ k6 (yx_ p)=some (.int (H p))/\yy_ k7 (yx_ p)=some (.int (y2_ H (ac - 10) (al - 10) (ra - 100) p))/\yy_ k8 (yx_ p)=some (.int (w4_ H p)))/\(∀ p,-200<=H p/\H p<=200)/\σ=[some (.fro (ns.map U.int)),some (.ref 2),some (uPl P),some (.int (ac - 10)),some (.int (al - 10)),some (.int (ra - 100)),some (.ref g4.length),some (.ref (g4.length+1)),some (.ref (g4.length+1+1)),o,none,none,none,none,none,none,none,none,none]) (λk σ g' hI => ?_) ⟨λ_=>0,[],[],[],_,F5,e5,?_,?_,?_,by simp,by simp,by simp,λp hp=>by simp at hp,λ_=>(by decide:(-200:Int)<=0/\(0:Int)<=200),rfl⟩ (λk u σ g' hk hI => ?_) (λσ g' hI => ?_)
 .obtain ⟨H,k6,k7,k8,o,_,e,_⟩:=hI
  exact yp_ e
 .simp
 .simp only [List.append_assoc];rw [List.getElem?_append_right (by omega),show g4.length+1 - g4.length=1 by omega];rfl
 .simp only [List.append_assoc];rw [List.getElem?_append_right (by omega),show g4.length+1+1 - g4.length=2 by omega];rfl
 .obtain ⟨H,k6,k7,k8,o,fr,el,e6,e7,e8,l6,l7,l8,hget,hH,rfl⟩:=hI
  simp only [List.getElem?_map,Option.map_eq_some_iff] at hk;obtain ⟨p,hp,rfl⟩:=hk;have hkl:k < (placesM P).length:=(List.getElem?_eq_some_iff.mp hp).1;have new:=sQ_ hp;have et:(placesM P).take (k+1)=(placesM P).take k++[p]:=by rw [List.take_succ,hp];rfl
  simp? [eq_self];refine zB_ fr.bag (by decide) (by decide) λv g6 v0 v1 f6 => ?_
  have el':=f6.get _ _ (by omega) el
  have e6':=f6.get _ _ (by omega) e6
  have e7':=f6.get _ _ (by omega) e7
  have e8':=f6.get _ _ (by omega) e8
  have fr6:=fr.trans f6;have sb6:∀ σ,subAt (.ref g4.length) (.tup [.int p.1,.int p.2]) (.int (v - 200)) σ g6=.ok (.nx σ) (g6.set g4.length (.dic (dput k6 (yx_ p) (.int (v - 200))))):=λσ=>yD_ e6' yI_ (by omega)
  obtain ⟨h6,hh6⟩:∃ h6,h6=g6.set g4.length (.dic (dput k6 (yx_ p) (.int (v - 200)))):=⟨_,rfl⟩;have F6:Fr g4 h6:=by rw [hh6];exact Fr.setNew fr6 (by omega) (by omega)
  have q6:h6[g4.length]? = some (.dic (dput k6 (yx_ p) (.int (v - 200)))):=by rw [hh6];exact yE_ e6'
  have q7:h6[g4.length+1]? = some (.dic k7):=by rw [hh6,List.getElem?_set_ne (by omega)];exact e7'
  have q8:h6[g4.length+1+1]? = some (.dic k8):=by rw [hh6,List.getElem?_set_ne (by omega)];exact e8'
  have ql:h6[n5]? = some (.lst ((placesM P).map uP)):=by rw [hh6,List.getElem?_set_ne (by omega)];exact el'
  rw [<-hh6] at sb6;have dl6:zA_ (.tup [.int p.1,.int p.2]) (.ref g4.length) h6=some (some (.int (v - 200))):=by rw [zT_ q6 yI_,show yx_ (p.1,p.2)=yx_ p from rfl,zF_,if_pos rfl]
  have sb7:∀ σ,subAt (.ref (g4.length+1)) (.tup [.int p.1,.int p.2]) (.int (v - 200+(ac - 10)*p.1+(al - 10)*p.2+(ra - 100))) σ h6=.ok (.nx σ) (h6.set (g4.length+1) (.dic (dput k7 (yx_ p) (.int (v - 200+(ac - 10)*p.1+(al - 10)*p.2+(ra - 100)))))):=λσ=>yD_ q7 yI_ (by omega)
  obtain ⟨h7,hh7⟩:∃ h7,h7=h6.set (g4.length+1) (.dic (dput k7 (yx_ p) (.int (v - 200+(ac - 10)*p.1+(al - 10)*p.2+(ra - 100))))):=⟨_,rfl⟩;have F7:Fr g4 h7:=by rw [hh7];exact Fr.setNew F6 (by omega) (by omega)
  have r6:h7[g4.length]? = some (.dic (dput k6 (yx_ p) (.int (v - 200)))):=by rw [hh7,List.getElem?_set_ne (by omega)];exact q6
  have r7:h7[g4.length+1]? = some (.dic (dput k7 (yx_ p) (.int (v - 200+(ac - 10)*p.1+(al - 10)*p.2+(ra - 100))))):=by rw [hh7];exact yE_ q7
  have r8:h7[g4.length+1+1]? = some (.dic k8):=by rw [hh7,List.getElem?_set_ne (by omega)];exact q8
  have rl:h7[n5]? = some (.lst ((placesM P).map uP)):=by rw [hh7,List.getElem?_set_ne (by omega)];exact ql
  rw [<-hh7] at sb7;have dl7:zA_ (.tup [.int p.1,.int p.2]) (.ref g4.length) h7=some (some (.int (v - 200))):=by rw [zT_ r6 yI_,show yx_ (p.1,p.2)=yx_ p from rfl,zF_,if_pos rfl]
  have sb8:∀ σ,subAt (.ref (g4.length+1+1)) (.tup [.int p.1,.int p.2]) (.int (0 - (v - 200))) σ h7=.ok (.nx σ) (h7.set (g4.length+1+1) (.dic (dput k8 (yx_ p) (.int (0 - (v - 200)))))):=λσ=>yD_ r8 yI_ (by omega)
  simp? [sb6,dl6,id,z1,z2,sb7,dl7,sb8];refine ⟨λq=>if q=p then v - 200 else H q,dput k6 (yx_ p) (.int (v - 200)),dput k7 (yx_ p) (.int (v - 200+(ac - 10)*p.1+(al - 10)*p.2+(ra - 100))),dput k8 (yx_ p) (.int (0 - (v - 200))),_,Fr.setNew F7 (by omega) (by omega),?_,?_,?_,yE_ r8,Nat.le_trans xs_ (by omega),Nat.le_trans xs_ (by omega),Nat.le_trans xs_ (by omega),λq hq => ?_,λq => ?_,rfl⟩
  .rw [List.getElem?_set_ne (by omega)];exact rl
  .rw [List.getElem?_set_ne (by omega)];exact r6
  .rw [List.getElem?_set_ne (by omega)];exact r7
  .rw [zF_,zF_,zF_]
   by_cases c:q=p
   .subst c
    simp [y2_,w4_]
   .have ck : ¬ yx_ p=yx_ q:=λz=>c (sj_ z).symm
    rw [if_neg ck,if_neg ck,if_neg ck];rw [et,List.mem_append] at hq;rcases hq with hq | hq
    .have:=hget q hq
     simp only [y2_,w4_,if_neg c] at this ⊢;exact this
    .simp at hq;exact absurd hq c
  .show -200<=(if q=p then v - 200 else H q)/\(if q=p then v - 200 else H q)<=200
   split
   .omega
   .exact hH q
 .obtain ⟨H,k6,k7,k8,o,fr,el,e6,e7,e8,l6,l7,l8,hget,hH,rfl⟩:=hI
  rw [List.length_map,List.take_length] at hget;have hi1:hiH P H:=λp hp=>by have:=hH p;omega
  have hi2:hiH P (y2_ H (ac - 10) (al - 10) (ra - 100)):=λp hp=>by
   have hp':=yi_.mp hp;have:=hH p;have q1:=wy_ (a:=ac - 10) (b:=p.1) (A:=10) (B:=24) (by omega) (by omega)
   have q2:=wy_ (a:=al - 10) (b:=p.2) (A:=10) (B:=24) (by omega) (by omega)
   unfold y2_;omega
  have hi3:hiH P (w4_ H):=λp hp=>by have:=hH p;unfold w4_;omega
  have a6:asD (.ref g4.length) g'=some k6:=by simp only [asD,e6]
  have a7:asD (.ref (g4.length+1)) g'=some k7:=by simp only [asD,e7]
  have a8:asD (.ref (g4.length+1+1)) g'=some k8:=by simp only [asD,e8]
  have hg6:∀ p,zE_ P p=true->yy_ k6 (yx_ p)=some (.int (H p)):=λp hp=>(hget p (yT_.mpr hp)).1;have lf:=fr.len;have b5:=fr.bag;have b6:=b5.len;simp? [eq_self];refine yV_ hP a6 hg6 hi1 λgsA vA hA gA vA1 hA1 gA1 LA => ?_;simp? [eq_self];refine yV_ hP (zO_ a7) (λp hp=>(hget p (yT_.mpr hp)).2.1) hi2 λgsB vB hB gB vB1 hB1 gB1 LB => ?_;simp? [eq_self];refine yV_ hP (zO_ (zO_ a8)) (λp hp=>(hget p (yT_.mpr hp)).2.2) hi3 λgsC vC hC gC vC1 hC1 gC1 LC => ?_;have ltA:=LA.lt;have ltB:=LB.lt;have LA':LandAt (g'++gsA++gsB++gsC) vA P H hA gA:=LA.app.app;have LB':LandAt (g'++gsA++gsB++gsC) vB P (y2_ H (ac - 10) (al - 10) (ra - 100)) hB gB:=LB.app;have bb:Bag (g'++gsA++gsB++gsC):=b5.app.app.app;have e6':(g'++gsA++gsB++gsC)[g4.length]? = some (.dic k6):=zf_ (zf_ (zf_ e6));have e6l:g4.length < g'.length:=(List.getElem?_eq_some_iff.mp e6).1;simp only [List.length_append] at vB1 vC1 ltA ltB;generalize g'++gsA++gsB++gsC=g8 at LA' LB' LC bb e6';have r10:zv_ 10=true:=zn_ (by decide) (by decide)
  simp? [r10];refine xH_ ((ran 10).map U.int) (λk σ g'=>Bag g'/\g'[g4.length]? = some (.dic k6)/\LandAt g' vA P H hA gA/\LandAt g' vB P (y2_ H (ac - 10) (al - 10) (ra - 100)) hB gB/\LandAt g' vC P (w4_ H) hC gC /\ ∃ o0 o1 o2 o3 o4 o5,σ=[some (.fro (ns.map U.int)),some (.ref 2),some (uPl P),some (.int (ac - 10)),some (.int (al - 10)),some (.int (ra - 100)),some (.ref g4.length),some (.ref (g4.length+1)),some (.ref (g4.length+1+1)),o0,some (.ref vA),some (.ref vB),some (.ref vC),some (.bl true),o1,o2,o3,o4,o5]) (λk σ g' _=>zI_) ⟨bb,e6',LA',LB',LC,_,_,_,_,_,_,rfl⟩ (λk u σ g' hk hI => ?_) (λσ g' hI => ?_)
  .obtain ⟨b9,e9,LA9,LB9,LC9,o0,o1,o2,o3,o4,o5,rfl⟩:=hI
   simp? [eq_self];refine ue_ hP b9 λt g10 ht f10 => ?_;have LA10:=LA9.fr f10 (by omega) (by omega) (by omega)
   have LB10:=LB9.fr f10 (by omega) (by omega) (by omega)
   have LC10:=LC9.fr f10 (by omega) (by omega) (by omega)
   have e10:=f10.get _ _ (by omega) e9
   obtain ⟨edA,trA,dA,doA,unA,iA⟩:=LA10.ins;unfold s5_ at iA;simp? [iA];refine xL_ hP LA10 hi1 ht λg11 LA11 K11 => ?_;have LB11:=LB10.kp K11 (by omega) (by omega) (by omega)
   have LC11:=LC10.kp K11 (by omega) (by omega) (by omega)
   have e11:=K11.get _ _ (by omega) e10
   have b11:=Bag.kp f10.bag K11 (by omega)
   simp? [eq_self];refine sy_ hP ht hi1 (kvs:=k6) (by simp only [asD,e11]) hg6 λgs12 => ?_
   simp? [eq_self];refine yS_ 3 (dG H t) _ _ _ cu_ sv_ sv_ ?_;have LB12:=LB11.app (gs:=gs12);obtain ⟨edB,trB,dB,doB,unB,iB⟩:=LB12.ins;unfold s5_ at iB;simp? [iB];refine xL_ hP LB12 hi2 ht λg13 LB13 K13 => ?_;rw [p8_];have LA13:=(LA11.app (gs:=gs12)).kp K13 (by omega) (by omega) (by omega)
   have LC13:=(LC11.app (gs:=gs12)).kp K13 (by omega) (by omega) (by omega)
   have e13:=K13.get _ _ (by omega) (zf_ (gs:=gs12) e11)
   have b13:=Bag.kp (b11.app (gs:=gs12)) K13 (by omega)
   simp? [eq_self];refine yS_ 3 (dG H t) _ _ _ cu_ sv_ sv_ ?_;obtain ⟨edC,trC,dC,doC,unC,iC⟩:=LC13.ins;unfold s5_ at iC;simp? [iC];refine xL_ hP LC13 hi3 ht λg14 LC14 K14 => ?_;rw [pS_];have LA14:=LA13.kp K14 (by omega) (by omega) (by omega)
   have LB14:=LB13.kp K14 (by omega) (by omega) (by omega)
   have e14:=K14.get _ _ (by omega) e13
   have b14:=Bag.kp b13 K14 (by omega)
   simp? [eq_self];refine yS_ 3 (dG H t) _ _ _ cu_ sv_ sv_ ?_;simp? [eq_self];refine rL_ hP LA14 hi1 ht λgs15 => ?_;simp? [eq_self];refine rL_ hP (LB14.app (gs:=gs15)) hi2 ht λgs16 => ?_;rw [vC_,vV_];have w0:wholeM t≠0:=by have:=(yP_ hP ht).2.1;omega
   obtain ⟨m1,m2,m3⟩:=nD_ hP ht hi1;obtain ⟨m4,m5,_⟩:=nD_ hP ht hi2;rw [vC_] at m4;rw [vV_] at m5;have p1:=wb_ w0 m1 m3;have p2:=wb_ w0 m2 m3;have p3:=wb_ w0 m4 m3;have p4:=wb_ w0 m5 m3;have s1:=tF_ (r:=riH H t) (w:=wholeM t) (k:=ac - 10) w0;have s2:=tF_ (r:=clH H t) (w:=wholeM t) (k:=al - 10) w0;generalize lowM (riH H t+(ac - 10)*wholeM t) (wholeM t)=x3 at *;generalize lowM (clH H t+(al - 10)*wholeM t) (wholeM t)=x4 at *;generalize lowM (riH H t) (wholeM t)=x1 at *;generalize lowM (clH H t) (wholeM t)=x2 at *;have big3:∀ (k a b:Int),-10<=k->k<=10->mid a->mid b->big (a+k*b):=λk a b k1 k2 ha hb=>by
    have:=wy_ (a:=k) (b:=b) (A:=10) (B:=10000000000000000000000000000) (by omega) (by unfold mid at hb;omega)
    unfold mid at ha;unfold big yw_;omega
   have o1:=xA_ p3.1.big p1.2.big;have o2:=xA_ (big3 (ac - 10) _ _ (by omega) (by omega) p1.1 p1.2) p3.2.big
   have o3:=xA_ p4.1.big p2.2.big;have o4:=xA_ (big3 (al - 10) _ _ (by omega) (by omega) p2.1 p2.2) p4.2.big
   simp? [o1,o2,o3,o4,z1,z2,s1,s2];exact ⟨b14.app.app,zf_ (zf_ e14),LA14.app.app,LB14.app.app,LC14.app.app,_,_,_,_,_,_,rfl⟩
  .obtain ⟨b9,e9,LA9,LB9,LC9,o0,o1,o2,o3,o4,o5,rfl⟩:=hI
   simp? [eq_self]
end
theorem run(ns:List Int)(h:ns.length<=63):∃ fu g',zb_ fns fu 40 46 [.fro (ns.map U.int)] []=.ok (.bl true) g':=by
 obtain ⟨fu,u,g',e,q⟩:=km_ (law_ok (d:=28) (X:=λ_ _ _=>False) ns);subst q;exact ⟨fu,g',e⟩
end
end Lk40
open PySem PySem.W PyProof.Rows
set_option maxRecDepth 100000 in
set_option maxHeartbeats 0 in
theorem PySem.Challenge.cw_braemantle_k40_whole_tilted_lands_holds : PySem.Challenge.rw_braemantle_k40_whole_tilted_lands.Holds := by
 refine PI.k9_ (l:=PySem.Challenge.rw_braemantle_k40_whole_tilted_lands) (T:=Lk40.T) (ms:=Lk40.ms) (is:=Lk40.sA_) (fns:=Lk40.fns) (loose:=Lk40.loose) (d:=40) (i:=46) (N:=20000) (x := "_law_script") (by kernel_rfl) Lk40.all (by kernel_rfl) (by kernel_rfl) (by kernel_rfl) (by kernel_rfl) (by kernel_rfl) ⟨rfl,rfl,rfl,rfl,rfl,by decide +kernel⟩ ?hw rfl ⟨rfl,by decide,by decide⟩ rfl rfl rfl rfl rfl Lk40.run
 case hw=>w_witness2
