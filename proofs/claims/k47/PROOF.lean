import PyProof.Rows.All
import KE.KDictOf
import KE.KDictSum
import KE.KFromBytes
import KE.KIsAll
import KE.KRevSl
import KE.KSortTup
import KE.KUnpack
import PySem.Challenge.RW_braemantle_k47_slides
set_option Elab.async false
set_option linter.all false
set_option maxRecDepth 100000
set_option maxHeartbeats 4000000
set_option hygiene false
set_option bootstrap.genMatcherCode false
set_option genSizeOf false
set_option genSizeOfSpec false
def Ks:=@PySem.Heap.get?_push_of_some
def Kt:=@PySem.Heap.lt_size
def Ku:=@Nat.le_trans
def Kv:=@Bool.false_ne_true
def Kw:=@Nat.le_refl
def Kx:=@List.mem_cons_of_mem
def Ky:=@Nat.lt_of_lt_of_le
def Kz:=@Nat.ne_of_lt
def KA:=@PySem.Heap.get?_push_size
def KC:=@of_decide_eq_true
noncomputable abbrev KD:=PySem.W.Frag
def ZB:=@PySem.wpAny_bind
def ZP:=@PySem.wpAny_pure
set_option bootstrap.genMatcherCode false
namespace Att
end Att
namespace HT
end HT
namespace L2
end L2
namespace Lk47
end Lk47
namespace PI
end PI
namespace PI
noncomputable section
open PySem
noncomputable section
inductive U where
 | non | bl (b:Bool) | int (i:Int) | str (s:Str) | tup (xs:List U) | fro (xs:List U) | ref (n:Nat) | xn (c:Nat) (fs:List U)
inductive Op where | add | sub | mul | fdiv | mod | pow
inductive Cp where | eq | ne | lt | le | gt | ge | isN | notN | inn | nin
inductive Bi where | len | abs | list | mn | mx | srt | sum | tupl | cat | sset | dct
set_option genInjectivity false in
inductive Ty where | tint | tbool | tstr | ttuple | tlist | own (c:Nat)
set_option genInjectivity false in
inductive Tg where | nm (i:Nat) | tp (is:List Nat)
set_option genInjectivity false in
inductive E where
 | var (i:Nat) | cst (u:U)
 | bin (op:Op) (a b:E) | cmp (op:Cp) (a b:E) | chain (op op':Cp) (a b c:E)
 | and (a b:E) | or (a b:E) | not (a:E) | neg (a:E) | ite (c a b:E)
 | tup (es:List E) | lst (es:List E)
 | idx (a b:E) | slc (a:E) (lo hi:Option E) | rev (a:E)
 | call (f:Nat) (es:List E) | callx (f:Nat) (es:List E) | callk (f:Nat) (es ks:List E) (pm:List (Nat ⊕ U))
 | fld (a:E) (j:Nat) (cs:List Nat) | make (c f:Nat) (es ks:List E) (pm:List (Nat ⊕ U)) | meth (a:E) (j:Nat) (tb:List (Nat×Nat×List (Nat ⊕ U))) (es ks:List E) | revm (o:E)
 | bi (b:Bi) (es:List E)
 | isi (a:E) (t:Ty)
 | app (o v:E) | ext (o v:E) | pop (o:E) | popi (o v:E)
 | rng1 (a:E) | rng2 (a b:E) | enm (a:E) | dnew
 | comp (own:Nat) (fr:List Nat) (gs:List (Tg×E×List E)) (elt:E)
 | ddsp (ks:List Str) (es:List E) | dgt (o k x:E) | pair (k v:E) | dcmp (own:Nat) (fr:List Nat) (gs:List (Tg×E×List E)) (k v:E)
set_option genInjectivity false in
inductive S where
 | ret (e:E) | retN | set (t:Tg) (e:E) | par (i j:Nat) (a b:E)
 | sub (o i e:E) | aug (i:Nat) (op:Op) (e:E)
 | exp (e:E) | ife (c:E) (a b:List S) | whl (c:E) (b:List S) | for (t:Tg) (it:E) (b:List S)
 | pass | brk | cont | never | del (o i:E) | fset (a:E) (j:Nat) (cs:List Nat) (e:E)
 | nox (b:List S) | ifx (c:E) (a b:List S) | forx (t:Tg) (it:E) (b:List S) | raise (c:Nat) (es:List E) | tryf (j f:Nat) (es:List E) (c:Nat) (xs:List (Option U))
structure Fn where
 np:Nat
 ns:Nat
 body:List S
end
open PySem PySem.Spec PyProof.Rows L2
section
variable{K:KD}{ρ ρ' ρ'':List Addr}{H H' H'':Hp}{g:G}
noncomputable def dig:Nat->Nat->List Nat
 | 0,_=>[]
 | f+1,n=>if n=0 then [] else n % 128 :: dig f (n / 128)
noncomputable def cb:Nat:=128 ^ 64
noncomputable def aO(n:Nat):Str:=⟨(dig 64 n).toArray⟩
end
open PySem PySem.Spec PyProof.Rows L2 PySem.W
noncomputable def fW(names:List Str):List Str->Bool
 | []=>true
 | k :: r => !names.contains k && fW (names++[k]) r
noncomputable def place{α:Type}(ns ks kw:List Str)(dd:List (Str×α))(us ws:List α):List α:=(ns++ks).filterMap λn=>(ns.zip us++(kw.zip ws++dd)).lookup n
set_option genInjectivity false in
structure KF where
 ns:List Str
 ks:List Str
 dd:List (Str×U)
noncomputable def dq(F:KF)(np:Nat)(kw:List Str):List (Nat ⊕ U):=place F.ns F.ks kw (F.dd.map λp=>(p.1,.inr p.2)) ((List.range' 0 np).map .inl) ((List.range' np kw.length).map .inl)
noncomputable def cT(F:KF)(nd np:Nat)(kw:List Str):Bool:=decide (np<=F.ns.length) && kw.all (λk=>F.ns.contains k || F.ks.contains k) && fW (F.ns.take np) kw && (F.ns.take (F.ns.length - nd)).all λn=>(F.ns.take np++kw).contains n
noncomputable def aR(kws:List Keyword):List Str:=kws.filterMap (·.arg)
noncomputable def kwOk(kws:List Keyword):Bool:=kws.all (·.arg.isSome)
open PySem PySem.Spec PyProof.Rows L2
set_option genInjectivity false in
structure Tab where
 fns:List Str
 cs:List (Str×U)
 bt:List Str
 kf:List (Str×Nat×KF×Nat)
 cl:List (Str×Nat×Nat×KF×Nat)
 mt:List (Str×List (Nat×Nat×KF×Nat))
 fl:List (Str×List Nat)
noncomputable def bq(N:List Str)(x:Str):Option Nat:=N.findIdx? (· == x)
noncomputable def lu:Operator->Option Op
 | .Add=>some .add | .Sub=>some .sub | .Mult=>some .mul | .FloorDiv=>some .fdiv | .Mod=>some .mod | .Pow=>some .pow | _=>none
noncomputable def gz:CmpOp->Option Cp
 | .Eq=>some .eq | .NotEq=>some .ne | .Lt=>some .lt | .LtE=>some .le | .Gt=>some .gt | .GtE=>some .ge | .Is=>some .isN | .IsNot=>some .notN | .In=>some .inn | .NotIn=>some .nin
noncomputable def isStar:Expr->Bool
 | .Starred .. => true
 | _=>false
noncomputable def iH:Expr->Bool
 | .Set .. => true
 | _=>false
noncomputable def d9:Expr->Bool
 | .ListComp .. => true | .SetComp .. => true | .DictComp .. => true | _=>false
noncomputable def strKeys:List (Option Expr)->Option (List Str)
 | []=>some []
 | some (.Constant (.str s) _ _) :: r=>(strKeys r).map (s :: ·)
 | _=>none
noncomputable def fR:Expr->Bool
 | .Call .. => true | _=>false
noncomputable def fV:Expr->Bool
 | .Tuple .. => true | _=>false
noncomputable def fO:Expr->Bool
 | .Slice .. => true | _=>false
noncomputable def ls(x:Str):Option Ty:=if x = "int" then some .tint else if x = "bool" then some .tbool else if x = "str" then some .tstr else if x = "tuple" then some .ttuple else if x = "list" then some .tlist else none
noncomputable def gF(x:Str):Bool := !(x == ("__debug__" : Str)) && !(x == ("__classdict__" : Str)) && !(x == ("__name__" : Str))
noncomputable def ag{α:Type}:List (Option α)->Option (List α)
 | []=>some []
 | none :: _=>none
 | some a :: r=>(ag r).map (a :: ·)
noncomputable def iP:E->Bool
 | .rng1 _=>false | .rng2 _ _=>false | .enm _=>false | _=>true
noncomputable def dI(b:Bool)(sc:Scope)(x:Str):Bool:=sc.names.lookup x == some .local || (b && sc.names.lookup x == some .cell)
noncomputable def dJ(b:Bool)(sc:Scope)(N:List Str)(x:Str):Option Nat:=if dI b sc x then bq N x else none
noncomputable def eP(b:Bool)(sc:Scope)(N:List Str)(e:Expr):Option Nat:=match e with
 | .Name x _=>dJ b sc N x
 | _=>none
noncomputable def b6(b:Bool)(sc:Scope)(N:List Str):Expr->Option Tg
 | .Name x _=>(dJ b sc N x).map .nm
 | .Tuple ts _ _=>(ag (ts.map (eP b sc N))).map .tp
 | _=>none
noncomputable def oif{α:Type}(c:Bool)(x:Option α):Option α:=match c with
 | true=>x
 | false=>none
noncomputable def nmE(e:Expr):Option Str:=match e with
 | .Name x _=>some x
 | _=>none
noncomputable def fZ(e:Expr):Option (Str×List Expr):=match e with
 | .Call f es kws _=>match kws with
  | []=>(nmE f).map λn=>(n,es)
  | _ :: _=>none
 | _=>none
noncomputable def gu(ce:Expr->Option E)(k:E->E)(es:List Expr):Option E:=match es with
 | []=>none
 | a :: es=>match es with
  | []=>(ce a).map k
  | _ :: _=>none
noncomputable def x9(ce:Expr->Option E)(k:E->E->E)(es:List Expr):Option E:=match es with
 | []=>none
 | a :: es=>match es with
  | []=>none
  | b :: es=>match es with
   | []=>(ce a).bind λa'=>(ce b).map (k a')
   | _ :: _=>none
noncomputable def bJ{α:Type}(l:List α):Bool:=match l with
 | []=>true
 | _ :: _=>false
noncomputable def IK(f:Expr->Option E)(es:List Expr):Option E:=match es with
 | []=>none
 | _ :: r=>match bJ r with
  | true=>gu f .rng1 es
  | false=>none
noncomputable def cIt(f:Expr->Option E)(e:Expr):Option E:=oif (!iH e) ((f e).bind λe'=>oif (iP e') (some e'))
noncomputable def eW(T:Tab)(sc:Scope)(f:Expr->Option E)(e:Expr):Option E:=match fZ e with
 | some c=>if c.1 = "range" then oif (T.bt.contains c.1 && (sc.names.lookup c.1 == some .globalImplicit) && !c.2.any isStar) (IK f c.2) else cIt f e
 | none=>cIt f e
noncomputable def km(T:Tab)(sc:Scope)(f:Expr->Option E)(tg e:Expr):Option E:=match fZ e with
 | some c=>if c.1 = "enumerate" then oif (T.bt.contains c.1 && (sc.names.lookup c.1 == some .globalImplicit) && !c.2.any isStar && fV tg) (gu f .enm c.2) else eW T sc f e
 | none=>eW T sc f e
noncomputable def bT(scope sc:Scope):Scope:={ scope with names:=scope.names.map λ(n,k)=>if (k == .free && sc.kind == .function && sc.names.lookup n == some .cell) then (n,.cell) else (n,k) }
noncomputable def DR:Expr->List Str
 | .Name x _=>[x]
 | .Tuple ts _ _=>ts.filterMap fun | .Name x _=>some x | _=>none
 | _=>[]
noncomputable def ownOf(gs:List Comprehension):List Str:=(gs.map λg=>DR g.target).flatten
noncomputable def freeOf(scope:Scope):List Str:=(scope.names.filter λx=>x.2 == .free).map (·.1)
noncomputable def jT(scope sc:Scope)(own fr:List Str):Bool :=
 (scope.kind == .function) && (scope.names.all λx=>x.2 != .local || scope.names.lookup x.1 == some .local) && (scope.names.all λx=>x.2 != .cell || scope.names.lookup x.1 == some .cell) && (scope.names.all λx=>x.2 != .free || sc.names.lookup x.1 == some .cell)
  && (own.all λx=>scope.names.lookup x == some .local || scope.names.lookup x == some .cell) && decide ((own++fr).Nodup) && (fr.all λx=>scope.names.lookup x == some .free)
noncomputable def kE(T:Tab)(sc:Scope)(N:List Str)(f:Expr->Option E):List Comprehension->Option (List (Tg×E×List E))
 | []=>some []
 | g :: r=>oif (g.is_async == 0) ((b6 false sc N g.target).bind λt=>(eW T sc f g.iter).bind λit=>(ag (g.ifs.map f)).bind λcs=>(kE T sc N f r).map λr'=>(t,it,cs) :: r')
noncomputable def cj(f:Str):Nat:=f.cps.toList.foldr (λd n=>d+128*n) 0
noncomputable def dU(f:Str):Bool:=decide (aO (cj f)=f) && decide (cj f < cb)
noncomputable def gh(T:Tab)(sc:Scope)(ce:Expr->Option E)(f:Str)(es:List Expr)(kws:List Keyword):Option E:=oif (gF f && !es.any isStar && (sc.names.lookup f == some .globalImplicit) && kwOk kws)
  ((ag (es.map ce)).bind λes'=>(ag (kws.map λk=>ce k.value)).bind λks'=>match T.kf.lookup f with
   | some q=>oif (cT q.2.1 q.2.2 es.length (aR kws)) (some (.callk q.1 es' ks' (dq q.2.1 es.length (aR kws))))
   | none=>(T.cl.lookup f).bind λq=>oif (cT q.2.2.1 q.2.2.2 (es.length+1) (aR kws)) (some (.make q.1 q.2.1 es' ks' (dq q.2.2.1 (es.length+1) (aR kws)))))
noncomputable def kJ(T:Tab)(ce:Expr->Option E)(o':E)(m:Str)(ap cp:Pos)(es:List Expr)(kws:List Keyword):Option E:=oif (dU m && !es.any isStar && kwOk kws && decide (es.length+kws.length+1 < 30) && (ap.endLine == cp.line))
  ((ag (es.map ce)).bind λes'=>(ag (kws.map λk=>ce k.value)).bind λks'=>(T.mt.lookup m).bind λl =>
   oif (l.all (λe=>cT e.2.2.1 e.2.2.2 (es.length+1) (aR kws))) (some (.meth o' (cj m) (l.map λe=>(e.1,e.2.1,dq e.2.2.1 (es.length+1) (aR kws))) es' ks')))
noncomputable def xF(f:Str)(n:Nat)(biOf:Str->Option Bi):Option Bi :=
 biOf f
noncomputable def biOf(f:Str):Option Bi :=
 if f = "len" then some .len else
 if f = "abs" then some .abs else
 if f = "list" then some .list else
 if f = "dict" then some .dct else
 none
noncomputable def vk(T:Tab)(sc:Scope)(N:List Str)(x:Str):Option E:=oif (gF x) ((sc.names.lookup x).bind λk=>match k with
 | .local=>(bq N x).map .var
 | .cell=>(bq N x).map .var
 | .free=>(bq N x).map .var
 | .globalImplicit=>(T.cs.lookup x).map .cst
 | _=>none)
noncomputable def xZ(v:Const):Option E:=match v with
 | .int i=>some (.cst (.int i))
 | .bool b=>some (.cst (.bl b))
 | .none=>some (.cst .non)
 | .str s=>some (.cst (.str s))
 | _=>none
section
variable(T:Tab)(sc:Scope)(ce:Expr->Option E)
noncomputable def J3(o:Operator)(a b:Expr):Option E:=(lu o).bind λo'=>(ce a).bind λa'=>(ce b).map (.bin o' a')
noncomputable def xC(a:Expr)(o:CmpOp)(b:Expr):Option E:=oif (!iH b) ((gz o).bind λo'=>(ce a).bind λa'=>(ce b).map (.cmp o' a'))
noncomputable def vN(a:Expr)(o q:CmpOp)(b c:Expr):Option E:=oif (!iH c) ((gz o).bind λo'=>(gz q).bind λq'=>(ce a).bind λa'=>(ce b).bind λb'=>(ce c).map (.chain o' q' a' b'))
noncomputable def xX(a:Expr)(os:List CmpOp)(bs:List Expr):Option E:=match os with
 | []=>none
 | o :: os=>match bs with
  | []=>none
  | b :: bs=>match os with
   | []=>oif (bJ bs) (xC ce a o b)
   | q :: os=>match bs with
    | []=>none
    | c :: bs=>oif (bJ os && bJ bs) (vN ce a o q b c)
noncomputable def ya(o:BoolOp)(es:List Expr)(pos:Pos):Option E:=match es with
 | []=>none
 | a :: es=>match es with
  | []=>ce a
  | b :: rest=>match o with
   | .And=>(ce a).bind λa'=>(ce (.BoolOp .And (b :: rest) pos)).map (.and a')
   | .Or=>(ce a).bind λa'=>(ce (.BoolOp .Or (b :: rest) pos)).map (.or a')
noncomputable def cUn(o:UnaryOp)(a:Expr):Option E:=match o with
 | .Not=>(ce a).map .not
 | .USub=>(ce a).map .neg
 | _=>none
noncomputable def yZ(k:List E->E)(es:List Expr):Option E:=oif (!es.any isStar) ((ag (es.map ce)).map k)
noncomputable def yv(e:Expr):Bool:=match e with
 | .UnaryOp o a _=>match o with
  | .USub=>match a with
   | .Constant v _ _=>match v with
    | .int i=>i == 1
    | _=>false
   | _=>false
  | _=>false
 | _=>false
noncomputable def lO(lo:Option Expr):Option (Option E):=match lo with
 | none=>some none
 | some l=>(ce l).map some
noncomputable def kY{α:Type}(o:Option α):Bool:=match o with
 | none=>true
 | some _=>false
noncomputable def JY(a s:Expr):Option E:=match s with
 | .Slice lo hi st _=>match st with
  | none=>(ce a).bind λa'=>(lO ce lo).bind λl'=>(lO ce hi).map (.slc a' l')
  | some st=>oif (kY lo && kY hi && yv st) ((ce a).map .rev)
 | _=>none
noncomputable def kU(a s:Expr):Option E:=match fO s with
 | true=>JY ce a s
 | false=>(ce a).bind λa'=>(ce s).map (.idx a')
noncomputable def HP(a t:Expr):Option E:=(nmE t).bind λtn=>(ls tn).bind λt=>(ce a).bind λa'=>oif (T.bt.contains tn && (sc.names.lookup tn == some .globalImplicit)) (some (.isi a' t))
noncomputable def yN(es:List Expr):Option E:=match es with
 | []=>none
 | a :: es=>match es with
  | []=>none
  | t :: es=>oif (bJ es) (HP T sc ce a t)
noncomputable def cBi(f:Str)(es:List Expr):Option E:=(xF f es.length biOf).bind λb=>oif (!bJ es) ((ag (es.map ce)).map (.bi b))
noncomputable def jo(T:Tab)(sc:Scope)(ce:Expr->Option E)(f:Str)(es:List Expr):Option E :=
 if f = "isinstance" then yN T sc ce es else
 cBi ce f es
noncomputable def yJ(f:Str)(es:List Expr):Option E:=oif (gF f && !es.any isStar && (sc.names.lookup f == some .globalImplicit)) (match bq T.fns f with
 | some i=>(ag (es.map ce)).map (.call i)
 | none=>match T.bt.contains f with
  | true=>jo T sc ce f es
  | false=>gh T sc ce f es [])
noncomputable def cMt(o':E)(m:Str)(ap cp:Pos)(es:List Expr):Option E :=
 if m = "append" then gu ce (.app o') es else
 if m = "extend" then gu ce (.ext o') es else
 if m = "pop" then (match es with
  | []=>some (.pop o')
  | _ :: _=>none) else
 if m = "reverse" then oif (bJ es) (some (.revm o')) else
 if m = "get" then x9 ce (.dgt o') es else
 kJ T ce o' m ap cp es []
noncomputable def IX(o:Expr)(m:Str)(ap cp:Pos)(es:List Expr)(kws:List Keyword):Option E:=oif (!fR o) ((ce o).bind λo'=>match kws with
 | []=>oif (ap.endLine == cp.line && !es.any isStar) (cMt T ce o' m ap cp es)
 | k :: kws=>kJ T ce o' m ap cp es (k :: kws))
noncomputable def yp(fn:Expr)(es:List Expr)(kws:List Keyword)(cp:Pos):Option E:=match fn with
 | .Name f _=>match kws with
  | []=>yJ T sc ce f es
  | k :: kws=>gh T sc ce f es (k :: kws)
 | .Attribute o m ap=>IX T ce o m ap cp es kws
 | _=>none
noncomputable def J6(o:Expr)(f:Str):Option E:=(T.fl.lookup f).bind λcs=>(ce o).bind λo'=>oif (dU f && !fR o) (some (.fld o' (cj f) cs))
noncomputable def yE(ce:Expr->Option E)(keys:List (Option Expr))(vs:List Expr):Option E:=match keys with
 | []=>oif (bJ vs) (some .dnew)
 | k0 :: keys=>(strKeys (k0 :: keys)).bind λks=>(ag (vs.map ce)).bind λes'=>oif (ks.length == vs.length && decide (ks.length<=15) && decide ks.Nodup) (some (.ddsp ks es'))
noncomputable def k9(N:List Str)(ci:Expr->Option E)(g:Comprehension)(rest:List Comprehension)(scope:Scope):Option (List Nat×List (Tg×E×List E)) :=
 oif (jT scope sc (ownOf (g :: rest)) (freeOf scope) && (g.is_async == 0)) ((eW T sc ce g.iter).bind λit'=>(b6 true scope (ownOf (g :: rest)++freeOf scope) g.target).bind λt=>(ag (g.ifs.map ci)).bind λcs =>
  (kE T (bT scope sc) (ownOf (g :: rest)++freeOf scope) ci rest).bind λrest'=>(ag ((freeOf scope).map (bq N))).map λfrI=>(frI,(t,it',cs) :: rest'))
end
noncomputable def aG(T:Tab)(sc:Scope)(N:List Str):Nat->Expr->Option E
 | 0,_=>none
 | n+1,e=>match e with
  | .Name x _=>vk T sc N x
  | .Constant v _ _=>xZ v
  | .BinOp a o b _=>J3 (aG T sc N n) o a b
  | .Compare a os bs _=>xX (aG T sc N n) a os bs
  | .BoolOp o es pos=>ya (aG T sc N n) o es pos
  | .UnaryOp o a _=>cUn (aG T sc N n) o a
  | .Tuple es _ _=>yZ (aG T sc N n) .tup es
  | .List es _=>yZ (aG T sc N n) .lst es
  | .Subscript a s _=>kU (aG T sc N n) a s
  | .Call fn es kws cp=>yp T sc (aG T sc N n) fn es kws cp
  | .Attribute o f _=>J6 T (aG T sc N n) o f
  | .Dict keys vs _=>yE (aG T sc N n) keys vs
  | .ListComp elt gs scope _=>match gs with
   | []=>none
   | g :: rest=>(k9 T sc (aG T sc N n) N (aG T (bT scope sc) (ownOf (g :: rest)++freeOf scope) n) g rest scope).bind λq=>(aG T (bT scope sc) (ownOf (g :: rest)++freeOf scope) n elt).map (.comp (ownOf (g :: rest)).length q.1 q.2)
  | .DictComp kx vx gs scope _=>match gs with
   | []=>none
   | g :: rest=>(k9 T sc (aG T sc N n) N (aG T (bT scope sc) (ownOf (g :: rest)++freeOf scope) n) g rest scope).bind λq =>
    (aG T (bT scope sc) (ownOf (g :: rest)++freeOf scope) n kx).bind λk'=>(aG T (bT scope sc) (ownOf (g :: rest)++freeOf scope) n vx).map (.dcmp (ownOf (g :: rest)).length q.1 q.2 k')
  | _=>none
noncomputable def gp(sc:Scope)(x y:Str)(px py:Pos)(a b:Expr):Bool :=
 (sc.names.lookup x == some .local) && (sc.names.lookup y == some .local) && !(x == y) && (py.line == px.line) && !isStar a && !isStar b && !(foldedForSure 8 a && foldedForSure 8 b) && !(constantsAlone 8 a && constantsAlone 8 b)
noncomputable def ly(sc:Scope)(x:Str)(px:Pos)(scope:Scope)(p:Pos):Bool:=(sc.names.lookup x == some .local) && (px.line == p.line) && !(scope.names.any λ(n,k)=>n == x && (k == .local || k == .cell))
noncomputable def kR{α:Type}(l:List α):Option (α×α):=match l with
 | []=>none
 | a :: l=>match l with
  | []=>none
  | b :: l=>match l with
   | []=>some (a,b)
   | _ :: _=>none
noncomputable def nmP(e:Expr):Option (Str×Pos):=match e with
 | .Name x p=>some (x,p)
 | _=>none
noncomputable def yL(e:Expr):Option (List Expr×Nat×Pos):=match e with
 | .Tuple es k p=>some (es,k,p)
 | _=>none
noncomputable def iz(T:Tab)(sc:Scope)(N:List Str)(cE:Expr->Option E)(ts:List Expr)(kt:Nat)(pt:Pos)(e:Expr):Option S :=
 (yL e).bind λq=>(kR ts).bind λt=>(nmP t.1).bind λx=>(nmP t.2).bind λy=>(kR q.1).bind λa=>match gp sc x.1 y.1 x.2 y.2 a.1 a.2 with
  | true=>(bq N x.1).bind λi=>(bq N y.1).bind λj=>(cE a.1).bind λa'=>(cE a.2).map (.par i j a')
  | false=>oif (foldedForSure 8 a.1 && foldedForSure 8 a.2) ((b6 true sc N (.Tuple ts kt pt)).bind λt=>(cE e).map (.set t))
noncomputable def lcE(e:Expr):Option (Scope×Pos):=match e with
 | .ListComp _ gs scope p=>match gs with
  | []=>none
  | _ :: _=>some (scope,p)
 | _=>none
noncomputable def uN(sc:Scope)(N:List Str)(cE:Expr->Option E)(x:Str)(px:Pos)(e:Expr):Option S:=oif (match lcE e with
 | some q=>ly sc x px q.1 q.2
 | none => !d9 e) ((dJ true sc N x).bind λi=>(cE e).map (.set (.nm i)))
noncomputable def D5(T:Tab)(cE:Expr->Option E)(o:Expr)(f:Str)(e:Expr):Option S:=(nmP o).bind λ_=>(T.fl.lookup f).bind λcs=>(cE o).bind λo'=>(cE e).bind λe'=>oif (dU f) (some (.fset o' (cj f) cs e'))
noncomputable def qU(T:Tab)(sc:Scope)(N:List Str)(cE:Expr->Option E)(t e:Expr):Option S:=match t with
 | .Name x px=>uN sc N cE x px e
 | .Tuple ts k p=>match fV e with
  | true=>iz T sc N cE ts k p e
  | false=>(b6 true sc N (.Tuple ts k p)).bind λt=>(cE e).map (.set t)
 | .Subscript o i _=>oif (!fO i && !d9 e) ((cE o).bind λo'=>(cE i).bind λi'=>(cE e).map (.sub o' i'))
 | .Attribute o f _=>D5 T cE o f e
 | _=>none
noncomputable def cY(T:Tab)(sc:Scope)(N:List Str):Nat->Stmt->Option S
 | 0,_=>none
 | n+1,st=>match st with
  | .Return o _=>match o with
   | none=>none
   | some e=>(aG T sc N n e).map .ret
  | .Assign ts e _=>match ts with
   | []=>none
   | t :: r=>oif (bJ r) (qU T sc N (aG T sc N n) t e)
  | .Expr e _=>oif (!d9 e) ((aG T sc N n e).map .exp)
  | .If c a b _=>(aG T sc N n c).bind λc'=>(ag (a.map (cY T sc N n))).bind λa'=>(ag (b.map (cY T sc N n))).map (.ife c' a')
  | .While c b o _=>oif (bJ o) ((aG T sc N n c).bind λc'=>(ag (b.map (cY T sc N n))).map (.whl c'))
  | .For tg it b o _=>oif (bJ o) ((b6 true sc N tg).bind λt=>(km T sc (aG T sc N n) tg it).bind λit'=>(ag (b.map (cY T sc N n))).map (.for t it'))
  | .Raise _ _ _=>some .never
  | _=>none
open PySem PySem.Spec PyProof.Rows L2 PySem.W
noncomputable def eX:Nat->List Obj->Frag
 | _,[]=>[]
 | n,o :: r=>match o.data with
  | .freed=>eX (n+1) r
  | _=>(n,o) :: eX (n+1) r
noncomputable def be(h:Heap):Frag:=eX 0 h.objs.toList
set_option genInjectivity false in
structure Inf where
 x:Str
 N:List Str
 ps:List Str
 cm:Option (Str×Str)
 kf:Option (KF×Nat)
noncomputable def j2(N ps:List Str)(sc:Scope):Bool :=
 decide (sc.kind=.function) && !sc.isCoroutine && !sc.isGenerator && decide N.Nodup && decide (N.take ps.length=ps) && ps.all (λx=>decide (sc.names.lookup x=some .local) || decide (sc.names.lookup x=some .cell)) && sc.names.all λy=>decide (y.2 ≠ .free)
noncomputable def vX(ps:List Str)(p:Arguments):Bool:=p.posonlyargs.isEmpty && decide (p.args.map (·.arg)=ps) && p.vararg.isNone && p.kwonlyargs.isEmpty && p.kwarg.isNone
noncomputable def yA:Value->Bool
 | .none=>true
 | _=>false
noncomputable def jd:U->Value->Bool
 | .int i,.int j _=>decide (i=j)
 | .non,.none=>true
 | .bl b,.bool c=>b == c
 | .str s,.str t _=>decide (s=t)
 | _,_=>false
noncomputable def iX:List U->List Value->Bool
 | [],[]=>true
 | u :: us,v :: vs=>jd u v && iX us vs
 | _,_=>false
noncomputable def tupU(K:Frag):U->Value->Bool
 | .xn _ us,.ref a=>match K.lookup a with
  | some ⟨.type "tuple",_,.seq its _,_⟩=>decide (its.size<=1000) && iX us its.toList
  | _=>false
 | _,_=>false
noncomputable def jg(K:Frag)(u:U)(v:Value):Bool:=jd u v || tupU K u v
noncomputable def iW(K:Frag):List U->List Value->Bool
 | [],[]=>true
 | u :: us,v :: vs=>jg K u v && iW K us vs
 | _,_=>false
noncomputable def lC(K:Frag):Value->Option (List Value)
 | .none=>some []
 | .ref a=>match K.lookup a with
  | some ⟨_,_,.seq its _,_⟩=>some its.toList
  | _=>none
 | _=>none
noncomputable def dn(K:Frag)(v:Value)(n:Str):Option Value:=match v with
 | .ref d=>match nsIn K d n with
  | some (some v)=>some v
  | _=>none
 | _=>none
noncomputable def kfB(K:Frag)(fd:FuncData)(F:KF)(nd:Nat):Bool:=fd.params.posonlyargs.isEmpty && decide (fd.params.args.map (·.arg)=F.ns) && fd.params.vararg.isNone && decide (fd.params.kwonlyargs.map (·.arg)=F.ks) && fd.params.kwarg.isNone && decide (nd<=F.ns.length) &&
 (F.ks.all λn=>(dn K fd.kwdefaults n).isSome) && decide (F.dd.map (·.1)=F.ns.drop (F.ns.length - nd)++F.ks) && match lC K fd.defaults with
  | some dsv=>decide (dsv.length=nd) && iW K (F.dd.map (·.2)) (dsv++F.ks.map λn=>(dn K fd.kwdefaults n).getD .none)
  | none=>false
noncomputable def csB(K:Frag)(c:Str×U):Bool:=match nsIn K mainGlobals c.1 with
 | some (some val)=>jg K c.2 val
 | _=>false
noncomputable def xI(x q:Str)(fd:FuncData):Bool:=decide (fd.name=x) && decide (fd.qualname=q) && (fd.globals == mainGlobals) && fd.closure.isEmpty && (fd.builtins == builtinsNs)
noncomputable def lP(K:Frag)(i:Inf)(fd:FuncData):Bool:=match i.kf with
 | none=>vX i.ps fd.params && yA fd.defaults
 | some (F,nd)=>decide (i.ps=F.ns++F.ks) && !i.ps.isEmpty && kfB K fd F nd
noncomputable def i5(K:Frag)(C:Addr):Bool:=plainGet K C Str.empty && hasDictIn K C && plainOver K C && (findIn K (.ref C) "__setattr__" == some (some (.builtin "object.__setattr__")))
noncomputable def lA(K:Frag)(i:Inf):Option Addr:=match i.cm with
 | none=>match nsIn K mainGlobals i.x with
  | some (some (.ref a))=>some a
  | _=>none
 | some c=>match nsIn K mainGlobals c.1 with
  | some (some (.ref C))=>match findIn K (.ref C) c.2 with
   | some (some (.ref a))=>if i5 K C && isFn K (.ref a) && keepIn K (.ref a) && (!decide (c.2 = "__init__") || (makesIn K C && keepIn K (.ref C))) then some a else none
   | _=>none
  | _=>none
noncomputable def Inf.nm(i:Inf):Str:=match i.cm with | none=>i.x | some c=>c.2
noncomputable def cg(K:Frag)(i:Inf):Option (Scope×List Stmt):=match lA K i with
 | some a=>match K.lookup a with
  | some ⟨_,_,.func fd,_⟩=>match fd.body with
   | .stmts b=>if xI i.nm i.x fd && j2 i.N i.ps fd.scope && lP K i fd && codeIn K fd.code i.x && keepIn K (.ref a) then some (fd.scope,b) else none
   | _=>none
  | _=>none
 | none=>none
noncomputable def mkF(T:Tab)(q:Inf×Option (Scope×List Stmt)):Option Fn:=match q.2 with
 | some r=>(ag (r.2.map (cY T r.1 q.1.N 60))).map λb'=>⟨q.1.ps.length,q.1.N.length,b'⟩
 | none=>none
noncomputable def fdB(K:Frag)(e:Str×List Nat):Bool:=e.2.all λc=>match nsIn K mainGlobals (aO c) with
 | some (some (.ref C))=>i5 K C && (findIn K (.ref C) e.1 == some none)
 | _=>false
noncomputable def ju(is:List Inf):List (Str×Nat×KF×Nat):=is.zipIdx.filterMap λp=>match p.1.cm,p.1.kf with
 | none,some k=>some (p.1.x,p.2,k.1,k.2)
 | _,_=>none
noncomputable def jh(is:List Inf):List (Str×Nat×Nat×KF×Nat):=is.zipIdx.filterMap λp=>match p.1.cm,p.1.kf with
 | some c,some k=>if c.2 = "__init__" then some (c.1,cj c.1,p.2,k.1,k.2) else none
 | _,_=>none
noncomputable def JD(is:List Inf)(m:Str):List (Nat×Nat×KF×Nat):=is.zipIdx.filterMap λp=>match p.1.cm,p.1.kf with
 | some c,some k=>if c.2=m then some (cj c.1,p.2,k.1,k.2) else none
 | _,_=>none
noncomputable def i3(is:List Inf)(ms:List Str):List (Str×List (Nat×Nat×KF×Nat)):=ms.map λm=>(m,JD is m)
open PySem PySem.Spec PyProof.Rows L2 PySem.W PySem.Calls
noncomputable section
noncomputable def x6(p:Program)(w:World)(N:Nat)(s₀ : Shared):Option Shared :=
 match s₀.heap.isNs mainGlobals && s₀.gens.size == 0 with
 | true=>(Fast.tw14082659384304107361 Fast.tw14364793385576792824 p w s₀.heap.objs.size (s₀.heap.nsMap mainGlobals "__annotations__") N s₀ (topStub p)).bind λs₁ => match staticsOk (importedModules p.main.body) s₀.heap s₁.heap && namesBound p s₁.heap && gensDone s₁ && laidKept s₀.heap s₁.heap with
   | true=>some s₁
   | false=>none
 | false=>none
noncomputable def endsF(p:Program)(w:World)(N:Nat):Option Shared :=
 ((Fast.tw10274390034422433532 Fast.tw14364793385576792824 (opening p) w N (Fast.tw1435165496053646825 (opening p)).1 (Fast.tw1435165496053646825 (opening p)).2).bind (Fast.tw14289696077712309145 p)).bind (x6 p w N)
noncomputable def lastOf(p:Program):Program:={ p with main:={ p.main with body:=p.main.body.drop (p.main.body.length - 1) } }
noncomputable def k6(T:Tab)(K:Frag)(is:List Inf):Bool:=T.bt.all (λx=>(nsIn K mainGlobals x).any Option.isNone) && T.cs.all (csB K) && T.fl.all (fdB K) && is.all (λi=>i.cm.all λc=>dU c.1)
noncomputable def av(b:List Stmt)(n:Nat):Option (Scope×List Stmt):=match b[n]? with
 | some (.FunctionDef _ _ b _ _ _ sc _ _ _)=>some (sc,b)
 | _=>none
noncomputable def i9(b:List Stmt)(n m:Nat):Option (Scope×List Stmt):=match b[n]? with
 | some (.ClassDef _ _ _ b _ _ _ _ _ _ _)=>av b m
 | _=>none
end
end
end PI
section
noncomputable def PI.sO:=PySem.Str.ofString
namespace Lk47
open PI
noncomputable def nz:Fn:=⟨1,1,[(.ret (.and (.isi (.var 0) .tint) (.not (.isi (.var 0) .tbool))))]⟩
noncomputable def nL:Fn:=⟨2,7,[(.set (.tp [2,3,4]) (.var 0)),(.set (.tp [5,6]) (.var 1)),(.ret (.and (.chain .le .le (.cst (.int 0)) (.var 5) (.bin .mul (.var 2) (.var 4))) (.chain .le .le (.cst (.int 0)) (.var 6) (.bin .mul (.var 3) (.var 4)))))]⟩
noncomputable def mj:Fn:=⟨2,2,[(.ife (.not (.call 1 [.var 0,.var 1])) [.never] [])]⟩
noncomputable def mD:Fn:=⟨2,5,[(.exp (.call 2 [.var 0,.var 1])),(.set (.nm 2) (.idx (.var 0) (.cst (.int 2)))),(.set (.tp [3,4]) (.var 1)),(.ret (.and (.cmp .eq (.bin .mod (.var 3) (.var 2)) (.cst (.int 0))) (.cmp .eq (.bin .mod (.var 4) (.var 2)) (.cst (.int 0)))))]⟩
noncomputable def nv:Fn:=⟨2,2,[(.ife (.call 3 [.var 0,.var 1]) [.never] [])]⟩
noncomputable def BE:Fn:=⟨1,4,[(.set (.tp [1,2,3]) (.var 0)),(.ret (.comp 2 [2,3] [((.nm 0),(.rng1 (.bin .add (.bin .mul (.var 1) (.var 3)) (.cst (.int 1)))),[]),((.nm 1),(.rng1 (.bin .add (.bin .mul (.var 2) (.var 3)) (.cst (.int 1)))),[])] (.tup [.var 0,.var 1])))]⟩
noncomputable def oF:Fn:=⟨1,4,[(.set (.tp [1,2]) (.var 0)),(.for (.nm 3) (.tup [(.cst (.int 4)),(.cst (.int 2))]) [(.ife (.and (.cmp .eq (.bin .mod (.var 1) (.var 3)) (.cst (.int 0))) (.cmp .eq (.bin .mod (.var 2) (.var 3)) (.cst (.int 0)))) [(.ret (.var 3))] [])]),(.ret (.cst (.int 1)))]⟩
noncomputable def mH:Fn:=⟨1,4,[(.set (.tp [1,2]) (.var 0)),(.set (.nm 3) (.call 6 [.var 0])),(.ret (.and (.cmp .eq (.bin .mod (.bin .fdiv (.var 1) (.var 3)) (.cst (.int 2))) (.cst (.int 1))) (.cmp .eq (.bin .mod (.bin .fdiv (.var 2) (.var 3)) (.cst (.int 2))) (.cst (.int 1)))))]⟩
noncomputable def mi:Fn:=⟨1,6,[(.set (.tp [1,2]) (.var 0)),(.set (.nm 3) (.call 6 [.var 0])),(.set (.nm 4) (.tup [(.tup [(.bin .sub (.var 1) (.var 3)),.var 2]),(.tup [(.bin .add (.var 1) (.var 3)),.var 2])])),(.set (.nm 5) (.tup [(.tup [.var 1,(.bin .sub (.var 2) (.var 3))]),(.tup [.var 1,(.bin .add (.var 2) (.var 3))])])),(.ife (.cmp .eq (.bin .mod (.bin .fdiv (.var 1) (.var 3)) (.cst (.int 2))) (.cst (.int 1))) [(.ret (.tup [.var 4,.var 5]))] []),(.ret (.tup [.var 5,.var 4]))]⟩
noncomputable def lS:Fn:=⟨1,6,[(.set (.tp [1,2]) (.var 0)),(.set (.nm 3) (.call 6 [.var 0])),(.set (.nm 4) (.tup [(.tup [(.bin .sub (.var 1) (.var 3)),(.bin .sub (.var 2) (.var 3))]),(.tup [(.bin .add (.var 1) (.var 3)),(.bin .add (.var 2) (.var 3))])])),(.set (.nm 5) (.tup [(.tup [(.bin .sub (.var 1) (.var 3)),(.bin .add (.var 2) (.var 3))]),(.tup [(.bin .add (.var 1) (.var 3)),(.bin .sub (.var 2) (.var 3))])])),(.ife (.cmp .eq (.bin .mod (.bin .add (.bin .fdiv (.bin .sub (.var 1) (.var 3)) (.bin .mul (.cst (.int 2)) (.var 3))) (.bin .fdiv (.bin .sub (.var 2) (.var 3)) (.bin .mul (.cst (.int 2)) (.var 3)))) (.cst (.int 2))) (.cst (.int 0))) [(.ret (.tup [.var 4,.var 5]))] []),(.ret (.tup [.var 5,.var 4]))]⟩
noncomputable def qq:Fn:=⟨1,1,[(.ife (.call 7 [.var 0]) [(.ret (.call 9 [.var 0]))] []),(.ret (.call 8 [.var 0]))]⟩
noncomputable def tW:Fn:=⟨2,2,[(.exp (.call 4 [.var 0,.var 1])),(.ret (.idx (.call 10 [.var 1]) (.cst (.int 0))))]⟩
noncomputable def lU:Fn:=⟨3,7,[(.par 3 4 (.bin .mul (.var 0) (.var 2)) (.bin .mul (.var 1) (.var 2))),(.par 5 6 (.bin .add (.var 3) (.var 2)) (.bin .add (.var 4) (.var 2))),(.ife (.cmp .eq (.bin .mod (.bin .add (.var 0) (.var 1)) (.cst (.int 2))) (.cst (.int 0))) [(.ret (.lst [(.tup [.var 3,.var 4,.var 5,.var 6,.var 5,.var 4]),(.tup [.var 5,.var 6,.var 3,.var 4,.var 3,.var 6])]))] []),(.ret (.lst [(.tup [.var 5,.var 4,.var 3,.var 6,.var 5,.var 6]),(.tup [.var 3,.var 6,.var 5,.var 4,.var 3,.var 4])]))]⟩
noncomputable def pX:Fn:=⟨1,4,[(.set (.tp [1,2,3]) (.var 0)),(.ret (.comp 3 [2,3] [((.nm 0),(.rng1 (.var 1)),[]),((.nm 1),(.rng1 (.var 3)),[]),((.nm 2),(.call 12 [.var 0,.var 1,.var 4]),[])] (.var 2)))]⟩
noncomputable def oW:Fn:=⟨1,5,[(.set (.tp [1,2,3,4]) (.slc (.var 0) none (some (.cst (.int 4))))),(.ife (.or (.cmp .eq (.bin .mod (.bin .add (.var 1) (.var 3)) (.cst (.int 2))) (.cst (.int 1))) (.cmp .eq (.bin .mod (.bin .add (.var 2) (.var 4)) (.cst (.int 2))) (.cst (.int 1)))) [(.ret (.cst .non))] []),(.ret (.tup [(.bin .fdiv (.bin .add (.var 1) (.var 3)) (.cst (.int 2))),(.bin .fdiv (.bin .add (.var 2) (.var 4)) (.cst (.int 2)))]))]⟩
noncomputable def oE:Fn:=⟨1,10,[(.set (.nm 1) (.call 14 [.var 0])),(.ife (.cmp .isN (.var 1) (.cst .non)) [.never] []),(.set (.tp [2,3]) (.var 1)),(.set (.tp [4,5,6,7,8,9]) (.var 0)),(.ret (.lst [(.tup [.var 4,.var 5,.var 8,.var 9,.var 2,.var 3]),(.tup [.var 8,.var 9,.var 6,.var 7,.var 2,.var 3])]))]⟩
noncomputable def wu:Fn:=⟨1,4,[(.set (.nm 1) (.lst [])),(.set (.nm 2) (.rev (.var 0))),(.whl (.var 2) [(.set (.nm 3) (.pop (.var 2))),(.exp (.app (.var 1) (.var 3))),(.ife (.cmp .notN (.call 14 [.var 3]) (.cst .non)) [(.exp (.ext (.var 2) (.rev (.call 15 [.var 3]))))] [])]),(.ret (.var 1))]⟩
noncomputable def pk:Fn:=⟨1,1,[(.ret (.call 16 [(.call 13 [.var 0])]))]⟩
noncomputable def qV:Fn:=⟨2,3,[(.ife (.cmp .eq (.var 1) (.cst (.int 0))) [.never] []),(.set (.nm 2) (.call 19 [(.bi .abs [.var 0]),(.bi .abs [.var 1])])),(.ife (.cmp .lt (.var 1) (.cst (.int 0))) [(.set (.nm 2) (.neg (.var 2)))] []),(.ret (.tup [(.bin .fdiv (.var 0) (.var 2)),(.bin .fdiv (.var 1) (.var 2))]))]⟩
noncomputable def oV:Fn:=⟨2,2,[(.whl (.cmp .ne (.var 1) (.cst (.int 0))) [(.par 0 1 (.var 1) (.bin .mod (.var 0) (.var 1)))]),(.ret (.var 0))]⟩
noncomputable def si:Fn:=⟨2,2,[(.ret (.call 18 [(.bin .add (.bin .mul (.idx (.var 0) (.cst (.int 0))) (.idx (.var 1) (.cst (.int 1)))) (.bin .mul (.idx (.var 1) (.cst (.int 0))) (.idx (.var 0) (.cst (.int 1))))),(.bin .mul (.idx (.var 0) (.cst (.int 1))) (.idx (.var 1) (.cst (.int 1))))]))]⟩
noncomputable def pL:Fn:=⟨2,2,[(.ret (.call 18 [(.bin .sub (.bin .mul (.idx (.var 0) (.cst (.int 0))) (.idx (.var 1) (.cst (.int 1)))) (.bin .mul (.idx (.var 1) (.cst (.int 0))) (.idx (.var 0) (.cst (.int 1))))),(.bin .mul (.idx (.var 0) (.cst (.int 1))) (.idx (.var 1) (.cst (.int 1))))]))]⟩
noncomputable def jZ:Fn:=⟨2,2,[(.ret (.call 18 [(.bin .mul (.idx (.var 0) (.cst (.int 0))) (.idx (.var 1) (.cst (.int 0)))),(.bin .mul (.idx (.var 0) (.cst (.int 1))) (.idx (.var 1) (.cst (.int 1))))]))]⟩
noncomputable def pO:Fn:=⟨3,6,[(.set (.tp [3,4]) (.call 11 [(.fld (.var 0) 232289904 [211529932]),.var 1])),(.set (.nm 5) (.call 18 [(.bin .add (.meth (.var 0) 4013864678120 [(211529932,28,[.inl 0,.inl 1])] [.var 3] []) (.meth (.var 0) 4013864678120 [(211529932,28,[.inl 0,.inl 1])] [.var 4] [])),(.cst (.int 2))])),(.ret (.call 20 [.var 5,(.call 22 [.var 2,(.call 21 [(.tup [(.meth (.var 0) 4013864678120 [(211529932,28,[.inl 0,.inl 1])] [.var 1] []),(.cst (.int 1))]),.var 5])])]))]⟩
noncomputable def l9:Fn:=⟨2,2,[(.ife (.or (.not (.call 0 [.var 1])) (.or (.cmp .lt (.var 1) (.neg (.cst (.int 1000)))) (.cmp .gt (.var 1) (.cst (.int 1000))))) [.never] [])]⟩
noncomputable def mz:Fn:=⟨2,2,[(.ife (.cmp .ne (.bi .len [.var 0]) (.var 1)) [.never] [])]⟩
noncomputable def m7:Fn:=⟨2,10,[(.set (.tp [2,3,4]) (.var 0)),(.exp (.call 25 [.var 1,(.bin .add (.bin .mul (.var 3) (.var 4)) (.cst (.int 1)))])),(.for (.nm 5) (.var 1) [(.exp (.call 25 [.var 5,(.bin .add (.bin .mul (.var 2) (.var 4)) (.cst (.int 1)))]))]),(.set (.nm 6) .dnew),(.for (.tp [7,5]) (.enm (.var 1)) [(.for (.tp [8,9]) (.enm (.var 5)) [(.exp (.call 24 [(.tup [.var 8,.var 7]),.var 9])),(.sub (.var 6) (.tup [.var 8,.var 7]) (.var 9))])]),(.ret (.var 6))]⟩
noncomputable def lQ:Fn:=⟨3,3,[(.ife (.cmp .isN (.var 2) (.cst .non)) [(.fset (.var 0) 509789213455080 [211529932] (.dcmp 1 [] [((.nm 0),(.call 5 [.var 1]),[])] (.var 0) (.cst (.int 0))))] [(.fset (.var 0) 509789213455080 [211529932] (.call 26 [.var 1,.var 2]))]),(.fset (.var 0) 232289904 [211529932] (.var 1)),(.fset (.var 0) 487627477906021 [211529932] (.cst (.int 0))),(.fset (.var 0) 31083624820 [211529932] (.cst (.int 0))),(.fset (.var 0) 31083802852 [211529932] .dnew),(.fset (.var 0) 213628900 [211529932] (.lst [])),(.fset (.var 0) 3500095911797 [211529932] (.lst [])),(.fset (.var 0) 243020007 [211529932] (.dcmp 1 [] [((.nm 0),(.call 17 [.var 1]),[])] (.var 0) (.cst .non)))]⟩
noncomputable def l8:Fn:=⟨2,2,[(.exp (.call 2 [(.fld (.var 0) 232289904 [211529932]),.var 1])),(.ret (.idx (.fld (.var 0) 509789213455080 [211529932]) (.var 1)))]⟩
noncomputable def mX:Fn:=⟨1,4,[(.set (.tp [1,2,3]) (.fld (.var 0) 232289904 [211529932])),(.ret (.comp 1 [0,3,1] [((.nm 0),(.rng1 (.bin .add (.bin .mul (.var 2) (.var 3)) (.cst (.int 1)))),[])] (.comp 1 [1,0] [((.nm 0),(.rng1 (.bin .add (.bin .mul (.var 3) (.var 2)) (.cst (.int 1)))),[])] (.idx (.fld (.var 1) 509789213455080 [211529932]) (.tup [.var 0,.var 2])))))]⟩
noncomputable def mr:Fn:=⟨2,2,[(.exp (.call 2 [(.fld (.var 0) 232289904 [211529932]),.var 1])),(.ret (.dgt (.fld (.var 0) 31083802852 [211529932]) (.var 1) (.cst (.int 0))))]⟩
noncomputable def mf:Fn:=⟨1,1,[(.ret (.and (.isi (.var 0) .tint) (.not (.isi (.var 0) .tbool))))]⟩
noncomputable def my:Fn:=⟨2,3,[(.ife (.cmp .isN (.var 1) (.cst .non)) [(.ret (.cmp .isN (.var 0) (.cst .non)))] []),(.ife (.isi (.var 1) .tbool) [(.ret (.and (.isi (.var 0) .tbool) (.cmp .eq (.var 0) (.var 1))))] []),(.ife (.isi (.var 1) .tint) [(.ret (.and (.call 31 [.var 0]) (.cmp .eq (.var 0) (.var 1))))] []),(.ife (.isi (.var 1) .tstr) [(.ret (.and (.isi (.var 0) .tstr) (.cmp .eq (.var 0) (.var 1))))] []),(.ife (.and (.isi (.var 1) .ttuple) (.not (.isi (.var 0) .ttuple))) [(.ret (.cst (.bl false)))] []),(.ife (.and (.isi (.var 1) .tlist) (.not (.isi (.var 0) .tlist))) [(.ret (.cst (.bl false)))] []),(.ife (.cmp .ne (.bi .len [.var 0]) (.bi .len [.var 1])) [(.ret (.cst (.bl false)))] []),(.for (.nm 2) (.rng1 (.bi .len [.var 1])) [(.ife (.not (.call 32 [(.idx (.var 0) (.var 2)),(.idx (.var 1) (.var 2))])) [(.ret (.cst (.bl false)))] [])]),(.ret (.cst (.bl true)))]⟩
noncomputable def nB:Fn:=⟨1,1,[(.ret (.lst [(.bi .list [(.slc (.var 0) none (some (.cst (.int 63))))]),(.cst (.int 0)),(.cst (.int 7))]))]⟩
noncomputable def m9:Fn:=⟨2,5,[(.set (.nm 2) (.idx (.var 0) (.cst (.int 0)))),(.set (.nm 3) (.idx (.var 0) (.cst (.int 1)))),(.set (.nm 4) (.cst (.int 0))),(.ife (.cmp .gt (.bi .len [.var 2]) (.cst (.int 0))) [(.set (.nm 4) (.idx (.var 2) (.bin .mod (.var 3) (.bi .len [.var 2]))))] []),(.ife (.cmp .lt (.var 4) (.cst (.int 0))) [(.set (.nm 4) (.bin .sub (.cst (.int 1)) (.var 4)))] []),(.ife (.cmp .ge (.var 4) (.bin .pow (.cst (.int 10)) (.cst (.int 18)))) [(.sub (.var 2) (.bin .mod (.var 3) (.bi .len [.var 2])) (.bin .fdiv (.var 4) (.var 1))),(.ret (.bin .mod (.var 4) (.var 1)))] []),(.sub (.var 0) (.cst (.int 1)) (.bin .add (.var 3) (.cst (.int 1)))),(.sub (.var 0) (.cst (.int 2)) (.bin .mod (.bin .add (.bin .add (.bin .add (.bin .mul (.idx (.var 0) (.cst (.int 2))) (.cst (.int 48271))) (.bin .mul (.var 4) (.cst (.int 9973)))) (.bin .mul (.var 3) (.cst (.int 31)))) (.cst (.int 11))) (.cst (.int 2147483647)))),(.ret (.bin .mod (.bin .fdiv (.bin .mod (.bin .mul (.idx (.var 0) (.cst (.int 2))) (.cst (.int 69621))) (.cst (.int 2147483629))) (.cst (.int 64))) (.var 1)))]⟩
noncomputable def nu:Fn:=⟨1,2,[(.set (.nm 1) (.call 34 [.var 0,(.cst (.int 5))])),(.ife (.cmp .eq (.var 1) (.cst (.int 0))) [(.ret (.bin .sub (.call 34 [.var 0,(.cst (.int 7))]) (.cst (.int 3))))] []),(.ife (.cmp .eq (.var 1) (.cst (.int 1))) [(.ret (.bin .sub (.call 34 [.var 0,(.cst (.int 2001))]) (.cst (.int 1000))))] []),(.ife (.cmp .eq (.var 1) (.cst (.int 2))) [(.ret (.cst (.int 0)))] []),(.ret (.bin .mul (.bin .mul (.call 34 [.var 0,(.bin .add (.bin .pow (.cst (.int 10)) (.cst (.int 9))) (.cst (.int 7)))]) (.bin .sub (.bin .mul (.call 34 [.var 0,(.cst (.int 2))]) (.cst (.int 2))) (.cst (.int 1)))) (.bin .add (.cst (.int 1)) (.bin .mul (.call 34 [.var 0,(.cst (.int 3))]) (.bin .pow (.cst (.int 10)) (.cst (.int 18)))))))]⟩
noncomputable def ng:Fn:=⟨1,2,[(.set (.nm 1) (.lst [(.tup [(.cst (.int 1)),(.cst (.int 1)),(.cst (.int 2))]),(.tup [(.cst (.int 1)),(.cst (.int 1)),(.cst (.int 4))]),(.tup [(.cst (.int 2)),(.cst (.int 1)),(.cst (.int 2))]),(.tup [(.cst (.int 1)),(.cst (.int 2)),(.cst (.int 2))]),(.tup [(.cst (.int 2)),(.cst (.int 2)),(.cst (.int 2))]),(.tup [(.cst (.int 1)),(.cst (.int 1)),(.cst (.int 4))])])),(.set (.nm 1) (.bin .add (.var 1) (.lst [(.tup [(.cst (.int 3)),(.cst (.int 1)),(.cst (.int 2))]),(.tup [(.cst (.int 1)),(.cst (.int 3)),(.cst (.int 2))]),(.tup [(.cst (.int 2)),(.cst (.int 1)),(.cst (.int 4))]),(.tup [(.cst (.int 1)),(.cst (.int 2)),(.cst (.int 4))]),(.tup [(.cst (.int 3)),(.cst (.int 2)),(.cst (.int 2))]),(.tup [(.cst (.int 1)),(.cst (.int 1)),(.cst (.int 8))])]))),(.ret (.idx (.var 1) (.call 34 [.var 0,(.cst (.int 12))])))]⟩
noncomputable def lZ:Fn:=⟨1,4,[(.set (.nm 1) (.lst [])),(.for (.nm 2) (.rng1 (.bin .add (.bin .mul (.idx (.var 0) (.cst (.int 0))) (.idx (.var 0) (.cst (.int 2)))) (.cst (.int 1)))) [(.for (.nm 3) (.rng1 (.bin .add (.bin .mul (.idx (.var 0) (.cst (.int 1))) (.idx (.var 0) (.cst (.int 2)))) (.cst (.int 1)))) [(.exp (.app (.var 1) (.tup [.var 2,.var 3])))])]),(.ret (.var 1))]⟩
noncomputable def l0:Fn:=⟨2,2,[(.ret (.and (.cmp .eq (.bin .mod (.idx (.var 1) (.cst (.int 0))) (.idx (.var 0) (.cst (.int 2)))) (.cst (.int 0))) (.cmp .eq (.bin .mod (.idx (.var 1) (.cst (.int 1))) (.idx (.var 0) (.cst (.int 2)))) (.cst (.int 0)))))]⟩
noncomputable def mR:Fn:=⟨1,1,[(.ret (.comp 1 [0] [((.nm 0),(.call 37 [.var 0]),[(.not (.call 38 [.var 1,.var 0]))])] (.var 0)))]⟩
noncomputable def mJ:Fn:=⟨1,1,[(.ife (.and (.cmp .eq (.bin .mod (.idx (.var 0) (.cst (.int 0))) (.cst (.int 4))) (.cst (.int 0))) (.cmp .eq (.bin .mod (.idx (.var 0) (.cst (.int 1))) (.cst (.int 4))) (.cst (.int 0)))) [(.ret (.cst (.int 4)))] []),(.ife (.and (.cmp .eq (.bin .mod (.idx (.var 0) (.cst (.int 0))) (.cst (.int 2))) (.cst (.int 0))) (.cmp .eq (.bin .mod (.idx (.var 0) (.cst (.int 1))) (.cst (.int 2))) (.cst (.int 0)))) [(.ret (.cst (.int 2)))] []),(.ret (.cst (.int 1)))]⟩
noncomputable def lV:Fn:=⟨1,2,[(.set (.nm 1) (.call 40 [.var 0])),(.ret (.and (.cmp .eq (.bin .mod (.bin .fdiv (.idx (.var 0) (.cst (.int 0))) (.var 1)) (.cst (.int 2))) (.cst (.int 1))) (.cmp .eq (.bin .mod (.bin .fdiv (.idx (.var 0) (.cst (.int 1))) (.var 1)) (.cst (.int 2))) (.cst (.int 1)))))]⟩
noncomputable def lX:Fn:=⟨1,8,[(.set (.nm 1) (.call 40 [.var 0])),(.set (.tp [2,3]) (.var 0)),(.set (.nm 4) (.lst [(.tup [(.bin .sub (.var 2) (.var 1)),.var 3]),(.tup [(.bin .add (.var 2) (.var 1)),.var 3])])),(.set (.nm 5) (.lst [(.tup [.var 2,(.bin .sub (.var 3) (.var 1))]),(.tup [.var 2,(.bin .add (.var 3) (.var 1))])])),(.set (.nm 6) (.lst [(.tup [(.bin .sub (.var 2) (.var 1)),(.bin .sub (.var 3) (.var 1))]),(.tup [(.bin .add (.var 2) (.var 1)),(.bin .add (.var 3) (.var 1))])])),(.set (.nm 7) (.lst [(.tup [(.bin .sub (.var 2) (.var 1)),(.bin .add (.var 3) (.var 1))]),(.tup [(.bin .add (.var 2) (.var 1)),(.bin .sub (.var 3) (.var 1))])])),(.ife (.call 41 [.var 0]) [(.ife (.cmp .eq (.bin .mod (.bin .fdiv (.bin .sub (.bin .add (.bin .sub (.var 2) (.var 1)) (.var 3)) (.var 1)) (.bin .mul (.cst (.int 2)) (.var 1))) (.cst (.int 2))) (.cst (.int 0))) [(.ret (.lst [.var 6,.var 7]))] []),(.ret (.lst [.var 7,.var 6]))] []),(.ife (.cmp .eq (.bin .mod (.bin .fdiv (.var 2) (.var 1)) (.cst (.int 2))) (.cst (.int 1))) [(.ret (.lst [.var 4,.var 5]))] []),(.ret (.lst [.var 5,.var 4]))]⟩
noncomputable def nr:Fn:=⟨2,5,[(.set (.nm 2) (.bi .abs [.var 0])),(.set (.nm 3) (.bi .abs [.var 1])),(.whl (.cmp .gt (.var 3) (.cst (.int 0))) [(.set (.nm 4) (.bin .mod (.var 2) (.var 3))),(.set (.nm 2) (.var 3)),(.set (.nm 3) (.var 4))]),(.ife (.cmp .lt (.var 1) (.cst (.int 0))) [(.set (.nm 2) (.bin .sub (.cst (.int 0)) (.var 2)))] []),(.ret (.tup [(.bin .fdiv (.var 0) (.var 2)),(.bin .fdiv (.var 1) (.var 2))]))]⟩
noncomputable def m8:Fn:=⟨2,2,[(.ife (.cmp .eq (.var 1) (.cst (.int 0))) [(.ret (.idx (.lst [(.cst (.int 0)),(.cst (.int 0)),(.cst (.int 0)),(.cst (.int 0)),(.cst (.int 0)),(.cst (.int 7)),(.bin .sub (.cst (.int 0)) (.cst (.int 5)))]) (.call 34 [.var 0,(.cst (.int 7))])))] []),(.ife (.cmp .eq (.var 1) (.cst (.int 1))) [(.ret (.bin .sub (.call 34 [.var 0,(.cst (.int 7))]) (.cst (.int 3))))] []),(.ife (.cmp .eq (.var 1) (.cst (.int 2))) [(.ret (.bin .sub (.call 34 [.var 0,(.cst (.int 2001))]) (.cst (.int 1000))))] []),(.ife (.cmp .eq (.var 1) (.cst (.int 3))) [(.ret (.bin .sub (.bin .mul (.call 34 [.var 0,(.cst (.int 2))]) (.cst (.int 2000))) (.cst (.int 1000))))] []),(.ret (.cst (.int 0)))]⟩
noncomputable def lR:Fn:=⟨2,7,[(.set (.nm 2) (.call 34 [.var 0,(.cst (.int 6))])),(.set (.nm 3) (.bin .sub (.call 34 [.var 0,(.cst (.int 41))]) (.cst (.int 20)))),(.set (.nm 4) (.bin .sub (.call 34 [.var 0,(.cst (.int 41))]) (.cst (.int 20)))),(.set (.nm 5) .dnew),(.for (.nm 6) (.call 37 [.var 1]) [(.sub (.var 5) (.var 6) (.call 44 [.var 0,.var 2])),(.ife (.cmp .eq (.var 2) (.cst (.int 5))) [(.sub (.var 5) (.var 6) (.bin .add (.bin .add (.bin .mul (.var 3) (.idx (.var 6) (.cst (.int 0)))) (.bin .mul (.var 4) (.idx (.var 6) (.cst (.int 1))))) (.idx (.lst [(.cst (.int 0)),(.cst (.int 0)),(.cst (.int 0)),(.cst (.int 1))]) (.call 34 [.var 0,(.cst (.int 4))]))))] [])]),(.ret (.var 5))]⟩
noncomputable def mw:Fn:=⟨2,4,[(.set (.nm 2) (.lst [])),(.for (.nm 3) (.rng1 (.bin .add (.bin .mul (.idx (.var 0) (.cst (.int 1))) (.idx (.var 0) (.cst (.int 2)))) (.cst (.int 1)))) [(.exp (.app (.var 2) (.comp 1 [1,3] [((.nm 0),(.rng1 (.bin .add (.bin .mul (.idx (.var 0) (.cst (.int 0))) (.idx (.var 0) (.cst (.int 2)))) (.cst (.int 1)))),[])] (.idx (.var 1) (.tup [.var 0,.var 2])))))]),(.ret (.var 2))]⟩
noncomputable def mh:Fn:=⟨1,3,[(.set (.nm 1) .dnew),(.for (.nm 2) (.var 0) [(.sub (.var 1) (.var 2) (.cst (.int 0)))]),(.ret (.ddsp [(PySem.Str.ofString "heights"),(PySem.Str.ofString "edition"),(PySem.Str.ofString "tries"),(PySem.Str.ofString "made"),(PySem.Str.ofString "done"),(PySem.Str.ofString "undone")] [(.bi .dct [.var 0]),(.cst (.int 0)),(.cst (.int 0)),.var 1,.lst [],.lst []]))]⟩
noncomputable def l7:Fn:=⟨3,5,[(.set (.nm 3) (.and (.call 32 [(.meth (.var 0) 243136498 [(211529932,29,[.inl 0])] [] []),(.call 46 [.var 1,(.idx (.var 2) (.cst (.str (PySem.Str.ofString "heights"))))])]) (.call 32 [(.fld (.var 0) 232289904 [211529932]),.var 1]))),(.set (.nm 3) (.and (.var 3) (.and (.call 32 [(.fld (.var 0) 487627477906021 [211529932]),(.idx (.var 2) (.cst (.str (PySem.Str.ofString "edition"))))]) (.call 32 [(.fld (.var 0) 31083624820 [211529932]),(.idx (.var 2) (.cst (.str (PySem.Str.ofString "tries"))))])))),(.for (.nm 4) (.idx (.var 2) (.cst (.str (PySem.Str.ofString "made")))) [(.set (.nm 3) (.and (.var 3) (.call 32 [(.meth (.var 0) 27321414899 [(211529932,30,[.inl 0,.inl 1])] [.var 4] []),(.idx (.idx (.var 2) (.cst (.str (PySem.Str.ofString "made")))) (.var 4))]))),(.set (.nm 3) (.and (.var 3) (.call 32 [(.meth (.var 0) 4013864678120 [(211529932,28,[.inl 0,.inl 1])] [.var 4] []),(.idx (.idx (.var 2) (.cst (.str (PySem.Str.ofString "heights")))) (.var 4))])))]),(.ret (.var 3))]⟩
noncomputable def xf:Fn:=⟨1,14,[(.set (.nm 1) (.call 33 [.var 0])),(.set (.nm 2) (.call 36 [.var 1])),(.set (.nm 3) (.call 45 [.var 1,.var 2])),(.set (.nm 4) (.make 211529932 27 [.var 2,(.call 46 [.var 2,.var 3])] [] [.inl 0,.inl 1,.inl 2])),(.set (.nm 5) (.call 39 [.var 2])),(.set (.nm 6) (.cst (.bl true))),(.for (.nm 7) (.rng1 (.cst (.int 5))) [(.set (.nm 8) (.idx (.var 5) (.call 34 [.var 1,(.bi .len [.var 5])]))),(.set (.nm 9) (.idx (.call 42 [.var 8]) (.cst (.int 0)))),(.set (.nm 10) (.bin .add (.idx (.var 3) (.idx (.var 9) (.cst (.int 0)))) (.idx (.var 3) (.idx (.var 9) (.cst (.int 1)))))),(.set (.nm 11) (.bin .sub (.bin .mul (.cst (.int 2)) (.idx (.var 3) (.var 8))) (.var 10))),(.set (.nm 12) (.call 43 [(.call 35 [.var 1]),(.bin .add (.cst (.int 1)) (.bi .abs [(.call 35 [.var 1])]))])),(.ife (.cmp .eq (.var 7) (.cst (.int 1))) [(.set (.nm 12) (.tup [(.call 34 [.var 1,(.cst (.int 2))]),(.cst (.int 1))]))] []),(.set (.nm 13) (.call 43 [(.bin .add (.bin .mul (.var 10) (.idx (.var 12) (.cst (.int 1)))) (.bin .mul (.idx (.var 12) (.cst (.int 0))) (.var 11))),(.bin .mul (.cst (.int 2)) (.idx (.var 12) (.cst (.int 1))))])),(.set (.nm 6) (.and (.var 6) (.call 32 [(.callk 23 [.var 4,.var 8,.var 12] [] [.inl 0,.inl 1,.inl 2]),.var 13]))),(.set (.nm 6) (.and (.var 6) (.call 32 [(.callk 23 [.var 4,.var 8] [.var 12] [.inl 0,.inl 1,.inl 2]),.var 13]))),(.set (.nm 6) (.and (.var 6) (.call 32 [(.callk 23 [.var 4,.var 8] [] [.inl 0,.inl 1,(.inr (.xn 0 [.int 1,.int 2]))]),(.call 43 [(.bin .add (.bin .mul (.cst (.int 2)) (.var 10)) (.var 11)),(.cst (.int 4))])])))]),(.ret (.and (.var 6) (.call 48 [.var 4,.var 2,(.call 47 [.var 3])])))]⟩
noncomputable def fns:List Fn:=[nz,nL,mj,mD,nv,BE,oF,mH,mi,lS,qq,tW,lU,pX,oW,oE,wu,pk,qV,oV,si,pL,jZ,pO,l9,mz,m7,lQ,l8,mX,mr,mf,my,nB,m9,nu,ng,lZ,l0,mR,mJ,lV,lX,nr,m8,lR,mw,mh,l7,xf]
end Lk47
end
section
namespace Lk47
noncomputable section
open PySem PI L2
noncomputable def bp:List Inf:=[⟨"is_whole",["thing"],["thing"],none,none⟩,⟨"in_land",["plan","at","wide","deep","side","x","y"],["plan","at"],none,none⟩,⟨"need_place",["plan","at"],["plan","at"],none,none⟩,⟨"is_corner",["plan","at","side","x","y"],["plan","at"],none,none⟩,⟨"need_cut",["plan","at"],["plan","at"],none,none⟩,⟨"places",["plan","wide","deep","side"],["plan"],none,none⟩,⟨"stride",["at","x","y","size"],["at"],none,none⟩,⟨"is_centre",["at","x","y","size"],["at"],none,none⟩,⟨"edge_pairs",["at","x","y","size","lying","upright"],["at"],none,none⟩,⟨"centre_pairs",["at","x","y","size","rising","falling"],["at"],none,none⟩,⟨"pairs",["at"],["at"],none,none⟩,⟨"ends",["plan","at"],["plan","at"],none,none⟩,⟨"block_roots",["i","j","side","x","y","right","top"],["i","j","side"],none,none⟩,⟨"roots",["plan","wide","deep","side"],["plan"],none,none⟩,⟨"middle",["shape","ax","ay","bx","by"],["shape"],none,none⟩,⟨"halved",["shape","place","x","y","ax","ay","bx","by","cx","cy"],["shape"],none,none⟩,⟨"kin",["starts","told","waiting","shape"],["starts"],none,none⟩,⟨"shapes",["plan"],["plan"],none,none⟩,⟨"share",["over","under","divisor"],["over","under"],none,none⟩,⟨"common",["one","other"],["one","other"],none,none⟩,⟨"plus",["one","other"],["one","other"],none,none⟩,⟨"minus",["one","other"],["one","other"],none,none⟩,⟨"times",["one","other"],["one","other"],none,none⟩,⟨"slide",["land","at","part","one","other","half"],["land","at","part"],none,some (⟨["land","at","part"],[],[("part",(.xn 0 [(.int 1),(.int 2)]))]⟩,1)⟩,⟨"need_height",["at","high"],["at","high"],none,none⟩,⟨"need_size",["things","size"],["things","size"],none,none⟩,⟨"read_rows",["plan","rows","wide","deep","side","row","heights","y","x","high"],["plan","rows"],none,none⟩,⟨"Land.__init__",["self","plan","rows"],["self","plan","rows"],some ("Land","__init__"),some (⟨["self","plan","rows"],[],[("rows",.non)]⟩,1)⟩,⟨"Land.height",["self","at"],["self","at"],some ("Land","height"),some (⟨["self","at"],[],[]⟩,0)⟩,⟨"Land.rows",["self","wide","deep","side"],["self"],some ("Land","rows"),some (⟨["self"],[],[]⟩,0)⟩,⟨"Land.since",["self","at"],["self","at"],some ("Land","since"),some (⟨["self","at"],[],[]⟩,0)⟩,⟨"_law_whole",["_law_found"],["_law_found"],none,none⟩,⟨"_law_same",["_law_found","_law_due","_law_k"],["_law_found","_law_due"],none,none⟩,⟨"_law_bag",["_law_script"],["_law_script"],none,none⟩,⟨"_law_draw",["_law_bag_here","_law_many","_law_cells","_law_at","_law_cell"],["_law_bag_here","_law_many"],none,none⟩,⟨"_law_big",["_law_bag_here","_law_kind"],["_law_bag_here"],none,none⟩,⟨"_law_plan",["_law_bag_here","_law_menu"],["_law_bag_here"],none,none⟩,⟨"_law_places",["_law_plan_here","_law_found","_law_x","_law_y"],["_law_plan_here"],none,none⟩,⟨"_law_corner",["_law_plan_here","_law_at"],["_law_plan_here","_law_at"],none,none⟩,⟨"_law_cuts",["_law_plan_here"],["_law_plan_here"],none,none⟩,⟨"_law_step",["_law_at"],["_law_at"],none,none⟩,⟨"_law_centre",["_law_at","_law_size"],["_law_at"],none,none⟩,⟨"_law_around",["_law_at","_law_size","_law_x","_law_y","_law_flat","_law_tall","_law_rising","_law_falling"],["_law_at"],none,none⟩,⟨"_law_low",["_law_gain","_law_base","_law_one","_law_two","_law_rest"],["_law_gain","_law_base"],none,none⟩,⟨"_law_high",["_law_bag_here","_law_kind"],["_law_bag_here","_law_kind"],none,none⟩,⟨"_law_heights",["_law_bag_here","_law_plan_here","_law_kind","_law_across","_law_along","_law_found","_law_at"],["_law_bag_here","_law_plan_here"],none,none⟩,⟨"_law_rows",["_law_plan_here","_law_heights_here","_law_found","_law_y"],["_law_plan_here","_law_heights_here"],none,none⟩,⟨"_law_model",["_law_heights_here","_law_made","_law_at"],["_law_heights_here"],none,none⟩,⟨"_law_stands",["_law_land","_law_plan_here","_law_model_here","_law_good","_law_at"],["_law_land","_law_plan_here","_law_model_here"],none,none⟩,⟨"law",["_law_script","_law_bag_here","_law_plan_here","_law_heights_here","_law_land","_law_every","_law_good","_law_k","_law_at","_law_tips","_law_mid","_law_more","_law_some","_law_due"],["_law_script"],none,none⟩]
noncomputable def ms:List Str:=["__init__","height","rows","since"]
noncomputable def T:Tab:=⟨[(sO "is_whole"),(sO "in_land"),(sO "need_place"),(sO "is_corner"),(sO "need_cut"),(sO "places"),(sO "stride"),(sO "is_centre"),(sO "edge_pairs"),(sO "centre_pairs"),(sO "pairs"),(sO "ends"),(sO "block_roots"),(sO "roots"),(sO "middle"),(sO "halved"),(sO "kin"),(sO "shapes"),(sO "share"),(sO "common"),(sO "plus"),(sO "minus"),(sO "times"),(sO "__debug__"),(sO "need_height"),(sO "need_size"),(sO "read_rows"),(sO "__debug__"),(sO "__debug__"),(sO "__debug__"),(sO "__debug__"),(sO "_law_whole"),(sO "_law_same"),(sO "_law_bag"),(sO "_law_draw"),(sO "_law_big"),(sO "_law_plan"),(sO "_law_places"),(sO "_law_corner"),(sO "_law_cuts"),(sO "_law_step"),(sO "_law_centre"),(sO "_law_around"),(sO "_law_low"),(sO "_law_high"),(sO "_law_heights"),(sO "_law_rows"),(sO "_law_model"),(sO "_law_stands"),(sO "law")],[("HIGH",(.int 1000))],["abs","bool","dict","enumerate","int","isinstance","len","list","range","str","tuple"],ju bp,jh bp,i3 bp ms,[("plan",[211529932]),("edition",[211529932]),("tries",[211529932]),("dates",[211529932]),("done",[211529932]),("undone",[211529932]),("gaps",[211529932]),("heights",[211529932])]⟩
noncomputable def loose:List Str:=[(sO "_wall"),(sO "LandError"),(sO "LookError"),(sO "NoShare"),(sO "BadSize"),(sO "BadHeight"),(sO "NoHalf"),(sO "NoPlace"),(sO "NoCut"),(sO "NoTriangle"),(sO "NothingLeft"),(sO "is_whole"),(sO "in_land"),(sO "need_place"),(sO "is_corner"),(sO "need_cut"),(sO "places"),(sO "stride"),(sO "is_centre"),(sO "edge_pairs"),(sO "centre_pairs"),(sO "pairs"),(sO "ends"),(sO "block_roots"),(sO "roots"),(sO "middle"),(sO "halved"),(sO "kin"),(sO "shapes"),(sO "turn"),(sO "box"),(sO "in_box"),(sO "covers"),(sO "under"),(sO "share"),(sO "common"),(sO "plus"),(sO "minus"),(sO "times"),(sO "slide"),(sO "HIGH"),(sO "need_height"),(sO "need_size"),(sO "read_rows"),(sO "touched"),(sO "plane"),(sO "Land"),(sO "_law_whole"),(sO "_law_same"),(sO "_law_bag"),(sO "_law_draw"),(sO "_law_big"),(sO "_law_plan"),(sO "_law_places"),(sO "_law_corner"),(sO "_law_cuts"),(sO "_law_step"),(sO "_law_centre"),(sO "_law_around"),(sO "_law_low"),(sO "_law_high"),(sO "_law_heights"),(sO "_law_rows"),(sO "_law_model"),(sO "_law_stands")]
end
end Lk47
end
section
open PySem PySem.W PyProof.Rows
noncomputable def Lk47.raws:List (Option (Scope×List Stmt)):=[PI.av PySem.Challenge.rw_braemantle_k47_slides.prog.main.body 13,PI.av PySem.Challenge.rw_braemantle_k47_slides.prog.main.body 14,PI.av PySem.Challenge.rw_braemantle_k47_slides.prog.main.body 15,PI.av PySem.Challenge.rw_braemantle_k47_slides.prog.main.body 16,PI.av PySem.Challenge.rw_braemantle_k47_slides.prog.main.body 17,PI.av PySem.Challenge.rw_braemantle_k47_slides.prog.main.body 18,PI.av PySem.Challenge.rw_braemantle_k47_slides.prog.main.body 19,PI.av PySem.Challenge.rw_braemantle_k47_slides.prog.main.body 20,PI.av PySem.Challenge.rw_braemantle_k47_slides.prog.main.body 21,PI.av PySem.Challenge.rw_braemantle_k47_slides.prog.main.body 22,PI.av PySem.Challenge.rw_braemantle_k47_slides.prog.main.body 23,PI.av PySem.Challenge.rw_braemantle_k47_slides.prog.main.body 24,PI.av PySem.Challenge.rw_braemantle_k47_slides.prog.main.body 26,PI.av PySem.Challenge.rw_braemantle_k47_slides.prog.main.body 27,PI.av PySem.Challenge.rw_braemantle_k47_slides.prog.main.body 28,PI.av PySem.Challenge.rw_braemantle_k47_slides.prog.main.body 29,PI.av PySem.Challenge.rw_braemantle_k47_slides.prog.main.body 30,PI.av PySem.Challenge.rw_braemantle_k47_slides.prog.main.body 31,PI.av PySem.Challenge.rw_braemantle_k47_slides.prog.main.body 38,PI.av PySem.Challenge.rw_braemantle_k47_slides.prog.main.body 39,PI.av PySem.Challenge.rw_braemantle_k47_slides.prog.main.body 40,PI.av PySem.Challenge.rw_braemantle_k47_slides.prog.main.body 41,PI.av PySem.Challenge.rw_braemantle_k47_slides.prog.main.body 42,PI.av PySem.Challenge.rw_braemantle_k47_slides.prog.main.body 44,PI.av PySem.Challenge.rw_braemantle_k47_slides.prog.main.body 47,PI.av PySem.Challenge.rw_braemantle_k47_slides.prog.main.body 48,PI.av PySem.Challenge.rw_braemantle_k47_slides.prog.main.body 49,PI.i9 PySem.Challenge.rw_braemantle_k47_slides.prog.main.body 52 0,PI.i9 PySem.Challenge.rw_braemantle_k47_slides.prog.main.body 52 2,PI.i9 PySem.Challenge.rw_braemantle_k47_slides.prog.main.body 52 3,PI.i9 PySem.Challenge.rw_braemantle_k47_slides.prog.main.body 52 4,PI.av PySem.Challenge.rw_braemantle_k47_slides.prog.main.body 54,PI.av PySem.Challenge.rw_braemantle_k47_slides.prog.main.body 55,PI.av PySem.Challenge.rw_braemantle_k47_slides.prog.main.body 56,PI.av PySem.Challenge.rw_braemantle_k47_slides.prog.main.body 57,PI.av PySem.Challenge.rw_braemantle_k47_slides.prog.main.body 58,PI.av PySem.Challenge.rw_braemantle_k47_slides.prog.main.body 59,PI.av PySem.Challenge.rw_braemantle_k47_slides.prog.main.body 60,PI.av PySem.Challenge.rw_braemantle_k47_slides.prog.main.body 61,PI.av PySem.Challenge.rw_braemantle_k47_slides.prog.main.body 62,PI.av PySem.Challenge.rw_braemantle_k47_slides.prog.main.body 63,PI.av PySem.Challenge.rw_braemantle_k47_slides.prog.main.body 64,PI.av PySem.Challenge.rw_braemantle_k47_slides.prog.main.body 65,PI.av PySem.Challenge.rw_braemantle_k47_slides.prog.main.body 66,PI.av PySem.Challenge.rw_braemantle_k47_slides.prog.main.body 67,PI.av PySem.Challenge.rw_braemantle_k47_slides.prog.main.body 68,PI.av PySem.Challenge.rw_braemantle_k47_slides.prog.main.body 69,PI.av PySem.Challenge.rw_braemantle_k47_slides.prog.main.body 70,PI.av PySem.Challenge.rw_braemantle_k47_slides.prog.main.body 71,PI.av PySem.Challenge.rw_braemantle_k47_slides.prog.main.body 72]
set_option maxRecDepth 100000 in
set_option maxHeartbeats 0 in
theorem Lk47.chk0(w:World):(PI.endsF PySem.Challenge.rw_braemantle_k47_slides.prog w 20000).map (λs=>(Fast.tw4187177175401517315 (PI.lastOf PySem.Challenge.rw_braemantle_k47_slides.prog) Lk47.loose (PySem.importedModules PySem.Challenge.rw_braemantle_k47_slides.prog.main.body) (λ_=>true) true s,PI.k6 Lk47.T (PI.be s.heap) Lk47.bp))=some (openGood (PI.lastOf PySem.Challenge.rw_braemantle_k47_slides.prog) Lk47.loose,true):=by kernel_rfl
set_option maxRecDepth 100000 in
set_option maxHeartbeats 0 in
theorem Lk47.chk1(w:World):(PI.endsF PySem.Challenge.rw_braemantle_k47_slides.prog w 20000).map (λs=>(Lk47.bp.take 13).map (PI.cg (PI.be s.heap)))=some (Lk47.raws.take 13):=by kernel_rfl
set_option maxRecDepth 100000 in
set_option maxHeartbeats 0 in
theorem Lk47.chk2(w:World):(PI.endsF PySem.Challenge.rw_braemantle_k47_slides.prog w 20000).map (λs=>((Lk47.bp.drop 13).take 13).map (PI.cg (PI.be s.heap)))=some ((Lk47.raws.drop 13).take 13):=by kernel_rfl
set_option maxRecDepth 100000 in
set_option maxHeartbeats 0 in
theorem Lk47.chk3(w:World):(PI.endsF PySem.Challenge.rw_braemantle_k47_slides.prog w 20000).map (λs=>((Lk47.bp.drop 26).take 12).map (PI.cg (PI.be s.heap)))=some ((Lk47.raws.drop 26).take 12):=by kernel_rfl
set_option maxRecDepth 100000 in
set_option maxHeartbeats 0 in
theorem Lk47.chk4(w:World):(PI.endsF PySem.Challenge.rw_braemantle_k47_slides.prog w 20000).map (λs=>((Lk47.bp.drop 38).take 12).map (PI.cg (PI.be s.heap)))=some ((Lk47.raws.drop 38).take 12):=by kernel_rfl
set_option maxRecDepth 100000 in
set_option maxHeartbeats 0 in
theorem Lk47.part0:PI.ag (((Lk47.bp.zip Lk47.raws).take 16).map (PI.mkF Lk47.T))=some (Lk47.fns.take 16):=by kernel_rfl
set_option maxRecDepth 100000 in
set_option maxHeartbeats 0 in
theorem Lk47.part1:PI.ag ((((Lk47.bp.zip Lk47.raws).drop 16).take 16).map (PI.mkF Lk47.T))=some ((Lk47.fns.drop 16).take 16):=by kernel_rfl
set_option maxRecDepth 100000 in
set_option maxHeartbeats 0 in
theorem Lk47.part2:PI.ag ((((Lk47.bp.zip Lk47.raws).drop 32).take 8).map (PI.mkF Lk47.T))=some ((Lk47.fns.drop 32).take 8):=by kernel_rfl
set_option maxRecDepth 100000 in
set_option maxHeartbeats 0 in
theorem Lk47.part3:PI.ag ((((Lk47.bp.zip Lk47.raws).drop 40).take 8).map (PI.mkF Lk47.T))=some ((Lk47.fns.drop 40).take 8):=by kernel_rfl
set_option maxRecDepth 100000 in
set_option maxHeartbeats 0 in
theorem Lk47.part4:PI.ag ((((Lk47.bp.zip Lk47.raws).drop 48).take 2).map (PI.mkF Lk47.T))=some ((Lk47.fns.drop 48).take 2):=by kernel_rfl
end
namespace L2
open PySem PySem.Spec PyProof.Rows
noncomputable abbrev Key:=Sum Int Str
noncomputable def eR:Key->Value->Bool
 | .inl k,v=>Value.isInt k v
 | .inr x,v=>Value.isStrOf x v
noncomputable def JM(w:World):Key->Int
 | .inl k=>hashInt k
 | .inr x=>hashStr w x
theorem cv:∀ {k:Key} {v:Value},eR k v=true->(∃ i t,k=Sum.inl i/\v=Value.int i t)\/(∃ x t,k=Sum.inr x/\v=Value.str x t)
 | .inl i,v,h=>by
  obtain ⟨t,e⟩:=Value.isInt_shape (k:=i) (v:=v) h;exact .inl ⟨i,t,rfl,e⟩
 | .inr x,v,h=>by
  obtain ⟨t,e⟩:=Value.isStrOf_shape (x:=x) (v:=v) h;exact .inr ⟨x,t,rfl,e⟩
theorem AE(i:Int)(t:Tok):eR (.inl i) (.int i t)=true:=by simp [eR,Value.isInt]
theorem Ay(x:Str)(t:Tok):eR (.inr x) (.str x t)=true:=by simp [eR,Value.isStrOf]
theorem G8(a b:Int):decide ((Sum.inl a:Key)=Sum.inl b)=(a == b):=by
 by_cases e:a=b
 .subst e;simp
 .have h : ¬ (Sum.inl a:Key)=Sum.inl b:=λq=>e (Sum.inl.inj q)
  rw [decide_eq_false h];exact (beq_eq_false_iff_ne.mpr e).symm
theorem Em(a b:Str):decide ((Sum.inr a:Key)=Sum.inr b)=decide (a=b):=by
 by_cases e:a=b
 .subst e;simp
 .have h : ¬ (Sum.inr a:Key)=Sum.inr b:=λq=>e (Sum.inr.inj q)
  rw [decide_eq_false h,decide_eq_false e]
theorem Gu(a:Int)(b:Str):decide ((Sum.inl a:Key)=Sum.inr b)=false:=decide_eq_false (λq=>nomatch q)
theorem EO(a:Str)(b:Int):decide ((Sum.inr a:Key)=Sum.inl b)=false:=decide_eq_false (λq=>nomatch q)
noncomputable def aP(prog:Program)(w:World):PySem.KeyKind prog w Key where
 is:=eR
 hash:=JM w
 inj:=λv a b ha hb=>by
  rcases cv ha with ⟨i,t,rfl,rfl⟩ | ⟨x,t,rfl,rfl⟩
  .rcases cv hb with ⟨j,u,rfl,e⟩ | ⟨y,u,rfl,e⟩
   .injection e with e1 _;rw [e1]
   .exact nomatch e
  .rcases cv hb with ⟨j,u,rfl,e⟩ | ⟨y,u,rfl,e⟩
   .exact nomatch e
   .injection e with e1 _;rw [e1]
 byValue:=λk v h=>by
  rcases cv h with ⟨i,t,rfl,rfl⟩ | ⟨x,t,rfl,rfl⟩ <;> rfl
 pyHash:=λhv h=>by
  rcases cv hv with ⟨i,t,rfl,rfl⟩ | ⟨x,t,rfl,rfl⟩
  .exact wpAny_pyHash_int h
  .exact wpAny_pyHash_str h
 eqBool:=λhu hv h=>by
  rcases cv hu with ⟨i,t,rfl,rfl⟩ | ⟨x,t,rfl,rfl⟩
  .rcases cv hv with ⟨j,u,rfl,rfl⟩ | ⟨y,u,rfl,rfl⟩
   .rw [G8] at h;exact wpAny_eqBool_int h
   .rw [Gu] at h;exact SeqAt.EqAt.int_str i t y u _ _ _ _ h
  .rcases cv hv with ⟨j,u,rfl,rfl⟩ | ⟨y,u,rfl,rfl⟩
   .rw [EO] at h;exact SeqAt.EqAt.str_int x t j u _ _ _ _ h
   .rw [Em] at h;exact wpAny_eqBool_str h
 «strs» := λk x t v h=>by
  rcases cv h with ⟨i,u,rfl,e⟩ | ⟨y,u,rfl,e⟩
  .exact nomatch e
  .injection e with e1 _
   subst e1;cases v <;> rfl
theorem zx(prog:Program)(w:World)(i:Int)(t:Tok):(aP prog w).is (.inl i) (.int i t)=true:=AE i t
theorem zA(prog:Program)(w:World)(x:Str)(t:Tok):(aP prog w).is (.inr x) (.str x t)=true:=Ay x t
end L2
namespace L2
open PySem PySem.Spec PyProof.Rows
inductive V where
 | non | bl (b:Bool) | int (i:Int) | str (x:Str) | byt (b:Array UInt8) | flt (b:UInt64) | ref (a:Addr) | ty (n:String)
 deriving DecidableEq
noncomputable def RelV:V->Value->Prop
 | .non,u=>u=Value.none
 | .bl b,u=>u=Value.bool b
 | .int i,u => ∃ t,u=Value.int i t
 | .str x,u => ∃ t,u=Value.str x t
 | .byt b,u => ∃ t,u=Value.bytes b t
 | .flt b,u => ∃ t,u=Value.float b t
 | .ref a,u=>u=Value.ref a
 | .ty n,u=>u=Value.type n
noncomputable abbrev Vals:List V->List Value->Prop:=Paired RelV
theorem Vals.length{xs:List V}{us:List Value}(r:Vals xs us):xs.length=us.length:=Paired.length r
theorem Vals.get:∀ {xs:List V} {us:List Value} {i:Nat} {x:V},Vals xs us->xs[i]? = some x -> ∃ u,us[i]? = some u/\RelV x u
 | _,_,_,_,.nil,e=>by simp at e
 | _,_,0,_,.cons r _,e=>by simp at e;subst e;exact ⟨_,rfl,r⟩
 | _,_,i+1,x,.cons _ t,e=>by
  obtain ⟨u,h1,h2⟩:=Vals.get (i:=i) (x:=x) t (by simpa using e)
  exact ⟨u,by simpa using h1,h2⟩
theorem Vals.set{x:V}{u:Value}(r:RelV x u):∀ {xs:List V} {us:List Value} (i:Nat),Vals xs us->Vals (xs.set i x) (us.set i u)
 | _,_,_,.nil => .nil
 | _,_,0,.cons _ t => .cons r t
 | _,_,i+1,.cons q t => .cons q (Vals.set r i t)
theorem Vals.append:∀ {xs ys:List V} {us ws:List Value},Vals xs us->Vals ys ws->Vals (xs++ys) (us++ws)
 | _,_,_,_,.nil,s=>s
 | _,_,_,_,.cons r t,s => .cons r (Vals.append t s)
theorem Vals.take:∀ {xs:List V} {us:List Value} (n:Nat),Vals xs us->Vals (xs.take n) (us.take n)
 | _,_,0,_ => .nil
 | _,_,_+1,.nil => .nil
 | _,_,n+1,.cons r t => .cons r (Vals.take n t)
theorem Vals.drop:∀ {xs:List V} {us:List Value} (n:Nat),Vals xs us->Vals (xs.drop n) (us.drop n)
 | _,_,0,r=>r
 | _,_,_+1,.nil => .nil
 | _,_,n+1,.cons _ t=>Vals.drop n t
noncomputable def RelO:Option V->Option Value->Prop
 | some v,some u=>RelV v u
 | none,none=>True
 | _,_=>False
noncomputable def KV{κ:Type}:List (κ×V)->List (κ×Value)->Prop:=Paired λ(p:κ×V) (q:κ×Value)=>p.1=q.1/\RelV p.2 q.2
noncomputable def kV:Key->V
 | .inl i => .int i
 | .inr x => .str x
set_option genInjectivity false in
inductive HO where
 | lst (xs:List V)
 | tup (xs:List V)
 | dK (kvs:List (Key×V)) | dT (kvs:List (List Key×V))
 | set (S:Int->Bool) (n:Nat)
 | ins (C dx:Addr) (fs:List (Str×V))
 | own (x:Addr)
 | xd (fs:List (Str×V))
 | met (f x:Addr)
 | rng (lo hi:Int)
 | frz (o:Obj) (u:HO)
 | tbl (ps:Array Value)
 | ext (φ:Heap->Prop)
noncomputable abbrev Hp:=Addr->Option HO
noncomputable def upd(H:Hp)(a:Addr)(o:HO):Hp:=λb=>if b=a then some o else H b
theorem upd_same{H:Hp}{a:Addr}{o:HO}:upd H a o a=some o:=by unfold upd;rw [if_pos rfl]
theorem ar{H:Hp}{a b:Addr}{o:HO}(h:b≠a):upd H a o b=H b:=by unfold upd;rw [if_neg h]
theorem eV{H:Hp}{a b:Addr}{o u:HO}(h:H a=some o)(h':H b=some u)(d:o≠u):a≠b:=by
 intro e;subst e;rw [h] at h';exact d (Option.some.inj h')
theorem bF{H:Hp}{a b:Addr}{o:HO}(h:H a=some o)(h':H b=none):a≠b:=by
 intro e;subst e;rw [h] at h';cases h'
section
variable(P:Program)(w:World)
noncomputable def ObjOk(H:Hp)(h:Heap)(a:Addr):HO->Prop
 | .lst xs=>xs.length<=sizeLine /\ ∃ (its:List Value) (n:Nat),Vals xs its/\h.get? a=some { cls := .type "list",data := .seq its.toArray n }
 | .tup xs=>xs.length<=sizeLine /\ ∃ its:List Value,Vals xs its/\IsTup h a its.toArray
 | .dK kvs=>kvs.length<=sizeLine/\(a == sysModules)=false /\ ∃ vs,KV kvs vs/\h.DictOf (aP P w) a vs
 | .dT kvs=>kvs.length<=sizeLine/\(a == sysModules)=false /\ ∃ xs:List (List Key×Addr×Value),
   Paired (λ(p:List Key×V) (q:List Key×Addr×Value)=>p.1=q.1/\H q.2.1=some (.tup (p.1.map kV))/\RelV p.2 q.2.2) kvs xs /\
   ∃ o es ep,h.get? a=some o/\o.ExactDict/\o.data=.dict es ep/\es.toList=xs.map (entryOfKey (tupleKind (aP P w)))/\(xs.map (·.1)).Nodup
 | .set S n=>h.SetOf (intKind P w) a S n
 | .ins C dx fs=>H dx=some (.own a)/\fs.length<=1000/\dx≠a/\h.get? a=some (PySem.W.instObj C dx) /\
   ∃ mA,h.Ns1 dx mA/\(∀ f,RelO (fs.lookup f) (mA f))/\PySem.Within mA (fs.map (·.1))
 | .own _ => ∃ o,h.get? a=some o
 | .xd fs => ∃ mA,h.Ns1 a mA /\ ∀ f,RelO (fs.lookup f) (mA f)
 | .rng lo hi => ∃ t u v,h.get? a=some { cls := .type "range",data := .fields #[.int lo t,.int hi u,.int 1 v] }
 | .frz o u=>h.get? a=some o/\ObjOk H h a u
 | .tbl ps=>h.get? a=some { cls := .none,data := .fields ps }
 | .met f x=>h.get? a=some (PySem.W.methodObj (.ref f) (.ref x))
 | .ext φ=>φ h/\(∃ o,h.get? a=some o) /\ ∀ h1 h2:Heap,φ h1->(∀ o,h1.get? a=some o->h2.get? a=some o)->φ h2
noncomputable def HOk(H:Hp)(h:Heap):Prop := ∀ a o,H a=some o->ObjOk P w H h a o
end
section
variable{P:Program}{w:World}{H H':Hp}{h h':Heap}{a:Addr}{o:HO}
theorem ObjOk.lt(x:ObjOk P w H h a o):a < h.objs.size:=by
 cases o with
 | lst xs=>obtain ⟨_,_,_,_,e⟩:=x;exact Kt e
 | tup xs=>obtain ⟨_,_,_,p⟩:=x;exact p.lt
 | dK kvs=>obtain ⟨_,_,_,_,o,_,_,e,_⟩:=x;exact Kt e
 | dT kvs=>obtain ⟨_,_,_,_,o,_,_,e,_⟩:=x;exact Kt e
 | set S n=>obtain ⟨o,_,_,_,e,_⟩:=x;exact Kt e
 | ins C dx fs=>obtain ⟨_,_,_,e,_⟩:=x;exact Kt e
 | own y=>obtain ⟨_,e⟩:=x;exact Kt e
 | xd fs=>obtain ⟨_,⟨_,_,_,e,_⟩,_⟩:=x;exact Kt e
 | rng lo hi=>obtain ⟨_,_,_,e⟩:=x;exact Kt e
 | frz ob u=>obtain ⟨e,_⟩:=x;exact Kt e
 | tbl ps=>exact Kt (show h.get? a=some _ from x)
 | met f y=>exact Kt (show h.get? a=some _ from x)
 | ext φ=>obtain ⟨_,⟨_,e⟩,_⟩:=x;exact Kt e
theorem Paired.mapP{α β:Type}{F G:α->β->Prop}:∀ {l₁ : List α} {l₂ : List β},Paired F l₁ l₂ -> (∀ a b,F a b->G a b)->Paired G l₁ l₂
 | _,_,.nil,_ => .nil
 | _,_,.cons r t,f => .cons (f _ _ r) (Paired.mapP t f)
theorem ObjOk.stay(x:ObjOk P w H h a o)(k:∀ b u,(b=a\/H b=some (.own a))->h.get? b=some u->h'.get? b=some u)
  (ho:∀ b,H b=some (.own a)->H' b=some (.own a)) (ht:∀ b xs,H b=some (.tup xs)->H' b=some (.tup xs)):ObjOk P w H' h' a o:=by
 induction o with
 | lst xs=>obtain ⟨z,its,n,r,e⟩:=x;exact ⟨z,its,n,r,k _ _ (.inl rfl) e⟩
 | tup xs=>obtain ⟨z,its,r,ob,e,c⟩:=x;exact ⟨z,its,r,ob,k _ _ (.inl rfl) e,c⟩
 | dK kvs=>obtain ⟨z,y,vs,r,ob,es,ep,e,c⟩:=x;exact ⟨z,y,vs,r,ob,es,ep,k _ _ (.inl rfl) e,c⟩
 | dT kvs =>
  obtain ⟨z,y,xs,r,ob,es,ep,e,c⟩:=x;exact ⟨z,y,xs,Paired.mapP r λp q z=>⟨z.1,ht _ _ z.2.1,z.2.2⟩,ob,es,ep,k _ _ (.inl rfl) e,c⟩
 | set S n=>obtain ⟨ob,es,ep,t,e,c⟩:=x;exact ⟨ob,es,ep,t,k _ _ (.inl rfl) e,c⟩
 | ins C dx fs =>
  obtain ⟨d,z,ne,e,mA,⟨od,es,ep,e2,c⟩,r⟩:=x;exact ⟨ho _ d,z,ne,k _ _ (.inl rfl) e,mA,⟨od,es,ep,k _ _ (.inr d) e2,c⟩,r⟩
 | own y=>obtain ⟨ob,e⟩:=x;exact ⟨ob,k _ _ (.inl rfl) e⟩
 | xd fs=>obtain ⟨mA,⟨od,es,ep,e,c⟩,r⟩:=x;exact ⟨mA,⟨od,es,ep,k _ _ (.inl rfl) e,c⟩,r⟩
 | rng lo hi=>obtain ⟨t,u,v,e⟩:=x;exact ⟨t,u,v,k _ _ (.inl rfl) e⟩
 | frz ob u ih=>obtain ⟨e,q⟩:=x;exact ⟨k _ _ (.inl rfl) e,ih q⟩
 | tbl ps =>
  have e:h.get? a=some { cls := .none,data := .fields ps }:=x;show h'.get? a=some { cls := .none,data := .fields ps };exact k a _ (.inl rfl) e
 | met f y =>
  have e:h.get? a=some (PySem.W.methodObj (.ref f) (.ref y)):=x;show h'.get? a=some (PySem.W.methodObj (.ref f) (.ref y));exact k a _ (.inl rfl) e
 | ext φ=>obtain ⟨p,⟨o,e⟩,st⟩:=x;exact ⟨st _ _ p λo q=>k _ _ (.inl rfl) q,⟨o,k _ _ (.inl rfl) e⟩,st⟩
theorem HOk.lt(x:HOk P w H h)(e:H a=some o):a < h.objs.size:=(x a o e).lt
theorem HOk.fresh(x:HOk P w H h)(e:h.objs.size<=a):H a=none:=by
 cases q:H a with
 | none=>rfl
 | some u=>exact absurd (Ky (x.lt q) e) (Nat.lt_irrefl _)
theorem HOk.kept(x:HOk P w H h)(k:∀ b u,h.get? b=some u->h'.get? b=some u):HOk P w H h':=λa o e =>
 (x a o e).stay (λb u _ q=>k b u q) (λ_ q=>q) λ_ _ q=>q
theorem HOk.laid(x:HOk P w H h)(k:∀ b u,h.get? b=some u->h'.get? b=some u)(hp:h.objs.size<=a)(new:ObjOk P w (upd H a o) h' a o):HOk P w (upd H a o) h':=λb u e=>by
 have hn:=x.fresh hp;by_cases hb:b=a
 .subst hb;rw [upd_same] at e;cases e;exact new
 .rw [ar hb] at e
  exact (x b u e).stay (λc v _ q=>k c v q) (λc q=>by rw [ar (bF q hn)];exact q) λc xs q=>by rw [ar (bF q hn)];exact q
end
noncomputable def Rd(H:Hp)(a:Addr)(u:HO):Prop:=H a=some u \/ ∃ o,H a=some (.frz o u)
theorem Rd.ok{P:Program}{w:World}{H:Hp}{h:Heap}{a:Addr}{u:HO}(r:Rd H a u)(x:HOk P w H h):ObjOk P w H h a u:=by
 rcases r with r | ⟨o,r⟩
 .exact x a u r
 .obtain ⟨_,q⟩:=x a _ r
  exact q
noncomputable def Mut:Option HO->Prop
 | some (.lst _)=>True
 | some (.dK _)=>True
 | some (.dT _)=>True
 | some (.set _ _)=>True
 | some (.ins _ _ _)=>True
 | some (.ext _)=>True
 | _=>False
section
variable{P:Program}{w:World}{H:Hp}{h h':Heap}{x e:Addr}{o':HO}
theorem HOk.write(ok:HOk P w H h)(mu:Mut (H x))(he:e=x\/H e=some (.own x))(k:∀ b u,b≠e->h.get? b=some u->h'.get? b=some u)(heo:∃ u,h'.get? e=some u)
  (new:ObjOk P w (upd H x o') h' x o'):HOk P w (upd H x o') h':=λb u q=>by
 have nown:∀ c y,H c=some (.own y)->c≠x:=λc y r z=>by subst z;rw [r] at mu;exact mu
 have ntup:∀ c xs,H c=some (.tup xs)->c≠x:=λc xs r z=>by subst z;rw [r] at mu;exact mu
 by_cases hb:b=x
 .subst hb;rw [upd_same] at q;cases q;exact new
 .rw [ar hb] at q
  by_cases hbe:b=e
  .have q':H b=some (.own x):=by
    rcases he with z | z
    .exact absurd (hbe.trans z) hb
    .rw [hbe];exact z
   rw [q] at q';cases q';obtain ⟨v,hv⟩:=heo;exact ⟨v,by rw [hbe];exact hv⟩
  .refine (ok b u q).stay (λc v hc r=>k c v ?_ r) (λc r=>by rw [ar (nown c b r)];exact r) λc xs r=>by rw [ar (ntup c xs r)];exact r
   rcases hc with rfl | hc
   .exact hbe
   .rintro rfl
    rcases he with z | z
    .exact nown c b hc z
    .rw [hc] at z;cases z;exact hb rfl
end
structure Un(fs ex:List Addr)(H H':Hp)(h h':Heap):Prop where
 keep:∀ b o,h.get? b=some o->H b=none->b ∉ fs->b ∉ ex->h'.get? b=some o
 slot:∀ b o,h.get? b=some o->H b=none->b∈fs->b ∉ ex -> ∃ sl,h'.get? b=some { o with slots:=sl }
 free:∀ b o,h.get? b=some o->H b=none->b ∉ ex->H' b=none
 there:∀ b o,h.get? b=some o->b ∉ ex -> ∃ o',h'.get? b=some o'
 tups:∀ b xs,H b=some (.tup xs)->H' b=some (.tup xs)
 frzs:∀ b o u,H b=some (.frz o u)->H' b=some (.frz o u)
 tbls:∀ b ps,H b=some (.tbl ps) -> ∃ more,H' b=some (.tbl (ps++more))
section
variable{fs fs' ex ex':List Addr}{H H1 H2:Hp}{h h1 h2 h':Heap}{a x e:Addr}{o:HO}
theorem Un.any(u:Un fs ex H H1 h h1){b:Addr}{ob:Obj}(q:h.get? b=some ob)(n:H b=none)(hx:b ∉ ex):∃ sl,h1.get? b=some { ob with slots:=sl }:=by
 by_cases hb:b∈fs
 .exact u.slot b ob q n hb hx
 .exact ⟨ob.slots,u.keep b ob q n hb hx⟩
theorem Un.kept(k:∀ b u,h.get? b=some u->h'.get? b=some u):Un fs ex H H h h' :=
 ⟨λb ob q _ _ _=>k b ob q,λb ob q _ _ _=>⟨ob.slots,k b ob q⟩,λ_ _ _ n _=>n,λb ob q _=>⟨ob,k b ob q⟩,λ_ _ q=>q,λ_ _ _ q=>q,λ_ ps q=>⟨#[],by rw [q];simp⟩⟩
theorem Un.refl:Un fs ex H H h h:=Un.kept λ_ _ q=>q
theorem Un.laid(k:∀ b u,h.get? b=some u->h'.get? b=some u)(hp:h.objs.size<=a)(hn:H a=none):Un fs ex H (upd H a o) h h' where
 keep:=λb u q _ _ _=>k b u q
 slot:=λb u q _ _ _=>⟨u.slots,k b u q⟩
 free:=λb u q n _=>by rw [ar (Kz (Ky (Kt q) hp))];exact n
 there:=λb u q _=>⟨u,k b u q⟩
 tups:=λb xs q=>by rw [ar (bF q hn)];exact q
 frzs:=λb u xs q=>by rw [ar (bF q hn)];exact q
 tbls:=λb ps q=>⟨#[],by rw [ar (bF q hn),q];simp⟩
theorem Un.write(mu:Mut (H x))(he:e=x\/H e=some (.own x))(k:∀ b u,b≠e->h.get? b=some u->h'.get? b=some u)(heo:∃ u,h'.get? e=some u):Un fs ex H (upd H x o) h h':=by
 have hx:∀ b,H b=none->b≠x:=λb n z=>by subst z;rw [n] at mu;exact mu
 have hb:∀ b,H b=none->b≠e:=λb n z=>by
  subst z;rcases he with r | r
  .exact hx b n r
  .rw [n] at r;cases r
 have hm:∀ b u,H b=some u -> ¬ Mut (some u)->b≠x:=λb u q nm z=>by subst z;rw [q] at mu;exact nm mu
 refine ⟨λb u q n _ _=>k b u (hb b n) q,λb u q n _ _=>⟨u.slots,k b u (hb b n) q⟩,λb u q n _=>by rw [ar (hx b n)];exact n,λb u q _ => ?_,
  λb xs q=>by rw [ar (hm b _ q λz=>z)];exact q,λb u xs q=>by rw [ar (hm b _ q λz=>z)];exact q,λb ps q=>⟨#[],by rw [ar (hm b _ q λz=>z),q];simp⟩⟩
 by_cases hbe:b=e
 .subst hbe;exact heo
 .exact ⟨u,k b u hbe q⟩
end
noncomputable def trk(h:Heap)(H:Hp):List Addr:=(List.range h.objs.size).filter λa=>(H a).isSome
noncomputable def cL(h:Heap)(H:Hp):Heap:=PySem.W.hideAll h (trk h H)
theorem Aa(h:Heap)(H:Hp):(cL h H).objs.size=h.objs.size:=PySem.W.hideAll_size _ _
theorem By{h:Heap}{H:Hp}{b:Addr}{o:Obj}(e:h.get? b=some o)(n:H b=none):(cL h H).get? b=some o :=
 PySem.W.hideAll_get _ e λhm=>by
  have q:(H b).isSome=true:=(List.mem_filter.mp hm).2;rw [n] at q;simp at q
theorem B4{h:Heap}{H:Hp}{b:Addr}{o:Obj}(e:(cL h H).get? b=some o):h.get? b=some o/\H b=none:=by
 have e':h.get? b=some o:=PySem.W.of_hideAll (trk h H) e;refine ⟨e',?_⟩;cases q:H b with
 | none=>rfl
 | some x =>
  have hm:b∈trk h H:=List.mem_filter.mpr ⟨List.mem_range.mpr (Kt e'),by simp [q]⟩
  have z:(cL h H).get? b=none:=PySem.W.hideAll_none (trk h H) hm;rw [z] at e;cases e
end L2
namespace L2
open PySem PySem.Spec PyProof.Rows
structure Mod(K:KD)(mg:Str->Option Value)(base:Heap):Prop where
 kin:K.In base
 glob:base.Ns mainGlobals mg
 blt:∃ mb,base.Ns builtinsNs mb /\ ∀ x:Str,x ≠ "__name__" -> mb x=bootBuiltins x
 nolimit:base.NoLimit
set_option genInjectivity false in
structure Cx where
 prog:Program
 w:World
 K:KD
 mg:Str->Option Value
 base:Heap
 A:Around
 N:List Str
 s₀ : Shared
 H₀ : Hp
 env:Env
 outer:List Env
 stack:List Env
 ex:List Addr
 fn:Str->Bool
 calm:Bool
 pn:List (Addr×Obj)
 xe:Value->Shared->Prop
noncomputable def frs(l:List Env):List Addr:=l.filterMap (·.frame)
noncomputable abbrev Cx.fs(X:Cx):List Addr:=frs X.outer
noncomputable def Vis(sc:Scope)(x:Str):Prop:=sc.names.lookup x=some .local\/sc.names.lookup x=some .cell\/sc.names.lookup x=some .free
noncomputable def Loc(sc:Scope)(x:Str):Prop:=sc.names.lookup x=some .local\/sc.names.lookup x=some .cell
noncomputable def Look(env:Env)(h:Heap)(m:Str->Option Value)(x:Str)(u:Value):Prop :=
 (env.kindOf x=some .local/\m x=some u)\/((env.kindOf x=some .cell\/env.kindOf x=some .free) /\ ∃ c,env.cells.lookup x=some c/\h.IsCell c (some u))
structure Cx.Ok(X:Cx):Prop where
 mod:Mod X.K X.mg X.base
 kind:X.env.scope.kind=.function
 glob:X.env.globals=mainGlobals
 blt:X.env.builtins=builtinsNs
 above:X.s₀.heap.objs.size<=X.env.locals
 inj:∀ x y c,X.env.cells.lookup x=some c->X.env.cells.lookup y=some c->x=y
 has:∀ x,(X.env.kindOf x=some .cell\/X.env.kindOf x=some .free) -> ∃ c,X.env.cells.lookup x=some c
 cab:∀ x c,X.fn x=true->X.env.cells.lookup x=some c->X.s₀.heap.objs.size<=c
 hd:X.calm=true->X.A.handled=none
 frames:X.A.frames=some X.stack
 stk:X.stack=X.outer\/(X.stack=X.env :: X.outer/\X.env.frame=some X.env.locals)
 exf:∀ b∈X.ex,b≠X.env.locals /\ ∀ x c,X.env.cells.lookup x=some c->c≠b
 bs:∀ b o,X.base.get? b=some o->X.s₀.heap.get? b=some o/\X.H₀ b=none
 bsz:X.base.objs.size<=X.s₀.heap.objs.size
 noex:∀ b o,X.base.get? b=some o->b ∉ X.ex
 exfs:∀ b∈X.ex,b ∉ X.fs
 funs:X.s₀.heap.FunFrames X.base X.outer
 frf:∀ b∈X.fs,X.H₀ b=none
structure Inv(X:Cx)(pins:List (Addr×Obj))(σ:List (Option V))(H:Hp)(s:Shared):Prop where
 ok:X.Ok
 os:s.os=X.s₀.os
 bare:AllBare s.gens
 base:Un X.fs X.ex X.H₀ H X.s₀.heap s.heap
 loc:∃ m,s.heap.Ns X.env.locals m /\ ∀ (i:Nat) (x:Str) (v:V),X.N[i]? = some x->σ[i]? = some (some v)->Vis X.env.scope x -> ∃ u,RelV v u/\Look X.env s.heap m x u
 cell:∀ x c,X.env.cells.lookup x=some c -> ∃ v,s.heap.IsCell c v
 free:H X.env.locals=none
 freeC:∀ x c,X.env.cells.lookup x=some c->H c=none
 pin:∀ p∈X.pn++pins,s.heap.get? p.1=some p.2/\H p.1=none/\p.1≠X.env.locals/\p.1 ∉ X.fs /\ ∀ v,p.2.data ≠ .cell v
 hok:HOk X.prog X.w H s.heap
 len:σ.length=X.N.length
section
variable{X:Cx}{pins:List (Addr×Obj)}{σ:List (Option V)}{H H':Hp}{s:Shared}{h':Heap}
theorem Cx.Ok.nofr(ok:X.Ok){b:Addr}{o:Obj}(e:X.base.get? b=some o):b ∉ X.fs:=λhb=>by
 have:=(ok.funs.mem hb).1;rw [e] at this;cases this
theorem Inv.bs(I:Inv X pins σ H s):∀ b o,X.base.get? b=some o->s.heap.get? b=some o/\H b=none:=λb o e =>
 ⟨I.base.keep b o (I.ok.bs b o e).1 (I.ok.bs b o e).2 (I.ok.nofr e) (I.ok.noex b o e),I.base.free b o (I.ok.bs b o e).1 (I.ok.bs b o e).2 (I.ok.noex b o e)⟩
theorem Inv.bk(I:Inv X pins σ H s):∀ b o,X.base.get? b=some o->s.heap.get? b=some o:=λb o e=>(I.bs b o e).1
theorem Inv.mod(I:Inv X pins σ H s):Mod X.K X.mg X.base:=I.ok.mod
theorem Inv.kIn(I:Inv X pins σ H s):X.K.In s.heap:=I.ok.mod.kin.keeps I.bk
theorem Inv.lt(I:Inv X pins σ H s):X.env.locals < s.heap.objs.size:=let ⟨_,hn,_⟩:=I.loc;hn.lt
theorem Inv.sz(I:Inv X pins σ H s):X.s₀.heap.objs.size<=s.heap.objs.size:=Ku I.ok.above (Nat.le_of_lt I.lt)
theorem Inv.nofs(I:Inv X pins σ H s){a:Addr}(h:s.heap.objs.size<=a):a ∉ X.fs:=λhb=>by
 obtain ⟨_,o,ho,_⟩:=I.ok.funs.mem hb;exact absurd (Ky (Kt ho) (Ku I.sz h)) (Nat.lt_irrefl _)
theorem Inv.cne(I:Inv X pins σ H s):∀ x c,X.env.cells.lookup x=some c->c≠X.env.locals:=λx c e z=>by
 obtain ⟨v,o,ho,hd⟩:=I.cell x c e;obtain ⟨m,⟨o',es,ep,ho',hd',_⟩,_⟩:=I.loc;rw [z,ho'] at ho;cases ho;rw [hd'] at hd;cases hd
theorem Inv.funs(I:Inv X pins σ H s):s.heap.FunFrames X.base X.outer:=by
 have all:∀ (l:List Env),(∀ b∈frs l,b∈X.fs)->X.s₀.heap.FunFrames X.base l->s.heap.FunFrames X.base l:=by
  intro l
  induction l with
  | nil=>intro _ _;trivial
  | cons env r ih =>
   intro hs hl;obtain ⟨hk,⟨L,o,hf,hn,ho,hd⟩,hr⟩:=hl;have hL:L∈X.fs:=hs L (by unfold frs;rw [List.filterMap_cons,hf];exact List.mem_cons_self)
   obtain ⟨sl,e⟩:=I.base.slot L o ho (I.ok.frf L hL) hL λz=>I.ok.exfs L z hL;exact ⟨hk,⟨L,_,hf,hn,e,hd⟩,ih (λb hb=>hs b (by unfold frs;rw [List.filterMap_cons,hf];exact Kx _ hb)) hr⟩
 exact all X.outer (λ_ hb=>hb) I.ok.funs
theorem Inv.stack(I:Inv X pins σ H s):s.heap.FunFrames X.base X.stack:=by
 rcases I.ok.stk with e | ⟨e,hf⟩
 .rw [e];exact I.funs
 .rw [e]
  obtain ⟨m,hn,_⟩:=I.loc;refine .cons (by rw [I.ok.kind];decide) hf hn ?_ I.funs
  exact Heap.get?_none_of_le (Ku I.ok.bsz I.ok.above)
theorem Inv.stkSub(I:Inv X pins σ H s):∀ b∈frs X.stack,b∈X.env.locals :: X.fs:=λb hb=>by
 rcases I.ok.stk with e | ⟨e,hf⟩
 .rw [e] at hb;exact Kx _ hb
 .rw [e] at hb
  unfold frs at hb;rw [List.filterMap_cons,hf] at hb;exact hb
theorem Inv.stkFree(I:Inv X pins σ H s):∀ b∈frs X.stack,H b=none:=λb hb=>by
 rcases List.mem_cons.mp (I.stkSub b hb) with e | hb
 .rw [e];exact I.free
 .obtain ⟨_,o,ho,_⟩:=I.ok.funs.mem hb
  exact I.base.free b o ho (I.ok.frf b hb) λz=>I.ok.exfs b z hb
theorem Inv.step{g':Array GenState}{t':Nat}{d':Drawn}{ch:List Addr}(I:Inv X pins σ H s)
  (hch:∀ b∈ch,(b∈X.ex\/X.s₀.heap.objs.size<=b)/\b≠X.env.locals/\(∀ x c,X.env.cells.lookup x=some c->c≠b) /\ ∀ p∈X.pn++pins,p.1≠b)
  (keep:∀ b o,b≠X.env.locals->b ∉ X.fs->b ∉ ch->s.heap.get? b=some o->H b=none->h'.get? b=some o)
  (slot:∀ b o,b≠X.env.locals->b∈X.fs->b ∉ ch->s.heap.get? b=some o->H b=none -> ∃ sl,h'.get? b=some { o with slots:=sl }) (free:∀ b o,b ∉ ch->s.heap.get? b=some o->H b=none->H' b=none)
  (there:∀ b o,b ∉ ch->s.heap.get? b=some o -> ∃ o',h'.get? b=some o')
  (tups:∀ b xs,H b=some (.tup xs)->H' b=some (.tup xs)) (frzs:∀ b o u,H b=some (.frz o u)->H' b=some (.frz o u)) (tbls:∀ b ps,H b=some (.tbl ps) -> ∃ more,H' b=some (.tbl (ps++more)))
  (ns:∀ m,s.heap.Ns X.env.locals m->h'.Ns X.env.locals m) (hok:HOk X.prog X.w H' h') (hg:AllBare g') :
  Inv X pins σ H' { s with heap:=h',gens:=g',drawn:=d',toks:=t' }:=by
 have neL:∀ b o,X.s₀.heap.get? b=some o->b≠X.env.locals:=λb o e=>Kz (Ky (Kt e) I.ok.above);have neC:∀ b o,X.s₀.heap.get? b=some o->b ∉ X.ex->b ∉ ch:=λb o e hx hb=>by
  rcases (hch b hb).1 with z | z
  .exact hx z
  .exact absurd (Ky (Kt e) z) (Nat.lt_irrefl _)
 have cellK:∀ x c,X.env.cells.lookup x=some c -> ∀ v,s.heap.IsCell c v->h'.IsCell c v:=λx c e v ⟨o,ho,hd⟩=>by
  have nch:c ∉ ch:=λz=>(hch c z).2.2.1 x c e rfl;by_cases hc:c∈X.fs
  .obtain ⟨sl,q⟩:=slot c o (I.cne x c e) hc nch ho (I.freeC x c e)
   exact ⟨_,q,hd⟩
  .exact ⟨o,keep c o (I.cne x c e) hc nch ho (I.freeC x c e),hd⟩
 refine ⟨I.ok,I.os,hg,⟨λb o e n hb hx => ?_,λb o e n hb hx => ?_,λb o e n hx => ?_,λb o e hx => ?_,λb xs e=>tups b xs (I.base.tups b xs e),λb o xs e=>frzs b o xs (I.base.frzs b o xs e),λb ps e => ?_⟩,?_,λx c e => ?_,?_,λx c e => ?_,λp hp => ?_,hok,I.len⟩
 .exact keep b o (neL b o e) hb (neC b o e hx) (I.base.keep b o e n hb hx) (I.base.free b o e n hx)
 .obtain ⟨sl,e1⟩:=I.base.slot b o e n hb hx
  obtain ⟨sl',e2⟩:=slot b _ (neL b o e) hb (neC b o e hx) e1 (I.base.free b o e n hx);exact ⟨sl',e2⟩
 .obtain ⟨o',e1⟩:=I.base.there b o e hx
  exact free b o' (neC b o e hx) e1 (I.base.free b o e n hx)
 .obtain ⟨o',e1⟩:=I.base.there b o e hx
  exact there b o' (neC b o e hx) e1
 .obtain ⟨m1,e1⟩:=I.base.tbls b ps e
  obtain ⟨m2,e2⟩:=tbls b _ e1;exact ⟨m1++m2,by rw [e2,Array.append_assoc]⟩
 .obtain ⟨m,hn,hl⟩:=I.loc
  refine ⟨m,ns m hn,λi x v e1 e2 e3 => ?_⟩;obtain ⟨u,r,l⟩:=hl i x v e1 e2 e3;refine ⟨u,r,?_⟩;rcases l with l | ⟨k,c,e,z⟩
  .exact .inl l
  .exact .inr ⟨k,c,e,cellK x c e _ z⟩
 .obtain ⟨v,z⟩:=I.cell x c e
  exact ⟨v,cellK x c e v z⟩
 .obtain ⟨m,⟨o,_,_,ho,_⟩,_⟩:=I.loc
  exact free _ o (λz=>(hch _ z).2.1 rfl) ho I.free
 .obtain ⟨v,o,ho,hd⟩:=I.cell x c e
  exact free c o (λz=>(hch c z).2.2.1 x c e rfl) ho (I.freeC x c e)
 .obtain ⟨e,n,ne,nf,d⟩:=I.pin p hp
  have nch:p.1 ∉ ch:=λz=>(hch p.1 z).2.2.2 p hp rfl;exact ⟨keep p.1 p.2 ne nf nch e n,free p.1 p.2 nch e n,ne,nf,d⟩
theorem Inv.un{t':Nat}(I:Inv X pins σ H s)(u:Un X.fs [] H H' s.heap h')(hok:HOk X.prog X.w H' h'):Inv X pins σ H' { s with heap:=h',toks:=t' }:=by
 obtain ⟨m,⟨o,es,ep,ho,r⟩,_⟩:=id I.loc;obtain ⟨sl,hL⟩:=u.any ho I.free (by simp)
 exact I.step (g':=s.gens) (d':=s.drawn) (ch:=[]) (λ_ z=>nomatch z) (λb o _ hb _ e n=>u.keep b o e n hb (by simp)) (λb o _ hb _ e n=>u.slot b o e n hb (by simp)) (λb o _ e n=>u.free b o e n (by simp)) (λb o _ e=>u.there b o e (by simp)) u.tups u.frzs u.tbls (λm' hm=>by
  obtain ⟨o',es',ep',ho',r'⟩:=hm;rw [ho] at ho';cases ho';exact ⟨_,es',ep',hL,r'⟩) hok I.bare
theorem Inv.call{g':Array GenState}{t':Nat}{d':Drawn}{ch:List Addr}(I:Inv X pins σ H s)(u:Un (frs X.stack) ch H H' s.heap h')(hok:HOk X.prog X.w H' h')(hg:AllBare g')
  (hch:∀ b∈ch,(b∈X.ex\/X.s₀.heap.objs.size<=b)/\b≠X.env.locals/\(∀ x c,X.env.cells.lookup x=some c->c≠b) /\ ∀ p∈X.pn++pins,p.1≠b) :
  Inv X pins σ H' { s with heap:=h',gens:=g',drawn:=d',toks:=t' }:=by
 obtain ⟨m,⟨o,es,ep,ho,r⟩,_⟩:=id I.loc;obtain ⟨sl,hL⟩:=u.any ho I.free λz=>(hch _ z).2.1 rfl
 exact I.step (ch:=ch) hch (λb o hL hb hc e n=>u.keep b o e n (λz=>(List.mem_cons.mp (I.stkSub b z)).elim hL hb) hc) (λb o _ _ hc e n=>u.any e n hc) (λb o hc e n=>u.free b o e n hc) (λb o hc e=>u.there b o e hc) u.tups u.frzs u.tbls (λm' hm=>by
  obtain ⟨o',es',ep',ho',r'⟩:=hm;rw [ho] at ho';cases ho';exact ⟨_,es',ep',hL,r'⟩) hok hg
theorem Inv.turned{t':Nat}{it:Addr}(I:Inv X pins σ H s)(k:∀ b o,b≠it->s.heap.get? b=some o->h'.get? b=some o)(hn:H it=none)(hL:it≠X.env.locals)
  (h1:it∈X.ex\/X.s₀.heap.objs.size<=it) (h2:∀ x c,X.env.cells.lookup x=some c->c≠it) (h3:∀ p∈X.pn++pins,p.1≠it):Inv X pins σ H { s with heap:=h',toks:=t' }:=by
 have nit:∀ b u,H b=some u->b≠it:=λb u e z=>by rw [z,hn] at e;cases e
 refine I.step (g':=s.gens) (d':=s.drawn) (ch:=[it]) (λb hb => ?_) (λb o _ _ hc e _=>k b o (λz=>hc (by simp [z])) e) (λb o _ _ hc e _=>⟨o.slots,k b o (λz=>hc (by simp [z])) e⟩) (λ_ _ _ _ n=>n)
  (λb o hc e=>⟨o,k b o (λz=>hc (by simp [z])) e⟩) (λ_ _ e=>e) (λ_ _ _ e=>e) (λb ps e=>⟨#[],by rw [e];simp⟩) (λm hm => ?_) (λb u e => ?_) I.bare
 .have e:b=it:=by simpa using hb
  subst e;exact ⟨h1,hL,h2,h3⟩
 .obtain ⟨o,es,ep,ho,r⟩:=hm
  exact ⟨o,es,ep,k _ o (Ne.symm hL) ho,r⟩
 .refine (I.hok b u e).stay (λc v hc q=>k c v ?_ q) (λ_ q=>q) λ_ _ q=>q
  rcases hc with z | z
  .rw [z];exact nit b u e
  .exact nit c _ z
theorem Inv.tok(I:Inv X pins σ H s)(t:Nat):Inv X pins σ H { s with toks:=t }:=I.un (h':=s.heap) (t':=t) Un.refl I.hok
theorem Inv.kept{t':Nat}(I:Inv X pins σ H s)(k:∀ b u,s.heap.get? b=some u->h'.get? b=some u):Inv X pins σ H { s with heap:=h',toks:=t' }:=I.un (Un.kept k) (I.hok.kept k)
theorem Inv.laid{a:Addr}{o:HO}{t':Nat}(I:Inv X pins σ H s)(k:∀ b u,s.heap.get? b=some u->h'.get? b=some u)(hp:s.heap.objs.size<=a)(new:ObjOk X.prog X.w (upd H a o) h' a o):
  Inv X pins σ (upd H a o) { s with heap:=h',toks:=t' }:=I.un (Un.laid k hp (I.hok.fresh hp)) (I.hok.laid k hp new)
theorem Inv.write{x e:Addr}{o:HO}{t':Nat}(I:Inv X pins σ H s)(mu:Mut (H x))(he:e=x\/H e=some (.own x))(k:∀ b u,b≠e->s.heap.get? b=some u->h'.get? b=some u)(heo:∃ u,h'.get? e=some u)
  (new:ObjOk X.prog X.w (upd H x o) h' x o):Inv X pins σ (upd H x o) { s with heap:=h',toks:=t' }:=I.un (Un.write mu he k heo) (I.hok.write mu he k heo new)
theorem Inv.pins_of{pins':List (Addr×Obj)}(I:Inv X pins σ H s)(h:∀ p∈pins',s.heap.get? p.1=some p.2/\H p.1=none/\p.1≠X.env.locals/\p.1 ∉ X.fs /\ ∀ v,p.2.data ≠ .cell v):Inv X pins' σ H s :=
 ⟨I.ok,I.os,I.bare,I.base,I.loc,I.cell,I.free,I.freeC,λp hp=>(List.mem_append.mp hp).elim (λz=>I.pin p (List.mem_append_left _ z)) (h p),I.hok,I.len⟩
theorem pF{N:List Str}(hN:N.Nodup){i j:Nat}{x:Str}(a:N[i]? = some x)(b:N[j]? = some x):i=j:=by
 obtain ⟨h1,e1⟩:=List.getElem?_eq_some_iff.mp a;obtain ⟨h2,e2⟩:=List.getElem?_eq_some_iff.mp b;exact (List.getElem_inj hN).mp (e1.trans e2.symm)
theorem oz{M:Model}{A:Around}{E:Value->Shared->Prop}{i:Nat}{x:Str}{v:V}{u:Value}{Q:Unit->Shared->Prop}(I:Inv X pins σ H s)(hN:X.N.Nodup)(hi:X.N[i]? = some x)(hx:Loc X.env.scope x)(r:RelV v u)
  (h:∀ s',Inv X pins (σ.set i (some v)) H s'->(∃ a,Heap.SameBut a s.heap s'.heap/\(a=X.env.locals\/X.env.cells.lookup x=some a))->Q () s') (hf:X.fn x=true\/X.env.scope.names.lookup x=some .local:=by first | exact .inl rfl | exact .inr rfl | assumption):wpAny M A (storeName X.env x u) Q E s:=by
 obtain ⟨m,hn,hl⟩:=id I.loc;have hcls:(X.env.scope.kind == .class || (X.env.scope.kind == .module && X.env.locals != X.env.globals))=false:=by rw [I.ok.kind];rfl
 have hiσ:i < σ.length:=by rw [I.len];exact (List.getElem?_eq_some_iff.mp hi).1
 have cne:=I.cne;have tracked:∀ {a:Addr} {h':Heap},(∃ o,s.heap.get? a=some o/\H a=none)->Heap.SameBut a s.heap h'->HOk X.prog X.w H h':=λ{a h'} ha hs b ob e=>by
  obtain ⟨_,_,hfree⟩:=ha;refine (I.hok b ob e).stay (λc w' hc q=>(hs.2 c ?_).trans q) (λ_ q=>q) λ_ _ q=>q;rintro rfl;rcases hc with rfl | hc
  .rw [hfree] at e;cases e
  .rw [hfree] at hc;cases hc
 rcases hx with hk | hk
 .refine wpAny_storeName_local hk hn (λh' hn' hs => ?_) hcls
  obtain ⟨oL,_,_,hoL,_⟩:=id hn;refine h _ ⟨I.ok,I.os,I.bare,⟨λb o e n hb hx => ?_,λb o e n hb hx => ?_,I.base.free,λb o e hx => ?_,I.base.tups,I.base.frzs,I.base.tbls⟩,⟨_,hn',λj y v' e1 e2 e3 => ?_⟩,λy c e => ?_,I.free,I.freeC,λp hp => ?_,tracked ⟨oL,hoL,I.free⟩ hs,by simpa using I.len⟩ ⟨_,hs,.inl rfl⟩
  .exact (hs.2 b (Kz (Ky (Kt e) I.ok.above))).trans (I.base.keep b o e n hb hx)
  .obtain ⟨sl,e1⟩:=I.base.slot b o e n hb hx
   exact ⟨sl,(hs.2 b (Kz (Ky (Kt e) I.ok.above))).trans e1⟩
  .obtain ⟨o',e1⟩:=I.base.there b o e hx
   exact ⟨o',(hs.2 b (Kz (Ky (Kt e) I.ok.above))).trans e1⟩
  .by_cases hj:j=i
   .subst hj
    rw [hi] at e1;cases e1;rw [List.getElem?_set_self hiσ] at e2;cases e2;exact ⟨u,r,.inl ⟨hk,by simp⟩⟩
   .rw [List.getElem?_set_ne (Ne.symm hj)] at e2
    obtain ⟨u',r',q⟩:=hl j y v' e1 e2 e3;refine ⟨u',r',?_⟩;rcases q with ⟨k,e⟩ | ⟨k,c,e,z⟩
    .refine .inl ⟨k,?_⟩
     have:y≠x:=λe=>hj (pF hN e1 (e ▸ hi));simp [this,e]
    .exact .inr ⟨k,c,e,z.sameBut hs (cne y c e)⟩
  .obtain ⟨w',z⟩:=I.cell y c e
   exact ⟨w',z.sameBut hs (cne y c e)⟩
  .obtain ⟨e,n,ne,nf,d⟩:=I.pin p hp
   exact ⟨(hs.2 p.1 ne).trans e,n,ne,nf,d⟩
 .have hfn:X.fn x=true:=by
   rcases hf with z | z
   .exact z
   .rw [z] at hk;cases hk
  obtain ⟨c,hc⟩:=I.ok.has x (.inl hk);obtain ⟨w',z⟩:=I.cell x c hc;refine wpAny_storeName_cell I.ok.kind hk hc z (λh' hc' hs => ?_);obtain ⟨oc,hoc,hocd⟩:=id z;refine h { s with heap:=h' } ⟨I.ok,I.os,I.bare,⟨λb o e n hb hx => ?_,λb o e n hb hx => ?_,I.base.free,λb o e hx => ?_,I.base.tups,I.base.frzs,I.base.tbls⟩,⟨m,hn.sameBut hs (Ne.symm (cne x c hc)),λj y v' e1 e2 e3 => ?_⟩,λy c' e => ?_,I.free,I.freeC,λp hp => ?_,tracked ⟨oc,hoc,I.freeC x c hc⟩ hs,by simpa using I.len⟩ ⟨c,hs,.inr hc⟩
  .exact (hs.2 b (Kz (Ky (Kt e) (I.ok.cab x c hfn hc)))).trans (I.base.keep b o e n hb hx)
  .obtain ⟨sl,e1⟩:=I.base.slot b o e n hb hx
   exact ⟨sl,(hs.2 b (Kz (Ky (Kt e) (I.ok.cab x c hfn hc)))).trans e1⟩
  .obtain ⟨o',e1⟩:=I.base.there b o e hx
   exact ⟨o',(hs.2 b (Kz (Ky (Kt e) (I.ok.cab x c hfn hc)))).trans e1⟩
  .by_cases hj:j=i
   .subst hj
    rw [hi] at e1;cases e1;rw [List.getElem?_set_self hiσ] at e2;cases e2;exact ⟨u,r,.inr ⟨.inl hk,c,hc,hc'⟩⟩
   .rw [List.getElem?_set_ne (Ne.symm hj)] at e2
    obtain ⟨u',r',q⟩:=hl j y v' e1 e2 e3;refine ⟨u',r',?_⟩;rcases q with q | ⟨k,c',e,z'⟩
    .exact .inl q
    .refine .inr ⟨k,c',e,z'.sameBut hs ?_⟩
     rintro rfl;exact hj (pF hN e1 (I.ok.inj _ _ _ e hc ▸ hi))
  .by_cases hcc:c'=c
   .subst hcc;exact ⟨_,hc'⟩
   .obtain ⟨w2,z2⟩:=I.cell y c' e
    exact ⟨w2,z2.sameBut hs hcc⟩
  .obtain ⟨e,n,ne,nf,d⟩:=I.pin p hp
   refine ⟨(hs.2 p.1 ?_).trans e,n,ne,nf,d⟩;intro q;rw [q,hoc] at e;have q':oc=p.2:=Option.some.inj e;exact d w' (by rw [<-q'];exact hocd)
theorem hU{M:Model}{A:Around}{E:Value->Shared->Prop}{i:Nat}{x:Str}{v:V}{u:Value}{Q:Unit->Shared->Prop}(I:Inv X pins σ H s)(hN:X.N.Nodup)(hi:X.N[i]? = some x)(hx:Loc X.env.scope x)(r:RelV v u)
  (h:∀ s',Inv X pins (σ.set i (some v)) H s'->Q () s') (hf:X.fn x=true\/X.env.scope.names.lookup x=some .local:=by first | exact .inl rfl | exact .inr rfl | assumption):wpAny M A (storeName X.env x u) Q E s :=
 oz I hN hi hx r (λs' I' _=>h s' I') hf
theorem Inv.call'{s':Shared}{ch:List Addr}(I:Inv X pins σ H s)(ho:s'.os=s.os)(u:Un (frs X.stack) ch H H' s.heap s'.heap)(hok:HOk X.prog X.w H' s'.heap)(hg:AllBare s'.gens)
  (hch:∀ b∈ch,(b∈X.ex\/X.s₀.heap.objs.size<=b)/\b≠X.env.locals/\(∀ x c,X.env.cells.lookup x=some c->c≠b) /\ ∀ p∈X.pn++pins,p.1≠b):Inv X pins σ H' s':=by
 obtain ⟨h',g',d',t',o'⟩:=s';have e:o'=s.os:=ho;subst e;exact I.call (g':=g') (t':=t') (d':=d') u hok hg hch
end
noncomputable abbrev XK:=Value->Option Addr->Hp->Prop
noncomputable abbrev St:=List (Option V)
noncomputable abbrev VK:=V->Hp->Prop
noncomputable abbrev TE:=St->Hp->VK->Prop
noncomputable abbrev TT:=St->Hp->(Bool->Hp->Prop)->Prop
noncomputable abbrev TA:=St->Hp->(List V->Hp->Prop)->Prop
set_option genInjectivity false in
structure Ends where
 nx:St->Hp->Prop
 rt:VK
 bk:St->Hp->Prop:=λ_ _=>False
 ct:St->Hp->Prop:=λ_ _=>False
noncomputable abbrev TS:=Ends->St->Hp->Prop
noncomputable def EP(X:Cx)(pins:List (Addr×Obj))(σ:St)(Q:VK)(u:Value)(s':Shared):Prop := ∃ v H',Inv X pins σ H' s'/\RelV v u/\Q v H'
noncomputable def TP(X:Cx)(pins:List (Addr×Obj))(σ:St)(Q:Bool->Hp->Prop)(b:Bool)(s':Shared):Prop := ∃ H',Inv X pins σ H' s'/\Q b H'
noncomputable def AP(X:Cx)(pins:List (Addr×Obj))(σ:St)(Q:List V->Hp->Prop)(us:List Value)(s':Shared):Prop := ∃ vs H',Inv X pins σ H' s'/\Vals vs us/\Q vs H'
noncomputable def SP(X:Cx)(pins:List (Addr×Obj))(D:Ends)(f:Flow)(s':Shared):Prop :=
 match f with
 | .next => ∃ σ' H',Inv X pins σ' H' s'/\D.nx σ' H'
 | .brk => ∃ σ' H',Inv X pins σ' H' s'/\D.bk σ' H'
 | .cont => ∃ σ' H',Inv X pins σ' H' s'/\D.ct σ' H'
 | .ret u => ∃ v σ' H',Inv X pins σ' H' s'/\RelV v u/\D.rt v H'
noncomputable def PE(X:Cx)(e:Expr)(t:TE):Prop :=
 ∀ (pins:List (Addr×Obj)) (s:Shared) (σ:St) (H:Hp) (Q:VK),Inv X pins σ H s->t σ H Q->wpAny (model X.prog X.w) X.A (eval e X.env) (EP X pins σ Q) X.xe s
noncomputable def PT(X:Cx)(e:Expr)(t:TT):Prop :=
 ∀ (pins:List (Addr×Obj)) (s:Shared) (σ:St) (H:Hp) (Q:Bool->Hp->Prop),Inv X pins σ H s->t σ H Q->wpAny (model X.prog X.w) X.A (isTrue e X.env (eval e X.env)) (TP X pins σ Q) X.xe s
noncomputable def PW(X:Cx)(e:Expr)(t:TT):Prop :=
 ∀ (whole:Sem Value) (pins:List (Addr×Obj)) (s:Shared) (σ:St) (H:Hp) (Q:Bool->Hp->Prop),Inv X pins σ H s->t σ H Q->wpAny (model X.prog X.w) X.A (isTrue e X.env whole) (TP X pins σ Q) X.xe s
theorem PW.pt{X:Cx}{e:Expr}{t:TT}(h:PW X e t):PT X e t:=h _
noncomputable def PA(X:Cx)(es:List Expr)(t:TA):Prop :=
 ∀ (pos:Pos) (pins:List (Addr×Obj)) (s:Shared) (σ:St) (H:Hp) (Q:List V->Hp->Prop),Inv X pins σ H s->t σ H Q->wpAny (model X.prog X.w) X.A (spliced (backTo pos (starEach es X.env))) (AP X pins σ Q) X.xe s
noncomputable def PS(X:Cx)(st:Stmt)(t:TS):Prop :=
 ∀ (pins:List (Addr×Obj)) (s:Shared) (σ:St) (H:Hp) (D:Ends),Inv X pins σ H s->t D σ H->wpAny (model X.prog X.w) X.A (exec st X.env) (SP X pins D) X.xe s
noncomputable def PSs(X:Cx)(st:List Stmt)(t:TS):Prop :=
 ∀ (pins:List (Addr×Obj)) (s:Shared) (σ:St) (H:Hp) (D:Ends),Inv X pins σ H s->t D σ H->wpAny (model X.prog X.w) X.A (execs st X.env) (SP X pins D) X.xe s
theorem thn{α:Type}{t:Sem α}{Q Q':α->Shared->Prop}{M:Model}{A:Around}{E:Value->Shared->Prop}{s:Shared}(h:wpAny M A t Q E s)(hQ:∀ a s,Q a s->Q' a s):wpAny M A t Q' E s:=wpAny_mono h hQ λ_ _ x=>x
end L2
namespace L2
open PySem PySem.Spec PyProof.Rows
section
variable{X:Cx}
noncomputable def JX(i:Nat):TE:=λσ H Q => ∃ v,σ[i]? = some (some v)/\Q v H
noncomputable def tC(v:V):TE:=λ_ H Q=>Q v H
theorem GX{i:Nat}{x:Str}{pos:Pos}(hN:X.N[i]? = some x)(hv:Vis X.env.scope x)(hd:(x == ("__debug__" : Str))=false:=by decide)(hcd:(x == ("__classdict__" : Str))=false:=by decide):PE X (.Name x pos) (JX i):=by
 intro pins s σ H Q I h;obtain ⟨v,e,h⟩:=h;obtain ⟨m,hn,hl⟩:=I.loc;obtain ⟨u,r,l⟩:=hl i x v hN e hv;have fin:EP X pins σ Q u s:=⟨v,H,I,r,h⟩;rcases l with ⟨hk,hm⟩ | ⟨hk,c,hc,hcell⟩
 .exact wpAny_Name (wpAny_loadName_local I.ok.kind hk hn hm fin) hd
 .rcases hk with hk | hk
  .exact wpAny_Name (wpAny_loadName_cell I.ok.kind hk hc hcell fin) hd
  .exact wpAny_Name (wpAny_loadName_free I.ok.kind hk hc hcell fin hcd) hd
theorem uj{i j pos}:PE X (.Constant (.int i) j pos) (tC (.int i)):=λ_ _ _ H _ I h=>wpAny_Constant_int ⟨.int i,H,I.tok _,⟨_,rfl⟩,h⟩
theorem Jt{b j pos}:PE X (.Constant (.bool b) j pos) (tC (.bl b)):=λ_ _ _ H _ I h=>Constant_bool ⟨.bl b,H,I,rfl,h⟩
theorem FY{j pos}:PE X (.Constant .none j pos) (tC .non):=λ_ _ _ H _ I h=>Constant_none ⟨.non,H,I,rfl,h⟩
theorem ue{x j pos}:PE X (.Constant (.str x) j pos) (tC (.str x)):=λ_ _ _ H _ I h=>Calls.Constant_str ⟨.str x,H,I.tok _,⟨_,rfl⟩,h⟩
noncomputable def Gl(X:Cx)(x:Str):Prop:=X.env.kindOf x=some .globalImplicit
theorem eB{E:Value->Shared->Prop}{pins:List (Addr×Obj)}{s:Shared}{σ:St}{H:Hp}{x:Str}{u:Value}{pos:Pos}{Q:Value->Shared->Prop}(I:Inv X pins σ H s)(hg:Gl X x)(hm:X.mg x=some u)(h:Q u s)
  (hd:(x == ("__debug__" : Str))=false:=by decide):wpAny (model X.prog X.w) X.A (eval (.Name x pos) X.env) Q E s :=
 Calls.Name_function_global I.ok.kind hg (Calls.loadGlobal_global (by rw [I.ok.glob];exact I.mod.glob.keeps I.bk) hm h) hd
theorem gg{E:Value->Shared->Prop}{pins:List (Addr×Obj)}{s:Shared}{σ:St}{H:Hp}{x:Str}{u:Value}{pos:Pos}{Q:Value->Shared->Prop}(I:Inv X pins σ H s)(hg:Gl X x)(hm:X.mg x=none)(hv:bootBuiltins x=some u)(h:Q u s)
  (hn:x ≠ "__name__" := by decide) (hd:(x == ("__debug__" : Str))=false:=by decide):wpAny (model X.prog X.w) X.A (eval (.Name x pos) X.env) Q E s:=by
 obtain ⟨mb,h1,h2⟩:=I.mod.blt;exact Calls.Name_function_global I.ok.kind hg (Calls.loadGlobal_builtin (by rw [I.ok.glob];exact I.mod.glob.keeps I.bk) hm (by rw [I.ok.blt];exact h1.keeps I.bk) ((h2 x hn).trans hv) h) hd
theorem Dq{x:Str}{v:V}{u:Value}{pos:Pos}(hg:Gl X x)(hm:X.mg x=some u)(r:RelV v u)(hd:(x == ("__debug__" : Str))=false:=by decide):PE X (.Name x pos) (tC v) :=
 λ_ _ _ H _ I h=>eB I hg hm ⟨v,H,I,r,h⟩ hd
theorem DN{x:Str}{v:V}{u:Value}{pos:Pos}(hg:Gl X x)(hm:X.mg x=none)(hv:bootBuiltins x=some u)(r:RelV v u)(hn:x ≠ "__name__" := by decide)(hd:(x == ("__debug__" : Str))=false:=by decide):PE X (.Name x pos) (tC v) :=
 λ_ _ _ H _ I h=>gg I hg hm hv ⟨v,H,I,r,h⟩ hn hd
variable{a b:Expr}{ta tb:TE}{pos:Pos}
variable{tA tB':TT}{rest:List Expr}
noncomputable def JL(t u:TT):TT:=λσ H Q=>t σ H λc H1=>if c=true then u σ H1 Q else Q false H1
noncomputable def tOr(t u:TT):TT:=λσ H Q=>t σ H λc H1=>if c=true then Q true H1 else u σ H1 Q
noncomputable def JV(t:TT):TT:=λσ H Q=>t σ H λc H1=>Q (!c) H1
theorem Cf(ha:PT X a tA):PW X (.BoolOp .And [a] pos) tA:=by
 intro wh pins s σ H Q I h;refine isTrue_and (thn (ha pins s σ H Q I h) λc s1 e => ?_);cases c with
 | true=>exact isTrue_and_nil e
 | false=>exact e
theorem EC(ha:PT X a tA):PW X (.BoolOp .Or [a] pos) tA:=by
 intro wh pins s σ H Q I h;refine isTrue_or (thn (ha pins s σ H Q I h) λc s1 e => ?_);cases c with
 | false=>exact isTrue_or_nil e
 | true=>exact e
theorem F9(ha:PT X a tA)(hb:PW X (.BoolOp .And (b :: rest) pos) tB'):PW X (.BoolOp .And (a :: b :: rest) pos) (JL tA tB'):=by
 intro wh pins s σ H Q I h;refine isTrue_and (thn (ha pins s σ H _ I h) λc s1 ⟨H1,I1,q1⟩ => ?_);cases c with
 | true=>exact hb wh pins s1 σ H1 Q I1 q1
 | false=>exact ⟨H1,I1,q1⟩
theorem HF(ha:PT X a tA)(hb:PW X (.BoolOp .Or (b :: rest) pos) tB'):PW X (.BoolOp .Or (a :: b :: rest) pos) (tOr tA tB'):=by
 intro wh pins s σ H Q I h;refine isTrue_or (thn (ha pins s σ H _ I h) λc s1 ⟨H1,I1,q1⟩ => ?_);cases c with
 | true=>exact ⟨H1,I1,q1⟩
 | false=>exact hb wh pins s1 σ H1 Q I1 q1
theorem D2(ha:PT X a tA):PT X (.UnaryOp .Not a pos) (JV tA):=by
 intro pins s σ H Q I h;exact isTrue_not (ha pins s σ H (λc H1=>Q (!c) H1) I h)
noncomputable def IC(ta tb:TE):TE:=λσ H Q=>ta σ H λx H1 => ∃ c,x=.bl c/\if c=true then tb σ H1 Q else Q (.bl false) H1
noncomputable def J7(ta tb:TE):TE:=λσ H Q=>ta σ H λx H1 => ∃ c,x=.bl c/\if c=true then Q (.bl true) H1 else tb σ H1 Q
theorem G7{op}{t:TE}(h:PE X a t):PE X (.BoolOp op [a] pos) t:=λpins s σ H Q I hw=>BoolOp_one (h pins s σ H Q I hw)
theorem Ea(ha:PE X a ta)(hb:PE X (.BoolOp .And (b :: rest) pos) tb):PE X (.BoolOp .And (a :: b :: rest) pos) (IC ta tb):=by
 intro pins s σ H Q I h;refine BoolOp_and (thn (ha pins s σ H _ I h) λv s1 ⟨x,H1,I1,r1,q1⟩ => ?_);obtain ⟨c,rfl,q1⟩:=q1;cases r1;refine wpAny_truthy_bool ?_;cases c with
 | true=>exact hb pins s1 σ H1 Q I1 q1
 | false=>exact ⟨.bl false,H1,I1,rfl,q1⟩
theorem Jd(ha:PE X a ta)(hb:PE X (.BoolOp .Or (b :: rest) pos) tb):PE X (.BoolOp .Or (a :: b :: rest) pos) (J7 ta tb):=by
 intro pins s σ H Q I h;refine BoolOp_or (thn (ha pins s σ H _ I h) λv s1 ⟨x,H1,I1,r1,q1⟩ => ?_);obtain ⟨c,rfl,q1⟩:=q1;cases r1;refine wpAny_truthy_bool ?_;cases c with
 | false=>exact hb pins s1 σ H1 Q I1 q1
 | true=>exact ⟨.bl true,H1,I1,rfl,q1⟩
end
end L2
namespace L2
open PySem PySem.Spec PyProof.Rows
noncomputable def SqL(K:KD)(H:Hp)(a:Addr)(xs:List V):Prop :=
 Rd H a (.lst xs) \/
  ∃ (o:Obj) (its:Array Value) (n:Nat),K.lookup a=some o/\o.cls=.type "list" /\ o.dict=none/\o.data=.seq its n/\its.size<=sizeLine/\Vals xs its.toList
noncomputable def SqT(K:KD)(H:Hp)(a:Addr)(xs:List V):Prop :=
 Rd H a (.tup xs) \/
  ∃ (o:Obj) (its:Array Value) (n:Nat),K.lookup a=some o/\o.cls=.type "tuple" /\ o.data=.seq its n/\its.size<=sizeLine/\Vals xs its.toList
noncomputable def Kj:Value->Option V
 | .none=>some .non
 | .bool b=>some (.bl b)
 | .int i _=>some (.int i)
 | .str x _=>some (.str x)
 | .bytes b _=>some (.byt b)
 | .float b _=>some (.flt b)
 | .ref a=>some (.ref a)
 | .type n=>some (.ty n)
 | _=>none
theorem RelV.abs{x:V}{u:Value}(r:RelV x u):Kj u=some x:=by
 cases x with
 | non=>cases r;rfl
 | bl _=>cases r;rfl
 | int _=>obtain ⟨t,rfl⟩:=r;rfl
 | str _=>obtain ⟨t,rfl⟩:=r;rfl
 | byt _=>obtain ⟨t,rfl⟩:=r;rfl
 | flt _=>obtain ⟨t,rfl⟩:=r;rfl
 | ref _=>cases r;rfl
 | ty _=>cases r;rfl
theorem RelV.inj{x y:V}{u:Value}(r:RelV x u)(q:RelV y u):x=y:=Option.some.inj (r.abs.symm.trans q.abs)
theorem Vals.inj:∀ {xs ys:List V} {us:List Value},Vals xs us->Vals ys us->xs=ys
 | _,_,_,.nil,.nil=>rfl
 | _,_,_,.cons r t,.cons r' t'=>by rw [r.inj r',Vals.inj t t']
section
variable{X:Cx}{pins:List (Addr×Obj)}{σ:St}{H:Hp}{s:Shared}{a:Addr}{xs ys:List V}
theorem SqL.of{K:KD}(h:H a=some (.lst xs)):SqL K H a xs := .inl (.inl h)
theorem SqT.of{K:KD}(h:H a=some (.tup xs)):SqT K H a xs := .inl (.inl h)
theorem Inv.list(I:Inv X pins σ H s)(h:SqL X.K H a xs):∃ its:List Value,Vals xs its/\PlainL s.heap a its.toArray/\xs.length<=sizeLine:=by
 rcases h with h | ⟨o,its,n,hk,hc,hd,hs,hz,r⟩
 .obtain ⟨z,its,n,r,e⟩:=h.ok I.hok
  exact ⟨its,r,⟨_,n,e,rfl,rfl,rfl⟩,z⟩
 .refine ⟨its.toList,r,⟨o,n,I.kIn a o hk,hc,hd,by simpa using hs⟩,?_⟩
  have e:=r.length;simp only [Array.length_toList] at e;omega
theorem Inv.tuple(I:Inv X pins σ H s)(h:SqT X.K H a xs):∃ its:List Value,Vals xs its/\IsTup s.heap a its.toArray/\xs.length<=sizeLine:=by
 rcases h with h | ⟨o,its,n,hk,hc,hs,hz,r⟩
 .obtain ⟨z,its,r,p⟩:=h.ok I.hok
  exact ⟨its,r,p,z⟩
 .refine ⟨its.toList,r,⟨o,I.kIn a o hk,hc,n,by simpa using hs⟩,?_⟩
  have e:=r.length;simp only [Array.length_toList] at e;omega
theorem Inv.list_inj(I:Inv X pins σ H s)(h:SqL X.K H a xs)(h':SqL X.K H a ys):xs=ys:=by
 obtain ⟨its,r,⟨o,n,e,_,_,d⟩,_⟩:=I.list h;obtain ⟨its',r',⟨o',n',e',_,_,d'⟩,_⟩:=I.list h';rw [e] at e';cases e';rw [d] at d';injection d' with d1 _
 have:its=its':=by simpa using congrArg Array.toList d1
 subst this;exact r.inj r'
theorem Inv.tuple_inj(I:Inv X pins σ H s)(h:SqT X.K H a xs)(h':SqT X.K H a ys):xs=ys:=by
 obtain ⟨its,r,⟨o,e,_,n,d⟩,_⟩:=I.tuple h;obtain ⟨its',r',⟨o',e',_,n',d'⟩,_⟩:=I.tuple h';rw [e] at e';cases e';rw [d] at d';injection d' with d1 _
 have:its=its':=by simpa using congrArg Array.toList d1
 subst this;exact r.inj r'
end
noncomputable abbrev Cx.wish(X:Cx)(E:Value->Shared->Prop):Cx:={ X with xe:=E }
noncomputable abbrev Cx.nox(X:Cx):Cx:=X.wish λ_ _=>False
theorem Cx.Ok.wish{X:Cx}(ok:X.Ok)(E:Value->Shared->Prop):(X.wish E).Ok :=
 ⟨ok.mod,ok.kind,ok.glob,ok.blt,ok.above,ok.inj,ok.has,ok.cab,ok.hd,ok.frames,ok.stk,ok.exf,ok.bs,ok.bsz,ok.noex,ok.exfs,ok.funs,ok.frf⟩
theorem Cx.Ok.unwish{X:Cx}{E:Value->Shared->Prop}(ok:(X.wish E).Ok):X.Ok :=
 ⟨ok.mod,ok.kind,ok.glob,ok.blt,ok.above,ok.inj,ok.has,ok.cab,ok.hd,ok.frames,ok.stk,ok.exf,ok.bs,ok.bsz,ok.noex,ok.exfs,ok.funs,ok.frf⟩
section
variable{X:Cx}{pins:List (Addr×Obj)}{σ:St}{H:Hp}{s:Shared}{E:Value->Shared->Prop}
theorem Inv.wish(I:Inv X pins σ H s)(E:Value->Shared->Prop):Inv (X.wish E) pins σ H s:=⟨I.ok.wish E,I.os,I.bare,I.base,I.loc,I.cell,I.free,I.freeC,I.pin,I.hok,I.len⟩
theorem Inv.unwish(I:Inv (X.wish E) pins σ H s):Inv X pins σ H s:=⟨I.ok.unwish,I.os,I.bare,I.base,I.loc,I.cell,I.free,I.freeC,I.pin,I.hok,I.len⟩
theorem SP.unwish{D:Ends}{f:Flow}{s':Shared}(h:SP (X.wish E) pins D f s'):SP X pins D f s':=by
 cases f with
 | next=>obtain ⟨σ',H',I,q⟩:=h;exact ⟨σ',H',I.unwish,q⟩
 | brk=>obtain ⟨σ',H',I,q⟩:=h;exact ⟨σ',H',I.unwish,q⟩
 | cont=>obtain ⟨σ',H',I,q⟩:=h;exact ⟨σ',H',I.unwish,q⟩
 | ret u=>obtain ⟨v,σ',H',I,r,q⟩:=h;exact ⟨v,σ',H',I.unwish,r,q⟩
theorem PSs.nox{st:List Stmt}{t:TS}(h:PSs X.nox st t):PSs X st t:=λpins s σ H D I hw =>
 wpAny_mono (h pins s σ H D (I.wish _) hw) (λ_ _ q=>q.unwish) λ_ _ z=>False.elim z
end
section
variable{X:Cx}{st:Stmt}{rest:List Stmt}{t u:TS}{e:Expr}{te:TE}{pos:Pos}
noncomputable def Jh:TS:=λD σ H=>D.nx σ H
noncomputable def J9(t u:TS):TS:=λD σ H=>t { D with nx:=u D } σ H
theorem CZ:PSs X [] Jh:=λ_ _ σ H _ I h=>wpAny_execs_nil ⟨σ,H,I,h⟩
theorem Bf(h1:PS X st t)(h2:PSs X rest u):PSs X (st :: rest) (J9 t u):=by
 intro pins s σ H D I h;refine wpAny_execs_cons (thn (h1 pins s σ H { D with nx:=u D } I h) λf s1 q => ?_)
 cases f with
 | next =>
  obtain ⟨σ',H',I',q⟩:=q;exact h2 pins s1 σ' H' D I' q
 | ret v=>exact q
 | brk=>exact q
 | cont=>exact q
theorem Inv.quiet{pins:List (Addr×Obj)}{σ:St}{H:Hp}{s:Shared}(I:Inv X pins σ H s):interactive X.env=false:=by simp [interactive,I.ok.kind]
noncomputable def Il(te:TE):TS:=λD σ H=>te σ H λ_ H1=>D.nx σ H1
theorem DU(he:PE X e te)(hs:swapsWith e none pos.line X.env=pure false:=by rfl):PS X (.Expr e pos) (Il te):=by
 intro pins s σ H D I h;exact wpAny_Expr_any (thn (he pins s σ H _ I h) λv s1 ⟨x,H1,I1,r1,q1⟩=>⟨σ,H1,I1,q1⟩) I.quiet hs
noncomputable def JP(te:TE):TS:=λD σ H=>te σ H D.rt
theorem FQ(he:PE X e te):PS X (.Return (some e) pos) (JP te):=by
 intro pins s σ H D I h;exact wpAny_Return_some (thn (he pins s σ H _ I h) λv s1 ⟨x,H1,I1,r1,q1⟩=>⟨x,σ,H1,I1,r1,q1⟩)
noncomputable def JK(c:TT)(t u:TS):TS:=λD σ H=>c σ H λb H1=>if b=true then t D σ H1 else u D σ H1
theorem IJ{c:Expr}{a b:List Stmt}{tc:TT}(hc:PT X c tc)(ha:PSs X a t)(hb:PSs X b u):PS X (.If c a b pos) (JK tc t u):=by
 intro pins s σ H D I h;refine wpAny_If (thn (hc pins s σ H _ I h) λd s1 ⟨H1,I1,q1⟩ => ?_);cases d with
 | true=>exact ha pins s1 σ H1 D I1 q1
 | false=>exact hb pins s1 σ H1 D I1 q1
end
noncomputable abbrev TG:=V->St->Hp->(St->Hp->Prop)->Prop
noncomputable abbrev TGs:=List V->St->Hp->(St->Hp->Prop)->Prop
noncomputable def PG(X:Cx)(target:Expr)(t:TG):Prop :=
 ∀ (pins:List (Addr×Obj)) (s:Shared) (σ:St) (H:Hp) (v:V) (u:Value) (Q:St->Hp->Prop),Inv X pins σ H s->RelV v u->t v σ H Q ->
  wpAny (model X.prog X.w) X.A (assign target X.env u) (λ_ s' => ∃ σ' H',Inv X pins σ' H' s'/\Q σ' H') X.xe s
noncomputable def PGs(X:Cx)(ts:List Expr)(t:TGs):Prop :=
 ∀ (pins:List (Addr×Obj)) (s:Shared) (σ:St) (H:Hp) (vs:List V) (us:List Value) (Q:St->Hp->Prop),Inv X pins σ H s->Vals vs us->t vs σ H Q ->
  wpAny (model X.prog X.w) X.A (assignInOrder ((assignEach ts X.env).map (·.2)) us) (λ_ s' => ∃ σ' H',Inv X pins σ' H' s'/\Q σ' H') X.xe s
noncomputable abbrev gy:=V->V->V->Hp->(Hp->Prop)->Prop
noncomputable def fc(X:Cx)(t:gy):Prop :=
 ∀ (pins:List (Addr×Obj)) (s:Shared) (σ:St) (H:Hp) (o i v:V) (ov iv u:Value) (Q:Hp->Prop),Inv X pins σ H s->RelV o ov->RelV i iv->RelV v u->t o i v H Q ->
  wpAny (model X.prog X.w) X.A (setItem ov iv u) (λ_ s' => ∃ H',Inv X pins σ H' s'/\Q H') X.xe s
section
variable{X:Cx}{pos:Pos}
noncomputable def wg(i:Nat):TG:=λv σ H Q=>Q (σ.set i (some v)) H
theorem qK{i:Nat}{x:Str}(hN:X.N.Nodup)(hi:X.N[i]? = some x)(hx:Loc X.env.scope x)(hf:X.fn x=true\/X.env.scope.names.lookup x=some .local:=by first | exact .inl rfl | exact .inr rfl | assumption):PG X (.Name x pos) (wg i):=by
 intro pins s σ H v u Q I r h;exact wpAny_assign_Name (hU I hN hi hx r (λs' I'=>⟨_,H,I',h⟩) hf)
noncomputable def J5:TGs:=λvs σ H Q=>vs=[]/\Q σ H
noncomputable def I0(t:TG)(u:TGs):TGs:=λvs σ H Q => ∃ v r,vs=v :: r/\t v σ H λσ' H'=>u r σ' H' Q
theorem Cz:PGs X [] J5:=by
 intro pins s σ H vs us Q I r h;obtain ⟨e,h⟩:=h;subst e;cases r;exact assignInOrder_nil ⟨σ,H,I,h⟩
theorem Bt{e:Expr}{es:List Expr}{t:TG}{u:TGs}(h1:PG X e t)(h2:PGs X es u)
  (hs:(assignEach (e :: es) X.env).map (·.2)=assign e X.env :: (assignEach es X.env).map (·.2):=by rfl):PGs X (e :: es) (I0 t u):=by
 intro pins s σ H vs us Q I r h;obtain ⟨v,vr,e1,h⟩:=h;subst e1;cases r with
 | cons r rr =>
  rw [hs];refine assignInOrder_cons (thn (h1 pins s σ H _ _ _ I r h) λ_ s1 ⟨σ1,H1,I1,q1⟩ => ?_);exact h2 pins s1 σ1 H1 _ _ Q I1 rr q1
noncomputable def J4(K:KD)(n:Nat)(t:TGs):TG:=λv σ H Q => ∃ a xs,v=.ref a/\SqT K H a xs/\xs.length=n/\t xs σ H Q
theorem GC{es:List Expr}{k:Nat}{t:TGs}{n:Nat}(hc:X.calm=true)(h:PGs X es t)
  (hn:(assignEach es X.env).length=n:=by rfl) (hst:(assignEach es X.env).findIdx? (·.1)=none:=by rfl):PG X (.Tuple es k pos) (J4 X.K n t):=by
 intro pins s σ H v u Q I r hw;obtain ⟨a,xs,e1,hq,hl,hw⟩:=hw;subst e1;cases r;obtain ⟨its,rv,ht,hz⟩:=I.tuple hq;refine assign_Tuple_tuple (I.ok.hd hc) ht (by simp [hn,<-hl,rv.length]) hst λh' hx => ?_
 have I1:Inv X pins σ H { s with heap:=h' }:=I.kept (t':=s.toks) λb o e=>hx b o (Kz (Kt e)) e
 exact h pins _ σ H xs _ Q I1 (by simpa using rv) hw
noncomputable def Kb(to ti:TE)(t:gy):TG:=λv σ H Q=>to σ H λo H1=>ti σ H1 λi H2=>t o i v H2 λH3=>Q σ H3
theorem Fv{o i:Expr}{to ti:TE}{t:gy}(ho:PE X o to)(hi:PE X i ti)(hs:fc X t)
  (ha:∀ v,assign (.Subscript o i pos) X.env v=(do
   let ov <- holding [v] (eval o X.env)
   let iv <- holding [v,ov] (eval i X.env)
   standAt pos
   holding [v,ov,iv] (setItem ov iv v)
   release [v,ov,iv] []):=by intro _;rfl):PG X (.Subscript o i pos) (Kb to ti t):=by
 intro pins s σ H v u Q I r h;rw [ha];refine ZB (wpAny_holding (thn (ho pins s σ H _ I h) λov s1 ⟨x,H1,I1,r1,q1⟩ => ?_));refine ZB (wpAny_holding (thn (hi pins s1 σ H1 _ I1 q1) λiv s2 ⟨y,H2,I2,r2,q2⟩ => ?_));refine ZB (wpAny_standAt (ZB (wpAny_holding (thn (hs pins s2 σ H2 x y v ov iv u _ I2 r1 r2 r q2) λ_ s3 ⟨H3,I3,q3⟩ => ?_))));exact wpAny_release ⟨σ,H3,I3,q3⟩
noncomputable def yq(te:TE)(g:TG):TS:=λD σ H=>te σ H λx H1=>g x σ H1 D.nx
theorem u6{tg e:Expr}{te:TE}{g:TG}(he:PE X e te)(hg:PG X tg g)(hs:swapsWithSole [tg] e pos.line X.env=pure false:=by rfl)(hw:swappedStores [tg] e X.env=pure none:=by rfl)
  (h1:(assignEach [tg] X.env).map (·.2)=[assign tg X.env]:=by rfl):PS X (.Assign [tg] e pos) (yq te g):=by
 intro pins s σ H D I h;refine wpAny_Assign_stores (thn (he pins s σ H _ I h) λv s1 ⟨x,H1,I1,r1,q1⟩ => ?_) hs hw;rw [h1];exact thn (hg pins s1 σ H1 x v _ I1 r1 q1) λ_ s2 q=>q
theorem Ex{i:Nat}{x:Str}{e:Expr}{te:TE}{pos':Pos}(hN:X.N.Nodup)(hi:X.N[i]? = some x)(hx:Loc X.env.scope x)(he:PE X e te)(hs:swapsWith e (some (.Name x pos')) pos.line X.env=pure false:=by rfl)(hf:X.fn x=true\/X.env.scope.names.lookup x=some .local:=by first | exact .inl rfl | exact .inr rfl | assumption):
  PS X (.Assign [.Name x pos'] e pos) (yq te (wg i)):=by
 intro pins s σ H D I h;refine wpAny_Assign_Name (thn (he pins s σ H _ I h) λv s1 ⟨y,H1,I1,r1,q1⟩ => ?_) hs;exact hU I1 hN hi hx r1 (λs2 I2=>⟨_,H1,I2,q1⟩) hf
noncomputable def Kq(i j:Nat)(ta:TA):TS:=λD σ H=>ta σ H λvs H1 => ∃ v w,vs=[v,w]/\D.nx ((σ.set i (some v)).set j (some w)) H1
theorem Gx{i j:Nat}{x y:Str}{a b:Expr}{ta:TA}{px py pt:Pos}{kt k2 pt2}(hc:X.calm=true)(hN:X.N.Nodup)(hi:X.N[i]? = some x)(hj:X.N[j]? = some y)(hij:i≠j)
  (hx:X.env.scope.names.lookup x=some .local) (hy:X.env.scope.names.lookup y=some .local) (ha:PA X [a,b] ta)
  (hw:swappedStores [.Tuple [.Name x px,.Name y py] kt pt] (.Tuple [a,b] k2 pt2) X.env=pure (some [x,y]))
  (hs:swapsWithSole [.Tuple [.Name x px,.Name y py] kt pt] (.Tuple [a,b] k2 pt2) pos.line X.env=pure false:=by rfl) :
  PS X (.Assign [.Tuple [.Name x px,.Name y py] kt pt] (.Tuple [a,b] k2 pt2) pos) (Kq i j ta):=by
 intro pins s σ H D I h;rw [exec_Assign_arm];refine ZB (wpAny_standAt ?_);rw [hs];refine ZB (ZP ?_);rw [if_neg (by decide)]
 refine ZB (Tuple_ (thn (ha _ pins s σ H _ I h) λus s1 ⟨vs,H1,I1,r1,q1⟩ => ?_));obtain ⟨v,w,e1,q1⟩:=q1;subst e1;obtain ⟨u1,u2,rfl,rv,rw'⟩:∃ u1 u2,us=[u1,u2]/\RelV v u1/\RelV w u2:=by
  cases r1 with
  | cons p q =>
   cases q with
   | cons p' q' =>
    cases q';exact ⟨_,_,rfl,p,p'⟩
 refine wpAny_newObj_type ?_ (by show 2<=sizeLine;decide)
 have I2:Inv X pins σ H1 { s1 with heap:=s1.heap.push { cls := .type "tuple",data := .seq [u1,u2].toArray } }:=I1.kept (t':=s1.toks) λb o e=>Ks _ e
 rw [hw];refine ZB (ZP ?_);show wpAny (model X.prog X.w) X.A (do rule "assign.swapped-stores";let items <- unpackItems (.ref s1.heap.objs.size) 2 none;assignInOrder [λv=>bindName X.env y v,λv=>bindName X.env x v] items.reverse;pure Flow.next) _ _ _
 refine ZB (wpAny_rule (ZB (unpackItems_tuple (items := #[u1,u2]) (I.ok.hd hc) (IsTup.new s1.heap _) λh' hx' => ?_)));have I3:=I2.kept (h':=h') (t':=s1.toks) λb o e=>hx' b o (Kz (Kt e)) e;show wpAny _ _ (assignInOrder [λv=>bindName X.env y v,λv=>bindName X.env x v] [u2,u1] >>= λ_=>pure Flow.next) _ _ _;refine ZB (assignInOrder_cons (wpAny_bindName (hU I3 hN hj (.inl hy) rw' (λs2 I4 => ?_) (.inr hy))));refine assignInOrder_cons (wpAny_bindName (hU I4 hN hi (.inl hx) rv (λs3 I5=>assignInOrder_nil (ZP ?_)) (.inr hx)));rw [List.set_comm _ _ (Ne.symm hij)] at I5;exact ⟨_,H1,I5,q1⟩
end
section
variable{X:Cx}{pos:Pos}
end
set_option genInjectivity false in
structure It where
 go:Nat->Hp->Prop
 yld:Nat->Hp->V->Hp->Prop
 stop:Nat->Hp->Prop
noncomputable def ba(X:Cx)(pins:List (Addr×Obj))(H:Hp)(b:Addr):Prop :=
 H b=none/\b≠X.env.locals/\b ∉ X.fs/\(b∈X.ex\/X.s₀.heap.objs.size<=b)/\(∀ x c,X.env.cells.lookup x=some c->c≠b) /\ ∀ p∈X.pn++pins,p.1≠b
theorem Inv.fpOk{X:Cx}{pins:List (Addr×Obj)}{σ:St}{H H':Hp}{s:Shared}{b:Addr}(I:Inv X pins σ H s)(hb:s.heap.objs.size<=b)(hn:H' b=none):ba X pins H' b:=by
 refine ⟨hn,Nat.ne_of_gt (Ky I.lt hb),I.nofs hb,.inr (Ku I.sz hb),λx c e z => ?_,λp hp z => ?_⟩
 .obtain ⟨v,q⟩:=I.cell x c e
  exact absurd (Ky q.lt (by rw [z];exact hb)) (Nat.lt_irrefl _)
 .exact absurd (Ky (Kt (I.pin p hp).1) (by rw [z];exact hb)) (Nat.lt_irrefl _)
structure Turn(P:Program)(w:World)(K:KD)(tg:Expr)(J:It)(fp:List Addr)(it:Addr)(tn:Nat->Heap->Prop):Prop where
 mem:it∈fp
 obj:∀ i h,tn i h -> ∀ b∈fp,∃ o,h.get? b=some o /\ ∀ v,o.data ≠ .cell v
 keep:∀ i h h',tn i h->(∀ b∈fp,∀ o,h.get? b=some o->h'.get? b=some o)->tn i h'
 item:∀ (X:Cx),X.prog=P->X.w=w->X.K=K->X.calm=true -> ∀ (i:Nat) (pins:List (Addr×Obj)) (s:Shared) (σ:St) (H:Hp) (E:Value->Shared->Prop),Inv X pins σ H s->(∀ b∈fp,ba X pins H b)->tn i s.heap->J.go i H ->
  wpAny (model P w) X.A (pyNext (.ref it)) (λr s1 => ∃ u,r=some u /\
   wpAny (model P w) X.A (letOwnedTupleGo tg (.ref it) u) (λ_ s2 => ∃ x H',Inv X pins σ H' s2/\RelV x u/\J.yld i H x H'/\tn (i+1) s2.heap /\ ∀ b∈fp,H' b=none) E s1) E s
 done:∀ (X:Cx),X.prog=P->X.w=w->X.K=K->X.calm=true -> ∀ (i:Nat) (pins:List (Addr×Obj)) (s:Shared) (σ:St) (H:Hp) (E:Value->Shared->Prop),Inv X pins σ H s->(∀ b∈fp,ba X pins H b)->tn i s.heap->J.stop i H ->
  wpAny (model P w) X.A (pyNext (.ref it)) (λr s1=>r=none/\Inv X pins σ H s1) E s
 self:∀ (A:Around) (i:Nat) (s:Shared) (Q:Value->Shared->Prop) (E:Value->Shared->Prop),tn i s.heap->Q (.ref it) s->wpAny (model P w) A (pyIter (.ref it)) Q E s
noncomputable abbrev TI:=St->Hp->(It->Hp->Prop)->Prop
noncomputable def PIE(X:Cx)(pins:List (Addr×Obj))(σ:St)(tg:Expr)(R:It->Hp->Prop)(itv:Value)(s2:Shared):Prop :=
 ∃ (it:Addr) (fp:List Addr) (tn:Nat->Heap->Prop) (J:It) (H':Hp),itv=.ref it/\Inv X pins σ H' s2/\Turn X.prog X.w X.K tg J fp it tn/\tn 0 s2.heap/\(∀ b∈fp,ba X pins H' b)/\R J H'
noncomputable def PI(X:Cx)(tg iter:Expr)(wi:TI):Prop :=
 ∀ (pins:List (Addr×Obj)) (s:Shared) (σ:St) (H:Hp) (R:It->Hp->Prop),Inv X pins σ H s->wi σ H R ->
  wpAny (model X.prog X.w) X.A (eval iter X.env) (λv s1=>wpAny (model X.prog X.w) X.A (pyIter v) (PIE X pins σ tg R) X.xe s1) X.xe s
theorem iV{M:Model}{A:Around}{E:Value->Shared->Prop}{s:Shared}{tg:Expr}{it:Addr}{u:Value}{o:Obj}{n:String}{vs:Array Value}{Q:Unit->Shared->Prop}(ho:s.heap.get? it=some o)(hc:o.cls=.type n)(hd:o.data=.fields vs)
    (hn:["enumerate","zip","dict_itemiterator","dict_reverseitemiterator","odict_iterator","itertools.zip_longest","itertools.pairwise"].contains n=false) (hQ:Q () s):wpAny M A (letOwnedTupleGo tg (.ref it) u) Q E s:=by
  unfold letOwnedTupleGo;cases tg <;> first
    | exact ZP hQ
    | (cases u <;> first
        | exact ZP hQ
        | (refine ZB (wpAny_load ho ?_)
           rw [hc,hd];show wpAny M A (if (["enumerate","zip","dict_itemiterator","dict_reverseitemiterator","odict_iterator","itertools.zip_longest","itertools.pairwise"].contains n && vs[0]? == some (rawInt _))=true then _ else _) Q E s
           rw [if_neg (by intro h;rw [hn,Bool.false_and] at h;cases h)]
           exact ZP hQ))
noncomputable def Itl(K:KD)(a:Addr):It :=
 ⟨λi H => ∃ xs x,SqL K H a xs/\xs[i]? = some x,λi H x H'=>H'=H /\ ∀ xs,SqL K H a xs->xs[i]? = some x,λi H => ∃ xs,SqL K H a xs/\xs.length<=i⟩
noncomputable def Itt(K:KD)(a:Addr):It :=
 ⟨λi H => ∃ xs x,SqT K H a xs/\xs[i]? = some x,λi H x H'=>H'=H /\ ∀ xs,SqT K H a xs->xs[i]? = some x,λi H => ∃ xs,SqT K H a xs/\xs.length<=i⟩
noncomputable def Itr(lo:Int)(n:Nat):It:=⟨λi _=>i < n,λi H x H'=>H'=H/\x=.int (lo+i),λi _=>n<=i⟩
theorem AB{P:Program}{w:World}{K:KD}{tg:Expr}(a it:Addr):Turn P w K tg (Itl K a) [it] it (λi h=>h.IsListIter it a i) where
 mem:=by simp
 obj:=λi h st b hb=>by
  have e:b=it:=by simpa using hb
  subst e;obtain ⟨o,e,c,d⟩:=st;exact ⟨o,e,λv z=>by rw [d] at z;cases z⟩
 keep:=λi h h' st k=>st.at λo e=>k it (by simp) o e
 item:=by
  intro X hP hw hK hc i pins s σ H E I hf st hg;subst hP hw hK;obtain ⟨xs,x,hq,hx⟩:=hg;obtain ⟨its,rv,p,hz⟩:=I.list hq;obtain ⟨u,hu,ru⟩:=rv.get hx;obtain ⟨f0,f1,f2,f3,f4,f5⟩:=hf it (by simp)
  refine wpAny_pyNext_list_item st p.isList (x:=u) (by simpa using hu) λh' st' sb => ?_
  have I1:Inv X pins σ H { s with heap:=h' }:=I.turned (t':=s.toks) (λb o hb e=>(sb.2 b hb).trans e) f0 f1 f3 f4 f5
  obtain ⟨o,e,c,d⟩:=id st';exact ⟨u,rfl,iV (s:={ s with heap:=h' }) e c d (by decide) ⟨x,H,I1,ru,⟨rfl,λys hy=>by rw [I.list_inj hy hq];exact hx⟩,st',λb hb=>(hf b hb).1⟩⟩
 done:=by
  intro X hP hw hK hc i pins s σ H E I hf st hg;subst hP hw hK;obtain ⟨xs,hq,hx⟩:=hg;obtain ⟨its,rv,p,hz⟩:=I.list hq;obtain ⟨f0,f1,f2,f3,f4,f5⟩:=hf it (by simp)
  have hl:=rv.length;exact wpAny_pyNext_list_end (I.ok.hd hc) st p.isList (by simp;omega) λh' eb=>⟨rfl,I.turned (t':=s.toks) (λb o hb e=>eb b o hb e) f0 f1 f3 f4 f5⟩
 self:=λ_ _ _ _ _ st h=>wpAny_pyIter_listiter st h
theorem zP{P:Program}{w:World}{K:KD}{tg:Expr}(a it:Addr):Turn P w K tg (Itt K a) [it] it (λi h=>h.IsTupleIter it a i) where
 mem:=by simp
 obj:=λi h st b hb=>by
  have e:b=it:=by simpa using hb
  subst e;obtain ⟨o,e,c,d⟩:=st;exact ⟨o,e,λv z=>by rw [d] at z;cases z⟩
 keep:=λi h h' st k=>st.at λo e=>k it (by simp) o e
 item:=by
  intro X hP hw hK hc i pins s σ H E I hf st hg;subst hP hw hK;obtain ⟨xs,x,hq,hx⟩:=hg;obtain ⟨its,rv,p,hz⟩:=I.tuple hq;obtain ⟨u,hu,ru⟩:=rv.get hx;obtain ⟨f0,f1,f2,f3,f4,f5⟩:=hf it (by simp)
  refine wpAny_pyNext_tuple_item st (show s.heap.IsTuple a its.toArray from p) (x:=u) (by simpa using hu) λh' st' sb => ?_
  have I1:Inv X pins σ H { s with heap:=h' }:=I.turned (t':=s.toks) (λb o hb e=>(sb.2 b hb).trans e) f0 f1 f3 f4 f5
  obtain ⟨o,e,c,d⟩:=id st';exact ⟨u,rfl,iV (s:={ s with heap:=h' }) e c d (by decide) ⟨x,H,I1,ru,⟨rfl,λys hy=>by rw [I.tuple_inj hy hq];exact hx⟩,st',λb hb=>(hf b hb).1⟩⟩
 done:=by
  intro X hP hw hK hc i pins s σ H E I hf st hg;subst hP hw hK;obtain ⟨xs,hq,hx⟩:=hg;obtain ⟨its,rv,p,hz⟩:=I.tuple hq;obtain ⟨f0,f1,f2,f3,f4,f5⟩:=hf it (by simp)
  have hl:=rv.length;exact wpAny_pyNext_tuple_end (I.ok.hd hc) st (show s.heap.IsTuple a its.toArray from p) (by simp;omega) λh' eb=>⟨rfl,I.turned (t':=s.toks) (λb o hb e=>eb b o hb e) f0 f1 f3 f4 f5⟩
 self:=λ_ _ _ _ _ st h=>wpAny_pyIter_tupleiter st h
theorem zJ{P:Program}{w:World}{K:KD}{tg:Expr}(it:Addr)(lo:Int)(n:Nat):Turn P w K tg (Itr lo n) [it] it (λi h=>IsRangeIter h it (lo+(i:Nat)*1) ((n:Int) - (i:Nat)) 1) where
 mem:=by simp
 obj:=λi h st b hb=>by
  have e:b=it:=by simpa using hb
  subst e
  exact ⟨_,st,λv z=>by
   have z':Data.fields _=Data.cell v:=z;cases z'⟩
 keep:=λi h h' st k=>k it (by simp) _ st
 item:=by
  intro X hP hw hK hc i pins s σ H E I hf st hg;subst hP hw hK;obtain ⟨f0,f1,f2,f3,f4,f5⟩:=hf it (by simp)
  have W:=Walks.range (prog:=X.prog) (w:=X.w) (I.ok.hd hc) it lo 1 n;refine W.item i s _ _ hg st λv h' tk hv st' kk => ?_;obtain ⟨t,rfl⟩:=hv;have I1:Inv X pins σ H { s with heap:=h',toks:=tk }:=I.turned (λb o hb e=>kk b o (by simpa using hb) e) f0 f1 f3 f4 f5
  refine ⟨_,rfl,iV (s:={ s with heap:=h',toks:=tk }) (n := "range_iterator") st' rfl rfl (by decide) ⟨.int (lo+i),H,I1,⟨t,?_⟩,⟨rfl,rfl⟩,st',λb hb=>(hf b hb).1⟩⟩
  rw [Int.mul_one]
 done:=by
  intro X hP hw hK hc i pins s σ H E I hf st hg;subst hP hw hK;obtain ⟨f0,f1,f2,f3,f4,f5⟩:=hf it (by simp)
  exact wpAny_pyNext_range_end (I.ok.hd hc) st (by have:n<=i:=hg;omega) λh' eb=>⟨rfl,I.turned (t':=s.toks) (λb o hb e=>eb b o hb e) f0 f1 f3 f4 f5⟩
 self:=λ_ _ _ _ _ st h=>wpAny_pyIter_rangeiter st h
end L2
namespace L2
open PySem PySem.Spec PyProof.Rows
section
variable{X:Cx}{tg:Expr}
theorem AQ{pins:List (Addr×Obj)}{σ:St}{H:Hp}{s:Shared}{R:It->Hp->Prop}{E:Value->Shared->Prop}{lo hi:Int}{t u v:Tok}{tk:Nat}(I:Inv X pins σ H s)(h1 : -(2 ^ 62)<=lo)(h2:lo < 2 ^ 62)(h3 : -(2 ^ 62)<=hi)(h4:hi < 2 ^ 62)
  (q:R (Itr lo (hi - lo).toNat) H):wpAny (model X.prog X.w) X.A (pyIter (.ref s.heap.objs.size)) (PIE X pins σ tg R) E { s with heap:=s.heap.push { cls := .type "range",data := .fields #[.int lo t,.int hi u,.int 1 v] },toks:=tk }:=by
 refine wpAny_pyIter_range (IsRange.new ..) (small_one h1 h2 h3 h4) ?_;have I1:Inv X pins σ H { s with heap:=s.heap.push { cls := .type "range",data := .fields #[.int lo t,.int hi u,.int 1 v] },toks:=tk }:=I.kept λb o e=>Ks _ e
 refine ⟨(s.heap.push { cls := .type "range",data := .fields #[.int lo t,.int hi u,.int 1 v] }).objs.size,[(s.heap.push { cls := .type "range",data := .fields #[.int lo t,.int hi u,.int 1 v] }).objs.size],_,_,H,rfl,
  I1.kept (t':=tk) λb o e=>Ks _ e,zJ _ lo (hi - lo).toNat,?_,λb hb => ?_,q⟩
 .have e1:lo+((0:Nat):Int)*1=lo:=by simp
  have e2:(((hi - lo).toNat:Nat):Int) - ((0:Nat):Int)=Builtin.Range.rangeSize lo hi 1:=by rw [rangeSize_one];split <;> omega
  show IsRangeIter _ _ (lo+((0:Nat):Int)*1) ((((hi - lo).toNat:Nat):Int) - ((0:Nat):Int)) 1;rw [e1,e2];exact KA _ rfl
 .have e:b=(s.heap.push { cls := .type "range",data := .fields #[.int lo t,.int hi u,.int 1 v] }).objs.size:=by simpa using hb
  subst e;exact I1.fpOk (Kw _) (I1.hok.fresh (Kw _))
noncomputable def Ie(ta:TA):TI:=λσ H R=>ta σ H λvs H1 => ∃ j:Int,vs=[.int j] /\ -(2 ^ 62)<=j/\j < 2 ^ 62/\R (Itr 0 j.toNat) H1
theorem An{a:Expr}{ta:TA}{p pos:Pos}(hg:Gl X "range")(hm:X.mg "range" = none)(ha:PA X [a] ta)(hs:starEach [a] X.env=[(false,eval a X.env)]:=by rfl):PI X tg (.Call (.Name "range" p) [a] [] pos) (Ie ta):=by
 intro pins s σ H R I h;refine Call_ (gg I hg hm boot_range (PyProof.Rows.callWith_type1 (thn (ha pos pins s σ H _ I h) λus s1 ⟨vs,H1,I1,r1,q1⟩ => ?_) hs rfl));obtain ⟨j,e,q1,q2,q⟩:=q1;subst e;cases r1 with
 | cons r rr =>
  cases rr;obtain ⟨t,rfl⟩:=r;exact call_range_1 (AQ I1 (by omega) (by omega) q1 q2 (by simpa using q))
noncomputable def JN(wi:TI)(g:TG)(tb:TS):TS:=λD σ H=>wi σ H λJ H1 => ∃ W:Nat->Nat->St->Hp->Prop,(∃ m,W 0 m σ H1) /\ ∀ i m σ H,W i m σ H ->
 (J.stop i H/\D.nx σ H)\/(J.go i H /\ ∃ N:St->Hp->Prop,(∀ σ' H',N σ' H' -> ∃ m',m' < m/\W (i+1) m' σ' H') /\ ∀ x H',J.yld i H x H'->g x σ H' λσ2 H2=>tb { D with nx:=N,ct:=N,bk:=D.nx } σ2 H2)
noncomputable def fX(fp:List Addr)(h:Heap):List (Addr×Obj):=fp.filterMap λb=>(h.get? b).map λo=>(b,o)
theorem gL{fp:List Addr}{h:Heap}{b:Addr}{o:Obj}(hb:b∈fp)(e:h.get? b=some o):(b,o)∈fX fp h:=List.mem_filterMap.mpr ⟨b,hb,by rw [e];rfl⟩
theorem Ax{fp:List Addr}{h:Heap}{p:Addr×Obj}(hp:p∈fX fp h):p.1∈fp/\h.get? p.1=some p.2:=by
 obtain ⟨b,hb,e⟩:=List.mem_filterMap.mp hp;cases q:h.get? b with
 | none=>rw [q] at e;cases e
 | some o =>
  rw [q] at e;have e':(b,o)=p:=Option.some.inj e;subst e';exact ⟨hb,q⟩
theorem Inv.pinned{pins:List (Addr×Obj)}{σ:St}{H:Hp}{s:Shared}{fp:List Addr}(I:Inv X pins σ H s)(hf:∀ b∈fp,ba X pins H b)(ho:∀ b∈fp,∃ o,s.heap.get? b=some o /\ ∀ v,o.data ≠ .cell v):Inv X (pins++fX fp s.heap) σ H s :=
 I.pins_of λp hp=>(List.mem_append.mp hp).elim (λz=>I.pin p (List.mem_append_right _ z)) λz=>by
  obtain ⟨hb,e⟩:=Ax z;obtain ⟨f0,f1,f2,_⟩:=hf p.1 hb;obtain ⟨o,e',d⟩:=ho p.1 hb;rw [e] at e';cases e';exact ⟨e,f0,f1,f2,d⟩
theorem Inv.unpinned{pins pl:List (Addr×Obj)}{σ:St}{H:Hp}{s:Shared}(I:Inv X (pins++pl) σ H s):Inv X pins σ H s:=I.pins_of λp hp=>I.pin p (List.mem_append_right _ (List.mem_append_left _ hp))
theorem EU{iter:Expr}{body:List Stmt}{wi:TI}{g:TG}{tb:TS}{pos:Pos}(hp:PassesOwn (model X.prog X.w) X.A X.env X.xe)(hc:X.calm=true)(hi:PI X tg iter wi)(hg:PG X tg g)(hb:PSs X body tb)
  (hs:∀ x,foldedSetIterable iter X.env x=pure x:=by intro _;rfl):PS X (.For tg iter body [] pos) (JN wi g tb):=by
 intro pins s σ H D I h;refine wpAny_For (thn (hi pins s σ H _ I h) λv s1 h1=>thn h1 λitv s2 h2 => ?_) hs;obtain ⟨it,fp,tn,J,H2,e,I2,T,st2,f2,W,⟨m0,w0⟩,turn⟩:=h2;subst e;have stat:∀ {H':Hp},(∀ b∈fp,H' b=none) -> ∀ b∈fp,ba X pins H' b:=λhn b hb=>⟨hn b hb,(f2 b hb).2⟩;refine codeAny_forLoop_any (λn s' => ∃ i σ' H',Inv X pins σ' H' s'/\tn i s'.heap/\(∀ b∈fp,H' b=none)/\W i n σ' H') ?_ m0 ⟨0,σ,H2,I2,st2,λb hb=>(f2 b hb).1,w0⟩;rintro n s3 ⟨i,σ3,H3,I3,st3,fr3,w3⟩;rcases turn i n σ3 H3 w3 with ⟨stop,qn⟩ | ⟨go,N,hN,step⟩
 .refine wpAny_passesOwn hp (thn (T.done X rfl rfl rfl hc i pins s3 σ3 H3 X.xe I3 (stat fr3) st3 stop) λr s4 ⟨hr,I4⟩ => ?_)
  subst hr;exact wpAny_execs_nil ⟨σ3,H3,I4,qn⟩
 .refine wpAny_passesOwn hp (thn (T.item X rfl rfl rfl hc i pins s3 σ3 H3 X.xe I3 (stat fr3) st3 go) λr s4 ⟨u,hr,h4⟩ => ?_)
  subst hr;refine wpAny_passesOwn hp (thn h4 λ_ s5 ⟨x,H5,I5,r5,y5,st5,fr5⟩ => ?_);have I5':=I5.pinned (stat fr5) (T.obj _ _ st5);refine wpAny_passesOwn hp (thn (hg _ s5 σ3 H5 x u _ I5' r5 (step x H5 y5)) λ_ s6 ⟨σ6,H6,I6,q6⟩ => ?_);refine wpAny_passesOwn hp (thn (hb _ s6 σ6 H6 _ I6 q6) λf s7 q7 => ?_);have again:∀ {σ7:St} {H7:Hp},Inv X (pins++fX fp s5.heap) σ7 H7 s7->N σ7 H7 -> ∃ m,m < n /\ ∃ i σ' H',Inv X pins σ' H' s7/\tn i s7.heap/\(∀ b∈fp,H' b=none)/\W i m σ' H':=λ{σ7 H7} I7 n7=>by
   obtain ⟨m',hm,w7⟩:=hN σ7 H7 n7;refine ⟨m',hm,i+1,σ7,H7,I7.unpinned,T.keep _ _ _ st5 λb hb o e=>(I7.pin (b,o) (List.mem_append_right _ (List.mem_append_right _ (gL hb e)))).1,λb hb => ?_,w7⟩;obtain ⟨o,e,d⟩:=T.obj _ _ st5 b hb;exact (I7.pin (b,o) (List.mem_append_right _ (List.mem_append_right _ (gL hb e)))).2.1
  cases f with
  | next=>obtain ⟨σ7,H7,I7,n7⟩:=q7;exact again I7 n7
  | cont=>obtain ⟨σ7,H7,I7,n7⟩:=q7;exact again I7 n7
  | brk=>obtain ⟨σ7,H7,I7,q7⟩:=q7;exact ⟨σ7,H7,I7.unpinned,q7⟩
  | ret v=>obtain ⟨x7,σ7,H7,I7,r7,q7⟩:=q7;exact ⟨x7,σ7,H7,I7.unpinned,r7,q7⟩
end
end L2
namespace L2
open PySem PySem.Spec PyProof.Rows
noncomputable abbrev R2:=V->V->Hp->VK->Prop
noncomputable def OpR(X:Cx)(f:Value->Value->Sem Value)(r:R2):Prop :=
 ∀ (pins:List (Addr×Obj)) (s:Shared) (σ:St) (H:Hp) (x y:V) (v u:Value) (Q:VK),Inv X pins σ H s->RelV x v->RelV y u->r x y H Q ->
  wpAny (model X.prog X.w) X.A (f v u) (EP X pins σ Q) X.xe s
noncomputable def UnR(X:Cx)(f:Value->Sem Value)(r:V->Hp->VK->Prop):Prop :=
 ∀ (pins:List (Addr×Obj)) (s:Shared) (σ:St) (H:Hp) (x:V) (v:Value) (Q:VK),Inv X pins σ H s->RelV x v->r x H Q ->
  wpAny (model X.prog X.w) X.A (f v) (EP X pins σ Q) X.xe s
noncomputable def CallR(X:Cx)(f:Value)(r:List V->Hp->VK->Prop):Prop :=
 ∀ (pins:List (Addr×Obj)) (s:Shared) (σ:St) (H:Hp) (xs:List V) (us:List Value) (Q:VK),Inv X pins σ H s->Vals xs us->r xs H Q ->
  wpAny (model X.prog X.w) X.A (call f us) (EP X pins σ Q) X.xe s
noncomputable def Kl(X:Cx)(r:V->Hp->(Bool->Hp->Prop)->Prop):Prop :=
 ∀ (pins:List (Addr×Obj)) (s:Shared) (σ:St) (H:Hp) (x:V) (v:Value) (Q:Bool->Hp->Prop),Inv X pins σ H s->RelV x v->r x H Q ->
  wpAny (model X.prog X.w) X.A (truthy v) (TP X pins σ Q) X.xe s
noncomputable def tOp(r:R2)(ta tb:TE):TE:=λσ H Q=>ta σ H λx H1=>tb σ H1 λy H2=>r x y H2 Q
noncomputable def tUn(r:V->Hp->VK->Prop)(ta:TE):TE:=λσ H Q=>ta σ H λx H1=>r x H1 Q
noncomputable def rI(C:Int->Int->Prop)(g:Int->Int->V):R2:=λx y H Q => ∃ i j,x=.int i/\y=.int j/\C i j/\Q (g i j) H
noncomputable def rI0(g:Int->Int->V):R2:=λx y H Q => ∃ i j,x=.int i/\y=.int j/\Q (g i j) H
noncomputable def rU(g:Int->V):V->Hp->VK->Prop:=λx H Q => ∃ i,x=.int i/\Q (g i) H
section
variable{X:Cx}{a b c:Expr}{ta tb tc:TE}{pos:Pos}
theorem lL(ha:PE X a ta)(hb:PE X b tb){pins:List (Addr×Obj)}{s:Shared}{σ:St}{H:Hp}{R:V->V->Hp->Prop}(I:Inv X pins σ H s)
  (h:ta σ H λx H1=>tb σ H1 λy H2=>R x y H2) {Q:Value->Shared->Prop} {f:Value->Value->Sem Value}
  (hf:∀ v u s2 x y H2,Inv X pins σ H2 s2->RelV x v->RelV y u->R x y H2->wpAny (model X.prog X.w) X.A (f v u) Q X.xe s2) :
  wpAny (model X.prog X.w) X.A (eval a X.env) (λv s₁ => wpAny (model X.prog X.w) X.A (eval b X.env) (λu s₂ => wpAny (model X.prog X.w) X.A (f v u) Q X.xe s₂) X.xe s₁) X.xe s:=by
 refine thn (ha pins s σ H _ I h) λv s1 ⟨x,H1,I1,r1,q1⟩ => ?_;refine thn (hb pins s1 σ H1 _ I1 q1) λu s2 ⟨y,H2,I2,r2,q2⟩ => ?_;exact hf v u s2 x y H2 I2 r1 r2 q2
theorem Ig{op:Operator}{r:R2}(ho:OpR X (binaryOp op) r)(ha:PE X a ta)(hb:PE X b tb):PE X (.BinOp a op b pos) (tOp r ta tb):=by
 intro pins s σ H Q I h;exact wpAny_BinOp (lL ha hb I h λv u s2 x y H2 I2 rx ry q=>ho pins s2 σ H2 x y v u Q I2 rx ry q)
theorem xw{op:UnaryOp}{r:V->Hp->VK->Prop}(ho:UnR X (unaryOp op) r)(ha:PE X a ta):PE X (.UnaryOp op a pos) (tUn r ta):=by
 intro pins s σ H Q I h;exact UnaryOp_ (thn (ha pins s σ H _ I h) λv s1 ⟨x,H1,I1,r1,q1⟩=>ho pins s1 σ H1 x v Q I1 r1 q1)
theorem opI{f:Value->Value->Sem Value}{C:Int->Int->Prop}{g:Int->Int->Int}
  (rule:∀ (i j:Int) (t u:Tok) (s:Shared) (Q:Value->Shared->Prop) (E:Value->Shared->Prop),C i j->Q (.int (g i j) s.toks) { s with toks:=s.toks+1 }->wpAny (model X.prog X.w) X.A (f (.int i t) (.int j u)) Q E s) :
  OpR X f (rI C λi j => .int (g i j)):=by
 intro pins s σ H x y v u Q I rx ry h;obtain ⟨i,j,rfl,rfl,hc,q⟩:=h;obtain ⟨t,rfl⟩:=rx;obtain ⟨t',rfl⟩:=ry;exact rule i j t t' s _ _ hc ⟨.int (g i j),H,I.tok _,⟨_,rfl⟩,q⟩
theorem yc{f:Value->Value->Sem Value}{g:Int->Int->Int}
  (rule:∀ (i j:Int) (t u:Tok) (s:Shared) (Q:Value->Shared->Prop) (E:Value->Shared->Prop),Q (.int (g i j) s.toks) { s with toks:=s.toks+1 }->wpAny (model X.prog X.w) X.A (f (.int i t) (.int j u)) Q E s) :
  OpR X f (rI0 λi j => .int (g i j)):=by
 intro pins s σ H x y v u Q I rx ry h;obtain ⟨i,j,rfl,rfl,q⟩:=h;obtain ⟨t,rfl⟩:=rx;obtain ⟨t',rfl⟩:=ry;exact rule i j t t' s _ _ ⟨.int (g i j),H,I.tok _,⟨_,rfl⟩,q⟩
theorem jr{f:Value->Value->Sem Value}{g:Int->Int->Bool}
  (rule:∀ (i j:Int) (t u:Tok) (s:Shared) (Q:Value->Shared->Prop) (E:Value->Shared->Prop),Q (.bool (g i j)) s->wpAny (model X.prog X.w) X.A (f (.int i t) (.int j u)) Q E s) :
  OpR X f (rI0 λi j => .bl (g i j)):=by
 intro pins s σ H x y v u Q I rx ry h;obtain ⟨i,j,rfl,rfl,q⟩:=h;obtain ⟨t,rfl⟩:=rx;obtain ⟨t',rfl⟩:=ry;exact rule i j t t' s _ _ ⟨.bl (g i j),H,I,rfl,q⟩
noncomputable def ym(i j:Int):Prop:=0<=j/\j<=1000000/\i.natAbs < 2 ^ 64
noncomputable def CMul(i j:Int):Prop:=(-(2 ^ 64) < i/\i < 2 ^ 64)\/(-(2 ^ 64) < j/\j < 2 ^ 64)
theorem CMul.ok{i j:Int}(h:CMul i j):IntMulOk i j:=by
 rcases h with ⟨h1,h2⟩ | ⟨h1,h2⟩
 .exact .of_left (intBits_le_64 h1 h2)
 .exact .of_right (intBits_le_64 h1 h2)
theorem iJ:OpR X (binaryOp .Add) (rI0 λi j => .int (i+j)):=yc λ_ _ _ _ _ _ _ q=>add_int q
theorem iK:OpR X (binaryOp .Sub) (rI0 λi j => .int (i - j)):=yc λ_ _ _ _ _ _ _ q=>sub_int q
theorem Ca:OpR X (binaryOp .Mod) (rI (λ_ j=>j≠0) λi j => .int (i.fmod j)):=opI λ_ _ _ _ _ _ _ hc q=>mod_int' hc q
theorem GD:OpR X (binaryOp .Pow) (rI ym λi j => .int (i ^ j.toNat)):=opI λ_ _ _ _ _ _ _ hc q=>pow_int_small hc.1 hc.2.1 hc.2.2 q
theorem unI{f:Value->Sem Value}{g:Int->Int}
  (rule:∀ (i:Int) (t:Tok) (s:Shared) (Q:Value->Shared->Prop) (E:Value->Shared->Prop),Q (.int (g i) s.toks) { s with toks:=s.toks+1 }->wpAny (model X.prog X.w) X.A (f (.int i t)) Q E s) :
  UnR X f (rU λi => .int (g i)):=by
 intro pins s σ H x v Q I rx h;obtain ⟨i,rfl,q⟩:=h;obtain ⟨t,rfl⟩:=rx;exact rule i t s _ _ ⟨.int (g i),H,I.tok _,⟨_,rfl⟩,q⟩
theorem rR:UnR X (unaryOp .USub) (rU λi => .int (-i)):=unI λ_ _ _ _ _ q=>neg_int q
end
noncomputable def JT:V->V->Bool
 | .non,.non=>true | .non,.int _=>true | .int _,.non=>true | .non,.bl _=>true | .bl _,.non=>true | .non,.str _=>true | .str _,.non=>true
 | .int _,.int _=>true | .bl _,.bl _=>true | .str _,.str _=>true | .byt _,.byt _=>true
 | .int _,.str _=>true | .str _,.int _=>true | .bl _,.str _=>true | .str _,.bl _=>true
 | _,_=>false
noncomputable def rNe:R2:=λx y H Q=>JT x y=true/\Q (.bl (!decide (x=y))) H
theorem qJ{i j:Int}:decide (V.int i=V.int j)=(i == j):=by
 rw [Bool.eq_iff_iff];simp
theorem tw{i j:Bool}:decide (V.bl i=V.bl j)=(i == j):=by
 rw [Bool.eq_iff_iff];simp
theorem qY{i j:Str}:decide (V.str i=V.str j)=(i == j):=by
 rw [Bool.eq_iff_iff];simp
theorem Ds{i j:Array UInt8}:decide (V.byt i=V.byt j)=(i.toList == j.toList):=by
 rw [Bool.eq_iff_iff];cases i;cases j;simp
section
variable{X:Cx}{a b c:Expr}{ta tb tc:TE}{pos:Pos}
theorem a7{pins:List (Addr×Obj)}{σ:St}{H:Hp}{s:Shared}{Q:VK}{k k':Bool}(I:Inv X pins σ H s)(q:Q (.bl k) H)(e:k=k'):EP X pins σ Q (.bool k') s:=by
 subst e;exact ⟨.bl k,H,I,rfl,q⟩
theorem HH:OpR X (compareOp .NotEq) rNe:=by
 intro pins s σ H x y v u Q I rx ry h;obtain ⟨hs,q⟩:=h;cases x with
 | non =>
  cases rx;cases y with
  | non=>cases ry;exact PySem.EqNone.ne_none_none (a7 I q (by simp))
  | bl j=>cases ry;exact PySem.EqNone.ne_none_bool (a7 I q (by simp))
  | int j=>obtain ⟨t',rfl⟩:=ry;exact PySem.EqNone.ne_none_int (a7 I q (by simp))
  | str j=>obtain ⟨t',rfl⟩:=ry;exact PySem.EqNone.ne_none_str (a7 I q (by simp))
  | _=>exact absurd (show false=true from hs) Kv
 | bl i =>
  cases rx;cases y with
  | non=>cases ry;exact PySem.EqNone.ne_bool_none (a7 I q (by simp))
  | bl j=>cases ry;exact ne_bool (a7 I q (congrArg not tw))
  | str j=>obtain ⟨t',rfl⟩:=ry;exact PySem.EqMixed.ne_bool_str (a7 I q (by simp))
  | _=>exact absurd (show false=true from hs) Kv
 | int i =>
  obtain ⟨t,rfl⟩:=rx;cases y with
  | non=>cases ry;exact PySem.EqNone.ne_int_none (a7 I q (by simp))
  | int j=>obtain ⟨t',rfl⟩:=ry;exact ne_int (a7 I q (congrArg not qJ))
  | str j=>obtain ⟨t',rfl⟩:=ry;exact PySem.EqMixed.ne_int_str (a7 I q (by simp))
  | _=>exact absurd (show false=true from hs) Kv
 | str i =>
  obtain ⟨t,rfl⟩:=rx;cases y with
  | non=>cases ry;exact PySem.EqNone.ne_str_none (a7 I q (by simp))
  | bl j=>cases ry;exact PySem.EqMixed.ne_str_bool (a7 I q (by simp))
  | int j=>obtain ⟨t',rfl⟩:=ry;exact PySem.EqMixed.ne_str_int (a7 I q (by simp))
  | str j=>obtain ⟨t',rfl⟩:=ry;exact ne_str (a7 I q (congrArg not qY))
  | _=>exact absurd (show false=true from hs) Kv
 | byt i =>
  obtain ⟨t,rfl⟩:=rx;cases y with
  | byt j=>obtain ⟨t',rfl⟩:=ry;exact PySem.W.ne_bytes (a7 I q (congrArg not Ds))
  | _=>exact absurd (show false=true from hs) Kv
 | _=>cases y <;> exact absurd (show false=true from hs) Kv
theorem HD:OpR X (compareOp .Lt) (rI0 λi j => .bl (decide (i < j))):=jr λ_ _ _ _ _ _ _ q=>lt_int q
theorem HU:OpR X (compareOp .LtE) (rI0 λi j => .bl (decide (i<=j))):=jr λ_ _ _ _ _ _ _ q=>le_int q
theorem HN:OpR X (compareOp .Gt) (rI0 λi j => .bl (decide (j < i))):=jr λ_ _ _ _ _ _ _ q=>gt_int q
theorem Hw:OpR X (compareOp .GtE) (rI0 λi j => .bl (decide (j<=i))):=jr λ_ _ _ _ _ _ _ q=>ge_int q
theorem Fy:OpR X (compareOp .Is) (λx y H Q=>y=.non/\Q (.bl (decide (x=.non))) H):=by
 intro pins s σ H x y v u Q I rx ry h;obtain ⟨rfl,q⟩:=h;cases ry;refine is_none_gen (a7 I q ?_);cases x <;> first
  | (cases rx;rfl)
  | (obtain ⟨t,rfl⟩:=rx;rfl)
theorem Du:OpR X (compareOp .IsNot) (λx y H Q=>y=.non/\Q (.bl (!decide (x=.non))) H):=by
 intro pins s σ H x y v u Q I rx ry h;obtain ⟨rfl,q⟩:=h;cases ry;refine isnot_none_gen (a7 I q ?_);cases x <;> first
  | (cases rx;rfl)
  | (obtain ⟨t,rfl⟩:=rx;rfl)
theorem Cn{op:CmpOp}{r:R2}(ho:OpR X (compareOp op) r)(ha:PE X a ta)(hb:PE X b tb)(hm:behindInMarks op b=false):PE X (.Compare a [op] [b] pos) (tOp r ta tb):=by
 intro pins s σ H Q I h;exact wpAny_Compare1 (lL ha hb I h λv u s2 x y H2 I2 rx ry q=>ho pins s2 σ H2 x y v u Q I2 rx ry q) hm
noncomputable def xJ(t:TE):TT:=λσ H Q=>t σ H λx H' => ∃ k,x=.bl k/\Q k H'
theorem CF{op:CmpOp}{r:R2}(ho:OpR X (compareOp op) r)(ha:PE X a ta)(hb:PE X b tb)(hm:behindInMarks op b=false):PT X (.Compare a [op] [b] pos) (xJ (tOp r ta tb)):=by
 intro pins s σ H Q I h;refine wpAny_isTrue_Compare1 (thn (ha pins s σ H _ I h) λv s1 ⟨x,H1,I1,r1,q1⟩=>thn (hb pins s1 σ H1 _ I1 q1) λu s2 ⟨y,H2,I2,r2,q2⟩ =>
  thn (ho pins s2 σ H2 x y v u _ I2 r1 r2 q2) λc s3 ⟨z,H3,I3,r3,k,e,q3⟩ => ?_) hm
 subst e;cases r3;exact wpAny_truthy_bool ⟨H3,I3,q3⟩
noncomputable def kD(r r':R2)(ta tb tc:TE):TE:=λσ H Q=>ta σ H λx H1=>tb σ H1 λy H2=>r x y H2 λz H3 => ∃ k,z=.bl k /\
 (if k=true then tc σ H3 λw' H4=>r' y w' H4 Q else Q (.bl false) H3)
theorem Bk{op op':CmpOp}{r r':R2}(ho:OpR X (compareOp op) r)(ho':OpR X (compareOp op') r')(ha:PE X a ta)(hb:PE X b tb)(hc:PE X c tc)
  (hm:lastMarks [op,op'] [b,c]=false:=by with_unfolding_all rfl):PE X (.Compare a [op,op'] [b,c] pos) (kD r r' ta tb tc):=by
 intro pins s σ H Q I h;refine Compare_chain (thn (ha pins s σ H _ I h) λv s1 ⟨x,H1,I1,r1,q1⟩=>chain_link (thn (hb pins s1 σ H1 _ I1 q1) λu s2 ⟨y,H2,I2,r2,q2⟩ =>
  thn (ho pins s2 σ H2 x y v u _ I2 r1 r2 q2) λd s3 ⟨z,H3,I3,r3,k,e,q3⟩ => ?_)) hm
 subst e;cases r3;refine wpAny_truthy_bool ?_;cases k with
 | false=>exact ite_ff ⟨.bl false,H3,I3,rfl,q3⟩
 | true=>exact ite_tt (chain_last (thn (hc pins s3 σ H3 _ I3 q3) λw' s4 ⟨z',H4,I4,r4,q4⟩=>ho' pins s4 σ H4 y z' u w' Q I4 r2 r4 q4))
theorem AU{op op':CmpOp}{r r':R2}(ho:OpR X (compareOp op) r)(ho':OpR X (compareOp op') r')(ha:PE X a ta)(hb:PE X b tb)(hc:PE X c tc)
  (hm:lastMarks [op,op'] [b,c]=false:=by with_unfolding_all rfl):PT X (.Compare a [op,op'] [b,c] pos) (xJ (kD r r' ta tb tc)):=by
 intro pins s σ H Q I h;refine isTrue_chain (thn (ha pins s σ H _ I h) λv s1 ⟨x,H1,I1,r1,q1⟩=>test_link (thn (hb pins s1 σ H1 _ I1 q1) λu s2 ⟨y,H2,I2,r2,q2⟩ =>
  thn (ho pins s2 σ H2 x y v u _ I2 r1 r2 q2) λd s3 ⟨z,H3,I3,r3,k,e,q3⟩ => ?_)) hm
 subst e;cases r3;refine wpAny_truthy_bool ?_;cases k with
 | false =>
  obtain ⟨k',e',q'⟩:=q3;cases e';exact ite_ff ⟨H3,I3,q'⟩
 | true =>
  refine ite_tt (test_last (thn (hc pins s3 σ H3 _ I3 q3) λw' s4 ⟨z',H4,I4,r4,q4⟩=>thn (ho' pins s4 σ H4 y z' u w' _ I4 r2 r4 q4) λd' s5 ⟨z2,H5,I5,r5,k2,e2,q5⟩ => ?_));subst e2;cases r5;exact wpAny_truthy_bool ⟨H5,I5,q5⟩
noncomputable def jb(K:KD)(x:V)(H:Hp)(k:Bool):Prop :=
 match x with
 | .non=>k=false
 | .bl b=>k=b
 | .int i=>k=(i != 0)
 | .str y=>y.length<=sizeLine/\k=((y.length:Int) != 0)
 | .byt y=>y.size<=sizeLine/\k=((y.size:Int) != 0)
 | .ref p=>(∃ xs,SqL K H p xs/\k = !xs.isEmpty)\/(∃ xs,SqT K H p xs/\k = !xs.isEmpty) \/ ∃ kvs,H p=some (.dK kvs)/\k = !kvs.isEmpty
 | _=>False
theorem zZ{κ:Type}{kvs:List (κ×V)}{vs:List (κ×Value)}(r:KV kvs vs):(!vs.isEmpty) = !kvs.isEmpty:=by
 cases r <;> rfl
theorem nF{xs:List V}{its:List Value}(r:Vals xs its):(!its.toArray.isEmpty) = !xs.isEmpty:=by
 cases r <;> simp
theorem fU:(sizeLine:Nat) < 2 ^ 63:=by rw [sizeLine_eq];decide
theorem sA:Kl X (λx H Q => ∃ k,jb X.K x H k/\Q k H):=by
 intro pins s σ H x v Q I rx h;obtain ⟨k,e,q⟩:=h;have hl:=fU;have hs:sizeLine=16777216:=sizeLine_eq;cases x with
 | non =>
  cases rx;have e':k=false:=e;subst e';exact truthy_none ⟨H,I,q⟩
 | bl b =>
  cases rx;have e':k=b:=e;subst e';exact wpAny_truthy_bool ⟨H,I,q⟩
 | int i =>
  obtain ⟨t,rfl⟩:=rx;have e':k=(i != 0):=e;subst e';exact PySem.P.truthy_int ⟨H,I,q⟩
 | str y =>
  obtain ⟨t,rfl⟩:=rx;obtain ⟨hy,e'⟩:y.length<=sizeLine/\k=((y.length:Int) != 0):=e;subst e';exact PySem.P.truthy_str (by omega) ⟨H,I.tok _,q⟩
 | byt y =>
  obtain ⟨t,rfl⟩:=rx;obtain ⟨hy,e'⟩:y.size<=sizeLine/\k=((y.size:Int) != 0):=e;subst e';exact PySem.W.truthy_bytes (by omega) ⟨H,I.tok _,q⟩
 | ref p =>
  cases rx;have e':(∃ xs,SqL X.K H p xs/\k = !xs.isEmpty)\/(∃ xs,SqT X.K H p xs/\k = !xs.isEmpty) \/ ∃ kvs,H p=some (.dK kvs)/\k = !kvs.isEmpty:=e;rcases e' with ⟨xs,hx,e'⟩ | ⟨xs,hx,e'⟩ | ⟨kvs,hx,e'⟩
  .subst e'
   obtain ⟨its,r,pl,hz⟩:=I.list hx;have hlen:=r.length;exact wpAny_truthy_list pl.isList (by simp only [List.size_toArray];omega) ⟨H,I.tok _,by rw [nF r];exact q⟩
  .subst e'
   obtain ⟨its,r,pl,hz⟩:=I.tuple hx;have hlen:=r.length;exact truthy_tuple pl (by simp only [List.size_toArray];omega) ⟨H,I.tok _,by rw [nF r];exact q⟩
  .subst e'
   obtain ⟨hz,hS,vs,r,m⟩:kvs.length<=sizeLine/\(p == sysModules)=false /\ ∃ vs,KV kvs vs/\s.heap.DictOf (aP X.prog X.w) p vs:=I.hok p _ hx;have hlen:kvs.length=vs.length:=Paired.length r;exact wpAny_truthy_dict hS m (by omega) ⟨H,I.tok _,by rw [zZ r];exact q⟩
 | _=>exact (show False from e).elim
theorem Bo(ha:PE X a ta)(he:∀ whole,isTrue a X.env whole=(do let v <- whole;standAt a.pos;holding [v] (truthy v))):
  PT X a (λσ H Q=>ta σ H λx H' => ∃ k,jb X.K x H' k/\Q k H'):=by
 intro pins s σ H Q I h;exact isTrue_plain (thn (ha pins s σ H _ I h) λv s1 ⟨x,H1,I1,r1,q1⟩=>sA pins s1 σ H1 x v Q I1 r1 q1) (he _)
theorem vals1{x:V}{us:List Value}(r:Vals [x] us):∃ u,us=[u]/\RelV x u:=by
 cases r with
 | cons r1 r2=>cases r2;exact ⟨_,rfl,r1⟩
theorem call_abs:CallR X (.builtin "abs") (λxs H Q => ∃ i,xs=[.int i]/\Q (.int (if i < 0 then -i else i)) H):=by
 intro pins s σ H xs us Q I r h;obtain ⟨i,rfl,q⟩:=h;obtain ⟨u,rfl,t,rfl⟩:=vals1 r;exact call_abs_int λu tk=>⟨.int (if i < 0 then -i else i),H,I.tok _,⟨_,rfl⟩,q⟩
end
end L2
namespace L2
open PySem PySem.Spec PyProof.Rows
structure ObjM(h:Heap)(x dx C:Addr)(mA:Str->Option Value):Prop where
 obj:h.get? x=some (PySem.W.instObj C dx)
 ns:h.Ns1 dx mA
 ne:dx≠x
theorem Ac{h:Heap}{dx:Addr}{mA:Str->Option Value}(n:h.Ns1 dx mA):∃ od,h.get? dx=some od /\ ∀ name,PySem.W.lookIn name od=some (mA name):=by
 obtain ⟨o,es,ep,ho,hd,hk,_,hm⟩:=n;refine ⟨o,ho,λname => ?_⟩;have e:=hm name;unfold nsFind findBy at e;rw [<-Array.find?_toList] at e;unfold PySem.W.lookIn;rw [hd];dsimp only;split
 .rename_i y q
  rw [q] at e;exact congrArg some e
 .rename_i q
  rw [q] at e;have a:es.toList.any (·.refKey)=false:=by
   rw [List.any_eq_false];intro y hy;obtain ⟨z,t,hkey⟩:=hk y (Array.mem_toList_iff.mp hy);simp [DictEntry.refKey,hkey]
  have a' : ¬ es.toList.any (·.refKey)=true:=by rw [a];exact Kv
  rw [if_neg a'];exact congrArg some e
theorem ObjM.look{h:Heap}{x dx C:Addr}{mA:Str->Option Value}(I:ObjM h x dx C mA):∃ od,PySem.W.InstAt h x (PySem.W.instObj C dx) C (some od) /\ ∀ name,PySem.W.lookIn name od=some (mA name) :=
 let ⟨od,ho,hl⟩:=Ac I.ns
 ⟨od,⟨I.obj,rfl,rfl,ho⟩,hl⟩
section
variable{prog:Program}{w:World}{A:Around}{E:Value->Shared->Prop}{s:Shared}{K:KD}{x dx C f:Addr}{mA:Str->Option Value}{name:Str}{v:Value}
theorem get_map{expr:Bool}{Q:Value->Shared->Prop}(X:K.In s.heap)(I:ObjM s.heap x dx C mA)(hg:PySem.W.plainGet K C name=true)(hh:PySem.W.hasDictIn K C=true)
  (ha:PySem.W.findIn K (.ref C) name=some none) (hv:mA name=some v) (hv':PySem.W.handedIn v=true) (h:Q v { s with toks:=s.toks+1 }) :
  wpAny (model prog w) A (getAttr (.ref x) name expr) Q E s:=by
 obtain ⟨od,J,hl⟩:=I.look;exact PySem.W.get_value X J (PySem.W.plainGet_of hg).1 (PySem.W.findObj_own hh ha rfl (by rw [hl,hv])) hv' h
theorem A6{pl:Sem Bool}{Q:Value×List Value->Shared->Prop}(X:K.In s.heap)(I:ObjM s.heap x dx C mA)(hg:PySem.W.plainGet K C name=true)
  (hf:PySem.W.findIn K (.ref C) name=some (some (.ref f))) (ht:PySem.W.isFn K (.ref f)=true) (hv:mA name=none) (h:Q (.ref f,[.ref x]) s) :
  wpAny (model prog w) A (getMethod (.ref x) name pl) Q E s:=by
 obtain ⟨od,J,hl⟩:=I.look;exact PySem.W.method_fn X J (PySem.W.plainGet_of hg).1 (PySem.W.plainGet_of hg).2 hf (beq_iff_eq.mp ht) (by show (PySem.W.lookIn name od).map (·.isSome)=some false;rw [hl,hv];rfl) h
theorem C7{ns:List Str}{Q:Unit->Shared->Prop}(X:K.In s.heap)(I:ObjM s.heap x dx C mA)
  (hs:PySem.W.findIn K (.ref C) "__setattr__" = some (some (.builtin "object.__setattr__"))) (hp:PySem.W.plainOver K C=true) (ht:PySem.W.takerIn K C name=some none) (hh:PySem.W.hasDictIn K C=true)
  (hw:PySem.Within mA ns) (hsz:ns.length<=sizeLine)
  (h:∀ h',ObjM h' x dx C (λy=>if y=name then some v else mA y)->Heap.SameBut dx s.heap h'->Q () { s with heap:=h',toks:=s.toks+2 }) :
  wpAny (model prog w) A (setAttr (.ref x) name v) Q E s:=by
 obtain ⟨od,J,hl⟩:=I.look;refine PySem.W.set_plain X J hs (PySem.W.osa_open (s:={ s with toks:=s.toks+1 }) (r:=none) X J hp ht λb => ?_)
 obtain ⟨cd,hc,hd'⟩:=PySem.W.any_some hh;have hx:s.heap.get? x=some ⟨.ref C,some dx,.plain,#[]⟩:=I.obj;refine ZB (ZP (ZB (ZB (wpAny_loadPart hx (ZB (PySem.W.Looks.here (s:={ s with toks:=s.toks+1 }) (PySem.W.looks_clsIn X hc) ?_))))))
 rw [hd'];refine ZP (a:=some dx) (ZB (ZP (ZB ?_)));refine wpAny_nsSet1 (s:={ s with toks:=s.toks+1 }) I.ns λh' hn2 hs2 => ?_
 obtain ⟨oD,esD,epD,hoD,hdD,hcD⟩:=hn2.count (PySem.Within.cons name v hw);refine ZB (wpAny_lookBehind hoD (by rw [hdD];exact pastItsLine_dict (Ku hcD (by rw [List.length_cons];omega))) ?_)
 exact ZP (h _ ⟨(hs2.2 _ (Ne.symm I.ne)).trans I.obj,hn2,I.ne⟩ hs2)
theorem A8{R:Result->Shared->Prop}{vs:List Value}{kw:List (Str×Value)}(X:K.In s.heap)(hm:PySem.W.makesIn K C=true)
  (hi:PySem.W.findIn K (.ref C) "__init__" = some (some (.ref f))) (hf:PySem.W.typeIn K (.ref f)=some (.type "function"))
  (h:codeAny (model prog w) (A.under (.builtin "type.__call__" ⟨.ref C :: vs,kw⟩)) (.call (.ref f) ⟨.ref (s.heap.objs.size+1) :: vs,kw⟩) (PySem.W.InitBack (s.heap.objs.size+1) R)
   { s with heap:=(s.heap.push PySem.W.emptyDict).push (PySem.W.instObj C s.heap.objs.size) }) :
  codeAny (model prog w) A (.call (.ref C) ⟨vs,kw⟩) R s:=by
 obtain ⟨hh,g,d,t,os⟩:=s;exact PySem.W.make_core (PySem.W.makes_of X hm) (PySem.W.looks_findIn X hi) (λself=>PySem.W.bind_fn X self hf) (.inl rfl) h
end
noncomputable def aY(f:Str)(v:V):List (Str×V)->List (Str×V)
 | []=>[(f,v)]
 | (g,x) :: r=>if g=f then (g,v) :: r else (g,x) :: aY f v r
theorem mG(f g:Str)(v:V):∀ fs:List (Str×V),(aY f v fs).lookup g=if g=f then some v else fs.lookup g
 | []=>by
  show List.lookup g [(f,v)]=_;by_cases h:g=f
  .have hb:(g == f)=true:=beq_iff_eq.mpr h
   simp only [List.lookup,hb,if_pos h]
  .have hb:(g == f)=false:=beq_eq_false_iff_ne.mpr h
   simp only [List.lookup,hb,if_neg h]
 | (k,x) :: r=>by
  have ih:=mG f g v r;rw [show aY f v ((k,x) :: r)=(if k=f then (k,v) :: r else (k,x) :: aY f v r) from rfl]
  by_cases hk:k=f
  .rw [if_pos hk]
   by_cases h:g=k
   .have hb:(g == k)=true:=beq_iff_eq.mpr h
    simp only [List.lookup,hb,if_pos (h.trans hk)]
   .have hb:(g == k)=false:=beq_eq_false_iff_ne.mpr h
    simp only [List.lookup,hb,if_neg (λe:g=f=>h (e.trans hk.symm))]
  .rw [if_neg hk]
   by_cases h:g=k
   .have hb:(g == k)=true:=beq_iff_eq.mpr h
    simp only [List.lookup,hb,if_neg (λe:g=f=>hk (h.symm.trans e))]
   .have hb:(g == k)=false:=beq_eq_false_iff_ne.mpr h
    simp only [List.lookup,hb];exact ih
theorem jH(f:Str)(v:V):∀ fs:List (Str×V),f∈(aY f v fs).map (·.1) /\ ∀ g,g∈fs.map (·.1)->g∈(aY f v fs).map (·.1)
 | []=>⟨by simp [aY],λg h=>by simp at h⟩
 | (k,x) :: r=>by
  obtain ⟨i1,i2⟩:=jH f v r;rw [show aY f v ((k,x) :: r)=(if k=f then (k,v) :: r else (k,x) :: aY f v r) from rfl]
  by_cases hk:k=f
  .rw [if_pos hk]
   subst hk;exact ⟨by simp,λg h=>by simpa using h⟩
  .rw [if_neg hk]
   refine ⟨?_,λg h => ?_⟩
   .rw [List.map_cons]
    exact Kx _ i1
   .rw [List.map_cons] at h ⊢
    rcases List.mem_cons.mp h with e | e
    .exact List.mem_cons.mpr (.inl e)
    .exact Kx _ (i2 g e)
theorem mP(f:Str)(v:V):∀ fs:List (Str×V),(aY f v fs).length<=fs.length+1
 | []=>by simp [aY]
 | (k,x) :: r=>by
  have ih:=mP f v r;rw [show aY f v ((k,x) :: r)=(if k=f then (k,v) :: r else (k,x) :: aY f v r) from rfl]
  by_cases hk:k=f
  .rw [if_pos hk,List.length_cons,List.length_cons];omega
  .rw [if_neg hk,List.length_cons,List.length_cons];omega
theorem RelO.some_of{v:V}{o:Option Value}(r:RelO (some v) o):∃ u,o=some u/\RelV v u:=by
 cases o with
 | none=>exact (show False from r).elim
 | some u=>exact ⟨u,rfl,r⟩
theorem RelO.none_of{o:Option Value}(r:RelO none o):o=none:=by
 cases o with
 | none=>rfl
 | some u=>exact (show False from r).elim
theorem Av{v:V}{u:Value}(r:RelV v u):PySem.W.handedIn u=true:=by
 cases v with
 | non=>cases (show u=Value.none from r);rfl
 | bl b=>cases (show u=Value.bool b from r);rfl
 | int i=>obtain ⟨t,e⟩:=(show ∃ t,u=Value.int i t from r);cases e;rfl
 | str x=>obtain ⟨t,e⟩:=(show ∃ t,u=Value.str x t from r);cases e;rfl
 | byt b=>obtain ⟨t,e⟩:=(show ∃ t,u=Value.bytes b t from r);cases e;rfl
 | flt b=>obtain ⟨t,e⟩:=(show ∃ t,u=Value.float b t from r);cases e;rfl
 | ref a=>cases (show u=Value.ref a from r);rfl
 | ty n=>cases (show u=Value.type n from r);rfl
section
variable{P:Program}{w:World}{H H':Hp}{h h':Heap}{a C dx:Addr}{fs fs':List (Str×V)}
theorem jX(hok:HOk P w H h)(e:H a=some (.ins C dx fs)):∃ mA,ObjM h a dx C mA/\(∀ f,RelO (fs.lookup f) (mA f))/\PySem.Within mA (fs.map (·.1))/\fs.length<=1000/\H dx=some (.own a):=by
 obtain ⟨d,z,ne,ob,mA,n,r,q⟩:=(show ObjOk P w H h a (.ins C dx fs) from hok a _ e);exact ⟨mA,⟨ob,n,ne⟩,r,q,z,d⟩
end
structure Cls(K:KD)(C:Addr):Prop where
 pg:PySem.W.plainGet K C Str.empty=true
 hd:PySem.W.hasDictIn K C=true
 po:PySem.W.plainOver K C=true
 sa:PySem.W.findIn K (.ref C) "__setattr__" = some (some (.builtin "object.__setattr__"))
theorem Cls.get{K:KD}{C:Addr}(c:Cls K C)(f:Str):PySem.W.plainGet K C f=true:=c.pg
noncomputable def NoAttr(K:KD)(C:Addr)(f:Str):Prop:=PySem.W.findIn K (.ref C) f=some none
theorem NoAttr.taker{K:KD}{C:Addr}{f:Str}(n:NoAttr K C f):PySem.W.takerIn K C f=some none:=by
 unfold PySem.W.takerIn;rw [show PySem.W.findIn K (.ref C) f=some none from n]
 rfl
structure Con(K:KD)(C:Addr)(f:Str)(v:V)(u:Value):Prop where
 at_:PySem.W.findIn K (.ref C) f=some (some u)
 rel:RelV v u
 get:PySem.W.specialIn K u "__get__" = some none
 cp:PySem.W.copiedNames.contains f=false
structure Meth(K:KD)(C:Addr)(m:Str)(f:Addr):Prop where
 at_:PySem.W.findIn K (.ref C) m=some (some (.ref f))
 fn:PySem.W.isFn K (.ref f)=true
 kp:PySem.W.keepIn K (.ref f)=true
section
variable{X:Cx}{pins:List (Addr×Obj)}{σ:St}{H:Hp}{s:Shared}{a C dx:Addr}{fs:List (Str×V)}{f:Str}{v:V}{A:Around}{E:Value->Shared->Prop}
theorem zX{b:Bool}{Q:Value->Shared->Prop}(I:Inv X pins σ H s)(e:H a=some (.ins C dx fs))(c:Cls X.K C)(n:NoAttr X.K C f)(l:fs.lookup f=some v)
  (h:∀ u s',Inv X pins σ H s'->RelV v u->Q u s'):wpAny (model X.prog X.w) A (getAttr (.ref a) f b) Q E s:=by
 obtain ⟨mA,O,r,_,_,_⟩:=jX I.hok e;obtain ⟨u,hu,ru⟩:=RelO.some_of (v:=v) (o:=mA f) (by rw [<-l];exact r f)
 exact get_map I.kIn O (c.get f) c.hd n hu (Av ru) (h u _ (I.tok _) ru)
theorem zE{m:Str}{g:Addr}{pl:Sem Bool}{Q:Value×List Value->Shared->Prop}(I:Inv X pins σ H s)(e:H a=some (.ins C dx fs))(c:Cls X.K C)(k:Meth X.K C m g)(l:fs.lookup m=none)
  (h:Q (.ref g,[.ref a]) s):wpAny (model X.prog X.w) A (getMethod (.ref a) m pl) Q E s:=by
 obtain ⟨mA,O,r,_,_,_⟩:=jX I.hok e;have hn:mA m=none:=RelO.none_of (by rw [<-l];exact r m)
 exact A6 I.kIn O (c.get m) k.at_ k.fn hn h
theorem zT{y:V}{u:Value}{Q:Unit->Shared->Prop}(I:Inv X pins σ H s)(e:H a=some (.ins C dx fs))(c:Cls X.K C)(n:NoAttr X.K C f)(hl:fs.length < 1000)(ry:RelV y u)
  (h:∀ s',Inv X pins σ (upd H a (.ins C dx (aY f y fs))) s'->Q () s'):wpAny (model X.prog X.w) A (setAttr (.ref a) f u) Q E s:=by
 obtain ⟨mA,O,r,wi,_,ho⟩:=jX I.hok e;have hz:(fs.map (·.1)).length<=sizeLine:=by rw [List.length_map,sizeLine_eq];omega
 refine C7 I.kIn O c.sa c.po n.taker c.hd wi hz λh' O' sb=>h _ ?_;have hd:∃ o,h'.get? dx=some o:=let ⟨o,_,_,e',_⟩:=O'.ns;⟨o,e'⟩
 refine I.write (x:=a) (e:=dx) (by rw [e];exact True.intro) (.inr ho) (λb q hb z=>(sb.2 b hb).trans z) hd ?_
 refine ⟨by rw [ar O.ne];exact ho,?_,O.ne,O'.obj,_,O'.ns,λg => ?_,λg hg => ?_⟩
 .have:=mP f y fs;omega
 .show RelO ((aY f y fs).lookup g) (if g=f then some u else mA g)
  rw [mG];by_cases q:g=f
  .rw [if_pos q,if_pos q];exact ry
  .rw [if_neg q,if_neg q];exact r g
 .by_cases q:g=f
  .rw [q];exact (jH f y fs).1
  .refine (jH f y fs).2 g (wi g λz=>hg ?_)
   show (if g=f then some u else mA g)=none
   rw [if_neg q];exact z
theorem Inv.made(I:Inv X pins σ H s):Inv X pins σ (upd (upd H s.heap.objs.size (.own (s.heap.objs.size+1))) (s.heap.objs.size+1) (.ins C s.heap.objs.size []))
  { s with heap:=(s.heap.push PySem.W.emptyDict).push (PySem.W.instObj C s.heap.objs.size) }:=by
 have e1:(s.heap.push PySem.W.emptyDict).get? s.heap.objs.size=some PySem.W.emptyDict:=KA s.heap rfl;have e2:((s.heap.push PySem.W.emptyDict).push (PySem.W.instObj C s.heap.objs.size)).get? (s.heap.objs.size+1)=some (PySem.W.instObj C s.heap.objs.size):=by
  have:=KA (s.heap.push PySem.W.emptyDict) (o:=PySem.W.instObj C s.heap.objs.size) rfl;rwa [Heap.size_push] at this
 have e3:(s.heap.push PySem.W.emptyDict).Ns s.heap.objs.size (λ_=>none):=⟨PySem.W.emptyDict,#[],_,e1,rfl,(λe he=>absurd he (by simp)),λ_=>rfl⟩
 have I1:=I.laid (a:=s.heap.objs.size) (o := .own (s.heap.objs.size+1)) (h':=s.heap.push PySem.W.emptyDict) (t':=s.toks) (λb u q=>Ks _ q) (Kw _) ⟨_,e1⟩;refine I1.laid (a:=s.heap.objs.size+1) (o := .ins C s.heap.objs.size []) (t':=s.toks) (λb u q=>Ks _ q) (Nat.le_of_eq (Heap.size_push _ _)) ?_;have ne:s.heap.objs.size≠s.heap.objs.size+1:=Kz (Nat.lt_succ_self _);refine ⟨by rw [ar ne,upd_same],Nat.zero_le _,ne,e2,λ_=>none,(Heap.Ns1.of_empty e3).at λo q=>Ks _ q,λ_=>True.intro,λy hy=>absurd rfl hy⟩
theorem Dw{prog:Program}{w:World}{env:Env}{e:Expr}{f:Str}{pos:Pos}{s:Shared}{Q:Value->Shared->Prop}(hb:attributeBase e f env (eval e env)=eval e env)
  (h:wpAny (model prog w) A (eval e env) (λo s₁ => wpAny (model prog w) A (getAttr o f true) Q E s₁) E s):wpAny (model prog w) A (eval (.Attribute e f pos) env) Q E s :=
 Attribute_any_ h (by rw [arm_eval_Attribute,hb])
end
noncomputable def Ka(K:KD)(ta:TE)(f:Str):TE:=λσ H Q=>ta σ H λx H1 => ∃ a C dx fs v,x=.ref a/\H1 a=some (.ins C dx fs)/\Cls K C/\NoAttr K C f/\fs.lookup f=some v/\Q v H1
noncomputable def JZ(K:KD)(ta tv:TE)(f:Str):TS:=λD σ H=>tv σ H λy H1=>ta σ H1 λx H2 => ∃ a C dx fs,x=.ref a/\H2 a=some (.ins C dx fs)/\Cls K C/\NoAttr K C f/\fs.length < 1000 /\
 D.nx σ (upd H2 a (.ins C dx (aY f y fs)))
section
variable{X:Cx}{o e value:Expr}{f:Str}{pos pos' tpos:Pos}{ta tv:TE}
theorem Gw(he:PE X e ta)(hb:attributeBase e f X.env (eval e X.env)=eval e X.env):PE X (.Attribute e f pos) (Ka X.K ta f):=by
 intro pins s σ H Q I h;refine Dw hb (thn (he pins s σ H _ I h) λu s1 ⟨x,H1,I1,rx,a,C,dx,fs,v,ex,ea,c,n,l,q⟩ => ?_);subst ex;obtain rfl:u=Value.ref a:=rx;exact zX I1 ea c n l λu' s2 I2 ru=>⟨v,H1,I2,ru,q⟩
theorem Gk(ha:PE X o ta)(hv:PE X value tv)(hs:swapsWith value (some (.Attribute o f pos')) pos.line X.env=pure false):PS X (.Assign [.Attribute o f pos'] value pos) (JZ X.K ta tv f):=by
 intro pins s σ H D I h;refine plainObj_wpAny_Assign_Attribute (thn (hv pins s σ H _ I h) λu s1 ⟨y,H1,I1,ry,q⟩=>thn (ha pins s1 σ H1 _ I1 q) λov s2 ⟨x,H2,I2,rx,a,C,dx,fs,ex,ea,c,n,l,q2⟩ => ?_) hs;subst ex;obtain rfl:ov=Value.ref a:=rx;exact zT I2 ea c n l ry λs3 I3=>⟨σ,_,I3,q2⟩
end
section
variable{X:Cx}{pins:List (Addr×Obj)}{σ:St}{H:Hp}{s:Shared}{A:Around}{E:Value->Shared->Prop}{Q:Value->Shared->Prop}{c:Value}{b:Bool}
inductive TyOf(K:KD)(H:Hp):V->Value->Prop where
 | non:TyOf K H .non (.type "NoneType")
 | bl (x:Bool):TyOf K H (.bl x) (.type "bool")
 | int (i:Int):TyOf K H (.int i) (.type "int")
 | str (x:Str):TyOf K H (.str x) (.type "str")
 | flt (x:UInt64):TyOf K H (.flt x) (.type "float")
 | lst {a:Addr} {xs:List V} (e:H a=some (.lst xs)):TyOf K H (.ref a) (.type "list")
 | frz {a:Addr} {o:Obj} {xs:List V} (e:H a=some (.frz o (.lst xs))):TyOf K H (.ref a) (.type "list")
 | tup {a:Addr} {xs:List V} (e:H a=some (.tup xs)):TyOf K H (.ref a) (.type "tuple")
 | dK {a:Addr} {kvs:List (Key×V)} (e:H a=some (.dK kvs)):TyOf K H (.ref a) (.type "dict")
 | dT {a:Addr} {kvs:List (List Key×V)} (e:H a=some (.dT kvs)):TyOf K H (.ref a) (.type "dict")
 | ins {a C dx:Addr} {fs:List (Str×V)} (e:H a=some (.ins C dx fs)) (cl:Cls K C) (ha:PySem.W.findIn K (.ref C) "__class__" = some (some (.builtin "object.__class__")))
   (hn:PySem.W.specialIn K (.builtin "object.__class__") "__get__" = some (some (.builtin "getset_descriptor.__get__"))) (htk:PySem.W.takesIn K (.builtin "object.__class__")=some true)
   (hm:PySem.W.mroIn K C (.type "object")=some true):TyOf K H (.ref a) (.ref C)
end
end L2
namespace L2
open PySem PySem.Spec PyProof.Rows
structure Room(k:Nat)(A:Around):Prop where
 hd:A.handled=none
 dp:A.depth+3*k+5 < recursionLimit
 un:A.units+16*k+200 < cLine
theorem Room.deeper{k:Nat}{A:Around}(r:Room (k+1) A)(env:Env):Room k (A.deeper env) :=
 ⟨r.hd,by have:=r.dp;show A.depth+1+3*k+5 < _;omega,by have:=r.un;show A.units+3+16*k+200 < _;omega⟩
theorem zW{A:Around}{C:Addr}{us:List Value}{kw:List (Str×Value)}:(A.under (.builtin "type.__call__" ⟨.ref C :: us,kw⟩)).depth=A.depth+1:=by
 first | rfl | simp [Around.under,Code.weight,Code.isCreation,Code.isGuard,Code.isCaller,Code.frames,Code.isFrame,guardIds]
theorem z6{A:Around}{C:Addr}{us:List Value}{kw:List (Str×Value)}:(A.under (.builtin "type.__call__" ⟨.ref C :: us,kw⟩)).units=A.units+1:=by
 first | rfl | simp [Around.under,Code.cUnits,Code.frames,Code.isFrame]
theorem Room.make{k:Nat}{A:Around}(r:Room (k+1) A)(C:Addr)(us:List Value)(kw:List (Str×Value)):Room k (A.under (.builtin "type.__call__" ⟨.ref C :: us,kw⟩)) :=
 ⟨r.hd,by have:=r.dp;rw [zW];omega,by have:=r.un;rw [z6];omega⟩
theorem Room.depth{k:Nat}{A:Around}(r:Room k A):A.depth < recursionLimit:=by have:=r.dp;omega
theorem Room.units{k:Nat}{A:Around}(r:Room k A):A.units+64 < cLine:=by have:=r.un;omega
noncomputable def lh:TA:=λ_ H Q=>Q [] H
noncomputable def xo(ta:TE)(tr:TA):TA:=λσ H Q=>ta σ H λx H1=>tr σ H1 λxs H2=>Q (x :: xs) H2
section
variable{X:Cx}{e:Expr}{es:List Expr}{te:TE}{t:TA}{pos:Pos}
theorem eF:PA X [] lh:=λ_ _ _ _ H Q I h=>Calls.spliced_nil ⟨[],H,I,.nil,h⟩
theorem cS(ha:PE X e te)(hr:PA X es t)(hs:starEach (e :: es) X.env=(false,eval e X.env) :: starEach es X.env:=by rfl):PA X (e :: es) (xo te t):=by
 intro pos pins s σ H Q I h;rw [hs];show wpAny _ _ (spliced ((false,eval e X.env) :: backTo pos (starEach es X.env))) _ _ s;refine Calls.spliced_cons (thn (ha pins s σ H _ I h) λu s1 ⟨x,H1,I1,r1,q1⟩ => ?_);exact thn (hr pos pins s1 σ H1 _ I1 q1) λus s2 ⟨xs,H2,I2,r2,q2⟩=>⟨x :: xs,H2,I2,.cons r1 r2,q2⟩
noncomputable def Kd(t:TA):TE:=λσ H Q=>t σ H λxs H1=>xs.length<=sizeLine /\ ∀ p,H1 p=none->Q (.ref p) (upd H1 p (.tup xs))
noncomputable def J0(t:TA):TE:=λσ H Q=>t σ H λxs H1=>xs.length<=sizeLine /\ ∀ p,H1 p=none->Q (.ref p) (upd H1 p (.lst xs))
theorem Fo{x1}(h:PA X es t):PE X (.Tuple es x1 pos) (Kd t):=by
 intro pins s σ H Q I hq;refine wpAny_Tuple_spliced (thn (h pos pins s σ H _ I hq) λus s1 ⟨xs,H1,I1,r,z,q⟩=>⟨by rw [<-r.length];exact z,?_⟩)
 have hf:H1 s1.heap.objs.size=none:=I1.hok.fresh (Kw _);refine ⟨.ref s1.heap.objs.size,upd H1 s1.heap.objs.size (.tup xs),I1.laid (t':=s1.toks) (λb u e=>Ks _ e) (Kw _) ?_,rfl,q _ hf⟩;exact ⟨z,us,r,⟨_,KA _ rfl,rfl,_,rfl⟩⟩
theorem FL(h:PA X es t):PE X (.List es pos) (J0 t):=by
 intro pins s σ H Q I hq;refine wpAny_List_spliced (thn (h pos pins s σ H _ I hq) λus s1 ⟨xs,H1,I1,r,z,q⟩=>⟨by rw [<-r.length];exact z,?_⟩)
 have hf:H1 s1.heap.objs.size=none:=I1.hok.fresh (Kw _);refine ⟨.ref s1.heap.objs.size,upd H1 s1.heap.objs.size (.lst xs),I1.laid (t':=s1.toks) (λb u e=>Ks _ e) (Kw _) ?_,rfl,q _ hf⟩;exact ⟨z,us,0,r,KA _ rfl⟩
end
noncomputable abbrev Sp:=List V->Hp->VK->XK->Prop
noncomputable abbrev CXT:=List Env->Hp->Shared->XK->Value->Shared->Prop
structure Env0(P:Program)(w:World)(K:KD)(mg:Str->Option Value)(base:Heap)(A:Around)(outer:List Env)(s:Shared)(H:Hp):Prop where
 frames:A.frames=some outer
 mod:Mod K mg base
 bs:∀ b o,base.get? b=some o->s.heap.get? b=some o/\H b=none
 bsz:base.objs.size<=s.heap.objs.size
 funs:s.heap.FunFrames base outer
 frf:∀ b∈frs outer,H b=none
 hok:HOk P w H s.heap
 bare:AllBare s.gens
noncomputable def CE(outer:List Env)(P:Program)(w:World)(H:Hp)(s:Shared)(Q:VK)(u:Value)(s':Shared):Prop :=
 ∃ v H',s'.os=s.os/\AllBare s'.gens/\Un (frs outer) [] H H' s.heap s'.heap/\HOk P w H' s'.heap/\RelV v u/\Q v H'
noncomputable def CR(CX:CXT)(outer:List Env)(P:Program)(w:World)(H:Hp)(s:Shared)(Q:VK)(E:XK)(r:Result)(s':Shared):Prop :=
 match r with
 | .ok (.ret u)=>CE outer P w H s Q u s'
 | .ok _=>False
 | .error e=>CX outer H s E e s'
structure FnOk(P:Program)(w:World)(K:KD)(mg:Str->Option Value)(base:Heap)(CX:CXT)(k:Nat)(f:Addr)(fd:FuncData)(ps:List Str)(sp:Sp):Prop where
 len:∀ vs H Q E,sp vs H Q E->vs.length=ps.length
 run:∀ (A:Around) (outer:List Env) (s:Shared) (H:Hp) (args:Args) (us:List Value) (vs:List V) (Q:VK) (E:XK),Room k A->Env0 P w K mg base A outer s H->BindsTo s fd args (ps.zip us)->Vals vs us->sp vs H Q E ->
  codeAny (model P w) A (.call (.ref f) args) (CR CX outer P w H s Q E) s
theorem Env0.make{P:Program}{w:World}{K:KD}{mg:Str->Option Value}{base:Heap}{A:Around}{outer:List Env}{s:Shared}{H:Hp}(e:Env0 P w K mg base A outer s H)(C:Addr)(us:List Value)(kw:List (Str×Value)):
  Env0 P w K mg base (A.under (.builtin "type.__call__" ⟨.ref C :: us,kw⟩)) outer s H:=⟨by first | exact e.frames | (simpa [Around.under,Code.envs,Code.isFrame,pushEnvs] using e.frames),e.mod,e.bs,e.bsz,e.funs,e.frf,e.hok,e.bare⟩
section
variable{X:Cx}{pins:List (Addr×Obj)}{σ:St}{H:Hp}{s s':Shared}
theorem Inv.env0(I:Inv X pins σ H s):Env0 X.prog X.w X.K X.mg X.base X.A X.stack s H :=
 ⟨I.ok.frames,I.ok.mod,I.bs,Ku I.ok.bsz I.sz,I.stack,I.stkFree,I.hok,I.bare⟩
theorem Inv.after{Q:VK}{u:Value}(I:Inv X pins σ H s)(h:CE X.stack X.prog X.w H s Q u s'):EP X pins σ Q u s':=by
 obtain ⟨v,H',os,bare,un,hok,r,q⟩:=h;obtain ⟨hh,g,d,t,os'⟩:=s';obtain rfl:os'=s.os:=os;exact ⟨v,H',I.call (h':=hh) (g':=g) (d':=d) (t':=t) (ch:=[]) un hok bare (λb z=>absurd z (by simp)),r,q⟩
end
noncomputable def vI(sp:Sp)(dvs:List V)(E:XK)(t:TA):TE:=λσ H Q=>t σ H λvs H1=>sp (vs++dvs) H1 Q E
noncomputable def Binds(K:KD)(fd:FuncData)(ps:List Str)(ds:List Value):Prop :=
 ∀ (s:Shared) (us:List Value),K.In s.heap->(us++ds).length=ps.length->BindsTo s fd ⟨us,[]⟩ (ps.zip (us++ds))
theorem Binds.all{K:KD}{fd:FuncData}{ps:List Str}(h:∀ us:List Value,us.length=ps.length->bindArgs fd ⟨us,[]⟩=pure (ps.zip us)):Binds K fd ps []:=λs us _ hl=>by
 rw [List.append_nil] at hl ⊢;exact .of_eq (h us hl)
noncomputable def bZ(CX:CXT)(X:Cx)(E:XK):Prop := ∀ (pins:List (Addr×Obj)) (σ:St) (H:Hp) (s:Shared) (e:Value) (s':Shared),Inv X pins σ H s->CX X.stack H s E e s'->X.xe e s'
section
variable{X:Cx}{CX:CXT}{k:Nat}{f C:Addr}{fd:FuncData}{ps:List Str}{sp:Sp}{dvs:List V}{ds:List Value}{E:XK}{x m:Str}{p pos apos:Pos}{e o:Expr}{es:List Expr}{ta:TE}{t:TA}
theorem uk{pins:List (Addr×Obj)}{σ:St}{H:Hp}{s:Shared}{Q:VK}{us:List Value}{vs:List V}(F:FnOk X.prog X.w X.K X.mg X.base CX k f fd ps sp)(hr:Room k X.A)(hb:Binds X.K fd ps ds)(hd:Vals dvs ds)(hx:bZ CX X E)
  (I:Inv X pins σ H s) (r:Vals vs us) (h:sp (vs++dvs) H Q E):wpAny (model X.prog X.w) X.A (call (.ref f) us) (EP X pins σ Q) X.xe s:=by
 have r2:Vals (vs++dvs) (us++ds):=r.append hd;have hl:(us++ds).length=ps.length:=by rw [<-r2.length];exact F.len _ _ _ _ h
 refine wpAny_call (codeAny_mono (F.run X.A X.stack s H ⟨us,[]⟩ (us++ds) (vs++dvs) Q E hr I.env0 (hb s us I.kIn hl) r2 h) λr s' hq => ?_);cases r with
 | error e=>exact hx pins σ H s e s' I hq
 | ok fl =>
  cases fl with
  | ret u=>exact I.after hq
  | next=>exact False.elim hq
  | brk=>exact False.elim hq
  | cont=>exact False.elim hq
theorem DC(F:FnOk X.prog X.w X.K X.mg X.base CX k f fd ps sp)(hr:Room k X.A)(hg:Gl X x)(hm:X.mg x=some (.ref f))(hk:PySem.W.keepIn X.K (.ref f)=true)(hb:Binds X.K fd ps ds)(hd:Vals dvs ds)(hx:bZ CX X E)
  (ha:PA X (e :: es) t) (hdb:(x == ("__debug__" : Str))=false:=by decide) (he:starEach (e :: es) X.env=(false,eval e X.env) :: starEach es X.env:=by rfl) (hpl:(backTo pos (starEach es X.env)).any (·.1)=false:=by rfl) :
  PE X (.Call (.Name x p) (e :: es) [] pos) (vI sp dvs E t):=by
 intro pins s σ H Q I h;refine wpAny_Call_Name_kw (eB I hg hm ?_ hdb);refine PySem.W.callWith_K (h₀ := X.base) I.ok.mod.kin hk (thn (ha pos pins s σ H _ I h) λus s1 ⟨vs,H1,I1,r,q⟩=>⟨I1.kIn,?_⟩) he hpl;exact uk F hr hb hd hx I1 r q
theorem AR(F:FnOk X.prog X.w X.K X.mg X.base CX k f fd ps sp)(hr:Room k X.A)(hg:Gl X x)(hm:X.mg x=some (.ref f))(hk:PySem.W.keepIn X.K (.ref f)=true)(hb:Binds X.K fd ps ds)(hd:Vals dvs ds)(hx:bZ CX X E)
  (hdb:(x == ("__debug__" : Str))=false:=by decide):PE X (.Call (.Name x p) [] [] pos) (vI sp dvs E lh):=by
 intro pins s σ H Q I h;refine wpAny_Call_Name_kw (eB I hg hm ?_ hdb);exact PySem.W.callWith_K0 I.kIn hk (uk (us:=[]) F hr hb hd hx I .nil h)
structure Mk(K:KD)(C f:Addr):Prop where
 makes:PySem.W.makesIn K C=true
 init:PySem.W.findIn K (.ref C) "__init__" = some (some (.ref f))
 fn:PySem.W.isFn K (.ref f)=true
 kp:PySem.W.keepIn K (.ref C)=true
end
noncomputable def PK(X:Cx)(kws:List Keyword)(t:TA):Prop :=
 ∀ (pos:Pos) (pins:List (Addr×Obj)) (s:Shared) (σ:St) (H:Hp) (Q:List V->Hp->Prop),Inv X pins σ H s->t σ H Q->wpAny (model X.prog X.w) X.A (evalAll ((backToKw pos (keywordEach kws X.env)).map (·.2))) (AP X pins σ Q) X.xe s
section
variable{X:Cx}{CX:CXT}{k:Nat}{f C:Addr}{fd:FuncData}{ps ks:List Str}{sp:Sp}{E:XK}{x m:Str}{p pos apos kpos:Pos}{e o:Expr}{es:List Expr}{kws:List Keyword}{te ta:TE}{t tk:TA}{nm:Option Str}
theorem GS:PK X [] lh:=λ_ _ _ _ H Q I h=>wpAny_evalAll_nil ⟨[],H,I,.nil,h⟩
theorem Cw(ha:PE X e te)(hr:PK X kws t):PK X (⟨nm,e,kpos⟩ :: kws) (xo te t):=by
 intro pos pins s σ H Q I h;show wpAny _ _ (evalAll ((do let v <- eval e X.env;standAt pos;pure v) :: (backToKw pos (keywordEach kws X.env)).map (·.2))) _ _ s
 refine wpAny_evalAll_cons (ZB (thn (ha pins s σ H _ I h) λu s1 ⟨x,H1,I1,r1,q1⟩=>ZB (wpAny_standAt (ZP ?_))));exact thn (hr pos pins s1 σ H1 _ I1 q1) λus s2 ⟨xs,H2,I2,r2,q2⟩=>⟨x :: xs,H2,I2,.cons r1 r2,q2⟩
structure KBinds(K:KD)(fd:FuncData)(ps ks:List Str)(g:List Value->List Value->List Value)(gV:List V->List V->List V):Prop where
 to:∀ (s:Shared) (us ws:List Value),K.In s.heap->(g us ws).length=ps.length->BindsTo s fd ⟨us,ks.zip ws⟩ (ps.zip (g us ws))
 rel:∀ {vs:List V} {us:List Value} {zs:List V} {ws:List Value},Vals vs us->Vals zs ws->Vals (gV vs zs) (g us ws)
noncomputable def tO(sp:Sp)(gV:List V->List V->List V)(E:XK)(t tk:TA):TE:=λσ H Q=>t σ H λvs H1=>tk σ H1 λzs H2=>sp (gV vs zs) H2 Q E
variable{g:List Value->List Value->List Value}{gV:List V->List V->List V}
theorem ie{pins:List (Addr×Obj)}{σ:St}{H:Hp}{s:Shared}{Q:VK}{us ws:List Value}{vs zs:List V}(F:FnOk X.prog X.w X.K X.mg X.base CX k f fd ps sp)(hr:Room k X.A)(hb:KBinds X.K fd ps ks g gV)(hx:bZ CX X E)
  (I:Inv X pins σ H s) (r:Vals vs us) (rz:Vals zs ws) (h:sp (gV vs zs) H Q E):wpAny (model X.prog X.w) X.A (call (.ref f) us (ks.zip ws)) (EP X pins σ Q) X.xe s:=by
 have r2:=hb.rel r rz;have hl:(g us ws).length=ps.length:=by rw [<-r2.length];exact F.len _ _ _ _ h
 refine wpAny_call (codeAny_mono (F.run X.A X.stack s H ⟨us,ks.zip ws⟩ (g us ws) (gV vs zs) Q E hr I.env0 (hb.to s us ws I.kIn hl) r2 h) λr s' hq => ?_);cases r with
 | error e=>exact hx pins σ H s e s' I hq
 | ok fl =>
  cases fl with
  | ret u=>exact I.after hq
  | next=>exact False.elim hq
  | brk=>exact False.elim hq
  | cont=>exact False.elim hq
theorem Bc(F:FnOk X.prog X.w X.K X.mg X.base CX k f fd ps sp)(hr:Room k X.A)(hg:Gl X x)(hm:X.mg x=some (.ref f))(hk:PySem.W.keepIn X.K (.ref f)=true)(hb:KBinds X.K fd ps ks g gV)(hx:bZ CX X E)
  (ha:PA X (e :: es) t) (hkw:PK X kws tk) (hall:(backToKw pos (keywordEach kws X.env)).all (·.1.isSome)=true:=by rfl) (hks:(backToKw pos (keywordEach kws X.env)).filterMap (·.1)=ks:=by rfl)
  (hdb:(x == ("__debug__" : Str))=false:=by decide) (he:starEach (e :: es) X.env=(false,eval e X.env) :: starEach es X.env:=by rfl)
  (hpl:((backTo pos (starEach (e :: es) X.env)).any (·.1) || (backToKw pos (keywordEach kws X.env)).any (·.1.isNone))=false:=by rfl) :
  PE X (.Call (.Name x p) (e :: es) kws pos) (tO sp gV E t tk):=by
 intro pins s σ H Q I h;refine wpAny_Call_Name_kw (eB I hg hm ?_ hdb);refine PySem.W.callWith_KW (h₀ := X.base) I.ok.mod.kin hk hall (thn (ha pos pins s σ H _ I h) λus s1 ⟨vs,H1,I1,r,q⟩ => ?_) hpl he;refine thn (hkw pos pins s1 σ H1 _ I1 q) λws s2 ⟨zs,H2,I2,rz,q2⟩=>⟨I2.kIn,?_⟩;rw [hks];exact ie F hr hb hx I2 r rz q2
end
structure FnScope(N P:List Str)(sc:Scope):Prop where
 kind:sc.kind=.function
 co:sc.isCoroutine=false
 gen:sc.isGenerator=false
 nd:N.Nodup
 pre:N.take P.length=P
 par:∀ x∈P,sc.names.lookup x=some .local\/sc.names.lookup x=some .cell
 nofree:∀ y∈sc.names,y.2 ≠ .free
theorem nY{kindOf:Str->Option NameKind}{x:Str}:∀ {binds:List (Str×Value)} {m:Str->Option Value},(∀ v,(x,v) ∉ binds)->bindL kindOf binds m x=m x
 | [],_,_=>rfl
 | (n,v) :: r,m,h=>by
  unfold bindL;rw [nY λw hw=>h w (Kx _ hw)];split
  .have:x≠n:=by rintro rfl;exact h v List.mem_cons_self
   simp [this]
  .rfl
theorem nH{kindOf:Str->Option NameKind}{x:Str}:∀ {binds:List (Str×Value)} {m:Str->Option Value},(∀ v,(x,v) ∉ binds)->bindC kindOf binds m x=m x
 | [],_,_=>rfl
 | (n,v) :: r,m,h=>by
  unfold bindC;rw [nH λw hw=>h w (Kx _ hw)];split
  .rfl
  .have:x≠n:=by rintro rfl;exact h v List.mem_cons_self
   simp [this]
theorem n8{kindOf:Str->Option NameKind}{x:Str}{v:Value}:∀ {P:List Str} {vs:List Value} {i:Nat} {m:Str->Option Value},P.Nodup->P[i]? = some x->vs[i]? = some v->kindOf x=some .local ->
  bindL kindOf (P.zip vs) m x=some v
 | [],_,_,_,_,h,_,_=>by simp at h
 | _ :: _,[],_,_,_,_,h,_=>by simp at h
 | p :: P,w :: vs,0,m,nd,h1,h2,hk=>by
  simp at h1 h2;subst h1;subst h2;show bindL kindOf ((p,w) :: P.zip vs) m p=_;unfold bindL;rw [nY λv hv=>(List.nodup_cons.mp nd).1 (List.of_mem_zip hv).1,if_pos hk];simp
 | p :: P,w :: vs,i+1,m,nd,h1,h2,hk=>by
  show bindL kindOf ((p,w) :: P.zip vs) m x=_;unfold bindL;exact n8 (i:=i) (List.nodup_cons.mp nd).2 (by simpa using h1) (by simpa using h2) hk
theorem n6{kindOf:Str->Option NameKind}{x:Str}{v:Value}:∀ {P:List Str} {vs:List Value} {i:Nat} {m:Str->Option Value},P.Nodup->P[i]? = some x->vs[i]? = some v->kindOf x≠some .local ->
  bindC kindOf (P.zip vs) m x=some v
 | [],_,_,_,_,h,_,_=>by simp at h
 | _ :: _,[],_,_,_,_,h,_=>by simp at h
 | p :: P,w :: vs,0,m,nd,h1,h2,hk=>by
  simp at h1 h2;subst h1;subst h2;show bindC kindOf ((p,w) :: P.zip vs) m p=_;unfold bindC;rw [nH λv hv=>(List.nodup_cons.mp nd).1 (List.of_mem_zip hv).1,if_neg hk];simp
 | p :: P,w :: vs,i+1,m,nd,h1,h2,hk=>by
  show bindC kindOf ((p,w) :: P.zip vs) m x=_;unfold bindC;exact n6 (i:=i) (List.nodup_cons.mp nd).2 (by simpa using h1) (by simpa using h2) hk
noncomputable def start(N:List Str)(vs:List V):St:=vs.map some++List.replicate (N.length - vs.length) none
noncomputable def fh(CX:CXT)(P:Program)(w:World)(K:KD)(mg:Str->Option Value)(base:Heap)(N:List Str)(qual:Str)(scope:Scope)(f:Addr)(cd:Value)(A:Around)(outer:List Env)(s:Shared)(H:Hp)(E:XK):Cx where
 prog:=P
 w:=w
 K:=K
 mg:=mg
 base:=base
 A:=A.deeper (envOfC qual scope s.heap.objs.size f cd)
 N:=N
 s₀ := s
 H₀ := H
 env:=envOfC qual scope s.heap.objs.size f cd
 outer:=outer
 stack:=envOfC qual scope s.heap.objs.size f cd :: outer
 ex:=[]
 calm:=true
 fn:=λ_=>true
 pn:=[]
 xe:=λe s'=>wpAny (model P w) (A.deeper (envOfC qual scope s.heap.objs.size f cd)) (leaving (envOfC qual scope s.heap.objs.size f cd) e) (λ_ s''=>CX outer H s E e s'') (λe' s''=>CX outer H s E e' s'') s'
theorem oJ{sc:Scope}{n:Nat}{x:Str}(h:sc.names.lookup x=some .cell):∃ c,(cellsFrom n sc.names []).lookup x=some c:=by
 have q:=PySem.W.cellsFrom_some sc.names n [] (.inl h);exact Option.isSome_iff_exists.mp q
theorem Ar{CX:CXT}{P:Program}{w:World}{K:KD}{mg:Str->Option Value}{base:Heap}{N ps:List Str}{qual:Str}{scope:Scope}{f:Addr}{cd:Value}{A:Around}{outer:List Env}{s s1:Shared}{H:Hp}{E:XK}{us:List Value}{vs:List V}
  (S:FnScope N ps scope) (hd:A.handled=none) (e0:Env0 P w K mg base A outer s H) (hl:vs.length=ps.length) (r:Vals vs us)
  (x:InCallC s s.heap.objs.size (bindL (envOfC qual scope s.heap.objs.size f cd).kindOf (ps.zip us) λ_=>none) (cellsFrom (s.heap.objs.size+1) scope.names []) (bindC (envOfC qual scope s.heap.objs.size f cd).kindOf (ps.zip us) λ_=>none) s1) :
  Inv (fh CX P w K mg base N qual scope f cd A outer s H E) [] (start N vs) H s1:=by
 have hpl:ps.length<=N.length:=by have:=congrArg List.length S.pre;rw [List.length_take] at this;omega
 obtain ⟨h1,tk,rfl,hk⟩:=x.done;have noA:∀ b:Addr,b ∉ (fh CX P w K mg base N qual scope f cd A outer s H E).ex:=λb z=>absurd (show b∈([]:List Addr) from z) (by simp)
 refine ⟨⟨e0.mod,S.kind,rfl,rfl,Kw _,λy z c h1 h2 => ?_,λy hy => ?_,λy c _ h => ?_,λ_=>hd,Around.frames_deeper e0.frames,.inr ⟨rfl,rfl⟩,λb z=>absurd z (noA b),e0.bs,e0.bsz,λb _ _=>noA b,λb z=>absurd z (noA b),e0.funs,e0.frf⟩,
  rfl,e0.bare,Un.kept hk,⟨_,x.toInCall.ns,λi y v h1 h2 h3 => ?_⟩,λy c h=>⟨_,x.cell y c h⟩,e0.hok.fresh (Kw _),λy c h => ?_,λp hp=>absurd (show p∈([]:List (Addr×Obj)) from hp) (by simp),e0.hok.kept hk,?_⟩
 .exact name_of_addr x.apart (PySem.mem_of_lookup h1) (PySem.mem_of_lookup h2)
 .have hy:scope.names.lookup y=some .cell\/scope.names.lookup y=some .free:=hy
  rcases hy with hy | hy
  .exact oJ hy
  .exact absurd rfl (S.nofree _ (PySem.mem_of_lookup hy))
 .exact Nat.le_of_lt (x.above y c (PySem.mem_of_lookup h))
 .have hi:i < vs.length:=by
   unfold start at h2;by_cases hi:i < vs.length
   .exact hi
   .rw [List.getElem?_append_right (by simpa using hi)] at h2
    rw [List.getElem?_replicate] at h2;split at h2 <;> cases h2
  have ha:vs[i]? = some v:=by
   unfold start at h2;rw [List.getElem?_append_left (by simpa using hi),List.getElem?_map] at h2
   cases e:vs[i]? with
   | none=>rw [e] at h2;cases h2
   | some a=>rw [e] at h2;cases h2;rfl
  obtain ⟨u,hu,rv⟩:=r.get ha;have hp:ps[i]? = some y:=by
   rw [<-S.pre,List.getElem?_take_of_lt (by omega)];exact h1
  have ndP:ps.Nodup:=by rw [<-S.pre];exact S.nd.sublist (List.take_sublist _ _)
  refine ⟨u,rv,?_⟩;rcases S.par y (List.mem_of_getElem? hp) with k | k
  .exact .inl ⟨k,n8 ndP hp hu k⟩
  .obtain ⟨c,e⟩:=oJ (n:=s.heap.objs.size+1) k
   refine .inr ⟨.inl k,c,e,?_⟩;have q:=x.cell y c e;rw [n6 ndP hp hu (by show scope.names.lookup y≠_;rw [k];decide)] at q
   exact q
 .exact e0.hok.fresh (Nat.le_of_lt (x.above y c (PySem.mem_of_lookup h)))
 .unfold start
  show _=N.length;rw [List.length_append,List.length_map,List.length_replicate];omega
theorem Hl{CX:CXT}{P:Program}{w:World}{K:KD}{mg:Str->Option Value}{base:Heap}{k:Nat}{f:Addr}{name qual:Str}{params:Arguments}{body:List Stmt}{scope:Scope}{dV kV doc pm cdv ct oc:Value}{an od:Option Addr}
  {osl:Array (Option Value)} {N ps:List Str} {sp:Sp} (lk:K.lookup f=some ⟨oc,od,.func (PySem.W.fnOf name qual params body scope dV kV doc pm an cdv ct),osl⟩) (hcd:PySem.W.codeIn K cdv qual=true) (S:FnScope N ps scope)
  (len:∀ vs H Q E,sp vs H Q E->vs.length=ps.length)
  (hbody:∀ (A:Around) (outer:List Env) (s:Shared) (H:Hp) (vs:List V) (Q:VK) (E:XK),Room k (A.deeper (envOfC qual scope s.heap.objs.size f cdv))->sp vs H Q E ->
   ∃ t,PSs (fh CX P w K mg base N qual scope f cdv A outer s H E) body t/\t { nx:=λ_ H'=>Q .non H',rt:=Q } (start N vs) H) :
  FnOk P w K mg base CX (k+1) f (PySem.W.fnOf name qual params body scope dV kV doc pm an cdv ct) ps sp:=by
 refine ⟨len,λA outer s H args us vs Q E hr e0 hb r hsp => ?_⟩;have hl:=len _ _ _ _ hsp;have KX:K.In s.heap:=e0.mod.kin.keeps λb o e=>(e0.bs b o e).1;have lim:s.heap.NoLimit:=e0.mod.nolimit.keeps λb o e=>(e0.bs b o e).1;have hkind:∀ y∈ps.zip us,scope.names.lookup y.1=some .local\/(scope.names.lookup y.1=some .cell/\((cellsFrom (s.heap.objs.size+1) scope.names []).lookup y.1).isSome=true):=λ⟨n,v⟩ hy=>by
  rcases S.par n (List.of_mem_zip hy).1 with q | q
  .exact .inl q
  .exact .inr ⟨q,PySem.W.cellsFrom_some _ _ _ (.inl q)⟩
 refine codeAny_call_function hr.depth (KX _ _ lk) rfl S.co S.gen rfl (PySem.W.codeRec_of KX hcd) (hb _ _ _ _ ?_);refine wpAny_newFunctionEnv_cells S.kind hkind λenv he s1 x => ?_;subst he;refine ⟨lim.keeps x.toInCall.keep,codeAny_func ?_⟩;obtain ⟨t,ht,hq⟩:=hbody A outer s H vs Q E (hr.deeper _) hsp;have I:Inv (fh CX P w K mg base N qual scope f cdv A outer s H E) [] (start N vs) H s1:=Ar S hr.hd e0 hl r x;refine wpAny_mono (ht [] s1 (start N vs) H _ I hq) (λfl s' hs => ?_) λe s' hs=>hs;have fin:∀ {σ':St} {H':Hp} {v:V} {u:Value},Inv (fh CX P w K mg base N qual scope f cdv A outer s H E) [] σ' H' s'->RelV v u->Q v H'->CE outer P w H s Q u s' :=
  λ{σ' H' v u} J rv q=>⟨v,H',J.os,J.bare,J.base,J.hok,rv,q⟩
 cases fl with
 | ret u =>
  obtain ⟨v,σ',H',J,rv,q⟩:=hs;exact fin J rv q
 | next =>
  obtain ⟨σ',H',J,q⟩:=hs;exact fin (v:=V.non) (u:=Value.none) J rfl q
 | brk =>
  obtain ⟨_,_,_,q⟩:=hs;exact False.elim q
 | cont =>
  obtain ⟨_,_,_,q⟩:=hs;exact False.elim q
end L2
namespace L2
open PySem PySem.Spec PyProof.Rows
section
variable{X:Cx}{x:Str}{p pos:Pos}{e:Expr}{es:List Expr}{t:TA}{id T:String}{r:List V->Hp->VK->Prop}
noncomputable def tCB(r:List V->Hp->VK->Prop)(t:TA):TE:=λσ H Q=>t σ H λvs H1=>r vs H1 Q
theorem pe_callB(hc:CallR X (.builtin id) r)(hg:Gl X x)(hm:X.mg x=none)(hv:bootBuiltins x=some (.builtin id))(ha:PA X (e :: es) t)(hn:x ≠ "__name__" := by decide)(hdb:(x == ("__debug__" : Str))=false:=by decide)
  (he:starEach (e :: es) X.env=(false,eval e X.env) :: starEach es X.env:=by rfl) (hpl:(backTo pos (starEach es X.env)).any (·.1)=false:=by rfl):PE X (.Call (.Name x p) (e :: es) [] pos) (tCB r t):=by
 intro pins s σ H Q I h;refine wpAny_Call_Name_kw (gg I hg hm hv ?_ hn hdb);exact PyProof.Rows.callWith_builtin1 (thn (ha pos pins s σ H _ I h) λus s1 ⟨vs,H1,I1,r1,q1⟩=>hc pins s1 σ H1 vs us Q I1 r1 q1) he hpl
theorem pe_callTy(hc:CallR X (.type T) r)(hg:Gl X x)(hm:X.mg x=none)(hv:bootBuiltins x=some (.type T))(ha:PA X (e :: es) t)(hn:x ≠ "__name__" := by decide)(hdb:(x == ("__debug__" : Str))=false:=by decide)
  (he:starEach (e :: es) X.env=(false,eval e X.env) :: starEach es X.env:=by rfl) (hpl:(backTo pos (starEach es X.env)).any (·.1)=false:=by rfl):PE X (.Call (.Name x p) (e :: es) [] pos) (tCB r t):=by
 intro pins s σ H Q I h;refine wpAny_Call_Name_kw (gg I hg hm hv ?_ hn hdb);exact PyProof.Rows.callWith_type1 (thn (ha pos pins s σ H _ I h) λus s1 ⟨vs,H1,I1,r1,q1⟩=>hc pins s1 σ H1 vs us Q I1 r1 q1) he hpl
end
end L2
namespace HT
open PySem PyProof.Rows
section
open PySem.SeqAt
open PySem.AutoSeq1 (wpAny_loadPart')
open PySem.MeetsSeq PySem.MeetsSeq2 PySem.MeetsSeq3
end
section
variable{prog:Program}{w:World}{A:Around}{E:Value->Shared->Prop}{s:Shared}
noncomputable def sIx(n d:Nat):Option Int->Nat
 | none=>d
 | some v=>if v < 0 then (v+(n:Int)).toNat else min v.toNat n
theorem FT(n d:Nat)(hd:d<=n)(o:Option Int):sIx n d o<=n:=by
 cases o with
 | none=>exact hd
 | some v =>
  show (if v < 0 then (v+(n:Int)).toNat else min v.toNat n)<=n
  by_cases hv:v < 0
  .rw [if_pos hv];omega
  .rw [if_neg hv];exact Nat.min_le_right _ _
theorem pQ(v:Int)(n d:Nat):(if v < 0 then max (v+(n:Int)) 0 else min v (n:Int))=((sIx n d (some v):Nat):Int):=by
 show (if v < 0 then max (v+(n:Int)) 0 else min v (n:Int))=(((if v < 0 then (v+(n:Int)).toNat else min v.toNat n):Nat):Int)
 by_cases hv:v < 0
 .simp only [if_pos hv];omega
 .simp only [if_neg hv];omega
theorem zH(lo hi:Option Int)(n:Nat):Builtin.Slice.sliceAdjust lo hi 1 (n:Int)=(((sIx n 0 lo:Nat):Int),((sIx n n hi:Nat):Int)):=by
 have h1 : ¬ ((1:Int) < 0):=by omega
 unfold Builtin.Slice.sliceAdjust;simp only [h1,if_false];refine Prod.ext ?_ ?_
 .cases lo with
  | none=>rfl
  | some v=>exact pQ v n 0
 .cases hi with
  | none=>rfl
  | some v=>exact pQ v n n
theorem zF(i j:Nat):Builtin.Slice.slicePlaces (i:Int) (j:Int) 1=j - i:=by
 unfold Builtin.Slice.slicePlaces;have h1:(1:Int) > 0:=by omega
 simp only [h1,if_true,Int.ediv_one];split <;> omega
theorem nC{v:Value}{o:Option Int}{Q:Option Int->Shared->Prop}(p:IsPart v o)(h:Q o s):wpAny (model prog w) A (Builtin.Slice.slicePartIndex v) Q E s:=by
 cases p with
 | none=>exact slicePart_none h
 | int i t=>exact slicePart_int h
theorem y4{sl:Addr}{vl vu:Value}{lo hi:Option Int}{n:Nat}{Q:Int×Int×Nat->Shared->Prop}(hs:s.heap.IsSliceOf sl vl vu .none)(pl:IsPart vl lo)(pu:IsPart vu hi)
  (h:Q (((sIx n 0 lo:Nat):Int),1,sIx n n hi - sIx n 0 lo) s):wpAny (model prog w) A (Builtin.Slice.sliceApplied (.ref sl) (pure (n:Int))) Q E s:=by
 obtain ⟨os,hos,hcs,hds⟩:=id hs;unfold Builtin.Slice.sliceApplied Builtin.Slice.sliceFields;refine ZB (ZB (wpAny_field hos hds (x:=vl) rfl (ZB (wpAny_field hos hds (x:=vu) rfl (ZB (wpAny_field hos hds (x := .none) rfl (ZP ?_)))))));refine ZB (slicePart_none ?_);show wpAny _ _ (if ((1:Int) == 0)=true then _ else _) _ _ s
 rw [if_neg (by decide)]
 refine ZB (nC pl (ZB (nC pu (ZB (ZP ?_)))));show wpAny _ _ (match Builtin.Slice.sliceAdjust lo hi 1 (n:Int) with | (lo,hi)=>pure (lo,(1:Int),Builtin.Slice.slicePlaces lo hi 1)) _ _ s
 rw [zH lo hi n];show wpAny _ _ (pure (((sIx n 0 lo:Nat):Int),(1:Int),Builtin.Slice.slicePlaces ((sIx n 0 lo:Nat):Int) ((sIx n n hi:Nat):Int) 1)) _ _ s;rw [zF];exact ZP h
theorem BB(xs:Array Value)(i k:Nat):((List.range k).filterMap λ(m:Nat)=>xs[((i:Int)+(m:Int)*1).toNat]?).toArray=((xs.toList.drop i).take k).toArray:=by
 have e:(λ(m:Nat)=>xs[((i:Int)+(m:Int)*1).toNat]?)=λm=>xs[i+m]? := by
  funext m;have:((i:Int)+(m:Int)*1).toNat=i+m:=by omega
  rw [this]
 rw [e];have:=pick_run xs i k;rw [List.filterMap_map] at this;have e2:((λx=>xs[x]?) ∘ λx=>i+x)=λm=>xs[i+m]? := rfl;rw [e2] at this;rw [this]
theorem getItem_tuple_cut{t sl:Addr}{items:Array Value}{vl vu:Value}{lo hi:Option Int}{Q:Value->Shared->Prop}(ht:IsTup s.heap t items)(hs:s.heap.IsSliceOf sl vl vu .none)(pl:IsPart vl lo)(pu:IsPart vu hi)
  (hw : ¬ (sIx items.size 0 lo=0/\sIx items.size items.size hi=items.size))
  (h:Q (.ref s.heap.objs.size) { s with heap:=s.heap.push { cls := .type "tuple",data := .seq ((items.toList.drop (sIx items.size 0 lo)).take (sIx items.size items.size hi - sIx items.size 0 lo)).toArray } })
  (hsz:items.size<=sizeLine):wpAny (model prog w) A (getItem (.ref t) (.ref sl)) Q E s:=by
 have htake:sizeOk (.seq ((items.toList.drop (sIx items.size 0 lo)).take (sIx items.size items.size hi - sIx items.size 0 lo)).toArray):=by
  show ((items.toList.drop (sIx items.size 0 lo)).take (sIx items.size items.size hi - sIx items.size 0 lo)).toArray.size<=sizeLine;rw [List.size_toArray,List.length_take,List.length_drop,Array.length_toList];omega
 have hj:sIx items.size items.size hi<=items.size:=FT _ _ (Kw _) hi;obtain ⟨os,hos,hcs,hds⟩:=id hs;have hTs:s.TypeIs (.ref sl) "slice" := ⟨os,hos,hcs⟩;unfold getItem
 try with_reducible refine wpAny_holding ?_
 first | refine ZB (ZP ?_) | skip
 refine ZB (wpAny_sequenceKey ht.typeIs (by decide) ?_)
 refine ZB (wpAny_callSpecial?_slot (name:=Str.ofString "__getitem__") ht.typeIs PyProof.Rows.slot_tuple_getitem
  (wpAny_call_entry PyProof.Rows.slot_tuple_getitem ht.typeIs entry_tuple_getitem ?_ (args_tuple_getitem _ _)))
 show wpAny _ _ (Builtin.Tuple.tupleItemsOf (.ref t) >>= _) _ _ s;refine ZB (tupleItemsOf_ ht ?_);refine ZB (wpAny_typeOf hTs ?_);rw [if_pos (by decide)]
 refine ZB (y4 hs pl pu ?_);have hno : ¬ ((((sIx items.size 0 lo:Nat):Int) == 0 && (1:Int) == 1 && (sIx items.size items.size hi - sIx items.size 0 lo) == items.size)=true):=by
  intro q;rw [Bool.and_eq_true,Bool.and_eq_true] at q;have q1:((sIx items.size 0 lo:Nat):Int)=0:=eq_of_beq q.1.1;have q2:sIx items.size items.size hi - sIx items.size 0 lo=items.size:=eq_of_beq q.2;exact hw ⟨by omega,by omega⟩
 show wpAny _ _ (if (((sIx items.size 0 lo:Nat):Int) == 0 && (1:Int) == 1 && (sIx items.size items.size hi - sIx items.size 0 lo) == items.size)=true then _ else _) _ _ s
 rw [if_neg hno,BB]
 first
  | exact ZB (m:=Builtin.Tuple.tupleExact _) (wpAny_newObj_type (ZP ⟨_,rfl,ZP h⟩) htake)
  | exact ZB (m:=Builtin.Tuple.tupleExact _) (wpAny_newObj_type (ZB (ZP (ZP ⟨_,rfl,ZP h⟩))) htake)
  | exact ZB (ZB (m:=Builtin.Tuple.tupleExact _) (wpAny_newObj_type (ZP (ZP ⟨_,rfl,ZP h⟩)) htake))
  | exact ZB (ZB (m:=Builtin.Tuple.tupleExact _) (wpAny_newObj_type (ZP ⟨_,rfl,ZP h⟩) htake))
end
end HT
namespace L2
open PySem PySem.Spec PyProof.Rows
noncomputable abbrev TO:=St->Hp->(Option Int->Hp->Prop)->Prop
noncomputable def PO(X:Cx)(e:Option Expr)(t:TO):Prop :=
 ∀ (pins:List (Addr×Obj)) (s:Shared) (σ:St) (H:Hp) (Q:Option Int->Hp->Prop),Inv X pins σ H s->t σ H Q ->
  wpAny (model X.prog X.w) X.A (evalPart e X.env) (λu s' => ∃ o H',Inv X pins σ H' s'/\IsPart u o/\Q o H') X.xe s
noncomputable def C3:TO:=λ_ H Q=>Q none H
noncomputable def HB(t:TE):TO:=λσ H Q=>t σ H λx H1 => ∃ i,x=.int i/\Q (some i) H1
section
variable{X:Cx}{e:Expr}{te:TE}{lo hi:Option Expr}{tl th:TO}{pos p2:Pos}
theorem DO:PO X none C3:=by
 intro pins s σ H Q I h;rw [evalPart_none];exact ZP ⟨none,H,I,.none,h⟩
theorem B5(h:PE X e te):PO X (some e) (HB te):=by
 intro pins s σ H Q I hw;rw [evalPart_some];refine thn (h pins s σ H _ I hw) λu s1 ⟨x,H1,I1,r1,q1⟩ => ?_;obtain ⟨i,rfl,q⟩:=q1;obtain ⟨t,rfl⟩:=r1;exact ⟨some i,H1,I1,.int i t,q⟩
noncomputable def SlR(X:Cx)(r:V->Option Int->Option Int->Hp->VK->Prop):Prop :=
 ∀ (pins:List (Addr×Obj)) (s:Shared) (σ:St) (H:Hp) (x:V) (v vl vu:Value) (lo hi:Option Int) (sl:Addr) (Q:VK),Inv X pins σ H s->RelV x v->s.heap.IsSliceOf sl vl vu .none->IsPart vl lo->IsPart vu hi->r x lo hi H Q ->
  ∃ T id,typeLookup (.type T) "__getitem__" = pure (some (.builtin id))/\s.TypeIs v T/\wpAny (model X.prog X.w) X.A (getItem v (.ref sl)) (EP X pins σ Q) X.xe s
theorem SlR.or{r r':V->Option Int->Option Int->Hp->VK->Prop}(h:SlR X r)(h':SlR X r'):SlR X (λx lo hi H Q=>r x lo hi H Q\/r' x lo hi H Q):=by
 intro pins s σ H x v vl vu lo hi sl Q I rx hs pl pu q;rcases q with q | q
 .exact h pins s σ H x v vl vu lo hi sl Q I rx hs pl pu q
 .exact h' pins s σ H x v vl vu lo hi sl Q I rx hs pl pu q
noncomputable def tSl(r:V->Option Int->Option Int->Hp->VK->Prop)(te:TE)(tl th:TO):TE:=λσ H Q=>te σ H λx H1=>tl σ H1 λl H2=>th σ H2 λu H3=>r x l u H3 Q
theorem A7{r:V->Option Int->Option Int->Hp->VK->Prop}(hr:SlR X r)(he:PE X e te)(hl:PO X lo tl)(hu:PO X hi th):PE X (.Subscript e (.Slice lo hi none p2) pos) (tSl r te tl th):=by
 intro pins s σ H Q I h;refine Subscript_ (thn (he pins s σ H _ I h) λv s1 ⟨x,H1,I1,r1,q1⟩ => ?_);refine wpAny_Slice (thn (hl pins s1 σ H1 _ I1 q1) λvl s2 ⟨l,H2,I2,pl,q2⟩=>thn (hu pins s2 σ H2 _ I2 q2) λvu s3 ⟨u,H3,I3,pu,q3⟩ => ?_);rw [evalPart_none];refine ZP ?_;have I4:Inv X pins σ H3 { s3 with heap:=s3.heap.push { cls := .type "slice",data := .fields #[vl,vu,.none] } }:=I3.kept (t':=s3.toks) λb ob q=>Ks _ q
 obtain ⟨T,id,hT,ht,hg⟩:=hr pins { s3 with heap:=s3.heap.push { cls := .type "slice",data := .fields #[vl,vu,.none] } } σ H3 x v vl vu l u s3.heap.objs.size Q I4 r1 (Heap.IsSliceOf.new ..) pl pu q3
 show wpAny (model X.prog X.w) X.A (subscriptTail e (.Slice lo hi none p2) v (.ref s3.heap.objs.size)) (EP X pins σ Q) X.xe { s3 with heap:=s3.heap.push { cls := .type "slice",data := .fields #[vl,vu,.none] } }
 exact tail_any (ops:=[.ref s3.heap.objs.size,v]) ht hT hg (by with_unfolding_all rfl)
noncomputable def di(xs:List V)(lo hi:Option Int):List V:=(xs.drop (HT.sIx xs.length 0 lo)).take (HT.sIx xs.length xs.length hi - HT.sIx xs.length 0 lo)
theorem mQ(xs:List V)(lo hi:Option Int):(di xs lo hi).length<=xs.length:=by
 unfold di;rw [List.length_take,List.length_drop];omega
noncomputable def Kr(K:KD):V->Option Int->Option Int->Hp->VK->Prop:=λx lo hi H Q => ∃ a xs,x=.ref a/\SqT K H a xs /\
 ¬ (HT.sIx xs.length 0 lo=0/\HT.sIx xs.length xs.length hi=xs.length) /\ ∀ p,H p=none->Q (.ref p) (upd H p (.tup (di xs lo hi)))
theorem Hb:SlR X (Kr X.K):=by
 intro pins s σ H x v vl vu lo hi sl Q I rx hs pl pu h;obtain ⟨a,xs,rfl,hx,hw,q⟩:=h;cases rx;obtain ⟨its,r,ht,hz⟩:=I.tuple hx;have hlen:its.toArray.size=xs.length:=by rw [List.size_toArray];exact r.length.symm
 refine ⟨"tuple",_,PyProof.Rows.slot_tuple_getitem.lookup,ht.typeIs,?_⟩;refine HT.getItem_tuple_cut ht hs pl pu (by rw [hlen];exact hw) ?_ (by rw [hlen];exact hz)
 rw [hlen];refine ⟨.ref s.heap.objs.size,_,I.laid (t':=s.toks) (o := .tup (di xs lo hi)) (λb ob q=>Ks _ q) (Kw _) ?_,rfl,q _ (I.hok.fresh (Kw _))⟩;exact ⟨Ku (mQ xs lo hi) hz,_,(r.drop (HT.sIx xs.length 0 lo)).take (HT.sIx xs.length xs.length hi - HT.sIx xs.length 0 lo),IsTup.new _ _⟩
end
end L2
namespace L2
open PySem PySem.Spec PyProof.Rows
noncomputable def ixN(n:Nat)(i:Int):Option Nat:=if 0<=i then (if i < n then some i.toNat else none) else if -(n:Int)<=i then some (i+n).toNat else none
noncomputable def atI{α:Type}(xs:List α)(i:Int):Option α:=(ixN xs.length i).bind λj=>xs[j]?
theorem qj{n:Nat}{i:Int}{j:Nat}(h:ixN n i=some j):seqIndex? i n=some j/\j < n /\ -(n:Int)<=i/\i < n:=by
 unfold ixN at h;by_cases h0:0<=i
 .rw [if_pos h0] at h
  by_cases h1:i < n
  .rw [if_pos h1] at h
   have e:i.toNat=j:=Option.some.inj h;exact ⟨by rw [seqIndex_of h0 h1,e],by omega,by omega,h1⟩
  .rw [if_neg h1] at h;cases h
 .rw [if_neg h0] at h
  by_cases h1 : -(n:Int)<=i
  .rw [if_pos h1] at h
   have e:(i+n).toNat=j:=Option.some.inj h;exact ⟨by rw [seqIndex_neg (by omega) h1,e],by omega,h1,by omega⟩
  .rw [if_neg h1] at h;cases h
theorem qC{α:Type}{xs:List α}{i:Int}{v:α}(h:atI xs i=some v):∃ j,seqIndex? i xs.length=some j/\xs[j]? = some v/\j < xs.length /\ -(xs.length:Int)<=i/\i < xs.length:=by
 unfold atI at h;cases e:ixN xs.length i with
 | none=>rw [e] at h;cases h
 | some j =>
  rw [e] at h;obtain ⟨h1,h2,h3,h4⟩:=qj e;exact ⟨j,h1,h,h2,h3,h4⟩
noncomputable def jW(b:Expr):Prop := ∀ o i,subscripted b false o i=operate [o,i] (getItem o i)
noncomputable def IxR(X:Cx)(r:R2):Prop :=
 ∀ (value slice:Expr) (pins:List (Addr×Obj)) (s:Shared) (σ:St) (H:Hp) (x y:V) (v u:Value) (Q:VK),Inv X pins σ H s->RelV x v->RelV y u->r x y H Q ->
  subscripted slice false v u=operate [v,u] (getItem v u)->wpAny (model X.prog X.w) X.A (subscriptTail value slice v u) (EP X pins σ Q) X.xe s
noncomputable def MtR(X:Cx)(id:String)(r:V->List V->Hp->VK->Prop):Prop :=
 ∀ (pins:List (Addr×Obj)) (s:Shared) (σ:St) (H:Hp) (x:V) (xs:List V) (v:Value) (us:List Value) (Q:VK),Inv X pins σ H s->RelV x v->Vals xs us->r x xs H Q ->
  wpAny (model X.prog X.w) X.A (call (.builtin id) (v :: us)) (EP X pins σ Q) X.xe s
section
variable{X:Cx}{a b:Expr}{ta tb:TE}{pos:Pos}
theorem IxR.or{r r':R2}(h:IxR X r)(h':IxR X r'):IxR X (λx y H Q=>r x y H Q\/r' x y H Q):=by
 intro value slice pins s σ H x y v u Q I rx ry q hs;rcases q with q | q
 .exact h value slice pins s σ H x y v u Q I rx ry q hs
 .exact h' value slice pins s σ H x y v u Q I rx ry q hs
theorem Hx{r:R2}(hr:IxR X r)(ha:PE X a ta)(hb:PE X b tb)(hs:jW b):PE X (.Subscript a b pos) (tOp r ta tb):=by
 intro pins s σ H Q I h;exact Subscript_ (lL ha hb I h λv u s2 x y H2 I2 rx ry q=>hr a b pins s2 σ H2 x y v u Q I2 rx ry q (hs _ _))
noncomputable def J8(K:KD):R2:=λx y H Q => ∃ p xs i v,x=.ref p/\y=.int i/\SqL K H p xs/\atI xs i=some v/\Q v H
noncomputable def JH(K:KD):R2:=λx y H Q => ∃ p xs i v,x=.ref p/\y=.int i/\SqT K H p xs/\atI xs i=some v/\Q v H
theorem Ce:IxR X (J8 X.K):=by
 intro value slice pins s σ H x y v u Q I rx ry h hs;obtain ⟨p,xs,i,z,rfl,rfl,hq,he,q⟩:=h;cases rx;obtain ⟨t,rfl⟩:=ry;obtain ⟨its,r,pl,hz⟩:=I.list hq;obtain ⟨j,h1,h2,h3,h4,h5⟩:=qC he;obtain ⟨w,ew,rw'⟩:=r.get h2;have hl:=r.length;have hn:=fU;have fin:EP X pins σ Q w s:=⟨z,H,I,rw',q⟩;by_cases h0:0<=i
 .have hj:i.toNat=j:=by
   rw [seqIndex_of h0 h5] at h1;exact Option.some.inj h1
  exact item_listR pl.isList h0 (by omega) (by rw [hj];simpa using ew) fin hs
 .have hj:(i+(its.toArray.size:Int)).toNat=j:=by
   rw [seqIndex_neg (by omega) h4] at h1
   rw [List.size_toArray,<-hl];exact Option.some.inj h1
  exact subscriptTail_builtinR (x:=w) pl.isList.typeIs slot_list_getitem.lookup
   (wpAny_getItem_list_neg (Q:=λr s'=>r=w/\EP X pins σ Q r s') pl.isList (by omega) (by rw [List.size_toArray] <;> omega) (by omega) (by rw [hj];simpa using ew) ⟨rfl,fin⟩) hs
theorem Eh:IxR X (JH X.K):=by
 intro value slice pins s σ H x y v u Q I rx ry h hs;obtain ⟨p,xs,i,z,rfl,rfl,hq,he,q⟩:=h;cases rx;obtain ⟨t,rfl⟩:=ry;obtain ⟨its,r,pl,hz⟩:=I.tuple hq;obtain ⟨j,h1,h2,h3,h4,h5⟩:=qC he;obtain ⟨w,ew,rw'⟩:=r.get h2;have hl:=r.length;have hn:=fU;have fin:EP X pins σ Q w s:=⟨z,H,I,rw',q⟩;exact subscriptTail_builtinR (x:=w) pl.typeIs slot_tuple_getitem.lookup
  (getItem_tuple (j:=j) (Q:=λr s'=>r=w/\EP X pins σ Q r s') pl (by omega) (by omega) (by rw [List.size_toArray,<-hl];exact h1) (by simpa using ew) ⟨rfl,fin⟩) hs
theorem z4(its:List Value)(n j:Nat)(u:Value):Obj.mapSeq (·.setIfInBounds j u) { cls := .type "list",data := .seq its.toArray n }={ cls := .type "list",data := .seq (its.set j u).toArray n }:=by
 simp [Obj.mapSeq]
theorem Inv.lst{pins:List (Addr×Obj)}{σ:St}{H:Hp}{s:Shared}{p:Addr}{xs:List V}(I:Inv X pins σ H s)(h:H p=some (.lst xs)):
  ∃ (its:List Value) (n:Nat),Vals xs its/\s.heap.get? p=some { cls := .type "list",data := .seq its.toArray n }/\xs.length<=sizeLine:=by
 obtain ⟨z,its,n,r,e⟩:=I.hok p _ h;exact ⟨its,n,r,e,z⟩
theorem Inv.lstUpd{pins:List (Addr×Obj)}{σ:St}{H:Hp}{s:Shared}{p:Addr}{xs ys:List V}{its its':List Value}{n n':Nat}{f:Obj->Obj}(I:Inv X pins σ H s)(h:H p=some (.lst xs))
  (ho:s.heap.get? p=some { cls := .type "list",data := .seq its.toArray n }) (hf:f { cls := .type "list",data := .seq its.toArray n }={ cls := .type "list",data := .seq its'.toArray n' }) (r:Vals ys its') (hz:ys.length<=sizeLine) (t:Nat) :
  Inv X pins σ (upd H p (.lst ys)) { s with heap:=s.heap.update p f,toks:=t }:=by
 have e:(s.heap.update p f).get? p=some { cls := .type "list",data := .seq its'.toArray n' }:=by
  rw [Heap.get?_update_self f ho (by rw [hf] <;> rfl),hf]
 refine I.write (x:=p) (e:=p) (by rw [h];trivial) (.inl rfl) (λb u hb q=>(Heap.get?_update_other _ _ (Ne.symm hb)).trans q) ⟨_,e⟩ ?_
 exact ⟨hz,its',n',r,e⟩
noncomputable def IP:V->V->V->Hp->(Hp->Prop)->Prop:=λo i v H Q => ∃ p xs k j,o=.ref p/\i=.int k/\H p=some (.lst xs)/\ixN xs.length k=some j/\Q (upd H p (.lst (xs.set j v)))
theorem set_list:fc X IP:=by
 intro pins s σ H o i v ov iv u Q I ro ri rv h;obtain ⟨p,xs,k,j,rfl,rfl,hp,hj,q⟩:=h;cases ro;obtain ⟨t,rfl⟩:=ri;obtain ⟨its,n,r,ho,hz⟩:=I.lst hp;obtain ⟨h1,h2,h3,h4⟩:=qj hj;have hl:=r.length;have hn:=fU;have I':Inv X pins σ (upd H p (.lst (xs.set j v))) { s with heap:=s.heap.update p (Obj.mapSeq (·.setIfInBounds j u)) } :=
  I.lstUpd hp ho (z4 its n j u) (r.set rv j) (by rw [List.length_set];exact hz) s.toks
 by_cases h0:0<=k
 .have hk:k.toNat=j:=by
   rw [seqIndex_of h0 h4] at h1;exact Option.some.inj h1
  exact PySem.W.ki_setAt ho h0 (by omega) (by rw [List.size_toArray,<-hl];exact h4) (by rw [hk];exact ⟨_,I',q⟩)
 .have hk:(k+(its.toArray.size:Int)).toNat=j:=by
   rw [seqIndex_neg (by omega) h3] at h1
   rw [List.size_toArray,<-hl];exact Option.some.inj h1
  exact PySem.W.ki_setBack ho (by omega) (by rw [List.size_toArray,<-hl];exact h3) (by omega) (by rw [hk];exact ⟨_,I',q⟩)
theorem zr(lo hi:Option Int)(n:Nat):(sliceBounds lo hi none n).1=((HT.sIx n 0 lo:Nat):Int)/\(sliceBounds lo hi none n).2.1=((HT.sIx n n hi:Nat):Int)/\(sliceBounds lo hi none n).2.2=1:=by
 refine ⟨?_,?_,rfl⟩
 .cases lo with
  | none=>simp [sliceBounds,HT.sIx]
  | some i =>
   simp only [sliceBounds,HT.sIx,Option.getD_none,show (1:Int) > 0 by decide,if_true]
   by_cases h:i < 0
   .simp only [h,if_true] <;> omega
   .simp only [h,if_false] <;> omega
 .cases hi with
  | none=>simp [sliceBounds,HT.sIx]
  | some i =>
   simp only [sliceBounds,HT.sIx,Option.getD_none,show (1:Int) > 0 by decide,if_true]
   by_cases h:i < 0
   .simp only [h,if_true] <;> omega
   .simp only [h,if_false] <;> omega
theorem zd(its:List Value)(lo hi:Option Int):slicePick its.toArray lo hi none=((its.drop (HT.sIx its.length 0 lo)).take (HT.sIx its.length its.length hi - HT.sIx its.length 0 lo)).toArray:=by
 obtain ⟨h1,h2,h3⟩:=zr lo hi its.toArray.size;unfold slicePick;rw [h1,h2,h3];simp only [sliceRange_one,pick_run,List.size_toArray] <;> rfl
noncomputable def Ki(K:KD):V->Option Int->Option Int->Hp->VK->Prop:=λx lo hi H Q => ∃ a xs,x=.ref a/\SqL K H a xs /\ ∀ p,H p=none->Q (.ref p) (upd H p (.lst (di xs lo hi)))
theorem Cm:SlR X (Ki X.K):=by
 intro pins s σ H x v vl vu lo hi sl Q I rx hs pl pu h;obtain ⟨a,xs,rfl,hx,q⟩:=h;cases rx;obtain ⟨its,r,ht,hz⟩:=I.list hx;have hlen:=r.length;refine ⟨"list",_,slot_list_getitem.lookup,ht.isList.typeIs,?_⟩;refine wpAny_getItem_list_slice ht.isList hs pl pu .none (by simp) ?_ (by rw [List.size_toArray] <;> omega)
 rw [zd,<-hlen];refine ⟨.ref s.heap.objs.size,_,I.laid (t':=s.toks) (o := .lst (di xs lo hi)) (λb ob q=>Ks _ q) (Kw _) ?_,rfl,q _ (I.hok.fresh (Kw _))⟩;exact ⟨Ku (mQ xs lo hi) hz,_,0,(r.drop (HT.sIx xs.length 0 lo)).take (HT.sIx xs.length xs.length hi - HT.sIx xs.length 0 lo),KA _ rfl⟩
noncomputable def i4:V->Bool
 | .non=>true
 | .bl _=>true
 | .int _=>true
 | .str _=>true
 | _=>false
noncomputable def eqV:V->V->Bool
 | .non,.non=>true
 | .bl a,.bl b=>a == b
 | .bl a,.int b=>(if a then 1 else 0) == b
 | .int a,.bl b=>a == (if b then 1 else 0)
 | .int a,.int b=>a == b
 | .str a,.str b=>a == b
 | _,_=>false
theorem ki{A:Around}{s:Shared}{y x:V}{u v:Value}(ry:RelV y u)(rx:RelV x v)(fy:i4 y=true)(fx:i4 x=true):SeqAt.EqAt A s u v (eqV y x):=by
 cases y with
 | non =>
  cases ry;cases x with
  | non=>cases rx;exact SeqAt.EqAt.same _
  | bl b=>cases rx;exact SeqAt.EqAt.none_bool b
  | int b=>obtain ⟨t,rfl⟩:=rx;exact SeqAt.EqAt.none_int b t
  | str b=>obtain ⟨t,rfl⟩:=rx;exact SeqAt.EqAt.none_str b t
  | _=>exact absurd (show false=true from fx) Kv
 | bl a =>
  cases ry;cases x with
  | non=>cases rx;exact SeqAt.EqAt.bool_none a
  | bl b=>cases rx;exact SeqAt.EqAt.bool_bool a b
  | int b=>obtain ⟨t,rfl⟩:=rx;exact SeqAt.EqAt.bool_int a b t
  | str b=>obtain ⟨t,rfl⟩:=rx;exact SeqAt.EqAt.bool_str a b t
  | _=>exact absurd (show false=true from fx) Kv
 | int a =>
  obtain ⟨t',rfl⟩:=ry;cases x with
  | non=>cases rx;exact SeqAt.EqAt.int_none a t'
  | bl b=>cases rx;exact SeqAt.EqAt.int_bool a t' b
  | int b=>obtain ⟨t,rfl⟩:=rx;exact SeqAt.EqAt.int_int a t' b t
  | str b=>obtain ⟨t,rfl⟩:=rx;exact SeqAt.EqAt.int_str a t' b t
  | _=>exact absurd (show false=true from fx) Kv
 | str a =>
  obtain ⟨t',rfl⟩:=ry;cases x with
  | non=>cases rx;exact SeqAt.EqAt.str_none a t'
  | bl b=>cases rx;exact SeqAt.EqAt.str_bool a t' b
  | int b=>obtain ⟨t,rfl⟩:=rx;exact SeqAt.EqAt.str_int a t' b t
  | str b=>obtain ⟨t,rfl⟩:=rx;exact SeqAt.EqAt.str_str a t' b t
  | _=>exact absurd (show false=true from fx) Kv
 | _=>exact absurd (show false=true from fy) Kv
theorem call_len_seq:CallR X (.builtin "len") (λxs H Q => ∃ p ys,xs=[.ref p]/\(SqL X.K H p ys\/SqT X.K H p ys)/\Q (.int ys.length) H):=by
 intro pins s σ H xs us Q I r h;obtain ⟨p,ys,rfl,hq,q⟩:=h;obtain ⟨u,rfl,rx⟩:=vals1 r;cases rx;have hn:=fU;rcases hq with hq | hq
 .obtain ⟨its,r',pl,hz⟩:=I.list hq
  have hlen:=r'.length;exact Calls.call_len_list pl.isList (by simp only [List.size_toArray] <;> omega) ⟨.int ys.length,H,I.tok _,⟨s.toks+1,by rw [List.size_toArray,hlen]⟩,q⟩
 .obtain ⟨its,r',pl,hz⟩:=I.tuple hq
  have hlen:=r'.length;exact len_tuple pl (by simp only [List.size_toArray] <;> omega) ⟨.int ys.length,H,I.tok _,⟨s.toks+1,by rw [List.size_toArray,hlen]⟩,q⟩
theorem CallR.or{f:Value}{r r':List V->Hp->VK->Prop}(h:CallR X f r)(h':CallR X f r'):CallR X f (λxs H Q=>r xs H Q\/r' xs H Q):=by
 intro pins s σ H xs us Q I rs q;rcases q with q | q
 .exact h pins s σ H xs us Q I rs q
 .exact h' pins s σ H xs us Q I rs q
theorem call_list_of:CallR X (.type "list") (λxs H Q => ∃ p ys,xs=[.ref p]/\(SqL X.K H p ys\/SqT X.K H p ys) /\ ∀ l,H l=none->Q (.ref l) (upd H l (.lst ys))):=by
 intro pins s σ H xs us Q I r h;obtain ⟨p,ys,rfl,hq,q⟩:=h;obtain ⟨u,rfl,rx⟩:=vals1 r;cases rx;have fin:∀ (its:List Value),Vals ys its->ys.length<=sizeLine -> ∀ (h':Heap) (c':Nat),(∀ b o',s.heap.get? b=some o'->h'.get? b=some o') ->
   h'.get? s.heap.objs.size=some { cls := .type "list",dict:=none,data := .seq its.toArray c',slots := #[] }->EP X pins σ Q (.ref s.heap.objs.size) { s with heap:=h' }:=λits r' hz h' c' kp e =>
  ⟨.ref s.heap.objs.size,_,I.laid (t':=s.toks) kp (Kw _) (show ObjOk X.prog X.w _ h' _ (.lst ys) from ⟨hz,its,c',r',e⟩),rfl,q _ (I.hok.fresh (Kw _))⟩
 rcases hq with hq | hq
 .obtain ⟨its,r',pl,hz⟩:=I.list hq
  have hlen:=r'.length;obtain ⟨o,ho,hc,n,hd⟩:=pl.isList;exact call_list_seq p (.inl rfl) ho hc hd (λh' c' kp e=>fin its r' hz h' c' kp e) (by simp only [List.size_toArray] <;> omega)
 .obtain ⟨its,r',pl,hz⟩:=I.tuple hq
  have hlen:=r'.length;obtain ⟨o,ho,hc,n,hd⟩:=pl;exact call_list_seq p (.inr rfl) ho hc hd (λh' c' kp e=>fin its r' hz h' c' kp e) (by simp only [List.size_toArray] <;> omega)
noncomputable def tyV(K:KD)(T:String)(x:V)(H:Hp):Prop:=match x with
 | .str _=>T = "str"
 | .int _=>T = "int"
 | .ref p=>(T = "list" /\ ∃ xs,SqL K H p xs)\/(T = "tuple" /\ ∃ o,K.lookup p=some o/\o.cls=.type "tuple" /\ o.dict=none) \/
   (T = "dict" /\ ((∃ kvs,H p=some (.dK kvs)) \/ ∃ kvs,H p=some (.dT kvs)))\/(T = "set" /\ ∃ S n,H p=some (.set S n))
 | _=>False
theorem ux{pins:List (Addr×Obj)}{σ:St}{H:Hp}{s:Shared}{T:String}{x:V}{v:Value}(I:Inv X pins σ H s)(r:RelV x v)(ty:tyV X.K T x H):
  s.TypeIs v T /\ ∀ a,v=.ref a -> ∃ ob,s.heap.get? a=some ob/\ob.dict=none:=by
 cases x with
 | str z =>
  obtain ⟨t,rfl⟩:=r;cases (show T = "str" from ty);exact ⟨typeIs_str s z t,λ_ e=>nomatch e⟩
 | int i =>
  obtain ⟨t,rfl⟩:=r;cases (show T = "int" from ty);exact ⟨typeIs_int s i t,λ_ e=>nomatch e⟩
 | ref p =>
  cases r;rcases ty with ⟨rfl,xs,hq⟩ | ⟨rfl,o,hk,hc,hd⟩ | ⟨rfl,hk⟩ | ⟨rfl,S,n,hk⟩
  .obtain ⟨its,_,pl,_⟩:=I.list hq
   refine ⟨pl.isList.typeIs,λa e => ?_⟩;cases e;obtain ⟨o,n,e,c,hd,_⟩:=pl;exact ⟨o,e,hd⟩
  .refine ⟨⟨o,I.kIn p o hk,hc⟩,λa e => ?_⟩
   cases e;exact ⟨o,I.kIn _ o hk,hd⟩
  .have z:∃ o,s.heap.get? p=some o/\o.ExactDict:=by
    rcases hk with ⟨kvs,hk⟩ | ⟨kvs,hk⟩
    .obtain ⟨_,_,_,_,o,_,_,e,ex,_⟩:=I.hok p _ hk
     exact ⟨o,e,ex⟩
    .obtain ⟨_,_,_,_,o,_,_,e,ex,_⟩:=I.hok p _ hk
     exact ⟨o,e,ex⟩
   obtain ⟨o,e,ex⟩:=z;refine ⟨⟨o,e,ex.1⟩,λa e2 => ?_⟩;cases e2;exact ⟨o,e,ex.2.1⟩
  .obtain ⟨o,_,_,_,e,ex,_⟩:=I.hok p _ hk
   refine ⟨⟨o,e,ex.1⟩,λa e2 => ?_⟩;cases e2;exact ⟨o,e,ex.2.1⟩
 | _=>exact False.elim ty
noncomputable def JR(K:KD)(T:String)(r:V->List V->Hp->VK->Prop)(to:TE):TE:=λσ H Q=>to σ H λx H1=>tyV K T x H1/\r x [] H1 Q
noncomputable def tBM(K:KD)(T:String)(r:V->List V->Hp->VK->Prop)(to:TE)(t:TA):TE:=λσ H Q=>to σ H λx H1=>tyV K T x H1/\t σ H1 λxs H2=>r x xs H2 Q
variable{o e:Expr}{es:List Expr}{to:TE}{t:TA}{name:Str}{apos cpos:Pos}{T id:String}{r:V->List V->Hp->VK->Prop}
theorem sX(pa:PlainAttrs T)(slot:Slot T name id)(hty:typeOf (.builtin id)=pure (.type "method_descriptor"))(hm:MtR X id r)(ho:PE X o to)
  (hbase:attributeBase o name X.env (eval o X.env)=eval o X.env:=by rfl) (hline:(apos.endLine == cpos.line)=true:=by rfl):PE X (.Call (.Attribute o name apos) [] [] cpos) (JR X.K T r to):=by
 intro pins s σ H Q I h;refine wpAny_Call_method0_late hbase hline (thn (ho pins s σ H _ I h) λv s1 ⟨x,H1,I1,r1,ty,q1⟩ => ?_);obtain ⟨h1,h2⟩:=ux I1 r1 ty;exact ⟨T,id,pa,slot,hty,h1,h2,Calls.callWith_builtin rfl (PySem.evalArgs_none (hm pins s1 σ H1 x [] v [] Q I1 r1 .nil q1))⟩
theorem Ia(pa:PlainAttrs T)(slot:Slot T name id)(hty:typeOf (.builtin id)=pure (.type "method_descriptor"))(hm:MtR X id r)(ho:PE X o to)(ha:PA X (e :: es) t)
  (hbase:attributeBase o name X.env (eval o X.env)=eval o X.env:=by rfl)
  (hfew:((backTo cpos (starEach (e :: es) X.env)).all (λx => !x.1) && (backToKw cpos (keywordEach [] X.env)).all (λx=>x.1.isSome)
   && decide ((e :: es).length+([]:List Keyword).length+(if ([]:List Keyword).isEmpty then 0 else 1) < 30))=true:=by rfl)
  (hline:(apos.endLine == cpos.line)=true:=by rfl) (hs:starEach (e :: es) X.env=(false,eval e X.env) :: starEach es X.env:=by rfl) (hplain:(backTo cpos (starEach es X.env)).any (·.1)=false:=by rfl) :
  PE X (.Call (.Attribute o name apos) (e :: es) [] cpos) (tBM X.K T r to t):=by
 intro pins s σ H Q I h;refine wpAny_Call_method_late hbase hfew hline rfl (thn (ho pins s σ H _ I h) λv s1 ⟨x,H1,I1,r1,ty,q1⟩ => ?_);obtain ⟨h1,h2⟩:=ux I1 r1 ty;refine ⟨T,id,pa,slot,hty,h1,h2,?_⟩;have hA:=ha cpos pins s1 σ H1 _ I1 q1;rw [hs] at hA ⊢;refine Calls.callWith_builtin (by show (false || (backTo cpos (starEach es X.env)).any (·.1))=false;rw [hplain] <;> rfl) (Calls.evalArgs_plain ?_)
 exact thn hA λus s2 ⟨vs,H2,I2,r2,q2⟩=>hm pins s2 σ H2 x vs v us Q I2 r1 r2 q2
end
end L2
namespace L2
open PySem PySem.Spec PyProof.Rows
noncomputable def MtM(X:Cx)(id:String)(r:V->List V->Hp->VK->Prop):Prop :=
 ∀ (pins:List (Addr×Obj)) (s:Shared) (σ:St) (H:Hp) (x:V) (xs:List V) (v:Value) (us:List Value) (Q:VK),Inv X pins σ H s->RelV x v->Vals xs us->r x xs H Q ->
  wpAny (model X.prog X.w) X.A (call (.builtin id) (v :: us)) (EP X pins σ Q) X.xe s
theorem Vals.one:∀ {x:V} {us:List Value},Vals [x] us -> ∃ u,us=[u]/\RelV x u
 | _,_,.cons r .nil=>⟨_,rfl,r⟩
theorem Vals.zero:∀ {us:List Value},Vals [] us->us=[]
 | _,.nil=>rfl
theorem Vals.dropLast{xs:List V}{us:List Value}(h:Vals xs us):Vals xs.dropLast us.dropLast:=by
 induction h with
 | nil=>exact .nil
 | cons r t ih =>
  cases t with
  | nil=>exact .nil
  | cons q t'=>exact .cons r ih
theorem Vals.reverse{xs:List V}{us:List Value}(h:Vals xs us):Vals xs.reverse us.reverse:=by
 induction h with
 | nil=>exact .nil
 | cons r t ih=>rw [List.reverse_cons,List.reverse_cons];exact Vals.append ih (.cons r .nil)
theorem zI{α:Type}(l:List α):l.eraseIdx (l.length - 1)=l.dropLast:=by
 induction l with
 | nil=>rfl
 | cons a r ih =>
  cases r with
  | nil=>rfl
  | cons b r =>
   have e:(a :: b :: r).length - 1=((b :: r).length - 1)+1:=by
    have h1:(a :: b :: r).length=r.length+2:=rfl;have h2:(b :: r).length=r.length+1:=rfl;omega
   rw [e,List.eraseIdx_cons_succ,ih]
   all_goals rfl
section
variable{X:Cx}{pins:List (Addr×Obj)}{σ:St}{H:Hp}{s:Shared}{l b:Addr}{xs ys zs:List V}
theorem Inv.lset{its its':List Value}{n:Nat}{f:Array Value->Array Value}{t':Nat}(I:Inv X pins σ H s)(hH:H l=some (.lst xs))
  (e:s.heap.get? l=some { cls := .type "list",data := .seq its.toArray n }) (hf:f its.toArray=its'.toArray) (hv:Vals ys its') (hz:ys.length<=sizeLine) :
  Inv X pins σ (upd H l (.lst ys)) { s with heap:=s.heap.update l (Obj.mapSeq f),toks:=t' }:=by
 have q:=PySem.IsL.update e f;rw [hf] at q;refine I.write (x:=l) (e:=l) (by rw [hH];exact trivial) (.inl rfl) (λb' u hb hu=>(Heap.get?_update_other s.heap (Obj.mapSeq f) (Ne.symm hb)).trans hu) ⟨_,q⟩ ?_
 exact ⟨hz,its',_,hv,q⟩
theorem Inv.lnew{its:List Value}{t':Nat}(I:Inv X pins σ H s)(hv:Vals ys its)(hz:ys.length<=sizeLine):
  Inv X pins σ (upd H s.heap.objs.size (.lst ys)) { s with heap:=s.heap.push { cls := .type "list",data := .seq its.toArray },toks:=t' } :=
 I.laid (λ_ _ q=>Ks _ q) (Kw _) ⟨hz,its,0,hv,KA _ rfl⟩
theorem Inv.fresh(I:Inv X pins σ H s):H s.heap.objs.size=none:=I.hok.fresh (Kw _)
theorem Inv.lstM(I:Inv X pins σ H s)(hH:H l=some (.lst xs)):xs.length<=sizeLine /\ ∃ (its:List Value) (n:Nat),Vals xs its/\xs.length=its.length/\s.heap.get? l=some { cls := .type "list",data := .seq its.toArray n }:=by
 obtain ⟨z,its,n,r,e⟩:=I.hok l _ hH;exact ⟨z,its,n,r,r.length,e⟩
theorem BK{n:Nat}(h:n<=sizeLine):Builtin.List.listTooLong n=false:=by
 unfold Builtin.List.listTooLong;exact decide_eq_false (by omega)
end
section
variable{X:Cx}
noncomputable def De:V->List V->Hp->VK->Prop:=λx vs H Q => ∃ l xs y,x=.ref l/\vs=[y]/\H l=some (.lst xs)/\xs.length < sizeLine/\Q .non (upd H l (.lst (xs++[y])))
theorem nS:MtM X "list.append" De:=by
 intro pins s σ H x vs v us Q I rx rv h;obtain ⟨l,xs,y,rfl,rfl,hH,hz,q⟩:=h;cases rx;obtain ⟨u,rfl,ru⟩:=rv.one;obtain ⟨z,its,n,r,hl,e⟩:=I.lstM hH;refine call_meets F.slot_list_append ⟨_,e,rfl⟩ F.entry_list_append (F.args_list_append_2 _ _) (PySem.list_append l its.toArray n u (by rw [List.size_toArray];omega)) ⟨e,?_⟩
 refine ⟨.non,_,I.lset (its':=its++[u]) hH e (by simp) (r.append (.cons ru .nil)) ?_,rfl,q⟩
 rw [List.length_append,List.length_singleton];omega
noncomputable def CH:V->List V->Hp->VK->Prop:=λx vs H Q => ∃ l b xs zs,x=.ref l/\vs=[.ref b]/\H l=some (.lst xs)/\H b=some (.lst zs)/\xs.length+zs.length<=sizeLine/\Q .non (upd H l (.lst (xs++zs)))
theorem AL:MtM X "list.extend" CH:=by
 intro pins s σ H x vs v us Q I rx rv h;obtain ⟨l,b,xs,zs,rfl,rfl,hH,hB,hz,q⟩:=h;cases rx;obtain ⟨u,rfl,ru⟩:=rv.one;cases ru;obtain ⟨z,its,n,r,hl,e⟩:=I.lstM hH;obtain ⟨z2,its2,n2,r2,hl2,e2⟩:=I.lstM hB;have hsz:its.toArray.size+its2.toArray.size<=sizeLine:=by rw [List.size_toArray,List.size_toArray];omega
 have hlong : ¬ (!its.toArray.isEmpty && Builtin.List.listTooLong (its.toArray.size+its2.toArray.size))=true:=by
  rw [BK hsz,Bool.and_false];exact Kv
 refine call_meets F.slot_list_extend ⟨_,e,rfl⟩ F.entry_list_extend (F.args_list_extend_2 _ _)
  (AutoSeq1.list_extend_list_list_0 l its.toArray n b its2.toArray n2 hlong (by rw [List.size_toArray];omega) (by omega)) ⟨e,e2,?_⟩
 refine ⟨.non,_,I.lset (its':=its++its2) hH e (by simp) (r.append r2) ?_,rfl,q⟩
 rw [List.length_append];omega
noncomputable def JU:V->List V->Hp->VK->Prop:=λx vs H Q => ∃ l xs y,x=.ref l/\vs=[]/\H l=some (.lst xs)/\xs[xs.length - 1]? = some y/\Q y (upd H l (.lst xs.dropLast))
theorem E1:MtM X "list.pop" JU:=by
 intro pins s σ H x vs v us Q I rx rv h;obtain ⟨l,xs,y,rfl,rfl,hH,hy,q⟩:=h;cases rx;have hus:=rv.zero;subst hus;obtain ⟨z,its,n,r,hl,e⟩:=I.lstM hH;obtain ⟨u,hu,ru⟩:=r.get hy;have hy':its.toArray[its.toArray.size - 1]? = some u:=by
  show its.toArray[its.length - 1]? = some u;rw [<-Array.getElem?_toList,<-hl];exact hu
 refine call_meets F.slot_list_pop ⟨_,e,rfl⟩ F.entry_list_pop (F.args_list_pop_1 _) (MeetsSeq.list_pop_last l its.toArray n u hy' (by rw [List.size_toArray];omega)) ⟨e,?_⟩
 refine ⟨y,_,I.lset (its':=its.dropLast) hH e ?_ r.dropLast ?_,ru,q⟩
 .show its.toArray.eraseIdxIfInBounds (its.toArray.size - 1)=its.dropLast.toArray
  rw [List.size_toArray,List.eraseIdxIfInBounds_toArray,zI]
 .rw [List.length_dropLast]
  omega
noncomputable def Bu:V->List V->Hp->VK->Prop:=λx vs H Q => ∃ l xs,x=.ref l/\vs=[]/\H l=some (.lst xs)/\Q .non (upd H l (.lst xs.reverse))
theorem zY:MtM X "list.reverse" Bu:=by
 intro pins s σ H x vs v us Q I rx rv h;obtain ⟨l,xs,rfl,rfl,hH,q⟩:=h;cases rx;have hus:=rv.zero;subst hus;obtain ⟨z,its,n,r,hl,e⟩:=I.lstM hH;refine call_meets F.slot_list_reverse ⟨_,e,rfl⟩ F.entry_list_reverse (F.args_list_reverse_1 _) (AutoSeq1.list_reverse_list_0 l its.toArray n (by rw [List.size_toArray];omega)) ⟨e,?_⟩
 refine ⟨.non,_,I.lset (its':=its.reverse) hH e (by simp) r.reverse ?_,rfl,q⟩
 rw [List.length_reverse];omega
noncomputable def xP:R2:=λx y H Q => ∃ l b xs zs,x=.ref l/\y=.ref b/\H l=some (.lst xs)/\H b=some (.lst zs)/\xs.length+zs.length<=sizeLine /\ ∀ p,H p=none->Q (.ref p) (upd H p (.lst (xs++zs)))
theorem Es:OpR X (binaryOp .Add) xP:=by
 intro pins s σ H x y v u Q I rx ry h;obtain ⟨l,b,xs,zs,rfl,rfl,hH,hB,hz,q⟩:=h;cases rx;cases ry;obtain ⟨z,its,n,r,hl,e⟩:=I.lstM hH;obtain ⟨z2,its2,n2,r2,hl2,e2⟩:=I.lstM hB;refine PySem.P.add_list e e2 ?_ (by rw [List.size_toArray,List.size_toArray];omega)
 have ea:its.toArray++its2.toArray=(its++its2).toArray:=by simp
 rw [ea];exact ⟨.ref _,_,I.lnew (t':=s.toks) (r.append r2) (by rw [List.length_append];omega),rfl,q _ I.fresh⟩
end
section
variable{prog:Program}{w:World}{A:Around}{E:Value->Shared->Prop}{s:Shared}
end
section
variable{X:Cx}
end
end L2
namespace Att
open PySem PySem.W PySem.Calls PyProof.Rows
theorem y7{P:Params}{h:Heap}:∀ (ns:List Int) (vs:List Value),WellAll P h vs (ns.map WData.int)->IntsAre vs ns:=by
 intro ns
 induction ns with
 | nil =>
  intro vs w;rw [List.map_nil] at w;cases w;exact .nil
 | cons n ns ih =>
  intro vs w;rw [List.map_cons] at w;cases w with
  | cons a b =>
   cases a;exact .cons _ _ (ih _ b)
theorem Aq{l:OpenLaw}{n:Nat}(hn:l.most=some n){P:Params}{h:Heap}{args:List WData}{vals:List Value}
  (hpre:l.row.toRowW.claim.pre args=true) (hwl:WellAll P h vals args) :
  ∃ a vs ns,vals=[Value.ref a]/\args=[WData.list (ns.map WData.int)]/\h.get? a=some { cls := .type "list",data := .seq vs.toArray }/\IntsAre vs ns/\ns.length<=n:=by
 have hsh:WShape.hasAll [] args [.list .int]=true:=(pre_splitW hpre).1;have hc:l.pre.holds [] { args:=args }=true:=(pre_splitW hpre).2;obtain ⟨d,r,rfl,h1,h2⟩:=hasAllW_cons hsh;obtain rfl:=hasAllW_nil h2;obtain ⟨xs,rfl,h3⟩:=hasW_list h1;obtain ⟨ns,rfl⟩:=items_int h3;have hlen:ns.length<=n:=by
  unfold OpenLaw.pre at hc;have h4:(WTm.not (.lt (.lit (.int (n:Int))) (.len (.arg 0)))).holds [] { args:=[.list (ns.map .int)] }=true:=by
   have h4:=(holds_andW hc).1;rw [hn] at h4;exact h4
  have h5:=condW_of h4 (w_not (w_lt w_lit (w_len_list (w_arg rfl))));rw [List.length_map] at h5;refine Nat.le_of_not_lt λq => ?_;have q':(n:Int) < ((ns.length:Nat):Int):=by omega
  first
   | (rw [decide_eq_true q'] at h5;exact absurd h5 (by decide))
   | (simp at h5;omega)
 cases hwl with
 | cons w1 w2 =>
  cases w2;cases w1 with
  | list ho hall=>exact ⟨_,_,ns,rfl,rfl,ho,y7 ns _ hall,hlen⟩
theorem Ao(l:OpenLaw)(args:List WData):l.row.toRowW.claim.post args (.bool true) args=true :=
 postW_of (r:=l.row.toRowW) (X:=(true == true))
  (show WShape.has [] (.bool true) .bool=true by first | rfl | decide | simp [WShape.has,WShape.arms,WShape.armsAll])
  (show (WTm.eq .res (.lit (.bool true))).value [] { args:=args,res:=some (.bool true),after:=args }=some (.bool (true == true)) from w_eq_bool (w_res rfl) w_lit) rfl
theorem attach_call{l:OpenLaw}{n:Nat}{q:Program}{loose:List Str}{XP:(Str->Option Value)->Heap->Prop}{YP:World->Heap->Prop}{d:DefRec}
  (hn:l.most=some n) (hdf:d.params.defaults=[])
  (call:∀ (w:World) (s₀ s₁ : Shared) (mg mb:Str->Option Value) (fa:Addr) (o:Obj) (pm cd doc:Value) (a:Addr) (vs:List Value) (ns:List Int),
   Ground q loose [] XP w s₀ mg mb s₁.heap->YP w s₁.heap ->
   s₁.heap.get? fa=some o->o.data=.func (docDef d.name d.params d.body d.scope pm cd doc)->s₁.heap.CodeRec cd d.name->mg d.name=some (.ref fa) ->
   s₁.heap.get? a=some { cls := .type "list",data := .seq vs.toArray }->IntsAre vs ns->ns.length<=n->s₁.gens = #[] ->
   codeAny (model l.prog w) callerA (.call (.ref fa) ⟨[.ref a],[]⟩) (λr s'=>r=.ok (.ret (.bool true))/\OldK s₁.heap s'.heap/\s'.os=s₁.os/\AllBare s'.gens) s₁) :
  WalkO q loose XP YP l.row.toRowW d [] (λf vs=>PySem.call f vs):=by
 intro w s₀ s₁ mg mb G Y fa o pm cd doc dV kV ho hd hcd hD hmg hg args vals as hpre hlay hrd hwl hlo;obtain rfl:dV=.none:=Dflts.none hD hdf;obtain rfl:kV=.none:=Dflts.noKw hD;obtain ⟨a,vs,ns,rfl,rfl,hobj,hints,hlen⟩:=Aq hn hpre hwl;refine enter_call (codeAny_mono (call w s₀ s₁ mg mb fa o pm cd doc a vs ns G Y ho (fd_plain hd) hcd hmg hobj hints hlen hg) λr s' hq => ?_);obtain ⟨rfl,h2,h3,h4⟩:=hq;exact ⟨.inl ⟨.bool true,.bool true,[],rfl,λ_=>rfl,.bool true,Ao l _,λ_=>⟨List.Pairwise.nil,λ_ hm=>(nomatch hm)⟩⟩,h2,h3,h4⟩
section
variable{prog:Program}{w:World}{A:Around}{E:Value->Shared->Prop}{s:Shared}{K:Frag}
end
end Att
namespace L2
open PySem PySem.Spec PyProof.Rows
theorem nI:∀ {vs:List Value} {ns:List Int},IntsAre vs ns->Vals (ns.map V.int) vs
 | _,_,.nil => .nil
 | _,_,.cons n t h => .cons ⟨t,rfl⟩ (nI h)
noncomputable def js(H:Hp):Prop := ∀ b,H b=none \/ ∃ o xs,H b=some (.frz o (.lst xs))
theorem AX{P:Program}{w:World}{K:KD}{mg mb:Str->Option Value}{CX:CXT}{k:Nat}{fa a:Addr}{fd:FuncData}{x:Str}{sp:Sp}{s₁ : Shared}{vs:List Value}{ns:List Int}
  (KX:K.In s₁.heap) (hns:s₁.heap.Ns mainGlobals mg) (hb:s₁.heap.Ns builtinsNs mb) (hbb:∀ x:Str,x ≠ "__name__" -> mb x=bootBuiltins x) (hlim:s₁.heap.NoLimit) (hg:s₁.gens = #[])
  (ha:s₁.heap.get? a=some { cls := .type "list",data := .seq vs.toArray }) (hi:IntsAre vs ns) (hl:ns.length<=sizeLine) (hr:Room k callerA)
  (F:∀ base:Heap,K.In base->base.Ns mainGlobals mg->FnOk P w K mg base CX k fa fd [x] sp) (hbind:∀ (s:Shared) (u:Value),BindsTo s fd ⟨[u],[]⟩ [(x,u)])
  (hsp:∀ H:Hp,js H->SqL K H a (ns.map V.int)->sp [.ref a] H (λv _=>v=.bl true) λ_ _ _=>False)
  (hCX:∀ H e s',CX [] H s₁ (λ_ _ _=>False) e s'->False) :
  codeAny (model P w) callerA (.call (.ref fa) ⟨[.ref a],[]⟩) (λr s'=>r=.ok (.ret (.bool true))/\OldK s₁.heap s'.heap/\s'.os=s₁.os/\AllBare s'.gens) s₁ := by
 have rv:=nI hi;have lenV:=hi.length;have core:∀ H:Hp,js H->SqL K H a (ns.map V.int)->HOk P w H s₁.heap->(∀ b,H b≠none->b=a)->(H a≠none->K.lookup a=none) ->
   codeAny (model P w) callerA (.call (.ref fa) ⟨[.ref a],[]⟩) (λr s'=>r=.ok (.ret (.bool true))/\OldK s₁.heap s'.heap/\s'.os=s₁.os/\AllBare s'.gens) s₁ := by
  intro H hO hS hok hA hK;have base_of:∀ {b:Addr} {o:Obj},s₁.heap.get? b=some o->H b=none->(cL s₁.heap H).get? b=some o:=λe n=>By e n;have noA:∀ {b:Addr} {o:Obj} {es:Array DictEntry} {ep:Nat},s₁.heap.get? b=some o->o.data=.dict es ep->H b=none:=λ{b o es ep} e d=>by
   cases q:H b with
   | none=>rfl
   | some u =>
    have e':b=a:=hA b (by rw [q];simp)
    subst e';rw [ha] at e;cases e;have d':Data.seq vs.toArray _=Data.dict es ep:=d;cases d'
  have nsK:∀ {b:Addr} {m:Str->Option Value},s₁.heap.Ns b m->(cL s₁.heap H).Ns b m:=λ{b m} ⟨o,es,ep,e,d,r⟩=>⟨o,es,ep,base_of e (noA e d),d,r⟩
  have hKb:K.In (cL s₁.heap H):=λb o e=>base_of (KX b o e) (by
   cases q:H b with
   | none=>rfl
   | some u =>
    have e':b=a:=hA b (by rw [q];simp)
    subst e'
    rw [hK (by rw [q];simp)] at e;cases e)
  have hM:Mod K mg (cL s₁.heap H):=⟨hKb,nsK hns,⟨mb,nsK hb,hbb⟩,let ⟨mc,h1,h2⟩:=hlim;⟨mc,nsK h1,h2⟩⟩
  have e0:Env0 P w K mg (cL s₁.heap H) callerA [] s₁ H:=⟨rfl,hM,λb o e=>B4 e,Nat.le_of_eq (Aa _ _),trivial,λb hb=>absurd (show b∈([]:List Addr) from hb) (by simp),hok,.of_eq hg⟩
  refine codeAny_mono ((F _ hKb (nsK hns)).run callerA [] s₁ H ⟨[.ref a],[]⟩ [.ref a] [.ref a] _ _ hr e0 (hbind s₁ (.ref a)) (.cons rfl .nil) (hsp H hO hS)) λr s' h => ?_;cases r with
  | error e=>exact (hCX H e s' h).elim
  | ok fl =>
   cases fl with
   | next=>exact False.elim h
   | brk=>exact False.elim h
   | cont=>exact False.elim h
   | ret u =>
    obtain ⟨v,H',os,bare,un,hok',r',q⟩:=h;have q':v=.bl true:=q;subst q';obtain rfl:u=Value.bool true:=r';refine ⟨rfl,OldK.of_keep λb o e => ?_,os,bare⟩;cases q:H b with
    | none=>exact un.keep b o e q (by intro z;exact absurd (show b∈([]:List Addr) from z) (by simp)) (by simp)
    | some u =>
     rcases hO b with z | ⟨ob,xs,z⟩
     .rw [q] at z;cases z
     .have z2:=un.frzs b ob _ z
      obtain ⟨e1,_⟩:=hok b _ z;obtain ⟨e2,_⟩:=hok' b _ z2;rw [e] at e1;cases e1;exact e2
 cases hk:K.lookup a with
 | some o =>
  have e:=KX a o hk;rw [ha] at e;cases e;refine core (λ_=>none) (λ_ => .inl rfl) (.inr ⟨_,vs.toArray,_,hk,rfl,rfl,rfl,by rw [List.size_toArray,lenV];exact hl,by simpa using rv⟩) (λb u z=>by have z':(none:Option HO)=some u:=z;cases z') (λb z=>absurd rfl z) λz=>absurd rfl z
 | none =>
  refine core (λb=>if b=a then some (.frz { cls := .type "list",data := .seq vs.toArray } (.lst (ns.map V.int))) else none) (λb => ?_) (.inl (.inr ⟨{ cls := .type "list",data := .seq vs.toArray },if_pos rfl⟩)) (λb u z => ?_) (λb z => ?_) λ_=>hk
  .by_cases hb:b=a
   .exact .inr ⟨_,_,if_pos hb⟩
   .exact .inl (if_neg hb)
  .by_cases hb:b=a
   .have z':=(if_pos hb).symm.trans z
    cases z';subst hb;exact ⟨ha,by rw [List.length_map];exact hl,vs,_,rv,ha⟩
   .have z':=(if_neg hb).symm.trans z
    cases z'
  .by_cases hb:b=a
   .exact hb
   .exact absurd (if_neg hb) z
end L2
namespace L2
open PySem PySem.Spec PyProof.Rows
end L2
namespace L2
open PySem PySem.Spec PyProof.Rows
noncomputable def fQ(s:Stmt):Arguments:=match s with
 | .FunctionDef _ a _ _ _ _ _ _ _ _=>a
 | _=>{ posonlyargs:=[],args:=[],vararg:=none,kwonlyargs:=[],kw_defaults:=[],kwarg:=none,defaults:=[] }
noncomputable def fK(s:Stmt):List Stmt:=match s with
 | .FunctionDef _ _ b _ _ _ _ _ _ _=>b
 | _=>[]
noncomputable def cz(s:Stmt):Scope:=match s with
 | .FunctionDef _ _ _ _ _ _ sc _ _ _=>sc
 | _=>{ kind := .function,names:=[],isGenerator:=false,isCoroutine:=false }
noncomputable abbrev CX0:CXT:=λ_ _ _ _ _ _=>False
noncomputable abbrev E0:XK:=λ_ _ _=>False
theorem gi{X:Cx}:bZ CX0 X E0:=λ_ _ _ _ _ _ _ h=>h.elim
structure Fun(K:KD)(x qual:Str)(st:Stmt)(f:Addr)(fd:FuncData):Prop where
 ex:∃ (oc:Value) (od:Option Addr) (kV doc pm:Value) (an:Option Addr) (cdv ct:Value) (osl:Array (Option Value)),
  fd=PySem.W.fnOf x qual (fQ st) (fK st) (cz st) .none kV doc pm an cdv ct/\K.lookup f=some ⟨oc,od,.func fd,osl⟩/\PySem.W.codeIn K cdv qual=true
 kp:PySem.W.keepIn K (.ref f)=true
section
variable{P:Program}{w:World}{K:KD}{mg:Str->Option Value}{base:Heap}
end
section
variable{X:Cx}
end
theorem dm{A B:Prop}(h:B):if false=true then A else B:=by
 rw [if_neg Kv];exact h
theorem dt{A B:Prop}(h:A):if true=true then A else B:=by
 rw [if_pos rfl];exact h
end L2
namespace L2
open PySem PySem.Spec PyProof.Rows
section
variable{κ:Type}[DecidableEq κ]
noncomputable def aZ(kvs:List (κ×V))(k:κ):Option V:=(kvs.find? λkv=>decide (kv.1=k)).map (·.2)
noncomputable def putK(kvs:List (κ×V))(k:κ)(v:V):List (κ×V) :=
 if (kvs.any λkv=>decide (kv.1=k))=true then kvs.map (λkv=>if kv.1=k then (kv.1,v) else kv) else kvs++[(k,v)]
theorem d5{p:κ×V}{r:List (κ×V)}{k:κ}(e:p.1=k):aZ (p :: r) k=some p.2:=by simp [aZ,List.find?_cons,e]
theorem d8{p:κ×V}{r:List (κ×V)}{k:κ}(e : ¬ p.1=k):aZ (p :: r) k=aZ r k:=by simp [aZ,List.find?_cons,e]
theorem jP(k:κ):∀ kvs:List (κ×V),(kvs.any λkv=>decide (kv.1=k))=(aZ kvs k).isSome
 | []=>rfl
 | p :: r=>by
  rw [List.any_cons];by_cases e:p.1=k
  .simp only [d5 e,decide_eq_true e,Bool.true_or,Option.isSome_some]
  .rw [d8 e,decide_eq_false e,Bool.false_or];exact jP k r
theorem gK(kvs:List (κ×V))(k:κ)(v:V):(putK kvs k v).length<=kvs.length+1:=by
 unfold putK;split
 .rw [List.length_map];omega
 .rw [List.length_append,List.length_cons,List.length_nil];omega
theorem BC{kvs:List (κ×V)}{k:κ}(v:V)(h:aZ kvs k=none):putK kvs k v=kvs++[(k,v)]:=by
 unfold putK;rw [jP,h];exact if_neg (by decide)
theorem RelO.isSome_eq{o:Option V}{u:Option Value}(r:RelO o u):o.isSome=u.isSome:=by
 cases o with
 | none=>cases u with
  | none=>rfl
  | some _=>exact (show False from r).elim
 | some _=>cases u with
  | none=>exact (show False from r).elim
  | some _=>rfl
theorem RelO.getD{o:Option V}{u:Option Value}{d:V}{d':Value}(r:RelO o u)(rd:RelV d d'):RelV (o.getD d) (u.getD d'):=by
 cases o with
 | none=>cases u with
  | none=>exact rd
  | some _=>exact (show False from r).elim
 | some _=>cases u with
  | none=>exact (show False from r).elim
  | some _=>exact r
theorem KV.val{kvs:List (κ×V)}{vs:List (κ×Value)}(r:KV kvs vs)(k:κ):RelO (aZ kvs k) (valueAt vs k):=by
 unfold KV at r
 induction r with
 | nil=>exact True.intro
 | @cons p q ps qs h t ih =>
  obtain ⟨h1,h2⟩:=h;by_cases e:p.1=k
  .have e':q.1=k:=h1.symm.trans e
   have b:valueAt (q :: qs) k=some q.2:=by simp [valueAt,List.find?_cons,e']
   rw [d5 e,b];exact h2
  .have e' : ¬ q.1=k:=λz=>e (h1.trans z)
   have b:valueAt (q :: qs) k=valueAt qs k:=by simp [valueAt,List.find?_cons,e']
   rw [d8 e,b];exact ih
theorem KV.any{kvs:List (κ×V)}{vs:List (κ×Value)}(r:KV kvs vs)(k:κ):(kvs.any λkv=>decide (kv.1=k))=vs.any λkv=>decide (kv.1=k):=by
 unfold KV at r
 induction r with
 | nil=>rfl
 | cons h t ih=>rw [List.any_cons,List.any_cons,ih,h.1]
theorem KV.repl{kvs:List (κ×V)}{vs:List (κ×Value)}(r:KV kvs vs)(k:κ){y:V}{u:Value}(ry:RelV y u):
  KV (kvs.map λkv=>if kv.1=k then (kv.1,y) else kv) (vs.map λkv=>if kv.1=k then (kv.1,u) else kv):=by
 unfold KV at r ⊢
 induction r with
 | nil=>exact .nil
 | @cons p q ps qs h t ih =>
  rw [List.map_cons,List.map_cons];refine .cons ?_ ih;obtain ⟨h1,h2⟩:=h;by_cases e:p.1=k
  .rw [if_pos e,if_pos (h1.symm.trans e)];exact ⟨h1,ry⟩
  .rw [if_neg e,if_neg (λz=>e (h1.trans z))];exact ⟨h1,h2⟩
theorem KV.put{kvs:List (κ×V)}{vs:List (κ×Value)}(r:KV kvs vs)(k:κ){y:V}{u:Value}(ry:RelV y u):KV (putK kvs k y) (stored vs k u):=by
 unfold putK stored;rw [r.any k];by_cases e:(vs.any λkv=>decide (kv.1=k))=true
 .rw [if_pos e,if_pos e];exact r.repl k ry
 .rw [if_neg e,if_neg e];exact Paired.snoc r ⟨rfl,ry⟩
theorem KV.length{kvs:List (κ×V)}{vs:List (κ×Value)}(r:KV kvs vs):kvs.length=vs.length:=Paired.length r
end
theorem dE{P:Program}{w:World}{k:Key}{u:Value}(r:RelV (kV k) u):(aP P w).is k u=true:=by
 cases k with
 | inl i=>obtain ⟨t,e⟩:=(show ∃ t,u=Value.int i t from r);subst e;exact zx P w i t
 | inr x=>obtain ⟨t,e⟩:=(show ∃ t,u=Value.str x t from r);subst e;exact zA P w x t
theorem nT{P:Program}{w:World}:∀ {ks:List Key} {us:List Value},Vals (ks.map kV) us->ItemsAre (aP P w) ks us
 | [],_,r=>by rw [List.map_nil] at r;cases r;exact .nil
 | k :: ks,_,r=>by
  rw [List.map_cons] at r;cases r with
  | cons h t=>exact .cons (dE h) (nT t)
noncomputable abbrev KT(H:Hp):List (List Key×V)->List (List Key×Addr×Value)->Prop:=Paired λp q=>p.1=q.1/\H q.2.1=some (.tup (p.1.map kV))/\RelV p.2 q.2.2
theorem KT.val{H:Hp}{kvs:List (List Key×V)}{xs:List (List Key×Addr×Value)}(r:KT H kvs xs)(k:List Key):RelO (aZ kvs k) ((atKey xs k).map (·.2)):=by
 induction r with
 | nil=>exact True.intro
 | @cons p q ps qs h t ih =>
  obtain ⟨h1,_,h2⟩:=h;by_cases e:p.1=k
  .have e':q.1=k:=h1.symm.trans e
   have b:atKey (q :: qs) k=some q.2:=by simp [atKey,List.find?_cons,e']
   rw [d5 e,b];exact h2
  .have e' : ¬ q.1=k:=λz=>e (h1.trans z)
   have b:atKey (q :: qs) k=atKey qs k:=by simp [atKey,List.find?_cons,e']
   rw [d8 e,b];exact ih
theorem KT.repl{H:Hp}{kvs:List (List Key×V)}{xs:List (List Key×Addr×Value)}(r:KT H kvs xs)(k:List Key){y:V}{u:Value}(ry:RelV y u):
  KT H (kvs.map λkv=>if kv.1=k then (kv.1,y) else kv) (xs.map (putAt k u)):=by
 induction r with
 | nil=>exact .nil
 | @cons p q ps qs h t ih =>
  rw [List.map_cons,List.map_cons];refine .cons ?_ ih;obtain ⟨h1,h2,h3⟩:=h;unfold putAt;by_cases e:p.1=k
  .rw [if_pos e,if_pos (h1.symm.trans e)];exact ⟨h1,h2,ry⟩
  .rw [if_neg e,if_neg (λz=>e (h1.trans z))];exact ⟨h1,h2,h3⟩
theorem KT.put{H:Hp}{kvs:List (List Key×V)}{xs:List (List Key×Addr×Value)}(r:KT H kvs xs)(k:List Key){b:Addr}{y:V}{u:Value}(hb:H b=some (.tup (k.map kV)))(ry:RelV y u):
  KT H (putK kvs k y) (storedH xs k b u):=by
 have e:(kvs.any λkv=>decide (kv.1=k))=(atKey xs k).isSome:=by
  rw [jP,(r.val k).isSome_eq,Option.isSome_map]
 unfold putK storedH;rw [e];by_cases q:(atKey xs k).isSome=true
 .rw [if_pos q,if_pos q];exact r.repl k ry
 .rw [if_neg q,if_neg q];exact Paired.snoc r ⟨rfl,hb,ry⟩
theorem KT.keeps{H H':Hp}{kvs:List (List Key×V)}{xs:List (List Key×Addr×Value)}(r:KT H kvs xs)(ht:∀ b ys,H b=some (.tup ys)->H' b=some (.tup ys)):KT H' kvs xs :=
 Paired.mapP r λ_ _ z=>⟨z.1,ht _ _ z.2.1,z.2.2⟩
section
variable{P:Program}{w:World}{H:Hp}{h:Heap}{a:Addr}
theorem vH{u:HO}(ok:HOk P w H h)(e:Rd H a u):ObjOk P w H h a u:=e.ok ok
theorem dG{kvs:List (Key×V)}(ok:HOk P w H h)(e:Rd H a (.dK kvs)):kvs.length<=sizeLine/\(a == sysModules)=false /\ ∃ vs,KV kvs vs/\h.DictOf (aP P w) a vs :=
 show ObjOk P w H h a (.dK kvs) from vH ok e
theorem v9{kvs:List (Key×V)}(ok:HOk P w H h)(e:H a=some (.dK kvs)):kvs.length<=sizeLine/\(a == sysModules)=false /\ ∃ vs,KV kvs vs/\h.DictOf (aP P w) a vs:=dG ok (.inl e)
theorem dC{ks:List Key}(ok:HOk P w H h)(e:H a=some (.tup (ks.map kV))):(tupleKind (aP P w)).is h ks a:=by
 obtain ⟨_,its,r,o,h1,h2,n,h3⟩:=(show ObjOk P w H h a (.tup (ks.map kV)) from ok a _ e);exact ⟨o,its.toArray,n,h1,h2,h3,by simpa using nT r⟩
theorem dH{kvs:List (List Key×V)}(ok:HOk P w H h)(e:Rd H a (.dT kvs)):kvs.length<=sizeLine/\(a == sysModules)=false /\
  ∃ xs,KT H kvs xs/\h.DictOfH (tupleKind (aP P w)) a xs:=by
 obtain ⟨z,y,xs,r,o,es,ep,h1,h2,h3,h4,h5⟩:=(show ObjOk P w H h a (.dT kvs) from vH ok e);refine ⟨z,y,xs,r,o,es,ep,h1,h2,h3,h4,λx hx => ?_,h5⟩;have all:∀ {l:List (List Key×V)} {m:List (List Key×Addr×Value)},KT H l m -> ∀ x∈m,(tupleKind (aP P w)).is h x.1 x.2.1:=by
  intro l m q
  induction q with
  | nil=>intro x hx;exact nomatch hx
  | @cons p q ps qs hq t ih =>
   intro x hx;rcases List.mem_cons.mp hx with e | hx
   .subst e
    exact dC ok (by rw [<-hq.1];exact hq.2.1)
   .exact ih x hx
 exact all r x hx
theorem wX{kvs:List (List Key×V)}(ok:HOk P w H h)(e:H a=some (.dT kvs)):kvs.length<=sizeLine/\(a == sysModules)=false /\
  ∃ xs,KT H kvs xs/\h.DictOfH (tupleKind (aP P w)) a xs:=dH ok (.inl e)
end
noncomputable def DGet(H:Hp)(a:Addr)(y:V)(r:Option V):Prop :=
 (∃ kvs k,Rd H a (.dK kvs)/\y=kV k/\r=aZ kvs k) \/ ∃ kvs k b,Rd H a (.dT kvs)/\y=.ref b/\H b=some (.tup (k.map kV))/\r=aZ kvs k
noncomputable def DPut(H:Hp)(a:Addr)(y v:V)(H':Hp):Prop :=
 (∃ kvs k,H a=some (.dK kvs)/\y=kV k/\kvs.length < sizeLine/\H'=upd H a (.dK (putK kvs k v))) \/
 ∃ kvs k b,H a=some (.dT kvs)/\y=.ref b/\H b=some (.tup (k.map kV))/\kvs.length < sizeLine/\H'=upd H a (.dT (putK kvs k v))
theorem DGet.k{H:Hp}{a:Addr}{kvs:List (Key×V)}{k:Key}(e:H a=some (.dK kvs)):DGet H a (kV k) (aZ kvs k) := .inl ⟨kvs,k,.inl e,rfl,rfl⟩
theorem DGet.t{H:Hp}{a b:Addr}{kvs:List (List Key×V)}{k:List Key}(e:H a=some (.dT kvs))(eb:H b=some (.tup (k.map kV))):DGet H a (.ref b) (aZ kvs k) := .inr ⟨kvs,k,b,.inl e,rfl,eb,rfl⟩
theorem DPut.k{H:Hp}{a:Addr}{kvs:List (Key×V)}{k:Key}{v:V}(e:H a=some (.dK kvs))(hl:kvs.length < sizeLine):DPut H a (kV k) v (upd H a (.dK (putK kvs k v))) := .inl ⟨kvs,k,e,rfl,hl,rfl⟩
theorem DPut.t{H:Hp}{a b:Addr}{kvs:List (List Key×V)}{k:List Key}{v:V}(e:H a=some (.dT kvs))(eb:H b=some (.tup (k.map kV)))(hl:kvs.length < sizeLine):
  DPut H a (.ref b) v (upd H a (.dT (putK kvs k v))) := .inr ⟨kvs,k,b,e,rfl,eb,hl,rfl⟩
section
variable{X:Cx}{pins:List (Addr×Obj)}{σ:St}{H:Hp}{s:Shared}{a:Addr}{y v:V}{u r:Value}{o:Option V}{A:Around}{E:Value->Shared->Prop}
theorem Inv.big(I:Inv X pins σ H s):sysModules < s.heap.objs.size:=by
 have h:mainGlobals < s.heap.objs.size:=(I.mod.glob.keeps I.bk).lt;exact Nat.lt_trans (by decide) h
theorem Aw{Q:Value->Shared->Prop}(hu:A.units+1 < cLine)(I:Inv X pins σ H s)(g:DGet H a y (some v))(ry:RelV y u)(h:∀ w' s',Inv X pins σ H s'->RelV v w'->Q w' s'):
  wpAny (model X.prog X.w) A (getItem (.ref a) u) Q E s:=by
 rcases g with ⟨kvs,k,e,ey,l⟩ | ⟨kvs,k,b,e,ey,eb,l⟩
 .subst ey
  obtain ⟨z,hd,vs,rel,dd⟩:=dG I.hok e;obtain ⟨w',hw,rw'⟩:=RelO.some_of (v:=v) (o:=valueAt vs k) (by rw [l];exact rel.val k)
  exact wpAny_getItem_of (dE ry) dd.mapOf hw (h w' _ (I.tok _) rw')
 .subst ey
  cases (show u=Value.ref b from ry);obtain ⟨z,hd,xs,rel,dd⟩:=dH I.hok e;obtain ⟨w',hw,rw'⟩:=RelO.some_of (v:=v) (o:=(atKey xs k).map (·.2)) (by rw [l];exact rel.val k)
  obtain ⟨p,hp,hp2⟩:=Option.map_eq_some_iff.mp hw;refine wpAny_getItem_heap (tupleKind_room_in1 hu) (dC I.hok eb) dd hp ?_;rw [hp2];exact h w' _ (I.tok _) rw'
theorem JQ{Q:Value->Shared->Prop}(hu:A.units+1 < cLine)(I:Inv X pins σ H s)(g:DGet H a y o)(ry:RelV y u)(h:∀ s',Inv X pins σ H s'->Q (.bool o.isSome) s'):
  wpAny (model X.prog X.w) A (compareOp .In u (.ref a)) Q E s:=by
 rcases g with ⟨kvs,k,e,ey,l⟩ | ⟨kvs,k,b,e,ey,eb,l⟩
 .subst ey
  obtain ⟨z,hd,vs,rel,dd⟩:=dG I.hok e;refine wpAny_in_of (dE ry) hd dd.mapOf ?_;rw [<-(rel.val k).isSome_eq,<-l];exact h _ (I.tok _)
 .subst ey
  cases (show u=Value.ref b from ry);obtain ⟨z,hd,xs,rel,dd⟩:=dH I.hok e;refine wpAny_in_heap (tupleKind_room_in1 hu) (dC I.hok eb) hd dd ?_;have q:=(rel.val k).isSome_eq;rw [Option.isSome_map] at q;rw [<-q,<-l];exact h _ (I.tok _)
theorem DP{Q:Value->Shared->Prop}(hu:A.units+1 < cLine)(I:Inv X pins σ H s)(g:DGet H a y o)(ry:RelV y u)(h:∀ s',Inv X pins σ H s'->Q (.bool (!o.isSome)) s'):
  wpAny (model X.prog X.w) A (compareOp .NotIn u (.ref a)) Q E s:=by
 rcases g with ⟨kvs,k,e,ey,l⟩ | ⟨kvs,k,b,e,ey,eb,l⟩
 .subst ey
  obtain ⟨z,hd,vs,rel,dd⟩:=dG I.hok e;refine wpAny_notIn_of (dE ry) hd dd.mapOf ?_;rw [<-(rel.val k).isSome_eq,<-l];exact h _ (I.tok _)
 .subst ey
  cases (show u=Value.ref b from ry);obtain ⟨z,hd,xs,rel,dd⟩:=dH I.hok e;refine wpAny_notIn_heap (tupleKind_room_in1 hu) (dC I.hok eb) hd dd ?_;have q:=(rel.val k).isSome_eq;rw [Option.isSome_map] at q;rw [<-q,<-l];exact h _ (I.tok _)
theorem ik{h':Heap}{t':Nat}{ob:HO}(I:Inv X pins σ H s)(mu:Mut (H a))(hs:Heap.SameBut a s.heap h')(he:∃ q,h'.get? a=some q)(new:ObjOk X.prog X.w (upd H a ob) h' a ob):
  Inv X pins σ (upd H a ob) { s with heap:=h',toks:=t' } :=
 I.write (x:=a) (e:=a) mu (.inl rfl) (λb q hb z=>(hs.2 b hb).trans z) he new
theorem r6{P:Program}{w:World}{H':Hp}{h':Heap}{kvs:List (Key×V)}{vs:List (Key×Value)}(z:kvs.length<=sizeLine)(hd:(a == sysModules)=false)(rel:KV kvs vs)(dd:h'.DictOf (aP P w) a vs):
  ObjOk P w H' h' a (.dK kvs):=⟨z,hd,vs,rel,dd⟩
theorem Ae{H':Hp}{Q:Unit->Shared->Prop}(hu:A.units+1 < cLine)(I:Inv X pins σ H s)(g:DPut H a y v H')(ry:RelV y u)(rv:RelV v r)(h:∀ s',Inv X pins σ H' s'->Q () s'):
  wpAny (model X.prog X.w) A (setItem (.ref a) u r) Q E s:=by
 rcases g with ⟨kvs,k,e,ey,l,eH⟩ | ⟨kvs,k,b,e,ey,eb,l,eH⟩
 .subst ey eH
  obtain ⟨z,hd,vs,rel,dd⟩:=v9 I.hok e;have hz:vs.length<=sizeLine:=by rw [<-rel.length];exact z
  have hl:(putK kvs k v).length<=sizeLine:=by have:=gK kvs k v;omega
  refine wpAny_setItem_pairs (hsz:=hz) (dE ry) dd λh' dd' hs=>h _ ?_;have he:∃ q,h'.get? a=some q:=let ⟨q,_,_,hq,_⟩:=dd';⟨q,hq⟩
  exact ik I (by rw [e];exact True.intro) hs he (r6 hl hd (rel.put k rv) dd')
 .subst ey eH
  cases (show u=Value.ref b from ry);obtain ⟨z,hd,xs,rel,dd⟩:=wX I.hok e;have hz:xs.length<=sizeLine:=by rw [<-Paired.length rel];exact z
  have hl:(putK kvs k v).length<=sizeLine:=by have:=gK kvs k v;omega
  refine wpAny_setItem_heap (hsz:=hz) (tupleKind_room_in1 hu) (dC I.hok eb) dd λh' dd' hs=>h _ ?_;obtain ⟨q,es,ep,hq,h2,h3,h4,_,h5⟩:=dd';refine ik I (by rw [e];exact True.intro) hs ⟨q,hq⟩ ⟨hl,hd,_,(rel.put k eb rv).keeps λc ys ec => ?_,q,es,ep,hq,h2,h3,h4,h5⟩
  rw [ar (eV ec e (λz=>nomatch z))];exact ec
end
section
variable{X:Cx}{pins:List (Addr×Obj)}{σ:St}{H:Hp}{s:Shared}{a:Addr}{kvs:List (Key×V)}{k:Key}{u:Value}{A:Around}{E:Value->Shared->Prop}
end
end L2
namespace L2
open PySem PySem.Spec PyProof.Rows
theorem BG{P:Program}{w:World}{H:Hp}(h:Heap)(hb:sysModules < h.objs.size):ObjOk P w H (h.push { cls := .type "dict",data := .dict #[] }) h.objs.size (.dK []) :=
 ⟨Nat.zero_le _,beq_eq_false_iff_ne.mpr (Ne.symm (Kz hb)),[],.nil,Heap.DictOf.new h⟩
theorem oQ{P:Program}{w:World}{H:Hp}(h:Heap)(hb:sysModules < h.objs.size):ObjOk P w H (h.push { cls := .type "dict",data := .dict #[] }) h.objs.size (.dT []) :=
 ⟨Nat.zero_le _,beq_eq_false_iff_ne.mpr (Ne.symm (Kz hb)),[],.nil,_,#[],0,KA _ rfl,⟨rfl,rfl,rfl⟩,rfl,rfl,List.nodup_nil⟩
noncomputable def EZ:TE:=λ_ H Q => ∀ p,H p=none->Q (.ref p) (upd H p (.dT []))
section
variable{X:Cx}{pos:Pos}
theorem BH:PE X (.Dict [] [] pos) EZ:=λpins s σ H Q I h =>
 wpAny_Dict_empty ⟨.ref s.heap.objs.size,_,I.laid (a:=s.heap.objs.size) (o := .dT []) (t':=s.toks) (λ_ _ q=>Ks _ q) (Kw _) (oQ s.heap I.big),rfl,h _ (I.hok.fresh (Kw _))⟩
end
noncomputable def iO:List (TE×TE)->St->Hp->(List (V×V)->Hp->Prop)->Prop
 | [],_,H,Q=>Q [] H
 | (tk,tv) :: r,σ,H,Q=>tk σ H λx H1=>tv σ H1 λy H2=>iO r σ H2 λps H3=>Q ((x,y) :: ps) H3
noncomputable abbrev VV:List (V×V)->List (Value×Value)->Prop:=Paired λp q=>RelV p.1 q.1/\RelV p.2 q.2
noncomputable def PPs(X:Cx)(pos:Pos)(keys:List (Option Expr))(values:List Expr)(trs:List (TE×TE)):Prop :=
 ∀ (pins:List (Addr×Obj)) (s:Shared) (σ:St) (H:Hp) (Q:List (V×V)->Hp->Prop),Inv X pins σ H s->iO trs σ H Q ->
  wpAny (model X.prog X.w) X.A (evalPairs (pairTrees keys values X.env pos)) (λvs s' => ∃ ps H',Inv X pins σ H' s'/\VV ps vs/\Q ps H') X.xe s
theorem CA{X:Cx}{pos:Pos}:PPs X pos [] [] []:=λpins s σ H Q I h=>pairTrees_nil_walk ⟨[],H,I,.nil,h⟩
theorem BD{X:Cx}{pos:Pos}{k v:Expr}{ks:List (Option Expr)}{vs:List Expr}{tk tv:TE}{trs:List (TE×TE)}(hk:PE X k tk)(hv:PE X v tv)(hr:PPs X pos ks vs trs):
  PPs X pos (some k :: ks) (v :: vs) ((tk,tv) :: trs):=λpins s σ H Q I h =>
 pairTrees_cons_walk (thn (hk pins s σ H _ I h) λu s1 ⟨x,H1,I1,rx,q1⟩=>thn (hv pins s1 σ H1 _ I1 q1) λw2 s2 ⟨y,H2,I2,ry,q2⟩ =>
  thn (hr pins s2 σ H2 _ I2 q2) λws s3 ⟨ps,H3,I3,rel,q3⟩=>⟨(x,y) :: ps,H3,I3,.cons ⟨rx,ry⟩ rel,q3⟩)
noncomputable def cX(kvs more:List (Key×V)):List (Key×V):=more.foldl (λacc kv=>putK acc kv.1 kv.2) kvs
theorem KV.merge:∀ {more:List (Key×V)} {rs:List (Key×Value)} {kvs:List (Key×V)} {vs:List (Key×Value)},KV more rs->KV kvs vs->KV (cX kvs more) (merged vs rs):=by
 intro more rs kvs vs r;unfold KV at r
 induction r generalizing kvs vs with
 | nil=>intro q;exact q
 | @cons p q ps qs h t ih =>
  intro r0;have e:KV (putK kvs p.1 p.2) (stored vs q.1 q.2):=by
   have:=r0.put p.1 h.2;rw [<-h.1];exact this
  exact ih e
theorem lY:∀ (more kvs:List (Key×V)),(cX kvs more).length<=kvs.length+more.length
 | [],kvs=>by show kvs.length<=kvs.length+0;omega
 | p :: r,kvs=>by
  have h1:=lY r (putK kvs p.1 p.2);have h2:=gK kvs p.1 p.2;show (cX (putK kvs p.1 p.2) r).length<=_;rw [List.length_cons];omega
theorem nq{P:Program}{w:World}:∀ {kvs:List (Key×V)} {ws:List (Value×Value)},VV (kvs.map λkv=>(kV kv.1,kv.2)) ws -> ∃ rs,Carries (aP P w) ws rs/\KV kvs rs
 | [],_,r=>by rw [List.map_nil] at r;cases r;exact ⟨[],True.intro,.nil⟩
 | p :: kvs,_,r=>by
  rw [List.map_cons] at r;cases r with
  | @cons a b as bs h t =>
   obtain ⟨rs,c,q⟩:=nq (P:=P) (w:=w) t;obtain ⟨b1,b2⟩:=b;exact ⟨(p.1,b2) :: rs,⟨dE h.1,rfl,c⟩,.cons ⟨rfl,h.2⟩ q⟩
noncomputable def IH(trs:List (TE×TE)):TE:=λσ H Q => ∀ p,H p=none->iO trs σ (upd H p (.dK [])) λps H2=>H2 p=some (.dK []) /\ ∃ kvs:List (Key×V),ps=kvs.map (λkv=>(kV kv.1,kv.2))/\kvs.length<=15/\Q (.ref p) (upd H2 p (.dK (cX [] kvs)))
theorem C5{X:Cx}{pos:Pos}{keys:List (Option Expr)}{values:List Expr}{trs:List (TE×TE)}(h:PPs X pos keys values trs)(hall:keys.all (·.isSome)=true)(hl:keys.length=values.length)(h0:keys≠[])
  (h15:keys.length<=15):PE X (.Dict keys values pos) (IH trs):=by
 intro pins s σ H Q I q;have hn:=I.hok.fresh (Kw s.heap.objs.size);have I1:=I.laid (a:=s.heap.objs.size) (o := .dK []) (h':=s.heap.push { cls := .type "dict",data := .dict #[] }) (t':=s.toks) (λ_ _ q=>Ks _ q) (Kw _) (BG s.heap I.big);refine wpAny_Dict_walk (knd:=aP X.prog X.w) hall hl h0 h15 (thn (h pins _ σ _ _ I1 (q _ hn)) λws s2 ⟨ps,H2,I2,rel,e,kvs,ep,lk,q2⟩ => ?_);subst ep;obtain ⟨rs,c,rk⟩:=nq (P:=X.prog) (w:=X.w) rel;obtain ⟨z,hd,vs0,r0,dd⟩:=v9 I2.hok e;cases r0;refine ⟨rs,c,dd,λh' dd' hs=>⟨.ref s.heap.objs.size,_,?_,rfl,q2⟩⟩;have hz:(cX [] kvs).length<=sizeLine:=by
  have h1:=lY kvs [];rw [List.length_nil] at h1;rw [sizeLine_eq];omega
 have he:∃ q,h'.get? s.heap.objs.size=some q:=let ⟨q,_,_,hq,_⟩:=dd';⟨q,hq⟩
 exact ik I2 (by rw [e];exact True.intro) hs he (r6 hz hd (rk.merge .nil) dd')
structure M1(X:Cx)(o:Expr)(m:Str)(apos:Pos)(e:Expr)(cpos:Pos):Prop where
 base:attributeBase o m X.env (eval o X.env)=eval o X.env
 few:((backTo cpos (starEach [e] X.env)).all (λx => !x.1) && (backToKw cpos (keywordEach [] X.env)).all (λx=>x.1.isSome)
  && decide (([e]:List Expr).length+([]:List Keyword).length+(if ([]:List Keyword).isEmpty then 0 else 1) < 30))=true
 line:(apos.endLine == cpos.line)=true
 trees:backTo cpos (starEach [e] X.env)=[(false,eval e X.env)]
structure M2(X:Cx)(o:Expr)(m:Str)(apos:Pos)(e f:Expr)(cpos:Pos):Prop where
 base:attributeBase o m X.env (eval o X.env)=eval o X.env
 few:((backTo cpos (starEach [e,f] X.env)).all (λx => !x.1) && (backToKw cpos (keywordEach [] X.env)).all (λx=>x.1.isSome)
  && decide (([e,f]:List Expr).length+([]:List Keyword).length+(if ([]:List Keyword).isEmpty then 0 else 1) < 30))=true
 line:(apos.endLine == cpos.line)=true
 trees:backTo cpos (starEach [e,f] X.env)=[(false,eval e X.env),(false,eval f X.env)]
noncomputable def IsD(H:Hp)(a:Addr):Prop:=(∃ kvs,Rd H a (.dK kvs)) \/ ∃ kvs,Rd H a (.dT kvs)
theorem En{X:Cx}{pins:List (Addr×Obj)}{σ:St}{H:Hp}{s:Shared}{a:Addr}(I:Inv X pins σ H s)(d:IsD H a):
  s.TypeIs (.ref a) "dict" /\ (∀ b,Value.ref a=.ref b -> ∃ ob,s.heap.get? b=some ob/\ob.dict=none)/\(a == sysModules)=false:=by
 rcases d with ⟨kvs,e⟩ | ⟨kvs,e⟩
 .obtain ⟨_,hd,vs,_,dd⟩:=dG I.hok e
  refine ⟨dd.typeIs,λb q => ?_,hd⟩;cases q;obtain ⟨ob,_,_,h1,h2,_⟩:=dd;exact ⟨ob,h1,h2.2.1⟩
 .obtain ⟨_,hd,xs,_,dd⟩:=dH I.hok e
  refine ⟨dd.typeIs,λb q => ?_,hd⟩;cases q;obtain ⟨ob,_,_,h1,h2,_⟩:=dd;exact ⟨ob,h1,h2.2.1⟩
section
variable{X:Cx}{pins:List (Addr×Obj)}{σ:St}{H:Hp}{s:Shared}{a:Addr}{y d:V}{u r:Value}{o:Option V}{A:Around}{E:Value->Shared->Prop}
theorem G4{Q:Value->Shared->Prop}(hu:A.units+1 < cLine)(I:Inv X pins σ H s)(g:DGet H a y o)(ry:RelV y u)(rd:RelV d r)(h:∀ w' s',Inv X pins σ H s'->RelV (o.getD d) w'->Q w' s'):
  wpAny (model X.prog X.w) A (call (.builtin "dict.get") [.ref a,u,r]) Q E s:=by
 rcases g with ⟨kvs,k,e,ey,l⟩ | ⟨kvs,k,b,e,ey,eb,l⟩
 .subst ey
  obtain ⟨z,hd,vs,rel,dd⟩:=dG I.hok e;refine call_meetsIn PySem.F.slot_dict_get dd.typeIs PySem.F.entry_dict_get (PySem.F.args_dict_get_3 _ _ _) (meets_dict_get_default (aP X.prog X.w) a (dE ry) hd r) ⟨_,dd.mapOf,h _ _ (I.tok _) ?_⟩;rw [l];exact (rel.val k).getD rd
 .subst ey
  cases (show u=Value.ref b from ry);obtain ⟨z,hd,xs,rel,dd⟩:=dH I.hok e;refine call_meetsIn PySem.F.slot_dict_get dd.typeIs PySem.F.entry_dict_get (PySem.F.args_dict_get_3 _ _ _) (meetsH_dict_get_default (tupleKind (aP X.prog X.w)) a b hd r) ⟨tupleKind_room_in1 hu,k,xs,dC I.hok eb,dd,h _ _ (I.tok _) ?_⟩;rw [l];exact (rel.val k).getD rd
end
noncomputable def Ez(td ty tx:TE):TE:=λσ H Q=>td σ H λx H1 => ∃ a,x=.ref a/\IsD H1 a/\ty σ H1 λy H2=>tx σ H2 λz H3 => ∃ o,DGet H3 a y o/\Q (o.getD z) H3
section
variable{X:Cx}{o e f:Expr}{apos cpos:Pos}{td ty tx:TE}
theorem A4(hu:X.A.units+1 < cLine)(ho:PE X o td)(he:PE X e ty)(hf:PE X f tx)(m:M2 X o "get" apos e f cpos):PE X (.Call (.Attribute o "get" apos) [e,f] [] cpos) (Ez td ty tx):=by
 intro pins s σ H Q I h;refine wpAny_Call_method m.base m.few m.line PySem.F.plainAttrs_dict PySem.F.slot_dict_get PySem.F.type_dict_get (thn (ho pins s σ H _ I h) λu s1 ⟨x,H1,I1,rx,a,ex,d,q1⟩ => ?_);subst ex;obtain rfl:u=Value.ref a:=rx;obtain ⟨t1,t2,_⟩:=En I1 d;refine ⟨t1,t2,?_⟩;rw [m.trees];refine Calls.callWith_builtin rfl (Calls.evalArgs_plain (Calls.spliced_cons (thn (he pins s1 σ H1 _ I1 q1) λiv s2 ⟨y,H2,I2,ry,q2⟩ =>
  Calls.spliced_cons (thn (hf pins s2 σ H2 _ I2 q2) λfv s3 ⟨z,H3,I3,rz,ov,g,q3⟩=>Calls.spliced_nil ?_))))
 exact G4 hu I3 g ry rz λw' s4 I4 rw'=>⟨_,H3,I4,rw',q3⟩
end
end L2
namespace PI
noncomputable section
open PySem
section
variable{t:SetTable}{es:Array (Int×Value)}{Z:Z3}
end
section
variable{t:SetTable}{es:Array (Int×Value)}{Z:Z3}
end
section
variable{M:Nat}{owner:Own}{hs:List Int}{Y:List Nat}
end
section
variable{t:SetTable}{es:Array (Int×Value)}{Z:Z3}
end
open PySem PyProof.Rows
section
variable{prog:Program}{w:World}{A:Around}{E:Value->Shared->Prop}{s:Shared}
end
section
variable{prog:Program}{w:World}{A:Around}{E:Value->Shared->Prop}{s:Shared}{a b:Addr}{o:Obj}{D:List (List Int×Addr)}{es:Array (Int×Value)}{ep:Nat}{t:SetTable}{Z:Z3}{k:List Int}
end
section
variable{prog:Program}{w:World}{A:Around}{E:Value->Shared->Prop}{s:Shared}{a b:Addr}{o:Obj}{D:List (List Int×Addr)}{es:Array (Int×Value)}{ep:Nat}{t:SetTable}{Z:Z3}{k:List Int}
end
section
variable{prog:Program}{w:World}{A:Around}{R:Result->Shared->Prop}{I:Addr}{fp wr:List Addr}{G:Array GenState->Array GenState->Prop}{n:Nat}{P:Nat->Value->Prop}{St:Nat->Shared->Prop}
end
section
variable{prog:Program}{w:World}{A:Around}{E:Value->Shared->Prop}{s:Shared}
end
section
variable{prog:Program}{w:World}{A:Around}{E:Value->Shared->Prop}{s:Shared}{S it:Addr}{o:Obj}{D:List (List Int×Addr)}{es:Array (Int×Value)}{ep:Nat}{t:SetTable}{Z:Z3}
end
noncomputable def yK:List Int->List Int->Bool
 | [],[]=>false
 | [],_ :: _=>true
 | _ :: _,[]=>false
 | a :: r,b :: q=>if a=b then yK r q else decide (a < b)
section
variable{prog:Program}{w:World}{A:Around}{E:Value->Shared->Prop}{s:Shared}
end
section
variable{prog:Program}{w:World}{A:Around}{E:Value->Shared->Prop}{s:Shared}{a₀ : Array Keyed}{rk:Keyed->Nat}{κ:SortKind}{st:SortSt}{lo hi:Nat}
end
section
variable{prog:Program}{w:World}{A:Around}{E:Value->Shared->Prop}{s:Shared}{a₀ : Array Keyed}{rk:Keyed->Nat}{κ:SortKind}{st:SortSt}{lo hi:Nat}
end
section
variable{prog:Program}{w:World}{A:Around}{E:Value->Shared->Prop}{s:Shared}{a₀ : Array Keyed}{rk:Keyed->Nat}{κ:SortKind}{st:SortSt}{lo hi:Nat}
end
noncomputable abbrev KyB:=List (List Int×Addr)
section
variable{prog:Program}{w:World}{A:Around}{E:Value->Shared->Prop}{s:Shared}{D:KyB}
end
section
variable{prog:Program}{w:World}{A:Around}{E:Value->Shared->Prop}{s:Shared}{a₀ : Array Keyed}{rk:Keyed->Nat}{κ:SortKind}{st:SortSt}
end
section
variable{rk:Keyed->Nat}{a b out:List Keyed}{ia ib:Nat}
end
section
variable{prog:Program}{w:World}{A:Around}{E:Value->Shared->Prop}{s:Shared}{a₀ : Array Keyed}{rk:Keyed->Nat}{κ:SortKind}{st:SortSt}
end
section
variable{prog:Program}{w:World}{A:Around}{E:Value->Shared->Prop}{s:Shared}{a₀ : Array Keyed}{rk:Keyed->Nat}{κ:SortKind}{st:SortSt}
end
section
variable{rk:Keyed->Nat}{a b out:List Keyed}{na nb:Nat}
end
section
variable{prog:Program}{w:World}{A:Around}{E:Value->Shared->Prop}{s:Shared}{a₀ : Array Keyed}{rk:Keyed->Nat}{κ:SortKind}{st:SortSt}
end
section
variable{rk:Keyed->Nat}
end
section
variable{prog:Program}{w:World}{A:Around}{E:Value->Shared->Prop}{s:Shared}{a₀ : Array Keyed}{rk:Keyed->Nat}{κ:SortKind}{st:SortSt}
end
section
variable{r r':Nat->Nat}
end
section
variable{prog:Program}{w:World}{A:Around}{E:Value->Shared->Prop}{s:Shared}{a₀ : Array Keyed}{rk:Keyed->Nat}{κ:SortKind}{st:SortSt}
end
section
variable{prog:Program}{w:World}{A:Around}{E:Value->Shared->Prop}{s:Shared}{a₀ : Array Keyed}{rk:Keyed->Nat}{κ:SortKind}{st:SortSt}
end
open PySem PyProof.Rows PySem.W
noncomputable def refs(D:KyB):List Value:=D.map λd => .ref d.2
section
variable{prog:Program}{w:World}{A:Around}{E:Value->Shared->Prop}{s:Shared}{D:KyB}
end
section
variable{prog:Program}{w:World}{A:Around}{E:Value->Shared->Prop}{s:Shared}{D:KyB}
end
open PySem
noncomputable section
set_option genInjectivity false in
inductive O where
 | lst (xs:List U) | dic (kvs:List (List Int×U)) | dif (kvs:List (List Int×U)) | dst (kvs:List (Str×U)) | ins (c:Nat) (fs:List (Nat×U))
noncomputable abbrev G:=List O
noncomputable abbrev Su:=List (Option U)
inductive Out(α:Type) where
 | ok (a:α) (g:G) | exc (c:Nat) (fs:List U) (g:G) | bad
noncomputable def Out.bind{α β:Type}(o:Out α)(k:α->G->Out β):Out β:=match o with
 | .ok a g=>k a g
 | .exc c fs g => .exc c fs g
 | .bad => .bad
noncomputable def Out.noex{α:Type}(o:Out α):Out α:=match o with
 | .ok a g => .ok a g
 | _ => .bad
noncomputable def Out.bindB{α β:Type}(o:Out α)(k:α->G->Out β):Out β:=match o with
 | .ok a g=>k a g
 | _ => .bad
set_option genInjectivity false in
inductive Fl where | nx (σ:Su) | rt (u:U) | bk (σ:Su) | ct (σ:Su)
set_option genInjectivity false in
inductive Iter where | lst (id:Nat) | dic (id:Nat) | enm (id:Nat) | seq (xs:List U) | rng (lo:Int) (n:Nat)
noncomputable def aH(x y:U):Option Bool:=match x with
 | .non=>match y with
  | .non=>some true
  | .bl _=>some false
  | .int _=>some false
  | .str _=>some false
  | _=>none
 | .bl a=>match y with
  | .non=>some false
  | .bl b=>some (a == b)
  | .int b=>some ((if a then 1 else 0) == b)
  | .str _=>some false
  | _=>none
 | .int a=>match y with
  | .non=>some false
  | .bl b=>some (a == (if b then 1 else 0))
  | .int b=>some (a == b)
  | .str _=>some false
  | _=>none
 | .str a=>match y with
  | .non=>some false
  | .bl _=>some false
  | .int _=>some false
  | .str b=>some (a == b)
  | _=>none
 | _=>none
noncomputable def aL:List U->List U->Option Bool
 | [],[]=>some true
 | x :: xs,y :: ys=>match aH x y with
  | none=>none
  | some b=>match aL xs ys with
   | none=>none
   | some c=>some (b && c)
 | _,_=>none
noncomputable def ueq:U->U->Option Bool
 | .tup xs,.tup ys=>aL xs ys
 | x,y=>aH x y
noncomputable def eU:U->U->Bool
 | .int _,.int _=>true
 | .bl _,.bl _=>true
 | .str _,.str _=>true
 | .non,.non=>true
 | _,_=>false
noncomputable def dF:Int:=18446744073709551616
noncomputable def aw:Int:=115792089237316195423570985008687907853269984665640564039457584007913129639936
noncomputable def opZ(op:Op)(i j:Int):Option U:=match op with
 | .add=>some (.int (i+j))
 | .sub=>some (.int (i - j))
 | .mul=>if (decide (-dF < i) && decide (i < dF)) || (decide (-dF < j) && decide (j < dF)) || (decide (-aw < i) && decide (i < aw) && decide (-aw < j) && decide (j < aw)) then some (.int (i*j)) else none
 | .fdiv=>if 0 < j then (if j < aw then some (.int (i / j)) else none)
   else if j=0 then none else if -aw < j then some (.int (i.fdiv j)) else none
 | .mod=>if 0 < j then some (.int (i % j)) else if j=0 then none else some (.int (i.fmod j))
 | .pow=>if 0<=j/\j<=1000/\i.natAbs < 1000000 then some (.int (i ^ j.toNat)) else none
noncomputable def op2(op:Op)(x y:U):Option U:=match x with
 | .int i=>match y with
  | .int j=>opZ op i j
  | _=>none
 | _=>none
noncomputable def fg:Op->U->U->Option U
 | .add,.int a,.int b=>some (.int (a+b))
 | .sub,.int a,.int b=>some (.int (a - b))
 | _,_,_=>none
noncomputable def uin(x:U):List U->Option Bool
 | []=>some false
 | y :: ys=>match ueq y x with
  | none=>none
  | some b=>match uin x ys with
   | none=>none
   | some c=>some (b || c)
noncomputable def items(u:U)(g:G):Option (List U):=match u with
 | .tup xs=>some xs
 | .fro xs=>some xs
 | .xn _ xs=>some xs
 | .ref n=>match g[n]? with
  | some (.lst xs)=>some xs
  | _=>none
 | _=>none
noncomputable def aU:U->Bool
 | .non=>true
 | _=>false
noncomputable def intsOf:List U->Option (List Int)
 | []=>some []
 | .int i :: r=>(intsOf r).map (i :: ·)
 | _ :: _=>none
noncomputable def keyOf(u:U):Option (List Int):=match u with
 | .tup us=>intsOf us
 | _=>none
noncomputable def aF(kvs:List (List Int×U))(k:List Int):Option U:=(kvs.find? λkv=>decide (kv.1=k)).map (·.2)
noncomputable def dput(kvs:List (List Int×U))(k:List Int)(v:U):List (List Int×U) :=
 if (kvs.any λkv=>decide (kv.1=k))=true then kvs.map (λkv=>if kv.1=k then (kv.1,v) else kv) else kvs++[(k,v)]
noncomputable def eQ(kvs:List (List Int×U))(x:U):Option (List (List Int×U)):=match x with
 | .tup [k,u]=>(keyOf k).map λks=>dput kvs ks u
 | _=>none
noncomputable def dfold:List U->List (List Int×U)->Option (List (List Int×U))
 | [],kvs=>some kvs
 | x :: r,kvs=>(eQ kvs x).bind λk=>dfold r k
noncomputable def aX(kvs:List (Str×U))(k:Str):Option U:=(kvs.find? λkv=>decide (kv.1=k)).map (·.2)
noncomputable def lq(kvs:List (Str×U))(k:Str)(v:U):List (Str×U) :=
 if (kvs.any λkv=>decide (kv.1=k))=true then kvs.map (λkv=>if kv.1=k then (kv.1,v) else kv) else kvs++[(k,v)]
noncomputable def asS(y:U)(g:G):Option (List (Str×U)):=match y with
 | .ref n=>match g[n]? with
  | some (.dst kvs)=>some kvs
  | _=>none
 | _=>none
noncomputable def asD(y:U)(g:G):Option (List (List Int×U)):=match y with
 | .ref n=>match g[n]? with
  | some (.dic kvs)=>some kvs
  | some (.dif kvs)=>some kvs
  | _=>none
 | _=>none
noncomputable def aB(x y:U)(g:G):Option (Option U):=match asD y g with
 | some kvs=>(keyOf x).map (aF kvs)
 | none=>none
noncomputable def bR(x y:U)(g:G):Option (List U×List U):=match x with
 | .ref n=>match y with
  | .ref m=>match g[n]? with
   | some (.lst xs)=>match g[m]? with
    | some (.lst ys)=>some (xs,ys)
    | _=>none
   | _=>none
  | _=>none
 | _=>none
noncomputable def qs(q:U->U->Option Bool):List U->List U->Option Bool
 | [],[]=>some true
 | x :: xs,y :: ys=>match q x y with
  | none=>none
  | some b=>match qs q xs ys with
   | none=>none
   | some c=>some (b && c)
 | _,_=>none
noncomputable def lg:U->U->Option Bool
 | .tup xs,.tup ys=>qs ueq xs ys
 | x,y=>aH x y
noncomputable def cmp2(op:Cp)(x y:U)(g:G):Option Bool:=match op with
 | .eq=>match bR x y g with
  | some p=>qs lg p.1 p.2
  | none=>ueq x y
 | .ne=>if eU x y then (aH x y).map (!·) else none
 | .lt=>match x,y with | .int i,.int j=>some (decide (i < j)) | _,_=>none
 | .le=>match x,y with | .int i,.int j=>some (decide (i<=j)) | _,_=>none
 | .gt=>match x,y with | .int i,.int j=>some (decide (j < i)) | _,_=>none
 | .ge=>match x,y with | .int i,.int j=>some (decide (j<=i)) | _,_=>none
 | .isN=>if aU y then some (aU x) else none
 | .notN=>if aU y then some (!aU x) else none
 | .inn=>match items y g with | some ys=>uin x ys | none=>(aB x y g).map Option.isSome
 | .nin=>match items y g with | some ys=>(uin x ys).map (!·) | none=>(aB x y g).map λo => !o.isSome
noncomputable def tru(u:U)(g:G):Option Bool:=match u with
 | .non=>some false
 | .bl b=>some b
 | .int i=>some (i != 0)
 | .tup xs=>some (!xs.isEmpty)
 | .fro xs=>some (!xs.isEmpty)
 | .ref n=>match g[n]? with
  | some (.lst xs)=>some (!xs.isEmpty)
  | _=>none
 | _=>none
noncomputable def uix(xs:List U)(i:Int):Option U:=L2.atI xs i
noncomputable def lift{α:Type}(o:Option α)(g:G):Out α:=match o with
 | some a => .ok a g
 | none => .bad
noncomputable def alloc(o:O)(g:G):Out U := .ok (.ref g.length) (g++[o])
noncomputable def aj:Nat:=16777000
noncomputable def bQ(op:Op)(x y:U)(g:G):Out U:=match bR x y g with
 | some p=>match op with
  | .add=>if p.1.length+p.2.length<=aj then alloc (.lst (p.1++p.2)) g else .bad
  | _ => .bad
 | none=>lift (op2 op x y) g
noncomputable def a8(x:U)(g:G):Option (Nat×List (Nat×U)):=match x with
 | .ref n=>match g[n]? with
  | some (.ins c fs)=>some (c,fs)
  | _=>none
 | _=>none
noncomputable def eZ(j:Nat)(u:U):List (Nat×U)->List (Nat×U)
 | []=>[(j,u)]
 | (i,x) :: r=>if i=j then (i,u) :: r else (i,x) :: eZ j u r
noncomputable def c8(j:Nat)(cs:List Nat)(p:Nat×List (Nat×U)):Option U:=if cs.contains p.1 then p.2.lookup j else none
noncomputable def bW(x:U)(j:Nat)(cs:List Nat)(u:U)(g:G):Option G:=match x with
 | .ref n=>match g[n]? with
  | some (.ins c fs)=>if cs.contains c/\fs.length < 1000 then some (g.set n (.ins c (eZ j u fs))) else none
  | _=>none
 | _=>none
noncomputable def cH(j:Nat)(tb:List (Nat×Nat×List (Nat ⊕ U)))(p:Nat×List (Nat×U)):Option (Nat×List (Nat ⊕ U)):=match p.2.lookup j with
 | none=>tb.lookup p.1
 | some _=>none
noncomputable def gm(t:Ty):Option Bool:=match t with | .tlist=>some true | .own _=>none | _=>some false
noncomputable def aW(t:Ty)(u:U)(g:G):Option Bool:=match u with
 | .non=>match t with | .own _=>none | _=>some false
 | .bl _=>match t with | .tint=>some true | .tbool=>some true | .own _=>none | _=>some false
 | .int _=>match t with | .tint=>some true | .own _=>none | _=>some false
 | .str _=>match t with | .tstr=>some true | .own _=>none | _=>some false
 | .tup _=>match t with | .ttuple=>some true | .own _=>none | _=>some false
 | .ref n=>match g[n]? with
  | some (.lst _)=>gm t
  | _=>none
 | _=>none
noncomputable def bB(xs:List U)(lo hi:Option Int):List U:=(xs.drop (HT.sIx xs.length 0 lo)).take (HT.sIx xs.length xs.length hi - HT.sIx xs.length 0 lo)
noncomputable def best(m:Bool)(a:Int)(r:List Int):Int:=r.foldl (λx y=>if m then (if y < x then y else x) else (if y > x then y else x)) a
noncomputable def insI(a:Int):List Int->List Int
 | []=>[a]
 | b :: r=>if a<=b then a :: b :: r else b :: insI a r
noncomputable def sortI:List Int->List Int
 | []=>[]
 | a :: r=>insI a (sortI r)
noncomputable def iU(us:List U)(g:G):Out U:=match us with
 | [u]=>match items u g with
  | some xs => .ok (.int xs.length) g
  | none => .bad
 | _ => .bad
noncomputable def kN(us:List U)(g:G):Out U:=match us with
 | [u]=>match u with
  | .int i => .ok (.int (if i < 0 then -i else i)) g
  | _ => .bad
 | _ => .bad
noncomputable def tupI(k:List Int):U := .tup (k.map .int)
noncomputable def gf(us:List U)(g:G):Out U:=match us with
 | [u]=>match items u g with
  | some xs=>alloc (.lst xs) g
  | none=>match asD u g with
   | some kvs=>alloc (.lst (kvs.map λkv=>tupI kv.1)) g
   | none => .bad
 | _ => .bad
noncomputable def jU(us:List U)(g:G):Option (List Int):=match us with
 | [.ref n]=>match g[n]? with
  | some (.lst xs)=>intsOf xs
  | _=>none
 | _=>none
noncomputable def yz(m:Bool)(us:List U)(g:G):Out U:=match intsOf us with
 | some ns=>match ns with
  | [a,b] => .ok (.int (best m a [b])) g
  | [a,b,c] => .ok (.int (best m a [b,c])) g
  | _ => .bad
 | none=>match jU us g with
  | some ns=>match ns with
   | a :: r => .ok (.int (best m a r)) g
   | [] => .bad
  | none => .bad
noncomputable def Hr(us:List U)(g:G):Out U:=match jU us g with
 | some ns => .ok (.int ns.sum) g
 | none => .bad
noncomputable def Je(us:List U)(g:G):Out U:=match us with
 | [u]=>match u with
  | .tup xs => .ok (.tup xs) g
  | .xn c xs => .ok (.xn c xs) g
  | .ref n=>match g[n]? with
   | some (.lst xs) => .ok (.tup xs) g
   | _ => .bad
  | _ => .bad
 | _ => .bad
noncomputable def xB(g:G):List U->Option (List U)
 | []=>some []
 | .ref n :: r=>match g[n]? with
  | some (.lst xs)=>(xB g r).map (xs ++ ·)
  | _=>none
 | _ :: _=>none
noncomputable def HJ(us:List U)(g:G):Out U:=match us with
 | [.ref n,.ref m]=>match g[n]? with
  | some (.lst (x :: xs))=>match g[m]? with
   | some (.lst [])=>match xB g (x :: xs) with
    | some zs=>if zs.length<=aj then alloc (.lst zs) g else .bad
    | none => .bad
   | _ => .bad
  | _ => .bad
 | _ => .bad
noncomputable def xv:List U->Option (List (List Int))
 | []=>some []
 | u :: r=>match keyOf u with
  | none=>none
  | some k=>match xv r with
   | none=>none
   | some ks=>some (k :: ks)
noncomputable def yj(a:List Int):List (List Int)->List (List Int)
 | []=>[a]
 | b :: r=>if a=b then b :: r else if yK a b=true then a :: b :: r else b :: yj a r
noncomputable def sU:List (List Int)->List (List Int)
 | []=>[]
 | a :: r=>yj a (sU r)
noncomputable def hkL(k:List Int):Int:=reduceHash (Builtin.Tuple.tupleHashOf (k.map hashInt))
noncomputable def okS(ks:List (List Int)):Prop:=ks.length<=300/\(∀ k∈ks,k≠[]) /\ ∀ a∈ks,∀ b∈ks,hkL a=hkL b->a=b
noncomputable def Ga(us:List U)(g:G):Out U:=match us with
 | [.ref n]=>match g[n]? with
  | some (.lst xs)=>match xv xs with
   | some ks=>open Classical in if okS ks then alloc (.lst ((sU ks).map tupI)) g else .bad
   | none => .bad
  | _ => .bad
 | _ => .bad
noncomputable def FR(us:List U)(g:G):Out U:=match us with
 | [u]=>match asD u g with
  | some kvs=>open Classical in if kvs.length < 100000/\(kvs.map (·.1)).Nodup /\ ∀ k∈kvs.map (·.1),k≠[] then alloc (.lst ((sU (kvs.map (·.1))).map tupI)) g else .bad
  | none => .bad
 | _ => .bad
noncomputable def IY(us:List U)(g:G):Out U:=match jU us g with
 | some ns=>if ns.length < 64 then alloc (.lst ((sortI ns).map U.int)) g else .bad
 | none=>FR us g
noncomputable def iZ(us:List U)(g:G):Out U:=match us with
 | [u]=>match asD u g with
  | some kvs=>open Classical in if kvs≠[] /\ ∀ a∈kvs.map (·.1),∀ b∈kvs.map (·.1),hkL a=hkL b->a=b then alloc (.dic kvs) g else .bad
  | none => .bad
 | _ => .bad
noncomputable def bi1(b:Bi)(us:List U)(g:G):Out U:=match b with
 | .len=>iU us g
 | .abs=>kN us g
 | .list=>gf us g
 | .mn=>yz true us g
 | .mx=>yz false us g
 | .srt=>IY us g
 | .sum=>Hr us g
 | .tupl=>Je us g
 | .cat=>HJ us g
 | .sset=>Ga us g
 | .dct=>iZ us g
noncomputable def asL(x:U)(g:G):Option Nat:=match x with
 | .ref n=>match g[n]? with
  | some (.lst _)=>some n
  | _=>none
 | _=>none
noncomputable def bO(n:Nat)(y:U)(g:G):Out U:=match g[n]? with
 | some (.lst xs)=>if xs.length < aj then .ok .non (g.set n (.lst (xs++[y]))) else .bad
 | _ => .bad
noncomputable def cK(n:Nat)(y:U)(g:G):Out U:=match asL y g with
 | some m=>match g[n]?,g[m]? with
  | some (.lst xs),some (.lst ys)=>if xs.length+ys.length < aj then .ok .non (g.set n (.lst (xs++ys))) else .bad
  | _,_ => .bad
 | none => .bad
noncomputable def cJ(n:Nat)(g:G):Out U:=match g[n]? with
 | some (.lst xs) => .ok .non (g.set n (.lst xs.reverse))
 | _ => .bad
noncomputable def b8(n:Nat)(g:G):Out U:=match g[n]? with
 | some (.lst xs)=>match xs[xs.length - 1]? with
  | some y => .ok y (g.set n (.lst xs.dropLast))
  | none => .bad
 | _ => .bad
noncomputable def fY(n:Nat)(y:U)(g:G):Out U:=match y with
 | .int i=>match g[n]? with
  | some (.lst xs)=>if 0<=i/\i < 9223372036854775808 then match xs[i.toNat]? with
   | some u => .ok u (g.set n (.lst (xs.eraseIdx i.toNat)))
   | none => .bad
   else .bad
  | _ => .bad
 | _ => .bad
noncomputable def evs(f:E->Su->G->Out U):List E->Su->G->Out (List U)
 | [],_,g => .ok [] g
 | e :: es,σ,g=>(f e σ g).bind λu g=>(evs f es σ g).bind λus g => .ok (u :: us) g
noncomputable def evo(f:E->Su->G->Out U):Option E->Su->G->Out (Option Int)
 | none,_,g => .ok none g
 | some e,σ,g=>(f e σ g).bind λu g=>match u with
  | .int i => .ok (some i) g
  | _ => .bad
noncomputable def next(it:Iter)(i:Nat)(g:G):Option (Option U):=match it with
 | .lst id=>match g[id]? with
  | some (.lst xs)=>some xs[i]?
  | _=>none
 | .dic id=>match g[id]? with
  | some (.dif kvs)=>some ((kvs[i]?).map λkv => .tup (kv.1.map .int))
  | _=>none
 | .enm id=>match g[id]? with
  | some (.lst xs)=>some ((xs[i]?).map λu => .tup [.int i,u])
  | _=>none
 | .seq xs=>some xs[i]?
 | .rng lo n=>some (if i < n then some (.int (lo+i)) else none)
noncomputable def bindL:List Nat->List U->Su->Option Su
 | [],[],σ=>some σ
 | i :: is,u :: us,σ=>if i < σ.length then bindL is us (σ.set i (some u)) else none
 | _,_,_=>none
noncomputable def bA(t:Tg)(σ:Su):Bool:=match t with
 | .nm i=>match σ[i]? with | some none=>true | _=>false
 | .tp is=>is.all λi=>match σ[i]? with | some none=>true | _=>false
noncomputable def az(t:Tg)(u:U)(σ:Su):Option Su:=match t with
 | .nm i=>if i < σ.length then some (σ.set i (some u)) else none
 | .tp is=>match u with
  | .tup us=>bindL is us σ
  | _=>none
noncomputable def unl(t:Tg)(u:U)(g:G):U:=match t with
 | .nm _=>u
 | .tp _=>match u with
  | .ref n=>match g[n]? with
   | some (.lst xs) => .tup xs
   | _=>u
  | _=>u
noncomputable def pick(us:List U)(p:Nat ⊕ U):U:=match p with
 | .inl i=>us[i]?.getD .non
 | .inr u=>u
noncomputable def perm(us:List U)(pm:List (Nat ⊕ U)):List U:=pm.map (pick us)
set_option genInjectivity false in
structure L where
 ev:E->Su->G->Out U
 ts:E->Su->G->Out Bool
 ex:List S->Su->G->Out Fl
 wh:E->List S->Su->G->Out Fl
 fr:Tg->Iter->Nat->List S->Su->G->Out Fl
 cm:Iter->Nat->Tg->List E->List (Tg×E×List E)->E->List U->Su->G->Out (List U)
noncomputable def itF(r:L)(e:E)(σ:Su)(g:G):Out Iter:=match e with
 | .rng1 a=>(r.ev a σ g).bind λu g=>match u with
  | .int j=>if -1000000 < j/\j < 1000000 then .ok (.rng 0 j.toNat) g else .bad
  | _ => .bad
 | .rng2 a b=>(r.ev a σ g).bind λu g=>(r.ev b σ g).bind λw g=>match u,w with
  | .int i,.int j=>if -1000000 < i/\i < 1000000 /\ -1000000 < j/\j < 1000000 then .ok (.rng i (j - i).toNat) g else .bad
  | _,_ => .bad
 | .enm a=>(r.ev a σ g).bind λu g=>match asL u g with
  | some n => .ok (.enm n) g
  | none => .bad
 | e=>(r.ev e σ g).bind λu g=>match u with
  | .tup xs => .ok (.seq xs) g
  | .xn _ xs => .ok (.seq xs) g
  | .ref n=>match g[n]? with
   | some (.lst _) => .ok (.lst n) g
   | some (.dic kvs) => .ok (.dic n) (g.set n (.dif kvs))
   | some (.dif _) => .ok (.dic n) g
   | _ => .bad
  | _ => .bad
noncomputable def evF(C:Nat->List U->G->Out U)(r:L)(e:E)(σ:Su)(g:G):Out U:=match e with
 | .var i=>match σ[i]? with
  | some (some u) => .ok u g
  | _ => .bad
 | .cst u => .ok u g
 | .bin op a b=>(r.ev a σ g).bind λx g=>(r.ev b σ g).bind λy g=>bQ op x y g
 | .cmp op a b=>(r.ev a σ g).bind λx g=>(r.ev b σ g).bind λy g=>match cmp2 op x y g with
  | some c => .ok (.bl c) g
  | none => .bad
 | .chain op op' a b c=>(r.ev a σ g).bind λx g=>(r.ev b σ g).bind λy g=>match cmp2 op x y g with
  | some true=>(r.ev c σ g).bind λz g=>match cmp2 op' y z g with
   | some c => .ok (.bl c) g
   | none => .bad
  | some false => .ok (.bl false) g
  | none => .bad
 | .and a b=>(r.ev a σ g).bind λx g=>match x with
  | .bl true=>r.ev b σ g
  | .bl false => .ok (.bl false) g
  | _ => .bad
 | .or a b=>(r.ev a σ g).bind λx g=>match x with
  | .bl true => .ok (.bl true) g
  | .bl false=>r.ev b σ g
  | _ => .bad
 | .not a=>(r.ev a σ g).bind λx g=>match tru x g with
  | some c => .ok (.bl (!c)) g
  | none => .bad
 | .neg a=>(r.ev a σ g).bind λx g=>match x with
  | .int i => .ok (.int (-i)) g
  | _ => .bad
 | .ite c a b=>(r.ts c σ g).bind λk g=>if k then r.ev a σ g else r.ev b σ g
 | .tup es=>(evs r.ev es σ g).bind λus g=>if us.length<=aj then .ok (.tup us) g else .bad
 | .lst es=>(evs r.ev es σ g).bind λus g=>if us.length<=aj then alloc (.lst us) g else .bad
 | .idx a b=>(r.ev a σ g).bind λx g=>(r.ev b σ g).bind λy g=>match y with
  | .int i=>match items x g with
   | some xs=>lift (uix xs i) g
   | none => .bad
  | .tup _=>lift ((aB y x g).bind id) g
  | .str k=>lift ((asS x g).bind λkvs=>aX kvs k) g
  | _ => .bad
 | .slc a lo hi=>(r.ev a σ g).bind λx g=>(evo r.ev lo σ g).bind λl g=>(evo r.ev hi σ g).bind λh g=>match x with
  | .tup xs=>if HT.sIx xs.length 0 l=0/\HT.sIx xs.length xs.length h=xs.length then .bad else .ok (.tup (bB xs l h)) g
  | .fro xs=>alloc (.lst (bB xs l h)) g
  | .ref n=>match g[n]? with
   | some (.lst xs)=>alloc (.lst (bB xs l h)) g
   | _ => .bad
  | _ => .bad
 | .rev a=>(r.ev a σ g).bind λx g=>match x with
  | .ref n=>match g[n]? with
   | some (.lst xs)=>alloc (.lst xs.reverse) g
   | _ => .bad
  | _ => .bad
 | .call f es=>(evs r.ev es σ g).bind λus g=>C f us g
 | .callx f es=>(evs r.ev es σ g).noex.bind λus g=>C f us g
 | .callk f es ks pm=>(evs r.ev es σ g).noex.bind λus g=>(evs r.ev ks σ g).noex.bind λws g=>if us.length=es.length/\ws.length=ks.length then C f (perm (us++ws) pm) g else .bad
 | .fld a j cs=>(r.ev a σ g).bind λx g=>lift ((a8 x g).bind (c8 j cs)) g
 | .make c f es ks pm=>(evs r.ev es σ g).bind λus g=>(evs r.ev ks σ g).bind λws g=>if us.length=es.length/\ws.length=ks.length then
   (C f (perm (.ref g.length :: us++ws) pm) (g++[.ins c []])).bind λu g'=>if aU u then .ok (.ref g.length) g' else .bad else .bad
 | .meth a j tb es ks=>(r.ev a σ g).bind λx g=>match (a8 x g).bind (cH j tb) with
  | some p=>(evs r.ev es σ g).bind λus g=>(evs r.ev ks σ g).bind λws g=>if us.length=es.length/\ws.length=ks.length then C p.1 (perm (x :: us++ws) p.2) g else .bad
  | none => .bad
 | .revm o=>(r.ev o σ g).bind λx g=>match asL x g with
  | some n=>cJ n g
  | none => .bad
 | .bi b es=>(evs r.ev es σ g).bind λus g=>bi1 b us g
 | .isi a t=>(r.ev a σ g).bind λx g=>match aW t x g with
  | some c => .ok (.bl c) g
  | none => .bad
 | .popi o v=>(r.ev o σ g).bind λx g=>match asL x g with
  | some n=>(r.ev v σ g).bind λy g=>fY n y g
  | none => .bad
 | .app o v=>(r.ev o σ g).bind λx g=>match asL x g with
  | some n=>(r.ev v σ g).bind λy g=>bO n y g
  | none => .bad
 | .ext o v=>(r.ev o σ g).bind λx g=>match asL x g with
  | some n=>(r.ev v σ g).bind λy g=>cK n y g
  | none => .bad
 | .pop o=>(r.ev o σ g).bind λx g=>match asL x g with
  | some n=>b8 n g
  | none => .bad
 | .rng1 _ => .bad
 | .rng2 _ _ => .bad
 | .enm _ => .bad
 | .dnew=>alloc (.dic []) g
 | .comp own fr gs elt=>match gs with
  | [] => .bad
  | (t,it,cs) :: rest=>(itF r it σ g).bind λi g =>
    (r.cm i 0 t cs rest elt [] (List.replicate own none++fr.map λj=>(σ[j]?).getD none) g).bindB λus g =>
     if us.length<=aj then alloc (.lst us) g else .bad
 | .ddsp ks es=>(evs r.ev es σ g).bind λus g=>alloc (.dst (ks.zip us)) g
 | .dgt o k x=>(r.ev o σ g).bind λd g=>match asD d g with
  | some _=>(r.ev k σ g).bind λy g=>(r.ev x σ g).bind λz g=>match aB y d g with
   | some w => .ok (w.getD z) g
   | none => .bad
  | none => .bad
 | .pair k v=>(r.ev k σ g).bind λx g=>(r.ev v σ g).bind λy g=>match keyOf x with
  | some _ => .ok (.tup [x,y]) g
  | none => .bad
 | .dcmp own fr gs k v=>match gs with
  | [] => .bad
  | (t,it,cs) :: rest=>(itF r it σ g).bind λi g =>
    (r.cm i 0 t cs rest (.pair k v) [] (List.replicate own none++fr.map λj=>(σ[j]?).getD none) g).bindB λus g=>match dfold us [] with
     | some kvs=>alloc (.dic kvs) g
     | none => .bad
noncomputable def tsF(r:L)(e:E)(σ:Su)(g:G):Out Bool:=match e with
 | .and a b=>(r.ts a σ g).bind λc g=>if c then r.ts b σ g else .ok false g
 | .or a b=>(r.ts a σ g).bind λc g=>if c then .ok true g else r.ts b σ g
 | .not a=>(r.ts a σ g).bind λc g => .ok (!c) g
 | .ite c a b=>(r.ts c σ g).bind λk g=>if k then r.ts a σ g else r.ts b σ g
 | e=>(r.ev e σ g).bind λx g=>lift (tru x g) g
noncomputable def lF(n:Nat)(k:Int)(u:U)(σ:Su)(g:G):Out Fl:=match g[n]? with
 | some (.lst xs)=>match L2.ixN xs.length k with
  | some j => .ok (.nx σ) (g.set n (.lst (xs.set j u)))
  | none => .bad
 | _ => .bad
noncomputable def lr(n:Nat)(us:List U)(u:U)(σ:Su)(g:G):Out Fl:=match g[n]? with
 | some (.dic kvs)=>match intsOf us with
  | some k=>if kvs.length < aj then .ok (.nx σ) (g.set n (.dic (dput kvs k u))) else .bad
  | none => .bad
 | _ => .bad
noncomputable def xW(n:Nat)(k:Str)(u:U)(σ:Su)(g:G):Out Fl:=match g[n]? with
 | some (.dst kvs)=>if kvs.length < aj then .ok (.nx σ) (g.set n (.dst (lq kvs k u))) else .bad
 | _ => .bad
noncomputable def Iy(kvs:List (List Int×U))(k:List Int):List (List Int×U):=kvs.filter λx => !decide (x.1=k)
noncomputable def gr(x y:U)(σ:Su)(g:G):Out Fl:=match x with
 | .ref n=>match g[n]? with
  | some (.dic kvs)=>match keyOf y with
   | some k=>if k∈kvs.map (·.1) then .ok (.nx σ) (g.set n (.dic (Iy kvs k))) else .bad
   | none => .bad
  | _ => .bad
 | _ => .bad
noncomputable def subAt(x y u:U)(σ:Su)(g:G):Out Fl:=match x with
 | .ref n=>match y with
  | .int k=>lF n k u σ g
  | .tup us=>lr n us u σ g
  | .str k=>xW n k u σ g
  | _ => .bad
 | _ => .bad
noncomputable def xvs(fs:List U):List (Option U)->Option (List U)
 | []=>some []
 | some u :: r=>(xvs fs r).map (u :: ·)
 | none :: r=>match fs with
  | [v]=>(xvs fs r).map (v :: ·)
  | _=>none
noncomputable def lG(o:Out U)(j c:Nat)(xs:List (Option U))(σ:Su):Out Fl:=match o with
 | .ok u g=>if j < σ.length then .ok (.nx (σ.set j (some u))) g else .bad
 | .exc c' fs g=>if c'=c/\j < σ.length/\xs.length<=aj/\fs.length=1 then match xvs fs xs with
  | some us => .ok (.nx ((List.replicate σ.length none).set j (some (.tup us)))) g
  | none => .bad
  else .bad
 | .bad => .bad
noncomputable def s1F(r:L)(s:S)(σ:Su)(g:G):Out Fl:=match s with
 | .ret e=>(r.ev e σ g).bind λu g => .ok (.rt u) g
 | .retN => .ok (.rt .non) g
 | .set t e=>(r.ev e σ g).bind λu g=>match az t (unl t u g) σ with
   | some σ' => .ok (.nx σ') g
   | none => .bad
 | .par i j a b=>(r.ev a σ g).bind λu g=>(r.ev b σ g).bind λw g =>
    if i < σ.length/\j < σ.length then .ok (.nx ((σ.set i (some u)).set j (some w))) g else .bad
 | .del o i=>(r.ev o σ g).bind λx g=>(r.ev i σ g).bind λy g=>gr x y σ g
 | .sub o i e=>(r.ev e σ g).bind λu g=>(r.ev o σ g).bind λx g=>(r.ev i σ g).bind λy g=>subAt x y u σ g
 | .aug i op e=>match σ[i]? with
   | some (some x)=>(r.ev e σ g).bind λy g=>match fg op x y with
    | some z => .ok (.nx (σ.set i (some z))) g
    | none => .bad
   | _ => .bad
 | .exp e=>(r.ev e σ g).bind λ_ g => .ok (.nx σ) g
 | .ife c a b=>(r.ts c σ g).bind λk g=>if k then r.ex a σ g else r.ex b σ g
 | .whl c b=>r.wh c b σ g
 | .for t it b=>(itF r it σ g).bind λi g=>r.fr t i 0 b σ g
 | .pass => .ok (.nx σ) g
 | .brk => .ok (.bk σ) g
 | .cont => .ok (.ct σ) g
 | .never => .bad
 | .fset a j cs e=>(r.ev e σ g).bind λu g=>(r.ev a σ g).bind λx g=>match bW x j cs u g with
  | some g' => .ok (.nx σ) g'
  | none => .bad
 | .nox b=>(r.ex b σ g).noex
 | .ifx c a b=>(r.ts c σ g).noex.bind λk g=>if k then r.ex a σ g else r.ex b σ g
 | .forx t it b=>(itF r it σ g).noex.bind λi g=>r.fr t i 0 b σ g
 | .raise c es=>(evs r.ev es σ g).noex.bind λus g=>if us.length<=aj then .exc c us g else .bad
 | .tryf j f es c xs=>lG (r.ev (.callx f es) σ g) j c xs σ
noncomputable def exF(r:L)(ss:List S)(σ:Su)(g:G):Out Fl:=match ss with
 | [] => .ok (.nx σ) g
 | s :: rest=>(s1F r s σ g).bind λf g=>match f with
  | .nx σ'=>r.ex rest σ' g
  | f => .ok f g
noncomputable def whF(r:L)(c:E)(b:List S)(σ:Su)(g:G):Out Fl :=
 (r.ts c σ g).bind λk g=>if k then (r.ex b σ g).bind λf g=>match f with
  | .nx σ'=>r.wh c b σ' g
  | .ct σ'=>r.wh c b σ' g
  | .bk σ' => .ok (.nx σ') g
  | .rt u => .ok (.rt u) g
 else .ok (.nx σ) g
noncomputable def frF(r:L)(t:Tg)(it:Iter)(i:Nat)(b:List S)(σ:Su)(g:G):Out Fl:=match next it i g with
 | none => .bad
 | some none => .ok (.nx σ) g
 | some (some u)=>match az t u σ with
  | none => .bad
  | some σ1=>(r.ex b σ1 g).bind λf g=>match f with
   | .nx σ'=>r.fr t it (i+1) b σ' g
   | .ct σ'=>r.fr t it (i+1) b σ' g
   | .bk σ' => .ok (.nx σ') g
   | .rt u => .ok (.rt u) g
noncomputable def aT(f:E->Su->G->Out Bool):List E->Su->G->Out Bool
 | [],_,g => .ok true g
 | c :: cs,σ,g=>(f c σ g).bind λk g=>if k then aT f cs σ g else .ok false g
noncomputable def cmF(r:L)(it:Iter)(i:Nat)(t:Tg)(cs:List E)(rest:List (Tg×E×List E))(elt:E)(acc:List U)(σ:Su)(g:G):Out (List U):=match next it i g with
 | none => .bad
 | some none => .ok acc g
 | some (some u)=>if bA t σ then match az t u σ with
  | none => .bad
  | some σ1=>(aT r.ts cs σ1 g).bindB λk g=>if k then
    match rest with
    | []=>(r.ev elt σ1 g).bindB λv g=>if acc.length < aj then r.cm it (i+1) t cs rest elt (acc++[v]) σ g else .bad
    | (t2,it2,cs2) :: rest2=>(itF r it2 σ1 g).bindB λj g=>(r.cm j 0 t2 cs2 rest2 elt acc σ1 g).bindB λacc2 g=>r.cm it (i+1) t cs rest elt acc2 σ g
   else r.cm it (i+1) t cs rest elt acc σ g
  else .bad
noncomputable def lev(C:Nat->List U->G->Out U):Nat->L
 | 0=>⟨λ_ _ _ => .bad,λ_ _ _ => .bad,λ_ _ _ => .bad,λ_ _ _ _ => .bad,λ_ _ _ _ _ _ => .bad,λ_ _ _ _ _ _ _ _ _ => .bad⟩
 | n+1=>let r:=lev C n
  ⟨evF C r,tsF r,exF r,whF r,frF r,cmF r⟩
noncomputable def dk(fu:Nat)(C:Nat->List U->G->Out U)(F:Fn)(us:List U)(g:G):Out U :=
 if us.length=F.np then
  ((lev C fu).ex F.body (us.map some++List.replicate (F.ns - us.length) none) g).bind λf g=>match f with
   | .rt u => .ok u g
   | .nx _ => .ok .non g
   | _ => .bad
 else .bad
noncomputable def aa(fns:List Fn)(fu:Nat):Nat->Nat->List U->G->Out U
 | 0=>λ_ _ _ => .bad
 | d+1=>λf us g=>match fns[f]? with
  | some F=>dk fu (aa fns fu d) F us g
  | none => .bad
end
end
end PI
namespace L2
open PySem PySem.Spec PyProof.Rows
section
variable{prog:Program}{w:World}{A:Around}{E:Value->Shared->Prop}{s:Shared}
theorem pU{d:Addr}{o:Obj}{es:Array DictEntry}{ep:Nat}{Q:Value->Shared->Prop}(hs:(d == sysModules)=false)(ho:s.heap.get? d=some o)(hx:o.ExactDict)(hd:o.data=.dict es ep)
  (h:Q (.ref s.heap.objs.size) { s with heap:=s.heap.push { cls := .type "dict_keyiterator",data := .fields #[.ref d,.int 0 0,.int es.size 0,.int ep 0] } }):wpAny (model prog w) A (pyIter (.ref d)) Q E s:=by
 have t:s.TypeIs (.ref d) "dict" := ⟨o,ho,hx.1⟩;refine wpAny_pyIter_slot t F.slot_dict_iter (wpAny_call_entry F.slot_dict_iter t F.entry_dict_iter ?_ (F.args_dict_iter_1 _));unfold Builtin.«dict.__iter__»;refine ZB ?_;unfold Builtin.Dict.dictSlotNone;refine ZB (wpAny_notOrdered_dict t ?_);show wpAny _ _ (pure (Value.ref d)) _ _ s;refine ZP ?_;show wpAny _ _ (Builtin.Dict.showsAll d >>= _) _ _ s;unfold Builtin.Dict.showsAll;rw [hs,if_neg Kv];refine ZB (ZP (ZB (wpAny_dictEntries ho hd (ZB (wpAny_dictEpoch ho hd ?_)))));exact ZB (wpAny_newObj_type (ZP ⟨_,rfl,"dict_keyiterator",_,⟨_,KA _ rfl,rfl⟩,F.slot_dict_keyiterator_next.lookup,by simpa [rawInt] using h⟩))
theorem pK{it d:Addr}{od:Obj}{i ep:Nat}{es:Array DictEntry}{e:DictEntry}{Q:Option Value->Shared->Prop}(hit:s.heap.IsKeyIter it d i es.size ep)(hod:s.heap.get? d=some od)(hdd:od.data=.dict es ep)(hx:es[i]? = some e)
  (h:∀ h',h'.IsKeyIter it d (i+1) es.size ep->Heap.SameBut it s.heap h'->Q (some e.key) { s with heap:=h' }):wpAny (model prog w) A (pyNext (.ref it)) Q E s:=by
 obtain ⟨o,ho,hc,hd⟩:=id hit;obtain ⟨hlt,hel⟩:=Array.getElem?_eq_some_iff.mp hx;unfold pyNext;refine ZB (wpAny_attempt (wpAny_callSpecial?_slot (name:=Str.ofString "__next__") hit.typeIs F.slot_dict_keyiterator_next (wpAny_call_entry F.slot_dict_keyiterator_next hit.typeIs F.entry_dict_keyiterator_next ?_ (F.args_dict_keyiterator_next_1 _))));refine ZB (ZP ?_);refine ZB ?_;refine ZB ?_
 (first | refine ZB (wpAny_typeNameOfWhole_keyiter hit.typeIs (ZP ?_)) | refine ZB (wpAny_typeNameOf_keyiter hit.typeIs (ZP ?_)))
 refine ZB (wpAny_fieldsOf ho hd ?_);simp only [show Builtin.Dict_items.ownsTuple "dict_keyiterator" = false from by decide,Bool.false_eq_true,if_false]
 show wpAny _ _ (if (Value.ref d == Value.none)=true then _ else _) _ _ s;rw [if_neg (show ¬ ((Value.ref d == Value.none)=true) from Kv)]
 refine ZB (ZP (ZB (wpAny_dictEntries hod hdd ?_)));rw [if_neg (by simp)];refine ZB (ZP (ZB (wpAny_dictEpoch hod hdd ?_)));rw [if_neg (by simp)];refine ZP ?_
 simp only [show ¬ ((i:Int) < 0) from by omega,if_false,Int.toNat_natCast,hx];refine ZB ?_
 (first | refine ZB (wpAny_typeNameOfWhole_keyiter hit.typeIs (ZP ?_)) | refine ZB (wpAny_typeNameOf_keyiter hit.typeIs (ZP ?_)))
 refine ZB (wpAny_isOneOf_keyiter hit.typeIs ?_);show wpAny _ _ (setField (.ref it) 1 (rawInt ((i:Int)+1)) >>= _) _ _ s;refine ZB (wpAny_setField ho hd (by simp) ?_)
 have n:(s.heap.update it (Obj.mapFields (·.setIfInBounds 1 (rawInt ((i:Int)+1))))).IsKeyIter it d (i+1) es.size ep:=⟨_,Heap.get?_update_self _ ho (Obj.isFreed_of_fields (Obj.data_mapFields hd _)),(Obj.cls_mapFields ..).trans hc,by rw [Obj.data_mapFields hd];simp [rawInt]⟩
 refine ZB (wpAny_holding (ZB (wpAny_isOneOf_keyiter (s:={ s with heap:=s.heap.update it (Obj.mapFields (·.setIfInBounds 1 (rawInt ((i:Int)+1)))) }) n.typeIs ?_)));show wpAny _ _ (pure e.key) _ _ _
 exact ZP (ZP ⟨_,rfl,ZP (h _ n (Heap.SameBut.update ..))⟩)
theorem qL{it d:Addr}{od:Obj}{i ep:Nat}{es:Array DictEntry}{Q:Option Value->Shared->Prop}(hh:A.handled=none)(hit:s.heap.IsKeyIter it d i es.size ep)(hod:s.heap.get? d=some od)(hdd:od.data=.dict es ep)(hx:es[i]? = none)
  (h:∀ h',Heap.ExtBut it s.heap h'->Q none { s with heap:=h' }):wpAny (model prog w) A (pyNext (.ref it)) Q E s:=by
 obtain ⟨o,ho,hc,hd⟩:=id hit;unfold pyNext;refine ZB (wpAny_attempt (wpAny_callSpecial?_slot (name:=Str.ofString "__next__") hit.typeIs F.slot_dict_keyiterator_next (wpAny_call_entry F.slot_dict_keyiterator_next hit.typeIs F.entry_dict_keyiterator_next ?_ (F.args_dict_keyiterator_next_1 _))));refine ZB (ZP ?_);refine ZB ?_;refine ZB ?_
 (first | refine ZB (wpAny_typeNameOfWhole_keyiter hit.typeIs (ZP ?_)) | refine ZB (wpAny_typeNameOf_keyiter hit.typeIs (ZP ?_)))
 refine ZB (wpAny_fieldsOf ho hd ?_);simp only [show Builtin.Dict_items.ownsTuple "dict_keyiterator" = false from by decide,Bool.false_eq_true,if_false]
 show wpAny _ _ (if (Value.ref d == Value.none)=true then _ else _) _ _ s;rw [if_neg (show ¬ ((Value.ref d == Value.none)=true) from Kv)]
 refine ZB (ZP (ZB (wpAny_dictEntries hod hdd ?_)));rw [if_neg (by simp)];refine ZB (ZP (ZB (wpAny_dictEpoch hod hdd ?_)));rw [if_neg (by simp)];refine ZP ?_
 simp only [show ¬ ((i:Int) < 0) from by omega,if_false,Int.toNat_natCast,hx];refine ZB ?_
 (first | refine ZB (wpAny_typeNameOfWhole_keyiter hit.typeIs (ZP ?_)) | refine ZB (wpAny_typeNameOf_keyiter hit.typeIs (ZP ?_)))
 show wpAny _ _ (setField (.ref it) 0 .none >>= _) _ _ s;refine ZB (wpAny_setField ho hd (by simp) ?_);show wpAny _ _ (newExc (.type "StopIteration") [] >>= _) _ _ _
 refine ZB ?_;simp only [newExc,newTuple];refine ZB (wpAny_newObj_type ?_ (by size_fits))
 refine ZB (m:=firstArgMember _ _) (wpAny_of_eq (a:=Value.none) (by first | rfl | (simp only [firstArgMember];rfl)) (wpAny_newObj_type ?_ (by size_fits)));simp only [raiseNew]
 refine ZB (wpAny_handled ?_);rw [show A.in1.handled=none from hh];refine ZB (ZP (wpAny_throw ?_));exact ZB (wpAny_isInstance (T := "StopIteration") (b:=true) ⟨_,KA _ rfl,rfl⟩ isSubtype_stop (ZP (h _ (((Heap.SameBut.update ..).extBut.push _).push _))))
end
noncomputable def Itd(a:Addr)(o:Obj)(kvs:List (List Key×V)):It :=
 ⟨λi H=>H a=some (.frz o (.dT kvs))/\i < kvs.length,λi H x H'=>H'=H /\ ∃ b k v,x=.ref b/\kvs[i]? = some (k,v)/\H b=some (.tup (k.map kV)),λi H=>H a=some (.frz o (.dT kvs))/\kvs.length<=i⟩
theorem yo{P:Program}{w:World}{H:Hp}{h:Heap}{a:Addr}{kvs:List (List Key×V)}(z:ObjOk P w H h a (.dT kvs)):kvs.length<=sizeLine/\(a == sysModules)=false /\ ∃ o es ep,h.get? a=some o/\o.ExactDict/\o.data=.dict es ep/\es.size=kvs.length /\
  ∀ (i:Nat) (k:List Key) (v:V),kvs[i]? = some (k,v) -> ∃ (b:Addr) (en:DictEntry),es[i]? = some en/\en.key=.ref b/\H b=some (.tup (k.map kV)):=by
 obtain ⟨hl0,hs,xs,pr,o,es,ep,ho,hx,hd,hes,_⟩:=z;have hl:es.size=xs.length:=by rw [<-Array.length_toList,hes,List.length_map]
 refine ⟨hl0,hs,o,es,ep,ho,hx,hd,by rw [hl,Paired.length pr],λi k v hk => ?_⟩
 have key:∀ {kvs:List (List Key×V)} {xs:List (List Key×Addr×Value)},Paired (λ(p:List Key×V) (q:List Key×Addr×Value)=>p.1=q.1/\H q.2.1=some (.tup (p.1.map kV))/\RelV p.2 q.2.2) kvs xs -> ∀ (i:Nat) (k:List Key) (v:V),kvs[i]? = some (k,v) -> ∃ q:List Key×Addr×Value,xs[i]? = some q/\H q.2.1=some (.tup (k.map kV)):=by
  intro kvs xs pr
  induction pr with
  | nil=>intro i k v z;simp at z
  | cons h1 _ ih =>
   intro i k v z;cases i with
   | zero=>simp at z;subst z;exact ⟨_,by simp,h1.2.1⟩
   | succ j=>obtain ⟨q,z1,z2⟩:=ih j k v (by simpa using z);exact ⟨q,by simpa using z1,z2⟩
 obtain ⟨q,hq,hb⟩:=key pr i k v hk;refine ⟨q.2.1,entryOfKey (tupleKind (aP P w)) q,?_,rfl,hb⟩;rw [<-Array.getElem?_toList,hes,List.getElem?_map,hq];rfl
theorem kO{P:Program}{w:World}{H:Hp}{h:Heap}{a:Addr}{o:Obj}{kvs:List (List Key×V)}(ok:HOk P w H h)(e:H a=some (.frz o (.dT kvs))):h.get? a=some o/\o.ExactDict/\(a == sysModules)=false /\ ∃ es ep,o.data=.dict es ep/\es.size=kvs.length /\
  ∀ (i:Nat) (k:List Key) (v:V),kvs[i]? = some (k,v) -> ∃ (b:Addr) (en:DictEntry),es[i]? = some en/\en.key=.ref b/\H b=some (.tup (k.map kV)):=by
 obtain ⟨ho,z⟩:=ok a _ e;obtain ⟨_,hs,o',es,ep,ho',r⟩:=yo z;rw [ho] at ho';cases ho';exact ⟨ho,r.1,hs,es,ep,r.2⟩
theorem Ad{P:Program}{w:World}{K:KD}{tg:Expr}(a it:Addr)(o:Obj)(kvs:List (List Key×V)):
  Turn P w K tg (Itd a o kvs) [it] it (λi h => ∃ es ep,o.data=.dict es ep/\h.IsKeyIter it a i es.size ep) where
 mem:=by simp
 obj:=λi h st b hb=>by
  have e:b=it:=by simpa using hb
  obtain ⟨_,_,_,q,e1,_,d⟩:=st;subst e;exact ⟨q,e1,λv z=>by rw [d] at z;cases z⟩
 keep:=λi h h' ⟨es,ep,hd,st⟩ k=>⟨es,ep,hd,st.at λo e=>k it (by simp) o e⟩
 item:=by
  intro X hP hw hK hc i pins s σ H E I hf ⟨es,ep,hd,st⟩ ⟨hfr,hlt⟩;subst hP hw hK;obtain ⟨ho,hx,_,es',ep',hd',hl,hk⟩:=kO I.hok hfr;rw [hd] at hd';cases hd';obtain ⟨⟨k,v⟩,hkv⟩:∃ p,kvs[i]? = some p:=⟨_,List.getElem?_eq_getElem hlt⟩;obtain ⟨b,en,hen,hke,hb⟩:=hk i k v hkv;obtain ⟨f0,f1,f2,f3,f4,f5⟩:=hf it (by simp)
  refine pK st ho hd hen λh' st' sb => ?_;have I1:Inv X pins σ H { s with heap:=h' }:=I.turned (t':=s.toks) (λb o hb e=>(sb.2 b hb).trans e) f0 f1 f3 f4 f5
  obtain ⟨q,e,c,d⟩:=id st';refine ⟨en.key,rfl,iV (s:={ s with heap:=h' }) e c d (by decide) ⟨.ref b,H,I1,?_,⟨rfl,b,k,v,rfl,hkv,hb⟩,⟨es,ep,hd,st'⟩,λb hb=>(hf b hb).1⟩⟩
  rw [hke];rfl
 done:=by
  intro X hP hw hK hc i pins s σ H E I hf ⟨es,ep,hd,st⟩ ⟨hfr,hlt⟩;subst hP hw hK;obtain ⟨ho,hx,_,es',ep',hd',hl,hk⟩:=kO I.hok hfr;rw [hd] at hd';cases hd';obtain ⟨f0,f1,f2,f3,f4,f5⟩:=hf it (by simp)
  exact qL (I.ok.hd hc) st ho hd (Array.getElem?_eq_none (by omega)) λh' eb=>⟨rfl,I.turned (t':=s.toks) (λb o hb e=>eb b o hb e) f0 f1 f3 f4 f5⟩
 self:=λ_ _ _ _ _ ⟨_,_,_,st⟩ h=>wpAny_pyIter_keyiter st h
noncomputable def Kk:R2:=λx y H Q => ∃ a v,x=.ref a/\DGet H a y (some v)/\Q v H
theorem Fx{X:Cx}{pins:List (Addr×Obj)}{σ:St}{H:Hp}{s:Shared}{a:Addr}{y:V}{o:Option V}(I:Inv X pins σ H s)(g:DGet H a y o):s.TypeIs (.ref a) "dict" := by
 rcases g with ⟨kvs,k,e,q⟩ | ⟨kvs,k,b,e,q⟩
 .exact let ⟨_,_,_,_,dd⟩:=dG I.hok e;dd.typeIs
 .exact let ⟨_,_,_,_,dd⟩:=dH I.hok e;dd.typeIs
theorem Cb{X:Cx}(hu:X.A.units+1 < cLine):IxR X Kk:=by
 intro value slice pins s σ H x y v u Q I rx ry ⟨a,z,e,g,q⟩ hs;subst e;obtain rfl:v=Value.ref a:=rx;have hT:=Fx I g;have fin:wpAny (model X.prog X.w) X.A (subscripted slice false (.ref a) u) (λr s3=>wpAny (model X.prog X.w) X.A (letTemporaryGo value (.ref a) r >>= λ_=>pure r) (EP X pins σ Q) X.xe s3) X.xe s:=by
  rw [hs];exact wpAny_operating (Aw hu I g ry λw' s3 I3 rw'=>ZB (wpAny_letTemporaryGo (ZP ⟨z,H,I3,rw',q⟩)))
 unfold subscriptTail;refine ZB ?_;rw [getitemInPython_of_ne hT.not_modules];refine ZB (wpAny_specialOf hT PySem.F.slot_dict_getitem.lookup ?_)
 (first | exact ZP (ZB fin) | exact ZB (ZP (ZB fin)) | exact ZB fin)
theorem Inv.freeze{X:Cx}{pins:List (Addr×Obj)}{σ:St}{H:Hp}{s:Shared}{a:Addr}{kvs:List (List Key×V)}(I:Inv X pins σ H s)(e:H a=some (.dT kvs)):∃ o,Inv X pins σ (upd H a (.frz o (.dT kvs))) s:=by
 obtain ⟨z,hs,xs,pr,o,es,ep,ho,hx,hd,hes,nd⟩:=I.hok a _ e;refine ⟨o,I.write (x:=a) (e:=a) (h':=s.heap) (t':=s.toks) (by rw [e];trivial) (.inl rfl) (λ_ _ _ q=>q) ⟨o,ho⟩ ⟨ho,z,hs,xs,KT.keeps (H:=H) pr λc ys ec => ?_,o,es,ep,ho,hx,hd,hes,nd⟩⟩
 rw [ar (eV ec e (λz=>nomatch z))];exact ec
theorem wz{X:Cx}{pins:List (Addr×Obj)}{σ:St}{H:Hp}{s:Shared}{a:Addr}{o:Obj}{kvs:List (List Key×V)}{tg:Expr}{R:It->Hp->Prop}{E:Value->Shared->Prop}(I:Inv X pins σ H s)(e:H a=some (.frz o (.dT kvs)))(q:R (Itd a o kvs) H):
  wpAny (model X.prog X.w) X.A (pyIter (.ref a)) (PIE X pins σ tg R) E s:=by
 obtain ⟨ho,hx,hs,es,ep,hd,hl,hk⟩:=kO I.hok e;refine pU hs ho hx hd ⟨s.heap.objs.size,[s.heap.objs.size],_,_,H,rfl,I.kept (t':=s.toks) λb o e=>Ks _ e,Ad a _ o kvs,⟨es,ep,hd,_,KA _ rfl,rfl,rfl⟩,λb hb => ?_,q⟩;have e:b=s.heap.objs.size:=by simpa using hb
 subst e;exact I.fpOk (Kw _) (I.hok.fresh (Kw _))
noncomputable def Ite(K:KD)(a:Addr):It :=
 ⟨λi H => ∃ xs x,SqL K H a xs/\xs[i]? = some x,λi H x H' => ∃ p v,H p=none/\x=.ref p/\H'=upd H p (.tup [.int i,v]) /\ ∀ xs,SqL K H a xs->xs[i]? = some v,λi H => ∃ xs,SqL K H a xs/\xs.length<=i⟩
theorem Inv.pairNew{X:Cx}{pins:List (Addr×Obj)}{σ:St}{H:Hp}{s:Shared}{e it:Addr}{h':Heap}{t':Nat}{vs:List V}(I:Inv X pins σ H s)(hk:∀ b o,b≠e->b≠it->s.heap.get? b=some o->h'.get? b=some o)(he:ba X pins H e)(hi:ba X pins H it)
  (hte:∃ o,h'.get? e=some o) (hti:∃ o,h'.get? it=some o) (new:ObjOk X.prog X.w (upd H s.heap.objs.size (.tup vs)) h' s.heap.objs.size (.tup vs)):Inv X pins σ (upd H s.heap.objs.size (.tup vs)) { s with heap:=h',toks:=t' }:=by
 have fresh:H s.heap.objs.size=none:=I.hok.fresh (Kw _);have old:∀ b o,H b=some o->b≠s.heap.objs.size:=λb o q z=>by subst z;rw [fresh] at q;cases q
 have ne:∀ b o,H b=some o->b≠e/\b≠it:=λb o q=>⟨λz=>(by subst z;rw [he.1] at q;cases q),λz=>(by subst z;rw [hi.1] at q;cases q)⟩
 refine I.call' (ch:=[e,it]) rfl ⟨λb o q _ _ nx => ?_,λb o q _ _ nx => ?_,λb o q n _ => ?_,λb o q _ => ?_,λb xs q => ?_,λb o u q => ?_,λb ps q => ?_⟩ (λb u q => ?_) I.bare λb hb => ?_
 .exact hk b o (λz=>nx (by simp [z])) (λz=>nx (by simp [z])) q
 .exact ⟨o.slots,hk b o (λz=>nx (by simp [z])) (λz=>nx (by simp [z])) q⟩
 .rw [ar (Kz (Kt q))];exact n
 .by_cases z1:b=e
  .subst z1;exact hte
  .by_cases z2:b=it
   .subst z2;exact hti
   .exact ⟨o,hk b o z1 z2 q⟩
 .rw [ar (old b _ q)];exact q
 .rw [ar (old b _ q)];exact q
 .exact ⟨#[],by rw [ar (old b _ q),Array.append_empty];exact q⟩
 .by_cases z:b=s.heap.objs.size
  .subst z;rw [upd_same] at q;cases q;exact new
  .rw [ar z] at q
   refine (I.hok b u q).stay (λc v hc r => ?_) (λc r=>by rw [ar (old c _ r)];exact r) λc xs r=>by rw [ar (old c _ r)];exact r
   have hcH:∃ o,H c=some o:=by rcases hc with rfl | hc <;> exact ⟨_,by assumption⟩
   obtain ⟨o,hcH⟩:=hcH;exact hk c v (ne c o hcH).1 (ne c o hcH).2 r
 .have hf:ba X pins H b:=by
   rcases List.mem_cons.mp hb with rfl | hb
   .exact he
   .rcases List.mem_cons.mp hb with rfl | hb
    .exact hi
    .cases hb
  exact ⟨hf.2.2.2.1,hf.2.1,hf.2.2.2.2.1,hf.2.2.2.2.2⟩
theorem Aj{P:Program}{w:World}{K:KD}{elts:List Expr}{x1:Nat}{tp:Pos}(a e it:Addr)(hei:e≠it):
  Turn P w K (.Tuple elts x1 tp) (Ite K a) [e,it] e (λi h=>(∃ old,IsEnum h e it i old)/\h.IsListIter it a i) where
 mem:=by simp
 obj:=λi h st b hb=>by
  obtain ⟨⟨old,he⟩,o,hi,_,d⟩:=st;rcases List.mem_cons.mp hb with rfl | hb
  .exact ⟨_,he,λv z=>by cases z⟩
  .obtain rfl:b=it:=by simpa using hb
   exact ⟨o,hi,λv z=>by rw [d] at z;cases z⟩
 keep:=λi h h' ⟨⟨old,he⟩,hi⟩ k=>⟨⟨old,k e (by simp) _ he⟩,hi.at λo q=>k it (by simp) o q⟩
 item:=by
  intro X hP hw hK hc i pins s σ H E I hf ⟨⟨old,he⟩,hi⟩ ⟨xs,x,hq,hx⟩;subst hP hw hK;obtain ⟨its,rv,p,hz⟩:=I.list hq;obtain ⟨u,hu,ru⟩:=rv.get hx;have fe:=hf e (by simp)
  have fi:=hf it (by simp)
  refine wpAny_pyNext_enum_item he hi p.isList (x:=u) (by simpa using hu) hei λh' ho hi' hT hsz hk=>⟨_,rfl,?_⟩
  have hes:e < s.heap.objs.size:=Kt he;have his:it < s.heap.objs.size:=let ⟨_,q,_⟩:=hi;Kt q
  refine wpAny_letOwnedTupleGo_enum ho λh2 he2 hs2 => ?_;have hs2':Heap.SameBut e h' h2:=hs2;have hT2:h2.get? s.heap.objs.size=some { cls := .type "tuple",data := .seq #[.int i s.toks,u] }:=(hs2'.2 _ (Nat.ne_of_gt hes)).trans hT;have hi2:h2.IsListIter it a (i+1):=hi'.at λo q=>(hs2'.2 it (Ne.symm hei)).trans q;have hk2:∀ b o,b≠e->b≠it->s.heap.get? b=some o->h2.get? b=some o:=λb o b1 b2 q=>(hs2'.2 b b1).trans (hk b o b1 b2 q);have I2:Inv X pins σ (upd H s.heap.objs.size (.tup [.int i,x])) { s with heap:=h2,toks:=s.toks+1 }:=I.pairNew hk2 fe fi ⟨_,he2⟩ (let ⟨o,q,_⟩:=hi2;⟨o,q⟩) ⟨(by show 2<=sizeLine;decide),[.int i s.toks,u],.cons ⟨_,rfl⟩ (.cons ru .nil),⟨_,hT2,rfl,_,rfl⟩⟩
  refine ⟨.ref s.heap.objs.size,_,I2,rfl,⟨s.heap.objs.size,x,I.hok.fresh (Kw _),rfl,rfl,λys hy=>by rw [I.list_inj hy hq];exact hx⟩,⟨⟨u,by simpa using he2⟩,hi2⟩,λb hb => ?_⟩
  have hlt:b < s.heap.objs.size:=by
   rcases List.mem_cons.mp hb with rfl | hb
   .exact hes
   .obtain rfl:b=it:=by simpa using hb
    exact his
  rw [ar (Kz hlt)];exact (hf b hb).1
 done:=by
  intro X hP hw hK hc i pins s σ H E I hf ⟨⟨old,he⟩,hi⟩ ⟨xs,hq,hx⟩;subst hP hw hK;obtain ⟨its,rv,p,hz⟩:=I.list hq;obtain ⟨f0,f1,f2,f3,f4,f5⟩:=hf it (by simp)
  have hl:=rv.length;exact wpAny_pyNext_enum_end (I.ok.hd hc) he hi p.isList (by simp;omega) λh' eb=>⟨rfl,I.turned (t':=s.toks) (λb o hb e=>eb b o hb e) f0 f1 f3 f4 f5⟩
 self:=λ_ _ _ _ _ ⟨⟨_,he⟩,_⟩ h=>wpAny_pyIter_enum he h
noncomputable def Hm(K:KD)(ta:TA):TI:=λσ H R=>ta σ H λvs H1 => ∃ a,vs=[.ref a]/\(∃ xs,SqL K H1 a xs)/\R (Ite K a) H1
theorem Di{X:Cx}{l:Expr}{ta:TA}{p pos tp:Pos}{elts:List Expr}{x1:Nat}(hg:Gl X "enumerate")(hm:X.mg "enumerate" = none)(ha:PA X [l] ta)(hs:starEach [l] X.env=[(false,eval l X.env)]):PI X (.Tuple elts x1 tp) (.Call (.Name "enumerate" p) [l] [] pos) (Hm X.K ta):=by
 intro pins s σ H R I h;refine Call_ (gg I hg hm boot_enumerate (PyProof.Rows.callWith_type1 (thn (ha pos pins s σ H _ I h) λus s1 ⟨vs,H1,I1,r1,q1⟩ => ?_) hs rfl));obtain ⟨a,rfl,⟨xs,hq⟩,q⟩:=q1;cases r1 with
 | cons r rr =>
  cases rr;cases r;obtain ⟨its,rv,pl,hz⟩:=I1.list hq;refine call_enumerate_list pl.isList λh' hE hI hsz hk=>wpAny_pyIter_enum hE ?_;refine ⟨s1.heap.objs.size+1,[s1.heap.objs.size+1,s1.heap.objs.size],_,_,H1,rfl,I1.kept (t':=s1.toks) hk,Aj a _ _ (by simp),⟨⟨_,hE⟩,hI⟩,λb hb => ?_,q⟩
  have hb':s1.heap.objs.size<=b:=by
   rcases List.mem_cons.mp hb with rfl | hb
   .exact Nat.le_succ _
   .obtain rfl:b=s1.heap.objs.size:=by simpa using hb
    exact Kw _
  exact I1.fpOk hb' (I1.hok.fresh hb')
end L2
namespace PI
noncomputable section
open PySem PySem.Spec PyProof.Rows L2
noncomputable def SqF(K:KD)(H:Hp)(a:Addr)(xs:List V):Prop :=
 (∃ o,H a=some (.frz o (.lst xs))) \/
  ∃ (o:Obj) (its:Array Value) (n:Nat),K.lookup a=some o/\o.cls=.type "list" /\ o.dict=none/\o.data=.seq its n/\its.size<=sizeLine/\Vals xs its.toList
theorem SqF.sq{K:KD}{H:Hp}{a:Addr}{xs:List V}(h:SqF K H a xs):SqL K H a xs:=by
 rcases h with h | h
 .exact .inl (.inr h)
 .exact .inr h
noncomputable def SqU(_:KD)(H:Hp)(a:Addr)(xs:List V):Prop:=H a=some (.tup xs)
theorem SqU.sq{K:KD}{H:Hp}{a:Addr}{xs:List V}(h:SqU K H a xs):SqT K H a xs := .of h
noncomputable def SqC(K:KD)(a:Addr)(xs:List V):Prop :=
 ∃ (o:Obj) (its:Array Value) (n:Nat),K.lookup a=some o/\o.cls=.type "tuple" /\ o.data=.seq its n/\its.size<=sizeLine/\Vals xs its.toList
theorem SqC.sq{K:KD}{H:Hp}{a:Addr}{xs:List V}(h:SqC K a xs):SqT K H a xs := .inr h
mutual
noncomputable def RV(K:KD)(ρ:List Addr)(H:Hp):U->V->Prop
 | .non,v=>v=.non
 | .bl b,v=>v=.bl b
 | .int i,v=>v=.int i
 | .str s,v=>v=.str s
 | .tup us,v => ∃ a vs,v=.ref a/\SqU K H a vs/\RVs K ρ H us vs
 | .fro us,v => ∃ a vs,v=.ref a/\SqF K H a vs/\RVs K ρ H us vs
 | .ref n,v => ∃ a,v=.ref a/\ρ[n]? = some a
 | .xn _ us,v => ∃ a vs,v=.ref a/\SqC K a vs/\RVs K ρ H us vs
noncomputable def RVs(K:KD)(ρ:List Addr)(H:Hp):List U->List V->Prop
 | [],vs=>vs=[]
 | u :: us,vs => ∃ v r,vs=v :: r/\RV K ρ H u v/\RVs K ρ H us r
end
structure Stp(K:KD)(ρ:List Addr)(H:Hp)(ρ':List Addr)(H':Hp):Prop where
 ext:∀ (n:Nat) (a:Addr),ρ[n]? = some a->ρ'[n]? = some a
 new:∀ (n:Nat) (a:Addr),ρ'[n]? = some a->ρ[n]? = some a\/H a=none
 oth:∀ a o,H a=some o->a ∉ ρ->H' a=some o
 live:∀ a,H a≠none->H' a≠none
 tup:∀ a xs,SqU K H a xs->SqU K H' a xs
 fro:∀ a xs,SqF K H a xs->SqF K H' a xs
 frz:∀ a o u,H a=some (.frz o u)->H' a=some (.frz o u)
section
variable{K:KD}{ρ ρ' ρ'':List Addr}{H H' H'':Hp}{g:G}
theorem Stp.refl:Stp K ρ H ρ H:=⟨λ_ _ h=>h,λ_ _ h => .inl h,λ_ _ h _=>h,λ_ h=>h,λ_ _ h=>h,λ_ _ h=>h,λ_ _ _ h=>h⟩
theorem Stp.trans(a:Stp K ρ H ρ' H')(b:Stp K ρ' H' ρ'' H''):Stp K ρ H ρ'' H'' where
 ext:=λn x h=>b.ext n x (a.ext n x h)
 new:=λn x h=>by
  rcases b.new n x h with q | q
  .exact a.new n x q
  .refine .inr ?_
   cases e:H x with
   | none=>rfl
   | some o=>exact absurd q (a.live x (by rw [e];simp))
 oth:=λx o h hn=>b.oth x o (a.oth x o h hn) λhx=>by
  obtain ⟨n,hn'⟩:=List.mem_iff_getElem?.mp hx;rcases a.new n x hn' with q | q
  .exact hn (List.mem_iff_getElem?.mpr ⟨n,q⟩)
  .rw [q] at h;cases h
 live:=λx h=>b.live x (a.live x h)
 tup:=λx xs h=>b.tup x xs (a.tup x xs h)
 fro:=λx xs h=>b.fro x xs (a.fro x xs h)
 frz:=λx o u h=>b.frz x o u (a.frz x o u h)
mutual
theorem RV.mono(he:∀ (n:Nat) (a:Addr),ρ[n]? = some a->ρ'[n]? = some a)(ht:∀ a xs,SqU K H a xs->SqU K H' a xs)(hf:∀ a xs,SqF K H a xs->SqF K H' a xs):∀ (u:U) (v:V),RV K ρ H u v->RV K ρ' H' u v
 | .non,_,h=>h
 | .bl _,_,h=>h
 | .int _,_,h=>h
 | .str _,_,h=>h
 | .tup us,v,h=>by
  obtain ⟨a,vs,e,h1,h2⟩:=h;exact ⟨a,vs,e,ht _ _ h1,RVs.mono he ht hf us vs h2⟩
 | .fro us,v,h=>by
  obtain ⟨a,vs,e,h1,h2⟩:=h;exact ⟨a,vs,e,hf _ _ h1,RVs.mono he ht hf us vs h2⟩
 | .ref n,v,h=>by
  obtain ⟨a,e,h1⟩:=h;exact ⟨a,e,he _ _ h1⟩
 | .xn _ us,v,h=>by
  obtain ⟨a,vs,e,h1,h2⟩:=h;exact ⟨a,vs,e,h1,RVs.mono he ht hf us vs h2⟩
theorem RVs.mono(he:∀ (n:Nat) (a:Addr),ρ[n]? = some a->ρ'[n]? = some a)(ht:∀ a xs,SqU K H a xs->SqU K H' a xs)(hf:∀ a xs,SqF K H a xs->SqF K H' a xs):∀ (us:List U) (vs:List V),RVs K ρ H us vs->RVs K ρ' H' us vs
 | [],_,h=>h
 | u :: us,vs,h=>by
  obtain ⟨v,r,e,h1,h2⟩:=h;exact ⟨v,r,e,RV.mono he ht hf u v h1,RVs.mono he ht hf us r h2⟩
end
theorem RV.step(s:Stp K ρ H ρ' H')(u:U)(v:V)(h:RV K ρ H u v):RV K ρ' H' u v:=RV.mono s.ext s.tup s.fro u v h
theorem RVs.step(s:Stp K ρ H ρ' H')(us:List U)(vs:List V)(h:RVs K ρ H us vs):RVs K ρ' H' us vs:=RVs.mono s.ext s.tup s.fro us vs h
theorem RVs.length:∀ {us:List U} {vs:List V},RVs K ρ H us vs->us.length=vs.length
 | [],_,h=>by cases h;rfl
 | _ :: us,_,h=>by
  obtain ⟨v,r,rfl,_,h2⟩:=h;simp [RVs.length h2]
theorem RVs.get:∀ {us:List U} {vs:List V} {i:Nat} {u:U},RVs K ρ H us vs->us[i]? = some u -> ∃ v,vs[i]? = some v/\RV K ρ H u v
 | [],_,_,_,_,e=>by simp at e
 | x :: us,_,0,u,h,e=>by
  obtain ⟨v,r,rfl,h1,_⟩:=h;simp at e;subst e;exact ⟨v,by simp,h1⟩
 | x :: us,_,i+1,u,h,e=>by
  obtain ⟨v,r,rfl,_,h2⟩:=h;obtain ⟨w,e1,e2⟩:=RVs.get (i:=i) (u:=u) h2 (by simpa using e)
  exact ⟨w,by simpa using e1,e2⟩
theorem RVs.none_of{us:List U}{vs:List V}{i:Nat}(h:RVs K ρ H us vs)(e:us[i]? = none):vs[i]? = none:=by
 have h1:=h.length;have h2:us.length<=i:=List.getElem?_eq_none_iff.mp e;exact List.getElem?_eq_none_iff.mpr (by omega)
theorem RVs.append:∀ {us ws:List U} {vs xs:List V},RVs K ρ H us vs->RVs K ρ H ws xs->RVs K ρ H (us++ws) (vs++xs)
 | [],_,_,_,h,q=>by cases h;exact q
 | u :: us,_,_,_,h,q=>by
  obtain ⟨v,r,rfl,h1,h2⟩:=h;exact ⟨v,r++_,rfl,h1,RVs.append h2 q⟩
theorem RVs.one{u:U}{v:V}(h:RV K ρ H u v):RVs K ρ H [u] [v]:=⟨v,[],rfl,h,rfl⟩
theorem RVs.drop:∀ {us:List U} {vs:List V} (n:Nat),RVs K ρ H us vs->RVs K ρ H (us.drop n) (vs.drop n)
 | _,_,0,h=>h
 | [],_,_+1,h=>by cases h;rfl
 | u :: us,_,n+1,h=>by
  obtain ⟨v,r,rfl,h1,h2⟩:=h;exact RVs.drop n h2
theorem RVs.take:∀ {us:List U} {vs:List V} (n:Nat),RVs K ρ H us vs->RVs K ρ H (us.take n) (vs.take n)
 | _,_,0,h=>by simp [RVs]
 | [],_,_+1,h=>by cases h;rfl
 | u :: us,_,n+1,h=>by
  obtain ⟨v,r,rfl,h1,h2⟩:=h;exact ⟨v,r.take n,rfl,h1,RVs.take n h2⟩
theorem RVs.set{u:U}{v:V}(q:RV K ρ H u v):∀ {us:List U} {vs:List V} (i:Nat),RVs K ρ H us vs->RVs K ρ H (us.set i u) (vs.set i v)
 | [],_,_,h=>by cases h;rfl
 | x :: us,_,0,h=>by
  obtain ⟨w,r,rfl,_,h2⟩:=h;exact ⟨v,r,rfl,q,h2⟩
 | x :: us,_,i+1,h=>by
  obtain ⟨w,r,rfl,h1,h2⟩:=h;exact ⟨w,r.set i v,rfl,h1,RVs.set q i h2⟩
theorem RVs.reverse:∀ {us:List U} {vs:List V},RVs K ρ H us vs->RVs K ρ H us.reverse vs.reverse
 | [],_,h=>by cases h;rfl
 | u :: us,_,h=>by
  obtain ⟨v,r,rfl,h1,h2⟩:=h;rw [List.reverse_cons,List.reverse_cons];exact RVs.append (RVs.reverse h2) (.one h1)
theorem RVs.dropLast{us:List U}{vs:List V}(h:RVs K ρ H us vs):RVs K ρ H us.dropLast vs.dropLast:=by
 rw [List.dropLast_eq_take,List.dropLast_eq_take,h.length];exact h.take _
noncomputable def RD(K:KD)(ρ:List Addr)(H:Hp):List (List Int×U)->List (List Key×V)->Prop
 | [],ws=>ws=[]
 | (k,u) :: r,ws => ∃ v s,ws=(k.map Sum.inl,v) :: s/\RV K ρ H u v/\RD K ρ H r s
theorem RD.mono(he:∀ (n:Nat) (a:Addr),ρ[n]? = some a->ρ'[n]? = some a)(ht:∀ a xs,SqU K H a xs->SqU K H' a xs)(hf:∀ a xs,SqF K H a xs->SqF K H' a xs):∀ (us:List (List Int×U)) (vs:List (List Key×V)),RD K ρ H us vs->RD K ρ' H' us vs
 | [],_,h=>h
 | (k,u) :: us,vs,h=>by
  obtain ⟨v,r,e,h1,h2⟩:=h;exact ⟨v,r,e,RV.mono he ht hf u v h1,RD.mono he ht hf us r h2⟩
noncomputable def RK(K:KD)(ρ:List Addr)(H:Hp):List (Str×U)->List (Key×V)->Prop
 | [],ws=>ws=[]
 | (k,u) :: r,ws => ∃ v s,ws=(Sum.inr k,v) :: s/\RV K ρ H u v/\RK K ρ H r s
theorem RK.mono(he:∀ (n:Nat) (a:Addr),ρ[n]? = some a->ρ'[n]? = some a)(ht:∀ a xs,SqU K H a xs->SqU K H' a xs)(hf:∀ a xs,SqF K H a xs->SqF K H' a xs):∀ (us:List (Str×U)) (vs:List (Key×V)),RK K ρ H us vs->RK K ρ' H' us vs
 | [],_,h=>h
 | (k,u) :: us,vs,h=>by
  obtain ⟨v,r,e,h1,h2⟩:=h;exact ⟨v,r,e,RV.mono he ht hf u v h1,RK.mono he ht hf us r h2⟩
theorem pI:∀ (f a b:Nat),a < 128 ^ f->b < 128 ^ f->dig f a=dig f b->a=b
 | 0,a,b,h1,h2,_=>by simp at h1 h2;omega
 | f+1,a,b,h1,h2,e=>by
  rw [Nat.pow_succ] at h1 h2;simp only [dig] at e;split at e
  .split at e
   .omega
   .cases e
  .split at e
   .cases e
   .have e1:a % 128=b % 128:=(List.cons.inj e).1
    have e2:=pI f (a / 128) (b / 128) (by omega) (by omega) (List.cons.inj e).2
    omega
theorem uo{a b:Nat}(h1:a < cb)(h2:b < cb)(e:aO a=aO b):a=b:=pI 64 a b h1 h2 (by have:=congrArg (λs:Str=>s.cps.toList) e;simpa [aO] using this)
noncomputable def RF(K:KD)(ρ:List Addr)(H:Hp):List (Nat×U)->List (Str×V)->Prop
 | [],ws=>ws=[]
 | (j,u) :: r,ws => ∃ v s,ws=(aO j,v) :: s/\j < cb/\RV K ρ H u v/\RF K ρ H r s
theorem RF.mono(he:∀ (n:Nat) (a:Addr),ρ[n]? = some a->ρ'[n]? = some a)(ht:∀ a xs,SqU K H a xs->SqU K H' a xs)(hf:∀ a xs,SqF K H a xs->SqF K H' a xs):∀ (us:List (Nat×U)) (vs:List (Str×V)),RF K ρ H us vs->RF K ρ' H' us vs
 | [],_,h=>h
 | (k,u) :: us,vs,h=>by
  obtain ⟨v,r,e,h0,h1,h2⟩:=h;exact ⟨v,r,e,h0,RV.mono he ht hf u v h1,RF.mono he ht hf us r h2⟩
theorem RF.look{j:Nat}(hj:j < cb):∀ {us:List (Nat×U)} {vs:List (Str×V)},RF K ρ H us vs->(us.lookup j=none/\vs.lookup (aO j)=none) \/ ∃ u v,us.lookup j=some u/\vs.lookup (aO j)=some v/\RV K ρ H u v
 | [],_,h=>by cases h;exact .inl ⟨rfl,rfl⟩
 | (i,u) :: us,_,h=>by
  obtain ⟨v,r,rfl,h0,h1,h2⟩:=h;rw [List.lookup_cons,List.lookup_cons];by_cases e:j=i
  .subst e
   rw [beq_self_eq_true,beq_self_eq_true];exact .inr ⟨u,v,rfl,rfl,h1⟩
  .have e1:(j == i)=false:=beq_false_of_ne e
   have e2:(aO j == aO i)=false:=beq_false_of_ne λz=>e (uo hj h0 z);rw [e1,e2];exact RF.look hj h2
theorem RF.put{j:Nat}{u:U}{v:V}(hj:j < cb)(hv:RV K ρ H u v):∀ {us:List (Nat×U)} {vs:List (Str×V)},RF K ρ H us vs->RF K ρ H (eZ j u us) (aY (aO j) v vs)
 | [],_,h=>by cases h;exact ⟨v,[],rfl,hj,hv,rfl⟩
 | (i,x) :: us,_,h=>by
  obtain ⟨w,r,rfl,h0,h1,h2⟩:=h;unfold eZ aY;by_cases e:i=j
  .subst e
   rw [if_pos rfl,if_pos rfl];exact ⟨v,r,rfl,h0,hv,h2⟩
  .rw [if_neg e,if_neg λz=>e (uo h0 hj z)]
   exact ⟨w,_,rfl,h0,h1,RF.put hj hv h2⟩
theorem RF.length:∀ {us:List (Nat×U)} {vs:List (Str×V)},RF K ρ H us vs->us.length=vs.length
 | [],_,h=>by cases h;rfl
 | (i,x) :: us,_,h=>by
  obtain ⟨w,r,rfl,h0,h1,h2⟩:=h;simp [RF.length h2]
noncomputable def RHO(K:KD)(ρ:List Addr)(H:Hp):O->HO->Prop
 | .lst us,o => ∃ vs,o=.lst vs/\RVs K ρ H us vs
 | .dic kvs,o => ∃ ws,o=.dT ws/\RD K ρ H kvs ws
 | .dif kvs,o => ∃ ob ws,o=.frz ob (.dT ws)/\RD K ρ H kvs ws
 | .dst kvs,o => ∃ ws,o=.dK ws/\RK K ρ H kvs ws
 | .ins c us,o => ∃ C dx vs,o=.ins C dx vs/\PySem.W.nsIn K mainGlobals (aO c)=some (some (.ref C))/\RF K ρ H us vs
noncomputable def RO(K:KD)(ρ:List Addr)(H:Hp)(a:Addr)(o:O):Prop := ∃ ho,H a=some ho/\RHO K ρ H o ho
theorem RHO.mono(he:∀ (n:Nat) (a:Addr),ρ[n]? = some a->ρ'[n]? = some a)(ht:∀ a xs,SqU K H a xs->SqU K H' a xs)(hf:∀ a xs,SqF K H a xs->SqF K H' a xs){o:O}{ho:HO}(h:RHO K ρ H o ho):RHO K ρ' H' o ho:=by
 cases o with
 | lst us=>obtain ⟨vs,e,r⟩:=h;exact ⟨vs,e,RVs.mono he ht hf _ _ r⟩
 | dic kvs=>obtain ⟨ws,e,r⟩:=h;exact ⟨ws,e,RD.mono he ht hf _ _ r⟩
 | dif kvs=>obtain ⟨ob,ws,e,r⟩:=h;exact ⟨ob,ws,e,RD.mono he ht hf _ _ r⟩
 | dst kvs=>obtain ⟨ws,e,r⟩:=h;exact ⟨ws,e,RK.mono he ht hf _ _ r⟩
 | ins c us=>obtain ⟨C,dx,vs,e,h0,r⟩:=h;exact ⟨C,dx,vs,e,h0,RF.mono he ht hf _ _ r⟩
theorem RHO.step(s:Stp K ρ H ρ' H'){o:O}{ho:HO}(h:RHO K ρ H o ho):RHO K ρ' H' o ho:=h.mono s.ext s.tup s.fro
theorem RO.step(s:Stp K ρ H ρ' H'){a:Addr}{o:O}(e:∀ ho,H a=some ho->H' a=some ho)(h:RO K ρ H a o):RO K ρ' H' a o :=
 let ⟨ho,e1,r⟩:=h;⟨ho,e ho e1,r.step s⟩
structure RH(K:KD)(ρ:List Addr)(H:Hp)(g:G):Prop where
 len:ρ.length=g.length
 inj:∀ (i j:Nat) (a:Addr),ρ[i]? = some a->ρ[j]? = some a->i=j
 obj:∀ (n:Nat) (a:Addr) (o:O),ρ[n]? = some a->g[n]? = some o->RO K ρ H a o
theorem RH.at(h:RH K ρ H g){n:Nat}{o:O}(e:g[n]? = some o):∃ a,ρ[n]? = some a/\RO K ρ H a o:=by
 have hn:n < g.length:=(List.getElem?_eq_some_iff.mp e).1;have hr:n < ρ.length:=by rw [h.len];exact hn
 exact ⟨ρ[n],List.getElem?_eq_getElem hr,h.obj n ρ[n] _ (List.getElem?_eq_getElem hr) e⟩
theorem RH.lst(h:RH K ρ H g){n:Nat}{us:List U}(e:g[n]? = some (.lst us)):∃ a vs,ρ[n]? = some a/\H a=some (.lst vs)/\RVs K ρ H us vs:=by
 obtain ⟨a,h1,ho,h2,vs,rfl,h3⟩:=h.at e;exact ⟨a,vs,h1,h2,h3⟩
theorem RH.dic(h:RH K ρ H g){n:Nat}{kvs:List (List Int×U)}(e:g[n]? = some (.dic kvs)):∃ a ws,ρ[n]? = some a/\H a=some (.dT ws)/\RD K ρ H kvs ws:=by
 obtain ⟨a,h1,ho,h2,vs,rfl,h3⟩:=h.at e;exact ⟨a,vs,h1,h2,h3⟩
theorem RH.dif(h:RH K ρ H g){n:Nat}{kvs:List (List Int×U)}(e:g[n]? = some (.dif kvs)):∃ a ob ws,ρ[n]? = some a/\H a=some (.frz ob (.dT ws))/\RD K ρ H kvs ws:=by
 obtain ⟨a,h1,ho,h2,ob,vs,rfl,h3⟩:=h.at e;exact ⟨a,ob,vs,h1,h2,h3⟩
theorem RH.dst(h:RH K ρ H g){n:Nat}{kvs:List (Str×U)}(e:g[n]? = some (.dst kvs)):∃ a ws,ρ[n]? = some a/\H a=some (.dK ws)/\RK K ρ H kvs ws:=by
 obtain ⟨a,h1,ho,h2,vs,rfl,h3⟩:=h.at e;exact ⟨a,vs,h1,h2,h3⟩
theorem RH.ins(h:RH K ρ H g){n c:Nat}{fs:List (Nat×U)}(e:g[n]? = some (.ins c fs)):∃ a C dx vs,ρ[n]? = some a/\H a=some (.ins C dx vs)/\PySem.W.nsIn K mainGlobals (aO c)=some (some (.ref C))/\RF K ρ H fs vs:=by
 obtain ⟨a,h1,ho,h2,C,dx,vs,rfl,h3,h4⟩:=h.at e;exact ⟨a,C,dx,vs,h1,h2,h3,h4⟩
theorem RH.there(h:RH K ρ H g){n:Nat}{a:Addr}(e:ρ[n]? = some a):∃ o,H a=some o:=by
 have hr:n < ρ.length:=(List.getElem?_eq_some_iff.mp e).1;have hn:n < g.length:=by rw [<-h.len];exact hr
 obtain ⟨ho,h1,_⟩:=h.obj n a g[n] e (List.getElem?_eq_getElem hn);exact ⟨ho,h1⟩
theorem DB{a p:Addr}{o:HO}{xs:List V}(h:SqU K H a xs)(hp:a≠p):SqU K (upd H p o) a xs:=by
 unfold SqU;rw [ar hp];exact h
theorem BR{a p:Addr}{o:HO}{xs:List V}(h:SqF K H a xs)(hp:a≠p):SqF K (upd H p o) a xs:=by
 rcases h with ⟨ob,h⟩ | h
 .exact .inl ⟨ob,by rw [ar hp];exact h⟩
 .exact .inr h
noncomputable def cN:HO->Prop
 | .lst _=>True
 | .dT _=>True
 | .dK _=>True
 | .ins _ _ _=>True
 | _=>False
theorem cF{a p:Addr}{o:HO}{xs:List V}(h:SqU K H a xs)(hp:H p=none \/ ∃ ho,H p=some ho/\cN ho):SqU K (upd H p o) a xs :=
 DB h (by rintro rfl;rcases hp with z | ⟨ys,z,m⟩ <;> · unfold SqU at h;rw [h] at z;cases z;try exact m)
theorem cD{a p:Addr}{o:HO}{xs:List V}(h:SqF K H a xs)(hp:H p=none \/ ∃ ho,H p=some ho/\cN ho):SqF K (upd H p o) a xs:=by
 rcases h with ⟨ob,h⟩ | h
 .exact BR (.inl ⟨ob,h⟩) (by rintro rfl;rcases hp with z | ⟨ys,z,m⟩ <;> · rw [h] at z;cases z;try exact m)
 .exact .inr h
theorem Stp.fresh{p:Addr}{o:HO}(hp:H p=none):Stp K ρ H ρ (upd H p o) where
 ext:=λ_ _ h=>h
 new:=λ_ _ h => .inl h
 oth:=λa u h _=>by rw [ar (bF h hp)];exact h
 live:=λa h=>by
  by_cases e:a=p
  .subst e;rw [upd_same];simp
  .rw [ar e];exact h
 tup:=λa xs h=>cF h (.inl hp)
 fro:=λa xs h=>cD h (.inl hp)
 frz:=λa ob u h=>by rw [ar (bF h hp)];exact h
theorem RH.step_fresh{p:Addr}{o:HO}(h:RH K ρ H g)(hp:H p=none):RH K ρ (upd H p o) g where
 len:=h.len
 inj:=h.inj
 obj:=λn a ob h1 h2=>(h.obj n a ob h1 h2).step (Stp.fresh hp) λho e=>by rw [ar (bF e hp)];exact e
theorem Stp.alloc{p:Addr}{ho:HO}(hp:H p=none):Stp K ρ H (ρ++[p]) (upd H p ho) where
 ext:=λn a h=>by rw [List.getElem?_append_left (List.getElem?_eq_some_iff.mp h).1];exact h
 new:=λn a h=>by
  by_cases hn:n < ρ.length
  .rw [List.getElem?_append_left hn] at h;exact .inl h
  .rw [List.getElem?_append_right (by omega)] at h
   have:a=p:=by
    cases hk:n - ρ.length with
    | zero=>rw [hk] at h;simpa using h.symm
    | succ k=>rw [hk] at h;simp at h
   subst this;exact .inr hp
 oth:=λa u h _=>by rw [ar (bF h hp)];exact h
 live:=(Stp.fresh (K:=K) (ρ:=ρ) hp).live
 tup:=λa xs h=>cF h (.inl hp)
 fro:=λa xs h=>cD h (.inl hp)
 frz:=λa ob u h=>by rw [ar (bF h hp)];exact h
theorem RH.allocO{p:Addr}{ob:O}{ho:HO}(h:RH K ρ H g)(hp:H p=none)(r:RHO K ρ H ob ho):RH K (ρ++[p]) (upd H p ho) (g++[ob]) where
 len:=by simp [h.len]
 inj:=λi j a h1 h2=>by
  have key:∀ k b,(ρ++[p])[k]? = some b->(k < ρ.length/\ρ[k]? = some b)\/(k=ρ.length/\b=p):=λk b e=>by
   by_cases hk:k < ρ.length
   .rw [List.getElem?_append_left hk] at e;exact .inl ⟨hk,e⟩
   .rw [List.getElem?_append_right (by omega)] at e
    cases hd:k - ρ.length with
    | zero=>rw [hd] at e;exact .inr ⟨by omega,by simpa using e.symm⟩
    | succ m=>rw [hd] at e;simp at e
  have noP:∀ k,ρ[k]? ≠ some p:=λk e=>by
   obtain ⟨o,ho⟩:=h.there e;rw [hp] at ho;cases ho
  rcases key i a h1 with ⟨_,e1⟩ | ⟨e1,e1'⟩
  .rcases key j a h2 with ⟨_,e2⟩ | ⟨e2,e2'⟩
   .exact h.inj i j a e1 e2
   .subst e2';exact absurd e1 (noP i)
  .rcases key j a h2 with ⟨_,e2⟩ | ⟨e2,e2'⟩
   .subst e1';exact absurd e2 (noP j)
   .omega
 obj:=λn a o h1 h2=>by
  by_cases hn:n < ρ.length
  .rw [List.getElem?_append_left hn] at h1
   rw [List.getElem?_append_left (by rw [<-h.len];exact hn)] at h2
   exact (h.obj n a o h1 h2).step (Stp.alloc hp) λho e=>by rw [ar (bF e hp)];exact e
  .have hl:=h.len
   rw [List.getElem?_append_right (by omega)] at h1
   rw [List.getElem?_append_right (by omega)] at h2
   rw [<-hl] at h2;cases hd:n - ρ.length with
   | zero =>
    rw [hd] at h1 h2;have e1:a=p:=by simpa using h1.symm
    have e2:o=ob:=by simpa using h2.symm
    subst e1;subst e2;exact ⟨ho,upd_same,r.step (Stp.alloc hp)⟩
   | succ m=>rw [hd] at h1;simp at h1
theorem RH.alloc{p:Addr}{us:List U}{vs:List V}(h:RH K ρ H g)(hp:H p=none)(r:RVs K ρ H us vs):RH K (ρ++[p]) (upd H p (.lst vs)) (g++[.lst us]):=h.allocO hp ⟨vs,rfl,r⟩
theorem Stp.writeO{n:Nat}{a:Addr}{x y:HO}(hn:ρ[n]? = some a)(ha:H a=some x)(hm:cN x):Stp K ρ H ρ (upd H a y) where
 ext:=λ_ _ h=>h
 new:=λ_ _ h => .inl h
 oth:=λb u h hb=>by
  have:b≠a:=λe=>hb (e ▸ List.mem_iff_getElem?.mpr ⟨n,hn⟩);rw [ar this];exact h
 live:=λb h=>by
  by_cases e:b=a
  .subst e;rw [upd_same];simp
  .rw [ar e];exact h
 tup:=λb zs h=>cF h (.inr ⟨_,ha,hm⟩)
 fro:=λb zs h=>cD h (.inr ⟨_,ha,hm⟩)
 frz:=λb ob u h=>by rw [ar (eV h ha (by rintro rfl;exact hm))];exact h
theorem Stp.write{n:Nat}{a:Addr}{xs ys:List V}(hn:ρ[n]? = some a)(ha:H a=some (.lst xs)):Stp K ρ H ρ (upd H a (.lst ys)):=Stp.writeO hn ha trivial
theorem RH.writeO{n:Nat}{a:Addr}{x y:HO}{ob:O}(h:RH K ρ H g)(hn:ρ[n]? = some a)(ha:H a=some x)(hm:cN x)(r:RHO K ρ H ob y):RH K ρ (upd H a y) (g.set n ob) where
 len:=by simp [h.len]
 inj:=h.inj
 obj:=λm b o h1 h2=>by
  by_cases e:m=n
  .subst e
   rw [hn] at h1;cases h1;rw [List.getElem?_set_self (by rw [<-h.len];exact (List.getElem?_eq_some_iff.mp hn).1)] at h2
   cases h2;exact ⟨y,upd_same,r.step (Stp.writeO hn ha hm)⟩
  .rw [List.getElem?_set_ne (Ne.symm e)] at h2
   have ne:b≠a:=λz=>e (h.inj m n a (z ▸ h1) hn);exact (h.obj m b o h1 h2).step (Stp.writeO hn ha hm) λho e1=>by rw [ar ne];exact e1
theorem RH.write{n:Nat}{a:Addr}{us:List U}{xs ys:List V}(h:RH K ρ H g)(hn:ρ[n]? = some a)(ha:H a=some (.lst xs))(r:RVs K ρ H us ys):RH K ρ (upd H a (.lst ys)) (g.set n (.lst us)):=h.writeO hn ha trivial ⟨ys,rfl,r⟩
structure RS(K:KD)(ρ:List Addr)(H:Hp)(σu:Su)(σ:L2.St):Prop where
 len:σu.length=σ.length
 val:∀ (i:Nat) (u:U),σu[i]? = some (some u) -> ∃ v,σ[i]? = some (some v)/\RV K ρ H u v
theorem RS.step{σu:Su}{σ:L2.St}(h:RS K ρ H σu σ)(s:Stp K ρ H ρ' H'):RS K ρ' H' σu σ :=
 ⟨h.len,λi u e=>let ⟨v,e1,r⟩:=h.val i u e;⟨v,e1,RV.step s _ _ r⟩⟩
theorem RS.set{σu:Su}{σ:L2.St}{i:Nat}{u:U}{v:V}(h:RS K ρ H σu σ)(r:RV K ρ H u v):RS K ρ H (σu.set i (some u)) (σ.set i (some v)) where
 len:=by simp [h.len]
 val:=λj w e=>by
  by_cases hj:j=i
  .subst hj
   have hl:j < σu.length:=by
    have:=(List.getElem?_eq_some_iff.mp e).1;simpa using this
   rw [List.getElem?_set_self hl] at e;cases e;exact ⟨v,by rw [List.getElem?_set_self (by rw [<-h.len];exact hl)],r⟩
  .rw [List.getElem?_set_ne (Ne.symm hj)] at e
   obtain ⟨x,e1,e2⟩:=h.val j w e;exact ⟨x,by rw [List.getElem?_set_ne (Ne.symm hj)];exact e1,e2⟩
end
noncomputable abbrev XQ:=Nat->List V->Hp->Prop
section
variable(K:KD)(W:XQ)
noncomputable def post{α β:Type}(R:List Addr->Hp->α->β->Prop)(o:Out α)(ρ:List Addr)(H:Hp)(Q:β->Hp->Prop):Prop:=match o with
 | .ok u g => ∀ v ρ' H',Stp K ρ H ρ' H'->RH K ρ' H' g->R ρ' H' u v->Q v H'
 | .exc c fs g => ∀ vs ρ' H',Stp K ρ H ρ' H'->RH K ρ' H' g->RVs K ρ' H' fs vs->W c vs H'
 | .bad=>False
noncomputable def postS(o:Out Fl)(ρ:List Addr)(H:Hp)(D:Ends):Prop:=match o with
 | .ok (.nx σu) g => ∀ σ ρ' H',Stp K ρ H ρ' H'->RH K ρ' H' g->RS K ρ' H' σu σ->D.nx σ H'
 | .ok (.bk σu) g => ∀ σ ρ' H',Stp K ρ H ρ' H'->RH K ρ' H' g->RS K ρ' H' σu σ->D.bk σ H'
 | .ok (.ct σu) g => ∀ σ ρ' H',Stp K ρ H ρ' H'->RH K ρ' H' g->RS K ρ' H' σu σ->D.ct σ H'
 | .ok (.rt u) g => ∀ v ρ' H',Stp K ρ H ρ' H'->RH K ρ' H' g->RV K ρ' H' u v->D.rt v H'
 | .exc c fs g => ∀ vs ρ' H',Stp K ρ H ρ' H'->RH K ρ' H' g->RVs K ρ' H' fs vs->W c vs H'
 | .bad=>False
noncomputable abbrev REq{α:Type}:List Addr->Hp->α->α->Prop:=λ_ _ a b=>a=b
noncomputable def tE(f:Su->G->Out U):TE:=λσ H Q => ∃ σu ρ g,RS K ρ H σu σ/\RH K ρ H g/\post K W (RV K) (f σu g) ρ H Q
noncomputable def tT(f:Su->G->Out Bool):TT:=λσ H Q => ∃ σu ρ g,RS K ρ H σu σ/\RH K ρ H g/\post K W REq (f σu g) ρ H Q
noncomputable def tAr(f:Su->G->Out (List U)):TA:=λσ H Q => ∃ σu ρ g,RS K ρ H σu σ/\RH K ρ H g/\post K W (RVs K) (f σu g) ρ H Q
noncomputable def tSt(f:Su->G->Out Fl):TS:=λD σ H => ∃ σu ρ g,RS K ρ H σu σ/\RH K ρ H g/\postS K W (f σu g) ρ H D
end
section
variable{K:KD}{W:XQ}{ρ ρ':List Addr}{H H':Hp}{α β α' β':Type}{R:List Addr->Hp->α->β->Prop}{R':List Addr->Hp->α'->β'->Prop}
theorem post.from{o:Out α}{Q:β->Hp->Prop}(h:post K W R o ρ H Q)(s:Stp K ρ H ρ' H'):post K W R o ρ' H' Q:=by
 cases o with
 | ok u g=>exact λv ρ2 H2 s2=>h v ρ2 H2 (s.trans s2)
 | exc c fs g=>exact λv ρ2 H2 s2=>h v ρ2 H2 (s.trans s2)
 | bad=>exact h
theorem postS.from{o:Out Fl}{D:Ends}(h:postS K W o ρ H D)(s:Stp K ρ H ρ' H'):postS K W o ρ' H' D:=by
 cases o with
 | ok f g=>cases f <;> exact λv ρ2 H2 s2=>h v ρ2 H2 (s.trans s2)
 | exc c fs g=>exact λv ρ2 H2 s2=>h v ρ2 H2 (s.trans s2)
 | bad=>exact h
theorem post.bind{o:Out α}{k:α->G->Out α'}{Q:β'->Hp->Prop}(h:post K W R' (o.bind k) ρ H Q):
  post K W R o ρ H (λv H1 => ∃ ρ1 u g1,Stp K ρ H ρ1 H1/\RH K ρ1 H1 g1/\R ρ1 H1 u v/\post K W R' (k u g1) ρ1 H1 Q):=by
 cases o with
 | ok u g=>exact λv ρ1 H1 s1 h1 r1=>⟨ρ1,u,g,s1,h1,r1,post.from (o:=k u g) h s1⟩
 | exc c fs g=>exact h
 | bad=>exact h
theorem postS.bind{o:Out α}{k:α->G->Out Fl}{D:Ends}(h:postS K W (o.bind k) ρ H D):
  post K W R o ρ H (λv H1 => ∃ ρ1 u g1,Stp K ρ H ρ1 H1/\RH K ρ1 H1 g1/\R ρ1 H1 u v/\postS K W (k u g1) ρ1 H1 D):=by
 cases o with
 | ok u g=>exact λv ρ1 H1 s1 h1 r1=>⟨ρ1,u,g,s1,h1,r1,postS.from (o:=k u g) h s1⟩
 | exc c fs g=>exact h
 | bad=>exact h
theorem post.mono{o:Out α}{Q Q':β->Hp->Prop}(h:post K W R o ρ H Q)(q:∀ v H1,Q v H1->Q' v H1):post K W R o ρ H Q':=by
 cases o with
 | ok u g=>exact λv ρ1 H1 s1 h1 r1=>q _ _ (h v ρ1 H1 s1 h1 r1)
 | exc c fs g=>exact h
 | bad=>exact h
theorem post.okHere{u:α}{v:β}{g:G}{Q:β->Hp->Prop}(h:post K W R (.ok u g) ρ H Q)(hg:RH K ρ H g)(r:R ρ H u v):Q v H:=h v ρ H .refl hg r
theorem post.lift{o:Option α}{g:G}{Q:β->Hp->Prop}(h:post K W R (lift o g) ρ H Q):∃ u,o=some u/\post K W R (.ok u g) ρ H Q:=by
 cases o with
 | none=>exact h.elim
 | some u=>exact ⟨u,rfl,h⟩
end
theorem _root_.L2.PE.imp{X:Cx}{e:Expr}{t t':TE}(h:PE X e t)(q:∀ σ H Q,t' σ H Q->t σ H Q):PE X e t':=λpins s σ H Q I h'=>h pins s σ H Q I (q σ H Q h')
theorem _root_.L2.PT.imp{X:Cx}{e:Expr}{t t':TT}(h:PT X e t)(q:∀ σ H Q,t' σ H Q->t σ H Q):PT X e t':=λpins s σ H Q I h'=>h pins s σ H Q I (q σ H Q h')
theorem _root_.L2.PW.imp{X:Cx}{e:Expr}{t t':TT}(h:PW X e t)(q:∀ σ H Q,t' σ H Q->t σ H Q):PW X e t':=λwh pins s σ H Q I h'=>h wh pins s σ H Q I (q σ H Q h')
theorem _root_.L2.PA.imp{X:Cx}{e:List Expr}{t t':TA}(h:PA X e t)(q:∀ σ H Q,t' σ H Q->t σ H Q):PA X e t':=λpos pins s σ H Q I h'=>h pos pins s σ H Q I (q σ H Q h')
theorem _root_.L2.PS.imp{X:Cx}{e:Stmt}{t t':TS}(h:PS X e t)(q:∀ D σ H,t' D σ H->t D σ H):PS X e t':=λpins s σ H Q I h'=>h pins s σ H Q I (q Q σ H h')
theorem _root_.L2.PSs.imp{X:Cx}{e:List Stmt}{t t':TS}(h:PSs X e t)(q:∀ D σ H,t' D σ H->t D σ H):PSs X e t':=λpins s σ H Q I h'=>h pins s σ H Q I (q Q σ H h')
theorem _root_.L2.PE.bad{X:Cx}{e:Expr}{K:KD}{W:XQ}{f:Su->G->Out U}(h:∀ σ g,f σ g=.bad):PE X e (tE K W f):=λpins s σ H Q I ⟨σu,ρ,g,_,_,p⟩=>by rw [h] at p;exact p.elim
theorem _root_.L2.PT.bad{X:Cx}{e:Expr}{K:KD}{W:XQ}{f:Su->G->Out Bool}(h:∀ σ g,f σ g=.bad):PT X e (tT K W f):=λpins s σ H Q I ⟨σu,ρ,g,_,_,p⟩=>by rw [h] at p;exact p.elim
theorem _root_.L2.PSs.bad{X:Cx}{e:List Stmt}{K:KD}{W:XQ}{f:Su->G->Out Fl}(h:∀ σ g,f σ g=.bad):PSs X e (tSt K W f):=λpins s σ H Q I ⟨σu,ρ,g,_,_,p⟩=>by rw [h] at p;exact p.elim
theorem _root_.L2.PS.bad{X:Cx}{e:Stmt}{K:KD}{W:XQ}{f:Su->G->Out Fl}(h:∀ σ g,f σ g=.bad):PS X e (tSt K W f):=λpins s σ H Q I ⟨σu,ρ,g,_,_,p⟩=>by rw [h] at p;exact p.elim
section
variable{K:KD}{ρ:List Addr}{H:Hp}
theorem RV.flat{u w:U}{x y:V}{b:Bool}(r1:RV K ρ H u x)(r2:RV K ρ H w y)(e:aH u w=some b):i4 x=true/\i4 y=true/\eqV x y=b:=by
 cases u <;> cases w <;> simp only [aH,Option.some.injEq,reduceCtorEq] at e <;> (subst e;cases r1;cases r2;exact ⟨rfl,rfl,rfl⟩)
theorem gR:∀ {us ws:List U} {vs:List V} {b:Bool},RVs K ρ H us vs->RVs K ρ H ws vs->aL us ws=some b->b=true
 | [],[],_,b,_,_,e=>by simpa [aL] using e.symm
 | [],_ :: _,_,b,_,_,e=>by simp [aL] at e
 | _ :: _,[],_,b,_,_,e=>by simp [aL] at e
 | u :: us,w :: ws,_,b,h1,h2,e=>by
  obtain ⟨v,r,rfl,a1,a2⟩:=h1;obtain ⟨v',r',e',b1,b2⟩:=h2;cases e';simp only [aL] at e;cases e0:aH u w with
  | none=>simp [e0] at e
  | some c =>
   cases e1:aL us ws with
   | none=>simp [e0,e1] at e
   | some d =>
    simp only [e0,e1,Option.some.injEq] at e;subst e;rw [gR a2 b2 e1];have:c=true:=by
     cases u <;> cases w <;> simp only [aH,Option.some.injEq,reduceCtorEq] at e0 <;> (subst e0;cases a1;cases b1;try simp)
    simp [this]
noncomputable def scU:U->Bool
 | .non | .bl _ | .int _ | .str _=>true
 | _=>false
theorem rj{u z:U}{b:Bool}(e:aH u z=some b):scU u=true:=by
 cases u <;> first | rfl | (cases z <;> cases e)
theorem Hq{u u':U}{v:V}(h1:RV K ρ H u v)(h2:RV K ρ H u' v)(e:scU u=true)(e':scU u'=true):u=u':=by
 cases u <;> first | (cases e;done) | (cases h1;cases u' <;> first | (cases e';done) | (cases h2 <;> rfl))
theorem tX{u u' z z':U}{v:V}{b b':Bool}(h1:RV K ρ H u v)(h2:RV K ρ H u' v)(e:aH u z=some b)(e':aH u' z'=some b'):u=u':=Hq h1 h2 (rj e) (rj e')
theorem qo:∀ {us us' zs:List U} {vs:List V} {b b':Bool},RVs K ρ H us vs->RVs K ρ H us' vs->aL us zs=some b->aL us' zs=some b'->us=us'
 | [],_,_,_,_,_,h1,h2,_,_=>by
  cases h1;have:=h2.length;simp at this;exact this.symm
 | _ :: _,_,[],_,_,_,_,_,e,_=>by simp [aL] at e
 | u :: us,[],_,_,_,_,h1,h2,_,_=>by
  obtain ⟨v,r,rfl,_,_⟩:=h1;cases h2
 | u :: us,u' :: us',z :: zs,_,b,b',h1,h2,e,e'=>by
  obtain ⟨v,r,rfl,a1,a2⟩:=h1;obtain ⟨v',r',q,b1,b2⟩:=h2;cases q;simp only [aL] at e e';cases e0:aH u z with
  | none=>simp [e0] at e
  | some c =>
   cases e1:aL us zs with
   | none=>simp [e0,e1] at e
   | some d =>
    cases e0':aH u' z with
    | none=>simp [e0'] at e'
    | some c' =>
     cases e1':aL us' zs with
     | none=>simp [e0',e1'] at e'
     | some d'=>rw [tX a1 b1 e0 e0',qo a2 b2 e1 e1']
theorem gT{u w:U}{b:Bool}(e:ueq u w=some b):(∃ us ws,u=.tup us/\w=.tup ws/\aL us ws=some b)\/aH u w=some b:=by
 cases u <;> cases w <;> first | exact .inr e | exact .inl ⟨_,_,rfl,rfl,e⟩
end
section
variable{X:Cx}{pins:List (Addr×Obj)}{σ:L2.St}{H:Hp}{s:Shared}{A:Around}
theorem BP{K:KD}{ρ:List Addr}{u w:U}{x y:V}{v v':Value}{b:Bool}(r1:RV K ρ H u x)(r2:RV K ρ H w y)(rx:RelV x v)(ry:RelV y v')(e:aH u w=some b):SeqAt.RcAt A s v v' b:=by
 cases u with
 | non =>
  cases r1;cases rx;cases w <;> simp only [aH,Option.some.injEq,reduceCtorEq] at e
  .subst e;cases r2;cases ry;exact SeqAt.RcAt.none_none
  .subst e;cases r2;cases ry;exact SeqAt.RcAt.none_bool _
  .subst e;cases r2;obtain ⟨t',rfl⟩:=ry;exact SeqAt.RcAt.none_int _ _
  .subst e;cases r2;obtain ⟨t',rfl⟩:=ry;exact SeqAt.RcAt.none_str _ _
 | bl a =>
  cases r1;cases rx;cases w <;> simp only [aH,Option.some.injEq,reduceCtorEq] at e
  .subst e;cases r2;cases ry;exact SeqAt.RcAt.bool_none _
  .subst e;cases r2;cases ry;exact SeqAt.RcAt.bool_bool _ _
  .subst e;cases r2;obtain ⟨t',rfl⟩:=ry;exact SeqAt.RcAt.bool_int _ _ _
  .subst e;cases r2;obtain ⟨t',rfl⟩:=ry;exact SeqAt.RcAt.bool_str _ _ _
 | int a =>
  cases r1;obtain ⟨t,rfl⟩:=rx;cases w <;> simp only [aH,Option.some.injEq,reduceCtorEq] at e
  .subst e;cases r2;cases ry;exact SeqAt.RcAt.int_none _ _
  .subst e;cases r2;cases ry;exact SeqAt.RcAt.int_bool _ _ _
  .subst e;cases r2;obtain ⟨t',rfl⟩:=ry;exact SeqAt.RcAt.int_int _ _ _ _
  .subst e;cases r2;obtain ⟨t',rfl⟩:=ry;exact SeqAt.RcAt.int_str _ _ _ _
 | str a =>
  cases r1;obtain ⟨t,rfl⟩:=rx;cases w <;> simp only [aH,Option.some.injEq,reduceCtorEq] at e
  .subst e;cases r2;cases ry;exact SeqAt.RcAt.str_none _ _
  .subst e;cases r2;cases ry;exact SeqAt.RcAt.str_bool _ _ _
  .subst e;cases r2;obtain ⟨t',rfl⟩:=ry;exact SeqAt.RcAt.str_int _ _ _ _
  .subst e;cases r2;obtain ⟨t',rfl⟩:=ry;exact SeqAt.RcAt.str_str _ _ _ _
 | _=>simp [aH] at e
theorem oj{K:KD}{ρ:List Addr}:∀ {us ws:List U} {xs ys:List V} {vs vs':List Value} {b:Bool},RVs K ρ H us xs->RVs K ρ H ws ys->Vals xs vs->Vals ys vs'->aL us ws=some b ->
  ∃ e:Nat->Bool,vs.length=vs'.length/\(∀ j (h1:j < vs.length) (h2:j < vs'.length),SeqAt.EqAt A s vs[j] vs'[j] (e j))/\(List.range vs.length).all e=b
 | [],[],_,_,_,_,b,h1,h2,q1,q2,e=>by
  cases h1;cases h2;cases q1;cases q2;simp only [aL,Option.some.injEq] at e;subst e;exact ⟨λ_=>true,rfl,λj h1=>absurd h1 (by simp),rfl⟩
 | [],_ :: _,_,_,_,_,b,h1,h2,q1,q2,e=>by simp [aL] at e
 | _ :: _,[],_,_,_,_,b,h1,h2,q1,q2,e=>by simp [aL] at e
 | u :: us,w :: ws,_,_,_,_,b,h1,h2,q1,q2,e=>by
  obtain ⟨x,xs,rfl,a1,a2⟩:=h1;obtain ⟨y,ys,rfl,b1,b2⟩:=h2;cases q1 with
  | cons rx q1 =>
  cases q2 with
  | cons ry q2 =>
  simp only [aL] at e;cases e0:aH u w with
  | none=>simp [e0] at e
  | some c =>
   cases e1:aL us ws with
   | none=>simp [e0,e1] at e
   | some d =>
    simp only [e0,e1,Option.some.injEq] at e;subst e;obtain ⟨f,l,hf,hd⟩:=oj a2 b2 q1 q2 e1;obtain ⟨fx,fy,ev⟩:=a1.flat b1 e0;refine ⟨λj=>match j with | 0=>c | j+1=>f j,by simp [l],λj h1 h2 => ?_,?_⟩
    .cases j with
     | zero=>subst ev;exact ki rx ry fx fy
     | succ j=>exact hf j (by simpa using h1) (by simpa using h2)
    .subst hd
     rw [List.length_cons,List.range_succ_eq_map,List.all_cons,List.all_map]
     rfl
theorem wD{ρ:List Addr}{u w:U}{x y:V}{v v':Value}{b:Bool}(I:Inv X pins σ H s)(hu:A.units < cLine)(r1:RV X.K ρ H u x)(r2:RV X.K ρ H w y)(rx:RelV x v)(ry:RelV y v')(e:ueq u w=some b):SeqAt.RcAt A s v v' b:=by
 by_cases ht:∃ us ws,u=.tup us/\w=.tup ws
 .obtain ⟨us,ws,rfl,rfl⟩:=ht
  obtain ⟨a,xs,rfl,h1,h2⟩:=r1;obtain ⟨a',ys,rfl,h3,h4⟩:=r2;cases rx;cases ry;obtain ⟨its,q1,p1,_⟩:=I.tuple h1.sq;obtain ⟨its',q2,p2,_⟩:=I.tuple h3.sq;obtain ⟨f,l,hf,hd⟩:=oj (A:=A.in1) (s:=s) h2 h4 q1 q2 e;have:=SeqAt.RcAt.tuples (A:=A) (s:=s) (l:=a) (b:=a') (items:=its.toArray) (items2:=its'.toArray) (e:=f) p1 p2 hu (λj h1 h2=>by simpa using hf j (by simpa using h1) (by simpa using h2))
  have e2:((List.range (min its.toArray.size its'.toArray.size)).all f && its.toArray.size == its'.toArray.size)=b:=by simp [<-l,hd]
  rw [e2] at this;exact this
 .have e':aH u w=some b:=by
   cases u <;> cases w <;> first | exact e | exact absurd ⟨_,_,rfl,rfl⟩ ht
  exact BP r1 r2 rx ry e'
theorem vm{ρ:List Addr}{u w:U}{x y:V}{v v':Value}{b:Bool}(I:Inv X pins σ H s)(hu:A.units < cLine)(r1:RV X.K ρ H u x)(r2:RV X.K ρ H w y)(rx:RelV x v)(ry:RelV y v')(e:ueq u w=some b):SeqAt.EqAt A s v v' b:=by
 by_cases ht:∃ us ws,u=.tup us/\w=.tup ws
 .have rc:=wD I hu r1 r2 rx ry e
  obtain ⟨us,ws,rfl,rfl⟩:=ht;obtain ⟨a,xs,rfl,h1,h2⟩:=r1;obtain ⟨a',ys,rfl,h3,h4⟩:=r2;cases rx;cases ry;by_cases ha:a=a'
  .subst ha
   obtain rfl:=I.tuple_inj h1.sq h3.sq;have:=gR h2 h4 e;subst this;exact SeqAt.EqAt.same _
  .exact SeqAt.EqAt.of_refs ha rc
 .have e':aH u w=some b:=by
   cases u <;> cases w <;> first | exact e | exact absurd ⟨_,_,rfl,rfl⟩ ht
  obtain ⟨fx,fy,ev⟩:=r1.flat r2 e';subst ev;exact ki rx ry fx fy
theorem Bg{ρ:List Addr}{u w:U}{y:V}{b:Bool}(I:Inv X pins σ H s)(h1:RV X.K ρ H u y)(h2:RV X.K ρ H w y)(e:ueq u w=some b):b=true:=by
 rcases gT e with ⟨us,ws,rfl,rfl,e⟩ | e
 .obtain ⟨a,xs,rfl,t1,t2⟩:=h1
  obtain ⟨a',ys,q,t3,t4⟩:=h2;cases q;obtain rfl:=I.tuple_inj t1.sq t3.sq;exact gR t2 t4 e
 .have:=gR (b:=b && true) (RVs.one h1) (RVs.one h2) (by simp only [aL,e])
  simpa using this
theorem jN{ρ:List Addr}{q:U->U->Option Bool}(hq:∀ u w x y v v' b,RV X.K ρ H u x->RV X.K ρ H w y->RelV x v->RelV y v'->q u w=some b->SeqAt.EqAt A s v v' b):∀ {us ws:List U} {xs ys:List V} {its its':List Value} {b:Bool},RVs X.K ρ H us xs->RVs X.K ρ H ws ys->Vals xs its->Vals ys its'->qs q us ws=some b ->
  ∃ f:Nat->Bool,its.length=its'.length/\(∀ j (h1:j < its.length) (h2:j < its'.length),SeqAt.EqAt A s its[j] its'[j] (f j))/\(List.range its.length).all f=b
 | [],[],_,_,_,_,b,h1,h2,q1,q2,e=>by
  cases h1;cases h2;cases q1;cases q2;simp only [qs,Option.some.injEq] at e;subst e;exact ⟨λ_=>true,rfl,λj h=>by simp at h,rfl⟩
 | [],_ :: _,_,_,_,_,_,_,_,_,_,e=>by simp [qs] at e
 | _ :: _,[],_,_,_,_,_,_,_,_,_,e=>by simp [qs] at e
 | u :: us,w :: ws,_,_,_,_,b,h1,h2,q1,q2,e=>by
  obtain ⟨x,xs,rfl,a1,a2⟩:=h1;obtain ⟨y,ys,rfl,b1,b2⟩:=h2;cases q1 with
  | cons rx q1 =>
  cases q2 with
  | cons ry q2 =>
  simp only [qs] at e;cases e0:q u w with
  | none=>simp [e0] at e
  | some c =>
   cases e1:qs q us ws with
   | none=>simp [e0,e1] at e
   | some d =>
    simp only [e0,e1,Option.some.injEq] at e;subst e;obtain ⟨f,l,hf,hd⟩:=jN hq a2 b2 q1 q2 e1;refine ⟨λj=>match j with | 0=>c | j+1=>f j,by simp [l],λj h1 h2 => ?_,?_⟩
    .cases j with
     | zero=>exact hq u w x y _ _ c a1 b1 rx ry e0
     | succ j=>exact hf j (by simpa using h1) (by simpa using h2)
    .subst hd
     rw [List.length_cons,List.range_succ_eq_map,List.all_cons,List.all_map]
     rfl
theorem pY{ρ:List Addr}{q:U->U->Option Bool}(hq:∀ u w y b,RV X.K ρ H u y->RV X.K ρ H w y->q u w=some b->b=true):∀ {us ws:List U} {xs:List V} {b:Bool},RVs X.K ρ H us xs->RVs X.K ρ H ws xs->qs q us ws=some b->b=true
 | [],[],_,b,_,_,e=>by simpa [qs] using e.symm
 | [],_ :: _,_,_,_,_,e=>by simp [qs] at e
 | _ :: _,[],_,_,_,_,e=>by simp [qs] at e
 | u :: us,w :: ws,_,b,h1,h2,e=>by
  obtain ⟨x,xs,rfl,a1,a2⟩:=h1;obtain ⟨y,ys,z,b1,b2⟩:=h2;cases z;simp only [qs] at e;cases e0:q u w with
  | none=>simp [e0] at e
  | some c =>
   cases e1:qs q us ws with
   | none=>simp [e0,e1] at e
   | some d =>
    simp only [e0,e1,Option.some.injEq] at e;rw [<-e,hq u w _ c a1 b1 e0,pY hq a2 b2 e1]
    rfl
theorem Ff{ρ:List Addr}{u w:U}{x y:V}{v v':Value}{b:Bool}(I:Inv X pins σ H s)(hu:A.units+1 < cLine)(r1:RV X.K ρ H u x)(r2:RV X.K ρ H w y)(rx:RelV x v)(ry:RelV y v')(e:lg u w=some b):SeqAt.EqAt A s v v' b:=by
 by_cases ht:∃ us ws,u=.tup us/\w=.tup ws
 .obtain ⟨us,ws,rfl,rfl⟩:=ht
  obtain ⟨a,xs,rfl,h1,h2⟩:=r1;obtain ⟨a',ys,rfl,h3,h4⟩:=r2;cases rx;cases ry;have e:qs ueq us ws=some b:=e;by_cases ha:a=a'
  .subst ha
   obtain rfl:=I.tuple_inj h1.sq h3.sq;have:=pY (λu w y b q1 q2 q3=>Bg I q1 q2 q3) h2 h4 e;subst this;exact SeqAt.EqAt.same _
  .refine SeqAt.EqAt.of_refs ha ?_
   obtain ⟨its,q1,p1,_⟩:=I.tuple h1.sq;obtain ⟨its',q2,p2,_⟩:=I.tuple h3.sq;obtain ⟨f,l,hf,hd⟩:=jN (A:=A.in1) (s:=s) (λu w x y v v' b q1 q2 q3 q4 q5=>vm (A:=A.in1) I hu q1 q2 q3 q4 q5) h2 h4 q1 q2 e;have:=SeqAt.RcAt.tuples (A:=A) (s:=s) (l:=a) (b:=a') (items:=its.toArray) (items2:=its'.toArray) (e:=f) p1 p2 (by omega) (λj h1 h2=>by simpa using hf j (by simpa using h1) (by simpa using h2))
   have e2:((List.range (min its.toArray.size its'.toArray.size)).all f && its.toArray.size == its'.toArray.size)=b:=by simp [<-l,hd]
   rw [e2] at this;exact this
 .have e':aH u w=some b:=by
   cases u <;> cases w <;> first | exact e | exact absurd ⟨_,_,rfl,rfl⟩ ht
  obtain ⟨fx,fy,ev⟩:=r1.flat r2 e';subst ev;exact ki rx ry fx fy
end
section
variable{X:Cx}{W:XQ}{C:Nat->List U->G->Out U}{r:L}{pos:Pos}
theorem GL(hu:X.A.units < cLine):OpR X (compareOp .Eq) (λx y H Q => ∃ ρ u w b,RV X.K ρ H u x/\RV X.K ρ H w y/\ueq u w=some b/\Q (.bl b) H):=by
 intro pins s σ H x y v u Q I rx ry ⟨ρ,a,w,b,r1,r2,e,q⟩;exact wD I hu r1 r2 rx ry e X.prog X.w X.xe _ ⟨.bl b,H,I,rfl,q⟩
theorem oZ{x y:U}{g:G}{p:List U×List U}(e:bR x y g=some p):∃ n m,x=.ref n/\y=.ref m/\g[n]? = some (.lst p.1)/\g[m]? = some (.lst p.2):=by
 unfold bR at e;split at e
 .split at e
  .split at e
   .split at e
    .rename_i h1 _ _ h2
     cases e;exact ⟨_,_,rfl,rfl,h1,h2⟩
    .cases e
   .cases e
  .cases e
 .cases e
theorem Ei(hu:X.A.units+2 < cLine):OpR X (compareOp .Eq) (λx y H Q => ∃ ρ g u w p b,RH X.K ρ H g/\RV X.K ρ H u x/\RV X.K ρ H w y/\bR u w g=some p/\qs lg p.1 p.2=some b/\Q (.bl b) H):=by
 intro pins s σ H x y v u Q I rx ry ⟨ρ,g,a,w,p,b,hg,r1,r2,hl,e,q⟩;obtain ⟨n,m,rfl,rfl,g1,g2⟩:=oZ hl;obtain ⟨a1,vs,c1,c2,c3⟩:=hg.lst g1;obtain ⟨a2,ws,d1,d2,d3⟩:=hg.lst g2;obtain ⟨a1',rfl,z⟩:=r1;rw [c1] at z;cases z;obtain ⟨a2',rfl,z⟩:=r2;rw [d1] at z;cases z;cases rx;cases ry;obtain ⟨its,q1,p1,_⟩:=I.list (.of c2);obtain ⟨its',q2,p2,_⟩:=I.list (.of d2);obtain ⟨f,l,hf,hd⟩:=jN (A:=X.A.in1) (s:=s) (λu w x y v v' b q1 q2 q3 q4 q5=>Ff (A:=X.A.in1) I (by exact hu) q1 q2 q3 q4 q5) c3 d3 q1 q2 e
 refine SeqAt.eq_listAt (e:=f) p1.isList p2.isList (by simp [l]) (by omega) (λj h1 h2=>by simpa using hf j (by simpa using h1) (by simpa using h2)) ?_
 refine ⟨.bl b,H,I,?_,q⟩;rw [<-hd];simp only [List.size_toArray]
 rfl
theorem fD{K:KD}{ρ:List Addr}{H:Hp}{g:G}{u:U}{x:V}{us:List U}(h:RH K ρ H g)(r1:RV K ρ H u x)(e:items u g=some us):∃ a vs,x=.ref a/\(SqL K H a vs\/SqT K H a vs)/\RVs K ρ H us vs:=by
 cases u with
 | tup xs=>obtain ⟨a,vs,rfl,h1,h2⟩:=r1;cases e;exact ⟨a,vs,rfl,.inr h1.sq,h2⟩
 | fro xs=>obtain ⟨a,vs,rfl,h1,h2⟩:=r1;cases e;exact ⟨a,vs,rfl,.inl h1.sq,h2⟩
 | xn _ xs=>obtain ⟨a,vs,rfl,h1,h2⟩:=r1;cases e;exact ⟨a,vs,rfl,.inr h1.sq,h2⟩
 | ref n =>
  obtain ⟨a,rfl,hn⟩:=r1;simp only [items] at e;cases eg:g[n]? with
  | none=>simp [eg] at e
  | some o =>
   cases o with
   | lst xs =>
    simp only [eg,Option.some.injEq] at e;subst e;obtain ⟨a',vs,h1,h2,h3⟩:=h.lst eg;rw [hn] at h1;cases h1;exact ⟨a,vs,rfl,.inl (.of h2),h3⟩
   | dic _=>simp [eg] at e
   | dif _=>simp [eg] at e
   | dst _=>simp [eg] at e
   | ins _ _=>simp [eg] at e
 | _=>simp [items] at e
theorem CM{ρ:List Addr}{H:Hp}{pins:List (Addr×Obj)}{σ:L2.St}{s:Shared}{w w' u:U}{y:V}{c c':Bool}(I:Inv X pins σ H s)(h1:RV X.K ρ H w y)(h2:RV X.K ρ H w' y)(e:ueq w u=some c)(e':ueq w' u=some c'):c=c':=by
 have key:w=w':=by
  rcases gT e with ⟨us,zs,rfl,rfl,e⟩ | e
  .rcases gT e' with ⟨us',zs',rfl,q,e'⟩ | e'
   .cases q
    obtain ⟨a,vs,rfl,t1,t2⟩:=h1;obtain ⟨a',vs',q,t3,t4⟩:=h2;cases q;obtain rfl:=I.tuple_inj t1.sq t3.sq;rw [qo t2 t4 e e']
   .cases w' <;> simp [aH] at e'
  .rcases gT e' with ⟨us',zs',rfl,rfl,e'⟩ | e'
   .cases w <;> simp [aH] at e
   .exact tX h1 h2 e e'
 subst key;rw [e] at e';exact Option.some.inj e'
theorem nh{α:Type}{e f:α->Bool}:∀ {l:List α},(∀ z∈l,e z=f z)->l.any e=l.any f
 | [],_=>rfl
 | x :: l,h=>by rw [List.any_cons,List.any_cons,h x List.mem_cons_self,nh λz hz=>h z (Kx _ hz)]
theorem fA{ρ:List Addr}{H:Hp}{pins:List (Addr×Obj)}{σ:L2.St}{s:Shared}{A:Around}{u:U}{x:V}{v:Value}(I:Inv X pins σ H s)(hu:A.units < cLine)(r1:RV X.K ρ H u x)(rx:RelV x v):
  ∀ {us:List U} {vs:List V} {its:List Value} {b:Bool},RVs X.K ρ H us vs->Vals vs its->uin u us=some b ->
   ∃ e:Value->Bool,(∀ y∈its,SeqAt.EqAt A s y v (e y))/\its.any e=b /\ ∀ w y vy c,RV X.K ρ H w y->RelV y vy->vy∈its->ueq w u=some c->e vy=c
 | [],_,_,b,h,q,e=>by
  cases h;cases q;simp only [uin,Option.some.injEq] at e;subst e;exact ⟨λ_=>false,λy hy=>by simp at hy,rfl,λ_ _ _ _ _ _ hm=>by simp at hm⟩
 | w :: us,_,_,b,h,q,e=>by
  obtain ⟨y,ys,rfl,a1,a2⟩:=h;cases q with
  | cons ry q =>
  rename_i vy its;simp only [uin] at e;cases e0:ueq w u with
  | none=>simp [e0] at e
  | some c =>
   cases e1:uin u us with
   | none=>simp [e0,e1] at e
   | some d =>
    simp only [e0,e1,Option.some.injEq] at e;subst e;obtain ⟨f,hf,hd,hc⟩:=fA I hu r1 rx a2 q e1;have hy:SeqAt.EqAt A s vy v c:=vm I hu a1 r1 ry rx e0;have same:∀ z∈its,(if z=vy then c else f z)=f z:=λz hz=>by
     by_cases hz2:z=vy
     .subst hz2
      rw [if_pos rfl];exact (hc w y _ c a1 ry hz e0).symm
     .rw [if_neg hz2]
    refine ⟨λz=>if z=vy then c else f z,λz hz => ?_,?_,λw' y' vy' c' h1 h2 hm e' => ?_⟩
    .by_cases hz2:z=vy
     .subst hz2;simpa using hy
     .rcases List.mem_cons.mp hz with h | h
      .exact absurd h hz2
      .simpa [hz2] using hf z h
    .rw [List.any_cons,nh same,hd]
     simp
    .by_cases hz2:vy'=vy
     .subst hz2
      obtain rfl:=h2.inj ry;simpa using (CM I a1 h1 e0 e')
     .rcases List.mem_cons.mp hm with h | h
      .exact absurd h hz2
      .simpa [hz2] using hc w' y' vy' c' h1 h2 h e'
theorem E2(hu:X.A.units+1 < cLine):OpR X (compareOp .In) (λx y H Q => ∃ ρ g u w us b,RH X.K ρ H g/\RV X.K ρ H u x/\RV X.K ρ H w y/\items w g=some us/\uin u us=some b/\Q (.bl b) H):=by
 intro pins s σ H x y v u Q I rx ry ⟨ρ,g,a,w,us,b,hg,r1,r2,ei,e,q⟩;obtain ⟨p,vs,rfl,hq,rs⟩:=fD hg r2 ei;cases ry;rcases hq with hq | hq
 .obtain ⟨its,rv,pl,hz⟩:=I.list hq
  obtain ⟨f,hf,hd,_⟩:=fA (A:=X.A.in1) I (by exact hu) r1 rx rs rv e
  exact SeqAt.in_listAt f pl.isList (λw hw=>hf w (by simpa using hw)) ⟨.bl b,H,I,by rw [show its.toArray.any f=its.any f by simp,hd];rfl,q⟩
 .obtain ⟨its,rv,pl,hz⟩:=I.tuple hq
  obtain ⟨f,hf,hd,_⟩:=fA (A:=X.A.in1) I (by exact hu) r1 rx rs rv e
  exact SeqAt.in_tupleAt f pl (λw hw=>hf w (by simpa using hw)) ⟨.bl b,H,I,by rw [show its.toArray.any f=its.any f by simp,hd];rfl,q⟩
theorem CJ(hu:X.A.units+1 < cLine):OpR X (compareOp .NotIn) (λx y H Q => ∃ ρ g u w us b,RH X.K ρ H g/\RV X.K ρ H u x/\RV X.K ρ H w y/\items w g=some us/\uin u us=some b/\Q (.bl (!b)) H):=by
 intro pins s σ H x y v u Q I rx ry ⟨ρ,g,a,w,us,b,hg,r1,r2,ei,e,q⟩;obtain ⟨p,vs,rfl,hq,rs⟩:=fD hg r2 ei;cases ry;rcases hq with hq | hq
 .obtain ⟨its,rv,pl,hz⟩:=I.list hq
  obtain ⟨f,hf,hd,_⟩:=fA (A:=X.A.in1) I (by exact hu) r1 rx rs rv e
  exact SeqAt.notIn_listAt f pl.isList (λw hw=>hf w (by simpa using hw)) ⟨.bl (!b),H,I,by rw [show its.toArray.any f=its.any f by simp,hd];rfl,q⟩
 .obtain ⟨its,rv,pl,hz⟩:=I.tuple hq
  obtain ⟨f,hf,hd,_⟩:=fA (A:=X.A.in1) I (by exact hu) r1 rx rs rv e
  exact SeqAt.notIn_tupleAt f pl (λw hw=>hf w (by simpa using hw)) ⟨.bl (!b),H,I,by rw [show its.toArray.any f=its.any f by simp,hd];rfl,q⟩
end
open PySem PySem.Spec PyProof.Rows L2 PySem.W
theorem gJ{α β:Type}{M:Model}{h:Heap}{f:α->β->Sem (ForInStep β)}{g:β->α->β}(I:List α->β->Prop)(hs:∀ x r b,I (x :: r) b->Looks M h (f x b) (.yield (g b x))/\I r (g b x)):∀ (l:List α) (b:β),I l b->Looks M h (forIn l b f) (l.foldl g b)
 | [],b,_=>by rw [List.forIn_nil];exact .now
 | x :: l,b,hi=>by
  rw [List.forIn_cons];exact (hs x l b hi).1.andThen (gJ I hs l _ (hs x l b hi).2)
noncomputable def bg(b:List (Str×Value))(x:Str×Value):List (Str×Value):=if (b.lookup x.1).isNone=true then b++[x] else b
theorem cP{α:Type}{n:Str}:∀ {b c:List (Str×α)},(b++c).lookup n=match b.lookup n with | some v=>some v | none=>c.lookup n
 | [],c=>rfl
 | (m,v) :: b,c=>by
  rw [List.cons_append,List.lookup_cons,List.lookup_cons];cases n == m with
  | true=>rfl
  | false=>exact cP
theorem me{n:Str}{b:List (Str×Value)}{x:Str×Value}:(bg b x).lookup n=(b++[x]).lookup n:=by
 unfold bg;split
 .rfl
 .rename_i h
  rw [cP];cases e:b.lookup n with
  | some v=>rfl
  | none =>
   obtain ⟨m,v⟩:=x;simp only [List.lookup_cons,List.lookup_nil];cases q:n == m with
   | false=>rfl
   | true=>rw [eq_of_beq q] at e;rw [e] at h;exact absurd rfl h
theorem gI{n:Str}:∀ {l b:List (Str×Value)},(l.foldl bg b).lookup n=(b++l).lookup n
 | [],b=>by simp
 | x :: l,b=>by
  rw [List.foldl_cons,gI,cP,me,<-cP,List.append_assoc]
  rfl
theorem nK{α:Type}{n:Str}:∀ {l:List (Str×α)},(l.map (·.1)).contains n=false->l.lookup n=none
 | [],_=>rfl
 | (m,v) :: l,h=>by
  rw [List.map_cons,List.contains_cons,Bool.or_eq_false_iff] at h;rw [List.lookup_cons,h.1];exact nK h.2
theorem jE{α:Type}{n:Str}:∀ {l:List (Str×α)},(l.map (·.1)).contains n=true->(l.lookup n).isSome=true
 | [],h=>by cases h
 | (m,v) :: l,h=>by
  rw [List.map_cons,List.contains_cons,Bool.or_eq_true] at h;rw [List.lookup_cons];cases q:n == m with
  | true=>rfl
  | false =>
   rcases h with h | h
   .rw [q] at h;cases h
   .exact jE h
theorem fI{α:Type}:∀ {ns:List Str} {us:List α},(ns.zip us).map (·.1)=ns.take us.length
 | [],_=>by simp
 | _ :: _,[]=>by simp
 | n :: ns,u :: us=>by simp [fI (ns:=ns) (us:=us)]
theorem z8{K:Frag}{M:Model}{h:Heap}{fd:FuncData}{ns ks:List Str}{us:List Value}{kw:List (Str×Value)}{od:Option (Array Value)}{kd:Str->Value}(X:K.In h)
  (h1:fd.params.posonlyargs=[]) (h2:fd.params.args.map (·.arg)=ns) (h3:fd.params.vararg=none) (h4:fd.params.kwonlyargs.map (·.arg)=ks) (h5:fd.params.kwarg=none)
  (hd:Looks M h (seqItems? fd.defaults) od) (hdl:(od.getD #[]).toList.length<=ns.length) (hl:us.length<=ns.length) (hkw:∀ p∈kw,(ns.contains p.1 || ks.contains p.1)=true) (hf:fW (ns.take us.length) (kw.map (·.1))=true)
  (hm:∀ n∈ns.take (ns.length - (od.getD #[]).toList.length),(ns.take us.length++kw.map (·.1)).contains n=true)
  (hk:∀ n∈ks,(ns.take us.length++kw.map (·.1)).contains n=false -> ∃ d,fd.kwdefaults=.ref d/\nsIn K d n=some (some (kd n))) :
  Looks M h (bindArgs fd ⟨us,kw⟩) ((ns++ks).filterMap λn=>((ns.zip us++(kw++((ns.drop (ns.length - (od.getD #[]).toList.length)).zip (od.getD #[]).toList++ks.map λn=>(n,kd n)))).lookup n).map (n,·)):=by
 unfold bindArgs;simp only [h1,h2,h3,h4,h5,List.map_nil,List.nil_append,Option.isSome_none,Bool.false_eq_true,if_false];have e1:∀ (l:List (Str×Value)) (b:List (Str×Value)×List (Str×Value)),l.foldl (λb x=>(b.1++[x],b.2)) b=(b.1++l,b.2):=by
  intro l
  induction l with
  | nil=>intro b;simp
  | cons x l ih=>intro b;rw [List.foldl_cons,ih];simp
 refine Looks.andThen (a:=(ns.zip us++kw,[])) ?l1 ?l2
 case l1 =>
  have:=e1 kw (ns.zip us,[]);rw [<-this];refine gJ (g:=λ(b:List (Str×Value)×List (Str×Value)) x=>(b.1++[x],b.2)) (λr b=>(∀ p∈r,(ns.contains p.1 || ks.contains p.1)=true)/\fW (b.1.map (·.1)) (r.map (·.1))=true) ?_ kw _ ⟨hkw,by rw [fI];exact hf⟩
  rintro x r b ⟨q1,q2⟩;rw [List.map_cons,fW,Bool.and_eq_true,Bool.not_eq_true'] at q2;refine ⟨?_,λp hp=>q1 p (Kx _ hp),by rw [List.map_append];exact q2.2⟩
  rw [if_pos (q1 x List.mem_cons_self),nK q2.1];exact .now
 refine hd.andThen ?_;have hg : ¬ us.length > ns.length:=by omega
 generalize hds:(od.getD #[]).toList=ds at *;have e2:List.drop (ds.length - ns.length) ds=ds:=by rw [Nat.sub_eq_zero_of_le hdl,List.drop_zero]
 simp only [decide_eq_false hg,Bool.false_and,Bool.false_eq_true,if_false,e2];have e3:List.filter (λn=>((ns.zip us++kw).lookup n).isNone) (ns.take (ns.length - ds.length))=[]:=by
  rw [List.filter_eq_nil_iff];intro x hx;have:=jE (l:=ns.zip us++kw) (n:=x) (by rw [List.map_append,fI];exact hm x hx)
  cases q:(ns.zip us++kw).lookup x with
  | none=>rw [q] at this;cases this
  | some v=>simp
 simp only [e3,List.isEmpty_nil,Bool.not_true,Bool.false_eq_true,if_false];have e4:∀ (l:List Str) (b:List (Str×Value)×List Str),l.foldl (λ(b:List (Str×Value)×List Str) n=>(bg b.1 (n,kd n),b.2)) b=((l.map λn=>(n,kd n)).foldl bg b.1,b.2):=by
  intro l
  induction l with
  | nil=>intro b;rfl
  | cons x l ih=>intro b;rw [List.foldl_cons,ih];rfl
 refine Looks.andThen (a:=List.foldl bg (ns.zip us++kw) ((ns.drop (ns.length - ds.length)).zip ds)) ?l3 ?l4
 case l3 =>
  refine gJ (g:=bg) (λ_ _=>True) ?_ _ _ trivial;rintro x r b -;refine ⟨?_,trivial⟩;unfold bg;split
  .exact .now
  .exact .now
 refine Looks.andThen (a:=((ks.map λn=>(n,kd n)).foldl bg (List.foldl bg (ns.zip us++kw) ((ns.drop (ns.length - ds.length)).zip ds)),[])) ?l5 ?l6
 case l5 =>
  have:=e4 ks (List.foldl bg (ns.zip us++kw) ((ns.drop (ns.length - ds.length)).zip ds),[]);rw [<-this];refine gJ (g:=λ(b:List (Str×Value)×List Str) n=>(bg b.1 (n,kd n),b.2)) (λr b => ∀ n∈r,(b.1.lookup n).isNone=true -> ∃ d,fd.kwdefaults=.ref d/\nsIn K d n=some (some (kd n))) ?_ ks _ ?_
  .intro x r b q
   refine ⟨?_,λn hn hi => ?_⟩
   .dsimp only [bg]
    split
    .rename_i hi
     obtain ⟨d,d1,d2⟩:=q x List.mem_cons_self hi;rw [d1];exact (looks_nsIn X d2).andThen .now
    .exact .now
   .refine q n (Kx _ hn) ?_
    have:=me (n:=n) (b:=b.1) (x:=(x,kd x));dsimp only at hi;rw [this,cP] at hi;cases e:b.1.lookup n with
    | none=>rfl
    | some v=>rw [e] at hi;cases hi
  .intro n hn hi
   refine hk n hn ?_;dsimp only at hi;rw [gI,cP] at hi;cases e:(ns.zip us++kw).lookup n with
   | some v=>rw [e] at hi;cases hi
   | none =>
    rw [Bool.eq_false_iff];intro z;have:=jE (l:=ns.zip us++kw) (n:=n) (by rw [List.map_append,fI];exact z)
    rw [e] at this;cases this
 simp only [List.isEmpty_nil,Bool.not_true,Bool.false_eq_true,if_false];have e5:∀ n,(List.foldl bg (List.foldl bg (ns.zip us++kw) ((ns.drop (ns.length - ds.length)).zip ds)) (ks.map λn=>(n,kd n))).lookup n=(ns.zip us++(kw++((ns.drop (ns.length - ds.length)).zip ds++ks.map λn=>(n,kd n)))).lookup n:=λn=>by
  rw [gI,cP,gI,<-cP];simp only [List.append_assoc]
 simp only [e5];exact .now
inductive F2{α β:Type}(R:α->β->Prop):List α->List β->Prop
 | nil:F2 R [] []
 | cons {a:α} {b:β} {l:List α} {m:List β}:R a b->F2 R l m->F2 R (a :: l) (b :: m)
section
variable{α β:Type}{R:α->β->Prop}
noncomputable def PR(R:α->β->Prop)(p:Str×α)(q:Str×β):Prop:=p.1=q.1/\R p.2 q.2
theorem F2.zip{l:List α}{m:List β}(h:F2 R l m):∀ ns:List Str,F2 (PR R) (ns.zip l) (ns.zip m):=by
 induction h with
 | nil=>intro ns;cases ns <;> exact .nil
 | cons r _ ih =>
  intro ns;cases ns with
  | nil=>exact .nil
  | cons n ns=>exact .cons ⟨rfl,r⟩ (ih ns)
theorem F2.append{l l':List α}{m m':List β}(h:F2 R l m)(h':F2 R l' m'):F2 R (l++l') (m++m'):=by
 induction h with
 | nil=>exact h'
 | cons r _ ih=>exact .cons r ih
theorem F2.lookup{l:List (Str×α)}{m:List (Str×β)}(h:F2 (PR R) l m)(n:Str):(l.lookup n=none/\m.lookup n=none) \/ ∃ a b,l.lookup n=some a/\m.lookup n=some b/\R a b:=by
 induction h with
 | nil=>exact .inl ⟨rfl,rfl⟩
 | @cons a b l m r _ ih =>
  obtain ⟨n1,a⟩:=a;obtain ⟨n2,b⟩:=b;obtain ⟨e,r⟩:=r;dsimp only at e r;subst e;rw [List.lookup_cons,List.lookup_cons];cases q:n == n1 with
  | true=>exact .inr ⟨a,b,rfl,rfl,r⟩
  | false=>exact ih
theorem F2.filterMap{f:Str->Option α}{f':Str->Option β}(h:∀ n,(f n=none/\f' n=none) \/ ∃ a b,f n=some a/\f' n=some b/\R a b):∀ ns:List Str,F2 R (ns.filterMap f) (ns.filterMap f')
 | [] => .nil
 | n :: ns=>by
  rw [List.filterMap_cons,List.filterMap_cons];rcases h n with ⟨a,b⟩ | ⟨x,y,a,b,r⟩
  .rw [a,b];exact F2.filterMap h ns
  .rw [a,b];exact .cons r (F2.filterMap h ns)
end
theorem fw{α β:Type}{R:α->β->Prop}{ns ks kw:List Str}{dd:List (Str×α)}{dd':List (Str×β)}{us ws:List α}{us' ws':List β}(hd:F2 (PR R) dd dd')(hu:F2 R us us')(hw:F2 R ws ws'):F2 R (place ns ks kw dd us ws) (place ns ks kw dd' us' ws') :=
 F2.filterMap (λn=>((hu.zip ns).append ((hw.zip kw).append hd)).lookup n) _
theorem nW{α:Type}{f:Str->Option α}:∀ {ps:List Str},(ps.filterMap f).length=ps.length->(ps.filterMap λn=>(f n).map (n,·))=ps.zip (ps.filterMap f)
 | [],_=>rfl
 | n :: ps,h=>by
  rw [List.filterMap_cons] at h ⊢;rw [List.filterMap_cons];cases e:f n with
  | none =>
   rw [e] at h;have:=List.length_filterMap_le f ps;simp only [List.length_cons] at h;omega
  | some v =>
   rw [e] at h;simp only [Option.map_some,List.zip_cons_cons];rw [nW (by simpa using h)]
theorem jF{us:List U}:∀ {l pre post:List U},us=pre++(l++post)->F2 (λp u=>pick us p=u) ((List.range' pre.length l.length).map Sum.inl) l
 | [],_,_,_ => .nil
 | x :: l,pre,post,e=>by
  rw [List.length_cons,List.range'_succ,List.map_cons];refine .cons ?_ ?_
  .show us[pre.length]?.getD U.non=x
   rw [e,List.cons_append,List.getElem?_append_right (Kw _)];simp
  .have:=jF (l:=l) (pre:=pre++[x]) (post:=post) (us:=us) (by rw [e];simp)
   simpa using this
theorem jD{F:KF}{np:Nat}{kw:List Str}{us ws:List U}(h1:us.length=np)(h2:ws.length=kw.length):perm (us++ws) (dq F np kw)=place F.ns F.ks kw F.dd us ws:=by
 have key:∀ {l:List (Nat ⊕ U)} {m:List U},F2 (λp u=>pick (us++ws) p=u) l m->l.map (pick (us++ws))=m:=λ{l m} h=>by
  induction h with
  | nil=>rfl
  | cons r _ ih=>rw [List.map_cons,r,ih]
 refine key (fw ?_ ?_ ?_)
 .have:∀ l:List (Str×U),F2 (PR λp u=>pick (us++ws) p=u) (l.map λp=>(p.1,Sum.inr p.2)) l:=by
   intro l
   induction l with
   | nil=>exact .nil
   | cons x l ih=>exact .cons ⟨rfl,rfl⟩ ih
  exact this _
 .have:=jF (us:=us++ws) (l:=us) (pre:=[]) (post:=ws) (by simp)
  rw [h1] at this;exact this
 .have:=jF (us:=us++ws) (l:=ws) (pre:=us) (post:=[]) (by simp)
  rw [h1,h2] at this;exact this
theorem F2.vals{vs:List V}{us:List Value}(h:Vals vs us):F2 RelV vs us:=by
 induction h with
 | nil=>exact .nil
 | cons r _ ih=>exact .cons r ih
theorem F2.toVals{vs:List V}{us:List Value}(h:F2 RelV vs us):Vals vs us:=by
 induction h with
 | nil=>exact .nil
 | cons r _ ih=>exact .cons r ih
theorem F2.rvs{K:Frag}{ρ:List Addr}{H:Hp}:∀ {us:List U} {vs:List V},RVs K ρ H us vs->F2 (RV K ρ H) us vs
 | [],_,h=>by cases h;exact .nil
 | u :: us,_,h=>by obtain ⟨v,r,rfl,h1,h2⟩:=h;exact .cons h1 (F2.rvs h2)
theorem F2.toRvs{K:Frag}{ρ:List Addr}{H:Hp}{us:List U}{vs:List V}(h:F2 (RV K ρ H) us vs):RVs K ρ H us vs:=by
 induction h with
 | nil=>rfl
 | cons r _ ih=>exact ⟨_,_,rfl,r,ih⟩
structure KFok(K:Frag)(fd:FuncData)(F:KF)(nd:Nat)(ddV:List (Str×V))(dd:List (Str×Value)):Prop where
 h1:fd.params.posonlyargs=[]
 h2:fd.params.args.map (·.arg)=F.ns
 h3:fd.params.vararg=none
 h4:fd.params.kwonlyargs.map (·.arg)=F.ks
 h5:fd.params.kwarg=none
 ds:∃ (dsv:List Value) (kd:Str->Value),(∀ (M:Model) (h:Heap),K.In h -> ∃ od:Option (Array Value),(od.getD #[]).toList=dsv/\Looks M h (seqItems? fd.defaults) od)/\dsv.length=nd/\nd<=F.ns.length /\
  (∀ n∈F.ks,∃ d,fd.kwdefaults=.ref d/\nsIn K d n=some (some (kd n)))/\dd=(F.ns.drop (F.ns.length - nd)).zip dsv++F.ks.map λn=>(n,kd n)
 rel:F2 (PR RelV) ddV dd
 urel:F2 (PR λu v => ∀ ρ H,RV K ρ H u v) F.dd ddV
theorem KFok.binds{K:Frag}{fd:FuncData}{F:KF}{nd np:Nat}{ddV:List (Str×V)}{dd:List (Str×Value)}{kw:List Str}(O:KFok K fd F nd ddV dd)(hs:cT F nd np kw=true)(hne:F.ns++F.ks≠[]):
  KBinds K fd (F.ns++F.ks) kw (λus ws=>if us.length=np/\ws.length=kw.length then place F.ns F.ks kw dd us ws else []) (λvs zs=>if vs.length=np/\zs.length=kw.length then place F.ns F.ks kw ddV vs zs else []):=by
 refine ⟨λs us ws X hl => ?_,λ{vs us zs ws} r1 r2 => ?_⟩
 .split at hl
  .rename_i hc
   obtain ⟨c1,c2⟩:=hc;rw [if_pos ⟨c1,c2⟩];simp only [cT,Bool.and_eq_true,decide_eq_true_eq,List.all_eq_true] at hs;obtain ⟨⟨⟨s1,s2⟩,s3⟩,s4⟩:=hs;obtain ⟨dsv,kd,L,l1,l2,l3,l4⟩:=O.ds;have kz:(kw.zip ws).map (·.1)=kw:=by rw [fI,c2,List.take_length]
   intro M A E Q q;obtain ⟨od,o1,Ld⟩:=L M s.heap X;have:=z8 (M:=M) (us:=us) (kw:=kw.zip ws) (kd:=kd) X O.h1 O.h2 O.h3 O.h4 O.h5 Ld (by rw [o1,l1];exact l2) (by rw [c1];exact s1)
    (λp hp=>by have:=s2 p.1 (by rw [<-kz];exact List.mem_map_of_mem hp);simpa using this) (by rw [c1,kz];exact s3) (λn hn=>by rw [o1,l1] at hn;rw [c1,kz];exact s4 n hn) (λn hn _=>l3 n hn)
   refine this.here ?_;rw [o1,l1,<-l4];rw [nW (by exact hl)]
   exact q
  .exact absurd (List.length_eq_zero_iff.mp hl.symm) hne
 .have e1:=r1.length
  have e2:=r2.length;rw [e1,e2];split
  .exact (fw O.rel (.vals r1) (.vals r2)).toVals
  .exact .nil
open PySem PySem.Spec PyProof.Rows L2
section
variable{K:KD}{ρ:List Addr}{H:Hp}
theorem dA{a b:List Int}:(a.map (Sum.inl:Int->Key)=b.map Sum.inl) ↔ a=b :=
 ⟨λh=>(List.map_inj_right (λx y e=>Sum.inl.inj e)).mp h,λh=>by rw [h]⟩
theorem RD.val(k:List Int):∀ {kvs:List (List Int×U)} {ws:List (List Key×V)},RD K ρ H kvs ws->(aZ ws (k.map Sum.inl)).isSome=(aF kvs k).isSome
 | [],_,h=>by cases h;rfl
 | (k',u) :: r,_,h=>by
  obtain ⟨v,s,rfl,h1,h2⟩:=h;by_cases e:k'=k
  .rw [d5 (dA.mpr e)]
   simp [aF,List.find?_cons,e]
  .rw [d8 (λz=>e (dA.mp z)),RD.val k h2]
   simp [aF,List.find?_cons,e]
theorem RD.got(k:List Int){u:U}:∀ {kvs:List (List Int×U)} {ws:List (List Key×V)},RD K ρ H kvs ws->aF kvs k=some u -> ∃ v,aZ ws (k.map Sum.inl)=some v/\RV K ρ H u v
 | [],_,h,e=>by cases e
 | (k',u') :: r,_,h,e=>by
  obtain ⟨v,s,rfl,h1,h2⟩:=h;by_cases z:k'=k
  .rw [d5 (dA.mpr z)]
   simp [aF,List.find?_cons,z] at e;subst e;exact ⟨v,rfl,h1⟩
  .rw [d8 (λy=>z (dA.mp y))]
   exact RD.got k h2 (by simpa [aF,List.find?_cons,z] using e)
theorem RD.at:∀ {kvs:List (List Int×U)} {ws:List (List Key×V)} {i:Nat} {k:List Int} {u:U},RD K ρ H kvs ws->kvs[i]? = some (k,u) -> ∃ v,ws[i]? = some (k.map Sum.inl,v)/\RV K ρ H u v
 | [],_,_,_,_,_,e=>by simp at e
 | (k',u') :: r,_,0,k,u,h,e=>by
  obtain ⟨v,s,rfl,h1,h2⟩:=h;simp at e;obtain ⟨rfl,rfl⟩:=e;exact ⟨v,by simp,h1⟩
 | (k',u') :: r,_,i+1,k,u,h,e=>by
  obtain ⟨v,s,rfl,h1,h2⟩:=h;obtain ⟨x,e1,e2⟩:=RD.at (i:=i) h2 (by simpa using e)
  exact ⟨x,by simpa using e1,e2⟩
theorem RD.any(k:List Int):∀ {kvs:List (List Int×U)} {ws:List (List Key×V)},RD K ρ H kvs ws->(ws.any λkv=>decide (kv.1=k.map Sum.inl))=kvs.any λkv=>decide (kv.1=k)
 | [],_,h=>by cases h;rfl
 | (k',u) :: r,_,h=>by
  obtain ⟨v,s,rfl,h1,h2⟩:=h;rw [List.any_cons,List.any_cons,RD.any k h2];congr 1;exact decide_eq_decide.mpr dA
theorem RD.len:∀ {kvs:List (List Int×U)} {ws:List (List Key×V)},RD K ρ H kvs ws->kvs.length=ws.length
 | [],_,h=>by cases h;rfl
 | (k',u) :: r,_,h=>by
  obtain ⟨v,s,rfl,h1,h2⟩:=h;simp [RD.len h2]
theorem RD.snoc{k:List Int}{u:U}{v:V}(q:RV K ρ H u v):∀ {kvs:List (List Int×U)} {ws:List (List Key×V)},RD K ρ H kvs ws->RD K ρ H (kvs++[(k,u)]) (ws++[(k.map Sum.inl,v)])
 | [],_,h=>by cases h;exact ⟨v,[],rfl,q,rfl⟩
 | (k',u') :: r,_,h=>by
  obtain ⟨w,s,rfl,h1,h2⟩:=h;exact ⟨w,_,rfl,h1,RD.snoc q h2⟩
theorem RD.repl{k:List Int}{u:U}{v:V}(q:RV K ρ H u v):∀ {kvs:List (List Int×U)} {ws:List (List Key×V)},RD K ρ H kvs ws ->
  RD K ρ H (kvs.map λkv=>if kv.1=k then (kv.1,u) else kv) (ws.map λkv=>if kv.1=k.map Sum.inl then (kv.1,v) else kv)
 | [],_,h=>by cases h;rfl
 | (k',u') :: r,_,h=>by
  obtain ⟨w,s,rfl,h1,h2⟩:=h;rw [List.map_cons,List.map_cons];by_cases e:k'=k
  .rw [if_pos e,if_pos (dA.mpr e)];exact ⟨v,_,rfl,q,RD.repl q h2⟩
  .rw [if_neg e,if_neg (λz=>e (dA.mp z))];exact ⟨w,_,rfl,h1,RD.repl q h2⟩
theorem RD.put{k:List Int}{u:U}{v:V}(q:RV K ρ H u v){kvs:List (List Int×U)}{ws:List (List Key×V)}(h:RD K ρ H kvs ws):RD K ρ H (dput kvs k u) (putK ws (k.map Sum.inl) v):=by
 unfold dput putK;rw [h.any k];split
 .exact h.repl q
 .exact h.snoc q
theorem RK.len:∀ {kvs:List (Str×U)} {ws:List (Key×V)},RK K ρ H kvs ws->kvs.length=ws.length
 | [],_,h=>by cases h;rfl
 | (k',u) :: r,_,h=>by
  obtain ⟨v,s,rfl,h1,h2⟩:=h;simp [RK.len h2]
theorem RK.got(k:Str){u:U}:∀ {kvs:List (Str×U)} {ws:List (Key×V)},RK K ρ H kvs ws->aX kvs k=some u -> ∃ v,aZ ws (Sum.inr k)=some v/\RV K ρ H u v
 | [],_,h,e=>by cases e
 | (k',u') :: r,_,h,e=>by
  obtain ⟨v,s,rfl,h1,h2⟩:=h;by_cases z:k'=k
  .rw [d5 (congrArg Sum.inr z)]
   simp [aX,List.find?_cons,z] at e;subst e;exact ⟨v,rfl,h1⟩
  .rw [d8 (λy=>z (Sum.inr.inj y))]
   exact RK.got k h2 (by simpa [aX,List.find?_cons,z] using e)
theorem RK.any(k:Str):∀ {kvs:List (Str×U)} {ws:List (Key×V)},RK K ρ H kvs ws->(ws.any λkv=>decide (kv.1=Sum.inr k))=kvs.any λkv=>decide (kv.1=k)
 | [],_,h=>by cases h;rfl
 | (k',u) :: r,_,h=>by
  obtain ⟨v,s,rfl,h1,h2⟩:=h;rw [List.any_cons,List.any_cons,RK.any k h2];congr 1;exact decide_eq_decide.mpr ⟨Sum.inr.inj,congrArg Sum.inr⟩
theorem RK.snoc{k:Str}{u:U}{v:V}(q:RV K ρ H u v):∀ {kvs:List (Str×U)} {ws:List (Key×V)},RK K ρ H kvs ws->RK K ρ H (kvs++[(k,u)]) (ws++[(Sum.inr k,v)])
 | [],_,h=>by cases h;exact ⟨v,[],rfl,q,rfl⟩
 | (k',u') :: r,_,h=>by
  obtain ⟨w,s,rfl,h1,h2⟩:=h;exact ⟨w,_,rfl,h1,RK.snoc q h2⟩
theorem RK.repl{k:Str}{u:U}{v:V}(q:RV K ρ H u v):∀ {kvs:List (Str×U)} {ws:List (Key×V)},RK K ρ H kvs ws ->
  RK K ρ H (kvs.map λkv=>if kv.1=k then (kv.1,u) else kv) (ws.map λkv=>if kv.1=Sum.inr k then (kv.1,v) else kv)
 | [],_,h=>by cases h;rfl
 | (k',u') :: r,_,h=>by
  obtain ⟨w,s,rfl,h1,h2⟩:=h;rw [List.map_cons,List.map_cons];by_cases e:k'=k
  .rw [if_pos e,if_pos (congrArg Sum.inr e)];exact ⟨v,_,rfl,q,RK.repl q h2⟩
  .rw [if_neg e,if_neg (λz=>e (Sum.inr.inj z))];exact ⟨w,_,rfl,h1,RK.repl q h2⟩
theorem RK.put{k:Str}{u:U}{v:V}(q:RV K ρ H u v){kvs:List (Str×U)}{ws:List (Key×V)}(h:RK K ρ H kvs ws):RK K ρ H (lq kvs k u) (putK ws (Sum.inr k) v):=by
 unfold lq putK;rw [h.any k];split
 .exact h.repl q
 .exact h.snoc q
theorem FG{g:G}{y:U}{vy:V}{kvs:List (Str×U)}(hg:RH K ρ H g)(ry:RV K ρ H y vy)(e:asS y g=some kvs):∃ n a ws,y=.ref n/\g[n]? = some (.dst kvs)/\ρ[n]? = some a/\vy=.ref a/\H a=some (.dK ws)/\RK K ρ H kvs ws:=by
 cases y with
 | ref n =>
  simp only [asS] at e;cases eg:g[n]? with
  | none=>rw [eg] at e;cases e
  | some ob =>
   cases ob with
   | dst kvs' =>
    rw [eg] at e;cases e;obtain ⟨a,ws,hn,ha,rk⟩:=hg.dst eg;obtain ⟨a',rfl,hn'⟩:=ry;rw [hn] at hn';cases hn';exact ⟨n,_,ws,rfl,eg,hn,rfl,ha,rk⟩
   | _=>rw [eg] at e;cases e
 | _=>cases e
theorem ou:∀ {us:List U} {ns:List Int} {vs:List V},intsOf us=some ns->RVs K ρ H us vs->vs=ns.map V.int
 | [],_,_,e,h=>by cases e;cases h;rfl
 | u :: us,ns,vs,e,h=>by
  obtain ⟨v,r,rfl,h1,h2⟩:=h;cases u with
  | int i =>
   simp only [intsOf] at e;obtain ⟨m,e1,rfl⟩:=Option.map_eq_some_iff.mp e;cases h1;rw [ou e1 h2];rfl
  | _=>cases e
theorem iL{x:U}{v:V}{k:List Int}(e:keyOf x=some k)(r:RV K ρ H x v):∃ b,v=.ref b/\H b=some (.tup ((k.map Sum.inl).map kV)):=by
 cases x with
 | tup us =>
  obtain ⟨a,vs,rfl,h1,h2⟩:=r;refine ⟨a,rfl,?_⟩;rw [show H a=some (.tup vs) from h1,ou e h2,List.map_map]
  rfl
 | _=>cases e
theorem gX{g:G}{x y:U}{vx vy:V}{o:Option U}(hg:RH K ρ H g)(rx:RV K ρ H x vx)(ry:RV K ρ H y vy)(e:aB x y g=some o):∃ a ov,vy=.ref a/\DGet H a vx ov/\ov.isSome=o.isSome /\ ∀ u,o=some u -> ∃ v,ov=some v/\RV K ρ H u v:=by
 unfold aB at e;cases ed:asD y g with
 | none=>rw [ed] at e;cases e
 | some kvs =>
  rw [ed] at e;obtain ⟨k,ek,rfl⟩:=Option.map_eq_some_iff.mp e;cases y with
  | ref n =>
   simp only [asD] at ed;cases eg:g[n]? with
   | none=>rw [eg] at ed;cases ed
   | some ob =>
    cases ob with
    | dic kvs' =>
     rw [eg] at ed;cases ed;obtain ⟨a,ws,hn,ha,rd⟩:=hg.dic eg;obtain ⟨a',rfl,hn'⟩:=ry;rw [hn] at hn';cases hn';obtain ⟨b,rfl,hb⟩:=iL ek rx;exact ⟨a,_,rfl,DGet.t ha hb,rd.val k,λu z=>rd.got k z⟩
    | dif kvs' =>
     rw [eg] at ed;cases ed;obtain ⟨a,ob,ws,hn,ha,rd⟩:=hg.dif eg;obtain ⟨a',rfl,hn'⟩:=ry;rw [hn] at hn';cases hn';obtain ⟨b,rfl,hb⟩:=iL ek rx;exact ⟨a,_,rfl,.inr ⟨ws,_,b,.inr ⟨ob,ha⟩,rfl,hb,rfl⟩,rd.val k,λu z=>rd.got k z⟩
    | _=>rw [eg] at ed;cases ed
  | _=>cases ed
end
section
variable{X:Cx}
theorem Gs(hu:X.A.units+1 < cLine):OpR X (compareOp .In) (λy x H Q => ∃ a o,x=.ref a/\DGet H a y o/\Q (.bl o.isSome) H):=by
 intro pins s σ H y x v u Q I ry rx ⟨a,o,e,g,q⟩;subst e;obtain rfl:u=Value.ref a:=rx;exact JQ hu I g ry λs3 I3=>⟨.bl o.isSome,H,I3,rfl,q⟩
theorem Dh(hu:X.A.units+1 < cLine):OpR X (compareOp .NotIn) (λy x H Q => ∃ a o,x=.ref a/\DGet H a y o/\Q (.bl (!o.isSome)) H):=by
 intro pins s σ H y x v u Q I ry rx ⟨a,o,e,g,q⟩;subst e;obtain rfl:u=Value.ref a:=rx;exact DP hu I g ry λs3 I3=>⟨.bl (!o.isSome),H,I3,rfl,q⟩
theorem tq{f:Value->Value->Sem Value}{r r':R2}(h:OpR X f r)(h':OpR X f r'):OpR X f (λx y H Q=>r x y H Q\/r' x y H Q):=λpins s σ H x y v u Q I rx ry q =>
 q.elim (λq=>h pins s σ H x y v u Q I rx ry q) λq=>h' pins s σ H x y v u Q I rx ry q
theorem IM{pins:List (Addr×Obj)}{σ:L2.St}{H:Hp}{s:Shared}{a b:Addr}{kvs:List (List Key×V)}{k:List Key}{v:V}{r:Value}{E:Value->Shared->Prop}{Q:Unit->Shared->Prop}(hu:X.A.units+1 < cLine)(I:L2.Inv X pins σ H s)(e:H a=some (.dT kvs))(eb:H b=some (.tup (k.map kV)))(l:kvs.length < sizeLine)(rv:RelV v r)
  (h:∀ s',L2.Inv X pins σ (upd H a (.dT (putK kvs k v))) s'->Q () s'):wpAny (model X.prog X.w) X.A (dictSet a (.ref b) r) Q E s:=by
 obtain ⟨z,hd,xs,rel,dd⟩:=wX I.hok e;refine wpAny_dictSet_heap (hsz:=by rw [<-Paired.length rel];exact z) (by exact Nat.lt_of_succ_lt hu) (dC I.hok eb) dd λh' dd' hs=>h _ ?_
 obtain ⟨q,es,ep,hq,h2,h3,h4,_,h5⟩:=dd';refine ik I (by rw [e];exact True.intro) hs ⟨q,hq⟩ ⟨by have:=gK kvs k v;omega,hd,_,(rel.put k eb rv).keeps λc ys ec => ?_,q,es,ep,hq,h2,h3,h4,h5⟩
 rw [ar (eV ec e (λz=>nomatch z))];exact ec
noncomputable def Ik:gy:=λo i v H Q => ∃ a H',o=.ref a/\DPut H a i v H'/\Q H'
theorem set_dict(hu:X.A.units+1 < cLine):fc X Ik:=by
 intro pins s σ H o i v ov iv u Q I ro ri rv ⟨a,H',e,g,q⟩;subst e;obtain rfl:ov=Value.ref a:=ro;exact Ae hu I g ri rv λs4 I4=>⟨H',I4,q⟩
theorem Cj{r r':gy}(h:fc X r)(h':fc X r'):fc X (λo i v H Q=>r o i v H Q\/r' o i v H Q):=λpins s σ H o i v ov iv u Q I ro ri rv q =>
 q.elim (λq=>h pins s σ H o i v ov iv u Q I ro ri rv q) λq=>h' pins s σ H o i v ov iv u Q I ro ri rv q
end
section
variable{prog:Program}{w:World}{A:Around}{E:Value->Shared->Prop}{s:Shared}{l:Addr}{vs:List Value}{ns:List Int}{Q:Value->Shared->Prop}
end
section
variable{X:Cx}
end
section
variable{X:Cx}{W:XQ}{C:Nat->List U->G->Out U}{r:L}{pos:Pos}{a b c:Expr}{a' b' c':E}
theorem one{α β:Type}{R:List Addr->Hp->α->β->Prop}{f:Su->G->Out U}{k:Su->U->G->Out α}{σ:L2.St}{H:Hp}{Q:β->Hp->Prop}{Q2:V->Hp->Prop}
  (hp:∃ σu ρ g,RS X.K ρ H σu σ/\RH X.K ρ H g/\post X.K W R ((f σu g).bind λx g=>k σu x g) ρ H Q)
  (imp:∀ σu ρ H g u x,RS X.K ρ H σu σ->RH X.K ρ H g->RV X.K ρ H u x->post X.K W R (k σu u g) ρ H Q->Q2 x H):tE X.K W f σ H Q2:=by
 obtain ⟨σu,ρ,g,hs,hg,p⟩:=hp;exact ⟨σu,ρ,g,hs,hg,(post.bind p).mono λx H1 ⟨ρ1,u,g1,s1,h1,r1,p1⟩=>imp σu ρ1 H1 g1 u x (hs.step s1) h1 r1 p1⟩
theorem two{α β:Type}{R:List Addr->Hp->α->β->Prop}{f h:Su->G->Out U}{k:Su->U->U->G->Out α}{σ:L2.St}{H:Hp}{Q:β->Hp->Prop}{Q2:V->V->Hp->Prop}
  (hp:∃ σu ρ g,RS X.K ρ H σu σ/\RH X.K ρ H g/\post X.K W R ((f σu g).bind λx g=>(h σu g).bind λy g=>k σu x y g) ρ H Q)
  (imp:∀ σu ρ H g u w x y,RS X.K ρ H σu σ->RH X.K ρ H g->RV X.K ρ H u x->RV X.K ρ H w y->post X.K W R (k σu u w g) ρ H Q->Q2 x y H) :
  tE X.K W f σ H λx H1=>tE X.K W h σ H1 λy H2=>Q2 x y H2:=by
 obtain ⟨σu,ρ,g,hs,hg,p⟩:=hp;refine ⟨σu,ρ,g,hs,hg,(post.bind p).mono λx H1 ⟨ρ1,u,g1,s1,h1,r1,p1⟩ => ?_⟩;refine ⟨σu,ρ1,g1,hs.step s1,h1,(post.bind p1).mono λy H2 ⟨ρ2,w,g2,s2,h2,r2,p2⟩ => ?_⟩;exact imp σu ρ2 H2 g2 u w x y ((hs.step s1).step s2) h2 (RV.step s2 _ _ r1) r2 p2
theorem D6{i:Nat}{x:Str}(hN:X.N[i]? = some x)(hv:Vis X.env.scope x)(hd:(x == ("__debug__" : Str))=false)(hcd:(x == ("__classdict__" : Str))=false):PE X (.Name x pos) (tE X.K W (evF C r (.var i))):=by
 refine (GX hN hv hd hcd).imp λσ H Q ⟨σu,ρ,g,hs,hg,p⟩ => ?_;simp only [evF] at p;cases e:σu[i]? with
 | none=>simp [e] at p;exact p.elim
 | some o =>
  cases o with
  | none=>simp [e] at p;exact p.elim
  | some u =>
   simp only [e] at p;obtain ⟨v,e1,e2⟩:=hs.val i u e;exact ⟨v,e1,post.okHere p hg e2⟩
theorem f9{u:U}{v:V}{e:Expr}(h:PE X e (tC v))(hr:∀ ρ H,RV X.K ρ H u v):PE X e (tE X.K W (evF C r (.cst u))) :=
 h.imp λσ H Q ⟨σu,ρ,g,hs,hg,p⟩=>post.okHere (u:=u) p hg (hr ρ H)
theorem eO{o:Operator}{op:Op}{r2:R2}(ho:OpR X (binaryOp o) r2)
  (imp:∀ u w z x y ρ (H:Hp) Q,RV X.K ρ H u x->RV X.K ρ H w y->op2 op u w=some z->(∀ v,RV X.K ρ H z v->Q v H)->r2 x y H Q)
  (imp2:∀ u w x y ρ (H:Hp) g p Q,RH X.K ρ H g->RV X.K ρ H u x->RV X.K ρ H w y->bR u w g=some p->post X.K W (RV X.K) (bQ op u w g) ρ H Q->r2 x y H Q)
  (ha:PE X a (tE X.K W (r.ev a'))) (hb:PE X b (tE X.K W (r.ev b'))):PE X (.BinOp a o b pos) (tE X.K W (evF C r (.bin op a' b'))):=by
 refine (Ig ho ha hb).imp λσ H Q hp=>two hp λσu ρ H g u w x y hs hg r1 r2 p => ?_;cases el:bR u w g with
 | some q=>exact imp2 u w x y ρ H g q Q hg r1 r2 el p
 | none =>
  have p:post X.K W (RV X.K) (bQ op u w g) ρ H Q:=p;unfold bQ at p;rw [el] at p;obtain ⟨z,e,p⟩:=post.lift p;exact imp u w z x y ρ H Q r1 r2 e λv rv=>post.okHere p hg rv
theorem gd{op:Op}(h:op ≠ .add){r2:R2}(u w:U)(x y:V)(ρ:List Addr)(H:Hp)(g:G)(q:List U×List U)(Q:VK)(_:RH X.K ρ H g)(_:RV X.K ρ H u x)(_:RV X.K ρ H w y)(el:bR u w g=some q)(p:post X.K W (RV X.K) (bQ op u w g) ρ H Q):r2 x y H Q:=by
 unfold bQ at p;rw [el] at p;cases op <;> first | exact absurd rfl h | exact p.elim
theorem tu{f:Value->Value->Sem Value}{r r':R2}(h:OpR X f r)(h':OpR X f r'):OpR X f λx y H Q=>r x y H Q\/r' x y H Q:=λpins s σ H x y v u Q I rx ry q=>q.elim (h pins s σ H x y v u Q I rx ry) (h' pins s σ H x y v u Q I rx ry)
theorem E9(u w:U)(x y:V)(ρ:List Addr)(H:Hp)(g:G)(q:List U×List U)(Q:VK)(hg:RH X.K ρ H g)(r1:RV X.K ρ H u x)(r2:RV X.K ρ H w y)(el:bR u w g=some q)(p:post X.K W (RV X.K) (bQ .add u w g) ρ H Q):xP x y H Q:=by
 unfold bQ at p;rw [el] at p;dsimp only at p;split at p
 .rename_i hl
  obtain ⟨n,m,rfl,rfl,g1,g2⟩:=oZ el;obtain ⟨a1,vs,c1,c2,c3⟩:=hg.lst g1;obtain ⟨a2,ws,d1,d2,d3⟩:=hg.lst g2;obtain ⟨a1',rfl,z⟩:=r1;rw [c1] at z;cases z;obtain ⟨a2',rfl,z⟩:=r2;rw [d1] at z;cases z;refine ⟨a1,a2,vs,ws,rfl,rfl,c2,d2,by rw [<-c3.length,<-d3.length,sizeLine_eq];unfold aj at hl;omega,λl hl' => ?_⟩
  exact p (.ref l) _ _ (Stp.alloc hl') (hg.alloc hl' (c3.append d3)) ⟨l,rfl,by rw [<-hg.len];simp⟩
 .exact p.elim
theorem ee{op:Op}{g:Int->Int->Int}{Cc:Int->Int->Prop}(h:∀ u w z,op2 op u w=some z -> ∃ i j,u=.int i/\w=.int j/\z=.int (g i j)/\Cc i j){K:KD}(u w z:U)(x y:V)(ρ:List Addr)(H:Hp)(Q:VK)(r1:RV K ρ H u x)(r2:RV K ρ H w y)
  (e:op2 op u w=some z) (q:∀ v,RV K ρ H z v->Q v H):rI Cc (λi j => .int (g i j)) x y H Q:=by
 obtain ⟨i,j,rfl,rfl,rfl,hc⟩:=h u w z e;cases r1;cases r2;exact ⟨i,j,rfl,rfl,hc,q _ rfl⟩
theorem sr{f:Value->Value->Sem Value}{g:Int->Int->V}(h:OpR X f (rI0 g)):OpR X f (rI (λ_ _=>True) g):=λpins s σ H x y v u Q I rx ry ⟨i,j,e1,e2,_,q⟩=>h pins s σ H x y v u Q I rx ry ⟨i,j,e1,e2,q⟩
theorem log2_small{n:Nat}(h:n < 115792089237316195423570985008687907853269984665640564039457584007913129639936):n.log2 < 9000:=by
 by_cases h0:n=0
 .subst h0;decide
 .exact Ky ((Nat.log2_lt h0).mpr (show n < 2 ^ 256 from h)) (by decide)
theorem CT:OpR X (binaryOp .FloorDiv) (rI (λi j=>j≠0 /\ -aw < j/\j < aw) λi j => .int (i.fdiv j)):=opI λi j _ _ _ _ _ hc q =>
 floordiv_int hc.1 q (.inl (PyProof.noPylong_of_log2 (log2_small (by have:=hc.2;unfold aw at this;omega))))
theorem BM:OpR X (binaryOp .Mult) (rI (λi j=>CMul i j\/((-aw < i/\i < aw) /\ -aw < j/\j < aw)) λi j => .int (i*j)):=opI λi j _ _ _ _ _ hc q=>by
 rcases hc with hc | ⟨⟨h1,h2⟩,h3,h4⟩
 .exact mul_int q hc.ok
 .unfold aw at h1 h2 h3 h4
  exact mul_int q (IntMulOk.of_bits (Ku (intBits_le (k:=256) (show i.natAbs < 115792089237316195423570985008687907853269984665640564039457584007913129639936 by omega)) (by decide)) (Ku (intBits_le (k:=256) (show j.natAbs < 115792089237316195423570985008687907853269984665640564039457584007913129639936 by omega)) (by decide)))
theorem eC{op:Op}{u w z:U}(e:op2 op u w=some z):∃ i j,u=.int i/\w=.int j:=by
 cases u <;> first | (cases op <;> cases e <;> done) | skip
 cases w <;> first | (cases op <;> cases e <;> done) | skip
 exact ⟨_,_,rfl,rfl⟩
theorem A5{op:Op}{o:Operator}(hop:(op=.add/\o = .Add)\/(op=.sub/\o = .Sub)\/(op=.mul/\o = .Mult)\/(op=.fdiv/\o = .FloorDiv)\/(op=.mod/\o = .Mod)\/(op=.pow/\o = .Pow))
  (ha:PE X a (tE X.K W (r.ev a'))) (hb:PE X b (tE X.K W (r.ev b'))):PE X (.BinOp a o b pos) (tE X.K W (evF C r (.bin op a' b'))):=by
 rcases hop with ⟨rfl,rfl⟩ | ⟨rfl,rfl⟩ | ⟨rfl,rfl⟩ | ⟨rfl,rfl⟩ | ⟨rfl,rfl⟩ | ⟨rfl,rfl⟩
 .exact eO (tu (sr iJ) Es) (λu w z x y ρ H Q r1 r2 e q => .inl (ee (λu w z e=>by
   obtain ⟨i,j,rfl,rfl⟩:=eC e;cases e;exact ⟨_,_,rfl,rfl,rfl,trivial⟩) u w z x y ρ H Q r1 r2 e q)) (λu w x y ρ H g q Q hg r1 r2 el p => .inr (E9 u w x y ρ H g q Q hg r1 r2 el p)) ha hb
 .exact eO (sr iK) (ee λu w z e=>by
   obtain ⟨i,j,rfl,rfl⟩:=eC e;cases e
   exact ⟨_,_,rfl,rfl,rfl,trivial⟩) (gd (by simp)) ha hb
 .refine eO BM (ee λu w z e => ?_) (gd (by simp)) ha hb
  obtain ⟨i,j,rfl,rfl⟩:=eC e;simp only [op2,opZ,Option.ite_none_right_eq_some,Option.some.injEq] at e;obtain ⟨h,rfl⟩:=e;refine ⟨_,_,rfl,rfl,rfl,?_⟩;rw [Bool.or_eq_true,Bool.or_eq_true,Bool.and_eq_true,Bool.and_eq_true,Bool.and_eq_true,Bool.and_eq_true,Bool.and_eq_true] at h;unfold CMul;rw [show ((2:Int) ^ 64)=dF from rfl];rcases h with (⟨h1,h2⟩ | ⟨h1,h2⟩) | ⟨⟨⟨h1,h2⟩,h3⟩,h4⟩
  .exact .inl (.inl ⟨KC h1,KC h2⟩)
  .exact .inl (.inr ⟨KC h1,KC h2⟩)
  .exact .inr ⟨⟨KC h1,KC h2⟩,KC h3,KC h4⟩
 .refine eO CT (ee λu w z e => ?_) (gd (by simp)) ha hb
  obtain ⟨i,j,rfl,rfl⟩:=eC e;simp only [op2,opZ] at e;refine ⟨i,j,rfl,rfl,?_⟩;by_cases h0:0 < j
  .rw [if_pos h0] at e
   have ef:i / j=i.fdiv j:=(Int.fdiv_eq_ediv_of_nonneg i (by omega)).symm
   by_cases h1:j < aw
   .rw [if_pos h1] at e
    rw [<-ef];exact ⟨(Option.some.inj e).symm,by omega,by unfold aw;omega,h1⟩
   .rw [if_neg h1] at e;cases e
  .rw [if_neg h0] at e
   by_cases h1:j=0
   .rw [if_pos h1] at e;cases e
   .rw [if_neg h1] at e
    by_cases h2 : -aw < j
    .rw [if_pos h2] at e
     exact ⟨(Option.some.inj e).symm,h1,h2,by unfold aw;omega⟩
    .rw [if_neg h2] at e;cases e
 .refine eO Ca (ee λu w z e => ?_) (gd (by simp)) ha hb
  obtain ⟨i,j,rfl,rfl⟩:=eC e;simp only [op2,opZ] at e;refine ⟨i,j,rfl,rfl,?_⟩;by_cases h0:0 < j
  .rw [if_pos h0] at e
   have ef:i % j=i.fmod j:=(Int.fmod_eq_emod_of_nonneg i (by omega)).symm
   rw [<-ef];exact ⟨(Option.some.inj e).symm,by omega⟩
  .rw [if_neg h0] at e
   by_cases h1:j=0
   .rw [if_pos h1] at e;cases e
   .rw [if_neg h1] at e
    exact ⟨(Option.some.inj e).symm,h1⟩
 .exact eO GD (ee λu w z e=>by
   obtain ⟨i,j,rfl,rfl⟩:=eC e;simp only [op2,opZ,Option.ite_none_right_eq_some,Option.some.injEq] at e;obtain ⟨h,rfl⟩:=e;refine ⟨_,_,rfl,rfl,rfl,?_⟩;unfold ym
   omega) (gd (by simp)) ha hb
theorem Er(ha:PE X a (tE X.K W (r.ev a'))):PE X (.UnaryOp .USub a pos) (tE X.K W (evF C r (.neg a'))):=by
 refine (xw rR ha).imp λσ H Q hp=>one hp λσu ρ H g u x hs hg r1 p => ?_;cases u <;> simp only [] at p <;> first | exact p.elim | skip
 cases r1;exact ⟨_,rfl,post.okHere p hg rfl⟩
noncomputable def cI(X:Cx)(op:Cp)(o:CmpOp):Prop := ∃ r2,OpR X (compareOp o) r2 /\ ∀ ρ (H:Hp) g u w x y b Q,RH X.K ρ H g->RV X.K ρ H u x->RV X.K ρ H w y->cmp2 op u w g=some b->Q (V.bl b) H->r2 x y H Q
theorem gW{op:Cp}{o:CmpOp}{f:Int->Int->Bool}(ho:OpR X (compareOp o) (rI0 λi j => .bl (f i j)))(h:∀ u w g b,cmp2 op u w g=some b -> ∃ i j,u=.int i/\w=.int j/\b=f i j):cI X op o :=
 ⟨_,ho,λρ H g u w x y b Q hg r1 r2 e q=>by
  obtain ⟨i,j,rfl,rfl,rfl⟩:=h u w g b e;cases r1;cases r2;exact ⟨i,j,rfl,rfl,q⟩⟩
theorem jJ{K:KD}{ρ:List Addr}{H:Hp}{u:U}{x:V}(h:RV K ρ H u x):aU u=decide (x=.non):=by
 cases u with
 | tup us=>obtain ⟨a,vs,rfl,_⟩:=h;rfl
 | fro us=>obtain ⟨a,vs,rfl,_⟩:=h;rfl
 | ref us=>obtain ⟨a,rfl,_⟩:=h;rfl
 | xn _ us=>obtain ⟨a,vs,rfl,_⟩:=h;rfl
 | _=>cases h;rfl
theorem iQ{f:Int->Int->Bool}{u w:U}{b:Bool}(e:(match u,w with | .int i,.int j=>some (f i j) | _,_=>none)=some b):∃ i j,u=.int i/\w=.int j/\b=f i j:=by
 cases u <;> first | (cases e;done) | skip
 cases w <;> first | (cases e;done) | skip
 exact ⟨_,_,rfl,rfl,(Option.some.inj e).symm⟩
theorem z5{u w:U}(h:eU u w=true):(u=.non/\w=.non)\/(∃ a b,u=.bl a/\w=.bl b)\/(∃ a b,u=.int a/\w=.int b) \/ ∃ a b,u=.str a/\w=.str b:=by
 cases u <;> cases w <;> first | (cases h;done) | exact .inl ⟨rfl,rfl⟩ | exact .inr (.inl ⟨_,_,rfl,rfl⟩) | exact .inr (.inr (.inl ⟨_,_,rfl,rfl⟩)) | exact .inr (.inr (.inr ⟨_,_,rfl,rfl⟩))
theorem H9(hu:X.A.units+2 < cLine)(op:Cp)(o:CmpOp)(h:(op=.eq/\o = .Eq)\/(op=.ne/\o = .NotEq)\/(op=.lt/\o = .Lt)\/(op=.le/\o = .LtE)\/(op=.gt/\o = .Gt)\/(op=.ge/\o = .GtE)\/(op=.isN/\o = .Is)\/(op=.notN/\o = .IsNot)\/(op=.inn/\o = .In)\/(op=.nin/\o = .NotIn)):cI X op o:=by
 rcases h with ⟨rfl,rfl⟩ | ⟨rfl,rfl⟩ | ⟨rfl,rfl⟩ | ⟨rfl,rfl⟩ | ⟨rfl,rfl⟩ | ⟨rfl,rfl⟩ | ⟨rfl,rfl⟩ | ⟨rfl,rfl⟩ | ⟨rfl,rfl⟩ | ⟨rfl,rfl⟩
 .refine ⟨_,tu (GL (by omega)) (Ei hu),λρ H g u w x y b Q hg r1 r2 e q => ?_⟩
  simp only [cmp2] at e;cases el:bR u w g with
  | none=>rw [el] at e;exact .inl ⟨ρ,u,w,b,r1,r2,e,q⟩
  | some p=>rw [el] at e;exact .inr ⟨ρ,g,u,w,p,b,hg,r1,r2,el,e,q⟩
 .refine ⟨_,HH,λρ H g u w x y b Q hg r1 r2 e q => ?_⟩
  have hs:eU u w=true:=by
   cases hs:eU u w with
   | true=>rfl
   | false=>simp only [cmp2,hs,Bool.false_eq_true,if_false,reduceCtorEq] at e
  rcases z5 hs with ⟨rfl,rfl⟩ | ⟨a,c,rfl,rfl⟩ | ⟨a,c,rfl,rfl⟩ | ⟨a,c,rfl,rfl⟩ <;> simp only [cmp2,eU,if_true,aH,Option.map_some,Option.some.injEq] at e <;> subst e <;> cases r1 <;> cases r2 <;> refine ⟨rfl,?_⟩ <;>
   first | exact q | (rw [qJ];exact q) | (rw [tw];exact q) | (rw [qY];exact q) | simpa using q
 .exact gW HD λu w g b e=>iQ e
 .exact gW HU λu w g b e=>iQ e
 .exact gW HN λu w g b e=>iQ e
 .exact gW Hw λu w g b e=>iQ e
 .refine ⟨_,Fy,λρ H g u w x y b Q hg r1 r2 e q => ?_⟩
  cases w <;> simp only [cmp2,aU,if_true,Bool.false_eq_true,if_false,Option.some.injEq,reduceCtorEq] at e
  cases r2;subst e;refine ⟨rfl,?_⟩;rw [<-jJ r1];cases u <;> exact q
 .refine ⟨_,Du,λρ H g u w x y b Q hg r1 r2 e q => ?_⟩
  cases w <;> simp only [cmp2,aU,if_true,Bool.false_eq_true,if_false,Option.some.injEq,reduceCtorEq] at e
  cases r2;subst e;refine ⟨rfl,?_⟩;rw [<-jJ r1];cases u <;> exact q
 .refine ⟨_,tq (E2 (by omega)) (Gs (by omega)),λρ H g u w x y b Q hg r1 r2 e q => ?_⟩
  simp only [cmp2] at e;cases ei:items w g with
  | none =>
   simp only [ei] at e;obtain ⟨o,eo,rfl⟩:=Option.map_eq_some_iff.mp e;obtain ⟨a,ov,ey,dg,es,_⟩:=gX hg r1 r2 eo;exact .inr ⟨a,ov,ey,dg,by rw [es];exact q⟩
  | some us=>simp only [ei] at e;exact .inl ⟨ρ,g,u,w,us,b,hg,r1,r2,ei,e,q⟩
 .refine ⟨_,tq (CJ (by omega)) (Dh (by omega)),λρ H g u w x y b Q hg r1 r2 e q => ?_⟩
  simp only [cmp2] at e;cases ei:items w g with
  | none =>
   simp only [ei] at e;obtain ⟨o,eo,rfl⟩:=Option.map_eq_some_iff.mp e;obtain ⟨a,ov,ey,dg,es,_⟩:=gX hg r1 r2 eo;exact .inr ⟨a,ov,ey,dg,by rw [es];exact q⟩
  | some us =>
   simp only [ei] at e;cases eu:uin u us with
   | none=>simp [eu] at e
   | some d=>simp only [eu,Option.map_some,Option.some.injEq] at e;subst e;exact .inl ⟨ρ,g,u,w,us,d,hg,r1,r2,ei,eu,q⟩
theorem D7{op:Cp}{o:CmpOp}(ho:cI X op o)(hm:behindInMarks o b=false)(ha:PE X a (tE X.K W (r.ev a')))(hb:PE X b (tE X.K W (r.ev b'))):PE X (.Compare a [o] [b] pos) (tE X.K W (evF C r (.cmp op a' b'))):=by
 obtain ⟨r2,ho,imp⟩:=ho;refine (Cn ho ha hb hm).imp λσ H Q hp=>two hp λσu ρ H g u w x y hs hg r1 r2 p => ?_;cases e:cmp2 op u w g with
 | none=>simp only [e] at p;exact p.elim
 | some k=>simp only [e] at p;exact imp ρ H g u w x y k Q hg r1 r2 e (post.okHere p hg rfl)
theorem EY{op:Cp}{o:CmpOp}(ho:cI X op o)(hm:behindInMarks o b=false)(ha:PE X a (tE X.K W (r.ev a')))(hb:PE X b (tE X.K W (r.ev b'))):PT X (.Compare a [o] [b] pos) (tT X.K W (λσ g=>(evF C r (.cmp op a' b') σ g).bind λx g=>lift (tru x g) g)):=by
 obtain ⟨r2,ho,imp⟩:=ho;refine (CF ho ha hb hm).imp λσ H Q hp => ?_;have hp':∃ σu ρ g,RS X.K ρ H σu σ/\RH X.K ρ H g/\post X.K W REq ((r.ev a' σu g).bind λx g=>(r.ev b' σu g).bind λy g=>match cmp2 op x y g with | some c=>Out.ok c g | none => .bad) ρ H Q:=by
  obtain ⟨σu,ρ,g,hs,hg,p⟩:=hp;refine ⟨σu,ρ,g,hs,hg,?_⟩;have e:((evF C r (.cmp op a' b') σu g).bind λx g=>lift (tru x g) g)=((r.ev a' σu g).bind λx g=>(r.ev b' σu g).bind λy g=>match cmp2 op x y g with | some c=>Out.ok c g | none => .bad):=by
   simp only [evF];cases r.ev a' σu g with
   | ok x g1 =>
    simp only [Out.bind];cases r.ev b' σu g1 with
    | ok y g2=>simp only [Out.bind];cases cmp2 op x y g2 <;> rfl
    | exc _ _ _=>rfl
    | bad=>rfl
   | exc _ _ _=>rfl
   | bad=>rfl
  have p2:=p
  change post X.K W REq ((evF C r (.cmp op a' b') σu g).bind λx g=>lift (tru x g) g) ρ H Q at p2
  rw [e] at p2;exact p2
 refine two hp' λσu ρ H g u w x y hs hg r1 r2 p => ?_;cases e:cmp2 op u w g with
 | none=>simp only [e] at p;exact p.elim
 | some k=>simp only [e] at p;exact imp ρ H g u w x y k _ hg r1 r2 e ⟨k,rfl,post.okHere p hg rfl⟩
end
section
variable{X:Cx}{W:XQ}{C:Nat->List U->G->Out U}{r:L}{pos:Pos}{a b c:Expr}{a' b' c':E}{rest:List Expr}
theorem okE{u:U}{v:V}{g:G}{ρ:List Addr}{H:Hp}{Q:VK}(p:post X.K W (RV X.K) (.ok u g) ρ H Q)(hg:RH X.K ρ H g)(r:RV X.K ρ H u v):Q v H:=post.okHere p hg r
theorem og{op op':Cp}{r2 r3:R2}
  (imp:∀ ρ (H:Hp) g u w x y b Q,RH X.K ρ H g->RV X.K ρ H u x->RV X.K ρ H w y->cmp2 op u w g=some b->Q (V.bl b) H->r2 x y H Q)
  (imp':∀ ρ (H:Hp) g u w x y b Q,RH X.K ρ H g->RV X.K ρ H u x->RV X.K ρ H w y->cmp2 op' u w g=some b->Q (V.bl b) H->r3 x y H Q) (σ:L2.St) (H:Hp) (Q:VK) (hp:tE X.K W (evF C r (.chain op op' a' b' c')) σ H Q) :
  kD r2 r3 (tE X.K W (r.ev a')) (tE X.K W (r.ev b')) (tE X.K W (r.ev c')) σ H Q:=by
 refine two hp λσu ρ H g u w x y hs hg r1 r2 p => ?_;cases e:cmp2 op u w g with
 | none=>simp only [e] at p;exact p.elim
 | some k =>
  refine imp ρ H g u w x y k _ hg r1 r2 e ⟨k,rfl,?_⟩;cases k with
  | false=>simp only [e] at p;exact dm (okE p hg rfl)
  | true =>
   simp only [e] at p;refine dt ?_;refine ⟨σu,ρ,g,hs,hg,(post.bind p).mono λv H2 ⟨ρ2,z,g2,s2,h2,rz,p2⟩ => ?_⟩;cases e2:cmp2 op' w z g2 with
   | none=>simp only [e2] at p2;exact p2.elim
   | some k2=>simp only [e2] at p2;exact imp' ρ2 H2 g2 w z y v k2 Q h2 (RV.step s2 _ _ r2) rz e2 (okE p2 h2 rfl)
theorem A9{op op':Cp}{o o':CmpOp}(ho:cI X op o)(ho':cI X op' o')(hm:lastMarks [o,o'] [b,c]=false)(ha:PE X a (tE X.K W (r.ev a')))(hb:PE X b (tE X.K W (r.ev b')))(hc:PE X c (tE X.K W (r.ev c'))):
  PE X (.Compare a [o,o'] [b,c] pos) (tE X.K W (evF C r (.chain op op' a' b' c'))):=by
 obtain ⟨r2,ho,imp⟩:=ho;obtain ⟨r3,ho',imp'⟩:=ho';exact (Bk ho ho' ha hb hc hm).imp (og imp imp')
theorem AO{f:Su->G->Out U}(hf:∀ σ g u g',f σ g=.ok u g' -> ∃ c,u=.bl c)(σ:L2.St)(H:Hp)(Q:Bool->Hp->Prop)(hp:tT X.K W (λσ g=>(f σ g).bind λx g=>lift (tru x g) g) σ H Q):tE X.K W f σ H (λx H1 => ∃ c,x=.bl c/\Q c H1):=by
 obtain ⟨σu,ρ,g,hs,hg,p⟩:=hp;refine ⟨σu,ρ,g,hs,hg,?_⟩;have hk:=hf σu g
 change post X.K W REq ((f σu g).bind λx g=>lift (tru x g) g) ρ H Q at p
 revert p hk;cases f σu g with
 | ok u g1 =>
  intro hk p;obtain ⟨c,rfl⟩:=hk u g1 rfl;intro v ρ1 H1 s1 h1 r1;cases r1;exact ⟨c,rfl,p c ρ1 H1 s1 h1 rfl⟩
 | exc c fs g1=>exact λ_ p=>p
 | bad=>exact λ_ p=>p
theorem Bx{op op':Cp}(σ:Su)(g:G)(u:U)(g':G)(h:evF C r (.chain op op' a' b' c') σ g=.ok u g'):∃ c,u=.bl c:=by
 simp only [evF] at h;revert h;cases r.ev a' σ g with
 | ok x g1 =>
  simp only [Out.bind];cases r.ev b' σ g1 with
  | ok y g2 =>
   simp only [Out.bind];cases cmp2 op x y g2 with
   | none=>intro h;cases h
   | some k =>
    cases k with
    | false=>intro h;cases h;exact ⟨_,rfl⟩
    | true =>
     simp only [];cases r.ev c' σ g2 with
     | ok z g3 =>
      simp only [Out.bind];cases cmp2 op' y z g3 with
      | none=>intro h;cases h
      | some k=>intro h;cases h;exact ⟨_,rfl⟩
     | exc _ _ _=>intro h;cases h
     | bad=>intro h;cases h
  | exc _ _ _=>intro h;cases h
  | bad=>intro h;cases h
 | exc _ _ _=>intro h;cases h
 | bad=>intro h;cases h
theorem Bl{op op':Cp}{o o':CmpOp}(ho:cI X op o)(ho':cI X op' o')(hm:lastMarks [o,o'] [b,c]=false)(ha:PE X a (tE X.K W (r.ev a')))(hb:PE X b (tE X.K W (r.ev b')))(hc:PE X c (tE X.K W (r.ev c'))):
  PT X (.Compare a [o,o'] [b,c] pos) (tT X.K W (λσ g=>(evF C r (.chain op op' a' b' c') σ g).bind λx g=>lift (tru x g) g)):=by
 obtain ⟨r2,ho,imp⟩:=ho;obtain ⟨r3,ho',imp'⟩:=ho';exact (AU ho ho' ha hb hc hm).imp λσ H Q hp=>og imp imp' σ H _ (AO Bx σ H Q hp)
theorem Ef(ha:PE X a (tE X.K W (r.ev a')))(hb:PE X (.BoolOp .And (b :: rest) pos) (tE X.K W (r.ev b'))):PE X (.BoolOp .And (a :: b :: rest) pos) (tE X.K W (evF C r (.and a' b'))):=by
 refine (Ea ha hb).imp λσ H Q hp=>one hp λσu ρ H g u x hs hg r1 p => ?_;cases u with
 | bl k =>
  cases r1;refine ⟨k,rfl,?_⟩;cases k with
  | true=>exact dt ⟨σu,ρ,g,hs,hg,p⟩
  | false=>exact dm (okE p hg rfl)
 | _=>exact p.elim
theorem Jw(ha:PE X a (tE X.K W (r.ev a')))(hb:PE X (.BoolOp .Or (b :: rest) pos) (tE X.K W (r.ev b'))):PE X (.BoolOp .Or (a :: b :: rest) pos) (tE X.K W (evF C r (.or a' b'))):=by
 refine (Jd ha hb).imp λσ H Q hp=>one hp λσu ρ H g u x hs hg r1 p => ?_;cases u with
 | bl k =>
  cases r1;refine ⟨k,rfl,?_⟩;cases k with
  | true=>exact dt (okE p hg rfl)
  | false=>exact dm ⟨σu,ρ,g,hs,hg,p⟩
 | _=>exact p.elim
theorem t8{ρ:List Addr}{H:Hp}{g:G}{u:U}{x:V}{k:Bool}(hg:RH X.K ρ H g)(r1:RV X.K ρ H u x)(e:tru u g=some k):jb X.K x H k:=by
 have len0:∀ {us:List U} {vs:List V},RVs X.K ρ H us vs->(!us.isEmpty) = !vs.isEmpty:=λ{us vs} h=>by
  cases us with
  | nil=>cases h;rfl
  | cons u us=>obtain ⟨v,r,rfl,_⟩:=h;rfl
 cases u with
 | non=>cases r1;cases e;rfl
 | bl b=>cases r1;cases e;rfl
 | int i=>cases r1;cases e;rfl
 | str s=>simp [tru] at e
 | tup us=>obtain ⟨a,vs,rfl,h1,h2⟩:=r1;cases e;exact .inr (.inl ⟨vs,h1.sq,len0 h2⟩)
 | fro us=>obtain ⟨a,vs,rfl,h1,h2⟩:=r1;cases e;exact .inl ⟨vs,h1.sq,len0 h2⟩
 | ref n =>
  obtain ⟨a,rfl,hn⟩:=r1;simp only [tru] at e;cases eg:g[n]? with
  | none=>simp [eg] at e
  | some o =>
   cases o with
   | lst xs =>
    simp only [eg,Option.some.injEq] at e;subst e;obtain ⟨a',vs,h1,h2,h3⟩:=hg.lst eg;rw [hn] at h1;cases h1;exact .inl ⟨vs,.of h2,len0 h3⟩
   | dic _=>simp [eg] at e
   | dif _=>simp [eg] at e
   | dst _=>simp [eg] at e
   | ins _ _=>simp [eg] at e
 | xn _ _=>simp [tru] at e
theorem DZ(ha:PE X a (tE X.K W (r.ev a'))):PE X (.UnaryOp .Not a pos) (tE X.K W (evF C r (.not a'))):=by
 intro pins s σ H Q I hp;have hp':tE X.K W (r.ev a') σ H (λx H1 => ∃ k,jb X.K x H1 k/\Q (.bl (!k)) H1):=one hp λσu ρ H g u x hs hg r1 p=>by
  cases e:tru u g with
  | none=>simp only [e] at p;exact p.elim
  | some k=>simp only [e] at p;exact ⟨k,t8 hg r1 e,okE p hg rfl⟩
 refine UnaryOp_ (thn (ha pins s σ H _ I hp') λv s1 ⟨x,H1,I1,r1,k,tr,q1⟩ => ?_);exact not_of (thn (sA pins s1 σ H1 x v (λb H2=>Q (.bl (!b)) H2) I1 r1 ⟨k,tr,q1⟩) λb s2 ⟨H2,I2,q2⟩=>⟨.bl (!b),H2,I2,rfl,q2⟩)
theorem Be(ha:PE X a (tE X.K W (r.ev a')))(he:∀ whole,isTrue a X.env whole=(do let v <- whole;standAt a.pos;holding [v] (truthy v))):PT X a (tT X.K W (λσ g=>(r.ev a' σ g).bind λx g=>lift (tru x g) g)):=by
 refine (Bo ha he).imp λσ H Q hp=>one (k:=λ_ x g=>lift (tru x g) g) hp λσu ρ H g u x hs hg r1 p => ?_;obtain ⟨k,e,p⟩:=post.lift p;exact ⟨k,t8 hg r1 e,post.okHere p hg rfl⟩
theorem Fc(ha:PT X a (tT X.K W (r.ts a')))(hb:PW X (.BoolOp .And (b :: rest) pos) (tT X.K W (r.ts b'))):PW X (.BoolOp .And (a :: b :: rest) pos) (tT X.K W (tsF r (.and a' b'))):=by
 refine (F9 ha hb).imp λσ H Q ⟨σu,ρ,g,hs,hg,p⟩ => ?_;refine ⟨σu,ρ,g,hs,hg,(post.bind (R:=REq) p).mono λk H1 ⟨ρ1,k',g1,s1,h1,e1,p1⟩ => ?_⟩;subst e1;cases k' with
 | true=>exact dt ⟨σu,ρ1,g1,hs.step s1,h1,p1⟩
 | false=>exact dm (post.okHere p1 h1 rfl)
theorem I9(ha:PT X a (tT X.K W (r.ts a')))(hb:PW X (.BoolOp .Or (b :: rest) pos) (tT X.K W (r.ts b'))):PW X (.BoolOp .Or (a :: b :: rest) pos) (tT X.K W (tsF r (.or a' b'))):=by
 refine (HF ha hb).imp λσ H Q ⟨σu,ρ,g,hs,hg,p⟩ => ?_;refine ⟨σu,ρ,g,hs,hg,(post.bind (R:=REq) p).mono λk H1 ⟨ρ1,k',g1,s1,h1,e1,p1⟩ => ?_⟩;subst e1;cases k' with
 | true=>exact dt (post.okHere p1 h1 rfl)
 | false=>exact dm ⟨σu,ρ1,g1,hs.step s1,h1,p1⟩
theorem Ft(ha:PT X a (tT X.K W (r.ts a'))):PT X (.UnaryOp .Not a pos) (tT X.K W (tsF r (.not a'))):=by
 refine (D2 ha).imp λσ H Q ⟨σu,ρ,g,hs,hg,p⟩ => ?_;refine ⟨σu,ρ,g,hs,hg,(post.bind (R:=REq) p).mono λk H1 ⟨ρ1,k',g1,s1,h1,e1,p1⟩ => ?_⟩;subst e1;exact post.okHere p1 h1 rfl
theorem Gj:PA X [] (tAr X.K W (evs r.ev [])):=eF.imp λσ H Q ⟨σu,ρ,g,hs,hg,p⟩=>post.okHere (R:=RVs X.K) (u:=[]) p hg rfl
theorem CU{es:List Expr}{es':List E}(ha:PE X a (tE X.K W (r.ev a')))(hr:PA X es (tAr X.K W (evs r.ev es')))(hs:starEach (a :: es) X.env=(false,eval a X.env) :: starEach es X.env):PA X (a :: es) (tAr X.K W (evs r.ev (a' :: es'))):=by
 refine (cS ha hr hs).imp λσ H Q hp=>one hp λσu ρ H g u x hs hg r1 p => ?_;refine ⟨σu,ρ,g,hs,hg,(post.bind p).mono λxs H1 ⟨ρ1,us,g1,s1,h1,rs,p1⟩ => ?_⟩;exact post.okHere (R:=RVs X.K) p1 h1 ⟨x,xs,rfl,RV.step s1 _ _ r1,rs⟩
theorem szl{us:List U}{vs:List V}{ρ:List Addr}{H:Hp}(rs:RVs X.K ρ H us vs)(h:us.length<=aj):vs.length<=sizeLine:=by
 rw [<-rs.length,sizeLine_eq];unfold aj at h;omega
theorem E4{es:List Expr}{es':List E}{k:Nat}(h:PA X es (tAr X.K W (evs r.ev es'))):PE X (.Tuple es k pos) (tE X.K W (evF C r (.tup es'))):=by
 refine (Fo h).imp λσ H Q ⟨σu,ρ,g,hs,hg,p⟩ => ?_;refine ⟨σu,ρ,g,hs,hg,(post.bind (R:=RVs X.K) p).mono λxs H1 ⟨ρ1,us,g1,s1,h1,rs,p1⟩ => ?_⟩;by_cases hl:us.length<=aj
 .rw [if_pos hl] at p1
  refine ⟨szl rs hl,λq hq => ?_⟩;exact p1 _ ρ1 _ (Stp.fresh hq) (h1.step_fresh hq) ⟨q,xs,rfl,upd_same,RVs.step (Stp.fresh hq) _ _ rs⟩
 .rw [if_neg hl] at p1;exact p1.elim
theorem d7{us:List U}{xs:List V}{g:G}{ρ:List Addr}{H:Hp}{Q:VK}(p:post X.K W (RV X.K) (alloc (.lst us) g) ρ H Q)(hg:RH X.K ρ H g)(rs:RVs X.K ρ H us xs)(q:Addr)(hq:H q=none):Q (.ref q) (upd H q (.lst xs)):=by
 refine p (.ref q) (ρ++[q]) _ (Stp.alloc hq) (hg.alloc hq rs) ⟨q,rfl,?_⟩;rw [<-hg.len];simp
theorem EL{es:List Expr}{es':List E}(h:PA X es (tAr X.K W (evs r.ev es'))):PE X (.List es pos) (tE X.K W (evF C r (.lst es'))):=by
 refine (FL h).imp λσ H Q ⟨σu,ρ,g,hs,hg,p⟩ => ?_;refine ⟨σu,ρ,g,hs,hg,(post.bind (R:=RVs X.K) p).mono λxs H1 ⟨ρ1,us,g1,s1,h1,rs,p1⟩ => ?_⟩;by_cases hl:us.length<=aj
 .rw [if_pos hl] at p1
  exact ⟨szl rs hl,λq hq=>d7 p1 h1 rs q hq⟩
 .rw [if_neg hl] at p1;exact p1.elim
theorem CN{us:List U}{vs:List V}{ρ:List Addr}{H:Hp}{i:Int}{u:U}(rs:RVs X.K ρ H us vs)(e:uix us i=some u):∃ v,atI vs i=some v/\RV X.K ρ H u v:=by
 unfold uix atI at e;unfold atI;rw [<-rs.length];cases ej:ixN us.length i with
 | none=>simp [ej] at e
 | some j =>
  rw [ej] at e;obtain ⟨v,h1,h2⟩:=rs.get (show us[j]? = some u from e);exact ⟨v,h1,h2⟩
theorem Ec(hu:X.A.units+1 < cLine)(ha:PE X a (tE X.K W (r.ev a')))(hb:PE X b (tE X.K W (r.ev b')))(hs:jW b):PE X (.Subscript a b pos) (tE X.K W (evF C r (.idx a' b'))):=by
 refine (Hx ((Ce.or Eh).or (Cb hu)) ha hb hs).imp λσ H Q hp=>two hp λσu ρ H g u w x y hs hg r1 r2 p => ?_;cases w with
 | int i =>
  cases r2;cases e:items u g with
  | none=>simp only [e] at p;exact p.elim
  | some us =>
   simp only [e] at p;obtain ⟨z,ez,p⟩:=post.lift p;obtain ⟨q,vs,rfl,hq,rs⟩:=fD hg r1 e;obtain ⟨v,ev,rv⟩:=CN rs ez;rcases hq with hq | hq
   .exact .inl (.inl ⟨q,vs,i,v,rfl,rfl,hq,ev,okE p hg rv⟩)
   .exact .inl (.inr ⟨q,vs,i,v,rfl,rfl,hq,ev,okE p hg rv⟩)
 | tup us =>
  obtain ⟨z,ez,p⟩:=post.lift p;obtain ⟨o,eo,eo'⟩:=Option.bind_eq_some_iff.mp ez;obtain ⟨q,ov,rfl,dg,_,got⟩:=gX hg r2 r1 eo;obtain ⟨v,rfl,rv⟩:=got z eo';exact .inr ⟨q,v,rfl,dg,okE p hg rv⟩
 | str k =>
  obtain ⟨z,ez,p2⟩:=post.lift p;clear p;obtain ⟨kvs,eo,eo'⟩:=Option.bind_eq_some_iff.mp ez;obtain ⟨n,q,ws,rfl,_,_,rfl,ha,rk⟩:=FG hg r1 eo;obtain ⟨v,ev,rv⟩:=rk.got k eo';cases r2;exact .inr ⟨q,v,rfl,by rw [<-ev];exact DGet.k (k:=Sum.inr k) ha,okE p2 hg rv⟩
 | _=>exact p.elim
theorem jx{K:KD}{ρ:List Addr}{H:Hp}:∀ ns:List Int,RVs K ρ H (ns.map U.int) (ns.map V.int)
 | []=>rfl
 | n :: ns=>⟨.int n,ns.map V.int,rfl,rfl,jx ns⟩
theorem se_bi{b:Bi}{f:Str}{p':Pos}{e:Expr}{es:List Expr}{es':List E}{rr:List V->Hp->VK->Prop}(h:PE X (.Call (.Name f p') (e :: es) [] pos) (tCB rr (tAr X.K W (evs r.ev es'))))
  (imp:∀ ρ H g us xs Q,RH X.K ρ H g->RVs X.K ρ H us xs->post X.K W (RV X.K) (bi1 b us g) ρ H Q->rr xs H Q):PE X (.Call (.Name f p') (e :: es) [] pos) (tE X.K W (evF C r (.bi b es'))):=by
 refine h.imp λσ H Q ⟨σu,ρ,g,hs,hg,p⟩ => ?_;exact ⟨σu,ρ,g,hs,hg,(post.bind (R:=RVs X.K) p).mono λxs H1 ⟨ρ1,us,g1,s1,h1,rs,p1⟩=>imp ρ1 H1 g1 us xs Q h1 rs p1⟩
theorem imp_len(ρ:List Addr)(H:Hp)(g:G)(us:List U)(xs:List V)(Q:VK)(hg:RH X.K ρ H g)(rs:RVs X.K ρ H us xs)(p:post X.K W (RV X.K) (bi1 .len us g) ρ H Q):
  ∃ p ys,xs=[.ref p]/\(SqL X.K H p ys\/SqT X.K H p ys)/\Q (.int ys.length) H:=by
 match us,rs with
 | [u],rs =>
  obtain ⟨x,r',rfl,r1,e⟩:=rs;cases e;simp only [bi1,iU,gf] at p;cases e:items u g with
  | none=>simp only [e] at p;exact p.elim
  | some zs =>
   simp only [e] at p;obtain ⟨q,vs,rfl,hq,rz⟩:=fD hg r1 e;exact ⟨q,vs,rfl,hq,by rw [<-rz.length];exact okE p hg rfl⟩
 | [],_=>exact p.elim
 | _ :: _ :: _,_=>exact p.elim
theorem imp_abs(ρ:List Addr)(H:Hp)(g:G)(us:List U)(xs:List V)(Q:VK)(hg:RH X.K ρ H g)(rs:RVs X.K ρ H us xs)(p:post X.K W (RV X.K) (bi1 .abs us g) ρ H Q):
  ∃ i,xs=[.int i]/\Q (.int (if i < 0 then -i else i)) H:=by
 match us,rs with
 | [u],rs =>
  obtain ⟨x,r',rfl,r1,e⟩:=rs;cases e;cases u with
  | int i=>cases r1;exact ⟨i,rfl,okE p hg rfl⟩
  | _=>exact p.elim
 | [],_=>exact p.elim
 | _ :: _ :: _,_=>exact p.elim
theorem DM:PE X (.Dict [] [] pos) (tE X.K W (evF C r .dnew)):=by
 refine (BH).imp λσ H Q ⟨σu,ρ,g,hs,hg,p⟩ q hq => ?_;refine p (.ref q) (ρ++[q]) _ (Stp.alloc hq) (hg.allocO hq ⟨[],rfl,rfl⟩) ⟨q,rfl,?_⟩;rw [<-hg.len];simp
end
section
variable{X:Cx}
theorem oa:∀ D:KyB,Vals (D.map λd=>V.ref d.2) (refs D)
 | [] => .nil
 | d :: D => .cons rfl (oa D)
end
section
variable{K:KD}{ρ:List Addr}{H:Hp}
end
section
variable{X:Cx}{W:XQ}{C:Nat->List U->G->Out U}{r:L}{a:Expr}{a':E}{p p2 pos pos2:Pos}
theorem oR{K:KD}{ρ:List Addr}{H:Hp}:∀ {D:KyB},(∀ d∈D,H d.2=some (.tup (d.1.map V.int)))->RVs K ρ H ((D.map (·.1)).map tupI) (D.map λd=>V.ref d.2)
 | [],_=>rfl
 | d :: D,h=>⟨_,_,rfl,⟨d.2,_,rfl,h d List.mem_cons_self,jx _⟩,oR λd hd=>h d (Kx _ hd)⟩
end
open PySem PySem.Spec PyProof.Rows L2 PySem.W
section
variable{prog:Program}{w:World}{A:Around}
theorem Az{o:Obj}{es:Array DictEntry}{ep:Nat}(hh:A.handled=none){d it:Addr}(hne:d≠it)(hd:o.data=.dict es ep):
  Walks prog w A it [it,d] [it] es.size (λi v => ∃ e,es[i]? = some e/\v=e.key) (λi h=>h.IsKeyIter it d i es.size ep/\h.get? d=some o) where
 sub:=λb hb=>by simp at hb;simp [hb]
 frame:=λi h h' ⟨a,b⟩ hk=>⟨a.at λo e=>hk it (by simp) o e,hk d (by simp) o b⟩
 item:=λi s Q E hi ⟨a,b⟩ hQ=>by
  have he:es[i]? = some es[i]:=Array.getElem?_eq_getElem hi;refine pK a b hd he λh' a' sb => ?_;exact hQ _ h' s.toks ⟨_,he,rfl⟩ ⟨a',(sb.2 d hne).trans b⟩ λb o hb e=>(sb.2 b λq=>hb (by simp [q])).trans e
 done:=λs Q E ⟨a,b⟩ hQ=>qL hh a b hd (Array.getElem?_eq_none (Kw _)) λh' eb=>hQ h' s.toks λb o hb e=>eb b o (λq=>hb (by simp [q])) e
 self:=λi s Q E ⟨a,_⟩ hQ=>wpAny_pyIter_keyiter a hQ
theorem AS{o:Obj}{es:Array DictEntry}{ep:Nat}{d:Addr}(hs:(d == sysModules)=false)(hx:o.ExactDict)(hd:o.data=.dict es ep):
  KdlSrc prog w "dict" d d es.size (λi v => ∃ e,es[i]? = some e/\v=e.key) (λh=>h.get? d=some o) where
 type:=λ_ hm=>⟨o,hm,hx.1⟩
 there:=λ_ hm=>⟨Kt hm,Kt hm⟩
 keep:=λ_ _ hm hk=>hk d (.inl rfl) o hm
 notList:=by decide
 notTuple:=by decide
 hint:=λ_ _ _ _ hm hq=>kdl_hint_dict ⟨o,hm,hx.1⟩ hq
 iter:=λ_ s hh hm=>⟨_,_,(λ_ _ hq=>pU hs hm hx hd hq),Az hh (Kz (Kt hm)) hd,⟨⟨_,KA _ rfl,rfl,rfl⟩,Ks _ hm⟩⟩
end
section
variable{X:Cx}{W:XQ}
theorem iF{K:KD}{ρ:List Addr}{H:Hp}:∀ {kvs:List (List Int×U)} {ws:List (List Key×V)},RD K ρ H kvs ws->ws.map (·.1)=kvs.map λkv=>kv.1.map Sum.inl
 | [],ws,h=>by cases h;rfl
 | (k,u) :: r,ws,⟨v,s,e,_,h⟩=>by subst e;rw [List.map_cons,List.map_cons,iF h]
theorem sL:∀ k:List Int,(k.map (Sum.inl:Int->Key)).map kV=k.map V.int
 | []=>rfl
 | i :: k=>by rw [List.map_cons,List.map_cons,List.map_cons,sL k];rfl
noncomputable def DKs(H:Hp)(a:Addr)(ks:List (List Int)):Prop := ∃ ws,Rd H a (.dT ws)/\ws.map (·.1)=ks.map λk=>k.map Sum.inl
noncomputable def yy(H:Hp)(D:KyB):Prop := ∀ d∈D,H d.2=some (.tup (d.1.map V.int))
theorem DA{P:Program}{w:World}{H:Hp}{h:Heap}{a:Addr}{ks:List (List Int)}(ok:HOk P w H h)(z:DKs H a ks):∃ o es ep,ks.length<=sizeLine/\(a == sysModules)=false/\h.get? a=some o/\o.ExactDict/\o.data=.dict es ep/\es.size=ks.length /\
  ∀ vs:List Value,vs.length=es.size->(∀ (j:Nat) (v:Value),vs[j]? = some v -> ∃ e,es[j]? = some e/\v=e.key) -> ∃ D:KyB,vs=refs D/\D.map (·.1)=ks/\yy H D:=by
 obtain ⟨ws,rd,ew⟩:=z;obtain ⟨h1,h2,o,es,ep,h3,h4,h5,h6,h7⟩:=yo (rd.ok ok);have hl:ws.length=ks.length:=by rw [<-List.length_map (f:=(·.1)),ew,List.length_map]
 refine ⟨o,es,ep,by rw [<-hl];exact h1,h2,h3,h4,h5,by rw [h6,hl],λvs hv hs => ?_⟩
 rw [h6] at hv;clear rd h1 h6;have each:∀ (j:Nat) (v:Value),vs[j]? = some v -> ∃ b k,v=.ref b/\ks[j]? = some k/\H b=some (.tup (k.map V.int)):=λj v e=>by
  obtain ⟨en,e1,e2⟩:=hs j v e;have hj:j < ws.length:=by rw [<-hv];exact (List.getElem?_eq_some_iff.mp e).1
  obtain ⟨⟨k0,v0⟩,e3⟩:∃ q,ws[j]? = some q:=⟨_,List.getElem?_eq_getElem hj⟩;obtain ⟨b,en',e4,e5,e6⟩:=h7 j k0 v0 e3;rw [e1] at e4;cases e4;have e7:(ws.map (·.1))[j]? = some k0:=by rw [List.getElem?_map,e3];rfl
  rw [ew,List.getElem?_map] at e7;cases e8:ks[j]? with
  | none=>rw [e8] at e7;cases e7
  | some k =>
   rw [e8] at e7;cases e7;exact ⟨b,k,e2.trans e5,rfl,by rw [<-sL];exact e6⟩
 have hv2:vs.length=ks.length:=by rw [hv,hl]
 clear hv hs h7 ew hl h5 h4 h3
 induction vs generalizing ks with
 | nil =>
  cases ks with
  | nil=>exact ⟨[],rfl,rfl,λd hd=>nomatch hd⟩
  | cons _ _=>cases hv2
 | cons v vs ih =>
  cases ks with
  | nil=>cases hv2
  | cons k ks =>
   obtain ⟨b,k',rfl,e1,e2⟩:=each 0 v rfl;cases e1;obtain ⟨D,d1,d2,d3⟩:=ih (λj v e=>each (j+1) v e) (by simpa using hv2)
   refine ⟨(k,b) :: D,by rw [d1];rfl,by rw [List.map_cons,d2],λd hd => ?_⟩
   rcases List.mem_cons.mp hd with rfl | hd
   .exact e2
   .exact d3 d hd
noncomputable def sQ(X:Cx):List V->Hp->VK->Prop:=λxs H Q => ∃ (a:Addr) (ks:List (List Int)),xs=[.ref a]/\DKs H a ks /\
 ∀ (l:Addr) (D:KyB),H l=none->D.map (·.1)=ks->yy H D->Q (.ref l) (upd H l (.lst (D.map λd=>V.ref d.2)))
theorem call_listD(hc:X.calm=true):CallR X (.type "list") (sQ X):=by
 intro pins s σ H xs us Q I r ⟨a,ks,e,z,q⟩;subst e;obtain ⟨u,rfl,rx⟩:=vals1 r;cases rx;obtain ⟨o,es,ep,h1,h2,h3,h4,h5,h6,h7⟩:=DA I.hok z;refine kdl_call (AS h2 h4 h5) (I.ok.hd hc) h3 (by rw [h6];exact h1) λh' tk acc c hk hL hacc => ?_
 obtain ⟨D,d1,d2,d3⟩:=h7 acc.toList (by rw [Array.length_toList];exact hacc.1) λj v e=>hacc.2 j v (by rw [<-Array.getElem?_toList];exact e)
 have ea:acc=(refs D).toArray:=by rw [<-d1]
 subst ea;refine ⟨.ref s.heap.objs.size,_,I.laid (t':=tk) hk (Kw _) (show ObjOk X.prog X.w _ h' _ (.lst (D.map λd=>V.ref d.2)) from ⟨?_,refs D,c,oa D,hL⟩),rfl,q _ D (I.hok.fresh (Kw _)) d2 d3⟩;rw [List.length_map,<-List.length_map (f:=(·.1)),d2];exact h1
theorem D4{K:KD}{ρ:List Addr}{H:Hp}{g:G}{u:U}{x:V}{kvs:List (List Int×U)}(hg:RH K ρ H g)(r1:RV K ρ H u x)(e:asD u g=some kvs):∃ a,x=.ref a/\DKs H a (kvs.map (·.1)):=by
 cases u with
 | ref n =>
  simp only [asD] at e;cases eg:g[n]? with
  | none=>rw [eg] at e;cases e
  | some ob =>
   obtain ⟨a',rfl,hn'⟩:=r1;cases ob with
   | dic kvs' =>
    rw [eg] at e;cases e;obtain ⟨a,ws,hn,ha,rd⟩:=hg.dic eg;rw [hn] at hn';cases hn';exact ⟨_,rfl,ws,.inl ha,by rw [iF rd,List.map_map];rfl⟩
   | dif kvs' =>
    rw [eg] at e;cases e;obtain ⟨a,ob,ws,hn,ha,rd⟩:=hg.dif eg;rw [hn] at hn';cases hn';exact ⟨_,rfl,ws,.inr ⟨ob,ha⟩,by rw [iF rd,List.map_map];rfl⟩
   | _=>rw [eg] at e;cases e
 | _=>cases e
theorem imp_list(ρ:List Addr)(H:Hp)(g:G)(us:List U)(xs:List V)(Q:VK)(hg:RH X.K ρ H g)(rs:RVs X.K ρ H us xs)(p:post X.K W (RV X.K) (bi1 .list us g) ρ H Q):
  (∃ p ys,xs=[.ref p]/\(SqL X.K H p ys\/SqT X.K H p ys) /\ ∀ l,H l=none->Q (.ref l) (upd H l (.lst ys)))\/sQ X xs H Q:=by
 match us,rs with
 | [u],rs =>
  obtain ⟨x,r',rfl,r1,e⟩:=rs;cases e;simp only [bi1,gf] at p;cases e:items u g with
  | none =>
   simp only [e] at p;cases ed:asD u g with
   | none=>simp only [ed] at p;exact p.elim
   | some kvs =>
    simp only [ed] at p;obtain ⟨a,rfl,z⟩:=D4 hg r1 ed;refine .inr ⟨a,_,rfl,z,λl D hl e1 e2=>d7 p hg ?_ l hl⟩;have:=oR (K:=X.K) (ρ:=ρ) e2;rw [e1,List.map_map] at this;exact this
  | some zs =>
   simp only [e] at p;obtain ⟨q,vs,rfl,hq,rz⟩:=fD hg r1 e;exact .inl ⟨q,vs,rfl,hq,λl hl=>d7 p hg rz l hl⟩
 | [],_=>exact p.elim
 | _ :: _ :: _,_=>exact p.elim
end
section
variable{prog:Program}{w:World}{A:Around}{E:Value->Shared->Prop}{s:Shared}
theorem Bq{id:String}{o:Addr}{oo:Obj}{es:Array DictEntry}{ep:Nat}{Q:Array DictEntry->Shared->Prop}(ho:s.heap.get? o=some oo)(hd:oo.data=.dict es ep)
  (hk:∀ e∈es,∃ b,e.key=.ref b/\s.TypeIs (.ref b) "tuple") (hh:∀ e∈es,¬ (es.filter (·.hash == e.hash)).size > 1) (h:Q es s):wpAny (model prog w) A (Builtin.Dict.entriesForEmpty id o) Q E s:=by
 unfold Builtin.Dict.entriesForEmpty;refine ZB (wpAny_dictEntries ho hd (ZB ?_));rw [<-Array.forIn_toList];have all:∀ l:List DictEntry,(∀ e∈l,e∈es)->wpAny (model prog w) A (forIn l PUnit.unit λe (_:PUnit)=>(do
   let q <- Builtin.Dict.quietEq e.key
   if (!q)=true then
    if (es.filter (·.hash == e.hash)).size > 1 then (do let _ <- (unsupported s!"{id}:keys-of-equal-hash" : Sem PUnit);pure (ForInStep.yield PUnit.unit)) else pure (ForInStep.yield PUnit.unit)
   else pure (ForInStep.yield PUnit.unit):Sem (ForInStep PUnit))) (λ_ s'=>wpAny (model prog w) A (pure es) Q E s') E s:=λl=>by
  induction l with
  | nil=>intro _;rw [List.forIn_nil];exact ZP (ZP h)
  | cons e l ih =>
   intro hl;obtain ⟨b,hb,ht⟩:=hk e (hl e (.head _));rw [List.forIn_cons,hb];refine ZB (ZB ?_);show wpAny _ _ (specialOf (.ref b) "__eq__" >>= _) _ _ _;refine ZB (wpAny_specialOf ht F.slot_tuple_eq.lookup (ZP ?_));rw [if_pos (by decide),if_neg (hh e (hl e (.head _)))]
   exact ZP (ih λx hx=>hl x (.tail _ hx))
 exact all es.toList λe he=>Array.mem_toList_iff.mp he
theorem Af{id:String}{d o:Addr}{od oo:Obj}{es:Array DictEntry}{ep epd:Nat}{Q:Unit->Shared->Prop}(hne:d≠o)(hoS:(o == sysModules)=false)(hod:s.heap.get? d=some od)(hdd:od.data=.dict #[] epd)
  (ho:s.heap.get? o=some oo) (hd:oo.data=.dict es ep) (hk:∀ e∈es,∃ b,e.key=.ref b/\s.TypeIs (.ref b) "tuple") (hh:∀ e∈es,¬ (es.filter (·.hash == e.hash)).size > 1) (hs:es.size<=sizeLine) (h0:0 < es.size)
  (h:Q () { s with heap:=s.heap.update d (Obj.mapDictKeys λ_=>es) }):wpAny (model prog w) A (Builtin.Dict.mergeDict id d o) Q E s:=by
 have few:(decide (es.size<=8) && es.all λe=>(keyPart e.key).isSome)=false:=by
  rw [Bool.and_eq_false_iff]
  right
  rw [<-Bool.not_eq_true,Array.all_eq_true];intro z;obtain ⟨b,hb,_⟩:=hk es[0] (Array.getElem_mem h0);have:=z 0 h0;rw [hb] at this;cases this
 unfold Builtin.Dict.mergeDict;rw [if_neg (by simpa using hne)]
 unfold Builtin.Dict.showsAll;rw [if_neg (by rw [hoS];exact Kv)]
 refine ZB (ZP (ZB (wpAny_dictEntries ho hd ?_)));dsimp only;rw [few,if_pos (by rfl)]
 refine ZB (wpAny_dictEntries hod hdd ?_);rw [if_pos (by rfl)]
 refine ZB (Bq ho hd hk hh ?_);rw [if_pos (by simp only [Bool.not_eq_true',Array.isEmpty_eq_false_iff];rintro rfl;exact absurd h0 (Nat.lt_irrefl _))]
 exact ZB (wpAny_updateDictKeysTo hod hdd (ZP h) (by omega))
theorem Bw{o:Addr}{oo:Obj}{es:Array DictEntry}{ep:Nat}{Q:Value->Shared->Prop}(hoS:(o == sysModules)=false)
  (ho:s.heap.get? o=some oo) (hx:oo.ExactDict) (hd:oo.data=.dict es ep) (hk:∀ e∈es,∃ b,e.key=.ref b/\s.TypeIs (.ref b) "tuple") (hh:∀ e∈es,¬ (es.filter (·.hash == e.hash)).size > 1) (hs:es.size<=sizeLine) (h0:0 < es.size)
  (h:Q (.ref s.heap.objs.size) { s with heap:=(s.heap.push { cls := .type "dict",data := .dict #[] }).update s.heap.objs.size (Obj.mapDictKeys λ_=>es) }):wpAny (model prog w) A (call (.type "dict") [.ref o]) Q E s:=by
 refine callType_codes (Q₁ := λobj s₁ => obj=.ref s.heap.objs.size/\s₁ = { s with heap:=s.heap.push { cls := .type "dict",data := .dict #[] } }) F.kt_called_dict (F.kt_typeCall_dict_1 _) F.entry_dict_init (kt_code_dict_new _ ⟨rfl,rfl⟩) ?_
 rintro obj s₁ ⟨rfl,rfl⟩;have hnew:(s.heap.push { cls := .type "dict",data := .dict #[] }).get? s.heap.objs.size=some { cls := .type "dict",data := .dict #[] }:=KA _ rfl;have tn:({ s with heap:=s.heap.push { cls := .type "dict",data := .dict #[] } }:Shared).TypeIs (.ref s.heap.objs.size) "dict" := ⟨_,hnew,rfl⟩
 have ho':(s.heap.push { cls := .type "dict",data := .dict #[] }).get? o=some oo:=Ks _ ho;have to:({ s with heap:=s.heap.push { cls := .type "dict",data := .dict #[] } }:Shared).TypeIs (.ref o) "dict" := ⟨_,ho',hx.1⟩
 refine ⟨tn,F.args_dict_init_2 _ _,?_⟩;unfold Builtin.«dict.__init__»;refine ZB ?_;unfold Builtin.Dict.selfAndRest;refine ZB (wpAny_notOrdered_dict tn ?_);show wpAny _ _ (pure (s.heap.objs.size,[Value.ref o])) _ _ _;refine ZP ?_;show wpAny _ _ (Builtin.Dict.updateFrom "dict.__init__" s.heap.objs.size (.ref o) [] .none) _ _ _;unfold Builtin.Dict.updateFrom;refine ZB (wpAny_typeOf to ?_);rw [if_neg (by decide)]
 refine ZB ?_;unfold Builtin.Dict.merge;refine ZB ?_;unfold Builtin.Dict.readDirectly;refine ZB (wpAny_isInstance to isSubtype_dict_dict ?_);simp only [Bool.not_true,Bool.false_eq_true,if_false];refine ZB (wpAny_specialOf to F.slot_dict_iter.lookup (ZP ?_));simp only [beq_self_eq_true,if_true];refine ZB (ZP ?_);refine Af (Nat.ne_of_gt (Kt ho)) hoS hnew rfl ho' hd (λe he => ?_) hh hs h0 ?_
 .obtain ⟨b,e1,ob,e2,e3⟩:=hk e he
  exact ⟨b,e1,ob,Ks _ e2,e3⟩
 .show wpAny _ _ (Builtin.Dict.addKeywords s.heap.objs.size [] >>= _) _ _ _
  exact ZB (ZP (ZP ⟨rfl,h⟩))
end
theorem wj:∀ {l:List DictEntry} (_:(l.map (·.hash)).Nodup) (h:Int),(l.filter (·.hash == h)).length<=1
 | [],_,_=>Nat.zero_le _
 | e :: l,nd,h=>by
  rw [List.map_cons,List.nodup_cons] at nd;rw [List.filter_cons];split
  .rename_i z
   have:l.filter (·.hash == h)=[]:=List.filter_eq_nil_iff.mpr λx hx y=>nd.1 (by rw [eq_of_beq z,<-eq_of_beq y];exact List.mem_map.mpr ⟨x,hx,rfl⟩)
   rw [this];exact Kw _
  .exact wj nd.2 h
theorem zL{H:Hp}{l:Addr}{o:HO}(hl:H l=none){ws:List (List Key×V)}{ys:List (List Key×Addr×Value)}(pr:Paired (λ(p:List Key×V) (q:List Key×Addr×Value)=>p.1=q.1/\H q.2.1=some (.tup (p.1.map kV))/\RelV p.2 q.2.2) ws ys):
  Paired (λ(p:List Key×V) (q:List Key×Addr×Value)=>p.1=q.1/\upd H l o q.2.1=some (.tup (p.1.map kV))/\RelV p.2 q.2.2) ws ys:=by
 induction pr with
 | nil=>exact .nil
 | cons z _ ih=>exact .cons ⟨z.1,by rw [ar (λe=>by have:=z.2.1;rw [e,hl] at this;cases this)];exact z.2.1,z.2.2⟩ ih
section
variable{X:Cx}{W:XQ}
noncomputable def xO(X:Cx):List V->Hp->VK->Prop:=λxs H Q => ∃ (a:Addr) (ws:List (List Key×V)) (ks:List (List Int)),xs=[.ref a]/\Rd H a (.dT ws)/\ws.map (·.1)=ks.map (λk=>k.map Sum.inl)/\ks≠[]/\(∀ a∈ks,∀ b∈ks,hkL a=hkL b->a=b) /\ ∀ l,H l=none->Q (.ref l) (upd H l (.dT ws))
theorem call_dct:CallR X (.type "dict") (xO X):=by
 intro pins s σ H xs us Q I r ⟨a,ws,ks,e,rd,ew,hne,hh,q⟩;subst e;obtain ⟨u,rfl,rx⟩:=vals1 r;cases rx;obtain ⟨h1,h2,ys,pr,o,es,ep,h3,h4,h5,h6,h7⟩:=(show ObjOk X.prog X.w H s.heap a (.dT ws) from rd.ok I.hok);have ey:ys.map (·.1)=ks.map (λk=>k.map (Sum.inl:Int->Key)):=by
  rw [<-ew];clear h1 h6 h7 ew q rd
  induction pr with
  | nil=>rfl
  | cons z _ ih=>rw [List.map_cons,List.map_cons,ih,z.1]
 have tup:∀ y∈ys,∃ xs,H y.2.1=some (.tup xs):=by
  clear h1 h6 h7 ew q rd ey
  induction pr with
  | nil=>exact λy hy=>nomatch hy
  | cons z _ ih =>
   intro y hy;rcases List.mem_cons.mp hy with rfl | hy
   .exact ⟨_,z.2.1⟩
   .exact ih y hy
 have eh:es.toList.map (·.hash)=ks.map hkL:=by
  rw [h6,List.map_map];have:((λe:DictEntry=>e.hash) ∘ entryOfKey (tupleKind (aP X.prog X.w)))=(λk=>(tupleKind (aP X.prog X.w)).hash k) ∘ (λy:List Key×Addr×Value=>y.1):=rfl;rw [this,<-List.map_map,ey,List.map_map];refine List.map_congr_left λk _ => ?_;show reduceHash (Builtin.Tuple.tupleHashOf ((k.map Sum.inl).map (aP X.prog X.w).hash))=reduceHash (Builtin.Tuple.tupleHashOf (k.map hashInt));rw [List.map_map];rfl
 have nd:(es.toList.map (·.hash)).Nodup:=by
  rw [eh];rw [ey] at h7;exact List.pairwise_map.mpr ((List.pairwise_map.mp h7).imp_of_mem λ{x y} hx hy z e=>z (by rw [hh x hx y hy e]))
 have hz:es.size=ks.length:=by rw [<-Array.length_toList,<-List.length_map (f:=(·.hash)),eh,List.length_map]
 have hl:ks.length=ws.length:=by rw [<-List.length_map (f:=(·.1)) (as:=ws),ew,List.length_map]
 have hne':0 < es.size:=by rw [hz];exact List.length_pos_iff.mpr hne
 have fresh:=I.hok.fresh (Kw s.heap.objs.size);refine Bw h2 h3 h4 h5 (λe he => ?_) (λe he => ?_) (by omega) hne' ?_
 .have:e∈ys.map (entryOfKey (tupleKind (aP X.prog X.w))):=by rw [<-h6];exact Array.mem_toList_iff.mpr he
  obtain ⟨y,hy,rfl⟩:=List.mem_map.mp this;obtain ⟨zs,hzs⟩:=tup y hy;obtain ⟨_,its,_,ob,o1,o2,_⟩:=(show ObjOk X.prog X.w H s.heap y.2.1 (.tup zs) from I.hok _ _ hzs);exact ⟨y.2.1,rfl,ob,o1,o2⟩
 .rw [<-Array.length_toList,Array.toList_filter]
  exact Nat.not_lt.mpr (wj nd e.hash)
 .have hnew:(s.heap.push { cls := .type "dict",data := .dict #[] }).get? s.heap.objs.size=some { cls := .type "dict",data := .dict #[] }:=KA _ rfl
  refine ⟨.ref s.heap.objs.size,_,I.laid (t':=s.toks) (o := .dT ws) (λb ob e => ?_) (Kw _) ?_,rfl,q _ fresh⟩
  .exact ((Heap.SameBut.update _ _ _).2 b (Kz (Kt e))).trans (Ks _ e)
  .refine ⟨h1,beq_eq_false_iff_ne.mpr (Ne.symm (Kz I.big)),ys,?_,_,es,_,Heap.get?_update_self _ hnew (Obj.isFreed_of_dict (Obj.data_mapDictKeys rfl _)),Obj.ExactDict.mapDictKeys ⟨rfl,rfl,rfl⟩ _,Obj.data_mapDictKeys rfl _,h6,h7⟩
   exact zL fresh pr
theorem imp_dct(ρ:List Addr)(H:Hp)(g:G)(us:List U)(xs:List V)(Q:VK)(hg:RH X.K ρ H g)(rs:RVs X.K ρ H us xs)(p:post X.K W (RV X.K) (bi1 .dct us g) ρ H Q):xO X xs H Q:=by
 match us,rs with
 | [u],rs =>
  obtain ⟨x,r',rfl,r1,e⟩:=rs;cases e;simp only [bi1,iZ] at p;cases ed:asD u g with
  | none=>simp only [ed] at p;exact p.elim
  | some kvs =>
   simp only [ed] at p;by_cases hk:kvs≠[] /\ ∀ a∈kvs.map (·.1),∀ b∈kvs.map (·.1),hkL a=hkL b->a=b
   .rw [if_pos hk] at p
    have key:∃ a ws,x=.ref a/\Rd H a (.dT ws)/\RD X.K ρ H kvs ws:=by
     cases u with
     | ref n =>
      simp only [asD] at ed;cases eg:g[n]? with
      | none=>rw [eg] at ed;cases ed
      | some ob =>
       obtain ⟨a',rfl,hn'⟩:=r1;cases ob with
       | dic kvs' =>
        rw [eg] at ed;cases ed;obtain ⟨a,ws,hn,ha,rd⟩:=hg.dic eg;rw [hn] at hn';cases hn';exact ⟨_,ws,rfl,.inl ha,rd⟩
       | dif kvs' =>
        rw [eg] at ed;cases ed;obtain ⟨a,ob,ws,hn,ha,rd⟩:=hg.dif eg;rw [hn] at hn';cases hn';exact ⟨_,ws,rfl,.inr ⟨ob,ha⟩,rd⟩
       | _=>rw [eg] at ed;cases ed
     | _=>cases ed
    obtain ⟨a,ws,rfl,rd,r2⟩:=key;refine ⟨a,ws,kvs.map (·.1),rfl,rd,by rw [iF r2,List.map_map];rfl,by simpa using hk.1,hk.2,λl hl => ?_⟩
    refine p (.ref l) (ρ++[l]) _ (Stp.alloc hl) (hg.allocO hl ⟨ws,rfl,r2⟩) ⟨l,rfl,?_⟩;rw [<-hg.len];simp
   .rw [if_neg hk] at p;exact p.elim
 | [],_=>exact p.elim
 | _ :: _ :: _,_=>exact p.elim
end
open PySem PySem.Spec PyProof.Rows L2
section
variable{X:Cx}{W:XQ}{C:Nat->List U->G->Out U}{r:L}{pos p2:Pos}{a b c e:Expr}{a' b' c' e':E}{lo hi:Option Expr}{lo' hi':Option E}
noncomputable def gv(K:KD)(W:XQ)(f:Su->G->Out (Option Int)):TO:=λσ H Q => ∃ σu ρ g,RS K ρ H σu σ/\RH K ρ H g/\post K W REq (f σu g) ρ H Q
theorem DE:PO X none (gv X.K W (evo r.ev none)):=λpins s σ H Q I ⟨σu,ρ,g,hs,hg,p⟩=>DO pins s σ H Q I (post.okHere (R:=REq) p hg rfl)
theorem DF(h:PE X e (tE X.K W (r.ev e'))):PO X (some e) (gv X.K W (evo r.ev (some e'))):=λpins s σ H Q I hp=>by
 refine B5 h pins s σ H Q I (one (k:=λ_ u g=>match u with | .int i=>Out.ok (some i) g | _ => .bad) hp λσu ρ H g u x hs hg r1 p => ?_)
 cases u with
 | int i=>cases r1;exact ⟨i,rfl,post.okHere (R:=REq) p hg rfl⟩
 | _=>exact p.elim
theorem j4{us:List U}{vs:List V}{ρ:List Addr}{H:Hp}{l h:Option Int}(rs:RVs X.K ρ H us vs):RVs X.K ρ H (bB us l h) (di vs l h):=by
 unfold bB di;rw [rs.length];exact (rs.drop _).take _
theorem Gr(ha:PE X a (tE X.K W (r.ev a')))(hl:PO X lo (gv X.K W (evo r.ev lo')))(hh:PO X hi (gv X.K W (evo r.ev hi'))):PE X (.Subscript a (.Slice lo hi none p2) pos) (tE X.K W (evF C r (.slc a' lo' hi'))):=by
 refine (A7 (Cm.or Hb) ha hl hh).imp λσ H Q ⟨σu,ρ,g,hs,hg,p⟩ => ?_;refine ⟨σu,ρ,g,hs,hg,(post.bind p).mono λx H1 ⟨ρ1,u,g1,s1,h1,r1,p1⟩ => ?_⟩;refine ⟨σu,ρ1,g1,hs.step s1,h1,(post.bind (R:=REq) p1).mono λl H2 ⟨ρ2,l',g2,s2,h2,e2,p2⟩ => ?_⟩;subst e2;refine ⟨σu,ρ2,g2,(hs.step s1).step s2,h2,(post.bind (R:=REq) p2).mono λh H3 ⟨ρ3,h',g3,s3,h3,e3,p3⟩ => ?_⟩;subst e3;have r3:=RV.step s3 _ _ (RV.step s2 _ _ r1);cases u with
 | tup us =>
  obtain ⟨q,vs,rfl,t1,t2⟩:=r3;refine .inr ⟨q,vs,rfl,t1.sq,?_⟩;simp only [] at p3;rw [t2.length] at p3;split at p3
  .exact p3.elim
  .rename_i hn
   refine ⟨hn,λk hk => ?_⟩;exact p3 _ ρ3 _ (Stp.fresh hk) (h3.step_fresh hk) ⟨k,_,rfl,upd_same,RVs.step (Stp.fresh hk) _ _ (j4 t2)⟩
 | fro us =>
  obtain ⟨q,vs,rfl,t1,t2⟩:=r3;exact .inl ⟨q,vs,rfl,t1.sq,λk hk=>d7 p3 h3 (j4 t2) k hk⟩
 | ref n =>
  obtain ⟨q,rfl,hn⟩:=r3;simp only [] at p3;cases eg:g3[n]? with
  | none=>simp only [eg] at p3;exact p3.elim
  | some o =>
   cases o with
   | lst us =>
    simp only [eg] at p3;obtain ⟨q',vs,t1,t2,t3⟩:=h3.lst eg;rw [hn] at t1;cases t1;exact .inl ⟨q,vs,rfl,.of t2,λk hk=>d7 p3 h3 (j4 t3) k hk⟩
   | dic _=>simp only [eg] at p3;exact p3.elim
   | dif _=>simp only [eg] at p3;exact p3.elim
   | dst _=>simp only [eg] at p3;exact p3.elim
   | ins _ _=>simp only [eg] at p3;exact p3.elim
 | _=>exact p3.elim
theorem FN{k:Nat}{p3 p4:Pos}(ha:PE X a (tE X.K W (r.ev a'))):PE X (.Subscript a (.Slice none none (some (.UnaryOp .USub (.Constant (.int 1) k p3) p4)) p2) pos) (tE X.K W (evF C r (.rev a'))):=by
 intro pins s σ H Q I hp;have hp':tE X.K W (r.ev a') σ H (λx H1 => ∃ q vs,x=.ref q/\H1 q=some (.lst vs) /\ ∀ k,H1 k=none->Q (.ref k) (upd H1 k (.lst vs.reverse))):=one hp λσu ρ H g u x hs hg r1 p=>by
  cases u with
  | ref n =>
   obtain ⟨q,rfl,hn⟩:=r1;simp only [] at p;cases eg:g[n]? with
   | none=>simp only [eg] at p;exact p.elim
   | some o =>
    cases o with
    | lst us =>
     simp only [eg] at p;obtain ⟨q',vs,t1,t2,t3⟩:=hg.lst eg;rw [hn] at t1;cases t1;exact ⟨q,vs,rfl,t2,λk hk=>d7 p hg t3.reverse k hk⟩
    | dic _=>simp only [eg] at p;exact p.elim
    | dif _=>simp only [eg] at p;exact p.elim
    | dst _=>simp only [eg] at p;exact p.elim
    | ins _ _=>simp only [eg] at p;exact p.elim
  | _=>exact p.elim
 refine Subscript_ (thn (ha pins s σ H _ I hp') λv s1 ⟨x,H1,I1,r1,q1⟩ => ?_);obtain ⟨q,vs,rfl,hv,fin⟩:=q1;cases r1;refine wpAny_Slice ?_;rw [evalPart_none];refine ZP (ZP ?_);rw [evalPart_some];refine thn (xw rR uj pins s1 σ H1 (λx H2=>x=.int (-1)/\H2=H1) I1 ⟨1,rfl,rfl,rfl⟩) λvst s2 ⟨z,H2,I2,rz,ez,eh⟩ => ?_;subst ez;subst eh;obtain ⟨t,rfl⟩:=rz;have I3:L2.Inv X pins σ H2 { s2 with heap:=s2.heap.push { cls := .type "slice",data := .fields #[.none,.none,.int (-1) t] } }:=I2.kept (t':=s2.toks) λb ob q=>Ks _ q
 obtain ⟨its,n,rv,ho,hz⟩:=I3.lst hv;have hl:Heap.IsList (s2.heap.push { cls := .type "slice",data := .fields #[.none,.none,.int (-1) t] }) q its.toArray:=⟨_,ho,rfl,n,rfl⟩;have hlen:=rv.length;refine tail_any (ops:=[.ref q,.ref s2.heap.objs.size]) (T := "list") hl.typeIs slot_list_getitem.lookup ?_ (by with_unfolding_all rfl)
 refine wpAny_getItem_list_slice hl (Heap.IsSliceOf.new ..) .none .none (.int (-1) t) (by simp) ?_ (by rw [List.size_toArray];omega)
 rw [PySem.W.krv_pick];have hf:=I3.hok.fresh (Kw _);refine ⟨.ref _,_,I3.laid (t':=s2.toks) (o := .lst vs.reverse) (λb ob q=>Ks _ q) (Kw _) ?_,rfl,fin _ hf⟩;exact ⟨by rw [List.length_reverse];exact hz,its.reverse,0,rv.reverse,KA _ rfl⟩
noncomputable def tyName:Ty->String
 | .tint => "int" | .tbool => "bool" | .tstr => "str" | .ttuple => "tuple" | .tlist => "list" | .own _ => "?"
theorem D8{ρ:List Addr}{H:Hp}{g:G}{u:U}{x:V}{t:Ty}{k:Bool}{pins:List (Addr×Obj)}{σ:L2.St}{s:Shared}{v:Value}{Q:VK}(I:L2.Inv X pins σ H s)(hg:RH X.K ρ H g)(r1:RV X.K ρ H u x)(rx:RelV x v)
  (e:aW t u g=some k) (q:Q (.bl k) H):wpAny (model X.prog X.w) X.A (call (.builtin "isinstance") [v,.type (tyName t)]) (EP X pins σ Q) X.xe s:=by
 have fin:∀ tk,EP X pins σ Q (.bool k) { s with toks:=tk }:=λtk=>⟨.bl k,H,I.tok tk,rfl,q⟩
 have isT:∀ {p:Addr} {us:List U} {vs:List V},SqT X.K H p vs->aW t (.tup us) g=some k->wpAny (model X.prog X.w) X.A (call (.builtin "isinstance") [.ref p,.type (tyName t)]) (EP X pins σ Q) X.xe s:=λ{p us vs} h e=>by
  obtain ⟨its,_,⟨o,h1,h2,_⟩,_⟩:=I.tuple h;cases t <;> simp only [aW,Option.some.injEq,reduceCtorEq] at e <;> subst e <;> exact PySem.W.kia_one PySem.W.kitx_tuple I.kIn ⟨o,h1,h2⟩ rfl (λz=>nomatch z) fin
 have isL:∀ {p:Addr} {vs:List V},SqL X.K H p vs->gm t=some k->wpAny (model X.prog X.w) X.A (call (.builtin "isinstance") [.ref p,.type (tyName t)]) (EP X pins σ Q) X.xe s:=λ{p vs} h e=>by
  obtain ⟨its,_,⟨o,n,h1,h2,_⟩,_⟩:=I.list h;cases t <;> simp only [gm,Option.some.injEq,reduceCtorEq] at e <;> subst e <;> exact PySem.W.kia_one PySem.W.kitx_list I.kIn ⟨o,h1,h2⟩ rfl (λz=>nomatch z) fin
 cases u with
 | non=>cases r1;cases rx;cases t <;> simp only [aW,Option.some.injEq,reduceCtorEq] at e <;> subst e <;> exact PySem.W.kia_one PySem.W.kitx_none I.kIn True.intro rfl (λz=>nomatch z) fin
 | bl b=>cases r1;cases rx;cases t <;> simp only [aW,Option.some.injEq,reduceCtorEq] at e <;> subst e <;> exact PySem.W.kia_one PySem.W.kitx_bool I.kIn True.intro rfl (λz=>nomatch z) fin
 | int i=>cases r1;obtain ⟨tk,rfl⟩:=rx;cases t <;> simp only [aW,Option.some.injEq,reduceCtorEq] at e <;> subst e <;> exact PySem.W.kia_one PySem.W.kitx_int I.kIn True.intro rfl (λz=>nomatch z) fin
 | str z=>cases r1;obtain ⟨tk,rfl⟩:=rx;cases t <;> simp only [aW,Option.some.injEq,reduceCtorEq] at e <;> subst e <;> exact PySem.W.kia_one PySem.W.kitx_str I.kIn True.intro rfl (λz=>nomatch z) fin
 | tup us=>obtain ⟨p,vs,rfl,h1,h2⟩:=r1;cases rx;exact isT h1.sq e
 | fro us=>simp [aW] at e
 | ref n =>
  obtain ⟨p,rfl,hn⟩:=r1;cases rx;simp only [aW] at e;cases eg:g[n]? with
  | none=>simp only [eg] at e;cases e
  | some o =>
   cases o with
   | lst us =>
    simp only [eg] at e;obtain ⟨q',vs,t1,t2,t3⟩:=hg.lst eg;rw [hn] at t1;cases t1;exact isL (.of t2) e
   | dic _=>simp only [eg] at e;cases e
   | dif _=>simp only [eg] at e;cases e
   | dst _=>simp only [eg] at e;cases e
   | ins _ _=>simp only [eg] at e;cases e
 | xn _ _=>simp [aW] at e
theorem EI{t:Ty}{tn:Str}{p1 p2:Pos}(ht:tn=Str.ofString (tyName t))(hgt:Gl X tn)(hmt:X.mg tn=none)(hbt:bootBuiltins tn=some (.type (tyName t)))(hn:tn ≠ "__name__")(hdb:(tn == ("__debug__" : Str))=false)
  (hg:Gl X "isinstance") (hm:X.mg "isinstance" = none) (ha:PE X a (tE X.K W (r.ev a'))) (hs:∀ es,starEach (a :: es) X.env=(false,eval a X.env) :: starEach es X.env) :
  PE X (.Call (.Name "isinstance" p1) [a,.Name tn p2] [] pos) (tE X.K W (evF C r (.isi a' t))):=by
 have hc:CallR X (.builtin "isinstance") (λxs H Q => ∃ x ρ g u k,xs=[x,.ty (tyName t)]/\RH X.K ρ H g/\RV X.K ρ H u x/\aW t u g=some k/\Q (.bl k) H):=by
  intro pins s σ H xs us Q I rs ⟨x,ρ,g,u,k,e,hg,r1,ek,q⟩;subst e;cases rs with
  | cons rx rs =>
   cases rs with
   | cons ry rs =>
    cases rs;cases ry;exact D8 I hg r1 rx ek q
 refine (pe_callB hc hg hm (by rfl) (cS ha (cS (DN (v := .ty (tyName t)) hgt hmt hbt rfl hn hdb) eF rfl) (hs _)) (by decide) (by decide) (hs _) rfl).imp λσ H Q hp => ?_
 refine one hp λσu ρ H g u x hs hg r1 p => ?_;cases ek:aW t u g with
 | none=>simp only [ek] at p;exact p.elim
 | some k=>simp only [ek] at p;exact ⟨x,ρ,g,u,k,rfl,hg,r1,ek,okE p hg rfl⟩
theorem dQ{ρ:List Addr}{H:Hp}{g:G}{n:Nat}{us:List U}{x:V}(hg:RH X.K ρ H g)(r1:RV X.K ρ H (.ref n) x)(eg:g[n]? = some (.lst us)):∃ q vs,x=.ref q/\ρ[n]? = some q/\H q=some (.lst vs)/\RVs X.K ρ H us vs:=by
 obtain ⟨q,rfl,hn⟩:=r1;obtain ⟨q',vs,t1,t2,t3⟩:=hg.lst eg;rw [hn] at t1;cases t1;exact ⟨q,vs,rfl,hn,t2,t3⟩
theorem fP{x:U}{g:G}{n:Nat}(e:asL x g=some n):x=.ref n /\ ∃ us,g[n]? = some (.lst us):=by
 cases x <;> simp only [asL,reduceCtorEq] at e
 rename_i m;cases eg:g[m]? with
 | none=>simp [eg] at e
 | some o =>
  cases o with
  | lst us=>simp only [eg,Option.some.injEq] at e;subst e;exact ⟨rfl,us,eg⟩
  | dic _=>simp [eg] at e
  | dif _=>simp [eg] at e
  | dst _=>simp [eg] at e
  | ins _ _=>simp [eg] at e
theorem sT{o:Expr}{o':E}{apos cpos:Pos}{name:Str}{id:String}{rr:V->List V->Hp->VK->Prop}{f:Nat->U->G->Out U}(slot:Slot "list" name id)(hty:typeOf (.builtin id)=pure (.type "method_descriptor"))(mt:MtR X id rr)
  (imp:∀ ρ H g n q y v Q,RH X.K ρ H g->ρ[n]? = some q->RV X.K ρ H y v->post X.K W (RV X.K) (f n y g) ρ H Q->rr (.ref q) [v] H Q)
  (ho:PE X o (tE X.K W (r.ev o'))) (ha:PE X a (tE X.K W (r.ev a'))) (hbase:attributeBase o name X.env (eval o X.env)=eval o X.env) (hline:(apos.endLine == cpos.line)=true)
  (hs:∀ es,starEach (a :: es) X.env=(false,eval a X.env) :: starEach es X.env):PE X (.Call (.Attribute o name apos) [a] [] cpos) (tE X.K W (λσ g=>(r.ev o' σ g).bind λx g=>match asL x g with
  | some n=>(r.ev a' σ g).bind λy g=>f n y g
  | none => .bad)):=by
 refine (Ia (T := "list") PySem.F.plainAttrs_list slot hty mt ho (cS ha eF (hs _)) hbase (by rw [hs];rfl) hline (hs _) rfl).imp λσ H Q ⟨σu,ρ,g,hs,hg,p⟩ => ?_
 refine ⟨σu,ρ,g,hs,hg,(post.bind p).mono λx H1 ⟨ρ1,u,g1,s1,h1,r1,p1⟩ => ?_⟩;cases ea:asL u g1 with
 | none=>simp only [ea] at p1;exact p1.elim
 | some n =>
  simp only [ea] at p1;obtain ⟨rfl,us,eg⟩:=fP ea;obtain ⟨q,vs,rfl,hn,t2,t3⟩:=dQ h1 r1 eg;refine ⟨.inl ⟨rfl,vs,.of t2⟩,σu,ρ1,g1,hs.step s1,h1,(post.bind p1).mono λy H2 ⟨ρ2,w,g2,s2,h2,r2,p2⟩ => ?_⟩;exact imp ρ2 H2 g2 n q w y Q h2 (s2.ext _ _ hn) r2 p2
theorem eK{ρ:List Addr}{H:Hp}{g:G}{n:Nat}{q:Addr}{us:List U}(hg:RH X.K ρ H g)(hn:ρ[n]? = some q)(eg:g[n]? = some (.lst us)):∃ vs,H q=some (.lst vs)/\RVs X.K ρ H us vs:=by
 obtain ⟨q',vs,t1,t2,t3⟩:=hg.lst eg;rw [hn] at t1;cases t1;exact ⟨vs,t2,t3⟩
theorem Eg{o:Expr}{o':E}{apos cpos:Pos}(ho:PE X o (tE X.K W (r.ev o')))(ha:PE X a (tE X.K W (r.ev a')))(hbase:attributeBase o "append" X.env (eval o X.env)=eval o X.env)(hline:(apos.endLine == cpos.line)=true)
  (hs:∀ es,starEach (a :: es) X.env=(false,eval a X.env) :: starEach es X.env):PE X (.Call (.Attribute o "append" apos) [a] [] cpos) (tE X.K W (evF C r (.app o' a'))):=by
 refine sT PySem.F.slot_list_append PySem.F.type_list_append nS (λρ H g n q y v Q hg hn ry p => ?_) ho ha hbase hline hs;simp only [bO] at p;cases eg:g[n]? with
 | none=>simp only [eg] at p;exact p.elim
 | some o =>
  cases o with
  | lst us =>
   simp only [eg] at p;obtain ⟨vs,t2,t3⟩:=eK hg hn eg;split at p
   .rename_i hl
    exact ⟨q,vs,v,rfl,rfl,t2,by rw [<-t3.length,sizeLine_eq];unfold aj at hl;omega,p _ ρ _ (Stp.write hn t2) (hg.write hn t2 (t3.append (.one ry))) rfl⟩
   .exact p.elim
  | dic _=>simp only [eg] at p;exact p.elim
  | dif _=>simp only [eg] at p;exact p.elim
  | dst _=>simp only [eg] at p;exact p.elim
  | ins _ _=>simp only [eg] at p;exact p.elim
theorem EK{o:Expr}{o':E}{apos cpos:Pos}(ho:PE X o (tE X.K W (r.ev o')))(ha:PE X a (tE X.K W (r.ev a')))(hbase:attributeBase o "extend" X.env (eval o X.env)=eval o X.env)(hline:(apos.endLine == cpos.line)=true)
  (hs:∀ es,starEach (a :: es) X.env=(false,eval a X.env) :: starEach es X.env):PE X (.Call (.Attribute o "extend" apos) [a] [] cpos) (tE X.K W (evF C r (.ext o' a'))):=by
 refine sT PySem.F.slot_list_extend PySem.F.type_list_extend AL (λρ H g n q y v Q hg hn ry p => ?_) ho ha hbase hline hs;simp only [cK] at p;cases ea:asL y g with
 | none=>simp only [ea] at p;exact p.elim
 | some m =>
  simp only [ea] at p;obtain ⟨rfl,zs,em⟩:=fP ea;obtain ⟨q2,ws,rfl,hm,w2,w3⟩:=dQ hg ry em;cases eg:g[n]? with
  | none=>simp only [eg] at p;exact p.elim
  | some o =>
   cases o with
   | lst us =>
    simp only [eg,em] at p;obtain ⟨vs,t2,t3⟩:=eK hg hn eg;split at p
    .rename_i hl
     exact ⟨q,q2,vs,ws,rfl,rfl,t2,w2,by rw [<-t3.length,<-w3.length,sizeLine_eq];unfold aj at hl;omega,p _ ρ _ (Stp.write hn t2) (hg.write hn t2 (t3.append w3)) rfl⟩
    .exact p.elim
   | dic _=>simp only [eg] at p;exact p.elim
   | dif _=>simp only [eg] at p;exact p.elim
   | dst _=>simp only [eg] at p;exact p.elim
   | ins _ _=>simp only [eg] at p;exact p.elim
theorem Ew{o:Expr}{o':E}{apos cpos:Pos}(ho:PE X o (tE X.K W (r.ev o')))(hbase:attributeBase o "pop" X.env (eval o X.env)=eval o X.env)(hline:(apos.endLine == cpos.line)=true):
  PE X (.Call (.Attribute o "pop" apos) [] [] cpos) (tE X.K W (evF C r (.pop o'))):=by
 refine (sX (T := "list") PySem.F.plainAttrs_list PySem.F.slot_list_pop PySem.F.type_list_pop E1 ho hbase hline).imp λσ H Q hp=>one hp λσu ρ H g u x hs hg r1 p => ?_;cases ea:asL u g with
 | none=>simp only [ea] at p;exact p.elim
 | some n =>
  simp only [ea] at p;obtain ⟨rfl,us,eg⟩:=fP ea;obtain ⟨q,vs,rfl,hn,t2,t3⟩:=dQ hg r1 eg;refine ⟨.inl ⟨rfl,vs,.of t2⟩,?_⟩;simp only [b8,eg] at p;cases el:us[us.length - 1]? with
  | none=>simp only [el] at p;exact p.elim
  | some y =>
   simp only [el] at p;obtain ⟨v,ev,rv⟩:=t3.get el;exact ⟨q,vs,v,rfl,rfl,t2,by rw [<-t3.length];exact ev,p _ ρ _ (Stp.write hn t2) (hg.write hn t2 t3.dropLast) (RV.step (Stp.write hn t2) _ _ rv)⟩
theorem GV{ρ:List Addr}{H:Hp}{g:G}{u:U}{x:V}{kvs:List (List Int×U)}(hg:RH X.K ρ H g)(r1:RV X.K ρ H u x)(e:asD u g=some kvs):∃ a,x=.ref a/\IsD H a:=by
 cases u with
 | ref n =>
  simp only [asD] at e;cases eg:g[n]? with
  | none=>rw [eg] at e;cases e
  | some ob =>
   obtain ⟨a',rfl,hn'⟩:=r1;cases ob with
   | dic kvs'=>obtain ⟨a,ws,hn,ha,rd⟩:=hg.dic eg;rw [hn] at hn';cases hn';exact ⟨_,rfl,.inr ⟨ws,.inl ha⟩⟩
   | dif kvs'=>obtain ⟨a,ob,ws,hn,ha,rd⟩:=hg.dif eg;rw [hn] at hn';cases hn';exact ⟨_,rfl,.inr ⟨ws,.inr ⟨ob,ha⟩⟩⟩
   | _=>rw [eg] at e;cases e
 | _=>cases e
theorem Eu{o k x:Expr}{o' k' x':E}{apos cpos:Pos}(hu:X.A.units+1 < cLine)(ho:PE X o (tE X.K W (r.ev o')))(hk:PE X k (tE X.K W (r.ev k')))(hx:PE X x (tE X.K W (r.ev x')))(hbase:attributeBase o "get" X.env (eval o X.env)=eval o X.env)(hline:(apos.endLine == cpos.line)=true)
  (hs:∀ es,starEach (k :: es) X.env=(false,eval k X.env) :: starEach es X.env) (hs2:∀ es,starEach (x :: es) X.env=(false,eval x X.env) :: starEach es X.env):PE X (.Call (.Attribute o "get" apos) [k,x] [] cpos) (tE X.K W (evF C r (.dgt o' k' x'))):=by
 refine (A4 hu ho hk hx ⟨hbase,by rw [hs,hs2];rfl,hline,by rw [hs,hs2];rfl⟩).imp λσ H Q ⟨σu,ρ,g,hs,hg,p⟩ => ?_
 refine ⟨σu,ρ,g,hs,hg,(post.bind p).mono λx H1 ⟨ρ1,u,g1,s1,h1,r1,p1⟩ => ?_⟩;cases ed:asD u g1 with
 | none=>simp only [ed] at p1;exact p1.elim
 | some kvs =>
  simp only [ed] at p1;obtain ⟨a,rfl,isd⟩:=GV h1 r1 ed;refine ⟨a,rfl,isd,σu,ρ1,g1,hs.step s1,h1,(post.bind p1).mono λy H2 ⟨ρ2,w,g2,s2,h2,r2,p2⟩=>⟨σu,ρ2,g2,(hs.step s1).step s2,h2,(post.bind p2).mono λz H3 ⟨ρ3,q,g3,s3,h3,r3,p3⟩ => ?_⟩⟩;cases el:aB w u g3 with
  | none=>simp only [el] at p3;exact p3.elim
  | some oo =>
   simp only [el] at p3;obtain ⟨a',ov,ea,dg,es,got⟩:=gX h3 (RV.step s3 _ _ r2) (RV.step (s2.trans s3) _ _ r1) el;cases ea;refine ⟨ov,dg,?_⟩;cases oo with
   | none =>
    cases ov with
    | none=>exact okE p3 h3 r3
    | some _=>cases es
   | some uu =>
    obtain ⟨v,rfl,rv⟩:=got uu rfl;exact okE p3 h3 rv
theorem BN{o:Expr}{o':E}{apos cpos:Pos}(ho:PE X o (tE X.K W (r.ev o')))(hbase:attributeBase o "reverse" X.env (eval o X.env)=eval o X.env)(hline:(apos.endLine == cpos.line)=true):
  PE X (.Call (.Attribute o "reverse" apos) [] [] cpos) (tE X.K W (evF C r (.revm o'))):=by
 refine (sX (T := "list") PySem.F.plainAttrs_list PySem.F.slot_list_reverse PySem.F.type_list_reverse zY ho hbase hline).imp λσ H Q hp=>one hp λσu ρ H g u x hs hg r1 p => ?_;cases ea:asL u g with
 | none=>simp only [ea] at p;exact p.elim
 | some n =>
  simp only [ea] at p;obtain ⟨rfl,us,eg⟩:=fP ea;obtain ⟨q,vs,rfl,hn,t2,t3⟩:=dQ hg r1 eg;refine ⟨.inl ⟨rfl,vs,.of t2⟩,?_⟩;simp only [cJ,eg] at p;exact ⟨q,vs,rfl,rfl,t2,p _ ρ _ (Stp.write hn t2) (hg.write hn t2 t3.reverse) rfl⟩
end
section
variable(K:KD)
noncomputable def tG(t:Tg):TG:=λv σ H Q => ∃ σu ρ g u σu',RS K ρ H σu σ/\RH K ρ H g/\RV K ρ H u v/\az t (unl t u g) σu=some σu' /\ ∀ σ',RS K ρ H σu' σ'->Q σ' H
noncomputable def tGs(is:List Nat):TGs:=λvs σ H Q => ∃ σu ρ us σu',RS K ρ H σu σ/\RVs K ρ H us vs/\bindL is us σu=some σu' /\ ∀ σ',RS K ρ H σu' σ'->Q σ' H
noncomputable def RI(ρ:List Addr)(H:Hp)(i:Iter)(J:It):Prop:=match i with
 | .lst n => ∃ a,ρ[n]? = some a/\J=Itl K a
 | .dic n => ∃ a o ws,ρ[n]? = some a/\H a=some (.frz o (.dT ws))/\J=Itd a o ws
 | .enm n => ∃ a,ρ[n]? = some a/\J=Ite K a
 | .seq us => ∃ a vs,(SqU K H a vs\/SqC K a vs)/\RVs K ρ H us vs/\J=Itt K a
 | .rng lo n=>J=Itr lo n
noncomputable def tI(W:XQ)(f:Su->G->Out Iter):TI:=λσ H R => ∃ σu ρ g,RS K ρ H σu σ/\RH K ρ H g/\post K W (RI K) (f σu g) ρ H R
end
theorem RI.step{K:KD}{ρ ρ':List Addr}{H H':Hp}{i:Iter}{J:It}(s:Stp K ρ H ρ' H')(h:RI K ρ H i J):RI K ρ' H' i J:=by
 cases i with
 | lst n=>obtain ⟨a,h1,h2⟩:=h;exact ⟨a,s.ext _ _ h1,h2⟩
 | dic n=>obtain ⟨a,o,ws,h1,h2,h3⟩:=h;exact ⟨a,o,ws,s.ext _ _ h1,s.frz _ _ _ h2,h3⟩
 | enm n=>obtain ⟨a,h1,h2⟩:=h;exact ⟨a,s.ext _ _ h1,h2⟩
 | seq us=>obtain ⟨a,vs,h1,h2,h3⟩:=h;exact ⟨a,vs,h1.imp_left (s.tup _ _),RVs.step s _ _ h2,h3⟩
 | rng lo n=>exact h
section
variable{X:Cx}{W:XQ}{C:Nat->List U->G->Out U}{r:L}{pos p2:Pos}{a b c e tg:Expr}{a' b' c' e':E}{t:Tg}
theorem oB{t:Tg}{u:U}{g:G}{σ σ1:Su}(h:az t u σ=some σ1):az t (unl t u g) σ=some σ1:=by
 cases t with
 | nm i=>exact h
 | tp is =>
  cases u with
  | ref n=>simp [az] at h
  | _=>exact h
noncomputable def Jc(K:KD)(n:Nat)(t:TGs):TG:=λv σ H Q => ∃ a xs,v=.ref a/\SqL K H a xs/\xs.length=n/\t xs σ H Q
theorem CO{es:List Expr}{k:Nat}{t:TGs}{n:Nat}(hc:X.calm=true)(h:PGs X es t)
  (hn:(assignEach es X.env).length=n) (hst:(assignEach es X.env).findIdx? (·.1)=none):PG X (.Tuple es k pos) (Jc X.K n t):=by
 intro pins s σ H v u Q I r hw;obtain ⟨a,xs,e1,hq,hl,hw⟩:=hw;subst e1;cases r;obtain ⟨its,rv,⟨o,m,e,hcls,hdic,hdat⟩,hz⟩:=I.list hq;have hL:s.heap.IsList a its.toArray:=⟨o,e,hcls,m,hdat⟩;rw [assign_Tuple];refine ZB (wpAny_standAt ?_);unfold unpack;have hlen:(assignEach es X.env).length=its.toArray.size:=by simp [hn,<-hl,rv.length]
 rw [hlen,hst];refine ZB (wpAny_holding (PySem.W.kun_itemsOf (I.ok.hd hc) hL λh' hx => ?_));have I1:Inv X pins σ H { s with heap:=h' }:=I.kept (t':=s.toks) λb o e=>hx b o (Kz (Kt e)) e
 exact h pins _ σ H xs _ Q I1 (by simpa using rv) hw
theorem Jp{i:Nat}{x:Str}(hN:X.N.Nodup)(hi:X.N[i]? = some x)(hx:Loc X.env.scope x)(hf:X.fn x=true\/X.env.scope.names.lookup x=some .local):PG X (.Name x pos) (tG X.K (.nm i)):=by
 intro pins s σ H v u Q I rv ⟨σu,ρ,g,w,σu',hs,hg,rw',e,q⟩;refine qK hN hi hx hf pins s σ H v u Q I rv ?_;simp only [unl,az] at e;split at e
 .cases e;exact q _ (hs.set rw')
 .cases e
theorem sgs_nil:PGs X [] (tGs X.K []):=by
 intro pins s σ H vs us Q I rv ⟨σu,ρ,ws,σu',hs,rw',e,q⟩;refine Cz pins s σ H vs us Q I rv ?_;cases ws with
 | nil=>cases rw';cases e;exact ⟨rfl,q _ hs⟩
 | cons _ _=>cases e
theorem A1{i:Nat}{is:List Nat}{x:Str}{ts:List Expr}(hN:X.N.Nodup)(hi:X.N[i]? = some x)(hx:Loc X.env.scope x)(hf:X.fn x=true\/X.env.scope.names.lookup x=some .local)(h:PGs X ts (tGs X.K is)):PGs X (.Name x pos :: ts) (tGs X.K (i :: is)):=by
 intro pins s σ H vs us Q I rv ⟨σu,ρ,ws,σu',hs,rw',e,q⟩;refine Bt (qK hN hi hx hf) h rfl pins s σ H vs us Q I rv ?_;cases ws with
 | nil=>cases e
 | cons w ws =>
  obtain ⟨v,vr,rfl,r1,r2⟩:=rw';simp only [bindL] at e;split at e
  .exact ⟨v,vr,rfl,_,ρ,ws,σu',hs.set r1,r2,e,q⟩
  .cases e
theorem jK:∀ {is:List Nat} {us:List U} {σ σ':Su},bindL is us σ=some σ'->us.length=is.length
 | [],[],_,_,_=>rfl
 | _ :: is,_ :: us,_,_,e=>by
  simp only [bindL] at e;split at e
  .simp [jK e]
  .cases e
 | [],_ :: _,_,_,e=>by simp [bindL] at e
 | _ :: _,[],_,_,e=>by simp [bindL] at e
theorem Ho{is:List Nat}{ts:List Expr}{k:Nat}(hc:X.calm=true)(h:PGs X ts (tGs X.K is))(hn:(assignEach ts X.env).length=is.length)(hst:(assignEach ts X.env).findIdx? (·.1)=none):PG X (.Tuple ts k pos) (tG X.K (.tp is)):=by
 intro pins s σ H v u Q I rv ⟨σu,ρ,g,w,σu',hs,hg,rw',e,q⟩;cases w with
 | tup us =>
  refine GC hc h hn hst pins s σ H v u Q I rv ?_;obtain ⟨a,vs,rfl,h1,h2⟩:=rw';have e':bindL is us σu=some σu':=e;exact ⟨a,vs,rfl,h1.sq,by rw [<-h2.length];exact jK e',σu,ρ,us,σu',hs,h2,e',q⟩
 | ref n =>
  simp only [unl] at e;cases eg:g[n]? with
  | none=>simp [eg,az] at e
  | some o =>
   cases o with
   | lst xs =>
    refine CO hc h hn hst pins s σ H v u Q I rv ?_;obtain ⟨a,vs,hr,hH,h2⟩:=hg.lst eg;obtain ⟨a',rfl,hr'⟩:=rw';rw [hr] at hr';cases hr';have e':bindL is xs σu=some σu':=by simpa [eg,az] using e
    exact ⟨a,vs,rfl,.of hH,by rw [<-h2.length];exact jK e',σu,ρ,xs,σu',hs,h2,e',q⟩
   | _=>simp [eg,az] at e
 | _=>simp [unl,az] at e
theorem Gg{l:Expr}{l':E}(hl:PE X l (tE X.K W (r.ev l'))):PI X tg l (tI X.K W (λσ g=>(r.ev l' σ g).bind λu g=>match u with
  | .tup xs=>Out.ok (Iter.seq xs) g
  | .xn _ xs=>Out.ok (Iter.seq xs) g
  | .ref n=>match g[n]? with
   | some (.lst _) => .ok (.lst n) g
   | some (.dic kvs) => .ok (.dic n) (g.set n (.dif kvs))
   | some (.dif _) => .ok (.dic n) g
   | _ => .bad
  | _ => .bad)):=by
 intro pins s σ H R I hp;have hp':tE X.K W (r.ev l') σ H (λx H1=>(∃ a,x=.ref a/\(∃ xs,SqL X.K H1 a xs)/\R (Itl X.K a) H1)\/(∃ a,x=.ref a/\(∃ xs,SqT X.K H1 a xs)/\R (Itt X.K a) H1)\/(∃ a ws,x=.ref a/\H1 a=some (.dT ws) /\ ∀ o,R (Itd a o ws) (upd H1 a (.frz o (.dT ws)))) \/ ∃ a o ws,x=.ref a/\H1 a=some (.frz o (.dT ws))/\R (Itd a o ws) H1):=by
  refine one (R:=RI X.K) hp λσu ρ H g u x hs hg r1 p => ?_;cases u with
  | tup us=>obtain ⟨a,vs,rfl,h1,h2⟩:=r1;exact .inr (.inl ⟨a,rfl,⟨vs,h1.sq⟩,post.okHere (R:=RI X.K) p hg ⟨a,vs,.inl h1,h2,rfl⟩⟩)
  | xn _ us=>obtain ⟨a,vs,rfl,h1,h2⟩:=r1;exact .inr (.inl ⟨a,rfl,⟨vs,h1.sq⟩,post.okHere (R:=RI X.K) p hg ⟨a,vs,.inr h1,h2,rfl⟩⟩)
  | ref n =>
   simp only [] at p;cases eg:g[n]? with
   | none=>simp only [eg] at p;exact p.elim
   | some o =>
    cases o with
    | lst us =>
     simp only [eg] at p;obtain ⟨q,vs,rfl,hn,t2,t3⟩:=dQ hg r1 eg;exact .inl ⟨q,rfl,⟨vs,.of t2⟩,post.okHere (R:=RI X.K) p hg ⟨q,hn,rfl⟩⟩
    | dic kvs =>
     simp only [eg] at p;obtain ⟨q,ws,hn,ha,rd⟩:=hg.dic eg;obtain ⟨q',rfl,hn'⟩:=r1;rw [hn] at hn';cases hn';refine .inr (.inr (.inl ⟨q,ws,rfl,ha,λo => ?_⟩));exact p _ ρ _ (Stp.writeO hn ha trivial) (hg.writeO hn ha trivial ⟨o,ws,rfl,rd⟩) ⟨q,o,ws,hn,upd_same,rfl⟩
    | dif kvs =>
     simp only [eg] at p;obtain ⟨q,o,ws,hn,ha,rd⟩:=hg.dif eg;obtain ⟨q',rfl,hn'⟩:=r1;rw [hn] at hn';cases hn';exact .inr (.inr (.inr ⟨q,o,ws,rfl,ha,post.okHere (R:=RI X.K) p hg ⟨q,o,ws,hn,ha,rfl⟩⟩))
    | dst _=>simp only [eg] at p;exact p.elim
    | ins _ _=>simp only [eg] at p;exact p.elim
  | _=>exact p.elim
 refine thn (hl pins s σ H _ I hp') λv s1 ⟨x,H1,I1,r1,q1⟩ => ?_;rcases q1 with ⟨a,e,⟨xs,hq⟩,q⟩ | ⟨a,e,⟨xs,hq⟩,q⟩ | ⟨a,ws,e,ha,q⟩ | ⟨a,o,ws,e,ha,q⟩
 .subst e
  cases r1;obtain ⟨its,rv,p,hz⟩:=I1.list hq;refine wpAny_pyIter_list p.isList ?_;refine ⟨s1.heap.objs.size,[s1.heap.objs.size],_,_,H1,rfl,I1.kept (t':=s1.toks) λb o e=>Ks _ e,AB a _,⟨_,KA _ rfl,rfl,rfl⟩,λb hb => ?_,q⟩;have e:b=s1.heap.objs.size:=by simpa using hb
  subst e;exact I1.fpOk (Kw _) (I1.hok.fresh (Kw _))
 .subst e
  cases r1;obtain ⟨its,rv,p,hz⟩:=I1.tuple hq;refine wpAny_pyIter_tuple (show s1.heap.IsTuple a its.toArray from p) ?_;refine ⟨s1.heap.objs.size,[s1.heap.objs.size],_,_,H1,rfl,I1.kept (t':=s1.toks) λb o e=>Ks _ e,zP a _,⟨_,KA _ rfl,rfl,rfl⟩,λb hb => ?_,q⟩;have e:b=s1.heap.objs.size:=by simpa using hb
  subst e;exact I1.fpOk (Kw _) (I1.hok.fresh (Kw _))
 .subst e
  cases r1;obtain ⟨o,I2⟩:=I1.freeze ha;exact wz I2 upd_same (q o)
 .subst e
  cases r1;exact wz I1 ha q
theorem PI.imp{iter:Expr}{t t':TI}(h:PI X tg iter t)(q:∀ σ H Q,t' σ H Q->t σ H Q):PI X tg iter t':=λpins s σ H Q I h'=>h pins s σ H Q I (q σ H Q h')
theorem EX{p tp:Pos}{elts:List Expr}{x1:Nat}(hg:Gl X "enumerate")(hm:X.mg "enumerate" = none)(ha:PE X a (tE X.K W (r.ev a')))(hs:∀ es,starEach (a :: es) X.env=(false,eval a X.env) :: starEach es X.env):
  PI X (.Tuple elts x1 tp) (.Call (.Name "enumerate" p) [a] [] pos) (tI X.K W (itF r (.enm a'))):=by
 refine PI.imp (Di hg hm (cS ha eF (hs _)) (hs _)) λσ H R hp=>one (R:=RI X.K) hp λσu ρ H g u x hs hg r1 p => ?_;cases ea:asL u g with
 | none=>simp only [ea] at p;exact p.elim
 | some n =>
  simp only [ea] at p;obtain ⟨rfl,us,eg⟩:=fP ea;obtain ⟨q,vs,rfl,hn,t2,t3⟩:=dQ hg r1 eg;exact ⟨q,rfl,⟨vs,.of t2⟩,post.okHere (R:=RI X.K) p hg ⟨q,hn,rfl⟩⟩
theorem Dc{p:Pos}(hg:Gl X "range")(hm:X.mg "range" = none)(ha:PE X a (tE X.K W (r.ev a')))(hs:∀ es,starEach (a :: es) X.env=(false,eval a X.env) :: starEach es X.env):
  PI X tg (.Call (.Name "range" p) [a] [] pos) (tI X.K W (itF r (.rng1 a'))):=by
 refine PI.imp (An hg hm (cS ha eF (hs _)) (hs _)) λσ H R hp=>one (R:=RI X.K) hp λσu ρ H g u x hs hg r1 p => ?_;cases u with
 | int j =>
  cases r1;simp only [] at p;split at p
  .rename_i hj
   exact ⟨j,rfl,by omega,by omega,post.okHere (R:=RI X.K) p hg rfl⟩
  .exact p.elim
 | _=>exact p.elim
theorem pP{ρ:List Addr}{H:Hp}{g:G}{it:Iter}{J:It}{i:Nat}(hg:RH X.K ρ H g)(ri:RI X.K ρ H it J)(e:next it i g=some none):J.stop i H:=by
 cases it with
 | lst n =>
  obtain ⟨a,h1,rfl⟩:=ri;simp only [next] at e;cases eg:g[n]? with
  | none=>simp [eg] at e
  | some o =>
   cases o with
   | lst us =>
    simp only [eg,Option.some.injEq] at e;obtain ⟨vs,t2,t3⟩:=eK hg h1 eg;exact ⟨vs,.of t2,List.getElem?_eq_none_iff.mp (t3.none_of e)⟩
   | dic _=>simp [eg] at e
   | dif _=>simp [eg] at e
   | dst _=>simp [eg] at e
   | ins _ _=>simp [eg] at e
 | dic n =>
  obtain ⟨a,o,ws,h1,h2,rfl⟩:=ri;simp only [next] at e;cases eg:g[n]? with
  | none=>simp [eg] at e
  | some ob =>
   cases ob with
   | dif kvs =>
    obtain ⟨a',o',ws',h1',h2',rd⟩:=hg.dif eg;rw [h1] at h1';cases h1';rw [h2] at h2';cases h2';simp only [eg,Option.some.injEq,Option.map_eq_none_iff] at e;exact ⟨h2,by rw [<-rd.len];exact List.getElem?_eq_none_iff.mp e⟩
   | _=>simp [eg] at e
 | enm n =>
  obtain ⟨a,h1,rfl⟩:=ri;simp only [next] at e;cases eg:g[n]? with
  | none=>simp [eg] at e
  | some o =>
   cases o with
   | lst us =>
    simp only [eg,Option.some.injEq,Option.map_eq_none_iff] at e;obtain ⟨vs,t2,t3⟩:=eK hg h1 eg;exact ⟨vs,.of t2,List.getElem?_eq_none_iff.mp (t3.none_of e)⟩
   | _=>simp [eg] at e
 | seq us =>
  obtain ⟨a,vs,h1,h2,rfl⟩:=ri;simp only [next,Option.some.injEq] at e;exact ⟨vs,h1.elim SqU.sq SqC.sq,List.getElem?_eq_none_iff.mp (h2.none_of e)⟩
 | rng lo n =>
  cases ri;simp only [next,Option.some.injEq] at e;split at e
  .cases e
  .rename_i h;exact Nat.le_of_not_lt h
theorem xq{ρ:List Addr}{H:Hp}{g:G}{it:Iter}{J:It}{i:Nat}{u:U}(hg:RH X.K ρ H g)(ri:RI X.K ρ H it J)(e:next it i g=some (some u)):J.go i H /\ ∀ x H',J.yld i H x H'->Stp X.K ρ H ρ H'/\RH X.K ρ H' g/\RV X.K ρ H' u x:=by
 have here:∀ {x:V} {H':Hp},H'=H->RV X.K ρ H u x->Stp X.K ρ H ρ H'/\RH X.K ρ H' g/\RV X.K ρ H' u x:=λe r=>by subst e;exact ⟨.refl,hg,r⟩
 cases it with
 | lst n =>
  obtain ⟨a,h1,rfl⟩:=ri;simp only [next] at e;cases eg:g[n]? with
  | none=>simp [eg] at e
  | some o =>
   cases o with
   | lst us =>
    simp only [eg,Option.some.injEq] at e;obtain ⟨vs,t2,t3⟩:=eK hg h1 eg;obtain ⟨v,ev,rv⟩:=t3.get e;refine ⟨⟨vs,v,.of t2,ev⟩,λx H' ⟨h1,h2⟩=>here h1 ?_⟩;have:=h2 vs (.of t2);rw [ev] at this;cases this;exact rv
   | dic _=>simp [eg] at e
   | dif _=>simp [eg] at e
   | dst _=>simp [eg] at e
   | ins _ _=>simp [eg] at e
 | dic n =>
  obtain ⟨a,o,ws,h1,h2,rfl⟩:=ri;simp only [next] at e;cases eg:g[n]? with
  | none=>simp [eg] at e
  | some ob =>
   cases ob with
   | dif kvs =>
    obtain ⟨a',o',ws',h1',h2',rd⟩:=hg.dif eg;rw [h1] at h1';cases h1';rw [h2] at h2';cases h2';simp only [eg,Option.some.injEq] at e;obtain ⟨⟨k,z⟩,e1,e2⟩:=Option.map_eq_some_iff.mp e;obtain ⟨v,ev,rv⟩:=rd.at e1;refine ⟨⟨h2,(List.getElem?_eq_some_iff.mp ev).1⟩,λx H' ⟨h3,b,k',v',ex,ek,hb⟩=>here h3 ?_⟩;rw [ev] at ek;cases ek;subst ex;subst e2;exact ⟨b,k.map V.int,rfl,by rw [List.map_map] at hb;exact hb,jx k⟩
   | _=>simp [eg] at e
 | enm n =>
  obtain ⟨a,h1,rfl⟩:=ri;simp only [next] at e;cases eg:g[n]? with
  | none=>simp [eg] at e
  | some o =>
   cases o with
   | lst us =>
    simp only [eg,Option.some.injEq] at e;obtain ⟨w,e1,e2⟩:=Option.map_eq_some_iff.mp e;obtain ⟨vs,t2,t3⟩:=eK hg h1 eg;obtain ⟨v,ev,rv⟩:=t3.get e1;refine ⟨⟨vs,v,.of t2,ev⟩,λx H' ⟨p,v',hp,ex,eH,all⟩ => ?_⟩;have:=all vs (.of t2);rw [ev] at this;cases this;subst ex;subst eH;subst e2;have sp:Stp X.K ρ H ρ (upd H p (.tup [.int i,v])):=Stp.fresh hp;exact ⟨sp,hg.step_fresh hp,p,[.int i,v],rfl,upd_same,.int i,[v],rfl,rfl,v,[],rfl,RV.step sp _ _ rv,rfl⟩
   | _=>simp [eg] at e
 | seq us =>
  obtain ⟨a,vs,h1,h2,rfl⟩:=ri;simp only [next,Option.some.injEq] at e;obtain ⟨v,ev,rv⟩:=h2.get e;have h1':SqT X.K H a vs:=h1.elim SqU.sq SqC.sq;refine ⟨⟨vs,v,h1',ev⟩,λx H' ⟨h3,h4⟩=>here h3 ?_⟩;have:=h4 vs h1';rw [ev] at this;cases this;exact rv
 | rng lo n =>
  cases ri;simp only [next,Option.some.injEq] at e;split at e
  .rename_i h
   cases e;exact ⟨h,λx H' ⟨h1,h2⟩=>here h1 h2⟩
  .cases e
variable{st:Stmt}{rest:List Stmt}{s':S}{rest':List S}
theorem GY:PSs X [] (tSt X.K W (exF r [])):=CZ.imp λD σ H ⟨σu,ρ,g,hs,hg,p⟩=>p σ ρ H .refl hg hs
theorem Ct(h1:PS X st (tSt X.K W (s1F r s')))(h2:PSs X rest (tSt X.K W (r.ex rest'))):PSs X (st :: rest) (tSt X.K W (exF r (s' :: rest'))):=by
 refine (Bf h1 h2).imp λD σ H ⟨σu,ρ,g,hs,hg,p⟩=>⟨σu,ρ,g,hs,hg,?_⟩;revert p;simp only [exF];cases s1F r s' σu g with
 | ok f g1 =>
  cases f with
  | nx σ1=>exact λp σ2 ρ2 H2 s2 h2 hs2=>⟨σ1,ρ2,g1,hs2,h2,postS.from (o:=r.ex rest' σ1 g1) p s2⟩
  | rt u=>exact λp=>p
  | bk σ1=>exact λp=>p
  | ct σ1=>exact λp=>p
 | exc c fs g1=>exact λp=>p
 | bad=>exact λp=>p
theorem jc{f:Su->G->Out U}{k:Su->U->G->Out Fl}{σ:L2.St}{H:Hp}{D:Ends}{Q2:V->Hp->Prop}
  (hp:∃ σu ρ g,RS X.K ρ H σu σ/\RH X.K ρ H g/\postS X.K W ((f σu g).bind λx g=>k σu x g) ρ H D)
  (imp:∀ σu ρ H g u x,RS X.K ρ H σu σ->RH X.K ρ H g->RV X.K ρ H u x->postS X.K W (k σu u g) ρ H D->Q2 x H):tE X.K W f σ H Q2:=by
 obtain ⟨σu,ρ,g,hs,hg,p⟩:=hp;exact ⟨σu,ρ,g,hs,hg,(postS.bind p).mono λx H1 ⟨ρ1,u,g1,s1,h1,r1,p1⟩=>imp σu ρ1 H1 g1 u x (hs.step s1) h1 r1 p1⟩
theorem F5(h:PE X e (tE X.K W (r.ev e'))):PS X (.Return (some e) pos) (tSt X.K W (s1F r (.ret e'))) :=
 (FQ h).imp λD σ H hp=>jc hp λσu ρ H g u x hs hg r1 p=>p x ρ H .refl hg r1
theorem FU(h:PE X e (tE X.K W (r.ev e')))(hs:swapsWith e none pos.line X.env=pure false):PS X (.Expr e pos) (tSt X.K W (s1F r (.exp e'))) :=
 (DU h hs).imp λD σ H hp=>jc hp λσu ρ H g u x hs hg r1 p=>p _ ρ H .refl hg hs
theorem D0{v:V}{u:U}{σu:Su}{σ:L2.St}{ρ:List Addr}{H:Hp}{g:G}{D:Ends}(hs:RS X.K ρ H σu σ)(hg:RH X.K ρ H g)(rv:RV X.K ρ H u v)(p:postS X.K W (match az t (unl t u g) σu with | some σ'=>Out.ok (.nx σ') g | none => .bad) ρ H D):tG X.K t v σ H D.nx:=by
 cases e:az t (unl t u g) σu with
 | none=>simp only [e] at p;exact p.elim
 | some σ1=>simp only [e] at p;exact ⟨σu,ρ,g,u,σ1,hs,hg,rv,e,λσ' hs'=>p σ' ρ H .refl hg hs'⟩
theorem rZ(h:PE X e (tE X.K W (r.ev e')))(hg:PG X tg (tG X.K t))(hs:swapsWithSole [tg] e pos.line X.env=pure false)(hw:swappedStores [tg] e X.env=pure none)(h1:(assignEach [tg] X.env).map (·.2)=[assign tg X.env]):
  PS X (.Assign [tg] e pos) (tSt X.K W (s1F r (.set t e'))) :=
 (u6 h hg hs hw h1).imp λD σ H hp=>jc hp λσu ρ H g u x hs hg r1 p=>D0 hs hg r1 p
theorem Ek{i:Nat}{x:Str}{pos':Pos}(hN:X.N.Nodup)(hi:X.N[i]? = some x)(hx:Loc X.env.scope x)(hf:X.fn x=true\/X.env.scope.names.lookup x=some .local)(h:PE X e (tE X.K W (r.ev e')))(hs:swapsWith e (some (.Name x pos')) pos.line X.env=pure false):
  PS X (.Assign [.Name x pos'] e pos) (tSt X.K W (s1F r (.set (.nm i) e'))) :=
 (Ex hN hi hx h hs hf).imp λD σ H hp=>jc hp λσu ρ H g u x hs hg r1 p=>by
  simp only [unl,az] at p;by_cases hl:i < σu.length
  .rw [if_pos hl] at p;exact p _ ρ H .refl hg (hs.set r1)
  .rw [if_neg hl] at p;exact p.elim
theorem Hh{i j:Nat}{x y:Str}{px py pt:Pos}{kt k2 pt2}(hc:X.calm=true)(hN:X.N.Nodup)(hi:X.N[i]? = some x)(hj:X.N[j]? = some y)(hij:i≠j)
  (hx:X.env.scope.names.lookup x=some .local) (hy:X.env.scope.names.lookup y=some .local) (ha:PE X a (tE X.K W (r.ev a'))) (hb:PE X b (tE X.K W (r.ev b'))) (hsa:∀ es,starEach (a :: es) X.env=(false,eval a X.env) :: starEach es X.env) (hsb:∀ es,starEach (b :: es) X.env=(false,eval b X.env) :: starEach es X.env)
  (hw:swappedStores [.Tuple [.Name x px,.Name y py] kt pt] (.Tuple [a,b] k2 pt2) X.env=pure (some [x,y])) :
  PS X (.Assign [.Tuple [.Name x px,.Name y py] kt pt] (.Tuple [a,b] k2 pt2) pos) (tSt X.K W (s1F r (.par i j a' b'))):=by
 refine (Gx hc hN hi hj hij hx hy (cS ha (cS hb eF (hsb _)) (hsa _)) hw rfl).imp λD σ H ⟨σu,ρ,g,hs,hg,p⟩ => ?_;refine ⟨σu,ρ,g,hs,hg,(postS.bind p).mono λv H1 ⟨ρ1,u,g1,s1,h1,r1,p1⟩ => ?_⟩;refine ⟨σu,ρ1,g1,hs.step s1,h1,(postS.bind p1).mono λw H2 ⟨ρ2,u2,g2,s2,h2,r2,p2⟩ => ?_⟩;split at p2
 .exact ⟨v,w,rfl,p2 _ ρ2 H2 .refl h2 ((((hs.step s1).step s2).set (RV.step s2 _ _ r1)).set r2)⟩
 .exact p2.elim
theorem Hi{o i:Expr}{o' i':E}{spos:Pos}(hu:X.A.units+1 < cLine)(h:PE X e (tE X.K W (r.ev e')))(ho:PE X o (tE X.K W (r.ev o')))(hi:PE X i (tE X.K W (r.ev i')))(hs:swapsWithSole [.Subscript o i spos] e pos.line X.env=pure false)(hw:swappedStores [.Subscript o i spos] e X.env=pure none)
  (ha:∀ v,assign (.Subscript o i spos) X.env v=(do
   let ov <- holding [v] (eval o X.env)
   let iv <- holding [v,ov] (eval i X.env)
   standAt spos
   holding [v,ov,iv] (setItem ov iv v)
   release [v,ov,iv] [])):PS X (.Assign [.Subscript o i spos] e pos) (tSt X.K W (s1F r (.sub o' i' e'))):=by
 refine (u6 h (Fv ho hi (Cj set_list (set_dict hu)) ha) hs hw rfl).imp λD σ H ⟨σu,ρ,g,hs,hg,p⟩ => ?_;refine ⟨σu,ρ,g,hs,hg,(postS.bind p).mono λv H1 ⟨ρ1,u,g1,s1,h1,r1,p1⟩ => ?_⟩;refine ⟨σu,ρ1,g1,hs.step s1,h1,(postS.bind p1).mono λw H2 ⟨ρ2,u2,g2,s2,h2,r2,p2⟩ => ?_⟩;refine ⟨σu,ρ2,g2,(hs.step s1).step s2,h2,(postS.bind p2).mono λz H3 ⟨ρ3,u3,g3,s3,h3,r3,p3⟩ => ?_⟩;cases u2 with
 | ref n =>
  cases u3 with
  | int k =>
   cases r3;simp only [subAt,lF] at p3;cases eg:g3[n]? with
   | none=>simp only [eg] at p3;exact p3.elim
   | some ob =>
    cases ob with
    | lst us =>
     simp only [eg] at p3;obtain ⟨q,vs,rfl,hn,t2,t3⟩:=dQ h3 (RV.step s3 _ _ r2) eg;cases ej:ixN us.length k with
     | none=>simp only [ej] at p3;exact p3.elim
     | some j =>
      simp only [ej] at p3;have rv:=RV.step s3 _ _ (RV.step s2 _ _ r1);exact .inl ⟨q,vs,k,j,rfl,rfl,t2,by rw [<-t3.length];exact ej,p3 _ ρ3 _ (Stp.write hn t2) (h3.write hn t2 (t3.set rv j)) ((((hs.step s1).step s2).step s3).step (Stp.write hn t2))⟩
    | dic _=>simp only [eg] at p3;exact p3.elim
    | dif _=>simp only [eg] at p3;exact p3.elim
    | dst _=>simp only [eg] at p3;exact p3.elim
    | ins _ _=>simp only [eg] at p3;exact p3.elim
  | tup us =>
   simp only [subAt,lr] at p3;cases eg:g3[n]? with
   | none=>simp only [eg] at p3;exact p3.elim
   | some ob =>
    cases ob with
    | dic kvs =>
     simp only [eg] at p3;cases ek:intsOf us with
     | none=>simp only [ek] at p3;exact p3.elim
     | some k =>
      simp only [ek] at p3;by_cases hl:kvs.length < aj
      .rw [if_pos hl] at p3
       obtain ⟨q,ws,hn,ha,rd⟩:=h3.dic eg;obtain ⟨q',rfl,hn'⟩:=RV.step s3 _ _ r2;rw [hn] at hn';cases hn';obtain ⟨b,rfl,hb⟩:=iL (x := .tup us) (k:=k) ek r3;have rv:=RV.step s3 _ _ (RV.step s2 _ _ r1);refine .inr ⟨q,_,rfl,DPut.t ha hb ?_,p3 _ ρ3 _ (Stp.writeO hn ha trivial) (h3.writeO hn ha trivial ⟨_,rfl,rd.put rv⟩) ((((hs.step s1).step s2).step s3).step (Stp.writeO hn ha trivial))⟩;rw [<-rd.len,sizeLine_eq];unfold aj at hl;omega
      .rw [if_neg hl] at p3;exact p3.elim
    | lst _=>simp only [eg] at p3;exact p3.elim
    | dif _=>simp only [eg] at p3;exact p3.elim
    | dst _=>simp only [eg] at p3;exact p3.elim
    | ins _ _=>simp only [eg] at p3;exact p3.elim
  | str k =>
   simp only [subAt,xW] at p3;cases eg:g3[n]? with
   | none=>simp only [eg] at p3;exact p3.elim
   | some ob =>
    cases ob with
    | dst kvs =>
     simp only [eg] at p3;by_cases hl:kvs.length < aj
     .rw [if_pos hl] at p3
      obtain ⟨q,ws,hn,ha,rk⟩:=h3.dst eg;obtain ⟨q',rfl,hn'⟩:=RV.step s3 _ _ r2;rw [hn] at hn';cases hn';cases r3;have rv:=RV.step s3 _ _ (RV.step s2 _ _ r1);refine .inr ⟨q,_,rfl,DPut.k (k:=Sum.inr k) ha ?_,p3 _ ρ3 _ (Stp.writeO hn ha trivial) (h3.writeO hn ha trivial ⟨_,rfl,rk.put rv⟩) ((((hs.step s1).step s2).step s3).step (Stp.writeO hn ha trivial))⟩;rw [<-rk.len,sizeLine_eq];unfold aj at hl;omega
     .rw [if_neg hl] at p3;exact p3.elim
    | _=>simp only [eg] at p3;exact p3.elim
  | _=>exact False.elim p3
 | _=>exact False.elim p3
theorem Ij{as bs:List Stmt}{as' bs':List S}(hc:PT X c (tT X.K W (r.ts c')))(ha:PSs X as (tSt X.K W (r.ex as')))(hb:PSs X bs (tSt X.K W (r.ex bs'))):PS X (.If c as bs pos) (tSt X.K W (s1F r (.ife c' as' bs'))):=by
 refine (IJ hc ha hb).imp λD σ H ⟨σu,ρ,g,hs,hg,p⟩ => ?_;refine ⟨σu,ρ,g,hs,hg,(postS.bind (R:=REq) p).mono λk H1 ⟨ρ1,k',g1,s1,h1,e1,p1⟩ => ?_⟩;subst e1;cases k' with
 | true=>exact dt ⟨σu,ρ1,g1,hs.step s1,h1,p1⟩
 | false=>exact dm ⟨σu,ρ1,g1,hs.step s1,h1,p1⟩
theorem vf{o:Out Fl}{k:Su->G->Out Fl}{ρ:List Addr}{H:Hp}{D:Ends}{N:L2.St->Hp->Prop}
  (p:postS X.K W (o.bind λf g=>match f with | .nx σ'=>k σ' g | .ct σ'=>k σ' g | .bk σ' => .ok (.nx σ') g | .rt u => .ok (.rt u) g) ρ H D)
  (hN:∀ σ1 g1 σ ρ' H',Stp X.K ρ H ρ' H'->RH X.K ρ' H' g1->RS X.K ρ' H' σ1 σ->postS X.K W (k σ1 g1) ρ' H' D->N σ H'):postS X.K W o ρ H { D with nx:=N,ct:=N,bk:=D.nx }:=by
 cases o with
 | ok f g =>
  cases f with
  | nx σ1=>exact λσ ρ' H' s h hs=>hN σ1 g σ ρ' H' s h hs (postS.from (o:=k σ1 g) p s)
  | ct σ1=>exact λσ ρ' H' s h hs=>hN σ1 g σ ρ' H' s h hs (postS.from (o:=k σ1 g) p s)
  | bk σ1=>exact p
  | rt u=>exact p
 | exc c fs g=>exact p
 | bad=>exact p
theorem G5{bs:List Stmt}{bs':List S}{n:Nat}(hp:PassesOwn (model X.prog X.w) X.A X.env X.xe)(hc:∀ n,PT X c (tT X.K W ((lev C n).ts c')))(hb:∀ n,PSs X bs (tSt X.K W ((lev C n).ex bs'))):
  PS X (.While c bs [] pos) (tSt X.K W (s1F (lev C n) (.whl c' bs'))):=by
 intro pins s σ H D I hw;have key:∀ m σ H,(∃ σu ρ g,RS X.K ρ H σu σ/\RH X.K ρ H g/\postS X.K W ((lev C m).wh c' bs' σu g) ρ H D) -> ∃ m',m=m'+1:=λm σ H ⟨σu,ρ,g,_,_,p⟩=>by
  cases m with
  | zero=>exact p.elim
  | succ m'=>exact ⟨m',rfl⟩
 refine wpAny_While (codeAny_whileLoop (λn s' => ∃ σ' H',L2.Inv X pins σ' H' s' /\ ∃ σu ρ g,RS X.K ρ H' σu σ'/\RH X.K ρ H' g/\postS X.K W ((lev C n).wh c' bs' σu g) ρ H' D) ?_ n ⟨σ,H,I,hw⟩);rintro n s1 ⟨σ1,H1,I1,w1⟩;obtain ⟨m,rfl⟩:=key n σ1 H1 w1;obtain ⟨σu,ρ,g,hs,hg,p⟩:=w1;refine wpAny_passesOwn hp (thn (hc m pins s1 σ1 H1 (λb H2=>if b=true then tSt X.K W ((lev C m).ex bs') { D with nx:=λσ' H' => ∃ σu ρ g,RS X.K ρ H' σu σ'/\RH X.K ρ H' g/\postS X.K W ((lev C m).wh c' bs' σu g) ρ H' D,ct:=λσ' H' => ∃ σu ρ g,RS X.K ρ H' σu σ'/\RH X.K ρ H' g/\postS X.K W ((lev C m).wh c' bs' σu g) ρ H' D,bk:=D.nx } σ1 H2 else D.nx σ1 H2) I1 ?_) λb s2 ⟨H2,I2,q2⟩ => ?_)
 .refine ⟨σu,ρ,g,hs,hg,(postS.bind (R:=REq) p).mono λk H1 ⟨ρ1,k',g1,s1,h1,e1,p1⟩ => ?_⟩
  subst e1;cases k' with
  | true=>exact dt ⟨σu,ρ1,g1,hs.step s1,h1,vf (k:=λσ' g=>(lev C m).wh c' bs' σ' g) p1 λσ2 g2 σ ρ' H' s2 h2 hs2 p2=>⟨σ2,ρ',g2,hs2,h2,p2⟩⟩
  | false=>exact dm (p1 _ ρ1 _ .refl h1 (hs.step s1))
 .cases b with
  | true =>
   rw [if_pos rfl] at q2;rw [if_pos rfl];refine wpAny_passesOwn hp (thn (hb m pins s2 σ1 H2 _ I2 q2) λf s3 q3 => ?_);cases f with
   | next =>
    obtain ⟨σ3,H3,I3,n3⟩:=q3;exact ⟨m,Nat.lt_succ_self _,σ3,H3,I3,n3⟩
   | cont =>
    obtain ⟨σ3,H3,I3,n3⟩:=q3;exact ⟨m,Nat.lt_succ_self _,σ3,H3,I3,n3⟩
   | brk=>exact q3
   | ret v=>exact q3
  | false =>
   rw [if_neg Kv] at q2;rw [if_neg Kv];exact wpAny_execs_nil ⟨σ1,H2,I2,q2⟩
end
section
variable{K:KD}{ρ ρ0:List Addr}{H H0:Hp}{g:G}{D:Addr}{o1 o2:HO}
theorem Stp.accum(s:Stp K ρ0 H0 ρ H)(h0:H0 D=none)(hD:H D=some o1)(hm:cN o1):Stp K ρ0 H0 ρ (upd H D o2) where
 ext:=s.ext
 new:=s.new
 oth:=λa o h hn=>by rw [ar (bF h h0)];exact s.oth a o h hn
 live:=λa h=>by
  by_cases e:a=D
  .subst e;rw [upd_same];simp
  .rw [ar e];exact s.live a h
 tup:=λa xs h=>cF (s.tup a xs h) (.inr ⟨_,hD,hm⟩)
 fro:=λa xs h=>cD (s.fro a xs h) (.inr ⟨_,hD,hm⟩)
 frz:=λa ob u h=>by rw [ar (eV (s.frz a ob u h) hD (by rintro rfl;exact hm))];exact s.frz a ob u h
theorem RV.accum(hD:H D=some o1)(hm:cN o1){u:U}{v:V}(h:RV K ρ H u v):RV K ρ (upd H D o2) u v:=RV.mono (λ_ _ e=>e) (λ_ _ h=>cF h (.inr ⟨_,hD,hm⟩)) (λ_ _ h=>cD h (.inr ⟨_,hD,hm⟩)) u v h
theorem RVs.accum(hD:H D=some o1)(hm:cN o1){u:List U}{v:List V}(h:RVs K ρ H u v):RVs K ρ (upd H D o2) u v:=RVs.mono (λ_ _ e=>e) (λ_ _ h=>cF h (.inr ⟨_,hD,hm⟩)) (λ_ _ h=>cD h (.inr ⟨_,hD,hm⟩)) u v h
theorem RH.accum(h:RH K ρ H g)(hD:H D=some o1)(hm:cN o1)(hn:D ∉ ρ):RH K ρ (upd H D o2) g where
 len:=h.len
 inj:=h.inj
 obj:=λn a o h1 h2=>by
  have q:=h.obj n a o h1 h2;have ne:a≠D:=λe=>hn (e ▸ List.mem_iff_getElem?.mpr ⟨n,h1⟩);obtain ⟨ho,e,r⟩:=q;exact ⟨ho,by rw [ar ne];exact e,r.mono (λ_ _ e=>e) (λ_ _ h=>cF h (.inr ⟨_,hD,hm⟩)) (λ_ _ h=>cD h (.inr ⟨_,hD,hm⟩))⟩
theorem RH.named{ob:O}(h:RH K ρ H g)(hD:H D=some o1)(hn:D ∉ ρ)(r:RHO K ρ H ob o1):RH K (ρ++[D]) H (g++[ob]):=by
 have up:∀ (n:Nat) (a:Addr),ρ[n]? = some a->(ρ++[D])[n]? = some a:=λn a e=>by rw [List.getElem?_append_left (List.getElem?_eq_some_iff.mp e).1];exact e
 have key:∀ k b,(ρ++[D])[k]? = some b->(k < ρ.length/\ρ[k]? = some b)\/(k=ρ.length/\b=D):=λk b e=>by
  by_cases hk:k < ρ.length
  .rw [List.getElem?_append_left hk] at e;exact .inl ⟨hk,e⟩
  .rw [List.getElem?_append_right (by omega)] at e
   cases hd:k - ρ.length with
   | zero=>rw [hd] at e;exact .inr ⟨by omega,by simpa using e.symm⟩
   | succ m=>rw [hd] at e;simp at e
 have noD:∀ k:Nat,ρ[k]? ≠ some D:=λk e=>hn (List.mem_iff_getElem?.mpr ⟨k,e⟩);refine ⟨by simp [h.len],λi j a h1 h2 => ?_,λn a o h1 h2 => ?_⟩
 .rcases key i a h1 with ⟨_,e1⟩ | ⟨e1,e1'⟩
  .rcases key j a h2 with ⟨_,e2⟩ | ⟨e2,e2'⟩
   .exact h.inj i j a e1 e2
   .subst e2';exact absurd e1 (noD i)
  .rcases key j a h2 with ⟨_,e2⟩ | ⟨e2,e2'⟩
   .subst e1';exact absurd e2 (noD j)
   .omega
 .rcases key n a h1 with ⟨hl,e1⟩ | ⟨e1,e1'⟩
  .rw [List.getElem?_append_left (by rw [<-h.len];exact hl)] at h2
   have q:=h.obj n a o e1 h2;obtain ⟨ho,e,r'⟩:=q;exact ⟨ho,e,r'.mono up (λ_ _ h=>h) (λ_ _ h=>h)⟩
  .subst e1'
   rw [List.getElem?_append_right (by rw [<-h.len];omega),<-h.len,e1] at h2
   have e2:o=ob:=by simpa using h2.symm
   subst e2;exact ⟨_,hD,r.mono up (λ_ _ h=>h) (λ_ _ h=>h)⟩
theorem Stp.named(s:Stp K ρ0 H0 ρ H)(h0:H0 D=none):Stp K ρ0 H0 (ρ++[D]) H where
 ext:=λn a h=>by have:=s.ext n a h;rw [List.getElem?_append_left (List.getElem?_eq_some_iff.mp this).1];exact this
 new:=λn a h=>by
  by_cases hk:n < ρ.length
  .rw [List.getElem?_append_left hk] at h;exact s.new n a h
  .rw [List.getElem?_append_right (by omega)] at h
   cases hd:n - ρ.length with
   | zero =>
    rw [hd] at h;have e:a=D:=by simpa using h.symm
    subst e;exact .inr h0
   | succ m=>rw [hd] at h;simp at h
 oth:=s.oth
 live:=s.live
 tup:=s.tup
 fro:=s.fro
 frz:=s.frz
theorem gM{ρ':List Addr}{H':Hp}(s:Stp K ρ H ρ' H')(hn:D ∉ ρ)(hD:H D=some o1):D ∉ ρ':=λhm=>by
 obtain ⟨n,e⟩:=List.mem_iff_getElem?.mp hm;rcases s.new n D e with q | q
 .exact hn (List.mem_iff_getElem?.mpr ⟨n,q⟩)
 .rw [hD] at q;cases q
theorem RS.unbind{t:Tg}{u:U}{σu σ1:Su}{σ:L2.St}(hf:bA t σu=true)(hb:az t u σu=some σ1)(h:RS K ρ H σ1 σ):RS K ρ H σu σ:=by
 have one:∀ (i:Nat) (w:U) (τ:Su),(match τ[i]? with | some none=>true | _=>false)=true -> ∀ (j:Nat) (z:U),τ[j]? = some (some z)->(τ.set i (some w))[j]? = some (some z):=λi w τ hi j z e=>by
  by_cases hj:j=i
  .subst hj;rw [e] at hi;cases hi
  .rw [List.getElem?_set_ne (Ne.symm hj)];exact e
 cases t with
 | nm i =>
  simp only [az] at hb;split at hb
  .cases hb
   exact ⟨by have:=h.len;simpa using this,λj z e=>h.val j z (one i u σu hf j z e)⟩
  .cases hb
 | tp is =>
  cases u with
  | tup us =>
   have hb':bindL is us σu=some σ1:=hb;have all:∀ (is:List Nat) (us:List U) (τ τ1:Su),(∀ i∈is,∀ z,σu[i]? ≠ some (some z))->(∀ (j:Nat) (z:U),σu[j]? = some (some z)->τ[j]? = some (some z))->bindL is us τ=some τ1->τ1.length=τ.length /\ ∀ (j:Nat) (z:U),σu[j]? = some (some z)->τ1[j]? = some (some z):=λis=>by
    induction is with
    | nil =>
     intro us τ τ1 _ hτ e;cases us with
     | nil=>cases e;exact ⟨rfl,hτ⟩
     | cons _ _=>cases e
    | cons i is ih =>
     intro us τ τ1 hi hτ e;cases us with
     | nil=>cases e
     | cons w us =>
      simp only [bindL] at e;split at e
      .obtain ⟨h1,h2⟩:=ih us _ τ1 (λk hk=>hi k (Kx _ hk)) (λj z ej=>by
        have hj:j≠i:=λq=>hi i List.mem_cons_self z (q ▸ ej);rw [List.getElem?_set_ne (Ne.symm hj)];exact hτ j z ej) e
       exact ⟨by rw [h1];simp,h2⟩
      .cases e
   have hi:∀ i∈is,∀ z,σu[i]? ≠ some (some z):=λi hm z e=>by
    have:=List.all_eq_true.mp hf i hm;rw [e] at this;cases this
   obtain ⟨h1,h2⟩:=all is us σu σ1 hi (λ_ _ e=>e) hb';exact ⟨by rw [<-h1];exact h.len,λj z e=>h.val j z (h2 j z e)⟩
  | _=>simp [az] at hb
theorem hX{α β:Type}{o:Out α}{k:α->G->Out β}{b:β}{g':G}(h:o.bindB k=.ok b g'):∃ a g1,o=.ok a g1/\k a g1=.ok b g':=by
 cases o with
 | ok a g1=>exact ⟨a,g1,rfl,h⟩
 | exc _ _ _=>cases h
 | bad=>cases h
end
section
variable{X:Cx}{C:Nat->List U->G->Out U}
noncomputable abbrev ifsT(ifs:List Expr)(env:Env):Sem Bool:=forIn ifs true λc r=>if r=true then do let ok <- isTrue c env (eval c env);pure (ForInStep.yield ok) else pure (ForInStep.yield r)
theorem ox{env:Env}{M:Model}{A:Around}{E:Value->Shared->Prop}{Q:Bool->Shared->Prop}{s:Shared}(h:Q false s):∀ ifs:List Expr,wpAny M A (forIn ifs false λc r=>if r=true then do let ok <- isTrue c env (eval c env);pure (ForInStep.yield ok) else pure (ForInStep.yield r)) Q E s
 | []=>ZP h
 | c :: cs=>by
  simp only [List.forIn_cons,Bool.false_eq_true,if_false];exact ZB (ZP (ox h cs))
noncomputable def PTs(X:Cx)(ifs:List Expr)(f:Su->G->Out Bool):Prop :=
 ∀ (pins:List (Addr×Obj)) (s:Shared) (σ:L2.St) (H:Hp) (Q:Bool->Hp->Prop),L2.Inv X pins σ H s->tT X.K W0' f σ H Q->wpAny (model X.prog X.w) X.A (ifsT ifs X.env) (TP X pins σ Q) X.xe s
where W0':XQ:=λ_ _ _=>False
theorem BQ{r:L}:PTs X [] (aT r.ts []):=λpins s σ H Q I ⟨σu,ρ,g,hs,hg,p⟩=>ZP ⟨H,I,post.okHere (R:=REq) p hg rfl⟩
theorem BI{r:L}{c:Expr}{c':E}{cs:List Expr}{cs':List E}(hc:PT X c (tT X.K PTs.W0' (r.ts c')))(hcs:PTs X cs (aT r.ts cs')):PTs X (c :: cs) (aT r.ts (c' :: cs')):=by
 intro pins s σ H Q I ⟨σu,ρ,g,hs,hg,p⟩;unfold ifsT;simp only [List.forIn_cons,if_true];refine ZB (ZB (thn (hc pins s σ H (λk H1=>if k=true then tT X.K PTs.W0' (aT r.ts cs') σ H1 Q else Q false H1) I ⟨σu,ρ,g,hs,hg,(post.bind (R:=REq) p).mono λk H1 ⟨ρ1,k',g1,s1,h1,e1,p1⟩ => ?_⟩) λk s1 ⟨H1,I1,q1⟩ => ?_))
 .subst e1
  cases k' with
  | true=>exact dt ⟨σu,ρ1,g1,hs.step s1,h1,p1⟩
  | false=>exact dm (post.okHere (R:=REq) p1 h1 rfl)
 .cases k with
  | true=>rw [if_pos rfl] at q1;exact ZP (hcs pins s1 σ H1 Q I1 q1)
  | false=>rw [if_neg Kv] at q1;exact ZP (ox ⟨H1,I1,q1⟩ cs)
structure Mon(K:KD)(ρ:List Addr)(H:Hp)(ρ':List Addr)(H':Hp):Prop where
 ext:∀ (n:Nat) (a:Addr),ρ[n]? = some a->ρ'[n]? = some a
 tup:∀ a xs,SqU K H a xs->SqU K H' a xs
 fro:∀ a xs,SqF K H a xs->SqF K H' a xs
 frz:∀ a o u,H a=some (.frz o u)->H' a=some (.frz o u)
theorem Stp.mon{K:KD}{ρ ρ':List Addr}{H H':Hp}(s:Stp K ρ H ρ' H'):Mon K ρ H ρ' H':=⟨s.ext,s.tup,s.fro,s.frz⟩
theorem Mon.trans{K:KD}{ρ ρ' ρ'':List Addr}{H H' H'':Hp}(a:Mon K ρ H ρ' H')(b:Mon K ρ' H' ρ'' H''):Mon K ρ H ρ'' H'':=⟨λn x h=>b.ext n x (a.ext n x h),λx xs h=>b.tup x xs (a.tup x xs h),λx xs h=>b.fro x xs (a.fro x xs h),λx o u h=>b.frz x o u (a.frz x o u h)⟩
theorem RI.mon{K:KD}{ρ ρ':List Addr}{H H':Hp}{i:Iter}{J:It}(s:Mon K ρ H ρ' H')(h:RI K ρ H i J):RI K ρ' H' i J:=by
 cases i with
 | lst n=>obtain ⟨a,h1,h2⟩:=h;exact ⟨a,s.ext _ _ h1,h2⟩
 | dic n=>obtain ⟨a,o,ws,h1,h2,h3⟩:=h;exact ⟨a,o,ws,s.ext _ _ h1,s.frz _ _ _ h2,h3⟩
 | enm n=>obtain ⟨a,h1,h2⟩:=h;exact ⟨a,s.ext _ _ h1,h2⟩
 | seq us=>obtain ⟨a,vs,h1,h2,h3⟩:=h;exact ⟨a,vs,h1.imp_left (s.tup _ _),RVs.mono s.ext s.tup s.fro _ _ h2,h3⟩
 | rng lo n=>exact h
noncomputable def cG(X:Cx)(C:Nat->List U->G->Out U):List Comprehension->List (Tg×E×List E)->Prop
 | [],[]=>True
 | g :: r,(t,it',cs) :: r'=>g.is_async=0/\PG X g.target (tG X.K t)/\(∀ n,PTs X g.ifs (aT (lev C n).ts cs))/\(∀ n,PI X g.target g.iter (tI X.K PTs.W0' (itF (lev C n) it')))/\(∀ x,foldedSetIterable g.iter X.env x=pure x)/\cG X C r r'
 | _,_=>False
set_option genInjectivity false in
inductive CK where | lst (elt:Expr) | dic (k v:Expr)
noncomputable def CK.exp(c:CK)(gens:List Comprehension)(scope:Scope)(pos:Pos):Expr:=match c with
 | .lst elt => .ListComp elt gens scope pos
 | .dic k v => .DictComp k v gens scope pos
noncomputable def CK.emit(c:CK)(acc:Value)(env:Env):Sem Unit:=match c with
 | .lst elt=>(do let _ <- call (.builtin "list.append") [acc,<-eval elt env])
 | .dic k v=>(do
   let kv <- eval k env
   let vv <- holding [kv] (eval v env)
   match acc with
   | .ref d=>do
    standAt { k.pos with endLine:=v.pos.endLine,endCol:=v.pos.endCol }
    holding [kv,vv] (dictSet d kv vv)
   | _=>unsupported "internal:dictcomp")
noncomputable def CK.new(c:CK):Sem Value:=match c with
 | .lst _=>newList []
 | .dic _ _=>newDict
noncomputable def CK.obj(c:CK):Obj:=match c with
 | .lst _=>{ cls := .type "list",dict:=none,data := .seq ([]:List Value).toArray }
 | .dic _ _=>{ cls := .type "dict",data := .dict #[] }
noncomputable def CK.ini(c:CK):HO:=match c with
 | .lst _ => .lst []
 | .dic _ _ => .dT []
noncomputable def CK.ho(K:KD)(ρ:List Addr)(H:Hp)(c:CK)(acc:List U)(o:HO):Prop:=match c with
 | .lst _ => ∃ vs,o=.lst vs/\RVs K ρ H acc vs
 | .dic _ _ => ∃ kvs ws,o=.dT ws/\dfold acc []=some kvs/\RD K ρ H kvs ws
theorem CK.ho.mut{K:KD}{ρ:List Addr}{H:Hp}{c:CK}{acc:List U}{o:HO}(h:CK.ho K ρ H c acc o):cN o:=by
 cases c with
 | lst e=>obtain ⟨vs,rfl,_⟩:=h;trivial
 | dic k v=>obtain ⟨_,ws,rfl,_⟩:=h;trivial
theorem CK.ho.mono{K:KD}{ρ ρ':List Addr}{H H':Hp}{c:CK}{acc:List U}{o:HO}(h:CK.ho K ρ H c acc o)(he:∀ (n:Nat) (a:Addr),ρ[n]? = some a->ρ'[n]? = some a)(ht:∀ a xs,SqU K H a xs->SqU K H' a xs)(hf:∀ a xs,SqF K H a xs->SqF K H' a xs):CK.ho K ρ' H' c acc o:=by
 cases c with
 | lst e=>obtain ⟨vs,e,r⟩:=h;exact ⟨vs,e,RVs.mono he ht hf _ _ r⟩
 | dic k v=>obtain ⟨kvs,ws,e,d,r⟩:=h;exact ⟨kvs,ws,e,d,RD.mono he ht hf _ _ r⟩
theorem CK.ho.step{K:KD}{ρ ρ':List Addr}{H H':Hp}{c:CK}{acc:List U}{o:HO}(s:Stp K ρ H ρ' H')(h:CK.ho K ρ H c acc o):CK.ho K ρ' H' c acc o:=h.mono s.ext s.tup s.fro
theorem CK.ho0{K:KD}{ρ:List Addr}{H:Hp}{c:CK}:CK.ho K ρ H c [] c.ini:=by
 cases c with
 | lst e=>exact ⟨[],rfl,rfl⟩
 | dic k v=>exact ⟨[],[],rfl,rfl,rfl⟩
theorem CK.new_wp{M:Model}{A:Around}{E:Value->Shared->Prop}{s:Shared}{Q:Value->Shared->Prop}{c:CK}(h:Q (.ref s.heap.objs.size) { s with heap:=s.heap.push c.obj }):wpAny M A c.new Q E s:=by
 cases c with
 | lst e=>exact wpAny_newObj_type h
 | dic k v=>exact wpAny_newObj_type h
theorem CK.ini_ok{P:Program}{w:World}{H:Hp}(c:CK)(h:Heap)(hb:sysModules < h.objs.size):ObjOk P w H (h.push c.obj) h.objs.size c.ini:=by
 cases c with
 | lst e=>exact ⟨Nat.zero_le _,[],0,.nil,KA _ rfl⟩
 | dic k v=>exact oQ h hb
noncomputable def RR(X:Cx)(c:CK)(D:Addr)(pins:List (Addr×Obj))(ρ0:List Addr)(H0:Hp)(ρs:List Addr)(Hs:Hp)(σu:Su)(us:List U)(g':G)(r:Result)(s':Shared):Prop :=
 (∃ f,r=.ok f) /\ ∃ σ' H' ρ' vs',L2.Inv X pins σ' H' s'/\Stp X.K ρ0 H0 ρ' H'/\RH X.K ρ' H' g'/\RS X.K ρ' H' σu σ'/\H' D=some vs'/\D ∉ ρ'/\CK.ho X.K ρ' H' c us vs'/\Mon X.K ρs Hs ρ' H'
theorem zz{c:CK}{gens:List Comprehension}{scope:Scope}{pos:Pos}{k:Nat}{g:Comprehension}{it acc:Value}{env:Env}(hk:gens[k]? = some g)(ha:g.is_async=0):
  compTurn (c.exp gens scope pos) k it acc env=(do
   standAt g.iter.pos
   match <- pyNext it with
   | none=>pure (.done .next)
   | some v =>
    letOwnedTupleGo g.target it v
    assign g.target env v
    let ok <- ifsT g.ifs env
    if ok then
     match gens[k+1]? with
     | some g' =>
      let x <- eval g'.iter env
      standAt g'.iter.pos
      let x <- if g'.is_async != 0 then foldedIterable g'.iter x else foldedSetIterable g'.iter env x
      let _ <- runOwn (.compStart (c.exp gens scope pos) (k+1) (<- holding [x] (if g'.is_async != 0 then asyncIter x else pyIter x)) acc env) env
     | none=>c.emit acc env
    again (.compLoop (c.exp gens scope pos) k it acc env)):=by
 cases c with
 | lst elt=>unfold compTurn;simp only [CK.exp,hk,ha];rfl
 | dic kx vx=>unfold compTurn;simp only [CK.exp,hk,ha];rfl
end
section
variable{prog:Program}{w:World}{A:Around}{R:Result->Shared->Prop}{s:Shared}
theorem ml{c:CK}{gens:List Comprehension}{scope:Scope}{pos:Pos}{k:Nat}{g:Comprehension}{it acc:Value}{env:Env}(hk:gens[k]? = some g)(ha:g.is_async=0)
  (h0:codeAny (model prog w) A (.compLoop (c.exp gens scope pos) k it acc env) R s)
  (h:wpAny (model prog w) A (pyIter it) (λit' s'=>codeAny (model prog w) A (.compLoop (c.exp gens scope pos) k it' acc env) R s')
   (notedBy (model prog w) A env λx s'=>R (.error x) s') s) :
  codeAny (model prog w) A (.compStart (c.exp gens scope pos) k it acc env) R s:=by
 refine codeAny_of_tree ?_;have key:(model prog w).den (.compStart (c.exp gens scope pos) k it acc env)=(compStart (c.exp gens scope pos) k it acc env).onRaise (λx=>do noteFrame x env;standAt theWindowsPlace):=by cases c <;> rfl
 have ku:A.under (.compStart (c.exp gens scope pos) k it acc env)=A:=by cases c <;> rfl
 rw [key,ku];refine wpAny_notedAt ?_;unfold compStart;have hc:(clausesOf (c.exp gens scope pos))[k]? = some g:=by cases c <;> exact hk
 simp only [hc,ha,Option.elim];show wpAny _ _ (ask >>= _) _ _ s;refine ZB (wpAny_askSetting (wpAny_ite ?_));split
 .first
   | exact ZB (ZP (ZP (And.intro rfl h0)))
   | exact ZP (And.intro rfl h0)
 .first
   | exact ZB (wpAny_rule (ZB (wpAny_standAt (ZB (wpAny_mono h (λit' s' h'=>ZP (And.intro rfl h')) λ_ _ x=>x)))))
   | (refine ZB (wpAny_rule ?_);show wpAny _ _ (standAt g.iter.pos >>= _) _ _ s;exact ZB (wpAny_standAt (ZB (wpAny_mono h (λit' s' h'=>ZP (And.intro rfl h')) λ_ _ x=>x))))
end
section
variable{X:Cx}{C:Nat->List U->G->Out U}
theorem noE{α:Type}{t:Sem α}{Q:α->Shared->Prop}{E:Value->Shared->Prop}{s:Shared}(hxe:X.xe=λ_ _=>False)(h:wpAny (model X.prog X.w) X.A t Q X.xe s):wpAny (model X.prog X.w) X.A t Q E s :=
 wpAny_mono h (λ_ _ q=>q) λe s' z=>by rw [hxe] at z;exact z.elim
noncomputable def iE(X:Cx)(C:Nat->List U->G->Out U)(c:CK)(elt':E):Prop :=
 ∀ (n:Nat) (pins:List (Addr×Obj)) (s:Shared) (σ1:Su) (σ:L2.St) (H:Hp) (ρ:List Addr) (g1:G) (acc:List U) (o:HO) (v:U) (g2:G) (D:Addr),(lev C n).ev elt' σ1 g1=.ok v g2->acc.length < aj->L2.Inv X pins σ H s->RS X.K ρ H σ1 σ->RH X.K ρ H g1->H D=some o->D ∉ ρ->CK.ho X.K ρ H c acc o ->
  wpAny (model X.prog X.w) X.A (c.emit (.ref D) X.env) (λ_ s2 => ∃ ρ1 H1 o2,L2.Inv X pins σ (upd H1 D o2) s2/\Stp X.K ρ H ρ1 H1/\RH X.K ρ1 H1 g2/\H1 D=some o/\CK.ho X.K ρ1 (upd H1 D o2) c (acc++[v]) o2) X.xe s
theorem pf{elt:Expr}{elt':E}(helt:∀ n,PE X elt (tE X.K PTs.W0' ((lev C n).ev elt'))):iE X C (.lst elt) elt':=by
 intro n pins s σ1 σ H ρ g1 acc o v g2 D e1 hl I hs hg hD hn ⟨vs,eo,rv⟩;subst eo;refine ZB (thn (helt n pins s σ H (λx H1 => ∃ ρ1,Stp X.K ρ H ρ1 H1/\RH X.K ρ1 H1 g2/\RV X.K ρ1 H1 v x) I ⟨σ1,ρ,g1,hs,hg,by rw [e1];exact λv ρ1 H1 s1 h1 r1=>⟨ρ1,s1,h1,r1⟩⟩) λu s1 ⟨x,H1,I1,r1,ρ1,sp1,hg1,rx⟩ => ?_)
 have hD1:H1 D=some (.lst vs):=sp1.oth D _ hD hn;refine ZB (thn (nS pins s1 σ H1 (.ref D) [x] (.ref D) [u] (λ_ H2=>H2=upd H1 D (.lst (vs++[x]))) I1 rfl (.cons r1 .nil) ⟨D,vs,x,rfl,rfl,hD1,by rw [<-rv.length,sizeLine_eq];unfold aj at hl;omega,rfl⟩) λu2 s2 ⟨x2,H2,I2,r2,eh⟩ => ?_)
 subst eh;exact ZP ⟨ρ1,H1,_,I2,sp1,hg1,hD1,_,rfl,((RVs.step sp1 _ _ rv).append (.one rx)).accum hD1 trivial⟩
theorem oq:∀ {xs ys:List U} {k0 kvs:List (List Int×U)},dfold xs k0=some kvs->dfold (xs++ys) k0=dfold ys kvs
 | [],_,_,_,e=>by cases e;rfl
 | x :: xs,ys,k0,kvs,e=>by
  simp only [List.cons_append,dfold] at e ⊢;obtain ⟨k1,h1,h2⟩:=Option.bind_eq_some_iff.mp e;rw [h1];exact oq h2
theorem Bp{kvs:List (List Int×U)}{k:List Int}{u:U}:(dput kvs k u).length<=kvs.length+1:=by
 unfold dput;split <;> simp
theorem AD{kvs k1:List (List Int×U)}{x:U}(e:eQ kvs x=some k1):k1.length<=kvs.length+1:=by
 unfold eQ at e;split at e
 .obtain ⟨ks,_,rfl⟩:=Option.map_eq_some_iff.mp e;exact Bp
 .cases e
theorem nM:∀ {xs:List U} {k0 kvs:List (List Int×U)},dfold xs k0=some kvs->kvs.length<=k0.length+xs.length
 | [],_,_,e=>by cases e;simp
 | x :: xs,k0,kvs,e=>by
  simp only [dfold] at e;obtain ⟨k1,h1,h2⟩:=Option.bind_eq_some_iff.mp e;have:=AD h1;have:=nM h2;simp only [List.length_cons];omega
theorem A0{kx vx:Expr}{k' v':E}(hu:X.A.units+1 < cLine)(hk:∀ n,PE X kx (tE X.K PTs.W0' ((lev C n).ev k')))(hv:∀ n,PE X vx (tE X.K PTs.W0' ((lev C n).ev v'))):iE X C (.dic kx vx) (.pair k' v'):=by
 intro n pins s σ1 σ H ρ g1 acc o v g2 D e1 hl I hs hg hD hn ⟨kvs,ws,eo,ed,rd⟩;subst eo;cases n with
 | zero=>cases e1
 | succ n =>
  have e1':(((lev C n).ev k' σ1 g1).bind λx g=>((lev C n).ev v' σ1 g).bind λy g=>match keyOf x with | some _ => .ok (.tup [x,y]) g | none => .bad)=Out.ok v g2:=e1
  cases ek:(lev C n).ev k' σ1 g1 with
  | exc _ _ _=>rw [ek] at e1';cases e1'
  | bad=>rw [ek] at e1';cases e1'
  | ok ku ga =>
   rw [ek] at e1';cases ev:(lev C n).ev v' σ1 ga with
   | exc _ _ _=>simp only [Out.bind,ev] at e1';cases e1'
   | bad=>simp only [Out.bind,ev] at e1';cases e1'
   | ok vu gb =>
    simp only [Out.bind,ev] at e1';cases ekk:keyOf ku with
    | none=>rw [ekk] at e1';cases e1'
    | some kk =>
     rw [ekk] at e1';cases e1';refine ZB (thn (hk n pins s σ H (λx H1 => ∃ ρ1,Stp X.K ρ H ρ1 H1/\RH X.K ρ1 H1 ga/\RV X.K ρ1 H1 ku x) I ⟨σ1,ρ,g1,hs,hg,by rw [ek];exact λv ρ1 H1 s1 h1 r1=>⟨ρ1,s1,h1,r1⟩⟩) λu s1 ⟨x,H1,I1,r1,ρ1,sp1,hg1,rx⟩ => ?_)
     refine ZB (wpAny_holding (thn (hv n pins s1 σ H1 (λx H2 => ∃ ρ2,Stp X.K ρ1 H1 ρ2 H2/\RH X.K ρ2 H2 g2/\RV X.K ρ2 H2 vu x) I1 ⟨σ1,ρ1,ga,hs.step sp1,hg1,by rw [ev];exact λv ρ1 H1 s1 h1 r1=>⟨ρ1,s1,h1,r1⟩⟩) λw s2 ⟨y,H2,I2,r2,ρ2,sp2,hg2,ry⟩ => ?_))
     obtain ⟨b,rfl,hb⟩:=iL ekk (RV.step sp2 _ _ rx);obtain rfl:u=Value.ref b:=r1;have sp:=sp1.trans sp2;have hD2:H2 D=some (.dT ws):=sp.oth D _ hD hn;refine ZB (wpAny_standAt (wpAny_holding (IM hu I2 hD2 hb ?_ r2 λs3 I3=>⟨ρ2,H2,_,I3,sp,hg2,hD2,dput kvs kk vu,_,rfl,?_,?_⟩)))
     .have:=nM ed;rw [<-rd.len,sizeLine_eq];unfold aj at hl;simp at this;omega
     .rw [oq ed];simp only [dfold,eQ,ekk,Option.map_some,Option.bind_some]
     .exact RD.mono (λ_ _ e=>e) (λ_ _ h=>cF h (.inr ⟨_,hD2,trivial⟩)) (λ_ _ h=>cD h (.inr ⟨_,hD2,trivial⟩)) _ _ ((rd.mono sp.ext sp.tup sp.fro).put ry)
noncomputable abbrev postC(c:Code)(R:Result->Shared->Prop)(N:Shared->Prop):PySem.Fin->Shared->Prop:=λfin s'=>match fin with | .done f=>R (.ok f) s' | .again c'=>c'=c/\N s'
theorem pN(hc:X.calm=true)(hxe:X.xe=λ_ _=>False){c:CK}{elt':E}{gens:List Comprehension}{scope:Scope}{pos:Pos}{D:Addr}{k:Nat}{gc:Comprehension}{t:Tg}{cs:List E}{rest':List (Tg×E×List E)}{ρ0 ρs:List Addr}{H0 Hs:Hp}
  {it:Addr} {fp:List Addr} {tn:Nat->Heap->Prop} {J:It} {itI:Iter} {pins:List (Addr×Obj)} {σu:Su} {us:List U} {g':G}
  (hk:gens[k]? = some gc) (ha:gc.is_async=0) (hg:PG X gc.target (tG X.K t)) (hts:∀ n,PTs X gc.ifs (aT (lev C n).ts cs)) (T:Turn X.prog X.w X.K gc.target J fp it tn) (hst:∀ b∈fp,∀ H':Hp,H' b=none->ba X pins H' b) (h0:H0 D=none)
  (inner:∀ (n:Nat) (pins':List (Addr×Obj)) (s:Shared) (σ1:Su) (σ:L2.St) (H:Hp) (ρ:List Addr) (g1:G) (acc:List U) (vs:HO) (i:Nat) (N:Shared->Prop) (E:Value->Shared->Prop),
   (match rest' with
    | []=>((lev C n).ev elt' σ1 g1).bindB λv g=>if acc.length < aj then (lev C n).cm itI (i+1) t cs rest' elt' (acc++[v]) σu g else .bad
    | (t2,it2,cs2) :: rest2=>(itF (lev C n) it2 σ1 g1).bindB λj g=>((lev C n).cm j 0 t2 cs2 rest2 elt' acc σ1 g).bindB λacc2 g=>(lev C n).cm itI (i+1) t cs rest' elt' acc2 σu g)=.ok us g' ->
   L2.Inv X pins' σ H s->RS X.K ρ H σ1 σ->RH X.K ρ H g1->Stp X.K ρ0 H0 ρ H->H D=some vs->D ∉ ρ->CK.ho X.K ρ H c acc vs ->
   (∀ s' σ' H' ρ' g2 acc2 vs2,(lev C n).cm itI (i+1) t cs rest' elt' acc2 σu g2=.ok us g'->L2.Inv X pins' σ' H' s'->RS X.K ρ' H' σ1 σ'->RH X.K ρ' H' g2->Stp X.K ρ0 H0 ρ' H'->Mon X.K ρ H ρ' H'->H' D=some vs2->D ∉ ρ'->CK.ho X.K ρ' H' c acc2 vs2->N s') ->
   wpAny (model X.prog X.w) X.A (match gens[k+1]? with
     | some g'=>(do
      let x <- eval g'.iter X.env
      standAt g'.iter.pos
      if (g'.is_async != 0)=true then do
        let x <- foldedIterable g'.iter x
        let y <- holding [x] (if (g'.is_async != 0)=true then asyncIter x else pyIter x)
        let _ <- runOwn (.compStart (c.exp gens scope pos) (k+1) y (.ref D) X.env) X.env
        again (.compLoop (c.exp gens scope pos) k (.ref it) (.ref D) X.env)
       else do
        let x <- foldedSetIterable g'.iter X.env x
        let y <- holding [x] (if (g'.is_async != 0)=true then asyncIter x else pyIter x)
        let _ <- runOwn (.compStart (c.exp gens scope pos) (k+1) y (.ref D) X.env) X.env
        again (.compLoop (c.exp gens scope pos) k (.ref it) (.ref D) X.env))
     | none=>(do
      c.emit (.ref D) X.env
      again (.compLoop (c.exp gens scope pos) k (.ref it) (.ref D) X.env))) (postC (.compLoop (c.exp gens scope pos) k (.ref it) (.ref D) X.env) (RR X c D pins ρ0 H0 ρs Hs σu us g') N) E s)
  (n:Nat) (s:Shared) (i:Nat) (acc:List U) (vs:HO) (σ:L2.St) (H:Hp) (ρ:List Addr) (g0:G) (eq:(lev C n).cm itI i t cs rest' elt' acc σu g0=.ok us g') (I:L2.Inv X pins σ H s) (st:tn i s.heap) (hf:∀ b∈fp,H b=none)
  (hs:RS X.K ρ H σu σ) (hgg:RH X.K ρ H g0) (ri:RI X.K ρ H itI J) (sp:Stp X.K ρ0 H0 ρ H) (hD:H D=some vs) (hn:D ∉ ρ) (rv:CK.ho X.K ρ H c acc vs) (mo:Mon X.K ρs Hs ρ H) :
  codeAny (model X.prog X.w) X.A (.compLoop (c.exp gens scope pos) k (.ref it) (.ref D) X.env) (RR X c D pins ρ0 H0 ρs Hs σu us g') s:=by
 refine codeAny_loop (by cases c <;> rfl) (λn s => ∃ i acc vs σ H ρ g0,(lev C n).cm itI i t cs rest' elt' acc σu g0=.ok us g'/\L2.Inv X pins σ H s/\tn i s.heap/\(∀ b∈fp,H b=none)/\RS X.K ρ H σu σ/\RH X.K ρ H g0/\RI X.K ρ H itI J/\Stp X.K ρ0 H0 ρ H/\H D=some vs/\D ∉ ρ/\CK.ho X.K ρ H c acc vs/\Mon X.K ρs Hs ρ H) ?_ n ⟨i,acc,vs,σ,H,ρ,g0,eq,I,st,hf,hs,hgg,ri,sp,hD,hn,rv,mo⟩
 clear eq I st hf hs hgg ri sp hD hn rv mo;rintro n s ⟨i,acc,vs,σ,H,ρ,g0,eq,I,st,hf,hs,hgg,ri,sp,hD,hn,rv,mo⟩;cases n with
 | zero=>cases eq
 | succ n =>
  have eq':cmF (lev C n) itI i t cs rest' elt' acc σu g0=.ok us g':=eq;clear eq;simp only [cmF] at eq';have key:(model X.prog X.w).den (.compLoop (c.exp gens scope pos) k (.ref it) (.ref D) X.env)=(compTurn (c.exp gens scope pos) k (.ref it) (.ref D) X.env).onRaise (λx=>do noteFrame x X.env;theTreesLotGoes x):=by cases c <;> rfl
  have ku:X.A.under (.compLoop (c.exp gens scope pos) k (.ref it) (.ref D) X.env)=X.A:=by cases c <;> rfl
  rw [key,ku];refine wpAny_noted ?_;rw [zz hk ha];refine ZB (wpAny_standAt (ZB ?_));have stat:∀ {H':Hp},(∀ b∈fp,H' b=none) -> ∀ b∈fp,ba X pins H' b:=λh b hb=>hst b hb _ (h b hb);cases en:next itI i g0 with
  | none=>simp only [en] at eq';cases eq'
  | some o =>
   cases o with
   | none =>
    simp only [en] at eq';cases eq';refine thn (T.done X rfl rfl rfl hc i pins s σ H _ I (stat hf) st (pP hgg ri en)) λr s1 ⟨hr,I1⟩ => ?_;subst hr;exact ZP ⟨⟨_,rfl⟩,σ,H,ρ,vs,I1,sp,hgg,hs,hD,hn,rv,mo⟩
   | some u =>
    simp only [en] at eq';obtain ⟨go,yl⟩:=xq hgg ri en;refine thn (T.item X rfl rfl rfl hc i pins s σ H _ I (stat hf) st go) λr s1 ⟨u',hr,h4⟩ => ?_;subst hr;refine ZB (thn h4 λ_ s5 ⟨x,H5,I5,r5,y5,st5,fr5⟩ => ?_);obtain ⟨spy,hgg5,rx⟩:=yl x H5 y5;replace hs:=hs.step spy;replace hgg:=hgg5;replace ri:=ri.step spy;replace sp:=sp.trans spy;replace hD:=spy.oth D _ hD hn;replace rv:=rv.step spy;replace mo:=mo.trans spy.mon;have I5':=I5.pinned (stat fr5) (T.obj _ _ st5);split at eq'
    .rename_i hfree
     cases eb:az t u σu with
     | none=>simp only [eb] at eq';cases eq'
     | some σ1 =>
      simp only [eb] at eq';obtain ⟨kk,g1,e1,e2⟩:=hX eq';refine ZB (noE hxe (thn (hg _ s5 σ H5 x u' (λσ' H'=>H'=H5/\RS X.K ρ H5 σ1 σ') I5' r5 ⟨σu,ρ,g0,u,σ1,hs,hgg,rx,oB eb,λσ' h=>⟨rfl,h⟩⟩) λ_ s6 ⟨σ6,H6,I6,eh,hs6⟩ => ?_));subst eh;refine ZB (noE hxe (thn (hts n _ s6 σ6 H6 (λk' H'=>k'=kk /\ ∃ ρ1,Stp X.K ρ H6 ρ1 H'/\RH X.K ρ1 H' g1) I6 ⟨σ1,ρ,g0,hs6,hgg,by rw [e1];exact λv ρ1 H1 s1 h1 e=>⟨e.symm,ρ1,s1,h1⟩⟩) λk' s7 ⟨H7,I7,ek,ρ1,sp1,hg1⟩ => ?_))
      subst ek;have back:∀ (s':Shared) (σ':L2.St) (H':Hp) (ρ':List Addr) (g2:G) (acc2:List U) (vs2:HO),(lev C n).cm itI (i+1) t cs rest' elt' acc2 σu g2=.ok us g'->L2.Inv X (pins++fX fp s5.heap) σ' H' s'->RS X.K ρ' H' σ1 σ'->RH X.K ρ' H' g2->Stp X.K ρ0 H0 ρ' H'->Mon X.K ρ1 H7 ρ' H'->H' D=some vs2->D ∉ ρ'->CK.ho X.K ρ' H' c acc2 vs2 ->
        ∃ m,m < n+1 /\ ∃ i acc vs σ H ρ g0,(lev C m).cm itI i t cs rest' elt' acc σu g0=.ok us g'/\L2.Inv X pins σ H s'/\tn i s'.heap/\(∀ b∈fp,H b=none)/\RS X.K ρ H σu σ/\RH X.K ρ H g0/\RI X.K ρ H itI J/\Stp X.K ρ0 H0 ρ H/\H D=some vs/\D ∉ ρ/\CK.ho X.K ρ H c acc vs/\Mon X.K ρs Hs ρ H:=λs' σ' H' ρ' g2 acc2 vs2 q1 q2 q3 q4 q5 q6 q7 q8 q9=>by
       refine ⟨n,Nat.lt_succ_self _,i+1,acc2,vs2,σ',H',ρ',g2,q1,q2.unpinned,T.keep _ _ _ st5 λb hb o e=>(q2.pin (b,o) (List.mem_append_right _ (List.mem_append_right _ (gL hb e)))).1,λb hb => ?_,RS.unbind hfree eb q3,q4,(ri.step sp1).mon q6,q5,q7,q8,q9,(mo.trans sp1.mon).trans q6⟩;obtain ⟨o,e,d⟩:=T.obj _ _ st5 b hb;exact (q2.pin (b,o) (List.mem_append_right _ (List.mem_append_right _ (gL hb e)))).2.1
      have hD7:H7 D=some vs:=sp1.oth D _ hD hn;have hn7:D ∉ ρ1:=gM sp1 hn hD;have rv7:=rv.step sp1;cases k' with
      | false =>
       simp only [Bool.false_eq_true,if_false] at e2 ⊢;exact ZP ⟨rfl,back s7 σ6 H7 ρ1 g1 acc vs e2 I7 (hs6.step sp1) hg1 (sp.trans sp1) ⟨λ_ _ h=>h,λ_ _ h=>h,λ_ _ h=>h,λ_ _ _ h=>h⟩ hD7 hn7 rv7⟩
      | true =>
       simp only [if_true] at e2 ⊢;exact inner n _ s7 σ1 σ6 H7 ρ1 g1 acc vs i _ _ e2 I7 (hs6.step sp1) hg1 (sp.trans sp1) hD7 hn7 rv7 back
    .cases eq'
theorem Au(hc:X.calm=true)(hxe:X.xe=λ_ _=>False){c:CK}{elt':E}(hem:iE X C c elt'){gens:List Comprehension}{scope:Scope}{pos:Pos}{D:Addr}:
  ∀ (rest:List Comprehension) (rest':List (Tg×E×List E)) (k:Nat) (gc:Comprehension) (t:Tg) (cs:List E),gens[k]? = some gc->gens.drop (k+1)=rest->gc.is_async=0->PG X gc.target (tG X.K t) ->
   (∀ n,PTs X gc.ifs (aT (lev C n).ts cs))->cG X C rest rest' ->
   ∀ (n:Nat) (pins:List (Addr×Obj)) (s:Shared) (it:Addr) (fp:List Addr) (tn:Nat->Heap->Prop) (J:It) (itI:Iter) (i:Nat) (acc:List U) (vs:HO) (σu:Su) (σ:L2.St) (H:Hp) (ρ ρ0:List Addr) (H0:Hp) (g0:G) (us:List U) (g':G),
    Turn X.prog X.w X.K gc.target J fp it tn->(lev C n).cm itI i t cs rest' elt' acc σu g0=.ok us g'->L2.Inv X pins σ H s->tn i s.heap->(∀ b∈fp,ba X pins H b)->RS X.K ρ H σu σ->RH X.K ρ H g0->RI X.K ρ H itI J ->
    Stp X.K ρ0 H0 ρ H->H0 D=none->H D=some vs->D ∉ ρ->CK.ho X.K ρ H c acc vs ->
    codeAny (model X.prog X.w) X.A (.compLoop (c.exp gens scope pos) k (.ref it) (.ref D) X.env) (RR X c D pins ρ0 H0 ρ H σu us g') s:=by
 intro rest
 induction rest with
 | nil =>
  intro rest' k gc t cs hk hdrop ha hg hts hgo n pins s it fp tn J itI i acc vs σu σ H ρ ρ0 H0 g0 us g' T eq I st hf hs hgg ri sp h0 hD hn rv;have hk1:gens[k+1]? = none:=by
   have:=congrArg List.length hdrop;rw [List.length_drop] at this;exact List.getElem?_eq_none_iff.mpr (by simp at this;omega)
  cases rest' with
  | cons _ _=>exact False.elim hgo
  | nil =>
   refine pN hc hxe hk ha hg hts T (λb hb H' h=>⟨h,(hf b hb).2⟩) h0 ?_ n s i acc vs σ H ρ g0 eq I st (λb hb=>(hf b hb).1) hs hgg ri sp hD hn rv ⟨λ_ _ h=>h,λ_ _ h=>h,λ_ _ h=>h,λ_ _ _ h=>h⟩;intro n pins' s σ1 σ H ρ g1 acc vs i N E eq I hs hg sp hD hn rv back;obtain ⟨v,g2,e1,e2⟩:=hX eq;rw [hk1];split at e2
   .rename_i hl
    refine ZB (noE hxe (thn (hem n pins' s σ1 σ H ρ g1 acc vs v g2 D e1 hl I hs hg hD hn rv) λ_ s2 ⟨ρ1,H1,o2,I2,sp1,hg1,hD1,rv2⟩ => ?_));have hn1:D ∉ ρ1:=gM sp1 hn hD;have hm:=rv.mut;refine ZP ⟨rfl,?_⟩;refine back s2 σ _ ρ1 g2 (acc++[v]) o2 e2 I2 ?_ (hg1.accum hD1 hm hn1) ((sp.trans sp1).accum h0 hD1 hm) (sp1.mon.trans ⟨λ_ _ h=>h,λ_ _ h=>cF h (.inr ⟨_,hD1,hm⟩),λ_ _ h=>cD h (.inr ⟨_,hD1,hm⟩),λ_ _ _ h=>by rw [ar (eV h hD1 (by rintro rfl;exact hm))];exact h⟩) upd_same hn1 rv2
    exact ⟨hs.len,λj z e=>let ⟨w,w1,w2⟩:=(hs.step sp1).val j z e;⟨w,w1,w2.accum hD1 hm⟩⟩
   .cases e2
 | cons gn rest ih =>
  intro rest' k gc t cs hk hdrop ha hg hts hgo n pins s it fp tn J itI i acc vs σu σ H ρ ρ0 H0 g0 us g' T eq I st hf hs hgg ri sp h0 hD hn rv;have hk1:gens[k+1]? = some gn:=by
   have:=congrArg (λl=>l[0]?) hdrop;simpa [List.getElem?_drop] using this
  have hdrop2:gens.drop (k+1+1)=rest:=by
   rw [<-List.drop_drop,hdrop];rfl
  cases rest' with
  | nil=>exact False.elim hgo
  | cons q2 rest2 =>
   obtain ⟨t2,it2,cs2⟩:=q2;obtain ⟨a2,pg2,pts2,pi2,fold2,hgo2⟩:=hgo;refine pN hc hxe hk ha hg hts T (λb hb H' h=>⟨h,(hf b hb).2⟩) h0 ?_ n s i acc vs σ H ρ g0 eq I st (λb hb=>(hf b hb).1) hs hgg ri sp hD hn rv ⟨λ_ _ h=>h,λ_ _ h=>h,λ_ _ h=>h,λ_ _ _ h=>h⟩;intro n pins' s σ1 σ H ρ g1 acc vs i N E eq I hs hg sp hD hn rv back;obtain ⟨j,g3,e1,e2⟩:=hX eq;obtain ⟨acc2,g4,e3,e4⟩:=hX e2;rw [hk1];refine ZB (noE hxe (thn (pi2 n pins' s σ H (λJ H1 => ∃ ρ1,Stp X.K ρ H ρ1 H1/\RH X.K ρ1 H1 g3/\RI X.K ρ1 H1 j J) I ⟨σ1,ρ,g1,hs,hg,by rw [e1];exact λv ρ1 H1 s1 h1 r1=>⟨ρ1,s1,h1,r1⟩⟩) λv s1 h1=>ZB (wpAny_standAt ?_)))
   rw [a2];rw [if_neg (by decide)]
   refine ZB (wpAny_of_eq (fold2 v) (ZB (wpAny_holding ?_)));rw [if_neg (by decide)]
   refine noE hxe (thn h1 λitv s2 h2 => ?_);obtain ⟨ita,fp2,tn2,J2,H2,e,I2,T2,st2,f2,ρ1,sp1,hg1,ri1⟩:=h2;subst e;have hD1:H2 D=some vs:=sp1.oth D _ hD hn;have hn1:D ∉ ρ1:=gM sp1 hn hD;have loop:=ih rest2 (k+1) gn t2 cs2 hk1 hdrop2 a2 pg2 pts2 hgo2 n pins' s2 ita fp2 tn2 J2 j 0 acc vs σ1 σ H2 ρ1 ρ0 H0 g3 acc2 g4 T2 e3 I2 st2 f2 (hs.step sp1) hg1 ri1 (sp.trans sp1) h0 hD1 hn1 (rv.step sp1);refine ZB (wpAny_runOwn (codeAny_mono (ml hk1 a2 loop (T2.self _ 0 s2 _ _ st2 loop)) λr s3 hr => ?_));obtain ⟨⟨f,rfl⟩,σ',H',ρ',vs',I3,sp3,hg3,hs3,hD3,hn3,rv3,mo3⟩:=hr;exact ZP ⟨rfl,back s3 σ' H' ρ' g4 acc2 vs' e4 I3 hs3 hg3 sp3 (sp1.mon.trans mo3) hD3 hn3 rv3⟩
end
noncomputable def clF(cells:List (Str×Addr)):List (Str×NameKind)->List (Str×Addr)->List (Str×Addr)
 | [],acc=>acc
 | (x,k) :: r,acc=>if k == .free then (match cells.lookup x with | some c=>clF cells r ((x,c) :: acc) | none=>clF cells r acc) else clF cells r acc
theorem jz{env:Env}{scope:Scope}(h:∀ x∈scope.names,x.2=.free -> ∃ c,env.cells.lookup x.1=some c):closureFor scope env=pure (clF env.cells scope.names []):=by
 have all:∀ (names:List (Str×NameKind)) (acc:List (Str×Addr)),(∀ x∈names,x.2=.free -> ∃ c,env.cells.lookup x.1=some c) ->
   (forIn names acc λ(x:Str×NameKind) (cs:List (Str×Addr))=>match x with | (name,kind)=>if (kind == NameKind.free)=true then do let c <- cellOf env name;pure (ForInStep.yield ((name,c) :: cs)) else pure (ForInStep.yield cs):Sem (List (Str×Addr)))=pure (clF env.cells names acc):=λnames=>by
  induction names with
  | nil=>intro acc _;rfl
  | cons p r ih =>
   intro acc hp;obtain ⟨x,k⟩:=p;simp only [List.forIn_cons,clF];by_cases hk:k=.free
   .subst hk
    obtain ⟨c,hc⟩:=hp (x,.free) List.mem_cons_self rfl;have hco:cellOf env x=pure c:=by unfold cellOf;simp only at hc;rw [hc]
    simp only [beq_self_eq_true,if_true,hco,hc];exact ih _ λy hy=>hp y (Kx _ hy)
   .have hb:(k == NameKind.free)=false:=by simpa using hk
    simp only [hb,Bool.false_eq_true,if_false];exact ih _ λy hy=>hp y (Kx _ hy)
 unfold closureFor;show ((forIn scope.names [] λ(x:Str×NameKind) (cs:List (Str×Addr))=>match x with | (name,kind)=>if (kind == NameKind.free)=true then do let c <- cellOf env name;pure (ForInStep.yield ((name,c) :: cs)) else pure (ForInStep.yield cs):Sem (List (Str×Addr))) >>= λs=>pure s)=_
 rw [all scope.names [] h]
 rfl
theorem dy{cells:List (Str×Addr)}:∀ (names:List (Str×NameKind)) (acc:List (Str×Addr)),(∀ x c,acc.lookup x=some c->cells.lookup x=some c) -> ∀ x c,(clF cells names acc).lookup x=some c->cells.lookup x=some c
 | [],_,h=>h
 | (y,k) :: r,acc,h=>by
  unfold clF;split
  .split
   .rename_i c hc
    refine dy r _ λx d e => ?_;rw [List.lookup_cons] at e;split at e
    .rename_i hx
     cases e;rw [eq_of_beq hx];exact hc
    .exact h x d e
   .exact dy r _ h
  .exact dy r _ h
theorem gY{cells:List (Str×Addr)}{x:Str}:∀ (names:List (Str×NameKind)) (acc:List (Str×Addr)),(acc.lookup x).isSome=true->((clF cells names acc).lookup x).isSome=true
 | [],_,h=>h
 | (y,k) :: r,acc,h=>by
  unfold clF;split
  .split
   .refine gY r _ ?_
    rw [List.lookup_cons];split
    .rfl
    .exact h
   .exact gY r _ h
  .exact gY r _ h
theorem fM{cells:List (Str×Addr)}{x:Str}{c:Addr}(hc:cells.lookup x=some c):∀ (names:List (Str×NameKind)) (acc:List (Str×Addr)),(x,NameKind.free)∈names->((clF cells names acc).lookup x).isSome=true
 | (y,k) :: r,acc,h=>by
  unfold clF;rcases List.mem_cons.mp h with e | h
  .cases e
   simp only [beq_self_eq_true,if_true,hc];exact gY r _ (by simp)
  .split
   .split
    .exact fM hc r _ h
    .exact fM hc r _ h
   .exact fM hc r _ h
theorem eN:∀ (names:List (Str×NameKind)) (n:Nat) (acc:List (Str×Addr)),cellsFrom n names acc=cellsFrom n names []++acc
 | [],_,_=>rfl
 | (x,k) :: r,n,acc=>by
  unfold cellsFrom;split
  .rw [eN r (n+1) ((x,n) :: acc),eN r (n+1) [(x,n)],List.append_assoc];rfl
  .exact eN r n acc
theorem cU{x:Str}{c:Addr}:∀ (names:List (Str×NameKind)) (n:Nat),(x,c)∈cellsFrom n names []->(x,NameKind.cell)∈names/\n<=c
 | [],_,h=>nomatch h
 | (y,k) :: r,n,h=>by
  unfold cellsFrom at h;split at h
  .rename_i hk
   rw [eN,List.mem_append] at h;rcases h with h | h
   .exact ⟨.tail _ (cU r _ h).1,Nat.le_of_succ_le (cU r _ h).2⟩
   .cases List.mem_singleton.mp h;rw [eq_of_beq hk];exact ⟨.head _,Kw _⟩
  .exact ⟨.tail _ (cU r _ h).1,(cU r _ h).2⟩
theorem gq{names:List (Str×NameKind)}{n:Nat}{cl:List (Str×Addr)}{x:Str}{c:Addr}(h:(cellsFrom n names cl).lookup x=some c):(cellsFrom n names []).lookup x=some c\/((cellsFrom n names []).lookup x=none/\cl.lookup x=some c):=by
 rw [eN,List.lookup_append] at h;cases e:(cellsFrom n names []).lookup x with
 | some d=>rw [e] at h;exact .inl h
 | none=>rw [e] at h;exact .inr ⟨rfl,h⟩
theorem Fg{names:List (Str×NameKind)}{n:Nat}{cl:List (Str×Addr)}{x:Str}{c:Addr}(h:cl.lookup x=some c)(hx:(x,NameKind.cell) ∉ names):(cellsFrom n names cl).lookup x=some c:=by
 rw [eN,List.lookup_append];cases e:(cellsFrom n names []).lookup x with
 | some d=>exact absurd (cU _ _ (PySem.mem_of_lookup e)).1 hx
 | none=>exact h
theorem ka{names:List (Str×NameKind)}{n:Nat}{cells:List (Str×Addr)}{x:Str}{c:Addr}(h:(cellsFrom n names (clF cells names [])).lookup x=some c):cells.lookup x=some c\/n<=c:=by
 rcases gq h with z | ⟨_,z⟩
 .exact .inr (cU _ _ (PySem.mem_of_lookup z)).2
 .exact .inl (dy names [] (λx c h=>by cases h) x c z)
theorem xu(h:Heap)(names:List (Str×NameKind))(o:Obj):CellsOk (pushCells (h.push o) names) (h.objs.size+1) (cellsFrom (h.objs.size+1) names []):=by
 have:=cellsFrom_ok names (h.push o) (h.objs.size+1) [] ⟨λ_ _ hm=>(nomatch hm),List.Pairwise.nil⟩ (by rw [Heap.size_push];exact Kw _)
 rwa [Heap.size_push] at this
theorem Bm{M:Model}{A:Around}{E:Value->Shared->Prop}{s:Shared}{scope:Scope}{gl:Addr}{cl:List (Str×Addr)}{qual:Str}{env:Env}{Q:Env->Shared->Prop}
  (h:Q { scope,locals:=s.heap.objs.size,globals:=gl,cells:=cellsFrom (s.heap.objs.size+1) scope.names cl,qual,func:=none,code:=env.code,frame:=env.frame,builtins:=env.builtins } { s with heap:=pushCells (s.heap.push { cls := .type "dict",data := .dict #[] }) scope.names }) :
  wpAny M A (newFunctionEnv scope gl cl [] qual none .none (some env)) Q E s:=by
 simp only [newFunctionEnv,Option.isSome_some,if_true];refine ZB (wpAny_alloc ?_);refine ZB (wpAny_layCells _ (λname kind cells=>by cases hkc:kind == NameKind.cell <;> simp [hkc]) _ _ _ _ ?_)
 rw [show ({ s with heap:=s.heap.push { cls := .type "dict",data := .dict #[] } }:Shared).heap.objs.size=s.heap.objs.size+1 from Heap.size_push ..]
 exact ZB (ZP (ZP h))
noncomputable def aA(X:Cx)(pins:List (Addr×Obj))(scope:Scope)(s3:Shared)(H3:Hp)(fp:List Addr)(N':List Str):Cx :=
 { X with env:=compEnvC scope (cellsFrom (s3.heap.objs.size+1) scope.names (clF X.env.cells scope.names [])) s3.heap.objs.size X.env,N:=N',s₀ := s3,H₀ := H3,outer:=X.stack,stack:=X.stack,ex:=fp,fn:=λx=>scope.names.lookup x == some .cell,pn:=X.pn++pins,xe:=λ_ _=>False }
section
variable{X:Cx}{pins:List (Addr×Obj)}{scope:Scope}{s3 s4:Shared}{σ:L2.St}{H3:Hp}{fp:List Addr}{own fr:List Str}{frI:List Nat}
structure CompSc(X:Cx)(scope:Scope)(own fr:List Str)(frI:List Nat):Prop where
 kind:scope.kind=.function
 names:∀ x∈scope.names,x.2=.local->scope.names.lookup x.1=some .local
 cells:∀ x∈scope.names,x.2=.cell->scope.names.lookup x.1=some .cell
 frees:∀ x∈scope.names,x.2=.free->X.env.kindOf x.1=some .cell
 loc:∀ x∈own,scope.names.lookup x=some .local\/scope.names.lookup x=some .cell
 nd:(own++fr).Nodup
 frs:∀ x∈fr,scope.names.lookup x=some .free
 ix:frI.length=fr.length /\ ∀ (j:Nat) (x:Str) (i:Nat),fr[j]? = some x->frI[j]? = some i->X.N[i]? = some x
theorem jv{α:Type}{x:Str}{k:α}:∀ {l:List (Str×α)},l.lookup x=some k->(x,k)∈l
 | [],h=>by cases h
 | (y,z) :: r,h=>by
  rw [List.lookup_cons] at h;split at h
  .rename_i hx;cases h;rw [eq_of_beq hx];exact List.mem_cons_self
  .exact Kx _ (jv h)
theorem gG{env:Env}{x:Str}:∀ {names:List (Str×NameKind)},(names.map λ(n,k)=>if (k == NameKind.free && env.scope.kind == .function && env.kindOf n == some .cell) then (n,NameKind.cell) else (n,k)).lookup x =
  (names.lookup x).map λk=>if (k == NameKind.free && env.scope.kind == .function && env.kindOf x == some .cell) then NameKind.cell else k
 | []=>rfl
 | (n,k) :: r=>by
  have ih := @gG env x r;rw [List.map_cons,List.lookup_cons (as:=r)];show List.lookup x ((if (k == NameKind.free && env.scope.kind == .function && env.kindOf n == some .cell)=true then (n,NameKind.cell) else (n,k)) :: _)=_
  cases hx:x == n with
  | true =>
   obtain rfl:=eq_of_beq hx;by_cases hc:(k == NameKind.free && env.scope.kind == .function && env.kindOf x == some .cell)=true
   .rw [if_pos hc,List.lookup_cons,hx]
    simp only [Option.map_some];rw [if_pos hc]
   .rw [if_neg hc,List.lookup_cons,hx]
    simp only [Option.map_some];rw [if_neg hc]
  | false =>
   by_cases hc:(k == NameKind.free && env.scope.kind == .function && env.kindOf n == some .cell)=true
   .rw [if_pos hc,List.lookup_cons,hx];exact ih
   .rw [if_neg hc,List.lookup_cons,hx];exact ih
theorem C2(S:CompSc X scope own fr frI)(I:L2.Inv X pins σ H3 s3)(hf:∀ b∈fp,ba X pins H3 b)(hfl:∀ b∈fp,b < s3.heap.objs.size):(aA X pins scope s3 H3 fp (own++fr)).Ok:=by
 have sub:=dy (cells:=X.env.cells) scope.names [] (λx c h=>by cases h)
 have kindO:(aA X pins scope s3 H3 fp (own++fr)).env.scope.kind=.function:=S.kind;have low:∀ x c,X.env.cells.lookup x=some c->c < s3.heap.objs.size:=λx c h=>let ⟨_,_,ho,_⟩:=I.cell x c h;Kt ho
 have ck:=xu s3.heap scope.names { cls := .type "dict",data := .dict #[] };refine ⟨I.ok.mod,kindO,I.ok.glob,I.ok.blt,Kw _,λx y c h1 h2 => ?_,λx hx => ?_,λx c h1 h2 => ?_,I.ok.hd,I.ok.frames,.inl rfl,λb hb=>⟨Kz (hfl b hb),λx c h => ?_⟩,λb o e=>I.bs b o e,Ku I.ok.bsz I.sz,λb o e hb => ?_,λb hb hfs => ?_,I.stack,I.stkFree⟩
 .have big:∀ {z},(cellsFrom (s3.heap.objs.size+1) scope.names []).lookup z=some c->s3.heap.objs.size < c:=λh=>(cU _ _ (PySem.mem_of_lookup h)).2
  rcases gq h1 with z | ⟨_,z⟩ <;> rcases gq h2 with z' | ⟨_,z'⟩
  .exact name_of_addr ck.apart (PySem.mem_of_lookup z) (PySem.mem_of_lookup z')
  .exact absurd (Nat.lt_trans (big z) (low _ _ (sub _ _ z'))) (Nat.lt_irrefl _)
  .exact absurd (Nat.lt_trans (big z') (low _ _ (sub _ _ z))) (Nat.lt_irrefl _)
  .exact I.ok.inj x y c (sub x c z) (sub y c z')
 .
  have hx':(aA X pins scope s3 H3 fp (own++fr)).env.kindOf x=(scope.names.lookup x).map λk=>if (k == NameKind.free && X.env.scope.kind == .function && X.env.kindOf x == some .cell) then NameKind.cell else k:=gG
  rw [hx'] at hx;cases hl:scope.names.lookup x with
  | none=>rw [hl] at hx;rcases hx with h | h <;> cases h
  | some k =>
   rw [hl] at hx;have hm:=jv hl;refine Option.isSome_iff_exists.mp (PySem.W.cellsFrom_some _ _ _ ?_);cases k with
   | free =>
    obtain ⟨c,hc⟩:=I.ok.has x (.inl (S.frees _ hm rfl));exact .inr (fM hc scope.names [] hm)
   | cell=>exact .inl hl
   | «local» => rcases hx with h | h <;> simp at h
   | globalExplicit=>rcases hx with h | h <;> simp at h
   | globalImplicit=>rcases hx with h | h <;> simp at h
 .have h1':scope.names.lookup x=some .cell:=eq_of_beq h1
  rcases gq h2 with z | ⟨z,_⟩
  .exact Nat.le_of_succ_le (cU _ _ (PySem.mem_of_lookup z)).2
  .have:=PySem.W.cellsFrom_some scope.names (s3.heap.objs.size+1) [] (.inl h1')
   rw [z] at this;cases this
 .rcases ka h with z | z
  .exact (hf b hb).2.2.2.2.1 x c z
  .exact Nat.ne_of_gt (Ky (Nat.lt_succ_of_lt (hfl b hb)) z)
 .rcases (hf b hb).2.2.2.1 with z | z
  .exact I.ok.noex b o e z
  .exact absurd (Ky (show b < X.base.objs.size from Kt e) (Ku I.ok.bsz z)) (Nat.lt_irrefl _)
 .rcases List.mem_cons.mp (I.stkSub b hfs) with z | z
  .exact (hf b hb).2.1 z
  .exact (hf b hb).2.2.1 z
theorem getD_none{α:Type}{o:Option (Option α)}{v:α}(h:o.getD none=some v):o=some (some v):=by
 cases o with
 | none=>cases h
 | some w=>cases h;rfl
theorem Ba(S:CompSc X scope own fr frI)(I:L2.Inv X pins σ H3 s3)(hf:∀ b∈fp,ba X pins H3 b)(hfl:∀ b∈fp,b < s3.heap.objs.size){h1:Heap}{tk:Nat}{m0:Str->Option Value}(hns:h1.Ns s3.heap.objs.size m0)(kept:∀ b o,s3.heap.get? b=some o->h1.get? b=some o)(hcl:∀ x c,(x,c)∈cellsFrom (s3.heap.objs.size+1) scope.names [] -> ∃ v,h1.IsCell c v):
  L2.Inv (aA X pins scope s3 H3 fp (own++fr)) [] (List.replicate own.length none++frI.map λj=>(σ[j]?).getD none) H3 { s3 with heap:=h1,toks:=tk }:=by
 have sub:=dy (cells:=X.env.cells) scope.names [] (λx c h=>by cases h)
 refine ⟨C2 S I hf hfl,rfl,I.bare,Un.kept kept,⟨m0,hns,λi x v e1 e2 e3 => ?_⟩,λx c h => ?_,I.hok.fresh (Kw _),λx c h=>(ka h).elim (I.freeC x c) λz=>I.hok.fresh (Nat.le_of_succ_le z),λp hp => ?_,I.hok.kept kept,?_⟩
 .
  have e1':(own++fr)[i]? = some x:=e1;by_cases hi:i < own.length
  .rw [List.getElem?_append_left (by simpa using hi),List.getElem?_replicate,if_pos hi] at e2
   cases e2
  .rw [List.getElem?_append_right (by simpa using hi),List.length_replicate,List.getElem?_map] at e2
   rw [List.getElem?_append_right (by omega)] at e1'
   cases ej:frI[i - own.length]? with
   | none=>rw [ej] at e2;cases e2
   | some k =>
    rw [ej] at e2;have e2':=getD_none (Option.some.inj e2);have hN:=S.ix.2 _ x k e1' ej;have hfrx:=S.frs x (List.mem_of_getElem? e1');have hm:=jv hfrx;have hcell:=S.frees _ hm rfl;obtain ⟨m,hn,hl⟩:=I.loc;obtain ⟨u,ru,lk⟩:=hl k x v hN e2' (.inr (.inl hcell));refine ⟨u,ru,?_⟩;rcases lk with ⟨hk,_⟩ | ⟨_,c,hc,hcell'⟩
    .rw [hcell] at hk;cases hk
    .have hkind:(aA X pins scope s3 H3 fp (own++fr)).env.kindOf x=some .cell:=by
      have := @gG X.env x scope.names;show List.lookup x _=_;refine this.trans ?_;rw [hfrx];have hk:=I.ok.kind;simp [hk,hcell]
     obtain ⟨c',hc'⟩:=Option.isSome_iff_exists.mp (fM hc scope.names [] hm);have:=sub x c' hc';rw [hc] at this;cases this;obtain ⟨o,ho,hd⟩:=hcell';exact .inr ⟨.inl hkind,c,Fg hc' (λz=>by have:=S.cells _ z rfl;rw [hfrx] at this;cases this),o,kept c o ho,hd⟩
 .rcases gq h with z | ⟨_,z⟩
  .exact hcl x c (PySem.mem_of_lookup z)
  .obtain ⟨v,o,ho,hd⟩:=I.cell x c (sub x c z)
   exact ⟨v,o,kept c o ho,hd⟩
 .have hp':p∈X.pn++pins:=by
   have:p∈(X.pn++pins)++[]:=hp;simpa using this
  obtain ⟨e,n,ne,nf,d⟩:=I.pin p hp';refine ⟨kept _ _ e,n,Kz (Kt e),λz => ?_,d⟩;rcases List.mem_cons.mp (I.stkSub p.1 z) with q | q
  .exact ne q
  .exact nf q
 .show (List.replicate own.length none++frI.map λj=>(σ[j]?).getD none).length=(own++fr).length
  simp [S.ix.1]
theorem C0{K:KD}{ρ:List Addr}{H:Hp}{σu:Su}{n:Nat}(h:RS K ρ H σu σ):RS K ρ H (List.replicate n none++frI.map λj=>(σu[j]?).getD none) (List.replicate n none++frI.map λj=>(σ[j]?).getD none):=by
 refine ⟨by simp,λi u e => ?_⟩
 by_cases hi:i < n
 .rw [List.getElem?_append_left (by simpa using hi),List.getElem?_replicate,if_pos hi] at e
  cases e
 .rw [List.getElem?_append_right (by simpa using hi),List.length_replicate,List.getElem?_map] at e
  rw [List.getElem?_append_right (by simpa using hi),List.length_replicate,List.getElem?_map]
  cases ej:frI[i - n]? with
  | none=>rw [ej] at e;cases e
  | some k =>
   rw [ej] at e;obtain ⟨v,e1,e2⟩:=h.val k u (getD_none (Option.some.inj e));exact ⟨v,by simp [e1],e2⟩
end
section
variable{X:Cx}{C:Nat->List U->G->Out U}{scope:Scope}{own fr:List Str}{frI:List Nat}
theorem jA(hc:X.calm=true)(S:CompSc X scope own fr frI){gc:Comprehension}{rest:List Comprehension}{t:Tg}{cs:List E}{rest':List (Tg×E×List E)}{c:CK}{elt':E}{pos:Pos}{n:Nat}(ha:gc.is_async=0)
  (inner:∀ pins s3 H3 fp,PG (aA X pins scope s3 H3 fp (own++fr)) gc.target (tG X.K t)/\(∀ n,PTs (aA X pins scope s3 H3 fp (own++fr)) gc.ifs (aT (lev C n).ts cs))/\cG (aA X pins scope s3 H3 fp (own++fr)) C rest rest' /\
   iE (aA X pins scope s3 H3 fp (own++fr)) C c elt')
  {pins:List (Addr×Obj)} {s2:Shared} {σ:L2.St} {H2:Hp} {ρ1:List Addr} {g1:G} {σu:Su} {it:Addr} {fp:List Addr} {tn:Nat->Heap->Prop} {J:It} {iI:Iter} {us:List U} {g2:G} {E:Value->Shared->Prop} {P:Value->Addr->Result->Shared->Prop}
  (I2:L2.Inv X pins σ H2 s2) (T:Turn X.prog X.w X.K gc.target J fp it tn) (st2:tn 0 s2.heap) (f2:∀ b∈fp,ba X pins H2 b) (hs:RS X.K ρ1 H2 σu σ) (hg1:RH X.K ρ1 H2 g1) (ri1:RI X.K ρ1 H2 iI J)
  (ecm:(lev C n).cm iI 0 t cs rest' elt' [] (List.replicate own.length none++frI.map λj=>(σu[j]?).getD none) g1=.ok us g2)
  (fin:∀ (D Cc:Addr) (s':Shared) (H':Hp) (ρ':List Addr) (vs':HO) (m:Str->Option Value) (f:Flow),L2.Inv X pins σ H' s'->Stp X.K ρ1 H2 ρ' H'->RH X.K ρ' H' g2->H2 D=none->H' D=some vs'->D ∉ ρ'->CK.ho X.K ρ' H' c us vs'->s'.heap.Ns Cc m->Cc≠X.env.locals->(∀ x c,X.env.cells.lookup x=some c->c≠Cc) ->
   (∀ (s'':Shared) (σ2:L2.St) (H'':Hp) (h':Heap),L2.Inv X pins σ2 H'' s''->(∀ b,H' b=none->b < s'.heap.objs.size->H'' b=none)->Heap.SameBut Cc s''.heap h'->L2.Inv X pins σ2 H'' { s'' with heap:=h' })->P (.ref D) Cc (.ok f) s') :
  wpAny (model X.prog X.w) X.A c.new (λacc s₃ => wpAny (model X.prog X.w) X.A (newFunctionEnv scope X.env.globals (clF X.env.cells scope.names []) [] X.env.qual none .none (some X.env)) (λcenv s₄ =>
    codeAny (model X.prog X.w) X.A (.compStart (c.exp (gc :: rest) scope pos) 0 (.ref it) acc { cenv with scope:=relabel scope X.env }) (P acc cenv.locals) s₄) E s₃) E s2:=by
 refine CK.new_wp (Bm ?_);dsimp only;have ckk:=xu (s2.heap.push c.obj) scope.names { cls := .type "dict",data := .dict #[] };have hns₁ := (Heap.Ns.new (s2.heap.push c.obj) (.type "dict")).keeps (pushCells_keeps scope.names _);have kept:∀ b o,(s2.heap.push c.obj).get? b=some o->(pushCells ((s2.heap.push c.obj).push { cls := .type "dict",data := .dict #[] }) scope.names).get? b=some o:=λb o e=>pushCells_keeps _ _ b o (Ks _ e);generalize pushCells ((s2.heap.push c.obj).push { cls := .type "dict",data := .dict #[] }) scope.names=h₁ at ckk hns₁ kept ⊢;have hDn:H2 s2.heap.objs.size=none:=I2.hok.fresh (Kw _);have I3:L2.Inv X pins σ (upd H2 s2.heap.objs.size c.ini) { s2 with heap:=s2.heap.push c.obj }:=I2.laid (t':=s2.toks) (λb ob q=>Ks _ q) (Kw _) (c.ini_ok _ I2.big)
 have below:∀ b∈fp,b < s2.heap.objs.size:=λb hb=>let ⟨o,e,_⟩:=T.obj _ _ st2 b hb;Kt e
 have f3:∀ b∈fp,ba X pins (upd H2 s2.heap.objs.size c.ini) b:=λb hb=>⟨by rw [ar (Kz (below b hb))];exact (f2 b hb).1,(f2 b hb).2⟩
 have hsz:(s2.heap.push c.obj).objs.size=s2.heap.objs.size+1:=Heap.size_push _ _;have hfl:∀ b∈fp,b < (s2.heap.push c.obj).objs.size:=λb hb=>by rw [hsz];exact Nat.lt_succ_of_lt (below b hb)
 have I4:=Ba (tk:=s2.toks) S I3 f3 hfl hns₁ kept λx c h=>⟨_,(ckk.empty x c h).1⟩;obtain ⟨pg,pts,go,helt⟩:=inner pins { s2 with heap:=s2.heap.push c.obj } (upd H2 s2.heap.objs.size c.ini) fp
 have kept2:∀ b o,s2.heap.get? b=some o->h₁.get? b=some o:=λb o e=>kept b o (Ks _ e);have st4:tn 0 h₁ := T.keep _ _ _ st2 λb _ o e=>kept2 b o e;have hn:s2.heap.objs.size ∉ ρ1:=λhm=>by
  obtain ⟨k,e⟩:=List.mem_iff_getElem?.mp hm;obtain ⟨o,ho⟩:=hg1.there e;rw [hDn] at ho;cases ho
 have sub:=dy (cells:=X.env.cells) scope.names [] (λx c h=>by cases h)
 have f4:∀ b∈fp,ba (aA X pins scope { s2 with heap:=s2.heap.push c.obj } (upd H2 s2.heap.objs.size c.ini) fp (own++fr)) [] (upd H2 s2.heap.objs.size c.ini) b:=λb hb=>by
  refine ⟨(f3 b hb).1,Kz (hfl b hb),λz => ?_,.inl hb,λx c h=>(ka h).elim ((f3 b hb).2.2.2.2.1 x c) λz=>Nat.ne_of_gt (Ky (Nat.lt_succ_of_lt (hfl b hb)) z),λp hp=>(f3 b hb).2.2.2.2.2 p ?_⟩
  .rcases List.mem_cons.mp (I3.stkSub b z) with q | q
   .exact (f3 b hb).2.1 q
   .exact (f3 b hb).2.2.1 q
  .have:p∈(X.pn++pins)++[]:=hp
   simpa using this
 have loop:=Au (X:=aA X pins scope { s2 with heap:=s2.heap.push c.obj } (upd H2 s2.heap.objs.size c.ini) fp (own++fr)) (C:=C) hc rfl helt (c:=c) (gens:=gc :: rest) (scope:=scope) (pos:=pos) (D:=s2.heap.objs.size) rest rest' 0 gc t cs rfl rfl ha pg pts go n [] _ it fp tn J iI 0 [] c.ini _ _ _ ρ1 ρ1 H2 g1 us g2 T ecm I4 st4 f4 (C0 (hs.step (Stp.fresh hDn))) (hg1.step_fresh hDn) (ri1.step (Stp.fresh hDn)) (Stp.fresh hDn) hDn upd_same hn CK.ho0
 refine codeAny_mono (ml (k:=0) (g:=gc) rfl ha loop (T.self _ 0 _ _ _ st4 loop)) λr s' hr => ?_;obtain ⟨⟨f,rfl⟩,σ',H',ρ',vs',I5,sp5,hg5,hs5,hD5,hn5,rv5,_⟩:=hr;have chk:∀ b∈fp,(b∈X.ex\/X.s₀.heap.objs.size<=b)/\b≠X.env.locals/\(∀ x c,X.env.cells.lookup x=some c->c≠b) /\ ∀ p∈X.pn++pins,p.1≠b:=λb hb=>⟨(f3 b hb).2.2.2.1,(f3 b hb).2.1,(f3 b hb).2.2.2.2.1,(f3 b hb).2.2.2.2.2⟩;have I6:L2.Inv X pins σ H' s':=I3.call' (ch:=fp) I5.os I5.base I5.hok I5.bare chk;obtain ⟨m',hns',_⟩:=I5.loc;refine fin s2.heap.objs.size _ s' H' ρ' vs' m' f I6 sp5 hg5 hDn hD5 hn5 rv5 hns' (Nat.ne_of_gt I3.lt) (λx c h=>by obtain ⟨v,o,ho,hd⟩:=I3.cell x c h;exact Kz (Kt ho)) λs'' σ2 H'' h' I7 hH hsb => ?_
 have hCn:H'' (s2.heap.push c.obj).objs.size=none:=hH _ I5.free I5.lt;refine I7.turned (t':=s''.toks) (it:=(s2.heap.push c.obj).objs.size) (λb o hb e=>(hsb.2 b hb).trans e) hCn ?_ (.inr ?_) (λx c h => ?_) λp hp => ?_
 .exact Nat.ne_of_gt I3.lt
 .exact I3.sz
 .obtain ⟨v,o,ho,hd⟩:=I3.cell x c h
  exact Kz (Kt ho)
 .exact Kz (Kt (I3.pin p hp).1)
theorem Dz(hc:X.calm=true)(S:CompSc X scope own fr frI){gc:Comprehension}{rest:List Comprehension}{t:Tg}{it':E}{cs:List E}{rest':List (Tg×E×List E)}{elt:Expr}{elt':E}{pos:Pos}{n:Nat}(ha:gc.is_async=0)
  (hi:PI X gc.target gc.iter (tI X.K PTs.W0' (itF (lev C n) it'))) (hfold:∀ x,foldedSetIterable gc.iter X.env x=pure x)
  (inner:∀ pins s3 H3 fp,PG (aA X pins scope s3 H3 fp (own++fr)) gc.target (tG X.K t)/\(∀ n,PTs (aA X pins scope s3 H3 fp (own++fr)) gc.ifs (aT (lev C n).ts cs))/\cG (aA X pins scope s3 H3 fp (own++fr)) C rest rest' /\
   ∀ n,PE (aA X pins scope s3 H3 fp (own++fr)) elt (tE X.K PTs.W0' ((lev C n).ev elt'))) :
  PE X (.ListComp elt (gc :: rest) scope pos) (tE X.K PTs.W0' (evF C (lev C n) (.comp own.length frI ((t,it',cs) :: rest') elt'))):=by
 intro pins s σ H Q I ⟨σu,ρ,g,hs,hg,p⟩;rw [eval_ListComp];obtain ⟨tg,iter,ifs,asy⟩:=gc;obtain rfl:asy=0:=ha;refine wpAny_comprehension_free (use:=none) rfl hfold (jz λx hx hk=>I.ok.has x.1 (.inl (S.frees x hx hk))) S.kind S.names ?_;refine thn (hi pins s σ H _ I ⟨σu,ρ,g,hs,hg,post.bind p⟩) λv s1 h1=>thn h1 λitv s2 h2 => ?_;obtain ⟨it,fp,tn,J,H2,e,I2,T,st2,f2,ρ1,iI,g1,sp1,hg1,ri1,p1⟩:=h2;subst e;revert p1;cases ecm:(lev C n).cm iI 0 t cs rest' elt' [] (List.replicate own.length none++frI.map λj=>(σu[j]?).getD none) g1 with
 | exc c fs g2=>intro p1;exact False.elim p1
 | bad=>intro p1;exact False.elim p1
 | ok us g2 =>
  intro p1;simp only [Out.bindB] at p1;split at p1
  .refine jA (c := .lst elt) hc S rfl (λpins s3 H3 fp=>let ⟨a,b,c,d⟩:=inner pins s3 H3 fp;⟨a,b,c,pf d⟩) I2 T st2 f2 (hs.step sp1) hg1 ri1 ecm λD Cc s' H' ρ' vs' m f I' sp' hg' hD0 hD' hn' ⟨vs,eo,rv'⟩ hns' _ _ stay => ?_
   subst eo;refine ⟨m,hns',λh' hsb => ?_⟩;refine ⟨.ref D,H',stay s' σ H' h' I' (λ_ h _=>h) hsb,rfl,?_⟩;refine p1 (.ref D) (ρ'++[D]) H' (sp'.named hD0) (hg'.named hD' hn' ⟨_,rfl,rv'⟩) ⟨D,rfl,?_⟩;rw [<-hg'.len];simp
  .exact False.elim p1
theorem BX(k v gens scope pos){env:Env}:eval (.DictComp k v gens scope pos) env=comprehension (.DictComp k v gens scope pos) scope env (firstIterPos gens pos) newDict (firstAsync gens) (firstIter gens env):=rfl
theorem AV(hc:X.calm=true)(hu:X.A.units+1 < cLine)(S:CompSc X scope own fr frI){gc:Comprehension}{rest:List Comprehension}{t:Tg}{it':E}{cs:List E}{rest':List (Tg×E×List E)}{kx vx:Expr}{k' v':E}{pos:Pos}{n:Nat}(ha:gc.is_async=0)
  (hi:PI X gc.target gc.iter (tI X.K PTs.W0' (itF (lev C n) it'))) (hfold:∀ x,foldedSetIterable gc.iter X.env x=pure x)
  (inner:∀ pins s3 H3 fp,PG (aA X pins scope s3 H3 fp (own++fr)) gc.target (tG X.K t)/\(∀ n,PTs (aA X pins scope s3 H3 fp (own++fr)) gc.ifs (aT (lev C n).ts cs))/\cG (aA X pins scope s3 H3 fp (own++fr)) C rest rest' /\
   (∀ n,PE (aA X pins scope s3 H3 fp (own++fr)) kx (tE X.K PTs.W0' ((lev C n).ev k'))) /\ ∀ n,PE (aA X pins scope s3 H3 fp (own++fr)) vx (tE X.K PTs.W0' ((lev C n).ev v'))) :
  PE X (.DictComp kx vx (gc :: rest) scope pos) (tE X.K PTs.W0' (evF C (lev C n) (.dcmp own.length frI ((t,it',cs) :: rest') k' v'))):=by
 intro pins s σ H Q I ⟨σu,ρ,g,hs,hg,p⟩;rw [BX];obtain ⟨tg,iter,ifs,asy⟩:=gc;obtain rfl:asy=0:=ha;refine wpAny_comprehension_free (use:=none) rfl hfold (jz λx hx hk=>I.ok.has x.1 (.inl (S.frees x hx hk))) S.kind S.names ?_;refine thn (hi pins s σ H _ I ⟨σu,ρ,g,hs,hg,post.bind p⟩) λv s1 h1=>thn h1 λitv s2 h2 => ?_;obtain ⟨it,fp,tn,J,H2,e,I2,T,st2,f2,ρ1,iI,g1,sp1,hg1,ri1,p1⟩:=h2;subst e;revert p1;cases ecm:(lev C n).cm iI 0 t cs rest' (.pair k' v') [] (List.replicate own.length none++frI.map λj=>(σu[j]?).getD none) g1 with
 | exc c fs g2=>intro p1;exact False.elim p1
 | bad=>intro p1;exact False.elim p1
 | ok us g2 =>
  intro p1;simp only [Out.bindB] at p1;refine jA (c := .dic kx vx) hc S rfl (λpins s3 H3 fp=>let ⟨a,b,c,d,e⟩:=inner pins s3 H3 fp;⟨a,b,c,A0 (X:=aA X pins scope s3 H3 fp (own++fr)) hu d e⟩) I2 T st2 f2 (hs.step sp1) hg1 ri1 ecm λD Cc s' H' ρ' vs' m f I' sp' hg' hD0 hD' hn' ⟨kvs,ws,eo,ed,rv'⟩ hns' _ _ stay => ?_
  subst eo;rw [ed] at p1;refine ⟨m,hns',λh' hsb => ?_⟩;refine ⟨.ref D,H',stay s' σ H' h' I' (λ_ h _=>h) hsb,rfl,?_⟩;refine p1 (.ref D) (ρ'++[D]) H' (sp'.named hD0) (hg'.named hD' hn' ⟨_,rfl,rv'⟩) ⟨D,rfl,?_⟩;rw [<-hg'.len];simp
theorem bind_assoc{α β γ:Type}(o:Out α)(k:α->G->Out β)(k':β->G->Out γ):(o.bind k).bind k'=o.bind λa g=>(k a g).bind k':=by
 cases o <;> rfl
theorem zG(hc:X.calm=true)(S:CompSc X scope own fr frI){gc:Comprehension}{rest:List Comprehension}{t:Tg}{it':E}{cs:List E}{rest':List (Tg×E×List E)}{elt:Expr}{elt':E}{pos spos py:Pos}{n i:Nat}{y:Str}(ha:gc.is_async=0)
  (hi:PI X gc.target gc.iter (tI X.K PTs.W0' (itF (lev C n) it'))) (hfold:∀ x,foldedSetIterable gc.iter X.env x=pure x)
  (inner:∀ pins s3 H3 fp,PG (aA X pins scope s3 H3 fp (own++fr)) gc.target (tG X.K t)/\(∀ n,PTs (aA X pins scope s3 H3 fp (own++fr)) gc.ifs (aT (lev C n).ts cs))/\cG (aA X pins scope s3 H3 fp (own++fr)) C rest rest' /\
   ∀ n,PE (aA X pins scope s3 H3 fp (own++fr)) elt (tE X.K PTs.W0' ((lev C n).ev elt')))
  (hN:X.N.Nodup) (hiy:X.N[i]? = some y) (hy:X.env.scope.names.lookup y=some .local) (hsw:swapsWith (.ListComp elt (gc :: rest) scope pos) (some (.Name y py)) spos.line X.env=pure true) :
  PS X (.Assign [.Name y py] (.ListComp elt (gc :: rest) scope pos) spos) (tSt X.K PTs.W0' (s1F (lev C (n+1)) (.set (.nm i) (.comp own.length frI ((t,it',cs) :: rest') elt')))):=by
 intro pins s σ H Dd I ⟨σu,ρ,g,hs,hg,p⟩;have p':postS X.K PTs.W0' ((itF (lev C n) it' σu g).bind λa g=>(((lev C n).cm a 0 t cs rest' elt' [] (List.replicate own.length none++frI.map λj=>(σu[j]?).getD none) g).bindB λus g=>if us.length<=aj then PI.alloc (.lst us) g else .bad).bind λu g=>match az (.nm i) u σu with | some σ'=>Out.ok (.nx σ') g | none => .bad) ρ H Dd:=by
  have e:s1F (lev C (n+1)) (.set (.nm i) (.comp own.length frI ((t,it',cs) :: rest') elt')) σu g=_:=rfl;rw [<-bind_assoc];exact p
 rw [exec_Assign_Name_used _ _ _ _ hsw];refine ZB (wpAny_standAt (ZB ?_));obtain ⟨tg,iter,ifs,asy⟩:=gc;obtain rfl:asy=0:=ha;show wpAny _ _ (do let _ <- comprehension (.ListComp elt (⟨tg,iter,ifs,0⟩ :: rest) scope pos) scope X.env _ (newList []) false (eval iter X.env) (some (assign (.Name y py) X.env))) _ _ s
 refine ZB (thn (wpAny_comprehension_free (use:=some (assign (.Name y py) X.env)) (Q:=λ_ s'=>SP X pins Dd .next s') rfl hfold (jz λx hx hk=>I.ok.has x.1 (.inl (S.frees x hx hk))) S.kind S.names ?_) λ_ s' hq=>ZP (ZP hq));refine thn (hi pins s σ H _ I ⟨σu,ρ,g,hs,hg,postS.bind p'⟩) λv s1 h1=>thn h1 λitv s2 h2 => ?_;obtain ⟨it,fp,tn,J,H2,e,I2,T,st2,f2,ρ1,iI,g1,sp1,hg1,ri1,p1⟩:=h2;subst e;revert p1;cases ecm:(lev C n).cm iI 0 t cs rest' elt' [] (List.replicate own.length none++frI.map λj=>(σu[j]?).getD none) g1 with
 | exc c fs g2=>intro p1;exact False.elim p1
 | bad=>intro p1;exact False.elim p1
 | ok us g2 =>
  intro p1;simp only [Out.bindB] at p1;split at p1
  .refine jA (c := .lst elt) hc S rfl (λpins s3 H3 fp=>let ⟨a,b,c,d⟩:=inner pins s3 H3 fp;⟨a,b,c,pf d⟩) I2 T st2 f2 (hs.step sp1) hg1 ri1 ecm λD Cc s' H' ρ' vs' m f I' sp' hg' hD0 hD' hn' ⟨vs,eo,rv'⟩ hns' nl nc stay => ?_
   subst eo;show wpAny _ _ (assign (.Name y py) X.env (.ref D)) _ _ s';refine wpAny_assign_Name (oz (v := .ref D) I' hN hiy (.inl hy) rfl (λs3 I3 ⟨a,hsb,ha⟩ => ?_) (.inr hy));have hne:Cc≠a:=by
    rcases ha with rfl | ha
    .exact nl
    .exact Ne.symm (nc y a ha)
   refine ⟨m,hns'.sameBut hsb hne,λh' hs3=>⟨_,H',stay s3 _ H' h' I3 (λ_ h _=>h) hs3,?_⟩⟩;simp only [PI.alloc,Out.bind,unl,az] at p1;by_cases hl:i < σu.length
   .simp only [hl,if_true] at p1
    refine p1 _ (ρ'++[D]) H' (sp'.named hD0) (hg'.named hD' hn' ⟨_,rfl,rv'⟩) ((hs.step (sp1.trans (sp'.named hD0))).set (u := .ref g2.length) (v := .ref D) ?_);refine ⟨D,rfl,?_⟩;rw [<-hg'.len];simp
   .simp only [hl,if_false] at p1
    exact False.elim p1
  .exact False.elim p1
end
section
variable{X:Cx}{W:XQ}{r:L}{C:Nat->List U->G->Out U}{pos:Pos}
noncomputable def DOk(X:Cx)(W:XQ)(r:L):List (Option Expr)->List Expr->List Str->List E->Prop
 | [],[],[],[]=>True
 | some (.Constant (.str s) _ _) :: ks,e :: es,k :: kk,e' :: es'=>s=k/\PE X e (tE X.K W (r.ev e'))/\DOk X W r ks es kk es'
 | _,_,_,_=>False
noncomputable def trD(K:KD)(W:XQ)(r:L):List Str->List E->List (TE×TE)
 | k :: kk,e' :: es'=>(tC (.str k),tE K W (r.ev e')) :: trD K W r kk es'
 | _,_=>[]
theorem qa:∀ {keys:List (Option Expr)} {es:List Expr} {ks:List Str} {es':List E},DOk X W r keys es ks es'->PPs X pos keys es (trD X.K W r ks es')/\keys.all (·.isSome)=true/\keys.length=es.length/\ks.length=keys.length/\es'.length=ks.length
 | [],[],[],[],_=>⟨CA,rfl,rfl,rfl,rfl⟩
 | some (.Constant (.str s) _ _) :: ks,e :: es,k :: kk,e' :: es',h=>by
  obtain ⟨rfl,h1,h2⟩:=h;obtain ⟨a,b,c,d,f⟩:=qa h2;exact ⟨BD ue h1 a,by simpa using b,by simp [c],by simp [d],by simp [f]⟩
theorem n0{K:KD}{σ:L2.St}{σu:Su}:∀ (ks:List Str) (es':List E) (ρ:List Addr) (H:Hp) (g:G) (P:List V->Hp->Prop) (Q:List (V×V)->Hp->Prop),es'.length=ks.length->RS K ρ H σu σ->RH K ρ H g->post K W (RVs K) (evs r.ev es' σu g) ρ H P ->
  (∀ vs H2,vs.length=ks.length->P vs H2->Q ((ks.zip vs).map λp=>(V.str p.1,p.2)) H2)->iO (trD K W r ks es') σ H Q
 | [],[],ρ,H,g,P,Q,_,hs,hg,p,q=>q [] H rfl (p.okHere hg rfl)
 | k :: ks,e' :: es',ρ,H,g,P,Q,hl,hs,hg,p,q=>by
  refine ⟨σu,ρ,g,hs,hg,(post.bind p).mono λy H2 ⟨ρ1,u,g1,s1,h1,r1,p1⟩ => ?_⟩;refine n0 ks es' ρ1 H2 g1 (λvs H3=>P (y :: vs) H3) _ (by simpa using hl) (hs.step s1) h1 ((post.bind (R:=RVs K) p1).mono λvs H3 ⟨ρ2,us,g2,s2,h2,rs,p2⟩=>p2.okHere h2 ⟨y,vs,rfl,RV.step s2 _ _ r1,rs⟩) λvs H3 hv hp => ?_
  exact q (y :: vs) H3 (by simp [hv]) hp
 | [],_ :: _,_,_,_,_,_,hl,_,_,_,_=>by simp at hl
 | _ :: _,[],_,_,_,_,_,hl,_,_,_,_=>by simp at hl
theorem Bv{kvs:List (Key×V)}{k:Key}(h:k ∉ kvs.map (·.1)):aZ kvs k=none:=by
 unfold aZ;rw [Option.map_eq_none_iff,List.find?_eq_none];intro p hp z;exact h (List.mem_map.mpr ⟨p,hp,KC z⟩)
theorem pz:∀ (more acc:List (Key×V)),((acc++more).map (·.1)).Nodup->cX acc more=acc++more
 | [],acc,_=>by simp [cX]
 | p :: r,acc,h=>by
  have hn:p.1 ∉ acc.map (·.1):=λz=>by
   rw [List.map_append,List.map_cons,List.nodup_append] at h;exact h.2.2 _ z _ List.mem_cons_self rfl
  show cX (putK acc p.1 p.2) r=_;rw [BC _ (Bv hn),pz r _ (by simpa using h)]
  simp
theorem rO{K:KD}{ρ:List Addr}{H:Hp}:∀ (ks:List Str) {us:List U} {vs:List V},RVs K ρ H us vs->RK K ρ H (ks.zip us) ((ks.zip vs).map λp=>(Sum.inr p.1,p.2))
 | [],_,_,_=>by simp [RK]
 | k :: ks,[],_,h=>by cases h;simp [RK]
 | k :: ks,u :: us,_,h=>by
  obtain ⟨v,r,rfl,h1,h2⟩:=h;exact ⟨v,_,rfl,h1,rO ks h2⟩
theorem DJ{keys:List (Option Expr)}{es:List Expr}{ks:List Str}{es':List E}(h:DOk X W r keys es ks es')(h0:keys≠[])(h15:keys.length<=15)(hnd:ks.Nodup):PE X (.Dict keys es pos) (tE X.K W (evF C r (.ddsp ks es'))):=by
 obtain ⟨pp,al,kl,kl2,el⟩:=qa (pos:=pos) h;refine (C5 pp al kl h0 h15).imp λσ H Q ⟨σu,ρ,g,hs,hg,p⟩ => ?_;intro q hq;have sp0:Stp X.K ρ H ρ (upd H q (.dK [])):=Stp.fresh hq;have hqn:q ∉ ρ:=λz=>by
  obtain ⟨n,e⟩:=List.mem_iff_getElem?.mp z;obtain ⟨o,ho⟩:=hg.there e;rw [hq] at ho;cases ho
 refine n0 ks es' ρ _ g (λvs H2=>H2 q=some (.dK [])/\Q (.ref q) (upd H2 q (.dK ((ks.zip vs).map λp=>(Sum.inr p.1,p.2))))) _ el (hs.step sp0) (hg.step_fresh hq) ?_ λvs H2 hv ⟨e2,q2⟩=>⟨e2,(ks.zip vs).map (λp=>(Sum.inr p.1,p.2)),?_,?_,?_⟩
 .have p':post X.K W (RV X.K) ((evs r.ev es' σu g).bind λus g=>PI.alloc (.dst (ks.zip us)) g) ρ H Q:=p
  revert p';cases evs r.ev es' σu g with
  | bad=>exact λp'=>p'
  | exc c fs g1=>exact λp' vs ρ' H' s' h' rs=>p' vs ρ' H' (sp0.trans s') h' rs
  | ok us g1 =>
   intro p' vs ρ' H' s' h' rs;have hq':H' q=some (.dK []):=s'.oth q _ upd_same hqn;have hn':q ∉ ρ':=gM s' hqn upd_same;refine ⟨hq',p' (.ref q) (ρ'++[q]) _ (((sp0.trans s').accum hq hq' trivial).named hq) ((h'.accum hq' trivial hn').named upd_same hn' ⟨_,rfl,rO ks (rs.accum hq' trivial)⟩) ⟨q,rfl,?_⟩⟩;rw [<-h'.len];simp
 .rw [List.map_map];rfl
 .rw [List.length_map,List.length_zip];omega
 .rw [pz _ [] ?_,List.nil_append]
  .exact q2
  .rw [List.nil_append,List.map_map]
   have e:(ks.zip vs).map ((λkv:Key×V=>kv.1) ∘ λp=>(Sum.inr p.1,p.2))=ks.map Sum.inr:=by
    have z:(ks.zip vs).map Prod.fst=ks:=by rw [List.map_fst_zip];omega
    conv=>rhs;rw [<-z]
    rw [List.map_map];rfl
   rw [e];exact List.Pairwise.map _ (λa b h z=>h (Sum.inr.inj z)) hnd
end
section
variable{prog:Program}{w:World}{A:Around}{R:Result->Shared->Prop}{h0:Heap}{I l S:Addr}{items:Array Value}{zs:Nat->Array Value}
end
section
variable{prog:Program}{w:World}{A:Around}{E:Value->Shared->Prop}{s:Shared}{l e:Addr}{items:Array Value}{zs:Nat->Array Value}{ne:Nat}
end
section
variable{X:Cx}{W:XQ}
end
noncomputable abbrev W0:XQ:=PTs.W0'
section
variable{X:Cx}{W:XQ}{C:Nat->List U->G->Out U}{r:L}{pos p2:Pos}{a b c e tg:Expr}{a' b' c' e':E}{t:Tg}
theorem Hg{iter:Expr}{it':E}{bs:List Stmt}{bs':List S}{n:Nat}(hp:PassesOwn (model X.prog X.w) X.A X.env X.xe)(hc:X.calm=true)(hi:PI X tg iter (tI X.K W (itF (lev C n) it')))(hg:PG X tg (tG X.K t))(hb:∀ n,PSs X bs (tSt X.K W ((lev C n).ex bs')))
  (hs:∀ x,foldedSetIterable iter X.env x=pure x):PS X (.For tg iter bs [] pos) (tSt X.K W (s1F (lev C n) (.for t it' bs'))):=by
 have hb':PSs X bs (λD σ H => ∃ m,tSt X.K W ((lev C m).ex bs') D σ H):=λpins s σ H D I ⟨m,h⟩=>hb m pins s σ H D I h;refine (EU hp hc hi hg hb' hs).imp λD σ H ⟨σu,ρ,g,hs,hg,p⟩ => ?_;refine ⟨σu,ρ,g,hs,hg,(postS.bind (R:=RI X.K) p).mono λJ H1 ⟨ρ1,it,g1,s1,h1,ri,p1⟩ => ?_⟩;refine ⟨λi m σ H => ∃ σu ρ g,RS X.K ρ H σu σ/\RH X.K ρ H g/\RI X.K ρ H it J/\postS X.K W ((lev C m).fr t it i bs' σu g) ρ H D,⟨n,σu,ρ1,g1,hs.step s1,h1,ri,p1⟩,?_⟩;rintro i m σ H ⟨σu,ρ,g,hs,hg,ri,p⟩;cases m with
 | zero=>exact p.elim
 | succ m =>
  have p':postS X.K W (frF (lev C m) t it i bs' σu g) ρ H D:=p;simp only [frF] at p';cases en:next it i g with
  | none=>simp only [en] at p';exact p'.elim
  | some o =>
   cases o with
   | none=>simp only [en] at p';exact .inl ⟨pP hg ri en,p' _ ρ H .refl hg hs⟩
   | some u =>
    simp only [en] at p';obtain ⟨go,yl⟩:=xq hg ri en;refine .inr ⟨go,λσ' H' => ∃ σu ρ g,RS X.K ρ H' σu σ'/\RH X.K ρ H' g/\RI X.K ρ H' it J/\postS X.K W ((lev C m).fr t it (i+1) bs' σu g) ρ H' D,λσ' H' q=>⟨m,Nat.lt_succ_self _,q⟩,λx H' y => ?_⟩;obtain ⟨spy,hgy,rv⟩:=yl x H' y;cases eb:az t u σu with
    | none=>simp only [eb] at p';exact p'.elim
    | some σ1 =>
     simp only [eb] at p';refine ⟨σu,ρ,g,u,σ1,hs.step spy,hgy,rv,oB eb,λσ2 hs2=>⟨m,σ1,ρ,g,hs2,hgy,?_⟩⟩;exact vf (k:=λσ' g=>(lev C m).fr t it (i+1) bs' σ' g) (postS.from p' spy) λσ3 g3 σ ρ' H' s3 h3 hs3 p3=>⟨σ3,ρ',g3,hs3,h3,(ri.step spy).step s3,p3⟩
noncomputable def spI(K:KD)(fns:List Fn)(d i np:Nat):Sp:=λvs H Q _ => ∃ fu ρ g us,RH K ρ H g/\RVs K ρ H us vs/\us.length=np/\post K W0 (RV K) (aa fns fu d i us g) ρ H Q
theorem oA{fns:List Fn}{fu d i:Nat}{us:List U}{g:G}{np:Nat}{K:KD}{ρ:List Addr}{H:Hp}{Q:VK}(hnp:∀ F,fns[i]? = some F->F.np=np)(p:post K W0 (RV K) (aa fns fu d i us g) ρ H Q):us.length=np:=by
 cases d with
 | zero=>exact p.elim
 | succ d =>
  simp only [aa] at p;cases e:fns[i]? with
  | none=>simp only [e] at p;exact p.elim
  | some F =>
   simp only [e,dk] at p;split at p
   .rename_i h;rw [h,hnp F e]
   .exact p.elim
theorem DK{fns:List Fn}{fu d i k:Nat}{x:Str}{f:Addr}{fd:FuncData}{ps:List Str}{p:Pos}{es:List Expr}{es':List E}(F:FnOk X.prog X.w X.K X.mg X.base CX0 k f fd ps (spI X.K fns d i ps.length))(hnp:∀ F,fns[i]? = some F->F.np=ps.length)
  (hr:Room k X.A) (hg:Gl X x) (hm:X.mg x=some (.ref f)) (hk:PySem.W.keepIn X.K (.ref f)=true) (hb:Binds X.K fd ps []) (hdb:(x == ("__debug__" : Str))=false) (ha:PA X (a :: es) (tAr X.K W0 (evs r.ev es')))
  (hst:starEach (a :: es) X.env=(false,eval a X.env) :: starEach es X.env) (hpl:(backTo pos (starEach es X.env)).any (·.1)=false) :
  PE X (.Call (.Name x p) (a :: es) [] pos) (tE X.K W0 (evF (aa fns fu d) r (.call i es'))):=by
 refine (DC F hr hg hm hk hb .nil gi ha hdb hst hpl).imp λσ H Q ⟨σu,ρ,g,hs,hg,p⟩ => ?_;refine ⟨σu,ρ,g,hs,hg,(post.bind (R:=RVs X.K) p).mono λvs H1 ⟨ρ1,us,g1,s1,h1,rs,p1⟩ => ?_⟩;exact ⟨fu,ρ1,g1,us,h1,by rw [List.append_nil];exact rs,oA hnp p1,p1⟩
theorem AW{fns:List Fn}{fu d i k:Nat}{x:Str}{f:Addr}{fd:FuncData}{ps:List Str}{p:Pos}(F:FnOk X.prog X.w X.K X.mg X.base CX0 k f fd ps (spI X.K fns d i ps.length))(hnp:∀ F,fns[i]? = some F->F.np=ps.length)
  (hr:Room k X.A) (hg:Gl X x) (hm:X.mg x=some (.ref f)) (hk:PySem.W.keepIn X.K (.ref f)=true) (hb:Binds X.K fd ps []) (hdb:(x == ("__debug__" : Str))=false) :
  PE X (.Call (.Name x p) [] [] pos) (tE X.K W0 (evF (aa fns fu d) r (.call i []))):=by
 refine (AR F hr hg hm hk hb .nil gi hdb).imp λσ H Q ⟨σu,ρ,g,hs,hg,p⟩ => ?_;have p':post X.K W0 (RV X.K) (aa fns fu d i [] g) ρ H Q:=p;exact ⟨fu,ρ,g,[],hg,rfl,oA hnp p',p'⟩
end
theorem ixOf_get{N:List Str}{x:Str}{i:Nat}(h:bq N x=some i):N[i]? = some x:=by
 obtain ⟨h1,h2,_⟩:=List.findIdx?_eq_some_iff_getElem.mp h;rw [List.getElem?_eq_getElem h1];exact congrArg some (eq_of_beq h2)
theorem sR{e:Expr}{x:Str}(h:nmE e=some x):∃ p,e = .Name x p:=by
 cases e with
 | Name y p=>cases h;exact ⟨p,rfl⟩
 | _=>cases h
theorem nP{e:Expr}{c:Str×List Expr}(h:fZ e=some c):∃ p q,e = .Call (.Name c.1 p) c.2 [] q:=by
 cases e with
 | Call f es kws q =>
  cases kws with
  | nil =>
   obtain ⟨n,hn,rfl⟩:=Option.map_eq_some_iff.mp h;obtain ⟨p,rfl⟩:=sR hn;exact ⟨p,q,rfl⟩
  | cons _ _=>cases h
 | _=>cases h
section
variable(T:Tab)(sc:Scope)(ce:Expr->Option E)
end
open PySem PySem.Spec PyProof.Rows L2 PySem.W
theorem aV{a:Expr}{env:Env}(h:isStar a=false)(es:List Expr):starEach (a :: es) env=(false,eval a env) :: starEach es env:=by
 cases a <;> first | rfl | cases h
theorem dv{env:Env}{pos:Pos}:∀ {es:List Expr},es.any isStar=false->(backTo pos (starEach es env)).any (·.1)=false
 | [],_=>rfl
 | a :: es,h=>by
  rw [List.any_cons,Bool.or_eq_false_iff] at h;rw [aV h.1];show (false || (backTo pos (starEach es env)).any (·.1))=false;rw [dv h.2]
  rfl
section
variable{K:KD}{W W':XQ}{ρ:List Addr}{H:Hp}
theorem ny{α β α' β':Type}{R:List Addr->Hp->α->β->Prop}{R':List Addr->Hp->α'->β'->Prop}{o:Out α}{k:α->G->Out α'}{Q:β'->Hp->Prop}(h:post K W R' (o.noex.bind k) ρ H Q):
  post K W' R o ρ H (λv H1 => ∃ ρ1 u g1,Stp K ρ H ρ1 H1/\RH K ρ1 H1 g1/\R ρ1 H1 u v/\post K W R' (k u g1) ρ1 H1 Q):=by
 cases o with
 | ok u g=>exact λv ρ1 H1 s1 h1 r1=>⟨ρ1,u,g,s1,h1,r1,post.from (o:=k u g) h s1⟩
 | exc c fs g=>exact h.elim
 | bad=>exact h
end
section
variable{X:Cx}{pos:Pos}
theorem fJ{env:Env}:∀ {kws:List Keyword},kwOk kws=true->(backToKw pos (keywordEach kws env)).all (·.1.isSome)=true/\(backToKw pos (keywordEach kws env)).filterMap (·.1)=aR kws/\(backToKw pos (keywordEach kws env)).any (·.1.isNone)=false
 | [],_=>⟨rfl,rfl,rfl⟩
 | ⟨nm,e,kp⟩ :: kws,h=>by
  unfold kwOk at h;rw [List.all_cons,Bool.and_eq_true] at h;obtain ⟨a,b,c⟩:=fJ (env:=env) (kws:=kws) h.2;cases nm with
  | none=>cases h.1
  | some n =>
   refine ⟨?_,?_,?_⟩
   .show (true && _)=true
    rw [Bool.true_and];exact a
   .show n :: _=n :: _
    exact congrArg (n :: ·) b
   .show (false || _)=false
    rw [Bool.false_or];exact c
theorem iD:∀ {kws:List Keyword},kwOk kws=true->(aR kws).length=kws.length
 | [],_=>rfl
 | ⟨nm,e,kp⟩ :: kws,h=>by
  unfold kwOk at h;rw [List.all_cons,Bool.and_eq_true] at h;cases nm with
  | none=>cases h.1
  | some n =>
   show (aR kws).length+1=kws.length+1;rw [iD h.2]
theorem _root_.L2.PK.imp{kws:List Keyword}{t t':TA}(h:PK X kws t)(q:∀ σ H Q,t' σ H Q->t σ H Q):PK X kws t':=λp pins s σ H Q I hw=>h p pins s σ H Q I (q σ H Q hw)
end
section
variable{X:Cx}{CX:CXT}{k:Nat}{f:Addr}{fd:FuncData}{ps ks:List Str}{sp:Sp}{E:XK}{x:Str}{p pos:Pos}{es:List Expr}{kws:List Keyword}{t tk:TA}{g:List Value->List Value->List Value}{gV:List V->List V->List V}
theorem As(F:FnOk X.prog X.w X.K X.mg X.base CX k f fd ps sp)(hr:Room k X.A)(hg:Gl X x)(hm:X.mg x=some (.ref f))(hk:PySem.W.keepIn X.K (.ref f)=true)(hb:KBinds X.K fd ps ks g gV)(hx:bZ CX X E)
  (ha:PA X es t) (hnil:es=[] -> ∀ σ H Q,t σ H Q->Q [] H) (hkw:PK X kws tk) (hall:(backToKw pos (keywordEach kws X.env)).all (·.1.isSome)=true) (hks:(backToKw pos (keywordEach kws X.env)).filterMap (·.1)=ks)
  (hdb:(x == ("__debug__" : Str))=false) (hst:es.any isStar=false) (hno:(backToKw pos (keywordEach kws X.env)).any (·.1.isNone)=false) :
  PE X (.Call (.Name x p) es kws pos) (tO sp gV E t tk):=by
 cases es with
 | cons e es =>
  rw [List.any_cons,Bool.or_eq_false_iff] at hst;refine Bc F hr hg hm hk hb hx ha hkw hall hks hdb (aV hst.1 _) ?_;rw [aV hst.1];show ((false || (backTo pos (starEach es X.env)).any (·.1)) || _)=false;rw [dv hst.2,hno]
  rfl
 | nil =>
  intro pins s σ H Q I h;refine wpAny_Call_Name_kw (eB I hg hm ?_ hdb);refine PySem.W.callWith_KW0 (h₀ := X.base) I.ok.mod.kin hk hall ?_ (by show (false || _)=false;rw [hno];rfl)
  have q:=hnil rfl σ H _ h;refine thn (hkw pos pins s σ H _ I q) λws s2 ⟨zs,H2,I2,rz,q2⟩=>⟨I2.kIn,?_⟩;rw [hks];exact ie F hr hb hx I2 .nil rz q2
end
section
variable{X:Cx}{CX:CXT}{k:Nat}{f C:Addr}{fd:FuncData}{ps ks:List Str}{sp:Sp}{E:XK}{x m:Str}{p pos apos:Pos}{o:Expr}{es:List Expr}{kws:List Keyword}{ta:TE}{t tk:TA}{g:List Value->List Value->List Value}{gV:List V->List V->List V}
theorem om{pins:List (Addr×Obj)}{σ:L2.St}{H:Hp}{s:Shared}{Q:VK}{us ws:List Value}{vs zs:List V}(M:Mk X.K C f)(F:FnOk X.prog X.w X.K X.mg X.base CX k f fd ps sp)(hr:Room (k+1) X.A)(hb:KBinds X.K fd ps ks g gV)
  (hx:bZ CX X E) (I:Inv X pins σ H s) (r:Vals vs us) (rz:Vals zs ws)
  (h:∀ x dx,H x=none->H dx=none->dx≠x->sp (gV (.ref x :: vs) zs) (upd (upd H dx (.own x)) x (.ins C dx [])) (λv H2=>v=.non/\Q (.ref x) H2) E) :
  wpAny (model X.prog X.w) X.A (call (.ref C) us (ks.zip ws)) (EP X pins σ Q) X.xe s:=by
 have hq:=h (s.heap.objs.size+1) s.heap.objs.size (I.hok.fresh (Nat.le_succ _)) (I.hok.fresh (Kw _)) (Kz (Nat.lt_succ_self _));have I2:=Inv.made (C:=C) I;have r2:Vals (gV (.ref (s.heap.objs.size+1) :: vs) zs) (g (.ref (s.heap.objs.size+1) :: us) ws):=hb.rel (.cons rfl r) rz;have hl:(g (.ref (s.heap.objs.size+1) :: us) ws).length=ps.length:=by rw [<-r2.length];exact F.len _ _ _ _ hq
 refine wpAny_call (A8 (f:=f) I.kIn M.makes M.init (beq_iff_eq.mp M.fn) (codeAny_mono (F.run _ X.stack _ _ ⟨.ref (s.heap.objs.size+1) :: us,ks.zip ws⟩ _ _ _ E (hr.make C us (ks.zip ws)) (I2.env0.make C us (ks.zip ws)) (hb.to _ _ ws I2.kIn hl) r2 hq) λr s' hq' => ?_));cases r with
 | error e=>exact hx pins σ _ _ e s' I2 hq'
 | ok fl =>
  cases fl with
  | ret u =>
   obtain ⟨v,H',I3,rv,ev,q3⟩:=I2.after hq';subst ev;exact ⟨rv,⟨.ref (s.heap.objs.size+1),H',I3,rfl,q3⟩⟩
  | next=>exact False.elim hq'
  | brk=>exact False.elim hq'
  | cont=>exact False.elim hq'
noncomputable def FF(C:Addr)(sp:Sp)(gV:List V->List V->List V)(E:XK)(t tk:TA):TE:=λσ H Q=>t σ H λvs H1=>tk σ H1 λzs H2 => ∀ x dx,H2 x=none->H2 dx=none->dx≠x ->
 sp (gV (.ref x :: vs) zs) (upd (upd H2 dx (.own x)) x (.ins C dx [])) (λv H3=>v=.non/\Q (.ref x) H3) E
theorem AM(M:Mk X.K C f)(F:FnOk X.prog X.w X.K X.mg X.base CX k f fd ps sp)(hr:Room (k+1) X.A)(hg:Gl X x)(hm:X.mg x=some (.ref C))(hb:KBinds X.K fd ps ks g gV)(hx:bZ CX X E)
  (ha:PA X es t) (hnil:es=[] -> ∀ σ H Q,t σ H Q->Q [] H) (hkw:PK X kws tk) (hall:(backToKw pos (keywordEach kws X.env)).all (·.1.isSome)=true) (hks:(backToKw pos (keywordEach kws X.env)).filterMap (·.1)=ks)
  (hdb:(x == ("__debug__" : Str))=false) (hst:es.any isStar=false) (hno:(backToKw pos (keywordEach kws X.env)).any (·.1.isNone)=false) :
  PE X (.Call (.Name x p) es kws pos) (FF C sp gV E t tk):=by
 intro pins s σ H Q I h;refine wpAny_Call_Name_kw (eB I hg hm ?_ hdb);cases es with
 | cons e es =>
  rw [List.any_cons,Bool.or_eq_false_iff] at hst;refine PySem.W.callWith_KW (h₀ := X.base) I.ok.mod.kin M.kp hall (thn (ha pos pins s σ H _ I h) λus s1 ⟨vs,H1,I1,r,q⟩ => ?_) ?_ (aV hst.1 _)
  .refine thn (hkw pos pins s1 σ H1 _ I1 q) λws s2 ⟨zs,H2,I2,rz,q2⟩=>⟨I2.kIn,?_⟩
   rw [hks];exact om M F hr hb hx I2 r rz q2
  .rw [aV hst.1]
   show ((false || (backTo pos (starEach es X.env)).any (·.1)) || _)=false;rw [dv hst.2,hno]
   rfl
 | nil =>
  have q:=hnil rfl σ H _ h;refine PySem.W.callWith_KW0 (h₀ := X.base) I.ok.mod.kin M.kp hall ?_ (by show (false || _)=false;rw [hno];rfl)
  refine thn (hkw pos pins s σ H _ I q) λws s2 ⟨zs,H2,I2,rz,q2⟩=>⟨I2.kIn,?_⟩;rw [hks];exact om M F hr hb hx I2 .nil rz q2
noncomputable def F7(X:Cx)(CX:CXT)(k:Nat)(m:Str)(ks:List Str)(E:XK)(ta:TE)(t tk:TA):TE:=λσ H Q=>ta σ H λx H1 => ∃ (a C dx:Addr) (fs:List (Str×V)) (f:Addr) (fd:FuncData) (ps:List Str) (sp:Sp) (g:List Value->List Value->List Value) (gV:List V->List V->List V),
 x=.ref a/\H1 a=some (.ins C dx fs)/\fs.lookup m=none/\Cls X.K C/\Meth X.K C m f/\FnOk X.prog X.w X.K X.mg X.base CX k f fd ps sp/\KBinds X.K fd ps ks g gV/\t σ H1 λvs H2=>tk σ H2 λzs H3=>sp (gV (x :: vs) zs) H3 Q E
theorem Ag{pl:Sem Bool}(he:PE X o ta)(hr:Room k X.A)(hx:bZ CX X E)(ha:PA X es t)(hnil:es=[] -> ∀ σ H Q,t σ H Q->Q [] H)(hkw:PK X kws tk)(hall:(backToKw pos (keywordEach kws X.env)).all (·.1.isSome)=true)(hks:(backToKw pos (keywordEach kws X.env)).filterMap (·.1)=ks)
  (hst:es.any isStar=false) (hno:(backToKw pos (keywordEach kws X.env)).any (·.1.isNone)=false)
  (ht:eval (.Call (.Attribute o m apos) es kws pos) X.env=(do
   let ov <- eval o X.env
   standAt apos.atName
   let (f,first) <- holding [ov] (getMethod ov m pl)
   callWith pos f first (backTo pos (starEach es X.env)) (backToKw pos (keywordEach kws X.env)))) :
  PE X (.Call (.Attribute o m apos) es kws pos) (F7 X CX k m ks E ta t tk):=by
 intro pins s σ H Q I h;refine PySem.W.methodCall_KW (pl:=pl) (thn (he pins s σ H _ I h) λu s1 hz => ?_) ht;obtain ⟨x,H1,I1,rx,a,C,dx,fs,f,fd,ps,sp,g,gV,ex,ea,l,c,hm,F,hb,q⟩:=hz;subst ex;obtain rfl:u=Value.ref a:=rx;refine zE I1 ea c hm l ?_;cases es with
 | cons e es =>
  rw [List.any_cons,Bool.or_eq_false_iff] at hst;refine PySem.W.callWith_KW (first:=[.ref a]) (h₀ := X.base) I.ok.mod.kin hm.kp hall (thn (ha pos pins s1 σ H1 _ I1 q) λus s2 ⟨vs,H2,I2,r,q2⟩ => ?_) ?_ (aV hst.1 _)
  .refine thn (hkw pos pins s2 σ H2 _ I2 q2) λws s3 ⟨zs,H3,I3,rz,q3⟩=>⟨I3.kIn,?_⟩
   rw [hks];exact ie (us := .ref a :: us) (vs := .ref a :: vs) F hr hb hx I3 (.cons rfl r) rz q3
  .rw [aV hst.1]
   show ((false || (backTo pos (starEach es X.env)).any (·.1)) || _)=false;rw [dv hst.2,hno]
   rfl
 | nil =>
  have q:=hnil rfl σ H1 _ q;refine PySem.W.callWith_KW0 (first:=[.ref a]) (h₀ := X.base) I.ok.mod.kin hm.kp hall ?_ (by show (false || _)=false;rw [hno];rfl)
  refine thn (hkw pos pins s1 σ H1 _ I1 q) λws s3 ⟨zs,H3,I3,rz,q3⟩=>⟨I3.kIn,?_⟩;rw [hks];exact ie (us:=[.ref a]) (vs:=[.ref a]) F hr hb hx I3 (.cons rfl .nil) rz q3
end
section
variable{X:Cx}{W:XQ}{r:L}{pos p apos:Pos}{fns:List Fn}{fu d i k nd:Nat}{x m:Str}{f:Addr}{fd:FuncData}{F:KF}{ddV:List (Str×V)}{dd:List (Str×Value)}{es:List Expr}{kws:List Keyword}{es' ks':List E}
theorem kn{K:Frag}(KO:KFok K fd F nd ddV dd)(ρ:List Addr)(H:Hp):F2 (PR (RV K ρ H)) F.dd ddV:=by
 have:=KO.urel;revert this;generalize F.dd=l1;generalize ddV=l2;intro this
 induction this with
 | nil=>exact .nil
 | cons r _ ih=>exact .cons ⟨r.1,r.2 _ _⟩ ih
theorem kL{us:List U}{g:G}{np:Nat}{K:Frag}{W:XQ}{ρ:List Addr}{H:Hp}{Q:VK}(hnp:∀ F',fns[i]? = some F'->F'.np=np)(p:post K W (RV K) (aa fns fu d i us g) ρ H Q):us.length=np:=by
 cases d with
 | zero=>exact p.elim
 | succ d =>
  simp only [aa] at p;cases e:fns[i]? with
  | none=>rw [e] at p;exact p.elim
  | some F' =>
   rw [e] at p;simp only [dk] at p;split at p
   .rename_i hl;rw [hl];exact hnp F' e
   .exact p.elim
theorem Al(O:FnOk X.prog X.w X.K X.mg X.base CX0 k f fd (F.ns++F.ks) (spI X.K fns d i (F.ns++F.ks).length))(hnp:∀ F',fns[i]? = some F'->F'.np=(F.ns++F.ks).length)(KO:KFok X.K fd F nd ddV dd)(hne:F.ns++F.ks≠[])
  (hsh:cT F nd es'.length (aR kws)=true) (hkw:kwOk kws=true) (hel:es'.length=es.length) (hkl:ks'.length=kws.length) (hr:Room k X.A) (hg:Gl X x) (hm:X.mg x=some (.ref f)) (hk:keepIn X.K (.ref f)=true) (hdb:(x == ("__debug__" : Str))=false)
  (ha:PA X es (tAr X.K W0 (evs r.ev es'))) (hka:PK X kws (tAr X.K W0 (evs r.ev ks'))) (hst:es.any isStar=false) :
  PE X (.Call (.Name x p) es kws pos) (tE X.K W0 (evF (aa fns fu d) r (.callk i es' ks' (dq F es'.length (aR kws))))):=by
 obtain ⟨k1,k2,k3⟩:=fJ (pos:=pos) (env:=X.env) hkw;refine (As O hr hg hm hk (KO.binds hsh hne) gi ha (λe σ H Q ⟨σu,ρ,g,hs,hg,p⟩=>by subst e;cases es' with | nil=>exact post.okHere (R:=RVs X.K) (u:=[]) p hg rfl | cons=>cases hel) hka k1 k2 hdb hst k3).imp λσ H Q ⟨σu,ρ,g,hs,hg,p⟩ => ?_
 refine ⟨σu,ρ,g,hs,hg,(ny (R:=RVs X.K) p).mono λvs H1 ⟨ρ1,us,g1,s1,h1,rs,p1⟩ => ?_⟩;refine ⟨σu,ρ1,g1,hs.step s1,h1,(ny (R:=RVs X.K) p1).mono λzs H2 ⟨ρ2,ws,g2,s2,h2,rz,p2⟩ => ?_⟩;split at p2
 .rename_i hc
  obtain ⟨c1,c2⟩:=hc;have c2':ws.length=(aR kws).length:=by rw [c2,hkl,iD hkw]
  have rs':=RVs.step s2 _ _ rs;have hv:vs.length=es'.length/\zs.length=(aR kws).length:=⟨by rw [<-rs'.length];exact c1,by rw [<-rz.length];exact c2'⟩
  rw [jD c1 c2'] at p2;refine ⟨fu,ρ2,g2,_,h2,?_,kL hnp p2,p2⟩;dsimp only;rw [if_pos hv];exact (fw (kn KO ρ2 H2) (.rvs rs') (.rvs rz)).toRvs
 .exact p2.elim
theorem oy{x:U}{g:G}{q:Nat×List (Nat×U)}(e:a8 x g=some q):∃ n,x=.ref n/\g[n]? = some (.ins q.1 q.2):=by
 unfold a8 at e;split at e
 .split at e
  .rename_i h;cases e;exact ⟨_,rfl,h⟩
  .cases e
 .cases e
theorem DL{C:Addr}{c:Nat}(M:Mk X.K C f)(hC:nsIn X.K mainGlobals (aO c)=some (some (.ref C)))(O:FnOk X.prog X.w X.K X.mg X.base CX0 k f fd (F.ns++F.ks) (spI X.K fns d i (F.ns++F.ks).length))(hnp:∀ F',fns[i]? = some F'->F'.np=(F.ns++F.ks).length)(KO:KFok X.K fd F nd ddV dd)(hne:F.ns++F.ks≠[])
  (hsh:cT F nd (es'.length+1) (aR kws)=true) (hkw:kwOk kws=true) (hel:es'.length=es.length) (hkl:ks'.length=kws.length) (hr:Room (k+1) X.A) (hg:Gl X x) (hm:X.mg x=some (.ref C)) (hdb:(x == ("__debug__" : Str))=false)
  (ha:PA X es (tAr X.K W0 (evs r.ev es'))) (hka:PK X kws (tAr X.K W0 (evs r.ev ks'))) (hst:es.any isStar=false) :
  PE X (.Call (.Name x p) es kws pos) (tE X.K W0 (evF (aa fns fu d) r (.make c i es' ks' (dq F (es'.length+1) (aR kws))))):=by
 obtain ⟨k1,k2,k3⟩:=fJ (pos:=pos) (env:=X.env) hkw;refine (AM M O hr hg hm (KO.binds hsh hne) gi ha (λe σ H Q ⟨σu,ρ,g,hs,hg,p⟩=>by subst e;cases es' with | nil=>exact post.okHere (R:=RVs X.K) (u:=[]) p hg rfl | cons=>cases hel) hka k1 k2 hdb hst k3).imp λσ H Q ⟨σu,ρ,g,hs,hg,p⟩ => ?_
 refine ⟨σu,ρ,g,hs,hg,(post.bind (R:=RVs X.K) p).mono λvs H1 ⟨ρ1,us,g1,s1,h1,rs,p1⟩ => ?_⟩;refine ⟨σu,ρ1,g1,hs.step s1,h1,(post.bind (R:=RVs X.K) p1).mono λzs H2 ⟨ρ2,ws,g2,s2,h2,rz,p2⟩ => ?_⟩;intro a dx ha hdx hne';split at p2
 .rename_i hc
  obtain ⟨c1,c2⟩:=hc;have c2':ws.length=(aR kws).length:=by rw [c2,hkl,iD hkw]
  have hax:(upd H2 dx (.own a)) a=none:=by rw [ar (Ne.symm hne')];exact ha
  have st:Stp X.K ρ2 H2 (ρ2++[a]) (upd (upd H2 dx (.own a)) a (.ins C dx [])):=(Stp.fresh hdx).trans (Stp.alloc hax);have rh:RH X.K (ρ2++[a]) (upd (upd H2 dx (.own a)) a (.ins C dx [])) (g2++[.ins c []]):=(h2.step_fresh hdx).allocO hax ⟨C,dx,[],rfl,hC,rfl⟩;have rs':=RVs.step st _ _ (RVs.step s2 _ _ rs);have rz':=RVs.step st _ _ rz;have rx:RV X.K (ρ2++[a]) (upd (upd H2 dx (.own a)) a (.ins C dx [])) (.ref g2.length) (.ref a):=⟨a,rfl,by rw [<-h2.len];simp⟩
  have hv:(V.ref a :: vs).length=es'.length+1/\zs.length=(aR kws).length:=⟨by rw [List.length_cons,<-rs'.length,c1],by rw [<-rz.length];exact c2'⟩
  have e1:(U.ref g2.length :: us).length=es'.length+1:=by rw [List.length_cons,c1]
  rw [show (U.ref g2.length :: us++ws)=(U.ref g2.length :: us)++ws from rfl,jD (us:=U.ref g2.length :: us) e1 c2'] at p2;have p3:post X.K W0 (RV X.K) (aa fns fu d i (place F.ns F.ks (aR kws) F.dd (U.ref g2.length :: us) ws) (g2++[.ins c []])) (ρ2++[a]) (upd (upd H2 dx (.own a)) a (.ins C dx [])) (λv H3=>v=.non/\Q (.ref a) H3):=by
   refine (post.bind (R:=RV X.K) (p2.from st)).mono λv H3 ⟨ρ3,u,g3,s3,h3,r3,q3⟩ => ?_;split at q3
   .rename_i hu
    have e:=jJ r3;rw [hu] at e;exact ⟨KC e.symm,post.okHere q3 h3 (RV.step s3 _ _ rx)⟩
   .exact q3.elim
  refine ⟨fu,_,_,_,rh,?_,kL hnp p3,p3⟩;dsimp only;rw [if_pos hv];exact (fw (kn KO _ _) (F2.cons rx (.rvs rs')) (.rvs rz')).toRvs
 .exact p2.elim
noncomputable def JI(X:Cx)(fns:List Fn)(d k:Nat)(m:Str)(np:Nat)(kw:List Str)(tb:List (Nat×Nat×List (Nat ⊕ U))):Prop := ∀ c i pm,tb.lookup c=some (i,pm) -> ∃ C f fd F nd ddV dd,nsIn X.K mainGlobals (aO c)=some (some (.ref C))/\Cls X.K C/\Meth X.K C m f/\KFok X.K fd F nd ddV dd/\F.ns++F.ks≠[] /\
 cT F nd (np+1) kw=true/\pm=dq F (np+1) kw/\FnOk X.prog X.w X.K X.mg X.base CX0 k f fd (F.ns++F.ks) (spI X.K fns d i (F.ns++F.ks).length) /\ ∀ F',fns[i]? = some F'->F'.np=(F.ns++F.ks).length
theorem CV{o:Expr}{o':E}{j:Nat}{tb:List (Nat×Nat×List (Nat ⊕ U))}{pl:Sem Bool}(ho:PE X o (tE X.K W0 (r.ev o')))(hj:j < cb)(hm:aO j=m)(hM:JI X fns d k m es'.length (aR kws) tb)(hkw:kwOk kws=true)(hel:es'.length=es.length)(hkl:ks'.length=kws.length)(hr:Room k X.A)
  (ha:PA X es (tAr X.K W0 (evs r.ev es'))) (hka:PK X kws (tAr X.K W0 (evs r.ev ks'))) (hst:es.any isStar=false)
  (ht:eval (.Call (.Attribute o m apos) es kws pos) X.env=(do
   let ov <- eval o X.env
   standAt apos.atName
   let (f,first) <- holding [ov] (getMethod ov m pl)
   callWith pos f first (backTo pos (starEach es X.env)) (backToKw pos (keywordEach kws X.env)))) :
  PE X (.Call (.Attribute o m apos) es kws pos) (tE X.K W0 (evF (aa fns fu d) r (.meth o' j tb es' ks'))):=by
 obtain ⟨k1,k2,k3⟩:=fJ (pos:=pos) (env:=X.env) hkw;refine (Ag ho hr gi ha (λe σ H Q ⟨σu,ρ,g,hs,hg,p⟩=>by subst e;cases es' with | nil=>exact post.okHere (R:=RVs X.K) (u:=[]) p hg rfl | cons=>cases hel) hka k1 k2 hst k3 ht).imp λσ H Q hp=>one hp λσu ρ H g u x hs hg r1 p => ?_
 cases ei:a8 u g with
 | none=>rw [ei] at p;exact p.elim
 | some q =>
  rw [ei] at p;simp only [Option.bind_some] at p;obtain ⟨n,rfl,eg⟩:=oy ei;obtain ⟨a,C,dx,fs,c1,c2,c3,c4⟩:=hg.ins eg;obtain ⟨a',rfl,z⟩:=r1;rw [c1] at z;cases z;unfold cH at p;rcases c4.look hj with ⟨l1,l2⟩ | ⟨u,v,l1,_,_⟩
  .rw [l1] at p
   dsimp only at p;cases et:tb.lookup q.1 with
   | none=>rw [et] at p;exact p.elim
   | some ip =>
    obtain ⟨i,pm⟩:=ip;rw [et] at p;dsimp only at p;obtain ⟨C',f,fd,F,nd,ddV,dd,m1,m2,m3,KO,hne,hsh,rfl,O,hnp⟩:=hM q.1 i pm et;rw [c3] at m1;cases m1;refine ⟨a,C,dx,fs,f,fd,_,_,_,_,rfl,c2,by rw [<-hm];exact l2,m2,m3,O,KO.binds hsh hne,σu,ρ,g,hs,hg,(post.bind (R:=RVs X.K) p).mono λvs H1 ⟨ρ1,us,g1,s1,h1,rs,p1⟩ => ?_⟩
    refine ⟨σu,ρ1,g1,hs.step s1,h1,(post.bind (R:=RVs X.K) p1).mono λzs H2 ⟨ρ2,ws,g2,s2,h2,rz,p2⟩ => ?_⟩;split at p2
    .rename_i hc
     obtain ⟨c1',c2'⟩:=hc;have c2':ws.length=(aR kws).length:=by rw [c2',hkl,iD hkw]
     have rs':=RVs.step s2 _ _ rs;have rx:RV X.K ρ2 H2 (.ref n) (.ref a):=⟨a,rfl,s2.ext _ _ (s1.ext _ _ c1)⟩;have hv:(V.ref a :: vs).length=es'.length+1/\zs.length=(aR kws).length:=⟨by rw [List.length_cons,<-rs'.length,c1'],by rw [<-rz.length];exact c2'⟩
     have e1:(U.ref n :: us).length=es'.length+1:=by rw [List.length_cons,c1']
     rw [show (U.ref n :: us++ws)=(U.ref n :: us)++ws from rfl,jD (us:=U.ref n :: us) e1 c2'] at p2;refine ⟨fu,ρ2,g2,_,h2,?_,kL hnp p2,p2⟩
     try dsimp only
     rw [if_pos hv];exact (fw (kn KO _ _) (F2.cons rx (.rvs rs')) (.rvs rz)).toRvs
    .exact p2.elim
  .rw [l1] at p;exact p.elim
noncomputable def gE(K:Frag)(f:Str)(cs:List Nat):Prop := ∀ c,cs.contains c=true -> ∃ C,nsIn K mainGlobals (aO c)=some (some (.ref C))/\Cls K C/\NoAttr K C f
theorem ES{C:Nat->List U->G->Out U}{e:Expr}{e':E}{j:Nat}{cs:List Nat}(he:PE X e (tE X.K W (r.ev e')))(hb:attributeBase e m X.env (eval e X.env)=eval e X.env)(hj:j < cb)(hm:aO j=m)(hF:gE X.K m cs):PE X (.Attribute e m pos) (tE X.K W (evF C r (.fld e' j cs))):=by
 refine (Gw he hb).imp λσ H Q hp=>one hp λσu ρ H g u x hs hg r1 p => ?_;obtain ⟨w,e0,p'⟩:=post.lift p;clear p;cases ei:a8 u g with
 | none=>rw [ei] at e0;cases e0
 | some q =>
  rw [ei] at e0;simp only [Option.bind_some,c8] at e0;split at e0
  .rename_i hc
   obtain ⟨n,rfl,eg⟩:=oy ei;obtain ⟨a,C,dx,fs,c1,c2,c3,c4⟩:=hg.ins eg;obtain ⟨a',rfl,z⟩:=r1;rw [c1] at z;cases z;obtain ⟨C',d1,d2,d3⟩:=hF q.1 hc;rw [c3] at d1;cases d1;rcases c4.look hj with ⟨l1,_⟩ | ⟨u,v,l1,l2,rv⟩
   .rw [l1] at e0;cases e0
   .rw [l1] at e0;cases e0
    exact ⟨a,C,dx,fs,v,rfl,c2,d2,d3,by rw [<-hm];exact l2,post.okHere p' hg rv⟩
  .cases e0
theorem DT{o e:Expr}{o' e':E}{j:Nat}{cs:List Nat}{pos':Pos}(ho:PE X o (tE X.K W (r.ev o')))(he:PE X e (tE X.K W (r.ev e')))(hs:swapsWith e (some (.Attribute o m pos')) pos.line X.env=pure false)(hj:j < cb)(hm:aO j=m)(hF:gE X.K m cs):PS X (.Assign [.Attribute o m pos'] e pos) (tSt X.K W (s1F r (.fset o' j cs e'))):=by
 refine (Gk ho he hs).imp λD σ H ⟨σu,ρ,g,hs,hg,p⟩ => ?_;refine ⟨σu,ρ,g,hs,hg,(postS.bind (R:=RV X.K) p).mono λy H1 ⟨ρ1,u,g1,s1,h1,ry,p1⟩ => ?_⟩;refine ⟨σu,ρ1,g1,hs.step s1,h1,(postS.bind (R:=RV X.K) p1).mono λx H2 ⟨ρ2,w,g2,s2,h2,rx,p2⟩ => ?_⟩;have ry':=RV.step s2 _ _ ry;cases ef:bW w j cs u g2 with
 | none=>rw [ef] at p2;exact p2.elim
 | some g' =>
  rw [ef] at p2;unfold bW at ef;split at ef
  .split at ef
   .rename_i n c fs eg
    split at ef
    .rename_i hc
     cases ef;obtain ⟨a,C,dx,fs',c1,c2,c3,c4⟩:=h2.ins eg;obtain ⟨a',rfl,z⟩:=rx;rw [c1] at z;cases z;obtain ⟨C',d1,d2,d3⟩:=hF c hc.1;rw [c3] at d1;cases d1;refine ⟨a,C,dx,fs',rfl,c2,d2,d3,by rw [<-c4.length];exact hc.2,?_⟩
     have st:Stp X.K ρ2 H2 ρ2 (upd H2 a (.ins C dx (aY m y fs'))):=Stp.writeO c1 c2 trivial;refine p2 σ ρ2 _ st (h2.writeO c1 c2 trivial ⟨C,dx,_,rfl,c3,?_⟩) (((hs.step s1).step s2).step st);rw [<-hm];exact c4.put hj ry'
    .cases ef
   .cases ef
  .cases ef
end
theorem Dg{env:Env}{pos:Pos}{es:List Expr}{kws:List Keyword}(hst:es.any isStar=false)(hkw:kwOk kws=true)(hn:es.length+kws.length+1 < 30):methodCallForm (es.length+kws.length) (backTo pos (starEach es env)) (backToKw pos (keywordEach kws env))=true:=by
 unfold methodCallForm;obtain ⟨k1,_,_⟩:=fJ (pos:=pos) (env:=env) hkw;have h1:(backTo pos (starEach es env)).all (!·.1)=true:=by
  have:=dv (env:=env) (pos:=pos) hst;rw [List.any_eq_false] at this;rw [List.all_eq_true];intro x hx;simpa using this x hx
 rw [h1,k1,Bool.true_and,Bool.true_and,decide_eq_true_eq];split <;> omega
theorem AA{o:Expr}{m:Str}{ap cp:Pos}{env:Env}{es:List Expr}{kws:List Keyword}(hb:∀ w,attributeBase o m env w=w)(hst:es.any isStar=false)(hkw:kwOk kws=true)(hn:es.length+kws.length+1 < 30)(hline:(ap.endLine == cp.line)=true):
  eval (.Call (.Attribute o m ap) es kws cp) env=(do
   let ov <- eval o env
   standAt ap.atName
   let (f,first) <- holding [ov] (getMethod ov m (do return (<- importBound o env).getD true))
   callWith cp f first (backTo cp (starEach es env)) (backToKw cp (keywordEach kws env))):=by
 have hf:=Dg (env:=env) (pos:=cp) hst hkw hn;show (do
  let ov <- attributeBase o m env (eval o env)
  standAt ap.atName
  methodCall o m ap cp env ov (es.length+kws.length) (backTo cp (starEach es env)) (backToKw cp (keywordEach kws env)))=_
 rw [hb];unfold methodCall calleeOf methodCallPos;rw [hf];simp only [if_true,hline,Bool.or_true,pure_bind]
theorem base_of{o:Expr}{m:Str}{env:Env}(h:fR o=false)(w:Sem Value):attributeBase o m env w=w:=by
 cases o <;> first | rfl | cases h
open PySem PySem.Spec PyProof.Rows L2
structure XOk(T:Tab)(fns:List Fn)(d:Nat)(X:Cx)(sc:Scope)(N:List Str):Prop where
 hF:∀ (i:Nat) (x:Str),T.fns[i]? = some x->(x == ("__debug__" : Str))=false -> ∃ f fd ps,X.mg x=some (.ref f)/\PySem.W.keepIn X.K (.ref f)=true/\Binds X.K fd ps []/\FnOk X.prog X.w X.K X.mg X.base CX0 (2*d+2) f fd ps (spI X.K fns d i ps.length) /\ ∀ F,fns[i]? = some F->F.np=ps.length
 cs:∀ x u,T.cs.lookup x=some u -> ∃ v val,X.mg x=some val/\RelV v val /\ ∀ ρ H,RV X.K ρ H u v
 bt:∀ x∈T.bt,X.mg x=none
 hK:∀ (y:Str) (i:Nat) (F:KF) (nd:Nat),T.kf.lookup y=some (i,F,nd) -> ∃ f fd ddV dd,X.mg y=some (.ref f)/\PySem.W.keepIn X.K (.ref f)=true/\KFok X.K fd F nd ddV dd/\F.ns++F.ks≠[]/\FnOk X.prog X.w X.K X.mg X.base CX0 (2*d+2) f fd (F.ns++F.ks) (spI X.K fns d i (F.ns++F.ks).length) /\ ∀ F',fns[i]? = some F'->F'.np=(F.ns++F.ks).length
 hC:∀ (y:Str) (c i:Nat) (F:KF) (nd:Nat),T.cl.lookup y=some (c,i,F,nd) -> ∃ C f fd ddV dd,X.mg y=some (.ref C)/\Mk X.K C f/\PySem.W.nsIn X.K mainGlobals (aO c)=some (some (.ref C))/\KFok X.K fd F nd ddV dd/\F.ns++F.ks≠[]/\FnOk X.prog X.w X.K X.mg X.base CX0 (2*d+2) f fd (F.ns++F.ks) (spI X.K fns d i (F.ns++F.ks).length) /\ ∀ F',fns[i]? = some F'->F'.np=(F.ns++F.ks).length
 hT:∀ (m:Str) (l:List (Nat×Nat×KF×Nat)),T.mt.lookup m=some l -> ∀ c i F nd,(c,i,F,nd)∈l -> ∃ C f fd ddV dd,PySem.W.nsIn X.K mainGlobals (aO c)=some (some (.ref C))/\Cls X.K C/\Meth X.K C m f/\KFok X.K fd F nd ddV dd/\F.ns++F.ks≠[]/\FnOk X.prog X.w X.K X.mg X.base CX0 (2*d+2) f fd (F.ns++F.ks) (spI X.K fns d i (F.ns++F.ks).length) /\ ∀ F',fns[i]? = some F'->F'.np=(F.ns++F.ks).length
 hA:∀ (f:Str) (cs:List Nat),T.fl.lookup f=some cs->gE X.K f cs
 room:Room (2*d+3) X.A
 hN:X.N=N
 hsc:X.env.scope=sc
 nd:N.Nodup
 calm:X.calm=true
 xe:X.xe=λ_ _=>False
noncomputable def qg:Expr->Bool
 | .BoolOp .. => true
 | _=>false
noncomputable def Good(X:Cx)(C:Nat->List U->G->Out U)(e:Expr)(e':E):Prop :=
 (∀ n,PE X e (tE X.K W0 ((lev C n).ev e')))/\(∀ n,PT X e (tT X.K W0 ((lev C n).ts e')))/\(qg e=true -> ∀ n,PW X e (tT X.K W0 ((lev C n).ts e')))
section
variable{T:Tab}{fns:List Fn}{fu d:Nat}{X:Cx}{sc:Scope}{N:List Str}{C:Nat->List U->G->Out U}
theorem qN{α:Type}{r:α}{P:Prop}(h:(none:Option α)=some r):P:=by cases h
theorem qB{α β:Type}{o:Option α}{f:α->Option β}{r:β}{P:Prop}(h:o.bind f=some r)(k:∀ a,o=some a->f a=some r->P):P:=by
 cases o with
 | none=>cases h
 | some a=>exact k a rfl h
theorem qM{α β:Type}{o:Option α}{f:α->β}{r:β}{P:Prop}(h:o.map f=some r)(k:∀ a,o=some a->f a=r->P):P:=by
 cases o with
 | none=>cases h
 | some a=>exact k a rfl (Option.some.inj h)
theorem qI{α:Type}{c:Bool}{x:Option α}{r:α}{P:Prop}(h:oif c x=some r)(k:c=true->x=some r->P):P:=by
 cases c with
 | false=>cases h
 | true=>exact k rfl h
theorem qE{α:Type}{c:Prop}[Decidable c]{x y:Option α}{r:α}{P:Prop}(h:(if c then x else y)=some r)(k1:c->x=some r->P)(k2:y=some r->P):P:=by
 by_cases hc:c
 .rw [if_pos hc] at h;exact k1 hc h
 .rw [if_neg hc] at h;exact k2 h
theorem cC{α:Type}{l:List α}(h:bJ l=true):l=[]:=by
 cases l with
 | nil=>rfl
 | cons _ _=>cases h
theorem j6{ce:Expr->Option E}{k:E->E}{es:List Expr}{r:E}{P:Prop}(h:gu ce k es=some r)(K:∀ a a',es=[a]->ce a=some a'->k a'=r->P):P:=by
 cases es with
 | nil=>cases h
 | cons a es=>cases es with
  | nil=>exact qM h λa' h1 h2=>K a a' rfl h1 h2
  | cons _ _=>cases h
theorem BO{ce:Expr->Option E}{k:E->E->E}{es:List Expr}{r:E}{P:Prop}(h:x9 ce k es=some r)(K:∀ a b a' b',es=[a,b]->ce a=some a'->ce b=some b'->k a' b'=r->P):P:=by
 cases es with
 | nil=>cases h
 | cons a es=>cases es with
  | nil=>cases h
  | cons b es=>cases es with
   | nil=>exact qB h λa' h1 h=>qM h λb' h2 h3=>K a b a' b' rfl h1 h2 h3
   | cons _ _=>cases h
theorem bL{b:Bool}(h:(!b)=true):b=false:=by cases b with
 | false=>rfl
 | true=>cases h
theorem Good.plain{e:Expr}{e':E}(pe:∀ n,PE X e (tE X.K W0 (evF C (lev C n) e')))(he:∀ whole,isTrue e X.env whole=(do let v <- whole;standAt e.pos;holding [v] (truthy v)))
  (hts:∀ r σ g,tsF r e' σ g=(r.ev e' σ g).bind λx g=>lift (tru x g) g) (hb:qg e=false):Good X C e e':=by
 have pe':∀ n,PE X e (tE X.K W0 ((lev C n).ev e')):=λn=>by
  cases n with
  | zero=>exact PE.bad λ_ _=>rfl
  | succ n=>exact pe n
 refine ⟨pe',λn => ?_,λh => ?_⟩
 .cases n with
  | zero=>exact PT.bad λ_ _=>rfl
  | succ n =>
   have:((lev C (n+1)).ts e')=λσ g=>((lev C n).ev e' σ g).bind λx g=>lift (tru x g) g:=by funext σ g;exact hts _ _ _
   rw [this];exact Be (pe' n) he
 .rw [hb] at h;cases h
theorem cW{f:Expr->Option E}(ih:∀ e e',f e=some e'->Good X C e e'):∀ {es:List Expr} {es':List E},es.any isStar=false->ag (es.map f)=some es' -> ∀ n,PA X es (tAr X.K W0 (evs (lev C n).ev es'))
 | [],_,_,h=>λn=>by cases h;exact Gj
 | a :: es,es',hs,h=>λn=>by
  rw [List.any_cons,Bool.or_eq_false_iff] at hs;rw [List.map_cons] at h;cases ea:f a with
  | none=>rw [ea] at h;cases h
  | some a' =>
   rw [ea] at h;simp only [ag] at h;cases er:ag (es.map f) with
   | none=>rw [er] at h;cases h
   | some r' =>
    rw [er] at h;cases h;exact CU ((ih a a' ea).1 n) (cW ih hs.2 er n) (aV hs.1 _)
theorem iC{f:Expr->Option E}(ih:∀ e e',f e=some e'->Good X C e e'):∀ {kws:List Keyword} {ks':List E},ag (kws.map λk=>f k.value)=some ks' -> ∀ n,PK X kws (tAr X.K W0 (evs (lev C n).ev ks'))
 | [],_,h=>λn=>by cases h;exact GS.imp λσ H Q ⟨σu,ρ,g,hs,hg,p⟩=>post.okHere (R:=RVs X.K) (u:=[]) p hg rfl
 | ⟨nm,a,kp⟩ :: kws,ks',h=>λn=>by
  rw [List.map_cons] at h;cases ea:f a with
  | none=>rw [ea] at h;cases h
  | some a' =>
   rw [ea] at h;simp only [ag] at h;cases er:ag (kws.map λk=>f k.value) with
   | none=>rw [er] at h;cases h
   | some r' =>
    rw [er] at h;cases h;refine (Cw ((ih a a' ea).1 n) (iC ih er n)).imp λσ H Q hp=>one hp λσu ρ H g u x hs hg r1 p => ?_;refine ⟨σu,ρ,g,hs,hg,(post.bind p).mono λxs H1 ⟨ρ1,us,g1,s1,h1,rs,p1⟩ => ?_⟩;exact post.okHere (R:=RVs X.K) p1 h1 ⟨x,xs,rfl,RV.step s1 _ _ r1,rs⟩
theorem C8{o:Operator}{o':Op}(h:lu o=some o'):(o'=.add/\o = .Add)\/(o'=.sub/\o = .Sub)\/(o'=.mul/\o = .Mult)\/(o'=.fdiv/\o = .FloorDiv)\/(o'=.mod/\o = .Mod)\/(o'=.pow/\o = .Pow):=by
 cases o <;> simp only [lu,reduceCtorEq,Option.some.injEq] at h <;> subst h <;> simp
theorem XOk.room2(ok:XOk T fns d X sc N):Room (2*d+2) X.A:=⟨ok.room.hd,by have:=ok.room.dp;omega,by have:=ok.room.un;omega⟩
theorem XOk.units(ok:XOk T fns d X sc N):X.A.units+2 < cLine:=by have:=ok.room.units;omega
theorem eA(ok:XOk T fns d X sc N){o:CmpOp}{o':Cp}(h:gz o=some o'):cI X o' o:=by
 refine H9 ok.units o' o ?_;cases o <;> simp only [gz,reduceCtorEq,Option.some.injEq] at h <;> subst h <;> simp
theorem oC{b:Expr}{o:CmpOp}(h:iH b=false):behindInMarks o b=false:=by
 cases b <;> first | rfl | cases h
theorem XOk.gl(ok:XOk T fns d X sc N){x:Str}(h:sc.names.lookup x=some .globalImplicit):Gl X x:=by
 show X.env.scope.names.lookup x=_;rw [ok.hsc];exact h
theorem j1{x:Str}(h:gF x=true):(x == ("__debug__" : Str))=false/\(x == ("__classdict__" : Str))=false/\x ≠ "__name__" := by
 unfold gF at h;simp only [Bool.and_eq_true,Bool.not_eq_true'] at h;exact ⟨h.1.1,h.1.2,λe=>by have:=h.2;rw [e] at this;simp at this⟩
theorem DD{x:Str}{t:Ty}(h:ls x=some t):x=Str.ofString (tyName t)/\bootBuiltins x=some (.type (tyName t))/\x ≠ "__name__" /\ (x == ("__debug__" : Str))=false:=by
 unfold ls at h;split at h
 .rename_i e;cases h;subst e;exact ⟨rfl,by rfl,by decide,by decide⟩
 split at h
 .rename_i e;cases h;subst e;exact ⟨rfl,by rfl,by decide,by decide⟩
 split at h
 .rename_i e;cases h;subst e;exact ⟨rfl,by rfl,by decide,by decide⟩
 split at h
 .rename_i e;cases h;subst e;exact ⟨rfl,by rfl,by decide,by decide⟩
 split at h
 .rename_i e;cases h;subst e;exact ⟨rfl,by rfl,by decide,by decide⟩
 .cases h
theorem zS{b:Expr}(h:fO b=false):jW b:=by
 cases b <;> first | exact λ_ _=>rfl | cases h
section
variable{r:L}{a:Expr}{a':E}{pos p:Pos}
theorem Fk{b:Bi}{f:Str}{es:List Expr}{es':List E}(hb:biOf f=some b)(hc:X.calm=true)(hu:X.A.units+2 < cLine)(hg:Gl X f)(hm:X.mg f=none)(ha:PA X (a :: es) (tAr X.K W0 (evs r.ev es')))(hs:(a :: es).any isStar=false):
  PE X (.Call (.Name f p) (a :: es) [] pos) (tE X.K W0 (evF C r (.bi b es'))):=by
 rw [List.any_cons,Bool.or_eq_false_iff] at hs;have h1:=aV (env:=X.env) hs.1 es;have h2:=dv (env:=X.env) (pos:=pos) hs.2;unfold biOf at hb;split at hb
 .rename_i e;subst e;cases hb;exact se_bi (pe_callB call_len_seq hg hm PySem.boot_len ha (by decide) (by decide) h1 h2) imp_len
 split at hb
 .rename_i e;subst e;cases hb;exact se_bi (pe_callB call_abs hg hm (by rfl) ha (by decide) (by decide) h1 h2) imp_abs
 split at hb
 .rename_i e;subst e;cases hb;exact se_bi (pe_callTy (call_list_of.or (call_listD hc)) hg hm (by rfl) ha (by decide) (by decide) h1 h2) imp_list
 split at hb
 .rename_i e;subst e;cases hb;exact se_bi (pe_callTy call_dct hg hm (by rfl) ha (by decide) (by decide) h1 h2) imp_dct
 cases hb
end
theorem dX{α β:Type}{f:α->Option β}:∀ {l:List α} {r:List β},ag (l.map f)=some r->r.length=l.length
 | [],_,h=>by cases h;rfl
 | a :: l,r,h=>by
  rw [List.map_cons] at h;cases e:f a with
  | none=>rw [e] at h;cases h
  | some b =>
   rw [e] at h;obtain ⟨r',e2,rfl⟩:=Option.map_eq_some_iff.mp h;simp [dX e2]
theorem iq{f:Str}(h:dU f=true):aO (cj f)=f/\cj f < cb:=by
 unfold dU at h;rw [Bool.and_eq_true,decide_eq_true_eq,decide_eq_true_eq] at h;exact h
theorem oN(ok:XOk T fns d X sc N){ce:Expr->Option E}(ihf:∀ e e',ce e=some e'->Good X (aa fns fu d) e e'){f:Str}{es:List Expr}{kws:List Keyword}{e':E}(h:gh T sc ce f es kws=some e')(p pos:Pos):Good X (aa fns fu d) (.Call (.Name f p) es kws pos) e':=by
 refine qI h λhc h=>qB h λes' hes h=>qB h λks' hks h => ?_;simp only [Bool.and_eq_true,Bool.not_eq_true',beq_iff_eq] at hc;obtain ⟨⟨⟨hnm,hst⟩,hgl⟩,hkw⟩:=hc;obtain ⟨h1,h2,h3⟩:=j1 hnm;have hl:=dX hes;cases hkf:T.kf.lookup f with
 | some q =>
  rw [hkf] at h;obtain ⟨i,F,nd⟩:=q;refine qI h λhsh h => ?_;cases h;obtain ⟨fa,fd,ddV,dd,q1,q2,q3,q4,q5,q6⟩:=ok.hK _ _ _ _ hkf;dsimp only at hsh ⊢;rw [<-hl] at hsh ⊢;exact .plain (λn=>Al q5 q6 q3 q4 hsh hkw hl (dX hks) ok.room2 (ok.gl hgl) q1 q2 h1 (cW ihf hst hes n) (iC ihf hks n) hst) (λ_=>rfl) (λ_ _ _=>rfl) rfl
 | none =>
  rw [hkf] at h;refine qB h λq hcl h=>qI h λhsh h => ?_;obtain ⟨c,i,F,nd⟩:=q;cases h;obtain ⟨C,fa,fd,ddV,dd,q1,q2,q3,q4,q5,q6,q7⟩:=ok.hC _ _ _ _ _ hcl;dsimp only at hsh ⊢;rw [<-hl] at hsh ⊢;exact .plain (λn=>DL q2 q3 q6 q7 q4 q5 hsh hkw hl (dX hks) ok.room (ok.gl hgl) q1 h1 (cW ihf hst hes n) (iC ihf hks n) hst) (λ_=>rfl) (λ_ _ _=>rfl) rfl
theorem mU{α β:Type}{f:Nat×α->Nat×β}(hf:∀ e,(f e).1=e.1){c:Nat}{b:β}:∀ {l:List (Nat×α)},(l.map f).lookup c=some b -> ∃ a,(c,a)∈l/\b=(f (c,a)).2
 | [],h=>by cases h
 | (d,a) :: l,h=>by
  rw [List.map_cons,show f (d,a)=((f (d,a)).1,(f (d,a)).2) from rfl,List.lookup_cons,hf] at h;cases q:c == d with
  | true =>
   rw [q] at h;cases h;cases eq_of_beq q;exact ⟨a,List.mem_cons_self,rfl⟩
  | false =>
   rw [q] at h;obtain ⟨a',h1,h2⟩:=mU hf h;exact ⟨a',Kx _ h1,h2⟩
theorem oG(ok:XOk T fns d X sc N){ce:Expr->Option E}(ihf:∀ e e',ce e=some e'->Good X (aa fns fu d) e e'){o:Expr}{ap cp:Pos}{o':E}(hbs:fR o=false)(ho:Good X (aa fns fu d) o o'){m:Str}{es:List Expr}{kws:List Keyword}{e':E}(h:kJ T ce o' m ap cp es kws=some e'):Good X (aa fns fu d) (.Call (.Attribute o m ap) es kws cp) e':=by
 refine qI h λhc h=>qB h λes' hes h=>qB h λks' hks h=>qB h λl hl h=>qI h λhsh h => ?_;simp only [Bool.and_eq_true,Bool.not_eq_true',decide_eq_true_eq] at hc;obtain ⟨⟨⟨⟨hnm,hst⟩,hkw⟩,hn30⟩,hline⟩:=hc;obtain ⟨h1,h2⟩:=iq hnm;cases h;have hel:=dX hes;refine .plain (λn=>CV (k:=2*d+2) (ho.1 n) h2 h1 (λc i pm hlk => ?_) hkw hel (dX hks) ok.room2 (cW ihf hst hes n) (iC ihf hks n) hst (AA (base_of hbs) hst hkw hn30 hline)) (λ_=>rfl) (λ_ _ _=>rfl) rfl;obtain ⟨⟨i',F,nd⟩,hmem,hb⟩:=mU (f:=λe:Nat×Nat×KF×Nat=>(e.1,e.2.1,dq e.2.2.1 (es.length+1) (aR kws))) (λ_=>rfl) hlk;cases hb;obtain ⟨C,f,fd,ddV,dd,q1,q2,q3,q4,q5,q6,q7⟩:=ok.hT _ _ hl _ _ _ _ hmem;refine ⟨C,f,fd,F,nd,ddV,dd,q1,q2,q3,q4,q5,?_,by rw [hel],q6,q7⟩
 rw [hel];exact List.all_eq_true.mp hsh _ hmem
theorem mV:∀ {keys:List (Option Expr)} {ks:List Str},strKeys keys=some ks->ks.length=keys.length
 | [],_,e=>by cases e;rfl
 | k :: r,ks,e=>by
  unfold strKeys at e;split at e
  .rename_i z;cases z
  .rename_i z;cases z
   obtain ⟨m,e1,rfl⟩:=Option.map_eq_some_iff.mp e;simp [mV e1]
  .cases e
theorem tM{f:Expr->Option E}(ih:∀ e e',f e=some e'->Good X (aa fns fu d) e e')(n:Nat):∀ {keys:List (Option Expr)} {vs:List Expr} {ks:List Str} {es':List E},keys.length=vs.length->strKeys keys=some ks->ag (vs.map f)=some es'->DOk X W0 (lev (aa fns fu d) n) keys vs ks es'
 | [],[],_,_,_,e,e2=>by cases e;cases e2;trivial
 | [],_ :: _,_,_,hl,_,_=>by simp at hl
 | _ :: _,[],_,_,hl,_,_=>by simp at hl
 | k :: r,v :: vs,ks,es',hl,e,e2=>by
  unfold strKeys at e;split at e
  .rename_i z;cases z
  .rename_i z;cases z
   obtain ⟨m,e1,rfl⟩:=Option.map_eq_some_iff.mp e;rw [List.map_cons] at e2;cases hv:f v with
   | none=>rw [hv] at e2;cases e2
   | some v' =>
    rw [hv] at e2;obtain ⟨m',e3,rfl⟩:=Option.map_eq_some_iff.mp (show (ag (vs.map f)).map (v' :: ·)=some es' from e2);exact ⟨rfl,(ih _ _ hv).1 n,tM ih n (by simpa using hl) e1 e3⟩
  .cases e
theorem gD{a:Expr}(h:[a].any isStar=false):isStar a=false:=by simpa using h
theorem jR{b:Bool}{x:Str}(h:dI b sc x=true):L2.Loc sc x/\(b=false->sc.names.lookup x=some .local):=by
 unfold dI at h;simp only [Bool.or_eq_true,Bool.and_eq_true,beq_iff_eq] at h;rcases h with h | ⟨h1,h2⟩
 .exact ⟨.inl h,λ_=>h⟩
 .exact ⟨.inr h2,λe=>by rw [e] at h1;cases h1⟩
theorem ic{b:Bool}{x:Str}{i:Nat}(h:dJ b sc N x=some i):N[i]? = some x/\dI b sc x=true:=by
 unfold dJ at h;split at h
 .rename_i hl;exact ⟨ixOf_get h,hl⟩
 .cases h
theorem AZ{b:Bool}{x:Str}{i:Nat}(h:dJ b sc N x=some i):N[i]? = some x/\L2.Loc sc x/\(b=false->sc.names.lookup x=some .local):=⟨(ic h).1,jR (ic h).2⟩
theorem XOk.locX(ok:XOk T fns d X sc N){x:Str}(h:L2.Loc sc x):L2.Loc X.env.scope x:=by rw [ok.hsc];exact h
theorem XOk.fnX(ok:XOk T fns d X sc N){b:Bool}(hb:b=true -> ∀ x,X.fn x=true){x:Str}(h:b=false->sc.names.lookup x=some .local):X.fn x=true\/X.env.scope.names.lookup x=some .local:=by
 rw [ok.hsc];cases b with
 | true=>exact .inl (hb rfl x)
 | false=>exact .inr (h rfl)
theorem XOk.ndX(ok:XOk T fns d X sc N):X.N.Nodup:=by rw [ok.hN];exact ok.nd
theorem XOk.own(ok:XOk T fns d X sc N):PassesOwn (model X.prog X.w) X.A X.env X.xe:=by rw [ok.xe];exact PassesOwn.never
theorem nR(ok:XOk T fns d X sc N){b:Bool}{sd:Scope}(hl:∀ x,dI b sd x=true->L2.Loc X.env.scope x/\(X.fn x=true\/X.env.scope.names.lookup x=some .local)){tg:Expr}{t:Tg}(h:b6 b sd N tg=some t):PG X tg (tG X.K t):=by
 unfold b6 at h;split at h
 .cases e:dJ b sd N ‹Str› with
  | none=>rw [e] at h;cases h
  | some i =>
   rw [e] at h;cases h;obtain ⟨h1,h2⟩:=ic e;exact Jp ok.ndX (by rw [ok.hN];exact h1) (hl _ h2).1 (hl _ h2).2
 .rename_i ts k p
  cases e:ag (ts.map (eP b sd N)) with
  | none=>rw [e] at h;cases h
  | some is =>
   rw [e] at h;cases h;have all:∀ (ts:List Expr) (is:List Nat),ag (ts.map (eP b sd N))=some is->PGs X ts (tGs X.K is)/\(assignEach ts X.env).length=is.length/\(assignEach ts X.env).findIdx? (·.1)=none:=λts=>by
    induction ts with
    | nil=>intro is e;cases e;exact ⟨sgs_nil,rfl,rfl⟩
    | cons a ts ih =>
     intro is e;rw [List.map_cons] at e;cases ea:eP b sd N a with
     | none=>rw [ea] at e;cases e
     | some i =>
      rw [ea] at e;simp only [ag] at e;cases er:ag (ts.map (eP b sd N)) with
      | none=>rw [er] at e;cases e
      | some is' =>
       rw [er] at e;cases e;obtain ⟨p1,p2,p3⟩:=ih is' er;cases a <;> simp only [eP,reduceCtorEq] at ea
       obtain ⟨h1,h2⟩:=ic ea;refine ⟨A1 ok.ndX (by rw [ok.hN];exact h1) (hl _ h2).1 (hl _ h2).2 p1,?_,?_⟩
       .show (assignEach ts X.env).length+1=_
        rw [p2];rfl
       .show List.findIdx? (·.1) ((false,_) :: assignEach ts X.env)=none
        rw [List.findIdx?_cons];simp [p3]
   obtain ⟨p1,p2,p3⟩:=all ts is e;exact Ho ok.calm p1 p2 p3
 .cases h
theorem hJ(ok:XOk T fns d X sc N){b:Bool}(hb:b=true -> ∀ x,X.fn x=true){tg:Expr}{t:Tg}(h:b6 b sc N tg=some t):PG X tg (tG X.K t):=nR ok (λ_ z=>⟨ok.locX (jR z).1,ok.fnX hb (jR z).2⟩) h
theorem BU{pins:List (Addr×Obj)}{scope:Scope}{s3:Shared}{H3:Hp}{fp:List Addr}{N':List Str}{x:Str}(h:dI true scope x=true):L2.Loc (aA X pins scope s3 H3 fp N').env.scope x/\((aA X pins scope s3 H3 fp N').fn x=true\/(aA X pins scope s3 H3 fp N').env.scope.names.lookup x=some .local):=by
 have e:(aA X pins scope s3 H3 fp N').env.scope.names.lookup x=_:=gG;simp only [dI,Bool.or_eq_true,Bool.true_and,beq_iff_eq] at h;rcases h with h | h
 .rw [h] at e;exact ⟨.inl e,.inr e⟩
 .rw [h] at e;exact ⟨.inr e,.inl (beq_iff_eq.mpr h)⟩
theorem Dv{r:L}{e':E}(h:iP e'=true):itF r e'=(λσ g=>(r.ev e' σ g).bind λu g=>match u with
  | .tup xs=>Out.ok (Iter.seq xs) g
  | .xn _ xs=>Out.ok (Iter.seq xs) g
  | .ref n=>match g[n]? with
   | some (.lst _) => .ok (.lst n) g
   | some (.dic kvs) => .ok (.dic n) (g.set n (.dif kvs))
   | some (.dif _) => .ok (.dic n) g
   | _ => .bad
  | _ => .bad):=by
 cases e' <;> first | rfl | cases h
theorem d0(ok:XOk T fns d X sc N){f:Expr->Option E}(ihf:∀ e e',f e=some e'->Good X (aa fns fu d) e e'){tg it:Expr}{it':E}(h:eW T sc f it=some it'):(∀ n,PI X tg it (tI X.K W0 (itF (lev (aa fns fu d) n) it'))) /\ ∀ x,foldedSetIterable it X.env x=pure x:=by
 have val:cIt f it=some it'->(∀ n,PI X tg it (tI X.K W0 (itF (lev (aa fns fu d) n) it'))) /\ ∀ x,foldedSetIterable it X.env x=pure x:=λh=>qI h λhs h=>qB h λe' he h=>qI h λhr h=>by
  cases h;have hs:=bL hs;exact ⟨λn=>by rw [Dv hr];exact Gg ((ihf it it' he).1 n),λx=>by cases it <;> first | rfl | cases hs⟩
 unfold eW at h;cases hc:fZ it with
 | none=>rw [hc] at h;exact val h
 | some c =>
  rw [hc] at h;refine qE h (λhf h => ?_) val;obtain ⟨p,q,rfl⟩:=nP hc;obtain ⟨n,es⟩:=c;have hf:n = "range" := hf;subst hf;refine qI h λhc h => ?_;simp only [Bool.and_eq_true,Bool.not_eq_true',beq_iff_eq] at hc;obtain ⟨⟨h1,h2⟩,h3⟩:=hc;have hm:=ok.bt _ (List.contains_iff_mem.mp h1);cases es with
  | nil=>cases h
  | cons a es =>
   cases es with
   | nil =>
    refine qM h λa' ha e => ?_;subst e;exact ⟨λn=>Dc (ok.gl h2) hm ((ihf _ _ ha).1 n) (aV (gD h3)),λx=>rfl⟩
   | cons b es =>
    exact qN h
theorem ot(ok:XOk T fns d X sc N){f:Expr->Option E}(ihf:∀ e e',f e=some e'->Good X (aa fns fu d) e e'){tg it:Expr}{it':E}(h:km T sc f tg it=some it'):(∀ n,PI X tg it (tI X.K W0 (itF (lev (aa fns fu d) n) it'))) /\ ∀ x,foldedSetIterable it X.env x=pure x:=by
 unfold km at h;cases hc:fZ it with
 | none=>rw [hc] at h;exact d0 ok ihf h
 | some c =>
  rw [hc] at h;refine qE h (λhf h => ?_) (d0 ok ihf);obtain ⟨p,q,rfl⟩:=nP hc;obtain ⟨n,es⟩:=c;have hf:n = "enumerate" := hf;subst hf;refine qI h λhc h=>j6 h λa a' e1 ha e => ?_;simp only [Bool.and_eq_true,Bool.not_eq_true',beq_iff_eq] at hc;obtain ⟨⟨⟨h1,h2⟩,h3⟩,h4⟩:=hc;have hm:=ok.bt _ (List.contains_iff_mem.mp h1);have e1:es=[a]:=e1;subst e1;subst e;cases tg with
  | Tuple ts k tp=>exact ⟨λn=>EX (ok.gl h2) hm ((ihf _ _ ha).1 n) (aV (gD h3)),λx=>rfl⟩
  | _=>cases h4
theorem zQ{scope:Scope}{env:Env}(h:env.scope=sc):relabel scope env=bT scope sc:=by subst h;rfl
theorem XOk.comp(ok:XOk T fns d X sc N){scope:Scope}{own fr:List Str}(nd:(own++fr).Nodup)(pins:List (Addr×Obj))(s3:Shared)(H3:Hp)(fp:List Addr):XOk T fns d (aA X pins scope s3 H3 fp (own++fr)) (bT scope sc) (own++fr) :=
 ⟨ok.hF,ok.cs,ok.bt,ok.hK,ok.hC,ok.hT,ok.hA,ok.room,rfl,zQ ok.hsc,nd,ok.calm,rfl⟩
theorem j7{f:Expr->Option E}(ih:∀ e e',f e=some e'->Good X C e e'):∀ {es:List Expr} {es':List E},ag (es.map f)=some es' -> ∀ n,PTs X es (aT (lev C n).ts es')
 | [],_,h=>λn=>by cases h;exact BQ
 | a :: es,es',h=>λn=>by
  rw [List.map_cons] at h;cases ea:f a with
  | none=>rw [ea] at h;cases h
  | some a' =>
   rw [ea] at h;simp only [ag] at h;cases er:ag (es.map f) with
   | none=>rw [er] at h;cases h
   | some r' =>
    rw [er] at h;cases h;exact BI ((ih a a' ea).2.1 n) (j7 ih er n)
theorem pj(ok:XOk T fns d X sc N){f:Expr->Option E}(ih:∀ e e',f e=some e'->Good X (aa fns fu d) e e'):∀ {gs:List Comprehension} {gs':List (Tg×E×List E)},kE T sc N f gs=some gs'->cG X (aa fns fu d) gs gs'
 | [],_,h=>by cases h;trivial
 | g :: gs,gs',h=>qI h λha h=>qB h λt ht h=>qB h λit hit h=>qB h λcs hcs h=>qM h λr' hr e=>by
  subst e;exact ⟨eq_of_beq ha,hJ ok (λe=>by cases e) ht,j7 ih hcs,(d0 ok ih hit).1,(d0 (tg:=g.target) ok ih hit).2,pj ok ih hr⟩
theorem AI(ok:XOk T fns d X sc N){scope:Scope}{own:List Str}{frI:List Nat}(h:jT scope sc own (freeOf scope)=true)(hI:ag ((freeOf scope).map (bq N))=some frI):CompSc X scope own (freeOf scope) frI:=by
 unfold jT at h;simp only [Bool.and_eq_true,beq_iff_eq,List.all_eq_true,Bool.or_eq_true,bne_iff_ne,decide_eq_true_eq] at h;obtain ⟨⟨⟨⟨⟨⟨h1,h2⟩,h3⟩,h4⟩,h5⟩,h6⟩,h7⟩:=h;refine ⟨h1,λx hx hl=>(h2 x hx).resolve_left λz=>z hl,λx hx hl=>(h3 x hx).resolve_left λz=>z hl,λx hx hl => ?_,h5,h6,h7,?_⟩
 .show X.env.scope.names.lookup x.1=_
  rw [ok.hsc];exact (h4 x hx).resolve_left λz=>z hl
 .have all:∀ (l:List Str) (r:List Nat),ag (l.map (bq N))=some r->r.length=l.length /\ ∀ (j:Nat) (x:Str) (i:Nat),l[j]? = some x->r[j]? = some i->N[i]? = some x:=λl=>by
   induction l with
   | nil=>intro r e;cases e;exact ⟨rfl,λj x i e=>by simp at e⟩
   | cons y l ih =>
    intro r e;rw [List.map_cons] at e;cases ea:bq N y with
    | none=>rw [ea] at e;cases e
    | some k =>
     rw [ea] at e;simp only [ag] at e;cases er:ag (l.map (bq N)) with
     | none=>rw [er] at e;cases e
     | some r' =>
      rw [er] at e;cases e;obtain ⟨p1,p2⟩:=ih r' er;refine ⟨by simp [p1],λj x i e1 e2 => ?_⟩
      cases j with
      | zero=>simp at e1 e2;subst e1;subst e2;exact ixOf_get ea
      | succ j=>exact p2 j x i (by simpa using e1) (by simpa using e2)
  rw [ok.hN];exact all _ _ hI
theorem Bs(ok:XOk T fns d X sc N){x:Str}{pos:Pos}{e':E}(h:vk T sc N x=some e'):Good X (aa fns fu d) (.Name x pos) e':=by
 refine qI h λhx h=>qB h λk hk h => ?_;obtain ⟨h1,h2,h3⟩:=j1 hx;have var:(k=.local\/k=.cell\/k=.free)->(bq N x).map E.var=some e'->Good X (aa fns fu d) (.Name x pos) e':=λhk' h=>qM h λi ei e=>by
  subst e;refine .plain (λn=>D6 (by rw [ok.hN];exact ixOf_get ei) ?_ h1 h2) (λ_=>rfl) (λ_ _ _=>rfl) rfl
  show X.env.scope.names.lookup x=_\/_;rw [ok.hsc];rcases hk' with rfl | rfl | rfl
  .exact .inl hk
  .exact .inr (.inl hk)
  .exact .inr (.inr hk)
 cases k with
 | «local» => exact var (.inl rfl) h
 | cell=>exact var (.inr (.inl rfl)) h
 | free=>exact var (.inr (.inr rfl)) h
 | globalImplicit =>
  refine qM h λu ec e => ?_;subst e;obtain ⟨v,val,q1,q2,q3⟩:=ok.cs x u ec;exact .plain (λn=>f9 (Dq (ok.gl hk) q1 q2 h1) q3) (λ_=>rfl) (λ_ _ _=>rfl) rfl
 | globalExplicit=>exact qN h
theorem Dj{v:Const}{k:Nat}{pos:Pos}{e':E}(h:xZ v=some e'):Good X C (.Constant v k pos) e':=by
 cases v with
 | int i=>cases h;exact .plain (λn=>f9 uj λ_ _=>rfl) (λ_=>rfl) (λ_ _ _=>rfl) rfl
 | bool b=>cases h;exact .plain (λn=>f9 Jt λ_ _=>rfl) (λ_=>rfl) (λ_ _ _=>rfl) rfl
 | none=>cases h;exact .plain (λn=>f9 FY λ_ _=>rfl) (λ_=>rfl) (λ_ _ _=>rfl) rfl
 | str s=>cases h;exact .plain (λn=>f9 ue λ_ _=>rfl) (λ_=>rfl) (λ_ _ _=>rfl) rfl
 | _=>exact qN h
section
variable{ce:Expr->Option E}(ok:XOk T fns d X sc N)(ih:∀ e e',ce e=some e'->Good X (aa fns fu d) e e'){e':E}{pos:Pos}
include ok in
theorem Bj(ih:∀ e e',ce e=some e'->Good X (aa fns fu d) e e'){a b:Expr}{o:CmpOp}(h:xC ce a o b=some e'):Good X (aa fns fu d) (.Compare a [o] [b] pos) e':=by
 refine qI h λhset h=>qB h λo' ho h=>qB h λa' ha h=>qM h λb' hb e => ?_;subst e;have hm:=oC (o:=o) (bL hset);refine ⟨λn => ?_,λn => ?_,λh=>by cases h⟩
 .cases n with
  | zero=>exact PE.bad λ_ _=>rfl
  | succ n=>exact D7 (C:=aa fns fu d) (eA ok ho) hm ((ih _ _ ha).1 n) ((ih _ _ hb).1 n)
 .cases n with
  | zero=>exact PT.bad λ_ _=>rfl
  | succ n =>
   cases n with
   | zero=>exact PT.bad λ_ _=>rfl
   | succ n=>exact EY (C:=aa fns fu d) (eA ok ho) hm ((ih _ _ ha).1 n) ((ih _ _ hb).1 n)
include ok in
theorem A2(ih:∀ e e',ce e=some e'->Good X (aa fns fu d) e e'){a b c:Expr}{o q:CmpOp}(h:vN ce a o q b c=some e'):Good X (aa fns fu d) (.Compare a [o,q] [b,c] pos) e':=by
 refine qI h λhset h=>qB h λo' ho h=>qB h λq' hq h=>qB h λa' ha h=>qB h λb' hb h=>qM h λc' hc e => ?_;subst e;have hm:=oC (o:=q) (bL hset);refine ⟨λn => ?_,λn => ?_,λh=>by cases h⟩
 .cases n with
  | zero=>exact PE.bad λ_ _=>rfl
  | succ n=>exact A9 (C:=aa fns fu d) (eA ok ho) (eA ok hq) hm ((ih _ _ ha).1 n) ((ih _ _ hb).1 n) ((ih _ _ hc).1 n)
 .cases n with
  | zero=>exact PT.bad λ_ _=>rfl
  | succ n =>
   cases n with
   | zero=>exact PT.bad λ_ _=>rfl
   | succ n=>exact Bl (C:=aa fns fu d) (eA ok ho) (eA ok hq) hm ((ih _ _ ha).1 n) ((ih _ _ hb).1 n) ((ih _ _ hc).1 n)
include ok in
theorem Co(ih:∀ e e',ce e=some e'->Good X (aa fns fu d) e e'){a:Expr}{os:List CmpOp}{bs:List Expr}(h:xX ce a os bs=some e'):Good X (aa fns fu d) (.Compare a os bs pos) e':=by
 cases os with
 | nil=>exact qN h
 | cons o os=>cases bs with
  | nil=>exact qN h
  | cons b bs=>cases os with
   | nil =>
    refine qI h λhb h2 => ?_;cases cC hb;exact Bj ok ih h2
   | cons q os=>cases bs with
    | nil=>exact qN h
    | cons c bs =>
     refine qI h λhb h2 => ?_;rw [Bool.and_eq_true] at hb;cases cC hb.1;cases cC hb.2;exact A2 ok ih h2
theorem Dx(ih:∀ e e',ce e=some e'->Good X (aa fns fu d) e e'){o:BoolOp}{es:List Expr}(h:ya ce o es pos=some e'):Good X (aa fns fu d) (.BoolOp o es pos) e':=by
 cases es with
 | nil=>exact qN h
 | cons a es=>cases es with
  | nil =>
   obtain ⟨g1,g2,g3⟩:=ih _ _ h;have pw:∀ n,PW X (.BoolOp o [a] pos) (tT X.K W0 ((lev (aa fns fu d) n).ts e')):=λn=>by
    cases o with
    | And=>exact Cf (g2 n)
    | Or=>exact EC (g2 n)
   exact ⟨λn=>G7 (g1 n),λn=>(pw n).pt,λ_ n=>pw n⟩
  | cons b rest=>cases o with
   | And =>
    refine qB h λa' ha h=>qM h λb' hb e => ?_;subst e;have pw:∀ n,PW X (.BoolOp .And (a :: b :: rest) pos) (tT X.K W0 ((lev (aa fns fu d) n).ts (.and a' b'))):=λn=>by
     cases n with
     | zero=>exact λwh pins s σ H Q I ⟨_,_,_,_,_,p⟩=>p.elim
     | succ n=>exact Fc ((ih _ _ ha).2.1 n) ((ih _ _ hb).2.2 rfl n)
    refine ⟨λn => ?_,λn=>(pw n).pt,λ_ n=>pw n⟩;cases n with
    | zero=>exact PE.bad λ_ _=>rfl
    | succ n=>exact Ef (C:=aa fns fu d) ((ih _ _ ha).1 n) ((ih _ _ hb).1 n)
   | Or =>
    refine qB h λa' ha h=>qM h λb' hb e => ?_;subst e;have pw:∀ n,PW X (.BoolOp .Or (a :: b :: rest) pos) (tT X.K W0 ((lev (aa fns fu d) n).ts (.or a' b'))):=λn=>by
     cases n with
     | zero=>exact λwh pins s σ H Q I ⟨_,_,_,_,_,p⟩=>p.elim
     | succ n=>exact I9 ((ih _ _ ha).2.1 n) ((ih _ _ hb).2.2 rfl n)
    refine ⟨λn => ?_,λn=>(pw n).pt,λ_ n=>pw n⟩;cases n with
    | zero=>exact PE.bad λ_ _=>rfl
    | succ n=>exact Jw (C:=aa fns fu d) ((ih _ _ ha).1 n) ((ih _ _ hb).1 n)
theorem GU(ih:∀ e e',ce e=some e'->Good X (aa fns fu d) e e'){o:UnaryOp}{a:Expr}(h:cUn ce o a=some e'):Good X (aa fns fu d) (.UnaryOp o a pos) e':=by
 cases o with
 | Not =>
  refine qM h λa' ha e => ?_;subst e;refine ⟨λn => ?_,λn => ?_,λh=>by cases h⟩
  .cases n with
   | zero=>exact PE.bad λ_ _=>rfl
   | succ n=>exact DZ (C:=aa fns fu d) ((ih _ _ ha).1 n)
  .cases n with
   | zero=>exact PT.bad λ_ _=>rfl
   | succ n=>exact Ft ((ih _ _ ha).2.1 n)
 | USub =>
  refine qM h λa' ha e => ?_;subst e;exact .plain (λn=>Er ((ih _ _ ha).1 n)) (λ_=>rfl) (λ_ _ _=>rfl) rfl
 | _=>exact qN h
theorem Cv{e:Expr}(h:yv e=true):∃ k p q,e = .UnaryOp .USub (.Constant (.int 1) k p) q:=by
 cases e with
 | UnaryOp o a q=>cases o with
  | USub=>cases a with
   | Constant v k p=>cases v with
    | int i=>cases eq_of_beq (show (i == 1)=true from h);exact ⟨k,p,q,rfl⟩
    | _=>cases h
   | _=>cases h
  | _=>cases h
 | _=>cases h
theorem qh{α:Type}{o:Option α}(h:kY o=true):o=none:=by
 cases o with
 | none=>rfl
 | some _=>cases h
theorem qT(ih:∀ e e',ce e=some e'->Good X (aa fns fu d) e e'){lo:Option Expr}{l':Option E}(h:lO ce lo=some l')(n:Nat):PO X lo (gv X.K W0 (evo (lev (aa fns fu d) n).ev l')):=by
 cases lo with
 | none=>cases h;exact DE
 | some l=>exact qM h λl2 el e=>by subst e;exact DF ((ih _ _ el).1 n)
theorem B2(hu:X.A.units+2 < cLine)(ih:∀ e e',ce e=some e'->Good X (aa fns fu d) e e'){a s:Expr}(h:kU ce a s=some e'):Good X (aa fns fu d) (.Subscript a s pos) e':=by
 unfold kU at h;cases hsl:fO s with
 | true =>
  rw [hsl] at h;cases s with
  | Slice lo hi st p=>cases st with
   | none =>
    refine qB h λa' ha h=>qB h λl' hl h=>qM h λh' hh e => ?_;subst e;exact .plain (λn=>Gr ((ih _ _ ha).1 n) (qT ih hl n) (qT ih hh n)) (λ_=>rfl) (λ_ _ _=>rfl) rfl
   | some st =>
    refine qI h λhc h=>qM h λa' ha e => ?_;subst e;rw [Bool.and_eq_true,Bool.and_eq_true] at hc;cases qh hc.1.1;cases qh hc.1.2;obtain ⟨_,_,_,rfl⟩:=Cv hc.2;exact .plain (λn=>FN ((ih _ _ ha).1 n)) (λ_=>rfl) (λ_ _ _=>rfl) rfl
  | _=>exact qN h
 | false =>
  rw [hsl] at h;refine qB h λa' ha h=>qM h λb' hb e => ?_;subst e;exact .plain (λn=>Ec (by omega) ((ih _ _ ha).1 n) ((ih _ _ hb).1 n) (zS hsl)) (λ_=>rfl) (λ_ _ _=>rfl) rfl
include ok in
theorem EA(ih:∀ e e',ce e=some e'->Good X (aa fns fu d) e e'){f:Str}{p:Pos}{es:List Expr}(hgl:sc.names.lookup f=some .globalImplicit)(hm:X.mg f=none)(hst:es.any isStar=false)(h:cBi ce f es=some e'):Good X (aa fns fu d) (.Call (.Name f p) es [] pos) e':=by
 refine qB h λb hb h=>qI h λhne h=>qM h λes' ha e => ?_;subst e;cases es with
 | nil=>cases hne
 | cons a es =>
  unfold xF at hb;exact .plain (λn=>Fk hb ok.calm ok.units (ok.gl hgl) hm (cW ih hst ha n) hst) (λ_=>rfl) (λ_ _ _=>rfl) rfl
include ok in
theorem CG(ih:∀ e e',ce e=some e'->Good X (aa fns fu d) e e'){p:Pos}{es:List Expr}(hgl:sc.names.lookup ("isinstance" : Str)=some .globalImplicit)(hm:X.mg "isinstance" = none)(hst:es.any isStar=false)(h:yN T sc ce es=some e'):Good X (aa fns fu d) (.Call (.Name "isinstance" p) es [] pos) e':=by
 cases es with
 | nil=>exact qN h
 | cons a es=>cases es with
  | nil=>exact qN h
  | cons t es =>
   refine qI h λhb h=>qB h λtn hn h=>qB h λty ht h=>qB h λa' ha h=>qI h λhc2 h9 => ?_;cases cC hb;obtain ⟨p2,rfl⟩:=sR hn;simp only [Bool.and_eq_true,beq_iff_eq] at hc2;cases h9;obtain ⟨t1,t2,t3,t4⟩:=DD ht;rw [List.any_cons,Bool.or_eq_false_iff] at hst;exact .plain (λn=>EI t1 (ok.gl hc2.2) (ok.bt tn (List.contains_iff_mem.mp hc2.1)) t2 t3 t4 (ok.gl hgl) hm ((ih _ _ ha).1 n) (aV hst.1)) (λ_=>rfl) (λ_ _ _=>rfl) rfl
include ok in
theorem Cg(ih:∀ e e',ce e=some e'->Good X (aa fns fu d) e e'){f:Str}{p:Pos}{es:List Expr}(hgl:sc.names.lookup f=some .globalImplicit)(hm:X.mg f=none)(hst:es.any isStar=false)(h:jo T sc ce f es=some e'):Good X (aa fns fu d) (.Call (.Name f p) es [] pos) e':=by
 refine qE h (λhf h=>by subst hf;exact CG ok ih hgl hm hst h) λh => ?_
 exact EA ok ih hgl hm hst h
include ok in
theorem BV(ih:∀ e e',ce e=some e'->Good X (aa fns fu d) e e'){f:Str}{p:Pos}{es:List Expr}(h:yJ T sc ce f es=some e'):Good X (aa fns fu d) (.Call (.Name f p) es [] pos) e':=by
 refine qI h λhc h => ?_;simp only [Bool.and_eq_true,Bool.not_eq_true',beq_iff_eq] at hc;obtain ⟨⟨hnm,hst⟩,hgl⟩:=hc;obtain ⟨h1,h2,h3⟩:=j1 hnm;cases hi:bq T.fns f with
 | some i =>
  rw [hi] at h;refine qM h λes' ha e => ?_;subst e;obtain ⟨fa,fd,ps,q1,q2,q3,q4,q5⟩:=ok.hF i f (ixOf_get hi) h1;refine .plain (λn => ?_) (λ_=>rfl) (λ_ _ _=>rfl) rfl;cases es with
  | nil=>cases ha;exact AW q4 q5 ok.room2 (ok.gl hgl) q1 q2 q3 h1
  | cons a es =>
   have hst':=hst;rw [List.any_cons,Bool.or_eq_false_iff] at hst';exact DK q4 q5 ok.room2 (ok.gl hgl) q1 q2 q3 h1 (cW ih hst ha n) (aV hst'.1 _) (dv hst'.2)
 | none =>
  rw [hi] at h;cases hbt:T.bt.contains f with
  | true =>
   have h:(match T.bt.contains f with | true=>jo T sc ce f es | false=>gh T sc ce f es [])=some e':=h
   rw [hbt] at h;exact Cg ok ih hgl (ok.bt f (List.contains_iff_mem.mp hbt)) hst h
  | false =>
   have h:(match T.bt.contains f with | true=>jo T sc ce f es | false=>gh T sc ce f es [])=some e':=h
   rw [hbt] at h;exact oN ok ih h _ _
include ok in
theorem Fe(ih:∀ e e',ce e=some e'->Good X (aa fns fu d) e e'){o:Expr}{o':E}{m:Str}{ap cp:Pos}{es:List Expr}(hbs:fR o=false)(ho:Good X (aa fns fu d) o o')(hline:(ap.endLine == cp.line)=true)(hst:es.any isStar=false)(h:cMt T ce o' m ap cp es=some e'):Good X (aa fns fu d) (.Call (.Attribute o m ap) es [] cp) e':=by
 refine qE h (λhf h => ?_) λh => ?_
 .subst hf
  refine j6 h λa a' e1 ha e => ?_;subst e1;subst e;exact .plain (λn=>Eg (ho.1 n) ((ih _ _ ha).1 n) (base_of hbs _) hline (aV (gD hst))) (λ_=>rfl) (λ_ _ _=>rfl) rfl
 refine qE h (λhf h => ?_) λh => ?_
 .subst hf
  refine j6 h λa a' e1 ha e => ?_;subst e1;subst e;exact .plain (λn=>EK (ho.1 n) ((ih _ _ ha).1 n) (base_of hbs _) hline (aV (gD hst))) (λ_=>rfl) (λ_ _ _=>rfl) rfl
 refine qE h (λhf h5 => ?_) λh => ?_
 .subst hf
  cases es with
  | nil =>
   cases h5;exact .plain (λn=>Ew (ho.1 n) (base_of hbs _) hline) (λ_=>rfl) (λ_ _ _=>rfl) rfl
  | cons b es =>
   exact qN h5
 refine qE h (λhf h => ?_) λh => ?_
 .subst hf
  refine qI h λhe h => ?_;cases cC he;cases h;exact .plain (λn=>BN (ho.1 n) (base_of hbs _) hline) (λ_=>rfl) (λ_ _ _=>rfl) rfl
 refine qE h (λhf h => ?_) λh => ?_
 .subst hf
  refine BO h λa b a' b' e1 ha hb e => ?_;subst e1;subst e;rw [List.any_cons,Bool.or_eq_false_iff] at hst;exact .plain (λn=>Eu (by have:=ok.units;omega) (ho.1 n) ((ih _ _ ha).1 n) ((ih _ _ hb).1 n) (base_of hbs _) hline (aV hst.1) (aV (gD hst.2))) (λ_=>rfl) (λ_ _ _=>rfl) rfl
 exact oG ok ih hbs ho h
include ok in
theorem C6(ih:∀ e e',ce e=some e'->Good X (aa fns fu d) e e'){fn:Expr}{es:List Expr}{kws:List Keyword}(h:yp T sc ce fn es kws pos=some e'):Good X (aa fns fu d) (.Call fn es kws pos) e':=by
 cases fn with
 | Name f p=>cases kws with
  | nil=>exact BV ok ih h
  | cons k kws=>exact oN ok ih h _ _
 | Attribute o m ap =>
  refine qI h λhbs h=>qB h λo' ho h => ?_;have hbs:=bL hbs;cases kws with
  | nil =>
   refine qI h λhc h => ?_;rw [Bool.and_eq_true] at hc;exact Fe ok ih hbs (ih _ _ ho) hc.1 (bL hc.2) h
  | cons k kws=>exact oG ok ih hbs (ih _ _ ho) h
 | _=>exact qN h
theorem BY(ih:∀ e e',ce e=some e'->Good X (aa fns fu d) e e'){keys:List (Option Expr)}{vs:List Expr}(h:yE ce keys vs=some e'):Good X (aa fns fu d) (.Dict keys vs pos) e':=by
 cases keys with
 | nil =>
  refine qI h λhe h => ?_;cases cC he;cases h;exact .plain (λn=>DM) (λ_=>rfl) (λ_ _ _=>rfl) rfl
 | cons k0 keys =>
  refine qB h λks hks h=>qB h λes' hes h=>qI h λhc h => ?_;simp only [Bool.and_eq_true,beq_iff_eq,decide_eq_true_eq] at hc;cases h;have kl:=mV hks;exact .plain (λn=>DJ (tM ih n (by rw [<-kl];exact hc.1.1) hks hes) (λz=>nomatch z) (by rw [<-kl];exact hc.1.2) hc.2) (λ_=>rfl) (λ_ _ _=>rfl) rfl
include ok in
theorem j5(ih:∀ e e',ce e=some e'->Good X (aa fns fu d) e e'){ci:Expr->Option E}{g:Comprehension}{rest:List Comprehension}{scope:Scope}{q:List Nat×List (Tg×E×List E)}
  (ihg:∀ {X':Cx},XOk T fns d X' (bT scope sc) (ownOf (g :: rest)++freeOf scope) -> ∀ e e',ci e=some e'->Good X' (aa fns fu d) e e') (h:k9 T sc ce N ci g rest scope=some q) :
  ∃ t it' cs rest' frI,q=(frI,(t,it',cs) :: rest')/\CompSc X scope (ownOf (g :: rest)) (freeOf scope) frI/\g.is_async=0/\(∀ n,PI X g.target g.iter (tI X.K W0 (itF (lev (aa fns fu d) n) it')))/\(∀ x,foldedSetIterable g.iter X.env x=pure x) /\
   ∀ pins s3 H3 fp,XOk T fns d (aA X pins scope s3 H3 fp (ownOf (g :: rest)++freeOf scope)) (bT scope sc) (ownOf (g :: rest)++freeOf scope)/\PG (aA X pins scope s3 H3 fp (ownOf (g :: rest)++freeOf scope)) g.target (tG X.K t)/\(∀ n,PTs (aA X pins scope s3 H3 fp (ownOf (g :: rest)++freeOf scope)) g.ifs (aT (lev (aa fns fu d) n).ts cs)) /\
    cG (aA X pins scope s3 H3 fp (ownOf (g :: rest)++freeOf scope)) (aa fns fu d) rest rest':=by
 refine qI h λhc h=>qB h λit' hit h=>qB h λt ht h=>qB h λcs hcs h=>qB h λrest' hrest h=>qM h λfrI hfr e => ?_;rw [Bool.and_eq_true,beq_iff_eq] at hc;have S:=AI ok hc.1 hfr;refine ⟨t,it',cs,rest',frI,e.symm,S,hc.2,(d0 ok ih hit).1,(d0 (tg:=g.target) ok ih hit).2,λpins s3 H3 fp => ?_⟩;have ok':=ok.comp (scope:=scope) S.nd pins s3 H3 fp;exact ⟨ok',nR ok' (λ_=>BU) ht,j7 (ihg ok') hcs,pj ok' (ihg ok') hrest⟩
end
theorem bG:∀ (m:Nat) {X:Cx} {sc:Scope} {N:List Str} (ok:XOk T fns d X sc N) (e:Expr) (e':E),aG T sc N m e=some e'->Good X (aa fns fu d) e e'
 | 0,_,_,_,_,_,_,h=>by cases h
 | m+1,X,sc,N,ok,e,e',h=>by
  have ih:=bG m ok;cases e with
  | Name x p=>exact Bs ok h
  | Constant v k p=>exact Dj h
  | BinOp a o b p =>
   refine qB h λo' ho h=>qB h λa' ha h=>qM h λb' hb e => ?_;subst e;exact .plain (λn=>A5 (C8 ho) ((ih _ _ ha).1 n) ((ih _ _ hb).1 n)) (λ_=>rfl) (λ_ _ _=>rfl) rfl
  | Compare a os bs p=>exact Co ok ih h
  | BoolOp o es p=>exact Dx ih h
  | UnaryOp o a p=>exact GU ih h
  | Tuple es k p =>
   refine qI h λhs h=>qM h λa' ha e => ?_;subst e;exact .plain (λn=>E4 (cW ih (bL hs) ha n)) (λ_=>rfl) (λ_ _ _=>rfl) rfl
  | List es p =>
   refine qI h λhs h=>qM h λa' ha e => ?_;subst e;exact .plain (λn=>EL (cW ih (bL hs) ha n)) (λ_=>rfl) (λ_ _ _=>rfl) rfl
  | Subscript a s p=>exact B2 ok.units ih h
  | Call fn es kws cp=>exact C6 ok ih h
  | Attribute o f p =>
   refine qB h λcs hcs h=>qB h λo' ho h=>qI h λhn h => ?_;cases h;rw [Bool.and_eq_true] at hn;obtain ⟨n1,n2⟩:=iq hn.1;exact .plain (λn=>ES ((ih _ _ ho).1 n) (base_of (bL hn.2) _) n2 n1 (ok.hA _ _ hcs)) (λ_=>rfl) (λ_ _ _=>rfl) rfl
  | Dict keys vs p=>exact BY ih h
  | ListComp elt gs scope p=>cases gs with
   | nil=>exact qN h
   | cons g rest =>
    refine qB h λq hq h=>qM h λelt' he e => ?_;subst e;obtain ⟨t,it',cs,rest',frI,rfl,S,h1,h2,h3,h4⟩:=j5 (fu:=fu) ok ih (λok'=>bG m ok') hq;exact .plain (λn=>Dz ok.calm S h1 (h2 n) h3 λpins s3 H3 fp=>⟨(h4 pins s3 H3 fp).2.1,(h4 pins s3 H3 fp).2.2.1,(h4 pins s3 H3 fp).2.2.2,(bG m (h4 pins s3 H3 fp).1 _ _ he).1⟩) (λ_=>rfl) (λ_ _ _=>rfl) rfl
  | DictComp kx vx gs scope p=>cases gs with
   | nil=>exact qN h
   | cons g rest =>
    refine qB h λq hq h=>qB h λk' hk h=>qM h λv' hv e => ?_;subst e;obtain ⟨t,it',cs,rest',frI,rfl,S,h1,h2,h3,h4⟩:=j5 (fu:=fu) ok ih (λok'=>bG m ok') hq;exact .plain (λn=>AV ok.calm (by have:=ok.units;omega) S h1 (h2 n) h3 λpins s3 H3 fp=>⟨(h4 pins s3 H3 fp).2.1,(h4 pins s3 H3 fp).2.2.1,(h4 pins s3 H3 fp).2.2.2,(bG m (h4 pins s3 H3 fp).1 _ _ hk).1,(bG m (h4 pins s3 H3 fp).1 _ _ hv).1⟩) (λ_=>rfl) (λ_ _ _=>rfl) rfl
  | _=>exact qN h
theorem zD(ok:XOk T fns d X sc N){m:Nat}{elt:Expr}{g:Comprehension}{rest:List Comprehension}{scope:Scope}{pos:Pos}{e':E}(h:aG T sc N (m+1) (.ListComp elt (g :: rest) scope pos)=some e'):
  ∃ t it' cs rest' elt' frI,e'=.comp (ownOf (g :: rest)).length frI ((t,it',cs) :: rest') elt'/\CompSc X scope (ownOf (g :: rest)) (freeOf scope) frI/\g.is_async=0/\(∀ n,PI X g.target g.iter (tI X.K W0 (itF (lev (aa fns fu d) n) it')))/\(∀ x,foldedSetIterable g.iter X.env x=pure x) /\
   ∀ pins s3 H3 fp,PG (aA X pins scope s3 H3 fp (ownOf (g :: rest)++freeOf scope)) g.target (tG X.K t)/\(∀ n,PTs (aA X pins scope s3 H3 fp (ownOf (g :: rest)++freeOf scope)) g.ifs (aT (lev (aa fns fu d) n).ts cs)) /\
    cG (aA X pins scope s3 H3 fp (ownOf (g :: rest)++freeOf scope)) (aa fns fu d) rest rest' /\ ∀ n,PE (aA X pins scope s3 H3 fp (ownOf (g :: rest)++freeOf scope)) elt (tE X.K W0 ((lev (aa fns fu d) n).ev elt')):=by
 refine qB h λq hq h=>qM h λelt' he e => ?_;obtain ⟨t,it',cs,rest',frI,rfl,S,h1,h2,h3,h4⟩:=j5 (fu:=fu) ok (bG m ok) (λok'=>bG m ok') hq;exact ⟨t,it',cs,rest',elt',frI,e.symm,S,h1,h2,h3,λpins s3 H3 fp=>⟨(h4 pins s3 H3 fp).2.1,(h4 pins s3 H3 fp).2.2.1,(h4 pins s3 H3 fp).2.2.2,(bG m (h4 pins s3 H3 fp).1 _ _ he).1⟩⟩
end
section
variable{prog:Program}{w:World}{K:Type}[DecidableEq K]{knd:HeapKind prog w K}{A:Around}{E:Value->Shared->Prop}{s:Shared}{d a:Addr}{k:K}{xs:List (K×Addr×Value)}
end
section
variable{X:Cx}{pins:List (Addr×Obj)}{σ:L2.St}{H:Hp}{s:Shared}{a b:Addr}{kvs:List (List Key×V)}{k:List Key}
end
section
variable{X:Cx}{W:XQ}{r:L}{o i:Expr}{o' i':E}{pos tpos:Pos}
end
section
variable{T:Tab}{fns:List Fn}{fu d:Nat}{X:Cx}{sc:Scope}{N:List Str}
theorem nj{e:Expr}{t:Option Expr}{l:Nat}{env:Env}(h:d9 e=false):swapsWith e t l env=pure false:=by
 cases e <;> first | rfl | cases h
theorem y8{e t:Expr}{l:Nat}{env:Env}(h:d9 e=false):swapsWithSole [t] e l env=pure false:=by
 cases e <;> first | rfl | cases h
theorem lW{e:Expr}{ts:List Expr}{k:Nat}{p:Pos}{l:Nat}{env:Env}:swapsWithSole [.Tuple ts k p] e l env=pure false:=by
 cases e <;> rfl
theorem eE{f:Stmt->Option S}(ih:∀ s s',f s=some s' -> ∀ n,PS X s (tSt X.K W0 (s1F (lev (aa fns fu d) n) s'))):∀ {ss:List Stmt} {ss':List S},ag (ss.map f)=some ss' -> ∀ n,PSs X ss (tSt X.K W0 ((lev (aa fns fu d) n).ex ss'))
 | [],_,h=>λn=>by
  cases h;cases n with
  | zero=>exact PSs.bad λ_ _=>rfl
  | succ n=>exact GY (r:=lev (aa fns fu d) n)
 | s :: ss,ss',h=>λn=>by
  rw [List.map_cons] at h;cases ea:f s with
  | none=>rw [ea] at h;cases h
  | some s' =>
   rw [ea] at h;simp only [ag] at h;cases er:ag (ss.map f) with
   | none=>rw [er] at h;cases h
   | some r' =>
    rw [er] at h;cases h;cases n with
    | zero=>exact PSs.bad λ_ _=>rfl
    | succ n=>exact Ct (ih s s' ea n) (eE ih er n)
theorem zm{ts:List Expr}{pt pt2:Pos}{a b:Expr}{kt k2:Nat}{env:Env}(ha:foldedForSure 8 a=true)(hb:foldedForSure 8 b=true):swappedStores [.Tuple ts kt pt] (.Tuple [a,b] k2 pt2) env=pure none:=by
 have h:[a,b].all (foldedForSure 8)=true:=by simp [ha,hb]
 unfold swappedStores;simp only [h,if_true];split
 .rfl
 .split
  .rfl
  .split <;> rfl
theorem zO{x y:Str}{px py pt pt2:Pos}{a b:Expr}{kt k2:Nat}(ok:XOk T fns d X sc N)(hk:X.env.blockKind=.function)(h:gp sc x y px py a b=true):
  swappedStores [.Tuple [.Name x px,.Name y py] kt pt] (.Tuple [a,b] k2 pt2) X.env=pure (some [x,y]):=by
 unfold gp at h;simp only [Bool.and_eq_true,Bool.not_eq_true',beq_iff_eq] at h;obtain ⟨⟨⟨⟨⟨⟨⟨h1,h2⟩,h3⟩,h4⟩,h5⟩,h6⟩,h7⟩,h8⟩:=h;have e1:X.env.kindOf x=some .local:=by show X.env.scope.names.lookup x=_;rw [ok.hsc];exact h1
 have e2:X.env.kindOf y=some .local:=by show X.env.scope.names.lookup y=_;rw [ok.hsc];exact h2
 have nd:[x,y].eraseDups.length=2:=by
  have : ¬ (y == x)=true:=by intro z;rw [beq_iff_eq] at z;subst z;simp at h3
  simp [List.eraseDups_cons,this]
 have b0:([.Tuple [.Name x px,.Name y py] kt pt]:List Expr)=[.Tuple [.Name x px,.Name y py] kt pt]:=rfl;unfold swappedStores;simp [hk,e1,e2,h4,nd,h7,h8];have q1:∀ z:Expr,isStar z=false -> ¬ ((match z with | .Starred value pos=>true | x=>false)=true):=λz hz=>by cases z <;> first | exact Kv | cases hz
 rw [if_neg (λz=>z.elim (q1 a h5) (q1 b h6))];have px':(Expr.Name x px).pos=px:=rfl;rw [px'];simp only [List.filterMap_cons,List.filterMap_nil,e1,e2,h4,true_and,and_self,if_true];simp [nd]
theorem zR{o i:Expr}{spos:Pos}{env:Env}(h:fO i=false)(v:Value):assign (.Subscript o i spos) env v=(do
   let ov <- holding [v] (eval o env)
   let iv <- holding [v,ov] (eval i env)
   standAt spos
   holding [v,ov,iv] (setItem ov iv v)
   release [v,ov,iv] []):=by
 cases i <;> first | rfl | cases h
theorem oK{α:Type}{l:List α}{p:α×α}(h:kR l=some p):l=[p.1,p.2]:=by
 cases l with
 | nil=>cases h
 | cons a l=>cases l with
  | nil=>cases h
  | cons b l=>cases l with
   | nil=>cases h;rfl
   | cons _ _=>cases h
theorem kc{e:Expr}{x:Str×Pos}(h:nmP e=some x):e = .Name x.1 x.2:=by
 cases e with
 | Name y p=>cases h;rfl
 | _=>cases h
theorem BS{e:Expr}{q:List Expr×Nat×Pos}(h:yL e=some q):e = .Tuple q.1 q.2.1 q.2.2:=by
 cases e with
 | Tuple es k p=>cases h;rfl
 | _=>cases h
section
variable{cE:Expr->Option E}
theorem zK(ok:XOk T fns d X sc N)(hk:X.env.blockKind=.function)(hfn:∀ x,X.fn x=true)(ihE:∀ e e',cE e=some e'->Good X (aa fns fu d) e e'){ts:List Expr}{kt:Nat}{pt pos:Pos}{e:Expr}{st':S}(h:iz T sc N cE ts kt pt e=some st')(n:Nat):PS X (.Assign [.Tuple ts kt pt] e pos) (tSt X.K W0 (s1F (lev (aa fns fu d) n) st')):=by
 refine qB h λq hq h=>qB h λt ht h=>qB h λx hx h=>qB h λy hy h=>qB h λa ha h => ?_;cases BS hq;cases oK ht;rw [kc hx,kc hy] at h ⊢;rw [oK ha] at h ⊢;cases hp:gp sc x.1 y.1 x.2 y.2 a.1 a.2 with
 | true =>
  rw [hp] at h;refine qB h λi hi h=>qB h λj hj h=>qB h λa' h1 h=>qM h λb' h2 e => ?_;subst e;have hp':=hp;unfold gp at hp';simp only [Bool.and_eq_true,Bool.not_eq_true',beq_iff_eq] at hp';obtain ⟨⟨⟨⟨⟨⟨⟨p1,p2⟩,p3⟩,p4⟩,p5⟩,p6⟩,p7⟩,p8⟩:=hp';refine Hh ok.calm ok.ndX (by rw [ok.hN];exact ixOf_get hi) (by rw [ok.hN];exact ixOf_get hj) ?_ (by rw [ok.hsc];exact p1) (by rw [ok.hsc];exact p2) ((ihE _ _ h1).1 n) ((ihE _ _ h2).1 n) (aV p5) (aV p6) (zO ok hk hp)
  intro hij;subst hij;have:=(ixOf_get hi).symm.trans (ixOf_get hj);rw [Option.some.inj this] at p3;simp at p3
 | false =>
  rw [hp] at h;refine qI h λhf h=>qB h λt ht h=>qM h λe' he e => ?_;subst e;rw [Bool.and_eq_true] at hf;exact rZ ((ihE _ _ he).1 n) (hJ ok (λ_=>hfn) ht) lW (zm hf.1 hf.2) rfl
end
theorem AH(ok:XOk T fns d X sc N)(hk:X.env.blockKind=.function)(hfn:∀ x,X.fn x=true){m:Nat}{x:Str}{px:Pos}{e:Expr}{pos:Pos}{st':S}(h:uN sc N (aG T sc N m) x px e=some st')(n:Nat):PS X (.Assign [.Name x px] e pos) (tSt X.K W0 (s1F (lev (aa fns fu d) n) st')):=by
 refine qI h λhc h=>qB h λi hi h=>qM h λe' he e => ?_;subst e;obtain ⟨h1,h2,h3⟩:=AZ hi;have plain:d9 e=false->PS X (.Assign [.Name x px] e pos) (tSt X.K W0 (s1F (lev (aa fns fu d) n) (.set (.nm i) e'))):=λhc=>Ek ok.ndX (by rw [ok.hN];exact h1) (ok.locX h2) (.inl (hfn _)) ((bG m ok _ _ he).1 n) (nj hc)
 cases e with
 | ListComp elt gs scope p=>cases gs with
  | nil=>cases hc
  | cons g rest =>
   have hsw:ly sc x px scope p=true:=hc;cases m with
   | zero=>cases he
   | succ m =>
    obtain ⟨t,it',cs,rest',elt',frI,rfl,Sc,ha,hpi,hfold,inner⟩:=zD ok he;unfold ly at hsw;rw [Bool.and_eq_true,Bool.and_eq_true,beq_iff_eq,beq_iff_eq] at hsw;obtain ⟨⟨q1,q2⟩,q3⟩:=hsw;have hloc:X.env.scope.names.lookup x=some .local:=by rw [ok.hsc];exact q1
    have hkd:X.env.kindOf x=some .local:=hloc;cases n with
    | zero=>exact PS.bad λ_ _=>rfl
    | succ n =>
     refine zG ok.calm Sc ha (hpi n) hfold inner ok.ndX (by rw [ok.hN];exact h1) hloc ?_
     show (pure (X.env.blockKind == .function && X.env.kindOf x == some .local && px.line == p.line && !(scope.names.any λ(n,k)=>n == x && (k == .local || k == .cell))):Sem Bool)=pure true;rw [hk,hkd,q2,q3];simp
 | _=>exact plain (bL hc)
theorem zM(ok:XOk T fns d X sc N)(hk:X.env.blockKind=.function)(hfn:∀ x,X.fn x=true){m:Nat}{t e:Expr}{pos:Pos}{st':S}(h:qU T sc N (aG T sc N m) t e=some st')(n:Nat):PS X (.Assign [t] e pos) (tSt X.K W0 (s1F (lev (aa fns fu d) n) st')):=by
 have ihE:=bG (fu:=fu) m ok;cases t with
 | Name x px=>exact AH ok hk hfn h n
 | Tuple ts k p =>
  cases hc:fV e with
  | true =>
   have h:(match fV e with | true=>iz T sc N (aG T sc N m) ts k p e | false=>(b6 true sc N (.Tuple ts k p)).bind λt=>(aG T sc N m e).map (S.set t))=some st':=h
   rw [hc] at h;exact zK ok hk hfn ihE h n
  | false =>
   have h:(match fV e with | true=>iz T sc N (aG T sc N m) ts k p e | false=>(b6 true sc N (.Tuple ts k p)).bind λt=>(aG T sc N m e).map (S.set t))=some st':=h
   rw [hc] at h;refine qB h λt ht h=>qM h λe' he e1 => ?_;subst e1;refine rZ ((ihE _ _ he).1 n) (hJ ok (λ_=>hfn) ht) lW ?_ rfl;revert hc;cases e <;> first | exact λ_=>rfl | exact λh2=>nomatch h2
 | Subscript o i p =>
  refine qI h λhc h=>qB h λo' ho h=>qB h λi' hi h=>qM h λe' he e => ?_;subst e;rw [Bool.and_eq_true] at hc;exact Hi (by have:=ok.units;omega) ((ihE _ _ he).1 n) ((ihE _ _ ho).1 n) ((ihE _ _ hi).1 n) (y8 (bL hc.2)) rfl (zR (bL hc.1))
 | Attribute o f p =>
  refine qB h λx hx h=>qB h λcs hcs h=>qB h λo' ho h=>qB h λe' he h=>qI h λhn h => ?_;cases h;cases kc hx;obtain ⟨n1,n2⟩:=iq hn;exact DT ((ihE _ _ ho).1 n) ((ihE _ _ he).1 n) (by unfold swapsWith;cases e <;> rfl) n2 n1 (ok.hA _ _ hcs)
 | _=>exact qN h
theorem pD(ok:XOk T fns d X sc N)(hk:X.env.blockKind=.function)(hfn:∀ x,X.fn x=true):∀ m st st',cY T sc N m st=some st' -> ∀ n,PS X st (tSt X.K W0 (s1F (lev (aa fns fu d) n) st'))
 | 0,_,_,h=>by cases h
 | m+1,st,st',h=>λn=>by
  have ih:=pD ok hk hfn m;have ihE:=bG (fu:=fu) m ok;cases st with
  | Return o p=>cases o with
   | none=>exact qN h
   | some e=>exact qM h λa' ha e=>by subst e;exact F5 ((ihE _ _ ha).1 n)
  | Assign ts e p=>cases ts with
   | nil=>exact qN h
   | cons t r =>
    refine qI h λhr h => ?_;cases cC hr;exact zM ok hk hfn h n
  | Expr e p=>exact qI h λhc h=>qM h λa' ha e=>by subst e;exact FU ((ihE _ _ ha).1 n) (nj (bL hc))
  | If c a b p=>exact qB h λc' hc h=>qB h λa' ha h=>qM h λb' hb e=>by subst e;exact Ij ((ihE _ _ hc).2.1 n) (eE ih ha n) (eE ih hb n)
  | While c b o p =>
   refine qI h λhr h=>qB h λc' hc h=>qM h λb' hb e => ?_;subst e;cases cC hr;exact G5 ok.own (λn=>(ihE _ _ hc).2.1 n) (λn=>eE ih hb n)
  | For tg it b o p =>
   refine qI h λhr h=>qB h λt ht h=>qB h λit' hi h=>qM h λb' hb e => ?_;subst e;cases cC hr;exact Hg ok.own ok.calm ((ot ok ihE hi).1 n) (hJ ok (λ_=>hfn) ht) (λn=>eE ih hb n) (ot (fu:=fu) ok ihE hi).2
  | Raise a b p=>cases h;exact PS.bad λ_ _=>rfl
  | _=>exact qN h
end
set_option genInjectivity false in
structure FI where
 x:Str
 st:Stmt
 N:List Str
 ps:List Str
 cm:Option (Str×Str)
 kf:Option (KF×Nat)
structure FunD(K:KD)(x qual:Str)(st:Stmt)(f:Addr)(fd:FuncData):Prop where
 ex:∃ (oc:Value) (od:Option Addr) (dV kV doc pm:Value) (an:Option Addr) (cdv ct:Value) (osl:Array (Option Value)),
  fd=PySem.W.fnOf x qual (fQ st) (fK st) (cz st) dV kV doc pm an cdv ct/\K.lookup f=some ⟨oc,od,.func fd,osl⟩/\PySem.W.codeIn K cdv qual=true
 kp:PySem.W.keepIn K (.ref f)=true
noncomputable def FI.nm(fi:FI):Str:=match fi.cm with | none=>fi.x | some c=>c.2
noncomputable def FI.tn(fi:FI):Str:=if fi.cm.isSome || fi.kf.isSome then "__debug__" else fi.x
noncomputable def FAt(K:KD)(mg:Str->Option Value)(fi:FI)(f:Addr):Prop:=match fi.cm with
 | none=>mg fi.x=some (.ref f)
 | some c => ∃ C,mg c.1=some (.ref C)/\PySem.W.nsIn K mainGlobals c.1=some (some (.ref C))/\Cls K C/\Meth K C c.2 f/\(c.2 = "__init__" -> Mk K C f)
structure FOk(T:Tab)(K:KD)(mg:Str->Option Value)(fi:FI)(F:Fn):Prop where
 sc:FnScope fi.N fi.ps (cz fi.st)
 np:F.np=fi.ps.length
 ns:F.ns=fi.N.length
 body:∃ m,ag ((fK fi.st).map (cY T (cz fi.st) fi.N m))=some F.body
 obj:∃ f fd,FAt K mg fi f/\FunD K fi.nm fi.x fi.st f fd/\(fi.kf=none->Binds K fd fi.ps []) /\ ∀ F nd,fi.kf=some (F,nd)->fi.ps=F.ns++F.ks/\F.ns++F.ks≠[] /\ ∃ ddV dd,KFok K fd F nd ddV dd
noncomputable def AllOk(T:Tab)(K:KD)(mg:Str->Option Value):List FI->List Fn->Prop
 | [],[]=>True
 | fi :: r,F :: s=>FOk T K mg fi F/\AllOk T K mg r s
 | _,_=>False
section
variable{T:Tab}{K:KD}{mg:Str->Option Value}{P:Program}{w:World}{base:Heap}
theorem AllOk.get:∀ {fis:List FI} {fns:List Fn} {i:Nat} {fi:FI},AllOk T K mg fis fns->fis[i]? = some fi -> ∃ F,fns[i]? = some F/\FOk T K mg fi F
 | [],_,_,_,_,e=>by simp at e
 | _ :: _,[],_,_,h,_=>False.elim h
 | _ :: _,F :: _,0,_,h,e=>by simp at e;subst e;exact ⟨F,rfl,h.1⟩
 | _ :: r,_ :: s,i+1,fi,h,e=>by
  obtain ⟨F,e1,e2⟩:=AllOk.get (i:=i) (fi:=fi) h.2 (by simpa using e)
  exact ⟨F,by simpa using e1,e2⟩
structure PgOk(T:Tab)(K:KD)(mg:Str->Option Value)(fis:List FI)(fns:List Fn):Prop where
 names:T.fns=fis.map FI.tn
 all:AllOk T K mg fis fns
 cs:∀ x u,T.cs.lookup x=some u -> ∃ v val,mg x=some val/\RelV v val /\ ∀ ρ H,RV K ρ H u v
 bt:∀ x∈T.bt,mg x=none
 kfs:∀ (y:Str) (i:Nat) (F:KF) (nd:Nat),T.kf.lookup y=some (i,F,nd) -> ∃ fi,fis[i]? = some fi/\fi.x=y/\fi.cm=none/\fi.kf=some (F,nd)
 cls:∀ (y:Str) (c i:Nat) (F:KF) (nd:Nat),T.cl.lookup y=some (c,i,F,nd)->aO c=y /\ ∃ fi,fis[i]? = some fi/\fi.cm=some (y,("__init__" : Str))/\fi.kf=some (F,nd)
 mts:∀ (m:Str) (l:List (Nat×Nat×KF×Nat)),T.mt.lookup m=some l -> ∀ c i F nd,(c,i,F,nd)∈l -> ∃ fi,fis[i]? = some fi/\fi.cm=some (aO c,m)/\fi.kf=some (F,nd)
 fls:∀ (f:Str) (cs:List Nat),T.fl.lookup f=some cs->gE K f cs
theorem Bd{ρ:List Addr}{H:Hp}{us:List U}{vs:List V}{N:List Str}{n:Nat}(hn:n=N.length)(h:RVs K ρ H us vs)(hl:us.length<=N.length):RS K ρ H (us.map some++List.replicate (n - us.length) none) (L2.start N vs) where
 len:=by unfold L2.start;simp [h.length,hn]
 val:=λi u e=>by
  subst hn;unfold L2.start;by_cases hi:i < us.length
  .rw [List.getElem?_append_left (by simpa using hi),List.getElem?_map] at e
   rw [List.getElem?_append_left (by rw [List.length_map,<-h.length];exact hi),List.getElem?_map]
   cases eu:us[i]? with
   | none=>rw [eu] at e;cases e
   | some w =>
    rw [eu] at e;cases e;obtain ⟨v,e1,e2⟩:=h.get eu;exact ⟨v,by rw [e1];rfl,e2⟩
  .rw [List.getElem?_append_right (by simpa using hi),List.getElem?_replicate] at e
   split at e <;> cases e
theorem Gd{env:Env}(h:env.scope.kind=.function):env.blockKind=.function:=by
 unfold Env.blockKind;rw [h]
 rfl
theorem Dn{W:XQ}{o:Out Fl}{ρ:List Addr}{H:Hp}{Q:VK}(p:post K W (RV K) (o.bind λf g=>match f with | .rt u => .ok u g | .nx _ => .ok .non g | _ => .bad) ρ H Q):postS K W o ρ H { nx:=λ_ H'=>Q .non H',rt:=Q }:=by
 revert p;cases o with
 | ok fl g1 =>
  cases fl with
  | nx σ1=>exact λp σ ρ' H' s h hs=>p .non ρ' H' s h rfl
  | rt u=>exact λp=>p
  | bk σ1=>exact λp=>p.elim
  | ct σ1=>exact λp=>p.elim
 | exc c fs g1=>exact λp=>p
 | bad=>exact λp=>p
theorem uW{fis:List FI}{fns:List Fn}(G:PgOk T K mg fis fns):∀ (d i:Nat) (fi:FI),fis[i]? = some fi -> ∀ f fd,FunD K fi.nm fi.x fi.st f fd->FnOk P w K mg base CX0 (2*d+2) f fd fi.ps (spI K fns d i fi.ps.length)
 | 0,i,fi,_,f,fd,_=>⟨λvs H Q E ⟨_,ρ,g,us,_,_,_,p⟩=>p.elim,λA outer s H args us vs Q E _ _ _ _ ⟨_,ρ,g,us,_,_,_,p⟩=>p.elim⟩
 | d+1,i,fi,hi,f,fd,F=>by
  obtain ⟨Fi,ei,O⟩:=G.all.get hi;obtain ⟨m,hb⟩:=O.body;have callee:∀ j fj,fis[j]? = some fj -> ∃ f fd,FAt K mg fj f/\PySem.W.keepIn K (.ref f)=true/\(fj.kf=none->Binds K fd fj.ps [])/\(∀ F nd,fj.kf=some (F,nd)->fj.ps=F.ns++F.ks/\F.ns++F.ks≠[] /\ ∃ ddV dd,KFok K fd F nd ddV dd)/\FnOk P w K mg base CX0 (2*d+2) f fd fj.ps (spI K fns d j fj.ps.length) /\ ∀ F,fns[j]? = some F->F.np=fj.ps.length:=λj fj ej=>by
   obtain ⟨Fj,ej',Oj⟩:=G.all.get ej;obtain ⟨f',fd',m1,m2,m3,m4⟩:=Oj.obj;exact ⟨f',fd',m1,m2.kp,m3,m4,uW G d j fj ej f' fd' m2,λF' e=>by rw [ej'] at e;cases e;exact Oj.np⟩
  obtain ⟨oc,od,dV,kV,doc,pm,an,cdv,ct,osl,rfl,lk,hcd⟩:=F.ex;refine Hl (k:=2*d+3) lk hcd O.sc (λvs H Q E ⟨_,ρ,g,us,_,rs,hl,_⟩=>by rw [<-rs.length];exact hl) λA outer s H vs Q E hr h => ?_
  have ok:XOk T fns d (fh CX0 P w K mg base fi.N fi.x (cz fi.st) f cdv A outer s H E).nox (cz fi.st) fi.N:=by
   refine ⟨λj x hx hdb => ?_,G.cs,G.bt,λy j F nd hy => ?_,λy c j F nd hy => ?_,λmm l hl c j F nd hmem => ?_,G.fls,hr,rfl,rfl,O.sc.nd,rfl,rfl⟩
   .rw [G.names,List.getElem?_map] at hx
    cases ej:fis[j]? with
    | none=>rw [ej] at hx;cases hx
    | some fj =>
     rw [ej] at hx;have hx:fj.tn=x:=by simpa using hx
     unfold FI.tn at hx;obtain ⟨f',fd',m1,m2,m3,m4,m5,m6⟩:=callee j fj ej;cases hc:fj.cm with
     | some c=>rw [hc] at hx;subst hx;cases hdb
     | none =>
      cases hk:fj.kf with
      | some c=>rw [hc,hk] at hx;subst hx;cases hdb
      | none =>
       rw [hc,hk] at hx;have hx:fj.x=x:=hx;subst hx;have m1':mg fj.x=some (.ref f'):=by unfold FAt at m1;rw [hc] at m1;exact m1
       exact ⟨f',fd',fj.ps,m1',m2,m3 hk,m5,m6⟩
   .obtain ⟨fj,ej,rfl,hc,hk⟩:=G.kfs y j F nd hy
    obtain ⟨f',fd',m1,m2,m3,m4,m5,m6⟩:=callee j fj ej;obtain ⟨b1,b2,ddV,dd,b3⟩:=m4 F nd hk;have m1':mg fj.x=some (.ref f'):=by unfold FAt at m1;rw [hc] at m1;exact m1
    rw [b1] at m5;exact ⟨f',fd',ddV,dd,m1',m2,b3,b2,m5,λF' e=>by rw [m6 F' e,b1]⟩
   .obtain ⟨hn,fj,ej,hc,hk⟩:=G.cls y c j F nd hy
    obtain ⟨f',fd',m1,m2,m3,m4,m5,m6⟩:=callee j fj ej;obtain ⟨b1,b2,ddV,dd,b3⟩:=m4 F nd hk;unfold FAt at m1;rw [hc] at m1;obtain ⟨C,c1,c2,c3,c4,c5⟩:=m1;rw [b1] at m5;exact ⟨C,f',fd',ddV,dd,c1,c5 rfl,by rw [hn];exact c2,b3,b2,m5,λF' e=>by rw [m6 F' e,b1]⟩
   .obtain ⟨fj,ej,hc,hk⟩:=G.mts mm l hl c j F nd hmem
    obtain ⟨f',fd',m1,m2,m3,m4,m5,m6⟩:=callee j fj ej;obtain ⟨b1,b2,ddV,dd,b3⟩:=m4 F nd hk;unfold FAt at m1;rw [hc] at m1;obtain ⟨C,c1,c2,c3,c4,c5⟩:=m1;rw [b1] at m5;exact ⟨C,f',fd',ddV,dd,c2,c3,c4,b3,b2,m5,λF' e=>by rw [m6 F' e,b1]⟩
  obtain ⟨fu,ρ,g,us,hg,rs,hl,p⟩:=h;refine ⟨tSt K W0 ((lev (aa fns fu d) fu).ex Fi.body),PSs.nox (eE (pD ok (Gd O.sc.kind) (λ_=>rfl) m) hb fu),?_⟩;simp only [aa,ei,dk] at p;rw [if_pos (by rw [hl,O.np])] at p
  have hpl:fi.ps.length<=fi.N.length:=by have:=congrArg List.length O.sc.pre;rw [List.length_take] at this;omega
  exact ⟨_,ρ,g,Bd O.ns rs (by omega),hg,Dn p⟩
theorem F1{H:Hp}{a:Addr}{xs:List V}(hO:js H)(h:SqL K H a xs):SqF K H a xs:=by
 rcases h with (h | h) | h
 .rcases hO a with z | ⟨o,ys,z⟩
  .rw [h] at z;cases z
  .rw [h] at z;cases z
 .exact .inl h
 .exact .inr h
theorem pG{ρ:List Addr}{H:Hp}:∀ ns:List Int,RVs K ρ H (ns.map U.int) (ns.map V.int)
 | []=>rfl
 | n :: ns=>⟨.int n,ns.map V.int,rfl,rfl,pG ns⟩
theorem Fz{fns:List Fn}{d i:Nat}{H:Hp}{a:Addr}{ns:List Int}{E:XK}(hO:js H)(hS:SqL K H a (ns.map V.int)){fu:Nat}{g':G}(h:aa fns fu d i [.fro (ns.map U.int)] []=.ok (.bl true) g'):
  spI K fns d i 1 [.ref a] H (λv _=>v=.bl true) E:=by
 refine ⟨fu,[],[],[.fro (ns.map U.int)],⟨rfl,λi j a e=>by simp at e,λn a o e=>by simp at e⟩,⟨_,_,rfl,⟨a,_,rfl,F1 hO hS,pG ns⟩,rfl⟩,rfl,?_⟩
 rw [h];exact λv ρ' H' _ _ r=>r
end
open PySem PySem.Spec PyProof.Rows L2 PySem.W
theorem oY{α β:Type}{f g:α->Option β}:∀ {l:List α},(∀ x∈l,f x=g x)->l.filterMap f=l.filterMap g
 | [],_=>rfl
 | a :: l,h=>by rw [List.filterMap_cons,List.filterMap_cons,h a (.head _),oY λx hx=>h x (.tail _ hx)]
theorem z7{α:Type}:∀ {ps:List Str} {us:List α},ps.Nodup->us.length=ps.length->(ps.filterMap λn=>((ps.zip us).lookup n).map (n,·))=ps.zip us:=by
 intro ps
 induction ps with
 | nil=>intro us _ _;cases us <;> rfl
 | cons p ps ih =>
  intro us nd hl;cases us with
  | nil=>simp at hl
  | cons u us =>
   have hp:p ∉ ps:=(List.nodup_cons.mp nd).1;rw [List.filterMap_cons];simp only [List.zip_cons_cons,List.lookup_cons,beq_self_eq_true,Option.map_some];congr 1;refine (oY λx hx => ?_).trans (ih (List.nodup_cons.mp nd).2 (by simpa using hl))
   have:(x == p)=false:=by
    rw [beq_eq_false_iff_ne];rintro rfl;exact hp hx
   simp only [this]
theorem qe{α:Type}:∀ {ps:List Str} {us:List α},us.length=ps.length -> ∀ x∈ps,((ps.zip us).lookup x).isNone=false
 | [],_,_,x,hx=>by simp at hx
 | p :: ps,[],hl,_,_=>by simp at hl
 | p :: ps,u :: us,hl,x,hx=>by
  simp only [List.zip_cons_cons,List.lookup_cons];cases e:x == p with
  | true=>rfl
  | false =>
   rcases List.mem_cons.mp hx with rfl | h
   .simp at e
   .exact qe (by simpa using hl) x h
theorem zV{fd:FuncData}{ps:List Str}{us:List Value}(h1:fd.params.posonlyargs=[])(h2:fd.params.args.map (·.arg)=ps)(h3:fd.params.vararg=none)(h4:fd.params.kwonlyargs=[])(h5:fd.params.kwarg=none)
  (h6:fd.defaults=.none) (nd:ps.Nodup) (hl:us.length=ps.length):bindArgs fd ⟨us,[]⟩=pure (ps.zip us):=by
 unfold bindArgs;have e:(List.filter (λn=>((ps.zip us).lookup n).isNone) ps)=[]:=by
  rw [List.filter_eq_nil_iff];intro x hx;rw [qe hl x hx];decide
 have e2:=z7 nd hl;have hs:seqItems? Value.none=pure none:=rfl;have hg : ¬ us.length > ps.length:=by omega
 simp only [h1,h2,h3,h4,h5,h6,List.map_nil,List.nil_append,List.append_nil,List.forIn_nil,pure_bind,hs,Option.getD_none,List.length_nil,Nat.zero_sub,List.drop_nil,Nat.sub_zero,List.take_length,e,List.drop_length,List.zip_nil_right,List.isEmpty_nil,Bool.not_true,Bool.false_eq_true,if_false,decide_eq_false hg,Bool.false_and,e2]
theorem qw{b:Addr}{o:Obj}:∀ {l:List Obj} {n:Nat},(eX n l).lookup b=some o->n<=b/\l[b - n]? = some o/\o.data ≠ .freed
 | [],_,e=>by cases e
 | x :: l,n,e=>by
  have rest:(eX (n+1) l).lookup b=some o->n<=b/\(x :: l)[b - n]? = some o/\o.data ≠ .freed:=λe=>by
   obtain ⟨h1,h2,h3⟩:=qw e;obtain ⟨k,rfl⟩:=Nat.exists_eq_add_of_le h1;rw [Nat.add_sub_cancel_left] at h2;refine ⟨Ku (Nat.le_succ n) h1,?_,h3⟩;rw [show n+1+k - n=k+1 by omega,List.getElem?_cons_succ]
   exact h2
  unfold eX at e;split at e
  .exact rest e
  .rename_i hf
   rw [List.lookup_cons] at e;split at e
   .rename_i z
    cases e;have:=eq_of_beq z;subst this;exact ⟨Kw _,by rw [Nat.sub_self];rfl,hf⟩
   .exact rest e
theorem Dk(h:Heap):(be h).In h:=λb o e=>by
 obtain ⟨_,h2,h3⟩:=qw e;rw [Nat.sub_zero,Array.getElem?_toList] at h2;unfold Heap.get?;rw [h2];split
 .rename_i q;cases q;exact absurd rfl h3
 .rfl
theorem BL{N ps:List Str}{sc:Scope}(h:j2 N ps sc=true):FnScope N ps sc:=by
 simp only [j2,Bool.and_eq_true,Bool.not_eq_true',decide_eq_true_eq,List.all_eq_true,Bool.or_eq_true] at h;obtain ⟨⟨⟨⟨⟨⟨a,b⟩,c⟩,d⟩,e⟩,f⟩,g⟩:=h;exact ⟨a,b,c,d,e,f,g⟩
noncomputable def dR(fd:FuncData)(b:List Stmt):Stmt := .FunctionDef fd.name fd.params b [] none [] fd.scope none fd.name ⟨0,0,0,0⟩
theorem Dl{v:Value}(h:yA v=true):v=.none:=by cases v <;> first | rfl | cases h
noncomputable def vOf:U->V
 | .int i => .int i
 | .bl b => .bl b
 | .str s => .str s
 | _ => .non
theorem rT{K:Frag}{u:U}{val:Value}(h:jd u val=true):RelV (vOf u) val /\ ∀ ρ H,RV K ρ H u (vOf u):=by
 unfold jd at h;split at h
 .cases KC h;exact ⟨⟨_,rfl⟩,λ_ _=>rfl⟩
 .exact ⟨rfl,λ_ _=>rfl⟩
 .cases eq_of_beq h;exact ⟨rfl,λ_ _=>rfl⟩
 .cases KC h;exact ⟨⟨_,rfl⟩,λ_ _=>rfl⟩
 .cases h
theorem qk{K:Frag}:∀ {us:List U} {vals:List Value},iX us vals=true->Vals (us.map vOf) vals /\ ∀ ρ H,RVs K ρ H us (us.map vOf)
 | [],[],_=>⟨.nil,λ_ _=>rfl⟩
 | [],_ :: _,h=>by cases h
 | _ :: _,[],h=>by cases h
 | u :: us,v :: vs,h=>by
  rw [iX,Bool.and_eq_true] at h;obtain ⟨a,b⟩:=rT (K:=K) h.1;obtain ⟨c,d⟩:=qk (K:=K) h.2;exact ⟨.cons a c,λρ H=>⟨_,_,rfl,b ρ H,d ρ H⟩⟩
theorem Cu{K:Frag}{u:U}{val:Value}(h:tupU K u val=true):∃ v,RelV v val /\ ∀ ρ H,RV K ρ H u v:=by
 unfold tupU at h;split at h
 .split at h
  .rename_i od its n sl ho
   rw [Bool.and_eq_true,decide_eq_true_eq] at h;obtain ⟨c1,c2⟩:=qk (K:=K) h.2;exact ⟨.ref _,rfl,λρ H=>⟨_,_,rfl,⟨_,its,n,ho,rfl,rfl,Ku h.1 (by decide),c1⟩,c2 ρ H⟩⟩
  .cases h
 .cases h
theorem qt{K:Frag}{u:U}{val:Value}(e:jg K u val=true):∃ v,RelV v val /\ ∀ ρ H,RV K ρ H u v:=by
 unfold jg at e;rw [Bool.or_eq_true] at e;rcases e with e | e
 .obtain ⟨a,b⟩:=rT (K:=K) e;exact ⟨_,a,b⟩
 .exact Cu e
theorem pJ{K:Frag}:∀ {ns:List Str} {dd:List (Str×U)} {vals:List Value},dd.map (·.1)=ns->iW K (dd.map (·.2)) vals=true -> ∃ ddV,F2 (PR RelV) ddV (ns.zip vals)/\F2 (PR λu v => ∀ ρ H,RV K ρ H u v) dd ddV
 | _,[],[],h,_=>by subst h;exact ⟨[],.nil,.nil⟩
 | _,[],_ :: _,_,h=>by cases h
 | _,_ :: _,[],_,h=>by cases h
 | _,(n,u) :: dd,v :: vs,h,q=>by
  subst h;rw [List.map_cons,iW,Bool.and_eq_true] at q;obtain ⟨w,a,b⟩:=qt q.1;obtain ⟨ddV,c,d⟩:=pJ (dd:=dd) rfl q.2;exact ⟨(n,w) :: ddV,.cons ⟨rfl,a⟩ c,.cons ⟨rfl,b⟩ d⟩
theorem Jl{K:Frag}{v:Value}{dsv:List Value}(h:lC K v=some dsv)(M:Model)(hp:Heap)(X:K.In hp):∃ od:Option (Array Value),(od.getD #[]).toList=dsv/\Looks M hp (seqItems? v) od:=by
 unfold lC at h;split at h
 .cases h;exact ⟨none,rfl,.of_pure rfl⟩
 .split at h
  .rename_i its _ _ ho
   cases h;exact ⟨some its,rfl,λA Q E s k q=>wpAny_seqItems (k _ _ (X _ _ ho)) rfl q⟩
  .cases h
 .cases h
theorem Iw{K:Frag}{v:Value}{n:Str}{u:Value}(h:dn K v n=some u):∃ d,v=.ref d/\nsIn K d n=some (some u):=by
 unfold dn at h;split at h
 .split at h
  .rename_i q;cases h;exact ⟨_,rfl,q⟩
  .cases h
 .cases h
theorem pA{α β:Type}:∀ {l l':List α} {m m':List β},l.length=m.length->(l++l').zip (m++m')=l.zip m++l'.zip m'
 | [],_,[],_,_=>rfl
 | [],_,_ :: _,_,h=>by simp at h
 | _ :: _,_,[],_,h=>by simp at h
 | a :: l,l',b :: m,m',h=>by simp [pA (l:=l) (m:=m) (by simpa using h)]
theorem HG{K:Frag}{fd:FuncData}{F:KF}{nd:Nat}(h:kfB K fd F nd=true):∃ ddV dd,KFok K fd F nd ddV dd:=by
 simp only [kfB,Bool.and_eq_true,decide_eq_true_eq,List.isEmpty_iff,Option.isNone_iff_eq_none,List.all_eq_true] at h;obtain ⟨⟨⟨⟨⟨⟨⟨⟨p1,p2⟩,p3⟩,p4⟩,p5⟩,p6⟩,p7⟩,p8⟩,p9⟩:=h;split at p9
 .rename_i dsv hds
  rw [Bool.and_eq_true,decide_eq_true_eq] at p9;obtain ⟨l1,q⟩:=p9;obtain ⟨ddV,c1,c2⟩:=pJ (K:=K) p8 q;refine ⟨ddV,_,p1,p2,p3,p4,p5,⟨dsv,λn=>(dn K fd.kwdefaults n).getD .none,λM h X=>Jl hds M h X,l1,p6,λn hn => ?_,rfl⟩,?_,c2⟩
  .have:=p7 n hn
   cases e:dn K fd.kwdefaults n with
   | none=>rw [e] at this;cases this
   | some u=>exact Iw (by show _=some (Option.getD _ _);rw [e];rfl)
  .rw [pA (by rw [List.length_drop,l1];omega)] at c1
   have:F.ks.zip (F.ks.map λn=>(dn K fd.kwdefaults n).getD .none)=F.ks.map λn=>(n,(dn K fd.kwdefaults n).getD .none):=by
    generalize F.ks=l
    induction l with
    | nil=>rfl
    | cons a l ih=>simp [ih]
   rw [this] at c1;exact c1
 .cases p9
theorem Jy{K:Frag}{h:Heap}{mg:Str->Option Value}{x:Str}{u:U}(X:K.In h)(G:h.Ns mainGlobals mg)(e:csB K (x,u)=true):∃ v val,mg x=some val/\RelV v val /\ ∀ ρ H,RV K ρ H u v:=by
 unfold csB at e;split at e
 .rename_i val hv
  have hm:mg x=some val:=mg_of X G hv;obtain ⟨v,a,b⟩:=qt e;exact ⟨v,val,hm,a,b⟩
 .cases e
theorem sP{K:Frag}{C:Addr}(h:i5 K C=true):Cls K C:=by
 simp only [i5,Bool.and_eq_true,beq_iff_eq] at h;obtain ⟨⟨⟨a,b⟩,c⟩,d⟩:=h;exact ⟨a,b,c,d⟩
noncomputable def eI(T:Tab)(K:Frag)(i:Inf):Option Fn:=mkF T (i,cg K i)
theorem BJ{T:Tab}{i:Inf}{o:Option (Scope×List Stmt)}{F:Fn}(h:mkF T (i,o)=some F):∃ r,o=some r/\(ag (r.2.map (cY T r.1 i.N 60))).map (λb'=>(⟨i.ps.length,i.N.length,b'⟩:Fn))=some F:=by
 cases o with
 | none=>cases h
 | some r=>exact ⟨r,rfl,h⟩
theorem rE{K:Frag}{h:Heap}{mg:Str->Option Value}(X:K.In h)(G:h.Ns mainGlobals mg){i:Inf}{fi:FI}{a:Addr}(hx:fi.x=i.x)(hc:fi.cm=i.cm)(e:lA K i=some a):FAt K mg fi a:=by
 unfold FAt;rw [hc,hx];unfold lA at e;split at e
 .rename_i h0
  try rw [h0]
  split at e
  .rename_i h1;cases e;exact mg_of X G h1
  .cases e
 .rename_i c h0
  try rw [h0]
  split at e
  .rename_i C h1
   split at e
   .rename_i a' h2
    split at e
    .rename_i hb
     cases e;simp only [Bool.and_eq_true,Bool.or_eq_true,Bool.not_eq_true',decide_eq_false_iff_not] at hb;obtain ⟨⟨⟨b1,b2⟩,b3⟩,b4⟩:=hb;refine ⟨C,mg_of X G h1,h1,sP b1,⟨h2,b2,b3⟩,λhi => ?_⟩;rcases b4 with z | ⟨z1,z2⟩
     .exact absurd hi z
     .rw [hi] at h2;exact ⟨z1,h2,b2,z2⟩
    .cases e
   .cases e
  .cases e
noncomputable def Plain(K:Frag)(mg:Str->Option Value)(i:Inf)(fi:FI):Prop :=
 i.kf=none ->
 i.cm=none -> ∀ f fd,mg fi.x=some (.ref f)->FunD K fi.nm fi.x fi.st f fd -> ∀ us:List Value,us.length=i.ps.length->bindArgs fd ⟨us,[]⟩=pure (i.ps.zip us)
theorem C4{T:Tab}{K:Frag}{i:Inf}{F:Fn}{h:Heap}{mg:Str->Option Value}(X:K.In h)(G:h.Ns mainGlobals mg)(e:eI T K i=some F):
  ∃ fi:FI,fi.x=i.x/\fi.ps=i.ps/\fi.cm=i.cm /\
  fi.kf=i.kf /\
  FOk T K mg fi F/\Plain K mg i fi:=by
 unfold eI at e;obtain ⟨r,hr,e⟩:=BJ e;unfold cg at hr;split at hr
 .rename_i a h1
  split at hr
  .rename_i oc od fd sl h2
   split at hr
   .rename_i b hb
    split at hr
    .rename_i hc
     cases hr;simp only [Bool.and_eq_true] at hc;obtain ⟨⟨⟨⟨c1,c2⟩,c3⟩,c4⟩,c5⟩:=hc;have sc:=BL c2;simp only [xI,Bool.and_eq_true,decide_eq_true_eq,beq_iff_eq,List.isEmpty_iff] at c1;obtain ⟨⟨⟨⟨d1,d2⟩,d3⟩,d4⟩,d6⟩:=c1;obtain ⟨b',hb',rfl⟩:=Option.map_eq_some_iff.mp e;have hps:i.ps.Nodup:=by rw [<-sc.pre];exact sc.nd.sublist (List.take_sublist _ _)
     have hfd:fd=fnOf i.nm i.x (fQ (dR fd b)) (fK (dR fd b)) (cz (dR fd b)) fd.defaults fd.kwdefaults fd.doc fd.pyModule fd.annotations fd.code fd.closureTuple:=by
      obtain ⟨n,q,pa,bo,scp,gl,cl,de,kw,dc,pm,an,cd,ct,bu⟩:=fd;simp only [dR,fQ,fK,cz] at *;subst d1;subst d2;subst d3;subst d4;subst d6;subst hb
      rfl
     have hpl:i.kf=none -> ∀ us:List Value,us.length=i.ps.length->bindArgs fd ⟨us,[]⟩=pure (i.ps.zip us):=λhz us hl=>by
      unfold lP at c3;rw [hz] at c3;simp only [vX,Bool.and_eq_true,decide_eq_true_eq,List.isEmpty_iff,Option.isNone_iff_eq_none] at c3;obtain ⟨⟨⟨⟨⟨p1,p2⟩,p3⟩,p4⟩,p5⟩,p6⟩:=c3;exact zV p1 p2 p3 p4 p5 (Dl p6) hps hl
     have hnm:(⟨i.x,dR fd b,i.N,i.ps,i.cm,i.kf⟩:FI).nm=i.nm:=rfl;refine ⟨⟨i.x,dR fd b,i.N,i.ps,i.cm,i.kf⟩,rfl,rfl,rfl,rfl,⟨sc,rfl,rfl,⟨60,hb'⟩,a,fd,rE X G rfl rfl h1,⟨⟨oc,od,fd.defaults,fd.kwdefaults,fd.doc,fd.pyModule,fd.annotations,fd.code,fd.closureTuple,sl,by rw [hnm];exact hfd,h2,c4⟩,c5⟩,λhz => .all λus hl=>hpl hz us hl,λF nd hz => ?_⟩,λhz hcm f fd' hf hF us hl => ?_⟩
     .have hz:i.kf=some (F,nd):=hz
      unfold lP at c3;rw [hz] at c3;simp only [Bool.and_eq_true,decide_eq_true_eq,Bool.not_eq_true',List.isEmpty_eq_false_iff] at c3;obtain ⟨⟨g1,g2⟩,g3⟩:=c3;exact ⟨g1,by rw [<-g1];exact g2,HG g3⟩
     .have hat:FAt K mg ⟨i.x,dR fd b,i.N,i.ps,i.cm,i.kf⟩ a:=rE X G rfl rfl h1
      unfold FAt at hat;dsimp only at hat;rw [hcm] at hat;have hf:mg i.x=some (.ref f):=hf;rw [show mg i.x=some (.ref a) from hat] at hf;cases hf;obtain ⟨oc',od',dV,kV,doc,pm,an,cdv,ct,osl,_,lk,_⟩:=hF.ex;rw [h2] at lk;cases lk;exact hpl hz us hl
    .cases hr
   .cases hr
  .cases hr
 .cases hr
theorem JA{K:Frag}{f:Str}{cs:List Nat}(h:fdB K (f,cs)=true):gE K f cs:=λc hc=>by
 have:=List.all_eq_true.mp h c (List.contains_iff_mem.mp hc);dsimp only at this;split at this
 .rename_i C h1
  rw [Bool.and_eq_true,beq_iff_eq] at this;exact ⟨C,h1,sP this.1,this.2⟩
 .cases this
noncomputable def Inf.tn(i:Inf):Str:=if i.cm.isSome || i.kf.isSome then "__debug__" else i.x
noncomputable def allFrom(T:Tab)(K:Frag)(is:List Inf):Option (List Fn):=if T.bt.all (λx=>(nsIn K mainGlobals x).any Option.isNone) && T.cs.all (csB K) && T.fl.all (fdB K) && is.all (λi=>i.cm.all λc=>dU c.1) then ag (is.map (eI T K)) else none
theorem oH{T:Tab}{K:Frag}{h:Heap}{mg:Str->Option Value}(X:K.In h)(G:h.Ns mainGlobals mg):∀ {is:List Inf} {fns:List Fn},ag (is.map (eI T K))=some fns ->
  ∃ fis:List FI,fis.map FI.tn=is.map Inf.tn/\AllOk T K mg fis fns /\ ∀ (j:Nat) (i:Inf),is[j]? = some i -> ∃ fi,fis[j]? = some fi/\fi.x=i.x/\fi.ps=i.ps/\fi.cm=i.cm /\
   fi.kf=i.kf /\
   Plain K mg i fi
 | [],fns,e=>by cases e;exact ⟨[],rfl,trivial,λj i h=>by simp at h⟩
 | i :: is,fns,e=>by
  rw [List.map_cons] at e;cases q:eI T K i with
  | none=>rw [q] at e;cases e
  | some F =>
   rw [q] at e;obtain ⟨r,e',rfl⟩:=Option.map_eq_some_iff.mp e;obtain ⟨fis,a,b,c⟩:=oH X G e';obtain ⟨fi,f1,f2,f3,f4,f5,f6⟩:=C4 X G q;refine ⟨fi :: fis,by simp [a,FI.tn,Inf.tn,f1,f3,f4],⟨f5,b⟩,λj k h => ?_⟩
   cases j with
   | zero=>simp at h;subst h;exact ⟨fi,rfl,f1,f2,f3,f4,f6⟩
   | succ j=>exact c j k (by simpa using h)
theorem mem_zipIdx'{is:List Inf}{p:Inf×Nat}(h:p∈is.zipIdx):is[p.2]? = some p.1:=by
 obtain ⟨i,k⟩:=p;have:=List.mem_zipIdx h;simp only [Nat.zero_add,Nat.sub_zero] at this;exact List.getElem?_eq_some_iff.mpr ⟨by omega,this.2.2.symm⟩
noncomputable def sv(T:Tab)(is:List Inf)(fns:List Fn)(h:Heap):Prop := ∃ K:Frag,K.In h/\allFrom T K is=some fns
theorem Ak{T:Tab}{is:List Inf}{ms:List Str}{fns:List Fn}{h:Heap}{mg:Str->Option Value}{K:Frag}(hn:T.fns=is.map Inf.tn)(hk:T.kf=ju is)(hcl:T.cl=jh is)(hmt:T.mt=i3 is ms)(X:K.In h)(e:allFrom T K is=some fns)(G:h.Ns mainGlobals mg):
  ∃ fis:List FI,PgOk T K mg fis fns /\ ∀ (j:Nat) (i:Inf),is[j]? = some i -> ∃ fi,fis[j]? = some fi/\fi.x=i.x/\fi.ps=i.ps/\fi.cm=i.cm /\
   fi.kf=i.kf /\
   Plain K mg i fi:=by
 unfold allFrom at e;split at e
 .rename_i hb
  simp only [Bool.and_eq_true] at hb;obtain ⟨⟨⟨hb,hcs⟩,hfl⟩,hnm⟩:=hb;obtain ⟨fis,a,b,c⟩:=oH X G e;have nm:∀ i∈is,∀ cm,i.cm=some cm->aO (cj cm.1)=cm.1:=λi hi cm hc=>by
   have:=List.all_eq_true.mp hnm i hi;rw [hc] at this;exact (iq this).1
  refine ⟨fis,⟨hn.trans a.symm,b,λx u h=>Jy X G (List.all_eq_true.mp hcs (x,u) (mem_of_lookup h)),λx hx => ?_,λy i F nd hy => ?_,λy cc i F nd hy => ?_,λm l hl cc i F nd hmem => ?_,λf cs h=>JA (List.all_eq_true.mp hfl (f,cs) (mem_of_lookup h))⟩,c⟩
  .have:=List.all_eq_true.mp hb x hx
   cases q:nsIn K mainGlobals x with
   | none=>rw [q] at this;cases this
   | some v =>
    cases v with
    | some v=>rw [q] at this;cases this
    | none=>exact mg_none_of X G q
  .rw [hk] at hy
   obtain ⟨p,hp,hq⟩:=List.mem_filterMap.mp (mem_of_lookup hy);split at hq
   .rename_i k h1 h2
    cases hq;obtain ⟨fi,f1,f2,_,f3,f4,_⟩:=c _ _ (mem_zipIdx' hp);exact ⟨fi,f1,f2,f3.trans h1,f4.trans h2⟩
   .cases hq
  .rw [hcl] at hy
   obtain ⟨p,hp,hq⟩:=List.mem_filterMap.mp (mem_of_lookup hy);split at hq
   .rename_i cm k h1 h2
    split at hq
    .rename_i hi
     cases hq;have hz:=mem_zipIdx' hp;obtain ⟨fi,f1,f2,_,f3,f4,_⟩:=c _ _ hz;refine ⟨nm _ (List.mem_of_getElem? hz) _ h1,fi,f1,?_,f4.trans h2⟩;rw [f3,h1,<-hi]
    .cases hq
   .cases hq
  .rw [hmt] at hl
   obtain ⟨m',hm',hq⟩:=List.mem_map.mp (mem_of_lookup hl);cases hq;obtain ⟨p,hp,hq⟩:=List.mem_filterMap.mp hmem;split at hq
   .rename_i cm k h1 h2
    split at hq
    .rename_i hi
     cases hq;have hz:=mem_zipIdx' hp;obtain ⟨fi,f1,f2,_,f3,f4,_⟩:=c _ _ hz;refine ⟨fi,f1,?_,f4.trans h2⟩;rw [f3,h1,nm _ (List.mem_of_getElem? hz) _ h1,<-hi]
    .cases hq
   .cases hq
 .cases e
theorem HE{l:OpenLaw}{q:Program}{loose:List Str}{XP:(Str->Option Value)->Heap->Prop}{dr:DefRec}{T:Tab}{is:List Inf}{ms:List Str}{fns:List Fn}{d i:Nat}{N:List Str}{x:Str}
  (hn:l.most=some 63) (hdf:dr.params.defaults=[]) (hr:Room (2*d+2) callerA) (hnm:T.fns=is.map Inf.tn) (hk:T.kf=ju is) (hcl:T.cl=jh is) (hmt:T.mt=i3 is ms) (hi:is[i]? = some ⟨dr.name,N,[x],none,none⟩)
  (hrun:∀ ns:List Int,ns.length<=63 -> ∃ fu g',aa fns fu d i [.fro (ns.map U.int)] []=.ok (.bl true) g') :
  WalkO q loose XP (λ_ h=>sv T is fns h) l.row.toRowW dr [] (λf vs=>PySem.call f vs):=by
 refine Att.attach_call hn hdf λw s₀ s₁ mg mb fa o pm cd doc a vs ns G Y ho hd hcd hmg hobj hints hlen hg => ?_;obtain ⟨K,KX,hK⟩:=Y;obtain ⟨fis,PG,hf⟩:=Ak hnm hk hcl hmt KX hK G.T.g;obtain ⟨fi,e1,e2,e3,e5,e6,e4⟩:=hf i _ hi;obtain ⟨Fi,ei,O⟩:=PG.all.get e1;obtain ⟨f,fd,m1,m2,m3⟩:=O.obj;unfold FAt at m1;rw [e5] at m1;have m1':mg fi.x=some (.ref f):=m1;have m1:=m1';rw [e2,hmg] at m1;cases m1;refine AX (CX:=CX0) (k:=2*d+2) (x:=x) (fd:=fd) (sp:=spI K fns d i 1) KX G.T.g G.T.b G.T.builtins G.T.nolimit hg hobj hints (Ku hlen (by decide)) hr (λbase kb nb => ?_) (λs u => ?_) (λH hO hS => ?_) λH e s' z=>z
 .have:=uW (P:=l.prog) (w:=w) (base:=base) PG d i fi e1 fa fd m2
  rw [e3] at this;exact this
 .exact .of_eq (e4 rfl rfl fa fd m1' m2 [u] rfl)
 .obtain ⟨fu,g',e⟩:=hrun ns hlen
  exact Fz hO hS e
open PySem PySem.Spec PyProof.Rows L2 PySem.W PySem.Calls
noncomputable section
theorem CL(p:Program)(w:World)(N:Nat):openEnds treeTable p w N=endsF p w N:=by
 unfold openEnds fencedOpening topFrom endsF x6;rw [Fast.te10274390034422433532,Fast.te14364793385576792824,Fast.te1435165496053646825,Fast.te14289696077712309145,Fast.te14082659384304107361]
 rfl
noncomputable def cO(p:Program):DefRec:=match p.main.body.getD (p.main.body.length - 1) (.Pass ⟨0,0,0,0⟩) with
 | .FunctionDef n a b _ _ _ sc _ _ ps=>⟨n,a,b,sc,ps⟩
 | _=>⟨"",fQ (.Pass ⟨0,0,0,0⟩),[],cz (.Pass ⟨0,0,0,0⟩),⟨0,0,0,0⟩⟩
theorem E8{α β γ:Type}{o:Option α}{f:α->β}{g:α->γ}{a:β}{b:γ}(h:o.map (λs=>(f s,g s))=some (a,b)):o.map f=some a:=by
 cases o with
 | none=>cases h
 | some s=>cases h;rfl
theorem Fh{α β γ:Type}{o:Option α}{f:α->β}{g:α->γ}{a:β}{b:γ}(h:o.map (λs=>(f s,g s))=some (a,b)):o.map g=some b:=by
 cases o with
 | none=>cases h
 | some s=>cases h;rfl
theorem pR{α β:Type}{f:α->Option β}:∀ {l m:List α} {a b:List β},ag (l.map f)=some a->ag (m.map f)=some b->ag ((l++m).map f)=some (a++b)
 | [],m,a,b,h1,h2=>by cases h1;exact h2
 | x :: l,m,a,b,h1,h2=>by
  rw [List.map_cons] at h1;rw [List.cons_append,List.map_cons];cases hx:f x with
  | none=>rw [hx] at h1;cases h1
  | some y =>
   rw [hx] at h1;cases hl:ag (l.map f) with
   | none=>simp only [ag,hl] at h1;cases h1
   | some ys =>
    have ih:=pR hl h2;simp only [ag,hl] at h1;simp only [ag,ih];cases h1
    rfl
theorem gS{α β:Type}{f:α->Option β}{l:List α}{m:List β}{k c:Nat}(h1:ag ((l.take k).map f)=some (m.take k))(h2:ag (((l.drop k).take c).map f)=some ((m.drop k).take c)):ag ((l.take (k+c)).map f)=some (m.take (k+c)):=by
 rw [List.take_add,List.take_add];exact pR h1 h2
theorem jO{o:Option Shared}{is:List Inf}{rs:List (Option (Scope×List Stmt))}{k c:Nat}(h1:o.map (λs=>(is.take k).map (cg (be s.heap)))=some (rs.take k))(h2:o.map (λs=>((is.drop k).take c).map (cg (be s.heap)))=some ((rs.drop k).take c)):o.map (λs=>(is.take (k+c)).map (cg (be s.heap)))=some (rs.take (k+c)):=by
 cases o with
 | none=>cases h1
 | some s =>
  simp only [Option.map_some,Option.some.injEq] at h1 h2 ⊢;rw [List.take_add,List.take_add,List.map_append,h1,h2]
theorem El{β:Type}{o:Option Shared}{f:Shared->β}{b:β}{T:Tab}{is:List Inf}{rs:List (Option (Scope×List Stmt))}{fns:List Fn}{k:Nat}(ha:o.map (λs=>k6 T (be s.heap) is)=some true)(hg:o.map f=some b)
  (hr:o.map (λs=>(is.take k).map (cg (be s.heap)))=some (rs.take k)) (h:ag (((is.zip rs).take k).map (mkF T))=some (fns.take k)) (h1:is.length<=k) (h2:fns.length<=k) (h3:rs.length<=k):o.map (λs=>(f s,allFrom T (be s.heap) is))=some (b,some fns):=by
 rw [List.take_of_length_le (Ku (List.length_zip ▸ Nat.min_le_left _ _) h1),List.take_of_length_le h2] at h;rw [List.take_of_length_le h1,List.take_of_length_le h3] at hr;cases o with
 | none=>cases ha
 | some s =>
  simp only [Option.map_some,Option.some.injEq,Prod.mk.injEq] at ha hg hr ⊢;refine ⟨hg,?_⟩;unfold allFrom;unfold k6 at ha;rw [if_pos ha,<-h];congr 1;rw [<-hr];generalize is=l
  induction l with
  | nil=>rfl
  | cons i l ih=>rw [List.map_cons,List.map_cons,List.zip_cons_cons,List.map_cons,ih,eI]
theorem Hf{l:OpenLaw}{T:Tab}{is:List Inf}{ms:List Str}{fns:List Fn}{loose N0:List Str}{d i N:Nat}{x:Str}
  (said:Fast.tw9446332074065402090 l=true)
  (hl:∀ w,(endsF l.prog w N).map (λs=>(Fast.tw4187177175401517315 (lastOf l.prog) loose (importedModules l.prog.main.body) (λ_=>true) true s,allFrom T (be s.heap) is))=some (openGood (lastOf l.prog) loose,some fns))
  (h1:defOf (lastOf l.prog) l.name=some (cO l.prog,[])) (h2:l.prog.theDef l.name=some ((cO l.prog).params,(cO l.prog).body,(cO l.prog).scope)) (h3:kwWritten? (cO l.prog).params.kwonlyargs (cO l.prog).params.kw_defaults=some [])
  (h4:(cO l.prog).params.defaults=[])
  (ok:(chainsOk (lastOf l.prog) && opensWell l.prog && (frees l.row.toRowW && l.row.within.isEmpty))=true) (hb:l.prog.bare) (hw:l.row.toRowW.promised)
  (hn:l.most=some 63) (hr:Room (2*d+2) callerA) (hnm:T.fns=is.map Inf.tn) (hk:T.kf=ju is) (hcl:T.cl=jh is) (hmt:T.mt=i3 is ms) (hi:is[i]? = some ⟨(cO l.prog).name,N0,[x],none,none⟩)
  (hrun:∀ ns:List Int,ns.length<=63 -> ∃ fu g',aa fns fu d i [.fro (ns.map U.int)] []=.ok (.bl true) g'):l.Holds:=by
 have sd:l.wellSaid=true:=by rw [Fast.te9446332074065402090];exact said
 refine holds_law sd λsaid' => ?_;refine holds_open (r:=l.row) (q:=lastOf l.prog) (loose:=loose) (Xt:=λ_=>true) (XP:=λ_ _=>True) (Yf:=λs=>allFrom T (be s.heap) is) (Ya:=λ_=>some fns) (YP:=λ_ h=>sv T is fns h) (N:=N) (d:=cO l.prog) (kwd:=[]) ?_
  (λw s e=>⟨be s.heap,Dk _,e⟩) (λw h h' ⟨K,k1,k2⟩ hk=>⟨K,k1.keeps hk,k2⟩) (λ_ _=>trivial) (λ_ _ _ _ _=>trivial) h1 h2 h3 (λs _=>recFacts_nil rfl) (by simp [OpenLaw.row]) said' ok hb hw (HE hn h4 hr hnm hk hcl hmt hi hrun)
 intro w;have:=hl w;rw [<-CL,<-Fast.te4187177175401517315] at this;exact this
end
end
end PI
section
namespace Lk47
open PI
end Lk47
namespace Lk47
noncomputable section
open PySem PI L2
end
end Lk47
open PySem PySem.W PyProof.Rows
set_option maxRecDepth 100000 in
set_option maxHeartbeats 0 in
theorem Lk47.all(w:World):(PI.endsF PySem.Challenge.rw_braemantle_k47_slides.prog w 20000).map (λs=>(Fast.tw4187177175401517315 (PI.lastOf PySem.Challenge.rw_braemantle_k47_slides.prog) Lk47.loose (PySem.importedModules PySem.Challenge.rw_braemantle_k47_slides.prog.main.body) (λ_=>true) true s,PI.allFrom Lk47.T (PI.be s.heap) Lk47.bp))=some (openGood (PI.lastOf PySem.Challenge.rw_braemantle_k47_slides.prog) Lk47.loose,some Lk47.fns):=PI.El (k:=50) (PI.Fh (Lk47.chk0 w)) (PI.E8 (Lk47.chk0 w)) (PI.jO (k:=38) (c:=12) (PI.jO (k:=26) (c:=12) (PI.jO (k:=13) (c:=13) (Lk47.chk1 w) (Lk47.chk2 w)) (Lk47.chk3 w)) (Lk47.chk4 w)) (PI.gS (k:=48) (c:=2) (PI.gS (k:=40) (c:=8) (PI.gS (k:=32) (c:=8) (PI.gS (k:=16) (c:=16) (Lk47.part0) Lk47.part1) Lk47.part2) Lk47.part3) Lk47.part4) (by decide) (by decide) (by decide)
end
namespace PI
noncomputable section
section
variable{α:Type}{P:List α->Prop}
end
noncomputable def Out.le{α:Type}(o o':Out α):Prop:=o=.bad\/o=o'
theorem Out.le.rfl{α:Type}{o:Out α}:o.le o := .inr (Eq.refl _)
theorem Out.le.bot{α:Type}{o:Out α}:(Out.bad:Out α).le o := .inl (Eq.refl _)
theorem Out.le.trans{α:Type}{a b c:Out α}(h:a.le b)(k:b.le c):a.le c:=by
 rcases h with rfl | rfl
 .exact .bot
 .exact k
theorem aM{α β:Type}{o o':Out α}{k k':α->G->Out β}(h:o.le o')(hk:∀ a g,(k a g).le (k' a g)):(o.bind k).le (o'.bind k'):=by
 rcases h with rfl | rfl
 .exact .bot
 .cases o with
  | ok a g=>exact hk a g
  | exc c fs g=>exact .rfl
  | bad=>exact .bot
theorem cQ{α β:Type}{o o':Out α}{k k':α->G->Out β}(h:o.le o')(hk:∀ a g,(k a g).le (k' a g)):(o.bindB k).le (o'.bindB k'):=by
 rcases h with rfl | rfl
 .exact .bot
 .cases o with
  | ok a g=>exact hk a g
  | exc c fs g=>exact .rfl
  | bad=>exact .bot
theorem dB{α:Type}{o o':Out α}(h:o.le o'):o.noex.le o'.noex:=by
 rcases h with rfl | rfl
 .exact .bot
 .exact .rfl
theorem B1{o o':Out U}{j c:Nat}{xs:List (Option U)}{σ:Su}(h:o.le o'):(lG o j c xs σ).le (lG o' j c xs σ):=by
 rcases h with rfl | rfl
 .exact .bot
 .exact .rfl
noncomputable abbrev CC:=Nat->List U->G->Out U
structure L.le(r r':L):Prop where
 ev:∀ e σ g,(r.ev e σ g).le (r'.ev e σ g)
 ts:∀ e σ g,(r.ts e σ g).le (r'.ts e σ g)
 ex:∀ e σ g,(r.ex e σ g).le (r'.ex e σ g)
 wh:∀ e b σ g,(r.wh e b σ g).le (r'.wh e b σ g)
 fr:∀ t it i b σ g,(r.fr t it i b σ g).le (r'.fr t it i b σ g)
 cm:∀ it i t cs rest elt acc σ g,(r.cm it i t cs rest elt acc σ g).le (r'.cm it i t cs rest elt acc σ g)
section
variable{C C':CC}{r r':L}
theorem bH{f f':E->Su->G->Out U}(h:∀ e σ g,(f e σ g).le (f' e σ g)):∀ es σ g,(evs f es σ g).le (evs f' es σ g)
 | [],_,_ => .rfl
 | e :: es,σ,g=>aM (h e σ g) λ_ _=>aM (bH h es _ _) λ_ _ => .rfl
theorem se{f f':E->Su->G->Out U}(h:∀ e σ g,(f e σ g).le (f' e σ g)):∀ e σ g,(evo f e σ g).le (evo f' e σ g)
 | none,_,_ => .rfl
 | some e,σ,g=>aM (h e σ g) λ_ _ => .rfl
theorem ir{f f':E->Su->G->Out Bool}(h:∀ e σ g,(f e σ g).le (f' e σ g)):∀ es σ g,(aT f es σ g).le (aT f' es σ g)
 | [],_,_ => .rfl
 | e :: es,σ,g=>aM (h e σ g) λk _=>by
  cases k
  .exact .rfl
  .exact ir h es _ _
local macro_rules | `(tactic| sleep 8) => `(tactic| (repeat (first | exact Out.le.rfl | exact Out.le.bot | assumption | apply L.le.ev | apply L.le.ts | apply L.le.ex | apply L.le.wh | apply L.le.fr | apply L.le.cm | apply bH | apply se | apply ir | apply aM | apply cQ | intro _ | split)))
theorem eM(h:r.le r')(e:E)(σ:Su)(g:G):(itF r e σ g).le (itF r' e σ g):=by
 unfold itF;split <;> sleep 8
theorem kq(hC:∀ f us g,(C f us g).le (C' f us g))(h:r.le r')(e:E)(σ:Su)(g:G):(evF C r e σ g).le (evF C' r' e σ g):=by
 cases e with
 | call f es=>exact aM (bH h.ev _ _ _) λus g=>hC f us g
 | callx f es=>exact aM (dB (bH h.ev _ _ _)) λus g=>hC f us g
 | callk f es ks pm =>
  refine aM (dB (bH h.ev _ _ _)) λus g=>aM (dB (bH h.ev _ _ _)) λws g => ?_;split
  .exact hC _ _ _
  .exact .rfl
 | make c f es ks pm =>
  refine aM (bH h.ev _ _ _) λus g=>aM (bH h.ev _ _ _) λws g => ?_;split
  .exact aM (hC _ _ _) λu g => .rfl
  .exact .rfl
 | meth a j tb es ks =>
  refine aM (h.ev _ _ _) λx g => ?_;split
  .refine aM (bH h.ev _ _ _) λus g=>aM (bH h.ev _ _ _) λws g => ?_
   split
   .exact hC _ _ _
   .exact .rfl
  .exact .rfl
 | comp own fr gs elt =>
  cases gs with
  | nil=>exact .rfl
  | cons t rest =>
   obtain ⟨t,it,cs⟩:=t;exact aM (eM h _ _ _) λi g=>cQ (h.cm _ _ _ _ _ _ _ _ _) λ_ _ => .rfl
 | dcmp own fr gs k v =>
  cases gs with
  | nil=>exact .rfl
  | cons t rest =>
   obtain ⟨t,it,cs⟩:=t;exact aM (eM h _ _ _) λi g=>cQ (h.cm _ _ _ _ _ _ _ _ _) λ_ _ => .rfl
 | dgt o k x =>
  refine aM (h.ev _ _ _) λx g => ?_;split
  .exact aM (h.ev _ _ _) λ_ g=>aM (h.ev _ _ _) λ_ g => .rfl
  .exact .rfl
 | _=>simp only [evF];sleep 8
theorem ko(h:r.le r')(e:E)(σ:Su)(g:G):(tsF r e σ g).le (tsF r' e σ g):=by
 unfold tsF;split <;> sleep 8
theorem sm(h:r.le r')(s:S)(σ:Su)(g:G):(s1F r s σ g).le (s1F r' s σ g):=by
 cases s with
 | «for» t it b=>exact aM (eM h _ _ _) λi g=>h.fr _ _ _ _ _ _
 | nox b=>exact dB (h.ex _ _ _)
 | ifx c a b=>exact aM (dB (h.ts _ _ _)) λk g=>by cases k <;> exact h.ex _ _ _
 | forx t it b=>exact aM (dB (eM h _ _ _)) λi g=>h.fr _ _ _ _ _ _
 | raise c es=>exact aM (dB (bH h.ev _ _ _)) λus g => .rfl
 | tryf j f es c xs=>exact B1 (h.ev _ _ _)
 | _=>simp only [s1F];sleep 8
theorem kr(h:r.le r')(ss:List S)(σ:Su)(g:G):(exF r ss σ g).le (exF r' ss σ g):=by
 cases ss with
 | nil=>exact .rfl
 | cons s rest=>exact aM (sm h _ _ _) λf g=>by cases f <;> sleep 8
theorem kh(h:r.le r')(c:E)(b:List S)(σ:Su)(g:G):(whF r c b σ g).le (whF r' c b σ g):=by
 unfold whF;sleep 8
theorem ke(h:r.le r')(t:Tg)(it:Iter)(i:Nat)(b:List S)(σ:Su)(g:G):(frF r t it i b σ g).le (frF r' t it i b σ g):=by
 unfold frF;sleep 8
theorem j9(h:r.le r')(it:Iter)(i:Nat)(t:Tg)(cs:List E)(rest:List (Tg×E×List E))(elt:E)(acc:List U)(σ:Su)(g:G):(cmF r it i t cs rest elt acc σ g).le (cmF r' it i t cs rest elt acc σ g):=by
 unfold cmF;split
 .sleep 8
 .sleep 8
 .split
  .split
   .sleep 8
   .refine cQ (ir h.ts _ _ _) λk g => ?_
    split
    .cases rest with
     | nil=>exact cQ (h.ev _ _ _) λv g=>by sleep 8
     | cons t rest =>
      obtain ⟨t2,it2,cs2⟩:=t;exact cQ (eM h _ _ _) λj g=>cQ (h.cm _ _ _ _ _ _ _ _ _) λ_ _=>h.cm _ _ _ _ _ _ _ _ _
    .sleep 8
  .sleep 8
theorem bf(hC:∀ f us g,(C f us g).le (C' f us g)):∀ {m n:Nat},m<=n->(lev C m).le (lev C' n)
 | 0,n,_=>⟨λ_ _ _ => .bot,λ_ _ _ => .bot,λ_ _ _ => .bot,λ_ _ _ _ => .bot,λ_ _ _ _ _ _ => .bot,λ_ _ _ _ _ _ _ _ _ => .bot⟩
 | m+1,0,h=>absurd h (by omega)
 | m+1,n+1,h=>by
  have ih:=bf hC (m:=m) (n:=n) (by omega)
  exact ⟨kq hC ih,ko ih,kr ih,kh ih,ke ih,j9 ih⟩
theorem CY(hC:∀ f us g,(C f us g).le (C' f us g)){m n:Nat}(h:m<=n)(F:Fn)(us:List U)(g:G):(dk m C F us g).le (dk n C' F us g):=by
 unfold dk;split
 .exact aM ((bf hC h).ex _ _ _) λf g => .rfl
 .exact .rfl
theorem jL{fns:List Fn}{m n:Nat}(h:m<=n):∀ (d f:Nat) (us:List U) (g:G),(aa fns m d f us g).le (aa fns n d f us g)
 | 0,_,_,_ => .rfl
 | d+1,f,us,g=>by
  simp only [aa];split
  .exact CY (jL h d) h _ _ _
  .exact .rfl
end
noncomputable abbrev XP:=Nat->List U->G->Prop
noncomputable def holds{α:Type}(o:Out α)(X:XP)(Q:α->G->Prop):Prop:=match o with
 | .ok a g=>Q a g
 | .exc c fs g=>X c fs g
 | .bad=>False
noncomputable def wp{α:Type}(f:Nat->Out α)(X:XP)(Q:α->G->Prop):Prop := ∃ n,holds (f n) X Q
noncomputable def aJ{α:Type}(f:Nat->Out α):Prop := ∀ m n,m<=n->(f m).le (f n)
section
variable{α β:Type}{f f':Nat->Out α}{k k':Nat->α->G->Out β}{X:XP}{Q:α->G->Prop}{R:β->G->Prop}
theorem hV{o o':Out α}(h:o.le o')(q:holds o X Q):holds o' X Q:=by
 rcases h with rfl | rfl
 .exact q.elim
 .exact q
theorem jy{o:Out α}{k:α->G->Out β}:holds (o.bind k) X R ↔ holds o X λa g=>holds (k a g) X R:=by cases o <;> exact Iff.rfl
theorem mv{o:Out α}{k:α->G->Out β}:holds (o.bindB k) X R ↔ holds o (λ_ _ _=>False) λa g=>holds (k a g) X R:=by cases o <;> exact Iff.rfl
theorem jB{o:Out α}{Q':α->G->Prop}(h:∀ a g,Q a g->Q' a g)(q:holds o X Q):holds o X Q':=by
 cases o with
 | ok a g=>exact h a g q
 | exc c fs g=>exact q
 | bad=>exact q
theorem wp_mono{Q':α->G->Prop}(q:wp f X Q)(h:∀ a g,Q a g->Q' a g):wp f X Q':=let ⟨n,z⟩:=q;⟨n,jB h z⟩
theorem ae{o:Out α}:wp (λ_=>o) X Q ↔ holds o X Q:=⟨λ⟨_,h⟩=>h,λh=>⟨0,h⟩⟩
theorem wp_bind(hf:aJ f)(hk:∀ a g,aJ λn=>k n a g):wp (λn=>(f n).bind (k n)) X R ↔ wp f X λa g=>wp (λn=>k n a g) X R:=by
 constructor
 .rintro ⟨n,h⟩
  rw [jy] at h;exact ⟨n,jB (λa g q=>⟨n,q⟩) h⟩
 .rintro ⟨n,h⟩
  cases e:f n with
  | ok a g =>
   rw [e] at h;obtain ⟨m,h⟩:=h;refine ⟨max n m,?_⟩;rw [jy];have h1:f (max n m)=.ok a g:=by
    rcases hf n (max n m) (Nat.le_max_left _ _) with z | z
    .rw [e] at z;cases z
    .rw [<-z,e]
   rw [h1];show holds (k (max n m) a g) X R;exact hV (hk a g m (max n m) (Nat.le_max_right _ _)) h
  | exc c fs g=>rw [e] at h;exact ⟨n,by rw [jy,e];exact h⟩
  | bad=>rw [e] at h;exact h.elim
theorem cB(hf:aJ f)(hk:∀ a g,aJ λn=>k n a g):wp (λn=>(f n).bindB (k n)) X R ↔ wp f (λ_ _ _=>False) λa g=>wp (λn=>k n a g) X R:=by
 constructor
 .rintro ⟨n,h⟩
  rw [mv] at h;exact ⟨n,jB (λa g q=>⟨n,q⟩) h⟩
 .rintro ⟨n,h⟩
  cases e:f n with
  | ok a g =>
   rw [e] at h;obtain ⟨m,h⟩:=h;refine ⟨max n m,?_⟩;rw [mv];have h1:f (max n m)=.ok a g:=by
    rcases hf n (max n m) (Nat.le_max_left _ _) with z | z
    .rw [e] at z;cases z
    .rw [<-z,e]
   rw [h1];show holds (k (max n m) a g) X R;exact hV (hk a g m (max n m) (Nat.le_max_right _ _)) h
  | exc c fs g=>rw [e] at h;exact h.elim
  | bad=>rw [e] at h;exact h.elim
theorem eJ(h:∀ n,∃ m,(f n).le (f' m))(h':∀ n,∃ m,(f' n).le (f m)):wp f X Q ↔ wp f' X Q :=
 ⟨λ⟨n,q⟩=>let ⟨m,z⟩:=h n;⟨m,hV z q⟩,λ⟨n,q⟩=>let ⟨m,z⟩:=h' n;⟨m,hV z q⟩⟩
end
section
variable(fns:List Fn)(d:Nat)
noncomputable abbrev cA(n:Nat):CC:=aa fns n d
noncomputable abbrev lv(n:Nat):L:=lev (aa fns n d) n
noncomputable def wpC(f:Nat)(us:List U)(g:G)(X:XP)(Q:U->G->Prop):Prop:=wp (λn=>aa fns n d f us g) X Q
noncomputable def wpE(e:E)(σ:Su)(g:G)(X:XP)(Q:U->G->Prop):Prop:=wp (λn=>(lv fns d n).ev e σ g) X Q
noncomputable def wpT(e:E)(σ:Su)(g:G)(X:XP)(Q:Bool->G->Prop):Prop:=wp (λn=>(lv fns d n).ts e σ g) X Q
noncomputable def au(es:List E)(σ:Su)(g:G)(X:XP)(Q:List U->G->Prop):Prop:=wp (λn=>evs (lv fns d n).ev es σ g) X Q
noncomputable def wpO(e:Option E)(σ:Su)(g:G)(X:XP)(Q:Option Int->G->Prop):Prop:=wp (λn=>evo (lv fns d n).ev e σ g) X Q
noncomputable def wpA(es:List E)(σ:Su)(g:G)(X:XP)(Q:Bool->G->Prop):Prop:=wp (λn=>aT (lv fns d n).ts es σ g) X Q
noncomputable def wpI(e:E)(σ:Su)(g:G)(X:XP)(Q:Iter->G->Prop):Prop:=wp (λn=>itF (lv fns d n) e σ g) X Q
noncomputable def wp1(s:S)(σ:Su)(g:G)(X:XP)(Q:Fl->G->Prop):Prop:=wp (λn=>s1F (lv fns d n) s σ g) X Q
noncomputable def wpS(ss:List S)(σ:Su)(g:G)(X:XP)(Q:Fl->G->Prop):Prop:=wp (λn=>(lv fns d n).ex ss σ g) X Q
noncomputable def wpW(c:E)(b:List S)(σ:Su)(g:G)(X:XP)(Q:Fl->G->Prop):Prop:=wp (λn=>(lv fns d n).wh c b σ g) X Q
noncomputable def wpF(t:Tg)(it:Iter)(i:Nat)(b:List S)(σ:Su)(g:G)(X:XP)(Q:Fl->G->Prop):Prop:=wp (λn=>(lv fns d n).fr t it i b σ g) X Q
noncomputable def wpM(it:Iter)(i:Nat)(t:Tg)(cs:List E)(rest:List (Tg×E×List E))(elt:E)(acc:List U)(σ:Su)(g:G)(X:XP)(Q:List U->G->Prop):Prop:=wp (λn=>(lv fns d n).cm it i t cs rest elt acc σ g) X Q
end
section
variable{fns:List Fn}{d:Nat}{X:XP}{σ:Su}{g:G}
theorem c7{m n:Nat}(h:m<=n)(f:Nat)(us:List U)(g:G):(cA fns d m f us g).le (cA fns d n f us g):=jL h d f us g
theorem bP{m n:Nat}(h:m<=n):(lv fns d m).le (lv fns d n):=bf (c7 h) h
theorem mC(f:Nat)(us:List U)(g:G):aJ λn=>aa fns n d f us g:=λ_ _ h=>jL h d f us g
theorem mE(e:E)(σ:Su)(g:G):aJ λn=>(lv fns d n).ev e σ g:=λ_ _ h=>(bP h).ev _ _ _
theorem mT(e:E)(σ:Su)(g:G):aJ λn=>(lv fns d n).ts e σ g:=λ_ _ h=>(bP h).ts _ _ _
theorem mEs(e:List E)(σ:Su)(g:G):aJ λn=>evs (lv fns d n).ev e σ g:=λ_ _ h=>bH (bP h).ev _ _ _
theorem mO(e:Option E)(σ:Su)(g:G):aJ λn=>evo (lv fns d n).ev e σ g:=λ_ _ h=>se (bP h).ev _ _ _
theorem mA(e:List E)(σ:Su)(g:G):aJ λn=>aT (lv fns d n).ts e σ g:=λ_ _ h=>ir (bP h).ts _ _ _
theorem mI(e:E)(σ:Su)(g:G):aJ λn=>itF (lv fns d n) e σ g:=λ_ _ h=>eM (bP h) _ _ _
theorem m1(e:S)(σ:Su)(g:G):aJ λn=>s1F (lv fns d n) e σ g:=λ_ _ h=>sm (bP h) _ _ _
theorem mS(e:List S)(σ:Su)(g:G):aJ λn=>(lv fns d n).ex e σ g:=λ_ _ h=>(bP h).ex _ _ _
theorem mW(e:E)(b:List S)(σ:Su)(g:G):aJ λn=>(lv fns d n).wh e b σ g:=λ_ _ h=>(bP h).wh _ _ _ _
theorem mF(t:Tg)(it:Iter)(i:Nat)(b:List S)(σ:Su)(g:G):aJ λn=>(lv fns d n).fr t it i b σ g:=λ_ _ h=>(bP h).fr _ _ _ _ _ _
theorem mM(it:Iter)(i:Nat)(t:Tg)(cs:List E)(rest:List (Tg×E×List E))(elt:E)(acc:List U)(σ:Su)(g:G):aJ λn=>(lv fns d n).cm it i t cs rest elt acc σ g:=λ_ _ h=>(bP h).cm _ _ _ _ _ _ _ _ _
theorem mK{α:Type}(o:Out α):aJ λ_=>o:=λ_ _ _ => .rfl
theorem mB{α β:Type}{f:Nat->Out α}{k:Nat->α->G->Out β}(h:aJ f)(hk:∀ a g,aJ λn=>k n a g):aJ λn=>(f n).bind (k n):=λm n z=>aM (h m n z) λa g=>hk a g m n z
theorem mBB{α β:Type}{f:Nat->Out α}{k:Nat->α->G->Out β}(h:aJ f)(hk:∀ a g,aJ λn=>k n a g):aJ λn=>(f n).bindB (k n):=λm n z=>cQ (h m n z) λa g=>hk a g m n z
theorem aD{e:E}{Q:U->G->Prop}:wpE fns d e σ g X Q ↔ wp (λn=>evF (cA fns d n) (lv fns d n) e σ g) X Q :=
 eJ (λn=>match n with
  | 0=>⟨0,.bot⟩
  | n+1=>⟨n+1,kq (C:=cA fns d (n+1)) (λ_ _ _ => .rfl) (bf (λ_ _ _ => .rfl) (Nat.le_succ n)) e σ g⟩) λn=>⟨n+1,kq (C:=cA fns d n) (C':=cA fns d (n+1)) (c7 (Nat.le_succ n)) (bf (c7 (Nat.le_succ n)) (Kw n)) e σ g⟩
theorem fT{e:E}{Q:Bool->G->Prop}:wpT fns d e σ g X Q ↔ wp (λn=>tsF (lv fns d n) e σ g) X Q :=
 eJ (λn=>match n with
  | 0=>⟨0,.bot⟩
  | n+1=>⟨n+1,ko (bf (λ_ _ _ => .rfl) (Nat.le_succ n)) e σ g⟩) λn=>⟨n+1,ko (bf (c7 (Nat.le_succ n)) (Kw n)) e σ g⟩
theorem tm{e:List S}{Q:Fl->G->Prop}:wpS fns d e σ g X Q ↔ wp (λn=>exF (lv fns d n) e σ g) X Q :=
 eJ (λn=>match n with
  | 0=>⟨0,.bot⟩
  | n+1=>⟨n+1,kr (bf (λ_ _ _ => .rfl) (Nat.le_succ n)) e σ g⟩) λn=>⟨n+1,kr (bf (c7 (Nat.le_succ n)) (Kw n)) e σ g⟩
theorem EG{c:E}{b:List S}{Q:Fl->G->Prop}:wpW fns d c b σ g X Q ↔ wp (λn=>whF (lv fns d n) c b σ g) X Q :=
 eJ (λn=>match n with
  | 0=>⟨0,.bot⟩
  | n+1=>⟨n+1,kh (bf (λ_ _ _ => .rfl) (Nat.le_succ n)) c b σ g⟩) λn=>⟨n+1,kh (bf (c7 (Nat.le_succ n)) (Kw n)) c b σ g⟩
theorem Fw{t:Tg}{it:Iter}{i:Nat}{b:List S}{Q:Fl->G->Prop}:wpF fns d t it i b σ g X Q ↔ wp (λn=>frF (lv fns d n) t it i b σ g) X Q :=
 eJ (λn=>match n with
  | 0=>⟨0,.bot⟩
  | n+1=>⟨n+1,ke (bf (λ_ _ _ => .rfl) (Nat.le_succ n)) t it i b σ g⟩) λn=>⟨n+1,ke (bf (c7 (Nat.le_succ n)) (Kw n)) t it i b σ g⟩
theorem GW{it:Iter}{i:Nat}{t:Tg}{cs:List E}{rest:List (Tg×E×List E)}{elt:E}{acc:List U}{Q:List U->G->Prop}:wpM fns d it i t cs rest elt acc σ g X Q ↔ wp (λn=>cmF (lv fns d n) it i t cs rest elt acc σ g) X Q :=
 eJ (λn=>match n with
  | 0=>⟨0,.bot⟩
  | n+1=>⟨n+1,j9 (bf (λ_ _ _ => .rfl) (Nat.le_succ n)) it i t cs rest elt acc σ g⟩) λn=>⟨n+1,j9 (bf (c7 (Nat.le_succ n)) (Kw n)) it i t cs rest elt acc σ g⟩
end
local macro_rules | `(tactic| sleep 9) => `(tactic| (intros; repeat (first | exact mE _ _ _ | exact mT _ _ _ | exact mEs _ _ _ | exact mO _ _ _ | exact mA _ _ _ | exact mI _ _ _ | exact mS _ _ _ | exact mC _ _ _ | exact mW _ _ _ _ | exact mF _ _ _ _ _ _ | exact mM _ _ _ _ _ _ _ _ _ | exact mK _ | apply mB | apply mBB | intro _)))
theorem wp_congr{α:Type}{f:Nat->Out α}{X:XP}{Q Q':α->G->Prop}(h:∀ a g,Q a g ↔ Q' a g):wp f X Q ↔ wp f X Q':=⟨λq=>wp_mono q λa g=>(h a g).1,λq=>wp_mono q λa g=>(h a g).2⟩
section
variable{fns:List Fn}{d:Nat}{X:XP}{σ:Su}{g:G}
theorem dY{α:Type}{o:Option α}{Q:α->G->Prop}:holds (lift o g) X Q ↔ ∃ a,o=some a/\Q a g:=by
 cases o with
 | none=>exact ⟨λh=>h.elim,λ⟨_,e,_⟩=>by cases e⟩
 | some a=>exact ⟨λh=>⟨a,rfl,h⟩,λ⟨b,e,h⟩=>by cases e;exact h⟩
theorem jC{o:Option Bool}{Q:U->G->Prop}:holds (match o with | some c=>Out.ok (U.bl c) g | none => .bad) X Q ↔ ∃ c,o=some c/\Q (.bl c) g:=by
 cases o with
 | none=>exact ⟨λh=>h.elim,λ⟨_,e,_⟩=>by cases e⟩
 | some a=>exact ⟨λh=>⟨a,rfl,h⟩,λ⟨b,e,h⟩=>by cases e;exact h⟩
section
variable{Q:U->G->Prop}
theorem Io{i:Nat}:wpE fns d (.var i) σ g X Q ↔ ∃ u,σ[i]? = some (some u)/\Q u g:=by
 rw [aD];simp only [evF,ae];cases e:σ[i]? with
 | none=>exact ⟨λh=>h.elim,λ⟨_,e,_⟩=>by cases e⟩
 | some o=>cases o with
  | none=>exact ⟨λh=>h.elim,λ⟨_,e,_⟩=>by cases e⟩
  | some a=>exact ⟨λh=>⟨a,rfl,h⟩,λ⟨b,e,h⟩=>by cases e;exact h⟩
theorem w8{u:U}:wpE fns d (.cst u) σ g X Q ↔ Q u g:=by rw [aD];simp only [evF,ae];rfl
theorem HV{op:Op}{a b:E}:wpE fns d (.bin op a b) σ g X Q ↔ wpE fns d a σ g X λx g=>wpE fns d b σ g X λy g=>holds (bQ op x y g) X Q:=by
 rw [aD];simp only [evF];refine (wp_bind (by sleep 9) (by sleep 9)).trans (wp_congr λ_ _ => ?_);refine (wp_bind (by sleep 9) (by sleep 9)).trans (wp_congr λ_ _ => ?_);exact ae
theorem Iz{a:E}{j:Nat}{cs:List Nat}:wpE fns d (.fld a j cs) σ g X Q ↔ wpE fns d a σ g X λx g => ∃ z,(a8 x g).bind (c8 j cs)=some z/\Q z g:=by
 rw [aD];simp only [evF];refine (wp_bind (by sleep 9) (by sleep 9)).trans (wp_congr λ_ _ => ?_);exact ae.trans dY
theorem Ha{a:E}:wpE fns d (.revm a) σ g X Q ↔ wpE fns d a σ g X λx g => ∃ n,asL x g=some n/\holds (cJ n g) X Q:=by
 rw [aD];simp only [evF];refine (wp_bind (by sleep 9) (by sleep 9)).trans (wp_congr λx g=>ae.trans ?_)
 cases asL x g with
 | none=>exact ⟨λh=>h.elim,λ⟨_,e,_⟩=>by cases e⟩
 | some a=>exact ⟨λh=>⟨a,rfl,h⟩,λ⟨b,e,h⟩=>by cases e;exact h⟩
theorem EM{c f:Nat}{es ks:List E}{pm:List (Nat ⊕ U)}:wpE fns d (.make c f es ks pm) σ g X Q ↔ au fns d es σ g X λus g=>au fns d ks σ g X λws g=>us.length=es.length/\ws.length=ks.length/\wpC fns d f (perm (.ref g.length :: us++ws) pm) (g++[.ins c []]) X λu g'=>aU u=true/\Q (.ref g.length) g':=by
 rw [aD];simp only [evF];have hm:∀ (us ws:List U) (g:G),aJ λn=>if us.length=es.length/\ws.length=ks.length then (aa fns n d f (perm (.ref g.length :: us++ws) pm) (g++[.ins c []])).bind λu g'=>if aU u then Out.ok (U.ref g.length) g' else .bad else .bad:=λus ws g=>by
  split
  .exact mB (mC _ _ _) λ_ _=>mK _
  .exact mK _
 refine (wp_bind (mEs _ _ _) λus g=>mB (mEs _ _ _) λws g=>hm us ws g).trans (wp_congr λus g => ?_);refine (wp_bind (mEs _ _ _) λws g=>hm us ws g).trans (wp_congr λws g => ?_);split
 .rename_i h
  refine Iff.trans ((wp_bind (k:=λ_ u g'=>if aU u=true then Out.ok (U.ref (List.length g)) g' else Out.bad) (mC _ _ _) λ_ _=>mK _).trans (wp_congr λu g'=>ae.trans ?_)) ⟨λq=>⟨h.1,h.2,q⟩,λq=>q.2.2⟩
  split
  .rename_i hu;exact ⟨λq=>⟨hu,q⟩,λq=>q.2⟩
  .rename_i hu;exact ⟨λq=>q.elim,λq=>(hu q.1).elim⟩
 .rename_i h;exact ⟨λ⟨_,q⟩=>q.elim,λq=>(h ⟨q.1,q.2.1⟩).elim⟩
theorem Gh{a:E}{j:Nat}{tb:List (Nat×Nat×List (Nat ⊕ U))}{es ks:List E}:wpE fns d (.meth a j tb es ks) σ g X Q ↔ wpE fns d a σ g X λx g => ∃ p,(a8 x g).bind (cH j tb)=some p/\au fns d es σ g X λus g=>au fns d ks σ g X λws g=>us.length=es.length/\ws.length=ks.length/\wpC fns d p.1 (perm (x :: us++ws) p.2) g X Q:=by
 rw [aD];simp only [evF];have hm:∀ (x:U) (p:Nat×List (Nat ⊕ U)) (us ws:List U) (g:G),aJ λn=>if us.length=es.length/\ws.length=ks.length then aa fns n d p.1 (perm (x :: us++ws) p.2) g else .bad:=λx p us ws g=>by
  split
  .exact mC _ _ _
  .exact mK _
 have hm2:∀ (x:U) (g:G) (o:Option (Nat×List (Nat ⊕ U))),aJ λn=>match o with
   | some p=>(evs (lv fns d n).ev es σ g).bind λus g=>(evs (lv fns d n).ev ks σ g).bind λws g=>if us.length=es.length/\ws.length=ks.length then aa fns n d p.1 (perm (x :: us++ws) p.2) g else .bad
   | none => .bad:=λx g o=>by
  cases o with
  | none=>exact mK _
  | some p=>exact mB (mEs _ _ _) λus g=>mB (mEs _ _ _) λws g=>hm x p us ws g
 refine (wp_bind (mE _ _ _) λx g=>hm2 x g _).trans (wp_congr λx g => ?_);cases (a8 x g).bind (cH j tb) with
 | none=>exact ⟨λ⟨_,q⟩=>q.elim,λ⟨_,e,_⟩=>by cases e⟩
 | some p =>
  refine Iff.trans (?_:_ ↔ au fns d es σ g X λus g=>au fns d ks σ g X λws g=>us.length=es.length/\ws.length=ks.length/\wpC fns d p.1 (perm (x :: us++ws) p.2) g X Q) ⟨λq=>⟨p,rfl,q⟩,λ⟨p',e,q⟩=>by cases e;exact q⟩
  refine (wp_bind (mEs _ _ _) λus g=>mB (mEs _ _ _) λws g=>hm x p us ws g).trans (wp_congr λus g => ?_);refine (wp_bind (mEs _ _ _) λws g=>hm x p us ws g).trans (wp_congr λws g => ?_);split
  .rename_i h;exact ⟨λq=>⟨h.1,h.2,q⟩,λq=>q.2.2⟩
  .rename_i h;exact ⟨λ⟨_,q⟩=>q.elim,λq=>(h ⟨q.1,q.2.1⟩).elim⟩
theorem HL{op:Cp}{a b:E}:wpE fns d (.cmp op a b) σ g X Q ↔ wpE fns d a σ g X λx g=>wpE fns d b σ g X λy g => ∃ z,cmp2 op x y g=some z/\Q (.bl z) g:=by
 rw [aD];simp only [evF];refine (wp_bind (by sleep 9) (by sleep 9)).trans (wp_congr λ_ _ => ?_);refine (wp_bind (by sleep 9) (by sleep 9)).trans (wp_congr λ_ _ => ?_);exact ae.trans jC
theorem Dm{op op':Cp}{a b c:E}:wpE fns d (.chain op op' a b c) σ g X Q ↔ wpE fns d a σ g X λx g=>wpE fns d b σ g X λy g => ∃ z,cmp2 op x y g=some z/\if z then wpE fns d c σ g X λw g => ∃ z,cmp2 op' y w g=some z/\Q (.bl z) g else Q (.bl false) g:=by
 rw [aD];simp only [evF];refine (wp_bind (by sleep 9) (by intro x g;refine mB (mE _ _ _) λy g => ?_;generalize cmp2 op x y g=o;cases o with | none=>exact mK _ | some z=>cases z;exact mK _;exact mB (mE _ _ _) λ_ _=>mK _)).trans (wp_congr λx g => ?_)
 refine (wp_bind (by sleep 9) (by intro y g;generalize cmp2 op x y g=o;cases o with | none=>exact mK _ | some z=>cases z;exact mK _;exact mB (mE _ _ _) λ_ _=>mK _)).trans (wp_congr λy g => ?_)
 generalize cmp2 op x y g=o;cases o with
 | none=>exact ⟨λ⟨_,h⟩=>h.elim,λ⟨_,e,_⟩=>by cases e⟩
 | some z =>
  cases z
  .exact ⟨λ⟨_,h⟩=>⟨false,rfl,h⟩,λ⟨z,e,h⟩=>by cases e;exact ⟨0,h⟩⟩
  .refine Iff.trans ((wp_bind (by sleep 9) (by sleep 9)).trans (wp_congr λ_ _=>ae.trans jC)) ?_;exact ⟨λh=>⟨true,rfl,h⟩,λ⟨z,e,h⟩=>by cases e;exact h⟩
theorem IF{a b:E}:wpE fns d (.and a b) σ g X Q ↔ wpE fns d a σ g X λx g => ∃ z,x=.bl z/\if z then wpE fns d b σ g X Q else Q (.bl false) g:=by
 rw [aD];simp only [evF];refine (wp_bind (by sleep 9) (by intro x g;cases x with | bl b=>cases b;exact mK _;exact mE _ _ _ | _=>exact mK _)).trans (wp_congr λx g => ?_)
 split
 .exact ⟨λh=>⟨true,rfl,h⟩,λ⟨z,e,h⟩=>by cases e;exact h⟩
 .simp only [ae];exact ⟨λh=>⟨false,rfl,h⟩,λ⟨z,e,h⟩=>by cases e;exact h⟩
 .rename_i h1 h2
  simp only [ae];exact ⟨λh=>h.elim,λ⟨z,e,h⟩=>by cases z;exact absurd e h2;exact absurd e h1⟩
theorem JJ{a b:E}:wpE fns d (.or a b) σ g X Q ↔ wpE fns d a σ g X λx g => ∃ z,x=.bl z/\if z then Q (.bl true) g else wpE fns d b σ g X Q:=by
 rw [aD];simp only [evF];refine (wp_bind (by sleep 9) (by intro x g;cases x with | bl b=>cases b;exact mE _ _ _;exact mK _ | _=>exact mK _)).trans (wp_congr λx g => ?_)
 split
 .simp only [ae];exact ⟨λh=>⟨true,rfl,h⟩,λ⟨z,e,h⟩=>by cases e;exact h⟩
 .exact ⟨λh=>⟨false,rfl,h⟩,λ⟨z,e,h⟩=>by cases e;exact h⟩
 .rename_i h1 h2
  simp only [ae];exact ⟨λh=>h.elim,λ⟨z,e,h⟩=>by cases z;exact absurd e h2;exact absurd e h1⟩
theorem Ih{a:E}:wpE fns d (.not a) σ g X Q ↔ wpE fns d a σ g X λx g => ∃ c,tru x g=some c/\Q (.bl !c) g:=by
 rw [aD];simp only [evF];refine (wp_bind (by sleep 9) (by sleep 9)).trans (wp_congr λx g=>ae.trans ?_)
 cases tru x g with
 | none=>exact ⟨λh=>h.elim,λ⟨_,e,_⟩=>by cases e⟩
 | some a=>exact ⟨λh=>⟨a,rfl,h⟩,λ⟨b,e,h⟩=>by cases e;exact h⟩
theorem HC{a:E}:wpE fns d (.neg a) σ g X Q ↔ wpE fns d a σ g X λx g => ∃ i,x=.int i/\Q (.int (-i)) g:=by
 rw [aD];simp only [evF];refine (wp_bind (by sleep 9) (by sleep 9)).trans (wp_congr λx g=>ae.trans ?_)
 cases x with
 | int a=>exact ⟨λh=>⟨a,rfl,h⟩,λ⟨b,e,h⟩=>by cases e;exact h⟩
 | _=>exact ⟨λh=>h.elim,λ⟨_,e,_⟩=>by cases e⟩
theorem Ju{c a b:E}:wpE fns d (.ite c a b) σ g X Q ↔ wpT fns d c σ g X λk g=>if k then wpE fns d a σ g X Q else wpE fns d b σ g X Q:=by
 rw [aD];simp only [evF];refine (wp_bind (by sleep 9) (by intro k g;cases k;exact mE _ _ _;exact mE _ _ _)).trans (wp_congr λx g => ?_)
 cases x <;> exact Iff.rfl
theorem Ir{es:List E}:wpE fns d (.tup es) σ g X Q ↔ au fns d es σ g X λus g=>us.length<=aj/\Q (.tup us) g:=by
 rw [aD];simp only [evF];refine (wp_bind (by sleep 9) (by sleep 9)).trans (wp_congr λx g=>ae.trans ?_)
 split
 .rename_i h;exact ⟨λq=>⟨h,q⟩,λq=>q.2⟩
 .rename_i h;exact ⟨λq=>q.elim,λq=>h q.1⟩
theorem HA{es:List E}:wpE fns d (.lst es) σ g X Q ↔ au fns d es σ g X λus g=>us.length<=aj/\Q (.ref g.length) (g++[.lst us]):=by
 rw [aD];simp only [evF];refine (wp_bind (by sleep 9) (by sleep 9)).trans (wp_congr λx g=>ae.trans ?_)
 split
 .rename_i h;exact ⟨λq=>⟨h,q⟩,λq=>q.2⟩
 .rename_i h;exact ⟨λq=>q.elim,λq=>h q.1⟩
theorem Iv{a b:E}:wpE fns d (.idx a b) σ g X Q ↔ wpE fns d a σ g X λx g=>wpE fns d b σ g X λy g=>match y with | .tup us => ∃ z,(aB (.tup us) x g).bind id=some z/\Q z g | .str k => ∃ z,(asS x g).bind (λkvs=>aX kvs k)=some z/\Q z g | y => ∃ i xs z,y=.int i/\items x g=some xs/\uix xs i=some z/\Q z g:=by
 rw [aD];simp only [evF];refine (wp_bind (by sleep 9) (by sleep 9)).trans (wp_congr λx g=>(wp_bind (by sleep 9) (by sleep 9)).trans (wp_congr λy g=>ae.trans ?_))
 cases y with
 | int i =>
  cases e:items x g with
  | none=>simp only [e];exact ⟨λh=>h.elim,λ⟨_,_,_,_,e,_⟩=>by cases e⟩
  | some xs =>
   simp only [e,dY];exact ⟨λ⟨z,h,q⟩=>⟨i,xs,z,rfl,rfl,h,q⟩,λ⟨i',xs',z,e1,e2,h,q⟩=>by cases e1;cases e2;exact ⟨z,h,q⟩⟩
 | tup us=>simp only [dY]
 | str k=>simp only [dY]
 | _=>exact ⟨λh=>h.elim,λ⟨_,_,_,e,_⟩=>by cases e⟩
theorem HQ{a:E}{lo hi:Option E}:wpE fns d (.slc a lo hi) σ g X Q ↔ wpE fns d a σ g X λx g=>wpO fns d lo σ g X λl g=>wpO fns d hi σ g X λh g=>holds (match x with
  | .tup xs=>if HT.sIx xs.length 0 l=0/\HT.sIx xs.length xs.length h=xs.length then .bad else .ok (.tup (bB xs l h)) g
  | .fro xs=>alloc (.lst (bB xs l h)) g
  | .ref n=>match g[n]? with
   | some (.lst xs)=>alloc (.lst (bB xs l h)) g
   | _ => .bad
  | _ => .bad) X Q:=by
 rw [aD];simp only [evF];refine (wp_bind (by sleep 9) (by sleep 9)).trans (wp_congr λ_ _ => ?_);refine (wp_bind (by sleep 9) (by sleep 9)).trans (wp_congr λ_ _ => ?_);refine (wp_bind (by sleep 9) (by sleep 9)).trans (wp_congr λ_ _ => ?_);exact ae
theorem Hv{a:E}:wpE fns d (.rev a) σ g X Q ↔ wpE fns d a σ g X λx g => ∃ n xs,x=.ref n/\g[n]? = some (.lst xs)/\Q (.ref g.length) (g++[.lst xs.reverse]):=by
 rw [aD];simp only [evF];refine (wp_bind (by sleep 9) (by sleep 9)).trans (wp_congr λx g=>ae.trans ?_)
 cases x with
 | ref n =>
  cases e:g[n]? with
  | none=>simp only [e];exact ⟨λh=>h.elim,λ⟨_,_,e1,e2,_⟩=>by cases e1;rw [e] at e2;cases e2⟩
  | some o =>
   cases o with
   | lst xs=>simp only [e];exact ⟨λh=>⟨n,xs,rfl,e,h⟩,λ⟨_,_,e1,e2,h⟩=>by cases e1;rw [e] at e2;cases e2;exact h⟩
   | _=>simp only [e];exact ⟨λh=>h.elim,λ⟨_,_,e1,e2,_⟩=>by cases e1;rw [e] at e2;cases e2⟩
 | _=>exact ⟨λh=>h.elim,λ⟨_,_,e,_⟩=>by cases e⟩
theorem Fb{f:Nat}{es:List E}:wpE fns d (.call f es) σ g X Q ↔ au fns d es σ g X λus g=>wpC fns d f us g X Q:=by
 rw [aD];simp only [evF];exact wp_bind (by sleep 9) (by sleep 9)
theorem Kf{b:Bi}{es:List E}:wpE fns d (.bi b es) σ g X Q ↔ au fns d es σ g X λus g=>holds (bi1 b us g) X Q:=by
 rw [aD];simp only [evF];exact (wp_bind (by sleep 9) (by sleep 9)).trans (wp_congr λx g=>ae)
theorem Gn:wpE fns d .dnew σ g X Q ↔ Q (.ref g.length) (g++[.dic []]):=by
 rw [aD];simp only [evF];exact ae
theorem Hz{a:E}{t:Ty}:wpE fns d (.isi a t) σ g X Q ↔ wpE fns d a σ g X λx g => ∃ c,aW t x g=some c/\Q (.bl c) g:=by
 rw [aD];simp only [evF];exact (wp_bind (by sleep 9) (by sleep 9)).trans (wp_congr λx g=>ae.trans jC)
theorem optN{α:Type}{o:Option Nat}{f:Nat->Nat->Out α}{Q:α->G->Prop}:wp (λn=>match o with | some k=>f n k | none => .bad) X Q ↔ ∃ k,o=some k/\wp (λn=>f n k) X Q:=by
 cases o with
 | none=>exact ⟨λ⟨_,h⟩=>h.elim,λ⟨_,e,_⟩=>by cases e⟩
 | some a=>exact ⟨λh=>⟨a,rfl,h⟩,λ⟨b,e,h⟩=>by cases e;exact h⟩
theorem mN{α:Type}{o:Option Nat}{f:Nat->Nat->Out α}(h:∀ k,aJ λn=>f n k):aJ λn=>(match o with | some k=>f n k | none => .bad:Out α):=by
 cases o with
 | none=>exact mK _
 | some k=>exact h k
theorem Jn{o v:E}:wpE fns d (.app o v) σ g X Q ↔ wpE fns d o σ g X λx g => ∃ k,asL x g=some k/\wpE fns d v σ g X λy g=>holds (bO k y g) X Q:=by
 rw [aD];simp only [evF];refine (wp_bind (by sleep 9) (by intro x g;exact mN λk=>mB (mE _ _ _) λ_ _=>mK _)).trans (wp_congr λx g=>optN.trans (exists_congr λk=>and_congr Iff.rfl ?_))
 refine (wp_bind (by sleep 9) (by sleep 9)).trans (wp_congr λ_ _ => ?_);exact ae
theorem Eb{o v:E}:wpE fns d (.popi o v) σ g X Q ↔ wpE fns d o σ g X λx g => ∃ k,asL x g=some k/\wpE fns d v σ g X λy g=>holds (fY k y g) X Q:=by
 rw [aD];simp only [evF];refine (wp_bind (by sleep 9) (by intro x g;exact mN λk=>mB (mE _ _ _) λ_ _=>mK _)).trans (wp_congr λx g=>optN.trans (exists_congr λk=>and_congr Iff.rfl ?_))
 refine (wp_bind (by sleep 9) (by sleep 9)).trans (wp_congr λ_ _ => ?_);exact ae
theorem Jb{o v:E}:wpE fns d (.ext o v) σ g X Q ↔ wpE fns d o σ g X λx g => ∃ k,asL x g=some k/\wpE fns d v σ g X λy g=>holds (cK k y g) X Q:=by
 rw [aD];simp only [evF];refine (wp_bind (by sleep 9) (by intro x g;exact mN λk=>mB (mE _ _ _) λ_ _=>mK _)).trans (wp_congr λx g=>optN.trans (exists_congr λk=>and_congr Iff.rfl ?_))
 refine (wp_bind (by sleep 9) (by sleep 9)).trans (wp_congr λ_ _ => ?_);exact ae
theorem HR{o:E}:wpE fns d (.pop o) σ g X Q ↔ wpE fns d o σ g X λx g => ∃ k,asL x g=some k/\holds (b8 k g) X Q:=by
 rw [aD];simp only [evF];exact (wp_bind (by sleep 9) (by intro x g;exact mN λk=>mK _)).trans (wp_congr λx g=>optN.trans (exists_congr λk=>and_congr Iff.rfl ae))
theorem FO{own:Nat}{fr:List Nat}{t:Tg}{it:E}{cs:List E}{rest:List (Tg×E×List E)}{k v:E}:wpE fns d (.dcmp own fr ((t,it,cs) :: rest) k v) σ g X Q ↔
  wpI fns d it σ g X λi g=>wpM fns d i 0 t cs rest (.pair k v) [] (List.replicate own none++fr.map λj=>(σ[j]?).getD none) g (λ_ _ _=>False) λus g => ∃ kvs,dfold us []=some kvs/\Q (.ref g.length) (g++[.dic kvs]):=by
 rw [aD];simp only [evF];refine (wp_bind (by sleep 9) (by sleep 9)).trans (wp_congr λx g=>(cB (by sleep 9) (by sleep 9)).trans (wp_congr λus g=>ae.trans ?_))
 cases dfold us [] with
 | none=>exact ⟨λq=>q.elim,λ⟨_,e,_⟩=>by cases e⟩
 | some kvs=>exact ⟨λq=>⟨kvs,rfl,q⟩,λ⟨_,e,q⟩=>by cases e;exact q⟩
theorem Gi{k v:E}:wpE fns d (.pair k v) σ g X Q ↔ wpE fns d k σ g X λx g=>wpE fns d v σ g X λy g => ∃ ks,keyOf x=some ks/\Q (.tup [x,y]) g:=by
 rw [aD];simp only [evF];refine (wp_bind (by sleep 9) (by sleep 9)).trans (wp_congr λx g=>(wp_bind (by sleep 9) (by sleep 9)).trans (wp_congr λy g=>ae.trans ?_))
 cases keyOf x with
 | none=>exact ⟨λq=>q.elim,λ⟨_,e,_⟩=>by cases e⟩
 | some kvs=>exact ⟨λq=>⟨kvs,rfl,q⟩,λ⟨_,e,q⟩=>q⟩
theorem Ed{ks:List PySem.Str}{es:List E}:wpE fns d (.ddsp ks es) σ g X Q ↔ au fns d es σ g X λus g=>Q (.ref g.length) (g++[.dst (ks.zip us)]):=by
 rw [aD];simp only [evF];exact (wp_bind (by sleep 9) (by sleep 9)).trans (wp_congr λx g=>ae)
theorem IA{o k x:E}:wpE fns d (.dgt o k x) σ g X Q ↔ wpE fns d o σ g X λy g => ∃ kvs,asD y g=some kvs/\wpE fns d k σ g X λz g=>wpE fns d x σ g X λw g => ∃ q,aB z y g=some q/\Q (q.getD w) g:=by
 rw [aD];simp only [evF];refine (wp_bind (by sleep 9) (by intro x g;cases asD x g with | none=>exact mK _ | some _=>exact mB (mE _ _ _) λ_ _=>mB (mE _ _ _) λ_ _=>mK _)).trans (wp_congr λy g => ?_)
 cases asD y g with
 | none=>exact ae.trans ⟨λq=>q.elim,λ⟨_,e,_⟩=>(by cases e)⟩
 | some kvs =>
  have main:wp (λn=>((lv fns d n).ev k σ g).bind λz g=>((lv fns d n).ev x σ g).bind λw g=>match aB z y g with | some q => .ok (q.getD w) g | none => .bad) X Q ↔ wpE fns d k σ g X λz g=>wpE fns d x σ g X λw g => ∃ q,aB z y g=some q/\Q (q.getD w) g:=by
   refine (wp_bind (by sleep 9) (by sleep 9)).trans (wp_congr λz g=>(wp_bind (by sleep 9) (by sleep 9)).trans (wp_congr λw g=>ae.trans ?_))
   cases aB z y g with
   | none=>exact ⟨λq=>q.elim,λ⟨_,e,_⟩=>by cases e⟩
   | some o=>exact ⟨λq=>⟨o,rfl,q⟩,λ⟨_,e,q⟩=>by cases e;exact q⟩
  exact main.trans ⟨λq=>⟨kvs,rfl,q⟩,λ⟨_,_,q⟩=>q⟩
theorem FX{own:Nat}{fr:List Nat}{t:Tg}{it:E}{cs:List E}{rest:List (Tg×E×List E)}{elt:E}:wpE fns d (.comp own fr ((t,it,cs) :: rest) elt) σ g X Q ↔
  wpI fns d it σ g X λi g=>wpM fns d i 0 t cs rest elt [] (List.replicate own none++fr.map λj=>(σ[j]?).getD none) g (λ_ _ _=>False) λus g=>us.length<=aj/\Q (.ref g.length) (g++[.lst us]):=by
 rw [aD];simp only [evF];refine (wp_bind (by sleep 9) (by sleep 9)).trans (wp_congr λx g=>(cB (by sleep 9) (by sleep 9)).trans (wp_congr λus g=>ae.trans ?_))
 split
 .rename_i h;exact ⟨λq=>⟨h,q⟩,λq=>q.2⟩
 .rename_i h;exact ⟨λq=>q.elim,λq=>h q.1⟩
end
theorem t7{Q:List U->G->Prop}:au fns d [] σ g X Q ↔ Q [] g:=by unfold au;simp only [evs,ae];rfl
theorem pT{e:E}{es:List E}{Q:List U->G->Prop}:au fns d (e :: es) σ g X Q ↔ wpE fns d e σ g X λu g=>au fns d es σ g X λus g=>Q (u :: us) g:=by
 unfold au;simp only [evs];refine (wp_bind (by sleep 9) (by sleep 9)).trans (wp_congr λ_ _ => ?_);refine (wp_bind (by sleep 9) (by sleep 9)).trans (wp_congr λ_ _ => ?_);exact ae
theorem uR{Q:Option Int->G->Prop}:wpO fns d none σ g X Q ↔ Q none g:=by unfold wpO;simp only [evo,ae];rfl
theorem FE{e:E}{Q:Option Int->G->Prop}:wpO fns d (some e) σ g X Q ↔ wpE fns d e σ g X λu g => ∃ i,u=.int i/\Q (some i) g:=by
 unfold wpO;simp only [evo];refine (wp_bind (by sleep 9) (by sleep 9)).trans (wp_congr λx g=>ae.trans ?_)
 cases x with
 | int a=>exact ⟨λh=>⟨a,rfl,h⟩,λ⟨b,e,h⟩=>by cases e;exact h⟩
 | _=>exact ⟨λh=>h.elim,λ⟨_,e,_⟩=>by cases e⟩
section
variable{Q:Bool->G->Prop}
theorem ID{a b:E}:wpT fns d (.and a b) σ g X Q ↔ wpT fns d a σ g X λk g=>if k then wpT fns d b σ g X Q else Q false g:=by
 rw [fT];simp only [tsF];refine (wp_bind (by sleep 9) (by intro k g;cases k;exact mK _;exact mT _ _ _)).trans (wp_congr λx g => ?_)
 cases x
 .exact ae
 .exact Iff.rfl
theorem JW{a b:E}:wpT fns d (.or a b) σ g X Q ↔ wpT fns d a σ g X λk g=>if k then Q true g else wpT fns d b σ g X Q:=by
 rw [fT];simp only [tsF];refine (wp_bind (by sleep 9) (by intro k g;cases k;exact mT _ _ _;exact mK _)).trans (wp_congr λx g => ?_)
 cases x
 .exact Iff.rfl
 .exact ae
theorem Ib{a:E}:wpT fns d (.not a) σ g X Q ↔ wpT fns d a σ g X λk g=>Q (!k) g:=by
 rw [fT];simp only [tsF];refine (wp_bind (by sleep 9) (by sleep 9)).trans (wp_congr λ_ _ => ?_);exact ae
theorem Jk{c a b:E}:wpT fns d (.ite c a b) σ g X Q ↔ wpT fns d c σ g X λk g=>if k then wpT fns d a σ g X Q else wpT fns d b σ g X Q:=by
 rw [fT];simp only [tsF];refine (wp_bind (by sleep 9) (by intro k g;cases k;exact mT _ _ _;exact mT _ _ _)).trans (wp_congr λx g => ?_)
 cases x <;> exact Iff.rfl
noncomputable def plainT:E->Bool
 | .and _ _=>false | .or _ _=>false | .not _=>false | .ite _ _ _=>false | _=>true
theorem T_e{e:E}(h:plainT e=true):wpT fns d e σ g X Q ↔ wpE fns d e σ g X λx g => ∃ c,tru x g=some c/\Q c g:=by
 rw [fT];have:(λn=>tsF (lv fns d n) e σ g)=λn=>((lv fns d n).ev e σ g).bind λx g=>lift (tru x g) g:=by
  funext n;cases e <;> first | rfl | cases h
 rw [this];refine (wp_bind (by sleep 9) (by sleep 9)).trans (wp_congr λ_ _ => ?_);exact ae.trans dY
theorem kP:wpA fns d [] σ g X Q ↔ Q true g:=by unfold wpA;simp only [aT,ae];rfl
theorem ET{c:E}{cs:List E}:wpA fns d (c :: cs) σ g X Q ↔ wpT fns d c σ g X λk g=>if k then wpA fns d cs σ g X Q else Q false g:=by
 unfold wpA;simp only [aT];refine (wp_bind (by sleep 9) (by intro k g;cases k;exact mK _;exact mA _ _ _)).trans (wp_congr λx g => ?_)
 cases x
 .exact ae
 .exact Iff.rfl
end
section
variable{Q:Iter->G->Prop}
theorem D3{a:E}:wpI fns d (.rng1 a) σ g X Q ↔ wpE fns d a σ g X λu g => ∃ j,u=.int j/\(-1000000 < j/\j < 1000000)/\Q (.rng 0 j.toNat) g:=by
 unfold wpI;simp only [itF];refine (wp_bind (by sleep 9) (by sleep 9)).trans (wp_congr λx g=>ae.trans ?_)
 cases x with
 | int a =>
  simp only [];split
  .rename_i h;exact ⟨λq=>⟨a,rfl,h,q⟩,λ⟨b,e,_,q⟩=>by cases e;exact q⟩
  .rename_i h;exact ⟨λq=>q.elim,λ⟨b,e,h',q⟩=>by cases e;exact h h'⟩
 | _=>exact ⟨λh=>h.elim,λ⟨_,e,_⟩=>by cases e⟩
theorem HM{a:E}:wpI fns d (.enm a) σ g X Q ↔ wpE fns d a σ g X λu g => ∃ k,asL u g=some k/\Q (.enm k) g:=by
 unfold wpI;simp only [itF];refine (wp_bind (by sleep 9) (by sleep 9)).trans (wp_congr λx g=>ae.trans ?_)
 cases asL x g with
 | none=>exact ⟨λh=>h.elim,λ⟨_,e,_⟩=>(by cases e)⟩
 | some k=>exact ⟨λq=>⟨k,rfl,q⟩,λ⟨_,e,q⟩=>(by cases e;exact q)⟩
theorem Gc{a b:E}:wpI fns d (.rng2 a b) σ g X Q ↔ wpE fns d a σ g X λu g=>wpE fns d b σ g X λw g => ∃ i j,u=.int i/\w=.int j/\(-1000000 < i/\i < 1000000 /\ -1000000 < j/\j < 1000000)/\Q (.rng i (j - i).toNat) g:=by
 unfold wpI;simp only [itF];refine (wp_bind (by sleep 9) (by sleep 9)).trans (wp_congr λx g=>(wp_bind (by sleep 9) (by sleep 9)).trans (wp_congr λy g=>ae.trans ?_))
 cases x with
 | int a =>
  cases y with
  | int b =>
   simp only [];split
   .rename_i h;exact ⟨λq=>⟨a,b,rfl,rfl,h,q⟩,λ⟨_,_,e,e',_,q⟩=>by cases e;cases e';exact q⟩
   .rename_i h;exact ⟨λq=>q.elim,λ⟨_,_,e,e',h',q⟩=>by cases e;cases e';exact h h'⟩
  | _=>exact ⟨λh=>h.elim,λ⟨_,_,_,e,_⟩=>by cases e⟩
 | _=>exact ⟨λh=>h.elim,λ⟨_,_,e,_⟩=>by cases e⟩
theorem I_e{e:E}(h:iP e=true):wpI fns d e σ g X Q ↔ wpE fns d e σ g X λu g=>holds (match u with
  | .tup xs => .ok (.seq xs) g
  | .xn _ xs => .ok (.seq xs) g
  | .ref n=>match g[n]? with
   | some (.lst _) => .ok (.lst n) g
   | some (.dic kvs) => .ok (.dic n) (g.set n (.dif kvs))
   | some (.dif _) => .ok (.dic n) g
   | _ => .bad
  | _ => .bad) X Q:=by
 unfold wpI;have:(λn=>itF (lv fns d n) e σ g)=λn=>((lv fns d n).ev e σ g).bind λu g=>match u with
  | .tup xs => .ok (.seq xs) g
  | .xn _ xs => .ok (.seq xs) g
  | .ref n=>match g[n]? with
   | some (.lst _) => .ok (.lst n) g
   | some (.dic kvs) => .ok (.dic n) (g.set n (.dif kvs))
   | some (.dif _) => .ok (.dic n) g
   | _ => .bad
  | _ => .bad:=by
  funext n;cases e <;> first | rfl | cases h
 rw [this];refine (wp_bind (by sleep 9) (by sleep 9)).trans (wp_congr λ_ _ => ?_);exact ae
end
section
variable{Q:Fl->G->Prop}
theorem vS:wpS fns d [] σ g X Q ↔ Q (.nx σ) g:=by rw [tm];simp only [exF,ae];rfl
theorem DY{s:S}{ss:List S}:wpS fns d (s :: ss) σ g X Q ↔ wp1 fns d s σ g X λf g=>match f with | .nx σ'=>wpS fns d ss σ' g X Q | f=>Q f g:=by
 rw [tm];simp only [exF];refine (wp_bind (by exact m1 _ _ _) (by intro f g;cases f;exact mS _ _ _;exact mK _;exact mK _;exact mK _)).trans (wp_congr λx g => ?_)
 cases x <;> first | exact Iff.rfl | exact ae
theorem IQ{e:E}:wp1 fns d (.ret e) σ g X Q ↔ wpE fns d e σ g X λu g=>Q (.rt u) g:=by
 unfold wp1;simp only [s1F];exact (wp_bind (by sleep 9) (by sleep 9)).trans (wp_congr λx g=>ae)
theorem D9:wp1 fns d .retN σ g X Q ↔ Q (.rt .non) g:=by unfold wp1;simp only [s1F,ae];rfl
theorem Gq:wp1 fns d .pass σ g X Q ↔ Q (.nx σ) g:=by unfold wp1;simp only [s1F,ae];rfl
theorem Hn:wp1 fns d .brk σ g X Q ↔ Q (.bk σ) g:=by unfold wp1;simp only [s1F,ae];rfl
theorem ED:wp1 fns d .cont σ g X Q ↔ Q (.ct σ) g:=by unfold wp1;simp only [s1F,ae];rfl
theorem Jg{t:Tg}{e:E}:wp1 fns d (.set t e) σ g X Q ↔ wpE fns d e σ g X λu g => ∃ σ',az t (unl t u g) σ=some σ'/\Q (.nx σ') g:=by
 unfold wp1;simp only [s1F];refine (wp_bind (by sleep 9) (by sleep 9)).trans (wp_congr λx g=>ae.trans ?_)
 cases az t (unl t x g) σ with
 | none=>exact ⟨λh=>h.elim,λ⟨_,e,_⟩=>by cases e⟩
 | some a=>exact ⟨λh=>⟨a,rfl,h⟩,λ⟨b,e,h⟩=>by cases e;exact h⟩
theorem Hk{i j:Nat}{a b:E}:wp1 fns d (.par i j a b) σ g X Q ↔ wpE fns d a σ g X λu g=>wpE fns d b σ g X λw g=>(i < σ.length/\j < σ.length)/\Q (.nx ((σ.set i (some u)).set j (some w))) g:=by
 unfold wp1;simp only [s1F];refine (wp_bind (by sleep 9) (by sleep 9)).trans (wp_congr λx g=>(wp_bind (by sleep 9) (by sleep 9)).trans (wp_congr λy g=>ae.trans ?_))
 split
 .rename_i h;exact ⟨λq=>⟨h,q⟩,λq=>q.2⟩
 .rename_i h;exact ⟨λq=>q.elim,λq=>h q.1⟩
theorem G0{a e:E}{j:Nat}{cs:List Nat}:wp1 fns d (.fset a j cs e) σ g X Q ↔ wpE fns d e σ g X λu g=>wpE fns d a σ g X λx g => ∃ g',bW x j cs u g=some g'/\Q (.nx σ) g':=by
 unfold wp1;simp only [s1F];refine (wp_bind (by sleep 9) (by sleep 9)).trans (wp_congr λu g=>(wp_bind (by sleep 9) (by sleep 9)).trans (wp_congr λx g=>ae.trans ?_))
 cases bW x j cs u g with
 | none=>exact ⟨λh=>h.elim,λ⟨_,e,_⟩=>by cases e⟩
 | some a=>exact ⟨λh=>⟨a,rfl,h⟩,λ⟨b,e,h⟩=>by cases e;exact h⟩
theorem Iq{o i e:E}:wp1 fns d (.sub o i e) σ g X Q ↔ wpE fns d e σ g X λu g=>wpE fns d o σ g X λx g=>wpE fns d i σ g X λy g=>holds (subAt x y u σ g) X Q:=by
 unfold wp1;simp only [s1F];refine (wp_bind (by sleep 9) (by sleep 9)).trans (wp_congr λ_ _ => ?_);refine (wp_bind (by sleep 9) (by sleep 9)).trans (wp_congr λ_ _ => ?_);refine (wp_bind (by sleep 9) (by sleep 9)).trans (wp_congr λ_ _ => ?_);exact ae
theorem Ii{o i:E}:wp1 fns d (.del o i) σ g X Q ↔ wpE fns d o σ g X λx g=>wpE fns d i σ g X λy g=>holds (gr x y σ g) X Q:=by
 unfold wp1;simp only [s1F];refine (wp_bind (by sleep 9) (by sleep 9)).trans (wp_congr λ_ _ => ?_);refine (wp_bind (by sleep 9) (by sleep 9)).trans (wp_congr λ_ _ => ?_);exact ae
theorem Js{i:Nat}{op:Op}{e:E}:wp1 fns d (.aug i op e) σ g X Q ↔ ∃ x,σ[i]? = some (some x)/\wpE fns d e σ g X λy g => ∃ z,fg op x y=some z/\Q (.nx (σ.set i (some z))) g:=by
 unfold wp1;simp only [s1F];cases e1:σ[i]? with
 | none=>simp only [ae];exact ⟨λh=>h.elim,λ⟨_,e,_⟩=>by cases e⟩
 | some o=>cases o with
  | none=>simp only [ae];exact ⟨λh=>h.elim,λ⟨_,e,_⟩=>by cases e⟩
  | some a =>
   simp only [];have:∀ P:U->Prop,(∃ x,some (some a)=some (some x)/\P x) ↔ P a:=λP=>⟨λ⟨_,e,h⟩=>by cases e;exact h,λh=>⟨a,rfl,h⟩⟩
   refine Iff.trans ?_ (this _).symm;refine (wp_bind (by sleep 9) (by sleep 9)).trans (wp_congr λx g=>ae.trans ?_)
   cases fg op a x with
   | none=>exact ⟨λh=>h.elim,λ⟨_,e,_⟩=>by cases e⟩
   | some a=>exact ⟨λh=>⟨a,rfl,h⟩,λ⟨b,e,h⟩=>by cases e;exact h⟩
theorem Ic{e:E}:wp1 fns d (.exp e) σ g X Q ↔ wpE fns d e σ g X λ_ g=>Q (.nx σ) g:=by
 unfold wp1;simp only [s1F];exact (wp_bind (by sleep 9) (by sleep 9)).trans (wp_congr λx g=>ae)
theorem HY{c:E}{a b:List S}:wp1 fns d (.ife c a b) σ g X Q ↔ wpT fns d c σ g X λk g=>if k then wpS fns d a σ g X Q else wpS fns d b σ g X Q:=by
 unfold wp1;simp only [s1F];refine (wp_bind (by sleep 9) (by intro k g;cases k;exact mS _ _ _;exact mS _ _ _)).trans (wp_congr λx g => ?_)
 cases x <;> exact Iff.rfl
theorem Jx{t:Tg}{it:E}{b:List S}:wp1 fns d (.for t it b) σ g X Q ↔ wpI fns d it σ g X λi g=>wpF fns d t i 0 b σ g X Q:=by
 unfold wp1;simp only [s1F];exact wp_bind (by sleep 9) (by sleep 9)
theorem GI{c:E}{b:List S}:wpW fns d c b σ g X Q ↔ wpT fns d c σ g X λk g=>if k then wpS fns d b σ g X λf g=>(match f with
  | .nx σ'=>wpW fns d c b σ' g X Q
  | .ct σ'=>wpW fns d c b σ' g X Q
  | .bk σ'=>Q (.nx σ') g
  | .rt u=>Q (.rt u) g) else Q (.nx σ) g:=by
 rw [EG];simp only [whF];refine (wp_bind (mT _ _ _) λk g=>by cases k;exact mK _;refine mB (mS _ _ _) λf g => ?_;cases f;exact mW _ _ _ _;exact mK _;exact mK _;exact mW _ _ _ _).trans (wp_congr λx g => ?_)
 cases x
 .exact ae
 .simp only [if_true]
  refine (wp_bind (by sleep 9) (by intro f g;cases f;exact mW _ _ _ _;exact mK _;exact mK _;exact mW _ _ _ _)).trans (wp_congr λf g => ?_)
  cases f <;> first | exact Iff.rfl | exact ae
theorem kB{t:Tg}{it:Iter}{i:Nat}{b:List S}:wpF fns d t it i b σ g X Q ↔ ∃ o,next it i g=some o/\match o with
  | none=>Q (.nx σ) g
  | some u => ∃ σ1,az t u σ=some σ1/\wpS fns d b σ1 g X λf g=>match f with
   | .nx σ'=>wpF fns d t it (i+1) b σ' g X Q
   | .ct σ'=>wpF fns d t it (i+1) b σ' g X Q
   | .bk σ'=>Q (.nx σ') g
   | .rt u=>Q (.rt u) g:=by
 rw [Fw];simp only [frF];cases next it i g with
 | none=>simp only [ae];exact ⟨λh=>h.elim,λ⟨_,e,_⟩=>by cases e⟩
 | some o =>
  cases o with
  | none=>simp only [ae];exact ⟨λh=>⟨none,rfl,h⟩,λ⟨o,e,h⟩=>by cases e;exact h⟩
  | some u =>
   simp only [];cases e2:az t u σ with
   | none=>simp only [ae];exact ⟨λh=>h.elim,λ⟨_,e,h⟩=>by cases e;obtain ⟨_,e,_⟩:=h;rw [e2] at e;cases e⟩
   | some σ1 =>
    simp only [];refine (wp_bind (by sleep 9) (by intro f g;cases f;exact mF _ _ _ _ _ _;exact mK _;exact mK _;exact mF _ _ _ _ _ _)).trans ?_
    refine Iff.trans (wp_congr (Q':=λf g=>match f with
       | .nx σ'=>wpF fns d t it (i+1) b σ' g X Q
       | .ct σ'=>wpF fns d t it (i+1) b σ' g X Q
       | .bk σ'=>Q (.nx σ') g
       | .rt u=>Q (.rt u) g) λf g => ?_) ?_
    .cases f <;> first | exact Iff.rfl | exact ae
    exact ⟨λh=>⟨some u,rfl,σ1,e2,h⟩,λ⟨o,e,h⟩=>by cases e;obtain ⟨σ2,e,h⟩:=h;rw [e2] at e;cases e;exact h⟩
end
theorem eG{it:Iter}{i:Nat}{t:Tg}{cs:List E}{rest:List (Tg×E×List E)}{elt:E}{acc:List U}{Q:List U->G->Prop}:wpM fns d it i t cs rest elt acc σ g X Q ↔ ∃ o,next it i g=some o/\match o with
  | none=>Q acc g
  | some u=>bA t σ=true /\ ∃ σ1,az t u σ=some σ1/\wpA fns d cs σ1 g (λ_ _ _=>False) λk g=>if k then
    match rest with
    | []=>wpE fns d elt σ1 g (λ_ _ _=>False) λv g=>acc.length < aj/\wpM fns d it (i+1) t cs rest elt (acc++[v]) σ g X Q
    | (t2,it2,cs2) :: rest2=>wpI fns d it2 σ1 g (λ_ _ _=>False) λj g=>wpM fns d j 0 t2 cs2 rest2 elt acc σ1 g (λ_ _ _=>False) λacc2 g=>wpM fns d it (i+1) t cs rest elt acc2 σ g X Q
   else wpM fns d it (i+1) t cs rest elt acc σ g X Q:=by
 rw [GW];simp only [cmF];cases next it i g with
 | none=>simp only [ae];exact ⟨λh=>h.elim,λ⟨_,e,_⟩=>by cases e⟩
 | some o =>
  cases o with
  | none=>simp only [ae];exact ⟨λh=>⟨none,rfl,h⟩,λ⟨o,e,h⟩=>by cases e;exact h⟩
  | some u =>
   simp only [];by_cases hf:bA t σ=true
   .simp only [hf,if_true]
    cases e2:az t u σ with
    | none=>simp only [ae];exact ⟨λh=>h.elim,λ⟨_,e,h⟩=>by cases e;obtain ⟨_,_,e,_⟩:=h;rw [e2] at e;cases e⟩
    | some σ1 =>
     simp only [];refine Iff.trans ?_ ⟨λh=>⟨some u,rfl,trivial,σ1,e2,h⟩,λ⟨o,e,h⟩=>by cases e;obtain ⟨_,σ2,e,h⟩:=h;rw [e2] at e;cases e;exact h⟩
     cases rest with
     | nil =>
      refine (cB (by sleep 9) (by intro k g;cases k;exact mM _ _ _ _ _ _ _ _ _;refine mBB (mE _ _ _) λv g => ?_;by_cases h:acc.length < aj;simp only [h,if_true];exact mM _ _ _ _ _ _ _ _ _;simp only [h,if_false];exact mK _)).trans (wp_congr λk g => ?_)
      cases k
      .exact Iff.rfl
      .refine Iff.trans (cB (by sleep 9) (by intro v g;by_cases h:acc.length < aj;simp only [h,if_true];exact mM _ _ _ _ _ _ _ _ _;simp only [h,if_false];exact mK _)) (wp_congr λv g => ?_)
       by_cases h:acc.length < aj
       .simp only [h,if_true];exact ⟨λq=>⟨trivial,q⟩,λq=>q.2⟩
       .simp only [h,if_false];exact ⟨λ⟨_,q⟩=>q.elim,λq=>q.1.elim⟩
     | cons t2 rest2 =>
      obtain ⟨t2,it2,cs2⟩:=t2;refine (cB (by sleep 9) (by intro k g;cases k;exact mM _ _ _ _ _ _ _ _ _;exact mBB (mI _ _ _) λ_ _=>mBB (mM _ _ _ _ _ _ _ _ _) λ_ _=>mM _ _ _ _ _ _ _ _ _)).trans (wp_congr λk g => ?_)
      cases k
      .exact Iff.rfl
      .refine Iff.trans (cB (by sleep 9) (by sleep 9)) (wp_congr λj g => ?_)
       exact cB (by sleep 9) (by sleep 9)
   .have hf':bA t σ=false:=by cases h:bA t σ;rfl;exact absurd h hf
    simp only [hf'];exact ⟨λ⟨_,h⟩=>h.elim,λ⟨_,e,h⟩=>by cases e;exact absurd h.1 (by simp)⟩
theorem GN{f:Nat}{F:Fn}{us:List U}{Q:U->G->Prop}(hf:fns[f]? = some F)(hl:us.length=F.np):wpC fns (d+1) f us g X Q ↔ wpS fns d F.body (us.map some++List.replicate (F.ns - us.length) none) g X λfl g=>match fl with
  | .rt u=>Q u g
  | .nx _=>Q .non g
  | _=>False:=by
 unfold wpC;simp only [aa,hf,dk,hl,if_true];refine (wp_bind (f:=λn=>(lv fns d n).ex F.body (us.map some++List.replicate (F.ns - F.np) none) g) (mS _ _ _) (by sleep 9)).trans (wp_congr λx g=>ae.trans ?_)
 cases x <;> exact Iff.rfl
theorem BZ{f:Nat}{us:List U}{Q:U->G->Prop}(h:wpC fns d f us g (λ_ _ _=>False) Q):∃ fu u g',aa fns fu d f us g=.ok u g'/\Q u g':=by
 obtain ⟨n,h⟩:=h;have h:holds (aa fns n d f us g) (λ_ _ _=>False) Q:=h;revert h;cases e:aa fns n d f us g with
 | ok u g'=>exact λh=>⟨n,u,g',e,h⟩
 | exc c fs g=>exact λh=>h.elim
 | bad=>exact λh=>h.elim
end
inductive Lk{α:Sort u}(a:α):Type
 | mk:Lk a
@[reducible] def lk{α:Sort u}(a:α):Lk a := .mk
noncomputable def oh{α:Type}(o:Option α){Q:α->Prop}(_:Lk Q):Prop:=match o with
 | some a=>Q a
 | none=>False
noncomputable def bh(k:Bool){A B:Prop}(_:Lk A)(_:Lk B):Prop:=match k with
 | true=>A
 | false=>B
noncomputable def fS(f:Fl){A:Su->Prop}{B:Fl->Prop}(_:Lk A)(_:Lk B):Prop:=match f with
 | .nx σ=>A σ
 | f=>B f
noncomputable def fL(f:Fl){A:Su->Prop}{B:Fl->Prop}(_:Lk A)(_:Lk B):Prop:=match f with
 | .nx σ=>A σ
 | .ct σ=>A σ
 | .bk σ=>B (.nx σ)
 | .rt u=>B (.rt u)
noncomputable def fC(f:Fl){Q:U->Prop}(_:Lk Q):Prop:=match f with
 | .rt u=>Q u
 | .nx _=>Q .non
 | _=>False
theorem iw{α:Type}{a:α}{Q:α->Prop}:oh (some a) (lk Q)=Q a:=propext Iff.rfl
theorem k8{A B:Prop}:bh true (lk A) (lk B)=A:=propext Iff.rfl
theorem yd{A B:Prop}:bh false (lk A) (lk B)=B:=propext Iff.rfl
theorem aC{k:Bool}{A B:Prop}(h:k=true->A)(h':k=false->B):bh k (lk A) (lk B):=by cases k;exact h' rfl;exact h rfl
theorem bC{k:Bool}{A B:Prop}:(if k=true then A else B) ↔ bh k (lk A) (lk B):=by cases k <;> simp [bh]
theorem Jz{σ:Su}{A:Su->Prop}{B:Fl->Prop}:fS (.nx σ) (lk A) (lk B)=A σ:=propext Iff.rfl
theorem HX{u:U}{A:Su->Prop}{B:Fl->Prop}:fS (.rt u) (lk A) (lk B)=B (.rt u):=propext Iff.rfl
theorem Jv{σ:Su}{A:Su->Prop}{B:Fl->Prop}:fS (.bk σ) (lk A) (lk B)=B (.bk σ):=propext Iff.rfl
theorem HK{σ:Su}{A:Su->Prop}{B:Fl->Prop}:fS (.ct σ) (lk A) (lk B)=B (.ct σ):=propext Iff.rfl
theorem vJ{σ:Su}{A:Su->Prop}{B:Fl->Prop}:fL (.nx σ) (lk A) (lk B)=A σ:=propext Iff.rfl
theorem xM{u:U}{A:Su->Prop}{B:Fl->Prop}:fL (.rt u) (lk A) (lk B)=B (.rt u):=propext Iff.rfl
theorem Ip{σ:Su}{A:Su->Prop}{B:Fl->Prop}:fL (.bk σ) (lk A) (lk B)=B (.nx σ):=propext Iff.rfl
theorem Hy{σ:Su}{A:Su->Prop}{B:Fl->Prop}:fL (.ct σ) (lk A) (lk B)=A σ:=propext Iff.rfl
theorem wC{u:U}{Q:U->Prop}:fC (.rt u) (lk Q)=Q u:=propext Iff.rfl
theorem Hu{σ:Su}{Q:U->Prop}:fC (.nx σ) (lk Q)=Q .non:=propext Iff.rfl
theorem aI{α:Type}{o:Option α}{Q:α->Prop}:(∃ a,o=some a/\Q a) ↔ oh o (lk Q):=by
 cases o with
 | none=>exact ⟨λ⟨_,e,_⟩=>(by cases e),λh=>h.elim⟩
 | some a=>exact ⟨λ⟨_,e,h⟩=>(by cases e;exact h),λh=>⟨a,rfl,h⟩⟩
noncomputable def hk{α:Type}(o:Out α)(X:XP){Q:α->G->Prop}(_:Lk Q):Prop:=holds o X Q
theorem vO{α:Type}{a:α}{g:G}{X:XP}{Q:α->G->Prop}:hk (.ok a g) X (lk Q)=Q a g:=propext Iff.rfl
theorem DX{α:Type}{c:Nat}{fs:List U}{g:G}{X:XP}{Q:α->G->Prop}:hk (.exc c fs g) X (lk Q)=X c fs g:=propext Iff.rfl
section
variable{fns:List Fn}{d:Nat}{X:XP}{σ σ':Su}{g g':G}
noncomputable def kC(fns:List Fn)(d f:Nat)(us:List U)(g:G)(X:XP){Q:U->G->Prop}(_:Lk Q):Prop:=wpC fns d f us g X Q
noncomputable def kM(fns:List Fn)(d:Nat)(it:Iter)(i:Nat)(t:Tg)(cs:List E)(rest:List (Tg×E×List E))(elt:E)(acc:List U)(σ:Su)(g:G)(X:XP){Q:List U->G->Prop}(_:Lk Q):Prop:=wpM fns d it i t cs rest elt acc σ g X Q
noncomputable def kF(fns:List Fn)(d:Nat)(t:Tg)(it:Iter)(i:Nat)(b:List S)(σ:Su)(g:G)(X:XP){Q:Fl->G->Prop}(_:Lk Q):Prop:=wpF fns d t it i b σ g X Q
noncomputable def kW(fns:List Fn)(d:Nat)(c:E)(b:List S)(σ:Su)(g:G)(X:XP){Q:Fl->G->Prop}(_:Lk Q):Prop:=wpW fns d c b σ g X Q
theorem Fp{f:Nat}{es:List E}{Q:U->G->Prop}:wpE fns d (.call f es) σ g X Q ↔ au fns d es σ g X λus g=>kC fns d f us g X (lk Q):=Fb
theorem Ke{b:Bi}{es:List E}{Q:U->G->Prop}:wpE fns d (.bi b es) σ g X Q ↔ au fns d es σ g X λus g=>hk (bi1 b us g) X (lk Q):=Kf
noncomputable def gw(x:U)(l h:Option Int)(g:G):Out U:=match x with
  | .tup xs=>if HT.sIx xs.length 0 l=0/\HT.sIx xs.length xs.length h=xs.length then .bad else .ok (.tup (bB xs l h)) g
  | .fro xs=>alloc (.lst (bB xs l h)) g
  | .ref n=>match g[n]? with
   | some (.lst xs)=>alloc (.lst (bB xs l h)) g
   | _ => .bad
  | _ => .bad
theorem IT{a:E}{lo hi:Option E}{Q:U->G->Prop}:wpE fns d (.slc a lo hi) σ g X Q ↔ wpE fns d a σ g X λx g=>wpO fns d lo σ g X λl g=>wpO fns d hi σ g X λh g=>hk (gw x l h g) X (lk Q):=HQ
theorem tz{c:E}{b:List S}{Q:Fl->G->Prop}:wp1 fns d (.whl c b) σ g X Q ↔ kW fns d c b σ g X (lk Q):=Iff.rfl
theorem G2{t:Tg}{it:E}{b:List S}{Q:Fl->G->Prop}:wp1 fns d (.for t it b) σ g X Q ↔ wpI fns d it σ g X λi g=>kF fns d t i 0 b σ g X (lk Q):=Jx
theorem Ey{e:E}{Q:Option Int->G->Prop}:wpO fns d (some e) σ g X Q ↔ wpE fns d e σ g X λu g=>oh (match u with | .int i=>some i | _=>none) <| lk λi=>Q (some i) g:=FE.trans (wp_congr λx g=>by
 cases x with
 | int z=>exact ⟨λ⟨_,e,h⟩=>(by cases e;exact h),λh=>⟨z,rfl,h⟩⟩
 | _=>exact ⟨λ⟨_,e,h⟩=>(by cases e),λh=>h.elim⟩)
section
variable{Q:U->G->Prop}
theorem vP{i:Nat}:wpE fns d (.var i) σ g X Q ↔ oh σ[i]? (lk λo=>oh o (lk λu=>Q u g)):=by
 rw [Io];cases σ[i]? with
 | none=>exact ⟨λ⟨_,e,_⟩=>(by cases e),λh=>h.elim⟩
 | some o=>cases o with
  | none=>exact ⟨λ⟨_,e,_⟩=>(by cases e),λh=>h.elim⟩
  | some a=>exact ⟨λ⟨_,e,h⟩=>(by cases e;exact h),λh=>⟨a,rfl,h⟩⟩
noncomputable def ob(op:Op)(x y:U)(g:G)(X:XP){Q:U->G->Prop}(_:Lk Q):Prop:=holds (bQ op x y g) X Q
theorem yw{op:Op}{i:Int}{y:U}{g:G}{X:XP}{Q:U->G->Prop}:ob op (.int i) y g X (lk Q)=oh (op2 op (.int i) y) (lk λz=>Q z g):=propext (by
 unfold ob;refine Iff.trans (?_:_ ↔ holds (lift (op2 op (.int i) y) g) X Q) (dY.trans aI);exact Iff.rfl)
theorem EV{n m:Nat}{xs ys:List U}{g:G}{X:XP}{Q:U->G->Prop}(h1:g[n]? = some (.lst xs))(h2:g[m]? = some (.lst ys))(hl:xs.length+ys.length<=aj)(h:Q (.ref g.length) (g++[.lst (xs++ys)])):ob .add (.ref n) (.ref m) g X (lk Q):=by
 unfold ob bQ bR;simp only [h1,h2];rw [if_pos hl];exact h
theorem vU{op:Op}{a b:E}:wpE fns d (.bin op a b) σ g X Q ↔ wpE fns d a σ g X λx g=>wpE fns d b σ g X λy g=>ob op x y g X (lk Q):=HV
theorem Jm{a:E}{j:Nat}{cs:List Nat}:wpE fns d (.fld a j cs) σ g X Q ↔ wpE fns d a σ g X λx g=>oh ((a8 x g).bind (c8 j cs)) <| lk λz=>Q z g:=by simp only [Iz,aI]
theorem EH{a:E}:wpE fns d (.revm a) σ g X Q ↔ wpE fns d a σ g X λx g=>oh (asL x g) <| lk λn=>hk (cJ n g) X (lk Q):=by simp only [Ha,aI];exact Iff.rfl
theorem GO{c f:Nat}{es ks:List E}{pm:List (Nat ⊕ U)}:wpE fns d (.make c f es ks pm) σ g X Q ↔ au fns d es σ g X λus g=>au fns d ks σ g X λws g=>us.length=es.length/\ws.length=ks.length/\kC fns d f (perm (.ref g.length :: us++ws) pm) (g++[.ins c []]) X (lk λu g'=>aU u=true/\Q (.ref g.length) g'):=EM
theorem ER{a:E}{j:Nat}{tb:List (Nat×Nat×List (Nat ⊕ U))}{es ks:List E}:wpE fns d (.meth a j tb es ks) σ g X Q ↔ wpE fns d a σ g X λx g=>oh ((a8 x g).bind (cH j tb)) <| lk λp=>au fns d es σ g X λus g=>au fns d ks σ g X λws g=>us.length=es.length/\ws.length=ks.length/\kC fns d p.1 (perm (x :: us++ws) p.2) g X (lk Q):=by simp only [Gh,aI];exact Iff.rfl
theorem CB{a e:E}{j:Nat}{cs:List Nat}{Q:Fl->G->Prop}:wp1 fns d (.fset a j cs e) σ g X Q ↔ wpE fns d e σ g X λu g=>wpE fns d a σ g X λx g=>oh (bW x j cs u g) <| lk λg'=>Q (.nx σ) g':=by simp only [G0,aI]
theorem Im{op:Cp}{a b:E}:wpE fns d (.cmp op a b) σ g X Q ↔ wpE fns d a σ g X λx g=>wpE fns d b σ g X λy g=>oh (cmp2 op x y g) <| lk λz=>Q (.bl z) g:=HL.trans (wp_congr λx g=>wp_congr λy g=>aI)
theorem Cy{op op':Cp}{a b c:E}:wpE fns d (.chain op op' a b c) σ g X Q ↔ wpE fns d a σ g X λx g=>wpE fns d b σ g X λy g=>oh (cmp2 op x y g) <| lk λz=>bh z (lk (wpE fns d c σ g X λw g=>oh (cmp2 op' y w g) <| lk λz=>Q (.bl z) g)) (lk (Q (.bl false) g)) :=
 Dm.trans (wp_congr λx g=>wp_congr λy g=>aI.trans (by
  cases cmp2 op x y g with
  | none=>exact Iff.rfl
  | some z =>
   cases z
   .exact Iff.rfl
   .exact wp_congr λw g=>aI))
theorem IW{a b:E}:wpE fns d (.and a b) σ g X Q ↔ wpE fns d a σ g X λx g=>oh (match x with | .bl z=>some z | _=>none) <| lk λz=>bh z (lk (wpE fns d b σ g X Q)) (lk (Q (.bl false) g)):=IF.trans (wp_congr λx g=>by
 cases x with
 | bl z=>exact ⟨λ⟨_,e,h⟩=>(by cases e;exact bC.1 h),λh=>⟨z,rfl,bC.2 h⟩⟩
 | _=>exact ⟨λ⟨_,e,h⟩=>(by cases e),λh=>h.elim⟩)
theorem JG{a b:E}:wpE fns d (.or a b) σ g X Q ↔ wpE fns d a σ g X λx g=>oh (match x with | .bl z=>some z | _=>none) <| lk λz=>bh z (lk (Q (.bl true) g)) (lk (wpE fns d b σ g X Q)):=JJ.trans (wp_congr λx g=>by
 cases x with
 | bl z=>exact ⟨λ⟨_,e,h⟩=>(by cases e;exact bC.1 h),λh=>⟨z,rfl,bC.2 h⟩⟩
 | _=>exact ⟨λ⟨_,e,h⟩=>(by cases e),λh=>h.elim⟩)
theorem Hj{a:E}:wpE fns d (.not a) σ g X Q ↔ wpE fns d a σ g X λx g=>oh (tru x g) <| lk λc=>Q (.bl !c) g:=Ih.trans (wp_congr λx g=>aI)
theorem IL{a:E}:wpE fns d (.neg a) σ g X Q ↔ wpE fns d a σ g X λx g=>oh (match x with | .int i=>some i | _=>none) <| lk λi=>Q (.int (-i)) g:=HC.trans (wp_congr λx g=>by
 cases x with
 | int z=>exact ⟨λ⟨_,e,h⟩=>(by cases e;exact h),λh=>⟨z,rfl,h⟩⟩
 | _=>exact ⟨λ⟨_,e,h⟩=>(by cases e),λh=>h.elim⟩)
theorem JB{c a b:E}:wpE fns d (.ite c a b) σ g X Q ↔ wpT fns d c σ g X λk g=>bh k (lk (wpE fns d a σ g X Q)) (lk (wpE fns d b σ g X Q)):=Ju.trans (wp_congr λk g=>bC)
noncomputable def bI(n:Nat):Bool := @decide (n<=aj) (Classical.propDecidable _)
theorem jS{n:Nat}(h:n<=16777000):bI n=true:=by unfold bI;exact @decide_eq_true _ (Classical.propDecidable _) h
theorem oi{n:Nat}:bI n=true ↔ n<=aj:=by unfold bI;exact @decide_eq_true_iff _ (Classical.propDecidable _)
theorem vK{es:List E}:wpE fns d (.tup es) σ g X Q ↔ au fns d es σ g X λus g=>bh (bI us.length) (lk (Q (.tup us) g)) (lk False):=Ir.trans (wp_congr λus g=>by
 rw [<-oi,<-bC];by_cases h:bI us.length=true <;> simp [h])
theorem HI{es:List E}:wpE fns d (.lst es) σ g X Q ↔ au fns d es σ g X λus g=>bh (bI us.length) (lk (Q (.ref g.length) (g++[.lst us]))) (lk False):=HA.trans (wp_congr λus g=>by
 rw [<-oi,<-bC];by_cases h:bI us.length=true <;> simp [h])
theorem wB{a b:E}:wpE fns d (.idx a b) σ g X Q ↔ wpE fns d a σ g X λx g=>wpE fns d b σ g X λy g=>match y with | .tup us=>oh ((aB (.tup us) x g).bind id) <| lk λz=>Q z g | .str k=>oh ((asS x g).bind λkvs=>aX kvs k) <| lk λz=>Q z g | y=>oh (match y with | .int i=>some i | _=>none) <| lk λi=>oh (items x g) <| lk λxs=>oh (uix xs i) <| lk λz=>Q z g:=Iv.trans (wp_congr λx g=>wp_congr λy g=>by
 cases y with
 | int i =>
  constructor
  .rintro ⟨i',xs,z,e1,e2,e3,q⟩
   cases e1;show oh (items x g) (lk _);rw [e2];show oh (uix xs i) (lk _);rw [e3];exact q
  .intro h
   have h:oh (items x g) (lk λxs=>oh (uix xs i) (lk λz=>Q z g)):=h;obtain ⟨xs,e2,h⟩:=aI.2 h;obtain ⟨z,e3,h⟩:=aI.2 h;exact ⟨i,xs,z,rfl,e2,e3,h⟩
 | tup us =>
  show (∃ z,(aB (.tup us) x g).bind id=some z/\Q z g) ↔ oh ((aB (.tup us) x g).bind id) (lk λz=>Q z g);cases (aB (.tup us) x g).bind id with
  | none=>exact ⟨λ⟨_,e,_⟩=>(by cases e),λh=>False.elim h⟩
  | some z=>exact ⟨λ⟨_,e,q⟩=>(by cases e;exact q),λq=>⟨z,rfl,q⟩⟩
 | str k =>
  show (∃ z,(asS x g).bind (λkvs=>aX kvs k)=some z/\Q z g) ↔ oh ((asS x g).bind λkvs=>aX kvs k) (lk λz=>Q z g);cases (asS x g).bind (λkvs=>aX kvs k) with
  | none=>exact ⟨λ⟨_,e,_⟩=>(by cases e),λh=>False.elim h⟩
  | some z=>exact ⟨λ⟨_,e,q⟩=>(by cases e;exact q),λq=>⟨z,rfl,q⟩⟩
 | _=>exact ⟨λ⟨_,_,_,e,h⟩=>(by cases e),λh=>h.elim⟩)
noncomputable def fm(x:U)(g:G):Option (List U):=match x with
 | .ref n=>match g[n]? with
  | some (.lst xs)=>some xs
  | _=>none
 | _=>none
theorem Jf{a:E}:wpE fns d (.rev a) σ g X Q ↔ wpE fns d a σ g X λx g=>oh (fm x g) <| lk λxs=>Q (.ref g.length) (g++[.lst xs.reverse]):=Hv.trans (wp_congr λx g=>by
 cases x with
 | ref n =>
  simp only [fm];cases e:g[n]? with
  | none=>exact ⟨λ⟨_,_,e1,e2,_⟩=>(by cases e1;rw [e] at e2;cases e2),λh=>h.elim⟩
  | some o =>
   cases o with
   | lst xs=>exact ⟨λ⟨_,_,e1,e2,h⟩=>(by cases e1;rw [e] at e2;cases e2;exact h),λh=>⟨n,xs,rfl,e,h⟩⟩
   | _=>exact ⟨λ⟨_,_,e1,e2,_⟩=>(by cases e1;rw [e] at e2;cases e2),λh=>h.elim⟩
 | _=>exact ⟨λ⟨_,_,e,h⟩=>(by cases e),λh=>h.elim⟩)
theorem IE{a:E}{t:Ty}:wpE fns d (.isi a t) σ g X Q ↔ wpE fns d a σ g X λx g=>oh (aW t x g) <| lk λc=>Q (.bl c) g:=Hz.trans (wp_congr λx g=>aI)
theorem Jj{o v:E}:wpE fns d (.app o v) σ g X Q ↔ wpE fns d o σ g X λx g=>oh (asL x g) <| lk λk=>wpE fns d v σ g X λy g=>hk (bO k y g) X (lk Q):=Jn.trans (wp_congr λx g=>aI)
theorem GG{o v:E}:wpE fns d (.popi o v) σ g X Q ↔ wpE fns d o σ g X λx g=>oh (asL x g) <| lk λk=>wpE fns d v σ g X λy g=>hk (fY k y g) X (lk Q):=Eb.trans (wp_congr λx g=>aI)
theorem HS{o v:E}:wpE fns d (.ext o v) σ g X Q ↔ wpE fns d o σ g X λx g=>oh (asL x g) <| lk λk=>wpE fns d v σ g X λy g=>hk (cK k y g) X (lk Q):=Jb.trans (wp_congr λx g=>aI)
theorem IG{o:E}:wpE fns d (.pop o) σ g X Q ↔ wpE fns d o σ g X λx g=>oh (asL x g) <| lk λk=>hk (b8 k g) X (lk Q):=HR.trans (wp_congr λx g=>aI)
theorem EF{own:Nat}{fr:List Nat}{t:Tg}{it:E}{cs:List E}{rest:List (Tg×E×List E)}{k v:E}:wpE fns d (.dcmp own fr ((t,it,cs) :: rest) k v) σ g X Q ↔
  wpI fns d it σ g X λi g=>kM fns d i 0 t cs rest (.pair k v) [] (List.replicate own none++fr.map λj=>(σ[j]?).getD none) g (λ_ _ _=>False) (lk λus g=>oh (dfold us []) <| lk λkvs=>Q (.ref g.length) (g++[.dic kvs])):=by
 simp only [FO,aI];exact Iff.rfl
theorem GQ{k v:E}:wpE fns d (.pair k v) σ g X Q ↔ wpE fns d k σ g X λx g=>wpE fns d v σ g X λy g=>oh (keyOf x) <| lk λ_=>Q (.tup [x,y]) g:=by simp only [Gi,aI]
theorem II{o k x:E}:wpE fns d (.dgt o k x) σ g X Q ↔ wpE fns d o σ g X λy g=>oh (asD y g) <| lk λ_=>wpE fns d k σ g X λz g=>wpE fns d x σ g X λw g=>oh (aB z y g) <| lk λq=>Q (q.getD w) g:=by simp only [IA,aI]
theorem G9{own:Nat}{fr:List Nat}{t:Tg}{it:E}{cs:List E}{rest:List (Tg×E×List E)}{elt:E}:wpE fns d (.comp own fr ((t,it,cs) :: rest) elt) σ g X Q ↔
  wpI fns d it σ g X λi g=>kM fns d i 0 t cs rest elt [] (List.replicate own none++fr.map λj=>(σ[j]?).getD none) g (λ_ _ _=>False) (lk λus g=>us.length<=aj/\Q (.ref g.length) (g++[.lst us])):=FX
end
section
variable{Q:Bool->G->Prop}
theorem IS{a b:E}:wpT fns d (.and a b) σ g X Q ↔ wpT fns d a σ g X λk g=>bh k (lk (wpT fns d b σ g X Q)) (lk (Q false g)):=ID.trans (wp_congr λk g=>bC)
theorem JO{a b:E}:wpT fns d (.or a b) σ g X Q ↔ wpT fns d a σ g X λk g=>bh k (lk (Q true g)) (lk (wpT fns d b σ g X Q)):=JW.trans (wp_congr λk g=>bC)
theorem Iu{c a b:E}:wpT fns d (.ite c a b) σ g X Q ↔ wpT fns d c σ g X λk g=>bh k (lk (wpT fns d a σ g X Q)) (lk (wpT fns d b σ g X Q)):=Jk.trans (wp_congr λk g=>bC)
theorem t_e{e:E}(h:plainT e=true):wpT fns d e σ g X Q ↔ wpE fns d e σ g X λx g=>oh (tru x g) <| lk λc=>Q c g:=(T_e h).trans (wp_congr λx g=>aI)
theorem Fq{c:E}{cs:List E}:wpA fns d (c :: cs) σ g X Q ↔ wpT fns d c σ g X λk g=>bh k (lk (wpA fns d cs σ g X Q)) (lk (Q false g)):=ET.trans (wp_congr λk g=>bC)
end
section
variable{Q:Iter->G->Prop}
noncomputable def aE(j:Int):Bool := @decide (-1000000 < j/\j < 1000000) (Classical.propDecidable _)
theorem bM{j:Int}(h : -1000000 < j)(h':j < 1000000):aE j=true:=by unfold aE;exact @decide_eq_true _ (Classical.propDecidable _) ⟨h,h'⟩
theorem E6{a:E}:wpI fns d (.rng1 a) σ g X Q ↔ wpE fns d a σ g X λu g=>oh (match u with | .int i=>some i | _=>none) <| lk λj=>bh (aE j) (lk (Q (.rng 0 j.toNat) g)) (lk False):=D3.trans (wp_congr λu g=>by
 cases u with
 | int i =>
  show _ ↔ bh (aE i) (lk _) (lk _);by_cases h : -1000000 < i/\i < 1000000
  .rw [show aE i=true by unfold aE;exact @decide_eq_true _ (Classical.propDecidable _) h]
   exact ⟨λ⟨_,e,_,q⟩=>(by cases e;exact q),λq=>⟨i,rfl,h,q⟩⟩
  .rw [show aE i=false by unfold aE;exact @decide_eq_false _ (Classical.propDecidable _) h]
   exact ⟨λ⟨_,e,q,_⟩=>(by cases e;exact h q),λq=>q.elim⟩
 | _=>exact ⟨λ⟨_,e,h⟩=>(by cases e),λh=>h.elim⟩)
theorem EE{a b:E}:wpI fns d (.rng2 a b) σ g X Q ↔ wpE fns d a σ g X λu g=>wpE fns d b σ g X λw g=>oh (match u with | .int i=>some i | _=>none) <| lk λi=>oh (match w with | .int i=>some i | _=>none) <| lk λj=>bh (aE i && aE j) (lk (Q (.rng i (j - i).toNat) g)) (lk False):=Gc.trans (wp_congr λu g=>wp_congr λw g=>by
 cases u with
 | int i =>
  cases w with
  | int j =>
   show _ ↔ bh (aE i && aE j) (lk _) (lk _);by_cases h:(aE i && aE j)=true
   .rw [h]
    have h':=h;simp only [aE,Bool.and_eq_true,decide_eq_true_eq] at h';exact ⟨λ⟨_,_,e,e',_,q⟩=>(by cases e;cases e';exact q),λq=>⟨i,j,rfl,rfl,⟨h'.1.1,h'.1.2,h'.2.1,h'.2.2⟩,q⟩⟩
   .rw [Bool.not_eq_true] at h
    rw [h];exact ⟨λ⟨_,_,e,e',q,_⟩=>by cases e;cases e';simp [aE,q] at h,λq=>q.elim⟩
  | _=>exact ⟨λ⟨_,_,e,e',h⟩=>(by cases e'),λh=>h.elim⟩
 | _=>exact ⟨λ⟨_,_,e,h⟩=>(by cases e),λh=>h.elim⟩)
noncomputable def ff(u:U)(g:G):Option (Iter×G):=match u with
 | .tup xs=>some (.seq xs,g)
 | .xn _ xs=>some (.seq xs,g)
 | .ref n=>match g[n]? with
  | some (.lst _)=>some (.lst n,g)
  | some (.dic kvs)=>some (.dic n,g.set n (.dif kvs))
  | some (.dif _)=>some (.dic n,g)
  | _=>none
 | _=>none
theorem i_e{e:E}(h:iP e=true):wpI fns d e σ g X Q ↔ wpE fns d e σ g X λu g=>oh (ff u g) <| lk λp=>Q p.1 p.2:=(I_e h).trans (wp_congr λu g=>by
 cases u with
 | ref n =>
  simp only [ff];cases g[n]? with
  | none=>exact Iff.rfl
  | some o=>cases o <;> exact Iff.rfl
 | _=>exact Iff.rfl)
theorem HW{a:E}:wpI fns d (.enm a) σ g X Q ↔ wpE fns d a σ g X λu g=>oh (asL u g) <| lk λk=>Q (.enm k) g:=by simp only [HM,aI]
end
section
variable{Q:Fl->G->Prop}
theorem FK{s:S}{ss:List S}:wpS fns d (s :: ss) σ g X Q ↔ wp1 fns d s σ g X λf g=>fS f (lk (λσ'=>wpS fns d ss σ' g X Q)) (lk λf=>Q f g):=DY.trans (wp_congr λf g=>by cases f <;> exact Iff.rfl)
theorem FW{t:Tg}{e:E}:wp1 fns d (.set t e) σ g X Q ↔ wpE fns d e σ g X λu g=>oh (az t (unl t u g) σ) <| lk λσ'=>Q (.nx σ') g:=Jg.trans (wp_congr λx g=>aI)
theorem F0{i j:Nat}{a b:E}:wp1 fns d (.par i j a b) σ g X Q ↔ wpE fns d a σ g X λu g=>wpE fns d b σ g X λw g=>bh (decide (i < σ.length) && decide (j < σ.length)) (lk (Q (.nx ((σ.set i (some u)).set j (some w))) g)) (lk False):=Hk.trans (wp_congr λx g=>wp_congr λy g=>by
 by_cases h:i < σ.length <;> by_cases k:j < σ.length <;> simp [h,k,bh])
theorem Gv{o i:E}:wp1 fns d (.del o i) σ g X Q ↔ wpE fns d o σ g X λx g=>wpE fns d i σ g X λy g=>hk (gr x y σ g) X (lk Q):=Ii
theorem GK{o i e:E}:wp1 fns d (.sub o i e) σ g X Q ↔ wpE fns d e σ g X λu g=>wpE fns d o σ g X λx g=>wpE fns d i σ g X λy g=>hk (subAt x y u σ g) X (lk Q):=Iq
theorem Hc{i:Nat}{op:Op}{e:E}:wp1 fns d (.aug i op e) σ g X Q ↔ oh σ[i]? (lk λo=>oh o (lk λx=>wpE fns d e σ g X λy g=>oh (fg op x y) (lk λz=>Q (.nx (σ.set i (some z))) g))):=Js.trans (by
 cases σ[i]? with
 | none=>exact ⟨λ⟨_,e,_⟩=>(by cases e),λh=>h.elim⟩
 | some o=>cases o with
  | none=>exact ⟨λ⟨_,e,_⟩=>(by cases e),λh=>h.elim⟩
  | some a=>exact ⟨λ⟨_,e,h⟩=>by cases e;exact (wp_congr λy g=>aI).1 h,λh=>⟨a,rfl,(wp_congr λy g=>aI).2 h⟩⟩)
theorem Gm{c:E}{a b:List S}:wp1 fns d (.ife c a b) σ g X Q ↔ wpT fns d c σ g X λk g=>bh k (lk (wpS fns d a σ g X Q)) (lk (wpS fns d b σ g X Q)):=HY.trans (wp_congr λk g=>bC)
theorem DV{c:E}{b:List S}:wpW fns d c b σ g X Q ↔ wpT fns d c σ g X λk g=>bh k (lk (wpS fns d b σ g X λf g=>fL f (lk (λσ'=>wpW fns d c b σ' g X Q)) (lk λf=>Q f g))) (lk (Q (.nx σ) g)):=GI.trans (wp_congr λk g=>bC.trans (by
 cases k
 .exact Iff.rfl
 .exact wp_congr λf g=>by cases f <;> exact Iff.rfl))
theorem tQ{f:Nat}{F:Fn}{us:List U}{Q:U->G->Prop}(hf:fns[f]? = some F)(hl:us.length=F.np):wpC fns (d+1) f us g X Q ↔ wpS fns d F.body (us.map some++List.replicate (F.ns - us.length) none) g X λfl g=>fC fl <| lk λu=>Q u g:=(GN hf hl).trans (wp_congr λf g=>by cases f <;> exact Iff.rfl)
theorem eS{t:Tg}{it:Iter}{b:List S}(us:List U)(Inv:Nat->Su->G->Prop)
  (hn:∀ k σ g,Inv k σ g->next it k g=some us[k]?)
  (hs:∀ k u σ g,us[k]? = some u->Inv k σ g->oh (az t u σ) (lk λσ1=>wpS fns d b σ1 g X λf g=>fL f (lk (λσ'=>Inv (k+1) σ' g)) (lk λf=>Q f g)))
  (hq:∀ σ g,Inv us.length σ g->Q (.nx σ) g):∀ (n i:Nat) (σ:Su) (g:G),i+n=us.length->Inv i σ g->wpF fns d t it i b σ g X Q
 | 0,i,σ,g,e,h=>by
  have e:i=us.length:=by omega
  subst e;rw [kB];exact ⟨none,by rw [hn _ _ _ h];simp,hq _ _ h⟩
 | n+1,i,σ,g,e,h=>by
  have hi:i < us.length:=by omega
  rw [kB];obtain ⟨σ1,e1,w⟩:=aI.2 (hs i us[i] σ g (List.getElem?_eq_getElem hi) h);refine ⟨some us[i],by rw [hn _ _ _ h,List.getElem?_eq_getElem hi],σ1,e1,wp_mono w λf g q => ?_⟩
  cases f with
  | nx σ'=>exact eS us Inv hn hs hq n (i+1) σ' g (by omega) q
  | ct σ'=>exact eS us Inv hn hs hq n (i+1) σ' g (by omega) q
  | bk σ'=>exact q
  | rt u=>exact q
theorem kH{c:E}{b:List S}(Inv:Nat->Su->G->Prop)
  (hs:∀ n σ g,Inv n σ g->wpT fns d c σ g X λk g=>bh k (lk (wpS fns d b σ g X λf g=>fL f (lk (λσ' => ∃ m,m < n/\Inv m σ' g)) (lk λf=>Q f g))) (lk (Q (.nx σ) g))):∀ (n:Nat) (σ:Su) (g:G),Inv n σ g->wpW fns d c b σ g X Q:=by
 intro n
 induction n using Nat.strongRecOn with
 | _ n ih =>
  intro σ g h;rw [DV];refine wp_mono (hs n σ g h) λk g q => ?_;cases k
  .exact q
  .refine wp_mono q λf g q => ?_
   cases f with
   | nx σ'=>obtain ⟨m,hm,q⟩:=q;exact ih m hm _ _ q
   | ct σ'=>obtain ⟨m,hm,q⟩:=q;exact ih m hm _ _ q
   | bk σ'=>exact q
   | rt u=>exact q
end
noncomputable def oc{α:Type}(o:Option α){A:Prop}{Q:α->Prop}(_:Lk A)(_:Lk Q):Prop:=match o with
 | none=>A
 | some a=>Q a
theorem yR{α:Type}{A:Prop}{Q:α->Prop}:oc none (lk A) (lk Q)=A:=propext Iff.rfl
theorem yH{α:Type}{a:α}{A:Prop}{Q:α->Prop}:oc (some a) (lk A) (lk Q)=Q a:=propext Iff.rfl
theorem dO{t:Tg}{xs:List U}{i:Nat}{b:List S}{Q:Fl->G->Prop}:kF fns d t (.seq xs) i b σ g X (lk Q) ↔ oc xs[i]? (lk (Q (.nx σ) g)) (lk λu=>oh (az t u σ) (lk λσ1=>wpS fns d b σ1 g X λf g=>fL f (lk λσ'=>kF fns d t (.seq xs) (i+1) b σ' g X (lk Q)) (lk λf=>Q f g))):=by
 refine Iff.trans kB ?_;constructor
 .rintro ⟨o,e,h⟩
  cases e;cases e2:xs[i]? with
  | none=>rw [e2] at h;exact h
  | some u =>
   rw [e2] at h;obtain ⟨σ1,e1,h⟩:=h;refine aI.1 ⟨σ1,e1,wp_mono h λf g q => ?_⟩;cases f <;> exact q
 .intro h
  refine ⟨xs[i]?,rfl,?_⟩;cases e2:xs[i]? with
  | none=>rw [e2] at h;exact h
  | some u =>
   rw [e2] at h;obtain ⟨σ1,e1,h⟩:=aI.2 h;refine ⟨σ1,e1,wp_mono h λf g q => ?_⟩;cases f <;> exact q
end
section
variable{fns:List Fn}{d:Nat}{X:XP}{σ:Su}{g:G}
noncomputable abbrev nX:XP:=λ_ _ _=>False
theorem AK{α β:Type}{o:Out α}{k:α->G->Out β}:o.noex.bind k=o.bindB k:=by cases o <;> rfl
theorem B0{f:Nat}{es ks:List E}{pm:List (Nat ⊕ U)}{Q:U->G->Prop}:wpE fns d (.callk f es ks pm) σ g X Q ↔ au fns d es σ g nX λus g=>au fns d ks σ g nX λws g=>us.length=es.length/\ws.length=ks.length/\kC fns d f (perm (us++ws) pm) g X (lk Q):=by
 refine aD.trans ?_;simp only [evF,AK];have hm:∀ (us ws:List U) (g:G),aJ λn=>if us.length=es.length/\ws.length=ks.length then aa fns n d f (perm (us++ws) pm) g else .bad:=λus ws g=>by
  split
  .exact mC _ _ _
  .exact mK _
 refine (cB (mEs _ _ _) λus g=>mBB (mEs _ _ _) λws g=>hm us ws g).trans (wp_congr λus g => ?_);refine (cB (mEs _ _ _) λws g=>hm us ws g).trans (wp_congr λws g => ?_);split
 .rename_i h;exact ⟨λq=>⟨h.1,h.2,q⟩,λq=>q.2.2⟩
 .rename_i h;exact ⟨λ⟨_,q⟩=>q.elim,λq=>(h ⟨q.1,q.2.1⟩).elim⟩
end
noncomputable def bj(f:E->Su->Option U):List E->Su->Option (List U)
 | [],_=>some []
 | e :: es,σ=>match f e σ with
  | some u=>match bj f es σ with
   | some us=>some (u :: us)
   | none=>none
  | none=>none
noncomputable def dj(x y:Option U):Option U:=match x with
 | some (.int i)=>match y with
  | some (.int j)=>some (.int (i+j))
  | _=>none
 | _=>none
noncomputable def dS(x y:Option U):Option U:=match x with
 | some (.int i)=>match y with
  | some (.int j)=>some (.int (i - j))
  | _=>none
 | _=>none
noncomputable def tupP(x:Option (List U)):Option U:=match x with
 | some us=>match Nat.ble us.length 1000 with
  | true=>some (.tup us)
  | false=>none
 | none=>none
noncomputable def ixP(x:Option U)(k:Int):Option U:=match x with
 | some (.tup xs)=>uix xs k
 | _=>none
noncomputable def lI(o:Option (Option U)):Option U:=match o with
 | some o=>o
 | none=>none
noncomputable def evP:Nat->E->Su->Option U
 | 0,_,_=>none
 | n+1,e,σ=>match e with
  | .var i=>lI σ[i]?
  | .cst u=>some u
  | .tup es=>tupP (bj (evP n) es σ)
  | .bin .add a b=>dj (evP n a σ) (evP n b σ)
  | .bin .sub a b=>dS (evP n a σ) (evP n b σ)
  | .idx a (.cst (.int k))=>ixP (evP n a σ) k
  | _=>none
section
variable{fns:List Fn}{d:Nat}{X:XP}{σ:Su}{g:G}
theorem pEs{f:E->Su->Option U}(hf:∀ e u (Q:U->G->Prop),f e σ=some u->(wpE fns d e σ g X Q ↔ Q u g)):∀ (es:List E) (us:List U) (Q:List U->G->Prop),bj f es σ=some us->(au fns d es σ g X Q ↔ Q us g)
 | [],us,Q,h=>by cases h;exact t7
 | e :: es,us,Q,h=>by
  cases he:f e σ with
  | none=>simp only [bj,he] at h;cases h
  | some u =>
   cases hs:bj f es σ with
   | none=>simp only [bj,he,hs] at h;cases h
   | some us' =>
    simp only [bj,he,hs] at h;cases h;exact pT.trans ((hf e u _ he).trans (pEs hf es us' _ hs))
theorem xa{op:Op}{f:Option U->Option U->Option U}{a b:E}{x y:Option U}{u:U}{Q:U->G->Prop}(ha:∀ u (Q:U->G->Prop),x=some u->(wpE fns d a σ g X Q ↔ Q u g))(hb:∀ u (Q:U->G->Prop),y=some u->(wpE fns d b σ g X Q ↔ Q u g))(hf:f x y=some u)(k:∀ u,f x y=some u -> ∃ i j,x=some (.int i)/\y=some (.int j)/\op2 op (.int i) (.int j)=some u):wpE fns d (.bin op a b) σ g X Q ↔ Q u g:=by
 obtain ⟨i,j,e1,e2,e3⟩:=k u hf;refine vU.trans ((ha _ _ e1).trans ((hb _ _ e2).trans ?_));rw [yw,e3,iw]
theorem pE:∀ (n:Nat) (e:E) (u:U) (Q:U->G->Prop),evP n e σ=some u->(wpE fns d e σ g X Q ↔ Q u g)
 | 0,_,_,_,h=>by cases h
 | n+1,e,u,Q,h=>by
  have ih:=pE n;unfold evP at h;split at h
  .rename_i i
   refine vP.trans ?_;cases hs:σ[i]? with
   | none=>rw [hs] at h;cases h
   | some o=>rw [hs] at h;have h:o=some u:=h;subst h;exact Iff.rfl
  .cases h;exact w8
  .rename_i es
   cases hs:bj (evP n) es σ with
   | none=>rw [hs] at h;cases h
   | some us =>
    rw [hs] at h;simp only [tupP] at h;cases hb:Nat.ble us.length 1000 with
    | true =>
     rw [hb] at h;cases h;refine vK.trans ((pEs (λe u Q h=>ih e u Q h) es us _ hs).trans ?_);rw [jS (by have:=Nat.le_of_ble_eq_true hb;omega),k8]
    | false=>rw [hb] at h;cases h
  .rename_i a b
   refine xa (f:=dj) (λu Q h=>ih a u Q h) (λu Q h=>ih b u Q h) h λu h => ?_;unfold dj at h;split at h
   .split at h
    .cases h;exact ⟨_,_,‹_›,‹_›,rfl⟩
    .cases h
   .cases h
  .rename_i a b
   refine xa (f:=dS) (λu Q h=>ih a u Q h) (λu Q h=>ih b u Q h) h λu h => ?_;unfold dS at h;split at h
   .split at h
    .cases h;exact ⟨_,_,‹_›,‹_›,rfl⟩
    .cases h
   .cases h
  .rename_i a k
   cases ha:evP n a σ with
   | none=>rw [ha] at h;cases h
   | some x =>
    rw [ha] at h;refine wB.trans ((ih a x _ ha).trans (w8.trans ?_));cases x with
    | tup xs =>
     have h:uix xs k=some u:=h;show oh (uix xs k) (lk _) ↔ _;rw [h,iw]
    | _=>cases h
  .cases h
noncomputable def nE(fns:List Fn)(d:Nat)(e:E)(σ:Su)(g:G)(X:XP)(Q:U->G->Prop):Prop:=wpE fns d e σ g X Q
noncomputable def nEs(fns:List Fn)(d:Nat)(es:List E)(σ:Su)(g:G)(X:XP)(Q:List U->G->Prop):Prop:=au fns d es σ g X Q
theorem p_E{e:E}{Q:U->G->Prop}:wpE fns d e σ g X Q=oc (evP 8 e σ) (lk (nE fns d e σ g X Q)) (lk λu=>Q u g):=propext (by
 cases h:evP 8 e σ with
 | none=>exact Iff.rfl
 | some u=>exact pE 8 e u Q h)
theorem JF{es:List E}{Q:List U->G->Prop}:au fns d es σ g X Q=oc (bj (evP 8) es σ) (lk (nEs fns d es σ g X Q)) (lk λus=>Q us g):=propext (by
 cases h:bj (evP 8) es σ with
 | none=>exact Iff.rfl
 | some us=>exact pEs (λe u Q h=>pE 8 e u Q h) es us Q h)
theorem qx{own:Nat}{fr:List Nat}{t:Tg}{it:E}{cs:List E}{rest:List (Tg×E×List E)}{k v:E}{Q:U->G->Prop}:nE fns d (.dcmp own fr ((t,it,cs) :: rest) k v) σ g X Q ↔ wpI fns d it σ g X λi g=>kM fns d i 0 t cs rest (.pair k v) [] (List.replicate own none++fr.map λj=>(σ[j]?).getD none) g (λ_ _ _=>False) (lk λus g=>oh (dfold us []) <| lk λkvs=>Q (.ref g.length) (g++[.dic kvs])):=EF
theorem qQ{k v:E}{Q:U->G->Prop}:nE fns d (.pair k v) σ g X Q ↔ wpE fns d k σ g X λx g=>wpE fns d v σ g X λy g=>oh (keyOf x) <| lk λ_=>Q (.tup [x,y]) g:=GQ
theorem rJ{o k x:E}{Q:U->G->Prop}:nE fns d (.dgt o k x) σ g X Q ↔ wpE fns d o σ g X λy g=>oh (asD y g) <| lk λ_=>wpE fns d k σ g X λz g=>wpE fns d x σ g X λw g=>oh (aB z y g) <| lk λq=>Q (q.getD w) g:=II
theorem qf{own:Nat}{fr:List Nat}{t:Tg}{it:E}{cs:List E}{rest:List (Tg×E×List E)}{elt:E}{Q:U->G->Prop}:nE fns d (.comp own fr ((t,it,cs) :: rest) elt) σ g X Q ↔ wpI fns d it σ g X λi g=>kM fns d i 0 t cs rest elt [] (List.replicate own none++fr.map λj=>(σ[j]?).getD none) g (λ_ _ _=>False) (lk λus g=>us.length<=aj/\Q (.ref g.length) (g++[.lst us])):=G9
theorem rg{ks:List PySem.Str}{es:List E}{Q:U->G->Prop}:nE fns d (.ddsp ks es) σ g X Q ↔ au fns d es σ g X λus g=>Q (.ref g.length) (g++[.dst (ks.zip us)]):=Ed
theorem ql{Q:U->G->Prop}:nE fns d .dnew σ g X Q ↔ Q (.ref g.length) (g++[.dic []]):=Gn
theorem G3{i:Nat}{Q:U->G->Prop}:nE fns d (.var i) σ g X Q ↔ oh σ[i]? (lk λo=>oh o (lk λu=>Q u g)):=vP
end
section
variable{n:Nat}{σ:Su}
theorem vF{f:E->Su->Option U}:bj f [] σ=some []:=rfl
theorem tV{f:E->Su->Option U}{e:E}{es:List E}:bj f (e :: es) σ=match f e σ with
  | some u=>match bj f es σ with
   | some us=>some (u :: us)
   | none=>none
  | none=>none:=rfl
theorem vQ{i:Nat}:evP (n+1) (.var i) σ=lI σ[i]? := rfl
theorem xc{u:U}:evP (n+1) (.cst u) σ=some u:=rfl
theorem vY{es:List E}:evP (n+1) (.tup es) σ=tupP (bj (evP n) es σ):=rfl
theorem u9{a b:E}:evP (n+1) (.bin .add a b) σ=dj (evP n a σ) (evP n b σ):=rfl
theorem vt{a b:E}:evP (n+1) (.bin .sub a b) σ=dS (evP n a σ) (evP n b σ):=rfl
theorem wO{a:E}{k:Int}:evP (n+1) (.idx a (.cst (.int k))) σ=ixP (evP n a σ) k:=rfl
theorem ud{o:Option U}:lI (some o)=o:=rfl
theorem uU{a:U}:tupP (some [a])=some (.tup [a]):=rfl
theorem su{a b:U}:tupP (some [a,b])=some (.tup [a,b]):=rfl
theorem uQ{a b c:U}:tupP (some [a,b,c])=some (.tup [a,b,c]):=rfl
theorem so{a b c d:U}:tupP (some [a,b,c,d])=some (.tup [a,b,c,d]):=rfl
theorem rm{a b c d e:U}:tupP (some [a,b,c,d,e])=some (.tup [a,b,c,d,e]):=rfl
theorem tZ{a b c d e f:U}:tupP (some [a,b,c,d,e,f])=some (.tup [a,b,c,d,e,f]):=rfl
theorem rB{a b c d e f g:U}:tupP (some [a,b,c,d,e,f,g])=some (.tup [a,b,c,d,e,f,g]):=rfl
theorem rQ{a b c d e f g h:U}:tupP (some [a,b,c,d,e,f,g,h])=some (.tup [a,b,c,d,e,f,g,h]):=rfl
theorem tJ:tupP none=none:=rfl
theorem sF{i j:Int}:dj (some (.int i)) (some (.int j))=some (.int (i+j)):=rfl
theorem rq{i j:Int}:dS (some (.int i)) (some (.int j))=some (.int (i - j)):=rfl
theorem tP{y:Option U}:dj none y=none:=rfl
theorem rC{y:Option U}:dS none y=none:=rfl
theorem uq{i:Int}:dj (some (.int i)) none=none:=rfl
theorem s8{i:Int}:dS (some (.int i)) none=none:=rfl
theorem uA{i:Nat}{y:Option U}:dj (some (.ref i)) y=none:=rfl
theorem wU{xs:List U}{k:Int}:ixP (some (.tup xs)) k=uix xs k:=rfl
theorem vp{n:Nat}{k:Int}:ixP (some (.ref n)) k=none:=rfl
theorem wG{xs:List U}{k:Int}:ixP (some (.fro xs)) k=none:=rfl
theorem wF{c:Nat}{xs:List U}{k:Int}:ixP (some (.xn c xs)) k=none:=rfl
theorem xj{k:Int}:ixP none k=none:=rfl
theorem vM{a b:E}:evP (n+1) (.bin .mul a b) σ=none:=rfl
theorem tH{a b:E}:evP (n+1) (.bin .fdiv a b) σ=none:=rfl
theorem wY{a b:E}:evP (n+1) (.bin .mod a b) σ=none:=rfl
theorem vW{a b:E}:evP (n+1) (.bin .pow a b) σ=none:=rfl
theorem va{o:Cp}{a b:E}:evP (n+1) (.cmp o a b) σ=none:=rfl
theorem qy{o q:Cp}{a b c:E}:evP (n+1) (.chain o q a b c) σ=none:=rfl
theorem wJ{a b:E}:evP (n+1) (.and a b) σ=none:=rfl
theorem yF{a b:E}:evP (n+1) (.or a b) σ=none:=rfl
theorem wa{a:E}:evP (n+1) (.not a) σ=none:=rfl
theorem xG{a:E}:evP (n+1) (.neg a) σ=none:=rfl
theorem wK{c a b:E}:evP (n+1) (.ite c a b) σ=none:=rfl
theorem wM{es:List E}:evP (n+1) (.lst es) σ=none:=rfl
theorem vq{a:E}{lo hi:Option E}:evP (n+1) (.slc a lo hi) σ=none:=rfl
theorem wd{a:E}:evP (n+1) (.rev a) σ=none:=rfl
theorem u0{f:Nat}{es:List E}:evP (n+1) (.call f es) σ=none:=rfl
theorem v3{a:E}{j:Nat}{cs:List Nat}:evP (n+1) (.fld a j cs) σ=none:=rfl
theorem pW{f:Nat}{es ks:List E}{pm:List (Nat ⊕ U)}:evP (n+1) (.callk f es ks pm) σ=none:=rfl
theorem sN{c f:Nat}{es ks:List E}{pm:List (Nat ⊕ U)}:evP (n+1) (.make c f es ks pm) σ=none:=rfl
theorem sG{a:E}{j:Nat}{tb:List (Nat×Nat×List (Nat ⊕ U))}{es ks:List E}:evP (n+1) (.meth a j tb es ks) σ=none:=rfl
theorem uc{a:E}:evP (n+1) (.revm a) σ=none:=rfl
theorem yr{b:Bi}{es:List E}:evP (n+1) (.bi b es) σ=none:=rfl
theorem xy{a:E}{t:Ty}:evP (n+1) (.isi a t) σ=none:=rfl
theorem xr{o v:E}:evP (n+1) (.app o v) σ=none:=rfl
theorem tS{o v:E}:evP (n+1) (.popi o v) σ=none:=rfl
theorem vz{o v:E}:evP (n+1) (.ext o v) σ=none:=rfl
theorem wN{o:E}:evP (n+1) (.pop o) σ=none:=rfl
theorem uJ  : evP (n+1) .dnew σ=none:=rfl
theorem uL{m:Nat}{fr:List Nat}{gs:List (Tg×E×List E)}{e:E}:evP (n+1) (.comp m fr gs e) σ=none:=rfl
theorem tD{ks:List PySem.Str}{es:List E}:evP (n+1) (.ddsp ks es) σ=none:=rfl
theorem v8{o k x:E}:evP (n+1) (.dgt o k x) σ=none:=rfl
theorem rG{k v:E}:evP (n+1) (.pair k v) σ=none:=rfl
theorem uZ{m:Nat}{fr:List Nat}{gs:List (Tg×E×List E)}{k v:E}:evP (n+1) (.dcmp m fr gs k v) σ=none:=rfl
theorem v5{a:E}{i:Nat}:evP (n+1) (.idx a (.var i)) σ=none:=rfl
theorem wc{a:E}{f:Nat}{es:List E}:evP (n+1) (.idx a (.call f es)) σ=none:=rfl
theorem wR{a:E}{es:List E}:evP (n+1) (.idx a (.tup es)) σ=none:=rfl
theorem wo{a b c:E}{o:Op}:evP (n+1) (.idx a (.bin o b c)) σ=none:=rfl
theorem xk{a:E}{s:PySem.Str}:evP (n+1) (.idx a (.cst (.str s))) σ=none:=rfl
theorem xE{a b c:E}:evP (n+1) (.idx a (.idx b c)) σ=none:=rfl
theorem xp{a b:E}:evP (n+1) (.idx a (.neg b)) σ=none:=rfl
end
section
variable{fns:List Fn}{d:Nat}{X:XP}{σ:Su}{g:G}{Q:U->G->Prop}{QF:Fl->G->Prop}{QB:Bool->G->Prop}{QI:Iter->G->Prop}{QL:List U->G->Prop}{QO:Option Int->G->Prop}{op:Op}{cp:Cp}{cq:Cp}{a:E}{b:E}{c:E}{e:E}{it:E}{o:E}{v:E}{i:Nat}{j:Nat}{k:Nat}{f:Nat}{cc:Nat}{cs:List Nat}{es:List E}{ks:List E}{pm:List (Nat ⊕ U)}{tb:List (Nat×Nat×List (Nat ⊕ U))}{p:Nat×List (Nat ⊕ U)}{x:U}{y:U}{u:U}{w:U}{us:List U}{ws:List U}{xs:List U}{lo:Option E}{hi:Option E}{l:Option Int}{h:Option Int}{t:Tg}{ty:Ty}{z:Bool}{n:Int}{s:S}{ss:List S}{A:List S}{B:List S}{ao:Op}{st:Su}{bb:Bi}{it2:Iter}{pq:Iter×G}{g2:G}{nn:Nat}{ces:List E}{os:Option U}
noncomputable def KV{α:Type}(g:G)(Q:α->G->Prop)(a:α):Prop:=Q a g
theorem Kh{α:Type}{g:G}{Q:α->G->Prop}{a:α}:oh (some a) (lk (KV g Q))=Q a g:=propext Iff.rfl
theorem Km{α:Type}{g:G}{Q:α->G->Prop}{a:α}{A:Prop}:oc (some a) (lk A) (lk (KV g Q))=Q a g:=propext Iff.rfl
theorem JC{α:Type}{g:G}{Q:α->G->Prop}{A:Prop}:oc none (lk A) (lk (KV g Q))=A:=propext Iff.rfl
theorem yC{α:Type}{g:G}{Q:α->G->Prop}{a:α}:KV g Q a=Q a g:=propext Iff.rfl
theorem k_E  : wpE fns d e σ g X Q=oc (evP 8 e σ) (lk (nE fns d e σ g X Q)) (lk (KV g Q)):=p_E
theorem xT  : au fns d es σ g X QL=oc (bj (evP 8) es σ) (lk (nEs fns d es σ g X QL)) (lk (KV g QL)):=JF
noncomputable def KB(g:G)(Q:U->G->Prop)(z:Bool):Prop:=Q (.bl z) g
theorem Kg  : oh (some z) (lk (KB g Q))=(Q (.bl z) g):=propext Iff.rfl
theorem xR  : KB g Q z=(Q (.bl z) g):=propext Iff.rfl
noncomputable def Kl2(u:U)(QL:List U->G->Prop)(us:List U)(g:G):Prop:=QL (u :: us) g
theorem wZ  : Kl2 u QL us g=(QL (u :: us) g):=propext Iff.rfl
noncomputable def Kl1(fns:List Fn)(d:Nat)(es:List E)(σ:Su)(X:XP)(QL:List U->G->Prop)(u:U)(g:G):Prop:=au fns d es σ g X (Kl2 u QL)
theorem vD  : Kl1 fns d es σ X QL u g=(au fns d es σ g X (Kl2 u QL)):=propext Iff.rfl
theorem G6  : nEs fns d [] σ g X QL ↔ QL [] g:=t7
theorem rl  : nEs fns d (e :: es) σ g X QL ↔ wpE fns d e σ g X (Kl1 fns d es σ X QL):=pT
noncomputable def kK(op:Op)(x:U)(X:XP)(Q:U->G->Prop)(y:U)(g:G):Prop:=ob op x y g X (lk Q)
theorem qz  : kK op x X Q y g=(ob op x y g X (lk Q)):=propext Iff.rfl
noncomputable def vV(fns:List Fn)(d:Nat)(op:Op)(b:E)(σ:Su)(X:XP)(Q:U->G->Prop)(x:U)(g:G):Prop:=wpE fns d b σ g X (kK op x X Q)
theorem qm  : vV fns d op b σ X Q x g=(wpE fns d b σ g X (kK op x X Q)):=propext Iff.rfl
theorem wQ  : nE fns d (.bin op a b) σ g X Q ↔ wpE fns d a σ g X (vV fns d op b σ X Q):=vU
theorem yt{op:Op}{i:Int}{y:U}{g:G}{X:XP}{Q:U->G->Prop}:ob op (.int i) y g X (lk Q)=oh (op2 op (.int i) y) (lk (KV g Q)):=yw
noncomputable def eY(cp:Cp)(x:U)(Q:U->G->Prop)(y:U)(g:G):Prop:=oh (cmp2 cp x y g) (lk (KB g Q))
theorem qi  : eY cp x Q y g=(oh (cmp2 cp x y g) (lk (KB g Q))):=propext Iff.rfl
noncomputable def vc(fns:List Fn)(d:Nat)(cp:Cp)(b:E)(σ:Su)(X:XP)(Q:U->G->Prop)(x:U)(g:G):Prop:=wpE fns d b σ g X (eY cp x Q)
theorem qv  : vc fns d cp b σ X Q x g=(wpE fns d b σ g X (eY cp x Q)):=propext Iff.rfl
theorem xh  : nE fns d (.cmp cp a b) σ g X Q ↔ wpE fns d a σ g X (vc fns d cp b σ X Q):=Im
noncomputable def jk(fns:List Fn)(d:Nat)(cq:Cp)(y:U)(c:E)(σ:Su)(g:G)(X:XP)(Q:U->G->Prop)(z:Bool):Prop:=bh z (lk (wpE fns d c σ g X (eY cq y Q))) (lk (Q (.bl false) g))
theorem GR  : oh (some z) (lk (jk fns d cq y c σ g X Q))=(bh z (lk (wpE fns d c σ g X (eY cq y Q))) (lk (Q (.bl false) g))):=propext Iff.rfl
theorem tN  : jk fns d cq y c σ g X Q z=(bh z (lk (wpE fns d c σ g X (eY cq y Q))) (lk (Q (.bl false) g))):=propext Iff.rfl
noncomputable def lH(fns:List Fn)(d:Nat)(cp:Cp)(cq:Cp)(x:U)(c:E)(σ:Su)(X:XP)(Q:U->G->Prop)(y:U)(g:G):Prop:=oh (cmp2 cp x y g) (lk (jk fns d cq y c σ g X Q))
theorem tU  : lH fns d cp cq x c σ X Q y g=(oh (cmp2 cp x y g) (lk (jk fns d cq y c σ g X Q))):=propext Iff.rfl
noncomputable def xS(fns:List Fn)(d:Nat)(cp:Cp)(cq:Cp)(b:E)(c:E)(σ:Su)(X:XP)(Q:U->G->Prop)(x:U)(g:G):Prop:=wpE fns d b σ g X (lH fns d cp cq x c σ X Q)
theorem tY  : xS fns d cp cq b c σ X Q x g=(wpE fns d b σ g X (lH fns d cp cq x c σ X Q)):=propext Iff.rfl
theorem qc  : nE fns d (.chain cp cq a b c) σ g X Q ↔ wpE fns d a σ g X (xS fns d cp cq b c σ X Q):=Cy
noncomputable def yS(fns:List Fn)(d:Nat)(b:E)(σ:Su)(X:XP)(Q:U->G->Prop)(x:U)(g:G):Prop:=oh (match x with | .bl z=>some z | _=>none) <| lk λz=>bh z (lk (wpE fns d b σ g X Q)) (lk (Q (.bl false) g))
theorem tf{fns:List Fn}{d:Nat}{b:E}{σ:Su}{X:XP}{Q:U->G->Prop}{z:Bool}{g:G}:yS fns d b σ X Q (.bl z) g=bh z (lk (wpE fns d b σ g X Q)) (lk (Q (.bl false) g)):=propext Iff.rfl
theorem vE  : nE fns d (.and a b) σ g X Q ↔ wpE fns d a σ g X (yS fns d b σ X Q):=IW
noncomputable def Kor(fns:List Fn)(d:Nat)(b:E)(σ:Su)(X:XP)(Q:U->G->Prop)(x:U)(g:G):Prop:=oh (match x with | .bl z=>some z | _=>none) <| lk λz=>bh z (lk (Q (.bl true) g)) (lk (wpE fns d b σ g X Q))
theorem Ja{fns:List Fn}{d:Nat}{b:E}{σ:Su}{X:XP}{Q:U->G->Prop}{z:Bool}{g:G}:Kor fns d b σ X Q (.bl z) g=bh z (lk (Q (.bl true) g)) (lk (wpE fns d b σ g X Q)):=propext Iff.rfl
theorem J1  : nE fns d (.or a b) σ g X Q ↔ wpE fns d a σ g X (Kor fns d b σ X Q):=JG
noncomputable def Knt(g:G)(Q:U->G->Prop)(z:Bool):Prop:=Q (.bl !z) g
theorem IV  : oh (some z) (lk (Knt g Q))=(Q (.bl !z) g):=propext Iff.rfl
theorem xx  : Knt g Q z=(Q (.bl !z) g):=propext Iff.rfl
noncomputable def x8(Q:U->G->Prop)(x:U)(g:G):Prop:=oh (tru x g) (lk (Knt g Q))
theorem uB  : x8 Q x g=(oh (tru x g) (lk (Knt g Q))):=propext Iff.rfl
theorem xK  : nE fns d (.not a) σ g X Q ↔ wpE fns d a σ g X (x8 Q):=Hj
noncomputable def yV(Q:U->G->Prop)(x:U)(g:G):Prop:=oh (match x with | .int i=>some i | _=>none) <| lk λi=>Q (.int (-i)) g
theorem sS{Q:U->G->Prop}{i:Int}{g:G}:yV Q (.int i) g=Q (.int (-i)) g:=propext Iff.rfl
theorem vw  : nE fns d (.neg a) σ g X Q ↔ wpE fns d a σ g X (yV Q):=IL
noncomputable def xV(fns:List Fn)(d:Nat)(a:E)(b:E)(σ:Su)(X:XP)(Q:U->G->Prop)(z:Bool)(g:G):Prop:=bh z (lk (wpE fns d a σ g X Q)) (lk (wpE fns d b σ g X Q))
theorem D1  : xV fns d a b σ X Q z g=(bh z (lk (wpE fns d a σ g X Q)) (lk (wpE fns d b σ g X Q))):=propext Iff.rfl
theorem IU  : nE fns d (.ite c a b) σ g X Q ↔ wpT fns d c σ g X (xV fns d a b σ X Q):=JB
noncomputable def xQ(Q:U->G->Prop)(us:List U)(g:G):Prop:=bh (bI us.length) (lk (Q (.tup us) g)) (lk False)
theorem uv  : xQ Q us g=(bh (bI us.length) (lk (Q (.tup us) g)) (lk False)):=propext Iff.rfl
theorem xb  : nE fns d (.tup es) σ g X Q ↔ au fns d es σ g X (xQ Q):=vK
noncomputable def yM(Q:U->G->Prop)(us:List U)(g:G):Prop:=bh (bI us.length) (lk (Q (.ref g.length) (g++[.lst us]))) (lk False)
theorem uD  : yM Q us g=(bh (bI us.length) (lk (Q (.ref g.length) (g++[.lst us]))) (lk False)):=propext Iff.rfl
theorem wq  : nE fns d (.lst es) σ g X Q ↔ au fns d es σ g X (yM Q):=HI
noncomputable def lj(i:Int)(g:G)(Q:U->G->Prop)(xs:List U):Prop:=oh (uix xs i) (lk (KV g Q))
theorem GH{i:Int}{g:G}{Q:U->G->Prop}{xs:List U}:oh (some xs) (lk (lj i g Q))=oh (uix xs i) (lk (KV g Q)):=propext Iff.rfl
theorem uE{i:Int}{g:G}{Q:U->G->Prop}{xs:List U}:lj i g Q xs=oh (uix xs i) (lk (KV g Q)):=propext Iff.rfl
noncomputable def gx(x:U)(Q:U->G->Prop)(y:U)(g:G):Prop:=match y with | .tup us=>oh ((aB (.tup us) x g).bind id) <| lk λz=>Q z g | .str k=>oh ((asS x g).bind λkvs=>aX kvs k) <| lk λz=>Q z g | y=>oh (match y with | .int i=>some i | _=>none) <| lk λi=>oh (items x g) <| lk λxs=>oh (uix xs i) <| lk λz=>Q z g
theorem u5{x:U}{Q:U->G->Prop}{i:Int}{g:G}:gx x Q (.int i) g=oh (items x g) (lk (lj i g Q)):=propext Iff.rfl
theorem rY{x:U}{Q:U->G->Prop}{us:List U}{g:G}:gx x Q (.tup us) g=oh ((aB (.tup us) x g).bind id) (lk (KV g Q)):=propext Iff.rfl
theorem tF{x:U}{Q:U->G->Prop}{k:PySem.Str}{g:G}:gx x Q (.str k) g=oh ((asS x g).bind λkvs=>aX kvs k) (lk (KV g Q)):=propext Iff.rfl
noncomputable def xY(fns:List Fn)(d:Nat)(b:E)(σ:Su)(X:XP)(Q:U->G->Prop)(x:U)(g:G):Prop:=wpE fns d b σ g X (gx x Q)
theorem rS  : xY fns d b σ X Q x g=(wpE fns d b σ g X (gx x Q)):=propext Iff.rfl
theorem ve  : nE fns d (.idx a b) σ g X Q ↔ wpE fns d a σ g X (xY fns d b σ X Q):=wB
noncomputable def kS(x:U)(l:Option Int)(X:XP)(Q:U->G->Prop)(h:Option Int)(g:G):Prop:=hk (gw x l h g) X (lk Q)
theorem uf  : kS x l X Q h g=(hk (gw x l h g) X (lk Q)):=propext Iff.rfl
noncomputable def kX(fns:List Fn)(d:Nat)(x:U)(hi:Option E)(σ:Su)(X:XP)(Q:U->G->Prop)(l:Option Int)(g:G):Prop:=wpO fns d hi σ g X (kS x l X Q)
theorem tR  : kX fns d x hi σ X Q l g=(wpO fns d hi σ g X (kS x l X Q)):=propext Iff.rfl
noncomputable def yI(fns:List Fn)(d:Nat)(lo:Option E)(hi:Option E)(σ:Su)(X:XP)(Q:U->G->Prop)(x:U)(g:G):Prop:=wpO fns d lo σ g X (kX fns d x hi σ X Q)
theorem sY  : yI fns d lo hi σ X Q x g=(wpO fns d lo σ g X (kX fns d x hi σ X Q)):=propext Iff.rfl
theorem vC  : nE fns d (.slc a lo hi) σ g X Q ↔ wpE fns d a σ g X (yI fns d lo hi σ X Q):=IT
noncomputable def iR(g:G)(Q:U->G->Prop)(xs:List U):Prop:=Q (.ref g.length) (g++[.lst xs.reverse])
theorem Ci{g:G}{Q:U->G->Prop}{xs:List U}:oh (some xs) (lk (iR g Q))=Q (.ref g.length) (g++[.lst xs.reverse]):=propext Iff.rfl
theorem pV{g:G}{Q:U->G->Prop}{xs:List U}:iR g Q xs=Q (.ref g.length) (g++[.lst xs.reverse]):=propext Iff.rfl
noncomputable def yY(Q:U->G->Prop)(x:U)(g:G):Prop:=oh (fm x g) (lk (iR g Q))
theorem s9  : yY Q x g=(oh (fm x g) (lk (iR g Q))):=propext Iff.rfl
theorem vA  : nE fns d (.rev a) σ g X Q ↔ wpE fns d a σ g X (yY Q):=Jf
noncomputable def wk(fns:List Fn)(d:Nat)(f:Nat)(X:XP)(Q:U->G->Prop)(us:List U)(g:G):Prop:=kC fns d f us g X (lk Q)
theorem qF  : wk fns d f X Q us g=(kC fns d f us g X (lk Q)):=propext Iff.rfl
theorem sE  : nE fns d (.call f es) σ g X Q ↔ au fns d es σ g X (wk fns d f X Q):=Fp
noncomputable def yT(j:Nat)(cs:List Nat)(Q:U->G->Prop)(x:U)(g:G):Prop:=oh ((a8 x g).bind (c8 j cs)) (lk (KV g Q))
theorem uK  : yT j cs Q x g=(oh ((a8 x g).bind (c8 j cs)) (lk (KV g Q))):=propext Iff.rfl
theorem vR  : nE fns d (.fld a j cs) σ g X Q ↔ wpE fns d a σ g X (yT j cs Q):=Jm
noncomputable def lB(nn:Nat)(Q:U->G->Prop)(u:U)(g:G):Prop:=aU u=true/\Q (.ref nn) g
theorem t9  : lB nn Q u g=(aU u=true/\Q (.ref nn) g):=propext Iff.rfl
noncomputable def kT(fns:List Fn)(d:Nat)(cc:Nat)(f:Nat)(us:List U)(es:List E)(ks:List E)(pm:List (Nat ⊕ U))(X:XP)(Q:U->G->Prop)(ws:List U)(g:G):Prop:=us.length=es.length/\ws.length=ks.length/\kC fns d f (perm (.ref g.length :: us++ws) pm) (g++[.ins cc []]) X (lk (lB g.length Q))
theorem sx  : kT fns d cc f us es ks pm X Q ws g=(us.length=es.length/\ws.length=ks.length/\kC fns d f (perm (.ref g.length :: us++ws) pm) (g++[.ins cc []]) X (lk (lB g.length Q))):=propext Iff.rfl
noncomputable def yf(fns:List Fn)(d:Nat)(cc:Nat)(f:Nat)(es:List E)(ks:List E)(pm:List (Nat ⊕ U))(σ:Su)(X:XP)(Q:U->G->Prop)(us:List U)(g:G):Prop:=au fns d ks σ g X (kT fns d cc f us es ks pm X Q)
theorem sD  : yf fns d cc f es ks pm σ X Q us g=(au fns d ks σ g X (kT fns d cc f us es ks pm X Q)):=propext Iff.rfl
theorem uC  : nE fns d (.make cc f es ks pm) σ g X Q ↔ au fns d es σ g X (yf fns d cc f es ks pm σ X Q):=GO
noncomputable def la(fns:List Fn)(d:Nat)(f:Nat)(us:List U)(es:List E)(ks:List E)(pm:List (Nat ⊕ U))(X:XP)(Q:U->G->Prop)(ws:List U)(g:G):Prop:=us.length=es.length/\ws.length=ks.length/\kC fns d f (perm (us++ws) pm) g X (lk Q)
theorem sI  : la fns d f us es ks pm X Q ws g=(us.length=es.length/\ws.length=ks.length/\kC fns d f (perm (us++ws) pm) g X (lk Q)):=propext Iff.rfl
noncomputable def yG(fns:List Fn)(d:Nat)(f:Nat)(es:List E)(ks:List E)(pm:List (Nat ⊕ U))(σ:Su)(X:XP)(Q:U->G->Prop)(us:List U)(g:G):Prop:=au fns d ks σ g nX (la fns d f us es ks pm X Q)
theorem rV  : yG fns d f es ks pm σ X Q us g=(au fns d ks σ g nX (la fns d f us es ks pm X Q)):=propext Iff.rfl
theorem qb  : nE fns d (.callk f es ks pm) σ g X Q ↔ au fns d es σ g nX (yG fns d f es ks pm σ X Q):=B0
noncomputable def lb(fns:List Fn)(d:Nat)(x:U)(p:Nat×List (Nat ⊕ U))(us:List U)(es:List E)(ks:List E)(X:XP)(Q:U->G->Prop)(ws:List U)(g:G):Prop:=us.length=es.length/\ws.length=ks.length/\kC fns d p.1 (perm (x :: us++ws) p.2) g X (lk Q)
theorem rn  : lb fns d x p us es ks X Q ws g=(us.length=es.length/\ws.length=ks.length/\kC fns d p.1 (perm (x :: us++ws) p.2) g X (lk Q)):=propext Iff.rfl
noncomputable def i6(fns:List Fn)(d:Nat)(x:U)(p:Nat×List (Nat ⊕ U))(es:List E)(ks:List E)(σ:Su)(X:XP)(Q:U->G->Prop)(us:List U)(g:G):Prop:=au fns d ks σ g X (lb fns d x p us es ks X Q)
theorem rL  : i6 fns d x p es ks σ X Q us g=(au fns d ks σ g X (lb fns d x p us es ks X Q)):=propext Iff.rfl
noncomputable def i8(fns:List Fn)(d:Nat)(x:U)(es:List E)(ks:List E)(σ:Su)(g:G)(X:XP)(Q:U->G->Prop)(p:Nat×List (Nat ⊕ U)):Prop:=au fns d es σ g X (i6 fns d x p es ks σ X Q)
theorem Eo  : oh (some p) (lk (i8 fns d x es ks σ g X Q))=(au fns d es σ g X (i6 fns d x p es ks σ X Q)):=propext Iff.rfl
theorem uM  : i8 fns d x es ks σ g X Q p=(au fns d es σ g X (i6 fns d x p es ks σ X Q)):=propext Iff.rfl
noncomputable def ye(fns:List Fn)(d:Nat)(j:Nat)(tb:List (Nat×Nat×List (Nat ⊕ U)))(es:List E)(ks:List E)(σ:Su)(X:XP)(Q:U->G->Prop)(x:U)(g:G):Prop:=oh ((a8 x g).bind (cH j tb)) (lk (i8 fns d x es ks σ g X Q))
theorem ur  : ye fns d j tb es ks σ X Q x g=(oh ((a8 x g).bind (cH j tb)) (lk (i8 fns d x es ks σ g X Q))):=propext Iff.rfl
theorem r8  : nE fns d (.meth a j tb es ks) σ g X Q ↔ wpE fns d a σ g X (ye fns d j tb es ks σ X Q):=ER
noncomputable def ja(g:G)(X:XP)(Q:U->G->Prop)(k:Nat):Prop:=hk (cJ k g) X (lk Q)
theorem FC  : oh (some k) (lk (ja g X Q))=(hk (cJ k g) X (lk Q)):=propext Iff.rfl
theorem EB  : ja g X Q k=(hk (cJ k g) X (lk Q)):=propext Iff.rfl
noncomputable def yW(X:XP)(Q:U->G->Prop)(x:U)(g:G):Prop:=oh (asL x g) (lk (ja g X Q))
theorem GB  : yW X Q x g=(oh (asL x g) (lk (ja g X Q))):=propext Iff.rfl
noncomputable def i7(g:G)(X:XP)(Q:U->G->Prop)(k:Nat):Prop:=hk (b8 k g) X (lk Q)
theorem GZ  : oh (some k) (lk (i7 g X Q))=(hk (b8 k g) X (lk Q)):=propext Iff.rfl
theorem ui  : i7 g X Q k=(hk (b8 k g) X (lk Q)):=propext Iff.rfl
noncomputable def yQ(X:XP)(Q:U->G->Prop)(x:U)(g:G):Prop:=oh (asL x g) (lk (i7 g X Q))
theorem t5  : yQ X Q x g=(oh (asL x g) (lk (i7 g X Q))):=propext Iff.rfl
theorem DW  : nE fns d (.revm o) σ g X Q ↔ wpE fns d o σ g X (yW X Q):=EH
theorem xi  : nE fns d (.pop o) σ g X Q ↔ wpE fns d o σ g X (yQ X Q):=IG
noncomputable def jt(k:Nat)(X:XP)(Q:U->G->Prop)(y:U)(g:G):Prop:=hk (bO k y g) X (lk Q)
theorem uS  : jt k X Q y g=(hk (bO k y g) X (lk Q)):=propext Iff.rfl
noncomputable def jf(fns:List Fn)(d:Nat)(v:E)(σ:Su)(g:G)(X:XP)(Q:U->G->Prop)(k:Nat):Prop:=wpE fns d v σ g X (jt k X Q)
theorem FV  : oh (some k) (lk (jf fns d v σ g X Q))=(wpE fns d v σ g X (jt k X Q)):=propext Iff.rfl
theorem rH  : jf fns d v σ g X Q k=(wpE fns d v σ g X (jt k X Q)):=propext Iff.rfl
noncomputable def yn(fns:List Fn)(d:Nat)(v:E)(σ:Su)(X:XP)(Q:U->G->Prop)(x:U)(g:G):Prop:=oh (asL x g) (lk (jf fns d v σ g X Q))
theorem tK  : yn fns d v σ X Q x g=(oh (asL x g) (lk (jf fns d v σ g X Q))):=propext Iff.rfl
theorem vT  : nE fns d (.app o v) σ g X Q ↔ wpE fns d o σ g X (yn fns d v σ X Q):=Jj
noncomputable def jn(k:Nat)(X:XP)(Q:U->G->Prop)(y:U)(g:G):Prop:=hk (cK k y g) X (lk Q)
theorem sV  : jn k X Q y g=(hk (cK k y g) X (lk Q)):=propext Iff.rfl
noncomputable def je(fns:List Fn)(d:Nat)(v:E)(σ:Su)(g:G)(X:XP)(Q:U->G->Prop)(k:Nat):Prop:=wpE fns d v σ g X (jn k X Q)
theorem Ep  : oh (some k) (lk (je fns d v σ g X Q))=(wpE fns d v σ g X (jn k X Q)):=propext Iff.rfl
theorem um  : je fns d v σ g X Q k=(wpE fns d v σ g X (jn k X Q)):=propext Iff.rfl
noncomputable def xU(fns:List Fn)(d:Nat)(v:E)(σ:Su)(X:XP)(Q:U->G->Prop)(x:U)(g:G):Prop:=oh (asL x g) (lk (je fns d v σ g X Q))
theorem rW  : xU fns d v σ X Q x g=(oh (asL x g) (lk (je fns d v σ g X Q))):=propext Iff.rfl
theorem wx  : nE fns d (.ext o v) σ g X Q ↔ wpE fns d o σ g X (xU fns d v σ X Q):=HS
noncomputable def jq(k:Nat)(X:XP)(Q:U->G->Prop)(y:U)(g:G):Prop:=hk (fY k y g) X (lk Q)
theorem FD  : jq k X Q y g=(hk (fY k y g) X (lk Q)):=propext Iff.rfl
noncomputable def jj(fns:List Fn)(d:Nat)(v:E)(σ:Su)(g:G)(X:XP)(Q:U->G->Prop)(k:Nat):Prop:=wpE fns d v σ g X (jq k X Q)
theorem Fm  : oh (some k) (lk (jj fns d v σ g X Q))=(wpE fns d v σ g X (jq k X Q)):=propext Iff.rfl
theorem F8  : jj fns d v σ g X Q k=(wpE fns d v σ g X (jq k X Q)):=propext Iff.rfl
noncomputable def yg(fns:List Fn)(d:Nat)(v:E)(σ:Su)(X:XP)(Q:U->G->Prop)(x:U)(g:G):Prop:=oh (asL x g) (lk (jj fns d v σ g X Q))
theorem GJ  : yg fns d v σ X Q x g=(oh (asL x g) (lk (jj fns d v σ g X Q))):=propext Iff.rfl
theorem Fs  : nE fns d (.popi o v) σ g X Q ↔ wpE fns d o σ g X (yg fns d v σ X Q):=GG
noncomputable def Kbi(bb:Bi)(X:XP)(Q:U->G->Prop)(us:List U)(g:G):Prop:=hk (bi1 bb us g) X (lk Q)
theorem wy  : Kbi bb X Q us g=(hk (bi1 bb us g) X (lk Q)):=propext Iff.rfl
theorem yb  : nE fns d (.bi bb es) σ g X Q ↔ au fns d es σ g X (Kbi bb X Q):=Ke
noncomputable def y3(ty:Ty)(Q:U->G->Prop)(x:U)(g:G):Prop:=oh (aW ty x g) (lk (KB g Q))
theorem rP  : y3 ty Q x g=(oh (aW ty x g) (lk (KB g Q))):=propext Iff.rfl
theorem we  : nE fns d (.isi a ty) σ g X Q ↔ wpE fns d a σ g X (y3 ty Q):=IE
noncomputable def Ko(Q:Option Int->G->Prop)(x:U)(g:G):Prop:=oh (match x with | .int i=>some i | _=>none) <| lk λi=>Q (some i) g
theorem yU{Q:Option Int->G->Prop}{i:Int}{g:G}:Ko Q (.int i) g=Q (some i) g:=propext Iff.rfl
theorem pZ  : wpO fns d (some e) σ g X QO ↔ wpE fns d e σ g X (Ko QO):=Ey
noncomputable def Ktr(QB:Bool->G->Prop)(x:U)(g:G):Prop:=oh (tru x g) (lk (KV g QB))
theorem vB  : Ktr QB x g=(oh (tru x g) (lk (KV g QB))):=propext Iff.rfl
noncomputable def Kta(fns:List Fn)(d:Nat)(b:E)(σ:Su)(X:XP)(QB:Bool->G->Prop)(z:Bool)(g:G):Prop:=bh z (lk (wpT fns d b σ g X QB)) (lk (QB false g))
theorem v7  : Kta fns d b σ X QB z g=(bh z (lk (wpT fns d b σ g X QB)) (lk (QB false g))):=propext Iff.rfl
noncomputable def Kto(fns:List Fn)(d:Nat)(b:E)(σ:Su)(X:XP)(QB:Bool->G->Prop)(z:Bool)(g:G):Prop:=bh z (lk (QB true g)) (lk (wpT fns d b σ g X QB))
theorem xm  : Kto fns d b σ X QB z g=(bh z (lk (QB true g)) (lk (wpT fns d b σ g X QB))):=propext Iff.rfl
noncomputable def Ktn(QB:Bool->G->Prop)(z:Bool)(g:G):Prop:=QB (!z) g
theorem xH  : Ktn QB z g=(QB (!z) g):=propext Iff.rfl
noncomputable def Kti(fns:List Fn)(d:Nat)(a:E)(b:E)(σ:Su)(X:XP)(QB:Bool->G->Prop)(z:Bool)(g:G):Prop:=bh z (lk (wpT fns d a σ g X QB)) (lk (wpT fns d b σ g X QB))
theorem Jo  : Kti fns d a b σ X QB z g=(bh z (lk (wpT fns d a σ g X QB)) (lk (wpT fns d b σ g X QB))):=propext Iff.rfl
theorem sM  : wpT fns d (.and a b) σ g X QB ↔ wpT fns d a σ g X (Kta fns d b σ X QB):=IS
theorem xD  : wpT fns d (.or a b) σ g X QB ↔ wpT fns d a σ g X (Kto fns d b σ X QB):=JO
theorem r9  : wpT fns d (.not a) σ g X QB ↔ wpT fns d a σ g X (Ktn QB):=Ib
theorem Ej  : wpT fns d (.ite c a b) σ g X QB ↔ wpT fns d c σ g X (Kti fns d a b σ X QB):=Iu
theorem sg  : wpT fns d (.var i) σ g X QB ↔ wpE fns d (.var i) σ g X (Ktr QB):=t_e rfl
theorem G1  : wpT fns d (.cst u) σ g X QB ↔ wpE fns d (.cst u) σ g X (Ktr QB):=t_e rfl
theorem rF  : wpT fns d (.cmp cp a b) σ g X QB ↔ wpE fns d (.cmp cp a b) σ g X (Ktr QB):=t_e rfl
theorem Bb  : wpT fns d (.chain cp cq a b c) σ g X QB ↔ wpE fns d (.chain cp cq a b c) σ g X (Ktr QB):=t_e rfl
theorem qS  : wpT fns d (.call f es) σ g X QB ↔ wpE fns d (.call f es) σ g X (Ktr QB):=t_e rfl
theorem H8  : wpT fns d (.bi bb es) σ g X QB ↔ wpE fns d (.bi bb es) σ g X (Ktr QB):=t_e rfl
theorem sZ  : wpT fns d (.isi a ty) σ g X QB ↔ wpE fns d (.isi a ty) σ g X (Ktr QB):=t_e rfl
theorem FP  : wpT fns d (.idx a b) σ g X QB ↔ wpE fns d (.idx a b) σ g X (Ktr QB):=t_e rfl
theorem EJ  : wpT fns d (.bin op a b) σ g X QB ↔ wpE fns d (.bin op a b) σ g X (Ktr QB):=t_e rfl
theorem CI  : wpT fns d (.meth a j tb es ks) σ g X QB ↔ wpE fns d (.meth a j tb es ks) σ g X (Ktr QB):=t_e rfl
theorem E3  : wpT fns d (.fld a j cs) σ g X QB ↔ wpE fns d (.fld a j cs) σ g X (Ktr QB):=t_e rfl
theorem FH  : wpT fns d (.rev a) σ g X QB ↔ wpE fns d (.rev a) σ g X (Ktr QB):=t_e rfl
theorem E5  : wpT fns d (.slc a lo hi) σ g X QB ↔ wpE fns d (.slc a lo hi) σ g X (Ktr QB):=t_e rfl
theorem FA  : wpT fns d (.tup es) σ g X QB ↔ wpE fns d (.tup es) σ g X (Ktr QB):=t_e rfl
theorem GA  : wpT fns d (.lst es) σ g X QB ↔ wpE fns d (.lst es) σ g X (Ktr QB):=t_e rfl
theorem Ee  : wpT fns d (.dgt o a b) σ g X QB ↔ wpE fns d (.dgt o a b) σ g X (Ktr QB):=t_e rfl
theorem CW{fns:List Fn}{d m:Nat}{X:XP}{σ:Su}{g:G}{fr:List Nat}{gs:List (Tg×E×List E)}{e:E}{QB:Bool->G->Prop}:wpT fns d (.comp m fr gs e) σ g X QB ↔ wpE fns d (.comp m fr gs e) σ g X (Ktr QB):=t_e rfl
noncomputable def Kac(fns:List Fn)(d:Nat)(es:List E)(σ:Su)(X:XP)(QB:Bool->G->Prop)(z:Bool)(g:G):Prop:=bh z (lk (wpA fns d es σ g X QB)) (lk (QB false g))
theorem wW  : Kac fns d es σ X QB z g=(bh z (lk (wpA fns d es σ g X QB)) (lk (QB false g))):=propext Iff.rfl
theorem qO  : wpA fns d (c :: es) σ g X QB ↔ wpT fns d c σ g X (Kac fns d es σ X QB):=Fq
noncomputable def xN(Q:Iter->G->Prop)(x:U)(g:G):Prop:=oh (match x with | .int i=>some i | _=>none) <| lk λj=>bh (aE j) (lk (Q (.rng 0 j.toNat) g)) (lk False)
theorem uX{Q:Iter->G->Prop}{j:Int}{g:G}:xN Q (.int j) g=bh (aE j) (lk (Q (.rng 0 j.toNat) g)) (lk False):=propext Iff.rfl
theorem qA  : wpI fns d (.rng1 a) σ g X QI ↔ wpE fns d a σ g X (xN QI):=E6
noncomputable def lD(u:U)(Q:Iter->G->Prop)(w:U)(g:G):Prop:=oh (match u with | .int i=>some i | _=>none) <| lk λi=>oh (match w with | .int i=>some i | _=>none) <| lk λj=>bh (aE i && aE j) (lk (Q (.rng i (j - i).toNat) g)) (lk False)
theorem Et{Q:Iter->G->Prop}{i j:Int}{g:G}:lD (.int i) Q (.int j) g=bh (aE i && aE j) (lk (Q (.rng i (j - i).toNat) g)) (lk False):=propext Iff.rfl
noncomputable def yi(fns:List Fn)(d:Nat)(b:E)(σ:Su)(X:XP)(QI:Iter->G->Prop)(u:U)(g:G):Prop:=wpE fns d b σ g X (lD u QI)
theorem Gp  : yi fns d b σ X QI u g=(wpE fns d b σ g X (lD u QI)):=propext Iff.rfl
theorem DH  : wpI fns d (.rng2 a b) σ g X QI ↔ wpE fns d a σ g X (yi fns d b σ X QI):=EE
noncomputable def iT(g:G)(QI:Iter->G->Prop)(k:Nat):Prop:=QI (.enm k) g
theorem C1  : oh (some k) (lk (iT g QI))=(QI (.enm k) g):=propext Iff.rfl
theorem qG  : iT g QI k=(QI (.enm k) g):=propext Iff.rfl
noncomputable def yu(QI:Iter->G->Prop)(u:U)(g:G):Prop:=oh (asL u g) (lk (iT g QI))
theorem uF  : yu QI u g=(oh (asL u g) (lk (iT g QI))):=propext Iff.rfl
theorem tj  : wpI fns d (.enm a) σ g X QI ↔ wpE fns d a σ g X (yu QI):=HW
noncomputable def jm(Q:Iter->G->Prop)(p:Iter×G):Prop:=Q p.1 p.2
theorem Hd{Q:Iter->G->Prop}{i:Iter}{g:G}:oh (some (i,g)) (lk (jm Q))=Q i g:=propext Iff.rfl
theorem uY{Q:Iter->G->Prop}{i:Iter}{g:G}:jm Q (i,g)=Q i g:=propext Iff.rfl
noncomputable def Kit(QI:Iter->G->Prop)(u:U)(g:G):Prop:=oh (ff u g) (lk (jm QI))
theorem vh  : Kit QI u g=(oh (ff u g) (lk (jm QI))):=propext Iff.rfl
theorem tB  : wpI fns d (.var i) σ g X QI ↔ wpE fns d (.var i) σ g X (Kit QI):=i_e rfl
theorem qd  : wpI fns d (.call f es) σ g X QI ↔ wpE fns d (.call f es) σ g X (Kit QI):=i_e rfl
theorem Jr  : wpI fns d (.bi bb es) σ g X QI ↔ wpE fns d (.bi bb es) σ g X (Kit QI):=i_e rfl
theorem rA  : wpI fns d (.idx a b) σ g X QI ↔ wpE fns d (.idx a b) σ g X (Kit QI):=i_e rfl
theorem Dr  : wpI fns d (.meth a j tb es ks) σ g X QI ↔ wpE fns d (.meth a j tb es ks) σ g X (Kit QI):=i_e rfl
theorem EN  : wpI fns d (.fld a j cs) σ g X QI ↔ wpE fns d (.fld a j cs) σ g X (Kit QI):=i_e rfl
theorem FJ  : wpI fns d (.rev a) σ g X QI ↔ wpE fns d (.rev a) σ g X (Kit QI):=i_e rfl
theorem Gz  : wpI fns d (.slc a lo hi) σ g X QI ↔ wpE fns d (.slc a lo hi) σ g X (Kit QI):=i_e rfl
theorem sj  : wpI fns d (.tup es) σ g X QI ↔ wpE fns d (.tup es) σ g X (Kit QI):=i_e rfl
theorem F6  : wpI fns d (.lst es) σ g X QI ↔ wpE fns d (.lst es) σ g X (Kit QI):=i_e rfl
theorem Cs{fns:List Fn}{d m:Nat}{X:XP}{σ:Su}{g:G}{fr:List Nat}{gs:List (Tg×E×List E)}{e:E}{QI:Iter->G->Prop}:wpI fns d (.comp m fr gs e) σ g X QI ↔ wpE fns d (.comp m fr gs e) σ g X (Kit QI):=i_e rfl
noncomputable def gA(fns:List Fn)(d:Nat)(ss:List S)(X:XP)(Q:Fl->G->Prop)(f:Fl)(g:G):Prop:=fS f (lk (λσ'=>wpS fns d ss σ' g X Q)) (lk λf=>Q f g)
theorem qP  : gA fns d ss X QF (.nx σ) g=(wpS fns d ss σ g X QF):=propext Iff.rfl
theorem pH  : gA fns d ss X QF (.rt u) g=(QF (.rt u) g):=propext Iff.rfl
theorem DS  : gA fns d ss X QF (.bk σ) g=(QF (.bk σ) g):=propext Iff.rfl
theorem BW  : gA fns d ss X QF (.ct σ) g=(QF (.ct σ) g):=propext Iff.rfl
theorem pM  : wpS fns d (s :: ss) σ g X QF ↔ wp1 fns d s σ g X (gA fns d ss X QF):=FK
noncomputable def yO(QF:Fl->G->Prop)(u:U)(g:G):Prop:=QF (.rt u) g
theorem u7  : yO QF u g=(QF (.rt u) g):=propext Iff.rfl
theorem sf  : wp1 fns d (.ret e) σ g X QF ↔ wpE fns d e σ g X (yO QF):=IQ
noncomputable def ji(g:G)(QF:Fl->G->Prop)(st:Su):Prop:=QF (.nx st) g
theorem Gf  : oh (some st) (lk (ji g QF))=(QF (.nx st) g):=propext Iff.rfl
theorem sy  : ji g QF st=(QF (.nx st) g):=propext Iff.rfl
noncomputable def Kst(t:Tg)(σ:Su)(QF:Fl->G->Prop)(u:U)(g:G):Prop:=oh (az t (unl t u g) σ) (lk (ji g QF))
theorem vb  : Kst t σ QF u g=(oh (az t (unl t u g) σ) (lk (ji g QF))):=propext Iff.rfl
theorem rX  : wp1 fns d (.set t e) σ g X QF ↔ wpE fns d e σ g X (Kst t σ QF):=FW
noncomputable def lE(i:Nat)(j:Nat)(u:U)(σ:Su)(QF:Fl->G->Prop)(w:U)(g:G):Prop:=bh (decide (i < σ.length) && decide (j < σ.length)) (lk (QF (.nx ((σ.set i (some u)).set j (some w))) g)) (lk False)
theorem uI  : lE i j u σ QF w g=(bh (decide (i < σ.length) && decide (j < σ.length)) (lk (QF (.nx ((σ.set i (some u)).set j (some w))) g)) (lk False)):=propext Iff.rfl
noncomputable def yk(fns:List Fn)(d:Nat)(i:Nat)(j:Nat)(b:E)(σ:Su)(X:XP)(QF:Fl->G->Prop)(u:U)(g:G):Prop:=wpE fns d b σ g X (lE i j u σ QF)
theorem rK  : yk fns d i j b σ X QF u g=(wpE fns d b σ g X (lE i j u σ QF)):=propext Iff.rfl
theorem uz  : wp1 fns d (.par i j a b) σ g X QF ↔ wpE fns d a σ g X (yk fns d i j b σ X QF):=F0
noncomputable def ll(u:U)(x:U)(σ:Su)(X:XP)(QF:Fl->G->Prop)(y:U)(g:G):Prop:=hk (subAt x y u σ g) X (lk QF)
theorem t6  : ll u x σ X QF y g=(hk (subAt x y u σ g) X (lk QF)):=propext Iff.rfl
noncomputable def k5(fns:List Fn)(d:Nat)(u:U)(b:E)(σ:Su)(X:XP)(QF:Fl->G->Prop)(x:U)(g:G):Prop:=wpE fns d b σ g X (ll u x σ X QF)
theorem sC  : k5 fns d u b σ X QF x g=(wpE fns d b σ g X (ll u x σ X QF)):=propext Iff.rfl
noncomputable def yh(fns:List Fn)(d:Nat)(o:E)(b:E)(σ:Su)(X:XP)(QF:Fl->G->Prop)(u:U)(g:G):Prop:=wpE fns d o σ g X (k5 fns d u b σ X QF)
theorem ug  : yh fns d o b σ X QF u g=(wpE fns d o σ g X (k5 fns d u b σ X QF)):=propext Iff.rfl
theorem sJ  : wp1 fns d (.sub o b e) σ g X QF ↔ wpE fns d e σ g X (yh fns d o b σ X QF):=GK
noncomputable def lN(x:U)(σ:Su)(X:XP)(QF:Fl->G->Prop)(y:U)(g:G):Prop:=hk (gr x y σ g) X (lk QF)
theorem E7  : lN x σ X QF y g=(hk (gr x y σ g) X (lk QF)):=propext Iff.rfl
noncomputable def yP(fns:List Fn)(d:Nat)(b:E)(σ:Su)(X:XP)(QF:Fl->G->Prop)(x:U)(g:G):Prop:=wpE fns d b σ g X (lN x σ X QF)
theorem Gy  : yP fns d b σ X QF x g=(wpE fns d b σ g X (lN x σ X QF)):=propext Iff.rfl
theorem EW  : wp1 fns d (.del o b) σ g X QF ↔ wpE fns d o σ g X (yP fns d b σ X QF):=Gv
noncomputable def Kxp(σ:Su)(QF:Fl->G->Prop)(u:U)(g:G):Prop:=QF (.nx σ) g
theorem wH  : Kxp σ QF u g=(QF (.nx σ) g):=propext Iff.rfl
theorem sH  : wp1 fns d (.exp e) σ g X QF ↔ wpE fns d e σ g X (Kxp σ QF):=Ic
noncomputable def Kif(fns:List Fn)(d:Nat)(A:List S)(B:List S)(σ:Su)(X:XP)(QF:Fl->G->Prop)(z:Bool)(g:G):Prop:=bh z (lk (wpS fns d A σ g X QF)) (lk (wpS fns d B σ g X QF))
theorem vn  : Kif fns d A B σ X QF z g=(bh z (lk (wpS fns d A σ g X QF)) (lk (wpS fns d B σ g X QF))):=propext Iff.rfl
theorem uH  : wp1 fns d (.ife c A B) σ g X QF ↔ wpT fns d c σ g X (Kif fns d A B σ X QF):=Gm
noncomputable def yx(fns:List Fn)(d:Nat)(t:Tg)(A:List S)(σ:Su)(X:XP)(QF:Fl->G->Prop)(it2:Iter)(g:G):Prop:=kF fns d t it2 0 A σ g X (lk QF)
theorem rM  : yx fns d t A σ X QF it2 g=(kF fns d t it2 0 A σ g X (lk QF)):=propext Iff.rfl
theorem uh  : wp1 fns d (.for t it A) σ g X QF ↔ wpI fns d it σ g X (yx fns d t A σ X QF):=G2
noncomputable def jl(σ:Su)(QF:Fl->G->Prop)(g2:G):Prop:=QF (.nx σ) g2
theorem He  : oh (some g2) (lk (jl σ QF))=(QF (.nx σ) g2):=propext Iff.rfl
theorem rD  : jl σ QF g2=(QF (.nx σ) g2):=propext Iff.rfl
noncomputable def lJ(u:U)(j:Nat)(cs:List Nat)(σ:Su)(QF:Fl->G->Prop)(x:U)(g:G):Prop:=oh (bW x j cs u g) (lk (jl σ QF))
theorem sW  : lJ u j cs σ QF x g=(oh (bW x j cs u g) (lk (jl σ QF))):=propext Iff.rfl
noncomputable def yD(fns:List Fn)(d:Nat)(a:E)(j:Nat)(cs:List Nat)(σ:Su)(X:XP)(QF:Fl->G->Prop)(u:U)(g:G):Prop:=wpE fns d a σ g X (lJ u j cs σ QF)
theorem sk  : yD fns d a j cs σ X QF u g=(wpE fns d a σ g X (lJ u j cs σ QF)):=propext Iff.rfl
theorem rf  : wp1 fns d (.fset a j cs e) σ g X QF ↔ wpE fns d e σ g X (yD fns d a j cs σ X QF):=CB
noncomputable def Kfn(Q:U->G->Prop)(f:Fl)(g:G):Prop:=fC f (lk λu=>Q u g)
theorem rp{Q:U->G->Prop}{u:U}{g:G}:Kfn Q (.rt u) g=Q u g:=propext Iff.rfl
theorem sh{Q:U->G->Prop}{σ:Su}{g:G}:Kfn Q (.nx σ) g=Q .non g:=propext Iff.rfl
theorem ak{fns:List Fn}{d:Nat}{X:XP}{g:G}{f:Nat}{F:Fn}{us:List U}{Q:U->G->Prop}(hf:fns[f]? = some F)(hl:us.length=F.np)(h:wpS fns d F.body (us.map some++List.replicate (F.ns - us.length) none) g X (Kfn Q)):wpC fns (d+1) f us g X Q:=(tQ hf hl).2 h
end
theorem dw{xs:List U}{i:Nat}(h:i < xs.length):uix xs (i:Int)=xs[i]? := by
 unfold uix L2.atI L2.ixN;rw [if_pos (by omega),if_pos (by omega)]
 simp
theorem iM{xs:List U}{i:Int}(h0:0<=i)(h:i < xs.length):uix xs i=xs[i.toNat]? := by
 have:=dw (xs:=xs) (i:=i.toNat) (by omega)
 rwa [Int.toNat_of_nonneg h0] at this
theorem xt{x:U}{xs:List U}:uix (x :: xs) 0=some x:=dw (i:=0) (by simp)
theorem vZ{x y:U}{xs:List U}:uix (x :: y :: xs) 1=some y:=dw (i:=1) (by simp)
theorem wb{x y z:U}{xs:List U}:uix (x :: y :: z :: xs) 2=some z:=dw (i:=2) (by simp)
theorem wA{x y z a:U}{xs:List U}:uix (x :: y :: z :: a :: xs) 3=some a:=dw (i:=3) (by simp)
theorem wm{x y z a b:U}{xs:List U}:uix (x :: y :: z :: a :: b :: xs) 4=some b:=dw (i:=4) (by simp)
theorem xg{x y z a b c:U}{xs:List U}:uix (x :: y :: z :: a :: b :: c :: xs) 5=some c:=dw (i:=5) (by simp)
noncomputable def small(i:Int):Prop := -dF < i/\i < dF
theorem gZ{i:Int}(h : -18446744073709551616 < i)(h':i < 18446744073709551616):small i:=⟨h,h'⟩
theorem bS{i:Int}(h:(decide (-18446744073709551616 < i) && decide (i < 18446744073709551616))=true):small i:=by simp at h;exact h
section
variable{i j:Int}{g:G}
theorem iJ:op2 .add (.int i) (.int j)=some (.int (i+j)):=rfl
theorem iK:op2 .sub (.int i) (.int j)=some (.int (i - j)):=rfl
theorem uy(h:0 < j):op2 .mod (.int i) (.int j)=some (.int (i % j)):=by simp only [op2,opZ,if_pos h]
theorem qR(h:0 < j)(h':j < aw):op2 .fdiv (.int i) (.int j)=some (.int (i / j)):=by simp only [op2,opZ,if_pos h,if_pos h']
theorem qH(h:small i):op2 .mul (.int i) (.int j)=some (.int (i*j)):=by
 obtain ⟨h1,h2⟩:=h;simp [op2,opZ,h1,h2]
theorem qX(h:small j):op2 .mul (.int i) (.int j)=some (.int (i*j)):=by
 obtain ⟨h1,h2⟩:=h;simp [op2,opZ,h1,h2]
theorem w9:cmp2 .eq (.int i) (.int j) g=some (decide (i=j)):=by
 simp only [cmp2,ueq,aH];congr 1
theorem wL{a b:Bool}:cmp2 .eq (.bl a) (.bl b) g=some (a == b):=rfl
theorem xl{a b:PySem.Str}:cmp2 .eq (.str a) (.str b) g=some (a == b):=rfl
theorem vg{xs ys:List U}:cmp2 .eq (.tup xs) (.tup ys) g=aL xs ys:=rfl
theorem rN{xs ys:List U}:aL (.int i :: xs) (.int j :: ys)=(aL xs ys).map λc=>decide (i=j) && c:=by
 simp only [aL,aH];cases aL xs ys with
 | none=>rfl
 | some c=>simp only [Option.map_some];congr 1
theorem oI:aL [] []=some true:=rfl
theorem vi:cmp2 .ne (.int i) (.int j) g=some (!decide (i=j)):=by simp only [cmp2,eU,if_true,aH,Option.map_some];congr 1
theorem y2{x:U}:cmp2 .isN x .non g=some (aU x):=rfl
theorem wI{x:U}:cmp2 .notN x .non g=some (!aU x):=rfl
theorem cin{x y:U}:cmp2 .inn x y g=match items y g with | some ys=>uin x ys | none=>(aB x y g).map Option.isSome:=rfl
theorem yB{x y:U}:cmp2 .nin x y g=match items y g with | some ys=>(uin x ys).map (!·) | none=>(aB x y g).map λo => !o.isSome:=rfl
theorem clt:cmp2 .lt (.int i) (.int j) g=some (decide (i < j)):=rfl
theorem cle:cmp2 .le (.int i) (.int j) g=some (decide (i<=j)):=rfl
theorem cgt:cmp2 .gt (.int i) (.int j) g=some (decide (j < i)):=rfl
theorem cge:cmp2 .ge (.int i) (.int j) g=some (decide (j<=i)):=rfl
end
section
variable{fns:List Fn}{d:Nat}{X:XP}{σ:Su}{g:G}
theorem iS{it:Iter}{t:Tg}{cs:List E}{elt:E}{Q:List U->G->Prop}{α:Type}(ys:List α)(enc:α->U)(c:α->Bool)(e:α->U)(Inv:G->Prop)
  (hn:∀ k g,Inv g->next it k g=some (ys.map enc)[k]?)
  (hs:∀ y,y∈ys->bA t σ=true/\oh (az t (enc y) σ) (lk λσ1 => ∀ g,Inv g->wpA fns d cs σ1 g (λ_ _ _=>False) λk g=>k=c y/\bh (c y) (lk (wpE fns d elt σ1 g (λ_ _ _=>False) λv g=>v=e y/\Inv g)) (lk (Inv g)))) :
  ∀ (n i:Nat) (acc:List U) (g:G),i+n=ys.length->acc.length+n < aj->Inv g->(∀ g,Inv g->Q (acc++((ys.drop i).filter c).map e) g)->wpM fns d it i t cs [] elt acc σ g X Q
 | 0,i,acc,g,e1,_,h,hq=>by
  rw [eG];refine ⟨none,by rw [hn _ _ h];simp;omega,?_⟩
  have:=hq g h;rw [List.drop_eq_nil_of_le (by omega)] at this
  simpa using this
 | n+1,i,acc,g,e1,hl,h,hq=>by
  have hi:i < ys.length:=by omega
  have hd:ys.drop i=ys[i] :: ys.drop (i+1):=List.drop_eq_getElem_cons hi;obtain ⟨hf,hs1⟩:=hs ys[i] (List.getElem_mem hi);obtain ⟨σ1,hb,hw⟩:=aI.2 hs1;rw [eG];refine ⟨some (enc ys[i]),by rw [hn _ _ h];simp [hi],hf,σ1,hb,wp_mono (hw g h) λk g q => ?_⟩
  obtain ⟨rfl,q⟩:=q;by_cases hc:c ys[i]=true
  .rw [if_pos hc]
   rw [hc] at q;refine wp_mono q λv g ⟨ev,hg⟩=>⟨by omega,?_⟩
   subst ev;refine iS ys enc c e Inv hn hs n (i+1) _ g (by omega) (by simp;omega) hg λg hg => ?_
   have:=hq g hg;rw [hd,List.filter_cons_of_pos hc] at this;simpa using this
  .rw [if_neg hc]
   rw [Bool.not_eq_true] at hc;rw [hc] at q;refine iS ys enc c e Inv hn hs n (i+1) _ g (by omega) (by omega) q λg hg => ?_
   have:=hq g hg;rw [hd,List.filter_cons_of_neg (by simp [hc])] at this
   exact this
theorem i0{it:Iter}{t:Tg}{cs:List E}{elt:E}{Q:List U->G->Prop}{α:Type}(ys:List α)(enc:α->U)(c:α->Bool)(e:α->U)(Inv:G->Prop)(L:List U)
  (hL:(ys.filter c).map e=L)
  (hn:∀ k g,Inv g->next it k g=some (ys.map enc)[k]?)
  (hs:∀ y,y∈ys->bA t σ=true/\oh (az t (enc y) σ) (lk λσ1 => ∀ g,Inv g->wpA fns d cs σ1 g (λ_ _ _=>False) λk g=>k=c y/\bh (c y) (lk (wpE fns d elt σ1 g (λ_ _ _=>False) λv g=>v=e y/\Inv g)) (lk (Inv g))))
  (hl:ys.length < 16777000) (h0:Inv g) (hq:∀ g,Inv g->Q L g):wpM fns d it 0 t cs [] elt [] σ g X Q :=
 iS ys enc c e Inv hn hs ys.length 0 [] g (Nat.zero_add _) (by simpa [aj] using hl) h0 λg hg=>by
  have:=hq g hg;rw [<-hL] at this;simpa using this
theorem kG{it2:E}{t t2:Tg}{J:Iter}{cs cs2:List E}{rest2:List (Tg×E×List E)}{elt:E}{Q:List U->G->Prop}{α:Type}(ys:List α)(enc:α->U)(f:α->List U)(Inv:G->Prop)(B:Nat)
  (hn:∀ k g,Inv g->next J k g=some (ys.map enc)[k]?) (hB:∀ y,y∈ys->(f y).length<=B)
  (hs:∀ y,y∈ys->bA t σ=true/\oh (az t (enc y) σ) (lk λσ1 => ∀ g acc,Inv g->acc.length+B < 16777000->wpA fns d cs σ1 g (λ_ _ _=>False) λk g=>k=true/\wpI fns d it2 σ1 g (λ_ _ _=>False) λJ2 g=>wpM fns d J2 0 t2 cs2 rest2 elt acc σ1 g (λ_ _ _=>False) λacc2 g=>acc2=acc++f y/\Inv g)) :
  ∀ (n i:Nat) (acc:List U) (g:G),i+n=ys.length->acc.length+n*B+B < 16777000->Inv g->(∀ g,Inv g->Q (acc++(ys.drop i).flatMap f) g)->wpM fns d J i t cs ((t2,it2,cs2) :: rest2) elt acc σ g X Q
 | 0,i,acc,g,e1,_,h,hq=>by
  rw [eG];refine ⟨none,by rw [hn _ _ h];simp;omega,?_⟩
  have:=hq g h;rw [List.drop_eq_nil_of_le (by omega)] at this
  simpa using this
 | n+1,i,acc,g,e1,hl,h,hq=>by
  have hi:i < ys.length:=by omega
  have hd:ys.drop i=ys[i] :: ys.drop (i+1):=List.drop_eq_getElem_cons hi;obtain ⟨hf,hs1⟩:=hs ys[i] (List.getElem_mem hi);obtain ⟨σ1,hb,hw⟩:=aI.2 hs1;have hmul:(n+1)*B=n*B+B:=Nat.succ_mul n B;have hBi:=hB ys[i] (List.getElem_mem hi);rw [eG];refine ⟨some (enc ys[i]),by rw [hn _ _ h];simp [hi],hf,σ1,hb,wp_mono (hw g acc h (by omega)) λk g q => ?_⟩
  obtain ⟨rfl,q⟩:=q;rw [if_pos rfl];refine wp_mono q λJ2 g q=>wp_mono q λacc2 g q => ?_;obtain ⟨rfl,hg⟩:=q;refine kG ys enc f Inv B hn hB hs n (i+1) _ g (by omega) (by simp only [List.length_append];omega) hg λg hg => ?_
  have:=hq g hg;rw [hd,List.flatMap_cons] at this;simpa using this
theorem GP{it:Iter}{t:Tg}{cs:List E}{elt:E}{Q:List U->G->Prop}{α:Type}(ys:List α)(enc:α->U)(c:α->Bool)(e:α->U)(Inv:G->Prop)(acc:List U)
  (hn:∀ k g,Inv g->next it k g=some (ys.map enc)[k]?)
  (hs:∀ y,y∈ys->bA t σ=true/\oh (az t (enc y) σ) (lk λσ1 => ∀ g,Inv g->wpA fns d cs σ1 g (λ_ _ _=>False) λk g=>k=c y/\bh (c y) (lk (wpE fns d elt σ1 g (λ_ _ _=>False) λv g=>v=e y/\Inv g)) (lk (Inv g))))
  (hl:acc.length+ys.length < 16777000) (h0:Inv g) (hq:∀ g,Inv g->Q (acc++(ys.filter c).map e) g):wpM fns d it 0 t cs [] elt acc σ g X Q :=
 iS ys enc c e Inv hn hs ys.length 0 acc g (Nat.zero_add _) (by simpa [aj] using hl) h0 λg hg=>by simpa using hq g hg
theorem c9{t:Tg}{it:Iter}{b:List S}{Q:Fl->G->Prop}(us:List U)(Inv:Nat->Su->G->Prop)
  (hn:∀ k σ g,Inv k σ g->next it k g=some us[k]?) (h0:Inv 0 σ g)
  (hs:∀ k u σ g,us[k]? = some u->Inv k σ g->oh (az t u σ) (lk λσ1=>wpS fns d b σ1 g X λf g=>fL f (lk (λσ'=>Inv (k+1) σ' g)) (lk λf=>Q f g)))
  (hq:∀ σ g,Inv us.length σ g->Q (.nx σ) g):wpF fns d t it 0 b σ g X Q:=eS us Inv hn hs hq us.length 0 σ g (Nat.zero_add _) h0
end
theorem hG{α:Type}{l:List α}:(l.filter λ_=>true)=l:=List.filter_eq_self.mpr (by simp)
noncomputable abbrev dh(g:G)(xs:List U)(Q:U->G->Prop):Prop := ∀ gs n,g.length<=n->(g++gs)[n]? = some (.lst xs)->Q (.ref n) (g++gs)
inductive Dt where
 | non | bl (b:Bool) | int (i:Int) | str (s:PySem.Str) | tup (ds:List Dt) | lst (ds:List Dt)
mutual
noncomputable def Rep(g:G):Dt->U->Prop
 | .non,u=>u=.non
 | .bl b,u=>u=.bl b
 | .int i,u=>u=.int i
 | .str s,u=>u=.str s
 | .tup ds,u => ∃ us,u=.tup us/\Reps g ds us
 | .lst ds,u => ∃ n us,u=.ref n/\g[n]? = some (.lst us)/\Reps g ds us
noncomputable def Reps(g:G):List Dt->List U->Prop
 | [],us=>us=[]
 | d :: ds,us => ∃ v vs,us=v :: vs/\Rep g d v/\Reps g ds vs
end
noncomputable def Dt.ok:Nat->Dt->Prop
 | 0,_=>False
 | n+1,.tup ds=>ds.length < 1000000 /\ ∀ D∈ds,D.ok n
 | n+1,.lst ds=>ds.length < 1000000 /\ ∀ D∈ds,D.ok n
 | _+1,_=>True
theorem Dt.ok_tup{n:Nat}{ds:List Dt}:Dt.ok (n+1) (.tup ds) ↔ ds.length < 1000000 /\ ∀ D∈ds,D.ok n:=by rw [Dt.ok]
theorem Dt.ok_lst{n:Nat}{ds:List Dt}:Dt.ok (n+1) (.lst ds) ↔ ds.length < 1000000 /\ ∀ D∈ds,D.ok n:=by rw [Dt.ok]
theorem Reps.length{g:G}:∀ {ds:List Dt} {us:List U},Reps g ds us->us.length=ds.length
 | [],_,h=>by cases h;rfl
 | _ :: ds,_,h=>by obtain ⟨v,vs,rfl,_,h2⟩:=h;simp [Reps.length h2]
theorem Reps.get{g:G}:∀ {ds:List Dt} {us:List U} {i:Nat} {D:Dt},Reps g ds us->ds[i]? = some D -> ∃ v,us[i]? = some v/\Rep g D v
 | [],_,_,_,_,e=>by simp at e
 | x :: ds,_,0,D,h,e=>by
  obtain ⟨v,vs,rfl,h1,_⟩:=h;simp at e;subst e;exact ⟨v,by simp,h1⟩
 | x :: ds,_,i+1,D,h,e=>by
  obtain ⟨v,vs,rfl,_,h2⟩:=h;obtain ⟨w,e1,e2⟩:=Reps.get (i:=i) (D:=D) h2 (by simpa using e)
  exact ⟨w,by simpa using e1,e2⟩
structure Plan where
 w:Int
 d:Int
 s:Int
noncomputable abbrev Pt:=Int×Int
noncomputable abbrev uPl(P:Plan):U := .tup [.int P.w,.int P.d,.int P.s]
noncomputable abbrev uP(p:Pt):U := .tup [.int p.1,.int p.2]
structure Plan.ok(P:Plan):Prop where
 w:P.w=1\/P.w=2\/P.w=3
 d:P.d=1\/P.d=2\/P.d=3
 s:P.s=2\/P.s=4\/P.s=8
theorem Plan.ok.sd{P:Plan}(h:P.ok):small P.d:=by rcases h.d with e | e | e <;> rw [e] <;> exact bS (by decide)
theorem Plan.ok.ss{P:Plan}(h:P.ok):small P.s:=by rcases h.s with e | e | e <;> rw [e] <;> exact bS (by decide)
theorem Plan.ok.s0{P:Plan}(h:P.ok):0 < P.s:=by rcases h.s with e | e | e <;> rw [e] <;> decide
theorem Plan.ok.sb{P:Plan}(h:P.ok):P.s < aw:=by rcases h.s with e | e | e <;> rw [e] <;> decide
theorem Plan.ok.ws{P:Plan}(h:P.ok):2<=P.w*P.s/\P.w*P.s<=24:=by rcases h.w with e | e | e <;> rcases h.s with f | f | f <;> rw [e,f] <;> decide
theorem Plan.ok.ds{P:Plan}(h:P.ok):2<=P.d*P.s/\P.d*P.s<=24:=by rcases h.d with e | e | e <;> rcases h.s with f | f | f <;> rw [e,f] <;> decide
noncomputable def aK(P:Plan)(p:Pt):Bool:=decide (0<=p.1) && decide (p.1<=P.w*P.s) && decide (0<=p.2) && decide (p.2<=P.d*P.s)
noncomputable def bz(P:Plan)(p:Pt):Bool:=decide (p.1 % P.s=0) && decide (p.2 % P.s=0)
noncomputable def ran(n:Int):List Int:=(List.range n.toNat).map λ(i:Nat)=>(i:Int)
theorem aQ(n:Int):(ran n).length=n.toNat:=by simp [ran]
theorem ij{n i:Int}:i∈ran n ↔ 0<=i/\i < n:=by
 simp only [ran,List.mem_map,List.mem_range];exact ⟨λ⟨k,h,e⟩=>by omega,λ⟨h,k⟩=>⟨i.toNat,by omega,by omega⟩⟩
theorem bU{j:Int}{k:Nat}{g:G}:next (.rng 0 j.toNat) k g=some ((ran j).map U.int)[k]? := by
 simp only [next,ran];by_cases h:k < j.toNat
 .simp [h]
 .simp [h]
theorem fF{n:Nat}{xs:List U}{k:Nat}{g:G}(h:g[n]? = some (.lst xs)):next (.lst n) k g=some xs[k]? := by
 simp only [next,h]
noncomputable def ah(P:Plan):List Pt:=(ran (P.w*P.s+1)).flatMap λx=>(ran (P.d*P.s+1)).map λy=>(x,y)
noncomputable def cf(P:Plan):List Pt:=(ah P).filter λp => !bz P p
theorem cu{P:Plan}{p:Pt}:p∈ah P ↔ aK P p=true:=by
 obtain ⟨x,y⟩:=p;simp only [ah,List.mem_flatMap,List.mem_map,ij,aK,Bool.and_eq_true,decide_eq_true_eq];constructor
 .rintro ⟨a,h1,b,h2,e⟩
  cases e;omega
 .intro h
  exact ⟨x,by omega,y,by omega,rfl⟩
theorem dZ{α β:Type}{f:α->List β}{B:Nat}:∀ {l:List α},(∀ a∈l,(f a).length<=B)->(l.flatMap f).length<=l.length*B
 | [],_=>by simp
 | a :: l,h=>by
  rw [List.flatMap_cons,List.length_append,List.length_cons,Nat.succ_mul];have h1:=h a (by simp)
  have h2:=dZ (f:=f) (B:=B) (l:=l) λb hb=>h b (by simp [hb])
  omega
theorem dW{P:Plan}(h:P.ok):(ah P).length<=625:=by
 have h1:=h.ws;have h2:=h.ds;have:=dZ (f:=λx=>(ran (P.d*P.s+1)).map λy=>((x,y):Pt)) (B:=25) (l:=ran (P.w*P.s+1)) λa _=>by simp [aQ];omega
 have h3:(ran (P.w*P.s+1)).length<=25:=by rw [aQ];omega
 have h4:(ran (P.w*P.s+1)).length*25<=25*25:=Nat.mul_le_mul_right _ h3;unfold ah;omega
theorem ai{g gs:G}{n:Nat}{o:O}(h:g[n]? = some o):(g++gs)[n]? = some o:=by
 rw [List.getElem?_append_left (List.getElem?_eq_some_iff.mp h).1];exact h
theorem bc{g:G}{o:O}:(g++[o])[g.length]? = some o:=by simp
theorem oO{g gs:G}{xs:List U}{Q:U->G->Prop}(h:dh g xs Q)(hl:xs.length<=16777000):xs.length<=16777000/\Q (.ref (g++gs).length) (g++gs++[.lst xs]):=by
 refine ⟨hl,?_⟩;have:=h (gs++[.lst xs]) (g++gs).length (by simp) (by rw [<-List.append_assoc];exact bc)
 rw [<-List.append_assoc] at this;exact this
noncomputable def lM(xs:List Int)(lo hi:Option Int):List Int:=(xs.drop (HT.sIx xs.length 0 lo)).take (HT.sIx xs.length xs.length hi - HT.sIx xs.length 0 lo)
theorem B6(ns:List Int)(l h:Option Int):bB (ns.map U.int) l h=(lM ns l h).map U.int:=by
 unfold bB lM;rw [List.length_map,<-List.map_drop,<-List.map_take]
noncomputable abbrev cM(c:Nat)(at_ seed:Int):O := .lst [.ref c,.int at_,.int seed]
noncomputable def Bag(g:G):Prop := ∃ (xs:List Int) (at_ seed:Int),g[1]? = some (.lst (xs.map .int))/\g[2]? = some (cM 1 at_ seed)
structure Fr(g g':G):Prop where
 bag:Bag g'
 len:g.length<=g'.length
 get:∀ (k:Nat) (o:O),3<=k->g[k]? = some o->g'[k]? = some o
theorem Bag.app{g gs:G}(h:Bag g):Bag (g++gs):=let ⟨xs,a,s,h1,h2⟩:=h;⟨xs,a,s,ai h1,ai h2⟩
theorem Bag.len{g:G}(h:Bag g):3<=g.length:=by obtain ⟨xs,a,s,h1,h2⟩:=h;exact (List.getElem?_eq_some_iff.mp h2).1
theorem Fr.app{g gs:G}(h:Bag g):Fr g (g++gs):=⟨h.app,by simp,λk o _ e=>ai e⟩
theorem Fr.refl{g:G}(h:Bag g):Fr g g:=⟨h,Kw _,λk o _ e=>e⟩
theorem Fr.trans{a b c:G}(h:Fr a b)(k:Fr b c):Fr a c:=⟨k.bag,Ku h.len k.len,λi o hi e=>k.get i o hi (h.get i o hi e)⟩
noncomputable def iY(xs:List Int)(at_:Int):Int:=if h:0 < xs.length then xs.getD (at_ % xs.length).toNat 0 else 0
theorem ky{xs:List Int}{at_:Int}(h:0 < xs.length):0<=at_ % (xs.length:Int)/\at_ % (xs.length:Int) < xs.length:=⟨Int.emod_nonneg _ (by omega),Int.emod_lt_of_pos _ (by omega)⟩
theorem A3{xs:List Int}{at_:Int}(h:0 < xs.length):uix (xs.map U.int) (at_ % xs.length)=some (.int (iY xs at_)):=by
 obtain ⟨h1,h2⟩:=ky (at_:=at_) h;rw [iM h1 (by simpa using h2)]
 have:(at_ % (xs.length:Int)).toNat < xs.length:=by omega
 simp [iY,h,List.getElem?_eq_getElem this,List.getD]
theorem Dp{xs:List Int}{at_:Int}(h:0 < xs.length):L2.ixN xs.length (at_ % xs.length)=some (at_ % xs.length).toNat:=by
 obtain ⟨h1,h2⟩:=ky (at_:=at_) h;unfold L2.ixN;rw [if_pos h1,if_pos h2]
theorem ft{P:Plan}{p:Pt}(h:0<=p.1/\p.1<=P.w*P.s/\0<=p.2/\p.2<=P.d*P.s):aK P p=true:=by
 simp only [aK,Bool.and_eq_true,decide_eq_true_eq];omega
noncomputable def dP(p:Pt):Dt := .tup [.int p.1,.int p.2]
theorem br{g:G}{i:Int}:Rep g (.int i) (.int i):=by simp only [Rep]
theorem bK{g:G}{p:Pt}:Rep g (dP p) (uP p):=by
 simp only [dP,Rep];refine ⟨_,rfl,?_⟩;simp only [Reps];exact ⟨_,_,rfl,br,_,_,rfl,br,rfl⟩
theorem pB{α:Type}{g:G}{f:α->Dt}{e:α->U}(h:∀ a,Rep g (f a) (e a)):∀ l:List α,Reps g (l.map f) (l.map e)
 | []=>by simp only [List.map_nil,Reps]
 | a :: l=>by simp only [List.map_cons,Reps];exact ⟨_,_,rfl,h a,pB h l⟩
theorem dD{n:Nat}{i:Int}:(Dt.int i).ok (n+1):=by simp [Dt.ok]
theorem fk{n:Nat}{p:Pt}:(dP p).ok (n+2):=by
 unfold dP;rw [Dt.ok_tup];refine ⟨by simp,λD h => ?_⟩
 simp at h;rcases h with rfl | rfl <;> exact dD
theorem jV:op2 .pow (.int 10) (.int 18)=some (.int 1000000000000000000):=by simp [op2,opZ]
theorem CS:op2 .pow (.int 10) (.int 9)=some (.int 1000000000):=by simp [op2,opZ]
theorem jI{n:Nat}{xs:List U}{k:Int}{u:U}{σ:Su}{g:G}(h:g[n]? = some (.lst xs))(h0:0<=k)(h1:k < xs.length):subAt (.ref n) (.int k) u σ g=.ok (.nx σ) (g.set n (.lst (xs.set k.toNat u))):=by
 simp only [subAt,lF,h];unfold L2.ixN;rw [if_pos h0,if_pos h1]
theorem jM{n:Nat}{xs:List U}{y:U}{g:G}(h:g[n]? = some (.lst xs))(hl:xs.length < 16777000):bO n y g=.ok .non (g.set n (.lst (xs++[y]))):=by
 simp only [bO,h];rw [if_pos (by simpa [aj] using hl)]
theorem zN{xs:List U}{y:U}{g:G}(hl:xs.length < 16777000):bO g.length y (g++[.lst xs])=.ok .non (g++[.lst (xs++[y])]):=by
 rw [jM bc hl];simp
theorem bV{g:G}{n:Nat}{o o':O}(h:g[n]? = some o):(g.set n o')[n]? = some o':=List.getElem?_set_self (List.getElem?_eq_some_iff.mp h).1
theorem Fr.set1{g:G}(h:Bag g)(xs:List Int):Fr g (g.set 1 (.lst (xs.map U.int))):=by
 obtain ⟨ys,a,s,h1,h2⟩:=h;refine ⟨⟨xs,a,s,bV h1,by rw [List.getElem?_set_ne (by decide)];exact h2⟩,by simp,λk o hk e=>by rw [List.getElem?_set_ne (by omega)];exact e⟩
theorem Fr.set2{g:G}(h:Bag g)(a' s':Int):Fr g (g.set 2 (cM 1 a' s')):=by
 obtain ⟨ys,a,s,h1,h2⟩:=h;refine ⟨⟨ys,a',s',by rw [List.getElem?_set_ne (by decide)];exact h1,bV h2⟩,by simp,λk o hk e=>by rw [List.getElem?_set_ne (by omega)];exact e⟩
noncomputable def stride(p:Pt):Int:=if p.1 % 4=0/\p.2 % 4=0 then 4 else if p.1 % 2=0/\p.2 % 2=0 then 2 else 1
theorem fE(p:Pt):(stride p=4/\p.1 % 4=0/\p.2 % 4=0)\/(stride p=2/\p.1 % 2=0/\p.2 % 2=0)\/stride p=1:=by
 unfold stride;by_cases h:p.1 % 4=0/\p.2 % 4=0
 .rw [if_pos h];exact .inl ⟨rfl,h⟩
 .rw [if_neg h]
  by_cases k:p.1 % 2=0/\p.2 % 2=0
  .rw [if_pos k];exact .inr (.inl ⟨rfl,k⟩)
  .rw [if_neg k];exact .inr (.inr rfl)
theorem fq(p:Pt):0 < stride p/\stride p<=4:=by rcases fE p with ⟨e,_⟩ | ⟨e,_⟩ | e <;> rw [e] <;> decide
theorem md(p:Pt):small (stride p):=by rcases fE p with ⟨e,_⟩ | ⟨e,_⟩ | e <;> rw [e] <;> exact bS (by decide)
theorem hZ(p:Pt):stride p < aw:=by rcases fE p with ⟨e,_⟩ | ⟨e,_⟩ | e <;> rw [e] <;> decide
theorem nU(p:Pt):2*stride p < aw:=by rcases fE p with ⟨e,_⟩ | ⟨e,_⟩ | e <;> rw [e] <;> decide
noncomputable def bX(p:Pt):Bool:=decide (p.1 / stride p % 2=1) && decide (p.2 / stride p % 2=1)
noncomputable abbrev Pr:=Pt×Pt
noncomputable def lying(p:Pt):Pr:=((p.1 - stride p,p.2),(p.1+stride p,p.2))
noncomputable def upright(p:Pt):Pr:=((p.1,p.2 - stride p),(p.1,p.2+stride p))
noncomputable def rising(p:Pt):Pr:=((p.1 - stride p,p.2 - stride p),(p.1+stride p,p.2+stride p))
noncomputable def falling(p:Pt):Pr:=((p.1 - stride p,p.2+stride p),(p.1+stride p,p.2 - stride p))
noncomputable def cZ(p:Pt):Pr×Pr:=if p.1 / stride p % 2=1 then (lying p,upright p) else (upright p,lying p)
noncomputable def eT(p:Pt):Prop:=((p.1 - stride p) / (2*stride p)+(p.2 - stride p) / (2*stride p)) % 2=0
instance(p:Pt):Decidable (eT p):=by unfold eT;infer_instance
noncomputable def cR(p:Pt):Pr×Pr:=if eT p then (rising p,falling p) else (falling p,rising p)
noncomputable def af(p:Pt):Pr×Pr:=if bX p=true then cR p else cZ p
noncomputable abbrev u2(q:Pr):U := .tup [uP q.1,uP q.2]
noncomputable abbrev u4(q:Pr×Pr):U := .tup [u2 q.1,u2 q.2]
theorem Ah{p:Pt}(h:bX p=true):(p.1 - stride p+p.2 - stride p) / (2*stride p) % 2=0 ↔ eT p:=by
 have hd:2*stride p ∣ p.1 - stride p:=by
  simp only [bX,Bool.and_eq_true,decide_eq_true_eq] at h;have h:=h.1;rcases fE p with ⟨e,f⟩ | ⟨e,f⟩ | e <;> rw [e] at h ⊢ <;> omega
 unfold eT;rw [show p.1 - stride p+p.2 - stride p=(p.1 - stride p)+(p.2 - stride p) from Int.add_sub_assoc ..,Int.add_ediv_of_dvd_left hd]
theorem nN{P:Plan}{p:Pt}:p∈cf P ↔ aK P p=true/\bz P p=false:=by
 unfold cf;rw [List.mem_filter,cu];simp
noncomputable def xA:List Plan:=[1,2,3].flatMap λw=>[1,2,3].flatMap λd=>[2,4,8].map λs=>⟨w,d,s⟩
theorem nO{P:Plan}(h:P.ok):P∈xA:=by
 have m3:∀ {x a b c:Int},x=a\/x=b\/x=c->x∈[a,b,c]:=λh=>by simpa using h
 exact List.mem_flatMap.mpr ⟨P.w,m3 h.w,List.mem_flatMap.mpr ⟨P.d,m3 h.d,List.mem_map.mpr ⟨P.s,m3 h.s,rfl⟩⟩⟩
theorem il{g:G}{Q:U->G->Prop}{p q:List U}{a b c d:O}{i j n m:Nat}(h:∀ gs n i j,(g++gs)[n]? = some (.lst [.ref i,.ref j])->(g++gs)[i]? = some (.lst p)->(g++gs)[j]? = some (.lst q)->Q (.ref n) (g++gs))(hi:[a,b,c,d][i]? = some (.lst p))(hj:[a,b,c,d][j]? = some (.lst q))(hn:n=g.length+i)(hm:m=g.length+j):
  Q (.ref (g++[a]++[b]++[c]++[d]).length) (g++[a]++[b]++[c]++[d]++[.lst [.ref n,.ref m]]):=by
 subst hn hm;have key:∀ (k:Nat) (o:O),[a,b,c,d][k]? = some o->(g++([a,b,c,d]++[.lst [.ref (g.length+i),.ref (g.length+j)]]))[g.length+k]? = some o:=λk o e=>by
  rw [List.getElem?_append_right (by omega),Nat.add_sub_cancel_left]
  exact ai e
 have:=h ([a,b,c,d]++[.lst [.ref (g.length+i),.ref (g.length+j)]]) (g++[a]++[b]++[c]++[d]).length (g.length+i) (g.length+j) (by simp) (key i _ hi) (key j _ hj)
 simpa using this
theorem wV{k i:Int}{xs:List U}:uin (.int k) (.int i :: xs)=(uin (.int k) xs).map λc=>decide (i=k) || c:=by
 simp only [uin,ueq,aH];cases uin (.int k) xs with
 | none=>rfl
 | some c=>simp only [Option.map_some];congr 1
theorem qD{x:U}:uin x []=some false:=rfl
noncomputable def d2(q:Pr):Dt := .tup [dP q.1,dP q.2]
theorem iA{α:Type}{l:List α}{f:α->U}{i:Int}(h0:0<=i)(h:i < l.length):∃ a∈l,uix (l.map f) i=some (f a):=by
 have hi:i.toNat < l.length:=by omega
 refine ⟨l[i.toNat],List.getElem_mem hi,?_⟩;rw [iM h0 (by simpa using h)]
 simp [hi]
theorem Ji{P:Plan}(h:P.ok):((1,1):Pt)∈cf P:=by
 have h1:=h.ws;have h2:=h.ds;refine nN.mpr ⟨ft (by simp only [];omega),?_⟩
 rcases h.s with e | e | e <;> simp [bz,e]
theorem AG{P:Plan}(h:P.ok):0 < (cf P).length/\(cf P).length<=625 :=
 ⟨List.length_pos_of_mem (Ji h),Ku (List.length_filter_le _ _) (dW h)⟩
noncomputable def ltP(p q:Pt):Prop:=p.1 < q.1\/(p.1=q.1/\p.2 < q.2)
instance(p q:Pt):Decidable (ltP p q):=by unfold ltP;infer_instance
theorem Ab{p q:Pt}(h:ltP p q)(k:ltP q p):False:=by unfold ltP at h k;omega
theorem B3{p:Pt}(h:ltP p p):False:=Ab h h
theorem nk(n:Int):(ran n).Pairwise (· < ·):=by
 unfold ran;rw [List.pairwise_map];exact List.Pairwise.imp (λh=>by omega) (List.pairwise_lt_range (n:=n.toNat))
theorem y9(P:Plan):(ah P).Pairwise ltP:=by
 unfold ah;rw [List.pairwise_flatMap];refine ⟨λx _ => ?_,?_⟩
 .rw [List.pairwise_map]
  exact (nk _).imp λh => .inr ⟨rfl,h⟩
 .refine (nk _).imp λ{x y} h p hp q hq => ?_
  obtain ⟨_,_,rfl⟩:=List.mem_map.mp hp;obtain ⟨_,_,rfl⟩:=List.mem_map.mp hq;exact .inl h
structure Tri where
 ax:Int
 ay:Int
 bx:Int
 bY:Int
 cx:Int
 cy:Int
deriving DecidableEq
noncomputable abbrev uT(t:Tri):U := .tup [.int t.ax,.int t.ay,.int t.bx,.int t.bY,.int t.cx,.int t.cy]
noncomputable def uO(o:Option Pt):U:=match o with
 | none => .non
 | some p=>uP p
noncomputable def bw(i j s:Int):List Tri:=if (i+j) % 2=0 then [⟨i*s,j*s,i*s+s,j*s+s,i*s+s,j*s⟩,⟨i*s+s,j*s+s,i*s,j*s,i*s,j*s+s⟩]
 else [⟨i*s+s,j*s,i*s,j*s+s,i*s+s,j*s+s⟩,⟨i*s,j*s+s,i*s+s,j*s,i*s,j*s⟩]
theorem gQ(i j s:Int):(bw i j s).length=2:=by unfold bw;split <;> rfl
noncomputable def cV(P:Plan):List Tri:=(ran P.w).flatMap λi=>(ran P.d).flatMap λj=>bw i j P.s
noncomputable def dz(t:Tri):Option Pt:=if (t.ax+t.bx) % 2=1\/(t.ay+t.bY) % 2=1 then none else some ((t.ax+t.bx) / 2,(t.ay+t.bY) / 2)
noncomputable def kI(t:Tri)(m:Pt):List Tri:=[⟨t.ax,t.ay,t.cx,t.cy,m.1,m.2⟩,⟨t.cx,t.cy,t.bx,t.bY,m.1,m.2⟩]
noncomputable def aN(t:Tri):List Tri:=match dz t with
 | none=>[]
 | some m=>kI t m
theorem ma{t:Tri}{m:Pt}(h:dz t=some m):aN t=kI t m:=by unfold aN;rw [h]
theorem zq{t:Tri}(h:dz t=none):aN t=[]:=by unfold aN;rw [h]
noncomputable def df:Nat->Tri->List Tri
 | 0,t=>[t]
 | n+1,t=>t :: (aN t).flatMap (df n)
noncomputable def bD:Nat->Tri->Bool
 | 0,t=>(aN t).isEmpty
 | n+1,t=>(aN t).all (bD n)
noncomputable def aS(t:Tri):List Tri:=df 7 t
theorem jG{α β:Type}{f g:α->List β}:∀ {l:List α},(∀ x∈l,f x=g x)->l.flatMap f=l.flatMap g
 | [],_=>rfl
 | a :: l,h=>by rw [List.flatMap_cons,List.flatMap_cons,h a (by simp),jG λx hx=>h x (by simp [hx])]
theorem nt:∀ (n:Nat) (t:Tri),bD n t=true->df (n+1) t=df n t
 | 0,t,h=>by
  have:aN t=[]:=List.isEmpty_iff.mp h;simp [df,this]
 | n+1,t,h=>by
  have h':=List.all_eq_true.mp h;show t :: (aN t).flatMap (df (n+1))=t :: (aN t).flatMap (df n);rw [jG λx hx=>nt n x (h' x hx)]
theorem nV:∀ (n:Nat) (t:Tri),bD n t=true->bD (n+1) t=true
 | 0,t,h=>by
  have:aN t=[]:=List.isEmpty_iff.mp h;simp [bD,this]
 | n+1,t,h=>List.all_eq_true.mpr λx hx=>nV n x (List.all_eq_true.mp h x hx)
theorem ow{t x:Tri}(h:bD 7 t=true)(hx:x∈aN t):bD 6 x=true:=List.all_eq_true.mp h x hx
theorem pd{t:Tri}(h:bD 7 t=true):aS t=t :: (aN t).flatMap aS:=by
 show t :: (aN t).flatMap (df 6)=_;rw [jG λx hx=>(nt 6 x (ow h hx)).symm]
 rfl
theorem AF(t:Tri):0 < (aS t).length:=by show 0 < (t :: _).length;simp
noncomputable def shapesM(P:Plan):List Tri:=(cV P).flatMap aS
theorem nG:(xA.all λP=>(cV P).all (bD 7) && decide (((shapesM P).length:Int)=P.w*P.d*(4*P.s*P.s - 2)) && decide ((shapesM P).length<=2286))=true:=by decide +kernel
theorem AN{P:Plan}(h:P.ok){t:Tri}(ht:t∈cV P):bD 7 t=true:=by
 have:=List.all_eq_true.mp nG P (nO h);simp only [Bool.and_eq_true,List.all_eq_true] at this;exact this.1.1 t ht
theorem ni{P:Plan}(h:P.ok):((shapesM P).length:Int)=P.w*P.d*(4*P.s*P.s - 2)/\(shapesM P).length<=2286:=by
 have:=List.all_eq_true.mp nG P (nO h);simp only [Bool.and_eq_true,decide_eq_true_eq] at this;exact ⟨this.1.2,this.2⟩
theorem zU{P:Plan}(h:P.ok):(cV P).length<=18:=by
 have a:∀ i,((ran P.d).flatMap λj=>bw i j P.s).length<=6:=λi=>by
  have:=dZ (f:=λj=>bw i j P.s) (B:=2) (l:=ran P.d) λj _=>Nat.le_of_eq (gQ i j P.s);have h2:(ran P.d).length<=3:=by rw [aQ];rcases h.d with e | e | e <;> rw [e] <;> decide
  omega
 have:=dZ (f:=λi=>(ran P.d).flatMap λj=>bw i j P.s) (B:=6) (l:=ran P.w) λi _=>a i;have h2:(ran P.w).length<=3:=by rw [aQ];rcases h.w with e | e | e <;> rw [e] <;> decide
 unfold cV;omega
theorem Am{n:Nat}{xs:List U}{y:U}{g:G}(h:g[n]? = some (.lst (xs++[y]))):b8 n g=.ok y (g.set n (.lst xs)):=by
 simp only [b8,h];simp
theorem Ap{n m:Nat}{xs ys:List U}{g:G}(h:g[n]? = some (.lst xs))(k:g[m]? = some (.lst ys))(hl:xs.length+ys.length < 16777000):cK n (.ref m) g=.ok .non (g.set n (.lst (xs++ys))):=by
 simp only [cK,asL,h,k];rw [if_pos (by simpa [aj] using hl)]
theorem JS{t:Tri}{g:G}:gw (uT t) none (some 4) g=.ok (.tup [.int t.ax,.int t.ay,.int t.bx,.int t.bY]) g:=rfl
noncomputable def dT(t:Tri):Dt := .tup [.int t.ax,.int t.ay,.int t.bx,.int t.bY,.int t.cx,.int t.cy]
theorem oU{α β:Type}{f:α->List β}:∀ {l:List α},(∀ x∈l,0 < (f x).length)->l.length<=(l.flatMap f).length
 | [],_=>by simp
 | a :: l,h=>by
  rw [List.flatMap_cons,List.length_append,List.length_cons];have h1:=h a (by simp)
  have h2:=oU (l:=l) λx hx=>h x (by simp [hx])
  omega
theorem mq{α β:Type}{f:α->List β}:∀ {l:List α},(l.reverse.flatMap f).length=(l.flatMap f).length
 | []=>rfl
 | a :: l=>by
  rw [List.reverse_cons,List.flatMap_append,List.length_append,mq,List.flatMap_cons,List.length_append];simp;omega
theorem Dy{α:Type}{l:List α}{a:α}:(l++[a]).isEmpty=false:=by cases l <;> rfl
theorem o9{g B gs:G}{a b:O}:(g++a :: (B++b :: gs))[g.length]? = some a:=by simp
theorem hY{g B gs:G}{a b:O}:(g++a :: (B++b :: gs))[g.length+1+B.length]? = some b:=by
 rw [List.getElem?_append_right (by omega),show g.length+1+B.length - g.length=B.length+1 by omega,List.getElem?_cons_succ,List.getElem?_append_right (by omega)]
 simp
theorem Bz{g B gs:G}{a b c:O}:(g++a :: (B++b :: gs)).set g.length c=g++c :: (B++b :: gs):=by simp
theorem pC{g B gs:G}{a b c:O}:(g++a :: (B++b :: gs)).set (g.length+1+B.length) c=g++a :: (B++c :: gs):=by
 rw [List.set_append_right _ _ (by omega),show g.length+1+B.length - g.length=B.length+1 by omega,List.set_cons_succ,List.set_append_right _ _ (by omega)]
 simp
theorem j3{g B gs hs:G}{a b:O}:g++a :: (B++b :: gs)++hs=g++a :: (B++b :: (gs++hs)):=by simp
theorem j0(i:Int):(if i < 0 then -i else i)=(i.natAbs:Int):=by split <;> omega
noncomputable def big(i:Int):Prop := -aw < i/\i < aw
theorem a6{i j:Int}(h:big i)(k:big j):op2 .mul (.int i) (.int j)=some (.int (i*j)):=by
 obtain ⟨h1,h2⟩:=h;obtain ⟨k1,k2⟩:=k;simp [op2,opZ,h1,h2,k1,k2]
noncomputable def fdv(i j:Int):Int:=if 0 < j then i / j else i.fdiv j
theorem iN{i j:Int}(h0:j≠0)(h:big j):op2 .fdiv (.int i) (.int j)=some (.int (fdv i j)):=by
 obtain ⟨h1,h2⟩:=h;unfold fdv;simp only [op2,opZ];by_cases h:0 < j
 .simp [h,h2]
 .simp [h,h0,h1]
noncomputable def a9(a b:Int):Int:=if b < 0 then -(Nat.gcd a.natAbs b.natAbs:Int) else (Nat.gcd a.natAbs b.natAbs:Int)
noncomputable def lowM(a b:Int):Pt:=(fdv a (a9 a b),fdv b (a9 a b))
theorem kA{a b:Int}(hb:b≠0):0 < Nat.gcd a.natAbs b.natAbs/\Nat.gcd a.natAbs b.natAbs<=b.natAbs:=by
 have h:0 < b.natAbs:=by omega
 exact ⟨Nat.gcd_pos_of_pos_right _ h,Nat.le_of_dvd h (Nat.gcd_dvd_right _ _)⟩
theorem qp{a b:Int}(hb:b≠0)(h:big b):a9 a b≠0/\big (a9 a b):=by
 obtain ⟨h1,h2⟩:=kA (a:=a) hb;obtain ⟨h3,h4⟩:=h;unfold a9 big;split <;> omega
noncomputable def mid(i:Int):Prop := -10000000000000000000000000000 < i/\i < 10000000000000000000000000000
theorem mid.big{i:Int}(h:mid i):big i:=by unfold mid at h;unfold PI.big aw;omega
theorem Df{a b:Int}(ha:mid a)(hb:mid b): -100000000000000000000000000000000000000000000000000000000 < a*b/\a*b < 100000000000000000000000000000000000000000000000000000000:=by
 have h:(a*b).natAbs=a.natAbs*b.natAbs:=Int.natAbs_mul a b;have h1:a.natAbs*b.natAbs<=9999999999999999999999999999*9999999999999999999999999999:=by
  unfold mid at ha hb;exact Nat.mul_le_mul (by omega) (by omega)
 omega
structure NT where
 a:Nat
 b:Nat
 c:Nat
 d:Nat
 e:Nat
 f:Nat
noncomputable def ub(x y z v:Nat):Bool:=Nat.ble v x || (Nat.ble v y || Nat.ble v z)
noncomputable def gC(t:Tri):List Int:=[t.ax,t.ay,t.bx,t.bY,t.cx,t.cy]
theorem n4{kvs:List (List Int×U)}{k:List Int}:(aF kvs k).isSome=kvs.any λkv=>decide (kv.1=k):=by
 unfold aF
 induction kvs with
 | nil=>rfl
 | cons a r ih =>
  rw [List.find?_cons,List.any_cons];cases decide (a.1=k) with
  | true=>rfl
  | false=>simpa using ih
theorem pv{kvs:List (List Int×U)}{k:List Int}{v:U}:(dput kvs k v).length<=kvs.length+1:=by
 unfold dput;split <;> simp
theorem gU{n:Nat}{kvs:List (List Int×U)}{us:List U}{k:List Int}{u:U}{σ:Su}{g:G}(h:g[n]? = some (.dic kvs))(hk:intsOf us=some k)(hl:kvs.length < 16777000):subAt (.ref n) (.tup us) u σ g=.ok (.nx σ) (g.set n (.dic (dput kvs k u))):=by
 simp only [subAt,lr,h,hk];rw [if_pos (by simpa [aj] using hl)]
theorem fz{n:Nat}{kvs:List (List Int×U)}{us:List U}{k:List Int}{g:G}(h:g[n]? = some (.dic kvs))(hk:intsOf us=some k):aB (.tup us) (.ref n) g=some (aF kvs k):=by
 simp only [aB,asD,h,keyOf,hk,Option.map_some]
noncomputable def yX(a b:Int):List Int:=(List.range (b - a).toNat).map λ(i:Nat)=>a+(i:Int)
noncomputable abbrev lK(t:Tri):Int:=best true t.ax [t.bx,t.cx]
noncomputable abbrev lz(t:Tri):Int:=best true t.ay [t.bY,t.cy]
noncomputable abbrev kZ(t:Tri):Int:=best false t.ax [t.bx,t.cx]
noncomputable abbrev lx(t:Tri):Int:=best false t.ay [t.bY,t.cy]
noncomputable def Fu(t:Tri)(p:Pt):Bool:=decide (lK t<=p.1) && decide (p.1<=kZ t) && (decide (lz t<=p.2) && decide (p.2<=lx t))
noncomputable def kQ(ax ay bx by_:Int)(p:Pt):Int:=(bx - ax)*(p.2 - ay) - (by_ - ay)*(p.1 - ax)
noncomputable abbrev tu1(t:Tri)(p:Pt):Int:=kQ t.ax t.ay t.bx t.bY p
noncomputable abbrev tu2(t:Tri)(p:Pt):Int:=kQ t.bx t.bY t.cx t.cy p
noncomputable abbrev tu3(t:Tri)(p:Pt):Int:=kQ t.cx t.cy t.ax t.ay p
noncomputable def C9(t:Tri)(p:Pt):Bool:=Fu t p && (decide (0<=best true (tu1 t p) [tu2 t p,tu3 t p]) || decide (best false (tu1 t p) [tu2 t p,tu3 t p]<=0))
noncomputable def underM(t:Tri):List Pt:=(yX (lK t) (kZ t+1)).flatMap λx=>((yX (lz t) (lx t+1)).filter λy=>C9 t (x,y)).map λy=>(x,y)
noncomputable def FZ(a b c:Pt):Int:=(b.1 - a.1)*(c.2 - a.2) - (c.1 - a.1)*(b.2 - a.2)
noncomputable def ptA(t:Tri):Pt:=(t.ax,t.ay)
noncomputable def ptB(t:Tri):Pt:=(t.bx,t.bY)
noncomputable def ptC(t:Tri):Pt:=(t.cx,t.cy)
theorem nJ{a b c x:Int}:x<=best true a [b,c] ↔ x<=a/\x<=b/\x<=c:=by
 simp only [best,List.foldl_cons,List.foldl_nil,if_true];split <;> split <;> omega
theorem nZ{a b c x:Int}:best false a [b,c]<=x ↔ a<=x/\b<=x/\c<=x:=by
 simp only [best,List.foldl_cons,List.foldl_nil,Bool.false_eq_true,if_false];split <;> split <;> omega
noncomputable def nearT(t:Tri):Prop:=(-100<=t.ax/\t.ax<=100)/\(-100<=t.ay/\t.ay<=100)/\(-100<=t.bx/\t.bx<=100)/\(-100<=t.bY/\t.bY<=100)/\(-100<=t.cx/\t.cx<=100)/\(-100<=t.cy/\t.cy<=100)
theorem nearT.box{t:Tri}(h:nearT t): -100<=lK t/\kZ t<=100 /\ -100<=lz t/\lx t<=100:=by
 obtain ⟨a,b,c,d,e,f⟩:=h;refine ⟨nJ.mpr (by omega),nZ.mpr (by omega),nJ.mpr (by omega),nZ.mpr (by omega)⟩
section
variable{fns:List Fn}{d:Nat}{σ:Su}{X:XP}
end
theorem oM{k k':List Int}{v:U}:∀ {kvs:List (List Int×U)},((kvs.map λkv=>if kv.1=k then (kv.1,v) else kv).find? λkv=>decide (kv.1=k'))=(kvs.find? λkv=>decide (kv.1=k')).map λkv=>if kv.1=k then (kv.1,v) else kv
 | []=>rfl
 | a :: r=>by
  have ih:=oM (k:=k) (k':=k') (v:=v) (kvs:=r);rw [List.map_cons,List.find?_cons,List.find?_cons];have e:decide ((if a.1=k then (a.1,v) else a).1=k')=decide (a.1=k'):=by split <;> rfl
  rw [e];cases decide (a.1=k') with
  | true=>rfl
  | false=>exact ih
theorem nQ{kvs:List (List Int×U)}{k k':List Int}{v:U}:aF (dput kvs k v) k'=if k=k' then some v else aF kvs k':=by
 by_cases h:(kvs.any λkv=>decide (kv.1=k))=true
 .unfold dput
  rw [if_pos h];unfold aF;rw [oM];have hs:=n4 (kvs:=kvs) (k:=k);rw [h] at hs;unfold aF at hs;cases hf:kvs.find? (λkv=>decide (kv.1=k')) with
  | none =>
   by_cases e:k=k'
   .subst e;rw [hf] at hs;simp at hs
   .rw [if_neg e];rfl
  | some kv =>
   have:=List.find?_some hf;simp only [decide_eq_true_eq] at this;by_cases e:k=k'
   .subst e;simp [this]
   .have e' : ¬ k'=k:=λz=>e z.symm
    rw [if_neg e];simp [this,e']
 .unfold dput
  rw [if_neg h];unfold aF;rw [List.find?_append];by_cases e:k=k'
  .subst e
   have hs:=n4 (kvs:=kvs) (k:=k);rw [Bool.not_eq_true] at h;rw [h] at hs;have hn:kvs.find? (λkv=>decide (kv.1=k))=none:=by
    unfold aF at hs;cases hf:kvs.find? (λkv=>decide (kv.1=k)) with
    | none=>rfl
    | some kv=>rw [hf] at hs;simp at hs
   rw [hn];simp
  .rw [if_neg e]
   cases hf:kvs.find? (λkv=>decide (kv.1=k')) with
   | none=>simp [e]
   | some kv=>simp
noncomputable def aq(p:Pt):List Int:=[p.1,p.2]
theorem cw{p q:Pt}(h:aq p=aq q):p=q:=by
 obtain ⟨a,b⟩:=p;obtain ⟨c,d⟩:=q;simpa [aq] using h
theorem bN{a b:Int}:intsOf [.int a,.int b]=some (aq (a,b)):=rfl
noncomputable def dM{α:Type}(key:α->List Int)(f:α->U)(ps:List α):List (List Int×U):=ps.map λq=>(key q,f q)
theorem eL{α:Type}{key:α->List Int}(hi:∀ a b,key a=key b->a=b){f:α->U}{a:α}:∀ {ps:List α},a∈ps->aF (dM key f ps) (key a)=some (f a)
 | [],h=>nomatch h
 | b :: r,h=>by
  unfold aF dM;rw [List.map_cons,List.find?_cons];by_cases e:key b=key a
  .have:=hi _ _ e;subst this;simp
  .have h':a∈r:=by
    rcases List.mem_cons.mp h with z | z
    .subst z;exact absurd rfl e
    .exact z
   have ih:=eL hi (f:=f) h';unfold aF dM at ih;simp only [e,decide_false];exact ih
theorem o8{α:Type}[DecidableEq α]{key:α->List Int}(hi:∀ a b,key a=key b->a=b){f:α->U}{a:α}{v:U}{ps:List α}(h:a ∉ ps):dput (dM key f ps) (key a) v=dM key (λq=>if q=a then v else f q) (ps++[a]):=by
 unfold dput;rw [if_neg]
 .unfold dM
  rw [List.map_append];congr 1
  .refine List.map_congr_left λq hq => ?_
   show (key q,f q)=(key q,if q=a then v else f q)
   rw [if_neg (λe=>h (by rw [<-e];exact hq))]
  .simp
 .intro hc
  simp only [dM,List.any_map,List.any_eq_true,Function.comp,decide_eq_true_eq] at hc;obtain ⟨q,hq,e⟩:=hc;exact h (by rw [<-hi _ _ e];exact hq)
theorem Bn{α:Type}[DecidableEq α]{key:α->List Int}(hi:∀ a b,key a=key b->a=b){f:α->U}{a:α}{v:U}{ps:List α}(h:a∈ps):dput (dM key f ps) (key a) v=dM key (λq=>if q=a then v else f q) ps:=by
 unfold dput;rw [if_pos]
 .unfold dM
  rw [List.map_map];refine List.map_congr_left λq hq => ?_;simp only [Function.comp];by_cases e:q=a
  .subst e;simp
  .rw [if_neg (λz=>e (hi _ _ z)),if_neg e]
 .simp only [dM,List.any_map,List.any_eq_true,Function.comp,decide_eq_true_eq]
  exact ⟨a,h,rfl⟩
theorem oe{α:Type}(key:α->List Int)(e:α->U)(hk:∀ a,keyOf (e a)=some (key a))(v:U):∀ (ts:List α) (kvs:List (List Int×U)),∃ kvs',dfold (ts.map λt => .tup [e t,v]) kvs=some kvs'/\kvs'.length<=kvs.length+ts.length /\ ∀ k,aF kvs' k=if k∈ts.map key then some v else aF kvs k
 | [],kvs=>⟨kvs,rfl,by simp,λk=>by simp⟩
 | t :: ts,kvs=>by
  obtain ⟨kvs',h1,h2,h3⟩:=oe key e hk v ts (dput kvs (key t) v);refine ⟨kvs',?_,?_,λk => ?_⟩
  .rw [List.map_cons]
   show (eQ kvs (.tup [e t,v])).bind _=_;simp only [eQ,hk,Option.map_some,Option.bind_some];exact h1
  .have:=pv (kvs:=kvs) (k:=key t) (v:=v)
   rw [List.length_cons];omega
  .rw [h3,nQ]
   by_cases e1:k∈ts.map key
   .rw [if_pos e1,if_pos (by rw [List.map_cons];exact Kx _ e1)]
   .rw [if_neg e1]
    by_cases e2:key t=k
    .subst e2;rw [if_pos rfl,if_pos (by simp)]
    .rw [if_neg e2,if_neg]
     rw [List.map_cons,List.mem_cons];exact λz=>z.elim (λz=>e2 z.symm) e1
noncomputable def enL(xs:List U):List U:=(List.range xs.length).map λ(i:Nat) => .tup [.int (i:Int),(xs[i]?).getD .non]
theorem jY{xs:List U}{k:Nat}:(enL xs)[k]? = (xs[k]?).map λu => .tup [.int k,u]:=by
 unfold enL;by_cases h:k < xs.length
 .simp [h]
 .simp [h]
theorem qu{xs:List U}:(enL xs).length=xs.length:=by simp [enL]
theorem oS{id k:Nat}{g:G}{xs:List U}(h:g[id]? = some (.lst xs)):next (.enm id) k g=some (enL xs)[k]? := by
 simp only [next,h,jY]
theorem ph{id k:Nat}{g:G}{α:Type}{key:α->List Int}{f:α->U}{ps:List α}(h:g[id]? = some (.dif (dM key f ps))):next (.dic id) k g=some (ps.map λp=>U.tup ((key p).map .int))[k]? := by
 simp only [next,h,dM,List.getElem?_map];cases ps[k]? <;> rfl
theorem AJ{n:Nat}{kvs:List (List Int×U)}{us:List U}{k:List Int}{g:G}(h:g[n]? = some (.dif kvs))(hk:intsOf us=some k):aB (.tup us) (.ref n) g=some (aF kvs k):=by
 simp only [aB,asD,h,keyOf,hk,Option.map_some]
theorem Bh{u:U}{kvs:List (List Int×U)}{us:List U}{k:List Int}{g:G}(h:asD u g=some kvs)(hk:intsOf us=some k):aB (.tup us) u g=some (aF kvs k):=by
 simp only [aB,h,keyOf,hk,Option.map_some]
noncomputable def kj(t:Tri):Int:=(t.bx - t.ax)*(t.cy - t.ay) - (t.bY - t.ay)*(t.cx - t.ax)
noncomputable def vo(t:Tri)(a b c:Int):Int:=(b - a)*(t.cy - t.ay) - (c - a)*(t.bY - t.ay)
noncomputable def uw(t:Tri)(a b c:Int):Int:=(c - a)*(t.bx - t.ax) - (b - a)*(t.cx - t.ax)
noncomputable def I8(t:Tri)(a b c:Int):Int:=a*kj t - vo t a b c*t.ax - uw t a b c*t.ay
noncomputable abbrev Ht:=Pt->Int
noncomputable abbrev riH(H:Ht)(t:Tri):Int:=vo t (H (ptA t)) (H (ptB t)) (H (ptC t))
noncomputable abbrev clH(H:Ht)(t:Tri):Int:=uw t (H (ptA t)) (H (ptB t)) (H (ptC t))
noncomputable abbrev baH(H:Ht)(t:Tri):Int:=I8 t (H (ptA t)) (H (ptB t)) (H (ptC t))
noncomputable def Kc(H:Ht)(t:Tri)(p:Pt):Int:=H p*kj t - (riH H t*p.1+clH H t*p.2+baH H t)
noncomputable def vd(H:Ht)(t:Tri)(p:Pt):Int:=((Kc H t p).natAbs:Int)
noncomputable def IB(H:Ht)(t:Tri)(a:Int×Option Pt)(p:Pt):Int×Option Pt:=if a.1 < vd H t p then (vd H t p,some p) else a
noncomputable def vL(H:Ht)(t:Tri):Int×Option Pt:=(underM t).foldl (IB H t) (-1,none)
noncomputable def Kn(H:Ht)(t:Tri):Pt:=lowM (vL H t).1 ((kj t).natAbs:Int)
noncomputable abbrev uG(H:Ht)(t:Tri):U := .tup [uP (Kn H t),uO (vL H t).2]
noncomputable def vj(a b:Pt):Prop:=a.1*b.2 < b.1*a.2
instance{a b:Pt}:Decidable (vj a b):=by unfold vj;infer_instance
structure Low(a:Pt):Prop where
 pos:0 < a.2
 cop:Nat.gcd a.1.natAbs a.2.natAbs=1
theorem fG{a b:Int}(hb:0 < b):Low (lowM a b):=by
 obtain ⟨h1,h2⟩:=kA (a:=a) (show b≠0 by omega)
 have hg:a9 a b=(Nat.gcd a.natAbs b.natAbs:Int):=by unfold a9;rw [if_neg (by omega)]
 have hpos:(0:Int) < (Nat.gcd a.natAbs b.natAbs:Int):=by omega
 have e1:(lowM a b).1=a / (Nat.gcd a.natAbs b.natAbs:Int):=by simp only [lowM,hg,fdv,if_pos hpos]
 have e2:(lowM a b).2=b / (Nat.gcd a.natAbs b.natAbs:Int):=by simp only [lowM,hg,fdv,if_pos hpos]
 obtain ⟨p,hp⟩:(Nat.gcd a.natAbs b.natAbs:Int) ∣ a:=Int.dvd_natAbs.mp (Int.ofNat_dvd.mpr (Nat.gcd_dvd_left _ _));obtain ⟨q,hq⟩:(Nat.gcd a.natAbs b.natAbs:Int) ∣ b:=Int.dvd_natAbs.mp (Int.ofNat_dvd.mpr (Nat.gcd_dvd_right _ _));have f1:(lowM a b).1=p:=by rw [e1];exact Int.ediv_eq_of_eq_mul_right (by omega) hp
 have f2:(lowM a b).2=q:=by rw [e2];exact Int.ediv_eq_of_eq_mul_right (by omega) hq
 have n1:a.natAbs=Nat.gcd a.natAbs b.natAbs*p.natAbs:=by
  have:=congrArg Int.natAbs hp;rwa [Int.natAbs_mul,Int.natAbs_natCast] at this
 have n2:b.natAbs=Nat.gcd a.natAbs b.natAbs*q.natAbs:=by
  have:=congrArg Int.natAbs hq;rwa [Int.natAbs_mul,Int.natAbs_natCast] at this
 refine ⟨?_,?_⟩
 .rw [f2]
  rcases Int.lt_or_le 0 q with h | h
  .exact h
  .have:=Int.mul_nonpos_of_nonneg_of_nonpos (show (0:Int)<=(Nat.gcd a.natAbs b.natAbs:Int) by omega) h
   omega
 .rw [f1,f2]
  have h3:Nat.gcd a.natAbs b.natAbs=Nat.gcd a.natAbs b.natAbs*Nat.gcd p.natAbs q.natAbs:=by
   have:=Nat.gcd_mul_left (Nat.gcd a.natAbs b.natAbs) p.natAbs q.natAbs;rw [<-n1,<-n2] at this;exact this
  exact Nat.eq_of_mul_eq_mul_left h1 (by rw [Nat.mul_one];exact h3.symm)
theorem GF{a b:Pt}(ha:Low a)(hb:Low b)(h:a.1*b.2=b.1*a.2):a=b:=by
 have hn:a.1.natAbs*b.2.natAbs=b.1.natAbs*a.2.natAbs:=by rw [<-Int.natAbs_mul,<-Int.natAbs_mul,h]
 have d1:a.2.natAbs ∣ b.2.natAbs:=by
  have c:Nat.Coprime a.2.natAbs a.1.natAbs:=by rw [Nat.Coprime,Nat.gcd_comm];exact ha.cop
  exact c.dvd_of_dvd_mul_left ⟨b.1.natAbs,by rw [hn,Nat.mul_comm]⟩
 have d2:b.2.natAbs ∣ a.2.natAbs:=by
  have c:Nat.Coprime b.2.natAbs b.1.natAbs:=by rw [Nat.Coprime,Nat.gcd_comm];exact hb.cop
  exact c.dvd_of_dvd_mul_left ⟨a.1.natAbs,by rw [<-hn,Nat.mul_comm]⟩
 have e:=Nat.dvd_antisymm d1 d2;have p1:=ha.pos;have p2:=hb.pos;have e2:a.2=b.2:=by omega
 have e1:a.1=b.1:=by
  rw [e2] at h;exact Int.eq_of_mul_eq_mul_right (by omega) h
 exact Prod.ext e1 e2
theorem gO{P:Plan}{p:Pt}:aK P p=true ↔ 0<=p.1/\p.1<=P.w*P.s/\0<=p.2/\p.2<=P.d*P.s:=by
 simp only [aK,Bool.and_eq_true,decide_eq_true_eq];omega
theorem j8{a b:Int}{A B:Nat}(ha:a.natAbs<=A)(hb:b.natAbs<=B):(a*b).natAbs<=A*B:=by
 rw [Int.natAbs_mul];exact Nat.mul_le_mul ha hb
noncomputable def hiH(P:Plan)(H:Ht):Prop := ∀ p,aK P p=true -> -1000<=H p/\H p<=1000
noncomputable def o1(ax ay bx by_ px py:Nat):Bool:=Nat.ble (by_*px+bx*ay+ax*py) (bx*py+by_*ax+ay*px)
noncomputable def l1(ax ay bx by_ px py:Nat):Bool:=Nat.ble (bx*py+by_*ax+ay*px) (by_*px+bx*ay+ax*py)
noncomputable def grid8:List (Nat×Nat):=(List.range 9).flatMap λx=>(List.range 9).map λy=>(x,y)
set_option maxRecDepth 1000000 in
theorem DQ:((grid8.map λz=>hkL [(z.1:Int),(z.2:Int)]).Nodup):=by decide +kernel
theorem uV{α β:Type}{f:α->β}:∀ {l:List α},(l.map f).Nodup -> ∀ {a b:α},a∈l->b∈l->f a=f b->a=b
 | [],_,_,_,h,_,_=>by cases h
 | x :: l,hn,a,b,ha,hb,e=>by
  rw [List.map_cons,List.nodup_cons] at hn;rcases List.mem_cons.mp ha with rfl | ha
  .rcases List.mem_cons.mp hb with rfl | hb
   .rfl
   .exact absurd (List.mem_map.mpr ⟨b,hb,e.symm⟩) hn.1
  .rcases List.mem_cons.mp hb with e2 | hb
   .exact absurd (List.mem_map.mpr ⟨a,ha,by rw [e,e2]⟩) hn.1
   .exact uV hn.2 ha hb e
noncomputable def kyP(p:Pt):List Int:=[p.1,p.2]
noncomputable def gP(z:Nat×Nat):Pt:=((z.1:Int),(z.2:Int))
theorem BA{x y:Nat}:(x,y)∈grid8 ↔ x<=8/\y<=8:=by
 unfold grid8;simp only [List.mem_flatMap,List.mem_map,List.mem_range,Prod.mk.injEq];constructor
 .rintro ⟨a,ha,b,hb,rfl,rfl⟩;omega
 .intro h;exact ⟨x,by omega,y,by omega,rfl,rfl⟩
theorem Cd{p q:Pt}(hp:∃ z∈grid8,p=gP z)(hq:∃ z∈grid8,q=gP z)(e:hkL (kyP p)=hkL (kyP q)):p=q:=by
 obtain ⟨z,hz,rfl⟩:=hp;obtain ⟨y,hy,rfl⟩:=hq;rw [uV DQ hz hy e]
structure Half14(t one two:Tri)(m:Pt):Prop where
 near1:nearT one
 near2:nearT two
 same:sU ((underM one++underM two).map kyP)=(underM t).map kyP
 ok:okS ((underM one++underM two).map kyP)
 line:∀ p∈underM one,p∈underM two->FZ m (ptC t) p=0
 mid1:m∈underM one
 mid2:m∈underM two
theorem iy{a b:Int}(hb:0 < b):∃ q:Int,0 < q/\a=q*(lowM a b).1/\b=q*(lowM a b).2:=by
 obtain ⟨h1,h2⟩:=kA (a:=a) (show b≠0 by omega)
 have hg:a9 a b=(Nat.gcd a.natAbs b.natAbs:Int):=by unfold a9;rw [if_neg (by omega)]
 have hpos:(0:Int) < (Nat.gcd a.natAbs b.natAbs:Int):=by omega
 have e1:(lowM a b).1=a / (Nat.gcd a.natAbs b.natAbs:Int):=by simp only [lowM,hg,fdv,if_pos hpos]
 have e2:(lowM a b).2=b / (Nat.gcd a.natAbs b.natAbs:Int):=by simp only [lowM,hg,fdv,if_pos hpos]
 have d1:(Nat.gcd a.natAbs b.natAbs:Int) ∣ a:=Int.dvd_natAbs.mp (Int.ofNat_dvd.mpr (Nat.gcd_dvd_left _ _));have d2:(Nat.gcd a.natAbs b.natAbs:Int) ∣ b:=Int.dvd_natAbs.mp (Int.ofNat_dvd.mpr (Nat.gcd_dvd_right _ _));exact ⟨_,hpos,by rw [e1];exact (Int.mul_ediv_cancel' d1).symm,by rw [e2];exact (Int.mul_ediv_cancel' d2).symm⟩
theorem iB{a b M:Int}(hb:0 < b)(h1 : -M<=a)(h2:a<=M): -M<=(lowM a b).1/\(lowM a b).1<=M/\0 < (lowM a b).2/\(lowM a b).2<=b:=by
 obtain ⟨q,q0,e1,e2⟩:=iy (a:=a) hb;generalize (lowM a b).1=x at *;generalize (lowM a b).2=y at *;have y0:0 < y:=by
  rcases Int.lt_or_le 0 y with h | h
  .exact h
  .have:=Int.mul_nonpos_of_nonneg_of_nonpos (show 0<=q by omega) h;omega
 have k1:=Int.mul_le_mul_of_nonneg_right (show 1<=q by omega) (show 0<=y by omega)
 rcases Int.lt_or_le x 0 with h | h
 .have k2:=Int.mul_le_mul_of_nonneg_right (show 1<=q by omega) (show 0 <= -x by omega)
  rw [Int.mul_neg,Int.mul_neg] at k2;omega
 .have k2:=Int.mul_le_mul_of_nonneg_right (show 1<=q by omega) h
  omega
theorem kg{a b:Int}(hb:0 < b):(lowM a b).1*b=a*(lowM a b).2:=by
 obtain ⟨q,q0,e1,e2⟩:=iy (a:=a) hb;generalize (lowM a b).1=x at *;generalize (lowM a b).2=y at *;subst e1;subst e2
 grind
theorem Ck{a b c d:Int}(hb:0 < b)(hd:0 < d)(h:a*d=c*b):lowM a b=lowM c d:=by
 refine GF (fG hb) (fG hd) ?_;obtain ⟨q,q0,e1,e2⟩:=iy (a:=a) hb;obtain ⟨r,r0,e3,e4⟩:=iy (a:=c) hd;generalize (lowM a b).1=x at *;generalize (lowM a b).2=y at *;generalize (lowM c d).1=z at *;generalize (lowM c d).2=w at *;subst e1;subst e2;subst e3;subst e4;have qr:q*r≠0:=Int.mul_ne_zero (by omega) (by omega)
 exact Int.eq_of_mul_eq_mul_right qr (by grind)
noncomputable def lessM(h:Int)(f:Pt):Pt:=lowM (h*f.2 - f.1*1) (1*f.2)
noncomputable def partM(a m:Pt):Pt:=lowM (a.1*m.1) (a.2*m.2)
noncomputable def wt(f t:Pt):Pt:=lowM (f.1*t.2+t.1*f.2) (f.2*t.2)
noncomputable def iG(m h:Int)(a:Pt):Pt:=wt (lowM m 2) (partM a (lessM h (lowM m 2)))
theorem fB{m h:Int}{a:Pt}(pa:0 < a.2):iG m h a=lowM (m*a.2+a.1*(2*h - m)) (2*a.2):=by
 unfold iG wt;have f0:=(fG (a:=m) (b:=2) (by decide)).pos
 have h1:=kg (a:=m) (b:=2) (by decide)
 have m0:0 < (lessM h (lowM m 2)).2:=(fG (by omega)).pos
 have h2:(lessM h (lowM m 2)).1*(1*(lowM m 2).2)=(h*(lowM m 2).2 - (lowM m 2).1*1)*(lessM h (lowM m 2)).2:=kg (by omega)
 generalize lowM m 2=f at *;generalize lessM h f=n at *;have p0:0 < a.2*n.2:=Int.mul_pos pa m0;have t0:0 < (partM a n).2:=(fG p0).pos;have h3:(partM a n).1*(a.2*n.2)=a.1*n.1*(partM a n).2:=kg p0;generalize partM a n=t at *;have k1:2*n.1=(2*h - m)*n.2:=Int.eq_of_mul_eq_mul_right (show f.2≠0 by omega) (by grind)
 have k2:2*a.2*t.1=a.1*(2*h - m)*t.2:=Int.eq_of_mul_eq_mul_right (show n.2≠0 by omega) (by grind)
 exact Ck (Int.mul_pos f0 t0) (by omega) (by grind)
theorem pS{P:Plan}{p:Pt}(hP:P.ok)(hp:aK P p=true)(hc:bz P p=false):aK P (af p).1.1=true/\aK P (af p).1.2=true:=by
 simp only [gO] at *;have hc' : ¬ (p.1 % P.s=0/\p.2 % P.s=0):=by
  intro ⟨a,b⟩;simp [bz,a,b] at hc
 have hW:(P.w*P.s) % P.s=0:=Int.mul_emod_left ..;have hD:(P.d*P.s) % P.s=0:=Int.mul_emod_left ..;have hs:(stride p=4/\p.1 % 4=0/\p.2 % 4=0)\/(stride p=2/\p.1 % 2=0/\p.2 % 2=0 /\ ¬ (p.1 % 4=0/\p.2 % 4=0))\/(stride p=1 /\ ¬ (p.1 % 2=0/\p.2 % 2=0)):=by
  unfold stride;split
  .rename_i h;exact .inl ⟨rfl,h⟩
  .rename_i h
   split
   .rename_i k;exact .inr (.inl ⟨rfl,k.1,k.2,h⟩)
   .rename_i k;exact .inr (.inr ⟨rfl,k⟩)
 have sd:=hP.s;generalize P.w*P.s=W at *;generalize P.d*P.s=D at *;generalize P.s=side at *;obtain ⟨x,y⟩:=p;simp only at *;unfold af;by_cases cc:bX (x,y)=true
 .rw [if_pos cc]
  simp only [bX,Bool.and_eq_true,decide_eq_true_eq] at cc;unfold cR rising falling;generalize stride (x,y)=s at *;rcases hs with ⟨rfl,hs⟩ | ⟨rfl,hs⟩ | ⟨rfl,hs⟩ <;> rcases sd with rfl | rfl | rfl <;> split <;> simp only <;> omega
 .rw [if_neg cc]
  simp only [bX,Bool.and_eq_true,decide_eq_true_eq] at cc;unfold cZ lying upright;generalize stride (x,y)=s at *;rcases hs with ⟨rfl,hs⟩ | ⟨rfl,hs⟩ | ⟨rfl,hs⟩ <;> rcases sd with rfl | rfl | rfl <;> split <;> rename_i k <;> simp only at k ⊢ <;> omega
section
variable{fns:List Fn}{d:Nat}{σ:Su}{X:XP}
theorem vG{it:Iter}{t:Tg}{elt:E}{Q:List U->G->Prop}(us:List U)(Inv:Nat->List U->G->Prop)
  (hn:∀ k acc g,Inv k acc g->next it k g=some us[k]?)
  (hs:∀ k u acc,us[k]? = some u->bA t σ=true/\oh (az t u σ) (lk λσ1 => ∀ g,Inv k acc g->wpE fns d elt σ1 g (λ_ _ _=>False) λv g=>Inv (k+1) (acc++[v]) g))
  (hl:us.length < 16777000) (hq:∀ vs g,Inv us.length vs g->vs.length=us.length->Q vs g) :
  ∀ (n i:Nat) (acc:List U) (g:G),i+n=us.length->acc.length=i->Inv i acc g->wpM fns d it i t [] [] elt acc σ g X Q
 | 0,i,acc,g,e1,e2,h=>by
  rw [eG];refine ⟨none,by rw [hn _ _ _ h];simp;omega,?_⟩
  obtain rfl:i=us.length:=by omega
  exact hq acc g h e2
 | n+1,i,acc,g,e1,e2,h=>by
  have hi:i < us.length:=by omega
  obtain ⟨hf,hs1⟩:=hs i us[i] acc (List.getElem?_eq_getElem hi);obtain ⟨σ1,hb,hw⟩:=aI.2 hs1;rw [eG];refine ⟨some us[i],by rw [hn _ _ _ h];simp [hi],hf,σ1,hb,kP.2 ?_⟩
  rw [if_pos rfl];refine wp_mono (hw g h) λv g hg=>⟨by simp only [aj];omega,?_⟩
  exact vG us Inv hn hs hl hq n (i+1) _ g (by omega) (by simp;omega) hg
theorem JE{it:Iter}{t:Tg}{elt:E}{Q:List U->G->Prop}{g:G}(us:List U)(Inv:Nat->List U->G->Prop)
  (hn:∀ k acc g,Inv k acc g->next it k g=some us[k]?)
  (hs:∀ k u acc,us[k]? = some u->bA t σ=true/\oh (az t u σ) (lk λσ1 => ∀ g,Inv k acc g->wpE fns d elt σ1 g (λ_ _ _=>False) λv g=>Inv (k+1) (acc++[v]) g))
  (hl:us.length < 16777000) (h0:Inv 0 [] g) (hq:∀ vs g,Inv us.length vs g->vs.length=us.length->Q vs g):wpM fns d it 0 t [] [] elt [] σ g X Q :=
 vG us Inv hn hs hl hq us.length 0 [] g (Nat.zero_add _) rfl h0
end
theorem Jq{P:Plan}(h1:P.w*P.s<=8)(h2:P.d*P.s<=8){p q:Pt}(hp:aK P p=true)(hq:aK P q=true)(e:hkL (aq p)=hkL (aq q)):p=q:=by
 have at_:∀ {p:Pt},aK P p=true -> ∃ z∈grid8,p=gP z:=λ{p} hp=>by
  have:=gO.mp hp;obtain ⟨x,hx⟩:=Int.eq_ofNat_of_zero_le (show 0<=p.1 by omega)
  obtain ⟨y,hy⟩:=Int.eq_ofNat_of_zero_le (show 0<=p.2 by omega)
  exact ⟨(x,y),BA.mpr (by omega),Prod.ext hx hy⟩
 exact Cd (at_ hp) (at_ hq) e
theorem Gb{P:Plan}{g:G}{m:Nat}{f:Pt->U}(h1:P.w*P.s<=8)(h2:P.d*P.s<=8)(h0:ah P≠[])(h:asD (.ref m) g=some (dM aq f (ah P))):iZ [.ref m] g=.ok (.ref g.length) (g++[.dic (dM aq f (ah P))]):=by
 have em:(dM aq f (ah P)).map (·.1)=(ah P).map aq:=by unfold dM;rw [List.map_map];rfl
 simp only [iZ,h];rw [if_pos]
 .rfl
 .refine ⟨by unfold dM;simpa using h0,λa ha b hb e => ?_⟩
  rw [em] at ha hb;obtain ⟨p,hp,rfl⟩:=List.mem_map.mp ha;obtain ⟨q,hq,rfl⟩:=List.mem_map.mp hb;rw [Jq h1 h2 (cu.mp hp) (cu.mp hq) e]
noncomputable def k7(P:Plan)(H:Ht)(y:Int):Dt := .lst ((ran (P.w*P.s+1)).map λx => .int (H (x,y)))
noncomputable def gj(P:Plan)(H:Ht):Dt := .lst ((ran (P.d*P.s+1)).map (k7 P H))
theorem CD{P:Plan}{H:Ht}{n:Nat}(hP:P.ok):(gj P H).ok (n+3):=by
 have:=hP.ws;have:=hP.ds;unfold gj k7;rw [Dt.ok_lst];refine ⟨by rw [List.length_map,aQ];omega,λD hD => ?_⟩
 obtain ⟨y,_,rfl⟩:=List.mem_map.mp hD;rw [Dt.ok_lst];refine ⟨by rw [List.length_map,aQ];omega,λD hD => ?_⟩
 obtain ⟨x,_,rfl⟩:=List.mem_map.mp hD;exact dD
theorem qW{g:G}:∀ {ds:List Dt} {us:List U},us.length=ds.length->(∀ (i:Nat) (D:Dt) (u:U),ds[i]? = some D->us[i]? = some u->Rep g D u)->Reps g ds us
 | [],us,h,_=>by
  cases us with
  | nil=>simp only [Reps]
  | cons _ _=>cases h
 | D :: ds,us,h,k=>by
  cases us with
  | nil=>cases h
  | cons u us =>
   simp only [Reps];exact ⟨u,us,rfl,k 0 D u rfl rfl,qW (by simpa using h) λi D u h1 h2=>k (i+1) D u (by simpa using h1) (by simpa using h2)⟩
end
end PI
namespace Lk47
noncomputable section
open PI
local macro_rules | `(tactic| simp? [$xs,*] $[$l:location]?) => do
  let a ← ("vS tz uR kP k8 yd iw vJ xM wC vO yR yH qf qx qQ rJ rg ql yC k_E xT xR wZ vD rl qz qm wQ yt qi qv xh tN tU tY qc tf vE xx uB xK sS vw uv xb uD wq uE u5 rY tF rS ve uf tR sY vC pV s9 vA qF sE uK vR t9 sx sD uC sI rV qb rn rL uM ur r8 ui t5 xi uS rH tK vT sV um rW wx wy yb rP we yU pZ vB v7 xm xH sM xD r9 sg rF qS sZ wW qO uX qA qG uF tj uY vh tB qd rA sj qP pH pM u7 sf sy vb rX uI rK uz t6 sC ug sJ wH sH vn uH rM uh rD sW sk rf rp sh vF tV vQ xc vY u9 vt wO ud uU su uQ so rm tZ rB rQ tJ sF rq tP rC uq s8 uA wU vp wG wF xj vM tH wY vW va qy wJ yF wa xG wK wM vq wd u0 v3 sN pW sG uc yr xy xr vz wN tS uJ uL tD v8 rG uZ v5 wc wR wo xk xE xp".splitOn " ").toArray.mapM λs => `(Lean.Parser.Tactic.simpLemma| ↓$(Lean.mkIdent s.toName):ident)
  let b ← ("perm pick a8 Option.bind_some c8 cH bW eZ List.lookup_cons List.lookup_nil Nat.reduceBEq List.contains_cons List.contains_nil cJ List.getElem?_nil List.getElem?_cons_zero List.getElem?_cons_succ List.length_cons List.length_nil List.set_cons_zero List.set_cons_succ List.map_cons List.map_nil List.replicate_succ List.replicate_zero List.cons_append List.nil_append Nat.zero_add Nat.reduceAdd Nat.reduceSub Nat.reduceLT Nat.reduceLeDiff Nat.reduceEqDiff Nat.lt_add_left_iff_pos unl az bindL if_true if_false ite_true ite_false and_true true_and Option.getD_some iJ iK uy qR qH qX w9 wL xl vg rN oI vi y2 wI cin yB wV qD Bool.or_false Bool.or_true Bool.true_or Bool.false_or clt cle cgt cge fg tru items fm ff asL aU lift bi1 iU kN gf alloc bA jS aj xt vZ wb wA wm xg aW gm Option.map_some Int.reduceLT Int.reduceLE Int.reduceNeg Int.reduceEq decide_true decide_false Bool.not_true Bool.not_false Bool.and_true Bool.true_and Bool.and_self decide_eq_true_eq eq_self".splitOn " ").toArray.mapM λs => `(Lean.Parser.Tactic.simpLemma| $(Lean.mkIdent s.toName):ident)
  let a := a ++ b
  `(tactic| simp only [$[$a:simpLemma],*, $xs,*] $[$l]?)
section
variable{d:Nat}{g:G}{X:XP}{Q:U->G->Prop}{P:Plan}{p:Pt}
theorem zC{i:Int}(h:Q (.bl true) g):wpC fns (d+1) 0 [.int i] g X Q:=by
 refine ak (by rfl) (by rfl) ?_;simp only [nz];simp? [eq_self];exact h
theorem Ai(hP:P.ok)(h:Q (.bl (aK P p)) g):wpC fns (d+1) 1 [uPl P,uP p] g X Q:=by
 have h1:=hP.ss;refine ak (by rfl) (by rfl) ?_;simp only [nL]
 simp? [*];simp only [aK] at h;refine aC (λk1 => ?_) λk1=>by simp? [*];simpa [k1] using h
 simp? [*];refine aC (λk2 => ?_) λk2 => ?_
 .simp? [*]
  refine aC (λk3 => ?_) λk3=>by simp? [*];simpa [k1,k2,k3] using h
  simp? [*];simpa [k1,k2,k3] using h
 .simp? [*];simpa [k1,k2] using h
theorem jw(hP:P.ok)(hp:aK P p=true)(h:Q .non g):wpC fns (d+2) 2 [uPl P,uP p] g X Q:=by
 refine ak (by rfl) (by rfl) ?_;simp only [mj]
 simp? [eq_self];refine Ai hP ?_;simp? [eq_self];simp only [hp];simp? [eq_self];exact h
theorem zy(hP:P.ok)(hp:aK P p=true)(h:Q (.bl (bz P p)) g):wpC fns (d+3) 3 [uPl P,uP p] g X Q:=by
 have h0:=hP.s0;refine ak (by rfl) (by rfl) ?_;simp only [mD]
 simp? [eq_self];refine jw hP hp ?_;simp? [*];simp only [bz] at h;refine aC (λk1 => ?_) λk1=>by simp? [*];simpa [k1] using h
 simp? [*];simpa [k1] using h
theorem z9(hP:P.ok)(hp:aK P p=true)(hc:bz P p=false)(h:Q .non g):wpC fns (d+4) 4 [uPl P,uP p] g X Q:=by
 refine ak (by rfl) (by rfl) ?_;simp only [nv]
 simp? [eq_self];refine zy hP hp ?_;simp? [hc];exact h
theorem jQ(h:Q (.int (stride p)) g):wpC fns (d+1) 6 [uP p] g X Q:=by
 refine ak (by rfl) (by rfl) ?_;simp only [oF]
 simp? [dO];unfold stride at h
 (repeat' (refine aC (λ_ => ?_) (λ_ => ?_) <;> (try simp? [dO, *])))
 all_goals simp_all
theorem zB(h:Q (.bl (bX p)) g):wpC fns (d+2) 7 [uP p] g X Q:=by
 have s0:=(fq p).1;have sb:=hZ p;refine ak (by rfl) (by rfl) ?_;simp only [mH]
 simp? [eq_self];refine jQ ?_;simp? [s0,sb];unfold bX at h
 (repeat' (refine aC (λ_ => ?_) (λ_ => ?_) <;> (try simp? [dO, *])))
 all_goals simp_all
theorem zo(h:Q (u4 (cZ p)) g):wpC fns (d+2) 8 [uP p] g X Q:=by
 have s0:=(fq p).1;have sb:=hZ p;refine ak (by rfl) (by rfl) ?_;simp only [mi]
 simp? [eq_self];refine jQ ?_;simp? [s0,sb];unfold cZ lying upright at h
 (repeat' (refine aC (λ_ => ?_) (λ_ => ?_) <;> (try simp? [dO, *])))
 all_goals simp_all
theorem za(h:Q (u4 (cR p)) g):wpC fns (d+2) 9 [uP p] g X Q:=by
 have s0:=(fq p).1;have s1:0 < 2*stride p:=by omega
 have sb:=nU p;have ss:=md p;refine ak (by rfl) (by rfl) ?_;simp only [lS]
 simp? [eq_self];refine jQ ?_;simp? [s0,s1,sb,ss];unfold cR eT rising falling at h
 (repeat' (refine aC (λ_ => ?_) (λ_ => ?_) <;> (try simp? [dO, *])))
 all_goals simp_all
theorem CQ(h:Q (u4 (af p)) g):wpC fns (d+3) 10 [uP p] g X Q:=by
 refine ak (by rfl) (by rfl) ?_;simp only [qq]
 simp? [eq_self];refine zB ?_;simp? [eq_self];unfold af at h;refine aC (λk => ?_) λk => ?_
 .rw [if_pos k] at h
  simp? [eq_self];refine za ?_;simp? [eq_self];exact h
 .rw [if_neg (by simp [k])] at h
  simp? [eq_self];refine zo ?_;simp? [eq_self];exact h
theorem Fd(hP:P.ok)(hp:aK P p=true)(hc:bz P p=false)(h:Q (u2 (af p).1) g):wpC fns (d+5) 11 [uPl P,uP p] g X Q:=by
 refine ak (by rfl) (by rfl) ?_;simp only [tW]
 simp? [eq_self];refine z9 hP hp hc ?_;simp? [eq_self];refine CQ ?_;simp? [eq_self];exact h
theorem zg{i j s:Int}(hs:small s)(h:dh g ((bw i j s).map uT) Q):wpC fns (d+1) 12 [.int i,.int j,.int s] g X Q:=by
 refine ak (by rfl) (by rfl) ?_;simp only [lU]
 simp? [hs];unfold bw at h;refine aC (λk1 => ?_) λk1 => ?_
 .have k2:(i+j) % 2=0:=by simpa using k1
  simp? [hs];rw [if_pos k2] at h;exact h _ _ (Kw _) bc
 .have k2 : ¬ (i+j) % 2=0:=by simpa using k1
  simp? [hs];rw [if_neg k2] at h;exact h _ _ (Kw _) bc
theorem Cr(hP:P.ok)(h:dh g ((cV P).map uT) Q):wpC fns (d+2) 13 [uPl P] g X Q:=by
 have hss:=hP.ss;have hl:=zU hP;have lw:(ran P.w).length<=3:=by rw [aQ];rcases hP.w with e | e | e <;> rw [e] <;> decide
 have ld:(ran P.d).length<=3:=by rw [aQ];rcases hP.d with e | e | e <;> rw [e] <;> decide
 have r1:aE P.w=true:=by rcases hP.w with e | e | e <;> rw [e] <;> exact bM (by decide) (by decide)
 have r2:aE P.d=true:=by rcases hP.d with e | e | e <;> rw [e] <;> exact bM (by decide) (by decide)
 have a:∀ i,((ran P.d).flatMap λj=>(bw i j P.s).map uT).length<=6:=λi=>by
  have:=dZ (f:=λj=>(bw i j P.s).map uT) (B:=2) (l:=ran P.d) λj _=>by rw [List.length_map,gQ];omega
  omega
 refine ak (by rfl) (by rfl) ?_;simp only [pX]
 simp? [r1];refine kG (ran P.w) U.int (λi=>(ran P.d).flatMap λj=>(bw i j P.s).map uT) (λg' => ∃ gs,g'=g++gs) 8 (λk g' _=>bU) (λi _=>Ku (a i) (by decide)) (λi hi => ?_) _ 0 _ _ (Nat.zero_add _) (by simp only [List.length_nil];omega) ⟨[],by simp⟩ ?_
 .simp? [r2]
  rintro g' acc ⟨gs,rfl⟩ hacc;refine kG (ran P.d) U.int (λj=>(bw i j P.s).map uT) (λg' => ∃ gs,g'=g++gs) 2 (λk g' _=>bU) (λj _=>by rw [List.length_map,gQ];omega) (λj hj => ?_) _ 0 _ _ (Nat.zero_add _) (by omega) ⟨gs,rfl⟩ ?_
  .simp? [eq_self]
   rintro g' acc ⟨gs,rfl⟩ hacc;refine zg hss λgs2 n hn e => ?_;simp? [e];refine GP (bw i j P.s) uT (λ_=>true) uT (λg'=>g'=g++gs++gs2) acc (λk g' e'=>by rw [e',fF e]) (λt ht => ?_) (by rw [gQ];omega) rfl ?_
   .simp? [eq_self]
    rintro g' rfl;trivial
   .rintro g' rfl
    exact ⟨by rw [hG],_,List.append_assoc ..⟩
  .rintro g' ⟨gs,rfl⟩
   exact ⟨rfl,_,rfl⟩
 .rintro g' ⟨gs,rfl⟩
  have e:([]++List.flatMap (λi=>List.flatMap (λj=>(bw i j P.s).map uT) (ran P.d)) (List.drop 0 (ran P.w)))=(cV P).map uT:=by
   simp [cV,List.map_flatMap]
  rw [e];exact oO h (by rw [List.length_map];omega)
theorem oP{t:Tri}(h:Q (uO (dz t)) g):wpC fns (d+1) 14 [uT t] g X Q:=by
 have b2:(2:Int) < aw:=by decide
 refine ak (by rfl) (by rfl) ?_;simp only [oW]
 simp? [JS];unfold dz at h;refine aC (λk1 => ?_) λk1 => ?_
 .have k1':(t.ax+t.bx) % 2=1:=by simpa using k1
  rw [if_pos (.inl k1')] at h;simp? [eq_self];exact h
 .have k1' : ¬ (t.ax+t.bx) % 2=1:=by simpa using k1
  simp? [eq_self];refine aC (λk2 => ?_) λk2 => ?_
  .have k2':(t.ay+t.bY) % 2=1:=by simpa using k2
   rw [if_pos (.inr k2')] at h;simp? [eq_self];exact h
  .have k2' : ¬ (t.ay+t.bY) % 2=1:=by simpa using k2
   rw [if_neg (by omega)] at h
   simp? [b2];exact h
theorem BF{t:Tri}{m:Pt}(hm:dz t=some m)(h:dh g ((aN t).map uT) Q):wpC fns (d+2) 15 [uT t] g X Q:=by
 rw [ma hm] at h;refine ak (by rfl) (by rfl) ?_;simp only [oE]
 simp? [eq_self];refine oP ?_;rw [hm];simp? [uO];exact h _ _ (Kw _) bc
theorem IZ{n:Nat}{ts:List Tri}(e:g[n]? = some (.lst (ts.map uT)))(hd:∀ t∈ts,bD 7 t=true)(hl:(ts.flatMap aS).length < 16770000)(h:dh g ((ts.flatMap aS).map uT) Q):wpC fns (d+3) 16 [.ref n] g X Q:=by
 refine ak (by rfl) (by rfl) ?_;simp only [wu]
 simp? [ai e];obtain ⟨B,hB⟩:∃ B:G,B=[]:=⟨_,rfl⟩;have hlen:(ts.flatMap aS).length < 16770000:=hl;refine kH (λm σ g' => ∃ (T W:List Tri) (gs:G) (o:Option U),T++W.reverse.flatMap aS=ts.flatMap aS/\(W.flatMap aS).length=m/\(∀ t∈W,bD 7 t=true)/\g'=(g ++ .lst (T.map uT) :: (B ++ .lst (W.map uT) :: gs))/\σ=[some (.ref n),some (.ref (g).length),some (.ref ((g).length+1+(List.length B))),o]) ?_ (ts.reverse.flatMap aS).length _ _ ⟨[],ts.reverse,[],none,by simp,rfl,λt ht=>hd t (List.mem_reverse.mp ht),by simp [hB],by simp [hB]⟩
 rintro m σ g' ⟨T,W,gs,o,hT,hm,hW,rfl,rfl⟩;rcases List.eq_nil_or_concat W with hnil | ⟨W',t,rfl⟩
 .subst hnil
  have hT':T=ts.flatMap aS:=by simpa using hT
  have g2:(g ++ .lst (T.map uT) :: (B ++ .lst [] :: gs))[(g).length+1+(List.length B)]? = some (.lst []):=hY;simp? [g2,List.isEmpty_nil,List.length_nil,Int.natCast_zero];rw [hT'];refine h _ _ (Kw _) o9
 .have ht:bD 7 t=true:=hW t (by simp)
  have hrest:T++([t]++((aN t).flatMap aS++W'.reverse.flatMap aS))=ts.flatMap aS:=by
   rw [<-hT];simp [pd ht]
  have hm':(W'.flatMap aS).length+(1+((aN t).flatMap aS).length)=m:=by
   rw [<-hm];simp only [List.concat_eq_append,List.flatMap_append,List.flatMap_cons,List.flatMap_nil,List.append_nil,List.length_append,pd ht,List.length_cons];omega
  have lenT:T.length+1<=(ts.flatMap aS).length:=by rw [<-hrest];simp only [List.length_append,List.length_cons,List.length_nil];omega
  have lenW:W'.length<=(ts.flatMap aS).length:=by
   have a1:W'.reverse.length<=(W'.reverse.flatMap aS).length:=oU λx _=>AF x;rw [List.length_reverse] at a1;rw [<-hrest];simp only [List.length_append,List.length_cons,List.length_nil];omega
  have ne:(W'.concat t).map uT=W'.map uT++[uT t]:=by simp
  have g2:(g ++ .lst (T.map uT) :: (B ++ .lst (W'.map uT++[uT t]) :: gs))[(g).length+1+(List.length B)]? = some (.lst (W'.map uT++[uT t])):=hY;have g3:(g ++ .lst (T.map uT) :: (B ++ .lst (W'.map uT) :: gs))[(g).length]? = some (.lst (T.map uT)):=o9;have pop:b8 ((g).length+1+(List.length B)) (g ++ .lst (T.map uT) :: (B ++ .lst (W'.map uT++[uT t]) :: gs))=.ok (uT t) (g ++ .lst (T.map uT) :: (B ++ .lst (W'.map uT) :: gs)):=by
   rw [Am g2,pC]
  have app:bO (g).length (uT t) (g ++ .lst (T.map uT) :: (B ++ .lst (W'.map uT) :: gs))=.ok .non (g ++ .lst ((T++[t]).map uT) :: (B ++ .lst (W'.map uT) :: gs)):=by
   rw [jM g3 (by rw [List.length_map];omega),Bz];simp
  have g4:(g ++ .lst ((T++[t]).map uT) :: (B ++ .lst (W'.map uT) :: gs))[(g).length+1+(List.length B)]? = some (.lst (W'.map uT)):=hY;have lp:decide ((0:Int) < ((W'.map uT).length+1:Nat))=true   := by simp;try omega
  have lp2:(0:Int) < ((W'.map uT).length+1:Nat):=by omega
  rw [ne];simp? [g2,Dy,List.length_append,lp2,pop,g3,app];refine oP ?_;cases hmid:dz t with
  | none =>
   simp? [uO,aU];exact ⟨(W'.flatMap aS).length,by omega,T++[t],W',gs,_,by rw [<-hrest,zq hmid];simp,rfl,λx hx=>hW x (by simp [hx]),rfl,rfl⟩
  | some q =>
   simp? [uO,aU,g4];refine BF hmid λgs2 n2 hn2 e2 => ?_;rw [j3] at e2 ⊢;simp? [e2];rw [j3];have g5:(g ++ .lst ((T++[t]).map uT) :: (B ++ .lst (W'.map uT) :: (gs++gs2++[.lst ((aN t).map uT).reverse])))[(g).length+1+(List.length B)]? = some (.lst (W'.map uT)):=hY;have e3:(g ++ .lst ((T++[t]).map uT) :: (B ++ .lst (W'.map uT) :: (gs++gs2++[.lst ((aN t).map uT).reverse])))[(List.length (g ++ .lst ((T++[t]).map uT) :: (B ++ .lst (W'.map uT) :: (gs++gs2))))]? = some (.lst ((aN t).map uT).reverse):=by
    rw [<-j3];exact bc
   have hh:(aN t).length<=2:=by rw [ma hmid];simp [kI]
   have ext:cK ((g).length+1+(List.length B)) (.ref (List.length (g ++ .lst ((T++[t]).map uT) :: (B ++ .lst (W'.map uT) :: (gs++gs2))))) (g ++ .lst ((T++[t]).map uT) :: (B ++ .lst (W'.map uT) :: (gs++gs2++[.lst ((aN t).map uT).reverse])))=.ok .non (g ++ .lst ((T++[t]).map uT) :: (B ++ .lst ((W'++(aN t).reverse).map uT) :: (gs++gs2++[.lst ((aN t).map uT).reverse]))):=by
    rw [Ap g5 e3 (by rw [List.length_map,List.length_reverse,List.length_map];omega),pC]
    simp
   simp? [ext];refine ⟨((W'++(aN t).reverse).flatMap aS).length,?_,T++[t],W'++(aN t).reverse,_,_,?_,rfl,λx hx => ?_,rfl,rfl⟩
   .rw [List.flatMap_append,List.length_append,mq];omega
   .rw [<-hrest];simp
   .rcases List.mem_append.mp hx with hx | hx
    .exact hW x (by simp [hx])
    .exact nV 6 x (ow ht (List.mem_reverse.mp hx))
theorem Br(hP:P.ok)(h:dh g ((shapesM P).map uT) Q):wpC fns (d+4) 17 [uPl P] g X Q:=by
 have hl:=(ni hP).2;refine ak (by rfl) (by rfl) ?_;simp only [pk]
 simp? [eq_self];refine Cr hP λgs n hn e => ?_;simp? [eq_self];refine IZ e (λt ht=>AN hP ht) (by show (shapesM P).length < _;omega) λgs2 n2 hn2 e2 => ?_
 simp? [eq_self];rw [List.append_assoc] at e2 ⊢;exact h _ _ (Ku (by simp) hn2) e2
theorem AY{a b:Nat}(h:Q (.int (Nat.gcd a b:Nat)) g):wpC fns (d+1) 19 [.int a,.int b] g X Q:=by
 refine ak (by rfl) (by rfl) ?_;simp only [oV]
 simp? [eq_self];refine kH (λm σ g'=>g'=g /\ ∃ x y:Nat,Nat.gcd x y=Nat.gcd a b/\y=m/\σ=[some (.int x),some (.int y)]) ?_ b _ _ ⟨rfl,a,b,rfl,rfl,rfl⟩;rintro m σ g' ⟨rfl,x,y,hg,rfl,rfl⟩;simp? [Bool.not_not];refine aC (λk1 => ?_) λk1 => ?_
 .have y0:0 < y:=by simp at k1;omega
  have y1:(0:Int) < y:=by omega
  simp? [y1];refine ⟨x % y,Nat.mod_lt _ y0,y,x % y,?_,rfl,?_⟩
  .rw [<-hg,Nat.gcd_comm y,<-Nat.gcd_rec,Nat.gcd_comm]
  .simp
 .have y0:y=0:=by simp at k1;omega
  subst y0;simp? [eq_self];rw [<-hg] at h;simpa using h
theorem fN{a b:Int}(hb:b≠0)(hB:big b)(h:Q (uP (lowM a b)) g):wpC fns (d+2) 18 [.int a,.int b] g X Q:=by
 obtain ⟨g0,gB⟩:=qp (a:=a) hb hB;refine ak (by rfl) (by rfl) ?_;simp only [qV]
 simp? [hb,j0];refine AY ?_;simp? [eq_self];refine aC (λk1 => ?_) λk1 => ?_
 .have k2:b < 0:=by simpa using k1
  have e:(-(Nat.gcd a.natAbs b.natAbs:Int))=a9 a b:=by unfold a9;rw [if_pos k2]
  simp? [e,iN g0 gB];exact h
 .have k2 : ¬ b < 0:=by simpa using k1
  have e:((Nat.gcd a.natAbs b.natAbs:Nat):Int)=a9 a b:=by unfold a9;rw [if_neg k2]
  simp? [e,iN g0 gB];exact h
theorem Ge{a b:Pt}(a1:big a.1)(a2:big a.2)(b1:big b.1)(b2:big b.2)(pa:0 < a.2)(pb:0 < b.2)(hB:big (a.2*b.2))(h:Q (uP (lowM (a.1*b.2+b.1*a.2) (a.2*b.2))) g):wpC fns (d+3) 20 [uP a,uP b] g X Q:=by
 have hp:=Int.mul_pos pa pb;refine ak (by rfl) (by rfl) ?_;simp only [si]
 simp? [a6 a1 b2,a6 b1 a2,a6 a2 b2];refine fN (by omega) hB ?_
 simp? [eq_self];exact h
theorem CP{a b:Pt}(a1:mid a.1)(a2:mid a.2)(b1:mid b.1)(b2:mid b.2)(pa:0 < a.2)(pb:0 < b.2)(h:Q (uP (lowM (a.1*b.2 - b.1*a.2) (a.2*b.2))) g):wpC fns (d+3) 21 [uP a,uP b] g X Q:=by
 have m1:=Df a2 b2;have hp:=Int.mul_pos pa pb;refine ak (by rfl) (by rfl) ?_;simp only [pL]
 simp? [a6 a1.big b2.big,a6 b1.big a2.big,a6 a2.big b2.big,a6 a1.big b1.big];refine fN (by omega) (by unfold big aw;omega) ?_
 simp? [eq_self];exact h
theorem Cq{a b:Pt}{u:U}(hu:u=uP a\/u=.xn 0 [.int a.1,.int a.2])(a1:big a.1)(a2:big a.2)(b1:big b.1)(b2:big b.2)(pa:0 < a.2)(pb:0 < b.2)(hB:big (a.2*b.2))(h:Q (uP (lowM (a.1*b.1) (a.2*b.2))) g):wpC fns (d+3) 22 [u,uP b] g X Q:=by
 have hp:=Int.mul_pos pa pb;rcases hu with rfl | rfl
 .refine ak (by rfl) (by rfl) ?_;simp only [jZ]
  simp? [a6 a1 b1,a6 a2 b2];refine fN (by omega) hB ?_
  simp? [eq_self];exact h
 .refine ak (by rfl) (by rfl) ?_;simp only [jZ]
  simp? [a6 a1 b1,a6 a2 b2];refine fN (by omega) hB ?_
  simp? [eq_self];exact h
noncomputable def RowsAt(g:G)(n:Nat)(P:Plan)(H:Ht):Prop := ∃ ms:List Nat,g[n]? = some (.lst (ms.map U.ref))/\ms.length=(P.d*P.s+1).toNat /\ ∀ (y m:Nat),ms[y]? = some m->g[m]? = some (.lst ((ran (P.w*P.s+1)).map λx => .int (H (x,(y:Int)))))
noncomputable def du(P:Plan)(ed tr:Int)(hN dN doN unN gN:Nat):O := .ins 211529932 [(509789213455080,.ref hN),(232289904,uPl P),(487627477906021,.int ed),(31083624820,.int tr),(31083802852,.ref dN),(213628900,.ref doN),(3500095911797,.ref unN),(243020007,.ref gN)]
structure LandAt(g:G)(v:Nat)(P:Plan)(H:Ht)(hN gN:Nat):Prop where
 ins:∃ ed tr dN doN unN,g[v]? = some (du P ed tr hN dN doN unN gN)
 hts:∃ hk,g[hN]? = some (.dic hk) /\ ∀ p,aK P p=true->aF hk (aq p)=some (.int (H p))
 gps:∃ gk,g[gN]? = some (.dic gk)/\gk.length<=5000/\(∀ t∈shapesM P,aF gk (gC t)=some .non\/aF gk (gC t)=some (uG H t)) /\ ∀ t,t ∉ shapesM P->aF gk (gC t)=none
 hne:hN≠gN
structure Kp(n:Nat)(g g':G):Prop where
 len:g.length<=g'.length
 get:∀ (k:Nat) (o:O),k≠n->g[k]? = some o->g'[k]? = some o
theorem Kp.refl{n:Nat}{g:G}:Kp n g g:=⟨Kw _,λ_ _ _ e=>e⟩
theorem Kp.app{n:Nat}{g gs:G}:Kp n g (g++gs):=⟨by simp,λ_ _ _ e=>ai e⟩
theorem Kp.trans{n:Nat}{a b c:G}(h:Kp n a b)(k:Kp n b c):Kp n a c:=⟨Ku h.len k.len,λi o hi e=>k.get i o hi (h.get i o hi e)⟩
theorem Kp.set{n:Nat}{g:G}{o:O}:Kp n g (g.set n o):=⟨by simp,λk o' hk e=>by rw [List.getElem?_set_ne (Ne.symm hk)];exact e⟩
theorem LandAt.app{g gs:G}{v:Nat}{P:Plan}{H:Ht}{hN gN:Nat}(h:LandAt g v P H hN gN):LandAt (g++gs) v P H hN gN:=by
 obtain ⟨⟨ed,tr,dN,doN,unN,h1⟩,⟨hk,h2,h3⟩,⟨gk,h4,h5⟩,h6⟩:=h;exact ⟨⟨ed,tr,dN,doN,unN,ai h1⟩,⟨hk,ai h2,h3⟩,⟨gk,ai h4,h5⟩,h6⟩
theorem LandAt.kp{g g':G}{k v:Nat}{P:Plan}{H:Ht}{hN gN:Nat}(h:LandAt g v P H hN gN)(q:Kp k g g')(k1:k≠v)(k2:k≠hN)(k3:k≠gN):LandAt g' v P H hN gN:=by
 obtain ⟨⟨ed,tr,dN,doN,unN,h1⟩,⟨hk,h2,h3⟩,⟨gk,h4,h5⟩,h6⟩:=h;exact ⟨⟨ed,tr,dN,doN,unN,q.get _ _ (Ne.symm k1) h1⟩,⟨hk,q.get _ _ (Ne.symm k2) h2,h3⟩,⟨gk,q.get _ _ (Ne.symm k3) h4,h5⟩,h6⟩
theorem LandAt.fr{g g':G}{v:Nat}{P:Plan}{H:Ht}{hN gN:Nat}(h:LandAt g v P H hN gN)(q:Fr g g')(k1:3<=v)(k2:3<=hN)(k3:3<=gN):LandAt g' v P H hN gN:=by
 obtain ⟨⟨ed,tr,dN,doN,unN,h1⟩,⟨hk,h2,h3⟩,⟨gk,h4,h5⟩,h6⟩:=h;exact ⟨⟨ed,tr,dN,doN,unN,q.get _ _ k1 h1⟩,⟨hk,q.get _ _ k2 h2,h3⟩,⟨gk,q.get _ _ k3 h4,h5⟩,h6⟩
theorem LandAt.lt{g:G}{v:Nat}{P:Plan}{H:Ht}{hN gN:Nat}(h:LandAt g v P H hN gN):v < g.length/\hN < g.length/\gN < g.length/\v≠gN:=by
 obtain ⟨⟨ed,tr,dN,doN,unN,h1⟩,⟨hk,h2,h3⟩,⟨gk,h4,h5⟩,h6⟩:=h;refine ⟨(List.getElem?_eq_some_iff.mp h1).1,(List.getElem?_eq_some_iff.mp h2).1,(List.getElem?_eq_some_iff.mp h4).1,?_⟩;rintro rfl;rw [h1] at h4;simp [du] at h4
theorem Bag.kp{g g':G}{k:Nat}(h:Bag g)(q:Kp k g g')(h3:3<=k):Bag g':=by
 obtain ⟨xs,a,s,h1,h2⟩:=h;exact ⟨xs,a,s,q.get _ _ (by omega) h1,q.get _ _ (by omega) h2⟩
theorem Fr.setNew{g g':G}{m:Nat}{o:O}(h:Fr g g')(h1:g.length<=m)(h2:3<=m):Fr g (g'.set m o):=by
 obtain ⟨⟨xs,a,s,b1,b2⟩,l,q⟩:=h;refine ⟨⟨xs,a,s,by rw [List.getElem?_set_ne (by omega)];exact b1,by rw [List.getElem?_set_ne (by omega)];exact b2⟩,by simpa using l,λk o' hk e => ?_⟩
 have:k < g.length:=(List.getElem?_eq_some_iff.mp e).1;rw [List.getElem?_set_ne (by omega)]
 exact q k o' hk e
theorem fH{g gs:G}{a:O}:(g++a :: gs)[g.length]? = some a:=by simp
theorem oX{g gs:G}{a b:O}:(g++a :: gs).set g.length b=g++b :: gs:=by simp
theorem ig{n:Int}{k:Nat}{x:Int}(h:(ran n)[k]? = some x):x=k/\(k:Int) < n:=by
 have hk:k < (ran n).length:=(List.getElem?_eq_some_iff.mp h).1;rw [aQ] at hk;simp only [ran,List.getElem?_map,List.getElem?_range hk,Option.map_some,Option.some.injEq] at h;omega
theorem DG{u:U}{g gs:G}{kvs:List (List Int×U)}(h:asD u g=some kvs):asD u (g++gs)=some kvs:=by
 cases u with
 | ref n =>
  simp only [asD] at h ⊢;cases e:g[n]? with
  | none=>rw [e] at h;cases h
  | some o=>rw [ai e];rw [e] at h;exact h
 | _=>exact h
noncomputable def Land0(R:Nat->Prop)(g:G)(v:Nat)(P:Plan)(H:Ht):Prop := ∃ hN dN doN unN gN hk,g[v]? = some (du P 0 0 hN dN doN unN gN)/\g[hN]? = some (.dic hk)/\(∀ p,aK P p=true->aF hk (aq p)=some (.int (H p)))/\g[dN]? = some (.dic [])/\R v/\R hN/\R dN
theorem Land0.app{R:Nat->Prop}{g gs:G}{v:Nat}{P:Plan}{H:Ht}(h:Land0 R g v P H):Land0 R (g++gs) v P H:=by
 obtain ⟨hN,dN,doN,unN,gN,hk,h1,h2,h3,h4,h5⟩:=h;exact ⟨hN,dN,doN,unN,gN,hk,ai h1,ai h2,h3,ai h4,h5⟩
theorem Land0.fr{R:Nat->Prop}{g g':G}{v:Nat}{P:Plan}{H:Ht}(h:Land0 R g v P H)(q:Fr g g')(hR:∀ j,R j->3<=j):Land0 R g' v P H:=by
 obtain ⟨hN,dN,doN,unN,gN,hk,h1,h2,h3,h4,h5,h6,h7⟩:=h;exact ⟨hN,dN,doN,unN,gN,hk,q.get _ _ (hR _ h5) h1,q.get _ _ (hR _ h6) h2,h3,q.get _ _ (hR _ h7) h4,h5,h6,h7⟩
theorem Land0.kp{R:Nat->Prop}{g g':G}{v k:Nat}{P:Plan}{H:Ht}(h:Land0 R g v P H)(q:Kp k g g')(hR : ¬ R k):Land0 R g' v P H:=by
 obtain ⟨hN,dN,doN,unN,gN,hk,h1,h2,h3,h4,h5,h6,h7⟩:=h;have ne:∀ {j},R j->j≠k:=λhj e=>hR (e ▸ hj);exact ⟨hN,dN,doN,unN,gN,hk,q.get _ _ (ne h5) h1,q.get _ _ (ne h6) h2,h3,q.get _ _ (ne h7) h4,h5,h6,h7⟩
theorem Kp.setNew{n j:Nat}{g g':G}{o:O}(h:Kp n g g')(hj:g.length<=j):Kp n g (g'.set j o):=⟨by simpa using h.len,λk o' hk e=>by
 have:k < g.length:=(List.getElem?_eq_some_iff.mp e).1
 rw [List.getElem?_set_ne (by omega)];exact h.get k o' hk e⟩
theorem Kp.more{n:Nat}{g g' gs:G}(h:Kp n g g'):Kp n g (g'++gs):=h.trans Kp.app
noncomputable def dPl(P:Plan):Dt := .tup [.int P.w,.int P.d,.int P.s]
theorem tL{g:G}{P:Plan}:Rep g (dPl P) (uPl P):=by
 simp only [dPl,Rep];refine ⟨_,rfl,?_⟩;simp only [Reps];exact ⟨_,_,rfl,br,_,_,rfl,br,_,_,rfl,br,rfl⟩
theorem HZ{n:Nat}{P:Plan}:(dPl P).ok (n+2):=by
 unfold dPl;rw [Dt.ok_tup];refine ⟨by simp,λD h => ?_⟩
 simp at h;rcases h with rfl | rfl | rfl <;> exact dD
structure Mdl(g:G)(n hc mk:Nat):Prop where
 ex:∃ kvs,g[n]? = some (.dst kvs)/\aX kvs (PySem.Str.ofString "heights")=some (.ref hc)/\aX kvs (PySem.Str.ofString "edition")=some (.int 0)/\aX kvs (PySem.Str.ofString "tries")=some (.int 0)/\aX kvs (PySem.Str.ofString "made")=some (.ref mk)
theorem Mdl.look{g:G}{n hc mk:Nat}(h:Mdl g n hc mk):((asS (.ref n) g).bind λkvs=>aX kvs (PySem.Str.ofString "heights"))=some (.ref hc)/\((asS (.ref n) g).bind λkvs=>aX kvs (PySem.Str.ofString "edition"))=some (.int 0)/\((asS (.ref n) g).bind λkvs=>aX kvs (PySem.Str.ofString "tries"))=some (.int 0)/\((asS (.ref n) g).bind λkvs=>aX kvs (PySem.Str.ofString "made"))=some (.ref mk):=by
 obtain ⟨kvs,h1,h2⟩:=h.ex;simp only [asS,h1,Option.bind_some];exact h2
theorem Mdl.app{g gs:G}{n hc mk:Nat}(h:Mdl g n hc mk):Mdl (g++gs) n hc mk:=by
 obtain ⟨kvs,h1,h2⟩:=h.ex;exact ⟨kvs,ai h1,h2⟩
theorem Mdl.kp{g g':G}{n hc mk k:Nat}(h:Mdl g n hc mk)(q:Kp k g g')(hn:n≠k):Mdl g' n hc mk:=by
 obtain ⟨kvs,h1,h2⟩:=h.ex;exact ⟨kvs,q.get _ _ hn h1,h2⟩
theorem oT{g:G}{n:Nat}{P:Plan}{H:Ht}(h:RowsAt g n P H):Rep g (gj P H) (.ref n):=by
 obtain ⟨ms,e1,e2,e3⟩:=h;simp only [gj,Rep];refine ⟨n,_,rfl,e1,qW (by rw [List.length_map,List.length_map,aQ,e2]) λi D u h1 h2 => ?_⟩
 simp only [List.getElem?_map,Option.map_eq_some_iff] at h1 h2;obtain ⟨y,hy,rfl⟩:=h1;obtain ⟨m,hm,rfl⟩:=h2;obtain ⟨rfl,_⟩:=ig hy;simp only [k7,Rep];exact ⟨m,_,rfl,e3 i m hm,pB (λ_=>br) _⟩
theorem RowsAt.app{g gs:G}{n:Nat}{P:Plan}{H:Ht}(h:RowsAt g n P H):RowsAt (g++gs) n P H:=by
 obtain ⟨ms,e1,e2,e3⟩:=h;exact ⟨ms,ai e1,e2,λy m hm=>ai (e3 y m hm)⟩
theorem gH{R:Nat->Prop}{v:Nat}{H:Ht}(hP:P.ok)(L:Land0 R g v P H)(hp:aK P p=true)(h:Q (.int (H p)) g):wpC fns (d+3) 28 [.ref v,uP p] g X Q:=by
 obtain ⟨hN,dN,doN,unN,gN,hk,h1,h2,h3,h4,_⟩:=L;unfold du at h1;have dl:aB (.tup [.int p.1,.int p.2]) (.ref hN) g=some (some (.int (H p))):=by rw [fz h2 bN,h3 p hp]
 refine ak (by rfl) (by rfl) ?_;simp only [l8]
 simp? [h1];refine jw hP hp ?_;simp? [h1,dl,id];exact h
theorem eD{R:Nat->Prop}{v:Nat}{H:Ht}{a:Pt}{u:U}(hu:u=uP a\/u=.xn 0 [.int a.1,.int a.2])(hP:P.ok)(L:Land0 R g v P H)(hH:hiH P H)(hp:aK P p=true)(hc:bz P p=false)(a1 : -10000000000000000000000000000<=a.1/\a.1<=10000000000000000000000000000)(a2:0 < a.2/\a.2<=10000000000000000000000000001)
  (h:Q (uP (iG (H (af p).1.1+H (af p).1.2) (H p) a)) g):wpC fns (d+7) 23 [.ref v,uP p,u] g X Q:=by
 obtain ⟨i1,i2⟩:=pS hP hp hc;have b0:=hH p hp;have b1:=hH _ i1;have b2:=hH _ i2;obtain ⟨hN,dN,doN,unN,gN,hk,h1,_⟩:=id L;unfold du at h1;have fb:=iB (a:=H (af p).1.1+H (af p).1.2) (b:=2) (M:=2000) (by decide) (by omega) (by omega)
 have nb : -4000<=(lessM (H p) (lowM (H (af p).1.1+H (af p).1.2) 2)).1/\(lessM (H p) (lowM (H (af p).1.1+H (af p).1.2) 2)).1<=4000/\0 < (lessM (H p) (lowM (H (af p).1.1+H (af p).1.2) 2)).2/\(lessM (H p) (lowM (H (af p).1.1+H (af p).1.2) 2)).2<=1*(lowM (H (af p).1.1+H (af p).1.2) 2).2:=by
  refine iB (by omega) ?_ ?_
  .have:(lowM (H (af p).1.1+H (af p).1.2) 2).2=1\/(lowM (H (af p).1.1+H (af p).1.2) 2).2=2:=by omega
   rcases this with e | e <;> rw [e] <;> omega
  .have:(lowM (H (af p).1.1+H (af p).1.2) 2).2=1\/(lowM (H (af p).1.1+H (af p).1.2) 2).2=2:=by omega
   rcases this with e | e <;> rw [e] <;> omega
 have hn2:(lessM (H p) (lowM (H (af p).1.1+H (af p).1.2) 2)).2=1\/(lessM (H p) (lowM (H (af p).1.1+H (af p).1.2) 2)).2=2:=by omega
 have tb : -40000000000000000000000000000000<=(partM a (lessM (H p) (lowM (H (af p).1.1+H (af p).1.2) 2))).1/\(partM a (lessM (H p) (lowM (H (af p).1.1+H (af p).1.2) 2))).1<=40000000000000000000000000000000/\0 < (partM a (lessM (H p) (lowM (H (af p).1.1+H (af p).1.2) 2))).2/\(partM a (lessM (H p) (lowM (H (af p).1.1+H (af p).1.2) 2))).2<=a.2*(lessM (H p) (lowM (H (af p).1.1+H (af p).1.2) 2)).2:=by
  have q:=j8 (a:=a.1) (b:=(lessM (H p) (lowM (H (af p).1.1+H (af p).1.2) 2)).1) (A:=10000000000000000000000000000) (B:=4000) (by omega) (by omega)
  refine iB ?_ (by omega) (by omega)
  rcases hn2 with e | e <;> rw [e] <;> omega
 have tb2:a.2*(lessM (H p) (lowM (H (af p).1.1+H (af p).1.2) 2)).2<=20000000000000000000000000002:=by rcases hn2 with e | e <;> rw [e] <;> omega
 have hB1:big (a.2*(lessM (H p) (lowM (H (af p).1.1+H (af p).1.2) 2)).2):=by
  unfold big aw;rcases hn2 with e | e <;> rw [e] <;> omega
 have hf2:(lowM (H (af p).1.1+H (af p).1.2) 2).2=1\/(lowM (H (af p).1.1+H (af p).1.2) 2).2=2:=by omega
 have hB2:big ((lowM (H (af p).1.1+H (af p).1.2) 2).2*(partM a (lessM (H p) (lowM (H (af p).1.1+H (af p).1.2) 2))).2):=by
  unfold big aw;rcases hf2 with e | e <;> rw [e] <;> omega
 refine ak (by rfl) (by rfl) ?_;simp only [pO]
 simp? [h1];refine Fd hP hp hc ?_;simp? [u2,h1];refine gH hP L i1 ?_;simp? [h1];refine gH hP L i2 ?_;simp? [eq_self];refine fN (by decide) (by unfold big aw;omega) ?_
 simp? [h1];refine gH hP L hp ?_;simp? [eq_self];refine CP (a:=(H p,1)) (by unfold mid;omega) (by unfold mid;omega) (by unfold mid;omega) (by unfold mid;omega) (show (0:Int) < 1 by decide) (by omega) ?_
 simp? [eq_self];refine Cq hu (by unfold big aw;omega) (by unfold big aw;omega) (by unfold big aw;exact ⟨by have:=nb.1;unfold lessM at this;omega,by have:=nb.2.1;unfold lessM at this;omega⟩) (by unfold big aw;exact ⟨by have:=nb.2.2;unfold lessM at this;omega,by have:=nb.2.2;unfold lessM at this;omega⟩) a2.1 nb.2.2.1 hB1 ?_
 simp? [eq_self];refine Ge (by unfold big aw;omega) (by unfold big aw;omega) (by unfold big aw;exact ⟨by have:=tb.1;unfold partM lessM at this;omega,by have:=tb.2.1;unfold partM lessM at this;omega⟩) (by unfold big aw;exact ⟨by have:=tb.2.2;unfold partM lessM at this;omega,by have:=tb.2.2;unfold partM lessM at this;unfold lessM at tb2;omega⟩) fb.2.2.1 tb.2.2.1 hB2 ?_
 simp? [eq_self];exact h
theorem zf{u:U}{i:Int}(h1 : -1000<=i)(h2:i<=1000)(h:Q .non g):wpC fns (d+2) 24 [u,.int i] g X Q:=by
 refine ak (by rfl) (by rfl) ?_;simp only [l9]
 simp? [eq_self];refine zC ?_;have e1:decide (i < -1000)=false:=by simpa using h1
 have e2:decide (1000 < i)=false:=by simpa using h2
 simp? [e1,e2];exact h
theorem mZ{n:Nat}{us:List U}{m:Int}(hg:g[n]? = some (.lst us))(hm:m=us.length)(h:Q .non g):wpC fns (d+1) 25 [.ref n,.int m] g X Q:=by
 subst hm;refine ak (by rfl) (by rfl) ?_;simp only [mz]
 simp? [hg];exact h
theorem zt{n:Nat}{H:Ht}(hP:P.ok)(hR:RowsAt g n P H)(hH:hiH P H)(h:∀ (kvs:List (List Int×U)),(∀ p,aK P p=true->aF kvs (aq p)=some (.int (H p)))->Q (.ref g.length) (g++[.dic kvs])):wpC fns (d+3) 26 [uPl P,.ref n] g X Q:=by
 obtain ⟨ms,e1,e2,e3⟩:=hR;have s1:=hP.ss;have hws:=hP.ws;have hds:=hP.ds;refine ak (by rfl) (by rfl) ?_;simp only [m7]
 simp? [s1];refine mZ e1 (by rw [List.length_map];omega) ?_
 simp? [e1];refine c9 (ms.map U.ref) (λk σ g'=>g=g' /\ ∃ o,σ=[some (uPl P),some (.ref n),some (.int P.w),some (.int P.d),some (.int P.s),o,none,none,none,none]) (λk σ g' hI=>by rw [<-hI.1];exact fF e1) ⟨rfl,_,rfl⟩ (λk u σ g' hk hI => ?_) (λσ g' hI => ?_)
 .obtain ⟨rfl,o,rfl⟩:=hI
  simp only [List.getElem?_map,Option.map_eq_some_iff] at hk;obtain ⟨m,hm,rfl⟩:=hk;simp? [s1];refine mZ (e3 k m hm) (by rw [List.length_map,aQ];omega) ?_
  simp? [eq_self];exact ⟨_,rfl⟩
 .obtain ⟨rfl,o,rfl⟩:=hI
  simp? [ai e1];refine c9 (enL (ms.map U.ref)) (λk σ g' => ∃ (kvs:List (List Int×U)) (o1 o2 o3 o4:Option U),g'=g++[.dic kvs]/\kvs.length<=k*25/\(∀ p:Pt,0<=p.1->p.1<=P.w*P.s->0<=p.2->p.2 < k->aF kvs (aq p)=some (.int (H p)))/\σ=[some (uPl P),some (.ref n),some (.int P.w),some (.int P.d),some (.int P.s),o1,some (.ref g.length),o2,o3,o4]) (λk σ g' hI => ?_) ⟨[],_,_,_,_,rfl,by simp,λp _ _ h1 h2=>by omega,rfl⟩ (λk u σ g' hk hI => ?_) (λσ g' hI => ?_)
  .obtain ⟨kvs,o1,o2,o3,o4,rfl,_⟩:=hI
   exact oS (ai e1)
  .obtain ⟨kvs,o1,o2,o3,o4,rfl,hl,hv,rfl⟩:=hI
   rw [jY] at hk;simp only [List.getElem?_map,Option.map_map,Option.map_eq_some_iff,Function.comp] at hk;obtain ⟨m,hm,rfl⟩:=hk;have hkl:k < ms.length:=(List.getElem?_eq_some_iff.mp hm).1;have e4:=e3 k m hm;simp? [ai e4];refine c9 (enL ((ran (P.w*P.s+1)).map λx => .int (H (x,(k:Int))))) (λj σ g' => ∃ (kvs:List (List Int×U)) (o3 o4:Option U),g'=g++[.dic kvs]/\kvs.length<=k*25+j/\(∀ p:Pt,0<=p.1->p.1<=P.w*P.s->0<=p.2->(p.2 < k\/p.2=k/\p.1 < j)->aF kvs (aq p)=some (.int (H p)))/\σ=[some (uPl P),some (.ref n),some (.int P.w),some (.int P.d),some (.int P.s),some (.ref m),some (.ref g.length),some (.int k),o3,o4]) (λj σ g' hI => ?_) ⟨kvs,_,_,rfl,by omega,λp h1 h2 h3 h4=>hv p h1 h2 h3 (by omega),rfl⟩ (λj u σ g' hj hI => ?_) (λσ g' hI => ?_)
   .obtain ⟨kvs,o3,o4,rfl,_⟩:=hI
    exact oS (ai e4)
   .obtain ⟨kvs,o3,o4,rfl,hl,hv,rfl⟩:=hI
    rw [jY] at hj;simp only [List.getElem?_map,Option.map_map,Option.map_eq_some_iff,Function.comp] at hj;obtain ⟨x,hx,rfl⟩:=hj;obtain ⟨rfl,hx2⟩:=ig hx;have hb:=hH ((j:Int),(k:Int)) (ft ⟨by omega,by omega,by omega,by omega⟩)
    simp? [eq_self];refine zf hb.1 hb.2 ?_;have sb:∀ σ,subAt (.ref g.length) (.tup [.int (j:Int),.int (k:Int)]) (.int (H ((j:Int),(k:Int)))) σ (g++[.dic kvs])=.ok (.nx σ) (g++[.dic (dput kvs (aq ((j:Int),(k:Int))) (.int (H ((j:Int),(k:Int)))))]):=λσ=>by
     rw [gU bc bN (by omega)]
     simp
    simp? [sb];refine ⟨_,_,_,rfl,Ku pv (by omega),λp h1 h2 h3 h4 => ?_,rfl⟩
    rw [nQ];by_cases e:aq ((j:Int),(k:Int))=aq p
    .have:=cw e;subst this;simp
    .rw [if_neg e]
     refine hv p h1 h2 h3 ?_;have : ¬ (p.1=j/\p.2=k):=λz=>e (by unfold aq;rw [z.1,z.2])
     omega
   .obtain ⟨kvs,o3,o4,rfl,hl,hv,rfl⟩:=hI
    simp? [eq_self];rw [qu,List.length_map,aQ] at hl hv;exact ⟨kvs,_,_,_,_,rfl,by omega,λp h1 h2 h3 h4=>hv p h1 h2 h3 (by omega),rfl⟩
  .obtain ⟨kvs,o1,o2,o3,o4,rfl,hl,hv,rfl⟩:=hI
   simp? [eq_self];rw [qu,List.length_map] at hl hv;refine h kvs λp hp => ?_;have:=gO.mp hp;exact hv p (by omega) (by omega) (by omega) (by omega)
theorem qZ(t:Tri):keyOf (uT t)=some (gC t):=rfl
theorem y6{n:Nat}{H:Ht}(hP:P.ok)(hR:RowsAt g n P H)(hH:hiH P H)(h:∀ gs:G,Land0 (λj=>g.length<=j/\j < (g++gs).length) (g++gs) g.length P H->Q .non (g++gs)):wpC fns (d+5) 27 [.ref g.length,uPl P,.ref n] (g++[.ins 211529932 []]) X Q:=by
 have hR':RowsAt (g++[.ins 211529932 []]) n P H:=hR.app;refine ak (by rfl) (by rfl) ?_;simp only [lQ]
 simp? [eq_self];refine zt hP hR' hH λhk hget => ?_;have l1:(g++[O.ins 211529932 []]).length=g.length+1:=by simp
 simp? [fH,oX,List.append_assoc,l1];refine Br hP λgs n2 hn2 e2 => ?_;simp? [e2];refine i0 (shapesM P) uT (λ_=>true) (λt => .tup [uT t,.non]) (λg'=>g'=_) ((shapesM P).map λt => .tup [uT t,.non]) (by rw [hG]) (λk g' e=>by rw [e];exact fF e2) (λt ht => ?_) (by have:=(ni hP).2;omega) rfl ?_
 .simp? [eq_self]
  rintro g' rfl;simp? [qZ]
 .rintro g' rfl
  obtain ⟨gk,f1,f2,f3⟩:=oe gC uT qZ .non (shapesM P) [];simp? [f1,fH,oX,List.append_assoc];exact h _ ⟨g.length+1,_,_,_,_,hk,fH,by simp,hget,by simp,⟨Kw _,by simp⟩,⟨by omega,by simp⟩,⟨by simp,by simp⟩⟩
theorem zu{R:Nat->Prop}{v:Nat}{H:Ht}(hP:P.ok)(L:Land0 R g v P H)(h:∀ (gs:G) (n:Nat),RowsAt (g++gs) n P H->Q (.ref n) (g++gs)):wpC fns (d+1) 29 [.ref v] g X Q:=by
 obtain ⟨hN,dN,doN,unN,gN,hk,h1,h2,h3,h4,_⟩:=L;unfold du at h1;have s1:=hP.ss;have hws:=hP.ws;have hds:=hP.ds;have r1:aE (P.w*P.s+1)=true:=bM (by omega) (by omega)
 have r2:aE (P.d*P.s+1)=true:=bM (by omega) (by omega)
 refine ak (by rfl) (by rfl) ?_;simp only [mX]
 simp? [h1,s1,r2];refine JE ((ran (P.d*P.s+1)).map U.int) (λk acc g' => ∃ (ms:List Nat) (gs:G),g'=g++gs/\acc=ms.map U.ref/\ms.length=k /\ ∀ (y m:Nat),ms[y]? = some m->g'[m]? = some (.lst ((ran (P.w*P.s+1)).map λx => .int (H (x,(y:Int)))))) (λk acc g' _=>bU) (λk u acc hk' => ?_) (by rw [List.length_map,aQ];omega) ⟨[],[],by simp,rfl,rfl,λy m e=>by simp at e⟩ (λvs g' hI hvl => ?_)
 .simp only [List.getElem?_map,Option.map_eq_some_iff] at hk'
  obtain ⟨y,hy,rfl⟩:=hk';obtain ⟨rfl,hy2⟩:=ig hy;simp? [eq_self];rintro g' ⟨ms,gs,rfl,rfl,hl,hm⟩;simp? [ai h1,s1,r1];refine i0 (ran (P.w*P.s+1)) U.int (λ_=>true) (λx => .int (H (x,(k:Int)))) (λg'=>g'=g++gs) ((ran (P.w*P.s+1)).map λx => .int (H (x,(k:Int)))) (by rw [hG]) (λk g' _=>bU) (λx hx => ?_) (by rw [aQ];omega) rfl ?_
  .have hx2:=ij.mp hx
   have dl:aB (.tup [.int x,.int (k:Int)]) (.ref hN) (g++gs)=some (some (.int (H (x,(k:Int))))):=by
    rw [fz (ai h2) bN,h3 (x,(k:Int)) (ft ⟨by omega,by omega,by omega,by omega⟩)]
   simp? [eq_self];rintro g' rfl;simp? [ai h1,dl,id]
  .rintro g' rfl
   refine ⟨by rw [List.length_map,aQ];omega,?_⟩
   refine ⟨ms++[(g++gs).length],gs++[.lst ((ran (P.w*P.s+1)).map λx => .int (H (x,(k:Int))))],by simp,by simp,by simp [hl],λy m e => ?_⟩
   rcases Nat.lt_or_ge y ms.length with c | c
   .rw [List.getElem?_append_left c] at e
    exact ai (hm y m e)
   .have ey:y=ms.length:=by
     have:=(List.getElem?_eq_some_iff.mp e).1;simp at this;omega
    subst ey;rw [hl];simp at e;subst e;simp
 .obtain ⟨ms,gs,rfl,rfl,hl,hm⟩:=hI
  rw [List.length_map,aQ] at hl;refine ⟨by rw [List.length_map];omega,?_⟩
  rw [List.append_assoc];refine h _ _ ⟨ms,by rw [<-List.append_assoc];exact bc,hl,λy m e => ?_⟩
  rw [<-List.append_assoc];exact ai (hm y m e)
theorem zj{R:Nat->Prop}{v:Nat}{H:Ht}(hP:P.ok)(L:Land0 R g v P H)(hp:aK P p=true)(h:Q (.int 0) g):wpC fns (d+3) 30 [.ref v,uP p] g X Q:=by
 obtain ⟨hN,dN,doN,unN,gN,hk,h1,h2,h3,h4,_⟩:=L;unfold du at h1;have dl:aB (.tup [.int p.1,.int p.2]) (.ref dN) g=some none:=by rw [fz h4 bN];rfl
 have da:asD (.ref dN) g=some []:=by simp only [asD,h4]
 refine ak (by rfl) (by rfl) ?_;simp only [mr]
 simp? [h1];refine jw hP hp ?_;simp? [h1,dl,da,Option.getD_none];exact h
theorem zk{i:Int}(h:Q (.bl true) g):wpC fns (d+1) 31 [.int i] g X Q:=by
 refine ak (by rfl) (by rfl) ?_;simp only [mf]
 simp? [eq_self];exact h
theorem bE(n:Nat):∀ (D:Dt) (u v:U) (Q:U->G->Prop),D.ok n->Rep g D u->Rep g D v->Q (.bl true) g->wpC fns (d+n+1) 32 [u,v] g X Q:=by
 induction n with
 | zero=>intro D u v Q hd;exact hd.elim
 | succ n ih =>
  intro D u v Q hd hu hv h;refine (tQ (d:=d+(n+1)) (by rfl) (by rfl)).2 ?_
  simp only [my];have list:∀ (ds:List Dt) (us vs:List U),(∀ D∈ds,D.ok n)->Reps g ds us->Reps g ds vs->items u g=some us->items v g=some vs -> ∀ Q':Fl->G->Prop,(∀ σ,Q' (.nx σ) g)->wpF fns (d+(n+1)) (.nm 2) (.rng 0 (vs.length:Int).toNat) 0 [.ife (.not (.call 32 [.idx (.var 0) (.var 2),.idx (.var 1) (.var 2)])) [.ret (.cst (.bl false))] []] [some u,some v,none] g X Q':=λds us vs hds hus hvs iu iv Q' hQ'=>by
   refine eS ((ran (vs.length:Int)).map U.int) (λk σ g'=>g'=g /\ ∃ o,σ=[some u,some v,o]) (λk σ g' _=>bU) (λk w σ g' hk hI => ?_) (λσ g' hI=>by rw [hI.1];exact hQ' σ) _ 0 _ _ (Nat.zero_add _) ⟨rfl,none,rfl⟩
   obtain ⟨rfl,o,rfl⟩:=hI;simp only [List.getElem?_map,Option.map_eq_some_iff] at hk;obtain ⟨i,hi,rfl⟩:=hk;have hi':=ij.mp (List.mem_of_getElem? hi);have hlu:=hus.length;have hlv:=hvs.length;have hD:ds[i.toNat]? = some ds[i.toNat]:=List.getElem?_eq_getElem (by omega)
   obtain ⟨a,ea,ra⟩:=hus.get hD;obtain ⟨b,eb,rb⟩:=hvs.get hD;have ua:uix us i=some a:=by rw [iM hi'.1 (by omega),ea]
   have ub:uix vs i=some b:=by rw [iM hi'.1 (by omega),eb]
   simp only [↓vS,↓D9,↓Gq,↓Hn,↓ED,↓Hc,↓tz,↓uR,↓kP,↓k8,↓yd,↓iw,↓Jz,↓HX,↓Jv,↓HK,↓vJ,↓xM,↓Ip,↓Hy,↓wC,↓Hu,↓vO,↓DX,↓yR,↓yH,↓qf,↓qx,↓qQ,↓rJ,↓rg,↓ql,↓G3,↓Kh,↓Km,↓JC,↓yC,↓k_E,↓xT,↓Kg,↓xR,↓wZ,↓vD,↓G6,↓rl,↓qz,↓qm,↓wQ,↓yt,↓qi,↓qv,↓xh,↓GR,↓tN,↓tU,↓tY,↓qc,↓tf,↓vE,↓Ja,↓J1,↓IV,↓xx,↓uB,↓xK,↓sS,↓vw,↓D1,↓IU,↓uv,↓xb,↓uD,↓wq,↓GH,↓uE,↓u5,↓rY,↓tF,↓rS,↓ve,↓uf,↓tR,↓sY,↓vC,↓Ci,↓pV,↓s9,↓vA,↓qF,↓sE,↓uK,↓vR,↓t9,↓sx,↓sD,↓uC,↓sI,↓rV,↓qb,↓rn,↓rL,↓Eo,↓uM,↓ur,↓r8,↓FC,↓EB,↓GB,↓GZ,↓ui,↓t5,↓DW,↓xi,↓uS,↓FV,↓rH,↓tK,↓vT,↓sV,↓Ep,↓um,↓rW,↓wx,↓FD,↓Fm,↓F8,↓GJ,↓Fs,↓wy,↓yb,↓rP,↓we,↓yU,↓pZ,↓vB,↓v7,↓xm,↓xH,↓Jo,↓sM,↓xD,↓r9,↓Ej,↓sg,↓G1,↓rF,↓Bb,↓qS,↓H8,↓sZ,↓FP,↓EJ,↓CI,↓E3,↓FH,↓E5,↓FA,↓GA,↓Ee,↓CW,↓wW,↓qO,↓uX,↓qA,↓Et,↓Gp,↓DH,↓C1,↓qG,↓uF,↓tj,↓Hd,↓uY,↓vh,↓tB,↓qd,↓Jr,↓rA,↓Dr,↓EN,↓FJ,↓Gz,↓sj,↓F6,↓Cs,↓qP,↓pH,↓DS,↓BW,↓pM,↓u7,↓sf,↓Gf,↓sy,↓vb,↓rX,↓uI,↓rK,↓uz,↓t6,↓sC,↓ug,↓sJ,↓E7,↓Gy,↓EW,↓wH,↓sH,↓vn,↓uH,↓rM,↓uh,↓He,↓rD,↓sW,↓sk,↓rf,↓rp,↓sh,↓vF,↓tV,↓vQ,↓xc,↓vY,↓u9,↓vt,↓wO,↓ud,↓uU,↓su,↓uQ,↓so,↓rm,↓tZ,↓rB,↓rQ,↓tJ,↓sF,↓rq,↓tP,↓rC,↓uq,↓s8,↓uA,↓wU,↓vp,↓wG,↓wF,↓xj,↓vM,↓tH,↓wY,↓vW,↓va,↓qy,↓wJ,↓yF,↓wa,↓xG,↓wK,↓wM,↓vq,↓wd,↓u0,↓v3,↓sN,↓pW,↓sG,↓uc,↓yr,↓xy,↓xr,↓vz,↓wN,↓tS,↓uJ,↓uL,↓tD,↓v8,↓rG,↓uZ,↓v5,↓wc,↓wR,↓wo,↓xk,↓xE,↓xp,perm,pick,a8,Option.bind_some,c8,cH,bW,eZ,List.lookup_cons,List.lookup_nil,Nat.reduceBEq,List.contains_cons,List.contains_nil,cJ,List.getElem?_cons_zero,List.getElem?_cons_succ,List.length_cons,List.length_nil,List.set_cons_zero,List.set_cons_succ,List.map_cons,List.map_nil,List.replicate_succ,List.replicate_zero,List.cons_append,List.nil_append,Nat.zero_add,Nat.reduceAdd,Nat.reduceSub,Nat.reduceLT,Nat.reduceLeDiff,Nat.reduceEqDiff,Nat.lt_add_left_iff_pos,unl,az,bindL,if_true,if_false,ite_true,ite_false,and_true,true_and,Option.getD_some,iJ,iK,uy,qR,qH,qX,w9,wL,xl,vg,rN,oI,vi,y2,wI,cin,yB,wV,qD,Bool.or_false,Bool.or_true,Bool.true_or,Bool.false_or,clt,cle,cgt,cge,fg,tru,fm,ff,asL,aU,lift,bi1,iU,kN,gf,alloc,bA,jS,aj,xt,vZ,wb,wA,wm,xg,aW,gm,Option.map_some,Int.reduceLT,Int.reduceLE,Int.reduceNeg,Int.reduceEq,decide_true,decide_false,Bool.not_true,Bool.not_false,Bool.and_true,Bool.true_and,Bool.and_self,decide_eq_true_eq,eq_self,iu,iv,ua,ub];refine ih _ a b _ (hds _ (List.mem_of_getElem? hD)) ra rb ?_;simp? [eq_self];exact ⟨_,rfl⟩
  cases D with
  | non=>cases hu;cases hv;simp? [eq_self];exact h
  | bl b=>cases hu;cases hv;simp? [eq_self];cases b <;> exact h
  | int i =>
   cases hu;cases hv;simp? [eq_self];refine zk (d:=d+n) ?_;simp? [eq_self];simpa using h
  | str s=>cases hu;cases hv;simp? [eq_self];simpa using h
  | tup ds =>
   obtain ⟨us,rfl,hus⟩:=hu;obtain ⟨vs,rfl,hvs⟩:=hv;have hlu:=hus.length;have hlv:=hvs.length;obtain ⟨hlen,hds⟩:=Dt.ok_tup.mp hd;have eq:(us.length:Int)=vs.length:=by omega
   have hr:aE (vs.length:Int)=true:=bM (by omega) (by omega)
   simp? [eq,hr];refine list ds us vs hds hus hvs rfl rfl _ λσ => ?_;simp? [eq_self];exact h
  | lst ds =>
   obtain ⟨n1,us,rfl,hgu,hus⟩:=hu;obtain ⟨n2,vs,rfl,hgv,hvs⟩:=hv;have hlu:=hus.length;have hlv:=hvs.length;obtain ⟨hlen,hds⟩:=Dt.ok_lst.mp hd;have eq:(us.length:Int)=vs.length:=by omega
   have hr:aE (vs.length:Int)=true:=bM (by omega) (by omega)
   simp? [eq,hr,hgu,hgv];refine list ds us vs hds hus hvs (by simp only [items,hgu]) (by simp only [items,hgv]) _ λσ => ?_
   simp? [eq_self];exact h
theorem z3(ns:List Int)(h:∀ zs:List Int,Q (.ref 2) [.lst (zs.map U.int),.lst (zs.map U.int),cM 1 0 7]):wpC fns (d+1) 33 [.fro (ns.map U.int)] [] X Q:=by
 refine ak (by rfl) (by rfl) ?_;simp only [nB]
 simp? [gw];have hz:bB (ns.map U.int) none (some 63)=(lM ns none (some 63)).map U.int:=B6 ns _ _;simp? [hz,cM];exact h _
theorem a5{m:Int}(hb:Bag g)(hm:0 < m)(hm2:m < 1000000000000)(h:∀ (r:Int) (g':G),0<=r->r < m->Fr g g'->Q (.int r) g'):wpC fns (d+1) 34 [.ref 2,.int m] g X Q:=by
 obtain ⟨xs,at_,seed,h1,h2⟩:=hb;have l1:1 < g.length:=(List.getElem?_eq_some_iff.mp h1).1;have l2:2 < g.length:=(List.getElem?_eq_some_iff.mp h2).1;have hmb:m < aw:=by unfold aw;omega
 have h63:(2147483647:Int) < aw:=by decide
 have h64:(64:Int) < aw:=by decide
 have s1:small 48271:=bS (by decide)
 have s2:small 9973:=bS (by decide)
 have s3:small 31:=bS (by decide)
 have s4:small 69621:=bS (by decide)
 refine ak (by rfl) (by rfl) ?_;simp only [m9]
 simp? [h1,h2,cM];have small_:∀ cell:Int,0<=cell -> ¬ 1000000000000000000<=cell->wpS fns d [(.ife (.cmp .ge (.var 4) (.bin .pow (.cst (.int 10)) (.cst (.int 18)))) [(.sub (.var 2) (.bin .mod (.var 3) (.bi .len [(.var 2)])) (.bin .fdiv (.var 4) (.var 1))),(.ret (.bin .mod (.var 4) (.var 1)))] []),(.sub (.var 0) (.cst (.int 1)) (.bin .add (.var 3) (.cst (.int 1)))),(.sub (.var 0) (.cst (.int 2)) (.bin .mod (.bin .add (.bin .add (.bin .add (.bin .mul (.idx (.var 0) (.cst (.int 2))) (.cst (.int 48271))) (.bin .mul (.var 4) (.cst (.int 9973)))) (.bin .mul (.var 3) (.cst (.int 31)))) (.cst (.int 11))) (.cst (.int 2147483647)))),(.ret (.bin .mod (.bin .fdiv (.bin .mod (.bin .mul (.idx (.var 0) (.cst (.int 2))) (.cst (.int 69621))) (.cst (.int 2147483629))) (.cst (.int 64))) (.var 1)))] [some (.ref 2),some (.int m),some (.ref 1),some (.int at_),some (.int cell)] g X λfl g=>fC fl (lk λu=>Q u g):=λcell c0 c1=>by
  have h2':=bV (o':=cM 1 (at_+1) seed) h2;have h2'':=bV (o':=cM 1 (at_+1) ((seed*48271+cell*9973+at_*31+11) % 2147483647)) h2';have cn : ¬ cell < 0:=by omega
  simp? [h1,h2,jV,cn,c1,jI h2 (show (0:Int)<=1 by decide) (by simp),s1,s2,s3,s4,hm,hmb,h63,h64,show (1:Int).toNat=1 from rfl,h2']
  simp? [jI h2' (show (0:Int)<=2 by decide) (by simp),s1,s2,s3,s4,hm,hmb,h63,h64,show (2:Int).toNat=2 from rfl,h2'']
  exact h _ _ (Int.emod_nonneg _ (by omega)) (Int.emod_lt_of_pos _ hm) ((Fr.set2 ⟨xs,at_,seed,h1,h2⟩ _ _).trans (Fr.set2 (Fr.set2 ⟨xs,at_,seed,h1,h2⟩ _ _).bag _ _))
 have big_:∀ cell:Int,0 < xs.length->1000000000000000000<=cell->wpS fns d [(.ife (.cmp .ge (.var 4) (.bin .pow (.cst (.int 10)) (.cst (.int 18)))) [(.sub (.var 2) (.bin .mod (.var 3) (.bi .len [(.var 2)])) (.bin .fdiv (.var 4) (.var 1))),(.ret (.bin .mod (.var 4) (.var 1)))] []),(.sub (.var 0) (.cst (.int 1)) (.bin .add (.var 3) (.cst (.int 1)))),(.sub (.var 0) (.cst (.int 2)) (.bin .mod (.bin .add (.bin .add (.bin .add (.bin .mul (.idx (.var 0) (.cst (.int 2))) (.cst (.int 48271))) (.bin .mul (.var 4) (.cst (.int 9973)))) (.bin .mul (.var 3) (.cst (.int 31)))) (.cst (.int 11))) (.cst (.int 2147483647)))),(.ret (.bin .mod (.bin .fdiv (.bin .mod (.bin .mul (.idx (.var 0) (.cst (.int 2))) (.cst (.int 69621))) (.cst (.int 2147483629))) (.cst (.int 64))) (.var 1)))] [some (.ref 2),some (.int m),some (.ref 1),some (.int at_),some (.int cell)] g X λfl g=>fC fl (lk λu=>Q u g):=λcell c0 c1=>by
  have ce:=Dp (at_:=at_) c0;have cl:(0:Int) < xs.length:=by omega
  obtain ⟨m1,m2⟩:=ky (at_:=at_) c0;simp? [h1,h2,jV,c1,List.length_map,cl,hm,hmb,jI h1 m1 (by simpa using m2),<-List.map_set]
  exact h _ _ (Int.emod_nonneg _ (by omega)) (Int.emod_lt_of_pos _ hm) (Fr.set1 ⟨xs,at_,seed,h1,h2⟩ _)
 have fin_:∀ cell:Int,(1000000000000000000<=cell->0 < xs.length)->0<=cell->wpS fns d [(.ife (.cmp .ge (.var 4) (.bin .pow (.cst (.int 10)) (.cst (.int 18)))) [(.sub (.var 2) (.bin .mod (.var 3) (.bi .len [(.var 2)])) (.bin .fdiv (.var 4) (.var 1))),(.ret (.bin .mod (.var 4) (.var 1)))] []),(.sub (.var 0) (.cst (.int 1)) (.bin .add (.var 3) (.cst (.int 1)))),(.sub (.var 0) (.cst (.int 2)) (.bin .mod (.bin .add (.bin .add (.bin .add (.bin .mul (.idx (.var 0) (.cst (.int 2))) (.cst (.int 48271))) (.bin .mul (.var 4) (.cst (.int 9973)))) (.bin .mul (.var 3) (.cst (.int 31)))) (.cst (.int 11))) (.cst (.int 2147483647)))),(.ret (.bin .mod (.bin .fdiv (.bin .mod (.bin .mul (.idx (.var 0) (.cst (.int 2))) (.cst (.int 69621))) (.cst (.int 2147483629))) (.cst (.int 64))) (.var 1)))] [some (.ref 2),some (.int m),some (.ref 1),some (.int at_),some (.int cell)] g X λfl g=>fC fl (lk λu=>Q u g):=λcell c0 c1=>by
  by_cases c2:1000000000000000000<=cell
  .exact big_ cell (c0 c2) c2
  .exact small_ cell c1 c2
 refine aC (λk1 => ?_) λk1 => ?_
 .have k1:0 < xs.length:=by simpa using k1
  have cl:(0:Int) < xs.length:=by omega
  simp? [h1,List.length_map,cl,A3 k1];refine aC (λk2 => ?_) λk2 => ?_
  .have z:=fin_ (1 - iY xs at_) (λ_=>k1) (by simp only [decide_eq_true_eq] at k2;omega)
   simp? [eq_self] at z ⊢;exact z
  .have z:=fin_ (iY xs at_) (λ_=>k1) (by simp only [decide_eq_false_iff_not] at k2;omega)
   simp? [eq_self] at z ⊢;exact z
 .have z:=fin_ 0 (λz=>absurd z (by decide)) (by decide)
  simp? [eq_self] at z ⊢;exact z
theorem nD(hb:Bag g)(h:∀ (r:Int) (g':G),mid r->Fr g g'->Q (.int r) g'):wpC fns (d+2) 35 [.ref 2] g X Q:=by
 refine ak (by rfl) (by rfl) ?_;simp only [nu]
 simp? [eq_self];refine a5 hb (by decide) (by decide) λk g1 a1 b1 f1 => ?_
 simp? [eq_self];refine aC (λk1 => ?_) λk1 => ?_
 .simp? [eq_self]
  refine a5 f1.bag (by decide) (by decide) λr g2 a2 b2 f2 => ?_
  simp? [eq_self];exact h _ _ (by unfold mid;omega) (f1.trans f2)
 .simp? [eq_self]
  refine aC (λk2 => ?_) λk2 => ?_
  .simp? [eq_self]
   refine a5 f1.bag (by decide) (by decide) λr g2 a2 b2 f2 => ?_
   simp? [eq_self];exact h _ _ (by unfold mid;omega) (f1.trans f2)
  .simp? [eq_self]
   refine aC (λk3 => ?_) λk3 => ?_
   .simp? [eq_self]
    exact h _ _ (by unfold mid;omega) f1
   .simp? [CS]
    refine a5 f1.bag (by decide) (by decide) λr g2 a2 b2 f2 => ?_
    simp? [eq_self];refine a5 f2.bag (by decide) (by decide) λs g3 a3 b3 f3 => ?_
    have s2:small 2:=bS (by decide)
    have s3:small (s*2 - 1):=gZ (by omega) (by omega)
    simp? [s2,s3];refine a5 f3.bag (by decide) (by decide) λq g4 a4 b4 f4 => ?_
    have s4:small (1000000000000000000):=bS (by decide)
    have s5:small (1+q*1000000000000000000):=gZ (by omega) (by omega)
    simp? [jV,s4,s5];refine h _ _ ?_ (((f1.trans f2).trans f3).trans f4);have c1:s=0\/s=1:=by omega
    have c2:q=0\/q=1\/q=2:=by omega
    unfold mid;rcases c1 with rfl | rfl <;> rcases c2 with rfl | rfl | rfl <;> omega
noncomputable def c6:List Plan:=[⟨1,1,2⟩,⟨1,1,4⟩,⟨2,1,2⟩,⟨1,2,2⟩,⟨2,2,2⟩,⟨1,1,4⟩,⟨3,1,2⟩,⟨1,3,2⟩,⟨2,1,4⟩,⟨1,2,4⟩,⟨3,2,2⟩,⟨1,1,8⟩]
theorem DI{P:Plan}(h:P∈c6):P.ok:=by
 simp only [c6,List.mem_cons,List.not_mem_nil,or_false] at h;rcases h with rfl | rfl | rfl | rfl | rfl | rfl | rfl | rfl | rfl | rfl | rfl | rfl <;> exact ⟨by simp,by simp,by simp⟩
theorem zp(hb:Bag g)(h:∀ (P:Plan) (g':G),P∈c6->Fr g g'->Q (uPl P) g'):wpC fns (d+2) 36 [.ref 2] g X Q:=by
 refine ak (by rfl) (by rfl) ?_;simp only [ng]
 simp? [eq_self];refine EV (ai bc) bc (by decide) ?_
 simp? [eq_self];refine a5 hb.app.app.app (by decide) (by decide) λr g1 a1 b1 f1 => ?_
 have e1:=f1.get _ _ (by have:=hb.len;simp only [List.length_append,List.length_cons,List.length_nil];omega) bc
 obtain ⟨P,hP,hu⟩:=iA (l:=c6) (f:=uPl) a1 (by exact b1)
 have e2:g1[(g++[O.lst ((c6.take 6).map uPl)]++[O.lst ((c6.drop 6).map uPl)]).length]? = some (.lst (c6.map uPl)):=e1;have fr:Fr g g1:=by
  refine Fr.trans ?_ f1;rw [List.append_assoc,List.append_assoc];exact Fr.app hb
 revert e2;simp only [List.length_append,List.length_cons,List.length_nil];intro e2;simp? [e2,hu,List.length_append];exact h P g1 hP fr
theorem lT(hP:P.ok)(h:dh g ((ah P).map uP) Q):wpC fns (d+1) 37 [uPl P] g X Q:=by
 have h0:=hP.s0;have h1:=hP.ss;have hw:=hP.ws;have hd:=hP.ds;have r1:aE (P.w*P.s+1)=true:=bM (by omega) (by omega)
 have r2:aE (P.d*P.s+1)=true:=bM (by omega) (by omega)
 have hl:=dW hP;refine ak (by rfl) (by rfl) ?_;simp only [lZ]
 simp? [*];refine eS ((ran (P.w*P.s+1)).map U.int) (λk σ g'=>(∃ o1 o2,σ=[some (uPl P),some (.ref g.length),o1,o2])/\g'=g++[.lst ((((ran (P.w*P.s+1)).take k).flatMap λx=>(ran (P.d*P.s+1)).map λy=>((x,y):Pt)).map uP)]) (λk σ g' _=>bU) (λk u σ g' hk hI => ?_) (λσ g' hI => ?_) _ 0 _ _ (Nat.zero_add _) ⟨⟨none,none,rfl⟩,rfl⟩
 .obtain ⟨⟨o1,o2,rfl⟩,rfl⟩:=hI
  simp only [List.getElem?_map,Option.map_eq_some_iff] at hk;obtain ⟨x,hx,rfl⟩:=hk;simp? [*];refine eS ((ran (P.d*P.s+1)).map U.int) (λj σ g'=>(∃ o2,σ=[some (uPl P),some (.ref g.length),some (.int x),o2])/\g'=g++[.lst (((((ran (P.w*P.s+1)).take k).flatMap λx=>(ran (P.d*P.s+1)).map λy=>((x,y):Pt))++(((ran (P.d*P.s+1)).take j).map λy=>((x,y):Pt))).map uP)]) (λk σ g' _=>bU) (λj u σ g' hj hI => ?_) (λσ g' hI => ?_) _ 0 _ _ (Nat.zero_add _) ⟨⟨o2,rfl⟩,by simp⟩
  .obtain ⟨⟨o2,rfl⟩,rfl⟩:=hI
   simp only [List.getElem?_map,Option.map_eq_some_iff] at hj;obtain ⟨y,hy,rfl⟩:=hj;have hk':=List.length_take_le k (ran (P.w*P.s+1));have hlen:((((ran (P.w*P.s+1)).take k).flatMap λx=>(ran (P.d*P.s+1)).map λy=>((x,y):Pt))++(((ran (P.d*P.s+1)).take j).map λy=>((x,y):Pt))).length<=700:=by
    have a1:=dZ (f:=λx=>(ran (P.d*P.s+1)).map λy=>((x,y):Pt)) (B:=25) (l:=(ran (P.w*P.s+1)).take k) λa _=>by simp [aQ];omega
    have a2:((ran (P.w*P.s+1)).take k).length<=25:=by rw [List.length_take,aQ];omega
    have a3:=Nat.mul_le_mul_right 25 a2;rw [List.length_append,List.length_map,List.length_take,aQ];omega
   simp? [bc,zN (show (List.map uP ((((ran (P.w*P.s+1)).take k).flatMap λx=>(ran (P.d*P.s+1)).map λy=>((x,y):Pt))++(((ran (P.d*P.s+1)).take j).map λy=>((x,y):Pt)))).length < 16777000 by rw [List.length_map];omega)]
   refine ⟨⟨_,rfl⟩,?_⟩;rw [List.take_succ,hy];simp
  .obtain ⟨⟨o2,rfl⟩,rfl⟩:=hI
   simp? [eq_self];refine ⟨⟨_,_,rfl⟩,?_⟩;rw [List.take_succ,hx];simp
 .obtain ⟨⟨o1,o2,rfl⟩,rfl⟩:=hI
  simp? [eq_self];refine h _ _ (Kw _) ?_;simp [ah]
theorem ze(hP:P.ok)(h:Q (.bl (bz P p)) g):wpC fns (d+1) 38 [uPl P,uP p] g X Q:=by
 have h0:=hP.s0;refine ak (by rfl) (by rfl) ?_;simp only [l0]
 simp? [*];simp only [bz] at h;refine aC (λk1 => ?_) λk1=>by simp? [*];simpa [k1] using h
 simp? [*];simpa [k1] using h
theorem zw(hP:P.ok)(h:dh g ((cf P).map uP) Q):wpC fns (d+2) 39 [uPl P] g X Q:=by
 have hl:=dW hP;refine ak (by rfl) (by rfl) ?_;simp only [mR]
 simp? [eq_self];refine lT hP λgs n hn hg => ?_;simp? [*];refine i0 (ah P) uP (λp => !bz P p) uP (λg'=>g'=g++gs) ((cf P).map uP) rfl (λk g' e=>by rw [e,fF hg]) (λp hp => ?_) (by omega) rfl ?_
 .simp? [eq_self]
  rintro g' rfl;refine ze hP ?_;simp? [eq_self];refine aC (λk1 => ?_) λk1 => ?_ <;> simp? [*]
 .rintro g' rfl
  have hf:=List.length_filter_le (λp => !bz P p) (ah P);exact oO h (by rw [List.length_map];unfold cf;omega)
theorem mL(h:Q (.int (stride p)) g):wpC fns (d+1) 40 [uP p] g X Q:=by
 refine ak (by rfl) (by rfl) ?_;simp only [mJ]
 simp? [eq_self];unfold stride at h
 (repeat' (refine aC (λ_ => ?_) (λ_ => ?_) <;> (try simp? [dO, *])))
 all_goals simp_all
theorem zi(h:Q (.bl (bX p)) g):wpC fns (d+2) 41 [uP p] g X Q:=by
 have s0:=(fq p).1;have sb:=hZ p;refine ak (by rfl) (by rfl) ?_;simp only [lV]
 simp? [eq_self];refine mL ?_;simp? [s0,sb];unfold bX at h
 (repeat' (refine aC (λ_ => ?_) (λ_ => ?_) <;> (try simp? [dO, *])))
 all_goals simp_all
theorem zh(h:∀ gs n i j,(g++gs)[n]? = some (.lst [.ref i,.ref j])->(g++gs)[i]? = some (.lst [uP (af p).1.1,uP (af p).1.2])->(g++gs)[j]? = some (.lst [uP (af p).2.1,uP (af p).2.2])->Q (.ref n) (g++gs)):wpC fns (d+3) 42 [uP p] g X Q:=by
 have s0:=(fq p).1;have s1:0 < 2*stride p:=by omega
 have sb:=nU p;have sb1:=hZ p;have ss:=md p;refine ak (by rfl) (by rfl) ?_;simp only [lX]
 simp? [eq_self];refine mL ?_;simp? [s0,s1,sb,sb1,ss];refine zi ?_;simp? [s0,s1,sb,sb1,ss];refine aC (λk1 => ?_) λk1 => ?_
 .have ev:=Ah k1
  simp? [s0,s1,sb,sb1,ss];refine aC (λk2 => ?_) λk2 => ?_
  .have k3:=ev.mp (by simpa using k2)
   simp? [s0,s1,sb,sb1,ss];exact il (i:=2) (j:=3) h (by simp [af,k1,cR,k3,rising]) (by simp [af,k1,cR,k3,falling]) (by simp) (by simp)
  .have k3:=mt ev.mpr (by simpa using k2)
   simp? [s0,s1,sb,sb1,ss];exact il (i:=3) (j:=2) h (by simp [af,k1,cR,k3,falling]) (by simp [af,k1,cR,k3,rising]) (by simp) (by simp)
 .simp? [s0,s1,sb,sb1,ss]
  refine aC (λk2 => ?_) λk2 => ?_
  .have k3:p.1 / stride p % 2=1:=by simpa using k2
   simp? [s0,s1,sb,sb1,ss];exact il (i:=0) (j:=1) h (by simp [af,k1,cZ,k3,lying]) (by simp [af,k1,cZ,k3,upright]) (by simp) (by simp)
  .have k3 : ¬ p.1 / stride p % 2=1:=by simpa using k2
   simp? [s0,s1,sb,sb1,ss];exact il (i:=1) (j:=0) h (by simp [af,k1,cZ,k3,upright]) (by simp [af,k1,cZ,k3,lying]) (by simp) (by simp)
theorem fo{a b:Int}(hb:b≠0)(hB:big b)(h:Q (uP (lowM a b)) g):wpC fns (d+1) 43 [.int a,.int b] g X Q:=by
 obtain ⟨g0,gB⟩:=qp (a:=a) hb hB;refine ak (by rfl) (by rfl) ?_;simp only [nr]
 simp? [j0];refine kH (λm σ g'=>g'=g /\ ∃ (x y:Nat) (o:Option U),Nat.gcd x y=Nat.gcd a.natAbs b.natAbs/\y=m/\σ=[some (.int a),some (.int b),some (.int x),some (.int y),o]) ?_ b.natAbs _ _ ⟨rfl,a.natAbs,b.natAbs,none,rfl,rfl,rfl⟩;rintro m σ g' ⟨rfl,x,y,o,hg,rfl,rfl⟩;simp? [eq_self];refine aC (λk1 => ?_) λk1 => ?_
 .have y0:0 < y:=by simp at k1;omega
  have y1:(0:Int) < y:=by omega
  simp? [y1];refine ⟨x % y,Nat.mod_lt _ y0,y,x % y,some (.int ((x:Int) % y)),?_,rfl,?_⟩
  .rw [<-hg,Nat.gcd_comm y,<-Nat.gcd_rec,Nat.gcd_comm]
  .simp
 .have y0:y=0:=by simp at k1;omega
  subst y0;have hx:x=Nat.gcd a.natAbs b.natAbs:=by simpa using hg
  simp? [eq_self];refine aC (λk2 => ?_) λk2 => ?_
  .have k3:b < 0:=by simpa using k2
   have e:(0 - (x:Int))=a9 a b:=by unfold a9;rw [if_pos k3,hx];omega
   simp? [e,iN g0 gB];exact h
  .have k3 : ¬ b < 0:=by simpa using k2
   have e:(x:Int)=a9 a b:=by unfold a9;rw [if_neg k3,hx]
   simp? [e,iN g0 gB];exact h
theorem zv{k:Int}(hb:Bag g)(h:∀ (v:Int) (g':G),-1000<=v->v<=1000->Fr g g'->Q (.int v) g'):wpC fns (d+2) 44 [.ref 2,.int k] g X Q:=by
 refine ak (by rfl) (by rfl) ?_;simp only [m8];simp? [eq_self]
 refine aC (λk1 => ?_) λk1 => ?_
 .simp? [eq_self]
  refine a5 hb.app (by decide) (by decide) λr g1 a1 b1 f1 => ?_
  have e1:g1[g.length]? = some (.lst (([0,0,0,0,0,7,-5]:List Int).map U.int)):=f1.get _ _ (by have:=hb.len;omega) bc
  obtain ⟨v,hv,hu⟩:=iA (l:=([0,0,0,0,0,7,-5]:List Int)) (f:=U.int) a1 (by exact b1)
  have hr : -1000<=v/\v<=1000:=by
   simp only [List.mem_cons,List.not_mem_nil,or_false] at hv;omega
  have hu':uix [U.int 0,U.int 0,U.int 0,U.int 0,U.int 0,U.int 7,U.int (-5)] r=some (.int v):=hu;simp? [e1,hu'];exact h v g1 hr.1 hr.2 (Fr.trans (Fr.app hb) f1)
 .simp? [eq_self]
  refine aC (λk2 => ?_) λk2 => ?_
  .simp? [eq_self]
   refine a5 hb (by decide) (by decide) λr g1 a1 b1 f1 => ?_
   simp? [eq_self];exact h _ g1 (by omega) (by omega) f1
  .simp? [eq_self]
   refine aC (λk3 => ?_) λk3 => ?_
   .simp? [eq_self]
    refine a5 hb (by decide) (by decide) λr g1 a1 b1 f1 => ?_
    simp? [eq_self];exact h _ g1 (by omega) (by omega) f1
   .simp? [eq_self]
    refine aC (λk4 => ?_) λk4 => ?_
    .simp? [eq_self]
     refine a5 hb (by decide) (by decide) λr g1 a1 b1 f1 => ?_
     have s2:small 2000:=⟨by decide,by decide⟩
     simp? [s2];exact h (r*2000 - 1000) g1 (by omega) (by omega) f1
    .simp? [eq_self]
     exact h 0 g (by decide) (by decide) (Fr.refl hb)
theorem nA{k:Nat}{p:Pt}(h:(ah P)[k]? = some p):p ∉ (ah P).take k:=by
 intro hm;have hs:=y9 P;obtain ⟨hk,e⟩:=List.getElem?_eq_some_iff.mp h;obtain ⟨j,hj,e2⟩:=List.mem_iff_getElem.mp hm;rw [List.getElem_take] at e2;have hj2:j < k:=by rw [List.length_take] at hj;omega
 have:=List.pairwise_iff_getElem.mp hs j k (by omega) hk hj2
 rw [e2,e] at this;exact B3 this
theorem zb(hP:P.ok)(hb:Bag g)(h:∀ (H:Ht) (m:Nat) (g':G),hiH P H->Fr g g'->g.length<=m->g'[m]? = some (.dic (dM aq (λp => .int (H p)) (ah P)))->Q (.ref m) g'):wpC fns (d+3) 45 [.ref 2,uPl P] g X Q:=by
 have hl:=dW hP;have hws:=hP.ws;have hds:=hP.ds;refine ak (by rfl) (by rfl) ?_;simp only [lR]
 simp? [eq_self];refine a5 hb (by decide) (by decide) λkd g1 k0 k1 f1 => ?_
 simp? [eq_self];refine a5 f1.bag (by decide) (by decide) λac g2 a0 a1 f2 => ?_
 simp? [eq_self];refine a5 f2.bag (by decide) (by decide) λal g3 b0 b1 f3 => ?_
 have F3:Fr g g3:=(f1.trans f2).trans f3;have l3:=F3.len;have b3:=hb.len;simp? [eq_self];refine lT hP λgs n hn e => ?_;have F4:Fr g (g3++[O.dic []]++gs):=(F3.trans (Fr.app F3.bag)).trans (Fr.app F3.bag.app);have hn':g3.length < n:=by simp at hn;omega
 simp? [e];refine c9 ((ah P).map uP) (λk σ g' => ∃ (H:Ht) (o:Option U),Fr g g'/\g'[n]? = some (.lst ((ah P).map uP))/\g'[g3.length]? = some (.dic (dM aq (λp => .int (H p)) ((ah P).take k)))/\(∀ p,-1000<=H p/\H p<=1000)/\σ=[some (.ref 2),some (uPl P),some (.int kd),some (.int (ac - 20)),some (.int (al - 20)),some (.ref g3.length),o]) (λk σ g' hI => ?_) ⟨λ_=>0,none,F4,e,?_,λ_=>(by decide:(-1000:Int)<=0/\(0:Int)<=1000),rfl⟩ (λk u σ g' hk hI => ?_) (λσ g' hI => ?_)
 .obtain ⟨H,o,_,e,_⟩:=hI
  exact fF e
 .exact ai (by simp [dM])
 .obtain ⟨H,o,fr,el,ed,hH,rfl⟩:=hI
  simp only [List.getElem?_map,Option.map_eq_some_iff] at hk;obtain ⟨p,hp,rfl⟩:=hk;have hpl:=gO.mp (cu.mp (List.mem_of_getElem? hp));have hkl:k < (ah P).length:=(List.getElem?_eq_some_iff.mp hp).1;have new:=nA hp;have et:(ah P).take (k+1)=(ah P).take k++[p]:=by rw [List.take_succ,hp];rfl
  simp? [eq_self];refine zv fr.bag λv g5 v0 v1 f5 => ?_;have ed5:=f5.get _ _ (by omega) ed
  have el5:=f5.get _ _ (by omega) el
  have ln:(dM aq (λp=>U.int (H p)) ((ah P).take k)).length < 16777000:=by simp only [dM,List.length_map,List.length_take];omega
  have sb:∀ σ,subAt (.ref g3.length) (.tup [.int p.1,.int p.2]) (.int v) σ g5=.ok (.nx σ) (g5.set g3.length (.dic (dM aq (λq => .int (if q=p then v else H q)) ((ah P).take (k+1))))):=λσ=>by
   rw [gU ed5 bN ln,et,o8 (λa b=>cw) new];congr 4;funext q;split <;> rfl
  have fr5:=fr.trans f5;have fr6:Fr g (g5.set g3.length (.dic (dM aq (λq => .int (if q=p then v else H q)) ((ah P).take (k+1))))):=Fr.setNew fr5 l3 (by omega)
  have H6:∀ q,-1000<=(if q=p then v else H q)/\(if q=p then v else H q)<=1000:=λq=>by
   split
   .exact ⟨v0,v1⟩
   .exact hH q
  simp? [sb];refine aC (λc5 => ?_) λc5 => ?_
  .have z1:small (ac - 20):=gZ (by omega) (by omega)
   have z2:small (al - 20):=gZ (by omega) (by omega)
   simp? [z1,z2];generalize hg6:List.set g5 g3.length (O.dic (dM aq (λq => .int (if q=p then v else H q)) ((ah P).take (k+1))))=g6 at fr6
   have ed6:g6[g3.length]? = some (O.dic (dM aq (λq => .int (if q=p then v else H q)) ((ah P).take (k+1)))):=by rw [<-hg6];exact bV ed5
   have el6:g6[n]? = some (.lst ((ah P).map uP)):=by rw [<-hg6,List.getElem?_set_ne (by omega)];exact el5
   refine a5 fr6.bag.app (by decide) (by decide) λr g7 r0 r1 f7 => ?_
   have e7:g7[g6.length]? = some (.lst (([0,0,0,1]:List Int).map U.int)):=f7.get _ _ (by have:=fr6.len;omega) bc
   obtain ⟨w,hw,hu⟩:=iA (l:=([0,0,0,1]:List Int)) (f:=U.int) r0 (by exact r1)
   have hr:0<=w/\w<=1:=by
    simp only [List.mem_cons,List.not_mem_nil,or_false] at hw;omega
   have hu':uix [U.int 0,U.int 0,U.int 0,U.int 1] r=some (.int w):=hu;have ed7:=f7.get _ _ (by omega) (ai (gs:=[.lst [.int 0,.int 0,.int 0,.int 1]]) ed6)
   have el7:=f7.get _ _ (by omega) (ai (gs:=[.lst [.int 0,.int 0,.int 0,.int 1]]) el6)
   have ln7:(dM aq (λq=>U.int (if q=p then v else H q)) ((ah P).take (k+1))).length < 16777000:=by simp only [dM,List.length_map,List.length_take];omega
   obtain ⟨v',hv'⟩:∃ v',v'=(ac - 20)*p.1+(al - 20)*p.2+w:=⟨_,rfl⟩;have bv : -1000<=v'/\v'<=1000:=by
    have q1:=j8 (a:=ac - 20) (b:=p.1) (A:=20) (B:=24) (by omega) (by omega)
    have q2:=j8 (a:=al - 20) (b:=p.2) (A:=20) (B:=24) (by omega) (by omega)
    omega
   have sb7:∀ σ,subAt (.ref g3.length) (.tup [.int p.1,.int p.2]) (.int v') σ g7=.ok (.nx σ) (g7.set g3.length (.dic (dM aq (λq => .int (if q=p then v' else H q)) ((ah P).take (k+1))))):=λσ=>by
    rw [gU ed7 bN ln7,Bn (λa b=>cw) (by rw [et];simp)]
    congr 4;funext q;by_cases c:q=p <;> simp [c]
   rw [hv'] at sb7;simp? [e7,hu',sb7];rw [<-hv'];refine ⟨_,_,Fr.setNew ((fr6.trans (Fr.app fr6.bag)).trans f7) l3 (by omega),?_,bV ed7,λq => ?_,rfl⟩
   .rw [List.getElem?_set_ne (by omega)];exact el7
   .split
    .exact bv
    .exact hH q
  .simp? [eq_self]
   refine ⟨_,_,fr6,?_,bV ed5,H6,rfl⟩;rw [List.getElem?_set_ne (by omega)];exact el5
 .obtain ⟨H,o,fr,el,ed,hH,rfl⟩:=hI
  simp? [eq_self];rw [List.length_map,List.take_length] at ed;exact h H _ g' (λp _=>hH p) fr l3 ed
theorem mY{u:U}{kvs:List (List Int×U)}{H:Ht}(hP:P.ok)(hu:asD u g=some kvs)(hk:∀ p,aK P p=true->aF kvs (aq p)=some (.int (H p)))(h:∀ (gs:G) (n:Nat),RowsAt (g++gs) n P H->Q (.ref n) (g++gs)):wpC fns (d+1) 46 [uPl P,u] g X Q:=by
 have s1:=hP.ss;have hws:=hP.ws;have hds:=hP.ds;have r1:aE (P.w*P.s+1)=true:=bM (by omega) (by omega)
 have r2:aE (P.d*P.s+1)=true:=bM (by omega) (by omega)
 refine ak (by rfl) (by rfl) ?_;simp only [mw]
 simp? [s1,r2];refine c9 ((ran (P.d*P.s+1)).map U.int) (λk σ g' => ∃ (ms:List Nat) (gs:G) (o:Option U),g'=g ++ .lst (ms.map U.ref) :: gs/\ms.length=k/\(∀ (y m:Nat),ms[y]? = some m->g.length < m/\g'[m]? = some (.lst ((ran (P.w*P.s+1)).map λx => .int (H (x,(y:Int))))))/\σ=[some (uPl P),some u,some (.ref g.length),o]) (λk σ g' _=>bU) ⟨[],[],_,rfl,rfl,λy m e=>by simp at e,rfl⟩ (λk u' σ g' hk' hI => ?_) (λσ g' hI => ?_)
 .obtain ⟨ms,gs,o,rfl,hl,hm,rfl⟩:=hI
  simp only [List.getElem?_map,Option.map_eq_some_iff] at hk';obtain ⟨y,hy,rfl⟩:=hk';obtain ⟨rfl,hy2⟩:=ig hy;simp? [fH,s1,r1];refine i0 (ran (P.w*P.s+1)) U.int (λ_=>true) (λx => .int (H (x,(k:Int)))) (λg'=>g'=g ++ .lst (ms.map U.ref) :: gs) ((ran (P.w*P.s+1)).map λx => .int (H (x,(k:Int)))) (by rw [hG]) (λk g' _=>bU) (λx hx => ?_) (by rw [aQ];omega) rfl ?_
  .have hx2:=ij.mp hx
   have dl:aB (.tup [.int x,.int (k:Int)]) u (g ++ .lst (ms.map U.ref) :: gs)=some (some (.int (H (x,(k:Int))))):=by
    rw [Bh (DG hu) bN,hk (x,(k:Int)) (ft ⟨by omega,by omega,by omega,by omega⟩)]
   simp? [eq_self];rintro g' rfl;simp? [dl,id]
  .rintro g' rfl
   have ap:bO g.length (.ref (g++O.lst (ms.map U.ref) :: gs).length) (g++O.lst (ms.map U.ref) :: gs++[.lst ((ran (P.w*P.s+1)).map λx => .int (H (x,(k:Int))))])=.ok .non (g ++ .lst ((ms++[(g++O.lst (ms.map U.ref) :: gs).length]).map U.ref) :: (gs++[.lst ((ran (P.w*P.s+1)).map λx => .int (H (x,(k:Int))))])):=by
    rw [jM (xs:=ms.map U.ref) (by simp) (by rw [List.length_map];omega)]
    simp
   refine ⟨by rw [List.length_map,aQ];omega,?_⟩
   simp? [ap];refine ⟨_,_,_,rfl,by simp [hl],λy m e => ?_,rfl⟩
   rcases Nat.lt_or_ge y ms.length with c | c
   .rw [List.getElem?_append_left c] at e
    obtain ⟨m1,m2⟩:=hm y m e;refine ⟨m1,?_⟩;have c1:m < (g++O.lst (ms.map U.ref) :: gs).length:=(List.getElem?_eq_some_iff.mp m2).1;rw [List.getElem?_append_right (by omega)] at m2 ⊢
    obtain ⟨j,hj⟩:∃ j,m - g.length=j+1:=⟨m - g.length - 1,by omega⟩
    rw [hj,List.getElem?_cons_succ] at m2 ⊢;exact ai m2
   .have ey:y=ms.length:=by
     have:=(List.getElem?_eq_some_iff.mp e).1;simp at this;omega
    subst ey;rw [hl];simp at e;subst e;refine ⟨by omega,?_⟩
    rw [show g++O.lst ((ms++[(g++O.lst (ms.map U.ref) :: gs).length]).map U.ref) :: (gs++[O.lst ((ran (P.w*P.s+1)).map λx => .int (H (x,(k:Int))))])=(g++O.lst ((ms++[(g++O.lst (ms.map U.ref) :: gs).length]).map U.ref) :: gs)++[O.lst ((ran (P.w*P.s+1)).map λx => .int (H (x,(k:Int))))] by simp]
    rw [List.getElem?_append_right (by simp)]
    simp
 .obtain ⟨ms,gs,o,rfl,hl,hm,rfl⟩:=hI
  simp? [eq_self];rw [List.length_map,aQ] at hl;refine h _ _ ⟨ms,fH,hl,λy m e=>(hm y m e).2⟩
theorem zl{m:Nat}{H:Ht}(hP:P.ok)(h8:P.w*P.s<=8/\P.d*P.s<=8)(hm:g[m]? = some (.dic (dM aq (λp => .int (H p)) (ah P))))
  (h:∀ (g':G) (n hc mk:Nat),Kp m g g'->Mdl g' n hc mk->g'[hc]? = some (.dic (dM aq (λp => .int (H p)) (ah P)))->g'[mk]? = some (.dic (dM aq (λ_ => .int 0) (ah P)))->g.length<=mk->n≠mk->hc≠mk->Q (.ref n) g'):wpC fns (d+1) 47 [.ref m] g X Q:=by
 have hl:=dW hP;have hws:=hP.ws;have hds:=hP.ds;have mlt:m < g.length:=(List.getElem?_eq_some_iff.mp hm).1;have h0:ah P≠[]:=λe=>by have:(0,0)∈ah P:=cu.mpr (ft ⟨by decide,by simp only;omega,by decide,by simp only;omega⟩);rw [e] at this;cases this
 refine ak (by rfl) (by rfl) ?_;simp only [mh]
 simp? [ai hm];refine c9 ((ah P).map uP) (λk σ g' => ∃ o,Kp m g g'/\g'[m]? = some (.dif (dM aq (λp => .int (H p)) (ah P)))/\g'[g.length]? = some (.dic (dM aq (λ_ => .int 0) ((ah P).take k)))/\σ=[some (.ref m),some (.ref g.length),o]) (λk σ g' hI => ?_) ⟨none,Kp.app.trans Kp.set,bV (ai hm),?_,rfl⟩ (λk u σ g' hk hI => ?_) (λσ g' hI => ?_)
 .obtain ⟨o,_,e,_⟩:=hI
  exact ph e
 .rw [List.getElem?_set_ne (by omega)];simp [dM]
 .obtain ⟨o,kp,e3,e4,rfl⟩:=hI
  simp only [List.getElem?_map,Option.map_eq_some_iff] at hk;obtain ⟨p,hp,rfl⟩:=hk;have new:=nA hp;have et:(ah P).take (k+1)=(ah P).take k++[p]:=by rw [List.take_succ,hp];rfl
  have ln:(dM aq (λ_=>U.int 0) ((ah P).take k)).length < 16777000:=by simp only [dM,List.length_map,List.length_take];omega
  have sb:∀ σ,subAt (.ref g.length) (.tup [.int p.1,.int p.2]) (.int 0) σ g'=.ok (.nx σ) (g'.set g.length (.dic (dM aq (λ_ => .int 0) ((ah P).take (k+1))))):=λσ=>by
   rw [gU e4 bN ln,et,o8 (λa b=>cw) new];congr 4;funext q;split <;> rfl
  simp? [sb];refine ⟨_,kp.setNew (Kw _),?_,bV e4,rfl⟩;rw [List.getElem?_set_ne (by omega)];exact e3
 .obtain ⟨o,kp,e3,e4,rfl⟩:=hI
  rw [List.length_map,List.take_length] at e4;have da:asD (.ref m) g'=some (dM aq (λp => .int (H p)) (ah P)):=by simp only [asD,e3]
  have gl:g.length < g'.length:=(List.getElem?_eq_some_iff.mp e4).1;simp? [Gb h8.1 h8.2 h0 da];refine h _ _ g'.length g.length kp.more.more.more.more ⟨_,bc,by rfl,by rfl,by rfl,by rfl⟩ ?_ ?_ (Kw _) ?_ (by omega)
  .exact ai (ai (ai bc))
  .exact ai (ai (ai (ai e4)))
  .simp only [List.length_append,List.length_cons,List.length_nil];omega
theorem zc{R:Nat->Prop}{v n hc mk:Nat}{H:Ht}(hP:P.ok)(L:Land0 R g v P H)(hR : ¬ R mk)(M:Mdl g n hc mk)(e1:g[hc]? = some (.dic (dM aq (λp => .int (H p)) (ah P))))(e2:g[mk]? = some (.dic (dM aq (λ_ => .int 0) (ah P))))(n1:n≠mk)(n2:hc≠mk)
  (h:∀ g':G,Q (.bl true) g'):wpC fns (d+6) 48 [.ref v,uPl P,.ref n] g X Q:=by
 obtain ⟨hN,dN,doN,unN,gN,hk,h1,_⟩:=id L;unfold du at h1;refine ak (by rfl) (by rfl) ?_;simp only [l7]
 simp? [h1];refine zu hP L λgs1 m1 R1 => ?_;have M1:=M.app (gs:=gs1);have a1:asD (.ref hc) (g++gs1)=some (dM aq (λp => .int (H p)) (ah P)):=by simp only [asD,ai e1]
 simp? [M1.look.1];refine mY hP a1 (λp hp=>eL (key:=aq) (λa b=>cw) (cu.mpr hp)) λgs2 m2 R2 => ?_;simp? [eq_self];refine bE 3 (gj P H) _ _ _ (CD hP) (oT R1.app) (oT R2) ?_;have M2:=M1.app (gs:=gs2);have L2:=(L.app (gs:=gs1)).app (gs:=gs2);have e12:=ai (gs:=gs2) (ai (gs:=gs1) e1);have e22:=ai (gs:=gs2) (ai (gs:=gs1) e2);have h12:=ai (gs:=gs2) (ai (gs:=gs1) h1);generalize g++gs1++gs2=g2 at *;simp? [h12];refine bE 2 (dPl P) _ _ _ HZ tL tL ?_;simp? [h12,M2.look.2.1];refine bE 1 (.int 0) _ _ _ dD br br ?_;simp? [h12,M2.look.2.2.1];refine bE 1 (.int 0) _ _ _ dD br br ?_;simp? [M2.look.2.2.2,e22];refine c9 ((ah P).map uP) (λk σ g'=>Kp mk g2 g'/\g'[mk]? = some (.dif (dM aq (λ_ => .int 0) (ah P))) /\ ∃ o,σ=[some (.ref v),some (uPl P),some (.ref n),some (.bl true),o]) (λk σ g' hI=>ph hI.2.1) ⟨Kp.set,bV e22,_,rfl⟩ (λk u σ g' hk hI => ?_) (λσ g' hI => ?_)
 .obtain ⟨kp,e3,o,rfl⟩:=hI
  simp only [List.getElem?_map,Option.map_eq_some_iff] at hk;obtain ⟨p,hp,rfl⟩:=hk;have hpm:=List.mem_of_getElem? hp;have hpl:=cu.mp hpm;have L3:=L2.kp kp hR;have M3:=M2.kp kp n1;have h13:=kp.get v _ (λe=>by obtain ⟨_,_,_,_,_,_,_,_,_,_,rv,_⟩:=L2;exact hR (e ▸ rv)) h12
  have e13:=kp.get hc _ n2 e12;have d1:aB (.tup [.int p.1,.int p.2]) (.ref mk) g'=some (some (.int 0)):=by rw [AJ e3 bN,eL (key:=aq) (λa b=>cw) hpm]
  have d2:aB (.tup [.int p.1,.int p.2]) (.ref hc) g'=some (some (.int (H p))):=by rw [fz e13 bN,eL (key:=aq) (λa b=>cw) hpm]
  simp? [h13];refine zj hP L3 hpl ?_;simp? [M3.look.2.2.2,d1,id];refine bE 1 (.int 0) _ _ _ dD br br ?_;simp? [h13];refine gH hP L3 hpl ?_;simp? [M3.look.1,d2,id];refine bE 1 (.int (H p)) _ _ _ dD br br ?_;simp? [eq_self];exact ⟨kp,e3,_,rfl⟩
 .obtain ⟨kp,e3,o,rfl⟩:=hI
  simp? [eq_self];exact h _
theorem law_ok(ns:List Int):wpC fns (d+12) 49 [.fro (ns.map U.int)] [] X λu _=>u=.bl true:=by
 refine ak (by rfl) (by rfl) ?_;simp only [xf]
 simp? [eq_self];refine z3 ns λzs => ?_;have hb:Bag [.lst (zs.map U.int),.lst (zs.map U.int),cM 1 0 7]:=⟨zs,0,7,rfl,rfl⟩;revert hb;generalize ([.lst (zs.map U.int),.lst (zs.map U.int),cM 1 0 7]:G)=g0;intro hb;simp? [eq_self];refine zp hb λP g1 hm f1 => ?_;have hP:=DI hm;have h8:P.w*P.s<=8/\P.d*P.s<=8:=by
  simp only [c6,List.mem_cons,List.not_mem_nil,or_false] at hm;rcases hm with rfl | rfl | rfl | rfl | rfl | rfl | rfl | rfl | rfl | rfl | rfl | rfl <;> decide
 have hl:=dW hP;have hcl:=AG hP;have h0:=hP.s0;have hsb:=hP.sb;have hss:=hP.ss;have hws:=hP.ws;have hds:=hP.ds;simp? [eq_self];refine zb hP f1.bag λH m g2 hH f2 hm1 e2 => ?_;have l1:=f1.bag.len;have a2:asD (.ref m) g2=some (dM aq (λp => .int (H p)) (ah P)):=by simp only [asD,e2]
 have m2:m < g2.length:=(List.getElem?_eq_some_iff.mp e2).1;simp? [eq_self];refine mY hP a2 (λp hp=>eL (key:=aq) (λa b=>cw) (cu.mpr hp)) λgs3 n3 R3 => ?_;simp? [eq_self];refine y6 hP R3 hH λgs4 L => ?_;simp? [eq_self];refine zw hP λgs5 n5 hn5 e5 => ?_;have b5:Bag (g2++gs3++gs4++gs5):=f2.bag.app.app.app;have L5:=L.app (gs:=gs5);have e25:=ai (gs:=gs5) (ai (gs:=gs4) (ai (gs:=gs3) e2));have q1:m < (g2++gs3).length:=by simp;omega
 have q2:3<=(g2++gs3).length:=by have:=f2.bag.len;simp;omega
 have q3:(g2++gs3).length<=(g2++gs3++gs4).length:=by simp
 have q4:(g2++gs3++gs4).length<=(g2++gs3++gs4++gs5).length:=by simp
 generalize g2++gs3++gs4++gs5=g6 at *;generalize (g2++gs3++gs4).length=B at *;generalize (g2++gs3).length=v at *;have hRR:∀ j,(v<=j/\j < B)->3<=j:=λj hj=>by omega
 have r5:aE 5=true:=bM (by decide) (by decide)
 have n53:3<=n5:=by omega
 have m3:3<=m:=by omega
 simp? [r5];refine c9 ((ran 5).map U.int) (λk σ g'=>Bag g'/\Land0 (λj=>v<=j/\j < B) g' v P H/\g'[m]? = some (.dic (dM aq (λp => .int (H p)) (ah P)))/\g'[n5]? = some (.lst ((cf P).map uP))/\B<=g'.length /\ ∃ o1 o2 o3 o4 o5 o6 o7,σ=[some (.fro (ns.map U.int)),some (.ref 2),some (uPl P),some (.ref m),some (.ref v),some (.ref n5),some (.bl true),o1,o2,o3,o4,o5,o6,o7]) (λk σ g' _=>bU) ⟨b5,L5,e25,e5,q4,_,_,_,_,_,_,_,rfl⟩ (λk u σ g' hk hI => ?_) (λσ g' hI => ?_)
 .obtain ⟨b7,L7,e27,e57,B7,o1,o2,o3,o4,o5,o6,o7,rfl⟩:=hI
  simp only [List.getElem?_map,Option.map_eq_some_iff] at hk;obtain ⟨kk,hkk,rfl⟩:=hk;simp? [e57,List.length_map];refine a5 b7 (by omega) (by omega) λr g8 r0 r1 f8 => ?_
  obtain ⟨p,hp,hu⟩:=iA (f:=uP) r0 r1;obtain ⟨pi,pc⟩:=nN.mp hp;obtain ⟨i1,i2⟩:=pS hP pi pc;have b0:=hH p pi;have b1:=hH _ i1;have b2:=hH _ i2;have e58:=f8.get _ _ n53 e57;have e28:=f8.get _ _ m3 e27;have L8:=L7.fr f8 hRR;have B8:=Ku B7 f8.len;simp? [e58,hu];refine zh λgs9 n9 i j e9 e10 e11 => ?_;have b9:=f8.bag.app (gs:=gs9);have L9:=L8.app (gs:=gs9);have e59:=ai (gs:=gs9) e58;have e29:=ai (gs:=gs9) e28;have B9:B<=(g8++gs9).length:=by simp;omega
  have dl:∀ q:Pt,aK P q=true->aB (.tup [.int q.1,.int q.2]) (.ref m) (g8++gs9)=some (some (.int (H q))):=λq hq=>by rw [fz e29 bN,eL (key:=aq) (λa b=>cw) (cu.mpr hq)]
  generalize g8++gs9=g9 at *;have s2:small 2:=bS (by decide)
  simp? [e9,e10,dl _ i1,dl _ i2,dl _ pi,id,s2];refine nD b9 λr1' g10 k1 f10 => ?_;simp? [eq_self];refine nD f10.bag λr2' g11 k2 f11 => ?_;simp? [j0];unfold mid at k1 k2;have p2:(0:Int) < 1+(r2'.natAbs:Int):=by omega
  refine fo (by omega) (by unfold big aw;omega) ?_
  have ab:=iB (a:=r1') (b:=1+(r2'.natAbs:Int)) (M:=10000000000000000000000000000) p2 (by omega) (by omega)
  have F11:=f10.trans f11;have L11:=L9.fr F11 hRR;have e511:=F11.get _ _ n53 e59;have e211:=F11.get _ _ m3 e29;have B11:=Ku B9 F11.len;generalize hmm:H (af p).1.1+H (af p).1.2=mm at *;have mmb : -2000<=mm/\mm<=2000:=by omega
  have due2:iG mm (H p) (1,2)=lowM (2*mm+(2*H p - mm)) 4:=by
   rw [fB (by decide)]
   congr 1;simp only;omega
  have fin:∀ (a:Pt) (g12:G),-10000000000000000000000000000<=a.1/\a.1<=10000000000000000000000000000->0 < a.2/\a.2<=10000000000000000000000000001->Bag g12->Land0 (λj=>v<=j/\j < B) g12 v P H->g12[m]? = some (.dic (dM aq (λp => .int (H p)) (ah P)))->g12[n5]? = some (.lst ((cf P).map uP))->B<=g12.length ->
    big a.1/\big a.2/\big mm/\big (2*H p - mm)/\big 2/\big (2*a.2):=λa g12 h1 h2 _ _ _ _ _=>by unfold big aw;omega
  simp? [eq_self];refine aC (λc1 => ?_) λc1 => ?_
  .simp? [eq_self]
   refine a5 f11.bag (by decide) (by decide) λz g12 z0 z1 f12 => ?_
   have L12:=L11.fr f12 hRR;have e512:=f12.get _ _ n53 e511;have e212:=f12.get _ _ m3 e211;have B12:=Ku B11 f12.len;obtain ⟨w1,w2,w3,w4,w5,w6⟩:=fin (z,1) g12 (by simp only;omega) (by simp only;omega) f12.bag L12 e212 e512 B12
   simp? [a6 w3 w2,a6 w1 w4,a6 w5 w2];refine fo (by omega) w6 ?_
   simp? [eq_self];refine eD (a:=(z,1)) (.inl rfl) hP L12 hH pi pc (by simp only;omega) (by simp only;omega) ?_
   rw [hmm,fB (show (0:Int) < 1 by decide)]
   simp? [eq_self];refine bE 2 (dP (lowM (mm*1+z*(2*H p - mm)) (2*1))) _ _ _ fk bK bK ?_;simp? [eq_self];refine eD (a:=(z,1)) (.inl rfl) hP L12 hH pi pc (by simp only;omega) (by simp only;omega) ?_
   rw [hmm,fB (show (0:Int) < 1 by decide)]
   simp? [eq_self];refine bE 2 (dP (lowM (mm*1+z*(2*H p - mm)) (2*1))) _ _ _ fk bK bK ?_;simp? [eq_self];refine eD (a:=(1,2)) (.inr rfl) hP L12 hH pi pc (by decide) (by decide) ?_
   rw [hmm,due2];simp? [s2];refine fo (by decide) (by unfold big aw;decide) ?_
   simp? [eq_self];refine bE 2 (dP (lowM (2*mm+(2*H p - mm)) 4)) _ _ _ fk bK bK ?_;simp? [eq_self];exact ⟨f12.bag,L12,e212,e512,B12,_,_,_,_,_,_,_,rfl⟩
  .obtain ⟨w1,w2,w3,w4,w5,w6⟩:=fin (lowM r1' (1+(r2'.natAbs:Int))) g11 ⟨ab.1,ab.2.1⟩ ⟨ab.2.2.1,by omega⟩ f11.bag L11 e211 e511 B11
   generalize lowM r1' (1+(r2'.natAbs:Int))=a at *;simp? [a6 w3 w2,a6 w1 w4,a6 w5 w2];refine fo (by omega) w6 ?_
   simp? [eq_self];refine eD (a:=a) (.inl rfl) hP L11 hH pi pc ⟨ab.1,ab.2.1⟩ ⟨ab.2.2.1,by omega⟩ ?_
   rw [hmm,fB ab.2.2.1];simp? [eq_self];refine bE 2 (dP (lowM (mm*a.2+a.1*(2*H p - mm)) (2*a.2))) _ _ _ fk bK bK ?_;simp? [eq_self];refine eD (a:=a) (.inl rfl) hP L11 hH pi pc ⟨ab.1,ab.2.1⟩ ⟨ab.2.2.1,by omega⟩ ?_
   rw [hmm,fB ab.2.2.1];simp? [eq_self];refine bE 2 (dP (lowM (mm*a.2+a.1*(2*H p - mm)) (2*a.2))) _ _ _ fk bK bK ?_;simp? [eq_self];refine eD (a:=(1,2)) (.inr rfl) hP L11 hH pi pc (by decide) (by decide) ?_
   rw [hmm,due2];simp? [s2];refine fo (by decide) (by unfold big aw;decide) ?_
   simp? [eq_self];refine bE 2 (dP (lowM (2*mm+(2*H p - mm)) 4)) _ _ _ fk bK bK ?_;simp? [eq_self];exact ⟨f11.bag,L11,e211,e511,B11,_,_,_,_,_,_,_,rfl⟩
 .obtain ⟨b7,L7,e27,e57,B7,o1,o2,o3,o4,o5,o6,o7,rfl⟩:=hI
  simp? [eq_self];refine zl hP h8 e27 λg8 n hc mk kp M x1 x2 x3 x4 x5 => ?_;simp? [eq_self];refine zc hP (L7.kp kp (by omega)) (by omega) M x1 x2 x4 x5 λg' => ?_
  simp? [eq_self]
end
theorem run(ns:List Int)(h:ns.length<=63):∃ fu g',aa fns fu 40 49 [.fro (ns.map U.int)] []=.ok (.bl true) g':=by
 obtain ⟨fu,u,g',e,q⟩:=BZ (law_ok (d:=28) (X:=λ_ _ _=>False) ns);subst q;exact ⟨fu,g',e⟩
end
end Lk47
open PySem PySem.W PyProof.Rows
set_option maxRecDepth 100000 in
set_option maxHeartbeats 0 in
theorem PySem.Challenge.cw_braemantle_k47_slides_holds : PySem.Challenge.rw_braemantle_k47_slides.Holds := by
 refine PI.Hf (l:=PySem.Challenge.rw_braemantle_k47_slides) (T:=Lk47.T) (ms:=Lk47.ms) (is:=Lk47.bp) (fns:=Lk47.fns) (loose:=Lk47.loose) (d:=40) (i:=49) (N:=20000) (x := "_law_script") (by kernel_rfl) Lk47.all (by kernel_rfl) (by kernel_rfl) (by kernel_rfl) (by kernel_rfl) (by kernel_rfl) ⟨rfl,rfl,rfl,rfl,rfl,by decide +kernel⟩ ?hw rfl ⟨rfl,by decide,by decide⟩ rfl rfl rfl rfl rfl Lk47.run
 case hw=>w_witness2
