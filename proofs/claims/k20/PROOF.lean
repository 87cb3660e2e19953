import PyProof.Rows.All
import KE.KDictOf
import KE.KDictSum
import KE.KFromBytes
import KE.KIsAll
import KE.KRevSl
import KE.KSortTup
import KE.KUnpack
import PySem.Challenge.RW_braemantle_k20_whole_least_and_greatest
set_option Elab.async false
set_option linter.all false
set_option maxRecDepth 100000
set_option maxHeartbeats 4000000
set_option hygiene false
set_option bootstrap.genMatcherCode false
set_option genSizeOf false
set_option genSizeOfSpec false
def Gw:=@PySem.Heap.get?_push_of_some
def Gx:=@PySem.Heap.lt_size
def Gy:=@Nat.le_trans
def Gz:=@Bool.false_ne_true
def GA:=@Nat.le_refl
def GB:=@List.mem_cons_of_mem
def GC:=@Nat.lt_of_lt_of_le
def GD:=@Nat.ne_of_lt
def GF:=@PySem.Heap.get?_push_size
def GG:=@Classical.byContradiction
def GH:=@List.mem_cons_self
def GI:=@of_decide_eq_true
noncomputable abbrev GJ:=PySem.W.Frag
def ZB:=@PySem.wpAny_bind
def ZP:=@PySem.wpAny_pure
set_option bootstrap.genMatcherCode false
namespace Att
end Att
namespace HT
end HT
namespace L2
end L2
namespace Lk20
end Lk20
namespace PI
end PI
namespace PI
noncomputable section
open PySem
noncomputable section
inductive U where
 | non | bl (b:Bool) | int (i:Int) | str (s:Str) | tup (xs:List U) | fro (xs:List U) | ref (n:Nat) | xn (c:Nat) (fs:List U)
inductive Op where | add | sub | mul | fdiv | mod | pow
inductive Cp where | eq | ne | lt | le | gt | ge | isN | notN | inn | nin
inductive Bi where | len | abs | list | mn | mx | srt | sum | tupl | cat | sset | dct
set_option genInjectivity false in
inductive Ty where | tint | tbool | tstr | ttuple | tlist | own (c:Nat)
set_option genInjectivity false in
inductive Tg where | nm (i:Nat) | tp (is:List Nat)
set_option genInjectivity false in
inductive E where
 | var (i:Nat) | cst (u:U)
 | bin (op:Op) (a b:E) | cmp (op:Cp) (a b:E) | chain (op op':Cp) (a b c:E)
 | and (a b:E) | or (a b:E) | not (a:E) | neg (a:E) | ite (c a b:E)
 | tup (es:List E) | lst (es:List E)
 | idx (a b:E) | slc (a:E) (lo hi:Option E) | rev (a:E)
 | call (f:Nat) (es:List E) | callx (f:Nat) (es:List E) | callk (f:Nat) (es ks:List E) (pm:List (Nat ⊕ U))
 | fld (a:E) (j:Nat) (cs:List Nat) | make (c f:Nat) (es ks:List E) (pm:List (Nat ⊕ U)) | meth (a:E) (j:Nat) (tb:List (Nat×Nat×List (Nat ⊕ U))) (es ks:List E) | revm (o:E)
 | bi (b:Bi) (es:List E)
 | isi (a:E) (t:Ty)
 | app (o v:E) | ext (o v:E) | pop (o:E) | popi (o v:E)
 | rng1 (a:E) | rng2 (a b:E) | enm (a:E) | dnew
 | comp (own:Nat) (fr:List Nat) (gs:List (Tg×E×List E)) (elt:E)
 | ddsp (ks:List Str) (es:List E) | dgt (o k x:E) | pair (k v:E) | dcmp (own:Nat) (fr:List Nat) (gs:List (Tg×E×List E)) (k v:E)
set_option genInjectivity false in
inductive S where
 | ret (e:E) | retN | set (t:Tg) (e:E) | par (i j:Nat) (a b:E)
 | sub (o i e:E) | aug (i:Nat) (op:Op) (e:E)
 | exp (e:E) | ife (c:E) (a b:List S) | whl (c:E) (b:List S) | for (t:Tg) (it:E) (b:List S)
 | pass | brk | cont | never | del (o i:E) | fset (a:E) (j:Nat) (cs:List Nat) (e:E)
 | nox (b:List S) | ifx (c:E) (a b:List S) | forx (t:Tg) (it:E) (b:List S) | raise (c:Nat) (es:List E) | tryf (j f:Nat) (es:List E) (c:Nat) (xs:List (Option U))
structure Fn where
 np:Nat
 ns:Nat
 body:List S
end
open PySem PySem.Spec PyProof.Rows L2
set_option genInjectivity false in
structure Tab where
 fns:List Str
 cs:List (Str×U)
 bt:List Str
noncomputable def br(N:List Str)(x:Str):Option Nat:=N.findIdx? (· == x)
noncomputable def ls:Operator->Option Op
 | .Add=>some .add | .Sub=>some .sub | .Mult=>some .mul | .FloorDiv=>some .fdiv | .Mod=>some .mod | .Pow=>some .pow | _=>none
noncomputable def fX:CmpOp->Option Cp
 | .Eq=>some .eq | .NotEq=>some .ne | .Lt=>some .lt | .LtE=>some .le | .Gt=>some .gt | .GtE=>some .ge | .Is=>some .isN | .IsNot=>some .notN | .In=>some .inn | .NotIn=>some .nin
noncomputable def isStar:Expr->Bool
 | .Starred .. => true
 | _=>false
noncomputable def hG:Expr->Bool
 | .Set .. => true
 | _=>false
noncomputable def dG:Expr->Bool
 | .ListComp .. => true | .SetComp .. => true | .DictComp .. => true | _=>false
noncomputable def gH:Expr->Bool
 | .Call .. => true | _=>false
noncomputable def hZ:Expr->Bool
 | .Tuple .. => true | _=>false
noncomputable def eY:Expr->Bool
 | .Slice .. => true | _=>false
noncomputable def iE(x:Str):Bool := !(x == ("__debug__" : Str)) && !(x == ("__classdict__" : Str)) && !(x == ("__name__" : Str))
noncomputable def ae{α:Type}:List (Option α)->Option (List α)
 | []=>some []
 | none :: _=>none
 | some a :: r=>(ae r).map (a :: ·)
noncomputable def ic:E->Bool
 | .rng1 _=>false | .rng2 _ _=>false | .enm _=>false | _=>true
noncomputable def dk(b:Bool)(sc:Scope)(x:Str):Bool:=sc.names.lookup x == some .local || (b && sc.names.lookup x == some .cell)
noncomputable def du(b:Bool)(sc:Scope)(N:List Str)(x:Str):Option Nat:=if dk b sc x then br N x else none
noncomputable def dS(b:Bool)(sc:Scope)(N:List Str)(e:Expr):Option Nat:=match e with
 | .Name x _=>du b sc N x
 | _=>none
noncomputable def b4(b:Bool)(sc:Scope)(N:List Str):Expr->Option Tg
 | .Name x _=>(du b sc N x).map .nm
 | .Tuple ts _ _=>(ae (ts.map (dS b sc N))).map .tp
 | _=>none
noncomputable def oif{α:Type}(c:Bool)(x:Option α):Option α:=match c with
 | true=>x
 | false=>none
noncomputable def nmE(e:Expr):Option Str:=match e with
 | .Name x _=>some x
 | _=>none
noncomputable def gW(e:Expr):Option (Str×List Expr):=match e with
 | .Call f es kws _=>match kws with
  | []=>(nmE f).map λn=>(n,es)
  | _ :: _=>none
 | _=>none
noncomputable def iB(ce:Expr->Option E)(k:E->E)(es:List Expr):Option E:=match es with
 | []=>none
 | a :: es=>match es with
  | []=>(ce a).map k
  | _ :: _=>none
noncomputable def bH{α:Type}(l:List α):Bool:=match l with
 | []=>true
 | _ :: _=>false
noncomputable def Ea(f:Expr->Option E)(es:List Expr):Option E:=match es with
 | []=>none
 | _ :: r=>match bH r with
  | true=>iB f .rng1 es
  | false=>none
noncomputable def cIt(f:Expr->Option E)(e:Expr):Option E:=oif (!hG e) ((f e).bind λe'=>oif (ic e') (some e'))
noncomputable def fN(T:Tab)(sc:Scope)(f:Expr->Option E)(e:Expr):Option E:=match gW e with
 | some c=>if c.1 = "range" then oif (T.bt.contains c.1 && (sc.names.lookup c.1 == some .globalImplicit) && !c.2.any isStar) (Ea f c.2) else cIt f e
 | none=>cIt f e
noncomputable def qT(T:Tab)(sc:Scope)(f:Expr->Option E)(tg e:Expr):Option E:=fN T sc f e
noncomputable def bP(scope sc:Scope):Scope:={ scope with names:=scope.names.map λ(n,k)=>if (k == .free && sc.kind == .function && sc.names.lookup n == some .cell) then (n,.cell) else (n,k) }
noncomputable def xj:Expr->List Str
 | .Name x _=>[x]
 | .Tuple ts _ _=>ts.filterMap fun | .Name x _=>some x | _=>none
 | _=>[]
noncomputable def ownOf(gs:List Comprehension):List Str:=(gs.map λg=>xj g.target).flatten
noncomputable def freeOf(scope:Scope):List Str:=(scope.names.filter λx=>x.2 == .free).map (·.1)
noncomputable def jj(scope sc:Scope)(own fr:List Str):Bool :=
 (scope.kind == .function) && (scope.names.all λx=>x.2 != .local || scope.names.lookup x.1 == some .local) && (scope.names.all λx=>x.2 != .cell || scope.names.lookup x.1 == some .cell) && (scope.names.all λx=>x.2 != .free || sc.names.lookup x.1 == some .cell)
  && (own.all λx=>scope.names.lookup x == some .local || scope.names.lookup x == some .cell) && decide ((own++fr).Nodup) && (fr.all λx=>scope.names.lookup x == some .free)
noncomputable def ki(T:Tab)(sc:Scope)(N:List Str)(f:Expr->Option E):List Comprehension->Option (List (Tg×E×List E))
 | []=>some []
 | g :: r=>oif (g.is_async == 0) ((b4 false sc N g.target).bind λt=>(fN T sc f g.iter).bind λit=>(ae (g.ifs.map f)).bind λcs=>(ki T sc N f r).map λr'=>(t,it,cs) :: r')
noncomputable def fO(T:Tab)(sc:Scope)(ce:Expr->Option E)(f:Str)(es:List Expr)(kws:List Keyword):Option E:=none
noncomputable def j7(T:Tab)(ce:Expr->Option E)(o':E)(m:Str)(ap cp:Pos)(es:List Expr)(kws:List Keyword):Option E:=none
noncomputable def rO(f:Str)(n:Nat)(biOf:Str->Option Bi):Option Bi :=
 biOf f
noncomputable def biOf(f:Str):Option Bi :=
 if f = "len" then some .len else
 if f = "list" then some .list else
 if f = "sorted" then some .srt else
 none
noncomputable def setArg(es:List Expr):Option Expr:=match es with
 | []=>none
 | e :: es=>match es with
  | []=>(gW e).bind λc=>if c.1 = "set" then (match c.2 with
   | []=>none
   | a :: as=>match as with
    | []=>oif (!isStar a) (some a)
    | _ :: _=>none) else none
  | _ :: _=>none
noncomputable def rP(T:Tab)(sc:Scope)(N:List Str)(x:Str):Option E:=oif (iE x) ((sc.names.lookup x).bind λk=>match k with
 | .local=>(br N x).map .var
 | .cell=>(br N x).map .var
 | .free=>(br N x).map .var
 | .globalImplicit=>(T.cs.lookup x).map .cst
 | _=>none)
noncomputable def sP(v:Const):Option E:=match v with
 | .int i=>some (.cst (.int i))
 | .bool b=>some (.cst (.bl b))
 | .none=>some (.cst .non)
 | .str s=>some (.cst (.str s))
 | _=>none
section
variable(T:Tab)(sc:Scope)(ce:Expr->Option E)
noncomputable def F8(o:Operator)(a b:Expr):Option E:=(ls o).bind λo'=>(ce a).bind λa'=>(ce b).map (.bin o' a')
noncomputable def rY(a:Expr)(o:CmpOp)(b:Expr):Option E:=oif (!hG b) ((fX o).bind λo'=>(ce a).bind λa'=>(ce b).map (.cmp o' a'))
noncomputable def rF(a:Expr)(o q:CmpOp)(b c:Expr):Option E:=oif (!hG c) ((fX o).bind λo'=>(fX q).bind λq'=>(ce a).bind λa'=>(ce b).bind λb'=>(ce c).map (.chain o' q' a' b'))
noncomputable def tM(a:Expr)(os:List CmpOp)(bs:List Expr):Option E:=match os with
 | []=>none
 | o :: os=>match bs with
  | []=>none
  | b :: bs=>match os with
   | []=>oif (bH bs) (rY ce a o b)
   | q :: os=>match bs with
    | []=>none
    | c :: bs=>oif (bH os && bH bs) (rF ce a o q b c)
noncomputable def tj(o:BoolOp)(es:List Expr)(pos:Pos):Option E:=match es with
 | []=>none
 | a :: es=>match es with
  | []=>ce a
  | b :: rest=>match o with
   | .And=>(ce a).bind λa'=>(ce (.BoolOp .And (b :: rest) pos)).map (.and a')
   | .Or=>none
noncomputable def cUn(o:UnaryOp)(a:Expr):Option E:=match o with
 | .Not=>(ce a).map .not
 | _=>none
noncomputable def sY(k:List E->E)(es:List Expr):Option E:=oif (!es.any isStar) ((ae (es.map ce)).map k)
noncomputable def kE(lo:Option Expr):Option (Option E):=match lo with
 | none=>some none
 | some l=>(ce l).map some
noncomputable def FV(a s:Expr):Option E:=match s with
 | .Slice lo hi st _=>match st with
  | none=>(ce a).bind λa'=>(kE ce lo).bind λl'=>(kE ce hi).map (.slc a' l')
  | some st=>none
 | _=>none
noncomputable def lh(a s:Expr):Option E:=match eY s with
 | true=>FV ce a s
 | false=>(ce a).bind λa'=>(ce s).map (.idx a')
noncomputable def cBi(f:Str)(es:List Expr):Option E:=(rO f es.length biOf).bind λb=>oif (!bH es) ((ae (es.map ce)).map (.bi b))
noncomputable def FL(a:Expr):Option E:=oif (T.bt.contains ("set" : Str) && (sc.names.lookup ("set" : Str) == some .globalImplicit)) ((ce a).map λa' => .bi .sset [a'])
noncomputable def Gm(f:Str)(es:List Expr):Option E :=
 if f = "sorted" then (match setArg es with
  | some a=>FL T sc ce a
  | none=>cBi ce f es) else
 cBi ce f es
noncomputable def iF(T:Tab)(sc:Scope)(ce:Expr->Option E)(f:Str)(es:List Expr):Option E :=
 Gm T sc ce f es
noncomputable def sA(f:Str)(es:List Expr):Option E:=oif (iE f && !es.any isStar && (sc.names.lookup f == some .globalImplicit)) (match br T.fns f with
 | some i=>(ae (es.map ce)).map (.call i)
 | none=>match T.bt.contains f with
  | true=>iF T sc ce f es
  | false=>fO T sc ce f es [])
noncomputable def cMt(o':E)(m:Str)(ap cp:Pos)(es:List Expr):Option E :=
 if m = "append" then iB ce (.app o') es else
 if m = "extend" then iB ce (.ext o') es else
 if m = "pop" then (match es with
  | []=>some (.pop o')
  | _ :: _=>none) else
 j7 T ce o' m ap cp es []
noncomputable def D7(o:Expr)(m:Str)(ap cp:Pos)(es:List Expr)(kws:List Keyword):Option E:=oif (!gH o) ((ce o).bind λo'=>match kws with
 | []=>oif (ap.endLine == cp.line && !es.any isStar) (cMt T ce o' m ap cp es)
 | k :: kws=>j7 T ce o' m ap cp es (k :: kws))
noncomputable def tL(fn:Expr)(es:List Expr)(kws:List Keyword)(cp:Pos):Option E:=match fn with
 | .Name f _=>match kws with
  | []=>sA T sc ce f es
  | k :: kws=>fO T sc ce f es (k :: kws)
 | .Attribute o m ap=>D7 T ce o m ap cp es kws
 | _=>none
noncomputable def tB(ce:Expr->Option E)(keys:List (Option Expr))(vs:List Expr):Option E:=match keys with
 | []=>oif (bH vs) (some .dnew)
 | _ :: _=>none
noncomputable def kG(N:List Str)(ci:Expr->Option E)(g:Comprehension)(rest:List Comprehension)(scope:Scope):Option (List Nat×List (Tg×E×List E)) :=
 oif (jj scope sc (ownOf (g :: rest)) (freeOf scope) && (g.is_async == 0)) ((fN T sc ce g.iter).bind λit'=>(b4 true scope (ownOf (g :: rest)++freeOf scope) g.target).bind λt=>(ae (g.ifs.map ci)).bind λcs =>
  (ki T (bP scope sc) (ownOf (g :: rest)++freeOf scope) ci rest).bind λrest'=>(ae ((freeOf scope).map (br N))).map λfrI=>(frI,(t,it',cs) :: rest'))
end
noncomputable def aB(T:Tab)(sc:Scope)(N:List Str):Nat->Expr->Option E
 | 0,_=>none
 | n+1,e=>match e with
  | .Name x _=>rP T sc N x
  | .Constant v _ _=>sP v
  | .BinOp a o b _=>F8 (aB T sc N n) o a b
  | .Compare a os bs _=>tM (aB T sc N n) a os bs
  | .BoolOp o es pos=>tj (aB T sc N n) o es pos
  | .UnaryOp o a _=>cUn (aB T sc N n) o a
  | .Tuple es _ _=>sY (aB T sc N n) .tup es
  | .List es _=>sY (aB T sc N n) .lst es
  | .Subscript a s _=>lh (aB T sc N n) a s
  | .Call fn es kws cp=>tL T sc (aB T sc N n) fn es kws cp
  | .Dict keys vs _=>tB (aB T sc N n) keys vs
  | .ListComp elt gs scope _=>match gs with
   | []=>none
   | g :: rest=>(kG T sc (aB T sc N n) N (aB T (bP scope sc) (ownOf (g :: rest)++freeOf scope) n) g rest scope).bind λq=>(aB T (bP scope sc) (ownOf (g :: rest)++freeOf scope) n elt).map (.comp (ownOf (g :: rest)).length q.1 q.2)
  | .DictComp kx vx gs scope _=>match gs with
   | []=>none
   | g :: rest=>(kG T sc (aB T sc N n) N (aB T (bP scope sc) (ownOf (g :: rest)++freeOf scope) n) g rest scope).bind λq =>
    (aB T (bP scope sc) (ownOf (g :: rest)++freeOf scope) n kx).bind λk'=>(aB T (bP scope sc) (ownOf (g :: rest)++freeOf scope) n vx).map (.dcmp (ownOf (g :: rest)).length q.1 q.2 k')
  | _=>none
noncomputable def k5(sc:Scope)(x:Str)(px:Pos)(scope:Scope)(p:Pos):Bool:=(sc.names.lookup x == some .local) && (px.line == p.line) && !(scope.names.any λ(n,k)=>n == x && (k == .local || k == .cell))
noncomputable def lcE(e:Expr):Option (Scope×Pos):=match e with
 | .ListComp _ gs scope p=>match gs with
  | []=>none
  | _ :: _=>some (scope,p)
 | _=>none
noncomputable def qz(sc:Scope)(N:List Str)(cE:Expr->Option E)(x:Str)(px:Pos)(e:Expr):Option S:=oif (match lcE e with
 | some q=>k5 sc x px q.1 q.2
 | none => !dG e) ((du true sc N x).bind λi=>(cE e).map (.set (.nm i)))
noncomputable def pG(T:Tab)(sc:Scope)(N:List Str)(cE:Expr->Option E)(t e:Expr):Option S:=match t with
 | .Name x px=>qz sc N cE x px e
 | .Tuple ts k p=>match hZ e with
  | true=>none
  | false=>(b4 true sc N (.Tuple ts k p)).bind λt=>(cE e).map (.set t)
 | .Subscript o i _=>oif (!eY i && !dG e) ((cE o).bind λo'=>(cE i).bind λi'=>(cE e).map (.sub o' i'))
 | _=>none
noncomputable def yy(cE:Expr->Option E)(t:Expr):Option S:=match t with
 | .Subscript o i _=>(cE o).bind λo'=>(cE i).map (.del o')
 | _=>none
noncomputable def cI(T:Tab)(sc:Scope)(N:List Str):Nat->Stmt->Option S
 | 0,_=>none
 | n+1,st=>match st with
  | .Return o _=>match o with
   | none=>none
   | some e=>(aB T sc N n e).map .ret
  | .Assign ts e _=>match ts with
   | []=>none
   | t :: r=>oif (bH r) (pG T sc N (aB T sc N n) t e)
  | .Expr e _=>oif (!dG e) ((aB T sc N n e).map .exp)
  | .If c a b _=>(aB T sc N n c).bind λc'=>(ae (a.map (cI T sc N n))).bind λa'=>(ae (b.map (cI T sc N n))).map (.ife c' a')
  | .While c b o _=>oif (bH o) ((aB T sc N n c).bind λc'=>(ae (b.map (cI T sc N n))).map (.whl c'))
  | .For tg it b o _=>oif (bH o) ((b4 true sc N tg).bind λt=>(qT T sc (aB T sc N n) tg it).bind λit'=>(ae (b.map (cI T sc N n))).map (.for t it'))
  | .Raise _ _ _=>some .never
  | .Delete ts _=>match ts with
   | []=>none
   | t :: r=>oif (bH r) (yy (aB T sc N n) t)
  | _=>none
open PySem PySem.Spec PyProof.Rows L2 PySem.W
noncomputable def d0:Nat->List Obj->Frag
 | _,[]=>[]
 | n,o :: r=>match o.data with
  | .freed=>d0 (n+1) r
  | _=>(n,o) :: d0 (n+1) r
noncomputable def a9(h:Heap):Frag:=d0 0 h.objs.toList
set_option genInjectivity false in
structure Inf where
 x:Str
 N:List Str
 ps:List Str
 cm:Option (Str×Str)
noncomputable def jz(N ps:List Str)(sc:Scope):Bool :=
 decide (sc.kind=.function) && !sc.isCoroutine && !sc.isGenerator && decide N.Nodup && decide (N.take ps.length=ps) && ps.all (λx=>decide (sc.names.lookup x=some .local) || decide (sc.names.lookup x=some .cell)) && sc.names.all λy=>decide (y.2 ≠ .free)
noncomputable def sg(ps:List Str)(p:Arguments):Bool:=p.posonlyargs.isEmpty && decide (p.args.map (·.arg)=ps) && p.vararg.isNone && p.kwonlyargs.isEmpty && p.kwarg.isNone
noncomputable def tD:Value->Bool
 | .none=>true
 | _=>false
noncomputable def iC:U->Value->Bool
 | .int i,.int j _=>decide (i=j)
 | .non,.none=>true
 | .bl b,.bool c=>b == c
 | .str s,.str t _=>decide (s=t)
 | _,_=>false
noncomputable def iy:List U->List Value->Bool
 | [],[]=>true
 | u :: us,v :: vs=>iC u v && iy us vs
 | _,_=>false
noncomputable def tupU(K:Frag):U->Value->Bool
 | .xn _ us,.ref a=>match K.lookup a with
  | some ⟨.type "tuple",_,.seq its _,_⟩=>decide (its.size<=1000) && iy us its.toList
  | _=>false
 | _,_=>false
noncomputable def kB(K:Frag)(u:U)(v:Value):Bool:=iC u v || tupU K u v
noncomputable def csB(K:Frag)(c:Str×U):Bool:=match nsIn K mainGlobals c.1 with
 | some (some val)=>kB K c.2 val
 | _=>false
noncomputable def sj(x q:Str)(fd:FuncData):Bool:=decide (fd.name=x) && decide (fd.qualname=q) && (fd.globals == mainGlobals) && fd.closure.isEmpty && (fd.builtins == builtinsNs)
noncomputable def tQ(K:Frag)(i:Inf)(fd:FuncData):Bool:=sg i.ps fd.params && tD fd.defaults
noncomputable def kT(K:Frag)(i:Inf):Option Addr:=match i.cm with
 | none=>match nsIn K mainGlobals i.x with
  | some (some (.ref a))=>some a
  | _=>none
 | some _=>none
noncomputable def Inf.nm(i:Inf):Str:=match i.cm with | none=>i.x | some c=>c.2
noncomputable def cQ(K:Frag)(i:Inf):Option (Scope×List Stmt):=match kT K i with
 | some a=>match K.lookup a with
  | some ⟨_,_,.func fd,_⟩=>match fd.body with
   | .stmts b=>if sj i.nm i.x fd && jz i.N i.ps fd.scope && tQ K i fd && codeIn K fd.code i.x && keepIn K (.ref a) then some (fd.scope,b) else none
   | _=>none
  | _=>none
 | none=>none
noncomputable def mkF(T:Tab)(q:Inf×Option (Scope×List Stmt)):Option Fn:=match q.2 with
 | some r=>(ae (r.2.map (cI T r.1 q.1.N 60))).map λb'=>⟨q.1.ps.length,q.1.N.length,b'⟩
 | none=>none
open PySem PySem.Spec PyProof.Rows L2 PySem.W PySem.Calls
noncomputable section
noncomputable def sv(p:Program)(w:World)(N:Nat)(s₀ : Shared):Option Shared :=
 match s₀.heap.isNs mainGlobals && s₀.gens.size == 0 with
 | true=>(Fast.tw14082659384304107361 Fast.tw14364793385576792824 p w s₀.heap.objs.size (s₀.heap.nsMap mainGlobals "__annotations__") N s₀ (topStub p)).bind λs₁ => match staticsOk (importedModules p.main.body) s₀.heap s₁.heap && namesBound p s₁.heap && gensDone s₁ && laidKept s₀.heap s₁.heap with
   | true=>some s₁
   | false=>none
 | false=>none
noncomputable def endsF(p:Program)(w:World)(N:Nat):Option Shared :=
 ((Fast.tw10274390034422433532 Fast.tw14364793385576792824 (opening p) w N (Fast.tw1435165496053646825 (opening p)).1 (Fast.tw1435165496053646825 (opening p)).2).bind (Fast.tw14289696077712309145 p)).bind (sv p w N)
noncomputable def lastOf(p:Program):Program:={ p with main:={ p.main with body:=p.main.body.drop (p.main.body.length - 1) } }
noncomputable def kZ(T:Tab)(K:Frag)(is:List Inf):Bool:=T.bt.all (λx=>(nsIn K mainGlobals x).any Option.isNone) && T.cs.all (csB K)
noncomputable def aw(b:List Stmt)(n:Nat):Option (Scope×List Stmt):=match b[n]? with
 | some (.FunctionDef _ _ b _ _ _ sc _ _ _)=>some (sc,b)
 | _=>none
end
end
end PI
section
noncomputable def PI.sO:=PySem.Str.ofString
namespace Lk20
open PI
noncomputable def nN:Fn:=⟨2,7,[(.set (.tp [2,3,4]) (.var 0)),(.set (.tp [5,6]) (.var 1)),(.ret (.and (.chain .le .le (.cst (.int 0)) (.var 5) (.bin .mul (.var 2) (.var 4))) (.chain .le .le (.cst (.int 0)) (.var 6) (.bin .mul (.var 3) (.var 4)))))]⟩
noncomputable def lM:Fn:=⟨2,2,[(.ife (.not (.call 0 [.var 0,.var 1])) [.never] [])]⟩
noncomputable def lV:Fn:=⟨2,5,[(.exp (.call 1 [.var 0,.var 1])),(.set (.nm 2) (.idx (.var 0) (.cst (.int 2)))),(.set (.tp [3,4]) (.var 1)),(.ret (.and (.cmp .eq (.bin .mod (.var 3) (.var 2)) (.cst (.int 0))) (.cmp .eq (.bin .mod (.var 4) (.var 2)) (.cst (.int 0)))))]⟩
noncomputable def mG:Fn:=⟨2,2,[(.ife (.call 2 [.var 0,.var 1]) [.never] [])]⟩
noncomputable def oU:Fn:=⟨1,4,[(.set (.tp [1,2]) (.var 0)),(.for (.nm 3) (.tup [(.cst (.int 4)),(.cst (.int 2))]) [(.ife (.and (.cmp .eq (.bin .mod (.var 1) (.var 3)) (.cst (.int 0))) (.cmp .eq (.bin .mod (.var 2) (.var 3)) (.cst (.int 0)))) [(.ret (.var 3))] [])]),(.ret (.cst (.int 1)))]⟩
noncomputable def l8:Fn:=⟨1,4,[(.set (.tp [1,2]) (.var 0)),(.set (.nm 3) (.call 4 [.var 0])),(.ret (.and (.cmp .eq (.bin .mod (.bin .fdiv (.var 1) (.var 3)) (.cst (.int 2))) (.cst (.int 1))) (.cmp .eq (.bin .mod (.bin .fdiv (.var 2) (.var 3)) (.cst (.int 2))) (.cst (.int 1)))))]⟩
noncomputable def lN:Fn:=⟨1,6,[(.set (.tp [1,2]) (.var 0)),(.set (.nm 3) (.call 4 [.var 0])),(.set (.nm 4) (.tup [(.tup [(.bin .sub (.var 1) (.var 3)),.var 2]),(.tup [(.bin .add (.var 1) (.var 3)),.var 2])])),(.set (.nm 5) (.tup [(.tup [.var 1,(.bin .sub (.var 2) (.var 3))]),(.tup [.var 1,(.bin .add (.var 2) (.var 3))])])),(.ife (.cmp .eq (.bin .mod (.bin .fdiv (.var 1) (.var 3)) (.cst (.int 2))) (.cst (.int 1))) [(.ret (.tup [.var 4,.var 5]))] []),(.ret (.tup [.var 5,.var 4]))]⟩
noncomputable def lz:Fn:=⟨1,6,[(.set (.tp [1,2]) (.var 0)),(.set (.nm 3) (.call 4 [.var 0])),(.set (.nm 4) (.tup [(.tup [(.bin .sub (.var 1) (.var 3)),(.bin .sub (.var 2) (.var 3))]),(.tup [(.bin .add (.var 1) (.var 3)),(.bin .add (.var 2) (.var 3))])])),(.set (.nm 5) (.tup [(.tup [(.bin .sub (.var 1) (.var 3)),(.bin .add (.var 2) (.var 3))]),(.tup [(.bin .add (.var 1) (.var 3)),(.bin .sub (.var 2) (.var 3))])])),(.ife (.cmp .eq (.bin .mod (.bin .add (.bin .fdiv (.bin .sub (.var 1) (.var 3)) (.bin .mul (.cst (.int 2)) (.var 3))) (.bin .fdiv (.bin .sub (.var 2) (.var 3)) (.bin .mul (.cst (.int 2)) (.var 3)))) (.cst (.int 2))) (.cst (.int 0))) [(.ret (.tup [.var 4,.var 5]))] []),(.ret (.tup [.var 5,.var 4]))]⟩
noncomputable def p7:Fn:=⟨1,1,[(.ife (.call 5 [.var 0]) [(.ret (.call 7 [.var 0]))] []),(.ret (.call 6 [.var 0]))]⟩
noncomputable def nP:Fn:=⟨2,3,[(.exp (.call 3 [.var 0,.var 1])),(.set (.nm 2) (.idx (.call 8 [.var 1]) (.cst (.int 1)))),(.ret (.comp 1 [0] [((.nm 0),.var 2,[(.and (.call 0 [.var 1,.var 0]) (.not (.call 2 [.var 1,.var 0])))])] (.var 0)))]⟩
noncomputable def my:Fn:=⟨2,7,[(.exp (.call 3 [.var 0,.var 1])),(.set (.tp [2,3]) (.var 1)),(.set (.nm 4) (.call 4 [.var 1])),(.ife (.call 5 [.var 1]) [(.set (.nm 5) (.lst [(.tup [(.bin .sub (.var 2) (.var 4)),.var 3]),(.tup [.var 2,(.bin .sub (.var 3) (.var 4))]),(.tup [.var 2,(.bin .add (.var 3) (.var 4))]),(.tup [(.bin .add (.var 2) (.var 4)),.var 3])]))] [(.ife (.cmp .gt (.var 4) (.cst (.int 1))) [(.set (.nm 6) (.bin .fdiv (.var 4) (.cst (.int 2)))),(.set (.nm 5) (.lst [(.tup [(.bin .sub (.var 2) (.var 6)),(.bin .sub (.var 3) (.var 6))]),(.tup [(.bin .sub (.var 2) (.var 6)),(.bin .add (.var 3) (.var 6))]),(.tup [(.bin .add (.var 2) (.var 6)),(.bin .sub (.var 3) (.var 6))]),(.tup [(.bin .add (.var 2) (.var 6)),(.bin .add (.var 3) (.var 6))])]))] [(.set (.nm 5) (.lst []))])]),(.ret (.comp 1 [0] [((.nm 0),.var 5,[(.call 0 [.var 1,.var 0])])] (.var 0)))]⟩
noncomputable def mq:Fn:=⟨2,3,[(.for (.nm 2) (.var 1) [(.exp (.call 3 [.var 0,.var 2]))]),(.ret (.dcmp 1 [] [((.nm 0),(.bi .sset [.var 1]),[])] (.var 0) (.cst (.bl true))))]⟩
noncomputable def nu:Fn:=⟨3,3,[(.ret (.comp 1 [1] [((.nm 0),(.call 9 [.var 0,.var 2]),[(.cmp .nin (.var 0) (.var 1))])] (.var 0)))]⟩
noncomputable def ph:Fn:=⟨2,6,[(.set (.nm 2) (.call 11 [.var 0,.var 1])),(.set (.nm 3) (.bi .list [.var 2])),(.whl (.var 3) [(.set (.nm 4) (.call 12 [.var 0,.var 2,(.pop (.var 3))])),(.for (.nm 5) (.var 4) [(.sub (.var 2) (.var 5) (.cst (.bl true)))]),(.exp (.ext (.var 3) (.var 4)))]),(.ret (.bi .srt [.var 2]))]⟩
noncomputable def oK:Fn:=⟨2,5,[(.set (.nm 2) (.call 11 [.var 0,.var 1])),(.set (.nm 3) (.bi .list [.var 2])),(.whl (.var 3) [(.set (.nm 4) (.pop (.var 3))),(.ife (.and (.cmp .inn (.var 4) (.var 2)) (.call 12 [.var 0,.var 2,.var 4])) [(.del (.var 2) (.var 4)),(.exp (.ext (.var 3) (.call 10 [.var 0,.var 4])))] [])]),(.ret (.bi .srt [.var 2]))]⟩
noncomputable def mm:Fn:=⟨1,1,[(.ret (.lst [(.bi .list [(.slc (.var 0) none (some (.cst (.int 63))))]),(.cst (.int 0)),(.cst (.int 7))]))]⟩
noncomputable def l0:Fn:=⟨2,5,[(.set (.nm 2) (.idx (.var 0) (.cst (.int 0)))),(.set (.nm 3) (.idx (.var 0) (.cst (.int 1)))),(.set (.nm 4) (.cst (.int 0))),(.ife (.cmp .gt (.bi .len [.var 2]) (.cst (.int 0))) [(.set (.nm 4) (.idx (.var 2) (.bin .mod (.var 3) (.bi .len [.var 2]))))] []),(.ife (.cmp .lt (.var 4) (.cst (.int 0))) [(.set (.nm 4) (.bin .sub (.cst (.int 1)) (.var 4)))] []),(.ife (.cmp .ge (.var 4) (.bin .pow (.cst (.int 10)) (.cst (.int 18)))) [(.sub (.var 2) (.bin .mod (.var 3) (.bi .len [.var 2])) (.bin .fdiv (.var 4) (.var 1))),(.ret (.bin .mod (.var 4) (.var 1)))] []),(.sub (.var 0) (.cst (.int 1)) (.bin .add (.var 3) (.cst (.int 1)))),(.sub (.var 0) (.cst (.int 2)) (.bin .mod (.bin .add (.bin .add (.bin .add (.bin .mul (.idx (.var 0) (.cst (.int 2))) (.cst (.int 48271))) (.bin .mul (.var 4) (.cst (.int 9973)))) (.bin .mul (.var 3) (.cst (.int 31)))) (.cst (.int 11))) (.cst (.int 2147483647)))),(.ret (.bin .mod (.bin .fdiv (.bin .mod (.bin .mul (.idx (.var 0) (.cst (.int 2))) (.cst (.int 69621))) (.cst (.int 2147483629))) (.cst (.int 64))) (.var 1)))]⟩
noncomputable def lW:Fn:=⟨1,2,[(.set (.nm 1) (.lst [(.tup [(.cst (.int 1)),(.cst (.int 1)),(.cst (.int 2))]),(.tup [(.cst (.int 1)),(.cst (.int 1)),(.cst (.int 4))]),(.tup [(.cst (.int 2)),(.cst (.int 1)),(.cst (.int 2))]),(.tup [(.cst (.int 1)),(.cst (.int 2)),(.cst (.int 2))]),(.tup [(.cst (.int 2)),(.cst (.int 2)),(.cst (.int 2))]),(.tup [(.cst (.int 1)),(.cst (.int 1)),(.cst (.int 4))])])),(.set (.nm 1) (.bin .add (.var 1) (.lst [(.tup [(.cst (.int 3)),(.cst (.int 1)),(.cst (.int 2))]),(.tup [(.cst (.int 1)),(.cst (.int 3)),(.cst (.int 2))]),(.tup [(.cst (.int 2)),(.cst (.int 1)),(.cst (.int 4))]),(.tup [(.cst (.int 1)),(.cst (.int 2)),(.cst (.int 4))]),(.tup [(.cst (.int 3)),(.cst (.int 2)),(.cst (.int 2))]),(.tup [(.cst (.int 1)),(.cst (.int 1)),(.cst (.int 8))])]))),(.ret (.idx (.var 1) (.call 16 [.var 0,(.cst (.int 12))])))]⟩
noncomputable def lF:Fn:=⟨1,4,[(.set (.nm 1) (.lst [])),(.for (.nm 2) (.rng1 (.bin .add (.bin .mul (.idx (.var 0) (.cst (.int 0))) (.idx (.var 0) (.cst (.int 2)))) (.cst (.int 1)))) [(.for (.nm 3) (.rng1 (.bin .add (.bin .mul (.idx (.var 0) (.cst (.int 1))) (.idx (.var 0) (.cst (.int 2)))) (.cst (.int 1)))) [(.exp (.app (.var 1) (.tup [.var 2,.var 3])))])]),(.ret (.var 1))]⟩
noncomputable def lH:Fn:=⟨2,2,[(.ret (.and (.cmp .eq (.bin .mod (.idx (.var 1) (.cst (.int 0))) (.idx (.var 0) (.cst (.int 2)))) (.cst (.int 0))) (.cmp .eq (.bin .mod (.idx (.var 1) (.cst (.int 1))) (.idx (.var 0) (.cst (.int 2)))) (.cst (.int 0)))))]⟩
noncomputable def lZ:Fn:=⟨1,1,[(.ret (.comp 1 [0] [((.nm 0),(.call 18 [.var 0]),[(.not (.call 19 [.var 1,.var 0]))])] (.var 0)))]⟩
noncomputable def nI:Fn:=⟨2,2,[(.ret (.and (.chain .le .le (.cst (.int 0)) (.idx (.var 1) (.cst (.int 0))) (.bin .mul (.idx (.var 0) (.cst (.int 0))) (.idx (.var 0) (.cst (.int 2))))) (.chain .le .le (.cst (.int 0)) (.idx (.var 1) (.cst (.int 1))) (.bin .mul (.idx (.var 0) (.cst (.int 1))) (.idx (.var 0) (.cst (.int 2)))))))]⟩
noncomputable def l7:Fn:=⟨1,1,[(.ife (.and (.cmp .eq (.bin .mod (.idx (.var 0) (.cst (.int 0))) (.cst (.int 4))) (.cst (.int 0))) (.cmp .eq (.bin .mod (.idx (.var 0) (.cst (.int 1))) (.cst (.int 4))) (.cst (.int 0)))) [(.ret (.cst (.int 4)))] []),(.ife (.and (.cmp .eq (.bin .mod (.idx (.var 0) (.cst (.int 0))) (.cst (.int 2))) (.cst (.int 0))) (.cmp .eq (.bin .mod (.idx (.var 0) (.cst (.int 1))) (.cst (.int 2))) (.cst (.int 0)))) [(.ret (.cst (.int 2)))] []),(.ret (.cst (.int 1)))]⟩
noncomputable def lG:Fn:=⟨1,2,[(.set (.nm 1) (.call 22 [.var 0])),(.ret (.and (.cmp .eq (.bin .mod (.bin .fdiv (.idx (.var 0) (.cst (.int 0))) (.var 1)) (.cst (.int 2))) (.cst (.int 1))) (.cmp .eq (.bin .mod (.bin .fdiv (.idx (.var 0) (.cst (.int 1))) (.var 1)) (.cst (.int 2))) (.cst (.int 1)))))]⟩
noncomputable def lJ:Fn:=⟨1,8,[(.set (.nm 1) (.call 22 [.var 0])),(.set (.tp [2,3]) (.var 0)),(.set (.nm 4) (.lst [(.tup [(.bin .sub (.var 2) (.var 1)),.var 3]),(.tup [(.bin .add (.var 2) (.var 1)),.var 3])])),(.set (.nm 5) (.lst [(.tup [.var 2,(.bin .sub (.var 3) (.var 1))]),(.tup [.var 2,(.bin .add (.var 3) (.var 1))])])),(.set (.nm 6) (.lst [(.tup [(.bin .sub (.var 2) (.var 1)),(.bin .sub (.var 3) (.var 1))]),(.tup [(.bin .add (.var 2) (.var 1)),(.bin .add (.var 3) (.var 1))])])),(.set (.nm 7) (.lst [(.tup [(.bin .sub (.var 2) (.var 1)),(.bin .add (.var 3) (.var 1))]),(.tup [(.bin .add (.var 2) (.var 1)),(.bin .sub (.var 3) (.var 1))])])),(.ife (.call 23 [.var 0]) [(.ife (.cmp .eq (.bin .mod (.bin .fdiv (.bin .sub (.bin .add (.bin .sub (.var 2) (.var 1)) (.var 3)) (.var 1)) (.bin .mul (.cst (.int 2)) (.var 1))) (.cst (.int 2))) (.cst (.int 0))) [(.ret (.lst [.var 6,.var 7]))] []),(.ret (.lst [.var 7,.var 6]))] []),(.ife (.cmp .eq (.bin .mod (.bin .fdiv (.var 2) (.var 1)) (.cst (.int 2))) (.cst (.int 1))) [(.ret (.lst [.var 4,.var 5]))] []),(.ret (.lst [.var 5,.var 4]))]⟩
noncomputable def l9:Fn:=⟨2,2,[(.ret (.comp 1 [0] [((.nm 0),(.idx (.call 24 [.var 1]) (.cst (.int 1))),[(.and (.call 21 [.var 1,.var 0]) (.not (.call 19 [.var 1,.var 0])))])] (.var 0)))]⟩
noncomputable def mv:Fn:=⟨1,3,[(.set (.nm 1) .dnew),(.for (.nm 2) (.var 0) [(.sub (.var 1) (.var 2) (.cst (.bl true)))]),(.ret (.var 1))]⟩
noncomputable def lK:Fn:=⟨2,3,[(.for (.nm 2) (.var 0) [(.ife (.cmp .nin (.var 2) (.var 1)) [(.ret (.cst (.bl false)))] [])]),(.ret (.cst (.bl true)))]⟩
noncomputable def lE:Fn:=⟨2,5,[(.set (.nm 2) .dnew),(.set (.nm 3) (.bi .list [.var 1])),(.whl (.cmp .gt (.bi .len [.var 3]) (.cst (.int 0))) [(.set (.nm 4) (.pop (.var 3))),(.ife (.cmp .nin (.var 4) (.var 2)) [(.sub (.var 2) (.var 4) (.cst (.bl true))),(.exp (.ext (.var 3) (.call 25 [.var 0,.var 4])))] [])]),(.ret (.bi .srt [.var 2]))]⟩
noncomputable def lY:Fn:=⟨2,5,[(.set (.nm 2) (.bi .srt [(.call 26 [.var 1])])),(.for (.nm 3) (.rng1 (.cst (.int 8))) [(.set (.nm 4) (.call 26 [.var 2])),(.set (.nm 2) (.comp 1 [0,4] [((.nm 0),.var 2,[(.call 27 [(.call 25 [.var 1,.var 0]),.var 2])])] (.var 0)))]),(.ret (.var 2))]⟩
noncomputable def ly:Fn:=⟨2,4,[(.set (.nm 2) (.call 26 [.var 1])),(.for (.nm 3) (.var 1) [(.ife (.not (.call 27 [(.call 25 [.var 0,.var 3]),.var 2])) [(.ret (.cst (.bl false)))] [])]),(.ret (.cst (.bl true)))]⟩
noncomputable def lP:Fn:=⟨2,4,[(.set (.nm 2) (.call 20 [.var 1])),(.set (.nm 3) (.call 16 [.var 0,(.cst (.int 11))])),(.ife (.cmp .eq (.var 3) (.cst (.int 0))) [(.ret (.lst []))] []),(.ife (.cmp .eq (.var 3) (.cst (.int 1))) [(.ret (.var 2))] []),(.ife (.cmp .lt (.var 3) (.cst (.int 4))) [(.ret (.comp 1 [0] [((.nm 0),.var 2,[(.cmp .eq (.call 16 [.var 1,(.cst (.int 2))]) (.cst (.int 1)))])] (.var 0)))] []),(.ife (.cmp .lt (.var 3) (.cst (.int 6))) [(.ret (.comp 1 [0] [((.nm 0),.var 2,[(.cmp .gt (.call 16 [.var 1,(.cst (.int 5))]) (.cst (.int 0)))])] (.var 0)))] []),(.ret (.comp 1 [0,2] [((.nm 0),(.rng1 (.bin .add (.cst (.int 1)) (.call 16 [.var 0,(.cst (.int 7))]))),[])] (.idx (.var 2) (.call 16 [.var 1,(.bi .len [.var 2])]))))]⟩
noncomputable def lS:Fn:=⟨2,2,[(.ret (.call 28 [.var 1,(.call 31 [.var 0,.var 1])]))]⟩
noncomputable def lX:Fn:=⟨2,6,[(.set (.nm 2) (.call 20 [.var 1])),(.ife (.cmp .gt (.bi .len [.var 2]) (.cst (.int 5))) [(.ret (.comp 1 [0,1] [((.nm 0),(.rng1 (.cst (.int 6))),[])] (.call 32 [.var 1,.var 2])))] []),(.set (.nm 3) (.lst [])),(.for (.nm 4) (.rng1 (.cst (.int 32))) [(.set (.nm 5) (.comp 1 [4,2] [((.nm 0),(.rng1 (.cst (.int 5))),[(.cmp .eq (.bin .mod (.bin .fdiv (.var 1) (.idx (.lst [(.cst (.int 1)),(.cst (.int 2)),(.cst (.int 4)),(.cst (.int 8)),(.cst (.int 16))]) (.var 0))) (.cst (.int 2))) (.cst (.int 1)))])] (.idx (.var 2) (.var 0)))),(.ife (.call 30 [.var 1,.var 5]) [(.exp (.app (.var 3) (.var 5)))] [])]),(.ret (.var 3))]⟩
noncomputable def d9:Fn:=⟨1,9,[(.set (.nm 1) (.call 15 [.var 0])),(.set (.nm 2) (.call 17 [.var 1])),(.ife (.cmp .eq (.call 16 [.var 1,(.cst (.int 2))]) (.cst (.int 0))) [(.set (.nm 2) (.tup [(.cst (.int 1)),(.cst (.int 1)),(.cst (.int 2))]))] []),(.set (.nm 3) (.call 31 [.var 1,.var 2])),(.set (.nm 4) (.call 13 [.var 2,(.bi .list [.var 3])])),(.set (.nm 5) (.call 14 [.var 2,(.bi .list [.var 3])])),(.set (.nm 6) (.and (.call 30 [.var 2,.var 4]) (.call 30 [.var 2,.var 5]))),(.set (.nm 6) (.and (.var 6) (.and (.call 27 [.var 3,(.call 26 [.var 4])]) (.call 27 [.var 5,(.call 26 [.var 3])])))),(.set (.nm 7) (.call 33 [.var 1,.var 2])),(.set (.nm 7) (.bin .add (.var 7) (.comp 1 [2,3] [((.nm 0),.var 7,[])] (.call 28 [.var 1,(.bin .add (.var 2) (.var 0))])))),(.set (.nm 7) (.bin .add (.var 7) (.comp 1 [2,3] [((.nm 0),.var 7,[])] (.call 29 [.var 1,(.comp 1 [0] [((.nm 0),.var 2,[(.cmp .inn (.var 0) (.var 1))])] (.var 0))])))),(.for (.nm 8) (.var 7) [(.ife (.call 27 [.var 3,(.call 26 [.var 8])]) [(.set (.nm 6) (.and (.var 6) (.call 27 [.var 4,(.call 26 [.var 8])])))] []),(.ife (.call 27 [.var 8,(.call 26 [.var 3])]) [(.set (.nm 6) (.and (.var 6) (.call 27 [.var 8,(.call 26 [.var 5])])))] [])]),(.ret (.var 6))]⟩
noncomputable def fns:List Fn:=[nN,lM,lV,mG,oU,l8,lN,lz,p7,nP,my,mq,nu,ph,oK,mm,l0,lW,lF,lH,lZ,nI,l7,lG,lJ,l9,mv,lK,lE,lY,ly,lP,lS,lX,d9]
end Lk20
end
section
namespace Lk20
noncomputable section
open PySem PI L2
noncomputable def cg:List Inf:=[⟨"in_land",["plan","at","wide","deep","side","x","y"],["plan","at"],none⟩,⟨"need_place",["plan","at"],["plan","at"],none⟩,⟨"is_corner",["plan","at","side","x","y"],["plan","at"],none⟩,⟨"need_cut",["plan","at"],["plan","at"],none⟩,⟨"stride",["at","x","y","size"],["at"],none⟩,⟨"is_centre",["at","x","y","size"],["at"],none⟩,⟨"edge_pairs",["at","x","y","size","lying","upright"],["at"],none⟩,⟨"centre_pairs",["at","x","y","size","rising","falling"],["at"],none⟩,⟨"pairs",["at"],["at"],none⟩,⟨"parents",["plan","at","facing"],["plan","at"],none⟩,⟨"children",["plan","at","x","y","size","near","half"],["plan","at"],none⟩,⟨"gathered",["plan","cuts","at"],["plan","cuts"],none⟩,⟨"lacking",["plan","known","at"],["plan","known","at"],none⟩,⟨"above",["plan","cuts","known","waiting","missing","at"],["plan","cuts"],none⟩,⟨"within",["plan","cuts","known","waiting","at"],["plan","cuts"],none⟩,⟨"_law_bag",["_law_script"],["_law_script"],none⟩,⟨"_law_draw",["_law_bag_here","_law_many","_law_cells","_law_at","_law_cell"],["_law_bag_here","_law_many"],none⟩,⟨"_law_plan",["_law_bag_here","_law_menu"],["_law_bag_here"],none⟩,⟨"_law_places",["_law_plan_here","_law_found","_law_x","_law_y"],["_law_plan_here"],none⟩,⟨"_law_corner",["_law_plan_here","_law_at"],["_law_plan_here","_law_at"],none⟩,⟨"_law_cuts",["_law_plan_here"],["_law_plan_here"],none⟩,⟨"_law_in",["_law_plan_here","_law_at"],["_law_plan_here","_law_at"],none⟩,⟨"_law_step",["_law_at"],["_law_at"],none⟩,⟨"_law_centre",["_law_at","_law_size"],["_law_at"],none⟩,⟨"_law_around",["_law_at","_law_size","_law_x","_law_y","_law_flat","_law_tall","_law_rising","_law_falling"],["_law_at"],none⟩,⟨"_law_ups",["_law_plan_here","_law_at"],["_law_plan_here","_law_at"],none⟩,⟨"_law_set",["_law_some_here","_law_found","_law_thing"],["_law_some_here"],none⟩,⟨"_law_all_in",["_law_some_here","_law_there","_law_thing"],["_law_some_here","_law_there"],none⟩,⟨"_law_closed",["_law_plan_here","_law_some_here","_law_there","_law_todo","_law_at"],["_law_plan_here","_law_some_here"],none⟩,⟨"_law_held",["_law_plan_here","_law_some_here","_law_left","_law_turn","_law_there"],["_law_plan_here","_law_some_here"],none⟩,⟨"_law_is_closed",["_law_plan_here","_law_some_here","_law_there","_law_at"],["_law_plan_here","_law_some_here"],none⟩,⟨"_law_picks",["_law_bag_here","_law_plan_here","_law_every","_law_kind"],["_law_bag_here","_law_plan_here"],none⟩,⟨"_law_some",["_law_bag_here","_law_plan_here"],["_law_bag_here","_law_plan_here"],none⟩,⟨"_law_sets",["_law_bag_here","_law_plan_here","_law_some_here","_law_found","_law_number","_law_one"],["_law_bag_here","_law_plan_here"],none⟩,⟨"law",["_law_script","_law_bag_here","_law_plan_here","_law_some_here","_law_over","_law_low","_law_good","_law_tried","_law_one"],["_law_script"],none⟩]
noncomputable def T:Tab:=⟨[(sO "in_land"),(sO "need_place"),(sO "is_corner"),(sO "need_cut"),(sO "stride"),(sO "is_centre"),(sO "edge_pairs"),(sO "centre_pairs"),(sO "pairs"),(sO "parents"),(sO "children"),(sO "gathered"),(sO "lacking"),(sO "above"),(sO "within"),(sO "_law_bag"),(sO "_law_draw"),(sO "_law_plan"),(sO "_law_places"),(sO "_law_corner"),(sO "_law_cuts"),(sO "_law_in"),(sO "_law_step"),(sO "_law_centre"),(sO "_law_around"),(sO "_law_ups"),(sO "_law_set"),(sO "_law_all_in"),(sO "_law_closed"),(sO "_law_held"),(sO "_law_is_closed"),(sO "_law_picks"),(sO "_law_some"),(sO "_law_sets"),(sO "law")],[],["len","list","range","set","sorted"]⟩
noncomputable def loose:List Str:=[(sO "LookError"),(sO "NoPlace"),(sO "NoCut"),(sO "in_land"),(sO "need_place"),(sO "is_corner"),(sO "need_cut"),(sO "stride"),(sO "is_centre"),(sO "edge_pairs"),(sO "centre_pairs"),(sO "pairs"),(sO "parents"),(sO "children"),(sO "gathered"),(sO "lacking"),(sO "above"),(sO "within"),(sO "_law_bag"),(sO "_law_draw"),(sO "_law_plan"),(sO "_law_places"),(sO "_law_corner"),(sO "_law_cuts"),(sO "_law_in"),(sO "_law_step"),(sO "_law_centre"),(sO "_law_around"),(sO "_law_ups"),(sO "_law_set"),(sO "_law_all_in"),(sO "_law_closed"),(sO "_law_held"),(sO "_law_is_closed"),(sO "_law_picks"),(sO "_law_some"),(sO "_law_sets")]
end
end Lk20
end
section
open PySem PySem.W PyProof.Rows
noncomputable def Lk20.raws:List (Option (Scope×List Stmt)):=[PI.aw PySem.Challenge.rw_braemantle_k20_whole_least_and_greatest.prog.main.body 5,PI.aw PySem.Challenge.rw_braemantle_k20_whole_least_and_greatest.prog.main.body 6,PI.aw PySem.Challenge.rw_braemantle_k20_whole_least_and_greatest.prog.main.body 7,PI.aw PySem.Challenge.rw_braemantle_k20_whole_least_and_greatest.prog.main.body 8,PI.aw PySem.Challenge.rw_braemantle_k20_whole_least_and_greatest.prog.main.body 9,PI.aw PySem.Challenge.rw_braemantle_k20_whole_least_and_greatest.prog.main.body 10,PI.aw PySem.Challenge.rw_braemantle_k20_whole_least_and_greatest.prog.main.body 11,PI.aw PySem.Challenge.rw_braemantle_k20_whole_least_and_greatest.prog.main.body 12,PI.aw PySem.Challenge.rw_braemantle_k20_whole_least_and_greatest.prog.main.body 13,PI.aw PySem.Challenge.rw_braemantle_k20_whole_least_and_greatest.prog.main.body 14,PI.aw PySem.Challenge.rw_braemantle_k20_whole_least_and_greatest.prog.main.body 15,PI.aw PySem.Challenge.rw_braemantle_k20_whole_least_and_greatest.prog.main.body 17,PI.aw PySem.Challenge.rw_braemantle_k20_whole_least_and_greatest.prog.main.body 18,PI.aw PySem.Challenge.rw_braemantle_k20_whole_least_and_greatest.prog.main.body 19,PI.aw PySem.Challenge.rw_braemantle_k20_whole_least_and_greatest.prog.main.body 20,PI.aw PySem.Challenge.rw_braemantle_k20_whole_least_and_greatest.prog.main.body 22,PI.aw PySem.Challenge.rw_braemantle_k20_whole_least_and_greatest.prog.main.body 23,PI.aw PySem.Challenge.rw_braemantle_k20_whole_least_and_greatest.prog.main.body 24,PI.aw PySem.Challenge.rw_braemantle_k20_whole_least_and_greatest.prog.main.body 25,PI.aw PySem.Challenge.rw_braemantle_k20_whole_least_and_greatest.prog.main.body 26,PI.aw PySem.Challenge.rw_braemantle_k20_whole_least_and_greatest.prog.main.body 27,PI.aw PySem.Challenge.rw_braemantle_k20_whole_least_and_greatest.prog.main.body 28,PI.aw PySem.Challenge.rw_braemantle_k20_whole_least_and_greatest.prog.main.body 29,PI.aw PySem.Challenge.rw_braemantle_k20_whole_least_and_greatest.prog.main.body 30,PI.aw PySem.Challenge.rw_braemantle_k20_whole_least_and_greatest.prog.main.body 31,PI.aw PySem.Challenge.rw_braemantle_k20_whole_least_and_greatest.prog.main.body 32,PI.aw PySem.Challenge.rw_braemantle_k20_whole_least_and_greatest.prog.main.body 33,PI.aw PySem.Challenge.rw_braemantle_k20_whole_least_and_greatest.prog.main.body 34,PI.aw PySem.Challenge.rw_braemantle_k20_whole_least_and_greatest.prog.main.body 35,PI.aw PySem.Challenge.rw_braemantle_k20_whole_least_and_greatest.prog.main.body 36,PI.aw PySem.Challenge.rw_braemantle_k20_whole_least_and_greatest.prog.main.body 37,PI.aw PySem.Challenge.rw_braemantle_k20_whole_least_and_greatest.prog.main.body 38,PI.aw PySem.Challenge.rw_braemantle_k20_whole_least_and_greatest.prog.main.body 39,PI.aw PySem.Challenge.rw_braemantle_k20_whole_least_and_greatest.prog.main.body 40,PI.aw PySem.Challenge.rw_braemantle_k20_whole_least_and_greatest.prog.main.body 41]
set_option maxRecDepth 100000 in
set_option maxHeartbeats 0 in
theorem Lk20.chk0(w:World):(PI.endsF PySem.Challenge.rw_braemantle_k20_whole_least_and_greatest.prog w 20000).map (λs=>(Fast.tw4187177175401517315 (PI.lastOf PySem.Challenge.rw_braemantle_k20_whole_least_and_greatest.prog) Lk20.loose (PySem.importedModules PySem.Challenge.rw_braemantle_k20_whole_least_and_greatest.prog.main.body) (λ_=>true) true s,PI.kZ Lk20.T (PI.a9 s.heap) Lk20.cg))=some (openGood (PI.lastOf PySem.Challenge.rw_braemantle_k20_whole_least_and_greatest.prog) Lk20.loose,true):=by kernel_rfl
set_option maxRecDepth 100000 in
set_option maxHeartbeats 0 in
theorem Lk20.chk1(w:World):(PI.endsF PySem.Challenge.rw_braemantle_k20_whole_least_and_greatest.prog w 20000).map (λs=>(Lk20.cg.take 26).map (PI.cQ (PI.a9 s.heap)))=some (Lk20.raws.take 26):=by kernel_rfl
set_option maxRecDepth 100000 in
set_option maxHeartbeats 0 in
theorem Lk20.chk2(w:World):(PI.endsF PySem.Challenge.rw_braemantle_k20_whole_least_and_greatest.prog w 20000).map (λs=>((Lk20.cg.drop 26).take 9).map (PI.cQ (PI.a9 s.heap)))=some ((Lk20.raws.drop 26).take 9):=by kernel_rfl
set_option maxRecDepth 100000 in
set_option maxHeartbeats 0 in
theorem Lk20.part0:PI.ae (((Lk20.cg.zip Lk20.raws).take 16).map (PI.mkF Lk20.T))=some (Lk20.fns.take 16):=by kernel_rfl
set_option maxRecDepth 100000 in
set_option maxHeartbeats 0 in
theorem Lk20.part1:PI.ae ((((Lk20.cg.zip Lk20.raws).drop 16).take 8).map (PI.mkF Lk20.T))=some ((Lk20.fns.drop 16).take 8):=by kernel_rfl
set_option maxRecDepth 100000 in
set_option maxHeartbeats 0 in
theorem Lk20.part2:PI.ae ((((Lk20.cg.zip Lk20.raws).drop 24).take 10).map (PI.mkF Lk20.T))=some ((Lk20.fns.drop 24).take 10):=by kernel_rfl
set_option maxRecDepth 100000 in
set_option maxHeartbeats 0 in
theorem Lk20.part3:PI.ae ((((Lk20.cg.zip Lk20.raws).drop 34).take 1).map (PI.mkF Lk20.T))=some ((Lk20.fns.drop 34).take 1):=by kernel_rfl
end
namespace L2
open PySem PySem.Spec PyProof.Rows
noncomputable abbrev Key:=Sum Int Str
noncomputable def d8:Key->Value->Bool
 | .inl k,v=>Value.isInt k v
 | .inr x,v=>Value.isStrOf x v
noncomputable def Gq(w:World):Key->Int
 | .inl k=>hashInt k
 | .inr x=>hashStr w x
theorem bS:∀ {k:Key} {v:Value},d8 k v=true->(∃ i t,k=Sum.inl i/\v=Value.int i t)\/(∃ x t,k=Sum.inr x/\v=Value.str x t)
 | .inl i,v,h=>by
  obtain ⟨t,e⟩:=Value.isInt_shape (k:=i) (v:=v) h;exact .inl ⟨i,t,rfl,e⟩
 | .inr x,v,h=>by
  obtain ⟨t,e⟩:=Value.isStrOf_shape (x:=x) (v:=v) h;exact .inr ⟨x,t,rfl,e⟩
theorem vw(i:Int)(t:Tok):d8 (.inl i) (.int i t)=true:=by simp [d8,Value.isInt]
theorem uZ(x:Str)(t:Tok):d8 (.inr x) (.str x t)=true:=by simp [d8,Value.isStrOf]
theorem Bj(a b:Int):decide ((Sum.inl a:Key)=Sum.inl b)=(a == b):=by
 by_cases e:a=b
 .subst e;simp
 .have h : ¬ (Sum.inl a:Key)=Sum.inl b:=λq=>e (Sum.inl.inj q)
  rw [decide_eq_false h];exact (beq_eq_false_iff_ne.mpr e).symm
theorem Cb(a b:Str):decide ((Sum.inr a:Key)=Sum.inr b)=decide (a=b):=by
 by_cases e:a=b
 .subst e;simp
 .have h : ¬ (Sum.inr a:Key)=Sum.inr b:=λq=>e (Sum.inr.inj q)
  rw [decide_eq_false h,decide_eq_false e]
theorem BA(a:Int)(b:Str):decide ((Sum.inl a:Key)=Sum.inr b)=false:=decide_eq_false (λq=>nomatch q)
theorem zo(a:Str)(b:Int):decide ((Sum.inr a:Key)=Sum.inl b)=false:=decide_eq_false (λq=>nomatch q)
noncomputable def aZ(prog:Program)(w:World):PySem.KeyKind prog w Key where
 is:=d8
 hash:=Gq w
 inj:=λv a b ha hb=>by
  rcases bS ha with ⟨i,t,rfl,rfl⟩ | ⟨x,t,rfl,rfl⟩
  .rcases bS hb with ⟨j,u,rfl,e⟩ | ⟨y,u,rfl,e⟩
   .injection e with e1 _;rw [e1]
   .exact nomatch e
  .rcases bS hb with ⟨j,u,rfl,e⟩ | ⟨y,u,rfl,e⟩
   .exact nomatch e
   .injection e with e1 _;rw [e1]
 byValue:=λk v h=>by
  rcases bS h with ⟨i,t,rfl,rfl⟩ | ⟨x,t,rfl,rfl⟩ <;> rfl
 pyHash:=λhv h=>by
  rcases bS hv with ⟨i,t,rfl,rfl⟩ | ⟨x,t,rfl,rfl⟩
  .exact wpAny_pyHash_int h
  .exact wpAny_pyHash_str h
 eqBool:=λhu hv h=>by
  rcases bS hu with ⟨i,t,rfl,rfl⟩ | ⟨x,t,rfl,rfl⟩
  .rcases bS hv with ⟨j,u,rfl,rfl⟩ | ⟨y,u,rfl,rfl⟩
   .rw [Bj] at h;exact wpAny_eqBool_int h
   .rw [BA] at h;exact SeqAt.EqAt.int_str i t y u _ _ _ _ h
  .rcases bS hv with ⟨j,u,rfl,rfl⟩ | ⟨y,u,rfl,rfl⟩
   .rw [zo] at h;exact SeqAt.EqAt.str_int x t j u _ _ _ _ h
   .rw [Cb] at h;exact wpAny_eqBool_str h
 «strs» := λk x t v h=>by
  rcases bS h with ⟨i,u,rfl,e⟩ | ⟨y,u,rfl,e⟩
  .exact nomatch e
  .injection e with e1 _
   subst e1;cases v <;> rfl
theorem uh(prog:Program)(w:World)(i:Int)(t:Tok):(aZ prog w).is (.inl i) (.int i t)=true:=vw i t
theorem ur(prog:Program)(w:World)(x:Str)(t:Tok):(aZ prog w).is (.inr x) (.str x t)=true:=uZ x t
end L2
namespace L2
open PySem PySem.Spec PyProof.Rows
inductive V where
 | non | bl (b:Bool) | int (i:Int) | str (x:Str) | byt (b:Array UInt8) | flt (b:UInt64) | ref (a:Addr) | ty (n:String)
 deriving DecidableEq
noncomputable def RelV:V->Value->Prop
 | .non,u=>u=Value.none
 | .bl b,u=>u=Value.bool b
 | .int i,u => ∃ t,u=Value.int i t
 | .str x,u => ∃ t,u=Value.str x t
 | .byt b,u => ∃ t,u=Value.bytes b t
 | .flt b,u => ∃ t,u=Value.float b t
 | .ref a,u=>u=Value.ref a
 | .ty n,u=>u=Value.type n
noncomputable abbrev Vals:List V->List Value->Prop:=Paired RelV
theorem Vals.length{xs:List V}{us:List Value}(r:Vals xs us):xs.length=us.length:=Paired.length r
theorem Vals.get:∀ {xs:List V} {us:List Value} {i:Nat} {x:V},Vals xs us->xs[i]? = some x -> ∃ u,us[i]? = some u/\RelV x u
 | _,_,_,_,.nil,e=>by simp at e
 | _,_,0,_,.cons r _,e=>by simp at e;subst e;exact ⟨_,rfl,r⟩
 | _,_,i+1,x,.cons _ t,e=>by
  obtain ⟨u,h1,h2⟩:=Vals.get (i:=i) (x:=x) t (by simpa using e)
  exact ⟨u,by simpa using h1,h2⟩
theorem Vals.set{x:V}{u:Value}(r:RelV x u):∀ {xs:List V} {us:List Value} (i:Nat),Vals xs us->Vals (xs.set i x) (us.set i u)
 | _,_,_,.nil => .nil
 | _,_,0,.cons _ t => .cons r t
 | _,_,i+1,.cons q t => .cons q (Vals.set r i t)
theorem Vals.append:∀ {xs ys:List V} {us ws:List Value},Vals xs us->Vals ys ws->Vals (xs++ys) (us++ws)
 | _,_,_,_,.nil,s=>s
 | _,_,_,_,.cons r t,s => .cons r (Vals.append t s)
theorem Vals.take:∀ {xs:List V} {us:List Value} (n:Nat),Vals xs us->Vals (xs.take n) (us.take n)
 | _,_,0,_ => .nil
 | _,_,_+1,.nil => .nil
 | _,_,n+1,.cons r t => .cons r (Vals.take n t)
theorem Vals.drop:∀ {xs:List V} {us:List Value} (n:Nat),Vals xs us->Vals (xs.drop n) (us.drop n)
 | _,_,0,r=>r
 | _,_,_+1,.nil => .nil
 | _,_,n+1,.cons _ t=>Vals.drop n t
noncomputable def RelO:Option V->Option Value->Prop
 | some v,some u=>RelV v u
 | none,none=>True
 | _,_=>False
noncomputable def KV{κ:Type}:List (κ×V)->List (κ×Value)->Prop:=Paired λ(p:κ×V) (q:κ×Value)=>p.1=q.1/\RelV p.2 q.2
noncomputable def kV:Key->V
 | .inl i => .int i
 | .inr x => .str x
set_option genInjectivity false in
inductive HO where
 | lst (xs:List V)
 | tup (xs:List V)
 | dK (kvs:List (Key×V)) | dT (kvs:List (List Key×V))
 | set (S:Int->Bool) (n:Nat)
 | ins (C dx:Addr) (fs:List (Str×V))
 | own (x:Addr)
 | xd (fs:List (Str×V))
 | met (f x:Addr)
 | rng (lo hi:Int)
 | frz (o:Obj) (u:HO)
 | tbl (ps:Array Value)
 | ext (φ:Heap->Prop)
noncomputable abbrev Hp:=Addr->Option HO
noncomputable def upd(H:Hp)(a:Addr)(o:HO):Hp:=λb=>if b=a then some o else H b
theorem upd_same{H:Hp}{a:Addr}{o:HO}:upd H a o a=some o:=by unfold upd;rw [if_pos rfl]
theorem ar{H:Hp}{a b:Addr}{o:HO}(h:b≠a):upd H a o b=H b:=by unfold upd;rw [if_neg h]
theorem dj{H:Hp}{a b:Addr}{o u:HO}(h:H a=some o)(h':H b=some u)(d:o≠u):a≠b:=by
 intro e;subst e;rw [h] at h';exact d (Option.some.inj h')
theorem bw{H:Hp}{a b:Addr}{o:HO}(h:H a=some o)(h':H b=none):a≠b:=by
 intro e;subst e;rw [h] at h';cases h'
section
variable(P:Program)(w:World)
noncomputable def ObjOk(H:Hp)(h:Heap)(a:Addr):HO->Prop
 | .lst xs=>xs.length<=sizeLine /\ ∃ (its:List Value) (n:Nat),Vals xs its/\h.get? a=some { cls := .type "list",data := .seq its.toArray n }
 | .tup xs=>xs.length<=sizeLine /\ ∃ its:List Value,Vals xs its/\IsTup h a its.toArray
 | .dK kvs=>kvs.length<=sizeLine/\(a == sysModules)=false /\ ∃ vs,KV kvs vs/\h.DictOf (aZ P w) a vs
 | .dT kvs=>kvs.length<=sizeLine/\(a == sysModules)=false /\ ∃ xs:List (List Key×Addr×Value),
   Paired (λ(p:List Key×V) (q:List Key×Addr×Value)=>p.1=q.1/\H q.2.1=some (.tup (p.1.map kV))/\RelV p.2 q.2.2) kvs xs /\
   ∃ o es ep,h.get? a=some o/\o.ExactDict/\o.data=.dict es ep/\es.toList=xs.map (entryOfKey (tupleKind (aZ P w)))/\(xs.map (·.1)).Nodup
 | .set S n=>h.SetOf (intKind P w) a S n
 | .ins C dx fs=>H dx=some (.own a)/\fs.length<=1000/\dx≠a/\h.get? a=some (PySem.W.instObj C dx) /\
   ∃ mA,h.Ns1 dx mA/\(∀ f,RelO (fs.lookup f) (mA f))/\PySem.Within mA (fs.map (·.1))
 | .own _ => ∃ o,h.get? a=some o
 | .xd fs => ∃ mA,h.Ns1 a mA /\ ∀ f,RelO (fs.lookup f) (mA f)
 | .rng lo hi => ∃ t u v,h.get? a=some { cls := .type "range",data := .fields #[.int lo t,.int hi u,.int 1 v] }
 | .frz o u=>h.get? a=some o/\ObjOk H h a u
 | .tbl ps=>h.get? a=some { cls := .none,data := .fields ps }
 | .met f x=>h.get? a=some (PySem.W.methodObj (.ref f) (.ref x))
 | .ext φ=>φ h/\(∃ o,h.get? a=some o) /\ ∀ h1 h2:Heap,φ h1->(∀ o,h1.get? a=some o->h2.get? a=some o)->φ h2
noncomputable def HOk(H:Hp)(h:Heap):Prop := ∀ a o,H a=some o->ObjOk P w H h a o
end
section
variable{P:Program}{w:World}{H H':Hp}{h h':Heap}{a:Addr}{o:HO}
theorem ObjOk.lt(x:ObjOk P w H h a o):a < h.objs.size:=by
 cases o with
 | lst xs=>obtain ⟨_,_,_,_,e⟩:=x;exact Gx e
 | tup xs=>obtain ⟨_,_,_,p⟩:=x;exact p.lt
 | dK kvs=>obtain ⟨_,_,_,_,o,_,_,e,_⟩:=x;exact Gx e
 | dT kvs=>obtain ⟨_,_,_,_,o,_,_,e,_⟩:=x;exact Gx e
 | set S n=>obtain ⟨o,_,_,_,e,_⟩:=x;exact Gx e
 | ins C dx fs=>obtain ⟨_,_,_,e,_⟩:=x;exact Gx e
 | own y=>obtain ⟨_,e⟩:=x;exact Gx e
 | xd fs=>obtain ⟨_,⟨_,_,_,e,_⟩,_⟩:=x;exact Gx e
 | rng lo hi=>obtain ⟨_,_,_,e⟩:=x;exact Gx e
 | frz ob u=>obtain ⟨e,_⟩:=x;exact Gx e
 | tbl ps=>exact Gx (show h.get? a=some _ from x)
 | met f y=>exact Gx (show h.get? a=some _ from x)
 | ext φ=>obtain ⟨_,⟨_,e⟩,_⟩:=x;exact Gx e
theorem Paired.mapP{α β:Type}{F G:α->β->Prop}:∀ {l₁ : List α} {l₂ : List β},Paired F l₁ l₂ -> (∀ a b,F a b->G a b)->Paired G l₁ l₂
 | _,_,.nil,_ => .nil
 | _,_,.cons r t,f => .cons (f _ _ r) (Paired.mapP t f)
theorem ObjOk.stay(x:ObjOk P w H h a o)(k:∀ b u,(b=a\/H b=some (.own a))->h.get? b=some u->h'.get? b=some u)
  (ho:∀ b,H b=some (.own a)->H' b=some (.own a)) (ht:∀ b xs,H b=some (.tup xs)->H' b=some (.tup xs)):ObjOk P w H' h' a o:=by
 induction o with
 | lst xs=>obtain ⟨z,its,n,r,e⟩:=x;exact ⟨z,its,n,r,k _ _ (.inl rfl) e⟩
 | tup xs=>obtain ⟨z,its,r,ob,e,c⟩:=x;exact ⟨z,its,r,ob,k _ _ (.inl rfl) e,c⟩
 | dK kvs=>obtain ⟨z,y,vs,r,ob,es,ep,e,c⟩:=x;exact ⟨z,y,vs,r,ob,es,ep,k _ _ (.inl rfl) e,c⟩
 | dT kvs =>
  obtain ⟨z,y,xs,r,ob,es,ep,e,c⟩:=x;exact ⟨z,y,xs,Paired.mapP r λp q z=>⟨z.1,ht _ _ z.2.1,z.2.2⟩,ob,es,ep,k _ _ (.inl rfl) e,c⟩
 | set S n=>obtain ⟨ob,es,ep,t,e,c⟩:=x;exact ⟨ob,es,ep,t,k _ _ (.inl rfl) e,c⟩
 | ins C dx fs =>
  obtain ⟨d,z,ne,e,mA,⟨od,es,ep,e2,c⟩,r⟩:=x;exact ⟨ho _ d,z,ne,k _ _ (.inl rfl) e,mA,⟨od,es,ep,k _ _ (.inr d) e2,c⟩,r⟩
 | own y=>obtain ⟨ob,e⟩:=x;exact ⟨ob,k _ _ (.inl rfl) e⟩
 | xd fs=>obtain ⟨mA,⟨od,es,ep,e,c⟩,r⟩:=x;exact ⟨mA,⟨od,es,ep,k _ _ (.inl rfl) e,c⟩,r⟩
 | rng lo hi=>obtain ⟨t,u,v,e⟩:=x;exact ⟨t,u,v,k _ _ (.inl rfl) e⟩
 | frz ob u ih=>obtain ⟨e,q⟩:=x;exact ⟨k _ _ (.inl rfl) e,ih q⟩
 | tbl ps =>
  have e:h.get? a=some { cls := .none,data := .fields ps }:=x;show h'.get? a=some { cls := .none,data := .fields ps };exact k a _ (.inl rfl) e
 | met f y =>
  have e:h.get? a=some (PySem.W.methodObj (.ref f) (.ref y)):=x;show h'.get? a=some (PySem.W.methodObj (.ref f) (.ref y));exact k a _ (.inl rfl) e
 | ext φ=>obtain ⟨p,⟨o,e⟩,st⟩:=x;exact ⟨st _ _ p λo q=>k _ _ (.inl rfl) q,⟨o,k _ _ (.inl rfl) e⟩,st⟩
theorem HOk.lt(x:HOk P w H h)(e:H a=some o):a < h.objs.size:=(x a o e).lt
theorem HOk.fresh(x:HOk P w H h)(e:h.objs.size<=a):H a=none:=by
 cases q:H a with
 | none=>rfl
 | some u=>exact absurd (GC (x.lt q) e) (Nat.lt_irrefl _)
theorem HOk.kept(x:HOk P w H h)(k:∀ b u,h.get? b=some u->h'.get? b=some u):HOk P w H h':=λa o e =>
 (x a o e).stay (λb u _ q=>k b u q) (λ_ q=>q) λ_ _ q=>q
theorem HOk.laid(x:HOk P w H h)(k:∀ b u,h.get? b=some u->h'.get? b=some u)(hp:h.objs.size<=a)(new:ObjOk P w (upd H a o) h' a o):HOk P w (upd H a o) h':=λb u e=>by
 have hn:=x.fresh hp;by_cases hb:b=a
 .subst hb;rw [upd_same] at e;cases e;exact new
 .rw [ar hb] at e
  exact (x b u e).stay (λc v _ q=>k c v q) (λc q=>by rw [ar (bw q hn)];exact q) λc xs q=>by rw [ar (bw q hn)];exact q
end
noncomputable def Rd(H:Hp)(a:Addr)(u:HO):Prop:=H a=some u \/ ∃ o,H a=some (.frz o u)
theorem Rd.ok{P:Program}{w:World}{H:Hp}{h:Heap}{a:Addr}{u:HO}(r:Rd H a u)(x:HOk P w H h):ObjOk P w H h a u:=by
 rcases r with r | ⟨o,r⟩
 .exact x a u r
 .obtain ⟨_,q⟩:=x a _ r
  exact q
noncomputable def Mut:Option HO->Prop
 | some (.lst _)=>True
 | some (.dK _)=>True
 | some (.dT _)=>True
 | some (.set _ _)=>True
 | some (.ins _ _ _)=>True
 | some (.ext _)=>True
 | _=>False
section
variable{P:Program}{w:World}{H:Hp}{h h':Heap}{x e:Addr}{o':HO}
theorem HOk.write(ok:HOk P w H h)(mu:Mut (H x))(he:e=x\/H e=some (.own x))(k:∀ b u,b≠e->h.get? b=some u->h'.get? b=some u)(heo:∃ u,h'.get? e=some u)
  (new:ObjOk P w (upd H x o') h' x o'):HOk P w (upd H x o') h':=λb u q=>by
 have nown:∀ c y,H c=some (.own y)->c≠x:=λc y r z=>by subst z;rw [r] at mu;exact mu
 have ntup:∀ c xs,H c=some (.tup xs)->c≠x:=λc xs r z=>by subst z;rw [r] at mu;exact mu
 by_cases hb:b=x
 .subst hb;rw [upd_same] at q;cases q;exact new
 .rw [ar hb] at q
  by_cases hbe:b=e
  .have q':H b=some (.own x):=by
    rcases he with z | z
    .exact absurd (hbe.trans z) hb
    .rw [hbe];exact z
   rw [q] at q';cases q';obtain ⟨v,hv⟩:=heo;exact ⟨v,by rw [hbe];exact hv⟩
  .refine (ok b u q).stay (λc v hc r=>k c v ?_ r) (λc r=>by rw [ar (nown c b r)];exact r) λc xs r=>by rw [ar (ntup c xs r)];exact r
   rcases hc with rfl | hc
   .exact hbe
   .rintro rfl
    rcases he with z | z
    .exact nown c b hc z
    .rw [hc] at z;cases z;exact hb rfl
end
structure Un(fs ex:List Addr)(H H':Hp)(h h':Heap):Prop where
 keep:∀ b o,h.get? b=some o->H b=none->b ∉ fs->b ∉ ex->h'.get? b=some o
 slot:∀ b o,h.get? b=some o->H b=none->b∈fs->b ∉ ex -> ∃ sl,h'.get? b=some { o with slots:=sl }
 free:∀ b o,h.get? b=some o->H b=none->b ∉ ex->H' b=none
 there:∀ b o,h.get? b=some o->b ∉ ex -> ∃ o',h'.get? b=some o'
 tups:∀ b xs,H b=some (.tup xs)->H' b=some (.tup xs)
 frzs:∀ b o u,H b=some (.frz o u)->H' b=some (.frz o u)
 tbls:∀ b ps,H b=some (.tbl ps) -> ∃ more,H' b=some (.tbl (ps++more))
section
variable{fs fs' ex ex':List Addr}{H H1 H2:Hp}{h h1 h2 h':Heap}{a x e:Addr}{o:HO}
theorem Un.any(u:Un fs ex H H1 h h1){b:Addr}{ob:Obj}(q:h.get? b=some ob)(n:H b=none)(hx:b ∉ ex):∃ sl,h1.get? b=some { ob with slots:=sl }:=by
 by_cases hb:b∈fs
 .exact u.slot b ob q n hb hx
 .exact ⟨ob.slots,u.keep b ob q n hb hx⟩
theorem Un.kept(k:∀ b u,h.get? b=some u->h'.get? b=some u):Un fs ex H H h h' :=
 ⟨λb ob q _ _ _=>k b ob q,λb ob q _ _ _=>⟨ob.slots,k b ob q⟩,λ_ _ _ n _=>n,λb ob q _=>⟨ob,k b ob q⟩,λ_ _ q=>q,λ_ _ _ q=>q,λ_ ps q=>⟨#[],by rw [q];simp⟩⟩
theorem Un.refl:Un fs ex H H h h:=Un.kept λ_ _ q=>q
theorem Un.laid(k:∀ b u,h.get? b=some u->h'.get? b=some u)(hp:h.objs.size<=a)(hn:H a=none):Un fs ex H (upd H a o) h h' where
 keep:=λb u q _ _ _=>k b u q
 slot:=λb u q _ _ _=>⟨u.slots,k b u q⟩
 free:=λb u q n _=>by rw [ar (GD (GC (Gx q) hp))];exact n
 there:=λb u q _=>⟨u,k b u q⟩
 tups:=λb xs q=>by rw [ar (bw q hn)];exact q
 frzs:=λb u xs q=>by rw [ar (bw q hn)];exact q
 tbls:=λb ps q=>⟨#[],by rw [ar (bw q hn),q];simp⟩
theorem Un.write(mu:Mut (H x))(he:e=x\/H e=some (.own x))(k:∀ b u,b≠e->h.get? b=some u->h'.get? b=some u)(heo:∃ u,h'.get? e=some u):Un fs ex H (upd H x o) h h':=by
 have hx:∀ b,H b=none->b≠x:=λb n z=>by subst z;rw [n] at mu;exact mu
 have hb:∀ b,H b=none->b≠e:=λb n z=>by
  subst z;rcases he with r | r
  .exact hx b n r
  .rw [n] at r;cases r
 have hm:∀ b u,H b=some u -> ¬ Mut (some u)->b≠x:=λb u q nm z=>by subst z;rw [q] at mu;exact nm mu
 refine ⟨λb u q n _ _=>k b u (hb b n) q,λb u q n _ _=>⟨u.slots,k b u (hb b n) q⟩,λb u q n _=>by rw [ar (hx b n)];exact n,λb u q _ => ?_,
  λb xs q=>by rw [ar (hm b _ q λz=>z)];exact q,λb u xs q=>by rw [ar (hm b _ q λz=>z)];exact q,λb ps q=>⟨#[],by rw [ar (hm b _ q λz=>z),q];simp⟩⟩
 by_cases hbe:b=e
 .subst hbe;exact heo
 .exact ⟨u,k b u hbe q⟩
end
noncomputable def trk(h:Heap)(H:Hp):List Addr:=(List.range h.objs.size).filter λa=>(H a).isSome
noncomputable def b9(h:Heap)(H:Hp):Heap:=PySem.W.hideAll h (trk h H)
theorem vj(h:Heap)(H:Hp):(b9 h H).objs.size=h.objs.size:=PySem.W.hideAll_size _ _
theorem vW{h:Heap}{H:Hp}{b:Addr}{o:Obj}(e:h.get? b=some o)(n:H b=none):(b9 h H).get? b=some o :=
 PySem.W.hideAll_get _ e λhm=>by
  have q:(H b).isSome=true:=(List.mem_filter.mp hm).2;rw [n] at q;simp at q
theorem x5{h:Heap}{H:Hp}{b:Addr}{o:Obj}(e:(b9 h H).get? b=some o):h.get? b=some o/\H b=none:=by
 have e':h.get? b=some o:=PySem.W.of_hideAll (trk h H) e;refine ⟨e',?_⟩;cases q:H b with
 | none=>rfl
 | some x =>
  have hm:b∈trk h H:=List.mem_filter.mpr ⟨List.mem_range.mpr (Gx e'),by simp [q]⟩
  have z:(b9 h H).get? b=none:=PySem.W.hideAll_none (trk h H) hm;rw [z] at e;cases e
end L2
namespace L2
open PySem PySem.Spec PyProof.Rows
structure Mod(K:GJ)(mg:Str->Option Value)(base:Heap):Prop where
 kin:K.In base
 glob:base.Ns mainGlobals mg
 blt:∃ mb,base.Ns builtinsNs mb /\ ∀ x:Str,x ≠ "__name__" -> mb x=bootBuiltins x
 nolimit:base.NoLimit
set_option genInjectivity false in
structure Cx where
 prog:Program
 w:World
 K:GJ
 mg:Str->Option Value
 base:Heap
 A:Around
 N:List Str
 s₀ : Shared
 H₀ : Hp
 env:Env
 outer:List Env
 stack:List Env
 ex:List Addr
 fn:Str->Bool
 calm:Bool
 pn:List (Addr×Obj)
 xe:Value->Shared->Prop
noncomputable def frs(l:List Env):List Addr:=l.filterMap (·.frame)
noncomputable abbrev Cx.fs(X:Cx):List Addr:=frs X.outer
noncomputable def Vis(sc:Scope)(x:Str):Prop:=sc.names.lookup x=some .local\/sc.names.lookup x=some .cell\/sc.names.lookup x=some .free
noncomputable def Loc(sc:Scope)(x:Str):Prop:=sc.names.lookup x=some .local\/sc.names.lookup x=some .cell
noncomputable def Look(env:Env)(h:Heap)(m:Str->Option Value)(x:Str)(u:Value):Prop :=
 (env.kindOf x=some .local/\m x=some u)\/((env.kindOf x=some .cell\/env.kindOf x=some .free) /\ ∃ c,env.cells.lookup x=some c/\h.IsCell c (some u))
structure Cx.Ok(X:Cx):Prop where
 mod:Mod X.K X.mg X.base
 kind:X.env.scope.kind=.function
 glob:X.env.globals=mainGlobals
 blt:X.env.builtins=builtinsNs
 above:X.s₀.heap.objs.size<=X.env.locals
 inj:∀ x y c,X.env.cells.lookup x=some c->X.env.cells.lookup y=some c->x=y
 has:∀ x,(X.env.kindOf x=some .cell\/X.env.kindOf x=some .free) -> ∃ c,X.env.cells.lookup x=some c
 cab:∀ x c,X.fn x=true->X.env.cells.lookup x=some c->X.s₀.heap.objs.size<=c
 hd:X.calm=true->X.A.handled=none
 frames:X.A.frames=some X.stack
 stk:X.stack=X.outer\/(X.stack=X.env :: X.outer/\X.env.frame=some X.env.locals)
 exf:∀ b∈X.ex,b≠X.env.locals /\ ∀ x c,X.env.cells.lookup x=some c->c≠b
 bs:∀ b o,X.base.get? b=some o->X.s₀.heap.get? b=some o/\X.H₀ b=none
 bsz:X.base.objs.size<=X.s₀.heap.objs.size
 noex:∀ b o,X.base.get? b=some o->b ∉ X.ex
 exfs:∀ b∈X.ex,b ∉ X.fs
 funs:X.s₀.heap.FunFrames X.base X.outer
 frf:∀ b∈X.fs,X.H₀ b=none
structure Inv(X:Cx)(pins:List (Addr×Obj))(σ:List (Option V))(H:Hp)(s:Shared):Prop where
 ok:X.Ok
 os:s.os=X.s₀.os
 bare:AllBare s.gens
 base:Un X.fs X.ex X.H₀ H X.s₀.heap s.heap
 loc:∃ m,s.heap.Ns X.env.locals m /\ ∀ (i:Nat) (x:Str) (v:V),X.N[i]? = some x->σ[i]? = some (some v)->Vis X.env.scope x -> ∃ u,RelV v u/\Look X.env s.heap m x u
 cell:∀ x c,X.env.cells.lookup x=some c -> ∃ v,s.heap.IsCell c v
 free:H X.env.locals=none
 freeC:∀ x c,X.env.cells.lookup x=some c->H c=none
 pin:∀ p∈X.pn++pins,s.heap.get? p.1=some p.2/\H p.1=none/\p.1≠X.env.locals/\p.1 ∉ X.fs /\ ∀ v,p.2.data ≠ .cell v
 hok:HOk X.prog X.w H s.heap
 len:σ.length=X.N.length
section
variable{X:Cx}{pins:List (Addr×Obj)}{σ:List (Option V)}{H H':Hp}{s:Shared}{h':Heap}
theorem Cx.Ok.nofr(ok:X.Ok){b:Addr}{o:Obj}(e:X.base.get? b=some o):b ∉ X.fs:=λhb=>by
 have:=(ok.funs.mem hb).1;rw [e] at this;cases this
theorem Inv.bs(I:Inv X pins σ H s):∀ b o,X.base.get? b=some o->s.heap.get? b=some o/\H b=none:=λb o e =>
 ⟨I.base.keep b o (I.ok.bs b o e).1 (I.ok.bs b o e).2 (I.ok.nofr e) (I.ok.noex b o e),I.base.free b o (I.ok.bs b o e).1 (I.ok.bs b o e).2 (I.ok.noex b o e)⟩
theorem Inv.bk(I:Inv X pins σ H s):∀ b o,X.base.get? b=some o->s.heap.get? b=some o:=λb o e=>(I.bs b o e).1
theorem Inv.mod(I:Inv X pins σ H s):Mod X.K X.mg X.base:=I.ok.mod
theorem Inv.kIn(I:Inv X pins σ H s):X.K.In s.heap:=I.ok.mod.kin.keeps I.bk
theorem Inv.lt(I:Inv X pins σ H s):X.env.locals < s.heap.objs.size:=let ⟨_,hn,_⟩:=I.loc;hn.lt
theorem Inv.sz(I:Inv X pins σ H s):X.s₀.heap.objs.size<=s.heap.objs.size:=Gy I.ok.above (Nat.le_of_lt I.lt)
theorem Inv.nofs(I:Inv X pins σ H s){a:Addr}(h:s.heap.objs.size<=a):a ∉ X.fs:=λhb=>by
 obtain ⟨_,o,ho,_⟩:=I.ok.funs.mem hb;exact absurd (GC (Gx ho) (Gy I.sz h)) (Nat.lt_irrefl _)
theorem Inv.cne(I:Inv X pins σ H s):∀ x c,X.env.cells.lookup x=some c->c≠X.env.locals:=λx c e z=>by
 obtain ⟨v,o,ho,hd⟩:=I.cell x c e;obtain ⟨m,⟨o',es,ep,ho',hd',_⟩,_⟩:=I.loc;rw [z,ho'] at ho;cases ho;rw [hd'] at hd;cases hd
theorem Inv.funs(I:Inv X pins σ H s):s.heap.FunFrames X.base X.outer:=by
 have all:∀ (l:List Env),(∀ b∈frs l,b∈X.fs)->X.s₀.heap.FunFrames X.base l->s.heap.FunFrames X.base l:=by
  intro l
  induction l with
  | nil=>intro _ _;trivial
  | cons env r ih =>
   intro hs hl;obtain ⟨hk,⟨L,o,hf,hn,ho,hd⟩,hr⟩:=hl;have hL:L∈X.fs:=hs L (by unfold frs;rw [List.filterMap_cons,hf];exact GH)
   obtain ⟨sl,e⟩:=I.base.slot L o ho (I.ok.frf L hL) hL λz=>I.ok.exfs L z hL;exact ⟨hk,⟨L,_,hf,hn,e,hd⟩,ih (λb hb=>hs b (by unfold frs;rw [List.filterMap_cons,hf];exact GB _ hb)) hr⟩
 exact all X.outer (λ_ hb=>hb) I.ok.funs
theorem Inv.stack(I:Inv X pins σ H s):s.heap.FunFrames X.base X.stack:=by
 rcases I.ok.stk with e | ⟨e,hf⟩
 .rw [e];exact I.funs
 .rw [e]
  obtain ⟨m,hn,_⟩:=I.loc;refine .cons (by rw [I.ok.kind];decide) hf hn ?_ I.funs
  exact Heap.get?_none_of_le (Gy I.ok.bsz I.ok.above)
theorem Inv.stkSub(I:Inv X pins σ H s):∀ b∈frs X.stack,b∈X.env.locals :: X.fs:=λb hb=>by
 rcases I.ok.stk with e | ⟨e,hf⟩
 .rw [e] at hb;exact GB _ hb
 .rw [e] at hb
  unfold frs at hb;rw [List.filterMap_cons,hf] at hb;exact hb
theorem Inv.stkFree(I:Inv X pins σ H s):∀ b∈frs X.stack,H b=none:=λb hb=>by
 rcases List.mem_cons.mp (I.stkSub b hb) with e | hb
 .rw [e];exact I.free
 .obtain ⟨_,o,ho,_⟩:=I.ok.funs.mem hb
  exact I.base.free b o ho (I.ok.frf b hb) λz=>I.ok.exfs b z hb
theorem Inv.step{g':Array GenState}{t':Nat}{d':Drawn}{ch:List Addr}(I:Inv X pins σ H s)
  (hch:∀ b∈ch,(b∈X.ex\/X.s₀.heap.objs.size<=b)/\b≠X.env.locals/\(∀ x c,X.env.cells.lookup x=some c->c≠b) /\ ∀ p∈X.pn++pins,p.1≠b)
  (keep:∀ b o,b≠X.env.locals->b ∉ X.fs->b ∉ ch->s.heap.get? b=some o->H b=none->h'.get? b=some o)
  (slot:∀ b o,b≠X.env.locals->b∈X.fs->b ∉ ch->s.heap.get? b=some o->H b=none -> ∃ sl,h'.get? b=some { o with slots:=sl }) (free:∀ b o,b ∉ ch->s.heap.get? b=some o->H b=none->H' b=none)
  (there:∀ b o,b ∉ ch->s.heap.get? b=some o -> ∃ o',h'.get? b=some o')
  (tups:∀ b xs,H b=some (.tup xs)->H' b=some (.tup xs)) (frzs:∀ b o u,H b=some (.frz o u)->H' b=some (.frz o u)) (tbls:∀ b ps,H b=some (.tbl ps) -> ∃ more,H' b=some (.tbl (ps++more)))
  (ns:∀ m,s.heap.Ns X.env.locals m->h'.Ns X.env.locals m) (hok:HOk X.prog X.w H' h') (hg:AllBare g') :
  Inv X pins σ H' { s with heap:=h',gens:=g',drawn:=d',toks:=t' }:=by
 have neL:∀ b o,X.s₀.heap.get? b=some o->b≠X.env.locals:=λb o e=>GD (GC (Gx e) I.ok.above);have neC:∀ b o,X.s₀.heap.get? b=some o->b ∉ X.ex->b ∉ ch:=λb o e hx hb=>by
  rcases (hch b hb).1 with z | z
  .exact hx z
  .exact absurd (GC (Gx e) z) (Nat.lt_irrefl _)
 have cellK:∀ x c,X.env.cells.lookup x=some c -> ∀ v,s.heap.IsCell c v->h'.IsCell c v:=λx c e v ⟨o,ho,hd⟩=>by
  have nch:c ∉ ch:=λz=>(hch c z).2.2.1 x c e rfl;by_cases hc:c∈X.fs
  .obtain ⟨sl,q⟩:=slot c o (I.cne x c e) hc nch ho (I.freeC x c e)
   exact ⟨_,q,hd⟩
  .exact ⟨o,keep c o (I.cne x c e) hc nch ho (I.freeC x c e),hd⟩
 refine ⟨I.ok,I.os,hg,⟨λb o e n hb hx => ?_,λb o e n hb hx => ?_,λb o e n hx => ?_,λb o e hx => ?_,λb xs e=>tups b xs (I.base.tups b xs e),λb o xs e=>frzs b o xs (I.base.frzs b o xs e),λb ps e => ?_⟩,?_,λx c e => ?_,?_,λx c e => ?_,λp hp => ?_,hok,I.len⟩
 .exact keep b o (neL b o e) hb (neC b o e hx) (I.base.keep b o e n hb hx) (I.base.free b o e n hx)
 .obtain ⟨sl,e1⟩:=I.base.slot b o e n hb hx
  obtain ⟨sl',e2⟩:=slot b _ (neL b o e) hb (neC b o e hx) e1 (I.base.free b o e n hx);exact ⟨sl',e2⟩
 .obtain ⟨o',e1⟩:=I.base.there b o e hx
  exact free b o' (neC b o e hx) e1 (I.base.free b o e n hx)
 .obtain ⟨o',e1⟩:=I.base.there b o e hx
  exact there b o' (neC b o e hx) e1
 .obtain ⟨m1,e1⟩:=I.base.tbls b ps e
  obtain ⟨m2,e2⟩:=tbls b _ e1;exact ⟨m1++m2,by rw [e2,Array.append_assoc]⟩
 .obtain ⟨m,hn,hl⟩:=I.loc
  refine ⟨m,ns m hn,λi x v e1 e2 e3 => ?_⟩;obtain ⟨u,r,l⟩:=hl i x v e1 e2 e3;refine ⟨u,r,?_⟩;rcases l with l | ⟨k,c,e,z⟩
  .exact .inl l
  .exact .inr ⟨k,c,e,cellK x c e _ z⟩
 .obtain ⟨v,z⟩:=I.cell x c e
  exact ⟨v,cellK x c e v z⟩
 .obtain ⟨m,⟨o,_,_,ho,_⟩,_⟩:=I.loc
  exact free _ o (λz=>(hch _ z).2.1 rfl) ho I.free
 .obtain ⟨v,o,ho,hd⟩:=I.cell x c e
  exact free c o (λz=>(hch c z).2.2.1 x c e rfl) ho (I.freeC x c e)
 .obtain ⟨e,n,ne,nf,d⟩:=I.pin p hp
  have nch:p.1 ∉ ch:=λz=>(hch p.1 z).2.2.2 p hp rfl;exact ⟨keep p.1 p.2 ne nf nch e n,free p.1 p.2 nch e n,ne,nf,d⟩
theorem Inv.un{t':Nat}(I:Inv X pins σ H s)(u:Un X.fs [] H H' s.heap h')(hok:HOk X.prog X.w H' h'):Inv X pins σ H' { s with heap:=h',toks:=t' }:=by
 obtain ⟨m,⟨o,es,ep,ho,r⟩,_⟩:=id I.loc;obtain ⟨sl,hL⟩:=u.any ho I.free (by simp)
 exact I.step (g':=s.gens) (d':=s.drawn) (ch:=[]) (λ_ z=>nomatch z) (λb o _ hb _ e n=>u.keep b o e n hb (by simp)) (λb o _ hb _ e n=>u.slot b o e n hb (by simp)) (λb o _ e n=>u.free b o e n (by simp)) (λb o _ e=>u.there b o e (by simp)) u.tups u.frzs u.tbls (λm' hm=>by
  obtain ⟨o',es',ep',ho',r'⟩:=hm;rw [ho] at ho';cases ho';exact ⟨_,es',ep',hL,r'⟩) hok I.bare
theorem Inv.call{g':Array GenState}{t':Nat}{d':Drawn}{ch:List Addr}(I:Inv X pins σ H s)(u:Un (frs X.stack) ch H H' s.heap h')(hok:HOk X.prog X.w H' h')(hg:AllBare g')
  (hch:∀ b∈ch,(b∈X.ex\/X.s₀.heap.objs.size<=b)/\b≠X.env.locals/\(∀ x c,X.env.cells.lookup x=some c->c≠b) /\ ∀ p∈X.pn++pins,p.1≠b) :
  Inv X pins σ H' { s with heap:=h',gens:=g',drawn:=d',toks:=t' }:=by
 obtain ⟨m,⟨o,es,ep,ho,r⟩,_⟩:=id I.loc;obtain ⟨sl,hL⟩:=u.any ho I.free λz=>(hch _ z).2.1 rfl
 exact I.step (ch:=ch) hch (λb o hL hb hc e n=>u.keep b o e n (λz=>(List.mem_cons.mp (I.stkSub b z)).elim hL hb) hc) (λb o _ _ hc e n=>u.any e n hc) (λb o hc e n=>u.free b o e n hc) (λb o hc e=>u.there b o e hc) u.tups u.frzs u.tbls (λm' hm=>by
  obtain ⟨o',es',ep',ho',r'⟩:=hm;rw [ho] at ho';cases ho';exact ⟨_,es',ep',hL,r'⟩) hok hg
theorem Inv.turned{t':Nat}{it:Addr}(I:Inv X pins σ H s)(k:∀ b o,b≠it->s.heap.get? b=some o->h'.get? b=some o)(hn:H it=none)(hL:it≠X.env.locals)
  (h1:it∈X.ex\/X.s₀.heap.objs.size<=it) (h2:∀ x c,X.env.cells.lookup x=some c->c≠it) (h3:∀ p∈X.pn++pins,p.1≠it):Inv X pins σ H { s with heap:=h',toks:=t' }:=by
 have nit:∀ b u,H b=some u->b≠it:=λb u e z=>by rw [z,hn] at e;cases e
 refine I.step (g':=s.gens) (d':=s.drawn) (ch:=[it]) (λb hb => ?_) (λb o _ _ hc e _=>k b o (λz=>hc (by simp [z])) e) (λb o _ _ hc e _=>⟨o.slots,k b o (λz=>hc (by simp [z])) e⟩) (λ_ _ _ _ n=>n)
  (λb o hc e=>⟨o,k b o (λz=>hc (by simp [z])) e⟩) (λ_ _ e=>e) (λ_ _ _ e=>e) (λb ps e=>⟨#[],by rw [e];simp⟩) (λm hm => ?_) (λb u e => ?_) I.bare
 .have e:b=it:=by simpa using hb
  subst e;exact ⟨h1,hL,h2,h3⟩
 .obtain ⟨o,es,ep,ho,r⟩:=hm
  exact ⟨o,es,ep,k _ o (Ne.symm hL) ho,r⟩
 .refine (I.hok b u e).stay (λc v hc q=>k c v ?_ q) (λ_ q=>q) λ_ _ q=>q
  rcases hc with z | z
  .rw [z];exact nit b u e
  .exact nit c _ z
theorem Inv.tok(I:Inv X pins σ H s)(t:Nat):Inv X pins σ H { s with toks:=t }:=I.un (h':=s.heap) (t':=t) Un.refl I.hok
theorem Inv.kept{t':Nat}(I:Inv X pins σ H s)(k:∀ b u,s.heap.get? b=some u->h'.get? b=some u):Inv X pins σ H { s with heap:=h',toks:=t' }:=I.un (Un.kept k) (I.hok.kept k)
theorem Inv.laid{a:Addr}{o:HO}{t':Nat}(I:Inv X pins σ H s)(k:∀ b u,s.heap.get? b=some u->h'.get? b=some u)(hp:s.heap.objs.size<=a)(new:ObjOk X.prog X.w (upd H a o) h' a o):
  Inv X pins σ (upd H a o) { s with heap:=h',toks:=t' }:=I.un (Un.laid k hp (I.hok.fresh hp)) (I.hok.laid k hp new)
theorem Inv.write{x e:Addr}{o:HO}{t':Nat}(I:Inv X pins σ H s)(mu:Mut (H x))(he:e=x\/H e=some (.own x))(k:∀ b u,b≠e->s.heap.get? b=some u->h'.get? b=some u)(heo:∃ u,h'.get? e=some u)
  (new:ObjOk X.prog X.w (upd H x o) h' x o):Inv X pins σ (upd H x o) { s with heap:=h',toks:=t' }:=I.un (Un.write mu he k heo) (I.hok.write mu he k heo new)
theorem Inv.pins_of{pins':List (Addr×Obj)}(I:Inv X pins σ H s)(h:∀ p∈pins',s.heap.get? p.1=some p.2/\H p.1=none/\p.1≠X.env.locals/\p.1 ∉ X.fs /\ ∀ v,p.2.data ≠ .cell v):Inv X pins' σ H s :=
 ⟨I.ok,I.os,I.bare,I.base,I.loc,I.cell,I.free,I.freeC,λp hp=>(List.mem_append.mp hp).elim (λz=>I.pin p (List.mem_append_left _ z)) (h p),I.hok,I.len⟩
theorem nZ{N:List Str}(hN:N.Nodup){i j:Nat}{x:Str}(a:N[i]? = some x)(b:N[j]? = some x):i=j:=by
 obtain ⟨h1,e1⟩:=List.getElem?_eq_some_iff.mp a;obtain ⟨h2,e2⟩:=List.getElem?_eq_some_iff.mp b;exact (List.getElem_inj hN).mp (e1.trans e2.symm)
theorem m9{M:Model}{A:Around}{E:Value->Shared->Prop}{i:Nat}{x:Str}{v:V}{u:Value}{Q:Unit->Shared->Prop}(I:Inv X pins σ H s)(hN:X.N.Nodup)(hi:X.N[i]? = some x)(hx:Loc X.env.scope x)(r:RelV v u)
  (h:∀ s',Inv X pins (σ.set i (some v)) H s'->(∃ a,Heap.SameBut a s.heap s'.heap/\(a=X.env.locals\/X.env.cells.lookup x=some a))->Q () s') (hf:X.fn x=true\/X.env.scope.names.lookup x=some .local:=by first | exact .inl rfl | exact .inr rfl | assumption):wpAny M A (storeName X.env x u) Q E s:=by
 obtain ⟨m,hn,hl⟩:=id I.loc;have hcls:(X.env.scope.kind == .class || (X.env.scope.kind == .module && X.env.locals != X.env.globals))=false:=by rw [I.ok.kind];rfl
 have hiσ:i < σ.length:=by rw [I.len];exact (List.getElem?_eq_some_iff.mp hi).1
 have cne:=I.cne;have tracked:∀ {a:Addr} {h':Heap},(∃ o,s.heap.get? a=some o/\H a=none)->Heap.SameBut a s.heap h'->HOk X.prog X.w H h':=λ{a h'} ha hs b ob e=>by
  obtain ⟨_,_,hfree⟩:=ha;refine (I.hok b ob e).stay (λc w' hc q=>(hs.2 c ?_).trans q) (λ_ q=>q) λ_ _ q=>q;rintro rfl;rcases hc with rfl | hc
  .rw [hfree] at e;cases e
  .rw [hfree] at hc;cases hc
 rcases hx with hk | hk
 .refine wpAny_storeName_local hk hn (λh' hn' hs => ?_) hcls
  obtain ⟨oL,_,_,hoL,_⟩:=id hn;refine h _ ⟨I.ok,I.os,I.bare,⟨λb o e n hb hx => ?_,λb o e n hb hx => ?_,I.base.free,λb o e hx => ?_,I.base.tups,I.base.frzs,I.base.tbls⟩,⟨_,hn',λj y v' e1 e2 e3 => ?_⟩,λy c e => ?_,I.free,I.freeC,λp hp => ?_,tracked ⟨oL,hoL,I.free⟩ hs,by simpa using I.len⟩ ⟨_,hs,.inl rfl⟩
  .exact (hs.2 b (GD (GC (Gx e) I.ok.above))).trans (I.base.keep b o e n hb hx)
  .obtain ⟨sl,e1⟩:=I.base.slot b o e n hb hx
   exact ⟨sl,(hs.2 b (GD (GC (Gx e) I.ok.above))).trans e1⟩
  .obtain ⟨o',e1⟩:=I.base.there b o e hx
   exact ⟨o',(hs.2 b (GD (GC (Gx e) I.ok.above))).trans e1⟩
  .by_cases hj:j=i
   .subst hj
    rw [hi] at e1;cases e1;rw [List.getElem?_set_self hiσ] at e2;cases e2;exact ⟨u,r,.inl ⟨hk,by simp⟩⟩
   .rw [List.getElem?_set_ne (Ne.symm hj)] at e2
    obtain ⟨u',r',q⟩:=hl j y v' e1 e2 e3;refine ⟨u',r',?_⟩;rcases q with ⟨k,e⟩ | ⟨k,c,e,z⟩
    .refine .inl ⟨k,?_⟩
     have:y≠x:=λe=>hj (nZ hN e1 (e ▸ hi));simp [this,e]
    .exact .inr ⟨k,c,e,z.sameBut hs (cne y c e)⟩
  .obtain ⟨w',z⟩:=I.cell y c e
   exact ⟨w',z.sameBut hs (cne y c e)⟩
  .obtain ⟨e,n,ne,nf,d⟩:=I.pin p hp
   exact ⟨(hs.2 p.1 ne).trans e,n,ne,nf,d⟩
 .have hfn:X.fn x=true:=by
   rcases hf with z | z
   .exact z
   .rw [z] at hk;cases hk
  obtain ⟨c,hc⟩:=I.ok.has x (.inl hk);obtain ⟨w',z⟩:=I.cell x c hc;refine wpAny_storeName_cell I.ok.kind hk hc z (λh' hc' hs => ?_);obtain ⟨oc,hoc,hocd⟩:=id z;refine h { s with heap:=h' } ⟨I.ok,I.os,I.bare,⟨λb o e n hb hx => ?_,λb o e n hb hx => ?_,I.base.free,λb o e hx => ?_,I.base.tups,I.base.frzs,I.base.tbls⟩,⟨m,hn.sameBut hs (Ne.symm (cne x c hc)),λj y v' e1 e2 e3 => ?_⟩,λy c' e => ?_,I.free,I.freeC,λp hp => ?_,tracked ⟨oc,hoc,I.freeC x c hc⟩ hs,by simpa using I.len⟩ ⟨c,hs,.inr hc⟩
  .exact (hs.2 b (GD (GC (Gx e) (I.ok.cab x c hfn hc)))).trans (I.base.keep b o e n hb hx)
  .obtain ⟨sl,e1⟩:=I.base.slot b o e n hb hx
   exact ⟨sl,(hs.2 b (GD (GC (Gx e) (I.ok.cab x c hfn hc)))).trans e1⟩
  .obtain ⟨o',e1⟩:=I.base.there b o e hx
   exact ⟨o',(hs.2 b (GD (GC (Gx e) (I.ok.cab x c hfn hc)))).trans e1⟩
  .by_cases hj:j=i
   .subst hj
    rw [hi] at e1;cases e1;rw [List.getElem?_set_self hiσ] at e2;cases e2;exact ⟨u,r,.inr ⟨.inl hk,c,hc,hc'⟩⟩
   .rw [List.getElem?_set_ne (Ne.symm hj)] at e2
    obtain ⟨u',r',q⟩:=hl j y v' e1 e2 e3;refine ⟨u',r',?_⟩;rcases q with q | ⟨k,c',e,z'⟩
    .exact .inl q
    .refine .inr ⟨k,c',e,z'.sameBut hs ?_⟩
     rintro rfl;exact hj (nZ hN e1 (I.ok.inj _ _ _ e hc ▸ hi))
  .by_cases hcc:c'=c
   .subst hcc;exact ⟨_,hc'⟩
   .obtain ⟨w2,z2⟩:=I.cell y c' e
    exact ⟨w2,z2.sameBut hs hcc⟩
  .obtain ⟨e,n,ne,nf,d⟩:=I.pin p hp
   refine ⟨(hs.2 p.1 ?_).trans e,n,ne,nf,d⟩;intro q;rw [q,hoc] at e;have q':oc=p.2:=Option.some.inj e;exact d w' (by rw [<-q'];exact hocd)
theorem oO{M:Model}{A:Around}{E:Value->Shared->Prop}{i:Nat}{x:Str}{v:V}{u:Value}{Q:Unit->Shared->Prop}(I:Inv X pins σ H s)(hN:X.N.Nodup)(hi:X.N[i]? = some x)(hx:Loc X.env.scope x)(r:RelV v u)
  (h:∀ s',Inv X pins (σ.set i (some v)) H s'->Q () s') (hf:X.fn x=true\/X.env.scope.names.lookup x=some .local:=by first | exact .inl rfl | exact .inr rfl | assumption):wpAny M A (storeName X.env x u) Q E s :=
 m9 I hN hi hx r (λs' I' _=>h s' I') hf
theorem Inv.call'{s':Shared}{ch:List Addr}(I:Inv X pins σ H s)(ho:s'.os=s.os)(u:Un (frs X.stack) ch H H' s.heap s'.heap)(hok:HOk X.prog X.w H' s'.heap)(hg:AllBare s'.gens)
  (hch:∀ b∈ch,(b∈X.ex\/X.s₀.heap.objs.size<=b)/\b≠X.env.locals/\(∀ x c,X.env.cells.lookup x=some c->c≠b) /\ ∀ p∈X.pn++pins,p.1≠b):Inv X pins σ H' s':=by
 obtain ⟨h',g',d',t',o'⟩:=s';have e:o'=s.os:=ho;subst e;exact I.call (g':=g') (t':=t') (d':=d') u hok hg hch
end
noncomputable abbrev XK:=Value->Option Addr->Hp->Prop
noncomputable abbrev St:=List (Option V)
noncomputable abbrev VK:=V->Hp->Prop
noncomputable abbrev TE:=St->Hp->VK->Prop
noncomputable abbrev TT:=St->Hp->(Bool->Hp->Prop)->Prop
noncomputable abbrev TA:=St->Hp->(List V->Hp->Prop)->Prop
set_option genInjectivity false in
structure Ends where
 nx:St->Hp->Prop
 rt:VK
 bk:St->Hp->Prop:=λ_ _=>False
 ct:St->Hp->Prop:=λ_ _=>False
noncomputable abbrev TS:=Ends->St->Hp->Prop
noncomputable def EP(X:Cx)(pins:List (Addr×Obj))(σ:St)(Q:VK)(u:Value)(s':Shared):Prop := ∃ v H',Inv X pins σ H' s'/\RelV v u/\Q v H'
noncomputable def TP(X:Cx)(pins:List (Addr×Obj))(σ:St)(Q:Bool->Hp->Prop)(b:Bool)(s':Shared):Prop := ∃ H',Inv X pins σ H' s'/\Q b H'
noncomputable def AP(X:Cx)(pins:List (Addr×Obj))(σ:St)(Q:List V->Hp->Prop)(us:List Value)(s':Shared):Prop := ∃ vs H',Inv X pins σ H' s'/\Vals vs us/\Q vs H'
noncomputable def SP(X:Cx)(pins:List (Addr×Obj))(D:Ends)(f:Flow)(s':Shared):Prop :=
 match f with
 | .next => ∃ σ' H',Inv X pins σ' H' s'/\D.nx σ' H'
 | .brk => ∃ σ' H',Inv X pins σ' H' s'/\D.bk σ' H'
 | .cont => ∃ σ' H',Inv X pins σ' H' s'/\D.ct σ' H'
 | .ret u => ∃ v σ' H',Inv X pins σ' H' s'/\RelV v u/\D.rt v H'
noncomputable def PE(X:Cx)(e:Expr)(t:TE):Prop :=
 ∀ (pins:List (Addr×Obj)) (s:Shared) (σ:St) (H:Hp) (Q:VK),Inv X pins σ H s->t σ H Q->wpAny (model X.prog X.w) X.A (eval e X.env) (EP X pins σ Q) X.xe s
noncomputable def PT(X:Cx)(e:Expr)(t:TT):Prop :=
 ∀ (pins:List (Addr×Obj)) (s:Shared) (σ:St) (H:Hp) (Q:Bool->Hp->Prop),Inv X pins σ H s->t σ H Q->wpAny (model X.prog X.w) X.A (isTrue e X.env (eval e X.env)) (TP X pins σ Q) X.xe s
noncomputable def PW(X:Cx)(e:Expr)(t:TT):Prop :=
 ∀ (whole:Sem Value) (pins:List (Addr×Obj)) (s:Shared) (σ:St) (H:Hp) (Q:Bool->Hp->Prop),Inv X pins σ H s->t σ H Q->wpAny (model X.prog X.w) X.A (isTrue e X.env whole) (TP X pins σ Q) X.xe s
theorem PW.pt{X:Cx}{e:Expr}{t:TT}(h:PW X e t):PT X e t:=h _
noncomputable def PA(X:Cx)(es:List Expr)(t:TA):Prop :=
 ∀ (pos:Pos) (pins:List (Addr×Obj)) (s:Shared) (σ:St) (H:Hp) (Q:List V->Hp->Prop),Inv X pins σ H s->t σ H Q->wpAny (model X.prog X.w) X.A (spliced (backTo pos (starEach es X.env))) (AP X pins σ Q) X.xe s
noncomputable def PS(X:Cx)(st:Stmt)(t:TS):Prop :=
 ∀ (pins:List (Addr×Obj)) (s:Shared) (σ:St) (H:Hp) (D:Ends),Inv X pins σ H s->t D σ H->wpAny (model X.prog X.w) X.A (exec st X.env) (SP X pins D) X.xe s
noncomputable def PSs(X:Cx)(st:List Stmt)(t:TS):Prop :=
 ∀ (pins:List (Addr×Obj)) (s:Shared) (σ:St) (H:Hp) (D:Ends),Inv X pins σ H s->t D σ H->wpAny (model X.prog X.w) X.A (execs st X.env) (SP X pins D) X.xe s
theorem thn{α:Type}{t:Sem α}{Q Q':α->Shared->Prop}{M:Model}{A:Around}{E:Value->Shared->Prop}{s:Shared}(h:wpAny M A t Q E s)(hQ:∀ a s,Q a s->Q' a s):wpAny M A t Q' E s:=wpAny_mono h hQ λ_ _ x=>x
end L2
namespace L2
open PySem PySem.Spec PyProof.Rows
section
variable{X:Cx}
noncomputable def FO(i:Nat):TE:=λσ H Q => ∃ v,σ[i]? = some (some v)/\Q v H
noncomputable def tC(v:V):TE:=λ_ H Q=>Q v H
theorem zS{i:Nat}{x:Str}{pos:Pos}(hN:X.N[i]? = some x)(hv:Vis X.env.scope x)(hd:(x == ("__debug__" : Str))=false:=by decide)(hcd:(x == ("__classdict__" : Str))=false:=by decide):PE X (.Name x pos) (FO i):=by
 intro pins s σ H Q I h;obtain ⟨v,e,h⟩:=h;obtain ⟨m,hn,hl⟩:=I.loc;obtain ⟨u,r,l⟩:=hl i x v hN e hv;have fin:EP X pins σ Q u s:=⟨v,H,I,r,h⟩;rcases l with ⟨hk,hm⟩ | ⟨hk,c,hc,hcell⟩
 .exact wpAny_Name (wpAny_loadName_local I.ok.kind hk hn hm fin) hd
 .rcases hk with hk | hk
  .exact wpAny_Name (wpAny_loadName_cell I.ok.kind hk hc hcell fin) hd
  .exact wpAny_Name (wpAny_loadName_free I.ok.kind hk hc hcell fin hcd) hd
theorem CO{i j pos}:PE X (.Constant (.int i) j pos) (tC (.int i)):=λ_ _ _ H _ I h=>wpAny_Constant_int ⟨.int i,H,I.tok _,⟨_,rfl⟩,h⟩
theorem C0{b j pos}:PE X (.Constant (.bool b) j pos) (tC (.bl b)):=λ_ _ _ H _ I h=>Constant_bool ⟨.bl b,H,I,rfl,h⟩
theorem Bz{j pos}:PE X (.Constant .none j pos) (tC .non):=λ_ _ _ H _ I h=>Constant_none ⟨.non,H,I,rfl,h⟩
theorem AA{x j pos}:PE X (.Constant (.str x) j pos) (tC (.str x)):=λ_ _ _ H _ I h=>Calls.Constant_str ⟨.str x,H,I.tok _,⟨_,rfl⟩,h⟩
noncomputable def Gl(X:Cx)(x:Str):Prop:=X.env.kindOf x=some .globalImplicit
theorem jG{E:Value->Shared->Prop}{pins:List (Addr×Obj)}{s:Shared}{σ:St}{H:Hp}{x:Str}{u:Value}{pos:Pos}{Q:Value->Shared->Prop}(I:Inv X pins σ H s)(hg:Gl X x)(hm:X.mg x=some u)(h:Q u s)
  (hd:(x == ("__debug__" : Str))=false:=by decide):wpAny (model X.prog X.w) X.A (eval (.Name x pos) X.env) Q E s :=
 Calls.Name_function_global I.ok.kind hg (Calls.loadGlobal_global (by rw [I.ok.glob];exact I.mod.glob.keeps I.bk) hm h) hd
theorem jH{E:Value->Shared->Prop}{pins:List (Addr×Obj)}{s:Shared}{σ:St}{H:Hp}{x:Str}{u:Value}{pos:Pos}{Q:Value->Shared->Prop}(I:Inv X pins σ H s)(hg:Gl X x)(hm:X.mg x=none)(hv:bootBuiltins x=some u)(h:Q u s)
  (hn:x ≠ "__name__" := by decide) (hd:(x == ("__debug__" : Str))=false:=by decide):wpAny (model X.prog X.w) X.A (eval (.Name x pos) X.env) Q E s:=by
 obtain ⟨mb,h1,h2⟩:=I.mod.blt;exact Calls.Name_function_global I.ok.kind hg (Calls.loadGlobal_builtin (by rw [I.ok.glob];exact I.mod.glob.keeps I.bk) hm (by rw [I.ok.blt];exact h1.keeps I.bk) ((h2 x hn).trans hv) h) hd
theorem ym{x:Str}{v:V}{u:Value}{pos:Pos}(hg:Gl X x)(hm:X.mg x=some u)(r:RelV v u)(hd:(x == ("__debug__" : Str))=false:=by decide):PE X (.Name x pos) (tC v) :=
 λ_ _ _ H _ I h=>jG I hg hm ⟨v,H,I,r,h⟩ hd
variable{a b:Expr}{ta tb:TE}{pos:Pos}
variable{tA tB':TT}{rest:List Expr}
noncomputable def FW(t u:TT):TT:=λσ H Q=>t σ H λc H1=>if c=true then u σ H1 Q else Q false H1
noncomputable def Gs(t:TT):TT:=λσ H Q=>t σ H λc H1=>Q (!c) H1
theorem yf(ha:PT X a tA):PW X (.BoolOp .And [a] pos) tA:=by
 intro wh pins s σ H Q I h;refine isTrue_and (thn (ha pins s σ H Q I h) λc s1 e => ?_);cases c with
 | true=>exact isTrue_and_nil e
 | false=>exact e
theorem zW(ha:PT X a tA):PW X (.BoolOp .Or [a] pos) tA:=by
 intro wh pins s σ H Q I h;refine isTrue_or (thn (ha pins s σ H Q I h) λc s1 e => ?_);cases c with
 | false=>exact isTrue_or_nil e
 | true=>exact e
theorem Aj(ha:PT X a tA)(hb:PW X (.BoolOp .And (b :: rest) pos) tB'):PW X (.BoolOp .And (a :: b :: rest) pos) (FW tA tB'):=by
 intro wh pins s σ H Q I h;refine isTrue_and (thn (ha pins s σ H _ I h) λc s1 ⟨H1,I1,q1⟩ => ?_);cases c with
 | true=>exact hb wh pins s1 σ H1 Q I1 q1
 | false=>exact ⟨H1,I1,q1⟩
theorem A0(ha:PT X a tA):PT X (.UnaryOp .Not a pos) (Gs tA):=by
 intro pins s σ H Q I h;exact isTrue_not (ha pins s σ H (λc H1=>Q (!c) H1) I h)
noncomputable def C5(ta tb:TE):TE:=λσ H Q=>ta σ H λx H1 => ∃ c,x=.bl c/\if c=true then tb σ H1 Q else Q (.bl false) H1
theorem Ar{op}{t:TE}(h:PE X a t):PE X (.BoolOp op [a] pos) t:=λpins s σ H Q I hw=>BoolOp_one (h pins s σ H Q I hw)
theorem BQ(ha:PE X a ta)(hb:PE X (.BoolOp .And (b :: rest) pos) tb):PE X (.BoolOp .And (a :: b :: rest) pos) (C5 ta tb):=by
 intro pins s σ H Q I h;refine BoolOp_and (thn (ha pins s σ H _ I h) λv s1 ⟨x,H1,I1,r1,q1⟩ => ?_);obtain ⟨c,rfl,q1⟩:=q1;cases r1;refine wpAny_truthy_bool ?_;cases c with
 | true=>exact hb pins s1 σ H1 Q I1 q1
 | false=>exact ⟨.bl false,H1,I1,rfl,q1⟩
end
end L2
namespace L2
open PySem PySem.Spec PyProof.Rows
noncomputable def SqL(K:GJ)(H:Hp)(a:Addr)(xs:List V):Prop :=
 Rd H a (.lst xs) \/
  ∃ (o:Obj) (its:Array Value) (n:Nat),K.lookup a=some o/\o.cls=.type "list" /\ o.dict=none/\o.data=.seq its n/\its.size<=sizeLine/\Vals xs its.toList
noncomputable def SqT(K:GJ)(H:Hp)(a:Addr)(xs:List V):Prop :=
 Rd H a (.tup xs) \/
  ∃ (o:Obj) (its:Array Value) (n:Nat),K.lookup a=some o/\o.cls=.type "tuple" /\ o.data=.seq its n/\its.size<=sizeLine/\Vals xs its.toList
noncomputable def F3:Value->Option V
 | .none=>some .non
 | .bool b=>some (.bl b)
 | .int i _=>some (.int i)
 | .str x _=>some (.str x)
 | .bytes b _=>some (.byt b)
 | .float b _=>some (.flt b)
 | .ref a=>some (.ref a)
 | .type n=>some (.ty n)
 | _=>none
theorem RelV.abs{x:V}{u:Value}(r:RelV x u):F3 u=some x:=by
 cases x with
 | non=>cases r;rfl
 | bl _=>cases r;rfl
 | int _=>obtain ⟨t,rfl⟩:=r;rfl
 | str _=>obtain ⟨t,rfl⟩:=r;rfl
 | byt _=>obtain ⟨t,rfl⟩:=r;rfl
 | flt _=>obtain ⟨t,rfl⟩:=r;rfl
 | ref _=>cases r;rfl
 | ty _=>cases r;rfl
theorem RelV.inj{x y:V}{u:Value}(r:RelV x u)(q:RelV y u):x=y:=Option.some.inj (r.abs.symm.trans q.abs)
theorem Vals.inj:∀ {xs ys:List V} {us:List Value},Vals xs us->Vals ys us->xs=ys
 | _,_,_,.nil,.nil=>rfl
 | _,_,_,.cons r t,.cons r' t'=>by rw [r.inj r',Vals.inj t t']
section
variable{X:Cx}{pins:List (Addr×Obj)}{σ:St}{H:Hp}{s:Shared}{a:Addr}{xs ys:List V}
theorem SqL.of{K:GJ}(h:H a=some (.lst xs)):SqL K H a xs := .inl (.inl h)
theorem SqT.of{K:GJ}(h:H a=some (.tup xs)):SqT K H a xs := .inl (.inl h)
theorem Inv.list(I:Inv X pins σ H s)(h:SqL X.K H a xs):∃ its:List Value,Vals xs its/\PlainL s.heap a its.toArray/\xs.length<=sizeLine:=by
 rcases h with h | ⟨o,its,n,hk,hc,hd,hs,hz,r⟩
 .obtain ⟨z,its,n,r,e⟩:=h.ok I.hok
  exact ⟨its,r,⟨_,n,e,rfl,rfl,rfl⟩,z⟩
 .refine ⟨its.toList,r,⟨o,n,I.kIn a o hk,hc,hd,by simpa using hs⟩,?_⟩
  have e:=r.length;simp only [Array.length_toList] at e;omega
theorem Inv.tuple(I:Inv X pins σ H s)(h:SqT X.K H a xs):∃ its:List Value,Vals xs its/\IsTup s.heap a its.toArray/\xs.length<=sizeLine:=by
 rcases h with h | ⟨o,its,n,hk,hc,hs,hz,r⟩
 .obtain ⟨z,its,r,p⟩:=h.ok I.hok
  exact ⟨its,r,p,z⟩
 .refine ⟨its.toList,r,⟨o,I.kIn a o hk,hc,n,by simpa using hs⟩,?_⟩
  have e:=r.length;simp only [Array.length_toList] at e;omega
theorem Inv.list_inj(I:Inv X pins σ H s)(h:SqL X.K H a xs)(h':SqL X.K H a ys):xs=ys:=by
 obtain ⟨its,r,⟨o,n,e,_,_,d⟩,_⟩:=I.list h;obtain ⟨its',r',⟨o',n',e',_,_,d'⟩,_⟩:=I.list h';rw [e] at e';cases e';rw [d] at d';injection d' with d1 _
 have:its=its':=by simpa using congrArg Array.toList d1
 subst this;exact r.inj r'
theorem Inv.tuple_inj(I:Inv X pins σ H s)(h:SqT X.K H a xs)(h':SqT X.K H a ys):xs=ys:=by
 obtain ⟨its,r,⟨o,e,_,n,d⟩,_⟩:=I.tuple h;obtain ⟨its',r',⟨o',e',_,n',d'⟩,_⟩:=I.tuple h';rw [e] at e';cases e';rw [d] at d';injection d' with d1 _
 have:its=its':=by simpa using congrArg Array.toList d1
 subst this;exact r.inj r'
end
noncomputable abbrev Cx.wish(X:Cx)(E:Value->Shared->Prop):Cx:={ X with xe:=E }
noncomputable abbrev Cx.nox(X:Cx):Cx:=X.wish λ_ _=>False
theorem Cx.Ok.wish{X:Cx}(ok:X.Ok)(E:Value->Shared->Prop):(X.wish E).Ok :=
 ⟨ok.mod,ok.kind,ok.glob,ok.blt,ok.above,ok.inj,ok.has,ok.cab,ok.hd,ok.frames,ok.stk,ok.exf,ok.bs,ok.bsz,ok.noex,ok.exfs,ok.funs,ok.frf⟩
theorem Cx.Ok.unwish{X:Cx}{E:Value->Shared->Prop}(ok:(X.wish E).Ok):X.Ok :=
 ⟨ok.mod,ok.kind,ok.glob,ok.blt,ok.above,ok.inj,ok.has,ok.cab,ok.hd,ok.frames,ok.stk,ok.exf,ok.bs,ok.bsz,ok.noex,ok.exfs,ok.funs,ok.frf⟩
section
variable{X:Cx}{pins:List (Addr×Obj)}{σ:St}{H:Hp}{s:Shared}{E:Value->Shared->Prop}
theorem Inv.wish(I:Inv X pins σ H s)(E:Value->Shared->Prop):Inv (X.wish E) pins σ H s:=⟨I.ok.wish E,I.os,I.bare,I.base,I.loc,I.cell,I.free,I.freeC,I.pin,I.hok,I.len⟩
theorem Inv.unwish(I:Inv (X.wish E) pins σ H s):Inv X pins σ H s:=⟨I.ok.unwish,I.os,I.bare,I.base,I.loc,I.cell,I.free,I.freeC,I.pin,I.hok,I.len⟩
theorem SP.unwish{D:Ends}{f:Flow}{s':Shared}(h:SP (X.wish E) pins D f s'):SP X pins D f s':=by
 cases f with
 | next=>obtain ⟨σ',H',I,q⟩:=h;exact ⟨σ',H',I.unwish,q⟩
 | brk=>obtain ⟨σ',H',I,q⟩:=h;exact ⟨σ',H',I.unwish,q⟩
 | cont=>obtain ⟨σ',H',I,q⟩:=h;exact ⟨σ',H',I.unwish,q⟩
 | ret u=>obtain ⟨v,σ',H',I,r,q⟩:=h;exact ⟨v,σ',H',I.unwish,r,q⟩
theorem PSs.nox{st:List Stmt}{t:TS}(h:PSs X.nox st t):PSs X st t:=λpins s σ H D I hw =>
 wpAny_mono (h pins s σ H D (I.wish _) hw) (λ_ _ q=>q.unwish) λ_ _ z=>False.elim z
end
section
variable{X:Cx}{st:Stmt}{rest:List Stmt}{t u:TS}{e:Expr}{te:TE}{pos:Pos}
noncomputable def Dk:TS:=λD σ H=>D.nx σ H
noncomputable def Gb(t u:TS):TS:=λD σ H=>t { D with nx:=u D } σ H
theorem xE:PSs X [] Dk:=λ_ _ σ H _ I h=>wpAny_execs_nil ⟨σ,H,I,h⟩
theorem wR(h1:PS X st t)(h2:PSs X rest u):PSs X (st :: rest) (Gb t u):=by
 intro pins s σ H D I h;refine wpAny_execs_cons (thn (h1 pins s σ H { D with nx:=u D } I h) λf s1 q => ?_)
 cases f with
 | next =>
  obtain ⟨σ',H',I',q⟩:=q;exact h2 pins s1 σ' H' D I' q
 | ret v=>exact q
 | brk=>exact q
 | cont=>exact q
theorem Inv.quiet{pins:List (Addr×Obj)}{σ:St}{H:Hp}{s:Shared}(I:Inv X pins σ H s):interactive X.env=false:=by simp [interactive,I.ok.kind]
noncomputable def Dl(te:TE):TS:=λD σ H=>te σ H λ_ H1=>D.nx σ H1
theorem yA(he:PE X e te)(hs:swapsWith e none pos.line X.env=pure false:=by rfl):PS X (.Expr e pos) (Dl te):=by
 intro pins s σ H D I h;exact wpAny_Expr_any (thn (he pins s σ H _ I h) λv s1 ⟨x,H1,I1,r1,q1⟩=>⟨σ,H1,I1,q1⟩) I.quiet hs
noncomputable def FZ(te:TE):TS:=λD σ H=>te σ H D.rt
theorem CG(he:PE X e te):PS X (.Return (some e) pos) (FZ te):=by
 intro pins s σ H D I h;exact wpAny_Return_some (thn (he pins s σ H _ I h) λv s1 ⟨x,H1,I1,r1,q1⟩=>⟨x,σ,H1,I1,r1,q1⟩)
noncomputable def Gr(c:TT)(t u:TS):TS:=λD σ H=>c σ H λb H1=>if b=true then t D σ H1 else u D σ H1
theorem E6{c:Expr}{a b:List Stmt}{tc:TT}(hc:PT X c tc)(ha:PSs X a t)(hb:PSs X b u):PS X (.If c a b pos) (Gr tc t u):=by
 intro pins s σ H D I h;refine wpAny_If (thn (hc pins s σ H _ I h) λd s1 ⟨H1,I1,q1⟩ => ?_);cases d with
 | true=>exact ha pins s1 σ H1 D I1 q1
 | false=>exact hb pins s1 σ H1 D I1 q1
end
noncomputable abbrev TG:=V->St->Hp->(St->Hp->Prop)->Prop
noncomputable abbrev TGs:=List V->St->Hp->(St->Hp->Prop)->Prop
noncomputable def PG(X:Cx)(target:Expr)(t:TG):Prop :=
 ∀ (pins:List (Addr×Obj)) (s:Shared) (σ:St) (H:Hp) (v:V) (u:Value) (Q:St->Hp->Prop),Inv X pins σ H s->RelV v u->t v σ H Q ->
  wpAny (model X.prog X.w) X.A (assign target X.env u) (λ_ s' => ∃ σ' H',Inv X pins σ' H' s'/\Q σ' H') X.xe s
noncomputable def PGs(X:Cx)(ts:List Expr)(t:TGs):Prop :=
 ∀ (pins:List (Addr×Obj)) (s:Shared) (σ:St) (H:Hp) (vs:List V) (us:List Value) (Q:St->Hp->Prop),Inv X pins σ H s->Vals vs us->t vs σ H Q ->
  wpAny (model X.prog X.w) X.A (assignInOrder ((assignEach ts X.env).map (·.2)) us) (λ_ s' => ∃ σ' H',Inv X pins σ' H' s'/\Q σ' H') X.xe s
noncomputable abbrev fW:=V->V->V->Hp->(Hp->Prop)->Prop
noncomputable def eD(X:Cx)(t:fW):Prop :=
 ∀ (pins:List (Addr×Obj)) (s:Shared) (σ:St) (H:Hp) (o i v:V) (ov iv u:Value) (Q:Hp->Prop),Inv X pins σ H s->RelV o ov->RelV i iv->RelV v u->t o i v H Q ->
  wpAny (model X.prog X.w) X.A (setItem ov iv u) (λ_ s' => ∃ H',Inv X pins σ H' s'/\Q H') X.xe s
section
variable{X:Cx}{pos:Pos}
noncomputable def se(i:Nat):TG:=λv σ H Q=>Q (σ.set i (some v)) H
theorem p9{i:Nat}{x:Str}(hN:X.N.Nodup)(hi:X.N[i]? = some x)(hx:Loc X.env.scope x)(hf:X.fn x=true\/X.env.scope.names.lookup x=some .local:=by first | exact .inl rfl | exact .inr rfl | assumption):PG X (.Name x pos) (se i):=by
 intro pins s σ H v u Q I r h;exact wpAny_assign_Name (oO I hN hi hx r (λs' I'=>⟨_,H,I',h⟩) hf)
noncomputable def FN:TGs:=λvs σ H Q=>vs=[]/\Q σ H
noncomputable def EB(t:TG)(u:TGs):TGs:=λvs σ H Q => ∃ v r,vs=v :: r/\t v σ H λσ' H'=>u r σ' H' Q
theorem yj:PGs X [] FN:=by
 intro pins s σ H vs us Q I r h;obtain ⟨e,h⟩:=h;subst e;cases r;exact assignInOrder_nil ⟨σ,H,I,h⟩
theorem wJ{e:Expr}{es:List Expr}{t:TG}{u:TGs}(h1:PG X e t)(h2:PGs X es u)
  (hs:(assignEach (e :: es) X.env).map (·.2)=assign e X.env :: (assignEach es X.env).map (·.2):=by rfl):PGs X (e :: es) (EB t u):=by
 intro pins s σ H vs us Q I r h;obtain ⟨v,vr,e1,h⟩:=h;subst e1;cases r with
 | cons r rr =>
  rw [hs];refine assignInOrder_cons (thn (h1 pins s σ H _ _ _ I r h) λ_ s1 ⟨σ1,H1,I1,q1⟩ => ?_);exact h2 pins s1 σ1 H1 _ _ Q I1 rr q1
noncomputable def Gi(K:GJ)(n:Nat)(t:TGs):TG:=λv σ H Q => ∃ a xs,v=.ref a/\SqT K H a xs/\xs.length=n/\t xs σ H Q
theorem CT{es:List Expr}{k:Nat}{t:TGs}{n:Nat}(hc:X.calm=true)(h:PGs X es t)
  (hn:(assignEach es X.env).length=n:=by rfl) (hst:(assignEach es X.env).findIdx? (·.1)=none:=by rfl):PG X (.Tuple es k pos) (Gi X.K n t):=by
 intro pins s σ H v u Q I r hw;obtain ⟨a,xs,e1,hq,hl,hw⟩:=hw;subst e1;cases r;obtain ⟨its,rv,ht,hz⟩:=I.tuple hq;refine assign_Tuple_tuple (I.ok.hd hc) ht (by simp [hn,<-hl,rv.length]) hst λh' hx => ?_
 have I1:Inv X pins σ H { s with heap:=h' }:=I.kept (t':=s.toks) λb o e=>hx b o (GD (Gx e)) e
 exact h pins _ σ H xs _ Q I1 (by simpa using rv) hw
noncomputable def FX(to ti:TE)(t:fW):TG:=λv σ H Q=>to σ H λo H1=>ti σ H1 λi H2=>t o i v H2 λH3=>Q σ H3
theorem AZ{o i:Expr}{to ti:TE}{t:fW}(ho:PE X o to)(hi:PE X i ti)(hs:eD X t)
  (ha:∀ v,assign (.Subscript o i pos) X.env v=(do
   let ov <- holding [v] (eval o X.env)
   let iv <- holding [v,ov] (eval i X.env)
   standAt pos
   holding [v,ov,iv] (setItem ov iv v)
   release [v,ov,iv] []):=by intro _;rfl):PG X (.Subscript o i pos) (FX to ti t):=by
 intro pins s σ H v u Q I r h;rw [ha];refine ZB (wpAny_holding (thn (ho pins s σ H _ I h) λov s1 ⟨x,H1,I1,r1,q1⟩ => ?_));refine ZB (wpAny_holding (thn (hi pins s1 σ H1 _ I1 q1) λiv s2 ⟨y,H2,I2,r2,q2⟩ => ?_));refine ZB (wpAny_standAt (ZB (wpAny_holding (thn (hs pins s2 σ H2 x y v ov iv u _ I2 r1 r2 r q2) λ_ s3 ⟨H3,I3,q3⟩ => ?_))));exact wpAny_release ⟨σ,H3,I3,q3⟩
noncomputable def sE(te:TE)(g:TG):TS:=λD σ H=>te σ H λx H1=>g x σ H1 D.nx
theorem qC{tg e:Expr}{te:TE}{g:TG}(he:PE X e te)(hg:PG X tg g)(hs:swapsWithSole [tg] e pos.line X.env=pure false:=by rfl)(hw:swappedStores [tg] e X.env=pure none:=by rfl)
  (h1:(assignEach [tg] X.env).map (·.2)=[assign tg X.env]:=by rfl):PS X (.Assign [tg] e pos) (sE te g):=by
 intro pins s σ H D I h;refine wpAny_Assign_stores (thn (he pins s σ H _ I h) λv s1 ⟨x,H1,I1,r1,q1⟩ => ?_) hs hw;rw [h1];exact thn (hg pins s1 σ H1 x v _ I1 r1 q1) λ_ s2 q=>q
theorem Af{i:Nat}{x:Str}{e:Expr}{te:TE}{pos':Pos}(hN:X.N.Nodup)(hi:X.N[i]? = some x)(hx:Loc X.env.scope x)(he:PE X e te)(hs:swapsWith e (some (.Name x pos')) pos.line X.env=pure false:=by rfl)(hf:X.fn x=true\/X.env.scope.names.lookup x=some .local:=by first | exact .inl rfl | exact .inr rfl | assumption):
  PS X (.Assign [.Name x pos'] e pos) (sE te (se i)):=by
 intro pins s σ H D I h;refine wpAny_Assign_Name (thn (he pins s σ H _ I h) λv s1 ⟨y,H1,I1,r1,q1⟩ => ?_) hs;exact oO I1 hN hi hx r1 (λs2 I2=>⟨_,H1,I2,q1⟩) hf
end
section
variable{X:Cx}{pos:Pos}
end
set_option genInjectivity false in
structure It where
 go:Nat->Hp->Prop
 yld:Nat->Hp->V->Hp->Prop
 stop:Nat->Hp->Prop
noncomputable def bf(X:Cx)(pins:List (Addr×Obj))(H:Hp)(b:Addr):Prop :=
 H b=none/\b≠X.env.locals/\b ∉ X.fs/\(b∈X.ex\/X.s₀.heap.objs.size<=b)/\(∀ x c,X.env.cells.lookup x=some c->c≠b) /\ ∀ p∈X.pn++pins,p.1≠b
theorem Inv.fpOk{X:Cx}{pins:List (Addr×Obj)}{σ:St}{H H':Hp}{s:Shared}{b:Addr}(I:Inv X pins σ H s)(hb:s.heap.objs.size<=b)(hn:H' b=none):bf X pins H' b:=by
 refine ⟨hn,Nat.ne_of_gt (GC I.lt hb),I.nofs hb,.inr (Gy I.sz hb),λx c e z => ?_,λp hp z => ?_⟩
 .obtain ⟨v,q⟩:=I.cell x c e
  exact absurd (GC q.lt (by rw [z];exact hb)) (Nat.lt_irrefl _)
 .exact absurd (GC (Gx (I.pin p hp).1) (by rw [z];exact hb)) (Nat.lt_irrefl _)
structure Turn(P:Program)(w:World)(K:GJ)(tg:Expr)(J:It)(fp:List Addr)(it:Addr)(tn:Nat->Heap->Prop):Prop where
 mem:it∈fp
 obj:∀ i h,tn i h -> ∀ b∈fp,∃ o,h.get? b=some o /\ ∀ v,o.data ≠ .cell v
 keep:∀ i h h',tn i h->(∀ b∈fp,∀ o,h.get? b=some o->h'.get? b=some o)->tn i h'
 item:∀ (X:Cx),X.prog=P->X.w=w->X.K=K->X.calm=true -> ∀ (i:Nat) (pins:List (Addr×Obj)) (s:Shared) (σ:St) (H:Hp) (E:Value->Shared->Prop),Inv X pins σ H s->(∀ b∈fp,bf X pins H b)->tn i s.heap->J.go i H ->
  wpAny (model P w) X.A (pyNext (.ref it)) (λr s1 => ∃ u,r=some u /\
   wpAny (model P w) X.A (letOwnedTupleGo tg (.ref it) u) (λ_ s2 => ∃ x H',Inv X pins σ H' s2/\RelV x u/\J.yld i H x H'/\tn (i+1) s2.heap /\ ∀ b∈fp,H' b=none) E s1) E s
 done:∀ (X:Cx),X.prog=P->X.w=w->X.K=K->X.calm=true -> ∀ (i:Nat) (pins:List (Addr×Obj)) (s:Shared) (σ:St) (H:Hp) (E:Value->Shared->Prop),Inv X pins σ H s->(∀ b∈fp,bf X pins H b)->tn i s.heap->J.stop i H ->
  wpAny (model P w) X.A (pyNext (.ref it)) (λr s1=>r=none/\Inv X pins σ H s1) E s
 self:∀ (A:Around) (i:Nat) (s:Shared) (Q:Value->Shared->Prop) (E:Value->Shared->Prop),tn i s.heap->Q (.ref it) s->wpAny (model P w) A (pyIter (.ref it)) Q E s
noncomputable abbrev TI:=St->Hp->(It->Hp->Prop)->Prop
noncomputable def PIE(X:Cx)(pins:List (Addr×Obj))(σ:St)(tg:Expr)(R:It->Hp->Prop)(itv:Value)(s2:Shared):Prop :=
 ∃ (it:Addr) (fp:List Addr) (tn:Nat->Heap->Prop) (J:It) (H':Hp),itv=.ref it/\Inv X pins σ H' s2/\Turn X.prog X.w X.K tg J fp it tn/\tn 0 s2.heap/\(∀ b∈fp,bf X pins H' b)/\R J H'
noncomputable def PI(X:Cx)(tg iter:Expr)(wi:TI):Prop :=
 ∀ (pins:List (Addr×Obj)) (s:Shared) (σ:St) (H:Hp) (R:It->Hp->Prop),Inv X pins σ H s->wi σ H R ->
  wpAny (model X.prog X.w) X.A (eval iter X.env) (λv s1=>wpAny (model X.prog X.w) X.A (pyIter v) (PIE X pins σ tg R) X.xe s1) X.xe s
theorem ir{M:Model}{A:Around}{E:Value->Shared->Prop}{s:Shared}{tg:Expr}{it:Addr}{u:Value}{o:Obj}{n:String}{vs:Array Value}{Q:Unit->Shared->Prop}(ho:s.heap.get? it=some o)(hc:o.cls=.type n)(hd:o.data=.fields vs)
    (hn:["enumerate","zip","dict_itemiterator","dict_reverseitemiterator","odict_iterator","itertools.zip_longest","itertools.pairwise"].contains n=false) (hQ:Q () s):wpAny M A (letOwnedTupleGo tg (.ref it) u) Q E s:=by
  unfold letOwnedTupleGo;cases tg <;> first
    | exact ZP hQ
    | (cases u <;> first
        | exact ZP hQ
        | (refine ZB (wpAny_load ho ?_)
           rw [hc,hd];show wpAny M A (if (["enumerate","zip","dict_itemiterator","dict_reverseitemiterator","odict_iterator","itertools.zip_longest","itertools.pairwise"].contains n && vs[0]? == some (rawInt _))=true then _ else _) Q E s
           rw [if_neg (by intro h;rw [hn,Bool.false_and] at h;cases h)]
           exact ZP hQ))
noncomputable def Itl(K:GJ)(a:Addr):It :=
 ⟨λi H => ∃ xs x,SqL K H a xs/\xs[i]? = some x,λi H x H'=>H'=H /\ ∀ xs,SqL K H a xs->xs[i]? = some x,λi H => ∃ xs,SqL K H a xs/\xs.length<=i⟩
noncomputable def Itt(K:GJ)(a:Addr):It :=
 ⟨λi H => ∃ xs x,SqT K H a xs/\xs[i]? = some x,λi H x H'=>H'=H /\ ∀ xs,SqT K H a xs->xs[i]? = some x,λi H => ∃ xs,SqT K H a xs/\xs.length<=i⟩
noncomputable def Itr(lo:Int)(n:Nat):It:=⟨λi _=>i < n,λi H x H'=>H'=H/\x=.int (lo+i),λi _=>n<=i⟩
theorem vb{P:Program}{w:World}{K:GJ}{tg:Expr}(a it:Addr):Turn P w K tg (Itl K a) [it] it (λi h=>h.IsListIter it a i) where
 mem:=by simp
 obj:=λi h st b hb=>by
  have e:b=it:=by simpa using hb
  subst e;obtain ⟨o,e,c,d⟩:=st;exact ⟨o,e,λv z=>by rw [d] at z;cases z⟩
 keep:=λi h h' st k=>st.at λo e=>k it (by simp) o e
 item:=by
  intro X hP hw hK hc i pins s σ H E I hf st hg;subst hP hw hK;obtain ⟨xs,x,hq,hx⟩:=hg;obtain ⟨its,rv,p,hz⟩:=I.list hq;obtain ⟨u,hu,ru⟩:=rv.get hx;obtain ⟨f0,f1,f2,f3,f4,f5⟩:=hf it (by simp)
  refine wpAny_pyNext_list_item st p.isList (x:=u) (by simpa using hu) λh' st' sb => ?_
  have I1:Inv X pins σ H { s with heap:=h' }:=I.turned (t':=s.toks) (λb o hb e=>(sb.2 b hb).trans e) f0 f1 f3 f4 f5
  obtain ⟨o,e,c,d⟩:=id st';exact ⟨u,rfl,ir (s:={ s with heap:=h' }) e c d (by decide) ⟨x,H,I1,ru,⟨rfl,λys hy=>by rw [I.list_inj hy hq];exact hx⟩,st',λb hb=>(hf b hb).1⟩⟩
 done:=by
  intro X hP hw hK hc i pins s σ H E I hf st hg;subst hP hw hK;obtain ⟨xs,hq,hx⟩:=hg;obtain ⟨its,rv,p,hz⟩:=I.list hq;obtain ⟨f0,f1,f2,f3,f4,f5⟩:=hf it (by simp)
  have hl:=rv.length;exact wpAny_pyNext_list_end (I.ok.hd hc) st p.isList (by simp;omega) λh' eb=>⟨rfl,I.turned (t':=s.toks) (λb o hb e=>eb b o hb e) f0 f1 f3 f4 f5⟩
 self:=λ_ _ _ _ _ st h=>wpAny_pyIter_listiter st h
theorem uQ{P:Program}{w:World}{K:GJ}{tg:Expr}(a it:Addr):Turn P w K tg (Itt K a) [it] it (λi h=>h.IsTupleIter it a i) where
 mem:=by simp
 obj:=λi h st b hb=>by
  have e:b=it:=by simpa using hb
  subst e;obtain ⟨o,e,c,d⟩:=st;exact ⟨o,e,λv z=>by rw [d] at z;cases z⟩
 keep:=λi h h' st k=>st.at λo e=>k it (by simp) o e
 item:=by
  intro X hP hw hK hc i pins s σ H E I hf st hg;subst hP hw hK;obtain ⟨xs,x,hq,hx⟩:=hg;obtain ⟨its,rv,p,hz⟩:=I.tuple hq;obtain ⟨u,hu,ru⟩:=rv.get hx;obtain ⟨f0,f1,f2,f3,f4,f5⟩:=hf it (by simp)
  refine wpAny_pyNext_tuple_item st (show s.heap.IsTuple a its.toArray from p) (x:=u) (by simpa using hu) λh' st' sb => ?_
  have I1:Inv X pins σ H { s with heap:=h' }:=I.turned (t':=s.toks) (λb o hb e=>(sb.2 b hb).trans e) f0 f1 f3 f4 f5
  obtain ⟨o,e,c,d⟩:=id st';exact ⟨u,rfl,ir (s:={ s with heap:=h' }) e c d (by decide) ⟨x,H,I1,ru,⟨rfl,λys hy=>by rw [I.tuple_inj hy hq];exact hx⟩,st',λb hb=>(hf b hb).1⟩⟩
 done:=by
  intro X hP hw hK hc i pins s σ H E I hf st hg;subst hP hw hK;obtain ⟨xs,hq,hx⟩:=hg;obtain ⟨its,rv,p,hz⟩:=I.tuple hq;obtain ⟨f0,f1,f2,f3,f4,f5⟩:=hf it (by simp)
  have hl:=rv.length;exact wpAny_pyNext_tuple_end (I.ok.hd hc) st (show s.heap.IsTuple a its.toArray from p) (by simp;omega) λh' eb=>⟨rfl,I.turned (t':=s.toks) (λb o hb e=>eb b o hb e) f0 f1 f3 f4 f5⟩
 self:=λ_ _ _ _ _ st h=>wpAny_pyIter_tupleiter st h
theorem uC{P:Program}{w:World}{K:GJ}{tg:Expr}(it:Addr)(lo:Int)(n:Nat):Turn P w K tg (Itr lo n) [it] it (λi h=>IsRangeIter h it (lo+(i:Nat)*1) ((n:Int) - (i:Nat)) 1) where
 mem:=by simp
 obj:=λi h st b hb=>by
  have e:b=it:=by simpa using hb
  subst e
  exact ⟨_,st,λv z=>by
   have z':Data.fields _=Data.cell v:=z;cases z'⟩
 keep:=λi h h' st k=>k it (by simp) _ st
 item:=by
  intro X hP hw hK hc i pins s σ H E I hf st hg;subst hP hw hK;obtain ⟨f0,f1,f2,f3,f4,f5⟩:=hf it (by simp)
  have W:=Walks.range (prog:=X.prog) (w:=X.w) (I.ok.hd hc) it lo 1 n;refine W.item i s _ _ hg st λv h' tk hv st' kk => ?_;obtain ⟨t,rfl⟩:=hv;have I1:Inv X pins σ H { s with heap:=h',toks:=tk }:=I.turned (λb o hb e=>kk b o (by simpa using hb) e) f0 f1 f3 f4 f5
  refine ⟨_,rfl,ir (s:={ s with heap:=h',toks:=tk }) (n := "range_iterator") st' rfl rfl (by decide) ⟨.int (lo+i),H,I1,⟨t,?_⟩,⟨rfl,rfl⟩,st',λb hb=>(hf b hb).1⟩⟩
  rw [Int.mul_one]
 done:=by
  intro X hP hw hK hc i pins s σ H E I hf st hg;subst hP hw hK;obtain ⟨f0,f1,f2,f3,f4,f5⟩:=hf it (by simp)
  exact wpAny_pyNext_range_end (I.ok.hd hc) st (by have:n<=i:=hg;omega) λh' eb=>⟨rfl,I.turned (t':=s.toks) (λb o hb e=>eb b o hb e) f0 f1 f3 f4 f5⟩
 self:=λ_ _ _ _ _ st h=>wpAny_pyIter_rangeiter st h
end L2
namespace L2
open PySem PySem.Spec PyProof.Rows
section
variable{X:Cx}{tg:Expr}
theorem wN{pins:List (Addr×Obj)}{σ:St}{H:Hp}{s:Shared}{R:It->Hp->Prop}{E:Value->Shared->Prop}{lo hi:Int}{t u v:Tok}{tk:Nat}(I:Inv X pins σ H s)(h1 : -(2 ^ 62)<=lo)(h2:lo < 2 ^ 62)(h3 : -(2 ^ 62)<=hi)(h4:hi < 2 ^ 62)
  (q:R (Itr lo (hi - lo).toNat) H):wpAny (model X.prog X.w) X.A (pyIter (.ref s.heap.objs.size)) (PIE X pins σ tg R) E { s with heap:=s.heap.push { cls := .type "range",data := .fields #[.int lo t,.int hi u,.int 1 v] },toks:=tk }:=by
 refine wpAny_pyIter_range (IsRange.new ..) (small_one h1 h2 h3 h4) ?_;have I1:Inv X pins σ H { s with heap:=s.heap.push { cls := .type "range",data := .fields #[.int lo t,.int hi u,.int 1 v] },toks:=tk }:=I.kept λb o e=>Gw _ e
 refine ⟨(s.heap.push { cls := .type "range",data := .fields #[.int lo t,.int hi u,.int 1 v] }).objs.size,[(s.heap.push { cls := .type "range",data := .fields #[.int lo t,.int hi u,.int 1 v] }).objs.size],_,_,H,rfl,
  I1.kept (t':=tk) λb o e=>Gw _ e,uC _ lo (hi - lo).toNat,?_,λb hb => ?_,q⟩
 .have e1:lo+((0:Nat):Int)*1=lo:=by simp
  have e2:(((hi - lo).toNat:Nat):Int) - ((0:Nat):Int)=Builtin.Range.rangeSize lo hi 1:=by rw [rangeSize_one];split <;> omega
  show IsRangeIter _ _ (lo+((0:Nat):Int)*1) ((((hi - lo).toNat:Nat):Int) - ((0:Nat):Int)) 1;rw [e1,e2];exact GF _ rfl
 .have e:b=(s.heap.push { cls := .type "range",data := .fields #[.int lo t,.int hi u,.int 1 v] }).objs.size:=by simpa using hb
  subst e;exact I1.fpOk (GA _) (I1.hok.fresh (GA _))
noncomputable def EU(ta:TA):TI:=λσ H R=>ta σ H λvs H1 => ∃ j:Int,vs=[.int j] /\ -(2 ^ 62)<=j/\j < 2 ^ 62/\R (Itr 0 j.toNat) H1
theorem vn{a:Expr}{ta:TA}{p pos:Pos}(hg:Gl X "range")(hm:X.mg "range" = none)(ha:PA X [a] ta)(hs:starEach [a] X.env=[(false,eval a X.env)]:=by rfl):PI X tg (.Call (.Name "range" p) [a] [] pos) (EU ta):=by
 intro pins s σ H R I h;refine Call_ (jH I hg hm boot_range (PyProof.Rows.callWith_type1 (thn (ha pos pins s σ H _ I h) λus s1 ⟨vs,H1,I1,r1,q1⟩ => ?_) hs rfl));obtain ⟨j,e,q1,q2,q⟩:=q1;subst e;cases r1 with
 | cons r rr =>
  cases rr;obtain ⟨t,rfl⟩:=r;exact call_range_1 (wN I1 (by omega) (by omega) q1 q2 (by simpa using q))
noncomputable def FQ(wi:TI)(g:TG)(tb:TS):TS:=λD σ H=>wi σ H λJ H1 => ∃ W:Nat->Nat->St->Hp->Prop,(∃ m,W 0 m σ H1) /\ ∀ i m σ H,W i m σ H ->
 (J.stop i H/\D.nx σ H)\/(J.go i H /\ ∃ N:St->Hp->Prop,(∀ σ' H',N σ' H' -> ∃ m',m' < m/\W (i+1) m' σ' H') /\ ∀ x H',J.yld i H x H'->g x σ H' λσ2 H2=>tb { D with nx:=N,ct:=N,bk:=D.nx } σ2 H2)
noncomputable def ft(fp:List Addr)(h:Heap):List (Addr×Obj):=fp.filterMap λb=>(h.get? b).map λo=>(b,o)
theorem f9{fp:List Addr}{h:Heap}{b:Addr}{o:Obj}(hb:b∈fp)(e:h.get? b=some o):(b,o)∈ft fp h:=List.mem_filterMap.mpr ⟨b,hb,by rw [e];rfl⟩
theorem vH{fp:List Addr}{h:Heap}{p:Addr×Obj}(hp:p∈ft fp h):p.1∈fp/\h.get? p.1=some p.2:=by
 obtain ⟨b,hb,e⟩:=List.mem_filterMap.mp hp;cases q:h.get? b with
 | none=>rw [q] at e;cases e
 | some o =>
  rw [q] at e;have e':(b,o)=p:=Option.some.inj e;subst e';exact ⟨hb,q⟩
theorem Inv.pinned{pins:List (Addr×Obj)}{σ:St}{H:Hp}{s:Shared}{fp:List Addr}(I:Inv X pins σ H s)(hf:∀ b∈fp,bf X pins H b)(ho:∀ b∈fp,∃ o,s.heap.get? b=some o /\ ∀ v,o.data ≠ .cell v):Inv X (pins++ft fp s.heap) σ H s :=
 I.pins_of λp hp=>(List.mem_append.mp hp).elim (λz=>I.pin p (List.mem_append_right _ z)) λz=>by
  obtain ⟨hb,e⟩:=vH z;obtain ⟨f0,f1,f2,_⟩:=hf p.1 hb;obtain ⟨o,e',d⟩:=ho p.1 hb;rw [e] at e';cases e';exact ⟨e,f0,f1,f2,d⟩
theorem Inv.unpinned{pins pl:List (Addr×Obj)}{σ:St}{H:Hp}{s:Shared}(I:Inv X (pins++pl) σ H s):Inv X pins σ H s:=I.pins_of λp hp=>I.pin p (List.mem_append_right _ (List.mem_append_left _ hp))
theorem zU{iter:Expr}{body:List Stmt}{wi:TI}{g:TG}{tb:TS}{pos:Pos}(hp:PassesOwn (model X.prog X.w) X.A X.env X.xe)(hc:X.calm=true)(hi:PI X tg iter wi)(hg:PG X tg g)(hb:PSs X body tb)
  (hs:∀ x,foldedSetIterable iter X.env x=pure x:=by intro _;rfl):PS X (.For tg iter body [] pos) (FQ wi g tb):=by
 intro pins s σ H D I h;refine wpAny_For (thn (hi pins s σ H _ I h) λv s1 h1=>thn h1 λitv s2 h2 => ?_) hs;obtain ⟨it,fp,tn,J,H2,e,I2,T,st2,f2,W,⟨m0,w0⟩,turn⟩:=h2;subst e;have stat:∀ {H':Hp},(∀ b∈fp,H' b=none) -> ∀ b∈fp,bf X pins H' b:=λhn b hb=>⟨hn b hb,(f2 b hb).2⟩;refine codeAny_forLoop_any (λn s' => ∃ i σ' H',Inv X pins σ' H' s'/\tn i s'.heap/\(∀ b∈fp,H' b=none)/\W i n σ' H') ?_ m0 ⟨0,σ,H2,I2,st2,λb hb=>(f2 b hb).1,w0⟩;rintro n s3 ⟨i,σ3,H3,I3,st3,fr3,w3⟩;rcases turn i n σ3 H3 w3 with ⟨stop,qn⟩ | ⟨go,N,hN,step⟩
 .refine wpAny_passesOwn hp (thn (T.done X rfl rfl rfl hc i pins s3 σ3 H3 X.xe I3 (stat fr3) st3 stop) λr s4 ⟨hr,I4⟩ => ?_)
  subst hr;exact wpAny_execs_nil ⟨σ3,H3,I4,qn⟩
 .refine wpAny_passesOwn hp (thn (T.item X rfl rfl rfl hc i pins s3 σ3 H3 X.xe I3 (stat fr3) st3 go) λr s4 ⟨u,hr,h4⟩ => ?_)
  subst hr;refine wpAny_passesOwn hp (thn h4 λ_ s5 ⟨x,H5,I5,r5,y5,st5,fr5⟩ => ?_);have I5':=I5.pinned (stat fr5) (T.obj _ _ st5);refine wpAny_passesOwn hp (thn (hg _ s5 σ3 H5 x u _ I5' r5 (step x H5 y5)) λ_ s6 ⟨σ6,H6,I6,q6⟩ => ?_);refine wpAny_passesOwn hp (thn (hb _ s6 σ6 H6 _ I6 q6) λf s7 q7 => ?_);have again:∀ {σ7:St} {H7:Hp},Inv X (pins++ft fp s5.heap) σ7 H7 s7->N σ7 H7 -> ∃ m,m < n /\ ∃ i σ' H',Inv X pins σ' H' s7/\tn i s7.heap/\(∀ b∈fp,H' b=none)/\W i m σ' H':=λ{σ7 H7} I7 n7=>by
   obtain ⟨m',hm,w7⟩:=hN σ7 H7 n7;refine ⟨m',hm,i+1,σ7,H7,I7.unpinned,T.keep _ _ _ st5 λb hb o e=>(I7.pin (b,o) (List.mem_append_right _ (List.mem_append_right _ (f9 hb e)))).1,λb hb => ?_,w7⟩;obtain ⟨o,e,d⟩:=T.obj _ _ st5 b hb;exact (I7.pin (b,o) (List.mem_append_right _ (List.mem_append_right _ (f9 hb e)))).2.1
  cases f with
  | next=>obtain ⟨σ7,H7,I7,n7⟩:=q7;exact again I7 n7
  | cont=>obtain ⟨σ7,H7,I7,n7⟩:=q7;exact again I7 n7
  | brk=>obtain ⟨σ7,H7,I7,q7⟩:=q7;exact ⟨σ7,H7,I7.unpinned,q7⟩
  | ret v=>obtain ⟨x7,σ7,H7,I7,r7,q7⟩:=q7;exact ⟨x7,σ7,H7,I7.unpinned,r7,q7⟩
end
end L2
namespace L2
open PySem PySem.Spec PyProof.Rows
noncomputable abbrev R2:=V->V->Hp->VK->Prop
noncomputable def OpR(X:Cx)(f:Value->Value->Sem Value)(r:R2):Prop :=
 ∀ (pins:List (Addr×Obj)) (s:Shared) (σ:St) (H:Hp) (x y:V) (v u:Value) (Q:VK),Inv X pins σ H s->RelV x v->RelV y u->r x y H Q ->
  wpAny (model X.prog X.w) X.A (f v u) (EP X pins σ Q) X.xe s
noncomputable def CallR(X:Cx)(f:Value)(r:List V->Hp->VK->Prop):Prop :=
 ∀ (pins:List (Addr×Obj)) (s:Shared) (σ:St) (H:Hp) (xs:List V) (us:List Value) (Q:VK),Inv X pins σ H s->Vals xs us->r xs H Q ->
  wpAny (model X.prog X.w) X.A (call f us) (EP X pins σ Q) X.xe s
noncomputable def F5(X:Cx)(r:V->Hp->(Bool->Hp->Prop)->Prop):Prop :=
 ∀ (pins:List (Addr×Obj)) (s:Shared) (σ:St) (H:Hp) (x:V) (v:Value) (Q:Bool->Hp->Prop),Inv X pins σ H s->RelV x v->r x H Q ->
  wpAny (model X.prog X.w) X.A (truthy v) (TP X pins σ Q) X.xe s
noncomputable def tOp(r:R2)(ta tb:TE):TE:=λσ H Q=>ta σ H λx H1=>tb σ H1 λy H2=>r x y H2 Q
noncomputable def rI(C:Int->Int->Prop)(g:Int->Int->V):R2:=λx y H Q => ∃ i j,x=.int i/\y=.int j/\C i j/\Q (g i j) H
noncomputable def rI0(g:Int->Int->V):R2:=λx y H Q => ∃ i j,x=.int i/\y=.int j/\Q (g i j) H
section
variable{X:Cx}{a b c:Expr}{ta tb tc:TE}{pos:Pos}
theorem lr(ha:PE X a ta)(hb:PE X b tb){pins:List (Addr×Obj)}{s:Shared}{σ:St}{H:Hp}{R:V->V->Hp->Prop}(I:Inv X pins σ H s)
  (h:ta σ H λx H1=>tb σ H1 λy H2=>R x y H2) {Q:Value->Shared->Prop} {f:Value->Value->Sem Value}
  (hf:∀ v u s2 x y H2,Inv X pins σ H2 s2->RelV x v->RelV y u->R x y H2->wpAny (model X.prog X.w) X.A (f v u) Q X.xe s2) :
  wpAny (model X.prog X.w) X.A (eval a X.env) (λv s₁ => wpAny (model X.prog X.w) X.A (eval b X.env) (λu s₂ => wpAny (model X.prog X.w) X.A (f v u) Q X.xe s₂) X.xe s₁) X.xe s:=by
 refine thn (ha pins s σ H _ I h) λv s1 ⟨x,H1,I1,r1,q1⟩ => ?_;refine thn (hb pins s1 σ H1 _ I1 q1) λu s2 ⟨y,H2,I2,r2,q2⟩ => ?_;exact hf v u s2 x y H2 I2 r1 r2 q2
theorem FG{op:Operator}{r:R2}(ho:OpR X (binaryOp op) r)(ha:PE X a ta)(hb:PE X b tb):PE X (.BinOp a op b pos) (tOp r ta tb):=by
 intro pins s σ H Q I h;exact wpAny_BinOp (lr ha hb I h λv u s2 x y H2 I2 rx ry q=>ho pins s2 σ H2 x y v u Q I2 rx ry q)
theorem opI{f:Value->Value->Sem Value}{C:Int->Int->Prop}{g:Int->Int->Int}
  (rule:∀ (i j:Int) (t u:Tok) (s:Shared) (Q:Value->Shared->Prop) (E:Value->Shared->Prop),C i j->Q (.int (g i j) s.toks) { s with toks:=s.toks+1 }->wpAny (model X.prog X.w) X.A (f (.int i t) (.int j u)) Q E s) :
  OpR X f (rI C λi j => .int (g i j)):=by
 intro pins s σ H x y v u Q I rx ry h;obtain ⟨i,j,rfl,rfl,hc,q⟩:=h;obtain ⟨t,rfl⟩:=rx;obtain ⟨t',rfl⟩:=ry;exact rule i j t t' s _ _ hc ⟨.int (g i j),H,I.tok _,⟨_,rfl⟩,q⟩
theorem sZ{f:Value->Value->Sem Value}{g:Int->Int->Int}
  (rule:∀ (i j:Int) (t u:Tok) (s:Shared) (Q:Value->Shared->Prop) (E:Value->Shared->Prop),Q (.int (g i j) s.toks) { s with toks:=s.toks+1 }->wpAny (model X.prog X.w) X.A (f (.int i t) (.int j u)) Q E s) :
  OpR X f (rI0 λi j => .int (g i j)):=by
 intro pins s σ H x y v u Q I rx ry h;obtain ⟨i,j,rfl,rfl,q⟩:=h;obtain ⟨t,rfl⟩:=rx;obtain ⟨t',rfl⟩:=ry;exact rule i j t t' s _ _ ⟨.int (g i j),H,I.tok _,⟨_,rfl⟩,q⟩
theorem iH{f:Value->Value->Sem Value}{g:Int->Int->Bool}
  (rule:∀ (i j:Int) (t u:Tok) (s:Shared) (Q:Value->Shared->Prop) (E:Value->Shared->Prop),Q (.bool (g i j)) s->wpAny (model X.prog X.w) X.A (f (.int i t) (.int j u)) Q E s) :
  OpR X f (rI0 λi j => .bl (g i j)):=by
 intro pins s σ H x y v u Q I rx ry h;obtain ⟨i,j,rfl,rfl,q⟩:=h;obtain ⟨t,rfl⟩:=rx;obtain ⟨t',rfl⟩:=ry;exact rule i j t t' s _ _ ⟨.bl (g i j),H,I,rfl,q⟩
noncomputable def tF(i j:Int):Prop:=0<=j/\j<=1000000/\i.natAbs < 2 ^ 64
noncomputable def CMul(i j:Int):Prop:=(-(2 ^ 64) < i/\i < 2 ^ 64)\/(-(2 ^ 64) < j/\j < 2 ^ 64)
theorem CMul.ok{i j:Int}(h:CMul i j):IntMulOk i j:=by
 rcases h with ⟨h1,h2⟩ | ⟨h1,h2⟩
 .exact .of_left (intBits_le_64 h1 h2)
 .exact .of_right (intBits_le_64 h1 h2)
theorem jL:OpR X (binaryOp .Add) (rI0 λi j => .int (i+j)):=sZ λ_ _ _ _ _ _ _ q=>add_int q
theorem jO:OpR X (binaryOp .Sub) (rI0 λi j => .int (i - j)):=sZ λ_ _ _ _ _ _ _ q=>sub_int q
theorem xt:OpR X (binaryOp .Mod) (rI (λ_ j=>j≠0) λi j => .int (i.fmod j)):=opI λ_ _ _ _ _ _ _ hc q=>mod_int' hc q
theorem Ag:OpR X (binaryOp .Pow) (rI tF λi j => .int (i ^ j.toNat)):=opI λ_ _ _ _ _ _ _ hc q=>pow_int_small hc.1 hc.2.1 hc.2.2 q
end
noncomputable def FU:V->V->Bool
 | .non,.non=>true | .non,.int _=>true | .int _,.non=>true | .non,.bl _=>true | .bl _,.non=>true | .non,.str _=>true | .str _,.non=>true
 | .int _,.int _=>true | .bl _,.bl _=>true | .str _,.str _=>true | .byt _,.byt _=>true
 | .int _,.str _=>true | .str _,.int _=>true | .bl _,.str _=>true | .str _,.bl _=>true
 | _,_=>false
noncomputable def rNe:R2:=λx y H Q=>FU x y=true/\Q (.bl (!decide (x=y))) H
theorem pW{i j:Int}:decide (V.int i=V.int j)=(i == j):=by
 rw [Bool.eq_iff_iff];simp
theorem qr{i j:Bool}:decide (V.bl i=V.bl j)=(i == j):=by
 rw [Bool.eq_iff_iff];simp
theorem qd{i j:Str}:decide (V.str i=V.str j)=(i == j):=by
 rw [Bool.eq_iff_iff];simp
theorem x8{i j:Array UInt8}:decide (V.byt i=V.byt j)=(i.toList == j.toList):=by
 rw [Bool.eq_iff_iff];cases i;cases j;simp
section
variable{X:Cx}{a b c:Expr}{ta tb tc:TE}{pos:Pos}
theorem aT{pins:List (Addr×Obj)}{σ:St}{H:Hp}{s:Shared}{Q:VK}{k k':Bool}(I:Inv X pins σ H s)(q:Q (.bl k) H)(e:k=k'):EP X pins σ Q (.bool k') s:=by
 subst e;exact ⟨.bl k,H,I,rfl,q⟩
theorem Ft:OpR X (compareOp .NotEq) rNe:=by
 intro pins s σ H x y v u Q I rx ry h;obtain ⟨hs,q⟩:=h;cases x with
 | non =>
  cases rx;cases y with
  | non=>cases ry;exact PySem.EqNone.ne_none_none (aT I q (by simp))
  | bl j=>cases ry;exact PySem.EqNone.ne_none_bool (aT I q (by simp))
  | int j=>obtain ⟨t',rfl⟩:=ry;exact PySem.EqNone.ne_none_int (aT I q (by simp))
  | str j=>obtain ⟨t',rfl⟩:=ry;exact PySem.EqNone.ne_none_str (aT I q (by simp))
  | _=>exact absurd (show false=true from hs) Gz
 | bl i =>
  cases rx;cases y with
  | non=>cases ry;exact PySem.EqNone.ne_bool_none (aT I q (by simp))
  | bl j=>cases ry;exact ne_bool (aT I q (congrArg not qr))
  | str j=>obtain ⟨t',rfl⟩:=ry;exact PySem.EqMixed.ne_bool_str (aT I q (by simp))
  | _=>exact absurd (show false=true from hs) Gz
 | int i =>
  obtain ⟨t,rfl⟩:=rx;cases y with
  | non=>cases ry;exact PySem.EqNone.ne_int_none (aT I q (by simp))
  | int j=>obtain ⟨t',rfl⟩:=ry;exact ne_int (aT I q (congrArg not pW))
  | str j=>obtain ⟨t',rfl⟩:=ry;exact PySem.EqMixed.ne_int_str (aT I q (by simp))
  | _=>exact absurd (show false=true from hs) Gz
 | str i =>
  obtain ⟨t,rfl⟩:=rx;cases y with
  | non=>cases ry;exact PySem.EqNone.ne_str_none (aT I q (by simp))
  | bl j=>cases ry;exact PySem.EqMixed.ne_str_bool (aT I q (by simp))
  | int j=>obtain ⟨t',rfl⟩:=ry;exact PySem.EqMixed.ne_str_int (aT I q (by simp))
  | str j=>obtain ⟨t',rfl⟩:=ry;exact ne_str (aT I q (congrArg not qd))
  | _=>exact absurd (show false=true from hs) Gz
 | byt i =>
  obtain ⟨t,rfl⟩:=rx;cases y with
  | byt j=>obtain ⟨t',rfl⟩:=ry;exact PySem.W.ne_bytes (aT I q (congrArg not x8))
  | _=>exact absurd (show false=true from hs) Gz
 | _=>cases y <;> exact absurd (show false=true from hs) Gz
theorem Ek:OpR X (compareOp .Lt) (rI0 λi j => .bl (decide (i < j))):=iH λ_ _ _ _ _ _ _ q=>lt_int q
theorem D4:OpR X (compareOp .LtE) (rI0 λi j => .bl (decide (i<=j))):=iH λ_ _ _ _ _ _ _ q=>le_int q
theorem C2:OpR X (compareOp .Gt) (rI0 λi j => .bl (decide (j < i))):=iH λ_ _ _ _ _ _ _ q=>gt_int q
theorem Fo:OpR X (compareOp .GtE) (rI0 λi j => .bl (decide (j<=i))):=iH λ_ _ _ _ _ _ _ q=>ge_int q
theorem AM:OpR X (compareOp .Is) (λx y H Q=>y=.non/\Q (.bl (decide (x=.non))) H):=by
 intro pins s σ H x y v u Q I rx ry h;obtain ⟨rfl,q⟩:=h;cases ry;refine is_none_gen (aT I q ?_);cases x <;> first
  | (cases rx;rfl)
  | (obtain ⟨t,rfl⟩:=rx;rfl)
theorem yg:OpR X (compareOp .IsNot) (λx y H Q=>y=.non/\Q (.bl (!decide (x=.non))) H):=by
 intro pins s σ H x y v u Q I rx ry h;obtain ⟨rfl,q⟩:=h;cases ry;refine isnot_none_gen (aT I q ?_);cases x <;> first
  | (cases rx;rfl)
  | (obtain ⟨t,rfl⟩:=rx;rfl)
theorem yx{op:CmpOp}{r:R2}(ho:OpR X (compareOp op) r)(ha:PE X a ta)(hb:PE X b tb)(hm:behindInMarks op b=false):PE X (.Compare a [op] [b] pos) (tOp r ta tb):=by
 intro pins s σ H Q I h;exact wpAny_Compare1 (lr ha hb I h λv u s2 x y H2 I2 rx ry q=>ho pins s2 σ H2 x y v u Q I2 rx ry q) hm
noncomputable def si(t:TE):TT:=λσ H Q=>t σ H λx H' => ∃ k,x=.bl k/\Q k H'
theorem yN{op:CmpOp}{r:R2}(ho:OpR X (compareOp op) r)(ha:PE X a ta)(hb:PE X b tb)(hm:behindInMarks op b=false):PT X (.Compare a [op] [b] pos) (si (tOp r ta tb)):=by
 intro pins s σ H Q I h;refine wpAny_isTrue_Compare1 (thn (ha pins s σ H _ I h) λv s1 ⟨x,H1,I1,r1,q1⟩=>thn (hb pins s1 σ H1 _ I1 q1) λu s2 ⟨y,H2,I2,r2,q2⟩ =>
  thn (ho pins s2 σ H2 x y v u _ I2 r1 r2 q2) λc s3 ⟨z,H3,I3,r3,k,e,q3⟩ => ?_) hm
 subst e;cases r3;exact wpAny_truthy_bool ⟨H3,I3,q3⟩
noncomputable def jY(r r':R2)(ta tb tc:TE):TE:=λσ H Q=>ta σ H λx H1=>tb σ H1 λy H2=>r x y H2 λz H3 => ∃ k,z=.bl k /\
 (if k=true then tc σ H3 λw' H4=>r' y w' H4 Q else Q (.bl false) H3)
theorem wU{op op':CmpOp}{r r':R2}(ho:OpR X (compareOp op) r)(ho':OpR X (compareOp op') r')(ha:PE X a ta)(hb:PE X b tb)(hc:PE X c tc)
  (hm:lastMarks [op,op'] [b,c]=false:=by with_unfolding_all rfl):PE X (.Compare a [op,op'] [b,c] pos) (jY r r' ta tb tc):=by
 intro pins s σ H Q I h;refine Compare_chain (thn (ha pins s σ H _ I h) λv s1 ⟨x,H1,I1,r1,q1⟩=>chain_link (thn (hb pins s1 σ H1 _ I1 q1) λu s2 ⟨y,H2,I2,r2,q2⟩ =>
  thn (ho pins s2 σ H2 x y v u _ I2 r1 r2 q2) λd s3 ⟨z,H3,I3,r3,k,e,q3⟩ => ?_)) hm
 subst e;cases r3;refine wpAny_truthy_bool ?_;cases k with
 | false=>exact ite_ff ⟨.bl false,H3,I3,rfl,q3⟩
 | true=>exact ite_tt (chain_last (thn (hc pins s3 σ H3 _ I3 q3) λw' s4 ⟨z',H4,I4,r4,q4⟩=>ho' pins s4 σ H4 y z' u w' Q I4 r2 r4 q4))
theorem wY{op op':CmpOp}{r r':R2}(ho:OpR X (compareOp op) r)(ho':OpR X (compareOp op') r')(ha:PE X a ta)(hb:PE X b tb)(hc:PE X c tc)
  (hm:lastMarks [op,op'] [b,c]=false:=by with_unfolding_all rfl):PT X (.Compare a [op,op'] [b,c] pos) (si (jY r r' ta tb tc)):=by
 intro pins s σ H Q I h;refine isTrue_chain (thn (ha pins s σ H _ I h) λv s1 ⟨x,H1,I1,r1,q1⟩=>test_link (thn (hb pins s1 σ H1 _ I1 q1) λu s2 ⟨y,H2,I2,r2,q2⟩ =>
  thn (ho pins s2 σ H2 x y v u _ I2 r1 r2 q2) λd s3 ⟨z,H3,I3,r3,k,e,q3⟩ => ?_)) hm
 subst e;cases r3;refine wpAny_truthy_bool ?_;cases k with
 | false =>
  obtain ⟨k',e',q'⟩:=q3;cases e';exact ite_ff ⟨H3,I3,q'⟩
 | true =>
  refine ite_tt (test_last (thn (hc pins s3 σ H3 _ I3 q3) λw' s4 ⟨z',H4,I4,r4,q4⟩=>thn (ho' pins s4 σ H4 y z' u w' _ I4 r2 r4 q4) λd' s5 ⟨z2,H5,I5,r5,k2,e2,q5⟩ => ?_));subst e2;cases r5;exact wpAny_truthy_bool ⟨H5,I5,q5⟩
noncomputable def iG(K:GJ)(x:V)(H:Hp)(k:Bool):Prop :=
 match x with
 | .non=>k=false
 | .bl b=>k=b
 | .int i=>k=(i != 0)
 | .str y=>y.length<=sizeLine/\k=((y.length:Int) != 0)
 | .byt y=>y.size<=sizeLine/\k=((y.size:Int) != 0)
 | .ref p=>(∃ xs,SqL K H p xs/\k = !xs.isEmpty)\/(∃ xs,SqT K H p xs/\k = !xs.isEmpty) \/ ∃ kvs,H p=some (.dK kvs)/\k = !kvs.isEmpty
 | _=>False
theorem uO{κ:Type}{kvs:List (κ×V)}{vs:List (κ×Value)}(r:KV kvs vs):(!vs.isEmpty) = !kvs.isEmpty:=by
 cases r <;> rfl
theorem ml{xs:List V}{its:List Value}(r:Vals xs its):(!its.toArray.isEmpty) = !xs.isEmpty:=by
 cases r <;> simp
theorem fw:(sizeLine:Nat) < 2 ^ 63:=by rw [sizeLine_eq];decide
theorem qW:F5 X (λx H Q => ∃ k,iG X.K x H k/\Q k H):=by
 intro pins s σ H x v Q I rx h;obtain ⟨k,e,q⟩:=h;have hl:=fw;have hs:sizeLine=16777216:=sizeLine_eq;cases x with
 | non =>
  cases rx;have e':k=false:=e;subst e';exact truthy_none ⟨H,I,q⟩
 | bl b =>
  cases rx;have e':k=b:=e;subst e';exact wpAny_truthy_bool ⟨H,I,q⟩
 | int i =>
  obtain ⟨t,rfl⟩:=rx;have e':k=(i != 0):=e;subst e';exact PySem.P.truthy_int ⟨H,I,q⟩
 | str y =>
  obtain ⟨t,rfl⟩:=rx;obtain ⟨hy,e'⟩:y.length<=sizeLine/\k=((y.length:Int) != 0):=e;subst e';exact PySem.P.truthy_str (by omega) ⟨H,I.tok _,q⟩
 | byt y =>
  obtain ⟨t,rfl⟩:=rx;obtain ⟨hy,e'⟩:y.size<=sizeLine/\k=((y.size:Int) != 0):=e;subst e';exact PySem.W.truthy_bytes (by omega) ⟨H,I.tok _,q⟩
 | ref p =>
  cases rx;have e':(∃ xs,SqL X.K H p xs/\k = !xs.isEmpty)\/(∃ xs,SqT X.K H p xs/\k = !xs.isEmpty) \/ ∃ kvs,H p=some (.dK kvs)/\k = !kvs.isEmpty:=e;rcases e' with ⟨xs,hx,e'⟩ | ⟨xs,hx,e'⟩ | ⟨kvs,hx,e'⟩
  .subst e'
   obtain ⟨its,r,pl,hz⟩:=I.list hx;have hlen:=r.length;exact wpAny_truthy_list pl.isList (by simp only [List.size_toArray];omega) ⟨H,I.tok _,by rw [ml r];exact q⟩
  .subst e'
   obtain ⟨its,r,pl,hz⟩:=I.tuple hx;have hlen:=r.length;exact truthy_tuple pl (by simp only [List.size_toArray];omega) ⟨H,I.tok _,by rw [ml r];exact q⟩
  .subst e'
   obtain ⟨hz,hS,vs,r,m⟩:kvs.length<=sizeLine/\(p == sysModules)=false /\ ∃ vs,KV kvs vs/\s.heap.DictOf (aZ X.prog X.w) p vs:=I.hok p _ hx;have hlen:kvs.length=vs.length:=Paired.length r;exact wpAny_truthy_dict hS m (by omega) ⟨H,I.tok _,by rw [uO r];exact q⟩
 | _=>exact (show False from e).elim
theorem wO(ha:PE X a ta)(he:∀ whole,isTrue a X.env whole=(do let v <- whole;standAt a.pos;holding [v] (truthy v))):
  PT X a (λσ H Q=>ta σ H λx H' => ∃ k,iG X.K x H' k/\Q k H'):=by
 intro pins s σ H Q I h;exact isTrue_plain (thn (ha pins s σ H _ I h) λv s1 ⟨x,H1,I1,r1,q1⟩=>qW pins s1 σ H1 x v Q I1 r1 q1) (he _)
theorem vals1{x:V}{us:List Value}(r:Vals [x] us):∃ u,us=[u]/\RelV x u:=by
 cases r with
 | cons r1 r2=>cases r2;exact ⟨_,rfl,r1⟩
end
end L2
namespace L2
open PySem PySem.Spec PyProof.Rows
structure ObjM(h:Heap)(x dx C:Addr)(mA:Str->Option Value):Prop where
 obj:h.get? x=some (PySem.W.instObj C dx)
 ns:h.Ns1 dx mA
 ne:dx≠x
section
variable{prog:Program}{w:World}{A:Around}{E:Value->Shared->Prop}{s:Shared}{K:GJ}{x dx C f:Addr}{mA:Str->Option Value}{name:Str}{v:Value}
end
theorem RelO.some_of{v:V}{o:Option Value}(r:RelO (some v) o):∃ u,o=some u/\RelV v u:=by
 cases o with
 | none=>exact (show False from r).elim
 | some u=>exact ⟨u,rfl,r⟩
section
variable{P:Program}{w:World}{H H':Hp}{h h':Heap}{a C dx:Addr}{fs fs':List (Str×V)}
end
structure Cls(K:GJ)(C:Addr):Prop where
 pg:PySem.W.plainGet K C Str.empty=true
 hd:PySem.W.hasDictIn K C=true
 po:PySem.W.plainOver K C=true
 sa:PySem.W.findIn K (.ref C) "__setattr__" = some (some (.builtin "object.__setattr__"))
structure Con(K:GJ)(C:Addr)(f:Str)(v:V)(u:Value):Prop where
 at_:PySem.W.findIn K (.ref C) f=some (some u)
 rel:RelV v u
 get:PySem.W.specialIn K u "__get__" = some none
 cp:PySem.W.copiedNames.contains f=false
structure Meth(K:GJ)(C:Addr)(m:Str)(f:Addr):Prop where
 at_:PySem.W.findIn K (.ref C) m=some (some (.ref f))
 fn:PySem.W.isFn K (.ref f)=true
 kp:PySem.W.keepIn K (.ref f)=true
section
variable{X:Cx}{pins:List (Addr×Obj)}{σ:St}{H:Hp}{s:Shared}{a C dx:Addr}{fs:List (Str×V)}{f:Str}{v:V}{A:Around}{E:Value->Shared->Prop}
end
section
variable{X:Cx}{o e value:Expr}{f:Str}{pos pos' tpos:Pos}{ta tv:TE}
end
section
variable{X:Cx}{pins:List (Addr×Obj)}{σ:St}{H:Hp}{s:Shared}{A:Around}{E:Value->Shared->Prop}{Q:Value->Shared->Prop}{c:Value}{b:Bool}
inductive TyOf(K:GJ)(H:Hp):V->Value->Prop where
 | non:TyOf K H .non (.type "NoneType")
 | bl (x:Bool):TyOf K H (.bl x) (.type "bool")
 | int (i:Int):TyOf K H (.int i) (.type "int")
 | str (x:Str):TyOf K H (.str x) (.type "str")
 | flt (x:UInt64):TyOf K H (.flt x) (.type "float")
 | lst {a:Addr} {xs:List V} (e:H a=some (.lst xs)):TyOf K H (.ref a) (.type "list")
 | frz {a:Addr} {o:Obj} {xs:List V} (e:H a=some (.frz o (.lst xs))):TyOf K H (.ref a) (.type "list")
 | tup {a:Addr} {xs:List V} (e:H a=some (.tup xs)):TyOf K H (.ref a) (.type "tuple")
 | dK {a:Addr} {kvs:List (Key×V)} (e:H a=some (.dK kvs)):TyOf K H (.ref a) (.type "dict")
 | dT {a:Addr} {kvs:List (List Key×V)} (e:H a=some (.dT kvs)):TyOf K H (.ref a) (.type "dict")
 | ins {a C dx:Addr} {fs:List (Str×V)} (e:H a=some (.ins C dx fs)) (cl:Cls K C) (ha:PySem.W.findIn K (.ref C) "__class__" = some (some (.builtin "object.__class__")))
   (hn:PySem.W.specialIn K (.builtin "object.__class__") "__get__" = some (some (.builtin "getset_descriptor.__get__"))) (htk:PySem.W.takesIn K (.builtin "object.__class__")=some true)
   (hm:PySem.W.mroIn K C (.type "object")=some true):TyOf K H (.ref a) (.ref C)
end
end L2
namespace L2
open PySem PySem.Spec PyProof.Rows
structure Room(k:Nat)(A:Around):Prop where
 hd:A.handled=none
 dp:A.depth+3*k+5 < recursionLimit
 un:A.units+16*k+200 < cLine
theorem Room.deeper{k:Nat}{A:Around}(r:Room (k+1) A)(env:Env):Room k (A.deeper env) :=
 ⟨r.hd,by have:=r.dp;show A.depth+1+3*k+5 < _;omega,by have:=r.un;show A.units+3+16*k+200 < _;omega⟩
theorem Room.depth{k:Nat}{A:Around}(r:Room k A):A.depth < recursionLimit:=by have:=r.dp;omega
theorem Room.units{k:Nat}{A:Around}(r:Room k A):A.units+64 < cLine:=by have:=r.un;omega
noncomputable def tO:TA:=λ_ H Q=>Q [] H
noncomputable def Eb(ta:TE)(tr:TA):TA:=λσ H Q=>ta σ H λx H1=>tr σ H1 λxs H2=>Q (x :: xs) H2
section
variable{X:Cx}{e:Expr}{es:List Expr}{te:TE}{t:TA}{pos:Pos}
theorem hV:PA X [] tO:=λ_ _ _ _ H Q I h=>Calls.spliced_nil ⟨[],H,I,.nil,h⟩
theorem gQ(ha:PE X e te)(hr:PA X es t)(hs:starEach (e :: es) X.env=(false,eval e X.env) :: starEach es X.env:=by rfl):PA X (e :: es) (Eb te t):=by
 intro pos pins s σ H Q I h;rw [hs];show wpAny _ _ (spliced ((false,eval e X.env) :: backTo pos (starEach es X.env))) _ _ s;refine Calls.spliced_cons (thn (ha pins s σ H _ I h) λu s1 ⟨x,H1,I1,r1,q1⟩ => ?_);exact thn (hr pos pins s1 σ H1 _ I1 q1) λus s2 ⟨xs,H2,I2,r2,q2⟩=>⟨x :: xs,H2,I2,.cons r1 r2,q2⟩
noncomputable def F4(t:TA):TE:=λσ H Q=>t σ H λxs H1=>xs.length<=sizeLine /\ ∀ p,H1 p=none->Q (.ref p) (upd H1 p (.tup xs))
noncomputable def Gf(t:TA):TE:=λσ H Q=>t σ H λxs H1=>xs.length<=sizeLine /\ ∀ p,H1 p=none->Q (.ref p) (upd H1 p (.lst xs))
theorem Be{x1}(h:PA X es t):PE X (.Tuple es x1 pos) (F4 t):=by
 intro pins s σ H Q I hq;refine wpAny_Tuple_spliced (thn (h pos pins s σ H _ I hq) λus s1 ⟨xs,H1,I1,r,z,q⟩=>⟨by rw [<-r.length];exact z,?_⟩)
 have hf:H1 s1.heap.objs.size=none:=I1.hok.fresh (GA _);refine ⟨.ref s1.heap.objs.size,upd H1 s1.heap.objs.size (.tup xs),I1.laid (t':=s1.toks) (λb u e=>Gw _ e) (GA _) ?_,rfl,q _ hf⟩;exact ⟨z,us,r,⟨_,GF _ rfl,rfl,_,rfl⟩⟩
theorem BW(h:PA X es t):PE X (.List es pos) (Gf t):=by
 intro pins s σ H Q I hq;refine wpAny_List_spliced (thn (h pos pins s σ H _ I hq) λus s1 ⟨xs,H1,I1,r,z,q⟩=>⟨by rw [<-r.length];exact z,?_⟩)
 have hf:H1 s1.heap.objs.size=none:=I1.hok.fresh (GA _);refine ⟨.ref s1.heap.objs.size,upd H1 s1.heap.objs.size (.lst xs),I1.laid (t':=s1.toks) (λb u e=>Gw _ e) (GA _) ?_,rfl,q _ hf⟩;exact ⟨z,us,0,r,GF _ rfl⟩
end
noncomputable abbrev Sp:=List V->Hp->VK->XK->Prop
noncomputable abbrev CXT:=List Env->Hp->Shared->XK->Value->Shared->Prop
structure Env0(P:Program)(w:World)(K:GJ)(mg:Str->Option Value)(base:Heap)(A:Around)(outer:List Env)(s:Shared)(H:Hp):Prop where
 frames:A.frames=some outer
 mod:Mod K mg base
 bs:∀ b o,base.get? b=some o->s.heap.get? b=some o/\H b=none
 bsz:base.objs.size<=s.heap.objs.size
 funs:s.heap.FunFrames base outer
 frf:∀ b∈frs outer,H b=none
 hok:HOk P w H s.heap
 bare:AllBare s.gens
noncomputable def CE(outer:List Env)(P:Program)(w:World)(H:Hp)(s:Shared)(Q:VK)(u:Value)(s':Shared):Prop :=
 ∃ v H',s'.os=s.os/\AllBare s'.gens/\Un (frs outer) [] H H' s.heap s'.heap/\HOk P w H' s'.heap/\RelV v u/\Q v H'
noncomputable def CR(CX:CXT)(outer:List Env)(P:Program)(w:World)(H:Hp)(s:Shared)(Q:VK)(E:XK)(r:Result)(s':Shared):Prop :=
 match r with
 | .ok (.ret u)=>CE outer P w H s Q u s'
 | .ok _=>False
 | .error e=>CX outer H s E e s'
structure FnOk(P:Program)(w:World)(K:GJ)(mg:Str->Option Value)(base:Heap)(CX:CXT)(k:Nat)(f:Addr)(fd:FuncData)(ps:List Str)(sp:Sp):Prop where
 len:∀ vs H Q E,sp vs H Q E->vs.length=ps.length
 run:∀ (A:Around) (outer:List Env) (s:Shared) (H:Hp) (args:Args) (us:List Value) (vs:List V) (Q:VK) (E:XK),Room k A->Env0 P w K mg base A outer s H->BindsTo s fd args (ps.zip us)->Vals vs us->sp vs H Q E ->
  codeAny (model P w) A (.call (.ref f) args) (CR CX outer P w H s Q E) s
section
variable{X:Cx}{pins:List (Addr×Obj)}{σ:St}{H:Hp}{s s':Shared}
theorem Inv.env0(I:Inv X pins σ H s):Env0 X.prog X.w X.K X.mg X.base X.A X.stack s H :=
 ⟨I.ok.frames,I.ok.mod,I.bs,Gy I.ok.bsz I.sz,I.stack,I.stkFree,I.hok,I.bare⟩
theorem Inv.after{Q:VK}{u:Value}(I:Inv X pins σ H s)(h:CE X.stack X.prog X.w H s Q u s'):EP X pins σ Q u s':=by
 obtain ⟨v,H',os,bare,un,hok,r,q⟩:=h;obtain ⟨hh,g,d,t,os'⟩:=s';obtain rfl:os'=s.os:=os;exact ⟨v,H',I.call (h':=hh) (g':=g) (d':=d) (t':=t) (ch:=[]) un hok bare (λb z=>absurd z (by simp)),r,q⟩
end
noncomputable def rV(sp:Sp)(dvs:List V)(E:XK)(t:TA):TE:=λσ H Q=>t σ H λvs H1=>sp (vs++dvs) H1 Q E
noncomputable def Binds(K:GJ)(fd:FuncData)(ps:List Str)(ds:List Value):Prop :=
 ∀ (s:Shared) (us:List Value),K.In s.heap->(us++ds).length=ps.length->BindsTo s fd ⟨us,[]⟩ (ps.zip (us++ds))
theorem Binds.all{K:GJ}{fd:FuncData}{ps:List Str}(h:∀ us:List Value,us.length=ps.length->bindArgs fd ⟨us,[]⟩=pure (ps.zip us)):Binds K fd ps []:=λs us _ hl=>by
 rw [List.append_nil] at hl ⊢;exact .of_eq (h us hl)
noncomputable def ig(CX:CXT)(X:Cx)(E:XK):Prop := ∀ (pins:List (Addr×Obj)) (σ:St) (H:Hp) (s:Shared) (e:Value) (s':Shared),Inv X pins σ H s->CX X.stack H s E e s'->X.xe e s'
section
variable{X:Cx}{CX:CXT}{k:Nat}{f C:Addr}{fd:FuncData}{ps:List Str}{sp:Sp}{dvs:List V}{ds:List Value}{E:XK}{x m:Str}{p pos apos:Pos}{e o:Expr}{es:List Expr}{ta:TE}{t:TA}
theorem qp{pins:List (Addr×Obj)}{σ:St}{H:Hp}{s:Shared}{Q:VK}{us:List Value}{vs:List V}(F:FnOk X.prog X.w X.K X.mg X.base CX k f fd ps sp)(hr:Room k X.A)(hb:Binds X.K fd ps ds)(hd:Vals dvs ds)(hx:ig CX X E)
  (I:Inv X pins σ H s) (r:Vals vs us) (h:sp (vs++dvs) H Q E):wpAny (model X.prog X.w) X.A (call (.ref f) us) (EP X pins σ Q) X.xe s:=by
 have r2:Vals (vs++dvs) (us++ds):=r.append hd;have hl:(us++ds).length=ps.length:=by rw [<-r2.length];exact F.len _ _ _ _ h
 refine wpAny_call (codeAny_mono (F.run X.A X.stack s H ⟨us,[]⟩ (us++ds) (vs++dvs) Q E hr I.env0 (hb s us I.kIn hl) r2 h) λr s' hq => ?_);cases r with
 | error e=>exact hx pins σ H s e s' I hq
 | ok fl =>
  cases fl with
  | ret u=>exact I.after hq
  | next=>exact False.elim hq
  | brk=>exact False.elim hq
  | cont=>exact False.elim hq
theorem xo(F:FnOk X.prog X.w X.K X.mg X.base CX k f fd ps sp)(hr:Room k X.A)(hg:Gl X x)(hm:X.mg x=some (.ref f))(hk:PySem.W.keepIn X.K (.ref f)=true)(hb:Binds X.K fd ps ds)(hd:Vals dvs ds)(hx:ig CX X E)
  (ha:PA X (e :: es) t) (hdb:(x == ("__debug__" : Str))=false:=by decide) (he:starEach (e :: es) X.env=(false,eval e X.env) :: starEach es X.env:=by rfl) (hpl:(backTo pos (starEach es X.env)).any (·.1)=false:=by rfl) :
  PE X (.Call (.Name x p) (e :: es) [] pos) (rV sp dvs E t):=by
 intro pins s σ H Q I h;refine wpAny_Call_Name_kw (jG I hg hm ?_ hdb);refine PySem.W.callWith_K (h₀ := X.base) I.ok.mod.kin hk (thn (ha pos pins s σ H _ I h) λus s1 ⟨vs,H1,I1,r,q⟩=>⟨I1.kIn,?_⟩) he hpl;exact qp F hr hb hd hx I1 r q
theorem wD(F:FnOk X.prog X.w X.K X.mg X.base CX k f fd ps sp)(hr:Room k X.A)(hg:Gl X x)(hm:X.mg x=some (.ref f))(hk:PySem.W.keepIn X.K (.ref f)=true)(hb:Binds X.K fd ps ds)(hd:Vals dvs ds)(hx:ig CX X E)
  (hdb:(x == ("__debug__" : Str))=false:=by decide):PE X (.Call (.Name x p) [] [] pos) (rV sp dvs E tO):=by
 intro pins s σ H Q I h;refine wpAny_Call_Name_kw (jG I hg hm ?_ hdb);exact PySem.W.callWith_K0 I.kIn hk (qp (us:=[]) F hr hb hd hx I .nil h)
structure Mk(K:GJ)(C f:Addr):Prop where
 makes:PySem.W.makesIn K C=true
 init:PySem.W.findIn K (.ref C) "__init__" = some (some (.ref f))
 fn:PySem.W.isFn K (.ref f)=true
 kp:PySem.W.keepIn K (.ref C)=true
end
section
variable{X:Cx}{CX:CXT}{k:Nat}{f C:Addr}{fd:FuncData}{ps ks:List Str}{sp:Sp}{E:XK}{x m:Str}{p pos apos kpos:Pos}{e o:Expr}{es:List Expr}{kws:List Keyword}{te ta:TE}{t tk:TA}{nm:Option Str}
structure KBinds(K:GJ)(fd:FuncData)(ps ks:List Str)(g:List Value->List Value->List Value)(gV:List V->List V->List V):Prop where
 to:∀ (s:Shared) (us ws:List Value),K.In s.heap->(g us ws).length=ps.length->BindsTo s fd ⟨us,ks.zip ws⟩ (ps.zip (g us ws))
 rel:∀ {vs:List V} {us:List Value} {zs:List V} {ws:List Value},Vals vs us->Vals zs ws->Vals (gV vs zs) (g us ws)
variable{g:List Value->List Value->List Value}{gV:List V->List V->List V}
end
structure FnScope(N P:List Str)(sc:Scope):Prop where
 kind:sc.kind=.function
 co:sc.isCoroutine=false
 gen:sc.isGenerator=false
 nd:N.Nodup
 pre:N.take P.length=P
 par:∀ x∈P,sc.names.lookup x=some .local\/sc.names.lookup x=some .cell
 nofree:∀ y∈sc.names,y.2 ≠ .free
theorem nR{kindOf:Str->Option NameKind}{x:Str}:∀ {binds:List (Str×Value)} {m:Str->Option Value},(∀ v,(x,v) ∉ binds)->bindL kindOf binds m x=m x
 | [],_,_=>rfl
 | (n,v) :: r,m,h=>by
  unfold bindL;rw [nR λw hw=>h w (GB _ hw)];split
  .have:x≠n:=by rintro rfl;exact h v GH
   simp [this]
  .rfl
theorem mU{kindOf:Str->Option NameKind}{x:Str}:∀ {binds:List (Str×Value)} {m:Str->Option Value},(∀ v,(x,v) ∉ binds)->bindC kindOf binds m x=m x
 | [],_,_=>rfl
 | (n,v) :: r,m,h=>by
  unfold bindC;rw [mU λw hw=>h w (GB _ hw)];split
  .rfl
  .have:x≠n:=by rintro rfl;exact h v GH
   simp [this]
theorem m8{kindOf:Str->Option NameKind}{x:Str}{v:Value}:∀ {P:List Str} {vs:List Value} {i:Nat} {m:Str->Option Value},P.Nodup->P[i]? = some x->vs[i]? = some v->kindOf x=some .local ->
  bindL kindOf (P.zip vs) m x=some v
 | [],_,_,_,_,h,_,_=>by simp at h
 | _ :: _,[],_,_,_,_,h,_=>by simp at h
 | p :: P,w :: vs,0,m,nd,h1,h2,hk=>by
  simp at h1 h2;subst h1;subst h2;show bindL kindOf ((p,w) :: P.zip vs) m p=_;unfold bindL;rw [nR λv hv=>(List.nodup_cons.mp nd).1 (List.of_mem_zip hv).1,if_pos hk];simp
 | p :: P,w :: vs,i+1,m,nd,h1,h2,hk=>by
  show bindL kindOf ((p,w) :: P.zip vs) m x=_;unfold bindL;exact m8 (i:=i) (List.nodup_cons.mp nd).2 (by simpa using h1) (by simpa using h2) hk
theorem nj{kindOf:Str->Option NameKind}{x:Str}{v:Value}:∀ {P:List Str} {vs:List Value} {i:Nat} {m:Str->Option Value},P.Nodup->P[i]? = some x->vs[i]? = some v->kindOf x≠some .local ->
  bindC kindOf (P.zip vs) m x=some v
 | [],_,_,_,_,h,_,_=>by simp at h
 | _ :: _,[],_,_,_,_,h,_=>by simp at h
 | p :: P,w :: vs,0,m,nd,h1,h2,hk=>by
  simp at h1 h2;subst h1;subst h2;show bindC kindOf ((p,w) :: P.zip vs) m p=_;unfold bindC;rw [mU λv hv=>(List.nodup_cons.mp nd).1 (List.of_mem_zip hv).1,if_neg hk];simp
 | p :: P,w :: vs,i+1,m,nd,h1,h2,hk=>by
  show bindC kindOf ((p,w) :: P.zip vs) m x=_;unfold bindC;exact nj (i:=i) (List.nodup_cons.mp nd).2 (by simpa using h1) (by simpa using h2) hk
noncomputable def start(N:List Str)(vs:List V):St:=vs.map some++List.replicate (N.length - vs.length) none
noncomputable def eB(CX:CXT)(P:Program)(w:World)(K:GJ)(mg:Str->Option Value)(base:Heap)(N:List Str)(qual:Str)(scope:Scope)(f:Addr)(cd:Value)(A:Around)(outer:List Env)(s:Shared)(H:Hp)(E:XK):Cx where
 prog:=P
 w:=w
 K:=K
 mg:=mg
 base:=base
 A:=A.deeper (envOfC qual scope s.heap.objs.size f cd)
 N:=N
 s₀ := s
 H₀ := H
 env:=envOfC qual scope s.heap.objs.size f cd
 outer:=outer
 stack:=envOfC qual scope s.heap.objs.size f cd :: outer
 ex:=[]
 calm:=true
 fn:=λ_=>true
 pn:=[]
 xe:=λe s'=>wpAny (model P w) (A.deeper (envOfC qual scope s.heap.objs.size f cd)) (leaving (envOfC qual scope s.heap.objs.size f cd) e) (λ_ s''=>CX outer H s E e s'') (λe' s''=>CX outer H s E e' s'') s'
theorem oH{sc:Scope}{n:Nat}{x:Str}(h:sc.names.lookup x=some .cell):∃ c,(cellsFrom n sc.names []).lookup x=some c:=by
 have q:=PySem.W.cellsFrom_some sc.names n [] (.inl h);exact Option.isSome_iff_exists.mp q
theorem vk{CX:CXT}{P:Program}{w:World}{K:GJ}{mg:Str->Option Value}{base:Heap}{N ps:List Str}{qual:Str}{scope:Scope}{f:Addr}{cd:Value}{A:Around}{outer:List Env}{s s1:Shared}{H:Hp}{E:XK}{us:List Value}{vs:List V}
  (S:FnScope N ps scope) (hd:A.handled=none) (e0:Env0 P w K mg base A outer s H) (hl:vs.length=ps.length) (r:Vals vs us)
  (x:InCallC s s.heap.objs.size (bindL (envOfC qual scope s.heap.objs.size f cd).kindOf (ps.zip us) λ_=>none) (cellsFrom (s.heap.objs.size+1) scope.names []) (bindC (envOfC qual scope s.heap.objs.size f cd).kindOf (ps.zip us) λ_=>none) s1) :
  Inv (eB CX P w K mg base N qual scope f cd A outer s H E) [] (start N vs) H s1:=by
 have hpl:ps.length<=N.length:=by have:=congrArg List.length S.pre;rw [List.length_take] at this;omega
 obtain ⟨h1,tk,rfl,hk⟩:=x.done;have noA:∀ b:Addr,b ∉ (eB CX P w K mg base N qual scope f cd A outer s H E).ex:=λb z=>absurd (show b∈([]:List Addr) from z) (by simp)
 refine ⟨⟨e0.mod,S.kind,rfl,rfl,GA _,λy z c h1 h2 => ?_,λy hy => ?_,λy c _ h => ?_,λ_=>hd,Around.frames_deeper e0.frames,.inr ⟨rfl,rfl⟩,λb z=>absurd z (noA b),e0.bs,e0.bsz,λb _ _=>noA b,λb z=>absurd z (noA b),e0.funs,e0.frf⟩,
  rfl,e0.bare,Un.kept hk,⟨_,x.toInCall.ns,λi y v h1 h2 h3 => ?_⟩,λy c h=>⟨_,x.cell y c h⟩,e0.hok.fresh (GA _),λy c h => ?_,λp hp=>absurd (show p∈([]:List (Addr×Obj)) from hp) (by simp),e0.hok.kept hk,?_⟩
 .exact name_of_addr x.apart (PySem.mem_of_lookup h1) (PySem.mem_of_lookup h2)
 .have hy:scope.names.lookup y=some .cell\/scope.names.lookup y=some .free:=hy
  rcases hy with hy | hy
  .exact oH hy
  .exact absurd rfl (S.nofree _ (PySem.mem_of_lookup hy))
 .exact Nat.le_of_lt (x.above y c (PySem.mem_of_lookup h))
 .have hi:i < vs.length:=by
   unfold start at h2;by_cases hi:i < vs.length
   .exact hi
   .rw [List.getElem?_append_right (by simpa using hi)] at h2
    rw [List.getElem?_replicate] at h2;split at h2 <;> cases h2
  have ha:vs[i]? = some v:=by
   unfold start at h2;rw [List.getElem?_append_left (by simpa using hi),List.getElem?_map] at h2
   cases e:vs[i]? with
   | none=>rw [e] at h2;cases h2
   | some a=>rw [e] at h2;cases h2;rfl
  obtain ⟨u,hu,rv⟩:=r.get ha;have hp:ps[i]? = some y:=by
   rw [<-S.pre,List.getElem?_take_of_lt (by omega)];exact h1
  have ndP:ps.Nodup:=by rw [<-S.pre];exact S.nd.sublist (List.take_sublist _ _)
  refine ⟨u,rv,?_⟩;rcases S.par y (List.mem_of_getElem? hp) with k | k
  .exact .inl ⟨k,m8 ndP hp hu k⟩
  .obtain ⟨c,e⟩:=oH (n:=s.heap.objs.size+1) k
   refine .inr ⟨.inl k,c,e,?_⟩;have q:=x.cell y c e;rw [nj ndP hp hu (by show scope.names.lookup y≠_;rw [k];decide)] at q
   exact q
 .exact e0.hok.fresh (Nat.le_of_lt (x.above y c (PySem.mem_of_lookup h)))
 .unfold start
  show _=N.length;rw [List.length_append,List.length_map,List.length_replicate];omega
theorem Fw{CX:CXT}{P:Program}{w:World}{K:GJ}{mg:Str->Option Value}{base:Heap}{k:Nat}{f:Addr}{name qual:Str}{params:Arguments}{body:List Stmt}{scope:Scope}{dV kV doc pm cdv ct oc:Value}{an od:Option Addr}
  {osl:Array (Option Value)} {N ps:List Str} {sp:Sp} (lk:K.lookup f=some ⟨oc,od,.func (PySem.W.fnOf name qual params body scope dV kV doc pm an cdv ct),osl⟩) (hcd:PySem.W.codeIn K cdv qual=true) (S:FnScope N ps scope)
  (len:∀ vs H Q E,sp vs H Q E->vs.length=ps.length)
  (hbody:∀ (A:Around) (outer:List Env) (s:Shared) (H:Hp) (vs:List V) (Q:VK) (E:XK),Room k (A.deeper (envOfC qual scope s.heap.objs.size f cdv))->sp vs H Q E ->
   ∃ t,PSs (eB CX P w K mg base N qual scope f cdv A outer s H E) body t/\t { nx:=λ_ H'=>Q .non H',rt:=Q } (start N vs) H) :
  FnOk P w K mg base CX (k+1) f (PySem.W.fnOf name qual params body scope dV kV doc pm an cdv ct) ps sp:=by
 refine ⟨len,λA outer s H args us vs Q E hr e0 hb r hsp => ?_⟩;have hl:=len _ _ _ _ hsp;have KX:K.In s.heap:=e0.mod.kin.keeps λb o e=>(e0.bs b o e).1;have lim:s.heap.NoLimit:=e0.mod.nolimit.keeps λb o e=>(e0.bs b o e).1;have hkind:∀ y∈ps.zip us,scope.names.lookup y.1=some .local\/(scope.names.lookup y.1=some .cell/\((cellsFrom (s.heap.objs.size+1) scope.names []).lookup y.1).isSome=true):=λ⟨n,v⟩ hy=>by
  rcases S.par n (List.of_mem_zip hy).1 with q | q
  .exact .inl q
  .exact .inr ⟨q,PySem.W.cellsFrom_some _ _ _ (.inl q)⟩
 refine codeAny_call_function hr.depth (KX _ _ lk) rfl S.co S.gen rfl (PySem.W.codeRec_of KX hcd) (hb _ _ _ _ ?_);refine wpAny_newFunctionEnv_cells S.kind hkind λenv he s1 x => ?_;subst he;refine ⟨lim.keeps x.toInCall.keep,codeAny_func ?_⟩;obtain ⟨t,ht,hq⟩:=hbody A outer s H vs Q E (hr.deeper _) hsp;have I:Inv (eB CX P w K mg base N qual scope f cdv A outer s H E) [] (start N vs) H s1:=vk S hr.hd e0 hl r x;refine wpAny_mono (ht [] s1 (start N vs) H _ I hq) (λfl s' hs => ?_) λe s' hs=>hs;have fin:∀ {σ':St} {H':Hp} {v:V} {u:Value},Inv (eB CX P w K mg base N qual scope f cdv A outer s H E) [] σ' H' s'->RelV v u->Q v H'->CE outer P w H s Q u s' :=
  λ{σ' H' v u} J rv q=>⟨v,H',J.os,J.bare,J.base,J.hok,rv,q⟩
 cases fl with
 | ret u =>
  obtain ⟨v,σ',H',J,rv,q⟩:=hs;exact fin J rv q
 | next =>
  obtain ⟨σ',H',J,q⟩:=hs;exact fin (v:=V.non) (u:=Value.none) J rfl q
 | brk =>
  obtain ⟨_,_,_,q⟩:=hs;exact False.elim q
 | cont =>
  obtain ⟨_,_,_,q⟩:=hs;exact False.elim q
end L2
namespace L2
open PySem PySem.Spec PyProof.Rows
section
variable{X:Cx}{x:Str}{p pos:Pos}{e:Expr}{es:List Expr}{t:TA}{id T:String}{r:List V->Hp->VK->Prop}
noncomputable def tCB(r:List V->Hp->VK->Prop)(t:TA):TE:=λσ H Q=>t σ H λvs H1=>r vs H1 Q
theorem pe_callB(hc:CallR X (.builtin id) r)(hg:Gl X x)(hm:X.mg x=none)(hv:bootBuiltins x=some (.builtin id))(ha:PA X (e :: es) t)(hn:x ≠ "__name__" := by decide)(hdb:(x == ("__debug__" : Str))=false:=by decide)
  (he:starEach (e :: es) X.env=(false,eval e X.env) :: starEach es X.env:=by rfl) (hpl:(backTo pos (starEach es X.env)).any (·.1)=false:=by rfl):PE X (.Call (.Name x p) (e :: es) [] pos) (tCB r t):=by
 intro pins s σ H Q I h;refine wpAny_Call_Name_kw (jH I hg hm hv ?_ hn hdb);exact PyProof.Rows.callWith_builtin1 (thn (ha pos pins s σ H _ I h) λus s1 ⟨vs,H1,I1,r1,q1⟩=>hc pins s1 σ H1 vs us Q I1 r1 q1) he hpl
theorem pe_callTy(hc:CallR X (.type T) r)(hg:Gl X x)(hm:X.mg x=none)(hv:bootBuiltins x=some (.type T))(ha:PA X (e :: es) t)(hn:x ≠ "__name__" := by decide)(hdb:(x == ("__debug__" : Str))=false:=by decide)
  (he:starEach (e :: es) X.env=(false,eval e X.env) :: starEach es X.env:=by rfl) (hpl:(backTo pos (starEach es X.env)).any (·.1)=false:=by rfl):PE X (.Call (.Name x p) (e :: es) [] pos) (tCB r t):=by
 intro pins s σ H Q I h;refine wpAny_Call_Name_kw (jH I hg hm hv ?_ hn hdb);exact PyProof.Rows.callWith_type1 (thn (ha pos pins s σ H _ I h) λus s1 ⟨vs,H1,I1,r1,q1⟩=>hc pins s1 σ H1 vs us Q I1 r1 q1) he hpl
end
end L2
namespace HT
open PySem PyProof.Rows
section
open PySem.SeqAt
open PySem.AutoSeq1 (wpAny_loadPart')
open PySem.MeetsSeq PySem.MeetsSeq2 PySem.MeetsSeq3
end
section
variable{prog:Program}{w:World}{A:Around}{E:Value->Shared->Prop}{s:Shared}
noncomputable def sIx(n d:Nat):Option Int->Nat
 | none=>d
 | some v=>if v < 0 then (v+(n:Int)).toNat else min v.toNat n
end
end HT
namespace L2
open PySem PySem.Spec PyProof.Rows
noncomputable abbrev TO:=St->Hp->(Option Int->Hp->Prop)->Prop
noncomputable def PO(X:Cx)(e:Option Expr)(t:TO):Prop :=
 ∀ (pins:List (Addr×Obj)) (s:Shared) (σ:St) (H:Hp) (Q:Option Int->Hp->Prop),Inv X pins σ H s->t σ H Q ->
  wpAny (model X.prog X.w) X.A (evalPart e X.env) (λu s' => ∃ o H',Inv X pins σ H' s'/\IsPart u o/\Q o H') X.xe s
noncomputable def xN:TO:=λ_ H Q=>Q none H
noncomputable def FC(t:TE):TO:=λσ H Q=>t σ H λx H1 => ∃ i,x=.int i/\Q (some i) H1
section
variable{X:Cx}{e:Expr}{te:TE}{lo hi:Option Expr}{tl th:TO}{pos p2:Pos}
theorem zk:PO X none xN:=by
 intro pins s σ H Q I h;rw [evalPart_none];exact ZP ⟨none,H,I,.none,h⟩
theorem x4(h:PE X e te):PO X (some e) (FC te):=by
 intro pins s σ H Q I hw;rw [evalPart_some];refine thn (h pins s σ H _ I hw) λu s1 ⟨x,H1,I1,r1,q1⟩ => ?_;obtain ⟨i,rfl,q⟩:=q1;obtain ⟨t,rfl⟩:=r1;exact ⟨some i,H1,I1,.int i t,q⟩
noncomputable def SlR(X:Cx)(r:V->Option Int->Option Int->Hp->VK->Prop):Prop :=
 ∀ (pins:List (Addr×Obj)) (s:Shared) (σ:St) (H:Hp) (x:V) (v vl vu:Value) (lo hi:Option Int) (sl:Addr) (Q:VK),Inv X pins σ H s->RelV x v->s.heap.IsSliceOf sl vl vu .none->IsPart vl lo->IsPart vu hi->r x lo hi H Q ->
  ∃ T id,typeLookup (.type T) "__getitem__" = pure (some (.builtin id))/\s.TypeIs v T/\wpAny (model X.prog X.w) X.A (getItem v (.ref sl)) (EP X pins σ Q) X.xe s
theorem SlR.or{r r':V->Option Int->Option Int->Hp->VK->Prop}(h:SlR X r)(h':SlR X r'):SlR X (λx lo hi H Q=>r x lo hi H Q\/r' x lo hi H Q):=by
 intro pins s σ H x v vl vu lo hi sl Q I rx hs pl pu q;rcases q with q | q
 .exact h pins s σ H x v vl vu lo hi sl Q I rx hs pl pu q
 .exact h' pins s σ H x v vl vu lo hi sl Q I rx hs pl pu q
noncomputable def tSl(r:V->Option Int->Option Int->Hp->VK->Prop)(te:TE)(tl th:TO):TE:=λσ H Q=>te σ H λx H1=>tl σ H1 λl H2=>th σ H2 λu H3=>r x l u H3 Q
theorem vX{r:V->Option Int->Option Int->Hp->VK->Prop}(hr:SlR X r)(he:PE X e te)(hl:PO X lo tl)(hu:PO X hi th):PE X (.Subscript e (.Slice lo hi none p2) pos) (tSl r te tl th):=by
 intro pins s σ H Q I h;refine Subscript_ (thn (he pins s σ H _ I h) λv s1 ⟨x,H1,I1,r1,q1⟩ => ?_);refine wpAny_Slice (thn (hl pins s1 σ H1 _ I1 q1) λvl s2 ⟨l,H2,I2,pl,q2⟩=>thn (hu pins s2 σ H2 _ I2 q2) λvu s3 ⟨u,H3,I3,pu,q3⟩ => ?_);rw [evalPart_none];refine ZP ?_;have I4:Inv X pins σ H3 { s3 with heap:=s3.heap.push { cls := .type "slice",data := .fields #[vl,vu,.none] } }:=I3.kept (t':=s3.toks) λb ob q=>Gw _ q
 obtain ⟨T,id,hT,ht,hg⟩:=hr pins { s3 with heap:=s3.heap.push { cls := .type "slice",data := .fields #[vl,vu,.none] } } σ H3 x v vl vu l u s3.heap.objs.size Q I4 r1 (Heap.IsSliceOf.new ..) pl pu q3
 show wpAny (model X.prog X.w) X.A (subscriptTail e (.Slice lo hi none p2) v (.ref s3.heap.objs.size)) (EP X pins σ Q) X.xe { s3 with heap:=s3.heap.push { cls := .type "slice",data := .fields #[vl,vu,.none] } }
 exact tail_any (ops:=[.ref s3.heap.objs.size,v]) ht hT hg (by with_unfolding_all rfl)
noncomputable def eC(xs:List V)(lo hi:Option Int):List V:=(xs.drop (HT.sIx xs.length 0 lo)).take (HT.sIx xs.length xs.length hi - HT.sIx xs.length 0 lo)
theorem uf(xs:List V)(lo hi:Option Int):(eC xs lo hi).length<=xs.length:=by
 unfold eC;rw [List.length_take,List.length_drop];omega
end
end L2
namespace L2
open PySem PySem.Spec PyProof.Rows
noncomputable def ixN(n:Nat)(i:Int):Option Nat:=if 0<=i then (if i < n then some i.toNat else none) else if -(n:Int)<=i then some (i+n).toNat else none
noncomputable def atI{α:Type}(xs:List α)(i:Int):Option α:=(ixN xs.length i).bind λj=>xs[j]?
theorem pX{n:Nat}{i:Int}{j:Nat}(h:ixN n i=some j):seqIndex? i n=some j/\j < n /\ -(n:Int)<=i/\i < n:=by
 unfold ixN at h;by_cases h0:0<=i
 .rw [if_pos h0] at h
  by_cases h1:i < n
  .rw [if_pos h1] at h
   have e:i.toNat=j:=Option.some.inj h;exact ⟨by rw [seqIndex_of h0 h1,e],by omega,by omega,h1⟩
  .rw [if_neg h1] at h;cases h
 .rw [if_neg h0] at h
  by_cases h1 : -(n:Int)<=i
  .rw [if_pos h1] at h
   have e:(i+n).toNat=j:=Option.some.inj h;exact ⟨by rw [seqIndex_neg (by omega) h1,e],by omega,h1,by omega⟩
  .rw [if_neg h1] at h;cases h
theorem qe{α:Type}{xs:List α}{i:Int}{v:α}(h:atI xs i=some v):∃ j,seqIndex? i xs.length=some j/\xs[j]? = some v/\j < xs.length /\ -(xs.length:Int)<=i/\i < xs.length:=by
 unfold atI at h;cases e:ixN xs.length i with
 | none=>rw [e] at h;cases h
 | some j =>
  rw [e] at h;obtain ⟨h1,h2,h3,h4⟩:=pX e;exact ⟨j,h1,h,h2,h3,h4⟩
noncomputable def jD(b:Expr):Prop := ∀ o i,subscripted b false o i=operate [o,i] (getItem o i)
noncomputable def IxR(X:Cx)(r:R2):Prop :=
 ∀ (value slice:Expr) (pins:List (Addr×Obj)) (s:Shared) (σ:St) (H:Hp) (x y:V) (v u:Value) (Q:VK),Inv X pins σ H s->RelV x v->RelV y u->r x y H Q ->
  subscripted slice false v u=operate [v,u] (getItem v u)->wpAny (model X.prog X.w) X.A (subscriptTail value slice v u) (EP X pins σ Q) X.xe s
noncomputable def MtR(X:Cx)(id:String)(r:V->List V->Hp->VK->Prop):Prop :=
 ∀ (pins:List (Addr×Obj)) (s:Shared) (σ:St) (H:Hp) (x:V) (xs:List V) (v:Value) (us:List Value) (Q:VK),Inv X pins σ H s->RelV x v->Vals xs us->r x xs H Q ->
  wpAny (model X.prog X.w) X.A (call (.builtin id) (v :: us)) (EP X pins σ Q) X.xe s
section
variable{X:Cx}{a b:Expr}{ta tb:TE}{pos:Pos}
theorem IxR.or{r r':R2}(h:IxR X r)(h':IxR X r'):IxR X (λx y H Q=>r x y H Q\/r' x y H Q):=by
 intro value slice pins s σ H x y v u Q I rx ry q hs;rcases q with q | q
 .exact h value slice pins s σ H x y v u Q I rx ry q hs
 .exact h' value slice pins s σ H x y v u Q I rx ry q hs
theorem EZ{r:R2}(hr:IxR X r)(ha:PE X a ta)(hb:PE X b tb)(hs:jD b):PE X (.Subscript a b pos) (tOp r ta tb):=by
 intro pins s σ H Q I h;exact Subscript_ (lr ha hb I h λv u s2 x y H2 I2 rx ry q=>hr a b pins s2 σ H2 x y v u Q I2 rx ry q (hs _ _))
noncomputable def Gj(K:GJ):R2:=λx y H Q => ∃ p xs i v,x=.ref p/\y=.int i/\SqL K H p xs/\atI xs i=some v/\Q v H
noncomputable def Gk(K:GJ):R2:=λx y H Q => ∃ p xs i v,x=.ref p/\y=.int i/\SqT K H p xs/\atI xs i=some v/\Q v H
theorem xI:IxR X (Gj X.K):=by
 intro value slice pins s σ H x y v u Q I rx ry h hs;obtain ⟨p,xs,i,z,rfl,rfl,hq,he,q⟩:=h;cases rx;obtain ⟨t,rfl⟩:=ry;obtain ⟨its,r,pl,hz⟩:=I.list hq;obtain ⟨j,h1,h2,h3,h4,h5⟩:=qe he;obtain ⟨w,ew,rw'⟩:=r.get h2;have hl:=r.length;have hn:=fw;have fin:EP X pins σ Q w s:=⟨z,H,I,rw',q⟩;by_cases h0:0<=i
 .have hj:i.toNat=j:=by
   rw [seqIndex_of h0 h5] at h1;exact Option.some.inj h1
  exact item_listR pl.isList h0 (by omega) (by rw [hj];simpa using ew) fin hs
 .have hj:(i+(its.toArray.size:Int)).toNat=j:=by
   rw [seqIndex_neg (by omega) h4] at h1
   rw [List.size_toArray,<-hl];exact Option.some.inj h1
  exact subscriptTail_builtinR (x:=w) pl.isList.typeIs slot_list_getitem.lookup
   (wpAny_getItem_list_neg (Q:=λr s'=>r=w/\EP X pins σ Q r s') pl.isList (by omega) (by rw [List.size_toArray] <;> omega) (by omega) (by rw [hj];simpa using ew) ⟨rfl,fin⟩) hs
theorem A6:IxR X (Gk X.K):=by
 intro value slice pins s σ H x y v u Q I rx ry h hs;obtain ⟨p,xs,i,z,rfl,rfl,hq,he,q⟩:=h;cases rx;obtain ⟨t,rfl⟩:=ry;obtain ⟨its,r,pl,hz⟩:=I.tuple hq;obtain ⟨j,h1,h2,h3,h4,h5⟩:=qe he;obtain ⟨w,ew,rw'⟩:=r.get h2;have hl:=r.length;have hn:=fw;have fin:EP X pins σ Q w s:=⟨z,H,I,rw',q⟩;exact subscriptTail_builtinR (x:=w) pl.typeIs slot_tuple_getitem.lookup
  (getItem_tuple (j:=j) (Q:=λr s'=>r=w/\EP X pins σ Q r s') pl (by omega) (by omega) (by rw [List.size_toArray,<-hl];exact h1) (by simpa using ew) ⟨rfl,fin⟩) hs
theorem uF(its:List Value)(n j:Nat)(u:Value):Obj.mapSeq (·.setIfInBounds j u) { cls := .type "list",data := .seq its.toArray n }={ cls := .type "list",data := .seq (its.set j u).toArray n }:=by
 simp [Obj.mapSeq]
theorem Inv.lst{pins:List (Addr×Obj)}{σ:St}{H:Hp}{s:Shared}{p:Addr}{xs:List V}(I:Inv X pins σ H s)(h:H p=some (.lst xs)):
  ∃ (its:List Value) (n:Nat),Vals xs its/\s.heap.get? p=some { cls := .type "list",data := .seq its.toArray n }/\xs.length<=sizeLine:=by
 obtain ⟨z,its,n,r,e⟩:=I.hok p _ h;exact ⟨its,n,r,e,z⟩
theorem Inv.lstUpd{pins:List (Addr×Obj)}{σ:St}{H:Hp}{s:Shared}{p:Addr}{xs ys:List V}{its its':List Value}{n n':Nat}{f:Obj->Obj}(I:Inv X pins σ H s)(h:H p=some (.lst xs))
  (ho:s.heap.get? p=some { cls := .type "list",data := .seq its.toArray n }) (hf:f { cls := .type "list",data := .seq its.toArray n }={ cls := .type "list",data := .seq its'.toArray n' }) (r:Vals ys its') (hz:ys.length<=sizeLine) (t:Nat) :
  Inv X pins σ (upd H p (.lst ys)) { s with heap:=s.heap.update p f,toks:=t }:=by
 have e:(s.heap.update p f).get? p=some { cls := .type "list",data := .seq its'.toArray n' }:=by
  rw [Heap.get?_update_self f ho (by rw [hf] <;> rfl),hf]
 refine I.write (x:=p) (e:=p) (by rw [h];trivial) (.inl rfl) (λb u hb q=>(Heap.get?_update_other _ _ (Ne.symm hb)).trans q) ⟨_,e⟩ ?_
 exact ⟨hz,its',n',r,e⟩
noncomputable def Fv:V->V->V->Hp->(Hp->Prop)->Prop:=λo i v H Q => ∃ p xs k j,o=.ref p/\i=.int k/\H p=some (.lst xs)/\ixN xs.length k=some j/\Q (upd H p (.lst (xs.set j v)))
theorem set_list:eD X Fv:=by
 intro pins s σ H o i v ov iv u Q I ro ri rv h;obtain ⟨p,xs,k,j,rfl,rfl,hp,hj,q⟩:=h;cases ro;obtain ⟨t,rfl⟩:=ri;obtain ⟨its,n,r,ho,hz⟩:=I.lst hp;obtain ⟨h1,h2,h3,h4⟩:=pX hj;have hl:=r.length;have hn:=fw;have I':Inv X pins σ (upd H p (.lst (xs.set j v))) { s with heap:=s.heap.update p (Obj.mapSeq (·.setIfInBounds j u)) } :=
  I.lstUpd hp ho (uF its n j u) (r.set rv j) (by rw [List.length_set];exact hz) s.toks
 by_cases h0:0<=k
 .have hk:k.toNat=j:=by
   rw [seqIndex_of h0 h4] at h1;exact Option.some.inj h1
  exact PySem.W.ki_setAt ho h0 (by omega) (by rw [List.size_toArray,<-hl];exact h4) (by rw [hk];exact ⟨_,I',q⟩)
 .have hk:(k+(its.toArray.size:Int)).toNat=j:=by
   rw [seqIndex_neg (by omega) h3] at h1
   rw [List.size_toArray,<-hl];exact Option.some.inj h1
  exact PySem.W.ki_setBack ho (by omega) (by rw [List.size_toArray,<-hl];exact h3) (by omega) (by rw [hk];exact ⟨_,I',q⟩)
theorem ub(lo hi:Option Int)(n:Nat):(sliceBounds lo hi none n).1=((HT.sIx n 0 lo:Nat):Int)/\(sliceBounds lo hi none n).2.1=((HT.sIx n n hi:Nat):Int)/\(sliceBounds lo hi none n).2.2=1:=by
 refine ⟨?_,?_,rfl⟩
 .cases lo with
  | none=>simp [sliceBounds,HT.sIx]
  | some i =>
   simp only [sliceBounds,HT.sIx,Option.getD_none,show (1:Int) > 0 by decide,if_true]
   by_cases h:i < 0
   .simp only [h,if_true] <;> omega
   .simp only [h,if_false] <;> omega
 .cases hi with
  | none=>simp [sliceBounds,HT.sIx]
  | some i =>
   simp only [sliceBounds,HT.sIx,Option.getD_none,show (1:Int) > 0 by decide,if_true]
   by_cases h:i < 0
   .simp only [h,if_true] <;> omega
   .simp only [h,if_false] <;> omega
theorem tZ(its:List Value)(lo hi:Option Int):slicePick its.toArray lo hi none=((its.drop (HT.sIx its.length 0 lo)).take (HT.sIx its.length its.length hi - HT.sIx its.length 0 lo)).toArray:=by
 obtain ⟨h1,h2,h3⟩:=ub lo hi its.toArray.size;unfold slicePick;rw [h1,h2,h3];simp only [sliceRange_one,pick_run,List.size_toArray] <;> rfl
noncomputable def FK(K:GJ):V->Option Int->Option Int->Hp->VK->Prop:=λx lo hi H Q => ∃ a xs,x=.ref a/\SqL K H a xs /\ ∀ p,H p=none->Q (.ref p) (upd H p (.lst (eC xs lo hi)))
theorem yc:SlR X (FK X.K):=by
 intro pins s σ H x v vl vu lo hi sl Q I rx hs pl pu h;obtain ⟨a,xs,rfl,hx,q⟩:=h;cases rx;obtain ⟨its,r,ht,hz⟩:=I.list hx;have hlen:=r.length;refine ⟨"list",_,slot_list_getitem.lookup,ht.isList.typeIs,?_⟩;refine wpAny_getItem_list_slice ht.isList hs pl pu .none (by simp) ?_ (by rw [List.size_toArray] <;> omega)
 rw [tZ,<-hlen];refine ⟨.ref s.heap.objs.size,_,I.laid (t':=s.toks) (o := .lst (eC xs lo hi)) (λb ob q=>Gw _ q) (GA _) ?_,rfl,q _ (I.hok.fresh (GA _))⟩;exact ⟨Gy (uf xs lo hi) hz,_,0,(r.drop (HT.sIx xs.length 0 lo)).take (HT.sIx xs.length xs.length hi - HT.sIx xs.length 0 lo),GF _ rfl⟩
noncomputable def ip:V->Bool
 | .non=>true
 | .bl _=>true
 | .int _=>true
 | .str _=>true
 | _=>false
noncomputable def eqV:V->V->Bool
 | .non,.non=>true
 | .bl a,.bl b=>a == b
 | .bl a,.int b=>(if a then 1 else 0) == b
 | .int a,.bl b=>a == (if b then 1 else 0)
 | .int a,.int b=>a == b
 | .str a,.str b=>a == b
 | _,_=>false
theorem jQ{A:Around}{s:Shared}{y x:V}{u v:Value}(ry:RelV y u)(rx:RelV x v)(fy:ip y=true)(fx:ip x=true):SeqAt.EqAt A s u v (eqV y x):=by
 cases y with
 | non =>
  cases ry;cases x with
  | non=>cases rx;exact SeqAt.EqAt.same _
  | bl b=>cases rx;exact SeqAt.EqAt.none_bool b
  | int b=>obtain ⟨t,rfl⟩:=rx;exact SeqAt.EqAt.none_int b t
  | str b=>obtain ⟨t,rfl⟩:=rx;exact SeqAt.EqAt.none_str b t
  | _=>exact absurd (show false=true from fx) Gz
 | bl a =>
  cases ry;cases x with
  | non=>cases rx;exact SeqAt.EqAt.bool_none a
  | bl b=>cases rx;exact SeqAt.EqAt.bool_bool a b
  | int b=>obtain ⟨t,rfl⟩:=rx;exact SeqAt.EqAt.bool_int a b t
  | str b=>obtain ⟨t,rfl⟩:=rx;exact SeqAt.EqAt.bool_str a b t
  | _=>exact absurd (show false=true from fx) Gz
 | int a =>
  obtain ⟨t',rfl⟩:=ry;cases x with
  | non=>cases rx;exact SeqAt.EqAt.int_none a t'
  | bl b=>cases rx;exact SeqAt.EqAt.int_bool a t' b
  | int b=>obtain ⟨t,rfl⟩:=rx;exact SeqAt.EqAt.int_int a t' b t
  | str b=>obtain ⟨t,rfl⟩:=rx;exact SeqAt.EqAt.int_str a t' b t
  | _=>exact absurd (show false=true from fx) Gz
 | str a =>
  obtain ⟨t',rfl⟩:=ry;cases x with
  | non=>cases rx;exact SeqAt.EqAt.str_none a t'
  | bl b=>cases rx;exact SeqAt.EqAt.str_bool a t' b
  | int b=>obtain ⟨t,rfl⟩:=rx;exact SeqAt.EqAt.str_int a t' b t
  | str b=>obtain ⟨t,rfl⟩:=rx;exact SeqAt.EqAt.str_str a t' b t
  | _=>exact absurd (show false=true from fx) Gz
 | _=>exact absurd (show false=true from fy) Gz
theorem call_len_seq:CallR X (.builtin "len") (λxs H Q => ∃ p ys,xs=[.ref p]/\(SqL X.K H p ys\/SqT X.K H p ys)/\Q (.int ys.length) H):=by
 intro pins s σ H xs us Q I r h;obtain ⟨p,ys,rfl,hq,q⟩:=h;obtain ⟨u,rfl,rx⟩:=vals1 r;cases rx;have hn:=fw;rcases hq with hq | hq
 .obtain ⟨its,r',pl,hz⟩:=I.list hq
  have hlen:=r'.length;exact Calls.call_len_list pl.isList (by simp only [List.size_toArray] <;> omega) ⟨.int ys.length,H,I.tok _,⟨s.toks+1,by rw [List.size_toArray,hlen]⟩,q⟩
 .obtain ⟨its,r',pl,hz⟩:=I.tuple hq
  have hlen:=r'.length;exact len_tuple pl (by simp only [List.size_toArray] <;> omega) ⟨.int ys.length,H,I.tok _,⟨s.toks+1,by rw [List.size_toArray,hlen]⟩,q⟩
theorem CallR.or{f:Value}{r r':List V->Hp->VK->Prop}(h:CallR X f r)(h':CallR X f r'):CallR X f (λxs H Q=>r xs H Q\/r' xs H Q):=by
 intro pins s σ H xs us Q I rs q;rcases q with q | q
 .exact h pins s σ H xs us Q I rs q
 .exact h' pins s σ H xs us Q I rs q
theorem call_list_of:CallR X (.type "list") (λxs H Q => ∃ p ys,xs=[.ref p]/\(SqL X.K H p ys\/SqT X.K H p ys) /\ ∀ l,H l=none->Q (.ref l) (upd H l (.lst ys))):=by
 intro pins s σ H xs us Q I r h;obtain ⟨p,ys,rfl,hq,q⟩:=h;obtain ⟨u,rfl,rx⟩:=vals1 r;cases rx;have fin:∀ (its:List Value),Vals ys its->ys.length<=sizeLine -> ∀ (h':Heap) (c':Nat),(∀ b o',s.heap.get? b=some o'->h'.get? b=some o') ->
   h'.get? s.heap.objs.size=some { cls := .type "list",dict:=none,data := .seq its.toArray c',slots := #[] }->EP X pins σ Q (.ref s.heap.objs.size) { s with heap:=h' }:=λits r' hz h' c' kp e =>
  ⟨.ref s.heap.objs.size,_,I.laid (t':=s.toks) kp (GA _) (show ObjOk X.prog X.w _ h' _ (.lst ys) from ⟨hz,its,c',r',e⟩),rfl,q _ (I.hok.fresh (GA _))⟩
 rcases hq with hq | hq
 .obtain ⟨its,r',pl,hz⟩:=I.list hq
  have hlen:=r'.length;obtain ⟨o,ho,hc,n,hd⟩:=pl.isList;exact call_list_seq p (.inl rfl) ho hc hd (λh' c' kp e=>fin its r' hz h' c' kp e) (by simp only [List.size_toArray] <;> omega)
 .obtain ⟨its,r',pl,hz⟩:=I.tuple hq
  have hlen:=r'.length;obtain ⟨o,ho,hc,n,hd⟩:=pl;exact call_list_seq p (.inr rfl) ho hc hd (λh' c' kp e=>fin its r' hz h' c' kp e) (by simp only [List.size_toArray] <;> omega)
noncomputable def tyV(K:GJ)(T:String)(x:V)(H:Hp):Prop:=match x with
 | .str _=>T = "str"
 | .int _=>T = "int"
 | .ref p=>(T = "list" /\ ∃ xs,SqL K H p xs)\/(T = "tuple" /\ ∃ o,K.lookup p=some o/\o.cls=.type "tuple" /\ o.dict=none) \/
   (T = "dict" /\ ((∃ kvs,H p=some (.dK kvs)) \/ ∃ kvs,H p=some (.dT kvs)))\/(T = "set" /\ ∃ S n,H p=some (.set S n))
 | _=>False
theorem qD{pins:List (Addr×Obj)}{σ:St}{H:Hp}{s:Shared}{T:String}{x:V}{v:Value}(I:Inv X pins σ H s)(r:RelV x v)(ty:tyV X.K T x H):
  s.TypeIs v T /\ ∀ a,v=.ref a -> ∃ ob,s.heap.get? a=some ob/\ob.dict=none:=by
 cases x with
 | str z =>
  obtain ⟨t,rfl⟩:=r;cases (show T = "str" from ty);exact ⟨typeIs_str s z t,λ_ e=>nomatch e⟩
 | int i =>
  obtain ⟨t,rfl⟩:=r;cases (show T = "int" from ty);exact ⟨typeIs_int s i t,λ_ e=>nomatch e⟩
 | ref p =>
  cases r;rcases ty with ⟨rfl,xs,hq⟩ | ⟨rfl,o,hk,hc,hd⟩ | ⟨rfl,hk⟩ | ⟨rfl,S,n,hk⟩
  .obtain ⟨its,_,pl,_⟩:=I.list hq
   refine ⟨pl.isList.typeIs,λa e => ?_⟩;cases e;obtain ⟨o,n,e,c,hd,_⟩:=pl;exact ⟨o,e,hd⟩
  .refine ⟨⟨o,I.kIn p o hk,hc⟩,λa e => ?_⟩
   cases e;exact ⟨o,I.kIn _ o hk,hd⟩
  .have z:∃ o,s.heap.get? p=some o/\o.ExactDict:=by
    rcases hk with ⟨kvs,hk⟩ | ⟨kvs,hk⟩
    .obtain ⟨_,_,_,_,o,_,_,e,ex,_⟩:=I.hok p _ hk
     exact ⟨o,e,ex⟩
    .obtain ⟨_,_,_,_,o,_,_,e,ex,_⟩:=I.hok p _ hk
     exact ⟨o,e,ex⟩
   obtain ⟨o,e,ex⟩:=z;refine ⟨⟨o,e,ex.1⟩,λa e2 => ?_⟩;cases e2;exact ⟨o,e,ex.2.1⟩
  .obtain ⟨o,_,_,_,e,ex,_⟩:=I.hok p _ hk
   refine ⟨⟨o,e,ex.1⟩,λa e2 => ?_⟩;cases e2;exact ⟨o,e,ex.2.1⟩
 | _=>exact False.elim ty
noncomputable def Ge(K:GJ)(T:String)(r:V->List V->Hp->VK->Prop)(to:TE):TE:=λσ H Q=>to σ H λx H1=>tyV K T x H1/\r x [] H1 Q
noncomputable def tBM(K:GJ)(T:String)(r:V->List V->Hp->VK->Prop)(to:TE)(t:TA):TE:=λσ H Q=>to σ H λx H1=>tyV K T x H1/\t σ H1 λxs H2=>r x xs H2 Q
variable{o e:Expr}{es:List Expr}{to:TE}{t:TA}{name:Str}{apos cpos:Pos}{T id:String}{r:V->List V->Hp->VK->Prop}
theorem AY(pa:PlainAttrs T)(slot:Slot T name id)(hty:typeOf (.builtin id)=pure (.type "method_descriptor"))(hm:MtR X id r)(ho:PE X o to)
  (hbase:attributeBase o name X.env (eval o X.env)=eval o X.env:=by rfl) (hline:(apos.endLine == cpos.line)=true:=by rfl):PE X (.Call (.Attribute o name apos) [] [] cpos) (Ge X.K T r to):=by
 intro pins s σ H Q I h;refine wpAny_Call_method0_late hbase hline (thn (ho pins s σ H _ I h) λv s1 ⟨x,H1,I1,r1,ty,q1⟩ => ?_);obtain ⟨h1,h2⟩:=qD I1 r1 ty;exact ⟨T,id,pa,slot,hty,h1,h2,Calls.callWith_builtin rfl (PySem.evalArgs_none (hm pins s1 σ H1 x [] v [] Q I1 r1 .nil q1))⟩
theorem EF(pa:PlainAttrs T)(slot:Slot T name id)(hty:typeOf (.builtin id)=pure (.type "method_descriptor"))(hm:MtR X id r)(ho:PE X o to)(ha:PA X (e :: es) t)
  (hbase:attributeBase o name X.env (eval o X.env)=eval o X.env:=by rfl)
  (hfew:((backTo cpos (starEach (e :: es) X.env)).all (λx => !x.1) && (backToKw cpos (keywordEach [] X.env)).all (λx=>x.1.isSome)
   && decide ((e :: es).length+([]:List Keyword).length+(if ([]:List Keyword).isEmpty then 0 else 1) < 30))=true:=by rfl)
  (hline:(apos.endLine == cpos.line)=true:=by rfl) (hs:starEach (e :: es) X.env=(false,eval e X.env) :: starEach es X.env:=by rfl) (hplain:(backTo cpos (starEach es X.env)).any (·.1)=false:=by rfl) :
  PE X (.Call (.Attribute o name apos) (e :: es) [] cpos) (tBM X.K T r to t):=by
 intro pins s σ H Q I h;refine wpAny_Call_method_late hbase hfew hline rfl (thn (ho pins s σ H _ I h) λv s1 ⟨x,H1,I1,r1,ty,q1⟩ => ?_);obtain ⟨h1,h2⟩:=qD I1 r1 ty;refine ⟨T,id,pa,slot,hty,h1,h2,?_⟩;have hA:=ha cpos pins s1 σ H1 _ I1 q1;rw [hs] at hA ⊢;refine Calls.callWith_builtin (by show (false || (backTo cpos (starEach es X.env)).any (·.1))=false;rw [hplain] <;> rfl) (Calls.evalArgs_plain ?_)
 exact thn hA λus s2 ⟨vs,H2,I2,r2,q2⟩=>hm pins s2 σ H2 x vs v us Q I2 r1 r2 q2
end
end L2
namespace L2
open PySem PySem.Spec PyProof.Rows
noncomputable def MtM(X:Cx)(id:String)(r:V->List V->Hp->VK->Prop):Prop :=
 ∀ (pins:List (Addr×Obj)) (s:Shared) (σ:St) (H:Hp) (x:V) (xs:List V) (v:Value) (us:List Value) (Q:VK),Inv X pins σ H s->RelV x v->Vals xs us->r x xs H Q ->
  wpAny (model X.prog X.w) X.A (call (.builtin id) (v :: us)) (EP X pins σ Q) X.xe s
theorem Vals.one:∀ {x:V} {us:List Value},Vals [x] us -> ∃ u,us=[u]/\RelV x u
 | _,_,.cons r .nil=>⟨_,rfl,r⟩
theorem Vals.zero:∀ {us:List Value},Vals [] us->us=[]
 | _,.nil=>rfl
theorem Vals.dropLast{xs:List V}{us:List Value}(h:Vals xs us):Vals xs.dropLast us.dropLast:=by
 induction h with
 | nil=>exact .nil
 | cons r t ih =>
  cases t with
  | nil=>exact .nil
  | cons q t'=>exact .cons r ih
theorem Vals.reverse{xs:List V}{us:List Value}(h:Vals xs us):Vals xs.reverse us.reverse:=by
 induction h with
 | nil=>exact .nil
 | cons r t ih=>rw [List.reverse_cons,List.reverse_cons];exact Vals.append ih (.cons r .nil)
theorem uG{α:Type}(l:List α):l.eraseIdx (l.length - 1)=l.dropLast:=by
 induction l with
 | nil=>rfl
 | cons a r ih =>
  cases r with
  | nil=>rfl
  | cons b r =>
   have e:(a :: b :: r).length - 1=((b :: r).length - 1)+1:=by
    have h1:(a :: b :: r).length=r.length+2:=rfl;have h2:(b :: r).length=r.length+1:=rfl;omega
   rw [e,List.eraseIdx_cons_succ,ih]
   all_goals rfl
section
variable{X:Cx}{pins:List (Addr×Obj)}{σ:St}{H:Hp}{s:Shared}{l b:Addr}{xs ys zs:List V}
theorem Inv.lset{its its':List Value}{n:Nat}{f:Array Value->Array Value}{t':Nat}(I:Inv X pins σ H s)(hH:H l=some (.lst xs))
  (e:s.heap.get? l=some { cls := .type "list",data := .seq its.toArray n }) (hf:f its.toArray=its'.toArray) (hv:Vals ys its') (hz:ys.length<=sizeLine) :
  Inv X pins σ (upd H l (.lst ys)) { s with heap:=s.heap.update l (Obj.mapSeq f),toks:=t' }:=by
 have q:=PySem.IsL.update e f;rw [hf] at q;refine I.write (x:=l) (e:=l) (by rw [hH];exact trivial) (.inl rfl) (λb' u hb hu=>(Heap.get?_update_other s.heap (Obj.mapSeq f) (Ne.symm hb)).trans hu) ⟨_,q⟩ ?_
 exact ⟨hz,its',_,hv,q⟩
theorem Inv.lnew{its:List Value}{t':Nat}(I:Inv X pins σ H s)(hv:Vals ys its)(hz:ys.length<=sizeLine):
  Inv X pins σ (upd H s.heap.objs.size (.lst ys)) { s with heap:=s.heap.push { cls := .type "list",data := .seq its.toArray },toks:=t' } :=
 I.laid (λ_ _ q=>Gw _ q) (GA _) ⟨hz,its,0,hv,GF _ rfl⟩
theorem Inv.fresh(I:Inv X pins σ H s):H s.heap.objs.size=none:=I.hok.fresh (GA _)
theorem Inv.lstM(I:Inv X pins σ H s)(hH:H l=some (.lst xs)):xs.length<=sizeLine /\ ∃ (its:List Value) (n:Nat),Vals xs its/\xs.length=its.length/\s.heap.get? l=some { cls := .type "list",data := .seq its.toArray n }:=by
 obtain ⟨z,its,n,r,e⟩:=I.hok l _ hH;exact ⟨z,its,n,r,r.length,e⟩
theorem wq{n:Nat}(h:n<=sizeLine):Builtin.List.listTooLong n=false:=by
 unfold Builtin.List.listTooLong;exact decide_eq_false (by omega)
end
section
variable{X:Cx}
noncomputable def xH:V->List V->Hp->VK->Prop:=λx vs H Q => ∃ l xs y,x=.ref l/\vs=[y]/\H l=some (.lst xs)/\xs.length < sizeLine/\Q .non (upd H l (.lst (xs++[y])))
theorem mQ:MtM X "list.append" xH:=by
 intro pins s σ H x vs v us Q I rx rv h;obtain ⟨l,xs,y,rfl,rfl,hH,hz,q⟩:=h;cases rx;obtain ⟨u,rfl,ru⟩:=rv.one;obtain ⟨z,its,n,r,hl,e⟩:=I.lstM hH;refine call_meets F.slot_list_append ⟨_,e,rfl⟩ F.entry_list_append (F.args_list_append_2 _ _) (PySem.list_append l its.toArray n u (by rw [List.size_toArray];omega)) ⟨e,?_⟩
 refine ⟨.non,_,I.lset (its':=its++[u]) hH e (by simp) (r.append (.cons ru .nil)) ?_,rfl,q⟩
 rw [List.length_append,List.length_singleton];omega
noncomputable def xl:V->List V->Hp->VK->Prop:=λx vs H Q => ∃ l b xs zs,x=.ref l/\vs=[.ref b]/\H l=some (.lst xs)/\H b=some (.lst zs)/\xs.length+zs.length<=sizeLine/\Q .non (upd H l (.lst (xs++zs)))
theorem vi:MtM X "list.extend" xl:=by
 intro pins s σ H x vs v us Q I rx rv h;obtain ⟨l,b,xs,zs,rfl,rfl,hH,hB,hz,q⟩:=h;cases rx;obtain ⟨u,rfl,ru⟩:=rv.one;cases ru;obtain ⟨z,its,n,r,hl,e⟩:=I.lstM hH;obtain ⟨z2,its2,n2,r2,hl2,e2⟩:=I.lstM hB;have hsz:its.toArray.size+its2.toArray.size<=sizeLine:=by rw [List.size_toArray,List.size_toArray];omega
 have hlong : ¬ (!its.toArray.isEmpty && Builtin.List.listTooLong (its.toArray.size+its2.toArray.size))=true:=by
  rw [wq hsz,Bool.and_false];exact Gz
 refine call_meets F.slot_list_extend ⟨_,e,rfl⟩ F.entry_list_extend (F.args_list_extend_2 _ _)
  (AutoSeq1.list_extend_list_list_0 l its.toArray n b its2.toArray n2 hlong (by rw [List.size_toArray];omega) (by omega)) ⟨e,e2,?_⟩
 refine ⟨.non,_,I.lset (its':=its++its2) hH e (by simp) (r.append r2) ?_,rfl,q⟩
 rw [List.length_append];omega
noncomputable def FT:V->List V->Hp->VK->Prop:=λx vs H Q => ∃ l xs y,x=.ref l/\vs=[]/\H l=some (.lst xs)/\xs[xs.length - 1]? = some y/\Q y (upd H l (.lst xs.dropLast))
theorem BZ:MtM X "list.pop" FT:=by
 intro pins s σ H x vs v us Q I rx rv h;obtain ⟨l,xs,y,rfl,rfl,hH,hy,q⟩:=h;cases rx;have hus:=rv.zero;subst hus;obtain ⟨z,its,n,r,hl,e⟩:=I.lstM hH;obtain ⟨u,hu,ru⟩:=r.get hy;have hy':its.toArray[its.toArray.size - 1]? = some u:=by
  show its.toArray[its.length - 1]? = some u;rw [<-Array.getElem?_toList,<-hl];exact hu
 refine call_meets F.slot_list_pop ⟨_,e,rfl⟩ F.entry_list_pop (F.args_list_pop_1 _) (MeetsSeq.list_pop_last l its.toArray n u hy' (by rw [List.size_toArray];omega)) ⟨e,?_⟩
 refine ⟨y,_,I.lset (its':=its.dropLast) hH e ?_ r.dropLast ?_,ru,q⟩
 .show its.toArray.eraseIdxIfInBounds (its.toArray.size - 1)=its.dropLast.toArray
  rw [List.size_toArray,List.eraseIdxIfInBounds_toArray,uG]
 .rw [List.length_dropLast]
  omega
noncomputable def sI:R2:=λx y H Q => ∃ l b xs zs,x=.ref l/\y=.ref b/\H l=some (.lst xs)/\H b=some (.lst zs)/\xs.length+zs.length<=sizeLine /\ ∀ p,H p=none->Q (.ref p) (upd H p (.lst (xs++zs)))
theorem AE:OpR X (binaryOp .Add) sI:=by
 intro pins s σ H x y v u Q I rx ry h;obtain ⟨l,b,xs,zs,rfl,rfl,hH,hB,hz,q⟩:=h;cases rx;cases ry;obtain ⟨z,its,n,r,hl,e⟩:=I.lstM hH;obtain ⟨z2,its2,n2,r2,hl2,e2⟩:=I.lstM hB;refine PySem.P.add_list e e2 ?_ (by rw [List.size_toArray,List.size_toArray];omega)
 have ea:its.toArray++its2.toArray=(its++its2).toArray:=by simp
 rw [ea];exact ⟨.ref _,_,I.lnew (t':=s.toks) (r.append r2) (by rw [List.length_append];omega),rfl,q _ I.fresh⟩
end
section
variable{prog:Program}{w:World}{A:Around}{E:Value->Shared->Prop}{s:Shared}
end
section
variable{X:Cx}
end
end L2
namespace Att
open PySem PySem.W PySem.Calls PyProof.Rows
theorem tV{P:Params}{h:Heap}:∀ (ns:List Int) (vs:List Value),WellAll P h vs (ns.map WData.int)->IntsAre vs ns:=by
 intro ns
 induction ns with
 | nil =>
  intro vs w;rw [List.map_nil] at w;cases w;exact .nil
 | cons n ns ih =>
  intro vs w;rw [List.map_cons] at w;cases w with
  | cons a b =>
   cases a;exact .cons _ _ (ih _ b)
theorem vp{l:OpenLaw}{n:Nat}(hn:l.most=some n){P:Params}{h:Heap}{args:List WData}{vals:List Value}
  (hpre:l.row.toRowW.claim.pre args=true) (hwl:WellAll P h vals args) :
  ∃ a vs ns,vals=[Value.ref a]/\args=[WData.list (ns.map WData.int)]/\h.get? a=some { cls := .type "list",data := .seq vs.toArray }/\IntsAre vs ns/\ns.length<=n:=by
 have hsh:WShape.hasAll [] args [.list .int]=true:=(pre_splitW hpre).1;have hc:l.pre.holds [] { args:=args }=true:=(pre_splitW hpre).2;obtain ⟨d,r,rfl,h1,h2⟩:=hasAllW_cons hsh;obtain rfl:=hasAllW_nil h2;obtain ⟨xs,rfl,h3⟩:=hasW_list h1;obtain ⟨ns,rfl⟩:=items_int h3;have hlen:ns.length<=n:=by
  unfold OpenLaw.pre at hc;have h4:(WTm.not (.lt (.lit (.int (n:Int))) (.len (.arg 0)))).holds [] { args:=[.list (ns.map .int)] }=true:=by
   have h4:=(holds_andW hc).1;rw [hn] at h4;exact h4
  have h5:=condW_of h4 (w_not (w_lt w_lit (w_len_list (w_arg rfl))));rw [List.length_map] at h5;refine Nat.le_of_not_lt λq => ?_;have q':(n:Int) < ((ns.length:Nat):Int):=by omega
  first
   | (rw [decide_eq_true q'] at h5;exact absurd h5 (by decide))
   | (simp at h5;omega)
 cases hwl with
 | cons w1 w2 =>
  cases w2;cases w1 with
  | list ho hall=>exact ⟨_,_,ns,rfl,rfl,ho,tV ns _ hall,hlen⟩
theorem vh(l:OpenLaw)(args:List WData):l.row.toRowW.claim.post args (.bool true) args=true :=
 postW_of (r:=l.row.toRowW) (X:=(true == true))
  (show WShape.has [] (.bool true) .bool=true by first | rfl | decide | simp [WShape.has,WShape.arms,WShape.armsAll])
  (show (WTm.eq .res (.lit (.bool true))).value [] { args:=args,res:=some (.bool true),after:=args }=some (.bool (true == true)) from w_eq_bool (w_res rfl) w_lit) rfl
theorem attach_call{l:OpenLaw}{n:Nat}{q:Program}{loose:List Str}{XP:(Str->Option Value)->Heap->Prop}{YP:World->Heap->Prop}{d:DefRec}
  (hn:l.most=some n) (hdf:d.params.defaults=[])
  (call:∀ (w:World) (s₀ s₁ : Shared) (mg mb:Str->Option Value) (fa:Addr) (o:Obj) (pm cd doc:Value) (a:Addr) (vs:List Value) (ns:List Int),
   Ground q loose [] XP w s₀ mg mb s₁.heap->YP w s₁.heap ->
   s₁.heap.get? fa=some o->o.data=.func (docDef d.name d.params d.body d.scope pm cd doc)->s₁.heap.CodeRec cd d.name->mg d.name=some (.ref fa) ->
   s₁.heap.get? a=some { cls := .type "list",data := .seq vs.toArray }->IntsAre vs ns->ns.length<=n->s₁.gens = #[] ->
   codeAny (model l.prog w) callerA (.call (.ref fa) ⟨[.ref a],[]⟩) (λr s'=>r=.ok (.ret (.bool true))/\OldK s₁.heap s'.heap/\s'.os=s₁.os/\AllBare s'.gens) s₁) :
  WalkO q loose XP YP l.row.toRowW d [] (λf vs=>PySem.call f vs):=by
 intro w s₀ s₁ mg mb G Y fa o pm cd doc dV kV ho hd hcd hD hmg hg args vals as hpre hlay hrd hwl hlo;obtain rfl:dV=.none:=Dflts.none hD hdf;obtain rfl:kV=.none:=Dflts.noKw hD;obtain ⟨a,vs,ns,rfl,rfl,hobj,hints,hlen⟩:=vp hn hpre hwl;refine enter_call (codeAny_mono (call w s₀ s₁ mg mb fa o pm cd doc a vs ns G Y ho (fd_plain hd) hcd hmg hobj hints hlen hg) λr s' hq => ?_);obtain ⟨rfl,h2,h3,h4⟩:=hq;exact ⟨.inl ⟨.bool true,.bool true,[],rfl,λ_=>rfl,.bool true,vh l _,λ_=>⟨List.Pairwise.nil,λ_ hm=>(nomatch hm)⟩⟩,h2,h3,h4⟩
section
variable{prog:Program}{w:World}{A:Around}{E:Value->Shared->Prop}{s:Shared}{K:Frag}
end
end Att
namespace L2
open PySem PySem.Spec PyProof.Rows
theorem m4:∀ {vs:List Value} {ns:List Int},IntsAre vs ns->Vals (ns.map V.int) vs
 | _,_,.nil => .nil
 | _,_,.cons n t h => .cons ⟨t,rfl⟩ (m4 h)
noncomputable def iK(H:Hp):Prop := ∀ b,H b=none \/ ∃ o xs,H b=some (.frz o (.lst xs))
theorem wH{P:Program}{w:World}{K:GJ}{mg mb:Str->Option Value}{CX:CXT}{k:Nat}{fa a:Addr}{fd:FuncData}{x:Str}{sp:Sp}{s₁ : Shared}{vs:List Value}{ns:List Int}
  (KX:K.In s₁.heap) (hns:s₁.heap.Ns mainGlobals mg) (hb:s₁.heap.Ns builtinsNs mb) (hbb:∀ x:Str,x ≠ "__name__" -> mb x=bootBuiltins x) (hlim:s₁.heap.NoLimit) (hg:s₁.gens = #[])
  (ha:s₁.heap.get? a=some { cls := .type "list",data := .seq vs.toArray }) (hi:IntsAre vs ns) (hl:ns.length<=sizeLine) (hr:Room k callerA)
  (F:∀ base:Heap,K.In base->base.Ns mainGlobals mg->FnOk P w K mg base CX k fa fd [x] sp) (hbind:∀ (s:Shared) (u:Value),BindsTo s fd ⟨[u],[]⟩ [(x,u)])
  (hsp:∀ H:Hp,iK H->SqL K H a (ns.map V.int)->sp [.ref a] H (λv _=>v=.bl true) λ_ _ _=>False)
  (hCX:∀ H e s',CX [] H s₁ (λ_ _ _=>False) e s'->False) :
  codeAny (model P w) callerA (.call (.ref fa) ⟨[.ref a],[]⟩) (λr s'=>r=.ok (.ret (.bool true))/\OldK s₁.heap s'.heap/\s'.os=s₁.os/\AllBare s'.gens) s₁ := by
 have rv:=m4 hi;have lenV:=hi.length;have core:∀ H:Hp,iK H->SqL K H a (ns.map V.int)->HOk P w H s₁.heap->(∀ b,H b≠none->b=a)->(H a≠none->K.lookup a=none) ->
   codeAny (model P w) callerA (.call (.ref fa) ⟨[.ref a],[]⟩) (λr s'=>r=.ok (.ret (.bool true))/\OldK s₁.heap s'.heap/\s'.os=s₁.os/\AllBare s'.gens) s₁ := by
  intro H hO hS hok hA hK;have base_of:∀ {b:Addr} {o:Obj},s₁.heap.get? b=some o->H b=none->(b9 s₁.heap H).get? b=some o:=λe n=>vW e n;have noA:∀ {b:Addr} {o:Obj} {es:Array DictEntry} {ep:Nat},s₁.heap.get? b=some o->o.data=.dict es ep->H b=none:=λ{b o es ep} e d=>by
   cases q:H b with
   | none=>rfl
   | some u =>
    have e':b=a:=hA b (by rw [q];simp)
    subst e';rw [ha] at e;cases e;have d':Data.seq vs.toArray _=Data.dict es ep:=d;cases d'
  have nsK:∀ {b:Addr} {m:Str->Option Value},s₁.heap.Ns b m->(b9 s₁.heap H).Ns b m:=λ{b m} ⟨o,es,ep,e,d,r⟩=>⟨o,es,ep,base_of e (noA e d),d,r⟩
  have hKb:K.In (b9 s₁.heap H):=λb o e=>base_of (KX b o e) (by
   cases q:H b with
   | none=>rfl
   | some u =>
    have e':b=a:=hA b (by rw [q];simp)
    subst e'
    rw [hK (by rw [q];simp)] at e;cases e)
  have hM:Mod K mg (b9 s₁.heap H):=⟨hKb,nsK hns,⟨mb,nsK hb,hbb⟩,let ⟨mc,h1,h2⟩:=hlim;⟨mc,nsK h1,h2⟩⟩
  have e0:Env0 P w K mg (b9 s₁.heap H) callerA [] s₁ H:=⟨rfl,hM,λb o e=>x5 e,Nat.le_of_eq (vj _ _),trivial,λb hb=>absurd (show b∈([]:List Addr) from hb) (by simp),hok,.of_eq hg⟩
  refine codeAny_mono ((F _ hKb (nsK hns)).run callerA [] s₁ H ⟨[.ref a],[]⟩ [.ref a] [.ref a] _ _ hr e0 (hbind s₁ (.ref a)) (.cons rfl .nil) (hsp H hO hS)) λr s' h => ?_;cases r with
  | error e=>exact (hCX H e s' h).elim
  | ok fl =>
   cases fl with
   | next=>exact False.elim h
   | brk=>exact False.elim h
   | cont=>exact False.elim h
   | ret u =>
    obtain ⟨v,H',os,bare,un,hok',r',q⟩:=h;have q':v=.bl true:=q;subst q';obtain rfl:u=Value.bool true:=r';refine ⟨rfl,OldK.of_keep λb o e => ?_,os,bare⟩;cases q:H b with
    | none=>exact un.keep b o e q (by intro z;exact absurd (show b∈([]:List Addr) from z) (by simp)) (by simp)
    | some u =>
     rcases hO b with z | ⟨ob,xs,z⟩
     .rw [q] at z;cases z
     .have z2:=un.frzs b ob _ z
      obtain ⟨e1,_⟩:=hok b _ z;obtain ⟨e2,_⟩:=hok' b _ z2;rw [e] at e1;cases e1;exact e2
 cases hk:K.lookup a with
 | some o =>
  have e:=KX a o hk;rw [ha] at e;cases e;refine core (λ_=>none) (λ_ => .inl rfl) (.inr ⟨_,vs.toArray,_,hk,rfl,rfl,rfl,by rw [List.size_toArray,lenV];exact hl,by simpa using rv⟩) (λb u z=>by have z':(none:Option HO)=some u:=z;cases z') (λb z=>absurd rfl z) λz=>absurd rfl z
 | none =>
  refine core (λb=>if b=a then some (.frz { cls := .type "list",data := .seq vs.toArray } (.lst (ns.map V.int))) else none) (λb => ?_) (.inl (.inr ⟨{ cls := .type "list",data := .seq vs.toArray },if_pos rfl⟩)) (λb u z => ?_) (λb z => ?_) λ_=>hk
  .by_cases hb:b=a
   .exact .inr ⟨_,_,if_pos hb⟩
   .exact .inl (if_neg hb)
  .by_cases hb:b=a
   .have z':=(if_pos hb).symm.trans z
    cases z';subst hb;exact ⟨ha,by rw [List.length_map];exact hl,vs,_,rv,ha⟩
   .have z':=(if_neg hb).symm.trans z
    cases z'
  .by_cases hb:b=a
   .exact hb
   .exact absurd (if_neg hb) z
end L2
namespace L2
open PySem PySem.Spec PyProof.Rows
end L2
namespace L2
open PySem PySem.Spec PyProof.Rows
noncomputable def eW(s:Stmt):Arguments:=match s with
 | .FunctionDef _ a _ _ _ _ _ _ _ _=>a
 | _=>{ posonlyargs:=[],args:=[],vararg:=none,kwonlyargs:=[],kw_defaults:=[],kwarg:=none,defaults:=[] }
noncomputable def eV(s:Stmt):List Stmt:=match s with
 | .FunctionDef _ _ b _ _ _ _ _ _ _=>b
 | _=>[]
noncomputable def bT(s:Stmt):Scope:=match s with
 | .FunctionDef _ _ _ _ _ _ sc _ _ _=>sc
 | _=>{ kind := .function,names:=[],isGenerator:=false,isCoroutine:=false }
noncomputable abbrev CX0:CXT:=λ_ _ _ _ _ _=>False
noncomputable abbrev E0:XK:=λ_ _ _=>False
theorem rG{X:Cx}:ig CX0 X E0:=λ_ _ _ _ _ _ _ h=>h.elim
structure Fun(K:GJ)(x qual:Str)(st:Stmt)(f:Addr)(fd:FuncData):Prop where
 ex:∃ (oc:Value) (od:Option Addr) (kV doc pm:Value) (an:Option Addr) (cdv ct:Value) (osl:Array (Option Value)),
  fd=PySem.W.fnOf x qual (eW st) (eV st) (bT st) .none kV doc pm an cdv ct/\K.lookup f=some ⟨oc,od,.func fd,osl⟩/\PySem.W.codeIn K cdv qual=true
 kp:PySem.W.keepIn K (.ref f)=true
section
variable{P:Program}{w:World}{K:GJ}{mg:Str->Option Value}{base:Heap}
end
section
variable{X:Cx}
end
theorem eE{A B:Prop}(h:B):if false=true then A else B:=by
 rw [if_neg Gz];exact h
theorem eF{A B:Prop}(h:A):if true=true then A else B:=by
 rw [if_pos rfl];exact h
end L2
namespace L2
open PySem PySem.Spec PyProof.Rows
section
variable{κ:Type}[DecidableEq κ]
noncomputable def a6(kvs:List (κ×V))(k:κ):Option V:=(kvs.find? λkv=>decide (kv.1=k)).map (·.2)
noncomputable def putK(kvs:List (κ×V))(k:κ)(v:V):List (κ×V) :=
 if (kvs.any λkv=>decide (kv.1=k))=true then kvs.map (λkv=>if kv.1=k then (kv.1,v) else kv) else kvs++[(k,v)]
theorem dE{p:κ×V}{r:List (κ×V)}{k:κ}(e:p.1=k):a6 (p :: r) k=some p.2:=by simp [a6,List.find?_cons,e]
theorem dF{p:κ×V}{r:List (κ×V)}{k:κ}(e : ¬ p.1=k):a6 (p :: r) k=a6 r k:=by simp [a6,List.find?_cons,e]
theorem nY(k:κ):∀ kvs:List (κ×V),(kvs.any λkv=>decide (kv.1=k))=(a6 kvs k).isSome
 | []=>rfl
 | p :: r=>by
  rw [List.any_cons];by_cases e:p.1=k
  .simp only [dE e,decide_eq_true e,Bool.true_or,Option.isSome_some]
  .rw [dF e,decide_eq_false e,Bool.false_or];exact nY k r
theorem iP(kvs:List (κ×V))(k:κ)(v:V):(putK kvs k v).length<=kvs.length+1:=by
 unfold putK;split
 .rw [List.length_map];omega
 .rw [List.length_append,List.length_cons,List.length_nil];omega
theorem RelO.isSome_eq{o:Option V}{u:Option Value}(r:RelO o u):o.isSome=u.isSome:=by
 cases o with
 | none=>cases u with
  | none=>rfl
  | some _=>exact (show False from r).elim
 | some _=>cases u with
  | none=>exact (show False from r).elim
  | some _=>rfl
theorem KV.val{kvs:List (κ×V)}{vs:List (κ×Value)}(r:KV kvs vs)(k:κ):RelO (a6 kvs k) (valueAt vs k):=by
 unfold KV at r
 induction r with
 | nil=>exact True.intro
 | @cons p q ps qs h t ih =>
  obtain ⟨h1,h2⟩:=h;by_cases e:p.1=k
  .have e':q.1=k:=h1.symm.trans e
   have b:valueAt (q :: qs) k=some q.2:=by simp [valueAt,List.find?_cons,e']
   rw [dE e,b];exact h2
  .have e' : ¬ q.1=k:=λz=>e (h1.trans z)
   have b:valueAt (q :: qs) k=valueAt qs k:=by simp [valueAt,List.find?_cons,e']
   rw [dF e,b];exact ih
theorem KV.any{kvs:List (κ×V)}{vs:List (κ×Value)}(r:KV kvs vs)(k:κ):(kvs.any λkv=>decide (kv.1=k))=vs.any λkv=>decide (kv.1=k):=by
 unfold KV at r
 induction r with
 | nil=>rfl
 | cons h t ih=>rw [List.any_cons,List.any_cons,ih,h.1]
theorem KV.repl{kvs:List (κ×V)}{vs:List (κ×Value)}(r:KV kvs vs)(k:κ){y:V}{u:Value}(ry:RelV y u):
  KV (kvs.map λkv=>if kv.1=k then (kv.1,y) else kv) (vs.map λkv=>if kv.1=k then (kv.1,u) else kv):=by
 unfold KV at r ⊢
 induction r with
 | nil=>exact .nil
 | @cons p q ps qs h t ih =>
  rw [List.map_cons,List.map_cons];refine .cons ?_ ih;obtain ⟨h1,h2⟩:=h;by_cases e:p.1=k
  .rw [if_pos e,if_pos (h1.symm.trans e)];exact ⟨h1,ry⟩
  .rw [if_neg e,if_neg (λz=>e (h1.trans z))];exact ⟨h1,h2⟩
theorem KV.put{kvs:List (κ×V)}{vs:List (κ×Value)}(r:KV kvs vs)(k:κ){y:V}{u:Value}(ry:RelV y u):KV (putK kvs k y) (stored vs k u):=by
 unfold putK stored;rw [r.any k];by_cases e:(vs.any λkv=>decide (kv.1=k))=true
 .rw [if_pos e,if_pos e];exact r.repl k ry
 .rw [if_neg e,if_neg e];exact Paired.snoc r ⟨rfl,ry⟩
theorem KV.length{kvs:List (κ×V)}{vs:List (κ×Value)}(r:KV kvs vs):kvs.length=vs.length:=Paired.length r
end
theorem fF{P:Program}{w:World}{k:Key}{u:Value}(r:RelV (kV k) u):(aZ P w).is k u=true:=by
 cases k with
 | inl i=>obtain ⟨t,e⟩:=(show ∃ t,u=Value.int i t from r);subst e;exact uh P w i t
 | inr x=>obtain ⟨t,e⟩:=(show ∃ t,u=Value.str x t from r);subst e;exact ur P w x t
theorem nt{P:Program}{w:World}:∀ {ks:List Key} {us:List Value},Vals (ks.map kV) us->ItemsAre (aZ P w) ks us
 | [],_,r=>by rw [List.map_nil] at r;cases r;exact .nil
 | k :: ks,_,r=>by
  rw [List.map_cons] at r;cases r with
  | cons h t=>exact .cons (fF h) (nt t)
noncomputable abbrev KT(H:Hp):List (List Key×V)->List (List Key×Addr×Value)->Prop:=Paired λp q=>p.1=q.1/\H q.2.1=some (.tup (p.1.map kV))/\RelV p.2 q.2.2
theorem KT.val{H:Hp}{kvs:List (List Key×V)}{xs:List (List Key×Addr×Value)}(r:KT H kvs xs)(k:List Key):RelO (a6 kvs k) ((atKey xs k).map (·.2)):=by
 induction r with
 | nil=>exact True.intro
 | @cons p q ps qs h t ih =>
  obtain ⟨h1,_,h2⟩:=h;by_cases e:p.1=k
  .have e':q.1=k:=h1.symm.trans e
   have b:atKey (q :: qs) k=some q.2:=by simp [atKey,List.find?_cons,e']
   rw [dE e,b];exact h2
  .have e' : ¬ q.1=k:=λz=>e (h1.trans z)
   have b:atKey (q :: qs) k=atKey qs k:=by simp [atKey,List.find?_cons,e']
   rw [dF e,b];exact ih
theorem KT.repl{H:Hp}{kvs:List (List Key×V)}{xs:List (List Key×Addr×Value)}(r:KT H kvs xs)(k:List Key){y:V}{u:Value}(ry:RelV y u):
  KT H (kvs.map λkv=>if kv.1=k then (kv.1,y) else kv) (xs.map (putAt k u)):=by
 induction r with
 | nil=>exact .nil
 | @cons p q ps qs h t ih =>
  rw [List.map_cons,List.map_cons];refine .cons ?_ ih;obtain ⟨h1,h2,h3⟩:=h;unfold putAt;by_cases e:p.1=k
  .rw [if_pos e,if_pos (h1.symm.trans e)];exact ⟨h1,h2,ry⟩
  .rw [if_neg e,if_neg (λz=>e (h1.trans z))];exact ⟨h1,h2,h3⟩
theorem KT.put{H:Hp}{kvs:List (List Key×V)}{xs:List (List Key×Addr×Value)}(r:KT H kvs xs)(k:List Key){b:Addr}{y:V}{u:Value}(hb:H b=some (.tup (k.map kV)))(ry:RelV y u):
  KT H (putK kvs k y) (storedH xs k b u):=by
 have e:(kvs.any λkv=>decide (kv.1=k))=(atKey xs k).isSome:=by
  rw [nY,(r.val k).isSome_eq,Option.isSome_map]
 unfold putK storedH;rw [e];by_cases q:(atKey xs k).isSome=true
 .rw [if_pos q,if_pos q];exact r.repl k ry
 .rw [if_neg q,if_neg q];exact Paired.snoc r ⟨rfl,hb,ry⟩
theorem KT.keeps{H H':Hp}{kvs:List (List Key×V)}{xs:List (List Key×Addr×Value)}(r:KT H kvs xs)(ht:∀ b ys,H b=some (.tup ys)->H' b=some (.tup ys)):KT H' kvs xs :=
 Paired.mapP r λ_ _ z=>⟨z.1,ht _ _ z.2.1,z.2.2⟩
section
variable{P:Program}{w:World}{H:Hp}{h:Heap}{a:Addr}
theorem rn{u:HO}(ok:HOk P w H h)(e:Rd H a u):ObjOk P w H h a u:=e.ok ok
theorem fM{kvs:List (Key×V)}(ok:HOk P w H h)(e:Rd H a (.dK kvs)):kvs.length<=sizeLine/\(a == sysModules)=false /\ ∃ vs,KV kvs vs/\h.DictOf (aZ P w) a vs :=
 show ObjOk P w H h a (.dK kvs) from rn ok e
theorem Ec{kvs:List (Key×V)}(ok:HOk P w H h)(e:H a=some (.dK kvs)):kvs.length<=sizeLine/\(a == sysModules)=false /\ ∃ vs,KV kvs vs/\h.DictOf (aZ P w) a vs:=fM ok (.inl e)
theorem df{ks:List Key}(ok:HOk P w H h)(e:H a=some (.tup (ks.map kV))):(tupleKind (aZ P w)).is h ks a:=by
 obtain ⟨_,its,r,o,h1,h2,n,h3⟩:=(show ObjOk P w H h a (.tup (ks.map kV)) from ok a _ e);exact ⟨o,its.toArray,n,h1,h2,h3,by simpa using nt r⟩
theorem fI{kvs:List (List Key×V)}(ok:HOk P w H h)(e:Rd H a (.dT kvs)):kvs.length<=sizeLine/\(a == sysModules)=false /\
  ∃ xs,KT H kvs xs/\h.DictOfH (tupleKind (aZ P w)) a xs:=by
 obtain ⟨z,y,xs,r,o,es,ep,h1,h2,h3,h4,h5⟩:=(show ObjOk P w H h a (.dT kvs) from rn ok e);refine ⟨z,y,xs,r,o,es,ep,h1,h2,h3,h4,λx hx => ?_,h5⟩;have all:∀ {l:List (List Key×V)} {m:List (List Key×Addr×Value)},KT H l m -> ∀ x∈m,(tupleKind (aZ P w)).is h x.1 x.2.1:=by
  intro l m q
  induction q with
  | nil=>intro x hx;exact nomatch hx
  | @cons p q ps qs hq t ih =>
   intro x hx;rcases List.mem_cons.mp hx with e | hx
   .subst e
    exact df ok (by rw [<-hq.1];exact hq.2.1)
   .exact ih x hx
 exact all r x hx
theorem kf{kvs:List (List Key×V)}(ok:HOk P w H h)(e:H a=some (.dT kvs)):kvs.length<=sizeLine/\(a == sysModules)=false /\
  ∃ xs,KT H kvs xs/\h.DictOfH (tupleKind (aZ P w)) a xs:=fI ok (.inl e)
end
noncomputable def DGet(H:Hp)(a:Addr)(y:V)(r:Option V):Prop :=
 (∃ kvs k,Rd H a (.dK kvs)/\y=kV k/\r=a6 kvs k) \/ ∃ kvs k b,Rd H a (.dT kvs)/\y=.ref b/\H b=some (.tup (k.map kV))/\r=a6 kvs k
noncomputable def DPut(H:Hp)(a:Addr)(y v:V)(H':Hp):Prop :=
 (∃ kvs k,H a=some (.dK kvs)/\y=kV k/\kvs.length < sizeLine/\H'=upd H a (.dK (putK kvs k v))) \/
 ∃ kvs k b,H a=some (.dT kvs)/\y=.ref b/\H b=some (.tup (k.map kV))/\kvs.length < sizeLine/\H'=upd H a (.dT (putK kvs k v))
theorem DGet.k{H:Hp}{a:Addr}{kvs:List (Key×V)}{k:Key}(e:H a=some (.dK kvs)):DGet H a (kV k) (a6 kvs k) := .inl ⟨kvs,k,.inl e,rfl,rfl⟩
theorem DGet.t{H:Hp}{a b:Addr}{kvs:List (List Key×V)}{k:List Key}(e:H a=some (.dT kvs))(eb:H b=some (.tup (k.map kV))):DGet H a (.ref b) (a6 kvs k) := .inr ⟨kvs,k,b,.inl e,rfl,eb,rfl⟩
theorem DPut.k{H:Hp}{a:Addr}{kvs:List (Key×V)}{k:Key}{v:V}(e:H a=some (.dK kvs))(hl:kvs.length < sizeLine):DPut H a (kV k) v (upd H a (.dK (putK kvs k v))) := .inl ⟨kvs,k,e,rfl,hl,rfl⟩
theorem DPut.t{H:Hp}{a b:Addr}{kvs:List (List Key×V)}{k:List Key}{v:V}(e:H a=some (.dT kvs))(eb:H b=some (.tup (k.map kV)))(hl:kvs.length < sizeLine):
  DPut H a (.ref b) v (upd H a (.dT (putK kvs k v))) := .inr ⟨kvs,k,b,e,rfl,eb,hl,rfl⟩
section
variable{X:Cx}{pins:List (Addr×Obj)}{σ:St}{H:Hp}{s:Shared}{a:Addr}{y v:V}{u r:Value}{o:Option V}{A:Around}{E:Value->Shared->Prop}
theorem Inv.big(I:Inv X pins σ H s):sysModules < s.heap.objs.size:=by
 have h:mainGlobals < s.heap.objs.size:=(I.mod.glob.keeps I.bk).lt;exact Nat.lt_trans (by decide) h
theorem vc{Q:Value->Shared->Prop}(hu:A.units+1 < cLine)(I:Inv X pins σ H s)(g:DGet H a y (some v))(ry:RelV y u)(h:∀ w' s',Inv X pins σ H s'->RelV v w'->Q w' s'):
  wpAny (model X.prog X.w) A (getItem (.ref a) u) Q E s:=by
 rcases g with ⟨kvs,k,e,ey,l⟩ | ⟨kvs,k,b,e,ey,eb,l⟩
 .subst ey
  obtain ⟨z,hd,vs,rel,dd⟩:=fM I.hok e;obtain ⟨w',hw,rw'⟩:=RelO.some_of (v:=v) (o:=valueAt vs k) (by rw [l];exact rel.val k)
  exact wpAny_getItem_of (fF ry) dd.mapOf hw (h w' _ (I.tok _) rw')
 .subst ey
  cases (show u=Value.ref b from ry);obtain ⟨z,hd,xs,rel,dd⟩:=fI I.hok e;obtain ⟨w',hw,rw'⟩:=RelO.some_of (v:=v) (o:=(atKey xs k).map (·.2)) (by rw [l];exact rel.val k)
  obtain ⟨p,hp,hp2⟩:=Option.map_eq_some_iff.mp hw;refine wpAny_getItem_heap (tupleKind_room_in1 hu) (df I.hok eb) dd hp ?_;rw [hp2];exact h w' _ (I.tok _) rw'
theorem Gc{Q:Value->Shared->Prop}(hu:A.units+1 < cLine)(I:Inv X pins σ H s)(g:DGet H a y o)(ry:RelV y u)(h:∀ s',Inv X pins σ H s'->Q (.bool o.isSome) s'):
  wpAny (model X.prog X.w) A (compareOp .In u (.ref a)) Q E s:=by
 rcases g with ⟨kvs,k,e,ey,l⟩ | ⟨kvs,k,b,e,ey,eb,l⟩
 .subst ey
  obtain ⟨z,hd,vs,rel,dd⟩:=fM I.hok e;refine wpAny_in_of (fF ry) hd dd.mapOf ?_;rw [<-(rel.val k).isSome_eq,<-l];exact h _ (I.tok _)
 .subst ey
  cases (show u=Value.ref b from ry);obtain ⟨z,hd,xs,rel,dd⟩:=fI I.hok e;refine wpAny_in_heap (tupleKind_room_in1 hu) (df I.hok eb) hd dd ?_;have q:=(rel.val k).isSome_eq;rw [Option.isSome_map] at q;rw [<-q,<-l];exact h _ (I.tok _)
theorem yE{Q:Value->Shared->Prop}(hu:A.units+1 < cLine)(I:Inv X pins σ H s)(g:DGet H a y o)(ry:RelV y u)(h:∀ s',Inv X pins σ H s'->Q (.bool (!o.isSome)) s'):
  wpAny (model X.prog X.w) A (compareOp .NotIn u (.ref a)) Q E s:=by
 rcases g with ⟨kvs,k,e,ey,l⟩ | ⟨kvs,k,b,e,ey,eb,l⟩
 .subst ey
  obtain ⟨z,hd,vs,rel,dd⟩:=fM I.hok e;refine wpAny_notIn_of (fF ry) hd dd.mapOf ?_;rw [<-(rel.val k).isSome_eq,<-l];exact h _ (I.tok _)
 .subst ey
  cases (show u=Value.ref b from ry);obtain ⟨z,hd,xs,rel,dd⟩:=fI I.hok e;refine wpAny_notIn_heap (tupleKind_room_in1 hu) (df I.hok eb) hd dd ?_;have q:=(rel.val k).isSome_eq;rw [Option.isSome_map] at q;rw [<-q,<-l];exact h _ (I.tok _)
theorem gK{h':Heap}{t':Nat}{ob:HO}(I:Inv X pins σ H s)(mu:Mut (H a))(hs:Heap.SameBut a s.heap h')(he:∃ q,h'.get? a=some q)(new:ObjOk X.prog X.w (upd H a ob) h' a ob):
  Inv X pins σ (upd H a ob) { s with heap:=h',toks:=t' } :=
 I.write (x:=a) (e:=a) mu (.inl rfl) (λb q hb z=>(hs.2 b hb).trans z) he new
theorem Bo{P:Program}{w:World}{H':Hp}{h':Heap}{kvs:List (Key×V)}{vs:List (Key×Value)}(z:kvs.length<=sizeLine)(hd:(a == sysModules)=false)(rel:KV kvs vs)(dd:h'.DictOf (aZ P w) a vs):
  ObjOk P w H' h' a (.dK kvs):=⟨z,hd,vs,rel,dd⟩
theorem u6{H':Hp}{Q:Unit->Shared->Prop}(hu:A.units+1 < cLine)(I:Inv X pins σ H s)(g:DPut H a y v H')(ry:RelV y u)(rv:RelV v r)(h:∀ s',Inv X pins σ H' s'->Q () s'):
  wpAny (model X.prog X.w) A (setItem (.ref a) u r) Q E s:=by
 rcases g with ⟨kvs,k,e,ey,l,eH⟩ | ⟨kvs,k,b,e,ey,eb,l,eH⟩
 .subst ey eH
  obtain ⟨z,hd,vs,rel,dd⟩:=Ec I.hok e;have hz:vs.length<=sizeLine:=by rw [<-rel.length];exact z
  have hl:(putK kvs k v).length<=sizeLine:=by have:=iP kvs k v;omega
  refine wpAny_setItem_pairs (hsz:=hz) (fF ry) dd λh' dd' hs=>h _ ?_;have he:∃ q,h'.get? a=some q:=let ⟨q,_,_,hq,_⟩:=dd';⟨q,hq⟩
  exact gK I (by rw [e];exact True.intro) hs he (Bo hl hd (rel.put k rv) dd')
 .subst ey eH
  cases (show u=Value.ref b from ry);obtain ⟨z,hd,xs,rel,dd⟩:=kf I.hok e;have hz:xs.length<=sizeLine:=by rw [<-Paired.length rel];exact z
  have hl:(putK kvs k v).length<=sizeLine:=by have:=iP kvs k v;omega
  refine wpAny_setItem_heap (hsz:=hz) (tupleKind_room_in1 hu) (df I.hok eb) dd λh' dd' hs=>h _ ?_;obtain ⟨q,es,ep,hq,h2,h3,h4,_,h5⟩:=dd';refine gK I (by rw [e];exact True.intro) hs ⟨q,hq⟩ ⟨hl,hd,_,(rel.put k eb rv).keeps λc ys ec => ?_,q,es,ep,hq,h2,h3,h4,h5⟩
  rw [ar (dj ec e (λz=>nomatch z))];exact ec
end
section
variable{X:Cx}{pins:List (Addr×Obj)}{σ:St}{H:Hp}{s:Shared}{a:Addr}{kvs:List (Key×V)}{k:Key}{u:Value}{A:Around}{E:Value->Shared->Prop}
end
end L2
namespace L2
open PySem PySem.Spec PyProof.Rows
theorem oe{P:Program}{w:World}{H:Hp}(h:Heap)(hb:sysModules < h.objs.size):ObjOk P w H (h.push { cls := .type "dict",data := .dict #[] }) h.objs.size (.dT []) :=
 ⟨Nat.zero_le _,beq_eq_false_iff_ne.mpr (Ne.symm (GD hb)),[],.nil,_,#[],0,GF _ rfl,⟨rfl,rfl,rfl⟩,rfl,rfl,List.nodup_nil⟩
noncomputable def Bv:TE:=λ_ H Q => ∀ p,H p=none->Q (.ref p) (upd H p (.dT []))
section
variable{X:Cx}{pos:Pos}
theorem wx:PE X (.Dict [] [] pos) Bv:=λpins s σ H Q I h =>
 wpAny_Dict_empty ⟨.ref s.heap.objs.size,_,I.laid (a:=s.heap.objs.size) (o := .dT []) (t':=s.toks) (λ_ _ q=>Gw _ q) (GA _) (oe s.heap I.big),rfl,h _ (I.hok.fresh (GA _))⟩
end
structure M1(X:Cx)(o:Expr)(m:Str)(apos:Pos)(e:Expr)(cpos:Pos):Prop where
 base:attributeBase o m X.env (eval o X.env)=eval o X.env
 few:((backTo cpos (starEach [e] X.env)).all (λx => !x.1) && (backToKw cpos (keywordEach [] X.env)).all (λx=>x.1.isSome)
  && decide (([e]:List Expr).length+([]:List Keyword).length+(if ([]:List Keyword).isEmpty then 0 else 1) < 30))=true
 line:(apos.endLine == cpos.line)=true
 trees:backTo cpos (starEach [e] X.env)=[(false,eval e X.env)]
structure M2(X:Cx)(o:Expr)(m:Str)(apos:Pos)(e f:Expr)(cpos:Pos):Prop where
 base:attributeBase o m X.env (eval o X.env)=eval o X.env
 few:((backTo cpos (starEach [e,f] X.env)).all (λx => !x.1) && (backToKw cpos (keywordEach [] X.env)).all (λx=>x.1.isSome)
  && decide (([e,f]:List Expr).length+([]:List Keyword).length+(if ([]:List Keyword).isEmpty then 0 else 1) < 30))=true
 line:(apos.endLine == cpos.line)=true
 trees:backTo cpos (starEach [e,f] X.env)=[(false,eval e X.env),(false,eval f X.env)]
section
variable{X:Cx}{pins:List (Addr×Obj)}{σ:St}{H:Hp}{s:Shared}{a:Addr}{y d:V}{u r:Value}{o:Option V}{A:Around}{E:Value->Shared->Prop}
end
section
variable{X:Cx}{o e f:Expr}{apos cpos:Pos}{td ty tx:TE}
end
end L2
namespace PI
noncomputable section
open PySem
noncomputable def adv(M:Nat)(p:SetTable.Probe):SetTable.Probe :=
 if p.more > 0 then { p with j:=p.j+1,more:=p.more - 1 } else
 let (i,perturb):=SetTable.leap M p.i p.perturb
 { p with j:=i,more:=SetTable.runEnd M i - i,i,perturb }
noncomputable def aD(M:Nat):Nat->SetTable.Probe->SetTable.Probe
 | 0,p=>p
 | n+1,p=>aD M n (adv M p)
noncomputable def pst(M:Nat)(h:Int):SetTable.Probe :=
 let i:=SetTable.bits h % (M+1)
 { j:=i,more:=SetTable.runEnd M i - i,i,perturb:=SetTable.bits h,dummy:=none }
noncomputable def pj(M:Nat)(h:Int)(n:Nat):Nat:=(aD M n (pst M h)).j
theorem gx(M:Nat):∀ (a b:Nat) (p:SetTable.Probe),aD M (a+b) p=aD M b (aD M a p)
 | 0,b,p=>by rw [Nat.zero_add];rfl
 | a+1,b,p=>by rw [Nat.succ_add];exact gx M a b _
theorem vm(M n:Nat)(p:SetTable.Probe):aD M (n+1) p=adv M (aD M n p):=gx M n 1 p
theorem vJ(M:Nat)(p:SetTable.Probe):(adv M p).dummy=p.dummy:=by unfold adv;split <;> rfl
theorem mP(M:Nat):∀ (n:Nat) (p:SetTable.Probe),(aD M n p).dummy=p.dummy
 | 0,_=>rfl
 | n+1,p=>(mP M n _).trans (vJ M p)
theorem jv(M:Nat):∀ (n:Nat) (p:SetTable.Probe),n<=p.more->aD M n p={ p with j:=p.j+n,more:=p.more - n }
 | 0,p,_=>rfl
 | n+1,p,h=>by
  have e:adv M p={ p with j:=p.j+1,more:=p.more - 1 }:=by unfold adv;rw [if_pos (by omega)]
  show aD M n (adv M p)=_;rw [e,jv M n _ (by show n<=p.more - 1;omega)]
  show SetTable.Probe.mk .. = SetTable.Probe.mk ..;congr 1
  .show p.j+1+n=p.j+(n+1);omega
  .show p.more - 1 - n=p.more - (n+1);omega
noncomputable def head(M i q:Nat):SetTable.Probe:={ j:=i,more:=SetTable.runEnd M i - i,i,perturb:=q,dummy:=none }
theorem oG(M i q:Nat):aD M (SetTable.runEnd M i - i+1) (head M i q)=head M ((i*5+1+q / 32) % (M+1)) (q / 32):=by
 rw [vm,jv M (SetTable.runEnd M i - i) (head M i q) (GA _)];unfold adv;rw [if_neg (by show ¬ (SetTable.runEnd M i - i - (SetTable.runEnd M i - i)) > 0;omega)]
 rfl
theorem Cn(M i:Nat):SetTable.runEnd M i - i<=9:=by unfold SetTable.runEnd;split <;> omega
noncomputable def lp(M:Nat):Nat->Nat×Nat->Nat×Nat
 | 0,x=>x
 | k+1,x=>lp M k ((x.1*5+1+x.2 / 32) % (M+1),x.2 / 32)
theorem ik(M:Nat):∀ (a b:Nat) (x:Nat×Nat),lp M (a+b) x=lp M b (lp M a x)
 | 0,b,x=>by rw [Nat.zero_add];rfl
 | a+1,b,x=>by rw [Nat.succ_add];exact ik M a b _
theorem nT(M:Nat):∀ (k:Nat) (i q:Nat),∃ n,n<=10*k/\aD M n (head M i q)=head M (lp M k (i,q)).1 (lp M k (i,q)).2
 | 0,i,q=>⟨0,GA _,rfl⟩
 | k+1,i,q=>by
  obtain ⟨n,hn,e⟩:=nT M k ((i*5+1+q / 32) % (M+1)) (q / 32);refine ⟨(SetTable.runEnd M i - i+1)+n,by have:=Cn M i;omega,?_⟩
  rw [gx,oG,e];rfl
theorem jU(M:Nat):∀ (k:Nat) (x:Nat×Nat),(lp M k x).2=x.2 / 32 ^ k
 | 0,x=>by rw [Nat.pow_zero,Nat.div_one];rfl
 | k+1,x=>by
  show (lp M k _).2=_;rw [jU M k,Nat.div_div_eq_div_mul,Nat.pow_succ,Nat.mul_comm (32 ^ k)]
noncomputable def orb(M:Nat)(k:Nat):Nat:=(lp M k (0,0)).1
theorem oV(M:Nat)(k i:Nat):lp M k (i,0)=((lp M k (i,0)).1,0):=by
 have:=jU M k (i,0);rw [Nat.zero_div] at this;exact Prod.ext rfl this
noncomputable def fT(M:Nat):Nat->Nat->List Nat
 | 0,_=>[]
 | n+1,i=>i :: fT M n ((i*5+1) % (M+1))
noncomputable def rnd(M:Nat):Bool:=(List.range (M+1)).all λj=>(fT M (M+1) 0).contains j
noncomputable def Mok(M:Nat):Prop:=M=7\/M=31\/M=127\/M=511
theorem ow(M:Nat):∀ (n i k:Nat),k < n->(fT M n i)[k]? = some (lp M k (i,0)).1
 | 0,_,_,h=>by omega
 | n+1,i,0,_=>rfl
 | n+1,i,k+1,h=>by
  show (fT M n _)[k]? = _;rw [ow M n _ k (by omega)]
  show _=some (lp M k ((i*5+1+0 / 32) % (M+1),0 / 32)).1;rw [Nat.zero_div,Nat.add_zero]
theorem oz(M:Nat):∀ (n i:Nat),(fT M n i).length=n
 | 0,_=>rfl
 | n+1,i=>congrArg (· + 1) (oz M n _)
theorem rh{M:Nat}(h:Mok M):rnd M=true/\orb M (M+1)=0:=by
 rcases h with rfl | rfl | rfl | rfl <;> decide +kernel
theorem qa{M:Nat}(h:Mok M){j:Nat}(hj:j<=M):∃ k,k<=M/\orb M k=j:=by
 have h1:=(rh h).1;unfold rnd at h1;rw [List.all_eq_true] at h1;have h2:=h1 j (List.mem_range.mpr (by omega))
 rw [List.contains_iff_mem] at h2;obtain ⟨k,hk,e⟩:=List.getElem_of_mem h2;have hl:k < M+1:=by rw [oz] at hk;exact hk
 refine ⟨k,by omega,?_⟩
 have:=ow M (M+1) 0 k hl;rw [List.getElem?_eq_getElem hk,e] at this;exact (Option.some.inj this).symm
theorem yt{M:Nat}(h:Mok M)(k:Nat):orb M (M+1+k)=orb M k:=by
 unfold orb;rw [ik,oV M (M+1) 0];rw [show (lp M (M+1) (0,0)).1=0 from (rh h).2]
theorem xM{M:Nat}(h:Mok M){i j:Nat}(hi:i<=M)(hj:j<=M):∃ k,k<=M/\(lp M k (i,0)).1=j:=by
 obtain ⟨a,ha,ea⟩:=qa h hi;obtain ⟨b,hb,eb⟩:=qa h hj;have key:∀ k,(lp M k (i,0)).1=orb M (a+k):=λk=>by
  unfold orb;rw [ik,oV M a 0];rw [show (lp M a (0,0)).1=i from ea]
 by_cases hab:a<=b
 .exact ⟨b - a,by omega,by rw [key,show a+(b - a)=b by omega];exact eb⟩
 .exact ⟨M+1+b - a,by omega,by rw [key,show a+(M+1+b - a)=M+1+b by omega,yt h];exact eb⟩
theorem y0(h:Int):SetTable.bits h < 2 ^ 64:=by
 unfold SetTable.bits;have h1:0<=h % (2 ^ 64:Int):=Int.emod_nonneg _ (by decide)
 have h2:h % (2 ^ 64:Int) < 2 ^ 64:=Int.emod_lt_of_pos _ (by decide)
 omega
theorem rA(M:Nat):∀ (k:Nat) (x:Nat×Nat),x.1<=M->(lp M k x).1<=M
 | 0,x,h=>h
 | k+1,x,_=>rA M k _ (Nat.le_of_lt_succ (Nat.mod_lt _ (by omega)))
theorem nS{M:Nat}(hM:Mok M)(h:Int){j:Nat}(hj:j<=M):∃ k,k<=M+13/\(lp M k (SetTable.bits h % (M+1),SetTable.bits h)).1=j:=by
 have h0:(lp M 13 (SetTable.bits h % (M+1),SetTable.bits h)).2=0:=by
  rw [jU];exact Nat.div_eq_of_lt (Nat.lt_trans (y0 h) (by decide))
 have h1:(lp M 13 (SetTable.bits h % (M+1),SetTable.bits h)).1<=M:=rA M 13 _ (Nat.le_of_lt_succ (Nat.mod_lt _ (by omega)))
 obtain ⟨k,hk,e⟩:=xM hM h1 hj;refine ⟨13+k,by omega,?_⟩
 rw [ik];have:lp M 13 (SetTable.bits h % (M+1),SetTable.bits h)=((lp M 13 (SetTable.bits h % (M+1),SetTable.bits h)).1,0):=Prod.ext rfl h0;rw [this];exact e
theorem wy{M:Nat}(hM:Mok M)(h:Int){j:Nat}(hj:j<=M):∃ n,n < 10*SetTable.turns M/\pj M h n=j:=by
 obtain ⟨k,hk,e⟩:=nS hM h hj;obtain ⟨n,hn,en⟩:=nT M k (SetTable.bits h % (M+1)) (SetTable.bits h);refine ⟨n,by unfold SetTable.turns;omega,?_⟩
 unfold pj;rw [show pst M h=head M (SetTable.bits h % (M+1)) (SetTable.bits h) from rfl,en];exact e
theorem Ct{M:Nat}(p:SetTable.Probe)(h:p.j+p.more<=M):(adv M p).j+(adv M p).more<=M:=by
 unfold adv;split
 .show p.j+1+(p.more - 1)<=M;omega
 .show (p.i*5+1+p.perturb / 32) % (M+1)+(SetTable.runEnd M ((p.i*5+1+p.perturb / 32) % (M+1)) - (p.i*5+1+p.perturb / 32) % (M+1))<=M
  have:(p.i*5+1+p.perturb / 32) % (M+1) < M+1:=Nat.mod_lt _ (by omega)
  unfold SetTable.runEnd;split <;> omega
theorem pZ{M:Nat}:∀ (n:Nat) (p:SetTable.Probe),p.j+p.more<=M->(aD M n p).j<=M
 | 0,p,h=>by show p.j<=M;omega
 | n+1,p,h=>pZ n _ (Ct p h)
theorem iq(M:Nat)(h:Int)(n:Nat):pj M h n<=M:=by
 refine pZ n _ ?_;show SetTable.bits h % (M+1)+(SetTable.runEnd M (SetTable.bits h % (M+1)) - SetTable.bits h % (M+1))<=M;have:SetTable.bits h % (M+1) < M+1:=Nat.mod_lt _ (by omega)
 unfold SetTable.runEnd;split <;> omega
theorem v9{P:Nat->Prop}:∀ (n:Nat),P n -> ∃ N,N<=n/\P N /\ ∀ m,m < N -> ¬ P m:=λn=>by
 induction n using Nat.strongRecOn with
 | _ n ih =>
  intro h;by_cases hm:∃ m,m < n/\P m
  .obtain ⟨m,h1,h2⟩:=hm
   obtain ⟨N,a,b,c⟩:=ih m h1 h2;exact ⟨N,by omega,b,c⟩
  .exact ⟨n,GA _,h,λm h1 h2=>hm ⟨m,h1,h2⟩⟩
theorem jo(xs:Array Nat)(j:Nat)(hr:∀ (a b x y:Nat),a < b->xs[a]? = some x->xs[b]? = some y->x < y):∀ (fu lo hi:Nat),hi - lo<=fu->lo<=hi->hi<=xs.size ->
  (∀ i x,i < lo->xs[i]? = some x->x < j)->(∀ i x,hi<=i->xs[i]? = some x->j<=x) ->
  (∀ i x,i < SetTable.below.go xs j fu lo hi->xs[i]? = some x->x < j)/\(∀ i x,SetTable.below.go xs j fu lo hi<=i->xs[i]? = some x->j<=x)/\SetTable.below.go xs j fu lo hi<=xs.size
 | 0,lo,hi,h,h',hs,h1,h2=>⟨h1,λi x hi' e=>h2 i x (by have:lo<=i:=hi';omega) e,by show lo<=_;omega⟩
 | fu+1,lo,hi,h,h',hs,h1,h2=>by
  unfold SetTable.below.go;split
  .rename_i hlt
   dsimp only;have hm:(lo+hi) / 2 < xs.size:=by omega
   have ex:xs[(lo+hi) / 2]? = some xs[(lo+hi) / 2]:=Array.getElem?_eq_getElem hm;have eg:xs.getD ((lo+hi) / 2) j=xs[(lo+hi) / 2]:=by unfold Array.getD;rw [dif_pos hm];rfl
   rw [eg];by_cases hx:xs[(lo+hi) / 2] < j
   .rw [if_pos hx]
    refine jo xs j hr fu ((lo+hi) / 2+1) hi (by omega) (by omega) hs (λi x hi' e => ?_) h2
    by_cases q:i=(lo+hi) / 2
    .subst q;rw [ex] at e;cases e;exact hx
    .exact Nat.lt_trans (hr i _ x _ (by omega) e ex) hx
   .rw [if_neg hx]
    refine jo xs j hr fu lo ((lo+hi) / 2) (by omega) (by omega) (by omega) h1 λi x hi' e => ?_
    by_cases q:i=(lo+hi) / 2
    .subst q;rw [ex] at e;cases e;omega
    .have:=hr _ i _ x (by omega) ex e;omega
  .rename_i hlt
   exact ⟨h1,λi x hi' e=>h2 i x (by omega) e,by omega⟩
noncomputable abbrev Z3:=List (Nat×Int×Value)
structure Tb(t:SetTable)(es:Array (Int×Value))(Z:Z3):Prop where
 hp:t.place=(Z.map (·.1)).toArray
 he:es=(Z.map (·.2)).toArray
 hd:t.dummies = #[]
 hs:Z.Pairwise λa b=>a.1 < b.1
 hl:∀ z∈Z,z.1<=t.mask
 hM:Mok t.mask
 hn:Z.length<=t.mask
 met:∀ z∈Z,∃ n,pj t.mask z.2.1 n=z.1 /\ ∀ m,m < n -> ∃ y∈Z,y.1=pj t.mask z.2.1 m
section
variable{t:SetTable}{es:Array (Int×Value)}{Z:Z3}
theorem Tb.get(T:Tb t es Z){i x:Nat}:t.place[i]? = some x ↔ ∃ z,Z[i]? = some z/\z.1=x:=by
 rw [T.hp];simp [List.getElem?_map]
theorem Tb.lt(T:Tb t es Z)(a b x y:Nat)(h:a < b)(ea:t.place[a]? = some x)(eb:t.place[b]? = some y):x < y:=by
 obtain ⟨z,h1,rfl⟩:=T.get.mp ea;obtain ⟨u,h2,rfl⟩:=T.get.mp eb;obtain ⟨ha,rfl⟩:=List.getElem?_eq_some_iff.mp h1;obtain ⟨hb,rfl⟩:=List.getElem?_eq_some_iff.mp h2;exact List.pairwise_iff_getElem.mp T.hs a b ha hb h
theorem Tb.below(T:Tb t es Z)(j:Nat):(∀ i x,i < SetTable.below t.place j->t.place[i]? = some x->x < j)/\(∀ i x,SetTable.below t.place j<=i->t.place[i]? = some x->j<=x)/\SetTable.below t.place j<=t.place.size :=
 jo t.place j T.lt t.place.size 0 t.place.size (by omega) (Nat.zero_le _) (GA _) (λi x h _=>by omega) (λi x h e=>by
  have:=(Array.getElem?_eq_some_iff.mp e).1;omega)
theorem Tb.live(T:Tb t es Z){i:Nat}{z:Nat×Int×Value}(h:Z[i]? = some z):t.slot z.1=.live i:=by
 obtain ⟨b1,b2,b3⟩:=T.below z.1;have e:t.place[i]? = some z.1:=T.get.mpr ⟨z,h,rfl⟩;have hi:SetTable.below t.place z.1=i:=by
  rcases Nat.lt_trichotomy (SetTable.below t.place z.1) i with q | q | q
  .have hs:SetTable.below t.place z.1 < t.place.size:=Nat.lt_trans q (Array.getElem?_eq_some_iff.mp e).1
   have e2:t.place[SetTable.below t.place z.1]? = some t.place[SetTable.below t.place z.1]:=Array.getElem?_eq_getElem hs;have h1:=b2 _ _ (GA _) e2;have h2:=T.lt _ _ _ _ q e2 e;omega
  .exact q
  .have:=b1 i _ q e;omega
 unfold SetTable.slot;dsimp only;rw [hi,e,if_pos (by simp)]
theorem Tb.empty(T:Tb t es Z){j:Nat}(h:∀ z∈Z,z.1≠j):t.slot j=.empty:=by
 unfold SetTable.slot;dsimp only;rw [if_neg,if_neg]
 .rw [T.hd];unfold SetTable.has;simp
 .intro e
  have e:t.place[SetTable.below t.place j]? = some j:=by simpa using e
  obtain ⟨z,h1,h2⟩:=T.get.mp e;exact h z (List.mem_of_getElem? h1) h2
theorem Tb.slots(T:Tb t es Z)(j:Nat):(∃ i z,Z[i]? = some z/\z.1=j/\t.slot j=.live i)\/((∀ z∈Z,z.1≠j)/\t.slot j=.empty):=by
 by_cases h:∃ z∈Z,z.1=j
 .obtain ⟨z,hz,rfl⟩:=h
  obtain ⟨i,e⟩:=List.getElem?_of_mem hz;exact .inl ⟨i,z,e,rfl,T.live e⟩
 .have h':∀ z∈Z,z.1≠j:=λz hz e=>h ⟨z,hz,e⟩
  exact .inr ⟨h',T.empty h'⟩
theorem Tb.spare(T:Tb t es Z):∃ j,j<=t.mask /\ ∀ z∈Z,z.1≠j:=by
 refine GG λhc => ?_;have h1:List.range (t.mask+1) ⊆ Z.map (·.1):=λj hj=>by
  have hj:=List.mem_range.mp hj;refine GG λhn=>hc ⟨j,by omega,λz hz e=>hn (List.mem_map.mpr ⟨z,hz,e⟩)⟩
 have h2:=List.Nodup.length_le_of_subset (List.nodup_range) h1;rw [List.length_range,List.length_map] at h2;have:=T.hn;omega
theorem Tb.hash(T:Tb t es Z){i:Nat}{z:Nat×Int×Value}(h:Z[i]? = some z):es[i]? = some z.2:=by
 rw [T.he];simp [h]
noncomputable def hAt(es:Array (Int×Value))(i:Nat):Int:=(es[i]?.map (·.1)).getD 0
theorem Tb.hAt(T:Tb t es Z){i:Nat}{z:Nat×Int×Value}(h:Z[i]? = some z):hAt es i=z.2.1:=by
 unfold PI.hAt;rw [T.hash h];rfl
theorem mD{f:Nat->Int}{h:Int}:∀ (n fu:Nat) (p:SetTable.Probe),(∀ m,m < n -> ∃ i,t.slot (aD t.mask m p).j=.live i/\f i≠h) ->
  SetTable.probe.go t f h (fu+n) p=SetTable.probe.go t f h fu (aD t.mask n p)
 | 0,fu,p,_=>rfl
 | n+1,fu,p,H=>by
  obtain ⟨i,e,hi⟩:=H 0 (Nat.succ_pos _);have e:t.slot p.j=.live i:=e;show SetTable.probe.go t f h ((fu+n)+1) p=_;rw [SetTable.probe.go,e];dsimp only;rw [if_neg (by simpa using hi)]
  exact mD n fu (adv t.mask p) λm hm=>H (m+1) (by omega)
theorem Tb.probe(T:Tb t es Z)(h:Int):
  (∃ i z j nx,Z[i]? = some z/\z.2.1=h/\z.1=j/\t.probe (PI.hAt es) h (t.probeStart h)=some (.candidate j i nx)) \/
  ((∀ z∈Z,z.2.1≠h) /\ ∃ N,t.probe (PI.hAt es) h (t.probeStart h)=some (.empty (pj t.mask h N) none)/\(∀ z∈Z,z.1≠pj t.mask h N)/\pj t.mask h N<=t.mask /\ ∀ m,m < N -> ∃ y∈Z,y.1=pj t.mask h m):=by
 obtain ⟨j0,hj0,hf0⟩:=T.spare;obtain ⟨n0,hn0,e0⟩:=wy T.hM h hj0
 let P:Nat->Prop:=λn => ∀ i,t.slot (pj t.mask h n)=.live i->PI.hAt es i=h
 have hP0:P n0:=λi e=>by
  rw [e0,T.empty hf0] at e;cases e
 obtain ⟨N,hN,PN,hmin⟩:=v9 n0 hP0;have skip:∀ m,m < N -> ∃ i,t.slot (aD t.mask m (t.probeStart h)).j=.live i/\PI.hAt es i≠h:=λm hm=>by
  have:=hmin m hm;refine GG λhc=>this λi e=>GG λhne=>hc ⟨i,e,hne⟩
 have run:t.probe (PI.hAt es) h (t.probeStart h)=SetTable.probe.go t (PI.hAt es) h ((10*SetTable.turns t.mask - N - 1)+1) (aD t.mask N (t.probeStart h)):=by
  unfold SetTable.probe;have:10*SetTable.turns t.mask=((10*SetTable.turns t.mask - N - 1)+1)+N:=by omega
  rw [this];rw [mD N _ _ skip];congr 1;omega
 have before:∀ m,m < N -> ∃ y∈Z,y.1=pj t.mask h m:=λm hm=>by
  obtain ⟨i,e,_⟩:=skip m hm;rcases T.slots (pj t.mask h m) with ⟨i',z,ez,e1,e2⟩ | ⟨_,e2⟩
  .exact ⟨z,List.mem_of_getElem? ez,e1⟩
  .rw [show (aD t.mask m (t.probeStart h)).j=pj t.mask h m from rfl,e2] at e;cases e
 rcases T.slots (pj t.mask h N) with ⟨i,z,ez,e1,e2⟩ | ⟨hn,e2⟩
 .refine .inl ⟨i,z,_,t.advance (aD t.mask N (t.probeStart h)),ez,?_,e1,?_⟩
  .rw [<-T.hAt ez];exact PN i e2
  .rw [run,SetTable.probe.go]
   rw [show (aD t.mask N (t.probeStart h)).j=pj t.mask h N from rfl,e2];dsimp only;rw [if_pos (by rw [PN i e2];simp)]
 .refine .inr ⟨λz hz eh => ?_,N,?_,hn,?_,before⟩
  .obtain ⟨nz,en,hb⟩:=T.met z hz
   rw [eh] at en hb;rcases Nat.lt_or_ge N nz with q | q
   .obtain ⟨y,hy,ey⟩:=hb N q
    exact hn y hy ey
   .rcases Nat.lt_or_ge nz N with q2 | q2
    .have:=hmin nz q2
     obtain ⟨i,ei⟩:=List.getElem?_of_mem hz;refine this λi' e' => ?_;rw [en,T.live ei] at e';cases e';rw [T.hAt ei];exact eh
    .have:nz=N:=by omega
     subst this;exact hn z hz en.symm
  .rw [run,SetTable.probe.go]
   rw [show (aD t.mask N (t.probeStart h)).j=pj t.mask h N from rfl,e2];dsimp only;rw [show (aD t.mask N (t.probeStart h)).dummy=none from mP _ _ _]
  .exact iq _ _ _
end
section
variable{t:SetTable}{es:Array (Int×Value)}{Z:Z3}
theorem mw{α:Type}(xs:List α)(p:Nat)(x:α):SetTable.insertAt xs.toArray p x=(xs.take p++x :: xs.drop p).toArray:=by
 apply Array.toList_inj.mp;rw [SetTable.toList_insertAt]
theorem gO{α:Type}{xs:List α}{p:Nat}{x y:α}:y∈xs.take p++x :: xs.drop p ↔ y=x\/y∈xs:=by
 rw [List.mem_append,List.mem_cons];constructor
 .rintro (h | h | h)
  .exact .inr (List.mem_of_mem_take h)
  .exact .inl h
  .exact .inr (List.mem_of_mem_drop h)
 .rintro (h | h)
  .exact .inr (.inl h)
  .rw [<-List.take_append_drop p xs,List.mem_append] at h
   exact h.elim .inl λh => .inr (.inr h)
theorem Tb.put(T:Tb t es Z){h:Int}{x:Value}{N:Nat}(h1:∀ z∈Z,z.1≠pj t.mask h N)(h2:∀ m,m < N -> ∃ y∈Z,y.1=pj t.mask h m)(h3:Z.length+1<=t.mask):
  ∃ p,(t.put (pj t.mask h N)).2=p/\Tb (t.put (pj t.mask h N)).1 (SetTable.insertAt es p (h,x)) (Z.take p++(pj t.mask h N,h,x) :: Z.drop p):=by
 refine ⟨_,rfl,?_⟩;obtain ⟨b1,b2,b3⟩:=T.below (pj t.mask h N);have hp2:(t.put (pj t.mask h N)).2=SetTable.below t.place (pj t.mask h N):=rfl;rw [hp2];have hm:(t.put (pj t.mask h N)).1.mask=t.mask:=rfl;constructor
 .show SetTable.insertAt t.place _ _=_
  rw [T.hp,mw];simp
 .rw [T.he,mw]
  simp
 .show (if _ then _ else t.dummies)=_
  rw [T.hd];rw [if_neg];unfold SetTable.has;simp
 .have hs:=T.hs
  rw [<-List.take_append_drop (SetTable.below t.place (pj t.mask h N)) Z,List.pairwise_append] at hs;rw [List.pairwise_append,List.pairwise_cons];have hb:∀ a∈Z.take (SetTable.below t.place (pj t.mask h N)),a.1 < pj t.mask h N:=λa ha=>by
   obtain ⟨i,hi,e⟩:=List.getElem_of_mem ha;rw [List.length_take] at hi;rw [List.getElem_take] at e;exact b1 i a.1 (by omega) (T.get.mpr ⟨a,by rw [<-e];exact List.getElem?_eq_getElem (by omega),rfl⟩)
  have ha:∀ a∈Z.drop (SetTable.below t.place (pj t.mask h N)),pj t.mask h N < a.1:=λa ha=>by
   obtain ⟨i,hi,e⟩:=List.getElem_of_mem ha;rw [List.length_drop] at hi;rw [List.getElem_drop] at e;have:=b2 _ a.1 (Nat.le_add_right _ i) (T.get.mpr ⟨a,by rw [<-e];exact List.getElem?_eq_getElem (by omega),rfl⟩)
   exact Nat.lt_of_le_of_ne this λq=>h1 a (List.mem_of_mem_drop ha) q.symm
  refine ⟨hs.1,⟨ha,hs.2.1⟩,λa h' b h'' => ?_⟩;rcases List.mem_cons.mp h'' with rfl | h''
  .exact hb a h'
  .exact hs.2.2 a h' b h''
 .intro z hz
  rw [hm];rcases gO.mp hz with rfl | hz
  .exact iq _ _ _
  .exact T.hl z hz
 .exact T.hM
 .rw [hm]
  have:(Z.take (SetTable.below t.place (pj t.mask h N))++(pj t.mask h N,h,x) :: Z.drop (SetTable.below t.place (pj t.mask h N))).length=Z.length+1:=by
   rw [List.length_append,List.length_cons,List.length_take,List.length_drop];omega
  omega
 .intro z hz
  rw [hm];rcases gO.mp hz with rfl | hz
  .exact ⟨N,rfl,λm hm=>let ⟨y,hy,e⟩:=h2 m hm;⟨y,gO.mpr (.inr hy),e⟩⟩
  .obtain ⟨n,e,hb⟩:=T.met z hz
   exact ⟨n,e,λm hm=>let ⟨y,hy,e⟩:=hb m hm;⟨y,gO.mpr (.inr hy),e⟩⟩
theorem we{α:Type}(xs:List α)(p:Nat)(x:α):(xs.take p++x :: xs.drop p).Perm (x :: xs):=by
 have:=(List.perm_middle (a:=x) (l₁ := xs.take p) (l₂ := xs.drop p));rwa [List.take_append_drop] at this
end
noncomputable abbrev Own:=Array (Option Nat)
theorem pN{M:Nat}(owner:Own):∀ (fu i q:Nat),(∃ K,K < fu/\owner.getD (lp M K (i,q)).1 (some 0)=none) ->
  ∃ n,SetTable.layClean.free M owner fu i q=some (aD M n (head M i q)).j/\owner.getD (aD M n (head M i q)).j (some 0)=none /\ ∀ m,m < n->owner.getD (aD M m (head M i q)).j (some 0)≠none
 | 0,i,q,⟨K,h,_⟩=>by omega
 | fu+1,i,q,⟨K,hK,e⟩=>by
  rw [SetTable.layClean.free];have len:SetTable.runEnd M i+1 - i=(SetTable.runEnd M i - i)+1:=by unfold SetTable.runEnd;split <;> omega
  have at_:∀ m,m<=SetTable.runEnd M i - i->(aD M m (head M i q)).j=i+m:=λm hm=>by
   rw [jv M m (head M i q) hm];rfl
  cases ef:(List.range (SetTable.runEnd M i+1 - i)).find? λk=>(owner.getD (i+k) (some 0)).isNone with
  | some k =>
   dsimp only;obtain ⟨h1,h2,h3⟩:=List.find?_range_eq_some.mp ef;have hk:k < SetTable.runEnd M i+1 - i:=List.mem_range.mp h2;refine ⟨k,by rw [at_ k (by omega)],by rw [at_ k (by omega)];simpa using h1,λm hm => ?_⟩
   rw [at_ m (by omega)]
   have:=h3 m hm;intro q;rw [q] at this;simp at this
  | none =>
   dsimp only;have hn:∀ m,m<=SetTable.runEnd M i - i->owner.getD (i+m) (some 0)≠none:=λm hm=>by
    have:=List.find?_eq_none.mp ef m (List.mem_range.mpr (by omega))
    intro q;rw [q] at this;simp at this
   have hK0:K≠0:=λq0=>by
    subst q0;exact hn 0 (Nat.zero_le _) e
   obtain ⟨K',rfl⟩:=Nat.exists_eq_succ_of_ne_zero hK0;obtain ⟨n,a,b,c⟩:=pN owner fu ((i*5+1+q / 32) % (M+1)) (q / 32) ⟨K',by omega,e⟩
   have hj:∀ m,aD M ((SetTable.runEnd M i - i+1)+m) (head M i q)=aD M m (head M ((i*5+1+q / 32) % (M+1)) (q / 32)):=λm=>by rw [gx,oG]
   refine ⟨(SetTable.runEnd M i - i+1)+n,by rw [hj];exact a,by rw [hj];exact b,λm hm => ?_⟩
   rcases Nat.lt_or_ge m (SetTable.runEnd M i - i+1) with q1 | q1
   .rw [at_ m (by omega)];exact hn m (by omega)
   .have:m=(SetTable.runEnd M i - i+1)+(m - (SetTable.runEnd M i - i+1)):=by omega
    rw [this,hj];exact c _ (by omega)
structure LC(M:Nat)(owner:Own)(hs:List Int)(Y:List Nat):Prop where
 sz:owner.size=M+1
 len:Y.length=hs.length
 to:∀ (i j:Nat),Y[i]? = some j->owner[j]? = some (some i)
 fro:∀ (i j:Nat),owner[j]? = some (some i)->Y[i]? = some j
 met:∀ (i j:Nat) (h:Int),hs[i]? = some h->Y[i]? = some j -> ∃ n,pj M h n=j /\ ∀ m,m < n->pj M h m∈Y
theorem LC.getD{M:Nat}{owner:Own}{hs:List Int}{Y:List Nat}(L:LC M owner hs Y){j:Nat}(hj:j<=M):owner.getD j (some 0)=none ↔ j ∉ Y:=by
 have hlt:j < owner.size:=by rw [L.sz];omega
 have eg:owner.getD j (some 0)=owner[j]:=by unfold Array.getD;rw [dif_pos hlt];rfl
 rw [eg];constructor
 .intro e hm
  obtain ⟨i,ei⟩:=List.getElem?_of_mem hm;have:=L.to i j ei;rw [Array.getElem?_eq_getElem hlt,e] at this;cases this
 .intro hn
  cases e:owner[j] with
  | none=>rfl
  | some i=>exact absurd (List.mem_of_getElem? (L.fro i j (by rw [Array.getElem?_eq_getElem hlt,e]))) hn
noncomputable def fY(M:Nat):Option (Own×Nat)->Int->Option (Own×Nat):=λacc h=>do
  let (owner,k) <- acc
  let j <- SetTable.layClean.free M owner (SetTable.turns M) (SetTable.bits h % (M+1)) (SetTable.bits h)
  pure (owner.setIfInBounds j (some k),k+1)
theorem LC.step{M:Nat}(hM:Mok M){owner:Own}{hs:List Int}{Y:List Nat}(L:LC M owner hs Y)(hlen:hs.length<=M)(h:Int):
  ∃ owner' j,fY M (some (owner,hs.length)) h=some (owner',hs.length+1)/\LC M owner' (hs++[h]) (Y++[j]):=by
 have sp:∃ j,j<=M/\j ∉ Y:=by
  refine GG λhc => ?_;have h1:List.range (M+1) ⊆ Y:=λj hj=>by
   have hj:=List.mem_range.mp hj;exact GG λhn=>hc ⟨j,by omega,hn⟩
  have h2:=List.Nodup.length_le_of_subset (List.nodup_range) h1;rw [List.length_range] at h2;have:=L.len;omega
 obtain ⟨j0,hj0,hn0⟩:=sp;obtain ⟨K,hK,eK⟩:=nS hM h hj0;obtain ⟨n,a,b,c⟩:=pN (M:=M) owner (SetTable.turns M) (SetTable.bits h % (M+1)) (SetTable.bits h) ⟨K,by unfold SetTable.turns;omega,by rw [eK];exact (L.getD hj0).mpr hn0⟩
 have a:SetTable.layClean.free M owner (SetTable.turns M) (SetTable.bits h % (M+1)) (SetTable.bits h)=some (pj M h n):=a;have b:owner.getD (pj M h n) (some 0)=none:=b;have c:∀ m,m < n->owner.getD (pj M h m) (some 0)≠none:=c;have hle:=iq M h n;have hnew:pj M h n ∉ Y:=(L.getD hle).mp b;have hlt:pj M h n < owner.size:=by rw [L.sz];omega
 refine ⟨owner.setIfInBounds (pj M h n) (some hs.length),pj M h n,?_,?_⟩
 .unfold fY
  simp only [Option.pure_def,Option.bind_eq_bind,Option.bind_some,a]
 .constructor
  .rw [Array.size_setIfInBounds];exact L.sz
  .simp [L.len]
  .intro i j e
   rw [Array.getElem?_setIfInBounds];rw [List.getElem?_append] at e;split at e
   .have hj:j∈Y:=List.mem_of_getElem? e
    rw [if_neg (λq=>hnew (by rw [q];exact hj))]
    exact L.to i j e
   .rename_i hge
    have:i - Y.length=0:=by
     cases hq:i - Y.length with
     | zero=>rfl
     | succ k=>rw [hq] at e;simp at e
    rw [this] at e;simp at e;subst e;rw [if_pos rfl,if_pos hlt];have:=L.len;congr 2;omega
  .intro i j e
   rw [Array.getElem?_setIfInBounds] at e;by_cases q:pj M h n=j
   .rw [if_pos q,if_pos hlt] at e
    cases e;subst q;rw [<-L.len];simp
   .rw [if_neg q] at e
    have:=L.fro i j e;rw [List.getElem?_append_left (List.getElem?_eq_some_iff.mp this).1];exact this
  .intro i j h' eh e
   rcases Nat.lt_or_ge i hs.length with q | q
   .rw [List.getElem?_append_left q] at eh
    rw [List.getElem?_append_left (by rw [L.len];exact q)] at e
    obtain ⟨n',e1,e2⟩:=L.met i j h' eh e;exact ⟨n',e1,λm hm=>List.mem_append_left _ (e2 m hm)⟩
   .have:i=hs.length:=by
     have:=(List.getElem?_eq_some_iff.mp eh).1;simp at this;omega
    subst this;simp at eh;rw [<-L.len] at e;simp at e;subst eh e;exact ⟨n,rfl,λm hm=>List.mem_append_left _ (GG λhq=>c m hm ((L.getD (iq M h m)).mpr hq))⟩
theorem LC.all{M:Nat}(hM:Mok M):∀ (r hs:List Int) {owner:Own} {Y:List Nat},LC M owner hs Y->hs.length+r.length<=M ->
  ∃ owner' Y',r.foldl (fY M) (some (owner,hs.length))=some (owner',hs.length+r.length)/\LC M owner' (hs++r) Y'
 | [],hs,owner,Y,L,_=>⟨owner,Y,rfl,by rw [List.append_nil];exact L⟩
 | h :: r,hs,owner,Y,L,hl=>by
  rw [List.length_cons] at hl;obtain ⟨o1,j,e1,L1⟩:=L.step hM (by omega) h
  obtain ⟨o2,Y2,e2,L2⟩:=LC.all hM r (hs++[h]) L1 (by rw [List.length_append,List.length_singleton];omega)
  refine ⟨o2,Y2,?_,?_⟩
  .rw [List.foldl_cons,e1]
   rw [List.length_append,List.length_singleton] at e2;rw [e2,List.length_cons];congr 2;omega
  .rw [List.append_assoc] at L2;exact L2
theorem wt{M:Nat}(hM:Mok M)(hs:Array Int)(hl:hs.size<=M):∃ owner Y,SetTable.layClean M hs=some owner/\LC M owner hs.toList Y:=by
 have L0:LC M (Array.replicate (M+1) none) [] []:=by
  constructor
  .simp
  .rfl
  .intro i j e;simp at e
  .intro i j e
   rw [Array.getElem?_replicate] at e;split at e <;> cases e
  .intro i j h e;simp at e
 obtain ⟨o,Y,e,L⟩:=LC.all hM hs.toList [] L0 (by simpa using hl)
 refine ⟨o,Y,?_,by simpa using L⟩
 unfold SetTable.layClean;rw [<-Array.foldl_toList];have:hs.toList.foldl (fY M) (some (Array.replicate (M+1) none,0))=some (o,0+hs.toList.length):=by simpa using e
 show (List.foldl (fY M) (some (Array.replicate (M+1) none,0)) hs.toList).map (·.1)=some o;rw [this]
 rfl
noncomputable def bN(es:Array (Int×Value))(i:Nat):Int×Value:=(es[i]?).getD (0,.none)
noncomputable def liveL(M:Nat)(owner:Own):List (Nat×Nat):=(List.range (M+1)).filterMap λj=>(owner.getD j none).map (j,·)
section
variable{M:Nat}{owner:Own}{hs:List Int}{Y:List Nat}
theorem LC.live(L:LC M owner hs Y)(j i:Nat):(j,i)∈liveL M owner ↔ Y[i]? = some j:=by
 unfold liveL;rw [List.mem_filterMap];constructor
 .rintro ⟨j',hj',e⟩
  have hj':=List.mem_range.mp hj';have hlt:j' < owner.size:=by rw [L.sz];exact hj'
  have eg:owner.getD j' none=owner[j']:=by unfold Array.getD;rw [dif_pos hlt];rfl
  rw [eg] at e;cases eo:owner[j'] with
  | none=>rw [eo] at e;cases e
  | some i' =>
   rw [eo] at e;cases e;exact L.fro i j (by rw [Array.getElem?_eq_getElem hlt,eo])
 .intro e
  have h:=L.to i j e;have hlt:j < owner.size:=(Array.getElem?_eq_some_iff.mp h).1;refine ⟨j,List.mem_range.mpr (by rw [<-L.sz];exact hlt),?_⟩
  have eg:owner.getD j none=some i:=by
   unfold Array.getD;rw [dif_pos hlt];rw [Array.getElem?_eq_getElem hlt] at h;exact Option.some.inj h
  rw [eg];rfl
theorem pY(M:Nat)(owner:Own):(liveL M owner).Pairwise λa b=>a.1 < b.1:=by
 unfold liveL;rw [List.pairwise_filterMap];refine List.Pairwise.imp (λ{a a'} h b hb b' hb' => ?_) List.pairwise_lt_range;cases ea:owner.getD a none with
 | none=>rw [ea] at hb;cases hb
 | some i =>
  rw [ea] at hb;cases hb;cases eb:owner.getD a' none with
  | none=>rw [eb] at hb';cases hb'
  | some i'=>rw [eb] at hb';cases hb';exact h
theorem LC.order(L:LC M owner hs Y):((liveL M owner).map (·.2)).Perm (List.range hs.length):=by
 refine (List.perm_ext_iff_of_nodup ?_ List.nodup_range).mpr λi => ?_
 .refine List.pairwise_map.mpr (List.Pairwise.imp_of_mem (λ{a b} ha hb hab => ?_) (pY M owner))
  intro e;have h1:=(L.live a.1 a.2).mp ha;have h2:=(L.live b.1 b.2).mp hb;rw [e,h2] at h1;have:=Option.some.inj h1;omega
 .rw [List.mem_map,List.mem_range,<-L.len]
  constructor
  .rintro ⟨⟨j,i'⟩,hm,rfl⟩
   exact (List.getElem?_eq_some_iff.mp ((L.live j i').mp hm)).1
  .intro h
   exact ⟨(Y[i],i),(L.live _ _).mpr (List.getElem?_eq_getElem h),rfl⟩
end
theorem pz{α β:Type}{f:α->Option β}{g:α->β}:∀ (l:List α),(∀ x∈l,f x=some (g x))->l.filterMap f=l.map g
 | [],_=>rfl
 | a :: l,h=>by rw [List.filterMap_cons,h a GH,List.map_cons,pz l λx hx=>h x (GB _ hx)]
section
variable{t:SetTable}{es:Array (Int×Value)}{Z:Z3}
theorem Tb.len(T:Tb t es Z):es.size=Z.length:=by rw [T.he];simp
theorem Tb.relaid(T:Tb t es Z){wanted:Nat}(hM:Mok (SetTable.sizeAbove wanted - 1))(hl:Z.length<=SetTable.sizeAbove wanted - 1):
  ∃ t' order Z',t.relaid (es.map (·.1)) wanted=some (t',order)/\Tb t' (order.filterMap (es[·]?)) Z'/\(Z'.map (·.2)).Perm (Z.map (·.2))/\t'.mask=SetTable.sizeAbove wanted - 1/\t'.led=t.led/\t'.plain=t.plain:=by
 obtain ⟨owner,Y,e,L⟩:=wt hM (es.map (·.1)) (by rw [Array.size_map,T.len];exact hl)
 have hlen:(es.map (·.1)).toList.length=es.size:=by simp
 let M:=SetTable.sizeAbove wanted - 1
 let order:Array Nat:=((liveL M owner).map (·.2)).toArray
 let t':SetTable:={ mask:=M,place:=((liveL M owner).map (·.1)).toArray,dummies := #[],finger:=t.finger,led:=t.led,moves:=t.movedTo M,plain:=t.plain }
 let Z':Z3:=(liveL M owner).map λp=>(p.1,bN es p.2)
 have hmem:∀ p∈liveL M owner,es[p.2]? = some (bN es p.2):=λp hp=>by
  have h:=(List.getElem?_eq_some_iff.mp ((L.live p.1 p.2).mp hp)).1;rw [L.len,hlen] at h;unfold bN;rw [Array.getElem?_eq_getElem h];rfl
 refine ⟨t',order,Z',?_,?_,?_,rfl,rfl,rfl⟩
 .unfold SetTable.relaid SetTable.laid
  rw [e]
  rfl
 .constructor
  .show ((liveL M owner).map (·.1)).toArray=(List.map (λz:Nat×Int×Value=>z.1) (List.map _ _)).toArray
   rw [List.map_map];rfl
  .apply Array.toList_inj.mp
   rw [Array.toList_filterMap];show (((liveL M owner).map (·.2)).filterMap λx=>es[x]?)=(Z'.map (·.2));rw [List.filterMap_map,List.map_map];exact pz _ hmem
  .rfl
  .exact List.pairwise_map.mpr (pY M owner)
  .intro z hz
   obtain ⟨p,hp,rfl⟩:=List.mem_map.mp hz;have h:=L.to p.2 p.1 ((L.live p.1 p.2).mp hp);have:=(Array.getElem?_eq_some_iff.mp h).1;rw [L.sz] at this;exact Nat.le_of_lt_succ this
  .exact hM
  .show List.length (List.map _ _)<=M
   rw [List.length_map,<-List.length_map (f:=λp:Nat×Nat=>p.2),L.order.length_eq,List.length_range,hlen,T.len];exact hl
  .intro z hz
   obtain ⟨p,hp,rfl⟩:=List.mem_map.mp hz;have hy:=(L.live p.1 p.2).mp hp
   obtain ⟨n,e1,e2⟩:=L.met p.2 p.1 (bN es p.2).1 (by
    rw [Array.getElem?_toList,Array.getElem?_map,hmem p hp];rfl) hy
   refine ⟨n,e1,λm hm => ?_⟩;obtain ⟨i,ei⟩:=List.getElem?_of_mem (e2 m hm);exact ⟨_,List.mem_map.mpr ⟨(pj M (bN es p.2).1 m,i),(L.live _ _).mpr ei,rfl⟩,rfl⟩
 .show (List.map _ (List.map _ _)).Perm _
  rw [List.map_map];have h1:((liveL M owner).map ((λz:Nat×Int×Value=>z.2) ∘ λp=>(p.1,bN es p.2)))=((liveL M owner).map (·.2)).map (bN es):=by rw [List.map_map];rfl
  rw [h1];have h2:Z.map (·.2)=(List.range es.size).map (bN es):=by
   apply List.ext_getElem?;intro i;have he:es[i]? = (Z.map (·.2))[i]? := by rw [T.he];simp
   rw [<-he,List.getElem?_map];rcases Nat.lt_or_ge i es.size with q | q
   .rw [List.getElem?_range q]
    show _=some (bN es i);unfold bN;rw [Array.getElem?_eq_getElem q];rfl
   .rw [Array.getElem?_eq_none q,List.getElem?_eq_none (by rw [List.length_range];exact q)];rfl
  rw [h2];have:=L.order.map (bN es);rw [hlen] at this;exact this
theorem Tb.fill(T:Tb t es Z):t.fill=Z.length:=by unfold SetTable.fill;rw [T.hp,T.hd];simp
theorem Tb.full(T:Tb t es Z):t.tooFull=decide (Z.length*5 ≥ t.mask*3):=by unfold SetTable.tooFull;rw [T.fill]
theorem Tb.fits(T:Tb t es Z):t.fits es.size=true:=by
 unfold SetTable.fits;rw [T.fill,T.len];have:=T.hn;rw [T.hp];simp [this]
theorem yM{M n:Nat}(hM:Mok M)(h:n*5 < M*3)(h':(n+1)*5 ≥ M*3)(hn:n < 300):
  Mok (SetTable.sizeAbove (SetTable.grown (n+1)) - 1)/\(n+1)*5 < (SetTable.sizeAbove (SetTable.grown (n+1)) - 1)*3/\SetTable.sizeAbove (SetTable.grown (n+1))<=512:=by
 rcases hM with rfl | rfl | rfl | rfl
 .have:n=4:=by omega
  subst this;exact ⟨.inr (.inl (by decide)),by decide,by decide⟩
 .have:n=18:=by omega
  subst this;exact ⟨.inr (.inr (.inl (by decide))),by decide,by decide⟩
 .have:n=76:=by omega
  subst this;exact ⟨.inr (.inr (.inr (by decide))),by decide,by decide⟩
 .omega
end
open PySem PyProof.Rows
section
variable{prog:Program}{w:World}{A:Around}{E:Value->Shared->Prop}{s:Shared}
noncomputable abbrev IsT(prog:Program)(w:World)(h:Heap)(k:List Int)(b:Addr):Prop:=IsTupleKey (intKind prog w) h k b
noncomputable abbrev hshT(prog:Program)(w:World)(k:List Int):Int:=tupleKeyHash (intKind prog w) k
theorem mj{k:List Int}{vs:List Value}(h:ItemsAre (intKind prog w) k vs):∀ v∈vs,∃ i t,v=.int i t:=by
 induction h with
 | nil=>intro v hv;cases hv
 | cons h1 _ ih =>
  intro v hv;rcases List.mem_cons.mp hv with rfl | hv
  .obtain ⟨t,e⟩:=Value.isInt_shape h1;exact ⟨_,t,e⟩
  .exact ih v hv
theorem n8{k:List Int}{b:Addr}{n:Nat}{Q:Bool->Shared->Prop}(hk:IsT prog w s.heap k b)(h:Q false s):wpAny (model prog w) A (ofAClassStatement (n+1) (.ref b)) Q E s:=by
 have hT:=hk.typeIs;obtain ⟨o,items,c,ho,_,hd,hi⟩:=hk;unfold ofAClassStatement;refine ZB (wpAny_typeOf hT ?_);dsimp only;rw [if_pos (by decide)]
 refine ZB (ZP ?_);simp only [Bool.not_true,Bool.false_eq_true,if_false];refine ZB (wpAny_seqItems ho hd ?_);dsimp only;refine ZB ?_;rw [<-Array.forIn_toList];refine wpAny_forIn_list _ (λrest r s'=>r.1=none/\s'=s /\ ∀ v∈rest,∃ i t,v=Value.int i t) _ ?_ ?_ _ _ ⟨rfl,rfl,mj hi⟩
 .rintro v rest r s' ⟨hr,rfl,hall⟩
  obtain ⟨i,t,rfl⟩:=hall v GH;have e:ofAClassStatement n (Value.int i t)=pure false:=by cases n <;> rfl
  rw [e];refine ZB (ZP ?_);simp only [Bool.false_eq_true,if_false];exact ZP ⟨rfl,rfl,λu hu'=>hall u (GB _ hu')⟩
 .rintro ⟨r1,r2⟩ s' ⟨hr,rfl,_⟩
  simp only at hr;subst hr;exact ZP h
theorem yX{k:List Int}{b:Addr}{n:Nat}{Q:Bool->Shared->Prop}(hk:IsT prog w s.heap k b)(h:Q true s):wpAny (model prog w) A (hashByValue (n+1) (.ref b)) Q E s:=by
 have hT:=hk.typeIs;obtain ⟨o,items,c,ho,_,hd,hi⟩:=hk;unfold hashByValue;refine ZB (wpAny_specialOf hT PySem.F.slot_tuple_hash.lookup ?_);dsimp only;refine ZB (wpAny_seqItems ho hd ?_);dsimp only [Option.getD];refine ZB ?_;rw [<-Array.forIn_toList];refine wpAny_forIn_list _ (λrest r s'=>r.1=none/\s'=s /\ ∀ v∈rest,∃ i t,v=Value.int i t) _ ?_ ?_ _ _ ⟨rfl,rfl,mj hi⟩
 .rintro v rest r s' ⟨hr,rfl,hall⟩
  obtain ⟨i,t,rfl⟩:=hall v GH;have e:hashByValue n (Value.int i t)=pure true:=by cases n <;> rfl
  rw [e];refine ZB (ZP ?_);simp only [Bool.not_true,Bool.false_eq_true,if_false];exact ZP ⟨rfl,rfl,λu hu'=>hall u (GB _ hu')⟩
 .rintro ⟨r1,r2⟩ s' ⟨hr,rfl,_⟩
  simp only at hr;subst hr;exact ZP h
theorem CU{k:List Int}{b:Addr}{Q:Bool->Shared->Prop}(hk:IsT prog w s.heap k b){ys:List Value}(hys:∀ y∈ys,∃ k' b',y=.ref b'/\IsT prog w s.heap k' b')(h:Q false s):
  wpAny (model prog w) A (searchCouldBeSeen (.ref b) ys) Q E s:=by
 unfold searchCouldBeSeen;refine ZB ?_;refine wpAny_forIn_list _ (λrest r s'=>r.1=none/\s'=s /\ ∀ y∈rest,∃ k' b',y=Value.ref b'/\IsT prog w s.heap k' b') _ ?_ ?_ _ _ ⟨rfl,rfl,hys⟩
 .rintro y rest r s' ⟨hr,rfl,hall⟩
  obtain ⟨k',b',rfl,hk'⟩:=hall y GH;have rest':∀ u∈rest,∃ k' b',u=Value.ref b'/\IsT prog w s'.heap k' b':=λu hu=>hall u (GB _ hu);dsimp only;split
  .exact ZP ⟨rfl,rfl,rest'⟩
  .refine ZB (wpAny_eqIsQuiet_tuple hk ?_)
   simp only [Bool.not_true,Bool.false_eq_true,if_false];refine ZB (wpAny_eqIsQuiet_tuple hk' ?_);simp only [Bool.not_true,Bool.false_eq_true,if_false];refine ZB (n8 hk ?_);simp only [Bool.false_eq_true,if_false];refine ZB (n8 hk' ?_);simp only [Bool.false_eq_true,if_false];exact ZP ⟨rfl,rfl,rest'⟩
 .rintro ⟨r1,r2⟩ s' ⟨hr,rfl,_⟩
  simp only at hr;subst hr;exact ZP h
structure PtSet(prog:Program)(w:World)(o:Obj)(D:List (List Int×Addr))(es:Array (Int×Value))(ep:Nat)(t:SetTable)(Z:Z3):Prop where
 ex:o.ExactSet
 dt:o.data=.set es ep t
 tb:Tb t es Z
 pl:t.plain=true
 ld:t.led = !(w.params.followText "set-order")
 fl:Z.length*5 < t.mask*3
 pm:(Z.map (·.2)).Perm (D.map λd=>(hshT prog w d.1,Value.ref d.2))
end
section
variable{prog:Program}{w:World}{A:Around}{E:Value->Shared->Prop}{s:Shared}{a b:Addr}{o:Obj}{D:List (List Int×Addr)}{es:Array (Int×Value)}{ep:Nat}{t:SetTable}{Z:Z3}{k:List Int}
theorem PtSet.mem(P:PtSet prog w o D es ep t Z){z:Nat×Int×Value}(hz:z∈Z):∃ d∈D,z.2=(hshT prog w d.1,Value.ref d.2):=by
 have:=P.pm.mem_iff.mp (List.mem_map.mpr ⟨z,hz,rfl⟩);obtain ⟨d,hd,e⟩:=List.mem_map.mp this;exact ⟨d,hd,e.symm⟩
theorem PtSet.mem'(P:PtSet prog w o D es ep t Z){d:List Int×Addr}(hd:d∈D):∃ z∈Z,z.2=(hshT prog w d.1,Value.ref d.2):=by
 have:=P.pm.mem_iff.mpr (List.mem_map.mpr ⟨d,hd,rfl⟩);obtain ⟨z,hz,e⟩:=List.mem_map.mp this;exact ⟨z,hz,e⟩
theorem PtSet.len(P:PtSet prog w o D es ep t Z):Z.length=D.length:=by
 have:=P.pm.length_eq;simpa using this
theorem wA{M:Nat}(h:Mok M):M % 2=1:=by rcases h with rfl | rfl | rfl | rfl <;> decide
theorem uE(hu:A.units < cLine)(ho:s.heap.get? a=some o)(P:PtSet prog w o D es ep t Z)(hD:∀ d∈D,IsT prog w s.heap d.1 d.2)(hk:IsT prog w s.heap k b)
  (hin:∀ d∈D,hshT prog w d.1=hshT prog w k->d.1=k) {Q:SetFound->Shared->Prop}
  (h1:(∃ d∈D,d.1=k)->Q (.there none) s)
  (h2:(∀ d∈D,d.1≠k) -> ∀ N,(∀ z∈Z,z.1≠pj t.mask (hshT prog w k) N)->(∀ m,m < N -> ∃ y∈Z,y.1=pj t.mask (hshT prog w k) m)->Q (.free (pj t.mask (hshT prog w k) N) false) s) :
  wpAny (model prog w) A (setSearch a (.ref b) (hshT prog w k) true) Q E s:=by
 have hf:=P.tb.fits;show wpAny (model prog w) A (setSearchFrom a (.ref b) (hshT prog w k) true (99999+1) none) Q E s;rw [setSearchFrom];refine ZB (wpAny_setState_of ho P.dt hf ?_);dsimp only;rw [if_neg (by unfold SetTable.gaveWay;rw [wA P.tb.hM];decide)]
 rcases P.tb.probe (hshT prog w k) with ⟨i,z,j,nx,ez,eh,ej,e⟩ | ⟨hno,N,e,hfree,hle,hbef⟩
 .obtain ⟨d,hd,ed⟩:=P.mem (List.mem_of_getElem? ez)
  have hdk:d.1=k:=hin d hd (by rw [<-eh,ed])
  have key:∀ f:Nat->Int,f=hAt es->t.probe f (hshT prog w k) ((none:Option SetTable.Probe).getD (t.probeStart (hshT prog w k)))=some (.candidate j i nx):=λf hf=>by rw [hf];exact e
  rw [key]
  rotate_left
  .rfl
  dsimp only;have body:wpAny (model prog w) A (do
    let some (_,y):=es[i]? | unsupported "internal:set-entry"
    let equal <- holding [y] (eqBool y (.ref b))
    let (es',_,t') <- setState a
    if true && equal then return .there none
    let some same:=t'.sameMemory t.moves t.mask | unsupported "set.changed-during-lookup:is-the-new-block-at-the-old-address"
    let still <- match (if same then t'.slot j else .empty) with
     | .live i'=>match es'[i']? with
      | some (_,y')=>do pure (if <- isSame y' y then some i' else none)
      | none=>pure none
     | _=>pure none
    match still with
    | none=>rule "set.search.anew";setSearchFrom a (.ref b) (hshT prog w k) true 99999 none
    | some i'=>if equal then return .there (some i') else setSearchFrom a (.ref b) (hshT prog w k) true 99999 (some nx)) Q E s:=by
   rw [P.tb.hash ez,ed];dsimp only;refine ZB (wpAny_holding (wpAny_eqBool_tuple (knd:=intKind prog w) hu (hD d hd) hk ?_));refine ZB (wpAny_setState_of ho P.dt hf ?_);dsimp only;rw [decide_eq_true hdk];exact ZP (h1 ⟨d,hd,hdk⟩)
  cases hl:t.led with
  | true=>simp only [Bool.not_true,Bool.false_eq_true,if_false];exact body
  | false =>
   simp only [Bool.not_false,if_true];refine ZB (CU hk (λy hy => ?_) ?_)
   .rw [List.mem_map] at hy
    obtain ⟨x,hx,rfl⟩:=hy;have hx:x∈es.toList:=by
     have:=Array.mem_toList_iff.mp hx;rw [Array.mem_filter] at this;exact Array.mem_toList_iff.mpr this.1
    rw [P.tb.he] at hx;simp only [List.mem_map] at hx;obtain ⟨z',hz',rfl⟩:=hx;obtain ⟨d',hd',e'⟩:=P.mem hz';exact ⟨d'.1,d'.2,by rw [e'],hD d' hd'⟩
   .simp only [Bool.false_eq_true,if_false]
    exact body
 .have key:∀ f:Nat->Int,f=hAt es->t.probe f (hshT prog w k) ((none:Option SetTable.Probe).getD (t.probeStart (hshT prog w k)))=some (.empty (pj t.mask (hshT prog w k) N) none):=λf hf=>by rw [hf];exact e
  rw [key]
  rotate_left
  .rfl
  dsimp only;refine ZP (h2 (λd hd ek => ?_) N hfree hbef);obtain ⟨z,hz,ez⟩:=P.mem' hd;exact hno z hz (by rw [ez,ek])
end
section
variable{prog:Program}{w:World}{A:Around}{E:Value->Shared->Prop}{s:Shared}{a b:Addr}{o:Obj}{D:List (List Int×Addr)}{es:Array (Int×Value)}{ep:Nat}{t:SetTable}{Z:Z3}{k:List Int}
theorem nA{h:Heap}{es':Array (Int×Value)}{t':SetTable}(ho:h.get? a=some o)(hd:o.data=.set es ep t):(h.update a (Obj.putSet es' t')).get? a=some { o with data := .set es' (ep+1) t' }:=by
 have:=Heap.get?_update_self (Obj.putSet es' t') ho (by rw [putSet_of es' t' hd];rfl)
 rw [putSet_of es' t' hd] at this;exact this
theorem u9{Q:Unit->Shared->Prop}{wanted:Nat}(ho:s.heap.get? a=some o)(hd:o.data=.set es ep t)(T:Tb t es Z)(hM:Mok (SetTable.sizeAbove wanted - 1))(hl:Z.length<=SetTable.sizeAbove wanted - 1)(hs:SetTable.sizeAbove wanted<=512)
    (h:∀ es' t' Z',Tb t' es' Z'->(Z'.map (·.2)).Perm (Z.map (·.2))->t'.mask=SetTable.sizeAbove wanted - 1->t'.led=t.led->t'.plain=t.plain ->
      Q () { s with heap:=s.heap.update a (Obj.putSet es' t') }):wpAny (model prog w) A (setRelay a wanted) Q E s:=by
  obtain ⟨t',order,Z',e,T',pm,hm,hl',hp⟩:=T.relaid hM hl;have hz:(order.filterMap (es[·]?)).size=es.size:=by
    rw [T'.len,T.len];have:=pm.length_eq;simpa using this
  unfold setRelay;refine ZB (wpAny_setState_of ho hd T.fits ?_);dsimp only
  rw [if_neg (by have:sizeLine=16777216:=by rfl
                 omega)]
  refine ZB ?_;rw [e];show wpAny _ _ (do
    let es':=order.filterMap (es[·]?)
    if es'.size != es.size then unsupported "internal:set-table-lost-an-element"
    pure (es',t')) _ _ _
  dsimp only;rw [if_neg (by rw [hz];simp)]
  refine ZP ?_;dsimp only;refine wpAny_storeSet_of ho hd (h _ t' Z' T' pm hm hl' hp) ?_;rw [hz,T.len];have:sizeLine=16777216:=by rfl
  omega
theorem uH(hu:A.units < cLine)(ho:s.heap.get? a=some o)(P:PtSet prog w o D es ep t Z)(hD:∀ d∈D,IsT prog w s.heap d.1 d.2)(hk:IsT prog w s.heap k b)
  (hin:∀ d∈D,hshT prog w d.1=hshT prog w k->d.1=k) (hn:D.length < 300) {Q:Bool->Shared->Prop}
  (h1:(∃ d∈D,d.1=k)->Q false s)
  (h2:(∀ d∈D,d.1≠k) -> ∀ h' o' es' ep' t' Z',Heap.SameBut a s.heap h'->h'.get? a=some o'->PtSet prog w o' (D++[(k,b)]) es' ep' t' Z'->Q true { s with heap:=h' }) :
  wpAny (model prog w) A (setAddHashed a (.ref b) (hshT prog w k)) Q E s:=by
 have hf:=P.tb.fits;unfold setAddHashed;refine wpAny_holding ?_;show wpAny (model prog w) A (setAddHashedIn a (.ref b) (hshT prog w k) (99999+1)) Q E s;rw [setAddHashedIn];refine ZB (wpAny_setState_of ho P.dt hf ?_);dsimp only;rw [if_neg (by unfold byScan Value.scannable;simp)]
 refine ZB (uE hu ho P hD hk hin (λhx => ?_) λhx N f1 f2 => ?_)
 .exact ZP (h1 hx)
 .dsimp only
  refine ZB (wpAny_setState_of ho P.dt hf ?_);dsimp only;have hlen:=P.len;have hfl:=P.fl;have hM:=P.tb.hM;have h3:Z.length+1<=t.mask:=by rcases hM with e | e | e | e <;> rw [e] at hfl ⊢ <;> omega
  obtain ⟨p,ep',T1⟩:=P.tb.put (x := .ref b) f1 f2 h3;have hpl:(t.put (pj t.mask (hshT prog w k) N)).1.plain=true:=P.pl;have hled:(t.put (pj t.mask (hshT prog w k) N)).1.led = !(w.params.followText "set-order"):=P.ld;have hmk:(t.put (pj t.mask (hshT prog w k) N)).1.mask=t.mask:=rfl;rw [ep'];generalize hZ1:List.take p Z++(pj t.mask (hshT prog w k) N,hshT prog w k,Value.ref b) :: List.drop p Z=Z1 at T1;have pm1:(Z1.map (·.2)).Perm ((D++[(k,b)]).map λd=>(hshT prog w d.1,Value.ref d.2)):=by
   rw [<-hZ1];refine ((we Z p _).map _).trans ?_;rw [List.map_cons,List.map_append];refine (P.pm.cons _).trans ?_;exact (List.perm_append_comm (l₁ := [_])).trans (List.Perm.refl _)
  have len1:Z1.length=Z.length+1:=by
   have:=pm1.length_eq;simp only [List.length_map,List.length_append,List.length_singleton] at this;omega
  generalize (t.put (pj t.mask (hshT prog w k) N)).1=t1 at T1 hpl hled hmk;rw [if_pos hpl];refine ZB (yX hk ?_);simp only [if_true];refine ZB (wpAny_storeSet_of ho P.dt ?_ ?_)
  rotate_left
  .rw [T1.len]
   have:sizeLine=16777216:=by rfl
   omega
  have ho1:=nA (es':=SetTable.insertAt es p (hshT prog w k,Value.ref b)) (t':=t1) ho P.dt;have sb1:=Heap.SameBut.update s.heap a (Obj.putSet (SetTable.insertAt es p (hshT prog w k,Value.ref b)) t1);simp only [Bool.not_false,Bool.true_and];rw [T1.full];by_cases hfull:Z1.length*5 ≥ t1.mask*3
  .rw [decide_eq_true hfull]
   simp only [if_true];have hsz:es.size=Z.length:=P.tb.len;rw [hsz];obtain ⟨g1,g2,g3⟩:=yM (M:=t.mask) (n:=Z.length) hM hfl (by rw [hmk,len1] at hfull;exact hfull) (by omega)
   refine ZB (u9 (s:={ s with heap:=_ }) ho1 rfl T1 g1 (by omega) g3 λes2 t2 Z2 T2 pm2 e1 e2 e3 => ?_)
   refine ZP (h2 hx _ _ _ _ _ Z2 (sb1.trans (Heap.SameBut.update _ a _)) (nA ho1 rfl) ⟨P.ex,rfl,T2,e3.trans hpl,e2.trans hled,?_,pm2.trans pm1⟩);have l2:Z2.length=Z1.length:=by have:=pm2.length_eq;simpa using this
   rw [e1,l2,len1];exact g2
  .rw [decide_eq_false hfull]
   simp only [Bool.false_eq_true,if_false];refine ZP (h2 hx _ _ _ _ _ Z1 sb1 ho1 ⟨P.ex,rfl,T1,hpl,hled,by omega,pm1⟩)
theorem xC(hu:A.units < cLine)(ho:s.heap.get? a=some o)(P:PtSet prog w o D es ep t Z)(hD:∀ d∈D,IsT prog w s.heap d.1 d.2)(hk:IsT prog w s.heap k b)
  (hin:∀ d∈D,hshT prog w d.1=hshT prog w k->d.1=k) (hn:D.length < 300) {Q:Bool->Shared->Prop}
  (h1:(∃ d∈D,d.1=k)->Q false { s with toks:=s.toks+(k.length+1) })
  (h2:(∀ d∈D,d.1≠k) -> ∀ h' o' es' ep' t' Z',Heap.SameBut a s.heap h'->h'.get? a=some o'->PtSet prog w o' (D++[(k,b)]) es' ep' t' Z'->Q true { s with heap:=h',toks:=s.toks+(k.length+1) }) :
  wpAny (model prog w) A (setAdd a (.ref b)) Q E s:=by
 unfold setAdd;refine wpAny_holding (ZB (wpAny_pyHash_tuple hu hk ?_));exact uH (s:={ s with toks:=s.toks+(k.length+1) }) hu ho P hD hk hin hn h1 h2
end
noncomputable def dd(key:Nat->List Int×Addr):Nat->List (List Int×Addr)
 | 0=>[]
 | i+1=>open Classical in if ∃ d∈dd key i,d.1=(key i).1 then dd key i else dd key i++[key i]
theorem fq(key:Nat->List Int×Addr):∀ (i:Nat) (d:List Int×Addr),d∈dd key i -> ∃ j,j < i/\d=key j
 | 0,d,h=>by cases h
 | i+1,d,h=>by
  unfold dd at h;split at h
  .obtain ⟨j,hj,e⟩:=fq key i d h;exact ⟨j,by omega,e⟩
  .rcases List.mem_append.mp h with h | h
   .obtain ⟨j,hj,e⟩:=fq key i d h;exact ⟨j,by omega,e⟩
   .exact ⟨i,by omega,List.mem_singleton.mp h⟩
theorem qV(key:Nat->List Int×Addr):∀ (i:Nat),(dd key i).length<=i
 | 0=>GA _
 | i+1=>by
  have:=qV key i;unfold dd;split
  .omega
  .rw [List.length_append,List.length_singleton];omega
theorem qm(key:Nat->List Int×Addr):∀ (i j:Nat),j < i -> ∃ d∈dd key i,d.1=(key j).1
 | 0,j,h=>by omega
 | i+1,j,h=>by
  unfold dd;by_cases hj:j=i
  .subst hj
   split
   .assumption
   .exact ⟨_,List.mem_append_right _ (List.mem_singleton.mpr rfl),rfl⟩
  .obtain ⟨d,hd,e⟩:=qm key i j (by omega)
   split
   .exact ⟨d,hd,e⟩
   .exact ⟨d,List.mem_append_left _ hd,e⟩
theorem rJ(key:Nat->List Int×Addr):∀ (i:Nat),((dd key i).map (·.1)).Nodup
 | 0=>List.nodup_nil
 | i+1=>by
  have ih:=rJ key i;unfold dd;split
  .exact ih
  .rename_i hn
   rw [List.map_append];refine List.nodup_append.mpr ⟨ih,by simp,λx hx y hy e=>hn ?_⟩
   obtain ⟨d,hd,ed⟩:=List.mem_map.mp hx;rw [List.map_singleton,List.mem_singleton] at hy;exact ⟨d,hd,by rw [ed,e,hy]⟩
section
variable{prog:Program}{w:World}{A:Around}{R:Result->Shared->Prop}{I:Addr}{fp wr:List Addr}{G:Array GenState->Array GenState->Prop}{n:Nat}{P:Nat->Value->Prop}{St:Nat->Shared->Prop}
noncomputable def SInv(prog:Program)(w:World)(S:Addr)(D:List (List Int×Addr))(h:Heap):Prop := ∃ o es ep t Z,h.get? S=some o/\PtSet prog w o D es ep t Z
theorem w9(W:WalksS prog w A.in1 I fp wr G n P St)(hu:A.in1.units < cLine)(S:Addr)(hSf:S ∉ fp)(h0:Heap)(hS0:h0.get? S=none)(hw0:∀ b∈wr,h0.get? b=none)
  (key:Nat->List Int×Addr) (hval:∀ i v,P i v->v=.ref (key i).2) (hkey:∀ i,i < n->IsT prog w h0 (key i).1 (key i).2)
  (hinj:∀ i j,i < n->j < n->hshT prog w (key i).1=hshT prog w (key j).1->(key i).1=(key j).1) (hn:n<=300) :
  ∀ (m i:Nat) (s:Shared),n - i=m->i<=n->St i s->(∀ b o,h0.get? b=some o->s.heap.get? b=some o)->SInv prog w S (dd key i) s.heap ->
   (∀ s',Moved (S :: wr) G s s'->SInv prog w S (dd key n) s'.heap->R (.ok (.ret .none)) s') ->
   codeAny (model prog w) A (.builtin "set.update.loop" ⟨[.ref S,.ref I],[]⟩) R s:=by
 have hSw:S ∉ wr:=λh=>hSf (W.sub _ h);have hsub:∀ b∈wr,b∈S :: wr:=λb hb=>GB _ hb;have kp:∀ {s s':Shared},Moved wr G s s'->(∀ b o,h0.get? b=some o->s.heap.get? b=some o) -> ∀ b o,h0.get? b=some o->s'.heap.get? b=some o:=λhm hb b o e =>
  hm.heap b o (λhw=>by rw [hw0 b hw] at e;cases e) (hb b o e)
 intro m
 induction m with
 | zero =>
  intro i s hk hi st hb hS hR;have e:i=n:=by omega
  subst e;refine codeAny_builtin PyProof.Rows.F.entry_set_update_loop ?_;rw [Around.under_plainId PyProof.Rows.F.plain_set_update_loop _];show wpAny _ A.in1 (pyNext (.ref I) >>= _) _ _ s;refine ZB (W.done s _ _ st λs' hm => ?_);obtain ⟨o,es,ep,t,Z,ho,hP⟩:=hS;exact ZP (hR s' (hm.mono hsub) ⟨o,es,ep,t,Z,hm.heap S _ hSw ho,hP⟩)
 | succ m ih =>
  intro i s hk hi st hb hS hR;have hlt:i < n:=by omega
  refine codeAny_builtin PyProof.Rows.F.entry_set_update_loop ?_;rw [Around.under_plainId PyProof.Rows.F.plain_set_update_loop _];show wpAny _ A.in1 (pyNext (.ref I) >>= _) _ _ s;refine ZB (W.item i s _ _ hlt st λv s' hv st' hm => ?_);obtain rfl:=hval i v hv;obtain ⟨o,es,ep,t,Z,ho,hP⟩:=hS;have ho':=hm.heap S _ hSw ho;have hb':=kp hm hb;have isT:∀ j,j < n->IsT prog w s'.heap (key j).1 (key j).2:=λj hj=>by
   obtain ⟨x,its,c,e1,e2,e3,e4⟩:=hkey j hj;exact ⟨x,its,c,hb' _ _ e1,e2,e3,e4⟩
  show wpAny _ A.in1 (holding [Value.ref (key i).2] (setAdd S (.ref (key i).2)) >>= _) _ _ s';refine ZB (wpAny_holding (xC hu ho' hP (λd hd => ?_) (isT i hlt) (λd hd e => ?_) (by have:=qV key i;omega) (λhx => ?_) λhx h' o2 es2 ep2 t2 Z2 sb ho2 hP2 => ?_))
  .obtain ⟨j,hj,rfl⟩:=fq key i d hd
   exact isT j (by omega)
  .obtain ⟨j,hj,rfl⟩:=fq key i d hd
   exact hinj j i (by omega) hlt e
  .have ed:dd key (i+1)=dd key i:=by rw [dd,if_pos hx]
   refine ZP ⟨plainId_quiet PyProof.Rows.F.plain_set_update_loop _,ih (i+1) _ (by omega) hlt (W.frame _ s' s'.heap _ st' (Nat.le_add_right _ _) λb _ o e=>e) hb' ⟨o,es,ep,t,Z,ho',by rw [ed];exact hP⟩ λs2 hm2 hS2 => ?_⟩
   exact hR s2 (Moved.trans W.gtrans ((hm.mono hsub).then_heap (Nat.le_add_right _ _) λb o _ e=>e) hm2) hS2
  .have ed:dd key (i+1)=dd key i++[key i]:=by
    rw [dd,if_neg];rintro ⟨d,hd,e⟩;exact hx d hd e
   refine ZP ⟨plainId_quiet PyProof.Rows.F.plain_set_update_loop _,ih (i+1) _ (by omega) hlt (W.frame _ s' h' _ st' (Nat.le_add_right _ _) λb hbf o e => ?_) (λb o e => ?_) ⟨o2,es2,ep2,t2,Z2,ho2,by rw [ed];exact hP2⟩ λs2 hm2 hS2 => ?_⟩
   .rw [sb.2 b λq:b=S=>hSf (by rw [<-q];exact hbf)];exact e
   .show h'.get? b=_
    rw [sb.2 b λq:b=S=>by rw [q,hS0] at e;cases e];exact hb' b o e
   .refine hR s2 (Moved.trans W.gtrans ((hm.mono hsub).then_heap (Nat.le_add_right _ _) λb o hbn e => ?_) hm2) hS2
    show h'.get? b=_;rw [sb.2 b λq:b=S=>hbn (by rw [q];exact GH)];exact e
end
section
variable{prog:Program}{w:World}{A:Around}{E:Value->Shared->Prop}{s:Shared}
noncomputable abbrev tP(w:World):Bool:=w.params.followText "set-order"
noncomputable abbrev bC(w:World):Obj:={ cls := .type "set",dict:=none,data := .set #[] 0 (.fresh 0 0 (!tP w)) }
theorem xq:PtSet prog w (bC w) [] #[] 0 (.fresh 0 0 (!tP w)) [] where
 ex:=⟨rfl,rfl,rfl⟩
 dt:=rfl
 tb:=⟨rfl,rfl,rfl,List.Pairwise.nil,λz hz=>by (cases hz),.inl rfl,Nat.zero_le _,λz hz=>by (cases hz)⟩
 pl:=rfl
 ld:=rfl
 fl:=(by decide:0 < 7*3)
 pm:=List.Perm.refl _
theorem ze(a:Value){Q₁ : Value->Shared->Prop}(h:Q₁ (.ref s.heap.objs.size) { s with heap:=s.heap.push (bC w) }):
  codeAny (model prog w) A (.call (.builtin "set.__new__") ⟨[.type "set",a],[]⟩) (wants Q₁ E) s:=by
 refine codeAny_of_tree ?_;show wpAny _ A.in1 (do checkBuiltinCall "set.__new__" ⟨[.type "set",a],[]⟩;again (.builtin "set.__new__" ⟨[.type "set",a],[]⟩)) _ _ s
 refine ZB (wpAny_of_eq (PySem.F.newCall_set_1 a) (ZP ⟨plainId_quiet PySem.F.plain_set_new _,codeAny_builtin PySem.F.entry_set_new ?_⟩));rw [Around.under_plainId PySem.F.plain_set_new _];unfold Builtin.«set.__new__» Builtin.Frozenset.newClass;have hsub:=sub_set_self;obtain ⟨hp,g,d,tk,os⟩:=s;dsimp only
 wp_walk
 refine wpAny_askSetting (ZP ?_);dsimp only;simp only [newObj];refine ZB (wpAny_alloc (ZP ?_));exact ZP h
set_option maxHeartbeats 3200000 in
theorem vE{l:Addr}{items:Array Value}{Q:Value->Shared->Prop}{key:Nat->List Int×Addr}
  (hh:A.handled=none) (hu:A.units+3 < cLine) (hl:s.heap.IsList l items) (hval:∀ (i:Nat) (v:Value),items[i]? = some v->v=.ref (key i).2) (hkey:∀ i,i < items.size->IsT prog w s.heap (key i).1 (key i).2)
  (hinj:∀ i j,i < items.size->j < items.size->hshT prog w (key i).1=hshT prog w (key j).1->(key i).1=(key j).1) (hn:items.size<=300)
  (h:∀ (h':Heap) (tk:Nat),SInv prog w s.heap.objs.size (dd key items.size) h'->(∀ b o,s.heap.get? b=some o->h'.get? b=some o)->Q (.ref s.heap.objs.size) { s with heap:=h',toks:=tk }) :
  wpAny (model prog w) A (call (.type "set") [.ref l]) Q E s:=by
 obtain ⟨c,tl,hmro⟩:=PySem.F.called_set.mro;have hmade:=PySem.F.called_set.made;have hsub:=PySem.F.called_set.sub;refine wpAny_call (codeAny_of_tree ?_);show wpAny _ _ (callAny (.type "set") _) _ _ _;refine ZP ⟨Code.quiet_builtin _ (by decide +kernel),codeAny_builtin PySem.F.entry_type_call ?_⟩
 rw [Around.under_plain (weight_type_call_type "set" [.ref l] []) rfl];have h1:=PySem.F.called_set.notType;have h2:=PySem.F.called_set.canCreate;have hct:=PySem.F.typeCall_set_1 (.ref l)
 repeat (any_goals (first | assumption | wp_step))
 refine codeAny_mono (ze (.ref l) (E:=E) (Q₁ := λobj s₁ => obj=.ref s.heap.objs.size/\s₁ = { s with heap:=s.heap.push (bC w) }) ⟨rfl,rfl⟩) λr s₁ hr => ?_
 cases r with
 | error e=>exact hr
 | ok fl =>
  cases fl with
  | ret obj =>
   obtain ⟨rfl,rfl⟩:=hr;have hS:(s.heap.push (bC w)).get? s.heap.objs.size=some (bC w):=GF _ rfl;have hT:Shared.TypeIs { s with heap:=s.heap.push (bC w) } (.ref s.heap.objs.size) "set" := ⟨_,hS,rfl⟩
   have hli:=PySem.F.called_set.init.lookup;have hbi:=PySem.F.called_set.init.bind (.ref s.heap.objs.size)
   repeat (any_goals (first | assumption | wp_step))
   refine codeAny_mono (codeAny_call_builtin (R:=wants (λr s₂ => r=.none /\ ∃ h' tk,s₂ = { s with heap:=h',toks:=tk }/\SInv prog w s.heap.objs.size (dd key items.size) h'/\(∀ b o,s.heap.get? b=some o->h'.get? b=some o)) E)
    PySem.F.called_set.init.plain PySem.F.entry_set_init (check_set_init_1 hT ?_)) λr₂ s₂ hr₂ => ?_
   .obtain ⟨ol,hol,hcl,nl,hdl⟩:=hl
    obtain ⟨ocls,odict,odata,oslots⟩:=ol;simp only at hcl hdl;subst hcl;subst hdl;have hol':(s.heap.push (bC w)).get? l=some { cls := .type "list",dict:=odict,data := .seq items nl,slots:=oslots }:=Gw _ hol;have hsls:=PySem.F.sub_list_set;have hslf:=PySem.F.sub_list_frozenset;have hne:(Value.type "list" == Value.type "dict")=false:=by decide
    have hl1:(s.heap.push (bC w)).IsList l items:=⟨_,hol',rfl,nl,rfl⟩;unfold Builtin.«set.__init__» noKeywords Builtin.Frozenset.updateFrom;generalize hPI:pyIter=PI
    wp_walk
    subst hPI;refine wpAny_pyIter_list hl1 ?_;refine ZB (wpAny_runValue ?_);have hlS:l < s.heap.objs.size:=Gx hol;have hh3:A.in1.in1.in1.handled=none:=by simp [hh]
    have z1:(s.heap.push (bC w)).objs.size=s.heap.objs.size+1:=Heap.size_push _ _;have hneI:l≠(s.heap.push (bC w)).objs.size:=by rw [z1];exact GD (Nat.lt_succ_of_lt hlS)
    have hSf:s.heap.objs.size ∉ [(s.heap.push (bC w)).objs.size,l]:=by
     rw [z1];intro hm;rcases List.mem_cons.mp hm with e | hm
     .exact GD (Nat.lt_succ_self _) e
     .exact Nat.ne_of_gt hlS (List.mem_singleton.mp hm)
    have none_ge:∀ b,s.heap.objs.size<=b->s.heap.get? b=none:=λb hb=>by
     cases e:s.heap.get? b with
     | none=>rfl
     | some o=>exact absurd (Gx e) (Nat.not_lt.mpr hb)
    refine w9 ((Walks.list hh3 _ l hneI items).toS) (by first | exact hu | (simp only [Around.in1_units];omega)) s.heap.objs.size hSf s.heap (none_ge _ (GA _)) (λb hb=>none_ge b (by rw [List.mem_singleton.mp hb,z1];exact Nat.le_succ _)) key (λi v hv=>hval i v hv) hkey hinj hn (items.size - 0) 0 _ (by omega) (Nat.zero_le _)
     ⟨⟨_,GF _ rfl,rfl,rfl⟩,(hl1.push _)⟩ (λb o e=>Gw _ (Gw _ e)) ⟨bC w,_,_,_,[],Gw _ hS,xq⟩ λs' hm hS' => ?_
    obtain ⟨h',g',d',tk',os'⟩:=s';have eg:g'=s.gens:=hm.gens;have ed:d'=s.drawn:=hm.drawn;have eo:os'=s.os:=hm.os;subst eg;subst ed;subst eo;show wpAny _ _ _ _ _ _;refine ZP ?_;show wpAny _ _ (ret Value.none) _ _ _;refine ZP ⟨rfl,h',tk',rfl,hS',λb o e => ?_⟩;have hb:=Gx e;refine hm.heap b o (λhm' => ?_) (Gw _ (Gw _ e));rcases List.mem_cons.mp hm' with e' | hm'
    .exact GD hb e'
    .have:=List.mem_singleton.mp hm'
     rw [z1] at this;exact GD (Nat.lt_succ_of_lt hb) this
   .cases r₂ with
    | error e=>exact hr₂
    | ok fl₂ =>
     cases fl₂ with
     | ret r =>
      obtain ⟨rfl,h',tk,rfl,hS',hk'⟩:=hr₂
      repeat (any_goals (first | assumption | wp_step))
      exact h _ _ hS' hk'
     | next=>exact hr₂.elim
     | brk=>exact hr₂.elim
     | cont=>exact hr₂.elim
  | next=>exact hr.elim
  | brk=>exact hr.elim
  | cont=>exact hr.elim
end
theorem pO{α:Type}(next:Nat->Nat):∀ (fu k:Nat) (left:List α) (out:Array α),left.length<=fu->(pickOrder.go next fu k left out).toList.Perm (out.toList++left)
 | 0,k,left,out,h=>by
  have:left=[]:=List.length_eq_zero_iff.mp (by omega)
  subst this;rw [pickOrder.go,List.append_nil]
 | fu+1,k,left,out,h=>by
  rw [pickOrder.go];cases e:left[next k % left.length]? with
  | none =>
   dsimp only;cases left with
   | nil=>rw [List.append_nil]
   | cons x l =>
    rw [List.getElem?_eq_getElem (Nat.mod_lt _ (by rw [List.length_cons];omega))] at e
    cases e
  | some x =>
   dsimp only;obtain ⟨hi,ex⟩:=List.getElem?_eq_some_iff.mp e;refine (pO next fu (k+1) _ _ (by rw [List.length_eraseIdx_of_lt hi];omega)).trans ?_
   rw [Array.toList_push,List.append_assoc];refine List.Perm.append_left _ ?_;have e2:left=left.take (next k % left.length)++x :: left.drop (next k % left.length+1):=by
    rw [<-ex,<-List.drop_eq_getElem_cons hi,List.take_append_drop]
   rw [List.eraseIdx_eq_take_drop_succ];generalize left.take (next k % left.length)=l1 at e2 ⊢;generalize left.drop (next k % left.length+1)=l2 at e2 ⊢;rw [e2];exact (List.perm_middle (l₁ := l1)).symm
theorem u5{α:Type}(next:Nat->Nat)(xs:Array α):(pickOrder next xs).toList.Perm xs.toList:=by
 unfold pickOrder;exact (pO next _ 0 _ #[] (by simp)).trans (by simp)
noncomputable def wkO(w:World)(a:Addr)(ep:Nat)(es:Array (Int×Value)):List (Int×Value):=if w.params.followText "set-order" then (pickOrder (w.params.setOrder a ep) es).toList else es.toList
theorem jr(w:World)(a:Addr)(ep:Nat)(es:Array (Int×Value)):(wkO w a ep es).Perm es.toList:=by
 unfold wkO;split
 .exact u5 _ _
 .exact .refl _
theorem dB:Slot "set_iterator" "__next__" "set_iterator.__next__" :=
 .of (owner := "set_iterator") (n := "__next__") (by rw [typeLookup_type,builtinLookup_eq_fast];kernel_rfl) (by decide +kernel) (by decide +kernel) (by decide +kernel)
  (by first | exact .inl (by decide +kernel) | exact .inr (by decide +kernel)) (by rw [isSubtype_type];kernel_rfl)
theorem mi:entryFor table "set_iterator.__next__" = some Builtin.«set_iterator.__next__» := entryFor_of_tree (by kernel_rfl)
theorem nG(a:Value):argsOk "set_iterator.__next__" ⟨[a],[]⟩:=by unfold argsOk;kernel_rfl
theorem nJ:Slot "set_iterator" "__iter__" "set_iterator.__iter__" :=
 .of (owner := "set_iterator") (n := "__iter__") (by rw [typeLookup_type,builtinLookup_eq_fast];kernel_rfl) (by decide +kernel) (by decide +kernel) (by decide +kernel)
  (by first | exact .inl (by decide +kernel) | exact .inr (by decide +kernel)) (by rw [isSubtype_type];kernel_rfl)
theorem uD:entryFor table "set.__iter__" = some Builtin.«frozenset.__iter__» :=
 entryFor_alias (id' := "frozenset.__iter__") (by kernel_rfl) rfl (by decide +kernel) (by kernel_rfl)
section
variable{prog:Program}{w:World}{A:Around}{E:Value->Shared->Prop}{s:Shared}{S it:Addr}{o:Obj}{D:List (List Int×Addr)}{es:Array (Int×Value)}{ep:Nat}{t:SetTable}{Z:Z3}
noncomputable def SIt(h:Heap)(it S:Addr)(slot i n ep:Nat):Prop := ∃ o,h.get? it=some o/\o.cls=.type "set_iterator" /\ o.data=.fields #[.int slot 0,.int i 0,.ref S,.int n 0,.int ep 0]
theorem SIt.typeIs{slot i n ep:Nat}(h:SIt s.heap it S slot i n ep):s.TypeIs (.ref it) "set_iterator" := let ⟨o,e,c,_⟩:=h;⟨o,e,c⟩
theorem wo{Q:Value->Shared->Prop}(ho:s.heap.get? S=some o)(P:PtSet prog w o D es ep t Z)
  (h:Q (.ref s.heap.objs.size) { s with heap:=s.heap.push { cls := .type "set_iterator",data := .fields #[.int 0 0,.int 0 0,.ref S,.int es.size 0,.int ep 0] } }):wpAny (model prog w) A (pyIter (.ref S)) Q E s:=by
 have hT:s.TypeIs (.ref S) "set" := ⟨o,ho,P.ex.1⟩;have hf:=P.tb.fits;refine wpAny_pyIter_slot hT PySem.F.slot_set_iter (wpAny_call_entry PySem.F.slot_set_iter hT uD ?_ (PySem.F.args_set_iter_1 _));unfold Builtin.«frozenset.__iter__» Builtin.Frozenset.slot0 slotArgs Builtin.Frozenset.addrOf Builtin.Frozenset.sizeOf;simp only [List.isEmpty_nil,Bool.not_true,Bool.false_eq_true,if_false,List.length_nil,bne_self_eq_false];refine ZB (ZP ?_);refine ZB (ZB (wpAny_setEntries_of ho P.dt hf (ZP ?_)));refine ZB ?_;unfold setDrawn setsByText;refine ZB (wpAny_setState_of ho P.dt hf ?_);dsimp only;refine ZB (ZB (wpAny_askSetting (ZP ?_)));refine ZP ?_;rw [if_neg (by show ¬ ((!w.params.followText "set-order" && (!t.plain && decide (es.size > 1)))=true);rw [P.pl];simp)]
 refine ZB (ZP ?_);refine ZB (wpAny_setEpoch_of ho P.dt hf ?_);exact ZB (wpAny_newObj_type (ZP ⟨_,rfl,"set_iterator",_,⟨_,GF _ rfl,rfl⟩,dB.lookup,by simpa [rawInt] using h⟩))
noncomputable def SAt(w:World)(t:SetTable)(slot i:Nat):Prop:=w.params.followText "set-order" = false->SetTable.below t.place slot=i
theorem below_at(T:Tb t es Z){i x:Nat}(e:t.place[i]? = some x):SetTable.below t.place (x+1)=i+1:=by
 obtain ⟨b1,b2,b3⟩:=T.below (x+1);have hi:=(Array.getElem?_eq_some_iff.mp e).1;rcases Nat.lt_trichotomy (SetTable.below t.place (x+1)) (i+1) with q | q | q
 .have:=b2 i x (by omega) e;omega
 .exact q
 .have e2:t.place[i+1]? = some t.place[i+1]:=Array.getElem?_eq_getElem (by omega)
  have h1:=b1 (i+1) _ q e2;have h2:=T.lt i (i+1) _ _ (by omega) e e2
  omega
theorem uJ(T:Tb t es Z):SetTable.below t.place 0=0:=by
 obtain ⟨b1,b2,b3⟩:=T.below 0;rcases Nat.eq_zero_or_pos (SetTable.below t.place 0) with q | q
 .exact q
 .have e2:t.place[0]? = some t.place[0]:=Array.getElem?_eq_getElem (by omega)
  have:=b1 0 _ q e2;omega
theorem vA{slot i:Nat}{e:Int×Value}{Q:Option (Value×Nat)->Shared->Prop}(ho:s.heap.get? S=some o)(P:PtSet prog w o D es ep t Z)(hs:SAt w t slot i)(he:(wkO w S ep es)[i]? = some e)
  (h:∀ slot',SAt w t slot' (i+1)->Q (some (e.2,slot')) s):wpAny (model prog w) A (setNext S slot i ep) Q E s:=by
 have hf:=P.tb.fits;unfold setNext;refine ZB (wpAny_setState_of ho P.dt hf ?_);dsimp only;unfold setsByText;refine ZB (ZB (wpAny_askSetting (ZP ?_)));dsimp only;cases hb:w.params.followText "set-order" with
 | true =>
  have hb':(model prog w).w.params.followText "set-order" = true:=hb;rw [hb',if_pos rfl,if_neg (by simp)]
  refine ZB ?_;unfold setWalk setsByText;refine ZB (wpAny_setState_of ho P.dt hf ?_);dsimp only;refine ZB (ZB (wpAny_askSetting (ZP ?_)));rw [hb',if_pos rfl];refine ZB (wpAny_askSetting (ZP ?_));refine ZP ?_;have:(pickOrder ((model prog w).w.params.setOrder S ep) es)[i]? = some e:=by
   unfold wkO at he;rw [if_pos hb] at he;rw [<-Array.getElem?_toList];exact he
  rw [this];exact h slot (λq=>by rw [hb] at q;cases q)
 | false =>
  have hb':(model prog w).w.params.followText "set-order" = false:=hb;rw [hb',if_neg (by decide)]
  rw [if_neg (by show ¬ ((!t.plain && decide (es.size > 1))=true);rw [P.pl];simp)]
  refine ZB ?_;show wpAny _ _ (if (!t.led && !es.isEmpty)=true then unsupported "set:maker-not-led" else pure ()) _ _ _
  rw [if_neg (by rw [P.ld,hb];simp)]
  refine ZP ?_;rw [hs hb];have e1:es[i]? = some e:=by
   unfold wkO at he;rw [if_neg (by rw [hb];decide)] at he
   rw [<-Array.getElem?_toList];exact he
  have hi:i < t.place.size:=by
   have:=(Array.getElem?_eq_some_iff.mp e1).1;rw [P.tb.len] at this;rw [P.tb.hp];simpa using this
  have e2:t.place[i]? = some t.place[i]:=Array.getElem?_eq_getElem hi;rw [e1,e2];exact ZP (h _ λ_=>below_at P.tb e2)
theorem ve{slot i:Nat}{Q:Option (Value×Nat)->Shared->Prop}(ho:s.heap.get? S=some o)(P:PtSet prog w o D es ep t Z)(hs:SAt w t slot i)(he:(wkO w S ep es)[i]? = none)
  (h:Q none s):wpAny (model prog w) A (setNext S slot i ep) Q E s:=by
 have hf:=P.tb.fits;unfold setNext;refine ZB (wpAny_setState_of ho P.dt hf ?_);dsimp only;unfold setsByText;refine ZB (ZB (wpAny_askSetting (ZP ?_)));dsimp only;cases hb:w.params.followText "set-order" with
 | true =>
  have hb':(model prog w).w.params.followText "set-order" = true:=hb;rw [hb',if_pos rfl,if_neg (by simp)]
  refine ZB ?_;unfold setWalk setsByText;refine ZB (wpAny_setState_of ho P.dt hf ?_);dsimp only;refine ZB (ZB (wpAny_askSetting (ZP ?_)));rw [hb',if_pos rfl];refine ZB (wpAny_askSetting (ZP ?_));refine ZP ?_;have:(pickOrder ((model prog w).w.params.setOrder S ep) es)[i]? = none:=by
   unfold wkO at he;rw [if_pos hb] at he;rw [<-Array.getElem?_toList];exact he
  rw [this];exact h
 | false =>
  have hb':(model prog w).w.params.followText "set-order" = false:=hb;rw [hb',if_neg (by decide)]
  rw [if_neg (by show ¬ ((!t.plain && decide (es.size > 1))=true);rw [P.pl];simp)]
  refine ZB ?_;show wpAny _ _ (if (!t.led && !es.isEmpty)=true then unsupported "set:maker-not-led" else pure ()) _ _ _
  rw [if_neg (by rw [P.ld,hb];simp)]
  refine ZP ?_;rw [hs hb];have e1:es[i]? = none:=by
   unfold wkO at he;rw [if_neg (by rw [hb];decide)] at he
   rw [<-Array.getElem?_toList];exact he
  rw [e1];exact ZP h
theorem wz{slot i:Nat}{e:Int×Value}{Q:Option Value->Shared->Prop}(hit:SIt s.heap it S slot i es.size ep)(ho:s.heap.get? S=some o)(P:PtSet prog w o D es ep t Z)(hs:SAt w t slot i)(he:(wkO w S ep es)[i]? = some e)
  (h:∀ h' slot',SIt h' it S slot' (i+1) es.size ep->SAt w t slot' (i+1)->Heap.SameBut it s.heap h'->Q (some e.2) { s with heap:=h' }):wpAny (model prog w) A (pyNext (.ref it)) Q E s:=by
 obtain ⟨io,hio,hc,hd⟩:=id hit;unfold pyNext;refine ZB (wpAny_attempt (wpAny_callSpecial?_slot (name:=Str.ofString "__next__") hit.typeIs dB (wpAny_call_entry dB hit.typeIs mi ?_ (nG _))));unfold Builtin.«set_iterator.__next__» slotArgs;simp only [List.isEmpty_nil,Bool.not_true,Bool.false_eq_true,if_false,List.length_nil,bne_self_eq_false];refine ZB (ZP ?_);refine ZB (wpAny_fieldsOf hio hd ?_);dsimp only;refine ZB (wpAny_setEntries_of ho P.dt P.tb.fits ?_);rw [if_neg (by simp)]
 simp only [Int.toNat_natCast];refine ZB (vA ho P hs he λslot' hs' => ?_);dsimp only;refine ZB (wpAny_setField hio hd (by simp) ?_)
 have n1:(s.heap.update it (Obj.mapFields (·.setIfInBounds 0 (rawInt slot')))).get? it=some _:=Heap.get?_update_self _ hio (Obj.isFreed_of_fields (Obj.data_mapFields hd _));refine ZB (wpAny_setField n1 (Obj.data_mapFields hd _) (by simp) ?_)
 have n2:=Heap.get?_update_self (Obj.mapFields (·.setIfInBounds 1 (rawInt ((i:Int)+1)))) n1 (Obj.isFreed_of_fields (Obj.data_mapFields (Obj.data_mapFields hd _) _));refine ZP ⟨_,rfl,ZP (h _ slot' ⟨_,n2,((Obj.cls_mapFields ..).trans (Obj.cls_mapFields ..)).trans hc,?_⟩ hs' ((Heap.SameBut.update ..).trans (Heap.SameBut.update ..)))⟩;rw [Obj.data_mapFields (Obj.data_mapFields hd _)];simp [rawInt]
theorem w8{slot i:Nat}{Q:Option Value->Shared->Prop}(hh:A.handled=none)(hit:SIt s.heap it S slot i es.size ep)(ho:s.heap.get? S=some o)(P:PtSet prog w o D es ep t Z)(hs:SAt w t slot i)(he:(wkO w S ep es)[i]? = none)
  (h:∀ h',Heap.ExtBut it s.heap h'->Q none { s with heap:=h' }):wpAny (model prog w) A (pyNext (.ref it)) Q E s:=by
 obtain ⟨io,hio,hc,hd⟩:=id hit;unfold pyNext;refine ZB (wpAny_attempt (wpAny_callSpecial?_slot (name:=Str.ofString "__next__") hit.typeIs dB (wpAny_call_entry dB hit.typeIs mi ?_ (nG _))));unfold Builtin.«set_iterator.__next__» slotArgs;simp only [List.isEmpty_nil,Bool.not_true,Bool.false_eq_true,if_false,List.length_nil,bne_self_eq_false];refine ZB (ZP ?_);refine ZB (wpAny_fieldsOf hio hd ?_);dsimp only;refine ZB (wpAny_setEntries_of ho P.dt P.tb.fits ?_);rw [if_neg (by simp)]
 simp only [Int.toNat_natCast];refine ZB (ve ho P hs he ?_);dsimp only;refine ZB (wpAny_setField hio hd (by simp) ?_)
 refine ZB ?_;simp only [newExc,newTuple];refine ZB (wpAny_newObj_type ?_ (by size_fits))
 refine ZB (m:=firstArgMember _ _) (wpAny_of_eq (a:=Value.none) (by first | rfl | (simp only [firstArgMember];rfl)) (wpAny_newObj_type ?_ (by size_fits)))
 simp only [raiseNew];refine ZB (wpAny_handled ?_);rw [show A.in1.handled=none from hh];refine ZB (ZP (wpAny_throw ?_));exact ZB (wpAny_isInstance (T := "StopIteration") (b:=true) ⟨_,GF _ rfl,rfl⟩ isSubtype_stop (ZP (h _ (((Heap.SameBut.update ..).extBut.push _).push _))))
end
noncomputable def ak:List Int->List Int->Bool
 | [],[]=>false
 | [],_ :: _=>true
 | _ :: _,[]=>false
 | a :: r,b :: q=>if a=b then ak r q else decide (a < b)
section
variable{prog:Program}{w:World}{A:Around}{E:Value->Shared->Prop}{s:Shared}
theorem A7(hu:A.units < cLine){f:Bool}{a b:Int}{t u:Tok}{Q:Bool->Shared->Prop}(h:Q (decide (a < b)) s):wpAny (model prog w) A (oneLt' f (.int a t) (.int b u)) Q E s:=by
 cases f with
 | true=>exact oneLt_int h
 | false =>
  rw [oneLt'_eq];simp only [Bool.false_eq_true,if_false];refine ZB (wpAny_richCompare_same_room (op := .Lt) (typeIs_int s a t) (typeIs_int s b u) slot_int_lt (call_int_lt ⟨(λe=>nomatch e),?_⟩) hu);exact wpAny_truthy_bool h
theorem vt(f:Bool)(x y:Value):keyLt' (tuples' f) x y=(do
  let xs <- Builtin.List.listItems x;let ys <- Builtin.List.listItems y
  for ((p,q),i) in (xs.toList.zip ys.toList).zipIdx do
   if !(<- eqBool p q) then return <- oneLt' (f && i == 0) p q
  return xs.size < ys.size):=rfl
theorem Bb(hu:A.units < cLine){f:Bool}{x y:List Int}{a b:Addr}{Q:Bool->Shared->Prop}(hx:IsT prog w s.heap x a)(hy:IsT prog w s.heap y b)(h:Q (ak x y) s):
  wpAny (model prog w) A (keyLt' (tuples' f) (.ref a) (.ref b)) Q E s:=by
 obtain ⟨oa,xs,na,hoa,_,hda,hia⟩:=hx;obtain ⟨ob,ys,nb,hob,_,hdb,hib⟩:=hy;rw [vt];refine ZB (listItems_at hoa hda ?_);refine ZB (listItems_at hob hdb ?_);refine ZB ?_;refine wpAny_forIn_list _
  (λrest r s'=>r.1=none/\s'=s /\ ∃ x' y' xs' ys' k,rest=(List.zip xs' ys').zipIdx k/\ItemsAre (intKind prog w) x' xs'/\ItemsAre (intKind prog w) y' ys'/\ak x' y'=ak x y/\(xs'.length+ys.size=ys'.length+xs.size))
  _ ?_ ?_ _ _ ⟨rfl,rfl,x,y,xs.toList,ys.toList,0,rfl,hia,hib,rfl,by simp [Nat.add_comm]⟩
 .rintro ⟨⟨u,v⟩,i⟩ rest r s' ⟨hr,rfl,x',y',xs',ys',k,hz,hx',hy',hdec,hlen⟩
  cases hx' with
  | nil=>simp at hz
  | @cons k1 u' x'' xs'' h1 hx'' =>
   cases hy' with
   | nil=>simp at hz
   | @cons k2 v' y'' ys'' h2 hy'' =>
    simp only [List.zip_cons_cons,List.zipIdx_cons,List.cons.injEq,Prod.mk.injEq] at hz;obtain ⟨⟨⟨rfl,rfl⟩,rfl⟩,rfl⟩:=hz;refine ZB ((intKind prog w).eqBool (a:=k1) (b:=k2) h1 h2 ?_);by_cases hk:k1=k2
    .subst hk
     rw [decide_eq_true rfl];simp only [Bool.not_true,Bool.false_eq_true,if_false];refine ZP ⟨rfl,rfl,x'',y'',xs'',ys'',i+1,rfl,hx'',hy'',?_,?_⟩
     .rw [<-hdec];simp [ak]
     .simp only [List.length_cons] at hlen;omega
    .rw [decide_eq_false hk]
     simp only [Bool.not_false,if_true];obtain ⟨t1,rfl⟩:=Value.isInt_shape h1;obtain ⟨t2,rfl⟩:=Value.isInt_shape h2;refine ZB (A7 hu ?_);refine ZP (ZP ?_);have:ak x y=decide (k1 < k2):=by rw [<-hdec];simp [ak,hk]
     rw [this] at h;exact h
 .rintro ⟨r1,r2⟩ s' ⟨hr,rfl,x',y',xs',ys',k,hz,hx',hy',hdec,hlen⟩
  simp only at hr;subst hr;refine ZP ?_;have hfin:decide (xs.size < ys.size)=ak x y:=by
   rw [<-hdec];cases hx' with
   | nil =>
    cases hy' with
    | nil=>simp only [ak,List.length_nil] at hlen ⊢;exact decide_eq_false (by omega)
    | cons _ _=>simp only [ak,List.length_nil,List.length_cons] at hlen ⊢;exact decide_eq_true (by omega)
   | cons _ _ =>
    cases hy' with
    | nil=>simp only [ak,List.length_nil,List.length_cons] at hlen ⊢;exact decide_eq_false (by omega)
    | cons _ _=>simp at hz
  rw [hfin];exact h
end
noncomputable def a5(prog:Program)(w:World)(A:Around)(E:Value->Shared->Prop)(s:Shared)(κ:SortKind)(a₀ : Array Keyed)(rk:Keyed->Nat):Prop :=
 ∀ x y,x∈a₀ -> y∈a₀ -> ∀ (st:SortSt) (Q:Option Bool->SortSt->Prop),kindOf st=κ->Q (some (decide (rk x < rk y))) st->wpS (model prog w) A E s (lt' x y) Q st
noncomputable def ra(rk:Keyed->Nat)(a:Array Keyed)(i:Nat):Nat:=(a[i]?.map rk).getD 0
structure SB(κ:SortKind)(a₀ : Array Keyed)(st:SortSt):Prop where
 perm:(arrOf st).Perm a₀
 failed:failedOf st=none
 kind:kindOf st=κ
noncomputable def Up(r:Nat->Nat)(lo hi:Nat):Prop := ∀ i j,lo<=i->i<=j->j < hi->r i<=r j
noncomputable def Dn(r:Nat->Nat)(lo hi:Nat):Prop := ∀ i j,lo<=i->i<=j->j < hi->r j<=r i
structure Kp(κ:SortKind)(a₀ : Array Keyed)(lo hi:Nat)(st st':SortSt):Prop where
 sb:SB κ a₀ st'
 out:∀ i,(i < lo\/hi<=i)->(arrOf st')[i]? = (arrOf st)[i]?
 pend:pendingOf st'=pendingOf st
section
variable{prog:Program}{w:World}{A:Around}{E:Value->Shared->Prop}{s:Shared}{a₀ : Array Keyed}{rk:Keyed->Nat}{κ:SortKind}{st:SortSt}{lo hi:Nat}
theorem SB.size(B:SB κ a₀ st):(arrOf st).size=a₀.size:=B.perm.size_eq
theorem Kp.refl(B:SB κ a₀ st):Kp κ a₀ lo hi st st:=⟨B,λ_ _=>rfl,rfl⟩
theorem Kp.trans{st' st'':SortSt}(h:Kp κ a₀ lo hi st st')(h':Kp κ a₀ lo hi st' st''):Kp κ a₀ lo hi st st'':=⟨h'.sb,λi hi=>(h'.out i hi).trans (h.out i hi),h'.pend.trans h.pend⟩
theorem SB.setArr(B:SB κ a₀ st){xs:Array Keyed}(h:xs.Perm (arrOf st)):SB κ a₀ (setArr st xs):=⟨h.trans B.perm,B.failed,B.kind⟩
theorem fQ(L:a5 prog w A E s κ a₀ rk)(B:SB κ a₀ st){i j:Nat}{Q:Option Bool->SortSt->Prop}(hi:i < a₀.size)(hj:j < a₀.size)
  (h:Q (some (decide (ra rk (arrOf st) i < ra rk (arrOf st) j))) st):wpS (model prog w) A E s (ltAt' i j) Q st:=by
 have hi':i < (arrOf st).size:=by rw [B.size];exact hi
 have hj':j < (arrOf st).size:=by rw [B.size];exact hj
 have ei:(arrOf st)[i]? = some (arrOf st)[i]:=Array.getElem?_eq_getElem hi';have ej:(arrOf st)[j]? = some (arrOf st)[j]:=Array.getElem?_eq_getElem hj';rw [ltAt'_eq];refine wpS_bind (wpS_get ?_);show wpS _ _ _ _ (do let x <- elem' (arrOf st) i;let y <- elem' (arrOf st) j;lt' x y) Q st
 rw [elem'_eq,elem'_eq,ei,ej];refine wpS_bind (wpS_pure (wpS_bind (wpS_pure ?_)));refine L _ _ (B.perm.mem_iff.mp (Array.getElem_mem hi')) (B.perm.mem_iff.mp (Array.getElem_mem hj')) st Q B.kind ?_;unfold ra at h;rw [ei,ej] at h;exact h
theorem vz{a:Array Keyed}{i j:Nat}(hj:j<=a.size)(k:Nat):ra rk (mirror a i j ((j - i) / 2)) k=if i<=k/\k < j then ra rk a (i+j - 1 - k) else ra rk a k:=by
 unfold ra;rw [getElem?_mirror_all hj];split <;> rfl
theorem dU(B:SB κ a₀ st){i j:Nat}{Q:Unit->SortSt->Prop}(hj:j<=a₀.size)
  (h:∀ st',SB κ a₀ st'->pendingOf st'=pendingOf st->(∀ k,¬ (i<=k/\k < j)->(arrOf st')[k]? = (arrOf st)[k]?)->(∀ k,ra rk (arrOf st') k=if i<=k/\k < j then ra rk (arrOf st) (i+j - 1 - k) else ra rk (arrOf st) k)->Q () st') :
  wpS (model prog w) A E s (reverseSlice' i j) Q st:=by
 have hj':j<=(arrOf st).size:=by rw [B.size];exact hj
 rw [reverseSlice'_eq];refine wpS_modify (h _ (B.setArr (mirror_perm _ _ _ _)) rfl (λk hk => ?_) λk=>vz hj' k);show (mirror (arrOf st) i j ((j - i) / 2))[k]? = _;rw [getElem?_mirror_all hj',if_neg hk]
theorem eR(L:a5 prog w A E s κ a₀ rk)(B:SB κ a₀ st){n nrem:Nat}{Q:Option (Option Nat)×Nat->SortSt->Prop}(h1:1<=n)(h2:n<=nrem)(hs:lo+nrem<=a₀.size)(hu:Up (ra rk (arrOf st)) lo (lo+n))
  (h:∀ m,n<=m->m<=nrem->Up (ra rk (arrOf st)) lo (lo+m)->(m=nrem\/ra rk (arrOf st) (lo+m) < ra rk (arrOf st) (lo+m - 1))->Q (none,m) st) :
  wpS (model prog w) A E s (forIn [n:nrem] ((none,n):Option (Option Nat)×Nat) λ_ c=>do
   let __x <- ltAt' (lo+c.2) (lo+c.2 - 1)
   match __x with
   | some smaller=>if smaller=true then pure (ForInStep.done (none,c.2)) else pure (ForInStep.yield (none,c.2+1))
   | _=>pure (ForInStep.done (some none,c.2))) Q st:=by
 refine wpS_mono (wpS_forRange (I:=λx c st'=>st'=st/\c=(none,x)/\x<=nrem/\Up (ra rk (arrOf st)) lo (lo+x))
  (Q:=λc st'=>st'=st /\ ∃ m,c=(none,m)/\n<=m/\m<=nrem/\Up (ra rk (arrOf st)) lo (lo+m)/\(m=nrem\/ra rk (arrOf st) (lo+m) < ra rk (arrOf st) (lo+m - 1))) ?_ ?_ ⟨rfl,rfl,h2,hu⟩) ?_
 .rintro x c st' hnx hx ⟨rfl,rfl,_,hu'⟩
  refine wpS_bind (fQ L B (by omega) (by omega) ?_)
  by_cases hl:ra rk (arrOf st') (lo+x) < ra rk (arrOf st') (lo+x - 1)
  .simp only [hl,decide_true,if_true]
   exact wpS_pure ⟨rfl,x,rfl,hnx,by omega,hu',.inr hl⟩
  .simp only [hl,decide_false,Bool.false_eq_true,if_false]
   refine wpS_pure ⟨rfl,rfl,by omega,λi j hi hij hj => ?_⟩
   by_cases q:j < lo+x
   .exact hu' i j hi hij q
   .have:j=lo+x:=by omega
    subst this;by_cases q2:i=lo+x
    .rw [q2];exact GA _
    .exact Gy (hu' i (lo+x - 1) hi (by omega) (by omega)) (by omega)
 .rintro c st' ⟨rfl,rfl,_,hu'⟩
  have e:max n nrem=nrem:=by omega
  rw [e] at hu' ⊢;exact ⟨rfl,nrem,rfl,h2,GA _,hu',.inl rfl⟩
 .rintro c st' ⟨rfl,m,rfl,a,b,c,d⟩
  exact h m a b c d
end
section
variable{prog:Program}{w:World}{A:Around}{E:Value->Shared->Prop}{s:Shared}{a₀ : Array Keyed}{rk:Keyed->Nat}{κ:SortKind}{st:SortSt}{lo hi:Nat}
noncomputable def Eqs(r:Nat->Nat)(lo n q:Nat):Prop:=q+1<=n /\ ∀ i,lo+n - (q+1)<=i->i < lo+n->r i=r (lo+n - 1)
theorem jq(B:SB κ a₀ st){n q:Nat}{Q:Unit->SortSt->Prop}(hq:Eqs (ra rk (arrOf st)) lo n q)(hs:lo+n<=a₀.size)
  (h:∀ st',Kp κ a₀ lo (lo+n) st st'->(∀ k,ra rk (arrOf st') k=ra rk (arrOf st) k)->Q () st'):wpS (model prog w) A E s (reverseSlice' (lo+n - (q+1)) (lo+n)) Q st:=by
 obtain ⟨h1,h2⟩:=hq;refine dU (rk:=rk) B hs λst' B' hp ho hr=>h st' ⟨B',λi hi=>ho i (by omega),hp⟩ λk => ?_
 rw [hr k];split
 .rename_i hk
  rw [h2 _ (by omega) (by omega),h2 k (by omega) (by omega)]
 .rfl
theorem nC(L:a5 prog w A E s κ a₀ rk)(B:SB κ a₀ st){n nrem:Nat}{Q:Option (Option Nat)×Nat×Nat->SortSt->Prop}(h1:1<=n)(h2:n<=nrem)(hs:lo+nrem<=a₀.size)(hd:Dn (ra rk (arrOf st)) lo (lo+n))
  (h:∀ m q st',Kp κ a₀ lo (lo+nrem) st st'->n<=m->m<=nrem->Dn (ra rk (arrOf st')) lo (lo+m)->Eqs (ra rk (arrOf st')) lo m q->Q (none,m,q) st') :
  wpS (model prog w) A E s (forIn [n:nrem] ((none,n,0):Option (Option Nat)×Nat×Nat) λ_ c =>
   ltAt' (lo+c.2.1) (lo+c.2.1 - 1) >>= λ__x=>match __x with
   | some smaller=>if smaller=true then
     (if c.2.2 > 0 then reverseSlice' (lo+c.2.1 - (c.2.2+1)) (lo+c.2.1) >>= λ_=>pure (ForInStep.yield (none,c.2.1+1,0)) else pure (ForInStep.yield (none,c.2.1+1,0)))
    else (ltAt' (lo+c.2.1 - 1) (lo+c.2.1) >>= λ__x=>match __x with
     | some larger=>if larger=true then pure (ForInStep.done (none,c.2.1,c.2.2)) else pure (ForInStep.yield (none,c.2.1+1,c.2.2+1))
     | _=>pure (ForInStep.done (some none,c.2.1,c.2.2)))
   | _=>pure (ForInStep.done (some none,c.2.1,c.2.2))) Q st:=by
 refine wpS_mono (wpS_forRange (I:=λx c st'=>Kp κ a₀ lo (lo+nrem) st st' /\ ∃ q,c=(none,x,q)/\x<=nrem/\Dn (ra rk (arrOf st')) lo (lo+x)/\Eqs (ra rk (arrOf st')) lo x q)
  (Q:=λc st'=>Kp κ a₀ lo (lo+nrem) st st' /\ ∃ m q,c=(none,m,q)/\n<=m/\m<=nrem/\Dn (ra rk (arrOf st')) lo (lo+m)/\Eqs (ra rk (arrOf st')) lo m q) ?_ ?_
  ⟨Kp.refl B,0,rfl,h2,hd,by omega,λi a b=>by congr 1;omega⟩) ?_
 .rintro x c st' hnx hx ⟨hk,q,rfl,_,hd',hq⟩
  have grow:∀ {r:Nat->Nat},Dn r lo (lo+x)->r (lo+x)<=r (lo+x - 1)->Dn r lo (lo+(x+1)):=λ{r} hd' hl i j hi hij hj=>by
   by_cases q:j < lo+x
   .exact hd' i j hi hij q
   .have:j=lo+x:=by omega
    subst this;by_cases q2:i=lo+x
    .rw [q2];exact GA _
    .exact Gy hl (hd' i (lo+x - 1) hi (by omega) (by omega))
  have one:∀ r:Nat->Nat,Eqs r lo (x+1) 0:=λr=>⟨by omega,λi a b=>by congr 1;omega⟩
  dsimp only;refine wpS_bind (fQ L hk.sb (by omega) (by omega) ?_)
  by_cases hl:ra rk (arrOf st') (lo+x) < ra rk (arrOf st') (lo+x - 1)
  .simp only [hl,decide_true,if_true]
   by_cases hq0:q > 0
   .rw [if_pos hq0]
    refine wpS_bind (jq hk.sb hq (by omega) λst2 hk2 hr=>wpS_pure ⟨hk.trans ⟨hk2.sb,λi hi=>hk2.out i (by omega),hk2.pend⟩,0,rfl,by omega,?_,one _⟩)
    have e:ra rk (arrOf st2)=ra rk (arrOf st'):=funext hr;rw [e];exact grow hd' (by omega)
   .rw [if_neg hq0]
    exact wpS_pure ⟨hk,0,rfl,by omega,grow hd' (by omega),one _⟩
  .simp only [hl,decide_false,Bool.false_eq_true,if_false]
   refine wpS_bind (fQ L hk.sb (by omega) (by omega) ?_)
   by_cases hl2:ra rk (arrOf st') (lo+x - 1) < ra rk (arrOf st') (lo+x)
   .simp only [hl2,decide_true,if_true]
    exact wpS_pure ⟨hk,x,q,rfl,hnx,by omega,hd',hq⟩
   .simp only [hl2,decide_false,Bool.false_eq_true,if_false]
    refine wpS_pure ⟨hk,q+1,rfl,by omega,grow hd' (by omega),by have:=hq.1;omega,λi a b => ?_⟩
    have e1:lo+(x+1) - 1=lo+x:=by omega
    rw [e1];by_cases q2:i=lo+x
    .rw [q2]
    .rw [hq.2 i (by have:=hq.1;omega) (by omega)];omega
 .rintro c st' ⟨hk,q,rfl,_,hd',hq⟩
  have e:max n nrem=nrem:=by omega
  rw [e] at hd' hq ⊢;exact ⟨hk,nrem,q,rfl,h2,GA _,hd',hq⟩
 .rintro c st' ⟨hk,m,q,rfl,a,b,c,d⟩
  exact h m q st' hk a b c d
end
section
variable{prog:Program}{w:World}{A:Around}{E:Value->Shared->Prop}{s:Shared}{a₀ : Array Keyed}{rk:Keyed->Nat}{κ:SortKind}{st:SortSt}{lo hi:Nat}
theorem hY{n:Nat}{r r':Nat->Nat}(hd:Dn r lo (lo+n))(hr:∀ k,r' k=if lo<=k/\k < lo+n then r (lo+(lo+n) - 1 - k) else r k):Up r' lo (lo+n):=λi j hi hij hj=>by
 rw [hr i,hr j,if_pos (by omega),if_pos (by omega)]
 exact hd _ _ (by omega) (by omega) (by omega)
theorem vB(L:a5 prog w A E s κ a₀ rk)(B:SB κ a₀ st){nrem:Nat}{Q:Option Nat->SortSt->Prop}(h1:1<=nrem)(hs:lo+nrem<=a₀.size)
  (h:∀ m st',Kp κ a₀ lo (lo+nrem) st st'->1<=m->m<=nrem->Up (ra rk (arrOf st')) lo (lo+m)->Q (some m) st') :
  wpS (model prog w) A E s (countRun' lo nrem) Q st:=by
 rw [countRun'_eq];refine wpS_bind (eR L B (GA 1) h1 hs (λi j hi hij hj=>by have:i=j:=(by omega);rw [this];exact GA _) λn hn1 hn2 hu hor => ?_)
 dsimp only;by_cases hn:n=nrem
 .rw [if_pos (by simp [hn])]
  exact wpS_pure (h n st (Kp.refl B) hn1 hn2 hu)
 .rw [if_neg (by simp [hn])]
  have hlt:ra rk (arrOf st) (lo+n) < ra rk (arrOf st) (lo+n - 1):=hor.resolve_left hn;have hn3:n < nrem:=by omega
  have grow:∀ {r:Nat->Nat},Dn r lo (lo+n)->r (lo+n)<=r (lo+n - 1)->Dn r lo (lo+(n+1)):=λ{r} hd' hl i j hi hij hj=>by
   by_cases q:j < lo+n
   .exact hd' i j hi hij q
   .have:j=lo+n:=by omega
    subst this;by_cases q2:i=lo+n
    .rw [q2];exact GA _
    .exact Gy hl (hd' i (lo+n - 1) hi (by omega) (by omega))
  by_cases hn4:n > 1
  .rw [if_pos hn4]
   refine wpS_bind (fQ L B (by omega) (by omega) ?_)
   by_cases hr:ra rk (arrOf st) lo < ra rk (arrOf st) (lo+n - 1)
   .simp only [hr,decide_true,if_true]
    exact wpS_pure (h n st (Kp.refl B) hn1 hn2 hu)
   .simp only [hr,decide_false,Bool.false_eq_true,if_false]
    have eq:∀ i,lo<=i->i < lo+n->ra rk (arrOf st) i=ra rk (arrOf st) (lo+n - 1):=λi a b=>by
     have e1:=hu lo i (GA _) a b;have e2:=hu i (lo+n - 1) a (by omega) (by omega)
     omega
    refine wpS_bind (dU (rk:=rk) B (by omega) λst1 B1 hp ho hr1 => ?_)
    have e1:∀ k,ra rk (arrOf st1) k=ra rk (arrOf st) k:=λk=>by
     rw [hr1 k];split
     .rw [eq _ (by omega) (by omega),eq k (by omega) (by omega)]
     .rfl
    have e2:ra rk (arrOf st1)=ra rk (arrOf st):=funext e1;have hk1:Kp κ a₀ lo (lo+nrem) st st1:=⟨B1,λi hi=>ho i (by omega),hp⟩
    have hd1:Dn (ra rk (arrOf st1)) lo (lo+(n+1)):=by
     rw [e2];exact grow (λi j hi hij hj=>by rw [eq i (by omega) (by omega),eq j (by omega) (by omega)];exact GA _) (by omega)
    refine wpS_bind (wpS_lift (wpAny_rule ⟨rfl,?_⟩));refine wpS_bind (nC L hk1.sb (by omega) (by omega) hs hd1 λm q st2 hk2 hm1 hm2 hd2 hq => ?_)
    dsimp only;by_cases hq0:q > 0
    .rw [if_pos hq0]
     refine wpS_bind (jq hk2.sb hq (by omega) λst3 hk3 hr => ?_)
     have e:ra rk (arrOf st3)=ra rk (arrOf st2):=funext hr;have hd3:Dn (ra rk (arrOf st3)) lo (lo+m):=by rw [e];exact hd2
     refine wpS_bind (dU (rk:=rk) hk3.sb (by omega) λst4 B4 hp4 ho4 hr4 => ?_)
     refine wpS_bind (eR L B4 (by omega) hm2 hs (hY hd3 hr4) λm' a b c _ => ?_)
     exact wpS_pure (h m' st4 ((hk1.trans hk2).trans (Kp.trans ⟨hk3.sb,λi hi=>hk3.out i (by omega),hk3.pend⟩ ⟨B4,λi hi=>ho4 i (by omega),hp4⟩)) (by omega) b c)
    .rw [if_neg hq0]
     refine wpS_bind (dU (rk:=rk) hk2.sb (by omega) λst4 B4 hp4 ho4 hr4 => ?_)
     refine wpS_bind (eR L B4 (by omega) hm2 hs (hY hd2 hr4) λm' a b c _ => ?_)
     exact wpS_pure (h m' st4 ((hk1.trans hk2).trans ⟨B4,λi hi=>ho4 i (by omega),hp4⟩) (by omega) b c)
  .rw [if_neg hn4]
   have:n=1:=by omega
   subst this;have hk1:Kp κ a₀ lo (lo+nrem) st st:=Kp.refl B;have hd1:Dn (ra rk (arrOf st)) lo (lo+(1+1)):=grow (λi j hi hij hj=>by have:i=j:=(by omega);rw [this];exact GA _) (by omega)
   refine wpS_bind (wpS_lift (wpAny_rule ⟨rfl,?_⟩));refine wpS_bind (nC L hk1.sb (by omega) (by omega) hs hd1 λm q st2 hk2 hm1 hm2 hd2 hq => ?_)
   dsimp only;by_cases hq0:q > 0
   .rw [if_pos hq0]
    refine wpS_bind (jq hk2.sb hq (by omega) λst3 hk3 hr => ?_)
    have e:ra rk (arrOf st3)=ra rk (arrOf st2):=funext hr;have hd3:Dn (ra rk (arrOf st3)) lo (lo+m):=by rw [e];exact hd2
    refine wpS_bind (dU (rk:=rk) hk3.sb (by omega) λst4 B4 hp4 ho4 hr4 => ?_)
    refine wpS_bind (eR L B4 (by omega) hm2 hs (hY hd3 hr4) λm' a b c _ => ?_)
    exact wpS_pure (h m' st4 ((hk1.trans hk2).trans (Kp.trans ⟨hk3.sb,λi hi=>hk3.out i (by omega),hk3.pend⟩ ⟨B4,λi hi=>ho4 i (by omega),hp4⟩)) (by omega) b c)
   .rw [if_neg hq0]
    refine wpS_bind (dU (rk:=rk) hk2.sb (by omega) λst4 B4 hp4 ho4 hr4 => ?_)
    refine wpS_bind (eR L B4 (by omega) hm2 hs (hY hd2 hr4) λm' a b c _ => ?_)
    exact wpS_pure (h m' st4 ((hk1.trans hk2).trans ⟨B4,λi hi=>ho4 i (by omega),hp4⟩) (by omega) b c)
theorem ny{a:Array Keyed}{src:Nat}(hs:src < a.size){d:Nat}(hd:d<=src)(k:Nat):ra rk (bubble a src d) k=if k=src - d then ra rk a src else if src - d < k/\k<=src then ra rk a (k - 1) else ra rk a k:=by
 unfold ra;rw [getElem?_bubble hs d hd k];split
 .rfl
 .split <;> rfl
theorem ue(L:a5 prog w A E s κ a₀ rk)(B:SB κ a₀ st){n ok:Nat}{Q:Bool->SortSt->Prop}(hs:lo+n<=a₀.size)(hok:ok<=n)(hu:Up (ra rk (arrOf st)) lo (lo+ok))
  (h:∀ st',Kp κ a₀ lo (lo+n) st st'->Up (ra rk (arrOf st')) lo (lo+n)->Q true st'):wpS (model prog w) A E s (binarySort' lo n ok) Q st:=by
 rw [binarySort'_eq];refine wpS_bind (wpS_mono (wpS_forRange (I:=λk c st'=>c=(none,())/\Kp κ a₀ lo (lo+n) st st'/\Up (ra rk (arrOf st')) lo (lo+min k n))
  (Q:=λc st'=>c=(none,())/\Kp κ a₀ lo (lo+n) st st'/\Up (ra rk (arrOf st')) lo (lo+n)) ?step ?fin ?init) ?post)
 case post =>
  rintro c st' ⟨rfl,hk,hu'⟩;exact wpS_pure (h st' hk hu')
 case init =>
  refine ⟨rfl,Kp.refl B,λi j hi hij hj => ?_⟩;by_cases q:ok=0
  .have:i=j:=by omega
   rw [this];exact GA _
  .exact hu i j hi hij (by omega)
 case fin =>
  rintro c st' ⟨hc,hk,hu'⟩;refine ⟨hc,hk,?_⟩;rwa [show min (max (max ok 1) n) n=n by omega] at hu'
 case step =>
  rintro k c st' hak hkn ⟨rfl,hk,hu'⟩;rw [show min k n=k by omega] at hu'
  refine wpS_bind (wpS_mono (wpS_forRange (I:=λx c st''=>st''=st' /\ ∃ l r,c=(none,l,r)/\l<=r/\r<=k/\r - l<=k - x /\
    (∀ i,i < l->ra rk (arrOf st') (lo+i)<=ra rk (arrOf st') (lo+k))/\(∀ i,r<=i->i < k->ra rk (arrOf st') (lo+k) < ra rk (arrOf st') (lo+i)))
   (Q:=λc st''=>st''=st' /\ ∃ l r,c=(none,l,r)/\l<=k /\
    (∀ i,i < l->ra rk (arrOf st') (lo+i)<=ra rk (arrOf st') (lo+k))/\(∀ i,l<=i->i < k->ra rk (arrOf st') (lo+k) < ra rk (arrOf st') (lo+i))) ?istep ?ifin ?iinit) ?ipost)
  case iinit=>exact ⟨rfl,0,k,rfl,by omega,by omega,by omega,λi hi=>by omega,λi a b=>by omega⟩
  case ifin =>
   rintro c st'' ⟨rfl,l,r,rfl,hlr,hrk,hm,hlo,hhi⟩;have e:l=r:=by omega
   subst e;exact ⟨rfl,l,l,rfl,hrk,hlo,hhi⟩
  case istep =>
   rintro x c st'' _ hxk ⟨rfl,l,r,rfl,hlr,hrk,hm,hlo,hhi⟩;dsimp only;by_cases hge:l ≥ r
   .rw [if_pos hge]
    have e:l=r:=by omega
    subst e;exact wpS_pure ⟨rfl,l,l,rfl,hrk,hlo,hhi⟩
   .rw [if_neg hge]
    refine wpS_bind (fQ L hk.sb (by omega) (by omega) ?_)
    by_cases hless:ra rk (arrOf st'') (lo+k) < ra rk (arrOf st'') (lo+(l+r) / 2)
    .simp only [hless,decide_true,if_true]
     refine wpS_pure ⟨rfl,l,(l+r) / 2,rfl,by omega,by omega,by omega,hlo,λi a b => ?_⟩
     exact GC hless (hu' _ _ (by omega) (by omega) (by omega))
    .simp only [hless,decide_false,Bool.false_eq_true,if_false]
     refine wpS_pure ⟨rfl,(l+r) / 2+1,r,rfl,by omega,by omega,by omega,λi a => ?_,hhi⟩
     exact Gy (hu' (lo+i) (lo+(l+r) / 2) (by omega) (by omega) (by omega)) (Nat.not_lt.mp hless)
  case ipost =>
   rintro c st'' ⟨rfl,l,r,rfl,hlk,hlo,hhi⟩;show wpS _ _ _ _ (do moveDown' (lo+k) (lo+l);pure (ForInStep.yield (none,()))) _ _
   rw [moveDown'_eq];have hks:lo+k < (arrOf st'').size:=by rw [hk.sb.size];omega
   refine wpS_bind (wpS_modify (wpS_pure ⟨rfl,hk.trans ⟨hk.sb.setArr (bubble_perm _ _ _),λi hi => ?_,rfl⟩,?_⟩))
   .show (bubble (arrOf st'') (lo+k) (lo+k - (lo+l)))[i]? = _
    rw [getElem?_bubble hks _ (by omega),if_neg (by omega),if_neg (by omega)]
   .rw [show min (k+1) n=k+1 by omega]
    intro i j hi hij hj;show ra rk (bubble (arrOf st'') (lo+k) (lo+k - (lo+l))) i<=ra rk (bubble (arrOf st'') (lo+k) (lo+k - (lo+l))) j;rw [ny hks (by omega),ny hks (by omega),show lo+k - (lo+k - (lo+l))=lo+l by omega]
    have key1:∀ i,lo<=i->i < lo+l->ra rk (arrOf st'') i<=ra rk (arrOf st'') (lo+k):=λi a b=>by have:=hlo (i - lo) (by omega);rwa [show lo+(i - lo)=i by omega] at this
    have key2:∀ i,lo+l<=i->i < lo+k->ra rk (arrOf st'') (lo+k) < ra rk (arrOf st'') i:=λi a b=>by have:=hhi (i - lo) (by omega) (by omega);rwa [show lo+(i - lo)=i by omega] at this
    repeat' split
    all_goals first
     | (exfalso;omega)
     | exact GA _
     | exact key1 _ (by omega) (by omega)
     | exact Nat.le_of_lt (key2 _ (by omega) (by omega))
     | exact hu' _ _ (by omega) (by omega) (by omega)
end
theorem eX:∀ a:List Int,ak a a=false
 | []=>rfl
 | x :: r=>by simp [ak,eX r]
theorem fh:∀ {a b c:List Int},ak a b=true->ak b c=true->ak a c=true
 | [],[],_,h,_=>by cases h
 | [],_ :: _,[],_,h=>by cases h
 | [],_ :: _,_ :: _,_,_=>rfl
 | _ :: _,[],_,h,_=>by cases h
 | _ :: _,_ :: _,[],_,h=>by cases h
 | x :: a,y :: b,z :: c,h1,h2=>by
  simp only [ak] at h1 h2 ⊢;by_cases e1:x=y
  .subst e1
   rw [if_pos rfl] at h1;by_cases e2:x=z
   .subst e2;rw [if_pos rfl] at h2 ⊢;exact fh h1 h2
   .rw [if_neg e2] at h2 ⊢;exact h2
  .rw [if_neg e1] at h1
   have h1:=GI h1;by_cases e2:y=z
   .subst e2;rw [if_neg e1];exact decide_eq_true h1
   .rw [if_neg e2] at h2
    have h2:=GI h2;rw [if_neg (by omega)]
    exact decide_eq_true (by omega)
theorem fb:∀ {a b:List Int},ak a b=false->ak b a=false->a=b
 | [],[],_,_=>rfl
 | [],_ :: _,h,_=>by cases h
 | _ :: _,[],_,h=>by cases h
 | x :: a,y :: b,h1,h2=>by
  simp only [ak] at h1 h2;by_cases e:x=y
  .subst e
   rw [if_pos rfl] at h1 h2;rw [fb h1 h2]
  .rw [if_neg e] at h1
   rw [if_neg (λq=>e q.symm)] at h2;have h1:=of_decide_eq_false h1;have h2:=of_decide_eq_false h2;omega
theorem oj{α:Type}{p q:α->Bool}:∀ {l:List α},(∀ x∈l,p x=true->q x=true)->(∃ x∈l,q x=true/\p x=false)->l.countP p < l.countP q
 | [],_,⟨x,h,_⟩=>by cases h
 | a :: l,h1,⟨x,hx,hq,hp⟩=>by
  have mono:l.countP p<=l.countP q:=List.countP_mono_left λx hx h=>h1 x (GB _ hx) h;rw [List.countP_cons,List.countP_cons];rcases List.mem_cons.mp hx with rfl | hx
  .rw [hq,hp];simp;omega
  .have ih:=oj (λx hx=>h1 x (GB _ hx)) ⟨x,hx,hq,hp⟩
   have h2:=h1 a GH;cases ep:p a with
   | false=>simp only [Bool.false_eq_true,if_false];split <;> omega
   | true=>rw [h2 ep];simp;omega
noncomputable abbrev KyB:=List (List Int×Addr)
noncomputable def k8(D:KyB)(v:Value):List Int:=open Classical in match D.find? λd=>decide (Value.ref d.2=v) with
 | some d=>d.1
 | none=>[]
noncomputable def rkD(D:KyB)(x:Keyed):Nat:=D.countP λd=>ak d.1 (k8 D x.1)
section
variable{prog:Program}{w:World}{A:Around}{E:Value->Shared->Prop}{s:Shared}{D:KyB}
theorem n5(hD:∀ d∈D,IsT prog w s.heap d.1 d.2){d:List Int×Addr}(hd:d∈D):k8 D (.ref d.2)=d.1:=by
 unfold k8;cases e:D.find? λd'=>open Classical in decide (Value.ref d'.2=Value.ref d.2) with
 | none =>
  have:=List.find?_eq_none.mp e d hd;simp at this
 | some d' =>
  have h1:=List.find?_some e;have h2:=List.mem_of_find?_eq_some e;have h3:d'.2=d.2:=by simpa using h1
  have a:=hD d' h2;rw [h3] at a;exact a.inj (hD d hd)
theorem rp(hD:∀ d∈D,IsT prog w s.heap d.1 d.2){d e:List Int×Addr}(hd:d∈D)(he:e∈D)(u v:Value):ak d.1 e.1=decide (rkD D (.ref d.2,u) < rkD D (.ref e.2,v)):=by
 unfold rkD;rw [n5 hD hd,n5 hD he];cases h:ak d.1 e.1 with
 | true=>exact (decide_eq_true (oj (λx _ hx=>fh hx h) ⟨d,hd,h,eX _⟩)).symm
 | false =>
  refine (decide_eq_false (Nat.not_lt.mpr ?_)).symm;refine List.countP_mono_left λx _ hx => ?_;cases h2:ak e.1 d.1 with
  | true=>exact fh hx h2
  | false=>rw [fb h h2];exact hx
theorem De(hu:A.units < cLine)(hD:∀ d∈D,IsT prog w s.heap d.1 d.2){f:Bool}{a₀ : Array Keyed}(ha:∀ x∈a₀,∃ d∈D,x=(.ref d.2,.ref d.2)):a5 prog w A E s (tuples' f) a₀ (rkD D):=by
 intro x y hx hy st Q hk h;obtain ⟨d,hd,rfl⟩:=ha x hx;obtain ⟨e,he,rfl⟩:=ha y hy;rw [lt'_eq];refine wpS_bind (wpS_get ?_);rw [hk];refine wpS_bind (wpS_lift (wpAny_attempt (Bb hu (hD d hd) (hD e he) ⟨rfl,?_⟩)));rw [rp hD hd he (.ref d.2) (.ref e.2)];exact wpS_pure h
end
noncomputable def gallop':Bool->Keyed->Array Keyed->Nat->Nat->Nat->StateT SortSt Sem (Option Nat):=sortPriv% PySem.Builtin.gallop
theorem uR(left:Bool)(key:Keyed)(arr:Array Keyed)(base n hint:Nat):gallop' left key arr base n hint=(do
 let beyond (i:Nat):StateT SortSt Sem (Option Bool):=do
  let x <- elem' arr (base+i)
  if left then lt' x key else return (<- lt' key x).map (!·)
 let mut lastofs:=0
 let mut ofs:=1
 let mut lo:=0
 let mut hi:=0
 let some right <- beyond hint | return none
 if right then
  let maxofs:=n - hint
  for _ in [0:n] do
   if ofs ≥ maxofs then break
   let some more <- beyond (hint+ofs) | return none
   if !more then break
   lastofs:=ofs
   ofs:=2*ofs+1
  lo:=hint+lastofs+1
  hi:=hint+min ofs maxofs
 else
  let maxofs:=hint+1
  for _ in [0:n] do
   if ofs ≥ maxofs then break
   let some found <- beyond (hint - ofs) | return none
   if found then break
   lastofs:=ofs
   ofs:=2*ofs+1
  lo:=hint+1 - min ofs maxofs
  hi:=hint - lastofs
 for _ in [0:n] do
  if lo ≥ hi then break
  let m:=lo+(hi - lo) / 2
  let some more <- beyond m | return none
  if more then lo:=m+1 else hi:=m
 return some hi):=rfl
noncomputable def bdy(left:Bool)(rk:Keyed->Nat)(key:Keyed)(arr:Array Keyed)(base i:Nat):Bool:=if left then decide (ra rk arr (base+i) < rk key) else !decide (rk key < ra rk arr (base+i))
section
variable{prog:Program}{w:World}{A:Around}{E:Value->Shared->Prop}{s:Shared}{a₀ : Array Keyed}{rk:Keyed->Nat}{κ:SortKind}{st:SortSt}
noncomputable def bey(left:Bool)(key:Keyed)(arr:Array Keyed)(base i:Nat):StateT SortSt Sem (Option Bool):=do
  let x <- elem' arr (base+i)
  if left then lt' x key else return (<- lt' key x).map (!·)
theorem AQ(L:a5 prog w A E s κ a₀ rk)(B:kindOf st=κ){left:Bool}{key:Keyed}{arr:Array Keyed}{base i:Nat}{Q:Option Bool->SortSt->Prop}(hk:key∈a₀)(ha:∀ x∈arr,x∈a₀)(hi:base+i < arr.size)
  (h:Q (some (bdy left rk key arr base i)) st):wpS (model prog w) A E s (bey left key arr base i) Q st:=by
 have ei:arr[base+i]? = some arr[base+i]:=Array.getElem?_eq_getElem hi;have er:ra rk arr (base+i)=rk arr[base+i]:=by unfold ra;rw [ei];rfl
 unfold bey;rw [elem'_eq,ei];refine wpS_bind (wpS_pure ?_);unfold bdy at h;rw [er] at h;cases left with
 | true=>rw [if_pos rfl] at h ⊢;exact L _ _ (ha _ (Array.getElem_mem hi)) hk st Q B h
 | false =>
  rw [if_neg Gz] at h ⊢;exact wpS_bind (L _ _ hk (ha _ (Array.getElem_mem hi)) st _ B (wpS_pure h))
noncomputable def Spl(b:Nat->Bool)(n k:Nat):Prop:=k<=n/\(∀ i,i < k->b i=true) /\ ∀ i,k<=i->i < n->b i=false
theorem jc(L:a5 prog w A E s κ a₀ rk)(B:kindOf st=κ){left:Bool}{key:Keyed}{arr:Array Keyed}{base n hint:Nat}{Q:Option Nat->SortSt->Prop}(hk:key∈a₀)(ha:∀ x∈arr,x∈a₀)(hs:base+n<=arr.size)(hh:hint < n)
  (hu:Up (ra rk arr) base (base+n)) (h:∀ k,Spl (bdy left rk key arr base) n k->Q (some k) st):wpS (model prog w) A E s (gallop' left key arr base n hint) Q st:=by
 have mono:∀ i j,i<=j->j < n->bdy left rk key arr base j=true->bdy left rk key arr base i=true:=λi j hij hj hb=>by
  have:=hu (base+i) (base+j) (by omega) (by omega) (by omega)
  unfold bdy at hb ⊢;cases left with
  | true=>rw [if_pos rfl] at hb ⊢;have:=GI hb;exact decide_eq_true (by omega)
  | false =>
   rw [if_neg Gz] at hb ⊢;simp only [Bool.not_eq_true',decide_eq_false_iff_not] at hb ⊢;omega
 generalize hb:bdy left rk key arr base=b at mono h;have bk:∀ {i:Nat} {Q:Option Bool->SortSt->Prop},i < n->Q (some (b i)) st->wpS (model prog w) A E s (bey left key arr base i) Q st:=λhi hq=>AQ L B hk ha (by omega) (by rw [hb];exact hq)
 rw [uR];dsimp only;refine wpS_bind (bk hh ?_);cases hr:b hint with
 | true =>
  dsimp only;rw [if_pos rfl];refine wpS_bind (wpS_mono (wpS_forRange (I:=λx c st'=>st=st' /\ ∃ l o,c=(none,l,o)/\l < o/\x+1<=o/\hint+l < n/\b (hint+l)=true)
   (Q:=λc st'=>st=st' /\ ∃ l o,c=(none,l,o)/\l < o/\hint+l < n/\b (hint+l)=true/\(n - hint<=o\/b (hint+o)=false)) ?_ ?_ ⟨rfl,0,1,rfl,by omega,by omega,by omega,hr⟩) ?_)
  .rintro x c st' _ hx ⟨rfl,l,o,rfl,p1,p2,p3,p4⟩
   dsimp only;by_cases hge:o ≥ n - hint
   .rw [if_pos hge]
    exact wpS_pure ⟨rfl,l,o,rfl,p1,p3,p4,.inl hge⟩
   .rw [if_neg hge]
    refine wpS_bind (bk (i:=hint+o) (by omega) ?_)
    cases hm:b (hint+o) with
    | true=>exact wpS_pure ⟨rfl,o,2*o+1,rfl,by omega,by omega,by omega,hm⟩
    | false=>exact wpS_pure ⟨rfl,l,o,rfl,p1,p3,p4,.inr hm⟩
  .rintro c st' ⟨rfl,l,o,rfl,p1,p2,p3,p4⟩
   exact ⟨rfl,l,o,rfl,p1,p3,p4,.inl (by omega)⟩
  .rintro c st' ⟨rfl,l,o,rfl,p1,p3,p4,p5⟩
   dsimp only;have q1:hint+l+1=0\/b (hint+l+1 - 1)=true := .inr p4;have q2:hint+min o (n - hint)=n\/b (hint+min o (n - hint))=false:=by
    rcases p5 with e | e
    .exact .inl (by omega)
    .by_cases q:n - hint<=o
     .exact .inl (by omega)
     .refine .inr ?_
      rw [show min o (n - hint)=o by omega];exact e
   have q3:hint+l+1<=hint+min o (n - hint):=by omega
   have q4:hint+min o (n - hint)<=n:=by omega
   refine wpS_bind (wpS_mono (wpS_forRange (I:=λx c st'=>st=st' /\ ∃ lo hi,c=(none,lo,hi)/\(lo=0\/b (lo - 1)=true)/\(hi=n\/b hi=false)/\lo<=hi/\hi<=n/\hi - lo<=n - x)
    (Q:=λc st'=>st=st' /\ ∃ k,c=(none,k,k)/\(k=0\/b (k - 1)=true)/\(k=n\/b k=false)/\k<=n) ?_ ?_ ⟨rfl,_,_,rfl,q1,q2,q3,q4,by omega⟩) ?_)
   .rintro x c st' _ hx ⟨rfl,lo,hi,rfl,p1,p2,p3,p4,p5⟩
    dsimp only;by_cases hge:lo ≥ hi
    .rw [if_pos hge]
     have e:lo=hi:=by omega
     subst e;exact wpS_pure ⟨rfl,lo,rfl,p1,p2,p4⟩
    .rw [if_neg hge]
     refine wpS_bind (bk (i:=lo+(hi - lo) / 2) (by omega) ?_)
     cases hm:b (lo+(hi - lo) / 2) with
     | true=>exact wpS_pure ⟨rfl,_,_,rfl,.inr hm,p2,by omega,p4,by omega⟩
     | false=>exact wpS_pure ⟨rfl,_,_,rfl,p1,.inr hm,by omega,by omega,by omega⟩
   .rintro c st' ⟨rfl,lo,hi,rfl,p1,p2,p3,p4,p5⟩
    have e:lo=hi:=by omega
    subst e;exact ⟨rfl,lo,rfl,p1,p2,p4⟩
   .rintro c st' ⟨rfl,k,rfl,p1,p2,p4⟩
    refine wpS_pure (h k ⟨p4,λi hi => ?_,λi hi hn => ?_⟩)
    .rcases p1 with e | e
     .omega
     .exact mono i (k - 1) (by omega) (by omega) e
    .rcases p2 with e | e
     .omega
     .cases e2:b i with
      | false=>rfl
      | true=>have:=mono k i hi hn e2;rw [e] at this;cases this
 | false =>
  dsimp only;rw [if_neg Gz];refine wpS_bind (wpS_mono (wpS_forRange (I:=λx c st'=>st=st' /\ ∃ l o,c=(none,l,o)/\l < o/\x+1<=o/\l<=hint/\b (hint - l)=false)
   (Q:=λc st'=>st=st' /\ ∃ l o,c=(none,l,o)/\l < o/\l<=hint/\b (hint - l)=false/\(hint+1<=o\/b (hint - o)=true)) ?_ ?_ ⟨rfl,0,1,rfl,by omega,by omega,by omega,hr⟩) ?_)
  .rintro x c st' _ hx ⟨rfl,l,o,rfl,p1,p2,p3,p4⟩
   dsimp only;by_cases hge:o ≥ hint+1
   .rw [if_pos hge]
    exact wpS_pure ⟨rfl,l,o,rfl,p1,p3,p4,.inl hge⟩
   .rw [if_neg hge]
    refine wpS_bind (bk (i:=hint - o) (by omega) ?_)
    cases hm:b (hint - o) with
    | false=>exact wpS_pure ⟨rfl,o,2*o+1,rfl,by omega,by omega,by omega,hm⟩
    | true=>exact wpS_pure ⟨rfl,l,o,rfl,p1,p3,p4,.inr hm⟩
  .rintro c st' ⟨rfl,l,o,rfl,p1,p2,p3,p4⟩
   exact ⟨rfl,l,o,rfl,p1,p3,p4,.inl (by omega)⟩
  .rintro c st' ⟨rfl,l,o,rfl,p1,p3,p4,p5⟩
   dsimp only;have q1:hint+1 - min o (hint+1)=0\/b (hint+1 - min o (hint+1) - 1)=true:=by
    by_cases q:hint+1<=o
    .exact .inl (by omega)
    .refine .inr ?_
     rw [show hint+1 - min o (hint+1) - 1=hint - o by omega]
     exact p5.resolve_left q
   have q2:hint - l=n\/b (hint - l)=false := .inr p4;have q3:hint+1 - min o (hint+1)<=hint - l:=by omega
   have q4:hint - l<=n:=by omega
   refine wpS_bind (wpS_mono (wpS_forRange (I:=λx c st'=>st=st' /\ ∃ lo hi,c=(none,lo,hi)/\(lo=0\/b (lo - 1)=true)/\(hi=n\/b hi=false)/\lo<=hi/\hi<=n/\hi - lo<=n - x)
    (Q:=λc st'=>st=st' /\ ∃ k,c=(none,k,k)/\(k=0\/b (k - 1)=true)/\(k=n\/b k=false)/\k<=n) ?_ ?_ ⟨rfl,_,_,rfl,q1,q2,q3,q4,by omega⟩) ?_)
   .rintro x c st' _ hx ⟨rfl,lo,hi,rfl,p1,p2,p3,p4,p5⟩
    dsimp only;by_cases hge:lo ≥ hi
    .rw [if_pos hge]
     have e:lo=hi:=by omega
     subst e;exact wpS_pure ⟨rfl,lo,rfl,p1,p2,p4⟩
    .rw [if_neg hge]
     refine wpS_bind (bk (i:=lo+(hi - lo) / 2) (by omega) ?_)
     cases hm:b (lo+(hi - lo) / 2) with
     | true=>exact wpS_pure ⟨rfl,_,_,rfl,.inr hm,p2,by omega,p4,by omega⟩
     | false=>exact wpS_pure ⟨rfl,_,_,rfl,p1,.inr hm,by omega,by omega,by omega⟩
   .rintro c st' ⟨rfl,lo,hi,rfl,p1,p2,p3,p4,p5⟩
    have e:lo=hi:=by omega
    subst e;exact ⟨rfl,lo,rfl,p1,p2,p4⟩
   .rintro c st' ⟨rfl,k,rfl,p1,p2,p4⟩
    refine wpS_pure (h k ⟨p4,λi hi => ?_,λi hi hn => ?_⟩)
    .rcases p1 with e | e
     .omega
     .exact mono i (k - 1) (by omega) (by omega) e
    .rcases p2 with e | e
     .omega
     .cases e2:b i with
      | false=>rfl
      | true=>have:=mono k i hi hn e2;rw [e] at this;cases this
end
noncomputable def js:Array Keyed->Array Keyed->StateT SortSt Sem (Array Keyed):=sortPriv% PySem.Builtin.mergeLo
noncomputable def eG:Nat->StateT SortSt Sem Unit:=sortPriv% PySem.Builtin.setMinGallop
theorem fZ(g:Nat):eG g=modify λs=>SortSt.mk' (kindOf s) (arrOf s) (pendingOf s) g (failedOf s):=rfl
theorem uw(a b:Array Keyed):js a b=(do
 rule "list.sort.merge-lo"
 let total:=a.size+b.size
 let done (out:Array Keyed) (ia ib:Nat):=out++a.extract ia a.size++b.extract ib b.size
 let lastOfA (out:Array Keyed) (ia ib:Nat):=out++b.extract ib b.size++a.extract ia a.size
 let mut out:Array Keyed := #[<-elem' b 0]
 let mut ia:=0
 let mut ib:=1
 if ib == b.size then return done out ia ib
 if ia+1 == a.size then return lastOfA out ia ib
 let mut minGallop:=gallopOf (<- get)
 for _ in [0:total] do
  let mut acount:=0
  let mut bcount:=0
  for _ in [0:total] do
   let some bWins <- lt' (<- elem' b ib) (<- elem' a ia) | return done out ia ib
   if bWins then
    out:=out.push (<- elem' b ib);ib:=ib+1;bcount:=bcount+1;acount:=0
    if ib == b.size then return done out ia ib
    if bcount ≥ minGallop then break
   else
    out:=out.push (<- elem' a ia);ia:=ia+1;acount:=acount+1;bcount:=0
    if ia+1 == a.size then return lastOfA out ia ib
    if acount ≥ minGallop then break
  rule "list.sort.gallop"
  minGallop:=minGallop+1
  for _ in [0:total] do
   if minGallop > 1 then minGallop:=minGallop - 1
   eG minGallop
   let some k <- gallop' false (<- elem' b ib) a ia (a.size - ia) 0 | return done out ia ib
   acount:=k
   if k > 0 then
    out:=out++a.extract ia (ia+k);ia:=ia+k
    if ia+1 == a.size then return lastOfA out ia ib
    if ia == a.size then return done out ia ib
   out:=out.push (<- elem' b ib);ib:=ib+1
   if ib == b.size then return done out ia ib
   let some k <- gallop' true (<- elem' a ia) b ib (b.size - ib) 0 | return done out ia ib
   bcount:=k
   if k > 0 then
    out:=out++b.extract ib (ib+k);ib:=ib+k
    if ib == b.size then return done out ia ib
   out:=out.push (<- elem' a ia);ia:=ia+1
   if ia+1 == a.size then return lastOfA out ia ib
   if acount < 7 && bcount < 7 then break
  minGallop:=minGallop+1
  eG minGallop
 unsupported "internal:list.sort.merge-bound"):=rfl
noncomputable def SrL(rk:Keyed->Nat)(l:List Keyed):Prop:=l.Pairwise λx y=>rk x<=rk y
structure MI(rk:Keyed->Nat)(a b out:List Keyed)(ia ib:Nat):Prop where
 pm:out.Perm (a.take ia++b.take ib)
 so:SrL rk out
 oa:∀ x∈out,∀ y∈a.drop ia,rk x<=rk y
 ob:∀ x∈out,∀ y∈b.drop ib,rk x<=rk y
section
variable{rk:Keyed->Nat}{a b out:List Keyed}{ia ib:Nat}
theorem nk(l:List Keyed)(i k:Nat):l.take (i+k)=l.take i++(l.drop i).take k:=by rw [List.take_add]
theorem SrL.drop{l:List Keyed}(h:SrL rk l)(i:Nat):SrL rk (l.drop i):=List.Pairwise.sublist (List.drop_sublist i l) h
theorem SrL.cut{l:List Keyed}(h:SrL rk l)(k:Nat):∀ x∈l.take k,∀ y∈l.drop k,rk x<=rk y:=by
 rw [SrL,<-List.take_append_drop k l,List.pairwise_append] at h;exact h.2.2
theorem MI.addA(I:MI rk a b out ia ib)(ha:SrL rk a)(k:Nat)(h:∀ x∈(a.drop ia).take k,∀ y∈b.drop ib,rk x<=rk y):MI rk a b (out++(a.drop ia).take k) (ia+k) ib where
 pm:=by
  rw [nk];refine (I.pm.append_right _).trans ?_;rw [List.append_assoc,List.append_assoc];exact List.Perm.append_left _ List.perm_append_comm
 so:=List.pairwise_append.mpr ⟨I.so,List.Pairwise.sublist (List.take_sublist k _) (ha.drop ia),λx hx y hy=>I.oa x hx y (List.mem_of_mem_take hy)⟩
 oa:=λx hx y hy=>by
  rw [<-List.drop_drop] at hy;rcases List.mem_append.mp hx with hx | hx
  .exact I.oa x hx y (List.mem_of_mem_drop hy)
  .exact (ha.drop ia).cut k x hx y hy
 ob:=λx hx y hy=>by
  rcases List.mem_append.mp hx with hx | hx
  .exact I.ob x hx y hy
  .exact h x hx y hy
theorem MI.addB(I:MI rk a b out ia ib)(hb:SrL rk b)(k:Nat)(h:∀ x∈(b.drop ib).take k,∀ y∈a.drop ia,rk x<=rk y):MI rk a b (out++(b.drop ib).take k) ia (ib+k) where
 pm:=by
  rw [nk];refine (I.pm.append_right _).trans ?_;rw [List.append_assoc]
 so:=List.pairwise_append.mpr ⟨I.so,List.Pairwise.sublist (List.take_sublist k _) (hb.drop ib),λx hx y hy=>I.ob x hx y (List.mem_of_mem_take hy)⟩
 oa:=λx hx y hy=>by
  rcases List.mem_append.mp hx with hx | hx
  .exact I.oa x hx y hy
  .exact h x hx y hy
 ob:=λx hx y hy=>by
  rw [<-List.drop_drop] at hy;rcases List.mem_append.mp hx with hx | hx
  .exact I.ob x hx y (List.mem_of_mem_drop hy)
  .exact (hb.drop ib).cut k x hx y hy
noncomputable def Res(rk:Keyed->Nat)(a b res:List Keyed):Prop:=res.Perm (a++b)/\SrL rk res
theorem MI.finAB(I:MI rk a b out ia ib)(ha:SrL rk a)(hb:SrL rk b)(h:∀ x∈a.drop ia,∀ y∈b.drop ib,rk x<=rk y):Res rk a b (out++a.drop ia++b.drop ib):=by
 constructor
 .refine ((I.pm.append_right _).append_right _).trans ?_
  rw [List.append_assoc (List.take ia a)];have h1:(List.take ib b++List.drop ia a).Perm (List.drop ia a++List.take ib b):=List.perm_append_comm;refine ((h1.append_left (List.take ia a)).append_right _).trans ?_;rw [<-List.append_assoc,List.take_append_drop,List.append_assoc,List.take_append_drop]
 .refine List.pairwise_append.mpr ⟨List.pairwise_append.mpr ⟨I.so,ha.drop ia,I.oa⟩,hb.drop ib,λx hx y hy => ?_⟩
  rcases List.mem_append.mp hx with hx | hx
  .exact I.ob x hx y hy
  .exact h x hx y hy
theorem MI.finBA(I:MI rk a b out ia ib)(ha:SrL rk a)(hb:SrL rk b)(h:∀ x∈b.drop ib,∀ y∈a.drop ia,rk x<=rk y):Res rk a b (out++b.drop ib++a.drop ia):=by
 constructor
 .refine ((I.pm.append_right _).append_right _).trans ?_
  rw [List.append_assoc (List.take ia a),List.take_append_drop];refine (List.perm_append_comm (l₁ := List.take ia a++b)).trans ?_;rw [<-List.append_assoc];refine List.Perm.append_right _ ?_;refine List.perm_append_comm.trans ?_;rw [List.take_append_drop]
 .refine List.pairwise_append.mpr ⟨List.pairwise_append.mpr ⟨I.so,hb.drop ib,I.ob⟩,ha.drop ia,λx hx y hy => ?_⟩
  rcases List.mem_append.mp hx with hx | hx
  .exact I.oa x hx y hy
  .exact h x hx y hy
end
section
variable{prog:Program}{w:World}{A:Around}{E:Value->Shared->Prop}{s:Shared}{a₀ : Array Keyed}{rk:Keyed->Nat}{κ:SortKind}{st:SortSt}
noncomputable def SmS(st st':SortSt):Prop:=kindOf st'=kindOf st/\arrOf st'=arrOf st/\pendingOf st'=pendingOf st/\failedOf st'=failedOf st
theorem SmS.refl(st:SortSt):SmS st st:=⟨rfl,rfl,rfl,rfl⟩
noncomputable def LI(rk:Keyed->Nat)(a b:Array Keyed)(n:Nat)(r:Option (Array Keyed))(out:Array Keyed)(ia ib:Nat):Prop:=match r with
 | some res=>Res rk a.toList b.toList res.toList
 | none=>MI rk a.toList b.toList out.toList ia ib/\ia+1 < a.size/\ib < b.size/\n<=ia+ib
structure MPre(rk:Keyed->Nat)(a₀ a b:Array Keyed):Prop where
 ma:∀ x∈a,x∈a₀
 mb:∀ x∈b,x∈a₀
 sa:SrL rk a.toList
 sb:SrL rk b.toList
 last:∀ x∈b.toList,∀ y∈a.toList.drop (a.size - 1),rk x<=rk y
theorem z0{a:Array Keyed}{i:Nat}(h:i < a.size):a[i]∈a.toList.drop i:=by
 rw [List.mem_drop_iff_getElem];exact ⟨0,by simpa using h,by simp⟩
theorem drop_one{a:Array Keyed}{i:Nat}(h:i < a.size):(a.toList.drop i).take 1=[a[i]]:=by
 rw [List.drop_eq_getElem_cons (by simpa using h)];simp
theorem iu{a:Array Keyed}(ha:SrL rk a.toList){i:Nat}(h:i < a.size):∀ y∈a.toList.drop i,rk a[i]<=rk y:=λy hy=>by
 rw [List.drop_eq_getElem_cons (by simpa using h)] at hy
 rcases List.mem_cons.mp hy with rfl | hy
 .simp
 .have:=(ha.drop i)
  rw [List.drop_eq_getElem_cons (by simpa using h)] at this
  have:=(List.pairwise_cons.mp this).1 y hy;simpa using this
theorem aR(a:Array Keyed)(i:Nat):(a.extract i a.size).toList=a.toList.drop i:=by
 rw [Array.toList_extract,List.extract_eq_take_drop];exact List.take_of_length_le (by simp)
theorem aM{arr:Array Keyed}{i:Nat}{Q:Keyed->SortSt->Prop}(hi:i < arr.size)(h:Q arr[i] st):wpS (model prog w) A E s (elem' arr i) Q st:=by
 rw [elem'_eq,Array.getElem?_eq_getElem hi];exact wpS_pure h
theorem y2(L:a5 prog w A E s κ a₀ rk){a b out:Array Keyed}{ia ib mg:Nat}(M:MPre rk a₀ a b)(hk:kindOf st=κ)(n0:Nat)(h0:LI rk a b n0 none out ia ib)(ht:0 < a.size+b.size)
  {Q:Option (Array Keyed)×Array Keyed×Nat×Nat×Nat×Nat->SortSt->Prop} (h:∀ r out ia ib ac bc,LI rk a b (n0+1) r out ia ib->Q (r,out,ia,ib,ac,bc) st) :
  wpS (model prog w) A E s (forIn [:a.size+b.size] ((none,out,ia,ib,0,0):Option (Array Keyed)×Array Keyed×Nat×Nat×Nat×Nat) λx __s_1=>do
    let __do_lift <- elem' b __s_1.snd.snd.snd.fst
    let __do_lift_2 <- elem' a __s_1.snd.snd.fst
    let __x <- lt' __do_lift __do_lift_2
    match __x with
     | some bWins =>
      if bWins=true then do
       let __do_lift <- elem' b __s_1.snd.snd.snd.fst
       if (__s_1.snd.snd.snd.fst+1 == b.size)=true then
         pure (ForInStep.done (some (__s_1.snd.fst.push __do_lift++a.extract __s_1.snd.snd.fst a.size++b.extract (__s_1.snd.snd.snd.fst+1) b.size),__s_1.snd.fst.push __do_lift,__s_1.snd.snd.fst,__s_1.snd.snd.snd.fst+1,0,__s_1.snd.snd.snd.snd.snd+1))
        else
         if __s_1.snd.snd.snd.snd.snd+1 ≥ mg then
          pure (ForInStep.done (none,__s_1.snd.fst.push __do_lift,__s_1.snd.snd.fst,__s_1.snd.snd.snd.fst+1,0,__s_1.snd.snd.snd.snd.snd+1))
         else
          pure (ForInStep.yield (none,__s_1.snd.fst.push __do_lift,__s_1.snd.snd.fst,__s_1.snd.snd.snd.fst+1,0,__s_1.snd.snd.snd.snd.snd+1))
      else do
       let __do_lift <- elem' a __s_1.snd.snd.fst
       if (__s_1.snd.snd.fst+1+1 == a.size)=true then
         pure (ForInStep.done (some (__s_1.snd.fst.push __do_lift++b.extract __s_1.snd.snd.snd.fst b.size++a.extract (__s_1.snd.snd.fst+1) a.size),__s_1.snd.fst.push __do_lift,__s_1.snd.snd.fst+1,__s_1.snd.snd.snd.fst,__s_1.snd.snd.snd.snd.fst+1,0))
        else
         if __s_1.snd.snd.snd.snd.fst+1 ≥ mg then
          pure (ForInStep.done (none,__s_1.snd.fst.push __do_lift,__s_1.snd.snd.fst+1,__s_1.snd.snd.snd.fst,__s_1.snd.snd.snd.snd.fst+1,0))
         else
          pure (ForInStep.yield (none,__s_1.snd.fst.push __do_lift,__s_1.snd.snd.fst+1,__s_1.snd.snd.snd.fst,__s_1.snd.snd.snd.snd.fst+1,0))
     | x =>
      pure (ForInStep.done (some (__s_1.snd.fst++a.extract __s_1.snd.snd.fst a.size++b.extract __s_1.snd.snd.snd.fst b.size),__s_1.snd.fst,__s_1.snd.snd.fst,__s_1.snd.snd.snd.fst,__s_1.snd.snd.snd.snd.fst,__s_1.snd.snd.snd.snd.snd))) Q st:=by
 refine wpS_mono (wpS_forRange (I:=λx c st'=>st=st' /\ ∃ out ia ib ac bc,c=(none,out,ia,ib,ac,bc)/\LI rk a b (n0+x) none out ia ib)
  (Q:=λc st'=>st=st' /\ ∃ r out ia ib ac bc,c=(r,out,ia,ib,ac,bc)/\LI rk a b (n0+1) r out ia ib) ?_ ?_ ⟨rfl,out,ia,ib,0,0,rfl,h0⟩) ?_
 .rintro x c st' _ hx ⟨rfl,out,ia,ib,ac,bc,rfl,I,ha1,hb1,hn⟩
  dsimp only;have hia:ia < a.size:=by omega
  refine wpS_bind (aM hb1 (wpS_bind (aM hia (wpS_bind (L _ _ (M.mb _ (Array.getElem_mem hb1)) (M.ma _ (Array.getElem_mem hia)) st _ hk ?_)))));by_cases hl:rk b[ib] < rk a[ia]
  .simp only [hl,decide_true,if_true]
   refine wpS_bind (aM hb1 ?_)
   have I2:=I.addB M.sb 1 (λx hx y hy=>by
    rw [drop_one hb1] at hx;rw [List.mem_singleton.mp hx];exact Gy (Nat.le_of_lt hl) (iu M.sa hia y hy))
   rw [drop_one hb1,<-Array.toList_push] at I2;by_cases he:ib+1=b.size
   .rw [if_pos (by simp [he])]
    refine wpS_pure ⟨rfl,_,_,_,_,_,_,rfl,?_⟩;show Res rk _ _ (Array.toList _);rw [Array.toList_append,Array.toList_append,aR,aR];exact I2.finAB M.sa M.sb λx _ y hy=>by rw [List.drop_eq_nil_of_le (by rw [Array.length_toList];omega)] at hy;cases hy
   .rw [if_neg (by simp [he])]
    have nx:LI rk a b (n0+(x+1)) none (out.push b[ib]) ia (ib+1):=⟨I2,ha1,by omega,by omega⟩
    split
    .exact wpS_pure ⟨rfl,_,_,_,_,_,_,rfl,⟨nx.1,nx.2.1,nx.2.2.1,by have:=nx.2.2.2;omega⟩⟩
    .exact wpS_pure ⟨rfl,_,_,_,_,_,rfl,nx⟩
  .simp only [hl,decide_false,Bool.false_eq_true,if_false]
   refine wpS_bind (aM hia ?_)
   have I2:=I.addA M.sa 1 (λx hx y hy=>by
    rw [drop_one hia] at hx;rw [List.mem_singleton.mp hx];exact Gy (Nat.not_lt.mp hl) (iu M.sb hb1 y hy))
   rw [drop_one hia,<-Array.toList_push] at I2;by_cases he:ia+1+1=a.size
   .rw [if_pos (by simp [he])]
    refine wpS_pure ⟨rfl,_,_,_,_,_,_,rfl,?_⟩;show Res rk _ _ (Array.toList _);rw [Array.toList_append,Array.toList_append,aR,aR];refine I2.finBA M.sa M.sb λx hx y hy=>M.last x (List.mem_of_mem_drop hx) y ?_;rw [show a.size - 1=ia+1 by omega];exact hy
   .rw [if_neg (by simp [he])]
    have nx:LI rk a b (n0+(x+1)) none (out.push a[ia]) (ia+1) ib:=⟨I2,by omega,hb1,by omega⟩
    split
    .exact wpS_pure ⟨rfl,_,_,_,_,_,_,rfl,⟨nx.1,nx.2.1,nx.2.2.1,by have:=nx.2.2.2;omega⟩⟩
    .exact wpS_pure ⟨rfl,_,_,_,_,_,rfl,nx⟩
 .rintro c st' ⟨rfl,out,ia,ib,ac,bc,rfl,I,ha1,hb1,hn⟩
  exact ⟨rfl,none,out,ia,ib,ac,bc,rfl,I,ha1,hb1,by omega⟩
 .rintro c st' ⟨rfl,r,out,ia,ib,ac,bc,rfl,hI⟩
  exact h r out ia ib ac bc hI
end
section
variable{prog:Program}{w:World}{A:Around}{E:Value->Shared->Prop}{s:Shared}{a₀ : Array Keyed}{rk:Keyed->Nat}{κ:SortKind}{st:SortSt}
theorem oI(a:Array Keyed)(i k:Nat):(a.extract i (i+k)).toList=(a.toList.drop i).take k:=by
 rw [Array.toList_extract,List.extract_eq_take_drop];congr 1;omega
theorem bq{a:Array Keyed}{i:Nat}(h:i < a.size):ra rk a i=rk a[i]:=by
 unfold ra;rw [Array.getElem?_eq_getElem h];rfl
theorem Du{a:Array Keyed}(h:SrL rk a.toList)(lo:Nat):Up (ra rk a) lo a.size:=λi j _ hij hj=>by
 rw [bq (by omega),bq hj]
 rcases Nat.lt_or_eq_of_le hij with k | rfl
 .have:=List.pairwise_iff_getElem.mp h i j (by simpa using (by omega:i < a.size)) (by simpa using hj) k
  simpa using this
 .exact GA _
theorem gal(L:a5 prog w A E s κ a₀ rk)(B:kindOf st=κ){left:Bool}{key:Keyed}{arr:Array Keyed}{base n hint:Nat}{Q:Option Nat->SortSt->Prop}(hk:key∈a₀)(ha:∀ x∈arr,x∈a₀)(hs:base+n<=arr.size)(hh:hint < n)
  (hu:SrL rk arr.toList) (h:∀ k,k<=n->(∀ x∈(arr.toList.drop base).take k,rk x<=rk key)->(∀ x∈((arr.toList.drop base).take n).drop k,rk key<=rk x)->Q (some k) st):wpS (model prog w) A E s (gallop' left key arr base n hint) Q st:=by
 refine jc L B hk ha hs hh (λi j p q r=>Du hu base i j p q (by omega)) λk ⟨h1,h2,h3⟩=>h k h1 (λx hx => ?_) λx hx => ?_
 .obtain ⟨i,hi,rfl⟩:=List.mem_iff_getElem.mp hx
  have hi':=hi;simp only [List.length_take,List.length_drop,Array.length_toList] at hi';have:=h2 i (by omega)
  unfold bdy at this;rw [bq (by omega:base+i < arr.size)] at this
  simp only [List.getElem_take,List.getElem_drop,Array.getElem_toList];cases left with
  | true=>rw [if_pos rfl] at this;have:=GI this;omega
  | false=>rw [if_neg Gz] at this;simp only [Bool.not_eq_true',decide_eq_false_iff_not] at this;omega
 .obtain ⟨i,hi,rfl⟩:=List.mem_iff_getElem.mp hx
  have hi':=hi;simp only [List.length_take,List.length_drop,Array.length_toList] at hi';have:=h3 (k+i) (by omega) (by omega)
  unfold bdy at this;rw [bq (by omega:base+(k+i) < arr.size)] at this
  simp only [List.getElem_take,List.getElem_drop,Array.getElem_toList];cases left with
  | true=>rw [if_pos rfl] at this;have:=of_decide_eq_false this;omega
  | false=>rw [if_neg Gz] at this;simp only [Bool.not_eq_false',decide_eq_true_eq] at this;omega
noncomputable abbrev LoY(rk:Keyed->Nat)(a b:Array Keyed)(st:SortSt)(n:Nat)(c:Option (Array Keyed)×Array Keyed×Nat×Nat×Nat×Nat×Nat)(st':SortSt):Prop:=SmS st st' /\ ∃ out ia ib mg ac bc,c=(none,out,ia,ib,mg,ac,bc)/\LI rk a b n none out ia ib
noncomputable abbrev LoD(rk:Keyed->Nat)(a b:Array Keyed)(st:SortSt)(n:Nat)(c:Option (Array Keyed)×Array Keyed×Nat×Nat×Nat×Nat×Nat)(st':SortSt):Prop:=SmS st st' /\ ∃ r out ia ib mg ac bc,c=(r,out,ia,ib,mg,ac,bc)/\LI rk a b n r out ia ib
noncomputable abbrev LoS(rk:Keyed->Nat)(a b:Array Keyed)(st:SortSt)(n:Nat)(r:ForInStep (Option (Array Keyed)×Array Keyed×Nat×Nat×Nat×Nat×Nat))(st':SortSt):Prop:=match r with
 | .done c=>LoD rk a b st n c st'
 | .yield c=>LoY rk a b st n c st'
theorem vL(L:a5 prog w A E s κ a₀ rk){a b:Array Keyed}(M:MPre rk a₀ a b)(hk:kindOf st=κ)(ha:0 < a.size)(hb:0 < b.size)(hf:∀ x∈a.toList,rk b[0]<=rk x)
  {Q:Array Keyed->SortSt->Prop} (h:∀ res st',SmS st st'->Res rk a.toList b.toList res.toList->Q res st') :
  wpS (model prog w) A E s (js a b) Q st:=by
 rw [uw];extract_lets total done lastOfA;refine wpS_bind (wpS_lift (wpAny_rule ⟨rfl,?_⟩));refine wpS_bind (aM hb ?_);extract_lets out ia ib;have I0:MI rk a.toList b.toList (#[b[0]]:Array Keyed).toList 0 1:=by
  have I:MI rk a.toList b.toList [] 0 0:=⟨by simp,List.Pairwise.nil,λx hx=>by (cases hx),λx hx=>by (cases hx)⟩
  have:=I.addB M.sb 1 (λx hx y hy=>by
   rw [drop_one hb] at hx;rw [List.mem_singleton.mp hx];exact hf y (List.mem_of_mem_drop hy))
  rw [drop_one hb] at this;exact this
 by_cases h1:1=b.size
 .rw [if_pos (by show (1 == b.size)=true;simp [<-h1])]
  refine wpS_pure (h _ st (SmS.refl st) ?_);show Res rk _ _ (Array.toList (#[b[0]]++a.extract 0 a.size++b.extract 1 b.size));rw [Array.toList_append,Array.toList_append,aR,aR];exact I0.finAB M.sa M.sb λx _ y hy=>by rw [List.drop_eq_nil_of_le (by rw [Array.length_toList];omega)] at hy;cases hy
 .rw [if_neg (by show ¬ ((1 == b.size)=true);simpa using h1)]
  by_cases h2:0+1=a.size
  .rw [if_pos (by show (0+1 == a.size)=true;simp [<-h2])]
   refine wpS_pure (h _ st (SmS.refl st) ?_);show Res rk _ _ (Array.toList (#[b[0]]++b.extract 1 b.size++a.extract 0 a.size));rw [Array.toList_append,Array.toList_append,aR,aR];refine I0.finBA M.sa M.sb λx hx y hy=>M.last x (List.mem_of_mem_drop hx) y ?_;rw [show a.size - 1=0 by omega];exact hy
  .rw [if_neg (by show ¬ ((0+1 == a.size)=true);simpa using h2)]
   refine wpS_bind (wpS_get ?_);extract_lets mg0;refine wpS_bind (wpS_mono (wpS_forRange (I:=λx c st'=>SmS st st' /\ ∃ out ia ib mg,c=(none,out,ia,ib,mg)/\LI rk a b (1+x) none out ia ib)
    (Q:=λc st'=>SmS st st' /\ ∃ res out ia ib mg,c=(some res,out,ia,ib,mg)/\Res rk a.toList b.toList res.toList) ?_ ?_ ⟨SmS.refl st,#[b[0]],0,1,_,rfl,I0,by omega,by omega,by omega⟩) ?_)
   .rintro x c st1 _ hx ⟨hs1,out1,ia1,ib1,mg1,rfl,hI1⟩
    extract_lets;refine wpS_bind (y2 L M (hs1.1.trans hk) (1+x) hI1 (by omega) λr out2 ia2 ib2 ac bc hI2 => ?_)
    cases r with
    | some res=>exact wpS_pure ⟨hs1,res,_,_,_,_,rfl,hI2⟩
    | none =>
     refine wpS_bind (wpS_lift (wpAny_rule ⟨rfl,?_⟩));refine wpS_bind (wpS_mono (wpS_forRange (I:=λ_=>LoY rk a b st (1+x+1))
      (Q:=LoD rk a b st (1+x+1)) ?_ ?_ ⟨hs1,_,_,_,_,_,_,rfl,hI2⟩) ?_)
     .rintro y c st2 _ hy ⟨hs2,out,ia,ib,mg,ac,bc,rfl,hI,ha1,hb1,hn⟩
      extract_lets;rename_i jp mg';have hjp:∀ (u:PUnit) (m:Nat),wpS (model prog w) A E s (jp u m) (LoS rk a b st (1+x+1)) st2:=by
       intro u m;refine wpS_bind ?_;rw [fZ];refine wpS_modify ?_;generalize hst3:SortSt.mk' (kindOf st2) (arrOf st2) (pendingOf st2) m (failedOf st2)=st3;have hs3:SmS st st3:=by rw [<-hst3];exact hs2
       have hk3:kindOf st3=κ:=hs3.1.trans hk;refine wpS_bind (aM hb1 ?_);have hbi:b[ib]∈a₀ := M.mb _ (Array.getElem_mem hb1);refine wpS_bind (gal L hk3 hbi M.ma (by show ia+(a.size - ia)<=a.size;omega) (by show 0 < a.size - ia;omega) M.sa λk hkn hk1 hk2 => ?_)
       have hk2:∀ x∈a.toList.drop (ia+k),rk b[ib]<=rk x:=λx hx=>hk2 x (by
        rw [List.take_of_length_le (by rw [List.length_drop,Array.length_toList];exact GA _),List.drop_drop];exact hx)
       dsimp -zeta only
       extract_lets acount jp2 out3 ia3;have hjp2:∀ (u:PUnit) (out:Array Keyed) (ia':Nat),ia<=ia'->ia'+1 < a.size->MI rk a.toList b.toList out.toList ia' ib->(∀ x∈a.toList.drop ia',rk b[ib]<=rk x)->wpS (model prog w) A E s (jp2 u out ia') (LoS rk a b st (1+x+1)) st3:=by
        intro u out' ia' hle hlt I' hk2';refine wpS_bind (aM hb1 ?_);extract_lets out4;have I4:MI rk a.toList b.toList out4.toList ia' (ib+1):=by
         have:=I'.addB M.sb 1 (λx hx y hy=>by
          rw [drop_one hb1] at hx;rw [List.mem_singleton.mp hx];exact hk2' y hy)
         rw [drop_one hb1] at this;show MI rk _ _ (out'.push b[ib]).toList _ _;rw [Array.toList_push];exact this
        by_cases h5:ib+1=b.size
        .rw [if_pos (by show (ib+1 == b.size)=true;simp [h5])]
         refine wpS_pure ⟨hs3,some _,_,_,_,_,_,_,rfl,?_⟩;show Res rk _ _ (Array.toList (out4++a.extract ia' a.size++b.extract (ib+1) b.size));rw [Array.toList_append,Array.toList_append,aR,aR];exact I4.finAB M.sa M.sb λx _ y hy=>by rw [List.drop_eq_nil_of_le (by rw [Array.length_toList];omega)] at hy;cases hy
        .rw [if_neg (by show ¬ ((ib+1 == b.size)=true);simpa using h5)]
         have hia:ia' < a.size:=by omega
         refine wpS_bind (aM hia ?_);have hai:a[ia']∈a₀ := M.ma _ (Array.getElem_mem hia);refine wpS_bind (gal L hk3 hai M.mb (by show ib+1+(b.size - (ib+1))<=b.size;omega) (by show 0 < b.size - (ib+1);omega) M.sb λn hnn hn1 hn2 => ?_)
         have hn2:∀ x∈b.toList.drop (ib+1+n),rk a[ia']<=rk x:=λx hx=>hn2 x (by
          rw [List.take_of_length_le (by rw [List.length_drop,Array.length_toList];exact GA _),List.drop_drop];exact hx)
         dsimp -zeta only
         extract_lets bcount jp3 out5 ib5;have hjp3:∀ (u:PUnit) (out:Array Keyed) (ib':Nat),ib < ib'->ib' < b.size->MI rk a.toList b.toList out.toList ia' ib'->(∀ x∈b.toList.drop ib',rk a[ia']<=rk x)->wpS (model prog w) A E s (jp3 u out ib') (LoS rk a b st (1+x+1)) st3:=by
          intro u out6 ib' hle' hlt' I6 hn2';refine wpS_bind (aM hia ?_);extract_lets out7 ia7;have I7:MI rk a.toList b.toList out7.toList (ia'+1) ib':=by
           have:=I6.addA M.sa 1 (λx hx y hy=>by
            rw [drop_one hia] at hx;rw [List.mem_singleton.mp hx];exact hn2' y hy)
           rw [drop_one hia] at this;show MI rk _ _ (out6.push a[ia']).toList _ _;rw [Array.toList_push];exact this
          by_cases h6:ia'+1+1=a.size
          .rw [if_pos (by show (ia'+1+1 == a.size)=true;simp [h6])]
           refine wpS_pure ⟨hs3,some _,_,_,_,_,_,_,rfl,?_⟩;show Res rk _ _ (Array.toList (out7++b.extract ib' b.size++a.extract (ia'+1) a.size));rw [Array.toList_append,Array.toList_append,aR,aR];refine I7.finBA M.sa M.sb λx hx y hy=>M.last x (List.mem_of_mem_drop hx) y ?_;rw [show a.size - 1=ia'+1 by omega];exact hy
          .rw [if_neg (by show ¬ ((ia'+1+1 == a.size)=true);simpa using h6)]
           split
           .exact wpS_pure ⟨hs3,none,_,_,_,_,_,_,rfl,I7,by omega,hlt',by omega⟩
           .exact wpS_pure ⟨hs3,_,_,_,_,_,_,rfl,I7,by omega,hlt',by omega⟩
         by_cases hn0:n > 0
         .rw [if_pos hn0]
          have I5:MI rk a.toList b.toList out5.toList ia' ib5:=by
           have:=I4.addB M.sb n λx hx y hy=>Gy (hn1 x hx) (iu M.sa hia y hy);rw [<-oI,<-Array.toList_append] at this;exact this
          have e5:ib5=ib+1+n:=rfl;by_cases h7:ib5=b.size
          .rw [if_pos (by simp [h7])]
           refine wpS_pure ⟨hs3,some _,_,_,_,_,_,_,rfl,?_⟩;show Res rk _ _ (Array.toList (out5++a.extract ia' a.size++b.extract ib5 b.size));rw [Array.toList_append,Array.toList_append,aR,aR];exact I5.finAB M.sa M.sb λx _ y hy=>by rw [List.drop_eq_nil_of_le (by rw [Array.length_toList];omega)] at hy;cases hy
          .rw [if_neg (by simpa using h7)]
           have hnn':n<=b.size - (ib+1):=hnn;exact hjp3 () out5 ib5 (by omega) (by omega) I5 (by rw [e5];exact hn2)
         .rw [if_neg hn0]
          have e0:n=0:=by omega
          rw [e0] at hn2;exact hjp3 () out4 (ib+1) (by omega) (by omega) I4 hn2
       by_cases hk0:k > 0
       .rw [if_pos hk0]
        have I3:MI rk a.toList b.toList out3.toList ia3 ib:=by
         have:=hI.addA M.sa k λx hx y hy=>Gy (hk1 x hx) (iu M.sb hb1 y hy);rw [<-oI,<-Array.toList_append] at this;exact this
        have e3:ia3=ia+k:=rfl;by_cases h3:ia3+1=a.size
        .rw [if_pos (by simp [h3])]
         refine wpS_pure ⟨hs3,some _,_,_,_,_,_,_,rfl,?_⟩;show Res rk _ _ (Array.toList (out3++b.extract ib b.size++a.extract ia3 a.size));rw [Array.toList_append,Array.toList_append,aR,aR];refine I3.finBA M.sa M.sb λx hx y hy=>M.last x (List.mem_of_mem_drop hx) y ?_;rw [show a.size - 1=ia3 by omega];exact hy
        .rw [if_neg (by simpa using h3)]
         by_cases h4:ia3=a.size
         .rw [if_pos (by simp [h4])]
          refine wpS_pure ⟨hs3,some _,_,_,_,_,_,_,rfl,?_⟩;show Res rk _ _ (Array.toList (out3++a.extract ia3 a.size++b.extract ib b.size));rw [Array.toList_append,Array.toList_append,aR,aR];exact I3.finAB M.sa M.sb λx hx y _=>by rw [List.drop_eq_nil_of_le (by rw [Array.length_toList];omega)] at hx;cases hx
         .rw [if_neg (by simpa using h4)]
          exact hjp2 () out3 ia3 (by omega) (by omega) I3 (by rw [e3];exact hk2)
       .rw [if_neg hk0]
        have e0:k=0:=by omega
        rw [e0] at hk2;exact hjp2 () out ia (GA _) ha1 hI hk2
      by_cases hm:mg > 1
      .rw [if_pos hm];exact wpS_mono (hjp () mg') λr st' h=>by cases r <;> exact h
      .rw [if_neg hm];exact wpS_mono (hjp () mg) λr st' h=>by cases r <;> exact h
     .rintro c st2 ⟨hs2,out,ia,ib,mg,ac,bc,rfl,hI⟩
      exact ⟨hs2,none,_,_,_,_,_,_,rfl,hI⟩
     .rintro c st2 ⟨hs2,r,out,ia,ib,mg,ac,bc,rfl,hI⟩
      cases r with
      | some res=>exact wpS_pure ⟨hs2,res,_,_,_,_,rfl,hI⟩
      | none =>
       obtain ⟨q0,q1,q2,q3⟩:=hI;refine wpS_bind ?_;rw [fZ];refine wpS_modify (wpS_pure ⟨hs2,out,ia,ib,_,rfl,q0,q1,q2,?_⟩);omega
   .rintro c st1 ⟨hs1,out1,ia1,ib1,mg1,rfl,_,q1,q2,q3⟩
    have:max 0 total=a.size+b.size:=by show max 0 (a.size+b.size)=_;omega
    omega
   .rintro c st1 ⟨hs1,res,_,_,_,_,rfl,hr⟩
    exact wpS_pure (h res st1 hs1 hr)
end
noncomputable def jg:Array Keyed->Array Keyed->StateT SortSt Sem (Array Keyed):=sortPriv% PySem.Builtin.mergeHi
theorem uq(a b:Array Keyed):jg a b=(do
 rule "list.sort.merge-hi"
 let total:=a.size+b.size
 let done (out:Array Keyed) (na nb:Nat):=a.extract 0 na++b.extract 0 nb++out.reverse
 let firstOfB (out:Array Keyed) (na nb:Nat):=b.extract 0 nb++a.extract 0 na++out.reverse
 let mut na:=a.size - 1
 let mut nb:=b.size
 let mut out:Array Keyed := #[<-elem' a na]
 if na == 0 then return done out na nb
 if nb == 1 then return firstOfB out na nb
 let mut minGallop:=gallopOf (<- get)
 for _ in [0:total] do
  let mut acount:=0
  let mut bcount:=0
  for _ in [0:total] do
   let some aWins <- lt' (<- elem' b (nb - 1)) (<- elem' a (na - 1)) | return done out na nb
   if aWins then
    na:=na - 1;out:=out.push (<- elem' a na);acount:=acount+1;bcount:=0
    if na == 0 then return done out na nb
    if acount ≥ minGallop then break
   else
    nb:=nb - 1;out:=out.push (<- elem' b nb);bcount:=bcount+1;acount:=0
    if nb == 1 then return firstOfB out na nb
    if bcount ≥ minGallop then break
  rule "list.sort.gallop"
  minGallop:=minGallop+1
  for _ in [0:total] do
   if minGallop > 1 then minGallop:=minGallop - 1
   eG minGallop
   let some at_ <- gallop' false (<- elem' b (nb - 1)) a 0 na (na - 1) | return done out na nb
   let k:=na - at_
   acount:=k
   if k > 0 then
    out:=out++(a.extract at_ na).reverse;na:=at_
    if na == 0 then return done out na nb
   nb:=nb - 1;out:=out.push (<- elem' b nb)
   if nb == 1 then return firstOfB out na nb
   let some at_ <- gallop' true (<- elem' a (na - 1)) b 0 nb (nb - 1) | return done out na nb
   let k:=nb - at_
   bcount:=k
   if k > 0 then
    out:=out++(b.extract at_ nb).reverse;nb:=at_
    if nb == 1 then return firstOfB out na nb
    if nb == 0 then return done out na nb
   na:=na - 1;out:=out.push (<- elem' a na)
   if na == 0 then return done out na nb
   if acount < 7 && bcount < 7 then break
  minGallop:=minGallop+1
  eG minGallop
 unsupported "internal:list.sort.merge-bound"):=rfl
structure MH(rk:Keyed->Nat)(a b out:List Keyed)(na nb:Nat):Prop where
 pm:out.Perm (a.drop na++b.drop nb)
 so:SrL rk out.reverse
 oa:∀ x∈out,∀ y∈a.take na,rk y<=rk x
 ob:∀ x∈out,∀ y∈b.take nb,rk y<=rk x
section
variable{rk:Keyed->Nat}{a b out:List Keyed}{na nb:Nat}
theorem SrL.take{l:List Keyed}(h:SrL rk l)(i:Nat):SrL rk (l.take i):=List.Pairwise.sublist (List.take_sublist i l) h
theorem gd(l:List Keyed){k n:Nat}(h:k<=n):l.drop k=(l.take n).drop k++l.drop n:=by
 rcases Nat.le_total n l.length with hn | hn
 .conv=>lhs;rw [<-List.take_append_drop n l]
  rw [List.drop_append_of_le_length (by rw [List.length_take];omega)]
 .rw [List.take_of_length_le hn,List.drop_eq_nil_of_le hn,List.append_nil]
theorem gS{l:List Keyed}{k n:Nat}(h:k<=n){x:Keyed}(hx:x∈l.take k):x∈(l.take n).take k:=by
 rw [List.take_take,Nat.min_eq_left h];exact hx
theorem MH.addA(I:MH rk a b out na nb)(ha:SrL rk a){k:Nat}(hk:k<=na)(h:∀ x∈(a.take na).drop k,∀ y∈b.take nb,rk y<=rk x):MH rk a b (out++((a.take na).drop k).reverse) k nb where
 pm:=by
  rw [gd a hk];refine List.perm_append_comm.trans ?_;rw [List.append_assoc];exact (List.reverse_perm _).append I.pm
 so:=by
  rw [List.reverse_append,List.reverse_reverse];exact List.pairwise_append.mpr ⟨(ha.take na).drop k,I.so,λx hx y hy=>I.oa y (List.mem_reverse.mp hy) x (List.mem_of_mem_drop hx)⟩
 oa:=λx hx y hy=>by
  rcases List.mem_append.mp hx with hx | hx
  .exact I.oa x hx y (List.mem_of_mem_take (gS hk hy))
  .exact (ha.take na).cut k y (gS hk hy) x (List.mem_reverse.mp hx)
 ob:=λx hx y hy=>by
  rcases List.mem_append.mp hx with hx | hx
  .exact I.ob x hx y hy
  .exact h x (List.mem_reverse.mp hx) y hy
theorem MH.addB(I:MH rk a b out na nb)(hb:SrL rk b){k:Nat}(hk:k<=nb)(h:∀ x∈(b.take nb).drop k,∀ y∈a.take na,rk y<=rk x):MH rk a b (out++((b.take nb).drop k).reverse) na k where
 pm:=by
  rw [gd b hk];refine (I.pm.append (List.reverse_perm _)).trans ?_;rw [List.append_assoc];exact List.Perm.append_left _ List.perm_append_comm
 so:=by
  rw [List.reverse_append,List.reverse_reverse];exact List.pairwise_append.mpr ⟨(hb.take nb).drop k,I.so,λx hx y hy=>I.ob y (List.mem_reverse.mp hy) x (List.mem_of_mem_drop hx)⟩
 oa:=λx hx y hy=>by
  rcases List.mem_append.mp hx with hx | hx
  .exact I.oa x hx y hy
  .exact h x (List.mem_reverse.mp hx) y hy
 ob:=λx hx y hy=>by
  rcases List.mem_append.mp hx with hx | hx
  .exact I.ob x hx y (List.mem_of_mem_take (gS hk hy))
  .exact (hb.take nb).cut k y (gS hk hy) x (List.mem_reverse.mp hx)
theorem MH.finAB(I:MH rk a b out na nb)(ha:SrL rk a)(hb:SrL rk b)(h:∀ x∈a.take na,∀ y∈b.take nb,rk x<=rk y):Res rk a b (a.take na++b.take nb++out.reverse):=by
 constructor
 .refine (((List.reverse_perm _).trans I.pm).append_left _).trans ?_
  rw [List.append_assoc];refine (List.Perm.append_left _ ?_).trans (l₂ := List.take na a++(List.drop na a++b)) ?_
  .rw [<-List.append_assoc]
   refine (List.perm_append_comm.append_right _).trans ?_;rw [List.append_assoc,List.take_append_drop]
  .rw [<-List.append_assoc,List.take_append_drop]
 .refine List.pairwise_append.mpr ⟨List.pairwise_append.mpr ⟨ha.take na,hb.take nb,h⟩,I.so,λx hx y hy => ?_⟩
  rcases List.mem_append.mp hx with hx | hx
  .exact I.oa y (List.mem_reverse.mp hy) x hx
  .exact I.ob y (List.mem_reverse.mp hy) x hx
theorem MH.finBA(I:MH rk a b out na nb)(ha:SrL rk a)(hb:SrL rk b)(h:∀ x∈b.take nb,∀ y∈a.take na,rk x<=rk y):Res rk a b (b.take nb++a.take na++out.reverse):=by
 constructor
 .refine (((List.reverse_perm _).trans I.pm).append_left _).trans ?_
  rw [List.append_assoc,<-List.append_assoc (List.take na a),List.take_append_drop];refine (List.perm_append_comm).trans ?_;rw [List.append_assoc];refine List.Perm.append_left _ (List.perm_append_comm.trans ?_);rw [List.take_append_drop]
 .refine List.pairwise_append.mpr ⟨List.pairwise_append.mpr ⟨hb.take nb,ha.take na,h⟩,I.so,λx hx y hy => ?_⟩
  rcases List.mem_append.mp hx with hx | hx
  .exact I.ob y (List.mem_reverse.mp hy) x hx
  .exact I.oa y (List.mem_reverse.mp hy) x hx
end
section
variable{prog:Program}{w:World}{A:Around}{E:Value->Shared->Prop}{s:Shared}{a₀ : Array Keyed}{rk:Keyed->Nat}{κ:SortKind}{st:SortSt}
noncomputable def LH(rk:Keyed->Nat)(a b:Array Keyed)(n:Nat)(r:Option (Array Keyed))(out:Array Keyed)(na nb:Nat):Prop:=match r with
 | some res=>Res rk a.toList b.toList res.toList
 | none=>MH rk a.toList b.toList out.toList na nb/\(0 < na/\na<=a.size)/\(1 < nb/\nb<=b.size)/\n+na+nb<=a.size+b.size
theorem dC{a:Array Keyed}{n:Nat}(h:n < a.size):(a.toList.take (n+1)).drop n=[a[n]]:=by
 rw [List.drop_take,List.drop_eq_getElem_cons (by simpa using h)];simp
theorem fK{a:Array Keyed}(ha:SrL rk a.toList){n:Nat}(h:n < a.size):∀ y∈a.toList.take (n+1),rk y<=rk a[n]:=λy hy=>by
 rw [<-List.take_append_drop n (a.toList.take (n+1)),dC h] at hy;rcases List.mem_append.mp hy with hy | hy
 .exact (ha.take (n+1)).cut n y hy a[n] (by rw [dC h];exact List.mem_singleton.mpr rfl)
 .rw [List.mem_singleton.mp hy];exact GA _
theorem il(a:Array Keyed)(n:Nat):(a.extract 0 n).toList=a.toList.take n:=by
 rw [Array.toList_extract,List.extract_eq_take_drop];simp
theorem cw(a:Array Keyed)(k n:Nat):(a.extract k n).toList=(a.toList.take n).drop k:=by
 rw [Array.toList_extract,List.extract_eq_take_drop,List.drop_take]
theorem fz{a b out:Array Keyed}{na nb:Nat}(I:MH rk a.toList b.toList out.toList na nb)(ha:SrL rk a.toList)(hb:SrL rk b.toList)(h:na=0\/nb=0):Res rk a.toList b.toList (a.extract 0 na++b.extract 0 nb++out.reverse).toList:=by
 rw [Array.toList_append,Array.toList_append,il,il,Array.toList_reverse];refine I.finAB ha hb λx hx y hy => ?_;rcases h with rfl | rfl
 .rw [List.take_zero] at hx;cases hx
 .rw [List.take_zero] at hy;cases hy
theorem h9{a b out:Array Keyed}{na:Nat}(I:MH rk a.toList b.toList out.toList na 1)(ha:SrL rk a.toList)(hb:SrL rk b.toList)(h0:0 < b.size)(hf:∀ x∈a.toList,rk b[0]<=rk x):Res rk a.toList b.toList (b.extract 0 1++a.extract 0 na++out.reverse).toList:=by
 rw [Array.toList_append,Array.toList_append,il,il,Array.toList_reverse];refine I.finBA ha hb λx hx y hy => ?_;have:=fK hb h0 x hx;exact Gy this (hf y (List.mem_of_mem_take hy))
theorem kc{a b out:Array Keyed}{n nb:Nat}(I:MH rk a.toList b.toList out.toList (n+1) nb)(ha:SrL rk a.toList)(h:n < a.size)(k:∀ y∈b.toList.take nb,rk y<=rk a[n]):MH rk a.toList b.toList (out.push a[n]).toList n nb:=by
 have:=I.addA ha (Nat.le_succ n) (λx hx y hy=>by
  rw [dC h] at hx;rw [List.mem_singleton.mp hx];exact k y hy)
 rw [dC h] at this;rw [Array.toList_push];exact this
theorem rZ{a b out:Array Keyed}{na n:Nat}(I:MH rk a.toList b.toList out.toList na (n+1))(hb:SrL rk b.toList)(h:n < b.size)(k:∀ y∈a.toList.take na,rk y<=rk b[n]):MH rk a.toList b.toList (out.push b[n]).toList na n:=by
 have:=I.addB hb (Nat.le_succ n) (λx hx y hy=>by
  rw [dC h] at hx;rw [List.mem_singleton.mp hx];exact k y hy)
 rw [dC h] at this;rw [Array.toList_push];exact this
noncomputable abbrev HiY(rk:Keyed->Nat)(a b:Array Keyed)(st:SortSt)(n:Nat)(c:Option (Array Keyed)×Nat×Nat×Array Keyed×Nat×Nat×Nat)(st':SortSt):Prop:=SmS st st' /\ ∃ na nb out mg ac bc,c=(none,na,nb,out,mg,ac,bc)/\LH rk a b n none out na nb
noncomputable abbrev HiD(rk:Keyed->Nat)(a b:Array Keyed)(st:SortSt)(n:Nat)(c:Option (Array Keyed)×Nat×Nat×Array Keyed×Nat×Nat×Nat)(st':SortSt):Prop:=SmS st st' /\ ∃ r na nb out mg ac bc,c=(r,na,nb,out,mg,ac,bc)/\LH rk a b n r out na nb
noncomputable abbrev HiS(rk:Keyed->Nat)(a b:Array Keyed)(st:SortSt)(n:Nat)(r:ForInStep (Option (Array Keyed)×Nat×Nat×Array Keyed×Nat×Nat×Nat))(st':SortSt):Prop:=match r with
 | .done c=>HiD rk a b st n c st'
 | .yield c=>HiY rk a b st n c st'
theorem wK(L:a5 prog w A E s κ a₀ rk){a b:Array Keyed}(M:MPre rk a₀ a b)(hk:kindOf st=κ)(ha:0 < a.size)(hb:0 < b.size)(hf:∀ x∈a.toList,rk b[0]<=rk x)
  {Q:Array Keyed->SortSt->Prop} (h:∀ res st',SmS st st'->Res rk a.toList b.toList res.toList->Q res st') :
  wpS (model prog w) A E s (jg a b) Q st:=by
 rw [uq];extract_lets total done firstOfB na0 nb0;refine wpS_bind (wpS_lift (wpAny_rule ⟨rfl,?_⟩));have hl:a.size - 1 < a.size:=by omega
 refine wpS_bind (aM hl ?_);have I0:MH rk a.toList b.toList (#[a[a.size - 1]]:Array Keyed).toList (a.size - 1) b.size:=by
  have I:MH rk a.toList b.toList (#[]:Array Keyed).toList (a.size - 1+1) b.size:=⟨by simp;omega,List.Pairwise.nil,λx hx=>by (cases hx),λx hx=>by (cases hx)⟩
  exact kc I M.sa hl λy hy=>M.last y (List.mem_of_mem_take hy) _ (z0 hl)
 extract_lets out0;by_cases h1:a.size - 1=0
 .rw [if_pos (by show (a.size - 1 == 0)=true;simp [h1])]
  exact wpS_pure (h _ st (SmS.refl st) (fz I0 M.sa M.sb (.inl h1)))
 .rw [if_neg (by show ¬ ((a.size - 1 == 0)=true);simpa using h1)]
  by_cases h2:b.size=1
  .rw [if_pos (by show (b.size == 1)=true;simp [h2])]
   have I1:MH rk a.toList b.toList (#[a[a.size - 1]]:Array Keyed).toList (a.size - 1) 1:=by rw [h2] at I0;exact I0
   have:=h9 I1 M.sa M.sb hb hf;refine wpS_pure (h _ st (SmS.refl st) ?_);show Res rk _ _ (b.extract 0 b.size++a.extract 0 (a.size - 1)++Array.reverse #[a[a.size - 1]]).toList;rw [h2];exact this
  .rw [if_neg (by show ¬ ((b.size == 1)=true);simpa using h2)]
   refine wpS_bind (wpS_get ?_);extract_lets mg0;refine wpS_bind (wpS_mono (wpS_forRange (I:=λx c st'=>SmS st st' /\ ∃ na nb out mg,c=(none,na,nb,out,mg)/\LH rk a b (1+x) none out na nb)
    (Q:=λc st'=>SmS st st' /\ ∃ res na nb out mg,c=(some res,na,nb,out,mg)/\Res rk a.toList b.toList res.toList) ?_ ?_ ⟨SmS.refl st,a.size - 1,b.size,#[a[a.size - 1]],_,rfl,I0,⟨by omega,by omega⟩,⟨by omega,by omega⟩,by omega⟩) ?_)
   .rintro x c st1 _ hx ⟨hs1,na1,nb1,out1,mg1,rfl,hI1⟩
    have hx':x < a.size+b.size:=hx;extract_lets;refine wpS_bind (wpS_mono (wpS_forRange (I:=λy c st'=>st1=st' /\ ∃ na nb out ac bc,c=(none,na,nb,out,ac,bc)/\LH rk a b (1+x+y) none out na nb)
     (Q:=λc st'=>st1=st' /\ ∃ r na nb out ac bc,c=(r,na,nb,out,ac,bc)/\LH rk a b (1+x+1) r out na nb) ?_ ?_ ⟨rfl,_,_,_,_,_,rfl,hI1⟩) ?_)
    .rintro y c st2 _ hy ⟨rfl,na,nb,out,ac,bc,rfl,I,⟨ha1,ha2⟩,⟨hb1,hb2⟩,hn⟩
     obtain ⟨na,rfl⟩:∃ n,na=n+1:=⟨na - 1,by omega⟩
     obtain ⟨nb,rfl⟩:∃ n,nb=n+1:=⟨nb - 1,by omega⟩
     have pa:na < a.size:=by omega
     have pb:nb < b.size:=by omega
     extract_lets;refine wpS_bind (aM (i:=nb) pb (wpS_bind (aM (i:=na) pa (wpS_bind (L _ _ (M.mb _ (Array.getElem_mem pb)) (M.ma _ (Array.getElem_mem pa)) st1 _ (hs1.1.trans hk) ?_)))))
     dsimp -zeta only
     by_cases hl:rk b[nb] < rk a[na]
     .rw [if_pos (by simpa using hl)]
      refine wpS_bind (aM (i:=na) pa ?_);extract_lets out3 ac3;have I2:MH rk a.toList b.toList (out.push a[na]).toList na (nb+1):=kc I M.sa pa λy hy=>Gy (fK M.sb pb y hy) (Nat.le_of_lt hl);by_cases he:na=0
      .rw [if_pos (by show (na == 0)=true;simp [he])]
       exact wpS_pure ⟨rfl,some _,_,_,_,_,_,rfl,fz I2 M.sa M.sb (.inl he)⟩
      .rw [if_neg (by show ¬ ((na == 0)=true);simpa using he)]
       split
       .exact wpS_pure ⟨rfl,none,na,nb+1,_,_,_,rfl,I2,⟨Nat.pos_of_ne_zero he,Nat.le_of_lt pa⟩,⟨hb1,hb2⟩,by omega⟩
       .exact wpS_pure ⟨rfl,na,nb+1,_,_,_,rfl,I2,⟨Nat.pos_of_ne_zero he,Nat.le_of_lt pa⟩,⟨hb1,hb2⟩,by omega⟩
     .rw [if_neg (by simpa using hl)]
      refine wpS_bind (aM (i:=nb) pb ?_);extract_lets out3 bc3;have I2:MH rk a.toList b.toList (out.push b[nb]).toList (na+1) nb:=rZ I M.sb pb λy hy=>Gy (fK M.sa pa y hy) (Nat.not_lt.mp hl);by_cases he:nb=1
      .rw [if_pos (by show (nb == 1)=true;simp [he])]
       subst he;exact wpS_pure ⟨rfl,some _,_,_,_,_,_,rfl,h9 I2 M.sa M.sb hb hf⟩
      .rw [if_neg (by show ¬ ((nb == 1)=true);simpa using he)]
       have q:1 < nb/\nb<=b.size:=by omega
       split
       .exact wpS_pure ⟨rfl,none,na+1,nb,_,_,_,rfl,I2,⟨ha1,ha2⟩,q,by omega⟩
       .exact wpS_pure ⟨rfl,na+1,nb,_,_,_,rfl,I2,⟨ha1,ha2⟩,q,by omega⟩
    .rintro c st2 ⟨rfl,na,nb,out,ac,bc,rfl,I,⟨ha1,ha2⟩,⟨hb1,hb2⟩,hn⟩
     have:max 0 total=a.size+b.size:=by show max 0 (a.size+b.size)=_;omega
     exact ⟨rfl,none,na,nb,out,ac,bc,rfl,I,⟨ha1,ha2⟩,⟨hb1,hb2⟩,by omega⟩
    .rintro c st2 ⟨rfl,r,na2,nb2,out2,ac2,bc2,rfl,hI2⟩
     cases r with
     | some res=>exact wpS_pure ⟨hs1,res,_,_,_,_,rfl,hI2⟩
     | none =>
      refine wpS_bind (wpS_lift (wpAny_rule ⟨rfl,?_⟩));refine wpS_bind (wpS_mono (wpS_forRange (I:=λ_=>HiY rk a b st (1+x+1))
       (Q:=HiD rk a b st (1+x+1)) ?_ ?_ ⟨hs1,_,_,_,_,_,_,rfl,hI2⟩) ?_)
      .rintro y c st2 _ hy ⟨hs2,na,nb,out,mg,ac,bc,rfl,hI,⟨ha1,ha2⟩,⟨hb1,hb2⟩,hn⟩
       obtain ⟨nb,rfl⟩:∃ n,nb=n+1:=⟨nb - 1,by omega⟩
       have pb:nb < b.size:=by omega
       extract_lets;rename_i jp mg';have hjp:∀ (u:PUnit) (m:Nat),wpS (model prog w) A E s (jp u m) (HiS rk a b st (1+x+1)) st2:=by
        intro u m;refine wpS_bind ?_;rw [fZ];refine wpS_modify ?_;generalize hst3:SortSt.mk' (kindOf st2) (arrOf st2) (pendingOf st2) m (failedOf st2)=st3;have hs3:SmS st st3:=by rw [<-hst3];exact hs2
        have hk3:kindOf st3=κ:=hs3.1.trans hk;refine wpS_bind (aM (i:=nb) pb ?_);have hbi:b[nb]∈a₀ := M.mb _ (Array.getElem_mem pb);refine wpS_bind (gal L hk3 hbi M.ma (by show 0+na<=a.size;omega) (by show na - 1 < na;omega) M.sa λk hkn hk1 hk2 => ?_)
        have hkn:k<=na:=hkn;have hk1:∀ x∈a.toList.take k,rk x<=rk b[nb]:=hk1;have hk2:∀ x∈(a.toList.take na).drop k,rk b[nb]<=rk x:=hk2
        dsimp -zeta only
        extract_lets k' acount jp2 out3 na3;have e3:na3=k:=rfl;have ek:k'=na - k:=rfl;have hjp2:∀ (u:PUnit) (na':Nat) (out:Array Keyed),0 < na'->na'<=na->MH rk a.toList b.toList out.toList na' (nb+1)->(∀ x∈a.toList.take na',rk x<=rk b[nb])->wpS (model prog w) A E s (jp2 u na' out) (HiS rk a b st (1+x+1)) st3:=by
         intro u na' out' hp hle I' hk1';obtain ⟨na',rfl⟩:∃ n,na'=n+1:=⟨na' - 1,by omega⟩
         have pa:na' < a.size:=by omega
         refine wpS_bind (aM (i:=nb) pb ?_);have I4:MH rk a.toList b.toList (out'.push b[nb]).toList (na'+1) nb:=rZ I' M.sb pb hk1';by_cases h5:nb=1
         .rw [if_pos (by show (nb == 1)=true;simp [h5])]
          subst h5;exact wpS_pure ⟨hs3,some _,_,_,_,_,_,_,rfl,h9 I4 M.sa M.sb hb hf⟩
         .rw [if_neg (by show ¬ ((nb == 1)=true);simpa using h5)]
          refine wpS_bind (aM (i:=na') pa ?_);have hai:a[na']∈a₀ := M.ma _ (Array.getElem_mem pa);refine wpS_bind (gal L hk3 hai M.mb (by show 0+nb<=b.size;omega) (by show nb - 1 < nb;omega) M.sb λn hnn hn1 hn2 => ?_)
          have hnn:n<=nb:=hnn;have hn1:∀ x∈b.toList.take n,rk x<=rk a[na']:=hn1;have hn2:∀ x∈(b.toList.take nb).drop n,rk a[na']<=rk x:=hn2
          dsimp -zeta only
          extract_lets;rename_i kk bcount jp3 out5 nb5;have e5:nb5=n:=rfl;have hjp3:∀ (u:PUnit) (nb':Nat) (out:Array Keyed),1 < nb'->nb'<=nb->MH rk a.toList b.toList out.toList (na'+1) nb'->(∀ x∈b.toList.take nb',rk x<=rk a[na'])->wpS (model prog w) A E s (jp3 u nb' out) (HiS rk a b st (1+x+1)) st3:=by
           intro u nb' out6 hp' hle' I6 hn1';refine wpS_bind (aM (i:=na') pa ?_);have I7:MH rk a.toList b.toList (out6.push a[na']).toList na' nb':=kc I6 M.sa pa hn1';by_cases h6:na'=0
           .rw [if_pos (by show (na' == 0)=true;simp [h6])]
            exact wpS_pure ⟨hs3,some _,_,_,_,_,_,_,rfl,fz I7 M.sa M.sb (.inl h6)⟩
           .rw [if_neg (by show ¬ ((na' == 0)=true);simpa using h6)]
            split
            .exact wpS_pure ⟨hs3,none,na',nb',_,_,_,_,rfl,I7,⟨by omega,by omega⟩,⟨by omega,by omega⟩,by omega⟩
            .exact wpS_pure ⟨hs3,na',nb',_,_,_,_,rfl,I7,⟨by omega,by omega⟩,⟨by omega,by omega⟩,by omega⟩
          by_cases hn0:nb - n > 0
          .rw [if_pos (by show nb - n > 0;exact hn0)]
           have I5:MH rk a.toList b.toList out5.toList (na'+1) n:=by
            have:=I4.addB M.sb hnn λx hx y hy=>Gy (fK M.sa pa y hy) (hn2 x hx);rw [<-cw,<-Array.toList_reverse,<-Array.toList_append] at this;exact this
           by_cases h7:n=1
           .rw [if_pos (by rw [e5];simp [h7])]
            subst h7;exact wpS_pure ⟨hs3,some _,_,_,_,_,_,_,rfl,h9 I5 M.sa M.sb hb hf⟩
           .rw [if_neg (by rw [e5];simpa using h7)]
            by_cases h8:n=0
            .rw [if_pos (by rw [e5];simp [h8])]
             exact wpS_pure ⟨hs3,some _,_,_,_,_,_,_,rfl,fz I5 M.sa M.sb (.inr h8)⟩
            .rw [if_neg (by rw [e5];simpa using h8)]
             exact hjp3 () n out5 (by omega) hnn I5 hn1
          .rw [if_neg (by show ¬ (nb - n > 0);exact hn0)]
           have e0:n=nb:=by omega
           rw [e0] at hn1;exact hjp3 () nb _ (by omega) (GA _) I4 hn1
        by_cases hk0:na - k > 0
        .rw [if_pos (by rw [ek];exact hk0)]
         have I3:MH rk a.toList b.toList out3.toList k (nb+1):=by
          have:=hI.addA M.sa hkn λx hx y hy=>Gy (fK M.sb pb y hy) (hk2 x hx);rw [<-cw,<-Array.toList_reverse,<-Array.toList_append] at this;exact this
         by_cases h3:k=0
         .rw [if_pos (by rw [e3];simp [h3])]
          exact wpS_pure ⟨hs3,some _,_,_,_,_,_,_,rfl,fz I3 M.sa M.sb (.inl h3)⟩
         .rw [if_neg (by rw [e3];simpa using h3)]
          exact hjp2 () k out3 (by omega) hkn I3 hk1
        .rw [if_neg (by rw [ek];exact hk0)]
         have e0:k=na:=by omega
         rw [e0] at hk1;exact hjp2 () na out ha1 (GA _) hI hk1
       by_cases hm:mg > 1
       .rw [if_pos hm];exact wpS_mono (hjp () mg') λr st' h=>by cases r <;> exact h
       .rw [if_neg hm];exact wpS_mono (hjp () mg) λr st' h=>by cases r <;> exact h
      .rintro c st2 ⟨hs2,na,nb,out,mg,ac,bc,rfl,hI⟩
       exact ⟨hs2,none,_,_,_,_,_,_,rfl,hI⟩
      .rintro c st2 ⟨hs2,r,na,nb,out,mg,ac,bc,rfl,hI⟩
       cases r with
       | some res=>exact wpS_pure ⟨hs2,res,_,_,_,_,rfl,hI⟩
       | none =>
        obtain ⟨q0,q1,q2,q3⟩:=hI;refine wpS_bind ?_;rw [fZ];refine wpS_modify (wpS_pure ⟨hs2,na,nb,out,_,rfl,q0,q1,q2,?_⟩);omega
   .rintro c st1 ⟨hs1,na1,nb1,out1,mg1,rfl,_,q1,q2,q3⟩
    have:max 0 total=a.size+b.size:=by show max 0 (a.size+b.size)=_;omega
    omega
   .rintro c st1 ⟨hs1,res,_,_,_,_,rfl,hr⟩
    exact wpS_pure (h res st1 hs1 hr)
end
theorem pP(s:Nat):∀ (l:List Keyed) (n:Nat) (arr:Array Keyed),s+n+l.length<=arr.size->((l.zipIdx n).foldl (λa (p,j)=>a.setIfInBounds (s+j) p) arr).toList=arr.toList.take (s+n)++l++arr.toList.drop (s+n+l.length)
 | [],n,arr,h=>by simp
 | x :: l,n,arr,h=>by
  rw [List.length_cons] at h;rw [List.zipIdx_cons,List.foldl_cons,pP s l (n+1) _ (by rw [Array.size_setIfInBounds];omega)]
  rw [Array.toList_setIfInBounds,List.length_cons];have e1:(arr.toList.set (s+n) x).take (s+(n+1))=arr.toList.take (s+n)++[x]:=by
   rw [<-Nat.add_assoc,List.take_succ_eq_append_getElem (by simp;omega),List.take_set_of_le (GA _),List.getElem_set_self]
  have e2:(arr.toList.set (s+n) x).drop (s+(n+1)+l.length)=arr.toList.drop (s+n+(l.length+1)):=by
   rw [List.drop_set_of_lt (by omega)];congr 1;omega
  rw [e1,e2];simp
theorem uj(i:Nat):mergeAt' i=(do
 let s <- get
 let (some (sa,na,power),some (sb,nb,_)):=((pendingOf s)[i]?,(pendingOf s)[i+1]?) | unsupported "internal:list.sort.pending"
 set (setPending s (((pendingOf s).setIfInBounds i (sa,na+nb,power)).eraseIdxIfInBounds (i+1)))
 let some k <- gallop' false (<- elem' (arrOf s) sb) (arrOf s) sa na 0 | return false
 let (sa,na):=(sa+k,na - k)
 if na == 0 then return true
 let some nb <- gallop' true (<- elem' (arrOf s) (sa+na - 1)) (arrOf s) sb nb (nb - 1) | return false
 if nb == 0 then return true
 let x:=(arrOf s).extract sa sb
 let y:=(arrOf s).extract sb (sb+nb)
 let merged <- if na<=nb then js x y else jg x y
 modify λs=>setArr s (merged.toList.zipIdx.foldl (λa (p,j)=>a.setIfInBounds (sa+j) p) (arrOf s))
 return (failedOf (<- get)).isNone):=rfl
section
variable{rk:Keyed->Nat}
theorem fc(a:Array Keyed)(i:Nat):ra rk a i=(a.toList[i]?.map rk).getD 0:=by
 unfold ra;rw [Array.getElem?_toList]
theorem r9{a:Array Keyed}{l₁ l₂ l₃ : List Keyed}(h:a.toList=l₁ ++ l₂ ++ l₃)(i:Nat):ra rk a i=if i < l₁.length then (l₁[i]?.map rk).getD 0 else if i < l₁.length+l₂.length then (l₂[i - l₁.length]?.map rk).getD 0 else (l₃[i - (l₁.length+l₂.length)]?.map rk).getD 0:=by
 rw [fc,h];split
 .rw [List.getElem?_append_left (by rw [List.length_append];omega),List.getElem?_append_left (by assumption)]
 .split
  .rw [List.getElem?_append_left (by rw [List.length_append];assumption),List.getElem?_append_right (by omega)]
  .rw [List.getElem?_append_right (by rw [List.length_append];omega),List.length_append]
theorem xO{arr arr':Array Keyed}{lo m e p q:Nat}{mg:List Keyed}(he:e<=arr.size)(h1:lo<=p)(h2:p<=m)(h3:m<=q)(h4:q<=e)(hu1:Up (ra rk arr) lo m)(hu2:Up (ra rk arr) m e)
  (ha:∀ i,lo<=i->i < p -> ∀ t,m<=t->t < e->ra rk arr i<=ra rk arr t) (hb:∀ t,lo<=t->t < m -> ∀ j,q<=j->j < e->ra rk arr t<=ra rk arr j)
  (hr:Res rk ((arr.extract p m).toList) ((arr.extract m q).toList) mg) (hn:arr'.toList=arr.toList.take p++mg++arr.toList.drop q):Up (ra rk arr') lo e:=by
 have lm:mg.length=q - p:=by
  rw [hr.1.length_eq,List.length_append,Array.length_toList,Array.length_toList,Array.size_extract,Array.size_extract];omega
 have lp:(arr.toList.take p).length=p:=by rw [List.length_take,Array.length_toList];omega
 have r':∀ i,ra rk arr' i=if i < p then ra rk arr i else if i < q then (mg[i - p]?.map rk).getD 0 else ra rk arr i:=λi=>by
  rw [r9 hn i,lp,lm,show p+(q - p)=q by omega]
  split
  .rw [List.getElem?_take_of_lt (by assumption),<-fc]
  .split
   .rfl
   .rw [List.getElem?_drop,show q+(i - q)=i by omega,<-fc]
 have inM:∀ i,i < q - p -> ∃ t,p<=t/\t < q/\(mg[i]?.map rk).getD 0=ra rk arr t:=λi hi=>by
  have hi':i < mg.length:=by omega
  have hx:=hr.1.mem_iff.mp (List.getElem_mem hi');rw [cw,cw] at hx;rw [List.getElem?_eq_getElem hi'];rcases List.mem_append.mp hx with hx | hx
  .obtain ⟨j,hj,e1⟩:=List.mem_iff_getElem.mp hx
   have hj':=hj;simp only [List.length_drop,List.length_take,Array.length_toList] at hj';refine ⟨p+j,by omega,by omega,?_⟩
   rw [bq (by omega:p+j < arr.size),<-e1]
   simp
  .obtain ⟨j,hj,e1⟩:=List.mem_iff_getElem.mp hx
   have hj':=hj;simp only [List.length_drop,List.length_take,Array.length_toList] at hj';refine ⟨m+j,by omega,by omega,?_⟩
   rw [bq (by omega:m+j < arr.size),<-e1]
   simp
 intro i j hi hij hj;rw [r' i,r' j];by_cases i1:i < p
 .rw [if_pos i1]
  have low:∀ t,p<=t->t < e->ra rk arr i<=ra rk arr t:=λt a1 a2=>by
   by_cases t1:t < m
   .exact hu1 i t hi (by omega) t1
   .exact ha i hi i1 t (by omega) a2
  by_cases j1:j < p
  .rw [if_pos j1];exact hu1 i j hi hij (by omega)
  .rw [if_neg j1]
   by_cases j2:j < q
   .rw [if_pos j2]
    obtain ⟨t,t1,t2,t3⟩:=inM (j - p) (by omega)
    rw [t3];exact low t t1 (by omega)
   .rw [if_neg j2];exact low j (by omega) hj
 .rw [if_neg i1,if_neg (by omega : ¬ j < p)]
  by_cases i2:i < q
  .rw [if_pos i2]
   by_cases j2:j < q
   .rw [if_pos j2]
    have li:i - p < mg.length:=by omega
    have lj:j - p < mg.length:=by omega
    rw [List.getElem?_eq_getElem li,List.getElem?_eq_getElem lj];rcases Nat.lt_or_eq_of_le hij with k | k
    .exact List.pairwise_iff_getElem.mp hr.2 (i - p) (j - p) li lj (by omega)
    .subst k;exact GA _
   .rw [if_neg j2]
    obtain ⟨t,t1,t2,t3⟩:=inM (i - p) (by omega)
    rw [t3];by_cases tm:t < m
    .exact hb t (by omega) tm j (by omega) hj
    .exact hu2 t j (by omega) (by omega) hj
  .rw [if_neg i2,if_neg (by omega : ¬ j < q)]
   exact hu2 i j (by omega) hij hj
end
section
variable{prog:Program}{w:World}{A:Around}{E:Value->Shared->Prop}{s:Shared}{a₀ : Array Keyed}{rk:Keyed->Nat}{κ:SortKind}{st:SortSt}
theorem gL{arr:Array Keyed}{p q:Nat}{x:Keyed}(h:x∈(arr.extract p q).toList):∃ t,p<=t/\t < q/\t < arr.size/\ra rk arr t=rk x/\x∈arr:=by
 rw [cw] at h;obtain ⟨j,hj,e⟩:=List.mem_iff_getElem.mp h;have hj':=hj;simp only [List.length_drop,List.length_take,Array.length_toList] at hj';refine ⟨p+j,by omega,by omega,by omega,?_,?_⟩
 .rw [bq (by omega:p+j < arr.size),<-e];simp
 .rw [<-e];simp
theorem qO{arr:Array Keyed}{p q lo hi:Nat}(h:Up (ra rk arr) lo hi)(h1:lo<=p)(h2:q<=hi)(h3:hi<=arr.size):SrL rk (arr.extract p q).toList:=by
 rw [cw,SrL,List.pairwise_iff_getElem];intro i j hi' hj' hij;have a1:=hi';have a2:=hj';simp only [List.length_drop,List.length_take,Array.length_toList] at a1 a2;have:=h (p+i) (p+j) (by omega) (by omega) (by omega)
 rw [bq (by omega:p+i < arr.size),bq (by omega:p+j < arr.size)] at this
 simpa using this
theorem xW{st':SortSt}{Q:PUnit->SortSt->Prop}(h:Q ⟨⟩ st'):wpS (model prog w) A E s (set st':StateT SortSt Sem PUnit) Q st:=wpS_modify (f:=λ_=>st') h
theorem wM(L:a5 prog w A E s κ a₀ rk)(B:SB κ a₀ st){i sa na p nb q:Nat}(h1:(pendingOf st)[i]? = some (sa,na,p))(h2:(pendingOf st)[i+1]? = some (sa+na,nb,q))(hna:0 < na)(hnb:0 < nb)(hsz:sa+na+nb<=a₀.size)
  (hu1:Up (ra rk (arrOf st)) sa (sa+na)) (hu2:Up (ra rk (arrOf st)) (sa+na) (sa+na+nb)) {Q:Bool->SortSt->Prop}
  (h:∀ st',SB κ a₀ st'->(∀ j,(j < sa\/sa+na+nb<=j)->ra rk (arrOf st') j=ra rk (arrOf st) j)->Up (ra rk (arrOf st')) sa (sa+na+nb)->pendingOf st'=((pendingOf st).setIfInBounds i (sa,na+nb,p)).eraseIdxIfInBounds (i+1)->Q true st') :
  wpS (model prog w) A E s (mergeAt' i) Q st:=by
 rw [uj];refine wpS_bind (wpS_get ?_);rw [h1,h2]
 dsimp -zeta only
 have hs:=B.size;have hmem:∀ x∈arrOf st,x∈a₀ := λx hx=>B.perm.mem_iff.mp hx;have hsb:sa+na < (arrOf st).size:=by omega
 refine wpS_bind (xW ?_);generalize hst1:setPending st (((pendingOf st).setIfInBounds i (sa,na+nb,p)).eraseIdxIfInBounds (i+1))=st1;have B1:SB κ a₀ st1:=by rw [<-hst1];exact ⟨B.perm,B.failed,B.kind⟩
 have ea:arrOf st1=arrOf st:=by rw [<-hst1]
 have ep:pendingOf st1=((pendingOf st).setIfInBounds i (sa,na+nb,p)).eraseIdxIfInBounds (i+1):=by rw [<-hst1]
 refine wpS_bind (aM hsb ?_);refine wpS_bind (jc L B1.kind (hmem _ (Array.getElem_mem hsb)) hmem (by omega) hna hu1 λk ⟨k1,k2,k3⟩ => ?_)
 dsimp -zeta only
 have kk:∀ t,sa<=t->t < sa+k->ra rk (arrOf st) t<=ra rk (arrOf st) (sa+na):=λt t1 t2=>by
  have:=k2 (t - sa) (by omega)
  unfold bdy at this;rw [if_neg Gz,show sa+(t - sa)=t by omega,Bool.not_eq_true',decide_eq_false_iff_not] at this
  rw [bq hsb];omega
 have kl:∀ t,sa+k<=t->t < sa+na->rk (arrOf st)[sa+na]<=ra rk (arrOf st) t:=λt t1 t2=>by
  have:=k3 (t - sa) (by omega) (by omega)
  unfold bdy at this;rw [if_neg Gz,show sa+(t - sa)=t by omega,Bool.not_eq_false',decide_eq_true_eq] at this
  omega
 have hlow:∀ i,sa<=i->i < sa+k -> ∀ t,sa+na<=t->t < sa+na+nb->ra rk (arrOf st) i<=ra rk (arrOf st) t:=λi i1 i2 t t1 t2=>Gy (kk i i1 i2) (hu2 _ t (GA _) t1 t2);by_cases e1:na - k=0
 .rw [if_pos (by simp [e1])]
  refine wpS_pure (h st1 B1 (λj _=>by rw [ea]) ?_ ep)
  rw [ea];intro x y x1 xy y1;by_cases c1:y < sa+na
  .exact hu1 x y x1 xy c1
  .by_cases c2:x < sa+na
   .exact hlow x x1 (by omega) y (by omega) y1
   .exact hu2 x y (by omega) xy y1
 .rw [if_neg (by simpa using e1)]
  have el:sa+k+(na - k) - 1=sa+na - 1:=by omega
  have hl:sa+k+(na - k) - 1 < (arrOf st).size:=by omega
  refine wpS_bind (aM hl ?_);refine wpS_bind (jc L B1.kind (hmem _ (Array.getElem_mem hl)) hmem (by omega) (by omega) hu2 λn ⟨n1,n2,n3⟩ => ?_)
  dsimp -zeta only
  have nn:∀ j,sa+na+n<=j->j < sa+na+nb->ra rk (arrOf st) (sa+na - 1)<=ra rk (arrOf st) j:=λj j1 j2=>by
   have:=n3 (j - (sa+na)) (by omega) (by omega)
   unfold bdy at this;rw [if_pos rfl,show sa+na+(j - (sa+na))=j by omega,<-bq (rk:=rk) hl,el] at this
   have:=of_decide_eq_false this;omega
  have nm:∀ j,sa+na<=j->j < sa+na+n->ra rk (arrOf st) j<=ra rk (arrOf st) (sa+na - 1):=λj j1 j2=>by
   have:=n2 (j - (sa+na)) (by omega)
   unfold bdy at this;rw [if_pos rfl,show sa+na+(j - (sa+na))=j by omega,<-bq (rk:=rk) hl,el] at this
   have:=GI this;omega
  have hhigh:∀ t,sa<=t->t < sa+na -> ∀ j,sa+na+n<=j->j < sa+na+nb->ra rk (arrOf st) t<=ra rk (arrOf st) j:=λt t1 t2 j j1 j2=>Gy (hu1 t _ t1 (by omega) (by omega)) (nn j j1 j2)
  by_cases e2:n=0
  .rw [if_pos (by simp [e2])]
   refine wpS_pure (h st1 B1 (λj _=>by rw [ea]) ?_ ep)
   rw [ea];intro x y x1 xy y1;by_cases c1:y < sa+na
   .exact hu1 x y x1 xy c1
   .by_cases c2:x < sa+na
    .exact hhigh x x1 c2 y (by omega) y1
    .exact hu2 x y (by omega) xy y1
  .rw [if_neg (by simpa using e2)]
   extract_lets x y jp;have sx:x.size=na - k:=by show ((arrOf st).extract (sa+k) (sa+na)).size=_;rw [Array.size_extract];omega
   have sy:y.size=n:=by show ((arrOf st).extract (sa+na) (sa+na+n)).size=_;rw [Array.size_extract];omega
   have hx0:0 < x.size:=by omega
   have hy0:0 < y.size:=by omega
   have M:MPre rk a₀ x y:=by
    refine ⟨λz hz => ?_,λz hz => ?_,qO hu1 (by omega) (by omega) (by omega),qO hu2 (by omega) (by omega) (by omega),λz hz v hv => ?_⟩
    .obtain ⟨t,_,_,_,_,hm⟩:=gL (rk:=rk) (Array.mem_toList_iff.mpr hz)
     exact hmem _ hm
    .obtain ⟨t,_,_,_,_,hm⟩:=gL (rk:=rk) (Array.mem_toList_iff.mpr hz)
     exact hmem _ hm
    .obtain ⟨t,t1,t2,_,t4,_⟩:=gL (rk:=rk) hz
     have hl2:x.size - 1 < x.size:=by omega
     have ev:v=x[x.size - 1]:=by
      rw [List.drop_eq_getElem_cons (by rw [Array.length_toList];exact hl2),List.drop_eq_nil_of_le (by rw [Array.length_toList];omega)] at hv
      rw [List.mem_singleton.mp hv];simp
     have:rk v=ra rk (arrOf st) (sa+na - 1):=by
      rw [ev,bq (by omega:sa+na - 1 < (arrOf st).size)]
      show rk (((arrOf st).extract (sa+k) (sa+na))[x.size - 1])=_;rw [Array.getElem_extract];congr 2;omega
     rw [this,<-t4];exact nm t t1 t2
   have hf:∀ z∈x.toList,rk y[0]<=rk z:=λz hz=>by
    obtain ⟨t,t1,t2,_,t4,_⟩:=gL (rk:=rk) hz;have:=kl t t1 t2;rw [t4] at this;have e0:y[0]=(arrOf st)[sa+na]:=by
     show ((arrOf st).extract (sa+na) (sa+na+n))[0]=_;rw [Array.getElem_extract];rfl
    rw [e0];exact this
   have hjp:∀ mg st',SmS st1 st'->Res rk x.toList y.toList mg.toList->wpS (model prog w) A E s (jp mg) Q st':=by
    intro mg st' hS hR;refine wpS_bind (wpS_modify (wpS_bind (wpS_get ?_)));have hfl:failedOf st'=none:=hS.2.2.2.trans B1.failed;have ha':arrOf st'=arrOf st:=hS.2.1.trans ea;generalize hres:List.foldl (λ(a:Array Keyed) (x:Keyed×Nat)=>a.setIfInBounds (sa+k+x.snd) x.fst) (arrOf st') mg.toList.zipIdx=res;have lm:mg.toList.length=(na - k)+n:=by
     rw [hR.1.length_eq,List.length_append,Array.length_toList,Array.length_toList,sx,sy]
    have hto:res.toList=(arrOf st).toList.take (sa+k)++mg.toList++(arrOf st).toList.drop (sa+na+n):=by
     have:=pP (sa+k) mg.toList 0 (arrOf st') (by rw [ha',lm];omega)
     rw [Nat.add_zero,lm,ha',show sa+k+(na - k+n)=sa+na+n by omega] at this
     rw [<-hres,ha'];exact this
    have hperm:res.Perm (arrOf st):=by
     rw [Array.perm_iff_toList_perm,hto];have e1:(arrOf st).toList=(arrOf st).toList.take (sa+k)++(x.toList++y.toList)++(arrOf st).toList.drop (sa+na+n):=by
      have c1:=gd (arrOf st).toList (show sa+na<=sa+na+n by omega)
      have c2:=gd (arrOf st).toList (show sa+k<=sa+na by omega)
      show _=_++(((arrOf st).extract (sa+k) (sa+na)).toList++((arrOf st).extract (sa+na) (sa+na+n)).toList)++_;rw [cw,cw,List.append_assoc,List.append_assoc,<-c1,<-c2,List.take_append_drop]
     conv=>rhs;rw [e1]
     exact (hR.1.append_left _).append_right _
    show wpS _ _ _ _ (pure (failedOf st').isNone) Q _;rw [hfl];refine wpS_pure (h _ ⟨hperm.trans B.perm,hfl,hS.1.trans B1.kind⟩ ?_ ?_ (hS.2.2.1.trans ep))
    .intro j hj
     show ra rk res j=_;have lp:((arrOf st).toList.take (sa+k)).length=sa+k:=by rw [List.length_take,Array.length_toList];omega
     rw [r9 hto j,lp,lm,show sa+k+(na - k+n)=sa+na+n by omega]
     split
     .rw [List.getElem?_take_of_lt (by assumption),<-fc]
     .rw [if_neg (by omega),List.getElem?_drop,show sa+na+n+(j - (sa+na+n))=j by omega,<-fc]
    .show Up (ra rk res) sa (sa+na+nb)
     exact xO (by omega) (by omega:sa<=sa+k) (by omega) (by omega:sa+na<=sa+na+n) (by omega) hu1 hu2 hlow hhigh hR hto
   by_cases hc:na - k<=n
   .rw [if_pos hc]
    exact wpS_bind (vL L M B1.kind hx0 hy0 hf λres st' hS hR=>hjp res st' hS hR)
   .rw [if_neg hc]
    exact wpS_bind (wK L M B1.kind hx0 hy0 hf λres st' hS hR=>hjp res st' hS hR)
end
noncomputable def PdR(r:Nat->Nat):List (Nat×Nat×Nat)->Nat->Nat->Prop
 | [],lo,hi=>lo=hi
 | (s,n,_) :: l,lo,hi=>s=lo/\0 < n/\Up r lo (lo+n)/\PdR r l (lo+n) hi
section
variable{r r':Nat->Nat}
theorem PdR.le:∀ {l:List (Nat×Nat×Nat)} {lo hi:Nat},PdR r l lo hi->lo<=hi
 | [],_,_,h=>by cases h;exact GA _
 | (s,n,p) :: l,lo,hi,h=>by have:=h.2.2.2.le;omega
theorem PdR.app:∀ {l l':List (Nat×Nat×Nat)} {lo hi:Nat},PdR r (l++l') lo hi ↔ ∃ m,PdR r l lo m/\PdR r l' m hi
 | [],l',lo,hi=>⟨λh=>⟨lo,rfl,h⟩,λ⟨m,h,k⟩=>by cases h;exact k⟩
 | (s,n,p) :: l,l',lo,hi=>by
  rw [List.cons_append];constructor
  .rintro ⟨a,b,c,d⟩
   obtain ⟨m,d1,d2⟩:=PdR.app.mp d;exact ⟨m,⟨a,b,c,d1⟩,d2⟩
  .rintro ⟨m,⟨a,b,c,d⟩,e⟩
   exact ⟨a,b,c,PdR.app.mpr ⟨m,d,e⟩⟩
theorem PdR.snoc{l:List (Nat×Nat×Nat)}{lo hi n p:Nat}(h:PdR r l lo hi)(hn:0 < n)(hu:Up r hi (hi+n)):PdR r (l++[(hi,n,p)]) lo (hi+n) :=
 PdR.app.mpr ⟨hi,h,rfl,hn,hu,rfl⟩
theorem PdR.same:∀ {l:List (Nat×Nat×Nat)} {lo hi:Nat},PdR r l lo hi->(∀ j,lo<=j->j < hi->r' j=r j)->PdR r' l lo hi
 | [],_,_,h,_=>h
 | (s,n,p) :: l,lo,hi,⟨a,b,c,d⟩,e=>by
  have:=d.le;refine ⟨a,b,λi j h1 h2 h3 => ?_,d.same λj h1 h2=>e j (by omega) h2⟩
  rw [e i h1 (by omega),e j (by omega) (by omega)]
  exact c i j h1 h2 h3
theorem PdR.join{l₁ l₂ : List (Nat×Nat×Nat)}{s n p s' n' q lo hi:Nat}(h:PdR r (l₁ ++ (s,n,p) :: (s',n',q) :: l₂) lo hi)(hr:∀ j,(j < s\/s+n+n'<=j)->r' j=r j)(hu:Up r' s (s+n+n')):PdR r' (l₁ ++ (s,n+n',p) :: l₂) lo hi:=by
 obtain ⟨m,h1,h2,h3,h4,h5,h6,h7,h8⟩:=PdR.app.mp h;subst h2;have k1:=h1.le;refine PdR.app.mpr ⟨s,h1.same λj _ j2=>hr j (.inl j2),rfl,by omega,by rw [<-Nat.add_assoc];exact hu,?_⟩
 rw [<-Nat.add_assoc];exact h8.same λj j1 _=>hr j (.inr j1)
theorem PdR.pair{l₁ l₂ : List (Nat×Nat×Nat)}{s n p s' n' q lo hi:Nat}(h:PdR r (l₁ ++ (s,n,p) :: (s',n',q) :: l₂) lo hi):s'=s+n/\0 < n/\0 < n'/\s+n+n'<=hi/\Up r s (s+n)/\Up r (s+n) (s+n+n'):=by
 obtain ⟨m,h1,h2,h3,h4,h5,h6,h7,h8⟩:=PdR.app.mp h;subst h2;exact ⟨h5,h3,h6,h8.le,h4,h7⟩
theorem Bu{l:List (Nat×Nat×Nat)}{i:Nat}(h:i+1 < l.length):∃ x y,l[i]? = some x/\l[i+1]? = some y/\l=l.take i++x :: y :: l.drop (i+2)/\(l.set i (x.1,x.2.1+y.2.1,x.2.2)).eraseIdx (i+1)=l.take i++(x.1,x.2.1+y.2.1,x.2.2) :: l.drop (i+2):=by
 have e:l=l.take i++l[i] :: l[i+1] :: l.drop (i+2):=by
  conv=>lhs;rw [<-List.take_append_drop i l,List.drop_eq_getElem_cons (by omega),List.drop_eq_getElem_cons (by omega:i+1 < l.length)]
 refine ⟨l[i],l[i+1],List.getElem?_eq_getElem _,List.getElem?_eq_getElem h,e,?_⟩;have lt:(l.take i).length=i:=by rw [List.length_take];omega
 generalize l[i]=x at e ⊢;generalize l[i+1]=y at e ⊢;generalize l.take i=l₁ at e lt ⊢;generalize l.drop (i+2)=l₂ at e ⊢;subst e;subst lt;rw [List.set_append_right _ _ (GA _),Nat.sub_self,List.set_cons_zero,List.eraseIdx_append_of_length_le (by omega),show l₁.length+1 - l₁.length=1 by omega]
 rfl
end
section
variable{prog:Program}{w:World}{A:Around}{E:Value->Shared->Prop}{s:Shared}{a₀ : Array Keyed}{rk:Keyed->Nat}{κ:SortKind}{st:SortSt}
structure PdS(κ:SortKind)(a₀ : Array Keyed)(rk:Keyed->Nat)(lo:Nat)(st:SortSt):Prop where
 sb:SB κ a₀ st
 pr:PdR (ra rk (arrOf st)) (pendingOf st).toList 0 lo
theorem PdS.merge(L:a5 prog w A E s κ a₀ rk){lo:Nat}(P:PdS κ a₀ rk lo st)(hlo:lo<=a₀.size){i:Nat}(hi:i+1 < (pendingOf st).size){Q:Bool->SortSt->Prop}
  (h:∀ st',PdS κ a₀ rk lo st'->(∀ j,lo<=j->ra rk (arrOf st') j=ra rk (arrOf st) j)->(pendingOf st').size+1=(pendingOf st).size->Q true st'):wpS (model prog w) A E s (mergeAt' i) Q st:=by
 obtain ⟨⟨sa,na,p⟩,⟨sb,nb,q⟩,h1,h2,e1,e2⟩:=Bu (l:=(pendingOf st).toList) (i:=i) (by rw [Array.length_toList];exact hi)
 have hp:=P.pr;rw [e1] at hp;obtain ⟨rfl,q1,q2,q3,q4,q5⟩:=hp.pair;rw [Array.getElem?_toList] at h1 h2;refine wM L P.sb h1 h2 q1 q2 (by omega) q4 q5 λst' B' ho hu hpe => ?_
 have el:(pendingOf st').toList=(pendingOf st).toList.take i++(sa,na+nb,p) :: (pendingOf st).toList.drop (i+2):=by
  rw [hpe,<-e2,Array.toList_eraseIdxIfInBounds,Array.toList_setIfInBounds]
 refine h st' ⟨B',?_⟩ (λj hj=>ho j (.inr (by omega))) ?_
 .rw [el];exact hp.join ho hu
 .have:=congrArg List.length el
  rw [Array.length_toList,List.length_append,List.length_cons,List.length_take,List.length_drop,Array.length_toList] at this;omega
end
section
variable{prog:Program}{w:World}{A:Around}{E:Value->Shared->Prop}{s:Shared}{a₀ : Array Keyed}{rk:Keyed->Nat}{κ:SortKind}{st:SortSt}
theorem PdR.len{r:Nat->Nat}:∀ {l:List (Nat×Nat×Nat)} {lo hi:Nat},PdR r l lo hi->lo+l.length<=hi
 | [],_,_,h=>by cases h;exact GA _
 | (s,n,p) :: l,lo,hi,h=>by have:=h.2.2.2.len;have:=h.2.1;rw [List.length_cons];omega
theorem PdR.modify{r:Nat->Nat}{f:Nat×Nat×Nat->Nat×Nat×Nat}(hf:∀ x,(f x).1=x.1/\(f x).2.1=x.2.1):∀ {l:List (Nat×Nat×Nat)} {k lo hi:Nat},PdR r l lo hi->PdR r (l.modify k f) lo hi
 | [],k,_,_,h=>by cases k <;> exact h
 | (s,n,p) :: l,0,lo,hi,h=>by
  have:=hf (s,n,p);rw [List.modify_zero_cons];obtain ⟨⟨a,b,c⟩,e⟩:∃ y,f (s,n,p)=y:=⟨_,rfl⟩;rw [e] at this ⊢;obtain ⟨rfl,rfl⟩:=this;exact h
 | (s,n,p) :: l,k+1,lo,hi,h=>by
  rw [List.modify_succ_cons];exact ⟨h.1,h.2.1,h.2.2.1,h.2.2.2.modify hf⟩
theorem wL{Q:Unit->SortSt->Prop}(L:a5 prog w A E s κ a₀ rk)(B:SB κ a₀ st)(hp:pendingOf st = #[])
  (h:∀ st',SB κ a₀ st'->Up (ra rk (arrOf st')) 0 a₀.size->Q () st'):wpS (model prog w) A E s sortRuns' Q st:=by
 rw [sortRuns'_eq];refine wpS_bind (wpS_get ?_);rw [B.size];extract_lets size minrun lo0;have P0:PdS κ a₀ rk 0 st:=⟨B,by rw [hp];rfl⟩
 refine wpS_bind (wpS_mono (wpS_forRange (I:=λx c st' => ∃ lo,c=(none,lo)/\PdS κ a₀ rk lo st'/\lo<=a₀.size/\(x<=lo\/lo=a₀.size))
  (Q:=λc st'=>c=(none,a₀.size)/\PdS κ a₀ rk a₀.size st') ?step ?fin ⟨0,rfl,P0,Nat.zero_le _,.inl (GA _)⟩) ?post)
 case fin =>
  rintro c st' ⟨lo,rfl,P,l1,l2⟩;have:max 0 size=a₀.size:=by show max 0 a₀.size=_;omega
  have:lo=a₀.size:=by omega
  subst this;exact ⟨rfl,P⟩
 case step =>
  rintro x c st' _ hx ⟨lo,rfl,P,l1,l2⟩
  dsimp -zeta only
  extract_lets lo' jp;by_cases hl:lo ≥ a₀.size
  .rw [if_pos hl]
   have:lo=a₀.size:=by omega
   subst this;exact wpS_pure ⟨rfl,P⟩
  .rw [if_neg hl]
   refine wpS_bind (vB (lo:=lo) L P.sb (by show 1<=a₀.size - lo;omega) (by show lo+(a₀.size - lo)<=_;omega) λm st2 hk2 hm1 hm2 hu2 => ?_)
   have hm2:m<=a₀.size - lo:=hm2
   dsimp -zeta only
   extract_lets;have hjp:∀ (u:PUnit) (n:Nat) (st3:SortSt),1<=n->lo+n<=a₀.size->PdS κ a₀ rk lo st3->Up (ra rk (arrOf st3)) lo (lo+n)->wpS (model prog w) A E s (jp u n) (λr st'=>match r with
     | .done c'=>c'=(none,a₀.size)/\PdS κ a₀ rk a₀.size st'
     | .yield c' => ∃ lo,c'=(none,lo)/\PdS κ a₀ rk lo st'/\lo<=a₀.size/\(x+1<=lo\/lo=a₀.size)) st3:=by
    intro u n st3 n1 n2 P3 hu3;refine wpS_bind (wpS_get ?_);extract_lets lo2 jp2;have hjp2:∀ (u:PUnit) (st4:SortSt),PdS κ a₀ rk lo st4->Up (ra rk (arrOf st4)) lo (lo+n)->wpS (model prog w) A E s (jp2 u) (λr st'=>match r with
      | .done c'=>c'=(none,a₀.size)/\PdS κ a₀ rk a₀.size st'
      | .yield c' => ∃ lo,c'=(none,lo)/\PdS κ a₀ rk lo st'/\lo<=a₀.size/\(x+1<=lo\/lo=a₀.size)) st4:=by
     intro u st4 P4 hu4;refine wpS_bind (wpS_modify (wpS_pure ⟨lo+n,rfl,⟨⟨P4.sb.perm,P4.sb.failed,P4.sb.kind⟩,?_⟩,n2,by omega⟩))
     show PdR (ra rk (arrOf st4)) ((pendingOf st4).push (lo,n,0)).toList 0 (lo+n);rw [Array.toList_push];exact P4.pr.snoc (by omega) hu4
    cases hb:(pendingOf st3).back? with
    | none =>
     dsimp -zeta only
     exact wpS_mono (hjp2 () st3 P3 hu3) λr st' h=>by cases r <;> exact h
    | some v =>
     obtain ⟨s1,n1',pv⟩:=v
     dsimp -zeta only
     extract_lets pw;refine wpS_bind (wpS_mono (wpS_forRange (I:=λ_ c st'=>c=(none,())/\PdS κ a₀ rk lo st'/\Up (ra rk (arrOf st')) lo (lo+n)) (Q:=λc st'=>c=(none,())/\PdS κ a₀ rk lo st'/\Up (ra rk (arrOf st')) lo (lo+n)) ?_ (λ_ _ hh=>hh) ⟨rfl,P3,hu3⟩) ?_)
     .rintro y c st4 _ _ ⟨rfl,P4,hu4⟩
      refine wpS_bind (wpS_get ?_);extract_lets p;split
      .rename_i f1 f2 older hq
       split
       .exact wpS_pure ⟨rfl,P4,hu4⟩
       .have hsz:(pendingOf st4).size - 2+1 < (pendingOf st4).size:=by
         by_cases c1:(pendingOf st4).size > 1
         .omega
         .rw [if_neg c1] at hq;cases hq
        refine wpS_bind (P4.merge L l1 hsz λst5 P5 ho5 _ => ?_);refine wpS_pure ⟨rfl,P5,λi j h1 h2 h3 => ?_⟩;rw [ho5 i h1,ho5 j (by omega)]
        exact hu4 i j h1 h2 h3
      .exact wpS_pure ⟨rfl,P4,hu4⟩
     .rintro c st4 ⟨rfl,P4,hu4⟩
      refine wpS_bind (wpS_modify ?_);refine wpS_mono (hjp2 () _ ⟨⟨P4.sb.perm,P4.sb.failed,P4.sb.kind⟩,?_⟩ hu4) λr st' h=>by cases r <;> exact h
      show PdR (ra rk (arrOf st4)) ((pendingOf st4).modify ((pendingOf st4).size - 1) λx=>(x.fst,x.2.fst,pw)).toList 0 lo;rw [Array.toList_modify];exact PdR.modify (f:=λx=>(x.fst,x.2.fst,pw)) (λ_=>⟨rfl,rfl⟩) P4.pr
   have P2:PdS κ a₀ rk lo st2:=⟨hk2.sb,by rw [hk2.pend];exact P.pr.same λj _ j2=>by unfold ra;rw [hk2.out j (.inl j2)]⟩
   by_cases hlt:m < minrun
   .rw [if_pos hlt]
    refine wpS_bind (wpS_lift (wpAny_rule ⟨rfl,?_⟩));have fo:m<=min (a₀.size - lo) minrun/\lo+min (a₀.size - lo) minrun<=a₀.size:=by omega
    refine wpS_bind (ue (lo:=lo) L hk2.sb fo.2 fo.1 hu2 λst3 hk3 hu3 => ?_);have P3:PdS κ a₀ rk lo st3:=⟨hk3.sb,by rw [hk3.pend];exact P2.pr.same λj _ j2=>by unfold ra;rw [hk3.out j (.inl j2)]⟩
    exact wpS_mono (hjp () _ st3 (by omega) fo.2 P3 hu3) λr st' h=>by cases r <;> exact h
   .rw [if_neg hlt]
    exact wpS_mono (hjp () m st2 hm1 (by omega) P2 hu2) λr st' h=>by cases r <;> exact h
 case post =>
  rintro c st' ⟨rfl,P⟩;have hlen:=P.pr.len;rw [Array.length_toList] at hlen;refine wpS_bind (wpS_mono (wpS_forRange (I:=λx c st''=>c=(none,())/\PdS κ a₀ rk a₀.size st''/\(pendingOf st'').size+x<=a₀.size\/c=(none,())/\PdS κ a₀ rk a₀.size st''/\(pendingOf st'').size<=1) (Q:=λc st''=>c=(none,())/\PdS κ a₀ rk a₀.size st''/\(pendingOf st'').size<=1) ?_ ?_ (.inl ⟨rfl,P,by omega⟩)) ?_)
  .intro x c st2 _ hx hh
   refine wpS_bind (wpS_get ?_);by_cases h1:(pendingOf st2).size<=1
   .rw [if_pos h1]
    rcases hh with ⟨rfl,P2,_⟩ | ⟨rfl,P2,_⟩ <;> exact wpS_pure ⟨rfl,P2,h1⟩
   .rw [if_neg h1]
    rcases hh with ⟨rfl,P2,h2⟩ | ⟨rfl,P2,h2⟩
    .extract_lets
     rename_i i';have hi2:∀ (c:Prop) [Decidable c] (a:Nat),(if c then a - 1 else a)<=a:=λc _ a=>by split <;> omega
     have hi3:i'<=(pendingOf st2).size - 2:=hi2 _ _;have hi:i'+1 < (pendingOf st2).size:=by omega
     refine wpS_bind (P2.merge L (GA _) hi λst3 P3 _ hz => ?_);exact wpS_pure (.inl ⟨rfl,P3,by omega⟩)
    .omega
  .rintro c st2 (⟨rfl,P2,h2⟩ | ⟨rfl,P2,h2⟩)
   .have:max 0 size=a₀.size:=by show max 0 a₀.size=_;omega
    exact ⟨rfl,P2,by omega⟩
   .exact ⟨rfl,P2,h2⟩
  .rintro c st2 ⟨rfl,P2,h2⟩
   refine wpS_pure (h st2 P2.sb ?_);have hp2:=P2.pr;rw [<-Array.length_toList] at h2;generalize (pendingOf st2).toList=l at hp2 h2
   match l,hp2,h2 with
   | [],hp2,_=>intro i j _ _ h3;have:0=a₀.size:=hp2;omega
   | [(a,n,p)],hp2,_ =>
    obtain ⟨_,_,q3,q4⟩:=hp2;have:0+n=a₀.size:=q4;rw [<-this];exact q3
end
open PySem PyProof.Rows PySem.W
theorem mZ{α β:Type}{f:α->β}{l l':List β}(h:l.Perm l'):∀ (D:List α),l'=D.map f -> ∃ D':List α,D'.Perm D/\l=D'.map f:=by
 induction h with
 | nil=>intro D e;exact ⟨[],by rw [List.map_eq_nil_iff.mp e.symm],rfl⟩
 | cons x _ ih =>
  intro D e;cases D with
  | nil=>cases e
  | cons d D =>
   cases e;obtain ⟨D',p,q⟩:=ih D rfl;exact ⟨d :: D',p.cons d,by rw [q];rfl⟩
 | swap x y l =>
  intro D e;cases D with
  | nil=>cases e
  | cons d D =>
   cases D with
   | nil=>cases e
   | cons d' D=>cases e;exact ⟨d' :: d :: D,.swap _ _ _,rfl⟩
 | trans _ _ ih1 ih2 =>
  intro D e;obtain ⟨D2,p2,q2⟩:=ih2 D e;obtain ⟨D1,p1,q1⟩:=ih1 D2 q2;exact ⟨D1,p1.trans p2,q1⟩
noncomputable def refs(D:KyB):List Value:=D.map λd => .ref d.2
noncomputable def dv(D:KyB):Prop:=D.Pairwise λx y=>ak y.1 x.1=false
section
variable{prog:Program}{w:World}{A:Around}{E:Value->Shared->Prop}{s:Shared}{D:KyB}
theorem IsT.keep{h h':Heap}{k:List Int}{b:Addr}(x:IsT prog w h k b)(hk:∀ o,h.get? b=some o->h'.get? b=some o):IsT prog w h' k b :=
 let ⟨o,its,n,e1,e2,e3,e4⟩:=x;⟨o,its,n,hk o e1,e2,e3,e4⟩
theorem iS(D:KyB):(pairsOf (refs D)).toList=D.map λd=>((.ref d.2,.ref d.2):Keyed):=by
 rw [pairsOf_toList];unfold refs
 induction D with
 | nil=>rfl
 | cons d D ih=>rw [List.map_cons,List.zip_cons_cons,ih];rfl
theorem qA:∀ {D:KyB},(∀ d∈D,IsT prog w s.heap d.1 d.2/\d.1≠[]) -> ∃ fs:List Value,KatTups s.heap (refs D) fs/\fs.length=D.length /\ ∀ v∈fs,∃ i t,v=.int i t
 | [],_=>⟨[],trivial,rfl,λv hv=>by cases hv⟩
 | d :: D,h=>by
  obtain ⟨fs,a,b,c⟩:=qA (D:=D) λd hd=>h d (GB _ hd);obtain ⟨⟨o,its,n,e1,e2,e3,e4⟩,hne⟩:=h d GH;cases hk:d.1 with
  | nil=>exact absurd hk hne
  | cons i r =>
   rw [hk] at e4;generalize hl:its.toList=l at e4;cases e4 with
   | cons h1 _ =>
    obtain ⟨t,rfl⟩:=Value.isInt_shape h1;refine ⟨.int i t :: fs,KatTups.cons e1 e2 e3 (by rw [<-Array.getElem?_toList,hl];rfl) a,by rw [List.length_cons,b,List.length_cons],λv hv => ?_⟩
    rcases List.mem_cons.mp hv with rfl | hv
    .exact ⟨i,t,rfl⟩
    .exact c v hv
theorem vF(h2:2<=D.length)(hD:∀ d∈D,IsT prog w s.heap d.1 d.2/\d.1≠[]){Q:SortKind->Shared->Prop}(h:Q (tuples' true) s):wpAny (model prog w) A (keyKind' (refs D).toArray) Q E s:=by
 obtain ⟨fs,a,b,c⟩:=qA hD;refine kat_kind (T := .type "int") a (by omega) (λv hv => ?_) (by decide) (by rw [show (Value.type "int" != Value.type "tuple")=true by decide];exact h)
 obtain ⟨i,t,rfl⟩:=c v hv;exact λA Q E s' _ q=>ZP q
theorem Bs{st':SortSt}(hD:∀ d∈D,IsT prog w s.heap d.1 d.2){κ:SortKind}(B:SB κ (pairsOf (refs D)) st')(hu:Up (ra (rkD D) (arrOf st')) 0 (pairsOf (refs D)).size):
  ∃ D':KyB,D'.Perm D/\dv D'/\(arrOf st').map (·.2)=(refs D').toArray:=by
 have hp:(arrOf st').toList.Perm (D.map λd=>((.ref d.2,.ref d.2):Keyed)):=by
  rw [<-iS];exact B.perm.toList
 obtain ⟨D',p,e⟩:=mZ hp D rfl;have el:∀ i (hi:i < D'.length),(arrOf st')[i]? = some (.ref D'[i].2,.ref D'[i].2):=λi hi=>by
  rw [<-Array.getElem?_toList,e,List.getElem?_map,List.getElem?_eq_getElem hi];rfl
 refine ⟨D',p,?_,?_⟩
 .refine List.pairwise_iff_getElem.mpr λi j hi hj hij => ?_
  have hz:(pairsOf (refs D)).size=D'.length:=by rw [pairsOf_size];unfold refs;rw [List.length_map,p.length_eq]
  have:=hu i j (Nat.zero_le _) (Nat.le_of_lt hij) (by omega)
  unfold ra at this;rw [el i hi,el j hj] at this;have this:rkD D (.ref D'[i].2,.ref D'[i].2)<=rkD D (.ref D'[j].2,.ref D'[j].2):=this;rw [rp hD (p.mem_iff.mp (List.getElem_mem hj)) (p.mem_iff.mp (List.getElem_mem hi)) (.ref D'[j].2) (.ref D'[i].2)];exact decide_eq_false (Nat.not_lt.mpr this)
 .apply Array.toList_inj.mp
  rw [Array.toList_map,e,List.map_map]
  rfl
theorem uI{a:Addr}{n:Nat}{P:PySem.Fin->Shared->Prop}(hu:A.units < cLine)(ho:s.heap.get? a=some (seqObj "list" (refs D).toArray n))(hD:∀ d∈D,IsT prog w s.heap d.1 d.2/\d.1≠[])(h64:D.length < 100000)
  (h:∀ D':KyB,D'.Perm D->dv D'->P (.done (.ret .none)) { s with heap:=sortedHeap s.heap a (refs D) (refs D').toArray }) :
  wpAny (model prog w) A (Builtin.«list.sort» ⟨[.ref a],[]⟩) P E s:=by
 rw [list_sort_plain];have ha:a < s.heap.objs.size:=Gx ho;have hlen:(refs D).length=D.length:=by unfold refs;rw [List.length_map]
 refine ZB (listItems_at ho rfl ?_);refine ZB (listUpdate_at ho rfl ?_);obtain ⟨e1,ho1⟩:∃ e1,(s.heap.update a (Obj.mapSeq λ_ => #[])).get? a=some (seqObj "list" #[] e1):=⟨_,get?_update_seq ho (λ_ => #[])⟩;refine ZB (seqEpoch_at ho1 rfl ?_);refine ZB (wpAny_newTuple ?_ (by rw [sizeLine_eq];show (refs D).toArray.toList.length<=_;rw [List.toList_toArray,hlen];omega))
 refine ZB (wpAny_newList ?_);refine wpAny_holding ?_;have ho6:(((s.heap.update a (Obj.mapSeq λ_ => #[])).push (seqObj "tuple" (refs D).toArray 0)).push (seqObj "list" #[] 0)).get? a=some (seqObj "list" #[] e1):=by
  rw [Heap.get?_push_ne _ _ _ (by rw [size_push',Heap.size_update];exact GD (Nat.lt_succ_of_lt ha)),Heap.get?_push_ne _ _ _ (by rw [Heap.size_update];exact GD ha)]
  exact ho1
 show wpAny (model prog w) A _ P E { s with heap:=((s.heap.update a (Obj.mapSeq λ_ => #[])).push (seqObj "tuple" (refs D).toArray 0)).push (seqObj "list" #[] 0) }
 have hD6:∀ d∈D,IsT prog w (((s.heap.update a (Obj.mapSeq λ_ => #[])).push (seqObj "tuple" (refs D).toArray 0)).push (seqObj "list" #[] 0)) d.1 d.2/\d.1≠[]:=λd hd=>by
  refine ⟨(hD d hd).1.keep λo e => ?_,(hD d hd).2⟩;have hne:d.2≠a:=λq=>by
   obtain ⟨o',its,c,z1,z2,z3,z4⟩:=(hD d hd).1;rw [q,ho] at z1;cases z1;have z2:Value.type "list" = Value.type "tuple" := z2;exact absurd z2 (by decide)
  exact Gw _ (Gw _ ((Heap.get?_update_other _ _ (Ne.symm hne)).trans e))
 generalize hs6:(((s.heap.update a (Obj.mapSeq λ_ => #[])).push (seqObj "tuple" (refs D).toArray 0)).push (seqObj "list" #[] 0))=h6 at ho6 hD6 ⊢;have fin:∀ D':KyB,D'.Perm D->dv D'->P (.done (.ret .none)) { s with heap:=h6.update a (Obj.mapSeq λ_=>(refs D').toArray) }:=λD' p q=>by
  have:=h D' p q;unfold sortedHeap at this;rw [hs6] at this;exact this
 dsimp only;have hsz:(refs D).toArray.size=D.length:=by rw [List.size_toArray,hlen]
 rw [hsz];by_cases h2:D.length < 2
 .rw [if_pos h2,if_pos h2]
  refine ZB (ZP ?_);rw [StateT.run_pure];refine ZB (ZP ?_);dsimp only;refine ZB (seqEpoch_at ho6 rfl ?_);refine ZB (listUpdate_at ho6 rfl ?_ (hsz2:=by rw [Array.size_map];show (pairsOf (refs D)).size<=_;rw [pairsOf_size,sizeLine_eq,hlen];omega))
  simp only [bne_self_eq_false,Bool.false_eq_true,if_false];have e:Array.map (λx=>x.2) ((refs D).toArray.zip (refs D).toArray)=(refs D).toArray:=by
   apply Array.toList_inj.mp;show (Array.map (λx:Keyed=>x.2) (pairsOf (refs D))).toList=_;rw [Array.toList_map,iS,List.map_map];rfl
  rw [show (arrOf (SortSt.mk' general' ((refs D).toArray.zip (refs D).toArray) #[] 7 none))=(refs D).toArray.zip (refs D).toArray from rfl,e];refine ZP (fin D (.refl _) ?_)
  match D,h2 with
  | [],_=>exact .nil
  | [d],_=>exact List.pairwise_singleton _ _
  | _ :: _ :: _,h2=>exact absurd h2 (by simp only [List.length_cons];omega)
 .rw [if_neg h2,if_neg h2]
  refine ZB (vF (s:={ s with heap:=h6 }) (by omega) hD6 ?_)
  have hmem:∀ x∈pairsOf (refs D),∃ d∈D,x=(.ref d.2,.ref d.2):=λx hx=>by
   have:x∈(pairsOf (refs D)).toList:=Array.mem_toList_iff.mpr hx;rw [iS] at this;obtain ⟨d,hd,e⟩:=List.mem_map.mp this;exact ⟨d,hd,e.symm⟩
  have hz:(pairsOf (refs D)).size=D.length:=by rw [pairsOf_size,hlen]
  refine ZB (wpAny_mono (wL (s:={ s with heap:=h6 }) (a₀ := pairsOf (refs D)) (st:=SortSt.mk' (tuples' true) ((refs D).toArray.zip (refs D).toArray) #[] 7 none) (Q:=λ_ st'=>SB (tuples' true) (pairsOf (refs D)) st'/\Up (ra (rkD D) (arrOf st')) 0 (pairsOf (refs D)).size)
   (De hu (λd hd=>(hD6 d hd).1) hmem) ⟨Array.Perm.refl _,rfl,rfl⟩ rfl λst' a b=>⟨a,b⟩) ?_ λ_ _ e=>e)
  rintro ⟨⟨⟩,st'⟩ s' ⟨rfl,hB,hu'⟩;obtain ⟨D',p,q,e⟩:=Bs (s:={ s with heap:=h6 }) (λd hd=>(hD6 d hd).1) hB hu'
  dsimp only;rw [e];refine ZB (seqEpoch_at ho6 rfl ?_);refine ZB (listUpdate_at ho6 rfl ?_ (hsz2:=by show (refs D').toArray.size<=_;unfold refs;rw [List.size_toArray,List.length_map,p.length_eq,sizeLine_eq];omega))
  rw [hB.failed];simp only [bne_self_eq_false,Bool.false_eq_true,if_false];exact ZP (fin D' p q)
end
section
variable{prog:Program}{w:World}{A:Around}{E:Value->Shared->Prop}{s:Shared}{D:KyB}
theorem wB{r:Addr}{Q:Bool->Shared->Prop}(hT:s.TypeIs (.ref r) "set")(h:Q false s):wpAny (model prog w) A (Builtin.List.listLengthHint (.ref r)) Q E s:=by
 unfold Builtin.List.listLengthHint;refine ZB (wpAny_specialOf hT PySem.F.slot_set_len.lookup ?_);generalize hid:("set.__len__" : String)=id0
 wp_delta
 rw [show splitId id0=some ("set","__len__") from by subst hid;decide +kernel]
 subst hid;refine ZB (wpAny_isInstance (T := "set") (b:=true) hT (by rw [isSubtype_type];kernel_rfl) ?_)
 refine wpAny_ite_split (λhab=>absurd hab (by decide)) (λ_ => ?_)
 refine wpAny_ite_split (λ_ => ?_) (λhab=>absurd (by decide +kernel) hab)
 refine ZB (wpAny_typeOf hT ?_);exact ZP h
theorem uB{it S:Addr}{slot i n ep:Nat}{Q:Value->Shared->Prop}(hit:SIt s.heap it S slot i n ep)(h:Q (.ref it) s):wpAny (model prog w) A (pyIter (.ref it)) Q E s:=by
 refine wpAny_pyIter_slot hit.typeIs nJ (wpAny_call_entry (b:=Builtin.«dict_keyiterator.__iter__») nJ hit.typeIs (entryFor_alias (id' := "dict_keyiterator.__iter__") (by kernel_rfl) rfl (by decide +kernel) (by kernel_rfl)) ?_ (by unfold argsOk;kernel_rfl))
 show wpAny _ _ (ret (.ref it)) _ _ s;exact ZP ⟨_,rfl,"set_iterator",_,hit.typeIs,dB.lookup,h⟩
theorem wg{o:Obj}{es:Array (Int×Value)}{ep:Nat}{t:SetTable}{Z:Z3}(hh:A.handled=none){S it:Addr}(hne:S≠it)(P:PtSet prog w o D es ep t Z):
  Walks prog w A it [it,S] [it] es.size (λi v => ∃ e,(wkO w S ep es)[i]? = some e/\v=e.2) (λi h => ∃ slot,SIt h it S slot i es.size ep/\SAt w t slot i/\h.get? S=some o) where
 sub:=λb hb=>by simp at hb;simp [hb]
 frame:=λi h h' ⟨slot,⟨io,e1,e2,e3⟩,a,b⟩ hk=>⟨slot,⟨io,hk it (by simp) io e1,e2,e3⟩,a,hk S (by simp) o b⟩
 item:=λi s Q E hi ⟨slot,a,b,c⟩ hQ=>by
  have hlen:(wkO w S ep es).length=es.size:=by rw [(jr w S ep es).length_eq,Array.length_toList]
  have he:(wkO w S ep es)[i]? = some (wkO w S ep es)[i]:=List.getElem?_eq_getElem (by omega)
  refine wz a c P b he λh' slot' a' b' sb => ?_;exact hQ _ h' s.toks ⟨_,he,rfl⟩ ⟨slot',a',b',(sb.2 S hne).trans c⟩ λb o hb e=>(sb.2 b λq=>hb (by simp [q])).trans e
 done:=λs Q E ⟨slot,a,b,c⟩ hQ=>by
  have hlen:(wkO w S ep es).length=es.size:=by rw [(jr w S ep es).length_eq,Array.length_toList]
  refine w8 hh a c P b (List.getElem?_eq_none (by omega)) λh' eb=>hQ h' s.toks λb o hb e=>eb b o (λq=>hb (by simp [q])) e
 self:=λi s Q E ⟨slot,a,_,_⟩ hQ=>uB a hQ
theorem yn{o:Obj}{es:Array (Int×Value)}{ep:Nat}{t:SetTable}{Z:Z3}(P:PtSet prog w o D es ep t Z)(S:Addr):
  KdlSrc prog w "set" S S es.size (λi v => ∃ e,(wkO w S ep es)[i]? = some e/\v=e.2) (λh=>h.get? S=some o) where
 type:=λ_ hm=>⟨o,hm,P.ex.1⟩
 there:=λ_ hm=>⟨Gx hm,Gx hm⟩
 keep:=λ_ _ hm hk=>hk S (.inl rfl) o hm
 notList:=by decide
 notTuple:=by decide
 hint:=λ_ _ _ _ hm hq=>wB ⟨o,hm,P.ex.1⟩ hq
 iter:=λ_ s hh hm=>⟨_,_,(λ_ _ hq=>wo hm P hq),wg hh (GD (Gx hm)) P,⟨0,⟨_,GF _ rfl,rfl,rfl⟩,λ_=>uJ P.tb,Gw _ hm⟩⟩
theorem sortedHeap_at{h:Heap}{a:Addr}{xs out:Array Value}{vs:List Value}{n:Nat}(ho:h.get? a=some (seqObj "list" xs n)):∃ c,(sortedHeap h a vs out).get? a=some (seqObj "list" out c):=by
 have ha:a < h.objs.size:=Gx ho;obtain ⟨e1,ho1⟩:∃ e1,(h.update a (Obj.mapSeq λ_ => #[])).get? a=some (seqObj "list" #[] e1):=⟨_,get?_update_seq ho (λ_ => #[])⟩;unfold sortedHeap;exact ⟨_,get?_update_seq (Gw _ (Gw _ ho1)) _⟩
theorem sortedHeap_old{h:Heap}{a b:Addr}{o:Obj}{out:Array Value}{vs:List Value}(hb:b≠a)(e:h.get? b=some o):(sortedHeap h a vs out).get? b=some o:=by
 unfold sortedHeap;refine (Heap.get?_update_other _ _ (Ne.symm hb)).trans ?_;exact Gw _ (Gw _ ((Heap.get?_update_other _ _ (Ne.symm hb)).trans e))
theorem mr{T:String}{r d:Addr}{n:Nat}{P:Nat->Value->Prop}{OK:Heap->Prop}{Q:Value->Shared->Prop}(K:KdlSrc prog w T r d n P OK)(hh:A.handled=none)(hu:A.units+2 < cLine)(hok:OK s.heap)(hn:n < 100000)
  (hD:∀ vs:List Value,vs.length=n->(∀ (j:Nat) (v:Value),vs[j]? = some v->P j v) -> ∃ D:KyB,vs=refs D/\(∀ d∈D,IsT prog w s.heap d.1 d.2/\d.1≠[]) /\
   ∀ (h1 h':Heap) (tk c:Nat) (D':KyB),D'.Perm D->dv D'->(∀ b o,s.heap.get? b=some o->h1.get? b=some o)->(∀ b o,h1.get? b=some o->h'.get? b=some o)->h'.get? h1.objs.size=some (seqObj "list" (refs D').toArray c)->Q (.ref h1.objs.size) { s with heap:=h',toks:=tk }) :
  wpAny (model prog w) A (call (.builtin "sorted") [.ref r]) Q E s:=by
 refine Calls.call_function_entry kind_sorted plain_sorted entry_sorted (args_sorted1 _) ?_;unfold Builtin.«sorted»;refine ZB (m:=checkCount "sorted" 1 1 _) (ZP ?_);refine ZB (kdu_collect (A:=A.in1) K hh hok (by rw [sizeLine_eq];omega) λh' tk acc hk hacc => ?_)
 have hl:acc.toList.length=n:=by rw [Array.length_toList];exact hacc.1
 obtain ⟨D,e,hT,fin⟩:=hD acc.toList hl (λj v e=>hacc.2 j v (by rw [<-Array.getElem?_toList];exact e))
 have hlD:D.length=n:=by rw [<-hl,e];unfold refs;rw [List.length_map]
 refine ZB (wpAny_newList ?_ (by rw [hl,sizeLine_eq];omega))
 rw [e];have hoL:(h'.push (seqObj "list" (refs D).toArray 0)).get? h'.objs.size=some (seqObj "list" (refs D).toArray 0):=GF _ rfl;have hT':∀ d∈D,IsT prog w (h'.push (seqObj "list" (refs D).toArray 0)) d.1 d.2/\d.1≠[]:=λd hd=>⟨(hT d hd).1.keep λo q=>Gw _ (hk _ _ q),(hT d hd).2⟩;show wpAny _ _ _ _ _ { s with heap:=h'.push (seqObj "list" (refs D).toArray 0),toks:=tk }
 refine ZB (wpAny_holding (wpAny_call_entry slot_list_sort ⟨_,hoL,rfl⟩ entry_list_sort (uI (s:={ s with heap:=h'.push (seqObj "list" (refs D).toArray 0),toks:=tk }) hu hoL hT' (by omega) λD' p q=>⟨_,rfl,?_⟩) (args_list_sort _)))
 obtain ⟨c,hc⟩:=sortedHeap_at (vs:=refs D) (out:=(refs D').toArray) hoL;refine ZP ⟨_,rfl,fin h' _ tk c D' p q hk (λb o eb => ?_) hc⟩;exact sortedHeap_old (GD (Gx eb)) (Gw _ eb)
end
open PySem
noncomputable section
set_option genInjectivity false in
inductive O where
 | lst (xs:List U) | dic (kvs:List (List Int×U)) | dif (kvs:List (List Int×U)) | dst (kvs:List (Str×U)) | ins (c:Nat) (fs:List (Nat×U))
noncomputable abbrev G:=List O
noncomputable abbrev Su:=List (Option U)
inductive Out(α:Type) where
 | ok (a:α) (g:G) | exc (c:Nat) (fs:List U) (g:G) | bad
noncomputable def Out.bind{α β:Type}(o:Out α)(k:α->G->Out β):Out β:=match o with
 | .ok a g=>k a g
 | .exc c fs g => .exc c fs g
 | .bad => .bad
noncomputable def Out.noex{α:Type}(o:Out α):Out α:=match o with
 | .ok a g => .ok a g
 | _ => .bad
noncomputable def Out.bindB{α β:Type}(o:Out α)(k:α->G->Out β):Out β:=match o with
 | .ok a g=>k a g
 | _ => .bad
set_option genInjectivity false in
inductive Fl where | nx (σ:Su) | rt (u:U) | bk (σ:Su) | ct (σ:Su)
set_option genInjectivity false in
inductive Iter where | lst (id:Nat) | dic (id:Nat) | enm (id:Nat) | seq (xs:List U) | rng (lo:Int) (n:Nat)
noncomputable def aA(x y:U):Option Bool:=match x with
 | .non=>match y with
  | .non=>some true
  | .bl _=>some false
  | .int _=>some false
  | .str _=>some false
  | _=>none
 | .bl a=>match y with
  | .non=>some false
  | .bl b=>some (a == b)
  | .int b=>some ((if a then 1 else 0) == b)
  | .str _=>some false
  | _=>none
 | .int a=>match y with
  | .non=>some false
  | .bl b=>some (a == (if b then 1 else 0))
  | .int b=>some (a == b)
  | .str _=>some false
  | _=>none
 | .str a=>match y with
  | .non=>some false
  | .bl _=>some false
  | .int _=>some false
  | .str b=>some (a == b)
  | _=>none
 | _=>none
noncomputable def aC:List U->List U->Option Bool
 | [],[]=>some true
 | x :: xs,y :: ys=>match aA x y with
  | none=>none
  | some b=>match aC xs ys with
   | none=>none
   | some c=>some (b && c)
 | _,_=>none
noncomputable def ueq:U->U->Option Bool
 | .tup xs,.tup ys=>aC xs ys
 | x,y=>aA x y
noncomputable def ee:U->U->Bool
 | .int _,.int _=>true
 | .bl _,.bl _=>true
 | .str _,.str _=>true
 | .non,.non=>true
 | _,_=>false
noncomputable def dm:Int:=18446744073709551616
noncomputable def az:Int:=115792089237316195423570985008687907853269984665640564039457584007913129639936
noncomputable def opZ(op:Op)(i j:Int):Option U:=match op with
 | .add=>some (.int (i+j))
 | .sub=>some (.int (i - j))
 | .mul=>if (decide (-dm < i) && decide (i < dm)) || (decide (-dm < j) && decide (j < dm)) || (decide (-az < i) && decide (i < az) && decide (-az < j) && decide (j < az)) then some (.int (i*j)) else none
 | .fdiv=>if 0 < j then (if j < az then some (.int (i / j)) else none)
   else if j=0 then none else if -az < j then some (.int (i.fdiv j)) else none
 | .mod=>if 0 < j then some (.int (i % j)) else if j=0 then none else some (.int (i.fmod j))
 | .pow=>if 0<=j/\j<=1000/\i.natAbs < 1000000 then some (.int (i ^ j.toNat)) else none
noncomputable def op2(op:Op)(x y:U):Option U:=match x with
 | .int i=>match y with
  | .int j=>opZ op i j
  | _=>none
 | _=>none
noncomputable def tR:Op->U->U->Option U
 | .add,.int a,.int b=>some (.int (a+b))
 | .sub,.int a,.int b=>some (.int (a - b))
 | _,_,_=>none
noncomputable def uin(x:U):List U->Option Bool
 | []=>some false
 | y :: ys=>match ueq y x with
  | none=>none
  | some b=>match uin x ys with
   | none=>none
   | some c=>some (b || c)
noncomputable def items(u:U)(g:G):Option (List U):=match u with
 | .tup xs=>some xs
 | .fro xs=>some xs
 | .xn _ xs=>some xs
 | .ref n=>match g[n]? with
  | some (.lst xs)=>some xs
  | _=>none
 | _=>none
noncomputable def bI:U->Bool
 | .non=>true
 | _=>false
noncomputable def intsOf:List U->Option (List Int)
 | []=>some []
 | .int i :: r=>(intsOf r).map (i :: ·)
 | _ :: _=>none
noncomputable def keyOf(u:U):Option (List Int):=match u with
 | .tup us=>intsOf us
 | _=>none
noncomputable def ba(kvs:List (List Int×U))(k:List Int):Option U:=(kvs.find? λkv=>decide (kv.1=k)).map (·.2)
noncomputable def dput(kvs:List (List Int×U))(k:List Int)(v:U):List (List Int×U) :=
 if (kvs.any λkv=>decide (kv.1=k))=true then kvs.map (λkv=>if kv.1=k then (kv.1,v) else kv) else kvs++[(k,v)]
noncomputable def fE(kvs:List (List Int×U))(x:U):Option (List (List Int×U)):=match x with
 | .tup [k,u]=>(keyOf k).map λks=>dput kvs ks u
 | _=>none
noncomputable def dfold:List U->List (List Int×U)->Option (List (List Int×U))
 | [],kvs=>some kvs
 | x :: r,kvs=>(fE kvs x).bind λk=>dfold r k
noncomputable def bR(kvs:List (Str×U))(k:Str):Option U:=(kvs.find? λkv=>decide (kv.1=k)).map (·.2)
noncomputable def kL(kvs:List (Str×U))(k:Str)(v:U):List (Str×U) :=
 if (kvs.any λkv=>decide (kv.1=k))=true then kvs.map (λkv=>if kv.1=k then (kv.1,v) else kv) else kvs++[(k,v)]
noncomputable def asS(y:U)(g:G):Option (List (Str×U)):=match y with
 | .ref n=>match g[n]? with
  | some (.dst kvs)=>some kvs
  | _=>none
 | _=>none
noncomputable def asD(y:U)(g:G):Option (List (List Int×U)):=match y with
 | .ref n=>match g[n]? with
  | some (.dic kvs)=>some kvs
  | some (.dif kvs)=>some kvs
  | _=>none
 | _=>none
noncomputable def aU(x y:U)(g:G):Option (Option U):=match asD y g with
 | some kvs=>(keyOf x).map (ba kvs)
 | none=>none
noncomputable def bL(x y:U)(g:G):Option (List U×List U):=match x with
 | .ref n=>match y with
  | .ref m=>match g[n]? with
   | some (.lst xs)=>match g[m]? with
    | some (.lst ys)=>some (xs,ys)
    | _=>none
   | _=>none
  | _=>none
 | _=>none
noncomputable def qs(q:U->U->Option Bool):List U->List U->Option Bool
 | [],[]=>some true
 | x :: xs,y :: ys=>match q x y with
  | none=>none
  | some b=>match qs q xs ys with
   | none=>none
   | some c=>some (b && c)
 | _,_=>none
noncomputable def ll:U->U->Option Bool
 | .tup xs,.tup ys=>qs ueq xs ys
 | x,y=>aA x y
noncomputable def cmp2(op:Cp)(x y:U)(g:G):Option Bool:=match op with
 | .eq=>match bL x y g with
  | some p=>qs ll p.1 p.2
  | none=>ueq x y
 | .ne=>if ee x y then (aA x y).map (!·) else none
 | .lt=>match x,y with | .int i,.int j=>some (decide (i < j)) | _,_=>none
 | .le=>match x,y with | .int i,.int j=>some (decide (i<=j)) | _,_=>none
 | .gt=>match x,y with | .int i,.int j=>some (decide (j < i)) | _,_=>none
 | .ge=>match x,y with | .int i,.int j=>some (decide (j<=i)) | _,_=>none
 | .isN=>if bI y then some (bI x) else none
 | .notN=>if bI y then some (!bI x) else none
 | .inn=>match items y g with | some ys=>uin x ys | none=>(aU x y g).map Option.isSome
 | .nin=>match items y g with | some ys=>(uin x ys).map (!·) | none=>(aU x y g).map λo => !o.isSome
noncomputable def tru(u:U)(g:G):Option Bool:=match u with
 | .non=>some false
 | .bl b=>some b
 | .int i=>some (i != 0)
 | .tup xs=>some (!xs.isEmpty)
 | .fro xs=>some (!xs.isEmpty)
 | .ref n=>match g[n]? with
  | some (.lst xs)=>some (!xs.isEmpty)
  | _=>none
 | _=>none
noncomputable def uix(xs:List U)(i:Int):Option U:=L2.atI xs i
noncomputable def lift{α:Type}(o:Option α)(g:G):Out α:=match o with
 | some a => .ok a g
 | none => .bad
noncomputable def alloc(o:O)(g:G):Out U := .ok (.ref g.length) (g++[o])
noncomputable def ab:Nat:=16777000
noncomputable def bJ(op:Op)(x y:U)(g:G):Out U:=match bL x y g with
 | some p=>match op with
  | .add=>if p.1.length+p.2.length<=ab then alloc (.lst (p.1++p.2)) g else .bad
  | _ => .bad
 | none=>lift (op2 op x y) g
noncomputable def j8(x:U)(g:G):Option (Nat×List (Nat×U)):=match x with
 | .ref n=>match g[n]? with
  | some (.ins c fs)=>some (c,fs)
  | _=>none
 | _=>none
noncomputable def kN(j:Nat)(u:U):List (Nat×U)->List (Nat×U)
 | []=>[(j,u)]
 | (i,x) :: r=>if i=j then (i,u) :: r else (i,x) :: kN j u r
noncomputable def rm(j:Nat)(cs:List Nat)(p:Nat×List (Nat×U)):Option U:=if cs.contains p.1 then p.2.lookup j else none
noncomputable def qx(x:U)(j:Nat)(cs:List Nat)(u:U)(g:G):Option G:=match x with
 | .ref n=>match g[n]? with
  | some (.ins c fs)=>if cs.contains c/\fs.length < 1000 then some (g.set n (.ins c (kN j u fs))) else none
  | _=>none
 | _=>none
noncomputable def qk(j:Nat)(tb:List (Nat×Nat×List (Nat ⊕ U)))(p:Nat×List (Nat×U)):Option (Nat×List (Nat ⊕ U)):=match p.2.lookup j with
 | none=>tb.lookup p.1
 | some _=>none
noncomputable def rW(t:Ty):Option Bool:=match t with | .tlist=>some true | .own _=>none | _=>some false
noncomputable def sQ(t:Ty)(u:U)(g:G):Option Bool:=match u with
 | .non=>match t with | .own _=>none | _=>some false
 | .bl _=>match t with | .tint=>some true | .tbool=>some true | .own _=>none | _=>some false
 | .int _=>match t with | .tint=>some true | .own _=>none | _=>some false
 | .str _=>match t with | .tstr=>some true | .own _=>none | _=>some false
 | .tup _=>match t with | .ttuple=>some true | .own _=>none | _=>some false
 | .ref n=>match g[n]? with
  | some (.lst _)=>rW t
  | _=>none
 | _=>none
noncomputable def bK(xs:List U)(lo hi:Option Int):List U:=(xs.drop (HT.sIx xs.length 0 lo)).take (HT.sIx xs.length xs.length hi - HT.sIx xs.length 0 lo)
noncomputable def best(m:Bool)(a:Int)(r:List Int):Int:=r.foldl (λx y=>if m then (if y < x then y else x) else (if y > x then y else x)) a
noncomputable def ke(us:List U)(g:G):Out U:=match us with
 | [u]=>match items u g with
  | some xs => .ok (.int xs.length) g
  | none => .bad
 | _ => .bad
noncomputable def sh(us:List U)(g:G):Out U:=match us with
 | [u]=>match u with
  | .int i => .ok (.int (if i < 0 then -i else i)) g
  | _ => .bad
 | _ => .bad
noncomputable def tupI(k:List Int):U := .tup (k.map .int)
noncomputable def dX(us:List U)(g:G):Out U:=match us with
 | [u]=>match items u g with
  | some xs=>alloc (.lst xs) g
  | none=>match asD u g with
   | some kvs=>alloc (.lst (kvs.map λkv=>tupI kv.1)) g
   | none => .bad
 | _ => .bad
noncomputable def dD(us:List U)(g:G):Option (List Int):=match us with
 | [.ref n]=>match g[n]? with
  | some (.lst xs)=>intsOf xs
  | _=>none
 | _=>none
noncomputable def tK(m:Bool)(us:List U)(g:G):Out U:=match intsOf us with
 | some ns=>match ns with
  | [a,b] => .ok (.int (best m a [b])) g
  | [a,b,c] => .ok (.int (best m a [b,c])) g
  | _ => .bad
 | none=>match dD us g with
  | some ns=>match ns with
   | a :: r => .ok (.int (best m a r)) g
   | [] => .bad
  | none => .bad
noncomputable def Ef(us:List U)(g:G):Out U:=match dD us g with
 | some ns => .ok (.int ns.sum) g
 | none => .bad
noncomputable def Dw(us:List U)(g:G):Out U:=match us with
 | [u]=>match u with
  | .tup xs => .ok (.tup xs) g
  | .xn c xs => .ok (.xn c xs) g
  | .ref n=>match g[n]? with
   | some (.lst xs) => .ok (.tup xs) g
   | _ => .bad
  | _ => .bad
 | _ => .bad
noncomputable def rT(g:G):List U->Option (List U)
 | []=>some []
 | .ref n :: r=>match g[n]? with
  | some (.lst xs)=>(rT g r).map (xs ++ ·)
  | _=>none
 | _ :: _=>none
noncomputable def E8(us:List U)(g:G):Out U:=match us with
 | [.ref n,.ref m]=>match g[n]? with
  | some (.lst (x :: xs))=>match g[m]? with
   | some (.lst [])=>match rT g (x :: xs) with
    | some zs=>if zs.length<=ab then alloc (.lst zs) g else .bad
    | none => .bad
   | _ => .bad
  | _ => .bad
 | _ => .bad
noncomputable def cL:List U->Option (List (List Int))
 | []=>some []
 | u :: r=>match keyOf u with
  | none=>none
  | some k=>match cL r with
   | none=>none
   | some ks=>some (k :: ks)
noncomputable def be(a:List Int):List (List Int)->List (List Int)
 | []=>[a]
 | b :: r=>if a=b then b :: r else if ak a b=true then a :: b :: r else b :: be a r
noncomputable def sU:List (List Int)->List (List Int)
 | []=>[]
 | a :: r=>be a (sU r)
noncomputable def hkL(k:List Int):Int:=reduceHash (Builtin.Tuple.tupleHashOf (k.map hashInt))
noncomputable def okS(ks:List (List Int)):Prop:=ks.length<=300/\(∀ k∈ks,k≠[]) /\ ∀ a∈ks,∀ b∈ks,hkL a=hkL b->a=b
noncomputable def fg(us:List U)(g:G):Out U:=match us with
 | [.ref n]=>match g[n]? with
  | some (.lst xs)=>match cL xs with
   | some ks=>open Classical in if okS ks then alloc (.lst ((sU ks).map tupI)) g else .bad
   | none => .bad
  | _ => .bad
 | _ => .bad
noncomputable def jX(us:List U)(g:G):Out U:=match us with
 | [u]=>match asD u g with
  | some kvs=>open Classical in if kvs.length < 100000/\(kvs.map (·.1)).Nodup /\ ∀ k∈kvs.map (·.1),k≠[] then alloc (.lst ((sU (kvs.map (·.1))).map tupI)) g else .bad
  | none => .bad
 | _ => .bad
noncomputable def iA(us:List U)(g:G):Out U:=match dD us g with
 | some ns => .bad
 | none=>jX us g
noncomputable def Fh(us:List U)(g:G):Out U:=match us with
 | [u]=>match asD u g with
  | some kvs=>open Classical in if kvs≠[] /\ ∀ a∈kvs.map (·.1),∀ b∈kvs.map (·.1),hkL a=hkL b->a=b then alloc (.dic kvs) g else .bad
  | none => .bad
 | _ => .bad
noncomputable def bi1(b:Bi)(us:List U)(g:G):Out U:=match b with
 | .len=>ke us g
 | .abs=>sh us g
 | .list=>dX us g
 | .mn=>tK true us g
 | .mx=>tK false us g
 | .srt=>iA us g
 | .sum=>Ef us g
 | .tupl=>Dw us g
 | .cat=>E8 us g
 | .sset=>fg us g
 | .dct=>Fh us g
noncomputable def asL(x:U)(g:G):Option Nat:=match x with
 | .ref n=>match g[n]? with
  | some (.lst _)=>some n
  | _=>none
 | _=>none
noncomputable def b6(n:Nat)(y:U)(g:G):Out U:=match g[n]? with
 | some (.lst xs)=>if xs.length < ab then .ok .non (g.set n (.lst (xs++[y]))) else .bad
 | _ => .bad
noncomputable def cG(n:Nat)(y:U)(g:G):Out U:=match asL y g with
 | some m=>match g[n]?,g[m]? with
  | some (.lst xs),some (.lst ys)=>if xs.length+ys.length < ab then .ok .non (g.set n (.lst (xs++ys))) else .bad
  | _,_ => .bad
 | none => .bad
noncomputable def rU(n:Nat)(g:G):Out U:=match g[n]? with
 | some (.lst xs) => .ok .non (g.set n (.lst xs.reverse))
 | _ => .bad
noncomputable def cM(n:Nat)(g:G):Out U:=match g[n]? with
 | some (.lst xs)=>match xs[xs.length - 1]? with
  | some y => .ok y (g.set n (.lst xs.dropLast))
  | none => .bad
 | _ => .bad
noncomputable def By(n:Nat)(y:U)(g:G):Out U:=match y with
 | .int i=>match g[n]? with
  | some (.lst xs)=>if 0<=i/\i < 9223372036854775808 then match xs[i.toNat]? with
   | some u => .ok u (g.set n (.lst (xs.eraseIdx i.toNat)))
   | none => .bad
   else .bad
  | _ => .bad
 | _ => .bad
noncomputable def evs(f:E->Su->G->Out U):List E->Su->G->Out (List U)
 | [],_,g => .ok [] g
 | e :: es,σ,g=>(f e σ g).bind λu g=>(evs f es σ g).bind λus g => .ok (u :: us) g
noncomputable def evo(f:E->Su->G->Out U):Option E->Su->G->Out (Option Int)
 | none,_,g => .ok none g
 | some e,σ,g=>(f e σ g).bind λu g=>match u with
  | .int i => .ok (some i) g
  | _ => .bad
noncomputable def next(it:Iter)(i:Nat)(g:G):Option (Option U):=match it with
 | .lst id=>match g[id]? with
  | some (.lst xs)=>some xs[i]?
  | _=>none
 | .dic id=>match g[id]? with
  | some (.dif kvs)=>some ((kvs[i]?).map λkv => .tup (kv.1.map .int))
  | _=>none
 | .enm id=>match g[id]? with
  | some (.lst xs)=>some ((xs[i]?).map λu => .tup [.int i,u])
  | _=>none
 | .seq xs=>some xs[i]?
 | .rng lo n=>some (if i < n then some (.int (lo+i)) else none)
noncomputable def bindL:List Nat->List U->Su->Option Su
 | [],[],σ=>some σ
 | i :: is,u :: us,σ=>if i < σ.length then bindL is us (σ.set i (some u)) else none
 | _,_,_=>none
noncomputable def a8(t:Tg)(σ:Su):Bool:=match t with
 | .nm i=>match σ[i]? with | some none=>true | _=>false
 | .tp is=>is.all λi=>match σ[i]? with | some none=>true | _=>false
noncomputable def ai(t:Tg)(u:U)(σ:Su):Option Su:=match t with
 | .nm i=>if i < σ.length then some (σ.set i (some u)) else none
 | .tp is=>match u with
  | .tup us=>bindL is us σ
  | _=>none
noncomputable def unl(t:Tg)(u:U)(g:G):U:=match t with
 | .nm _=>u
 | .tp _=>match u with
  | .ref n=>match g[n]? with
   | some (.lst xs) => .tup xs
   | _=>u
  | _=>u
noncomputable def pick(us:List U)(p:Nat ⊕ U):U:=match p with
 | .inl i=>us[i]?.getD .non
 | .inr u=>u
noncomputable def perm(us:List U)(pm:List (Nat ⊕ U)):List U:=pm.map (pick us)
set_option genInjectivity false in
structure L where
 ev:E->Su->G->Out U
 ts:E->Su->G->Out Bool
 ex:List S->Su->G->Out Fl
 wh:E->List S->Su->G->Out Fl
 fr:Tg->Iter->Nat->List S->Su->G->Out Fl
 cm:Iter->Nat->Tg->List E->List (Tg×E×List E)->E->List U->Su->G->Out (List U)
noncomputable def itF(r:L)(e:E)(σ:Su)(g:G):Out Iter:=match e with
 | .rng1 a=>(r.ev a σ g).bind λu g=>match u with
  | .int j=>if -1000000 < j/\j < 1000000 then .ok (.rng 0 j.toNat) g else .bad
  | _ => .bad
 | .rng2 a b=>(r.ev a σ g).bind λu g=>(r.ev b σ g).bind λw g=>match u,w with
  | .int i,.int j=>if -1000000 < i/\i < 1000000 /\ -1000000 < j/\j < 1000000 then .ok (.rng i (j - i).toNat) g else .bad
  | _,_ => .bad
 | .enm a=>(r.ev a σ g).bind λu g=>match asL u g with
  | some n => .ok (.enm n) g
  | none => .bad
 | e=>(r.ev e σ g).bind λu g=>match u with
  | .tup xs => .ok (.seq xs) g
  | .xn _ xs => .ok (.seq xs) g
  | .ref n=>match g[n]? with
   | some (.lst _) => .ok (.lst n) g
   | some (.dic kvs) => .ok (.dic n) (g.set n (.dif kvs))
   | some (.dif _) => .ok (.dic n) g
   | _ => .bad
  | _ => .bad
noncomputable def evF(C:Nat->List U->G->Out U)(r:L)(e:E)(σ:Su)(g:G):Out U:=match e with
 | .var i=>match σ[i]? with
  | some (some u) => .ok u g
  | _ => .bad
 | .cst u => .ok u g
 | .bin op a b=>(r.ev a σ g).bind λx g=>(r.ev b σ g).bind λy g=>bJ op x y g
 | .cmp op a b=>(r.ev a σ g).bind λx g=>(r.ev b σ g).bind λy g=>match cmp2 op x y g with
  | some c => .ok (.bl c) g
  | none => .bad
 | .chain op op' a b c=>(r.ev a σ g).bind λx g=>(r.ev b σ g).bind λy g=>match cmp2 op x y g with
  | some true=>(r.ev c σ g).bind λz g=>match cmp2 op' y z g with
   | some c => .ok (.bl c) g
   | none => .bad
  | some false => .ok (.bl false) g
  | none => .bad
 | .and a b=>(r.ev a σ g).bind λx g=>match x with
  | .bl true=>r.ev b σ g
  | .bl false => .ok (.bl false) g
  | _ => .bad
 | .or a b=>(r.ev a σ g).bind λx g=>match x with
  | .bl true => .ok (.bl true) g
  | .bl false=>r.ev b σ g
  | _ => .bad
 | .not a=>(r.ev a σ g).bind λx g=>match tru x g with
  | some c => .ok (.bl (!c)) g
  | none => .bad
 | .neg a=>(r.ev a σ g).bind λx g=>match x with
  | .int i => .ok (.int (-i)) g
  | _ => .bad
 | .ite c a b=>(r.ts c σ g).bind λk g=>if k then r.ev a σ g else r.ev b σ g
 | .tup es=>(evs r.ev es σ g).bind λus g=>if us.length<=ab then .ok (.tup us) g else .bad
 | .lst es=>(evs r.ev es σ g).bind λus g=>if us.length<=ab then alloc (.lst us) g else .bad
 | .idx a b=>(r.ev a σ g).bind λx g=>(r.ev b σ g).bind λy g=>match y with
  | .int i=>match items x g with
   | some xs=>lift (uix xs i) g
   | none => .bad
  | .tup _=>lift ((aU y x g).bind id) g
  | .str k=>lift ((asS x g).bind λkvs=>bR kvs k) g
  | _ => .bad
 | .slc a lo hi=>(r.ev a σ g).bind λx g=>(evo r.ev lo σ g).bind λl g=>(evo r.ev hi σ g).bind λh g=>match x with
  | .tup xs => .bad
  | .fro xs=>alloc (.lst (bK xs l h)) g
  | .ref n=>match g[n]? with
   | some (.lst xs)=>alloc (.lst (bK xs l h)) g
   | _ => .bad
  | _ => .bad
 | .rev a=>(r.ev a σ g).bind λx g=>match x with
  | .ref n=>match g[n]? with
   | some (.lst xs)=>alloc (.lst xs.reverse) g
   | _ => .bad
  | _ => .bad
 | .call f es=>(evs r.ev es σ g).bind λus g=>C f us g
 | .callx f es=>(evs r.ev es σ g).noex.bind λus g=>C f us g
 | .callk f es ks pm=>(evs r.ev es σ g).noex.bind λus g=>(evs r.ev ks σ g).noex.bind λws g=>if us.length=es.length/\ws.length=ks.length then C f (perm (us++ws) pm) g else .bad
 | .fld a j cs=>(r.ev a σ g).bind λx g=>lift ((j8 x g).bind (rm j cs)) g
 | .make c f es ks pm=>(evs r.ev es σ g).bind λus g=>(evs r.ev ks σ g).bind λws g=>if us.length=es.length/\ws.length=ks.length then
   (C f (perm (.ref g.length :: us++ws) pm) (g++[.ins c []])).bind λu g'=>if bI u then .ok (.ref g.length) g' else .bad else .bad
 | .meth a j tb es ks=>(r.ev a σ g).bind λx g=>match (j8 x g).bind (qk j tb) with
  | some p=>(evs r.ev es σ g).bind λus g=>(evs r.ev ks σ g).bind λws g=>if us.length=es.length/\ws.length=ks.length then C p.1 (perm (x :: us++ws) p.2) g else .bad
  | none => .bad
 | .revm o=>(r.ev o σ g).bind λx g=>match asL x g with
  | some n=>rU n g
  | none => .bad
 | .bi b es=>(evs r.ev es σ g).bind λus g=>bi1 b us g
 | .isi a t=>(r.ev a σ g).bind λx g=>match sQ t x g with
  | some c => .ok (.bl c) g
  | none => .bad
 | .popi o v=>(r.ev o σ g).bind λx g=>match asL x g with
  | some n=>(r.ev v σ g).bind λy g=>By n y g
  | none => .bad
 | .app o v=>(r.ev o σ g).bind λx g=>match asL x g with
  | some n=>(r.ev v σ g).bind λy g=>b6 n y g
  | none => .bad
 | .ext o v=>(r.ev o σ g).bind λx g=>match asL x g with
  | some n=>(r.ev v σ g).bind λy g=>cG n y g
  | none => .bad
 | .pop o=>(r.ev o σ g).bind λx g=>match asL x g with
  | some n=>cM n g
  | none => .bad
 | .rng1 _ => .bad
 | .rng2 _ _ => .bad
 | .enm _ => .bad
 | .dnew=>alloc (.dic []) g
 | .comp own fr gs elt=>match gs with
  | [] => .bad
  | (t,it,cs) :: rest=>(itF r it σ g).bind λi g =>
    (r.cm i 0 t cs rest elt [] (List.replicate own none++fr.map λj=>(σ[j]?).getD none) g).bindB λus g =>
     if us.length<=ab then alloc (.lst us) g else .bad
 | .ddsp ks es=>(evs r.ev es σ g).bind λus g=>alloc (.dst (ks.zip us)) g
 | .dgt o k x=>(r.ev o σ g).bind λd g=>match asD d g with
  | some _=>(r.ev k σ g).bind λy g=>(r.ev x σ g).bind λz g=>match aU y d g with
   | some w => .ok (w.getD z) g
   | none => .bad
  | none => .bad
 | .pair k v=>(r.ev k σ g).bind λx g=>(r.ev v σ g).bind λy g=>match keyOf x with
  | some _ => .ok (.tup [x,y]) g
  | none => .bad
 | .dcmp own fr gs k v=>match gs with
  | [] => .bad
  | (t,it,cs) :: rest=>(itF r it σ g).bind λi g =>
    (r.cm i 0 t cs rest (.pair k v) [] (List.replicate own none++fr.map λj=>(σ[j]?).getD none) g).bindB λus g=>match dfold us [] with
     | some kvs=>alloc (.dic kvs) g
     | none => .bad
noncomputable def tsF(r:L)(e:E)(σ:Su)(g:G):Out Bool:=match e with
 | .and a b=>(r.ts a σ g).bind λc g=>if c then r.ts b σ g else .ok false g
 | .or a b=>(r.ts a σ g).bind λc g=>if c then .ok true g else r.ts b σ g
 | .not a=>(r.ts a σ g).bind λc g => .ok (!c) g
 | .ite c a b=>(r.ts c σ g).bind λk g=>if k then r.ts a σ g else r.ts b σ g
 | e=>(r.ev e σ g).bind λx g=>lift (tru x g) g
noncomputable def kz(n:Nat)(k:Int)(u:U)(σ:Su)(g:G):Out Fl:=match g[n]? with
 | some (.lst xs)=>match L2.ixN xs.length k with
  | some j => .ok (.nx σ) (g.set n (.lst (xs.set j u)))
  | none => .bad
 | _ => .bad
noncomputable def k9(n:Nat)(us:List U)(u:U)(σ:Su)(g:G):Out Fl:=match g[n]? with
 | some (.dic kvs)=>match intsOf us with
  | some k=>if kvs.length < ab then .ok (.nx σ) (g.set n (.dic (dput kvs k u))) else .bad
  | none => .bad
 | _ => .bad
noncomputable def tw(n:Nat)(k:Str)(u:U)(σ:Su)(g:G):Out Fl:=match g[n]? with
 | some (.dst kvs)=>if kvs.length < ab then .ok (.nx σ) (g.set n (.dst (kL kvs k u))) else .bad
 | _ => .bad
noncomputable def fJ(kvs:List (List Int×U))(k:List Int):List (List Int×U):=kvs.filter λx => !decide (x.1=k)
noncomputable def b7(x y:U)(σ:Su)(g:G):Out Fl:=match x with
 | .ref n=>match g[n]? with
  | some (.dic kvs)=>match keyOf y with
   | some k=>if k∈kvs.map (·.1) then .ok (.nx σ) (g.set n (.dic (fJ kvs k))) else .bad
   | none => .bad
  | _ => .bad
 | _ => .bad
noncomputable def subAt(x y u:U)(σ:Su)(g:G):Out Fl:=match x with
 | .ref n=>match y with
  | .int k=>kz n k u σ g
  | .tup us=>k9 n us u σ g
  | .str k=>tw n k u σ g
  | _ => .bad
 | _ => .bad
noncomputable def xvs(fs:List U):List (Option U)->Option (List U)
 | []=>some []
 | some u :: r=>(xvs fs r).map (u :: ·)
 | none :: r=>match fs with
  | [v]=>(xvs fs r).map (v :: ·)
  | _=>none
noncomputable def kX(o:Out U)(j c:Nat)(xs:List (Option U))(σ:Su):Out Fl:=match o with
 | .ok u g=>if j < σ.length then .ok (.nx (σ.set j (some u))) g else .bad
 | .exc c' fs g=>if c'=c/\j < σ.length/\xs.length<=ab/\fs.length=1 then match xvs fs xs with
  | some us => .ok (.nx ((List.replicate σ.length none).set j (some (.tup us)))) g
  | none => .bad
  else .bad
 | .bad => .bad
noncomputable def s1F(r:L)(s:S)(σ:Su)(g:G):Out Fl:=match s with
 | .ret e=>(r.ev e σ g).bind λu g => .ok (.rt u) g
 | .retN => .ok (.rt .non) g
 | .set t e=>(r.ev e σ g).bind λu g=>match ai t (unl t u g) σ with
   | some σ' => .ok (.nx σ') g
   | none => .bad
 | .par i j a b=>(r.ev a σ g).bind λu g=>(r.ev b σ g).bind λw g =>
    if i < σ.length/\j < σ.length then .ok (.nx ((σ.set i (some u)).set j (some w))) g else .bad
 | .del o i=>(r.ev o σ g).bind λx g=>(r.ev i σ g).bind λy g=>b7 x y σ g
 | .sub o i e=>(r.ev e σ g).bind λu g=>(r.ev o σ g).bind λx g=>(r.ev i σ g).bind λy g=>subAt x y u σ g
 | .aug i op e=>match σ[i]? with
   | some (some x)=>(r.ev e σ g).bind λy g=>match tR op x y with
    | some z => .ok (.nx (σ.set i (some z))) g
    | none => .bad
   | _ => .bad
 | .exp e=>(r.ev e σ g).bind λ_ g => .ok (.nx σ) g
 | .ife c a b=>(r.ts c σ g).bind λk g=>if k then r.ex a σ g else r.ex b σ g
 | .whl c b=>r.wh c b σ g
 | .for t it b=>(itF r it σ g).bind λi g=>r.fr t i 0 b σ g
 | .pass => .ok (.nx σ) g
 | .brk => .ok (.bk σ) g
 | .cont => .ok (.ct σ) g
 | .never => .bad
 | .fset a j cs e=>(r.ev e σ g).bind λu g=>(r.ev a σ g).bind λx g=>match qx x j cs u g with
  | some g' => .ok (.nx σ) g'
  | none => .bad
 | .nox b=>(r.ex b σ g).noex
 | .ifx c a b=>(r.ts c σ g).noex.bind λk g=>if k then r.ex a σ g else r.ex b σ g
 | .forx t it b=>(itF r it σ g).noex.bind λi g=>r.fr t i 0 b σ g
 | .raise c es=>(evs r.ev es σ g).noex.bind λus g=>if us.length<=ab then .exc c us g else .bad
 | .tryf j f es c xs=>kX (r.ev (.callx f es) σ g) j c xs σ
noncomputable def exF(r:L)(ss:List S)(σ:Su)(g:G):Out Fl:=match ss with
 | [] => .ok (.nx σ) g
 | s :: rest=>(s1F r s σ g).bind λf g=>match f with
  | .nx σ'=>r.ex rest σ' g
  | f => .ok f g
noncomputable def whF(r:L)(c:E)(b:List S)(σ:Su)(g:G):Out Fl :=
 (r.ts c σ g).bind λk g=>if k then (r.ex b σ g).bind λf g=>match f with
  | .nx σ'=>r.wh c b σ' g
  | .ct σ'=>r.wh c b σ' g
  | .bk σ' => .ok (.nx σ') g
  | .rt u => .ok (.rt u) g
 else .ok (.nx σ) g
noncomputable def frF(r:L)(t:Tg)(it:Iter)(i:Nat)(b:List S)(σ:Su)(g:G):Out Fl:=match next it i g with
 | none => .bad
 | some none => .ok (.nx σ) g
 | some (some u)=>match ai t u σ with
  | none => .bad
  | some σ1=>(r.ex b σ1 g).bind λf g=>match f with
   | .nx σ'=>r.fr t it (i+1) b σ' g
   | .ct σ'=>r.fr t it (i+1) b σ' g
   | .bk σ' => .ok (.nx σ') g
   | .rt u => .ok (.rt u) g
noncomputable def aI(f:E->Su->G->Out Bool):List E->Su->G->Out Bool
 | [],_,g => .ok true g
 | c :: cs,σ,g=>(f c σ g).bind λk g=>if k then aI f cs σ g else .ok false g
noncomputable def cmF(r:L)(it:Iter)(i:Nat)(t:Tg)(cs:List E)(rest:List (Tg×E×List E))(elt:E)(acc:List U)(σ:Su)(g:G):Out (List U):=match next it i g with
 | none => .bad
 | some none => .ok acc g
 | some (some u)=>if a8 t σ then match ai t u σ with
  | none => .bad
  | some σ1=>(aI r.ts cs σ1 g).bindB λk g=>if k then
    match rest with
    | []=>(r.ev elt σ1 g).bindB λv g=>if acc.length < ab then r.cm it (i+1) t cs rest elt (acc++[v]) σ g else .bad
    | (t2,it2,cs2) :: rest2=>(itF r it2 σ1 g).bindB λj g=>(r.cm j 0 t2 cs2 rest2 elt acc σ1 g).bindB λacc2 g=>r.cm it (i+1) t cs rest elt acc2 σ g
   else r.cm it (i+1) t cs rest elt acc σ g
  else .bad
noncomputable def lev(C:Nat->List U->G->Out U):Nat->L
 | 0=>⟨λ_ _ _ => .bad,λ_ _ _ => .bad,λ_ _ _ => .bad,λ_ _ _ _ => .bad,λ_ _ _ _ _ _ => .bad,λ_ _ _ _ _ _ _ _ _ => .bad⟩
 | n+1=>let r:=lev C n
  ⟨evF C r,tsF r,exF r,whF r,frF r,cmF r⟩
noncomputable def dz(fu:Nat)(C:Nat->List U->G->Out U)(F:Fn)(us:List U)(g:G):Out U :=
 if us.length=F.np then
  ((lev C fu).ex F.body (us.map some++List.replicate (F.ns - us.length) none) g).bind λf g=>match f with
   | .rt u => .ok u g
   | .nx _ => .ok .non g
   | _ => .bad
 else .bad
noncomputable def aa(fns:List Fn)(fu:Nat):Nat->Nat->List U->G->Out U
 | 0=>λ_ _ _ => .bad
 | d+1=>λf us g=>match fns[f]? with
  | some F=>dz fu (aa fns fu d) F us g
  | none => .bad
end
end
end PI
namespace L2
open PySem PySem.Spec PyProof.Rows
section
variable{prog:Program}{w:World}{A:Around}{E:Value->Shared->Prop}{s:Shared}
theorem qj{d:Addr}{o:Obj}{es:Array DictEntry}{ep:Nat}{Q:Value->Shared->Prop}(hs:(d == sysModules)=false)(ho:s.heap.get? d=some o)(hx:o.ExactDict)(hd:o.data=.dict es ep)
  (h:Q (.ref s.heap.objs.size) { s with heap:=s.heap.push { cls := .type "dict_keyiterator",data := .fields #[.ref d,.int 0 0,.int es.size 0,.int ep 0] } }):wpAny (model prog w) A (pyIter (.ref d)) Q E s:=by
 have t:s.TypeIs (.ref d) "dict" := ⟨o,ho,hx.1⟩;refine wpAny_pyIter_slot t F.slot_dict_iter (wpAny_call_entry F.slot_dict_iter t F.entry_dict_iter ?_ (F.args_dict_iter_1 _));unfold Builtin.«dict.__iter__»;refine ZB ?_;unfold Builtin.Dict.dictSlotNone;refine ZB (wpAny_notOrdered_dict t ?_);show wpAny _ _ (pure (Value.ref d)) _ _ s;refine ZP ?_;show wpAny _ _ (Builtin.Dict.showsAll d >>= _) _ _ s;unfold Builtin.Dict.showsAll;rw [hs,if_neg Gz];refine ZB (ZP (ZB (wpAny_dictEntries ho hd (ZB (wpAny_dictEpoch ho hd ?_)))));exact ZB (wpAny_newObj_type (ZP ⟨_,rfl,"dict_keyiterator",_,⟨_,GF _ rfl,rfl⟩,F.slot_dict_keyiterator_next.lookup,by simpa [rawInt] using h⟩))
theorem pQ{it d:Addr}{od:Obj}{i ep:Nat}{es:Array DictEntry}{e:DictEntry}{Q:Option Value->Shared->Prop}(hit:s.heap.IsKeyIter it d i es.size ep)(hod:s.heap.get? d=some od)(hdd:od.data=.dict es ep)(hx:es[i]? = some e)
  (h:∀ h',h'.IsKeyIter it d (i+1) es.size ep->Heap.SameBut it s.heap h'->Q (some e.key) { s with heap:=h' }):wpAny (model prog w) A (pyNext (.ref it)) Q E s:=by
 obtain ⟨o,ho,hc,hd⟩:=id hit;obtain ⟨hlt,hel⟩:=Array.getElem?_eq_some_iff.mp hx;unfold pyNext;refine ZB (wpAny_attempt (wpAny_callSpecial?_slot (name:=Str.ofString "__next__") hit.typeIs F.slot_dict_keyiterator_next (wpAny_call_entry F.slot_dict_keyiterator_next hit.typeIs F.entry_dict_keyiterator_next ?_ (F.args_dict_keyiterator_next_1 _))));refine ZB (ZP ?_);refine ZB ?_;refine ZB ?_
 (first | refine ZB (wpAny_typeNameOfWhole_keyiter hit.typeIs (ZP ?_)) | refine ZB (wpAny_typeNameOf_keyiter hit.typeIs (ZP ?_)))
 refine ZB (wpAny_fieldsOf ho hd ?_);simp only [show Builtin.Dict_items.ownsTuple "dict_keyiterator" = false from by decide,Bool.false_eq_true,if_false]
 show wpAny _ _ (if (Value.ref d == Value.none)=true then _ else _) _ _ s;rw [if_neg (show ¬ ((Value.ref d == Value.none)=true) from Gz)]
 refine ZB (ZP (ZB (wpAny_dictEntries hod hdd ?_)));rw [if_neg (by simp)];refine ZB (ZP (ZB (wpAny_dictEpoch hod hdd ?_)));rw [if_neg (by simp)];refine ZP ?_
 simp only [show ¬ ((i:Int) < 0) from by omega,if_false,Int.toNat_natCast,hx];refine ZB ?_
 (first | refine ZB (wpAny_typeNameOfWhole_keyiter hit.typeIs (ZP ?_)) | refine ZB (wpAny_typeNameOf_keyiter hit.typeIs (ZP ?_)))
 refine ZB (wpAny_isOneOf_keyiter hit.typeIs ?_);show wpAny _ _ (setField (.ref it) 1 (rawInt ((i:Int)+1)) >>= _) _ _ s;refine ZB (wpAny_setField ho hd (by simp) ?_)
 have n:(s.heap.update it (Obj.mapFields (·.setIfInBounds 1 (rawInt ((i:Int)+1))))).IsKeyIter it d (i+1) es.size ep:=⟨_,Heap.get?_update_self _ ho (Obj.isFreed_of_fields (Obj.data_mapFields hd _)),(Obj.cls_mapFields ..).trans hc,by rw [Obj.data_mapFields hd];simp [rawInt]⟩
 refine ZB (wpAny_holding (ZB (wpAny_isOneOf_keyiter (s:={ s with heap:=s.heap.update it (Obj.mapFields (·.setIfInBounds 1 (rawInt ((i:Int)+1)))) }) n.typeIs ?_)));show wpAny _ _ (pure e.key) _ _ _
 exact ZP (ZP ⟨_,rfl,ZP (h _ n (Heap.SameBut.update ..))⟩)
theorem qg{it d:Addr}{od:Obj}{i ep:Nat}{es:Array DictEntry}{Q:Option Value->Shared->Prop}(hh:A.handled=none)(hit:s.heap.IsKeyIter it d i es.size ep)(hod:s.heap.get? d=some od)(hdd:od.data=.dict es ep)(hx:es[i]? = none)
  (h:∀ h',Heap.ExtBut it s.heap h'->Q none { s with heap:=h' }):wpAny (model prog w) A (pyNext (.ref it)) Q E s:=by
 obtain ⟨o,ho,hc,hd⟩:=id hit;unfold pyNext;refine ZB (wpAny_attempt (wpAny_callSpecial?_slot (name:=Str.ofString "__next__") hit.typeIs F.slot_dict_keyiterator_next (wpAny_call_entry F.slot_dict_keyiterator_next hit.typeIs F.entry_dict_keyiterator_next ?_ (F.args_dict_keyiterator_next_1 _))));refine ZB (ZP ?_);refine ZB ?_;refine ZB ?_
 (first | refine ZB (wpAny_typeNameOfWhole_keyiter hit.typeIs (ZP ?_)) | refine ZB (wpAny_typeNameOf_keyiter hit.typeIs (ZP ?_)))
 refine ZB (wpAny_fieldsOf ho hd ?_);simp only [show Builtin.Dict_items.ownsTuple "dict_keyiterator" = false from by decide,Bool.false_eq_true,if_false]
 show wpAny _ _ (if (Value.ref d == Value.none)=true then _ else _) _ _ s;rw [if_neg (show ¬ ((Value.ref d == Value.none)=true) from Gz)]
 refine ZB (ZP (ZB (wpAny_dictEntries hod hdd ?_)));rw [if_neg (by simp)];refine ZB (ZP (ZB (wpAny_dictEpoch hod hdd ?_)));rw [if_neg (by simp)];refine ZP ?_
 simp only [show ¬ ((i:Int) < 0) from by omega,if_false,Int.toNat_natCast,hx];refine ZB ?_
 (first | refine ZB (wpAny_typeNameOfWhole_keyiter hit.typeIs (ZP ?_)) | refine ZB (wpAny_typeNameOf_keyiter hit.typeIs (ZP ?_)))
 show wpAny _ _ (setField (.ref it) 0 .none >>= _) _ _ s;refine ZB (wpAny_setField ho hd (by simp) ?_);show wpAny _ _ (newExc (.type "StopIteration") [] >>= _) _ _ _
 refine ZB ?_;simp only [newExc,newTuple];refine ZB (wpAny_newObj_type ?_ (by size_fits))
 refine ZB (m:=firstArgMember _ _) (wpAny_of_eq (a:=Value.none) (by first | rfl | (simp only [firstArgMember];rfl)) (wpAny_newObj_type ?_ (by size_fits)));simp only [raiseNew]
 refine ZB (wpAny_handled ?_);rw [show A.in1.handled=none from hh];refine ZB (ZP (wpAny_throw ?_));exact ZB (wpAny_isInstance (T := "StopIteration") (b:=true) ⟨_,GF _ rfl,rfl⟩ isSubtype_stop (ZP (h _ (((Heap.SameBut.update ..).extBut.push _).push _))))
end
noncomputable def Itd(a:Addr)(o:Obj)(kvs:List (List Key×V)):It :=
 ⟨λi H=>H a=some (.frz o (.dT kvs))/\i < kvs.length,λi H x H'=>H'=H /\ ∃ b k v,x=.ref b/\kvs[i]? = some (k,v)/\H b=some (.tup (k.map kV)),λi H=>H a=some (.frz o (.dT kvs))/\kvs.length<=i⟩
theorem sT{P:Program}{w:World}{H:Hp}{h:Heap}{a:Addr}{kvs:List (List Key×V)}(z:ObjOk P w H h a (.dT kvs)):kvs.length<=sizeLine/\(a == sysModules)=false /\ ∃ o es ep,h.get? a=some o/\o.ExactDict/\o.data=.dict es ep/\es.size=kvs.length /\
  ∀ (i:Nat) (k:List Key) (v:V),kvs[i]? = some (k,v) -> ∃ (b:Addr) (en:DictEntry),es[i]? = some en/\en.key=.ref b/\H b=some (.tup (k.map kV)):=by
 obtain ⟨hl0,hs,xs,pr,o,es,ep,ho,hx,hd,hes,_⟩:=z;have hl:es.size=xs.length:=by rw [<-Array.length_toList,hes,List.length_map]
 refine ⟨hl0,hs,o,es,ep,ho,hx,hd,by rw [hl,Paired.length pr],λi k v hk => ?_⟩
 have key:∀ {kvs:List (List Key×V)} {xs:List (List Key×Addr×Value)},Paired (λ(p:List Key×V) (q:List Key×Addr×Value)=>p.1=q.1/\H q.2.1=some (.tup (p.1.map kV))/\RelV p.2 q.2.2) kvs xs -> ∀ (i:Nat) (k:List Key) (v:V),kvs[i]? = some (k,v) -> ∃ q:List Key×Addr×Value,xs[i]? = some q/\H q.2.1=some (.tup (k.map kV)):=by
  intro kvs xs pr
  induction pr with
  | nil=>intro i k v z;simp at z
  | cons h1 _ ih =>
   intro i k v z;cases i with
   | zero=>simp at z;subst z;exact ⟨_,by simp,h1.2.1⟩
   | succ j=>obtain ⟨q,z1,z2⟩:=ih j k v (by simpa using z);exact ⟨q,by simpa using z1,z2⟩
 obtain ⟨q,hq,hb⟩:=key pr i k v hk;refine ⟨q.2.1,entryOfKey (tupleKind (aZ P w)) q,?_,rfl,hb⟩;rw [<-Array.getElem?_toList,hes,List.getElem?_map,hq];rfl
theorem kg{P:Program}{w:World}{H:Hp}{h:Heap}{a:Addr}{o:Obj}{kvs:List (List Key×V)}(ok:HOk P w H h)(e:H a=some (.frz o (.dT kvs))):h.get? a=some o/\o.ExactDict/\(a == sysModules)=false /\ ∃ es ep,o.data=.dict es ep/\es.size=kvs.length /\
  ∀ (i:Nat) (k:List Key) (v:V),kvs[i]? = some (k,v) -> ∃ (b:Addr) (en:DictEntry),es[i]? = some en/\en.key=.ref b/\H b=some (.tup (k.map kV)):=by
 obtain ⟨ho,z⟩:=ok a _ e;obtain ⟨_,hs,o',es,ep,ho',r⟩:=sT z;rw [ho] at ho';cases ho';exact ⟨ho,r.1,hs,es,ep,r.2⟩
theorem uY{P:Program}{w:World}{K:GJ}{tg:Expr}(a it:Addr)(o:Obj)(kvs:List (List Key×V)):
  Turn P w K tg (Itd a o kvs) [it] it (λi h => ∃ es ep,o.data=.dict es ep/\h.IsKeyIter it a i es.size ep) where
 mem:=by simp
 obj:=λi h st b hb=>by
  have e:b=it:=by simpa using hb
  obtain ⟨_,_,_,q,e1,_,d⟩:=st;subst e;exact ⟨q,e1,λv z=>by rw [d] at z;cases z⟩
 keep:=λi h h' ⟨es,ep,hd,st⟩ k=>⟨es,ep,hd,st.at λo e=>k it (by simp) o e⟩
 item:=by
  intro X hP hw hK hc i pins s σ H E I hf ⟨es,ep,hd,st⟩ ⟨hfr,hlt⟩;subst hP hw hK;obtain ⟨ho,hx,_,es',ep',hd',hl,hk⟩:=kg I.hok hfr;rw [hd] at hd';cases hd';obtain ⟨⟨k,v⟩,hkv⟩:∃ p,kvs[i]? = some p:=⟨_,List.getElem?_eq_getElem hlt⟩;obtain ⟨b,en,hen,hke,hb⟩:=hk i k v hkv;obtain ⟨f0,f1,f2,f3,f4,f5⟩:=hf it (by simp)
  refine pQ st ho hd hen λh' st' sb => ?_;have I1:Inv X pins σ H { s with heap:=h' }:=I.turned (t':=s.toks) (λb o hb e=>(sb.2 b hb).trans e) f0 f1 f3 f4 f5
  obtain ⟨q,e,c,d⟩:=id st';refine ⟨en.key,rfl,ir (s:={ s with heap:=h' }) e c d (by decide) ⟨.ref b,H,I1,?_,⟨rfl,b,k,v,rfl,hkv,hb⟩,⟨es,ep,hd,st'⟩,λb hb=>(hf b hb).1⟩⟩
  rw [hke];rfl
 done:=by
  intro X hP hw hK hc i pins s σ H E I hf ⟨es,ep,hd,st⟩ ⟨hfr,hlt⟩;subst hP hw hK;obtain ⟨ho,hx,_,es',ep',hd',hl,hk⟩:=kg I.hok hfr;rw [hd] at hd';cases hd';obtain ⟨f0,f1,f2,f3,f4,f5⟩:=hf it (by simp)
  exact qg (I.ok.hd hc) st ho hd (Array.getElem?_eq_none (by omega)) λh' eb=>⟨rfl,I.turned (t':=s.toks) (λb o hb e=>eb b o hb e) f0 f1 f3 f4 f5⟩
 self:=λ_ _ _ _ _ ⟨_,_,_,st⟩ h=>wpAny_pyIter_keyiter st h
noncomputable def Gu:R2:=λx y H Q => ∃ a v,x=.ref a/\DGet H a y (some v)/\Q v H
theorem zV{X:Cx}{pins:List (Addr×Obj)}{σ:St}{H:Hp}{s:Shared}{a:Addr}{y:V}{o:Option V}(I:Inv X pins σ H s)(g:DGet H a y o):s.TypeIs (.ref a) "dict" := by
 rcases g with ⟨kvs,k,e,q⟩ | ⟨kvs,k,b,e,q⟩
 .exact let ⟨_,_,_,_,dd⟩:=fM I.hok e;dd.typeIs
 .exact let ⟨_,_,_,_,dd⟩:=fI I.hok e;dd.typeIs
theorem xT{X:Cx}(hu:X.A.units+1 < cLine):IxR X Gu:=by
 intro value slice pins s σ H x y v u Q I rx ry ⟨a,z,e,g,q⟩ hs;subst e;obtain rfl:v=Value.ref a:=rx;have hT:=zV I g;have fin:wpAny (model X.prog X.w) X.A (subscripted slice false (.ref a) u) (λr s3=>wpAny (model X.prog X.w) X.A (letTemporaryGo value (.ref a) r >>= λ_=>pure r) (EP X pins σ Q) X.xe s3) X.xe s:=by
  rw [hs];exact wpAny_operating (vc hu I g ry λw' s3 I3 rw'=>ZB (wpAny_letTemporaryGo (ZP ⟨z,H,I3,rw',q⟩)))
 unfold subscriptTail;refine ZB ?_;rw [getitemInPython_of_ne hT.not_modules];refine ZB (wpAny_specialOf hT PySem.F.slot_dict_getitem.lookup ?_)
 (first | exact ZP (ZB fin) | exact ZB (ZP (ZB fin)) | exact ZB fin)
theorem Inv.freeze{X:Cx}{pins:List (Addr×Obj)}{σ:St}{H:Hp}{s:Shared}{a:Addr}{kvs:List (List Key×V)}(I:Inv X pins σ H s)(e:H a=some (.dT kvs)):∃ o,Inv X pins σ (upd H a (.frz o (.dT kvs))) s:=by
 obtain ⟨z,hs,xs,pr,o,es,ep,ho,hx,hd,hes,nd⟩:=I.hok a _ e;refine ⟨o,I.write (x:=a) (e:=a) (h':=s.heap) (t':=s.toks) (by rw [e];trivial) (.inl rfl) (λ_ _ _ q=>q) ⟨o,ho⟩ ⟨ho,z,hs,xs,KT.keeps (H:=H) pr λc ys ec => ?_,o,es,ep,ho,hx,hd,hes,nd⟩⟩
 rw [ar (dj ec e (λz=>nomatch z))];exact ec
theorem rL{X:Cx}{pins:List (Addr×Obj)}{σ:St}{H:Hp}{s:Shared}{a:Addr}{o:Obj}{kvs:List (List Key×V)}{tg:Expr}{R:It->Hp->Prop}{E:Value->Shared->Prop}(I:Inv X pins σ H s)(e:H a=some (.frz o (.dT kvs)))(q:R (Itd a o kvs) H):
  wpAny (model X.prog X.w) X.A (pyIter (.ref a)) (PIE X pins σ tg R) E s:=by
 obtain ⟨ho,hx,hs,es,ep,hd,hl,hk⟩:=kg I.hok e;refine qj hs ho hx hd ⟨s.heap.objs.size,[s.heap.objs.size],_,_,H,rfl,I.kept (t':=s.toks) λb o e=>Gw _ e,uY a _ o kvs,⟨es,ep,hd,_,GF _ rfl,rfl,rfl⟩,λb hb => ?_,q⟩;have e:b=s.heap.objs.size:=by simpa using hb
 subst e;exact I.fpOk (GA _) (I.hok.fresh (GA _))
noncomputable def Ite(K:GJ)(a:Addr):It :=
 ⟨λi H => ∃ xs x,SqL K H a xs/\xs[i]? = some x,λi H x H' => ∃ p v,H p=none/\x=.ref p/\H'=upd H p (.tup [.int i,v]) /\ ∀ xs,SqL K H a xs->xs[i]? = some v,λi H => ∃ xs,SqL K H a xs/\xs.length<=i⟩
end L2
namespace PI
noncomputable section
open PySem PySem.Spec PyProof.Rows L2
noncomputable def SqF(K:GJ)(H:Hp)(a:Addr)(xs:List V):Prop :=
 (∃ o,H a=some (.frz o (.lst xs))) \/
  ∃ (o:Obj) (its:Array Value) (n:Nat),K.lookup a=some o/\o.cls=.type "list" /\ o.dict=none/\o.data=.seq its n/\its.size<=sizeLine/\Vals xs its.toList
theorem SqF.sq{K:GJ}{H:Hp}{a:Addr}{xs:List V}(h:SqF K H a xs):SqL K H a xs:=by
 rcases h with h | h
 .exact .inl (.inr h)
 .exact .inr h
noncomputable def SqU(_:GJ)(H:Hp)(a:Addr)(xs:List V):Prop:=H a=some (.tup xs)
theorem SqU.sq{K:GJ}{H:Hp}{a:Addr}{xs:List V}(h:SqU K H a xs):SqT K H a xs := .of h
noncomputable def SqC(K:GJ)(a:Addr)(xs:List V):Prop :=
 ∃ (o:Obj) (its:Array Value) (n:Nat),K.lookup a=some o/\o.cls=.type "tuple" /\ o.data=.seq its n/\its.size<=sizeLine/\Vals xs its.toList
theorem SqC.sq{K:GJ}{H:Hp}{a:Addr}{xs:List V}(h:SqC K a xs):SqT K H a xs := .inr h
mutual
noncomputable def RV(K:GJ)(ρ:List Addr)(H:Hp):U->V->Prop
 | .non,v=>v=.non
 | .bl b,v=>v=.bl b
 | .int i,v=>v=.int i
 | .str s,v=>v=.str s
 | .tup us,v => ∃ a vs,v=.ref a/\SqU K H a vs/\RVs K ρ H us vs
 | .fro us,v => ∃ a vs,v=.ref a/\SqF K H a vs/\RVs K ρ H us vs
 | .ref n,v => ∃ a,v=.ref a/\ρ[n]? = some a
 | .xn _ us,v => ∃ a vs,v=.ref a/\SqC K a vs/\RVs K ρ H us vs
noncomputable def RVs(K:GJ)(ρ:List Addr)(H:Hp):List U->List V->Prop
 | [],vs=>vs=[]
 | u :: us,vs => ∃ v r,vs=v :: r/\RV K ρ H u v/\RVs K ρ H us r
end
structure Stp(K:GJ)(ρ:List Addr)(H:Hp)(ρ':List Addr)(H':Hp):Prop where
 ext:∀ (n:Nat) (a:Addr),ρ[n]? = some a->ρ'[n]? = some a
 new:∀ (n:Nat) (a:Addr),ρ'[n]? = some a->ρ[n]? = some a\/H a=none
 oth:∀ a o,H a=some o->a ∉ ρ->H' a=some o
 live:∀ a,H a≠none->H' a≠none
 tup:∀ a xs,SqU K H a xs->SqU K H' a xs
 fro:∀ a xs,SqF K H a xs->SqF K H' a xs
 frz:∀ a o u,H a=some (.frz o u)->H' a=some (.frz o u)
section
variable{K:GJ}{ρ ρ' ρ'':List Addr}{H H' H'':Hp}{g:G}
theorem Stp.refl:Stp K ρ H ρ H:=⟨λ_ _ h=>h,λ_ _ h => .inl h,λ_ _ h _=>h,λ_ h=>h,λ_ _ h=>h,λ_ _ h=>h,λ_ _ _ h=>h⟩
theorem Stp.trans(a:Stp K ρ H ρ' H')(b:Stp K ρ' H' ρ'' H''):Stp K ρ H ρ'' H'' where
 ext:=λn x h=>b.ext n x (a.ext n x h)
 new:=λn x h=>by
  rcases b.new n x h with q | q
  .exact a.new n x q
  .refine .inr ?_
   cases e:H x with
   | none=>rfl
   | some o=>exact absurd q (a.live x (by rw [e];simp))
 oth:=λx o h hn=>b.oth x o (a.oth x o h hn) λhx=>by
  obtain ⟨n,hn'⟩:=List.mem_iff_getElem?.mp hx;rcases a.new n x hn' with q | q
  .exact hn (List.mem_iff_getElem?.mpr ⟨n,q⟩)
  .rw [q] at h;cases h
 live:=λx h=>b.live x (a.live x h)
 tup:=λx xs h=>b.tup x xs (a.tup x xs h)
 fro:=λx xs h=>b.fro x xs (a.fro x xs h)
 frz:=λx o u h=>b.frz x o u (a.frz x o u h)
mutual
theorem RV.mono(he:∀ (n:Nat) (a:Addr),ρ[n]? = some a->ρ'[n]? = some a)(ht:∀ a xs,SqU K H a xs->SqU K H' a xs)(hf:∀ a xs,SqF K H a xs->SqF K H' a xs):∀ (u:U) (v:V),RV K ρ H u v->RV K ρ' H' u v
 | .non,_,h=>h
 | .bl _,_,h=>h
 | .int _,_,h=>h
 | .str _,_,h=>h
 | .tup us,v,h=>by
  obtain ⟨a,vs,e,h1,h2⟩:=h;exact ⟨a,vs,e,ht _ _ h1,RVs.mono he ht hf us vs h2⟩
 | .fro us,v,h=>by
  obtain ⟨a,vs,e,h1,h2⟩:=h;exact ⟨a,vs,e,hf _ _ h1,RVs.mono he ht hf us vs h2⟩
 | .ref n,v,h=>by
  obtain ⟨a,e,h1⟩:=h;exact ⟨a,e,he _ _ h1⟩
 | .xn _ us,v,h=>by
  obtain ⟨a,vs,e,h1,h2⟩:=h;exact ⟨a,vs,e,h1,RVs.mono he ht hf us vs h2⟩
theorem RVs.mono(he:∀ (n:Nat) (a:Addr),ρ[n]? = some a->ρ'[n]? = some a)(ht:∀ a xs,SqU K H a xs->SqU K H' a xs)(hf:∀ a xs,SqF K H a xs->SqF K H' a xs):∀ (us:List U) (vs:List V),RVs K ρ H us vs->RVs K ρ' H' us vs
 | [],_,h=>h
 | u :: us,vs,h=>by
  obtain ⟨v,r,e,h1,h2⟩:=h;exact ⟨v,r,e,RV.mono he ht hf u v h1,RVs.mono he ht hf us r h2⟩
end
theorem RV.step(s:Stp K ρ H ρ' H')(u:U)(v:V)(h:RV K ρ H u v):RV K ρ' H' u v:=RV.mono s.ext s.tup s.fro u v h
theorem RVs.step(s:Stp K ρ H ρ' H')(us:List U)(vs:List V)(h:RVs K ρ H us vs):RVs K ρ' H' us vs:=RVs.mono s.ext s.tup s.fro us vs h
theorem RVs.length:∀ {us:List U} {vs:List V},RVs K ρ H us vs->us.length=vs.length
 | [],_,h=>by cases h;rfl
 | _ :: us,_,h=>by
  obtain ⟨v,r,rfl,_,h2⟩:=h;simp [RVs.length h2]
theorem RVs.get:∀ {us:List U} {vs:List V} {i:Nat} {u:U},RVs K ρ H us vs->us[i]? = some u -> ∃ v,vs[i]? = some v/\RV K ρ H u v
 | [],_,_,_,_,e=>by simp at e
 | x :: us,_,0,u,h,e=>by
  obtain ⟨v,r,rfl,h1,_⟩:=h;simp at e;subst e;exact ⟨v,by simp,h1⟩
 | x :: us,_,i+1,u,h,e=>by
  obtain ⟨v,r,rfl,_,h2⟩:=h;obtain ⟨w,e1,e2⟩:=RVs.get (i:=i) (u:=u) h2 (by simpa using e)
  exact ⟨w,by simpa using e1,e2⟩
theorem RVs.none_of{us:List U}{vs:List V}{i:Nat}(h:RVs K ρ H us vs)(e:us[i]? = none):vs[i]? = none:=by
 have h1:=h.length;have h2:us.length<=i:=List.getElem?_eq_none_iff.mp e;exact List.getElem?_eq_none_iff.mpr (by omega)
theorem RVs.append:∀ {us ws:List U} {vs xs:List V},RVs K ρ H us vs->RVs K ρ H ws xs->RVs K ρ H (us++ws) (vs++xs)
 | [],_,_,_,h,q=>by cases h;exact q
 | u :: us,_,_,_,h,q=>by
  obtain ⟨v,r,rfl,h1,h2⟩:=h;exact ⟨v,r++_,rfl,h1,RVs.append h2 q⟩
theorem RVs.one{u:U}{v:V}(h:RV K ρ H u v):RVs K ρ H [u] [v]:=⟨v,[],rfl,h,rfl⟩
theorem RVs.drop:∀ {us:List U} {vs:List V} (n:Nat),RVs K ρ H us vs->RVs K ρ H (us.drop n) (vs.drop n)
 | _,_,0,h=>h
 | [],_,_+1,h=>by cases h;rfl
 | u :: us,_,n+1,h=>by
  obtain ⟨v,r,rfl,h1,h2⟩:=h;exact RVs.drop n h2
theorem RVs.take:∀ {us:List U} {vs:List V} (n:Nat),RVs K ρ H us vs->RVs K ρ H (us.take n) (vs.take n)
 | _,_,0,h=>by simp [RVs]
 | [],_,_+1,h=>by cases h;rfl
 | u :: us,_,n+1,h=>by
  obtain ⟨v,r,rfl,h1,h2⟩:=h;exact ⟨v,r.take n,rfl,h1,RVs.take n h2⟩
theorem RVs.set{u:U}{v:V}(q:RV K ρ H u v):∀ {us:List U} {vs:List V} (i:Nat),RVs K ρ H us vs->RVs K ρ H (us.set i u) (vs.set i v)
 | [],_,_,h=>by cases h;rfl
 | x :: us,_,0,h=>by
  obtain ⟨w,r,rfl,_,h2⟩:=h;exact ⟨v,r,rfl,q,h2⟩
 | x :: us,_,i+1,h=>by
  obtain ⟨w,r,rfl,h1,h2⟩:=h;exact ⟨w,r.set i v,rfl,h1,RVs.set q i h2⟩
theorem RVs.reverse:∀ {us:List U} {vs:List V},RVs K ρ H us vs->RVs K ρ H us.reverse vs.reverse
 | [],_,h=>by cases h;rfl
 | u :: us,_,h=>by
  obtain ⟨v,r,rfl,h1,h2⟩:=h;rw [List.reverse_cons,List.reverse_cons];exact RVs.append (RVs.reverse h2) (.one h1)
theorem RVs.dropLast{us:List U}{vs:List V}(h:RVs K ρ H us vs):RVs K ρ H us.dropLast vs.dropLast:=by
 rw [List.dropLast_eq_take,List.dropLast_eq_take,h.length];exact h.take _
noncomputable def RD(K:GJ)(ρ:List Addr)(H:Hp):List (List Int×U)->List (List Key×V)->Prop
 | [],ws=>ws=[]
 | (k,u) :: r,ws => ∃ v s,ws=(k.map Sum.inl,v) :: s/\RV K ρ H u v/\RD K ρ H r s
theorem RD.mono(he:∀ (n:Nat) (a:Addr),ρ[n]? = some a->ρ'[n]? = some a)(ht:∀ a xs,SqU K H a xs->SqU K H' a xs)(hf:∀ a xs,SqF K H a xs->SqF K H' a xs):∀ (us:List (List Int×U)) (vs:List (List Key×V)),RD K ρ H us vs->RD K ρ' H' us vs
 | [],_,h=>h
 | (k,u) :: us,vs,h=>by
  obtain ⟨v,r,e,h1,h2⟩:=h;exact ⟨v,r,e,RV.mono he ht hf u v h1,RD.mono he ht hf us r h2⟩
noncomputable def RK(K:GJ)(ρ:List Addr)(H:Hp):List (Str×U)->List (Key×V)->Prop
 | [],ws=>ws=[]
 | (k,u) :: r,ws => ∃ v s,ws=(Sum.inr k,v) :: s/\RV K ρ H u v/\RK K ρ H r s
theorem RK.mono(he:∀ (n:Nat) (a:Addr),ρ[n]? = some a->ρ'[n]? = some a)(ht:∀ a xs,SqU K H a xs->SqU K H' a xs)(hf:∀ a xs,SqF K H a xs->SqF K H' a xs):∀ (us:List (Str×U)) (vs:List (Key×V)),RK K ρ H us vs->RK K ρ' H' us vs
 | [],_,h=>h
 | (k,u) :: us,vs,h=>by
  obtain ⟨v,r,e,h1,h2⟩:=h;exact ⟨v,r,e,RV.mono he ht hf u v h1,RK.mono he ht hf us r h2⟩
noncomputable def dig:Nat->Nat->List Nat
 | 0,_=>[]
 | f+1,n=>if n=0 then [] else n % 128 :: dig f (n / 128)
noncomputable def DA:Nat:=128 ^ 64
noncomputable def tu(n:Nat):Str:=⟨(dig 64 n).toArray⟩
noncomputable def RF(K:GJ)(ρ:List Addr)(H:Hp):List (Nat×U)->List (Str×V)->Prop
 | [],ws=>ws=[]
 | (j,u) :: r,ws => ∃ v s,ws=(tu j,v) :: s/\j < DA/\RV K ρ H u v/\RF K ρ H r s
theorem RF.mono(he:∀ (n:Nat) (a:Addr),ρ[n]? = some a->ρ'[n]? = some a)(ht:∀ a xs,SqU K H a xs->SqU K H' a xs)(hf:∀ a xs,SqF K H a xs->SqF K H' a xs):∀ (us:List (Nat×U)) (vs:List (Str×V)),RF K ρ H us vs->RF K ρ' H' us vs
 | [],_,h=>h
 | (k,u) :: us,vs,h=>by
  obtain ⟨v,r,e,h0,h1,h2⟩:=h;exact ⟨v,r,e,h0,RV.mono he ht hf u v h1,RF.mono he ht hf us r h2⟩
noncomputable def RHO(K:GJ)(ρ:List Addr)(H:Hp):O->HO->Prop
 | .lst us,o => ∃ vs,o=.lst vs/\RVs K ρ H us vs
 | .dic kvs,o => ∃ ws,o=.dT ws/\RD K ρ H kvs ws
 | .dif kvs,o => ∃ ob ws,o=.frz ob (.dT ws)/\RD K ρ H kvs ws
 | .dst kvs,o => ∃ ws,o=.dK ws/\RK K ρ H kvs ws
 | .ins c us,o => ∃ C dx vs,o=.ins C dx vs/\PySem.W.nsIn K mainGlobals (tu c)=some (some (.ref C))/\RF K ρ H us vs
noncomputable def RO(K:GJ)(ρ:List Addr)(H:Hp)(a:Addr)(o:O):Prop := ∃ ho,H a=some ho/\RHO K ρ H o ho
theorem RHO.mono(he:∀ (n:Nat) (a:Addr),ρ[n]? = some a->ρ'[n]? = some a)(ht:∀ a xs,SqU K H a xs->SqU K H' a xs)(hf:∀ a xs,SqF K H a xs->SqF K H' a xs){o:O}{ho:HO}(h:RHO K ρ H o ho):RHO K ρ' H' o ho:=by
 cases o with
 | lst us=>obtain ⟨vs,e,r⟩:=h;exact ⟨vs,e,RVs.mono he ht hf _ _ r⟩
 | dic kvs=>obtain ⟨ws,e,r⟩:=h;exact ⟨ws,e,RD.mono he ht hf _ _ r⟩
 | dif kvs=>obtain ⟨ob,ws,e,r⟩:=h;exact ⟨ob,ws,e,RD.mono he ht hf _ _ r⟩
 | dst kvs=>obtain ⟨ws,e,r⟩:=h;exact ⟨ws,e,RK.mono he ht hf _ _ r⟩
 | ins c us=>obtain ⟨C,dx,vs,e,h0,r⟩:=h;exact ⟨C,dx,vs,e,h0,RF.mono he ht hf _ _ r⟩
theorem RHO.step(s:Stp K ρ H ρ' H'){o:O}{ho:HO}(h:RHO K ρ H o ho):RHO K ρ' H' o ho:=h.mono s.ext s.tup s.fro
theorem RO.step(s:Stp K ρ H ρ' H'){a:Addr}{o:O}(e:∀ ho,H a=some ho->H' a=some ho)(h:RO K ρ H a o):RO K ρ' H' a o :=
 let ⟨ho,e1,r⟩:=h;⟨ho,e ho e1,r.step s⟩
structure RH(K:GJ)(ρ:List Addr)(H:Hp)(g:G):Prop where
 len:ρ.length=g.length
 inj:∀ (i j:Nat) (a:Addr),ρ[i]? = some a->ρ[j]? = some a->i=j
 obj:∀ (n:Nat) (a:Addr) (o:O),ρ[n]? = some a->g[n]? = some o->RO K ρ H a o
theorem RH.at(h:RH K ρ H g){n:Nat}{o:O}(e:g[n]? = some o):∃ a,ρ[n]? = some a/\RO K ρ H a o:=by
 have hn:n < g.length:=(List.getElem?_eq_some_iff.mp e).1;have hr:n < ρ.length:=by rw [h.len];exact hn
 exact ⟨ρ[n],List.getElem?_eq_getElem hr,h.obj n ρ[n] _ (List.getElem?_eq_getElem hr) e⟩
theorem RH.lst(h:RH K ρ H g){n:Nat}{us:List U}(e:g[n]? = some (.lst us)):∃ a vs,ρ[n]? = some a/\H a=some (.lst vs)/\RVs K ρ H us vs:=by
 obtain ⟨a,h1,ho,h2,vs,rfl,h3⟩:=h.at e;exact ⟨a,vs,h1,h2,h3⟩
theorem RH.dic(h:RH K ρ H g){n:Nat}{kvs:List (List Int×U)}(e:g[n]? = some (.dic kvs)):∃ a ws,ρ[n]? = some a/\H a=some (.dT ws)/\RD K ρ H kvs ws:=by
 obtain ⟨a,h1,ho,h2,vs,rfl,h3⟩:=h.at e;exact ⟨a,vs,h1,h2,h3⟩
theorem RH.dif(h:RH K ρ H g){n:Nat}{kvs:List (List Int×U)}(e:g[n]? = some (.dif kvs)):∃ a ob ws,ρ[n]? = some a/\H a=some (.frz ob (.dT ws))/\RD K ρ H kvs ws:=by
 obtain ⟨a,h1,ho,h2,ob,vs,rfl,h3⟩:=h.at e;exact ⟨a,ob,vs,h1,h2,h3⟩
theorem RH.dst(h:RH K ρ H g){n:Nat}{kvs:List (Str×U)}(e:g[n]? = some (.dst kvs)):∃ a ws,ρ[n]? = some a/\H a=some (.dK ws)/\RK K ρ H kvs ws:=by
 obtain ⟨a,h1,ho,h2,vs,rfl,h3⟩:=h.at e;exact ⟨a,vs,h1,h2,h3⟩
theorem RH.there(h:RH K ρ H g){n:Nat}{a:Addr}(e:ρ[n]? = some a):∃ o,H a=some o:=by
 have hr:n < ρ.length:=(List.getElem?_eq_some_iff.mp e).1;have hn:n < g.length:=by rw [<-h.len];exact hr
 obtain ⟨ho,h1,_⟩:=h.obj n a g[n] e (List.getElem?_eq_getElem hn);exact ⟨ho,h1⟩
theorem yY{a p:Addr}{o:HO}{xs:List V}(h:SqU K H a xs)(hp:a≠p):SqU K (upd H p o) a xs:=by
 unfold SqU;rw [ar hp];exact h
theorem zd{a p:Addr}{o:HO}{xs:List V}(h:SqF K H a xs)(hp:a≠p):SqF K (upd H p o) a xs:=by
 rcases h with ⟨ob,h⟩ | h
 .exact .inl ⟨ob,by rw [ar hp];exact h⟩
 .exact .inr h
noncomputable def b8:HO->Prop
 | .lst _=>True
 | .dT _=>True
 | .dK _=>True
 | .ins _ _ _=>True
 | _=>False
theorem bU{a p:Addr}{o:HO}{xs:List V}(h:SqU K H a xs)(hp:H p=none \/ ∃ ho,H p=some ho/\b8 ho):SqU K (upd H p o) a xs :=
 yY h (by rintro rfl;rcases hp with z | ⟨ys,z,m⟩ <;> · unfold SqU at h;rw [h] at z;cases z;try exact m)
theorem bV{a p:Addr}{o:HO}{xs:List V}(h:SqF K H a xs)(hp:H p=none \/ ∃ ho,H p=some ho/\b8 ho):SqF K (upd H p o) a xs:=by
 rcases h with ⟨ob,h⟩ | h
 .exact zd (.inl ⟨ob,h⟩) (by rintro rfl;rcases hp with z | ⟨ys,z,m⟩ <;> · rw [h] at z;cases z;try exact m)
 .exact .inr h
theorem Stp.fresh{p:Addr}{o:HO}(hp:H p=none):Stp K ρ H ρ (upd H p o) where
 ext:=λ_ _ h=>h
 new:=λ_ _ h => .inl h
 oth:=λa u h _=>by rw [ar (bw h hp)];exact h
 live:=λa h=>by
  by_cases e:a=p
  .subst e;rw [upd_same];simp
  .rw [ar e];exact h
 tup:=λa xs h=>bU h (.inl hp)
 fro:=λa xs h=>bV h (.inl hp)
 frz:=λa ob u h=>by rw [ar (bw h hp)];exact h
theorem RH.step_fresh{p:Addr}{o:HO}(h:RH K ρ H g)(hp:H p=none):RH K ρ (upd H p o) g where
 len:=h.len
 inj:=h.inj
 obj:=λn a ob h1 h2=>(h.obj n a ob h1 h2).step (Stp.fresh hp) λho e=>by rw [ar (bw e hp)];exact e
theorem Stp.alloc{p:Addr}{ho:HO}(hp:H p=none):Stp K ρ H (ρ++[p]) (upd H p ho) where
 ext:=λn a h=>by rw [List.getElem?_append_left (List.getElem?_eq_some_iff.mp h).1];exact h
 new:=λn a h=>by
  by_cases hn:n < ρ.length
  .rw [List.getElem?_append_left hn] at h;exact .inl h
  .rw [List.getElem?_append_right (by omega)] at h
   have:a=p:=by
    cases hk:n - ρ.length with
    | zero=>rw [hk] at h;simpa using h.symm
    | succ k=>rw [hk] at h;simp at h
   subst this;exact .inr hp
 oth:=λa u h _=>by rw [ar (bw h hp)];exact h
 live:=(Stp.fresh (K:=K) (ρ:=ρ) hp).live
 tup:=λa xs h=>bU h (.inl hp)
 fro:=λa xs h=>bV h (.inl hp)
 frz:=λa ob u h=>by rw [ar (bw h hp)];exact h
theorem RH.allocO{p:Addr}{ob:O}{ho:HO}(h:RH K ρ H g)(hp:H p=none)(r:RHO K ρ H ob ho):RH K (ρ++[p]) (upd H p ho) (g++[ob]) where
 len:=by simp [h.len]
 inj:=λi j a h1 h2=>by
  have key:∀ k b,(ρ++[p])[k]? = some b->(k < ρ.length/\ρ[k]? = some b)\/(k=ρ.length/\b=p):=λk b e=>by
   by_cases hk:k < ρ.length
   .rw [List.getElem?_append_left hk] at e;exact .inl ⟨hk,e⟩
   .rw [List.getElem?_append_right (by omega)] at e
    cases hd:k - ρ.length with
    | zero=>rw [hd] at e;exact .inr ⟨by omega,by simpa using e.symm⟩
    | succ m=>rw [hd] at e;simp at e
  have noP:∀ k,ρ[k]? ≠ some p:=λk e=>by
   obtain ⟨o,ho⟩:=h.there e;rw [hp] at ho;cases ho
  rcases key i a h1 with ⟨_,e1⟩ | ⟨e1,e1'⟩
  .rcases key j a h2 with ⟨_,e2⟩ | ⟨e2,e2'⟩
   .exact h.inj i j a e1 e2
   .subst e2';exact absurd e1 (noP i)
  .rcases key j a h2 with ⟨_,e2⟩ | ⟨e2,e2'⟩
   .subst e1';exact absurd e2 (noP j)
   .omega
 obj:=λn a o h1 h2=>by
  by_cases hn:n < ρ.length
  .rw [List.getElem?_append_left hn] at h1
   rw [List.getElem?_append_left (by rw [<-h.len];exact hn)] at h2
   exact (h.obj n a o h1 h2).step (Stp.alloc hp) λho e=>by rw [ar (bw e hp)];exact e
  .have hl:=h.len
   rw [List.getElem?_append_right (by omega)] at h1
   rw [List.getElem?_append_right (by omega)] at h2
   rw [<-hl] at h2;cases hd:n - ρ.length with
   | zero =>
    rw [hd] at h1 h2;have e1:a=p:=by simpa using h1.symm
    have e2:o=ob:=by simpa using h2.symm
    subst e1;subst e2;exact ⟨ho,upd_same,r.step (Stp.alloc hp)⟩
   | succ m=>rw [hd] at h1;simp at h1
theorem RH.alloc{p:Addr}{us:List U}{vs:List V}(h:RH K ρ H g)(hp:H p=none)(r:RVs K ρ H us vs):RH K (ρ++[p]) (upd H p (.lst vs)) (g++[.lst us]):=h.allocO hp ⟨vs,rfl,r⟩
theorem Stp.writeO{n:Nat}{a:Addr}{x y:HO}(hn:ρ[n]? = some a)(ha:H a=some x)(hm:b8 x):Stp K ρ H ρ (upd H a y) where
 ext:=λ_ _ h=>h
 new:=λ_ _ h => .inl h
 oth:=λb u h hb=>by
  have:b≠a:=λe=>hb (e ▸ List.mem_iff_getElem?.mpr ⟨n,hn⟩);rw [ar this];exact h
 live:=λb h=>by
  by_cases e:b=a
  .subst e;rw [upd_same];simp
  .rw [ar e];exact h
 tup:=λb zs h=>bU h (.inr ⟨_,ha,hm⟩)
 fro:=λb zs h=>bV h (.inr ⟨_,ha,hm⟩)
 frz:=λb ob u h=>by rw [ar (dj h ha (by rintro rfl;exact hm))];exact h
theorem Stp.write{n:Nat}{a:Addr}{xs ys:List V}(hn:ρ[n]? = some a)(ha:H a=some (.lst xs)):Stp K ρ H ρ (upd H a (.lst ys)):=Stp.writeO hn ha trivial
theorem RH.writeO{n:Nat}{a:Addr}{x y:HO}{ob:O}(h:RH K ρ H g)(hn:ρ[n]? = some a)(ha:H a=some x)(hm:b8 x)(r:RHO K ρ H ob y):RH K ρ (upd H a y) (g.set n ob) where
 len:=by simp [h.len]
 inj:=h.inj
 obj:=λm b o h1 h2=>by
  by_cases e:m=n
  .subst e
   rw [hn] at h1;cases h1;rw [List.getElem?_set_self (by rw [<-h.len];exact (List.getElem?_eq_some_iff.mp hn).1)] at h2
   cases h2;exact ⟨y,upd_same,r.step (Stp.writeO hn ha hm)⟩
  .rw [List.getElem?_set_ne (Ne.symm e)] at h2
   have ne:b≠a:=λz=>e (h.inj m n a (z ▸ h1) hn);exact (h.obj m b o h1 h2).step (Stp.writeO hn ha hm) λho e1=>by rw [ar ne];exact e1
theorem RH.write{n:Nat}{a:Addr}{us:List U}{xs ys:List V}(h:RH K ρ H g)(hn:ρ[n]? = some a)(ha:H a=some (.lst xs))(r:RVs K ρ H us ys):RH K ρ (upd H a (.lst ys)) (g.set n (.lst us)):=h.writeO hn ha trivial ⟨ys,rfl,r⟩
structure RS(K:GJ)(ρ:List Addr)(H:Hp)(σu:Su)(σ:L2.St):Prop where
 len:σu.length=σ.length
 val:∀ (i:Nat) (u:U),σu[i]? = some (some u) -> ∃ v,σ[i]? = some (some v)/\RV K ρ H u v
theorem RS.step{σu:Su}{σ:L2.St}(h:RS K ρ H σu σ)(s:Stp K ρ H ρ' H'):RS K ρ' H' σu σ :=
 ⟨h.len,λi u e=>let ⟨v,e1,r⟩:=h.val i u e;⟨v,e1,RV.step s _ _ r⟩⟩
theorem RS.set{σu:Su}{σ:L2.St}{i:Nat}{u:U}{v:V}(h:RS K ρ H σu σ)(r:RV K ρ H u v):RS K ρ H (σu.set i (some u)) (σ.set i (some v)) where
 len:=by simp [h.len]
 val:=λj w e=>by
  by_cases hj:j=i
  .subst hj
   have hl:j < σu.length:=by
    have:=(List.getElem?_eq_some_iff.mp e).1;simpa using this
   rw [List.getElem?_set_self hl] at e;cases e;exact ⟨v,by rw [List.getElem?_set_self (by rw [<-h.len];exact hl)],r⟩
  .rw [List.getElem?_set_ne (Ne.symm hj)] at e
   obtain ⟨x,e1,e2⟩:=h.val j w e;exact ⟨x,by rw [List.getElem?_set_ne (Ne.symm hj)];exact e1,e2⟩
end
noncomputable abbrev XQ:=Nat->List V->Hp->Prop
section
variable(K:GJ)(W:XQ)
noncomputable def post{α β:Type}(R:List Addr->Hp->α->β->Prop)(o:Out α)(ρ:List Addr)(H:Hp)(Q:β->Hp->Prop):Prop:=match o with
 | .ok u g => ∀ v ρ' H',Stp K ρ H ρ' H'->RH K ρ' H' g->R ρ' H' u v->Q v H'
 | .exc c fs g => ∀ vs ρ' H',Stp K ρ H ρ' H'->RH K ρ' H' g->RVs K ρ' H' fs vs->W c vs H'
 | .bad=>False
noncomputable def postS(o:Out Fl)(ρ:List Addr)(H:Hp)(D:Ends):Prop:=match o with
 | .ok (.nx σu) g => ∀ σ ρ' H',Stp K ρ H ρ' H'->RH K ρ' H' g->RS K ρ' H' σu σ->D.nx σ H'
 | .ok (.bk σu) g => ∀ σ ρ' H',Stp K ρ H ρ' H'->RH K ρ' H' g->RS K ρ' H' σu σ->D.bk σ H'
 | .ok (.ct σu) g => ∀ σ ρ' H',Stp K ρ H ρ' H'->RH K ρ' H' g->RS K ρ' H' σu σ->D.ct σ H'
 | .ok (.rt u) g => ∀ v ρ' H',Stp K ρ H ρ' H'->RH K ρ' H' g->RV K ρ' H' u v->D.rt v H'
 | .exc c fs g => ∀ vs ρ' H',Stp K ρ H ρ' H'->RH K ρ' H' g->RVs K ρ' H' fs vs->W c vs H'
 | .bad=>False
noncomputable abbrev REq{α:Type}:List Addr->Hp->α->α->Prop:=λ_ _ a b=>a=b
noncomputable def tE(f:Su->G->Out U):TE:=λσ H Q => ∃ σu ρ g,RS K ρ H σu σ/\RH K ρ H g/\post K W (RV K) (f σu g) ρ H Q
noncomputable def tT(f:Su->G->Out Bool):TT:=λσ H Q => ∃ σu ρ g,RS K ρ H σu σ/\RH K ρ H g/\post K W REq (f σu g) ρ H Q
noncomputable def tAr(f:Su->G->Out (List U)):TA:=λσ H Q => ∃ σu ρ g,RS K ρ H σu σ/\RH K ρ H g/\post K W (RVs K) (f σu g) ρ H Q
noncomputable def tSt(f:Su->G->Out Fl):TS:=λD σ H => ∃ σu ρ g,RS K ρ H σu σ/\RH K ρ H g/\postS K W (f σu g) ρ H D
end
section
variable{K:GJ}{W:XQ}{ρ ρ':List Addr}{H H':Hp}{α β α' β':Type}{R:List Addr->Hp->α->β->Prop}{R':List Addr->Hp->α'->β'->Prop}
theorem post.from{o:Out α}{Q:β->Hp->Prop}(h:post K W R o ρ H Q)(s:Stp K ρ H ρ' H'):post K W R o ρ' H' Q:=by
 cases o with
 | ok u g=>exact λv ρ2 H2 s2=>h v ρ2 H2 (s.trans s2)
 | exc c fs g=>exact λv ρ2 H2 s2=>h v ρ2 H2 (s.trans s2)
 | bad=>exact h
theorem postS.from{o:Out Fl}{D:Ends}(h:postS K W o ρ H D)(s:Stp K ρ H ρ' H'):postS K W o ρ' H' D:=by
 cases o with
 | ok f g=>cases f <;> exact λv ρ2 H2 s2=>h v ρ2 H2 (s.trans s2)
 | exc c fs g=>exact λv ρ2 H2 s2=>h v ρ2 H2 (s.trans s2)
 | bad=>exact h
theorem post.bind{o:Out α}{k:α->G->Out α'}{Q:β'->Hp->Prop}(h:post K W R' (o.bind k) ρ H Q):
  post K W R o ρ H (λv H1 => ∃ ρ1 u g1,Stp K ρ H ρ1 H1/\RH K ρ1 H1 g1/\R ρ1 H1 u v/\post K W R' (k u g1) ρ1 H1 Q):=by
 cases o with
 | ok u g=>exact λv ρ1 H1 s1 h1 r1=>⟨ρ1,u,g,s1,h1,r1,post.from (o:=k u g) h s1⟩
 | exc c fs g=>exact h
 | bad=>exact h
theorem postS.bind{o:Out α}{k:α->G->Out Fl}{D:Ends}(h:postS K W (o.bind k) ρ H D):
  post K W R o ρ H (λv H1 => ∃ ρ1 u g1,Stp K ρ H ρ1 H1/\RH K ρ1 H1 g1/\R ρ1 H1 u v/\postS K W (k u g1) ρ1 H1 D):=by
 cases o with
 | ok u g=>exact λv ρ1 H1 s1 h1 r1=>⟨ρ1,u,g,s1,h1,r1,postS.from (o:=k u g) h s1⟩
 | exc c fs g=>exact h
 | bad=>exact h
theorem post.mono{o:Out α}{Q Q':β->Hp->Prop}(h:post K W R o ρ H Q)(q:∀ v H1,Q v H1->Q' v H1):post K W R o ρ H Q':=by
 cases o with
 | ok u g=>exact λv ρ1 H1 s1 h1 r1=>q _ _ (h v ρ1 H1 s1 h1 r1)
 | exc c fs g=>exact h
 | bad=>exact h
theorem post.okHere{u:α}{v:β}{g:G}{Q:β->Hp->Prop}(h:post K W R (.ok u g) ρ H Q)(hg:RH K ρ H g)(r:R ρ H u v):Q v H:=h v ρ H .refl hg r
theorem post.lift{o:Option α}{g:G}{Q:β->Hp->Prop}(h:post K W R (lift o g) ρ H Q):∃ u,o=some u/\post K W R (.ok u g) ρ H Q:=by
 cases o with
 | none=>exact h.elim
 | some u=>exact ⟨u,rfl,h⟩
end
theorem _root_.L2.PE.imp{X:Cx}{e:Expr}{t t':TE}(h:PE X e t)(q:∀ σ H Q,t' σ H Q->t σ H Q):PE X e t':=λpins s σ H Q I h'=>h pins s σ H Q I (q σ H Q h')
theorem _root_.L2.PT.imp{X:Cx}{e:Expr}{t t':TT}(h:PT X e t)(q:∀ σ H Q,t' σ H Q->t σ H Q):PT X e t':=λpins s σ H Q I h'=>h pins s σ H Q I (q σ H Q h')
theorem _root_.L2.PW.imp{X:Cx}{e:Expr}{t t':TT}(h:PW X e t)(q:∀ σ H Q,t' σ H Q->t σ H Q):PW X e t':=λwh pins s σ H Q I h'=>h wh pins s σ H Q I (q σ H Q h')
theorem _root_.L2.PA.imp{X:Cx}{e:List Expr}{t t':TA}(h:PA X e t)(q:∀ σ H Q,t' σ H Q->t σ H Q):PA X e t':=λpos pins s σ H Q I h'=>h pos pins s σ H Q I (q σ H Q h')
theorem _root_.L2.PS.imp{X:Cx}{e:Stmt}{t t':TS}(h:PS X e t)(q:∀ D σ H,t' D σ H->t D σ H):PS X e t':=λpins s σ H Q I h'=>h pins s σ H Q I (q Q σ H h')
theorem _root_.L2.PSs.imp{X:Cx}{e:List Stmt}{t t':TS}(h:PSs X e t)(q:∀ D σ H,t' D σ H->t D σ H):PSs X e t':=λpins s σ H Q I h'=>h pins s σ H Q I (q Q σ H h')
theorem _root_.L2.PE.bad{X:Cx}{e:Expr}{K:GJ}{W:XQ}{f:Su->G->Out U}(h:∀ σ g,f σ g=.bad):PE X e (tE K W f):=λpins s σ H Q I ⟨σu,ρ,g,_,_,p⟩=>by rw [h] at p;exact p.elim
theorem _root_.L2.PT.bad{X:Cx}{e:Expr}{K:GJ}{W:XQ}{f:Su->G->Out Bool}(h:∀ σ g,f σ g=.bad):PT X e (tT K W f):=λpins s σ H Q I ⟨σu,ρ,g,_,_,p⟩=>by rw [h] at p;exact p.elim
theorem _root_.L2.PSs.bad{X:Cx}{e:List Stmt}{K:GJ}{W:XQ}{f:Su->G->Out Fl}(h:∀ σ g,f σ g=.bad):PSs X e (tSt K W f):=λpins s σ H Q I ⟨σu,ρ,g,_,_,p⟩=>by rw [h] at p;exact p.elim
theorem _root_.L2.PS.bad{X:Cx}{e:Stmt}{K:GJ}{W:XQ}{f:Su->G->Out Fl}(h:∀ σ g,f σ g=.bad):PS X e (tSt K W f):=λpins s σ H Q I ⟨σu,ρ,g,_,_,p⟩=>by rw [h] at p;exact p.elim
section
variable{K:GJ}{ρ:List Addr}{H:Hp}
theorem RV.flat{u w:U}{x y:V}{b:Bool}(r1:RV K ρ H u x)(r2:RV K ρ H w y)(e:aA u w=some b):ip x=true/\ip y=true/\eqV x y=b:=by
 cases u <;> cases w <;> simp only [aA,Option.some.injEq,reduceCtorEq] at e <;> (subst e;cases r1;cases r2;exact ⟨rfl,rfl,rfl⟩)
theorem gf:∀ {us ws:List U} {vs:List V} {b:Bool},RVs K ρ H us vs->RVs K ρ H ws vs->aC us ws=some b->b=true
 | [],[],_,b,_,_,e=>by simpa [aC] using e.symm
 | [],_ :: _,_,b,_,_,e=>by simp [aC] at e
 | _ :: _,[],_,b,_,_,e=>by simp [aC] at e
 | u :: us,w :: ws,_,b,h1,h2,e=>by
  obtain ⟨v,r,rfl,a1,a2⟩:=h1;obtain ⟨v',r',e',b1,b2⟩:=h2;cases e';simp only [aC] at e;cases e0:aA u w with
  | none=>simp [e0] at e
  | some c =>
   cases e1:aC us ws with
   | none=>simp [e0,e1] at e
   | some d =>
    simp only [e0,e1,Option.some.injEq] at e;subst e;rw [gf a2 b2 e1];have:c=true:=by
     cases u <;> cases w <;> simp only [aA,Option.some.injEq,reduceCtorEq] at e0 <;> (subst e0;cases a1;cases b1;try simp)
    simp [this]
noncomputable def scU:U->Bool
 | .non | .bl _ | .int _ | .str _=>true
 | _=>false
theorem pV{u z:U}{b:Bool}(e:aA u z=some b):scU u=true:=by
 cases u <;> first | rfl | (cases z <;> cases e)
theorem EL{u u':U}{v:V}(h1:RV K ρ H u v)(h2:RV K ρ H u' v)(e:scU u=true)(e':scU u'=true):u=u':=by
 cases u <;> first | (cases e;done) | (cases h1;cases u' <;> first | (cases e';done) | (cases h2 <;> rfl))
theorem rj{u u' z z':U}{v:V}{b b':Bool}(h1:RV K ρ H u v)(h2:RV K ρ H u' v)(e:aA u z=some b)(e':aA u' z'=some b'):u=u':=EL h1 h2 (pV e) (pV e')
theorem pH:∀ {us us' zs:List U} {vs:List V} {b b':Bool},RVs K ρ H us vs->RVs K ρ H us' vs->aC us zs=some b->aC us' zs=some b'->us=us'
 | [],_,_,_,_,_,h1,h2,_,_=>by
  cases h1;have:=h2.length;simp at this;exact this.symm
 | _ :: _,_,[],_,_,_,_,_,e,_=>by simp [aC] at e
 | u :: us,[],_,_,_,_,h1,h2,_,_=>by
  obtain ⟨v,r,rfl,_,_⟩:=h1;cases h2
 | u :: us,u' :: us',z :: zs,_,b,b',h1,h2,e,e'=>by
  obtain ⟨v,r,rfl,a1,a2⟩:=h1;obtain ⟨v',r',q,b1,b2⟩:=h2;cases q;simp only [aC] at e e';cases e0:aA u z with
  | none=>simp [e0] at e
  | some c =>
   cases e1:aC us zs with
   | none=>simp [e0,e1] at e
   | some d =>
    cases e0':aA u' z with
    | none=>simp [e0'] at e'
    | some c' =>
     cases e1':aC us' zs with
     | none=>simp [e0',e1'] at e'
     | some d'=>rw [rj a1 b1 e0 e0',pH a2 b2 e1 e1']
theorem gj{u w:U}{b:Bool}(e:ueq u w=some b):(∃ us ws,u=.tup us/\w=.tup ws/\aC us ws=some b)\/aA u w=some b:=by
 cases u <;> cases w <;> first | exact .inr e | exact .inl ⟨_,_,rfl,rfl,e⟩
end
section
variable{X:Cx}{pins:List (Addr×Obj)}{σ:L2.St}{H:Hp}{s:Shared}{A:Around}
theorem xF{K:GJ}{ρ:List Addr}{u w:U}{x y:V}{v v':Value}{b:Bool}(r1:RV K ρ H u x)(r2:RV K ρ H w y)(rx:RelV x v)(ry:RelV y v')(e:aA u w=some b):SeqAt.RcAt A s v v' b:=by
 cases u with
 | non =>
  cases r1;cases rx;cases w <;> simp only [aA,Option.some.injEq,reduceCtorEq] at e
  .subst e;cases r2;cases ry;exact SeqAt.RcAt.none_none
  .subst e;cases r2;cases ry;exact SeqAt.RcAt.none_bool _
  .subst e;cases r2;obtain ⟨t',rfl⟩:=ry;exact SeqAt.RcAt.none_int _ _
  .subst e;cases r2;obtain ⟨t',rfl⟩:=ry;exact SeqAt.RcAt.none_str _ _
 | bl a =>
  cases r1;cases rx;cases w <;> simp only [aA,Option.some.injEq,reduceCtorEq] at e
  .subst e;cases r2;cases ry;exact SeqAt.RcAt.bool_none _
  .subst e;cases r2;cases ry;exact SeqAt.RcAt.bool_bool _ _
  .subst e;cases r2;obtain ⟨t',rfl⟩:=ry;exact SeqAt.RcAt.bool_int _ _ _
  .subst e;cases r2;obtain ⟨t',rfl⟩:=ry;exact SeqAt.RcAt.bool_str _ _ _
 | int a =>
  cases r1;obtain ⟨t,rfl⟩:=rx;cases w <;> simp only [aA,Option.some.injEq,reduceCtorEq] at e
  .subst e;cases r2;cases ry;exact SeqAt.RcAt.int_none _ _
  .subst e;cases r2;cases ry;exact SeqAt.RcAt.int_bool _ _ _
  .subst e;cases r2;obtain ⟨t',rfl⟩:=ry;exact SeqAt.RcAt.int_int _ _ _ _
  .subst e;cases r2;obtain ⟨t',rfl⟩:=ry;exact SeqAt.RcAt.int_str _ _ _ _
 | str a =>
  cases r1;obtain ⟨t,rfl⟩:=rx;cases w <;> simp only [aA,Option.some.injEq,reduceCtorEq] at e
  .subst e;cases r2;cases ry;exact SeqAt.RcAt.str_none _ _
  .subst e;cases r2;cases ry;exact SeqAt.RcAt.str_bool _ _ _
  .subst e;cases r2;obtain ⟨t',rfl⟩:=ry;exact SeqAt.RcAt.str_int _ _ _ _
  .subst e;cases r2;obtain ⟨t',rfl⟩:=ry;exact SeqAt.RcAt.str_str _ _ _ _
 | _=>simp [aA] at e
theorem nH{K:GJ}{ρ:List Addr}:∀ {us ws:List U} {xs ys:List V} {vs vs':List Value} {b:Bool},RVs K ρ H us xs->RVs K ρ H ws ys->Vals xs vs->Vals ys vs'->aC us ws=some b ->
  ∃ e:Nat->Bool,vs.length=vs'.length/\(∀ j (h1:j < vs.length) (h2:j < vs'.length),SeqAt.EqAt A s vs[j] vs'[j] (e j))/\(List.range vs.length).all e=b
 | [],[],_,_,_,_,b,h1,h2,q1,q2,e=>by
  cases h1;cases h2;cases q1;cases q2;simp only [aC,Option.some.injEq] at e;subst e;exact ⟨λ_=>true,rfl,λj h1=>absurd h1 (by simp),rfl⟩
 | [],_ :: _,_,_,_,_,b,h1,h2,q1,q2,e=>by simp [aC] at e
 | _ :: _,[],_,_,_,_,b,h1,h2,q1,q2,e=>by simp [aC] at e
 | u :: us,w :: ws,_,_,_,_,b,h1,h2,q1,q2,e=>by
  obtain ⟨x,xs,rfl,a1,a2⟩:=h1;obtain ⟨y,ys,rfl,b1,b2⟩:=h2;cases q1 with
  | cons rx q1 =>
  cases q2 with
  | cons ry q2 =>
  simp only [aC] at e;cases e0:aA u w with
  | none=>simp [e0] at e
  | some c =>
   cases e1:aC us ws with
   | none=>simp [e0,e1] at e
   | some d =>
    simp only [e0,e1,Option.some.injEq] at e;subst e;obtain ⟨f,l,hf,hd⟩:=nH a2 b2 q1 q2 e1;obtain ⟨fx,fy,ev⟩:=a1.flat b1 e0;refine ⟨λj=>match j with | 0=>c | j+1=>f j,by simp [l],λj h1 h2 => ?_,?_⟩
    .cases j with
     | zero=>subst ev;exact jQ rx ry fx fy
     | succ j=>exact hf j (by simpa using h1) (by simpa using h2)
    .subst hd
     rw [List.length_cons,List.range_succ_eq_map,List.all_cons,List.all_map]
     rfl
theorem sm{ρ:List Addr}{u w:U}{x y:V}{v v':Value}{b:Bool}(I:Inv X pins σ H s)(hu:A.units < cLine)(r1:RV X.K ρ H u x)(r2:RV X.K ρ H w y)(rx:RelV x v)(ry:RelV y v')(e:ueq u w=some b):SeqAt.RcAt A s v v' b:=by
 by_cases ht:∃ us ws,u=.tup us/\w=.tup ws
 .obtain ⟨us,ws,rfl,rfl⟩:=ht
  obtain ⟨a,xs,rfl,h1,h2⟩:=r1;obtain ⟨a',ys,rfl,h3,h4⟩:=r2;cases rx;cases ry;obtain ⟨its,q1,p1,_⟩:=I.tuple h1.sq;obtain ⟨its',q2,p2,_⟩:=I.tuple h3.sq;obtain ⟨f,l,hf,hd⟩:=nH (A:=A.in1) (s:=s) h2 h4 q1 q2 e;have:=SeqAt.RcAt.tuples (A:=A) (s:=s) (l:=a) (b:=a') (items:=its.toArray) (items2:=its'.toArray) (e:=f) p1 p2 hu (λj h1 h2=>by simpa using hf j (by simpa using h1) (by simpa using h2))
  have e2:((List.range (min its.toArray.size its'.toArray.size)).all f && its.toArray.size == its'.toArray.size)=b:=by simp [<-l,hd]
  rw [e2] at this;exact this
 .have e':aA u w=some b:=by
   cases u <;> cases w <;> first | exact e | exact absurd ⟨_,_,rfl,rfl⟩ ht
  exact xF r1 r2 rx ry e'
theorem rD{ρ:List Addr}{u w:U}{x y:V}{v v':Value}{b:Bool}(I:Inv X pins σ H s)(hu:A.units < cLine)(r1:RV X.K ρ H u x)(r2:RV X.K ρ H w y)(rx:RelV x v)(ry:RelV y v')(e:ueq u w=some b):SeqAt.EqAt A s v v' b:=by
 by_cases ht:∃ us ws,u=.tup us/\w=.tup ws
 .have rc:=sm I hu r1 r2 rx ry e
  obtain ⟨us,ws,rfl,rfl⟩:=ht;obtain ⟨a,xs,rfl,h1,h2⟩:=r1;obtain ⟨a',ys,rfl,h3,h4⟩:=r2;cases rx;cases ry;by_cases ha:a=a'
  .subst ha
   obtain rfl:=I.tuple_inj h1.sq h3.sq;have:=gf h2 h4 e;subst this;exact SeqAt.EqAt.same _
  .exact SeqAt.EqAt.of_refs ha rc
 .have e':aA u w=some b:=by
   cases u <;> cases w <;> first | exact e | exact absurd ⟨_,_,rfl,rfl⟩ ht
  obtain ⟨fx,fy,ev⟩:=r1.flat r2 e';subst ev;exact jQ rx ry fx fy
theorem vR{ρ:List Addr}{u w:U}{y:V}{b:Bool}(I:Inv X pins σ H s)(h1:RV X.K ρ H u y)(h2:RV X.K ρ H w y)(e:ueq u w=some b):b=true:=by
 rcases gj e with ⟨us,ws,rfl,rfl,e⟩ | e
 .obtain ⟨a,xs,rfl,t1,t2⟩:=h1
  obtain ⟨a',ys,q,t3,t4⟩:=h2;cases q;obtain rfl:=I.tuple_inj t1.sq t3.sq;exact gf t2 t4 e
 .have:=gf (b:=b && true) (RVs.one h1) (RVs.one h2) (by simp only [aC,e])
  simpa using this
theorem jk{ρ:List Addr}{q:U->U->Option Bool}(hq:∀ u w x y v v' b,RV X.K ρ H u x->RV X.K ρ H w y->RelV x v->RelV y v'->q u w=some b->SeqAt.EqAt A s v v' b):∀ {us ws:List U} {xs ys:List V} {its its':List Value} {b:Bool},RVs X.K ρ H us xs->RVs X.K ρ H ws ys->Vals xs its->Vals ys its'->qs q us ws=some b ->
  ∃ f:Nat->Bool,its.length=its'.length/\(∀ j (h1:j < its.length) (h2:j < its'.length),SeqAt.EqAt A s its[j] its'[j] (f j))/\(List.range its.length).all f=b
 | [],[],_,_,_,_,b,h1,h2,q1,q2,e=>by
  cases h1;cases h2;cases q1;cases q2;simp only [qs,Option.some.injEq] at e;subst e;exact ⟨λ_=>true,rfl,λj h=>by simp at h,rfl⟩
 | [],_ :: _,_,_,_,_,_,_,_,_,_,e=>by simp [qs] at e
 | _ :: _,[],_,_,_,_,_,_,_,_,_,e=>by simp [qs] at e
 | u :: us,w :: ws,_,_,_,_,b,h1,h2,q1,q2,e=>by
  obtain ⟨x,xs,rfl,a1,a2⟩:=h1;obtain ⟨y,ys,rfl,b1,b2⟩:=h2;cases q1 with
  | cons rx q1 =>
  cases q2 with
  | cons ry q2 =>
  simp only [qs] at e;cases e0:q u w with
  | none=>simp [e0] at e
  | some c =>
   cases e1:qs q us ws with
   | none=>simp [e0,e1] at e
   | some d =>
    simp only [e0,e1,Option.some.injEq] at e;subst e;obtain ⟨f,l,hf,hd⟩:=jk hq a2 b2 q1 q2 e1;refine ⟨λj=>match j with | 0=>c | j+1=>f j,by simp [l],λj h1 h2 => ?_,?_⟩
    .cases j with
     | zero=>exact hq u w x y _ _ c a1 b1 rx ry e0
     | succ j=>exact hf j (by simpa using h1) (by simpa using h2)
    .subst hd
     rw [List.length_cons,List.range_succ_eq_map,List.all_cons,List.all_map]
     rfl
theorem p0{ρ:List Addr}{q:U->U->Option Bool}(hq:∀ u w y b,RV X.K ρ H u y->RV X.K ρ H w y->q u w=some b->b=true):∀ {us ws:List U} {xs:List V} {b:Bool},RVs X.K ρ H us xs->RVs X.K ρ H ws xs->qs q us ws=some b->b=true
 | [],[],_,b,_,_,e=>by simpa [qs] using e.symm
 | [],_ :: _,_,_,_,_,e=>by simp [qs] at e
 | _ :: _,[],_,_,_,_,e=>by simp [qs] at e
 | u :: us,w :: ws,_,b,h1,h2,e=>by
  obtain ⟨x,xs,rfl,a1,a2⟩:=h1;obtain ⟨y,ys,z,b1,b2⟩:=h2;cases z;simp only [qs] at e;cases e0:q u w with
  | none=>simp [e0] at e
  | some c =>
   cases e1:qs q us ws with
   | none=>simp [e0,e1] at e
   | some d =>
    simp only [e0,e1,Option.some.injEq] at e;rw [<-e,hq u w _ c a1 b1 e0,p0 hq a2 b2 e1]
    rfl
theorem zQ{ρ:List Addr}{u w:U}{x y:V}{v v':Value}{b:Bool}(I:Inv X pins σ H s)(hu:A.units+1 < cLine)(r1:RV X.K ρ H u x)(r2:RV X.K ρ H w y)(rx:RelV x v)(ry:RelV y v')(e:ll u w=some b):SeqAt.EqAt A s v v' b:=by
 by_cases ht:∃ us ws,u=.tup us/\w=.tup ws
 .obtain ⟨us,ws,rfl,rfl⟩:=ht
  obtain ⟨a,xs,rfl,h1,h2⟩:=r1;obtain ⟨a',ys,rfl,h3,h4⟩:=r2;cases rx;cases ry;have e:qs ueq us ws=some b:=e;by_cases ha:a=a'
  .subst ha
   obtain rfl:=I.tuple_inj h1.sq h3.sq;have:=p0 (λu w y b q1 q2 q3=>vR I q1 q2 q3) h2 h4 e;subst this;exact SeqAt.EqAt.same _
  .refine SeqAt.EqAt.of_refs ha ?_
   obtain ⟨its,q1,p1,_⟩:=I.tuple h1.sq;obtain ⟨its',q2,p2,_⟩:=I.tuple h3.sq;obtain ⟨f,l,hf,hd⟩:=jk (A:=A.in1) (s:=s) (λu w x y v v' b q1 q2 q3 q4 q5=>rD (A:=A.in1) I hu q1 q2 q3 q4 q5) h2 h4 q1 q2 e;have:=SeqAt.RcAt.tuples (A:=A) (s:=s) (l:=a) (b:=a') (items:=its.toArray) (items2:=its'.toArray) (e:=f) p1 p2 (by omega) (λj h1 h2=>by simpa using hf j (by simpa using h1) (by simpa using h2))
   have e2:((List.range (min its.toArray.size its'.toArray.size)).all f && its.toArray.size == its'.toArray.size)=b:=by simp [<-l,hd]
   rw [e2] at this;exact this
 .have e':aA u w=some b:=by
   cases u <;> cases w <;> first | exact e | exact absurd ⟨_,_,rfl,rfl⟩ ht
  obtain ⟨fx,fy,ev⟩:=r1.flat r2 e';subst ev;exact jQ rx ry fx fy
end
section
variable{X:Cx}{W:XQ}{C:Nat->List U->G->Out U}{r:L}{pos:Pos}
theorem Cg(hu:X.A.units < cLine):OpR X (compareOp .Eq) (λx y H Q => ∃ ρ u w b,RV X.K ρ H u x/\RV X.K ρ H w y/\ueq u w=some b/\Q (.bl b) H):=by
 intro pins s σ H x y v u Q I rx ry ⟨ρ,a,w,b,r1,r2,e,q⟩;exact sm I hu r1 r2 rx ry e X.prog X.w X.xe _ ⟨.bl b,H,I,rfl,q⟩
theorem ox{x y:U}{g:G}{p:List U×List U}(e:bL x y g=some p):∃ n m,x=.ref n/\y=.ref m/\g[n]? = some (.lst p.1)/\g[m]? = some (.lst p.2):=by
 unfold bL at e;split at e
 .split at e
  .split at e
   .split at e
    .rename_i h1 _ _ h2
     cases e;exact ⟨_,_,rfl,rfl,h1,h2⟩
    .cases e
   .cases e
  .cases e
 .cases e
theorem Ae(hu:X.A.units+2 < cLine):OpR X (compareOp .Eq) (λx y H Q => ∃ ρ g u w p b,RH X.K ρ H g/\RV X.K ρ H u x/\RV X.K ρ H w y/\bL u w g=some p/\qs ll p.1 p.2=some b/\Q (.bl b) H):=by
 intro pins s σ H x y v u Q I rx ry ⟨ρ,g,a,w,p,b,hg,r1,r2,hl,e,q⟩;obtain ⟨n,m,rfl,rfl,g1,g2⟩:=ox hl;obtain ⟨a1,vs,c1,c2,c3⟩:=hg.lst g1;obtain ⟨a2,ws,d1,d2,d3⟩:=hg.lst g2;obtain ⟨a1',rfl,z⟩:=r1;rw [c1] at z;cases z;obtain ⟨a2',rfl,z⟩:=r2;rw [d1] at z;cases z;cases rx;cases ry;obtain ⟨its,q1,p1,_⟩:=I.list (.of c2);obtain ⟨its',q2,p2,_⟩:=I.list (.of d2);obtain ⟨f,l,hf,hd⟩:=jk (A:=X.A.in1) (s:=s) (λu w x y v v' b q1 q2 q3 q4 q5=>zQ (A:=X.A.in1) I (by exact hu) q1 q2 q3 q4 q5) c3 d3 q1 q2 e
 refine SeqAt.eq_listAt (e:=f) p1.isList p2.isList (by simp [l]) (by omega) (λj h1 h2=>by simpa using hf j (by simpa using h1) (by simpa using h2)) ?_
 refine ⟨.bl b,H,I,?_,q⟩;rw [<-hd];simp only [List.size_toArray]
 rfl
theorem eS{K:GJ}{ρ:List Addr}{H:Hp}{g:G}{u:U}{x:V}{us:List U}(h:RH K ρ H g)(r1:RV K ρ H u x)(e:items u g=some us):∃ a vs,x=.ref a/\(SqL K H a vs\/SqT K H a vs)/\RVs K ρ H us vs:=by
 cases u with
 | tup xs=>obtain ⟨a,vs,rfl,h1,h2⟩:=r1;cases e;exact ⟨a,vs,rfl,.inr h1.sq,h2⟩
 | fro xs=>obtain ⟨a,vs,rfl,h1,h2⟩:=r1;cases e;exact ⟨a,vs,rfl,.inl h1.sq,h2⟩
 | xn _ xs=>obtain ⟨a,vs,rfl,h1,h2⟩:=r1;cases e;exact ⟨a,vs,rfl,.inr h1.sq,h2⟩
 | ref n =>
  obtain ⟨a,rfl,hn⟩:=r1;simp only [items] at e;cases eg:g[n]? with
  | none=>simp [eg] at e
  | some o =>
   cases o with
   | lst xs =>
    simp only [eg,Option.some.injEq] at e;subst e;obtain ⟨a',vs,h1,h2,h3⟩:=h.lst eg;rw [hn] at h1;cases h1;exact ⟨a,vs,rfl,.inl (.of h2),h3⟩
   | dic _=>simp [eg] at e
   | dif _=>simp [eg] at e
   | dst _=>simp [eg] at e
   | ins _ _=>simp [eg] at e
 | _=>simp [items] at e
theorem yr{ρ:List Addr}{H:Hp}{pins:List (Addr×Obj)}{σ:L2.St}{s:Shared}{w w' u:U}{y:V}{c c':Bool}(I:Inv X pins σ H s)(h1:RV X.K ρ H w y)(h2:RV X.K ρ H w' y)(e:ueq w u=some c)(e':ueq w' u=some c'):c=c':=by
 have key:w=w':=by
  rcases gj e with ⟨us,zs,rfl,rfl,e⟩ | e
  .rcases gj e' with ⟨us',zs',rfl,q,e'⟩ | e'
   .cases q
    obtain ⟨a,vs,rfl,t1,t2⟩:=h1;obtain ⟨a',vs',q,t3,t4⟩:=h2;cases q;obtain rfl:=I.tuple_inj t1.sq t3.sq;rw [pH t2 t4 e e']
   .cases w' <;> simp [aA] at e'
  .rcases gj e' with ⟨us',zs',rfl,rfl,e'⟩ | e'
   .cases w <;> simp [aA] at e
   .exact rj h1 h2 e e'
 subst key;rw [e] at e';exact Option.some.inj e'
theorem mJ{α:Type}{e f:α->Bool}:∀ {l:List α},(∀ z∈l,e z=f z)->l.any e=l.any f
 | [],_=>rfl
 | x :: l,h=>by rw [List.any_cons,List.any_cons,h x GH,mJ λz hz=>h z (GB _ hz)]
theorem eN{ρ:List Addr}{H:Hp}{pins:List (Addr×Obj)}{σ:L2.St}{s:Shared}{A:Around}{u:U}{x:V}{v:Value}(I:Inv X pins σ H s)(hu:A.units < cLine)(r1:RV X.K ρ H u x)(rx:RelV x v):
  ∀ {us:List U} {vs:List V} {its:List Value} {b:Bool},RVs X.K ρ H us vs->Vals vs its->uin u us=some b ->
   ∃ e:Value->Bool,(∀ y∈its,SeqAt.EqAt A s y v (e y))/\its.any e=b /\ ∀ w y vy c,RV X.K ρ H w y->RelV y vy->vy∈its->ueq w u=some c->e vy=c
 | [],_,_,b,h,q,e=>by
  cases h;cases q;simp only [uin,Option.some.injEq] at e;subst e;exact ⟨λ_=>false,λy hy=>by simp at hy,rfl,λ_ _ _ _ _ _ hm=>by simp at hm⟩
 | w :: us,_,_,b,h,q,e=>by
  obtain ⟨y,ys,rfl,a1,a2⟩:=h;cases q with
  | cons ry q =>
  rename_i vy its;simp only [uin] at e;cases e0:ueq w u with
  | none=>simp [e0] at e
  | some c =>
   cases e1:uin u us with
   | none=>simp [e0,e1] at e
   | some d =>
    simp only [e0,e1,Option.some.injEq] at e;subst e;obtain ⟨f,hf,hd,hc⟩:=eN I hu r1 rx a2 q e1;have hy:SeqAt.EqAt A s vy v c:=rD I hu a1 r1 ry rx e0;have same:∀ z∈its,(if z=vy then c else f z)=f z:=λz hz=>by
     by_cases hz2:z=vy
     .subst hz2
      rw [if_pos rfl];exact (hc w y _ c a1 ry hz e0).symm
     .rw [if_neg hz2]
    refine ⟨λz=>if z=vy then c else f z,λz hz => ?_,?_,λw' y' vy' c' h1 h2 hm e' => ?_⟩
    .by_cases hz2:z=vy
     .subst hz2;simpa using hy
     .rcases List.mem_cons.mp hz with h | h
      .exact absurd h hz2
      .simpa [hz2] using hf z h
    .rw [List.any_cons,mJ same,hd]
     simp
    .by_cases hz2:vy'=vy
     .subst hz2
      obtain rfl:=h2.inj ry;simpa using (yr I a1 h1 e0 e')
     .rcases List.mem_cons.mp hm with h | h
      .exact absurd h hz2
      .simpa [hz2] using hc w' y' vy' c' h1 h2 h e'
theorem Aw(hu:X.A.units+1 < cLine):OpR X (compareOp .In) (λx y H Q => ∃ ρ g u w us b,RH X.K ρ H g/\RV X.K ρ H u x/\RV X.K ρ H w y/\items w g=some us/\uin u us=some b/\Q (.bl b) H):=by
 intro pins s σ H x y v u Q I rx ry ⟨ρ,g,a,w,us,b,hg,r1,r2,ei,e,q⟩;obtain ⟨p,vs,rfl,hq,rs⟩:=eS hg r2 ei;cases ry;rcases hq with hq | hq
 .obtain ⟨its,rv,pl,hz⟩:=I.list hq
  obtain ⟨f,hf,hd,_⟩:=eN (A:=X.A.in1) I (by exact hu) r1 rx rs rv e
  exact SeqAt.in_listAt f pl.isList (λw hw=>hf w (by simpa using hw)) ⟨.bl b,H,I,by rw [show its.toArray.any f=its.any f by simp,hd];rfl,q⟩
 .obtain ⟨its,rv,pl,hz⟩:=I.tuple hq
  obtain ⟨f,hf,hd,_⟩:=eN (A:=X.A.in1) I (by exact hu) r1 rx rs rv e
  exact SeqAt.in_tupleAt f pl (λw hw=>hf w (by simpa using hw)) ⟨.bl b,H,I,by rw [show its.toArray.any f=its.any f by simp,hd];rfl,q⟩
theorem xw(hu:X.A.units+1 < cLine):OpR X (compareOp .NotIn) (λx y H Q => ∃ ρ g u w us b,RH X.K ρ H g/\RV X.K ρ H u x/\RV X.K ρ H w y/\items w g=some us/\uin u us=some b/\Q (.bl (!b)) H):=by
 intro pins s σ H x y v u Q I rx ry ⟨ρ,g,a,w,us,b,hg,r1,r2,ei,e,q⟩;obtain ⟨p,vs,rfl,hq,rs⟩:=eS hg r2 ei;cases ry;rcases hq with hq | hq
 .obtain ⟨its,rv,pl,hz⟩:=I.list hq
  obtain ⟨f,hf,hd,_⟩:=eN (A:=X.A.in1) I (by exact hu) r1 rx rs rv e
  exact SeqAt.notIn_listAt f pl.isList (λw hw=>hf w (by simpa using hw)) ⟨.bl (!b),H,I,by rw [show its.toArray.any f=its.any f by simp,hd];rfl,q⟩
 .obtain ⟨its,rv,pl,hz⟩:=I.tuple hq
  obtain ⟨f,hf,hd,_⟩:=eN (A:=X.A.in1) I (by exact hu) r1 rx rs rv e
  exact SeqAt.notIn_tupleAt f pl (λw hw=>hf w (by simpa using hw)) ⟨.bl (!b),H,I,by rw [show its.toArray.any f=its.any f by simp,hd];rfl,q⟩
end
open PySem PySem.Spec PyProof.Rows L2 PySem.W
inductive F2{α β:Type}(R:α->β->Prop):List α->List β->Prop
 | nil:F2 R [] []
 | cons {a:α} {b:β} {l:List α} {m:List β}:R a b->F2 R l m->F2 R (a :: l) (b :: m)
section
variable{α β:Type}{R:α->β->Prop}
noncomputable def PR(R:α->β->Prop)(p:Str×α)(q:Str×β):Prop:=p.1=q.1/\R p.2 q.2
end
set_option genInjectivity false in
structure KF where
 ns:List Str
 ks:List Str
 dd:List (Str×U)
structure KFok(K:Frag)(fd:FuncData)(F:KF)(nd:Nat)(ddV:List (Str×V))(dd:List (Str×Value)):Prop where
 h1:fd.params.posonlyargs=[]
 h2:fd.params.args.map (·.arg)=F.ns
 h3:fd.params.vararg=none
 h4:fd.params.kwonlyargs.map (·.arg)=F.ks
 h5:fd.params.kwarg=none
 ds:∃ (dsv:List Value) (kd:Str->Value),(∀ (M:Model) (h:Heap),K.In h -> ∃ od:Option (Array Value),(od.getD #[]).toList=dsv/\Looks M h (seqItems? fd.defaults) od)/\dsv.length=nd/\nd<=F.ns.length /\
  (∀ n∈F.ks,∃ d,fd.kwdefaults=.ref d/\nsIn K d n=some (some (kd n)))/\dd=(F.ns.drop (F.ns.length - nd)).zip dsv++F.ks.map λn=>(n,kd n)
 rel:F2 (PR RelV) ddV dd
 urel:F2 (PR λu v => ∀ ρ H,RV K ρ H u v) F.dd ddV
open PySem PySem.Spec PyProof.Rows L2
section
variable{K:GJ}{ρ:List Addr}{H:Hp}
theorem cz{a b:List Int}:(a.map (Sum.inl:Int->Key)=b.map Sum.inl) ↔ a=b :=
 ⟨λh=>(List.map_inj_right (λx y e=>Sum.inl.inj e)).mp h,λh=>by rw [h]⟩
theorem RD.val(k:List Int):∀ {kvs:List (List Int×U)} {ws:List (List Key×V)},RD K ρ H kvs ws->(a6 ws (k.map Sum.inl)).isSome=(ba kvs k).isSome
 | [],_,h=>by cases h;rfl
 | (k',u) :: r,_,h=>by
  obtain ⟨v,s,rfl,h1,h2⟩:=h;by_cases e:k'=k
  .rw [dE (cz.mpr e)]
   simp [ba,List.find?_cons,e]
  .rw [dF (λz=>e (cz.mp z)),RD.val k h2]
   simp [ba,List.find?_cons,e]
theorem RD.got(k:List Int){u:U}:∀ {kvs:List (List Int×U)} {ws:List (List Key×V)},RD K ρ H kvs ws->ba kvs k=some u -> ∃ v,a6 ws (k.map Sum.inl)=some v/\RV K ρ H u v
 | [],_,h,e=>by cases e
 | (k',u') :: r,_,h,e=>by
  obtain ⟨v,s,rfl,h1,h2⟩:=h;by_cases z:k'=k
  .rw [dE (cz.mpr z)]
   simp [ba,List.find?_cons,z] at e;subst e;exact ⟨v,rfl,h1⟩
  .rw [dF (λy=>z (cz.mp y))]
   exact RD.got k h2 (by simpa [ba,List.find?_cons,z] using e)
theorem RD.at:∀ {kvs:List (List Int×U)} {ws:List (List Key×V)} {i:Nat} {k:List Int} {u:U},RD K ρ H kvs ws->kvs[i]? = some (k,u) -> ∃ v,ws[i]? = some (k.map Sum.inl,v)/\RV K ρ H u v
 | [],_,_,_,_,_,e=>by simp at e
 | (k',u') :: r,_,0,k,u,h,e=>by
  obtain ⟨v,s,rfl,h1,h2⟩:=h;simp at e;obtain ⟨rfl,rfl⟩:=e;exact ⟨v,by simp,h1⟩
 | (k',u') :: r,_,i+1,k,u,h,e=>by
  obtain ⟨v,s,rfl,h1,h2⟩:=h;obtain ⟨x,e1,e2⟩:=RD.at (i:=i) h2 (by simpa using e)
  exact ⟨x,by simpa using e1,e2⟩
theorem RD.any(k:List Int):∀ {kvs:List (List Int×U)} {ws:List (List Key×V)},RD K ρ H kvs ws->(ws.any λkv=>decide (kv.1=k.map Sum.inl))=kvs.any λkv=>decide (kv.1=k)
 | [],_,h=>by cases h;rfl
 | (k',u) :: r,_,h=>by
  obtain ⟨v,s,rfl,h1,h2⟩:=h;rw [List.any_cons,List.any_cons,RD.any k h2];congr 1;exact decide_eq_decide.mpr cz
theorem RD.len:∀ {kvs:List (List Int×U)} {ws:List (List Key×V)},RD K ρ H kvs ws->kvs.length=ws.length
 | [],_,h=>by cases h;rfl
 | (k',u) :: r,_,h=>by
  obtain ⟨v,s,rfl,h1,h2⟩:=h;simp [RD.len h2]
theorem RD.snoc{k:List Int}{u:U}{v:V}(q:RV K ρ H u v):∀ {kvs:List (List Int×U)} {ws:List (List Key×V)},RD K ρ H kvs ws->RD K ρ H (kvs++[(k,u)]) (ws++[(k.map Sum.inl,v)])
 | [],_,h=>by cases h;exact ⟨v,[],rfl,q,rfl⟩
 | (k',u') :: r,_,h=>by
  obtain ⟨w,s,rfl,h1,h2⟩:=h;exact ⟨w,_,rfl,h1,RD.snoc q h2⟩
theorem RD.repl{k:List Int}{u:U}{v:V}(q:RV K ρ H u v):∀ {kvs:List (List Int×U)} {ws:List (List Key×V)},RD K ρ H kvs ws ->
  RD K ρ H (kvs.map λkv=>if kv.1=k then (kv.1,u) else kv) (ws.map λkv=>if kv.1=k.map Sum.inl then (kv.1,v) else kv)
 | [],_,h=>by cases h;rfl
 | (k',u') :: r,_,h=>by
  obtain ⟨w,s,rfl,h1,h2⟩:=h;rw [List.map_cons,List.map_cons];by_cases e:k'=k
  .rw [if_pos e,if_pos (cz.mpr e)];exact ⟨v,_,rfl,q,RD.repl q h2⟩
  .rw [if_neg e,if_neg (λz=>e (cz.mp z))];exact ⟨w,_,rfl,h1,RD.repl q h2⟩
theorem RD.put{k:List Int}{u:U}{v:V}(q:RV K ρ H u v){kvs:List (List Int×U)}{ws:List (List Key×V)}(h:RD K ρ H kvs ws):RD K ρ H (dput kvs k u) (putK ws (k.map Sum.inl) v):=by
 unfold dput putK;rw [h.any k];split
 .exact h.repl q
 .exact h.snoc q
theorem RK.len:∀ {kvs:List (Str×U)} {ws:List (Key×V)},RK K ρ H kvs ws->kvs.length=ws.length
 | [],_,h=>by cases h;rfl
 | (k',u) :: r,_,h=>by
  obtain ⟨v,s,rfl,h1,h2⟩:=h;simp [RK.len h2]
theorem RK.got(k:Str){u:U}:∀ {kvs:List (Str×U)} {ws:List (Key×V)},RK K ρ H kvs ws->bR kvs k=some u -> ∃ v,a6 ws (Sum.inr k)=some v/\RV K ρ H u v
 | [],_,h,e=>by cases e
 | (k',u') :: r,_,h,e=>by
  obtain ⟨v,s,rfl,h1,h2⟩:=h;by_cases z:k'=k
  .rw [dE (congrArg Sum.inr z)]
   simp [bR,List.find?_cons,z] at e;subst e;exact ⟨v,rfl,h1⟩
  .rw [dF (λy=>z (Sum.inr.inj y))]
   exact RK.got k h2 (by simpa [bR,List.find?_cons,z] using e)
theorem RK.any(k:Str):∀ {kvs:List (Str×U)} {ws:List (Key×V)},RK K ρ H kvs ws->(ws.any λkv=>decide (kv.1=Sum.inr k))=kvs.any λkv=>decide (kv.1=k)
 | [],_,h=>by cases h;rfl
 | (k',u) :: r,_,h=>by
  obtain ⟨v,s,rfl,h1,h2⟩:=h;rw [List.any_cons,List.any_cons,RK.any k h2];congr 1;exact decide_eq_decide.mpr ⟨Sum.inr.inj,congrArg Sum.inr⟩
theorem RK.snoc{k:Str}{u:U}{v:V}(q:RV K ρ H u v):∀ {kvs:List (Str×U)} {ws:List (Key×V)},RK K ρ H kvs ws->RK K ρ H (kvs++[(k,u)]) (ws++[(Sum.inr k,v)])
 | [],_,h=>by cases h;exact ⟨v,[],rfl,q,rfl⟩
 | (k',u') :: r,_,h=>by
  obtain ⟨w,s,rfl,h1,h2⟩:=h;exact ⟨w,_,rfl,h1,RK.snoc q h2⟩
theorem RK.repl{k:Str}{u:U}{v:V}(q:RV K ρ H u v):∀ {kvs:List (Str×U)} {ws:List (Key×V)},RK K ρ H kvs ws ->
  RK K ρ H (kvs.map λkv=>if kv.1=k then (kv.1,u) else kv) (ws.map λkv=>if kv.1=Sum.inr k then (kv.1,v) else kv)
 | [],_,h=>by cases h;rfl
 | (k',u') :: r,_,h=>by
  obtain ⟨w,s,rfl,h1,h2⟩:=h;rw [List.map_cons,List.map_cons];by_cases e:k'=k
  .rw [if_pos e,if_pos (congrArg Sum.inr e)];exact ⟨v,_,rfl,q,RK.repl q h2⟩
  .rw [if_neg e,if_neg (λz=>e (Sum.inr.inj z))];exact ⟨w,_,rfl,h1,RK.repl q h2⟩
theorem RK.put{k:Str}{u:U}{v:V}(q:RV K ρ H u v){kvs:List (Str×U)}{ws:List (Key×V)}(h:RK K ρ H kvs ws):RK K ρ H (kL kvs k u) (putK ws (Sum.inr k) v):=by
 unfold kL putK;rw [h.any k];split
 .exact h.repl q
 .exact h.snoc q
theorem BH{g:G}{y:U}{vy:V}{kvs:List (Str×U)}(hg:RH K ρ H g)(ry:RV K ρ H y vy)(e:asS y g=some kvs):∃ n a ws,y=.ref n/\g[n]? = some (.dst kvs)/\ρ[n]? = some a/\vy=.ref a/\H a=some (.dK ws)/\RK K ρ H kvs ws:=by
 cases y with
 | ref n =>
  simp only [asS] at e;cases eg:g[n]? with
  | none=>rw [eg] at e;cases e
  | some ob =>
   cases ob with
   | dst kvs' =>
    rw [eg] at e;cases e;obtain ⟨a,ws,hn,ha,rk⟩:=hg.dst eg;obtain ⟨a',rfl,hn'⟩:=ry;rw [hn] at hn';cases hn';exact ⟨n,_,ws,rfl,eg,hn,rfl,ha,rk⟩
   | _=>rw [eg] at e;cases e
 | _=>cases e
theorem i7:∀ {us:List U} {ns:List Int} {vs:List V},intsOf us=some ns->RVs K ρ H us vs->vs=ns.map V.int
 | [],_,_,e,h=>by cases e;cases h;rfl
 | u :: us,ns,vs,e,h=>by
  obtain ⟨v,r,rfl,h1,h2⟩:=h;cases u with
  | int i =>
   simp only [intsOf] at e;obtain ⟨m,e1,rfl⟩:=Option.map_eq_some_iff.mp e;cases h1;rw [i7 e1 h2];rfl
  | _=>cases e
theorem fk{x:U}{v:V}{k:List Int}(e:keyOf x=some k)(r:RV K ρ H x v):∃ b,v=.ref b/\H b=some (.tup ((k.map Sum.inl).map kV)):=by
 cases x with
 | tup us =>
  obtain ⟨a,vs,rfl,h1,h2⟩:=r;refine ⟨a,rfl,?_⟩;rw [show H a=some (.tup vs) from h1,i7 e h2,List.map_map]
  rfl
 | _=>cases e
theorem jt{g:G}{x y:U}{vx vy:V}{o:Option U}(hg:RH K ρ H g)(rx:RV K ρ H x vx)(ry:RV K ρ H y vy)(e:aU x y g=some o):∃ a ov,vy=.ref a/\DGet H a vx ov/\ov.isSome=o.isSome /\ ∀ u,o=some u -> ∃ v,ov=some v/\RV K ρ H u v:=by
 unfold aU at e;cases ed:asD y g with
 | none=>rw [ed] at e;cases e
 | some kvs =>
  rw [ed] at e;obtain ⟨k,ek,rfl⟩:=Option.map_eq_some_iff.mp e;cases y with
  | ref n =>
   simp only [asD] at ed;cases eg:g[n]? with
   | none=>rw [eg] at ed;cases ed
   | some ob =>
    cases ob with
    | dic kvs' =>
     rw [eg] at ed;cases ed;obtain ⟨a,ws,hn,ha,rd⟩:=hg.dic eg;obtain ⟨a',rfl,hn'⟩:=ry;rw [hn] at hn';cases hn';obtain ⟨b,rfl,hb⟩:=fk ek rx;exact ⟨a,_,rfl,DGet.t ha hb,rd.val k,λu z=>rd.got k z⟩
    | dif kvs' =>
     rw [eg] at ed;cases ed;obtain ⟨a,ob,ws,hn,ha,rd⟩:=hg.dif eg;obtain ⟨a',rfl,hn'⟩:=ry;rw [hn] at hn';cases hn';obtain ⟨b,rfl,hb⟩:=fk ek rx;exact ⟨a,_,rfl,.inr ⟨ws,_,b,.inr ⟨ob,ha⟩,rfl,hb,rfl⟩,rd.val k,λu z=>rd.got k z⟩
    | _=>rw [eg] at ed;cases ed
  | _=>cases ed
end
section
variable{X:Cx}
theorem CM(hu:X.A.units+1 < cLine):OpR X (compareOp .In) (λy x H Q => ∃ a o,x=.ref a/\DGet H a y o/\Q (.bl o.isSome) H):=by
 intro pins s σ H y x v u Q I ry rx ⟨a,o,e,g,q⟩;subst e;obtain rfl:u=Value.ref a:=rx;exact Gc hu I g ry λs3 I3=>⟨.bl o.isSome,H,I3,rfl,q⟩
theorem yo(hu:X.A.units+1 < cLine):OpR X (compareOp .NotIn) (λy x H Q => ∃ a o,x=.ref a/\DGet H a y o/\Q (.bl (!o.isSome)) H):=by
 intro pins s σ H y x v u Q I ry rx ⟨a,o,e,g,q⟩;subst e;obtain rfl:u=Value.ref a:=rx;exact yE hu I g ry λs3 I3=>⟨.bl (!o.isSome),H,I3,rfl,q⟩
theorem qK{f:Value->Value->Sem Value}{r r':R2}(h:OpR X f r)(h':OpR X f r'):OpR X f (λx y H Q=>r x y H Q\/r' x y H Q):=λpins s σ H x y v u Q I rx ry q =>
 q.elim (λq=>h pins s σ H x y v u Q I rx ry q) λq=>h' pins s σ H x y v u Q I rx ry q
theorem DM{pins:List (Addr×Obj)}{σ:L2.St}{H:Hp}{s:Shared}{a b:Addr}{kvs:List (List Key×V)}{k:List Key}{v:V}{r:Value}{E:Value->Shared->Prop}{Q:Unit->Shared->Prop}(hu:X.A.units+1 < cLine)(I:L2.Inv X pins σ H s)(e:H a=some (.dT kvs))(eb:H b=some (.tup (k.map kV)))(l:kvs.length < sizeLine)(rv:RelV v r)
  (h:∀ s',L2.Inv X pins σ (upd H a (.dT (putK kvs k v))) s'->Q () s'):wpAny (model X.prog X.w) X.A (dictSet a (.ref b) r) Q E s:=by
 obtain ⟨z,hd,xs,rel,dd⟩:=kf I.hok e;refine wpAny_dictSet_heap (hsz:=by rw [<-Paired.length rel];exact z) (by exact Nat.lt_of_succ_lt hu) (df I.hok eb) dd λh' dd' hs=>h _ ?_
 obtain ⟨q,es,ep,hq,h2,h3,h4,_,h5⟩:=dd';refine gK I (by rw [e];exact True.intro) hs ⟨q,hq⟩ ⟨by have:=iP kvs k v;omega,hd,_,(rel.put k eb rv).keeps λc ys ec => ?_,q,es,ep,hq,h2,h3,h4,h5⟩
 rw [ar (dj ec e (λz=>nomatch z))];exact ec
noncomputable def EM:fW:=λo i v H Q => ∃ a H',o=.ref a/\DPut H a i v H'/\Q H'
theorem set_dict(hu:X.A.units+1 < cLine):eD X EM:=by
 intro pins s σ H o i v ov iv u Q I ro ri rv ⟨a,H',e,g,q⟩;subst e;obtain rfl:ov=Value.ref a:=ro;exact u6 hu I g ri rv λs4 I4=>⟨H',I4,q⟩
theorem zb{r r':fW}(h:eD X r)(h':eD X r'):eD X (λo i v H Q=>r o i v H Q\/r' o i v H Q):=λpins s σ H o i v ov iv u Q I ro ri rv q =>
 q.elim (λq=>h pins s σ H o i v ov iv u Q I ro ri rv q) λq=>h' pins s σ H o i v ov iv u Q I ro ri rv q
end
section
variable{prog:Program}{w:World}{A:Around}{E:Value->Shared->Prop}{s:Shared}{l:Addr}{vs:List Value}{ns:List Int}{Q:Value->Shared->Prop}
end
section
variable{X:Cx}
end
section
variable{X:Cx}{W:XQ}{C:Nat->List U->G->Out U}{r:L}{pos:Pos}{a b c:Expr}{a' b' c':E}
theorem one{α β:Type}{R:List Addr->Hp->α->β->Prop}{f:Su->G->Out U}{k:Su->U->G->Out α}{σ:L2.St}{H:Hp}{Q:β->Hp->Prop}{Q2:V->Hp->Prop}
  (hp:∃ σu ρ g,RS X.K ρ H σu σ/\RH X.K ρ H g/\post X.K W R ((f σu g).bind λx g=>k σu x g) ρ H Q)
  (imp:∀ σu ρ H g u x,RS X.K ρ H σu σ->RH X.K ρ H g->RV X.K ρ H u x->post X.K W R (k σu u g) ρ H Q->Q2 x H):tE X.K W f σ H Q2:=by
 obtain ⟨σu,ρ,g,hs,hg,p⟩:=hp;exact ⟨σu,ρ,g,hs,hg,(post.bind p).mono λx H1 ⟨ρ1,u,g1,s1,h1,r1,p1⟩=>imp σu ρ1 H1 g1 u x (hs.step s1) h1 r1 p1⟩
theorem two{α β:Type}{R:List Addr->Hp->α->β->Prop}{f h:Su->G->Out U}{k:Su->U->U->G->Out α}{σ:L2.St}{H:Hp}{Q:β->Hp->Prop}{Q2:V->V->Hp->Prop}
  (hp:∃ σu ρ g,RS X.K ρ H σu σ/\RH X.K ρ H g/\post X.K W R ((f σu g).bind λx g=>(h σu g).bind λy g=>k σu x y g) ρ H Q)
  (imp:∀ σu ρ H g u w x y,RS X.K ρ H σu σ->RH X.K ρ H g->RV X.K ρ H u x->RV X.K ρ H w y->post X.K W R (k σu u w g) ρ H Q->Q2 x y H) :
  tE X.K W f σ H λx H1=>tE X.K W h σ H1 λy H2=>Q2 x y H2:=by
 obtain ⟨σu,ρ,g,hs,hg,p⟩:=hp;refine ⟨σu,ρ,g,hs,hg,(post.bind p).mono λx H1 ⟨ρ1,u,g1,s1,h1,r1,p1⟩ => ?_⟩;refine ⟨σu,ρ1,g1,hs.step s1,h1,(post.bind p1).mono λy H2 ⟨ρ2,w,g2,s2,h2,r2,p2⟩ => ?_⟩;exact imp σu ρ2 H2 g2 u w x y ((hs.step s1).step s2) h2 (RV.step s2 _ _ r1) r2 p2
theorem BK{i:Nat}{x:Str}(hN:X.N[i]? = some x)(hv:Vis X.env.scope x)(hd:(x == ("__debug__" : Str))=false)(hcd:(x == ("__classdict__" : Str))=false):PE X (.Name x pos) (tE X.K W (evF C r (.var i))):=by
 refine (zS hN hv hd hcd).imp λσ H Q ⟨σu,ρ,g,hs,hg,p⟩ => ?_;simp only [evF] at p;cases e:σu[i]? with
 | none=>simp [e] at p;exact p.elim
 | some o =>
  cases o with
  | none=>simp [e] at p;exact p.elim
  | some u =>
   simp only [e] at p;obtain ⟨v,e1,e2⟩:=hs.val i u e;exact ⟨v,e1,post.okHere p hg e2⟩
theorem fD{u:U}{v:V}{e:Expr}(h:PE X e (tC v))(hr:∀ ρ H,RV X.K ρ H u v):PE X e (tE X.K W (evF C r (.cst u))) :=
 h.imp λσ H Q ⟨σu,ρ,g,hs,hg,p⟩=>post.okHere (u:=u) p hg (hr ρ H)
theorem dR{o:Operator}{op:Op}{r2:R2}(ho:OpR X (binaryOp o) r2)
  (imp:∀ u w z x y ρ (H:Hp) Q,RV X.K ρ H u x->RV X.K ρ H w y->op2 op u w=some z->(∀ v,RV X.K ρ H z v->Q v H)->r2 x y H Q)
  (imp2:∀ u w x y ρ (H:Hp) g p Q,RH X.K ρ H g->RV X.K ρ H u x->RV X.K ρ H w y->bL u w g=some p->post X.K W (RV X.K) (bJ op u w g) ρ H Q->r2 x y H Q)
  (ha:PE X a (tE X.K W (r.ev a'))) (hb:PE X b (tE X.K W (r.ev b'))):PE X (.BinOp a o b pos) (tE X.K W (evF C r (.bin op a' b'))):=by
 refine (FG ho ha hb).imp λσ H Q hp=>two hp λσu ρ H g u w x y hs hg r1 r2 p => ?_;cases el:bL u w g with
 | some q=>exact imp2 u w x y ρ H g q Q hg r1 r2 el p
 | none =>
  have p:post X.K W (RV X.K) (bJ op u w g) ρ H Q:=p;unfold bJ at p;rw [el] at p;obtain ⟨z,e,p⟩:=post.lift p;exact imp u w z x y ρ H Q r1 r2 e λv rv=>post.okHere p hg rv
theorem ff{op:Op}(h:op ≠ .add){r2:R2}(u w:U)(x y:V)(ρ:List Addr)(H:Hp)(g:G)(q:List U×List U)(Q:VK)(_:RH X.K ρ H g)(_:RV X.K ρ H u x)(_:RV X.K ρ H w y)(el:bL u w g=some q)(p:post X.K W (RV X.K) (bJ op u w g) ρ H Q):r2 x y H Q:=by
 unfold bJ at p;rw [el] at p;cases op <;> first | exact absurd rfl h | exact p.elim
theorem rf{f:Value->Value->Sem Value}{r r':R2}(h:OpR X f r)(h':OpR X f r'):OpR X f λx y H Q=>r x y H Q\/r' x y H Q:=λpins s σ H x y v u Q I rx ry q=>q.elim (h pins s σ H x y v u Q I rx ry) (h' pins s σ H x y v u Q I rx ry)
theorem zw(u w:U)(x y:V)(ρ:List Addr)(H:Hp)(g:G)(q:List U×List U)(Q:VK)(hg:RH X.K ρ H g)(r1:RV X.K ρ H u x)(r2:RV X.K ρ H w y)(el:bL u w g=some q)(p:post X.K W (RV X.K) (bJ .add u w g) ρ H Q):sI x y H Q:=by
 unfold bJ at p;rw [el] at p;dsimp only at p;split at p
 .rename_i hl
  obtain ⟨n,m,rfl,rfl,g1,g2⟩:=ox el;obtain ⟨a1,vs,c1,c2,c3⟩:=hg.lst g1;obtain ⟨a2,ws,d1,d2,d3⟩:=hg.lst g2;obtain ⟨a1',rfl,z⟩:=r1;rw [c1] at z;cases z;obtain ⟨a2',rfl,z⟩:=r2;rw [d1] at z;cases z;refine ⟨a1,a2,vs,ws,rfl,rfl,c2,d2,by rw [<-c3.length,<-d3.length,sizeLine_eq];unfold ab at hl;omega,λl hl' => ?_⟩
  exact p (.ref l) _ _ (Stp.alloc hl') (hg.alloc hl' (c3.append d3)) ⟨l,rfl,by rw [<-hg.len];simp⟩
 .exact p.elim
theorem dN{op:Op}{g:Int->Int->Int}{Cc:Int->Int->Prop}(h:∀ u w z,op2 op u w=some z -> ∃ i j,u=.int i/\w=.int j/\z=.int (g i j)/\Cc i j){K:GJ}(u w z:U)(x y:V)(ρ:List Addr)(H:Hp)(Q:VK)(r1:RV K ρ H u x)(r2:RV K ρ H w y)
  (e:op2 op u w=some z) (q:∀ v,RV K ρ H z v->Q v H):rI Cc (λi j => .int (g i j)) x y H Q:=by
 obtain ⟨i,j,rfl,rfl,rfl,hc⟩:=h u w z e;cases r1;cases r2;exact ⟨i,j,rfl,rfl,hc,q _ rfl⟩
theorem qo{f:Value->Value->Sem Value}{g:Int->Int->V}(h:OpR X f (rI0 g)):OpR X f (rI (λ_ _=>True) g):=λpins s σ H x y v u Q I rx ry ⟨i,j,e1,e2,_,q⟩=>h pins s σ H x y v u Q I rx ry ⟨i,j,e1,e2,q⟩
theorem log2_small{n:Nat}(h:n < 115792089237316195423570985008687907853269984665640564039457584007913129639936):n.log2 < 9000:=by
 by_cases h0:n=0
 .subst h0;decide
 .exact GC ((Nat.log2_lt h0).mpr (show n < 2 ^ 256 from h)) (by decide)
theorem yh:OpR X (binaryOp .FloorDiv) (rI (λi j=>j≠0 /\ -az < j/\j < az) λi j => .int (i.fdiv j)):=opI λi j _ _ _ _ _ hc q =>
 floordiv_int hc.1 q (.inl (PyProof.noPylong_of_log2 (log2_small (by have:=hc.2;unfold az at this;omega))))
theorem yV:OpR X (binaryOp .Mult) (rI (λi j=>CMul i j\/((-az < i/\i < az) /\ -az < j/\j < az)) λi j => .int (i*j)):=opI λi j _ _ _ _ _ hc q=>by
 rcases hc with hc | ⟨⟨h1,h2⟩,h3,h4⟩
 .exact mul_int q hc.ok
 .unfold az at h1 h2 h3 h4
  exact mul_int q (IntMulOk.of_bits (Gy (intBits_le (k:=256) (show i.natAbs < 115792089237316195423570985008687907853269984665640564039457584007913129639936 by omega)) (by decide)) (Gy (intBits_le (k:=256) (show j.natAbs < 115792089237316195423570985008687907853269984665640564039457584007913129639936 by omega)) (by decide)))
theorem dI{op:Op}{u w z:U}(e:op2 op u w=some z):∃ i j,u=.int i/\w=.int j:=by
 cases u <;> first | (cases op <;> cases e <;> done) | skip
 cases w <;> first | (cases op <;> cases e <;> done) | skip
 exact ⟨_,_,rfl,rfl⟩
theorem wX{op:Op}{o:Operator}(hop:(op=.add/\o = .Add)\/(op=.sub/\o = .Sub)\/(op=.mul/\o = .Mult)\/(op=.fdiv/\o = .FloorDiv)\/(op=.mod/\o = .Mod)\/(op=.pow/\o = .Pow))
  (ha:PE X a (tE X.K W (r.ev a'))) (hb:PE X b (tE X.K W (r.ev b'))):PE X (.BinOp a o b pos) (tE X.K W (evF C r (.bin op a' b'))):=by
 rcases hop with ⟨rfl,rfl⟩ | ⟨rfl,rfl⟩ | ⟨rfl,rfl⟩ | ⟨rfl,rfl⟩ | ⟨rfl,rfl⟩ | ⟨rfl,rfl⟩
 .exact dR (rf (qo jL) AE) (λu w z x y ρ H Q r1 r2 e q => .inl (dN (λu w z e=>by
   obtain ⟨i,j,rfl,rfl⟩:=dI e;cases e;exact ⟨_,_,rfl,rfl,rfl,trivial⟩) u w z x y ρ H Q r1 r2 e q)) (λu w x y ρ H g q Q hg r1 r2 el p => .inr (zw u w x y ρ H g q Q hg r1 r2 el p)) ha hb
 .exact dR (qo jO) (dN λu w z e=>by
   obtain ⟨i,j,rfl,rfl⟩:=dI e;cases e
   exact ⟨_,_,rfl,rfl,rfl,trivial⟩) (ff (by simp)) ha hb
 .refine dR yV (dN λu w z e => ?_) (ff (by simp)) ha hb
  obtain ⟨i,j,rfl,rfl⟩:=dI e;simp only [op2,opZ,Option.ite_none_right_eq_some,Option.some.injEq] at e;obtain ⟨h,rfl⟩:=e;refine ⟨_,_,rfl,rfl,rfl,?_⟩;rw [Bool.or_eq_true,Bool.or_eq_true,Bool.and_eq_true,Bool.and_eq_true,Bool.and_eq_true,Bool.and_eq_true,Bool.and_eq_true] at h;unfold CMul;rw [show ((2:Int) ^ 64)=dm from rfl];rcases h with (⟨h1,h2⟩ | ⟨h1,h2⟩) | ⟨⟨⟨h1,h2⟩,h3⟩,h4⟩
  .exact .inl (.inl ⟨GI h1,GI h2⟩)
  .exact .inl (.inr ⟨GI h1,GI h2⟩)
  .exact .inr ⟨⟨GI h1,GI h2⟩,GI h3,GI h4⟩
 .refine dR yh (dN λu w z e => ?_) (ff (by simp)) ha hb
  obtain ⟨i,j,rfl,rfl⟩:=dI e;simp only [op2,opZ] at e;refine ⟨i,j,rfl,rfl,?_⟩;by_cases h0:0 < j
  .rw [if_pos h0] at e
   have ef:i / j=i.fdiv j:=(Int.fdiv_eq_ediv_of_nonneg i (by omega)).symm
   by_cases h1:j < az
   .rw [if_pos h1] at e
    rw [<-ef];exact ⟨(Option.some.inj e).symm,by omega,by unfold az;omega,h1⟩
   .rw [if_neg h1] at e;cases e
  .rw [if_neg h0] at e
   by_cases h1:j=0
   .rw [if_pos h1] at e;cases e
   .rw [if_neg h1] at e
    by_cases h2 : -az < j
    .rw [if_pos h2] at e
     exact ⟨(Option.some.inj e).symm,h1,h2,by unfold az;omega⟩
    .rw [if_neg h2] at e;cases e
 .refine dR xt (dN λu w z e => ?_) (ff (by simp)) ha hb
  obtain ⟨i,j,rfl,rfl⟩:=dI e;simp only [op2,opZ] at e;refine ⟨i,j,rfl,rfl,?_⟩;by_cases h0:0 < j
  .rw [if_pos h0] at e
   have ef:i % j=i.fmod j:=(Int.fmod_eq_emod_of_nonneg i (by omega)).symm
   rw [<-ef];exact ⟨(Option.some.inj e).symm,by omega⟩
  .rw [if_neg h0] at e
   by_cases h1:j=0
   .rw [if_pos h1] at e;cases e
   .rw [if_neg h1] at e
    exact ⟨(Option.some.inj e).symm,h1⟩
 .exact dR Ag (dN λu w z e=>by
   obtain ⟨i,j,rfl,rfl⟩:=dI e;simp only [op2,opZ,Option.ite_none_right_eq_some,Option.some.injEq] at e;obtain ⟨h,rfl⟩:=e;refine ⟨_,_,rfl,rfl,rfl,?_⟩;unfold tF
   omega) (ff (by simp)) ha hb
noncomputable def b5(X:Cx)(op:Cp)(o:CmpOp):Prop := ∃ r2,OpR X (compareOp o) r2 /\ ∀ ρ (H:Hp) g u w x y b Q,RH X.K ρ H g->RV X.K ρ H u x->RV X.K ρ H w y->cmp2 op u w g=some b->Q (V.bl b) H->r2 x y H Q
theorem gg{op:Cp}{o:CmpOp}{f:Int->Int->Bool}(ho:OpR X (compareOp o) (rI0 λi j => .bl (f i j)))(h:∀ u w g b,cmp2 op u w g=some b -> ∃ i j,u=.int i/\w=.int j/\b=f i j):b5 X op o :=
 ⟨_,ho,λρ H g u w x y b Q hg r1 r2 e q=>by
  obtain ⟨i,j,rfl,rfl,rfl⟩:=h u w g b e;cases r1;cases r2;exact ⟨i,j,rfl,rfl,q⟩⟩
theorem mV{K:GJ}{ρ:List Addr}{H:Hp}{u:U}{x:V}(h:RV K ρ H u x):bI u=decide (x=.non):=by
 cases u with
 | tup us=>obtain ⟨a,vs,rfl,_⟩:=h;rfl
 | fro us=>obtain ⟨a,vs,rfl,_⟩:=h;rfl
 | ref us=>obtain ⟨a,rfl,_⟩:=h;rfl
 | xn _ us=>obtain ⟨a,vs,rfl,_⟩:=h;rfl
 | _=>cases h;rfl
theorem gU{f:Int->Int->Bool}{u w:U}{b:Bool}(e:(match u,w with | .int i,.int j=>some (f i j) | _,_=>none)=some b):∃ i j,u=.int i/\w=.int j/\b=f i j:=by
 cases u <;> first | (cases e;done) | skip
 cases w <;> first | (cases e;done) | skip
 exact ⟨_,_,rfl,rfl,(Option.some.inj e).symm⟩
theorem uT{u w:U}(h:ee u w=true):(u=.non/\w=.non)\/(∃ a b,u=.bl a/\w=.bl b)\/(∃ a b,u=.int a/\w=.int b) \/ ∃ a b,u=.str a/\w=.str b:=by
 cases u <;> cases w <;> first | (cases h;done) | exact .inl ⟨rfl,rfl⟩ | exact .inr (.inl ⟨_,_,rfl,rfl⟩) | exact .inr (.inr (.inl ⟨_,_,rfl,rfl⟩)) | exact .inr (.inr (.inr ⟨_,_,rfl,rfl⟩))
theorem FF(hu:X.A.units+2 < cLine)(op:Cp)(o:CmpOp)(h:(op=.eq/\o = .Eq)\/(op=.ne/\o = .NotEq)\/(op=.lt/\o = .Lt)\/(op=.le/\o = .LtE)\/(op=.gt/\o = .Gt)\/(op=.ge/\o = .GtE)\/(op=.isN/\o = .Is)\/(op=.notN/\o = .IsNot)\/(op=.inn/\o = .In)\/(op=.nin/\o = .NotIn)):b5 X op o:=by
 rcases h with ⟨rfl,rfl⟩ | ⟨rfl,rfl⟩ | ⟨rfl,rfl⟩ | ⟨rfl,rfl⟩ | ⟨rfl,rfl⟩ | ⟨rfl,rfl⟩ | ⟨rfl,rfl⟩ | ⟨rfl,rfl⟩ | ⟨rfl,rfl⟩ | ⟨rfl,rfl⟩
 .refine ⟨_,rf (Cg (by omega)) (Ae hu),λρ H g u w x y b Q hg r1 r2 e q => ?_⟩
  simp only [cmp2] at e;cases el:bL u w g with
  | none=>rw [el] at e;exact .inl ⟨ρ,u,w,b,r1,r2,e,q⟩
  | some p=>rw [el] at e;exact .inr ⟨ρ,g,u,w,p,b,hg,r1,r2,el,e,q⟩
 .refine ⟨_,Ft,λρ H g u w x y b Q hg r1 r2 e q => ?_⟩
  have hs:ee u w=true:=by
   cases hs:ee u w with
   | true=>rfl
   | false=>simp only [cmp2,hs,Bool.false_eq_true,if_false,reduceCtorEq] at e
  rcases uT hs with ⟨rfl,rfl⟩ | ⟨a,c,rfl,rfl⟩ | ⟨a,c,rfl,rfl⟩ | ⟨a,c,rfl,rfl⟩ <;> simp only [cmp2,ee,if_true,aA,Option.map_some,Option.some.injEq] at e <;> subst e <;> cases r1 <;> cases r2 <;> refine ⟨rfl,?_⟩ <;>
   first | exact q | (rw [pW];exact q) | (rw [qr];exact q) | (rw [qd];exact q) | simpa using q
 .exact gg Ek λu w g b e=>gU e
 .exact gg D4 λu w g b e=>gU e
 .exact gg C2 λu w g b e=>gU e
 .exact gg Fo λu w g b e=>gU e
 .refine ⟨_,AM,λρ H g u w x y b Q hg r1 r2 e q => ?_⟩
  cases w <;> simp only [cmp2,bI,if_true,Bool.false_eq_true,if_false,Option.some.injEq,reduceCtorEq] at e
  cases r2;subst e;refine ⟨rfl,?_⟩;rw [<-mV r1];cases u <;> exact q
 .refine ⟨_,yg,λρ H g u w x y b Q hg r1 r2 e q => ?_⟩
  cases w <;> simp only [cmp2,bI,if_true,Bool.false_eq_true,if_false,Option.some.injEq,reduceCtorEq] at e
  cases r2;subst e;refine ⟨rfl,?_⟩;rw [<-mV r1];cases u <;> exact q
 .refine ⟨_,qK (Aw (by omega)) (CM (by omega)),λρ H g u w x y b Q hg r1 r2 e q => ?_⟩
  simp only [cmp2] at e;cases ei:items w g with
  | none =>
   simp only [ei] at e;obtain ⟨o,eo,rfl⟩:=Option.map_eq_some_iff.mp e;obtain ⟨a,ov,ey,dg,es,_⟩:=jt hg r1 r2 eo;exact .inr ⟨a,ov,ey,dg,by rw [es];exact q⟩
  | some us=>simp only [ei] at e;exact .inl ⟨ρ,g,u,w,us,b,hg,r1,r2,ei,e,q⟩
 .refine ⟨_,qK (xw (by omega)) (yo (by omega)),λρ H g u w x y b Q hg r1 r2 e q => ?_⟩
  simp only [cmp2] at e;cases ei:items w g with
  | none =>
   simp only [ei] at e;obtain ⟨o,eo,rfl⟩:=Option.map_eq_some_iff.mp e;obtain ⟨a,ov,ey,dg,es,_⟩:=jt hg r1 r2 eo;exact .inr ⟨a,ov,ey,dg,by rw [es];exact q⟩
  | some us =>
   simp only [ei] at e;cases eu:uin u us with
   | none=>simp [eu] at e
   | some d=>simp only [eu,Option.map_some,Option.some.injEq] at e;subst e;exact .inl ⟨ρ,g,u,w,us,d,hg,r1,r2,ei,eu,q⟩
theorem zY{op:Cp}{o:CmpOp}(ho:b5 X op o)(hm:behindInMarks o b=false)(ha:PE X a (tE X.K W (r.ev a')))(hb:PE X b (tE X.K W (r.ev b'))):PE X (.Compare a [o] [b] pos) (tE X.K W (evF C r (.cmp op a' b'))):=by
 obtain ⟨r2,ho,imp⟩:=ho;refine (yx ho ha hb hm).imp λσ H Q hp=>two hp λσu ρ H g u w x y hs hg r1 r2 p => ?_;cases e:cmp2 op u w g with
 | none=>simp only [e] at p;exact p.elim
 | some k=>simp only [e] at p;exact imp ρ H g u w x y k Q hg r1 r2 e (post.okHere p hg rfl)
theorem AO{op:Cp}{o:CmpOp}(ho:b5 X op o)(hm:behindInMarks o b=false)(ha:PE X a (tE X.K W (r.ev a')))(hb:PE X b (tE X.K W (r.ev b'))):PT X (.Compare a [o] [b] pos) (tT X.K W (λσ g=>(evF C r (.cmp op a' b') σ g).bind λx g=>lift (tru x g) g)):=by
 obtain ⟨r2,ho,imp⟩:=ho;refine (yN ho ha hb hm).imp λσ H Q hp => ?_;have hp':∃ σu ρ g,RS X.K ρ H σu σ/\RH X.K ρ H g/\post X.K W REq ((r.ev a' σu g).bind λx g=>(r.ev b' σu g).bind λy g=>match cmp2 op x y g with | some c=>Out.ok c g | none => .bad) ρ H Q:=by
  obtain ⟨σu,ρ,g,hs,hg,p⟩:=hp;refine ⟨σu,ρ,g,hs,hg,?_⟩;have e:((evF C r (.cmp op a' b') σu g).bind λx g=>lift (tru x g) g)=((r.ev a' σu g).bind λx g=>(r.ev b' σu g).bind λy g=>match cmp2 op x y g with | some c=>Out.ok c g | none => .bad):=by
   simp only [evF];cases r.ev a' σu g with
   | ok x g1 =>
    simp only [Out.bind];cases r.ev b' σu g1 with
    | ok y g2=>simp only [Out.bind];cases cmp2 op x y g2 <;> rfl
    | exc _ _ _=>rfl
    | bad=>rfl
   | exc _ _ _=>rfl
   | bad=>rfl
  have p2:=p
  change post X.K W REq ((evF C r (.cmp op a' b') σu g).bind λx g=>lift (tru x g) g) ρ H Q at p2
  rw [e] at p2;exact p2
 refine two hp' λσu ρ H g u w x y hs hg r1 r2 p => ?_;cases e:cmp2 op u w g with
 | none=>simp only [e] at p;exact p.elim
 | some k=>simp only [e] at p;exact imp ρ H g u w x y k _ hg r1 r2 e ⟨k,rfl,post.okHere p hg rfl⟩
end
section
variable{X:Cx}{W:XQ}{C:Nat->List U->G->Out U}{r:L}{pos:Pos}{a b c:Expr}{a' b' c':E}{rest:List Expr}
theorem okE{u:U}{v:V}{g:G}{ρ:List Addr}{H:Hp}{Q:VK}(p:post X.K W (RV X.K) (.ok u g) ρ H Q)(hg:RH X.K ρ H g)(r:RV X.K ρ H u v):Q v H:=post.okHere p hg r
theorem nv{op op':Cp}{r2 r3:R2}
  (imp:∀ ρ (H:Hp) g u w x y b Q,RH X.K ρ H g->RV X.K ρ H u x->RV X.K ρ H w y->cmp2 op u w g=some b->Q (V.bl b) H->r2 x y H Q)
  (imp':∀ ρ (H:Hp) g u w x y b Q,RH X.K ρ H g->RV X.K ρ H u x->RV X.K ρ H w y->cmp2 op' u w g=some b->Q (V.bl b) H->r3 x y H Q) (σ:L2.St) (H:Hp) (Q:VK) (hp:tE X.K W (evF C r (.chain op op' a' b' c')) σ H Q) :
  jY r2 r3 (tE X.K W (r.ev a')) (tE X.K W (r.ev b')) (tE X.K W (r.ev c')) σ H Q:=by
 refine two hp λσu ρ H g u w x y hs hg r1 r2 p => ?_;cases e:cmp2 op u w g with
 | none=>simp only [e] at p;exact p.elim
 | some k =>
  refine imp ρ H g u w x y k _ hg r1 r2 e ⟨k,rfl,?_⟩;cases k with
  | false=>simp only [e] at p;exact eE (okE p hg rfl)
  | true =>
   simp only [e] at p;refine eF ?_;refine ⟨σu,ρ,g,hs,hg,(post.bind p).mono λv H2 ⟨ρ2,z,g2,s2,h2,rz,p2⟩ => ?_⟩;cases e2:cmp2 op' w z g2 with
   | none=>simp only [e2] at p2;exact p2.elim
   | some k2=>simp only [e2] at p2;exact imp' ρ2 H2 g2 w z y v k2 Q h2 (RV.step s2 _ _ r2) rz e2 (okE p2 h2 rfl)
theorem wj{op op':Cp}{o o':CmpOp}(ho:b5 X op o)(ho':b5 X op' o')(hm:lastMarks [o,o'] [b,c]=false)(ha:PE X a (tE X.K W (r.ev a')))(hb:PE X b (tE X.K W (r.ev b')))(hc:PE X c (tE X.K W (r.ev c'))):
  PE X (.Compare a [o,o'] [b,c] pos) (tE X.K W (evF C r (.chain op op' a' b' c'))):=by
 obtain ⟨r2,ho,imp⟩:=ho;obtain ⟨r3,ho',imp'⟩:=ho';exact (wU ho ho' ha hb hc hm).imp (nv imp imp')
theorem wI{f:Su->G->Out U}(hf:∀ σ g u g',f σ g=.ok u g' -> ∃ c,u=.bl c)(σ:L2.St)(H:Hp)(Q:Bool->Hp->Prop)(hp:tT X.K W (λσ g=>(f σ g).bind λx g=>lift (tru x g) g) σ H Q):tE X.K W f σ H (λx H1 => ∃ c,x=.bl c/\Q c H1):=by
 obtain ⟨σu,ρ,g,hs,hg,p⟩:=hp;refine ⟨σu,ρ,g,hs,hg,?_⟩;have hk:=hf σu g
 change post X.K W REq ((f σu g).bind λx g=>lift (tru x g) g) ρ H Q at p
 revert p hk;cases f σu g with
 | ok u g1 =>
  intro hk p;obtain ⟨c,rfl⟩:=hk u g1 rfl;intro v ρ1 H1 s1 h1 r1;cases r1;exact ⟨c,rfl,p c ρ1 H1 s1 h1 rfl⟩
 | exc c fs g1=>exact λ_ p=>p
 | bad=>exact λ_ p=>p
theorem vO{op op':Cp}(σ:Su)(g:G)(u:U)(g':G)(h:evF C r (.chain op op' a' b' c') σ g=.ok u g'):∃ c,u=.bl c:=by
 simp only [evF] at h;revert h;cases r.ev a' σ g with
 | ok x g1 =>
  simp only [Out.bind];cases r.ev b' σ g1 with
  | ok y g2 =>
   simp only [Out.bind];cases cmp2 op x y g2 with
   | none=>intro h;cases h
   | some k =>
    cases k with
    | false=>intro h;cases h;exact ⟨_,rfl⟩
    | true =>
     simp only [];cases r.ev c' σ g2 with
     | ok z g3 =>
      simp only [Out.bind];cases cmp2 op' y z g3 with
      | none=>intro h;cases h
      | some k=>intro h;cases h;exact ⟨_,rfl⟩
     | exc _ _ _=>intro h;cases h
     | bad=>intro h;cases h
  | exc _ _ _=>intro h;cases h
  | bad=>intro h;cases h
 | exc _ _ _=>intro h;cases h
 | bad=>intro h;cases h
theorem w6{op op':Cp}{o o':CmpOp}(ho:b5 X op o)(ho':b5 X op' o')(hm:lastMarks [o,o'] [b,c]=false)(ha:PE X a (tE X.K W (r.ev a')))(hb:PE X b (tE X.K W (r.ev b')))(hc:PE X c (tE X.K W (r.ev c'))):
  PT X (.Compare a [o,o'] [b,c] pos) (tT X.K W (λσ g=>(evF C r (.chain op op' a' b' c') σ g).bind λx g=>lift (tru x g) g)):=by
 obtain ⟨r2,ho,imp⟩:=ho;obtain ⟨r3,ho',imp'⟩:=ho';exact (wY ho ho' ha hb hc hm).imp λσ H Q hp=>nv imp imp' σ H _ (wI vO σ H Q hp)
theorem zR(ha:PE X a (tE X.K W (r.ev a')))(hb:PE X (.BoolOp .And (b :: rest) pos) (tE X.K W (r.ev b'))):PE X (.BoolOp .And (a :: b :: rest) pos) (tE X.K W (evF C r (.and a' b'))):=by
 refine (BQ ha hb).imp λσ H Q hp=>one hp λσu ρ H g u x hs hg r1 p => ?_;cases u with
 | bl k =>
  cases r1;refine ⟨k,rfl,?_⟩;cases k with
  | true=>exact eF ⟨σu,ρ,g,hs,hg,p⟩
  | false=>exact eE (okE p hg rfl)
 | _=>exact p.elim
theorem qH{ρ:List Addr}{H:Hp}{g:G}{u:U}{x:V}{k:Bool}(hg:RH X.K ρ H g)(r1:RV X.K ρ H u x)(e:tru u g=some k):iG X.K x H k:=by
 have len0:∀ {us:List U} {vs:List V},RVs X.K ρ H us vs->(!us.isEmpty) = !vs.isEmpty:=λ{us vs} h=>by
  cases us with
  | nil=>cases h;rfl
  | cons u us=>obtain ⟨v,r,rfl,_⟩:=h;rfl
 cases u with
 | non=>cases r1;cases e;rfl
 | bl b=>cases r1;cases e;rfl
 | int i=>cases r1;cases e;rfl
 | str s=>simp [tru] at e
 | tup us=>obtain ⟨a,vs,rfl,h1,h2⟩:=r1;cases e;exact .inr (.inl ⟨vs,h1.sq,len0 h2⟩)
 | fro us=>obtain ⟨a,vs,rfl,h1,h2⟩:=r1;cases e;exact .inl ⟨vs,h1.sq,len0 h2⟩
 | ref n =>
  obtain ⟨a,rfl,hn⟩:=r1;simp only [tru] at e;cases eg:g[n]? with
  | none=>simp [eg] at e
  | some o =>
   cases o with
   | lst xs =>
    simp only [eg,Option.some.injEq] at e;subst e;obtain ⟨a',vs,h1,h2,h3⟩:=hg.lst eg;rw [hn] at h1;cases h1;exact .inl ⟨vs,.of h2,len0 h3⟩
   | dic _=>simp [eg] at e
   | dif _=>simp [eg] at e
   | dst _=>simp [eg] at e
   | ins _ _=>simp [eg] at e
 | xn _ _=>simp [tru] at e
theorem Al(ha:PE X a (tE X.K W (r.ev a'))):PE X (.UnaryOp .Not a pos) (tE X.K W (evF C r (.not a'))):=by
 intro pins s σ H Q I hp;have hp':tE X.K W (r.ev a') σ H (λx H1 => ∃ k,iG X.K x H1 k/\Q (.bl (!k)) H1):=one hp λσu ρ H g u x hs hg r1 p=>by
  cases e:tru u g with
  | none=>simp only [e] at p;exact p.elim
  | some k=>simp only [e] at p;exact ⟨k,qH hg r1 e,okE p hg rfl⟩
 refine UnaryOp_ (thn (ha pins s σ H _ I hp') λv s1 ⟨x,H1,I1,r1,k,tr,q1⟩ => ?_);exact not_of (thn (qW pins s1 σ H1 x v (λb H2=>Q (.bl (!b)) H2) I1 r1 ⟨k,tr,q1⟩) λb s2 ⟨H2,I2,q2⟩=>⟨.bl (!b),H2,I2,rfl,q2⟩)
theorem vZ(ha:PE X a (tE X.K W (r.ev a')))(he:∀ whole,isTrue a X.env whole=(do let v <- whole;standAt a.pos;holding [v] (truthy v))):PT X a (tT X.K W (λσ g=>(r.ev a' σ g).bind λx g=>lift (tru x g) g)):=by
 refine (wO ha he).imp λσ H Q hp=>one (k:=λ_ x g=>lift (tru x g) g) hp λσu ρ H g u x hs hg r1 p => ?_;obtain ⟨k,e,p⟩:=post.lift p;exact ⟨k,qH hg r1 e,post.okHere p hg rfl⟩
theorem BD(ha:PT X a (tT X.K W (r.ts a')))(hb:PW X (.BoolOp .And (b :: rest) pos) (tT X.K W (r.ts b'))):PW X (.BoolOp .And (a :: b :: rest) pos) (tT X.K W (tsF r (.and a' b'))):=by
 refine (Aj ha hb).imp λσ H Q ⟨σu,ρ,g,hs,hg,p⟩ => ?_;refine ⟨σu,ρ,g,hs,hg,(post.bind (R:=REq) p).mono λk H1 ⟨ρ1,k',g1,s1,h1,e1,p1⟩ => ?_⟩;subst e1;cases k' with
 | true=>exact eF ⟨σu,ρ1,g1,hs.step s1,h1,p1⟩
 | false=>exact eE (post.okHere p1 h1 rfl)
theorem Bq(ha:PT X a (tT X.K W (r.ts a'))):PT X (.UnaryOp .Not a pos) (tT X.K W (tsF r (.not a'))):=by
 refine (A0 ha).imp λσ H Q ⟨σu,ρ,g,hs,hg,p⟩ => ?_;refine ⟨σu,ρ,g,hs,hg,(post.bind (R:=REq) p).mono λk H1 ⟨ρ1,k',g1,s1,h1,e1,p1⟩ => ?_⟩;subst e1;exact post.okHere p1 h1 rfl
theorem qQ:PA X [] (tAr X.K W (evs r.ev [])):=hV.imp λσ H Q ⟨σu,ρ,g,hs,hg,p⟩=>post.okHere (R:=RVs X.K) (u:=[]) p hg rfl
theorem qc{es:List Expr}{es':List E}(ha:PE X a (tE X.K W (r.ev a')))(hr:PA X es (tAr X.K W (evs r.ev es')))(hs:starEach (a :: es) X.env=(false,eval a X.env) :: starEach es X.env):PA X (a :: es) (tAr X.K W (evs r.ev (a' :: es'))):=by
 refine (gQ ha hr hs).imp λσ H Q hp=>one hp λσu ρ H g u x hs hg r1 p => ?_;refine ⟨σu,ρ,g,hs,hg,(post.bind p).mono λxs H1 ⟨ρ1,us,g1,s1,h1,rs,p1⟩ => ?_⟩;exact post.okHere (R:=RVs X.K) p1 h1 ⟨x,xs,rfl,RV.step s1 _ _ r1,rs⟩
theorem szl{us:List U}{vs:List V}{ρ:List Addr}{H:Hp}(rs:RVs X.K ρ H us vs)(h:us.length<=ab):vs.length<=sizeLine:=by
 rw [<-rs.length,sizeLine_eq];unfold ab at h;omega
theorem CS{es:List Expr}{es':List E}{k:Nat}(h:PA X es (tAr X.K W (evs r.ev es'))):PE X (.Tuple es k pos) (tE X.K W (evF C r (.tup es'))):=by
 refine (Be h).imp λσ H Q ⟨σu,ρ,g,hs,hg,p⟩ => ?_;refine ⟨σu,ρ,g,hs,hg,(post.bind (R:=RVs X.K) p).mono λxs H1 ⟨ρ1,us,g1,s1,h1,rs,p1⟩ => ?_⟩;by_cases hl:us.length<=ab
 .rw [if_pos hl] at p1
  refine ⟨szl rs hl,λq hq => ?_⟩;exact p1 _ ρ1 _ (Stp.fresh hq) (h1.step_fresh hq) ⟨q,xs,rfl,upd_same,RVs.step (Stp.fresh hq) _ _ rs⟩
 .rw [if_neg hl] at p1;exact p1.elim
theorem cY{us:List U}{xs:List V}{g:G}{ρ:List Addr}{H:Hp}{Q:VK}(p:post X.K W (RV X.K) (alloc (.lst us) g) ρ H Q)(hg:RH X.K ρ H g)(rs:RVs X.K ρ H us xs)(q:Addr)(hq:H q=none):Q (.ref q) (upd H q (.lst xs)):=by
 refine p (.ref q) (ρ++[q]) _ (Stp.alloc hq) (hg.alloc hq rs) ⟨q,rfl,?_⟩;rw [<-hg.len];simp
theorem BY{es:List Expr}{es':List E}(h:PA X es (tAr X.K W (evs r.ev es'))):PE X (.List es pos) (tE X.K W (evF C r (.lst es'))):=by
 refine (BW h).imp λσ H Q ⟨σu,ρ,g,hs,hg,p⟩ => ?_;refine ⟨σu,ρ,g,hs,hg,(post.bind (R:=RVs X.K) p).mono λxs H1 ⟨ρ1,us,g1,s1,h1,rs,p1⟩ => ?_⟩;by_cases hl:us.length<=ab
 .rw [if_pos hl] at p1
  exact ⟨szl rs hl,λq hq=>cY p1 h1 rs q hq⟩
 .rw [if_neg hl] at p1;exact p1.elim
theorem yF{us:List U}{vs:List V}{ρ:List Addr}{H:Hp}{i:Int}{u:U}(rs:RVs X.K ρ H us vs)(e:uix us i=some u):∃ v,atI vs i=some v/\RV X.K ρ H u v:=by
 unfold uix atI at e;unfold atI;rw [<-rs.length];cases ej:ixN us.length i with
 | none=>simp [ej] at e
 | some j =>
  rw [ej] at e;obtain ⟨v,h1,h2⟩:=rs.get (show us[j]? = some u from e);exact ⟨v,h1,h2⟩
theorem Cy(hu:X.A.units+1 < cLine)(ha:PE X a (tE X.K W (r.ev a')))(hb:PE X b (tE X.K W (r.ev b')))(hs:jD b):PE X (.Subscript a b pos) (tE X.K W (evF C r (.idx a' b'))):=by
 refine (EZ ((xI.or A6).or (xT hu)) ha hb hs).imp λσ H Q hp=>two hp λσu ρ H g u w x y hs hg r1 r2 p => ?_;cases w with
 | int i =>
  cases r2;cases e:items u g with
  | none=>simp only [e] at p;exact p.elim
  | some us =>
   simp only [e] at p;obtain ⟨z,ez,p⟩:=post.lift p;obtain ⟨q,vs,rfl,hq,rs⟩:=eS hg r1 e;obtain ⟨v,ev,rv⟩:=yF rs ez;rcases hq with hq | hq
   .exact .inl (.inl ⟨q,vs,i,v,rfl,rfl,hq,ev,okE p hg rv⟩)
   .exact .inl (.inr ⟨q,vs,i,v,rfl,rfl,hq,ev,okE p hg rv⟩)
 | tup us =>
  obtain ⟨z,ez,p⟩:=post.lift p;obtain ⟨o,eo,eo'⟩:=Option.bind_eq_some_iff.mp ez;obtain ⟨q,ov,rfl,dg,_,got⟩:=jt hg r2 r1 eo;obtain ⟨v,rfl,rv⟩:=got z eo';exact .inr ⟨q,v,rfl,dg,okE p hg rv⟩
 | str k =>
  obtain ⟨z,ez,p2⟩:=post.lift p;clear p;obtain ⟨kvs,eo,eo'⟩:=Option.bind_eq_some_iff.mp ez;obtain ⟨n,q,ws,rfl,_,_,rfl,ha,rk⟩:=BH hg r1 eo;obtain ⟨v,ev,rv⟩:=rk.got k eo';cases r2;exact .inr ⟨q,v,rfl,by rw [<-ev];exact DGet.k (k:=Sum.inr k) ha,okE p2 hg rv⟩
 | _=>exact p.elim
theorem iO{K:GJ}{ρ:List Addr}{H:Hp}:∀ ns:List Int,RVs K ρ H (ns.map U.int) (ns.map V.int)
 | []=>rfl
 | n :: ns=>⟨.int n,ns.map V.int,rfl,rfl,iO ns⟩
theorem se_bi{b:Bi}{f:Str}{p':Pos}{e:Expr}{es:List Expr}{es':List E}{rr:List V->Hp->VK->Prop}(h:PE X (.Call (.Name f p') (e :: es) [] pos) (tCB rr (tAr X.K W (evs r.ev es'))))
  (imp:∀ ρ H g us xs Q,RH X.K ρ H g->RVs X.K ρ H us xs->post X.K W (RV X.K) (bi1 b us g) ρ H Q->rr xs H Q):PE X (.Call (.Name f p') (e :: es) [] pos) (tE X.K W (evF C r (.bi b es'))):=by
 refine h.imp λσ H Q ⟨σu,ρ,g,hs,hg,p⟩ => ?_;exact ⟨σu,ρ,g,hs,hg,(post.bind (R:=RVs X.K) p).mono λxs H1 ⟨ρ1,us,g1,s1,h1,rs,p1⟩=>imp ρ1 H1 g1 us xs Q h1 rs p1⟩
theorem imp_len(ρ:List Addr)(H:Hp)(g:G)(us:List U)(xs:List V)(Q:VK)(hg:RH X.K ρ H g)(rs:RVs X.K ρ H us xs)(p:post X.K W (RV X.K) (bi1 .len us g) ρ H Q):
  ∃ p ys,xs=[.ref p]/\(SqL X.K H p ys\/SqT X.K H p ys)/\Q (.int ys.length) H:=by
 match us,rs with
 | [u],rs =>
  obtain ⟨x,r',rfl,r1,e⟩:=rs;cases e;simp only [bi1,ke,dX] at p;cases e:items u g with
  | none=>simp only [e] at p;exact p.elim
  | some zs =>
   simp only [e] at p;obtain ⟨q,vs,rfl,hq,rz⟩:=eS hg r1 e;exact ⟨q,vs,rfl,hq,by rw [<-rz.length];exact okE p hg rfl⟩
 | [],_=>exact p.elim
 | _ :: _ :: _,_=>exact p.elim
theorem zl:PE X (.Dict [] [] pos) (tE X.K W (evF C r .dnew)):=by
 refine (wx).imp λσ H Q ⟨σu,ρ,g,hs,hg,p⟩ q hq => ?_;refine p (.ref q) (ρ++[q]) _ (Stp.alloc hq) (hg.allocO hq ⟨[],rfl,rfl⟩) ⟨q,rfl,?_⟩;rw [<-hg.len];simp
end
theorem jh(a:List Int):∀ {r:List (List Int)} {x:List Int},x∈be a r ↔ x=a\/x∈r
 | [],x=>by simp [be]
 | b :: r,x=>by
  unfold be;split
  .rename_i e;subst e;simp
  .split
   .simp
   .rw [List.mem_cons,jh a,List.mem_cons]
    constructor
    .rintro (h | h | h)
     .exact .inr (.inl h)
     .exact .inl h
     .exact .inr (.inr h)
    .rintro (h | h | h)
     .exact .inr (.inl h)
     .exact .inl h
     .exact .inr (.inr h)
theorem dh:∀ {l:List (List Int)} {x:List Int},x∈sU l ↔ x∈l
 | [],x=>Iff.rfl
 | a :: l,x=>by
  show x∈be a (sU l) ↔ _;rw [jh,dh,List.mem_cons]
theorem ou(a:List Int):∀ {r:List (List Int)},r.Pairwise (λx y=>ak x y=true)->(be a r).Pairwise λx y=>ak x y=true
 | [],_=>by simp [be]
 | b :: r,h=>by
  obtain ⟨h1,h2⟩:=List.pairwise_cons.mp h;unfold be;split
  .exact h
  .rename_i hne
   split
   .rename_i hl
    refine List.pairwise_cons.mpr ⟨λx hx => ?_,h⟩;rcases List.mem_cons.mp hx with rfl | hx
    .exact hl
    .exact fh hl (h1 x hx)
   .rename_i hl
    refine List.pairwise_cons.mpr ⟨λx hx => ?_,ou a h2⟩;rcases (jh a).mp hx with rfl | hx
    .cases hb:ak b x with
     | true=>rfl
     | false=>exact absurd (fb (by simpa using hl) hb) hne
    .exact h1 x hx
theorem cF:∀ l:List (List Int),(sU l).Pairwise λx y=>ak x y=true
 | [] => .nil
 | a :: l=>ou a (cF l)
theorem qG:∀ {a:List (List Int)},a.Pairwise (λx y=>ak x y=true)->a.Nodup:=λh=>h.imp λ{x y} hl e=>by rw [e,eX] at hl;cases hl
theorem B6{ks l:List (List Int)}(hn:l.Nodup)(h:∀ x,x∈l ↔ x∈ks):l.length=(sU ks).length :=
 ((List.perm_ext_iff_of_nodup hn (qG (cF ks))).mpr λx=>(h x).trans dh.symm).length_eq
theorem pL(a:List Int):∀ r:List (List Int),(be a r).length<=r.length+1
 | []=>GA _
 | b :: r=>by
  unfold be;split
  .exact Nat.le_succ _
  .split
   .exact GA _
   .rw [List.length_cons,List.length_cons];exact Nat.succ_le_succ (pL a r)
theorem j9:∀ ks:List (List Int),(sU ks).length<=ks.length
 | []=>GA _
 | a :: ks=>Gy (pL a (sU ks)) (Nat.succ_le_succ (j9 ks))
theorem eP:∀ {a b:List (List Int)},a.Pairwise (λx y=>ak x y=true)->b.Pairwise (λx y=>ak x y=true)->(∀ x,x∈a ↔ x∈b)->a=b
 | [],[],_,_,_=>rfl
 | [],y :: b,_,_,h=>absurd ((h y).mpr GH) (by simp)
 | x :: a,[],_,_,h=>absurd ((h x).mp GH) (by simp)
 | x :: a,y :: b,ha,hb,h=>by
  obtain ⟨a1,a2⟩:=List.pairwise_cons.mp ha;obtain ⟨b1,b2⟩:=List.pairwise_cons.mp hb;have e:x=y:=by
   rcases List.mem_cons.mp ((h x).mp GH) with e | hx
   .exact e
   .rcases List.mem_cons.mp ((h y).mpr GH) with e | hy
    .exact e.symm
    .have:=fh (b1 x hx) (a1 y hy)
     rw [eX] at this;cases this
  subst e;have nx:∀ {l:List (List Int)},(∀ z∈l,ak x z=true)->x ∉ l:=λhl hm=>by have:=hl x hm;rw [eX] at this;cases this
  rw [eP a2 b2 λz => ?_];constructor
  .intro hz
   rcases List.mem_cons.mp ((h z).mp (GB _ hz)) with e | q
   .subst e;exact absurd hz (nx a1)
   .exact q
  .intro hz
   rcases List.mem_cons.mp ((h z).mpr (GB _ hz)) with e | q
   .subst e;exact absurd hz (nx b1)
   .exact q
section
variable{X:Cx}
theorem items_int{P:Program}{w:World}:∀ {k:List Int} {us:List Value},Vals (k.map V.int) us->ItemsAre (intKind P w) k us
 | [],us,h=>by cases h;exact .nil
 | i :: k,us,h=>by
  cases h with
  | cons r t =>
   obtain ⟨u,rfl⟩:=r;exact .cons (intKind_is _ _ _ _) (items_int t)
theorem jP{P:Program}{w:World}{H:Hp}{h:Heap}{b:Addr}{k:List Int}(ok:HOk P w H h)(e:H b=some (.tup (k.map V.int))):IsT P w h k b:=by
 obtain ⟨_,its,r,o,ho,hc,n,hd⟩:=ok b _ e;exact ⟨o,its.toArray,n,ho,hc,hd,items_int r⟩
noncomputable def sN(H:Hp)(D:KyB):Prop := ∀ d∈D,H d.2=some (.tup (d.1.map V.int))/\d.1≠[]
noncomputable def sD(X:Cx):List V->Hp->VK->Prop:=λxs H Q => ∃ (p:Addr) (D0:KyB),xs=[.ref p]/\H p=some (.lst (D0.map λd=>V.ref d.2))/\sN H D0/\D0.length<=300/\(∀ d∈D0,∀ e∈D0,hkL d.1=hkL e.1->d.1=e.1) /\
 ∀ (S:Addr) (D:KyB),H S=none->(∀ d∈D,d∈D0)->(∀ d∈D0,∃ e∈D,e.1=d.1)->(D.map (·.1)).Nodup->Q (.ref S) (upd H S (.ext (SInv X.prog X.w S D)))
theorem SInv.stay{P:Program}{w:World}{S:Addr}{D:KyB}(h1 h2:Heap)(i:SInv P w S D h1)(k:∀ o,h1.get? S=some o->h2.get? S=some o):SInv P w S D h2 :=
 let ⟨o,es,ep,t,Z,ho,r⟩:=i;⟨o,es,ep,t,Z,k o ho,r⟩
theorem xa(hc:X.calm=true)(hu:X.A.units+3 < cLine):CallR X (.type "set") (sD X):=by
 intro pins s σ H xs us Q I r ⟨p,D0,e,hp,hT,hn,hin,q⟩;subst e;obtain ⟨u,rfl,rx⟩:=vals1 r;cases rx;obtain ⟨its,rv,pl,hz⟩:=I.list (SqL.of hp);have hl:its.length=D0.length:=by rw [<-rv.length,List.length_map]
 let key:Nat->List Int×Addr:=λi=>(D0[i]?).getD ([],0)
 have hk:∀ i,i < D0.length->key i∈D0/\D0[i]? = some (key i):=λi hi=>by
  have e:D0[i]? = some D0[i]:=List.getElem?_eq_getElem hi;have e2:key i=D0[i]:=by show (D0[i]?).getD _=_;rw [e];rfl
  rw [e2];exact ⟨List.getElem_mem hi,e⟩
 have hmem:∀ d∈D0,∃ i,i < D0.length/\d=key i:=λd hd=>by
  obtain ⟨i,hi,e⟩:=List.getElem_of_mem hd;exact ⟨i,hi,by rw [<-e];have:=(hk i hi).2;rw [List.getElem?_eq_getElem hi] at this;exact Option.some.inj this⟩
 refine vE (key:=key) (I.ok.hd hc) hu pl.isList (λi v hv => ?_) (λi hi => ?_) (λi j hi hj e => ?_) (by rw [List.size_toArray,hl];exact hn) λh' tk hS hk' => ?_
 .rw [List.getElem?_toArray] at hv
  have hi:i < D0.length:=by rw [<-hl];exact (List.getElem?_eq_some_iff.mp hv).1
  obtain ⟨v',e1,e2⟩:=rv.get (i:=i) (x:=V.ref (key i).2) (by rw [List.getElem?_map,(hk i hi).2];rfl)
  rw [hv] at e1;cases e1;exact e2
 .rw [List.size_toArray,hl] at hi
  exact jP I.hok (hT _ (hk i hi).1).1
 .rw [List.size_toArray,hl] at hi hj
  exact hin _ (hk i hi).1 _ (hk j hj).1 e
 .have ez:its.toArray.size=D0.length:=by rw [List.size_toArray,hl]
  rw [ez] at hS;refine ⟨.ref s.heap.objs.size,_,I.laid (t':=tk) hk' (GA _) (show ObjOk X.prog X.w _ h' _ (.ext (SInv X.prog X.w s.heap.objs.size (dd key D0.length))) from ⟨hS,?_,λh1 h2 a b=>SInv.stay h1 h2 a b⟩),rfl,
   q _ (dd key D0.length) (I.hok.fresh (GA _)) (λd hd => ?_) (λd hd => ?_) (rJ key _)⟩
  .obtain ⟨o,es,ep,t,Z,ho,_⟩:=hS;exact ⟨o,ho⟩
  .obtain ⟨j,hj,e⟩:=fq key _ d hd
   rw [e];exact (hk j hj).1
  .obtain ⟨i,hi,e⟩:=hmem d hd
   rw [e];exact qm key _ i hi
noncomputable def rq(X:Cx):List V->Hp->VK->Prop:=λxs H Q => ∃ (S:Addr) (D:KyB),xs=[.ref S]/\H S=some (.ext (SInv X.prog X.w S D))/\sN H D/\D.length < 100000 /\
 ∀ (l:Addr) (D':KyB),H l=none->D'.Perm D->dv D'->Q (.ref l) (upd H l (.lst (D'.map λd=>V.ref d.2)))
theorem gi:∀ D:KyB,Vals (D.map λd=>V.ref d.2) (refs D)
 | [] => .nil
 | d :: D => .cons rfl (gi D)
theorem vG(hc:X.calm=true)(hu:X.A.units+2 < cLine):CallR X (.builtin "sorted") (rq X):=by
 intro pins s σ H xs us Q I r ⟨S,D,e,hS,hT,hn,q⟩;subst e;obtain ⟨u,rfl,rx⟩:=vals1 r;cases rx;obtain ⟨⟨o,es,ep,t,Z,ho,P⟩,_,_⟩:=I.hok S _ hS;have hlen:es.size=D.length:=by rw [P.tb.len,P.len]
 refine mr (yn P S) (I.ok.hd hc) hu ho (by omega) λvs hl hv => ?_
 have pm:(wkO X.w S ep es).Perm (D.map λd=>(hshT X.prog X.w d.1,Value.ref d.2)):=by
  refine (jr X.w S ep es).trans ?_;rw [P.tb.he];exact P.pm
 obtain ⟨D1,p1,e1⟩:=mZ pm D rfl;have ev:vs=refs D1:=by
  apply List.ext_getElem?;intro i;rcases Nat.lt_or_ge i vs.length with hi | hi
  .obtain ⟨e,e2,e3⟩:=hv i vs[i] (List.getElem?_eq_getElem hi)
   rw [List.getElem?_eq_getElem hi,e3];unfold refs;rw [e1,List.getElem?_map] at e2;rw [List.getElem?_map];cases e4:D1[i]? with
   | none=>rw [e4] at e2;cases e2
   | some d=>rw [e4] at e2;cases e2;rfl
  .rw [List.getElem?_eq_none hi,List.getElem?_eq_none]
   unfold refs;rw [List.length_map,p1.length_eq];omega
 refine ⟨D1,ev,λd hd => ?_,λh1 h' tk c D' pp qq k1 k2 hl' => ?_⟩
 .have:=hT d (p1.mem_iff.mp hd)
  exact ⟨jP I.hok this.1,this.2⟩
 .have I1:Inv X pins σ H { s with heap:=h1,toks:=tk }:=I.kept k1
  refine ⟨.ref h1.objs.size,_,I1.laid (t':=tk) k2 (GA _) (show ObjOk X.prog X.w _ h' _ (.lst (D'.map λd=>V.ref d.2)) from ⟨?_,refs D',c,gi D',hl'⟩),rfl,q _ D' (I1.hok.fresh (GA _)) (pp.trans p1) qq⟩;rw [List.length_map,(pp.trans p1).length_eq,sizeLine_eq];omega
end
section
variable{K:GJ}{ρ:List Addr}{H:Hp}
theorem oJ:∀ {xs:List U} {ks:List (List Int)} {vs:List V},cL xs=some ks->RVs K ρ H xs vs -> ∃ D:KyB,vs=(D.map λd=>V.ref d.2)/\D.map (·.1)=ks /\ ∀ d∈D,H d.2=some (.tup (d.1.map V.int))
 | [],ks,vs,h,r=>by cases h;exact ⟨[],r,rfl,λd hd=>by cases hd⟩
 | u :: xs,ks,vs,h,⟨v,r,e,rv,rs⟩=>by
  simp only [cL] at h;cases ek:keyOf u with
  | none=>rw [ek] at h;cases h
  | some k =>
   rw [ek] at h;cases er:cL xs with
   | none=>rw [er] at h;cases h
   | some kr =>
    rw [er] at h;cases h;obtain ⟨D,a,b,c⟩:=oJ er rs;cases u with
    | tup us =>
     obtain ⟨p,ws,rfl,hp,rw'⟩:=rv;have hi:intsOf us=some k:=ek;have ew:ws=k.map V.int:=i7 hi rw';subst ew;refine ⟨(k,p) :: D,by rw [e,a];rfl,by rw [List.map_cons,b],λd hd => ?_⟩
     rcases List.mem_cons.mp hd with rfl | hd
     .exact hp
     .exact c d hd
    | _=>cases ek
end
section
variable{X:Cx}{W:XQ}{C:Nat->List U->G->Out U}{r:L}{a:Expr}{a':E}{p p2 pos pos2:Pos}
theorem gk{K:GJ}{ρ:List Addr}{H:Hp}:∀ {D:KyB},(∀ d∈D,H d.2=some (.tup (d.1.map V.int)))->RVs K ρ H ((D.map (·.1)).map tupI) (D.map λd=>V.ref d.2)
 | [],_=>rfl
 | d :: D,h=>⟨_,_,rfl,⟨d.2,_,rfl,h d GH,iO _⟩,gk λd hd=>h d (GB _ hd)⟩
theorem vU(ρ:List Addr)(H:Hp)(g:G)(us:List U)(xs:List V)(Q:VK)(hg:RH X.K ρ H g)(rs:RVs X.K ρ H us xs)(q:post X.K W (RV X.K) (bi1 .sset us g) ρ H Q):
  sD X xs H λx H2=>rq X [x] H2 Q:=by
 match us,rs with
 | [.ref n],rs =>
  obtain ⟨x,r',rfl,⟨b,rfl,hb⟩,e⟩:=rs;cases e;simp only [bi1,fg] at q;cases eg:g[n]? with
  | none=>simp only [eg] at q;exact q.elim
  | some o =>
   cases o with
   | lst ys =>
    simp only [eg] at q;cases ek:cL ys with
    | none=>simp only [ek] at q;exact q.elim
    | some ks =>
     simp only [ek] at q;by_cases hok:okS ks
     .rw [if_pos hok] at q
      obtain ⟨h1,h3,h4⟩:=hok;obtain ⟨b',vs,hn,ha,rv⟩:=hg.lst eg;rw [hb] at hn;cases hn;obtain ⟨D0,ev,ed,hT⟩:=oJ ek rv;subst ev;have hm:∀ d∈D0,d.1∈ks:=λd hd=>by rw [<-ed];exact List.mem_map.mpr ⟨d,hd,rfl⟩
      refine ⟨b,D0,rfl,ha,λd hd=>⟨hT d hd,h3 _ (hm d hd)⟩,by rw [<-List.length_map (f:=λd:List Int×Addr=>d.1),ed];exact h1,λd hd e he=>h4 _ (hm d hd) _ (hm e he),λS D hS hD1 hD2 hnd => ?_⟩
      have hne:∀ d∈D,d.2≠S:=λd hd z=>by have:=hT d (hD1 d hd);rw [z,hS] at this;cases this
      have hTS:∀ d∈D,upd H S (.ext (SInv X.prog X.w S D)) d.2=some (.tup (d.1.map V.int)):=λd hd=>by rw [ar (hne d hd)];exact hT d (hD1 d hd)
      have mem:∀ x,x∈D.map (·.1) ↔ x∈ks:=λx=>by
       constructor
       .intro hx
        obtain ⟨d,hd,rfl⟩:=List.mem_map.mp hx;exact hm d (hD1 d hd)
       .intro hx
        rw [<-ed] at hx;obtain ⟨d,hd,rfl⟩:=List.mem_map.mp hx;obtain ⟨e,he,e2⟩:=hD2 d hd;exact List.mem_map.mpr ⟨e,he,e2⟩
      have same:∀ D':KyB,D'.Perm D->dv D'->D'.map (·.1)=sU ks:=λD' pp oo=>by
       refine eP ?_ (cF ks) λx=>((pp.map _).mem_iff.trans (mem x)).trans dh.symm;have nd:(D'.map (·.1)).Nodup:=(pp.map _).nodup_iff.mpr hnd;refine List.pairwise_map.mpr ?_;have nd2:=List.pairwise_map.mp nd;exact (oo.and nd2).imp λ{x y} ⟨o1,n1⟩=>by
        cases hl:ak x.1 y.1 with
        | true=>rfl
        | false=>exact absurd (fb hl o1) n1
      refine ⟨S,D,rfl,upd_same,λd hd=>⟨hTS d hd,h3 _ (hm d (hD1 d hd))⟩,?_,λl D' hl pp oo => ?_⟩
      .have:=(B6 (ks:=ks) hnd mem)
       have:=j9 ks;rw [List.length_map] at *;omega
      .have e1:=same D' pp oo
       have st:Stp X.K ρ H ρ (upd H S (.ext (SInv X.prog X.w S D))):=Stp.fresh hS;have q':=q.from st;have hg':=hg.step_fresh hS (o := .ext (SInv X.prog X.w S D));rw [<-e1] at q';exact cY q' hg' (gk λd hd=>hTS d (pp.mem_iff.mp hd)) l hl
     .rw [if_neg hok] at q;exact q.elim
   | _=>simp only [eg] at q;exact q.elim
 | [],_=>exact q.elim
 | [.non],_=>exact q.elim
 | [.bl _],_=>exact q.elim
 | [.int _],_=>exact q.elim
 | [.str _],_=>exact q.elim
 | [.tup _],_=>exact q.elim
 | [.fro _],_=>exact q.elim
 | [.xn _ _],_=>exact q.elim
 | u :: _ :: _,_=>cases u <;> exact q.elim
theorem yC(hc:X.calm=true)(hu:X.A.units+3 < cLine)(hg:Gl X "sorted")(hm:X.mg "sorted" = none)(hg2:Gl X "set")(hm2:X.mg "set" = none)(ha:PE X a (tE X.K W (r.ev a')))(hs:starEach [a] X.env=(false,eval a X.env) :: starEach [] X.env):
  PE X (.Call (.Name "sorted" p) [.Call (.Name "set" p2) [a] [] pos2] [] pos) (tE X.K W (evF C r (.bi .sset [a']))):=by
 have h1:=pe_callTy (p:=p2) (pos:=pos2) (xa hc hu) hg2 hm2 (by rfl) (qc ha qQ hs) (by decide) (by decide) hs (by rfl)
 have h2:=pe_callB (p:=p) (pos:=pos) (vG hc (by omega)) hg hm (by rfl) (gQ h1 hV) (by decide) (by decide)
 refine h2.imp λσ H Q ⟨σu,ρ,g,hs,hg,q⟩ => ?_;exact ⟨σu,ρ,g,hs,hg,(post.bind (R:=RVs X.K) q).mono λxs H1 ⟨ρ1,us,g1,s1,h1,rs,p1⟩=>vU ρ1 H1 g1 us xs Q h1 rs p1⟩
end
open PySem PySem.Spec PyProof.Rows L2 PySem.W
section
variable{prog:Program}{w:World}{A:Around}
theorem vq{o:Obj}{es:Array DictEntry}{ep:Nat}(hh:A.handled=none){d it:Addr}(hne:d≠it)(hd:o.data=.dict es ep):
  Walks prog w A it [it,d] [it] es.size (λi v => ∃ e,es[i]? = some e/\v=e.key) (λi h=>h.IsKeyIter it d i es.size ep/\h.get? d=some o) where
 sub:=λb hb=>by simp at hb;simp [hb]
 frame:=λi h h' ⟨a,b⟩ hk=>⟨a.at λo e=>hk it (by simp) o e,hk d (by simp) o b⟩
 item:=λi s Q E hi ⟨a,b⟩ hQ=>by
  have he:es[i]? = some es[i]:=Array.getElem?_eq_getElem hi;refine pQ a b hd he λh' a' sb => ?_;exact hQ _ h' s.toks ⟨_,he,rfl⟩ ⟨a',(sb.2 d hne).trans b⟩ λb o hb e=>(sb.2 b λq=>hb (by simp [q])).trans e
 done:=λs Q E ⟨a,b⟩ hQ=>qg hh a b hd (Array.getElem?_eq_none (GA _)) λh' eb=>hQ h' s.toks λb o hb e=>eb b o (λq=>hb (by simp [q])) e
 self:=λi s Q E ⟨a,_⟩ hQ=>wpAny_pyIter_keyiter a hQ
theorem oM{o:Obj}{es:Array DictEntry}{ep:Nat}{d:Addr}(hs:(d == sysModules)=false)(hx:o.ExactDict)(hd:o.data=.dict es ep):
  KdlSrc prog w "dict" d d es.size (λi v => ∃ e,es[i]? = some e/\v=e.key) (λh=>h.get? d=some o) where
 type:=λ_ hm=>⟨o,hm,hx.1⟩
 there:=λ_ hm=>⟨Gx hm,Gx hm⟩
 keep:=λ_ _ hm hk=>hk d (.inl rfl) o hm
 notList:=by decide
 notTuple:=by decide
 hint:=λ_ _ _ _ hm hq=>kdl_hint_dict ⟨o,hm,hx.1⟩ hq
 iter:=λ_ s hh hm=>⟨_,_,(λ_ _ hq=>qj hs hm hx hd hq),vq hh (GD (Gx hm)) hd,⟨⟨_,GF _ rfl,rfl,rfl⟩,Gw _ hm⟩⟩
end
section
variable{X:Cx}{W:XQ}
theorem hX{K:GJ}{ρ:List Addr}{H:Hp}:∀ {kvs:List (List Int×U)} {ws:List (List Key×V)},RD K ρ H kvs ws->ws.map (·.1)=kvs.map λkv=>kv.1.map Sum.inl
 | [],ws,h=>by cases h;rfl
 | (k,u) :: r,ws,⟨v,s,e,_,h⟩=>by subst e;rw [List.map_cons,List.map_cons,hX h]
theorem qv:∀ k:List Int,(k.map (Sum.inl:Int->Key)).map kV=k.map V.int
 | []=>rfl
 | i :: k=>by rw [List.map_cons,List.map_cons,List.map_cons,qv k];rfl
noncomputable def DKs(H:Hp)(a:Addr)(ks:List (List Int)):Prop := ∃ ws,Rd H a (.dT ws)/\ws.map (·.1)=ks.map λk=>k.map Sum.inl
noncomputable def kS(H:Hp)(D:KyB):Prop := ∀ d∈D,H d.2=some (.tup (d.1.map V.int))
theorem pT{P:Program}{w:World}{H:Hp}{h:Heap}{a:Addr}{ks:List (List Int)}(ok:HOk P w H h)(z:DKs H a ks):∃ o es ep,ks.length<=sizeLine/\(a == sysModules)=false/\h.get? a=some o/\o.ExactDict/\o.data=.dict es ep/\es.size=ks.length /\
  ∀ vs:List Value,vs.length=es.size->(∀ (j:Nat) (v:Value),vs[j]? = some v -> ∃ e,es[j]? = some e/\v=e.key) -> ∃ D:KyB,vs=refs D/\D.map (·.1)=ks/\kS H D:=by
 obtain ⟨ws,rd,ew⟩:=z;obtain ⟨h1,h2,o,es,ep,h3,h4,h5,h6,h7⟩:=sT (rd.ok ok);have hl:ws.length=ks.length:=by rw [<-List.length_map (f:=(·.1)),ew,List.length_map]
 refine ⟨o,es,ep,by rw [<-hl];exact h1,h2,h3,h4,h5,by rw [h6,hl],λvs hv hs => ?_⟩
 rw [h6] at hv;clear rd h1 h6;have each:∀ (j:Nat) (v:Value),vs[j]? = some v -> ∃ b k,v=.ref b/\ks[j]? = some k/\H b=some (.tup (k.map V.int)):=λj v e=>by
  obtain ⟨en,e1,e2⟩:=hs j v e;have hj:j < ws.length:=by rw [<-hv];exact (List.getElem?_eq_some_iff.mp e).1
  obtain ⟨⟨k0,v0⟩,e3⟩:∃ q,ws[j]? = some q:=⟨_,List.getElem?_eq_getElem hj⟩;obtain ⟨b,en',e4,e5,e6⟩:=h7 j k0 v0 e3;rw [e1] at e4;cases e4;have e7:(ws.map (·.1))[j]? = some k0:=by rw [List.getElem?_map,e3];rfl
  rw [ew,List.getElem?_map] at e7;cases e8:ks[j]? with
  | none=>rw [e8] at e7;cases e7
  | some k =>
   rw [e8] at e7;cases e7;exact ⟨b,k,e2.trans e5,rfl,by rw [<-qv];exact e6⟩
 have hv2:vs.length=ks.length:=by rw [hv,hl]
 clear hv hs h7 ew hl h5 h4 h3
 induction vs generalizing ks with
 | nil =>
  cases ks with
  | nil=>exact ⟨[],rfl,rfl,λd hd=>nomatch hd⟩
  | cons _ _=>cases hv2
 | cons v vs ih =>
  cases ks with
  | nil=>cases hv2
  | cons k ks =>
   obtain ⟨b,k',rfl,e1,e2⟩:=each 0 v rfl;cases e1;obtain ⟨D,d1,d2,d3⟩:=ih (λj v e=>each (j+1) v e) (by simpa using hv2)
   refine ⟨(k,b) :: D,by rw [d1];rfl,by rw [List.map_cons,d2],λd hd => ?_⟩
   rcases List.mem_cons.mp hd with rfl | hd
   .exact e2
   .exact d3 d hd
noncomputable def rb(X:Cx):List V->Hp->VK->Prop:=λxs H Q => ∃ (a:Addr) (ks:List (List Int)),xs=[.ref a]/\DKs H a ks /\
 ∀ (l:Addr) (D:KyB),H l=none->D.map (·.1)=ks->kS H D->Q (.ref l) (upd H l (.lst (D.map λd=>V.ref d.2)))
theorem call_listD(hc:X.calm=true):CallR X (.type "list") (rb X):=by
 intro pins s σ H xs us Q I r ⟨a,ks,e,z,q⟩;subst e;obtain ⟨u,rfl,rx⟩:=vals1 r;cases rx;obtain ⟨o,es,ep,h1,h2,h3,h4,h5,h6,h7⟩:=pT I.hok z;refine kdl_call (oM h2 h4 h5) (I.ok.hd hc) h3 (by rw [h6];exact h1) λh' tk acc c hk hL hacc => ?_
 obtain ⟨D,d1,d2,d3⟩:=h7 acc.toList (by rw [Array.length_toList];exact hacc.1) λj v e=>hacc.2 j v (by rw [<-Array.getElem?_toList];exact e)
 have ea:acc=(refs D).toArray:=by rw [<-d1]
 subst ea;refine ⟨.ref s.heap.objs.size,_,I.laid (t':=tk) hk (GA _) (show ObjOk X.prog X.w _ h' _ (.lst (D.map λd=>V.ref d.2)) from ⟨?_,refs D,c,gi D,hL⟩),rfl,q _ D (I.hok.fresh (GA _)) d2 d3⟩;rw [List.length_map,<-List.length_map (f:=(·.1)),d2];exact h1
noncomputable def kn(X:Cx):List V->Hp->VK->Prop:=λxs H Q => ∃ (a:Addr) (ks:List (List Int)),xs=[.ref a]/\DKs H a ks/\ks.length < 100000/\(∀ k∈ks,k≠[]) /\
 ∀ (l:Addr) (D:KyB),H l=none->(D.map (·.1)).Perm ks->dv D->kS H D->Q (.ref l) (upd H l (.lst (D.map λd=>V.ref d.2)))
theorem uX(hc:X.calm=true)(hu:X.A.units+2 < cLine):CallR X (.builtin "sorted") (kn X):=by
 intro pins s σ H xs us Q I r ⟨a,ks,e,z,hn,hne,q⟩;subst e;obtain ⟨u,rfl,rx⟩:=vals1 r;cases rx;obtain ⟨o,es,ep,h1,h2,h3,h4,h5,h6,h7⟩:=pT I.hok z;refine mr (oM h2 h4 h5) (I.ok.hd hc) hu h3 (by omega) λvs hl hv => ?_
 obtain ⟨D,d1,d2,d3⟩:=h7 vs hl hv;refine ⟨D,d1,λd hd=>⟨jP I.hok (d3 d hd),hne _ (by rw [<-d2];exact List.mem_map.mpr ⟨d,hd,rfl⟩)⟩,λh1' h' tk c D' pp qq k1 k2 hl' => ?_⟩
 have I1:Inv X pins σ H { s with heap:=h1',toks:=tk }:=I.kept k1
 refine ⟨.ref h1'.objs.size,_,I1.laid (t':=tk) k2 (GA _) (show ObjOk X.prog X.w _ h' _ (.lst (D'.map λd=>V.ref d.2)) from ⟨?_,refs D',c,gi D',hl'⟩),rfl,q _ D' (I1.hok.fresh (GA _)) (by rw [<-d2];exact pp.map _) qq λd hd=>d3 d (pp.mem_iff.mp hd)⟩
 rw [List.length_map,pp.length_eq,<-List.length_map (f:=(·.1)),d2];exact h1
theorem qZ{K:GJ}{ρ:List Addr}{H:Hp}{g:G}{u:U}{x:V}{kvs:List (List Int×U)}(hg:RH K ρ H g)(r1:RV K ρ H u x)(e:asD u g=some kvs):∃ a,x=.ref a/\DKs H a (kvs.map (·.1)):=by
 cases u with
 | ref n =>
  simp only [asD] at e;cases eg:g[n]? with
  | none=>rw [eg] at e;cases e
  | some ob =>
   obtain ⟨a',rfl,hn'⟩:=r1;cases ob with
   | dic kvs' =>
    rw [eg] at e;cases e;obtain ⟨a,ws,hn,ha,rd⟩:=hg.dic eg;rw [hn] at hn';cases hn';exact ⟨_,rfl,ws,.inl ha,by rw [hX rd,List.map_map];rfl⟩
   | dif kvs' =>
    rw [eg] at e;cases e;obtain ⟨a,ob,ws,hn,ha,rd⟩:=hg.dif eg;rw [hn] at hn';cases hn';exact ⟨_,rfl,ws,.inr ⟨ob,ha⟩,by rw [hX rd,List.map_map];rfl⟩
   | _=>rw [eg] at e;cases e
 | _=>cases e
theorem imp_list(ρ:List Addr)(H:Hp)(g:G)(us:List U)(xs:List V)(Q:VK)(hg:RH X.K ρ H g)(rs:RVs X.K ρ H us xs)(p:post X.K W (RV X.K) (bi1 .list us g) ρ H Q):
  (∃ p ys,xs=[.ref p]/\(SqL X.K H p ys\/SqT X.K H p ys) /\ ∀ l,H l=none->Q (.ref l) (upd H l (.lst ys)))\/rb X xs H Q:=by
 match us,rs with
 | [u],rs =>
  obtain ⟨x,r',rfl,r1,e⟩:=rs;cases e;simp only [bi1,dX] at p;cases e:items u g with
  | none =>
   simp only [e] at p;cases ed:asD u g with
   | none=>simp only [ed] at p;exact p.elim
   | some kvs =>
    simp only [ed] at p;obtain ⟨a,rfl,z⟩:=qZ hg r1 ed;refine .inr ⟨a,_,rfl,z,λl D hl e1 e2=>cY p hg ?_ l hl⟩;have:=gk (K:=X.K) (ρ:=ρ) e2;rw [e1,List.map_map] at this;exact this
  | some zs =>
   simp only [e] at p;obtain ⟨q,vs,rfl,hq,rz⟩:=eS hg r1 e;exact .inl ⟨q,vs,rfl,hq,λl hl=>cY p hg rz l hl⟩
 | [],_=>exact p.elim
 | _ :: _ :: _,_=>exact p.elim
theorem imp_srt(ρ:List Addr)(H:Hp)(g:G)(us:List U)(xs:List V)(Q:VK)(hg:RH X.K ρ H g)(rs:RVs X.K ρ H us xs)(p:post X.K W (RV X.K) (bi1 .srt us g) ρ H Q):
  kn X xs H Q:=by
 simp only [bi1,iA] at p;cases e2:dD us g with
 | none =>
  simp only [e2,jX] at p
  match us,rs with
  | [u],rs =>
   obtain ⟨x,r',rfl,r1,e⟩:=rs;cases e;simp only at p;cases ed:asD u g with
   | none=>simp only [ed] at p;exact p.elim
   | some kvs =>
    simp only [ed] at p;by_cases hk:kvs.length < 100000/\(kvs.map (·.1)).Nodup /\ ∀ k∈kvs.map (·.1),k≠[]
    .rw [if_pos hk] at p
     obtain ⟨a,rfl,z⟩:=qZ hg r1 ed;refine ⟨a,_,rfl,z,by rw [List.length_map];exact hk.1,hk.2.2,λl D hl pp oo e2=>cY p hg ?_ l hl⟩
     have e1:D.map (·.1)=sU (kvs.map (·.1)):=by
      refine eP ?_ (cF _) λx=>pp.mem_iff.trans dh.symm;have nd:(D.map (·.1)).Nodup:=pp.nodup_iff.mpr hk.2.1;refine List.pairwise_map.mpr ?_;have nd2:=List.pairwise_map.mp nd;exact (List.Pairwise.and oo nd2).imp λ{x y} ⟨o1,n1⟩=>by
       cases hl:ak x.1 y.1 with
       | true=>rfl
       | false=>exact absurd (fb hl o1) n1
     rw [<-e1];exact gk e2
    .rw [if_neg hk] at p;exact p.elim
  | [],_=>exact p.elim
  | _ :: _ :: _,_=>exact p.elim
 | some ns=>simp only [e2] at p;exact p.elim
theorem call_srtX(hc:X.calm=true)(hu:X.A.units+2 < cLine):CallR X (.builtin "sorted") (kn X):=uX hc hu
end
section
variable{prog:Program}{w:World}{A:Around}{E:Value->Shared->Prop}{s:Shared}
end
section
variable{X:Cx}{W:XQ}
end
open PySem PySem.Spec PyProof.Rows L2
section
variable{X:Cx}{W:XQ}{C:Nat->List U->G->Out U}{r:L}{pos p2:Pos}{a b c e:Expr}{a' b' c' e':E}{lo hi:Option Expr}{lo' hi':Option E}
noncomputable def fV(K:GJ)(W:XQ)(f:Su->G->Out (Option Int)):TO:=λσ H Q => ∃ σu ρ g,RS K ρ H σu σ/\RH K ρ H g/\post K W REq (f σu g) ρ H Q
theorem yu:PO X none (fV X.K W (evo r.ev none)):=λpins s σ H Q I ⟨σu,ρ,g,hs,hg,p⟩=>zk pins s σ H Q I (post.okHere (R:=REq) p hg rfl)
theorem yD(h:PE X e (tE X.K W (r.ev e'))):PO X (some e) (fV X.K W (evo r.ev (some e'))):=λpins s σ H Q I hp=>by
 refine x4 h pins s σ H Q I (one (k:=λ_ u g=>match u with | .int i=>Out.ok (some i) g | _ => .bad) hp λσu ρ H g u x hs hg r1 p => ?_)
 cases u with
 | int i=>cases r1;exact ⟨i,rfl,post.okHere (R:=REq) p hg rfl⟩
 | _=>exact p.elim
theorem pM{us:List U}{vs:List V}{ρ:List Addr}{H:Hp}{l h:Option Int}(rs:RVs X.K ρ H us vs):RVs X.K ρ H (bK us l h) (eC vs l h):=by
 unfold bK eC;rw [rs.length];exact (rs.drop _).take _
theorem AK(ha:PE X a (tE X.K W (r.ev a')))(hl:PO X lo (fV X.K W (evo r.ev lo')))(hh:PO X hi (fV X.K W (evo r.ev hi'))):PE X (.Subscript a (.Slice lo hi none p2) pos) (tE X.K W (evF C r (.slc a' lo' hi'))):=by
 refine (vX yc ha hl hh).imp λσ H Q ⟨σu,ρ,g,hs,hg,p⟩ => ?_;refine ⟨σu,ρ,g,hs,hg,(post.bind p).mono λx H1 ⟨ρ1,u,g1,s1,h1,r1,p1⟩ => ?_⟩;refine ⟨σu,ρ1,g1,hs.step s1,h1,(post.bind (R:=REq) p1).mono λl H2 ⟨ρ2,l',g2,s2,h2,e2,p2⟩ => ?_⟩;subst e2;refine ⟨σu,ρ2,g2,(hs.step s1).step s2,h2,(post.bind (R:=REq) p2).mono λh H3 ⟨ρ3,h',g3,s3,h3,e3,p3⟩ => ?_⟩;subst e3;have r3:=RV.step s3 _ _ (RV.step s2 _ _ r1);cases u with
 | tup us=>exact p3.elim
 | fro us =>
  obtain ⟨q,vs,rfl,t1,t2⟩:=r3;exact ⟨q,vs,rfl,t1.sq,λk hk=>cY p3 h3 (pM t2) k hk⟩
 | ref n =>
  obtain ⟨q,rfl,hn⟩:=r3;simp only [] at p3;cases eg:g3[n]? with
  | none=>simp only [eg] at p3;exact p3.elim
  | some o =>
   cases o with
   | lst us =>
    simp only [eg] at p3;obtain ⟨q',vs,t1,t2,t3⟩:=h3.lst eg;rw [hn] at t1;cases t1;exact ⟨q,vs,rfl,.of t2,λk hk=>cY p3 h3 (pM t3) k hk⟩
   | dic _=>simp only [eg] at p3;exact p3.elim
   | dif _=>simp only [eg] at p3;exact p3.elim
   | dst _=>simp only [eg] at p3;exact p3.elim
   | ins _ _=>simp only [eg] at p3;exact p3.elim
 | _=>exact p3.elim
theorem fH{ρ:List Addr}{H:Hp}{g:G}{n:Nat}{us:List U}{x:V}(hg:RH X.K ρ H g)(r1:RV X.K ρ H (.ref n) x)(eg:g[n]? = some (.lst us)):∃ q vs,x=.ref q/\ρ[n]? = some q/\H q=some (.lst vs)/\RVs X.K ρ H us vs:=by
 obtain ⟨q,rfl,hn⟩:=r1;obtain ⟨q',vs,t1,t2,t3⟩:=hg.lst eg;rw [hn] at t1;cases t1;exact ⟨q,vs,rfl,hn,t2,t3⟩
theorem jE{x:U}{g:G}{n:Nat}(e:asL x g=some n):x=.ref n /\ ∃ us,g[n]? = some (.lst us):=by
 cases x <;> simp only [asL,reduceCtorEq] at e
 rename_i m;cases eg:g[m]? with
 | none=>simp [eg] at e
 | some o =>
  cases o with
  | lst us=>simp only [eg,Option.some.injEq] at e;subst e;exact ⟨rfl,us,eg⟩
  | dic _=>simp [eg] at e
  | dif _=>simp [eg] at e
  | dst _=>simp [eg] at e
  | ins _ _=>simp [eg] at e
theorem qY{o:Expr}{o':E}{apos cpos:Pos}{name:Str}{id:String}{rr:V->List V->Hp->VK->Prop}{f:Nat->U->G->Out U}(slot:Slot "list" name id)(hty:typeOf (.builtin id)=pure (.type "method_descriptor"))(mt:MtR X id rr)
  (imp:∀ ρ H g n q y v Q,RH X.K ρ H g->ρ[n]? = some q->RV X.K ρ H y v->post X.K W (RV X.K) (f n y g) ρ H Q->rr (.ref q) [v] H Q)
  (ho:PE X o (tE X.K W (r.ev o'))) (ha:PE X a (tE X.K W (r.ev a'))) (hbase:attributeBase o name X.env (eval o X.env)=eval o X.env) (hline:(apos.endLine == cpos.line)=true)
  (hs:∀ es,starEach (a :: es) X.env=(false,eval a X.env) :: starEach es X.env):PE X (.Call (.Attribute o name apos) [a] [] cpos) (tE X.K W (λσ g=>(r.ev o' σ g).bind λx g=>match asL x g with
  | some n=>(r.ev a' σ g).bind λy g=>f n y g
  | none => .bad)):=by
 refine (EF (T := "list") PySem.F.plainAttrs_list slot hty mt ho (gQ ha hV (hs _)) hbase (by rw [hs];rfl) hline (hs _) rfl).imp λσ H Q ⟨σu,ρ,g,hs,hg,p⟩ => ?_
 refine ⟨σu,ρ,g,hs,hg,(post.bind p).mono λx H1 ⟨ρ1,u,g1,s1,h1,r1,p1⟩ => ?_⟩;cases ea:asL u g1 with
 | none=>simp only [ea] at p1;exact p1.elim
 | some n =>
  simp only [ea] at p1;obtain ⟨rfl,us,eg⟩:=jE ea;obtain ⟨q,vs,rfl,hn,t2,t3⟩:=fH h1 r1 eg;refine ⟨.inl ⟨rfl,vs,.of t2⟩,σu,ρ1,g1,hs.step s1,h1,(post.bind p1).mono λy H2 ⟨ρ2,w,g2,s2,h2,r2,p2⟩ => ?_⟩;exact imp ρ2 H2 g2 n q w y Q h2 (s2.ext _ _ hn) r2 p2
theorem dQ{ρ:List Addr}{H:Hp}{g:G}{n:Nat}{q:Addr}{us:List U}(hg:RH X.K ρ H g)(hn:ρ[n]? = some q)(eg:g[n]? = some (.lst us)):∃ vs,H q=some (.lst vs)/\RVs X.K ρ H us vs:=by
 obtain ⟨q',vs,t1,t2,t3⟩:=hg.lst eg;rw [hn] at t1;cases t1;exact ⟨vs,t2,t3⟩
theorem Aq{o:Expr}{o':E}{apos cpos:Pos}(ho:PE X o (tE X.K W (r.ev o')))(ha:PE X a (tE X.K W (r.ev a')))(hbase:attributeBase o "append" X.env (eval o X.env)=eval o X.env)(hline:(apos.endLine == cpos.line)=true)
  (hs:∀ es,starEach (a :: es) X.env=(false,eval a X.env) :: starEach es X.env):PE X (.Call (.Attribute o "append" apos) [a] [] cpos) (tE X.K W (evF C r (.app o' a'))):=by
 refine qY PySem.F.slot_list_append PySem.F.type_list_append mQ (λρ H g n q y v Q hg hn ry p => ?_) ho ha hbase hline hs;simp only [b6] at p;cases eg:g[n]? with
 | none=>simp only [eg] at p;exact p.elim
 | some o =>
  cases o with
  | lst us =>
   simp only [eg] at p;obtain ⟨vs,t2,t3⟩:=dQ hg hn eg;split at p
   .rename_i hl
    exact ⟨q,vs,v,rfl,rfl,t2,by rw [<-t3.length,sizeLine_eq];unfold ab at hl;omega,p _ ρ _ (Stp.write hn t2) (hg.write hn t2 (t3.append (.one ry))) rfl⟩
   .exact p.elim
  | dic _=>simp only [eg] at p;exact p.elim
  | dif _=>simp only [eg] at p;exact p.elim
  | dst _=>simp only [eg] at p;exact p.elim
  | ins _ _=>simp only [eg] at p;exact p.elim
theorem Cm{o:Expr}{o':E}{apos cpos:Pos}(ho:PE X o (tE X.K W (r.ev o')))(ha:PE X a (tE X.K W (r.ev a')))(hbase:attributeBase o "extend" X.env (eval o X.env)=eval o X.env)(hline:(apos.endLine == cpos.line)=true)
  (hs:∀ es,starEach (a :: es) X.env=(false,eval a X.env) :: starEach es X.env):PE X (.Call (.Attribute o "extend" apos) [a] [] cpos) (tE X.K W (evF C r (.ext o' a'))):=by
 refine qY PySem.F.slot_list_extend PySem.F.type_list_extend vi (λρ H g n q y v Q hg hn ry p => ?_) ho ha hbase hline hs;simp only [cG] at p;cases ea:asL y g with
 | none=>simp only [ea] at p;exact p.elim
 | some m =>
  simp only [ea] at p;obtain ⟨rfl,zs,em⟩:=jE ea;obtain ⟨q2,ws,rfl,hm,w2,w3⟩:=fH hg ry em;cases eg:g[n]? with
  | none=>simp only [eg] at p;exact p.elim
  | some o =>
   cases o with
   | lst us =>
    simp only [eg,em] at p;obtain ⟨vs,t2,t3⟩:=dQ hg hn eg;split at p
    .rename_i hl
     exact ⟨q,q2,vs,ws,rfl,rfl,t2,w2,by rw [<-t3.length,<-w3.length,sizeLine_eq];unfold ab at hl;omega,p _ ρ _ (Stp.write hn t2) (hg.write hn t2 (t3.append w3)) rfl⟩
    .exact p.elim
   | dic _=>simp only [eg] at p;exact p.elim
   | dif _=>simp only [eg] at p;exact p.elim
   | dst _=>simp only [eg] at p;exact p.elim
   | ins _ _=>simp only [eg] at p;exact p.elim
theorem Ah{o:Expr}{o':E}{apos cpos:Pos}(ho:PE X o (tE X.K W (r.ev o')))(hbase:attributeBase o "pop" X.env (eval o X.env)=eval o X.env)(hline:(apos.endLine == cpos.line)=true):
  PE X (.Call (.Attribute o "pop" apos) [] [] cpos) (tE X.K W (evF C r (.pop o'))):=by
 refine (AY (T := "list") PySem.F.plainAttrs_list PySem.F.slot_list_pop PySem.F.type_list_pop BZ ho hbase hline).imp λσ H Q hp=>one hp λσu ρ H g u x hs hg r1 p => ?_;cases ea:asL u g with
 | none=>simp only [ea] at p;exact p.elim
 | some n =>
  simp only [ea] at p;obtain ⟨rfl,us,eg⟩:=jE ea;obtain ⟨q,vs,rfl,hn,t2,t3⟩:=fH hg r1 eg;refine ⟨.inl ⟨rfl,vs,.of t2⟩,?_⟩;simp only [cM,eg] at p;cases el:us[us.length - 1]? with
  | none=>simp only [el] at p;exact p.elim
  | some y =>
   simp only [el] at p;obtain ⟨v,ev,rv⟩:=t3.get el;exact ⟨q,vs,v,rfl,rfl,t2,by rw [<-t3.length];exact ev,p _ ρ _ (Stp.write hn t2) (hg.write hn t2 t3.dropLast) (RV.step (Stp.write hn t2) _ _ rv)⟩
end
section
variable(K:GJ)
noncomputable def tG(t:Tg):TG:=λv σ H Q => ∃ σu ρ g u σu',RS K ρ H σu σ/\RH K ρ H g/\RV K ρ H u v/\ai t (unl t u g) σu=some σu' /\ ∀ σ',RS K ρ H σu' σ'->Q σ' H
noncomputable def tGs(is:List Nat):TGs:=λvs σ H Q => ∃ σu ρ us σu',RS K ρ H σu σ/\RVs K ρ H us vs/\bindL is us σu=some σu' /\ ∀ σ',RS K ρ H σu' σ'->Q σ' H
noncomputable def RI(ρ:List Addr)(H:Hp)(i:Iter)(J:It):Prop:=match i with
 | .lst n => ∃ a,ρ[n]? = some a/\J=Itl K a
 | .dic n => ∃ a o ws,ρ[n]? = some a/\H a=some (.frz o (.dT ws))/\J=Itd a o ws
 | .enm n => ∃ a,ρ[n]? = some a/\J=Ite K a
 | .seq us => ∃ a vs,(SqU K H a vs\/SqC K a vs)/\RVs K ρ H us vs/\J=Itt K a
 | .rng lo n=>J=Itr lo n
noncomputable def tI(W:XQ)(f:Su->G->Out Iter):TI:=λσ H R => ∃ σu ρ g,RS K ρ H σu σ/\RH K ρ H g/\post K W (RI K) (f σu g) ρ H R
end
theorem RI.step{K:GJ}{ρ ρ':List Addr}{H H':Hp}{i:Iter}{J:It}(s:Stp K ρ H ρ' H')(h:RI K ρ H i J):RI K ρ' H' i J:=by
 cases i with
 | lst n=>obtain ⟨a,h1,h2⟩:=h;exact ⟨a,s.ext _ _ h1,h2⟩
 | dic n=>obtain ⟨a,o,ws,h1,h2,h3⟩:=h;exact ⟨a,o,ws,s.ext _ _ h1,s.frz _ _ _ h2,h3⟩
 | enm n=>obtain ⟨a,h1,h2⟩:=h;exact ⟨a,s.ext _ _ h1,h2⟩
 | seq us=>obtain ⟨a,vs,h1,h2,h3⟩:=h;exact ⟨a,vs,h1.imp_left (s.tup _ _),RVs.step s _ _ h2,h3⟩
 | rng lo n=>exact h
section
variable{X:Cx}{W:XQ}{C:Nat->List U->G->Out U}{r:L}{pos p2:Pos}{a b c e tg:Expr}{a' b' c' e':E}{t:Tg}
theorem mY{t:Tg}{u:U}{g:G}{σ σ1:Su}(h:ai t u σ=some σ1):ai t (unl t u g) σ=some σ1:=by
 cases t with
 | nm i=>exact h
 | tp is =>
  cases u with
  | ref n=>simp [ai] at h
  | _=>exact h
noncomputable def DP(K:GJ)(n:Nat)(t:TGs):TG:=λv σ H Q => ∃ a xs,v=.ref a/\SqL K H a xs/\xs.length=n/\t xs σ H Q
theorem ya{es:List Expr}{k:Nat}{t:TGs}{n:Nat}(hc:X.calm=true)(h:PGs X es t)
  (hn:(assignEach es X.env).length=n) (hst:(assignEach es X.env).findIdx? (·.1)=none):PG X (.Tuple es k pos) (DP X.K n t):=by
 intro pins s σ H v u Q I r hw;obtain ⟨a,xs,e1,hq,hl,hw⟩:=hw;subst e1;cases r;obtain ⟨its,rv,⟨o,m,e,hcls,hdic,hdat⟩,hz⟩:=I.list hq;have hL:s.heap.IsList a its.toArray:=⟨o,e,hcls,m,hdat⟩;rw [assign_Tuple];refine ZB (wpAny_standAt ?_);unfold unpack;have hlen:(assignEach es X.env).length=its.toArray.size:=by simp [hn,<-hl,rv.length]
 rw [hlen,hst];refine ZB (wpAny_holding (PySem.W.kun_itemsOf (I.ok.hd hc) hL λh' hx => ?_));have I1:Inv X pins σ H { s with heap:=h' }:=I.kept (t':=s.toks) λb o e=>hx b o (GD (Gx e)) e
 exact h pins _ σ H xs _ Q I1 (by simpa using rv) hw
theorem DI{i:Nat}{x:Str}(hN:X.N.Nodup)(hi:X.N[i]? = some x)(hx:Loc X.env.scope x)(hf:X.fn x=true\/X.env.scope.names.lookup x=some .local):PG X (.Name x pos) (tG X.K (.nm i)):=by
 intro pins s σ H v u Q I rv ⟨σu,ρ,g,w,σu',hs,hg,rw',e,q⟩;refine p9 hN hi hx hf pins s σ H v u Q I rv ?_;simp only [unl,ai] at e;split at e
 .cases e;exact q _ (hs.set rw')
 .cases e
theorem sgs_nil:PGs X [] (tGs X.K []):=by
 intro pins s σ H vs us Q I rv ⟨σu,ρ,ws,σu',hs,rw',e,q⟩;refine yj pins s σ H vs us Q I rv ?_;cases ws with
 | nil=>cases rw';cases e;exact ⟨rfl,q _ hs⟩
 | cons _ _=>cases e
theorem vM{i:Nat}{is:List Nat}{x:Str}{ts:List Expr}(hN:X.N.Nodup)(hi:X.N[i]? = some x)(hx:Loc X.env.scope x)(hf:X.fn x=true\/X.env.scope.names.lookup x=some .local)(h:PGs X ts (tGs X.K is)):PGs X (.Name x pos :: ts) (tGs X.K (i :: is)):=by
 intro pins s σ H vs us Q I rv ⟨σu,ρ,ws,σu',hs,rw',e,q⟩;refine wJ (p9 hN hi hx hf) h rfl pins s σ H vs us Q I rv ?_;cases ws with
 | nil=>cases e
 | cons w ws =>
  obtain ⟨v,vr,rfl,r1,r2⟩:=rw';simp only [bindL] at e;split at e
  .exact ⟨v,vr,rfl,_,ρ,ws,σu',hs.set r1,r2,e,q⟩
  .cases e
theorem jd:∀ {is:List Nat} {us:List U} {σ σ':Su},bindL is us σ=some σ'->us.length=is.length
 | [],[],_,_,_=>rfl
 | _ :: is,_ :: us,_,_,e=>by
  simp only [bindL] at e;split at e
  .simp [jd e]
  .cases e
 | [],_ :: _,_,_,e=>by simp [bindL] at e
 | _ :: _,[],_,_,e=>by simp [bindL] at e
theorem Fe{is:List Nat}{ts:List Expr}{k:Nat}(hc:X.calm=true)(h:PGs X ts (tGs X.K is))(hn:(assignEach ts X.env).length=is.length)(hst:(assignEach ts X.env).findIdx? (·.1)=none):PG X (.Tuple ts k pos) (tG X.K (.tp is)):=by
 intro pins s σ H v u Q I rv ⟨σu,ρ,g,w,σu',hs,hg,rw',e,q⟩;cases w with
 | tup us =>
  refine CT hc h hn hst pins s σ H v u Q I rv ?_;obtain ⟨a,vs,rfl,h1,h2⟩:=rw';have e':bindL is us σu=some σu':=e;exact ⟨a,vs,rfl,h1.sq,by rw [<-h2.length];exact jd e',σu,ρ,us,σu',hs,h2,e',q⟩
 | ref n =>
  simp only [unl] at e;cases eg:g[n]? with
  | none=>simp [eg,ai] at e
  | some o =>
   cases o with
   | lst xs =>
    refine ya hc h hn hst pins s σ H v u Q I rv ?_;obtain ⟨a,vs,hr,hH,h2⟩:=hg.lst eg;obtain ⟨a',rfl,hr'⟩:=rw';rw [hr] at hr';cases hr';have e':bindL is xs σu=some σu':=by simpa [eg,ai] using e
    exact ⟨a,vs,rfl,.of hH,by rw [<-h2.length];exact jd e',σu,ρ,xs,σu',hs,h2,e',q⟩
   | _=>simp [eg,ai] at e
 | _=>simp [unl,ai] at e
theorem CJ{l:Expr}{l':E}(hl:PE X l (tE X.K W (r.ev l'))):PI X tg l (tI X.K W (λσ g=>(r.ev l' σ g).bind λu g=>match u with
  | .tup xs=>Out.ok (Iter.seq xs) g
  | .xn _ xs=>Out.ok (Iter.seq xs) g
  | .ref n=>match g[n]? with
   | some (.lst _) => .ok (.lst n) g
   | some (.dic kvs) => .ok (.dic n) (g.set n (.dif kvs))
   | some (.dif _) => .ok (.dic n) g
   | _ => .bad
  | _ => .bad)):=by
 intro pins s σ H R I hp;have hp':tE X.K W (r.ev l') σ H (λx H1=>(∃ a,x=.ref a/\(∃ xs,SqL X.K H1 a xs)/\R (Itl X.K a) H1)\/(∃ a,x=.ref a/\(∃ xs,SqT X.K H1 a xs)/\R (Itt X.K a) H1)\/(∃ a ws,x=.ref a/\H1 a=some (.dT ws) /\ ∀ o,R (Itd a o ws) (upd H1 a (.frz o (.dT ws)))) \/ ∃ a o ws,x=.ref a/\H1 a=some (.frz o (.dT ws))/\R (Itd a o ws) H1):=by
  refine one (R:=RI X.K) hp λσu ρ H g u x hs hg r1 p => ?_;cases u with
  | tup us=>obtain ⟨a,vs,rfl,h1,h2⟩:=r1;exact .inr (.inl ⟨a,rfl,⟨vs,h1.sq⟩,post.okHere (R:=RI X.K) p hg ⟨a,vs,.inl h1,h2,rfl⟩⟩)
  | xn _ us=>obtain ⟨a,vs,rfl,h1,h2⟩:=r1;exact .inr (.inl ⟨a,rfl,⟨vs,h1.sq⟩,post.okHere (R:=RI X.K) p hg ⟨a,vs,.inr h1,h2,rfl⟩⟩)
  | ref n =>
   simp only [] at p;cases eg:g[n]? with
   | none=>simp only [eg] at p;exact p.elim
   | some o =>
    cases o with
    | lst us =>
     simp only [eg] at p;obtain ⟨q,vs,rfl,hn,t2,t3⟩:=fH hg r1 eg;exact .inl ⟨q,rfl,⟨vs,.of t2⟩,post.okHere (R:=RI X.K) p hg ⟨q,hn,rfl⟩⟩
    | dic kvs =>
     simp only [eg] at p;obtain ⟨q,ws,hn,ha,rd⟩:=hg.dic eg;obtain ⟨q',rfl,hn'⟩:=r1;rw [hn] at hn';cases hn';refine .inr (.inr (.inl ⟨q,ws,rfl,ha,λo => ?_⟩));exact p _ ρ _ (Stp.writeO hn ha trivial) (hg.writeO hn ha trivial ⟨o,ws,rfl,rd⟩) ⟨q,o,ws,hn,upd_same,rfl⟩
    | dif kvs =>
     simp only [eg] at p;obtain ⟨q,o,ws,hn,ha,rd⟩:=hg.dif eg;obtain ⟨q',rfl,hn'⟩:=r1;rw [hn] at hn';cases hn';exact .inr (.inr (.inr ⟨q,o,ws,rfl,ha,post.okHere (R:=RI X.K) p hg ⟨q,o,ws,hn,ha,rfl⟩⟩))
    | dst _=>simp only [eg] at p;exact p.elim
    | ins _ _=>simp only [eg] at p;exact p.elim
  | _=>exact p.elim
 refine thn (hl pins s σ H _ I hp') λv s1 ⟨x,H1,I1,r1,q1⟩ => ?_;rcases q1 with ⟨a,e,⟨xs,hq⟩,q⟩ | ⟨a,e,⟨xs,hq⟩,q⟩ | ⟨a,ws,e,ha,q⟩ | ⟨a,o,ws,e,ha,q⟩
 .subst e
  cases r1;obtain ⟨its,rv,p,hz⟩:=I1.list hq;refine wpAny_pyIter_list p.isList ?_;refine ⟨s1.heap.objs.size,[s1.heap.objs.size],_,_,H1,rfl,I1.kept (t':=s1.toks) λb o e=>Gw _ e,vb a _,⟨_,GF _ rfl,rfl,rfl⟩,λb hb => ?_,q⟩;have e:b=s1.heap.objs.size:=by simpa using hb
  subst e;exact I1.fpOk (GA _) (I1.hok.fresh (GA _))
 .subst e
  cases r1;obtain ⟨its,rv,p,hz⟩:=I1.tuple hq;refine wpAny_pyIter_tuple (show s1.heap.IsTuple a its.toArray from p) ?_;refine ⟨s1.heap.objs.size,[s1.heap.objs.size],_,_,H1,rfl,I1.kept (t':=s1.toks) λb o e=>Gw _ e,uQ a _,⟨_,GF _ rfl,rfl,rfl⟩,λb hb => ?_,q⟩;have e:b=s1.heap.objs.size:=by simpa using hb
  subst e;exact I1.fpOk (GA _) (I1.hok.fresh (GA _))
 .subst e
  cases r1;obtain ⟨o,I2⟩:=I1.freeze ha;exact rL I2 upd_same (q o)
 .subst e
  cases r1;exact rL I1 ha q
theorem PI.imp{iter:Expr}{t t':TI}(h:PI X tg iter t)(q:∀ σ H Q,t' σ H Q->t σ H Q):PI X tg iter t':=λpins s σ H Q I h'=>h pins s σ H Q I (q σ H Q h')
theorem y3{p:Pos}(hg:Gl X "range")(hm:X.mg "range" = none)(ha:PE X a (tE X.K W (r.ev a')))(hs:∀ es,starEach (a :: es) X.env=(false,eval a X.env) :: starEach es X.env):
  PI X tg (.Call (.Name "range" p) [a] [] pos) (tI X.K W (itF r (.rng1 a'))):=by
 refine PI.imp (vn hg hm (gQ ha hV (hs _)) (hs _)) λσ H R hp=>one (R:=RI X.K) hp λσu ρ H g u x hs hg r1 p => ?_;cases u with
 | int j =>
  cases r1;simp only [] at p;split at p
  .rename_i hj
   exact ⟨j,rfl,by omega,by omega,post.okHere (R:=RI X.K) p hg rfl⟩
  .exact p.elim
 | _=>exact p.elim
theorem pF{ρ:List Addr}{H:Hp}{g:G}{it:Iter}{J:It}{i:Nat}(hg:RH X.K ρ H g)(ri:RI X.K ρ H it J)(e:next it i g=some none):J.stop i H:=by
 cases it with
 | lst n =>
  obtain ⟨a,h1,rfl⟩:=ri;simp only [next] at e;cases eg:g[n]? with
  | none=>simp [eg] at e
  | some o =>
   cases o with
   | lst us =>
    simp only [eg,Option.some.injEq] at e;obtain ⟨vs,t2,t3⟩:=dQ hg h1 eg;exact ⟨vs,.of t2,List.getElem?_eq_none_iff.mp (t3.none_of e)⟩
   | dic _=>simp [eg] at e
   | dif _=>simp [eg] at e
   | dst _=>simp [eg] at e
   | ins _ _=>simp [eg] at e
 | dic n =>
  obtain ⟨a,o,ws,h1,h2,rfl⟩:=ri;simp only [next] at e;cases eg:g[n]? with
  | none=>simp [eg] at e
  | some ob =>
   cases ob with
   | dif kvs =>
    obtain ⟨a',o',ws',h1',h2',rd⟩:=hg.dif eg;rw [h1] at h1';cases h1';rw [h2] at h2';cases h2';simp only [eg,Option.some.injEq,Option.map_eq_none_iff] at e;exact ⟨h2,by rw [<-rd.len];exact List.getElem?_eq_none_iff.mp e⟩
   | _=>simp [eg] at e
 | enm n =>
  obtain ⟨a,h1,rfl⟩:=ri;simp only [next] at e;cases eg:g[n]? with
  | none=>simp [eg] at e
  | some o =>
   cases o with
   | lst us =>
    simp only [eg,Option.some.injEq,Option.map_eq_none_iff] at e;obtain ⟨vs,t2,t3⟩:=dQ hg h1 eg;exact ⟨vs,.of t2,List.getElem?_eq_none_iff.mp (t3.none_of e)⟩
   | _=>simp [eg] at e
 | seq us =>
  obtain ⟨a,vs,h1,h2,rfl⟩:=ri;simp only [next,Option.some.injEq] at e;exact ⟨vs,h1.elim SqU.sq SqC.sq,List.getElem?_eq_none_iff.mp (h2.none_of e)⟩
 | rng lo n =>
  cases ri;simp only [next,Option.some.injEq] at e;split at e
  .cases e
  .rename_i h;exact Nat.le_of_not_lt h
theorem rl{ρ:List Addr}{H:Hp}{g:G}{it:Iter}{J:It}{i:Nat}{u:U}(hg:RH X.K ρ H g)(ri:RI X.K ρ H it J)(e:next it i g=some (some u)):J.go i H /\ ∀ x H',J.yld i H x H'->Stp X.K ρ H ρ H'/\RH X.K ρ H' g/\RV X.K ρ H' u x:=by
 have here:∀ {x:V} {H':Hp},H'=H->RV X.K ρ H u x->Stp X.K ρ H ρ H'/\RH X.K ρ H' g/\RV X.K ρ H' u x:=λe r=>by subst e;exact ⟨.refl,hg,r⟩
 cases it with
 | lst n =>
  obtain ⟨a,h1,rfl⟩:=ri;simp only [next] at e;cases eg:g[n]? with
  | none=>simp [eg] at e
  | some o =>
   cases o with
   | lst us =>
    simp only [eg,Option.some.injEq] at e;obtain ⟨vs,t2,t3⟩:=dQ hg h1 eg;obtain ⟨v,ev,rv⟩:=t3.get e;refine ⟨⟨vs,v,.of t2,ev⟩,λx H' ⟨h1,h2⟩=>here h1 ?_⟩;have:=h2 vs (.of t2);rw [ev] at this;cases this;exact rv
   | dic _=>simp [eg] at e
   | dif _=>simp [eg] at e
   | dst _=>simp [eg] at e
   | ins _ _=>simp [eg] at e
 | dic n =>
  obtain ⟨a,o,ws,h1,h2,rfl⟩:=ri;simp only [next] at e;cases eg:g[n]? with
  | none=>simp [eg] at e
  | some ob =>
   cases ob with
   | dif kvs =>
    obtain ⟨a',o',ws',h1',h2',rd⟩:=hg.dif eg;rw [h1] at h1';cases h1';rw [h2] at h2';cases h2';simp only [eg,Option.some.injEq] at e;obtain ⟨⟨k,z⟩,e1,e2⟩:=Option.map_eq_some_iff.mp e;obtain ⟨v,ev,rv⟩:=rd.at e1;refine ⟨⟨h2,(List.getElem?_eq_some_iff.mp ev).1⟩,λx H' ⟨h3,b,k',v',ex,ek,hb⟩=>here h3 ?_⟩;rw [ev] at ek;cases ek;subst ex;subst e2;exact ⟨b,k.map V.int,rfl,by rw [List.map_map] at hb;exact hb,iO k⟩
   | _=>simp [eg] at e
 | enm n =>
  obtain ⟨a,h1,rfl⟩:=ri;simp only [next] at e;cases eg:g[n]? with
  | none=>simp [eg] at e
  | some o =>
   cases o with
   | lst us =>
    simp only [eg,Option.some.injEq] at e;obtain ⟨w,e1,e2⟩:=Option.map_eq_some_iff.mp e;obtain ⟨vs,t2,t3⟩:=dQ hg h1 eg;obtain ⟨v,ev,rv⟩:=t3.get e1;refine ⟨⟨vs,v,.of t2,ev⟩,λx H' ⟨p,v',hp,ex,eH,all⟩ => ?_⟩;have:=all vs (.of t2);rw [ev] at this;cases this;subst ex;subst eH;subst e2;have sp:Stp X.K ρ H ρ (upd H p (.tup [.int i,v])):=Stp.fresh hp;exact ⟨sp,hg.step_fresh hp,p,[.int i,v],rfl,upd_same,.int i,[v],rfl,rfl,v,[],rfl,RV.step sp _ _ rv,rfl⟩
   | _=>simp [eg] at e
 | seq us =>
  obtain ⟨a,vs,h1,h2,rfl⟩:=ri;simp only [next,Option.some.injEq] at e;obtain ⟨v,ev,rv⟩:=h2.get e;have h1':SqT X.K H a vs:=h1.elim SqU.sq SqC.sq;refine ⟨⟨vs,v,h1',ev⟩,λx H' ⟨h3,h4⟩=>here h3 ?_⟩;have:=h4 vs h1';rw [ev] at this;cases this;exact rv
 | rng lo n =>
  cases ri;simp only [next,Option.some.injEq] at e;split at e
  .rename_i h
   cases e;exact ⟨h,λx H' ⟨h1,h2⟩=>here h1 h2⟩
  .cases e
variable{st:Stmt}{rest:List Stmt}{s':S}{rest':List S}
theorem B9:PSs X [] (tSt X.K W (exF r [])):=xE.imp λD σ H ⟨σu,ρ,g,hs,hg,p⟩=>p σ ρ H .refl hg hs
theorem zc(h1:PS X st (tSt X.K W (s1F r s')))(h2:PSs X rest (tSt X.K W (r.ex rest'))):PSs X (st :: rest) (tSt X.K W (exF r (s' :: rest'))):=by
 refine (wR h1 h2).imp λD σ H ⟨σu,ρ,g,hs,hg,p⟩=>⟨σu,ρ,g,hs,hg,?_⟩;revert p;simp only [exF];cases s1F r s' σu g with
 | ok f g1 =>
  cases f with
  | nx σ1=>exact λp σ2 ρ2 H2 s2 h2 hs2=>⟨σ1,ρ2,g1,hs2,h2,postS.from (o:=r.ex rest' σ1 g1) p s2⟩
  | rt u=>exact λp=>p
  | bk σ1=>exact λp=>p
  | ct σ1=>exact λp=>p
 | exc c fs g1=>exact λp=>p
 | bad=>exact λp=>p
theorem iL{f:Su->G->Out U}{k:Su->U->G->Out Fl}{σ:L2.St}{H:Hp}{D:Ends}{Q2:V->Hp->Prop}
  (hp:∃ σu ρ g,RS X.K ρ H σu σ/\RH X.K ρ H g/\postS X.K W ((f σu g).bind λx g=>k σu x g) ρ H D)
  (imp:∀ σu ρ H g u x,RS X.K ρ H σu σ->RH X.K ρ H g->RV X.K ρ H u x->postS X.K W (k σu u g) ρ H D->Q2 x H):tE X.K W f σ H Q2:=by
 obtain ⟨σu,ρ,g,hs,hg,p⟩:=hp;exact ⟨σu,ρ,g,hs,hg,(postS.bind p).mono λx H1 ⟨ρ1,u,g1,s1,h1,r1,p1⟩=>imp σu ρ1 H1 g1 u x (hs.step s1) h1 r1 p1⟩
theorem Cd(h:PE X e (tE X.K W (r.ev e'))):PS X (.Return (some e) pos) (tSt X.K W (s1F r (.ret e'))) :=
 (CG h).imp λD σ H hp=>iL hp λσu ρ H g u x hs hg r1 p=>p x ρ H .refl hg r1
theorem Cv(h:PE X e (tE X.K W (r.ev e')))(hs:swapsWith e none pos.line X.env=pure false):PS X (.Expr e pos) (tSt X.K W (s1F r (.exp e'))) :=
 (yA h hs).imp λD σ H hp=>iL hp λσu ρ H g u x hs hg r1 p=>p _ ρ H .refl hg hs
theorem CA{v:V}{u:U}{σu:Su}{σ:L2.St}{ρ:List Addr}{H:Hp}{g:G}{D:Ends}(hs:RS X.K ρ H σu σ)(hg:RH X.K ρ H g)(rv:RV X.K ρ H u v)(p:postS X.K W (match ai t (unl t u g) σu with | some σ'=>Out.ok (.nx σ') g | none => .bad) ρ H D):tG X.K t v σ H D.nx:=by
 cases e:ai t (unl t u g) σu with
 | none=>simp only [e] at p;exact p.elim
 | some σ1=>simp only [e] at p;exact ⟨σu,ρ,g,u,σ1,hs,hg,rv,e,λσ' hs'=>p σ' ρ H .refl hg hs'⟩
theorem CP(h:PE X e (tE X.K W (r.ev e')))(hg:PG X tg (tG X.K t))(hs:swapsWithSole [tg] e pos.line X.env=pure false)(hw:swappedStores [tg] e X.env=pure none)(h1:(assignEach [tg] X.env).map (·.2)=[assign tg X.env]):
  PS X (.Assign [tg] e pos) (tSt X.K W (s1F r (.set t e'))) :=
 (qC h hg hs hw h1).imp λD σ H hp=>iL hp λσu ρ H g u x hs hg r1 p=>CA hs hg r1 p
theorem Cz{i:Nat}{x:Str}{pos':Pos}(hN:X.N.Nodup)(hi:X.N[i]? = some x)(hx:Loc X.env.scope x)(hf:X.fn x=true\/X.env.scope.names.lookup x=some .local)(h:PE X e (tE X.K W (r.ev e')))(hs:swapsWith e (some (.Name x pos')) pos.line X.env=pure false):
  PS X (.Assign [.Name x pos'] e pos) (tSt X.K W (s1F r (.set (.nm i) e'))) :=
 (Af hN hi hx h hs hf).imp λD σ H hp=>iL hp λσu ρ H g u x hs hg r1 p=>by
  simp only [unl,ai] at p;by_cases hl:i < σu.length
  .rw [if_pos hl] at p;exact p _ ρ H .refl hg (hs.set r1)
  .rw [if_neg hl] at p;exact p.elim
theorem BM{o i:Expr}{o' i':E}{spos:Pos}(hu:X.A.units+1 < cLine)(h:PE X e (tE X.K W (r.ev e')))(ho:PE X o (tE X.K W (r.ev o')))(hi:PE X i (tE X.K W (r.ev i')))(hs:swapsWithSole [.Subscript o i spos] e pos.line X.env=pure false)(hw:swappedStores [.Subscript o i spos] e X.env=pure none)
  (ha:∀ v,assign (.Subscript o i spos) X.env v=(do
   let ov <- holding [v] (eval o X.env)
   let iv <- holding [v,ov] (eval i X.env)
   standAt spos
   holding [v,ov,iv] (setItem ov iv v)
   release [v,ov,iv] [])):PS X (.Assign [.Subscript o i spos] e pos) (tSt X.K W (s1F r (.sub o' i' e'))):=by
 refine (qC h (AZ ho hi (zb set_list (set_dict hu)) ha) hs hw rfl).imp λD σ H ⟨σu,ρ,g,hs,hg,p⟩ => ?_;refine ⟨σu,ρ,g,hs,hg,(postS.bind p).mono λv H1 ⟨ρ1,u,g1,s1,h1,r1,p1⟩ => ?_⟩;refine ⟨σu,ρ1,g1,hs.step s1,h1,(postS.bind p1).mono λw H2 ⟨ρ2,u2,g2,s2,h2,r2,p2⟩ => ?_⟩;refine ⟨σu,ρ2,g2,(hs.step s1).step s2,h2,(postS.bind p2).mono λz H3 ⟨ρ3,u3,g3,s3,h3,r3,p3⟩ => ?_⟩;cases u2 with
 | ref n =>
  cases u3 with
  | int k =>
   cases r3;simp only [subAt,kz] at p3;cases eg:g3[n]? with
   | none=>simp only [eg] at p3;exact p3.elim
   | some ob =>
    cases ob with
    | lst us =>
     simp only [eg] at p3;obtain ⟨q,vs,rfl,hn,t2,t3⟩:=fH h3 (RV.step s3 _ _ r2) eg;cases ej:ixN us.length k with
     | none=>simp only [ej] at p3;exact p3.elim
     | some j =>
      simp only [ej] at p3;have rv:=RV.step s3 _ _ (RV.step s2 _ _ r1);exact .inl ⟨q,vs,k,j,rfl,rfl,t2,by rw [<-t3.length];exact ej,p3 _ ρ3 _ (Stp.write hn t2) (h3.write hn t2 (t3.set rv j)) ((((hs.step s1).step s2).step s3).step (Stp.write hn t2))⟩
    | dic _=>simp only [eg] at p3;exact p3.elim
    | dif _=>simp only [eg] at p3;exact p3.elim
    | dst _=>simp only [eg] at p3;exact p3.elim
    | ins _ _=>simp only [eg] at p3;exact p3.elim
  | tup us =>
   simp only [subAt,k9] at p3;cases eg:g3[n]? with
   | none=>simp only [eg] at p3;exact p3.elim
   | some ob =>
    cases ob with
    | dic kvs =>
     simp only [eg] at p3;cases ek:intsOf us with
     | none=>simp only [ek] at p3;exact p3.elim
     | some k =>
      simp only [ek] at p3;by_cases hl:kvs.length < ab
      .rw [if_pos hl] at p3
       obtain ⟨q,ws,hn,ha,rd⟩:=h3.dic eg;obtain ⟨q',rfl,hn'⟩:=RV.step s3 _ _ r2;rw [hn] at hn';cases hn';obtain ⟨b,rfl,hb⟩:=fk (x := .tup us) (k:=k) ek r3;have rv:=RV.step s3 _ _ (RV.step s2 _ _ r1);refine .inr ⟨q,_,rfl,DPut.t ha hb ?_,p3 _ ρ3 _ (Stp.writeO hn ha trivial) (h3.writeO hn ha trivial ⟨_,rfl,rd.put rv⟩) ((((hs.step s1).step s2).step s3).step (Stp.writeO hn ha trivial))⟩;rw [<-rd.len,sizeLine_eq];unfold ab at hl;omega
      .rw [if_neg hl] at p3;exact p3.elim
    | lst _=>simp only [eg] at p3;exact p3.elim
    | dif _=>simp only [eg] at p3;exact p3.elim
    | dst _=>simp only [eg] at p3;exact p3.elim
    | ins _ _=>simp only [eg] at p3;exact p3.elim
  | str k =>
   simp only [subAt,tw] at p3;cases eg:g3[n]? with
   | none=>simp only [eg] at p3;exact p3.elim
   | some ob =>
    cases ob with
    | dst kvs =>
     simp only [eg] at p3;by_cases hl:kvs.length < ab
     .rw [if_pos hl] at p3
      obtain ⟨q,ws,hn,ha,rk⟩:=h3.dst eg;obtain ⟨q',rfl,hn'⟩:=RV.step s3 _ _ r2;rw [hn] at hn';cases hn';cases r3;have rv:=RV.step s3 _ _ (RV.step s2 _ _ r1);refine .inr ⟨q,_,rfl,DPut.k (k:=Sum.inr k) ha ?_,p3 _ ρ3 _ (Stp.writeO hn ha trivial) (h3.writeO hn ha trivial ⟨_,rfl,rk.put rv⟩) ((((hs.step s1).step s2).step s3).step (Stp.writeO hn ha trivial))⟩;rw [<-rk.len,sizeLine_eq];unfold ab at hl;omega
     .rw [if_neg hl] at p3;exact p3.elim
    | _=>simp only [eg] at p3;exact p3.elim
  | _=>exact False.elim p3
 | _=>exact False.elim p3
theorem DZ{as bs:List Stmt}{as' bs':List S}(hc:PT X c (tT X.K W (r.ts c')))(ha:PSs X as (tSt X.K W (r.ex as')))(hb:PSs X bs (tSt X.K W (r.ex bs'))):PS X (.If c as bs pos) (tSt X.K W (s1F r (.ife c' as' bs'))):=by
 refine (E6 hc ha hb).imp λD σ H ⟨σu,ρ,g,hs,hg,p⟩ => ?_;refine ⟨σu,ρ,g,hs,hg,(postS.bind (R:=REq) p).mono λk H1 ⟨ρ1,k',g1,s1,h1,e1,p1⟩ => ?_⟩;subst e1;cases k' with
 | true=>exact eF ⟨σu,ρ1,g1,hs.step s1,h1,p1⟩
 | false=>exact eE ⟨σu,ρ1,g1,hs.step s1,h1,p1⟩
theorem rB{o:Out Fl}{k:Su->G->Out Fl}{ρ:List Addr}{H:Hp}{D:Ends}{N:L2.St->Hp->Prop}
  (p:postS X.K W (o.bind λf g=>match f with | .nx σ'=>k σ' g | .ct σ'=>k σ' g | .bk σ' => .ok (.nx σ') g | .rt u => .ok (.rt u) g) ρ H D)
  (hN:∀ σ1 g1 σ ρ' H',Stp X.K ρ H ρ' H'->RH X.K ρ' H' g1->RS X.K ρ' H' σ1 σ->postS X.K W (k σ1 g1) ρ' H' D->N σ H'):postS X.K W o ρ H { D with nx:=N,ct:=N,bk:=D.nx }:=by
 cases o with
 | ok f g =>
  cases f with
  | nx σ1=>exact λσ ρ' H' s h hs=>hN σ1 g σ ρ' H' s h hs (postS.from (o:=k σ1 g) p s)
  | ct σ1=>exact λσ ρ' H' s h hs=>hN σ1 g σ ρ' H' s h hs (postS.from (o:=k σ1 g) p s)
  | bk σ1=>exact p
  | rt u=>exact p
 | exc c fs g=>exact p
 | bad=>exact p
theorem Bf{bs:List Stmt}{bs':List S}{n:Nat}(hp:PassesOwn (model X.prog X.w) X.A X.env X.xe)(hc:∀ n,PT X c (tT X.K W ((lev C n).ts c')))(hb:∀ n,PSs X bs (tSt X.K W ((lev C n).ex bs'))):
  PS X (.While c bs [] pos) (tSt X.K W (s1F (lev C n) (.whl c' bs'))):=by
 intro pins s σ H D I hw;have key:∀ m σ H,(∃ σu ρ g,RS X.K ρ H σu σ/\RH X.K ρ H g/\postS X.K W ((lev C m).wh c' bs' σu g) ρ H D) -> ∃ m',m=m'+1:=λm σ H ⟨σu,ρ,g,_,_,p⟩=>by
  cases m with
  | zero=>exact p.elim
  | succ m'=>exact ⟨m',rfl⟩
 refine wpAny_While (codeAny_whileLoop (λn s' => ∃ σ' H',L2.Inv X pins σ' H' s' /\ ∃ σu ρ g,RS X.K ρ H' σu σ'/\RH X.K ρ H' g/\postS X.K W ((lev C n).wh c' bs' σu g) ρ H' D) ?_ n ⟨σ,H,I,hw⟩);rintro n s1 ⟨σ1,H1,I1,w1⟩;obtain ⟨m,rfl⟩:=key n σ1 H1 w1;obtain ⟨σu,ρ,g,hs,hg,p⟩:=w1;refine wpAny_passesOwn hp (thn (hc m pins s1 σ1 H1 (λb H2=>if b=true then tSt X.K W ((lev C m).ex bs') { D with nx:=λσ' H' => ∃ σu ρ g,RS X.K ρ H' σu σ'/\RH X.K ρ H' g/\postS X.K W ((lev C m).wh c' bs' σu g) ρ H' D,ct:=λσ' H' => ∃ σu ρ g,RS X.K ρ H' σu σ'/\RH X.K ρ H' g/\postS X.K W ((lev C m).wh c' bs' σu g) ρ H' D,bk:=D.nx } σ1 H2 else D.nx σ1 H2) I1 ?_) λb s2 ⟨H2,I2,q2⟩ => ?_)
 .refine ⟨σu,ρ,g,hs,hg,(postS.bind (R:=REq) p).mono λk H1 ⟨ρ1,k',g1,s1,h1,e1,p1⟩ => ?_⟩
  subst e1;cases k' with
  | true=>exact eF ⟨σu,ρ1,g1,hs.step s1,h1,rB (k:=λσ' g=>(lev C m).wh c' bs' σ' g) p1 λσ2 g2 σ ρ' H' s2 h2 hs2 p2=>⟨σ2,ρ',g2,hs2,h2,p2⟩⟩
  | false=>exact eE (p1 _ ρ1 _ .refl h1 (hs.step s1))
 .cases b with
  | true =>
   rw [if_pos rfl] at q2;rw [if_pos rfl];refine wpAny_passesOwn hp (thn (hb m pins s2 σ1 H2 _ I2 q2) λf s3 q3 => ?_);cases f with
   | next =>
    obtain ⟨σ3,H3,I3,n3⟩:=q3;exact ⟨m,Nat.lt_succ_self _,σ3,H3,I3,n3⟩
   | cont =>
    obtain ⟨σ3,H3,I3,n3⟩:=q3;exact ⟨m,Nat.lt_succ_self _,σ3,H3,I3,n3⟩
   | brk=>exact q3
   | ret v=>exact q3
  | false =>
   rw [if_neg Gz] at q2;rw [if_neg Gz];exact wpAny_execs_nil ⟨σ1,H2,I2,q2⟩
end
section
variable{K:GJ}{ρ ρ0:List Addr}{H H0:Hp}{g:G}{D:Addr}{o1 o2:HO}
theorem Stp.accum(s:Stp K ρ0 H0 ρ H)(h0:H0 D=none)(hD:H D=some o1)(hm:b8 o1):Stp K ρ0 H0 ρ (upd H D o2) where
 ext:=s.ext
 new:=s.new
 oth:=λa o h hn=>by rw [ar (bw h h0)];exact s.oth a o h hn
 live:=λa h=>by
  by_cases e:a=D
  .subst e;rw [upd_same];simp
  .rw [ar e];exact s.live a h
 tup:=λa xs h=>bU (s.tup a xs h) (.inr ⟨_,hD,hm⟩)
 fro:=λa xs h=>bV (s.fro a xs h) (.inr ⟨_,hD,hm⟩)
 frz:=λa ob u h=>by rw [ar (dj (s.frz a ob u h) hD (by rintro rfl;exact hm))];exact s.frz a ob u h
theorem RV.accum(hD:H D=some o1)(hm:b8 o1){u:U}{v:V}(h:RV K ρ H u v):RV K ρ (upd H D o2) u v:=RV.mono (λ_ _ e=>e) (λ_ _ h=>bU h (.inr ⟨_,hD,hm⟩)) (λ_ _ h=>bV h (.inr ⟨_,hD,hm⟩)) u v h
theorem RVs.accum(hD:H D=some o1)(hm:b8 o1){u:List U}{v:List V}(h:RVs K ρ H u v):RVs K ρ (upd H D o2) u v:=RVs.mono (λ_ _ e=>e) (λ_ _ h=>bU h (.inr ⟨_,hD,hm⟩)) (λ_ _ h=>bV h (.inr ⟨_,hD,hm⟩)) u v h
theorem RH.accum(h:RH K ρ H g)(hD:H D=some o1)(hm:b8 o1)(hn:D ∉ ρ):RH K ρ (upd H D o2) g where
 len:=h.len
 inj:=h.inj
 obj:=λn a o h1 h2=>by
  have q:=h.obj n a o h1 h2;have ne:a≠D:=λe=>hn (e ▸ List.mem_iff_getElem?.mpr ⟨n,h1⟩);obtain ⟨ho,e,r⟩:=q;exact ⟨ho,by rw [ar ne];exact e,r.mono (λ_ _ e=>e) (λ_ _ h=>bU h (.inr ⟨_,hD,hm⟩)) (λ_ _ h=>bV h (.inr ⟨_,hD,hm⟩))⟩
theorem RH.named{ob:O}(h:RH K ρ H g)(hD:H D=some o1)(hn:D ∉ ρ)(r:RHO K ρ H ob o1):RH K (ρ++[D]) H (g++[ob]):=by
 have up:∀ (n:Nat) (a:Addr),ρ[n]? = some a->(ρ++[D])[n]? = some a:=λn a e=>by rw [List.getElem?_append_left (List.getElem?_eq_some_iff.mp e).1];exact e
 have key:∀ k b,(ρ++[D])[k]? = some b->(k < ρ.length/\ρ[k]? = some b)\/(k=ρ.length/\b=D):=λk b e=>by
  by_cases hk:k < ρ.length
  .rw [List.getElem?_append_left hk] at e;exact .inl ⟨hk,e⟩
  .rw [List.getElem?_append_right (by omega)] at e
   cases hd:k - ρ.length with
   | zero=>rw [hd] at e;exact .inr ⟨by omega,by simpa using e.symm⟩
   | succ m=>rw [hd] at e;simp at e
 have noD:∀ k:Nat,ρ[k]? ≠ some D:=λk e=>hn (List.mem_iff_getElem?.mpr ⟨k,e⟩);refine ⟨by simp [h.len],λi j a h1 h2 => ?_,λn a o h1 h2 => ?_⟩
 .rcases key i a h1 with ⟨_,e1⟩ | ⟨e1,e1'⟩
  .rcases key j a h2 with ⟨_,e2⟩ | ⟨e2,e2'⟩
   .exact h.inj i j a e1 e2
   .subst e2';exact absurd e1 (noD i)
  .rcases key j a h2 with ⟨_,e2⟩ | ⟨e2,e2'⟩
   .subst e1';exact absurd e2 (noD j)
   .omega
 .rcases key n a h1 with ⟨hl,e1⟩ | ⟨e1,e1'⟩
  .rw [List.getElem?_append_left (by rw [<-h.len];exact hl)] at h2
   have q:=h.obj n a o e1 h2;obtain ⟨ho,e,r'⟩:=q;exact ⟨ho,e,r'.mono up (λ_ _ h=>h) (λ_ _ h=>h)⟩
  .subst e1'
   rw [List.getElem?_append_right (by rw [<-h.len];omega),<-h.len,e1] at h2
   have e2:o=ob:=by simpa using h2.symm
   subst e2;exact ⟨_,hD,r.mono up (λ_ _ h=>h) (λ_ _ h=>h)⟩
theorem Stp.named(s:Stp K ρ0 H0 ρ H)(h0:H0 D=none):Stp K ρ0 H0 (ρ++[D]) H where
 ext:=λn a h=>by have:=s.ext n a h;rw [List.getElem?_append_left (List.getElem?_eq_some_iff.mp this).1];exact this
 new:=λn a h=>by
  by_cases hk:n < ρ.length
  .rw [List.getElem?_append_left hk] at h;exact s.new n a h
  .rw [List.getElem?_append_right (by omega)] at h
   cases hd:n - ρ.length with
   | zero =>
    rw [hd] at h;have e:a=D:=by simpa using h.symm
    subst e;exact .inr h0
   | succ m=>rw [hd] at h;simp at h
 oth:=s.oth
 live:=s.live
 tup:=s.tup
 fro:=s.fro
 frz:=s.frz
theorem iY{ρ':List Addr}{H':Hp}(s:Stp K ρ H ρ' H')(hn:D ∉ ρ)(hD:H D=some o1):D ∉ ρ':=λhm=>by
 obtain ⟨n,e⟩:=List.mem_iff_getElem?.mp hm;rcases s.new n D e with q | q
 .exact hn (List.mem_iff_getElem?.mpr ⟨n,q⟩)
 .rw [hD] at q;cases q
theorem RS.unbind{t:Tg}{u:U}{σu σ1:Su}{σ:L2.St}(hf:a8 t σu=true)(hb:ai t u σu=some σ1)(h:RS K ρ H σ1 σ):RS K ρ H σu σ:=by
 have one:∀ (i:Nat) (w:U) (τ:Su),(match τ[i]? with | some none=>true | _=>false)=true -> ∀ (j:Nat) (z:U),τ[j]? = some (some z)->(τ.set i (some w))[j]? = some (some z):=λi w τ hi j z e=>by
  by_cases hj:j=i
  .subst hj;rw [e] at hi;cases hi
  .rw [List.getElem?_set_ne (Ne.symm hj)];exact e
 cases t with
 | nm i =>
  simp only [ai] at hb;split at hb
  .cases hb
   exact ⟨by have:=h.len;simpa using this,λj z e=>h.val j z (one i u σu hf j z e)⟩
  .cases hb
 | tp is =>
  cases u with
  | tup us =>
   have hb':bindL is us σu=some σ1:=hb;have all:∀ (is:List Nat) (us:List U) (τ τ1:Su),(∀ i∈is,∀ z,σu[i]? ≠ some (some z))->(∀ (j:Nat) (z:U),σu[j]? = some (some z)->τ[j]? = some (some z))->bindL is us τ=some τ1->τ1.length=τ.length /\ ∀ (j:Nat) (z:U),σu[j]? = some (some z)->τ1[j]? = some (some z):=λis=>by
    induction is with
    | nil =>
     intro us τ τ1 _ hτ e;cases us with
     | nil=>cases e;exact ⟨rfl,hτ⟩
     | cons _ _=>cases e
    | cons i is ih =>
     intro us τ τ1 hi hτ e;cases us with
     | nil=>cases e
     | cons w us =>
      simp only [bindL] at e;split at e
      .obtain ⟨h1,h2⟩:=ih us _ τ1 (λk hk=>hi k (GB _ hk)) (λj z ej=>by
        have hj:j≠i:=λq=>hi i GH z (q ▸ ej);rw [List.getElem?_set_ne (Ne.symm hj)];exact hτ j z ej) e
       exact ⟨by rw [h1];simp,h2⟩
      .cases e
   have hi:∀ i∈is,∀ z,σu[i]? ≠ some (some z):=λi hm z e=>by
    have:=List.all_eq_true.mp hf i hm;rw [e] at this;cases this
   obtain ⟨h1,h2⟩:=all is us σu σ1 hi (λ_ _ e=>e) hb';exact ⟨by rw [<-h1];exact h.len,λj z e=>h.val j z (h2 j z e)⟩
  | _=>simp [ai] at hb
theorem gu{α β:Type}{o:Out α}{k:α->G->Out β}{b:β}{g':G}(h:o.bindB k=.ok b g'):∃ a g1,o=.ok a g1/\k a g1=.ok b g':=by
 cases o with
 | ok a g1=>exact ⟨a,g1,rfl,h⟩
 | exc _ _ _=>cases h
 | bad=>cases h
end
section
variable{X:Cx}{C:Nat->List U->G->Out U}
noncomputable abbrev ifsT(ifs:List Expr)(env:Env):Sem Bool:=forIn ifs true λc r=>if r=true then do let ok <- isTrue c env (eval c env);pure (ForInStep.yield ok) else pure (ForInStep.yield r)
theorem nq{env:Env}{M:Model}{A:Around}{E:Value->Shared->Prop}{Q:Bool->Shared->Prop}{s:Shared}(h:Q false s):∀ ifs:List Expr,wpAny M A (forIn ifs false λc r=>if r=true then do let ok <- isTrue c env (eval c env);pure (ForInStep.yield ok) else pure (ForInStep.yield r)) Q E s
 | []=>ZP h
 | c :: cs=>by
  simp only [List.forIn_cons,Bool.false_eq_true,if_false];exact ZB (ZP (nq h cs))
noncomputable def PTs(X:Cx)(ifs:List Expr)(f:Su->G->Out Bool):Prop :=
 ∀ (pins:List (Addr×Obj)) (s:Shared) (σ:L2.St) (H:Hp) (Q:Bool->Hp->Prop),L2.Inv X pins σ H s->tT X.K W0' f σ H Q->wpAny (model X.prog X.w) X.A (ifsT ifs X.env) (TP X pins σ Q) X.xe s
where W0':XQ:=λ_ _ _=>False
theorem yq{r:L}:PTs X [] (aI r.ts []):=λpins s σ H Q I ⟨σu,ρ,g,hs,hg,p⟩=>ZP ⟨H,I,post.okHere (R:=REq) p hg rfl⟩
theorem vT{r:L}{c:Expr}{c':E}{cs:List Expr}{cs':List E}(hc:PT X c (tT X.K PTs.W0' (r.ts c')))(hcs:PTs X cs (aI r.ts cs')):PTs X (c :: cs) (aI r.ts (c' :: cs')):=by
 intro pins s σ H Q I ⟨σu,ρ,g,hs,hg,p⟩;unfold ifsT;simp only [List.forIn_cons,if_true];refine ZB (ZB (thn (hc pins s σ H (λk H1=>if k=true then tT X.K PTs.W0' (aI r.ts cs') σ H1 Q else Q false H1) I ⟨σu,ρ,g,hs,hg,(post.bind (R:=REq) p).mono λk H1 ⟨ρ1,k',g1,s1,h1,e1,p1⟩ => ?_⟩) λk s1 ⟨H1,I1,q1⟩ => ?_))
 .subst e1
  cases k' with
  | true=>exact eF ⟨σu,ρ1,g1,hs.step s1,h1,p1⟩
  | false=>exact eE (post.okHere (R:=REq) p1 h1 rfl)
 .cases k with
  | true=>rw [if_pos rfl] at q1;exact ZP (hcs pins s1 σ H1 Q I1 q1)
  | false=>rw [if_neg Gz] at q1;exact ZP (nq ⟨H1,I1,q1⟩ cs)
structure Mon(K:GJ)(ρ:List Addr)(H:Hp)(ρ':List Addr)(H':Hp):Prop where
 ext:∀ (n:Nat) (a:Addr),ρ[n]? = some a->ρ'[n]? = some a
 tup:∀ a xs,SqU K H a xs->SqU K H' a xs
 fro:∀ a xs,SqF K H a xs->SqF K H' a xs
 frz:∀ a o u,H a=some (.frz o u)->H' a=some (.frz o u)
theorem Stp.mon{K:GJ}{ρ ρ':List Addr}{H H':Hp}(s:Stp K ρ H ρ' H'):Mon K ρ H ρ' H':=⟨s.ext,s.tup,s.fro,s.frz⟩
theorem Mon.trans{K:GJ}{ρ ρ' ρ'':List Addr}{H H' H'':Hp}(a:Mon K ρ H ρ' H')(b:Mon K ρ' H' ρ'' H''):Mon K ρ H ρ'' H'':=⟨λn x h=>b.ext n x (a.ext n x h),λx xs h=>b.tup x xs (a.tup x xs h),λx xs h=>b.fro x xs (a.fro x xs h),λx o u h=>b.frz x o u (a.frz x o u h)⟩
theorem RI.mon{K:GJ}{ρ ρ':List Addr}{H H':Hp}{i:Iter}{J:It}(s:Mon K ρ H ρ' H')(h:RI K ρ H i J):RI K ρ' H' i J:=by
 cases i with
 | lst n=>obtain ⟨a,h1,h2⟩:=h;exact ⟨a,s.ext _ _ h1,h2⟩
 | dic n=>obtain ⟨a,o,ws,h1,h2,h3⟩:=h;exact ⟨a,o,ws,s.ext _ _ h1,s.frz _ _ _ h2,h3⟩
 | enm n=>obtain ⟨a,h1,h2⟩:=h;exact ⟨a,s.ext _ _ h1,h2⟩
 | seq us=>obtain ⟨a,vs,h1,h2,h3⟩:=h;exact ⟨a,vs,h1.imp_left (s.tup _ _),RVs.mono s.ext s.tup s.fro _ _ h2,h3⟩
 | rng lo n=>exact h
noncomputable def b0(X:Cx)(C:Nat->List U->G->Out U):List Comprehension->List (Tg×E×List E)->Prop
 | [],[]=>True
 | g :: r,(t,it',cs) :: r'=>g.is_async=0/\PG X g.target (tG X.K t)/\(∀ n,PTs X g.ifs (aI (lev C n).ts cs))/\(∀ n,PI X g.target g.iter (tI X.K PTs.W0' (itF (lev C n) it')))/\(∀ x,foldedSetIterable g.iter X.env x=pure x)/\b0 X C r r'
 | _,_=>False
set_option genInjectivity false in
inductive CK where | lst (elt:Expr) | dic (k v:Expr)
noncomputable def CK.exp(c:CK)(gens:List Comprehension)(scope:Scope)(pos:Pos):Expr:=match c with
 | .lst elt => .ListComp elt gens scope pos
 | .dic k v => .DictComp k v gens scope pos
noncomputable def CK.emit(c:CK)(acc:Value)(env:Env):Sem Unit:=match c with
 | .lst elt=>(do let _ <- call (.builtin "list.append") [acc,<-eval elt env])
 | .dic k v=>(do
   let kv <- eval k env
   let vv <- holding [kv] (eval v env)
   match acc with
   | .ref d=>do
    standAt { k.pos with endLine:=v.pos.endLine,endCol:=v.pos.endCol }
    holding [kv,vv] (dictSet d kv vv)
   | _=>unsupported "internal:dictcomp")
noncomputable def CK.new(c:CK):Sem Value:=match c with
 | .lst _=>newList []
 | .dic _ _=>newDict
noncomputable def CK.obj(c:CK):Obj:=match c with
 | .lst _=>{ cls := .type "list",dict:=none,data := .seq ([]:List Value).toArray }
 | .dic _ _=>{ cls := .type "dict",data := .dict #[] }
noncomputable def CK.ini(c:CK):HO:=match c with
 | .lst _ => .lst []
 | .dic _ _ => .dT []
noncomputable def CK.ho(K:GJ)(ρ:List Addr)(H:Hp)(c:CK)(acc:List U)(o:HO):Prop:=match c with
 | .lst _ => ∃ vs,o=.lst vs/\RVs K ρ H acc vs
 | .dic _ _ => ∃ kvs ws,o=.dT ws/\dfold acc []=some kvs/\RD K ρ H kvs ws
theorem CK.ho.mut{K:GJ}{ρ:List Addr}{H:Hp}{c:CK}{acc:List U}{o:HO}(h:CK.ho K ρ H c acc o):b8 o:=by
 cases c with
 | lst e=>obtain ⟨vs,rfl,_⟩:=h;trivial
 | dic k v=>obtain ⟨_,ws,rfl,_⟩:=h;trivial
theorem CK.ho.mono{K:GJ}{ρ ρ':List Addr}{H H':Hp}{c:CK}{acc:List U}{o:HO}(h:CK.ho K ρ H c acc o)(he:∀ (n:Nat) (a:Addr),ρ[n]? = some a->ρ'[n]? = some a)(ht:∀ a xs,SqU K H a xs->SqU K H' a xs)(hf:∀ a xs,SqF K H a xs->SqF K H' a xs):CK.ho K ρ' H' c acc o:=by
 cases c with
 | lst e=>obtain ⟨vs,e,r⟩:=h;exact ⟨vs,e,RVs.mono he ht hf _ _ r⟩
 | dic k v=>obtain ⟨kvs,ws,e,d,r⟩:=h;exact ⟨kvs,ws,e,d,RD.mono he ht hf _ _ r⟩
theorem CK.ho.step{K:GJ}{ρ ρ':List Addr}{H H':Hp}{c:CK}{acc:List U}{o:HO}(s:Stp K ρ H ρ' H')(h:CK.ho K ρ H c acc o):CK.ho K ρ' H' c acc o:=h.mono s.ext s.tup s.fro
theorem CK.ho0{K:GJ}{ρ:List Addr}{H:Hp}{c:CK}:CK.ho K ρ H c [] c.ini:=by
 cases c with
 | lst e=>exact ⟨[],rfl,rfl⟩
 | dic k v=>exact ⟨[],[],rfl,rfl,rfl⟩
theorem CK.new_wp{M:Model}{A:Around}{E:Value->Shared->Prop}{s:Shared}{Q:Value->Shared->Prop}{c:CK}(h:Q (.ref s.heap.objs.size) { s with heap:=s.heap.push c.obj }):wpAny M A c.new Q E s:=by
 cases c with
 | lst e=>exact wpAny_newObj_type h
 | dic k v=>exact wpAny_newObj_type h
theorem CK.ini_ok{P:Program}{w:World}{H:Hp}(c:CK)(h:Heap)(hb:sysModules < h.objs.size):ObjOk P w H (h.push c.obj) h.objs.size c.ini:=by
 cases c with
 | lst e=>exact ⟨Nat.zero_le _,[],0,.nil,GF _ rfl⟩
 | dic k v=>exact oe h hb
noncomputable def RR(X:Cx)(c:CK)(D:Addr)(pins:List (Addr×Obj))(ρ0:List Addr)(H0:Hp)(ρs:List Addr)(Hs:Hp)(σu:Su)(us:List U)(g':G)(r:Result)(s':Shared):Prop :=
 (∃ f,r=.ok f) /\ ∃ σ' H' ρ' vs',L2.Inv X pins σ' H' s'/\Stp X.K ρ0 H0 ρ' H'/\RH X.K ρ' H' g'/\RS X.K ρ' H' σu σ'/\H' D=some vs'/\D ∉ ρ'/\CK.ho X.K ρ' H' c us vs'/\Mon X.K ρs Hs ρ' H'
theorem uv{c:CK}{gens:List Comprehension}{scope:Scope}{pos:Pos}{k:Nat}{g:Comprehension}{it acc:Value}{env:Env}(hk:gens[k]? = some g)(ha:g.is_async=0):
  compTurn (c.exp gens scope pos) k it acc env=(do
   standAt g.iter.pos
   match <- pyNext it with
   | none=>pure (.done .next)
   | some v =>
    letOwnedTupleGo g.target it v
    assign g.target env v
    let ok <- ifsT g.ifs env
    if ok then
     match gens[k+1]? with
     | some g' =>
      let x <- eval g'.iter env
      standAt g'.iter.pos
      let x <- if g'.is_async != 0 then foldedIterable g'.iter x else foldedSetIterable g'.iter env x
      let _ <- runOwn (.compStart (c.exp gens scope pos) (k+1) (<- holding [x] (if g'.is_async != 0 then asyncIter x else pyIter x)) acc env) env
     | none=>c.emit acc env
    again (.compLoop (c.exp gens scope pos) k it acc env)):=by
 cases c with
 | lst elt=>unfold compTurn;simp only [CK.exp,hk,ha];rfl
 | dic kx vx=>unfold compTurn;simp only [CK.exp,hk,ha];rfl
end
section
variable{prog:Program}{w:World}{A:Around}{R:Result->Shared->Prop}{s:Shared}
theorem lQ{c:CK}{gens:List Comprehension}{scope:Scope}{pos:Pos}{k:Nat}{g:Comprehension}{it acc:Value}{env:Env}(hk:gens[k]? = some g)(ha:g.is_async=0)
  (h0:codeAny (model prog w) A (.compLoop (c.exp gens scope pos) k it acc env) R s)
  (h:wpAny (model prog w) A (pyIter it) (λit' s'=>codeAny (model prog w) A (.compLoop (c.exp gens scope pos) k it' acc env) R s')
   (notedBy (model prog w) A env λx s'=>R (.error x) s') s) :
  codeAny (model prog w) A (.compStart (c.exp gens scope pos) k it acc env) R s:=by
 refine codeAny_of_tree ?_;have key:(model prog w).den (.compStart (c.exp gens scope pos) k it acc env)=(compStart (c.exp gens scope pos) k it acc env).onRaise (λx=>do noteFrame x env;standAt theWindowsPlace):=by cases c <;> rfl
 have ku:A.under (.compStart (c.exp gens scope pos) k it acc env)=A:=by cases c <;> rfl
 rw [key,ku];refine wpAny_notedAt ?_;unfold compStart;have hc:(clausesOf (c.exp gens scope pos))[k]? = some g:=by cases c <;> exact hk
 simp only [hc,ha,Option.elim];show wpAny _ _ (ask >>= _) _ _ s;refine ZB (wpAny_askSetting (wpAny_ite ?_));split
 .first
   | exact ZB (ZP (ZP (And.intro rfl h0)))
   | exact ZP (And.intro rfl h0)
 .first
   | exact ZB (wpAny_rule (ZB (wpAny_standAt (ZB (wpAny_mono h (λit' s' h'=>ZP (And.intro rfl h')) λ_ _ x=>x)))))
   | (refine ZB (wpAny_rule ?_);show wpAny _ _ (standAt g.iter.pos >>= _) _ _ s;exact ZB (wpAny_standAt (ZB (wpAny_mono h (λit' s' h'=>ZP (And.intro rfl h')) λ_ _ x=>x))))
end
section
variable{X:Cx}{C:Nat->List U->G->Out U}
theorem noE{α:Type}{t:Sem α}{Q:α->Shared->Prop}{E:Value->Shared->Prop}{s:Shared}(hxe:X.xe=λ_ _=>False)(h:wpAny (model X.prog X.w) X.A t Q X.xe s):wpAny (model X.prog X.w) X.A t Q E s :=
 wpAny_mono h (λ_ _ q=>q) λe s' z=>by rw [hxe] at z;exact z.elim
noncomputable def ie(X:Cx)(C:Nat->List U->G->Out U)(c:CK)(elt':E):Prop :=
 ∀ (n:Nat) (pins:List (Addr×Obj)) (s:Shared) (σ1:Su) (σ:L2.St) (H:Hp) (ρ:List Addr) (g1:G) (acc:List U) (o:HO) (v:U) (g2:G) (D:Addr),(lev C n).ev elt' σ1 g1=.ok v g2->acc.length < ab->L2.Inv X pins σ H s->RS X.K ρ H σ1 σ->RH X.K ρ H g1->H D=some o->D ∉ ρ->CK.ho X.K ρ H c acc o ->
  wpAny (model X.prog X.w) X.A (c.emit (.ref D) X.env) (λ_ s2 => ∃ ρ1 H1 o2,L2.Inv X pins σ (upd H1 D o2) s2/\Stp X.K ρ H ρ1 H1/\RH X.K ρ1 H1 g2/\H1 D=some o/\CK.ho X.K ρ1 (upd H1 D o2) c (acc++[v]) o2) X.xe s
theorem oq{elt:Expr}{elt':E}(helt:∀ n,PE X elt (tE X.K PTs.W0' ((lev C n).ev elt'))):ie X C (.lst elt) elt':=by
 intro n pins s σ1 σ H ρ g1 acc o v g2 D e1 hl I hs hg hD hn ⟨vs,eo,rv⟩;subst eo;refine ZB (thn (helt n pins s σ H (λx H1 => ∃ ρ1,Stp X.K ρ H ρ1 H1/\RH X.K ρ1 H1 g2/\RV X.K ρ1 H1 v x) I ⟨σ1,ρ,g1,hs,hg,by rw [e1];exact λv ρ1 H1 s1 h1 r1=>⟨ρ1,s1,h1,r1⟩⟩) λu s1 ⟨x,H1,I1,r1,ρ1,sp1,hg1,rx⟩ => ?_)
 have hD1:H1 D=some (.lst vs):=sp1.oth D _ hD hn;refine ZB (thn (mQ pins s1 σ H1 (.ref D) [x] (.ref D) [u] (λ_ H2=>H2=upd H1 D (.lst (vs++[x]))) I1 rfl (.cons r1 .nil) ⟨D,vs,x,rfl,rfl,hD1,by rw [<-rv.length,sizeLine_eq];unfold ab at hl;omega,rfl⟩) λu2 s2 ⟨x2,H2,I2,r2,eh⟩ => ?_)
 subst eh;exact ZP ⟨ρ1,H1,_,I2,sp1,hg1,hD1,_,rfl,((RVs.step sp1 _ _ rv).append (.one rx)).accum hD1 trivial⟩
theorem nM:∀ {xs ys:List U} {k0 kvs:List (List Int×U)},dfold xs k0=some kvs->dfold (xs++ys) k0=dfold ys kvs
 | [],_,_,_,e=>by cases e;rfl
 | x :: xs,ys,k0,kvs,e=>by
  simp only [List.cons_append,dfold] at e ⊢;obtain ⟨k1,h1,h2⟩:=Option.bind_eq_some_iff.mp e;rw [h1];exact nM h2
theorem wd{kvs:List (List Int×U)}{k:List Int}{u:U}:(dput kvs k u).length<=kvs.length+1:=by
 unfold dput;split <;> simp
theorem u1{kvs k1:List (List Int×U)}{x:U}(e:fE kvs x=some k1):k1.length<=kvs.length+1:=by
 unfold fE at e;split at e
 .obtain ⟨ks,_,rfl⟩:=Option.map_eq_some_iff.mp e;exact wd
 .cases e
theorem nL:∀ {xs:List U} {k0 kvs:List (List Int×U)},dfold xs k0=some kvs->kvs.length<=k0.length+xs.length
 | [],_,_,e=>by cases e;simp
 | x :: xs,k0,kvs,e=>by
  simp only [dfold] at e;obtain ⟨k1,h1,h2⟩:=Option.bind_eq_some_iff.mp e;have:=u1 h1;have:=nL h2;simp only [List.length_cons];omega
theorem wW{kx vx:Expr}{k' v':E}(hu:X.A.units+1 < cLine)(hk:∀ n,PE X kx (tE X.K PTs.W0' ((lev C n).ev k')))(hv:∀ n,PE X vx (tE X.K PTs.W0' ((lev C n).ev v'))):ie X C (.dic kx vx) (.pair k' v'):=by
 intro n pins s σ1 σ H ρ g1 acc o v g2 D e1 hl I hs hg hD hn ⟨kvs,ws,eo,ed,rd⟩;subst eo;cases n with
 | zero=>cases e1
 | succ n =>
  have e1':(((lev C n).ev k' σ1 g1).bind λx g=>((lev C n).ev v' σ1 g).bind λy g=>match keyOf x with | some _ => .ok (.tup [x,y]) g | none => .bad)=Out.ok v g2:=e1
  cases ek:(lev C n).ev k' σ1 g1 with
  | exc _ _ _=>rw [ek] at e1';cases e1'
  | bad=>rw [ek] at e1';cases e1'
  | ok ku ga =>
   rw [ek] at e1';cases ev:(lev C n).ev v' σ1 ga with
   | exc _ _ _=>simp only [Out.bind,ev] at e1';cases e1'
   | bad=>simp only [Out.bind,ev] at e1';cases e1'
   | ok vu gb =>
    simp only [Out.bind,ev] at e1';cases ekk:keyOf ku with
    | none=>rw [ekk] at e1';cases e1'
    | some kk =>
     rw [ekk] at e1';cases e1';refine ZB (thn (hk n pins s σ H (λx H1 => ∃ ρ1,Stp X.K ρ H ρ1 H1/\RH X.K ρ1 H1 ga/\RV X.K ρ1 H1 ku x) I ⟨σ1,ρ,g1,hs,hg,by rw [ek];exact λv ρ1 H1 s1 h1 r1=>⟨ρ1,s1,h1,r1⟩⟩) λu s1 ⟨x,H1,I1,r1,ρ1,sp1,hg1,rx⟩ => ?_)
     refine ZB (wpAny_holding (thn (hv n pins s1 σ H1 (λx H2 => ∃ ρ2,Stp X.K ρ1 H1 ρ2 H2/\RH X.K ρ2 H2 g2/\RV X.K ρ2 H2 vu x) I1 ⟨σ1,ρ1,ga,hs.step sp1,hg1,by rw [ev];exact λv ρ1 H1 s1 h1 r1=>⟨ρ1,s1,h1,r1⟩⟩) λw s2 ⟨y,H2,I2,r2,ρ2,sp2,hg2,ry⟩ => ?_))
     obtain ⟨b,rfl,hb⟩:=fk ekk (RV.step sp2 _ _ rx);obtain rfl:u=Value.ref b:=r1;have sp:=sp1.trans sp2;have hD2:H2 D=some (.dT ws):=sp.oth D _ hD hn;refine ZB (wpAny_standAt (wpAny_holding (DM hu I2 hD2 hb ?_ r2 λs3 I3=>⟨ρ2,H2,_,I3,sp,hg2,hD2,dput kvs kk vu,_,rfl,?_,?_⟩)))
     .have:=nL ed;rw [<-rd.len,sizeLine_eq];unfold ab at hl;simp at this;omega
     .rw [nM ed];simp only [dfold,fE,ekk,Option.map_some,Option.bind_some]
     .exact RD.mono (λ_ _ e=>e) (λ_ _ h=>bU h (.inr ⟨_,hD2,trivial⟩)) (λ_ _ h=>bV h (.inr ⟨_,hD2,trivial⟩)) _ _ ((rd.mono sp.ext sp.tup sp.fro).put ry)
noncomputable abbrev postC(c:Code)(R:Result->Shared->Prop)(N:Shared->Prop):PySem.Fin->Shared->Prop:=λfin s'=>match fin with | .done f=>R (.ok f) s' | .again c'=>c'=c/\N s'
theorem qf(hc:X.calm=true)(hxe:X.xe=λ_ _=>False){c:CK}{elt':E}{gens:List Comprehension}{scope:Scope}{pos:Pos}{D:Addr}{k:Nat}{gc:Comprehension}{t:Tg}{cs:List E}{rest':List (Tg×E×List E)}{ρ0 ρs:List Addr}{H0 Hs:Hp}
  {it:Addr} {fp:List Addr} {tn:Nat->Heap->Prop} {J:It} {itI:Iter} {pins:List (Addr×Obj)} {σu:Su} {us:List U} {g':G}
  (hk:gens[k]? = some gc) (ha:gc.is_async=0) (hg:PG X gc.target (tG X.K t)) (hts:∀ n,PTs X gc.ifs (aI (lev C n).ts cs)) (T:Turn X.prog X.w X.K gc.target J fp it tn) (hst:∀ b∈fp,∀ H':Hp,H' b=none->bf X pins H' b) (h0:H0 D=none)
  (inner:∀ (n:Nat) (pins':List (Addr×Obj)) (s:Shared) (σ1:Su) (σ:L2.St) (H:Hp) (ρ:List Addr) (g1:G) (acc:List U) (vs:HO) (i:Nat) (N:Shared->Prop) (E:Value->Shared->Prop),
   (match rest' with
    | []=>((lev C n).ev elt' σ1 g1).bindB λv g=>if acc.length < ab then (lev C n).cm itI (i+1) t cs rest' elt' (acc++[v]) σu g else .bad
    | (t2,it2,cs2) :: rest2=>(itF (lev C n) it2 σ1 g1).bindB λj g=>((lev C n).cm j 0 t2 cs2 rest2 elt' acc σ1 g).bindB λacc2 g=>(lev C n).cm itI (i+1) t cs rest' elt' acc2 σu g)=.ok us g' ->
   L2.Inv X pins' σ H s->RS X.K ρ H σ1 σ->RH X.K ρ H g1->Stp X.K ρ0 H0 ρ H->H D=some vs->D ∉ ρ->CK.ho X.K ρ H c acc vs ->
   (∀ s' σ' H' ρ' g2 acc2 vs2,(lev C n).cm itI (i+1) t cs rest' elt' acc2 σu g2=.ok us g'->L2.Inv X pins' σ' H' s'->RS X.K ρ' H' σ1 σ'->RH X.K ρ' H' g2->Stp X.K ρ0 H0 ρ' H'->Mon X.K ρ H ρ' H'->H' D=some vs2->D ∉ ρ'->CK.ho X.K ρ' H' c acc2 vs2->N s') ->
   wpAny (model X.prog X.w) X.A (match gens[k+1]? with
     | some g'=>(do
      let x <- eval g'.iter X.env
      standAt g'.iter.pos
      if (g'.is_async != 0)=true then do
        let x <- foldedIterable g'.iter x
        let y <- holding [x] (if (g'.is_async != 0)=true then asyncIter x else pyIter x)
        let _ <- runOwn (.compStart (c.exp gens scope pos) (k+1) y (.ref D) X.env) X.env
        again (.compLoop (c.exp gens scope pos) k (.ref it) (.ref D) X.env)
       else do
        let x <- foldedSetIterable g'.iter X.env x
        let y <- holding [x] (if (g'.is_async != 0)=true then asyncIter x else pyIter x)
        let _ <- runOwn (.compStart (c.exp gens scope pos) (k+1) y (.ref D) X.env) X.env
        again (.compLoop (c.exp gens scope pos) k (.ref it) (.ref D) X.env))
     | none=>(do
      c.emit (.ref D) X.env
      again (.compLoop (c.exp gens scope pos) k (.ref it) (.ref D) X.env))) (postC (.compLoop (c.exp gens scope pos) k (.ref it) (.ref D) X.env) (RR X c D pins ρ0 H0 ρs Hs σu us g') N) E s)
  (n:Nat) (s:Shared) (i:Nat) (acc:List U) (vs:HO) (σ:L2.St) (H:Hp) (ρ:List Addr) (g0:G) (eq:(lev C n).cm itI i t cs rest' elt' acc σu g0=.ok us g') (I:L2.Inv X pins σ H s) (st:tn i s.heap) (hf:∀ b∈fp,H b=none)
  (hs:RS X.K ρ H σu σ) (hgg:RH X.K ρ H g0) (ri:RI X.K ρ H itI J) (sp:Stp X.K ρ0 H0 ρ H) (hD:H D=some vs) (hn:D ∉ ρ) (rv:CK.ho X.K ρ H c acc vs) (mo:Mon X.K ρs Hs ρ H) :
  codeAny (model X.prog X.w) X.A (.compLoop (c.exp gens scope pos) k (.ref it) (.ref D) X.env) (RR X c D pins ρ0 H0 ρs Hs σu us g') s:=by
 refine codeAny_loop (by cases c <;> rfl) (λn s => ∃ i acc vs σ H ρ g0,(lev C n).cm itI i t cs rest' elt' acc σu g0=.ok us g'/\L2.Inv X pins σ H s/\tn i s.heap/\(∀ b∈fp,H b=none)/\RS X.K ρ H σu σ/\RH X.K ρ H g0/\RI X.K ρ H itI J/\Stp X.K ρ0 H0 ρ H/\H D=some vs/\D ∉ ρ/\CK.ho X.K ρ H c acc vs/\Mon X.K ρs Hs ρ H) ?_ n ⟨i,acc,vs,σ,H,ρ,g0,eq,I,st,hf,hs,hgg,ri,sp,hD,hn,rv,mo⟩
 clear eq I st hf hs hgg ri sp hD hn rv mo;rintro n s ⟨i,acc,vs,σ,H,ρ,g0,eq,I,st,hf,hs,hgg,ri,sp,hD,hn,rv,mo⟩;cases n with
 | zero=>cases eq
 | succ n =>
  have eq':cmF (lev C n) itI i t cs rest' elt' acc σu g0=.ok us g':=eq;clear eq;simp only [cmF] at eq';have key:(model X.prog X.w).den (.compLoop (c.exp gens scope pos) k (.ref it) (.ref D) X.env)=(compTurn (c.exp gens scope pos) k (.ref it) (.ref D) X.env).onRaise (λx=>do noteFrame x X.env;theTreesLotGoes x):=by cases c <;> rfl
  have ku:X.A.under (.compLoop (c.exp gens scope pos) k (.ref it) (.ref D) X.env)=X.A:=by cases c <;> rfl
  rw [key,ku];refine wpAny_noted ?_;rw [uv hk ha];refine ZB (wpAny_standAt (ZB ?_));have stat:∀ {H':Hp},(∀ b∈fp,H' b=none) -> ∀ b∈fp,bf X pins H' b:=λh b hb=>hst b hb _ (h b hb);cases en:next itI i g0 with
  | none=>simp only [en] at eq';cases eq'
  | some o =>
   cases o with
   | none =>
    simp only [en] at eq';cases eq';refine thn (T.done X rfl rfl rfl hc i pins s σ H _ I (stat hf) st (pF hgg ri en)) λr s1 ⟨hr,I1⟩ => ?_;subst hr;exact ZP ⟨⟨_,rfl⟩,σ,H,ρ,vs,I1,sp,hgg,hs,hD,hn,rv,mo⟩
   | some u =>
    simp only [en] at eq';obtain ⟨go,yl⟩:=rl hgg ri en;refine thn (T.item X rfl rfl rfl hc i pins s σ H _ I (stat hf) st go) λr s1 ⟨u',hr,h4⟩ => ?_;subst hr;refine ZB (thn h4 λ_ s5 ⟨x,H5,I5,r5,y5,st5,fr5⟩ => ?_);obtain ⟨spy,hgg5,rx⟩:=yl x H5 y5;replace hs:=hs.step spy;replace hgg:=hgg5;replace ri:=ri.step spy;replace sp:=sp.trans spy;replace hD:=spy.oth D _ hD hn;replace rv:=rv.step spy;replace mo:=mo.trans spy.mon;have I5':=I5.pinned (stat fr5) (T.obj _ _ st5);split at eq'
    .rename_i hfree
     cases eb:ai t u σu with
     | none=>simp only [eb] at eq';cases eq'
     | some σ1 =>
      simp only [eb] at eq';obtain ⟨kk,g1,e1,e2⟩:=gu eq';refine ZB (noE hxe (thn (hg _ s5 σ H5 x u' (λσ' H'=>H'=H5/\RS X.K ρ H5 σ1 σ') I5' r5 ⟨σu,ρ,g0,u,σ1,hs,hgg,rx,mY eb,λσ' h=>⟨rfl,h⟩⟩) λ_ s6 ⟨σ6,H6,I6,eh,hs6⟩ => ?_));subst eh;refine ZB (noE hxe (thn (hts n _ s6 σ6 H6 (λk' H'=>k'=kk /\ ∃ ρ1,Stp X.K ρ H6 ρ1 H'/\RH X.K ρ1 H' g1) I6 ⟨σ1,ρ,g0,hs6,hgg,by rw [e1];exact λv ρ1 H1 s1 h1 e=>⟨e.symm,ρ1,s1,h1⟩⟩) λk' s7 ⟨H7,I7,ek,ρ1,sp1,hg1⟩ => ?_))
      subst ek;have back:∀ (s':Shared) (σ':L2.St) (H':Hp) (ρ':List Addr) (g2:G) (acc2:List U) (vs2:HO),(lev C n).cm itI (i+1) t cs rest' elt' acc2 σu g2=.ok us g'->L2.Inv X (pins++ft fp s5.heap) σ' H' s'->RS X.K ρ' H' σ1 σ'->RH X.K ρ' H' g2->Stp X.K ρ0 H0 ρ' H'->Mon X.K ρ1 H7 ρ' H'->H' D=some vs2->D ∉ ρ'->CK.ho X.K ρ' H' c acc2 vs2 ->
        ∃ m,m < n+1 /\ ∃ i acc vs σ H ρ g0,(lev C m).cm itI i t cs rest' elt' acc σu g0=.ok us g'/\L2.Inv X pins σ H s'/\tn i s'.heap/\(∀ b∈fp,H b=none)/\RS X.K ρ H σu σ/\RH X.K ρ H g0/\RI X.K ρ H itI J/\Stp X.K ρ0 H0 ρ H/\H D=some vs/\D ∉ ρ/\CK.ho X.K ρ H c acc vs/\Mon X.K ρs Hs ρ H:=λs' σ' H' ρ' g2 acc2 vs2 q1 q2 q3 q4 q5 q6 q7 q8 q9=>by
       refine ⟨n,Nat.lt_succ_self _,i+1,acc2,vs2,σ',H',ρ',g2,q1,q2.unpinned,T.keep _ _ _ st5 λb hb o e=>(q2.pin (b,o) (List.mem_append_right _ (List.mem_append_right _ (f9 hb e)))).1,λb hb => ?_,RS.unbind hfree eb q3,q4,(ri.step sp1).mon q6,q5,q7,q8,q9,(mo.trans sp1.mon).trans q6⟩;obtain ⟨o,e,d⟩:=T.obj _ _ st5 b hb;exact (q2.pin (b,o) (List.mem_append_right _ (List.mem_append_right _ (f9 hb e)))).2.1
      have hD7:H7 D=some vs:=sp1.oth D _ hD hn;have hn7:D ∉ ρ1:=iY sp1 hn hD;have rv7:=rv.step sp1;cases k' with
      | false =>
       simp only [Bool.false_eq_true,if_false] at e2 ⊢;exact ZP ⟨rfl,back s7 σ6 H7 ρ1 g1 acc vs e2 I7 (hs6.step sp1) hg1 (sp.trans sp1) ⟨λ_ _ h=>h,λ_ _ h=>h,λ_ _ h=>h,λ_ _ _ h=>h⟩ hD7 hn7 rv7⟩
      | true =>
       simp only [if_true] at e2 ⊢;exact inner n _ s7 σ1 σ6 H7 ρ1 g1 acc vs i _ _ e2 I7 (hs6.step sp1) hg1 (sp.trans sp1) hD7 hn7 rv7 back
    .cases eq'
theorem vI(hc:X.calm=true)(hxe:X.xe=λ_ _=>False){c:CK}{elt':E}(hem:ie X C c elt'){gens:List Comprehension}{scope:Scope}{pos:Pos}{D:Addr}:
  ∀ (rest:List Comprehension) (rest':List (Tg×E×List E)) (k:Nat) (gc:Comprehension) (t:Tg) (cs:List E),gens[k]? = some gc->gens.drop (k+1)=rest->gc.is_async=0->PG X gc.target (tG X.K t) ->
   (∀ n,PTs X gc.ifs (aI (lev C n).ts cs))->b0 X C rest rest' ->
   ∀ (n:Nat) (pins:List (Addr×Obj)) (s:Shared) (it:Addr) (fp:List Addr) (tn:Nat->Heap->Prop) (J:It) (itI:Iter) (i:Nat) (acc:List U) (vs:HO) (σu:Su) (σ:L2.St) (H:Hp) (ρ ρ0:List Addr) (H0:Hp) (g0:G) (us:List U) (g':G),
    Turn X.prog X.w X.K gc.target J fp it tn->(lev C n).cm itI i t cs rest' elt' acc σu g0=.ok us g'->L2.Inv X pins σ H s->tn i s.heap->(∀ b∈fp,bf X pins H b)->RS X.K ρ H σu σ->RH X.K ρ H g0->RI X.K ρ H itI J ->
    Stp X.K ρ0 H0 ρ H->H0 D=none->H D=some vs->D ∉ ρ->CK.ho X.K ρ H c acc vs ->
    codeAny (model X.prog X.w) X.A (.compLoop (c.exp gens scope pos) k (.ref it) (.ref D) X.env) (RR X c D pins ρ0 H0 ρ H σu us g') s:=by
 intro rest
 induction rest with
 | nil =>
  intro rest' k gc t cs hk hdrop ha hg hts hgo n pins s it fp tn J itI i acc vs σu σ H ρ ρ0 H0 g0 us g' T eq I st hf hs hgg ri sp h0 hD hn rv;have hk1:gens[k+1]? = none:=by
   have:=congrArg List.length hdrop;rw [List.length_drop] at this;exact List.getElem?_eq_none_iff.mpr (by simp at this;omega)
  cases rest' with
  | cons _ _=>exact False.elim hgo
  | nil =>
   refine qf hc hxe hk ha hg hts T (λb hb H' h=>⟨h,(hf b hb).2⟩) h0 ?_ n s i acc vs σ H ρ g0 eq I st (λb hb=>(hf b hb).1) hs hgg ri sp hD hn rv ⟨λ_ _ h=>h,λ_ _ h=>h,λ_ _ h=>h,λ_ _ _ h=>h⟩;intro n pins' s σ1 σ H ρ g1 acc vs i N E eq I hs hg sp hD hn rv back;obtain ⟨v,g2,e1,e2⟩:=gu eq;rw [hk1];split at e2
   .rename_i hl
    refine ZB (noE hxe (thn (hem n pins' s σ1 σ H ρ g1 acc vs v g2 D e1 hl I hs hg hD hn rv) λ_ s2 ⟨ρ1,H1,o2,I2,sp1,hg1,hD1,rv2⟩ => ?_));have hn1:D ∉ ρ1:=iY sp1 hn hD;have hm:=rv.mut;refine ZP ⟨rfl,?_⟩;refine back s2 σ _ ρ1 g2 (acc++[v]) o2 e2 I2 ?_ (hg1.accum hD1 hm hn1) ((sp.trans sp1).accum h0 hD1 hm) (sp1.mon.trans ⟨λ_ _ h=>h,λ_ _ h=>bU h (.inr ⟨_,hD1,hm⟩),λ_ _ h=>bV h (.inr ⟨_,hD1,hm⟩),λ_ _ _ h=>by rw [ar (dj h hD1 (by rintro rfl;exact hm))];exact h⟩) upd_same hn1 rv2
    exact ⟨hs.len,λj z e=>let ⟨w,w1,w2⟩:=(hs.step sp1).val j z e;⟨w,w1,w2.accum hD1 hm⟩⟩
   .cases e2
 | cons gn rest ih =>
  intro rest' k gc t cs hk hdrop ha hg hts hgo n pins s it fp tn J itI i acc vs σu σ H ρ ρ0 H0 g0 us g' T eq I st hf hs hgg ri sp h0 hD hn rv;have hk1:gens[k+1]? = some gn:=by
   have:=congrArg (λl=>l[0]?) hdrop;simpa [List.getElem?_drop] using this
  have hdrop2:gens.drop (k+1+1)=rest:=by
   rw [<-List.drop_drop,hdrop];rfl
  cases rest' with
  | nil=>exact False.elim hgo
  | cons q2 rest2 =>
   obtain ⟨t2,it2,cs2⟩:=q2;obtain ⟨a2,pg2,pts2,pi2,fold2,hgo2⟩:=hgo;refine qf hc hxe hk ha hg hts T (λb hb H' h=>⟨h,(hf b hb).2⟩) h0 ?_ n s i acc vs σ H ρ g0 eq I st (λb hb=>(hf b hb).1) hs hgg ri sp hD hn rv ⟨λ_ _ h=>h,λ_ _ h=>h,λ_ _ h=>h,λ_ _ _ h=>h⟩;intro n pins' s σ1 σ H ρ g1 acc vs i N E eq I hs hg sp hD hn rv back;obtain ⟨j,g3,e1,e2⟩:=gu eq;obtain ⟨acc2,g4,e3,e4⟩:=gu e2;rw [hk1];refine ZB (noE hxe (thn (pi2 n pins' s σ H (λJ H1 => ∃ ρ1,Stp X.K ρ H ρ1 H1/\RH X.K ρ1 H1 g3/\RI X.K ρ1 H1 j J) I ⟨σ1,ρ,g1,hs,hg,by rw [e1];exact λv ρ1 H1 s1 h1 r1=>⟨ρ1,s1,h1,r1⟩⟩) λv s1 h1=>ZB (wpAny_standAt ?_)))
   rw [a2];rw [if_neg (by decide)]
   refine ZB (wpAny_of_eq (fold2 v) (ZB (wpAny_holding ?_)));rw [if_neg (by decide)]
   refine noE hxe (thn h1 λitv s2 h2 => ?_);obtain ⟨ita,fp2,tn2,J2,H2,e,I2,T2,st2,f2,ρ1,sp1,hg1,ri1⟩:=h2;subst e;have hD1:H2 D=some vs:=sp1.oth D _ hD hn;have hn1:D ∉ ρ1:=iY sp1 hn hD;have loop:=ih rest2 (k+1) gn t2 cs2 hk1 hdrop2 a2 pg2 pts2 hgo2 n pins' s2 ita fp2 tn2 J2 j 0 acc vs σ1 σ H2 ρ1 ρ0 H0 g3 acc2 g4 T2 e3 I2 st2 f2 (hs.step sp1) hg1 ri1 (sp.trans sp1) h0 hD1 hn1 (rv.step sp1);refine ZB (wpAny_runOwn (codeAny_mono (lQ hk1 a2 loop (T2.self _ 0 s2 _ _ st2 loop)) λr s3 hr => ?_));obtain ⟨⟨f,rfl⟩,σ',H',ρ',vs',I3,sp3,hg3,hs3,hD3,hn3,rv3,mo3⟩:=hr;exact ZP ⟨rfl,back s3 σ' H' ρ' g4 acc2 vs' e4 I3 hs3 hg3 sp3 (sp1.mon.trans mo3) hD3 hn3 rv3⟩
end
noncomputable def clF(cells:List (Str×Addr)):List (Str×NameKind)->List (Str×Addr)->List (Str×Addr)
 | [],acc=>acc
 | (x,k) :: r,acc=>if k == .free then (match cells.lookup x with | some c=>clF cells r ((x,c) :: acc) | none=>clF cells r acc) else clF cells r acc
theorem iX{env:Env}{scope:Scope}(h:∀ x∈scope.names,x.2=.free -> ∃ c,env.cells.lookup x.1=some c):closureFor scope env=pure (clF env.cells scope.names []):=by
 have all:∀ (names:List (Str×NameKind)) (acc:List (Str×Addr)),(∀ x∈names,x.2=.free -> ∃ c,env.cells.lookup x.1=some c) ->
   (forIn names acc λ(x:Str×NameKind) (cs:List (Str×Addr))=>match x with | (name,kind)=>if (kind == NameKind.free)=true then do let c <- cellOf env name;pure (ForInStep.yield ((name,c) :: cs)) else pure (ForInStep.yield cs):Sem (List (Str×Addr)))=pure (clF env.cells names acc):=λnames=>by
  induction names with
  | nil=>intro acc _;rfl
  | cons p r ih =>
   intro acc hp;obtain ⟨x,k⟩:=p;simp only [List.forIn_cons,clF];by_cases hk:k=.free
   .subst hk
    obtain ⟨c,hc⟩:=hp (x,.free) GH rfl;have hco:cellOf env x=pure c:=by unfold cellOf;simp only at hc;rw [hc]
    simp only [beq_self_eq_true,if_true,hco,hc];exact ih _ λy hy=>hp y (GB _ hy)
   .have hb:(k == NameKind.free)=false:=by simpa using hk
    simp only [hb,Bool.false_eq_true,if_false];exact ih _ λy hy=>hp y (GB _ hy)
 unfold closureFor;show ((forIn scope.names [] λ(x:Str×NameKind) (cs:List (Str×Addr))=>match x with | (name,kind)=>if (kind == NameKind.free)=true then do let c <- cellOf env name;pure (ForInStep.yield ((name,c) :: cs)) else pure (ForInStep.yield cs):Sem (List (Str×Addr))) >>= λs=>pure s)=_
 rw [all scope.names [] h]
 rfl
theorem c7{cells:List (Str×Addr)}:∀ (names:List (Str×NameKind)) (acc:List (Str×Addr)),(∀ x c,acc.lookup x=some c->cells.lookup x=some c) -> ∀ x c,(clF cells names acc).lookup x=some c->cells.lookup x=some c
 | [],_,h=>h
 | (y,k) :: r,acc,h=>by
  unfold clF;split
  .split
   .rename_i c hc
    refine c7 r _ λx d e => ?_;rw [List.lookup_cons] at e;split at e
    .rename_i hx
     cases e;rw [eq_of_beq hx];exact hc
    .exact h x d e
   .exact c7 r _ h
  .exact c7 r _ h
theorem gr{cells:List (Str×Addr)}{x:Str}:∀ (names:List (Str×NameKind)) (acc:List (Str×Addr)),(acc.lookup x).isSome=true->((clF cells names acc).lookup x).isSome=true
 | [],_,h=>h
 | (y,k) :: r,acc,h=>by
  unfold clF;split
  .split
   .refine gr r _ ?_
    rw [List.lookup_cons];split
    .rfl
    .exact h
   .exact gr r _ h
  .exact gr r _ h
theorem fe{cells:List (Str×Addr)}{x:Str}{c:Addr}(hc:cells.lookup x=some c):∀ (names:List (Str×NameKind)) (acc:List (Str×Addr)),(x,NameKind.free)∈names->((clF cells names acc).lookup x).isSome=true
 | (y,k) :: r,acc,h=>by
  unfold clF;rcases List.mem_cons.mp h with e | h
  .cases e
   simp only [beq_self_eq_true,if_true,hc];exact gr r _ (by simp)
  .split
   .split
    .exact fe hc r _ h
    .exact fe hc r _ h
   .exact fe hc r _ h
theorem dZ:∀ (names:List (Str×NameKind)) (n:Nat) (acc:List (Str×Addr)),cellsFrom n names acc=cellsFrom n names []++acc
 | [],_,_=>rfl
 | (x,k) :: r,n,acc=>by
  unfold cellsFrom;split
  .rw [dZ r (n+1) ((x,n) :: acc),dZ r (n+1) [(x,n)],List.append_assoc];rfl
  .exact dZ r n acc
theorem cC{x:Str}{c:Addr}:∀ (names:List (Str×NameKind)) (n:Nat),(x,c)∈cellsFrom n names []->(x,NameKind.cell)∈names/\n<=c
 | [],_,h=>nomatch h
 | (y,k) :: r,n,h=>by
  unfold cellsFrom at h;split at h
  .rename_i hk
   rw [dZ,List.mem_append] at h;rcases h with h | h
   .exact ⟨.tail _ (cC r _ h).1,Nat.le_of_succ_le (cC r _ h).2⟩
   .cases List.mem_singleton.mp h;rw [eq_of_beq hk];exact ⟨.head _,GA _⟩
  .exact ⟨.tail _ (cC r _ h).1,(cC r _ h).2⟩
theorem fR{names:List (Str×NameKind)}{n:Nat}{cl:List (Str×Addr)}{x:Str}{c:Addr}(h:(cellsFrom n names cl).lookup x=some c):(cellsFrom n names []).lookup x=some c\/((cellsFrom n names []).lookup x=none/\cl.lookup x=some c):=by
 rw [dZ,List.lookup_append] at h;cases e:(cellsFrom n names []).lookup x with
 | some d=>rw [e] at h;exact .inl h
 | none=>rw [e] at h;exact .inr ⟨rfl,h⟩
theorem zx{names:List (Str×NameKind)}{n:Nat}{cl:List (Str×Addr)}{x:Str}{c:Addr}(h:cl.lookup x=some c)(hx:(x,NameKind.cell) ∉ names):(cellsFrom n names cl).lookup x=some c:=by
 rw [dZ,List.lookup_append];cases e:(cellsFrom n names []).lookup x with
 | some d=>exact absurd (cC _ _ (PySem.mem_of_lookup e)).1 hx
 | none=>exact h
theorem jV{names:List (Str×NameKind)}{n:Nat}{cells:List (Str×Addr)}{x:Str}{c:Addr}(h:(cellsFrom n names (clF cells names [])).lookup x=some c):cells.lookup x=some c\/n<=c:=by
 rcases fR h with z | ⟨_,z⟩
 .exact .inr (cC _ _ (PySem.mem_of_lookup z)).2
 .exact .inl (c7 names [] (λx c h=>by cases h) x c z)
theorem rE(h:Heap)(names:List (Str×NameKind))(o:Obj):CellsOk (pushCells (h.push o) names) (h.objs.size+1) (cellsFrom (h.objs.size+1) names []):=by
 have:=cellsFrom_ok names (h.push o) (h.objs.size+1) [] ⟨λ_ _ hm=>(nomatch hm),List.Pairwise.nil⟩ (by rw [Heap.size_push];exact GA _)
 rwa [Heap.size_push] at this
theorem vP{M:Model}{A:Around}{E:Value->Shared->Prop}{s:Shared}{scope:Scope}{gl:Addr}{cl:List (Str×Addr)}{qual:Str}{env:Env}{Q:Env->Shared->Prop}
  (h:Q { scope,locals:=s.heap.objs.size,globals:=gl,cells:=cellsFrom (s.heap.objs.size+1) scope.names cl,qual,func:=none,code:=env.code,frame:=env.frame,builtins:=env.builtins } { s with heap:=pushCells (s.heap.push { cls := .type "dict",data := .dict #[] }) scope.names }) :
  wpAny M A (newFunctionEnv scope gl cl [] qual none .none (some env)) Q E s:=by
 simp only [newFunctionEnv,Option.isSome_some,if_true];refine ZB (wpAny_alloc ?_);refine ZB (wpAny_layCells _ (λname kind cells=>by cases hkc:kind == NameKind.cell <;> simp [hkc]) _ _ _ _ ?_)
 rw [show ({ s with heap:=s.heap.push { cls := .type "dict",data := .dict #[] } }:Shared).heap.objs.size=s.heap.objs.size+1 from Heap.size_push ..]
 exact ZB (ZP (ZP h))
noncomputable def aq(X:Cx)(pins:List (Addr×Obj))(scope:Scope)(s3:Shared)(H3:Hp)(fp:List Addr)(N':List Str):Cx :=
 { X with env:=compEnvC scope (cellsFrom (s3.heap.objs.size+1) scope.names (clF X.env.cells scope.names [])) s3.heap.objs.size X.env,N:=N',s₀ := s3,H₀ := H3,outer:=X.stack,stack:=X.stack,ex:=fp,fn:=λx=>scope.names.lookup x == some .cell,pn:=X.pn++pins,xe:=λ_ _=>False }
section
variable{X:Cx}{pins:List (Addr×Obj)}{scope:Scope}{s3 s4:Shared}{σ:L2.St}{H3:Hp}{fp:List Addr}{own fr:List Str}{frI:List Nat}
structure CompSc(X:Cx)(scope:Scope)(own fr:List Str)(frI:List Nat):Prop where
 kind:scope.kind=.function
 names:∀ x∈scope.names,x.2=.local->scope.names.lookup x.1=some .local
 cells:∀ x∈scope.names,x.2=.cell->scope.names.lookup x.1=some .cell
 frees:∀ x∈scope.names,x.2=.free->X.env.kindOf x.1=some .cell
 loc:∀ x∈own,scope.names.lookup x=some .local\/scope.names.lookup x=some .cell
 nd:(own++fr).Nodup
 frs:∀ x∈fr,scope.names.lookup x=some .free
 ix:frI.length=fr.length /\ ∀ (j:Nat) (x:Str) (i:Nat),fr[j]? = some x->frI[j]? = some i->X.N[i]? = some x
theorem iN{α:Type}{x:Str}{k:α}:∀ {l:List (Str×α)},l.lookup x=some k->(x,k)∈l
 | [],h=>by cases h
 | (y,z) :: r,h=>by
  rw [List.lookup_cons] at h;split at h
  .rename_i hx;cases h;rw [eq_of_beq hx];exact GH
  .exact GB _ (iN h)
theorem f7{env:Env}{x:Str}:∀ {names:List (Str×NameKind)},(names.map λ(n,k)=>if (k == NameKind.free && env.scope.kind == .function && env.kindOf n == some .cell) then (n,NameKind.cell) else (n,k)).lookup x =
  (names.lookup x).map λk=>if (k == NameKind.free && env.scope.kind == .function && env.kindOf x == some .cell) then NameKind.cell else k
 | []=>rfl
 | (n,k) :: r=>by
  have ih := @f7 env x r;rw [List.map_cons,List.lookup_cons (as:=r)];show List.lookup x ((if (k == NameKind.free && env.scope.kind == .function && env.kindOf n == some .cell)=true then (n,NameKind.cell) else (n,k)) :: _)=_
  cases hx:x == n with
  | true =>
   obtain rfl:=eq_of_beq hx;by_cases hc:(k == NameKind.free && env.scope.kind == .function && env.kindOf x == some .cell)=true
   .rw [if_pos hc,List.lookup_cons,hx]
    simp only [Option.map_some];rw [if_pos hc]
   .rw [if_neg hc,List.lookup_cons,hx]
    simp only [Option.map_some];rw [if_neg hc]
  | false =>
   by_cases hc:(k == NameKind.free && env.scope.kind == .function && env.kindOf n == some .cell)=true
   .rw [if_pos hc,List.lookup_cons,hx];exact ih
   .rw [if_neg hc,List.lookup_cons,hx];exact ih
theorem xP(S:CompSc X scope own fr frI)(I:L2.Inv X pins σ H3 s3)(hf:∀ b∈fp,bf X pins H3 b)(hfl:∀ b∈fp,b < s3.heap.objs.size):(aq X pins scope s3 H3 fp (own++fr)).Ok:=by
 have sub:=c7 (cells:=X.env.cells) scope.names [] (λx c h=>by cases h)
 have kindO:(aq X pins scope s3 H3 fp (own++fr)).env.scope.kind=.function:=S.kind;have low:∀ x c,X.env.cells.lookup x=some c->c < s3.heap.objs.size:=λx c h=>let ⟨_,_,ho,_⟩:=I.cell x c h;Gx ho
 have ck:=rE s3.heap scope.names { cls := .type "dict",data := .dict #[] };refine ⟨I.ok.mod,kindO,I.ok.glob,I.ok.blt,GA _,λx y c h1 h2 => ?_,λx hx => ?_,λx c h1 h2 => ?_,I.ok.hd,I.ok.frames,.inl rfl,λb hb=>⟨GD (hfl b hb),λx c h => ?_⟩,λb o e=>I.bs b o e,Gy I.ok.bsz I.sz,λb o e hb => ?_,λb hb hfs => ?_,I.stack,I.stkFree⟩
 .have big:∀ {z},(cellsFrom (s3.heap.objs.size+1) scope.names []).lookup z=some c->s3.heap.objs.size < c:=λh=>(cC _ _ (PySem.mem_of_lookup h)).2
  rcases fR h1 with z | ⟨_,z⟩ <;> rcases fR h2 with z' | ⟨_,z'⟩
  .exact name_of_addr ck.apart (PySem.mem_of_lookup z) (PySem.mem_of_lookup z')
  .exact absurd (Nat.lt_trans (big z) (low _ _ (sub _ _ z'))) (Nat.lt_irrefl _)
  .exact absurd (Nat.lt_trans (big z') (low _ _ (sub _ _ z))) (Nat.lt_irrefl _)
  .exact I.ok.inj x y c (sub x c z) (sub y c z')
 .
  have hx':(aq X pins scope s3 H3 fp (own++fr)).env.kindOf x=(scope.names.lookup x).map λk=>if (k == NameKind.free && X.env.scope.kind == .function && X.env.kindOf x == some .cell) then NameKind.cell else k:=f7
  rw [hx'] at hx;cases hl:scope.names.lookup x with
  | none=>rw [hl] at hx;rcases hx with h | h <;> cases h
  | some k =>
   rw [hl] at hx;have hm:=iN hl;refine Option.isSome_iff_exists.mp (PySem.W.cellsFrom_some _ _ _ ?_);cases k with
   | free =>
    obtain ⟨c,hc⟩:=I.ok.has x (.inl (S.frees _ hm rfl));exact .inr (fe hc scope.names [] hm)
   | cell=>exact .inl hl
   | «local» => rcases hx with h | h <;> simp at h
   | globalExplicit=>rcases hx with h | h <;> simp at h
   | globalImplicit=>rcases hx with h | h <;> simp at h
 .have h1':scope.names.lookup x=some .cell:=eq_of_beq h1
  rcases fR h2 with z | ⟨z,_⟩
  .exact Nat.le_of_succ_le (cC _ _ (PySem.mem_of_lookup z)).2
  .have:=PySem.W.cellsFrom_some scope.names (s3.heap.objs.size+1) [] (.inl h1')
   rw [z] at this;cases this
 .rcases jV h with z | z
  .exact (hf b hb).2.2.2.2.1 x c z
  .exact Nat.ne_of_gt (GC (Nat.lt_succ_of_lt (hfl b hb)) z)
 .rcases (hf b hb).2.2.2.1 with z | z
  .exact I.ok.noex b o e z
  .exact absurd (GC (show b < X.base.objs.size from Gx e) (Gy I.ok.bsz z)) (Nat.lt_irrefl _)
 .rcases List.mem_cons.mp (I.stkSub b hfs) with z | z
  .exact (hf b hb).2.1 z
  .exact (hf b hb).2.2.1 z
theorem getD_none{α:Type}{o:Option (Option α)}{v:α}(h:o.getD none=some v):o=some (some v):=by
 cases o with
 | none=>cases h
 | some w=>cases h;rfl
theorem xc(S:CompSc X scope own fr frI)(I:L2.Inv X pins σ H3 s3)(hf:∀ b∈fp,bf X pins H3 b)(hfl:∀ b∈fp,b < s3.heap.objs.size){h1:Heap}{tk:Nat}{m0:Str->Option Value}(hns:h1.Ns s3.heap.objs.size m0)(kept:∀ b o,s3.heap.get? b=some o->h1.get? b=some o)(hcl:∀ x c,(x,c)∈cellsFrom (s3.heap.objs.size+1) scope.names [] -> ∃ v,h1.IsCell c v):
  L2.Inv (aq X pins scope s3 H3 fp (own++fr)) [] (List.replicate own.length none++frI.map λj=>(σ[j]?).getD none) H3 { s3 with heap:=h1,toks:=tk }:=by
 have sub:=c7 (cells:=X.env.cells) scope.names [] (λx c h=>by cases h)
 refine ⟨xP S I hf hfl,rfl,I.bare,Un.kept kept,⟨m0,hns,λi x v e1 e2 e3 => ?_⟩,λx c h => ?_,I.hok.fresh (GA _),λx c h=>(jV h).elim (I.freeC x c) λz=>I.hok.fresh (Nat.le_of_succ_le z),λp hp => ?_,I.hok.kept kept,?_⟩
 .
  have e1':(own++fr)[i]? = some x:=e1;by_cases hi:i < own.length
  .rw [List.getElem?_append_left (by simpa using hi),List.getElem?_replicate,if_pos hi] at e2
   cases e2
  .rw [List.getElem?_append_right (by simpa using hi),List.length_replicate,List.getElem?_map] at e2
   rw [List.getElem?_append_right (by omega)] at e1'
   cases ej:frI[i - own.length]? with
   | none=>rw [ej] at e2;cases e2
   | some k =>
    rw [ej] at e2;have e2':=getD_none (Option.some.inj e2);have hN:=S.ix.2 _ x k e1' ej;have hfrx:=S.frs x (List.mem_of_getElem? e1');have hm:=iN hfrx;have hcell:=S.frees _ hm rfl;obtain ⟨m,hn,hl⟩:=I.loc;obtain ⟨u,ru,lk⟩:=hl k x v hN e2' (.inr (.inl hcell));refine ⟨u,ru,?_⟩;rcases lk with ⟨hk,_⟩ | ⟨_,c,hc,hcell'⟩
    .rw [hcell] at hk;cases hk
    .have hkind:(aq X pins scope s3 H3 fp (own++fr)).env.kindOf x=some .cell:=by
      have := @f7 X.env x scope.names;show List.lookup x _=_;refine this.trans ?_;rw [hfrx];have hk:=I.ok.kind;simp [hk,hcell]
     obtain ⟨c',hc'⟩:=Option.isSome_iff_exists.mp (fe hc scope.names [] hm);have:=sub x c' hc';rw [hc] at this;cases this;obtain ⟨o,ho,hd⟩:=hcell';exact .inr ⟨.inl hkind,c,zx hc' (λz=>by have:=S.cells _ z rfl;rw [hfrx] at this;cases this),o,kept c o ho,hd⟩
 .rcases fR h with z | ⟨_,z⟩
  .exact hcl x c (PySem.mem_of_lookup z)
  .obtain ⟨v,o,ho,hd⟩:=I.cell x c (sub x c z)
   exact ⟨v,o,kept c o ho,hd⟩
 .have hp':p∈X.pn++pins:=by
   have:p∈(X.pn++pins)++[]:=hp;simpa using this
  obtain ⟨e,n,ne,nf,d⟩:=I.pin p hp';refine ⟨kept _ _ e,n,GD (Gx e),λz => ?_,d⟩;rcases List.mem_cons.mp (I.stkSub p.1 z) with q | q
  .exact ne q
  .exact nf q
 .show (List.replicate own.length none++frI.map λj=>(σ[j]?).getD none).length=(own++fr).length
  simp [S.ix.1]
theorem xU{K:GJ}{ρ:List Addr}{H:Hp}{σu:Su}{n:Nat}(h:RS K ρ H σu σ):RS K ρ H (List.replicate n none++frI.map λj=>(σu[j]?).getD none) (List.replicate n none++frI.map λj=>(σ[j]?).getD none):=by
 refine ⟨by simp,λi u e => ?_⟩
 by_cases hi:i < n
 .rw [List.getElem?_append_left (by simpa using hi),List.getElem?_replicate,if_pos hi] at e
  cases e
 .rw [List.getElem?_append_right (by simpa using hi),List.length_replicate,List.getElem?_map] at e
  rw [List.getElem?_append_right (by simpa using hi),List.length_replicate,List.getElem?_map]
  cases ej:frI[i - n]? with
  | none=>rw [ej] at e;cases e
  | some k =>
   rw [ej] at e;obtain ⟨v,e1,e2⟩:=h.val k u (getD_none (Option.some.inj e));exact ⟨v,by simp [e1],e2⟩
end
section
variable{X:Cx}{C:Nat->List U->G->Out U}{scope:Scope}{own fr:List Str}{frI:List Nat}
theorem iT(hc:X.calm=true)(S:CompSc X scope own fr frI){gc:Comprehension}{rest:List Comprehension}{t:Tg}{cs:List E}{rest':List (Tg×E×List E)}{c:CK}{elt':E}{pos:Pos}{n:Nat}(ha:gc.is_async=0)
  (inner:∀ pins s3 H3 fp,PG (aq X pins scope s3 H3 fp (own++fr)) gc.target (tG X.K t)/\(∀ n,PTs (aq X pins scope s3 H3 fp (own++fr)) gc.ifs (aI (lev C n).ts cs))/\b0 (aq X pins scope s3 H3 fp (own++fr)) C rest rest' /\
   ie (aq X pins scope s3 H3 fp (own++fr)) C c elt')
  {pins:List (Addr×Obj)} {s2:Shared} {σ:L2.St} {H2:Hp} {ρ1:List Addr} {g1:G} {σu:Su} {it:Addr} {fp:List Addr} {tn:Nat->Heap->Prop} {J:It} {iI:Iter} {us:List U} {g2:G} {E:Value->Shared->Prop} {P:Value->Addr->Result->Shared->Prop}
  (I2:L2.Inv X pins σ H2 s2) (T:Turn X.prog X.w X.K gc.target J fp it tn) (st2:tn 0 s2.heap) (f2:∀ b∈fp,bf X pins H2 b) (hs:RS X.K ρ1 H2 σu σ) (hg1:RH X.K ρ1 H2 g1) (ri1:RI X.K ρ1 H2 iI J)
  (ecm:(lev C n).cm iI 0 t cs rest' elt' [] (List.replicate own.length none++frI.map λj=>(σu[j]?).getD none) g1=.ok us g2)
  (fin:∀ (D Cc:Addr) (s':Shared) (H':Hp) (ρ':List Addr) (vs':HO) (m:Str->Option Value) (f:Flow),L2.Inv X pins σ H' s'->Stp X.K ρ1 H2 ρ' H'->RH X.K ρ' H' g2->H2 D=none->H' D=some vs'->D ∉ ρ'->CK.ho X.K ρ' H' c us vs'->s'.heap.Ns Cc m->Cc≠X.env.locals->(∀ x c,X.env.cells.lookup x=some c->c≠Cc) ->
   (∀ (s'':Shared) (σ2:L2.St) (H'':Hp) (h':Heap),L2.Inv X pins σ2 H'' s''->(∀ b,H' b=none->b < s'.heap.objs.size->H'' b=none)->Heap.SameBut Cc s''.heap h'->L2.Inv X pins σ2 H'' { s'' with heap:=h' })->P (.ref D) Cc (.ok f) s') :
  wpAny (model X.prog X.w) X.A c.new (λacc s₃ => wpAny (model X.prog X.w) X.A (newFunctionEnv scope X.env.globals (clF X.env.cells scope.names []) [] X.env.qual none .none (some X.env)) (λcenv s₄ =>
    codeAny (model X.prog X.w) X.A (.compStart (c.exp (gc :: rest) scope pos) 0 (.ref it) acc { cenv with scope:=relabel scope X.env }) (P acc cenv.locals) s₄) E s₃) E s2:=by
 refine CK.new_wp (vP ?_);dsimp only;have ckk:=rE (s2.heap.push c.obj) scope.names { cls := .type "dict",data := .dict #[] };have hns₁ := (Heap.Ns.new (s2.heap.push c.obj) (.type "dict")).keeps (pushCells_keeps scope.names _);have kept:∀ b o,(s2.heap.push c.obj).get? b=some o->(pushCells ((s2.heap.push c.obj).push { cls := .type "dict",data := .dict #[] }) scope.names).get? b=some o:=λb o e=>pushCells_keeps _ _ b o (Gw _ e);generalize pushCells ((s2.heap.push c.obj).push { cls := .type "dict",data := .dict #[] }) scope.names=h₁ at ckk hns₁ kept ⊢;have hDn:H2 s2.heap.objs.size=none:=I2.hok.fresh (GA _);have I3:L2.Inv X pins σ (upd H2 s2.heap.objs.size c.ini) { s2 with heap:=s2.heap.push c.obj }:=I2.laid (t':=s2.toks) (λb ob q=>Gw _ q) (GA _) (c.ini_ok _ I2.big)
 have below:∀ b∈fp,b < s2.heap.objs.size:=λb hb=>let ⟨o,e,_⟩:=T.obj _ _ st2 b hb;Gx e
 have f3:∀ b∈fp,bf X pins (upd H2 s2.heap.objs.size c.ini) b:=λb hb=>⟨by rw [ar (GD (below b hb))];exact (f2 b hb).1,(f2 b hb).2⟩
 have hsz:(s2.heap.push c.obj).objs.size=s2.heap.objs.size+1:=Heap.size_push _ _;have hfl:∀ b∈fp,b < (s2.heap.push c.obj).objs.size:=λb hb=>by rw [hsz];exact Nat.lt_succ_of_lt (below b hb)
 have I4:=xc (tk:=s2.toks) S I3 f3 hfl hns₁ kept λx c h=>⟨_,(ckk.empty x c h).1⟩;obtain ⟨pg,pts,go,helt⟩:=inner pins { s2 with heap:=s2.heap.push c.obj } (upd H2 s2.heap.objs.size c.ini) fp
 have kept2:∀ b o,s2.heap.get? b=some o->h₁.get? b=some o:=λb o e=>kept b o (Gw _ e);have st4:tn 0 h₁ := T.keep _ _ _ st2 λb _ o e=>kept2 b o e;have hn:s2.heap.objs.size ∉ ρ1:=λhm=>by
  obtain ⟨k,e⟩:=List.mem_iff_getElem?.mp hm;obtain ⟨o,ho⟩:=hg1.there e;rw [hDn] at ho;cases ho
 have sub:=c7 (cells:=X.env.cells) scope.names [] (λx c h=>by cases h)
 have f4:∀ b∈fp,bf (aq X pins scope { s2 with heap:=s2.heap.push c.obj } (upd H2 s2.heap.objs.size c.ini) fp (own++fr)) [] (upd H2 s2.heap.objs.size c.ini) b:=λb hb=>by
  refine ⟨(f3 b hb).1,GD (hfl b hb),λz => ?_,.inl hb,λx c h=>(jV h).elim ((f3 b hb).2.2.2.2.1 x c) λz=>Nat.ne_of_gt (GC (Nat.lt_succ_of_lt (hfl b hb)) z),λp hp=>(f3 b hb).2.2.2.2.2 p ?_⟩
  .rcases List.mem_cons.mp (I3.stkSub b z) with q | q
   .exact (f3 b hb).2.1 q
   .exact (f3 b hb).2.2.1 q
  .have:p∈(X.pn++pins)++[]:=hp
   simpa using this
 have loop:=vI (X:=aq X pins scope { s2 with heap:=s2.heap.push c.obj } (upd H2 s2.heap.objs.size c.ini) fp (own++fr)) (C:=C) hc rfl helt (c:=c) (gens:=gc :: rest) (scope:=scope) (pos:=pos) (D:=s2.heap.objs.size) rest rest' 0 gc t cs rfl rfl ha pg pts go n [] _ it fp tn J iI 0 [] c.ini _ _ _ ρ1 ρ1 H2 g1 us g2 T ecm I4 st4 f4 (xU (hs.step (Stp.fresh hDn))) (hg1.step_fresh hDn) (ri1.step (Stp.fresh hDn)) (Stp.fresh hDn) hDn upd_same hn CK.ho0
 refine codeAny_mono (lQ (k:=0) (g:=gc) rfl ha loop (T.self _ 0 _ _ _ st4 loop)) λr s' hr => ?_;obtain ⟨⟨f,rfl⟩,σ',H',ρ',vs',I5,sp5,hg5,hs5,hD5,hn5,rv5,_⟩:=hr;have chk:∀ b∈fp,(b∈X.ex\/X.s₀.heap.objs.size<=b)/\b≠X.env.locals/\(∀ x c,X.env.cells.lookup x=some c->c≠b) /\ ∀ p∈X.pn++pins,p.1≠b:=λb hb=>⟨(f3 b hb).2.2.2.1,(f3 b hb).2.1,(f3 b hb).2.2.2.2.1,(f3 b hb).2.2.2.2.2⟩;have I6:L2.Inv X pins σ H' s':=I3.call' (ch:=fp) I5.os I5.base I5.hok I5.bare chk;obtain ⟨m',hns',_⟩:=I5.loc;refine fin s2.heap.objs.size _ s' H' ρ' vs' m' f I6 sp5 hg5 hDn hD5 hn5 rv5 hns' (Nat.ne_of_gt I3.lt) (λx c h=>by obtain ⟨v,o,ho,hd⟩:=I3.cell x c h;exact GD (Gx ho)) λs'' σ2 H'' h' I7 hH hsb => ?_
 have hCn:H'' (s2.heap.push c.obj).objs.size=none:=hH _ I5.free I5.lt;refine I7.turned (t':=s''.toks) (it:=(s2.heap.push c.obj).objs.size) (λb o hb e=>(hsb.2 b hb).trans e) hCn ?_ (.inr ?_) (λx c h => ?_) λp hp => ?_
 .exact Nat.ne_of_gt I3.lt
 .exact I3.sz
 .obtain ⟨v,o,ho,hd⟩:=I3.cell x c h
  exact GD (Gx ho)
 .exact GD (Gx (I3.pin p hp).1)
theorem xJ(hc:X.calm=true)(S:CompSc X scope own fr frI){gc:Comprehension}{rest:List Comprehension}{t:Tg}{it':E}{cs:List E}{rest':List (Tg×E×List E)}{elt:Expr}{elt':E}{pos:Pos}{n:Nat}(ha:gc.is_async=0)
  (hi:PI X gc.target gc.iter (tI X.K PTs.W0' (itF (lev C n) it'))) (hfold:∀ x,foldedSetIterable gc.iter X.env x=pure x)
  (inner:∀ pins s3 H3 fp,PG (aq X pins scope s3 H3 fp (own++fr)) gc.target (tG X.K t)/\(∀ n,PTs (aq X pins scope s3 H3 fp (own++fr)) gc.ifs (aI (lev C n).ts cs))/\b0 (aq X pins scope s3 H3 fp (own++fr)) C rest rest' /\
   ∀ n,PE (aq X pins scope s3 H3 fp (own++fr)) elt (tE X.K PTs.W0' ((lev C n).ev elt'))) :
  PE X (.ListComp elt (gc :: rest) scope pos) (tE X.K PTs.W0' (evF C (lev C n) (.comp own.length frI ((t,it',cs) :: rest') elt'))):=by
 intro pins s σ H Q I ⟨σu,ρ,g,hs,hg,p⟩;rw [eval_ListComp];obtain ⟨tg,iter,ifs,asy⟩:=gc;obtain rfl:asy=0:=ha;refine wpAny_comprehension_free (use:=none) rfl hfold (iX λx hx hk=>I.ok.has x.1 (.inl (S.frees x hx hk))) S.kind S.names ?_;refine thn (hi pins s σ H _ I ⟨σu,ρ,g,hs,hg,post.bind p⟩) λv s1 h1=>thn h1 λitv s2 h2 => ?_;obtain ⟨it,fp,tn,J,H2,e,I2,T,st2,f2,ρ1,iI,g1,sp1,hg1,ri1,p1⟩:=h2;subst e;revert p1;cases ecm:(lev C n).cm iI 0 t cs rest' elt' [] (List.replicate own.length none++frI.map λj=>(σu[j]?).getD none) g1 with
 | exc c fs g2=>intro p1;exact False.elim p1
 | bad=>intro p1;exact False.elim p1
 | ok us g2 =>
  intro p1;simp only [Out.bindB] at p1;split at p1
  .refine iT (c := .lst elt) hc S rfl (λpins s3 H3 fp=>let ⟨a,b,c,d⟩:=inner pins s3 H3 fp;⟨a,b,c,oq d⟩) I2 T st2 f2 (hs.step sp1) hg1 ri1 ecm λD Cc s' H' ρ' vs' m f I' sp' hg' hD0 hD' hn' ⟨vs,eo,rv'⟩ hns' _ _ stay => ?_
   subst eo;refine ⟨m,hns',λh' hsb => ?_⟩;refine ⟨.ref D,H',stay s' σ H' h' I' (λ_ h _=>h) hsb,rfl,?_⟩;refine p1 (.ref D) (ρ'++[D]) H' (sp'.named hD0) (hg'.named hD' hn' ⟨_,rfl,rv'⟩) ⟨D,rfl,?_⟩;rw [<-hg'.len];simp
  .exact False.elim p1
theorem xX(k v gens scope pos){env:Env}:eval (.DictComp k v gens scope pos) env=comprehension (.DictComp k v gens scope pos) scope env (firstIterPos gens pos) newDict (firstAsync gens) (firstIter gens env):=rfl
theorem vQ(hc:X.calm=true)(hu:X.A.units+1 < cLine)(S:CompSc X scope own fr frI){gc:Comprehension}{rest:List Comprehension}{t:Tg}{it':E}{cs:List E}{rest':List (Tg×E×List E)}{kx vx:Expr}{k' v':E}{pos:Pos}{n:Nat}(ha:gc.is_async=0)
  (hi:PI X gc.target gc.iter (tI X.K PTs.W0' (itF (lev C n) it'))) (hfold:∀ x,foldedSetIterable gc.iter X.env x=pure x)
  (inner:∀ pins s3 H3 fp,PG (aq X pins scope s3 H3 fp (own++fr)) gc.target (tG X.K t)/\(∀ n,PTs (aq X pins scope s3 H3 fp (own++fr)) gc.ifs (aI (lev C n).ts cs))/\b0 (aq X pins scope s3 H3 fp (own++fr)) C rest rest' /\
   (∀ n,PE (aq X pins scope s3 H3 fp (own++fr)) kx (tE X.K PTs.W0' ((lev C n).ev k'))) /\ ∀ n,PE (aq X pins scope s3 H3 fp (own++fr)) vx (tE X.K PTs.W0' ((lev C n).ev v'))) :
  PE X (.DictComp kx vx (gc :: rest) scope pos) (tE X.K PTs.W0' (evF C (lev C n) (.dcmp own.length frI ((t,it',cs) :: rest') k' v'))):=by
 intro pins s σ H Q I ⟨σu,ρ,g,hs,hg,p⟩;rw [xX];obtain ⟨tg,iter,ifs,asy⟩:=gc;obtain rfl:asy=0:=ha;refine wpAny_comprehension_free (use:=none) rfl hfold (iX λx hx hk=>I.ok.has x.1 (.inl (S.frees x hx hk))) S.kind S.names ?_;refine thn (hi pins s σ H _ I ⟨σu,ρ,g,hs,hg,post.bind p⟩) λv s1 h1=>thn h1 λitv s2 h2 => ?_;obtain ⟨it,fp,tn,J,H2,e,I2,T,st2,f2,ρ1,iI,g1,sp1,hg1,ri1,p1⟩:=h2;subst e;revert p1;cases ecm:(lev C n).cm iI 0 t cs rest' (.pair k' v') [] (List.replicate own.length none++frI.map λj=>(σu[j]?).getD none) g1 with
 | exc c fs g2=>intro p1;exact False.elim p1
 | bad=>intro p1;exact False.elim p1
 | ok us g2 =>
  intro p1;simp only [Out.bindB] at p1;refine iT (c := .dic kx vx) hc S rfl (λpins s3 H3 fp=>let ⟨a,b,c,d,e⟩:=inner pins s3 H3 fp;⟨a,b,c,wW (X:=aq X pins scope s3 H3 fp (own++fr)) hu d e⟩) I2 T st2 f2 (hs.step sp1) hg1 ri1 ecm λD Cc s' H' ρ' vs' m f I' sp' hg' hD0 hD' hn' ⟨kvs,ws,eo,ed,rv'⟩ hns' _ _ stay => ?_
  subst eo;rw [ed] at p1;refine ⟨m,hns',λh' hsb => ?_⟩;refine ⟨.ref D,H',stay s' σ H' h' I' (λ_ h _=>h) hsb,rfl,?_⟩;refine p1 (.ref D) (ρ'++[D]) H' (sp'.named hD0) (hg'.named hD' hn' ⟨_,rfl,rv'⟩) ⟨D,rfl,?_⟩;rw [<-hg'.len];simp
theorem bind_assoc{α β γ:Type}(o:Out α)(k:α->G->Out β)(k':β->G->Out γ):(o.bind k).bind k'=o.bind λa g=>(k a g).bind k':=by
 cases o <;> rfl
theorem ux(hc:X.calm=true)(S:CompSc X scope own fr frI){gc:Comprehension}{rest:List Comprehension}{t:Tg}{it':E}{cs:List E}{rest':List (Tg×E×List E)}{elt:Expr}{elt':E}{pos spos py:Pos}{n i:Nat}{y:Str}(ha:gc.is_async=0)
  (hi:PI X gc.target gc.iter (tI X.K PTs.W0' (itF (lev C n) it'))) (hfold:∀ x,foldedSetIterable gc.iter X.env x=pure x)
  (inner:∀ pins s3 H3 fp,PG (aq X pins scope s3 H3 fp (own++fr)) gc.target (tG X.K t)/\(∀ n,PTs (aq X pins scope s3 H3 fp (own++fr)) gc.ifs (aI (lev C n).ts cs))/\b0 (aq X pins scope s3 H3 fp (own++fr)) C rest rest' /\
   ∀ n,PE (aq X pins scope s3 H3 fp (own++fr)) elt (tE X.K PTs.W0' ((lev C n).ev elt')))
  (hN:X.N.Nodup) (hiy:X.N[i]? = some y) (hy:X.env.scope.names.lookup y=some .local) (hsw:swapsWith (.ListComp elt (gc :: rest) scope pos) (some (.Name y py)) spos.line X.env=pure true) :
  PS X (.Assign [.Name y py] (.ListComp elt (gc :: rest) scope pos) spos) (tSt X.K PTs.W0' (s1F (lev C (n+1)) (.set (.nm i) (.comp own.length frI ((t,it',cs) :: rest') elt')))):=by
 intro pins s σ H Dd I ⟨σu,ρ,g,hs,hg,p⟩;have p':postS X.K PTs.W0' ((itF (lev C n) it' σu g).bind λa g=>(((lev C n).cm a 0 t cs rest' elt' [] (List.replicate own.length none++frI.map λj=>(σu[j]?).getD none) g).bindB λus g=>if us.length<=ab then PI.alloc (.lst us) g else .bad).bind λu g=>match ai (.nm i) u σu with | some σ'=>Out.ok (.nx σ') g | none => .bad) ρ H Dd:=by
  have e:s1F (lev C (n+1)) (.set (.nm i) (.comp own.length frI ((t,it',cs) :: rest') elt')) σu g=_:=rfl;rw [<-bind_assoc];exact p
 rw [exec_Assign_Name_used _ _ _ _ hsw];refine ZB (wpAny_standAt (ZB ?_));obtain ⟨tg,iter,ifs,asy⟩:=gc;obtain rfl:asy=0:=ha;show wpAny _ _ (do let _ <- comprehension (.ListComp elt (⟨tg,iter,ifs,0⟩ :: rest) scope pos) scope X.env _ (newList []) false (eval iter X.env) (some (assign (.Name y py) X.env))) _ _ s
 refine ZB (thn (wpAny_comprehension_free (use:=some (assign (.Name y py) X.env)) (Q:=λ_ s'=>SP X pins Dd .next s') rfl hfold (iX λx hx hk=>I.ok.has x.1 (.inl (S.frees x hx hk))) S.kind S.names ?_) λ_ s' hq=>ZP (ZP hq));refine thn (hi pins s σ H _ I ⟨σu,ρ,g,hs,hg,postS.bind p'⟩) λv s1 h1=>thn h1 λitv s2 h2 => ?_;obtain ⟨it,fp,tn,J,H2,e,I2,T,st2,f2,ρ1,iI,g1,sp1,hg1,ri1,p1⟩:=h2;subst e;revert p1;cases ecm:(lev C n).cm iI 0 t cs rest' elt' [] (List.replicate own.length none++frI.map λj=>(σu[j]?).getD none) g1 with
 | exc c fs g2=>intro p1;exact False.elim p1
 | bad=>intro p1;exact False.elim p1
 | ok us g2 =>
  intro p1;simp only [Out.bindB] at p1;split at p1
  .refine iT (c := .lst elt) hc S rfl (λpins s3 H3 fp=>let ⟨a,b,c,d⟩:=inner pins s3 H3 fp;⟨a,b,c,oq d⟩) I2 T st2 f2 (hs.step sp1) hg1 ri1 ecm λD Cc s' H' ρ' vs' m f I' sp' hg' hD0 hD' hn' ⟨vs,eo,rv'⟩ hns' nl nc stay => ?_
   subst eo;show wpAny _ _ (assign (.Name y py) X.env (.ref D)) _ _ s';refine wpAny_assign_Name (m9 (v := .ref D) I' hN hiy (.inl hy) rfl (λs3 I3 ⟨a,hsb,ha⟩ => ?_) (.inr hy));have hne:Cc≠a:=by
    rcases ha with rfl | ha
    .exact nl
    .exact Ne.symm (nc y a ha)
   refine ⟨m,hns'.sameBut hsb hne,λh' hs3=>⟨_,H',stay s3 _ H' h' I3 (λ_ h _=>h) hs3,?_⟩⟩;simp only [PI.alloc,Out.bind,unl,ai] at p1;by_cases hl:i < σu.length
   .simp only [hl,if_true] at p1
    refine p1 _ (ρ'++[D]) H' (sp'.named hD0) (hg'.named hD' hn' ⟨_,rfl,rv'⟩) ((hs.step (sp1.trans (sp'.named hD0))).set (u := .ref g2.length) (v := .ref D) ?_);refine ⟨D,rfl,?_⟩;rw [<-hg'.len];simp
   .simp only [hl,if_false] at p1
    exact False.elim p1
  .exact False.elim p1
end
section
variable{X:Cx}{W:XQ}{r:L}{C:Nat->List U->G->Out U}{pos:Pos}
end
section
variable{prog:Program}{w:World}{A:Around}{R:Result->Shared->Prop}{h0:Heap}{I l S:Addr}{items:Array Value}{zs:Nat->Array Value}
end
section
variable{prog:Program}{w:World}{A:Around}{E:Value->Shared->Prop}{s:Shared}{l e:Addr}{items:Array Value}{zs:Nat->Array Value}{ne:Nat}
end
section
variable{X:Cx}{W:XQ}
end
noncomputable abbrev W0:XQ:=PTs.W0'
section
variable{X:Cx}{W:XQ}{C:Nat->List U->G->Out U}{r:L}{pos p2:Pos}{a b c e tg:Expr}{a' b' c' e':E}{t:Tg}
theorem AD{iter:Expr}{it':E}{bs:List Stmt}{bs':List S}{n:Nat}(hp:PassesOwn (model X.prog X.w) X.A X.env X.xe)(hc:X.calm=true)(hi:PI X tg iter (tI X.K W (itF (lev C n) it')))(hg:PG X tg (tG X.K t))(hb:∀ n,PSs X bs (tSt X.K W ((lev C n).ex bs')))
  (hs:∀ x,foldedSetIterable iter X.env x=pure x):PS X (.For tg iter bs [] pos) (tSt X.K W (s1F (lev C n) (.for t it' bs'))):=by
 have hb':PSs X bs (λD σ H => ∃ m,tSt X.K W ((lev C m).ex bs') D σ H):=λpins s σ H D I ⟨m,h⟩=>hb m pins s σ H D I h;refine (zU hp hc hi hg hb' hs).imp λD σ H ⟨σu,ρ,g,hs,hg,p⟩ => ?_;refine ⟨σu,ρ,g,hs,hg,(postS.bind (R:=RI X.K) p).mono λJ H1 ⟨ρ1,it,g1,s1,h1,ri,p1⟩ => ?_⟩;refine ⟨λi m σ H => ∃ σu ρ g,RS X.K ρ H σu σ/\RH X.K ρ H g/\RI X.K ρ H it J/\postS X.K W ((lev C m).fr t it i bs' σu g) ρ H D,⟨n,σu,ρ1,g1,hs.step s1,h1,ri,p1⟩,?_⟩;rintro i m σ H ⟨σu,ρ,g,hs,hg,ri,p⟩;cases m with
 | zero=>exact p.elim
 | succ m =>
  have p':postS X.K W (frF (lev C m) t it i bs' σu g) ρ H D:=p;simp only [frF] at p';cases en:next it i g with
  | none=>simp only [en] at p';exact p'.elim
  | some o =>
   cases o with
   | none=>simp only [en] at p';exact .inl ⟨pF hg ri en,p' _ ρ H .refl hg hs⟩
   | some u =>
    simp only [en] at p';obtain ⟨go,yl⟩:=rl hg ri en;refine .inr ⟨go,λσ' H' => ∃ σu ρ g,RS X.K ρ H' σu σ'/\RH X.K ρ H' g/\RI X.K ρ H' it J/\postS X.K W ((lev C m).fr t it (i+1) bs' σu g) ρ H' D,λσ' H' q=>⟨m,Nat.lt_succ_self _,q⟩,λx H' y => ?_⟩;obtain ⟨spy,hgy,rv⟩:=yl x H' y;cases eb:ai t u σu with
    | none=>simp only [eb] at p';exact p'.elim
    | some σ1 =>
     simp only [eb] at p';refine ⟨σu,ρ,g,u,σ1,hs.step spy,hgy,rv,mY eb,λσ2 hs2=>⟨m,σ1,ρ,g,hs2,hgy,?_⟩⟩;exact rB (k:=λσ' g=>(lev C m).fr t it (i+1) bs' σ' g) (postS.from p' spy) λσ3 g3 σ ρ' H' s3 h3 hs3 p3=>⟨σ3,ρ',g3,hs3,h3,(ri.step spy).step s3,p3⟩
noncomputable def spI(K:GJ)(fns:List Fn)(d i np:Nat):Sp:=λvs H Q _ => ∃ fu ρ g us,RH K ρ H g/\RVs K ρ H us vs/\us.length=np/\post K W0 (RV K) (aa fns fu d i us g) ρ H Q
theorem nr{fns:List Fn}{fu d i:Nat}{us:List U}{g:G}{np:Nat}{K:GJ}{ρ:List Addr}{H:Hp}{Q:VK}(hnp:∀ F,fns[i]? = some F->F.np=np)(p:post K W0 (RV K) (aa fns fu d i us g) ρ H Q):us.length=np:=by
 cases d with
 | zero=>exact p.elim
 | succ d =>
  simp only [aa] at p;cases e:fns[i]? with
  | none=>simp only [e] at p;exact p.elim
  | some F =>
   simp only [e,dz] at p;split at p
   .rename_i h;rw [h,hnp F e]
   .exact p.elim
theorem xm{fns:List Fn}{fu d i k:Nat}{x:Str}{f:Addr}{fd:FuncData}{ps:List Str}{p:Pos}{es:List Expr}{es':List E}(F:FnOk X.prog X.w X.K X.mg X.base CX0 k f fd ps (spI X.K fns d i ps.length))(hnp:∀ F,fns[i]? = some F->F.np=ps.length)
  (hr:Room k X.A) (hg:Gl X x) (hm:X.mg x=some (.ref f)) (hk:PySem.W.keepIn X.K (.ref f)=true) (hb:Binds X.K fd ps []) (hdb:(x == ("__debug__" : Str))=false) (ha:PA X (a :: es) (tAr X.K W0 (evs r.ev es')))
  (hst:starEach (a :: es) X.env=(false,eval a X.env) :: starEach es X.env) (hpl:(backTo pos (starEach es X.env)).any (·.1)=false) :
  PE X (.Call (.Name x p) (a :: es) [] pos) (tE X.K W0 (evF (aa fns fu d) r (.call i es'))):=by
 refine (xo F hr hg hm hk hb .nil rG ha hdb hst hpl).imp λσ H Q ⟨σu,ρ,g,hs,hg,p⟩ => ?_;refine ⟨σu,ρ,g,hs,hg,(post.bind (R:=RVs X.K) p).mono λvs H1 ⟨ρ1,us,g1,s1,h1,rs,p1⟩ => ?_⟩;exact ⟨fu,ρ1,g1,us,h1,by rw [List.append_nil];exact rs,nr hnp p1,p1⟩
theorem v8{fns:List Fn}{fu d i k:Nat}{x:Str}{f:Addr}{fd:FuncData}{ps:List Str}{p:Pos}(F:FnOk X.prog X.w X.K X.mg X.base CX0 k f fd ps (spI X.K fns d i ps.length))(hnp:∀ F,fns[i]? = some F->F.np=ps.length)
  (hr:Room k X.A) (hg:Gl X x) (hm:X.mg x=some (.ref f)) (hk:PySem.W.keepIn X.K (.ref f)=true) (hb:Binds X.K fd ps []) (hdb:(x == ("__debug__" : Str))=false) :
  PE X (.Call (.Name x p) [] [] pos) (tE X.K W0 (evF (aa fns fu d) r (.call i []))):=by
 refine (wD F hr hg hm hk hb .nil rG hdb).imp λσ H Q ⟨σu,ρ,g,hs,hg,p⟩ => ?_;have p':post X.K W0 (RV X.K) (aa fns fu d i [] g) ρ H Q:=p;exact ⟨fu,ρ,g,[],hg,rfl,nr hnp p',p'⟩
end
theorem ixOf_get{N:List Str}{x:Str}{i:Nat}(h:br N x=some i):N[i]? = some x:=by
 obtain ⟨h1,h2,_⟩:=List.findIdx?_eq_some_iff_getElem.mp h;rw [List.getElem?_eq_getElem h1];exact congrArg some (eq_of_beq h2)
theorem Az{e:Expr}{x:Str}(h:nmE e=some x):∃ p,e = .Name x p:=by
 cases e with
 | Name y p=>cases h;exact ⟨p,rfl⟩
 | _=>cases h
theorem mX{e:Expr}{c:Str×List Expr}(h:gW e=some c):∃ p q,e = .Call (.Name c.1 p) c.2 [] q:=by
 cases e with
 | Call f es kws q =>
  cases kws with
  | nil =>
   obtain ⟨n,hn,rfl⟩:=Option.map_eq_some_iff.mp h;obtain ⟨p,rfl⟩:=Az hn;exact ⟨p,q,rfl⟩
  | cons _ _=>cases h
 | _=>cases h
theorem u0{es:List Expr}{a:Expr}(h:setArg es=some a):isStar a=false /\ ∃ p pos,es=[.Call (.Name "set" p) [a] [] pos]:=by
 cases es with
 | nil=>cases h
 | cons e es=>cases es with
  | cons _ _=>cases h
  | nil =>
   obtain ⟨c,hc,h2⟩:=Option.bind_eq_some_iff.mp h;clear h;obtain ⟨p,q,rfl⟩:=mX hc;obtain ⟨n,as⟩:=c;have h:=h2;dsimp only at h;by_cases hn:n = "set"
   .rw [if_pos hn] at h
    subst hn;cases as with
    | nil=>cases h
    | cons b as=>cases as with
     | cons _ _=>cases h
     | nil =>
      cases hs:isStar b with
      | true =>
       have h:oif (!isStar b) (some b)=some a:=h;rw [hs] at h;cases h
      | false =>
       have h:oif (!isStar b) (some b)=some a:=h;rw [hs] at h;cases h;exact ⟨hs,p,q,rfl⟩
   .rw [if_neg hn] at h;cases h
section
variable(T:Tab)(sc:Scope)(ce:Expr->Option E)
end
open PySem PySem.Spec PyProof.Rows L2 PySem.W
theorem cB{a:Expr}{env:Env}(h:isStar a=false)(es:List Expr):starEach (a :: es) env=(false,eval a env) :: starEach es env:=by
 cases a <;> first | rfl | cases h
theorem jw{env:Env}{pos:Pos}:∀ {es:List Expr},es.any isStar=false->(backTo pos (starEach es env)).any (·.1)=false
 | [],_=>rfl
 | a :: es,h=>by
  rw [List.any_cons,Bool.or_eq_false_iff] at h;rw [cB h.1];show (false || (backTo pos (starEach es env)).any (·.1))=false;rw [jw h.2]
  rfl
section
variable{K:GJ}{W W':XQ}{ρ:List Addr}{H:Hp}
end
section
variable{X:Cx}{pos:Pos}
end
section
variable{X:Cx}{CX:CXT}{k:Nat}{f:Addr}{fd:FuncData}{ps ks:List Str}{sp:Sp}{E:XK}{x:Str}{p pos:Pos}{es:List Expr}{kws:List Keyword}{t tk:TA}{g:List Value->List Value->List Value}{gV:List V->List V->List V}
end
section
variable{X:Cx}{CX:CXT}{k:Nat}{f C:Addr}{fd:FuncData}{ps ks:List Str}{sp:Sp}{E:XK}{x m:Str}{p pos apos:Pos}{o:Expr}{es:List Expr}{kws:List Keyword}{ta:TE}{t tk:TA}{g:List Value->List Value->List Value}{gV:List V->List V->List V}
end
section
variable{X:Cx}{W:XQ}{r:L}{pos p apos:Pos}{fns:List Fn}{fu d i k nd:Nat}{x m:Str}{f:Addr}{fd:FuncData}{F:KF}{ddV:List (Str×V)}{dd:List (Str×Value)}{es:List Expr}{kws:List Keyword}{es' ks':List E}
end
theorem base_of{o:Expr}{m:Str}{env:Env}(h:gH o=false)(w:Sem Value):attributeBase o m env w=w:=by
 cases o <;> first | rfl | cases h
open PySem PySem.Spec PyProof.Rows L2
structure XOk(T:Tab)(fns:List Fn)(d:Nat)(X:Cx)(sc:Scope)(N:List Str):Prop where
 hF:∀ (i:Nat) (x:Str),T.fns[i]? = some x->(x == ("__debug__" : Str))=false -> ∃ f fd ps,X.mg x=some (.ref f)/\PySem.W.keepIn X.K (.ref f)=true/\Binds X.K fd ps []/\FnOk X.prog X.w X.K X.mg X.base CX0 (2*d+2) f fd ps (spI X.K fns d i ps.length) /\ ∀ F,fns[i]? = some F->F.np=ps.length
 cs:∀ x u,T.cs.lookup x=some u -> ∃ v val,X.mg x=some val/\RelV v val /\ ∀ ρ H,RV X.K ρ H u v
 bt:∀ x∈T.bt,X.mg x=none
 room:Room (2*d+3) X.A
 hN:X.N=N
 hsc:X.env.scope=sc
 nd:N.Nodup
 calm:X.calm=true
 xe:X.xe=λ_ _=>False
noncomputable def qb:Expr->Bool
 | .BoolOp .. => true
 | _=>false
noncomputable def Good(X:Cx)(C:Nat->List U->G->Out U)(e:Expr)(e':E):Prop :=
 (∀ n,PE X e (tE X.K W0 ((lev C n).ev e')))/\(∀ n,PT X e (tT X.K W0 ((lev C n).ts e')))/\(qb e=true -> ∀ n,PW X e (tT X.K W0 ((lev C n).ts e')))
section
variable{T:Tab}{fns:List Fn}{fu d:Nat}{X:Cx}{sc:Scope}{N:List Str}{C:Nat->List U->G->Out U}
theorem qN{α:Type}{r:α}{P:Prop}(h:(none:Option α)=some r):P:=by cases h
theorem qB{α β:Type}{o:Option α}{f:α->Option β}{r:β}{P:Prop}(h:o.bind f=some r)(k:∀ a,o=some a->f a=some r->P):P:=by
 cases o with
 | none=>cases h
 | some a=>exact k a rfl h
theorem qM{α β:Type}{o:Option α}{f:α->β}{r:β}{P:Prop}(h:o.map f=some r)(k:∀ a,o=some a->f a=r->P):P:=by
 cases o with
 | none=>cases h
 | some a=>exact k a rfl (Option.some.inj h)
theorem qI{α:Type}{c:Bool}{x:Option α}{r:α}{P:Prop}(h:oif c x=some r)(k:c=true->x=some r->P):P:=by
 cases c with
 | false=>cases h
 | true=>exact k rfl h
theorem qE{α:Type}{c:Prop}[Decidable c]{x y:Option α}{r:α}{P:Prop}(h:(if c then x else y)=some r)(k1:c->x=some r->P)(k2:y=some r->P):P:=by
 by_cases hc:c
 .rw [if_pos hc] at h;exact k1 hc h
 .rw [if_neg hc] at h;exact k2 h
theorem cu{α:Type}{l:List α}(h:bH l=true):l=[]:=by
 cases l with
 | nil=>rfl
 | cons _ _=>cases h
theorem pd{ce:Expr->Option E}{k:E->E}{es:List Expr}{r:E}{P:Prop}(h:iB ce k es=some r)(K:∀ a a',es=[a]->ce a=some a'->k a'=r->P):P:=by
 cases es with
 | nil=>cases h
 | cons a es=>cases es with
  | nil=>exact qM h λa' h1 h2=>K a a' rfl h1 h2
  | cons _ _=>cases h
theorem bM{b:Bool}(h:(!b)=true):b=false:=by cases b with
 | false=>rfl
 | true=>cases h
theorem Good.plain{e:Expr}{e':E}(pe:∀ n,PE X e (tE X.K W0 (evF C (lev C n) e')))(he:∀ whole,isTrue e X.env whole=(do let v <- whole;standAt e.pos;holding [v] (truthy v)))
  (hts:∀ r σ g,tsF r e' σ g=(r.ev e' σ g).bind λx g=>lift (tru x g) g) (hb:qb e=false):Good X C e e':=by
 have pe':∀ n,PE X e (tE X.K W0 ((lev C n).ev e')):=λn=>by
  cases n with
  | zero=>exact PE.bad λ_ _=>rfl
  | succ n=>exact pe n
 refine ⟨pe',λn => ?_,λh => ?_⟩
 .cases n with
  | zero=>exact PT.bad λ_ _=>rfl
  | succ n =>
   have:((lev C (n+1)).ts e')=λσ g=>((lev C n).ev e' σ g).bind λx g=>lift (tru x g) g:=by funext σ g;exact hts _ _ _
   rw [this];exact vZ (pe' n) he
 .rw [hb] at h;cases h
theorem fm{f:Expr->Option E}(ih:∀ e e',f e=some e'->Good X C e e'):∀ {es:List Expr} {es':List E},es.any isStar=false->ae (es.map f)=some es' -> ∀ n,PA X es (tAr X.K W0 (evs (lev C n).ev es'))
 | [],_,_,h=>λn=>by cases h;exact qQ
 | a :: es,es',hs,h=>λn=>by
  rw [List.any_cons,Bool.or_eq_false_iff] at hs;rw [List.map_cons] at h;cases ea:f a with
  | none=>rw [ea] at h;cases h
  | some a' =>
   rw [ea] at h;simp only [ae] at h;cases er:ae (es.map f) with
   | none=>rw [er] at h;cases h
   | some r' =>
    rw [er] at h;cases h;exact qc ((ih a a' ea).1 n) (fm ih hs.2 er n) (cB hs.1 _)
theorem yU{o:Operator}{o':Op}(h:ls o=some o'):(o'=.add/\o = .Add)\/(o'=.sub/\o = .Sub)\/(o'=.mul/\o = .Mult)\/(o'=.fdiv/\o = .FloorDiv)\/(o'=.mod/\o = .Mod)\/(o'=.pow/\o = .Pow):=by
 cases o <;> simp only [ls,reduceCtorEq,Option.some.injEq] at h <;> subst h <;> simp
theorem XOk.room2(ok:XOk T fns d X sc N):Room (2*d+2) X.A:=⟨ok.room.hd,by have:=ok.room.dp;omega,by have:=ok.room.un;omega⟩
theorem XOk.units(ok:XOk T fns d X sc N):X.A.units+2 < cLine:=by have:=ok.room.units;omega
theorem dH(ok:XOk T fns d X sc N){o:CmpOp}{o':Cp}(h:fX o=some o'):b5 X o' o:=by
 refine FF ok.units o' o ?_;cases o <;> simp only [fX,reduceCtorEq,Option.some.injEq] at h <;> subst h <;> simp
theorem oR{b:Expr}{o:CmpOp}(h:hG b=false):behindInMarks o b=false:=by
 cases b <;> first | rfl | cases h
theorem XOk.gl(ok:XOk T fns d X sc N){x:Str}(h:sc.names.lookup x=some .globalImplicit):Gl X x:=by
 show X.env.scope.names.lookup x=_;rw [ok.hsc];exact h
theorem pI{x:Str}(h:iE x=true):(x == ("__debug__" : Str))=false/\(x == ("__classdict__" : Str))=false/\x ≠ "__name__" := by
 unfold iE at h;simp only [Bool.and_eq_true,Bool.not_eq_true'] at h;exact ⟨h.1.1,h.1.2,λe=>by have:=h.2;rw [e] at this;simp at this⟩
theorem uA{b:Expr}(h:eY b=false):jD b:=by
 cases b <;> first | exact λ_ _=>rfl | cases h
section
variable{r:L}{a:Expr}{a':E}{pos p:Pos}
theorem A5{b:Bi}{f:Str}{es:List Expr}{es':List E}(hb:biOf f=some b)(hc:X.calm=true)(hu:X.A.units+2 < cLine)(hg:Gl X f)(hm:X.mg f=none)(ha:PA X (a :: es) (tAr X.K W0 (evs r.ev es')))(hs:(a :: es).any isStar=false):
  PE X (.Call (.Name f p) (a :: es) [] pos) (tE X.K W0 (evF C r (.bi b es'))):=by
 rw [List.any_cons,Bool.or_eq_false_iff] at hs;have h1:=cB (env:=X.env) hs.1 es;have h2:=jw (env:=X.env) (pos:=pos) hs.2;unfold biOf at hb;split at hb
 .rename_i e;subst e;cases hb;exact se_bi (pe_callB call_len_seq hg hm PySem.boot_len ha (by decide) (by decide) h1 h2) imp_len
 split at hb
 .rename_i e;subst e;cases hb;exact se_bi (pe_callTy (call_list_of.or (call_listD hc)) hg hm (by rfl) ha (by decide) (by decide) h1 h2) imp_list
 split at hb
 .rename_i e;subst e;cases hb;exact se_bi (pe_callB (call_srtX hc hu) hg hm (by rfl) ha (by decide) (by decide) h1 h2) imp_srt
 cases hb
end
theorem oT(ok:XOk T fns d X sc N){ce:Expr->Option E}(ihf:∀ e e',ce e=some e'->Good X (aa fns fu d) e e'){f:Str}{es:List Expr}{kws:List Keyword}{e':E}(h:fO T sc ce f es kws=some e')(p pos:Pos):Good X (aa fns fu d) (.Call (.Name f p) es kws pos) e':=by
 exact qN h
theorem oP(ok:XOk T fns d X sc N){ce:Expr->Option E}(ihf:∀ e e',ce e=some e'->Good X (aa fns fu d) e e'){o:Expr}{ap cp:Pos}{o':E}(hbs:gH o=false)(ho:Good X (aa fns fu d) o o'){m:Str}{es:List Expr}{kws:List Keyword}{e':E}(h:j7 T ce o' m ap cp es kws=some e'):Good X (aa fns fu d) (.Call (.Attribute o m ap) es kws cp) e':=by
 exact qN h
theorem kR{a:Expr}(h:[a].any isStar=false):isStar a=false:=by simpa using h
theorem jm{b:Bool}{x:Str}(h:dk b sc x=true):L2.Loc sc x/\(b=false->sc.names.lookup x=some .local):=by
 unfold dk at h;simp only [Bool.or_eq_true,Bool.and_eq_true,beq_iff_eq] at h;rcases h with h | ⟨h1,h2⟩
 .exact ⟨.inl h,λ_=>h⟩
 .exact ⟨.inr h2,λe=>by rw [e] at h1;cases h1⟩
theorem gp{b:Bool}{x:Str}{i:Nat}(h:du b sc N x=some i):N[i]? = some x/\dk b sc x=true:=by
 unfold du at h;split at h
 .rename_i hl;exact ⟨ixOf_get h,hl⟩
 .cases h
theorem wc{b:Bool}{x:Str}{i:Nat}(h:du b sc N x=some i):N[i]? = some x/\L2.Loc sc x/\(b=false->sc.names.lookup x=some .local):=⟨(gp h).1,jm (gp h).2⟩
theorem XOk.locX(ok:XOk T fns d X sc N){x:Str}(h:L2.Loc sc x):L2.Loc X.env.scope x:=by rw [ok.hsc];exact h
theorem XOk.fnX(ok:XOk T fns d X sc N){b:Bool}(hb:b=true -> ∀ x,X.fn x=true){x:Str}(h:b=false->sc.names.lookup x=some .local):X.fn x=true\/X.env.scope.names.lookup x=some .local:=by
 rw [ok.hsc];cases b with
 | true=>exact .inl (hb rfl x)
 | false=>exact .inr (h rfl)
theorem XOk.ndX(ok:XOk T fns d X sc N):X.N.Nodup:=by rw [ok.hN];exact ok.nd
theorem XOk.own(ok:XOk T fns d X sc N):PassesOwn (model X.prog X.w) X.A X.env X.xe:=by rw [ok.xe];exact PassesOwn.never
theorem nQ(ok:XOk T fns d X sc N){b:Bool}{sd:Scope}(hl:∀ x,dk b sd x=true->L2.Loc X.env.scope x/\(X.fn x=true\/X.env.scope.names.lookup x=some .local)){tg:Expr}{t:Tg}(h:b4 b sd N tg=some t):PG X tg (tG X.K t):=by
 unfold b4 at h;split at h
 .cases e:du b sd N ‹Str› with
  | none=>rw [e] at h;cases h
  | some i =>
   rw [e] at h;cases h;obtain ⟨h1,h2⟩:=gp e;exact DI ok.ndX (by rw [ok.hN];exact h1) (hl _ h2).1 (hl _ h2).2
 .rename_i ts k p
  cases e:ae (ts.map (dS b sd N)) with
  | none=>rw [e] at h;cases h
  | some is =>
   rw [e] at h;cases h;have all:∀ (ts:List Expr) (is:List Nat),ae (ts.map (dS b sd N))=some is->PGs X ts (tGs X.K is)/\(assignEach ts X.env).length=is.length/\(assignEach ts X.env).findIdx? (·.1)=none:=λts=>by
    induction ts with
    | nil=>intro is e;cases e;exact ⟨sgs_nil,rfl,rfl⟩
    | cons a ts ih =>
     intro is e;rw [List.map_cons] at e;cases ea:dS b sd N a with
     | none=>rw [ea] at e;cases e
     | some i =>
      rw [ea] at e;simp only [ae] at e;cases er:ae (ts.map (dS b sd N)) with
      | none=>rw [er] at e;cases e
      | some is' =>
       rw [er] at e;cases e;obtain ⟨p1,p2,p3⟩:=ih is' er;cases a <;> simp only [dS,reduceCtorEq] at ea
       obtain ⟨h1,h2⟩:=gp ea;refine ⟨vM ok.ndX (by rw [ok.hN];exact h1) (hl _ h2).1 (hl _ h2).2 p1,?_,?_⟩
       .show (assignEach ts X.env).length+1=_
        rw [p2];rfl
       .show List.findIdx? (·.1) ((false,_) :: assignEach ts X.env)=none
        rw [List.findIdx?_cons];simp [p3]
   obtain ⟨p1,p2,p3⟩:=all ts is e;exact Fe ok.calm p1 p2 p3
 .cases h
theorem jn(ok:XOk T fns d X sc N){b:Bool}(hb:b=true -> ∀ x,X.fn x=true){tg:Expr}{t:Tg}(h:b4 b sc N tg=some t):PG X tg (tG X.K t):=nQ ok (λ_ z=>⟨ok.locX (jm z).1,ok.fnX hb (jm z).2⟩) h
theorem xA{pins:List (Addr×Obj)}{scope:Scope}{s3:Shared}{H3:Hp}{fp:List Addr}{N':List Str}{x:Str}(h:dk true scope x=true):L2.Loc (aq X pins scope s3 H3 fp N').env.scope x/\((aq X pins scope s3 H3 fp N').fn x=true\/(aq X pins scope s3 H3 fp N').env.scope.names.lookup x=some .local):=by
 have e:(aq X pins scope s3 H3 fp N').env.scope.names.lookup x=_:=f7;simp only [dk,Bool.or_eq_true,Bool.true_and,beq_iff_eq] at h;rcases h with h | h
 .rw [h] at e;exact ⟨.inl e,.inr e⟩
 .rw [h] at e;exact ⟨.inr e,.inl (beq_iff_eq.mpr h)⟩
theorem zg{r:L}{e':E}(h:ic e'=true):itF r e'=(λσ g=>(r.ev e' σ g).bind λu g=>match u with
  | .tup xs=>Out.ok (Iter.seq xs) g
  | .xn _ xs=>Out.ok (Iter.seq xs) g
  | .ref n=>match g[n]? with
   | some (.lst _) => .ok (.lst n) g
   | some (.dic kvs) => .ok (.dic n) (g.set n (.dif kvs))
   | some (.dif _) => .ok (.dic n) g
   | _ => .bad
  | _ => .bad):=by
 cases e' <;> first | rfl | cases h
theorem eQ(ok:XOk T fns d X sc N){f:Expr->Option E}(ihf:∀ e e',f e=some e'->Good X (aa fns fu d) e e'){tg it:Expr}{it':E}(h:fN T sc f it=some it'):(∀ n,PI X tg it (tI X.K W0 (itF (lev (aa fns fu d) n) it'))) /\ ∀ x,foldedSetIterable it X.env x=pure x:=by
 have val:cIt f it=some it'->(∀ n,PI X tg it (tI X.K W0 (itF (lev (aa fns fu d) n) it'))) /\ ∀ x,foldedSetIterable it X.env x=pure x:=λh=>qI h λhs h=>qB h λe' he h=>qI h λhr h=>by
  cases h;have hs:=bM hs;exact ⟨λn=>by rw [zg hr];exact CJ ((ihf it it' he).1 n),λx=>by cases it <;> first | rfl | cases hs⟩
 unfold fN at h;cases hc:gW it with
 | none=>rw [hc] at h;exact val h
 | some c =>
  rw [hc] at h;refine qE h (λhf h => ?_) val;obtain ⟨p,q,rfl⟩:=mX hc;obtain ⟨n,es⟩:=c;have hf:n = "range" := hf;subst hf;refine qI h λhc h => ?_;simp only [Bool.and_eq_true,Bool.not_eq_true',beq_iff_eq] at hc;obtain ⟨⟨h1,h2⟩,h3⟩:=hc;have hm:=ok.bt _ (List.contains_iff_mem.mp h1);cases es with
  | nil=>cases h
  | cons a es =>
   cases es with
   | nil =>
    refine qM h λa' ha e => ?_;subst e;exact ⟨λn=>y3 (ok.gl h2) hm ((ihf _ _ ha).1 n) (cB (kR h3)),λx=>rfl⟩
   | cons b es =>
    exact qN h
theorem nF(ok:XOk T fns d X sc N){f:Expr->Option E}(ihf:∀ e e',f e=some e'->Good X (aa fns fu d) e e'){tg it:Expr}{it':E}(h:qT T sc f tg it=some it'):(∀ n,PI X tg it (tI X.K W0 (itF (lev (aa fns fu d) n) it'))) /\ ∀ x,foldedSetIterable it X.env x=pure x:=by
 exact eQ ok ihf h
theorem uU{scope:Scope}{env:Env}(h:env.scope=sc):relabel scope env=bP scope sc:=by subst h;rfl
theorem XOk.comp(ok:XOk T fns d X sc N){scope:Scope}{own fr:List Str}(nd:(own++fr).Nodup)(pins:List (Addr×Obj))(s3:Shared)(H3:Hp)(fp:List Addr):XOk T fns d (aq X pins scope s3 H3 fp (own++fr)) (bP scope sc) (own++fr) :=
 ⟨ok.hF,ok.cs,ok.bt,ok.room,rfl,uU ok.hsc,nd,ok.calm,rfl⟩
theorem jB{f:Expr->Option E}(ih:∀ e e',f e=some e'->Good X C e e'):∀ {es:List Expr} {es':List E},ae (es.map f)=some es' -> ∀ n,PTs X es (aI (lev C n).ts es')
 | [],_,h=>λn=>by cases h;exact yq
 | a :: es,es',h=>λn=>by
  rw [List.map_cons] at h;cases ea:f a with
  | none=>rw [ea] at h;cases h
  | some a' =>
   rw [ea] at h;simp only [ae] at h;cases er:ae (es.map f) with
   | none=>rw [er] at h;cases h
   | some r' =>
    rw [er] at h;cases h;exact vT ((ih a a' ea).2.1 n) (jB ih er n)
theorem nW(ok:XOk T fns d X sc N){f:Expr->Option E}(ih:∀ e e',f e=some e'->Good X (aa fns fu d) e e'):∀ {gs:List Comprehension} {gs':List (Tg×E×List E)},ki T sc N f gs=some gs'->b0 X (aa fns fu d) gs gs'
 | [],_,h=>by cases h;trivial
 | g :: gs,gs',h=>qI h λha h=>qB h λt ht h=>qB h λit hit h=>qB h λcs hcs h=>qM h λr' hr e=>by
  subst e;exact ⟨eq_of_beq ha,jn ok (λe=>by cases e) ht,jB ih hcs,(eQ ok ih hit).1,(eQ (tg:=g.target) ok ih hit).2,nW ok ih hr⟩
theorem vo(ok:XOk T fns d X sc N){scope:Scope}{own:List Str}{frI:List Nat}(h:jj scope sc own (freeOf scope)=true)(hI:ae ((freeOf scope).map (br N))=some frI):CompSc X scope own (freeOf scope) frI:=by
 unfold jj at h;simp only [Bool.and_eq_true,beq_iff_eq,List.all_eq_true,Bool.or_eq_true,bne_iff_ne,decide_eq_true_eq] at h;obtain ⟨⟨⟨⟨⟨⟨h1,h2⟩,h3⟩,h4⟩,h5⟩,h6⟩,h7⟩:=h;refine ⟨h1,λx hx hl=>(h2 x hx).resolve_left λz=>z hl,λx hx hl=>(h3 x hx).resolve_left λz=>z hl,λx hx hl => ?_,h5,h6,h7,?_⟩
 .show X.env.scope.names.lookup x.1=_
  rw [ok.hsc];exact (h4 x hx).resolve_left λz=>z hl
 .have all:∀ (l:List Str) (r:List Nat),ae (l.map (br N))=some r->r.length=l.length /\ ∀ (j:Nat) (x:Str) (i:Nat),l[j]? = some x->r[j]? = some i->N[i]? = some x:=λl=>by
   induction l with
   | nil=>intro r e;cases e;exact ⟨rfl,λj x i e=>by simp at e⟩
   | cons y l ih =>
    intro r e;rw [List.map_cons] at e;cases ea:br N y with
    | none=>rw [ea] at e;cases e
    | some k =>
     rw [ea] at e;simp only [ae] at e;cases er:ae (l.map (br N)) with
     | none=>rw [er] at e;cases e
     | some r' =>
      rw [er] at e;cases e;obtain ⟨p1,p2⟩:=ih r' er;refine ⟨by simp [p1],λj x i e1 e2 => ?_⟩
      cases j with
      | zero=>simp at e1 e2;subst e1;subst e2;exact ixOf_get ea
      | succ j=>exact p2 j x i (by simpa using e1) (by simpa using e2)
  rw [ok.hN];exact all _ _ hI
theorem w5(ok:XOk T fns d X sc N){x:Str}{pos:Pos}{e':E}(h:rP T sc N x=some e'):Good X (aa fns fu d) (.Name x pos) e':=by
 refine qI h λhx h=>qB h λk hk h => ?_;obtain ⟨h1,h2,h3⟩:=pI hx;have var:(k=.local\/k=.cell\/k=.free)->(br N x).map E.var=some e'->Good X (aa fns fu d) (.Name x pos) e':=λhk' h=>qM h λi ei e=>by
  subst e;refine .plain (λn=>BK (by rw [ok.hN];exact ixOf_get ei) ?_ h1 h2) (λ_=>rfl) (λ_ _ _=>rfl) rfl
  show X.env.scope.names.lookup x=_\/_;rw [ok.hsc];rcases hk' with rfl | rfl | rfl
  .exact .inl hk
  .exact .inr (.inl hk)
  .exact .inr (.inr hk)
 cases k with
 | «local» => exact var (.inl rfl) h
 | cell=>exact var (.inr (.inl rfl)) h
 | free=>exact var (.inr (.inr rfl)) h
 | globalImplicit =>
  refine qM h λu ec e => ?_;subst e;obtain ⟨v,val,q1,q2,q3⟩:=ok.cs x u ec;exact .plain (λn=>fD (ym (ok.gl hk) q1 q2 h1) q3) (λ_=>rfl) (λ_ _ _=>rfl) rfl
 | globalExplicit=>exact qN h
theorem yK{v:Const}{k:Nat}{pos:Pos}{e':E}(h:sP v=some e'):Good X C (.Constant v k pos) e':=by
 cases v with
 | int i=>cases h;exact .plain (λn=>fD CO λ_ _=>rfl) (λ_=>rfl) (λ_ _ _=>rfl) rfl
 | bool b=>cases h;exact .plain (λn=>fD C0 λ_ _=>rfl) (λ_=>rfl) (λ_ _ _=>rfl) rfl
 | none=>cases h;exact .plain (λn=>fD Bz λ_ _=>rfl) (λ_=>rfl) (λ_ _ _=>rfl) rfl
 | str s=>cases h;exact .plain (λn=>fD AA λ_ _=>rfl) (λ_=>rfl) (λ_ _ _=>rfl) rfl
 | _=>exact qN h
section
variable{ce:Expr->Option E}(ok:XOk T fns d X sc N)(ih:∀ e e',ce e=some e'->Good X (aa fns fu d) e e'){e':E}{pos:Pos}
include ok in
theorem wV(ih:∀ e e',ce e=some e'->Good X (aa fns fu d) e e'){a b:Expr}{o:CmpOp}(h:rY ce a o b=some e'):Good X (aa fns fu d) (.Compare a [o] [b] pos) e':=by
 refine qI h λhset h=>qB h λo' ho h=>qB h λa' ha h=>qM h λb' hb e => ?_;subst e;have hm:=oR (o:=o) (bM hset);refine ⟨λn => ?_,λn => ?_,λh=>by cases h⟩
 .cases n with
  | zero=>exact PE.bad λ_ _=>rfl
  | succ n=>exact zY (C:=aa fns fu d) (dH ok ho) hm ((ih _ _ ha).1 n) ((ih _ _ hb).1 n)
 .cases n with
  | zero=>exact PT.bad λ_ _=>rfl
  | succ n =>
   cases n with
   | zero=>exact PT.bad λ_ _=>rfl
   | succ n=>exact AO (C:=aa fns fu d) (dH ok ho) hm ((ih _ _ ha).1 n) ((ih _ _ hb).1 n)
include ok in
theorem wZ(ih:∀ e e',ce e=some e'->Good X (aa fns fu d) e e'){a b c:Expr}{o q:CmpOp}(h:rF ce a o q b c=some e'):Good X (aa fns fu d) (.Compare a [o,q] [b,c] pos) e':=by
 refine qI h λhset h=>qB h λo' ho h=>qB h λq' hq h=>qB h λa' ha h=>qB h λb' hb h=>qM h λc' hc e => ?_;subst e;have hm:=oR (o:=q) (bM hset);refine ⟨λn => ?_,λn => ?_,λh=>by cases h⟩
 .cases n with
  | zero=>exact PE.bad λ_ _=>rfl
  | succ n=>exact wj (C:=aa fns fu d) (dH ok ho) (dH ok hq) hm ((ih _ _ ha).1 n) ((ih _ _ hb).1 n) ((ih _ _ hc).1 n)
 .cases n with
  | zero=>exact PT.bad λ_ _=>rfl
  | succ n =>
   cases n with
   | zero=>exact PT.bad λ_ _=>rfl
   | succ n=>exact w6 (C:=aa fns fu d) (dH ok ho) (dH ok hq) hm ((ih _ _ ha).1 n) ((ih _ _ hb).1 n) ((ih _ _ hc).1 n)
include ok in
theorem xv(ih:∀ e e',ce e=some e'->Good X (aa fns fu d) e e'){a:Expr}{os:List CmpOp}{bs:List Expr}(h:tM ce a os bs=some e'):Good X (aa fns fu d) (.Compare a os bs pos) e':=by
 cases os with
 | nil=>exact qN h
 | cons o os=>cases bs with
  | nil=>exact qN h
  | cons b bs=>cases os with
   | nil =>
    refine qI h λhb h2 => ?_;cases cu hb;exact wV ok ih h2
   | cons q os=>cases bs with
    | nil=>exact qN h
    | cons c bs =>
     refine qI h λhb h2 => ?_;rw [Bool.and_eq_true] at hb;cases cu hb.1;cases cu hb.2;exact wZ ok ih h2
theorem yJ(ih:∀ e e',ce e=some e'->Good X (aa fns fu d) e e'){o:BoolOp}{es:List Expr}(h:tj ce o es pos=some e'):Good X (aa fns fu d) (.BoolOp o es pos) e':=by
 cases es with
 | nil=>exact qN h
 | cons a es=>cases es with
  | nil =>
   obtain ⟨g1,g2,g3⟩:=ih _ _ h;have pw:∀ n,PW X (.BoolOp o [a] pos) (tT X.K W0 ((lev (aa fns fu d) n).ts e')):=λn=>by
    cases o with
    | And=>exact yf (g2 n)
    | Or=>exact zW (g2 n)
   exact ⟨λn=>Ar (g1 n),λn=>(pw n).pt,λ_ n=>pw n⟩
  | cons b rest=>cases o with
   | And =>
    refine qB h λa' ha h=>qM h λb' hb e => ?_;subst e;have pw:∀ n,PW X (.BoolOp .And (a :: b :: rest) pos) (tT X.K W0 ((lev (aa fns fu d) n).ts (.and a' b'))):=λn=>by
     cases n with
     | zero=>exact λwh pins s σ H Q I ⟨_,_,_,_,_,p⟩=>p.elim
     | succ n=>exact BD ((ih _ _ ha).2.1 n) ((ih _ _ hb).2.2 rfl n)
    refine ⟨λn => ?_,λn=>(pw n).pt,λ_ n=>pw n⟩;cases n with
    | zero=>exact PE.bad λ_ _=>rfl
    | succ n=>exact zR (C:=aa fns fu d) ((ih _ _ ha).1 n) ((ih _ _ hb).1 n)
   | Or=>exact qN h
theorem AS(ih:∀ e e',ce e=some e'->Good X (aa fns fu d) e e'){o:UnaryOp}{a:Expr}(h:cUn ce o a=some e'):Good X (aa fns fu d) (.UnaryOp o a pos) e':=by
 cases o with
 | Not =>
  refine qM h λa' ha e => ?_;subst e;refine ⟨λn => ?_,λn => ?_,λh=>by cases h⟩
  .cases n with
   | zero=>exact PE.bad λ_ _=>rfl
   | succ n=>exact Al (C:=aa fns fu d) ((ih _ _ ha).1 n)
  .cases n with
   | zero=>exact PT.bad λ_ _=>rfl
   | succ n=>exact Bq ((ih _ _ ha).2.1 n)
 | _=>exact qN h
theorem p8(ih:∀ e e',ce e=some e'->Good X (aa fns fu d) e e'){lo:Option Expr}{l':Option E}(h:kE ce lo=some l')(n:Nat):PO X lo (fV X.K W0 (evo (lev (aa fns fu d) n).ev l')):=by
 cases lo with
 | none=>cases h;exact yu
 | some l=>exact qM h λl2 el e=>by subst e;exact yD ((ih _ _ el).1 n)
theorem yR(hu:X.A.units+2 < cLine)(ih:∀ e e',ce e=some e'->Good X (aa fns fu d) e e'){a s:Expr}(h:lh ce a s=some e'):Good X (aa fns fu d) (.Subscript a s pos) e':=by
 unfold lh at h;cases hsl:eY s with
 | true =>
  rw [hsl] at h;cases s with
  | Slice lo hi st p=>cases st with
   | none =>
    refine qB h λa' ha h=>qB h λl' hl h=>qM h λh' hh e => ?_;subst e;exact .plain (λn=>AK ((ih _ _ ha).1 n) (p8 ih hl n) (p8 ih hh n)) (λ_=>rfl) (λ_ _ _=>rfl) rfl
   | some st=>exact qN h
  | _=>exact qN h
 | false =>
  rw [hsl] at h;refine qB h λa' ha h=>qM h λb' hb e => ?_;subst e;exact .plain (λn=>Cy (by omega) ((ih _ _ ha).1 n) ((ih _ _ hb).1 n) (uA hsl)) (λ_=>rfl) (λ_ _ _=>rfl) rfl
include ok in
theorem qu(ih:∀ e e',ce e=some e'->Good X (aa fns fu d) e e'){f:Str}{p:Pos}{es:List Expr}(hgl:sc.names.lookup f=some .globalImplicit)(hm:X.mg f=none)(hst:es.any isStar=false)(h:cBi ce f es=some e'):Good X (aa fns fu d) (.Call (.Name f p) es [] pos) e':=by
 refine qB h λb hb h=>qI h λhne h=>qM h λes' ha e => ?_;subst e;cases es with
 | nil=>cases hne
 | cons a es =>
  unfold rO at hb;exact .plain (λn=>A5 hb ok.calm ok.units (ok.gl hgl) hm (fm ih hst ha n) hst) (λ_=>rfl) (λ_ _ _=>rfl) rfl
include ok in
include ok in
theorem yP(ih:∀ e e',ce e=some e'->Good X (aa fns fu d) e e'){f:Str}{p:Pos}{es:List Expr}(hgl:sc.names.lookup f=some .globalImplicit)(hm:X.mg f=none)(hst:es.any isStar=false)(h:iF T sc ce f es=some e'):Good X (aa fns fu d) (.Call (.Name f p) es [] pos) e':=by
 refine qE h (λhf h => ?_) (qu ok ih hgl hm hst);cases hset:setArg es with
 | none=>rw [hset] at h;exact qu ok ih hgl hm hst h
 | some a =>
  rw [hset] at h;refine qI h λhc2 h=>qM h λa' ha e => ?_;subst hf;subst e;simp only [Bool.and_eq_true,beq_iff_eq] at hc2;obtain ⟨hsa,p2,q2,rfl⟩:=u0 hset;exact .plain (λn=>yC ok.calm (by have:=ok.room.units;omega) (ok.gl hgl) hm (ok.gl hc2.2) (ok.bt _ (List.contains_iff_mem.mp hc2.1)) ((ih _ _ ha).1 n) (cB hsa _)) (λ_=>rfl) (λ_ _ _=>rfl) rfl
include ok in
theorem xp(ih:∀ e e',ce e=some e'->Good X (aa fns fu d) e e'){f:Str}{p:Pos}{es:List Expr}(h:sA T sc ce f es=some e'):Good X (aa fns fu d) (.Call (.Name f p) es [] pos) e':=by
 refine qI h λhc h => ?_;simp only [Bool.and_eq_true,Bool.not_eq_true',beq_iff_eq] at hc;obtain ⟨⟨hnm,hst⟩,hgl⟩:=hc;obtain ⟨h1,h2,h3⟩:=pI hnm;cases hi:br T.fns f with
 | some i =>
  rw [hi] at h;refine qM h λes' ha e => ?_;subst e;obtain ⟨fa,fd,ps,q1,q2,q3,q4,q5⟩:=ok.hF i f (ixOf_get hi) h1;refine .plain (λn => ?_) (λ_=>rfl) (λ_ _ _=>rfl) rfl;cases es with
  | nil=>cases ha;exact v8 q4 q5 ok.room2 (ok.gl hgl) q1 q2 q3 h1
  | cons a es =>
   have hst':=hst;rw [List.any_cons,Bool.or_eq_false_iff] at hst';exact xm q4 q5 ok.room2 (ok.gl hgl) q1 q2 q3 h1 (fm ih hst ha n) (cB hst'.1 _) (jw hst'.2)
 | none =>
  rw [hi] at h;cases hbt:T.bt.contains f with
  | true =>
   have h:(match T.bt.contains f with | true=>iF T sc ce f es | false=>fO T sc ce f es [])=some e':=h
   rw [hbt] at h;exact yP ok ih hgl (ok.bt f (List.contains_iff_mem.mp hbt)) hst h
  | false =>
   have h:(match T.bt.contains f with | true=>iF T sc ce f es | false=>fO T sc ce f es [])=some e':=h
   rw [hbt] at h;exact oT ok ih h _ _
include ok in
theorem zt(ih:∀ e e',ce e=some e'->Good X (aa fns fu d) e e'){o:Expr}{o':E}{m:Str}{ap cp:Pos}{es:List Expr}(hbs:gH o=false)(ho:Good X (aa fns fu d) o o')(hline:(ap.endLine == cp.line)=true)(hst:es.any isStar=false)(h:cMt T ce o' m ap cp es=some e'):Good X (aa fns fu d) (.Call (.Attribute o m ap) es [] cp) e':=by
 refine qE h (λhf h => ?_) λh => ?_
 .subst hf
  refine pd h λa a' e1 ha e => ?_;subst e1;subst e;exact .plain (λn=>Aq (ho.1 n) ((ih _ _ ha).1 n) (base_of hbs _) hline (cB (kR hst))) (λ_=>rfl) (λ_ _ _=>rfl) rfl
 refine qE h (λhf h => ?_) λh => ?_
 .subst hf
  refine pd h λa a' e1 ha e => ?_;subst e1;subst e;exact .plain (λn=>Cm (ho.1 n) ((ih _ _ ha).1 n) (base_of hbs _) hline (cB (kR hst))) (λ_=>rfl) (λ_ _ _=>rfl) rfl
 refine qE h (λhf h5 => ?_) λh => ?_
 .subst hf
  cases es with
  | nil =>
   cases h5;exact .plain (λn=>Ah (ho.1 n) (base_of hbs _) hline) (λ_=>rfl) (λ_ _ _=>rfl) rfl
  | cons b es =>
   exact qN h5
 exact oP ok ih hbs ho h
include ok in
theorem zi(ih:∀ e e',ce e=some e'->Good X (aa fns fu d) e e'){fn:Expr}{es:List Expr}{kws:List Keyword}(h:tL T sc ce fn es kws pos=some e'):Good X (aa fns fu d) (.Call fn es kws pos) e':=by
 cases fn with
 | Name f p=>cases kws with
  | nil=>exact xp ok ih h
  | cons k kws=>exact oT ok ih h _ _
 | Attribute o m ap =>
  refine qI h λhbs h=>qB h λo' ho h => ?_;have hbs:=bM hbs;cases kws with
  | nil =>
   refine qI h λhc h => ?_;rw [Bool.and_eq_true] at hc;exact zt ok ih hbs (ih _ _ ho) hc.1 (bM hc.2) h
  | cons k kws=>exact oP ok ih hbs (ih _ _ ho) h
 | _=>exact qN h
theorem zh(ih:∀ e e',ce e=some e'->Good X (aa fns fu d) e e'){keys:List (Option Expr)}{vs:List Expr}(h:tB ce keys vs=some e'):Good X (aa fns fu d) (.Dict keys vs pos) e':=by
 cases keys with
 | nil =>
  refine qI h λhe h => ?_;cases cu he;cases h;exact .plain (λn=>zl) (λ_=>rfl) (λ_ _ _=>rfl) rfl
 | cons k0 keys =>
  exact qN h
include ok in
theorem jC(ih:∀ e e',ce e=some e'->Good X (aa fns fu d) e e'){ci:Expr->Option E}{g:Comprehension}{rest:List Comprehension}{scope:Scope}{q:List Nat×List (Tg×E×List E)}
  (ihg:∀ {X':Cx},XOk T fns d X' (bP scope sc) (ownOf (g :: rest)++freeOf scope) -> ∀ e e',ci e=some e'->Good X' (aa fns fu d) e e') (h:kG T sc ce N ci g rest scope=some q) :
  ∃ t it' cs rest' frI,q=(frI,(t,it',cs) :: rest')/\CompSc X scope (ownOf (g :: rest)) (freeOf scope) frI/\g.is_async=0/\(∀ n,PI X g.target g.iter (tI X.K W0 (itF (lev (aa fns fu d) n) it')))/\(∀ x,foldedSetIterable g.iter X.env x=pure x) /\
   ∀ pins s3 H3 fp,XOk T fns d (aq X pins scope s3 H3 fp (ownOf (g :: rest)++freeOf scope)) (bP scope sc) (ownOf (g :: rest)++freeOf scope)/\PG (aq X pins scope s3 H3 fp (ownOf (g :: rest)++freeOf scope)) g.target (tG X.K t)/\(∀ n,PTs (aq X pins scope s3 H3 fp (ownOf (g :: rest)++freeOf scope)) g.ifs (aI (lev (aa fns fu d) n).ts cs)) /\
    b0 (aq X pins scope s3 H3 fp (ownOf (g :: rest)++freeOf scope)) (aa fns fu d) rest rest':=by
 refine qI h λhc h=>qB h λit' hit h=>qB h λt ht h=>qB h λcs hcs h=>qB h λrest' hrest h=>qM h λfrI hfr e => ?_;rw [Bool.and_eq_true,beq_iff_eq] at hc;have S:=vo ok hc.1 hfr;refine ⟨t,it',cs,rest',frI,e.symm,S,hc.2,(eQ ok ih hit).1,(eQ (tg:=g.target) ok ih hit).2,λpins s3 H3 fp => ?_⟩;have ok':=ok.comp (scope:=scope) S.nd pins s3 H3 fp;exact ⟨ok',nQ ok' (λ_=>xA) ht,jB (ihg ok') hcs,nW ok' (ihg ok') hrest⟩
end
theorem bz:∀ (m:Nat) {X:Cx} {sc:Scope} {N:List Str} (ok:XOk T fns d X sc N) (e:Expr) (e':E),aB T sc N m e=some e'->Good X (aa fns fu d) e e'
 | 0,_,_,_,_,_,_,h=>by cases h
 | m+1,X,sc,N,ok,e,e',h=>by
  have ih:=bz m ok;cases e with
  | Name x p=>exact w5 ok h
  | Constant v k p=>exact yK h
  | BinOp a o b p =>
   refine qB h λo' ho h=>qB h λa' ha h=>qM h λb' hb e => ?_;subst e;exact .plain (λn=>wX (yU ho) ((ih _ _ ha).1 n) ((ih _ _ hb).1 n)) (λ_=>rfl) (λ_ _ _=>rfl) rfl
  | Compare a os bs p=>exact xv ok ih h
  | BoolOp o es p=>exact yJ ih h
  | UnaryOp o a p=>exact AS ih h
  | Tuple es k p =>
   refine qI h λhs h=>qM h λa' ha e => ?_;subst e;exact .plain (λn=>CS (fm ih (bM hs) ha n)) (λ_=>rfl) (λ_ _ _=>rfl) rfl
  | List es p =>
   refine qI h λhs h=>qM h λa' ha e => ?_;subst e;exact .plain (λn=>BY (fm ih (bM hs) ha n)) (λ_=>rfl) (λ_ _ _=>rfl) rfl
  | Subscript a s p=>exact yR ok.units ih h
  | Call fn es kws cp=>exact zi ok ih h
  | Dict keys vs p=>exact zh ih h
  | ListComp elt gs scope p=>cases gs with
   | nil=>exact qN h
   | cons g rest =>
    refine qB h λq hq h=>qM h λelt' he e => ?_;subst e;obtain ⟨t,it',cs,rest',frI,rfl,S,h1,h2,h3,h4⟩:=jC (fu:=fu) ok ih (λok'=>bz m ok') hq;exact .plain (λn=>xJ ok.calm S h1 (h2 n) h3 λpins s3 H3 fp=>⟨(h4 pins s3 H3 fp).2.1,(h4 pins s3 H3 fp).2.2.1,(h4 pins s3 H3 fp).2.2.2,(bz m (h4 pins s3 H3 fp).1 _ _ he).1⟩) (λ_=>rfl) (λ_ _ _=>rfl) rfl
  | DictComp kx vx gs scope p=>cases gs with
   | nil=>exact qN h
   | cons g rest =>
    refine qB h λq hq h=>qB h λk' hk h=>qM h λv' hv e => ?_;subst e;obtain ⟨t,it',cs,rest',frI,rfl,S,h1,h2,h3,h4⟩:=jC (fu:=fu) ok ih (λok'=>bz m ok') hq;exact .plain (λn=>vQ ok.calm (by have:=ok.units;omega) S h1 (h2 n) h3 λpins s3 H3 fp=>⟨(h4 pins s3 H3 fp).2.1,(h4 pins s3 H3 fp).2.2.1,(h4 pins s3 H3 fp).2.2.2,(bz m (h4 pins s3 H3 fp).1 _ _ hk).1,(bz m (h4 pins s3 H3 fp).1 _ _ hv).1⟩) (λ_=>rfl) (λ_ _ _=>rfl) rfl
  | _=>exact qN h
theorem ui(ok:XOk T fns d X sc N){m:Nat}{elt:Expr}{g:Comprehension}{rest:List Comprehension}{scope:Scope}{pos:Pos}{e':E}(h:aB T sc N (m+1) (.ListComp elt (g :: rest) scope pos)=some e'):
  ∃ t it' cs rest' elt' frI,e'=.comp (ownOf (g :: rest)).length frI ((t,it',cs) :: rest') elt'/\CompSc X scope (ownOf (g :: rest)) (freeOf scope) frI/\g.is_async=0/\(∀ n,PI X g.target g.iter (tI X.K W0 (itF (lev (aa fns fu d) n) it')))/\(∀ x,foldedSetIterable g.iter X.env x=pure x) /\
   ∀ pins s3 H3 fp,PG (aq X pins scope s3 H3 fp (ownOf (g :: rest)++freeOf scope)) g.target (tG X.K t)/\(∀ n,PTs (aq X pins scope s3 H3 fp (ownOf (g :: rest)++freeOf scope)) g.ifs (aI (lev (aa fns fu d) n).ts cs)) /\
    b0 (aq X pins scope s3 H3 fp (ownOf (g :: rest)++freeOf scope)) (aa fns fu d) rest rest' /\ ∀ n,PE (aq X pins scope s3 H3 fp (ownOf (g :: rest)++freeOf scope)) elt (tE X.K W0 ((lev (aa fns fu d) n).ev elt')):=by
 refine qB h λq hq h=>qM h λelt' he e => ?_;obtain ⟨t,it',cs,rest',frI,rfl,S,h1,h2,h3,h4⟩:=jC (fu:=fu) ok (bz m ok) (λok'=>bz m ok') hq;exact ⟨t,it',cs,rest',elt',frI,e.symm,S,h1,h2,h3,λpins s3 H3 fp=>⟨(h4 pins s3 H3 fp).2.1,(h4 pins s3 H3 fp).2.2.1,(h4 pins s3 H3 fp).2.2.2,(bz m (h4 pins s3 H3 fp).1 _ _ he).1⟩⟩
end
section
variable{prog:Program}{w:World}{K:Type}[DecidableEq K]{knd:HeapKind prog w K}{A:Around}{E:Value->Shared->Prop}{s:Shared}{d a:Addr}{k:K}{xs:List (K×Addr×Value)}
theorem nD{β:Type}:∀ {xs:List (K×β)} {j:Nat} {p:β},(xs.map (·.1)).Nodup->xs[j]? = some (k,p)->xs.eraseIdx j=xs.filter λx => !decide (x.1=k)
 | [],_,_,_,h=>by cases h
 | x :: xs,0,p,hn,h=>by
  cases h;rw [List.map_cons,List.nodup_cons] at hn;rw [List.eraseIdx_zero,List.tail_cons,List.filter_cons_of_neg (by simp)]
  refine (List.filter_eq_self.mpr λy hy => ?_).symm;rw [Bool.not_eq_true',decide_eq_false_iff_not];exact λe=>hn.1 (List.mem_map.mpr ⟨y,hy,e⟩)
 | x :: xs,j+1,p,hn,h=>by
  rw [List.map_cons,List.nodup_cons] at hn;have hx:x.1≠k:=λe=>hn.1 (List.mem_map.mpr ⟨(k,p),List.mem_of_getElem? (by simpa using h),e.symm⟩)
  rw [List.eraseIdx_cons_succ,List.filter_cons_of_pos (by simp [hx]),nD hn.2 (by simpa using h)]
theorem ua{Q:Option DictEntry->Shared->Prop}(hu:knd.room A)(hkey:knd.is s.heap k a)(hm:s.heap.DictOfH knd d xs)(hk:k∈xs.map (·.1))(hsz:xs.length<=sizeLine)
  (hQ:∀ e h',h'.DictOfH knd d (xs.filter λx => !decide (x.1=k))->Heap.SameBut d s.heap h'->Q (some e) { s with heap:=h',toks:=s.toks+knd.draws k }):wpAny (model prog w) A (Builtin.Dict.takeOut d (.ref a)) Q E s:=by
 obtain ⟨o,es,ep,ho,hc,hd,he,his,hn⟩:=hm;unfold Builtin.Dict.takeOut
 try with_reducible refine wpAny_holding ?_
 refine ZB (knd.pyHash hu hkey (ZB (wpAny_dictFind_heap (s:={ s with toks:=s.toks+knd.draws k }) hu hkey ho hd he his hn ?_ ?_)))
 .intro hno
  exact absurd hk (not_mem_keys_of_get hno)
 .intro j p hj
  refine ZB (wpAny_dictEntries (s:={ s with toks:=s.toks+knd.draws k }) ho hd ?_)
  rw [entry_at he j,hj]
  refine ZB (wpAny_updateDictKeys (hz:=by have e:=size_of_entries he;omega) (s:={ s with toks:=s.toks+knd.draws k }) ho hd (ZP (hQ _ _ ⟨_,_,ep+1,Heap.get?_update_self _ ho (Obj.isFreed_of_dict (Obj.data_mapDictKeys hd _)),
   hc.mapDictKeys _,Obj.data_mapDictKeys hd _,?_,?_,?_⟩ (Heap.SameBut.update ..))))
  .rw [<-nD hn hj]
   obtain ⟨l⟩:=es;have he:l=xs.map (entryOfKey knd):=he;rw [List.eraseIdxIfInBounds_toArray,he];show (xs.map (entryOfKey knd)).eraseIdx j=_;simp [List.eraseIdx_eq_take_drop_succ,List.map_take,List.map_drop]
  .intro x hx
   exact knd.keeps (his x (List.mem_filter.mp hx).1) ho hd (Heap.SameBut.update ..)
  .exact hn.sublist (List.filter_sublist.map _)
end
section
variable{X:Cx}{pins:List (Addr×Obj)}{σ:L2.St}{H:Hp}{s:Shared}{a b:Addr}{kvs:List (List Key×V)}{k:List Key}
noncomputable def d5(kvs:List (List Key×V))(k:List Key):List (List Key×V):=kvs.filter λx => !decide (x.1=k)
theorem KT.drop{xs:List (List Key×Addr×Value)}(r:KT H kvs xs)(k:List Key):KT H (d5 kvs k) (xs.filter λx => !decide (x.1=k)):=by
 induction r with
 | nil=>exact .nil
 | @cons p q ps qs hq t ih =>
  unfold d5;by_cases e:p.1=k
  .rw [List.filter_cons_of_neg (by simp [e]),List.filter_cons_of_neg (by rw [<-hq.1];simp [e])]
   exact ih
  .rw [List.filter_cons_of_pos (by simp [e]),List.filter_cons_of_pos (by rw [<-hq.1];simp [e])]
   exact .cons hq ih
theorem KT.keys{xs:List (List Key×Addr×Value)}(r:KT H kvs xs):kvs.map (·.1)=xs.map (·.1):=by
 induction r with
 | nil=>rfl
 | cons hq t ih=>rw [List.map_cons,List.map_cons,hq.1,ih]
theorem CV{Q:Unit->Shared->Prop}{E:Value->Shared->Prop}(hu:X.A.units+1 < cLine)(I:Inv X pins σ H s)(e:H a=some (.dT kvs))(eb:H b=some (.tup (k.map kV)))(l:k∈kvs.map (·.1))(h:∀ s',Inv X pins σ (upd H a (.dT (d5 kvs k))) s'->Q () s'):
  wpAny (model X.prog X.w) X.A (delItem (.ref a) (.ref b)) Q E s:=by
 obtain ⟨z,hd,xs,rel,dd⟩:=kf I.hok e;refine wpAny_delItem_slot dd.typeIs (by decide) PySem.F.slot_dict_delitem (wpAny_call_entry PySem.F.slot_dict_delitem dd.typeIs PySem.F.entry_dict_delitem ?_ (PySem.F.args_dict_delitem_2 _ _))
 unfold Builtin.«dict.__delitem__»;refine ZB ?_;unfold Builtin.Dict.dictSlotArgs;refine ZB (wpAny_notOrdered_dict dd.typeIs ?_);show wpAny _ _ (pure (Value.ref a,Value.ref b)) _ _ s;refine ZP ?_;show wpAny _ _ (Builtin.Dict.takeOut a (.ref b) >>= _) _ _ s;refine ZB (ua (tupleKind_room_in1 hu) (df I.hok eb) dd (by rw [<-KT.keys rel];exact l) (by rw [<-Paired.length rel];exact z) λe' h' dd' hs => ?_)
 refine ZB (wpAny_letGo (ZP ⟨.none,rfl,h _ ?_⟩));obtain ⟨q,es,ep,hq,h2,h3,h4,_,h5⟩:=dd';refine gK I (by rw [e];exact True.intro) hs ⟨q,hq⟩ ⟨Gy (List.length_filter_le _ _) z,hd,_,(KT.drop rel k).keeps λc ys ec => ?_,q,es,ep,hq,h2,h3,h4,h5⟩
 rw [ar (dj ec e (λz=>nomatch z))];exact ec
theorem xQ{o i:Expr}{td ty:TE}{tpos pos:Pos}(hu:X.A.units+1 < cLine)(ho:PE X o td)(hi:PE X i ty):PS X (.Delete [.Subscript o i tpos] pos) (λD σ H=>td σ H λx H1=>ty σ H1 λy H2 => ∃ a b kvs k,x=.ref a/\y=.ref b/\H2 a=some (.dT kvs)/\H2 b=some (.tup (k.map kV))/\k∈kvs.map (·.1)/\D.nx σ (upd H2 a (.dT (d5 kvs k)))):=by
 intro pins s σ H D I h;refine wpAny_Delete (wpAny_deleteEach_cons (wpAny_delete_Subscript (thn (ho pins s σ H _ I h) λu s1 ⟨x,H1,I1,rx,q1⟩=>thn (hi pins s1 σ H1 _ I1 q1) λiv s2 ⟨y,H2,I2,ry,a,b,kvs,k,ex,ey,e,eb,l,q2⟩ => ?_)));subst ex ey;obtain rfl:u=Value.ref a:=rx;obtain rfl:iv=Value.ref b:=ry;exact CV hu I2 e eb l λs3 I3=>wpAny_deleteEach_nil ⟨σ,_,I3,q2⟩
end
theorem RD.drop{K:GJ}{ρ:List Addr}{H:Hp}{k:List Int}:∀ {kvs:List (List Int×U)} {ws:List (List Key×V)},RD K ρ H kvs ws->RD K ρ H (fJ kvs k) (d5 ws (k.map Sum.inl))
 | [],ws,h=>by cases h;rfl
 | (j,u) :: r,ws,⟨v,t,e,h1,h2⟩=>by
  subst e;unfold fJ d5;by_cases e:j=k
  .rw [List.filter_cons_of_neg (by simp [e]),List.filter_cons_of_neg (by simp [e])]
   exact RD.drop h2
  .rw [List.filter_cons_of_pos (by simp [e]),List.filter_cons_of_pos (by simp;exact λz=>e (cz.mp z))]
   exact ⟨v,_,rfl,h1,RD.drop h2⟩
section
variable{X:Cx}{W:XQ}{r:L}{o i:Expr}{o' i':E}{pos tpos:Pos}
theorem Au(hu:X.A.units+1 < cLine)(ho:PE X o (tE X.K W (r.ev o')))(hi:PE X i (tE X.K W (r.ev i'))):PS X (.Delete [.Subscript o i tpos] pos) (tSt X.K W (s1F r (.del o' i'))):=by
 refine (xQ hu ho hi).imp λD σ H ⟨σu,ρ,g,hs,hg,p⟩ => ?_;refine ⟨σu,ρ,g,hs,hg,(postS.bind (R:=RV X.K) p).mono λx H1 ⟨ρ1,u,g1,s1,h1,rx,p1⟩ => ?_⟩;refine ⟨σu,ρ1,g1,hs.step s1,h1,(postS.bind (R:=RV X.K) p1).mono λy H2 ⟨ρ2,v,g2,s2,h2,ry,p2⟩ => ?_⟩;cases u with
 | ref n =>
  unfold b7 at p2;cases eg:g2[n]? with
  | none=>simp only [eg] at p2;exact p2.elim
  | some ob =>
   cases ob with
   | dic kvs =>
    simp only [eg] at p2;cases ek:keyOf v with
    | none=>simp only [ek] at p2;exact p2.elim
    | some k =>
     simp only [ek] at p2;by_cases hk:k∈kvs.map (·.1)
     .rw [if_pos hk] at p2
      obtain ⟨q,ws,hn,ha,rd⟩:=h2.dic eg;obtain ⟨q',rfl,hn'⟩:=RV.step s2 _ _ rx;rw [hn] at hn';cases hn';obtain ⟨b,rfl,hb⟩:=fk ek ry;refine ⟨q,b,ws,k.map Sum.inl,rfl,rfl,ha,hb,?_,p2 _ ρ2 _ (Stp.writeO hn ha trivial) (h2.writeO hn ha trivial ⟨_,rfl,RD.drop rd⟩) (((hs.step s1).step s2).step (Stp.writeO hn ha trivial))⟩;rw [hX rd];obtain ⟨kv,h1,h2⟩:=List.mem_map.mp hk;exact List.mem_map.mpr ⟨kv,h1,by rw [h2]⟩
     .rw [if_neg hk] at p2;exact p2.elim
   | lst _=>simp only [eg] at p2;exact p2.elim
   | dif _=>simp only [eg] at p2;exact p2.elim
   | dst _=>simp only [eg] at p2;exact p2.elim
   | ins _ _=>simp only [eg] at p2;exact p2.elim
 | _=>exact p2.elim
end
section
variable{T:Tab}{fns:List Fn}{fu d:Nat}{X:Cx}{sc:Scope}{N:List Str}
theorem mf{e:Expr}{t:Option Expr}{l:Nat}{env:Env}(h:dG e=false):swapsWith e t l env=pure false:=by
 cases e <;> first | rfl | cases h
theorem tW{e t:Expr}{l:Nat}{env:Env}(h:dG e=false):swapsWithSole [t] e l env=pure false:=by
 cases e <;> first | rfl | cases h
theorem t5{e:Expr}{ts:List Expr}{k:Nat}{p:Pos}{l:Nat}{env:Env}:swapsWithSole [.Tuple ts k p] e l env=pure false:=by
 cases e <;> rfl
theorem dJ{f:Stmt->Option S}(ih:∀ s s',f s=some s' -> ∀ n,PS X s (tSt X.K W0 (s1F (lev (aa fns fu d) n) s'))):∀ {ss:List Stmt} {ss':List S},ae (ss.map f)=some ss' -> ∀ n,PSs X ss (tSt X.K W0 ((lev (aa fns fu d) n).ex ss'))
 | [],_,h=>λn=>by
  cases h;cases n with
  | zero=>exact PSs.bad λ_ _=>rfl
  | succ n=>exact B9 (r:=lev (aa fns fu d) n)
 | s :: ss,ss',h=>λn=>by
  rw [List.map_cons] at h;cases ea:f s with
  | none=>rw [ea] at h;cases h
  | some s' =>
   rw [ea] at h;simp only [ae] at h;cases er:ae (ss.map f) with
   | none=>rw [er] at h;cases h
   | some r' =>
    rw [er] at h;cases h;cases n with
    | zero=>exact PSs.bad λ_ _=>rfl
    | succ n=>exact zc (ih s s' ea n) (dJ ih er n)
theorem uy{o i:Expr}{spos:Pos}{env:Env}(h:eY i=false)(v:Value):assign (.Subscript o i spos) env v=(do
   let ov <- holding [v] (eval o env)
   let iv <- holding [v,ov] (eval i env)
   standAt spos
   holding [v,ov,iv] (setItem ov iv v)
   release [v,ov,iv] []):=by
 cases i <;> first | rfl | cases h
section
variable{cE:Expr->Option E}
end
theorem vg(ok:XOk T fns d X sc N)(hk:X.env.blockKind=.function)(hfn:∀ x,X.fn x=true){m:Nat}{x:Str}{px:Pos}{e:Expr}{pos:Pos}{st':S}(h:qz sc N (aB T sc N m) x px e=some st')(n:Nat):PS X (.Assign [.Name x px] e pos) (tSt X.K W0 (s1F (lev (aa fns fu d) n) st')):=by
 refine qI h λhc h=>qB h λi hi h=>qM h λe' he e => ?_;subst e;obtain ⟨h1,h2,h3⟩:=wc hi;have plain:dG e=false->PS X (.Assign [.Name x px] e pos) (tSt X.K W0 (s1F (lev (aa fns fu d) n) (.set (.nm i) e'))):=λhc=>Cz ok.ndX (by rw [ok.hN];exact h1) (ok.locX h2) (.inl (hfn _)) ((bz m ok _ _ he).1 n) (mf hc)
 cases e with
 | ListComp elt gs scope p=>cases gs with
  | nil=>cases hc
  | cons g rest =>
   have hsw:k5 sc x px scope p=true:=hc;cases m with
   | zero=>cases he
   | succ m =>
    obtain ⟨t,it',cs,rest',elt',frI,rfl,Sc,ha,hpi,hfold,inner⟩:=ui ok he;unfold k5 at hsw;rw [Bool.and_eq_true,Bool.and_eq_true,beq_iff_eq,beq_iff_eq] at hsw;obtain ⟨⟨q1,q2⟩,q3⟩:=hsw;have hloc:X.env.scope.names.lookup x=some .local:=by rw [ok.hsc];exact q1
    have hkd:X.env.kindOf x=some .local:=hloc;cases n with
    | zero=>exact PS.bad λ_ _=>rfl
    | succ n =>
     refine ux ok.calm Sc ha (hpi n) hfold inner ok.ndX (by rw [ok.hN];exact h1) hloc ?_
     show (pure (X.env.blockKind == .function && X.env.kindOf x == some .local && px.line == p.line && !(scope.names.any λ(n,k)=>n == x && (k == .local || k == .cell))):Sem Bool)=pure true;rw [hk,hkd,q2,q3];simp
 | _=>exact plain (bM hc)
theorem uz(ok:XOk T fns d X sc N)(hk:X.env.blockKind=.function)(hfn:∀ x,X.fn x=true){m:Nat}{t e:Expr}{pos:Pos}{st':S}(h:pG T sc N (aB T sc N m) t e=some st')(n:Nat):PS X (.Assign [t] e pos) (tSt X.K W0 (s1F (lev (aa fns fu d) n) st')):=by
 have ihE:=bz (fu:=fu) m ok;cases t with
 | Name x px=>exact vg ok hk hfn h n
 | Tuple ts k p =>
  cases hc:hZ e with
  | true =>
   have h:(match hZ e with | true=>none | false=>(b4 true sc N (.Tuple ts k p)).bind λt=>(aB T sc N m e).map (S.set t))=some st':=h
   rw [hc] at h;exact qN h
  | false =>
   have h:(match hZ e with | true=>none | false=>(b4 true sc N (.Tuple ts k p)).bind λt=>(aB T sc N m e).map (S.set t))=some st':=h
   rw [hc] at h;refine qB h λt ht h=>qM h λe' he e1 => ?_;subst e1;refine CP ((ihE _ _ he).1 n) (jn ok (λ_=>hfn) ht) t5 ?_ rfl;revert hc;cases e <;> first | exact λ_=>rfl | exact λh2=>nomatch h2
 | Subscript o i p =>
  refine qI h λhc h=>qB h λo' ho h=>qB h λi' hi h=>qM h λe' he e => ?_;subst e;rw [Bool.and_eq_true] at hc;exact BM (by have:=ok.units;omega) ((ihE _ _ he).1 n) ((ihE _ _ ho).1 n) ((ihE _ _ hi).1 n) (tW (bM hc.2)) rfl (uy (bM hc.1))
 | _=>exact qN h
theorem nX(ok:XOk T fns d X sc N)(hk:X.env.blockKind=.function)(hfn:∀ x,X.fn x=true):∀ m st st',cI T sc N m st=some st' -> ∀ n,PS X st (tSt X.K W0 (s1F (lev (aa fns fu d) n) st'))
 | 0,_,_,h=>by cases h
 | m+1,st,st',h=>λn=>by
  have ih:=nX ok hk hfn m;have ihE:=bz (fu:=fu) m ok;cases st with
  | Return o p=>cases o with
   | none=>exact qN h
   | some e=>exact qM h λa' ha e=>by subst e;exact Cd ((ihE _ _ ha).1 n)
  | Assign ts e p=>cases ts with
   | nil=>exact qN h
   | cons t r =>
    refine qI h λhr h => ?_;cases cu hr;exact uz ok hk hfn h n
  | Expr e p=>exact qI h λhc h=>qM h λa' ha e=>by subst e;exact Cv ((ihE _ _ ha).1 n) (mf (bM hc))
  | If c a b p=>exact qB h λc' hc h=>qB h λa' ha h=>qM h λb' hb e=>by subst e;exact DZ ((ihE _ _ hc).2.1 n) (dJ ih ha n) (dJ ih hb n)
  | While c b o p =>
   refine qI h λhr h=>qB h λc' hc h=>qM h λb' hb e => ?_;subst e;cases cu hr;exact Bf ok.own (λn=>(ihE _ _ hc).2.1 n) (λn=>dJ ih hb n)
  | For tg it b o p =>
   refine qI h λhr h=>qB h λt ht h=>qB h λit' hi h=>qM h λb' hb e => ?_;subst e;cases cu hr;exact AD ok.own ok.calm ((nF ok ihE hi).1 n) (jn ok (λ_=>hfn) ht) (λn=>dJ ih hb n) (nF (fu:=fu) ok ihE hi).2
  | Raise a b p=>cases h;exact PS.bad λ_ _=>rfl
  | Delete ts p=>cases ts with
   | nil=>exact qN h
   | cons t r =>
    refine qI h λhr h => ?_;cases cu hr;cases t with
    | Subscript o i tp=>exact qB h λo' ho h=>qM h λi' hi e=>by subst e;exact Au (by have:=ok.units;omega) ((ihE _ _ ho).1 n) ((ihE _ _ hi).1 n)
    | _=>exact qN h
  | _=>exact qN h
end
set_option genInjectivity false in
structure FI where
 x:Str
 st:Stmt
 N:List Str
 ps:List Str
 cm:Option (Str×Str)
structure FunD(K:GJ)(x qual:Str)(st:Stmt)(f:Addr)(fd:FuncData):Prop where
 ex:∃ (oc:Value) (od:Option Addr) (dV kV doc pm:Value) (an:Option Addr) (cdv ct:Value) (osl:Array (Option Value)),
  fd=PySem.W.fnOf x qual (eW st) (eV st) (bT st) dV kV doc pm an cdv ct/\K.lookup f=some ⟨oc,od,.func fd,osl⟩/\PySem.W.codeIn K cdv qual=true
 kp:PySem.W.keepIn K (.ref f)=true
noncomputable def FI.nm(fi:FI):Str:=match fi.cm with | none=>fi.x | some c=>c.2
noncomputable def FI.tn(fi:FI):Str:=if fi.cm.isSome then "__debug__" else fi.x
noncomputable def FAt(K:GJ)(mg:Str->Option Value)(fi:FI)(f:Addr):Prop:=match fi.cm with
 | none=>mg fi.x=some (.ref f)
 | some _=>False
structure FOk(T:Tab)(K:GJ)(mg:Str->Option Value)(fi:FI)(F:Fn):Prop where
 sc:FnScope fi.N fi.ps (bT fi.st)
 np:F.np=fi.ps.length
 ns:F.ns=fi.N.length
 body:∃ m,ae ((eV fi.st).map (cI T (bT fi.st) fi.N m))=some F.body
 obj:∃ f fd,FAt K mg fi f/\FunD K fi.nm fi.x fi.st f fd/\Binds K fd fi.ps []
noncomputable def AllOk(T:Tab)(K:GJ)(mg:Str->Option Value):List FI->List Fn->Prop
 | [],[]=>True
 | fi :: r,F :: s=>FOk T K mg fi F/\AllOk T K mg r s
 | _,_=>False
section
variable{T:Tab}{K:GJ}{mg:Str->Option Value}{P:Program}{w:World}{base:Heap}
theorem AllOk.get:∀ {fis:List FI} {fns:List Fn} {i:Nat} {fi:FI},AllOk T K mg fis fns->fis[i]? = some fi -> ∃ F,fns[i]? = some F/\FOk T K mg fi F
 | [],_,_,_,_,e=>by simp at e
 | _ :: _,[],_,_,h,_=>False.elim h
 | _ :: _,F :: _,0,_,h,e=>by simp at e;subst e;exact ⟨F,rfl,h.1⟩
 | _ :: r,_ :: s,i+1,fi,h,e=>by
  obtain ⟨F,e1,e2⟩:=AllOk.get (i:=i) (fi:=fi) h.2 (by simpa using e)
  exact ⟨F,by simpa using e1,e2⟩
structure PgOk(T:Tab)(K:GJ)(mg:Str->Option Value)(fis:List FI)(fns:List Fn):Prop where
 names:T.fns=fis.map FI.tn
 all:AllOk T K mg fis fns
 cs:∀ x u,T.cs.lookup x=some u -> ∃ v val,mg x=some val/\RelV v val /\ ∀ ρ H,RV K ρ H u v
 bt:∀ x∈T.bt,mg x=none
theorem wF{ρ:List Addr}{H:Hp}{us:List U}{vs:List V}{N:List Str}{n:Nat}(hn:n=N.length)(h:RVs K ρ H us vs)(hl:us.length<=N.length):RS K ρ H (us.map some++List.replicate (n - us.length) none) (L2.start N vs) where
 len:=by unfold L2.start;simp [h.length,hn]
 val:=λi u e=>by
  subst hn;unfold L2.start;by_cases hi:i < us.length
  .rw [List.getElem?_append_left (by simpa using hi),List.getElem?_map] at e
   rw [List.getElem?_append_left (by rw [List.length_map,<-h.length];exact hi),List.getElem?_map]
   cases eu:us[i]? with
   | none=>rw [eu] at e;cases e
   | some w =>
    rw [eu] at e;cases e;obtain ⟨v,e1,e2⟩:=h.get eu;exact ⟨v,by rw [e1];rfl,e2⟩
  .rw [List.getElem?_append_right (by simpa using hi),List.getElem?_replicate] at e
   split at e <;> cases e
theorem zD{env:Env}(h:env.scope.kind=.function):env.blockKind=.function:=by
 unfold Env.blockKind;rw [h]
 rfl
theorem yO{W:XQ}{o:Out Fl}{ρ:List Addr}{H:Hp}{Q:VK}(p:post K W (RV K) (o.bind λf g=>match f with | .rt u => .ok u g | .nx _ => .ok .non g | _ => .bad) ρ H Q):postS K W o ρ H { nx:=λ_ H'=>Q .non H',rt:=Q }:=by
 revert p;cases o with
 | ok fl g1 =>
  cases fl with
  | nx σ1=>exact λp σ ρ' H' s h hs=>p .non ρ' H' s h rfl
  | rt u=>exact λp=>p
  | bk σ1=>exact λp=>p.elim
  | ct σ1=>exact λp=>p.elim
 | exc c fs g1=>exact λp=>p
 | bad=>exact λp=>p
theorem qR{fis:List FI}{fns:List Fn}(G:PgOk T K mg fis fns):∀ (d i:Nat) (fi:FI),fis[i]? = some fi -> ∀ f fd,FunD K fi.nm fi.x fi.st f fd->FnOk P w K mg base CX0 (2*d+2) f fd fi.ps (spI K fns d i fi.ps.length)
 | 0,i,fi,_,f,fd,_=>⟨λvs H Q E ⟨_,ρ,g,us,_,_,_,p⟩=>p.elim,λA outer s H args us vs Q E _ _ _ _ ⟨_,ρ,g,us,_,_,_,p⟩=>p.elim⟩
 | d+1,i,fi,hi,f,fd,F=>by
  obtain ⟨Fi,ei,O⟩:=G.all.get hi;obtain ⟨m,hb⟩:=O.body;have callee:∀ j fj,fis[j]? = some fj -> ∃ f fd,FAt K mg fj f/\PySem.W.keepIn K (.ref f)=true/\Binds K fd fj.ps []/\FnOk P w K mg base CX0 (2*d+2) f fd fj.ps (spI K fns d j fj.ps.length) /\ ∀ F,fns[j]? = some F->F.np=fj.ps.length:=λj fj ej=>by
   obtain ⟨Fj,ej',Oj⟩:=G.all.get ej;obtain ⟨f',fd',m1,m2,m3⟩:=Oj.obj;exact ⟨f',fd',m1,m2.kp,m3,qR G d j fj ej f' fd' m2,λF' e=>by rw [ej'] at e;cases e;exact Oj.np⟩
  obtain ⟨oc,od,dV,kV,doc,pm,an,cdv,ct,osl,rfl,lk,hcd⟩:=F.ex;refine Fw (k:=2*d+3) lk hcd O.sc (λvs H Q E ⟨_,ρ,g,us,_,rs,hl,_⟩=>by rw [<-rs.length];exact hl) λA outer s H vs Q E hr h => ?_
  have ok:XOk T fns d (eB CX0 P w K mg base fi.N fi.x (bT fi.st) f cdv A outer s H E).nox (bT fi.st) fi.N:=by
   refine ⟨λj x hx hdb => ?_,G.cs,G.bt,hr,rfl,rfl,O.sc.nd,rfl,rfl⟩
   .rw [G.names,List.getElem?_map] at hx
    cases ej:fis[j]? with
    | none=>rw [ej] at hx;cases hx
    | some fj =>
     rw [ej] at hx;have hx:fj.tn=x:=by simpa using hx
     unfold FI.tn at hx;obtain ⟨f',fd',m1,m2,m3,m5,m6⟩:=callee j fj ej;cases hc:fj.cm with
     | some c=>rw [hc] at hx;subst hx;cases hdb
     | none =>
      rw [hc] at hx;have hx:fj.x=x:=hx;subst hx;have m1':mg fj.x=some (.ref f'):=by unfold FAt at m1;rw [hc] at m1;exact m1
      exact ⟨f',fd',fj.ps,m1',m2,m3,m5,m6⟩
  obtain ⟨fu,ρ,g,us,hg,rs,hl,p⟩:=h;refine ⟨tSt K W0 ((lev (aa fns fu d) fu).ex Fi.body),PSs.nox (dJ (nX ok (zD O.sc.kind) (λ_=>rfl) m) hb fu),?_⟩;simp only [aa,ei,dz] at p;rw [if_pos (by rw [hl,O.np])] at p
  have hpl:fi.ps.length<=fi.N.length:=by have:=congrArg List.length O.sc.pre;rw [List.length_take] at this;omega
  exact ⟨_,ρ,g,wF O.ns rs (by omega),hg,yO p⟩
theorem Ap{H:Hp}{a:Addr}{xs:List V}(hO:iK H)(h:SqL K H a xs):SqF K H a xs:=by
 rcases h with (h | h) | h
 .rcases hO a with z | ⟨o,ys,z⟩
  .rw [h] at z;cases z
  .rw [h] at z;cases z
 .exact .inl h
 .exact .inr h
theorem oN{ρ:List Addr}{H:Hp}:∀ ns:List Int,RVs K ρ H (ns.map U.int) (ns.map V.int)
 | []=>rfl
 | n :: ns=>⟨.int n,ns.map V.int,rfl,rfl,oN ns⟩
theorem Ci{fns:List Fn}{d i:Nat}{H:Hp}{a:Addr}{ns:List Int}{E:XK}(hO:iK H)(hS:SqL K H a (ns.map V.int)){fu:Nat}{g':G}(h:aa fns fu d i [.fro (ns.map U.int)] []=.ok (.bl true) g'):
  spI K fns d i 1 [.ref a] H (λv _=>v=.bl true) E:=by
 refine ⟨fu,[],[],[.fro (ns.map U.int)],⟨rfl,λi j a e=>by simp at e,λn a o e=>by simp at e⟩,⟨_,_,rfl,⟨a,_,rfl,Ap hO hS,oN ns⟩,rfl⟩,rfl,?_⟩
 rw [h];exact λv ρ' H' _ _ r=>r
end
open PySem PySem.Spec PyProof.Rows L2 PySem.W
theorem nV{α β:Type}{f g:α->Option β}:∀ {l:List α},(∀ x∈l,f x=g x)->l.filterMap f=l.filterMap g
 | [],_=>rfl
 | a :: l,h=>by rw [List.filterMap_cons,List.filterMap_cons,h a (.head _),nV λx hx=>h x (.tail _ hx)]
theorem uL{α:Type}:∀ {ps:List Str} {us:List α},ps.Nodup->us.length=ps.length->(ps.filterMap λn=>((ps.zip us).lookup n).map (n,·))=ps.zip us:=by
 intro ps
 induction ps with
 | nil=>intro us _ _;cases us <;> rfl
 | cons p ps ih =>
  intro us nd hl;cases us with
  | nil=>simp at hl
  | cons u us =>
   have hp:p ∉ ps:=(List.nodup_cons.mp nd).1;rw [List.filterMap_cons];simp only [List.zip_cons_cons,List.lookup_cons,beq_self_eq_true,Option.map_some];congr 1;refine (nV λx hx => ?_).trans (ih (List.nodup_cons.mp nd).2 (by simpa using hl))
   have:(x == p)=false:=by
    rw [beq_eq_false_iff_ne];rintro rfl;exact hp hx
   simp only [this]
theorem qi{α:Type}:∀ {ps:List Str} {us:List α},us.length=ps.length -> ∀ x∈ps,((ps.zip us).lookup x).isNone=false
 | [],_,_,x,hx=>by simp at hx
 | p :: ps,[],hl,_,_=>by simp at hl
 | p :: ps,u :: us,hl,x,hx=>by
  simp only [List.zip_cons_cons,List.lookup_cons];cases e:x == p with
  | true=>rfl
  | false =>
   rcases List.mem_cons.mp hx with rfl | h
   .simp at e
   .exact qi (by simpa using hl) x h
theorem uN{fd:FuncData}{ps:List Str}{us:List Value}(h1:fd.params.posonlyargs=[])(h2:fd.params.args.map (·.arg)=ps)(h3:fd.params.vararg=none)(h4:fd.params.kwonlyargs=[])(h5:fd.params.kwarg=none)
  (h6:fd.defaults=.none) (nd:ps.Nodup) (hl:us.length=ps.length):bindArgs fd ⟨us,[]⟩=pure (ps.zip us):=by
 unfold bindArgs;have e:(List.filter (λn=>((ps.zip us).lookup n).isNone) ps)=[]:=by
  rw [List.filter_eq_nil_iff];intro x hx;rw [qi hl x hx];decide
 have e2:=uL nd hl;have hs:seqItems? Value.none=pure none:=rfl;have hg : ¬ us.length > ps.length:=by omega
 simp only [h1,h2,h3,h4,h5,h6,List.map_nil,List.nil_append,List.append_nil,List.forIn_nil,pure_bind,hs,Option.getD_none,List.length_nil,Nat.zero_sub,List.drop_nil,Nat.sub_zero,List.take_length,e,List.drop_length,List.zip_nil_right,List.isEmpty_nil,Bool.not_true,Bool.false_eq_true,if_false,decide_eq_false hg,Bool.false_and,e2]
theorem pf{b:Addr}{o:Obj}:∀ {l:List Obj} {n:Nat},(d0 n l).lookup b=some o->n<=b/\l[b - n]? = some o/\o.data ≠ .freed
 | [],_,e=>by cases e
 | x :: l,n,e=>by
  have rest:(d0 (n+1) l).lookup b=some o->n<=b/\(x :: l)[b - n]? = some o/\o.data ≠ .freed:=λe=>by
   obtain ⟨h1,h2,h3⟩:=pf e;obtain ⟨k,rfl⟩:=Nat.exists_eq_add_of_le h1;rw [Nat.add_sub_cancel_left] at h2;refine ⟨Gy (Nat.le_succ n) h1,?_,h3⟩;rw [show n+1+k - n=k+1 by omega,List.getElem?_cons_succ]
   exact h2
  unfold d0 at e;split at e
  .exact rest e
  .rename_i hf
   rw [List.lookup_cons] at e;split at e
   .rename_i z
    cases e;have:=eq_of_beq z;subst this;exact ⟨GA _,by rw [Nat.sub_self];rfl,hf⟩
   .exact rest e
theorem yk(h:Heap):(a9 h).In h:=λb o e=>by
 obtain ⟨_,h2,h3⟩:=pf e;rw [Nat.sub_zero,Array.getElem?_toList] at h2;unfold Heap.get?;rw [h2];split
 .rename_i q;cases q;exact absurd rfl h3
 .rfl
theorem wu{N ps:List Str}{sc:Scope}(h:jz N ps sc=true):FnScope N ps sc:=by
 simp only [jz,Bool.and_eq_true,Bool.not_eq_true',decide_eq_true_eq,List.all_eq_true,Bool.or_eq_true] at h;obtain ⟨⟨⟨⟨⟨⟨a,b⟩,c⟩,d⟩,e⟩,f⟩,g⟩:=h;exact ⟨a,b,c,d,e,f,g⟩
noncomputable def dw(fd:FuncData)(b:List Stmt):Stmt := .FunctionDef fd.name fd.params b [] none [] fd.scope none fd.name ⟨0,0,0,0⟩
theorem yI{v:Value}(h:tD v=true):v=.none:=by cases v <;> first | rfl | cases h
noncomputable def vOf:U->V
 | .int i => .int i
 | .bl b => .bl b
 | .str s => .str s
 | _ => .non
theorem qP{K:Frag}{u:U}{val:Value}(h:iC u val=true):RelV (vOf u) val /\ ∀ ρ H,RV K ρ H u (vOf u):=by
 unfold iC at h;split at h
 .cases GI h;exact ⟨⟨_,rfl⟩,λ_ _=>rfl⟩
 .exact ⟨rfl,λ_ _=>rfl⟩
 .cases eq_of_beq h;exact ⟨rfl,λ_ _=>rfl⟩
 .cases GI h;exact ⟨⟨_,rfl⟩,λ_ _=>rfl⟩
 .cases h
theorem qh{K:Frag}:∀ {us:List U} {vals:List Value},iy us vals=true->Vals (us.map vOf) vals /\ ∀ ρ H,RVs K ρ H us (us.map vOf)
 | [],[],_=>⟨.nil,λ_ _=>rfl⟩
 | [],_ :: _,h=>by cases h
 | _ :: _,[],h=>by cases h
 | u :: us,v :: vs,h=>by
  rw [iy,Bool.and_eq_true] at h;obtain ⟨a,b⟩:=qP (K:=K) h.1;obtain ⟨c,d⟩:=qh (K:=K) h.2;exact ⟨.cons a c,λρ H=>⟨_,_,rfl,b ρ H,d ρ H⟩⟩
theorem x6{K:Frag}{u:U}{val:Value}(h:tupU K u val=true):∃ v,RelV v val /\ ∀ ρ H,RV K ρ H u v:=by
 unfold tupU at h;split at h
 .split at h
  .rename_i od its n sl ho
   rw [Bool.and_eq_true,decide_eq_true_eq] at h;obtain ⟨c1,c2⟩:=qh (K:=K) h.2;exact ⟨.ref _,rfl,λρ H=>⟨_,_,rfl,⟨_,its,n,ho,rfl,rfl,Gy h.1 (by decide),c1⟩,c2 ρ H⟩⟩
  .cases h
 .cases h
theorem y7{K:Frag}{u:U}{val:Value}(e:kB K u val=true):∃ v,RelV v val /\ ∀ ρ H,RV K ρ H u v:=by
 unfold kB at e;rw [Bool.or_eq_true] at e;rcases e with e | e
 .obtain ⟨a,b⟩:=qP (K:=K) e;exact ⟨_,a,b⟩
 .exact x6 e
theorem ET{K:Frag}{h:Heap}{mg:Str->Option Value}{x:Str}{u:U}(X:K.In h)(G:h.Ns mainGlobals mg)(e:csB K (x,u)=true):∃ v val,mg x=some val/\RelV v val /\ ∀ ρ H,RV K ρ H u v:=by
 unfold csB at e;split at e
 .rename_i val hv
  have hm:mg x=some val:=mg_of X G hv;obtain ⟨v,a,b⟩:=y7 e;exact ⟨v,val,hm,a,b⟩
 .cases e
noncomputable def dO(T:Tab)(K:Frag)(i:Inf):Option Fn:=mkF T (i,cQ K i)
theorem wk{T:Tab}{i:Inf}{o:Option (Scope×List Stmt)}{F:Fn}(h:mkF T (i,o)=some F):∃ r,o=some r/\(ae (r.2.map (cI T r.1 i.N 60))).map (λb'=>(⟨i.ps.length,i.N.length,b'⟩:Fn))=some F:=by
 cases o with
 | none=>cases h
 | some r=>exact ⟨r,rfl,h⟩
theorem qS{K:Frag}{h:Heap}{mg:Str->Option Value}(X:K.In h)(G:h.Ns mainGlobals mg){i:Inf}{fi:FI}{a:Addr}(hx:fi.x=i.x)(hc:fi.cm=i.cm)(e:kT K i=some a):FAt K mg fi a:=by
 unfold FAt;rw [hc,hx];unfold kT at e;split at e
 .rename_i h0
  try rw [h0]
  split at e
  .rename_i h1;cases e;exact mg_of X G h1
  .cases e
 .cases e
noncomputable def Plain(K:Frag)(mg:Str->Option Value)(i:Inf)(fi:FI):Prop :=
 i.cm=none -> ∀ f fd,mg fi.x=some (.ref f)->FunD K fi.nm fi.x fi.st f fd -> ∀ us:List Value,us.length=i.ps.length->bindArgs fd ⟨us,[]⟩=pure (i.ps.zip us)
theorem yw{T:Tab}{K:Frag}{i:Inf}{F:Fn}{h:Heap}{mg:Str->Option Value}(X:K.In h)(G:h.Ns mainGlobals mg)(e:dO T K i=some F):
  ∃ fi:FI,fi.x=i.x/\fi.ps=i.ps/\fi.cm=i.cm /\
  FOk T K mg fi F/\Plain K mg i fi:=by
 unfold dO at e;obtain ⟨r,hr,e⟩:=wk e;unfold cQ at hr;split at hr
 .rename_i a h1
  split at hr
  .rename_i oc od fd sl h2
   split at hr
   .rename_i b hb
    split at hr
    .rename_i hc
     cases hr;simp only [Bool.and_eq_true] at hc;obtain ⟨⟨⟨⟨c1,c2⟩,c3⟩,c4⟩,c5⟩:=hc;have sc:=wu c2;simp only [sj,Bool.and_eq_true,decide_eq_true_eq,beq_iff_eq,List.isEmpty_iff] at c1;obtain ⟨⟨⟨⟨d1,d2⟩,d3⟩,d4⟩,d6⟩:=c1;obtain ⟨b',hb',rfl⟩:=Option.map_eq_some_iff.mp e;have hps:i.ps.Nodup:=by rw [<-sc.pre];exact sc.nd.sublist (List.take_sublist _ _)
     have hfd:fd=fnOf i.nm i.x (eW (dw fd b)) (eV (dw fd b)) (bT (dw fd b)) fd.defaults fd.kwdefaults fd.doc fd.pyModule fd.annotations fd.code fd.closureTuple:=by
      obtain ⟨n,q,pa,bo,scp,gl,cl,de,kw,dc,pm,an,cd,ct,bu⟩:=fd;simp only [dw,eW,eV,bT] at *;subst d1;subst d2;subst d3;subst d4;subst d6;subst hb
      rfl
     have hpl:∀ us:List Value,us.length=i.ps.length->bindArgs fd ⟨us,[]⟩=pure (i.ps.zip us):=λus hl=>by
      unfold tQ at c3;simp only [sg,Bool.and_eq_true,decide_eq_true_eq,List.isEmpty_iff,Option.isNone_iff_eq_none] at c3;obtain ⟨⟨⟨⟨⟨p1,p2⟩,p3⟩,p4⟩,p5⟩,p6⟩:=c3;exact uN p1 p2 p3 p4 p5 (yI p6) hps hl
     have hnm:(⟨i.x,dw fd b,i.N,i.ps,i.cm⟩:FI).nm=i.nm:=rfl;refine ⟨⟨i.x,dw fd b,i.N,i.ps,i.cm⟩,rfl,rfl,rfl,⟨sc,rfl,rfl,⟨60,hb'⟩,a,fd,qS X G rfl rfl h1,⟨⟨oc,od,fd.defaults,fd.kwdefaults,fd.doc,fd.pyModule,fd.annotations,fd.code,fd.closureTuple,sl,by rw [hnm];exact hfd,h2,c4⟩,c5⟩,.all λus hl=>hpl us hl⟩,λhcm f fd' hf hF us hl => ?_⟩
     have hat:FAt K mg ⟨i.x,dw fd b,i.N,i.ps,i.cm⟩ a:=qS X G rfl rfl h1;unfold FAt at hat;dsimp only at hat;rw [hcm] at hat;have hf:mg i.x=some (.ref f):=hf;rw [show mg i.x=some (.ref a) from hat] at hf;cases hf;obtain ⟨oc',od',dV,kV,doc,pm,an,cdv,ct,osl,_,lk,_⟩:=hF.ex;rw [h2] at lk;cases lk;exact hpl us hl
    .cases hr
   .cases hr
  .cases hr
 .cases hr
noncomputable def Inf.tn(i:Inf):Str:=if i.cm.isSome then "__debug__" else i.x
noncomputable def allFrom(T:Tab)(K:Frag)(is:List Inf):Option (List Fn):=if T.bt.all (λx=>(nsIn K mainGlobals x).any Option.isNone) && T.cs.all (csB K) then ae (is.map (dO T K)) else none
theorem oS{T:Tab}{K:Frag}{h:Heap}{mg:Str->Option Value}(X:K.In h)(G:h.Ns mainGlobals mg):∀ {is:List Inf} {fns:List Fn},ae (is.map (dO T K))=some fns ->
  ∃ fis:List FI,fis.map FI.tn=is.map Inf.tn/\AllOk T K mg fis fns /\ ∀ (j:Nat) (i:Inf),is[j]? = some i -> ∃ fi,fis[j]? = some fi/\fi.x=i.x/\fi.ps=i.ps/\fi.cm=i.cm /\
   Plain K mg i fi
 | [],fns,e=>by cases e;exact ⟨[],rfl,trivial,λj i h=>by simp at h⟩
 | i :: is,fns,e=>by
  rw [List.map_cons] at e;cases q:dO T K i with
  | none=>rw [q] at e;cases e
  | some F =>
   rw [q] at e;obtain ⟨r,e',rfl⟩:=Option.map_eq_some_iff.mp e;obtain ⟨fis,a,b,c⟩:=oS X G e';obtain ⟨fi,f1,f2,f3,f5,f6⟩:=yw X G q;refine ⟨fi :: fis,by simp [a,FI.tn,Inf.tn,f1,f3],⟨f5,b⟩,λj k h => ?_⟩
   cases j with
   | zero=>simp at h;subst h;exact ⟨fi,rfl,f1,f2,f3,f6⟩
   | succ j=>exact c j k (by simpa using h)
noncomputable def rg(T:Tab)(is:List Inf)(fns:List Fn)(h:Heap):Prop := ∃ K:Frag,K.In h/\allFrom T K is=some fns
theorem vC{T:Tab}{is:List Inf}{fns:List Fn}{h:Heap}{mg:Str->Option Value}{K:Frag}(hn:T.fns=is.map Inf.tn)(X:K.In h)(e:allFrom T K is=some fns)(G:h.Ns mainGlobals mg):
  ∃ fis:List FI,PgOk T K mg fis fns /\ ∀ (j:Nat) (i:Inf),is[j]? = some i -> ∃ fi,fis[j]? = some fi/\fi.x=i.x/\fi.ps=i.ps/\fi.cm=i.cm /\
   Plain K mg i fi:=by
 unfold allFrom at e;split at e
 .rename_i hb
  simp only [Bool.and_eq_true] at hb;obtain ⟨hb,hcs⟩:=hb;obtain ⟨fis,a,b,c⟩:=oS X G e;refine ⟨fis,⟨hn.trans a.symm,b,λx u h=>ET X G (List.all_eq_true.mp hcs (x,u) (mem_of_lookup h)),λx hx => ?_⟩,c⟩
  .have:=List.all_eq_true.mp hb x hx
   cases q:nsIn K mainGlobals x with
   | none=>rw [q] at this;cases this
   | some v =>
    cases v with
    | some v=>rw [q] at this;cases this
    | none=>exact mg_none_of X G q
 .cases e
theorem EG{l:OpenLaw}{q:Program}{loose:List Str}{XP:(Str->Option Value)->Heap->Prop}{dr:DefRec}{T:Tab}{is:List Inf}{fns:List Fn}{d i:Nat}{N:List Str}{x:Str}
  (hn:l.most=some 63) (hdf:dr.params.defaults=[]) (hr:Room (2*d+2) callerA) (hnm:T.fns=is.map Inf.tn) (hi:is[i]? = some ⟨dr.name,N,[x],none⟩)
  (hrun:∀ ns:List Int,ns.length<=63 -> ∃ fu g',aa fns fu d i [.fro (ns.map U.int)] []=.ok (.bl true) g') :
  WalkO q loose XP (λ_ h=>rg T is fns h) l.row.toRowW dr [] (λf vs=>PySem.call f vs):=by
 refine Att.attach_call hn hdf λw s₀ s₁ mg mb fa o pm cd doc a vs ns G Y ho hd hcd hmg hobj hints hlen hg => ?_;obtain ⟨K,KX,hK⟩:=Y;obtain ⟨fis,PG,hf⟩:=vC hnm KX hK G.T.g;obtain ⟨fi,e1,e2,e3,e5,e4⟩:=hf i _ hi;obtain ⟨Fi,ei,O⟩:=PG.all.get e1;obtain ⟨f,fd,m1,m2,m3⟩:=O.obj;unfold FAt at m1;rw [e5] at m1;have m1':mg fi.x=some (.ref f):=m1;have m1:=m1';rw [e2,hmg] at m1;cases m1;refine wH (CX:=CX0) (k:=2*d+2) (x:=x) (fd:=fd) (sp:=spI K fns d i 1) KX G.T.g G.T.b G.T.builtins G.T.nolimit hg hobj hints (Gy hlen (by decide)) hr (λbase kb nb => ?_) (λs u => ?_) (λH hO hS => ?_) λH e s' z=>z
 .have:=qR (P:=l.prog) (w:=w) (base:=base) PG d i fi e1 fa fd m2
  rw [e3] at this;exact this
 .exact .of_eq (e4 rfl fa fd m1' m2 [u] rfl)
 .obtain ⟨fu,g',e⟩:=hrun ns hlen
  exact Ci hO hS e
open PySem PySem.Spec PyProof.Rows L2 PySem.W PySem.Calls
noncomputable section
theorem xY(p:Program)(w:World)(N:Nat):openEnds treeTable p w N=endsF p w N:=by
 unfold openEnds fencedOpening topFrom endsF sv;rw [Fast.te10274390034422433532,Fast.te14364793385576792824,Fast.te1435165496053646825,Fast.te14289696077712309145,Fast.te14082659384304107361]
 rfl
noncomputable def cf(p:Program):DefRec:=match p.main.body.getD (p.main.body.length - 1) (.Pass ⟨0,0,0,0⟩) with
 | .FunctionDef n a b _ _ _ sc _ _ ps=>⟨n,a,b,sc,ps⟩
 | _=>⟨"",eW (.Pass ⟨0,0,0,0⟩),[],bT (.Pass ⟨0,0,0,0⟩),⟨0,0,0,0⟩⟩
theorem Ac{α β γ:Type}{o:Option α}{f:α->β}{g:α->γ}{a:β}{b:γ}(h:o.map (λs=>(f s,g s))=some (a,b)):o.map f=some a:=by
 cases o with
 | none=>cases h
 | some s=>cases h;rfl
theorem Bl{α β γ:Type}{o:Option α}{f:α->β}{g:α->γ}{a:β}{b:γ}(h:o.map (λs=>(f s,g s))=some (a,b)):o.map g=some b:=by
 cases o with
 | none=>cases h
 | some s=>cases h;rfl
theorem pB{α β:Type}{f:α->Option β}:∀ {l m:List α} {a b:List β},ae (l.map f)=some a->ae (m.map f)=some b->ae ((l++m).map f)=some (a++b)
 | [],m,a,b,h1,h2=>by cases h1;exact h2
 | x :: l,m,a,b,h1,h2=>by
  rw [List.map_cons] at h1;rw [List.cons_append,List.map_cons];cases hx:f x with
  | none=>rw [hx] at h1;cases h1
  | some y =>
   rw [hx] at h1;cases hl:ae (l.map f) with
   | none=>simp only [ae,hl] at h1;cases h1
   | some ys =>
    have ih:=pB hl h2;simp only [ae,hl] at h1;simp only [ae,ih];cases h1
    rfl
theorem i3{α β:Type}{f:α->Option β}{l:List α}{m:List β}{k c:Nat}(h1:ae ((l.take k).map f)=some (m.take k))(h2:ae (((l.drop k).take c).map f)=some ((m.drop k).take c)):ae ((l.take (k+c)).map f)=some (m.take (k+c)):=by
 rw [List.take_add,List.take_add];exact pB h1 h2
theorem vV{o:Option Shared}{is:List Inf}{rs:List (Option (Scope×List Stmt))}{k c:Nat}(h1:o.map (λs=>(is.take k).map (cQ (a9 s.heap)))=some (rs.take k))(h2:o.map (λs=>((is.drop k).take c).map (cQ (a9 s.heap)))=some ((rs.drop k).take c)):o.map (λs=>(is.take (k+c)).map (cQ (a9 s.heap)))=some (rs.take (k+c)):=by
 cases o with
 | none=>cases h1
 | some s =>
  simp only [Option.map_some,Option.some.injEq] at h1 h2 ⊢;rw [List.take_add,List.take_add,List.map_append,h1,h2]
theorem BG{β:Type}{o:Option Shared}{f:Shared->β}{b:β}{T:Tab}{is:List Inf}{rs:List (Option (Scope×List Stmt))}{fns:List Fn}{k:Nat}(ha:o.map (λs=>kZ T (a9 s.heap) is)=some true)(hg:o.map f=some b)
  (hr:o.map (λs=>(is.take k).map (cQ (a9 s.heap)))=some (rs.take k)) (h:ae (((is.zip rs).take k).map (mkF T))=some (fns.take k)) (h1:is.length<=k) (h2:fns.length<=k) (h3:rs.length<=k):o.map (λs=>(f s,allFrom T (a9 s.heap) is))=some (b,some fns):=by
 rw [List.take_of_length_le (Gy (List.length_zip ▸ Nat.min_le_left _ _) h1),List.take_of_length_le h2] at h;rw [List.take_of_length_le h1,List.take_of_length_le h3] at hr;cases o with
 | none=>cases ha
 | some s =>
  simp only [Option.map_some,Option.some.injEq,Prod.mk.injEq] at ha hg hr ⊢;refine ⟨hg,?_⟩;unfold allFrom;unfold kZ at ha;rw [if_pos ha,<-h];congr 1;rw [<-hr];generalize is=l
  induction l with
  | nil=>rfl
  | cons i l ih=>rw [List.map_cons,List.map_cons,List.zip_cons_cons,List.map_cons,ih,dO]
theorem zz{l:OpenLaw}{T:Tab}{is:List Inf}{fns:List Fn}{loose N0:List Str}{d i N:Nat}{x:Str}
  (said:Fast.tw9446332074065402090 l=true)
  (hl:∀ w,(endsF l.prog w N).map (λs=>(Fast.tw4187177175401517315 (lastOf l.prog) loose (importedModules l.prog.main.body) (λ_=>true) true s,allFrom T (a9 s.heap) is))=some (openGood (lastOf l.prog) loose,some fns))
  (h1:defOf (lastOf l.prog) l.name=some (cf l.prog,[])) (h2:l.prog.theDef l.name=some ((cf l.prog).params,(cf l.prog).body,(cf l.prog).scope)) (h3:kwWritten? (cf l.prog).params.kwonlyargs (cf l.prog).params.kw_defaults=some [])
  (h4:(cf l.prog).params.defaults=[])
  (ok:(chainsOk (lastOf l.prog) && opensWell l.prog && (frees l.row.toRowW && l.row.within.isEmpty))=true) (hb:l.prog.bare) (hw:l.row.toRowW.promised)
  (hn:l.most=some 63) (hr:Room (2*d+2) callerA) (hnm:T.fns=is.map Inf.tn) (hi:is[i]? = some ⟨(cf l.prog).name,N0,[x],none⟩)
  (hrun:∀ ns:List Int,ns.length<=63 -> ∃ fu g',aa fns fu d i [.fro (ns.map U.int)] []=.ok (.bl true) g'):l.Holds:=by
 have sd:l.wellSaid=true:=by rw [Fast.te9446332074065402090];exact said
 refine holds_law sd λsaid' => ?_;refine holds_open (r:=l.row) (q:=lastOf l.prog) (loose:=loose) (Xt:=λ_=>true) (XP:=λ_ _=>True) (Yf:=λs=>allFrom T (a9 s.heap) is) (Ya:=λ_=>some fns) (YP:=λ_ h=>rg T is fns h) (N:=N) (d:=cf l.prog) (kwd:=[]) ?_
  (λw s e=>⟨a9 s.heap,yk _,e⟩) (λw h h' ⟨K,k1,k2⟩ hk=>⟨K,k1.keeps hk,k2⟩) (λ_ _=>trivial) (λ_ _ _ _ _=>trivial) h1 h2 h3 (λs _=>recFacts_nil rfl) (by simp [OpenLaw.row]) said' ok hb hw (EG hn h4 hr hnm hi hrun)
 intro w;have:=hl w;rw [<-xY,<-Fast.te4187177175401517315] at this;exact this
end
end
end PI
section
namespace Lk20
open PI
end Lk20
namespace Lk20
noncomputable section
open PySem PI L2
end
end Lk20
open PySem PySem.W PyProof.Rows
set_option maxRecDepth 100000 in
set_option maxHeartbeats 0 in
theorem Lk20.all(w:World):(PI.endsF PySem.Challenge.rw_braemantle_k20_whole_least_and_greatest.prog w 20000).map (λs=>(Fast.tw4187177175401517315 (PI.lastOf PySem.Challenge.rw_braemantle_k20_whole_least_and_greatest.prog) Lk20.loose (PySem.importedModules PySem.Challenge.rw_braemantle_k20_whole_least_and_greatest.prog.main.body) (λ_=>true) true s,PI.allFrom Lk20.T (PI.a9 s.heap) Lk20.cg))=some (openGood (PI.lastOf PySem.Challenge.rw_braemantle_k20_whole_least_and_greatest.prog) Lk20.loose,some Lk20.fns):=PI.BG (k:=35) (PI.Bl (Lk20.chk0 w)) (PI.Ac (Lk20.chk0 w)) (PI.vV (k:=26) (c:=9) (Lk20.chk1 w) (Lk20.chk2 w)) (PI.i3 (k:=34) (c:=1) (PI.i3 (k:=24) (c:=10) (PI.i3 (k:=16) (c:=8) (Lk20.part0) Lk20.part1) Lk20.part2) Lk20.part3) (by decide) (by decide) (by decide)
end
namespace PI
noncomputable section
section
variable{α:Type}{P:List α->Prop}
end
noncomputable def Out.le{α:Type}(o o':Out α):Prop:=o=.bad\/o=o'
theorem Out.le.rfl{α:Type}{o:Out α}:o.le o := .inr (Eq.refl _)
theorem Out.le.bot{α:Type}{o:Out α}:(Out.bad:Out α).le o := .inl (Eq.refl _)
theorem Out.le.trans{α:Type}{a b c:Out α}(h:a.le b)(k:b.le c):a.le c:=by
 rcases h with rfl | rfl
 .exact .bot
 .exact k
theorem aE{α β:Type}{o o':Out α}{k k':α->G->Out β}(h:o.le o')(hk:∀ a g,(k a g).le (k' a g)):(o.bind k).le (o'.bind k'):=by
 rcases h with rfl | rfl
 .exact .bot
 .cases o with
  | ok a g=>exact hk a g
  | exc c fs g=>exact .rfl
  | bad=>exact .bot
theorem cj{α β:Type}{o o':Out α}{k k':α->G->Out β}(h:o.le o')(hk:∀ a g,(k a g).le (k' a g)):(o.bindB k).le (o'.bindB k'):=by
 rcases h with rfl | rfl
 .exact .bot
 .cases o with
  | ok a g=>exact hk a g
  | exc c fs g=>exact .rfl
  | bad=>exact .bot
theorem c9{α:Type}{o o':Out α}(h:o.le o'):o.noex.le o'.noex:=by
 rcases h with rfl | rfl
 .exact .bot
 .exact .rfl
theorem yB{o o':Out U}{j c:Nat}{xs:List (Option U)}{σ:Su}(h:o.le o'):(kX o j c xs σ).le (kX o' j c xs σ):=by
 rcases h with rfl | rfl
 .exact .bot
 .exact .rfl
noncomputable abbrev CC:=Nat->List U->G->Out U
structure L.le(r r':L):Prop where
 ev:∀ e σ g,(r.ev e σ g).le (r'.ev e σ g)
 ts:∀ e σ g,(r.ts e σ g).le (r'.ts e σ g)
 ex:∀ e σ g,(r.ex e σ g).le (r'.ex e σ g)
 wh:∀ e b σ g,(r.wh e b σ g).le (r'.wh e b σ g)
 fr:∀ t it i b σ g,(r.fr t it i b σ g).le (r'.fr t it i b σ g)
 cm:∀ it i t cs rest elt acc σ g,(r.cm it i t cs rest elt acc σ g).le (r'.cm it i t cs rest elt acc σ g)
section
variable{C C':CC}{r r':L}
theorem bA{f f':E->Su->G->Out U}(h:∀ e σ g,(f e σ g).le (f' e σ g)):∀ es σ g,(evs f es σ g).le (evs f' es σ g)
 | [],_,_ => .rfl
 | e :: es,σ,g=>aE (h e σ g) λ_ _=>aE (bA h es _ _) λ_ _ => .rfl
theorem qX{f f':E->Su->G->Out U}(h:∀ e σ g,(f e σ g).le (f' e σ g)):∀ e σ g,(evo f e σ g).le (evo f' e σ g)
 | none,_,_ => .rfl
 | some e,σ,g=>aE (h e σ g) λ_ _ => .rfl
theorem gJ{f f':E->Su->G->Out Bool}(h:∀ e σ g,(f e σ g).le (f' e σ g)):∀ es σ g,(aI f es σ g).le (aI f' es σ g)
 | [],_,_ => .rfl
 | e :: es,σ,g=>aE (h e σ g) λk _=>by
  cases k
  .exact .rfl
  .exact gJ h es _ _
local macro_rules | `(tactic| sleep 8) => `(tactic| (repeat (first | exact Out.le.rfl | exact Out.le.bot | assumption | apply L.le.ev | apply L.le.ts | apply L.le.ex | apply L.le.wh | apply L.le.fr | apply L.le.cm | apply bA | apply qX | apply gJ | apply aE | apply cj | intro _ | split)))
theorem dY(h:r.le r')(e:E)(σ:Su)(g:G):(itF r e σ g).le (itF r' e σ g):=by
 unfold itF;split <;> sleep 8
theorem jR(hC:∀ f us g,(C f us g).le (C' f us g))(h:r.le r')(e:E)(σ:Su)(g:G):(evF C r e σ g).le (evF C' r' e σ g):=by
 cases e with
 | call f es=>exact aE (bA h.ev _ _ _) λus g=>hC f us g
 | callx f es=>exact aE (c9 (bA h.ev _ _ _)) λus g=>hC f us g
 | callk f es ks pm =>
  refine aE (c9 (bA h.ev _ _ _)) λus g=>aE (c9 (bA h.ev _ _ _)) λws g => ?_;split
  .exact hC _ _ _
  .exact .rfl
 | make c f es ks pm =>
  refine aE (bA h.ev _ _ _) λus g=>aE (bA h.ev _ _ _) λws g => ?_;split
  .exact aE (hC _ _ _) λu g => .rfl
  .exact .rfl
 | meth a j tb es ks =>
  refine aE (h.ev _ _ _) λx g => ?_;split
  .refine aE (bA h.ev _ _ _) λus g=>aE (bA h.ev _ _ _) λws g => ?_
   split
   .exact hC _ _ _
   .exact .rfl
  .exact .rfl
 | comp own fr gs elt =>
  cases gs with
  | nil=>exact .rfl
  | cons t rest =>
   obtain ⟨t,it,cs⟩:=t;exact aE (dY h _ _ _) λi g=>cj (h.cm _ _ _ _ _ _ _ _ _) λ_ _ => .rfl
 | dcmp own fr gs k v =>
  cases gs with
  | nil=>exact .rfl
  | cons t rest =>
   obtain ⟨t,it,cs⟩:=t;exact aE (dY h _ _ _) λi g=>cj (h.cm _ _ _ _ _ _ _ _ _) λ_ _ => .rfl
 | dgt o k x =>
  refine aE (h.ev _ _ _) λx g => ?_;split
  .exact aE (h.ev _ _ _) λ_ g=>aE (h.ev _ _ _) λ_ g => .rfl
  .exact .rfl
 | _=>simp only [evF];sleep 8
theorem jM(h:r.le r')(e:E)(σ:Su)(g:G):(tsF r e σ g).le (tsF r' e σ g):=by
 unfold tsF;split <;> sleep 8
theorem qJ(h:r.le r')(s:S)(σ:Su)(g:G):(s1F r s σ g).le (s1F r' s σ g):=by
 cases s with
 | «for» t it b=>exact aE (dY h _ _ _) λi g=>h.fr _ _ _ _ _ _
 | nox b=>exact c9 (h.ex _ _ _)
 | ifx c a b=>exact aE (c9 (h.ts _ _ _)) λk g=>by cases k <;> exact h.ex _ _ _
 | forx t it b=>exact aE (c9 (dY h _ _ _)) λi g=>h.fr _ _ _ _ _ _
 | raise c es=>exact aE (c9 (bA h.ev _ _ _)) λus g => .rfl
 | tryf j f es c xs=>exact yB (h.ev _ _ _)
 | _=>simp only [s1F];sleep 8
theorem jW(h:r.le r')(ss:List S)(σ:Su)(g:G):(exF r ss σ g).le (exF r' ss σ g):=by
 cases ss with
 | nil=>exact .rfl
 | cons s rest=>exact aE (qJ h _ _ _) λf g=>by cases f <;> sleep 8
theorem jK(h:r.le r')(c:E)(b:List S)(σ:Su)(g:G):(whF r c b σ g).le (whF r' c b σ g):=by
 unfold whF;sleep 8
theorem jS(h:r.le r')(t:Tg)(it:Iter)(i:Nat)(b:List S)(σ:Su)(g:G):(frF r t it i b σ g).le (frF r' t it i b σ g):=by
 unfold frF;sleep 8
theorem jI(h:r.le r')(it:Iter)(i:Nat)(t:Tg)(cs:List E)(rest:List (Tg×E×List E))(elt:E)(acc:List U)(σ:Su)(g:G):(cmF r it i t cs rest elt acc σ g).le (cmF r' it i t cs rest elt acc σ g):=by
 unfold cmF;split
 .sleep 8
 .sleep 8
 .split
  .split
   .sleep 8
   .refine cj (gJ h.ts _ _ _) λk g => ?_
    split
    .cases rest with
     | nil=>exact cj (h.ev _ _ _) λv g=>by sleep 8
     | cons t rest =>
      obtain ⟨t2,it2,cs2⟩:=t;exact cj (dY h _ _ _) λj g=>cj (h.cm _ _ _ _ _ _ _ _ _) λ_ _=>h.cm _ _ _ _ _ _ _ _ _
    .sleep 8
  .sleep 8
theorem a0(hC:∀ f us g,(C f us g).le (C' f us g)):∀ {m n:Nat},m<=n->(lev C m).le (lev C' n)
 | 0,n,_=>⟨λ_ _ _ => .bot,λ_ _ _ => .bot,λ_ _ _ => .bot,λ_ _ _ _ => .bot,λ_ _ _ _ _ _ => .bot,λ_ _ _ _ _ _ _ _ _ => .bot⟩
 | m+1,0,h=>absurd h (by omega)
 | m+1,n+1,h=>by
  have ih:=a0 hC (m:=m) (n:=n) (by omega)
  exact ⟨jR hC ih,jM ih,jW ih,jK ih,jS ih,jI ih⟩
theorem xZ(hC:∀ f us g,(C f us g).le (C' f us g)){m n:Nat}(h:m<=n)(F:Fn)(us:List U)(g:G):(dz m C F us g).le (dz n C' F us g):=by
 unfold dz;split
 .exact aE ((a0 hC h).ex _ _ _) λf g => .rfl
 .exact .rfl
theorem i6{fns:List Fn}{m n:Nat}(h:m<=n):∀ (d f:Nat) (us:List U) (g:G),(aa fns m d f us g).le (aa fns n d f us g)
 | 0,_,_,_ => .rfl
 | d+1,f,us,g=>by
  simp only [aa];split
  .exact xZ (i6 h d) h _ _ _
  .exact .rfl
end
noncomputable abbrev XP:=Nat->List U->G->Prop
noncomputable def holds{α:Type}(o:Out α)(X:XP)(Q:α->G->Prop):Prop:=match o with
 | .ok a g=>Q a g
 | .exc c fs g=>X c fs g
 | .bad=>False
noncomputable def wp{α:Type}(f:Nat->Out α)(X:XP)(Q:α->G->Prop):Prop := ∃ n,holds (f n) X Q
noncomputable def aF{α:Type}(f:Nat->Out α):Prop := ∀ m n,m<=n->(f m).le (f n)
section
variable{α β:Type}{f f':Nat->Out α}{k k':Nat->α->G->Out β}{X:XP}{Q:α->G->Prop}{R:β->G->Prop}
theorem gq{o o':Out α}(h:o.le o')(q:holds o X Q):holds o' X Q:=by
 rcases h with rfl | rfl
 .exact q.elim
 .exact q
theorem iV{o:Out α}{k:α->G->Out β}:holds (o.bind k) X R ↔ holds o X λa g=>holds (k a g) X R:=by cases o <;> exact Iff.rfl
theorem l6{o:Out α}{k:α->G->Out β}:holds (o.bindB k) X R ↔ holds o (λ_ _ _=>False) λa g=>holds (k a g) X R:=by cases o <;> exact Iff.rfl
theorem iU{o:Out α}{Q':α->G->Prop}(h:∀ a g,Q a g->Q' a g)(q:holds o X Q):holds o X Q':=by
 cases o with
 | ok a g=>exact h a g q
 | exc c fs g=>exact q
 | bad=>exact q
theorem wp_mono{Q':α->G->Prop}(q:wp f X Q)(h:∀ a g,Q a g->Q' a g):wp f X Q':=let ⟨n,z⟩:=q;⟨n,iU h z⟩
theorem af{o:Out α}:wp (λ_=>o) X Q ↔ holds o X Q:=⟨λ⟨_,h⟩=>h,λh=>⟨0,h⟩⟩
theorem wp_bind(hf:aF f)(hk:∀ a g,aF λn=>k n a g):wp (λn=>(f n).bind (k n)) X R ↔ wp f X λa g=>wp (λn=>k n a g) X R:=by
 constructor
 .rintro ⟨n,h⟩
  rw [iV] at h;exact ⟨n,iU (λa g q=>⟨n,q⟩) h⟩
 .rintro ⟨n,h⟩
  cases e:f n with
  | ok a g =>
   rw [e] at h;obtain ⟨m,h⟩:=h;refine ⟨max n m,?_⟩;rw [iV];have h1:f (max n m)=.ok a g:=by
    rcases hf n (max n m) (Nat.le_max_left _ _) with z | z
    .rw [e] at z;cases z
    .rw [<-z,e]
   rw [h1];show holds (k (max n m) a g) X R;exact gq (hk a g m (max n m) (Nat.le_max_right _ _)) h
  | exc c fs g=>rw [e] at h;exact ⟨n,by rw [iV,e];exact h⟩
  | bad=>rw [e] at h;exact h.elim
theorem cW(hf:aF f)(hk:∀ a g,aF λn=>k n a g):wp (λn=>(f n).bindB (k n)) X R ↔ wp f (λ_ _ _=>False) λa g=>wp (λn=>k n a g) X R:=by
 constructor
 .rintro ⟨n,h⟩
  rw [l6] at h;exact ⟨n,iU (λa g q=>⟨n,q⟩) h⟩
 .rintro ⟨n,h⟩
  cases e:f n with
  | ok a g =>
   rw [e] at h;obtain ⟨m,h⟩:=h;refine ⟨max n m,?_⟩;rw [l6];have h1:f (max n m)=.ok a g:=by
    rcases hf n (max n m) (Nat.le_max_left _ _) with z | z
    .rw [e] at z;cases z
    .rw [<-z,e]
   rw [h1];show holds (k (max n m) a g) X R;exact gq (hk a g m (max n m) (Nat.le_max_right _ _)) h
  | exc c fs g=>rw [e] at h;exact h.elim
  | bad=>rw [e] at h;exact h.elim
theorem dW(h:∀ n,∃ m,(f n).le (f' m))(h':∀ n,∃ m,(f' n).le (f m)):wp f X Q ↔ wp f' X Q :=
 ⟨λ⟨n,q⟩=>let ⟨m,z⟩:=h n;⟨m,gq z q⟩,λ⟨n,q⟩=>let ⟨m,z⟩:=h' n;⟨m,gq z q⟩⟩
end
section
variable(fns:List Fn)(d:Nat)
noncomputable abbrev cA(n:Nat):CC:=aa fns n d
noncomputable abbrev lv(n:Nat):L:=lev (aa fns n d) n
noncomputable def wpC(f:Nat)(us:List U)(g:G)(X:XP)(Q:U->G->Prop):Prop:=wp (λn=>aa fns n d f us g) X Q
noncomputable def wpE(e:E)(σ:Su)(g:G)(X:XP)(Q:U->G->Prop):Prop:=wp (λn=>(lv fns d n).ev e σ g) X Q
noncomputable def wpT(e:E)(σ:Su)(g:G)(X:XP)(Q:Bool->G->Prop):Prop:=wp (λn=>(lv fns d n).ts e σ g) X Q
noncomputable def aJ(es:List E)(σ:Su)(g:G)(X:XP)(Q:List U->G->Prop):Prop:=wp (λn=>evs (lv fns d n).ev es σ g) X Q
noncomputable def wpO(e:Option E)(σ:Su)(g:G)(X:XP)(Q:Option Int->G->Prop):Prop:=wp (λn=>evo (lv fns d n).ev e σ g) X Q
noncomputable def wpA(es:List E)(σ:Su)(g:G)(X:XP)(Q:Bool->G->Prop):Prop:=wp (λn=>aI (lv fns d n).ts es σ g) X Q
noncomputable def wpI(e:E)(σ:Su)(g:G)(X:XP)(Q:Iter->G->Prop):Prop:=wp (λn=>itF (lv fns d n) e σ g) X Q
noncomputable def wp1(s:S)(σ:Su)(g:G)(X:XP)(Q:Fl->G->Prop):Prop:=wp (λn=>s1F (lv fns d n) s σ g) X Q
noncomputable def wpS(ss:List S)(σ:Su)(g:G)(X:XP)(Q:Fl->G->Prop):Prop:=wp (λn=>(lv fns d n).ex ss σ g) X Q
noncomputable def wpW(c:E)(b:List S)(σ:Su)(g:G)(X:XP)(Q:Fl->G->Prop):Prop:=wp (λn=>(lv fns d n).wh c b σ g) X Q
noncomputable def wpF(t:Tg)(it:Iter)(i:Nat)(b:List S)(σ:Su)(g:G)(X:XP)(Q:Fl->G->Prop):Prop:=wp (λn=>(lv fns d n).fr t it i b σ g) X Q
noncomputable def wpM(it:Iter)(i:Nat)(t:Tg)(cs:List E)(rest:List (Tg×E×List E))(elt:E)(acc:List U)(σ:Su)(g:G)(X:XP)(Q:List U->G->Prop):Prop:=wp (λn=>(lv fns d n).cm it i t cs rest elt acc σ g) X Q
end
section
variable{fns:List Fn}{d:Nat}{X:XP}{σ:Su}{g:G}
theorem cJ{m n:Nat}(h:m<=n)(f:Nat)(us:List U)(g:G):(cA fns d m f us g).le (cA fns d n f us g):=i6 h d f us g
theorem bG{m n:Nat}(h:m<=n):(lv fns d m).le (lv fns d n):=a0 (cJ h) h
theorem mC(f:Nat)(us:List U)(g:G):aF λn=>aa fns n d f us g:=λ_ _ h=>i6 h d f us g
theorem mE(e:E)(σ:Su)(g:G):aF λn=>(lv fns d n).ev e σ g:=λ_ _ h=>(bG h).ev _ _ _
theorem mT(e:E)(σ:Su)(g:G):aF λn=>(lv fns d n).ts e σ g:=λ_ _ h=>(bG h).ts _ _ _
theorem mEs(e:List E)(σ:Su)(g:G):aF λn=>evs (lv fns d n).ev e σ g:=λ_ _ h=>bA (bG h).ev _ _ _
theorem mO(e:Option E)(σ:Su)(g:G):aF λn=>evo (lv fns d n).ev e σ g:=λ_ _ h=>qX (bG h).ev _ _ _
theorem mA(e:List E)(σ:Su)(g:G):aF λn=>aI (lv fns d n).ts e σ g:=λ_ _ h=>gJ (bG h).ts _ _ _
theorem mI(e:E)(σ:Su)(g:G):aF λn=>itF (lv fns d n) e σ g:=λ_ _ h=>dY (bG h) _ _ _
theorem m1(e:S)(σ:Su)(g:G):aF λn=>s1F (lv fns d n) e σ g:=λ_ _ h=>qJ (bG h) _ _ _
theorem mS(e:List S)(σ:Su)(g:G):aF λn=>(lv fns d n).ex e σ g:=λ_ _ h=>(bG h).ex _ _ _
theorem mW(e:E)(b:List S)(σ:Su)(g:G):aF λn=>(lv fns d n).wh e b σ g:=λ_ _ h=>(bG h).wh _ _ _ _
theorem mF(t:Tg)(it:Iter)(i:Nat)(b:List S)(σ:Su)(g:G):aF λn=>(lv fns d n).fr t it i b σ g:=λ_ _ h=>(bG h).fr _ _ _ _ _ _
theorem mM(it:Iter)(i:Nat)(t:Tg)(cs:List E)(rest:List (Tg×E×List E))(elt:E)(acc:List U)(σ:Su)(g:G):aF λn=>(lv fns d n).cm it i t cs rest elt acc σ g:=λ_ _ h=>(bG h).cm _ _ _ _ _ _ _ _ _
theorem mK{α:Type}(o:Out α):aF λ_=>o:=λ_ _ _ => .rfl
theorem mB{α β:Type}{f:Nat->Out α}{k:Nat->α->G->Out β}(h:aF f)(hk:∀ a g,aF λn=>k n a g):aF λn=>(f n).bind (k n):=λm n z=>aE (h m n z) λa g=>hk a g m n z
theorem mBB{α β:Type}{f:Nat->Out α}{k:Nat->α->G->Out β}(h:aF f)(hk:∀ a g,aF λn=>k n a g):aF λn=>(f n).bindB (k n):=λm n z=>cj (h m n z) λa g=>hk a g m n z
theorem aQ{e:E}{Q:U->G->Prop}:wpE fns d e σ g X Q ↔ wp (λn=>evF (cA fns d n) (lv fns d n) e σ g) X Q :=
 dW (λn=>match n with
  | 0=>⟨0,.bot⟩
  | n+1=>⟨n+1,jR (C:=cA fns d (n+1)) (λ_ _ _ => .rfl) (a0 (λ_ _ _ => .rfl) (Nat.le_succ n)) e σ g⟩) λn=>⟨n+1,jR (C:=cA fns d n) (C':=cA fns d (n+1)) (cJ (Nat.le_succ n)) (a0 (cJ (Nat.le_succ n)) (GA n)) e σ g⟩
theorem jT{e:E}{Q:Bool->G->Prop}:wpT fns d e σ g X Q ↔ wp (λn=>tsF (lv fns d n) e σ g) X Q :=
 dW (λn=>match n with
  | 0=>⟨0,.bot⟩
  | n+1=>⟨n+1,jM (a0 (λ_ _ _ => .rfl) (Nat.le_succ n)) e σ g⟩) λn=>⟨n+1,jM (a0 (cJ (Nat.le_succ n)) (GA n)) e σ g⟩
theorem qy{e:List S}{Q:Fl->G->Prop}:wpS fns d e σ g X Q ↔ wp (λn=>exF (lv fns d n) e σ g) X Q :=
 dW (λn=>match n with
  | 0=>⟨0,.bot⟩
  | n+1=>⟨n+1,jW (a0 (λ_ _ _ => .rfl) (Nat.le_succ n)) e σ g⟩) λn=>⟨n+1,jW (a0 (cJ (Nat.le_succ n)) (GA n)) e σ g⟩
theorem Ak{c:E}{b:List S}{Q:Fl->G->Prop}:wpW fns d c b σ g X Q ↔ wp (λn=>whF (lv fns d n) c b σ g) X Q :=
 dW (λn=>match n with
  | 0=>⟨0,.bot⟩
  | n+1=>⟨n+1,jK (a0 (λ_ _ _ => .rfl) (Nat.le_succ n)) c b σ g⟩) λn=>⟨n+1,jK (a0 (cJ (Nat.le_succ n)) (GA n)) c b σ g⟩
theorem BP{t:Tg}{it:Iter}{i:Nat}{b:List S}{Q:Fl->G->Prop}:wpF fns d t it i b σ g X Q ↔ wp (λn=>frF (lv fns d n) t it i b σ g) X Q :=
 dW (λn=>match n with
  | 0=>⟨0,.bot⟩
  | n+1=>⟨n+1,jS (a0 (λ_ _ _ => .rfl) (Nat.le_succ n)) t it i b σ g⟩) λn=>⟨n+1,jS (a0 (cJ (Nat.le_succ n)) (GA n)) t it i b σ g⟩
theorem zI{it:Iter}{i:Nat}{t:Tg}{cs:List E}{rest:List (Tg×E×List E)}{elt:E}{acc:List U}{Q:List U->G->Prop}:wpM fns d it i t cs rest elt acc σ g X Q ↔ wp (λn=>cmF (lv fns d n) it i t cs rest elt acc σ g) X Q :=
 dW (λn=>match n with
  | 0=>⟨0,.bot⟩
  | n+1=>⟨n+1,jI (a0 (λ_ _ _ => .rfl) (Nat.le_succ n)) it i t cs rest elt acc σ g⟩) λn=>⟨n+1,jI (a0 (cJ (Nat.le_succ n)) (GA n)) it i t cs rest elt acc σ g⟩
end
local macro_rules | `(tactic| sleep 9) => `(tactic| (intros; repeat (first | exact mE _ _ _ | exact mT _ _ _ | exact mEs _ _ _ | exact mO _ _ _ | exact mA _ _ _ | exact mI _ _ _ | exact mS _ _ _ | exact mC _ _ _ | exact mW _ _ _ _ | exact mF _ _ _ _ _ _ | exact mM _ _ _ _ _ _ _ _ _ | exact mK _ | apply mB | apply mBB | intro _)))
theorem wp_congr{α:Type}{f:Nat->Out α}{X:XP}{Q Q':α->G->Prop}(h:∀ a g,Q a g ↔ Q' a g):wp f X Q ↔ wp f X Q':=⟨λq=>wp_mono q λa g=>(h a g).1,λq=>wp_mono q λa g=>(h a g).2⟩
section
variable{fns:List Fn}{d:Nat}{X:XP}{σ:Su}{g:G}
theorem eL{α:Type}{o:Option α}{Q:α->G->Prop}:holds (lift o g) X Q ↔ ∃ a,o=some a/\Q a g:=by
 cases o with
 | none=>exact ⟨λh=>h.elim,λ⟨_,e,_⟩=>by cases e⟩
 | some a=>exact ⟨λh=>⟨a,rfl,h⟩,λ⟨b,e,h⟩=>by cases e;exact h⟩
theorem mL{o:Option Bool}{Q:U->G->Prop}:holds (match o with | some c=>Out.ok (U.bl c) g | none => .bad) X Q ↔ ∃ c,o=some c/\Q (.bl c) g:=by
 cases o with
 | none=>exact ⟨λh=>h.elim,λ⟨_,e,_⟩=>by cases e⟩
 | some a=>exact ⟨λh=>⟨a,rfl,h⟩,λ⟨b,e,h⟩=>by cases e;exact h⟩
section
variable{Q:U->G->Prop}
theorem Eu{i:Nat}:wpE fns d (.var i) σ g X Q ↔ ∃ u,σ[i]? = some (some u)/\Q u g:=by
 rw [aQ];simp only [evF,af];cases e:σ[i]? with
 | none=>exact ⟨λh=>h.elim,λ⟨_,e,_⟩=>by cases e⟩
 | some o=>cases o with
  | none=>exact ⟨λh=>h.elim,λ⟨_,e,_⟩=>by cases e⟩
  | some a=>exact ⟨λh=>⟨a,rfl,h⟩,λ⟨b,e,h⟩=>by cases e;exact h⟩
theorem sf{u:U}:wpE fns d (.cst u) σ g X Q ↔ Q u g:=by rw [aQ];simp only [evF,af];rfl
theorem Dm{op:Op}{a b:E}:wpE fns d (.bin op a b) σ g X Q ↔ wpE fns d a σ g X λx g=>wpE fns d b σ g X λy g=>holds (bJ op x y g) X Q:=by
 rw [aQ];simp only [evF];refine (wp_bind (by sleep 9) (by sleep 9)).trans (wp_congr λ_ _ => ?_);refine (wp_bind (by sleep 9) (by sleep 9)).trans (wp_congr λ_ _ => ?_);exact af
theorem Fg{op:Cp}{a b:E}:wpE fns d (.cmp op a b) σ g X Q ↔ wpE fns d a σ g X λx g=>wpE fns d b σ g X λy g => ∃ z,cmp2 op x y g=some z/\Q (.bl z) g:=by
 rw [aQ];simp only [evF];refine (wp_bind (by sleep 9) (by sleep 9)).trans (wp_congr λ_ _ => ?_);refine (wp_bind (by sleep 9) (by sleep 9)).trans (wp_congr λ_ _ => ?_);exact af.trans mL
theorem y4{op op':Cp}{a b c:E}:wpE fns d (.chain op op' a b c) σ g X Q ↔ wpE fns d a σ g X λx g=>wpE fns d b σ g X λy g => ∃ z,cmp2 op x y g=some z/\if z then wpE fns d c σ g X λw g => ∃ z,cmp2 op' y w g=some z/\Q (.bl z) g else Q (.bl false) g:=by
 rw [aQ];simp only [evF];refine (wp_bind (by sleep 9) (by intro x g;refine mB (mE _ _ _) λy g => ?_;generalize cmp2 op x y g=o;cases o with | none=>exact mK _ | some z=>cases z;exact mK _;exact mB (mE _ _ _) λ_ _=>mK _)).trans (wp_congr λx g => ?_)
 refine (wp_bind (by sleep 9) (by intro y g;generalize cmp2 op x y g=o;cases o with | none=>exact mK _ | some z=>cases z;exact mK _;exact mB (mE _ _ _) λ_ _=>mK _)).trans (wp_congr λy g => ?_)
 generalize cmp2 op x y g=o;cases o with
 | none=>exact ⟨λ⟨_,h⟩=>h.elim,λ⟨_,e,_⟩=>by cases e⟩
 | some z =>
  cases z
  .exact ⟨λ⟨_,h⟩=>⟨false,rfl,h⟩,λ⟨z,e,h⟩=>by cases e;exact ⟨0,h⟩⟩
  .refine Iff.trans ((wp_bind (by sleep 9) (by sleep 9)).trans (wp_congr λ_ _=>af.trans mL)) ?_;exact ⟨λh=>⟨true,rfl,h⟩,λ⟨z,e,h⟩=>by cases e;exact h⟩
theorem D6{a b:E}:wpE fns d (.and a b) σ g X Q ↔ wpE fns d a σ g X λx g => ∃ z,x=.bl z/\if z then wpE fns d b σ g X Q else Q (.bl false) g:=by
 rw [aQ];simp only [evF];refine (wp_bind (by sleep 9) (by intro x g;cases x with | bl b=>cases b;exact mK _;exact mE _ _ _ | _=>exact mK _)).trans (wp_congr λx g => ?_)
 split
 .exact ⟨λh=>⟨true,rfl,h⟩,λ⟨z,e,h⟩=>by cases e;exact h⟩
 .simp only [af];exact ⟨λh=>⟨false,rfl,h⟩,λ⟨z,e,h⟩=>by cases e;exact h⟩
 .rename_i h1 h2
  simp only [af];exact ⟨λh=>h.elim,λ⟨z,e,h⟩=>by cases z;exact absurd e h2;exact absurd e h1⟩
theorem Dc{es:List E}:wpE fns d (.tup es) σ g X Q ↔ aJ fns d es σ g X λus g=>us.length<=ab/\Q (.tup us) g:=by
 rw [aQ];simp only [evF];refine (wp_bind (by sleep 9) (by sleep 9)).trans (wp_congr λx g=>af.trans ?_)
 split
 .rename_i h;exact ⟨λq=>⟨h,q⟩,λq=>q.2⟩
 .rename_i h;exact ⟨λq=>q.elim,λq=>h q.1⟩
theorem Fz{es:List E}:wpE fns d (.lst es) σ g X Q ↔ aJ fns d es σ g X λus g=>us.length<=ab/\Q (.ref g.length) (g++[.lst us]):=by
 rw [aQ];simp only [evF];refine (wp_bind (by sleep 9) (by sleep 9)).trans (wp_congr λx g=>af.trans ?_)
 split
 .rename_i h;exact ⟨λq=>⟨h,q⟩,λq=>q.2⟩
 .rename_i h;exact ⟨λq=>q.elim,λq=>h q.1⟩
theorem DH{a b:E}:wpE fns d (.idx a b) σ g X Q ↔ wpE fns d a σ g X λx g=>wpE fns d b σ g X λy g=>match y with | .tup us => ∃ z,(aU (.tup us) x g).bind id=some z/\Q z g | .str k => ∃ z,(asS x g).bind (λkvs=>bR kvs k)=some z/\Q z g | y => ∃ i xs z,y=.int i/\items x g=some xs/\uix xs i=some z/\Q z g:=by
 rw [aQ];simp only [evF];refine (wp_bind (by sleep 9) (by sleep 9)).trans (wp_congr λx g=>(wp_bind (by sleep 9) (by sleep 9)).trans (wp_congr λy g=>af.trans ?_))
 cases y with
 | int i =>
  cases e:items x g with
  | none=>simp only [e];exact ⟨λh=>h.elim,λ⟨_,_,_,_,e,_⟩=>by cases e⟩
  | some xs =>
   simp only [e,eL];exact ⟨λ⟨z,h,q⟩=>⟨i,xs,z,rfl,rfl,h,q⟩,λ⟨i',xs',z,e1,e2,h,q⟩=>by cases e1;cases e2;exact ⟨z,h,q⟩⟩
 | tup us=>simp only [eL]
 | str k=>simp only [eL]
 | _=>exact ⟨λh=>h.elim,λ⟨_,_,_,e,_⟩=>by cases e⟩
theorem Em{a:E}{lo hi:Option E}:wpE fns d (.slc a lo hi) σ g X Q ↔ wpE fns d a σ g X λx g=>wpO fns d lo σ g X λl g=>wpO fns d hi σ g X λh g=>holds (match x with
  | .tup xs => .bad
  | .fro xs=>alloc (.lst (bK xs l h)) g
  | .ref n=>match g[n]? with
   | some (.lst xs)=>alloc (.lst (bK xs l h)) g
   | _ => .bad
  | _ => .bad) X Q:=by
 rw [aQ];simp only [evF];refine (wp_bind (by sleep 9) (by sleep 9)).trans (wp_congr λ_ _ => ?_);refine (wp_bind (by sleep 9) (by sleep 9)).trans (wp_congr λ_ _ => ?_);refine (wp_bind (by sleep 9) (by sleep 9)).trans (wp_congr λ_ _ => ?_);exact af
theorem B0{f:Nat}{es:List E}:wpE fns d (.call f es) σ g X Q ↔ aJ fns d es σ g X λus g=>wpC fns d f us g X Q:=by
 rw [aQ];simp only [evF];exact wp_bind (by sleep 9) (by sleep 9)
theorem Gd{b:Bi}{es:List E}:wpE fns d (.bi b es) σ g X Q ↔ aJ fns d es σ g X λus g=>holds (bi1 b us g) X Q:=by
 rw [aQ];simp only [evF];exact (wp_bind (by sleep 9) (by sleep 9)).trans (wp_congr λx g=>af)
theorem BS:wpE fns d .dnew σ g X Q ↔ Q (.ref g.length) (g++[.dic []]):=by
 rw [aQ];simp only [evF];exact af
theorem optN{α:Type}{o:Option Nat}{f:Nat->Nat->Out α}{Q:α->G->Prop}:wp (λn=>match o with | some k=>f n k | none => .bad) X Q ↔ ∃ k,o=some k/\wp (λn=>f n k) X Q:=by
 cases o with
 | none=>exact ⟨λ⟨_,h⟩=>h.elim,λ⟨_,e,_⟩=>by cases e⟩
 | some a=>exact ⟨λh=>⟨a,rfl,h⟩,λ⟨b,e,h⟩=>by cases e;exact h⟩
theorem mN{α:Type}{o:Option Nat}{f:Nat->Nat->Out α}(h:∀ k,aF λn=>f n k):aF λn=>(match o with | some k=>f n k | none => .bad:Out α):=by
 cases o with
 | none=>exact mK _
 | some k=>exact h k
theorem DF{o v:E}:wpE fns d (.app o v) σ g X Q ↔ wpE fns d o σ g X λx g => ∃ k,asL x g=some k/\wpE fns d v σ g X λy g=>holds (b6 k y g) X Q:=by
 rw [aQ];simp only [evF];refine (wp_bind (by sleep 9) (by intro x g;exact mN λk=>mB (mE _ _ _) λ_ _=>mK _)).trans (wp_congr λx g=>optN.trans (exists_congr λk=>and_congr Iff.rfl ?_))
 refine (wp_bind (by sleep 9) (by sleep 9)).trans (wp_congr λ_ _ => ?_);exact af
theorem FE{o v:E}:wpE fns d (.ext o v) σ g X Q ↔ wpE fns d o σ g X λx g => ∃ k,asL x g=some k/\wpE fns d v σ g X λy g=>holds (cG k y g) X Q:=by
 rw [aQ];simp only [evF];refine (wp_bind (by sleep 9) (by intro x g;exact mN λk=>mB (mE _ _ _) λ_ _=>mK _)).trans (wp_congr λx g=>optN.trans (exists_congr λk=>and_congr Iff.rfl ?_))
 refine (wp_bind (by sleep 9) (by sleep 9)).trans (wp_congr λ_ _ => ?_);exact af
theorem Es{o:E}:wpE fns d (.pop o) σ g X Q ↔ wpE fns d o σ g X λx g => ∃ k,asL x g=some k/\holds (cM k g) X Q:=by
 rw [aQ];simp only [evF];exact (wp_bind (by sleep 9) (by intro x g;exact mN λk=>mK _)).trans (wp_congr λx g=>optN.trans (exists_congr λk=>and_congr Iff.rfl af))
theorem zu{own:Nat}{fr:List Nat}{t:Tg}{it:E}{cs:List E}{rest:List (Tg×E×List E)}{k v:E}:wpE fns d (.dcmp own fr ((t,it,cs) :: rest) k v) σ g X Q ↔
  wpI fns d it σ g X λi g=>wpM fns d i 0 t cs rest (.pair k v) [] (List.replicate own none++fr.map λj=>(σ[j]?).getD none) g (λ_ _ _=>False) λus g => ∃ kvs,dfold us []=some kvs/\Q (.ref g.length) (g++[.dic kvs]):=by
 rw [aQ];simp only [evF];refine (wp_bind (by sleep 9) (by sleep 9)).trans (wp_congr λx g=>(cW (by sleep 9) (by sleep 9)).trans (wp_congr λus g=>af.trans ?_))
 cases dfold us [] with
 | none=>exact ⟨λq=>q.elim,λ⟨_,e,_⟩=>by cases e⟩
 | some kvs=>exact ⟨λq=>⟨kvs,rfl,q⟩,λ⟨_,e,q⟩=>by cases e;exact q⟩
theorem B3{k v:E}:wpE fns d (.pair k v) σ g X Q ↔ wpE fns d k σ g X λx g=>wpE fns d v σ g X λy g => ∃ ks,keyOf x=some ks/\Q (.tup [x,y]) g:=by
 rw [aQ];simp only [evF];refine (wp_bind (by sleep 9) (by sleep 9)).trans (wp_congr λx g=>(wp_bind (by sleep 9) (by sleep 9)).trans (wp_congr λy g=>af.trans ?_))
 cases keyOf x with
 | none=>exact ⟨λq=>q.elim,λ⟨_,e,_⟩=>by cases e⟩
 | some kvs=>exact ⟨λq=>⟨kvs,rfl,q⟩,λ⟨_,e,q⟩=>q⟩
theorem Bg{own:Nat}{fr:List Nat}{t:Tg}{it:E}{cs:List E}{rest:List (Tg×E×List E)}{elt:E}:wpE fns d (.comp own fr ((t,it,cs) :: rest) elt) σ g X Q ↔
  wpI fns d it σ g X λi g=>wpM fns d i 0 t cs rest elt [] (List.replicate own none++fr.map λj=>(σ[j]?).getD none) g (λ_ _ _=>False) λus g=>us.length<=ab/\Q (.ref g.length) (g++[.lst us]):=by
 rw [aQ];simp only [evF];refine (wp_bind (by sleep 9) (by sleep 9)).trans (wp_congr λx g=>(cW (by sleep 9) (by sleep 9)).trans (wp_congr λus g=>af.trans ?_))
 split
 .rename_i h;exact ⟨λq=>⟨h,q⟩,λq=>q.2⟩
 .rename_i h;exact ⟨λq=>q.elim,λq=>h q.1⟩
end
theorem Bd{Q:List U->G->Prop}:aJ fns d [] σ g X Q ↔ Q [] g:=by unfold aJ;simp only [evs,af];rfl
theorem pJ{e:E}{es:List E}{Q:List U->G->Prop}:aJ fns d (e :: es) σ g X Q ↔ wpE fns d e σ g X λu g=>aJ fns d es σ g X λus g=>Q (u :: us) g:=by
 unfold aJ;simp only [evs];refine (wp_bind (by sleep 9) (by sleep 9)).trans (wp_congr λ_ _ => ?_);refine (wp_bind (by sleep 9) (by sleep 9)).trans (wp_congr λ_ _ => ?_);exact af
theorem Cj{Q:Option Int->G->Prop}:wpO fns d none σ g X Q ↔ Q none g:=by unfold wpO;simp only [evo,af];rfl
theorem BV{e:E}{Q:Option Int->G->Prop}:wpO fns d (some e) σ g X Q ↔ wpE fns d e σ g X λu g => ∃ i,u=.int i/\Q (some i) g:=by
 unfold wpO;simp only [evo];refine (wp_bind (by sleep 9) (by sleep 9)).trans (wp_congr λx g=>af.trans ?_)
 cases x with
 | int a=>exact ⟨λh=>⟨a,rfl,h⟩,λ⟨b,e,h⟩=>by cases e;exact h⟩
 | _=>exact ⟨λh=>h.elim,λ⟨_,e,_⟩=>by cases e⟩
section
variable{Q:Bool->G->Prop}
theorem EA{a b:E}:wpT fns d (.and a b) σ g X Q ↔ wpT fns d a σ g X λk g=>if k then wpT fns d b σ g X Q else Q false g:=by
 rw [jT];simp only [tsF];refine (wp_bind (by sleep 9) (by intro k g;cases k;exact mK _;exact mT _ _ _)).trans (wp_congr λx g => ?_)
 cases x
 .exact af
 .exact Iff.rfl
theorem Fm{a:E}:wpT fns d (.not a) σ g X Q ↔ wpT fns d a σ g X λk g=>Q (!k) g:=by
 rw [jT];simp only [tsF];refine (wp_bind (by sleep 9) (by sleep 9)).trans (wp_congr λ_ _ => ?_);exact af
noncomputable def plainT:E->Bool
 | .and _ _=>false | .or _ _=>false | .not _=>false | .ite _ _ _=>false | _=>true
theorem T_e{e:E}(h:plainT e=true):wpT fns d e σ g X Q ↔ wpE fns d e σ g X λx g => ∃ c,tru x g=some c/\Q c g:=by
 rw [jT];have:(λn=>tsF (lv fns d n) e σ g)=λn=>((lv fns d n).ev e σ g).bind λx g=>lift (tru x g) g:=by
  funext n;cases e <;> first | rfl | cases h
 rw [this];refine (wp_bind (by sleep 9) (by sleep 9)).trans (wp_congr λ_ _ => ?_);exact af.trans eL
theorem kh:wpA fns d [] σ g X Q ↔ Q true g:=by unfold wpA;simp only [aI,af];rfl
theorem B8{c:E}{cs:List E}:wpA fns d (c :: cs) σ g X Q ↔ wpT fns d c σ g X λk g=>if k then wpA fns d cs σ g X Q else Q false g:=by
 unfold wpA;simp only [aI];refine (wp_bind (by sleep 9) (by intro k g;cases k;exact mK _;exact mA _ _ _)).trans (wp_congr λx g => ?_)
 cases x
 .exact af
 .exact Iff.rfl
end
section
variable{Q:Iter->G->Prop}
theorem AW{a:E}:wpI fns d (.rng1 a) σ g X Q ↔ wpE fns d a σ g X λu g => ∃ j,u=.int j/\(-1000000 < j/\j < 1000000)/\Q (.rng 0 j.toNat) g:=by
 unfold wpI;simp only [itF];refine (wp_bind (by sleep 9) (by sleep 9)).trans (wp_congr λx g=>af.trans ?_)
 cases x with
 | int a =>
  simp only [];split
  .rename_i h;exact ⟨λq=>⟨a,rfl,h,q⟩,λ⟨b,e,_,q⟩=>by cases e;exact q⟩
  .rename_i h;exact ⟨λq=>q.elim,λ⟨b,e,h',q⟩=>by cases e;exact h h'⟩
 | _=>exact ⟨λh=>h.elim,λ⟨_,e,_⟩=>by cases e⟩
theorem I_e{e:E}(h:ic e=true):wpI fns d e σ g X Q ↔ wpE fns d e σ g X λu g=>holds (match u with
  | .tup xs => .ok (.seq xs) g
  | .xn _ xs => .ok (.seq xs) g
  | .ref n=>match g[n]? with
   | some (.lst _) => .ok (.lst n) g
   | some (.dic kvs) => .ok (.dic n) (g.set n (.dif kvs))
   | some (.dif _) => .ok (.dic n) g
   | _ => .bad
  | _ => .bad) X Q:=by
 unfold wpI;have:(λn=>itF (lv fns d n) e σ g)=λn=>((lv fns d n).ev e σ g).bind λu g=>match u with
  | .tup xs => .ok (.seq xs) g
  | .xn _ xs => .ok (.seq xs) g
  | .ref n=>match g[n]? with
   | some (.lst _) => .ok (.lst n) g
   | some (.dic kvs) => .ok (.dic n) (g.set n (.dif kvs))
   | some (.dif _) => .ok (.dic n) g
   | _ => .bad
  | _ => .bad:=by
  funext n;cases e <;> first | rfl | cases h
 rw [this];refine (wp_bind (by sleep 9) (by sleep 9)).trans (wp_congr λ_ _ => ?_);exact af
end
section
variable{Q:Fl->G->Prop}
theorem DN:wpS fns d [] σ g X Q ↔ Q (.nx σ) g:=by rw [qy];simp only [exF,af];rfl
theorem A9{s:S}{ss:List S}:wpS fns d (s :: ss) σ g X Q ↔ wp1 fns d s σ g X λf g=>match f with | .nx σ'=>wpS fns d ss σ' g X Q | f=>Q f g:=by
 rw [qy];simp only [exF];refine (wp_bind (by exact m1 _ _ _) (by intro f g;cases f;exact mS _ _ _;exact mK _;exact mK _;exact mK _)).trans (wp_congr λx g => ?_)
 cases x <;> first | exact Iff.rfl | exact af
theorem Ej{e:E}:wp1 fns d (.ret e) σ g X Q ↔ wpE fns d e σ g X λu g=>Q (.rt u) g:=by
 unfold wp1;simp only [s1F];exact (wp_bind (by sleep 9) (by sleep 9)).trans (wp_congr λx g=>af)
theorem Ee{t:Tg}{e:E}:wp1 fns d (.set t e) σ g X Q ↔ wpE fns d e σ g X λu g => ∃ σ',ai t (unl t u g) σ=some σ'/\Q (.nx σ') g:=by
 unfold wp1;simp only [s1F];refine (wp_bind (by sleep 9) (by sleep 9)).trans (wp_congr λx g=>af.trans ?_)
 cases ai t (unl t x g) σ with
 | none=>exact ⟨λh=>h.elim,λ⟨_,e,_⟩=>by cases e⟩
 | some a=>exact ⟨λh=>⟨a,rfl,h⟩,λ⟨b,e,h⟩=>by cases e;exact h⟩
theorem CZ{o i e:E}:wp1 fns d (.sub o i e) σ g X Q ↔ wpE fns d e σ g X λu g=>wpE fns d o σ g X λx g=>wpE fns d i σ g X λy g=>holds (subAt x y u σ g) X Q:=by
 unfold wp1;simp only [s1F];refine (wp_bind (by sleep 9) (by sleep 9)).trans (wp_congr λ_ _ => ?_);refine (wp_bind (by sleep 9) (by sleep 9)).trans (wp_congr λ_ _ => ?_);refine (wp_bind (by sleep 9) (by sleep 9)).trans (wp_congr λ_ _ => ?_);exact af
theorem DT{o i:E}:wp1 fns d (.del o i) σ g X Q ↔ wpE fns d o σ g X λx g=>wpE fns d i σ g X λy g=>holds (b7 x y σ g) X Q:=by
 unfold wp1;simp only [s1F];refine (wp_bind (by sleep 9) (by sleep 9)).trans (wp_congr λ_ _ => ?_);refine (wp_bind (by sleep 9) (by sleep 9)).trans (wp_congr λ_ _ => ?_);exact af
theorem Fp{e:E}:wp1 fns d (.exp e) σ g X Q ↔ wpE fns d e σ g X λ_ g=>Q (.nx σ) g:=by
 unfold wp1;simp only [s1F];exact (wp_bind (by sleep 9) (by sleep 9)).trans (wp_congr λx g=>af)
theorem E5{c:E}{a b:List S}:wp1 fns d (.ife c a b) σ g X Q ↔ wpT fns d c σ g X λk g=>if k then wpS fns d a σ g X Q else wpS fns d b σ g X Q:=by
 unfold wp1;simp only [s1F];refine (wp_bind (by sleep 9) (by intro k g;cases k;exact mS _ _ _;exact mS _ _ _)).trans (wp_congr λx g => ?_)
 cases x <;> exact Iff.rfl
theorem E3{t:Tg}{it:E}{b:List S}:wp1 fns d (.for t it b) σ g X Q ↔ wpI fns d it σ g X λi g=>wpF fns d t i 0 b σ g X Q:=by
 unfold wp1;simp only [s1F];exact wp_bind (by sleep 9) (by sleep 9)
theorem Am{c:E}{b:List S}:wpW fns d c b σ g X Q ↔ wpT fns d c σ g X λk g=>if k then wpS fns d b σ g X λf g=>(match f with
  | .nx σ'=>wpW fns d c b σ' g X Q
  | .ct σ'=>wpW fns d c b σ' g X Q
  | .bk σ'=>Q (.nx σ') g
  | .rt u=>Q (.rt u) g) else Q (.nx σ) g:=by
 rw [Ak];simp only [whF];refine (wp_bind (mT _ _ _) λk g=>by cases k;exact mK _;refine mB (mS _ _ _) λf g => ?_;cases f;exact mW _ _ _ _;exact mK _;exact mK _;exact mW _ _ _ _).trans (wp_congr λx g => ?_)
 cases x
 .exact af
 .simp only [if_true]
  refine (wp_bind (by sleep 9) (by intro f g;cases f;exact mW _ _ _ _;exact mK _;exact mK _;exact mW _ _ _ _)).trans (wp_congr λf g => ?_)
  cases f <;> first | exact Iff.rfl | exact af
theorem jZ{t:Tg}{it:Iter}{i:Nat}{b:List S}:wpF fns d t it i b σ g X Q ↔ ∃ o,next it i g=some o/\match o with
  | none=>Q (.nx σ) g
  | some u => ∃ σ1,ai t u σ=some σ1/\wpS fns d b σ1 g X λf g=>match f with
   | .nx σ'=>wpF fns d t it (i+1) b σ' g X Q
   | .ct σ'=>wpF fns d t it (i+1) b σ' g X Q
   | .bk σ'=>Q (.nx σ') g
   | .rt u=>Q (.rt u) g:=by
 rw [BP];simp only [frF];cases next it i g with
 | none=>simp only [af];exact ⟨λh=>h.elim,λ⟨_,e,_⟩=>by cases e⟩
 | some o =>
  cases o with
  | none=>simp only [af];exact ⟨λh=>⟨none,rfl,h⟩,λ⟨o,e,h⟩=>by cases e;exact h⟩
  | some u =>
   simp only [];cases e2:ai t u σ with
   | none=>simp only [af];exact ⟨λh=>h.elim,λ⟨_,e,h⟩=>by cases e;obtain ⟨_,e,_⟩:=h;rw [e2] at e;cases e⟩
   | some σ1 =>
    simp only [];refine (wp_bind (by sleep 9) (by intro f g;cases f;exact mF _ _ _ _ _ _;exact mK _;exact mK _;exact mF _ _ _ _ _ _)).trans ?_
    refine Iff.trans (wp_congr (Q':=λf g=>match f with
       | .nx σ'=>wpF fns d t it (i+1) b σ' g X Q
       | .ct σ'=>wpF fns d t it (i+1) b σ' g X Q
       | .bk σ'=>Q (.nx σ') g
       | .rt u=>Q (.rt u) g) λf g => ?_) ?_
    .cases f <;> first | exact Iff.rfl | exact af
    exact ⟨λh=>⟨some u,rfl,σ1,e2,h⟩,λ⟨o,e,h⟩=>by cases e;obtain ⟨σ2,e,h⟩:=h;rw [e2] at e;cases e;exact h⟩
end
theorem cD{it:Iter}{i:Nat}{t:Tg}{cs:List E}{rest:List (Tg×E×List E)}{elt:E}{acc:List U}{Q:List U->G->Prop}:wpM fns d it i t cs rest elt acc σ g X Q ↔ ∃ o,next it i g=some o/\match o with
  | none=>Q acc g
  | some u=>a8 t σ=true /\ ∃ σ1,ai t u σ=some σ1/\wpA fns d cs σ1 g (λ_ _ _=>False) λk g=>if k then
    match rest with
    | []=>wpE fns d elt σ1 g (λ_ _ _=>False) λv g=>acc.length < ab/\wpM fns d it (i+1) t cs rest elt (acc++[v]) σ g X Q
    | (t2,it2,cs2) :: rest2=>wpI fns d it2 σ1 g (λ_ _ _=>False) λj g=>wpM fns d j 0 t2 cs2 rest2 elt acc σ1 g (λ_ _ _=>False) λacc2 g=>wpM fns d it (i+1) t cs rest elt acc2 σ g X Q
   else wpM fns d it (i+1) t cs rest elt acc σ g X Q:=by
 rw [zI];simp only [cmF];cases next it i g with
 | none=>simp only [af];exact ⟨λh=>h.elim,λ⟨_,e,_⟩=>by cases e⟩
 | some o =>
  cases o with
  | none=>simp only [af];exact ⟨λh=>⟨none,rfl,h⟩,λ⟨o,e,h⟩=>by cases e;exact h⟩
  | some u =>
   simp only [];by_cases hf:a8 t σ=true
   .simp only [hf,if_true]
    cases e2:ai t u σ with
    | none=>simp only [af];exact ⟨λh=>h.elim,λ⟨_,e,h⟩=>by cases e;obtain ⟨_,_,e,_⟩:=h;rw [e2] at e;cases e⟩
    | some σ1 =>
     simp only [];refine Iff.trans ?_ ⟨λh=>⟨some u,rfl,trivial,σ1,e2,h⟩,λ⟨o,e,h⟩=>by cases e;obtain ⟨_,σ2,e,h⟩:=h;rw [e2] at e;cases e;exact h⟩
     cases rest with
     | nil =>
      refine (cW (by sleep 9) (by intro k g;cases k;exact mM _ _ _ _ _ _ _ _ _;refine mBB (mE _ _ _) λv g => ?_;by_cases h:acc.length < ab;simp only [h,if_true];exact mM _ _ _ _ _ _ _ _ _;simp only [h,if_false];exact mK _)).trans (wp_congr λk g => ?_)
      cases k
      .exact Iff.rfl
      .refine Iff.trans (cW (by sleep 9) (by intro v g;by_cases h:acc.length < ab;simp only [h,if_true];exact mM _ _ _ _ _ _ _ _ _;simp only [h,if_false];exact mK _)) (wp_congr λv g => ?_)
       by_cases h:acc.length < ab
       .simp only [h,if_true];exact ⟨λq=>⟨trivial,q⟩,λq=>q.2⟩
       .simp only [h,if_false];exact ⟨λ⟨_,q⟩=>q.elim,λq=>q.1.elim⟩
     | cons t2 rest2 =>
      obtain ⟨t2,it2,cs2⟩:=t2;refine (cW (by sleep 9) (by intro k g;cases k;exact mM _ _ _ _ _ _ _ _ _;exact mBB (mI _ _ _) λ_ _=>mBB (mM _ _ _ _ _ _ _ _ _) λ_ _=>mM _ _ _ _ _ _ _ _ _)).trans (wp_congr λk g => ?_)
      cases k
      .exact Iff.rfl
      .refine Iff.trans (cW (by sleep 9) (by sleep 9)) (wp_congr λj g => ?_)
       exact cW (by sleep 9) (by sleep 9)
   .have hf':a8 t σ=false:=by cases h:a8 t σ;rfl;exact absurd h hf
    simp only [hf'];exact ⟨λ⟨_,h⟩=>h.elim,λ⟨_,e,h⟩=>by cases e;exact absurd h.1 (by simp)⟩
theorem z8{f:Nat}{F:Fn}{us:List U}{Q:U->G->Prop}(hf:fns[f]? = some F)(hl:us.length=F.np):wpC fns (d+1) f us g X Q ↔ wpS fns d F.body (us.map some++List.replicate (F.ns - us.length) none) g X λfl g=>match fl with
  | .rt u=>Q u g
  | .nx _=>Q .non g
  | _=>False:=by
 unfold wpC;simp only [aa,hf,dz,hl,if_true];refine (wp_bind (f:=λn=>(lv fns d n).ex F.body (us.map some++List.replicate (F.ns - F.np) none) g) (mS _ _ _) (by sleep 9)).trans (wp_congr λx g=>af.trans ?_)
 cases x <;> exact Iff.rfl
theorem yS{f:Nat}{us:List U}{Q:U->G->Prop}(h:wpC fns d f us g (λ_ _ _=>False) Q):∃ fu u g',aa fns fu d f us g=.ok u g'/\Q u g':=by
 obtain ⟨n,h⟩:=h;have h:holds (aa fns n d f us g) (λ_ _ _=>False) Q:=h;revert h;cases e:aa fns n d f us g with
 | ok u g'=>exact λh=>⟨n,u,g',e,h⟩
 | exc c fs g=>exact λh=>h.elim
 | bad=>exact λh=>h.elim
end
inductive Lk{α:Sort u}(a:α):Type
 | mk:Lk a
@[reducible] def lk{α:Sort u}(a:α):Lk a := .mk
noncomputable def oh{α:Type}(o:Option α){Q:α->Prop}(_:Lk Q):Prop:=match o with
 | some a=>Q a
 | none=>False
noncomputable def bh(k:Bool){A B:Prop}(_:Lk A)(_:Lk B):Prop:=match k with
 | true=>A
 | false=>B
noncomputable def fS(f:Fl){A:Su->Prop}{B:Fl->Prop}(_:Lk A)(_:Lk B):Prop:=match f with
 | .nx σ=>A σ
 | f=>B f
noncomputable def fL(f:Fl){A:Su->Prop}{B:Fl->Prop}(_:Lk A)(_:Lk B):Prop:=match f with
 | .nx σ=>A σ
 | .ct σ=>A σ
 | .bk σ=>B (.nx σ)
 | .rt u=>B (.rt u)
noncomputable def fC(f:Fl){Q:U->Prop}(_:Lk Q):Prop:=match f with
 | .rt u=>Q u
 | .nx _=>Q .non
 | _=>False
theorem jy{α:Type}{a:α}{Q:α->Prop}:oh (some a) (lk Q)=Q a:=propext Iff.rfl
theorem sG{A B:Prop}:bh true (lk A) (lk B)=A:=propext Iff.rfl
theorem FJ{A B:Prop}:bh false (lk A) (lk B)=B:=propext Iff.rfl
theorem ag{k:Bool}{A B:Prop}(h:k=true->A)(h':k=false->B):bh k (lk A) (lk B):=by cases k;exact h' rfl;exact h rfl
theorem cK{k:Bool}{A B:Prop}:(if k=true then A else B) ↔ bh k (lk A) (lk B):=by cases k <;> simp [bh]
theorem Ei{σ:Su}{A:Su->Prop}{B:Fl->Prop}:fL (.nx σ) (lk A) (lk B)=A σ:=propext Iff.rfl
theorem D9{u:U}{A:Su->Prop}{B:Fl->Prop}:fL (.rt u) (lk A) (lk B)=B (.rt u):=propext Iff.rfl
theorem E7{u:U}{Q:U->Prop}:fC (.rt u) (lk Q)=Q u:=propext Iff.rfl
theorem aO{α:Type}{o:Option α}{Q:α->Prop}:(∃ a,o=some a/\Q a) ↔ oh o (lk Q):=by
 cases o with
 | none=>exact ⟨λ⟨_,e,_⟩=>(by cases e),λh=>h.elim⟩
 | some a=>exact ⟨λ⟨_,e,h⟩=>(by cases e;exact h),λh=>⟨a,rfl,h⟩⟩
noncomputable def hk{α:Type}(o:Out α)(X:XP){Q:α->G->Prop}(_:Lk Q):Prop:=holds o X Q
theorem DU{α:Type}{a:α}{g:G}{X:XP}{Q:α->G->Prop}:hk (.ok a g) X (lk Q)=Q a g:=propext Iff.rfl
section
variable{fns:List Fn}{d:Nat}{X:XP}{σ σ':Su}{g g':G}
noncomputable def kC(fns:List Fn)(d f:Nat)(us:List U)(g:G)(X:XP){Q:U->G->Prop}(_:Lk Q):Prop:=wpC fns d f us g X Q
noncomputable def kM(fns:List Fn)(d:Nat)(it:Iter)(i:Nat)(t:Tg)(cs:List E)(rest:List (Tg×E×List E))(elt:E)(acc:List U)(σ:Su)(g:G)(X:XP){Q:List U->G->Prop}(_:Lk Q):Prop:=wpM fns d it i t cs rest elt acc σ g X Q
noncomputable def kF(fns:List Fn)(d:Nat)(t:Tg)(it:Iter)(i:Nat)(b:List S)(σ:Su)(g:G)(X:XP){Q:Fl->G->Prop}(_:Lk Q):Prop:=wpF fns d t it i b σ g X Q
noncomputable def kW(fns:List Fn)(d:Nat)(c:E)(b:List S)(σ:Su)(g:G)(X:XP){Q:Fl->G->Prop}(_:Lk Q):Prop:=wpW fns d c b σ g X Q
theorem Br{f:Nat}{es:List E}{Q:U->G->Prop}:wpE fns d (.call f es) σ g X Q ↔ aJ fns d es σ g X λus g=>kC fns d f us g X (lk Q):=B0
theorem F7{b:Bi}{es:List E}{Q:U->G->Prop}:wpE fns d (.bi b es) σ g X Q ↔ aJ fns d es σ g X λus g=>hk (bi1 b us g) X (lk Q):=Gd
noncomputable def iD(x:U)(l h:Option Int)(g:G):Out U:=match x with
  | .tup xs => .bad
  | .fro xs=>alloc (.lst (bK xs l h)) g
  | .ref n=>match g[n]? with
   | some (.lst xs)=>alloc (.lst (bK xs l h)) g
   | _ => .bad
  | _ => .bad
theorem DV{a:E}{lo hi:Option E}{Q:U->G->Prop}:wpE fns d (.slc a lo hi) σ g X Q ↔ wpE fns d a σ g X λx g=>wpO fns d lo σ g X λl g=>wpO fns d hi σ g X λh g=>hk (iD x l h g) X (lk Q):=Em
theorem zL{c:E}{b:List S}{Q:Fl->G->Prop}:wp1 fns d (.whl c b) σ g X Q ↔ kW fns d c b σ g X (lk Q):=Iff.rfl
theorem BC{t:Tg}{it:E}{b:List S}{Q:Fl->G->Prop}:wp1 fns d (.for t it b) σ g X Q ↔ wpI fns d it σ g X λi g=>kF fns d t i 0 b σ g X (lk Q):=E3
theorem Ay{e:E}{Q:Option Int->G->Prop}:wpO fns d (some e) σ g X Q ↔ wpE fns d e σ g X λu g=>oh (match u with | .int i=>some i | _=>none) <| lk λi=>Q (some i) g:=BV.trans (wp_congr λx g=>by
 cases x with
 | int z=>exact ⟨λ⟨_,e,h⟩=>(by cases e;exact h),λh=>⟨z,rfl,h⟩⟩
 | _=>exact ⟨λ⟨_,e,h⟩=>(by cases e),λh=>h.elim⟩)
section
variable{Q:U->G->Prop}
theorem EK{i:Nat}:wpE fns d (.var i) σ g X Q ↔ oh σ[i]? (lk λo=>oh o (lk λu=>Q u g)):=by
 rw [Eu];cases σ[i]? with
 | none=>exact ⟨λ⟨_,e,_⟩=>(by cases e),λh=>h.elim⟩
 | some o=>cases o with
  | none=>exact ⟨λ⟨_,e,_⟩=>(by cases e),λh=>h.elim⟩
  | some a=>exact ⟨λ⟨_,e,h⟩=>(by cases e;exact h),λh=>⟨a,rfl,h⟩⟩
noncomputable def ob(op:Op)(x y:U)(g:G)(X:XP){Q:U->G->Prop}(_:Lk Q):Prop:=holds (bJ op x y g) X Q
theorem sF{op:Op}{i:Int}{y:U}{g:G}{X:XP}{Q:U->G->Prop}:ob op (.int i) y g X (lk Q)=oh (op2 op (.int i) y) (lk λz=>Q z g):=propext (by
 unfold ob;refine Iff.trans (?_:_ ↔ holds (lift (op2 op (.int i) y) g) X Q) (eL.trans aO);exact Iff.rfl)
theorem hU{n m:Nat}{xs ys:List U}{g:G}{X:XP}{Q:U->G->Prop}(h1:g[n]? = some (.lst xs))(h2:g[m]? = some (.lst ys))(hl:xs.length+ys.length<=ab)(h:Q (.ref g.length) (g++[.lst (xs++ys)])):ob .add (.ref n) (.ref m) g X (lk Q):=by
 unfold ob bJ bL;simp only [h1,h2];rw [if_pos hl];exact h
theorem rQ{op:Op}{a b:E}:wpE fns d (.bin op a b) σ g X Q ↔ wpE fns d a σ g X λx g=>wpE fns d b σ g X λy g=>ob op x y g X (lk Q):=Dm
theorem Ey{op:Cp}{a b:E}:wpE fns d (.cmp op a b) σ g X Q ↔ wpE fns d a σ g X λx g=>wpE fns d b σ g X λy g=>oh (cmp2 op x y g) <| lk λz=>Q (.bl z) g:=Fg.trans (wp_congr λx g=>wp_congr λy g=>aO)
theorem x9{op op':Cp}{a b c:E}:wpE fns d (.chain op op' a b c) σ g X Q ↔ wpE fns d a σ g X λx g=>wpE fns d b σ g X λy g=>oh (cmp2 op x y g) <| lk λz=>bh z (lk (wpE fns d c σ g X λw g=>oh (cmp2 op' y w g) <| lk λz=>Q (.bl z) g)) (lk (Q (.bl false) g)) :=
 y4.trans (wp_congr λx g=>wp_congr λy g=>aO.trans (by
  cases cmp2 op x y g with
  | none=>exact Iff.rfl
  | some z =>
   cases z
   .exact Iff.rfl
   .exact wp_congr λw g=>aO))
theorem Ep{a b:E}:wpE fns d (.and a b) σ g X Q ↔ wpE fns d a σ g X λx g=>oh (match x with | .bl z=>some z | _=>none) <| lk λz=>bh z (lk (wpE fns d b σ g X Q)) (lk (Q (.bl false) g)):=D6.trans (wp_congr λx g=>by
 cases x with
 | bl z=>exact ⟨λ⟨_,e,h⟩=>(by cases e;exact cK.1 h),λh=>⟨z,rfl,cK.2 h⟩⟩
 | _=>exact ⟨λ⟨_,e,h⟩=>(by cases e),λh=>h.elim⟩)
noncomputable def bQ(n:Nat):Bool := @decide (n<=ab) (Classical.propDecidable _)
theorem n9{n:Nat}(h:n<=16777000):bQ n=true:=by unfold bQ;exact @decide_eq_true _ (Classical.propDecidable _) h
theorem m7{n:Nat}:bQ n=true ↔ n<=ab:=by unfold bQ;exact @decide_eq_true_iff _ (Classical.propDecidable _)
theorem EW{es:List E}:wpE fns d (.tup es) σ g X Q ↔ aJ fns d es σ g X λus g=>bh (bQ us.length) (lk (Q (.tup us) g)) (lk False):=Dc.trans (wp_congr λus g=>by
 rw [<-m7,<-cK];by_cases h:bQ us.length=true <;> simp [h])
theorem Dh{es:List E}:wpE fns d (.lst es) σ g X Q ↔ aJ fns d es σ g X λus g=>bh (bQ us.length) (lk (Q (.ref g.length) (g++[.lst us]))) (lk False):=Fz.trans (wp_congr λus g=>by
 rw [<-m7,<-cK];by_cases h:bQ us.length=true <;> simp [h])
theorem rH{a b:E}:wpE fns d (.idx a b) σ g X Q ↔ wpE fns d a σ g X λx g=>wpE fns d b σ g X λy g=>match y with | .tup us=>oh ((aU (.tup us) x g).bind id) <| lk λz=>Q z g | .str k=>oh ((asS x g).bind λkvs=>bR kvs k) <| lk λz=>Q z g | y=>oh (match y with | .int i=>some i | _=>none) <| lk λi=>oh (items x g) <| lk λxs=>oh (uix xs i) <| lk λz=>Q z g:=DH.trans (wp_congr λx g=>wp_congr λy g=>by
 cases y with
 | int i =>
  constructor
  .rintro ⟨i',xs,z,e1,e2,e3,q⟩
   cases e1;show oh (items x g) (lk _);rw [e2];show oh (uix xs i) (lk _);rw [e3];exact q
  .intro h
   have h:oh (items x g) (lk λxs=>oh (uix xs i) (lk λz=>Q z g)):=h;obtain ⟨xs,e2,h⟩:=aO.2 h;obtain ⟨z,e3,h⟩:=aO.2 h;exact ⟨i,xs,z,rfl,e2,e3,h⟩
 | tup us =>
  show (∃ z,(aU (.tup us) x g).bind id=some z/\Q z g) ↔ oh ((aU (.tup us) x g).bind id) (lk λz=>Q z g);cases (aU (.tup us) x g).bind id with
  | none=>exact ⟨λ⟨_,e,_⟩=>(by cases e),λh=>False.elim h⟩
  | some z=>exact ⟨λ⟨_,e,q⟩=>(by cases e;exact q),λq=>⟨z,rfl,q⟩⟩
 | str k =>
  show (∃ z,(asS x g).bind (λkvs=>bR kvs k)=some z/\Q z g) ↔ oh ((asS x g).bind λkvs=>bR kvs k) (lk λz=>Q z g);cases (asS x g).bind (λkvs=>bR kvs k) with
  | none=>exact ⟨λ⟨_,e,_⟩=>(by cases e),λh=>False.elim h⟩
  | some z=>exact ⟨λ⟨_,e,q⟩=>(by cases e;exact q),λq=>⟨z,rfl,q⟩⟩
 | _=>exact ⟨λ⟨_,_,_,e,h⟩=>(by cases e),λh=>h.elim⟩)
noncomputable def F6(x:U)(g:G):Option (List U):=match x with
 | .ref n=>match g[n]? with
  | some (.lst xs)=>some xs
  | _=>none
 | _=>none
theorem ED{o v:E}:wpE fns d (.app o v) σ g X Q ↔ wpE fns d o σ g X λx g=>oh (asL x g) <| lk λk=>wpE fns d v σ g X λy g=>hk (b6 k y g) X (lk Q):=DF.trans (wp_congr λx g=>aO)
theorem Ew{o v:E}:wpE fns d (.ext o v) σ g X Q ↔ wpE fns d o σ g X λx g=>oh (asL x g) <| lk λk=>wpE fns d v σ g X λy g=>hk (cG k y g) X (lk Q):=FE.trans (wp_congr λx g=>aO)
theorem Fd{o:E}:wpE fns d (.pop o) σ g X Q ↔ wpE fns d o σ g X λx g=>oh (asL x g) <| lk λk=>hk (cM k g) X (lk Q):=Es.trans (wp_congr λx g=>aO)
theorem CB{own:Nat}{fr:List Nat}{t:Tg}{it:E}{cs:List E}{rest:List (Tg×E×List E)}{k v:E}:wpE fns d (.dcmp own fr ((t,it,cs) :: rest) k v) σ g X Q ↔
  wpI fns d it σ g X λi g=>kM fns d i 0 t cs rest (.pair k v) [] (List.replicate own none++fr.map λj=>(σ[j]?).getD none) g (λ_ _ _=>False) (lk λus g=>oh (dfold us []) <| lk λkvs=>Q (.ref g.length) (g++[.dic kvs])):=by
 simp only [zu,aO];exact Iff.rfl
theorem Cu{k v:E}:wpE fns d (.pair k v) σ g X Q ↔ wpE fns d k σ g X λx g=>wpE fns d v σ g X λy g=>oh (keyOf x) <| lk λ_=>Q (.tup [x,y]) g:=by simp only [B3,aO]
theorem BX{own:Nat}{fr:List Nat}{t:Tg}{it:E}{cs:List E}{rest:List (Tg×E×List E)}{elt:E}:wpE fns d (.comp own fr ((t,it,cs) :: rest) elt) σ g X Q ↔
  wpI fns d it σ g X λi g=>kM fns d i 0 t cs rest elt [] (List.replicate own none++fr.map λj=>(σ[j]?).getD none) g (λ_ _ _=>False) (lk λus g=>us.length<=ab/\Q (.ref g.length) (g++[.lst us])):=Bg
end
section
variable{Q:Bool->G->Prop}
theorem EH{a b:E}:wpT fns d (.and a b) σ g X Q ↔ wpT fns d a σ g X λk g=>bh k (lk (wpT fns d b σ g X Q)) (lk (Q false g)):=EA.trans (wp_congr λk g=>cK)
theorem t_e{e:E}(h:plainT e=true):wpT fns d e σ g X Q ↔ wpE fns d e σ g X λx g=>oh (tru x g) <| lk λc=>Q c g:=(T_e h).trans (wp_congr λx g=>aO)
theorem zv{c:E}{cs:List E}:wpA fns d (c :: cs) σ g X Q ↔ wpT fns d c σ g X λk g=>bh k (lk (wpA fns d cs σ g X Q)) (lk (Q false g)):=B8.trans (wp_congr λk g=>cK)
end
section
variable{Q:Iter->G->Prop}
noncomputable def aV(j:Int):Bool := @decide (-1000000 < j/\j < 1000000) (Classical.propDecidable _)
theorem cV{j:Int}(h : -1000000 < j)(h':j < 1000000):aV j=true:=by unfold aV;exact @decide_eq_true _ (Classical.propDecidable _) ⟨h,h'⟩
theorem CQ{a:E}:wpI fns d (.rng1 a) σ g X Q ↔ wpE fns d a σ g X λu g=>oh (match u with | .int i=>some i | _=>none) <| lk λj=>bh (aV j) (lk (Q (.rng 0 j.toNat) g)) (lk False):=AW.trans (wp_congr λu g=>by
 cases u with
 | int i =>
  show _ ↔ bh (aV i) (lk _) (lk _);by_cases h : -1000000 < i/\i < 1000000
  .rw [show aV i=true by unfold aV;exact @decide_eq_true _ (Classical.propDecidable _) h]
   exact ⟨λ⟨_,e,_,q⟩=>(by cases e;exact q),λq=>⟨i,rfl,h,q⟩⟩
  .rw [show aV i=false by unfold aV;exact @decide_eq_false _ (Classical.propDecidable _) h]
   exact ⟨λ⟨_,e,q,_⟩=>(by cases e;exact h q),λq=>q.elim⟩
 | _=>exact ⟨λ⟨_,e,h⟩=>(by cases e),λh=>h.elim⟩)
noncomputable def fU(u:U)(g:G):Option (Iter×G):=match u with
 | .tup xs=>some (.seq xs,g)
 | .xn _ xs=>some (.seq xs,g)
 | .ref n=>match g[n]? with
  | some (.lst _)=>some (.lst n,g)
  | some (.dic kvs)=>some (.dic n,g.set n (.dif kvs))
  | some (.dif _)=>some (.dic n,g)
  | _=>none
 | _=>none
theorem i_e{e:E}(h:ic e=true):wpI fns d e σ g X Q ↔ wpE fns d e σ g X λu g=>oh (fU u g) <| lk λp=>Q p.1 p.2:=(I_e h).trans (wp_congr λu g=>by
 cases u with
 | ref n =>
  simp only [fU];cases g[n]? with
  | none=>exact Iff.rfl
  | some o=>cases o <;> exact Iff.rfl
 | _=>exact Iff.rfl)
end
section
variable{Q:Fl->G->Prop}
theorem Ca{s:S}{ss:List S}:wpS fns d (s :: ss) σ g X Q ↔ wp1 fns d s σ g X λf g=>fS f (lk (λσ'=>wpS fns d ss σ' g X Q)) (lk λf=>Q f g):=A9.trans (wp_congr λf g=>by cases f <;> exact Iff.rfl)
theorem Cq{t:Tg}{e:E}:wp1 fns d (.set t e) σ g X Q ↔ wpE fns d e σ g X λu g=>oh (ai t (unl t u g) σ) <| lk λσ'=>Q (.nx σ') g:=Ee.trans (wp_congr λx g=>aO)
theorem BR{o i:E}:wp1 fns d (.del o i) σ g X Q ↔ wpE fns d o σ g X λx g=>wpE fns d i σ g X λy g=>hk (b7 x y σ g) X (lk Q):=DT
theorem Bn{o i e:E}:wp1 fns d (.sub o i e) σ g X Q ↔ wpE fns d e σ g X λu g=>wpE fns d o σ g X λx g=>wpE fns d i σ g X λy g=>hk (subAt x y u σ g) X (lk Q):=CZ
theorem AH{c:E}{a b:List S}:wp1 fns d (.ife c a b) σ g X Q ↔ wpT fns d c σ g X λk g=>bh k (lk (wpS fns d a σ g X Q)) (lk (wpS fns d b σ g X Q)):=E5.trans (wp_congr λk g=>cK)
theorem BB{c:E}{b:List S}:wpW fns d c b σ g X Q ↔ wpT fns d c σ g X λk g=>bh k (lk (wpS fns d b σ g X λf g=>fL f (lk (λσ'=>wpW fns d c b σ' g X Q)) (lk λf=>Q f g))) (lk (Q (.nx σ) g)):=Am.trans (wp_congr λk g=>cK.trans (by
 cases k
 .exact Iff.rfl
 .exact wp_congr λf g=>by cases f <;> exact Iff.rfl))
theorem zp{f:Nat}{F:Fn}{us:List U}{Q:U->G->Prop}(hf:fns[f]? = some F)(hl:us.length=F.np):wpC fns (d+1) f us g X Q ↔ wpS fns d F.body (us.map some++List.replicate (F.ns - us.length) none) g X λfl g=>fC fl <| lk λu=>Q u g:=(z8 hf hl).trans (wp_congr λf g=>by cases f <;> exact Iff.rfl)
theorem fG{t:Tg}{it:Iter}{b:List S}(us:List U)(Inv:Nat->Su->G->Prop)
  (hn:∀ k σ g,Inv k σ g->next it k g=some us[k]?)
  (hs:∀ k u σ g,us[k]? = some u->Inv k σ g->oh (ai t u σ) (lk λσ1=>wpS fns d b σ1 g X λf g=>fL f (lk (λσ'=>Inv (k+1) σ' g)) (lk λf=>Q f g)))
  (hq:∀ σ g,Inv us.length σ g->Q (.nx σ) g):∀ (n i:Nat) (σ:Su) (g:G),i+n=us.length->Inv i σ g->wpF fns d t it i b σ g X Q
 | 0,i,σ,g,e,h=>by
  have e:i=us.length:=by omega
  subst e;rw [jZ];exact ⟨none,by rw [hn _ _ _ h];simp,hq _ _ h⟩
 | n+1,i,σ,g,e,h=>by
  have hi:i < us.length:=by omega
  rw [jZ];obtain ⟨σ1,e1,w⟩:=aO.2 (hs i us[i] σ g (List.getElem?_eq_getElem hi) h);refine ⟨some us[i],by rw [hn _ _ _ h,List.getElem?_eq_getElem hi],σ1,e1,wp_mono w λf g q => ?_⟩
  cases f with
  | nx σ'=>exact fG us Inv hn hs hq n (i+1) σ' g (by omega) q
  | ct σ'=>exact fG us Inv hn hs hq n (i+1) σ' g (by omega) q
  | bk σ'=>exact q
  | rt u=>exact q
theorem j6{c:E}{b:List S}(Inv:Nat->Su->G->Prop)
  (hs:∀ n σ g,Inv n σ g->wpT fns d c σ g X λk g=>bh k (lk (wpS fns d b σ g X λf g=>fL f (lk (λσ' => ∃ m,m < n/\Inv m σ' g)) (lk λf=>Q f g))) (lk (Q (.nx σ) g))):∀ (n:Nat) (σ:Su) (g:G),Inv n σ g->wpW fns d c b σ g X Q:=by
 intro n
 induction n using Nat.strongRecOn with
 | _ n ih =>
  intro σ g h;rw [BB];refine wp_mono (hs n σ g h) λk g q => ?_;cases k
  .exact q
  .refine wp_mono q λf g q => ?_
   cases f with
   | nx σ'=>obtain ⟨m,hm,q⟩:=q;exact ih m hm _ _ q
   | ct σ'=>obtain ⟨m,hm,q⟩:=q;exact ih m hm _ _ q
   | bk σ'=>exact q
   | rt u=>exact q
end
noncomputable def oc{α:Type}(o:Option α){A:Prop}{Q:α->Prop}(_:Lk A)(_:Lk Q):Prop:=match o with
 | none=>A
 | some a=>Q a
theorem Gh{α:Type}{A:Prop}{Q:α->Prop}:oc none (lk A) (lk Q)=A:=propext Iff.rfl
theorem Gv{α:Type}{a:α}{A:Prop}{Q:α->Prop}:oc (some a) (lk A) (lk Q)=Q a:=propext Iff.rfl
theorem cN{t:Tg}{xs:List U}{i:Nat}{b:List S}{Q:Fl->G->Prop}:kF fns d t (.seq xs) i b σ g X (lk Q) ↔ oc xs[i]? (lk (Q (.nx σ) g)) (lk λu=>oh (ai t u σ) (lk λσ1=>wpS fns d b σ1 g X λf g=>fL f (lk λσ'=>kF fns d t (.seq xs) (i+1) b σ' g X (lk Q)) (lk λf=>Q f g))):=by
 refine Iff.trans jZ ?_;constructor
 .rintro ⟨o,e,h⟩
  cases e;cases e2:xs[i]? with
  | none=>rw [e2] at h;exact h
  | some u =>
   rw [e2] at h;obtain ⟨σ1,e1,h⟩:=h;refine aO.1 ⟨σ1,e1,wp_mono h λf g q => ?_⟩;cases f <;> exact q
 .intro h
  refine ⟨xs[i]?,rfl,?_⟩;cases e2:xs[i]? with
  | none=>rw [e2] at h;exact h
  | some u =>
   rw [e2] at h;obtain ⟨σ1,e1,h⟩:=aO.2 h;refine ⟨σ1,e1,wp_mono h λf g q => ?_⟩;cases f <;> exact q
end
section
variable{fns:List Fn}{d:Nat}{X:XP}{σ:Su}{g:G}
end
noncomputable def a4(f:E->Su->Option U):List E->Su->Option (List U)
 | [],_=>some []
 | e :: es,σ=>match f e σ with
  | some u=>match a4 f es σ with
   | some us=>some (u :: us)
   | none=>none
  | none=>none
noncomputable def cP(x y:Option U):Option U:=match x with
 | some (.int i)=>match y with
  | some (.int j)=>some (.int (i+j))
  | _=>none
 | _=>none
noncomputable def dy(x y:Option U):Option U:=match x with
 | some (.int i)=>match y with
  | some (.int j)=>some (.int (i - j))
  | _=>none
 | _=>none
noncomputable def tupP(x:Option (List U)):Option U:=match x with
 | some us=>match Nat.ble us.length 1000 with
  | true=>some (.tup us)
  | false=>none
 | none=>none
noncomputable def ixP(x:Option U)(k:Int):Option U:=match x with
 | some (.tup xs)=>uix xs k
 | _=>none
noncomputable def lb(o:Option (Option U)):Option U:=match o with
 | some o=>o
 | none=>none
noncomputable def evP:Nat->E->Su->Option U
 | 0,_,_=>none
 | n+1,e,σ=>match e with
  | .var i=>lb σ[i]?
  | .cst u=>some u
  | .tup es=>tupP (a4 (evP n) es σ)
  | .bin .add a b=>cP (evP n a σ) (evP n b σ)
  | .bin .sub a b=>dy (evP n a σ) (evP n b σ)
  | .idx a (.cst (.int k))=>ixP (evP n a σ) k
  | _=>none
section
variable{fns:List Fn}{d:Nat}{X:XP}{σ:Su}{g:G}
theorem pEs{f:E->Su->Option U}(hf:∀ e u (Q:U->G->Prop),f e σ=some u->(wpE fns d e σ g X Q ↔ Q u g)):∀ (es:List E) (us:List U) (Q:List U->G->Prop),a4 f es σ=some us->(aJ fns d es σ g X Q ↔ Q us g)
 | [],us,Q,h=>by cases h;exact Bd
 | e :: es,us,Q,h=>by
  cases he:f e σ with
  | none=>simp only [a4,he] at h;cases h
  | some u =>
   cases hs:a4 f es σ with
   | none=>simp only [a4,he,hs] at h;cases h
   | some us' =>
    simp only [a4,he,hs] at h;cases h;exact pJ.trans ((hf e u _ he).trans (pEs hf es us' _ hs))
theorem rR{op:Op}{f:Option U->Option U->Option U}{a b:E}{x y:Option U}{u:U}{Q:U->G->Prop}(ha:∀ u (Q:U->G->Prop),x=some u->(wpE fns d a σ g X Q ↔ Q u g))(hb:∀ u (Q:U->G->Prop),y=some u->(wpE fns d b σ g X Q ↔ Q u g))(hf:f x y=some u)(k:∀ u,f x y=some u -> ∃ i j,x=some (.int i)/\y=some (.int j)/\op2 op (.int i) (.int j)=some u):wpE fns d (.bin op a b) σ g X Q ↔ Q u g:=by
 obtain ⟨i,j,e1,e2,e3⟩:=k u hf;refine rQ.trans ((ha _ _ e1).trans ((hb _ _ e2).trans ?_));rw [sF,e3,jy]
theorem pE:∀ (n:Nat) (e:E) (u:U) (Q:U->G->Prop),evP n e σ=some u->(wpE fns d e σ g X Q ↔ Q u g)
 | 0,_,_,_,h=>by cases h
 | n+1,e,u,Q,h=>by
  have ih:=pE n;unfold evP at h;split at h
  .rename_i i
   refine EK.trans ?_;cases hs:σ[i]? with
   | none=>rw [hs] at h;cases h
   | some o=>rw [hs] at h;have h:o=some u:=h;subst h;exact Iff.rfl
  .cases h;exact sf
  .rename_i es
   cases hs:a4 (evP n) es σ with
   | none=>rw [hs] at h;cases h
   | some us =>
    rw [hs] at h;simp only [tupP] at h;cases hb:Nat.ble us.length 1000 with
    | true =>
     rw [hb] at h;cases h;refine EW.trans ((pEs (λe u Q h=>ih e u Q h) es us _ hs).trans ?_);rw [n9 (by have:=Nat.le_of_ble_eq_true hb;omega),sG]
    | false=>rw [hb] at h;cases h
  .rename_i a b
   refine rR (f:=cP) (λu Q h=>ih a u Q h) (λu Q h=>ih b u Q h) h λu h => ?_;unfold cP at h;split at h
   .split at h
    .cases h;exact ⟨_,_,‹_›,‹_›,rfl⟩
    .cases h
   .cases h
  .rename_i a b
   refine rR (f:=dy) (λu Q h=>ih a u Q h) (λu Q h=>ih b u Q h) h λu h => ?_;unfold dy at h;split at h
   .split at h
    .cases h;exact ⟨_,_,‹_›,‹_›,rfl⟩
    .cases h
   .cases h
  .rename_i a k
   cases ha:evP n a σ with
   | none=>rw [ha] at h;cases h
   | some x =>
    rw [ha] at h;refine rH.trans ((ih a x _ ha).trans (sf.trans ?_));cases x with
    | tup xs =>
     have h:uix xs k=some u:=h;show oh (uix xs k) (lk _) ↔ _;rw [h,jy]
    | _=>cases h
  .cases h
noncomputable def nE(fns:List Fn)(d:Nat)(e:E)(σ:Su)(g:G)(X:XP)(Q:U->G->Prop):Prop:=wpE fns d e σ g X Q
noncomputable def nEs(fns:List Fn)(d:Nat)(es:List E)(σ:Su)(g:G)(X:XP)(Q:List U->G->Prop):Prop:=aJ fns d es σ g X Q
theorem p_E{e:E}{Q:U->G->Prop}:wpE fns d e σ g X Q=oc (evP 8 e σ) (lk (nE fns d e σ g X Q)) (lk λu=>Q u g):=propext (by
 cases h:evP 8 e σ with
 | none=>exact Iff.rfl
 | some u=>exact pE 8 e u Q h)
theorem FR{es:List E}{Q:List U->G->Prop}:aJ fns d es σ g X Q=oc (a4 (evP 8) es σ) (lk (nEs fns d es σ g X Q)) (lk λus=>Q us g):=propext (by
 cases h:a4 (evP 8) es σ with
 | none=>exact Iff.rfl
 | some us=>exact pEs (λe u Q h=>pE 8 e u Q h) es us Q h)
theorem xK{own:Nat}{fr:List Nat}{t:Tg}{it:E}{cs:List E}{rest:List (Tg×E×List E)}{k v:E}{Q:U->G->Prop}:nE fns d (.dcmp own fr ((t,it,cs) :: rest) k v) σ g X Q ↔ wpI fns d it σ g X λi g=>kM fns d i 0 t cs rest (.pair k v) [] (List.replicate own none++fr.map λj=>(σ[j]?).getD none) g (λ_ _ _=>False) (lk λus g=>oh (dfold us []) <| lk λkvs=>Q (.ref g.length) (g++[.dic kvs])):=CB
theorem xg{k v:E}{Q:U->G->Prop}:nE fns d (.pair k v) σ g X Q ↔ wpE fns d k σ g X λx g=>wpE fns d v σ g X λy g=>oh (keyOf x) <| lk λ_=>Q (.tup [x,y]) g:=Cu
theorem xR{own:Nat}{fr:List Nat}{t:Tg}{it:E}{cs:List E}{rest:List (Tg×E×List E)}{elt:E}{Q:U->G->Prop}:nE fns d (.comp own fr ((t,it,cs) :: rest) elt) σ g X Q ↔ wpI fns d it σ g X λi g=>kM fns d i 0 t cs rest elt [] (List.replicate own none++fr.map λj=>(σ[j]?).getD none) g (λ_ _ _=>False) (lk λus g=>us.length<=ab/\Q (.ref g.length) (g++[.lst us])):=BX
theorem xS{Q:U->G->Prop}:nE fns d .dnew σ g X Q ↔ Q (.ref g.length) (g++[.dic []]):=BS
end
section
variable{n:Nat}{σ:Su}
theorem Fx{f:E->Su->Option U}:a4 f [] σ=some []:=rfl
theorem B5{f:E->Su->Option U}{e:E}{es:List E}:a4 f (e :: es) σ=match f e σ with
  | some u=>match a4 f es σ with
   | some us=>some (u :: us)
   | none=>none
  | none=>none:=rfl
theorem DB{i:Nat}:evP (n+1) (.var i) σ=lb σ[i]? := rfl
theorem DL{u:U}:evP (n+1) (.cst u) σ=some u:=rfl
theorem DW{es:List E}:evP (n+1) (.tup es) σ=tupP (a4 (evP n) es σ):=rfl
theorem En{a b:E}:evP (n+1) (.bin .add a b) σ=cP (evP n a σ) (evP n b σ):=rfl
theorem Dz{a b:E}:evP (n+1) (.bin .sub a b) σ=dy (evP n a σ) (evP n b σ):=rfl
theorem E4{a:E}{k:Int}:evP (n+1) (.idx a (.cst (.int k))) σ=ixP (evP n a σ) k:=rfl
theorem zy{o:Option U}:lb (some o)=o:=rfl
theorem zZ{a:U}:tupP (some [a])=some (.tup [a]):=rfl
theorem AN{a b:U}:tupP (some [a,b])=some (.tup [a,b]):=rfl
theorem Ai{a b c:U}:tupP (some [a,b,c])=some (.tup [a,b,c]):=rfl
theorem AJ{a b c d:U}:tupP (some [a,b,c,d])=some (.tup [a,b,c,d]):=rfl
theorem CW{a b c d e:U}:tupP (some [a,b,c,d,e])=some (.tup [a,b,c,d,e]):=rfl
theorem AG{a b c d e f:U}:tupP (some [a,b,c,d,e,f])=some (.tup [a,b,c,d,e,f]):=rfl
theorem CF{a b c d e f g:U}:tupP (some [a,b,c,d,e,f,g])=some (.tup [a,b,c,d,e,f,g]):=rfl
theorem Bk{a b c d e f g h:U}:tupP (some [a,b,c,d,e,f,g,h])=some (.tup [a,b,c,d,e,f,g,h]):=rfl
theorem BL:tupP none=none:=rfl
theorem Cr{i j:Int}:cP (some (.int i)) (some (.int j))=some (.int (i+j)):=rfl
theorem A1{i j:Int}:dy (some (.int i)) (some (.int j))=some (.int (i - j)):=rfl
theorem BU{y:Option U}:cP none y=none:=rfl
theorem zq{y:Option U}:dy none y=none:=rfl
theorem Ab{i:Int}:cP (some (.int i)) none=none:=rfl
theorem CL{i:Int}:dy (some (.int i)) none=none:=rfl
theorem A3{i:Nat}{y:Option U}:cP (some (.ref i)) y=none:=rfl
theorem CY{xs:List U}{k:Int}:ixP (some (.tup xs)) k=uix xs k:=rfl
theorem Ed{n:Nat}{k:Int}:ixP (some (.ref n)) k=none:=rfl
theorem C4{xs:List U}{k:Int}:ixP (some (.fro xs)) k=none:=rfl
theorem Df{c:Nat}{xs:List U}{k:Int}:ixP (some (.xn c xs)) k=none:=rfl
theorem EC{k:Int}:ixP none k=none:=rfl
theorem Di{a b:E}:evP (n+1) (.bin .mul a b) σ=none:=rfl
theorem BF{a b:E}:evP (n+1) (.bin .fdiv a b) σ=none:=rfl
theorem Dr{a b:E}:evP (n+1) (.bin .mod a b) σ=none:=rfl
theorem DO{a b:E}:evP (n+1) (.bin .pow a b) σ=none:=rfl
theorem D3{o:Cp}{a b:E}:evP (n+1) (.cmp o a b) σ=none:=rfl
theorem yQ{o q:Cp}{a b c:E}:evP (n+1) (.chain o q a b c) σ=none:=rfl
theorem ER{a b:E}:evP (n+1) (.and a b) σ=none:=rfl
theorem Ga{a b:E}:evP (n+1) (.or a b) σ=none:=rfl
theorem EV{a:E}:evP (n+1) (.not a) σ=none:=rfl
theorem Eo{a:E}:evP (n+1) (.neg a) σ=none:=rfl
theorem E9{c a b:E}:evP (n+1) (.ite c a b) σ=none:=rfl
theorem Dp{es:List E}:evP (n+1) (.lst es) σ=none:=rfl
theorem El{a:E}{lo hi:Option E}:evP (n+1) (.slc a lo hi) σ=none:=rfl
theorem Ds{a:E}:evP (n+1) (.rev a) σ=none:=rfl
theorem zK{f:Nat}{es:List E}:evP (n+1) (.call f es) σ=none:=rfl
theorem Ff{a:E}{j:Nat}{cs:List Nat}:evP (n+1) (.fld a j cs) σ=none:=rfl
theorem x3{f:Nat}{es ks:List E}{pm:List (Nat ⊕ U)}:evP (n+1) (.callk f es ks pm) σ=none:=rfl
theorem A8{c f:Nat}{es ks:List E}{pm:List (Nat ⊕ U)}:evP (n+1) (.make c f es ks pm) σ=none:=rfl
theorem Co{a:E}{j:Nat}{tb:List (Nat×Nat×List (Nat ⊕ U))}{es ks:List E}:evP (n+1) (.meth a j tb es ks) σ=none:=rfl
theorem AU{a:E}:evP (n+1) (.revm a) σ=none:=rfl
theorem Gn{b:Bi}{es:List E}:evP (n+1) (.bi b es) σ=none:=rfl
theorem EJ{a:E}{t:Ty}:evP (n+1) (.isi a t) σ=none:=rfl
theorem FD{o v:E}:evP (n+1) (.app o v) σ=none:=rfl
theorem Bh{o v:E}:evP (n+1) (.popi o v) σ=none:=rfl
theorem C8{o v:E}:evP (n+1) (.ext o v) σ=none:=rfl
theorem Dg{o:E}:evP (n+1) (.pop o) σ=none:=rfl
theorem Ax  : evP (n+1) .dnew σ=none:=rfl
theorem z5{m:Nat}{fr:List Nat}{gs:List (Tg×E×List E)}{e:E}:evP (n+1) (.comp m fr gs e) σ=none:=rfl
theorem AX{ks:List PySem.Str}{es:List E}:evP (n+1) (.ddsp ks es) σ=none:=rfl
theorem Fu{o k x:E}:evP (n+1) (.dgt o k x) σ=none:=rfl
theorem BN{k v:E}:evP (n+1) (.pair k v) σ=none:=rfl
theorem zC{m:Nat}{fr:List Nat}{gs:List (Tg×E×List E)}{k v:E}:evP (n+1) (.dcmp m fr gs k v) σ=none:=rfl
theorem D5{a:E}{i:Nat}:evP (n+1) (.idx a (.var i)) σ=none:=rfl
theorem DR{a:E}{f:Nat}{es:List E}:evP (n+1) (.idx a (.call f es)) σ=none:=rfl
theorem Dv{a:E}{es:List E}:evP (n+1) (.idx a (.tup es)) σ=none:=rfl
theorem C6{a b c:E}{o:Op}:evP (n+1) (.idx a (.bin o b c)) σ=none:=rfl
theorem Dq{a:E}{s:PySem.Str}:evP (n+1) (.idx a (.cst (.str s))) σ=none:=rfl
theorem Dy{a b c:E}:evP (n+1) (.idx a (.idx b c)) σ=none:=rfl
theorem Fq{a b:E}:evP (n+1) (.idx a (.neg b)) σ=none:=rfl
end
section
variable{fns:List Fn}{d:Nat}{X:XP}{σ:Su}{g:G}{Q:U->G->Prop}{QF:Fl->G->Prop}{QB:Bool->G->Prop}{QI:Iter->G->Prop}{QL:List U->G->Prop}{QO:Option Int->G->Prop}{op:Op}{cp:Cp}{cq:Cp}{a:E}{b:E}{c:E}{e:E}{it:E}{o:E}{v:E}{i:Nat}{j:Nat}{k:Nat}{f:Nat}{cc:Nat}{cs:List Nat}{es:List E}{ks:List E}{pm:List (Nat ⊕ U)}{tb:List (Nat×Nat×List (Nat ⊕ U))}{p:Nat×List (Nat ⊕ U)}{x:U}{y:U}{u:U}{w:U}{us:List U}{ws:List U}{xs:List U}{lo:Option E}{hi:Option E}{l:Option Int}{h:Option Int}{t:Tg}{ty:Ty}{z:Bool}{n:Int}{s:S}{ss:List S}{A:List S}{B:List S}{ao:Op}{st:Su}{bb:Bi}{it2:Iter}{pq:Iter×G}{g2:G}{nn:Nat}{ces:List E}{os:Option U}
noncomputable def KV{α:Type}(g:G)(Q:α->G->Prop)(a:α):Prop:=Q a g
theorem FH{α:Type}{g:G}{Q:α->G->Prop}{a:α}:KV g Q a=Q a g:=propext Iff.rfl
theorem k_E  : wpE fns d e σ g X Q=oc (evP 8 e σ) (lk (nE fns d e σ g X Q)) (lk (KV g Q)):=p_E
theorem Gg  : aJ fns d es σ g X QL=oc (a4 (evP 8) es σ) (lk (nEs fns d es σ g X QL)) (lk (KV g QL)):=FR
noncomputable def KB(g:G)(Q:U->G->Prop)(z:Bool):Prop:=Q (.bl z) g
theorem F0  : KB g Q z=(Q (.bl z) g):=propext Iff.rfl
noncomputable def Kl2(u:U)(QL:List U->G->Prop)(us:List U)(g:G):Prop:=QL (u :: us) g
theorem EI  : Kl2 u QL us g=(QL (u :: us) g):=propext Iff.rfl
noncomputable def Kl1(fns:List Fn)(d:Nat)(es:List E)(σ:Su)(X:XP)(QL:List U->G->Prop)(u:U)(g:G):Prop:=aJ fns d es σ g X (Kl2 u QL)
theorem FA  : Kl1 fns d es σ X QL u g=(aJ fns d es σ g X (Kl2 u QL)):=propext Iff.rfl
theorem yW  : nEs fns d (e :: es) σ g X QL ↔ wpE fns d e σ g X (Kl1 fns d es σ X QL):=pJ
noncomputable def km(op:Op)(x:U)(X:XP)(Q:U->G->Prop)(y:U)(g:G):Prop:=ob op x y g X (lk Q)
theorem yZ  : km op x X Q y g=(ob op x y g X (lk Q)):=propext Iff.rfl
noncomputable def rS(fns:List Fn)(d:Nat)(op:Op)(b:E)(σ:Su)(X:XP)(Q:U->G->Prop)(x:U)(g:G):Prop:=wpE fns d b σ g X (km op x X Q)
theorem y8  : rS fns d op b σ X Q x g=(wpE fns d b σ g X (km op x X Q)):=propext Iff.rfl
theorem EN  : nE fns d (.bin op a b) σ g X Q ↔ wpE fns d a σ g X (rS fns d op b σ X Q):=rQ
theorem Gp{op:Op}{i:Int}{y:U}{g:G}{X:XP}{Q:U->G->Prop}:ob op (.int i) y g X (lk Q)=oh (op2 op (.int i) y) (lk (KV g Q)):=sF
noncomputable def fP(cp:Cp)(x:U)(Q:U->G->Prop)(y:U)(g:G):Prop:=oh (cmp2 cp x y g) (lk (KB g Q))
theorem y6  : fP cp x Q y g=(oh (cmp2 cp x y g) (lk (KB g Q))):=propext Iff.rfl
noncomputable def rM(fns:List Fn)(d:Nat)(cp:Cp)(b:E)(σ:Su)(X:XP)(Q:U->G->Prop)(x:U)(g:G):Prop:=wpE fns d b σ g X (fP cp x Q)
theorem ye  : rM fns d cp b σ X Q x g=(wpE fns d b σ g X (fP cp x Q)):=propext Iff.rfl
theorem Ex  : nE fns d (.cmp cp a b) σ g X Q ↔ wpE fns d a σ g X (rM fns d cp b σ X Q):=Ey
noncomputable def kP(fns:List Fn)(d:Nat)(cq:Cp)(y:U)(c:E)(σ:Su)(g:G)(X:XP)(Q:U->G->Prop)(z:Bool):Prop:=bh z (lk (wpE fns d c σ g X (fP cq y Q))) (lk (Q (.bl false) g))
theorem CH  : kP fns d cq y c σ g X Q z=(bh z (lk (wpE fns d c σ g X (fP cq y Q))) (lk (Q (.bl false) g))):=propext Iff.rfl
noncomputable def kY(fns:List Fn)(d:Nat)(cp:Cp)(cq:Cp)(x:U)(c:E)(σ:Su)(X:XP)(Q:U->G->Prop)(y:U)(g:G):Prop:=oh (cmp2 cp x y g) (lk (kP fns d cq y c σ g X Q))
theorem zr  : kY fns d cp cq x c σ X Q y g=(oh (cmp2 cp x y g) (lk (kP fns d cq y c σ g X Q))):=propext Iff.rfl
noncomputable def sH(fns:List Fn)(d:Nat)(cp:Cp)(cq:Cp)(b:E)(c:E)(σ:Su)(X:XP)(Q:U->G->Prop)(x:U)(g:G):Prop:=wpE fns d b σ g X (kY fns d cp cq x c σ X Q)
theorem Bt  : sH fns d cp cq b c σ X Q x g=(wpE fns d b σ g X (kY fns d cp cq x c σ X Q)):=propext Iff.rfl
theorem xG  : nE fns d (.chain cp cq a b c) σ g X Q ↔ wpE fns d a σ g X (sH fns d cp cq b c σ X Q):=x9
noncomputable def s9(fns:List Fn)(d:Nat)(b:E)(σ:Su)(X:XP)(Q:U->G->Prop)(x:U)(g:G):Prop:=oh (match x with | .bl z=>some z | _=>none) <| lk λz=>bh z (lk (wpE fns d b σ g X Q)) (lk (Q (.bl false) g))
theorem CI{fns:List Fn}{d:Nat}{b:E}{σ:Su}{X:XP}{Q:U->G->Prop}{z:Bool}{g:G}:s9 fns d b σ X Q (.bl z) g=bh z (lk (wpE fns d b σ g X Q)) (lk (Q (.bl false) g)):=propext Iff.rfl
theorem E1  : nE fns d (.and a b) σ g X Q ↔ wpE fns d a σ g X (s9 fns d b σ X Q):=Ep
noncomputable def sL(Q:U->G->Prop)(us:List U)(g:G):Prop:=bh (bQ us.length) (lk (Q (.ref g.length) (g++[.lst us]))) (lk False)
theorem Ck  : sL Q us g=(bh (bQ us.length) (lk (Q (.ref g.length) (g++[.lst us]))) (lk False)):=propext Iff.rfl
theorem C7  : nE fns d (.lst es) σ g X Q ↔ aJ fns d es σ g X (sL Q):=Dh
noncomputable def sW(i:Int)(g:G)(Q:U->G->Prop)(xs:List U):Prop:=oh (uix xs i) (lk (KV g Q))
theorem A2{i:Int}{g:G}{Q:U->G->Prop}{xs:List U}:sW i g Q xs=oh (uix xs i) (lk (KV g Q)):=propext Iff.rfl
noncomputable def lu(x:U)(Q:U->G->Prop)(y:U)(g:G):Prop:=match y with | .tup us=>oh ((aU (.tup us) x g).bind id) <| lk λz=>Q z g | .str k=>oh ((asS x g).bind λkvs=>bR kvs k) <| lk λz=>Q z g | y=>oh (match y with | .int i=>some i | _=>none) <| lk λi=>oh (items x g) <| lk λxs=>oh (uix xs i) <| lk λz=>Q z g
theorem zN{x:U}{Q:U->G->Prop}{i:Int}{g:G}:lu x Q (.int i) g=oh (items x g) (lk (sW i g Q)):=propext Iff.rfl
noncomputable def tN(fns:List Fn)(d:Nat)(b:E)(σ:Su)(X:XP)(Q:U->G->Prop)(x:U)(g:G):Prop:=wpE fns d b σ g X (lu x Q)
theorem A4  : tN fns d b σ X Q x g=(wpE fns d b σ g X (lu x Q)):=propext Iff.rfl
theorem ES  : nE fns d (.idx a b) σ g X Q ↔ wpE fns d a σ g X (tN fns d b σ X Q):=rH
noncomputable def kI(x:U)(l:Option Int)(X:XP)(Q:U->G->Prop)(h:Option Int)(g:G):Prop:=hk (iD x l h g) X (lk Q)
theorem BI  : kI x l X Q h g=(hk (iD x l h g) X (lk Q)):=propext Iff.rfl
noncomputable def kA(fns:List Fn)(d:Nat)(x:U)(hi:Option E)(σ:Su)(X:XP)(Q:U->G->Prop)(l:Option Int)(g:G):Prop:=wpO fns d hi σ g X (kI x l X Q)
theorem zM  : kA fns d x hi σ X Q l g=(wpO fns d hi σ g X (kI x l X Q)):=propext Iff.rfl
noncomputable def tz(fns:List Fn)(d:Nat)(lo:Option E)(hi:Option E)(σ:Su)(X:XP)(Q:U->G->Prop)(x:U)(g:G):Prop:=wpO fns d lo σ g X (kA fns d x hi σ X Q)
theorem Ce  : tz fns d lo hi σ X Q x g=(wpO fns d lo σ g X (kA fns d x hi σ X Q)):=propext Iff.rfl
theorem Fb  : nE fns d (.slc a lo hi) σ g X Q ↔ wpE fns d a σ g X (tz fns d lo hi σ X Q):=DV
noncomputable def sr(fns:List Fn)(d:Nat)(f:Nat)(X:XP)(Q:U->G->Prop)(us:List U)(g:G):Prop:=kC fns d f us g X (lk Q)
theorem yG  : sr fns d f X Q us g=(kC fns d f us g X (lk Q)):=propext Iff.rfl
theorem CN  : nE fns d (.call f es) σ g X Q ↔ aJ fns d es σ g X (sr fns d f X Q):=Br
noncomputable def kq(g:G)(X:XP)(Q:U->G->Prop)(k:Nat):Prop:=hk (cM k g) X (lk Q)
theorem B7  : kq g X Q k=(hk (cM k g) X (lk Q)):=propext Iff.rfl
noncomputable def tS(X:XP)(Q:U->G->Prop)(x:U)(g:G):Prop:=oh (asL x g) (lk (kq g X Q))
theorem Ad  : tS X Q x g=(oh (asL x g) (lk (kq g X Q))):=propext Iff.rfl
theorem D8  : nE fns d (.pop o) σ g X Q ↔ wpE fns d o σ g X (tS X Q):=Fd
noncomputable def ky(k:Nat)(X:XP)(Q:U->G->Prop)(y:U)(g:G):Prop:=hk (b6 k y g) X (lk Q)
theorem Bw  : ky k X Q y g=(hk (b6 k y g) X (lk Q)):=propext Iff.rfl
noncomputable def kJ(fns:List Fn)(d:Nat)(v:E)(σ:Su)(g:G)(X:XP)(Q:U->G->Prop)(k:Nat):Prop:=wpE fns d v σ g X (ky k X Q)
theorem zT  : kJ fns d v σ g X Q k=(wpE fns d v σ g X (ky k X Q)):=propext Iff.rfl
noncomputable def tq(fns:List Fn)(d:Nat)(v:E)(σ:Su)(X:XP)(Q:U->G->Prop)(x:U)(g:G):Prop:=oh (asL x g) (lk (kJ fns d v σ g X Q))
theorem Bx  : tq fns d v σ X Q x g=(oh (asL x g) (lk (kJ fns d v σ g X Q))):=propext Iff.rfl
theorem DY  : nE fns d (.app o v) σ g X Q ↔ wpE fns d o σ g X (tq fns d v σ X Q):=ED
noncomputable def ko(k:Nat)(X:XP)(Q:U->G->Prop)(y:U)(g:G):Prop:=hk (cG k y g) X (lk Q)
theorem zF  : ko k X Q y g=(hk (cG k y g) X (lk Q)):=propext Iff.rfl
noncomputable def k6(fns:List Fn)(d:Nat)(v:E)(σ:Su)(g:G)(X:XP)(Q:U->G->Prop)(k:Nat):Prop:=wpE fns d v σ g X (ko k X Q)
theorem z7  : k6 fns d v σ g X Q k=(wpE fns d v σ g X (ko k X Q)):=propext Iff.rfl
noncomputable def tU(fns:List Fn)(d:Nat)(v:E)(σ:Su)(X:XP)(Q:U->G->Prop)(x:U)(g:G):Prop:=oh (asL x g) (lk (k6 fns d v σ g X Q))
theorem BO  : tU fns d v σ X Q x g=(oh (asL x g) (lk (k6 fns d v σ g X Q))):=propext Iff.rfl
theorem DD  : nE fns d (.ext o v) σ g X Q ↔ wpE fns d o σ g X (tU fns d v σ X Q):=Ew
noncomputable def Kbi(bb:Bi)(X:XP)(Q:U->G->Prop)(us:List U)(g:G):Prop:=hk (bi1 bb us g) X (lk Q)
theorem Dx  : Kbi bb X Q us g=(hk (bi1 bb us g) X (lk Q)):=propext Iff.rfl
theorem FP  : nE fns d (.bi bb es) σ g X Q ↔ aJ fns d es σ g X (Kbi bb X Q):=F7
noncomputable def Ko(Q:Option Int->G->Prop)(x:U)(g:G):Prop:=oh (match x with | .int i=>some i | _=>none) <| lk λi=>Q (some i) g
theorem F9{Q:Option Int->G->Prop}{i:Int}{g:G}:Ko Q (.int i) g=Q (some i) g:=propext Iff.rfl
theorem yH  : wpO fns d (some e) σ g X QO ↔ wpE fns d e σ g X (Ko QO):=Ay
noncomputable def Ktr(QB:Bool->G->Prop)(x:U)(g:G):Prop:=oh (tru x g) (lk (KV g QB))
theorem Fk  : Ktr QB x g=(oh (tru x g) (lk (KV g QB))):=propext Iff.rfl
noncomputable def Kta(fns:List Fn)(d:Nat)(b:E)(σ:Su)(X:XP)(QB:Bool->G->Prop)(z:Bool)(g:G):Prop:=bh z (lk (wpT fns d b σ g X QB)) (lk (QB false g))
theorem EY  : Kta fns d b σ X QB z g=(bh z (lk (wpT fns d b σ g X QB)) (lk (QB false g))):=propext Iff.rfl
noncomputable def Ktn(QB:Bool->G->Prop)(z:Bool)(g:G):Prop:=QB (!z) g
theorem DX  : Ktn QB z g=(QB (!z) g):=propext Iff.rfl
theorem zB  : wpT fns d (.and a b) σ g X QB ↔ wpT fns d a σ g X (Kta fns d b σ X QB):=EH
theorem z9  : wpT fns d (.not a) σ g X QB ↔ wpT fns d a σ g X (Ktn QB):=Fm
theorem AR  : wpT fns d (.var i) σ g X QB ↔ wpE fns d (.var i) σ g X (Ktr QB):=t_e rfl
theorem zX  : wpT fns d (.cmp cp a b) σ g X QB ↔ wpE fns d (.cmp cp a b) σ g X (Ktr QB):=t_e rfl
theorem xf  : wpT fns d (.call f es) σ g X QB ↔ wpE fns d (.call f es) σ g X (Ktr QB):=t_e rfl
noncomputable def Kac(fns:List Fn)(d:Nat)(es:List E)(σ:Su)(X:XP)(QB:Bool->G->Prop)(z:Bool)(g:G):Prop:=bh z (lk (wpA fns d es σ g X QB)) (lk (QB false g))
theorem EE  : Kac fns d es σ X QB z g=(bh z (lk (wpA fns d es σ g X QB)) (lk (QB false g))):=propext Iff.rfl
theorem xx  : wpA fns d (c :: es) σ g X QB ↔ wpT fns d c σ g X (Kac fns d es σ X QB):=zv
noncomputable def sV(Q:Iter->G->Prop)(x:U)(g:G):Prop:=oh (match x with | .int i=>some i | _=>none) <| lk λj=>bh (aV j) (lk (Q (.rng 0 j.toNat) g)) (lk False)
theorem Aa{Q:Iter->G->Prop}{j:Int}{g:G}:sV Q (.int j) g=bh (aV j) (lk (Q (.rng 0 j.toNat) g)) (lk False):=propext Iff.rfl
theorem yp  : wpI fns d (.rng1 a) σ g X QI ↔ wpE fns d a σ g X (sV QI):=CQ
noncomputable def k7(Q:Iter->G->Prop)(p:Iter×G):Prop:=Q p.1 p.2
theorem Bc{Q:Iter->G->Prop}{i:Iter}{g:G}:k7 Q (i,g)=Q i g:=propext Iff.rfl
noncomputable def Kit(QI:Iter->G->Prop)(u:U)(g:G):Prop:=oh (fU u g) (lk (k7 QI))
theorem E2  : Kit QI u g=(oh (fU u g) (lk (k7 QI))):=propext Iff.rfl
theorem BJ  : wpI fns d (.var i) σ g X QI ↔ wpE fns d (.var i) σ g X (Kit QI):=i_e rfl
theorem yL  : wpI fns d (.call f es) σ g X QI ↔ wpE fns d (.call f es) σ g X (Kit QI):=i_e rfl
theorem Dj  : wpI fns d (.bi bb es) σ g X QI ↔ wpE fns d (.bi bb es) σ g X (Kit QI):=i_e rfl
theorem zA  : wpI fns d (.idx a b) σ g X QI ↔ wpE fns d (.idx a b) σ g X (Kit QI):=i_e rfl
theorem z6  : wpI fns d (.tup es) σ g X QI ↔ wpE fns d (.tup es) σ g X (Kit QI):=i_e rfl
noncomputable def kU(fns:List Fn)(d:Nat)(ss:List S)(X:XP)(Q:Fl->G->Prop)(f:Fl)(g:G):Prop:=fS f (lk (λσ'=>wpS fns d ss σ' g X Q)) (lk λf=>Q f g)
theorem yd  : kU fns d ss X QF (.nx σ) g=(wpS fns d ss σ g X QF):=propext Iff.rfl
theorem yz  : kU fns d ss X QF (.rt u) g=(QF (.rt u) g):=propext Iff.rfl
theorem yv  : wpS fns d (s :: ss) σ g X QF ↔ wp1 fns d s σ g X (kU fns d ss X QF):=Ca
noncomputable def sX(QF:Fl->G->Prop)(u:U)(g:G):Prop:=QF (.rt u) g
theorem AV  : sX QF u g=(QF (.rt u) g):=propext Iff.rfl
theorem As  : wp1 fns d (.ret e) σ g X QF ↔ wpE fns d e σ g X (sX QF):=Ej
noncomputable def kO(g:G)(QF:Fl->G->Prop)(st:Su):Prop:=QF (.nx st) g
theorem B2  : kO g QF st=(QF (.nx st) g):=propext Iff.rfl
noncomputable def Kst(t:Tg)(σ:Su)(QF:Fl->G->Prop)(u:U)(g:G):Prop:=oh (ai t (unl t u g) σ) (lk (kO g QF))
theorem Eg  : Kst t σ QF u g=(oh (ai t (unl t u g) σ) (lk (kO g QF))):=propext Iff.rfl
theorem Bp  : wp1 fns d (.set t e) σ g X QF ↔ wpE fns d e σ g X (Kst t σ QF):=Cq
noncomputable def kK(u:U)(x:U)(σ:Su)(X:XP)(QF:Fl->G->Prop)(y:U)(g:G):Prop:=hk (subAt x y u σ g) X (lk QF)
theorem Cs  : kK u x σ X QF y g=(hk (subAt x y u σ g) X (lk QF)):=propext Iff.rfl
noncomputable def kQ(fns:List Fn)(d:Nat)(u:U)(b:E)(σ:Su)(X:XP)(QF:Fl->G->Prop)(x:U)(g:G):Prop:=wpE fns d b σ g X (kK u x σ X QF)
theorem AF  : kQ fns d u b σ X QF x g=(wpE fns d b σ g X (kK u x σ X QF)):=propext Iff.rfl
noncomputable def sJ(fns:List Fn)(d:Nat)(o:E)(b:E)(σ:Su)(X:XP)(QF:Fl->G->Prop)(u:U)(g:G):Prop:=wpE fns d o σ g X (kQ fns d u b σ X QF)
theorem AB  : sJ fns d o b σ X QF u g=(wpE fns d o σ g X (kQ fns d u b σ X QF)):=propext Iff.rfl
theorem CD  : wp1 fns d (.sub o b e) σ g X QF ↔ wpE fns d e σ g X (sJ fns d o b σ X QF):=Bn
noncomputable def kD(x:U)(σ:Su)(X:XP)(QF:Fl->G->Prop)(y:U)(g:G):Prop:=hk (b7 x y σ g) X (lk QF)
theorem AI  : kD x σ X QF y g=(hk (b7 x y σ g) X (lk QF)):=propext Iff.rfl
noncomputable def sM(fns:List Fn)(d:Nat)(b:E)(σ:Su)(X:XP)(QF:Fl->G->Prop)(x:U)(g:G):Prop:=wpE fns d b σ g X (kD x σ X QF)
theorem Bm  : sM fns d b σ X QF x g=(wpE fns d b σ g X (kD x σ X QF)):=propext Iff.rfl
theorem An  : wp1 fns d (.del o b) σ g X QF ↔ wpE fns d o σ g X (sM fns d b σ X QF):=BR
noncomputable def Kxp(σ:Su)(QF:Fl->G->Prop)(u:U)(g:G):Prop:=QF (.nx σ) g
theorem DE  : Kxp σ QF u g=(QF (.nx σ) g):=propext Iff.rfl
theorem Cw  : wp1 fns d (.exp e) σ g X QF ↔ wpE fns d e σ g X (Kxp σ QF):=Fp
noncomputable def Kif(fns:List Fn)(d:Nat)(A:List S)(B:List S)(σ:Su)(X:XP)(QF:Fl->G->Prop)(z:Bool)(g:G):Prop:=bh z (lk (wpS fns d A σ g X QF)) (lk (wpS fns d B σ g X QF))
theorem EO  : Kif fns d A B σ X QF z g=(bh z (lk (wpS fns d A σ g X QF)) (lk (wpS fns d B σ g X QF))):=propext Iff.rfl
theorem Ao  : wp1 fns d (.ife c A B) σ g X QF ↔ wpT fns d c σ g X (Kif fns d A B σ X QF):=AH
noncomputable def sC(fns:List Fn)(d:Nat)(t:Tg)(A:List S)(σ:Su)(X:XP)(QF:Fl->G->Prop)(it2:Iter)(g:G):Prop:=kF fns d t it2 0 A σ g X (lk QF)
theorem zJ  : sC fns d t A σ X QF it2 g=(kF fns d t it2 0 A σ g X (lk QF)):=propext Iff.rfl
theorem zm  : wp1 fns d (.for t it A) σ g X QF ↔ wpI fns d it σ g X (sC fns d t A σ X QF):=BC
noncomputable def Kfn(Q:U->G->Prop)(f:Fl)(g:G):Prop:=fC f (lk λu=>Q u g)
theorem zP{Q:U->G->Prop}{u:U}{g:G}:Kfn Q (.rt u) g=Q u g:=propext Iff.rfl
theorem zE{Q:U->G->Prop}{σ:Su}{g:G}:Kfn Q (.nx σ) g=Q .non g:=propext Iff.rfl
theorem av{fns:List Fn}{d:Nat}{X:XP}{g:G}{f:Nat}{F:Fn}{us:List U}{Q:U->G->Prop}(hf:fns[f]? = some F)(hl:us.length=F.np)(h:wpS fns d F.body (us.map some++List.replicate (F.ns - us.length) none) g X (Kfn Q)):wpC fns (d+1) f us g X Q:=(zp hf hl).2 h
end
theorem c8{xs:List U}{i:Nat}(h:i < xs.length):uix xs (i:Int)=xs[i]? := by
 unfold uix L2.atI L2.ixN;rw [if_pos (by omega),if_pos (by omega)]
 simp
theorem qF{xs:List U}{i:Int}(h0:0<=i)(h:i < xs.length):uix xs i=xs[i.toNat]? := by
 have:=c8 (xs:=xs) (i:=i.toNat) (by omega)
 rwa [Int.toNat_of_nonneg h0] at this
theorem Fs{x:U}{xs:List U}:uix (x :: xs) 0=some x:=c8 (i:=0) (by simp)
theorem Ez{x y:U}{xs:List U}:uix (x :: y :: xs) 1=some y:=c8 (i:=1) (by simp)
theorem DJ{x y z:U}{xs:List U}:uix (x :: y :: z :: xs) 2=some z:=c8 (i:=2) (by simp)
theorem C3{x y z a:U}{xs:List U}:uix (x :: y :: z :: a :: xs) 3=some a:=c8 (i:=3) (by simp)
theorem C9{x y z a b:U}{xs:List U}:uix (x :: y :: z :: a :: b :: xs) 4=some b:=c8 (i:=4) (by simp)
theorem DC{x y z a b c:U}{xs:List U}:uix (x :: y :: z :: a :: b :: c :: xs) 5=some c:=c8 (i:=5) (by simp)
noncomputable def small(i:Int):Prop := -dm < i/\i < dm
theorem cS{i:Int}(h:(decide (-18446744073709551616 < i) && decide (i < 18446744073709551616))=true):small i:=by simp at h;exact h
section
variable{i j:Int}{g:G}
theorem jL:op2 .add (.int i) (.int j)=some (.int (i+j)):=rfl
theorem jO:op2 .sub (.int i) (.int j)=some (.int (i - j)):=rfl
theorem Cf(h:0 < j):op2 .mod (.int i) (.int j)=some (.int (i % j)):=by simp only [op2,opZ,if_pos h]
theorem za(h:0 < j)(h':j < az):op2 .fdiv (.int i) (.int j)=some (.int (i / j)):=by simp only [op2,opZ,if_pos h,if_pos h']
theorem xB(h:small i):op2 .mul (.int i) (.int j)=some (.int (i*j)):=by
 obtain ⟨h1,h2⟩:=h;simp [op2,opZ,h1,h2]
theorem xD(h:small j):op2 .mul (.int i) (.int j)=some (.int (i*j)):=by
 obtain ⟨h1,h2⟩:=h;simp [op2,opZ,h1,h2]
theorem C1:cmp2 .eq (.int i) (.int j) g=some (decide (i=j)):=by
 simp only [cmp2,ueq,aA];congr 1
theorem Eh{a b:Bool}:cmp2 .eq (.bl a) (.bl b) g=some (a == b):=rfl
theorem EX{a b:PySem.Str}:cmp2 .eq (.str a) (.str b) g=some (a == b):=rfl
theorem Er{xs ys:List U}:cmp2 .eq (.tup xs) (.tup ys) g=aC xs ys:=rfl
theorem ql{xs ys:List U}:aC (.int i :: xs) (.int j :: ys)=(aC xs ys).map λc=>decide (i=j) && c:=by
 simp only [aC,aA];cases aC xs ys with
 | none=>rfl
 | some c=>simp only [Option.map_some];congr 1
theorem om:aC [] []=some true:=rfl
theorem Fy:cmp2 .ne (.int i) (.int j) g=some (!decide (i=j)):=by simp only [cmp2,ee,if_true,aA,Option.map_some];congr 1
theorem FY{x:U}:cmp2 .isN x .non g=some (bI x):=rfl
theorem DG{x:U}:cmp2 .notN x .non g=some (!bI x):=rfl
theorem cin{x y:U}:cmp2 .inn x y g=match items y g with | some ys=>uin x ys | none=>(aU x y g).map Option.isSome:=rfl
theorem su{x y:U}:cmp2 .nin x y g=match items y g with | some ys=>(uin x ys).map (!·) | none=>(aU x y g).map λo => !o.isSome:=rfl
theorem clt:cmp2 .lt (.int i) (.int j) g=some (decide (i < j)):=rfl
theorem cle:cmp2 .le (.int i) (.int j) g=some (decide (i<=j)):=rfl
theorem cgt:cmp2 .gt (.int i) (.int j) g=some (decide (j < i)):=rfl
theorem cge:cmp2 .ge (.int i) (.int j) g=some (decide (j<=i)):=rfl
end
section
variable{fns:List Fn}{d:Nat}{X:XP}{σ:Su}{g:G}
theorem j5{it:Iter}{t:Tg}{cs:List E}{elt:E}{Q:List U->G->Prop}{α:Type}(ys:List α)(enc:α->U)(c:α->Bool)(e:α->U)(Inv:G->Prop)
  (hn:∀ k g,Inv g->next it k g=some (ys.map enc)[k]?)
  (hs:∀ y,y∈ys->a8 t σ=true/\oh (ai t (enc y) σ) (lk λσ1 => ∀ g,Inv g->wpA fns d cs σ1 g (λ_ _ _=>False) λk g=>k=c y/\bh (c y) (lk (wpE fns d elt σ1 g (λ_ _ _=>False) λv g=>v=e y/\Inv g)) (lk (Inv g)))) :
  ∀ (n i:Nat) (acc:List U) (g:G),i+n=ys.length->acc.length+n < ab->Inv g->(∀ g,Inv g->Q (acc++((ys.drop i).filter c).map e) g)->wpM fns d it i t cs [] elt acc σ g X Q
 | 0,i,acc,g,e1,_,h,hq=>by
  rw [cD];refine ⟨none,by rw [hn _ _ h];simp;omega,?_⟩
  have:=hq g h;rw [List.drop_eq_nil_of_le (by omega)] at this
  simpa using this
 | n+1,i,acc,g,e1,hl,h,hq=>by
  have hi:i < ys.length:=by omega
  have hd:ys.drop i=ys[i] :: ys.drop (i+1):=List.drop_eq_getElem_cons hi;obtain ⟨hf,hs1⟩:=hs ys[i] (List.getElem_mem hi);obtain ⟨σ1,hb,hw⟩:=aO.2 hs1;rw [cD];refine ⟨some (enc ys[i]),by rw [hn _ _ h];simp [hi],hf,σ1,hb,wp_mono (hw g h) λk g q => ?_⟩
  obtain ⟨rfl,q⟩:=q;by_cases hc:c ys[i]=true
  .rw [if_pos hc]
   rw [hc] at q;refine wp_mono q λv g ⟨ev,hg⟩=>⟨by omega,?_⟩
   subst ev;refine j5 ys enc c e Inv hn hs n (i+1) _ g (by omega) (by simp;omega) hg λg hg => ?_
   have:=hq g hg;rw [hd,List.filter_cons_of_pos hc] at this;simpa using this
  .rw [if_neg hc]
   rw [Bool.not_eq_true] at hc;rw [hc] at q;refine j5 ys enc c e Inv hn hs n (i+1) _ g (by omega) (by omega) q λg hg => ?_
   have:=hq g hg;rw [hd,List.filter_cons_of_neg (by simp [hc])] at this
   exact this
theorem cH{it:Iter}{t:Tg}{cs:List E}{elt:E}{Q:List U->G->Prop}{α:Type}(ys:List α)(enc:α->U)(c:α->Bool)(e:α->U)(Inv:G->Prop)(L:List U)
  (hL:(ys.filter c).map e=L)
  (hn:∀ k g,Inv g->next it k g=some (ys.map enc)[k]?)
  (hs:∀ y,y∈ys->a8 t σ=true/\oh (ai t (enc y) σ) (lk λσ1 => ∀ g,Inv g->wpA fns d cs σ1 g (λ_ _ _=>False) λk g=>k=c y/\bh (c y) (lk (wpE fns d elt σ1 g (λ_ _ _=>False) λv g=>v=e y/\Inv g)) (lk (Inv g))))
  (hl:ys.length < 16777000) (h0:Inv g) (hq:∀ g,Inv g->Q L g):wpM fns d it 0 t cs [] elt [] σ g X Q :=
 j5 ys enc c e Inv hn hs ys.length 0 [] g (Nat.zero_add _) (by simpa [ab] using hl) h0 λg hg=>by
  have:=hq g hg;rw [<-hL] at this;simpa using this
theorem cO{t:Tg}{it:Iter}{b:List S}{Q:Fl->G->Prop}(us:List U)(Inv:Nat->Su->G->Prop)
  (hn:∀ k σ g,Inv k σ g->next it k g=some us[k]?) (h0:Inv 0 σ g)
  (hs:∀ k u σ g,us[k]? = some u->Inv k σ g->oh (ai t u σ) (lk λσ1=>wpS fns d b σ1 g X λf g=>fL f (lk (λσ'=>Inv (k+1) σ' g)) (lk λf=>Q f g)))
  (hq:∀ σ g,Inv us.length σ g->Q (.nx σ) g):wpF fns d t it 0 b σ g X Q:=fG us Inv hn hs hq us.length 0 σ g (Nat.zero_add _) h0
end
theorem wa{α:Type}{l:List α}:(l.filter λ_=>true)=l:=List.filter_eq_self.mpr (by simp)
noncomputable abbrev eA(g:G)(xs:List U)(Q:U->G->Prop):Prop := ∀ gs n,g.length<=n->(g++gs)[n]? = some (.lst xs)->Q (.ref n) (g++gs)
inductive Dt where
 | non | bl (b:Bool) | int (i:Int) | str (s:PySem.Str) | tup (ds:List Dt) | lst (ds:List Dt)
mutual
noncomputable def Rep(g:G):Dt->U->Prop
 | .non,u=>u=.non
 | .bl b,u=>u=.bl b
 | .int i,u=>u=.int i
 | .str s,u=>u=.str s
 | .tup ds,u => ∃ us,u=.tup us/\Reps g ds us
 | .lst ds,u => ∃ n us,u=.ref n/\g[n]? = some (.lst us)/\Reps g ds us
noncomputable def Reps(g:G):List Dt->List U->Prop
 | [],us=>us=[]
 | d :: ds,us => ∃ v vs,us=v :: vs/\Rep g d v/\Reps g ds vs
end
noncomputable def Dt.ok:Nat->Dt->Prop
 | 0,_=>False
 | n+1,.tup ds=>ds.length < 1000000 /\ ∀ D∈ds,D.ok n
 | n+1,.lst ds=>ds.length < 1000000 /\ ∀ D∈ds,D.ok n
 | _+1,_=>True
theorem Reps.length{g:G}:∀ {ds:List Dt} {us:List U},Reps g ds us->us.length=ds.length
 | [],_,h=>by cases h;rfl
 | _ :: ds,_,h=>by obtain ⟨v,vs,rfl,_,h2⟩:=h;simp [Reps.length h2]
theorem Reps.get{g:G}:∀ {ds:List Dt} {us:List U} {i:Nat} {D:Dt},Reps g ds us->ds[i]? = some D -> ∃ v,us[i]? = some v/\Rep g D v
 | [],_,_,_,_,e=>by simp at e
 | x :: ds,_,0,D,h,e=>by
  obtain ⟨v,vs,rfl,h1,_⟩:=h;simp at e;subst e;exact ⟨v,by simp,h1⟩
 | x :: ds,_,i+1,D,h,e=>by
  obtain ⟨v,vs,rfl,_,h2⟩:=h;obtain ⟨w,e1,e2⟩:=Reps.get (i:=i) (D:=D) h2 (by simpa using e)
  exact ⟨w,by simpa using e1,e2⟩
structure Plan where
 w:Int
 d:Int
 s:Int
noncomputable abbrev Pt:=Int×Int
noncomputable abbrev uPl(P:Plan):U := .tup [.int P.w,.int P.d,.int P.s]
noncomputable abbrev uP(p:Pt):U := .tup [.int p.1,.int p.2]
structure Plan.ok(P:Plan):Prop where
 w:P.w=1\/P.w=2\/P.w=3
 d:P.d=1\/P.d=2\/P.d=3
 s:P.s=2\/P.s=4\/P.s=8
theorem Plan.ok.sd{P:Plan}(h:P.ok):small P.d:=by rcases h.d with e | e | e <;> rw [e] <;> exact cS (by decide)
theorem Plan.ok.ss{P:Plan}(h:P.ok):small P.s:=by rcases h.s with e | e | e <;> rw [e] <;> exact cS (by decide)
theorem Plan.ok.s0{P:Plan}(h:P.ok):0 < P.s:=by rcases h.s with e | e | e <;> rw [e] <;> decide
theorem Plan.ok.sb{P:Plan}(h:P.ok):P.s < az:=by rcases h.s with e | e | e <;> rw [e] <;> decide
theorem Plan.ok.ws{P:Plan}(h:P.ok):2<=P.w*P.s/\P.w*P.s<=24:=by rcases h.w with e | e | e <;> rcases h.s with f | f | f <;> rw [e,f] <;> decide
theorem Plan.ok.ds{P:Plan}(h:P.ok):2<=P.d*P.s/\P.d*P.s<=24:=by rcases h.d with e | e | e <;> rcases h.s with f | f | f <;> rw [e,f] <;> decide
noncomputable def aH(P:Plan)(p:Pt):Bool:=decide (0<=p.1) && decide (p.1<=P.w*P.s) && decide (0<=p.2) && decide (p.2<=P.d*P.s)
noncomputable def aX(P:Plan)(p:Pt):Bool:=decide (p.1 % P.s=0) && decide (p.2 % P.s=0)
noncomputable def ran(n:Int):List Int:=(List.range n.toNat).map λ(i:Nat)=>(i:Int)
theorem bg(n:Int):(ran n).length=n.toNat:=by simp [ran]
theorem pS{n i:Int}:i∈ran n ↔ 0<=i/\i < n:=by
 simp only [ran,List.mem_map,List.mem_range];exact ⟨λ⟨k,h,e⟩=>by omega,λ⟨h,k⟩=>⟨i.toNat,by omega,by omega⟩⟩
theorem cX{j:Int}{k:Nat}{g:G}:next (.rng 0 j.toNat) k g=some ((ran j).map U.int)[k]? := by
 simp only [next,ran];by_cases h:k < j.toNat
 .simp [h]
 .simp [h]
theorem aS{n:Nat}{xs:List U}{k:Nat}{g:G}(h:g[n]? = some (.lst xs)):next (.lst n) k g=some xs[k]? := by
 simp only [next,h]
theorem vN{xs:List U}{k:Nat}{g:G}:next (.seq xs) k g=some xs[k]? := rfl
noncomputable def bW(P:Plan):List Pt:=(ran (P.w*P.s+1)).flatMap λx=>(ran (P.d*P.s+1)).map λy=>(x,y)
noncomputable def au(P:Plan):List Pt:=(bW P).filter λp => !aX P p
theorem uo{P:Plan}{p:Pt}:p∈bW P ↔ aH P p=true:=by
 obtain ⟨x,y⟩:=p;simp only [bW,List.mem_flatMap,List.mem_map,pS,aH,Bool.and_eq_true,decide_eq_true_eq];constructor
 .rintro ⟨a,h1,b,h2,e⟩
  cases e;omega
 .intro h
  exact ⟨x,by omega,y,by omega,rfl⟩
theorem ju{α β:Type}{f:α->List β}{B:Nat}:∀ {l:List α},(∀ a∈l,(f a).length<=B)->(l.flatMap f).length<=l.length*B
 | [],_=>by simp
 | a :: l,h=>by
  rw [List.flatMap_cons,List.length_append,List.length_cons,Nat.succ_mul];have h1:=h a (by simp)
  have h2:=ju (f:=f) (B:=B) (l:=l) λb hb=>h b (by simp [hb])
  omega
theorem l4{P:Plan}(h:P.ok):(bW P).length<=625:=by
 have h1:=h.ws;have h2:=h.ds;have:=ju (f:=λx=>(ran (P.d*P.s+1)).map λy=>((x,y):Pt)) (B:=25) (l:=ran (P.w*P.s+1)) λa _=>by simp [bg];omega
 have h3:(ran (P.w*P.s+1)).length<=25:=by rw [bg];omega
 have h4:(ran (P.w*P.s+1)).length*25<=25*25:=Nat.mul_le_mul_right _ h3;unfold bW;omega
theorem aG{g gs:G}{n:Nat}{o:O}(h:g[n]? = some o):(g++gs)[n]? = some o:=by
 rw [List.getElem?_append_left (List.getElem?_eq_some_iff.mp h).1];exact h
theorem aj{g:G}{o:O}:(g++[o])[g.length]? = some o:=by simp
theorem gy{g gs:G}{xs:List U}{Q:U->G->Prop}(h:eA g xs Q)(hl:xs.length<=16777000):xs.length<=16777000/\Q (.ref (g++gs).length) (g++gs++[.lst xs]):=by
 refine ⟨hl,?_⟩;have:=h (gs++[.lst xs]) (g++gs).length (by simp) (by rw [<-List.append_assoc];exact aj)
 rw [<-List.append_assoc] at this;exact this
noncomputable def kH(xs:List Int)(lo hi:Option Int):List Int:=(xs.drop (HT.sIx xs.length 0 lo)).take (HT.sIx xs.length xs.length hi - HT.sIx xs.length 0 lo)
theorem xu(ns:List Int)(l h:Option Int):bK (ns.map U.int) l h=(kH ns l h).map U.int:=by
 unfold bK kH;rw [List.length_map,<-List.map_drop,<-List.map_take]
noncomputable abbrev cb(c:Nat)(at_ seed:Int):O := .lst [.ref c,.int at_,.int seed]
noncomputable def Bag(g:G):Prop := ∃ (xs:List Int) (at_ seed:Int),g[1]? = some (.lst (xs.map .int))/\g[2]? = some (cb 1 at_ seed)
structure Fr(g g':G):Prop where
 bag:Bag g'
 len:g.length<=g'.length
 get:∀ (k:Nat) (o:O),3<=k->g[k]? = some o->g'[k]? = some o
theorem Bag.app{g gs:G}(h:Bag g):Bag (g++gs):=let ⟨xs,a,s,h1,h2⟩:=h;⟨xs,a,s,aG h1,aG h2⟩
theorem Bag.len{g:G}(h:Bag g):3<=g.length:=by obtain ⟨xs,a,s,h1,h2⟩:=h;exact (List.getElem?_eq_some_iff.mp h2).1
theorem Fr.app{g gs:G}(h:Bag g):Fr g (g++gs):=⟨h.app,by simp,λk o _ e=>aG e⟩
theorem Fr.refl{g:G}(h:Bag g):Fr g g:=⟨h,GA _,λk o _ e=>e⟩
theorem Fr.trans{a b c:G}(h:Fr a b)(k:Fr b c):Fr a c:=⟨k.bag,Gy h.len k.len,λi o hi e=>k.get i o hi (h.get i o hi e)⟩
noncomputable def iw(xs:List Int)(at_:Int):Int:=if h:0 < xs.length then xs.getD (at_ % xs.length).toNat 0 else 0
theorem jJ{xs:List Int}{at_:Int}(h:0 < xs.length):0<=at_ % (xs.length:Int)/\at_ % (xs.length:Int) < xs.length:=⟨Int.emod_nonneg _ (by omega),Int.emod_lt_of_pos _ (by omega)⟩
theorem v5{xs:List Int}{at_:Int}(h:0 < xs.length):uix (xs.map U.int) (at_ % xs.length)=some (.int (iw xs at_)):=by
 obtain ⟨h1,h2⟩:=jJ (at_:=at_) h;rw [qF h1 (by simpa using h2)]
 have:(at_ % (xs.length:Int)).toNat < xs.length:=by omega
 simp [iw,h,List.getElem?_eq_getElem this,List.getD]
theorem yT{xs:List Int}{at_:Int}(h:0 < xs.length):L2.ixN xs.length (at_ % xs.length)=some (at_ % xs.length).toNat:=by
 obtain ⟨h1,h2⟩:=jJ (at_:=at_) h;unfold L2.ixN;rw [if_pos h1,if_pos h2]
noncomputable def dP(p:Pt):Dt := .tup [.int p.1,.int p.2]
theorem oi:op2 .pow (.int 10) (.int 18)=some (.int 1000000000000000000):=by simp [op2,opZ]
theorem je{n:Nat}{xs:List U}{k:Int}{u:U}{σ:Su}{g:G}(h:g[n]? = some (.lst xs))(h0:0<=k)(h1:k < xs.length):subAt (.ref n) (.int k) u σ g=.ok (.nx σ) (g.set n (.lst (xs.set k.toNat u))):=by
 simp only [subAt,kz,h];unfold L2.ixN;rw [if_pos h0,if_pos h1]
theorem ni{n:Nat}{xs:List U}{y:U}{g:G}(h:g[n]? = some (.lst xs))(hl:xs.length < 16777000):b6 n y g=.ok .non (g.set n (.lst (xs++[y]))):=by
 simp only [b6,h];rw [if_pos (by simpa [ab] using hl)]
theorem uK{xs:List U}{y:U}{g:G}(hl:xs.length < 16777000):b6 g.length y (g++[.lst xs])=.ok .non (g++[.lst (xs++[y])]):=by
 rw [ni aj hl];simp
theorem a7{g:G}{n:Nat}{o o':O}(h:g[n]? = some o):(g.set n o')[n]? = some o':=List.getElem?_set_self (List.getElem?_eq_some_iff.mp h).1
theorem Fr.set1{g:G}(h:Bag g)(xs:List Int):Fr g (g.set 1 (.lst (xs.map U.int))):=by
 obtain ⟨ys,a,s,h1,h2⟩:=h;refine ⟨⟨xs,a,s,a7 h1,by rw [List.getElem?_set_ne (by decide)];exact h2⟩,by simp,λk o hk e=>by rw [List.getElem?_set_ne (by omega)];exact e⟩
theorem Fr.set2{g:G}(h:Bag g)(a' s':Int):Fr g (g.set 2 (cb 1 a' s')):=by
 obtain ⟨ys,a,s,h1,h2⟩:=h;refine ⟨⟨ys,a',s',by rw [List.getElem?_set_ne (by decide)];exact h1,a7 h2⟩,by simp,λk o hk e=>by rw [List.getElem?_set_ne (by omega)];exact e⟩
noncomputable def stride(p:Pt):Int:=if p.1 % 4=0/\p.2 % 4=0 then 4 else if p.1 % 2=0/\p.2 % 2=0 then 2 else 1
theorem eT(p:Pt):(stride p=4/\p.1 % 4=0/\p.2 % 4=0)\/(stride p=2/\p.1 % 2=0/\p.2 % 2=0)\/stride p=1:=by
 unfold stride;by_cases h:p.1 % 4=0/\p.2 % 4=0
 .rw [if_pos h];exact .inl ⟨rfl,h⟩
 .rw [if_neg h]
  by_cases k:p.1 % 2=0/\p.2 % 2=0
  .rw [if_pos k];exact .inr (.inl ⟨rfl,k⟩)
  .rw [if_neg k];exact .inr (.inr rfl)
theorem eJ(p:Pt):0 < stride p/\stride p<=4:=by rcases eT p with ⟨e,_⟩ | ⟨e,_⟩ | e <;> rw [e] <;> decide
theorem lO(p:Pt):small (stride p):=by rcases eT p with ⟨e,_⟩ | ⟨e,_⟩ | e <;> rw [e] <;> exact cS (by decide)
theorem gv(p:Pt):stride p < az:=by rcases eT p with ⟨e,_⟩ | ⟨e,_⟩ | e <;> rw [e] <;> decide
theorem nK(p:Pt):2*stride p < az:=by rcases eT p with ⟨e,_⟩ | ⟨e,_⟩ | e <;> rw [e] <;> decide
noncomputable def bZ(p:Pt):Bool:=decide (p.1 / stride p % 2=1) && decide (p.2 / stride p % 2=1)
noncomputable abbrev Pr:=Pt×Pt
noncomputable def lying(p:Pt):Pr:=((p.1 - stride p,p.2),(p.1+stride p,p.2))
noncomputable def upright(p:Pt):Pr:=((p.1,p.2 - stride p),(p.1,p.2+stride p))
noncomputable def rising(p:Pt):Pr:=((p.1 - stride p,p.2 - stride p),(p.1+stride p,p.2+stride p))
noncomputable def falling(p:Pt):Pr:=((p.1 - stride p,p.2+stride p),(p.1+stride p,p.2 - stride p))
noncomputable def dq(p:Pt):Pr×Pr:=if p.1 / stride p % 2=1 then (lying p,upright p) else (upright p,lying p)
noncomputable def d7(p:Pt):Prop:=((p.1 - stride p) / (2*stride p)+(p.2 - stride p) / (2*stride p)) % 2=0
instance(p:Pt):Decidable (d7 p):=by unfold d7;infer_instance
noncomputable def c6(p:Pt):Pr×Pr:=if d7 p then (rising p,falling p) else (falling p,rising p)
noncomputable def aN(p:Pt):Pr×Pr:=if bZ p=true then c6 p else dq p
noncomputable abbrev u2(q:Pr):U := .tup [uP q.1,uP q.2]
noncomputable abbrev u4(q:Pr×Pr):U := .tup [u2 q.1,u2 q.2]
theorem vD{p:Pt}(h:bZ p=true):(p.1 - stride p+p.2 - stride p) / (2*stride p) % 2=0 ↔ d7 p:=by
 have hd:2*stride p ∣ p.1 - stride p:=by
  simp only [bZ,Bool.and_eq_true,decide_eq_true_eq] at h;have h:=h.1;rcases eT p with ⟨e,f⟩ | ⟨e,f⟩ | e <;> rw [e] at h ⊢ <;> omega
 unfold d7;rw [show p.1 - stride p+p.2 - stride p=(p.1 - stride p)+(p.2 - stride p) from Int.add_sub_assoc ..,Int.add_ediv_of_dvd_left hd]
noncomputable def parentsM(P:Plan)(p:Pt):List Pt:=[(aN p).2.1,(aN p).2.2].filter λq=>aH P q && !aX P q
theorem dA(P:Plan)(p:Pt):(parentsM P p).length<=2:=List.length_filter_le _ _
theorem cU{P:Plan}{p:Pt}:p∈au P ↔ aH P p=true/\aX P p=false:=by
 unfold au;rw [List.mem_filter,uo];simp
noncomputable def et(P:Plan)(p:Pt)(t:Int×Int):Int×Int:=if stride p < t.1 then (t.1 / 2,t.2+2) else t
noncomputable def bp(P:Plan)(p:Pt):Int:=if bZ p=true then (et P p (et P p (et P p (P.s / 2,0)))).2 else (et P p (et P p (et P p (P.s / 2,0)))).2+1
noncomputable def j4:List Plan:=[1,2,3].flatMap λw=>[1,2,3].flatMap λd=>[2,4,8].map λs=>⟨w,d,s⟩
theorem nh{P:Plan}(h:P.ok):P∈j4:=by
 have m3:∀ {x a b c:Int},x=a\/x=b\/x=c->x∈[a,b,c]:=λh=>by simpa using h
 exact List.mem_flatMap.mpr ⟨P.w,m3 h.w,List.mem_flatMap.mpr ⟨P.d,m3 h.d,List.mem_map.mpr ⟨P.s,m3 h.s,rfl⟩⟩⟩
theorem vd:(j4.all λP=>(au P).all λp=>(parentsM P p).all (λq=>decide (bp P q+1=bp P p)) && ((parentsM P p).isEmpty == decide (bp P p=0)) && decide (0<=bp P p) && decide (bp P p<=5))=true:=by decide +kernel
theorem md{P:Plan}(h:P.ok){p:Pt}(hp:p∈au P):(∀ q∈parentsM P p,bp P q+1=bp P p)/\((parentsM P p=[]) ↔ bp P p=0)/\0<=bp P p/\bp P p<=5:=by
 have:=List.all_eq_true.mp (List.all_eq_true.mp vd P (nh h)) p hp;simp only [Bool.and_eq_true,List.all_eq_true,decide_eq_true_eq,beq_iff_eq] at this;obtain ⟨⟨⟨h1,h2⟩,h3⟩,h4⟩:=this;refine ⟨h1,?_,h3,h4⟩;rw [<-List.isEmpty_iff,h2];simp
theorem gM{g:G}{Q:U->G->Prop}{p q:List U}{a b c d:O}{i j n m:Nat}(h:∀ gs n i j,(g++gs)[n]? = some (.lst [.ref i,.ref j])->(g++gs)[i]? = some (.lst p)->(g++gs)[j]? = some (.lst q)->Q (.ref n) (g++gs))(hi:[a,b,c,d][i]? = some (.lst p))(hj:[a,b,c,d][j]? = some (.lst q))(hn:n=g.length+i)(hm:m=g.length+j):
  Q (.ref (g++[a]++[b]++[c]++[d]).length) (g++[a]++[b]++[c]++[d]++[.lst [.ref n,.ref m]]):=by
 subst hn hm;have key:∀ (k:Nat) (o:O),[a,b,c,d][k]? = some o->(g++([a,b,c,d]++[.lst [.ref (g.length+i),.ref (g.length+j)]]))[g.length+k]? = some o:=λk o e=>by
  rw [List.getElem?_append_right (by omega),Nat.add_sub_cancel_left]
  exact aG e
 have:=h ([a,b,c,d]++[.lst [.ref (g.length+i),.ref (g.length+j)]]) (g++[a]++[b]++[c]++[d]).length (g.length+i) (g.length+j) (by simp) (key i _ hi) (key j _ hj)
 simpa using this
theorem Fc{k i:Int}{xs:List U}:uin (.int k) (.int i :: xs)=(uin (.int k) xs).map λc=>decide (i=k) || c:=by
 simp only [uin,ueq,aA];cases uin (.int k) xs with
 | none=>rfl
 | some c=>simp only [Option.map_some];congr 1
theorem pR{x:U}:uin x []=some false:=rfl
noncomputable def d2(q:Pr):Dt := .tup [dP q.1,dP q.2]
theorem gI{α:Type}{l:List α}{f:α->U}{i:Int}(h0:0<=i)(h:i < l.length):∃ a∈l,uix (l.map f) i=some (f a):=by
 have hi:i.toNat < l.length:=by omega
 refine ⟨l[i.toNat],List.getElem_mem hi,?_⟩;rw [qF h0 (by simpa using h)]
 simp [hi]
noncomputable def ltP(p q:Pt):Prop:=p.1 < q.1\/(p.1=q.1/\p.2 < q.2)
instance(p q:Pt):Decidable (ltP p q):=by unfold ltP;infer_instance
noncomputable def bB(p:Pt):List Pt:=if bZ p=true then [(p.1 - stride p,p.2),(p.1,p.2 - stride p),(p.1,p.2+stride p),(p.1+stride p,p.2)]
 else if 1 < stride p then [(p.1 - stride p / 2,p.2 - stride p / 2),(p.1 - stride p / 2,p.2+stride p / 2),(p.1+stride p / 2,p.2 - stride p / 2),(p.1+stride p / 2,p.2+stride p / 2)] else []
noncomputable def childrenM(P:Plan)(p:Pt):List Pt:=(bB p).filter (aH P)
noncomputable def sS(i:Int):Int:=if i < 0 then -i else i
noncomputable def gT:List Pt->Bool
 | a :: b :: l=>decide (ltP a b) && gT (b :: l)
 | _=>true
theorem u7:(j4.all λP=>(au P).all λp=>(parentsM P p).all (λr=>decide (p∈childrenM P r)) && (childrenM P p).all (λc => !aX P c && decide (sS (c.1 - p.1)<=4) && decide (p∈parentsM P c)) && gT (childrenM P p))=true:=by decide +kernel
theorem vf{p q r:Pt}(h:ltP p q)(k:ltP q r):ltP p r:=by unfold ltP at h k ⊢;omega
theorem mh:∀ {l:List Pt},gT l=true->l.Pairwise ltP
 | [],_ => .nil
 | [a],_=>by simp
 | a :: b :: l,h=>by
  simp only [gT,Bool.and_eq_true,decide_eq_true_eq] at h;have ih:=mh h.2;rw [List.pairwise_cons];refine ⟨λx hx => ?_,ih⟩;rcases List.mem_cons.mp hx with rfl | hx
  .exact h.1
  .exact vf h.1 ((List.pairwise_cons.mp ih).1 x hx)
theorem mH{P:Plan}(h:P.ok){p:Pt}(hp:p∈au P):(∀ r∈parentsM P p,p∈childrenM P r)/\(∀ c∈childrenM P p,aX P c=false/\sS (c.1 - p.1)<=4/\p∈parentsM P c)/\(childrenM P p).Pairwise ltP:=by
 have:=List.all_eq_true.mp (List.all_eq_true.mp u7 P (nh h)) p hp;simp only [Bool.and_eq_true,List.all_eq_true,decide_eq_true_eq] at this;obtain ⟨⟨h1,h2⟩,h3⟩:=this;exact ⟨h1,λc hc=>⟨by simpa using (h2 c hc).1.1,(h2 c hc).1.2,(h2 c hc).2⟩,mh h3⟩
theorem ud{P:Plan}{p c:Pt}(h:c∈childrenM P p):aH P c=true:=(List.mem_filter.mp h).2
theorem nB{P:Plan}(h:P.ok){p q:Pt}(hp:p∈au P):q∈childrenM P p ↔ q∈au P/\p∈parentsM P q:=by
 constructor
 .intro hq
  obtain ⟨_,h2,_⟩:=mH h hp;exact ⟨cU.mpr ⟨ud hq,(h2 q hq).1⟩,(h2 q hq).2.2⟩
 .rintro ⟨hq,hpq⟩
  exact (mH h hq).1 p hpq
theorem rC{p:Pt}:∀ {l:List Pt},uin (uP p) (l.map uP)=some (decide (p∈l))
 | []=>by simp [pR]
 | q :: l=>by
  have:ueq (uP q) (uP p)=some (decide (q=p)):=by
   simp only [ueq,ql,om,Option.map_some,Bool.and_true];congr 1;rw [Bool.eq_iff_iff];simp only [Bool.and_eq_true,decide_eq_true_eq,Prod.ext_iff]
  simp only [List.map_cons,uin,this,rC (l:=l),List.mem_cons];congr 1;rw [Bool.eq_iff_iff];simp only [Bool.or_eq_true,decide_eq_true_eq];exact or_congr eq_comm Iff.rfl
structure Tri where
 ax:Int
 ay:Int
 bx:Int
 bY:Int
 cx:Int
 cy:Int
deriving DecidableEq
theorem i5{n:Nat}{xs:List U}{y:U}{g:G}(h:g[n]? = some (.lst (xs++[y]))):cM n g=.ok y (g.set n (.lst xs)):=by
 simp only [cM,h];simp
theorem jb{n m:Nat}{xs ys:List U}{g:G}(h:g[n]? = some (.lst xs))(k:g[m]? = some (.lst ys))(hl:xs.length+ys.length < 16777000):cG n (.ref m) g=.ok .non (g.set n (.lst (xs++ys))):=by
 simp only [cG,asL,h,k];rw [if_pos (by simpa [ab] using hl)]
noncomputable def dT(t:Tri):Dt := .tup [.int t.ax,.int t.ay,.int t.bx,.int t.bY,.int t.cx,.int t.cy]
theorem pk{α:Type}{l:List α}{a:α}:(l++[a]).isEmpty=false:=by cases l <;> rfl
noncomputable def big(i:Int):Prop := -az < i/\i < az
noncomputable def mid(i:Int):Prop := -10000000000000000000000000000 < i/\i < 10000000000000000000000000000
theorem mid.big{i:Int}(h:mid i):big i:=by unfold mid at h;unfold PI.big az;omega
structure NT where
 a:Nat
 b:Nat
 c:Nat
 d:Nat
 e:Nat
 f:Nat
theorem inL{P:Plan}{p:Pt}:aH P p=true ↔ 0<=p.1/\p.1<=P.w*P.s/\0<=p.2/\p.2<=P.d*P.s:=by
 simp only [aH,Bool.and_eq_true,decide_eq_true_eq,and_assoc]
theorem jf{n:Nat}{kvs:List (List Int×U)}{us:List U}{k:List Int}{u:U}{σ:Su}{g:G}(h:g[n]? = some (.dic kvs))(hk:intsOf us=some k)(hl:kvs.length < 16777000):subAt (.ref n) (.tup us) u σ g=.ok (.nx σ) (g.set n (.dic (dput kvs k u))):=by
 simp only [subAt,k9,h,hk];rw [if_pos (by simpa [ab] using hl)]
noncomputable def s8(a b:Int):List Int:=(List.range (b - a).toNat).map λ(i:Nat)=>a+(i:Int)
noncomputable abbrev tf(t:Tri):Int:=best true t.ax [t.bx,t.cx]
noncomputable abbrev tJ(t:Tri):Int:=best true t.ay [t.bY,t.cy]
noncomputable abbrev sR(t:Tri):Int:=best false t.ax [t.bx,t.cx]
noncomputable abbrev tH(t:Tri):Int:=best false t.ay [t.bY,t.cy]
noncomputable def Ba(t:Tri)(p:Pt):Bool:=decide (tf t<=p.1) && decide (p.1<=sR t) && (decide (tJ t<=p.2) && decide (p.2<=tH t))
noncomputable def j3(ax ay bx by_:Int)(p:Pt):Int:=(bx - ax)*(p.2 - ay) - (by_ - ay)*(p.1 - ax)
noncomputable abbrev tu1(t:Tri)(p:Pt):Int:=j3 t.ax t.ay t.bx t.bY p
noncomputable abbrev tu2(t:Tri)(p:Pt):Int:=j3 t.bx t.bY t.cx t.cy p
noncomputable abbrev tu3(t:Tri)(p:Pt):Int:=j3 t.cx t.cy t.ax t.ay p
noncomputable def zj(t:Tri)(p:Pt):Bool:=Ba t p && (decide (0<=best true (tu1 t p) [tu2 t p,tu3 t p]) || decide (best false (tu1 t p) [tu2 t p,tu3 t p]<=0))
noncomputable def underM(t:Tri):List Pt:=(s8 (tf t) (sR t+1)).flatMap λx=>((s8 (tJ t) (tH t+1)).filter λy=>zj t (x,y)).map λy=>(x,y)
noncomputable def Av(a b c:Pt):Int:=(b.1 - a.1)*(c.2 - a.2) - (c.1 - a.1)*(b.2 - a.2)
noncomputable def ptC(t:Tri):Pt:=(t.cx,t.cy)
noncomputable def sk(t:Tri):Prop:=(-100<=t.ax/\t.ax<=100)/\(-100<=t.ay/\t.ay<=100)/\(-100<=t.bx/\t.bx<=100)/\(-100<=t.bY/\t.bY<=100)/\(-100<=t.cx/\t.cx<=100)/\(-100<=t.cy/\t.cy<=100)
section
variable{fns:List Fn}{d:Nat}{σ:Su}{X:XP}
theorem pA{it:Iter}{t:Tg}{elt:E}{Q:List U->G->Prop}(us:List U)(Pr:U->Prop)(Inv:G->Prop)
  (hn:∀ k g,Inv g->next it k g=some us[k]?)
  (hs:∀ u,u∈us->a8 t σ=true/\oh (ai t u σ) (lk λσ1 => ∀ g,Inv g->wpE fns d elt σ1 g (λ_ _ _=>False) λv g=>Pr v/\Inv g)) :
  ∀ (n i:Nat) (acc:List U) (g:G),i+n=us.length->acc.length+n < ab->Inv g->(∀ vs g,vs.length=n->(∀ v∈vs,Pr v)->Inv g->Q (acc++vs) g)->wpM fns d it i t [] [] elt acc σ g X Q
 | 0,i,acc,g,e1,_,h,hq=>by
  rw [cD];refine ⟨none,by rw [hn _ _ h];simp;omega,?_⟩
  have:=hq [] g rfl (by simp) h
  simpa using this
 | n+1,i,acc,g,e1,hl,h,hq=>by
  have hi:i < us.length:=by omega
  obtain ⟨hf,hs1⟩:=hs us[i] (List.getElem_mem hi);obtain ⟨σ1,hb,hw⟩:=aO.2 hs1;rw [cD];refine ⟨some us[i],by rw [hn _ _ h];simp [hi],hf,σ1,hb,kh.2 ?_⟩
  rw [if_pos rfl];refine wp_mono (hw g h) λv g ⟨ev,hg⟩=>⟨by omega,?_⟩
  refine pA us Pr Inv hn hs n (i+1) _ g (by omega) (by simp;omega) hg λvs g h1 h2 h3 => ?_
  have:=hq (v :: vs) g (by simp [h1]) (λx hx=>by rcases List.mem_cons.mp hx with rfl | z;exact ev;exact h2 x z) h3
  simpa using this
theorem AL{it:Iter}{t:Tg}{elt:E}{Q:List U->G->Prop}{g:G}(us:List U)(Pr:U->Prop)(Inv:G->Prop)
  (hn:∀ k g,Inv g->next it k g=some us[k]?)
  (hs:∀ u,u∈us->a8 t σ=true/\oh (ai t u σ) (lk λσ1 => ∀ g,Inv g->wpE fns d elt σ1 g (λ_ _ _=>False) λv g=>Pr v/\Inv g))
  (hl:us.length < 16777000) (h0:Inv g) (hq:∀ vs g,vs.length=us.length->(∀ v∈vs,Pr v)->Inv g->Q vs g):wpM fns d it 0 t [] [] elt [] σ g X Q :=
 pA us Pr Inv hn hs us.length 0 [] g (Nat.zero_add _) (by simpa [ab] using hl) h0 λvs g h1 h2 h3=>by simpa using hq vs g h1 h2 h3
end
noncomputable def aL(p:Pt):List Int:=[p.1,p.2]
theorem eU{p q:Pt}(h:aL p=aL q):p=q:=by
 obtain ⟨a,b⟩:=p;obtain ⟨c,d⟩:=q;simpa [aL] using h
theorem hJ{a b:Int}:intsOf [.int a,.int b]=some (aL (a,b)):=rfl
noncomputable def dM{α:Type}(key:α->List Int)(f:α->U)(ps:List α):List (List Int×U):=ps.map λq=>(key q,f q)
theorem qw{α:Type}{key:α->List Int}(hi:∀ a b,key a=key b->a=b){f:α->U}{a:α}:∀ {ps:List α},a∈ps->ba (dM key f ps) (key a)=some (f a)
 | [],h=>nomatch h
 | b :: r,h=>by
  unfold ba dM;rw [List.map_cons,List.find?_cons];by_cases e:key b=key a
  .have:=hi _ _ e;subst this;simp
  .have h':a∈r:=by
    rcases List.mem_cons.mp h with z | z
    .subst z;exact absurd rfl e
    .exact z
   have ih:=qw hi (f:=f) h';unfold ba dM at ih;simp only [e,decide_false];exact ih
theorem wG{α:Type}[DecidableEq α]{key:α->List Int}(hi:∀ a b,key a=key b->a=b){f:α->U}{a:α}{v:U}{ps:List α}(h:a ∉ ps):dput (dM key f ps) (key a) v=dM key (λq=>if q=a then v else f q) (ps++[a]):=by
 unfold dput;rw [if_neg]
 .unfold dM
  rw [List.map_append];congr 1
  .refine List.map_congr_left λq hq => ?_
   show (key q,f q)=(key q,if q=a then v else f q)
   rw [if_neg (λe=>h (by rw [<-e];exact hq))]
  .simp
 .intro hc
  simp only [dM,List.any_map,List.any_eq_true,Function.comp,decide_eq_true_eq] at hc;obtain ⟨q,hq,e⟩:=hc;exact h (by rw [<-hi _ _ e];exact hq)
theorem w4{α:Type}[DecidableEq α]{key:α->List Int}(hi:∀ a b,key a=key b->a=b){f:α->U}{a:α}{v:U}{ps:List α}(h:a∈ps):dput (dM key f ps) (key a) v=dM key (λq=>if q=a then v else f q) ps:=by
 unfold dput;rw [if_pos]
 .unfold dM
  rw [List.map_map];refine List.map_congr_left λq hq => ?_;simp only [Function.comp];by_cases e:q=a
  .subst e;simp
  .rw [if_neg (λz=>e (hi _ _ z)),if_neg e]
 .simp only [dM,List.any_map,List.any_eq_true,Function.comp,decide_eq_true_eq]
  exact ⟨a,h,rfl⟩
theorem vY{u:U}{kvs:List (List Int×U)}{us:List U}{k:List Int}{g:G}(h:asD u g=some kvs)(hk:intsOf us=some k):aU (.tup us) u g=some (ba kvs k):=by
 simp only [aU,h,keyOf,hk,Option.map_some]
noncomputable def rN(a b:Pt):Prop:=a.1*b.2 < b.1*a.2
instance{a b:Pt}:Decidable (rN a b):=by unfold rN;infer_instance
structure Low(a:Pt):Prop where
 pos:0 < a.2
 cop:Nat.gcd a.1.natAbs a.2.natAbs=1
noncomputable def o1(ax ay bx by_ px py:Nat):Bool:=Nat.ble (by_*px+bx*ay+ax*py) (bx*py+by_*ax+ay*px)
noncomputable def l1(ax ay bx by_ px py:Nat):Bool:=Nat.ble (bx*py+by_*ax+ay*px) (by_*px+bx*ay+ax*py)
noncomputable def grid8:List (Nat×Nat):=(List.range 9).flatMap λx=>(List.range 9).map λy=>(x,y)
noncomputable def aK:List Plan:=[⟨1,1,2⟩,⟨1,1,4⟩,⟨2,1,2⟩,⟨1,2,2⟩,⟨2,2,2⟩,⟨1,1,4⟩,⟨3,1,2⟩,⟨1,3,2⟩,⟨2,1,4⟩,⟨1,2,4⟩,⟨3,2,2⟩,⟨1,1,8⟩]
set_option maxRecDepth 1000000 in
theorem xr:((grid8.map λz=>hkL [(z.1:Int),(z.2:Int)]).Nodup):=by decide +kernel
theorem qL{α β:Type}{f:α->β}:∀ {l:List α},(l.map f).Nodup -> ∀ {a b:α},a∈l->b∈l->f a=f b->a=b
 | [],_,_,_,h,_,_=>by cases h
 | x :: l,hn,a,b,ha,hb,e=>by
  rw [List.map_cons,List.nodup_cons] at hn;rcases List.mem_cons.mp ha with rfl | ha
  .rcases List.mem_cons.mp hb with rfl | hb
   .rfl
   .exact absurd (List.mem_map.mpr ⟨b,hb,e.symm⟩) hn.1
  .rcases List.mem_cons.mp hb with e2 | hb
   .exact absurd (List.mem_map.mpr ⟨a,ha,by rw [e,e2]⟩) hn.1
   .exact qL hn.2 ha hb e
noncomputable def kyP(p:Pt):List Int:=[p.1,p.2]
theorem eZ{p q:Pt}(h:kyP p=kyP q):p=q:=by
 simp only [kyP,List.cons.injEq,and_true] at h;exact Prod.ext h.1 h.2
noncomputable def gP(z:Nat×Nat):Pt:=((z.1:Int),(z.2:Int))
theorem wQ{x y:Nat}:(x,y)∈grid8 ↔ x<=8/\y<=8:=by
 unfold grid8;simp only [List.mem_flatMap,List.mem_map,List.mem_range,Prod.mk.injEq];constructor
 .rintro ⟨a,ha,b,hb,rfl,rfl⟩;omega
 .intro h;exact ⟨x,by omega,y,by omega,rfl,rfl⟩
theorem xk{p q:Pt}(hp:∃ z∈grid8,p=gP z)(hq:∃ z∈grid8,q=gP z)(e:hkL (kyP p)=hkL (kyP q)):p=q:=by
 obtain ⟨z,hz,rfl⟩:=hp;obtain ⟨y,hy,rfl⟩:=hq;rw [qL xr hz hy e]
structure Half14(t one two:Tri)(m:Pt):Prop where
 near1:sk one
 near2:sk two
 same:sU ((underM one++underM two).map kyP)=(underM t).map kyP
 ok:okS ((underM one++underM two).map kyP)
 line:∀ p∈underM one,p∈underM two->Av m (ptC t) p=0
 mid1:m∈underM one
 mid2:m∈underM two
theorem pU:∀ l:List Pt,cL (l.map uP)=some (l.map kyP)
 | []=>rfl
 | p :: l=>by
  have e:keyOf (uP p)=some (kyP p):=rfl;rw [List.map_cons];simp only [cL,e,pU l]
  rfl
theorem qU(l:List Pt):(l.map kyP).map tupI=l.map uP:=by rw [List.map_map];rfl
theorem yb{g:G}{n:Nat}{l m:List Pt}(h1:g[n]? = some (.lst (l.map uP)))(h2:okS (l.map kyP))(h3:sU (l.map kyP)=m.map kyP):fg [.ref n] g=.ok (.ref g.length) (g++[.lst (m.map uP)]):=by
 unfold fg;simp only [h1,pU];rw [if_pos h2,h3,qU]
 rfl
section
variable{fns:List Fn}{d:Nat}{σ:Su}{X:XP}
theorem rX{it:Iter}{t:Tg}{elt:E}{Q:List U->G->Prop}(us:List U)(Inv:Nat->List U->G->Prop)
  (hn:∀ k acc g,Inv k acc g->next it k g=some us[k]?)
  (hs:∀ k u acc,us[k]? = some u->a8 t σ=true/\oh (ai t u σ) (lk λσ1 => ∀ g,Inv k acc g->wpE fns d elt σ1 g (λ_ _ _=>False) λv g=>Inv (k+1) (acc++[v]) g))
  (hl:us.length < 16777000) (hq:∀ vs g,Inv us.length vs g->vs.length=us.length->Q vs g) :
  ∀ (n i:Nat) (acc:List U) (g:G),i+n=us.length->acc.length=i->Inv i acc g->wpM fns d it i t [] [] elt acc σ g X Q
 | 0,i,acc,g,e1,e2,h=>by
  rw [cD];refine ⟨none,by rw [hn _ _ _ h];simp;omega,?_⟩
  obtain rfl:i=us.length:=by omega
  exact hq acc g h e2
 | n+1,i,acc,g,e1,e2,h=>by
  have hi:i < us.length:=by omega
  obtain ⟨hf,hs1⟩:=hs i us[i] acc (List.getElem?_eq_getElem hi);obtain ⟨σ1,hb,hw⟩:=aO.2 hs1;rw [cD];refine ⟨some us[i],by rw [hn _ _ _ h];simp [hi],hf,σ1,hb,kh.2 ?_⟩
  rw [if_pos rfl];refine wp_mono (hw g h) λv g hg=>⟨by simp only [ab];omega,?_⟩
  exact rX us Inv hn hs hl hq n (i+1) _ g (by omega) (by simp;omega) hg
theorem lq{it:Iter}{t:Tg}{elt:E}{Q:List U->G->Prop}{g:G}(us:List U)(Inv:Nat->List U->G->Prop)
  (hn:∀ k acc g,Inv k acc g->next it k g=some us[k]?)
  (hs:∀ k u acc,us[k]? = some u->a8 t σ=true/\oh (ai t u σ) (lk λσ1 => ∀ g,Inv k acc g->wpE fns d elt σ1 g (λ_ _ _=>False) λv g=>Inv (k+1) (acc++[v]) g))
  (hl:us.length < 16777000) (h0:Inv 0 [] g) (hq:∀ vs g,Inv us.length vs g->vs.length=us.length->Q vs g):wpM fns d it 0 t [] [] elt [] σ g X Q :=
 rX us Inv hn hs hl hq us.length 0 [] g (Nat.zero_add _) rfl h0
end
theorem map_inj{α β:Type}{f:α->β}(hf:∀ a b,f a=f b->a=b):∀ {l m:List α},l.map f=m.map f->l=m
 | [],[],_=>rfl
 | [],_ :: _,h=>by cases h
 | _ :: _,[],h=>by cases h
 | a :: l,b :: m,h=>by
  rw [List.map_cons,List.map_cons,List.cons.injEq] at h;rw [hf a b h.1,map_inj hf h.2]
noncomputable def iJ(a:Pt):List Pt->List Pt
 | []=>[a]
 | b :: r=>if a=b then b :: r else if ak (kyP a) (kyP b)=true then a :: b :: r else b :: iJ a r
noncomputable def ah:List Pt->List Pt
 | []=>[]
 | a :: r=>iJ a (ah r)
theorem pK(a:Pt):∀ r:List Pt,be (kyP a) (r.map kyP)=(iJ a r).map kyP
 | []=>rfl
 | b :: r=>by
  rw [List.map_cons];unfold be iJ;by_cases h:a=b
  .rw [if_pos h,if_pos (by rw [h]),List.map_cons]
  .rw [if_neg h,if_neg λe=>h (eZ e)]
   split
   .rfl
   .rw [pK a r];rfl
theorem bX:∀ l:List Pt,sU (l.map kyP)=(ah l).map kyP
 | []=>rfl
 | a :: l=>by
  show be (kyP a) (sU (l.map kyP))=_;rw [bX l,pK];rfl
theorem da{p:Pt}{l:List Pt}:kyP p∈l.map kyP ↔ p∈l :=
 ⟨λh=>let ⟨q,hq,e⟩:=List.mem_map.mp h;by rw [<-eZ e];exact hq,λh=>List.mem_map.mpr ⟨p,h,rfl⟩⟩
theorem bE{p:Pt}{l:List Pt}:p∈ah l ↔ p∈l:=by
 rw [<-da,<-bX,dh,da]
theorem vK{α β:Type}{f:α->β}{l:List α}(h:(l.map f).Nodup):l.Nodup:=(List.pairwise_map.mp h).imp λ{a b} n e=>n (by rw [e])
theorem zH{l:List Pt}(h:l.Nodup):(l.map kyP).Nodup:=List.pairwise_map.mpr (h.imp λ{a b} n e=>n (eZ e))
theorem cZ(l:List Pt):(ah l).Nodup:=vK (f:=kyP) (by rw [<-bX];exact qG (cF _))
theorem pC(l:List Pt):(ah l).length<=l.length:=by
 have:=j9 (l.map kyP);rw [bX,List.length_map,List.length_map] at this;exact this
theorem gh{l m:List Pt}(h:∀ p,p∈l ↔ p∈m):ah l=ah m:=by
 apply map_inj (λa b=>eZ);rw [<-bX,<-bX];refine eP (cF _) (cF _) λx => ?_;rw [dh,dh];constructor
 .intro hx;obtain ⟨p,hp,rfl⟩:=List.mem_map.mp hx;exact da.mpr ((h p).mp hp)
 .intro hx;obtain ⟨p,hp,rfl⟩:=List.mem_map.mp hx;exact da.mpr ((h p).mpr hp)
theorem iz{P:Plan}(h:P∈aK):P.w*P.s<=8/\P.d*P.s<=8/\(au P).length<=77:=by
 have:(aK.all λP=>decide (P.w*P.s<=8) && (decide (P.d*P.s<=8) && Nat.ble (au P).length 77))=true:=by decide +kernel
 have:=List.all_eq_true.mp this P h;rw [Bool.and_eq_true,Bool.and_eq_true,decide_eq_true_eq,decide_eq_true_eq,Nat.ble_eq] at this;exact this
theorem oW{P:Plan}(h:P∈aK){p:Pt}(hp:aH P p=true):∃ z∈grid8,p=gP z:=by
 have m:=iz h;have hin:=inL.mp hp;obtain ⟨x,hx⟩:=Int.eq_ofNat_of_zero_le hin.1;obtain ⟨y,hy⟩:=Int.eq_ofNat_of_zero_le hin.2.2.1;exact ⟨(x,y),wQ.mpr (by omega),Prod.ext hx hy⟩
noncomputable def Cuts(P:Plan)(l:List Pt):Prop := ∀ p∈l,p∈au P
theorem Cuts.len{P:Plan}(h:P∈aK){l:List Pt}(hc:Cuts P l)(hn:l.Nodup):l.length<=77:=Gy (hn.length_le_of_subset hc) (iz h).2.2
theorem Cuts.srt{P:Plan}{l:List Pt}(hc:Cuts P l):Cuts P (ah l):=λp hp=>hc p (bE.mp hp)
theorem DK{P:Plan}(h:P∈aK){l:List Pt}(hl:l.length<=300)(hc:Cuts P l):okS (l.map kyP):=by
 refine ⟨by rw [List.length_map];exact hl,λk hk => ?_,λa ha b hb e => ?_⟩
 .obtain ⟨p,_,rfl⟩:=List.mem_map.mp hk
  exact λz=>nomatch z
 .obtain ⟨p,hp,rfl⟩:=List.mem_map.mp ha
  obtain ⟨q,hq,rfl⟩:=List.mem_map.mp hb;rw [xk (oW h (cU.mp (hc p hp)).1) (oW h (cU.mp (hc q hq)).1) e]
noncomputable abbrev DS(ks:List Pt):List (List Int×U):=dM aL (λ_=>U.bl true) ks
noncomputable def adP(ks:List Pt)(a:Pt):List Pt:=if a∈ks then ks else ks++[a]
theorem gN{ks:List Pt}{a:Pt}:dput (DS ks) (aL a) (.bl true)=DS (adP ks a):=by
 unfold adP;split
 .rename_i h
  rw [w4 (λa b=>eU) h];congr 1;funext q;split <;> rfl
 .rename_i h
  rw [wG (λa b=>eU) h];congr 1;funext q;split <;> rfl
theorem cv{ks:List Pt}{a p:Pt}:p∈adP ks a ↔ p=a\/p∈ks:=by
 unfold adP;split
 .rename_i h
  exact ⟨.inr,λz=>z.elim (λe=>by rw [e];exact h) id⟩
 .rw [List.mem_append,List.mem_singleton];exact Or.comm
theorem ij{ks:List Pt}{a:Pt}(h:ks.Nodup):(adP ks a).Nodup:=by
 unfold adP;split
 .exact h
 .rename_i n
  refine List.nodup_append.mpr ⟨h,List.pairwise_singleton _ a,λx hx y hy e => ?_⟩;rw [List.mem_singleton] at hy;exact n (by rw [<-hy,<-e];exact hx)
theorem jx{ks:List Pt}{a:Pt}:(ba (DS ks) (aL a)).isSome=decide (a∈ks):=by
 by_cases h:a∈ks
 .rw [qw (key:=aL) (λa b=>eU) h,decide_eq_true h];rfl
 .rw [decide_eq_false h]
  unfold ba DS dM;rw [Option.isSome_map,Bool.eq_false_iff];intro z;obtain ⟨kv,hkv⟩:=Option.isSome_iff_exists.mp z;have h1:=List.mem_of_find?_eq_some hkv;have h2:=List.find?_some hkv;obtain ⟨q,hq,rfl⟩:=List.mem_map.mp h1;rw [decide_eq_true_eq] at h2;exact h (by rw [<-eU h2];exact hq)
theorem gR(ks:List Pt):(DS ks).map (·.1)=ks.map kyP:=by unfold DS dM;rw [List.map_map];rfl
theorem ot:∀ {l ks:List Pt},(ks++l).Nodup->dfold (l.map λp => .tup [uP p,.bl true]) (DS ks)=some (DS (ks++l))
 | [],ks,_=>by rw [List.append_nil];rfl
 | a :: l,ks,h=>by
  have ha:a ∉ ks:=λz=>by
   have:=(List.nodup_append.mp h).2.2 a z a GH;exact this rfl
  have e:fE (DS ks) (.tup [uP a,.bl true])=some (DS (ks++[a])):=by
   show (keyOf (uP a)).map (λk=>dput (DS ks) k (.bl true))=_;rw [show keyOf (uP a)=some (aL a) from rfl,Option.map_some,gN];unfold adP;rw [if_neg ha]
  rw [List.map_cons];simp only [dfold,e,Option.bind_some];rw [ot (by rw [List.append_assoc];exact h),List.append_assoc]
  rfl
section
variable{g:G}{n:Nat}{ks:List Pt}{p:Pt}
noncomputable def SetAt(g:G)(n:Nat)(ks:List Pt):Prop:=g[n]? = some (.dic (DS ks))\/g[n]? = some (.dif (DS ks))
theorem SetAt.app{gs:G}(h:SetAt g n ks):SetAt (g++gs) n ks:=h.imp aG aG
theorem SetAt.items(h:SetAt g n ks):items (.ref n) g=none:=by rcases h with h | h <;> simp only [PI.items,h]
theorem SetAt.asD(h:SetAt g n ks):asD (.ref n) g=some (DS ks):=by rcases h with h | h <;> simp only [PI.asD,h]
theorem SetAt.look(h:SetAt g n ks):aU (uP p) (.ref n) g=some (ba (DS ks) (aL p)):=vY h.asD hJ
theorem qt(h:SetAt g n ks):cmp2 .nin (uP p) (.ref n) g=some (!decide (p∈ks)):=by
 rw [su,h.items];simp only [h.look,Option.map_some,jx]
theorem Et(h:SetAt g n ks):cmp2 .inn (uP p) (.ref n) g=some (decide (p∈ks)):=by
 rw [cin,h.items];simp only [h.look,Option.map_some,jx]
theorem gz(h:SetAt g n ks)(nd:ks.Nodup)(hl:ks.length < 100000):iA [.ref n] g=.ok (.ref g.length) (g++[.lst ((ah ks).map uP)]):=by
 unfold iA;have e:dD [.ref n] g=none:=by rcases h with h | h <;> simp only [dD,h]
 simp only [e,jX,h.asD];rw [if_pos ⟨by unfold DS dM;rw [List.length_map];exact hl,by rw [gR];exact zH nd,λk hk=>by rw [gR] at hk;obtain ⟨p,_,rfl⟩:=List.mem_map.mp hk;exact λz=>nomatch z⟩,gR,bX,qU]
 rfl
theorem oD(h:SetAt g n ks):dX [.ref n] g=.ok (.ref g.length) (g++[.lst (ks.map uP)]):=by
 unfold dX;simp only [h.items,h.asD];have:((DS ks).map λkv=>tupI kv.1)=ks.map uP:=by
  unfold DS dM;rw [List.map_map];rfl
 rw [this];rfl
theorem v7{P:Plan}{l:List Pt}(hP:P∈aK)(h:g[n]? = some (.lst (l.map uP)))(hl:l.length<=300)(hc:Cuts P l):fg [.ref n] g=.ok (.ref g.length) (g++[.lst ((ah l).map uP)]):=yb h (DK hP hl hc) (bX l)
end
noncomputable def aP(P:Plan)(l:List Pt)(p:Pt):List Pt:=(parentsM P p).filter λq => !decide (q∈l)
theorem iQ{P:Plan}{p q:Pt}(h:q∈parentsM P p):q∈au P:=by
 unfold parentsM at h;have:=(List.mem_filter.mp h).2;rw [Bool.and_eq_true,Bool.not_eq_true'] at this;exact cU.mpr this
noncomputable def Old(g g':G):Prop := ∃ gs,g'=g++gs
section
variable{g g' g'':G}{n:Nat}{o:O}
theorem Old.refl:Old g g:=⟨[],(List.append_nil g).symm⟩
theorem Old.app{gs:G}:Old g (g++gs):=⟨gs,rfl⟩
theorem Old.more{gs:G}(h:Old g g'):Old g (g'++gs):=by obtain ⟨a,rfl⟩:=h;exact ⟨a++gs,List.append_assoc ..⟩
theorem Old.trans(h:Old g g')(k:Old g' g''):Old g g'':=by obtain ⟨a,rfl⟩:=k;exact h.more
theorem Old.len(h:Old g g'):g.length<=g'.length:=by obtain ⟨a,rfl⟩:=h;simp
theorem Old.get(h:Old g g')(e:g[n]? = some o):g'[n]? = some o:=by obtain ⟨a,rfl⟩:=h;exact aG e
theorem Old.set(h:Old g g')(hn:g.length<=n):Old g (g'.set n o):=by obtain ⟨a,rfl⟩:=h;exact ⟨a.set (n - g.length) o,List.set_append_right n o hn⟩
theorem Old.fr(h:Old g g')(hb:Bag g):Fr g g':=by obtain ⟨a,rfl⟩:=h;exact Fr.app hb
theorem bF{m:Nat}{o':O}(h:n≠m)(e:g[m]? = some o):(g.set n o')[m]? = some o:=by rw [List.getElem?_set_ne h];exact e
end
section
variable{fns:List Fn}{d:Nat}{σ:Su}{X:XP}
theorem fB{it:Iter}{t:Tg}{cs:List E}{elt:E}{Q:List U->G->Prop}(us:List U)(Pr:U->Prop)(Inv:G->Prop)
  (hn:∀ k g,Inv g->next it k g=some us[k]?)
  (hs:∀ u,u∈us->a8 t σ=true/\oh (ai t u σ) (lk λσ1 => ∀ g,Inv g->wpA fns d cs σ1 g (λ_ _ _=>False) λk g=>Inv g/\(k=true->wpE fns d elt σ1 g (λ_ _ _=>False) λv g=>Pr v/\Inv g))) :
  ∀ (n i:Nat) (acc:List U) (g:G),i+n=us.length->acc.length+n < ab->Inv g->(∀ vs g,vs.length<=n->(∀ v∈vs,Pr v)->Inv g->Q (acc++vs) g)->wpM fns d it i t cs [] elt acc σ g X Q
 | 0,i,acc,g,e1,_,h,hq=>by
  rw [cD];refine ⟨none,by rw [hn _ _ h];simp;omega,?_⟩
  have:=hq [] g (GA _) (by simp) h
  simpa using this
 | n+1,i,acc,g,e1,hl,h,hq=>by
  have hi:i < us.length:=by omega
  obtain ⟨hf,hs1⟩:=hs us[i] (List.getElem_mem hi);obtain ⟨σ1,hb,hw⟩:=aO.2 hs1;rw [cD];refine ⟨some us[i],by rw [hn _ _ h];simp [hi],hf,σ1,hb,wp_mono (hw g h) λk g q => ?_⟩
  obtain ⟨q1,q2⟩:=q;cases k with
  | true =>
   rw [if_pos rfl];refine wp_mono (q2 rfl) λv g ⟨ev,hg⟩=>⟨by omega,?_⟩
   refine fB us Pr Inv hn hs n (i+1) _ g (by omega) (by simp;omega) hg λvs g h1 h2 h3 => ?_
   have:=hq (v :: vs) g (by simp;omega) (λx hx=>by rcases List.mem_cons.mp hx with rfl | z;exact ev;exact h2 x z) h3
   simpa using this
  | false =>
   rw [if_neg (by simp)]
   exact fB us Pr Inv hn hs n (i+1) _ g (by omega) (by omega) q1 λvs g h1 h2 h3=>hq vs g (by omega) h2 h3
end
theorem fv{Pr:Pt->Prop}:∀ {vs:List U},(∀ v∈vs,∃ p,v=uP p/\Pr p) -> ∃ ps:List Pt,vs=ps.map uP /\ ∀ p∈ps,Pr p
 | [],_=>⟨[],rfl,λp hp=>nomatch hp⟩
 | v :: vs,h=>by
  obtain ⟨p,rfl,hp⟩:=h v GH;obtain ⟨ps,rfl,hps⟩:=fv (vs:=vs) λw hw=>h w (GB _ hw);exact ⟨p :: ps,rfl,λq hq=>by rcases List.mem_cons.mp hq with rfl | z;exact hp;exact hps q z⟩
inductive UpP(P:Plan)(l:List Pt):Pt->Prop
 | base {p:Pt}:p∈l->UpP P l p
 | step {p q:Pt}:UpP P l p->q∈parentsM P p->UpP P l q
section
variable{P:Plan}{l ks:List Pt}{p q:Pt}
theorem UpP.cut(hc:Cuts P l)(h:UpP P l p):p∈au P:=by
 induction h with
 | base h=>exact hc _ h
 | step _ h _=>exact iQ h
noncomputable def aY(P:Plan)(l:List Pt):List Pt:=open Classical in ah ((au P).filter λq=>decide (UpP P l q))
open Classical in
theorem eM(hc:Cuts P l):q∈aY P l ↔ UpP P l q:=by
 unfold aY;rw [bE,List.mem_filter,decide_eq_true_eq];exact ⟨λh=>h.2,λh=>⟨h.cut hc,h⟩⟩
open Classical in
theorem eI:Cuts P (aY P l):=λp hp=>by
 unfold aY at hp;rw [bE,List.mem_filter] at hp;exact hp.1
theorem i9:(aY P l).Nodup:=cZ _
theorem jA(l:List Pt):ah (ah l)=ah l:=gh λp=>bE
theorem oQ(hc:Cuts P l)(h:∀ q,q∈ks ↔ UpP P l q):ah ks=aY P l:=by
 rw [gh (l:=ks) (m:=aY P l) λq=>(h q).trans (eM hc).symm];unfold aY;rw [jA]
theorem jN(h1:∀ p∈l,p∈ks)(h2:∀ p∈ks,∀ q∈parentsM P p,q∈ks)(h:UpP P l q):q∈ks:=by
 induction h with
 | base h=>exact h1 _ h
 | step _ hq ih=>exact h2 _ ih _ hq
theorem pD(nd:ks.Nodup)(h:p ∉ ks):(ks++[p]).Nodup:=by
 have:=ij (a:=p) nd;unfold adP at this;rwa [if_neg h] at this
theorem xi(h:p ∉ ks):(adP ks p).length=ks.length+1:=by unfold adP;rw [if_neg h];simp
end
inductive OutP(P:Plan)(l:List Pt):Pt->Prop
 | base {p:Pt}:p ∉ l->OutP P l p
 | step {p q:Pt}:q∈parentsM P p->OutP P l q->OutP P l p
noncomputable def aW(P:Plan)(l:List Pt):List Pt:=open Classical in ah (l.filter λp=>decide (¬ OutP P l p))
section
variable{P:Plan}{l ks:List Pt}{p q:Pt}
open Classical in
theorem cT:q∈aW P l ↔ ¬ OutP P l q:=by
 unfold aW;rw [bE,List.mem_filter,decide_eq_true_eq];exact ⟨λh=>h.2,λh=>⟨GG λz=>h (.base z),h⟩⟩
theorem ng(h:q∈aW P l):q∈l:=GG λz=>cT.mp h (.base z)
theorem nU:(aW P l).Nodup:=cZ _
theorem xV(h:∀ q,q∈ks ↔ ¬ OutP P l q):ah ks=aW P l:=by
 rw [gh (l:=ks) (m:=aW P l) λq=>(h q).trans cT.symm];unfold aW;rw [jA]
theorem jF(h1:∀ p∈ks,p∈l)(h2:∀ p∈ks,∀ q∈parentsM P p,q∈ks)(hp:p∈ks): ¬ OutP P l p:=by
 intro h
 induction h with
 | base n=>exact n (h1 _ hp)
 | step hq _ ih=>exact ih (h2 _ hp _ hq)
noncomputable def delP(ks:List Pt)(p:Pt):List Pt:=ks.filter λq => !decide (q=p)
theorem gm:q∈delP ks p ↔ q∈ks/\q≠p:=by unfold delP;rw [List.mem_filter,Bool.not_eq_true',decide_eq_false_iff_not]
theorem zf(h:ks.Nodup):(delP ks p).Nodup:=h.sublist List.filter_sublist
theorem wm(h:p∈ks):(delP ks p).length+1<=ks.length:=List.length_filter_lt_length_iff_exists.mpr ⟨p,h,by simp⟩
theorem xb:fJ (DS ks) (aL p)=DS (delP ks p):=by
 unfold fJ DS dM delP;rw [List.filter_map];congr 1;apply List.filter_congr;intro q _;show (!decide (aL q=aL p)) = !decide (q=p);by_cases e:q=p
 .rw [e];simp
 .rw [decide_eq_false e,decide_eq_false λz=>e (eU z)]
theorem zG{g:G}{n:Nat}{σ:Su}(h:g[n]? = some (.dic (DS ks)))(hp:p∈ks):b7 (.ref n) (uP p) σ g=.ok (.nx σ) (g.set n (.dic (DS (delP ks p)))):=by
 have hk:aL p∈(DS ks).map (·.1):=by rw [gR];exact da.mpr hp
 unfold b7;simp only [h,show keyOf (uP p)=some (aL p) from rfl];rw [if_pos hk,xb]
noncomputable def kj(P:Plan)(l:List Pt):List Pt:=l.filter λp=>(parentsM P p).all λq=>decide (q∈l)
noncomputable def bj(P:Plan):Nat->List Pt->List Pt
 | 0,l=>l
 | n+1,l=>kj P (bj P n l)
theorem jl:q∈kj P l ↔ q∈l /\ ∀ r∈parentsM P q,r∈l:=by
 unfold kj;rw [List.mem_filter,List.all_eq_true];simp only [decide_eq_true_eq]
theorem eO:∀ {n:Nat},q∈bj P n l->q∈l
 | 0,h=>h
 | n+1,h=>eO (jl.mp h).1
theorem i8:∀ n,(bj P n l).length<=l.length
 | 0=>GA _
 | n+1=>Gy (List.length_filter_le _ _) (i8 n)
theorem ji:∀ {n:Nat} {q:Pt},¬ OutP P l q->q∈bj P n l
 | 0,q,h=>GG λz=>h (.base z)
 | n+1,q,h=>jl.mpr ⟨ji h,λr hr=>ji λz=>h (.step hr z)⟩
theorem nO(hP:P.ok)(hc:Cuts P l):∀ {n:Nat} {q:Pt},bp P q < n->q∈bj P n l -> ¬ OutP P l q
 | 0,q,hl,h=>λ_=>by
  have:=(md hP (hc q (eO h))).2.2.1;omega
 | n+1,q,hl,h=>λz=>by
  have hq:=hc q (eO h);cases z with
  | base a=>exact a (eO h)
  | step hr hz =>
   have:=(md hP hq).1 _ hr;exact nO hP hc (n:=n) (by omega) ((jl.mp h).2 _ hr) hz
theorem i4:∀ n,(bj P n (ah l)).Pairwise (λx y=>ak (kyP x) (kyP y)=true)
 | 0=>by
  have:=cF (l.map kyP);rw [bX] at this;exact List.pairwise_map.mp this
 | n+1=>(i4 n).filter _
theorem DQ{a b:List Pt}(ha:a.Pairwise λx y=>ak (kyP x) (kyP y)=true)(hb:b.Pairwise λx y=>ak (kyP x) (kyP y)=true)(h:∀ q,q∈a ↔ q∈b):a=b:=by
 apply map_inj (λa b=>eZ);refine eP (List.pairwise_map.mpr ha) (List.pairwise_map.mpr hb) λx => ?_;constructor
 .intro hx;obtain ⟨p,hp,rfl⟩:=List.mem_map.mp hx;exact da.mpr ((h p).mp hp)
 .intro hx;obtain ⟨p,hp,rfl⟩:=List.mem_map.mp hx;exact da.mpr ((h p).mpr hp)
theorem BE(hM:P∈aK)(hp:p∈au P):bp P p < 8:=by
 have:(aK.all λP=>(au P).all λp=>decide (bp P p < 8))=true:=by decide +kernel
 exact GI (List.all_eq_true.mp (List.all_eq_true.mp this P hM) p hp)
theorem oy{m:List Pt}(h:∀ p,p∈l ↔ p∈m)(z:OutP P l q):OutP P m q:=by
 induction z with
 | base a=>exact .base λy=>a ((h _).mpr y)
 | step a _ ih=>exact .step a ih
theorem zO(hM:P∈aK)(hP:P.ok)(hc:Cuts P l):bj P 8 (ah l)=aW P l:=by
 refine DQ (i4 8) ?_ λq => ?_
 .have:=i4 (P:=P) (l:=aW P l) 0
  unfold aW at this ⊢;rw [show bj P 0=id from rfl] at this;exact (jA _) ▸ this
 .have e:OutP P (ah l) q ↔ OutP P l q:=⟨oy λp=>bE,oy λp=>bE.symm⟩
  rw [cT,<-e];exact ⟨λh=>nO hP hc.srt (BE hM (hc.srt q (eO h))) h,ji⟩
end
noncomputable def Clo(P:Plan)(l:List Pt):Prop := ∀ p∈l,∀ q∈parentsM P p,q∈l
section
variable{P:Plan}{l m:List Pt}{p q:Pt}
theorem ja(hc:Cuts P l):Clo P (aY P l):=λp hp q hq=>(eM hc).mpr (.step ((eM hc).mp hp) hq)
theorem oA:Clo P (aW P l):=λp hp q hq=>cT.mpr λz=>cT.mp hp (.step hq z)
theorem iZ(hc:Cuts P l):Cuts P (aW P l):=λp hp=>hc p (ng hp)
theorem Clo.app(h:Clo P l)(k:Clo P m):Clo P (l++m):=λp hp q hq=>by
 rcases List.mem_append.mp hp with z | z
 .exact List.mem_append.mpr (.inl (h p z q hq))
 .exact List.mem_append.mpr (.inr (k p z q hq))
theorem Cuts.app(h:Cuts P l)(k:Cuts P m):Cuts P (l++m):=λp hp=>(List.mem_append.mp hp).elim (h p) (k p)
end
end
end PI
namespace Lk20
noncomputable section
open PI
local macro_rules | `(tactic| simp? [$xs,*] $[$l:location]?) => do
  let a ← ("DN zL Cj kh sG FJ jy Ei D9 E7 DU Gh Gv xR xK xg xS FH k_E Gg F0 EI FA yW yZ y8 EN Gp y6 ye Ex CH zr Bt xG CI E1 Ck C7 A2 zN A4 ES BI zM Ce Fb yG CN B7 Ad D8 Bw zT Bx DY zF z7 BO DD Dx FP F9 yH Fk EY DX zB z9 AR zX xf EE xx Aa yp Bc E2 BJ yL Dj zA z6 yd yz yv AV As B2 Eg Bp Cs AF AB CD AI Bm An DE Cw EO Ao zJ zm zP zE Fx B5 DB DL DW En Dz E4 zy zZ AN Ai AJ CW AG CF Bk BL Cr A1 BU zq Ab CL A3 CY Ed C4 Df EC Di BF Dr DO D3 yQ ER Ga EV Eo E9 Dp El Ds zK Ff A8 x3 Co AU Gn EJ FD C8 Dg Bh Ax z5 AX Fu BN zC D5 DR Dv C6 Dq Dy Fq".splitOn " ").toArray.mapM λs => `(Lean.Parser.Tactic.simpLemma| ↓$(Lean.mkIdent s.toName):ident)
  let b ← ("perm pick j8 Option.bind_some rm qk qx kN List.lookup_cons List.lookup_nil Nat.reduceBEq List.contains_cons List.contains_nil rU List.getElem?_nil List.getElem?_cons_zero List.getElem?_cons_succ List.length_cons List.length_nil List.set_cons_zero List.set_cons_succ List.map_cons List.map_nil List.replicate_succ List.replicate_zero List.cons_append List.nil_append Nat.zero_add Nat.reduceAdd Nat.reduceSub Nat.reduceLT Nat.reduceLeDiff Nat.reduceEqDiff Nat.lt_add_left_iff_pos unl ai bindL if_true if_false ite_true ite_false and_true true_and Option.getD_some jL jO Cf za xB xD C1 Eh EX Er ql om Fy FY DG cin su Fc pR Bool.or_false Bool.or_true Bool.true_or Bool.false_or clt cle cgt cge tR tru items F6 fU asL bI lift bi1 ke sh dX alloc a8 n9 ab Fs Ez DJ C3 C9 DC sQ rW Option.map_some Int.reduceLT Int.reduceLE Int.reduceNeg Int.reduceEq decide_true decide_false Bool.not_true Bool.not_false Bool.and_true Bool.true_and Bool.and_self decide_eq_true_eq eq_self".splitOn " ").toArray.mapM λs => `(Lean.Parser.Tactic.simpLemma| $(Lean.mkIdent s.toName):ident)
  let a := a ++ b
  `(tactic| simp only [$[$a:simpLemma],*, $xs,*] $[$l]?)
section
variable{d:Nat}{g:G}{X:XP}{Q:U->G->Prop}{P:Plan}{p:Pt}
theorem i0(hP:P.ok)(h:Q (.bl (aH P p)) g):wpC fns (d+1) 0 [uPl P,uP p] g X Q:=by
 have h1:=hP.ss;refine av (by rfl) (by rfl) ?_;simp only [nN]
 simp? [*];simp only [aH] at h;refine ag (λk1 => ?_) λk1=>by simp? [*];simpa [k1] using h
 simp? [*];refine ag (λk2 => ?_) λk2 => ?_
 .simp? [*]
  refine ag (λk3 => ?_) λk3=>by simp? [*];simpa [k1,k2,k3] using h
  simp? [*];simpa [k1,k2,k3] using h
 .simp? [*];simpa [k1,k2] using h
theorem t9(hP:P.ok)(hp:aH P p=true)(h:Q .non g):wpC fns (d+2) 1 [uPl P,uP p] g X Q:=by
 refine av (by rfl) (by rfl) ?_;simp only [lM]
 simp? [eq_self];refine i0 hP ?_;simp? [eq_self];simp only [hp];simp? [eq_self];exact h
theorem lR(hP:P.ok)(hp:aH P p=true)(h:Q (.bl (aX P p)) g):wpC fns (d+3) 2 [uPl P,uP p] g X Q:=by
 have h0:=hP.s0;refine av (by rfl) (by rfl) ?_;simp only [lV]
 simp? [eq_self];refine t9 hP hp ?_;simp? [*];simp only [aX] at h;refine ag (λk1 => ?_) λk1=>by simp? [*];simpa [k1] using h
 simp? [*];simpa [k1] using h
theorem iR(hP:P.ok)(hp:aH P p=true)(hc:aX P p=false)(h:Q .non g):wpC fns (d+4) 3 [uPl P,uP p] g X Q:=by
 refine av (by rfl) (by rfl) ?_;simp only [mG]
 simp? [eq_self];refine lR hP hp ?_;simp? [hc];exact h
theorem gw(h:Q (.int (stride p)) g):wpC fns (d+1) 4 [uP p] g X Q:=by
 refine av (by rfl) (by rfl) ?_;simp only [oU]
 simp? [cN];unfold stride at h
 (repeat' (refine ag (λ_ => ?_) (λ_ => ?_) <;> (try simp? [cN, *])))
 all_goals simp_all
theorem lT(h:Q (.bl (bZ p)) g):wpC fns (d+2) 5 [uP p] g X Q:=by
 have s0:=(eJ p).1;have sb:=gv p;refine av (by rfl) (by rfl) ?_;simp only [l8]
 simp? [eq_self];refine gw ?_;simp? [s0,sb];unfold bZ at h
 (repeat' (refine ag (λ_ => ?_) (λ_ => ?_) <;> (try simp? [cN, *])))
 all_goals simp_all
theorem uc(h:Q (u4 (dq p)) g):wpC fns (d+2) 6 [uP p] g X Q:=by
 have s0:=(eJ p).1;have sb:=gv p;refine av (by rfl) (by rfl) ?_;simp only [lN]
 simp? [eq_self];refine gw ?_;simp? [s0,sb];unfold dq lying upright at h
 (repeat' (refine ag (λ_ => ?_) (λ_ => ?_) <;> (try simp? [cN, *])))
 all_goals simp_all
theorem tX(h:Q (u4 (c6 p)) g):wpC fns (d+2) 7 [uP p] g X Q:=by
 have s0:=(eJ p).1;have s1:0 < 2*stride p:=by omega
 have sb:=nK p;have ss:=lO p;refine av (by rfl) (by rfl) ?_;simp only [lz]
 simp? [eq_self];refine gw ?_;simp? [s0,s1,sb,ss];unfold c6 d7 rising falling at h
 (repeat' (refine ag (λ_ => ?_) (λ_ => ?_) <;> (try simp? [cN, *])))
 all_goals simp_all
theorem yi(h:Q (u4 (aN p)) g):wpC fns (d+3) 8 [uP p] g X Q:=by
 refine av (by rfl) (by rfl) ?_;simp only [p7]
 simp? [eq_self];refine lT ?_;simp? [eq_self];unfold aN at h;refine ag (λk => ?_) λk => ?_
 .rw [if_pos k] at h
  simp? [eq_self];refine tX ?_;simp? [eq_self];exact h
 .rw [if_neg (by simp [k])] at h
  simp? [eq_self];refine uc ?_;simp? [eq_self];exact h
theorem uV(hP:P.ok)(hp:aH P p=true)(hc:aX P p=false)(h:eA g ((parentsM P p).map uP) Q):wpC fns (d+5) 9 [uPl P,uP p] g X Q:=by
 refine av (by rfl) (by rfl) ?_;simp only [nP]
 simp? [eq_self];refine iR hP hp hc ?_;simp? [eq_self];refine yi ?_;simp? [eq_self];refine cH [(aN p).2.1,(aN p).2.2] uP (λq=>aH P q && !aX P q) uP (λg'=>g'=g) ((parentsM P p).map uP) rfl (λk g' e=>vN) (λq hq => ?_) (by simp) rfl ?_
 .simp? [eq_self]
  rintro g' rfl;refine i0 hP ?_;simp? [eq_self];refine ag (λk1 => ?_) λk1 => ?_
  .simp? [eq_self]
   refine lR hP k1 ?_;simp? [k1];refine ag (λk2 => ?_) λk2 => ?_ <;> simp? [k1,k2]
  .simp? [k1,Bool.false_and]
 .rintro g' rfl
  have hl:=dA P p;exact ⟨by rw [List.length_map];omega,h _ _ (GA _) aj⟩
theorem uM(hP:P.ok)(hp:aH P p=true)(hc:aX P p=false)(h:∀ gs n,g.length<=n->(g++gs)[n]? = some (.lst ((childrenM P p).map uP))->Q (.ref n) (g++gs)):wpC fns (d+5) 10 [uPl P,uP p] g X Q:=by
 have b2:(2:Int) < az:=by decide
 have fin:∀ (m:Nat) (g2 gs:G) (σ:Su),bB p=bB p->g2=g++gs->g2[m]? = some (.lst ((bB p).map uP))->σ=[none,some (uPl P)]->wpM fns (d+4) (.lst m) 0 (.nm 0) [.call 0 [.var 1,.var 0]] [] (.var 0) [] σ g2 (λ_ _ _=>False) λus g=>us.length<=16777000/\Q (.ref g.length) (g++[.lst us]):=λm g2 gs σ _ e e1 e2=>by
  subst e;subst e2;have hn:(bB p).length<=4:=by unfold bB;split;simp;split <;> simp
  refine cH (bB p) uP (aH P) uP (λg'=>g'=g++gs) ((childrenM P p).map uP) rfl (λk g' e=>by rw [e];exact aS e1) (λq hq => ?_) (by omega) rfl ?_
  .simp? [eq_self]
   rintro g' rfl;refine i0 hP ?_;simp? [eq_self];refine ag (λk1 => ?_) λk1 => ?_ <;> simp? [k1]
  .rintro g' rfl
   have:=List.length_filter_le (aH P) (bB p);exact gy h (by rw [List.length_map];unfold childrenM;omega)
 refine av (by rfl) (by rfl) ?_;simp only [my]
 simp? [eq_self];refine iR hP hp hc ?_;simp? [eq_self];refine gw ?_;simp? [eq_self];refine lT ?_;simp? [eq_self];refine ag (λk1 => ?_) λk1 => ?_
 .simp? [aj]
  exact fin _ _ _ _ rfl rfl (by rw [aj];simp [bB,k1]) rfl
 .simp? [eq_self]
  refine ag (λk2 => ?_) λk2 => ?_
  .have k2':1 < stride p:=by simpa using k2
   simp? [aj,b2];exact fin _ _ _ _ rfl rfl (by rw [aj];simp [bB,k1,k2']) rfl
  .have k2' : ¬ 1 < stride p:=by simpa using k2
   simp? [aj];exact fin _ _ _ _ rfl rfl (by rw [aj];simp [bB,k1,k2']) rfl
theorem me{n:Nat}{l:List Pt}(hM:P∈aK)(hP:P.ok)(hn:g[n]? = some (.lst (l.map uP)))(hl:l.length<=300)(hc:Cuts P l)(h:∀ (g':G) (m:Nat),Old g g'->g.length<=m->g'[m]? = some (.dic (DS (ah l)))->Q (.ref m) g'):wpC fns (d+5) 11 [uPl P,.ref n] g X Q:=by
 refine av (by rfl) (by rfl) ?_;simp only [mq]
 simp? [hn];refine cO (l.map uP) (λk σ g'=>g'=g /\ ∃ o,σ=[some (uPl P),some (.ref n),o]) (λk σ g' hI=>by rw [hI.1];exact aS hn) ⟨rfl,_,rfl⟩ (λk u σ g' hk hI => ?_) (λσ g' hI => ?_)
 .obtain ⟨rfl,o,rfl⟩:=hI
  simp only [List.getElem?_map,Option.map_eq_some_iff] at hk;obtain ⟨p,hp,rfl⟩:=hk;obtain ⟨pi,pc⟩:=cU.mp (hc p (List.mem_of_getElem? hp));simp? [eq_self];refine iR hP pi pc ?_;simp? [eq_self];exact ⟨_,rfl⟩
 .obtain ⟨rfl,o,rfl⟩:=hI
  have e1:(g'++[O.lst ((ah l).map uP)])[g'.length]? = some (.lst ((ah l).map uP)):=aj;simp? [v7 hM hn hl hc,e1];refine cH (ah l) uP (λ_=>true) (λp => .tup [uP p,.bl true]) (λg2=>g2=g'++[O.lst ((ah l).map uP)]) ((ah l).map λp => .tup [uP p,.bl true]) (by rw [wa]) (λk g2 e=>by rw [e];exact aS e1) (λp hp => ?_) (by have:=pC l;omega) rfl ?_
  .simp? [eq_self]
   rintro g2 rfl;simp? [keyOf,intsOf]
  .rintro g2 rfl
   have f1:=ot (l:=ah l) (ks:=[]) (cZ l);rw [List.nil_append] at f1;simp? [show dfold ((ah l).map λp => .tup [uP p,.bl true]) []=some (DS (ah l)) from f1];exact h _ _ Old.app.more (by simp) aj
theorem mR{m:Nat}{ks:List Pt}(hP:P.ok)(hp:p∈au P)(hm:SetAt g m ks)(h:eA g ((aP P ks p).map uP) Q):wpC fns (d+6) 12 [uPl P,.ref m,uP p] g X Q:=by
 obtain ⟨pi,pc⟩:=cU.mp hp;refine av (by rfl) (by rfl) ?_;simp only [nu]
 simp? [eq_self];refine uV hP pi pc λgs n hn e => ?_;simp? [e];refine cH (parentsM P p) uP (λq => !decide (q∈ks)) uP (λg'=>g'=g++gs) ((aP P ks p).map uP) rfl (λk g' e'=>by rw [e'];exact aS e) (λq hq => ?_) (by have:=dA P p;omega) rfl ?_
 .have dl:=(hm.app (gs:=gs)).look (p:=q)
  have dn:=jx (ks:=ks) (a:=q);have hi:=(hm.app (gs:=gs)).items;simp only [items] at hi;simp? [eq_self];rintro g' rfl;simp? [hi,dl,dn];refine ag (λk1 => ?_) λk1 => ?_ <;> simp? [k1]
 .rintro g' rfl
  have hl:=dA P p;have:=List.length_filter_le (λq => !decide (q∈ks)) (parentsM P p);exact gy h (by rw [List.length_map];unfold aP;omega)
theorem y9{n:Nat}{l:List Pt}(hM:P∈aK)(hP:P.ok)(hn:g[n]? = some (.lst (l.map uP)))(hl:l.length<=300)(hc:Cuts P l)
  (h:∀ (g':G) (m:Nat),Old g g'->g.length<=m->g'[m]? = some (.lst ((aY P l).map uP))->Q (.ref m) g'):wpC fns (d+8) 13 [uPl P,.ref n] g X Q:=by
 have hs77:=(hc.srt).len hM (cZ l);refine av (by rfl) (by rfl) ?_;simp only [ph]
 simp? [eq_self];refine me hM hP hn hl hc λg1 m o1 lm e1 => ?_;have hm1:m < g1.length:=(List.getElem?_eq_some_iff.mp e1).1;simp? [↓oD (.inl e1)];refine j6 (λk σ g' => ∃ (ks W:List Pt) (o o':Option U),Old g g'/\g'[m]? = some (.dic (DS ks))/\g'[g1.length]? = some (.lst (W.map uP))/\ks.Nodup/\(∀ p∈ks,UpP P l p)/\(∀ p∈l,p∈ks)/\(∀ p∈W,p∈ks)/\(∀ p∈ks,p∈W \/ ∀ q∈parentsM P p,q∈ks)/\W.length<=77+2*ks.length/\3*(77 - ks.length)+W.length=k/\σ=[some (uPl P),some (.ref n),some (.ref m),some (.ref g1.length),o,o']) ?_ _ _ _ ⟨ah l,ah l,none,none,o1.more,aG e1,aj,cZ l,(λp hp => .base (bE.mp hp)),(λp hp=>bE.mpr hp),(λp hp=>hp),(λp hp => .inl hp),by omega,rfl,rfl⟩
 rintro k σ g' ⟨ks,W,o,o',ho,e2,e3,nd,uk,hL,hW,hC,hw,hk,rfl⟩;have hcs:Cuts P ks:=λp hp=>(uk p hp).cut hc;have hk77:=hcs.len hM nd;rcases List.eq_nil_or_concat W with hnil | ⟨W',p,rfl⟩
 .subst hnil
  have same:ah ks=aY P l:=oQ hc λq=>⟨uk q,jN hL λp hp=>(hC p hp).resolve_left λz=>nomatch z⟩;simp? [e3,List.isEmpty_nil,gz (.inl e2) nd (by omega)]
  rw [same];exact h _ _ ho.more ho.len aj
 .have ne:(W'.concat p).map uP=W'.map uP++[uP p]:=by simp
  rw [ne] at e3;have lw:(W'.concat p).length=W'.length+1:=by simp
  have mem:∀ q,q∈W'.concat p ↔ q∈W'\/q=p:=λq=>by simp
  have hpk:p∈ks:=hW p ((mem p).mpr (.inr rfl));have pop:=i5 e3;have gl:=o1.len;have e4:(g'.set g1.length (.lst (W'.map uP)))[m]? = some (.dic (DS ks)):=bF (by omega) e2
  have e5:(g'.set g1.length (.lst (W'.map uP)))[g1.length]? = some (.lst (W'.map uP)):=a7 e3;have o2:Old g (g'.set g1.length (.lst (W'.map uP))):=ho.set gl;simp? [e3,pk,pop];generalize g'.set g1.length (.lst (W'.map uP))=g3 at e4 e5 o2 ⊢;refine mR hP (hcs p hpk) (.inl e4) λgs n4 hn4 e6 => ?_;have e7:=aG (gs:=gs) e4;have e8:=aG (gs:=gs) e5;have o4:=o2.more (gs:=gs);have hpl:=dA P p;have hml:(aP P ks p).length<=(parentsM P p).length:=List.length_filter_le _ _;generalize g3++gs=g4 at e6 e7 e8 o4 ⊢;simp? [e6];have hmm:∀ q,q∈aP P ks p ↔ q∈parentsM P p/\q ∉ ks:=λq=>by unfold aP;rw [List.mem_filter];simp
  refine cO ((aP P ks p).map uP) (λj σ g' => ∃ (ks':List Pt) (o':Option U),Old g g'/\g'[m]? = some (.dic (DS ks'))/\g'[g1.length]? = some (.lst (W'.map uP))/\g'[n4]? = some (.lst ((aP P ks p).map uP))/\ks'.Nodup/\(∀ q,q∈ks' ↔ q∈ks\/q∈(aP P ks p).take j)/\σ=[some (uPl P),some (.ref n),some (.ref m),some (.ref g1.length),some (.ref n4),o']) (λj σ g' hI => ?_) ⟨ks,_,o4,e7,e8,e6,nd,λq=>by simp,rfl⟩ (λj u σ g' hj hI => ?_) (λσ g' hI => ?_)
  .obtain ⟨_,_,_,_,_,e9,_⟩:=hI
   exact aS e9
  .obtain ⟨ks',o',o5,f1,f2,f3,nd',hm',rfl⟩:=hI
   simp only [List.getElem?_map,Option.map_eq_some_iff] at hj;obtain ⟨q,hq,rfl⟩:=hj;have hqm:=List.mem_of_getElem? hq;have hn4:m≠n4:=λz=>by rw [z,f3] at f1;cases f1
   have hk':Cuts P ks':=λr hr=>by
    rcases (hm' r).mp hr with z | z
    .exact hcs r z
    .exact iQ ((hmm r).mp (List.mem_of_mem_take z)).1
   have l':=hk'.len hM nd';have sb:∀ σ,subAt (.ref m) (uP q) (.bl true) σ g'=.ok (.nx σ) (g'.set m (.dic (DS (adP ks' q)))):=λσ=>by
    rw [jf f1 hJ (by unfold DS dM;rw [List.length_map];omega),show aL (q.1,q.2)=aL q from rfl,gN]
   simp? [sb];refine ⟨adP ks' q,_,o5.set lm,a7 f1,bF (by omega) f2,bF hn4 f3,ij nd',λr => ?_,rfl⟩
   rw [cv,hm',List.take_succ,hq];simp only [List.mem_append,Option.toList_some,List.mem_singleton];constructor
   .rintro (z | z | z)
    .exact .inr (.inr z)
    .exact .inl z
    .exact .inr (.inl z)
   .rintro (z | z | z)
    .exact .inr (.inl z)
    .exact .inr (.inr z)
    .exact .inl z
  .obtain ⟨ks',o',o5,f1,f2,f3,nd',hm',rfl⟩:=hI
   rw [List.length_map,List.take_length] at hm';have hk':Cuts P ks':=λr hr=>by
    rcases (hm' r).mp hr with z | z
    .exact hcs r z
    .exact iQ ((hmm r).mp z).1
   have l':=hk'.len hM nd';have lk1:ks.length<=ks'.length:=nd.length_le_of_subset λr hr=>(hm' r).mpr (.inl hr);have lk2:aP P ks p≠[]->ks.length+1<=ks'.length:=λz=>by
    obtain ⟨q,r,e⟩:=List.exists_cons_of_ne_nil z;have hq:q∈aP P ks p:=by rw [e];exact GH
    have:=(pD nd ((hmm q).mp hq).2).length_le_of_subset (l₂ := ks') λr hr=>by
     rcases List.mem_append.mp hr with z | z
     .exact (hm' r).mpr (.inl z)
     .rw [List.mem_singleton.mp z];exact (hm' q).mpr (.inr hq)
    simpa using this
   have lk3:aP P ks p=[]->(aP P ks p).length=0:=λz=>by rw [z];rfl
   have ext:=jb f2 f3 (by rw [List.length_map,List.length_map];omega)
   simp? [f2,ext];refine ⟨_,?_,ks',W'++aP P ks p,_,_,o5.set gl,bF (by omega) f1,?_,nd',λq hq => ?_,λq hq=>(hm' q).mpr (.inl (hL q hq)),λq hq => ?_,λr hr => ?_,?_,rfl,rfl⟩
   .rw [List.length_append]
    by_cases z:aP P ks p=[]
    .have:=lk3 z;omega
    .have:=lk2 z;omega
   .rw [List.map_append];exact a7 f2
   .rcases (hm' q).mp hq with z | z
    .exact uk q z
    .exact .step (uk p hpk) ((hmm q).mp z).1
   .rcases List.mem_append.mp hq with z | z
    .exact (hm' q).mpr (.inl (hW q ((mem q).mpr (.inl z))))
    .exact (hm' q).mpr (.inr z)
   .rcases (hm' r).mp hr with z | z
    .rcases hC r z with y | y
     .rcases (mem r).mp y with y | y
      .exact .inl (List.mem_append.mpr (.inl y))
      .refine .inr λq hq => ?_
       rw [y] at hq;by_cases hqk:q∈ks
       .exact (hm' q).mpr (.inl hqk)
       .exact (hm' q).mpr (.inr ((hmm q).mpr ⟨hq,hqk⟩))
     .exact .inr λq hq=>(hm' q).mpr (.inl (y q hq))
    .exact .inl (List.mem_append.mpr (.inr z))
   .rw [List.length_append]
    by_cases z:aP P ks p=[]
    .have:=lk3 z;omega
    .have:=lk2 z;omega
theorem wC{n:Nat}{l:List Pt}(hM:P∈aK)(hP:P.ok)(hn:g[n]? = some (.lst (l.map uP)))(hl:l.length<=300)(hc:Cuts P l)
  (h:∀ (g':G) (m:Nat),Old g g'->g.length<=m->g'[m]? = some (.lst ((aW P l).map uP))->Q (.ref m) g'):wpC fns (d+8) 14 [uPl P,.ref n] g X Q:=by
 have hs77:=(hc.srt).len hM (cZ l);refine av (by rfl) (by rfl) ?_;simp only [oK]
 simp? [eq_self];refine me hM hP hn hl hc λg1 m o1 lm e1 => ?_;have hm1:m < g1.length:=(List.getElem?_eq_some_iff.mp e1).1;have gl:=o1.len;simp? [↓oD (.inl e1)];refine j6 (λk σ g' => ∃ (ks W:List Pt) (o:Option U),Old g g'/\g'[m]? = some (.dic (DS ks))/\g'[g1.length]? = some (.lst (W.map uP))/\ks.Nodup/\(∀ p∈ks,p∈l)/\(∀ p,p ∉ ks->OutP P l p)/\Cuts P W/\(∀ p∈ks,p∈W \/ ∀ q∈parentsM P p,q∈ks)/\W.length+4*ks.length<=385/\5*ks.length+W.length=k/\σ=[some (uPl P),some (.ref n),some (.ref m),some (.ref g1.length),o]) ?_ _ _ _ ⟨ah l,ah l,none,o1.more,aG e1,aj,cZ l,(λp hp=>bE.mp hp),(λp hp => .base λz=>hp (bE.mpr z)),hc.srt,(λp hp => .inl hp),by omega,rfl,rfl⟩
 rintro k σ g' ⟨ks,W,o,ho,e2,e3,nd,hL,hO,hW,hC,hw,hk,rfl⟩;have hcs:Cuts P ks:=λp hp=>hc p (hL p hp);rcases List.eq_nil_or_concat W with hnil | ⟨W',p,rfl⟩
 .subst hnil
  have same:ah ks=aW P l:=xV λq=>⟨jF hL (λp hp=>(hC p hp).resolve_left (λz=>nomatch z)),λz=>GG λy=>z (hO q y)⟩;simp? [e3,List.isEmpty_nil,gz (.inl e2) nd (by omega)]
  rw [same];exact h _ _ ho.more ho.len aj
 .have ne:(W'.concat p).map uP=W'.map uP++[uP p]:=by simp
  rw [ne] at e3;have lw:(W'.concat p).length=W'.length+1:=by simp
  have mem:∀ q,q∈W'.concat p ↔ q∈W'\/q=p:=λq=>by simp
  have hpc:p∈au P:=hW p ((mem p).mpr (.inr rfl));have hW':Cuts P W':=λq hq=>hW q ((mem q).mpr (.inl hq));have pop:=i5 e3;have e4:(g'.set g1.length (.lst (W'.map uP)))[m]? = some (.dic (DS ks)):=bF (by omega) e2
  have e5:(g'.set g1.length (.lst (W'.map uP)))[g1.length]? = some (.lst (W'.map uP)):=a7 e3;have o2:Old g (g'.set g1.length (.lst (W'.map uP))):=ho.set gl;have ind:=Et (p:=p) (.inl e4);simp? [e3,pk,pop,↓ind];generalize g'.set g1.length (.lst (W'.map uP))=g3 at e4 e5 o2 ind ⊢;refine ag (λk1 => ?_) λk1 => ?_
  .replace k1:p∈ks:=by simpa using k1
   simp? [eq_self];refine mR hP hpc (.inl e4) λgs n4 hn4 e6 => ?_;have e7:=aG (gs:=gs) e4;have e8:=aG (gs:=gs) e5;have o4:=o2.more (gs:=gs);generalize g3++gs=g4 at e6 e7 e8 o4 ⊢;have hmm:∀ q,q∈aP P ks p ↔ q∈parentsM P p/\q ∉ ks:=λq=>by unfold aP;rw [List.mem_filter];simp
   cases hlk:aP P ks p with
   | nil =>
    rw [hlk] at e6;simp? [e6,List.isEmpty_nil];refine ⟨_,?_,ks,W',_,o4,e7,e8,nd,hL,hO,hW',λr hr => ?_,by omega,rfl,rfl⟩
    .omega
    .rcases hC r hr with z | z
     .rcases (mem r).mp z with z | z
      .exact .inl z
      .refine .inr λq hq => ?_
       rw [z] at hq;exact GG λy=>by have:=(hmm q).mpr ⟨hq,y⟩;rw [hlk] at this;cases this
     .exact .inr z
   | cons q0 r0 =>
    have hq0:q0∈aP P ks p:=by rw [hlk];exact GH
    rw [hlk] at e6;have dl:∀ σ,b7 (.ref m) (uP p) σ g4=.ok (.nx σ) (g4.set m (.dic (DS (delP ks p)))):=λσ=>zG e7 k1;have e9:(g4.set m (.dic (DS (delP ks p))))[g1.length]? = some (.lst (W'.map uP)):=bF (by omega) e8
    have e10:(g4.set m (.dic (DS (delP ks p))))[m]? = some (.dic (DS (delP ks p))):=a7 e7;have o5:Old g (g4.set m (.dic (DS (delP ks p)))):=o4.set lm;simp? [e6,List.isEmpty_cons,dl,e9];generalize g4.set m (.dic (DS (delP ks p)))=g5 at e9 e10 o5 ⊢;obtain ⟨pi,pc⟩:=cU.mp hpc;refine uM hP pi pc λgs n6 hn6 e11 => ?_;have hcl:(childrenM P p).length<=4:=Gy (List.length_filter_le _ _) (by unfold bB;split;simp;split <;> simp)
    have dlen:=wm k1;have ext:=jb (aG (gs:=gs) e9) e11 (by rw [List.length_map,List.length_map];omega)
    simp? [ext];refine ⟨_,?_,delP ks p,W'++childrenM P p,_,(o5.more).set gl,bF (by omega) (aG e10),?_,zf nd,λq hq=>hL q (gm.mp hq).1,λq hq => ?_,λq hq => ?_,λr hr => ?_,?_,rfl,rfl⟩
    .rw [List.length_append];omega
    .rw [List.map_append];exact a7 (aG e9)
    .by_cases e:q=p
     .rw [e];exact .step ((hmm q0).mp hq0).1 (hO q0 ((hmm q0).mp hq0).2)
     .exact hO q λz=>hq (gm.mpr ⟨z,e⟩)
    .rcases List.mem_append.mp hq with z | z
     .exact hW' q z
     .exact ((nB hP hpc).mp z).1
    .obtain ⟨hr1,hr2⟩:=gm.mp hr
     by_cases hpr:p∈parentsM P r
     .exact .inl (List.mem_append.mpr (.inr ((nB hP hpc).mpr ⟨hcs r hr1,hpr⟩)))
     .rcases hC r hr1 with z | z
      .rcases (mem r).mp z with z | z
       .exact .inl (List.mem_append.mpr (.inl z))
       .exact absurd z hr2
      .exact .inr λq hq=>gm.mpr ⟨z q hq,λe=>hpr (by rw [<-e];exact hq)⟩
    .rw [List.length_append];omega
  .replace k1:p ∉ ks:=by simpa using k1
   simp? [eq_self];refine ⟨_,?_,ks,W',_,o2,e4,e5,nd,hL,hO,hW',λr hr => ?_,by omega,rfl,rfl⟩
   .omega
   .rcases hC r hr with z | z
    .rcases (mem r).mp z with z | z
     .exact .inl z
     .exact absurd (by rw [<-z];exact hr) k1
    .exact .inr z
theorem uS(ns:List Int)(h:∀ zs:List Int,Q (.ref 2) [.lst (zs.map U.int),.lst (zs.map U.int),cb 1 0 7]):wpC fns (d+1) 15 [.fro (ns.map U.int)] [] X Q:=by
 refine av (by rfl) (by rfl) ?_;simp only [mm]
 simp? [iD];have hz:bK (ns.map U.int) none (some 63)=(kH ns none (some 63)).map U.int:=xu ns _ _;simp? [hz,cb];exact h _
theorem cR{m:Int}(hb:Bag g)(hm:0 < m)(hm2:m < 1000000000000)(h:∀ (r:Int) (g':G),0<=r->r < m->Fr g g'->Q (.int r) g'):wpC fns (d+1) 16 [.ref 2,.int m] g X Q:=by
 obtain ⟨xs,at_,seed,h1,h2⟩:=hb;have l1:1 < g.length:=(List.getElem?_eq_some_iff.mp h1).1;have l2:2 < g.length:=(List.getElem?_eq_some_iff.mp h2).1;have hmb:m < az:=by unfold az;omega
 have h63:(2147483647:Int) < az:=by decide
 have h64:(64:Int) < az:=by decide
 have s1:small 48271:=cS (by decide)
 have s2:small 9973:=cS (by decide)
 have s3:small 31:=cS (by decide)
 have s4:small 69621:=cS (by decide)
 refine av (by rfl) (by rfl) ?_;simp only [l0]
 simp? [h1,h2,cb];have small_:∀ cell:Int,0<=cell -> ¬ 1000000000000000000<=cell->wpS fns d [(.ife (.cmp .ge (.var 4) (.bin .pow (.cst (.int 10)) (.cst (.int 18)))) [(.sub (.var 2) (.bin .mod (.var 3) (.bi .len [(.var 2)])) (.bin .fdiv (.var 4) (.var 1))),(.ret (.bin .mod (.var 4) (.var 1)))] []),(.sub (.var 0) (.cst (.int 1)) (.bin .add (.var 3) (.cst (.int 1)))),(.sub (.var 0) (.cst (.int 2)) (.bin .mod (.bin .add (.bin .add (.bin .add (.bin .mul (.idx (.var 0) (.cst (.int 2))) (.cst (.int 48271))) (.bin .mul (.var 4) (.cst (.int 9973)))) (.bin .mul (.var 3) (.cst (.int 31)))) (.cst (.int 11))) (.cst (.int 2147483647)))),(.ret (.bin .mod (.bin .fdiv (.bin .mod (.bin .mul (.idx (.var 0) (.cst (.int 2))) (.cst (.int 69621))) (.cst (.int 2147483629))) (.cst (.int 64))) (.var 1)))] [some (.ref 2),some (.int m),some (.ref 1),some (.int at_),some (.int cell)] g X λfl g=>fC fl (lk λu=>Q u g):=λcell c0 c1=>by
  have h2':=a7 (o':=cb 1 (at_+1) seed) h2;have h2'':=a7 (o':=cb 1 (at_+1) ((seed*48271+cell*9973+at_*31+11) % 2147483647)) h2';have cn : ¬ cell < 0:=by omega
  simp? [h1,h2,oi,cn,c1,je h2 (show (0:Int)<=1 by decide) (by simp),s1,s2,s3,s4,hm,hmb,h63,h64,show (1:Int).toNat=1 from rfl,h2']
  simp? [je h2' (show (0:Int)<=2 by decide) (by simp),s1,s2,s3,s4,hm,hmb,h63,h64,show (2:Int).toNat=2 from rfl,h2'']
  exact h _ _ (Int.emod_nonneg _ (by omega)) (Int.emod_lt_of_pos _ hm) ((Fr.set2 ⟨xs,at_,seed,h1,h2⟩ _ _).trans (Fr.set2 (Fr.set2 ⟨xs,at_,seed,h1,h2⟩ _ _).bag _ _))
 have big_:∀ cell:Int,0 < xs.length->1000000000000000000<=cell->wpS fns d [(.ife (.cmp .ge (.var 4) (.bin .pow (.cst (.int 10)) (.cst (.int 18)))) [(.sub (.var 2) (.bin .mod (.var 3) (.bi .len [(.var 2)])) (.bin .fdiv (.var 4) (.var 1))),(.ret (.bin .mod (.var 4) (.var 1)))] []),(.sub (.var 0) (.cst (.int 1)) (.bin .add (.var 3) (.cst (.int 1)))),(.sub (.var 0) (.cst (.int 2)) (.bin .mod (.bin .add (.bin .add (.bin .add (.bin .mul (.idx (.var 0) (.cst (.int 2))) (.cst (.int 48271))) (.bin .mul (.var 4) (.cst (.int 9973)))) (.bin .mul (.var 3) (.cst (.int 31)))) (.cst (.int 11))) (.cst (.int 2147483647)))),(.ret (.bin .mod (.bin .fdiv (.bin .mod (.bin .mul (.idx (.var 0) (.cst (.int 2))) (.cst (.int 69621))) (.cst (.int 2147483629))) (.cst (.int 64))) (.var 1)))] [some (.ref 2),some (.int m),some (.ref 1),some (.int at_),some (.int cell)] g X λfl g=>fC fl (lk λu=>Q u g):=λcell c0 c1=>by
  have ce:=yT (at_:=at_) c0;have cl:(0:Int) < xs.length:=by omega
  obtain ⟨m1,m2⟩:=jJ (at_:=at_) c0;simp? [h1,h2,oi,c1,List.length_map,cl,hm,hmb,je h1 m1 (by simpa using m2),<-List.map_set]
  exact h _ _ (Int.emod_nonneg _ (by omega)) (Int.emod_lt_of_pos _ hm) (Fr.set1 ⟨xs,at_,seed,h1,h2⟩ _)
 have fin_:∀ cell:Int,(1000000000000000000<=cell->0 < xs.length)->0<=cell->wpS fns d [(.ife (.cmp .ge (.var 4) (.bin .pow (.cst (.int 10)) (.cst (.int 18)))) [(.sub (.var 2) (.bin .mod (.var 3) (.bi .len [(.var 2)])) (.bin .fdiv (.var 4) (.var 1))),(.ret (.bin .mod (.var 4) (.var 1)))] []),(.sub (.var 0) (.cst (.int 1)) (.bin .add (.var 3) (.cst (.int 1)))),(.sub (.var 0) (.cst (.int 2)) (.bin .mod (.bin .add (.bin .add (.bin .add (.bin .mul (.idx (.var 0) (.cst (.int 2))) (.cst (.int 48271))) (.bin .mul (.var 4) (.cst (.int 9973)))) (.bin .mul (.var 3) (.cst (.int 31)))) (.cst (.int 11))) (.cst (.int 2147483647)))),(.ret (.bin .mod (.bin .fdiv (.bin .mod (.bin .mul (.idx (.var 0) (.cst (.int 2))) (.cst (.int 69621))) (.cst (.int 2147483629))) (.cst (.int 64))) (.var 1)))] [some (.ref 2),some (.int m),some (.ref 1),some (.int at_),some (.int cell)] g X λfl g=>fC fl (lk λu=>Q u g):=λcell c0 c1=>by
  by_cases c2:1000000000000000000<=cell
  .exact big_ cell (c0 c2) c2
  .exact small_ cell c1 c2
 refine ag (λk1 => ?_) λk1 => ?_
 .have k1:0 < xs.length:=by simpa using k1
  have cl:(0:Int) < xs.length:=by omega
  simp? [h1,List.length_map,cl,v5 k1];refine ag (λk2 => ?_) λk2 => ?_
  .have z:=fin_ (1 - iw xs at_) (λ_=>k1) (by simp only [decide_eq_true_eq] at k2;omega)
   simp? [eq_self] at z ⊢;exact z
  .have z:=fin_ (iw xs at_) (λ_=>k1) (by simp only [decide_eq_false_iff_not] at k2;omega)
   simp? [eq_self] at z ⊢;exact z
 .have z:=fin_ 0 (λz=>absurd z (by decide)) (by decide)
  simp? [eq_self] at z ⊢;exact z
noncomputable def di:List Plan:=[⟨1,1,2⟩,⟨1,1,4⟩,⟨2,1,2⟩,⟨1,2,2⟩,⟨2,2,2⟩,⟨1,1,4⟩,⟨3,1,2⟩,⟨1,3,2⟩,⟨2,1,4⟩,⟨1,2,4⟩,⟨3,2,2⟩,⟨1,1,8⟩]
theorem xh{P:Plan}(h:P∈di):P.ok:=by
 simp only [di,List.mem_cons,List.not_mem_nil,or_false] at h;rcases h with rfl | rfl | rfl | rfl | rfl | rfl | rfl | rfl | rfl | rfl | rfl | rfl <;> exact ⟨by simp,by simp,by simp⟩
theorem t8(hb:Bag g)(h:∀ (P:Plan) (g':G),P∈di->Fr g g'->Q (uPl P) g'):wpC fns (d+2) 17 [.ref 2] g X Q:=by
 refine av (by rfl) (by rfl) ?_;simp only [lW]
 simp? [eq_self];refine hU (aG aj) aj (by decide) ?_
 simp? [eq_self];refine cR hb.app.app.app (by decide) (by decide) λr g1 a1 b1 f1 => ?_
 have e1:=f1.get _ _ (by have:=hb.len;simp only [List.length_append,List.length_cons,List.length_nil];omega) aj
 obtain ⟨P,hP,hu⟩:=gI (l:=di) (f:=uPl) a1 (by exact b1)
 have e2:g1[(g++[O.lst ((di.take 6).map uPl)]++[O.lst ((di.drop 6).map uPl)]).length]? = some (.lst (di.map uPl)):=e1;have fr:Fr g g1:=by
  refine Fr.trans ?_ f1;rw [List.append_assoc,List.append_assoc];exact Fr.app hb
 revert e2;simp only [List.length_append,List.length_cons,List.length_nil];intro e2;simp? [e2,hu,List.length_append];exact h P g1 hP fr
theorem t6(hP:P.ok)(h:eA g ((bW P).map uP) Q):wpC fns (d+1) 18 [uPl P] g X Q:=by
 have h0:=hP.s0;have h1:=hP.ss;have hw:=hP.ws;have hd:=hP.ds;have r1:aV (P.w*P.s+1)=true:=cV (by omega) (by omega)
 have r2:aV (P.d*P.s+1)=true:=cV (by omega) (by omega)
 have hl:=l4 hP;refine av (by rfl) (by rfl) ?_;simp only [lF]
 simp? [*];refine fG ((ran (P.w*P.s+1)).map U.int) (λk σ g'=>(∃ o1 o2,σ=[some (uPl P),some (.ref g.length),o1,o2])/\g'=g++[.lst ((((ran (P.w*P.s+1)).take k).flatMap λx=>(ran (P.d*P.s+1)).map λy=>((x,y):Pt)).map uP)]) (λk σ g' _=>cX) (λk u σ g' hk hI => ?_) (λσ g' hI => ?_) _ 0 _ _ (Nat.zero_add _) ⟨⟨none,none,rfl⟩,rfl⟩
 .obtain ⟨⟨o1,o2,rfl⟩,rfl⟩:=hI
  simp only [List.getElem?_map,Option.map_eq_some_iff] at hk;obtain ⟨x,hx,rfl⟩:=hk;simp? [*];refine fG ((ran (P.d*P.s+1)).map U.int) (λj σ g'=>(∃ o2,σ=[some (uPl P),some (.ref g.length),some (.int x),o2])/\g'=g++[.lst (((((ran (P.w*P.s+1)).take k).flatMap λx=>(ran (P.d*P.s+1)).map λy=>((x,y):Pt))++(((ran (P.d*P.s+1)).take j).map λy=>((x,y):Pt))).map uP)]) (λk σ g' _=>cX) (λj u σ g' hj hI => ?_) (λσ g' hI => ?_) _ 0 _ _ (Nat.zero_add _) ⟨⟨o2,rfl⟩,by simp⟩
  .obtain ⟨⟨o2,rfl⟩,rfl⟩:=hI
   simp only [List.getElem?_map,Option.map_eq_some_iff] at hj;obtain ⟨y,hy,rfl⟩:=hj;have hk':=List.length_take_le k (ran (P.w*P.s+1));have hlen:((((ran (P.w*P.s+1)).take k).flatMap λx=>(ran (P.d*P.s+1)).map λy=>((x,y):Pt))++(((ran (P.d*P.s+1)).take j).map λy=>((x,y):Pt))).length<=700:=by
    have a1:=ju (f:=λx=>(ran (P.d*P.s+1)).map λy=>((x,y):Pt)) (B:=25) (l:=(ran (P.w*P.s+1)).take k) λa _=>by simp [bg];omega
    have a2:((ran (P.w*P.s+1)).take k).length<=25:=by rw [List.length_take,bg];omega
    have a3:=Nat.mul_le_mul_right 25 a2;rw [List.length_append,List.length_map,List.length_take,bg];omega
   simp? [aj,uK (show (List.map uP ((((ran (P.w*P.s+1)).take k).flatMap λx=>(ran (P.d*P.s+1)).map λy=>((x,y):Pt))++(((ran (P.d*P.s+1)).take j).map λy=>((x,y):Pt)))).length < 16777000 by rw [List.length_map];omega)]
   refine ⟨⟨_,rfl⟩,?_⟩;rw [List.take_succ,hy];simp
  .obtain ⟨⟨o2,rfl⟩,rfl⟩:=hI
   simp? [eq_self];refine ⟨⟨_,_,rfl⟩,?_⟩;rw [List.take_succ,hx];simp
 .obtain ⟨⟨o1,o2,rfl⟩,rfl⟩:=hI
  simp? [eq_self];refine h _ _ (GA _) ?_;simp [bW]
theorem lD(hP:P.ok)(h:Q (.bl (aX P p)) g):wpC fns (d+1) 19 [uPl P,uP p] g X Q:=by
 have h0:=hP.s0;refine av (by rfl) (by rfl) ?_;simp only [lH]
 simp? [*];simp only [aX] at h;refine ag (λk1 => ?_) λk1=>by simp? [*];simpa [k1] using h
 simp? [*];simpa [k1] using h
theorem l5(hP:P.ok)(h:eA g ((au P).map uP) Q):wpC fns (d+2) 20 [uPl P] g X Q:=by
 have hl:=l4 hP;refine av (by rfl) (by rfl) ?_;simp only [lZ]
 simp? [eq_self];refine t6 hP λgs n hn hg => ?_;simp? [*];refine cH (bW P) uP (λp => !aX P p) uP (λg'=>g'=g++gs) ((au P).map uP) rfl (λk g' e=>by rw [e,aS hg]) (λp hp => ?_) (by omega) rfl ?_
 .simp? [eq_self]
  rintro g' rfl;refine lD hP ?_;simp? [eq_self];refine ag (λk1 => ?_) λk1 => ?_ <;> simp? [*]
 .rintro g' rfl
  have hf:=List.length_filter_le (λp => !aX P p) (bW P);exact gy h (by rw [List.length_map];unfold au;omega)
theorem va(hP:P.ok)(h:Q (.bl (aH P p)) g):wpC fns (d+1) 21 [uPl P,uP p] g X Q:=by
 have h1:=hP.ss;refine av (by rfl) (by rfl) ?_;simp only [nI]
 simp? [h1];unfold aH at h
 (repeat' (refine ag (λ_ => ?_) (λ_ => ?_) <;> (try simp? [cN, *])))
 all_goals simp_all
theorem lU(h:Q (.int (stride p)) g):wpC fns (d+1) 22 [uP p] g X Q:=by
 refine av (by rfl) (by rfl) ?_;simp only [l7]
 simp? [eq_self];unfold stride at h
 (repeat' (refine ag (λ_ => ?_) (λ_ => ?_) <;> (try simp? [cN, *])))
 all_goals simp_all
theorem tY(h:Q (.bl (bZ p)) g):wpC fns (d+2) 23 [uP p] g X Q:=by
 have s0:=(eJ p).1;have sb:=gv p;refine av (by rfl) (by rfl) ?_;simp only [lG]
 simp? [eq_self];refine lU ?_;simp? [s0,sb];unfold bZ at h
 (repeat' (refine ag (λ_ => ?_) (λ_ => ?_) <;> (try simp? [cN, *])))
 all_goals simp_all
theorem t7(h:∀ gs n i j,(g++gs)[n]? = some (.lst [.ref i,.ref j])->(g++gs)[i]? = some (.lst [uP (aN p).1.1,uP (aN p).1.2])->(g++gs)[j]? = some (.lst [uP (aN p).2.1,uP (aN p).2.2])->Q (.ref n) (g++gs)):wpC fns (d+3) 24 [uP p] g X Q:=by
 have s0:=(eJ p).1;have s1:0 < 2*stride p:=by omega
 have sb:=nK p;have sb1:=gv p;have ss:=lO p;refine av (by rfl) (by rfl) ?_;simp only [lJ]
 simp? [eq_self];refine lU ?_;simp? [s0,s1,sb,sb1,ss];refine tY ?_;simp? [s0,s1,sb,sb1,ss];refine ag (λk1 => ?_) λk1 => ?_
 .have ev:=vD k1
  simp? [s0,s1,sb,sb1,ss];refine ag (λk2 => ?_) λk2 => ?_
  .have k3:=ev.mp (by simpa using k2)
   simp? [s0,s1,sb,sb1,ss];exact gM (i:=2) (j:=3) h (by simp [aN,k1,c6,k3,rising]) (by simp [aN,k1,c6,k3,falling]) (by simp) (by simp)
  .have k3:=mt ev.mpr (by simpa using k2)
   simp? [s0,s1,sb,sb1,ss];exact gM (i:=3) (j:=2) h (by simp [aN,k1,c6,k3,falling]) (by simp [aN,k1,c6,k3,rising]) (by simp) (by simp)
 .simp? [s0,s1,sb,sb1,ss]
  refine ag (λk2 => ?_) λk2 => ?_
  .have k3:p.1 / stride p % 2=1:=by simpa using k2
   simp? [s0,s1,sb,sb1,ss];exact gM (i:=0) (j:=1) h (by simp [aN,k1,dq,k3,lying]) (by simp [aN,k1,dq,k3,upright]) (by simp) (by simp)
  .have k3 : ¬ p.1 / stride p % 2=1:=by simpa using k2
   simp? [s0,s1,sb,sb1,ss];exact gM (i:=1) (j:=0) h (by simp [aN,k1,dq,k3,upright]) (by simp [aN,k1,dq,k3,lying]) (by simp) (by simp)
theorem iW(hP:P.ok)(h:eA g ((parentsM P p).map uP) Q):wpC fns (d+4) 25 [uPl P,uP p] g X Q:=by
 refine av (by rfl) (by rfl) ?_;simp only [l9]
 simp? [eq_self];refine t7 λgs n i j e1 e2 e3 => ?_;simp? [e1,e2,e3];refine cH [(aN p).2.1,(aN p).2.2] uP (λq=>aH P q && !aX P q) uP (λg'=>g'=g++gs) ((parentsM P p).map uP) rfl (λk g' e=>by rw [e];exact aS e3) (λq hq => ?_) (by simp) rfl ?_
 .simp? [eq_self]
  rintro g' rfl;refine va hP ?_;simp? [eq_self];refine ag (λk1 => ?_) λk1 => ?_
  .simp? [eq_self]
   refine lD hP ?_;simp? [k1];refine ag (λk2 => ?_) λk2 => ?_ <;> simp? [k1,k2]
  .simp? [k1,Bool.false_and]
 .rintro g' rfl
  have hl:=dA P p;exact gy h (by rw [List.length_map];omega)
theorem bD{n:Nat}{l:List Pt}(hn:g[n]? = some (.lst (l.map uP)))(hl:l.length<=100000)
  (h:∀ (g':G) (m:Nat) (ks:List Pt),Old g g'->g.length<=m->g'[m]? = some (.dic (DS ks))->ks.Nodup->(∀ p,p∈ks ↔ p∈l)->ks.length<=l.length->Q (.ref m) g'):wpC fns (d+1) 26 [.ref n] g X Q:=by
 refine av (by rfl) (by rfl) ?_;simp only [mv]
 simp? [aG hn];refine cO (l.map uP) (λk σ g' => ∃ (ks:List Pt) (o:Option U),g'=g++[.dic (DS ks)]/\ks.length<=k/\ks.Nodup/\(∀ p,p∈ks ↔ p∈l.take k)/\σ=[some (.ref n),some (.ref g.length),o]) (λk σ g' hI => ?_) ⟨[],none,rfl,GA _,.nil,λp=>by simp,rfl⟩ (λk u σ g' hk hI => ?_) (λσ g' hI => ?_)
 .obtain ⟨ks,o,rfl,_⟩:=hI
  exact aS (aG hn)
 .obtain ⟨ks,o,rfl,hlk,nd,hm,rfl⟩:=hI
  simp only [List.getElem?_map,Option.map_eq_some_iff] at hk;obtain ⟨p,hp,rfl⟩:=hk;have hkl:k < l.length:=(List.getElem?_eq_some_iff.mp hp).1;have sb:∀ σ,subAt (.ref g.length) (uP p) (.bl true) σ (g++[.dic (DS ks)])=.ok (.nx σ) (g++[.dic (DS (adP ks p))]):=λσ=>by
   rw [jf aj hJ (by unfold DS dM;rw [List.length_map];omega)]
   rw [show aL (p.1,p.2)=aL p from rfl,gN];simp
  simp? [sb];refine ⟨_,_,rfl,?_,ij nd,λq => ?_,rfl⟩
  .unfold adP;split
   .omega
   .simp;omega
  .rw [cv,hm,List.take_succ,hp];simp [or_comm]
 .obtain ⟨ks,o,rfl,hlk,nd,hm,rfl⟩:=hI
  simp? [eq_self];rw [List.length_map] at hlk hm;exact h _ _ ks Old.app (GA _) aj nd (λp=>by rw [hm,List.take_length]) hlk
theorem bO{n m:Nat}{l ks:List Pt}(hn:g[n]? = some (.lst (l.map uP)))(hm:SetAt g m ks)(h:Q (.bl (l.all λq=>decide (q∈ks))) g):wpC fns (d+1) 27 [.ref n,.ref m] g X Q:=by
 refine av (by rfl) (by rfl) ?_;simp only [lK]
 simp? [hn];refine cO (l.map uP) (λk σ g'=>g'=g/\(∀ q∈l.take k,q∈ks) /\ ∃ o,σ=[some (.ref n),some (.ref m),o]) (λk σ g' hI=>by rw [hI.1];exact aS hn) ⟨rfl,λq hq=>by simp at hq,_,rfl⟩ (λk u σ g' hk hI => ?_) (λσ g' hI => ?_)
 .obtain ⟨rfl,hN,o,rfl⟩:=hI
  simp only [List.getElem?_map,Option.map_eq_some_iff] at hk;obtain ⟨q,hq,rfl⟩:=hk;have nd:=qt (p:=q) hm;simp? [↓nd];refine ag (λk1 => ?_) λk1 => ?_
  .replace k1:q ∉ ks:=by simpa using k1
   simp? [eq_self];rw [show (l.all λq=>decide (q∈ks))=false from Bool.eq_false_iff.mpr λz=>k1 (GI (List.all_eq_true.mp z q (List.mem_of_getElem? hq)))] at h;exact h
  .replace k1:q∈ks:=by simpa using k1
   simp? [eq_self];refine ⟨λx hx => ?_,_,rfl⟩;rw [List.take_succ,hq] at hx;rcases List.mem_append.mp hx with z | z
   .exact hN x z
   .simp at z;rw [z];exact k1
 .obtain ⟨rfl,hN,o,rfl⟩:=hI
  simp? [eq_self];rw [List.length_map,List.take_length] at hN;rw [show (l.all λq=>decide (q∈ks))=true from List.all_eq_true.mpr λq hq=>decide_eq_true (hN q hq)] at h;exact h
theorem lI{n:Nat}{l:List Pt}(hM:P∈aK)(hP:P.ok)(hn:g[n]? = some (.lst (l.map uP)))(hl:l.length<=700)(hc:Cuts P l)
  (h:∀ (g':G) (m:Nat),Old g g'->g.length<=m->g'[m]? = some (.lst ((aY P l).map uP))->Q (.ref m) g'):wpC fns (d+5) 28 [uPl P,.ref n] g X Q:=by
 refine av (by rfl) (by rfl) ?_;simp only [lE]
 simp? [aG hn];refine j6 (λm σ g' => ∃ (ks W:List Pt) (o:Option U),Old g g'/\g'[g.length]? = some (.dic (DS ks))/\g'[g.length+1]? = some (.lst (W.map uP))/\ks.Nodup/\(∀ p∈ks,UpP P l p)/\(∀ p∈W,UpP P l p)/\(∀ p∈l,p∈ks\/p∈W)/\(∀ p∈ks,∀ q∈parentsM P p,q∈ks\/q∈W)/\W.length<=700+2*ks.length/\3*(77 - ks.length)+W.length=m/\σ=[some (uPl P),some (.ref n),some (.ref g.length),some (.ref (g.length+1)),o]) ?_ (3*(77 - 0)+l.length) _ _ ⟨[],l,none,Old.app.more,by simp [dM],by simp,.nil,(λp hp=>nomatch hp),(λp hp => .base hp),(λp hp => .inr hp),(λp hp=>nomatch hp),by simpa using hl,rfl,by simp⟩
 rintro m σ g' ⟨ks,W,o,ho,e1,e2,nd,uk,uW,hL,hC,hw,hm,rfl⟩;have hk:Cuts P ks:=λp hp=>(uk p hp).cut hc;have hk77:=hk.len hM nd;rcases List.eq_nil_or_concat W with hnil | ⟨W',p,rfl⟩
 .subst hnil
  have same:ah ks=aY P l:=oQ hc λq=>⟨uk q,jN (λp hp=>(hL p hp).resolve_right λz=>nomatch z) λp hp q hq=>(hC p hp q hq).resolve_right λz=>nomatch z⟩;simp? [e2,List.length_nil,Int.natCast_zero,gz (.inl e1) nd (by omega)]
  rw [same];exact h _ _ ho.more (ho.len) aj
 .have ne:(W'.concat p).map uP=W'.map uP++[uP p]:=by simp
  rw [ne] at e2;have lw:(W'.concat p).length=W'.length+1:=by simp
  have upp:UpP P l p:=uW p (by simp)
  have hpc:p∈au P:=upp.cut hc;have mem:∀ q,q∈W'.concat p ↔ q∈W'\/q=p:=λq=>by simp
  have pop:=i5 e2;have o2:Old g (g'.set (g.length+1) (.lst (W'.map uP))):=ho.set (by omega)
  have e3:(g'.set (g.length+1) (.lst (W'.map uP)))[g.length]? = some (.dic (DS ks)):=bF (by omega) e1
  have e4:(g'.set (g.length+1) (.lst (W'.map uP)))[g.length+1]? = some (.lst (W'.map uP)):=a7 e2;have nd2:=qt (p:=p) (.inl e3);have lp2:(0:Int) < ((W'.map uP).length+1:Nat):=by omega
  simp? [e2,List.length_append,lp2,pop,↓nd2];refine ag (λk1 => ?_) λk1 => ?_
  .replace k1:p ∉ ks:=by simpa using k1
   have hk1:ks.length+1<=77:=by
    have:=Cuts.len hM (l:=ks++[p]) (λq hq=>by rcases List.mem_append.mp hq with z | z;exact hk q z;rw [List.mem_singleton.mp z];exact hpc) (pD nd k1)
    simpa using this
   have sb:∀ σ,subAt (.ref g.length) (uP p) (.bl true) σ (g'.set (g.length+1) (.lst (W'.map uP)))=.ok (.nx σ) ((g'.set (g.length+1) (.lst (W'.map uP))).set g.length (.dic (DS (adP ks p)))):=λσ=>by
    rw [jf e3 hJ (by unfold DS dM;rw [List.length_map];omega),show aL (p.1,p.2)=aL p from rfl,gN]
   simp? [sb];generalize hg3:(g'.set (g.length+1) (.lst (W'.map uP))).set g.length (.dic (DS (adP ks p)))=g3;have o3:Old g g3:=by rw [<-hg3];exact o2.set (GA _)
   have e5:g3[g.length]? = some (.dic (DS (adP ks p))):=by rw [<-hg3];exact a7 e3
   have e6:g3[g.length+1]? = some (.lst (W'.map uP)):=by rw [<-hg3];exact bF (by omega) e4
   simp? [e6];refine iW hP λgs n3 hn3 e7 => ?_;have hpl:=dA P p;have ext:=jb (aG (gs:=gs) e6) e7 (by rw [List.length_map,List.length_map];omega)
   simp? [ext];have la:=xi k1;refine ⟨_,?_,adP ks p,W'++parentsM P p,_,(o3.more).set (by omega),bF (by omega) (aG e5),?_,ij nd,λq hq => ?_,λq hq => ?_,λq hq => ?_,λr hr q hq => ?_,?_,rfl,rfl⟩
   .rw [List.length_append];omega
   .rw [List.map_append];exact a7 (aG e6)
   .rcases cv.mp hq with rfl | z
    .exact upp
    .exact uk q z
   .rcases List.mem_append.mp hq with z | z
    .exact uW q ((mem q).mpr (.inl z))
    .exact .step upp z
   .rcases hL q hq with z | z
    .exact .inl (cv.mpr (.inr z))
    .rcases (mem q).mp z with z | z
     .exact .inr (List.mem_append.mpr (.inl z))
     .exact .inl (cv.mpr (.inl z))
   .rcases cv.mp hr with rfl | z
    .exact .inr (List.mem_append.mpr (.inr hq))
    .rcases hC r z q hq with y | y
     .exact .inl (cv.mpr (.inr y))
     .rcases (mem q).mp y with y | y
      .exact .inr (List.mem_append.mpr (.inl y))
      .exact .inl (cv.mpr (.inl y))
   .rw [List.length_append];omega
  .replace k1:p∈ks:=by simpa using k1
   simp? [eq_self];refine ⟨_,?_,ks,W',_,o2,e3,e4,nd,uk,λq hq=>uW q ((mem q).mpr (.inl hq)),λq hq => ?_,λr hr q hq => ?_,by omega,rfl,rfl⟩
   .omega
   .rcases hL q hq with z | z
    .exact .inl z
    .rcases (mem q).mp z with z | z
     .exact .inr z
     .exact .inl (by rw [z];exact k1)
   .rcases hC r hr q hq with z | z
    .exact .inl z
    .rcases (mem q).mp z with z | z
     .exact .inr z
     .exact .inl (by rw [z];exact k1)
theorem um{n:Nat}{l:List Pt}(hM:P∈aK)(hP:P.ok)(hn:g[n]? = some (.lst (l.map uP)))(hl:l.length<=300)(hc:Cuts P l)
  (h:∀ (g':G) (m:Nat),Old g g'->g.length<=m->g'[m]? = some (.lst ((aW P l).map uP))->Q (.ref m) g'):wpC fns (d+5) 29 [uPl P,.ref n] g X Q:=by
 rw [<-zO hM hP hc] at h;refine av (by rfl) (by rfl) ?_;simp only [lY]
 simp? [eq_self];refine bD hn (by omega) λg1 m1 ks o1 lm1 e1 nd hm hkl => ?_
 have hs:ah ks=ah l:=gh hm;have sl:=pC l;have bs:=gz (.inl e1) nd (by omega)
 rw [hs] at bs;have r8:aV 8=true:=cV (by decide) (by decide)
 simp? [bs,r8];refine cO ((ran 8).map U.int) (λk σ g' => ∃ (m:Nat) (o o':Option U),Old g g'/\g.length<=m/\g'[m]? = some (.lst ((bj P k (ah l)).map uP))/\σ=[some (uPl P),some (.ref n),some (.ref m),o,o']) (λk σ g' _=>cX) ⟨_,_,_,o1.more,o1.len,aj,rfl⟩ (λk u σ g' hk hI => ?_) (λσ g' hI => ?_)
 .obtain ⟨m,o,o',ho,lm,e2,rfl⟩:=hI
  simp only [List.getElem?_map,Option.map_eq_some_iff] at hk;obtain ⟨kk,_,rfl⟩:=hk;have tl:=i8 (P:=P) (l:=ah l) k;simp? [eq_self];refine bD e2 (by omega) λg3 m3 ks3 o3 lm3 e3 nd3 hm3 hkl3 => ?_
  have e4:=o3.get e2;simp? [e4];refine cH (bj P k (ah l)) uP (λp=>(parentsM P p).all λq=>decide (q∈bj P k (ah l))) uP (λg'=>Old g3 g') ((bj P (k+1) (ah l)).map uP) rfl (λk g' f=>aS (f.get e4)) (λp hp => ?_) (by omega) Old.refl ?_
  .simp? [eq_self]
   intro g5 o5;refine iW hP λgs n6 hn6 e6 => ?_;have o6:=o5.more (gs:=gs);simp? [eq_self];refine bO e6 (.inl (o6.get e3)) ?_;rw [show ((parentsM P p).all λq=>decide (q∈ks3))=(parentsM P p).all λq=>decide (q∈bj P k (ah l)) by simp only [hm3]]
   simp? [eq_self];refine ag (λk1 => ?_) λk1 => ?_ <;> simp? [k1]
   .exact o6
   .exact o6
  .intro g5 o5
   have:=i8 (P:=P) (l:=ah l) (k+1);refine ⟨by rw [List.length_map];omega,?_⟩
   simp? [eq_self];exact ⟨_,_,_,(ho.trans o3).trans (o5.more),Gy (ho.trans o3).len o5.len,aj,rfl⟩
 .obtain ⟨m,o,o',ho,lm,e2,rfl⟩:=hI
  simp? [eq_self];exact h _ _ ho lm e2
theorem iM{n:Nat}{l:List Pt}(hP:P.ok)(hn:g[n]? = some (.lst (l.map uP)))(hl:l.length<=300)(h:∀ (g':G) (b:Bool),Old g g'->(b=true ↔ Clo P l)->Q (.bl b) g'):wpC fns (d+5) 30 [uPl P,.ref n] g X Q:=by
 refine av (by rfl) (by rfl) ?_;simp only [ly]
 simp? [eq_self];refine bD hn (by omega) λg1 m1 ks o1 lm1 e1 nd hm hkl => ?_
 have e2:=o1.get hn;simp? [e2];refine cO (l.map uP) (λk σ g'=>Old g1 g'/\(∀ p∈l.take k,∀ q∈parentsM P p,q∈l) /\ ∃ o,σ=[some (uPl P),some (.ref n),some (.ref m1),o]) (λk σ g' hI=>aS (hI.1.get e2)) ⟨Old.refl,λp hp=>by simp at hp,_,rfl⟩ (λk u σ g' hk hI => ?_) (λσ g' hI => ?_)
 .obtain ⟨o3,hN,o,rfl⟩:=hI
  simp only [List.getElem?_map,Option.map_eq_some_iff] at hk;obtain ⟨p,hp,rfl⟩:=hk;simp? [eq_self];refine iW hP λgs n6 hn6 e6 => ?_;have o6:=o3.more (gs:=gs);simp? [eq_self];refine bO e6 (.inl (o6.get e1)) ?_;simp? [eq_self];refine ag (λk1 => ?_) λk1 => ?_
  .simp? [eq_self]
   refine h _ false (o1.trans o6) ⟨(λz=>by cases z),λz => ?_⟩
   exfalso;have:((parentsM P p).all λq=>decide (q∈ks))=true:=List.all_eq_true.mpr λq hq=>decide_eq_true ((hm q).mpr (z p (List.mem_of_getElem? hp) q hq));rw [this] at k1;cases k1
  .simp? [eq_self]
   refine ⟨o6,λx hx q hq => ?_,_,rfl⟩;rw [List.take_succ,hp] at hx;rcases List.mem_append.mp hx with z | z
   .exact hN x z q hq
   .simp at z
    subst z;have:((parentsM P x).all λq=>decide (q∈ks))=true:=by simpa using k1
    exact (hm q).mp (GI (List.all_eq_true.mp this q hq))
 .obtain ⟨o3,hN,o,rfl⟩:=hI
  simp? [eq_self];rw [List.length_map,List.take_length] at hN;exact h _ true (o1.trans o3) ⟨λ_=>hN,λ_=>rfl⟩
theorem lL(hM:P∈aK)(hP:P.ok)(hb:Bag g)(h:∀ (g':G) (m:Nat) (l:List Pt),Fr g g'->g.length<=m->g'[m]? = some (.lst (l.map uP))->Cuts P l->l.length<=77->Q (.ref m) g'):wpC fns (d+3) 31 [.ref 2,uPl P] g X Q:=by
 have h77:=(iz hM).2.2;have hpos:0 < (au P).length:=by
  have:(aK.all λP=>Nat.blt 0 (au P).length)=true:=by decide +kernel
  exact Nat.blt_eq.mp (List.all_eq_true.mp this P hM)
 have self:Cuts P (au P):=λp hp=>hp;refine av (by rfl) (by rfl) ?_;simp only [lP]
 simp? [eq_self];refine l5 hP λgs n1 hn1 e1 => ?_;have hn3:3<=n1:=Gy hb.len hn1;simp? [eq_self];refine cR hb.app (by decide) (by decide) λr g2 r0 r1 f2 => ?_
 have f02:Fr g g2:=(Fr.app hb).trans f2;have e2:=f2.get _ _ hn3 e1;have hlen2:g.length<=g2.length:=f02.len;have pick:∀ (m:Int),0 < m->m < 1000 -> ∀ (c:Int->Bool) (g3:G),Fr g2 g3->True:=λ_ _ _ _ _ _=>trivial;simp? [eq_self];refine ag (λk1 => ?_) λk1 => ?_
 .simp? [eq_self]
  exact h _ _ [] (f02.trans (Fr.app f2.bag)) hlen2 aj (λp hp=>nomatch hp) (by simp)
 simp? [eq_self];refine ag (λk2 => ?_) λk2 => ?_
 .simp? [eq_self]
  exact h _ _ _ f02 hn1 e2 self h77
 simp? [eq_self];refine ag (λk3 => ?_) λk3 => ?_
 .simp? [e2]
  refine fB ((au P).map uP) (λv => ∃ p,v=uP p/\p∈au P) (λg'=>Fr g2 g') (λk g' f=>aS (f.get _ _ hn3 e2)) (λu hu => ?_) ((au P).map uP).length 0 [] _ (Nat.zero_add _) (by rw [List.length_map];unfold ab;simp;omega) (Fr.refl f2.bag) λvs g' l1 l2 f3 => ?_
  .obtain ⟨p,hp,rfl⟩:=List.mem_map.mp hu
   simp? [eq_self];intro g' f3;refine cR f3.bag (by decide) (by decide) λr g4 r0 r1 f4 => ?_
   simp? [eq_self];refine ag (λk4 => ?_) λk4 => ?_
   .simp? [eq_self]
    exact ⟨f3.trans f4,λ_=>⟨⟨p,rfl,hp⟩,f3.trans f4⟩⟩
   .simp? [eq_self]
    exact ⟨f3.trans f4,λz=>by cases z⟩
  .obtain ⟨ps,rfl,hps⟩:=fv l2
   rw [List.length_map,List.length_map] at l1;refine ⟨by rw [List.nil_append,List.length_map];omega,?_⟩
   rw [List.nil_append];exact h _ _ ps ((f02.trans f3).trans (Fr.app f3.bag)) (Gy hlen2 f3.len) aj hps (by omega)
 simp? [eq_self];refine ag (λk4 => ?_) λk4 => ?_
 .simp? [e2]
  refine fB ((au P).map uP) (λv => ∃ p,v=uP p/\p∈au P) (λg'=>Fr g2 g') (λk g' f=>aS (f.get _ _ hn3 e2)) (λu hu => ?_) ((au P).map uP).length 0 [] _ (Nat.zero_add _) (by rw [List.length_map];unfold ab;simp;omega) (Fr.refl f2.bag) λvs g' l1 l2 f3 => ?_
  .obtain ⟨p,hp,rfl⟩:=List.mem_map.mp hu
   simp? [eq_self];intro g' f3;refine cR f3.bag (by decide) (by decide) λr g4 r0 r1 f4 => ?_
   simp? [eq_self];refine ag (λk4 => ?_) λk4 => ?_
   .simp? [eq_self]
    exact ⟨f3.trans f4,λ_=>⟨⟨p,rfl,hp⟩,f3.trans f4⟩⟩
   .simp? [eq_self]
    exact ⟨f3.trans f4,λz=>by cases z⟩
  .obtain ⟨ps,rfl,hps⟩:=fv l2
   rw [List.length_map,List.length_map] at l1;refine ⟨by rw [List.nil_append,List.length_map];omega,?_⟩
   rw [List.nil_append];exact h _ _ ps ((f02.trans f3).trans (Fr.app f3.bag)) (Gy hlen2 f3.len) aj hps (by omega)
 simp? [eq_self];refine cR f2.bag (by decide) (by decide) λr3 g3 s0 s1 f3 => ?_
 have e3:=f3.get _ _ hn3 e2;have rr:aV (1+r3)=true:=cV (by omega) (by omega)
 simp? [rr];refine AL ((ran (1+r3)).map U.int) (λv => ∃ p,v=uP p/\p∈au P) (λg'=>Fr g2 g') (λk g' f=>cX) (λu hu => ?_) (by rw [List.length_map,bg];omega) f3 λvs g' l1 l2 f4 => ?_
 .obtain ⟨kk,hk,rfl⟩:=List.mem_map.mp hu
  simp? [eq_self];intro g' f4;have e4:=f4.get _ _ hn3 e2;simp? [e4,List.length_map];refine cR f4.bag (by omega) (by omega) λr5 g5 t0 t1 f5 => ?_
  obtain ⟨p,hp,hu⟩:=gI (f:=uP) t0 t1;simp? [f5.get _ _ hn3 e4,hu];exact ⟨⟨p,rfl,hp⟩,f4.trans f5⟩
 .obtain ⟨ps,rfl,hps⟩:=fv l2
  rw [List.length_map,List.length_map,bg] at l1;refine ⟨by rw [List.length_map];omega,?_⟩
  exact h _ _ ps ((f02.trans f4).trans (Fr.app f4.bag)) (Gy hlen2 f4.len) aj hps (by omega)
theorem ug(hM:P∈aK)(hP:P.ok)(hb:Bag g)(h:∀ (g':G) (m:Nat) (l:List Pt),Fr g g'->g.length<=m->g'[m]? = some (.lst (l.map uP))->Cuts P l->Clo P l->l.length<=77->Q (.ref m) g'):wpC fns (d+6) 32 [.ref 2,uPl P] g X Q:=by
 refine av (by rfl) (by rfl) ?_;simp only [lS]
 simp? [eq_self];refine lL hM hP hb λg1 m l f1 lm e1 hc hl => ?_;simp? [eq_self];refine lI hM hP e1 (by omega) hc λg2 m2 o2 lm2 e2 => ?_
 simp? [eq_self];exact h _ _ (aY P l) (f1.trans (o2.fr f1.bag)) (Gy f1.len lm2) e2 eI (ja hc) (eI.len hM i9)
noncomputable def CloAt(P:Plan)(g:G)(u:U):Prop := ∃ m l,u=.ref m/\3<=m/\g[m]? = some (.lst (l.map uP))/\Cuts P l/\Clo P l/\l.length<=77
theorem CloAt.fr{g g':G}{u:U}(h:CloAt P g u)(f:Fr g g'):CloAt P g' u:=by
 obtain ⟨m,l,e,h3,h4,h5⟩:=h;exact ⟨m,l,e,h3,f.get _ _ h3 h4,h5⟩
theorem CloAt.old{g g':G}{u:U}(h:CloAt P g u)(f:Old g g'):CloAt P g' u:=by
 obtain ⟨m,l,e,h3,h4,h5⟩:=h;exact ⟨m,l,e,h3,f.get h4,h5⟩
theorem vS:(aK.all λP=>decide (5<=(au P).length))=true:=by decide +kernel
theorem Fr.setNew{g g':G}{m:Nat}{o:O}(h:Fr g g')(h1:g.length<=m)(h2:3<=m):Fr g (g'.set m o):=by
 obtain ⟨⟨xs,a,s,b1,b2⟩,l,q⟩:=h;refine ⟨⟨xs,a,s,by rw [List.getElem?_set_ne (by omega)];exact b1,by rw [List.getElem?_set_ne (by omega)];exact b2⟩,by simpa using l,λk o' hk e => ?_⟩
 have:k < g.length:=(List.getElem?_eq_some_iff.mp e).1;rw [List.getElem?_set_ne (by omega)]
 exact q k o' hk e
theorem uu(hM:P∈aK)(hP:P.ok)(hb:Bag g)(h:∀ (g':G) (m:Nat) (xs:List U),Fr g g'->g.length<=m->g'[m]? = some (.lst xs)->xs.length<=32->(∀ u∈xs,CloAt P g' u)->Q (.ref m) g'):wpC fns (d+8) 33 [.ref 2,uPl P] g X Q:=by
 have h5:=GI (List.all_eq_true.mp vS P hM);have h77:=(iz hM).2.2;have b3:=hb.len;refine av (by rfl) (by rfl) ?_;simp only [lX]
 simp? [eq_self];refine l5 hP λgs1 n1 hn1 e1 => ?_;have b1:=hb.app (gs:=gs1);have F1:Fr g (g++gs1):=Fr.app hb;have r6:aV 6=true:=cV (by decide) (by decide)
 have r5:aV 5=true:=cV (by decide) (by decide)
 have r32:aV 32=true:=cV (by decide) (by decide)
 generalize g++gs1=g1 at *;simp? [e1,List.length_map];refine ag (λk1 => ?_) λk1 => ?_
 .simp? [r6]
  refine lq ((ran 6).map U.int) (λk acc g'=>Fr g1 g' /\ ∀ u∈acc,CloAt P g' u) (λk acc g' _=>cX) (λk u acc hk' => ?_) (by rw [List.length_map,bg];decide) ⟨Fr.refl b1,λu hu=>nomatch hu⟩ (λvs g' hI hvl => ?_)
  .simp only [List.getElem?_map,Option.map_eq_some_iff] at hk'
   obtain ⟨y,_,rfl⟩:=hk';simp? [eq_self];rintro g' ⟨fr,ha⟩;refine ug hM hP fr.bag λg2 m l f2 lm e2 hc hcl hl => ?_;refine ⟨fr.trans f2,λu hu => ?_⟩;rcases List.mem_append.mp hu with z | z
   .exact (ha u z).fr f2
   .exact ⟨m,l,List.mem_singleton.mp z,by have:=fr.len;have:=F1.len;omega,e2,hc,hcl,hl⟩
  .obtain ⟨fr,ha⟩:=hI
   rw [List.length_map,bg] at hvl;have hvl:vs.length=6:=hvl;refine ⟨by omega,?_⟩
   simp? [eq_self];have f2:=Fr.app (gs:=[O.lst vs]) fr.bag;exact h _ _ vs ((F1.trans fr).trans f2) (F1.trans fr).len aj (by omega) λu hu=>(ha u hu).fr f2
 .replace k1:(au P).length=5:=by simp at k1;omega
  simp? [r32];refine cO ((ran 32).map U.int) (λk σ g' => ∃ (xs:List U) (o o':Option U),Fr g1 g'/\g'[g1.length]? = some (.lst xs)/\xs.length<=k/\(∀ u∈xs,CloAt P g' u)/\σ=[some (.ref 2),some (uPl P),some (.ref n1),some (.ref g1.length),o,o']) (λk σ g' _=>cX) ⟨[],_,_,Fr.app b1,aj,GA _,(λu hu=>nomatch hu),rfl⟩ (λk u σ g' hk hI => ?_) (λσ g' hI => ?_)
  .obtain ⟨xs,o,o',fr,e2,hl,ha,rfl⟩:=hI
   simp only [List.getElem?_map,Option.map_eq_some_iff] at hk;obtain ⟨y,hy,rfl⟩:=hk;have hk32:k < 32:=by have:=(List.getElem?_eq_some_iff.mp hy).1;rw [bg] at this;exact this
   have l1:=F1.len;have e12:=fr.get _ _ (by omega) e1
   simp? [r5];refine fB ((ran 5).map U.int) (λv => ∃ p,v=uP p/\p∈au P) (λg2=>Old g' g2) (λk g' f=>cX) (λu hu => ?_) ((ran 5).map U.int).length 0 [] _ (Nat.zero_add _) (by rw [List.length_map,bg];unfold ab;decide) Old.refl λvs g2 l2 l3 o2 => ?_
   .obtain ⟨z,hz,rfl⟩:=List.mem_map.mp hu
    have hz:=pS.mp hz;obtain ⟨w,hw,hu⟩:=gI (l:=([1,2,4,8,16]:List Int)) (f:=U.int) hz.1 (by exact hz.2)
    have w0:0 < w/\w<=16:=by
     simp only [List.mem_cons,List.not_mem_nil,or_false] at hw;omega
    have wb:w < az:=by unfold az;omega
    have b2:(2:Int) < az:=by decide
    have hu':uix [U.int 1,U.int 2,U.int 4,U.int 8,U.int 16] z=some (.int w):=hu;obtain ⟨p,hp,hup⟩:=gI (l:=au P) (f:=uP) hz.1 (by omega)
    simp? [eq_self];intro g2 o2;have e13:=o2.get e12;simp? [aj,hu',w0.1,wb,b2];refine ag (λk2 => ?_) λk2 => ?_
    .simp? [aG e13,hup]
     exact ⟨o2.more,λ_=>⟨⟨p,rfl,hp⟩,o2.more⟩⟩
    .simp? [eq_self]
     exact ⟨o2.more,λz=>by cases z⟩
   .obtain ⟨ps,rfl,hps⟩:=fv l3
    rw [List.length_map,List.length_map,bg] at l2;have l2:ps.length<=5:=l2;have hcp:Cuts P ps:=λp hp=>hps p hp;refine ⟨by simp;omega,?_⟩
    simp? [eq_self];refine iM hP aj (by omega) λg3 b o3 hbc => ?_
    have o23:Old g' g3:=(o2.more).trans o3;have f3:=o23.fr fr.bag;have e23:=o23.get e2;have ep:=o3.get (aj (g:=g2) (o:=O.lst (ps.map uP)));have lg:=fr.len;have lg2:=o2.len;cases b with
    | true =>
     have ap:=ni (y := .ref g2.length) e23 (by omega)
     simp? [e23,ap];have hc:=hbc.mp rfl;have f4:Fr g1 (g3.set g1.length (.lst (xs++[.ref g2.length]))):=Fr.setNew (fr.trans f3) (GA _) (by omega)
     refine ⟨xs++[.ref g2.length],_,_,f4,a7 e23,by simp;omega,λu hu => ?_,rfl⟩
     have key:∀ u,CloAt P g3 u->u ≠ .ref g1.length->CloAt P (g3.set g1.length (.lst (xs++[.ref g2.length]))) u:=λu hu hne=>by
      obtain ⟨m,l,rfl,h3,h4,h5⟩:=hu;exact ⟨m,l,rfl,h3,bF (λe=>hne (by rw [e])) h4,h5⟩
     rcases List.mem_append.mp hu with z | z
     .refine key u ((ha u z).old o23) λe => ?_
      subst e;obtain ⟨m,l,e,h3,h4,h5⟩:=ha _ z;cases e;rw [e2] at h4;cases h4;cases l with
      | nil=>simp at z
      | cons q l=>obtain ⟨q',_,e'⟩:=List.mem_map.mp z;cases e'
     .have:u=.ref g2.length:=by simpa using z
      subst this;refine key _ ⟨_,ps,rfl,by omega,ep,hcp,hc,by omega⟩ λe => ?_
      have lt:=(List.getElem?_eq_some_iff.mp e2).1;have e':g2.length=g1.length:=by injection e
      omega
    | false =>
     simp? [eq_self];exact ⟨xs,_,_,fr.trans f3,e23,by omega,λu hu=>(ha u hu).old o23,rfl⟩
  .obtain ⟨xs,o,o',fr,e2,hl,ha,rfl⟩:=hI
   rw [List.length_map,bg] at hl;have hl:xs.length<=32:=hl;simp? [eq_self];exact h _ _ xs (F1.trans fr) F1.len e2 hl ha
theorem rK{g:G}(ns:List Int)(hM:P∈aK)(hP:P.ok)(hb:Bag g):wpS fns (d+11) (d9.body.drop 3) [some (.fro (ns.map U.int)),some (.ref 2),some (uPl P),none,none,none,none,none,none] g X (Kfn λu _=>u=.bl true):=by
 simp only [d9,List.drop_succ_cons,List.drop_zero];simp? [eq_self];refine lL hM hP hb λg2 n a f2 ln ea ca la => ?_;have hb3:=hb.len;have ka:Cuts P (aY P a):=eI;have ha:Cuts P (aW P a):=iZ ca;have la1:=ka.len hM i9;have lh1:=ha.len hM nU;simp? [ea];refine y9 hM hP aj (by omega) ca λg4 v o4 lv ev => ?_
 have o34:Old g2 g4:=Old.app.trans o4;have ea4:=o34.get ea;simp? [ea4];refine wC hM hP aj (by omega) ca λg5 w o5 lw ew => ?_
 have o45:Old g4 g5:=Old.app.trans o5;have ev5:=o45.get ev;have ea5:=o45.get ea4;simp? [eq_self];refine iM hP ev5 (by omega) λg6 b1 o6 hb1 => ?_
 obtain rfl:=hb1.mpr (ja ca);have ew6:=o6.get ew;simp? [eq_self];refine iM hP ew6 (by omega) λg7 b2 o7 hb2 => ?_
 obtain rfl:=hb2.mpr oA;have o57:=o6.trans o7;simp? [eq_self];refine bD (o57.get ev5) (by omega) λg8 s1 k1 o8 _ es1 nd1 hm1 _ => ?_
 have o58:=o57.trans o8;simp? [eq_self];refine bO (o58.get ea5) (.inl es1) ?_;rw [show (a.all λq=>decide (q∈k1))=true from List.all_eq_true.mpr λq hq=>decide_eq_true ((hm1 q).mpr ((eM ca).mpr (.base hq)))];simp? [eq_self];refine bD (o58.get ea5) (by omega) λg9 s2 k2 o9 _ es2 nd2 hm2 _ => ?_
 have o59:=o58.trans o9;simp? [eq_self];refine bO (o59.get ew) (.inl es2) ?_;rw [show ((aW P a).all λq=>decide (q∈k2))=true from List.all_eq_true.mpr λq hq=>decide_eq_true ((hm2 q).mpr (ng hq))];have bag9:Bag g9:=((((o34.trans o45).trans o59).fr f2.bag)).bag;have ea9:=o59.get ea5;have ev9:=o59.get ev5;have ew9:=o59.get ew;have n3:3<=n:=by omega
 have l2:=f2.len;have l34:=o34.len;have l45:=o45.len;have v3:3<=v:=by simp at lv;omega
 have w3:3<=w:=by simp at lw;omega
 clear es1 es2 hm1 hm2 nd1 nd2 o4 o5 o6 o7 o8 o9;simp? [eq_self];refine uu hM hP bag9 λgA m xs fA lm ex lx hx => ?_;have eaA:=fA.get _ _ n3 ea9;have evA:=fA.get _ _ v3 ev9;have ewA:=fA.get _ _ w3 ew9;clear ea9 ev9 ew9 ea5 ev5 ew ew6 ea4 ev;have lA:=fA.bag.len;simp? [ex];refine lq xs (λk acc g'=>Old gA g' /\ ∀ u∈acc,CloAt P g' u) (λk acc g' hI=>aS (hI.1.get ex)) (λk u acc hk' => ?_) (by omega) ⟨Old.refl,λu hu=>nomatch hu⟩ (λys gB hB hyl => ?_)
 .obtain ⟨m1,l,rfl,h3,h4,hc,hcl,hl⟩:=hx u (List.mem_of_getElem? hk')
  simp? [eq_self];rintro g' ⟨og,hacc⟩;refine hU (og.get eaA) (og.get h4) (by rw [List.length_map,List.length_map];exact Gy (show _<=1000 by omega) (by decide)) ?_
  rw [<-List.map_append];have cal:=ca.app hc;simp? [eq_self];refine lI hM hP aj (by rw [List.length_append];omega) cal λg3 m3 o3 lm3 e3 => ?_
  have o13:Old g' g3:=Old.app.trans o3;have lo:=og.len;refine ⟨og.trans o13,λu hu => ?_⟩;rcases List.mem_append.mp hu with z | z
  .exact (hacc u z).old o13
  .exact ⟨m3,_,List.mem_singleton.mp z,by simp at lm3;omega,e3,eI,ja cal,eI.len hM i9⟩
 obtain ⟨oB,hy⟩:=hB;have oB':Old gA (gB++[O.lst ys]):=oB.more;have exB:=oB'.get ex;have hx1:∀ u∈xs++ys,CloAt P (gB++[O.lst ys]) u:=λu hu=>by
  rcases List.mem_append.mp hu with z | z
  .exact (hx u z).old oB'
  .exact (hy u z).old Old.app
 refine ⟨by omega,?_⟩
 simp? [eq_self];refine hU exB aj (Gy (show _<=1000 by omega) (by decide)) ?_
 have eaB:=oB'.get eaA;have evB:=oB'.get evA;have ewB:=oB'.get ewA;have lB:3<=(gB++[O.lst ys]).length:=by have:=oB'.len;omega
 generalize gB++[O.lst ys]=gC at *;have ex2:(gC++[O.lst (xs++ys)])[gC.length]? = some (.lst (xs++ys)):=aj;have oC:Old gC (gC++[O.lst (xs++ys)]):=Old.app;have eaC:=oC.get eaB;have evC:=oC.get evB;have ewC:=oC.get ewB;have hx2:∀ u∈xs++ys,CloAt P (gC++[O.lst (xs++ys)]) u:=λu hu=>(hx1 u hu).old oC;have lxy:(xs++ys).length<=64:=by rw [List.length_append];omega
 have lC:3<=(gC++[O.lst (xs++ys)]).length:=by simp;omega
 generalize hD:gC++[O.lst (xs++ys)]=gD at *;generalize xs++ys=zs at *;generalize gC.length=mz at *;clear hx hy hx1 ex exB eaA evA ewA eaB evB ewB oB oB' oC;simp? [ex2];refine lq zs (λk acc g'=>Old gD g' /\ ∀ u∈acc,CloAt P g' u) (λk acc g' hI=>aS (hI.1.get ex2)) (λk u acc hk' => ?_) (by omega) ⟨Old.refl,λu hu=>nomatch hu⟩ (λws gE hE hwl => ?_)
 .obtain ⟨m1,l,rfl,h3,h4,hc,hcl,hl⟩:=hx2 u (List.mem_of_getElem? hk')
  simp? [eq_self];rintro g' ⟨og,hacc⟩;have ea':=og.get eaC;have el':=og.get h4;simp? [ea'];refine cH a uP (λp=>decide (p∈l)) uP (λg2=>g2=g') ((a.filter λp=>decide (p∈l)).map uP) rfl (λk g2 e=>by rw [e];exact aS ea') (λp hp => ?_) (by omega) rfl ?_
  .simp? [eq_self]
   rintro g2 rfl;simp? [el',rC];refine ag (λk1 => ?_) λk1 => ?_ <;> simp? [k1]
  rintro g2 rfl;have lin:=List.length_filter_le (λp=>decide (p∈l)) a;have cal:Cuts P (a.filter λp=>decide (p∈l)):=λp hp=>ca p (List.mem_filter.mp hp).1;refine ⟨by rw [List.length_map];omega,?_⟩
  simp? [eq_self];refine um hM hP aj (by omega) cal λg3 m3 o3 lm3 e3 => ?_
  have o13:Old g2 g3:=Old.app.trans o3;have lo:=og.len;refine ⟨og.trans o13,λu hu => ?_⟩;rcases List.mem_append.mp hu with z | z
  .exact (hacc u z).old o13
  .exact ⟨m3,_,List.mem_singleton.mp z,by simp at lm3;omega,e3,iZ cal,oA,(iZ cal).len hM nU⟩
 obtain ⟨oE,hw⟩:=hE;have oE':Old gD (gE++[O.lst ws]):=oE.more;have ex3:=oE'.get ex2;have hx3:∀ u∈zs++ws,CloAt P (gE++[O.lst ws]) u:=λu hu=>by
  rcases List.mem_append.mp hu with z | z
  .exact (hx2 u z).old oE'
  .exact (hw u z).old Old.app
 refine ⟨by omega,?_⟩
 simp? [eq_self];refine hU ex3 aj (Gy (show _<=1000 by omega) (by decide)) ?_
 have eaE:=oE'.get eaC;have evE:=oE'.get evC;have ewE:=oE'.get ewC;generalize gE++[O.lst ws]=gF at *;have ex4:(gF++[O.lst (zs++ws)])[gF.length]? = some (.lst (zs++ws)):=aj;have oF:Old gF (gF++[O.lst (zs++ws)]):=Old.app;have eaF:=oF.get eaE;have evF:=oF.get evE;have ewF:=oF.get ewE;have hx4:∀ u∈zs++ws,CloAt P (gF++[O.lst (zs++ws)]) u:=λu hu=>(hx3 u hu).old oF;generalize gF++[O.lst (zs++ws)]=gG at *;generalize zs++ws=ts at *;generalize gF.length=mt at *;clear hx2 hx3 ex2 ex3 eaC evC ewC eaE evE ewE oE oE' oF;simp? [ex4];refine cO ts (λk σ g'=>Old gG g' /\ ∃ o,σ=[some (.fro (ns.map U.int)),some (.ref 2),some (uPl P),some (.ref n),some (.ref v),some (.ref w),some (.bl true),some (.ref mt),o]) (λk σ g' hI=>aS (hI.1.get ex4)) ⟨Old.refl,_,rfl⟩ (λk u σ g' hk hI => ?_) (λσ g' hI => ?_)
 .obtain ⟨og,o,rfl⟩:=hI
  obtain ⟨m1,l,rfl,h3,h4,hc,hcl,hl⟩:=hx4 u (List.mem_of_getElem? hk);have e1:=og.get h4;simp? [eq_self];refine bD e1 (by omega) λg8 s1 k1 o8 _ es1 nd1 hm1 _ => ?_
  have og8:=og.trans o8;simp? [eq_self];refine bO (og8.get eaF) (.inl es1) ?_;simp? [eq_self];refine ag (λc1 => ?_) λc1 => ?_
  .have sub:∀ q∈a,q∈l:=λq hq=>(hm1 q).mp (GI (List.all_eq_true.mp c1 q hq))
   simp? [eq_self];refine bD (og8.get h4) (by omega) λgY s3 k3 oY _ es3 nd3 hm3 _ => ?_
   have ogY:=og8.trans oY;simp? [eq_self];refine bO (ogY.get evF) (.inl es3) ?_;rw [show ((aY P a).all λq=>decide (q∈k3))=true from List.all_eq_true.mpr λq hq=>decide_eq_true ((hm3 q).mpr (jN sub hcl ((eM ca).mp hq)))];simp? [eq_self];refine bD (ogY.get eaF) (by omega) λgX s2 k2 oX _ es2 nd2 hm2 _ => ?_
   have ogX:=ogY.trans oX;simp? [eq_self];refine bO (ogX.get h4) (.inl es2) ?_;simp? [eq_self];refine ag (λc2 => ?_) λc2 => ?_
   .have sub:∀ q∈l,q∈a:=λq hq=>(hm2 q).mp (GI (List.all_eq_true.mp c2 q hq))
    simp? [eq_self];refine bD (ogX.get ewF) (by omega) λgZ s3 k3 oZ _ es3 nd3 hm3 _ => ?_
    have ogZ:=ogX.trans oZ;simp? [eq_self];refine bO (ogZ.get h4) (.inl es3) ?_;rw [show (l.all λq=>decide (q∈k3))=true from List.all_eq_true.mpr λq hq=>decide_eq_true ((hm3 q).mpr (cT.mpr (jF sub hcl hq)))];simp? [eq_self];exact ⟨ogZ,_,rfl⟩
   .simp? [eq_self]
    exact ⟨ogX,_,rfl⟩
  .simp? [eq_self]
   refine bD (og8.get eaF) (by omega) λgX s2 k2 oX _ es2 nd2 hm2 _ => ?_
   have ogX:=og8.trans oX;simp? [eq_self];refine bO (ogX.get h4) (.inl es2) ?_;simp? [eq_self];refine ag (λc2 => ?_) λc2 => ?_
   .have sub:∀ q∈l,q∈a:=λq hq=>(hm2 q).mp (GI (List.all_eq_true.mp c2 q hq))
    simp? [eq_self];refine bD (ogX.get ewF) (by omega) λgZ s3 k3 oZ _ es3 nd3 hm3 _ => ?_
    have ogZ:=ogX.trans oZ;simp? [eq_self];refine bO (ogZ.get h4) (.inl es3) ?_;rw [show (l.all λq=>decide (q∈k3))=true from List.all_eq_true.mpr λq hq=>decide_eq_true ((hm3 q).mpr (cT.mpr (jF sub hcl hq)))];simp? [eq_self];exact ⟨ogZ,_,rfl⟩
   .simp? [eq_self]
    exact ⟨ogX,_,rfl⟩
 .obtain ⟨og,o,rfl⟩:=hI
  simp? [eq_self]
theorem law_ok(ns:List Int):wpC fns (d+12) 34 [.fro (ns.map U.int)] [] X λu _=>u=.bl true:=by
 refine av (by rfl) (by rfl) ?_;simp only [d9]
 simp? [eq_self];refine uS ns λzs => ?_;have hb:Bag [.lst (zs.map U.int),.lst (zs.map U.int),cb 1 0 7]:=⟨zs,0,7,rfl,rfl⟩;revert hb;generalize ([.lst (zs.map U.int),.lst (zs.map U.int),cb 1 0 7]:G)=g0;intro hb;simp? [eq_self];refine t8 hb λP g1 hM f1 => ?_;have hP:=xh hM;have hM:P∈aK:=hM;simp? [eq_self];refine cR f1.bag (by decide) (by decide) λr g2 r0 r1 f2 => ?_
 simp? [eq_self];refine ag (λk1 => ?_) λk1 => ?_
 .have z:=rK (d:=d) (X:=X) (P:=⟨1,1,2⟩) (g:=g2) ns GH ⟨.inl rfl,.inl rfl,.inl rfl⟩ f2.bag
  simp only [d9,List.drop_succ_cons,List.drop_zero] at z;simp? [eq_self] at z ⊢;exact z
 .have z:=rK (d:=d) (X:=X) (P:=P) (g:=g2) ns hM hP f2.bag
  simp only [d9,List.drop_succ_cons,List.drop_zero] at z;simp? [eq_self] at z ⊢;exact z
end
theorem run(ns:List Int)(h:ns.length<=63):∃ fu g',aa fns fu 40 34 [.fro (ns.map U.int)] []=.ok (.bl true) g':=by
 obtain ⟨fu,u,g',e,q⟩:=yS (law_ok (d:=28) (X:=λ_ _ _=>False) ns);subst q;exact ⟨fu,g',e⟩
end
end Lk20
open PySem PySem.W PyProof.Rows
set_option maxRecDepth 100000 in
set_option maxHeartbeats 0 in
theorem PySem.Challenge.cw_braemantle_k20_whole_least_and_greatest_holds : PySem.Challenge.rw_braemantle_k20_whole_least_and_greatest.Holds := by
 refine PI.zz (l:=PySem.Challenge.rw_braemantle_k20_whole_least_and_greatest) (T:=Lk20.T) (is:=Lk20.cg) (fns:=Lk20.fns) (loose:=Lk20.loose) (d:=40) (i:=34) (N:=20000) (x := "_law_script") (by kernel_rfl) Lk20.all (by kernel_rfl) (by kernel_rfl) (by kernel_rfl) (by kernel_rfl) (by kernel_rfl) ⟨rfl,rfl,rfl,rfl,rfl,by decide +kernel⟩ ?hw rfl ⟨rfl,by decide,by decide⟩ rfl rfl Lk20.run
 case hw=>w_witness2
