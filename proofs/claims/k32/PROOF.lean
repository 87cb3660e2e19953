import PyProof.Rows.All
import KE.KDictOf
import KE.KDictSum
import KE.KEqDict
import KE.KFromBytes
import KE.KIsAll
import KE.KRevSl
import KE.KSortTup
import KE.KUnpack
import PySem.Challenge.RW_braemantle_k32_land_rows_and_heights
set_option Elab.async false
set_option linter.all false
set_option maxRecDepth 100000
set_option maxHeartbeats 0
set_option hygiene false
set_option bootstrap.genMatcherCode false
set_option genSizeOf false
set_option genSizeOfSpec false
abbrev K0(p q:Prop):Prop:=p->q
abbrev KA(a:Prop)(r:Prop->Prop)(q:Prop):Prop:=a->r q
abbrev KE{α:Sort _}(r:α->Prop->Prop)(q:Prop):Prop:=∀x,r x q
class Cur(n:Nat)(p:Prop)(r:outParam (Prop->Prop)):Prop where c:∀{q:Prop},r q->p->q
instance{p:Prop}:Cur 0 p (K0 p):=⟨id⟩
instance{n:Nat}{a b:Prop}{r:Prop->Prop}[i:Cur n b r]:Cur (n+1) (a∧b) (KA a r):=⟨fun f h=>i.c (f h.1) h.2⟩
instance{n:Nat}{α:Sort _}{p:α->Prop}{r:α->Prop->Prop}[i:∀x,Cur n (p x) (r x)]:Cur (n+1) (∃x,p x) (KE r):=⟨fun f ⟨x,h⟩=>(i x).c (f x) h⟩
open Lean in
def r_p:Nat->Syntax->MacroM (TSyntax `rcasesPat)
 |0,_=>Macro.throwUnsupported
 |n+1,x=>do
  if x.isOfKind `Lean.Parser.Term.anonymousCtor then
   let q<-x[1].getSepArgs.mapM fun y=>do let z<-r_p n y;`(Parser.Tactic.rcasesPatLo|$z:rcasesPat)
   `(rcasesPat|⟨$q,*⟩)
  else if x.isIdent then `(rcasesPat|$(⟨x⟩):ident) else if x.isOfKind `Lean.Parser.Term.hole then `(rcasesPat|_) else Macro.throwUnsupported
open Lean in
local macro_rules|`(tactic|let $p:term:=$e)=>do
 if p.raw.isIdent then Macro.throwUnsupported
 let q<-r_p 9 p;`(tactic|obtain $q:rcasesPat:=$e)
open Lean in
def r_k(q:Syntax):Option (NumLit×Array (TSyntax `rintroPat)):=
 let a:=q[1].getSepArgs
 if q.isOfKind `Lean.Parser.Tactic.rcasesPat.tuple&&a.size>1&&a.all (fun x=>x[0][0].getArgs.size==1&&x[1].getArgs.isEmpty) then some (Syntax.mkNumLit (toString (a.size-1)),a.map fun x=>⟨mkNode `Lean.Parser.Tactic.rintroPat.one #[x[0][0][0]]⟩) else none
open Lean in
local macro_rules|`(tactic|rintro $ps*)=>do
 let o<-ps.mapM fun p=>do
  let q:=p.raw[0]
  match r_k q with
  |some (n,k)=>`(tactic|first|(refine Cur.c (n:=$n) ?_;rintro $k*)|(intro h_;rcases h_ with $(⟨q⟩):rcasesPat))
  |none=>if q.isOfKind `Lean.Parser.Tactic.rcasesPat.one&&q[0].getId != `rfl then `(tactic|intro $(⟨q[0]⟩):ident) else if p.raw.isOfKind `Lean.Parser.Tactic.rintroPat.one then `(tactic|(intro h_;rcases h_ with $(⟨q⟩):rcasesPat)) else Macro.throwUnsupported
 `(tactic|($[$o];*))
open Lean in
local macro_rules|`(tactic|obtain $q:rcasesPatMed:=$e:term)=>do
 let q:=q.raw[0][0]
 match r_k q with
 |some (n,k)=>if e.raw.isIdent then `(tactic|first|(refine Cur.c (n:=$n) ?_ $e;clear $(⟨e⟩):ident;rintro $k*)|rcases $e:term with $(⟨q⟩):rcasesPat) else `(tactic|first|(refine Cur.c (n:=$n) ?_ $e;rintro $k*)|rcases $e:term with $(⟨q⟩):rcasesPat)
 |none=>`(tactic|rcases $e:term with $(⟨q⟩):rcasesPat)
local macro_rules|`(tactic|simp! [$xs,*] $[$l:location]?)=>`(tactic|simp only [$xs,*] $[$l]?)
local macro_rules | `(tactic| simp? [$xs,*] $[$l:location]?) => do
  let a ← ("rl qf pR gZ hJ tz eG sN sD qx tL tm lj lA kH oP lh lX KV_a k_E tK tB rG qr k8 lr kq rB tj lT lK sY pZ o9 ni lQ pJ rT su tw sh oa qT mL sH mz rp mH rn oC oA m8 nW nR rS l8 nG m7 rA lD nq sM kE nK nD rY mi oi mQ qp oK pQ qc oy mr l9 oV pF oX mG rV qj oH oz rP qm nL pT rK qq tu pS qK tJ l7 qw qy rC qu qb se pN oM pL kG mf lg oE sV kN mw kI pY oF lJ kD nC oj mD mR lY l0 kB qd rL my lC ot og kX kJ lF oB mJ nQ rM ng qo nZ pf pz nH nv ma qJ mh sC nB nh nz nO pG nY kT pM mU si oe qY qv sy qL rf sr pd nA oJ qg pO oZ pP pV oW nt mj pv nJ oR oQ pb pK sJ so qU sF qQ sk nT rD rR rX kO rQ tF sG sP qP sR rm qX pA q0 mq kP mP sZ oY q_bi qR rZ rg sv oI oG oU pX qG pI pk sm rH qz sQ tf sA r9".splitOn " ").toArray.mapM λs => `(Lean.Parser.Tactic.simpLemma| ↓$(Lean.mkIdent s.toName):ident)
  let b ← ("perm pick AJ Option.bind_some BE BA A8 Cm List.lookup_cons List.lookup_nil Nat.reduceBEq List.contains_cons List.contains_nil BD List.getElem?_nil List.getElem?_cons_zero List.getElem?_cons_succ List.length_cons List.length_nil List.set_cons_zero List.set_cons_succ List.map_cons List.map_nil List.replicate_succ List.replicate_zero List.cons_append List.nil_append Nat.zero_add Nat.reduceAdd Nat.reduceSub Nat.reduceLT Nat.reduceLeDiff Nat.reduceEqDiff Nat.lt_add_left_iff_pos Jj Ah bindL if_true if_false ite_true ite_false and_true true_and Option.getD_some eQ eM ny lB kr lE qZ rq rj rO nr jZ sj tN sI cin tM qD lN Bool.or_false Bool.or_true Bool.true_or Bool.false_or clt cle cgt cge Ci Jb items Cf Bt Jg AE lift Jf Dh DQ Cv alloc AH fZ Ae dh eY r8 sT qS rE AL CB Option.map_some Int.reduceLT Int.reduceLE Int.reduceNeg Int.reduceEq decide_true decide_false Bool.not_true Bool.not_false Bool.and_true Bool.true_and Bool.and_self decide_eq_true_eq eq_self".splitOn " ").toArray.mapM λs => `(Lean.Parser.Tactic.simpLemma| $(Lean.mkIdent s.toName):ident)
  let a := a ++ b
  `(tactic| simp only [$[$a:simpLemma],*, $xs,*] $[$l]?)
local macro_rules|`(tactic|simp? only [$x:ident])=>`(tactic|(refine af (by rfl) (by rfl) ?_;simp only [$x:ident]))|`(tactic|simp?)=>`(tactic|simp? [eq_self])
open Lean in
local macro_rules|`($m:declModifiers def $i:declId $s:optDeclSig $v:declVal)=>do
 unless m.raw.getArgs.all (·.isNone) do Macro.throwUnsupported
 let r<-(if (match i.raw[0].getId with|.str _ n=>(n.toList.headD 'A').isLower&&!("dig place kwOk isStar strKeys ownOf freeOf mkF endsF lastOf fns ms loose upd frs gNil rNe rAdd start sIx ixN atI rPop putK items intsOf keyOf dput dfold qs neT best insI sortI tupI hkL next bindL pick perm subAt rIxD post tyName allFrom holds wp wpS hk ob plainT tupP small stride ltP dT mid l1".splitOn ).contains n|_=>false) then let z:TSyntax `Lean.Parser.Command.declSig:=⟨mkNode `Lean.Parser.Command.declSig #[s.raw[0],s.raw[1][0]]⟩;`(command|theorem $i:declId $z:declSig $v:declVal) else `(command|noncomputable def $i:declId $s:optDeclSig $v:declVal));return r.raw.rewriteBottomUp (·.setInfo .none)
open Lean in
local macro_rules|`($m:declModifiers abbrev $i:declId $s:optDeclSig $v:declVal)=>do
 unless m.raw.getArgs.all (·.isNone) do Macro.throwUnsupported
 `(command|noncomputable abbrev $i:declId $s:optDeclSig $v:declVal)
open Lean in
local macro_rules|`(fun $xs* => $b)=>do
 let rec h:Nat->Syntax->Bool
  |0,_=>true
  |n+1,x=>x.isOfKind `Lean.Parser.Term.syntheticHole||x.getArgs.any (h n)
 if xs.all (!·.raw.isOfKind `Lean.Parser.Term.anonymousCtor)||h 99 b then Macro.throwUnsupported
 let q<-xs.mapM fun x=>do let z<-r_p 9 x;`(rintroPat|$z:rcasesPat)
 `(by rintro $q*;exact $b)
open Lean in
local macro_rules|`(#[$n:num])=>match n.getNat with|0=>`(PySem.Challenge.rw_braemantle_k32_land_rows_and_heights.prog.main.body)|1=>`(by decide)|2=>`(by rfl)|3=>`(by simp)|4=>`(wp_bind (by sleep 9) (by sleep 9))|5=>`(model X.prog X.w)|6=>`(Aa fns fu d)|7=>`(backToKw pos (keywordEach kws X.env))|8=>`(tE X.K W (r.ev a'))|9=>`(c.exp gens scope pos)|10=>`(lv fns d n)|11=>`(backTo pos (starEach es X.env))|12=>`(model prog w)|13=>`(PI.endsF PySem.Challenge.rw_braemantle_k32_land_rows_and_heights.prog w 20000)|14=>`(h4 pins s3 H3 fp)|15=>`(PI.lastOf PySem.Challenge.rw_braemantle_k32_land_rows_and_heights.prog)|16=>`(tE X.K W (r.ev b'))|17=>`(EP X pins σ Q)|18=>`(lk (JD fns d b σ g X Q))|19=>`(r.ev a σ g)|20=>`(envOfC qual scope s.heap.objs.size f cd)|21=>`(ms.map U.ref)|22=>`(upd H2 s2.heap.objs.size c.ini)|23=>`(aB (bw (Nat.le_succ n)) (HA n))|24=>`(some (.ref C))|25=>`(s.heap.push PySem.W.emptyDict)|26=>`(List Int)|27=>`(tE X.K W (r.ev e'))|28=>`(s2.heap.push c.obj)|29=>`(tI X.K PTs.W0' (Jk (Ju C n) it'))|30=>`(Ap T sc N n)|31=>`(lk (JE fns d b σ g X QB))|32=>`(ns.map U.int)|33=>`(Kd Ab (Af H) qs)|34=>`(I.ok.hd hc)|35=>`(tE X.K W (r.ev o'))|36=>`(lk (Q (.bl false) g))|37=>`(g.set m0 (.lst (xs.set 0 (.int 999))))|38=>`(eval o X.env)|39=>`(Cj CX P w K mg base N qual scope f cdv A outer s H E)|40=>`(hs.step s1)|41=>`(Ax (Ju C n).ts cs)|42=>`(Jh r.ev es σ g)|43=>`(List.range (min its.toArray.size its'.toArray.size))|44=>`(PySem.W.instObj C s.heap.objs.size)|45=>`(backToKw pos (keywordEach kws env))|46=>`(List.nodup_cons.mp nd)|47=>`(lk (KV g Q))|48=>`(upd H s.heap.objs.size (.tup vs))|_=>Macro.throwUnsupported
local macro_rules|`(())=>`(by omega)
def b_F{P:Prop}(h:false=true):P:=absurd h Bool.false_ne_true
def n_F{α:Type}{a:α}{P:Prop}(h:(none:Option α)=some a):P:=nomatch h
local macro_rules|`(tactic|cases $h:ident)=>`(tactic|first|exact n_F $h|exact b_F $h|cases ($h))
def Hw:=@PySem.Heap.get?_push_of_some
def Hx:=@PySem.Heap.lt_size
def Hy:=@Nat.le_trans
def Hz:=@Bool.false_ne_true
def HA:=@Nat.le_refl
def HB:=@List.mem_cons_of_mem
def HC:=@Nat.lt_of_lt_of_le
def HD:=@Nat.ne_of_lt
def HE:=@PySem.Heap.get?_push_size
def HF:=@of_decide_eq_true
abbrev HG:=PySem.W.Frag
def ZB:=@PySem.wpAny_bind
def ZP:=@PySem.wpAny_pure
set_option bootstrap.genMatcherCode false
variable{K:HG}{ρ ρ' ch fp:List PySem.Addr}{x:PySem.Str}{a:PySem.Addr}{o e tg:PySem.Expr}{b:Bool}{w:PySem.World}{h h' base:PySem.Heap}{α β:Type}{pins:List (PySem.Addr×PySem.Obj)}{s:PySem.Shared}{t' i j v n m d ep x1 hN gN dN doN unN:Nat}{N ps ks:List PySem.Str}{M:PySem.Model}{A:PySem.Around}{pos pos' p apos cpos:PySem.Pos}{rest gens:List PySem.Comprehension}{D:List (List Int×PySem.Addr)}{f:PySem.Value->PySem.Value->PySem.Sem PySem.Value}{st:PyProof.Rows.SortSt}{es elts ts:List PySem.Expr}{pl:PySem.Sem Bool}{κ:PyProof.Rows.SortKind}{its:List PySem.Value}{prog:PySem.Program}{ns:List Int}{kw dd:List (PySem.Str×PySem.Value)}{env:PySem.Env}{mg:PySem.Str->Option PySem.Value}{fd:PySem.FuncData}{kws:List PySem.Keyword}{scope:PySem.Scope}{keys:List (Option PySem.Expr)}{a₀:Array PyProof.Rows.Keyed}{rk:PyProof.Rows.Keyed->Nat}{gc:PySem.Comprehension}{cells cl:List (PySem.Str×PySem.Addr)}{names:List (PySem.Str×PySem.NameKind)}{fr frI:List Nat}{rs:List (Option (PySem.Scope×List PySem.Stmt))}
namespace Att
end Att
namespace HT
end HT
namespace L2
end L2
namespace Lk32
end Lk32
namespace PI
end PI
namespace PI
noncomputable section
open PySem
noncomputable section
inductive U where
 | non | bl (b:Bool) | int (i:Int) | str (s:Str) | tup (xs:List U) | fro (xs:List U) | ref (n:Nat) | xn (c:Nat) (fs:List U)
inductive Op where | add | sub | mul | fdiv | mod | pow
inductive Cp where | eq | ne | lt | le | gt | ge | isN | notN | inn | nin
inductive Bi where | len | abs | list | mn | mx | srt | sum | tupl | cat | sset | dct | rpr | int
set_option genInjectivity false in
inductive Ty where | tint | tbool | tstr | ttuple | tlist | own (c:Nat)
set_option genInjectivity false in
inductive Tg where | nm (i:Nat) | tp (is:List Nat)
set_option genInjectivity false in
inductive E where
 | var (i:Nat) | cst (u:U)
 | bin (op:Op) (a b:E) | cmp (op:Cp) (a b:E) | chain (op op':Cp) (a b c:E)
 | and (a b:E) | or (a b:E) | not (a:E) | neg (a:E) | ite (c a b:E)
 | tup (es:List E) | lst (es:List E)
 | idx (a b:E) | slc (a:E) (lo hi:Option E) | rev (a:E)
 | call (f:Nat) (es:List E) | callk (f:Nat) (es ks:List E) (pm:List (Nat ⊕ U))
 | fld (a:E) (j:Nat) (cs:List Nat) | make (c f:Nat) (es ks:List E) (pm:List (Nat ⊕ U)) | meth (a:E) (j:Nat) (tb:List (Nat×Nat×List (Nat ⊕ U))) (es ks:List E) | revm (c:Bool) (o:E) | oeq (op:Cp) (tb:List (Nat×Nat×List (Nat ⊕ U))) (a b:E)
 | bi (b:Bi) (es:List E)
 | isi (a:E) (t:Ty)
 | app (o v:E) | ext (o v:E) | pop (o:E) | popi (o v:E)
 | rng1 (a:E) | rng2 (a b:E) | enm (a:E) | zip (a b:E) | dnew
 | comp (own:Nat) (fr:List Nat) (gs:List (Tg×E×List E)) (elt:E)
 | ddsp (ks:List Str) (es:List E) | dgt (o k x:E) | pair (k v:E) | dcmp (own:Nat) (fr:List Nat) (gs:List (Tg×E×List E)) (k v:E)
set_option genInjectivity false in
inductive S where
 | ret (e:E) | retN | set (t:Tg) (e:E) | par (i j:Nat) (a b:E)
 | sub (o i e:E) | aug (i:Nat) (op:Op) (e:E)
 | exp (e:E) | ife (c:E) (a b:List S) | whl (c:E) (b:List S) | for (t:Tg) (it:E) (b:List S)
 | pass | brk | cont | never | del (o i:E) | fset (a:E) (j:Nat) (cs:List Nat) (e:E)
 | nox (b:List S) | ifx (c:E) (a b:List S) | forx (t:Tg) (it:E) (b:List S) | raise (c:Nat) (es:List E) | tryf (j f:Nat) (es:List E) (c:Nat) (xs:List (Option U))
def Eh(u:U):Option Int:=match u with
 | .int i=>some i
 | _=>none
structure Fn where
 np:Nat
 ns:Nat
 body:List S
end
open PySem PySem.Spec PyProof.Rows L2
section
variable{ρ'':List Addr}{H H' H'':Hp}{g:G}
def dig:Nat->Nat->List Nat
 | 0,_=>[]
 | f+1,n=>if n=0 then [] else n % 128 :: dig f (n / 128)
def Bb:Nat:=128 ^ 64
def As(n:Nat):Str:=⟨(dig 64 n).toArray⟩
end
open PySem PySem.Spec PyProof.Rows L2 PySem.W
def Cy(names:List Str):List Str->Bool
 | []=>true
 | k :: r => !names.contains k && Cy (names++[k]) r
def place{α:Type}(ns ks kw:List Str)(dd:List (Str×α))(us ws:List α):List α:=(ns++ks).filterMap λn=>(ns.zip us++(kw.zip ws++dd)).lookup n
set_option genInjectivity false in
structure KF where
 ns:List Str
 ks:List Str
 dd:List (Str×U)
def BG(F:KF)(np:Nat)(kw:List Str):List (Nat ⊕ U):=place F.ns F.ks kw (F.dd.map λp=>(p.1,.inr p.2)) ((List.range' 0 np).map .inl) ((List.range' np kw.length).map .inl)
def By(F:KF)(nd np:Nat)(kw:List Str):Bool:=decide (np<=F.ns.length) && kw.all (λk=>F.ns.contains k || F.ks.contains k) && Cy (F.ns.take np) kw && (F.ns.take (F.ns.length - nd)).all λn=>(F.ns.take np++kw).contains n
def Az(kws:List Keyword):List Str:=kws.filterMap (·.arg)
def kwOk(kws:List Keyword):Bool:=kws.all (·.arg.isSome)
open PySem PySem.Spec PyProof.Rows L2
set_option genInjectivity false in
structure Tab where
 fns:List Str
 cs:List (Str×U)
 bt:List Str
 kf:List (Str×Nat×KF×Nat)
 cl:List (Str×Nat×Nat×KF×Nat)
 mt:List (Str×List (Nat×Nat×KF×Nat))
 fl:List (Str×List Nat)
 ow:List (Str×Nat)
 oq:List Str
def AV(N:List Str)(x:Str):Option Nat:=N.findIdx? (· == x)
def DX:Operator->Option Op
 | .Add=>some .add | .Sub=>some .sub | .Mult=>some .mul | .FloorDiv=>some .fdiv | .Mod=>some .mod | .Pow=>some .pow | _=>none
def CS:CmpOp->Option Cp
 | .Eq=>some .eq | .NotEq=>some .ne | .Lt=>some .lt | .LtE=>some .le | .Gt=>some .gt | .GtE=>some .ge | .Is=>some .isN | .IsNot=>some .notN | .In=>some .inn | .NotIn=>some .nin
def isStar:Expr->Bool
 | .Starred .. => true
 | _=>false
def CZ:Expr->Bool
 | .Set .. => true
 | _=>false
def B0:Expr->Bool
 | .ListComp .. => true | .SetComp .. => true | .DictComp .. => true | _=>false
def strKeys:List (Option Expr)->Option (List Str)
 | []=>some []
 | some (.Constant (.str s) _ _) :: r=>(strKeys r).map (s :: ·)
 | _=>none
def Cq:Expr->Bool
 | .Call .. => true | _=>false
def B5:Expr->Bool
 | .Tuple .. => true | _=>false
def Co:Expr->Bool
 | .Slice .. => true | _=>false
def DH(x:Str):Option Ty:=if x = "int" then some .tint else if x = "bool" then some .tbool else if x = "str" then some .tstr else if x = "tuple" then some .ttuple else if x = "list" then some .tlist else none
def CQ(x:Str):Bool := !(x == ("__debug__" : Str)) && !(x == ("__classdict__" : Str)) && !(x == ("__name__" : Str))
def Ad{α:Type}:List (Option α)->Option (List α)
 | []=>some []
 | none :: _=>none
 | some a :: r=>(Ad r).map (a :: ·)
def CW:E->Bool
 | .rng1 _=>false | .rng2 _ _=>false | .enm _=>false | .zip _ _=>false | _=>true
def BS(b:Bool)(sc:Scope)(x:Str):Bool:=sc.names.lookup x == some .local || (b && sc.names.lookup x == some .cell)
def BQ(b:Bool)(sc:Scope)(N:List Str)(x:Str):Option Nat:=if BS b sc x then AV N x else none
def B4(b:Bool)(sc:Scope)(N:List Str)(e:Expr):Option Nat:=match e with
 | .Name x _=>BQ b sc N x
 | _=>none
def Bh(b:Bool)(sc:Scope)(N:List Str):Expr->Option Tg
 | .Name x _=>(BQ b sc N x).map .nm
 | .Tuple ts _ _=>(Ad (ts.map (B4 b sc N))).map .tp
 | _=>none
def HH{α:Type}(c:Bool)(x:Option α):Option α:=match c with
 | true=>x
 | false=>none
def HI(e:Expr):Option Str:=match e with
 | .Name x _=>some x
 | _=>none
def Cu(e:Expr):Option (Str×List Expr):=match e with
 | .Call f es kws _=>match kws with
  | []=>(HI f).map λn=>(n,es)
  | _ :: _=>none
 | _=>none
def CJ(ce:Expr->Option E)(k:E->E)(es:List Expr):Option E:=match es with
 | []=>none
 | a :: es=>match es with
  | []=>(ce a).map k
  | _ :: _=>none
def CN(ce:Expr->Option E)(k:E->E->E)(es:List Expr):Option E:=match es with
 | []=>none
 | a :: es=>match es with
  | []=>none
  | b :: es=>match es with
   | []=>(ce a).bind λa'=>(ce b).map (k a')
   | _ :: _=>none
def A4{α:Type}(l:List α):Bool:=match l with
 | []=>true
 | _ :: _=>false
def G7(f:Expr->Option E)(es:List Expr):Option E:=match es with
 | []=>none
 | _ :: r=>match A4 r with
  | true=>CJ f .rng1 es
  | false=>CN f .rng2 es
def HJ(f:Expr->Option E)(e:Expr):Option E:=HH (!CZ e) ((f e).bind λe'=>HH (CW e') (some e'))
def Dg(T:Tab)(sc:Scope)(f:Expr->Option E)(e:Expr):Option E:=match Cu e with
 | some c=>if c.1 = "range" then HH (T.bt.contains c.1 && (sc.names.lookup c.1 == some .globalImplicit) && !c.2.any isStar) (G7 f c.2) else HJ f e
 | none=>HJ f e
def Cw(T:Tab)(sc:Scope)(f:Expr->Option E)(tg e:Expr):Option E:=match Cu e with
 | some c=>if c.1 = "enumerate" then HH (T.bt.contains c.1 && (sc.names.lookup c.1 == some .globalImplicit) && !c.2.any isStar && B5 tg) (CJ f .enm c.2) else if c.1 = "zip" then HH (T.bt.contains c.1 && (sc.names.lookup c.1 == some .globalImplicit) && !c.2.any isStar && B5 tg) (CN f .zip c.2) else Dg T sc f e
 | none=>Dg T sc f e
def Bf(scope sc:Scope):Scope:={ scope with names:=scope.names.map λ(n,k)=>if (k == .free && sc.kind == .function && sc.names.lookup n == some .cell) then (n,.cell) else (n,k) }
def GW:Expr->List Str
 | .Name x _=>[x]
 | .Tuple ts _ _=>ts.filterMap fun | .Name x _=>some x | _=>none
 | _=>[]
def ownOf(gs:List Comprehension):List Str:=(gs.map λg=>GW g.target).flatten
def freeOf(scope:Scope):List Str:=(scope.names.filter λx=>x.2 == .free).map (·.1)
def DI(scope sc:Scope)(own fr:List Str):Bool :=
 (scope.kind == .function) && (scope.names.all λx=>x.2 != .local || scope.names.lookup x.1 == some .local) && (scope.names.all λx=>x.2 != .cell || scope.names.lookup x.1 == some .cell) && (scope.names.all λx=>x.2 != .free || sc.names.lookup x.1 == some .cell)
  && (own.all λx=>scope.names.lookup x == some .local || scope.names.lookup x == some .cell) && decide ((own++fr).Nodup) && (fr.all λx=>scope.names.lookup x == some .free)
def DS(T:Tab)(sc:Scope)(N:List Str)(f:Expr->Option E):List Comprehension->Option (List (Tg×E×List E))
 | []=>some []
 | g :: r=>HH (g.is_async == 0) ((Bh false sc N g.target).bind λt=>(Cw T sc f g.target g.iter).bind λit=>(Ad (g.ifs.map f)).bind λcs=>(DS T sc N f r).map λr'=>(t,it,cs) :: r')
def A7(f:Str):Nat:=f.cps.toList.foldr (λd n=>d+128*n) 0
def BL(f:Str):Bool:=decide (As (A7 f)=f) && decide (A7 f < Bb)
def Cz(T:Tab)(sc:Scope)(ce:Expr->Option E)(f:Str)(es:List Expr)(kws:List Keyword):Option E:=HH (CQ f && !es.any isStar && (sc.names.lookup f == some .globalImplicit) && kwOk kws)
  ((Ad (es.map ce)).bind λes'=>(Ad (kws.map λk=>ce k.value)).bind λks'=>match T.kf.lookup f with
   | some q=>HH (By q.2.1 q.2.2 es.length (Az kws)) (some (.callk q.1 es' ks' (BG q.2.1 es.length (Az kws))))
   | none=>(T.cl.lookup f).bind λq=>HH (By q.2.2.1 q.2.2.2 (es.length+1) (Az kws)) (some (.make q.1 q.2.1 es' ks' (BG q.2.2.1 (es.length+1) (Az kws)))))
def DN(T:Tab)(ce:Expr->Option E)(o':E)(m:Str)(ap cp:Pos)(es:List Expr)(kws:List Keyword):Option E:=HH (BL m && !es.any isStar && kwOk kws && decide (es.length+kws.length+1 < 30) && (ap.endLine == cp.line))
  ((Ad (es.map ce)).bind λes'=>(Ad (kws.map λk=>ce k.value)).bind λks'=>(T.mt.lookup m).bind λl =>
   HH (l.all (λe=>By e.2.2.1 e.2.2.2 (es.length+1) (Az kws))) (some (.meth o' (A7 m) (l.map λe=>(e.1,e.2.1,BG e.2.2.1 (es.length+1) (Az kws))) es' ks')))
def Fz(f:Str)(n:Nat)(HK:Str->Option Bi):Option Bi :=
 HK f
def HK(f:Str):Option Bi :=
 if f = "len" then some .len else
 if f = "abs" then some .abs else
 if f = "list" then some .list else
 if f = "min" then some .mn else
 if f = "max" then some .mx else
 if f = "dict" then some .dct else
 if f = "repr" then some .rpr else
 if f = "int" then some .int else
 none
def FA(T:Tab)(sc:Scope)(N:List Str)(x:Str):Option E:=HH (CQ x) ((sc.names.lookup x).bind λk=>match k with
 | .local=>(AV N x).map .var
 | .cell=>(AV N x).map .var
 | .free=>(AV N x).map .var
 | .globalImplicit=>(T.cs.lookup x).map .cst
 | _=>none)
def GH(v:Const):Option E:=match v with
 | .int i=>some (.cst (.int i))
 | .bool b=>some (.cst (.bl b))
 | .none=>some (.cst .non)
 | .str s=>some (.cst (.str s))
 | _=>none
section
variable(T:Tab)(sc:Scope)(ce:Expr->Option E)
def HL(o:Operator)(a b:Expr):Option E:=(DX o).bind λo'=>(ce a).bind λa'=>(ce b).map (.bin o' a')
def FK(a:Expr)(o:CmpOp)(b:Expr):Option E:=HH (!CZ b) ((CS o).bind λo'=>(ce a).bind λa'=>(ce b).map (.cmp o' a'))
def FJ(a:Expr)(o q:CmpOp)(b c:Expr):Option E:=HH (!CZ c) ((CS o).bind λo'=>(CS q).bind λq'=>(ce a).bind λa'=>(ce b).bind λb'=>(ce c).map (.chain o' q' a' b'))
def F1(a:Expr)(os:List CmpOp)(bs:List Expr):Option E:=match os with
 | []=>none
 | o :: os=>match bs with
  | []=>none
  | b :: bs=>match os with
   | []=>HH (A4 bs) (FK ce a o b)
   | q :: os=>match bs with
    | []=>none
    | c :: bs=>HH (A4 os && A4 bs) (FJ ce a o q b c)
def FV(o:BoolOp)(es:List Expr)(pos:Pos):Option E:=match es with
 | []=>none
 | a :: es=>match es with
  | []=>ce a
  | b :: rest=>match o with
   | .And=>(ce a).bind λa'=>(ce (.BoolOp .And (b :: rest) pos)).map (.and a')
   | .Or=>(ce a).bind λa'=>(ce (.BoolOp .Or (b :: rest) pos)).map (.or a')
def HM(o:UnaryOp)(a:Expr):Option E:=match o with
 | .Not=>(ce a).map .not
 | .USub=>(ce a).map .neg
 | _=>none
def FU(k:List E->E)(es:List Expr):Option E:=HH (!es.any isStar) ((Ad (es.map ce)).map k)
def Gi(e:Expr):Bool:=match e with
 | .UnaryOp o a _=>match o with
  | .USub=>match a with
   | .Constant v _ _=>match v with
    | .int i=>i == 1
    | _=>false
   | _=>false
  | _=>false
 | _=>false
def En(lo:Option Expr):Option (Option E):=match lo with
 | none=>some none
 | some l=>(ce l).map some
def Ec{α:Type}(o:Option α):Bool:=match o with
 | none=>true
 | some _=>false
def HN(a s:Expr):Option E:=match s with
 | .Slice lo hi st _=>match st with
  | none=>(ce a).bind λa'=>(En ce lo).bind λl'=>(En ce hi).map (.slc a' l')
  | some st=>HH (Ec lo && Ec hi && Gi st) ((ce a).map .rev)
 | _=>none
def Eo(a s:Expr):Option E:=match Co s with
 | true=>HN ce a s
 | false=>(ce a).bind λa'=>(ce s).map (.idx a')
def Hk(a t:Expr):Option E:=(HI t).bind λtn=>(DH tn).bind λt=>(ce a).bind λa'=>HH (T.bt.contains tn && (sc.names.lookup tn == some .globalImplicit)) (some (.isi a' t))
def Hn(a t:Expr):Option E:=(HI t).bind λ_=>Hk T sc ce a t
def F6(es:List Expr):Option E:=match es with
 | []=>none
 | a :: es=>match es with
  | []=>none
  | t :: es=>HH (A4 es) (Hn T sc ce a t)
def HP(f:Str)(es:List Expr):Option E:=(Fz f es.length HK).bind λb=>HH (!A4 es) ((Ad (es.map ce)).map (.bi b))
def DB(T:Tab)(sc:Scope)(ce:Expr->Option E)(f:Str)(es:List Expr):Option E :=
 if f = "isinstance" then F6 T sc ce es else
 HP ce f es
def Gr(f:Str)(es:List Expr):Option E:=HH (CQ f && !es.any isStar && (sc.names.lookup f == some .globalImplicit)) (match AV T.fns f with
 | some i=>(Ad (es.map ce)).map (.call i)
 | none=>match T.bt.contains f with
  | true=>DB T sc ce f es
  | false=>Cz T sc ce f es [])
def HQ(o':E)(m:Str)(ap cp:Pos)(es:List Expr):Option E :=
 if m = "append" then CJ ce (.app o') es else
 if m = "extend" then CJ ce (.ext o') es else
 if m = "pop" then (match es with
  | []=>some (.pop o')
  | _ :: _=>none) else
 if m = "clear" then HH (A4 es) (some (.revm true o')) else
 if m = "get" then CN ce (.dgt o') es else
 DN T ce o' m ap cp es []
def Hf(o:Expr)(m:Str)(ap cp:Pos)(es:List Expr)(kws:List Keyword):Option E:=HH (!Cq o) ((ce o).bind λo'=>match kws with
 | []=>HH (ap.endLine == cp.line && !es.any isStar) (HQ T ce o' m ap cp es)
 | k :: kws=>DN T ce o' m ap cp es (k :: kws))
def GF(fn:Expr)(es:List Expr)(kws:List Keyword)(cp:Pos):Option E:=match fn with
 | .Name f _=>match kws with
  | []=>Gr T sc ce f es
  | k :: kws=>Cz T sc ce f es (k :: kws)
 | .Attribute o m ap=>Hf T ce o m ap cp es kws
 | _=>none
def HR(o:Expr)(f:Str):Option E:=(T.fl.lookup f).bind λcs=>(ce o).bind λo'=>HH (BL f && !Cq o) (some (.fld o' (A7 f) cs))
def GN(ce:Expr->Option E)(keys:List (Option Expr))(vs:List Expr):Option E:=match keys with
 | []=>HH (A4 vs) (some .dnew)
 | k0 :: keys=>(strKeys (k0 :: keys)).bind λks=>(Ad (vs.map ce)).bind λes'=>HH (ks.length == vs.length && decide (ks.length<=15) && decide ks.Nodup) (some (.ddsp ks es'))
def Er(N:List Str)(ci:Expr->Option E)(g:Comprehension)(rest:List Comprehension)(scope:Scope):Option (List Nat×List (Tg×E×List E)) :=
 HH (DI scope sc (ownOf (g :: rest)) (freeOf scope) && (g.is_async == 0)) ((Cw T sc ce g.target g.iter).bind λit'=>(Bh true scope (ownOf (g :: rest)++freeOf scope) g.target).bind λt=>(Ad (g.ifs.map ci)).bind λcs =>
  (DS T (Bf scope sc) (ownOf (g :: rest)++freeOf scope) ci rest).bind λrest'=>(Ad ((freeOf scope).map (AV N))).map λfrI=>(frI,(t,it',cs) :: rest'))
end
def Ap(T:Tab)(sc:Scope)(N:List Str):Nat->Expr->Option E
 | 0,_=>none
 | n+1,e=>match e with
  | .Name x _=>FA T sc N x
  | .Constant v _ _=>GH v
  | .BinOp a o b _=>HL #[30] o a b
  | .Compare a os bs _=>F1 #[30] a os bs
  | .BoolOp o es pos=>FV #[30] o es pos
  | .UnaryOp o a _=>HM #[30] o a
  | .Tuple es _ _=>FU #[30] .tup es
  | .List es _=>FU #[30] .lst es
  | .Subscript a s _=>Eo #[30] a s
  | .Call fn es kws cp=>GF T sc #[30] fn es kws cp
  | .Attribute o f _=>HR T #[30] o f
  | .Dict keys vs _=>GN #[30] keys vs
  | .ListComp elt gs scope _=>match gs with
   | []=>none
   | g :: rest=>(Er T sc #[30] N (Ap T (Bf scope sc) (ownOf (g :: rest)++freeOf scope) n) g rest scope).bind λq=>(Ap T (Bf scope sc) (ownOf (g :: rest)++freeOf scope) n elt).map (.comp (ownOf (g :: rest)).length q.1 q.2)
  | .DictComp kx vx gs scope _=>match gs with
   | []=>none
   | g :: rest=>(Er T sc #[30] N (Ap T (Bf scope sc) (ownOf (g :: rest)++freeOf scope) n) g rest scope).bind λq =>
    (Ap T (Bf scope sc) (ownOf (g :: rest)++freeOf scope) n kx).bind λk'=>(Ap T (Bf scope sc) (ownOf (g :: rest)++freeOf scope) n vx).map (.dcmp (ownOf (g :: rest)).length q.1 q.2 k')
  | _=>none
def CD(sc:Scope)(x y:Str)(px py:Pos)(a b:Expr):Bool :=
 (sc.names.lookup x == some .local) && (sc.names.lookup y == some .local) && !(x == y) && (py.line == px.line) && !isStar a && !isStar b && !(foldedForSure 8 a && foldedForSure 8 b) && !(constantsAlone 8 a && constantsAlone 8 b)
def CH(sc:Scope)(x:Str)(px:Pos)(scope:Scope)(p:Pos):Bool:=(sc.names.lookup x == some .local) && (px.line == p.line) && !(scope.names.any λ(n,k)=>n == x && (k == .local || k == .cell))
def DR{α:Type}(l:List α):Option (α×α):=match l with
 | []=>none
 | a :: l=>match l with
  | []=>none
  | b :: l=>match l with
   | []=>some (a,b)
   | _ :: _=>none
def HS(e:Expr):Option (Str×Pos):=match e with
 | .Name x p=>some (x,p)
 | _=>none
def Gb(e:Expr):Option (List Expr×Nat×Pos):=match e with
 | .Tuple es k p=>some (es,k,p)
 | _=>none
def CT(T:Tab)(sc:Scope)(N:List Str)(cE:Expr->Option E)(ts:List Expr)(kt:Nat)(pt:Pos)(e:Expr):Option S :=
 (Gb e).bind λq=>(DR ts).bind λt=>(HS t.1).bind λx=>(HS t.2).bind λy=>(DR q.1).bind λa=>match CD sc x.1 y.1 x.2 y.2 a.1 a.2 with
  | true=>(AV N x.1).bind λi=>(AV N y.1).bind λj=>(cE a.1).bind λa'=>(cE a.2).map (.par i j a')
  | false=>HH (foldedForSure 8 a.1 && foldedForSure 8 a.2) ((Bh true sc N (.Tuple ts kt pt)).bind λt=>(cE e).map (.set t))
def HU(e:Expr):Option (Scope×Pos):=match e with
 | .ListComp _ gs scope p=>match gs with
  | []=>none
  | _ :: _=>some (scope,p)
 | .DictComp _ _ gs scope p=>match gs with
  | []=>none
  | _ :: _=>some (scope,p)
 | _=>none
def Ft(sc:Scope)(N:List Str)(cE:Expr->Option E)(x:Str)(px:Pos)(e:Expr):Option S:=HH (match HU e with
 | some q=>CH sc x px q.1 q.2
 | none => !B0 e) ((BQ true sc N x).bind λi=>(cE e).map (.set (.nm i)))
def GY(T:Tab)(cE:Expr->Option E)(o:Expr)(f:Str)(e:Expr):Option S:=(HS o).bind λ_=>(T.fl.lookup f).bind λcs=>(cE o).bind λo'=>(cE e).bind λe'=>HH (BL f) (some (.fset o' (A7 f) cs e'))
def Fh(T:Tab)(sc:Scope)(N:List Str)(cE:Expr->Option E)(t e:Expr):Option S:=match t with
 | .Name x px=>Ft sc N cE x px e
 | .Tuple ts k p=>match B5 e with
  | true=>CT T sc N cE ts k p e
  | false=>(Bh true sc N (.Tuple ts k p)).bind λt=>(cE e).map (.set t)
 | .Subscript o i _=>HH (!Co i && !B0 e) ((cE o).bind λo'=>(cE i).bind λi'=>(cE e).map (.sub o' i'))
 | .Attribute o f _=>GY T cE o f e
 | _=>none
def Hg(op:Operator):Option Op:=match op with
 | .Add=>some .add
 | .Sub=>some .sub
 | _=>none
def HV(e:E):Option Nat:=match e with
 | .var i=>some i
 | _=>none
def HW(e:E):Option Int:=match e with
 | .cst u=>Eh u
 | _=>none
def Fg(T:Tab)(cE:Expr->Option E)(t:Expr)(op:Operator)(e:Expr):Option S:=match t with
 | .Attribute o f _=>(Hg op).bind λp=>match p with
  | .add=>(HS o).bind λ_=>(T.fl.lookup f).bind λcs=>(cE o).bind λo'=>(HV o').bind λi=>(cE e).bind λe'=>(HW e').bind λk=>HH (BL f) (some (.fset (.var i) (A7 f) cs (.bin .add (.fld (.var i) (A7 f) cs) (.cst (.int k)))))
  | _=>none
 | _=>none
def BB(T:Tab)(sc:Scope)(N:List Str):Nat->Stmt->Option S
 | 0,_=>none
 | n+1,st=>match st with
  | .Return o _=>match o with
   | none=>none
   | some e=>(Ap T sc N n e).map .ret
  | .Assign ts e _=>match ts with
   | []=>none
   | t :: r=>HH (A4 r) (Fh T sc N #[30] t e)
  | .AugAssign t op e _=>Fg T #[30] t op e
  | .Expr e _=>HH (!B0 e) ((Ap T sc N n e).map .exp)
  | .If c a b _=>(Ap T sc N n c).bind λc'=>(Ad (a.map (BB T sc N n))).bind λa'=>(Ad (b.map (BB T sc N n))).map (.ife c' a')
  | .While c b o _=>HH (A4 o) ((Ap T sc N n c).bind λc'=>(Ad (b.map (BB T sc N n))).map (.whl c'))
  | .For tg it b o _=>HH (A4 o) ((Bh true sc N tg).bind λt=>(Cw T sc #[30] tg it).bind λit'=>(Ad (b.map (BB T sc N n))).map (.for t it'))
  | .Raise _ _ _=>some .never
  | _=>none
open PySem PySem.Spec PyProof.Rows L2 PySem.W
def B6:Nat->List Obj->Frag
 | _,[]=>[]
 | n,o :: r=>match o.data with
  | .freed=>B6 (n+1) r
  | _=>(n,o) :: B6 (n+1) r
def AZ(h:Heap):Frag:=B6 0 h.objs.toList
set_option genInjectivity false in
structure Inf where
 x:Str
 N:List Str
 ps:List Str
 cm:Option (Str×Str)
 kf:Option (KF×Nat)
def DJ(N ps:List Str)(sc:Scope):Bool :=
 decide (sc.kind=.function) && !sc.isCoroutine && !sc.isGenerator && decide N.Nodup && decide (N.take ps.length=ps) && ps.all (λx=>decide (sc.names.lookup x=some .local) || decide (sc.names.lookup x=some .cell)) && sc.names.all λy=>decide (y.2 ≠ .free)
def FL(ps:List Str)(p:Arguments):Bool:=p.posonlyargs.isEmpty && decide (p.args.map (·.arg)=ps) && p.vararg.isNone && p.kwonlyargs.isEmpty && p.kwarg.isNone
def FZ:Value->Bool
 | .none=>true
 | _=>false
def Dq:U->Value->Bool
 | .int i,.int j _=>decide (i=j)
 | .non,.none=>true
 | .bl b,.bool c=>b == c
 | .str s,.str t _=>decide (s=t)
 | _,_=>false
def Df:List U->List Value->Bool
 | [],[]=>true
 | u :: us,v :: vs=>Dq u v && Df us vs
 | _,_=>false
def HX(K:Frag):U->Value->Bool
 | .xn _ us,.ref a=>match K.lookup a with
  | some ⟨.type "tuple",_,.seq its _,_⟩=>decide (its.size<=1000) && Df us its.toList
  | _=>false
 | _,_=>false
def Dz(K:Frag)(u:U)(v:Value):Bool:=Dq u v || HX K u v
def De(K:Frag):List U->List Value->Bool
 | [],[]=>true
 | u :: us,v :: vs=>Dz K u v && De K us vs
 | _,_=>false
def Ei(K:Frag):Value->Option (List Value)
 | .none=>some []
 | .ref a=>match K.lookup a with
  | some ⟨_,_,.seq its _,_⟩=>some its.toList
  | _=>none
 | _=>none
def BK(K:Frag)(v:Value)(n:Str):Option Value:=match v with
 | .ref d=>match nsIn K d n with
  | some (some v)=>some v
  | _=>none
 | _=>none
def HY(K:Frag)(fd:FuncData)(F:KF)(nd:Nat):Bool:=fd.params.posonlyargs.isEmpty && decide (fd.params.args.map (·.arg)=F.ns) && fd.params.vararg.isNone && decide (fd.params.kwonlyargs.map (·.arg)=F.ks) && fd.params.kwarg.isNone && decide (nd<=F.ns.length) &&
 (F.ks.all λn=>(BK K fd.kwdefaults n).isSome) && decide (F.dd.map (·.1)=F.ns.drop (F.ns.length - nd)++F.ks) && match Ei K fd.defaults with
  | some dsv=>decide (dsv.length=nd) && De K (F.dd.map (·.2)) (dsv++F.ks.map λn=>(BK K fd.kwdefaults n).getD .none)
  | none=>false
def HZ(K:Frag)(c:Str×U):Bool:=match nsIn K mainGlobals c.1 with
 | some (some val)=>Dz K c.2 val
 | _=>false
def FO(x q:Str)(fd:FuncData):Bool:=decide (fd.name=x) && decide (fd.qualname=q) && (fd.globals == mainGlobals) && fd.closure.isEmpty && (fd.builtins == builtinsNs)
def D4(K:Frag)(i:Inf)(fd:FuncData):Bool:=match i.kf with
 | none=>FL i.ps fd.params && FZ fd.defaults
 | some (F,nd)=>decide (i.ps=F.ns++F.ks) && !i.ps.isEmpty && HY K fd F nd
def CP(K:Frag)(C:Addr):Bool:=plainGet K C Str.empty && hasDictIn K C && plainOver K C && (findIn K (.ref C) "__setattr__" == some (some (.builtin "object.__setattr__")))
def Eb(K:Frag)(i:Inf):Option Addr:=match i.cm with
 | none=>match nsIn K mainGlobals i.x with
  | some (some (.ref a))=>some a
  | _=>none
 | some c=>match nsIn K mainGlobals c.1 with
  | some #[24]=>match findIn K (.ref C) c.2 with
   | some (some (.ref a))=>if CP K C && isFn K (.ref a) && keepIn K (.ref a) && (!decide (c.2 = "__init__") || (makesIn K C && keepIn K (.ref C))) then some a else none
   | _=>none
  | _=>none
noncomputable def Inf.nm(i:Inf):Str:=match i.cm with | none=>i.x | some c=>c.2
def BN(K:Frag)(i:Inf):Option (Scope×List Stmt):=match Eb K i with
 | some a=>match K.lookup a with
  | some ⟨_,_,.func fd,_⟩=>match fd.body with
   | .stmts b=>if FO i.nm i.x fd && DJ i.N i.ps fd.scope && D4 K i fd && codeIn K fd.code i.x && keepIn K (.ref a) then some (fd.scope,b) else none
   | _=>none
  | _=>none
 | none=>none
def mkF(T:Tab)(q:Inf×Option (Scope×List Stmt)):Option Fn:=match q.2 with
 | some r=>(Ad (r.2.map (BB T r.1 q.1.N 60))).map λb'=>⟨q.1.ps.length,q.1.N.length,b'⟩
 | none=>none
def H8(K:Frag)(e:Str×List Nat):Bool:=e.2.all λc=>match nsIn K mainGlobals (As c) with
 | some #[24]=>CP K C && (findIn K (.ref C) e.1 == some none)
 | _=>false
def FX(K:Frag)(C:Addr):Bool:=(findIn K (.ref C) "__ne__" == some (some (.builtin "object.__ne__"))) && (mroIn K C (.type "object") == some true) && (clsIn K C).isSome && (typeIn K (.ref C) == some (.type "type")) && (findIn K (.ref C) "__class__" == some (some (.builtin "object.__class__"))) &&
 (specialIn K (.builtin "object.__class__") "__get__" == some (some (.builtin "getset_descriptor.__get__"))) && (takesIn K (.builtin "object.__class__") == some true)
def H9(K:Frag)(p:Str×Nat):Bool:=match nsIn K mainGlobals p.1 with
 | some #[24]=>decide (As p.2=p.1) && CP K C && FX K C
 | _=>false
def DG(is:List Inf):List (Str×Nat×KF×Nat):=is.zipIdx.filterMap λp=>match p.1.cm,p.1.kf with
 | none,some k=>some (p.1.x,p.2,k.1,k.2)
 | _,_=>none
def DE(is:List Inf):List (Str×Nat×Nat×KF×Nat):=is.zipIdx.filterMap λp=>match p.1.cm,p.1.kf with
 | some c,some k=>if c.2 = "__init__" then some (c.1,A7 c.1,p.2,k.1,k.2) else none
 | _,_=>none
def Ia(is:List Inf)(m:Str):List (Nat×Nat×KF×Nat):=is.zipIdx.filterMap λp=>match p.1.cm,p.1.kf with
 | some c,some k=>if c.2=m then some (A7 c.1,p.2,k.1,k.2) else none
 | _,_=>none
def C3(is:List Inf)(ms:List Str):List (Str×List (Nat×Nat×KF×Nat)):=ms.map λm=>(m,Ia is m)
open PySem PySem.Spec PyProof.Rows L2 PySem.W PySem.Calls
noncomputable section
def GQ(p:Program)(w:World)(N:Nat)(s₀ : Shared):Option Shared :=
 match s₀.heap.isNs mainGlobals && s₀.gens.size == 0 with
 | true=>(Fast.tw14082659384304107361 Fast.tw14364793385576792824 p w s₀.heap.objs.size (s₀.heap.nsMap mainGlobals "__annotations__") N s₀ (topStub p)).bind λs₁ => match staticsOk (importedModules p.main.body) s₀.heap s₁.heap && namesBound p s₁.heap && gensDone s₁ && laidKept s₀.heap s₁.heap with
   | true=>some s₁
   | false=>none
 | false=>none
def endsF(p:Program)(w:World)(N:Nat):Option Shared :=
 ((Fast.tw10274390034422433532 Fast.tw14364793385576792824 (opening p) w N (Fast.tw1435165496053646825 (opening p)).1 (Fast.tw1435165496053646825 (opening p)).2).bind (Fast.tw14289696077712309145 p)).bind (GQ p w N)
def lastOf(p:Program):Program:={ p with main:={ p.main with body:=p.main.body.drop (p.main.body.length - 1) } }
def Ea(T:Tab)(K:Frag)(is:List Inf):Bool:=T.bt.all (λx=>(nsIn K mainGlobals x).any Option.isNone) && T.cs.all (HZ K) && T.fl.all (H8 K) && is.all (λi=>i.cm.all λc=>BL c.1) && T.ow.all (H9 K)
def Al(b:List Stmt)(n:Nat):Option (Scope×List Stmt):=match b[n]? with
 | some (.FunctionDef _ _ b _ _ _ sc _ _ _)=>some (sc,b)
 | _=>none
def AR(b:List Stmt)(n m:Nat):Option (Scope×List Stmt):=match b[n]? with
 | some (.ClassDef _ _ _ b _ _ _ _ _ _ _)=>Al b m
 | _=>none
end
end
end PI
section
noncomputable def PI.sO:=PySem.Str.ofString
namespace Lk32
open PI
def E2:Fn:=⟨1,1,[(.ret (.and (.isi (.var 0) .tint) (.not (.isi (.var 0) .tbool))))]⟩
def E6:Fn:=⟨2,7,[(.set (.tp [2,3,4]) (.var 0)),(.set (.tp [5,6]) (.var 1)),(.ret (.and (.chain .le .le (.cst (.int 0)) (.var 5) (.bin .mul (.var 2) (.var 4))) (.chain .le .le (.cst (.int 0)) (.var 6) (.bin .mul (.var 3) (.var 4)))))]⟩
def EE:Fn:=⟨2,2,[(.ife (.not (.call 1 [.var 0,.var 1])) [.never] [])]⟩
def Fd:Fn:=⟨1,4,[(.set (.tp [1,2,3]) (.var 0)),(.ret (.comp 2 [2,3] [((.nm 0),(.rng1 (.bin .add (.bin .mul (.var 1) (.var 3)) (.cst (.int 1)))),[]),((.nm 1),(.rng1 (.bin .add (.bin .mul (.var 2) (.var 3)) (.cst (.int 1)))),[])] (.tup [.var 0,.var 1])))]⟩
def EB:Fn:=⟨3,7,[(.par 3 4 (.bin .mul (.var 0) (.var 2)) (.bin .mul (.var 1) (.var 2))),(.par 5 6 (.bin .add (.var 3) (.var 2)) (.bin .add (.var 4) (.var 2))),(.ife (.cmp .eq (.bin .mod (.bin .add (.var 0) (.var 1)) (.cst (.int 2))) (.cst (.int 0))) [(.ret (.lst [(.tup [.var 3,.var 4,.var 5,.var 6,.var 5,.var 4]),(.tup [.var 5,.var 6,.var 3,.var 4,.var 3,.var 6])]))] []),(.ret (.lst [(.tup [.var 5,.var 4,.var 3,.var 6,.var 5,.var 6]),(.tup [.var 3,.var 6,.var 5,.var 4,.var 3,.var 4])]))]⟩
def Fp:Fn:=⟨1,4,[(.set (.tp [1,2,3]) (.var 0)),(.ret (.comp 3 [2,3] [((.nm 0),(.rng1 (.var 1)),[]),((.nm 1),(.rng1 (.var 3)),[]),((.nm 2),(.call 4 [.var 0,.var 1,.var 4]),[])] (.var 2)))]⟩
def Fc:Fn:=⟨1,5,[(.set (.tp [1,2,3,4]) (.slc (.var 0) none (some (.cst (.int 4))))),(.ife (.or (.cmp .eq (.bin .mod (.bin .add (.var 1) (.var 3)) (.cst (.int 2))) (.cst (.int 1))) (.cmp .eq (.bin .mod (.bin .add (.var 2) (.var 4)) (.cst (.int 2))) (.cst (.int 1)))) [(.ret (.cst .non))] []),(.ret (.tup [(.bin .fdiv (.bin .add (.var 1) (.var 3)) (.cst (.int 2))),(.bin .fdiv (.bin .add (.var 2) (.var 4)) (.cst (.int 2)))]))]⟩
def E8:Fn:=⟨1,10,[(.set (.nm 1) (.call 6 [.var 0])),(.ife (.cmp .isN (.var 1) (.cst .non)) [.never] []),(.set (.tp [2,3]) (.var 1)),(.set (.tp [4,5,6,7,8,9]) (.var 0)),(.ret (.lst [(.tup [.var 4,.var 5,.var 8,.var 9,.var 2,.var 3]),(.tup [.var 8,.var 9,.var 6,.var 7,.var 2,.var 3])]))]⟩
def Fw:Fn:=⟨1,4,[(.set (.nm 1) (.lst [])),(.set (.nm 2) (.rev (.var 0))),(.whl (.var 2) [(.set (.nm 3) (.pop (.var 2))),(.exp (.app (.var 1) (.var 3))),(.ife (.cmp .notN (.call 6 [.var 3]) (.cst .non)) [(.exp (.ext (.var 2) (.rev (.call 7 [.var 3]))))] [])]),(.ret (.var 1))]⟩
def E9:Fn:=⟨1,1,[(.ret (.call 8 [(.call 5 [.var 0])]))]⟩
def Fv:Fn:=⟨5,7,[(.set (.tp [5,6]) (.var 4)),(.ret (.bin .sub (.bin .mul (.bin .sub (.var 2) (.var 0)) (.bin .sub (.var 6) (.var 1))) (.bin .mul (.bin .sub (.var 3) (.var 1)) (.bin .sub (.var 5) (.var 0)))))]⟩
def Fy:Fn:=⟨1,7,[(.set (.tp [1,2,3,4,5,6]) (.var 0)),(.ret (.tup [(.bi .mn [.var 1,.var 3,.var 5]),(.bi .mn [.var 2,.var 4,.var 6]),(.bi .mx [.var 1,.var 3,.var 5]),(.bi .mx [.var 2,.var 4,.var 6])]))]⟩
def Fb:Fn:=⟨2,8,[(.set (.tp [2,3,4,5]) (.call 11 [.var 0])),(.set (.tp [6,7]) (.var 1)),(.ret (.and (.chain .le .le (.var 2) (.var 6) (.var 4)) (.chain .le .le (.var 3) (.var 7) (.var 5))))]⟩
def Ff:Fn:=⟨2,9,[(.set (.tp [2,3,4,5,6,7]) (.var 0)),(.set (.nm 8) (.lst [(.call 10 [.var 2,.var 3,.var 4,.var 5,.var 1]),(.call 10 [.var 4,.var 5,.var 6,.var 7,.var 1]),(.call 10 [.var 6,.var 7,.var 2,.var 3,.var 1])])),(.ret (.and (.call 12 [.var 0,.var 1]) (.or (.cmp .ge (.bi .mn [.var 8]) (.cst (.int 0))) (.cmp .le (.bi .mx [.var 8]) (.cst (.int 0))))))]⟩
def Fm:Fn:=⟨1,5,[(.set (.tp [1,2,3,4]) (.call 11 [.var 0])),(.ret (.comp 2 [4,2,0] [((.nm 0),(.rng2 (.var 1) (.bin .add (.var 3) (.cst (.int 1)))),[]),((.nm 1),(.rng2 (.var 3) (.bin .add (.var 2) (.cst (.int 1)))),[(.call 13 [.var 4,(.tup [.var 0,.var 1])])])] (.tup [.var 0,.var 1])))]⟩
def Fq:Fn:=⟨2,3,[(.ife (.cmp .eq (.var 1) (.cst (.int 0))) [.never] []),(.set (.nm 2) (.call 16 [(.bi .abs [.var 0]),(.bi .abs [.var 1])])),(.ife (.cmp .lt (.var 1) (.cst (.int 0))) [(.set (.nm 2) (.neg (.var 2)))] []),(.ret (.tup [(.bin .fdiv (.var 0) (.var 2)),(.bin .fdiv (.var 1) (.var 2))]))]⟩
def Fe:Fn:=⟨2,2,[(.whl (.cmp .ne (.var 1) (.cst (.int 0))) [(.par 0 1 (.var 1) (.bin .mod (.var 0) (.var 1)))]),(.ret (.var 0))]⟩
def Ez:Fn:=⟨2,2,[(.ife (.or (.not (.call 0 [.var 1])) (.or (.cmp .lt (.var 1) (.neg (.cst (.int 1000)))) (.cmp .gt (.var 1) (.cst (.int 1000))))) [.never] [])]⟩
def EV:Fn:=⟨2,2,[(.ife (.cmp .ne (.bi .len [.var 0]) (.var 1)) [.never] [])]⟩
def EO:Fn:=⟨2,10,[(.set (.tp [2,3,4]) (.var 0)),(.exp (.call 18 [.var 1,(.bin .add (.bin .mul (.var 3) (.var 4)) (.cst (.int 1)))])),(.for (.nm 5) (.var 1) [(.exp (.call 18 [.var 5,(.bin .add (.bin .mul (.var 2) (.var 4)) (.cst (.int 1)))]))]),(.set (.nm 6) .dnew),(.for (.tp [7,5]) (.enm (.var 1)) [(.for (.tp [8,9]) (.enm (.var 5)) [(.exp (.call 17 [(.tup [.var 8,.var 7]),.var 9])),(.sub (.var 6) (.tup [.var 8,.var 7]) (.var 9))])]),(.ret (.var 6))]⟩
def E7:Fn:=⟨2,5,[(.set (.nm 2) (.lst [])),(.for (.nm 3) (.var 0) [(.set (.nm 4) (.comp 1 [3] [((.nm 0),.var 1,[(.call 13 [.var 1,.var 0])])] (.var 0))),(.ife (.var 4) [(.exp (.app (.var 2) (.var 3))),(.ife (.cmp .notN (.call 6 [.var 3]) (.cst .non)) [(.exp (.ext (.var 2) (.call 20 [(.call 7 [.var 3]),.var 4])))] [])] [])]),(.ret (.var 2))]⟩
def Fk:Fn:=⟨2,14,[(.set (.tp [2,3,4,5,6,7]) (.var 0)),(.set (.tp [8,9,10]) (.var 1)),(.set (.nm 11) (.bin .sub (.bin .mul (.bin .sub (.var 4) (.var 2)) (.bin .sub (.var 7) (.var 3))) (.bin .mul (.bin .sub (.var 5) (.var 3)) (.bin .sub (.var 6) (.var 2))))),(.set (.nm 12) (.bin .sub (.bin .mul (.bin .sub (.var 9) (.var 8)) (.bin .sub (.var 7) (.var 3))) (.bin .mul (.bin .sub (.var 10) (.var 8)) (.bin .sub (.var 5) (.var 3))))),(.set (.nm 13) (.bin .sub (.bin .mul (.bin .sub (.var 10) (.var 8)) (.bin .sub (.var 4) (.var 2))) (.bin .mul (.bin .sub (.var 9) (.var 8)) (.bin .sub (.var 6) (.var 2))))),(.ret (.tup [.var 12,.var 13,(.bin .sub (.bin .sub (.bin .mul (.var 8) (.var 11)) (.bin .mul (.var 12) (.var 2))) (.bin .mul (.var 13) (.var 3))),.var 11]))]⟩
def Ex:Fn:=⟨3,3,[(.ife (.cmp .isN (.var 2) (.cst .non)) [(.fset (.var 0) 509789213455080 [211529932] (.dcmp 1 [] [((.nm 0),(.call 3 [.var 1]),[])] (.var 0) (.cst (.int 0))))] [(.fset (.var 0) 509789213455080 [211529932] (.call 19 [.var 1,.var 2]))]),(.fset (.var 0) 232289904 [211529932] (.var 1)),(.fset (.var 0) 487627477906021 [211529932] (.cst (.int 0))),(.fset (.var 0) 31083624820 [211529932] (.cst (.int 0))),(.fset (.var 0) 31083802852 [211529932] .dnew),(.fset (.var 0) 213628900 [211529932] (.lst [])),(.fset (.var 0) 3500095911797 [211529932] (.lst [])),(.fset (.var 0) 243020007 [211529932] (.dcmp 1 [] [((.nm 0),(.call 9 [.var 1]),[])] (.var 0) (.cst .non)))]⟩
def EC:Fn:=⟨2,2,[(.exp (.call 2 [(.fld (.var 0) 232289904 [211529932]),.var 1])),(.ret (.idx (.fld (.var 0) 509789213455080 [211529932]) (.var 1)))]⟩
def EL:Fn:=⟨1,4,[(.set (.tp [1,2,3]) (.fld (.var 0) 232289904 [211529932])),(.ret (.comp 1 [0,3,1] [((.nm 0),(.rng1 (.bin .add (.bin .mul (.var 2) (.var 3)) (.cst (.int 1)))),[])] (.comp 1 [1,0] [((.nm 0),(.rng1 (.bin .add (.bin .mul (.var 3) (.var 2)) (.cst (.int 1)))),[])] (.idx (.fld (.var 1) 509789213455080 [211529932]) (.tup [.var 0,.var 2])))))]⟩
def EJ:Fn:=⟨2,2,[(.exp (.call 2 [(.fld (.var 0) 232289904 [211529932]),.var 1])),(.ret (.dgt (.fld (.var 0) 31083802852 [211529932]) (.var 1) (.cst (.int 0))))]⟩
def E1:Fn:=⟨3,3,[(.ret (.meth (.var 0) 245002853 [(211529932,27,[.inl 0,.inl 1])] [(.lst [(.tup [.var 1,.var 2])])] []))]⟩
def EZ:Fn:=⟨2,5,[(.fset (.var 0) 31083624820 [211529932] (.bin .add (.fld (.var 0) 31083624820 [211529932]) (.cst (.int 1)))),(.set (.nm 2) .dnew),(.for (.tp [3,4]) (.var 1) [(.exp (.call 2 [(.fld (.var 0) 232289904 [211529932]),.var 3])),(.exp (.call 17 [.var 3,.var 4])),(.sub (.var 2) (.var 3) (.var 4))]),(.ret (.meth (.var 0) 1913313 [(211529932,29,[.inl 0,.inl 1])] [.var 2] []))]⟩
def EN:Fn:=⟨1,2,[(.fset (.var 0) 31083624820 [211529932] (.bin .add (.fld (.var 0) 31083624820 [211529932]) (.cst (.int 1)))),(.ife (.not (.fld (.var 0) 213628900 [211529932])) [.never] []),(.set (.nm 1) (.pop (.fld (.var 0) 213628900 [211529932]))),(.exp (.app (.fld (.var 0) 3500095911797 [211529932]) (.var 1))),(.ret (.meth (.var 0) 213759207 [(211529932,30,[.inl 0,.inl 1])] [(.idx (.var 1) (.cst (.int 0)))] []))]⟩
def E5:Fn:=⟨2,3,[(.set (.nm 2) (.dcmp 1 [0] [((.nm 0),.var 1,[])] (.var 0) (.idx (.fld (.var 1) 509789213455080 [211529932]) (.var 0)))),(.exp (.app (.fld (.var 0) 213628900 [211529932]) (.tup [.var 2,.var 1]))),(.exp (.revm true (.fld (.var 0) 3500095911797 [211529932]))),(.ret (.meth (.var 0) 213759207 [(211529932,30,[.inl 0,.inl 1])] [.var 1] []))]⟩
def EW:Fn:=⟨2,7,[(.fset (.var 0) 487627477906021 [211529932] (.bin .add (.fld (.var 0) 487627477906021 [211529932]) (.cst (.int 1)))),(.set (.nm 2) (.comp 1 [1,0] [((.nm 0),.var 1,[(.cmp .ne (.idx (.var 1) (.var 0)) (.idx (.fld (.var 2) 509789213455080 [211529932]) (.var 0)))])] (.var 0))),(.set (.nm 3) (.call 20 [(.call 5 [(.fld (.var 0) 232289904 [211529932])]),.var 2])),(.set (.nm 4) (.comp 1 [0] [((.nm 0),.var 3,[])] (.meth (.var 1) 1847527 [(211529932,35,[.inl 0,.inl 1])] [.var 0] []))),(.for (.nm 5) (.var 2) [(.sub (.fld (.var 0) 509789213455080 [211529932]) (.var 5) (.idx (.var 1) (.var 5))),(.sub (.fld (.var 0) 31083802852 [211529932]) (.var 5) (.fld (.var 0) 487627477906021 [211529932]))]),(.for (.nm 6) (.var 3) [(.sub (.fld (.var 0) 243020007 [211529932]) (.var 6) (.cst .non))]),(.ret (.comp 2 [0] [((.tp [0,1]),(.zip (.var 3) (.var 4)),[(.cmp .ne (.meth (.var 2) 1847527 [(211529932,35,[.inl 0,.inl 1])] [.var 0] []) (.var 1))])] (.var 0)))]⟩
def EI:Fn:=⟨2,2,[(.ret (.cmp .inn (.var 1) (.fld (.var 0) 243020007 [211529932])))]⟩
def Et:Fn:=⟨2,2,[(.ife (.not (.meth (.var 0) 31121471339 [(211529932,31,[.inl 0,.inl 1])] [.var 1] [])) [.never] [])]⟩
def EF:Fn:=⟨2,8,[(.exp (.meth (.var 0) 1970067245619097943106220782 [(211529932,32,[.inl 0,.inl 1])] [.var 1] [])),(.set (.tp [2,3,4,5,6,7]) (.var 1)),(.ret (.comp 1 [0] [((.nm 0),(.tup [(.tup [.var 2,.var 3]),(.tup [.var 4,.var 5]),(.tup [.var 6,.var 7])]),[])] (.idx (.fld (.var 1) 509789213455080 [211529932]) (.var 0))))]⟩
def EU:Fn:=⟨2,2,[(.ret (.call 21 [.var 1,(.meth (.var 0) 31089882344 [(211529932,33,[.inl 0,.inl 1])] [.var 1] [])]))]⟩
def E4:Fn:=⟨2,2,[(.exp (.meth (.var 0) 1970067245619097943106220782 [(211529932,32,[.inl 0,.inl 1])] [.var 1] [])),(.ife (.cmp .isN (.idx (.fld (.var 0) 243020007 [211529932]) (.var 1)) (.cst .non)) [(.sub (.fld (.var 0) 243020007 [211529932]) (.var 1) (.meth (.var 0) 56743007633339122 [(211529932,36,[.inl 0,.inl 1])] [.var 1] []))] []),(.ret (.idx (.fld (.var 0) 243020007 [211529932]) (.var 1)))]⟩
def Ew:Fn:=⟨2,11,[(.set (.tp [2,3,4,5]) (.meth (.var 0) 244872806 [(211529932,34,[.inl 0,.inl 1])] [.var 1] [])),(.set (.tp [6,7]) (.tup [(.neg (.cst (.int 1))),.cst .non])),(.for (.tp [8,9]) (.call 14 [.var 1]) [(.set (.nm 10) (.bi .abs [(.bin .sub (.bin .mul (.idx (.fld (.var 0) 509789213455080 [211529932]) (.tup [.var 8,.var 9])) (.var 5)) (.bin .add (.bin .add (.bin .mul (.var 2) (.var 8)) (.bin .mul (.var 3) (.var 9))) (.var 4)))])),(.ife (.cmp .gt (.var 10) (.var 6)) [(.par 6 7 (.var 10) (.tup [.var 8,.var 9]))] [])]),(.ret (.tup [(.call 15 [.var 6,(.bi .abs [.var 5])]),.var 7]))]⟩
def EH:Fn:=⟨1,1,[(.ret (.and (.isi (.var 0) .tint) (.not (.isi (.var 0) .tbool))))]⟩
def ER:Fn:=⟨2,3,[(.ife (.cmp .isN (.var 1) (.cst .non)) [(.ret (.cmp .isN (.var 0) (.cst .non)))] []),(.ife (.isi (.var 1) .tbool) [(.ret (.and (.isi (.var 0) .tbool) (.cmp .eq (.var 0) (.var 1))))] []),(.ife (.isi (.var 1) .tint) [(.ret (.and (.call 37 [.var 0]) (.cmp .eq (.var 0) (.var 1))))] []),(.ife (.isi (.var 1) .tstr) [(.ret (.and (.isi (.var 0) .tstr) (.cmp .eq (.var 0) (.var 1))))] []),(.ife (.and (.isi (.var 1) .ttuple) (.not (.isi (.var 0) .ttuple))) [(.ret (.cst (.bl false)))] []),(.ife (.and (.isi (.var 1) .tlist) (.not (.isi (.var 0) .tlist))) [(.ret (.cst (.bl false)))] []),(.ife (.cmp .ne (.bi .len [.var 0]) (.bi .len [.var 1])) [(.ret (.cst (.bl false)))] []),(.for (.nm 2) (.rng1 (.bi .len [.var 1])) [(.ife (.not (.call 38 [(.idx (.var 0) (.var 2)),(.idx (.var 1) (.var 2))])) [(.ret (.cst (.bl false)))] [])]),(.ret (.cst (.bl true)))]⟩
def E3:Fn:=⟨1,1,[(.ret (.lst [(.bi .list [(.slc (.var 0) none (some (.cst (.int 63))))]),(.cst (.int 0)),(.cst (.int 7))]))]⟩
def ET:Fn:=⟨2,5,[(.set (.nm 2) (.idx (.var 0) (.cst (.int 0)))),(.set (.nm 3) (.idx (.var 0) (.cst (.int 1)))),(.set (.nm 4) (.cst (.int 0))),(.ife (.cmp .gt (.bi .len [.var 2]) (.cst (.int 0))) [(.set (.nm 4) (.idx (.var 2) (.bin .mod (.var 3) (.bi .len [.var 2]))))] []),(.ife (.cmp .lt (.var 4) (.cst (.int 0))) [(.set (.nm 4) (.bin .sub (.cst (.int 1)) (.var 4)))] []),(.ife (.cmp .ge (.var 4) (.bin .pow (.cst (.int 10)) (.cst (.int 18)))) [(.sub (.var 2) (.bin .mod (.var 3) (.bi .len [.var 2])) (.bin .fdiv (.var 4) (.var 1))),(.ret (.bin .mod (.var 4) (.var 1)))] []),(.sub (.var 0) (.cst (.int 1)) (.bin .add (.var 3) (.cst (.int 1)))),(.sub (.var 0) (.cst (.int 2)) (.bin .mod (.bin .add (.bin .add (.bin .add (.bin .mul (.idx (.var 0) (.cst (.int 2))) (.cst (.int 48271))) (.bin .mul (.var 4) (.cst (.int 9973)))) (.bin .mul (.var 3) (.cst (.int 31)))) (.cst (.int 11))) (.cst (.int 2147483647)))),(.ret (.bin .mod (.bin .fdiv (.bin .mod (.bin .mul (.idx (.var 0) (.cst (.int 2))) (.cst (.int 69621))) (.cst (.int 2147483629))) (.cst (.int 64))) (.var 1)))]⟩
def EM:Fn:=⟨1,2,[(.set (.nm 1) (.lst [(.tup [(.cst (.int 1)),(.cst (.int 1)),(.cst (.int 2))]),(.tup [(.cst (.int 1)),(.cst (.int 1)),(.cst (.int 4))]),(.tup [(.cst (.int 2)),(.cst (.int 1)),(.cst (.int 2))]),(.tup [(.cst (.int 1)),(.cst (.int 2)),(.cst (.int 2))]),(.tup [(.cst (.int 2)),(.cst (.int 2)),(.cst (.int 2))]),(.tup [(.cst (.int 1)),(.cst (.int 1)),(.cst (.int 4))])])),(.set (.nm 1) (.bin .add (.var 1) (.lst [(.tup [(.cst (.int 3)),(.cst (.int 1)),(.cst (.int 2))]),(.tup [(.cst (.int 1)),(.cst (.int 3)),(.cst (.int 2))]),(.tup [(.cst (.int 2)),(.cst (.int 1)),(.cst (.int 4))]),(.tup [(.cst (.int 1)),(.cst (.int 2)),(.cst (.int 4))]),(.tup [(.cst (.int 3)),(.cst (.int 2)),(.cst (.int 2))]),(.tup [(.cst (.int 1)),(.cst (.int 1)),(.cst (.int 8))])]))),(.ret (.idx (.var 1) (.call 40 [.var 0,(.cst (.int 12))])))]⟩
def EA:Fn:=⟨1,4,[(.set (.nm 1) (.lst [])),(.for (.nm 2) (.rng1 (.bin .add (.bin .mul (.idx (.var 0) (.cst (.int 0))) (.idx (.var 0) (.cst (.int 2)))) (.cst (.int 1)))) [(.for (.nm 3) (.rng1 (.bin .add (.bin .mul (.idx (.var 0) (.cst (.int 1))) (.idx (.var 0) (.cst (.int 2)))) (.cst (.int 1)))) [(.exp (.app (.var 1) (.tup [.var 2,.var 3])))])]),(.ret (.var 1))]⟩
def ES:Fn:=⟨2,2,[(.ife (.cmp .eq (.var 1) (.cst (.int 0))) [(.ret (.idx (.lst [(.cst (.int 0)),(.cst (.int 0)),(.cst (.int 0)),(.cst (.int 0)),(.cst (.int 0)),(.cst (.int 7)),(.bin .sub (.cst (.int 0)) (.cst (.int 5)))]) (.call 40 [.var 0,(.cst (.int 7))])))] []),(.ife (.cmp .eq (.var 1) (.cst (.int 1))) [(.ret (.bin .sub (.call 40 [.var 0,(.cst (.int 7))]) (.cst (.int 3))))] []),(.ife (.cmp .eq (.var 1) (.cst (.int 2))) [(.ret (.bin .sub (.call 40 [.var 0,(.cst (.int 2001))]) (.cst (.int 1000))))] []),(.ife (.cmp .eq (.var 1) (.cst (.int 3))) [(.ret (.bin .sub (.bin .mul (.call 40 [.var 0,(.cst (.int 2))]) (.cst (.int 2000))) (.cst (.int 1000))))] []),(.ret (.cst (.int 0)))]⟩
def Ey:Fn:=⟨2,7,[(.set (.nm 2) (.call 40 [.var 0,(.cst (.int 6))])),(.set (.nm 3) (.bin .sub (.call 40 [.var 0,(.cst (.int 41))]) (.cst (.int 20)))),(.set (.nm 4) (.bin .sub (.call 40 [.var 0,(.cst (.int 41))]) (.cst (.int 20)))),(.set (.nm 5) .dnew),(.for (.nm 6) (.call 42 [.var 1]) [(.sub (.var 5) (.var 6) (.call 43 [.var 0,.var 2])),(.ife (.cmp .eq (.var 2) (.cst (.int 5))) [(.sub (.var 5) (.var 6) (.bin .add (.bin .add (.bin .mul (.var 3) (.idx (.var 6) (.cst (.int 0)))) (.bin .mul (.var 4) (.idx (.var 6) (.cst (.int 1))))) (.idx (.lst [(.cst (.int 0)),(.cst (.int 0)),(.cst (.int 0)),(.cst (.int 1))]) (.call 40 [.var 0,(.cst (.int 4))]))))] [])]),(.ret (.var 5))]⟩
def EX:Fn:=⟨2,4,[(.set (.nm 2) (.lst [])),(.for (.nm 3) (.rng1 (.bin .add (.bin .mul (.idx (.var 0) (.cst (.int 1))) (.idx (.var 0) (.cst (.int 2)))) (.cst (.int 1)))) [(.exp (.app (.var 2) (.comp 1 [1,3] [((.nm 0),(.rng1 (.bin .add (.bin .mul (.idx (.var 0) (.cst (.int 0))) (.idx (.var 0) (.cst (.int 2)))) (.cst (.int 1)))),[])] (.idx (.var 1) (.tup [.var 0,.var 2])))))]),(.ret (.var 2))]⟩
def EK:Fn:=⟨1,1,[(.ife (.cmp .gt (.bi .len [.var 0]) (.cst (.int 0))) [(.sub (.var 0) (.cst (.int 0)) (.idx (.var 0) (.neg (.cst (.int 1))))),(.exp (.pop (.var 0)))] []),(.exp (.app (.var 0) (.cst .non)))]⟩
def EG:Fn:=⟨1,3,[(.set (.nm 1) .dnew),(.for (.nm 2) (.var 0) [(.sub (.var 1) (.var 2) (.cst (.int 0)))]),(.ret (.ddsp [(PySem.Str.ofString "heights"),(PySem.Str.ofString "edition"),(PySem.Str.ofString "tries"),(PySem.Str.ofString "made"),(PySem.Str.ofString "done"),(PySem.Str.ofString "undone")] [(.bi .dct [.var 0]),(.cst (.int 0)),(.cst (.int 0)),.var 1,.lst [],.lst []]))]⟩
def ED:Fn:=⟨3,5,[(.set (.nm 3) (.and (.call 38 [(.meth (.var 0) 243136498 [(211529932,24,[.inl 0])] [] []),(.call 45 [.var 1,(.idx (.var 2) (.cst (.str (PySem.Str.ofString "heights"))))])]) (.call 38 [(.fld (.var 0) 232289904 [211529932]),.var 1]))),(.set (.nm 3) (.and (.var 3) (.and (.call 38 [(.fld (.var 0) 487627477906021 [211529932]),(.idx (.var 2) (.cst (.str (PySem.Str.ofString "edition"))))]) (.call 38 [(.fld (.var 0) 31083624820 [211529932]),(.idx (.var 2) (.cst (.str (PySem.Str.ofString "tries"))))])))),(.for (.nm 4) (.idx (.var 2) (.cst (.str (PySem.Str.ofString "made")))) [(.set (.nm 3) (.and (.var 3) (.call 38 [(.meth (.var 0) 27321414899 [(211529932,25,[.inl 0,.inl 1])] [.var 4] []),(.idx (.idx (.var 2) (.cst (.str (PySem.Str.ofString "made")))) (.var 4))]))),(.set (.nm 3) (.and (.var 3) (.call 38 [(.meth (.var 0) 4013864678120 [(211529932,23,[.inl 0,.inl 1])] [.var 4] []),(.idx (.idx (.var 2) (.cst (.str (PySem.Str.ofString "heights")))) (.var 4))])))]),(.ret (.var 3))]⟩
def Eu:Fn:=⟨1,1,[(.sub (.idx (.var 0) (.cst (.int 0))) (.cst (.int 0)) (.cst (.int 999))),(.exp (.app (.idx (.var 0) (.neg (.cst (.int 1)))) (.cst (.int 7)))),(.exp (.call 46 [.var 0]))]⟩
def EY:Fn:=⟨1,3,[(.set (.nm 1) .dnew),(.for (.nm 2) (.call 42 [.var 0]) [(.sub (.var 1) (.var 2) (.cst (.int 0)))]),(.ret (.var 1))]⟩
def Cb:Fn:=⟨1,12,[(.set (.nm 1) (.call 39 [.var 0])),(.set (.nm 2) (.call 41 [.var 1])),(.set (.nm 3) (.call 44 [.var 1,.var 2])),(.set (.nm 4) (.call 45 [.var 2,.var 3])),(.set (.nm 5) (.make 211529932 22 [.var 2,.var 4] [] [.inl 0,.inl 1,.inl 2])),(.ife (.cmp .eq (.call 40 [.var 1,(.cst (.int 2))]) (.cst (.int 0))) [(.set (.nm 5) (.make 211529932 22 [.var 2] [.var 4] [.inl 0,.inl 1,.inl 2]))] []),(.set (.nm 6) (.cmp .eq (.var 4) (.call 45 [.var 2,.var 3]))),(.exp (.call 49 [.var 4])),(.set (.nm 7) (.call 47 [.var 3])),(.set (.nm 6) (.and (.var 6) (.call 48 [.var 5,.var 2,.var 7]))),(.set (.nm 8) (.meth (.var 5) 243136498 [(211529932,24,[.inl 0])] [] [])),(.ife (.var 6) [(.exp (.call 49 [.var 8]))] []),(.set (.nm 9) (.meth (.var 5) 243136498 [(211529932,24,[.inl 0])] [] [])),(.set (.nm 10) (.bi .rpr [.var 9])),(.exp (.meth (.var 5) 1915632 [(211529932,26,[.inl 0,.inl 1,.inl 2])] [(.tup [(.cst (.int 0)),(.cst (.int 0))]),(.idx (.lst [(.cst (.int 1)),(.cst (.int 2))]) (.bi .int [(.cmp .eq (.idx (.var 3) (.tup [(.cst (.int 0)),(.cst (.int 0))])) (.cst (.int 1)))]))] [])),(.set (.nm 6) (.and (.var 6) (.cmp .eq (.bi .rpr [.var 9]) (.var 10)))),(.set (.nm 11) (.call 47 [(.call 50 [.var 2])])),(.set (.nm 6) (.and (.var 6) (.and (.call 48 [(.make 211529932 22 [.var 2] [] [.inl 0,.inl 1,.inr .non]),.var 2,.var 11]) (.call 48 [(.make 211529932 22 [.var 2,.cst .non] [] [.inl 0,.inl 1,.inl 2]),.var 2,.var 11])))),(.exp (.meth (.var 5) 234436469 [(211529932,28,[.inl 0])] [] [])),(.ret (.and (.var 6) (.and (.call 38 [(.meth (.var 5) 243136498 [(211529932,24,[.inl 0])] [] []),(.call 45 [.var 2,.var 3])]) (.call 38 [(.cst (.int 1000)),(.cst (.int 1000))]))))]⟩
def fns:List Fn:=[E2,E6,EE,Fd,EB,Fp,Fc,E8,Fw,E9,Fv,Fy,Fb,Ff,Fm,Fq,Fe,Ez,EV,EO,E7,Fk,Ex,EC,EL,EJ,E1,EZ,EN,E5,EW,EI,Et,EF,EU,E4,Ew,EH,ER,E3,ET,EM,EA,ES,Ey,EX,EK,EG,ED,Eu,EY,Cb]
end Lk32
end
section
namespace Lk32
noncomputable section
open PySem PI L2
def A3:List Inf:=[⟨"is_whole",["thing"],["thing"],none,none⟩,⟨"in_land",["plan","at","wide","deep","side","x","y"],["plan","at"],none,none⟩,⟨"need_place",["plan","at"],["plan","at"],none,none⟩,⟨"places",["plan","wide","deep","side"],["plan"],none,none⟩,⟨"block_roots",["i","j","side","x","y","right","top"],["i","j","side"],none,none⟩,⟨"roots",["plan","wide","deep","side"],["plan"],none,none⟩,⟨"middle",["shape","ax","ay","bx","by"],["shape"],none,none⟩,⟨"halved",["shape","place","x","y","ax","ay","bx","by","cx","cy"],["shape"],none,none⟩,⟨"kin",["starts","told","waiting","shape"],["starts"],none,none⟩,⟨"shapes",["plan"],["plan"],none,none⟩,⟨"turn",["ax","ay","bx","by","at","x","y"],["ax","ay","bx","by","at"],none,none⟩,⟨"box",["shape","ax","ay","bx","by","cx","cy"],["shape"],none,none⟩,⟨"in_box",["shape","at","left","low","right","high","x","y"],["shape","at"],none,none⟩,⟨"covers",["shape","at","ax","ay","bx","by","cx","cy","turns"],["shape","at"],none,none⟩,⟨"under",["shape","left","low","right","high"],["shape"],none,none⟩,⟨"share",["over","under","divisor"],["over","under"],none,none⟩,⟨"common",["one","other"],["one","other"],none,none⟩,⟨"need_height",["at","high"],["at","high"],none,none⟩,⟨"need_size",["things","size"],["things","size"],none,none⟩,⟨"read_rows",["plan","rows","wide","deep","side","row","heights","y","x","high"],["plan","rows"],none,none⟩,⟨"touched",["starts","changed","told","shape","found"],["starts","changed"],none,none⟩,⟨"plane",["shape","highs","ax","ay","bx","by","cx","cy","start","first","second","whole","rise","climb"],["shape","highs"],none,none⟩,⟨"Land.__init__",["self","plan","rows"],["self","plan","rows"],some ("Land","__init__"),some (⟨["self","plan","rows"],[],[("rows",.non)]⟩,1)⟩,⟨"Land.height",["self","at"],["self","at"],some ("Land","height"),some (⟨["self","at"],[],[]⟩,0)⟩,⟨"Land.rows",["self","wide","deep","side"],["self"],some ("Land","rows"),some (⟨["self"],[],[]⟩,0)⟩,⟨"Land.since",["self","at"],["self","at"],some ("Land","since"),some (⟨["self","at"],[],[]⟩,0)⟩,⟨"Land.put",["self","at","high"],["self","at","high"],some ("Land","put"),some (⟨["self","at","high"],[],[]⟩,0)⟩,⟨"Land.edit",["self","changes","news","at","high"],["self","changes"],some ("Land","edit"),some (⟨["self","changes"],[],[]⟩,0)⟩,⟨"Land.undo",["self","deed"],["self"],some ("Land","undo"),some (⟨["self"],[],[]⟩,0)⟩,⟨"Land.act",["self","news","olds"],["self","news"],some ("Land","act"),some (⟨["self","news"],[],[]⟩,0)⟩,⟨"Land.give",["self","highs","changed","near","before","at","shape"],["self","highs"],some ("Land","give"),some (⟨["self","highs"],[],[]⟩,0)⟩,⟨"Land.knows",["self","shape"],["self","shape"],some ("Land","knows"),some (⟨["self","shape"],[],[]⟩,0)⟩,⟨"Land.need_triangle",["self","shape"],["self","shape"],some ("Land","need_triangle"),some (⟨["self","shape"],[],[]⟩,0)⟩,⟨"Land.highs",["self","shape","ax","ay","bx","by","cx","cy"],["self","shape"],some ("Land","highs"),some (⟨["self","shape"],[],[]⟩,0)⟩,⟨"Land.flat",["self","shape"],["self","shape"],some ("Land","flat"),some (⟨["self","shape"],[],[]⟩,0)⟩,⟨"Land.gap",["self","shape"],["self","shape"],some ("Land","gap"),some (⟨["self","shape"],[],[]⟩,0)⟩,⟨"Land.reckoned",["self","shape","rise","climb","base","whole","greatest","where","x","y","distance"],["self","shape"],some ("Land","reckoned"),some (⟨["self","shape"],[],[]⟩,0)⟩,⟨"_law_whole",["_law_found"],["_law_found"],none,none⟩,⟨"_law_same",["_law_found","_law_due","_law_k"],["_law_found","_law_due"],none,none⟩,⟨"_law_bag",["_law_script"],["_law_script"],none,none⟩,⟨"_law_draw",["_law_bag_here","_law_many","_law_cells","_law_at","_law_cell"],["_law_bag_here","_law_many"],none,none⟩,⟨"_law_plan",["_law_bag_here","_law_menu"],["_law_bag_here"],none,none⟩,⟨"_law_places",["_law_plan_here","_law_found","_law_x","_law_y"],["_law_plan_here"],none,none⟩,⟨"_law_high",["_law_bag_here","_law_kind"],["_law_bag_here","_law_kind"],none,none⟩,⟨"_law_heights",["_law_bag_here","_law_plan_here","_law_kind","_law_across","_law_along","_law_found","_law_at"],["_law_bag_here","_law_plan_here"],none,none⟩,⟨"_law_rows",["_law_plan_here","_law_heights_here","_law_found","_law_y"],["_law_plan_here","_law_heights_here"],none,none⟩,⟨"_law_spoil",["_law_row"],["_law_row"],none,none⟩,⟨"_law_model",["_law_heights_here","_law_made","_law_at"],["_law_heights_here"],none,none⟩,⟨"_law_stands",["_law_land","_law_plan_here","_law_model_here","_law_good","_law_at"],["_law_land","_law_plan_here","_law_model_here"],none,none⟩,⟨"_law_spoil_rows",["_law_table"],["_law_table"],none,none⟩,⟨"_law_flat",["_law_plan_here","_law_found","_law_at"],["_law_plan_here"],none,none⟩,⟨"law",["_law_script","_law_bag_here","_law_plan_here","_law_heights_here","_law_table","_law_land","_law_good","_law_model_here","_law_told","_law_held","_law_shown","_law_flat_here"],["_law_script"],none,none⟩]
def ms:List Str:=["__init__","act","edit","flat","gap","give","height","highs","knows","need_triangle","put","reckoned","rows","since","undo"]
def T:Tab:=⟨[(sO "is_whole"),(sO "in_land"),(sO "need_place"),(sO "places"),(sO "block_roots"),(sO "roots"),(sO "middle"),(sO "halved"),(sO "kin"),(sO "shapes"),(sO "turn"),(sO "box"),(sO "in_box"),(sO "covers"),(sO "under"),(sO "share"),(sO "common"),(sO "need_height"),(sO "need_size"),(sO "read_rows"),(sO "touched"),(sO "plane"),(sO "__debug__"),(sO "__debug__"),(sO "__debug__"),(sO "__debug__"),(sO "__debug__"),(sO "__debug__"),(sO "__debug__"),(sO "__debug__"),(sO "__debug__"),(sO "__debug__"),(sO "__debug__"),(sO "__debug__"),(sO "__debug__"),(sO "__debug__"),(sO "__debug__"),(sO "_law_whole"),(sO "_law_same"),(sO "_law_bag"),(sO "_law_draw"),(sO "_law_plan"),(sO "_law_places"),(sO "_law_high"),(sO "_law_heights"),(sO "_law_rows"),(sO "_law_spoil"),(sO "_law_model"),(sO "_law_stands"),(sO "_law_spoil_rows"),(sO "_law_flat"),(sO "law")],[("HIGH",(.int 1000))],["abs","bool","dict","enumerate","int","isinstance","len","list","max","min","range","repr","str","tuple","zip"],DG A3,DE A3,C3 A3 ms,[("plan",[211529932]),("edition",[211529932]),("tries",[211529932]),("dates",[211529932]),("done",[211529932]),("undone",[211529932]),("gaps",[211529932]),("heights",[211529932])],[("Land",211529932)],["_law_land"]⟩
def loose:List Str:=[(sO "_wall"),(sO "LandError"),(sO "LookError"),(sO "NoShare"),(sO "BadSize"),(sO "BadHeight"),(sO "NoHalf"),(sO "NoPlace"),(sO "NoTriangle"),(sO "NothingLeft"),(sO "is_whole"),(sO "in_land"),(sO "need_place"),(sO "places"),(sO "block_roots"),(sO "roots"),(sO "middle"),(sO "halved"),(sO "kin"),(sO "shapes"),(sO "turn"),(sO "box"),(sO "in_box"),(sO "covers"),(sO "under"),(sO "share"),(sO "common"),(sO "HIGH"),(sO "need_height"),(sO "need_size"),(sO "read_rows"),(sO "touched"),(sO "plane"),(sO "Land"),(sO "_law_whole"),(sO "_law_same"),(sO "_law_bag"),(sO "_law_draw"),(sO "_law_plan"),(sO "_law_places"),(sO "_law_high"),(sO "_law_heights"),(sO "_law_rows"),(sO "_law_spoil"),(sO "_law_model"),(sO "_law_stands"),(sO "_law_spoil_rows"),(sO "_law_flat")]
end
end Lk32
end
section
open PySem PySem.W PyProof.Rows
noncomputable def Lk32.raws:List (Option (Scope×List Stmt)):=[PI.Al #[0] 12,PI.Al #[0] 13,PI.Al #[0] 14,PI.Al #[0] 15,PI.Al #[0] 17,PI.Al #[0] 18,PI.Al #[0] 19,PI.Al #[0] 20,PI.Al #[0] 21,PI.Al #[0] 22,PI.Al #[0] 23,PI.Al #[0] 24,PI.Al #[0] 25,PI.Al #[0] 26,PI.Al #[0] 27,PI.Al #[0] 29,PI.Al #[0] 30,PI.Al #[0] 33,PI.Al #[0] 34,PI.Al #[0] 35,PI.Al #[0] 36,PI.Al #[0] 37,PI.AR #[0] 38 0,PI.AR #[0] 38 2,PI.AR #[0] 38 3,PI.AR #[0] 38 4,PI.AR #[0] 38 5,PI.AR #[0] 38 6,PI.AR #[0] 38 8,PI.AR #[0] 38 10,PI.AR #[0] 38 11,PI.AR #[0] 38 12,PI.AR #[0] 38 13,PI.AR #[0] 38 14,PI.AR #[0] 38 15,PI.AR #[0] 38 16,PI.AR #[0] 38 17,PI.Al #[0] 40,PI.Al #[0] 41,PI.Al #[0] 42,PI.Al #[0] 43,PI.Al #[0] 44,PI.Al #[0] 45,PI.Al #[0] 46,PI.Al #[0] 47,PI.Al #[0] 48,PI.Al #[0] 49,PI.Al #[0] 50,PI.Al #[0] 51,PI.Al #[0] 52,PI.Al #[0] 53,PI.Al #[0] 54]
def Lk32.chk0(w:World):#[13].map (λs=>(Fast.tw4187177175401517315 #[15] Lk32.loose (PySem.importedModules #[0]) (λ_=>true) true s,PI.Ea Lk32.T (PI.AZ s.heap) Lk32.A3))=some (openGood #[15] Lk32.loose,true):=by kernel_rfl
def Lk32.chk1(w:World):#[13].map (λs=>(Lk32.A3.take 26).map (PI.BN (PI.AZ s.heap)))=some (Lk32.raws.take 26):=by kernel_rfl
def Lk32.chk2(w:World):#[13].map (λs=>((Lk32.A3.drop 26).take 26).map (PI.BN (PI.AZ s.heap)))=some ((Lk32.raws.drop 26).take 26):=by kernel_rfl
def Lk32.part0:PI.Ad (((Lk32.A3.zip Lk32.raws).take 19).map (PI.mkF Lk32.T))=some (Lk32.fns.take 19):=by kernel_rfl
def Lk32.part1:PI.Ad ((((Lk32.A3.zip Lk32.raws).drop 19).take 11).map (PI.mkF Lk32.T))=some ((Lk32.fns.drop 19).take 11):=by kernel_rfl
def Lk32.part2:PI.Ad ((((Lk32.A3.zip Lk32.raws).drop 30).take 10).map (PI.mkF Lk32.T))=some ((Lk32.fns.drop 30).take 10):=by kernel_rfl
def Lk32.part3:PI.Ad ((((Lk32.A3.zip Lk32.raws).drop 40).take 8).map (PI.mkF Lk32.T))=some ((Lk32.fns.drop 40).take 8):=by kernel_rfl
def Lk32.part4:PI.Ad ((((Lk32.A3.zip Lk32.raws).drop 48).take 4).map (PI.mkF Lk32.T))=some ((Lk32.fns.drop 48).take 4):=by kernel_rfl
end
variable{xs us acc:List PI.U}{u:PI.U}{o' c e' elt elt' it':PI.E}{tb:List (Nat×Nat×List (Nat ⊕ PI.U))}{op:PI.Op}{kvs:List (List Int×PI.U)}{pm:List (Nat ⊕ PI.U)}{is:List PI.Inf}{es' cs:List PI.E}{rest' gs:List (PI.Tg×PI.E×List PI.E)}{ce:PySem.Expr->Option PI.E}
namespace L2
open PySem PySem.Spec PyProof.Rows
abbrev Key:=Sum Int Str
def Cd:Key->Value->Bool
 | .inl k,v=>Value.isInt k v
 | .inr x,v=>Value.isStrOf x v
def Ib(w:World):Key->Int
 | .inl k=>hashInt k
 | .inr x=>hashStr w x
def aV:∀ {k:Key} {v:Value},Cd k v=true->(∃ i t,k=Sum.inl i/\v=Value.int i t)\/(∃ x t,k=Sum.inr x/\v=Value.str x t)
 | .inl i,v,h=>by
  let ⟨t,e⟩:=Value.isInt_shape (k:=i) (v:=v) h;exact .inl ⟨i,t,rfl,e⟩
 | .inr x,v,h=>by
  let ⟨t,e⟩:=Value.isStrOf_shape (x:=x) (v:=v) h;exact .inr ⟨x,t,rfl,e⟩
def vg(i:Int)(t:Tok):Cd (.inl i) (.int i t)=true:=by simp [Cd,Value.isInt]
def vh(x:Str)(t:Tok):Cd (.inr x) (.str x t)=true:=by simp [Cd,Value.isStrOf]
def aad(a b:Int):decide ((Sum.inl a:Key)=Sum.inl b)=(a == b):=by
 by_cases e:a=b
 .subst e;simp
 .have h : ¬ (Sum.inl a:Key)=Sum.inl b:=λq=>e (Sum.inl.inj q)
  rw [decide_eq_false h];exact (beq_eq_false_iff_ne.mpr e).symm
def aba(a b:Str):decide ((Sum.inr a:Key)=Sum.inr b)=decide (a=b):=by
 by_cases e:a=b
 .subst e;simp
 .have h : ¬ (Sum.inr a:Key)=Sum.inr b:=λq=>e (Sum.inr.inj q)
  rw [decide_eq_false h,decide_eq_false e]
def abX(a:Int)(b:Str):decide ((Sum.inl a:Key)=Sum.inr b)=false:=decide_eq_false (λq=>nomatch q)
def abR(a:Str)(b:Int):decide ((Sum.inr a:Key)=Sum.inl b)=false:=decide_eq_false (λq=>nomatch q)
def Ay(prog:Program)(w:World):PySem.KeyKind prog w Key where
 is:=Cd
 hash:=Ib w
 inj:=λv a b ha hb=>by
  rcases aV ha with ⟨i,t,rfl,rfl⟩ | ⟨x,t,rfl,rfl⟩
  .rcases aV hb with ⟨j,u,rfl,e⟩ | ⟨y,u,rfl,e⟩
   .injection e with e1 _;rw [e1]
   .exact nomatch e
  .rcases aV hb with ⟨j,u,rfl,e⟩ | ⟨y,u,rfl,e⟩
   .exact nomatch e
   .injection e with e1 _;rw [e1]
 byValue:=λk v h=>by
  rcases aV h with ⟨i,t,rfl,rfl⟩ | ⟨x,t,rfl,rfl⟩ <;> rfl
 pyHash:=λhv h=>by
  rcases aV hv with ⟨i,t,rfl,rfl⟩ | ⟨x,t,rfl,rfl⟩
  .exact wpAny_pyHash_int h
  .exact wpAny_pyHash_str h
 eqBool:=λhu hv h=>by
  rcases aV hu with ⟨i,t,rfl,rfl⟩ | ⟨x,t,rfl,rfl⟩
  .rcases aV hv with ⟨j,u,rfl,rfl⟩ | ⟨y,u,rfl,rfl⟩
   .rw [aad] at h;exact wpAny_eqBool_int h
   .rw [abX] at h;exact SeqAt.EqAt.int_str i t y u _ _ _ _ h
  .rcases aV hv with ⟨j,u,rfl,rfl⟩ | ⟨y,u,rfl,rfl⟩
   .rw [abR] at h;exact SeqAt.EqAt.str_int x t j u _ _ _ _ h
   .rw [aba] at h;exact wpAny_eqBool_str h
 «strs» := λk x t v h=>by
  rcases aV h with ⟨i,u,rfl,e⟩ | ⟨y,u,rfl,e⟩
  .exact nomatch e
  .injection e with e1 _
   subst e1;cases v <;> rfl
def ug(prog:Program)(w:World)(i:Int)(t:Tok):(Ay prog w).is (.inl i) (.int i t)=true:=vg i t
def uo(prog:Program)(w:World)(x:Str)(t:Tok):(Ay prog w).is (.inr x) (.str x t)=true:=vh x t
end L2
namespace L2
open PySem PySem.Spec PyProof.Rows
inductive V where
 | non | bl (b:Bool) | int (i:Int) | str (x:Str) | byt (b:Array UInt8) | flt (b:UInt64) | ref (a:Addr) | ty (n:String)
 deriving DecidableEq
def RelV:V->Value->Prop
 | .non,u=>u=Value.none
 | .bl b,u=>u=Value.bool b
 | .int i,u => ∃ t,u=Value.int i t
 | .str x,u => ∃ t,u=Value.str x t
 | .byt b,u => ∃ t,u=Value.bytes b t
 | .flt b,u => ∃ t,u=Value.float b t
 | .ref a,u=>u=Value.ref a
 | .ty n,u=>u=Value.type n
abbrev Vals:List V->List Value->Prop:=Paired RelV
def Vals.length{xs:List V}{us:List Value}(r:Vals xs us):xs.length=us.length:=Paired.length r
def Vals.get:∀ {xs:List V} {us:List Value} {i:Nat} {x:V},Vals xs us->xs[i]? = some x -> ∃ u,us[i]? = some u/\RelV x u
 | _,_,_,_,.nil,e=>by simp at e
 | _,_,0,_,.cons r _,e=>by simp at e;subst e;exact ⟨_,rfl,r⟩
 | _,_,i+1,x,.cons _ t,e=>by
  let ⟨u,h1,h2⟩:=Vals.get (i:=i) (x:=x) t (by simpa using e)
  exact ⟨u,by simpa using h1,h2⟩
def Vals.set{x:V}{u:Value}(r:RelV x u):∀ {xs:List V} {us:List Value} (i:Nat),Vals xs us->Vals (xs.set i x) (us.set i u)
 | _,_,_,.nil => .nil
 | _,_,0,.cons _ t => .cons r t
 | _,_,i+1,.cons q t => .cons q (Vals.set r i t)
def Vals.append:∀ {xs ys:List V} {us ws:List Value},Vals xs us->Vals ys ws->Vals (xs++ys) (us++ws)
 | _,_,_,_,.nil,s=>s
 | _,_,_,_,.cons r t,s => .cons r (Vals.append t s)
def Vals.take:∀ {xs:List V} {us:List Value} (n:Nat),Vals xs us->Vals (xs.take n) (us.take n)
 | _,_,0,_ => .nil
 | _,_,_+1,.nil => .nil
 | _,_,n+1,.cons r t => .cons r (Vals.take n t)
def Vals.drop:∀ {xs:List V} {us:List Value} (n:Nat),Vals xs us->Vals (xs.drop n) (us.drop n)
 | _,_,0,r=>r
 | _,_,_+1,.nil => .nil
 | _,_,n+1,.cons _ t=>Vals.drop n t
def RelO:Option V->Option Value->Prop
 | some v,some u=>RelV v u
 | none,none=>True
 | _,_=>False
def KV{κ:Type}:List (κ×V)->List (κ×Value)->Prop:=Paired λ(p:κ×V) (q:κ×Value)=>p.1=q.1/\RelV p.2 q.2
def Ic:Key->V
 | .inl i => .int i
 | .inr x => .str x
set_option genInjectivity false in
inductive HO where
 | lst (xs:List V)
 | tup (xs:List V)
 | dK (kvs:List (Key×V)) | dT (kvs:List (List Key×V))
 | set (S:Int->Bool) (n:Nat)
 | ins (C dx:Addr) (fs:List (Str×V))
 | own (x:Addr)
 | xd (fs:List (Str×V))
 | met (f x:Addr)
 | rng (lo hi:Int)
 | frz (o:Obj) (u:HO)
 | tbl (ps:Array Value)
 | ext (φ:Heap->Prop)
abbrev Hp:=Addr->Option HO
def upd(H:Hp)(a:Addr)(o:HO):Hp:=λb=>if b=a then some o else H b
def upd_same{H:Hp}{o:HO}:upd H a o a=some o:=by unfold upd;rw [if_pos rfl]
def ae{H:Hp}{b:Addr}{o:HO}(h:b≠a):upd H a o b=H b:=by unfold upd;rw [if_neg h]
def cH{H:Hp}{b:Addr}{o u:HO}(h:H a=some o)(h':H b=some u)(d:o≠u):a≠b:=by
 intro e;subst e;rw [h] at h';exact d (Option.some.inj h')
def aI{H:Hp}{b:Addr}{o:HO}(h:H a=some o)(h':H b=none):a≠b:=by
 intro e;subst e;rw [h] at h';cases h'
section
variable(P:Program)(w:World)
def ObjOk(H:Hp)(h:Heap)(a:Addr):HO->Prop
 | .lst xs=>xs.length<=sizeLine /\ ∃ (its:List Value) (n:Nat),Vals xs its/\h.get? a=some { cls := .type "list",data := .seq its.toArray n }
 | .tup xs=>xs.length<=sizeLine /\ ∃ its:List Value,Vals xs its/\IsTup h a its.toArray
 | .dK kvs=>kvs.length<=sizeLine/\(a == sysModules)=false /\ ∃ vs,KV kvs vs/\h.DictOf (Ay P w) a vs
 | .dT kvs=>kvs.length<=sizeLine/\(a == sysModules)=false /\ ∃ xs:List (List Key×Addr×Value),
   Paired (λ(p:List Key×V) (q:List Key×Addr×Value)=>p.1=q.1/\H q.2.1=some (.tup (p.1.map Ic))/\RelV p.2 q.2.2) kvs xs /\
   ∃ o es ep,h.get? a=some o/\o.ExactDict/\o.data=.dict es ep/\es.toList=xs.map (entryOfKey (tupleKind (Ay P w)))/\(xs.map (·.1)).Nodup
 | .set S n=>h.SetOf (intKind P w) a S n
 | .ins C dx fs=>H dx=some (.own a)/\fs.length<=1000/\dx≠a/\h.get? a=some (PySem.W.instObj C dx) /\
   ∃ mA,h.Ns1 dx mA/\(∀ f,RelO (fs.lookup f) (mA f))/\PySem.Within mA (fs.map (·.1))
 | .own _ => ∃ o,h.get? a=some o
 | .xd fs => ∃ mA,h.Ns1 a mA /\ ∀ f,RelO (fs.lookup f) (mA f)
 | .rng lo hi => ∃ t u v,h.get? a=some { cls := .type "range",data := .fields #[.int lo t,.int hi u,.int 1 v] }
 | .frz o u=>h.get? a=some o/\ObjOk H h a u
 | .tbl ps=>h.get? a=some { cls := .none,data := .fields ps }
 | .met f x=>h.get? a=some (PySem.W.methodObj (.ref f) (.ref x))
 | .ext φ=>φ h/\(∃ o,h.get? a=some o) /\ ∀ h1 h2:Heap,φ h1->(∀ o,h1.get? a=some o->h2.get? a=some o)->φ h2
def HOk(H:Hp)(h:Heap):Prop := ∀ a o,H a=some o->ObjOk P w H h a o
end
section
variable{P:Program}{H H':Hp}{o:HO}
def ObjOk.lt(x:ObjOk P w H h a o):a < h.objs.size:=by
 cases o with
 | lst xs=>let ⟨_,_,_,_,e⟩:=x;exact Hx e
 | tup xs=>let ⟨_,_,_,p⟩:=x;exact p.lt
 | dK kvs=>let ⟨_,_,_,_,o,_,_,e,_⟩:=x;exact Hx e
 | dT kvs=>let ⟨_,_,_,_,o,_,_,e,_⟩:=x;exact Hx e
 | set S n=>let ⟨o,_,_,_,e,_⟩:=x;exact Hx e
 | ins C dx fs=>let ⟨_,_,_,e,_⟩:=x;exact Hx e
 | own y=>let ⟨_,e⟩:=x;exact Hx e
 | xd fs=>let ⟨_,⟨_,_,_,e,_⟩,_⟩:=x;exact Hx e
 | rng lo hi=>let ⟨_,_,_,e⟩:=x;exact Hx e
 | frz ob u=>let ⟨e,_⟩:=x;exact Hx e
 | tbl ps=>exact Hx (show h.get? a=some _ from x)
 | met f y=>exact Hx (show h.get? a=some _ from x)
 | ext φ=>let ⟨_,⟨_,e⟩,_⟩:=x;exact Hx e
def Paired.mapP{α β:Type}{F G:α->β->Prop}:∀ {l₁ : List α} {l₂ : List β},Paired F l₁ l₂ -> (∀ a b,F a b->G a b)->Paired G l₁ l₂
 | _,_,.nil,_ => .nil
 | _,_,.cons r t,f => .cons (f _ _ r) (Paired.mapP t f)
def ObjOk.stay(x:ObjOk P w H h a o)(k:∀ b u,(b=a\/H b=some (.own a))->h.get? b=some u->h'.get? b=some u)
  (ho:∀ b,H b=some (.own a)->H' b=some (.own a)) (ht:∀ b xs,H b=some (.tup xs)->H' b=some (.tup xs)):ObjOk P w H' h' a o:=by
 induction o with
 | lst xs=>let ⟨z,its,n,r,e⟩:=x;exact ⟨z,its,n,r,k _ _ (.inl rfl) e⟩
 | tup xs=>let ⟨z,its,r,ob,e,c⟩:=x;exact ⟨z,its,r,ob,k _ _ (.inl rfl) e,c⟩
 | dK kvs=>let ⟨z,y,vs,r,ob,es,ep,e,c⟩:=x;exact ⟨z,y,vs,r,ob,es,ep,k _ _ (.inl rfl) e,c⟩
 | dT kvs =>
  let ⟨z,y,xs,r,ob,es,ep,e,c⟩:=x;exact ⟨z,y,xs,Paired.mapP r λp q z=>⟨z.1,ht _ _ z.2.1,z.2.2⟩,ob,es,ep,k _ _ (.inl rfl) e,c⟩
 | set S n=>let ⟨ob,es,ep,t,e,c⟩:=x;exact ⟨ob,es,ep,t,k _ _ (.inl rfl) e,c⟩
 | ins C dx fs =>
  let ⟨d,z,ne,e,mA,⟨od,es,ep,e2,c⟩,r⟩:=x;exact ⟨ho _ d,z,ne,k _ _ (.inl rfl) e,mA,⟨od,es,ep,k _ _ (.inr d) e2,c⟩,r⟩
 | own y=>let ⟨ob,e⟩:=x;exact ⟨ob,k _ _ (.inl rfl) e⟩
 | xd fs=>let ⟨mA,⟨od,es,ep,e,c⟩,r⟩:=x;exact ⟨mA,⟨od,es,ep,k _ _ (.inl rfl) e,c⟩,r⟩
 | rng lo hi=>let ⟨t,u,v,e⟩:=x;exact ⟨t,u,v,k _ _ (.inl rfl) e⟩
 | frz ob u ih=>let ⟨e,q⟩:=x;exact ⟨k _ _ (.inl rfl) e,ih q⟩
 | tbl ps =>
  have e:h.get? a=some { cls := .none,data := .fields ps }:=x;show h'.get? a=some { cls := .none,data := .fields ps };exact k a _ (.inl rfl) e
 | met f y =>
  have e:h.get? a=some (PySem.W.methodObj (.ref f) (.ref y)):=x;show h'.get? a=some (PySem.W.methodObj (.ref f) (.ref y));exact k a _ (.inl rfl) e
 | ext φ=>let ⟨p,⟨o,e⟩,st⟩:=x;exact ⟨st _ _ p λo q=>k _ _ (.inl rfl) q,⟨o,k _ _ (.inl rfl) e⟩,st⟩
def HOk.lt(x:HOk P w H h)(e:H a=some o):a < h.objs.size:=(x a o e).lt
def HOk.fresh(x:HOk P w H h)(e:h.objs.size<=a):H a=none:=by
 cases q:H a with
 | none=>rfl
 | some u=>exact absurd (HC (x.lt q) e) (Nat.lt_irrefl _)
def HOk.kept(x:HOk P w H h)(k:∀ b u,h.get? b=some u->h'.get? b=some u):HOk P w H h':=λa o e =>
 (x a o e).stay (λb u _ q=>k b u q) (λ_ q=>q) λ_ _ q=>q
def HOk.laid(x:HOk P w H h)(k:∀ b u,h.get? b=some u->h'.get? b=some u)(hp:h.objs.size<=a)(new:ObjOk P w (upd H a o) h' a o):HOk P w (upd H a o) h':=λb u e=>by
 have hn:=x.fresh hp;by_cases hb:b=a
 .subst hb;rw [upd_same] at e;cases e;exact new
 .rw [ae hb] at e
  exact (x b u e).stay (λc v _ q=>k c v q) (λc q=>by rw [ae (aI q hn)];exact q) λc xs q=>by rw [ae (aI q hn)];exact q
end
def Rd(H:Hp)(a:Addr)(u:HO):Prop:=H a=some u \/ ∃ o,H a=some (.frz o u)
def Rd.ok{P:Program}{H:Hp}{u:HO}(r:Rd H a u)(x:HOk P w H h):ObjOk P w H h a u:=by
 rcases r with r | ⟨o,r⟩
 .exact x a u r
 .obtain ⟨_,q⟩:=x a _ r
  exact q
def Mut:Option HO->Prop
 | some (.lst _)=>True
 | some (.dK _)=>True
 | some (.dT _)=>True
 | some (.set _ _)=>True
 | some (.ins _ _ _)=>True
 | some (.ext _)=>True
 | _=>False
section
variable{P:Program}{H:Hp}{x e:Addr}{o':HO}
def HOk.write(ok:HOk P w H h)(mu:Mut (H x))(he:e=x\/H e=some (.own x))(k:∀ b u,b≠e->h.get? b=some u->h'.get? b=some u)(heo:∃ u,h'.get? e=some u)
  (new:ObjOk P w (upd H x o') h' x o'):HOk P w (upd H x o') h':=λb u q=>by
 have nown:∀ c y,H c=some (.own y)->c≠x:=λc y r z=>by subst z;rw [r] at mu;exact mu
 have ntup:∀ c xs,H c=some (.tup xs)->c≠x:=λc xs r z=>by subst z;rw [r] at mu;exact mu
 by_cases hb:b=x
 .subst hb;rw [upd_same] at q;cases q;exact new
 .rw [ae hb] at q
  by_cases hbe:b=e
  .have q':H b=some (.own x):=by
    rcases he with z | z
    .exact absurd (hbe.trans z) hb
    .rw [hbe];exact z
   rw [q] at q';cases q';let ⟨v,hv⟩:=heo;exact ⟨v,by rw [hbe];exact hv⟩
  .refine (ok b u q).stay (λc v hc r=>k c v ?_ r) (λc r=>by rw [ae (nown c b r)];exact r) λc xs r=>by rw [ae (ntup c xs r)];exact r
   rcases hc with rfl | hc
   .exact hbe
   .rintro rfl
    rcases he with z | z
    .exact nown c b hc z
    .rw [hc] at z;cases z;exact hb rfl
end
structure Un(fs ex:List Addr)(H H':Hp)(h h':Heap):Prop where
 keep:∀ b o,h.get? b=some o->H b=none->b ∉ fs->b ∉ ex->h'.get? b=some o
 slot:∀ b o,h.get? b=some o->H b=none->b∈fs->b ∉ ex -> ∃ sl,h'.get? b=some { o with slots:=sl }
 free:∀ b o,h.get? b=some o->H b=none->b ∉ ex->H' b=none
 there:∀ b o,h.get? b=some o->b ∉ ex -> ∃ o',h'.get? b=some o'
 tups:∀ b xs,H b=some (.tup xs)->H' b=some (.tup xs)
 frzs:∀ b o u,H b=some (.frz o u)->H' b=some (.frz o u)
 tbls:∀ b ps,H b=some (.tbl ps) -> ∃ more,H' b=some (.tbl (ps++more))
section
variable{fs fs' ex ex':List Addr}{H H1 H2:Hp}{h1 h2:Heap}{x e:Addr}{o:HO}
def Un.any(u:Un fs ex H H1 h h1){b:Addr}{ob:Obj}(q:h.get? b=some ob)(n:H b=none)(hx:b ∉ ex):∃ sl,h1.get? b=some { ob with slots:=sl }:=by
 by_cases hb:b∈fs
 .exact u.slot b ob q n hb hx
 .exact ⟨ob.slots,u.keep b ob q n hb hx⟩
def Un.kept(k:∀ b u,h.get? b=some u->h'.get? b=some u):Un fs ex H H h h' :=
 ⟨λb ob q _ _ _=>k b ob q,λb ob q _ _ _=>⟨ob.slots,k b ob q⟩,λ_ _ _ n _=>n,λb ob q _=>⟨ob,k b ob q⟩,λ_ _ q=>q,λ_ _ _ q=>q,λ_ ps q=>⟨#[],by rw [q];simp⟩⟩
def Un.refl:Un fs ex H H h h:=Un.kept λ_ _ q=>q
def Un.laid(k:∀ b u,h.get? b=some u->h'.get? b=some u)(hp:h.objs.size<=a)(hn:H a=none):Un fs ex H (upd H a o) h h' where
 keep:=λb u q _ _ _=>k b u q
 slot:=λb u q _ _ _=>⟨u.slots,k b u q⟩
 free:=λb u q n _=>by rw [ae (HD (HC (Hx q) hp))];exact n
 there:=λb u q _=>⟨u,k b u q⟩
 tups:=λb xs q=>by rw [ae (aI q hn)];exact q
 frzs:=λb u xs q=>by rw [ae (aI q hn)];exact q
 tbls:=λb ps q=>⟨#[],by rw [ae (aI q hn),q];simp⟩
def Un.write(mu:Mut (H x))(he:e=x\/H e=some (.own x))(k:∀ b u,b≠e->h.get? b=some u->h'.get? b=some u)(heo:∃ u,h'.get? e=some u):Un fs ex H (upd H x o) h h':=by
 have hx:∀ b,H b=none->b≠x:=λb n z=>by subst z;rw [n] at mu;exact mu
 have hb:∀ b,H b=none->b≠e:=λb n z=>by
  subst z;rcases he with r | r
  .exact hx b n r
  .rw [n] at r;cases r
 have hm:∀ b u,H b=some u -> ¬ Mut (some u)->b≠x:=λb u q nm z=>by subst z;rw [q] at mu;exact nm mu
 refine ⟨λb u q n _ _=>k b u (hb b n) q,λb u q n _ _=>⟨u.slots,k b u (hb b n) q⟩,λb u q n _=>by rw [ae (hx b n)];exact n,λb u q _ => ?_,
  λb xs q=>by rw [ae (hm b _ q λz=>z)];exact q,λb u xs q=>by rw [ae (hm b _ q λz=>z)];exact q,λb ps q=>⟨#[],by rw [ae (hm b _ q λz=>z),q];simp⟩⟩
 by_cases hbe:b=e
 .subst hbe;exact heo
 .exact ⟨u,k b u hbe q⟩
end
def Ie(h:Heap)(H:Hp):List Addr:=(List.range h.objs.size).filter λa=>(H a).isSome
def Bw(h:Heap)(H:Hp):Heap:=PySem.W.hideAll h (Ie h H)
def vp(h:Heap)(H:Hp):(Bw h H).objs.size=h.objs.size:=PySem.W.hideAll_size _ _
def wx{H:Hp}{b:Addr}{o:Obj}(e:h.get? b=some o)(n:H b=none):(Bw h H).get? b=some o :=
 PySem.W.hideAll_get _ e λhm=>by
  have q:(H b).isSome=true:=(List.mem_filter.mp hm).2;rw [n] at q;simp at q
def yj{H:Hp}{b:Addr}{o:Obj}(e:(Bw h H).get? b=some o):h.get? b=some o/\H b=none:=by
 have e':h.get? b=some o:=PySem.W.of_hideAll (Ie h H) e;refine ⟨e',?_⟩;cases q:H b with
 | none=>rfl
 | some x =>
  have hm:b∈Ie h H:=List.mem_filter.mpr ⟨List.mem_range.mpr (Hx e'),by simp [q]⟩
  have z:(Bw h H).get? b=none:=PySem.W.hideAll_none (Ie h H) hm;rw [z] at e;cases e
end L2
variable{H H':L2.Hp}{y:L2.V}{vs:List L2.V}{gV:List L2.V->List L2.V->List L2.V}{ddV:List (PySem.Str×L2.V)}{Q2:L2.V->L2.Hp->Prop}
namespace L2
open PySem PySem.Spec PyProof.Rows
structure Mod(K:HG)(mg:Str->Option Value)(base:Heap):Prop where
 kin:K.In base
 glob:base.Ns mainGlobals mg
 blt:∃ mb,base.Ns builtinsNs mb /\ ∀ x:Str,x ≠ "__name__" -> mb x=bootBuiltins x
 nolimit:base.NoLimit
set_option genInjectivity false in
structure Cx where
 prog:Program
 w:World
 K:HG
 mg:Str->Option Value
 base:Heap
 A:Around
 N:List Str
 s₀ : Shared
 H₀ : Hp
 env:Env
 outer:List Env
 stack:List Env
 ex:List Addr
 fn:Str->Bool
 calm:Bool
 pn:List (Addr×Obj)
 xe:Value->Shared->Prop
def frs(l:List Env):List Addr:=l.filterMap (·.frame)
abbrev Cx.fs(X:Cx):List Addr:=frs X.outer
def Vis(sc:Scope)(x:Str):Prop:=sc.names.lookup x=some .local\/sc.names.lookup x=some .cell\/sc.names.lookup x=some .free
def Loc(sc:Scope)(x:Str):Prop:=sc.names.lookup x=some .local\/sc.names.lookup x=some .cell
def Look(env:Env)(h:Heap)(m:Str->Option Value)(x:Str)(u:Value):Prop :=
 (env.kindOf x=some .local/\m x=some u)\/((env.kindOf x=some .cell\/env.kindOf x=some .free) /\ ∃ c,env.cells.lookup x=some c/\h.IsCell c (some u))
structure Cx.Ok(X:Cx):Prop where
 mod:Mod X.K X.mg X.base
 kind:X.env.scope.kind=.function
 glob:X.env.globals=mainGlobals
 blt:X.env.builtins=builtinsNs
 above:X.s₀.heap.objs.size<=X.env.locals
 inj:∀ x y c,X.env.cells.lookup x=some c->X.env.cells.lookup y=some c->x=y
 has:∀ x,(X.env.kindOf x=some .cell\/X.env.kindOf x=some .free) -> ∃ c,X.env.cells.lookup x=some c
 cab:∀ x c,X.fn x=true->X.env.cells.lookup x=some c->X.s₀.heap.objs.size<=c
 hd:X.calm=true->X.A.handled=none
 frames:X.A.frames=some X.stack
 stk:X.stack=X.outer\/(X.stack=X.env :: X.outer/\X.env.frame=some X.env.locals)
 exf:∀ b∈X.ex,b≠X.env.locals /\ ∀ x c,X.env.cells.lookup x=some c->c≠b
 bs:∀ b o,X.base.get? b=some o->X.s₀.heap.get? b=some o/\X.H₀ b=none
 bsz:X.base.objs.size<=X.s₀.heap.objs.size
 noex:∀ b o,X.base.get? b=some o->b ∉ X.ex
 exfs:∀ b∈X.ex,b ∉ X.fs
 funs:X.s₀.heap.FunFrames X.base X.outer
 frf:∀ b∈X.fs,X.H₀ b=none
structure Inv(X:Cx)(pins:List (Addr×Obj))(σ:List (Option V))(H:Hp)(s:Shared):Prop where
 ok:X.Ok
 os:s.os=X.s₀.os
 bare:AllBare s.gens
 base:Un X.fs X.ex X.H₀ H X.s₀.heap s.heap
 loc:∃ m,s.heap.Ns X.env.locals m /\ ∀ (i:Nat) (x:Str) (v:V),X.N[i]? = some x->σ[i]? = some (some v)->Vis X.env.scope x -> ∃ u,RelV v u/\Look X.env s.heap m x u
 cell:∀ x c,X.env.cells.lookup x=some c -> ∃ v,s.heap.IsCell c v
 free:H X.env.locals=none
 freeC:∀ x c,X.env.cells.lookup x=some c->H c=none
 pin:∀ p∈X.pn++pins,s.heap.get? p.1=some p.2/\H p.1=none/\p.1≠X.env.locals/\p.1 ∉ X.fs /\ ∀ v,p.2.data ≠ .cell v
 hok:HOk X.prog X.w H s.heap
 len:σ.length=X.N.length
section
variable{X:Cx}{σ:List (Option V)}
def Cx.Ok.nofr(ok:X.Ok){b:Addr}{o:Obj}(e:X.base.get? b=some o):b ∉ X.fs:=λhb=>by
 have:=(ok.funs.mem hb).1;rw [e] at this;cases this
def Inv.bs(I:Inv X pins σ H s):∀ b o,X.base.get? b=some o->s.heap.get? b=some o/\H b=none:=λb o e =>
 ⟨I.base.keep b o (I.ok.bs b o e).1 (I.ok.bs b o e).2 (I.ok.nofr e) (I.ok.noex b o e),I.base.free b o (I.ok.bs b o e).1 (I.ok.bs b o e).2 (I.ok.noex b o e)⟩
def Inv.bk(I:Inv X pins σ H s):∀ b o,X.base.get? b=some o->s.heap.get? b=some o:=λb o e=>(I.bs b o e).1
def Inv.mod(I:Inv X pins σ H s):Mod X.K X.mg X.base:=I.ok.mod
def Inv.kIn(I:Inv X pins σ H s):X.K.In s.heap:=I.ok.mod.kin.keeps I.bk
def Inv.lt(I:Inv X pins σ H s):X.env.locals < s.heap.objs.size:=let ⟨_,hn,_⟩:=I.loc;hn.lt
def Inv.sz(I:Inv X pins σ H s):X.s₀.heap.objs.size<=s.heap.objs.size:=Hy I.ok.above (Nat.le_of_lt I.lt)
def Inv.nofs(I:Inv X pins σ H s)(h:s.heap.objs.size<=a):a ∉ X.fs:=λhb=>by
 let ⟨_,o,ho,_⟩:=I.ok.funs.mem hb;exact absurd (HC (Hx ho) (Hy I.sz h)) (Nat.lt_irrefl _)
def Inv.cne(I:Inv X pins σ H s):∀ x c,X.env.cells.lookup x=some c->c≠X.env.locals:=λx c e z=>by
 let ⟨v,o,ho,hd⟩:=I.cell x c e;let ⟨m,⟨o',es,ep,ho',hd',_⟩,_⟩:=I.loc;rw [z,ho'] at ho;cases ho;rw [hd'] at hd;cases hd
def Inv.funs(I:Inv X pins σ H s):s.heap.FunFrames X.base X.outer:=by
 have all:∀ (l:List Env),(∀ b∈frs l,b∈X.fs)->X.s₀.heap.FunFrames X.base l->s.heap.FunFrames X.base l:=by
  intro l
  induction l with
  | nil=>intro _ _;trivial
  | cons env r ih =>
   intro hs hl;let ⟨hk,⟨L,o,hf,hn,ho,hd⟩,hr⟩:=hl;have hL:L∈X.fs:=hs L (by unfold frs;rw [List.filterMap_cons,hf];exact List.mem_cons_self)
   let ⟨sl,e⟩:=I.base.slot L o ho (I.ok.frf L hL) hL λz=>I.ok.exfs L z hL;exact ⟨hk,⟨L,_,hf,hn,e,hd⟩,ih (λb hb=>hs b (by unfold frs;rw [List.filterMap_cons,hf];exact HB _ hb)) hr⟩
 exact all X.outer (λ_ hb=>hb) I.ok.funs
def Inv.stack(I:Inv X pins σ H s):s.heap.FunFrames X.base X.stack:=by
 rcases I.ok.stk with e | ⟨e,hf⟩
 .rw [e];exact I.funs
 .rw [e]
  let ⟨m,hn,_⟩:=I.loc;refine .cons (by rw [I.ok.kind];decide) hf hn ?_ I.funs
  exact Heap.get?_none_of_le (Hy I.ok.bsz I.ok.above)
def Inv.stkSub(I:Inv X pins σ H s):∀ b∈frs X.stack,b∈X.env.locals :: X.fs:=λb hb=>by
 rcases I.ok.stk with e | ⟨e,hf⟩
 .rw [e] at hb;exact HB _ hb
 .rw [e] at hb
  unfold frs at hb;rw [List.filterMap_cons,hf] at hb;exact hb
def Inv.stkFree(I:Inv X pins σ H s):∀ b∈frs X.stack,H b=none:=λb hb=>by
 rcases List.mem_cons.mp (I.stkSub b hb) with e | hb
 .rw [e];exact I.free
 .obtain ⟨_,o,ho,_⟩:=I.ok.funs.mem hb
  exact I.base.free b o ho (I.ok.frf b hb) λz=>I.ok.exfs b z hb
def Inv.step{g':Array GenState}{d':Drawn}{ch:List Addr}(I:Inv X pins σ H s)
  (hch:∀ b∈ch,(b∈X.ex\/X.s₀.heap.objs.size<=b)/\b≠X.env.locals/\(∀ x c,X.env.cells.lookup x=some c->c≠b) /\ ∀ p∈X.pn++pins,p.1≠b)
  (keep:∀ b o,b≠X.env.locals->b ∉ X.fs->b ∉ ch->s.heap.get? b=some o->H b=none->h'.get? b=some o)
  (slot:∀ b o,b≠X.env.locals->b∈X.fs->b ∉ ch->s.heap.get? b=some o->H b=none -> ∃ sl,h'.get? b=some { o with slots:=sl }) (free:∀ b o,b ∉ ch->s.heap.get? b=some o->H b=none->H' b=none)
  (there:∀ b o,b ∉ ch->s.heap.get? b=some o -> ∃ o',h'.get? b=some o')
  (tups:∀ b xs,H b=some (.tup xs)->H' b=some (.tup xs)) (frzs:∀ b o u,H b=some (.frz o u)->H' b=some (.frz o u)) (tbls:∀ b ps,H b=some (.tbl ps) -> ∃ more,H' b=some (.tbl (ps++more)))
  (ns:∀ m,s.heap.Ns X.env.locals m->h'.Ns X.env.locals m) (hok:HOk X.prog X.w H' h') (hg:AllBare g') :
  Inv X pins σ H' { s with heap:=h',gens:=g',drawn:=d',toks:=t' }:=by
 have neL:∀ b o,X.s₀.heap.get? b=some o->b≠X.env.locals:=λb o e=>HD (HC (Hx e) I.ok.above);have neC:∀ b o,X.s₀.heap.get? b=some o->b ∉ X.ex->b ∉ ch:=λb o e hx hb=>by
  rcases (hch b hb).1 with z | z
  .exact hx z
  .exact absurd (HC (Hx e) z) (Nat.lt_irrefl _)
 have cellK:∀ x c,X.env.cells.lookup x=some c -> ∀ v,s.heap.IsCell c v->h'.IsCell c v:=λx c e v ⟨o,ho,hd⟩=>by
  have nch:c ∉ ch:=λz=>(hch c z).2.2.1 x c e rfl;by_cases hc:c∈X.fs
  .obtain ⟨sl,q⟩:=slot c o (I.cne x c e) hc nch ho (I.freeC x c e)
   exact ⟨_,q,hd⟩
  .exact ⟨o,keep c o (I.cne x c e) hc nch ho (I.freeC x c e),hd⟩
 refine ⟨I.ok,I.os,hg,⟨λb o e n hb hx => ?_,λb o e n hb hx => ?_,λb o e n hx => ?_,λb o e hx => ?_,λb xs e=>tups b xs (I.base.tups b xs e),λb o xs e=>frzs b o xs (I.base.frzs b o xs e),λb ps e => ?_⟩,?_,λx c e => ?_,?_,λx c e => ?_,λp hp => ?_,hok,I.len⟩
 .exact keep b o (neL b o e) hb (neC b o e hx) (I.base.keep b o e n hb hx) (I.base.free b o e n hx)
 .obtain ⟨sl,e1⟩:=I.base.slot b o e n hb hx
  let ⟨sl',e2⟩:=slot b _ (neL b o e) hb (neC b o e hx) e1 (I.base.free b o e n hx);exact ⟨sl',e2⟩
 .obtain ⟨o',e1⟩:=I.base.there b o e hx
  exact free b o' (neC b o e hx) e1 (I.base.free b o e n hx)
 .obtain ⟨o',e1⟩:=I.base.there b o e hx
  exact there b o' (neC b o e hx) e1
 .obtain ⟨m1,e1⟩:=I.base.tbls b ps e
  let ⟨m2,e2⟩:=tbls b _ e1;exact ⟨m1++m2,by rw [e2,Array.append_assoc]⟩
 .obtain ⟨m,hn,hl⟩:=I.loc
  refine ⟨m,ns m hn,λi x v e1 e2 e3 => ?_⟩;let ⟨u,r,l⟩:=hl i x v e1 e2 e3;refine ⟨u,r,?_⟩;rcases l with l | ⟨k,c,e,z⟩
  .exact .inl l
  .exact .inr ⟨k,c,e,cellK x c e _ z⟩
 .obtain ⟨v,z⟩:=I.cell x c e
  exact ⟨v,cellK x c e v z⟩
 .obtain ⟨m,⟨o,_,_,ho,_⟩,_⟩:=I.loc
  exact free _ o (λz=>(hch _ z).2.1 rfl) ho I.free
 .obtain ⟨v,o,ho,hd⟩:=I.cell x c e
  exact free c o (λz=>(hch c z).2.2.1 x c e rfl) ho (I.freeC x c e)
 .obtain ⟨e,n,ne,nf,d⟩:=I.pin p hp
  have nch:p.1 ∉ ch:=λz=>(hch p.1 z).2.2.2 p hp rfl;exact ⟨keep p.1 p.2 ne nf nch e n,free p.1 p.2 nch e n,ne,nf,d⟩
def Inv.un(I:Inv X pins σ H s)(u:Un X.fs [] H H' s.heap h')(hok:HOk X.prog X.w H' h'):Inv X pins σ H' { s with heap:=h',toks:=t' }:=by
 let ⟨m,⟨o,es,ep,ho,r⟩,_⟩:=id I.loc;let ⟨sl,hL⟩:=u.any ho I.free #[3]
 exact I.step (g':=s.gens) (d':=s.drawn) (ch:=[]) (λ_ z=>nomatch z) (λb o _ hb _ e n=>u.keep b o e n hb #[3]) (λb o _ hb _ e n=>u.slot b o e n hb #[3]) (λb o _ e n=>u.free b o e n #[3]) (λb o _ e=>u.there b o e #[3]) u.tups u.frzs u.tbls (λm' hm=>by
  let ⟨o',es',ep',ho',r'⟩:=hm;rw [ho] at ho';cases ho';exact ⟨_,es',ep',hL,r'⟩) hok I.bare
def Inv.call{g':Array GenState}{d':Drawn}{ch:List Addr}(I:Inv X pins σ H s)(u:Un (frs X.stack) ch H H' s.heap h')(hok:HOk X.prog X.w H' h')(hg:AllBare g')
  (hch:∀ b∈ch,(b∈X.ex\/X.s₀.heap.objs.size<=b)/\b≠X.env.locals/\(∀ x c,X.env.cells.lookup x=some c->c≠b) /\ ∀ p∈X.pn++pins,p.1≠b) :
  Inv X pins σ H' { s with heap:=h',gens:=g',drawn:=d',toks:=t' }:=by
 let ⟨m,⟨o,es,ep,ho,r⟩,_⟩:=id I.loc;let ⟨sl,hL⟩:=u.any ho I.free λz=>(hch _ z).2.1 rfl
 exact I.step (ch:=ch) hch (λb o hL hb hc e n=>u.keep b o e n (λz=>(List.mem_cons.mp (I.stkSub b z)).elim hL hb) hc) (λb o _ _ hc e n=>u.any e n hc) (λb o hc e n=>u.free b o e n hc) (λb o hc e=>u.there b o e hc) u.tups u.frzs u.tbls (λm' hm=>by
  let ⟨o',es',ep',ho',r'⟩:=hm;rw [ho] at ho';cases ho';exact ⟨_,es',ep',hL,r'⟩) hok hg
def Inv.turned{it:Addr}(I:Inv X pins σ H s)(k:∀ b o,b≠it->s.heap.get? b=some o->h'.get? b=some o)(hn:H it=none)(hL:it≠X.env.locals)
  (h1:it∈X.ex\/X.s₀.heap.objs.size<=it) (h2:∀ x c,X.env.cells.lookup x=some c->c≠it) (h3:∀ p∈X.pn++pins,p.1≠it):Inv X pins σ H { s with heap:=h',toks:=t' }:=by
 have nit:∀ b u,H b=some u->b≠it:=λb u e z=>by rw [z,hn] at e;cases e
 refine I.step (g':=s.gens) (d':=s.drawn) (ch:=[it]) (λb hb => ?_) (λb o _ _ hc e _=>k b o (λz=>hc (by simp [z])) e) (λb o _ _ hc e _=>⟨o.slots,k b o (λz=>hc (by simp [z])) e⟩) (λ_ _ _ _ n=>n)
  (λb o hc e=>⟨o,k b o (λz=>hc (by simp [z])) e⟩) (λ_ _ e=>e) (λ_ _ _ e=>e) (λb ps e=>⟨#[],by rw [e];simp⟩) (λm hm => ?_) (λb u e => ?_) I.bare
 .have e:b=it:=by simpa using hb
  subst e;exact ⟨h1,hL,h2,h3⟩
 .obtain ⟨o,es,ep,ho,r⟩:=hm
  exact ⟨o,es,ep,k _ o (Ne.symm hL) ho,r⟩
 .refine (I.hok b u e).stay (λc v hc q=>k c v ?_ q) (λ_ q=>q) λ_ _ q=>q
  rcases hc with z | z
  .rw [z];exact nit b u e
  .exact nit c _ z
def Inv.tok(I:Inv X pins σ H s)(t:Nat):Inv X pins σ H { s with toks:=t }:=I.un (h':=s.heap) (t':=t) Un.refl I.hok
def Inv.kept{t':Nat}(I:Inv X pins σ H s)(k:∀ b u,s.heap.get? b=some u->h'.get? b=some u):Inv X pins σ H { s with heap:=h',toks:=t' }:=I.un (Un.kept k) (I.hok.kept k)
def Inv.laid{a:Addr}{o:HO}{t':Nat}(I:Inv X pins σ H s)(k:∀ b u,s.heap.get? b=some u->h'.get? b=some u)(hp:s.heap.objs.size<=a)(new:ObjOk X.prog X.w (upd H a o) h' a o):
  Inv X pins σ (upd H a o) { s with heap:=h',toks:=t' }:=I.un (Un.laid k hp (I.hok.fresh hp)) (I.hok.laid k hp new)
def Inv.write{x e:Addr}{o:HO}{t':Nat}(I:Inv X pins σ H s)(mu:Mut (H x))(he:e=x\/H e=some (.own x))(k:∀ b u,b≠e->s.heap.get? b=some u->h'.get? b=some u)(heo:∃ u,h'.get? e=some u)
  (new:ObjOk X.prog X.w (upd H x o) h' x o):Inv X pins σ (upd H x o) { s with heap:=h',toks:=t' }:=I.un (Un.write mu he k heo) (I.hok.write mu he k heo new)
def Inv.pins_of{pins':List (Addr×Obj)}(I:Inv X pins σ H s)(h:∀ p∈pins',s.heap.get? p.1=some p.2/\H p.1=none/\p.1≠X.env.locals/\p.1 ∉ X.fs /\ ∀ v,p.2.data ≠ .cell v):Inv X pins' σ H s :=
 ⟨I.ok,I.os,I.bare,I.base,I.loc,I.cell,I.free,I.freeC,λp hp=>(List.mem_append.mp hp).elim (λz=>I.pin p (List.mem_append_left _ z)) (h p),I.hok,I.len⟩
def jD(hN:N.Nodup)(a:N[i]? = some x)(b:N[j]? = some x):i=j:=by
 let ⟨h1,e1⟩:=List.getElem?_eq_some_iff.mp a;let ⟨h2,e2⟩:=List.getElem?_eq_some_iff.mp b;exact (List.getElem_inj hN).mp (e1.trans e2.symm)
def fQ{E:Value->Shared->Prop}{v:V}{u:Value}{Q:Unit->Shared->Prop}(I:Inv X pins σ H s)(hN:X.N.Nodup)(hi:X.N[i]? = some x)(hx:Loc X.env.scope x)(r:RelV v u)
  (h:∀ s',Inv X pins (σ.set i (some v)) H s'->(∃ a,Heap.SameBut a s.heap s'.heap/\(a=X.env.locals\/X.env.cells.lookup x=some a))->Q .unit s') (hf:X.fn x=true\/X.env.scope.names.lookup x=some .local:=by first | exact .inl rfl | exact .inr rfl | assumption):wpAny M A (storeName X.env x u) Q E s:=by
 let ⟨m,hn,hl⟩:=id I.loc;have hcls:(X.env.scope.kind == .class || (X.env.scope.kind == .module && X.env.locals != X.env.globals))=false:=by rw [I.ok.kind];rfl
 have hiσ:i < σ.length:=by rw [I.len];exact (List.getElem?_eq_some_iff.mp hi).1
 have cne:=I.cne;have tracked:∀ {a:Addr} {h':Heap},(∃ o,s.heap.get? a=some o/\H a=none)->Heap.SameBut a s.heap h'->HOk X.prog X.w H h':=λ{a h'} ha hs b ob e=>by
  let ⟨_,_,hfree⟩:=ha;refine (I.hok b ob e).stay (λc w' hc q=>(hs.2 c ?_).trans q) (λ_ q=>q) λ_ _ q=>q;rintro rfl;rcases hc with rfl | hc
  .rw [hfree] at e;cases e
  .rw [hfree] at hc;cases hc
 rcases hx with hk | hk
 .refine wpAny_storeName_local hk hn (λh' hn' hs => ?_) hcls
  let ⟨oL,_,_,hoL,_⟩:=id hn;refine h _ ⟨I.ok,I.os,I.bare,⟨λb o e n hb hx => ?_,λb o e n hb hx => ?_,I.base.free,λb o e hx => ?_,I.base.tups,I.base.frzs,I.base.tbls⟩,⟨_,hn',λj y v' e1 e2 e3 => ?_⟩,λy c e => ?_,I.free,I.freeC,λp hp => ?_,tracked ⟨oL,hoL,I.free⟩ hs,by simpa using I.len⟩ ⟨_,hs,.inl rfl⟩
  .exact (hs.2 b (HD (HC (Hx e) I.ok.above))).trans (I.base.keep b o e n hb hx)
  .obtain ⟨sl,e1⟩:=I.base.slot b o e n hb hx
   exact ⟨sl,(hs.2 b (HD (HC (Hx e) I.ok.above))).trans e1⟩
  .obtain ⟨o',e1⟩:=I.base.there b o e hx
   exact ⟨o',(hs.2 b (HD (HC (Hx e) I.ok.above))).trans e1⟩
  .by_cases hj:j=i
   .subst hj
    rw [hi] at e1;cases e1;rw [List.getElem?_set_self hiσ] at e2;cases e2;exact ⟨u,r,.inl ⟨hk,by simp⟩⟩
   .rw [List.getElem?_set_ne (Ne.symm hj)] at e2
    let ⟨u',r',q⟩:=hl j y v' e1 e2 e3;refine ⟨u',r',?_⟩;rcases q with ⟨k,e⟩ | ⟨k,c,e,z⟩
    .refine .inl ⟨k,?_⟩
     have:y≠x:=λe=>hj (jD hN e1 (e ▸ hi));simp [this,e]
    .exact .inr ⟨k,c,e,z.sameBut hs (cne y c e)⟩
  .obtain ⟨w',z⟩:=I.cell y c e
   exact ⟨w',z.sameBut hs (cne y c e)⟩
  .obtain ⟨e,n,ne,nf,d⟩:=I.pin p hp
   exact ⟨(hs.2 p.1 ne).trans e,n,ne,nf,d⟩
 .have hfn:X.fn x=true:=by
   rcases hf with z | z
   .exact z
   .rw [z] at hk;cases hk
  let ⟨c,hc⟩:=I.ok.has x (.inl hk);let ⟨w',z⟩:=I.cell x c hc;refine wpAny_storeName_cell I.ok.kind hk hc z (λh' hc' hs => ?_);let ⟨JV,hoc,hocd⟩:=id z;refine h { s with heap:=h' } ⟨I.ok,I.os,I.bare,⟨λb o e n hb hx => ?_,λb o e n hb hx => ?_,I.base.free,λb o e hx => ?_,I.base.tups,I.base.frzs,I.base.tbls⟩,⟨m,hn.sameBut hs (Ne.symm (cne x c hc)),λj y v' e1 e2 e3 => ?_⟩,λy c' e => ?_,I.free,I.freeC,λp hp => ?_,tracked ⟨JV,hoc,I.freeC x c hc⟩ hs,by simpa using I.len⟩ ⟨c,hs,.inr hc⟩
  .exact (hs.2 b (HD (HC (Hx e) (I.ok.cab x c hfn hc)))).trans (I.base.keep b o e n hb hx)
  .obtain ⟨sl,e1⟩:=I.base.slot b o e n hb hx
   exact ⟨sl,(hs.2 b (HD (HC (Hx e) (I.ok.cab x c hfn hc)))).trans e1⟩
  .obtain ⟨o',e1⟩:=I.base.there b o e hx
   exact ⟨o',(hs.2 b (HD (HC (Hx e) (I.ok.cab x c hfn hc)))).trans e1⟩
  .by_cases hj:j=i
   .subst hj
    rw [hi] at e1;cases e1;rw [List.getElem?_set_self hiσ] at e2;cases e2;exact ⟨u,r,.inr ⟨.inl hk,c,hc,hc'⟩⟩
   .rw [List.getElem?_set_ne (Ne.symm hj)] at e2
    let ⟨u',r',q⟩:=hl j y v' e1 e2 e3;refine ⟨u',r',?_⟩;rcases q with q | ⟨k,c',e,z'⟩
    .exact .inl q
    .refine .inr ⟨k,c',e,z'.sameBut hs ?_⟩
     rintro rfl;exact hj (jD hN e1 (I.ok.inj _ _ _ e hc ▸ hi))
  .by_cases hcc:c'=c
   .subst hcc;exact ⟨_,hc'⟩
   .obtain ⟨w2,z2⟩:=I.cell y c' e
    exact ⟨w2,z2.sameBut hs hcc⟩
  .obtain ⟨e,n,ne,nf,d⟩:=I.pin p hp
   refine ⟨(hs.2 p.1 ?_).trans e,n,ne,nf,d⟩;intro q;rw [q,hoc] at e;have q':JV=p.2:=Option.some.inj e;exact d w' (by rw [<-q'];exact hocd)
def eB{E:Value->Shared->Prop}{v:V}{u:Value}{Q:Unit->Shared->Prop}(I:Inv X pins σ H s)(hN:X.N.Nodup)(hi:X.N[i]? = some x)(hx:Loc X.env.scope x)(r:RelV v u)
  (h:∀ s',Inv X pins (σ.set i (some v)) H s'->Q .unit s') (hf:X.fn x=true\/X.env.scope.names.lookup x=some .local:=by first | exact .inl rfl | exact .inr rfl | assumption):wpAny M A (storeName X.env x u) Q E s :=
 fQ I hN hi hx r (λs' I' _=>h s' I') hf
def Inv.call'{s':Shared}{ch:List Addr}(I:Inv X pins σ H s)(ho:s'.os=s.os)(u:Un (frs X.stack) ch H H' s.heap s'.heap)(hok:HOk X.prog X.w H' s'.heap)(hg:AllBare s'.gens)
  (hch:∀ b∈ch,(b∈X.ex\/X.s₀.heap.objs.size<=b)/\b≠X.env.locals/\(∀ x c,X.env.cells.lookup x=some c->c≠b) /\ ∀ p∈X.pn++pins,p.1≠b):Inv X pins σ H' s':=by
 let ⟨h',g',d',t',o'⟩:=s';have e:o'=s.os:=ho;subst e;exact I.call (g':=g') (t':=t') (d':=d') u hok hg hch
end
abbrev XK:=Value->Option Addr->Hp->Prop
abbrev St:=List (Option V)
abbrev VK:=V->Hp->Prop
abbrev TE:=St->Hp->VK->Prop
abbrev TT:=St->Hp->(Bool->Hp->Prop)->Prop
abbrev TA:=St->Hp->(List V->Hp->Prop)->Prop
set_option genInjectivity false in
structure Ends where
 nx:St->Hp->Prop
 rt:VK
 bk:St->Hp->Prop:=λ_ _=>False
 ct:St->Hp->Prop:=λ_ _=>False
abbrev TS:=Ends->St->Hp->Prop
inductive EP(X:Cx)(pins:List (Addr×Obj))(σ:St)(Q:VK)(u:Value)(s':Shared):Prop
 | mk:∀ v H',Inv X pins σ H' s'->RelV v u->Q v H'->EP X pins σ Q u s'
inductive TP(X:Cx)(pins:List (Addr×Obj))(σ:St)(Q:Bool->Hp->Prop)(b:Bool)(s':Shared):Prop
 | mk:∀ H',Inv X pins σ H' s'->Q b H'->TP X pins σ Q b s'
inductive AP(X:Cx)(pins:List (Addr×Obj))(σ:St)(Q:List V->Hp->Prop)(us:List Value)(s':Shared):Prop
 | mk:∀ vs H',Inv X pins σ H' s'->Vals vs us->Q vs H'->AP X pins σ Q us s'
def SP(X:Cx)(pins:List (Addr×Obj))(D:Ends)(f:Flow)(s':Shared):Prop :=
 match f with
 | .next => ∃ σ' H',Inv X pins σ' H' s'/\D.nx σ' H'
 | .brk => ∃ σ' H',Inv X pins σ' H' s'/\D.bk σ' H'
 | .cont => ∃ σ' H',Inv X pins σ' H' s'/\D.ct σ' H'
 | .ret u => ∃ v σ' H',Inv X pins σ' H' s'/\RelV v u/\D.rt v H'
def PE(X:Cx)(e:Expr)(t:TE):Prop :=
 ∀ (pins:List (Addr×Obj)) (s:Shared) (σ:St) (H:Hp) (Q:VK),Inv X pins σ H s->t σ H Q->wpAny #[5] X.A (eval e X.env) #[17] X.xe s
def PT(X:Cx)(e:Expr)(t:TT):Prop :=
 ∀ (pins:List (Addr×Obj)) (s:Shared) (σ:St) (H:Hp) (Q:Bool->Hp->Prop),Inv X pins σ H s->t σ H Q->wpAny #[5] X.A (isTrue e X.env (eval e X.env)) (TP X pins σ Q) X.xe s
def PW(X:Cx)(e:Expr)(t:TT):Prop :=
 ∀ (whole:Sem Value) (pins:List (Addr×Obj)) (s:Shared) (σ:St) (H:Hp) (Q:Bool->Hp->Prop),Inv X pins σ H s->t σ H Q->wpAny #[5] X.A (isTrue e X.env whole) (TP X pins σ Q) X.xe s
def PW.pt{X:Cx}{t:TT}(h:PW X e t):PT X e t:=h _
def PA(X:Cx)(es:List Expr)(t:TA):Prop :=
 ∀ (pos:Pos) (pins:List (Addr×Obj)) (s:Shared) (σ:St) (H:Hp) (Q:List V->Hp->Prop),Inv X pins σ H s->t σ H Q->wpAny #[5] X.A (spliced #[11]) (AP X pins σ Q) X.xe s
def PS(X:Cx)(st:Stmt)(t:TS):Prop :=
 ∀ (pins:List (Addr×Obj)) (s:Shared) (σ:St) (H:Hp) (D:Ends),Inv X pins σ H s->t D σ H->wpAny #[5] X.A (exec st X.env) (SP X pins D) X.xe s
def PSs(X:Cx)(st:List Stmt)(t:TS):Prop :=
 ∀ (pins:List (Addr×Obj)) (s:Shared) (σ:St) (H:Hp) (D:Ends),Inv X pins σ H s->t D σ H->wpAny #[5] X.A (execs st X.env) (SP X pins D) X.xe s
def thn{t:Sem α}{Q Q':α->Shared->Prop}{E:Value->Shared->Prop}{s:Shared}(h:wpAny M A t Q E s)(hQ:∀ a s,Q a s->Q' a s):wpAny M A t Q' E s:=wpAny_mono h hQ λ_ _ x=>x
end L2
variable{X:L2.Cx}{σ:L2.St}{ta te:L2.TE}
namespace L2
open PySem PySem.Spec PyProof.Rows
section
def Ig(i:Nat):TE:=λσ H Q => ∃ v,σ[i]? = some (some v)/\Q v H
def Ih(v:V):TE:=λ_ H Q=>Q v H
def aaE(hN:X.N[i]? = some x)(hv:Vis X.env.scope x)(hd:(x == ("__debug__" : Str))=false:=by decide)(hcd:(x == ("__classdict__" : Str))=false:=by decide):PE X (.Name x pos) (Ig i):=by
 intro pins s σ H Q I h;let ⟨v,e,h⟩:=h;let ⟨m,hn,hl⟩:=I.loc;let ⟨u,r,l⟩:=hl i x v hN e hv;have fin:EP X pins σ Q u s:=⟨v,H,I,r,h⟩;rcases l with ⟨hk,hm⟩ | ⟨hk,c,hc,hcell⟩
 .exact wpAny_Name (wpAny_loadName_local I.ok.kind hk hn hm fin) hd
 .rcases hk with hk | hk
  .exact wpAny_Name (wpAny_loadName_cell I.ok.kind hk hc hcell fin) hd
  .exact wpAny_Name (wpAny_loadName_free I.ok.kind hk hc hcell fin hcd) hd
def om{i j pos}:PE X (.Constant (.int i) j pos) (Ih (.int i)):=λ_ _ _ H _ I h=>wpAny_Constant_int ⟨.int i,H,I.tok _,⟨_,rfl⟩,h⟩
def acY{b j pos}:PE X (.Constant (.bool b) j pos) (Ih (.bl b)):=λ_ _ _ H _ I h=>Constant_bool ⟨.bl b,H,I,rfl,h⟩
def abA{j pos}:PE X (.Constant .none j pos) (Ih .non):=λ_ _ _ H _ I h=>Constant_none ⟨.non,H,I,rfl,h⟩
def nF{x j pos}:PE X (.Constant (.str x) j pos) (Ih (.str x)):=λ_ _ _ H _ I h=>Calls.Constant_str ⟨.str x,H,I.tok _,⟨_,rfl⟩,h⟩
def Gl(X:Cx)(x:Str):Prop:=X.env.kindOf x=some .globalImplicit
def cv{E:Value->Shared->Prop}{u:Value}{Q:Value->Shared->Prop}(I:Inv X pins σ H s)(hg:Gl X x)(hm:X.mg x=some u)(h:Q u s)
  (hd:(x == ("__debug__" : Str))=false:=by decide):wpAny #[5] X.A (eval (.Name x pos) X.env) Q E s :=
 Calls.Name_function_global I.ok.kind hg (Calls.loadGlobal_global (by rw [I.ok.glob];exact I.mod.glob.keeps I.bk) hm h) hd
def bO{E:Value->Shared->Prop}{u:Value}{Q:Value->Shared->Prop}(I:Inv X pins σ H s)(hg:Gl X x)(hm:X.mg x=none)(hv:bootBuiltins x=some u)(h:Q u s)
  (hn:x ≠ "__name__" := by decide) (hd:(x == ("__debug__" : Str))=false:=by decide):wpAny #[5] X.A (eval (.Name x pos) X.env) Q E s:=by
 let ⟨mb,h1,h2⟩:=I.mod.blt;exact Calls.Name_function_global I.ok.kind hg (Calls.loadGlobal_builtin (by rw [I.ok.glob];exact I.mod.glob.keeps I.bk) hm (by rw [I.ok.blt];exact h1.keeps I.bk) ((h2 x hn).trans hv) h) hd
def xC{v:V}{u:Value}(hg:Gl X x)(hm:X.mg x=some u)(r:RelV v u)(hd:(x == ("__debug__" : Str))=false:=by decide):PE X (.Name x pos) (Ih v) :=
 λ_ _ _ H _ I h=>cv I hg hm ⟨v,H,I,r,h⟩ hd
def xo{v:V}{u:Value}(hg:Gl X x)(hm:X.mg x=none)(hv:bootBuiltins x=some u)(r:RelV v u)(hn:x ≠ "__name__" := by decide)(hd:(x == ("__debug__" : Str))=false:=by decide):PE X (.Name x pos) (Ih v) :=
 λ_ _ _ H _ I h=>bO I hg hm hv ⟨v,H,I,r,h⟩ hn hd
variable{a b:Expr}{tb:TE}
variable{tA tB':TT}{rest:List Expr}
def Ii(t u:TT):TT:=λσ H Q=>t σ H λc H1=>if c=true then u σ H1 Q else Q false H1
def Ij(t u:TT):TT:=λσ H Q=>t σ H λc H1=>if c=true then Q true H1 else u σ H1 Q
def Ik(t:TT):TT:=λσ H Q=>t σ H λc H1=>Q (!c) H1
def yQ(ha:PT X a tA):PW X (.BoolOp .And [a] pos) tA:=by
 intro wh pins s σ H Q I h;refine isTrue_and (thn (ha pins s σ H Q I h) λc s1 e => ?_);cases c with
 | true=>exact isTrue_and_nil e
 | false=>exact e
def aaX(ha:PT X a tA):PW X (.BoolOp .Or [a] pos) tA:=by
 intro wh pins s σ H Q I h;refine isTrue_or (thn (ha pins s σ H Q I h) λc s1 e => ?_);cases c with
 | false=>exact isTrue_or_nil e
 | true=>exact e
def zS(ha:PT X a tA)(hb:PW X (.BoolOp .And (b :: rest) pos) tB'):PW X (.BoolOp .And (a :: b :: rest) pos) (Ii tA tB'):=by
 intro wh pins s σ H Q I h;refine isTrue_and (thn (ha pins s σ H _ I h) ?_);rintro c s1 ⟨H1,I1,q1⟩;cases c with
 | true=>exact hb wh pins s1 σ H1 Q I1 q1
 | false=>exact ⟨H1,I1,q1⟩
def acE(ha:PT X a tA)(hb:PW X (.BoolOp .Or (b :: rest) pos) tB'):PW X (.BoolOp .Or (a :: b :: rest) pos) (Ij tA tB'):=by
 intro wh pins s σ H Q I h;refine isTrue_or (thn (ha pins s σ H _ I h) ?_);rintro c s1 ⟨H1,I1,q1⟩;cases c with
 | true=>exact ⟨H1,I1,q1⟩
 | false=>exact hb wh pins s1 σ H1 Q I1 q1
def ach(ha:PT X a tA):PT X (.UnaryOp .Not a pos) (Ik tA):=by
 intro pins s σ H Q I h;exact isTrue_not (thn (ha pins s σ H (λc H1=>Q (!c) H1) I h) λ_ _ ⟨H1,I1,q⟩=>⟨H1,I1,q⟩)
def Hh(ta tb:TE):TE:=λσ H Q=>ta σ H λx H1 => ∃ c,x=.bl c/\if c=true then tb σ H1 Q else Q (.bl false) H1
def Il(ta tb:TE):TE:=λσ H Q=>ta σ H λx H1 => ∃ c,x=.bl c/\if c=true then Q (.bl true) H1 else tb σ H1 Q
def abj{op}{t:TE}(h:PE X a t):PE X (.BoolOp op [a] pos) t:=λpins s σ H Q I hw=>BoolOp_one (h pins s σ H Q I hw)
def aa2(ha:PE X a ta)(hb:PE X (.BoolOp .And (b :: rest) pos) tb):PE X (.BoolOp .And (a :: b :: rest) pos) (Hh ta tb):=by
 intro pins s σ H Q I h;refine BoolOp_and (thn (ha pins s σ H _ I h) ?_);rintro v s1 ⟨x,H1,I1,r1,q1⟩;let ⟨c,rfl,q1⟩:=q1;cases r1;refine wpAny_truthy_bool ?_;cases c with
 | true=>exact hb pins s1 σ H1 Q I1 q1
 | false=>exact ⟨.bl false,H1,I1,rfl,q1⟩
def acr(ha:PE X a ta)(hb:PE X (.BoolOp .Or (b :: rest) pos) tb):PE X (.BoolOp .Or (a :: b :: rest) pos) (Il ta tb):=by
 intro pins s σ H Q I h;refine BoolOp_or (thn (ha pins s σ H _ I h) ?_);rintro v s1 ⟨x,H1,I1,r1,q1⟩;let ⟨c,rfl,q1⟩:=q1;cases r1;refine wpAny_truthy_bool ?_;cases c with
 | false=>exact hb pins s1 σ H1 Q I1 q1
 | true=>exact ⟨.bl true,H1,I1,rfl,q1⟩
end
end L2
namespace L2
open PySem PySem.Spec PyProof.Rows
def SqL(K:HG)(H:Hp)(a:Addr)(xs:List V):Prop :=
 Rd H a (.lst xs) \/
  ∃ (o:Obj) (its:Array Value) (n:Nat),K.lookup a=some o/\o.cls=.type "list" /\ o.dict=none/\o.data=.seq its n/\its.size<=sizeLine/\Vals xs its.toList
def SqT(K:HG)(H:Hp)(a:Addr)(xs:List V):Prop :=
 Rd H a (.tup xs) \/
  ∃ (o:Obj) (its:Array Value) (n:Nat),K.lookup a=some o/\o.cls=.type "tuple" /\ o.data=.seq its n/\its.size<=sizeLine/\Vals xs its.toList
def Im:Value->Option V
 | .none=>some .non
 | .bool b=>some (.bl b)
 | .int i _=>some (.int i)
 | .str x _=>some (.str x)
 | .bytes b _=>some (.byt b)
 | .float b _=>some (.flt b)
 | .ref a=>some (.ref a)
 | .type n=>some (.ty n)
 | _=>none
def RelV.abs{x:V}{u:Value}(r:RelV x u):Im u=some x:=by
 cases x with
 | non=>cases r;rfl
 | bl _=>cases r;rfl
 | int _=>let ⟨t,rfl⟩:=r;rfl
 | str _=>let ⟨t,rfl⟩:=r;rfl
 | byt _=>let ⟨t,rfl⟩:=r;rfl
 | flt _=>let ⟨t,rfl⟩:=r;rfl
 | ref _=>cases r;rfl
 | ty _=>cases r;rfl
def RelV.inj{x y:V}{u:Value}(r:RelV x u)(q:RelV y u):x=y:=Option.some.inj (r.abs.symm.trans q.abs)
def Vals.inj:∀ {xs ys:List V} {us:List Value},Vals xs us->Vals ys us->xs=ys
 | _,_,_,.nil,.nil=>rfl
 | _,_,_,.cons r t,.cons r' t'=>by rw [r.inj r',Vals.inj t t']
section
variable{xs ys:List V}
def SqL.of(h:H a=some (.lst xs)):SqL K H a xs := .inl (.inl h)
def SqT.of(h:H a=some (.tup xs)):SqT K H a xs := .inl (.inl h)
def Inv.list(I:Inv X pins σ H s)(h:SqL X.K H a xs):∃ its:List Value,Vals xs its/\PlainL s.heap a its.toArray/\xs.length<=sizeLine:=by
 rcases h with h | ⟨o,its,n,hk,hc,hd,hs,hz,r⟩
 .obtain ⟨z,its,n,r,e⟩:=h.ok I.hok
  exact ⟨its,r,⟨_,n,e,rfl,rfl,rfl⟩,z⟩
 .refine ⟨its.toList,r,⟨o,n,I.kIn a o hk,hc,hd,by simpa using hs⟩,?_⟩
  have e:=r.length;simp! [Array.length_toList] at e;omega
def Inv.tuple(I:Inv X pins σ H s)(h:SqT X.K H a xs):∃ its:List Value,Vals xs its/\IsTup s.heap a its.toArray/\xs.length<=sizeLine:=by
 rcases h with h | ⟨o,its,n,hk,hc,hs,hz,r⟩
 .obtain ⟨z,its,r,p⟩:=h.ok I.hok
  exact ⟨its,r,p,z⟩
 .refine ⟨its.toList,r,⟨o,I.kIn a o hk,hc,n,by simpa using hs⟩,?_⟩
  have e:=r.length;simp! [Array.length_toList] at e;omega
def Inv.list_inj(I:Inv X pins σ H s)(h:SqL X.K H a xs)(h':SqL X.K H a ys):xs=ys:=by
 let ⟨its,r,⟨o,n,e,_,_,d⟩,_⟩:=I.list h;let ⟨its',r',⟨o',n',e',_,_,d'⟩,_⟩:=I.list h';rw [e] at e';cases e';rw [d] at d';injection d' with d1 _
 have:its=its':=by simpa using congrArg Array.toList d1
 subst this;exact r.inj r'
def Inv.tuple_inj(I:Inv X pins σ H s)(h:SqT X.K H a xs)(h':SqT X.K H a ys):xs=ys:=by
 let ⟨its,r,⟨o,e,_,n,d⟩,_⟩:=I.tuple h;let ⟨its',r',⟨o',e',_,n',d'⟩,_⟩:=I.tuple h';rw [e] at e';cases e';rw [d] at d';injection d' with d1 _
 have:its=its':=by simpa using congrArg Array.toList d1
 subst this;exact r.inj r'
end
abbrev Cx.wish(X:Cx)(E:Value->Shared->Prop):Cx:={ X with xe:=E }
abbrev Cx.nox(X:Cx):Cx:=X.wish λ_ _=>False
def Cx.Ok.wish{X:Cx}(ok:X.Ok)(E:Value->Shared->Prop):(X.wish E).Ok :=
 ⟨ok.mod,ok.kind,ok.glob,ok.blt,ok.above,ok.inj,ok.has,ok.cab,ok.hd,ok.frames,ok.stk,ok.exf,ok.bs,ok.bsz,ok.noex,ok.exfs,ok.funs,ok.frf⟩
def Cx.Ok.unwish{E:Value->Shared->Prop}(ok:(X.wish E).Ok):X.Ok :=
 ⟨ok.mod,ok.kind,ok.glob,ok.blt,ok.above,ok.inj,ok.has,ok.cab,ok.hd,ok.frames,ok.stk,ok.exf,ok.bs,ok.bsz,ok.noex,ok.exfs,ok.funs,ok.frf⟩
section
variable{E:Value->Shared->Prop}
def Inv.wish(I:Inv X pins σ H s)(E:Value->Shared->Prop):Inv (X.wish E) pins σ H s:=⟨I.ok.wish E,I.os,I.bare,I.base,I.loc,I.cell,I.free,I.freeC,I.pin,I.hok,I.len⟩
def Inv.unwish(I:Inv (X.wish E) pins σ H s):Inv X pins σ H s:=⟨I.ok.unwish,I.os,I.bare,I.base,I.loc,I.cell,I.free,I.freeC,I.pin,I.hok,I.len⟩
def SP.unwish{D:Ends}{f:Flow}{s':Shared}(h:SP (X.wish E) pins D f s'):SP X pins D f s':=by
 cases f with
 | next=>let ⟨σ',H',I,q⟩:=h;exact ⟨σ',H',I.unwish,q⟩
 | brk=>let ⟨σ',H',I,q⟩:=h;exact ⟨σ',H',I.unwish,q⟩
 | cont=>let ⟨σ',H',I,q⟩:=h;exact ⟨σ',H',I.unwish,q⟩
 | ret u=>let ⟨v,σ',H',I,r,q⟩:=h;exact ⟨v,σ',H',I.unwish,r,q⟩
def PSs.nox{st:List Stmt}{t:TS}(h:PSs X.nox st t):PSs X st t:=λpins s σ H D I hw =>
 wpAny_mono (h pins s σ H D (I.wish _) hw) (λ_ _ q=>q.unwish) λ_ _ z=>False.elim z
end
section
variable{st:Stmt}{rest:List Stmt}{t u:TS}
def G9:TS:=λD σ H=>D.nx σ H
def Io(t u:TS):TS:=λD σ H=>t { D with nx:=u D } σ H
def yR:PSs X [] G9:=λ_ _ σ H _ I h=>wpAny_execs_nil ⟨σ,H,I,h⟩
def xc(h1:PS X st t)(h2:PSs X rest u):PSs X (st :: rest) (Io t u):=by
 intro pins s σ H D I h;refine wpAny_execs_cons (thn (h1 pins s σ H { D with nx:=u D } I h) λf s1 q => ?_)
 cases f with
 | next =>
  let ⟨σ',H',I',q⟩:=q;exact h2 pins s1 σ' H' D I' q
 | ret v=>exact q
 | brk=>exact q
 | cont=>exact q
def Inv.quiet(I:Inv X pins σ H s):interactive X.env=false:=by simp [interactive,I.ok.kind]
def G8(te:TE):TS:=λD σ H=>te σ H λ_ H1=>D.nx σ H1
def xt(he:PE X e te)(hs:swapsWith e none pos.line X.env=pure false:=by rfl):PS X (.Expr e pos) (G8 te):=by
 intro pins s σ H D I h;exact wpAny_Expr_any (thn (he pins s σ H _ I h) λv s1 ⟨x,H1,I1,r1,q1⟩=>⟨σ,H1,I1,q1⟩) I.quiet hs
def Ip(te:TE):TS:=λD σ H=>te σ H D.rt
def aak(he:PE X e te):PS X (.Return (some e) pos) (Ip te):=by
 intro pins s σ H D I h;exact wpAny_Return_some (thn (he pins s σ H _ I h) λv s1 ⟨x,H1,I1,r1,q1⟩=>⟨x,σ,H1,I1,r1,q1⟩)
def Iq(c:TT)(t u:TS):TS:=λD σ H=>c σ H λb H1=>if b=true then t D σ H1 else u D σ H1
def ada{c:Expr}{a b:List Stmt}{tc:TT}(hc:PT X c tc)(ha:PSs X a t)(hb:PSs X b u):PS X (.If c a b pos) (Iq tc t u):=by
 intro pins s σ H D I h;refine wpAny_If (thn (hc pins s σ H _ I h) ?_);rintro d s1 ⟨H1,I1,q1⟩;cases d with
 | true=>exact ha pins s1 σ H1 D I1 q1
 | false=>exact hb pins s1 σ H1 D I1 q1
end
abbrev TG:=V->St->Hp->(St->Hp->Prop)->Prop
abbrev TGs:=List V->St->Hp->(St->Hp->Prop)->Prop
def PG(X:Cx)(target:Expr)(t:TG):Prop :=
 ∀ (pins:List (Addr×Obj)) (s:Shared) (σ:St) (H:Hp) (v:V) (u:Value) (Q:St->Hp->Prop),Inv X pins σ H s->RelV v u->t v σ H Q ->
  wpAny #[5] X.A (assign target X.env u) (λ_ s' => ∃ σ' H',Inv X pins σ' H' s'/\Q σ' H') X.xe s
def PGs(X:Cx)(ts:List Expr)(t:TGs):Prop :=
 ∀ (pins:List (Addr×Obj)) (s:Shared) (σ:St) (H:Hp) (vs:List V) (us:List Value) (Q:St->Hp->Prop),Inv X pins σ H s->Vals vs us->t vs σ H Q ->
  wpAny #[5] X.A (assignInOrder ((assignEach ts X.env).map (·.2)) us) (λ_ s' => ∃ σ' H',Inv X pins σ' H' s'/\Q σ' H') X.xe s
abbrev CO:=V->V->V->Hp->(Hp->Prop)->Prop
def Cn(X:Cx)(t:CO):Prop :=
 ∀ (pins:List (Addr×Obj)) (s:Shared) (σ:St) (H:Hp) (o i v:V) (ov iv u:Value) (Q:Hp->Prop),Inv X pins σ H s->RelV o ov->RelV i iv->RelV v u->t o i v H Q ->
  wpAny #[5] X.A (setItem ov iv u) (λ_ s' => ∃ H',Inv X pins σ H' s'/\Q H') X.xe s
section
def FP(i:Nat):TG:=λv σ H Q=>Q (σ.set i (some v)) H
def ko(hN:X.N.Nodup)(hi:X.N[i]? = some x)(hx:Loc X.env.scope x)(hf:X.fn x=true\/X.env.scope.names.lookup x=some .local:=by first | exact .inl rfl | exact .inr rfl | assumption):PG X (.Name x pos) (FP i):=by
 intro pins s σ H v u Q I r h;exact wpAny_assign_Name (eB I hN hi hx r (λs' I'=>⟨_,H,I',h⟩) hf)
def gNil:TGs:=λvs σ H Q=>vs=[]/\Q σ H
def Hd(t:TG)(u:TGs):TGs:=λvs σ H Q => ∃ v r,vs=v :: r/\t v σ H λσ' H'=>u r σ' H' Q
def x8:PGs X [] gNil:=by
 intro pins s σ H vs us Q I r h;let ⟨e,h⟩:=h;subst e;cases r;exact assignInOrder_nil ⟨σ,H,I,h⟩
def wa{t:TG}{u:TGs}(h1:PG X e t)(h2:PGs X es u)
  (hs:(assignEach (e :: es) X.env).map (·.2)=assign e X.env :: (assignEach es X.env).map (·.2):=by rfl):PGs X (e :: es) (Hd t u):=by
 intro pins s σ H vs us Q I r h;let ⟨v,vr,e1,h⟩:=h;subst e1;cases r with
 | cons r rr =>
  rw [hs];refine assignInOrder_cons (thn (h1 pins s σ H _ _ _ I r h) ?_);rintro _ s1 ⟨σ1,H1,I1,q1⟩;exact h2 pins s1 σ1 H1 _ _ Q I1 rr q1
def Ir(K:HG)(n:Nat)(t:TGs):TG:=λv σ H Q => ∃ a xs,v=.ref a/\SqT K H a xs/\xs.length=n/\t xs σ H Q
def aaV{k:Nat}{t:TGs}(hc:X.calm=true)(h:PGs X es t)
  (hn:(assignEach es X.env).length=n:=by rfl) (hst:(assignEach es X.env).findIdx? (·.1)=none:=by rfl):PG X (.Tuple es k pos) (Ir X.K n t):=by
 intro pins s σ H v u Q I r hw;let ⟨a,xs,e1,hq,hl,hw⟩:=hw;subst e1;cases r;let ⟨its,rv,ht,hz⟩:=I.tuple hq;refine assign_Tuple_tuple #[34] ht (by simp [hn,<-hl,rv.length]) hst λh' hx => ?_
 have I1:Inv X pins σ H { s with heap:=h' }:=I.kept (t':=s.toks) λb o e=>hx b o (HD (Hx e)) e
 exact h pins _ σ H xs _ Q I1 (by simpa using rv) hw
def Iu(to ti:TE)(t:CO):TG:=λv σ H Q=>to σ H λo H1=>ti σ H1 λi H2=>t o i v H2 λH3=>Q σ H3
def zT{i:Expr}{to ti:TE}{t:CO}(ho:PE X o to)(hi:PE X i ti)(hs:Cn X t)
  (ha:∀ v,assign (.Subscript o i pos) X.env v=(do
   let ov <- holding [v] #[38]
   let iv <- holding [v,ov] (eval i X.env)
   standAt pos
   holding [v,ov,iv] (setItem ov iv v)
   release [v,ov,iv] []):=by intro _;rfl):PG X (.Subscript o i pos) (Iu to ti t):=by
 intro pins s σ H v u Q I r h;rw [ha];refine ZB (wpAny_holding (thn (ho pins s σ H _ I h) ?_));rintro ov s1 ⟨x,H1,I1,r1,q1⟩;refine ZB (wpAny_holding (thn (hi pins s1 σ H1 _ I1 q1) ?_));rintro iv s2 ⟨y,H2,I2,r2,q2⟩;refine ZB (wpAny_standAt (ZB (wpAny_holding (thn (hs pins s2 σ H2 x y v ov iv u _ I2 r1 r2 r q2) ?_))));rintro _ s3 ⟨H3,I3,q3⟩;exact wpAny_release ⟨σ,H3,I3,q3⟩
def FY(te:TE)(g:TG):TS:=λD σ H=>te σ H λx H1=>g x σ H1 D.nx
def pB{g:TG}(he:PE X e te)(hg:PG X tg g)(hs:swapsWithSole [tg] e pos.line X.env=pure false:=by rfl)(hw:swappedStores [tg] e X.env=pure none:=by rfl)
  (h1:(assignEach [tg] X.env).map (·.2)=[assign tg X.env]:=by rfl):PS X (.Assign [tg] e pos) (FY te g):=by
 intro pins s σ H D I h;refine wpAny_Assign_stores (thn (he pins s σ H _ I h) λv s1 ⟨x,H1,I1,r1,q1⟩ => ?_) hs hw;rw [h1];exact thn (hg pins s1 σ H1 x v _ I1 r1 q1) λ_ s2 q=>q
def abf(hN:X.N.Nodup)(hi:X.N[i]? = some x)(hx:Loc X.env.scope x)(he:PE X e te)(hs:swapsWith e (some (.Name x pos')) pos.line X.env=pure false:=by rfl)(hf:X.fn x=true\/X.env.scope.names.lookup x=some .local:=by first | exact .inl rfl | exact .inr rfl | assumption):
  PS X (.Assign [.Name x pos'] e pos) (FY te (FP i)):=by
 intro pins s σ H D I h;refine wpAny_Assign_Name (thn (he pins s σ H _ I h) λv s1 ⟨y,H1,I1,r1,q1⟩ => ?_) hs;exact eB I1 hN hi hx r1 (λs2 I2=>⟨_,H1,I2,q1⟩) hf
def Iv(i j:Nat)(ta:TA):TS:=λD σ H=>ta σ H λvs H1 => ∃ v w,vs=[v,w]/\D.nx ((σ.set i (some v)).set j (some w)) H1
def zZ{y:Str}{a b:Expr}{ta:TA}{px py pt:Pos}{kt k2 pt2}(hc:X.calm=true)(hN:X.N.Nodup)(hi:X.N[i]? = some x)(hj:X.N[j]? = some y)(hij:i≠j)
  (hx:X.env.scope.names.lookup x=some .local) (hy:X.env.scope.names.lookup y=some .local) (ha:PA X [a,b] ta)
  (hw:swappedStores [.Tuple [.Name x px,.Name y py] kt pt] (.Tuple [a,b] k2 pt2) X.env=pure (some [x,y]))
  (hs:swapsWithSole [.Tuple [.Name x px,.Name y py] kt pt] (.Tuple [a,b] k2 pt2) pos.line X.env=pure false:=by rfl) :
  PS X (.Assign [.Tuple [.Name x px,.Name y py] kt pt] (.Tuple [a,b] k2 pt2) pos) (Iv i j ta):=by
 intro pins s σ H D I h;rw [exec_Assign_arm];refine ZB (wpAny_standAt ?_);rw [hs];refine ZB (ZP ?_);rw [if_neg #[1]]
 refine ZB (Tuple_ (thn (ha _ pins s σ H _ I h) ?_));rintro us s1 ⟨vs,H1,I1,r1,q1⟩;let ⟨v,w,e1,q1⟩:=q1;subst e1;obtain ⟨u1,u2,rfl,rv,rw'⟩:∃ u1 u2,us=[u1,u2]/\RelV v u1/\RelV w u2:=by
  cases r1 with
  | cons p q =>
   cases q with
   | cons p' q' =>
    cases q';exact ⟨_,_,rfl,p,p'⟩
 refine wpAny_newObj_type ?_ (by show 2<=sizeLine;decide)
 have I2:Inv X pins σ H1 { s1 with heap:=s1.heap.push { cls := .type "tuple",data := .seq [u1,u2].toArray } }:=I1.kept (t':=s1.toks) λb o e=>Hw _ e
 rw [hw];refine ZB (ZP ?_);show wpAny #[5] X.A (do rule "assign.swapped-stores";let items <- unpackItems (.ref s1.heap.objs.size) 2 none;assignInOrder [λv=>bindName X.env y v,λv=>bindName X.env x v] items.reverse;pure Flow.next) _ _ _
 refine ZB (wpAny_rule (ZB (unpackItems_tuple (items := #[u1,u2]) #[34] (IsTup.new s1.heap _) λh' hx' => ?_)));have I3:=I2.kept (h':=h') (t':=s1.toks) λb o e=>hx' b o (HD (Hx e)) e;show wpAny _ _ (assignInOrder [λv=>bindName X.env y v,λv=>bindName X.env x v] [u2,u1] >>= λ_=>pure Flow.next) _ _ _;refine ZB (assignInOrder_cons (wpAny_bindName (eB I3 hN hj (.inl hy) rw' (λs2 I4 => ?_) (.inr hy))));refine assignInOrder_cons (wpAny_bindName (eB I4 hN hi (.inl hx) rv (λs3 I5=>assignInOrder_nil (ZP ?_)) (.inr hx)));rw [List.set_comm _ _ (Ne.symm hij)] at I5;exact ⟨_,H1,I5,q1⟩
end
set_option genInjectivity false in
structure It where
 go:Nat->Hp->Prop
 yld:Nat->Hp->V->Hp->Prop
 stop:Nat->Hp->Prop
def AI(X:Cx)(pins:List (Addr×Obj))(H:Hp)(b:Addr):Prop :=
 H b=none/\b≠X.env.locals/\b ∉ X.fs/\(b∈X.ex\/X.s₀.heap.objs.size<=b)/\(∀ x c,X.env.cells.lookup x=some c->c≠b) /\ ∀ p∈X.pn++pins,p.1≠b
def Inv.fpOk{b:Addr}(I:Inv X pins σ H s)(hb:s.heap.objs.size<=b)(hn:H' b=none):AI X pins H' b:=by
 refine ⟨hn,Nat.ne_of_gt (HC I.lt hb),I.nofs hb,.inr (Hy I.sz hb),λx c e z => ?_,λp hp z => ?_⟩
 .obtain ⟨v,q⟩:=I.cell x c e
  exact absurd (HC q.lt (by rw [z];exact hb)) (Nat.lt_irrefl _)
 .exact absurd (HC (Hx (I.pin p hp).1) (by rw [z];exact hb)) (Nat.lt_irrefl _)
structure Turn(P:Program)(w:World)(K:HG)(tg:Expr)(J:It)(fp:List Addr)(it:Addr)(tn:Nat->Heap->Prop):Prop where
 mem:it∈fp
 obj:∀ i h,tn i h -> ∀ b∈fp,∃ o,h.get? b=some o /\ ∀ v,o.data ≠ .cell v
 keep:∀ i h h',tn i h->(∀ b∈fp,∀ o,h.get? b=some o->h'.get? b=some o)->tn i h'
 item:∀ (X:Cx),X.prog=P->X.w=w->X.K=K->X.calm=true -> ∀ (i:Nat) (pins:List (Addr×Obj)) (s:Shared) (σ:St) (H:Hp) (E:Value->Shared->Prop),Inv X pins σ H s->(∀ b∈fp,AI X pins H b)->tn i s.heap->J.go i H ->
  wpAny (model P w) X.A (pyNext (.ref it)) (λr s1 => ∃ u,r=some u /\
   wpAny (model P w) X.A (letOwnedTupleGo tg (.ref it) u) (λ_ s2 => ∃ x H',Inv X pins σ H' s2/\RelV x u/\J.yld i H x H'/\tn (i+1) s2.heap /\ ∀ b∈fp,H' b=none) E s1) E s
 done:∀ (X:Cx),X.prog=P->X.w=w->X.K=K->X.calm=true -> ∀ (i:Nat) (pins:List (Addr×Obj)) (s:Shared) (σ:St) (H:Hp) (E:Value->Shared->Prop),Inv X pins σ H s->(∀ b∈fp,AI X pins H b)->tn i s.heap->J.stop i H ->
  wpAny (model P w) X.A (pyNext (.ref it)) (λr s1=>r=none/\Inv X pins σ H s1) E s
 self:∀ (A:Around) (i:Nat) (s:Shared) (Q:Value->Shared->Prop) (E:Value->Shared->Prop),tn i s.heap->Q (.ref it) s->wpAny (model P w) A (pyIter (.ref it)) Q E s
abbrev TI:=St->Hp->(It->Hp->Prop)->Prop
def PIE(X:Cx)(pins:List (Addr×Obj))(σ:St)(tg:Expr)(R:It->Hp->Prop)(itv:Value)(s2:Shared):Prop :=
 ∃ (it:Addr) (fp:List Addr) (tn:Nat->Heap->Prop) (J:It) (H':Hp),itv=.ref it/\Inv X pins σ H' s2/\Turn X.prog X.w X.K tg J fp it tn/\tn 0 s2.heap/\(∀ b∈fp,AI X pins H' b)/\R J H'
def PI(X:Cx)(tg iter:Expr)(wi:TI):Prop :=
 ∀ (pins:List (Addr×Obj)) (s:Shared) (σ:St) (H:Hp) (R:It->Hp->Prop),Inv X pins σ H s->wi σ H R ->
  wpAny #[5] X.A (eval iter X.env) (λv s1=>wpAny #[5] X.A (pyIter v) (PIE X pins σ tg R) X.xe s1) X.xe s
def eW{E:Value->Shared->Prop}{it:Addr}{u:Value}{o:Obj}{n:String}{vs:Array Value}{Q:Unit->Shared->Prop}(ho:s.heap.get? it=some o)(hc:o.cls=.type n)(hd:o.data=.fields vs)
    (hn:["enumerate","zip","dict_itemiterator","dict_reverseitemiterator","odict_iterator","itertools.zip_longest","itertools.pairwise"].contains n=false) (hQ:Q .unit s):wpAny M A (letOwnedTupleGo tg (.ref it) u) Q E s:=by
  unfold letOwnedTupleGo;cases tg <;> first
    | exact ZP hQ
    | (cases u <;> first
        | exact ZP hQ
        | (refine ZB (wpAny_load ho ?_)
           rw [hc,hd];show wpAny M A (if (["enumerate","zip","dict_itemiterator","dict_reverseitemiterator","odict_iterator","itertools.zip_longest","itertools.pairwise"].contains n && vs[0]? == some (rawInt _))=true then _ else _) Q E s
           rw [if_neg (by intro h;rw [hn,Bool.false_and] at h;cases h)]
           exact ZP hQ))
def Itl(K:HG)(a:Addr):It :=
 ⟨λi H => ∃ xs x,SqL K H a xs/\xs[i]? = some x,λi H x H'=>H'=H /\ ∀ xs,SqL K H a xs->xs[i]? = some x,λi H => ∃ xs,SqL K H a xs/\xs.length<=i⟩
def Itt(K:HG)(a:Addr):It :=
 ⟨λi H => ∃ xs x,SqT K H a xs/\xs[i]? = some x,λi H x H'=>H'=H /\ ∀ xs,SqT K H a xs->xs[i]? = some x,λi H => ∃ xs,SqT K H a xs/\xs.length<=i⟩
def Itr(lo:Int)(n:Nat):It:=⟨λi _=>i < n,λi H x H'=>H'=H/\x=.int (lo+i),λi _=>n<=i⟩
def vN{P:Program}(a it:Addr):Turn P w K tg (Itl K a) [it] it (λi h=>h.IsListIter it a i) where
 mem:=by simp
 obj:=λi h st b hb=>by
  have e:b=it:=by simpa using hb
  subst e;let ⟨o,e,c,d⟩:=st;exact ⟨o,e,λv z=>by rw [d] at z;cases z⟩
 keep:=λi h h' st k=>st.at λo e=>k it #[3] o e
 item:=by
  intro X hP hw hK hc i pins s σ H E I hf st hg;subst hP hw hK;let ⟨xs,x,hq,hx⟩:=hg;let ⟨its,rv,p,hz⟩:=I.list hq;let ⟨u,hu,ru⟩:=rv.get hx;let ⟨f0,f1,f2,f3,f4,f5⟩:=hf it #[3]
  refine wpAny_pyNext_list_item st p.isList (x:=u) (by simpa using hu) λh' st' sb => ?_
  have I1:Inv X pins σ H { s with heap:=h' }:=I.turned (t':=s.toks) (λb o hb e=>(sb.2 b hb).trans e) f0 f1 f3 f4 f5
  let ⟨o,e,c,d⟩:=id st';exact ⟨u,rfl,eW (s:={ s with heap:=h' }) e c d #[1] ⟨x,H,I1,ru,⟨rfl,λys hy=>by rw [I.list_inj hy hq];exact hx⟩,st',λb hb=>(hf b hb).1⟩⟩
 done:=by
  intro X hP hw hK hc i pins s σ H E I hf st hg;subst hP hw hK;let ⟨xs,hq,hx⟩:=hg;let ⟨its,rv,p,hz⟩:=I.list hq;let ⟨f0,f1,f2,f3,f4,f5⟩:=hf it #[3]
  have hl:=rv.length;exact wpAny_pyNext_list_end #[34] st p.isList (by simp;omega) λh' eb=>⟨rfl,I.turned (t':=s.toks) (λb o hb e=>eb b o hb e) f0 f1 f3 f4 f5⟩
 self:=λ_ _ _ _ _ st h=>wpAny_pyIter_listiter st h
def uU{P:Program}(a it:Addr):Turn P w K tg (Itt K a) [it] it (λi h=>h.IsTupleIter it a i) where
 mem:=by simp
 obj:=λi h st b hb=>by
  have e:b=it:=by simpa using hb
  subst e;let ⟨o,e,c,d⟩:=st;exact ⟨o,e,λv z=>by rw [d] at z;cases z⟩
 keep:=λi h h' st k=>st.at λo e=>k it #[3] o e
 item:=by
  intro X hP hw hK hc i pins s σ H E I hf st hg;subst hP hw hK;let ⟨xs,x,hq,hx⟩:=hg;let ⟨its,rv,p,hz⟩:=I.tuple hq;let ⟨u,hu,ru⟩:=rv.get hx;let ⟨f0,f1,f2,f3,f4,f5⟩:=hf it #[3]
  refine wpAny_pyNext_tuple_item st (show s.heap.IsTuple a its.toArray from p) (x:=u) (by simpa using hu) λh' st' sb => ?_
  have I1:Inv X pins σ H { s with heap:=h' }:=I.turned (t':=s.toks) (λb o hb e=>(sb.2 b hb).trans e) f0 f1 f3 f4 f5
  let ⟨o,e,c,d⟩:=id st';exact ⟨u,rfl,eW (s:={ s with heap:=h' }) e c d #[1] ⟨x,H,I1,ru,⟨rfl,λys hy=>by rw [I.tuple_inj hy hq];exact hx⟩,st',λb hb=>(hf b hb).1⟩⟩
 done:=by
  intro X hP hw hK hc i pins s σ H E I hf st hg;subst hP hw hK;let ⟨xs,hq,hx⟩:=hg;let ⟨its,rv,p,hz⟩:=I.tuple hq;let ⟨f0,f1,f2,f3,f4,f5⟩:=hf it #[3]
  have hl:=rv.length;exact wpAny_pyNext_tuple_end #[34] st (show s.heap.IsTuple a its.toArray from p) (by simp;omega) λh' eb=>⟨rfl,I.turned (t':=s.toks) (λb o hb e=>eb b o hb e) f0 f1 f3 f4 f5⟩
 self:=λ_ _ _ _ _ st h=>wpAny_pyIter_tupleiter st h
def uN{P:Program}(it:Addr)(lo:Int)(n:Nat):Turn P w K tg (Itr lo n) [it] it (λi h=>IsRangeIter h it (lo+(i:Nat)*1) ((n:Int) - (i:Nat)) 1) where
 mem:=by simp
 obj:=λi h st b hb=>by
  have e:b=it:=by simpa using hb
  subst e
  exact ⟨_,st,λv z=>by
   have z':Data.fields _=Data.cell v:=z;cases z'⟩
 keep:=λi h h' st k=>k it #[3] _ st
 item:=by
  intro X hP hw hK hc i pins s σ H E I hf st hg;subst hP hw hK;let ⟨f0,f1,f2,f3,f4,f5⟩:=hf it #[3]
  have W:=Walks.range (prog:=X.prog) (w:=X.w) #[34] it lo 1 n;refine W.item i s _ _ hg st λv h' tk hv st' kk => ?_;let ⟨t,rfl⟩:=hv;have I1:Inv X pins σ H { s with heap:=h',toks:=tk }:=I.turned (λb o hb e=>kk b o (by simpa using hb) e) f0 f1 f3 f4 f5
  refine ⟨_,rfl,eW (s:={ s with heap:=h',toks:=tk }) (n := "range_iterator") st' rfl rfl #[1] ⟨.int (lo+i),H,I1,⟨t,?_⟩,⟨rfl,rfl⟩,st',λb hb=>(hf b hb).1⟩⟩
  rw [Int.mul_one]
 done:=by
  intro X hP hw hK hc i pins s σ H E I hf st hg;subst hP hw hK;let ⟨f0,f1,f2,f3,f4,f5⟩:=hf it #[3]
  exact wpAny_pyNext_range_end #[34] st (by have:n<=i:=hg;omega) λh' eb=>⟨rfl,I.turned (t':=s.toks) (λb o hb e=>eb b o hb e) f0 f1 f3 f4 f5⟩
 self:=λ_ _ _ _ _ st h=>wpAny_pyIter_rangeiter st h
end L2
namespace L2
open PySem PySem.Spec PyProof.Rows
section
def jC{R:It->Hp->Prop}{E:Value->Shared->Prop}{lo hi:Int}{t u v:Tok}{tk:Nat}(I:Inv X pins σ H s)(h1 : -(2 ^ 62)<=lo)(h2:lo < 2 ^ 62)(h3 : -(2 ^ 62)<=hi)(h4:hi < 2 ^ 62)
  (q:R (Itr lo (hi - lo).toNat) H):wpAny #[5] X.A (pyIter (.ref s.heap.objs.size)) (PIE X pins σ tg R) E { s with heap:=s.heap.push { cls := .type "range",data := .fields #[.int lo t,.int hi u,.int 1 v] },toks:=tk }:=by
 refine wpAny_pyIter_range (IsRange.new ..) (small_one h1 h2 h3 h4) ?_;have I1:Inv X pins σ H { s with heap:=s.heap.push { cls := .type "range",data := .fields #[.int lo t,.int hi u,.int 1 v] },toks:=tk }:=I.kept λb o e=>Hw _ e
 refine ⟨(s.heap.push { cls := .type "range",data := .fields #[.int lo t,.int hi u,.int 1 v] }).objs.size,[(s.heap.push { cls := .type "range",data := .fields #[.int lo t,.int hi u,.int 1 v] }).objs.size],_,_,H,rfl,
  I1.kept (t':=tk) λb o e=>Hw _ e,uN _ lo (hi - lo).toNat,?_,λb hb => ?_,q⟩
 .have e1:lo+((0:Nat):Int)*1=lo:=by simp
  have e2:(((hi - lo).toNat:Nat):Int) - ((0:Nat):Int)=Builtin.Range.rangeSize lo hi 1:=by rw [rangeSize_one];split <;> omega
  show IsRangeIter _ _ (lo+((0:Nat):Int)*1) ((((hi - lo).toNat:Nat):Int) - ((0:Nat):Int)) 1;rw [e1,e2];exact HE _ rfl
 .have e:b=(s.heap.push { cls := .type "range",data := .fields #[.int lo t,.int hi u,.int 1 v] }).objs.size:=by simpa using hb
  subst e;exact I1.fpOk (HA _) (I1.hok.fresh (HA _))
def Hj(ta:TA):TI:=λσ H R=>ta σ H λvs H1 => ∃ j:Int,vs=[.int j] /\ -(2 ^ 62)<=j/\j < 2 ^ 62/\R (Itr 0 j.toNat) H1
def Hb(ta:TA):TI:=λσ H R=>ta σ H λvs H1 => ∃ i j:Int,vs=[.int i,.int j]/\(-(2 ^ 62)<=i/\i < 2 ^ 62 /\ -(2 ^ 62)<=j/\j < 2 ^ 62)/\R (Itr i (j - i).toNat) H1
def vE{a:Expr}{ta:TA}(hg:Gl X "range")(hm:X.mg "range" = none)(ha:PA X [a] ta)(hs:starEach [a] X.env=[(false,eval a X.env)]:=by rfl):PI X tg (.Call (.Name "range" p) [a] [] pos) (Hj ta):=by
 intro pins s σ H R I h;refine Call_ (bO I hg hm boot_range (PyProof.Rows.callWith_type1 (thn (ha pos pins s σ H _ I h) λus s1 ⟨vs,H1,I1,r1,q1⟩ => ?_) hs rfl));let ⟨j,e,q1,q2,q⟩:=q1;subst e;cases r1 with
 | cons r rr =>
  cases rr;let ⟨t,rfl⟩:=r;exact call_range_1 (jC I1 () () q1 q2 (by simpa using q))
def vB{a b:Expr}{ta:TA}(hg:Gl X "range")(hm:X.mg "range" = none)(ha:PA X [a,b] ta)(hs:starEach [a,b] X.env=[(false,eval a X.env),(false,eval b X.env)]:=by rfl)(hs2:starEach [b] X.env=[(false,eval b X.env)]:=by rfl):
  PI X tg (.Call (.Name "range" p) [a,b] [] pos) (Hb ta):=by
 intro pins s σ H R I h;refine Call_ (bO I hg hm boot_range (PyProof.Rows.callWith_type1 (thn (ha pos pins s σ H _ I h) λus s1 ⟨vs,H1,I1,r1,q1⟩ => ?_) (by rw [hs,hs2]) (by rw [hs2];rfl)))
 let ⟨i,j,e,⟨q1,q2,q3,q4⟩,q⟩:=q1;subst e;cases r1 with
 | cons r rr =>
  cases rr with
  | cons r' rr =>
   cases rr;let ⟨t,rfl⟩:=r;let ⟨t',rfl⟩:=r';exact call_range_2 (jC I1 q1 q2 q3 q4 q)
def Iw(wi:TI)(g:TG)(tb:TS):TS:=λD σ H=>wi σ H λJ H1 => ∃ W:Nat->Nat->St->Hp->Prop,(∃ m,W 0 m σ H1) /\ ∀ i m σ H,W i m σ H ->
 (J.stop i H/\D.nx σ H)\/(J.go i H /\ ∃ N:St->Hp->Prop,(∀ σ' H',N σ' H' -> ∃ m',m' < m/\W (i+1) m' σ' H') /\ ∀ x H',J.yld i H x H'->g x σ H' λσ2 H2=>tb { D with nx:=N,ct:=N,bk:=D.nx } σ2 H2)
def Ct(fp:List Addr)(h:Heap):List (Addr×Obj):=fp.filterMap λb=>(h.get? b).map λo=>(b,o)
def dy{b:Addr}{o:Obj}(hb:b∈fp)(e:h.get? b=some o):(b,o)∈Ct fp h:=List.mem_filterMap.mpr ⟨b,hb,by rw [e];rfl⟩
def vk{p:Addr×Obj}(hp:p∈Ct fp h):p.1∈fp/\h.get? p.1=some p.2:=by
 let ⟨b,hb,e⟩:=List.mem_filterMap.mp hp;cases q:h.get? b with
 | none=>rw [q] at e;cases e
 | some o =>
  rw [q] at e;have e':(b,o)=p:=Option.some.inj e;subst e';exact ⟨hb,q⟩
def Inv.pinned{fp:List Addr}(I:Inv X pins σ H s)(hf:∀ b∈fp,AI X pins H b)(ho:∀ b∈fp,∃ o,s.heap.get? b=some o /\ ∀ v,o.data ≠ .cell v):Inv X (pins++Ct fp s.heap) σ H s :=
 I.pins_of λp hp=>(List.mem_append.mp hp).elim (λz=>I.pin p (List.mem_append_right _ z)) λz=>by
  let ⟨hb,e⟩:=vk z;let ⟨f0,f1,f2,_⟩:=hf p.1 hb;let ⟨o,e',d⟩:=ho p.1 hb;rw [e] at e';cases e';exact ⟨e,f0,f1,f2,d⟩
def Inv.unpinned{pl:List (Addr×Obj)}(I:Inv X (pins++pl) σ H s):Inv X pins σ H s:=I.pins_of λp hp=>I.pin p (List.mem_append_right _ (List.mem_append_left _ hp))
def abJ{iter:Expr}{body:List Stmt}{wi:TI}{g:TG}{tb:TS}(hp:PassesOwn #[5] X.A X.env X.xe)(hc:X.calm=true)(hi:PI X tg iter wi)(hg:PG X tg g)(hb:PSs X body tb)
  (hs:∀ x,foldedSetIterable iter X.env x=pure x:=by intro _;rfl):PS X (.For tg iter body [] pos) (Iw wi g tb):=by
 intro pins s σ H D I h;refine wpAny_For (thn (hi pins s σ H _ I h) λv s1 h1=>thn h1 λitv s2 h2 => ?_) hs;let ⟨it,fp,tn,J,H2,e,I2,T,st2,f2,W,⟨m0,w0⟩,turn⟩:=h2;subst e;have stat:∀ {H':Hp},(∀ b∈fp,H' b=none) -> ∀ b∈fp,AI X pins H' b:=λhn b hb=>⟨hn b hb,(f2 b hb).2⟩;refine codeAny_forLoop_any (λn s' => ∃ i σ' H',Inv X pins σ' H' s'/\tn i s'.heap/\(∀ b∈fp,H' b=none)/\W i n σ' H') ?_ m0 ⟨0,σ,H2,I2,st2,λb hb=>(f2 b hb).1,w0⟩;rintro n s3 ⟨i,σ3,H3,I3,st3,fr3,w3⟩;rcases turn i n σ3 H3 w3 with ⟨stop,qn⟩ | ⟨go,N,hN,step⟩
 .refine wpAny_passesOwn hp (thn (T.done X rfl rfl rfl hc i pins s3 σ3 H3 X.xe I3 (stat fr3) st3 stop) λr s4 ⟨hr,I4⟩ => ?_)
  subst hr;exact wpAny_execs_nil ⟨σ3,H3,I4,qn⟩
 .refine wpAny_passesOwn hp (thn (T.item X rfl rfl rfl hc i pins s3 σ3 H3 X.xe I3 (stat fr3) st3 go) λr s4 ⟨u,hr,h4⟩ => ?_)
  subst hr;refine wpAny_passesOwn hp (thn h4 ?_);rintro _ s5 ⟨x,H5,I5,r5,y5,st5,fr5⟩;have I5':=I5.pinned (stat fr5) (T.obj _ _ st5);refine wpAny_passesOwn hp (thn (hg _ s5 σ3 H5 x u _ I5' r5 (step x H5 y5)) ?_);rintro _ s6 ⟨σ6,H6,I6,q6⟩;refine wpAny_passesOwn hp (thn (hb _ s6 σ6 H6 _ I6 q6) λf s7 q7 => ?_);have again:∀ {σ7:St} {H7:Hp},Inv X (pins++Ct fp s5.heap) σ7 H7 s7->N σ7 H7 -> ∃ m,m < n /\ ∃ i σ' H',Inv X pins σ' H' s7/\tn i s7.heap/\(∀ b∈fp,H' b=none)/\W i m σ' H':=λ{σ7 H7} I7 n7=>by
   let ⟨m',hm,w7⟩:=hN σ7 H7 n7;refine ⟨m',hm,i+1,σ7,H7,I7.unpinned,T.keep _ _ _ st5 λb hb o e=>(I7.pin (b,o) (List.mem_append_right _ (List.mem_append_right _ (dy hb e)))).1,λb hb => ?_,w7⟩;let ⟨o,e,d⟩:=T.obj _ _ st5 b hb;exact (I7.pin (b,o) (List.mem_append_right _ (List.mem_append_right _ (dy hb e)))).2.1
  cases f with
  | next=>let ⟨σ7,H7,I7,n7⟩:=q7;exact again I7 n7
  | cont=>let ⟨σ7,H7,I7,n7⟩:=q7;exact again I7 n7
  | brk=>let ⟨σ7,H7,I7,q7⟩:=q7;exact ⟨σ7,H7,I7.unpinned,q7⟩
  | ret v=>let ⟨x7,σ7,H7,I7,r7,q7⟩:=q7;exact ⟨x7,σ7,H7,I7.unpinned,r7,q7⟩
end
end L2
namespace L2
open PySem PySem.Spec PyProof.Rows
abbrev R2:=V->V->Hp->VK->Prop
def OpR(X:Cx)(f:Value->Value->Sem Value)(r:R2):Prop :=
 ∀ (pins:List (Addr×Obj)) (s:Shared) (σ:St) (H:Hp) (x y:V) (v u:Value) (Q:VK),Inv X pins σ H s->RelV x v->RelV y u->r x y H Q ->
  wpAny #[5] X.A (f v u) #[17] X.xe s
def UnR(X:Cx)(f:Value->Sem Value)(r:V->Hp->VK->Prop):Prop :=
 ∀ (pins:List (Addr×Obj)) (s:Shared) (σ:St) (H:Hp) (x:V) (v:Value) (Q:VK),Inv X pins σ H s->RelV x v->r x H Q ->
  wpAny #[5] X.A (f v) #[17] X.xe s
def CallR(X:Cx)(f:Value)(r:List V->Hp->VK->Prop):Prop :=
 ∀ (pins:List (Addr×Obj)) (s:Shared) (σ:St) (H:Hp) (xs:List V) (us:List Value) (Q:VK),Inv X pins σ H s->Vals xs us->r xs H Q ->
  wpAny #[5] X.A (call f us) #[17] X.xe s
def TruR(X:Cx)(r:V->Hp->(Bool->Hp->Prop)->Prop):Prop :=
 ∀ (pins:List (Addr×Obj)) (s:Shared) (σ:St) (H:Hp) (x:V) (v:Value) (Q:Bool->Hp->Prop),Inv X pins σ H s->RelV x v->r x H Q ->
  wpAny #[5] X.A (truthy v) (TP X pins σ Q) X.xe s
def Iy(r:R2)(ta tb:TE):TE:=λσ H Q=>ta σ H λx H1=>tb σ H1 λy H2=>r x y H2 Q
def Iz(r:V->Hp->VK->Prop)(ta:TE):TE:=λσ H Q=>ta σ H λx H1=>r x H1 Q
def IA(C:Int->Int->Prop)(g:Int->Int->V):R2:=λx y H Q => ∃ i j,x=.int i/\y=.int j/\C i j/\Q (g i j) H
def IB(g:Int->Int->V):R2:=λx y H Q => ∃ i j,x=.int i/\y=.int j/\Q (g i j) H
def IC(g:Int->V):V->Hp->VK->Prop:=λx H Q => ∃ i,x=.int i/\Q (g i) H
section
variable{a b c:Expr}{tb tc:TE}
def hU(ha:PE X a ta)(hb:PE X b tb){R:V->V->Hp->Prop}(I:Inv X pins σ H s)
  (h:ta σ H λx H1=>tb σ H1 λy H2=>R x y H2) {Q:Value->Shared->Prop} {f:Value->Value->Sem Value}
  (hf:∀ v u s2 x y H2,Inv X pins σ H2 s2->RelV x v->RelV y u->R x y H2->wpAny #[5] X.A (f v u) Q X.xe s2) :
  wpAny #[5] X.A (eval a X.env) (λv s₁ => wpAny #[5] X.A (eval b X.env) (λu s₂ => wpAny #[5] X.A (f v u) Q X.xe s₂) X.xe s₁) X.xe s:=by
 refine thn (ha pins s σ H _ I h) ?_;rintro v s1 ⟨x,H1,I1,r1,q1⟩;refine thn (hb pins s1 σ H1 _ I1 q1) ?_;rintro u s2 ⟨y,H2,I2,r2,q2⟩;exact hf v u s2 x y H2 I2 r1 r2 q2
def acC{op:Operator}{r:R2}(ho:OpR X (binaryOp op) r)(ha:PE X a ta)(hb:PE X b tb):PE X (.BinOp a op b pos) (Iy r ta tb):=by
 intro pins s σ H Q I h;exact wpAny_BinOp (hU ha hb I h λv u s2 x y H2 I2 rx ry q=>ho pins s2 σ H2 x y v u Q I2 rx ry q)
def sW{op:UnaryOp}{r:V->Hp->VK->Prop}(ho:UnR X (unaryOp op) r)(ha:PE X a ta):PE X (.UnaryOp op a pos) (Iz r ta):=by
 intro pins s σ H Q I h;exact UnaryOp_ (thn (ha pins s σ H _ I h) λv s1 ⟨x,H1,I1,r1,q1⟩=>ho pins s1 σ H1 x v Q I1 r1 q1)
def opI{C:Int->Int->Prop}{g:Int->Int->Int}
  (rule:∀ (i j:Int) (t u:Tok) (s:Shared) (Q:Value->Shared->Prop) (E:Value->Shared->Prop),C i j->Q (.int (g i j) s.toks) { s with toks:=s.toks+1 }->wpAny #[5] X.A (f (.int i t) (.int j u)) Q E s) :
  OpR X f (IA C λi j => .int (g i j)):=by
 intro pins s σ H x y v u Q I rx ry h;let ⟨i,j,rfl,rfl,hc,q⟩:=h;let ⟨t,rfl⟩:=rx;let ⟨t',rfl⟩:=ry;exact rule i j t t' s _ _ hc ⟨.int (g i j),H,I.tok _,⟨_,rfl⟩,q⟩
def tH{g:Int->Int->Int}
  (rule:∀ (i j:Int) (t u:Tok) (s:Shared) (Q:Value->Shared->Prop) (E:Value->Shared->Prop),Q (.int (g i j) s.toks) { s with toks:=s.toks+1 }->wpAny #[5] X.A (f (.int i t) (.int j u)) Q E s) :
  OpR X f (IB λi j => .int (g i j)):=by
 intro pins s σ H x y v u Q I rx ry h;let ⟨i,j,rfl,rfl,q⟩:=h;let ⟨t,rfl⟩:=rx;let ⟨t',rfl⟩:=ry;exact rule i j t t' s _ _ ⟨.int (g i j),H,I.tok _,⟨_,rfl⟩,q⟩
def fb{g:Int->Int->Bool}
  (rule:∀ (i j:Int) (t u:Tok) (s:Shared) (Q:Value->Shared->Prop) (E:Value->Shared->Prop),Q (.bool (g i j)) s->wpAny #[5] X.A (f (.int i t) (.int j u)) Q E s) :
  OpR X f (IB λi j => .bl (g i j)):=by
 intro pins s σ H x y v u Q I rx ry h;let ⟨i,j,rfl,rfl,q⟩:=h;let ⟨t,rfl⟩:=rx;let ⟨t',rfl⟩:=ry;exact rule i j t t' s _ _ ⟨.bl (g i j),H,I,rfl,q⟩
def Gk(i j:Int):Prop:=0<=j/\j<=1000000/\i.natAbs < 2 ^ 64
def CMul(i j:Int):Prop:=(-(2 ^ 64) < i/\i < 2 ^ 64)\/(-(2 ^ 64) < j/\j < 2 ^ 64)
def CMul.ok{i j:Int}(h:CMul i j):IntMulOk i j:=by
 rcases h with ⟨h1,h2⟩ | ⟨h1,h2⟩
 .exact .of_left (intBits_le_64 h1 h2)
 .exact .of_right (intBits_le_64 h1 h2)
def eQ:OpR X (binaryOp .Add) (IB λi j => .int (i+j)):=tH λ_ _ _ _ _ _ _ q=>add_int q
def eM:OpR X (binaryOp .Sub) (IB λi j => .int (i - j)):=tH λ_ _ _ _ _ _ _ q=>sub_int q
def xV:OpR X (binaryOp .Mod) (IA (λ_ j=>j≠0) λi j => .int (i.fmod j)):=opI λ_ _ _ _ _ _ _ hc q=>mod_int' hc q
def aae:OpR X (binaryOp .Pow) (IA Gk λi j => .int (i ^ j.toNat)):=opI λ_ _ _ _ _ _ _ hc q=>pow_int_small hc.1 hc.2.1 hc.2.2 q
def unI{f:Value->Sem Value}{g:Int->Int}
  (rule:∀ (i:Int) (t:Tok) (s:Shared) (Q:Value->Shared->Prop) (E:Value->Shared->Prop),Q (.int (g i) s.toks) { s with toks:=s.toks+1 }->wpAny #[5] X.A (f (.int i t)) Q E s) :
  UnR X f (IC λi => .int (g i)):=by
 intro pins s σ H x v Q I rx h;let ⟨i,rfl,q⟩:=h;let ⟨t,rfl⟩:=rx;exact rule i t s _ _ ⟨.int (g i),H,I.tok _,⟨_,rfl⟩,q⟩
def pD:UnR X (unaryOp .USub) (IC λi => .int (-i)):=unI λ_ _ _ _ _ q=>neg_int q
end
def ID:V->V->Bool
 | .non,.non=>true | .non,.int _=>true | .int _,.non=>true | .non,.bl _=>true | .bl _,.non=>true | .non,.str _=>true | .str _,.non=>true
 | .int _,.int _=>true | .bl _,.bl _=>true | .str _,.str _=>true | .byt _,.byt _=>true
 | .int _,.str _=>true | .str _,.int _=>true | .bl _,.str _=>true | .str _,.bl _=>true
 | _,_=>false
def rNe:R2:=λx y H Q=>ID x y=true/\Q (.bl (!decide (x=y))) H
def ky{i j:Int}:decide (V.int i=V.int j)=(i == j):=by
 rw [Bool.eq_iff_iff];simp
def nk{i j:Bool}:decide (V.bl i=V.bl j)=(i == j):=by
 rw [Bool.eq_iff_iff];simp
def lz{i j:Str}:decide (V.str i=V.str j)=(i == j):=by
 rw [Bool.eq_iff_iff];simp
def yT{i j:Array UInt8}:decide (V.byt i=V.byt j)=(i.toList == j.toList):=by
 rw [Bool.eq_iff_iff];cases i;cases j;simp
section
variable{a b c:Expr}{tb tc:TE}
def aw{Q:VK}{k k':Bool}(I:Inv X pins σ H s)(q:Q (.bl k) H)(e:k=k'):EP X pins σ Q (.bool k') s:=by
 subst e;exact ⟨.bl k,H,I,rfl,q⟩
def acp:OpR X (compareOp .NotEq) rNe:=by
 intro pins s σ H x y v u Q I rx ry h;let ⟨hs,q⟩:=h;cases x with
 | non =>
  cases rx;cases y with
  | non=>cases ry;exact PySem.EqNone.ne_none_none (aw I q #[3])
  | bl j=>cases ry;exact PySem.EqNone.ne_none_bool (aw I q #[3])
  | int j=>let ⟨t',rfl⟩:=ry;exact PySem.EqNone.ne_none_int (aw I q #[3])
  | str j=>let ⟨t',rfl⟩:=ry;exact PySem.EqNone.ne_none_str (aw I q #[3])
  | _=>exact absurd (show false=true from hs) Hz
 | bl i =>
  cases rx;cases y with
  | non=>cases ry;exact PySem.EqNone.ne_bool_none (aw I q #[3])
  | bl j=>cases ry;exact ne_bool (aw I q (congrArg not nk))
  | str j=>let ⟨t',rfl⟩:=ry;exact PySem.EqMixed.ne_bool_str (aw I q #[3])
  | _=>exact absurd (show false=true from hs) Hz
 | int i =>
  let ⟨t,rfl⟩:=rx;cases y with
  | non=>cases ry;exact PySem.EqNone.ne_int_none (aw I q #[3])
  | int j=>let ⟨t',rfl⟩:=ry;exact ne_int (aw I q (congrArg not ky))
  | str j=>let ⟨t',rfl⟩:=ry;exact PySem.EqMixed.ne_int_str (aw I q #[3])
  | _=>exact absurd (show false=true from hs) Hz
 | str i =>
  let ⟨t,rfl⟩:=rx;cases y with
  | non=>cases ry;exact PySem.EqNone.ne_str_none (aw I q #[3])
  | bl j=>cases ry;exact PySem.EqMixed.ne_str_bool (aw I q #[3])
  | int j=>let ⟨t',rfl⟩:=ry;exact PySem.EqMixed.ne_str_int (aw I q #[3])
  | str j=>let ⟨t',rfl⟩:=ry;exact ne_str (aw I q (congrArg not lz))
  | _=>exact absurd (show false=true from hs) Hz
 | byt i =>
  let ⟨t,rfl⟩:=rx;cases y with
  | byt j=>let ⟨t',rfl⟩:=ry;exact PySem.W.ne_bytes (aw I q (congrArg not yT))
  | _=>exact absurd (show false=true from hs) Hz
 | _=>cases y <;> exact absurd (show false=true from hs) Hz
def adl:OpR X (compareOp .Lt) (IB λi j => .bl (decide (i < j))):=fb λ_ _ _ _ _ _ _ q=>lt_int q
def adB:OpR X (compareOp .LtE) (IB λi j => .bl (decide (i<=j))):=fb λ_ _ _ _ _ _ _ q=>le_int q
def acI:OpR X (compareOp .Gt) (IB λi j => .bl (decide (j < i))):=fb λ_ _ _ _ _ _ _ q=>gt_int q
def adk:OpR X (compareOp .GtE) (IB λi j => .bl (decide (j<=i))):=fb λ_ _ _ _ _ _ _ q=>ge_int q
def zF:OpR X (compareOp .Is) (λx y H Q=>y=.non/\Q (.bl (decide (x=.non))) H):=by
 intro pins s σ H x y v u Q I rx ry h;let ⟨rfl,q⟩:=h;cases ry;refine is_none_gen (aw I q ?_);cases x <;> first
  | (cases rx;rfl)
  | (let ⟨t,rfl⟩:=rx;rfl)
def y7:OpR X (compareOp .IsNot) (λx y H Q=>y=.non/\Q (.bl (!decide (x=.non))) H):=by
 intro pins s σ H x y v u Q I rx ry h;let ⟨rfl,q⟩:=h;cases ry;refine isnot_none_gen (aw I q ?_);cases x <;> first
  | (cases rx;rfl)
  | (let ⟨t,rfl⟩:=rx;rfl)
def xu{op:CmpOp}{r:R2}(ho:OpR X (compareOp op) r)(ha:PE X a ta)(hb:PE X b tb)(hm:behindInMarks op b=false):PE X (.Compare a [op] [b] pos) (Iy r ta tb):=by
 intro pins s σ H Q I h;exact wpAny_Compare1 (hU ha hb I h λv u s2 x y H2 I2 rx ry q=>ho pins s2 σ H2 x y v u Q I2 rx ry q) hm
def FR(t:TE):TT:=λσ H Q=>t σ H λx H' => ∃ k,x=.bl k/\Q k H'
def zc{op:CmpOp}{r:R2}(ho:OpR X (compareOp op) r)(ha:PE X a ta)(hb:PE X b tb)(hm:behindInMarks op b=false):PT X (.Compare a [op] [b] pos) (FR (Iy r ta tb)):=by
 intro pins s σ H Q I h;refine wpAny_isTrue_Compare1 (thn (ha pins s σ H _ I h) λv s1 ⟨x,H1,I1,r1,q1⟩=>thn (hb pins s1 σ H1 _ I1 q1) λu s2 ⟨y,H2,I2,r2,q2⟩ =>
  thn (ho pins s2 σ H2 x y v u _ I2 r1 r2 q2) λc s3 ⟨z,H3,I3,r3,k,e,q3⟩ => ?_) hm
 subst e;cases r3;exact wpAny_truthy_bool ⟨H3,I3,q3⟩
def DL(r r':R2)(ta tb tc:TE):TE:=λσ H Q=>ta σ H λx H1=>tb σ H1 λy H2=>r x y H2 λz H3 => ∃ k,z=.bl k /\
 (if k=true then tc σ H3 λw' H4=>r' y w' H4 Q else Q (.bl false) H3)
def wW{op op':CmpOp}{r r':R2}(ho:OpR X (compareOp op) r)(ho':OpR X (compareOp op') r')(ha:PE X a ta)(hb:PE X b tb)(hc:PE X c tc)
  (hm:lastMarks [op,op'] [b,c]=false:=by with_unfolding_all rfl):PE X (.Compare a [op,op'] [b,c] pos) (DL r r' ta tb tc):=by
 intro pins s σ H Q I h;refine Compare_chain (thn (ha pins s σ H _ I h) λv s1 ⟨x,H1,I1,r1,q1⟩=>chain_link (thn (hb pins s1 σ H1 _ I1 q1) λu s2 ⟨y,H2,I2,r2,q2⟩ =>
  thn (ho pins s2 σ H2 x y v u _ I2 r1 r2 q2) λd s3 ⟨z,H3,I3,r3,k,e,q3⟩ => ?_)) hm
 subst e;cases r3;refine wpAny_truthy_bool ?_;cases k with
 | false=>exact ite_ff ⟨.bl false,H3,I3,rfl,q3⟩
 | true=>exact ite_tt (chain_last (thn (hc pins s3 σ H3 _ I3 q3) λw' s4 ⟨z',H4,I4,r4,q4⟩=>ho' pins s4 σ H4 y z' u w' Q I4 r2 r4 q4))
def xf{op op':CmpOp}{r r':R2}(ho:OpR X (compareOp op) r)(ho':OpR X (compareOp op') r')(ha:PE X a ta)(hb:PE X b tb)(hc:PE X c tc)
  (hm:lastMarks [op,op'] [b,c]=false:=by with_unfolding_all rfl):PT X (.Compare a [op,op'] [b,c] pos) (FR (DL r r' ta tb tc)):=by
 intro pins s σ H Q I h;refine isTrue_chain (thn (ha pins s σ H _ I h) λv s1 ⟨x,H1,I1,r1,q1⟩=>test_link (thn (hb pins s1 σ H1 _ I1 q1) λu s2 ⟨y,H2,I2,r2,q2⟩ =>
  thn (ho pins s2 σ H2 x y v u _ I2 r1 r2 q2) λd s3 ⟨z,H3,I3,r3,k,e,q3⟩ => ?_)) hm
 subst e;cases r3;refine wpAny_truthy_bool ?_;cases k with
 | false =>
  let ⟨k',e',q'⟩:=q3;cases e';exact ite_ff ⟨H3,I3,q'⟩
 | true =>
  refine ite_tt (test_last (thn (hc pins s3 σ H3 _ I3 q3) λw' s4 ⟨z',H4,I4,r4,q4⟩=>thn (ho' pins s4 σ H4 y z' u w' _ I4 r2 r4 q4) ?_));rintro d' s5 ⟨z2,H5,I5,r5,k2,e2,q5⟩;subst e2;cases r5;exact wpAny_truthy_bool ⟨H5,I5,q5⟩
def DC(K:HG)(x:V)(H:Hp)(k:Bool):Prop :=
 match x with
 | .non=>k=false
 | .bl b=>k=b
 | .int i=>k=(i != 0)
 | .str y=>y.length<=sizeLine/\k=((y.length:Int) != 0)
 | .byt y=>y.size<=sizeLine/\k=((y.size:Int) != 0)
 | .ref p=>(∃ xs,SqL K H p xs/\k = !xs.isEmpty)\/(∃ xs,SqT K H p xs/\k = !xs.isEmpty) \/ ∃ kvs,H p=some (.dK kvs)/\k = !kvs.isEmpty
 | _=>False
def uS{κ:Type}{kvs:List (κ×V)}{vs:List (κ×Value)}(r:KV kvs vs):(!vs.isEmpty) = !kvs.isEmpty:=by
 cases r <;> rfl
def iK{xs:List V}(r:Vals xs its):(!its.toArray.isEmpty) = !xs.isEmpty:=by
 cases r <;> simp
def cY:(sizeLine:Nat) < 2 ^ 63:=by rw [sizeLine_eq];decide
def oT:TruR X (λx H Q => ∃ k,DC X.K x H k/\Q k H):=by
 intro pins s σ H x v Q I rx h;let ⟨k,e,q⟩:=h;have hl:=cY;have hs:sizeLine=16777216:=sizeLine_eq;cases x with
 | non =>
  cases rx;have e':k=false:=e;subst e';exact truthy_none ⟨H,I,q⟩
 | bl b =>
  cases rx;have e':k=b:=e;subst e';exact wpAny_truthy_bool ⟨H,I,q⟩
 | int i =>
  let ⟨t,rfl⟩:=rx;have e':k=(i != 0):=e;subst e';exact PySem.P.truthy_int ⟨H,I,q⟩
 | str y =>
  let ⟨t,rfl⟩:=rx;obtain ⟨hy,e'⟩:y.length<=sizeLine/\k=((y.length:Int) != 0):=e;subst e';exact PySem.P.truthy_str () ⟨H,I.tok _,q⟩
 | byt y =>
  let ⟨t,rfl⟩:=rx;obtain ⟨hy,e'⟩:y.size<=sizeLine/\k=((y.size:Int) != 0):=e;subst e';exact PySem.W.truthy_bytes () ⟨H,I.tok _,q⟩
 | ref p =>
  cases rx;have e':(∃ xs,SqL X.K H p xs/\k = !xs.isEmpty)\/(∃ xs,SqT X.K H p xs/\k = !xs.isEmpty) \/ ∃ kvs,H p=some (.dK kvs)/\k = !kvs.isEmpty:=e;rcases e' with ⟨xs,hx,e'⟩ | ⟨xs,hx,e'⟩ | ⟨kvs,hx,e'⟩
  .subst e'
   let ⟨its,r,pl,hz⟩:=I.list hx;have hlen:=r.length;exact wpAny_truthy_list pl.isList (by simp! [List.size_toArray];omega) ⟨H,I.tok _,by rw [iK r];exact q⟩
  .subst e'
   let ⟨its,r,pl,hz⟩:=I.tuple hx;have hlen:=r.length;exact truthy_tuple pl (by simp! [List.size_toArray];omega) ⟨H,I.tok _,by rw [iK r];exact q⟩
  .subst e'
   obtain ⟨hz,hS,vs,r,m⟩:kvs.length<=sizeLine/\(p == sysModules)=false /\ ∃ vs,KV kvs vs/\s.heap.DictOf (Ay X.prog X.w) p vs:=I.hok p _ hx;have hlen:kvs.length=vs.length:=Paired.length r;exact wpAny_truthy_dict hS m () ⟨H,I.tok _,by rw [uS r];exact q⟩
 | _=>exact (show False from e).elim
def wy(ha:PE X a ta)(he:∀ whole,isTrue a X.env whole=(do let v <- whole;standAt a.pos;holding [v] (truthy v))):
  PT X a (λσ H Q=>ta σ H λx H' => ∃ k,DC X.K x H' k/\Q k H'):=by
 intro pins s σ H Q I h;exact isTrue_plain (thn (ha pins s σ H _ I h) λv s1 ⟨x,H1,I1,r1,q1⟩=>oT pins s1 σ H1 x v Q I1 r1 q1) (he _)
def vals1{x:V}{us:List Value}(r:Vals [x] us):∃ u,us=[u]/\RelV x u:=by
 cases r with
 | cons r1 r2=>cases r2;exact ⟨_,rfl,r1⟩
def vals2{x:V}{us:List Value}(r:Vals [x,y] us):∃ u w',us=[u,w']/\RelV x u/\RelV y w':=by
 cases r with
 | cons r1 r2 =>
  cases r2 with
  | cons r3 r4=>cases r4;exact ⟨_,_,rfl,r1,r3⟩
def call_abs:CallR X (.builtin "abs") (λxs H Q => ∃ i,xs=[.int i]/\Q (.int (if i < 0 then -i else i)) H):=by
 intro pins s σ H xs us Q I r h;let ⟨i,rfl,q⟩:=h;let ⟨u,rfl,t,rfl⟩:=vals1 r;exact call_abs_int λu tk=>⟨.int (if i < 0 then -i else i),H,I.tok _,⟨_,rfl⟩,q⟩
def vq(hc:X.calm=true):CallR X (.builtin "max") (λxs H Q => ∃ i j,xs=[.int i,.int j]/\Q (.int (if j > i then j else i)) H):=by
 intro pins s σ H xs us Q I r h;let ⟨i,j,rfl,q⟩:=h;let ⟨u,w',rfl,⟨t,rfl⟩,⟨t',rfl⟩⟩:=vals2 r;refine max_two_ints #[34] λh' tk k=>⟨_,H,I.kept k,?_,q⟩;by_cases hj:j > i
 .rw [if_pos hj,if_pos hj];exact ⟨_,rfl⟩
 .rw [if_neg hj,if_neg hj];exact ⟨_,rfl⟩
def vS(hc:X.calm=true):CallR X (.builtin "min") (λxs H Q => ∃ i j,xs=[.int i,.int j]/\Q (.int (if j < i then j else i)) H):=by
 intro pins s σ H xs us Q I r h;let ⟨i,j,rfl,q⟩:=h;let ⟨u,w',rfl,⟨t,rfl⟩,⟨t',rfl⟩⟩:=vals2 r;refine min_two_ints #[34] λh' tk k=>⟨_,H,I.kept k,?_,q⟩;by_cases hj:j < i
 .rw [if_pos hj,if_pos hj];exact ⟨_,rfl⟩
 .rw [if_neg hj,if_neg hj];exact ⟨_,rfl⟩
end
end L2
namespace L2
open PySem PySem.Spec PyProof.Rows
structure ObjM(h:Heap)(x dx C:Addr)(mA:Str->Option Value):Prop where
 obj:h.get? x=some (PySem.W.instObj C dx)
 ns:h.Ns1 dx mA
 ne:dx≠x
def ve{dx:Addr}{mA:Str->Option Value}(n:h.Ns1 dx mA):∃ od,h.get? dx=some od /\ ∀ name,PySem.W.lookIn name od=some (mA name):=by
 let ⟨o,es,ep,ho,hd,hk,_,hm⟩:=n;refine ⟨o,ho,λname => ?_⟩;have e:=hm name;unfold nsFind findBy at e;rw [<-Array.find?_toList] at e;unfold PySem.W.lookIn;rw [hd];dsimp only;split
 .rename_i y q
  rw [q] at e;exact congrArg some e
 .rename_i q
  rw [q] at e;have a:es.toList.any (·.refKey)=false:=by
   rw [List.any_eq_false];intro y hy;let ⟨z,t,hkey⟩:=hk y (Array.mem_toList_iff.mp hy);simp [DictEntry.refKey,hkey]
  have a' : ¬ es.toList.any (·.refKey)=true:=by rw [a];exact Hz
  rw [if_neg a'];exact congrArg some e
def ObjM.look{x dx C:Addr}{mA:Str->Option Value}(I:ObjM h x dx C mA):∃ od,PySem.W.InstAt h x (PySem.W.instObj C dx) C (some od) /\ ∀ name,PySem.W.lookIn name od=some (mA name) :=
 let ⟨od,ho,hl⟩:=ve I.ns
 ⟨od,⟨I.obj,rfl,rfl,ho⟩,hl⟩
section
variable{E:Value->Shared->Prop}{x dx C f:Addr}{mA:Str->Option Value}{name:Str}{v:Value}
def get_map{expr:Bool}{Q:Value->Shared->Prop}(X:K.In s.heap)(I:ObjM s.heap x dx C mA)(hg:PySem.W.plainGet K C name=true)(hh:PySem.W.hasDictIn K C=true)
  (ha:PySem.W.findIn K (.ref C) name=some none) (hv:mA name=some v) (hv':PySem.W.handedIn v=true) (h:Q v { s with toks:=s.toks+1 }) :
  wpAny #[12] A (getAttr (.ref x) name expr) Q E s:=by
 let ⟨od,J,hl⟩:=I.look;exact PySem.W.get_value X J (PySem.W.plainGet_of hg).1 (PySem.W.findObj_own hh ha rfl (by rw [hl,hv])) hv' h
def v8{Q:Value×List Value->Shared->Prop}(X:K.In s.heap)(I:ObjM s.heap x dx C mA)(hg:PySem.W.plainGet K C name=true)
  (hf:PySem.W.findIn K (.ref C) name=some (some (.ref f))) (ht:PySem.W.isFn K (.ref f)=true) (hv:mA name=none) (h:Q (.ref f,[.ref x]) s) :
  wpAny #[12] A (getMethod (.ref x) name pl) Q E s:=by
 let ⟨od,J,hl⟩:=I.look;exact PySem.W.method_fn X J (PySem.W.plainGet_of hg).1 (PySem.W.plainGet_of hg).2 hf (beq_iff_eq.mp ht) (by show (PySem.W.lookIn name od).map (·.isSome)=some false;rw [hl,hv];rfl) h
def yX{ns:List Str}{Q:Unit->Shared->Prop}(X:K.In s.heap)(I:ObjM s.heap x dx C mA)
  (hs:PySem.W.findIn K (.ref C) "__setattr__" = some (some (.builtin "object.__setattr__"))) (hp:PySem.W.plainOver K C=true) (ht:PySem.W.takerIn K C name=some none) (hh:PySem.W.hasDictIn K C=true)
  (hw:PySem.Within mA ns) (hsz:ns.length<=sizeLine)
  (h:∀ h',ObjM h' x dx C (λy=>if y=name then some v else mA y)->Heap.SameBut dx s.heap h'->Q .unit { s with heap:=h',toks:=s.toks+2 }) :
  wpAny #[12] A (setAttr (.ref x) name v) Q E s:=by
 let ⟨od,J,hl⟩:=I.look;refine PySem.W.set_plain X J hs (PySem.W.osa_open (s:={ s with toks:=s.toks+1 }) (r:=none) X J hp ht λb => ?_)
 let ⟨cd,hc,hd'⟩:=PySem.W.any_some hh;have hx:s.heap.get? x=some ⟨.ref C,some dx,.plain,#[]⟩:=I.obj;refine ZB (ZP (ZB (ZB (wpAny_loadPart hx (ZB (PySem.W.Looks.here (s:={ s with toks:=s.toks+1 }) (PySem.W.looks_clsIn X hc) ?_))))))
 rw [hd'];refine ZP (a:=some dx) (ZB (ZP (ZB ?_)));refine wpAny_nsSet1 (s:={ s with toks:=s.toks+1 }) I.ns λh' hn2 hs2 => ?_
 let ⟨oD,esD,epD,hoD,hdD,hcD⟩:=hn2.count (PySem.Within.cons name v hw);refine ZB (wpAny_lookBehind hoD (by rw [hdD];exact pastItsLine_dict (Hy hcD (by rw [List.length_cons];omega))) ?_)
 exact ZP (h _ ⟨(hs2.2 _ (Ne.symm I.ne)).trans I.obj,hn2,I.ne⟩ hs2)
def wV{R:Result->Shared->Prop}{vs:List Value}(X:K.In s.heap)(hm:PySem.W.makesIn K C=true)
  (hi:PySem.W.findIn K (.ref C) "__init__" = some (some (.ref f))) (hf:PySem.W.typeIn K (.ref f)=some (.type "function"))
  (h:codeAny #[12] (A.under (.builtin "type.__call__" ⟨.ref C :: vs,kw⟩)) (.call (.ref f) ⟨.ref (s.heap.objs.size+1) :: vs,kw⟩) (PySem.W.InitBack (s.heap.objs.size+1) R)
   { s with heap:=#[25].push #[44] }) :
  codeAny #[12] A (.call (.ref C) ⟨vs,kw⟩) R s:=by
 let ⟨hh,g,d,t,os⟩:=s;exact PySem.W.make_core (PySem.W.makes_of X hm) (PySem.W.looks_findIn X hi) (λself=>PySem.W.bind_fn X self hf) (.inl rfl) h
end
def AF(f:Str)(v:V):List (Str×V)->List (Str×V)
 | []=>[(f,v)]
 | (g,x) :: r=>if g=f then (g,v) :: r else (g,x) :: AF f v r
def iy(f g:Str)(v:V):∀ fs:List (Str×V),(AF f v fs).lookup g=if g=f then some v else fs.lookup g
 | []=>by
  show List.lookup g [(f,v)]=_;by_cases h:g=f
  .have hb:(g == f)=true:=beq_iff_eq.mpr h
   simp! [List.lookup,hb,if_pos h]
  .have hb:(g == f)=false:=beq_eq_false_iff_ne.mpr h
   simp! [List.lookup,hb,if_neg h]
 | (k,x) :: r=>by
  have ih:=iy f g v r;rw [show AF f v ((k,x) :: r)=(if k=f then (k,v) :: r else (k,x) :: AF f v r) from rfl]
  by_cases hk:k=f
  .rw [if_pos hk]
   by_cases h:g=k
   .have hb:(g == k)=true:=beq_iff_eq.mpr h
    simp! [List.lookup,hb,if_pos (h.trans hk)]
   .have hb:(g == k)=false:=beq_eq_false_iff_ne.mpr h
    simp! [List.lookup,hb,if_neg (λe:g=f=>h (e.trans hk.symm))]
  .rw [if_neg hk]
   by_cases h:g=k
   .have hb:(g == k)=true:=beq_iff_eq.mpr h
    simp! [List.lookup,hb,if_neg (λe:g=f=>hk (h.symm.trans e))]
   .have hb:(g == k)=false:=beq_eq_false_iff_ne.mpr h
    simp! [List.lookup,hb];exact ih
def fK(f:Str)(v:V):∀ fs:List (Str×V),f∈(AF f v fs).map (·.1) /\ ∀ g,g∈fs.map (·.1)->g∈(AF f v fs).map (·.1)
 | []=>⟨by simp [AF],λg h=>by simp at h⟩
 | (k,x) :: r=>by
  let ⟨i1,i2⟩:=fK f v r;rw [show AF f v ((k,x) :: r)=(if k=f then (k,v) :: r else (k,x) :: AF f v r) from rfl]
  by_cases hk:k=f
  .rw [if_pos hk]
   subst hk;exact ⟨by simp,λg h=>by simpa using h⟩
  .rw [if_neg hk]
   refine ⟨?_,λg h => ?_⟩
   .rw [List.map_cons]
    exact HB _ i1
   .rw [List.map_cons] at h ⊢
    rcases List.mem_cons.mp h with e | e
    .exact List.mem_cons.mpr (.inl e)
    .exact HB _ (i2 g e)
def iG(f:Str)(v:V):∀ fs:List (Str×V),(AF f v fs).length<=fs.length+1
 | []=>by simp [AF]
 | (k,x) :: r=>by
  have ih:=iG f v r;rw [show AF f v ((k,x) :: r)=(if k=f then (k,v) :: r else (k,x) :: AF f v r) from rfl]
  by_cases hk:k=f
  .rw [if_pos hk,List.length_cons,List.length_cons];omega
  .rw [if_neg hk,List.length_cons,List.length_cons];omega
def RelO.some_of{v:V}{o:Option Value}(r:RelO (some v) o):∃ u,o=some u/\RelV v u:=by
 cases o with
 | none=>exact (show False from r).elim
 | some u=>exact ⟨u,rfl,r⟩
def RelO.none_of{o:Option Value}(r:RelO none o):o=none:=by
 cases o with
 | none=>rfl
 | some u=>exact (show False from r).elim
def vc{v:V}{u:Value}(r:RelV v u):PySem.W.handedIn u=true:=by
 cases v with
 | non=>cases (show u=Value.none from r);rfl
 | bl b=>cases (show u=Value.bool b from r);rfl
 | int i=>let ⟨t,e⟩:=(show ∃ t,u=Value.int i t from r);cases e;rfl
 | str x=>let ⟨t,e⟩:=(show ∃ t,u=Value.str x t from r);cases e;rfl
 | byt b=>let ⟨t,e⟩:=(show ∃ t,u=Value.bytes b t from r);cases e;rfl
 | flt b=>let ⟨t,e⟩:=(show ∃ t,u=Value.float b t from r);cases e;rfl
 | ref a=>cases (show u=Value.ref a from r);rfl
 | ty n=>cases (show u=Value.type n from r);rfl
section
variable{P:Program}{C dx:Addr}{fs fs':List (Str×V)}
def gi(hok:HOk P w H h)(e:H a=some (.ins C dx fs)):∃ mA,ObjM h a dx C mA/\(∀ f,RelO (fs.lookup f) (mA f))/\PySem.Within mA (fs.map (·.1))/\fs.length<=1000/\H dx=some (.own a):=by
 let ⟨d,z,ne,ob,mA,n,r,q⟩:=(show ObjOk P w H h a (.ins C dx fs) from hok a _ e);exact ⟨mA,⟨ob,n,ne⟩,r,q,z,d⟩
end
structure Cls(K:HG)(C:Addr):Prop where
 pg:PySem.W.plainGet K C Str.empty=true
 hd:PySem.W.hasDictIn K C=true
 po:PySem.W.plainOver K C=true
 sa:PySem.W.findIn K (.ref C) "__setattr__" = some (some (.builtin "object.__setattr__"))
def Cls.get{C:Addr}(c:Cls K C)(f:Str):PySem.W.plainGet K C f=true:=c.pg
def NoAttr(K:HG)(C:Addr)(f:Str):Prop:=PySem.W.findIn K (.ref C) f=some none
def NoAttr.taker{C:Addr}{f:Str}(n:NoAttr K C f):PySem.W.takerIn K C f=some none:=by
 unfold PySem.W.takerIn;rw [show PySem.W.findIn K (.ref C) f=some none from n]
 rfl
structure Con(K:HG)(C:Addr)(f:Str)(v:V)(u:Value):Prop where
 at_:PySem.W.findIn K (.ref C) f=some (some u)
 rel:RelV v u
 get:PySem.W.specialIn K u "__get__" = some none
 cp:PySem.W.copiedNames.contains f=false
structure Meth(K:HG)(C:Addr)(m:Str)(f:Addr):Prop where
 at_:PySem.W.findIn K (.ref C) m=some (some (.ref f))
 fn:PySem.W.isFn K (.ref f)=true
 kp:PySem.W.keepIn K (.ref f)=true
section
variable{C dx:Addr}{fs:List (Str×V)}{f:Str}{v:V}{E:Value->Shared->Prop}
def iL{Q:Value->Shared->Prop}(I:Inv X pins σ H s)(e:H a=some (.ins C dx fs))(c:Cls X.K C)(n:NoAttr X.K C f)(l:fs.lookup f=some v)
  (h:∀ u s',Inv X pins σ H s'->RelV v u->Q u s'):wpAny #[5] A (getAttr (.ref a) f b) Q E s:=by
 let ⟨mA,O,r,_,_,_⟩:=gi I.hok e;let ⟨u,hu,ru⟩:=RelO.some_of (v:=v) (o:=mA f) (by rw [<-l];exact r f)
 exact get_map I.kIn O (c.get f) c.hd n hu (vc ru) (h u _ (I.tok _) ru)
def u9{m:Str}{g:Addr}{Q:Value×List Value->Shared->Prop}(I:Inv X pins σ H s)(e:H a=some (.ins C dx fs))(c:Cls X.K C)(k:Meth X.K C m g)(l:fs.lookup m=none)
  (h:Q (.ref g,[.ref a]) s):wpAny #[5] A (getMethod (.ref a) m pl) Q E s:=by
 let ⟨mA,O,r,_,_,_⟩:=gi I.hok e;have hn:mA m=none:=RelO.none_of (by rw [<-l];exact r m)
 exact v8 I.kIn O (c.get m) k.at_ k.fn hn h
def iJ{u:Value}{Q:Unit->Shared->Prop}(I:Inv X pins σ H s)(e:H a=some (.ins C dx fs))(c:Cls X.K C)(n:NoAttr X.K C f)(hl:fs.length < 1000)(ry:RelV y u)
  (h:∀ s',Inv X pins σ (upd H a (.ins C dx (AF f y fs))) s'->Q .unit s'):wpAny #[5] A (setAttr (.ref a) f u) Q E s:=by
 let ⟨mA,O,r,wi,_,ho⟩:=gi I.hok e;have hz:(fs.map (·.1)).length<=sizeLine:=by rw [List.length_map,sizeLine_eq];omega
 refine yX I.kIn O c.sa c.po n.taker c.hd wi hz λh' O' sb=>h _ ?_;have hd:∃ o,h'.get? dx=some o:=let ⟨o,_,_,e',_⟩:=O'.ns;⟨o,e'⟩
 refine I.write (x:=a) (e:=dx) (by rw [e];exact True.intro) (.inr ho) (λb q hb z=>(sb.2 b hb).trans z) hd ?_
 refine ⟨by rw [ae O.ne];exact ho,?_,O.ne,O'.obj,_,O'.ns,λg => ?_,λg hg => ?_⟩
 .have:=iG f y fs;omega
 .show RelO ((AF f y fs).lookup g) (if g=f then some u else mA g)
  rw [iy];by_cases q:g=f
  .rw [if_pos q,if_pos q];exact ry
  .rw [if_neg q,if_neg q];exact r g
 .by_cases q:g=f
  .rw [q];exact (fK f y fs).1
  .refine (fK f y fs).2 g (wi g λz=>hg ?_)
   show (if g=f then some u else mA g)=none
   rw [if_neg q];exact z
def Inv.made(I:Inv X pins σ H s):Inv X pins σ (upd (upd H s.heap.objs.size (.own (s.heap.objs.size+1))) (s.heap.objs.size+1) (.ins C s.heap.objs.size []))
  { s with heap:=#[25].push #[44] }:=by
 have e1:#[25].get? s.heap.objs.size=some PySem.W.emptyDict:=HE s.heap rfl;have e2:(#[25].push #[44]).get? (s.heap.objs.size+1)=some #[44]:=by
  have:=HE #[25] (o:=PySem.W.instObj C s.heap.objs.size) rfl;rwa [Heap.size_push] at this
 have e3:#[25].Ns s.heap.objs.size (λ_=>none):=⟨PySem.W.emptyDict,#[],_,e1,rfl,(λe he=>absurd he #[3]),λ_=>rfl⟩
 have I1:=I.laid (a:=s.heap.objs.size) (o := .own (s.heap.objs.size+1)) (h':=s.heap.push PySem.W.emptyDict) (t':=s.toks) (λb u q=>Hw _ q) (HA _) ⟨_,e1⟩;refine I1.laid (a:=s.heap.objs.size+1) (o := .ins C s.heap.objs.size []) (t':=s.toks) (λb u q=>Hw _ q) (Nat.le_of_eq (Heap.size_push _ _)) ?_;have ne:s.heap.objs.size≠s.heap.objs.size+1:=HD (Nat.lt_succ_self _);refine ⟨by rw [ae ne,upd_same],Nat.zero_le _,ne,e2,λ_=>none,(Heap.Ns1.of_empty e3).at λo q=>Hw _ q,λ_=>True.intro,λy hy=>absurd rfl hy⟩
def y4{f:Str}{Q:Value->Shared->Prop}(hb:attributeBase e f env (eval e env)=eval e env)
  (h:wpAny #[12] A (eval e env) (λo s₁ => wpAny #[12] A (getAttr o f true) Q E s₁) E s):wpAny #[12] A (eval (.Attribute e f pos) env) Q E s :=
 Attribute_any_ h (by rw [arm_eval_Attribute,hb])
end
def IE(K:HG)(ta:TE)(f:Str):TE:=λσ H Q=>ta σ H λx H1 => ∃ a C dx fs v,x=.ref a/\H1 a=some (.ins C dx fs)/\Cls K C/\NoAttr K C f/\fs.lookup f=some v/\Q v H1
def IF(K:HG)(ta tv:TE)(f:Str):TS:=λD σ H=>tv σ H λy H1=>ta σ H1 λx H2 => ∃ a C dx fs,x=.ref a/\H2 a=some (.ins C dx fs)/\Cls K C/\NoAttr K C f/\fs.length < 1000 /\
 D.nx σ (upd H2 a (.ins C dx (AF f y fs)))
def Gs(X:Cx)(op:Operator)(rd:V->V->Hp->VK->Prop):Prop :=
 ∀ (pins:List (Addr×Obj)) (s:Shared) (σ:St) (H:Hp) (x y:V) (u v:Value) (Q:VK),Inv X pins σ H s->RelV x u->RelV y v->rd x y H Q->wpAny #[5] X.A (inplaceOp op u v) #[17] X.xe s
def GS(K:HG)(ta tv:TE)(rd:V->V->Hp->VK->Prop)(f:Str):TS:=λD σ H=>ta σ H λx H1 => ∃ a C dx fs v,x=.ref a/\H1 a=some (.ins C dx fs)/\Cls K C/\NoAttr K C f/\fs.lookup f=some v /\
 tv σ H1 λy H2=>rd v y H2 λz H3 => ∃ dx' fs',H3 a=some (.ins C dx' fs')/\fs'.length < 1000/\D.nx σ (upd H3 a (.ins C dx' (AF f z fs')))
section
variable{value:Expr}{f:Str}{tpos:Pos}{tv:TE}
def abh(he:PE X e ta)(hb:attributeBase e f X.env (eval e X.env)=eval e X.env):PE X (.Attribute e f pos) (IE X.K ta f):=by
 intro pins s σ H Q I h;refine y4 hb (thn (he pins s σ H _ I h) ?_);rintro u s1 ⟨x,H1,I1,rx,a,C,dx,fs,v,ex,ea,c,n,l,q⟩;subst ex;obtain rfl:u=Value.ref a:=rx;exact iL I1 ea c n l λu' s2 I2 ru=>⟨v,H1,I2,ru,q⟩
def aaH(ha:PE X o ta)(hv:PE X value tv)(hs:swapsWith value (some (.Attribute o f pos')) pos.line X.env=pure false):PS X (.Assign [.Attribute o f pos'] value pos) (IF X.K ta tv f):=by
 intro pins s σ H D I h;refine plainObj_wpAny_Assign_Attribute (thn (hv pins s σ H _ I h) λu s1 ⟨y,H1,I1,ry,q⟩=>thn (ha pins s1 σ H1 _ I1 q) λov s2 ⟨x,H2,I2,rx,a,C,dx,fs,ex,ea,c,n,l,q2⟩ => ?_) hs;subst ex;obtain rfl:ov=Value.ref a:=rx;exact iJ I2 ea c n l ry λs3 I3=>⟨σ,_,I3,q2⟩
def vA{op:Operator}{rd:V->V->Hp->VK->Prop}(ha:PE X o ta)(hv:PE X value tv)(hop:Gs X op rd):PS X (.AugAssign (.Attribute o f tpos) op value pos) (GS X.K ta tv rd f):=by
 intro pins s σ H D I h;refine wpAny_AugAssign_AttributeAny (thn (ha pins s σ H _ I h) ?_);rintro ov s1 ⟨x,H1,I1,rx,a,C,dx,fs,v,ex,ea,c,n,l,q⟩;subst ex;obtain rfl:ov=Value.ref a:=rx;refine iL I1 ea c n l λu s2 I2 ru=>thn (hv pins s2 σ H1 _ I2 q) λw3 s3 ⟨y,H2,I3,ry,q3⟩=>thn (hop pins s3 σ H2 v y u w3 _ I3 ru ry q3) ?_;rintro w4 s4 ⟨z,H3,I4,rz,dx',fs',ea',l',q4⟩;exact iJ I4 ea' c n l' rz λs5 I5=>⟨σ,_,I5,q4⟩
def rAdd:V->V->Hp->VK->Prop:=λx y H Q => ∃ i j,x=.int i/\y=.int j/\Q (.int (i+j)) H
def abr:Gs X .Add rAdd:=by
 rintro pins s σ H x y u v Q I rx ry ⟨i,j,rfl,rfl,q⟩;let ⟨t,rfl⟩:=(show ∃ t,u=Value.int i t from rx);let ⟨t',rfl⟩:=(show ∃ t',v=Value.int j t' from ry);exact PyProof.Rows.iadd_int ⟨.int (i+j),H,I.tok _,⟨_,rfl⟩,q⟩
end
section
variable{E:Value->Shared->Prop}{Q:Value->Shared->Prop}{c:Value}
inductive TyOf(K:HG)(H:Hp):V->Value->Prop where
 | non:TyOf K H .non (.type "NoneType")
 | bl (x:Bool):TyOf K H (.bl x) (.type "bool")
 | int (i:Int):TyOf K H (.int i) (.type "int")
 | str (x:Str):TyOf K H (.str x) (.type "str")
 | flt (x:UInt64):TyOf K H (.flt x) (.type "float")
 | lst {a:Addr} {xs:List V} (e:H a=some (.lst xs)):TyOf K H (.ref a) (.type "list")
 | frz {a:Addr} {o:Obj} {xs:List V} (e:H a=some (.frz o (.lst xs))):TyOf K H (.ref a) (.type "list")
 | tup {a:Addr} {xs:List V} (e:H a=some (.tup xs)):TyOf K H (.ref a) (.type "tuple")
 | dK {a:Addr} {kvs:List (Key×V)} (e:H a=some (.dK kvs)):TyOf K H (.ref a) (.type "dict")
 | dT {a:Addr} {kvs:List (List Key×V)} (e:H a=some (.dT kvs)):TyOf K H (.ref a) (.type "dict")
 | ins {a C dx:Addr} {fs:List (Str×V)} (e:H a=some (.ins C dx fs)) (cl:Cls K C) (ha:PySem.W.findIn K (.ref C) "__class__" = some (some (.builtin "object.__class__")))
   (hn:PySem.W.specialIn K (.builtin "object.__class__") "__get__" = some (some (.builtin "getset_descriptor.__get__"))) (htk:PySem.W.takesIn K (.builtin "object.__class__")=some true)
   (hm:PySem.W.mroIn K C (.type "object")=some true):TyOf K H (.ref a) (.ref C)
end
end L2
namespace L2
open PySem PySem.Spec PyProof.Rows
structure Room(k:Nat)(A:Around):Prop where
 hd:A.handled=none
 dp:A.depth+3*k+5 < recursionLimit
 un:A.units+16*k+200 < cLine
 gd:A.guards=some []
def Room.deeper{k:Nat}{A:Around}(r:Room (k+1) A)(env:Env):Room k (A.deeper env) :=
 ⟨r.hd,by have:=r.dp;show A.depth+1+3*k+5 < _;omega,by have:=r.un;show A.units+3+16*k+200 < _;omega,r.gd⟩
def uE{C:Addr}{us:List Value}:(A.under (.builtin "type.__call__" ⟨.ref C :: us,kw⟩)).depth=A.depth+1:=by
 first | rfl | simp [Around.under,Code.weight,Code.isCreation,Code.isGuard,Code.isCaller,Code.frames,Code.isFrame,guardIds]
def uW{C:Addr}{us:List Value}:(A.under (.builtin "type.__call__" ⟨.ref C :: us,kw⟩)).units=A.units+1:=by
 first | rfl | simp [Around.under,Code.cUnits,Code.frames,Code.isFrame]
def Room.make{k:Nat}(r:Room (k+1) A)(C:Addr)(us:List Value)(kw:List (Str×Value)):Room k (A.under (.builtin "type.__call__" ⟨.ref C :: us,kw⟩)) :=
 ⟨r.hd,by have:=r.dp;rw [uE];omega,by have:=r.un;rw [uW];omega,(show A.guards=_ from r.gd)⟩
def Room.depth{k:Nat}{A:Around}(r:Room k A):A.depth < recursionLimit:=by have:=r.dp;omega
def Room.units{k:Nat}{A:Around}(r:Room k A):A.units+64 < cLine:=by have:=r.un;omega
def Ej:TA:=λ_ H Q=>Q [] H
def FN(ta:TE)(tr:TA):TA:=λσ H Q=>ta σ H λx H1=>tr σ H1 λxs H2=>Q (x :: xs) H2
section
variable{t:TA}
def bp:PA X [] Ej:=λ_ _ _ _ H Q I h=>Calls.spliced_nil ⟨[],H,I,.nil,h⟩
def aL(ha:PE X e te)(hr:PA X es t)(hs:starEach (e :: es) X.env=(false,eval e X.env) :: starEach es X.env:=by rfl):PA X (e :: es) (FN te t):=by
 intro pos pins s σ H Q I h;rw [hs];show wpAny _ _ (spliced ((false,eval e X.env) :: backTo pos (starEach es X.env))) _ _ s;refine Calls.spliced_cons (thn (ha pins s σ H _ I h) ?_);rintro u s1 ⟨x,H1,I1,r1,q1⟩;exact thn (hr pos pins s1 σ H1 _ I1 q1) λus s2 ⟨xs,H2,I2,r2,q2⟩=>⟨x :: xs,H2,I2,.cons r1 r2,q2⟩
def IG(t:TA):TE:=λσ H Q=>t σ H λxs H1=>xs.length<=sizeLine /\ ∀ p,H1 p=none->Q (.ref p) (upd H1 p (.tup xs))
def IH(t:TA):TE:=λσ H Q=>t σ H λxs H1=>xs.length<=sizeLine /\ ∀ p,H1 p=none->Q (.ref p) (upd H1 p (.lst xs))
def aal{x1}(h:PA X es t):PE X (.Tuple es x1 pos) (IG t):=by
 intro pins s σ H Q I hq;refine wpAny_Tuple_spliced (thn (h pos pins s σ H _ I hq) λus s1 ⟨xs,H1,I1,r,z,q⟩=>⟨by rw [<-r.length];exact z,?_⟩)
 have hf:H1 s1.heap.objs.size=none:=I1.hok.fresh (HA _);refine ⟨.ref s1.heap.objs.size,upd H1 s1.heap.objs.size (.tup xs),I1.laid (t':=s1.toks) (λb u e=>Hw _ e) (HA _) ?_,rfl,q _ hf⟩;exact ⟨z,us,r,⟨_,HE _ rfl,rfl,_,rfl⟩⟩
def abk(h:PA X es t):PE X (.List es pos) (IH t):=by
 intro pins s σ H Q I hq;refine wpAny_List_spliced (thn (h pos pins s σ H _ I hq) λus s1 ⟨xs,H1,I1,r,z,q⟩=>⟨by rw [<-r.length];exact z,?_⟩)
 have hf:H1 s1.heap.objs.size=none:=I1.hok.fresh (HA _);refine ⟨.ref s1.heap.objs.size,upd H1 s1.heap.objs.size (.lst xs),I1.laid (t':=s1.toks) (λb u e=>Hw _ e) (HA _) ?_,rfl,q _ hf⟩;exact ⟨z,us,0,r,HE _ rfl⟩
end
abbrev Sp:=List V->Hp->VK->XK->Prop
abbrev CXT:=List Env->Hp->Shared->XK->Value->Shared->Prop
structure Env0(P:Program)(w:World)(K:HG)(mg:Str->Option Value)(base:Heap)(A:Around)(outer:List Env)(s:Shared)(H:Hp):Prop where
 frames:A.frames=some outer
 mod:Mod K mg base
 bs:∀ b o,base.get? b=some o->s.heap.get? b=some o/\H b=none
 bsz:base.objs.size<=s.heap.objs.size
 funs:s.heap.FunFrames base outer
 frf:∀ b∈frs outer,H b=none
 hok:HOk P w H s.heap
 bare:AllBare s.gens
def CE(outer:List Env)(P:Program)(w:World)(H:Hp)(s:Shared)(Q:VK)(u:Value)(s':Shared):Prop :=
 ∃ v H',s'.os=s.os/\AllBare s'.gens/\Un (frs outer) [] H H' s.heap s'.heap/\HOk P w H' s'.heap/\RelV v u/\Q v H'
def CR(CX:CXT)(outer:List Env)(P:Program)(w:World)(H:Hp)(s:Shared)(Q:VK)(E:XK)(r:Result)(s':Shared):Prop :=
 match r with
 | .ok (.ret u)=>CE outer P w H s Q u s'
 | .ok _=>False
 | .error e=>CX outer H s E e s'
structure FnOk(P:Program)(w:World)(K:HG)(mg:Str->Option Value)(base:Heap)(CX:CXT)(k:Nat)(f:Addr)(fd:FuncData)(ps:List Str)(sp:Sp):Prop where
 len:∀ vs H Q E,sp vs H Q E->vs.length=ps.length
 run:∀ (A:Around) (outer:List Env) (s:Shared) (H:Hp) (args:Args) (us:List Value) (vs:List V) (Q:VK) (E:XK),Room k A->Env0 P w K mg base A outer s H->BindsTo s fd args (ps.zip us)->Vals vs us->sp vs H Q E ->
  codeAny (model P w) A (.call (.ref f) args) (CR CX outer P w H s Q E) s
def Env0.make{P:Program}{outer:List Env}(e:Env0 P w K mg base A outer s H)(C:Addr)(us:List Value)(kw:List (Str×Value)):
  Env0 P w K mg base (A.under (.builtin "type.__call__" ⟨.ref C :: us,kw⟩)) outer s H:=⟨by first | exact e.frames | (simpa [Around.under,Code.envs,Code.isFrame,pushEnvs] using e.frames),e.mod,e.bs,e.bsz,e.funs,e.frf,e.hok,e.bare⟩
section
variable{s':Shared}
def Inv.env0(I:Inv X pins σ H s):Env0 X.prog X.w X.K X.mg X.base X.A X.stack s H :=
 ⟨I.ok.frames,I.ok.mod,I.bs,Hy I.ok.bsz I.sz,I.stack,I.stkFree,I.hok,I.bare⟩
def Inv.after{Q:VK}{u:Value}(I:Inv X pins σ H s)(h:CE X.stack X.prog X.w H s Q u s'):EP X pins σ Q u s':=by
 let ⟨v,H',os,bare,un,hok,r,q⟩:=h;let ⟨hh,g,d,t,os'⟩:=s';obtain rfl:os'=s.os:=os;exact ⟨v,H',I.call (h':=hh) (g':=g) (d':=d) (t':=t) (ch:=[]) un hok bare (λb z=>absurd z #[3]),r,q⟩
end
def FG(sp:Sp)(dvs:List V)(E:XK)(t:TA):TE:=λσ H Q=>t σ H λvs H1=>sp (vs++dvs) H1 Q E
def Binds(K:HG)(fd:FuncData)(ps:List Str)(ds:List Value):Prop :=
 ∀ (s:Shared) (us:List Value),K.In s.heap->(us++ds).length=ps.length->BindsTo s fd ⟨us,[]⟩ (ps.zip (us++ds))
def Binds.all(h:∀ us:List Value,us.length=ps.length->bindArgs fd ⟨us,[]⟩=pure (ps.zip us)):Binds K fd ps []:=λs us _ hl=>by
 rw [List.append_nil] at hl ⊢;exact .of_eq (h us hl)
def AO(CX:CXT)(X:Cx)(E:XK):Prop := ∀ (pins:List (Addr×Obj)) (σ:St) (H:Hp) (s:Shared) (e:Value) (s':Shared),Inv X pins σ H s->CX X.stack H s E e s'->X.xe e s'
section
variable{CX:CXT}{k:Nat}{f C:Addr}{sp:Sp}{dvs:List V}{ds:List Value}{E:XK}{m:Str}{t:TA}
def oO{Q:VK}{us:List Value}(F:FnOk X.prog X.w X.K X.mg X.base CX k f fd ps sp)(hr:Room k X.A)(hb:Binds X.K fd ps ds)(hd:Vals dvs ds)(hx:AO CX X E)
  (I:Inv X pins σ H s) (r:Vals vs us) (h:sp (vs++dvs) H Q E):wpAny #[5] X.A (call (.ref f) us) #[17] X.xe s:=by
 have r2:Vals (vs++dvs) (us++ds):=r.append hd;have hl:(us++ds).length=ps.length:=by rw [<-r2.length];exact F.len _ _ _ _ h
 refine wpAny_call (codeAny_mono (F.run X.A X.stack s H ⟨us,[]⟩ (us++ds) (vs++dvs) Q E hr I.env0 (hb s us I.kIn hl) r2 h) λr s' hq => ?_);cases r with
 | error e=>exact hx pins σ H s e s' I hq
 | ok fl =>
  cases fl with
  | ret u=>exact I.after hq
  | next=>exact False.elim hq
  | brk=>exact False.elim hq
  | cont=>exact False.elim hq
def xF(F:FnOk X.prog X.w X.K X.mg X.base CX k f fd ps sp)(hr:Room k X.A)(hg:Gl X x)(hm:X.mg x=some (.ref f))(hk:PySem.W.keepIn X.K (.ref f)=true)(hb:Binds X.K fd ps ds)(hd:Vals dvs ds)(hx:AO CX X E)
  (ha:PA X (e :: es) t) (hdb:(x == ("__debug__" : Str))=false:=by decide) (he:starEach (e :: es) X.env=(false,eval e X.env) :: starEach es X.env:=by rfl) (hpl:#[11].any (·.1)=false:=by rfl) :
  PE X (.Call (.Name x p) (e :: es) [] pos) (FG sp dvs E t):=by
 intro pins s σ H Q I h;refine wpAny_Call_Name_kw (cv I hg hm ?_ hdb);refine PySem.W.callWith_K (h₀ := X.base) I.ok.mod.kin hk (thn (ha pos pins s σ H _ I h) λus s1 ⟨vs,H1,I1,r,q⟩=>⟨I1.kIn,?_⟩) he hpl;exact oO F hr hb hd hx I1 r q
def wc(F:FnOk X.prog X.w X.K X.mg X.base CX k f fd ps sp)(hr:Room k X.A)(hg:Gl X x)(hm:X.mg x=some (.ref f))(hk:PySem.W.keepIn X.K (.ref f)=true)(hb:Binds X.K fd ps ds)(hd:Vals dvs ds)(hx:AO CX X E)
  (hdb:(x == ("__debug__" : Str))=false:=by decide):PE X (.Call (.Name x p) [] [] pos) (FG sp dvs E Ej):=by
 intro pins s σ H Q I h;refine wpAny_Call_Name_kw (cv I hg hm ?_ hdb);exact PySem.W.callWith_K0 I.kIn hk (oO (us:=[]) F hr hb hd hx I .nil h)
structure Mk(K:HG)(C f:Addr):Prop where
 makes:PySem.W.makesIn K C=true
 init:PySem.W.findIn K (.ref C) "__init__" = some (some (.ref f))
 fn:PySem.W.isFn K (.ref f)=true
 kp:PySem.W.keepIn K (.ref C)=true
end
def PK(X:Cx)(kws:List Keyword)(t:TA):Prop :=
 ∀ (pos:Pos) (pins:List (Addr×Obj)) (s:Shared) (σ:St) (H:Hp) (Q:List V->Hp->Prop),Inv X pins σ H s->t σ H Q->wpAny #[5] X.A (evalAll (#[7].map (·.2))) (AP X pins σ Q) X.xe s
section
variable{CX:CXT}{k:Nat}{f C:Addr}{sp:Sp}{E:XK}{m:Str}{kpos:Pos}{t tk:TA}{nm:Option Str}
def aan:PK X [] Ej:=λ_ _ _ _ H Q I h=>wpAny_evalAll_nil ⟨[],H,I,.nil,h⟩
def yz(ha:PE X e te)(hr:PK X kws t):PK X (⟨nm,e,kpos⟩ :: kws) (FN te t):=by
 intro pos pins s σ H Q I h;show wpAny _ _ (evalAll ((do let v <- eval e X.env;standAt pos;pure v) :: #[7].map (·.2))) _ _ s
 refine wpAny_evalAll_cons (ZB (thn (ha pins s σ H _ I h) λu s1 ⟨x,H1,I1,r1,q1⟩=>ZB (wpAny_standAt (ZP ?_))));exact thn (hr pos pins s1 σ H1 _ I1 q1) λus s2 ⟨xs,H2,I2,r2,q2⟩=>⟨x :: xs,H2,I2,.cons r1 r2,q2⟩
structure KBinds(K:HG)(fd:FuncData)(ps ks:List Str)(g:List Value->List Value->List Value)(gV:List V->List V->List V):Prop where
 to:∀ (s:Shared) (us ws:List Value),K.In s.heap->(g us ws).length=ps.length->BindsTo s fd ⟨us,ks.zip ws⟩ (ps.zip (g us ws))
 rel:∀ {vs:List V} {us:List Value} {zs:List V} {ws:List Value},Vals vs us->Vals zs ws->Vals (gV vs zs) (g us ws)
def Fu(sp:Sp)(gV:List V->List V->List V)(E:XK)(t tk:TA):TE:=λσ H Q=>t σ H λvs H1=>tk σ H1 λzs H2=>sp (gV vs zs) H2 Q E
variable{g:List Value->List Value->List Value}
def eK{Q:VK}{us ws:List Value}{zs:List V}(F:FnOk X.prog X.w X.K X.mg X.base CX k f fd ps sp)(hr:Room k X.A)(hb:KBinds X.K fd ps ks g gV)(hx:AO CX X E)
  (I:Inv X pins σ H s) (r:Vals vs us) (rz:Vals zs ws) (h:sp (gV vs zs) H Q E):wpAny #[5] X.A (call (.ref f) us (ks.zip ws)) #[17] X.xe s:=by
 have r2:=hb.rel r rz;have hl:(g us ws).length=ps.length:=by rw [<-r2.length];exact F.len _ _ _ _ h
 refine wpAny_call (codeAny_mono (F.run X.A X.stack s H ⟨us,ks.zip ws⟩ (g us ws) (gV vs zs) Q E hr I.env0 (hb.to s us ws I.kIn hl) r2 h) λr s' hq => ?_);cases r with
 | error e=>exact hx pins σ H s e s' I hq
 | ok fl =>
  cases fl with
  | ret u=>exact I.after hq
  | next=>exact False.elim hq
  | brk=>exact False.elim hq
  | cont=>exact False.elim hq
def wQ(F:FnOk X.prog X.w X.K X.mg X.base CX k f fd ps sp)(hr:Room k X.A)(hg:Gl X x)(hm:X.mg x=some (.ref f))(hk:PySem.W.keepIn X.K (.ref f)=true)(hb:KBinds X.K fd ps ks g gV)(hx:AO CX X E)
  (ha:PA X (e :: es) t) (hkw:PK X kws tk) (hall:#[7].all (·.1.isSome)=true:=by rfl) (hks:#[7].filterMap (·.1)=ks:=by rfl)
  (hdb:(x == ("__debug__" : Str))=false:=by decide) (he:starEach (e :: es) X.env=(false,eval e X.env) :: starEach es X.env:=by rfl)
  (hpl:((backTo pos (starEach (e :: es) X.env)).any (·.1) || #[7].any (·.1.isNone))=false:=by rfl) :
  PE X (.Call (.Name x p) (e :: es) kws pos) (Fu sp gV E t tk):=by
 intro pins s σ H Q I h;refine wpAny_Call_Name_kw (cv I hg hm ?_ hdb);refine PySem.W.callWith_KW (h₀ := X.base) I.ok.mod.kin hk hall (thn (ha pos pins s σ H _ I h) λus s1 ⟨vs,H1,I1,r,q⟩ => ?_) hpl he;refine thn (hkw pos pins s1 σ H1 _ I1 q) λws s2 ⟨zs,H2,I2,rz,q2⟩=>⟨I2.kIn,?_⟩;rw [hks];exact eK F hr hb hx I2 r rz q2
end
structure FnScope(N P:List Str)(sc:Scope):Prop where
 kind:sc.kind=.function
 co:sc.isCoroutine=false
 gen:sc.isGenerator=false
 nd:N.Nodup
 pre:N.take P.length=P
 par:∀ x∈P,sc.names.lookup x=some .local\/sc.names.lookup x=some .cell
 nofree:∀ y∈sc.names,y.2 ≠ .free
def jn{kindOf:Str->Option NameKind}{x:Str}:∀ {binds:List (Str×Value)} {m:Str->Option Value},(∀ v,(x,v) ∉ binds)->bindL kindOf binds m x=m x
 | [],_,_=>rfl
 | (n,v) :: r,m,h=>by
  unfold bindL;rw [jn λw hw=>h w (HB _ hw)];split
  .have:x≠n:=by rintro rfl;exact h v List.mem_cons_self
   simp [this]
  .rfl
def jx{kindOf:Str->Option NameKind}{x:Str}:∀ {binds:List (Str×Value)} {m:Str->Option Value},(∀ v,(x,v) ∉ binds)->bindC kindOf binds m x=m x
 | [],_,_=>rfl
 | (n,v) :: r,m,h=>by
  unfold bindC;rw [jx λw hw=>h w (HB _ hw)];split
  .rfl
  .have:x≠n:=by rintro rfl;exact h v List.mem_cons_self
   simp [this]
def jg{kindOf:Str->Option NameKind}{x:Str}{v:Value}:∀ {P:List Str} {vs:List Value} {i:Nat} {m:Str->Option Value},P.Nodup->P[i]? = some x->vs[i]? = some v->kindOf x=some .local ->
  bindL kindOf (P.zip vs) m x=some v
 | [],_,_,_,_,h,_,_=>by simp at h
 | _ :: _,[],_,_,_,_,h,_=>by simp at h
 | p :: P,w :: vs,0,m,nd,h1,h2,hk=>by
  simp at h1 h2;subst h1;subst h2;show bindL kindOf ((p,w) :: P.zip vs) m p=_;unfold bindL;rw [jn λv hv=>#[46].1 (List.of_mem_zip hv).1,if_pos hk];simp
 | p :: P,w :: vs,i+1,m,nd,h1,h2,hk=>by
  show bindL kindOf ((p,w) :: P.zip vs) m x=_;unfold bindL;exact jg (i:=i) #[46].2 (by simpa using h1) (by simpa using h2) hk
def iV{kindOf:Str->Option NameKind}{x:Str}{v:Value}:∀ {P:List Str} {vs:List Value} {i:Nat} {m:Str->Option Value},P.Nodup->P[i]? = some x->vs[i]? = some v->kindOf x≠some .local ->
  bindC kindOf (P.zip vs) m x=some v
 | [],_,_,_,_,h,_,_=>by simp at h
 | _ :: _,[],_,_,_,_,h,_=>by simp at h
 | p :: P,w :: vs,0,m,nd,h1,h2,hk=>by
  simp at h1 h2;subst h1;subst h2;show bindC kindOf ((p,w) :: P.zip vs) m p=_;unfold bindC;rw [jx λv hv=>#[46].1 (List.of_mem_zip hv).1,if_neg hk];simp
 | p :: P,w :: vs,i+1,m,nd,h1,h2,hk=>by
  show bindC kindOf ((p,w) :: P.zip vs) m x=_;unfold bindC;exact iV (i:=i) #[46].2 (by simpa using h1) (by simpa using h2) hk
def start(N:List Str)(vs:List V):St:=vs.map some++List.replicate (N.length - vs.length) none
def Cj(CX:CXT)(P:Program)(w:World)(K:HG)(mg:Str->Option Value)(base:Heap)(N:List Str)(qual:Str)(scope:Scope)(f:Addr)(cd:Value)(A:Around)(outer:List Env)(s:Shared)(H:Hp)(E:XK):Cx where
 prog:=P
 w:=w
 K:=K
 mg:=mg
 base:=base
 A:=A.deeper #[20]
 N:=N
 s₀ := s
 H₀ := H
 env:=envOfC qual scope s.heap.objs.size f cd
 outer:=outer
 stack:=envOfC qual scope s.heap.objs.size f cd :: outer
 ex:=[]
 calm:=true
 fn:=λ_=>true
 pn:=[]
 xe:=λe s'=>wpAny (model P w) (A.deeper #[20]) (leaving #[20] e) (λ_ s''=>CX outer H s E e s'') (λe' s''=>CX outer H s E e' s'') s'
def jL{sc:Scope}(h:sc.names.lookup x=some .cell):∃ c,(cellsFrom n sc.names []).lookup x=some c:=by
 have q:=PySem.W.cellsFrom_some sc.names n [] (.inl h);exact Option.isSome_iff_exists.mp q
def vU{CX:CXT}{P:Program}{qual:Str}{f:Addr}{cd:Value}{outer:List Env}{s1:Shared}{E:XK}{us:List Value}
  (S:FnScope N ps scope) (hd:A.handled=none) (e0:Env0 P w K mg base A outer s H) (hl:vs.length=ps.length) (r:Vals vs us)
  (x:InCallC s s.heap.objs.size (bindL #[20].kindOf (ps.zip us) λ_=>none) (cellsFrom (s.heap.objs.size+1) scope.names []) (bindC #[20].kindOf (ps.zip us) λ_=>none) s1) :
  Inv (Cj CX P w K mg base N qual scope f cd A outer s H E) [] (start N vs) H s1:=by
 have hpl:ps.length<=N.length:=by have:=congrArg List.length S.pre;rw [List.length_take] at this;omega
 let ⟨h1,tk,rfl,hk⟩:=x.done;have noA:∀ b:Addr,b ∉ (Cj CX P w K mg base N qual scope f cd A outer s H E).ex:=λb z=>absurd (show b∈([]:List Addr) from z) #[3]
 refine ⟨⟨e0.mod,S.kind,rfl,rfl,HA _,λy z c h1 h2 => ?_,λy hy => ?_,λy c _ h => ?_,λ_=>hd,Around.frames_deeper e0.frames,.inr ⟨rfl,rfl⟩,λb z=>absurd z (noA b),e0.bs,e0.bsz,λb _ _=>noA b,λb z=>absurd z (noA b),e0.funs,e0.frf⟩,
  rfl,e0.bare,Un.kept hk,⟨_,x.toInCall.ns,λi y v h1 h2 h3 => ?_⟩,λy c h=>⟨_,x.cell y c h⟩,e0.hok.fresh (HA _),λy c h => ?_,λp hp=>absurd (show p∈([]:List (Addr×Obj)) from hp) #[3],e0.hok.kept hk,?_⟩
 .exact name_of_addr x.apart (PySem.mem_of_lookup h1) (PySem.mem_of_lookup h2)
 .have hy:scope.names.lookup y=some .cell\/scope.names.lookup y=some .free:=hy
  rcases hy with hy | hy
  .exact jL hy
  .exact absurd rfl (S.nofree _ (PySem.mem_of_lookup hy))
 .exact Nat.le_of_lt (x.above y c (PySem.mem_of_lookup h))
 .have hi:i < vs.length:=by
   unfold start at h2;by_cases hi:i < vs.length
   .exact hi
   .rw [List.getElem?_append_right (by simpa using hi)] at h2
    rw [List.getElem?_replicate] at h2;split at h2 <;> cases h2
  have ha:vs[i]? = some v:=by
   unfold start at h2;rw [List.getElem?_append_left (by simpa using hi),List.getElem?_map] at h2
   cases e:vs[i]? with
   | none=>rw [e] at h2;cases h2
   | some a=>rw [e] at h2;cases h2;rfl
  let ⟨u,hu,rv⟩:=r.get ha;have hp:ps[i]? = some y:=by
   rw [<-S.pre,List.getElem?_take_of_lt ()];exact h1
  have ndP:ps.Nodup:=by rw [<-S.pre];exact S.nd.sublist (List.take_sublist _ _)
  refine ⟨u,rv,?_⟩;rcases S.par y (List.mem_of_getElem? hp) with k | k
  .exact .inl ⟨k,jg ndP hp hu k⟩
  .obtain ⟨c,e⟩:=jL (n:=s.heap.objs.size+1) k
   refine .inr ⟨.inl k,c,e,?_⟩;have q:=x.cell y c e;rw [iV ndP hp hu (by show scope.names.lookup y≠_;rw [k];decide)] at q
   exact q
 .exact e0.hok.fresh (Nat.le_of_lt (x.above y c (PySem.mem_of_lookup h)))
 .unfold start
  show _=N.length;rw [List.length_append,List.length_map,List.length_replicate];omega
def acS{CX:CXT}{P:Program}{k:Nat}{f:Addr}{name qual:Str}{params:Arguments}{body:List Stmt}{scope:Scope}{dV Ic doc pm cdv ct JV:Value}{an od:Option Addr}
  {osl:Array (Option Value)} {N ps:List Str} {sp:Sp} (lk:K.lookup f=some ⟨JV,od,.func (PySem.W.fnOf name qual params body scope dV Ic doc pm an cdv ct),osl⟩) (hcd:PySem.W.codeIn K cdv qual=true) (S:FnScope N ps scope)
  (len:∀ vs H Q E,sp vs H Q E->vs.length=ps.length)
  (hbody:∀ (A:Around) (outer:List Env) (s:Shared) (H:Hp) (vs:List V) (Q:VK) (E:XK),Room k (A.deeper (envOfC qual scope s.heap.objs.size f cdv))->sp vs H Q E ->
   ∃ t,PSs #[39] body t/\t { nx:=λ_ H'=>Q .non H',rt:=Q } (start N vs) H) :
  FnOk P w K mg base CX (k+1) f (PySem.W.fnOf name qual params body scope dV Ic doc pm an cdv ct) ps sp:=by
 refine ⟨len,λA outer s H args us vs Q E hr e0 hb r hsp => ?_⟩;have hl:=len _ _ _ _ hsp;have KX:K.In s.heap:=e0.mod.kin.keeps λb o e=>(e0.bs b o e).1;have lim:s.heap.NoLimit:=e0.mod.nolimit.keeps λb o e=>(e0.bs b o e).1;have hkind:∀ y∈ps.zip us,scope.names.lookup y.1=some .local\/(scope.names.lookup y.1=some .cell/\((cellsFrom (s.heap.objs.size+1) scope.names []).lookup y.1).isSome=true):=λ⟨n,v⟩ hy=>by
  rcases S.par n (List.of_mem_zip hy).1 with q | q
  .exact .inl q
  .exact .inr ⟨q,PySem.W.cellsFrom_some _ _ _ (.inl q)⟩
 refine codeAny_call_function hr.depth (KX _ _ lk) rfl S.co S.gen rfl (PySem.W.codeRec_of KX hcd) (hb _ _ _ _ ?_);refine wpAny_newFunctionEnv_cells S.kind hkind λenv he s1 x => ?_;subst he;refine ⟨lim.keeps x.toInCall.keep,codeAny_func ?_⟩;let ⟨t,ht,hq⟩:=hbody A outer s H vs Q E (hr.deeper _) hsp;have I:Inv #[39] [] (start N vs) H s1:=vU S hr.hd e0 hl r x;refine wpAny_mono (ht [] s1 (start N vs) H _ I hq) (λfl s' hs => ?_) λe s' hs=>hs;have fin:∀ {σ':St} {H':Hp} {v:V} {u:Value},Inv #[39] [] σ' H' s'->RelV v u->Q v H'->CE outer P w H s Q u s' :=
  λ{σ' H' v u} J rv q=>⟨v,H',J.os,J.bare,J.base,J.hok,rv,q⟩
 cases fl with
 | ret u =>
  let ⟨v,σ',H',J,rv,q⟩:=hs;exact fin J rv q
 | next =>
  let ⟨σ',H',J,q⟩:=hs;exact fin (v:=V.non) (u:=Value.none) J rfl q
 | brk =>
  let ⟨_,_,_,q⟩:=hs;exact False.elim q
 | cont =>
  let ⟨_,_,_,q⟩:=hs;exact False.elim q
end L2
variable{CX:L2.CXT}
namespace L2
open PySem PySem.Spec PyProof.Rows
section
variable{t:TA}{id T:String}{r:List V->Hp->VK->Prop}
def II(r:List V->Hp->VK->Prop)(t:TA):TE:=λσ H Q=>t σ H λvs H1=>r vs H1 Q
def pe_callB(hc:CallR X (.builtin id) r)(hg:Gl X x)(hm:X.mg x=none)(hv:bootBuiltins x=some (.builtin id))(ha:PA X (e :: es) t)(hn:x ≠ "__name__" := by decide)(hdb:(x == ("__debug__" : Str))=false:=by decide)
  (he:starEach (e :: es) X.env=(false,eval e X.env) :: starEach es X.env:=by rfl) (hpl:#[11].any (·.1)=false:=by rfl):PE X (.Call (.Name x p) (e :: es) [] pos) (II r t):=by
 intro pins s σ H Q I h;refine wpAny_Call_Name_kw (bO I hg hm hv ?_ hn hdb);exact PyProof.Rows.callWith_builtin1 (thn (ha pos pins s σ H _ I h) λus s1 ⟨vs,H1,I1,r1,q1⟩=>hc pins s1 σ H1 vs us Q I1 r1 q1) he hpl
def pe_callTy(hc:CallR X (.type T) r)(hg:Gl X x)(hm:X.mg x=none)(hv:bootBuiltins x=some (.type T))(ha:PA X (e :: es) t)(hn:x ≠ "__name__" := by decide)(hdb:(x == ("__debug__" : Str))=false:=by decide)
  (he:starEach (e :: es) X.env=(false,eval e X.env) :: starEach es X.env:=by rfl) (hpl:#[11].any (·.1)=false:=by rfl):PE X (.Call (.Name x p) (e :: es) [] pos) (II r t):=by
 intro pins s σ H Q I h;refine wpAny_Call_Name_kw (bO I hg hm hv ?_ hn hdb);exact PyProof.Rows.callWith_type1 (thn (ha pos pins s σ H _ I h) λus s1 ⟨vs,H1,I1,r1,q1⟩=>hc pins s1 σ H1 vs us Q I1 r1 q1) he hpl
end
end L2
namespace HT
open PySem PyProof.Rows
section
variable{E:Value->Shared->Prop}
def sIx(n d:Nat):Option Int->Nat
 | none=>d
 | some v=>if v < 0 then (v+(n:Int)).toNat else min v.toNat n
def z6(n d:Nat)(hd:d<=n)(o:Option Int):sIx n d o<=n:=by
 cases o with
 | none=>exact hd
 | some v =>
  show (if v < 0 then (v+(n:Int)).toNat else min v.toNat n)<=n
  by_cases hv:v < 0
  .rw [if_pos hv];omega
  .rw [if_neg hv];exact Nat.min_le_right _ _
def kK(v:Int)(n d:Nat):(if v < 0 then max (v+(n:Int)) 0 else min v (n:Int))=((sIx n d (some v):Nat):Int):=by
 show (if v < 0 then max (v+(n:Int)) 0 else min v (n:Int))=(((if v < 0 then (v+(n:Int)).toNat else min v.toNat n):Nat):Int)
 by_cases hv:v < 0
 .simp only [if_pos hv];omega
 .simp only [if_neg hv];omega
def u4(lo hi:Option Int)(n:Nat):Builtin.Slice.sliceAdjust lo hi 1 (n:Int)=(((sIx n 0 lo:Nat):Int),((sIx n n hi:Nat):Int)):=by
 have h1 : ¬ ((1:Int) < 0):=by omega
 unfold Builtin.Slice.sliceAdjust;simp! [h1,if_false];refine Prod.ext ?_ ?_
 .cases lo with
  | none=>rfl
  | some v=>exact kK v n 0
 .cases hi with
  | none=>rfl
  | some v=>exact kK v n n
def uR(i j:Nat):Builtin.Slice.slicePlaces (i:Int) (j:Int) 1=j - i:=by
 unfold Builtin.Slice.slicePlaces;have h1:(1:Int) > 0:=by omega
 simp! [h1,if_true,Int.ediv_one];split <;> omega
def iP{v:Value}{o:Option Int}{Q:Option Int->Shared->Prop}(p:IsPart v o)(h:Q o s):wpAny #[12] A (Builtin.Slice.slicePartIndex v) Q E s:=by
 cases p with
 | none=>exact slicePart_none h
 | int i t=>exact slicePart_int h
def tO{sl:Addr}{vl vu:Value}{lo hi:Option Int}{Q:Int×Int×Nat->Shared->Prop}(hs:s.heap.IsSliceOf sl vl vu .none)(pl:IsPart vl lo)(pu:IsPart vu hi)
  (h:Q (((sIx n 0 lo:Nat):Int),1,sIx n n hi - sIx n 0 lo) s):wpAny #[12] A (Builtin.Slice.sliceApplied (.ref sl) (pure (n:Int))) Q E s:=by
 let ⟨os,hos,hcs,hds⟩:=id hs;unfold Builtin.Slice.sliceApplied Builtin.Slice.sliceFields;refine ZB (ZB (wpAny_field hos hds (x:=vl) rfl (ZB (wpAny_field hos hds (x:=vu) rfl (ZB (wpAny_field hos hds (x := .none) rfl (ZP ?_)))))));refine ZB (slicePart_none ?_);show wpAny _ _ (if ((1:Int) == 0)=true then _ else _) _ _ s
 rw [if_neg #[1]]
 refine ZB (iP pl (ZB (iP pu (ZB (ZP ?_)))));show wpAny _ _ (match Builtin.Slice.sliceAdjust lo hi 1 (n:Int) with | (lo,hi)=>pure (lo,(1:Int),Builtin.Slice.slicePlaces lo hi 1)) _ _ s
 rw [u4 lo hi n];show wpAny _ _ (pure (((sIx n 0 lo:Nat):Int),(1:Int),Builtin.Slice.slicePlaces ((sIx n 0 lo:Nat):Int) ((sIx n n hi:Nat):Int) 1)) _ _ s;rw [uR];exact ZP h
def wR(xs:Array Value)(i k:Nat):((List.range k).filterMap λ(m:Nat)=>xs[((i:Int)+(m:Int)*1).toNat]?).toArray=((xs.toList.drop i).take k).toArray:=by
 have e:(λ(m:Nat)=>xs[((i:Int)+(m:Int)*1).toNat]?)=λm=>xs[i+m]? := by
  funext m;have:((i:Int)+(m:Int)*1).toNat=i+m:=by omega
  rw [this]
 rw [e];have:=pick_run xs i k;rw [List.filterMap_map] at this;have e2:((λx=>xs[x]?) ∘ λx=>i+x)=λm=>xs[i+m]? := rfl;rw [e2] at this;rw [this]
def getItem_tuple_cut{t sl:Addr}{items:Array Value}{vl vu:Value}{lo hi:Option Int}{Q:Value->Shared->Prop}(ht:IsTup s.heap t items)(hs:s.heap.IsSliceOf sl vl vu .none)(pl:IsPart vl lo)(pu:IsPart vu hi)
  (hw : ¬ (sIx items.size 0 lo=0/\sIx items.size items.size hi=items.size))
  (h:Q (.ref s.heap.objs.size) { s with heap:=s.heap.push { cls := .type "tuple",data := .seq ((items.toList.drop (sIx items.size 0 lo)).take (sIx items.size items.size hi - sIx items.size 0 lo)).toArray } })
  (hsz:items.size<=sizeLine):wpAny #[12] A (getItem (.ref t) (.ref sl)) Q E s:=by
 have htake:sizeOk (.seq ((items.toList.drop (sIx items.size 0 lo)).take (sIx items.size items.size hi - sIx items.size 0 lo)).toArray):=by
  show ((items.toList.drop (sIx items.size 0 lo)).take (sIx items.size items.size hi - sIx items.size 0 lo)).toArray.size<=sizeLine;rw [List.size_toArray,List.length_take,List.length_drop,Array.length_toList];omega
 have hj:sIx items.size items.size hi<=items.size:=z6 _ _ (HA _) hi;let ⟨os,hos,hcs,hds⟩:=id hs;have hTs:s.TypeIs (.ref sl) "slice" := ⟨os,hos,hcs⟩;unfold getItem
 try with_reducible refine wpAny_holding ?_
 first | refine ZB (ZP ?_) | skip
 refine ZB (wpAny_sequenceKey ht.typeIs #[1] ?_)
 refine ZB (wpAny_callSpecial?_slot (name:=Str.ofString "__getitem__") ht.typeIs PyProof.Rows.slot_tuple_getitem
  (wpAny_call_entry PyProof.Rows.slot_tuple_getitem ht.typeIs entry_tuple_getitem ?_ (args_tuple_getitem _ _)))
 show wpAny _ _ (Builtin.Tuple.tupleItemsOf (.ref t) >>= _) _ _ s;refine ZB (tupleItemsOf_ ht ?_);refine ZB (wpAny_typeOf hTs ?_);rw [if_pos #[1]]
 refine ZB (tO hs pl pu ?_);have hno : ¬ ((((sIx items.size 0 lo:Nat):Int) == 0 && (1:Int) == 1 && (sIx items.size items.size hi - sIx items.size 0 lo) == items.size)=true):=by
  intro q;rw [Bool.and_eq_true,Bool.and_eq_true] at q;have q1:((sIx items.size 0 lo:Nat):Int)=0:=eq_of_beq q.1.1;have q2:sIx items.size items.size hi - sIx items.size 0 lo=items.size:=eq_of_beq q.2;exact hw ⟨by omega,by omega⟩
 show wpAny _ _ (if (((sIx items.size 0 lo:Nat):Int) == 0 && (1:Int) == 1 && (sIx items.size items.size hi - sIx items.size 0 lo) == items.size)=true then _ else _) _ _ s
 rw [if_neg hno,wR]
 first
  | exact ZB (m:=Builtin.Tuple.tupleExact _) (wpAny_newObj_type (ZP ⟨_,rfl,ZP h⟩) htake)
  | exact ZB (m:=Builtin.Tuple.tupleExact _) (wpAny_newObj_type (ZB (ZP (ZP ⟨_,rfl,ZP h⟩))) htake)
  | exact ZB (ZB (m:=Builtin.Tuple.tupleExact _) (wpAny_newObj_type (ZP (ZP ⟨_,rfl,ZP h⟩)) htake))
  | exact ZB (ZB (m:=Builtin.Tuple.tupleExact _) (wpAny_newObj_type (ZP ⟨_,rfl,ZP h⟩) htake))
end
end HT
namespace L2
open PySem PySem.Spec PyProof.Rows
abbrev TO:=St->Hp->(Option Int->Hp->Prop)->Prop
def PO(X:Cx)(e:Option Expr)(t:TO):Prop :=
 ∀ (pins:List (Addr×Obj)) (s:Shared) (σ:St) (H:Hp) (Q:Option Int->Hp->Prop),Inv X pins σ H s->t σ H Q ->
  wpAny #[5] X.A (evalPart e X.env) (λu s' => ∃ o H',Inv X pins σ H' s'/\IsPart u o/\Q o H') X.xe s
def GV:TO:=λ_ H Q=>Q none H
def Ha(t:TE):TO:=λσ H Q=>t σ H λx H1 => ∃ i,x=.int i/\Q (some i) H1
section
variable{lo hi:Option Expr}{tl th:TO}{p2:Pos}
def zm:PO X none GV:=by
 intro pins s σ H Q I h;rw [evalPart_none];exact ZP ⟨none,H,I,.none,h⟩
def yE(h:PE X e te):PO X (some e) (Ha te):=by
 intro pins s σ H Q I hw;rw [evalPart_some];refine thn (h pins s σ H _ I hw) ?_;rintro u s1 ⟨x,H1,I1,r1,q1⟩;let ⟨i,rfl,q⟩:=q1;let ⟨t,rfl⟩:=r1;exact ⟨some i,H1,I1,.int i t,q⟩
def SlR(X:Cx)(r:V->Option Int->Option Int->Hp->VK->Prop):Prop :=
 ∀ (pins:List (Addr×Obj)) (s:Shared) (σ:St) (H:Hp) (x:V) (v vl vu:Value) (lo hi:Option Int) (sl:Addr) (Q:VK),Inv X pins σ H s->RelV x v->s.heap.IsSliceOf sl vl vu .none->IsPart vl lo->IsPart vu hi->r x lo hi H Q ->
  ∃ T id,typeLookup (.type T) "__getitem__" = pure (some (.builtin id))/\s.TypeIs v T/\wpAny #[5] X.A (getItem v (.ref sl)) #[17] X.xe s
def SlR.or{r r':V->Option Int->Option Int->Hp->VK->Prop}(h:SlR X r)(h':SlR X r'):SlR X (λx lo hi H Q=>r x lo hi H Q\/r' x lo hi H Q):=by
 intro pins s σ H x v vl vu lo hi sl Q I rx hs pl pu q;rcases q with q | q
 .exact h pins s σ H x v vl vu lo hi sl Q I rx hs pl pu q
 .exact h' pins s σ H x v vl vu lo hi sl Q I rx hs pl pu q
def IJ(r:V->Option Int->Option Int->Hp->VK->Prop)(te:TE)(tl th:TO):TE:=λσ H Q=>te σ H λx H1=>tl σ H1 λl H2=>th σ H2 λu H3=>r x l u H3 Q
def wO{r:V->Option Int->Option Int->Hp->VK->Prop}(hr:SlR X r)(he:PE X e te)(hl:PO X lo tl)(hu:PO X hi th):PE X (.Subscript e (.Slice lo hi none p2) pos) (IJ r te tl th):=by
 intro pins s σ H Q I h;refine Subscript_ (thn (he pins s σ H _ I h) ?_);rintro v s1 ⟨x,H1,I1,r1,q1⟩;refine wpAny_Slice (thn (hl pins s1 σ H1 _ I1 q1) λvl s2 ⟨l,H2,I2,pl,q2⟩=>thn (hu pins s2 σ H2 _ I2 q2) ?_);rintro vu s3 ⟨u,H3,I3,pu,q3⟩;rw [evalPart_none];refine ZP ?_;have I4:Inv X pins σ H3 { s3 with heap:=s3.heap.push { cls := .type "slice",data := .fields #[vl,vu,.none] } }:=I3.kept (t':=s3.toks) λb ob q=>Hw _ q
 let ⟨T,id,hT,ht,hg⟩:=hr pins { s3 with heap:=s3.heap.push { cls := .type "slice",data := .fields #[vl,vu,.none] } } σ H3 x v vl vu l u s3.heap.objs.size Q I4 r1 (Heap.IsSliceOf.new ..) pl pu q3
 show wpAny #[5] X.A (subscriptTail e (.Slice lo hi none p2) v (.ref s3.heap.objs.size)) #[17] X.xe { s3 with heap:=s3.heap.push { cls := .type "slice",data := .fields #[vl,vu,.none] } }
 exact tail_any (ops:=[.ref s3.heap.objs.size,v]) ht hT hg (by with_unfolding_all rfl)
def BI(xs:List V)(lo hi:Option Int):List V:=(xs.drop (HT.sIx xs.length 0 lo)).take (HT.sIx xs.length xs.length hi - HT.sIx xs.length 0 lo)
def iD(xs:List V)(lo hi:Option Int):(BI xs lo hi).length<=xs.length:=by
 unfold BI;rw [List.length_take,List.length_drop];omega
def IK(K:HG):V->Option Int->Option Int->Hp->VK->Prop:=λx lo hi H Q => ∃ a xs,x=.ref a/\SqT K H a xs /\
 ¬ (HT.sIx xs.length 0 lo=0/\HT.sIx xs.length xs.length hi=xs.length) /\ ∀ p,H p=none->Q (.ref p) (upd H p (.tup (BI xs lo hi)))
def abi:SlR X (IK X.K):=by
 intro pins s σ H x v vl vu lo hi sl Q I rx hs pl pu h;let ⟨a,xs,rfl,hx,hw,q⟩:=h;cases rx;let ⟨its,r,ht,hz⟩:=I.tuple hx;have hlen:its.toArray.size=xs.length:=by rw [List.size_toArray];exact r.length.symm
 refine ⟨"tuple",_,PyProof.Rows.slot_tuple_getitem.lookup,ht.typeIs,?_⟩;refine HT.getItem_tuple_cut ht hs pl pu (by rw [hlen];exact hw) ?_ (by rw [hlen];exact hz)
 rw [hlen];refine ⟨.ref s.heap.objs.size,_,I.laid (t':=s.toks) (o := .tup (BI xs lo hi)) (λb ob q=>Hw _ q) (HA _) ?_,rfl,q _ (I.hok.fresh (HA _))⟩;exact ⟨Hy (iD xs lo hi) hz,_,(r.drop (HT.sIx xs.length 0 lo)).take (HT.sIx xs.length xs.length hi - HT.sIx xs.length 0 lo),IsTup.new _ _⟩
end
end L2
namespace L2
open PySem PySem.Spec PyProof.Rows
def ixN(n:Nat)(i:Int):Option Nat:=if 0<=i then (if i < n then some i.toNat else none) else if -(n:Int)<=i then some (i+n).toNat else none
def atI{α:Type}(xs:List α)(i:Int):Option α:=(ixN xs.length i).bind λj=>xs[j]?
def lP{i:Int}(h:ixN n i=some j):seqIndex? i n=some j/\j < n /\ -(n:Int)<=i/\i < n:=by
 unfold ixN at h;by_cases h0:0<=i
 .rw [if_pos h0] at h
  by_cases h1:i < n
  .rw [if_pos h1] at h
   have e:i.toNat=j:=Option.some.inj h;exact ⟨by rw [seqIndex_of h0 h1,e],by omega,by omega,h1⟩
  .rw [if_neg h1] at h;cases h
 .rw [if_neg h0] at h
  by_cases h1 : -(n:Int)<=i
  .rw [if_pos h1] at h
   have e:(i+n).toNat=j:=Option.some.inj h;exact ⟨by rw [seqIndex_neg () h1,e],by omega,h1,by omega⟩
  .rw [if_neg h1] at h;cases h
def lU{xs:List α}{i:Int}{v:α}(h:atI xs i=some v):∃ j,seqIndex? i xs.length=some j/\xs[j]? = some v/\j < xs.length /\ -(xs.length:Int)<=i/\i < xs.length:=by
 unfold atI at h;cases e:ixN xs.length i with
 | none=>rw [e] at h;cases h
 | some j =>
  rw [e] at h;let ⟨h1,h2,h3,h4⟩:=lP e;exact ⟨j,h1,h,h2,h3,h4⟩
def DK(b:Expr):Prop := ∀ o i,subscripted b false o i=operate [o,i] (getItem o i)
def IxR(X:Cx)(r:R2):Prop :=
 ∀ (value slice:Expr) (pins:List (Addr×Obj)) (s:Shared) (σ:St) (H:Hp) (x y:V) (v u:Value) (Q:VK),Inv X pins σ H s->RelV x v->RelV y u->r x y H Q ->
  subscripted slice false v u=operate [v,u] (getItem v u)->wpAny #[5] X.A (subscriptTail value slice v u) #[17] X.xe s
def MtR(X:Cx)(id:String)(r:V->List V->Hp->VK->Prop):Prop :=
 ∀ (pins:List (Addr×Obj)) (s:Shared) (σ:St) (H:Hp) (x:V) (xs:List V) (v:Value) (us:List Value) (Q:VK),Inv X pins σ H s->RelV x v->Vals xs us->r x xs H Q ->
  wpAny #[5] X.A (call (.builtin id) (v :: us)) #[17] X.xe s
section
variable{a b:Expr}{tb:TE}
def IxR.or{r r':R2}(h:IxR X r)(h':IxR X r'):IxR X (λx y H Q=>r x y H Q\/r' x y H Q):=by
 intro value slice pins s σ H x y v u Q I rx ry q hs;rcases q with q | q
 .exact h value slice pins s σ H x y v u Q I rx ry q hs
 .exact h' value slice pins s σ H x y v u Q I rx ry q hs
def adA{r:R2}(hr:IxR X r)(ha:PE X a ta)(hb:PE X b tb)(hs:DK b):PE X (.Subscript a b pos) (Iy r ta tb):=by
 intro pins s σ H Q I h;exact Subscript_ (hU ha hb I h λv u s2 x y H2 I2 rx ry q=>hr a b pins s2 σ H2 x y v u Q I2 rx ry q (hs _ _))
def IL(K:HG):R2:=λx y H Q => ∃ p xs i v,x=.ref p/\y=.int i/\SqL K H p xs/\atI xs i=some v/\Q v H
def IM(K:HG):R2:=λx y H Q => ∃ p xs i v,x=.ref p/\y=.int i/\SqT K H p xs/\atI xs i=some v/\Q v H
def xT:IxR X (IL X.K):=by
 intro value slice pins s σ H x y v u Q I rx ry h hs;let ⟨p,xs,i,z,rfl,rfl,hq,he,q⟩:=h;cases rx;let ⟨t,rfl⟩:=ry;let ⟨its,r,pl,hz⟩:=I.list hq;let ⟨j,h1,h2,h3,h4,h5⟩:=lU he;let ⟨w,ew,rw'⟩:=r.get h2;have hl:=r.length;have hn:=cY;have fin:EP X pins σ Q w s:=⟨z,H,I,rw',q⟩;by_cases h0:0<=i
 .have hj:i.toNat=j:=by
   rw [seqIndex_of h0 h5] at h1;exact Option.some.inj h1
  exact item_listR pl.isList h0 () (by rw [hj];simpa using ew) fin hs
 .have hj:(i+(its.toArray.size:Int)).toNat=j:=by
   rw [seqIndex_neg () h4] at h1
   rw [List.size_toArray,<-hl];exact Option.some.inj h1
  exact subscriptTail_builtinR (x:=w) pl.isList.typeIs slot_list_getitem.lookup
   (wpAny_getItem_list_neg (Q:=λr s'=>r=w/\EP X pins σ Q r s') pl.isList () (by rw [List.size_toArray] <;> omega) () (by rw [hj];simpa using ew) ⟨rfl,fin⟩) hs
def abq:IxR X (IM X.K):=by
 intro value slice pins s σ H x y v u Q I rx ry h hs;let ⟨p,xs,i,z,rfl,rfl,hq,he,q⟩:=h;cases rx;let ⟨t,rfl⟩:=ry;let ⟨its,r,pl,hz⟩:=I.tuple hq;let ⟨j,h1,h2,h3,h4,h5⟩:=lU he;let ⟨w,ew,rw'⟩:=r.get h2;have hl:=r.length;have hn:=cY;have fin:EP X pins σ Q w s:=⟨z,H,I,rw',q⟩;exact subscriptTail_builtinR (x:=w) pl.typeIs slot_tuple_getitem.lookup
  (getItem_tuple (j:=j) (Q:=λr s'=>r=w/\EP X pins σ Q r s') pl () () (by rw [List.size_toArray,<-hl];exact h1) (by simpa using ew) ⟨rfl,fin⟩) hs
def uB(its:List Value)(n j:Nat)(u:Value):Obj.mapSeq (·.setIfInBounds j u) { cls := .type "list",data := .seq its.toArray n }={ cls := .type "list",data := .seq (its.set j u).toArray n }:=by
 simp [Obj.mapSeq]
def Inv.lst{pins:List (Addr×Obj)}{σ:St}{H:Hp}{s:Shared}{p:Addr}{xs:List V}(I:Inv X pins σ H s)(h:H p=some (.lst xs)):
  ∃ (its:List Value) (n:Nat),Vals xs its/\s.heap.get? p=some { cls := .type "list",data := .seq its.toArray n }/\xs.length<=sizeLine:=by
 let ⟨z,its,n,r,e⟩:=I.hok p _ h;exact ⟨its,n,r,e,z⟩
def Inv.lstUpd{p:Addr}{xs ys:List V}{its':List Value}{n':Nat}{f:Obj->Obj}(I:Inv X pins σ H s)(h:H p=some (.lst xs))
  (ho:s.heap.get? p=some { cls := .type "list",data := .seq its.toArray n }) (hf:f { cls := .type "list",data := .seq its.toArray n }={ cls := .type "list",data := .seq its'.toArray n' }) (r:Vals ys its') (hz:ys.length<=sizeLine) (t:Nat) :
  Inv X pins σ (upd H p (.lst ys)) { s with heap:=s.heap.update p f,toks:=t }:=by
 have e:(s.heap.update p f).get? p=some { cls := .type "list",data := .seq its'.toArray n' }:=by
  rw [Heap.get?_update_self f ho (by rw [hf] <;> rfl),hf]
 refine I.write (x:=p) (e:=p) (by rw [h];trivial) (.inl rfl) (λb u hb q=>(Heap.get?_update_other _ _ (Ne.symm hb)).trans q) ⟨_,e⟩ ?_
 exact ⟨hz,its',n',r,e⟩
def Hu:V->V->V->Hp->(Hp->Prop)->Prop:=λo i v H Q => ∃ p xs k j,o=.ref p/\i=.int k/\H p=some (.lst xs)/\ixN xs.length k=some j/\Q (upd H p (.lst (xs.set j v)))
def set_list:Cn X Hu:=by
 intro pins s σ H o i v ov iv u Q I ro ri rv h;let ⟨p,xs,k,j,rfl,rfl,hp,hj,q⟩:=h;cases ro;let ⟨t,rfl⟩:=ri;let ⟨its,n,r,ho,hz⟩:=I.lst hp;let ⟨h1,h2,h3,h4⟩:=lP hj;have hl:=r.length;have hn:=cY;have I':Inv X pins σ (upd H p (.lst (xs.set j v))) { s with heap:=s.heap.update p (Obj.mapSeq (·.setIfInBounds j u)) } :=
  I.lstUpd hp ho (uB its n j u) (r.set rv j) (by rw [List.length_set];exact hz) s.toks
 by_cases h0:0<=k
 .have hk:k.toNat=j:=by
   rw [seqIndex_of h0 h4] at h1;exact Option.some.inj h1
  exact PySem.W.ki_setAt ho h0 () (by rw [List.size_toArray,<-hl];exact h4) (by rw [hk];exact ⟨_,I',q⟩)
 .have hk:(k+(its.toArray.size:Int)).toNat=j:=by
   rw [seqIndex_neg () h3] at h1
   rw [List.size_toArray,<-hl];exact Option.some.inj h1
  exact PySem.W.ki_setBack ho () (by rw [List.size_toArray,<-hl];exact h3) () (by rw [hk];exact ⟨_,I',q⟩)
def t9(lo hi:Option Int)(n:Nat):(sliceBounds lo hi none n).1=((HT.sIx n 0 lo:Nat):Int)/\(sliceBounds lo hi none n).2.1=((HT.sIx n n hi:Nat):Int)/\(sliceBounds lo hi none n).2.2=1:=by
 refine ⟨?_,?_,rfl⟩
 .cases lo with
  | none=>simp [sliceBounds,HT.sIx]
  | some i =>
   simp! [sliceBounds,HT.sIx,Option.getD_none,show (1:Int) > 0 by decide,if_true]
   by_cases h:i < 0
   .simp only [h,if_true] <;> omega
   .simp only [h,if_false] <;> omega
 .cases hi with
  | none=>simp [sliceBounds,HT.sIx]
  | some i =>
   simp! [sliceBounds,HT.sIx,Option.getD_none,show (1:Int) > 0 by decide,if_true]
   by_cases h:i < 0
   .simp only [h,if_true] <;> omega
   .simp only [h,if_false] <;> omega
def tV(its:List Value)(lo hi:Option Int):slicePick its.toArray lo hi none=((its.drop (HT.sIx its.length 0 lo)).take (HT.sIx its.length its.length hi - HT.sIx its.length 0 lo)).toArray:=by
 let ⟨h1,h2,h3⟩:=t9 lo hi its.toArray.size;unfold slicePick;rw [h1,h2,h3];simp! [sliceRange_one,pick_run,List.size_toArray] <;> rfl
def IP(K:HG):V->Option Int->Option Int->Hp->VK->Prop:=λx lo hi H Q => ∃ a xs,x=.ref a/\SqL K H a xs /\ ∀ p,H p=none->Q (.ref p) (upd H p (.lst (BI xs lo hi)))
def yr:SlR X (IP X.K):=by
 intro pins s σ H x v vl vu lo hi sl Q I rx hs pl pu h;let ⟨a,xs,rfl,hx,q⟩:=h;cases rx;let ⟨its,r,ht,hz⟩:=I.list hx;have hlen:=r.length;refine ⟨"list",_,slot_list_getitem.lookup,ht.isList.typeIs,?_⟩;refine wpAny_getItem_list_slice ht.isList hs pl pu .none #[3] ?_ (by rw [List.size_toArray] <;> omega)
 rw [tV,<-hlen];refine ⟨.ref s.heap.objs.size,_,I.laid (t':=s.toks) (o := .lst (BI xs lo hi)) (λb ob q=>Hw _ q) (HA _) ?_,rfl,q _ (I.hok.fresh (HA _))⟩;exact ⟨Hy (iD xs lo hi) hz,_,0,(r.drop (HT.sIx xs.length 0 lo)).take (HT.sIx xs.length xs.length hi - HT.sIx xs.length 0 lo),HE _ rfl⟩
def C4:V->Bool
 | .non=>true
 | .bl _=>true
 | .int _=>true
 | .str _=>true
 | _=>false
def IQ:V->V->Bool
 | .non,.non=>true
 | .bl a,.bl b=>a == b
 | .bl a,.int b=>(if a then 1 else 0) == b
 | .int a,.bl b=>a == (if b then 1 else 0)
 | .int a,.int b=>a == b
 | .str a,.str b=>a == b
 | _,_=>false
def gG{x:V}{u v:Value}(ry:RelV y u)(rx:RelV x v)(fy:C4 y=true)(fx:C4 x=true):SeqAt.EqAt A s u v (IQ y x):=by
 cases y with
 | non =>
  cases ry;cases x with
  | non=>cases rx;exact SeqAt.EqAt.same _
  | bl b=>cases rx;exact SeqAt.EqAt.none_bool b
  | int b=>let ⟨t,rfl⟩:=rx;exact SeqAt.EqAt.none_int b t
  | str b=>let ⟨t,rfl⟩:=rx;exact SeqAt.EqAt.none_str b t
  | _=>exact absurd (show false=true from fx) Hz
 | bl a =>
  cases ry;cases x with
  | non=>cases rx;exact SeqAt.EqAt.bool_none a
  | bl b=>cases rx;exact SeqAt.EqAt.bool_bool a b
  | int b=>let ⟨t,rfl⟩:=rx;exact SeqAt.EqAt.bool_int a b t
  | str b=>let ⟨t,rfl⟩:=rx;exact SeqAt.EqAt.bool_str a b t
  | _=>exact absurd (show false=true from fx) Hz
 | int a =>
  let ⟨t',rfl⟩:=ry;cases x with
  | non=>cases rx;exact SeqAt.EqAt.int_none a t'
  | bl b=>cases rx;exact SeqAt.EqAt.int_bool a t' b
  | int b=>let ⟨t,rfl⟩:=rx;exact SeqAt.EqAt.int_int a t' b t
  | str b=>let ⟨t,rfl⟩:=rx;exact SeqAt.EqAt.int_str a t' b t
  | _=>exact absurd (show false=true from fx) Hz
 | str a =>
  let ⟨t',rfl⟩:=ry;cases x with
  | non=>cases rx;exact SeqAt.EqAt.str_none a t'
  | bl b=>cases rx;exact SeqAt.EqAt.str_bool a t' b
  | int b=>let ⟨t,rfl⟩:=rx;exact SeqAt.EqAt.str_int a t' b t
  | str b=>let ⟨t,rfl⟩:=rx;exact SeqAt.EqAt.str_str a t' b t
  | _=>exact absurd (show false=true from fx) Hz
 | _=>exact absurd (show false=true from fy) Hz
def call_len_seq:CallR X (.builtin "len") (λxs H Q => ∃ p ys,xs=[.ref p]/\(SqL X.K H p ys\/SqT X.K H p ys)/\Q (.int ys.length) H):=by
 intro pins s σ H xs us Q I r h;let ⟨p,ys,rfl,hq,q⟩:=h;let ⟨u,rfl,rx⟩:=vals1 r;cases rx;have hn:=cY;rcases hq with hq | hq
 .obtain ⟨its,r',pl,hz⟩:=I.list hq
  have hlen:=r'.length;exact Calls.call_len_list pl.isList (by simp! [List.size_toArray] <;> omega) ⟨.int ys.length,H,I.tok _,⟨s.toks+1,by rw [List.size_toArray,hlen]⟩,q⟩
 .obtain ⟨its,r',pl,hz⟩:=I.tuple hq
  have hlen:=r'.length;exact len_tuple pl (by simp! [List.size_toArray] <;> omega) ⟨.int ys.length,H,I.tok _,⟨s.toks+1,by rw [List.size_toArray,hlen]⟩,q⟩
def CallR.or{f:Value}{r r':List V->Hp->VK->Prop}(h:CallR X f r)(h':CallR X f r'):CallR X f (λxs H Q=>r xs H Q\/r' xs H Q):=by
 intro pins s σ H xs us Q I rs q;rcases q with q | q
 .exact h pins s σ H xs us Q I rs q
 .exact h' pins s σ H xs us Q I rs q
def call_list_of:CallR X (.type "list") (λxs H Q => ∃ p ys,xs=[.ref p]/\(SqL X.K H p ys\/SqT X.K H p ys) /\ ∀ l,H l=none->Q (.ref l) (upd H l (.lst ys))):=by
 intro pins s σ H xs us Q I r h;let ⟨p,ys,rfl,hq,q⟩:=h;let ⟨u,rfl,rx⟩:=vals1 r;cases rx;have fin:∀ (its:List Value),Vals ys its->ys.length<=sizeLine -> ∀ (h':Heap) (c':Nat),(∀ b o',s.heap.get? b=some o'->h'.get? b=some o') ->
   h'.get? s.heap.objs.size=some { cls := .type "list",dict:=none,data := .seq its.toArray c',slots := #[] }->EP X pins σ Q (.ref s.heap.objs.size) { s with heap:=h' }:=λits r' hz h' c' kp e =>
  ⟨.ref s.heap.objs.size,_,I.laid (t':=s.toks) kp (HA _) (show ObjOk X.prog X.w _ h' _ (.lst ys) from ⟨hz,its,c',r',e⟩),rfl,q _ (I.hok.fresh (HA _))⟩
 rcases hq with hq | hq
 .obtain ⟨its,r',pl,hz⟩:=I.list hq
  have hlen:=r'.length;let ⟨o,ho,hc,n,hd⟩:=pl.isList;exact call_list_seq p (.inl rfl) ho hc hd (λh' c' kp e=>fin its r' hz h' c' kp e) (by simp! [List.size_toArray] <;> omega)
 .obtain ⟨its,r',pl,hz⟩:=I.tuple hq
  have hlen:=r'.length;let ⟨o,ho,hc,n,hd⟩:=pl;exact call_list_seq p (.inr rfl) ho hc hd (λh' c' kp e=>fin its r' hz h' c' kp e) (by simp! [List.size_toArray] <;> omega)
def IS(K:HG)(T:String)(x:V)(H:Hp):Prop:=match x with
 | .str _=>T = "str"
 | .int _=>T = "int"
 | .ref p=>(T = "list" /\ ∃ xs,SqL K H p xs)\/(T = "tuple" /\ ∃ o,K.lookup p=some o/\o.cls=.type "tuple" /\ o.dict=none) \/
   (T = "dict" /\ ((∃ kvs,H p=some (.dK kvs)) \/ ∃ kvs,H p=some (.dT kvs)))\/(T = "set" /\ ∃ S n,H p=some (.set S n))
 | _=>False
def pW{T:String}{x:V}{v:Value}(I:Inv X pins σ H s)(r:RelV x v)(ty:IS X.K T x H):
  s.TypeIs v T /\ ∀ a,v=.ref a -> ∃ ob,s.heap.get? a=some ob/\ob.dict=none:=by
 cases x with
 | str z =>
  let ⟨t,rfl⟩:=r;cases (show T = "str" from ty);exact ⟨typeIs_str s z t,λ_ e=>nomatch e⟩
 | int i =>
  let ⟨t,rfl⟩:=r;cases (show T = "int" from ty);exact ⟨typeIs_int s i t,λ_ e=>nomatch e⟩
 | ref p =>
  cases r;rcases ty with ⟨rfl,xs,hq⟩ | ⟨rfl,o,hk,hc,hd⟩ | ⟨rfl,hk⟩ | ⟨rfl,S,n,hk⟩
  .obtain ⟨its,_,pl,_⟩:=I.list hq
   refine ⟨pl.isList.typeIs,λa e => ?_⟩;cases e;let ⟨o,n,e,c,hd,_⟩:=pl;exact ⟨o,e,hd⟩
  .refine ⟨⟨o,I.kIn p o hk,hc⟩,λa e => ?_⟩
   cases e;exact ⟨o,I.kIn _ o hk,hd⟩
  .have z:∃ o,s.heap.get? p=some o/\o.ExactDict:=by
    rcases hk with ⟨kvs,hk⟩ | ⟨kvs,hk⟩
    .obtain ⟨_,_,_,_,o,_,_,e,ex,_⟩:=I.hok p _ hk
     exact ⟨o,e,ex⟩
    .obtain ⟨_,_,_,_,o,_,_,e,ex,_⟩:=I.hok p _ hk
     exact ⟨o,e,ex⟩
   let ⟨o,e,ex⟩:=z;refine ⟨⟨o,e,ex.1⟩,λa e2 => ?_⟩;cases e2;exact ⟨o,e,ex.2.1⟩
  .obtain ⟨o,_,_,_,e,ex,_⟩:=I.hok p _ hk
   refine ⟨⟨o,e,ex.1⟩,λa e2 => ?_⟩;cases e2;exact ⟨o,e,ex.2.1⟩
 | _=>exact False.elim ty
def IT(K:HG)(T:String)(r:V->List V->Hp->VK->Prop)(to:TE):TE:=λσ H Q=>to σ H λx H1=>IS K T x H1/\r x [] H1 Q
def IU(K:HG)(T:String)(r:V->List V->Hp->VK->Prop)(to:TE)(t:TA):TE:=λσ H Q=>to σ H λx H1=>IS K T x H1/\t σ H1 λxs H2=>r x xs H2 Q
variable{to:TE}{t:TA}{name:Str}{T id:String}{r:V->List V->Hp->VK->Prop}
def nP(pa:PlainAttrs T)(slot:Slot T name id)(hty:typeOf (.builtin id)=pure (.type "method_descriptor"))(hm:MtR X id r)(ho:PE X o to)
  (hbase:attributeBase o name X.env #[38]=eval o X.env:=by rfl) (hline:(apos.endLine == cpos.line)=true:=by rfl):PE X (.Call (.Attribute o name apos) [] [] cpos) (IT X.K T r to):=by
 intro pins s σ H Q I h;refine wpAny_Call_method0_late hbase hline (thn (ho pins s σ H _ I h) ?_);rintro v s1 ⟨x,H1,I1,r1,ty,q1⟩;let ⟨h1,h2⟩:=pW I1 r1 ty;exact ⟨T,id,pa,slot,hty,h1,h2,Calls.callWith_builtin rfl (PySem.evalArgs_none (hm pins s1 σ H1 x [] v [] Q I1 r1 .nil q1))⟩
def acq(pa:PlainAttrs T)(slot:Slot T name id)(hty:typeOf (.builtin id)=pure (.type "method_descriptor"))(hm:MtR X id r)(ho:PE X o to)(ha:PA X (e :: es) t)
  (hbase:attributeBase o name X.env #[38]=eval o X.env:=by rfl)
  (hfew:((backTo cpos (starEach (e :: es) X.env)).all (λx => !x.1) && (backToKw cpos (keywordEach [] X.env)).all (λx=>x.1.isSome)
   && decide ((e :: es).length+([]:List Keyword).length+(if ([]:List Keyword).isEmpty then 0 else 1) < 30))=true:=by rfl)
  (hline:(apos.endLine == cpos.line)=true:=by rfl) (hs:starEach (e :: es) X.env=(false,eval e X.env) :: starEach es X.env:=by rfl) (hplain:(backTo cpos (starEach es X.env)).any (·.1)=false:=by rfl) :
  PE X (.Call (.Attribute o name apos) (e :: es) [] cpos) (IU X.K T r to t):=by
 intro pins s σ H Q I h;refine wpAny_Call_method_late hbase hfew hline rfl (thn (ho pins s σ H _ I h) ?_);rintro v s1 ⟨x,H1,I1,r1,ty,q1⟩;let ⟨h1,h2⟩:=pW I1 r1 ty;refine ⟨T,id,pa,slot,hty,h1,h2,?_⟩;have hA:=ha cpos pins s1 σ H1 _ I1 q1;rw [hs] at hA ⊢;refine Calls.callWith_builtin (by show (false || (backTo cpos (starEach es X.env)).any (·.1))=false;rw [hplain] <;> rfl) (Calls.evalArgs_plain ?_)
 exact thn hA λus s2 ⟨vs,H2,I2,r2,q2⟩=>hm pins s2 σ H2 x vs v us Q I2 r1 r2 q2
end
end L2
namespace L2
open PySem PySem.Spec PyProof.Rows
def MtM(X:Cx)(id:String)(r:V->List V->Hp->VK->Prop):Prop :=
 ∀ (pins:List (Addr×Obj)) (s:Shared) (σ:St) (H:Hp) (x:V) (xs:List V) (v:Value) (us:List Value) (Q:VK),Inv X pins σ H s->RelV x v->Vals xs us->r x xs H Q ->
  wpAny #[5] X.A (call (.builtin id) (v :: us)) #[17] X.xe s
def Vals.one:∀ {x:V} {us:List Value},Vals [x] us -> ∃ u,us=[u]/\RelV x u
 | _,_,.cons r .nil=>⟨_,rfl,r⟩
def Vals.zero:∀ {us:List Value},Vals [] us->us=[]
 | _,.nil=>rfl
def Vals.dropLast{xs:List V}{us:List Value}(h:Vals xs us):Vals xs.dropLast us.dropLast:=by
 induction h with
 | nil=>exact .nil
 | cons r t ih =>
  cases t with
  | nil=>exact .nil
  | cons q t'=>exact .cons r ih
def Vals.reverse{xs:List V}{us:List Value}(h:Vals xs us):Vals xs.reverse us.reverse:=by
 induction h with
 | nil=>exact .nil
 | cons r t ih=>rw [List.reverse_cons,List.reverse_cons];exact Vals.append ih (.cons r .nil)
def uM(l:List α):l.eraseIdx (l.length - 1)=l.dropLast:=by
 induction l with
 | nil=>rfl
 | cons a r ih =>
  cases r with
  | nil=>rfl
  | cons b r =>
   have e:(a :: b :: r).length - 1=((b :: r).length - 1)+1:=by
    have h1:(a :: b :: r).length=r.length+2:=rfl;have h2:(b :: r).length=r.length+1:=rfl;omega
   rw [e,List.eraseIdx_cons_succ,ih]
   all_goals rfl
section
variable{l b:Addr}{xs ys zs:List V}
def Inv.lset{its':List Value}{f:Array Value->Array Value}(I:Inv X pins σ H s)(hH:H l=some (.lst xs))
  (e:s.heap.get? l=some { cls := .type "list",data := .seq its.toArray n }) (hf:f its.toArray=its'.toArray) (hv:Vals ys its') (hz:ys.length<=sizeLine) :
  Inv X pins σ (upd H l (.lst ys)) { s with heap:=s.heap.update l (Obj.mapSeq f),toks:=t' }:=by
 have q:=PySem.IsL.update e f;rw [hf] at q;refine I.write (x:=l) (e:=l) (by rw [hH];exact trivial) (.inl rfl) (λb' u hb hu=>(Heap.get?_update_other s.heap (Obj.mapSeq f) (Ne.symm hb)).trans hu) ⟨_,q⟩ ?_
 exact ⟨hz,its',_,hv,q⟩
def Inv.lnew(I:Inv X pins σ H s)(hv:Vals ys its)(hz:ys.length<=sizeLine):
  Inv X pins σ (upd H s.heap.objs.size (.lst ys)) { s with heap:=s.heap.push { cls := .type "list",data := .seq its.toArray },toks:=t' } :=
 I.laid (λ_ _ q=>Hw _ q) (HA _) ⟨hz,its,0,hv,HE _ rfl⟩
def Inv.fresh(I:Inv X pins σ H s):H s.heap.objs.size=none:=I.hok.fresh (HA _)
def Inv.lstM(I:Inv X pins σ H s)(hH:H l=some (.lst xs)):xs.length<=sizeLine /\ ∃ (its:List Value) (n:Nat),Vals xs its/\xs.length=its.length/\s.heap.get? l=some { cls := .type "list",data := .seq its.toArray n }:=by
 let ⟨z,its,n,r,e⟩:=I.hok l _ hH;exact ⟨z,its,n,r,r.length,e⟩
def wC(h:n<=sizeLine):Builtin.List.listTooLong n=false:=by
 unfold Builtin.List.listTooLong;exact decide_eq_false ()
end
section
def GU:V->List V->Hp->VK->Prop:=λx vs H Q => ∃ l xs y,x=.ref l/\vs=[y]/\H l=some (.lst xs)/\xs.length < sizeLine/\Q .non (upd H l (.lst (xs++[y])))
def ji:MtM X "list.append" GU:=by
 intro pins s σ H x vs v us Q I rx rv h;let ⟨l,xs,y,rfl,rfl,hH,hz,q⟩:=h;cases rx;let ⟨u,rfl,ru⟩:=rv.one;let ⟨z,its,n,r,hl,e⟩:=I.lstM hH;refine call_meets F.slot_list_append ⟨_,e,rfl⟩ F.entry_list_append (F.args_list_append_2 _ _) (PySem.list_append l its.toArray n u (by rw [List.size_toArray];omega)) ⟨e,?_⟩
 refine ⟨.non,_,I.lset (its':=its++[u]) hH e #[3] (r.append (.cons ru .nil)) ?_,rfl,q⟩
 rw [List.length_append,List.length_singleton];omega
def GX:V->List V->Hp->VK->Prop:=λx vs H Q => ∃ l b xs zs,x=.ref l/\vs=[.ref b]/\H l=some (.lst xs)/\H b=some (.lst zs)/\xs.length+zs.length<=sizeLine/\Q .non (upd H l (.lst (xs++zs)))
def vm:MtM X "list.extend" GX:=by
 intro pins s σ H x vs v us Q I rx rv h;let ⟨l,b,xs,zs,rfl,rfl,hH,hB,hz,q⟩:=h;cases rx;let ⟨u,rfl,ru⟩:=rv.one;cases ru;let ⟨z,its,n,r,hl,e⟩:=I.lstM hH;let ⟨z2,its2,n2,r2,hl2,e2⟩:=I.lstM hB;have hsz:its.toArray.size+its2.toArray.size<=sizeLine:=by rw [List.size_toArray,List.size_toArray];omega
 have hlong : ¬ (!its.toArray.isEmpty && Builtin.List.listTooLong (its.toArray.size+its2.toArray.size))=true:=by
  rw [wC hsz,Bool.and_false];exact Hz
 refine call_meets F.slot_list_extend ⟨_,e,rfl⟩ F.entry_list_extend (F.args_list_extend_2 _ _)
  (AutoSeq1.list_extend_list_list_0 l its.toArray n b its2.toArray n2 hlong (by rw [List.size_toArray];omega) ()) ⟨e,e2,?_⟩
 refine ⟨.non,_,I.lset (its':=its++its2) hH e #[3] (r.append r2) ?_,rfl,q⟩
 rw [List.length_append];omega
def rPop:V->List V->Hp->VK->Prop:=λx vs H Q => ∃ l xs y,x=.ref l/\vs=[]/\H l=some (.lst xs)/\xs[xs.length - 1]? = some y/\Q y (upd H l (.lst xs.dropLast))
def abD:MtM X "list.pop" rPop:=by
 intro pins s σ H x vs v us Q I rx rv h;let ⟨l,xs,y,rfl,rfl,hH,hy,q⟩:=h;cases rx;have hus:=rv.zero;subst hus;let ⟨z,its,n,r,hl,e⟩:=I.lstM hH;let ⟨u,hu,ru⟩:=r.get hy;have hy':its.toArray[its.toArray.size - 1]? = some u:=by
  show its.toArray[its.length - 1]? = some u;rw [<-Array.getElem?_toList,<-hl];exact hu
 refine call_meets F.slot_list_pop ⟨_,e,rfl⟩ F.entry_list_pop (F.args_list_pop_1 _) (MeetsSeq.list_pop_last l its.toArray n u hy' (by rw [List.size_toArray];omega)) ⟨e,?_⟩
 refine ⟨y,_,I.lset (its':=its.dropLast) hH e ?_ r.dropLast ?_,ru,q⟩
 .show its.toArray.eraseIdxIfInBounds (its.toArray.size - 1)=its.dropLast.toArray
  rw [List.size_toArray,List.eraseIdxIfInBounds_toArray,uM]
 .rw [List.length_dropLast]
  omega
def GZ:V->List V->Hp->VK->Prop:=λx vs H Q => ∃ l xs,x=.ref l/\vs=[]/\H l=some (.lst xs)/\Q .non (upd H l (.lst []))
def xh:MtM X "list.clear" GZ:=by
 intro pins s σ H x vs v us Q I rx rv h;let ⟨l,xs,rfl,rfl,hH,q⟩:=h;cases rx;have hus:=rv.zero;subst hus;let ⟨z,its,n,r,hl,e⟩:=I.lstM hH;refine call_meets F.slot_list_clear ⟨_,e,rfl⟩ F.entry_list_clear (F.args_list_clear_1 _) (AutoSeq1.list_clear_list_0 l its.toArray n (by rw [List.size_toArray];omega)) ⟨e,?_⟩
 exact ⟨.non,_,I.lset (its':=[]) (ys:=[]) hH e rfl .nil (Nat.zero_le _),rfl,q⟩
def Gf:R2:=λx y H Q => ∃ l b xs zs,x=.ref l/\y=.ref b/\H l=some (.lst xs)/\H b=some (.lst zs)/\xs.length+zs.length<=sizeLine /\ ∀ p,H p=none->Q (.ref p) (upd H p (.lst (xs++zs)))
def aax:OpR X (binaryOp .Add) Gf:=by
 intro pins s σ H x y v u Q I rx ry h;let ⟨l,b,xs,zs,rfl,rfl,hH,hB,hz,q⟩:=h;cases rx;cases ry;let ⟨z,its,n,r,hl,e⟩:=I.lstM hH;let ⟨z2,its2,n2,r2,hl2,e2⟩:=I.lstM hB;refine PySem.P.add_list e e2 ?_ (by rw [List.size_toArray,List.size_toArray];omega)
 have ea:its.toArray++its2.toArray=(its++its2).toArray:=by simp
 rw [ea];exact ⟨.ref _,_,I.lnew (t':=s.toks) (r.append r2) (by rw [List.length_append];omega),rfl,q _ I.fresh⟩
end
end L2
namespace Att
open PySem PySem.W PySem.Calls PyProof.Rows
def tQ{P:Params}:∀ (ns:List Int) (vs:List Value),WellAll P h vs (ns.map WData.int)->IntsAre vs ns:=by
 intro ns
 induction ns with
 | nil =>
  intro vs w;rw [List.map_nil] at w;cases w;exact .nil
 | cons n ns ih =>
  intro vs w;rw [List.map_cons] at w;cases w with
  | cons a b =>
   cases a;exact .cons _ _ (ih _ b)
def vR{l:OpenLaw}(hn:l.most=some n){P:Params}{args:List WData}{vals:List Value}
  (hpre:l.row.toRowW.claim.pre args=true) (hwl:WellAll P h vals args) :
  ∃ a vs ns,vals=[Value.ref a]/\args=[WData.list (ns.map WData.int)]/\h.get? a=some { cls := .type "list",data := .seq vs.toArray }/\IntsAre vs ns/\ns.length<=n:=by
 have hsh:WShape.hasAll [] args [.list .int]=true:=(pre_splitW hpre).1;have hc:l.pre.holds [] { args:=args }=true:=(pre_splitW hpre).2;let ⟨d,r,rfl,h1,h2⟩:=hasAllW_cons hsh;obtain rfl:=hasAllW_nil h2;let ⟨xs,rfl,h3⟩:=hasW_list h1;let ⟨ns,rfl⟩:=items_int h3;have hlen:ns.length<=n:=by
  unfold OpenLaw.pre at hc;have h4:(WTm.not (.lt (.lit (.int (n:Int))) (.len (.arg 0)))).holds [] { args:=[.list (ns.map .int)] }=true:=by
   have h4:=(holds_andW hc).1;rw [hn] at h4;exact h4
  have h5:=condW_of h4 (w_not (w_lt w_lit (w_len_list (w_arg rfl))));rw [List.length_map] at h5;refine Nat.le_of_not_lt λq => ?_;have q':(n:Int) < ((ns.length:Nat):Int):=by omega
  first
   | (rw [decide_eq_true q'] at h5;exact absurd h5 #[1])
   | (simp at h5;omega)
 cases hwl with
 | cons w1 w2 =>
  cases w2;cases w1 with
  | list ho hall=>exact ⟨_,_,ns,rfl,rfl,ho,tQ ns _ hall,hlen⟩
def vf(l:OpenLaw)(args:List WData):l.row.toRowW.claim.post args (.bool true) args=true :=
 postW_of (r:=l.row.toRowW) (X:=(true == true))
  (show WShape.has [] (.bool true) .bool=true by first | rfl | decide | simp [WShape.has,WShape.arms,WShape.armsAll])
  (show (WTm.eq .res (.lit (.bool true))).value [] { args:=args,res:=some (.bool true),after:=args }=some (.bool (true == true)) from w_eq_bool (w_res rfl) w_lit) rfl
def attach_call{l:OpenLaw}{q:Program}{loose:List Str}{XP:(Str->Option Value)->Heap->Prop}{YP:World->Heap->Prop}{d:DefRec}
  (hn:l.most=some n) (hdf:d.params.defaults=[])
  (call:∀ (w:World) (s₀ s₁ : Shared) (mg mb:Str->Option Value) (fa:Addr) (o:Obj) (pm cd doc:Value) (a:Addr) (vs:List Value) (ns:List Int),
   Ground q loose [] XP w s₀ mg mb s₁.heap->YP w s₁.heap ->
   s₁.heap.get? fa=some o->o.data=.func (docDef d.name d.params d.body d.scope pm cd doc)->s₁.heap.CodeRec cd d.name->mg d.name=some (.ref fa) ->
   s₁.heap.get? a=some { cls := .type "list",data := .seq vs.toArray }->IntsAre vs ns->ns.length<=n->s₁.gens = #[] ->
   codeAny (model l.prog w) callerA (.call (.ref fa) ⟨[.ref a],[]⟩) (λr s'=>r=.ok (.ret (.bool true))/\OldK s₁.heap s'.heap/\s'.os=s₁.os/\AllBare s'.gens) s₁) :
  WalkO q loose XP YP l.row.toRowW d [] (λf vs=>PySem.call f vs):=by
 intro w s₀ s₁ mg mb G Y fa o pm cd doc dV Ic ho hd hcd hD hmg hg args vals as hpre hlay hrd hwl hlo;obtain rfl:dV=.none:=Dflts.none hD hdf;obtain rfl:Ic=.none:=Dflts.noKw hD;let ⟨a,vs,ns,rfl,rfl,hobj,hints,hlen⟩:=vR hn hpre hwl;refine enter_call (codeAny_mono (call w s₀ s₁ mg mb fa o pm cd doc a vs ns G Y ho (fd_plain hd) hcd hmg hobj hints hlen hg) λr s' hq => ?_);let ⟨rfl,h2,h3,h4⟩:=hq;exact ⟨.inl ⟨.bool true,.bool true,[],rfl,λ_=>rfl,.bool true,vf l _,λ_=>⟨List.Pairwise.nil,λ_ hm=>(nomatch hm)⟩⟩,h2,h3,h4⟩
end Att
namespace L2
open PySem PySem.Spec PyProof.Rows
def jb:∀ {vs:List Value} {ns:List Int},IntsAre vs ns->Vals (ns.map V.int) vs
 | _,_,.nil => .nil
 | _,_,.cons n t h => .cons ⟨t,rfl⟩ (jb h)
def Dk(H:Hp):Prop := ∀ b,H b=none \/ ∃ o xs,H b=some (.frz o (.lst xs))
def v7{P:Program}{mb:Str->Option Value}{k:Nat}{fa:Addr}{x:Str}{sp:Sp}{s₁ : Shared}{vs:List Value}
  (KX:K.In s₁.heap) (hns:s₁.heap.Ns mainGlobals mg) (hb:s₁.heap.Ns builtinsNs mb) (hbb:∀ x:Str,x ≠ "__name__" -> mb x=bootBuiltins x) (hlim:s₁.heap.NoLimit) (hg:s₁.gens = #[])
  (ha:s₁.heap.get? a=some { cls := .type "list",data := .seq vs.toArray }) (hi:IntsAre vs ns) (hl:ns.length<=sizeLine) (hr:Room k callerA)
  (F:∀ base:Heap,K.In base->base.Ns mainGlobals mg->FnOk P w K mg base CX k fa fd [x] sp) (hbind:∀ (s:Shared) (u:Value),BindsTo s fd ⟨[u],[]⟩ [(x,u)])
  (hsp:∀ H:Hp,Dk H->SqL K H a (ns.map V.int)->sp [.ref a] H (λv _=>v=.bl true) λ_ _ _=>False)
  (hCX:∀ H e s',CX [] H s₁ (λ_ _ _=>False) e s'->False) :
  codeAny (model P w) callerA (.call (.ref fa) ⟨[.ref a],[]⟩) (λr s'=>r=.ok (.ret (.bool true))/\OldK s₁.heap s'.heap/\s'.os=s₁.os/\AllBare s'.gens) s₁ := by
 have rv:=jb hi;have lenV:=hi.length;have core:∀ H:Hp,Dk H->SqL K H a (ns.map V.int)->HOk P w H s₁.heap->(∀ b,H b≠none->b=a)->(H a≠none->K.lookup a=none) ->
   codeAny (model P w) callerA (.call (.ref fa) ⟨[.ref a],[]⟩) (λr s'=>r=.ok (.ret (.bool true))/\OldK s₁.heap s'.heap/\s'.os=s₁.os/\AllBare s'.gens) s₁ := by
  intro H hO hS hok hA hK;have base_of:∀ {b:Addr} {o:Obj},s₁.heap.get? b=some o->H b=none->(Bw s₁.heap H).get? b=some o:=λe n=>wx e n;have noA:∀ {b:Addr} {o:Obj} {es:Array DictEntry} {ep:Nat},s₁.heap.get? b=some o->o.data=.dict es ep->H b=none:=λ{b o es ep} e d=>by
   cases q:H b with
   | none=>rfl
   | some u =>
    have e':b=a:=hA b (by rw [q];simp)
    subst e';rw [ha] at e;cases e;have d':Data.seq vs.toArray _=Data.dict es ep:=d;cases d'
  have nsK:∀ {b:Addr} {m:Str->Option Value},s₁.heap.Ns b m->(Bw s₁.heap H).Ns b m:=λ{b m} ⟨o,es,ep,e,d,r⟩=>⟨o,es,ep,base_of e (noA e d),d,r⟩
  have hKb:K.In (Bw s₁.heap H):=λb o e=>base_of (KX b o e) (by
   cases q:H b with
   | none=>rfl
   | some u =>
    have e':b=a:=hA b (by rw [q];simp)
    subst e'
    rw [hK (by rw [q];simp)] at e;cases e)
  have hM:Mod K mg (Bw s₁.heap H):=⟨hKb,nsK hns,⟨mb,nsK hb,hbb⟩,let ⟨mc,h1,h2⟩:=hlim;⟨mc,nsK h1,h2⟩⟩
  have e0:Env0 P w K mg (Bw s₁.heap H) callerA [] s₁ H:=⟨rfl,hM,λb o e=>yj e,Nat.le_of_eq (vp _ _),trivial,λb hb=>absurd (show b∈([]:List Addr) from hb) #[3],hok,.of_eq hg⟩
  refine codeAny_mono ((F _ hKb (nsK hns)).run callerA [] s₁ H ⟨[.ref a],[]⟩ [.ref a] [.ref a] _ _ hr e0 (hbind s₁ (.ref a)) (.cons rfl .nil) (hsp H hO hS)) λr s' h => ?_;cases r with
  | error e=>exact (hCX H e s' h).elim
  | ok fl =>
   cases fl with
   | next=>exact False.elim h
   | brk=>exact False.elim h
   | cont=>exact False.elim h
   | ret u =>
    let ⟨v,H',os,bare,un,hok',r',q⟩:=h;have q':v=.bl true:=q;subst q';obtain rfl:u=Value.bool true:=r';refine ⟨rfl,OldK.of_keep λb o e => ?_,os,bare⟩;cases q:H b with
    | none=>exact un.keep b o e q (by intro z;exact absurd (show b∈([]:List Addr) from z) #[3]) #[3]
    | some u =>
     rcases hO b with z | ⟨ob,xs,z⟩
     .rw [q] at z;cases z
     .have z2:=un.frzs b ob _ z
      let ⟨e1,_⟩:=hok b _ z;let ⟨e2,_⟩:=hok' b _ z2;rw [e] at e1;cases e1;exact e2
 cases hk:K.lookup a with
 | some o =>
  have e:=KX a o hk;rw [ha] at e;cases e;refine core (λ_=>none) (λ_ => .inl rfl) (.inr ⟨_,vs.toArray,_,hk,rfl,rfl,rfl,by rw [List.size_toArray,lenV];exact hl,by simpa using rv⟩) (λb u z=>by have z':(none:Option HO)=some u:=z;cases z') (λb z=>absurd rfl z) λz=>absurd rfl z
 | none =>
  refine core (λb=>if b=a then some (.frz { cls := .type "list",data := .seq vs.toArray } (.lst (ns.map V.int))) else none) (λb => ?_) (.inl (.inr ⟨{ cls := .type "list",data := .seq vs.toArray },if_pos rfl⟩)) (λb u z => ?_) (λb z => ?_) λ_=>hk
  .by_cases hb:b=a
   .exact .inr ⟨_,_,if_pos hb⟩
   .exact .inl (if_neg hb)
  .by_cases hb:b=a
   .have z':=(if_pos hb).symm.trans z
    cases z';subst hb;exact ⟨ha,by rw [List.length_map];exact hl,vs,_,rv,ha⟩
   .have z':=(if_neg hb).symm.trans z
    cases z'
  .by_cases hb:b=a
   .exact hb
   .exact absurd (if_neg hb) z
end L2
namespace L2
open PySem PySem.Spec PyProof.Rows
def Cs(s:Stmt):Arguments:=match s with
 | .FunctionDef _ a _ _ _ _ _ _ _ _=>a
 | _=>{ posonlyargs:=[],args:=[],vararg:=none,kwonlyargs:=[],kw_defaults:=[],kwarg:=none,defaults:=[] }
def Cr(s:Stmt):List Stmt:=match s with
 | .FunctionDef _ _ b _ _ _ _ _ _ _=>b
 | _=>[]
def Bk(s:Stmt):Scope:=match s with
 | .FunctionDef _ _ _ _ _ _ sc _ _ _=>sc
 | _=>{ kind := .function,names:=[],isGenerator:=false,isCoroutine:=false }
abbrev CX0:CXT:=λ_ _ _ _ _ _=>False
abbrev E0:XK:=λ_ _ _=>False
def c8:AO CX0 X E0:=λ_ _ _ _ _ _ _ h=>h.elim
structure Fun(K:HG)(x qual:Str)(st:Stmt)(f:Addr)(fd:FuncData):Prop where
 ex:∃ (JV:Value) (od:Option Addr) (Ic doc pm:Value) (an:Option Addr) (cdv ct:Value) (osl:Array (Option Value)),
  fd=PySem.W.fnOf x qual (Cs st) (Cr st) (Bk st) .none Ic doc pm an cdv ct/\K.lookup f=some ⟨JV,od,.func fd,osl⟩/\PySem.W.codeIn K cdv qual=true
 kp:PySem.W.keepIn K (.ref f)=true
def bz{A B:Prop}(h:B):if false=true then A else B:=by
 rw [if_neg Hz];exact h
def bA{A B:Prop}(h:A):if true=true then A else B:=by
 rw [if_pos rfl];exact h
end L2
namespace L2
open PySem PySem.Spec PyProof.Rows
section
variable{κ:Type}[DecidableEq κ]
def AK(kvs:List (κ×V))(k:κ):Option V:=(kvs.find? λkv=>decide (kv.1=k)).map (·.2)
def putK(kvs:List (κ×V))(k:κ)(v:V):List (κ×V) :=
 if (kvs.any λkv=>decide (kv.1=k))=true then kvs.map (λkv=>if kv.1=k then (kv.1,v) else kv) else kvs++[(k,v)]
def b9{p:κ×V}{r:List (κ×V)}{k:κ}(e:p.1=k):AK (p :: r) k=some p.2:=by simp [AK,List.find?_cons,e]
def b5{p:κ×V}{r:List (κ×V)}{k:κ}(e : ¬ p.1=k):AK (p :: r) k=AK r k:=by simp [AK,List.find?_cons,e]
def fY(k:κ):∀ kvs:List (κ×V),(kvs.any λkv=>decide (kv.1=k))=(AK kvs k).isSome
 | []=>rfl
 | p :: r=>by
  rw [List.any_cons];by_cases e:p.1=k
  .simp only [b9 e,decide_eq_true e,Bool.true_or,Option.isSome_some]
  .rw [b5 e,decide_eq_false e,Bool.false_or];exact fY k r
def dv(kvs:List (κ×V))(k:κ)(v:V):(putK kvs k v).length<=kvs.length+1:=by
 unfold putK;split
 .rw [List.length_map];omega
 .rw [List.length_append,List.length_cons,List.length_nil];omega
def wA{kvs:List (κ×V)}{k:κ}(v:V)(h:AK kvs k=none):putK kvs k v=kvs++[(k,v)]:=by
 unfold putK;rw [fY,h];exact if_neg #[1]
def RelO.isSome_eq{o:Option V}{u:Option Value}(r:RelO o u):o.isSome=u.isSome:=by
 cases o with
 | none=>cases u with
  | none=>rfl
  | some _=>exact (show False from r).elim
 | some _=>cases u with
  | none=>exact (show False from r).elim
  | some _=>rfl
def RelO.getD{o:Option V}{u:Option Value}{d:V}{d':Value}(r:RelO o u)(rd:RelV d d'):RelV (o.getD d) (u.getD d'):=by
 cases o with
 | none=>cases u with
  | none=>exact rd
  | some _=>exact (show False from r).elim
 | some _=>cases u with
  | none=>exact (show False from r).elim
  | some _=>exact r
def KV.val{kvs:List (κ×V)}{vs:List (κ×Value)}(r:KV kvs vs)(k:κ):RelO (AK kvs k) (valueAt vs k):=by
 unfold KV at r
 induction r with
 | nil=>exact True.intro
 | @cons p q ps qs h t ih =>
  let ⟨h1,h2⟩:=h;by_cases e:p.1=k
  .have e':q.1=k:=h1.symm.trans e
   have b:valueAt (q :: qs) k=some q.2:=by simp [valueAt,List.find?_cons,e']
   rw [b9 e,b];exact h2
  .have e' : ¬ q.1=k:=λz=>e (h1.trans z)
   have b:valueAt (q :: qs) k=valueAt qs k:=by simp [valueAt,List.find?_cons,e']
   rw [b5 e,b];exact ih
def KV.any{kvs:List (κ×V)}{vs:List (κ×Value)}(r:KV kvs vs)(k:κ):(kvs.any λkv=>decide (kv.1=k))=vs.any λkv=>decide (kv.1=k):=by
 unfold KV at r
 induction r with
 | nil=>rfl
 | cons h t ih=>rw [List.any_cons,List.any_cons,ih,h.1]
def KV.repl{kvs:List (κ×V)}{vs:List (κ×Value)}(r:KV kvs vs)(k:κ){u:Value}(ry:RelV y u):
  KV (kvs.map λkv=>if kv.1=k then (kv.1,y) else kv) (vs.map λkv=>if kv.1=k then (kv.1,u) else kv):=by
 unfold KV at r ⊢
 induction r with
 | nil=>exact .nil
 | @cons p q ps qs h t ih =>
  rw [List.map_cons,List.map_cons];refine .cons ?_ ih;let ⟨h1,h2⟩:=h;by_cases e:p.1=k
  .rw [if_pos e,if_pos (h1.symm.trans e)];exact ⟨h1,ry⟩
  .rw [if_neg e,if_neg (λz=>e (h1.trans z))];exact ⟨h1,h2⟩
def KV.put{kvs:List (κ×V)}{vs:List (κ×Value)}(r:KV kvs vs)(k:κ){u:Value}(ry:RelV y u):KV (putK kvs k y) (stored vs k u):=by
 unfold putK stored;rw [r.any k];by_cases e:(vs.any λkv=>decide (kv.1=k))=true
 .rw [if_pos e,if_pos e];exact r.repl k ry
 .rw [if_neg e,if_neg e];exact Paired.snoc r ⟨rfl,ry⟩
def KV.length{kvs:List (κ×V)}{vs:List (κ×Value)}(r:KV kvs vs):kvs.length=vs.length:=Paired.length r
end
def bP{P:Program}{k:Key}{u:Value}(r:RelV (Ic k) u):(Ay P w).is k u=true:=by
 cases k with
 | inl i=>let ⟨t,e⟩:=(show ∃ t,u=Value.int i t from r);subst e;exact ug P w i t
 | inr x=>let ⟨t,e⟩:=(show ∃ t,u=Value.str x t from r);subst e;exact uo P w x t
def jB{P:Program}{w:World}:∀ {ks:List Key} {us:List Value},Vals (ks.map Ic) us->ItemsAre (Ay P w) ks us
 | [],_,r=>by rw [List.map_nil] at r;cases r;exact .nil
 | k :: ks,_,r=>by
  rw [List.map_cons] at r;cases r with
  | cons h t=>exact .cons (bP h) (jB t)
abbrev KT(H:Hp):List (List Key×V)->List (List Key×Addr×Value)->Prop:=Paired λp q=>p.1=q.1/\H q.2.1=some (.tup (p.1.map Ic))/\RelV p.2 q.2.2
def KT.val{kvs:List (List Key×V)}{xs:List (List Key×Addr×Value)}(r:KT H kvs xs)(k:List Key):RelO (AK kvs k) ((atKey xs k).map (·.2)):=by
 induction r with
 | nil=>exact True.intro
 | @cons p q ps qs h t ih =>
  let ⟨h1,_,h2⟩:=h;by_cases e:p.1=k
  .have e':q.1=k:=h1.symm.trans e
   have b:atKey (q :: qs) k=some q.2:=by simp [atKey,List.find?_cons,e']
   rw [b9 e,b];exact h2
  .have e' : ¬ q.1=k:=λz=>e (h1.trans z)
   have b:atKey (q :: qs) k=atKey qs k:=by simp [atKey,List.find?_cons,e']
   rw [b5 e,b];exact ih
def KT.repl{kvs:List (List Key×V)}{xs:List (List Key×Addr×Value)}(r:KT H kvs xs)(k:List Key){u:Value}(ry:RelV y u):
  KT H (kvs.map λkv=>if kv.1=k then (kv.1,y) else kv) (xs.map (putAt k u)):=by
 induction r with
 | nil=>exact .nil
 | @cons p q ps qs h t ih =>
  rw [List.map_cons,List.map_cons];refine .cons ?_ ih;let ⟨h1,h2,h3⟩:=h;unfold putAt;by_cases e:p.1=k
  .rw [if_pos e,if_pos (h1.symm.trans e)];exact ⟨h1,h2,ry⟩
  .rw [if_neg e,if_neg (λz=>e (h1.trans z))];exact ⟨h1,h2,h3⟩
def KT.put{kvs:List (List Key×V)}{xs:List (List Key×Addr×Value)}(r:KT H kvs xs)(k:List Key){b:Addr}{u:Value}(hb:H b=some (.tup (k.map Ic)))(ry:RelV y u):
  KT H (putK kvs k y) (storedH xs k b u):=by
 have e:(kvs.any λkv=>decide (kv.1=k))=(atKey xs k).isSome:=by
  rw [fY,(r.val k).isSome_eq,Option.isSome_map]
 unfold putK storedH;rw [e];by_cases q:(atKey xs k).isSome=true
 .rw [if_pos q,if_pos q];exact r.repl k ry
 .rw [if_neg q,if_neg q];exact Paired.snoc r ⟨rfl,hb,ry⟩
def KT.keeps{kvs:List (List Key×V)}{xs:List (List Key×Addr×Value)}(r:KT H kvs xs)(ht:∀ b ys,H b=some (.tup ys)->H' b=some (.tup ys)):KT H' kvs xs :=
 Paired.mapP r λ_ _ z=>⟨z.1,ht _ _ z.2.1,z.2.2⟩
section
variable{P:Program}
def sX{u:HO}(ok:HOk P w H h)(e:Rd H a u):ObjOk P w H h a u:=e.ok ok
def bR{kvs:List (Key×V)}(ok:HOk P w H h)(e:Rd H a (.dK kvs)):kvs.length<=sizeLine/\(a == sysModules)=false /\ ∃ vs,KV kvs vs/\h.DictOf (Ay P w) a vs :=
 show ObjOk P w H h a (.dK kvs) from sX ok e
def sf{kvs:List (Key×V)}(ok:HOk P w H h)(e:H a=some (.dK kvs)):kvs.length<=sizeLine/\(a == sysModules)=false /\ ∃ vs,KV kvs vs/\h.DictOf (Ay P w) a vs:=bR ok (.inl e)
def bM{ks:List Key}(ok:HOk P w H h)(e:H a=some (.tup (ks.map Ic))):(tupleKind (Ay P w)).is h ks a:=by
 let ⟨_,its,r,o,h1,h2,n,h3⟩:=(show ObjOk P w H h a (.tup (ks.map Ic)) from ok a _ e);exact ⟨o,its.toArray,n,h1,h2,h3,by simpa using jB r⟩
def bS{kvs:List (List Key×V)}(ok:HOk P w H h)(e:Rd H a (.dT kvs)):kvs.length<=sizeLine/\(a == sysModules)=false /\
  ∃ xs,KT H kvs xs/\h.DictOfH (tupleKind (Ay P w)) a xs:=by
 let ⟨z,y,xs,r,o,es,ep,h1,h2,h3,h4,h5⟩:=(show ObjOk P w H h a (.dT kvs) from sX ok e);refine ⟨z,y,xs,r,o,es,ep,h1,h2,h3,h4,λx hx => ?_,h5⟩;have all:∀ {l:List (List Key×V)} {m:List (List Key×Addr×Value)},KT H l m -> ∀ x∈m,(tupleKind (Ay P w)).is h x.1 x.2.1:=by
  intro l m q
  induction q with
  | nil=>intro x hx;exact nomatch hx
  | @cons p q ps qs hq t ih =>
   intro x hx;rcases List.mem_cons.mp hx with e | hx
   .subst e
    exact bM ok (by rw [<-hq.1];exact hq.2.1)
   .exact ih x hx
 exact all r x hx
def rN{kvs:List (List Key×V)}(ok:HOk P w H h)(e:H a=some (.dT kvs)):kvs.length<=sizeLine/\(a == sysModules)=false /\
  ∃ xs,KT H kvs xs/\h.DictOfH (tupleKind (Ay P w)) a xs:=bS ok (.inl e)
end
def DGet(H:Hp)(a:Addr)(y:V)(r:Option V):Prop :=
 (∃ kvs k,Rd H a (.dK kvs)/\y=Ic k/\r=AK kvs k) \/ ∃ kvs k b,Rd H a (.dT kvs)/\y=.ref b/\H b=some (.tup (k.map Ic))/\r=AK kvs k
def DPut(H:Hp)(a:Addr)(y v:V)(H':Hp):Prop :=
 (∃ kvs k,H a=some (.dK kvs)/\y=Ic k/\kvs.length < sizeLine/\H'=upd H a (.dK (putK kvs k v))) \/
 ∃ kvs k b,H a=some (.dT kvs)/\y=.ref b/\H b=some (.tup (k.map Ic))/\kvs.length < sizeLine/\H'=upd H a (.dT (putK kvs k v))
def DGet.k{H:Hp}{a:Addr}{kvs:List (Key×V)}{k:Key}(e:H a=some (.dK kvs)):DGet H a (Ic k) (AK kvs k) := .inl ⟨kvs,k,.inl e,rfl,rfl⟩
def DGet.t{b:Addr}{kvs:List (List Key×V)}{k:List Key}(e:H a=some (.dT kvs))(eb:H b=some (.tup (k.map Ic))):DGet H a (.ref b) (AK kvs k) := .inr ⟨kvs,k,b,.inl e,rfl,eb,rfl⟩
def DPut.k{H:Hp}{a:Addr}{kvs:List (Key×V)}{k:Key}{v:V}(e:H a=some (.dK kvs))(hl:kvs.length < sizeLine):DPut H a (Ic k) v (upd H a (.dK (putK kvs k v))) := .inl ⟨kvs,k,e,rfl,hl,rfl⟩
def DPut.t{b:Addr}{kvs:List (List Key×V)}{k:List Key}{v:V}(e:H a=some (.dT kvs))(eb:H b=some (.tup (k.map Ic)))(hl:kvs.length < sizeLine):
  DPut H a (.ref b) v (upd H a (.dT (putK kvs k v))) := .inr ⟨kvs,k,b,e,rfl,eb,hl,rfl⟩
section
variable{v:V}{u r:Value}{o:Option V}{E:Value->Shared->Prop}
def Inv.big(I:Inv X pins σ H s):sysModules < s.heap.objs.size:=by
 have h:mainGlobals < s.heap.objs.size:=(I.mod.glob.keeps I.bk).lt;exact Nat.lt_trans #[1] h
def vH{Q:Value->Shared->Prop}(hu:A.units+1 < cLine)(I:Inv X pins σ H s)(g:DGet H a y (some v))(ry:RelV y u)(h:∀ w' s',Inv X pins σ H s'->RelV v w'->Q w' s'):
  wpAny #[5] A (getItem (.ref a) u) Q E s:=by
 rcases g with ⟨kvs,k,e,ey,l⟩ | ⟨kvs,k,b,e,ey,eb,l⟩
 .subst ey
  let ⟨z,hd,vs,rel,dd⟩:=bR I.hok e;let ⟨w',hw,rw'⟩:=RelO.some_of (v:=v) (o:=valueAt vs k) (by rw [l];exact rel.val k)
  exact wpAny_getItem_of (bP ry) dd.mapOf hw (h w' _ (I.tok _) rw')
 .subst ey
  cases (show u=Value.ref b from ry);let ⟨z,hd,xs,rel,dd⟩:=bS I.hok e;let ⟨w',hw,rw'⟩:=RelO.some_of (v:=v) (o:=(atKey xs k).map (·.2)) (by rw [l];exact rel.val k)
  let ⟨p,hp,hp2⟩:=Option.map_eq_some_iff.mp hw;refine wpAny_getItem_heap (tupleKind_room_in1 hu) (bM I.hok eb) dd hp ?_;rw [hp2];exact h w' _ (I.tok _) rw'
def d_in{Q:Value->Shared->Prop}(hu:A.units+1 < cLine)(I:Inv X pins σ H s)(g:DGet H a y o)(ry:RelV y u)(h:∀ s',Inv X pins σ H s'->Q (.bool o.isSome) s'):
  wpAny #[5] A (compareOp .In u (.ref a)) Q E s:=by
 rcases g with ⟨kvs,k,e,ey,l⟩ | ⟨kvs,k,b,e,ey,eb,l⟩
 .subst ey
  let ⟨z,hd,vs,rel,dd⟩:=bR I.hok e;refine wpAny_in_of (bP ry) hd dd.mapOf ?_;rw [<-(rel.val k).isSome_eq,<-l];exact h _ (I.tok _)
 .subst ey
  cases (show u=Value.ref b from ry);let ⟨z,hd,xs,rel,dd⟩:=bS I.hok e;refine wpAny_in_heap (tupleKind_room_in1 hu) (bM I.hok eb) hd dd ?_;have q:=(rel.val k).isSome_eq;rw [Option.isSome_map] at q;rw [<-q,<-l];exact h _ (I.tok _)
def xE{Q:Value->Shared->Prop}(hu:A.units+1 < cLine)(I:Inv X pins σ H s)(g:DGet H a y o)(ry:RelV y u)(h:∀ s',Inv X pins σ H s'->Q (.bool (!o.isSome)) s'):
  wpAny #[5] A (compareOp .NotIn u (.ref a)) Q E s:=by
 rcases g with ⟨kvs,k,e,ey,l⟩ | ⟨kvs,k,b,e,ey,eb,l⟩
 .subst ey
  let ⟨z,hd,vs,rel,dd⟩:=bR I.hok e;refine wpAny_notIn_of (bP ry) hd dd.mapOf ?_;rw [<-(rel.val k).isSome_eq,<-l];exact h _ (I.tok _)
 .subst ey
  cases (show u=Value.ref b from ry);let ⟨z,hd,xs,rel,dd⟩:=bS I.hok e;refine wpAny_notIn_heap (tupleKind_room_in1 hu) (bM I.hok eb) hd dd ?_;have q:=(rel.val k).isSome_eq;rw [Option.isSome_map] at q;rw [<-q,<-l];exact h _ (I.tok _)
def eJ{ob:HO}(I:Inv X pins σ H s)(mu:Mut (H a))(hs:Heap.SameBut a s.heap h')(he:∃ q,h'.get? a=some q)(new:ObjOk X.prog X.w (upd H a ob) h' a ob):
  Inv X pins σ (upd H a ob) { s with heap:=h',toks:=t' } :=
 I.write (x:=a) (e:=a) mu (.inl rfl) (λb q hb z=>(hs.2 b hb).trans z) he new
def pC{P:Program}{kvs:List (Key×V)}{vs:List (Key×Value)}(z:kvs.length<=sizeLine)(hd:(a == sysModules)=false)(rel:KV kvs vs)(dd:h'.DictOf (Ay P w) a vs):
  ObjOk P w H' h' a (.dK kvs):=⟨z,hd,vs,rel,dd⟩
def vD{Q:Unit->Shared->Prop}(hu:A.units+1 < cLine)(I:Inv X pins σ H s)(g:DPut H a y v H')(ry:RelV y u)(rv:RelV v r)(h:∀ s',Inv X pins σ H' s'->Q .unit s'):
  wpAny #[5] A (setItem (.ref a) u r) Q E s:=by
 rcases g with ⟨kvs,k,e,ey,l,eH⟩ | ⟨kvs,k,b,e,ey,eb,l,eH⟩
 .subst ey eH
  let ⟨z,hd,vs,rel,dd⟩:=sf I.hok e;have hz:vs.length<=sizeLine:=by rw [<-rel.length];exact z
  have hl:(putK kvs k v).length<=sizeLine:=by have:=dv kvs k v;omega
  refine wpAny_setItem_pairs (hsz:=hz) (bP ry) dd λh' dd' hs=>h _ ?_;have he:∃ q,h'.get? a=some q:=let ⟨q,_,_,hq,_⟩:=dd';⟨q,hq⟩
  exact eJ I (by rw [e];exact True.intro) hs he (pC hl hd (rel.put k rv) dd')
 .subst ey eH
  cases (show u=Value.ref b from ry);let ⟨z,hd,xs,rel,dd⟩:=rN I.hok e;have hz:xs.length<=sizeLine:=by rw [<-Paired.length rel];exact z
  have hl:(putK kvs k v).length<=sizeLine:=by have:=dv kvs k v;omega
  refine wpAny_setItem_heap (hsz:=hz) (tupleKind_room_in1 hu) (bM I.hok eb) dd λh' dd' hs=>h _ ?_;let ⟨q,es,ep,hq,h2,h3,h4,_,h5⟩:=dd';refine eJ I (by rw [e];exact True.intro) hs ⟨q,hq⟩ ⟨hl,hd,_,(rel.put k eb rv).keeps λc ys ec => ?_,q,es,ep,hq,h2,h3,h4,h5⟩
  rw [ae (cH ec e (λz=>nomatch z))];exact ec
end
end L2
namespace L2
open PySem PySem.Spec PyProof.Rows
def xj{P:Program}(h:Heap)(hb:sysModules < h.objs.size):ObjOk P w H (h.push { cls := .type "dict",data := .dict #[] }) h.objs.size (.dK []) :=
 ⟨Nat.zero_le _,beq_eq_false_iff_ne.mpr (Ne.symm (HD hb)),[],.nil,Heap.DictOf.new h⟩
def jX{P:Program}(h:Heap)(hb:sysModules < h.objs.size):ObjOk P w H (h.push { cls := .type "dict",data := .dict #[] }) h.objs.size (.dT []) :=
 ⟨Nat.zero_le _,beq_eq_false_iff_ne.mpr (Ne.symm (HD hb)),[],.nil,_,#[],0,HE _ rfl,⟨rfl,rfl,rfl⟩,rfl,rfl,List.nodup_nil⟩
def G5:TE:=λ_ H Q => ∀ p,H p=none->Q (.ref p) (upd H p (.dT []))
section
def wN:PE X (.Dict [] [] pos) G5:=λpins s σ H Q I h =>
 wpAny_Dict_empty ⟨.ref s.heap.objs.size,_,I.laid (a:=s.heap.objs.size) (o := .dT []) (t':=s.toks) (λ_ _ q=>Hw _ q) (HA _) (jX s.heap I.big),rfl,h _ (I.hok.fresh (HA _))⟩
end
def CU:List (TE×TE)->St->Hp->(List (V×V)->Hp->Prop)->Prop
 | [],_,H,Q=>Q [] H
 | (tk,tv) :: r,σ,H,Q=>tk σ H λx H1=>tv σ H1 λy H2=>CU r σ H2 λps H3=>Q ((x,y) :: ps) H3
abbrev VV:List (V×V)->List (Value×Value)->Prop:=Paired λp q=>RelV p.1 q.1/\RelV p.2 q.2
def PPs(X:Cx)(pos:Pos)(keys:List (Option Expr))(values:List Expr)(trs:List (TE×TE)):Prop :=
 ∀ (pins:List (Addr×Obj)) (s:Shared) (σ:St) (H:Hp) (Q:List (V×V)->Hp->Prop),Inv X pins σ H s->CU trs σ H Q ->
  wpAny #[5] X.A (evalPairs (pairTrees keys values X.env pos)) (λvs s' => ∃ ps H',Inv X pins σ H' s'/\VV ps vs/\Q ps H') X.xe s
def yt:PPs X pos [] [] []:=λpins s σ H Q I h=>pairTrees_nil_walk ⟨[],H,I,.nil,h⟩
def wk{k v:Expr}{ks:List (Option Expr)}{vs:List Expr}{tk tv:TE}{trs:List (TE×TE)}(hk:PE X k tk)(hv:PE X v tv)(hr:PPs X pos ks vs trs):
  PPs X pos (some k :: ks) (v :: vs) ((tk,tv) :: trs):=λpins s σ H Q I h =>
 pairTrees_cons_walk (thn (hk pins s σ H _ I h) λu s1 ⟨x,H1,I1,rx,q1⟩=>thn (hv pins s1 σ H1 _ I1 q1) λw2 s2 ⟨y,H2,I2,ry,q2⟩ =>
  thn (hr pins s2 σ H2 _ I2 q2) λws s3 ⟨ps,H3,I3,rel,q3⟩=>⟨(x,y) :: ps,H3,I3,.cons ⟨rx,ry⟩ rel,q3⟩)
def Bz(kvs more:List (Key×V)):List (Key×V):=more.foldl (λacc kv=>putK acc kv.1 kv.2) kvs
def KV.merge:∀ {more:List (Key×V)} {rs:List (Key×Value)} {kvs:List (Key×V)} {vs:List (Key×Value)},KV more rs->KV kvs vs->KV (Bz kvs more) (merged vs rs):=by
 intro more rs kvs vs r;unfold KV at r
 induction r generalizing kvs vs with
 | nil=>intro q;exact q
 | @cons p q ps qs h t ih =>
  intro r0;have e:KV (putK kvs p.1 p.2) (stored vs q.1 q.2):=by
   have:=r0.put p.1 h.2;rw [<-h.1];exact this
  exact ih e
def ig:∀ (more kvs:List (Key×V)),(Bz kvs more).length<=kvs.length+more.length
 | [],kvs=>by show kvs.length<=kvs.length+0;omega
 | p :: r,kvs=>by
  have h1:=ig r (putK kvs p.1 p.2);have h2:=dv kvs p.1 p.2;show (Bz (putK kvs p.1 p.2) r).length<=_;rw [List.length_cons];omega
def iR{P:Program}{w:World}:∀ {kvs:List (Key×V)} {ws:List (Value×Value)},VV (kvs.map λkv=>(Ic kv.1,kv.2)) ws -> ∃ rs,Carries (Ay P w) ws rs/\KV kvs rs
 | [],_,r=>by rw [List.map_nil] at r;cases r;exact ⟨[],True.intro,.nil⟩
 | p :: kvs,_,r=>by
  rw [List.map_cons] at r;cases r with
  | @cons a b as bs h t =>
   let ⟨rs,c,q⟩:=iR (P:=P) (w:=w) t;let ⟨b1,b2⟩:=b;exact ⟨(p.1,b2) :: rs,⟨bP h.1,rfl,c⟩,.cons ⟨rfl,h.2⟩ q⟩
def He(trs:List (TE×TE)):TE:=λσ H Q => ∀ p,H p=none->CU trs σ (upd H p (.dK [])) λps H2=>H2 p=some (.dK []) /\ ∃ kvs:List (Key×V),ps=kvs.map (λkv=>(Ic kv.1,kv.2))/\kvs.length<=15/\Q (.ref p) (upd H2 p (.dK (Bz [] kvs)))
def yI{values:List Expr}{trs:List (TE×TE)}(h:PPs X pos keys values trs)(hall:keys.all (·.isSome)=true)(hl:keys.length=values.length)(h0:keys≠[])
  (h15:keys.length<=15):PE X (.Dict keys values pos) (He trs):=by
 intro pins s σ H Q I q;have hn:=I.hok.fresh (HA s.heap.objs.size);have I1:=I.laid (a:=s.heap.objs.size) (o := .dK []) (h':=s.heap.push { cls := .type "dict",data := .dict #[] }) (t':=s.toks) (λ_ _ q=>Hw _ q) (HA _) (xj s.heap I.big);refine wpAny_Dict_walk (knd:=Ay X.prog X.w) hall hl h0 h15 (thn (h pins _ σ _ _ I1 (q _ hn)) ?_);rintro ws s2 ⟨ps,H2,I2,rel,e,kvs,ep,lk,q2⟩;subst ep;let ⟨rs,c,rk⟩:=iR (P:=X.prog) (w:=X.w) rel;let ⟨z,hd,vs0,r0,dd⟩:=sf I2.hok e;cases r0;refine ⟨rs,c,dd,λh' dd' hs=>⟨.ref s.heap.objs.size,_,?_,rfl,q2⟩⟩;have hz:(Bz [] kvs).length<=sizeLine:=by
  have h1:=ig kvs [];rw [List.length_nil] at h1;rw [sizeLine_eq];omega
 have he:∃ q,h'.get? s.heap.objs.size=some q:=let ⟨q,_,_,hq,_⟩:=dd';⟨q,hq⟩
 exact eJ I2 (by rw [e];exact True.intro) hs he (pC hz hd (rk.merge .nil) dd')
structure M1(X:Cx)(o:Expr)(m:Str)(apos:Pos)(e:Expr)(cpos:Pos):Prop where
 base:attributeBase o m X.env #[38]=eval o X.env
 few:((backTo cpos (starEach [e] X.env)).all (λx => !x.1) && (backToKw cpos (keywordEach [] X.env)).all (λx=>x.1.isSome)
  && decide (([e]:List Expr).length+([]:List Keyword).length+(if ([]:List Keyword).isEmpty then 0 else 1) < 30))=true
 line:(apos.endLine == cpos.line)=true
 trees:backTo cpos (starEach [e] X.env)=[(false,eval e X.env)]
structure M2(X:Cx)(o:Expr)(m:Str)(apos:Pos)(e f:Expr)(cpos:Pos):Prop where
 base:attributeBase o m X.env #[38]=eval o X.env
 few:((backTo cpos (starEach [e,f] X.env)).all (λx => !x.1) && (backToKw cpos (keywordEach [] X.env)).all (λx=>x.1.isSome)
  && decide (([e,f]:List Expr).length+([]:List Keyword).length+(if ([]:List Keyword).isEmpty then 0 else 1) < 30))=true
 line:(apos.endLine == cpos.line)=true
 trees:backTo cpos (starEach [e,f] X.env)=[(false,eval e X.env),(false,eval f X.env)]
def IsD(H:Hp)(a:Addr):Prop:=(∃ kvs,Rd H a (.dK kvs)) \/ ∃ kvs,Rd H a (.dT kvs)
def ab5(I:Inv X pins σ H s)(d:IsD H a):
  s.TypeIs (.ref a) "dict" /\ (∀ b,Value.ref a=.ref b -> ∃ ob,s.heap.get? b=some ob/\ob.dict=none)/\(a == sysModules)=false:=by
 rcases d with ⟨kvs,e⟩ | ⟨kvs,e⟩
 .obtain ⟨_,hd,vs,_,dd⟩:=bR I.hok e
  refine ⟨dd.typeIs,λb q => ?_,hd⟩;cases q;let ⟨ob,_,_,h1,h2,_⟩:=dd;exact ⟨ob,h1,h2.2.1⟩
 .obtain ⟨_,hd,xs,_,dd⟩:=bS I.hok e
  refine ⟨dd.typeIs,λb q => ?_,hd⟩;cases q;let ⟨ob,_,_,h1,h2,_⟩:=dd;exact ⟨ob,h1,h2.2.1⟩
section
variable{d:V}{u r:Value}{o:Option V}{E:Value->Shared->Prop}
def zu{Q:Value->Shared->Prop}(hu:A.units+1 < cLine)(I:Inv X pins σ H s)(g:DGet H a y o)(ry:RelV y u)(rd:RelV d r)(h:∀ w' s',Inv X pins σ H s'->RelV (o.getD d) w'->Q w' s'):
  wpAny #[5] A (call (.builtin "dict.get") [.ref a,u,r]) Q E s:=by
 rcases g with ⟨kvs,k,e,ey,l⟩ | ⟨kvs,k,b,e,ey,eb,l⟩
 .subst ey
  let ⟨z,hd,vs,rel,dd⟩:=bR I.hok e;refine call_meetsIn PySem.F.slot_dict_get dd.typeIs PySem.F.entry_dict_get (PySem.F.args_dict_get_3 _ _ _) (meets_dict_get_default (Ay X.prog X.w) a (bP ry) hd r) ⟨_,dd.mapOf,h _ _ (I.tok _) ?_⟩;rw [l];exact (rel.val k).getD rd
 .subst ey
  cases (show u=Value.ref b from ry);let ⟨z,hd,xs,rel,dd⟩:=bS I.hok e;refine call_meetsIn PySem.F.slot_dict_get dd.typeIs PySem.F.entry_dict_get (PySem.F.args_dict_get_3 _ _ _) (meetsH_dict_get_default (tupleKind (Ay X.prog X.w)) a b hd r) ⟨tupleKind_room_in1 hu,k,xs,bM I.hok eb,dd,h _ _ (I.tok _) ?_⟩;rw [l];exact (rel.val k).getD rd
end
def G0(td ty tx:TE):TE:=λσ H Q=>td σ H λx H1 => ∃ a,x=.ref a/\IsD H1 a/\ty σ H1 λy H2=>tx σ H2 λz H3 => ∃ o,DGet H3 a y o/\Q (o.getD z) H3
section
variable{f:Expr}{td ty tx:TE}
def wG(hu:X.A.units+1 < cLine)(ho:PE X o td)(he:PE X e ty)(hf:PE X f tx)(m:M2 X o "get" apos e f cpos):PE X (.Call (.Attribute o "get" apos) [e,f] [] cpos) (G0 td ty tx):=by
 intro pins s σ H Q I h;refine wpAny_Call_method m.base m.few m.line PySem.F.plainAttrs_dict PySem.F.slot_dict_get PySem.F.type_dict_get (thn (ho pins s σ H _ I h) ?_);rintro u s1 ⟨x,H1,I1,rx,a,ex,d,q1⟩;subst ex;obtain rfl:u=Value.ref a:=rx;let ⟨t1,t2,_⟩:=ab5 I1 d;refine ⟨t1,t2,?_⟩;rw [m.trees];refine Calls.callWith_builtin rfl (Calls.evalArgs_plain (Calls.spliced_cons (thn (he pins s1 σ H1 _ I1 q1) λiv s2 ⟨y,H2,I2,ry,q2⟩ =>
  Calls.spliced_cons (thn (hf pins s2 σ H2 _ I2 q2) λfv s3 ⟨z,H3,I3,rz,ov,g,q3⟩=>Calls.spliced_nil ?_))))
 exact zu hu I3 g ry rz λw' s4 I4 rw'=>⟨_,H3,I4,rw',q3⟩
end
end L2
namespace PI
noncomputable section
open PySem
open PySem PyProof.Rows
def Gg:List Int->List Int->Bool
 | [],[]=>false
 | [],_ :: _=>true
 | _ :: _,[]=>false
 | a :: r,b :: q=>if a=b then Gg r q else decide (a < b)
abbrev KyB:=List (List Int×Addr)
open PySem PyProof.Rows PySem.W
open PySem
noncomputable section
set_option genInjectivity false in
inductive O where
 | lst (xs:List U) | dic (kvs:List (List Int×U)) | dif (kvs:List (List Int×U)) | dst (kvs:List (Str×U)) | ins (c:Nat) (fs:List (Nat×U))
abbrev G:=List O
abbrev Su:=List (Option U)
inductive Out(α:Type) where
 | ok (a:α) (g:G) | exc (c:Nat) (fs:List U) (g:G) | bad
noncomputable def Out.bind{α β:Type}(o:Out α)(k:α->G->Out β):Out β:=match o with
 | .ok a g=>k a g
 | .exc c fs g => .exc c fs g
 | .bad => .bad
noncomputable def Out.noex{α:Type}(o:Out α):Out α:=match o with
 | .ok a g => .ok a g
 | _ => .bad
noncomputable def Out.bindB{α β:Type}(o:Out α)(k:α->G->Out β):Out β:=match o with
 | .ok a g=>k a g
 | _ => .bad
set_option genInjectivity false in
inductive Fl where | nx (σ:Su) | rt (u:U) | bk (σ:Su) | ct (σ:Su)
set_option genInjectivity false in
inductive Iter where | lst (id:Nat) | dic (id:Nat) | enm (id:Nat) | zip (id id':Nat) | seq (xs:List U) | rng (lo:Int) (n:Nat)
def Ar(x y:U):Option Bool:=match x with
 | .non=>match y with
  | .non=>some true
  | .bl _=>some false
  | .int _=>some false
  | .str _=>some false
  | _=>none
 | .bl a=>match y with
  | .non=>some false
  | .bl b=>some (a == b)
  | .int b=>some ((if a then 1 else 0) == b)
  | .str _=>some false
  | _=>none
 | .int a=>match y with
  | .non=>some false
  | .bl b=>some (a == (if b then 1 else 0))
  | .int b=>some (a == b)
  | .str _=>some false
  | _=>none
 | .str a=>match y with
  | .non=>some false
  | .bl _=>some false
  | .int _=>some false
  | .str b=>some (a == b)
  | _=>none
 | _=>none
def Aw:List U->List U->Option Bool
 | [],[]=>some true
 | x :: xs,y :: ys=>match Ar x y with
  | none=>none
  | some b=>match Aw xs ys with
   | none=>none
   | some c=>some (b && c)
 | _,_=>none
def IV:U->U->Option Bool
 | .tup xs,.tup ys=>Aw xs ys
 | x,y=>Ar x y
def CG:U->U->Bool
 | .int _,.int _=>true
 | .bl _,.bl _=>true
 | .str _,.str _=>true
 | .non,.non=>true
 | _,_=>false
def BR:Int:=18446744073709551616
def Au:Int:=115792089237316195423570985008687907853269984665640564039457584007913129639936
def IW(op:Op)(i j:Int):Option U:=match op with
 | .add=>some (.int (i+j))
 | .sub=>some (.int (i - j))
 | .mul=>if (decide (-BR < i) && decide (i < BR)) || (decide (-BR < j) && decide (j < BR)) || (decide (-Au < i) && decide (i < Au) && decide (-Au < j) && decide (j < Au)) then some (.int (i*j)) else none
 | .fdiv=>if 0 < j then (if j < Au then some (.int (i / j)) else none)
   else if j=0 then none else if -Au < j then some (.int (i.fdiv j)) else none
 | .mod=>if 0 < j then some (.int (i % j)) else if j=0 then none else some (.int (i.fmod j))
 | .pow=>if 0<=j/\j<=1000/\i.natAbs < 1000000 then some (.int (i ^ j.toNat)) else none
def IX(op:Op)(x y:U):Option U:=match x with
 | .int i=>match y with
  | .int j=>IW op i j
  | _=>none
 | _=>none
def Ci:Op->U->U->Option U
 | .add,.int a,.int b=>some (.int (a+b))
 | .sub,.int a,.int b=>some (.int (a - b))
 | _,_,_=>none
def IY(x:U):List U->Option Bool
 | []=>some false
 | y :: ys=>match IV y x with
  | none=>none
  | some b=>match IY x ys with
   | none=>none
   | some c=>some (b || c)
def items(u:U)(g:G):Option (List U):=match u with
 | .tup xs=>some xs
 | .fro xs=>some xs
 | .xn _ xs=>some xs
 | .ref n=>match g[n]? with
  | some (.lst xs)=>some xs
  | _=>none
 | _=>none
def AE:U->Bool
 | .non=>true
 | _=>false
def intsOf:List U->Option #[26]
 | []=>some []
 | .int i :: r=>(intsOf r).map (i :: ·)
 | _ :: _=>none
def keyOf(u:U):Option #[26]:=match u with
 | .tup us=>intsOf us
 | _=>none
def Ao(kvs:List (List Int×U))(k:List Int):Option U:=(kvs.find? λkv=>decide (kv.1=k)).map (·.2)
def dput(kvs:List (List Int×U))(k:List Int)(v:U):List (List Int×U) :=
 if (kvs.any λkv=>decide (kv.1=k))=true then kvs.map (λkv=>if kv.1=k then (kv.1,v) else kv) else kvs++[(k,v)]
def BF(kvs:List (List Int×U))(x:U):Option (List (List Int×U)):=match x with
 | .tup [k,u]=>(keyOf k).map λks=>dput kvs ks u
 | _=>none
def dfold:List U->List (List Int×U)->Option (List (List Int×U))
 | [],kvs=>some kvs
 | x :: r,kvs=>(BF kvs x).bind λk=>dfold r k
def AU(kvs:List (Str×U))(k:Str):Option U:=(kvs.find? λkv=>decide (kv.1=k)).map (·.2)
def Ep(kvs:List (Str×U))(k:Str)(v:U):List (Str×U) :=
 if (kvs.any λkv=>decide (kv.1=k))=true then kvs.map (λkv=>if kv.1=k then (kv.1,v) else kv) else kvs++[(k,v)]
def IZ(y:U)(g:G):Option (List (Str×U)):=match y with
 | .ref n=>match g[n]? with
  | some (.dst kvs)=>some kvs
  | _=>none
 | _=>none
def I0(y:U)(g:G):Option (List (List Int×U)):=match y with
 | .ref n=>match g[n]? with
  | some (.dic kvs)=>some kvs
  | some (.dif kvs)=>some kvs
  | _=>none
 | _=>none
def Aj(x y:U)(g:G):Option (Option U):=match I0 y g with
 | some kvs=>(keyOf x).map (Ao kvs)
 | none=>none
def A2(x y:U)(g:G):Option (List U×List U):=match x with
 | .ref n=>match y with
  | .ref m=>match g[n]? with
   | some (.lst xs)=>match g[m]? with
    | some (.lst ys)=>some (xs,ys)
    | _=>none
   | _=>none
  | _=>none
 | _=>none
def qs(q:U->U->Option Bool):List U->List U->Option Bool
 | [],[]=>some true
 | x :: xs,y :: ys=>match q x y with
  | none=>none
  | some b=>match qs q xs ys with
   | none=>none
   | some c=>some (b && c)
 | _,_=>none
def Gw:U->U->Option Bool
 | .tup xs,.tup ys=>qs IV xs ys
 | x,y=>Ar x y
def I8(xs ys:List U):Option Bool:=if xs.length=ys.length then qs Gw xs ys else some false
def B8:List U->Option #[26]
 | []=>some []
 | u :: r=>(Eh u).bind λi=>(B8 r).map (i :: ·)
def Br(u:U)(g:G):Option #[26]:=match u with
 | .ref n=>match g[n]? with
  | some (.lst us)=>B8 us
  | _=>none
 | _=>none
def BU(g:G):List U->Option (List #[26])
 | []=>some []
 | u :: r=>(Br u g).bind λi=>(BU g r).map (i :: ·)
def Ba(u:U)(g:G):Option (List #[26]):=match u with
 | .ref n=>match g[n]? with
  | some (.lst us)=>BU g us
  | _=>none
 | _=>none
def I9(x y:U)(p:List U×List U)(g:G):Option Bool:=match I8 p.1 p.2 with
 | some b=>some b
 | none=>(Ba x g).bind λa=>(Ba y g).map λb=>decide (a=b)
def neT(x y:U):Option Bool:=match x with
 | .tup xs=>match y with
  | .tup ys=>(qs IV xs ys).map (!·)
  | _=>none
 | _=>none
def Ja(op:Cp)(x y:U)(g:G):Option Bool:=match op with
 | .eq=>match A2 x y g with
  | some p=>I9 x y p g
  | none=>IV x y
 | .ne=>if CG x y then (Ar x y).map (!·) else neT x y
 | .lt=>match x,y with | .int i,.int j=>some (decide (i < j)) | _,_=>none
 | .le=>match x,y with | .int i,.int j=>some (decide (i<=j)) | _,_=>none
 | .gt=>match x,y with | .int i,.int j=>some (decide (j < i)) | _,_=>none
 | .ge=>match x,y with | .int i,.int j=>some (decide (j<=i)) | _,_=>none
 | .isN=>if AE y then some (AE x) else none
 | .notN=>if AE y then some (!AE x) else none
 | .inn=>match items y g with | some ys=>IY x ys | none=>(Aj x y g).map Option.isSome
 | .nin=>match items y g with | some ys=>(IY x ys).map (!·) | none=>(Aj x y g).map λo => !o.isSome
def Jb(u:U)(g:G):Option Bool:=match u with
 | .non=>some false
 | .bl b=>some b
 | .int i=>some (i != 0)
 | .tup xs=>some (!xs.isEmpty)
 | .fro xs=>some (!xs.isEmpty)
 | .ref n=>match g[n]? with
  | some (.lst xs)=>some (!xs.isEmpty)
  | _=>none
 | _=>none
def Jc(xs:List U)(i:Int):Option U:=L2.atI xs i
noncomputable def lift{α:Type}(o:Option α)(g:G):Out α:=match o with
 | some a => .ok a g
 | none => .bad
noncomputable def alloc(o:O)(g:G):Out U := .ok (.ref g.length) (g++[o])
def Ae:Nat:=16777000
def Bd(op:Op)(x y:U)(g:G):Out U:=match A2 x y g with
 | some p=>match op with
  | .add=>if p.1.length+p.2.length<=Ae then alloc (.lst (p.1++p.2)) g else .bad
  | _ => .bad
 | none=>lift (IX op x y) g
def AJ(x:U)(g:G):Option (Nat×List (Nat×U)):=match x with
 | .ref n=>match g[n]? with
  | some (.ins c fs)=>some (c,fs)
  | _=>none
 | _=>none
def Cm(j:Nat)(u:U):List (Nat×U)->List (Nat×U)
 | []=>[(j,u)]
 | (i,x) :: r=>if i=j then (i,u) :: r else (i,x) :: Cm j u r
def BE(j:Nat)(cs:List Nat)(p:Nat×List (Nat×U)):Option U:=if cs.contains p.1 then p.2.lookup j else none
def A8(x:U)(j:Nat)(cs:List Nat)(u:U)(g:G):Option G:=match x with
 | .ref n=>match g[n]? with
  | some (.ins c fs)=>if cs.contains c/\fs.length < 1000 then some (g.set n (.ins c (Cm j u fs))) else none
  | _=>none
 | _=>none
def BA(j:Nat)(tb:List (Nat×Nat×List (Nat ⊕ U)))(p:Nat×List (Nat×U)):Option (Nat×List (Nat ⊕ U)):=match p.2.lookup j with
 | none=>tb.lookup p.1
 | some _=>none
def CB(t:Ty):Option Bool:=match t with | .tlist=>some true | _=>some false
def AL(t:Ty)(u:U)(g:G):Option Bool:=match u with
 | .non=>some false
 | .bl _=>match t with | .tint=>some true | .tbool=>some true | .own _=>none | _=>some false
 | .int _=>match t with | .tint=>some true | .own _=>none | _=>some false
 | .str _=>match t with | .tstr=>some true | .own _=>none | _=>some false
 | .tup _=>match t with | .ttuple=>some true | .own _=>none | _=>some false
 | .ref n=>match g[n]? with
  | some (.lst _)=>CB t
  | some (.ins c _)=>match t with | .own c'=>if c=c' then some true else none | _=>none
  | _=>none
 | _=>none
def Be(xs:List U)(lo hi:Option Int):List U:=(xs.drop (HT.sIx xs.length 0 lo)).take (HT.sIx xs.length xs.length hi - HT.sIx xs.length 0 lo)
def best(m:Bool)(a:Int)(r:List Int):Int:=r.foldl (λx y=>if m then (if y < x then y else x) else (if y > x then y else x)) a
def insI(a:Int):List Int->List Int
 | []=>[a]
 | b :: r=>if a<=b then a :: b :: r else b :: insI a r
def sortI:List Int->List Int
 | []=>[]
 | a :: r=>insI a (sortI r)
def Dh(us:List U)(g:G):Out U:=match us with
 | [u]=>match items u g with
  | some xs => .ok (.int xs.length) g
  | none => .bad
 | _ => .bad
def DQ(us:List U)(g:G):Out U:=match us with
 | [u]=>match u with
  | .int i => .ok (.int (if i < 0 then -i else i)) g
  | _ => .bad
 | _ => .bad
def tupI(k:List Int):U := .tup (k.map .int)
def Cv(us:List U)(g:G):Out U:=match us with
 | [u]=>match items u g with
  | some xs=>alloc (.lst xs) g
  | none => .bad
 | _ => .bad
def Bl(us:List U)(g:G):Option #[26]:=match us with
 | [.ref n]=>match g[n]? with
  | some (.lst xs)=>intsOf xs
  | _=>none
 | _=>none
def BY(m:Bool)(us:List U)(g:G):Out U:=match intsOf us with
 | some ns=>match ns with
  | [a,b] => .ok (.int (best m a [b])) g
  | [a,b,c] => .ok (.int (best m a [b,c])) g
  | _ => .bad
 | none=>match Bl us g with
  | some ns=>match ns with
   | a :: r => .ok (.int (best m a r)) g
   | [] => .bad
  | none => .bad
def Hr(us:List U)(g:G):Out U:=match Bl us g with
 | some ns => .ok (.int ns.sum) g
 | none => .bad
def Ho(us:List U)(g:G):Out U:=match us with
 | [u]=>match u with
  | .tup xs => .ok (.tup xs) g
  | .xn c xs => .ok (.xn c xs) g
  | .ref n=>match g[n]? with
   | some (.lst xs) => .ok (.tup xs) g
   | _ => .bad
  | _ => .bad
 | _ => .bad
def FF(g:G):List U->Option (List U)
 | []=>some []
 | .ref n :: r=>match g[n]? with
  | some (.lst xs)=>(FF g r).map (xs ++ ·)
  | _=>none
 | _ :: _=>none
def G6(us:List U)(g:G):Out U:=match us with
 | [.ref n,.ref m]=>match g[n]? with
  | some (.lst (x :: xs))=>match g[m]? with
   | some (.lst [])=>match FF g (x :: xs) with
    | some zs=>if zs.length<=Ae then alloc (.lst zs) g else .bad
    | none => .bad
   | _ => .bad
  | _ => .bad
 | _ => .bad
def FT:List U->Option (List #[26])
 | []=>some []
 | u :: r=>match keyOf u with
  | none=>none
  | some k=>match FT r with
   | none=>none
   | some ks=>some (k :: ks)
def GC(a:List Int):List #[26]->List #[26]
 | []=>[a]
 | b :: r=>if a=b then b :: r else if Gg a b=true then a :: b :: r else b :: GC a r
def Jd:List #[26]->List #[26]
 | []=>[]
 | a :: r=>GC a (Jd r)
def hkL(k:List Int):Int:=reduceHash (Builtin.Tuple.tupleHashOf (k.map hashInt))
def Je(ks:List #[26]):Prop:=ks.length<=300/\(∀ k∈ks,k≠[]) /\ ∀ a∈ks,∀ b∈ks,hkL a=hkL b->a=b
def G3(us:List U)(g:G):Out U:=match us with
 | [.ref n]=>match g[n]? with
  | some (.lst xs)=>match FT xs with
   | some ks=>open Classical in if Je ks then alloc (.lst ((Jd ks).map tupI)) g else .bad
   | none => .bad
  | _ => .bad
 | _ => .bad
def Hl(us:List U)(g:G):Out U:=match Bl us g with
 | some ns=>if ns.length < 64 then alloc (.lst ((sortI ns).map U.int)) g else .bad
 | none => .bad
def C6(us:List U)(g:G):Out U:=match us with
 | [u]=>match I0 u g with
  | some kvs=>open Classical in if kvs≠[] /\ ∀ a∈kvs.map (·.1),∀ b∈kvs.map (·.1),hkL a=hkL b->a=b then alloc (.dic kvs) g else .bad
  | none => .bad
 | _ => .bad
def AG(d:List #[26]):PySem.PyData := .list (d.map λr => .list (r.map .int))
def C8(us:List U)(g:G):Out U:=match us with
 | [u]=>match Ba u g with
  | some d=>open Classical in if (AG d).showable=true/\(AG d).shown.length<=PySem.sizeLine then .ok (.str (AG d).shown) g else .bad
  | none => .bad
 | _ => .bad
def C5(us:List U)(g:G):Out U:=match us with
 | [u]=>match u with
  | .bl b => .ok (.int (if b then 1 else 0)) g
  | _ => .bad
 | _ => .bad
def Jf(b:Bi)(us:List U)(g:G):Out U:=match b with
 | .len=>Dh us g
 | .abs=>DQ us g
 | .list=>Cv us g
 | .mn=>BY true us g
 | .mx=>BY false us g
 | .srt=>Hl us g
 | .sum=>Hr us g
 | .tupl=>Ho us g
 | .cat=>G6 us g
 | .sset=>G3 us g
 | .dct=>C6 us g
 | .rpr=>C8 us g
 | .int=>C5 us g
def Jg(x:U)(g:G):Option Nat:=match x with
 | .ref n=>match g[n]? with
  | some (.lst _)=>some n
  | _=>none
 | _=>none
def A5(n:Nat)(y:U)(g:G):Out U:=match g[n]? with
 | some (.lst xs)=>if xs.length < Ae then .ok .non (g.set n (.lst (xs++[y]))) else .bad
 | _ => .bad
def Bp(n:Nat)(y:U)(g:G):Out U:=match Jg y g with
 | some m=>match g[n]?,g[m]? with
  | some (.lst xs),some (.lst ys)=>if xs.length+ys.length < Ae then .ok .non (g.set n (.lst (xs++ys))) else .bad
  | _,_ => .bad
 | none => .bad
def BD(c:Bool)(n:Nat)(g:G):Out U:=match g[n]? with
 | some (.lst xs) => .ok .non (g.set n (.lst (match c with | true=>[] | false=>xs.reverse)))
 | _ => .bad
def Bg(n:Nat)(g:G):Out U:=match g[n]? with
 | some (.lst xs)=>match xs[xs.length - 1]? with
  | some y => .ok y (g.set n (.lst xs.dropLast))
  | none => .bad
 | _ => .bad
def CV(n:Nat)(y:U)(g:G):Out U:=match y with
 | .int i=>match g[n]? with
  | some (.lst xs)=>if 0<=i/\i < 9223372036854775808 then match xs[i.toNat]? with
   | some u => .ok u (g.set n (.lst (xs.eraseIdx i.toNat)))
   | none => .bad
   else .bad
  | _ => .bad
 | _ => .bad
def Jh(f:E->Su->G->Out U):List E->Su->G->Out (List U)
 | [],_,g => .ok [] g
 | e :: es,σ,g=>(f e σ g).bind λu g=>(Jh f es σ g).bind λus g => .ok (u :: us) g
def Ji(f:E->Su->G->Out U):Option E->Su->G->Out (Option Int)
 | none,_,g => .ok none g
 | some e,σ,g=>(f e σ g).bind λu g=>match u with
  | .int i => .ok (some i) g
  | _ => .bad
def next(it:Iter)(i:Nat)(g:G):Option (Option U):=match it with
 | .lst id=>match g[id]? with
  | some (.lst xs)=>some xs[i]?
  | _=>none
 | .dic id=>match g[id]? with
  | some (.dif kvs)=>some ((kvs[i]?).map λkv => .tup (kv.1.map .int))
  | _=>none
 | .enm id=>match g[id]? with
  | some (.lst xs)=>some ((xs[i]?).map λu => .tup [.int i,u])
  | _=>none
 | .zip id id'=>match g[id]? with
  | some (.lst xs)=>match g[id']? with
   | some (.lst ys)=>some ((xs[i]?).bind λu=>(ys[i]?).map λw => .tup [u,w])
   | _=>none
  | _=>none
 | .seq xs=>some xs[i]?
 | .rng lo n=>some (if i < n then some (.int (lo+i)) else none)
def bindL:List Nat->List U->Su->Option Su
 | [],[],σ=>some σ
 | i :: is,u :: us,σ=>if i < σ.length then bindL is us (σ.set i (some u)) else none
 | _,_,_=>none
def AH(t:Tg)(σ:Su):Bool:=match t with
 | .nm i=>match σ[i]? with | some none=>true | _=>false
 | .tp is=>is.all λi=>match σ[i]? with | some none=>true | _=>false
def Ah(t:Tg)(u:U)(σ:Su):Option Su:=match t with
 | .nm i=>if i < σ.length then some (σ.set i (some u)) else none
 | .tp is=>match u with
  | .tup us=>bindL is us σ
  | _=>none
def Jj(t:Tg)(u:U)(g:G):U:=match t with
 | .nm _=>u
 | .tp _=>match u with
  | .ref n=>match g[n]? with
   | some (.lst xs) => .tup xs
   | _=>u
  | _=>u
def pick(us:List U)(p:Nat ⊕ U):U:=match p with
 | .inl i=>us[i]?.getD .non
 | .inr u=>u
def perm(us:List U)(pm:List (Nat ⊕ U)):List U:=pm.map (pick us)
set_option genInjectivity false in
structure L where
 ev:E->Su->G->Out U
 ts:E->Su->G->Out Bool
 ex:List S->Su->G->Out Fl
 wh:E->List S->Su->G->Out Fl
 fr:Tg->Iter->Nat->List S->Su->G->Out Fl
 cm:Iter->Nat->Tg->List E->List (Tg×E×List E)->E->List U->Su->G->Out (List U)
def Jk(r:L)(e:E)(σ:Su)(g:G):Out Iter:=match e with
 | .rng1 a=>#[19].bind λu g=>match u with
  | .int j=>if -1000000 < j/\j < 1000000 then .ok (.rng 0 j.toNat) g else .bad
  | _ => .bad
 | .rng2 a b=>#[19].bind λu g=>(r.ev b σ g).bind λw g=>match u,w with
  | .int i,.int j=>if -1000000 < i/\i < 1000000 /\ -1000000 < j/\j < 1000000 then .ok (.rng i (j - i).toNat) g else .bad
  | _,_ => .bad
 | .enm a=>#[19].bind λu g=>match Jg u g with
  | some n => .ok (.enm n) g
  | none => .bad
 | .zip a b=>#[19].bind λu g=>(r.ev b σ g).bind λw g=>match Jg u g with
  | some n=>match Jg w g with
   | some m => .ok (.zip n m) g
   | none => .bad
  | none => .bad
 | e=>(r.ev e σ g).bind λu g=>match u with
  | .tup xs => .ok (.seq xs) g
  | .xn _ xs => .ok (.seq xs) g
  | .ref n=>match g[n]? with
   | some (.lst _) => .ok (.lst n) g
   | some (.dic kvs) => .ok (.dic n) (g.set n (.dif kvs))
   | some (.dif _) => .ok (.dic n) g
   | _ => .bad
  | _ => .bad
def Jl(c:Nat)(y:U)(g:G):Bool:=match y with
 | .non=>true
 | .ref m=>match g[m]? with
  | some (.lst _)=>true
  | some (.ins c' _)=>c' == c
  | _=>false
 | _=>false
def D0(u:U):Option Bool:=match u with
 | .bl c=>some c
 | _=>none
def Ck(tb:List (Nat×Nat×List (Nat ⊕ U)))(x y:U)(g:G):Option (Nat×List (Nat ⊕ U)):=(AJ x g).bind λp=>if Jl p.1 y g then tb.lookup p.1 else none
def Gd(y:U)(g:G):Option U:=match y with
 | .ref n=>match g[n]? with
  | some (.lst xs)=>match xs with
   | [w]=>some w
   | _=>none
  | _=>none
 | _=>none
def Hq(x y:U):Bool:=match x with
 | .ref n=>match y with
  | .ref m=>n == m
  | _=>true
 | _=>true
def B1(C:Nat->List U->G->Out U)(op:Cp)(tb:List (Nat×Nat×List (Nat ⊕ U)))(x y:U)(g:G):Out U:=match op with
 | .eq=>match Ck tb x y g with
  | some p=>(C p.1 (perm [x,y] p.2) g).bind λu g=>lift ((D0 u).map .bl) g
  | none => .bad
 | .ne=>match Ck tb x y g with
  | some p=>(C p.1 (perm [x,y] p.2) g).bind λu g=>lift ((D0 u).map λc => .bl (!c)) g
  | none => .bad
 | .inn=>match Gd y g with
  | some w=>if (AJ x g).isSome && !Hq w x then match Ck tb w x g with
   | some p=>(C p.1 (perm [w,x] p.2) g).bind λu g=>match D0 u with
    | some true => .ok (.bl true) g
    | _ => .bad
   | none => .bad
   else .bad
  | none => .bad
 | _ => .bad
def Jm(C:Nat->List U->G->Out U)(r:L)(e:E)(σ:Su)(g:G):Out U:=match e with
 | .var i=>match σ[i]? with
  | some (some u) => .ok u g
  | _ => .bad
 | .cst u => .ok u g
 | .bin op a b=>#[19].bind λx g=>(r.ev b σ g).bind λy g=>Bd op x y g
 | .cmp op a b=>#[19].bind λx g=>(r.ev b σ g).bind λy g=>match Ja op x y g with
  | some c => .ok (.bl c) g
  | none => .bad
 | .chain op op' a b c=>#[19].bind λx g=>(r.ev b σ g).bind λy g=>match Ja op x y g with
  | some true=>(r.ev c σ g).bind λz g=>match Ja op' y z g with
   | some c => .ok (.bl c) g
   | none => .bad
  | some false => .ok (.bl false) g
  | none => .bad
 | .and a b=>#[19].bind λx g=>match x with
  | .bl true=>r.ev b σ g
  | .bl false => .ok (.bl false) g
  | _ => .bad
 | .or a b=>#[19].bind λx g=>match x with
  | .bl true => .ok (.bl true) g
  | .bl false=>r.ev b σ g
  | _ => .bad
 | .not a=>#[19].bind λx g=>match Jb x g with
  | some c => .ok (.bl (!c)) g
  | none => .bad
 | .neg a=>#[19].bind λx g=>match x with
  | .int i => .ok (.int (-i)) g
  | _ => .bad
 | .ite c a b=>(r.ts c σ g).bind λk g=>if k then r.ev a σ g else r.ev b σ g
 | .tup es=>#[42].bind λus g=>if us.length<=Ae then .ok (.tup us) g else .bad
 | .lst es=>#[42].bind λus g=>if us.length<=Ae then alloc (.lst us) g else .bad
 | .idx a b=>#[19].bind λx g=>(r.ev b σ g).bind λy g=>match y with
  | .int i=>match items x g with
   | some xs=>lift (Jc xs i) g
   | none => .bad
  | .tup _=>lift ((Aj y x g).bind id) g
  | .str k=>lift ((IZ x g).bind λkvs=>AU kvs k) g
  | _ => .bad
 | .slc a lo hi=>#[19].bind λx g=>(Ji r.ev lo σ g).bind λl g=>(Ji r.ev hi σ g).bind λh g=>match x with
  | .tup xs=>if HT.sIx xs.length 0 l=0/\HT.sIx xs.length xs.length h=xs.length then .bad else .ok (.tup (Be xs l h)) g
  | .fro xs=>alloc (.lst (Be xs l h)) g
  | .ref n=>match g[n]? with
   | some (.lst xs)=>alloc (.lst (Be xs l h)) g
   | _ => .bad
  | _ => .bad
 | .rev a=>#[19].bind λx g=>match x with
  | .ref n=>match g[n]? with
   | some (.lst xs)=>alloc (.lst xs.reverse) g
   | _ => .bad
  | _ => .bad
 | .call f es=>#[42].noex.bind λus g=>C f us g
 | .callk f es ks pm=>#[42].noex.bind λus g=>(Jh r.ev ks σ g).noex.bind λws g=>if us.length=es.length/\ws.length=ks.length then C f (perm (us++ws) pm) g else .bad
 | .fld a j cs=>#[19].bind λx g=>lift ((AJ x g).bind (BE j cs)) g
 | .make c f es ks pm=>#[42].noex.bind λus g=>(Jh r.ev ks σ g).noex.bind λws g=>if us.length=es.length/\ws.length=ks.length then
   (C f (perm (.ref g.length :: us++ws) pm) (g++[.ins c []])).bind λu g'=>if AE u then .ok (.ref g.length) g' else .bad else .bad
 | .meth a j tb es ks=>#[19].noex.bind λx g=>match (AJ x g).bind (BA j tb) with
  | some p=>#[42].noex.bind λus g=>(Jh r.ev ks σ g).noex.bind λws g=>if us.length=es.length/\ws.length=ks.length then C p.1 (perm (x :: us++ws) p.2) g else .bad
  | none => .bad
 | .revm c o=>(r.ev o σ g).bind λx g=>match Jg x g with
  | some n=>BD c n g
  | none => .bad
 | .bi b es=>#[42].bind λus g=>Jf b us g
 | .isi a t=>#[19].bind λx g=>match AL t x g with
  | some c => .ok (.bl c) g
  | none => .bad
 | .popi o v=>(r.ev o σ g).bind λx g=>match Jg x g with
  | some n=>(r.ev v σ g).bind λy g=>CV n y g
  | none => .bad
 | .app o v=>(r.ev o σ g).bind λx g=>match Jg x g with
  | some n=>(r.ev v σ g).bind λy g=>A5 n y g
  | none => .bad
 | .ext o v=>(r.ev o σ g).bind λx g=>match Jg x g with
  | some n=>(r.ev v σ g).bind λy g=>Bp n y g
  | none => .bad
 | .pop o=>(r.ev o σ g).bind λx g=>match Jg x g with
  | some n=>Bg n g
  | none => .bad
 | .rng1 _ => .bad
 | .rng2 _ _ => .bad
 | .enm _ => .bad
 | .oeq op tb a b=>#[19].bind λx g=>(r.ev b σ g).bind λy g=>B1 C op tb x y g
 | .zip _ _ => .bad
 | .dnew=>alloc (.dic []) g
 | .comp own fr gs elt=>match gs with
  | [] => .bad
  | (t,it,cs) :: rest=>(Jk r it σ g).bind λi g =>
    (r.cm i 0 t cs rest elt [] (List.replicate own none++fr.map λj=>(σ[j]?).getD none) g).bindB λus g =>
     if us.length<=Ae then alloc (.lst us) g else .bad
 | .ddsp ks es=>#[42].bind λus g=>alloc (.dst (ks.zip us)) g
 | .dgt o k x=>(r.ev o σ g).bind λd g=>match I0 d g with
  | some _=>(r.ev k σ g).bind λy g=>(r.ev x σ g).bind λz g=>match Aj y d g with
   | some w => .ok (w.getD z) g
   | none => .bad
  | none => .bad
 | .pair k v=>(r.ev k σ g).bind λx g=>(r.ev v σ g).bind λy g=>match keyOf x with
  | some _ => .ok (.tup [x,y]) g
  | none => .bad
 | .dcmp own fr gs k v=>match gs with
  | [] => .bad
  | (t,it,cs) :: rest=>(Jk r it σ g).bind λi g =>
    (r.cm i 0 t cs rest (.pair k v) [] (List.replicate own none++fr.map λj=>(σ[j]?).getD none) g).bindB λus g=>match dfold us [] with
     | some kvs=>alloc (.dic kvs) g
     | none => .bad
def Jn(r:L)(e:E)(σ:Su)(g:G):Out Bool:=match e with
 | .and a b=>(r.ts a σ g).bind λc g=>if c then r.ts b σ g else .ok false g
 | .or a b=>(r.ts a σ g).bind λc g=>if c then .ok true g else r.ts b σ g
 | .not a=>(r.ts a σ g).bind λc g => .ok (!c) g
 | .ite c a b=>(r.ts c σ g).bind λk g=>if k then r.ts a σ g else r.ts b σ g
 | e=>(r.ev e σ g).bind λx g=>lift (Jb x g) g
def DV(n:Nat)(k:Int)(u:U)(σ:Su)(g:G):Out Fl:=match g[n]? with
 | some (.lst xs)=>match L2.ixN xs.length k with
  | some j => .ok (.nx σ) (g.set n (.lst (xs.set j u)))
  | none => .bad
 | _ => .bad
def DZ(n:Nat)(us:List U)(u:U)(σ:Su)(g:G):Out Fl:=match g[n]? with
 | some (.dic kvs)=>match intsOf us with
  | some k=>if kvs.length < Ae then .ok (.nx σ) (g.set n (.dic (dput kvs k u))) else .bad
  | none => .bad
 | _ => .bad
def Gp(n:Nat)(k:Str)(u:U)(σ:Su)(g:G):Out Fl:=match g[n]? with
 | some (.dst kvs)=>if kvs.length < Ae then .ok (.nx σ) (g.set n (.dst (Ep kvs k u))) else .bad
 | _ => .bad
def Hm(kvs:List (List Int×U))(k:List Int):List (List Int×U):=kvs.filter λx => !decide (x.1=k)
def CF(x y:U)(σ:Su)(g:G):Out Fl:=match x with
 | .ref n=>match g[n]? with
  | some (.dic kvs)=>match keyOf y with
   | some k=>if k∈kvs.map (·.1) then .ok (.nx σ) (g.set n (.dic (Hm kvs k))) else .bad
   | none => .bad
  | _ => .bad
 | _ => .bad
def subAt(x y u:U)(σ:Su)(g:G):Out Fl:=match x with
 | .ref n=>match y with
  | .int k=>DV n k u σ g
  | .tup us=>DZ n us u σ g
  | .str k=>Gp n k u σ g
  | _ => .bad
 | _ => .bad
def Jo(fs:List U):List (Option U)->Option (List U)
 | []=>some []
 | some u :: r=>(Jo fs r).map (u :: ·)
 | none :: r=>match fs with
  | [v]=>(Jo fs r).map (v :: ·)
  | _=>none
def Ef(o:Out U)(j c:Nat)(xs:List (Option U))(σ:Su):Out Fl:=match o with
 | .ok u g=>if j < σ.length then .ok (.nx (σ.set j (some u))) g else .bad
 | .exc c' fs g=>if c'=c/\j < σ.length/\xs.length<=Ae/\fs.length=1 then match Jo fs xs with
  | some us => .ok (.nx ((List.replicate σ.length none).set j (some (.tup us)))) g
  | none => .bad
  else .bad
 | .bad => .bad
def Jp(r:L)(s:S)(σ:Su)(g:G):Out Fl:=match s with
 | .ret e=>(r.ev e σ g).bind λu g => .ok (.rt u) g
 | .retN => .ok (.rt .non) g
 | .set t e=>(r.ev e σ g).bind λu g=>match Ah t (Jj t u g) σ with
   | some σ' => .ok (.nx σ') g
   | none => .bad
 | .par i j a b=>#[19].bind λu g=>(r.ev b σ g).bind λw g =>
    if i < σ.length/\j < σ.length then .ok (.nx ((σ.set i (some u)).set j (some w))) g else .bad
 | .del o i=>(r.ev o σ g).bind λx g=>(r.ev i σ g).bind λy g=>CF x y σ g
 | .sub o i e=>(r.ev e σ g).bind λu g=>(r.ev o σ g).bind λx g=>(r.ev i σ g).bind λy g=>subAt x y u σ g
 | .aug i op e=>match σ[i]? with
   | some (some x)=>(r.ev e σ g).bind λy g=>match Ci op x y with
    | some z => .ok (.nx (σ.set i (some z))) g
    | none => .bad
   | _ => .bad
 | .exp e=>(r.ev e σ g).bind λ_ g => .ok (.nx σ) g
 | .ife c a b=>(r.ts c σ g).bind λk g=>if k then r.ex a σ g else r.ex b σ g
 | .whl c b=>r.wh c b σ g
 | .for t it b=>(Jk r it σ g).bind λi g=>r.fr t i 0 b σ g
 | .pass => .ok (.nx σ) g
 | .brk => .ok (.bk σ) g
 | .cont => .ok (.ct σ) g
 | .never => .bad
 | .fset a j cs e=>(r.ev e σ g).bind λu g=>#[19].bind λx g=>match A8 x j cs u g with
  | some g' => .ok (.nx σ) g'
  | none => .bad
 | .nox b=>(r.ex b σ g).noex
 | .ifx c a b=>(r.ts c σ g).noex.bind λk g=>if k then r.ex a σ g else r.ex b σ g
 | .forx t it b=>(Jk r it σ g).noex.bind λi g=>r.fr t i 0 b σ g
 | .raise c es=>#[42].noex.bind λus g=>if us.length<=Ae then .exc c us g else .bad
 | .tryf j f es c xs=>Ef (r.ev (.call f es) σ g) j c xs σ
def Jq(r:L)(ss:List S)(σ:Su)(g:G):Out Fl:=match ss with
 | [] => .ok (.nx σ) g
 | s :: rest=>(Jp r s σ g).bind λf g=>match f with
  | .nx σ'=>r.ex rest σ' g
  | f => .ok f g
def Jr(r:L)(c:E)(b:List S)(σ:Su)(g:G):Out Fl :=
 (r.ts c σ g).bind λk g=>if k then (r.ex b σ g).bind λf g=>match f with
  | .nx σ'=>r.wh c b σ' g
  | .ct σ'=>r.wh c b σ' g
  | .bk σ' => .ok (.nx σ') g
  | .rt u => .ok (.rt u) g
 else .ok (.nx σ) g
def Js(r:L)(t:Tg)(it:Iter)(i:Nat)(b:List S)(σ:Su)(g:G):Out Fl:=match next it i g with
 | none => .bad
 | some none => .ok (.nx σ) g
 | some (some u)=>match Ah t u σ with
  | none => .bad
  | some σ1=>(r.ex b σ1 g).bind λf g=>match f with
   | .nx σ'=>r.fr t it (i+1) b σ' g
   | .ct σ'=>r.fr t it (i+1) b σ' g
   | .bk σ' => .ok (.nx σ') g
   | .rt u => .ok (.rt u) g
def Ax(f:E->Su->G->Out Bool):List E->Su->G->Out Bool
 | [],_,g => .ok true g
 | c :: cs,σ,g=>(f c σ g).bind λk g=>if k then Ax f cs σ g else .ok false g
def Jt(r:L)(it:Iter)(i:Nat)(t:Tg)(cs:List E)(rest:List (Tg×E×List E))(elt:E)(acc:List U)(σ:Su)(g:G):Out (List U):=match next it i g with
 | none => .bad
 | some none => .ok acc g
 | some (some u)=>if AH t σ then match Ah t u σ with
  | none => .bad
  | some σ1=>(Ax r.ts cs σ1 g).bindB λk g=>if k then
    match rest with
    | []=>(r.ev elt σ1 g).bindB λv g=>if acc.length < Ae then r.cm it (i+1) t cs rest elt (acc++[v]) σ g else .bad
    | (t2,it2,cs2) :: rest2=>(Jk r it2 σ1 g).bindB λj g=>(r.cm j 0 t2 cs2 rest2 elt acc σ1 g).bindB λacc2 g=>r.cm it (i+1) t cs rest elt acc2 σ g
   else r.cm it (i+1) t cs rest elt acc σ g
  else .bad
def Ju(C:Nat->List U->G->Out U):Nat->L
 | 0=>⟨λ_ _ _ => .bad,λ_ _ _ => .bad,λ_ _ _ => .bad,λ_ _ _ _ => .bad,λ_ _ _ _ _ _ => .bad,λ_ _ _ _ _ _ _ _ _ => .bad⟩
 | n+1=>let r:=Ju C n
  ⟨Jm C r,Jn r,Jq r,Jr r,Js r,Jt r⟩
def BM(fu:Nat)(C:Nat->List U->G->Out U)(F:Fn)(us:List U)(g:G):Out U :=
 if us.length=F.np then
  ((Ju C fu).ex F.body (us.map some++List.replicate (F.ns - us.length) none) g).bind λf g=>match f with
   | .rt u => .ok u g
   | .nx _ => .ok .non g
   | _ => .bad
 else .bad
def Aa(fns:List Fn)(fu:Nat):Nat->Nat->List U->G->Out U
 | 0=>λ_ _ _ => .bad
 | d+1=>λf us g=>match fns[f]? with
  | some F=>BM fu #[6] F us g
  | none => .bad
end
end
end PI
variable{g g':PI.G}{it:PI.Iter}{Q:PI.U->PI.G->Prop}{r:PI.L}{C:Nat->List PI.U->PI.G->PI.Out PI.U}{B:PI.Fl->Prop}{σu:PI.Su}
namespace L2
open PySem PySem.Spec PyProof.Rows
section
variable{E:Value->Shared->Prop}
def zf{d:Addr}{o:Obj}{es:Array DictEntry}{Q:Value->Shared->Prop}(hs:(d == sysModules)=false)(ho:s.heap.get? d=some o)(hx:o.ExactDict)(hd:o.data=.dict es ep)
  (h:Q (.ref s.heap.objs.size) { s with heap:=s.heap.push { cls := .type "dict_keyiterator",data := .fields #[.ref d,.int 0 0,.int es.size 0,.int ep 0] } }):wpAny #[12] A (pyIter (.ref d)) Q E s:=by
 have t:s.TypeIs (.ref d) "dict" := ⟨o,ho,hx.1⟩;refine wpAny_pyIter_slot t F.slot_dict_iter (wpAny_call_entry F.slot_dict_iter t F.entry_dict_iter ?_ (F.args_dict_iter_1 _));unfold Builtin.«dict.__iter__»;refine ZB ?_;unfold Builtin.Dict.dictSlotNone;refine ZB (wpAny_notOrdered_dict t ?_);show wpAny _ _ (pure (Value.ref d)) _ _ s;refine ZP ?_;show wpAny _ _ (Builtin.Dict.showsAll d >>= _) _ _ s;unfold Builtin.Dict.showsAll;rw [hs,if_neg Hz];refine ZB (ZP (ZB (wpAny_dictEntries ho hd (ZB (wpAny_dictEpoch ho hd ?_)))));exact ZB (wpAny_newObj_type (ZP ⟨_,rfl,"dict_keyiterator",_,⟨_,HE _ rfl,rfl⟩,F.slot_dict_keyiterator_next.lookup,by simpa [rawInt] using h⟩))
def yc{it d:Addr}{od:Obj}{es:Array DictEntry}{e:DictEntry}{Q:Option Value->Shared->Prop}(hit:s.heap.IsKeyIter it d i es.size ep)(hod:s.heap.get? d=some od)(hdd:od.data=.dict es ep)(hx:es[i]? = some e)
  (h:∀ h',h'.IsKeyIter it d (i+1) es.size ep->Heap.SameBut it s.heap h'->Q (some e.key) { s with heap:=h' }):wpAny #[12] A (pyNext (.ref it)) Q E s:=by
 let ⟨o,ho,hc,hd⟩:=id hit;let ⟨hlt,hel⟩:=Array.getElem?_eq_some_iff.mp hx;unfold pyNext;refine ZB (wpAny_attempt (wpAny_callSpecial?_slot (name:=Str.ofString "__next__") hit.typeIs F.slot_dict_keyiterator_next (wpAny_call_entry F.slot_dict_keyiterator_next hit.typeIs F.entry_dict_keyiterator_next ?_ (F.args_dict_keyiterator_next_1 _))));refine ZB (ZP ?_);refine ZB ?_;refine ZB ?_
 (first | refine ZB (wpAny_typeNameOfWhole_keyiter hit.typeIs (ZP ?_)) | refine ZB (wpAny_typeNameOf_keyiter hit.typeIs (ZP ?_)))
 refine ZB (wpAny_fieldsOf ho hd ?_);simp! [show Builtin.Dict_items.ownsTuple "dict_keyiterator" = false from by decide,Bool.false_eq_true,if_false]
 show wpAny _ _ (if (Value.ref d == Value.none)=true then _ else _) _ _ s;rw [if_neg (show ¬ ((Value.ref d == Value.none)=true) from Hz)]
 refine ZB (ZP (ZB (wpAny_dictEntries hod hdd ?_)));rw [if_neg #[3]];refine ZB (ZP (ZB (wpAny_dictEpoch hod hdd ?_)));rw [if_neg #[3]];refine ZP ?_
 simp! [show ¬ ((i:Int) < 0) from by omega,if_false,Int.toNat_natCast,hx];refine ZB ?_
 (first | refine ZB (wpAny_typeNameOfWhole_keyiter hit.typeIs (ZP ?_)) | refine ZB (wpAny_typeNameOf_keyiter hit.typeIs (ZP ?_)))
 refine ZB (wpAny_isOneOf_keyiter hit.typeIs ?_);show wpAny _ _ (setField (.ref it) 1 (rawInt ((i:Int)+1)) >>= _) _ _ s;refine ZB (wpAny_setField ho hd #[3] ?_)
 have n:(s.heap.update it (Obj.mapFields (·.setIfInBounds 1 (rawInt ((i:Int)+1))))).IsKeyIter it d (i+1) es.size ep:=⟨_,Heap.get?_update_self _ ho (Obj.isFreed_of_fields (Obj.data_mapFields hd _)),(Obj.cls_mapFields ..).trans hc,by rw [Obj.data_mapFields hd];simp [rawInt]⟩
 refine ZB (wpAny_holding (ZB (wpAny_isOneOf_keyiter (s:={ s with heap:=s.heap.update it (Obj.mapFields (·.setIfInBounds 1 (rawInt ((i:Int)+1)))) }) n.typeIs ?_)));show wpAny _ _ (pure e.key) _ _ _
 exact ZP (ZP ⟨_,rfl,ZP (h _ n (Heap.SameBut.update ..))⟩)
def yF{it d:Addr}{od:Obj}{es:Array DictEntry}{Q:Option Value->Shared->Prop}(hh:A.handled=none)(hit:s.heap.IsKeyIter it d i es.size ep)(hod:s.heap.get? d=some od)(hdd:od.data=.dict es ep)(hx:es[i]? = none)
  (h:∀ h',Heap.ExtBut it s.heap h'->Q none { s with heap:=h' }):wpAny #[12] A (pyNext (.ref it)) Q E s:=by
 let ⟨o,ho,hc,hd⟩:=id hit;unfold pyNext;refine ZB (wpAny_attempt (wpAny_callSpecial?_slot (name:=Str.ofString "__next__") hit.typeIs F.slot_dict_keyiterator_next (wpAny_call_entry F.slot_dict_keyiterator_next hit.typeIs F.entry_dict_keyiterator_next ?_ (F.args_dict_keyiterator_next_1 _))));refine ZB (ZP ?_);refine ZB ?_;refine ZB ?_
 (first | refine ZB (wpAny_typeNameOfWhole_keyiter hit.typeIs (ZP ?_)) | refine ZB (wpAny_typeNameOf_keyiter hit.typeIs (ZP ?_)))
 refine ZB (wpAny_fieldsOf ho hd ?_);simp! [show Builtin.Dict_items.ownsTuple "dict_keyiterator" = false from by decide,Bool.false_eq_true,if_false]
 show wpAny _ _ (if (Value.ref d == Value.none)=true then _ else _) _ _ s;rw [if_neg (show ¬ ((Value.ref d == Value.none)=true) from Hz)]
 refine ZB (ZP (ZB (wpAny_dictEntries hod hdd ?_)));rw [if_neg #[3]];refine ZB (ZP (ZB (wpAny_dictEpoch hod hdd ?_)));rw [if_neg #[3]];refine ZP ?_
 simp! [show ¬ ((i:Int) < 0) from by omega,if_false,Int.toNat_natCast,hx];refine ZB ?_
 (first | refine ZB (wpAny_typeNameOfWhole_keyiter hit.typeIs (ZP ?_)) | refine ZB (wpAny_typeNameOf_keyiter hit.typeIs (ZP ?_)))
 show wpAny _ _ (setField (.ref it) 0 .none >>= _) _ _ s;refine ZB (wpAny_setField ho hd #[3] ?_);show wpAny _ _ (newExc (.type "StopIteration") [] >>= _) _ _ _
 refine ZB ?_;simp! [newExc,newTuple];refine ZB (wpAny_newObj_type ?_ (by size_fits))
 refine ZB (m:=firstArgMember _ _) (wpAny_of_eq (a:=Value.none) (by first | rfl | (simp! [firstArgMember];rfl)) (wpAny_newObj_type ?_ (by size_fits)));simp! [raiseNew]
 refine ZB (wpAny_handled ?_);rw [show A.in1.handled=none from hh];refine ZB (ZP (wpAny_throw ?_));exact ZB (wpAny_isInstance (T := "StopIteration") (b:=true) ⟨_,HE _ rfl,rfl⟩ isSubtype_stop (ZP (h _ (((Heap.SameBut.update ..).extBut.push _).push _))))
end
def Itd(a:Addr)(o:Obj)(kvs:List (List Key×V)):It :=
 ⟨λi H=>H a=some (.frz o (.dT kvs))/\i < kvs.length,λi H x H'=>H'=H /\ ∃ b k v,x=.ref b/\kvs[i]? = some (k,v)/\H b=some (.tup (k.map Ic)),λi H=>H a=some (.frz o (.dT kvs))/\kvs.length<=i⟩
def dtAt{P:Program}{kvs:List (List Key×V)}(z:ObjOk P w H h a (.dT kvs)):kvs.length<=sizeLine/\(a == sysModules)=false /\ ∃ o es ep,h.get? a=some o/\o.ExactDict/\o.data=.dict es ep/\es.size=kvs.length /\
  ∀ (i:Nat) (k:List Key) (v:V),kvs[i]? = some (k,v) -> ∃ (b:Addr) (en:DictEntry),es[i]? = some en/\en.key=.ref b/\H b=some (.tup (k.map Ic)):=by
 let ⟨hl0,hs,xs,pr,o,es,ep,ho,hx,hd,hes,_⟩:=z;have hl:es.size=xs.length:=by rw [<-Array.length_toList,hes,List.length_map]
 refine ⟨hl0,hs,o,es,ep,ho,hx,hd,by rw [hl,Paired.length pr],λi k v hk => ?_⟩
 have key:∀ {kvs:List (List Key×V)} {xs:List (List Key×Addr×Value)},Paired (λ(p:List Key×V) (q:List Key×Addr×Value)=>p.1=q.1/\H q.2.1=some (.tup (p.1.map Ic))/\RelV p.2 q.2.2) kvs xs -> ∀ (i:Nat) (k:List Key) (v:V),kvs[i]? = some (k,v) -> ∃ q:List Key×Addr×Value,xs[i]? = some q/\H q.2.1=some (.tup (k.map Ic)):=by
  intro kvs xs pr
  induction pr with
  | nil=>intro i k v z;simp at z
  | cons h1 _ ih =>
   intro i k v z;cases i with
   | zero=>simp at z;subst z;exact ⟨_,by simp,h1.2.1⟩
   | succ j=>let ⟨q,z1,z2⟩:=ih j k v (by simpa using z);exact ⟨q,by simpa using z1,z2⟩
 let ⟨q,hq,hb⟩:=key pr i k v hk;refine ⟨q.2.1,entryOfKey (tupleKind (Ay P w)) q,?_,rfl,hb⟩;rw [<-Array.getElem?_toList,hes,List.getElem?_map,hq];rfl
def gW{P:Program}{o:Obj}{kvs:List (List Key×V)}(ok:HOk P w H h)(e:H a=some (.frz o (.dT kvs))):h.get? a=some o/\o.ExactDict/\(a == sysModules)=false /\ ∃ es ep,o.data=.dict es ep/\es.size=kvs.length /\
  ∀ (i:Nat) (k:List Key) (v:V),kvs[i]? = some (k,v) -> ∃ (b:Addr) (en:DictEntry),es[i]? = some en/\en.key=.ref b/\H b=some (.tup (k.map Ic)):=by
 let ⟨ho,z⟩:=ok a _ e;let ⟨_,hs,o',es,ep,ho',r⟩:=dtAt z;rw [ho] at ho';cases ho';exact ⟨ho,r.1,hs,es,ep,r.2⟩
def vT{P:Program}(a it:Addr)(o:Obj)(kvs:List (List Key×V)):
  Turn P w K tg (Itd a o kvs) [it] it (λi h => ∃ es ep,o.data=.dict es ep/\h.IsKeyIter it a i es.size ep) where
 mem:=by simp
 obj:=λi h st b hb=>by
  have e:b=it:=by simpa using hb
  let ⟨_,_,_,q,e1,_,d⟩:=st;subst e;exact ⟨q,e1,λv z=>by rw [d] at z;cases z⟩
 keep:=λi h h' ⟨es,ep,hd,st⟩ k=>⟨es,ep,hd,st.at λo e=>k it #[3] o e⟩
 item:=by
  intro X hP hw hK hc i pins s σ H E I hf ⟨es,ep,hd,st⟩ ⟨hfr,hlt⟩;subst hP hw hK;let ⟨ho,hx,_,es',ep',hd',hl,hk⟩:=gW I.hok hfr;rw [hd] at hd';cases hd';obtain ⟨⟨k,v⟩,hkv⟩:∃ p,kvs[i]? = some p:=⟨_,List.getElem?_eq_getElem hlt⟩;let ⟨b,en,hen,hke,hb⟩:=hk i k v hkv;let ⟨f0,f1,f2,f3,f4,f5⟩:=hf it #[3]
  refine yc st ho hd hen λh' st' sb => ?_;have I1:Inv X pins σ H { s with heap:=h' }:=I.turned (t':=s.toks) (λb o hb e=>(sb.2 b hb).trans e) f0 f1 f3 f4 f5
  let ⟨q,e,c,d⟩:=id st';refine ⟨en.key,rfl,eW (s:={ s with heap:=h' }) e c d #[1] ⟨.ref b,H,I1,?_,⟨rfl,b,k,v,rfl,hkv,hb⟩,⟨es,ep,hd,st'⟩,λb hb=>(hf b hb).1⟩⟩
  rw [hke];rfl
 done:=by
  intro X hP hw hK hc i pins s σ H E I hf ⟨es,ep,hd,st⟩ ⟨hfr,hlt⟩;subst hP hw hK;let ⟨ho,hx,_,es',ep',hd',hl,hk⟩:=gW I.hok hfr;rw [hd] at hd';cases hd';let ⟨f0,f1,f2,f3,f4,f5⟩:=hf it #[3]
  exact yF #[34] st ho hd (Array.getElem?_eq_none ()) λh' eb=>⟨rfl,I.turned (t':=s.toks) (λb o hb e=>eb b o hb e) f0 f1 f3 f4 f5⟩
 self:=λ_ _ _ _ _ ⟨_,_,_,st⟩ h=>wpAny_pyIter_keyiter st h
def rIxD:R2:=λx y H Q => ∃ a v,x=.ref a/\DGet H a y (some v)/\Q v H
def zE{o:Option V}(I:Inv X pins σ H s)(g:DGet H a y o):s.TypeIs (.ref a) "dict" := by
 rcases g with ⟨kvs,k,e,q⟩ | ⟨kvs,k,b,e,q⟩
 .exact let ⟨_,_,_,_,dd⟩:=bR I.hok e;dd.typeIs
 .exact let ⟨_,_,_,_,dd⟩:=bS I.hok e;dd.typeIs
def xm(hu:X.A.units+1 < cLine):IxR X rIxD:=by
 intro value slice pins s σ H x y v u Q I rx ry ⟨a,z,e,g,q⟩ hs;subst e;obtain rfl:v=Value.ref a:=rx;have hT:=zE I g;have fin:wpAny #[5] X.A (subscripted slice false (.ref a) u) (λr s3=>wpAny #[5] X.A (letTemporaryGo value (.ref a) r >>= λ_=>pure r) #[17] X.xe s3) X.xe s:=by
  rw [hs];exact wpAny_operating (vH hu I g ry λw' s3 I3 rw'=>ZB (wpAny_letTemporaryGo (ZP ⟨z,H,I3,rw',q⟩)))
 unfold subscriptTail;refine ZB ?_;rw [getitemInPython_of_ne hT.not_modules];refine ZB (wpAny_specialOf hT PySem.F.slot_dict_getitem.lookup ?_)
 (first | exact ZP (ZB fin) | exact ZB (ZP (ZB fin)) | exact ZB fin)
def Inv.freeze{kvs:List (List Key×V)}(I:Inv X pins σ H s)(e:H a=some (.dT kvs)):∃ o,Inv X pins σ (upd H a (.frz o (.dT kvs))) s:=by
 let ⟨z,hs,xs,pr,o,es,ep,ho,hx,hd,hes,nd⟩:=I.hok a _ e;refine ⟨o,I.write (x:=a) (e:=a) (h':=s.heap) (t':=s.toks) (by rw [e];trivial) (.inl rfl) (λ_ _ _ q=>q) ⟨o,ho⟩ ⟨ho,z,hs,xs,KT.keeps (H:=H) pr λc ys ec => ?_,o,es,ep,ho,hx,hd,hes,nd⟩⟩
 rw [ae (cH ec e (λz=>nomatch z))];exact ec
def qH{o:Obj}{kvs:List (List Key×V)}{R:It->Hp->Prop}{E:Value->Shared->Prop}(I:Inv X pins σ H s)(e:H a=some (.frz o (.dT kvs)))(q:R (Itd a o kvs) H):
  wpAny #[5] X.A (pyIter (.ref a)) (PIE X pins σ tg R) E s:=by
 let ⟨ho,hx,hs,es,ep,hd,hl,hk⟩:=gW I.hok e;refine zf hs ho hx hd ⟨s.heap.objs.size,[s.heap.objs.size],_,_,H,rfl,I.kept (t':=s.toks) λb o e=>Hw _ e,vT a _ o kvs,⟨es,ep,hd,_,HE _ rfl,rfl,rfl⟩,λb hb => ?_,q⟩;have e:b=s.heap.objs.size:=by simpa using hb
 subst e;exact I.fpOk (HA _) (I.hok.fresh (HA _))
def Ite(K:HG)(a:Addr):It :=
 ⟨λi H => ∃ xs x,SqL K H a xs/\xs[i]? = some x,λi H x H' => ∃ p v,H p=none/\x=.ref p/\H'=upd H p (.tup [.int i,v]) /\ ∀ xs,SqL K H a xs->xs[i]? = some v,λi H => ∃ xs,SqL K H a xs/\xs.length<=i⟩
def Inv.pairNew{e it:Addr}(I:Inv X pins σ H s)(hk:∀ b o,b≠e->b≠it->s.heap.get? b=some o->h'.get? b=some o)(he:AI X pins H e)(hi:AI X pins H it)
  (hte:∃ o,h'.get? e=some o) (hti:∃ o,h'.get? it=some o) (new:ObjOk X.prog X.w #[48] h' s.heap.objs.size (.tup vs)):Inv X pins σ #[48] { s with heap:=h',toks:=t' }:=by
 have fresh:H s.heap.objs.size=none:=I.hok.fresh (HA _);have old:∀ b o,H b=some o->b≠s.heap.objs.size:=λb o q z=>by subst z;rw [fresh] at q;cases q
 have ne:∀ b o,H b=some o->b≠e/\b≠it:=λb o q=>⟨λz=>(by subst z;rw [he.1] at q;cases q),λz=>(by subst z;rw [hi.1] at q;cases q)⟩
 refine I.call' (ch:=[e,it]) rfl ⟨λb o q _ _ nx => ?_,λb o q _ _ nx => ?_,λb o q n _ => ?_,λb o q _ => ?_,λb xs q => ?_,λb o u q => ?_,λb ps q => ?_⟩ (λb u q => ?_) I.bare λb hb => ?_
 .exact hk b o (λz=>nx (by simp [z])) (λz=>nx (by simp [z])) q
 .exact ⟨o.slots,hk b o (λz=>nx (by simp [z])) (λz=>nx (by simp [z])) q⟩
 .rw [ae (HD (Hx q))];exact n
 .by_cases z1:b=e
  .subst z1;exact hte
  .by_cases z2:b=it
   .subst z2;exact hti
   .exact ⟨o,hk b o z1 z2 q⟩
 .rw [ae (old b _ q)];exact q
 .rw [ae (old b _ q)];exact q
 .exact ⟨#[],by rw [ae (old b _ q),Array.append_empty];exact q⟩
 .by_cases z:b=s.heap.objs.size
  .subst z;rw [upd_same] at q;cases q;exact new
  .rw [ae z] at q
   refine (I.hok b u q).stay (λc v hc r => ?_) (λc r=>by rw [ae (old c _ r)];exact r) λc xs r=>by rw [ae (old c _ r)];exact r
   have hcH:∃ o,H c=some o:=by rcases hc with rfl | hc <;> exact ⟨_,by assumption⟩
   let ⟨o,hcH⟩:=hcH;exact hk c v (ne c o hcH).1 (ne c o hcH).2 r
 .have hf:AI X pins H b:=by
   rcases List.mem_cons.mp hb with rfl | hb
   .exact he
   .rcases List.mem_cons.mp hb with rfl | hb
    .exact hi
    .cases hb
  exact ⟨hf.2.2.2.1,hf.2.1,hf.2.2.2.2.1,hf.2.2.2.2.2⟩
def vM{P:Program}{tp:Pos}(a e it:Addr)(hei:e≠it):
  Turn P w K (.Tuple elts x1 tp) (Ite K a) [e,it] e (λi h=>(∃ old,IsEnum h e it i old)/\h.IsListIter it a i) where
 mem:=by simp
 obj:=λi h st b hb=>by
  let ⟨⟨old,he⟩,o,hi,_,d⟩:=st;rcases List.mem_cons.mp hb with rfl | hb
  .exact ⟨_,he,λv z=>by cases z⟩
  .obtain rfl:b=it:=by simpa using hb
   exact ⟨o,hi,λv z=>by rw [d] at z;cases z⟩
 keep:=λi h h' ⟨⟨old,he⟩,hi⟩ k=>⟨⟨old,k e #[3] _ he⟩,hi.at λo q=>k it #[3] o q⟩
 item:=by
  intro X hP hw hK hc i pins s σ H E I hf ⟨⟨old,he⟩,hi⟩ ⟨xs,x,hq,hx⟩;subst hP hw hK;let ⟨its,rv,p,hz⟩:=I.list hq;let ⟨u,hu,ru⟩:=rv.get hx;have fe:=hf e #[3]
  have fi:=hf it #[3]
  refine wpAny_pyNext_enum_item he hi p.isList (x:=u) (by simpa using hu) hei λh' ho hi' hT hsz hk=>⟨_,rfl,?_⟩
  have hes:e < s.heap.objs.size:=Hx he;have his:it < s.heap.objs.size:=let ⟨_,q,_⟩:=hi;Hx q
  refine wpAny_letOwnedTupleGo_enum ho λh2 he2 hs2 => ?_;have hs2':Heap.SameBut e h' h2:=hs2;have hT2:h2.get? s.heap.objs.size=some { cls := .type "tuple",data := .seq #[.int i s.toks,u] }:=(hs2'.2 _ (Nat.ne_of_gt hes)).trans hT;have hi2:h2.IsListIter it a (i+1):=hi'.at λo q=>(hs2'.2 it (Ne.symm hei)).trans q;have hk2:∀ b o,b≠e->b≠it->s.heap.get? b=some o->h2.get? b=some o:=λb o b1 b2 q=>(hs2'.2 b b1).trans (hk b o b1 b2 q);have I2:Inv X pins σ (upd H s.heap.objs.size (.tup [.int i,x])) { s with heap:=h2,toks:=s.toks+1 }:=I.pairNew hk2 fe fi ⟨_,he2⟩ (let ⟨o,q,_⟩:=hi2;⟨o,q⟩) ⟨(by show 2<=sizeLine;decide),[.int i s.toks,u],.cons ⟨_,rfl⟩ (.cons ru .nil),⟨_,hT2,rfl,_,rfl⟩⟩
  refine ⟨.ref s.heap.objs.size,_,I2,rfl,⟨s.heap.objs.size,x,I.hok.fresh (HA _),rfl,rfl,λys hy=>by rw [I.list_inj hy hq];exact hx⟩,⟨⟨u,by simpa using he2⟩,hi2⟩,λb hb => ?_⟩
  have hlt:b < s.heap.objs.size:=by
   rcases List.mem_cons.mp hb with rfl | hb
   .exact hes
   .obtain rfl:b=it:=by simpa using hb
    exact his
  rw [ae (HD hlt)];exact (hf b hb).1
 done:=by
  intro X hP hw hK hc i pins s σ H E I hf ⟨⟨old,he⟩,hi⟩ ⟨xs,hq,hx⟩;subst hP hw hK;let ⟨its,rv,p,hz⟩:=I.list hq;let ⟨f0,f1,f2,f3,f4,f5⟩:=hf it #[3]
  have hl:=rv.length;exact wpAny_pyNext_enum_end #[34] he hi p.isList (by simp;omega) λh' eb=>⟨rfl,I.turned (t':=s.toks) (λb o hb e=>eb b o hb e) f0 f1 f3 f4 f5⟩
 self:=λ_ _ _ _ _ ⟨⟨_,he⟩,_⟩ h=>wpAny_pyIter_enum he h
def Hi(K:HG)(ta:TA):TI:=λσ H R=>ta σ H λvs H1 => ∃ a,vs=[.ref a]/\(∃ xs,SqL K H1 a xs)/\R (Ite K a) H1
def yn{l:Expr}{ta:TA}{tp:Pos}(hg:Gl X "enumerate")(hm:X.mg "enumerate" = none)(ha:PA X [l] ta)(hs:starEach [l] X.env=[(false,eval l X.env)]):PI X (.Tuple elts x1 tp) (.Call (.Name "enumerate" p) [l] [] pos) (Hi X.K ta):=by
 intro pins s σ H R I h;refine Call_ (bO I hg hm boot_enumerate (PyProof.Rows.callWith_type1 (thn (ha pos pins s σ H _ I h) λus s1 ⟨vs,H1,I1,r1,q1⟩ => ?_) hs rfl));let ⟨a,rfl,⟨xs,hq⟩,q⟩:=q1;cases r1 with
 | cons r rr =>
  cases rr;cases r;let ⟨its,rv,pl,hz⟩:=I1.list hq;refine call_enumerate_list pl.isList λh' hE hI hsz hk=>wpAny_pyIter_enum hE ?_;refine ⟨s1.heap.objs.size+1,[s1.heap.objs.size+1,s1.heap.objs.size],_,_,H1,rfl,I1.kept (t':=s1.toks) hk,vM a _ _ #[3],⟨⟨_,hE⟩,hI⟩,λb hb => ?_,q⟩
  have hb':s1.heap.objs.size<=b:=by
   rcases List.mem_cons.mp hb with rfl | hb
   .exact Nat.le_succ _
   .obtain rfl:b=s1.heap.objs.size:=by simpa using hb
    exact HA _
  exact I1.fpOk hb' (I1.hok.fresh hb')
end L2
namespace L2
open PySem PySem.Spec PyProof.Rows
def Itz(K:HG)(a b:Addr):It :=
 ⟨λi H => ∃ xs ys x y,SqL K H a xs/\SqL K H b ys/\xs[i]? = some x/\ys[i]? = some y,λi H x H' => ∃ p v w,H p=none/\x=.ref p/\H'=upd H p (.tup [v,w])/\(∀ xs,SqL K H a xs->xs[i]? = some v) /\ ∀ ys,SqL K H b ys->ys[i]? = some w,
  λi H => ∃ xs ys,SqL K H a xs/\SqL K H b ys/\(xs.length<=i\/ys.length<=i)⟩
def Inv.turnedN{ch:List Addr}(I:Inv X pins σ H s)(hk:∀ b o,b ∉ ch->s.heap.get? b=some o->h'.get? b=some o)(hc:∀ b∈ch,AI X pins H b):Inv X pins σ H { s with heap:=h',toks:=t' }:=by
 have nit:∀ b u,H b=some u->b ∉ ch:=λb u e z=>by rw [(hc b z).1] at e;cases e
 refine I.step (g':=s.gens) (d':=s.drawn) (ch:=ch) (λb hb => ?_) (λb o _ _ hc e _=>hk b o hc e) (λb o _ _ hc e _=>⟨o.slots,hk b o hc e⟩) (λ_ _ _ _ n=>n)
  (λb o hc e=>⟨o,hk b o hc e⟩) (λ_ _ e=>e) (λ_ _ _ e=>e) (λb ps e=>⟨#[],by rw [e];simp⟩) (λm hm => ?_) (λb u e => ?_) I.bare
 .exact ⟨(hc b hb).2.2.2.1,(hc b hb).2.1,(hc b hb).2.2.2.2.1,(hc b hb).2.2.2.2.2⟩
 .obtain ⟨o,es,ep,ho,r⟩:=hm
  exact ⟨o,es,ep,hk _ o (λz=>(hc _ z).2.1 rfl) ho,r⟩
 .refine (I.hok b u e).stay (λc v hc q=>hk c v ?_ q) (λ_ q=>q) λ_ _ q=>q
  rcases hc with z | z
  .rw [z];exact nit b u e
  .exact nit c _ z
def Inv.pairNewN{ch:List Addr}(I:Inv X pins σ H s)(hk:∀ b o,b ∉ ch->s.heap.get? b=some o->h'.get? b=some o)(hc:∀ b∈ch,AI X pins H b)
  (ht:∀ b∈ch,∃ o,h'.get? b=some o) (new:ObjOk X.prog X.w #[48] h' s.heap.objs.size (.tup vs)):Inv X pins σ #[48] { s with heap:=h',toks:=t' }:=by
 have fresh:H s.heap.objs.size=none:=I.hok.fresh (HA _);have old:∀ b o,H b=some o->b≠s.heap.objs.size:=λb o q z=>by subst z;rw [fresh] at q;cases q
 have ne:∀ b o,H b=some o->b ∉ ch:=λb o q z=>by rw [(hc b z).1] at q;cases q
 refine I.call' (ch:=ch) rfl ⟨λb o q _ _ nx=>hk b o nx q,λb o q _ _ nx=>⟨o.slots,hk b o nx q⟩,λb o q n _ => ?_,λb o q _ => ?_,λb xs q => ?_,λb o u q => ?_,λb ps q => ?_⟩ (λb u q => ?_) I.bare λb hb => ?_
 .rw [ae (HD (Hx q))];exact n
 .by_cases z:b∈ch
  .exact ht b z
  .exact ⟨o,hk b o z q⟩
 .rw [ae (old b _ q)];exact q
 .rw [ae (old b _ q)];exact q
 .exact ⟨#[],by rw [ae (old b _ q),Array.append_empty];exact q⟩
 .by_cases z:b=s.heap.objs.size
  .subst z;rw [upd_same] at q;cases q;exact new
  .rw [ae z] at q
   refine (I.hok b u q).stay (λc v hc r => ?_) (λc r=>by rw [ae (old c _ r)];exact r) λc xs r=>by rw [ae (old c _ r)];exact r
   have hcH:∃ o,H c=some o:=by rcases hc with rfl | hc <;> exact ⟨_,by assumption⟩
   let ⟨o,hcH⟩:=hcH;exact hk c v (ne c o hcH) r
 .exact ⟨(hc b hb).2.2.2.1,(hc b hb).2.1,(hc b hb).2.2.2.2.1,(hc b hb).2.2.2.2.2⟩
structure ZA(z TI TO i1 i2:Addr):Prop where
 TIz:TI≠z
 TOz:TO≠z
 i1z:i1≠z
 i2z:i2≠z
 TITO:TI≠TO
 TIi1:TI≠i1
 TIi2:TI≠i2
 TOi1:TO≠i1
 TOi2:TO≠i2
 i12:i1≠i2
def ba{c:Addr}{its:Array Value}{o:Obj}{T:String}(p:PlainL h a its)(hc:h.get? c=some o)(ht:o.cls=.type T)(hT:T ≠ "list"):a≠c:=λe=>by
 subst e;let ⟨o',n,g,c',_⟩:=p;rw [hc] at g;cases g;rw [ht] at c';cases c';exact hT rfl
def jO{b z TI TO i1 i2:Addr}{u v:Value}{xs ys:Array Value}(D:ZA z TI TO i1 i2)(hz:IsZip h z TI TO .none)(hO:IsPair h TO u v)(h1:h.IsListIter i1 a i)(h2:h.IsListIter i2 b i)(p:PlainL h a xs)(p':PlainL h b ys):ZipApart z TI TO i1 i2 a b:=by
 let ⟨Kk,e1,c1,_⟩:=h1;let ⟨o2,e2,c2,_⟩:=h2;exact ⟨D.TIz,D.TOz,D.i1z,D.i2z,D.TITO,D.TIi1,D.TIi2,D.TOi1,D.TOi2,D.i12,ba p hz rfl #[1],ba p hO rfl #[1],ba p e1 c1 #[1],ba p e2 c2 #[1],ba p' hz rfl #[1],ba p' hO rfl #[1],ba p' e1 c1 #[1],ba p' e2 c2 #[1]⟩
def wq{P:Program}{tp:Pos}(a b z TI TO i1 i2:Addr)(D:ZA z TI TO i1 i2):
  Turn P w K (.Tuple elts x1 tp) (Itz K a b) [z,TI,TO,i1,i2] z (λi h=>IsZip h z TI TO .none/\IsPair h TI (.ref i1) (.ref i2)/\(∃ u v,IsPair h TO u v)/\h.IsListIter i1 a i/\h.IsListIter i2 b i) where
 mem:=by simp
 obj:=λi h ⟨hz,hI,⟨u,v,hO⟩,⟨Kk,e1,_,d1⟩,⟨o2,e2,_,J3⟩⟩ c hc=>by
  simp! [List.mem_cons,List.not_mem_nil,or_false] at hc;rcases hc with rfl | rfl | rfl | rfl | rfl
  .exact ⟨_,hz,λv z=>by cases z⟩
  .exact ⟨_,hI,λv z=>by cases z⟩
  .exact ⟨_,hO,λv z=>by cases z⟩
  .exact ⟨_,e1,λv z=>by rw [d1] at z;cases z⟩
  .exact ⟨_,e2,λv z=>by rw [J3] at z;cases z⟩
 keep:=λi h h' ⟨hz,hI,⟨u,v,hO⟩,h1,h2⟩ k=>⟨k z #[3] _ hz,k TI #[3] _ hI,⟨u,v,k TO #[3] _ hO⟩,h1.at λo q=>k i1 #[3] o q,h2.at λo q=>k i2 #[3] o q⟩
 item:=by
  intro X hP hw hK hc i pins s σ H E I hf ⟨hz,hI,⟨u,v,hO⟩,h1,h2⟩ ⟨xs,ys,x,y,q1,q2,hx,hy⟩;subst hP hw hK;let ⟨its,rv,p,_⟩:=I.list q1;let ⟨jts,rw',p',_⟩:=I.list q2;let ⟨u1,hu1,ru1⟩:=rv.get hx;let ⟨u2,hu2,ru2⟩:=rw'.get hy;have DD:=jO D hz hO h1 h2 p p';refine wpAny_pyNext_zip_item DD hz hI hO h1 h2 p.isList p'.isList (x:=u1) (y:=u2) (by simpa using hu1) (by simpa using hu2) λh' hz' hO' h1' h2' hT hsz hk=>⟨_,rfl,?_⟩
  have zs:z < s.heap.objs.size:=Hx hz;refine wpAny_letOwnedTupleGo_zip hz' λh3 hz3 hs3 => ?_;have hs3':Heap.SameBut z h' h3:=hs3;have up:∀ c o,c≠z->h'.get? c=some o->h3.get? c=some o:=λc o hc q=>(hs3'.2 c hc).trans q;have hk3:∀ c o,c ∉ [z,TO,i1,i2]->s.heap.get? c=some o->h3.get? c=some o:=λc o hc q=>by
   simp! [List.mem_cons,List.not_mem_nil,or_false,not_or] at hc;exact up c o hc.1 (hk c o hc.1 hc.2.1 hc.2.2.1 hc.2.2.2 q)
  have hO3:=up _ _ D.TOz hO';have h13:h3.IsListIter i1 a (i+1):=h1'.at λo q=>up _ o D.i1z q;have h23:h3.IsListIter i2 b (i+1):=h2'.at λo q=>up _ o D.i2z q;have hI3:IsPair h3 TI (.ref i1) (.ref i2):=hk3 _ _ (by simp [D.TIz,D.TITO,D.TIi1,D.TIi2]) hI
  have hT3:IsPair h3 s.heap.objs.size u1 u2:=up _ _ (Nat.ne_of_gt zs) hT;have lt:∀ c∈[z,TI,TO,i1,i2],c < s.heap.objs.size:=λc hc=>by
   simp! [List.mem_cons,List.not_mem_nil,or_false] at hc;rcases hc with rfl | rfl | rfl | rfl | rfl
   .exact zs
   .exact Hx hI
   .exact Hx hO
   .exact let ⟨_,q,_⟩:=h1;Hx q
   .exact let ⟨_,q,_⟩:=h2;Hx q
  have I2:Inv X pins σ (upd H s.heap.objs.size (.tup [x,y])) { s with heap:=h3,toks:=s.toks }:=I.pairNewN hk3 (λc hc=>hf c (by simp! [List.mem_cons,List.not_mem_nil,or_false] at hc ⊢;rcases hc with h | h | h | h <;> simp [h])) (λc hc=>by
   simp! [List.mem_cons,List.not_mem_nil,or_false] at hc;rcases hc with rfl | rfl | rfl | rfl
   .exact ⟨_,hz3⟩
   .exact ⟨_,hO3⟩
   .exact let ⟨o,q,_⟩:=h13;⟨o,q⟩
   .exact let ⟨o,q,_⟩:=h23;⟨o,q⟩) ⟨(by show 2<=sizeLine;decide),[u1,u2],.cons ru1 (.cons ru2 .nil),⟨_,hT3,rfl,_,rfl⟩⟩
  refine ⟨.ref s.heap.objs.size,_,I2,rfl,⟨s.heap.objs.size,x,y,I.hok.fresh (HA _),rfl,rfl,λzs hy=>by rw [I.list_inj hy q1];exact hx,λzs hz=>by rw [I.list_inj hz q2];exact hy⟩,⟨hz3,hI3,⟨_,_,hO3⟩,h13,h23⟩,λc hc => ?_⟩
  rw [ae (HD (lt c hc))];exact (hf c hc).1
 done:=by
  intro X hP hw hK hc i pins s σ H E I hf ⟨hz,hI,⟨u,v,hO⟩,h1,h2⟩ ⟨xs,ys,q1,q2,hl⟩;subst hP hw hK;let ⟨its,rv,p,_⟩:=I.list q1;let ⟨jts,rw',p',_⟩:=I.list q2;have DD:=jO D hz hO h1 h2 p p';have l1:=rv.length;have l2:=rw'.length;refine wpAny_pyNext_zip_end #[34] DD hz hI hO h1 h2 p.isList p'.isList (hl.imp (λh=>by simp;omega) λh=>by simp;omega) λh' hk=>⟨rfl,I.turnedN (t':=s.toks) (ch:=[z,TI,TO,i1,i2]) (λc o hc e => ?_) hf⟩
  simp! [List.mem_cons,List.not_mem_nil,or_false,not_or] at hc;exact hk c o hc.1 hc.2.2.1 hc.2.2.2.1 hc.2.2.2.2 e
 self:=λ_ _ _ _ _ ⟨hz,_⟩ h=>wpAny_pyIter_zip hz h
def Jv(K:HG)(ta:TA):TI:=λσ H R=>ta σ H λvs H1 => ∃ a b,vs=[.ref a,.ref b]/\(∃ xs,SqL K H1 a xs)/\(∃ ys,SqL K H1 b ys)/\R (Itz K a b) H1
def abU{l m:Expr}{ta:TA}{tp:Pos}(hg:Gl X "zip")(hm:X.mg "zip" = none)(ha:PA X [l,m] ta)(hs:∀ es,starEach (l :: es) X.env=(false,eval l X.env) :: starEach es X.env)(hs2:starEach [m] X.env=[(false,eval m X.env)]):PI X (.Tuple elts x1 tp) (.Call (.Name "zip" p) [l,m] [] pos) (Jv X.K ta):=by
 intro pins s σ H R I h;refine Call_ (bO I hg hm boot_zip (PyProof.Rows.callWith_type1 (thn (ha pos pins s σ H _ I h) λus s1 ⟨vs,H1,I1,r1,q1⟩ => ?_) (hs _) (by rw [hs2];rfl)))
 let ⟨a,b,rfl,⟨xs,hq⟩,⟨ys,hq'⟩,q⟩:=q1;cases r1 with
 | cons r rr =>
  cases rr with
  | cons r' rr =>
   cases rr;cases r;cases r';let ⟨its,rv,pl,hz⟩:=I1.list hq;let ⟨jts,rv',pl',hz'⟩:=I1.list hq';refine call_zip_2 pl.isList pl'.isList λh' hZ hTI hTO h1 h2 hsz hk=>wpAny_pyIter_zip hZ ?_;refine ⟨s1.heap.objs.size+4,[s1.heap.objs.size+4,s1.heap.objs.size+2,s1.heap.objs.size+3,s1.heap.objs.size,s1.heap.objs.size+1],_,_,H1,rfl,I1.kept (t':=s1.toks) hk,wq a b _ _ _ _ _ ⟨by simp,by simp,by simp,by simp,by simp,by simp,by simp,by simp,by simp,by simp⟩,⟨hZ,hTI,⟨_,_,hTO⟩,h1,h2⟩,λc hc => ?_,q⟩
   have hb':s1.heap.objs.size<=c:=by
    simp! [List.mem_cons,List.not_mem_nil,or_false] at hc;rcases hc with h | h | h | h | h <;> subst h <;> simp
   exact I1.fpOk hb' (I1.hok.fresh hb')
end L2
namespace PI
noncomputable section
open PySem PySem.Spec PyProof.Rows L2
def SqF(K:HG)(H:Hp)(a:Addr)(xs:List V):Prop :=
 (∃ o,H a=some (.frz o (.lst xs))) \/
  ∃ (o:Obj) (its:Array Value) (n:Nat),K.lookup a=some o/\o.cls=.type "list" /\ o.dict=none/\o.data=.seq its n/\its.size<=sizeLine/\Vals xs its.toList
def SqF.sq{xs:List V}(h:SqF K H a xs):SqL K H a xs:=by
 rcases h with h | h
 .exact .inl (.inr h)
 .exact .inr h
def SqU(_:HG)(H:Hp)(a:Addr)(xs:List V):Prop:=H a=some (.tup xs)
def SqU.sq{xs:List V}(h:SqU K H a xs):SqT K H a xs := .of h
def SqC(K:HG)(a:Addr)(xs:List V):Prop :=
 ∃ (o:Obj) (its:Array Value) (n:Nat),K.lookup a=some o/\o.cls=.type "tuple" /\ o.data=.seq its n/\its.size<=sizeLine/\Vals xs its.toList
def SqC.sq{xs:List V}(h:SqC K a xs):SqT K H a xs := .inr h
inductive RT(S:Addr->List V->Prop)(R:List V->Prop)(v:V):Prop
 | mk (a:Addr) (vs:List V) (e:v=.ref a) (s:S a vs) (r:R vs)
inductive RC{α:Type}(p:α->Prop)(q:List α->Prop)(vs:List α):Prop
 | mk (v:α) (r:List α) (e:vs=v :: r) (h:p v) (t:q r)
mutual
def RV(K:HG)(ρ:List Addr)(H:Hp):U->V->Prop
 | .non,v=>v=.non
 | .bl b,v=>v=.bl b
 | .int i,v=>v=.int i
 | .str s,v=>v=.str s
 | .tup us,v=>RT (SqU K H) (RVs K ρ H us) v
 | .fro us,v=>RT (SqF K H) (RVs K ρ H us) v
 | .ref n,v => ∃ a,v=.ref a/\ρ[n]? = some a
 | .xn _ us,v=>RT (SqC K) (RVs K ρ H us) v
def RVs(K:HG)(ρ:List Addr)(H:Hp):List U->List V->Prop
 | [],vs=>vs=[]
 | u :: us,vs=>RC (RV K ρ H u) (RVs K ρ H us) vs
end
structure Stp(K:HG)(ρ:List Addr)(H:Hp)(ρ':List Addr)(H':Hp):Prop where
 ext:∀ (n:Nat) (a:Addr),ρ[n]? = some a->ρ'[n]? = some a
 new:∀ (n:Nat) (a:Addr),ρ'[n]? = some a->ρ[n]? = some a\/H a=none
 oth:∀ a o,H a=some o->a ∉ ρ->H' a=some o
 live:∀ a,H a≠none->H' a≠none
 tup:∀ a xs,SqU K H a xs->SqU K H' a xs
 fro:∀ a xs,SqF K H a xs->SqF K H' a xs
 frz:∀ a o u,H a=some (.frz o u)->H' a=some (.frz o u)
section
variable{ρ'':List Addr}{H'':Hp}
def Stp.refl:Stp K ρ H ρ H:=⟨λ_ _ h=>h,λ_ _ h => .inl h,λ_ _ h _=>h,λ_ h=>h,λ_ _ h=>h,λ_ _ h=>h,λ_ _ _ h=>h⟩
def Stp.trans(a:Stp K ρ H ρ' H')(b:Stp K ρ' H' ρ'' H''):Stp K ρ H ρ'' H'' where
 ext:=λn x h=>b.ext n x (a.ext n x h)
 new:=λn x h=>by
  rcases b.new n x h with q | q
  .exact a.new n x q
  .refine .inr ?_
   cases e:H x with
   | none=>rfl
   | some o=>exact absurd q (a.live x (by rw [e];simp))
 oth:=λx o h hn=>b.oth x o (a.oth x o h hn) λhx=>by
  let ⟨n,hn'⟩:=List.mem_iff_getElem?.mp hx;rcases a.new n x hn' with q | q
  .exact hn (List.mem_iff_getElem?.mpr ⟨n,q⟩)
  .rw [q] at h;cases h
 live:=λx h=>b.live x (a.live x h)
 tup:=λx xs h=>b.tup x xs (a.tup x xs h)
 fro:=λx xs h=>b.fro x xs (a.fro x xs h)
 frz:=λx o u h=>b.frz x o u (a.frz x o u h)
mutual
def RV.mono(he:∀ (n:Nat) (a:Addr),ρ[n]? = some a->ρ'[n]? = some a)(ht:∀ a xs,SqU K H a xs->SqU K H' a xs)(hf:∀ a xs,SqF K H a xs->SqF K H' a xs):∀ (u:U) (v:V),RV K ρ H u v->RV K ρ' H' u v
 | .non,_,h=>h
 | .bl _,_,h=>h
 | .int _,_,h=>h
 | .str _,_,h=>h
 | .tup us,v,h=>by
  let ⟨a,vs,e,h1,h2⟩:=h;exact ⟨a,vs,e,ht _ _ h1,RVs.mono he ht hf us vs h2⟩
 | .fro us,v,h=>by
  let ⟨a,vs,e,h1,h2⟩:=h;exact ⟨a,vs,e,hf _ _ h1,RVs.mono he ht hf us vs h2⟩
 | .ref n,v,h=>by
  let ⟨a,e,h1⟩:=h;exact ⟨a,e,he _ _ h1⟩
 | .xn _ us,v,h=>by
  let ⟨a,vs,e,h1,h2⟩:=h;exact ⟨a,vs,e,h1,RVs.mono he ht hf us vs h2⟩
def RVs.mono(he:∀ (n:Nat) (a:Addr),ρ[n]? = some a->ρ'[n]? = some a)(ht:∀ a xs,SqU K H a xs->SqU K H' a xs)(hf:∀ a xs,SqF K H a xs->SqF K H' a xs):∀ (us:List U) (vs:List V),RVs K ρ H us vs->RVs K ρ' H' us vs
 | [],_,h=>h
 | u :: us,vs,h=>by
  let ⟨v,r,e,h1,h2⟩:=h;exact ⟨v,r,e,RV.mono he ht hf u v h1,RVs.mono he ht hf us r h2⟩
end
def RV.step(s:Stp K ρ H ρ' H')(u:U)(v:V)(h:RV K ρ H u v):RV K ρ' H' u v:=RV.mono s.ext s.tup s.fro u v h
def RVs.step(s:Stp K ρ H ρ' H')(us:List U)(vs:List V)(h:RVs K ρ H us vs):RVs K ρ' H' us vs:=RVs.mono s.ext s.tup s.fro us vs h
def RVs.length:∀ {us:List U} {vs:List V},RVs K ρ H us vs->us.length=vs.length
 | [],_,h=>by cases h;rfl
 | _ :: us,_,h=>by
  let ⟨v,r,rfl,_,h2⟩:=h;simp [RVs.length h2]
def RVs.get:∀ {us:List U} {vs:List V} {i:Nat} {u:U},RVs K ρ H us vs->us[i]? = some u -> ∃ v,vs[i]? = some v/\RV K ρ H u v
 | [],_,_,_,_,e=>by simp at e
 | x :: us,_,0,u,h,e=>by
  let ⟨v,r,rfl,h1,_⟩:=h;simp at e;subst e;exact ⟨v,by simp,h1⟩
 | x :: us,_,i+1,u,h,e=>by
  let ⟨v,r,rfl,_,h2⟩:=h;let ⟨w,e1,e2⟩:=RVs.get (i:=i) (u:=u) h2 (by simpa using e)
  exact ⟨w,by simpa using e1,e2⟩
def RVs.none_of(h:RVs K ρ H us vs)(e:us[i]? = none):vs[i]? = none:=by
 have h1:=h.length;have h2:us.length<=i:=List.getElem?_eq_none_iff.mp e;exact List.getElem?_eq_none_iff.mpr ()
def RVs.append:∀ {us ws:List U} {vs xs:List V},RVs K ρ H us vs->RVs K ρ H ws xs->RVs K ρ H (us++ws) (vs++xs)
 | [],_,_,_,h,q=>by cases h;exact q
 | u :: us,_,_,_,h,q=>by
  let ⟨v,r,rfl,h1,h2⟩:=h;exact ⟨v,r++_,rfl,h1,RVs.append h2 q⟩
def RVs.one{v:V}(h:RV K ρ H u v):RVs K ρ H [u] [v]:=⟨v,[],rfl,h,rfl⟩
def RVs.drop:∀ {us:List U} {vs:List V} (n:Nat),RVs K ρ H us vs->RVs K ρ H (us.drop n) (vs.drop n)
 | _,_,0,h=>h
 | [],_,_+1,h=>by cases h;rfl
 | u :: us,_,n+1,h=>by
  let ⟨v,r,rfl,h1,h2⟩:=h;exact RVs.drop n h2
def RVs.take:∀ {us:List U} {vs:List V} (n:Nat),RVs K ρ H us vs->RVs K ρ H (us.take n) (vs.take n)
 | _,_,0,h=>by simp [RVs]
 | [],_,_+1,h=>by cases h;rfl
 | u :: us,_,n+1,h=>by
  let ⟨v,r,rfl,h1,h2⟩:=h;exact ⟨v,r.take n,rfl,h1,RVs.take n h2⟩
def RVs.set{u:U}{v:V}(q:RV K ρ H u v):∀ {us:List U} {vs:List V} (i:Nat),RVs K ρ H us vs->RVs K ρ H (us.set i u) (vs.set i v)
 | [],_,_,h=>by cases h;rfl
 | x :: us,_,0,h=>by
  let ⟨w,r,rfl,_,h2⟩:=h;exact ⟨v,r,rfl,q,h2⟩
 | x :: us,_,i+1,h=>by
  let ⟨w,r,rfl,h1,h2⟩:=h;exact ⟨w,r.set i v,rfl,h1,RVs.set q i h2⟩
def RVs.reverse:∀ {us:List U} {vs:List V},RVs K ρ H us vs->RVs K ρ H us.reverse vs.reverse
 | [],_,h=>by cases h;rfl
 | u :: us,_,h=>by
  let ⟨v,r,rfl,h1,h2⟩:=h;rw [List.reverse_cons,List.reverse_cons];exact RVs.append (RVs.reverse h2) (.one h1)
def RVs.dropLast{us:List U}{vs:List V}(h:RVs K ρ H us vs):RVs K ρ H us.dropLast vs.dropLast:=by
 rw [List.dropLast_eq_take,List.dropLast_eq_take,h.length];exact h.take _
def RD(K:HG)(ρ:List Addr)(H:Hp):List (List Int×U)->List (List Key×V)->Prop
 | [],ws=>ws=[]
 | (k,u) :: r,ws => ∃ v s,ws=(k.map Sum.inl,v) :: s/\RV K ρ H u v/\RD K ρ H r s
def RD.mono(he:∀ (n:Nat) (a:Addr),ρ[n]? = some a->ρ'[n]? = some a)(ht:∀ a xs,SqU K H a xs->SqU K H' a xs)(hf:∀ a xs,SqF K H a xs->SqF K H' a xs):∀ (us:List (List Int×U)) (vs:List (List Key×V)),RD K ρ H us vs->RD K ρ' H' us vs
 | [],_,h=>h
 | (k,u) :: us,vs,h=>by
  let ⟨v,r,e,h1,h2⟩:=h;exact ⟨v,r,e,RV.mono he ht hf u v h1,RD.mono he ht hf us r h2⟩
def RK(K:HG)(ρ:List Addr)(H:Hp):List (Str×U)->List (Key×V)->Prop
 | [],ws=>ws=[]
 | (k,u) :: r,ws => ∃ v s,ws=(Sum.inr k,v) :: s/\RV K ρ H u v/\RK K ρ H r s
def RK.mono(he:∀ (n:Nat) (a:Addr),ρ[n]? = some a->ρ'[n]? = some a)(ht:∀ a xs,SqU K H a xs->SqU K H' a xs)(hf:∀ a xs,SqF K H a xs->SqF K H' a xs):∀ (us:List (Str×U)) (vs:List (Key×V)),RK K ρ H us vs->RK K ρ' H' us vs
 | [],_,h=>h
 | (k,u) :: us,vs,h=>by
  let ⟨v,r,e,h1,h2⟩:=h;exact ⟨v,r,e,RV.mono he ht hf u v h1,RK.mono he ht hf us r h2⟩
def ls:∀ (f a b:Nat),a < 128 ^ f->b < 128 ^ f->dig f a=dig f b->a=b
 | 0,a,b,h1,h2,_=>by simp at h1 h2;omega
 | f+1,a,b,h1,h2,e=>by
  rw [Nat.pow_succ] at h1 h2;simp! [dig] at e;split at e
  .split at e
   .omega
   .cases e
  .split at e
   .cases e
   .have e1:a % 128=b % 128:=(List.cons.inj e).1
    have e2:=ls f (a / 128) (b / 128) () () (List.cons.inj e).2
    omega
def oS{a b:Nat}(h1:a < Bb)(h2:b < Bb)(e:As a=As b):a=b:=ls 64 a b h1 h2 (by have:=congrArg (λs:Str=>s.cps.toList) e;simpa [As] using this)
def RF(K:HG)(ρ:List Addr)(H:Hp):List (Nat×U)->List (Str×V)->Prop
 | [],ws=>ws=[]
 | (j,u) :: r,ws => ∃ v s,ws=(As j,v) :: s/\j < Bb/\RV K ρ H u v/\RF K ρ H r s
def RF.mono(he:∀ (n:Nat) (a:Addr),ρ[n]? = some a->ρ'[n]? = some a)(ht:∀ a xs,SqU K H a xs->SqU K H' a xs)(hf:∀ a xs,SqF K H a xs->SqF K H' a xs):∀ (us:List (Nat×U)) (vs:List (Str×V)),RF K ρ H us vs->RF K ρ' H' us vs
 | [],_,h=>h
 | (k,u) :: us,vs,h=>by
  let ⟨v,r,e,h0,h1,h2⟩:=h;exact ⟨v,r,e,h0,RV.mono he ht hf u v h1,RF.mono he ht hf us r h2⟩
def RF.look{j:Nat}(hj:j < Bb):∀ {us:List (Nat×U)} {vs:List (Str×V)},RF K ρ H us vs->(us.lookup j=none/\vs.lookup (As j)=none) \/ ∃ u v,us.lookup j=some u/\vs.lookup (As j)=some v/\RV K ρ H u v
 | [],_,h=>by cases h;exact .inl ⟨rfl,rfl⟩
 | (i,u) :: us,_,h=>by
  let ⟨v,r,rfl,h0,h1,h2⟩:=h;rw [List.lookup_cons,List.lookup_cons];by_cases e:j=i
  .subst e
   rw [beq_self_eq_true,beq_self_eq_true];exact .inr ⟨u,v,rfl,rfl,h1⟩
  .have e1:(j == i)=false:=beq_false_of_ne e
   have e2:(As j == As i)=false:=beq_false_of_ne λz=>e (oS hj h0 z);rw [e1,e2];exact RF.look hj h2
def RF.put{j:Nat}{u:U}{v:V}(hj:j < Bb)(hv:RV K ρ H u v):∀ {us:List (Nat×U)} {vs:List (Str×V)},RF K ρ H us vs->RF K ρ H (Cm j u us) (AF (As j) v vs)
 | [],_,h=>by cases h;exact ⟨v,[],rfl,hj,hv,rfl⟩
 | (i,x) :: us,_,h=>by
  let ⟨w,r,rfl,h0,h1,h2⟩:=h;unfold Cm AF;by_cases e:i=j
  .subst e
   rw [if_pos rfl,if_pos rfl];exact ⟨v,r,rfl,h0,hv,h2⟩
  .rw [if_neg e,if_neg λz=>e (oS h0 hj z)]
   exact ⟨w,_,rfl,h0,h1,RF.put hj hv h2⟩
def RF.length:∀ {us:List (Nat×U)} {vs:List (Str×V)},RF K ρ H us vs->us.length=vs.length
 | [],_,h=>by cases h;rfl
 | (i,x) :: us,_,h=>by
  let ⟨w,r,rfl,h0,h1,h2⟩:=h;simp [RF.length h2]
def RHO(K:HG)(ρ:List Addr)(H:Hp):O->HO->Prop
 | .lst us,o => ∃ vs,o=.lst vs/\RVs K ρ H us vs
 | .dic kvs,o => ∃ ws,o=.dT ws/\RD K ρ H kvs ws
 | .dif kvs,o => ∃ ob ws,o=.frz ob (.dT ws)/\RD K ρ H kvs ws
 | .dst kvs,o => ∃ ws,o=.dK ws/\RK K ρ H kvs ws
 | .ins c us,o => ∃ C dx vs,o=.ins C dx vs/\PySem.W.nsIn K mainGlobals (As c)=some #[24]/\RF K ρ H us vs
def RO(K:HG)(ρ:List Addr)(H:Hp)(a:Addr)(o:O):Prop := ∃ ho,H a=some ho/\RHO K ρ H o ho
def RHO.mono(he:∀ (n:Nat) (a:Addr),ρ[n]? = some a->ρ'[n]? = some a)(ht:∀ a xs,SqU K H a xs->SqU K H' a xs)(hf:∀ a xs,SqF K H a xs->SqF K H' a xs){o:O}{ho:HO}(h:RHO K ρ H o ho):RHO K ρ' H' o ho:=by
 cases o with
 | lst us=>let ⟨vs,e,r⟩:=h;exact ⟨vs,e,RVs.mono he ht hf _ _ r⟩
 | dic kvs=>let ⟨ws,e,r⟩:=h;exact ⟨ws,e,RD.mono he ht hf _ _ r⟩
 | dif kvs=>let ⟨ob,ws,e,r⟩:=h;exact ⟨ob,ws,e,RD.mono he ht hf _ _ r⟩
 | dst kvs=>let ⟨ws,e,r⟩:=h;exact ⟨ws,e,RK.mono he ht hf _ _ r⟩
 | ins c us=>let ⟨C,dx,vs,e,h0,r⟩:=h;exact ⟨C,dx,vs,e,h0,RF.mono he ht hf _ _ r⟩
def RHO.step(s:Stp K ρ H ρ' H'){o:O}{ho:HO}(h:RHO K ρ H o ho):RHO K ρ' H' o ho:=h.mono s.ext s.tup s.fro
def RO.step(s:Stp K ρ H ρ' H'){a:Addr}{o:O}(e:∀ ho,H a=some ho->H' a=some ho)(h:RO K ρ H a o):RO K ρ' H' a o :=
 let ⟨ho,e1,r⟩:=h;⟨ho,e ho e1,r.step s⟩
structure RH(K:HG)(ρ:List Addr)(H:Hp)(g:G):Prop where
 len:ρ.length=g.length
 inj:∀ (i j:Nat) (a:Addr),ρ[i]? = some a->ρ[j]? = some a->i=j
 obj:∀ (n:Nat) (a:Addr) (o:O),ρ[n]? = some a->g[n]? = some o->RO K ρ H a o
def RH.at(h:RH K ρ H g){o:O}(e:g[n]? = some o):∃ a,ρ[n]? = some a/\RO K ρ H a o:=by
 have hn:n < g.length:=(List.getElem?_eq_some_iff.mp e).1;have hr:n < ρ.length:=by rw [h.len];exact hn
 exact ⟨ρ[n],List.getElem?_eq_getElem hr,h.obj n ρ[n] _ (List.getElem?_eq_getElem hr) e⟩
def RH.lst(h:RH K ρ H g){n:Nat}{us:List U}(e:g[n]? = some (.lst us)):∃ a vs,ρ[n]? = some a/\H a=some (.lst vs)/\RVs K ρ H us vs:=by
 let ⟨a,h1,ho,h2,vs,rfl,h3⟩:=h.at e;exact ⟨a,vs,h1,h2,h3⟩
def RH.dic(h:RH K ρ H g){n:Nat}{kvs:List (List Int×U)}(e:g[n]? = some (.dic kvs)):∃ a ws,ρ[n]? = some a/\H a=some (.dT ws)/\RD K ρ H kvs ws:=by
 let ⟨a,h1,ho,h2,vs,rfl,h3⟩:=h.at e;exact ⟨a,vs,h1,h2,h3⟩
def RH.dif(h:RH K ρ H g){n:Nat}{kvs:List (List Int×U)}(e:g[n]? = some (.dif kvs)):∃ a ob ws,ρ[n]? = some a/\H a=some (.frz ob (.dT ws))/\RD K ρ H kvs ws:=by
 let ⟨a,h1,ho,h2,ob,vs,rfl,h3⟩:=h.at e;exact ⟨a,ob,vs,h1,h2,h3⟩
def RH.dst(h:RH K ρ H g){n:Nat}{kvs:List (Str×U)}(e:g[n]? = some (.dst kvs)):∃ a ws,ρ[n]? = some a/\H a=some (.dK ws)/\RK K ρ H kvs ws:=by
 let ⟨a,h1,ho,h2,vs,rfl,h3⟩:=h.at e;exact ⟨a,vs,h1,h2,h3⟩
def RH.ins(h:RH K ρ H g){n c:Nat}{fs:List (Nat×U)}(e:g[n]? = some (.ins c fs)):∃ a C dx vs,ρ[n]? = some a/\H a=some (.ins C dx vs)/\PySem.W.nsIn K mainGlobals (As c)=some #[24]/\RF K ρ H fs vs:=by
 let ⟨a,h1,ho,h2,C,dx,vs,rfl,h3,h4⟩:=h.at e;exact ⟨a,C,dx,vs,h1,h2,h3,h4⟩
def RH.there(h:RH K ρ H g)(e:ρ[n]? = some a):∃ o,H a=some o:=by
 have hr:n < ρ.length:=(List.getElem?_eq_some_iff.mp e).1;have hn:n < g.length:=by rw [<-h.len];exact hr
 let ⟨ho,h1,_⟩:=h.obj n a g[n] e (List.getElem?_eq_getElem hn);exact ⟨ho,h1⟩
def xJ{p:Addr}{o:HO}{xs:List V}(h:SqU K H a xs)(hp:a≠p):SqU K (upd H p o) a xs:=by
 unfold SqU;rw [ae hp];exact h
def xQ{p:Addr}{o:HO}{xs:List V}(h:SqF K H a xs)(hp:a≠p):SqF K (upd H p o) a xs:=by
 rcases h with ⟨ob,h⟩ | h
 .exact .inl ⟨ob,by rw [ae hp];exact h⟩
 .exact .inr h
def Bv:HO->Prop
 | .lst _=>True
 | .dT _=>True
 | .dK _=>True
 | .ins _ _ _=>True
 | _=>False
def aZ{p:Addr}{o:HO}{xs:List V}(h:SqU K H a xs)(hp:H p=none \/ ∃ ho,H p=some ho/\Bv ho):SqU K (upd H p o) a xs :=
 xJ h (by rintro rfl;rcases hp with z | ⟨ys,z,m⟩ <;> · unfold SqU at h;rw [h] at z;cases z;try exact m)
def aX{p:Addr}{o:HO}{xs:List V}(h:SqF K H a xs)(hp:H p=none \/ ∃ ho,H p=some ho/\Bv ho):SqF K (upd H p o) a xs:=by
 rcases h with ⟨ob,h⟩ | h
 .exact xQ (.inl ⟨ob,h⟩) (by rintro rfl;rcases hp with z | ⟨ys,z,m⟩ <;> · rw [h] at z;cases z;try exact m)
 .exact .inr h
def Stp.fresh{p:Addr}{o:HO}(hp:H p=none):Stp K ρ H ρ (upd H p o) where
 ext:=λ_ _ h=>h
 new:=λ_ _ h => .inl h
 oth:=λa u h _=>by rw [ae (aI h hp)];exact h
 live:=λa h=>by
  by_cases e:a=p
  .subst e;rw [upd_same];simp
  .rw [ae e];exact h
 tup:=λa xs h=>aZ h (.inl hp)
 fro:=λa xs h=>aX h (.inl hp)
 frz:=λa ob u h=>by rw [ae (aI h hp)];exact h
def RH.step_fresh{p:Addr}{o:HO}(h:RH K ρ H g)(hp:H p=none):RH K ρ (upd H p o) g where
 len:=h.len
 inj:=h.inj
 obj:=λn a ob h1 h2=>(h.obj n a ob h1 h2).step (Stp.fresh hp) λho e=>by rw [ae (aI e hp)];exact e
def Stp.alloc{p:Addr}{ho:HO}(hp:H p=none):Stp K ρ H (ρ++[p]) (upd H p ho) where
 ext:=λn a h=>by rw [List.getElem?_append_left (List.getElem?_eq_some_iff.mp h).1];exact h
 new:=λn a h=>by
  by_cases hn:n < ρ.length
  .rw [List.getElem?_append_left hn] at h;exact .inl h
  .rw [List.getElem?_append_right ()] at h
   have:a=p:=by
    cases hk:n - ρ.length with
    | zero=>rw [hk] at h;simpa using h.symm
    | succ k=>rw [hk] at h;simp at h
   subst this;exact .inr hp
 oth:=λa u h _=>by rw [ae (aI h hp)];exact h
 live:=(Stp.fresh (K:=K) (ρ:=ρ) hp).live
 tup:=λa xs h=>aZ h (.inl hp)
 fro:=λa xs h=>aX h (.inl hp)
 frz:=λa ob u h=>by rw [ae (aI h hp)];exact h
def RH.allocO{p:Addr}{ob:O}{ho:HO}(h:RH K ρ H g)(hp:H p=none)(r:RHO K ρ H ob ho):RH K (ρ++[p]) (upd H p ho) (g++[ob]) where
 len:=by simp [h.len]
 inj:=λi j a h1 h2=>by
  have key:∀ k b,(ρ++[p])[k]? = some b->(k < ρ.length/\ρ[k]? = some b)\/(k=ρ.length/\b=p):=λk b e=>by
   by_cases hk:k < ρ.length
   .rw [List.getElem?_append_left hk] at e;exact .inl ⟨hk,e⟩
   .rw [List.getElem?_append_right ()] at e
    cases hd:k - ρ.length with
    | zero=>rw [hd] at e;exact .inr ⟨by omega,by simpa using e.symm⟩
    | succ m=>rw [hd] at e;simp at e
  have noP:∀ k,ρ[k]? ≠ some p:=λk e=>by
   let ⟨o,ho⟩:=h.there e;rw [hp] at ho;cases ho
  rcases key i a h1 with ⟨_,e1⟩ | ⟨e1,e1'⟩
  .rcases key j a h2 with ⟨_,e2⟩ | ⟨e2,e2'⟩
   .exact h.inj i j a e1 e2
   .subst e2';exact absurd e1 (noP i)
  .rcases key j a h2 with ⟨_,e2⟩ | ⟨e2,e2'⟩
   .subst e1';exact absurd e2 (noP j)
   .omega
 obj:=λn a o h1 h2=>by
  by_cases hn:n < ρ.length
  .rw [List.getElem?_append_left hn] at h1
   rw [List.getElem?_append_left (by rw [<-h.len];exact hn)] at h2
   exact (h.obj n a o h1 h2).step (Stp.alloc hp) λho e=>by rw [ae (aI e hp)];exact e
  .have hl:=h.len
   rw [List.getElem?_append_right ()] at h1
   rw [List.getElem?_append_right ()] at h2
   rw [<-hl] at h2;cases hd:n - ρ.length with
   | zero =>
    rw [hd] at h1 h2;have e1:a=p:=by simpa using h1.symm
    have e2:o=ob:=by simpa using h2.symm
    subst e1;subst e2;exact ⟨ho,upd_same,r.step (Stp.alloc hp)⟩
   | succ m=>rw [hd] at h1;simp at h1
def RH.alloc{p:Addr}(h:RH K ρ H g)(hp:H p=none)(r:RVs K ρ H us vs):RH K (ρ++[p]) (upd H p (.lst vs)) (g++[.lst us]):=h.allocO hp ⟨vs,rfl,r⟩
def Stp.writeO{x y:HO}(hn:ρ[n]? = some a)(ha:H a=some x)(hm:Bv x):Stp K ρ H ρ (upd H a y) where
 ext:=λ_ _ h=>h
 new:=λ_ _ h => .inl h
 oth:=λb u h hb=>by
  have:b≠a:=λe=>hb (e ▸ List.mem_iff_getElem?.mpr ⟨n,hn⟩);rw [ae this];exact h
 live:=λb h=>by
  by_cases e:b=a
  .subst e;rw [upd_same];simp
  .rw [ae e];exact h
 tup:=λb zs h=>aZ h (.inr ⟨_,ha,hm⟩)
 fro:=λb zs h=>aX h (.inr ⟨_,ha,hm⟩)
 frz:=λb ob u h=>by rw [ae (cH h ha (by rintro rfl;exact hm))];exact h
def Stp.write{xs ys:List V}(hn:ρ[n]? = some a)(ha:H a=some (.lst xs)):Stp K ρ H ρ (upd H a (.lst ys)):=Stp.writeO hn ha trivial
def RH.writeO{n:Nat}{a:Addr}{x y:HO}{ob:O}(h:RH K ρ H g)(hn:ρ[n]? = some a)(ha:H a=some x)(hm:Bv x)(r:RHO K ρ H ob y):RH K ρ (upd H a y) (g.set n ob) where
 len:=by simp [h.len]
 inj:=h.inj
 obj:=λm b o h1 h2=>by
  by_cases e:m=n
  .subst e
   rw [hn] at h1;cases h1;rw [List.getElem?_set_self (by rw [<-h.len];exact (List.getElem?_eq_some_iff.mp hn).1)] at h2
   cases h2;exact ⟨y,upd_same,r.step (Stp.writeO hn ha hm)⟩
  .rw [List.getElem?_set_ne (Ne.symm e)] at h2
   have ne:b≠a:=λz=>e (h.inj m n a (z ▸ h1) hn);exact (h.obj m b o h1 h2).step (Stp.writeO hn ha hm) λho e1=>by rw [ae ne];exact e1
def RH.write{xs ys:List V}(h:RH K ρ H g)(hn:ρ[n]? = some a)(ha:H a=some (.lst xs))(r:RVs K ρ H us ys):RH K ρ (upd H a (.lst ys)) (g.set n (.lst us)):=h.writeO hn ha trivial ⟨ys,rfl,r⟩
structure RS(K:HG)(ρ:List Addr)(H:Hp)(σu:Su)(σ:L2.St):Prop where
 len:σu.length=σ.length
 val:∀ (i:Nat) (u:U),σu[i]? = some (some u) -> ∃ v,σ[i]? = some (some v)/\RV K ρ H u v
def RS.step{σu:Su}{σ:L2.St}(h:RS K ρ H σu σ)(s:Stp K ρ H ρ' H'):RS K ρ' H' σu σ :=
 ⟨h.len,λi u e=>let ⟨v,e1,r⟩:=h.val i u e;⟨v,e1,RV.step s _ _ r⟩⟩
def RS.set{σu:Su}{σ:L2.St}{i:Nat}{u:U}{v:V}(h:RS K ρ H σu σ)(r:RV K ρ H u v):RS K ρ H (σu.set i (some u)) (σ.set i (some v)) where
 len:=by simp [h.len]
 val:=λj w e=>by
  by_cases hj:j=i
  .subst hj
   have hl:j < σu.length:=by
    have:=(List.getElem?_eq_some_iff.mp e).1;simpa using this
   rw [List.getElem?_set_self hl] at e;cases e;exact ⟨v,by rw [List.getElem?_set_self (by rw [<-h.len];exact hl)],r⟩
  .rw [List.getElem?_set_ne (Ne.symm hj)] at e
   let ⟨x,e1,e2⟩:=h.val j w e;exact ⟨x,by rw [List.getElem?_set_ne (Ne.symm hj)];exact e1,e2⟩
end
abbrev XQ:=Nat->List V->Hp->Prop
section
variable(K:HG)(W:XQ)
def post{α β:Type}(R:List Addr->Hp->α->β->Prop)(o:Out α)(ρ:List Addr)(H:Hp)(Q:β->Hp->Prop):Prop:=match o with
 | .ok u g => ∀ v ρ' H',Stp K ρ H ρ' H'->RH K ρ' H' g->R ρ' H' u v->Q v H'
 | .exc c fs g => ∀ vs ρ' H',Stp K ρ H ρ' H'->RH K ρ' H' g->RVs K ρ' H' fs vs->W c vs H'
 | .bad=>False
def Jw(o:Out Fl)(ρ:List Addr)(H:Hp)(D:Ends):Prop:=match o with
 | .ok (.nx σu) g => ∀ σ ρ' H',Stp K ρ H ρ' H'->RH K ρ' H' g->RS K ρ' H' σu σ->D.nx σ H'
 | .ok (.bk σu) g => ∀ σ ρ' H',Stp K ρ H ρ' H'->RH K ρ' H' g->RS K ρ' H' σu σ->D.bk σ H'
 | .ok (.ct σu) g => ∀ σ ρ' H',Stp K ρ H ρ' H'->RH K ρ' H' g->RS K ρ' H' σu σ->D.ct σ H'
 | .ok (.rt u) g => ∀ v ρ' H',Stp K ρ H ρ' H'->RH K ρ' H' g->RV K ρ' H' u v->D.rt v H'
 | .exc c fs g => ∀ vs ρ' H',Stp K ρ H ρ' H'->RH K ρ' H' g->RVs K ρ' H' fs vs->W c vs H'
 | .bad=>False
abbrev REq{α:Type}:List Addr->Hp->α->α->Prop:=λ_ _ a b=>a=b
inductive tR{α β:Type}(R:List Addr->Hp->α->β->Prop)(f:Su->G->Out α)(σ:L2.St)(H:Hp)(Q:β->Hp->Prop):Prop
 | mk (σu:Su) (ρ:List Addr) (g:G) (hs:RS K ρ H σu σ) (hg:RH K ρ H g) (p:post K W R (f σu g) ρ H Q)
abbrev tE(f:Su->G->Out U):TE:=tR K W (RV K) f
abbrev tT(f:Su->G->Out Bool):TT:=tR K W REq f
abbrev tAr(f:Su->G->Out (List U)):TA:=tR K W (RVs K) f
inductive PB{α β α' β':Type}(R:List Addr->Hp->α->β->Prop)(R':List Addr->Hp->α'->β'->Prop)(ρ:List Addr)(H:Hp)(k:α->G->Out α')(Q:β'->Hp->Prop)(v:β)(H1:Hp):Prop
 | mk (ρ1:List Addr) (u:α) (g1:G) (s:Stp K ρ H ρ1 H1) (h:RH K ρ1 H1 g1) (r:R ρ1 H1 u v) (p:post K W R' (k u g1) ρ1 H1 Q)
inductive PC{α β:Type}(R:List Addr->Hp->α->β->Prop)(ρ:List Addr)(H:Hp)(k:α->G->Out Fl)(D:Ends)(v:β)(H1:Hp):Prop
 | mk (ρ1:List Addr) (u:α) (g1:G) (s:Stp K ρ H ρ1 H1) (h:RH K ρ1 H1 g1) (r:R ρ1 H1 u v) (p:Jw K W (k u g1) ρ1 H1 D)
inductive tSt(f:Su->G->Out Fl)(D:Ends)(σ:L2.St)(H:Hp):Prop
 | mk (σu:Su) (ρ:List Addr) (g:G) (hs:RS K ρ H σu σ) (hg:RH K ρ H g) (p:Jw K W (f σu g) ρ H D)
end
section
variable{W:XQ}{α' β':Type}{R:List Addr->Hp->α->β->Prop}{R':List Addr->Hp->α'->β'->Prop}
def post.from{o:Out α}{Q:β->Hp->Prop}(h:post K W R o ρ H Q)(s:Stp K ρ H ρ' H'):post K W R o ρ' H' Q:=by
 cases o with
 | ok u g=>exact λv ρ2 H2 s2=>h v ρ2 H2 (s.trans s2)
 | exc c fs g=>exact λv ρ2 H2 s2=>h v ρ2 H2 (s.trans s2)
 | bad=>exact h
def Jw.from{o:Out Fl}{D:Ends}(h:Jw K W o ρ H D)(s:Stp K ρ H ρ' H'):Jw K W o ρ' H' D:=by
 cases o with
 | ok f g=>cases f <;> exact λv ρ2 H2 s2=>h v ρ2 H2 (s.trans s2)
 | exc c fs g=>exact λv ρ2 H2 s2=>h v ρ2 H2 (s.trans s2)
 | bad=>exact h
def post.bind{o:Out α}{k:α->G->Out α'}{Q:β'->Hp->Prop}(h:post K W R' (o.bind k) ρ H Q):
  post K W R o ρ H (PB K W R R' ρ H k Q):=by
 cases o with
 | ok u g=>exact λv ρ1 H1 s1 h1 r1=>⟨ρ1,u,g,s1,h1,r1,post.from (o:=k u g) h s1⟩
 | exc c fs g=>exact h
 | bad=>exact h
def Jw.bind{o:Out α}{k:α->G->Out Fl}{D:Ends}(h:Jw K W (o.bind k) ρ H D):
  post K W R o ρ H (PC K W R ρ H k D):=by
 cases o with
 | ok u g=>exact λv ρ1 H1 s1 h1 r1=>⟨ρ1,u,g,s1,h1,r1,Jw.from (o:=k u g) h s1⟩
 | exc c fs g=>exact h
 | bad=>exact h
def post.mono{o:Out α}{Q Q':β->Hp->Prop}(h:post K W R o ρ H Q)(q:∀ v H1,Q v H1->Q' v H1):post K W R o ρ H Q':=by
 cases o with
 | ok u g=>exact λv ρ1 H1 s1 h1 r1=>q _ _ (h v ρ1 H1 s1 h1 r1)
 | exc c fs g=>exact h
 | bad=>exact h
def post.okHere{u:α}{v:β}{Q:β->Hp->Prop}(h:post K W R (.ok u g) ρ H Q)(hg:RH K ρ H g)(r:R ρ H u v):Q v H:=h v ρ H .refl hg r
def post.lift{o:Option α}{g:G}{Q:β->Hp->Prop}(h:post K W R (lift o g) ρ H Q):∃ u,o=some u/\post K W R (.ok u g) ρ H Q:=by
 cases o with
 | none=>exact h.elim
 | some u=>exact ⟨u,rfl,h⟩
end
def _root_.L2.PE.imp{t t':TE}(h:PE X e t)(q:∀ σ H Q,t' σ H Q->t σ H Q):PE X e t':=λpins s σ H Q I h'=>h pins s σ H Q I (q σ H Q h')
def _root_.L2.PT.imp{t t':TT}(h:PT X e t)(q:∀ σ H Q,t' σ H Q->t σ H Q):PT X e t':=λpins s σ H Q I h'=>h pins s σ H Q I (q σ H Q h')
def _root_.L2.PW.imp{t t':TT}(h:PW X e t)(q:∀ σ H Q,t' σ H Q->t σ H Q):PW X e t':=λwh pins s σ H Q I h'=>h wh pins s σ H Q I (q σ H Q h')
def _root_.L2.PA.imp{e:List Expr}{t t':TA}(h:PA X e t)(q:∀ σ H Q,t' σ H Q->t σ H Q):PA X e t':=λpos pins s σ H Q I h'=>h pos pins s σ H Q I (q σ H Q h')
def _root_.L2.PS.imp{e:Stmt}{t t':TS}(h:PS X e t)(q:∀ D σ H,t' D σ H->t D σ H):PS X e t':=λpins s σ H Q I h'=>h pins s σ H Q I (q Q σ H h')
def _root_.L2.PSs.imp{e:List Stmt}{t t':TS}(h:PSs X e t)(q:∀ D σ H,t' D σ H->t D σ H):PSs X e t':=λpins s σ H Q I h'=>h pins s σ H Q I (q Q σ H h')
def _root_.L2.PE.bad{X:Cx}{e:Expr}{K:HG}{W:XQ}{f:Su->G->Out U}(h:∀ σ g,f σ g=.bad):PE X e (tE K W f):=λpins s σ H Q I ⟨σu,ρ,g,_,_,p⟩=>by rw [h] at p;exact p.elim
def _root_.L2.PT.bad{X:Cx}{e:Expr}{K:HG}{W:XQ}{f:Su->G->Out Bool}(h:∀ σ g,f σ g=.bad):PT X e (tT K W f):=λpins s σ H Q I ⟨σu,ρ,g,_,_,p⟩=>by rw [h] at p;exact p.elim
def _root_.L2.PSs.bad{X:Cx}{e:List Stmt}{K:HG}{W:XQ}{f:Su->G->Out Fl}(h:∀ σ g,f σ g=.bad):PSs X e (tSt K W f):=λpins s σ H Q I ⟨σu,ρ,g,_,_,p⟩=>by rw [h] at p;exact p.elim
def _root_.L2.PS.bad{X:Cx}{e:Stmt}{K:HG}{W:XQ}{f:Su->G->Out Fl}(h:∀ σ g,f σ g=.bad):PS X e (tSt K W f):=λpins s σ H Q I ⟨σu,ρ,g,_,_,p⟩=>by rw [h] at p;exact p.elim
section
variable{W W':XQ}
def bc{α' β':Type}{R:List Addr->Hp->α->β->Prop}{R':List Addr->Hp->α'->β'->Prop}{o:Out α}{k:α->G->Out α'}{Q:β'->Hp->Prop}(h:post K W R' (o.noex.bind k) ρ H Q):
  post K W' R o ρ H (PB K W R R' ρ H k Q):=by
 cases o with
 | ok u g=>exact λv ρ1 H1 s1 h1 r1=>⟨ρ1,u,g,s1,h1,r1,post.from (o:=k u g) h s1⟩
 | exc c fs g=>exact h.elim
 | bad=>exact h
end
section
def RV.flat{w:U}{x:V}(r1:RV K ρ H u x)(r2:RV K ρ H w y)(e:Ar u w=some b):C4 x=true/\C4 y=true/\IQ x y=b:=by
 cases u <;> cases w <;> simp! [Ar,Option.some.injEq,reduceCtorEq] at e <;> (subst e;cases r1;cases r2;exact ⟨rfl,rfl,rfl⟩)
def dH:∀ {us ws:List U} {vs:List V} {b:Bool},RVs K ρ H us vs->RVs K ρ H ws vs->Aw us ws=some b->b=true
 | [],[],_,b,_,_,e=>by simpa [Aw] using e.symm
 | [],_ :: _,_,b,_,_,e=>by simp [Aw] at e
 | _ :: _,[],_,b,_,_,e=>by simp [Aw] at e
 | u :: us,w :: ws,_,b,h1,h2,e=>by
  let ⟨v,r,rfl,a1,a2⟩:=h1;let ⟨v',r',e',b1,b2⟩:=h2;cases e';simp! [Aw] at e;cases e0:Ar u w with
  | none=>simp [e0] at e
  | some c =>
   cases e1:Aw us ws with
   | none=>simp [e0,e1] at e
   | some d =>
    simp! [e0,e1,Option.some.injEq] at e;subst e;rw [dH a2 b2 e1];have:c=true:=by
     cases u <;> cases w <;> simp! [Ar,Option.some.injEq,reduceCtorEq] at e0 <;> (subst e0;cases a1;cases b1;try simp)
    simp [this]
def Jx:U->Bool
 | .non | .bl _ | .int _ | .str _=>true
 | _=>false
def kU{z:U}(e:Ar u z=some b):Jx u=true:=by
 cases u <;> first | rfl | (cases z <;> cases e)
def adx{u':U}{v:V}(h1:RV K ρ H u v)(h2:RV K ρ H u' v)(e:Jx u=true)(e':Jx u'=true):u=u':=by
 cases u <;> first | (cases e;done) | (cases h1;cases u' <;> first | (cases e';done) | (cases h2 <;> rfl))
def mv{u' z z':U}{v:V}{b':Bool}(h1:RV K ρ H u v)(h2:RV K ρ H u' v)(e:Ar u z=some b)(e':Ar u' z'=some b'):u=u':=adx h1 h2 (kU e) (kU e')
def lI:∀ {us us' zs:List U} {vs:List V} {b b':Bool},RVs K ρ H us vs->RVs K ρ H us' vs->Aw us zs=some b->Aw us' zs=some b'->us=us'
 | [],_,_,_,_,_,h1,h2,_,_=>by
  cases h1;have:=h2.length;simp at this;exact this.symm
 | _ :: _,_,[],_,_,_,_,_,e,_=>by simp [Aw] at e
 | u :: us,[],_,_,_,_,h1,h2,_,_=>by
  let ⟨v,r,rfl,_,_⟩:=h1;cases h2
 | u :: us,u' :: us',z :: zs,_,b,b',h1,h2,e,e'=>by
  let ⟨v,r,rfl,a1,a2⟩:=h1;let ⟨v',r',q,b1,b2⟩:=h2;cases q;simp! [Aw] at e e';cases e0:Ar u z with
  | none=>simp [e0] at e
  | some c =>
   cases e1:Aw us zs with
   | none=>simp [e0,e1] at e
   | some d =>
    cases e0':Ar u' z with
    | none=>simp [e0'] at e'
    | some c' =>
     cases e1':Aw us' zs with
     | none=>simp [e0',e1'] at e'
     | some d'=>rw [mv a1 b1 e0 e0',lI a2 b2 e1 e1']
def dQ{w:U}(e:IV u w=some b):(∃ us ws,u=.tup us/\w=.tup ws/\Aw us ws=some b)\/Ar u w=some b:=by
 cases u <;> cases w <;> first | exact .inr e | exact .inl ⟨_,_,rfl,rfl,e⟩
end
section
variable{σ:L2.St}
def xR{w:U}{x:V}{v v':Value}(r1:RV K ρ H u x)(r2:RV K ρ H w y)(rx:RelV x v)(ry:RelV y v')(e:Ar u w=some b):SeqAt.RcAt A s v v' b:=by
 cases u with
 | non =>
  cases r1;cases rx;cases w <;> simp! [Ar,Option.some.injEq,reduceCtorEq] at e
  .subst e;cases r2;cases ry;exact SeqAt.RcAt.none_none
  .subst e;cases r2;cases ry;exact SeqAt.RcAt.none_bool _
  .subst e;cases r2;let ⟨t',rfl⟩:=ry;exact SeqAt.RcAt.none_int _ _
  .subst e;cases r2;let ⟨t',rfl⟩:=ry;exact SeqAt.RcAt.none_str _ _
 | bl a =>
  cases r1;cases rx;cases w <;> simp! [Ar,Option.some.injEq,reduceCtorEq] at e
  .subst e;cases r2;cases ry;exact SeqAt.RcAt.bool_none _
  .subst e;cases r2;cases ry;exact SeqAt.RcAt.bool_bool _ _
  .subst e;cases r2;let ⟨t',rfl⟩:=ry;exact SeqAt.RcAt.bool_int _ _ _
  .subst e;cases r2;let ⟨t',rfl⟩:=ry;exact SeqAt.RcAt.bool_str _ _ _
 | int a =>
  cases r1;let ⟨t,rfl⟩:=rx;cases w <;> simp! [Ar,Option.some.injEq,reduceCtorEq] at e
  .subst e;cases r2;cases ry;exact SeqAt.RcAt.int_none _ _
  .subst e;cases r2;cases ry;exact SeqAt.RcAt.int_bool _ _ _
  .subst e;cases r2;let ⟨t',rfl⟩:=ry;exact SeqAt.RcAt.int_int _ _ _ _
  .subst e;cases r2;let ⟨t',rfl⟩:=ry;exact SeqAt.RcAt.int_str _ _ _ _
 | str a =>
  cases r1;let ⟨t,rfl⟩:=rx;cases w <;> simp! [Ar,Option.some.injEq,reduceCtorEq] at e
  .subst e;cases r2;cases ry;exact SeqAt.RcAt.str_none _ _
  .subst e;cases r2;cases ry;exact SeqAt.RcAt.str_bool _ _ _
  .subst e;cases r2;let ⟨t',rfl⟩:=ry;exact SeqAt.RcAt.str_int _ _ _ _
  .subst e;cases r2;let ⟨t',rfl⟩:=ry;exact SeqAt.RcAt.str_str _ _ _ _
 | _=>simp [Ar] at e
def jz{K:HG}{ρ:List Addr}:∀ {us ws:List U} {xs ys:List V} {vs vs':List Value} {b:Bool},RVs K ρ H us xs->RVs K ρ H ws ys->Vals xs vs->Vals ys vs'->Aw us ws=some b ->
  ∃ e:Nat->Bool,vs.length=vs'.length/\(∀ j (h1:j < vs.length) (h2:j < vs'.length),SeqAt.EqAt A s vs[j] vs'[j] (e j))/\(List.range vs.length).all e=b
 | [],[],_,_,_,_,b,h1,h2,q1,q2,e=>by
  cases h1;cases h2;cases q1;cases q2;simp! [Aw,Option.some.injEq] at e;subst e;exact ⟨λ_=>true,rfl,λj h1=>absurd h1 #[3],rfl⟩
 | [],_ :: _,_,_,_,_,b,h1,h2,q1,q2,e=>by simp [Aw] at e
 | _ :: _,[],_,_,_,_,b,h1,h2,q1,q2,e=>by simp [Aw] at e
 | u :: us,w :: ws,_,_,_,_,b,h1,h2,q1,q2,e=>by
  let ⟨x,xs,rfl,a1,a2⟩:=h1;let ⟨y,ys,rfl,b1,b2⟩:=h2;cases q1 with
  | cons rx q1 =>
  cases q2 with
  | cons ry q2 =>
  simp! [Aw] at e;cases e0:Ar u w with
  | none=>simp [e0] at e
  | some c =>
   cases e1:Aw us ws with
   | none=>simp [e0,e1] at e
   | some d =>
    simp! [e0,e1,Option.some.injEq] at e;subst e;let ⟨f,l,hf,hd⟩:=jz a2 b2 q1 q2 e1;let ⟨fx,fy,ev⟩:=a1.flat b1 e0;refine ⟨λj=>match j with | 0=>c | j+1=>f j,by simp [l],λj h1 h2 => ?_,?_⟩
    .cases j with
     | zero=>subst ev;exact gG rx ry fx fy
     | succ j=>exact hf j (by simpa using h1) (by simpa using h2)
    .subst hd
     rw [List.length_cons,List.range_succ_eq_map,List.all_cons,List.all_map]
     rfl
def qt{w:U}{x:V}{v v':Value}(I:Inv X pins σ H s)(hu:A.units < cLine)(r1:RV X.K ρ H u x)(r2:RV X.K ρ H w y)(rx:RelV x v)(ry:RelV y v')(e:IV u w=some b):SeqAt.RcAt A s v v' b:=by
 by_cases ht:∃ us ws,u=.tup us/\w=.tup ws
 .obtain ⟨us,ws,rfl,rfl⟩:=ht
  let ⟨a,xs,rfl,h1,h2⟩:=r1;let ⟨a',ys,rfl,h3,h4⟩:=r2;cases rx;cases ry;let ⟨its,q1,p1,_⟩:=I.tuple h1.sq;let ⟨its',q2,p2,_⟩:=I.tuple h3.sq;let ⟨f,l,hf,hd⟩:=jz (A:=A.in1) (s:=s) h2 h4 q1 q2 e;have:=SeqAt.RcAt.tuples (A:=A) (s:=s) (l:=a) (b:=a') (items:=its.toArray) (items2:=its'.toArray) (e:=f) p1 p2 hu (λj h1 h2=>by simpa using hf j (by simpa using h1) (by simpa using h2))
  have e2:(#[43].all f && its.toArray.size == its'.toArray.size)=b:=by simp [<-l,hd]
  rw [e2] at this;exact this
 .have e':Ar u w=some b:=by
   cases u <;> cases w <;> first | exact e | exact absurd ⟨_,_,rfl,rfl⟩ ht
  exact xR r1 r2 rx ry e'
def gX{w:U}{x:V}{v v':Value}(I:Inv X pins σ H s)(hu:A.units < cLine)(r1:RV X.K ρ H u x)(r2:RV X.K ρ H w y)(rx:RelV x v)(ry:RelV y v')(e:IV u w=some b):SeqAt.EqAt A s v v' b:=by
 by_cases ht:∃ us ws,u=.tup us/\w=.tup ws
 .have rc:=qt I hu r1 r2 rx ry e
  let ⟨us,ws,rfl,rfl⟩:=ht;let ⟨a,xs,rfl,h1,h2⟩:=r1;let ⟨a',ys,rfl,h3,h4⟩:=r2;cases rx;cases ry;by_cases ha:a=a'
  .subst ha
   obtain rfl:=I.tuple_inj h1.sq h3.sq;have:=dH h2 h4 e;subst this;exact SeqAt.EqAt.same _
  .exact SeqAt.EqAt.of_refs ha rc
 .have e':Ar u w=some b:=by
   cases u <;> cases w <;> first | exact e | exact absurd ⟨_,_,rfl,rfl⟩ ht
  let ⟨fx,fy,ev⟩:=r1.flat r2 e';subst ev;exact gG rx ry fx fy
def vY{w:U}(I:Inv X pins σ H s)(h1:RV X.K ρ H u y)(h2:RV X.K ρ H w y)(e:IV u w=some b):b=true:=by
 rcases dQ e with ⟨us,ws,rfl,rfl,e⟩ | e
 .obtain ⟨a,xs,rfl,t1,t2⟩:=h1
  let ⟨a',ys,q,t3,t4⟩:=h2;cases q;obtain rfl:=I.tuple_inj t1.sq t3.sq;exact dH t2 t4 e
 .have:=dH (b:=b && true) (RVs.one h1) (RVs.one h2) (by simp! [Aw,e])
  simpa using this
def dY{ρ:List Addr}{q:U->U->Option Bool}(hq:∀ u w x y v v' b,RV X.K ρ H u x->RV X.K ρ H w y->RelV x v->RelV y v'->q u w=some b->SeqAt.EqAt A s v v' b):∀ {us ws:List U} {xs ys:List V} {its its':List Value} {b:Bool},RVs X.K ρ H us xs->RVs X.K ρ H ws ys->Vals xs its->Vals ys its'->qs q us ws=some b ->
  ∃ f:Nat->Bool,its.length=its'.length/\(∀ j (h1:j < its.length) (h2:j < its'.length),SeqAt.EqAt A s its[j] its'[j] (f j))/\(List.range its.length).all f=b
 | [],[],_,_,_,_,b,h1,h2,q1,q2,e=>by
  cases h1;cases h2;cases q1;cases q2;simp! [qs,Option.some.injEq] at e;subst e;exact ⟨λ_=>true,rfl,λj h=>by simp at h,rfl⟩
 | [],_ :: _,_,_,_,_,_,_,_,_,_,e=>by simp [qs] at e
 | _ :: _,[],_,_,_,_,_,_,_,_,_,e=>by simp [qs] at e
 | u :: us,w :: ws,_,_,_,_,b,h1,h2,q1,q2,e=>by
  let ⟨x,xs,rfl,a1,a2⟩:=h1;let ⟨y,ys,rfl,b1,b2⟩:=h2;cases q1 with
  | cons rx q1 =>
  cases q2 with
  | cons ry q2 =>
  simp! [qs] at e;cases e0:q u w with
  | none=>simp [e0] at e
  | some c =>
   cases e1:qs q us ws with
   | none=>simp [e0,e1] at e
   | some d =>
    simp! [e0,e1,Option.some.injEq] at e;subst e;let ⟨f,l,hf,hd⟩:=dY hq a2 b2 q1 q2 e1;refine ⟨λj=>match j with | 0=>c | j+1=>f j,by simp [l],λj h1 h2 => ?_,?_⟩
    .cases j with
     | zero=>exact hq u w x y _ _ c a1 b1 rx ry e0
     | succ j=>exact hf j (by simpa using h1) (by simpa using h2)
    .subst hd
     rw [List.length_cons,List.range_succ_eq_map,List.all_cons,List.all_map]
     rfl
def lV{ρ:List Addr}{q:U->U->Option Bool}(hq:∀ u w y b,RV X.K ρ H u y->RV X.K ρ H w y->q u w=some b->b=true):∀ {us ws:List U} {xs:List V} {b:Bool},RVs X.K ρ H us xs->RVs X.K ρ H ws xs->qs q us ws=some b->b=true
 | [],[],_,b,_,_,e=>by simpa [qs] using e.symm
 | [],_ :: _,_,_,_,_,e=>by simp [qs] at e
 | _ :: _,[],_,_,_,_,e=>by simp [qs] at e
 | u :: us,w :: ws,_,b,h1,h2,e=>by
  let ⟨x,xs,rfl,a1,a2⟩:=h1;let ⟨y,ys,z,b1,b2⟩:=h2;cases z;simp! [qs] at e;cases e0:q u w with
  | none=>simp [e0] at e
  | some c =>
   cases e1:qs q us ws with
   | none=>simp [e0,e1] at e
   | some d =>
    simp! [e0,e1,Option.some.injEq] at e;rw [<-e,hq u w _ c a1 b1 e0,lV hq a2 b2 e1]
    rfl
def aaO{w:U}{x:V}{v v':Value}(I:Inv X pins σ H s)(hu:A.units+1 < cLine)(r1:RV X.K ρ H u x)(r2:RV X.K ρ H w y)(rx:RelV x v)(ry:RelV y v')(e:Gw u w=some b):SeqAt.EqAt A s v v' b:=by
 by_cases ht:∃ us ws,u=.tup us/\w=.tup ws
 .obtain ⟨us,ws,rfl,rfl⟩:=ht
  let ⟨a,xs,rfl,h1,h2⟩:=r1;let ⟨a',ys,rfl,h3,h4⟩:=r2;cases rx;cases ry;have e:qs IV us ws=some b:=e;by_cases ha:a=a'
  .subst ha
   obtain rfl:=I.tuple_inj h1.sq h3.sq;have:=lV (λu w y b q1 q2 q3=>vY I q1 q2 q3) h2 h4 e;subst this;exact SeqAt.EqAt.same _
  .refine SeqAt.EqAt.of_refs ha ?_
   let ⟨its,q1,p1,_⟩:=I.tuple h1.sq;let ⟨its',q2,p2,_⟩:=I.tuple h3.sq;let ⟨f,l,hf,hd⟩:=dY (A:=A.in1) (s:=s) (λu w x y v v' b q1 q2 q3 q4 q5=>gX (A:=A.in1) I hu q1 q2 q3 q4 q5) h2 h4 q1 q2 e;have:=SeqAt.RcAt.tuples (A:=A) (s:=s) (l:=a) (b:=a') (items:=its.toArray) (items2:=its'.toArray) (e:=f) p1 p2 () (λj h1 h2=>by simpa using hf j (by simpa using h1) (by simpa using h2))
   have e2:(#[43].all f && its.toArray.size == its'.toArray.size)=b:=by simp [<-l,hd]
   rw [e2] at this;exact this
 .have e':Ar u w=some b:=by
   cases u <;> cases w <;> first | exact e | exact absurd ⟨_,_,rfl,rfl⟩ ht
  let ⟨fx,fy,ev⟩:=r1.flat r2 e';subst ev;exact gG rx ry fx fy
end
section
variable{W:XQ}
inductive OpX(X:Cx)(f:U->U->G->Option Bool)(x y:V)(H:Hp)(Q:VK):Prop
 | mk (ρ:List Addr) (g:G) (u w:U) (b:Bool) (hg:RH X.K ρ H g) (r1:RV X.K ρ H u x) (r2:RV X.K ρ H w y) (e:f u w g=some b) (q:Q (.bl b) H)
def aa7(hu:X.A.units < cLine):OpR X (compareOp .Eq) (OpX X λu w _=>IV u w):=by
 intro pins s σ H x y v u Q I rx ry ⟨ρ,g,a,w,b,hg,r1,r2,e,q⟩;exact qt I hu r1 r2 rx ry e X.prog X.w X.xe _ ⟨.bl b,H,I,rfl,q⟩
def ki{x y:U}{p:List U×List U}(e:A2 x y g=some p):∃ n m,x=.ref n/\y=.ref m/\g[n]? = some (.lst p.1)/\g[m]? = some (.lst p.2):=by
 unfold A2 at e;split at e
 .split at e
  .split at e
   .split at e
    .rename_i h1 _ _ h2
     cases e;exact ⟨_,_,rfl,rfl,h1,h2⟩
    .cases e
   .cases e
  .cases e
 .cases e
def abK(hu:X.A.units+2 < cLine):OpR X (compareOp .Eq) (OpX X λu w g=>(A2 u w g).bind λp=>I8 p.1 p.2):=by
 intro pins s σ H x y v u Q I rx ry ⟨ρ,g,a,w,b,hg,r1,r2,hl,q⟩;let ⟨p,hl,e⟩:=Option.bind_eq_some_iff.mp hl;let ⟨n,m,rfl,rfl,g1,g2⟩:=ki hl;let ⟨a1,vs,c1,c2,c3⟩:=hg.lst g1;let ⟨a2,ws,d1,J3,d3⟩:=hg.lst g2;let ⟨a1',rfl,z⟩:=r1;rw [c1] at z;cases z;let ⟨a2',rfl,z⟩:=r2;rw [d1] at z;cases z;cases rx;cases ry;let ⟨its,q1,p1,_⟩:=I.list (.of c2);let ⟨its',q2,p2,_⟩:=I.list (.of J3);unfold I8 at e;split at e
 case isFalse hne =>
  cases e;refine SeqAt.eq_list_lengthsAt p1.isList p2.isList ?_ () ⟨.bl false,H,I,rfl,q⟩
  rw [c3.length,d3.length,q1.length,q2.length] at hne;simpa using hne
 let ⟨f,l,hf,hd⟩:=dY (A:=X.A.in1) (s:=s) (λu w x y v v' b q1 q2 q3 q4 q5=>aaO (A:=X.A.in1) I (by exact hu) q1 q2 q3 q4 q5) c3 d3 q1 q2 e
 refine SeqAt.eq_listAt (e:=f) p1.isList p2.isList (by simp [l]) () (λj h1 h2=>by simpa using hf j (by simpa using h1) (by simpa using h2)) ?_
 refine ⟨.bl b,H,I,?_,q⟩;rw [<-hd];simp! [List.size_toArray]
 rfl
def cQ{x:V}(h:RH K ρ H g)(r1:RV K ρ H u x)(e:items u g=some us):∃ a vs,x=.ref a/\(SqL K H a vs\/SqT K H a vs)/\RVs K ρ H us vs:=by
 cases u with
 | tup xs=>let ⟨a,vs,rfl,h1,h2⟩:=r1;cases e;exact ⟨a,vs,rfl,.inr h1.sq,h2⟩
 | fro xs=>let ⟨a,vs,rfl,h1,h2⟩:=r1;cases e;exact ⟨a,vs,rfl,.inl h1.sq,h2⟩
 | xn _ xs=>let ⟨a,vs,rfl,h1,h2⟩:=r1;cases e;exact ⟨a,vs,rfl,.inr h1.sq,h2⟩
 | ref n =>
  let ⟨a,rfl,hn⟩:=r1;simp! [items] at e;cases eg:g[n]? with
  | none=>simp [eg] at e
  | some o =>
   cases o with
   | lst xs =>
    simp! [eg,Option.some.injEq] at e;subst e;let ⟨a',vs,h1,h2,h3⟩:=h.lst eg;rw [hn] at h1;cases h1;exact ⟨a,vs,rfl,.inl (.of h2),h3⟩
   | dic _=>simp [eg] at e
   | dif _=>simp [eg] at e
   | dst _=>simp [eg] at e
   | ins _ _=>simp [eg] at e
 | _=>simp [items] at e
def yB{σ:L2.St}{w w':U}{c c':Bool}(I:Inv X pins σ H s)(h1:RV X.K ρ H w y)(h2:RV X.K ρ H w' y)(e:IV w u=some c)(e':IV w' u=some c'):c=c':=by
 have key:w=w':=by
  rcases dQ e with ⟨us,zs,rfl,rfl,e⟩ | e
  .rcases dQ e' with ⟨us',zs',rfl,q,e'⟩ | e'
   .cases q
    let ⟨a,vs,rfl,t1,t2⟩:=h1;let ⟨a',vs',q,t3,t4⟩:=h2;cases q;obtain rfl:=I.tuple_inj t1.sq t3.sq;rw [lI t2 t4 e e']
   .cases w' <;> simp [Ar] at e'
  .rcases dQ e' with ⟨us',zs',rfl,rfl,e'⟩ | e'
   .cases w <;> simp [Ar] at e
   .exact mv h1 h2 e e'
 subst key;rw [e] at e';exact Option.some.inj e'
def iH{α:Type}{e f:α->Bool}:∀ {l:List α},(∀ z∈l,e z=f z)->l.any e=l.any f
 | [],_=>rfl
 | x :: l,h=>by rw [List.any_cons,List.any_cons,h x List.mem_cons_self,iH λz hz=>h z (HB _ hz)]
def cL{ρ:List Addr}{H:Hp}{pins:List (Addr×Obj)}{σ:L2.St}{s:Shared}{A:Around}{u:U}{x:V}{v:Value}(I:Inv X pins σ H s)(hu:A.units < cLine)(r1:RV X.K ρ H u x)(rx:RelV x v):
  ∀ {us:List U} {vs:List V} {its:List Value} {b:Bool},RVs X.K ρ H us vs->Vals vs its->IY u us=some b ->
   ∃ e:Value->Bool,(∀ y∈its,SeqAt.EqAt A s y v (e y))/\its.any e=b /\ ∀ w y vy c,RV X.K ρ H w y->RelV y vy->vy∈its->IV w u=some c->e vy=c
 | [],_,_,b,h,q,e=>by
  cases h;cases q;simp! [IY,Option.some.injEq] at e;subst e;exact ⟨λ_=>false,λy hy=>by simp at hy,rfl,λ_ _ _ _ _ _ hm=>by simp at hm⟩
 | w :: us,_,_,b,h,q,e=>by
  let ⟨y,ys,rfl,a1,a2⟩:=h;cases q with
  | cons ry q =>
  rename_i vy its;simp! [IY] at e;cases e0:IV w u with
  | none=>simp [e0] at e
  | some c =>
   cases e1:IY u us with
   | none=>simp [e0,e1] at e
   | some d =>
    simp! [e0,e1,Option.some.injEq] at e;subst e;let ⟨f,hf,hd,hc⟩:=cL I hu r1 rx a2 q e1;have hy:SeqAt.EqAt A s vy v c:=gX I hu a1 r1 ry rx e0;have same:∀ z∈its,(if z=vy then c else f z)=f z:=λz hz=>by
     by_cases hz2:z=vy
     .subst hz2
      rw [if_pos rfl];exact (hc w y _ c a1 ry hz e0).symm
     .rw [if_neg hz2]
    refine ⟨λz=>if z=vy then c else f z,λz hz => ?_,?_,λw' y' vy' c' h1 h2 hm e' => ?_⟩
    .by_cases hz2:z=vy
     .subst hz2;simpa using hy
     .rcases List.mem_cons.mp hz with h | h
      .exact absurd h hz2
      .simpa [hz2] using hf z h
    .rw [List.any_cons,iH same,hd]
     simp
    .by_cases hz2:vy'=vy
     .subst hz2
      obtain rfl:=h2.inj ry;simpa using (yB I a1 h1 e0 e')
     .rcases List.mem_cons.mp hm with h | h
      .exact absurd h hz2
      .simpa [hz2] using hc w' y' vy' c' h1 h2 h e'
def abI(hu:X.A.units+1 < cLine):OpR X (compareOp .In) (OpX X λu w g=>(items w g).bind (IY u)):=by
 intro pins s σ H x y v u Q I rx ry ⟨ρ,g,a,w,b,hg,r1,r2,ei,q⟩;let ⟨us,ei,e⟩:=Option.bind_eq_some_iff.mp ei;let ⟨p,vs,rfl,hq,rs⟩:=cQ hg r2 ei;cases ry;rcases hq with hq | hq
 .obtain ⟨its,rv,pl,hz⟩:=I.list hq
  let ⟨f,hf,hd,_⟩:=cL (A:=X.A.in1) I (by exact hu) r1 rx rs rv e
  exact SeqAt.in_listAt f pl.isList (λw hw=>hf w (by simpa using hw)) ⟨.bl b,H,I,by rw [show its.toArray.any f=its.any f by simp,hd];rfl,q⟩
 .obtain ⟨its,rv,pl,hz⟩:=I.tuple hq
  let ⟨f,hf,hd,_⟩:=cL (A:=X.A.in1) I (by exact hu) r1 rx rs rv e
  exact SeqAt.in_tupleAt f pl (λw hw=>hf w (by simpa using hw)) ⟨.bl b,H,I,by rw [show its.toArray.any f=its.any f by simp,hd];rfl,q⟩
def yJ(hu:X.A.units+1 < cLine):OpR X (compareOp .NotIn) (OpX X λu w g=>(items w g).bind λus=>(IY u us).map (!·)):=by
 intro pins s σ H x y v u Q I rx ry ⟨ρ,g,a,w,b0,hg,r1,r2,e0,q⟩;let ⟨us,ei,e1⟩:=Option.bind_eq_some_iff.mp e0;let ⟨b,e,rfl⟩:=Option.map_eq_some_iff.mp e1;let ⟨p,vs,rfl,hq,rs⟩:=cQ hg r2 ei;cases ry;rcases hq with hq | hq
 .obtain ⟨its,rv,pl,hz⟩:=I.list hq
  let ⟨f,hf,hd,_⟩:=cL (A:=X.A.in1) I (by exact hu) r1 rx rs rv e
  exact SeqAt.notIn_listAt f pl.isList (λw hw=>hf w (by simpa using hw)) ⟨.bl (!b),H,I,by rw [show its.toArray.any f=its.any f by simp,hd];rfl,q⟩
 .obtain ⟨its,rv,pl,hz⟩:=I.tuple hq
  let ⟨f,hf,hd,_⟩:=cL (A:=X.A.in1) I (by exact hu) r1 rx rs rv e
  exact SeqAt.notIn_tupleAt f pl (λw hw=>hf w (by simpa using hw)) ⟨.bl (!b),H,I,by rw [show its.toArray.any f=its.any f by simp,hd];rfl,q⟩
end
open PySem PySem.Spec PyProof.Rows L2 PySem.W
def dt{α β:Type}{M:Model}{h:Heap}{f:α->β->Sem (ForInStep β)}{g:β->α->β}(I:List α->β->Prop)(hs:∀ x r b,I (x :: r) b->Looks M h (f x b) (.yield (g b x))/\I r (g b x)):∀ (l:List α) (b:β),I l b->Looks M h (forIn l b f) (l.foldl g b)
 | [],b,_=>by rw [List.forIn_nil];exact .now
 | x :: l,b,hi=>by
  rw [List.forIn_cons];exact (hs x l b hi).1.andThen (dt I hs l _ (hs x l b hi).2)
def AQ(b:List (Str×Value))(x:Str×Value):List (Str×Value):=if (b.lookup x.1).isNone=true then b++[x] else b
def be{α:Type}{n:Str}:∀ {b c:List (Str×α)},(b++c).lookup n=match b.lookup n with | some v=>some v | none=>c.lookup n
 | [],c=>rfl
 | (m,v) :: b,c=>by
  rw [List.cons_append,List.lookup_cons,List.lookup_cons];cases n == m with
  | true=>rfl
  | false=>exact be
def iw{n:Str}{b:List (Str×Value)}{x:Str×Value}:(AQ b x).lookup n=(b++[x]).lookup n:=by
 unfold AQ;split
 .rfl
 .rename_i h
  rw [be];cases e:b.lookup n with
  | some v=>rfl
  | none =>
   let ⟨m,v⟩:=x;simp! [List.lookup_cons,List.lookup_nil];cases q:n == m with
   | false=>rfl
   | true=>rw [eq_of_beq q] at e;rw [e] at h;exact absurd rfl h
def du{n:Str}:∀ {l b:List (Str×Value)},(l.foldl AQ b).lookup n=(b++l).lookup n
 | [],b=>by simp
 | x :: l,b=>by
  rw [List.foldl_cons,du,be,iw,<-be,List.append_assoc]
  rfl
def iX{α:Type}{n:Str}:∀ {l:List (Str×α)},(l.map (·.1)).contains n=false->l.lookup n=none
 | [],_=>rfl
 | (m,v) :: l,h=>by
  rw [List.map_cons,List.contains_cons,Bool.or_eq_false_iff] at h;rw [List.lookup_cons,h.1];exact iX h.2
def fz{α:Type}{n:Str}:∀ {l:List (Str×α)},(l.map (·.1)).contains n=true->(l.lookup n).isSome=true
 | [],h=>by cases h
 | (m,v) :: l,h=>by
  rw [List.map_cons,List.contains_cons,Bool.or_eq_true] at h;rw [List.lookup_cons];cases q:n == m with
  | true=>rfl
  | false =>
   rcases h with h | h
   .rw [q] at h;cases h
   .exact fz h
def cO{α:Type}:∀ {ns:List Str} {us:List α},(ns.zip us).map (·.1)=ns.take us.length
 | [],_=>by simp
 | _ :: _,[]=>by simp
 | n :: ns,u :: us=>by simp [cO (ns:=ns) (us:=us)]
def uJ{K:Frag}{ns ks:List Str}{us:List Value}{kw:List (Str×Value)}{od:Option (Array Value)}{kd:Str->Value}(X:K.In h)
  (h1:fd.params.posonlyargs=[]) (h2:fd.params.args.map (·.arg)=ns) (h3:fd.params.vararg=none) (h4:fd.params.kwonlyargs.map (·.arg)=ks) (h5:fd.params.kwarg=none)
  (hd:Looks M h (seqItems? fd.defaults) od) (hdl:(od.getD #[]).toList.length<=ns.length) (hl:us.length<=ns.length) (hkw:∀ p∈kw,(ns.contains p.1 || ks.contains p.1)=true) (hf:Cy (ns.take us.length) (kw.map (·.1))=true)
  (hm:∀ n∈ns.take (ns.length - (od.getD #[]).toList.length),(ns.take us.length++kw.map (·.1)).contains n=true)
  (hk:∀ n∈ks,(ns.take us.length++kw.map (·.1)).contains n=false -> ∃ d,fd.kwdefaults=.ref d/\nsIn K d n=some (some (kd n))) :
  Looks M h (bindArgs fd ⟨us,kw⟩) ((ns++ks).filterMap λn=>((ns.zip us++(kw++((ns.drop (ns.length - (od.getD #[]).toList.length)).zip (od.getD #[]).toList++ks.map λn=>(n,kd n)))).lookup n).map (n,·)):=by
 unfold bindArgs;simp! [h1,h2,h3,h4,h5,List.map_nil,List.nil_append,Option.isSome_none,Bool.false_eq_true,if_false];have e1:∀ (l:List (Str×Value)) (b:List (Str×Value)×List (Str×Value)),l.foldl (λb x=>(b.1++[x],b.2)) b=(b.1++l,b.2):=by
  intro l
  induction l with
  | nil=>intro b;simp
  | cons x l ih=>intro b;rw [List.foldl_cons,ih];simp
 refine Looks.andThen (a:=(ns.zip us++kw,[])) ?l1 ?l2
 case l1 =>
  have:=e1 kw (ns.zip us,[]);rw [<-this];refine dt (g:=λ(b:List (Str×Value)×List (Str×Value)) x=>(b.1++[x],b.2)) (λr b=>(∀ p∈r,(ns.contains p.1 || ks.contains p.1)=true)/\Cy (b.1.map (·.1)) (r.map (·.1))=true) ?_ kw _ ⟨hkw,by rw [cO];exact hf⟩
  rintro x r b ⟨q1,q2⟩;rw [List.map_cons,Cy,Bool.and_eq_true,Bool.not_eq_true'] at q2;refine ⟨?_,λp hp=>q1 p (HB _ hp),by rw [List.map_append];exact q2.2⟩
  rw [if_pos (q1 x List.mem_cons_self),iX q2.1];exact .now
 refine hd.andThen ?_;have hg : ¬ us.length > ns.length:=by omega
 generalize hds:(od.getD #[]).toList=ds at *;have e2:List.drop (ds.length - ns.length) ds=ds:=by rw [Nat.sub_eq_zero_of_le hdl,List.drop_zero]
 simp! [decide_eq_false hg,Bool.false_and,Bool.false_eq_true,if_false,e2];have e3:List.filter (λn=>((ns.zip us++kw).lookup n).isNone) (ns.take (ns.length - ds.length))=[]:=by
  rw [List.filter_eq_nil_iff];intro x hx;have:=fz (l:=ns.zip us++kw) (n:=x) (by rw [List.map_append,cO];exact hm x hx)
  cases q:(ns.zip us++kw).lookup x with
  | none=>rw [q] at this;cases this
  | some v=>simp
 simp! [e3,List.isEmpty_nil,Bool.not_true,Bool.false_eq_true,if_false];have e4:∀ (l:List Str) (b:List (Str×Value)×List Str),l.foldl (λ(b:List (Str×Value)×List Str) n=>(AQ b.1 (n,kd n),b.2)) b=((l.map λn=>(n,kd n)).foldl AQ b.1,b.2):=by
  intro l
  induction l with
  | nil=>intro b;rfl
  | cons x l ih=>intro b;rw [List.foldl_cons,ih];rfl
 refine Looks.andThen (a:=List.foldl AQ (ns.zip us++kw) ((ns.drop (ns.length - ds.length)).zip ds)) ?l3 ?l4
 case l3 =>
  refine dt (g:=AQ) (λ_ _=>True) ?_ _ _ trivial;rintro x r b -;refine ⟨?_,trivial⟩;unfold AQ;split
  .exact .now
  .exact .now
 refine Looks.andThen (a:=((ks.map λn=>(n,kd n)).foldl AQ (List.foldl AQ (ns.zip us++kw) ((ns.drop (ns.length - ds.length)).zip ds)),[])) ?l5 ?l6
 case l5 =>
  have:=e4 ks (List.foldl AQ (ns.zip us++kw) ((ns.drop (ns.length - ds.length)).zip ds),[]);rw [<-this];refine dt (g:=λ(b:List (Str×Value)×List Str) n=>(AQ b.1 (n,kd n),b.2)) (λr b => ∀ n∈r,(b.1.lookup n).isNone=true -> ∃ d,fd.kwdefaults=.ref d/\nsIn K d n=some (some (kd n))) ?_ ks _ ?_
  .intro x r b q
   refine ⟨?_,λn hn hi => ?_⟩
   .dsimp only [AQ]
    split
    .rename_i hi
     let ⟨d,d1,J3⟩:=q x List.mem_cons_self hi;rw [d1];exact (looks_nsIn X J3).andThen .now
    .exact .now
   .refine q n (HB _ hn) ?_
    have:=iw (n:=n) (b:=b.1) (x:=(x,kd x));dsimp only at hi;rw [this,be] at hi;cases e:b.1.lookup n with
    | none=>rfl
    | some v=>rw [e] at hi;cases hi
  .intro n hn hi
   refine hk n hn ?_;dsimp only at hi;rw [du,be] at hi;cases e:(ns.zip us++kw).lookup n with
   | some v=>rw [e] at hi;cases hi
   | none =>
    rw [Bool.eq_false_iff];intro z;have:=fz (l:=ns.zip us++kw) (n:=n) (by rw [List.map_append,cO];exact z)
    rw [e] at this;cases this
 simp! [List.isEmpty_nil,Bool.not_true,Bool.false_eq_true,if_false];have e5:∀ n,(List.foldl AQ (List.foldl AQ (ns.zip us++kw) ((ns.drop (ns.length - ds.length)).zip ds)) (ks.map λn=>(n,kd n))).lookup n=(ns.zip us++(kw++((ns.drop (ns.length - ds.length)).zip ds++ks.map λn=>(n,kd n)))).lookup n:=λn=>by
  rw [du,be,du,<-be];simp! [List.append_assoc]
 simp! [e5];exact .now
inductive F2{α β:Type}(R:α->β->Prop):List α->List β->Prop
 | nil:F2 R [] []
 | cons {a:α} {b:β} {l:List α} {m:List β}:R a b->F2 R l m->F2 R (a :: l) (b :: m)
section
variable{R:α->β->Prop}
def PR(R:α->β->Prop)(p:Str×α)(q:Str×β):Prop:=p.1=q.1/\R p.2 q.2
def F2.zip{l:List α}{m:List β}(h:F2 R l m):∀ ns:List Str,F2 (PR R) (ns.zip l) (ns.zip m):=by
 induction h with
 | nil=>intro ns;cases ns <;> exact .nil
 | cons r _ ih =>
  intro ns;cases ns with
  | nil=>exact .nil
  | cons n ns=>exact .cons ⟨rfl,r⟩ (ih ns)
def F2.append{l l':List α}{m m':List β}(h:F2 R l m)(h':F2 R l' m'):F2 R (l++l') (m++m'):=by
 induction h with
 | nil=>exact h'
 | cons r _ ih=>exact .cons r ih
def F2.lookup{l:List (Str×α)}{m:List (Str×β)}(h:F2 (PR R) l m)(n:Str):(l.lookup n=none/\m.lookup n=none) \/ ∃ a b,l.lookup n=some a/\m.lookup n=some b/\R a b:=by
 induction h with
 | nil=>exact .inl ⟨rfl,rfl⟩
 | @cons a b l m r _ ih =>
  let ⟨n1,a⟩:=a;let ⟨n2,b⟩:=b;let ⟨e,r⟩:=r;dsimp only at e r;subst e;rw [List.lookup_cons,List.lookup_cons];cases q:n == n1 with
  | true=>exact .inr ⟨a,b,rfl,rfl,r⟩
  | false=>exact ih
def F2.filterMap{f:Str->Option α}{f':Str->Option β}(h:∀ n,(f n=none/\f' n=none) \/ ∃ a b,f n=some a/\f' n=some b/\R a b):∀ ns:List Str,F2 R (ns.filterMap f) (ns.filterMap f')
 | [] => .nil
 | n :: ns=>by
  rw [List.filterMap_cons,List.filterMap_cons];rcases h n with ⟨a,b⟩ | ⟨x,y,a,b,r⟩
  .rw [a,b];exact F2.filterMap h ns
  .rw [a,b];exact .cons r (F2.filterMap h ns)
end
def cK{R:α->β->Prop}{ns kw:List Str}{dd:List (Str×α)}{dd':List (Str×β)}{us ws:List α}{us' ws':List β}(hd:F2 (PR R) dd dd')(hu:F2 R us us')(hw:F2 R ws ws'):F2 R (place ns ks kw dd us ws) (place ns ks kw dd' us' ws') :=
 F2.filterMap (λn=>((hu.zip ns).append ((hw.zip kw).append hd)).lookup n) _
def jk{α:Type}{f:Str->Option α}:∀ {ps:List Str},(ps.filterMap f).length=ps.length->(ps.filterMap λn=>(f n).map (n,·))=ps.zip (ps.filterMap f)
 | [],_=>rfl
 | n :: ps,h=>by
  rw [List.filterMap_cons] at h ⊢;rw [List.filterMap_cons];cases e:f n with
  | none =>
   rw [e] at h;have:=List.length_filterMap_le f ps;simp! [List.length_cons] at h;omega
  | some v =>
   rw [e] at h;simp! [Option.map_some,List.zip_cons_cons];rw [jk (by simpa using h)]
def fo{us:List U}:∀ {l pre post:List U},us=pre++(l++post)->F2 (λp u=>pick us p=u) ((List.range' pre.length l.length).map Sum.inl) l
 | [],_,_,_ => .nil
 | x :: l,pre,post,e=>by
  rw [List.length_cons,List.range'_succ,List.map_cons];refine .cons ?_ ?_
  .show us[pre.length]?.getD U.non=x
   rw [e,List.cons_append,List.getElem?_append_right (HA _)];simp
  .have:=fo (l:=l) (pre:=pre++[x]) (post:=post) (us:=us) (by rw [e];simp)
   simpa using this
def fq{F:KF}{np:Nat}{kw:List Str}{ws:List U}(h1:us.length=np)(h2:ws.length=kw.length):perm (us++ws) (BG F np kw)=place F.ns F.ks kw F.dd us ws:=by
 have key:∀ {l:List (Nat ⊕ U)} {m:List U},F2 (λp u=>pick (us++ws) p=u) l m->l.map (pick (us++ws))=m:=λ{l m} h=>by
  induction h with
  | nil=>rfl
  | cons r _ ih=>rw [List.map_cons,r,ih]
 refine key (cK ?_ ?_ ?_)
 .have:∀ l:List (Str×U),F2 (PR λp u=>pick (us++ws) p=u) (l.map λp=>(p.1,Sum.inr p.2)) l:=by
   intro l
   induction l with
   | nil=>exact .nil
   | cons x l ih=>exact .cons ⟨rfl,rfl⟩ ih
  exact this _
 .have:=fo (us:=us++ws) (l:=us) (pre:=[]) (post:=ws) #[3]
  rw [h1] at this;exact this
 .have:=fo (us:=us++ws) (l:=ws) (pre:=us) (post:=[]) #[3]
  rw [h1,h2] at this;exact this
def F2.vals{us:List Value}(h:Vals vs us):F2 RelV vs us:=by
 induction h with
 | nil=>exact .nil
 | cons r _ ih=>exact .cons r ih
def F2.toVals{us:List Value}(h:F2 RelV vs us):Vals vs us:=by
 induction h with
 | nil=>exact .nil
 | cons r _ ih=>exact .cons r ih
def F2.rvs{K:Frag}{ρ:List Addr}{H:Hp}:∀ {us:List U} {vs:List V},RVs K ρ H us vs->F2 (RV K ρ H) us vs
 | [],_,h=>by cases h;exact .nil
 | u :: us,_,h=>by let ⟨v,r,rfl,h1,h2⟩:=h;exact .cons h1 (F2.rvs h2)
def F2.toRvs{K:Frag}(h:F2 (RV K ρ H) us vs):RVs K ρ H us vs:=by
 induction h with
 | nil=>rfl
 | cons r _ ih=>exact ⟨_,_,rfl,r,ih⟩
structure KFok(K:Frag)(fd:FuncData)(F:KF)(nd:Nat)(ddV:List (Str×V))(dd:List (Str×Value)):Prop where
 h1:fd.params.posonlyargs=[]
 h2:fd.params.args.map (·.arg)=F.ns
 h3:fd.params.vararg=none
 h4:fd.params.kwonlyargs.map (·.arg)=F.ks
 h5:fd.params.kwarg=none
 ds:∃ (dsv:List Value) (kd:Str->Value),(∀ (M:Model) (h:Heap),K.In h -> ∃ od:Option (Array Value),(od.getD #[]).toList=dsv/\Looks M h (seqItems? fd.defaults) od)/\dsv.length=nd/\nd<=F.ns.length /\
  (∀ n∈F.ks,∃ d,fd.kwdefaults=.ref d/\nsIn K d n=some (some (kd n)))/\dd=(F.ns.drop (F.ns.length - nd)).zip dsv++F.ks.map λn=>(n,kd n)
 rel:F2 (PR RelV) ddV dd
 urel:F2 (PR λu v => ∀ ρ H,RV K ρ H u v) F.dd ddV
def KFok.binds{K:Frag}{F:KF}{nd np:Nat}{kw:List Str}(O:KFok K fd F nd ddV dd)(hs:By F nd np kw=true)(hne:F.ns++F.ks≠[]):
  KBinds K fd (F.ns++F.ks) kw (λus ws=>if us.length=np/\ws.length=kw.length then place F.ns F.ks kw dd us ws else []) (λvs zs=>if vs.length=np/\zs.length=kw.length then place F.ns F.ks kw ddV vs zs else []):=by
 refine ⟨λs us ws X hl => ?_,λ{vs us zs ws} r1 r2 => ?_⟩
 .split at hl
  .rename_i hc
   let ⟨c1,c2⟩:=hc;rw [if_pos ⟨c1,c2⟩];simp! [By,Bool.and_eq_true,decide_eq_true_eq,List.all_eq_true] at hs;let ⟨⟨⟨s1,s2⟩,s3⟩,s4⟩:=hs;let ⟨dsv,kd,L,l1,l2,l3,l4⟩:=O.ds;have kz:(kw.zip ws).map (·.1)=kw:=by rw [cO,c2,List.take_length]
   intro M A E Q q;let ⟨od,Kk,Ld⟩:=L M s.heap X;have:=uJ (M:=M) (us:=us) (kw:=kw.zip ws) (kd:=kd) X O.h1 O.h2 O.h3 O.h4 O.h5 Ld (by rw [Kk,l1];exact l2) (by rw [c1];exact s1)
    (λp hp=>by have:=s2 p.1 (by rw [<-kz];exact List.mem_map_of_mem hp);simpa using this) (by rw [c1,kz];exact s3) (λn hn=>by rw [Kk,l1] at hn;rw [c1,kz];exact s4 n hn) (λn hn _=>l3 n hn)
   refine this.here ?_;rw [Kk,l1,<-l4];rw [jk (by exact hl)]
   exact q
  .exact absurd (List.length_eq_zero_iff.mp hl.symm) hne
 .have e1:=r1.length
  have e2:=r2.length;rw [e1,e2];split
  .exact (cK O.rel (.vals r1) (.vals r2)).toVals
  .exact .nil
open PySem PySem.Spec PyProof.Rows L2
section
def bK{a b:List Int}:(a.map (Sum.inl:Int->Key)=b.map Sum.inl) ↔ a=b :=
 ⟨λh=>(List.map_inj_right (λx y e=>Sum.inl.inj e)).mp h,λh=>by rw [h]⟩
def RD.val(k:List Int):∀ {kvs:List (List Int×U)} {ws:List (List Key×V)},RD K ρ H kvs ws->(AK ws (k.map Sum.inl)).isSome=(Ao kvs k).isSome
 | [],_,h=>by cases h;rfl
 | (k',u) :: r,_,h=>by
  let ⟨v,s,rfl,h1,h2⟩:=h;by_cases e:k'=k
  .rw [b9 (bK.mpr e)]
   simp [Ao,List.find?_cons,e]
  .rw [b5 (λz=>e (bK.mp z)),RD.val k h2]
   simp [Ao,List.find?_cons,e]
def RD.got(k:List Int){u:U}:∀ {kvs:List (List Int×U)} {ws:List (List Key×V)},RD K ρ H kvs ws->Ao kvs k=some u -> ∃ v,AK ws (k.map Sum.inl)=some v/\RV K ρ H u v
 | [],_,h,e=>by cases e
 | (k',u') :: r,_,h,e=>by
  let ⟨v,s,rfl,h1,h2⟩:=h;by_cases z:k'=k
  .rw [b9 (bK.mpr z)]
   simp [Ao,List.find?_cons,z] at e;subst e;exact ⟨v,rfl,h1⟩
  .rw [b5 (λy=>z (bK.mp y))]
   exact RD.got k h2 (by simpa [Ao,List.find?_cons,z] using e)
def RD.at:∀ {kvs:List (List Int×U)} {ws:List (List Key×V)} {i:Nat} {k:List Int} {u:U},RD K ρ H kvs ws->kvs[i]? = some (k,u) -> ∃ v,ws[i]? = some (k.map Sum.inl,v)/\RV K ρ H u v
 | [],_,_,_,_,_,e=>by simp at e
 | (k',u') :: r,_,0,k,u,h,e=>by
  let ⟨v,s,rfl,h1,h2⟩:=h;simp at e;let ⟨rfl,rfl⟩:=e;exact ⟨v,by simp,h1⟩
 | (k',u') :: r,_,i+1,k,u,h,e=>by
  let ⟨v,s,rfl,h1,h2⟩:=h;let ⟨x,e1,e2⟩:=RD.at (i:=i) h2 (by simpa using e)
  exact ⟨x,by simpa using e1,e2⟩
def RD.any(k:List Int):∀ {kvs:List (List Int×U)} {ws:List (List Key×V)},RD K ρ H kvs ws->(ws.any λkv=>decide (kv.1=k.map Sum.inl))=kvs.any λkv=>decide (kv.1=k)
 | [],_,h=>by cases h;rfl
 | (k',u) :: r,_,h=>by
  let ⟨v,s,rfl,h1,h2⟩:=h;rw [List.any_cons,List.any_cons,RD.any k h2];congr 1;exact decide_eq_decide.mpr bK
def RD.len:∀ {kvs:List (List Int×U)} {ws:List (List Key×V)},RD K ρ H kvs ws->kvs.length=ws.length
 | [],_,h=>by cases h;rfl
 | (k',u) :: r,_,h=>by
  let ⟨v,s,rfl,h1,h2⟩:=h;simp [RD.len h2]
def RD.snoc{k:List Int}{u:U}{v:V}(q:RV K ρ H u v):∀ {kvs:List (List Int×U)} {ws:List (List Key×V)},RD K ρ H kvs ws->RD K ρ H (kvs++[(k,u)]) (ws++[(k.map Sum.inl,v)])
 | [],_,h=>by cases h;exact ⟨v,[],rfl,q,rfl⟩
 | (k',u') :: r,_,h=>by
  let ⟨w,s,rfl,h1,h2⟩:=h;exact ⟨w,_,rfl,h1,RD.snoc q h2⟩
def RD.repl{k:List Int}{u:U}{v:V}(q:RV K ρ H u v):∀ {kvs:List (List Int×U)} {ws:List (List Key×V)},RD K ρ H kvs ws ->
  RD K ρ H (kvs.map λkv=>if kv.1=k then (kv.1,u) else kv) (ws.map λkv=>if kv.1=k.map Sum.inl then (kv.1,v) else kv)
 | [],_,h=>by cases h;rfl
 | (k',u') :: r,_,h=>by
  let ⟨w,s,rfl,h1,h2⟩:=h;rw [List.map_cons,List.map_cons];by_cases e:k'=k
  .rw [if_pos e,if_pos (bK.mpr e)];exact ⟨v,_,rfl,q,RD.repl q h2⟩
  .rw [if_neg e,if_neg (λz=>e (bK.mp z))];exact ⟨w,_,rfl,h1,RD.repl q h2⟩
def RD.put{k:List Int}{v:V}(q:RV K ρ H u v){ws:List (List Key×V)}(h:RD K ρ H kvs ws):RD K ρ H (dput kvs k u) (putK ws (k.map Sum.inl) v):=by
 unfold dput putK;rw [h.any k];split
 .exact h.repl q
 .exact h.snoc q
def RK.len:∀ {kvs:List (Str×U)} {ws:List (Key×V)},RK K ρ H kvs ws->kvs.length=ws.length
 | [],_,h=>by cases h;rfl
 | (k',u) :: r,_,h=>by
  let ⟨v,s,rfl,h1,h2⟩:=h;simp [RK.len h2]
def RK.got(k:Str){u:U}:∀ {kvs:List (Str×U)} {ws:List (Key×V)},RK K ρ H kvs ws->AU kvs k=some u -> ∃ v,AK ws (Sum.inr k)=some v/\RV K ρ H u v
 | [],_,h,e=>by cases e
 | (k',u') :: r,_,h,e=>by
  let ⟨v,s,rfl,h1,h2⟩:=h;by_cases z:k'=k
  .rw [b9 (congrArg Sum.inr z)]
   simp [AU,List.find?_cons,z] at e;subst e;exact ⟨v,rfl,h1⟩
  .rw [b5 (λy=>z (Sum.inr.inj y))]
   exact RK.got k h2 (by simpa [AU,List.find?_cons,z] using e)
def RK.any(k:Str):∀ {kvs:List (Str×U)} {ws:List (Key×V)},RK K ρ H kvs ws->(ws.any λkv=>decide (kv.1=Sum.inr k))=kvs.any λkv=>decide (kv.1=k)
 | [],_,h=>by cases h;rfl
 | (k',u) :: r,_,h=>by
  let ⟨v,s,rfl,h1,h2⟩:=h;rw [List.any_cons,List.any_cons,RK.any k h2];congr 1;exact decide_eq_decide.mpr ⟨Sum.inr.inj,congrArg Sum.inr⟩
def RK.snoc{k:Str}{u:U}{v:V}(q:RV K ρ H u v):∀ {kvs:List (Str×U)} {ws:List (Key×V)},RK K ρ H kvs ws->RK K ρ H (kvs++[(k,u)]) (ws++[(Sum.inr k,v)])
 | [],_,h=>by cases h;exact ⟨v,[],rfl,q,rfl⟩
 | (k',u') :: r,_,h=>by
  let ⟨w,s,rfl,h1,h2⟩:=h;exact ⟨w,_,rfl,h1,RK.snoc q h2⟩
def RK.repl{k:Str}{u:U}{v:V}(q:RV K ρ H u v):∀ {kvs:List (Str×U)} {ws:List (Key×V)},RK K ρ H kvs ws ->
  RK K ρ H (kvs.map λkv=>if kv.1=k then (kv.1,u) else kv) (ws.map λkv=>if kv.1=Sum.inr k then (kv.1,v) else kv)
 | [],_,h=>by cases h;rfl
 | (k',u') :: r,_,h=>by
  let ⟨w,s,rfl,h1,h2⟩:=h;rw [List.map_cons,List.map_cons];by_cases e:k'=k
  .rw [if_pos e,if_pos (congrArg Sum.inr e)];exact ⟨v,_,rfl,q,RK.repl q h2⟩
  .rw [if_neg e,if_neg (λz=>e (Sum.inr.inj z))];exact ⟨w,_,rfl,h1,RK.repl q h2⟩
def RK.put{k:Str}{v:V}(q:RV K ρ H u v){kvs:List (Str×U)}{ws:List (Key×V)}(h:RK K ρ H kvs ws):RK K ρ H (Ep kvs k u) (putK ws (Sum.inr k) v):=by
 unfold Ep putK;rw [h.any k];split
 .exact h.repl q
 .exact h.snoc q
def z8{y:U}{vy:V}{kvs:List (Str×U)}(hg:RH K ρ H g)(ry:RV K ρ H y vy)(e:IZ y g=some kvs):∃ n a ws,y=.ref n/\g[n]? = some (.dst kvs)/\ρ[n]? = some a/\vy=.ref a/\H a=some (.dK ws)/\RK K ρ H kvs ws:=by
 cases y with
 | ref n =>
  simp! [IZ] at e;cases eg:g[n]? with
  | none=>rw [eg] at e;cases e
  | some ob =>
   cases ob with
   | dst kvs' =>
    rw [eg] at e;cases e;let ⟨a,ws,hn,ha,rk⟩:=hg.dst eg;let ⟨a',rfl,hn'⟩:=ry;rw [hn] at hn';cases hn';exact ⟨n,_,ws,rfl,eg,hn,rfl,ha,rk⟩
   | _=>rw [eg] at e;cases e
 | _=>cases e
def dU:∀ {us:List U} {ns:List Int} {vs:List V},intsOf us=some ns->RVs K ρ H us vs->vs=ns.map V.int
 | [],_,_,e,h=>by cases e;cases h;rfl
 | u :: us,ns,vs,e,h=>by
  let ⟨v,r,rfl,h1,h2⟩:=h;cases u with
  | int i =>
   simp! [intsOf] at e;let ⟨m,e1,rfl⟩:=Option.map_eq_some_iff.mp e;cases h1;rw [dU e1 h2];rfl
  | _=>cases e
def eP{x:U}{v:V}{k:List Int}(e:keyOf x=some k)(r:RV K ρ H x v):∃ b,v=.ref b/\H b=some (.tup ((k.map Sum.inl).map Ic)):=by
 cases x with
 | tup us =>
  let ⟨a,vs,rfl,h1,h2⟩:=r;refine ⟨a,rfl,?_⟩;rw [show H a=some (.tup vs) from h1,dU e h2,List.map_map]
  rfl
 | _=>cases e
def dX{x y:U}{vx vy:V}{o:Option U}(hg:RH K ρ H g)(rx:RV K ρ H x vx)(ry:RV K ρ H y vy)(e:Aj x y g=some o):∃ a ov,vy=.ref a/\DGet H a vx ov/\ov.isSome=o.isSome /\ ∀ u,o=some u -> ∃ v,ov=some v/\RV K ρ H u v:=by
 unfold Aj at e;cases ed:I0 y g with
 | none=>rw [ed] at e;cases e
 | some kvs =>
  rw [ed] at e;let ⟨k,ek,rfl⟩:=Option.map_eq_some_iff.mp e;cases y with
  | ref n =>
   simp! [I0] at ed;cases eg:g[n]? with
   | none=>rw [eg] at ed;cases ed
   | some ob =>
    cases ob with
    | dic kvs' =>
     rw [eg] at ed;cases ed;let ⟨a,ws,hn,ha,rd⟩:=hg.dic eg;let ⟨a',rfl,hn'⟩:=ry;rw [hn] at hn';cases hn';let ⟨b,rfl,hb⟩:=eP ek rx;exact ⟨a,_,rfl,DGet.t ha hb,rd.val k,λu z=>rd.got k z⟩
    | dif kvs' =>
     rw [eg] at ed;cases ed;let ⟨a,ob,ws,hn,ha,rd⟩:=hg.dif eg;let ⟨a',rfl,hn'⟩:=ry;rw [hn] at hn';cases hn';let ⟨b,rfl,hb⟩:=eP ek rx;exact ⟨a,_,rfl,.inr ⟨ws,_,b,.inr ⟨ob,ha⟩,rfl,hb,rfl⟩,rd.val k,λu z=>rd.got k z⟩
    | _=>rw [eg] at ed;cases ed
  | _=>cases ed
end
section
def z7(hu:X.A.units+1 < cLine):OpR X (compareOp .In) (λy x H Q => ∃ a o,x=.ref a/\DGet H a y o/\Q (.bl o.isSome) H):=by
 intro pins s σ H y x v u Q I ry rx ⟨a,o,e,g,q⟩;subst e;obtain rfl:u=Value.ref a:=rx;exact d_in hu I g ry λs3 I3=>⟨.bl o.isSome,H,I3,rfl,q⟩
def zg(hu:X.A.units+1 < cLine):OpR X (compareOp .NotIn) (λy x H Q => ∃ a o,x=.ref a/\DGet H a y o/\Q (.bl (!o.isSome)) H):=by
 intro pins s σ H y x v u Q I ry rx ⟨a,o,e,g,q⟩;subst e;obtain rfl:u=Value.ref a:=rx;exact xE hu I g ry λs3 I3=>⟨.bl (!o.isSome),H,I3,rfl,q⟩
def mY{r r':R2}(h:OpR X f r)(h':OpR X f r'):OpR X f (λx y H Q=>r x y H Q\/r' x y H Q):=λpins s σ H x y v u Q I rx ry q =>
 q.elim (λq=>h pins s σ H x y v u Q I rx ry q) λq=>h' pins s σ H x y v u Q I rx ry q
def ady{σ:L2.St}{b:Addr}{kvs:List (List Key×V)}{k:List Key}{v:V}{r:Value}{E:Value->Shared->Prop}{Q:Unit->Shared->Prop}(hu:X.A.units+1 < cLine)(I:L2.Inv X pins σ H s)(e:H a=some (.dT kvs))(eb:H b=some (.tup (k.map Ic)))(l:kvs.length < sizeLine)(rv:RelV v r)
  (h:∀ s',L2.Inv X pins σ (upd H a (.dT (putK kvs k v))) s'->Q .unit s'):wpAny #[5] X.A (dictSet a (.ref b) r) Q E s:=by
 let ⟨z,hd,xs,rel,dd⟩:=rN I.hok e;refine wpAny_dictSet_heap (hsz:=by rw [<-Paired.length rel];exact z) (by exact Nat.lt_of_succ_lt hu) (bM I.hok eb) dd λh' dd' hs=>h _ ?_
 let ⟨q,es,ep,hq,h2,h3,h4,_,h5⟩:=dd';refine eJ I (by rw [e];exact True.intro) hs ⟨q,hq⟩ ⟨by have:=dv kvs k v;omega,hd,_,(rel.put k eb rv).keeps λc ys ec => ?_,q,es,ep,hq,h2,h3,h4,h5⟩
 rw [ae (cH ec e (λz=>nomatch z))];exact ec
def Hv:CO:=λo i v H Q => ∃ a H',o=.ref a/\DPut H a i v H'/\Q H'
def set_dict(hu:X.A.units+1 < cLine):Cn X Hv:=by
 intro pins s σ H o i v ov iv u Q I ro ri rv ⟨a,H',e,g,q⟩;subst e;obtain rfl:ov=Value.ref a:=ro;exact vD hu I g ri rv λs4 I4=>⟨H',I4,q⟩
def yC{r r':CO}(h:Cn X r)(h':Cn X r'):Cn X (λo i v H Q=>r o i v H Q\/r' o i v H Q):=λpins s σ H o i v ov iv u Q I ro ri rv q =>
 q.elim (λq=>h pins s σ H o i v ov iv u Q I ro ri rv q) λq=>h' pins s σ H o i v ov iv u Q I ro ri rv q
end
def jQ(m:Bool):∀ (r:List Int) (a:Int),best m a r∈a :: r
 | [],a=>by simp [best]
 | b :: r,a=>by
  have:=jQ m r (if m then (if b < a then b else a) else (if b > a then b else a))
  simp! [best,List.foldl_cons] at *;simp! [List.mem_cons] at this ⊢;rcases this with h | h
  .rw [h];cases m <;> simp! [if_true,Bool.false_eq_true,if_false] <;> split <;> simp
  .exact .inr (.inr h)
def j7:∀ (r:List Int) (a:Int),∀ x∈a :: r,best true a r<=x
 | [],a,x,h=>by simp [best] at *;omega
 | b :: r,a,x,h=>by
  have ih:=j7 r (if b < a then b else a)
  simp! [best,List.foldl_cons,if_true] at *;have h0:=ih _ (List.mem_cons_self);rcases List.mem_cons.mp h with rfl | h
  .exact Int.le_trans h0 (by split <;> omega)
  .rcases List.mem_cons.mp h with rfl | h
   .exact Int.le_trans h0 (by split <;> omega)
   .exact ih x (HB _ h)
def jM:∀ (r:List Int) (a:Int),∀ x∈a :: r,x<=best false a r
 | [],a,x,h=>by simp [best] at *;omega
 | b :: r,a,x,h=>by
  have ih:=jM r (if b > a then b else a)
  simp! [best,List.foldl_cons,Bool.false_eq_true,if_false] at *;have h0:=ih _ (List.mem_cons_self);rcases List.mem_cons.mp h with rfl | h
  .exact Int.le_trans (by split <;> omega) h0
  .rcases List.mem_cons.mp h with rfl | h
   .exact Int.le_trans (by split <;> omega) h0
   .exact ih x (HB _ h)
def fX:∀ {ns:List Int} {us:List Value},Vals (ns.map V.int) us->IntsAre us ns
 | [],us,h=>by cases h;exact .nil
 | n :: ns,us,h=>by
  cases h with
  | cons r t =>
   let ⟨k,rfl⟩:=r;exact .cons n k (fX t)
section
variable{E:Value->Shared->Prop}{l:Addr}{vs:List Value}{Q:Value->Shared->Prop}
def minL(hh:A.handled=none)(hl:s.heap.IsList l vs.toArray)(hi:IntsAre vs ns)(hne:0 < ns.length)
  (h:∀ h' M (t:Tok) tk,(∀ b o,s.heap.get? b=some o->h'.get? b=some o)->M∈ns->(∀ a,a∈ns->M<=a)->Q (.int M t) { s with heap:=h',toks:=tk }):wpAny #[12] A (call (.builtin "min") [.ref l]) Q E s:=by
 let ⟨xs,e⟩:=hi.allInts.items;have hns:ns=xs.toList.map (·.1):=by rw [<-hi.numsOf,<-nums_intItems,<-e]
 have hsz:0 < xs.size:=by have h3:=hne;rw [hns,List.length_map,Array.length_toList] at h3;exact h3
 rw [e] at hl;refine min_intList hh hl hsz λv h' tk hv hk => ?_;let ⟨t,rfl⟩:=intItems_at hv;let ⟨h1,h2⟩:=argBest_lt (numAt xs) (xs.size - 1);refine h _ _ t tk hk ?_ λa ha => ?_
 .rw [hns,numAt_eq];exact getD_mem (by rw [List.length_map,Array.length_toList];omega)
 .rw [hns] at ha
  let ⟨j,hj,rfl⟩:=mem_getD ha;rw [List.length_map,Array.length_toList] at hj;rw [<-numAt_eq];exact h2 j ()
def maxL(hh:A.handled=none)(hl:s.heap.IsList l vs.toArray)(hi:IntsAre vs ns)(hne:0 < ns.length)
  (h:∀ h' M (t:Tok) tk,(∀ b o,s.heap.get? b=some o->h'.get? b=some o)->M∈ns->(∀ a,a∈ns->a<=M)->Q (.int M t) { s with heap:=h',toks:=tk }):wpAny #[12] A (call (.builtin "max") [.ref l]) Q E s:=by
 let ⟨xs,e⟩:=hi.allInts.items;have hns:ns=xs.toList.map (·.1):=by rw [<-hi.numsOf,<-nums_intItems,<-e]
 have hsz:0 < xs.size:=by have h3:=hne;rw [hns,List.length_map,Array.length_toList] at h3;exact h3
 rw [e] at hl;refine max_intList hh hl hsz λv h' tk hv hk => ?_;let ⟨t,rfl⟩:=intItems_at hv;let ⟨h1,h2⟩:=argBest_gt (numAt xs) (xs.size - 1);refine h _ _ t tk hk ?_ λa ha => ?_
 .rw [hns,numAt_eq];exact getD_mem (by rw [List.length_map,Array.length_toList];omega)
 .rw [hns] at ha
  let ⟨j,hj,rfl⟩:=mem_getD ha;rw [List.length_map,Array.length_toList] at hj;rw [<-numAt_eq];exact h2 j ()
end
section
def Jy(m:Bool):List V->Hp->VK->Prop:=λxs H Q=>(∃ i j,xs=[.int i,.int j]/\Q (.int (best m i [j])) H)\/(∃ i j k,xs=[.int i,.int j,.int k]/\Q (.int (best m i [j,k])) H) \/
 ∃ p i ns,xs=[.ref p]/\H p=some (.lst ((i :: ns).map V.int))/\Q (.int (best m i ns)) H
def lW{m:Bool}{i M:Int}(h1:M∈i :: ns)(h2:∀ a,a∈i :: ns->if m then M<=a else a<=M):M=best m i ns:=by
 have a:=h2 _ (jQ m ns i);cases m with
 | true=>exact Int.le_antisymm (by simpa using a) (j7 ns i M h1)
 | false=>exact Int.le_antisymm (jM ns i M h1) (by simpa using a)
def call_mn(hc:X.calm=true):CallR X (.builtin "min") (Jy true):=by
 intro pins s σ H xs us Q I r h;rcases h with ⟨i,j,rfl,q⟩ | ⟨i,j,k,rfl,q⟩ | ⟨p,i,ns,rfl,hp,q⟩
 .exact vS hc pins s σ H _ us Q I r ⟨i,j,rfl,q⟩
 .cases r with
  | cons r1 r =>
   cases r with
   | cons r2 r =>
    cases r with
    | cons r3 r =>
     cases r;let ⟨t,rfl⟩:=r1;let ⟨u,rfl⟩:=r2;let ⟨x,rfl⟩:=r3;refine min_three_ints #[34] λh' tk kk=>⟨_,H,I.kept kk,?_,q⟩;simp! [best,List.foldl_cons,List.foldl_nil,if_true];split <;> split <;> exact ⟨_,rfl⟩
 .obtain ⟨u,rfl,rx⟩:=vals1 r
  cases rx;let ⟨its,rv,pl,hz⟩:=I.list (SqL.of hp);exact minL #[34] pl.isList (fX rv) (Nat.succ_pos _) λh' M t tk kk h1 h2=>⟨.int M,H,I.kept kk,⟨t,rfl⟩,by rw [lW (m:=true) h1 (by simpa using h2)];exact q⟩
def call_mx(hc:X.calm=true):CallR X (.builtin "max") (Jy false):=by
 intro pins s σ H xs us Q I r h;rcases h with ⟨i,j,rfl,q⟩ | ⟨i,j,k,rfl,q⟩ | ⟨p,i,ns,rfl,hp,q⟩
 .exact vq hc pins s σ H _ us Q I r ⟨i,j,rfl,q⟩
 .cases r with
  | cons r1 r =>
   cases r with
   | cons r2 r =>
    cases r with
    | cons r3 r =>
     cases r;let ⟨t,rfl⟩:=r1;let ⟨u,rfl⟩:=r2;let ⟨x,rfl⟩:=r3;refine max_three_ints #[34] λh' tk kk=>⟨_,H,I.kept kk,?_,q⟩;simp! [best,List.foldl_cons,List.foldl_nil,Bool.false_eq_true,if_false];split <;> split <;> exact ⟨_,rfl⟩
 .obtain ⟨u,rfl,rx⟩:=vals1 r
  cases rx;let ⟨its,rv,pl,hz⟩:=I.list (SqL.of hp);exact maxL #[34] pl.isList (fX rv) (Nat.succ_pos _) λh' M t tk kk h1 h2=>⟨.int M,H,I.kept kk,⟨t,rfl⟩,by rw [lW (m:=false) h1 (by simpa using h2)];exact q⟩
end
section
def ab7(hu:X.A.units+2 < cLine):OpR X (compareOp .NotEq) (λx y H Q => ∃ ρ us ws b,RV X.K ρ H (.tup us) x/\RV X.K ρ H (.tup ws) y/\qs IV us ws=some b/\Q (.bl (!b)) H):=by
 intro pins s σ H x y v u Q I rx ry ⟨ρ,us,ws,b,r1,r2,e,q⟩;let ⟨a,xs,rfl,h1,h2⟩:=r1;let ⟨a',ys,rfl,h3,h4⟩:=r2;cases rx;cases ry;let ⟨its,q1,p1,_⟩:=I.tuple h1.sq;let ⟨its',q2,p2,_⟩:=I.tuple h3.sq;let ⟨f,l,hf,hd⟩:=dY (A:=X.A.in1) (s:=s) (λu w x y v v' b q1 q2 q3 q4 q5=>gX (A:=X.A.in1) I (show X.A.units+1 < cLine by omega) q1 q2 q3 q4 q5) h2 h4 q1 q2 e
 refine SeqAt.RcNeAt.tuples (A:=X.A) (s:=s) (l:=a) (b:=a') (items:=its.toArray) (items2:=its'.toArray) (e:=f) p1 p2 () (λj h1 h2=>by simpa using hf j (by simpa using h1) (by simpa using h2)) X.prog X.w X.xe _ ⟨.bl (!b),H,I,?_,q⟩
 have e2:(#[43].all f && its.toArray.size == its'.toArray.size)=b:=by simp [<-l,hd]
 rw [e2]
 rfl
end
section
variable{W:XQ}{σ:L2.St}
def kQ{K:HG}:∀ {us:List U} {is:List Int} {vs:List V},B8 us=some is->RVs K ρ H us vs->vs=is.map V.int
 | [],_,_,e,r=>by cases e;exact r
 | u :: us,is,vs,e,r=>by
  let ⟨i,e1,e2⟩:=Option.bind_eq_some_iff.mp e;let ⟨js,e3,rfl⟩:=Option.map_eq_some_iff.mp e2;let ⟨v,r,rfl,h1,h2⟩:=r;cases u <;> first | (cases e1;done) | skip
  cases e1;cases h1;rw [kQ e3 h2];rfl
def lu{h:Heap}:∀ {is:List Int} {its:List Value},Vals (is.map V.int) its->ReadsAll h its (is.map PyData.int) []
 | [],_,r=>by cases r;exact .nil
 | i :: is,_,r=>by
  cases r with
  | cons r1 r2 =>
   let ⟨t,rfl⟩:=r1;exact .cons (as:=[]) (.int i t) (lu r2)
def eX(I:Inv X pins σ H s)(hg:RH X.K ρ H g){x:V}{v:Value}(e:g[n]? = some (.lst us))(r:RV X.K ρ H (.ref n) x)(rx:RelV x v):∃ (a:Addr) (vs:List V) (its:List Value),ρ[n]? = some a/\v=.ref a/\RVs X.K ρ H us vs/\Vals vs its/\s.heap.IsList a its.toArray:=by
 let ⟨a,vs,c1,c2,c3⟩:=hg.lst e;let ⟨a',rfl,z⟩:=r;rw [c1] at z;cases z;cases rx;let ⟨its,q1,p1,_⟩:=I.list (.of c2);exact ⟨a,vs,its,c1,rfl,c3,q1,p1.isList⟩
def vJ{is:List Int}(e:Br u g=some is):∃ n us,u=.ref n/\g[n]? = some (.lst us)/\B8 us=some is:=by
 cases u <;> first | (cases e;done) | skip
 rename_i n;unfold Br at e;cases q:g[n]? with
 | none=>simp! [q] at e;cases e
 | some o =>
  simp! [q] at e;cases o <;> first | (cases e;done) | skip
  exact ⟨n,_,rfl,q,e⟩
def fI{d:List #[26]}(e:Ba u g=some d):∃ n us,u=.ref n/\g[n]? = some (.lst us)/\BU g us=some d:=by
 cases u <;> first | (cases e;done) | skip
 rename_i n;unfold Ba at e;cases q:g[n]? with
 | none=>simp! [q] at e;cases e
 | some o =>
  simp! [q] at e;cases o <;> first | (cases e;done) | skip
  exact ⟨n,_,rfl,q,e⟩
def gw(I:Inv X pins σ H s)(hg:RH X.K ρ H g){is:List Int}{x:V}{v:Value}(e:Br u g=some is)(r:RV X.K ρ H u x)(rx:RelV x v):∃ (n:Nat) (a:Addr) (its:List Value),u=.ref n/\ρ[n]? = some a/\v=.ref a/\Vals (is.map V.int) its/\s.heap.IsList a its.toArray:=by
 let ⟨n,us,rfl,q,e⟩:=vJ e;let ⟨a,vs,its,c1,c2,c3,c4,c5⟩:=eX I hg q r rx;rw [kQ e c3] at c4;exact ⟨n,a,its,rfl,c1,c2,c4,c5⟩
def lH(I:Inv X pins σ H s)(hg:RH X.K ρ H g):∀ {us:List U} {d:List #[26]} {vs:List V} {its:List Value},BU g us=some d->RVs X.K ρ H us vs->Vals vs its -> ∃ as,ReadsAll s.heap its (d.map λr=>PyData.list (r.map .int)) as
 | [],_,_,_,e,r,q=>by cases e;cases r;cases q;exact ⟨[],.nil⟩
 | u :: us,d,vs,its,e,r,q=>by
  let ⟨i,e1,e2⟩:=Option.bind_eq_some_iff.mp e;let ⟨js,e3,rfl⟩:=Option.map_eq_some_iff.mp e2;let ⟨v,r,rfl,h1,h2⟩:=r;cases q with
  | cons q1 q2 =>
   let ⟨n,a,it,_,_,rfl,k1,o,k2,k3,m,k4⟩:=gw I hg e1 h1 q1;let ⟨as,z⟩:=lH I hg e3 h2 q2;exact ⟨_,.cons (.list k2 k3 k4 (lu k1)) z⟩
def wo(d:List #[26]):(AG d).hasDict=false:=by
 have h1:∀ r:List Int,PyData.hasDictAll (r.map PyData.int)=false:=λr=>by induction r with | nil=>rfl | cons i r ih=>simp [PyData.hasDictAll,PyData.hasDict,ih]
 have h2:∀ d:List #[26],PyData.hasDictAll (d.map λr=>PyData.list (r.map .int))=false:=λd=>by induction d with | nil=>rfl | cons r d ih=>simp [PyData.hasDictAll,PyData.hasDict,ih,h1]
 simp! [AG,PyData.hasDict,h2]
def v9(d:List #[26]):(AG d).depth<=2:=by
 have h1:∀ r:List Int,PyData.depthAll (r.map PyData.int)=0:=λr=>by induction r with | nil=>rfl | cons i r ih=>simp [PyData.depthAll,PyData.depth,ih]
 have h2:∀ d:List #[26],PyData.depthAll (d.map λr=>PyData.list (r.map .int))<=1:=λd=>by
  induction d with
  | nil=>exact Nat.zero_le _
  | cons r d ih=>simp! [List.map_cons,PyData.depthAll,PyData.depth,h1];omega
 have:=h2 d;simp! [AG,PyData.depth];omega
inductive RprX(X:Cx)(xs:List V)(H:Hp)(Q:VK):Prop
 | mk (ρ:List Addr) (g:G) (u:U) (x:V) (d:List #[26]) (e:xs=[x]) (hg:RH X.K ρ H g) (r:RV X.K ρ H u x) (er:Ba u g=some d) (h1:(AG d).showable=true) (h2:(AG d).shown.length<=sizeLine) (q:Q (.str (AG d).shown) H)
def call_rpr(hgd:X.A.guards=some [])(hu:X.A.units+64 < cLine):CallR X (.builtin "repr") (RprX X):=by
 intro pins s σ H xs us Q I rs ⟨ρ,g,u,x,d,e,hg,r,er,h1,h2,q⟩;subst e;let ⟨v,rfl,rx⟩:=vals1 rs;let ⟨n,ws,rfl,hq,er⟩:=fI er;let ⟨a,vs,its,_,rfl,c3,q1,o,k2,k3,m,k4⟩:=eX I hg hq r rx;let ⟨as,z⟩:=lH I hg er c3 q1;have hd:=v9 d;exact repr_of_reads' (d:=AG d) (.list k2 k3 k4 z) h1 (λy=>by rw [wo] at y;cases y) hgd () (λ_ _ e=>e) (λh' t tk k=>⟨.str (AG d).shown,H,I.kept k,⟨_,rfl⟩,q⟩) h2
def imp_rpr(ρ:List Addr)(H:Hp)(g:G)(us:List U)(xs:List V)(Q:VK)(hg:RH X.K ρ H g)(rs:RVs X.K ρ H us xs)(p:post X.K W (RV X.K) (Jf .rpr us g) ρ H Q):RprX X xs H Q:=by
 match us,rs with
 | [u],rs =>
  let ⟨x,r',rfl,r1,e⟩:=rs;cases e;simp! [Jf,C8] at p;cases ed:Ba u g with
  | none=>simp! [ed] at p;exact p.elim
  | some d =>
   simp! [ed] at p;by_cases hk:(AG d).showable=true/\(AG d).shown.length<=sizeLine
   .rw [if_pos hk] at p
    exact ⟨ρ,g,u,x,d,rfl,hg,r1,ed,hk.1,hk.2,post.okHere p hg rfl⟩
   .rw [if_neg hk] at p;exact p.elim
 | [],rs=>exact p.elim
 | _ :: _ :: _,rs=>exact p.elim
def GG:List V->Hp->VK->Prop:=λxs H Q => ∃ b:Bool,xs=[.bl b]/\Q (.int (if b then 1 else 0)) H
def call_int1:CallR X (.type "int") GG:=by
 intro pins s σ H xs us Q I rs ⟨b,e,q⟩;subst e;let ⟨v,rfl,rx⟩:=vals1 rs;cases rx;exact call_int_bool ⟨.int (if b then 1 else 0),H,I.tok _,⟨_,rfl⟩,q⟩
def imp_int1(ρ:List Addr)(H:Hp)(g:G)(us:List U)(xs:List V)(Q:VK)(hg:RH X.K ρ H g)(rs:RVs X.K ρ H us xs)(p:post X.K W (RV X.K) (Jf .int us g) ρ H Q):GG xs H Q:=by
 match us,rs with
 | [u],rs =>
  let ⟨x,r',rfl,r1,e⟩:=rs;cases e;simp! [Jf,C5] at p;cases u <;> first | exact p.elim | skip
  cases r1;exact ⟨_,rfl,post.okHere p hg rfl⟩
 | [],rs=>exact p.elim
 | _ :: _ :: _,rs=>exact p.elim
def kA[DecidableEq α]{is js:List α}(hn:n=is.length)(hl:is.length=js.length):(List.range n).all (λj=>decide (is[j]? = js[j]?))=decide (is=js):=by
 rw [Bool.eq_iff_iff,List.all_eq_true,decide_eq_true_iff];constructor
 .intro h
  refine List.ext_getElem? λi => ?_;by_cases hi:i < n
  .exact HF (h i (List.mem_range.mpr hi))
  .rw [List.getElem?_eq_none (),List.getElem?_eq_none ()]
 .rintro rfl;simp
def kn{is:List Int}(q:Vals (is.map V.int) its)(h:j < its.length):∃ i t,is[j]? = some i/\its[j]=.int i t:=by
 have hj:j < is.length:=by have:=q.length;rw [List.length_map] at this;omega
 let ⟨u,e,t,rfl⟩:=q.get (i:=j) (x := .int is[j]) (by rw [List.getElem?_map,List.getElem?_eq_getElem hj];rfl)
 exact ⟨is[j],t,List.getElem?_eq_getElem hj,by rw [List.getElem?_eq_getElem h] at e;exact Option.some.inj e⟩
def xW(hu:X.A.units+2 < cLine)(I:Inv X pins σ H s)(hg:RH X.K ρ H g){w:U}{is js:List Int}{x:V}{v v':Value}(e1:Br u g=some is)(e2:Br w g=some js)(r1:RV X.K ρ H u x)(r2:RV X.K ρ H w y)(rx:RelV x v)(ry:RelV y v'):SeqAt.EqAt X.A.in1 s v v' (decide (is=js)):=by
 let ⟨n,a,its,rfl,c1,rfl,q1,l1⟩:=gw I hg e1 r1 rx;let ⟨m,b,its',rfl,c2,rfl,q2,l2⟩:=gw I hg e2 r2 ry;by_cases hab:a=b
 .subst hab
  cases hg.inj n m a c1 c2;rw [e1] at e2;cases e2;rw [decide_eq_true rfl];exact SeqAt.EqAt.same _
 refine SeqAt.EqAt.of_refs hab ?_;have g1:its.length=is.length:=by rw [<-q1.length,List.length_map]
 have g2:its'.length=js.length:=by rw [<-q2.length,List.length_map]
 have hu1:X.A.in1.units < cLine:=by show X.A.units+1 < _;omega
 by_cases hl:is.length=js.length
 .rw [<-kA (n:=its.toArray.size) (by simp [g1]) hl]
  refine SeqAt.RcAt.lists l1 l2 (by simp [g1,g2,hl]) hu1 λj h1 h2 => ?_
  let ⟨i,t,z1,z2⟩:=kn q1 (by simpa using h1)
  let ⟨k,t',y1,y2⟩:=kn q2 (by simpa using h2)
  rw [List.getElem_toArray,List.getElem_toArray,z2,y2,z1,y1];rw [show decide (some i=some k)=(i == k) by simp;rfl]
  exact SeqAt.EqAt.int_int i t k t'
 .rw [decide_eq_false λe=>hl (by rw [e])]
  exact SeqAt.RcAt.lists_lengths l1 l2 (by simp [g1,g2,hl]) hu1
def fT:∀ {us:List U} {d:List #[26]},BU g us=some d->us.length=d.length /\ ∀ (j:Nat) (u:U),us[j]? = some u -> ∃ is,d[j]? = some is/\Br u g=some is
 | [],_,e=>by cases e;exact ⟨rfl,λj u h=>by simp at h⟩
 | u :: us,d,e=>by
  let ⟨i,e1,e2⟩:=Option.bind_eq_some_iff.mp e;let ⟨js,e3,rfl⟩:=Option.map_eq_some_iff.mp e2;let ⟨h1,h2⟩:=fT e3;refine ⟨by simp [h1],λj u' h => ?_⟩
  cases j with
  | zero=>simp at h;subst h;exact ⟨i,by simp,e1⟩
  | succ j=>simpa using h2 j u' (by simpa using h)
def zK(hu:X.A.units+2 < cLine):OpR X (compareOp .Eq) (OpX X λu w g=>(Ba u g).bind λa=>(Ba w g).map λb=>decide (a=b)):=by
 intro pins s σ H x y v u Q I rx ry ⟨ρ,g,m,n,b,hg,r1,r2,e,q⟩;let ⟨d,e1,e⟩:=Option.bind_eq_some_iff.mp e;let ⟨d',e2,e3⟩:=Option.map_eq_some_iff.mp e;let ⟨k,us,rfl,h1,e1⟩:=fI e1;let ⟨k',us',rfl,h2,e2⟩:=fI e2;let ⟨a,vs,its,_,rfl,c3,q1,l1⟩:=eX I hg h1 r1 rx;let ⟨a',vs',its',_,rfl,c3',q1',l1'⟩:=eX I hg h2 r2 ry;let ⟨f1,f2⟩:=fT e1;let ⟨f1',f2'⟩:=fT e2;have g1:its.length=d.length:=by rw [<-q1.length,<-c3.length,f1]
 have g2:its'.length=d'.length:=by rw [<-q1'.length,<-c3'.length,f1']
 by_cases hl:d.length=d'.length
 .refine SeqAt.eq_listAt (e:=λj=>decide (d[j]? = d'[j]?)) l1 l1' (by simp [g1,g2,hl]) () (λj h1 h2 => ?_) ?_
  .have j1:j < its.length:=by simpa using h1
   have j2:j < its'.length:=by simpa using h2
   have k1:j < us.length:=by omega
   have k2:j < us'.length:=by omega
   let ⟨is,z1,z2⟩:=f2 j us[j] (List.getElem?_eq_getElem k1);let ⟨js,y1,y2⟩:=f2' j us'[j] (List.getElem?_eq_getElem k2);let ⟨w1,w2,w3⟩:=c3.get (List.getElem?_eq_getElem k1);let ⟨w1',w2',w3'⟩:=c3'.get (List.getElem?_eq_getElem k2);let ⟨p1,p2,p3⟩:=q1.get w2;let ⟨p1',p2',p3'⟩:=q1'.get w2';rw [List.getElem?_eq_getElem j1] at p2;rw [List.getElem?_eq_getElem j2] at p2';cases p2;cases p2';rw [List.getElem_toArray,List.getElem_toArray,z1,y1,show decide (some is=some js)=decide (is=js) by simp]
   exact xW hu I hg z2 y2 w3 w3' p3 p3'
  .rw [kA (by simp [g1]) hl,e3]
   exact ⟨.bl b,H,I,rfl,q⟩
 .rw [decide_eq_false λe=>hl (by rw [e])] at e3
  subst e3;exact SeqAt.eq_list_lengthsAt l1 l1' (by simp [g1,g2,hl]) () ⟨.bl false,H,I,rfl,q⟩
end
section
variable{W:XQ}{a b c:Expr}{a' b' c':E}
def one{R:List Addr->Hp->α->β->Prop}{f:Su->G->Out U}{k:Su->U->G->Out α}{σ:L2.St}{H:Hp}{Q:β->Hp->Prop}
  (hp:tR X.K W R (λσu g=>(f σu g).bind λx g=>k σu x g) σ H Q)
  (imp:∀ σu ρ H g u x,RS X.K ρ H σu σ->RH X.K ρ H g->RV X.K ρ H u x->post X.K W R (k σu u g) ρ H Q->Q2 x H):tE X.K W f σ H Q2:=by
 let ⟨σu,ρ,g,hs,hg,p⟩:=hp;exact ⟨σu,ρ,g,hs,hg,(post.bind p).mono λx H1 ⟨ρ1,u,g1,s1,h1,r1,p1⟩=>imp σu ρ1 H1 g1 u x #[40] h1 r1 p1⟩
def oneN{W':XQ}{R:List Addr->Hp->α->β->Prop}{f:Su->G->Out U}{k:Su->U->G->Out α}{σ:L2.St}{H:Hp}{Q:β->Hp->Prop}
  (hp:tR X.K W R (λσu g=>(f σu g).noex.bind λx g=>k σu x g) σ H Q)
  (imp:∀ σu ρ H g u x,RS X.K ρ H σu σ->RH X.K ρ H g->RV X.K ρ H u x->post X.K W R (k σu u g) ρ H Q->Q2 x H):tE X.K W' f σ H Q2:=by
 let ⟨σu,ρ,g,hs,hg,p⟩:=hp;exact ⟨σu,ρ,g,hs,hg,(bc p).mono λx H1 ⟨ρ1,u,g1,s1,h1,r1,p1⟩=>imp σu ρ1 H1 g1 u x #[40] h1 r1 p1⟩
def two{R:List Addr->Hp->α->β->Prop}{f h:Su->G->Out U}{k:Su->U->U->G->Out α}{σ:L2.St}{H:Hp}{Q:β->Hp->Prop}{Q2:V->V->Hp->Prop}
  (hp:tR X.K W R (λσu g=>(f σu g).bind λx g=>(h σu g).bind λy g=>k σu x y g) σ H Q)
  (imp:∀ σu ρ H g u w x y,RS X.K ρ H σu σ->RH X.K ρ H g->RV X.K ρ H u x->RV X.K ρ H w y->post X.K W R (k σu u w g) ρ H Q->Q2 x y H) :
  tE X.K W f σ H λx H1=>tE X.K W h σ H1 λy H2=>Q2 x y H2:=by
 let ⟨σu,ρ,g,hs,hg,p⟩:=hp;refine ⟨σu,ρ,g,hs,hg,(post.bind p).mono λx H1 ⟨ρ1,u,g1,s1,h1,r1,p1⟩ => ?_⟩;refine ⟨σu,ρ1,g1,hs.step s1,h1,(post.bind p1).mono λy H2 ⟨ρ2,w,g2,s2,h2,r2,p2⟩ => ?_⟩;exact imp σu ρ2 H2 g2 u w x y (#[40].step s2) h2 (RV.step s2 _ _ r1) r2 p2
def abH(hN:X.N[i]? = some x)(hv:Vis X.env.scope x)(hd:(x == ("__debug__" : Str))=false)(hcd:(x == ("__classdict__" : Str))=false):PE X (.Name x pos) (tE X.K W (Jm C r (.var i))):=by
 refine (aaE hN hv hd hcd).imp ?_;rintro σ H Q ⟨σu,ρ,g,hs,hg,p⟩
 delta Jm at p;dsimp only at p
 cases e:σu[i]? with
 | none=>simp [e] at p;exact p.elim
 | some o =>
  cases o with
  | none=>simp [e] at p;exact p.elim
  | some u =>
   simp! [e] at p;let ⟨v,e1,e2⟩:=hs.val i u e;exact ⟨v,e1,post.okHere p hg e2⟩
def c7{v:V}(h:PE X e (Ih v))(hr:∀ ρ H,RV X.K ρ H u v):PE X e (tE X.K W (Jm C r (.cst u))) :=
 h.imp λσ H Q ⟨σu,ρ,g,hs,hg,p⟩=>post.okHere (u:=u) p hg (hr ρ H)
def cD{o:Operator}{r2:R2}(ho:OpR X (binaryOp o) r2)
  (imp:∀ u w z x y ρ (H:Hp) Q,RV X.K ρ H u x->RV X.K ρ H w y->IX op u w=some z->(∀ v,RV X.K ρ H z v->Q v H)->r2 x y H Q)
  (imp2:∀ u w x y ρ (H:Hp) g p Q,RH X.K ρ H g->RV X.K ρ H u x->RV X.K ρ H w y->A2 u w g=some p->post X.K W (RV X.K) (Bd op u w g) ρ H Q->r2 x y H Q)
  (ha:PE X a #[8]) (hb:PE X b #[16]):PE X (.BinOp a o b pos) (tE X.K W (Jm C r (.bin op a' b'))):=by
 refine (acC ho ha hb).imp λσ H Q hp=>two hp λσu ρ H g u w x y hs hg r1 r2 p => ?_;cases el:A2 u w g with
 | some q=>exact imp2 u w x y ρ H g q Q hg r1 r2 el p
 | none =>
  have p:post X.K W (RV X.K) (Bd op u w g) ρ H Q:=p;unfold Bd at p;rw [el] at p;let ⟨z,e,p⟩:=post.lift p;exact imp u w z x y ρ H Q r1 r2 e λv rv=>post.okHere p hg rv
def cX(h:op ≠ .add){r2:R2}(u w:U)(x y:V)(ρ:List Addr)(H:Hp)(g:G)(q:List U×List U)(Q:VK)(_:RH X.K ρ H g)(_:RV X.K ρ H u x)(_:RV X.K ρ H w y)(el:A2 u w g=some q)(p:post X.K W (RV X.K) (Bd op u w g) ρ H Q):r2 x y H Q:=by
 unfold Bd at p;rw [el] at p;cases op <;> first | exact absurd rfl h | exact p.elim
def eO{r r':R2}(h:OpR X f r)(h':OpR X f r'):OpR X f λx y H Q=>r x y H Q\/r' x y H Q:=λpins s σ H x y v u Q I rx ry q=>q.elim (h pins s σ H x y v u Q I rx ry) (h' pins s σ H x y v u Q I rx ry)
def aam(u w:U)(x y:V)(ρ:List Addr)(H:Hp)(g:G)(q:List U×List U)(Q:VK)(hg:RH X.K ρ H g)(r1:RV X.K ρ H u x)(r2:RV X.K ρ H w y)(el:A2 u w g=some q)(p:post X.K W (RV X.K) (Bd .add u w g) ρ H Q):Gf x y H Q:=by
 unfold Bd at p;rw [el] at p;dsimp only at p;split at p
 .rename_i hl
  let ⟨n,m,rfl,rfl,g1,g2⟩:=ki el;let ⟨a1,vs,c1,c2,c3⟩:=hg.lst g1;let ⟨a2,ws,d1,J3,d3⟩:=hg.lst g2;let ⟨a1',rfl,z⟩:=r1;rw [c1] at z;cases z;let ⟨a2',rfl,z⟩:=r2;rw [d1] at z;cases z;refine ⟨a1,a2,vs,ws,rfl,rfl,c2,J3,by rw [<-c3.length,<-d3.length,sizeLine_eq];unfold Ae at hl;omega,λl hl' => ?_⟩
  exact p (.ref l) _ _ (Stp.alloc hl') (hg.alloc hl' (c3.append d3)) ⟨l,rfl,by rw [<-hg.len];simp⟩
 .exact p.elim
def cg{g:Int->Int->Int}{Cc:Int->Int->Prop}(h:∀ u w z,IX op u w=some z -> ∃ i j,u=.int i/\w=.int j/\z=.int (g i j)/\Cc i j)(u w z:U)(x y:V)(ρ:List Addr)(H:Hp)(Q:VK)(r1:RV K ρ H u x)(r2:RV K ρ H w y)
  (e:IX op u w=some z) (q:∀ v,RV K ρ H z v->Q v H):IA Cc (λi j => .int (g i j)) x y H Q:=by
 let ⟨i,j,rfl,rfl,rfl,hc⟩:=h u w z e;cases r1;cases r2;exact ⟨i,j,rfl,rfl,hc,q _ rfl⟩
def ph{g:Int->Int->V}(h:OpR X f (IB g)):OpR X f (IA (λ_ _=>True) g):=λpins s σ H x y v u Q I rx ry ⟨i,j,e1,e2,_,q⟩=>h pins s σ H x y v u Q I rx ry ⟨i,j,e1,e2,q⟩
def log2_small(h:n < 115792089237316195423570985008687907853269984665640564039457584007913129639936):n.log2 < 9000:=by
 by_cases h0:n=0
 .subst h0;decide
 .exact HC ((Nat.log2_lt h0).mpr (show n < 2 ^ 256 from h)) #[1]
def xY:OpR X (binaryOp .FloorDiv) (IA (λi j=>j≠0 /\ -Au < j/\j < Au) λi j => .int (i.fdiv j)):=opI λi j _ _ _ _ _ hc q =>
 floordiv_int hc.1 q (.inl (PyProof.noPylong_of_log2 (log2_small (by have:=hc.2;unfold Au at this;omega))))
def y9:OpR X (binaryOp .Mult) (IA (λi j=>CMul i j\/((-Au < i/\i < Au) /\ -Au < j/\j < Au)) λi j => .int (i*j)):=opI λi j _ _ _ _ _ hc q=>by
 rcases hc with hc | ⟨⟨h1,h2⟩,h3,h4⟩
 .exact mul_int q hc.ok
 .unfold Au at h1 h2 h3 h4
  exact mul_int q (IntMulOk.of_bits (Hy (intBits_le (k:=256) (show i.natAbs < 115792089237316195423570985008687907853269984665640564039457584007913129639936 by omega)) #[1]) (Hy (intBits_le (k:=256) (show j.natAbs < 115792089237316195423570985008687907853269984665640564039457584007913129639936 by omega)) #[1]))
def cu{w z:U}(e:IX op u w=some z):∃ i j,u=.int i/\w=.int j:=by
 cases u <;> first | (cases op <;> cases e <;> done) | skip
 cases w <;> first | (cases op <;> cases e <;> done) | skip
 exact ⟨_,_,rfl,rfl⟩
def vW{o:Operator}(hop:(op=.add/\o = .Add)\/(op=.sub/\o = .Sub)\/(op=.mul/\o = .Mult)\/(op=.fdiv/\o = .FloorDiv)\/(op=.mod/\o = .Mod)\/(op=.pow/\o = .Pow))
  (ha:PE X a #[8]) (hb:PE X b #[16]):PE X (.BinOp a o b pos) (tE X.K W (Jm C r (.bin op a' b'))):=by
 rcases hop with ⟨rfl,rfl⟩ | ⟨rfl,rfl⟩ | ⟨rfl,rfl⟩ | ⟨rfl,rfl⟩ | ⟨rfl,rfl⟩ | ⟨rfl,rfl⟩
 .exact cD (eO (ph eQ) aax) (λu w z x y ρ H Q r1 r2 e q => .inl (cg (λu w z e=>by
   let ⟨i,j,rfl,rfl⟩:=cu e;cases e;exact ⟨_,_,rfl,rfl,rfl,trivial⟩) u w z x y ρ H Q r1 r2 e q)) (λu w x y ρ H g q Q hg r1 r2 el p => .inr (aam u w x y ρ H g q Q hg r1 r2 el p)) ha hb
 .exact cD (ph eM) (cg λu w z e=>by
   let ⟨i,j,rfl,rfl⟩:=cu e;cases e
   exact ⟨_,_,rfl,rfl,rfl,trivial⟩) (cX #[3]) ha hb
 .refine cD y9 (cg λu w z e => ?_) (cX #[3]) ha hb
  let ⟨i,j,rfl,rfl⟩:=cu e;simp! [IX,IW,Option.ite_none_right_eq_some,Option.some.injEq] at e;let ⟨h,rfl⟩:=e;refine ⟨_,_,rfl,rfl,rfl,?_⟩;rw [Bool.or_eq_true,Bool.or_eq_true,Bool.and_eq_true,Bool.and_eq_true,Bool.and_eq_true,Bool.and_eq_true,Bool.and_eq_true] at h;unfold CMul;rw [show ((2:Int) ^ 64)=BR from rfl];rcases h with (⟨h1,h2⟩ | ⟨h1,h2⟩) | ⟨⟨⟨h1,h2⟩,h3⟩,h4⟩
  .exact .inl (.inl ⟨HF h1,HF h2⟩)
  .exact .inl (.inr ⟨HF h1,HF h2⟩)
  .exact .inr ⟨⟨HF h1,HF h2⟩,HF h3,HF h4⟩
 .refine cD xY (cg λu w z e => ?_) (cX #[3]) ha hb
  let ⟨i,j,rfl,rfl⟩:=cu e;simp! [IX,IW] at e;refine ⟨i,j,rfl,rfl,?_⟩;by_cases h0:0 < j
  .rw [if_pos h0] at e
   have ef:i / j=i.fdiv j:=(Int.fdiv_eq_ediv_of_nonneg i ()).symm
   by_cases h1:j < Au
   .rw [if_pos h1] at e
    rw [<-ef];exact ⟨(Option.some.inj e).symm,by omega,by unfold Au;omega,h1⟩
   .rw [if_neg h1] at e;cases e
  .rw [if_neg h0] at e
   by_cases h1:j=0
   .rw [if_pos h1] at e;cases e
   .rw [if_neg h1] at e
    by_cases h2 : -Au < j
    .rw [if_pos h2] at e
     exact ⟨(Option.some.inj e).symm,h1,h2,by unfold Au;omega⟩
    .rw [if_neg h2] at e;cases e
 .refine cD xV (cg λu w z e => ?_) (cX #[3]) ha hb
  let ⟨i,j,rfl,rfl⟩:=cu e;simp! [IX,IW] at e;refine ⟨i,j,rfl,rfl,?_⟩;by_cases h0:0 < j
  .rw [if_pos h0] at e
   have ef:i % j=i.fmod j:=(Int.fmod_eq_emod_of_nonneg i ()).symm
   rw [<-ef];exact ⟨(Option.some.inj e).symm,by omega⟩
  .rw [if_neg h0] at e
   by_cases h1:j=0
   .rw [if_pos h1] at e;cases e
   .rw [if_neg h1] at e
    exact ⟨(Option.some.inj e).symm,h1⟩
 .exact cD aae (cg λu w z e=>by
   let ⟨i,j,rfl,rfl⟩:=cu e;simp! [IX,IW,Option.ite_none_right_eq_some,Option.some.injEq] at e;let ⟨h,rfl⟩:=e;refine ⟨_,_,rfl,rfl,rfl,?_⟩;unfold Gk
   omega) (cX #[3]) ha hb
def ab8(ha:PE X a #[8]):PE X (.UnaryOp .USub a pos) (tE X.K W (Jm C r (.neg a'))):=by
 refine (sW pD ha).imp λσ H Q hp=>one hp λσu ρ H g u x hs hg r1 p => ?_;cases u <;> simp! [] at p <;> first | exact p.elim | skip
 cases r1;exact ⟨_,rfl,post.okHere p hg rfl⟩
def Bq(X:Cx)(op:Cp)(o:CmpOp):Prop := ∃ r2,OpR X (compareOp o) r2 /\ ∀ ρ (H:Hp) g u w x y b Q,RH X.K ρ H g->RV X.K ρ H u x->RV X.K ρ H w y->Ja op u w g=some b->Q (V.bl b) H->r2 x y H Q
def dJ{op:Cp}{o:CmpOp}{f:Int->Int->Bool}(ho:OpR X (compareOp o) (IB λi j => .bl (f i j)))(h:∀ u w g b,Ja op u w g=some b -> ∃ i j,u=.int i/\w=.int j/\b=f i j):Bq X op o :=
 ⟨_,ho,λρ H g u w x y b Q hg r1 r2 e q=>by
  let ⟨i,j,rfl,rfl,rfl⟩:=h u w g b e;cases r1;cases r2;exact ⟨i,j,rfl,rfl,q⟩⟩
def fM{x:V}(h:RV K ρ H u x):AE u=decide (x=.non):=by
 cases u with
 | tup us=>let ⟨a,vs,rfl,_⟩:=h;rfl
 | fro us=>let ⟨a,vs,rfl,_⟩:=h;rfl
 | ref us=>let ⟨a,rfl,_⟩:=h;rfl
 | xn _ us=>let ⟨a,vs,rfl,_⟩:=h;rfl
 | _=>cases h;rfl
def eS{f:Int->Int->Bool}{w:U}{b:Bool}(e:(match u,w with | .int i,.int j=>some (f i j) | _,_=>none)=some b):∃ i j,u=.int i/\w=.int j/\b=f i j:=by
 cases u <;> first | (cases e;done) | skip
 cases w <;> first | (cases e;done) | skip
 exact ⟨_,_,rfl,rfl,(Option.some.inj e).symm⟩
def uA{w:U}(h:CG u w=true):(u=.non/\w=.non)\/(∃ a b,u=.bl a/\w=.bl b)\/(∃ a b,u=.int a/\w=.int b) \/ ∃ a b,u=.str a/\w=.str b:=by
 cases u <;> cases w <;> first | (cases h;done) | exact .inl ⟨rfl,rfl⟩ | exact .inr (.inl ⟨_,_,rfl,rfl⟩) | exact .inr (.inr (.inl ⟨_,_,rfl,rfl⟩)) | exact .inr (.inr (.inr ⟨_,_,rfl,rfl⟩))
def acy(hu:X.A.units+2 < cLine)(op:Cp)(o:CmpOp)(h:(op=.eq/\o = .Eq)\/(op=.ne/\o = .NotEq)\/(op=.lt/\o = .Lt)\/(op=.le/\o = .LtE)\/(op=.gt/\o = .Gt)\/(op=.ge/\o = .GtE)\/(op=.isN/\o = .Is)\/(op=.notN/\o = .IsNot)\/(op=.inn/\o = .In)\/(op=.nin/\o = .NotIn)):Bq X op o:=by
 rcases h with ⟨rfl,rfl⟩ | ⟨rfl,rfl⟩ | ⟨rfl,rfl⟩ | ⟨rfl,rfl⟩ | ⟨rfl,rfl⟩ | ⟨rfl,rfl⟩ | ⟨rfl,rfl⟩ | ⟨rfl,rfl⟩ | ⟨rfl,rfl⟩ | ⟨rfl,rfl⟩
 .refine ⟨_,eO (aa7 ()) (eO (abK hu) (zK hu)),λρ H g u w x y b Q hg r1 r2 e q => ?_⟩
  simp! [Ja] at e;cases el:A2 u w g with
  | none =>
   rw [el] at e;exact .inl ⟨ρ,g,u,w,b,hg,r1,r2,e,q⟩
  | some p =>
   rw [el] at e;simp! [I9] at e;cases e2:I8 p.1 p.2 with
   | some c=>rw [e2] at e;exact .inr (.inl ⟨ρ,g,u,w,b,hg,r1,r2,Option.bind_eq_some_iff.mpr ⟨p,el,e2.trans e⟩,q⟩)
   | none=>rw [e2] at e;exact .inr (.inr ⟨ρ,g,u,w,b,hg,r1,r2,e,q⟩)
 .refine ⟨_,eO acp (ab7 hu),λρ H g u w x y b Q hg r1 r2 e q => ?_⟩
  cases hs:CG u w with
  | false =>
   simp! [Ja,hs,Bool.false_eq_true,if_false] at e;cases u <;> first | (cases e;done) | skip
   cases w <;> first | (cases e;done) | skip
   let ⟨c,ec,rfl⟩:=Option.map_eq_some_iff.mp e;exact .inr ⟨ρ,_,_,c,r1,r2,ec,q⟩
  | true =>
  refine .inl ?_;rcases uA hs with ⟨rfl,rfl⟩ | ⟨a,c,rfl,rfl⟩ | ⟨a,c,rfl,rfl⟩ | ⟨a,c,rfl,rfl⟩ <;> simp! [Ja,CG,if_true,Ar,Option.map_some,Option.some.injEq] at e <;> subst e <;> cases r1 <;> cases r2 <;> refine ⟨rfl,?_⟩ <;>
   first | exact q | (rw [ky];exact q) | (rw [nk];exact q) | (rw [lz];exact q) | simpa using q
 .exact dJ adl λu w g b e=>eS e
 .exact dJ adB λu w g b e=>eS e
 .exact dJ acI λu w g b e=>eS e
 .exact dJ adk λu w g b e=>eS e
 .refine ⟨_,zF,λρ H g u w x y b Q hg r1 r2 e q => ?_⟩
  cases w <;> simp! [Ja,AE,if_true,Bool.false_eq_true,if_false,Option.some.injEq,reduceCtorEq] at e
  cases r2;subst e;refine ⟨rfl,?_⟩;rw [<-fM r1];cases u <;> exact q
 .refine ⟨_,y7,λρ H g u w x y b Q hg r1 r2 e q => ?_⟩
  cases w <;> simp! [Ja,AE,if_true,Bool.false_eq_true,if_false,Option.some.injEq,reduceCtorEq] at e
  cases r2;subst e;refine ⟨rfl,?_⟩;rw [<-fM r1];cases u <;> exact q
 .refine ⟨_,mY (abI ()) (z7 ()),λρ H g u w x y b Q hg r1 r2 e q => ?_⟩
  simp! [Ja] at e;cases ei:items w g with
  | none =>
   simp! [ei] at e;let ⟨o,eo,rfl⟩:=Option.map_eq_some_iff.mp e;let ⟨a,ov,ey,dg,es,_⟩:=dX hg r1 r2 eo;exact .inr ⟨a,ov,ey,dg,by rw [es];exact q⟩
  | some us=>simp! [ei] at e;exact .inl ⟨ρ,g,u,w,b,hg,r1,r2,Option.bind_eq_some_iff.mpr ⟨us,ei,e⟩,q⟩
 .refine ⟨_,mY (yJ ()) (zg ()),λρ H g u w x y b Q hg r1 r2 e q => ?_⟩
  simp! [Ja] at e;cases ei:items w g with
  | none =>
   simp! [ei] at e;let ⟨o,eo,rfl⟩:=Option.map_eq_some_iff.mp e;let ⟨a,ov,ey,dg,es,_⟩:=dX hg r1 r2 eo;exact .inr ⟨a,ov,ey,dg,by rw [es];exact q⟩
  | some us =>
   simp! [ei] at e;exact .inl ⟨ρ,g,u,w,b,hg,r1,r2,Option.bind_eq_some_iff.mpr ⟨us,ei,e⟩,q⟩
def abE{op:Cp}{o:CmpOp}(ho:Bq X op o)(hm:behindInMarks o b=false)(ha:PE X a #[8])(hb:PE X b #[16]):PE X (.Compare a [o] [b] pos) (tE X.K W (Jm C r (.cmp op a' b'))):=by
 let ⟨r2,ho,imp⟩:=ho;refine (xu ho ha hb hm).imp λσ H Q hp=>two hp λσu ρ H g u w x y hs hg r1 r2 p => ?_;cases e:Ja op u w g with
 | none=>simp! [e] at p;exact p.elim
 | some k=>simp! [e] at p;exact imp ρ H g u w x y k Q hg r1 r2 e (post.okHere p hg rfl)
def aaU{op:Cp}{o:CmpOp}(ho:Bq X op o)(hm:behindInMarks o b=false)(ha:PE X a #[8])(hb:PE X b #[16]):PT X (.Compare a [o] [b] pos) (tT X.K W (λσ g=>(Jm C r (.cmp op a' b') σ g).bind λx g=>lift (Jb x g) g)):=by
 let ⟨r2,ho,imp⟩:=ho;refine (zc ho ha hb hm).imp λσ H Q hp => ?_;have hp':tR X.K W REq (λσu g=>(r.ev a' σu g).bind λx g=>(r.ev b' σu g).bind λy g=>match Ja op x y g with | some c=>Out.ok c g | none => .bad) σ H Q:=by
  let ⟨σu,ρ,g,hs,hg,p⟩:=hp;refine ⟨σu,ρ,g,hs,hg,?_⟩;have e:((Jm C r (.cmp op a' b') σu g).bind λx g=>lift (Jb x g) g)=((r.ev a' σu g).bind λx g=>(r.ev b' σu g).bind λy g=>match Ja op x y g with | some c=>Out.ok c g | none => .bad):=by
   delta Jm;dsimp only
   cases r.ev a' σu g with
   | ok x g1 =>
    simp! [Out.bind];cases r.ev b' σu g1 with
    | ok y g2=>simp! [Out.bind];cases Ja op x y g2 <;> rfl
    | exc _ _ _=>rfl
    | bad=>rfl
   | exc _ _ _=>rfl
   | bad=>rfl
  have p2:=p
  change post X.K W REq ((Jm C r (.cmp op a' b') σu g).bind λx g=>lift (Jb x g) g) ρ H Q at p2
  rw [e] at p2;exact p2
 refine two hp' λσu ρ H g u w x y hs hg r1 r2 p => ?_;cases e:Ja op u w g with
 | none=>simp! [e] at p;exact p.elim
 | some k=>simp! [e] at p;exact imp ρ H g u w x y k _ hg r1 r2 e ⟨k,rfl,post.okHere p hg rfl⟩
end
section
variable{W:XQ}{a b c:Expr}{a' b' c':E}{rest:List Expr}
def okE{v:V}{Q:VK}(p:post X.K W (RV X.K) (.ok u g) ρ H Q)(hg:RH X.K ρ H g)(r:RV X.K ρ H u v):Q v H:=post.okHere p hg r
def iY{op op':Cp}{r2 r3:R2}
  (imp:∀ ρ (H:Hp) g u w x y b Q,RH X.K ρ H g->RV X.K ρ H u x->RV X.K ρ H w y->Ja op u w g=some b->Q (V.bl b) H->r2 x y H Q)
  (imp':∀ ρ (H:Hp) g u w x y b Q,RH X.K ρ H g->RV X.K ρ H u x->RV X.K ρ H w y->Ja op' u w g=some b->Q (V.bl b) H->r3 x y H Q) (σ:L2.St) (H:Hp) (Q:VK) (hp:tE X.K W (Jm C r (.chain op op' a' b' c')) σ H Q) :
  DL r2 r3 #[8] #[16] (tE X.K W (r.ev c')) σ H Q:=by
 refine two hp λσu ρ H g u w x y hs hg r1 r2 p => ?_;cases e:Ja op u w g with
 | none=>simp! [e] at p;exact p.elim
 | some k =>
  refine imp ρ H g u w x y k _ hg r1 r2 e ⟨k,rfl,?_⟩;cases k with
  | false=>simp! [e] at p;exact bz (okE p hg rfl)
  | true =>
   simp! [e] at p;refine bA ?_;refine ⟨σu,ρ,g,hs,hg,(post.bind p).mono λv H2 ⟨ρ2,z,g2,s2,h2,rz,p2⟩ => ?_⟩;cases e2:Ja op' w z g2 with
   | none=>simp! [e2] at p2;exact p2.elim
   | some k2=>simp! [e2] at p2;exact imp' ρ2 H2 g2 w z y v k2 Q h2 (RV.step s2 _ _ r2) rz e2 (okE p2 h2 rfl)
def vX{op op':Cp}{o o':CmpOp}(ho:Bq X op o)(ho':Bq X op' o')(hm:lastMarks [o,o'] [b,c]=false)(ha:PE X a #[8])(hb:PE X b #[16])(hc:PE X c (tE X.K W (r.ev c'))):
  PE X (.Compare a [o,o'] [b,c] pos) (tE X.K W (Jm C r (.chain op op' a' b' c'))):=by
 let ⟨r2,ho,imp⟩:=ho;let ⟨r3,ho',imp'⟩:=ho';exact (wW ho ho' ha hb hc hm).imp (iY imp imp')
def wu{f:Su->G->Out U}(hf:∀ σ g u g',f σ g=.ok u g' -> ∃ c,u=.bl c)(σ:L2.St)(H:Hp)(Q:Bool->Hp->Prop)(hp:tT X.K W (λσ g=>(f σ g).bind λx g=>lift (Jb x g) g) σ H Q):tE X.K W f σ H (λx H1 => ∃ c,x=.bl c/\Q c H1):=by
 let ⟨σu,ρ,g,hs,hg,p⟩:=hp;refine ⟨σu,ρ,g,hs,hg,?_⟩;have hk:=hf σu g
 change post X.K W REq ((f σu g).bind λx g=>lift (Jb x g) g) ρ H Q at p
 revert p hk;cases f σu g with
 | ok u g1 =>
  intro hk p;let ⟨c,rfl⟩:=hk u g1 rfl;intro v ρ1 H1 s1 h1 r1;cases r1;exact ⟨c,rfl,p c ρ1 H1 s1 h1 rfl⟩
 | exc c fs g1=>exact λ_ p=>p
 | bad=>exact λ_ p=>p
def w9{op op':Cp}(σ:Su)(g:G)(u:U)(g':G)(h:Jm C r (.chain op op' a' b' c') σ g=.ok u g'):∃ c,u=.bl c:=by
 delta Jm at h;dsimp only at h
 revert h;cases r.ev a' σ g with
 | ok x g1 =>
  simp! [Out.bind];cases r.ev b' σ g1 with
  | ok y g2 =>
   simp! [Out.bind];cases Ja op x y g2 with
   | none=>intro h;cases h
   | some k =>
    cases k with
    | false=>intro h;cases h;exact ⟨_,rfl⟩
    | true =>
     simp! [];cases r.ev c' σ g2 with
     | ok z g3 =>
      simp! [Out.bind];cases Ja op' y z g3 with
      | none=>intro h;cases h
      | some k=>intro h;cases h;exact ⟨_,rfl⟩
     | exc _ _ _=>intro h;cases h
     | bad=>intro h;cases h
  | exc _ _ _=>intro h;cases h
  | bad=>intro h;cases h
 | exc _ _ _=>intro h;cases h
 | bad=>intro h;cases h
def vV{op op':Cp}{o o':CmpOp}(ho:Bq X op o)(ho':Bq X op' o')(hm:lastMarks [o,o'] [b,c]=false)(ha:PE X a #[8])(hb:PE X b #[16])(hc:PE X c (tE X.K W (r.ev c'))):
  PT X (.Compare a [o,o'] [b,c] pos) (tT X.K W (λσ g=>(Jm C r (.chain op op' a' b' c') σ g).bind λx g=>lift (Jb x g) g)):=by
 let ⟨r2,ho,imp⟩:=ho;let ⟨r3,ho',imp'⟩:=ho';exact (xf ho ho' ha hb hc hm).imp λσ H Q hp=>iY imp imp' σ H _ (wu w9 σ H Q hp)
def abm(ha:PE X a #[8])(hb:PE X (.BoolOp .And (b :: rest) pos) #[16]):PE X (.BoolOp .And (a :: b :: rest) pos) (tE X.K W (Jm C r (.and a' b'))):=by
 refine (aa2 ha hb).imp λσ H Q hp=>one hp λσu ρ H g u x hs hg r1 p => ?_;cases u with
 | bl k =>
  cases r1;refine ⟨k,rfl,?_⟩;cases k with
  | true=>exact bA ⟨σu,ρ,g,hs,hg,p⟩
  | false=>exact bz (okE p hg rfl)
 | _=>exact p.elim
def acP(ha:PE X a #[8])(hb:PE X (.BoolOp .Or (b :: rest) pos) #[16]):PE X (.BoolOp .Or (a :: b :: rest) pos) (tE X.K W (Jm C r (.or a' b'))):=by
 refine (acr ha hb).imp λσ H Q hp=>one hp λσu ρ H g u x hs hg r1 p => ?_;cases u with
 | bl k =>
  cases r1;refine ⟨k,rfl,?_⟩;cases k with
  | true=>exact bA (okE p hg rfl)
  | false=>exact bz ⟨σu,ρ,g,hs,hg,p⟩
 | _=>exact p.elim
def n0{x:V}{k:Bool}(hg:RH X.K ρ H g)(r1:RV X.K ρ H u x)(e:Jb u g=some k):DC X.K x H k:=by
 have len0:∀ {us:List U} {vs:List V},RVs X.K ρ H us vs->(!us.isEmpty) = !vs.isEmpty:=λ{us vs} h=>by
  cases us with
  | nil=>cases h;rfl
  | cons u us=>let ⟨v,r,rfl,_⟩:=h;rfl
 cases u with
 | non=>cases r1;cases e;rfl
 | bl b=>cases r1;cases e;rfl
 | int i=>cases r1;cases e;rfl
 | str s=>simp [Jb] at e
 | tup us=>let ⟨a,vs,rfl,h1,h2⟩:=r1;cases e;exact .inr (.inl ⟨vs,h1.sq,len0 h2⟩)
 | fro us=>let ⟨a,vs,rfl,h1,h2⟩:=r1;cases e;exact .inl ⟨vs,h1.sq,len0 h2⟩
 | ref n =>
  let ⟨a,rfl,hn⟩:=r1;simp! [Jb] at e;cases eg:g[n]? with
  | none=>simp [eg] at e
  | some o =>
   cases o with
   | lst xs =>
    simp! [eg,Option.some.injEq] at e;subst e;let ⟨a',vs,h1,h2,h3⟩:=hg.lst eg;rw [hn] at h1;cases h1;exact .inl ⟨vs,.of h2,len0 h3⟩
   | dic _=>simp [eg] at e
   | dif _=>simp [eg] at e
   | dst _=>simp [eg] at e
   | ins _ _=>simp [eg] at e
 | xn _ _=>simp [Jb] at e
def aa8(ha:PE X a #[8]):PE X (.UnaryOp .Not a pos) (tE X.K W (Jm C r (.not a'))):=by
 intro pins s σ H Q I hp;have hp':tE X.K W (r.ev a') σ H (λx H1 => ∃ k,DC X.K x H1 k/\Q (.bl (!k)) H1):=one hp λσu ρ H g u x hs hg r1 p=>by
  cases e:Jb u g with
  | none=>simp! [e] at p;exact p.elim
  | some k=>simp! [e] at p;exact ⟨k,n0 hg r1 e,okE p hg rfl⟩
 refine UnaryOp_ (thn (ha pins s σ H _ I hp') ?_);rintro v s1 ⟨x,H1,I1,r1,k,tr,q1⟩;exact not_of (thn (oT pins s1 σ H1 x v (λb H2=>Q (.bl (!b)) H2) I1 r1 ⟨k,tr,q1⟩) λb s2 ⟨H2,I2,q2⟩=>⟨.bl (!b),H2,I2,rfl,q2⟩)
def wH(ha:PE X a #[8])(he:∀ whole,isTrue a X.env whole=(do let v <- whole;standAt a.pos;holding [v] (truthy v))):PT X a (tT X.K W (λσ g=>(r.ev a' σ g).bind λx g=>lift (Jb x g) g)):=by
 refine (wy ha he).imp λσ H Q hp=>one (k:=λ_ x g=>lift (Jb x g) g) hp λσu ρ H g u x hs hg r1 p => ?_;let ⟨k,e,p⟩:=post.lift p;exact ⟨k,n0 hg r1 e,post.okHere p hg rfl⟩
def zq(ha:PT X a (tT X.K W (r.ts a')))(hb:PW X (.BoolOp .And (b :: rest) pos) (tT X.K W (r.ts b'))):PW X (.BoolOp .And (a :: b :: rest) pos) (tT X.K W (Jn r (.and a' b'))):=by
 refine (zS ha hb).imp ?_;rintro σ H Q ⟨σu,ρ,g,hs,hg,p⟩;refine ⟨σu,ρ,g,hs,hg,(post.bind (R:=REq) p).mono λk H1 ⟨ρ1,k',g1,s1,h1,e1,p1⟩ => ?_⟩;subst e1;cases k' with
 | true=>exact bA ⟨σu,ρ1,g1,hs.step s1,h1,p1⟩
 | false=>exact bz (post.okHere p1 h1 rfl)
def ac3(ha:PT X a (tT X.K W (r.ts a')))(hb:PW X (.BoolOp .Or (b :: rest) pos) (tT X.K W (r.ts b'))):PW X (.BoolOp .Or (a :: b :: rest) pos) (tT X.K W (Jn r (.or a' b'))):=by
 refine (acE ha hb).imp ?_;rintro σ H Q ⟨σu,ρ,g,hs,hg,p⟩;refine ⟨σu,ρ,g,hs,hg,(post.bind (R:=REq) p).mono λk H1 ⟨ρ1,k',g1,s1,h1,e1,p1⟩ => ?_⟩;subst e1;cases k' with
 | true=>exact bA (post.okHere p1 h1 rfl)
 | false=>exact bz ⟨σu,ρ1,g1,hs.step s1,h1,p1⟩
def abM(ha:PT X a (tT X.K W (r.ts a'))):PT X (.UnaryOp .Not a pos) (tT X.K W (Jn r (.not a'))):=by
 refine (ach ha).imp ?_;rintro σ H Q ⟨σu,ρ,g,hs,hg,p⟩;refine ⟨σu,ρ,g,hs,hg,(post.bind (R:=REq) p).mono λk H1 ⟨ρ1,k',g1,s1,h1,e1,p1⟩ => ?_⟩;subst e1;exact post.okHere p1 h1 rfl
def abn:PA X [] (tAr X.K W (Jh r.ev [])):=bp.imp λσ H Q ⟨σu,ρ,g,hs,hg,p⟩=>post.okHere (R:=RVs X.K) (u:=[]) p hg rfl
def xG(ha:PE X a #[8])(hr:PA X es (tAr X.K W (Jh r.ev es')))(hs:starEach (a :: es) X.env=(false,eval a X.env) :: starEach es X.env):PA X (a :: es) (tAr X.K W (Jh r.ev (a' :: es'))):=by
 refine (aL ha hr hs).imp λσ H Q hp=>one hp λσu ρ H g u x hs hg r1 p => ?_;refine ⟨σu,ρ,g,hs,hg,(post.bind p).mono λxs H1 ⟨ρ1,us,g1,s1,h1,rs,p1⟩ => ?_⟩;exact post.okHere (R:=RVs X.K) p1 h1 ⟨x,xs,rfl,RV.step s1 _ _ r1,rs⟩
def szl(rs:RVs X.K ρ H us vs)(h:us.length<=Ae):vs.length<=sizeLine:=by
 rw [<-rs.length,sizeLine_eq];unfold Ae at h;omega
def abG{k:Nat}(h:PA X es (tAr X.K W (Jh r.ev es'))):PE X (.Tuple es k pos) (tE X.K W (Jm C r (.tup es'))):=by
 refine (aal h).imp ?_;rintro σ H Q ⟨σu,ρ,g,hs,hg,p⟩;refine ⟨σu,ρ,g,hs,hg,(post.bind (R:=RVs X.K) p).mono λxs H1 ⟨ρ1,us,g1,s1,h1,rs,p1⟩ => ?_⟩;by_cases hl:us.length<=Ae
 .rw [if_pos hl] at p1
  refine ⟨szl rs hl,λq hq => ?_⟩;exact p1 _ ρ1 _ (Stp.fresh hq) (h1.step_fresh hq) ⟨q,xs,rfl,upd_same,RVs.step (Stp.fresh hq) _ _ rs⟩
 .rw [if_neg hl] at p1;exact p1.elim
def cR{xs:List V}{Q:VK}(p:post X.K W (RV X.K) (alloc (.lst us) g) ρ H Q)(hg:RH X.K ρ H g)(rs:RVs X.K ρ H us xs)(q:Addr)(hq:H q=none):Q (.ref q) (upd H q (.lst xs)):=by
 refine p (.ref q) (ρ++[q]) _ (Stp.alloc hq) (hg.alloc hq rs) ⟨q,rfl,?_⟩;rw [<-hg.len];simp
def aaM(h:PA X es (tAr X.K W (Jh r.ev es'))):PE X (.List es pos) (tE X.K W (Jm C r (.lst es'))):=by
 refine (abk h).imp ?_;rintro σ H Q ⟨σu,ρ,g,hs,hg,p⟩;refine ⟨σu,ρ,g,hs,hg,(post.bind (R:=RVs X.K) p).mono λxs H1 ⟨ρ1,us,g1,s1,h1,rs,p1⟩ => ?_⟩;by_cases hl:us.length<=Ae
 .rw [if_pos hl] at p1
  exact ⟨szl rs hl,λq hq=>cR p1 h1 rs q hq⟩
 .rw [if_neg hl] at p1;exact p1.elim
def xO{i:Int}(rs:RVs X.K ρ H us vs)(e:Jc us i=some u):∃ v,atI vs i=some v/\RV X.K ρ H u v:=by
 unfold Jc atI at e;unfold atI;rw [<-rs.length];cases ej:ixN us.length i with
 | none=>simp [ej] at e
 | some j =>
  rw [ej] at e;let ⟨v,h1,h2⟩:=rs.get (show us[j]? = some u from e);exact ⟨v,h1,h2⟩
def z5(hu:X.A.units+1 < cLine)(ha:PE X a #[8])(hb:PE X b #[16])(hs:DK b):PE X (.Subscript a b pos) (tE X.K W (Jm C r (.idx a' b'))):=by
 refine (adA ((xT.or abq).or (xm hu)) ha hb hs).imp λσ H Q hp=>two hp λσu ρ H g u w x y hs hg r1 r2 p => ?_;cases w with
 | int i =>
  cases r2;cases e:items u g with
  | none=>simp! [e] at p;exact p.elim
  | some us =>
   simp! [e] at p;let ⟨z,ez,p⟩:=post.lift p;let ⟨q,vs,rfl,hq,rs⟩:=cQ hg r1 e;let ⟨v,ev,rv⟩:=xO rs ez;rcases hq with hq | hq
   .exact .inl (.inl ⟨q,vs,i,v,rfl,rfl,hq,ev,okE p hg rv⟩)
   .exact .inl (.inr ⟨q,vs,i,v,rfl,rfl,hq,ev,okE p hg rv⟩)
 | tup us =>
  let ⟨z,ez,p⟩:=post.lift p;let ⟨o,eo,eo'⟩:=Option.bind_eq_some_iff.mp ez;let ⟨q,ov,rfl,dg,_,got⟩:=dX hg r2 r1 eo;let ⟨v,rfl,rv⟩:=got z eo';exact .inr ⟨q,v,rfl,dg,okE p hg rv⟩
 | str k =>
  let ⟨z,ez,p2⟩:=post.lift p;clear p;let ⟨kvs,eo,eo'⟩:=Option.bind_eq_some_iff.mp ez;let ⟨n,q,ws,rfl,_,_,rfl,ha,rk⟩:=z8 hg r1 eo;let ⟨v,ev,rv⟩:=rk.got k eo';cases r2;exact .inr ⟨q,v,rfl,by rw [<-ev];exact DGet.k (k:=Sum.inr k) ha,okE p2 hg rv⟩
 | _=>exact p.elim
def iE{K:HG}{ρ:List Addr}{H:Hp}:∀ ns:List Int,RVs K ρ H #[32] (ns.map V.int)
 | []=>rfl
 | n :: ns=>⟨.int n,ns.map V.int,rfl,rfl,iE ns⟩
def se_bi{b:Bi}{f:Str}{p':Pos}{rr:List V->Hp->VK->Prop}(h:PE X (.Call (.Name f p') (e :: es) [] pos) (II rr (tAr X.K W (Jh r.ev es'))))
  (imp:∀ ρ H g us xs Q,RH X.K ρ H g->RVs X.K ρ H us xs->post X.K W (RV X.K) (Jf b us g) ρ H Q->rr xs H Q):PE X (.Call (.Name f p') (e :: es) [] pos) (tE X.K W (Jm C r (.bi b es'))):=by
 refine h.imp ?_;rintro σ H Q ⟨σu,ρ,g,hs,hg,p⟩;exact ⟨σu,ρ,g,hs,hg,(post.bind (R:=RVs X.K) p).mono λxs H1 ⟨ρ1,us,g1,s1,h1,rs,p1⟩=>imp ρ1 H1 g1 us xs Q h1 rs p1⟩
def imp_len(ρ:List Addr)(H:Hp)(g:G)(us:List U)(xs:List V)(Q:VK)(hg:RH X.K ρ H g)(rs:RVs X.K ρ H us xs)(p:post X.K W (RV X.K) (Jf .len us g) ρ H Q):
  ∃ p ys,xs=[.ref p]/\(SqL X.K H p ys\/SqT X.K H p ys)/\Q (.int ys.length) H:=by
 match us,rs with
 | [u],rs =>
  let ⟨x,r',rfl,r1,e⟩:=rs;cases e;simp! [Jf,Dh,Cv] at p;cases e:items u g with
  | none=>simp! [e] at p;exact p.elim
  | some zs =>
   simp! [e] at p;let ⟨q,vs,rfl,hq,rz⟩:=cQ hg r1 e;exact ⟨q,vs,rfl,hq,by rw [<-rz.length];exact okE p hg rfl⟩
 | [],_=>exact p.elim
 | _ :: _ :: _,_=>exact p.elim
def imp_abs(ρ:List Addr)(H:Hp)(g:G)(us:List U)(xs:List V)(Q:VK)(hg:RH X.K ρ H g)(rs:RVs X.K ρ H us xs)(p:post X.K W (RV X.K) (Jf .abs us g) ρ H Q):
  ∃ i,xs=[.int i]/\Q (.int (if i < 0 then -i else i)) H:=by
 match us,rs with
 | [u],rs =>
  let ⟨x,r',rfl,r1,e⟩:=rs;cases e;cases u with
  | int i=>cases r1;exact ⟨i,rfl,okE p hg rfl⟩
  | _=>exact p.elim
 | [],_=>exact p.elim
 | _ :: _ :: _,_=>exact p.elim
def vF{xs:List V}(hg:RH X.K ρ H g)(rs:RVs X.K ρ H us xs)(e:Bl us g=some ns):∃ p,xs=[.ref p]/\H p=some (.lst (ns.map V.int)):=by
 match us,rs with
 | [],_=>cases e
 | _ :: _ :: _,_=>unfold Bl at e;split at e <;> first | cases e | (rename_i h;cases h)
 | [u],rs =>
  let ⟨x,r',rfl,r1,e'⟩:=rs;cases e';cases u with
  | ref n =>
   simp! [Bl] at e;cases eg:g[n]? with
   | none=>rw [eg] at e;cases e
   | some ob =>
    cases ob with
    | lst us =>
     rw [eg] at e;let ⟨a,vs,hn,ha,rv⟩:=hg.lst eg;let ⟨a',rfl,hn'⟩:=r1;rw [hn] at hn';cases hn';exact ⟨a,rfl,by rw [ha,dU e rv]⟩
    | _=>rw [eg] at e;cases e
  | _=>cases e
def imp_mm{b:Bi}{m:Bool}(hb:∀ us g,Jf b us g=BY m us g)(ρ:List Addr)(H:Hp)(g:G)(us:List U)(xs:List V)(Q:VK)(hg:RH X.K ρ H g)(rs:RVs X.K ρ H us xs)(p:post X.K W (RV X.K) (Jf b us g) ρ H Q):Jy m xs H Q:=by
 rw [hb] at p;unfold BY at p;cases e:intsOf us with
 | some ns =>
  have ex:=dU e rs;subst ex;simp! [e] at p
  match ns,p with
  | [a,b],p=>exact .inl ⟨a,b,rfl,okE p hg rfl⟩
  | [a,b,c],p=>exact .inr (.inl ⟨a,b,c,rfl,okE p hg rfl⟩)
  | [],p=>exact p.elim
  | [_],p=>exact p.elim
  | _ :: _ :: _ :: _ :: _,p=>exact p.elim
 | none =>
  simp! [e] at p;cases e2:Bl us g with
  | none=>simp! [e2] at p;exact p.elim
  | some ns =>
   simp! [e2] at p;let ⟨q,rfl,hq⟩:=vF hg rs e2;cases ns with
   | nil=>exact p.elim
   | cons a r=>exact .inr (.inr ⟨q,a,r,rfl,hq,okE p hg rfl⟩)
def x9:PE X (.Dict [] [] pos) (tE X.K W (Jm C r .dnew)):=by
 refine (wN).imp ?_;rintro σ H Q ⟨σu,ρ,g,hs,hg,p⟩ q hq;refine p (.ref q) (ρ++[q]) _ (Stp.alloc hq) (hg.allocO hq ⟨[],rfl,rfl⟩) ⟨q,rfl,?_⟩;rw [<-hg.len];simp
end
open PySem PySem.Spec PyProof.Rows L2 PySem.W
section
variable{W:XQ}
def nU{K:HG}{ρ:List Addr}{H:Hp}:∀ {kvs:List (List Int×U)} {ws:List (List Key×V)},RD K ρ H kvs ws->ws.map (·.1)=kvs.map λkv=>kv.1.map Sum.inl
 | [],ws,h=>by cases h;rfl
 | (k,u) :: r,ws,⟨v,s,e,_,h⟩=>by subst e;rw [List.map_cons,List.map_cons,nU h]
def imp_list(ρ:List Addr)(H:Hp)(g:G)(us:List U)(xs:List V)(Q:VK)(hg:RH X.K ρ H g)(rs:RVs X.K ρ H us xs)(p:post X.K W (RV X.K) (Jf .list us g) ρ H Q):
  (∃ p ys,xs=[.ref p]/\(SqL X.K H p ys\/SqT X.K H p ys) /\ ∀ l,H l=none->Q (.ref l) (upd H l (.lst ys))):=by
 match us,rs with
 | [u],rs =>
  let ⟨x,r',rfl,r1,e⟩:=rs;cases e;simp! [Jf,Cv] at p;cases e:items u g with
  | none =>
   simp! [e] at p;exact p.elim
  | some zs =>
   simp! [e] at p;let ⟨q,vs,rfl,hq,rz⟩:=cQ hg r1 e;exact ⟨q,vs,rfl,hq,λl hl=>cR p hg rz l hl⟩
 | [],_=>exact p.elim
 | _ :: _ :: _,_=>exact p.elim
end
section
variable{E:Value->Shared->Prop}
def wI{id:String}{o:Addr}{oo:Obj}{es:Array DictEntry}{Q:Array DictEntry->Shared->Prop}(ho:s.heap.get? o=some oo)(hd:oo.data=.dict es ep)
  (hk:∀ e∈es,∃ b,e.key=.ref b/\s.TypeIs (.ref b) "tuple") (hh:∀ e∈es,¬ (es.filter (·.hash == e.hash)).size > 1) (h:Q es s):wpAny #[12] A (Builtin.Dict.entriesForEmpty id o) Q E s:=by
 unfold Builtin.Dict.entriesForEmpty;refine ZB (wpAny_dictEntries ho hd (ZB ?_));rw [<-Array.forIn_toList];have all:∀ l:List DictEntry,(∀ e∈l,e∈es)->wpAny #[12] A (forIn l PUnit.unit λe (_:PUnit)=>(do
   let q <- Builtin.Dict.quietEq e.key
   if (!q)=true then
    if (es.filter (·.hash == e.hash)).size > 1 then (do let _ <- (unsupported s!"{id}:keys-of-equal-hash" : Sem PUnit);pure (ForInStep.yield PUnit.unit)) else pure (ForInStep.yield PUnit.unit)
   else pure (ForInStep.yield PUnit.unit):Sem (ForInStep PUnit))) (λ_ s'=>wpAny #[12] A (pure es) Q E s') E s:=λl=>by
  induction l with
  | nil=>intro _;rw [List.forIn_nil];exact ZP (ZP h)
  | cons e l ih =>
   intro hl;let ⟨b,hb,ht⟩:=hk e (hl e (.head _));rw [List.forIn_cons,hb];refine ZB (ZB ?_);show wpAny _ _ (specialOf (.ref b) "__eq__" >>= _) _ _ _;refine ZB (wpAny_specialOf ht F.slot_tuple_eq.lookup (ZP ?_));rw [if_pos #[1],if_neg (hh e (hl e (.head _)))]
   exact ZP (ih λx hx=>hl x (.tail _ hx))
 exact all es.toList λe he=>Array.mem_toList_iff.mp he
def vL{id:String}{d o:Addr}{od oo:Obj}{es:Array DictEntry}{epd:Nat}{Q:Unit->Shared->Prop}(hne:d≠o)(hoS:(o == sysModules)=false)(hod:s.heap.get? d=some od)(hdd:od.data=.dict #[] epd)
  (ho:s.heap.get? o=some oo) (hd:oo.data=.dict es ep) (hk:∀ e∈es,∃ b,e.key=.ref b/\s.TypeIs (.ref b) "tuple") (hh:∀ e∈es,¬ (es.filter (·.hash == e.hash)).size > 1) (hs:es.size<=sizeLine) (h0:0 < es.size)
  (h:Q .unit { s with heap:=s.heap.update d (Obj.mapDictKeys λ_=>es) }):wpAny #[12] A (Builtin.Dict.mergeDict id d o) Q E s:=by
 have few:(decide (es.size<=8) && es.all λe=>(keyPart e.key).isSome)=false:=by
  rw [Bool.and_eq_false_iff]
  right
  rw [<-Bool.not_eq_true,Array.all_eq_true];intro z;let ⟨b,hb,_⟩:=hk es[0] (Array.getElem_mem h0);have:=z 0 h0;rw [hb] at this;cases this
 unfold Builtin.Dict.mergeDict;rw [if_neg (by simpa using hne)]
 unfold Builtin.Dict.showsAll;rw [if_neg (by rw [hoS];exact Hz)]
 refine ZB (ZP (ZB (wpAny_dictEntries ho hd ?_)));dsimp only;rw [few,if_pos #[2]]
 refine ZB (wpAny_dictEntries hod hdd ?_);rw [if_pos #[2]]
 refine ZB (wI ho hd hk hh ?_);rw [if_pos (by simp! [Bool.not_eq_true',Array.isEmpty_eq_false_iff];rintro rfl;exact absurd h0 (Nat.lt_irrefl _))]
 exact ZB (wpAny_updateDictKeysTo hod hdd (ZP h) ())
def v3{o:Addr}{oo:Obj}{es:Array DictEntry}{Q:Value->Shared->Prop}(hoS:(o == sysModules)=false)
  (ho:s.heap.get? o=some oo) (hx:oo.ExactDict) (hd:oo.data=.dict es ep) (hk:∀ e∈es,∃ b,e.key=.ref b/\s.TypeIs (.ref b) "tuple") (hh:∀ e∈es,¬ (es.filter (·.hash == e.hash)).size > 1) (hs:es.size<=sizeLine) (h0:0 < es.size)
  (h:Q (.ref s.heap.objs.size) { s with heap:=(s.heap.push { cls := .type "dict",data := .dict #[] }).update s.heap.objs.size (Obj.mapDictKeys λ_=>es) }):wpAny #[12] A (call (.type "dict") [.ref o]) Q E s:=by
 refine callType_codes (Q₁ := λobj s₁ => obj=.ref s.heap.objs.size/\s₁ = { s with heap:=s.heap.push { cls := .type "dict",data := .dict #[] } }) F.kt_called_dict (F.kt_typeCall_dict_1 _) F.entry_dict_init (kt_code_dict_new _ ⟨rfl,rfl⟩) ?_
 rintro obj s₁ ⟨rfl,rfl⟩;have hnew:(s.heap.push { cls := .type "dict",data := .dict #[] }).get? s.heap.objs.size=some { cls := .type "dict",data := .dict #[] }:=HE _ rfl;have tn:({ s with heap:=s.heap.push { cls := .type "dict",data := .dict #[] } }:Shared).TypeIs (.ref s.heap.objs.size) "dict" := ⟨_,hnew,rfl⟩
 have ho':(s.heap.push { cls := .type "dict",data := .dict #[] }).get? o=some oo:=Hw _ ho;have to:({ s with heap:=s.heap.push { cls := .type "dict",data := .dict #[] } }:Shared).TypeIs (.ref o) "dict" := ⟨_,ho',hx.1⟩
 refine ⟨tn,F.args_dict_init_2 _ _,?_⟩;unfold Builtin.«dict.__init__»;refine ZB ?_;unfold Builtin.Dict.selfAndRest;refine ZB (wpAny_notOrdered_dict tn ?_);show wpAny _ _ (pure (s.heap.objs.size,[Value.ref o])) _ _ _;refine ZP ?_;show wpAny _ _ (Builtin.Dict.updateFrom "dict.__init__" s.heap.objs.size (.ref o) [] .none) _ _ _;unfold Builtin.Dict.updateFrom;refine ZB (wpAny_typeOf to ?_);rw [if_neg #[1]]
 refine ZB ?_;unfold Builtin.Dict.merge;refine ZB ?_;unfold Builtin.Dict.readDirectly;refine ZB (wpAny_isInstance to isSubtype_dict_dict ?_);simp! [Bool.not_true,Bool.false_eq_true,if_false];refine ZB (wpAny_specialOf to F.slot_dict_iter.lookup (ZP ?_));simp! [beq_self_eq_true,if_true];refine ZB (ZP ?_);refine vL (Nat.ne_of_gt (Hx ho)) hoS hnew rfl ho' hd (λe he => ?_) hh hs h0 ?_
 .obtain ⟨b,e1,ob,e2,e3⟩:=hk e he
  exact ⟨b,e1,ob,Hw _ e2,e3⟩
 .show wpAny _ _ (Builtin.Dict.addKeywords s.heap.objs.size [] >>= _) _ _ _
  exact ZB (ZP (ZP ⟨rfl,h⟩))
end
def r6:∀ {l:List DictEntry} (_:(l.map (·.hash)).Nodup) (h:Int),(l.filter (·.hash == h)).length<=1
 | [],_,_=>Nat.zero_le _
 | e :: l,nd,h=>by
  rw [List.map_cons,List.nodup_cons] at nd;rw [List.filter_cons];split
  .rename_i z
   have:l.filter (·.hash == h)=[]:=List.filter_eq_nil_iff.mpr λx hx y=>nd.1 (by rw [eq_of_beq z,<-eq_of_beq y];exact List.mem_map.mpr ⟨x,hx,rfl⟩)
   rw [this];exact HA _
  .exact r6 nd.2 h
def uI{l:Addr}{o:HO}(hl:H l=none){ws:List (List Key×V)}{ys:List (List Key×Addr×Value)}(pr:Paired (λ(p:List Key×V) (q:List Key×Addr×Value)=>p.1=q.1/\H q.2.1=some (.tup (p.1.map Ic))/\RelV p.2 q.2.2) ws ys):
  Paired (λ(p:List Key×V) (q:List Key×Addr×Value)=>p.1=q.1/\upd H l o q.2.1=some (.tup (p.1.map Ic))/\RelV p.2 q.2.2) ws ys:=by
 induction pr with
 | nil=>exact .nil
 | cons z _ ih=>exact .cons ⟨z.1,by rw [ae (λe=>by have:=z.2.1;rw [e,hl] at this;cases this)];exact z.2.1,z.2.2⟩ ih
section
variable{W:XQ}
def GP(X:Cx):List V->Hp->VK->Prop:=λxs H Q => ∃ (a:Addr) (ws:List (List Key×V)) (ks:List #[26]),xs=[.ref a]/\Rd H a (.dT ws)/\ws.map (·.1)=ks.map (λk=>k.map Sum.inl)/\ks≠[]/\(∀ a∈ks,∀ b∈ks,hkL a=hkL b->a=b) /\ ∀ l,H l=none->Q (.ref l) (upd H l (.dT ws))
def call_dct:CallR X (.type "dict") (GP X):=by
 intro pins s σ H xs us Q I r ⟨a,ws,ks,e,rd,ew,hne,hh,q⟩;subst e;let ⟨u,rfl,rx⟩:=vals1 r;cases rx;let ⟨h1,h2,ys,pr,o,es,ep,h3,h4,h5,h6,h7⟩:=(show ObjOk X.prog X.w H s.heap a (.dT ws) from rd.ok I.hok);have ey:ys.map (·.1)=ks.map (λk=>k.map (Sum.inl:Int->Key)):=by
  rw [<-ew];clear h1 h6 h7 ew q rd
  induction pr with
  | nil=>rfl
  | cons z _ ih=>rw [List.map_cons,List.map_cons,ih,z.1]
 have tup:∀ y∈ys,∃ xs,H y.2.1=some (.tup xs):=by
  clear h1 h6 h7 ew q rd ey
  induction pr with
  | nil=>exact λy hy=>nomatch hy
  | cons z _ ih =>
   intro y hy;rcases List.mem_cons.mp hy with rfl | hy
   .exact ⟨_,z.2.1⟩
   .exact ih y hy
 have eh:es.toList.map (·.hash)=ks.map hkL:=by
  rw [h6,List.map_map];have:((λe:DictEntry=>e.hash) ∘ entryOfKey (tupleKind (Ay X.prog X.w)))=(λk=>(tupleKind (Ay X.prog X.w)).hash k) ∘ (λy:List Key×Addr×Value=>y.1):=rfl;rw [this,<-List.map_map,ey,List.map_map];refine List.map_congr_left λk _ => ?_;show reduceHash (Builtin.Tuple.tupleHashOf ((k.map Sum.inl).map (Ay X.prog X.w).hash))=reduceHash (Builtin.Tuple.tupleHashOf (k.map hashInt));rw [List.map_map];rfl
 have nd:(es.toList.map (·.hash)).Nodup:=by
  rw [eh];rw [ey] at h7;exact List.pairwise_map.mpr ((List.pairwise_map.mp h7).imp_of_mem λ{x y} hx hy z e=>z (by rw [hh x hx y hy e]))
 have hz:es.size=ks.length:=by rw [<-Array.length_toList,<-List.length_map (f:=(·.hash)),eh,List.length_map]
 have hl:ks.length=ws.length:=by rw [<-List.length_map (f:=(·.1)) (as:=ws),ew,List.length_map]
 have hne':0 < es.size:=by rw [hz];exact List.length_pos_iff.mpr hne
 have fresh:=I.hok.fresh (HA s.heap.objs.size);refine v3 h2 h3 h4 h5 (λe he => ?_) (λe he => ?_) () hne' ?_
 .have:e∈ys.map (entryOfKey (tupleKind (Ay X.prog X.w))):=by rw [<-h6];exact Array.mem_toList_iff.mpr he
  let ⟨y,hy,rfl⟩:=List.mem_map.mp this;let ⟨zs,hzs⟩:=tup y hy;let ⟨_,its,_,ob,Kk,o2,_⟩:=(show ObjOk X.prog X.w H s.heap y.2.1 (.tup zs) from I.hok _ _ hzs);exact ⟨y.2.1,rfl,ob,Kk,o2⟩
 .rw [<-Array.length_toList,Array.toList_filter]
  exact Nat.not_lt.mpr (r6 nd e.hash)
 .have hnew:(s.heap.push { cls := .type "dict",data := .dict #[] }).get? s.heap.objs.size=some { cls := .type "dict",data := .dict #[] }:=HE _ rfl
  refine ⟨.ref s.heap.objs.size,_,I.laid (t':=s.toks) (o := .dT ws) (λb ob e => ?_) (HA _) ?_,rfl,q _ fresh⟩
  .exact ((Heap.SameBut.update _ _ _).2 b (HD (Hx e))).trans (Hw _ e)
  .refine ⟨h1,beq_eq_false_iff_ne.mpr (Ne.symm (HD I.big)),ys,?_,_,es,_,Heap.get?_update_self _ hnew (Obj.isFreed_of_dict (Obj.data_mapDictKeys rfl _)),Obj.ExactDict.mapDictKeys ⟨rfl,rfl,rfl⟩ _,Obj.data_mapDictKeys rfl _,h6,h7⟩
   exact uI fresh pr
def imp_dct(ρ:List Addr)(H:Hp)(g:G)(us:List U)(xs:List V)(Q:VK)(hg:RH X.K ρ H g)(rs:RVs X.K ρ H us xs)(p:post X.K W (RV X.K) (Jf .dct us g) ρ H Q):GP X xs H Q:=by
 match us,rs with
 | [u],rs =>
  let ⟨x,r',rfl,r1,e⟩:=rs;cases e;simp! [Jf,C6] at p;cases ed:I0 u g with
  | none=>simp! [ed] at p;exact p.elim
  | some kvs =>
   simp! [ed] at p;by_cases hk:kvs≠[] /\ ∀ a∈kvs.map (·.1),∀ b∈kvs.map (·.1),hkL a=hkL b->a=b
   .rw [if_pos hk] at p
    have key:∃ a ws,x=.ref a/\Rd H a (.dT ws)/\RD X.K ρ H kvs ws:=by
     cases u with
     | ref n =>
      simp! [I0] at ed;cases eg:g[n]? with
      | none=>rw [eg] at ed;cases ed
      | some ob =>
       let ⟨a',rfl,hn'⟩:=r1;cases ob with
       | dic kvs' =>
        rw [eg] at ed;cases ed;let ⟨a,ws,hn,ha,rd⟩:=hg.dic eg;rw [hn] at hn';cases hn';exact ⟨_,ws,rfl,.inl ha,rd⟩
       | dif kvs' =>
        rw [eg] at ed;cases ed;let ⟨a,ob,ws,hn,ha,rd⟩:=hg.dif eg;rw [hn] at hn';cases hn';exact ⟨_,ws,rfl,.inr ⟨ob,ha⟩,rd⟩
       | _=>rw [eg] at ed;cases ed
     | _=>cases ed
    let ⟨a,ws,rfl,rd,r2⟩:=key;refine ⟨a,ws,kvs.map (·.1),rfl,rd,by rw [nU r2,List.map_map];rfl,by simpa using hk.1,hk.2,λl hl => ?_⟩
    refine p (.ref l) (ρ++[l]) _ (Stp.alloc hl) (hg.allocO hl ⟨ws,rfl,r2⟩) ⟨l,rfl,?_⟩;rw [<-hg.len];simp
   .rw [if_neg hk] at p;exact p.elim
 | [],_=>exact p.elim
 | _ :: _ :: _,_=>exact p.elim
end
open PySem PySem.Spec PyProof.Rows L2
section
variable{W:XQ}{p2:Pos}{a b c:Expr}{a' b' c':E}{lo hi:Option Expr}{lo' hi':Option E}
abbrev CL(K:HG)(W:XQ)(f:Su->G->Out (Option Int)):TO:=tR K W REq f
def yh:PO X none (CL X.K W (Ji r.ev none)):=λpins s σ H Q I ⟨σu,ρ,g,hs,hg,p⟩=>zm pins s σ H Q I (post.okHere (R:=REq) p hg rfl)
def xN(h:PE X e #[27]):PO X (some e) (CL X.K W (Ji r.ev (some e'))):=λpins s σ H Q I hp=>by
 refine yE h pins s σ H Q I (one (k:=λ_ u g=>match u with | .int i=>Out.ok (some i) g | _ => .bad) hp λσu ρ H g u x hs hg r1 p => ?_)
 cases u with
 | int i=>cases r1;exact ⟨i,rfl,post.okHere (R:=REq) p hg rfl⟩
 | _=>exact p.elim
def gx{l h:Option Int}(rs:RVs X.K ρ H us vs):RVs X.K ρ H (Be us l h) (BI vs l h):=by
 unfold Be BI;rw [rs.length];exact (rs.drop _).take _
def aaS(ha:PE X a #[8])(hl:PO X lo (CL X.K W (Ji r.ev lo')))(hh:PO X hi (CL X.K W (Ji r.ev hi'))):PE X (.Subscript a (.Slice lo hi none p2) pos) (tE X.K W (Jm C r (.slc a' lo' hi'))):=by
 refine (wO (yr.or abi) ha hl hh).imp ?_;rintro σ H Q ⟨σu,ρ,g,hs,hg,p⟩;refine ⟨σu,ρ,g,hs,hg,(post.bind p).mono λx H1 ⟨ρ1,u,g1,s1,h1,r1,p1⟩ => ?_⟩;refine ⟨σu,ρ1,g1,hs.step s1,h1,(post.bind (R:=REq) p1).mono λl H2 ⟨ρ2,l',g2,s2,h2,e2,p2⟩ => ?_⟩;subst e2;refine ⟨σu,ρ2,g2,#[40].step s2,h2,(post.bind (R:=REq) p2).mono λh H3 ⟨ρ3,h',g3,s3,h3,e3,p3⟩ => ?_⟩;subst e3;have r3:=RV.step s3 _ _ (RV.step s2 _ _ r1);cases u with
 | tup us =>
  let ⟨q,vs,rfl,t1,t2⟩:=r3;refine .inr ⟨q,vs,rfl,t1.sq,?_⟩;simp! [] at p3;rw [t2.length] at p3;split at p3
  .exact p3.elim
  .rename_i hn
   refine ⟨hn,λk hk => ?_⟩;exact p3 _ ρ3 _ (Stp.fresh hk) (h3.step_fresh hk) ⟨k,_,rfl,upd_same,RVs.step (Stp.fresh hk) _ _ (gx t2)⟩
 | fro us =>
  let ⟨q,vs,rfl,t1,t2⟩:=r3;exact .inl ⟨q,vs,rfl,t1.sq,λk hk=>cR p3 h3 (gx t2) k hk⟩
 | ref n =>
  let ⟨q,rfl,hn⟩:=r3;simp! [] at p3;cases eg:g3[n]? with
  | none=>simp! [eg] at p3;exact p3.elim
  | some o =>
   cases o with
   | lst us =>
    simp! [eg] at p3;let ⟨q',vs,t1,t2,t3⟩:=h3.lst eg;rw [hn] at t1;cases t1;exact .inl ⟨q,vs,rfl,.of t2,λk hk=>cR p3 h3 (gx t3) k hk⟩
   | dic _=>simp! [eg] at p3;exact p3.elim
   | dif _=>simp! [eg] at p3;exact p3.elim
   | dst _=>simp! [eg] at p3;exact p3.elim
   | ins _ _=>simp! [eg] at p3;exact p3.elim
 | _=>exact p3.elim
def aaR{k:Nat}{p3 p4:Pos}(ha:PE X a #[8]):PE X (.Subscript a (.Slice none none (some (.UnaryOp .USub (.Constant (.int 1) k p3) p4)) p2) pos) (tE X.K W (Jm C r (.rev a'))):=by
 intro pins s σ H Q I hp;have hp':tE X.K W (r.ev a') σ H (λx H1 => ∃ q vs,x=.ref q/\H1 q=some (.lst vs) /\ ∀ k,H1 k=none->Q (.ref k) (upd H1 k (.lst vs.reverse))):=one hp λσu ρ H g u x hs hg r1 p=>by
  cases u with
  | ref n =>
   let ⟨q,rfl,hn⟩:=r1;simp! [] at p;cases eg:g[n]? with
   | none=>simp! [eg] at p;exact p.elim
   | some o =>
    cases o with
    | lst us =>
     simp! [eg] at p;let ⟨q',vs,t1,t2,t3⟩:=hg.lst eg;rw [hn] at t1;cases t1;exact ⟨q,vs,rfl,t2,λk hk=>cR p hg t3.reverse k hk⟩
    | dic _=>simp! [eg] at p;exact p.elim
    | dif _=>simp! [eg] at p;exact p.elim
    | dst _=>simp! [eg] at p;exact p.elim
    | ins _ _=>simp! [eg] at p;exact p.elim
  | _=>exact p.elim
 refine Subscript_ (thn (ha pins s σ H _ I hp') ?_);rintro v s1 ⟨x,H1,I1,r1,q1⟩;let ⟨q,vs,rfl,hv,fin⟩:=q1;cases r1;refine wpAny_Slice ?_;rw [evalPart_none];refine ZP (ZP ?_);rw [evalPart_some];refine thn (sW pD om pins s1 σ H1 (λx H2=>x=.int (-1)/\H2=H1) I1 ⟨1,rfl,rfl,rfl⟩) ?_;rintro vst s2 ⟨z,H2,I2,rz,ez,eh⟩;subst ez;subst eh;let ⟨t,rfl⟩:=rz;have I3:L2.Inv X pins σ H2 { s2 with heap:=s2.heap.push { cls := .type "slice",data := .fields #[.none,.none,.int (-1) t] } }:=I2.kept (t':=s2.toks) λb ob q=>Hw _ q
 let ⟨its,n,rv,ho,hz⟩:=I3.lst hv;have hl:Heap.IsList (s2.heap.push { cls := .type "slice",data := .fields #[.none,.none,.int (-1) t] }) q its.toArray:=⟨_,ho,rfl,n,rfl⟩;have hlen:=rv.length;refine tail_any (ops:=[.ref q,.ref s2.heap.objs.size]) (T := "list") hl.typeIs slot_list_getitem.lookup ?_ (by with_unfolding_all rfl)
 refine wpAny_getItem_list_slice hl (Heap.IsSliceOf.new ..) .none .none (.int (-1) t) #[3] ?_ (by rw [List.size_toArray];omega)
 rw [PySem.W.krv_pick];have hf:=I3.hok.fresh (HA _);refine ⟨.ref _,_,I3.laid (t':=s2.toks) (o := .lst vs.reverse) (λb ob q=>Hw _ q) (HA _) ?_,rfl,fin _ hf⟩;exact ⟨by rw [List.length_reverse];exact hz,its.reverse,0,rv.reverse,HE _ rfl⟩
def tyName:Ty->String
 | .tint => "int" | .tbool => "bool" | .tstr => "str" | .ttuple => "tuple" | .tlist => "list" | .own _ => "?"
noncomputable def Ty.isB(t:Ty):Bool:=match t with | .own _=>false | _=>true
def ab6{x:V}{t:Ty}{k:Bool}{σ:L2.St}{v:Value}{Q:VK}(I:L2.Inv X pins σ H s)(hg:RH X.K ρ H g)(r1:RV X.K ρ H u x)(rx:RelV x v)
  (hT:t.isB=true) (e:AL t u g=some k) (q:Q (.bl k) H):wpAny #[5] X.A (call (.builtin "isinstance") [v,.type (tyName t)]) #[17] X.xe s:=by
 have fin:∀ tk,EP X pins σ Q (.bool k) { s with toks:=tk }:=λtk=>⟨.bl k,H,I.tok tk,rfl,q⟩
 have isT:∀ {p:Addr} {us:List U} {vs:List V},SqT X.K H p vs->AL t (.tup us) g=some k->wpAny #[5] X.A (call (.builtin "isinstance") [.ref p,.type (tyName t)]) #[17] X.xe s:=λ{p us vs} h e=>by
  let ⟨its,_,⟨o,h1,h2,_⟩,_⟩:=I.tuple h;cases t <;> first | (cases hT;done) | (simp! [AL,Option.some.injEq,reduceCtorEq] at e;subst e;exact PySem.W.kia_one PySem.W.kitx_tuple I.kIn ⟨o,h1,h2⟩ rfl (λz=>nomatch z) fin)
 have isL:∀ {p:Addr} {vs:List V},SqL X.K H p vs->CB t=some k->wpAny #[5] X.A (call (.builtin "isinstance") [.ref p,.type (tyName t)]) #[17] X.xe s:=λ{p vs} h e=>by
  let ⟨its,_,⟨o,n,h1,h2,_⟩,_⟩:=I.list h;cases t <;> first | (cases hT;done) | (simp! [CB,Option.some.injEq,reduceCtorEq] at e;subst e;exact PySem.W.kia_one PySem.W.kitx_list I.kIn ⟨o,h1,h2⟩ rfl (λz=>nomatch z) fin)
 cases u with
 | non=>cases r1;cases rx;cases t <;> first | (cases hT;done) | (simp! [AL,Option.some.injEq,reduceCtorEq] at e;subst e;exact PySem.W.kia_one PySem.W.kitx_none I.kIn True.intro rfl (λz=>nomatch z) fin)
 | bl b=>cases r1;cases rx;cases t <;> first | (cases hT;done) | (simp! [AL,Option.some.injEq,reduceCtorEq] at e;subst e;exact PySem.W.kia_one PySem.W.kitx_bool I.kIn True.intro rfl (λz=>nomatch z) fin)
 | int i=>cases r1;let ⟨tk,rfl⟩:=rx;cases t <;> first | (cases hT;done) | (simp! [AL,Option.some.injEq,reduceCtorEq] at e;subst e;exact PySem.W.kia_one PySem.W.kitx_int I.kIn True.intro rfl (λz=>nomatch z) fin)
 | str z=>cases r1;let ⟨tk,rfl⟩:=rx;cases t <;> first | (cases hT;done) | (simp! [AL,Option.some.injEq,reduceCtorEq] at e;subst e;exact PySem.W.kia_one PySem.W.kitx_str I.kIn True.intro rfl (λz=>nomatch z) fin)
 | tup us=>let ⟨p,vs,rfl,h1,h2⟩:=r1;cases rx;exact isT h1.sq e
 | fro us=>simp [AL] at e
 | ref n =>
  let ⟨p,rfl,hn⟩:=r1;cases rx;simp! [AL] at e;cases eg:g[n]? with
  | none=>simp! [eg] at e;cases e
  | some o =>
   cases o with
   | lst us =>
    simp! [eg] at e;let ⟨q',vs,t1,t2,t3⟩:=hg.lst eg;rw [hn] at t1;cases t1;exact isL (.of t2) e
   | dic _=>simp! [eg] at e;cases e
   | dif _=>simp! [eg] at e;cases e
   | dst _=>simp! [eg] at e;cases e
   | ins _ _=>simp! [eg] at e;cases t <;> first | (cases hT;done) | cases e
 | xn _ _=>simp [AL] at e
def aa4{t:Ty}{tn:Str}{p1 p2:Pos}(hT:t.isB=true)(ht:tn=Str.ofString (tyName t))(hgt:Gl X tn)(hmt:X.mg tn=none)(hbt:bootBuiltins tn=some (.type (tyName t)))(hn:tn ≠ "__name__")(hdb:(tn == ("__debug__" : Str))=false)
  (hg:Gl X "isinstance") (hm:X.mg "isinstance" = none) (ha:PE X a #[8]) (hs:∀ es,starEach (a :: es) X.env=(false,eval a X.env) :: starEach es X.env) :
  PE X (.Call (.Name "isinstance" p1) [a,.Name tn p2] [] pos) (tE X.K W (Jm C r (.isi a' t))):=by
 have hc:CallR X (.builtin "isinstance") (λxs H Q => ∃ x ρ g u k,xs=[x,.ty (tyName t)]/\RH X.K ρ H g/\RV X.K ρ H u x/\AL t u g=some k/\Q (.bl k) H):=by
  intro pins s σ H xs us Q I rs ⟨x,ρ,g,u,k,e,hg,r1,ek,q⟩;subst e;cases rs with
  | cons rx rs =>
   cases rs with
   | cons ry rs =>
    cases rs;cases ry;exact ab6 I hg r1 rx hT ek q
 refine (pe_callB hc hg hm #[2] (aL ha (aL (xo (v := .ty (tyName t)) hgt hmt hbt rfl hn hdb) bp rfl) (hs _)) #[1] #[1] (hs _) rfl).imp λσ H Q hp => ?_
 refine one hp λσu ρ H g u x hs hg r1 p => ?_;cases ek:AL t u g with
 | none=>simp! [ek] at p;exact p.elim
 | some k=>simp! [ek] at p;exact ⟨x,ρ,g,u,k,rfl,hg,r1,ek,okE p hg rfl⟩
def a8{x:V}(hg:RH X.K ρ H g)(r1:RV X.K ρ H (.ref n) x)(eg:g[n]? = some (.lst us)):∃ q vs,x=.ref q/\ρ[n]? = some q/\H q=some (.lst vs)/\RVs X.K ρ H us vs:=by
 let ⟨q,rfl,hn⟩:=r1;let ⟨q',vs,t1,t2,t3⟩:=hg.lst eg;rw [hn] at t1;cases t1;exact ⟨q,vs,rfl,hn,t2,t3⟩
def bJ{x:U}(e:Jg x g=some n):x=.ref n /\ ∃ us,g[n]? = some (.lst us):=by
 cases x <;> simp! [Jg,reduceCtorEq] at e
 rename_i m;cases eg:g[m]? with
 | none=>simp [eg] at e
 | some o =>
  cases o with
  | lst us=>simp! [eg,Option.some.injEq] at e;subst e;exact ⟨rfl,us,eg⟩
  | dic _=>simp [eg] at e
  | dif _=>simp [eg] at e
  | dst _=>simp [eg] at e
  | ins _ _=>simp [eg] at e
def nj{name:Str}{id:String}{rr:V->List V->Hp->VK->Prop}{f:Nat->U->G->Out U}(slot:Slot "list" name id)(hty:typeOf (.builtin id)=pure (.type "method_descriptor"))(mt:MtR X id rr)
  (imp:∀ ρ H g n q y v Q,RH X.K ρ H g->ρ[n]? = some q->RV X.K ρ H y v->post X.K W (RV X.K) (f n y g) ρ H Q->rr (.ref q) [v] H Q)
  (ho:PE X o #[35]) (ha:PE X a #[8]) (hbase:attributeBase o name X.env #[38]=eval o X.env) (hline:(apos.endLine == cpos.line)=true)
  (hs:∀ es,starEach (a :: es) X.env=(false,eval a X.env) :: starEach es X.env):PE X (.Call (.Attribute o name apos) [a] [] cpos) (tE X.K W (λσ g=>(r.ev o' σ g).bind λx g=>match Jg x g with
  | some n=>(r.ev a' σ g).bind λy g=>f n y g
  | none => .bad)):=by
 refine (acq (T := "list") PySem.F.plainAttrs_list slot hty mt ho (aL ha bp (hs _)) hbase (by rw [hs];rfl) hline (hs _) rfl).imp ?_;rintro σ H Q ⟨σu,ρ,g,hs,hg,p⟩
 refine ⟨σu,ρ,g,hs,hg,(post.bind p).mono λx H1 ⟨ρ1,u,g1,s1,h1,r1,p1⟩ => ?_⟩;cases ea:Jg u g1 with
 | none=>simp! [ea] at p1;exact p1.elim
 | some n =>
  simp! [ea] at p1;let ⟨rfl,us,eg⟩:=bJ ea;let ⟨q,vs,rfl,hn,t2,t3⟩:=a8 h1 r1 eg;refine ⟨.inl ⟨rfl,vs,.of t2⟩,σu,ρ1,g1,hs.step s1,h1,(post.bind p1).mono λy H2 ⟨ρ2,w,g2,s2,h2,r2,p2⟩ => ?_⟩;exact imp ρ2 H2 g2 n q w y Q h2 (s2.ext _ _ hn) r2 p2
def aU{q:Addr}(hg:RH X.K ρ H g)(hn:ρ[n]? = some q)(eg:g[n]? = some (.lst us)):∃ vs,H q=some (.lst vs)/\RVs X.K ρ H us vs:=by
 let ⟨q',vs,t1,t2,t3⟩:=hg.lst eg;rw [hn] at t1;cases t1;exact ⟨vs,t2,t3⟩
def aah(ho:PE X o #[35])(ha:PE X a #[8])(hbase:attributeBase o "append" X.env #[38]=eval o X.env)(hline:(apos.endLine == cpos.line)=true)
  (hs:∀ es,starEach (a :: es) X.env=(false,eval a X.env) :: starEach es X.env):PE X (.Call (.Attribute o "append" apos) [a] [] cpos) (tE X.K W (Jm C r (.app o' a'))):=by
 refine nj PySem.F.slot_list_append PySem.F.type_list_append ji (λρ H g n q y v Q hg hn ry p => ?_) ho ha hbase hline hs;simp! [A5] at p;cases eg:g[n]? with
 | none=>simp! [eg] at p;exact p.elim
 | some o =>
  cases o with
  | lst us =>
   simp! [eg] at p;let ⟨vs,t2,t3⟩:=aU hg hn eg;split at p
   .rename_i hl
    exact ⟨q,vs,v,rfl,rfl,t2,by rw [<-t3.length,sizeLine_eq];unfold Ae at hl;omega,p _ ρ _ (Stp.write hn t2) (hg.write hn t2 (t3.append (.one ry))) rfl⟩
   .exact p.elim
  | dic _=>simp! [eg] at p;exact p.elim
  | dif _=>simp! [eg] at p;exact p.elim
  | dst _=>simp! [eg] at p;exact p.elim
  | ins _ _=>simp! [eg] at p;exact p.elim
def aaA(ho:PE X o #[35])(ha:PE X a #[8])(hbase:attributeBase o "extend" X.env #[38]=eval o X.env)(hline:(apos.endLine == cpos.line)=true)
  (hs:∀ es,starEach (a :: es) X.env=(false,eval a X.env) :: starEach es X.env):PE X (.Call (.Attribute o "extend" apos) [a] [] cpos) (tE X.K W (Jm C r (.ext o' a'))):=by
 refine nj PySem.F.slot_list_extend PySem.F.type_list_extend vm (λρ H g n q y v Q hg hn ry p => ?_) ho ha hbase hline hs;simp! [Bp] at p;cases ea:Jg y g with
 | none=>simp! [ea] at p;exact p.elim
 | some m =>
  simp! [ea] at p;let ⟨rfl,zs,em⟩:=bJ ea;let ⟨q2,ws,rfl,hm,w2,w3⟩:=a8 hg ry em;cases eg:g[n]? with
  | none=>simp! [eg] at p;exact p.elim
  | some o =>
   cases o with
   | lst us =>
    simp! [eg,em] at p;let ⟨vs,t2,t3⟩:=aU hg hn eg;split at p
    .rename_i hl
     exact ⟨q,q2,vs,ws,rfl,rfl,t2,w2,by rw [<-t3.length,<-w3.length,sizeLine_eq];unfold Ae at hl;omega,p _ ρ _ (Stp.write hn t2) (hg.write hn t2 (t3.append w3)) rfl⟩
    .exact p.elim
   | dic _=>simp! [eg] at p;exact p.elim
   | dif _=>simp! [eg] at p;exact p.elim
   | dst _=>simp! [eg] at p;exact p.elim
   | ins _ _=>simp! [eg] at p;exact p.elim
def abp(ho:PE X o #[35])(hbase:attributeBase o "pop" X.env #[38]=eval o X.env)(hline:(apos.endLine == cpos.line)=true):
  PE X (.Call (.Attribute o "pop" apos) [] [] cpos) (tE X.K W (Jm C r (.pop o'))):=by
 refine (nP (T := "list") PySem.F.plainAttrs_list PySem.F.slot_list_pop PySem.F.type_list_pop abD ho hbase hline).imp λσ H Q hp=>one hp λσu ρ H g u x hs hg r1 p => ?_;cases ea:Jg u g with
 | none=>simp! [ea] at p;exact p.elim
 | some n =>
  simp! [ea] at p;let ⟨rfl,us,eg⟩:=bJ ea;let ⟨q,vs,rfl,hn,t2,t3⟩:=a8 hg r1 eg;refine ⟨.inl ⟨rfl,vs,.of t2⟩,?_⟩;simp! [Bg,eg] at p;cases el:us[us.length - 1]? with
  | none=>simp! [el] at p;exact p.elim
  | some y =>
   simp! [el] at p;let ⟨v,ev,rv⟩:=t3.get el;exact ⟨q,vs,v,rfl,rfl,t2,by rw [<-t3.length];exact ev,p _ ρ _ (Stp.write hn t2) (hg.write hn t2 t3.dropLast) (RV.step (Stp.write hn t2) _ _ rv)⟩
def aci{x:V}(hg:RH X.K ρ H g)(r1:RV X.K ρ H u x)(e:I0 u g=some kvs):∃ a,x=.ref a/\IsD H a:=by
 cases u with
 | ref n =>
  simp! [I0] at e;cases eg:g[n]? with
  | none=>rw [eg] at e;cases e
  | some ob =>
   let ⟨a',rfl,hn'⟩:=r1;cases ob with
   | dic kvs'=>let ⟨a,ws,hn,ha,rd⟩:=hg.dic eg;rw [hn] at hn';cases hn';exact ⟨_,rfl,.inr ⟨ws,.inl ha⟩⟩
   | dif kvs'=>let ⟨a,ob,ws,hn,ha,rd⟩:=hg.dif eg;rw [hn] at hn';cases hn';exact ⟨_,rfl,.inr ⟨ws,.inr ⟨ob,ha⟩⟩⟩
   | _=>rw [eg] at e;cases e
 | _=>cases e
def aaz{k x:Expr}{k' x':E}(hu:X.A.units+1 < cLine)(ho:PE X o #[35])(hk:PE X k (tE X.K W (r.ev k')))(hx:PE X x (tE X.K W (r.ev x')))(hbase:attributeBase o "get" X.env #[38]=eval o X.env)(hline:(apos.endLine == cpos.line)=true)
  (hs:∀ es,starEach (k :: es) X.env=(false,eval k X.env) :: starEach es X.env) (hs2:∀ es,starEach (x :: es) X.env=(false,eval x X.env) :: starEach es X.env):PE X (.Call (.Attribute o "get" apos) [k,x] [] cpos) (tE X.K W (Jm C r (.dgt o' k' x'))):=by
 refine (wG hu ho hk hx ⟨hbase,by rw [hs,hs2];rfl,hline,by rw [hs,hs2];rfl⟩).imp ?_;rintro σ H Q ⟨σu,ρ,g,hs,hg,p⟩
 refine ⟨σu,ρ,g,hs,hg,(post.bind p).mono λx H1 ⟨ρ1,u,g1,s1,h1,r1,p1⟩ => ?_⟩;cases ed:I0 u g1 with
 | none=>simp! [ed] at p1;exact p1.elim
 | some kvs =>
  simp! [ed] at p1;let ⟨a,rfl,isd⟩:=aci h1 r1 ed;refine ⟨a,rfl,isd,σu,ρ1,g1,hs.step s1,h1,(post.bind p1).mono λy H2 ⟨ρ2,w,g2,s2,h2,r2,p2⟩=>⟨σu,ρ2,g2,#[40].step s2,h2,(post.bind p2).mono λz H3 ⟨ρ3,q,g3,s3,h3,r3,p3⟩ => ?_⟩⟩;cases el:Aj w u g3 with
  | none=>simp! [el] at p3;exact p3.elim
  | some oo =>
   simp! [el] at p3;let ⟨a',ov,ea,dg,es,got⟩:=dX h3 (RV.step s3 _ _ r2) (RV.step (s2.trans s3) _ _ r1) el;cases ea;refine ⟨ov,dg,?_⟩;cases oo with
   | none =>
    cases ov with
    | none=>exact okE p3 h3 r3
    | some _=>cases es
   | some uu =>
    let ⟨v,rfl,rv⟩:=got uu rfl;exact okE p3 h3 rv
def zz(ho:PE X o #[35])(hbase:attributeBase o "clear" X.env #[38]=eval o X.env)(hline:(apos.endLine == cpos.line)=true):
  PE X (.Call (.Attribute o "clear" apos) [] [] cpos) (tE X.K W (Jm C r (.revm true o'))):=by
 refine (nP (T := "list") PySem.F.plainAttrs_list PySem.F.slot_list_clear PySem.F.type_list_clear xh ho hbase hline).imp λσ H Q hp=>one hp λσu ρ H g u x hs hg r1 p => ?_;cases ea:Jg u g with
 | none=>simp! [ea] at p;exact p.elim
 | some n =>
  simp! [ea] at p;let ⟨rfl,us,eg⟩:=bJ ea;let ⟨q,vs,rfl,hn,t2,t3⟩:=a8 hg r1 eg;refine ⟨.inl ⟨rfl,vs,.of t2⟩,?_⟩;simp! [BD,eg] at p;exact ⟨q,vs,rfl,rfl,t2,p _ ρ _ (Stp.write hn t2) (hg.write hn t2 rfl) rfl⟩
end
section
variable(K:HG)
inductive tG(t:Tg)(v:V)(σ:L2.St)(H:Hp)(Q:L2.St->Hp->Prop):Prop
 | mk (σu:Su) (ρ:List Addr) (g:G) (u:U) (σu':Su) (hs:RS K ρ H σu σ) (hg:RH K ρ H g) (r:RV K ρ H u v) (e:Ah t (Jj t u g) σu=some σu') (q:∀ σ',RS K ρ H σu' σ'->Q σ' H)
inductive tGs(is:List Nat)(vs:List V)(σ:L2.St)(H:Hp)(Q:L2.St->Hp->Prop):Prop
 | mk (σu:Su) (ρ:List Addr) (us:List U) (σu':Su) (hs:RS K ρ H σu σ) (r:RVs K ρ H us vs) (e:bindL is us σu=some σu') (q:∀ σ',RS K ρ H σu' σ'->Q σ' H)
def RI(ρ:List Addr)(H:Hp)(i:Iter)(J:It):Prop:=match i with
 | .lst n => ∃ a,ρ[n]? = some a/\J=Itl K a
 | .dic n => ∃ a o ws,ρ[n]? = some a/\H a=some (.frz o (.dT ws))/\J=Itd a o ws
 | .enm n => ∃ a,ρ[n]? = some a/\J=Ite K a
 | .zip n m => ∃ a b,ρ[n]? = some a/\ρ[m]? = some b/\J=Itz K a b
 | .seq us => ∃ a vs,(SqU K H a vs\/SqC K a vs)/\RVs K ρ H us vs/\J=Itt K a
 | .rng lo n=>J=Itr lo n
abbrev tI(W:XQ)(f:Su->G->Out Iter):TI:=tR K W (RI K) f
end
def RI.step{K:HG}{ρ ρ':List Addr}{H H':Hp}{i:Iter}{J:It}(s:Stp K ρ H ρ' H')(h:RI K ρ H i J):RI K ρ' H' i J:=by
 cases i with
 | lst n=>let ⟨a,h1,h2⟩:=h;exact ⟨a,s.ext _ _ h1,h2⟩
 | dic n=>let ⟨a,o,ws,h1,h2,h3⟩:=h;exact ⟨a,o,ws,s.ext _ _ h1,s.frz _ _ _ h2,h3⟩
 | enm n=>let ⟨a,h1,h2⟩:=h;exact ⟨a,s.ext _ _ h1,h2⟩
 | zip n m=>let ⟨a,b,h1,h2,h3⟩:=h;exact ⟨a,b,s.ext _ _ h1,s.ext _ _ h2,h3⟩
 | seq us=>let ⟨a,vs,h1,h2,h3⟩:=h;exact ⟨a,vs,h1.imp_left (s.tup _ _),RVs.step s _ _ h2,h3⟩
 | rng lo n=>exact h
section
variable{W:XQ}{p2:Pos}{a b c:Expr}{a' b' c':E}{t:Tg}
def jj{t:Tg}{σ σ1:Su}(h:Ah t u σ=some σ1):Ah t (Jj t u g) σ=some σ1:=by
 cases t with
 | nm i=>exact h
 | tp is =>
  cases u with
  | ref n=>simp [Ah] at h
  | _=>exact h
def Hc(K:HG)(n:Nat)(t:TGs):TG:=λv σ H Q => ∃ a xs,v=.ref a/\SqL K H a xs/\xs.length=n/\t xs σ H Q
def xH{k:Nat}{t:TGs}(hc:X.calm=true)(h:PGs X es t)
  (hn:(assignEach es X.env).length=n) (hst:(assignEach es X.env).findIdx? (·.1)=none):PG X (.Tuple es k pos) (Hc X.K n t):=by
 intro pins s σ H v u Q I r hw;let ⟨a,xs,e1,hq,hl,hw⟩:=hw;subst e1;cases r;let ⟨its,rv,⟨o,m,e,hcls,hdic,hdat⟩,hz⟩:=I.list hq;have hL:s.heap.IsList a its.toArray:=⟨o,e,hcls,m,hdat⟩;rw [assign_Tuple];refine ZB (wpAny_standAt ?_);unfold unpack;have hlen:(assignEach es X.env).length=its.toArray.size:=by simp [hn,<-hl,rv.length]
 rw [hlen,hst];refine ZB (wpAny_holding (PySem.W.kun_itemsOf #[34] hL λh' hx => ?_));have I1:Inv X pins σ H { s with heap:=h' }:=I.kept (t':=s.toks) λb o e=>hx b o (HD (Hx e)) e
 exact h pins _ σ H xs _ Q I1 (by simpa using rv) hw
def ac6(hN:X.N.Nodup)(hi:X.N[i]? = some x)(hx:Loc X.env.scope x)(hf:X.fn x=true\/X.env.scope.names.lookup x=some .local):PG X (.Name x pos) (tG X.K (.nm i)):=by
 intro pins s σ H v u Q I rv ⟨σu,ρ,g,w,σu',hs,hg,rw',e,q⟩;refine ko hN hi hx hf pins s σ H v u Q I rv ?_;simp! [Jj,Ah] at e;split at e
 .cases e;exact q _ (hs.set rw')
 .cases e
def sgs_nil:PGs X [] (tGs X.K []):=by
 intro pins s σ H vs us Q I rv ⟨σu,ρ,ws,σu',hs,rw',e,q⟩;refine x8 pins s σ H vs us Q I rv ?_;cases ws with
 | nil=>cases rw';cases e;exact ⟨rfl,q _ hs⟩
 | cons _ _=>cases e
def wL{is:List Nat}(hN:X.N.Nodup)(hi:X.N[i]? = some x)(hx:Loc X.env.scope x)(hf:X.fn x=true\/X.env.scope.names.lookup x=some .local)(h:PGs X ts (tGs X.K is)):PGs X (.Name x pos :: ts) (tGs X.K (i :: is)):=by
 intro pins s σ H vs us Q I rv ⟨σu,ρ,ws,σu',hs,rw',e,q⟩;refine wa (ko hN hi hx hf) h rfl pins s σ H vs us Q I rv ?_;cases ws with
 | nil=>cases e
 | cons w ws =>
  let ⟨v,vr,rfl,r1,r2⟩:=rw';simp! [bindL] at e;split at e
  .exact ⟨v,vr,rfl,_,ρ,ws,σu',hs.set r1,r2,e,q⟩
  .cases e
def fJ:∀ {is:List Nat} {us:List U} {σ σ':Su},bindL is us σ=some σ'->us.length=is.length
 | [],[],_,_,_=>rfl
 | _ :: is,_ :: us,_,_,e=>by
  simp! [bindL] at e;split at e
  .simp [fJ e]
  .cases e
 | [],_ :: _,_,_,e=>by simp [bindL] at e
 | _ :: _,[],_,_,e=>by simp [bindL] at e
def adb{is:List Nat}{k:Nat}(hc:X.calm=true)(h:PGs X ts (tGs X.K is))(hn:(assignEach ts X.env).length=is.length)(hst:(assignEach ts X.env).findIdx? (·.1)=none):PG X (.Tuple ts k pos) (tG X.K (.tp is)):=by
 intro pins s σ H v u Q I rv ⟨σu,ρ,g,w,σu',hs,hg,rw',e,q⟩;cases w with
 | tup us =>
  refine aaV hc h hn hst pins s σ H v u Q I rv ?_;let ⟨a,vs,rfl,h1,h2⟩:=rw';have e':bindL is us σu=some σu':=e;exact ⟨a,vs,rfl,h1.sq,by rw [<-h2.length];exact fJ e',σu,ρ,us,σu',hs,h2,e',q⟩
 | ref n =>
  simp! [Jj] at e;cases eg:g[n]? with
  | none=>simp [eg,Ah] at e
  | some o =>
   cases o with
   | lst xs =>
    refine xH hc h hn hst pins s σ H v u Q I rv ?_;let ⟨a,vs,hr,hH,h2⟩:=hg.lst eg;let ⟨a',rfl,hr'⟩:=rw';rw [hr] at hr';cases hr';have e':bindL is xs σu=some σu':=by simpa [eg,Ah] using e
    exact ⟨a,vs,rfl,.of hH,by rw [<-h2.length];exact fJ e',σu,ρ,xs,σu',hs,h2,e',q⟩
   | _=>simp [eg,Ah] at e
 | _=>simp [Jj,Ah] at e
def zG{l:Expr}{l':E}(hl:PE X l (tE X.K W (r.ev l'))):PI X tg l (tI X.K W (λσ g=>(r.ev l' σ g).bind λu g=>match u with
  | .tup xs=>Out.ok (Iter.seq xs) g
  | .xn _ xs=>Out.ok (Iter.seq xs) g
  | .ref n=>match g[n]? with
   | some (.lst _) => .ok (.lst n) g
   | some (.dic kvs) => .ok (.dic n) (g.set n (.dif kvs))
   | some (.dif _) => .ok (.dic n) g
   | _ => .bad
  | _ => .bad)):=by
 intro pins s σ H R I hp;have hp':tE X.K W (r.ev l') σ H (λx H1=>(∃ a,x=.ref a/\(∃ xs,SqL X.K H1 a xs)/\R (Itl X.K a) H1)\/(∃ a,x=.ref a/\(∃ xs,SqT X.K H1 a xs)/\R (Itt X.K a) H1)\/(∃ a ws,x=.ref a/\H1 a=some (.dT ws) /\ ∀ o,R (Itd a o ws) (upd H1 a (.frz o (.dT ws)))) \/ ∃ a o ws,x=.ref a/\H1 a=some (.frz o (.dT ws))/\R (Itd a o ws) H1):=by
  refine one (R:=RI X.K) hp λσu ρ H g u x hs hg r1 p => ?_;cases u with
  | tup us=>let ⟨a,vs,rfl,h1,h2⟩:=r1;exact .inr (.inl ⟨a,rfl,⟨vs,h1.sq⟩,post.okHere (R:=RI X.K) p hg ⟨a,vs,.inl h1,h2,rfl⟩⟩)
  | xn _ us=>let ⟨a,vs,rfl,h1,h2⟩:=r1;exact .inr (.inl ⟨a,rfl,⟨vs,h1.sq⟩,post.okHere (R:=RI X.K) p hg ⟨a,vs,.inr h1,h2,rfl⟩⟩)
  | ref n =>
   simp! [] at p;cases eg:g[n]? with
   | none=>simp! [eg] at p;exact p.elim
   | some o =>
    cases o with
    | lst us =>
     simp! [eg] at p;let ⟨q,vs,rfl,hn,t2,t3⟩:=a8 hg r1 eg;exact .inl ⟨q,rfl,⟨vs,.of t2⟩,post.okHere (R:=RI X.K) p hg ⟨q,hn,rfl⟩⟩
    | dic kvs =>
     simp! [eg] at p;let ⟨q,ws,hn,ha,rd⟩:=hg.dic eg;let ⟨q',rfl,hn'⟩:=r1;rw [hn] at hn';cases hn';refine .inr (.inr (.inl ⟨q,ws,rfl,ha,λo => ?_⟩));exact p _ ρ _ (Stp.writeO hn ha trivial) (hg.writeO hn ha trivial ⟨o,ws,rfl,rd⟩) ⟨q,o,ws,hn,upd_same,rfl⟩
    | dif kvs =>
     simp! [eg] at p;let ⟨q,o,ws,hn,ha,rd⟩:=hg.dif eg;let ⟨q',rfl,hn'⟩:=r1;rw [hn] at hn';cases hn';exact .inr (.inr (.inr ⟨q,o,ws,rfl,ha,post.okHere (R:=RI X.K) p hg ⟨q,o,ws,hn,ha,rfl⟩⟩))
    | dst _=>simp! [eg] at p;exact p.elim
    | ins _ _=>simp! [eg] at p;exact p.elim
  | _=>exact p.elim
 refine thn (hl pins s σ H _ I hp') ?_;rintro v s1 ⟨x,H1,I1,r1,q1⟩;rcases q1 with ⟨a,e,⟨xs,hq⟩,q⟩ | ⟨a,e,⟨xs,hq⟩,q⟩ | ⟨a,ws,e,ha,q⟩ | ⟨a,o,ws,e,ha,q⟩
 .subst e
  cases r1;let ⟨its,rv,p,hz⟩:=I1.list hq;refine wpAny_pyIter_list p.isList ?_;refine ⟨s1.heap.objs.size,[s1.heap.objs.size],_,_,H1,rfl,I1.kept (t':=s1.toks) λb o e=>Hw _ e,vN a _,⟨_,HE _ rfl,rfl,rfl⟩,λb hb => ?_,q⟩;have e:b=s1.heap.objs.size:=by simpa using hb
  subst e;exact I1.fpOk (HA _) (I1.hok.fresh (HA _))
 .subst e
  cases r1;let ⟨its,rv,p,hz⟩:=I1.tuple hq;refine wpAny_pyIter_tuple (show s1.heap.IsTuple a its.toArray from p) ?_;refine ⟨s1.heap.objs.size,[s1.heap.objs.size],_,_,H1,rfl,I1.kept (t':=s1.toks) λb o e=>Hw _ e,uU a _,⟨_,HE _ rfl,rfl,rfl⟩,λb hb => ?_,q⟩;have e:b=s1.heap.objs.size:=by simpa using hb
  subst e;exact I1.fpOk (HA _) (I1.hok.fresh (HA _))
 .subst e
  cases r1;let ⟨o,I2⟩:=I1.freeze ha;exact qH I2 upd_same (q o)
 .subst e
  cases r1;exact qH I1 ha q
def PI.imp{iter:Expr}{t t':TI}(h:PI X tg iter t)(q:∀ σ H Q,t' σ H Q->t σ H Q):PI X tg iter t':=λpins s σ H Q I h'=>h pins s σ H Q I (q σ H Q h')
def aaY{tp:Pos}(hg:Gl X "enumerate")(hm:X.mg "enumerate" = none)(ha:PE X a #[8])(hs:∀ es,starEach (a :: es) X.env=(false,eval a X.env) :: starEach es X.env):
  PI X (.Tuple elts x1 tp) (.Call (.Name "enumerate" p) [a] [] pos) (tI X.K W (Jk r (.enm a'))):=by
 refine PI.imp (yn hg hm (aL ha bp (hs _)) (hs _)) λσ H R hp=>one (R:=RI X.K) hp λσu ρ H g u x hs hg r1 p => ?_;cases ea:Jg u g with
 | none=>simp! [ea] at p;exact p.elim
 | some n =>
  simp! [ea] at p;let ⟨rfl,us,eg⟩:=bJ ea;let ⟨q,vs,rfl,hn,t2,t3⟩:=a8 hg r1 eg;exact ⟨q,rfl,⟨vs,.of t2⟩,post.okHere (R:=RI X.K) p hg ⟨q,hn,rfl⟩⟩
def aa5{tp:Pos}(hg:Gl X "zip")(hm:X.mg "zip" = none)(ha:PE X a #[8])(hb:PE X b #[16])(hs:∀ es,starEach (a :: es) X.env=(false,eval a X.env) :: starEach es X.env)(hs2:∀ es,starEach (b :: es) X.env=(false,eval b X.env) :: starEach es X.env):
  PI X (.Tuple elts x1 tp) (.Call (.Name "zip" p) [a,b] [] pos) (tI X.K W (Jk r (.zip a' b'))):=by
 refine PI.imp (abU hg hm (aL ha (aL hb bp (hs2 _)) (hs _)) hs (hs2 _)) λσ H R hp=>two (R:=RI X.K) hp λσu ρ H g u w x y hs hg r1 r2 p => ?_;cases ea:Jg u g with
 | none=>simp! [ea] at p;exact p.elim
 | some n =>
  cases eb:Jg w g with
  | none=>simp! [ea,eb] at p;exact p.elim
  | some m =>
   simp! [ea,eb] at p;let ⟨rfl,us,eg⟩:=bJ ea;let ⟨rfl,us',eg'⟩:=bJ eb;let ⟨q,vs,rfl,hn,t2,t3⟩:=a8 hg r1 eg;let ⟨q',vs',rfl,hn',t2',t3'⟩:=a8 hg r2 eg';exact ⟨q,q',rfl,⟨vs,.of t2⟩,⟨vs',.of t2'⟩,post.okHere (R:=RI X.K) p hg ⟨q,q',hn,hn',rfl⟩⟩
def x3(hg:Gl X "range")(hm:X.mg "range" = none)(ha:PE X a #[8])(hs:∀ es,starEach (a :: es) X.env=(false,eval a X.env) :: starEach es X.env):
  PI X tg (.Call (.Name "range" p) [a] [] pos) (tI X.K W (Jk r (.rng1 a'))):=by
 refine PI.imp (vE hg hm (aL ha bp (hs _)) (hs _)) λσ H R hp=>one (R:=RI X.K) hp λσu ρ H g u x hs hg r1 p => ?_;cases u with
 | int j =>
  cases r1;simp! [] at p;split at p
  .rename_i hj
   exact ⟨j,rfl,by omega,by omega,post.okHere (R:=RI X.K) p hg rfl⟩
  .exact p.elim
 | _=>exact p.elim
def yP(hg:Gl X "range")(hm:X.mg "range" = none)(ha:PE X a #[8])(hb:PE X b #[16])(hs:∀ es,starEach (a :: es) X.env=(false,eval a X.env) :: starEach es X.env)
  (hs2:∀ es,starEach (b :: es) X.env=(false,eval b X.env) :: starEach es X.env):PI X tg (.Call (.Name "range" p) [a,b] [] pos) (tI X.K W (Jk r (.rng2 a' b'))):=by
 refine PI.imp (vB hg hm (aL ha (aL hb bp (hs2 _)) (hs _)) (by rw [hs,hs2];rfl) (hs2 _)) λσ H R hp=>two (R:=RI X.K) hp λσu ρ H g u w x y hs hg r1 r2 p => ?_
 cases u with
 | int i =>
  cases w with
  | int j =>
   cases r1;cases r2;simp! [] at p;split at p
   .exact ⟨i,j,rfl,by omega,post.okHere (R:=RI X.K) p hg rfl⟩
   .exact p.elim
  | _=>exact p.elim
 | _=>cases w <;> exact p.elim
def lZ{J:It}(hg:RH X.K ρ H g)(ri:RI X.K ρ H it J)(e:next it i g=some none):J.stop i H:=by
 cases it with
 | lst n =>
  let ⟨a,h1,rfl⟩:=ri;simp! [next] at e;cases eg:g[n]? with
  | none=>simp [eg] at e
  | some o =>
   cases o with
   | lst us =>
    simp! [eg,Option.some.injEq] at e;let ⟨vs,t2,t3⟩:=aU hg h1 eg;exact ⟨vs,.of t2,List.getElem?_eq_none_iff.mp (t3.none_of e)⟩
   | dic _=>simp [eg] at e
   | dif _=>simp [eg] at e
   | dst _=>simp [eg] at e
   | ins _ _=>simp [eg] at e
 | dic n =>
  let ⟨a,o,ws,h1,h2,rfl⟩:=ri;simp! [next] at e;cases eg:g[n]? with
  | none=>simp [eg] at e
  | some ob =>
   cases ob with
   | dif kvs =>
    let ⟨a',o',ws',h1',h2',rd⟩:=hg.dif eg;rw [h1] at h1';cases h1';rw [h2] at h2';cases h2';simp! [eg,Option.some.injEq,Option.map_eq_none_iff] at e;exact ⟨h2,by rw [<-rd.len];exact List.getElem?_eq_none_iff.mp e⟩
   | _=>simp [eg] at e
 | enm n =>
  let ⟨a,h1,rfl⟩:=ri;simp! [next] at e;cases eg:g[n]? with
  | none=>simp [eg] at e
  | some o =>
   cases o with
   | lst us =>
    simp! [eg,Option.some.injEq,Option.map_eq_none_iff] at e;let ⟨vs,t2,t3⟩:=aU hg h1 eg;exact ⟨vs,.of t2,List.getElem?_eq_none_iff.mp (t3.none_of e)⟩
   | _=>simp [eg] at e
 | zip n m =>
  let ⟨a,b,h1,h2,rfl⟩:=ri;simp! [next] at e;cases eg:g[n]? with
  | none=>simp [eg] at e
  | some o =>
   cases o with
   | lst us =>
    cases eg':g[m]? with
    | none=>simp [eg,eg'] at e
    | some o' =>
     cases o' with
     | lst us' =>
      simp! [eg,eg',Option.some.injEq] at e;let ⟨vs,t2,t3⟩:=aU hg h1 eg;let ⟨vs',t2',t3'⟩:=aU hg h2 eg';refine ⟨vs,vs',.of t2,.of t2',?_⟩;cases ex:us[i]? with
      | none=>exact .inl (List.getElem?_eq_none_iff.mp (t3.none_of ex))
      | some z =>
       rw [ex,Option.bind_some,Option.map_eq_none_iff] at e;exact .inr (List.getElem?_eq_none_iff.mp (t3'.none_of e))
     | _=>simp [eg,eg'] at e
   | _=>simp [eg] at e
 | seq us =>
  let ⟨a,vs,h1,h2,rfl⟩:=ri;simp! [next,Option.some.injEq] at e;exact ⟨vs,h1.elim SqU.sq SqC.sq,List.getElem?_eq_none_iff.mp (h2.none_of e)⟩
 | rng lo n =>
  cases ri;simp! [next,Option.some.injEq] at e;split at e
  .cases e
  .rename_i h;exact Nat.le_of_not_lt h
def qO{J:It}(hg:RH X.K ρ H g)(ri:RI X.K ρ H it J)(e:next it i g=some (some u)):J.go i H /\ ∀ x H',J.yld i H x H'->Stp X.K ρ H ρ H'/\RH X.K ρ H' g/\RV X.K ρ H' u x:=by
 have here:∀ {x:V} {H':Hp},H'=H->RV X.K ρ H u x->Stp X.K ρ H ρ H'/\RH X.K ρ H' g/\RV X.K ρ H' u x:=λe r=>by subst e;exact ⟨.refl,hg,r⟩
 cases it with
 | lst n =>
  let ⟨a,h1,rfl⟩:=ri;simp! [next] at e;cases eg:g[n]? with
  | none=>simp [eg] at e
  | some o =>
   cases o with
   | lst us =>
    simp! [eg,Option.some.injEq] at e;let ⟨vs,t2,t3⟩:=aU hg h1 eg;let ⟨v,ev,rv⟩:=t3.get e;refine ⟨⟨vs,v,.of t2,ev⟩,λx H' ⟨h1,h2⟩=>here h1 ?_⟩;have:=h2 vs (.of t2);rw [ev] at this;cases this;exact rv
   | dic _=>simp [eg] at e
   | dif _=>simp [eg] at e
   | dst _=>simp [eg] at e
   | ins _ _=>simp [eg] at e
 | dic n =>
  let ⟨a,o,ws,h1,h2,rfl⟩:=ri;simp! [next] at e;cases eg:g[n]? with
  | none=>simp [eg] at e
  | some ob =>
   cases ob with
   | dif kvs =>
    let ⟨a',o',ws',h1',h2',rd⟩:=hg.dif eg;rw [h1] at h1';cases h1';rw [h2] at h2';cases h2';simp! [eg,Option.some.injEq] at e;let ⟨⟨k,z⟩,e1,e2⟩:=Option.map_eq_some_iff.mp e;let ⟨v,ev,rv⟩:=rd.at e1;refine ⟨⟨h2,(List.getElem?_eq_some_iff.mp ev).1⟩,λx H' ⟨h3,b,k',v',ex,ek,hb⟩=>here h3 ?_⟩;rw [ev] at ek;cases ek;subst ex;subst e2;exact ⟨b,k.map V.int,rfl,by rw [List.map_map] at hb;exact hb,iE k⟩
   | _=>simp [eg] at e
 | enm n =>
  let ⟨a,h1,rfl⟩:=ri;simp! [next] at e;cases eg:g[n]? with
  | none=>simp [eg] at e
  | some o =>
   cases o with
   | lst us =>
    simp! [eg,Option.some.injEq] at e;let ⟨w,e1,e2⟩:=Option.map_eq_some_iff.mp e;let ⟨vs,t2,t3⟩:=aU hg h1 eg;let ⟨v,ev,rv⟩:=t3.get e1;refine ⟨⟨vs,v,.of t2,ev⟩,λx H' ⟨p,v',hp,ex,eH,all⟩ => ?_⟩;have:=all vs (.of t2);rw [ev] at this;cases this;subst ex;subst eH;subst e2;have sp:Stp X.K ρ H ρ (upd H p (.tup [.int i,v])):=Stp.fresh hp;exact ⟨sp,hg.step_fresh hp,p,[.int i,v],rfl,upd_same,.int i,[v],rfl,rfl,v,[],rfl,RV.step sp _ _ rv,rfl⟩
   | _=>simp [eg] at e
 | zip n m =>
  let ⟨a,b,h1,h2,rfl⟩:=ri;simp! [next] at e;cases eg:g[n]? with
  | none=>simp [eg] at e
  | some o =>
   cases o with
   | lst us =>
    cases eg':g[m]? with
    | none=>simp [eg,eg'] at e
    | some o' =>
     cases o' with
     | lst us' =>
      simp! [eg,eg',Option.some.injEq] at e;let ⟨w,e1,e⟩:=Option.bind_eq_some_iff.mp e;let ⟨w',e1',e2⟩:=Option.map_eq_some_iff.mp e;let ⟨vs,t2,t3⟩:=aU hg h1 eg;let ⟨vs',t2',t3'⟩:=aU hg h2 eg';let ⟨v,ev,rv⟩:=t3.get e1;let ⟨v',ev',rv'⟩:=t3'.get e1';refine ⟨⟨vs,vs',v,v',.of t2,.of t2',ev,ev'⟩,λx H' ⟨p,z,z',hp,ex,eH,all,all'⟩ => ?_⟩;have q1:=all vs (.of t2);have q2:=all' vs' (.of t2');rw [ev] at q1;cases q1;rw [ev'] at q2;cases q2;subst ex;subst eH;subst e2;have sp:Stp X.K ρ H ρ (upd H p (.tup [v,v'])):=Stp.fresh hp;exact ⟨sp,hg.step_fresh hp,p,[v,v'],rfl,upd_same,v,[v'],rfl,RV.step sp _ _ rv,v',[],rfl,RV.step sp _ _ rv',rfl⟩
     | _=>simp [eg,eg'] at e
   | _=>simp [eg] at e
 | seq us =>
  let ⟨a,vs,h1,h2,rfl⟩:=ri;simp! [next,Option.some.injEq] at e;let ⟨v,ev,rv⟩:=h2.get e;have h1':SqT X.K H a vs:=h1.elim SqU.sq SqC.sq;refine ⟨⟨vs,v,h1',ev⟩,λx H' ⟨h3,h4⟩=>here h3 ?_⟩;have:=h4 vs h1';rw [ev] at this;cases this;exact rv
 | rng lo n =>
  cases ri;simp! [next,Option.some.injEq] at e;split at e
  .rename_i h
   cases e;exact ⟨h,λx H' ⟨h1,h2⟩=>here h1 h2⟩
  .cases e
variable{st:Stmt}{rest:List Stmt}{s':S}{rest':List S}
def aas:PSs X [] (tSt X.K W (Jq r [])):=yR.imp λD σ H ⟨σu,ρ,g,hs,hg,p⟩=>p σ ρ H .refl hg hs
def xZ(h1:PS X st (tSt X.K W (Jp r s')))(h2:PSs X rest (tSt X.K W (r.ex rest'))):PSs X (st :: rest) (tSt X.K W (Jq r (s' :: rest'))):=by
 refine (xc h1 h2).imp λD σ H ⟨σu,ρ,g,hs,hg,p⟩=>⟨σu,ρ,g,hs,hg,?_⟩;revert p;simp! [Jq];cases Jp r s' σu g with
 | ok f g1 =>
  cases f with
  | nx σ1=>exact λp σ2 ρ2 H2 s2 h2 hs2=>⟨σ1,ρ2,g1,hs2,h2,Jw.from (o:=r.ex rest' σ1 g1) p s2⟩
  | rt u=>exact λp=>p
  | bk σ1=>exact λp=>p
  | ct σ1=>exact λp=>p
 | exc c fs g1=>exact λp=>p
 | bad=>exact λp=>p
def eZ{f:Su->G->Out U}{k:Su->U->G->Out Fl}{σ:L2.St}{H:Hp}{D:Ends}
  (hp:tSt X.K W (λσu g=>(f σu g).bind λx g=>k σu x g) D σ H)
  (imp:∀ σu ρ H g u x,RS X.K ρ H σu σ->RH X.K ρ H g->RV X.K ρ H u x->Jw X.K W (k σu u g) ρ H D->Q2 x H):tE X.K W f σ H Q2:=by
 let ⟨σu,ρ,g,hs,hg,p⟩:=hp;exact ⟨σu,ρ,g,hs,hg,(Jw.bind p).mono λx H1 ⟨ρ1,u,g1,s1,h1,r1,p1⟩=>imp σu ρ1 H1 g1 u x #[40] h1 r1 p1⟩
def abP(h:PE X e #[27]):PS X (.Return (some e) pos) (tSt X.K W (Jp r (.ret e'))) :=
 (aak h).imp λD σ H hp=>eZ hp λσu ρ H g u x hs hg r1 p=>p x ρ H .refl hg r1
def aa0(h:PE X e #[27])(hs:swapsWith e none pos.line X.env=pure false):PS X (.Expr e pos) (tSt X.K W (Jp r (.exp e'))) :=
 (xt h hs).imp λD σ H hp=>eZ hp λσu ρ H g u x hs hg r1 p=>p _ ρ H .refl hg hs
def abb{v:V}{σ:L2.St}{D:Ends}(hs:RS X.K ρ H σu σ)(hg:RH X.K ρ H g)(rv:RV X.K ρ H u v)(p:Jw X.K W (match Ah t (Jj t u g) σu with | some σ'=>Out.ok (.nx σ') g | none => .bad) ρ H D):tG X.K t v σ H D.nx:=by
 cases e:Ah t (Jj t u g) σu with
 | none=>simp! [e] at p;exact p.elim
 | some σ1=>simp! [e] at p;exact ⟨σu,ρ,g,u,σ1,hs,hg,rv,e,λσ' hs'=>p σ' ρ H .refl hg hs'⟩
def md(h:PE X e #[27])(hg:PG X tg (tG X.K t))(hs:swapsWithSole [tg] e pos.line X.env=pure false)(hw:swappedStores [tg] e X.env=pure none)(h1:(assignEach [tg] X.env).map (·.2)=[assign tg X.env]):
  PS X (.Assign [tg] e pos) (tSt X.K W (Jp r (.set t e'))) :=
 (pB h hg hs hw h1).imp λD σ H hp=>eZ hp λσu ρ H g u x hs hg r1 p=>abb hs hg r1 p
def acb(hN:X.N.Nodup)(hi:X.N[i]? = some x)(hx:Loc X.env.scope x)(hf:X.fn x=true\/X.env.scope.names.lookup x=some .local)(h:PE X e #[27])(hs:swapsWith e (some (.Name x pos')) pos.line X.env=pure false):
  PS X (.Assign [.Name x pos'] e pos) (tSt X.K W (Jp r (.set (.nm i) e'))) :=
 (abf hN hi hx h hs hf).imp λD σ H hp=>eZ hp λσu ρ H g u x hs hg r1 p=>by
  simp! [Jj,Ah] at p;by_cases hl:i < σu.length
  .rw [if_pos hl] at p;exact p _ ρ H .refl hg (hs.set r1)
  .rw [if_neg hl] at p;exact p.elim
def acd{y:Str}{px py pt:Pos}{kt k2 pt2}(hc:X.calm=true)(hN:X.N.Nodup)(hi:X.N[i]? = some x)(hj:X.N[j]? = some y)(hij:i≠j)
  (hx:X.env.scope.names.lookup x=some .local) (hy:X.env.scope.names.lookup y=some .local) (ha:PE X a #[8]) (hb:PE X b #[16]) (hsa:∀ es,starEach (a :: es) X.env=(false,eval a X.env) :: starEach es X.env) (hsb:∀ es,starEach (b :: es) X.env=(false,eval b X.env) :: starEach es X.env)
  (hw:swappedStores [.Tuple [.Name x px,.Name y py] kt pt] (.Tuple [a,b] k2 pt2) X.env=pure (some [x,y])) :
  PS X (.Assign [.Tuple [.Name x px,.Name y py] kt pt] (.Tuple [a,b] k2 pt2) pos) (tSt X.K W (Jp r (.par i j a' b'))):=by
 refine (zZ hc hN hi hj hij hx hy (aL ha (aL hb bp (hsb _)) (hsa _)) hw rfl).imp ?_;rintro D σ H ⟨σu,ρ,g,hs,hg,p⟩;refine ⟨σu,ρ,g,hs,hg,(Jw.bind p).mono λv H1 ⟨ρ1,u,g1,s1,h1,r1,p1⟩ => ?_⟩;refine ⟨σu,ρ1,g1,hs.step s1,h1,(Jw.bind p1).mono λw H2 ⟨ρ2,u2,g2,s2,h2,r2,p2⟩ => ?_⟩;split at p2
 .exact ⟨v,w,rfl,p2 _ ρ2 H2 .refl h2 (((#[40].step s2).set (RV.step s2 _ _ r1)).set r2)⟩
 .exact p2.elim
def aca{i:Expr}{i':E}{spos:Pos}(hu:X.A.units+1 < cLine)(h:PE X e #[27])(ho:PE X o #[35])(hi:PE X i (tE X.K W (r.ev i')))(hs:swapsWithSole [.Subscript o i spos] e pos.line X.env=pure false)(hw:swappedStores [.Subscript o i spos] e X.env=pure none)
  (ha:∀ v,assign (.Subscript o i spos) X.env v=(do
   let ov <- holding [v] #[38]
   let iv <- holding [v,ov] (eval i X.env)
   standAt spos
   holding [v,ov,iv] (setItem ov iv v)
   release [v,ov,iv] [])):PS X (.Assign [.Subscript o i spos] e pos) (tSt X.K W (Jp r (.sub o' i' e'))):=by
 refine (pB h (zT ho hi (yC set_list (set_dict hu)) ha) hs hw rfl).imp ?_;rintro D σ H ⟨σu,ρ,g,hs,hg,p⟩;refine ⟨σu,ρ,g,hs,hg,(Jw.bind p).mono λv H1 ⟨ρ1,u,g1,s1,h1,r1,p1⟩ => ?_⟩;refine ⟨σu,ρ1,g1,hs.step s1,h1,(Jw.bind p1).mono λw H2 ⟨ρ2,u2,g2,s2,h2,r2,p2⟩ => ?_⟩;refine ⟨σu,ρ2,g2,#[40].step s2,h2,(Jw.bind p2).mono λz H3 ⟨ρ3,u3,g3,s3,h3,r3,p3⟩ => ?_⟩;cases u2 with
 | ref n =>
  cases u3 with
  | int k =>
   cases r3;simp! [subAt,DV] at p3;cases eg:g3[n]? with
   | none=>simp! [eg] at p3;exact p3.elim
   | some ob =>
    cases ob with
    | lst us =>
     simp! [eg] at p3;let ⟨q,vs,rfl,hn,t2,t3⟩:=a8 h3 (RV.step s3 _ _ r2) eg;cases ej:ixN us.length k with
     | none=>simp! [ej] at p3;exact p3.elim
     | some j =>
      simp! [ej] at p3;have rv:=RV.step s3 _ _ (RV.step s2 _ _ r1);exact .inl ⟨q,vs,k,j,rfl,rfl,t2,by rw [<-t3.length];exact ej,p3 _ ρ3 _ (Stp.write hn t2) (h3.write hn t2 (t3.set rv j)) (((#[40].step s2).step s3).step (Stp.write hn t2))⟩
    | dic _=>simp! [eg] at p3;exact p3.elim
    | dif _=>simp! [eg] at p3;exact p3.elim
    | dst _=>simp! [eg] at p3;exact p3.elim
    | ins _ _=>simp! [eg] at p3;exact p3.elim
  | tup us =>
   simp! [subAt,DZ] at p3;cases eg:g3[n]? with
   | none=>simp! [eg] at p3;exact p3.elim
   | some ob =>
    cases ob with
    | dic kvs =>
     simp! [eg] at p3;cases ek:intsOf us with
     | none=>simp! [ek] at p3;exact p3.elim
     | some k =>
      simp! [ek] at p3;by_cases hl:kvs.length < Ae
      .rw [if_pos hl] at p3
       let ⟨q,ws,hn,ha,rd⟩:=h3.dic eg;let ⟨q',rfl,hn'⟩:=RV.step s3 _ _ r2;rw [hn] at hn';cases hn';let ⟨b,rfl,hb⟩:=eP (x := .tup us) (k:=k) ek r3;have rv:=RV.step s3 _ _ (RV.step s2 _ _ r1);refine .inr ⟨q,_,rfl,DPut.t ha hb ?_,p3 _ ρ3 _ (Stp.writeO hn ha trivial) (h3.writeO hn ha trivial ⟨_,rfl,rd.put rv⟩) (((#[40].step s2).step s3).step (Stp.writeO hn ha trivial))⟩;rw [<-rd.len,sizeLine_eq];unfold Ae at hl;omega
      .rw [if_neg hl] at p3;exact p3.elim
    | lst _=>simp! [eg] at p3;exact p3.elim
    | dif _=>simp! [eg] at p3;exact p3.elim
    | dst _=>simp! [eg] at p3;exact p3.elim
    | ins _ _=>simp! [eg] at p3;exact p3.elim
  | str k =>
   simp! [subAt,Gp] at p3;cases eg:g3[n]? with
   | none=>simp! [eg] at p3;exact p3.elim
   | some ob =>
    cases ob with
    | dst kvs =>
     simp! [eg] at p3;by_cases hl:kvs.length < Ae
     .rw [if_pos hl] at p3
      let ⟨q,ws,hn,ha,rk⟩:=h3.dst eg;let ⟨q',rfl,hn'⟩:=RV.step s3 _ _ r2;rw [hn] at hn';cases hn';cases r3;have rv:=RV.step s3 _ _ (RV.step s2 _ _ r1);refine .inr ⟨q,_,rfl,DPut.k (k:=Sum.inr k) ha ?_,p3 _ ρ3 _ (Stp.writeO hn ha trivial) (h3.writeO hn ha trivial ⟨_,rfl,rk.put rv⟩) (((#[40].step s2).step s3).step (Stp.writeO hn ha trivial))⟩;rw [<-rk.len,sizeLine_eq];unfold Ae at hl;omega
     .rw [if_neg hl] at p3;exact p3.elim
    | _=>simp! [eg] at p3;exact p3.elim
  | _=>exact False.elim p3
 | _=>exact False.elim p3
def adv{as bs:List Stmt}{as' bs':List S}(hc:PT X c (tT X.K W (r.ts c')))(ha:PSs X as (tSt X.K W (r.ex as')))(hb:PSs X bs (tSt X.K W (r.ex bs'))):PS X (.If c as bs pos) (tSt X.K W (Jp r (.ife c' as' bs'))):=by
 refine (ada hc ha hb).imp ?_;rintro D σ H ⟨σu,ρ,g,hs,hg,p⟩;refine ⟨σu,ρ,g,hs,hg,(Jw.bind (R:=REq) p).mono λk H1 ⟨ρ1,k',g1,s1,h1,e1,p1⟩ => ?_⟩;subst e1;cases k' with
 | true=>exact bA ⟨σu,ρ1,g1,hs.step s1,h1,p1⟩
 | false=>exact bz ⟨σu,ρ1,g1,hs.step s1,h1,p1⟩
def rW{o:Out Fl}{k:Su->G->Out Fl}{D:Ends}{N:L2.St->Hp->Prop}
  (p:Jw X.K W (o.bind λf g=>match f with | .nx σ'=>k σ' g | .ct σ'=>k σ' g | .bk σ' => .ok (.nx σ') g | .rt u => .ok (.rt u) g) ρ H D)
  (hN:∀ σ1 g1 σ ρ' H',Stp X.K ρ H ρ' H'->RH X.K ρ' H' g1->RS X.K ρ' H' σ1 σ->Jw X.K W (k σ1 g1) ρ' H' D->N σ H'):Jw X.K W o ρ H { D with nx:=N,ct:=N,bk:=D.nx }:=by
 cases o with
 | ok f g =>
  cases f with
  | nx σ1=>exact λσ ρ' H' s h hs=>hN σ1 g σ ρ' H' s h hs (Jw.from (o:=k σ1 g) p s)
  | ct σ1=>exact λσ ρ' H' s h hs=>hN σ1 g σ ρ' H' s h hs (Jw.from (o:=k σ1 g) p s)
  | bk σ1=>exact p
  | rt u=>exact p
 | exc c fs g=>exact p
 | bad=>exact p
def zv{bs:List Stmt}{bs':List S}{n:Nat}(hp:PassesOwn #[5] X.A X.env X.xe)(hc:∀ n,PT X c (tT X.K W ((Ju C n).ts c')))(hb:∀ n,PSs X bs (tSt X.K W ((Ju C n).ex bs'))):
  PS X (.While c bs [] pos) (tSt X.K W (Jp (Ju C n) (.whl c' bs'))):=by
 intro pins s σ H D I hw;have key:∀ m σ H,tSt X.K W ((Ju C m).wh c' bs') D σ H -> ∃ m',m=m'+1:=λm σ H ⟨σu,ρ,g,_,_,p⟩=>by
  cases m with
  | zero=>exact p.elim
  | succ m'=>exact ⟨m',rfl⟩
 refine wpAny_While (codeAny_whileLoop (λn s' => ∃ σ' H',L2.Inv X pins σ' H' s'/\tSt X.K W ((Ju C n).wh c' bs') D σ' H') ?_ n ⟨σ,H,I,hw⟩);rintro n s1 ⟨σ1,H1,I1,w1⟩;let ⟨m,rfl⟩:=key n σ1 H1 w1;let ⟨σu,ρ,g,hs,hg,p⟩:=w1;refine wpAny_passesOwn hp (thn (hc m pins s1 σ1 H1 (λb H2=>if b=true then tSt X.K W ((Ju C m).ex bs') { D with nx:=λσ' H'=>tSt X.K W ((Ju C m).wh c' bs') D σ' H',ct:=λσ' H'=>tSt X.K W ((Ju C m).wh c' bs') D σ' H',bk:=D.nx } σ1 H2 else D.nx σ1 H2) I1 ?_) λb s2 ⟨H2,I2,q2⟩ => ?_)
 .refine ⟨σu,ρ,g,hs,hg,(Jw.bind (R:=REq) p).mono λk H1 ⟨ρ1,k',g1,s1,h1,e1,p1⟩ => ?_⟩
  subst e1;cases k' with
  | true=>exact bA ⟨σu,ρ1,g1,hs.step s1,h1,rW (k:=λσ' g=>(Ju C m).wh c' bs' σ' g) p1 λσ2 g2 σ ρ' H' s2 h2 hs2 p2=>⟨σ2,ρ',g2,hs2,h2,p2⟩⟩
  | false=>exact bz (p1 _ ρ1 _ .refl h1 #[40])
 .cases b with
  | true =>
   rw [if_pos rfl] at q2;rw [if_pos rfl];refine wpAny_passesOwn hp (thn (hb m pins s2 σ1 H2 _ I2 q2) λf s3 q3 => ?_);cases f with
   | next =>
    let ⟨σ3,H3,I3,n3⟩:=q3;exact ⟨m,Nat.lt_succ_self _,σ3,H3,I3,n3⟩
   | cont =>
    let ⟨σ3,H3,I3,n3⟩:=q3;exact ⟨m,Nat.lt_succ_self _,σ3,H3,I3,n3⟩
   | brk=>exact q3
   | ret v=>exact q3
  | false =>
   rw [if_neg Hz] at q2;rw [if_neg Hz];exact wpAny_execs_nil ⟨σ1,H2,I2,q2⟩
end
section
variable{ρ0:List Addr}{H0:Hp}{D:Addr}{Kk o2:HO}
def Stp.accum(s:Stp K ρ0 H0 ρ H)(h0:H0 D=none)(hD:H D=some Kk)(hm:Bv Kk):Stp K ρ0 H0 ρ (upd H D o2) where
 ext:=s.ext
 new:=s.new
 oth:=λa o h hn=>by rw [ae (aI h h0)];exact s.oth a o h hn
 live:=λa h=>by
  by_cases e:a=D
  .subst e;rw [upd_same];simp
  .rw [ae e];exact s.live a h
 tup:=λa xs h=>aZ (s.tup a xs h) (.inr ⟨_,hD,hm⟩)
 fro:=λa xs h=>aX (s.fro a xs h) (.inr ⟨_,hD,hm⟩)
 frz:=λa ob u h=>by rw [ae (cH (s.frz a ob u h) hD (by rintro rfl;exact hm))];exact s.frz a ob u h
def RV.accum(hD:H D=some Kk)(hm:Bv Kk){v:V}(h:RV K ρ H u v):RV K ρ (upd H D o2) u v:=RV.mono (λ_ _ e=>e) (λ_ _ h=>aZ h (.inr ⟨_,hD,hm⟩)) (λ_ _ h=>aX h (.inr ⟨_,hD,hm⟩)) u v h
def RVs.accum(hD:H D=some Kk)(hm:Bv Kk){u:List U}{v:List V}(h:RVs K ρ H u v):RVs K ρ (upd H D o2) u v:=RVs.mono (λ_ _ e=>e) (λ_ _ h=>aZ h (.inr ⟨_,hD,hm⟩)) (λ_ _ h=>aX h (.inr ⟨_,hD,hm⟩)) u v h
def RH.accum(h:RH K ρ H g)(hD:H D=some Kk)(hm:Bv Kk)(hn:D ∉ ρ):RH K ρ (upd H D o2) g where
 len:=h.len
 inj:=h.inj
 obj:=λn a o h1 h2=>by
  have q:=h.obj n a o h1 h2;have ne:a≠D:=λe=>hn (e ▸ List.mem_iff_getElem?.mpr ⟨n,h1⟩);let ⟨ho,e,r⟩:=q;exact ⟨ho,by rw [ae ne];exact e,r.mono (λ_ _ e=>e) (λ_ _ h=>aZ h (.inr ⟨_,hD,hm⟩)) (λ_ _ h=>aX h (.inr ⟨_,hD,hm⟩))⟩
def RH.named{ob:O}(h:RH K ρ H g)(hD:H D=some Kk)(hn:D ∉ ρ)(r:RHO K ρ H ob Kk):RH K (ρ++[D]) H (g++[ob]):=by
 have up:∀ (n:Nat) (a:Addr),ρ[n]? = some a->(ρ++[D])[n]? = some a:=λn a e=>by rw [List.getElem?_append_left (List.getElem?_eq_some_iff.mp e).1];exact e
 have key:∀ k b,(ρ++[D])[k]? = some b->(k < ρ.length/\ρ[k]? = some b)\/(k=ρ.length/\b=D):=λk b e=>by
  by_cases hk:k < ρ.length
  .rw [List.getElem?_append_left hk] at e;exact .inl ⟨hk,e⟩
  .rw [List.getElem?_append_right ()] at e
   cases hd:k - ρ.length with
   | zero=>rw [hd] at e;exact .inr ⟨by omega,by simpa using e.symm⟩
   | succ m=>rw [hd] at e;simp at e
 have noD:∀ k:Nat,ρ[k]? ≠ some D:=λk e=>hn (List.mem_iff_getElem?.mpr ⟨k,e⟩);refine ⟨by simp [h.len],λi j a h1 h2 => ?_,λn a o h1 h2 => ?_⟩
 .rcases key i a h1 with ⟨_,e1⟩ | ⟨e1,e1'⟩
  .rcases key j a h2 with ⟨_,e2⟩ | ⟨e2,e2'⟩
   .exact h.inj i j a e1 e2
   .subst e2';exact absurd e1 (noD i)
  .rcases key j a h2 with ⟨_,e2⟩ | ⟨e2,e2'⟩
   .subst e1';exact absurd e2 (noD j)
   .omega
 .rcases key n a h1 with ⟨hl,e1⟩ | ⟨e1,e1'⟩
  .rw [List.getElem?_append_left (by rw [<-h.len];exact hl)] at h2
   have q:=h.obj n a o e1 h2;let ⟨ho,e,r'⟩:=q;exact ⟨ho,e,r'.mono up (λ_ _ h=>h) (λ_ _ h=>h)⟩
  .subst e1'
   rw [List.getElem?_append_right (by rw [<-h.len];omega),<-h.len,e1] at h2
   have e2:o=ob:=by simpa using h2.symm
   subst e2;exact ⟨_,hD,r.mono up (λ_ _ h=>h) (λ_ _ h=>h)⟩
def Stp.named(s:Stp K ρ0 H0 ρ H)(h0:H0 D=none):Stp K ρ0 H0 (ρ++[D]) H where
 ext:=λn a h=>by have:=s.ext n a h;rw [List.getElem?_append_left (List.getElem?_eq_some_iff.mp this).1];exact this
 new:=λn a h=>by
  by_cases hk:n < ρ.length
  .rw [List.getElem?_append_left hk] at h;exact s.new n a h
  .rw [List.getElem?_append_right ()] at h
   cases hd:n - ρ.length with
   | zero =>
    rw [hd] at h;have e:a=D:=by simpa using h.symm
    subst e;exact .inr h0
   | succ m=>rw [hd] at h;simp at h
 oth:=s.oth
 live:=s.live
 tup:=s.tup
 fro:=s.fro
 frz:=s.frz
def dz(s:Stp K ρ H ρ' H')(hn:D ∉ ρ)(hD:H D=some Kk):D ∉ ρ':=λhm=>by
 let ⟨n,e⟩:=List.mem_iff_getElem?.mp hm;rcases s.new n D e with q | q
 .exact hn (List.mem_iff_getElem?.mpr ⟨n,q⟩)
 .rw [hD] at q;cases q
def RS.unbind{t:Tg}{σ1:Su}{σ:L2.St}(hf:AH t σu=true)(hb:Ah t u σu=some σ1)(h:RS K ρ H σ1 σ):RS K ρ H σu σ:=by
 have one:∀ (i:Nat) (w:U) (τ:Su),(match τ[i]? with | some none=>true | _=>false)=true -> ∀ (j:Nat) (z:U),τ[j]? = some (some z)->(τ.set i (some w))[j]? = some (some z):=λi w τ hi j z e=>by
  by_cases hj:j=i
  .subst hj;rw [e] at hi;cases hi
  .rw [List.getElem?_set_ne (Ne.symm hj)];exact e
 cases t with
 | nm i =>
  simp! [Ah] at hb;split at hb
  .cases hb
   exact ⟨by have:=h.len;simpa using this,λj z e=>h.val j z (one i u σu hf j z e)⟩
  .cases hb
 | tp is =>
  cases u with
  | tup us =>
   have hb':bindL is us σu=some σ1:=hb;have all:∀ (is:List Nat) (us:List U) (τ τ1:Su),(∀ i∈is,∀ z,σu[i]? ≠ some (some z))->(∀ (j:Nat) (z:U),σu[j]? = some (some z)->τ[j]? = some (some z))->bindL is us τ=some τ1->τ1.length=τ.length /\ ∀ (j:Nat) (z:U),σu[j]? = some (some z)->τ1[j]? = some (some z):=λis=>by
    induction is with
    | nil =>
     intro us τ τ1 _ hτ e;cases us with
     | nil=>cases e;exact ⟨rfl,hτ⟩
     | cons _ _=>cases e
    | cons i is ih =>
     intro us τ τ1 hi hτ e;cases us with
     | nil=>cases e
     | cons w us =>
      simp! [bindL] at e;split at e
      .obtain ⟨h1,h2⟩:=ih us _ τ1 (λk hk=>hi k (HB _ hk)) (λj z ej=>by
        have hj:j≠i:=λq=>hi i List.mem_cons_self z (q ▸ ej);rw [List.getElem?_set_ne (Ne.symm hj)];exact hτ j z ej) e
       exact ⟨by rw [h1];simp,h2⟩
      .cases e
   have hi:∀ i∈is,∀ z,σu[i]? ≠ some (some z):=λi hm z e=>by
    have:=List.all_eq_true.mp hf i hm;rw [e] at this;cases this
   let ⟨h1,h2⟩:=all is us σu σ1 hi (λ_ _ e=>e) hb';exact ⟨by rw [<-h1];exact h.len,λj z e=>h.val j z (h2 j z e)⟩
  | _=>simp [Ah] at hb
def eD{o:Out α}{k:α->G->Out β}{b:β}(h:o.bindB k=.ok b g'):∃ a g1,o=.ok a g1/\k a g1=.ok b g':=by
 cases o with
 | ok a g1=>exact ⟨a,g1,rfl,h⟩
 | exc _ _ _=>cases h
 | bad=>cases h
end
section
abbrev ifsT(ifs:List Expr)(env:Env):Sem Bool:=forIn ifs true λc r=>if r=true then do let ok <- isTrue c env (eval c env);pure (ForInStep.yield ok) else pure (ForInStep.yield r)
def iW{env:Env}{M:Model}{A:Around}{E:Value->Shared->Prop}{Q:Bool->Shared->Prop}{s:Shared}(h:Q false s):∀ ifs:List Expr,wpAny M A (forIn ifs false λc r=>if r=true then do let ok <- isTrue c env (eval c env);pure (ForInStep.yield ok) else pure (ForInStep.yield r)) Q E s
 | []=>ZP h
 | c :: cs=>by
  simp! [List.forIn_cons,Bool.false_eq_true,if_false];exact ZB (ZP (iW h cs))
def PTs(X:Cx)(ifs:List Expr)(f:Su->G->Out Bool):Prop :=
 ∀ (pins:List (Addr×Obj)) (s:Shared) (σ:L2.St) (H:Hp) (Q:Bool->Hp->Prop),L2.Inv X pins σ H s->tT X.K W0' f σ H Q->wpAny #[5] X.A (ifsT ifs X.env) (TP X pins σ Q) X.xe s
where W0':XQ:=λ_ _ _=>False
def yg:PTs X [] (Ax r.ts []):=λpins s σ H Q I ⟨σu,ρ,g,hs,hg,p⟩=>ZP ⟨H,I,post.okHere (R:=REq) p hg rfl⟩
def xb{c:Expr}{c':E}{cs:List Expr}{cs':List E}(hc:PT X c (tT X.K PTs.W0' (r.ts c')))(hcs:PTs X cs (Ax r.ts cs')):PTs X (c :: cs) (Ax r.ts (c' :: cs')):=by
 intro pins s σ H Q I ⟨σu,ρ,g,hs,hg,p⟩;unfold ifsT;simp! [List.forIn_cons,if_true];refine ZB (ZB (thn (hc pins s σ H (λk H1=>if k=true then tT X.K PTs.W0' (Ax r.ts cs') σ H1 Q else Q false H1) I ⟨σu,ρ,g,hs,hg,(post.bind (R:=REq) p).mono λk H1 ⟨ρ1,k',g1,s1,h1,e1,p1⟩ => ?_⟩) λk s1 ⟨H1,I1,q1⟩ => ?_))
 .subst e1
  cases k' with
  | true=>exact bA ⟨σu,ρ1,g1,hs.step s1,h1,p1⟩
  | false=>exact bz (post.okHere (R:=REq) p1 h1 rfl)
 .cases k with
  | true=>rw [if_pos rfl] at q1;exact ZP (hcs pins s1 σ H1 Q I1 q1)
  | false=>rw [if_neg Hz] at q1;exact ZP (iW ⟨H1,I1,q1⟩ cs)
structure Mon(K:HG)(ρ:List Addr)(H:Hp)(ρ':List Addr)(H':Hp):Prop where
 ext:∀ (n:Nat) (a:Addr),ρ[n]? = some a->ρ'[n]? = some a
 tup:∀ a xs,SqU K H a xs->SqU K H' a xs
 fro:∀ a xs,SqF K H a xs->SqF K H' a xs
 frz:∀ a o u,H a=some (.frz o u)->H' a=some (.frz o u)
def Stp.mon(s:Stp K ρ H ρ' H'):Mon K ρ H ρ' H':=⟨s.ext,s.tup,s.fro,s.frz⟩
def Mon.trans{ρ'':List Addr}{H'':Hp}(a:Mon K ρ H ρ' H')(b:Mon K ρ' H' ρ'' H''):Mon K ρ H ρ'' H'':=⟨λn x h=>b.ext n x (a.ext n x h),λx xs h=>b.tup x xs (a.tup x xs h),λx xs h=>b.fro x xs (a.fro x xs h),λx o u h=>b.frz x o u (a.frz x o u h)⟩
def RI.mon{i:Iter}{J:It}(s:Mon K ρ H ρ' H')(h:RI K ρ H i J):RI K ρ' H' i J:=by
 cases i with
 | lst n=>let ⟨a,h1,h2⟩:=h;exact ⟨a,s.ext _ _ h1,h2⟩
 | dic n=>let ⟨a,o,ws,h1,h2,h3⟩:=h;exact ⟨a,o,ws,s.ext _ _ h1,s.frz _ _ _ h2,h3⟩
 | enm n=>let ⟨a,h1,h2⟩:=h;exact ⟨a,s.ext _ _ h1,h2⟩
 | zip n m=>let ⟨a,b,h1,h2,h3⟩:=h;exact ⟨a,b,s.ext _ _ h1,s.ext _ _ h2,h3⟩
 | seq us=>let ⟨a,vs,h1,h2,h3⟩:=h;exact ⟨a,vs,h1.imp_left (s.tup _ _),RVs.mono s.ext s.tup s.fro _ _ h2,h3⟩
 | rng lo n=>exact h
def A9(X:Cx)(C:Nat->List U->G->Out U):List Comprehension->List (Tg×E×List E)->Prop
 | [],[]=>True
 | g :: r,(t,it',cs) :: r'=>g.is_async=0/\PG X g.target (tG X.K t)/\(∀ n,PTs X g.ifs #[41])/\(∀ n,PI X g.target g.iter #[29])/\(∀ x,foldedSetIterable g.iter X.env x=pure x)/\A9 X C r r'
 | _,_=>False
set_option genInjectivity false in
inductive CK where | lst (elt:Expr) | dic (k v:Expr)
noncomputable def CK.exp(c:CK)(gens:List Comprehension)(scope:Scope)(pos:Pos):Expr:=match c with
 | .lst elt => .ListComp elt gens scope pos
 | .dic k v => .DictComp k v gens scope pos
noncomputable def CK.emit(c:CK)(acc:Value)(env:Env):Sem Unit:=match c with
 | .lst elt=>(do let _ <- call (.builtin "list.append") [acc,<-eval elt env])
 | .dic k v=>(do
   let kv <- eval k env
   let vv <- holding [kv] (eval v env)
   match acc with
   | .ref d=>do
    standAt { k.pos with endLine:=v.pos.endLine,endCol:=v.pos.endCol }
    holding [kv,vv] (dictSet d kv vv)
   | _=>unsupported "internal:dictcomp")
noncomputable def CK.new(c:CK):Sem Value:=match c with
 | .lst _=>newList []
 | .dic _ _=>newDict
noncomputable def CK.obj(c:CK):Obj:=match c with
 | .lst _=>{ cls := .type "list",dict:=none,data := .seq ([]:List Value).toArray }
 | .dic _ _=>{ cls := .type "dict",data := .dict #[] }
noncomputable def CK.ini(c:CK):HO:=match c with
 | .lst _ => .lst []
 | .dic _ _ => .dT []
noncomputable def CK.ho(K:HG)(ρ:List Addr)(H:Hp)(c:CK)(acc:List U)(o:HO):Prop:=match c with
 | .lst _ => ∃ vs,o=.lst vs/\RVs K ρ H acc vs
 | .dic _ _ => ∃ kvs ws,o=.dT ws/\dfold acc []=some kvs/\RD K ρ H kvs ws
def CK.ho.mut{c:CK}{o:HO}(h:CK.ho K ρ H c acc o):Bv o:=by
 cases c with
 | lst e=>let ⟨vs,rfl,_⟩:=h;trivial
 | dic k v=>let ⟨_,ws,rfl,_⟩:=h;trivial
def CK.ho.mono{K:HG}{ρ ρ':List Addr}{H H':Hp}{c:CK}{acc:List U}{o:HO}(h:CK.ho K ρ H c acc o)(he:∀ (n:Nat) (a:Addr),ρ[n]? = some a->ρ'[n]? = some a)(ht:∀ a xs,SqU K H a xs->SqU K H' a xs)(hf:∀ a xs,SqF K H a xs->SqF K H' a xs):CK.ho K ρ' H' c acc o:=by
 cases c with
 | lst e=>let ⟨vs,e,r⟩:=h;exact ⟨vs,e,RVs.mono he ht hf _ _ r⟩
 | dic k v=>let ⟨kvs,ws,e,d,r⟩:=h;exact ⟨kvs,ws,e,d,RD.mono he ht hf _ _ r⟩
def CK.ho.step{c:CK}{o:HO}(s:Stp K ρ H ρ' H')(h:CK.ho K ρ H c acc o):CK.ho K ρ' H' c acc o:=h.mono s.ext s.tup s.fro
def CK.ho0{c:CK}:CK.ho K ρ H c [] c.ini:=by
 cases c with
 | lst e=>exact ⟨[],rfl,rfl⟩
 | dic k v=>exact ⟨[],[],rfl,rfl,rfl⟩
def CK.new_wp{E:Value->Shared->Prop}{Q:Value->Shared->Prop}{c:CK}(h:Q (.ref s.heap.objs.size) { s with heap:=s.heap.push c.obj }):wpAny M A c.new Q E s:=by
 cases c with
 | lst e=>exact wpAny_newObj_type h
 | dic k v=>exact wpAny_newObj_type h
def CK.ini_ok{P:Program}(c:CK)(h:Heap)(hb:sysModules < h.objs.size):ObjOk P w H (h.push c.obj) h.objs.size c.ini:=by
 cases c with
 | lst e=>exact ⟨Nat.zero_le _,[],0,.nil,HE _ rfl⟩
 | dic k v=>exact jX h hb
inductive RR(X:Cx)(c:CK)(D:Addr)(pins:List (Addr×Obj))(ρ0:List Addr)(H0:Hp)(ρs:List Addr)(Hs:Hp)(σu:Su)(us:List U)(g':G)(r:Result)(s':Shared):Prop
 | mk (f:∃ f,r=.ok f) (σ':L2.St) (H':Hp) (ρ':List Addr) (vs':HO) (I:L2.Inv X pins σ' H' s') (sp:Stp X.K ρ0 H0 ρ' H') (hg:RH X.K ρ' H' g') (hs:RS X.K ρ' H' σu σ') (hD:H' D=some vs') (hn:D ∉ ρ') (rv:CK.ho X.K ρ' H' c us vs') (mo:Mon X.K ρs Hs ρ' H')
def uv{c:CK}{k:Nat}{g:Comprehension}{it acc:Value}(hk:gens[k]? = some g)(ha:g.is_async=0):
  compTurn #[9] k it acc env=(do
   standAt g.iter.pos
   match <- pyNext it with
   | none=>pure (.done .next)
   | some v =>
    letOwnedTupleGo g.target it v
    assign g.target env v
    let ok <- ifsT g.ifs env
    if ok then
     match gens[k+1]? with
     | some g' =>
      let x <- eval g'.iter env
      standAt g'.iter.pos
      let x <- if g'.is_async != 0 then foldedIterable g'.iter x else foldedSetIterable g'.iter env x
      let _ <- runOwn (.compStart #[9] (k+1) (<- holding [x] (if g'.is_async != 0 then asyncIter x else pyIter x)) acc env) env
     | none=>c.emit acc env
    again (.compLoop #[9] k it acc env)):=by
 cases c with
 | lst elt=>unfold compTurn;simp! [CK.exp,hk,ha];rfl
 | dic kx vx=>unfold compTurn;simp! [CK.exp,hk,ha];rfl
end
section
variable{R:Result->Shared->Prop}
def il{c:CK}{k:Nat}{g:Comprehension}{it acc:Value}(hk:gens[k]? = some g)(ha:g.is_async=0)
  (h0:codeAny #[12] A (.compLoop #[9] k it acc env) R s)
  (h:wpAny #[12] A (pyIter it) (λit' s'=>codeAny #[12] A (.compLoop #[9] k it' acc env) R s')
   (notedBy #[12] A env λx s'=>R (.error x) s') s) :
  codeAny #[12] A (.compStart #[9] k it acc env) R s:=by
 refine codeAny_of_tree ?_;have key:#[12].den (.compStart #[9] k it acc env)=(compStart #[9] k it acc env).onRaise (λx=>do noteFrame x env;standAt theWindowsPlace):=by cases c <;> rfl
 have ku:A.under (.compStart #[9] k it acc env)=A:=by cases c <;> rfl
 rw [key,ku];refine wpAny_notedAt ?_;unfold compStart;have hc:(clausesOf #[9])[k]? = some g:=by cases c <;> exact hk
 simp! [hc,ha,Option.elim];show wpAny _ _ (ask >>= _) _ _ s;refine ZB (wpAny_askSetting (wpAny_ite ?_));split
 .first
   | exact ZB (ZP (ZP (And.intro rfl h0)))
   | exact ZP (And.intro rfl h0)
 .first
   | exact ZB (wpAny_rule (ZB (wpAny_standAt (ZB (wpAny_mono h (λit' s' h'=>ZP (And.intro rfl h')) λ_ _ x=>x)))))
   | (refine ZB (wpAny_rule ?_);show wpAny _ _ (standAt g.iter.pos >>= _) _ _ s;exact ZB (wpAny_standAt (ZB (wpAny_mono h (λit' s' h'=>ZP (And.intro rfl h')) λ_ _ x=>x))))
end
section
def noE{t:Sem α}{Q:α->Shared->Prop}{E:Value->Shared->Prop}(hxe:X.xe=λ_ _=>False)(h:wpAny #[5] X.A t Q X.xe s):wpAny #[5] X.A t Q E s :=
 wpAny_mono h (λ_ _ q=>q) λe s' z=>by rw [hxe] at z;exact z.elim
def C0(X:Cx)(C:Nat->List U->G->Out U)(c:CK)(elt':E):Prop :=
 ∀ (n:Nat) (pins:List (Addr×Obj)) (s:Shared) (σ1:Su) (σ:L2.St) (H:Hp) (ρ:List Addr) (g1:G) (acc:List U) (o:HO) (v:U) (g2:G) (D:Addr),(Ju C n).ev elt' σ1 g1=.ok v g2->acc.length < Ae->L2.Inv X pins σ H s->RS X.K ρ H σ1 σ->RH X.K ρ H g1->H D=some o->D ∉ ρ->CK.ho X.K ρ H c acc o ->
  wpAny #[5] X.A (c.emit (.ref D) X.env) (λ_ s2 => ∃ ρ1 H1 o2,L2.Inv X pins σ (upd H1 D o2) s2/\Stp X.K ρ H ρ1 H1/\RH X.K ρ1 H1 g2/\H1 D=some o/\CK.ho X.K ρ1 (upd H1 D o2) c (acc++[v]) o2) X.xe s
def kj{elt:Expr}(helt:∀ n,PE X elt (tE X.K PTs.W0' ((Ju C n).ev elt'))):C0 X C (.lst elt) elt':=by
 intro n pins s σ1 σ H ρ g1 acc o v g2 D e1 hl I hs hg hD hn ⟨vs,eo,rv⟩;subst eo;refine ZB (thn (helt n pins s σ H (λx H1 => ∃ ρ1,Stp X.K ρ H ρ1 H1/\RH X.K ρ1 H1 g2/\RV X.K ρ1 H1 v x) I ⟨σ1,ρ,g1,hs,hg,by rw [e1];exact λv ρ1 H1 s1 h1 r1=>⟨ρ1,s1,h1,r1⟩⟩) ?_);rintro u s1 ⟨x,H1,I1,r1,ρ1,sp1,hg1,rx⟩
 have hD1:H1 D=some (.lst vs):=sp1.oth D _ hD hn;refine ZB (thn (ji pins s1 σ H1 (.ref D) [x] (.ref D) [u] (λ_ H2=>H2=upd H1 D (.lst (vs++[x]))) I1 rfl (.cons r1 .nil) ⟨D,vs,x,rfl,rfl,hD1,by rw [<-rv.length,sizeLine_eq];unfold Ae at hl;omega,rfl⟩) ?_);rintro u2 s2 ⟨x2,H2,I2,r2,eh⟩
 subst eh;exact ZP ⟨ρ1,H1,_,I2,sp1,hg1,hD1,_,rfl,((RVs.step sp1 _ _ rv).append (.one rx)).accum hD1 trivial⟩
def ja:∀ {xs ys:List U} {k0 kvs:List (List Int×U)},dfold xs k0=some kvs->dfold (xs++ys) k0=dfold ys kvs
 | [],_,_,_,e=>by cases e;rfl
 | x :: xs,ys,k0,kvs,e=>by
  simp! [List.cons_append,dfold] at e ⊢;let ⟨k1,h1,h2⟩:=Option.bind_eq_some_iff.mp e;rw [h1];exact ja h2
def wD{k:List Int}:(dput kvs k u).length<=kvs.length+1:=by
 unfold dput;split <;> simp
def vi{k1:List (List Int×U)}{x:U}(e:BF kvs x=some k1):k1.length<=kvs.length+1:=by
 unfold BF at e;split at e
 .obtain ⟨ks,_,rfl⟩:=Option.map_eq_some_iff.mp e;exact wD
 .cases e
def jf:∀ {xs:List U} {k0 kvs:List (List Int×U)},dfold xs k0=some kvs->kvs.length<=k0.length+xs.length
 | [],_,_,e=>by cases e;simp
 | x :: xs,k0,kvs,e=>by
  simp! [dfold] at e;let ⟨k1,h1,h2⟩:=Option.bind_eq_some_iff.mp e;have:=vi h1;have:=jf h2;simp! [List.length_cons];omega
def kh{kx vx:Expr}{k' v':E}(hu:X.A.units+1 < cLine)(hk:∀ n,PE X kx (tE X.K PTs.W0' ((Ju C n).ev k')))(hv:∀ n,PE X vx (tE X.K PTs.W0' ((Ju C n).ev v'))):C0 X C (.dic kx vx) (.pair k' v'):=by
 intro n pins s σ1 σ H ρ g1 acc o v g2 D e1 hl I hs hg hD hn ⟨kvs,ws,eo,ed,rd⟩;subst eo;cases n with
 | zero=>cases e1
 | succ n =>
  have e1':(((Ju C n).ev k' σ1 g1).bind λx g=>((Ju C n).ev v' σ1 g).bind λy g=>match keyOf x with | some _ => .ok (.tup [x,y]) g | none => .bad)=Out.ok v g2:=e1
  cases ek:(Ju C n).ev k' σ1 g1 with
  | exc _ _ _=>rw [ek] at e1';cases e1'
  | bad=>rw [ek] at e1';cases e1'
  | ok ku ga =>
   rw [ek] at e1';cases ev:(Ju C n).ev v' σ1 ga with
   | exc _ _ _=>simp! [Out.bind,ev] at e1';cases e1'
   | bad=>simp! [Out.bind,ev] at e1';cases e1'
   | ok vu gb =>
    simp! [Out.bind,ev] at e1';cases ekk:keyOf ku with
    | none=>rw [ekk] at e1';cases e1'
    | some kk =>
     rw [ekk] at e1';cases e1';refine ZB (thn (hk n pins s σ H (λx H1 => ∃ ρ1,Stp X.K ρ H ρ1 H1/\RH X.K ρ1 H1 ga/\RV X.K ρ1 H1 ku x) I ⟨σ1,ρ,g1,hs,hg,by rw [ek];exact λv ρ1 H1 s1 h1 r1=>⟨ρ1,s1,h1,r1⟩⟩) ?_);rintro u s1 ⟨x,H1,I1,r1,ρ1,sp1,hg1,rx⟩
     refine ZB (wpAny_holding (thn (hv n pins s1 σ H1 (λx H2 => ∃ ρ2,Stp X.K ρ1 H1 ρ2 H2/\RH X.K ρ2 H2 g2/\RV X.K ρ2 H2 vu x) I1 ⟨σ1,ρ1,ga,hs.step sp1,hg1,by rw [ev];exact λv ρ1 H1 s1 h1 r1=>⟨ρ1,s1,h1,r1⟩⟩) ?_));rintro w s2 ⟨y,H2,I2,r2,ρ2,sp2,hg2,ry⟩
     let ⟨b,rfl,hb⟩:=eP ekk (RV.step sp2 _ _ rx);obtain rfl:u=Value.ref b:=r1;have sp:=sp1.trans sp2;have hD2:H2 D=some (.dT ws):=sp.oth D _ hD hn;refine ZB (wpAny_standAt (wpAny_holding (ady hu I2 hD2 hb ?_ r2 λs3 I3=>⟨ρ2,H2,_,I3,sp,hg2,hD2,dput kvs kk vu,_,rfl,?_,?_⟩)))
     .have:=jf ed;rw [<-rd.len,sizeLine_eq];unfold Ae at hl;simp at this;omega
     .rw [ja ed];simp! [dfold,BF,ekk,Option.map_some,Option.bind_some]
     .exact RD.mono (λ_ _ e=>e) (λ_ _ h=>aZ h (.inr ⟨_,hD2,trivial⟩)) (λ_ _ h=>aX h (.inr ⟨_,hD2,trivial⟩)) _ _ ((rd.mono sp.ext sp.tup sp.fro).put ry)
abbrev postC(c:Code)(R:Result->Shared->Prop)(N:Shared->Prop):PySem.Fin->Shared->Prop:=λfin s'=>match fin with | .done f=>R (.ok f) s' | .again c'=>c'=c/\N s'
inductive LpI(X:Cx)(f:Nat->Tg->List E->List (Tg×E×List E)->E->List U->Su->G->Out (List U))(t:Tg)(cs:List E)(rest':List (Tg×E×List E))(elt':E)(σu:Su)(us:List U)(g':G)(pins:List (Addr×Obj))(tn:Nat->Heap->Prop)(fp:List Addr)(itI:Iter)(J:It)(ρ0:List Addr)(H0:Hp)(D:Addr)(c:CK)(ρs:List Addr)(Hs:Hp)(s:Shared):Prop
 | mk (i:Nat) (acc:List U) (vs:HO) (σ:L2.St) (H:Hp) (ρ:List Addr) (g0:G) (eq:f i t cs rest' elt' acc σu g0=.ok us g') (I:L2.Inv X pins σ H s) (st:tn i s.heap) (hf:∀ b∈fp,H b=none) (hs:RS X.K ρ H σu σ) (hgg:RH X.K ρ H g0) (ri:RI X.K ρ H itI J) (sp:Stp X.K ρ0 H0 ρ H) (hD:H D=some vs) (hn:D ∉ ρ) (rv:CK.ho X.K ρ H c acc vs) (mo:Mon X.K ρs Hs ρ H)
def la(hc:X.calm=true)(hxe:X.xe=λ_ _=>False){c:CK}{elt':E}{scope:Scope}{pos:Pos}{D:Addr}{k:Nat}{t:Tg}{ρ0 ρs:List Addr}{H0 Hs:Hp}
  {it:Addr} {fp:List Addr} {tn:Nat->Heap->Prop} {J:It} {itI:Iter} {pins:List (Addr×Obj)} {σu:Su} {us:List U} {g':G}
  (hk:gens[k]? = some gc) (ha:gc.is_async=0) (hg:PG X gc.target (tG X.K t)) (hts:∀ n,PTs X gc.ifs #[41]) (T:Turn X.prog X.w X.K gc.target J fp it tn) (hst:∀ b∈fp,∀ H':Hp,H' b=none->AI X pins H' b) (h0:H0 D=none)
  (inner:∀ (n:Nat) (pins':List (Addr×Obj)) (s:Shared) (σ1:Su) (σ:L2.St) (H:Hp) (ρ:List Addr) (g1:G) (acc:List U) (vs:HO) (i:Nat) (N:Shared->Prop) (E:Value->Shared->Prop),
   (match rest' with
    | []=>((Ju C n).ev elt' σ1 g1).bindB λv g=>if acc.length < Ae then (Ju C n).cm itI (i+1) t cs rest' elt' (acc++[v]) σu g else .bad
    | (t2,it2,cs2) :: rest2=>(Jk (Ju C n) it2 σ1 g1).bindB λj g=>((Ju C n).cm j 0 t2 cs2 rest2 elt' acc σ1 g).bindB λacc2 g=>(Ju C n).cm itI (i+1) t cs rest' elt' acc2 σu g)=.ok us g' ->
   L2.Inv X pins' σ H s->RS X.K ρ H σ1 σ->RH X.K ρ H g1->Stp X.K ρ0 H0 ρ H->H D=some vs->D ∉ ρ->CK.ho X.K ρ H c acc vs ->
   (∀ s' σ' H' ρ' g2 acc2 vs2,(Ju C n).cm itI (i+1) t cs rest' elt' acc2 σu g2=.ok us g'->L2.Inv X pins' σ' H' s'->RS X.K ρ' H' σ1 σ'->RH X.K ρ' H' g2->Stp X.K ρ0 H0 ρ' H'->Mon X.K ρ H ρ' H'->H' D=some vs2->D ∉ ρ'->CK.ho X.K ρ' H' c acc2 vs2->N s') ->
   wpAny #[5] X.A (match gens[k+1]? with
     | some g'=>(do
      let x <- eval g'.iter X.env
      standAt g'.iter.pos
      if (g'.is_async != 0)=true then do
        let x <- foldedIterable g'.iter x
        let y <- holding [x] (if (g'.is_async != 0)=true then asyncIter x else pyIter x)
        let _ <- runOwn (.compStart #[9] (k+1) y (.ref D) X.env) X.env
        again (.compLoop #[9] k (.ref it) (.ref D) X.env)
       else do
        let x <- foldedSetIterable g'.iter X.env x
        let y <- holding [x] (if (g'.is_async != 0)=true then asyncIter x else pyIter x)
        let _ <- runOwn (.compStart #[9] (k+1) y (.ref D) X.env) X.env
        again (.compLoop #[9] k (.ref it) (.ref D) X.env))
     | none=>(do
      c.emit (.ref D) X.env
      again (.compLoop #[9] k (.ref it) (.ref D) X.env))) (postC (.compLoop #[9] k (.ref it) (.ref D) X.env) (RR X c D pins ρ0 H0 ρs Hs σu us g') N) E s)
  (n:Nat) (s:Shared) (i:Nat) (acc:List U) (vs:HO) (σ:L2.St) (H:Hp) (ρ:List Addr) (g0:G) (eq:(Ju C n).cm itI i t cs rest' elt' acc σu g0=.ok us g') (I:L2.Inv X pins σ H s) (st:tn i s.heap) (hf:∀ b∈fp,H b=none)
  (hs:RS X.K ρ H σu σ) (hgg:RH X.K ρ H g0) (ri:RI X.K ρ H itI J) (sp:Stp X.K ρ0 H0 ρ H) (hD:H D=some vs) (hn:D ∉ ρ) (rv:CK.ho X.K ρ H c acc vs) (mo:Mon X.K ρs Hs ρ H) :
  codeAny #[5] X.A (.compLoop #[9] k (.ref it) (.ref D) X.env) (RR X c D pins ρ0 H0 ρs Hs σu us g') s:=by
 refine codeAny_loop (by cases c <;> rfl) (λn s=>LpI X ((Ju C n).cm itI) t cs rest' elt' σu us g' pins tn fp itI J ρ0 H0 D c ρs Hs s) ?_ n ⟨i,acc,vs,σ,H,ρ,g0,eq,I,st,hf,hs,hgg,ri,sp,hD,hn,rv,mo⟩
 clear eq I st hf hs hgg ri sp hD hn rv mo;rintro n s ⟨i,acc,vs,σ,H,ρ,g0,eq,I,st,hf,hs,hgg,ri,sp,hD,hn,rv,mo⟩;cases n with
 | zero=>cases eq
 | succ n =>
  have eq':Jt (Ju C n) itI i t cs rest' elt' acc σu g0=.ok us g':=eq;clear eq;simp! [Jt] at eq';have key:#[5].den (.compLoop #[9] k (.ref it) (.ref D) X.env)=(compTurn #[9] k (.ref it) (.ref D) X.env).onRaise (λx=>do noteFrame x X.env;theTreesLotGoes x):=by cases c <;> rfl
  have ku:X.A.under (.compLoop #[9] k (.ref it) (.ref D) X.env)=X.A:=by cases c <;> rfl
  rw [key,ku];refine wpAny_noted ?_;rw [uv hk ha];refine ZB (wpAny_standAt (ZB ?_));have stat:∀ {H':Hp},(∀ b∈fp,H' b=none) -> ∀ b∈fp,AI X pins H' b:=λh b hb=>hst b hb _ (h b hb);cases en:next itI i g0 with
  | none=>simp! [en] at eq';cases eq'
  | some o =>
   cases o with
   | none =>
    simp! [en] at eq';cases eq';refine thn (T.done X rfl rfl rfl hc i pins s σ H _ I (stat hf) st (lZ hgg ri en)) ?_;rintro r s1 ⟨hr,I1⟩;subst hr;exact ZP ⟨⟨_,rfl⟩,σ,H,ρ,vs,I1,sp,hgg,hs,hD,hn,rv,mo⟩
   | some u =>
    simp! [en] at eq';let ⟨go,yl⟩:=qO hgg ri en;refine thn (T.item X rfl rfl rfl hc i pins s σ H _ I (stat hf) st go) ?_;rintro r s1 ⟨u',hr,h4⟩;subst hr;refine ZB (thn h4 ?_);rintro _ s5 ⟨x,H5,I5,r5,y5,st5,fr5⟩;let ⟨spy,hgg5,rx⟩:=yl x H5 y5;replace hs:=hs.step spy;replace hgg:=hgg5;replace ri:=ri.step spy;replace sp:=sp.trans spy;replace hD:=spy.oth D _ hD hn;replace rv:=rv.step spy;replace mo:=mo.trans spy.mon;have I5':=I5.pinned (stat fr5) (T.obj _ _ st5);split at eq'
    .rename_i hfree
     cases eb:Ah t u σu with
     | none=>simp! [eb] at eq';cases eq'
     | some σ1 =>
      simp! [eb] at eq';let ⟨kk,g1,e1,e2⟩:=eD eq';refine ZB (noE hxe (thn (hg _ s5 σ H5 x u' (λσ' H'=>H'=H5/\RS X.K ρ H5 σ1 σ') I5' r5 ⟨σu,ρ,g0,u,σ1,hs,hgg,rx,jj eb,λσ' h=>⟨rfl,h⟩⟩) ?_));rintro _ s6 ⟨σ6,H6,I6,eh,hs6⟩;subst eh;refine ZB (noE hxe (thn (hts n _ s6 σ6 H6 (λk' H'=>k'=kk /\ ∃ ρ1,Stp X.K ρ H6 ρ1 H'/\RH X.K ρ1 H' g1) I6 ⟨σ1,ρ,g0,hs6,hgg,by rw [e1];exact λv ρ1 H1 s1 h1 e=>⟨e.symm,ρ1,s1,h1⟩⟩) ?_));rintro k' s7 ⟨H7,I7,ek,ρ1,sp1,hg1⟩
      subst ek;have back:∀ (s':Shared) (σ':L2.St) (H':Hp) (ρ':List Addr) (g2:G) (acc2:List U) (vs2:HO),(Ju C n).cm itI (i+1) t cs rest' elt' acc2 σu g2=.ok us g'->L2.Inv X (pins++Ct fp s5.heap) σ' H' s'->RS X.K ρ' H' σ1 σ'->RH X.K ρ' H' g2->Stp X.K ρ0 H0 ρ' H'->Mon X.K ρ1 H7 ρ' H'->H' D=some vs2->D ∉ ρ'->CK.ho X.K ρ' H' c acc2 vs2 ->
        ∃ m,m < n+1/\LpI X ((Ju C m).cm itI) t cs rest' elt' σu us g' pins tn fp itI J ρ0 H0 D c ρs Hs s':=λs' σ' H' ρ' g2 acc2 vs2 q1 q2 q3 q4 q5 q6 q7 q8 q9=>by
       refine ⟨n,Nat.lt_succ_self _,i+1,acc2,vs2,σ',H',ρ',g2,q1,q2.unpinned,T.keep _ _ _ st5 λb hb o e=>(q2.pin (b,o) (List.mem_append_right _ (List.mem_append_right _ (dy hb e)))).1,λb hb => ?_,RS.unbind hfree eb q3,q4,(ri.step sp1).mon q6,q5,q7,q8,q9,(mo.trans sp1.mon).trans q6⟩;let ⟨o,e,d⟩:=T.obj _ _ st5 b hb;exact (q2.pin (b,o) (List.mem_append_right _ (List.mem_append_right _ (dy hb e)))).2.1
      have hD7:H7 D=some vs:=sp1.oth D _ hD hn;have hn7:D ∉ ρ1:=dz sp1 hn hD;have rv7:=rv.step sp1;cases k' with
      | false =>
       simp! [Bool.false_eq_true,if_false] at e2 ⊢;exact ZP ⟨rfl,back s7 σ6 H7 ρ1 g1 acc vs e2 I7 (hs6.step sp1) hg1 (sp.trans sp1) ⟨λ_ _ h=>h,λ_ _ h=>h,λ_ _ h=>h,λ_ _ _ h=>h⟩ hD7 hn7 rv7⟩
      | true =>
       simp! [if_true] at e2 ⊢;exact inner n _ s7 σ1 σ6 H7 ρ1 g1 acc vs i _ _ e2 I7 (hs6.step sp1) hg1 (sp.trans sp1) hD7 hn7 rv7 back
    .cases eq'
def vC(hc:X.calm=true)(hxe:X.xe=λ_ _=>False){c:CK}(hem:C0 X C c elt'){D:Addr}:
  ∀ (rest:List Comprehension) (rest':List (Tg×E×List E)) (k:Nat) (gc:Comprehension) (t:Tg) (cs:List E),gens[k]? = some gc->gens.drop (k+1)=rest->gc.is_async=0->PG X gc.target (tG X.K t) ->
   (∀ n,PTs X gc.ifs #[41])->A9 X C rest rest' ->
   ∀ (n:Nat) (pins:List (Addr×Obj)) (s:Shared) (it:Addr) (fp:List Addr) (tn:Nat->Heap->Prop) (J:It) (itI:Iter) (i:Nat) (acc:List U) (vs:HO) (σu:Su) (σ:L2.St) (H:Hp) (ρ ρ0:List Addr) (H0:Hp) (g0:G) (us:List U) (g':G),
    Turn X.prog X.w X.K gc.target J fp it tn->(Ju C n).cm itI i t cs rest' elt' acc σu g0=.ok us g'->L2.Inv X pins σ H s->tn i s.heap->(∀ b∈fp,AI X pins H b)->RS X.K ρ H σu σ->RH X.K ρ H g0->RI X.K ρ H itI J ->
    Stp X.K ρ0 H0 ρ H->H0 D=none->H D=some vs->D ∉ ρ->CK.ho X.K ρ H c acc vs ->
    codeAny #[5] X.A (.compLoop #[9] k (.ref it) (.ref D) X.env) (RR X c D pins ρ0 H0 ρ H σu us g') s:=by
 intro rest
 induction rest with
 | nil =>
  intro rest' k gc t cs hk hdrop ha hg hts hgo n pins s it fp tn J itI i acc vs σu σ H ρ ρ0 H0 g0 us g' T eq I st hf hs hgg ri sp h0 hD hn rv;have hk1:gens[k+1]? = none:=by
   have:=congrArg List.length hdrop;rw [List.length_drop] at this;exact List.getElem?_eq_none_iff.mpr (by simp at this;omega)
  cases rest' with
  | cons _ _=>exact False.elim hgo
  | nil =>
   refine la hc hxe hk ha hg hts T (λb hb H' h=>⟨h,(hf b hb).2⟩) h0 ?_ n s i acc vs σ H ρ g0 eq I st (λb hb=>(hf b hb).1) hs hgg ri sp hD hn rv ⟨λ_ _ h=>h,λ_ _ h=>h,λ_ _ h=>h,λ_ _ _ h=>h⟩;intro n pins' s σ1 σ H ρ g1 acc vs i N E eq I hs hg sp hD hn rv back;let ⟨v,g2,e1,e2⟩:=eD eq;rw [hk1];split at e2
   .rename_i hl
    refine ZB (noE hxe (thn (hem n pins' s σ1 σ H ρ g1 acc vs v g2 D e1 hl I hs hg hD hn rv) ?_));rintro _ s2 ⟨ρ1,H1,o2,I2,sp1,hg1,hD1,rv2⟩;have hn1:D ∉ ρ1:=dz sp1 hn hD;have hm:=rv.mut;refine ZP ⟨rfl,?_⟩;refine back s2 σ _ ρ1 g2 (acc++[v]) o2 e2 I2 ?_ (hg1.accum hD1 hm hn1) ((sp.trans sp1).accum h0 hD1 hm) (sp1.mon.trans ⟨λ_ _ h=>h,λ_ _ h=>aZ h (.inr ⟨_,hD1,hm⟩),λ_ _ h=>aX h (.inr ⟨_,hD1,hm⟩),λ_ _ _ h=>by rw [ae (cH h hD1 (by rintro rfl;exact hm))];exact h⟩) upd_same hn1 rv2
    exact ⟨hs.len,λj z e=>let ⟨w,w1,w2⟩:=(hs.step sp1).val j z e;⟨w,w1,w2.accum hD1 hm⟩⟩
   .cases e2
 | cons gn rest ih =>
  intro rest' k gc t cs hk hdrop ha hg hts hgo n pins s it fp tn J itI i acc vs σu σ H ρ ρ0 H0 g0 us g' T eq I st hf hs hgg ri sp h0 hD hn rv;have hk1:gens[k+1]? = some gn:=by
   have:=congrArg (λl=>l[0]?) hdrop;simpa [List.getElem?_drop] using this
  have hdrop2:gens.drop (k+1+1)=rest:=by
   rw [<-List.drop_drop,hdrop];rfl
  cases rest' with
  | nil=>exact False.elim hgo
  | cons q2 rest2 =>
   let ⟨t2,it2,cs2⟩:=q2;let ⟨a2,pg2,pts2,pi2,fold2,hgo2⟩:=hgo;refine la hc hxe hk ha hg hts T (λb hb H' h=>⟨h,(hf b hb).2⟩) h0 ?_ n s i acc vs σ H ρ g0 eq I st (λb hb=>(hf b hb).1) hs hgg ri sp hD hn rv ⟨λ_ _ h=>h,λ_ _ h=>h,λ_ _ h=>h,λ_ _ _ h=>h⟩;intro n pins' s σ1 σ H ρ g1 acc vs i N E eq I hs hg sp hD hn rv back;let ⟨j,g3,e1,e2⟩:=eD eq;let ⟨acc2,g4,e3,e4⟩:=eD e2;rw [hk1];refine ZB (noE hxe (thn (pi2 n pins' s σ H (λJ H1 => ∃ ρ1,Stp X.K ρ H ρ1 H1/\RH X.K ρ1 H1 g3/\RI X.K ρ1 H1 j J) I ⟨σ1,ρ,g1,hs,hg,by rw [e1];exact λv ρ1 H1 s1 h1 r1=>⟨ρ1,s1,h1,r1⟩⟩) λv s1 h1=>ZB (wpAny_standAt ?_)))
   rw [a2];rw [if_neg #[1]]
   refine ZB (wpAny_of_eq (fold2 v) (ZB (wpAny_holding ?_)));rw [if_neg #[1]]
   refine noE hxe (thn h1 λitv s2 h2 => ?_);let ⟨ita,fp2,tn2,J2,H2,e,I2,T2,st2,f2,ρ1,sp1,hg1,ri1⟩:=h2;subst e;have hD1:H2 D=some vs:=sp1.oth D _ hD hn;have hn1:D ∉ ρ1:=dz sp1 hn hD;have loop:=ih rest2 (k+1) gn t2 cs2 hk1 hdrop2 a2 pg2 pts2 hgo2 n pins' s2 ita fp2 tn2 J2 j 0 acc vs σ1 σ H2 ρ1 ρ0 H0 g3 acc2 g4 T2 e3 I2 st2 f2 (hs.step sp1) hg1 ri1 (sp.trans sp1) h0 hD1 hn1 (rv.step sp1);refine ZB (wpAny_runOwn (codeAny_mono (il hk1 a2 loop (T2.self _ 0 s2 _ _ st2 loop)) λr s3 hr => ?_));let ⟨⟨f,rfl⟩,σ',H',ρ',vs',I3,sp3,hg3,hs3,hD3,hn3,rv3,mo3⟩:=hr;exact ZP ⟨rfl,back s3 σ' H' ρ' g4 acc2 vs' e4 I3 hs3 hg3 sp3 (sp1.mon.trans mo3) hD3 hn3 rv3⟩
end
def Jz(cells:List (Str×Addr)):List (Str×NameKind)->List (Str×Addr)->List (Str×Addr)
 | [],acc=>acc
 | (x,k) :: r,acc=>if k == .free then (match cells.lookup x with | some c=>Jz cells r ((x,c) :: acc) | none=>Jz cells r acc) else Jz cells r acc
def dE{scope:Scope}(h:∀ x∈scope.names,x.2=.free -> ∃ c,env.cells.lookup x.1=some c):closureFor scope env=pure (Jz env.cells scope.names []):=by
 have all:∀ (names:List (Str×NameKind)) (acc:List (Str×Addr)),(∀ x∈names,x.2=.free -> ∃ c,env.cells.lookup x.1=some c) ->
   (forIn names acc λ(x:Str×NameKind) (cs:List (Str×Addr))=>match x with | (name,kind)=>if (kind == NameKind.free)=true then do let c <- cellOf env name;pure (ForInStep.yield ((name,c) :: cs)) else pure (ForInStep.yield cs):Sem (List (Str×Addr)))=pure (Jz env.cells names acc):=λnames=>by
  induction names with
  | nil=>intro acc _;rfl
  | cons p r ih =>
   intro acc hp;let ⟨x,k⟩:=p;simp! [List.forIn_cons,Jz];by_cases hk:k=.free
   .subst hk
    let ⟨c,hc⟩:=hp (x,.free) List.mem_cons_self rfl;have hco:cellOf env x=pure c:=by unfold cellOf;simp only at hc;rw [hc]
    simp! [beq_self_eq_true,if_true,hco,hc];exact ih _ λy hy=>hp y (HB _ hy)
   .have hb:(k == NameKind.free)=false:=by simpa using hk
    simp! [hb,Bool.false_eq_true,if_false];exact ih _ λy hy=>hp y (HB _ hy)
 unfold closureFor;show ((forIn scope.names [] λ(x:Str×NameKind) (cs:List (Str×Addr))=>match x with | (name,kind)=>if (kind == NameKind.free)=true then do let c <- cellOf env name;pure (ForInStep.yield ((name,c) :: cs)) else pure (ForInStep.yield cs):Sem (List (Str×Addr))) >>= λs=>pure s)=_
 rw [all scope.names [] h]
 rfl
def bI{cells:List (Str×Addr)}:∀ (names:List (Str×NameKind)) (acc:List (Str×Addr)),(∀ x c,acc.lookup x=some c->cells.lookup x=some c) -> ∀ x c,(Jz cells names acc).lookup x=some c->cells.lookup x=some c
 | [],_,h=>h
 | (y,k) :: r,acc,h=>by
  unfold Jz;split
  .split
   .rename_i c hc
    refine bI r _ λx d e => ?_;rw [List.lookup_cons] at e;split at e
    .rename_i hx
     cases e;rw [eq_of_beq hx];exact hc
    .exact h x d e
   .exact bI r _ h
  .exact bI r _ h
def eA{cells:List (Str×Addr)}{x:Str}:∀ (names:List (Str×NameKind)) (acc:List (Str×Addr)),(acc.lookup x).isSome=true->((Jz cells names acc).lookup x).isSome=true
 | [],_,h=>h
 | (y,k) :: r,acc,h=>by
  unfold Jz;split
  .split
   .refine eA r _ ?_
    rw [List.lookup_cons];split
    .rfl
    .exact h
   .exact eA r _ h
  .exact eA r _ h
def cT{cells:List (Str×Addr)}{x:Str}{c:Addr}(hc:cells.lookup x=some c):∀ (names:List (Str×NameKind)) (acc:List (Str×Addr)),(x,NameKind.free)∈names->((Jz cells names acc).lookup x).isSome=true
 | (y,k) :: r,acc,h=>by
  unfold Jz;rcases List.mem_cons.mp h with e | h
  .cases e
   simp! [beq_self_eq_true,if_true,hc];exact eA r _ #[3]
  .split
   .split
    .exact cT hc r _ h
    .exact cT hc r _ h
   .exact cT hc r _ h
def cC:∀ (names:List (Str×NameKind)) (n:Nat) (acc:List (Str×Addr)),cellsFrom n names acc=cellsFrom n names []++acc
 | [],_,_=>rfl
 | (x,k) :: r,n,acc=>by
  unfold cellsFrom;split
  .rw [cC r (n+1) ((x,n) :: acc),cC r (n+1) [(x,n)],List.append_assoc];rfl
  .exact cC r n acc
def bq{x:Str}{c:Addr}:∀ (names:List (Str×NameKind)) (n:Nat),(x,c)∈cellsFrom n names []->(x,NameKind.cell)∈names/\n<=c
 | [],_,h=>nomatch h
 | (y,k) :: r,n,h=>by
  unfold cellsFrom at h;split at h
  .rename_i hk
   rw [cC,List.mem_append] at h;rcases h with h | h
   .exact ⟨.tail _ (bq r _ h).1,Nat.le_of_succ_le (bq r _ h).2⟩
   .cases List.mem_singleton.mp h;rw [eq_of_beq hk];exact ⟨.head _,HA _⟩
  .exact ⟨.tail _ (bq r _ h).1,(bq r _ h).2⟩
def di{c:Addr}(h:(cellsFrom n names cl).lookup x=some c):(cellsFrom n names []).lookup x=some c\/((cellsFrom n names []).lookup x=none/\cl.lookup x=some c):=by
 rw [cC,List.lookup_append] at h;cases e:(cellsFrom n names []).lookup x with
 | some d=>rw [e] at h;exact .inl h
 | none=>rw [e] at h;exact .inr ⟨rfl,h⟩
def acf{c:Addr}(h:cl.lookup x=some c)(hx:(x,NameKind.cell) ∉ names):(cellsFrom n names cl).lookup x=some c:=by
 rw [cC,List.lookup_append];cases e:(cellsFrom n names []).lookup x with
 | some d=>exact absurd (bq _ _ (PySem.mem_of_lookup e)).1 hx
 | none=>exact h
def gL{c:Addr}(h:(cellsFrom n names (Jz cells names [])).lookup x=some c):cells.lookup x=some c\/n<=c:=by
 rcases di h with z | ⟨_,z⟩
 .exact .inr (bq _ _ (PySem.mem_of_lookup z)).2
 .exact .inl (bI names [] (λx c h=>by cases h) x c z)
def qV(h:Heap)(names:List (Str×NameKind))(o:Obj):CellsOk (pushCells (h.push o) names) (h.objs.size+1) (cellsFrom (h.objs.size+1) names []):=by
 have:=cellsFrom_ok names (h.push o) (h.objs.size+1) [] ⟨λ_ _ hm=>(nomatch hm),List.Pairwise.nil⟩ (by rw [Heap.size_push];exact HA _)
 rwa [Heap.size_push] at this
def wY{E:Value->Shared->Prop}{gl:Addr}{qual:Str}{Q:Env->Shared->Prop}
  (h:Q { scope,locals:=s.heap.objs.size,globals:=gl,cells:=cellsFrom (s.heap.objs.size+1) scope.names cl,qual,func:=none,code:=env.code,frame:=env.frame,builtins:=env.builtins } { s with heap:=pushCells (s.heap.push { cls := .type "dict",data := .dict #[] }) scope.names }) :
  wpAny M A (newFunctionEnv scope gl cl [] qual none .none (some env)) Q E s:=by
 simp! [newFunctionEnv,Option.isSome_some,if_true];refine ZB (wpAny_alloc ?_);refine ZB (wpAny_layCells _ (λname kind cells=>by cases hkc:kind == NameKind.cell <;> simp [hkc]) _ _ _ _ ?_)
 rw [show ({ s with heap:=s.heap.push { cls := .type "dict",data := .dict #[] } }:Shared).heap.objs.size=s.heap.objs.size+1 from Heap.size_push ..]
 exact ZB (ZP (ZP h))
def Ag(X:Cx)(pins:List (Addr×Obj))(scope:Scope)(s3:Shared)(H3:Hp)(fp:List Addr)(N':List Str):Cx :=
 { X with env:=compEnvC scope (cellsFrom (s3.heap.objs.size+1) scope.names (Jz X.env.cells scope.names [])) s3.heap.objs.size X.env,N:=N',s₀ := s3,H₀ := H3,outer:=X.stack,stack:=X.stack,ex:=fp,fn:=λx=>scope.names.lookup x == some .cell,pn:=X.pn++pins,xe:=λ_ _=>False }
section
variable{s3 s4:Shared}{σ:L2.St}{H3:Hp}{own fr:List Str}
structure CompSc(X:Cx)(scope:Scope)(own fr:List Str)(frI:List Nat):Prop where
 kind:scope.kind=.function
 names:∀ x∈scope.names,x.2=.local->scope.names.lookup x.1=some .local
 cells:∀ x∈scope.names,x.2=.cell->scope.names.lookup x.1=some .cell
 frees:∀ x∈scope.names,x.2=.free->X.env.kindOf x.1=some .cell
 loc:∀ x∈own,scope.names.lookup x=some .local\/scope.names.lookup x=some .cell
 nd:(own++fr).Nodup
 frs:∀ x∈fr,scope.names.lookup x=some .free
 ix:frI.length=fr.length /\ ∀ (j:Nat) (x:Str) (i:Nat),fr[j]? = some x->frI[j]? = some i->X.N[i]? = some x
def fg{α:Type}{x:Str}{k:α}:∀ {l:List (Str×α)},l.lookup x=some k->(x,k)∈l
 | [],h=>by cases h
 | (y,z) :: r,h=>by
  rw [List.lookup_cons] at h;split at h
  .rename_i hx;cases h;rw [eq_of_beq hx];exact List.mem_cons_self
  .exact HB _ (fg h)
def dn{env:Env}{x:Str}:∀ {names:List (Str×NameKind)},(names.map λ(n,k)=>if (k == NameKind.free && env.scope.kind == .function && env.kindOf n == some .cell) then (n,NameKind.cell) else (n,k)).lookup x =
  (names.lookup x).map λk=>if (k == NameKind.free && env.scope.kind == .function && env.kindOf x == some .cell) then NameKind.cell else k
 | []=>rfl
 | (n,k) :: r=>by
  have ih := @dn env x r;rw [List.map_cons,List.lookup_cons (as:=r)];show List.lookup x ((if (k == NameKind.free && env.scope.kind == .function && env.kindOf n == some .cell)=true then (n,NameKind.cell) else (n,k)) :: _)=_
  cases hx:x == n with
  | true =>
   obtain rfl:=eq_of_beq hx;by_cases hc:(k == NameKind.free && env.scope.kind == .function && env.kindOf x == some .cell)=true
   .rw [if_pos hc,List.lookup_cons,hx]
    simp! [Option.map_some];rw [if_pos hc]
   .rw [if_neg hc,List.lookup_cons,hx]
    simp! [Option.map_some];rw [if_neg hc]
  | false =>
   by_cases hc:(k == NameKind.free && env.scope.kind == .function && env.kindOf n == some .cell)=true
   .rw [if_pos hc,List.lookup_cons,hx];exact ih
   .rw [if_neg hc,List.lookup_cons,hx];exact ih
def yk(S:CompSc X scope own fr frI)(I:L2.Inv X pins σ H3 s3)(hf:∀ b∈fp,AI X pins H3 b)(hfl:∀ b∈fp,b < s3.heap.objs.size):(Ag X pins scope s3 H3 fp (own++fr)).Ok:=by
 have sub:=bI (cells:=X.env.cells) scope.names [] (λx c h=>by cases h)
 have kindO:(Ag X pins scope s3 H3 fp (own++fr)).env.scope.kind=.function:=S.kind;have low:∀ x c,X.env.cells.lookup x=some c->c < s3.heap.objs.size:=λx c h=>let ⟨_,_,ho,_⟩:=I.cell x c h;Hx ho
 have ck:=qV s3.heap scope.names { cls := .type "dict",data := .dict #[] };refine ⟨I.ok.mod,kindO,I.ok.glob,I.ok.blt,HA _,λx y c h1 h2 => ?_,λx hx => ?_,λx c h1 h2 => ?_,I.ok.hd,I.ok.frames,.inl rfl,λb hb=>⟨HD (hfl b hb),λx c h => ?_⟩,λb o e=>I.bs b o e,Hy I.ok.bsz I.sz,λb o e hb => ?_,λb hb hfs => ?_,I.stack,I.stkFree⟩
 .have big:∀ {z},(cellsFrom (s3.heap.objs.size+1) scope.names []).lookup z=some c->s3.heap.objs.size < c:=λh=>(bq _ _ (PySem.mem_of_lookup h)).2
  rcases di h1 with z | ⟨_,z⟩ <;> rcases di h2 with z' | ⟨_,z'⟩
  .exact name_of_addr ck.apart (PySem.mem_of_lookup z) (PySem.mem_of_lookup z')
  .exact absurd (Nat.lt_trans (big z) (low _ _ (sub _ _ z'))) (Nat.lt_irrefl _)
  .exact absurd (Nat.lt_trans (big z') (low _ _ (sub _ _ z))) (Nat.lt_irrefl _)
  .exact I.ok.inj x y c (sub x c z) (sub y c z')
 .
  have hx':(Ag X pins scope s3 H3 fp (own++fr)).env.kindOf x=(scope.names.lookup x).map λk=>if (k == NameKind.free && X.env.scope.kind == .function && X.env.kindOf x == some .cell) then NameKind.cell else k:=dn
  rw [hx'] at hx;cases hl:scope.names.lookup x with
  | none=>rw [hl] at hx;rcases hx with h | h <;> cases h
  | some k =>
   rw [hl] at hx;have hm:=fg hl;refine Option.isSome_iff_exists.mp (PySem.W.cellsFrom_some _ _ _ ?_);cases k with
   | free =>
    let ⟨c,hc⟩:=I.ok.has x (.inl (S.frees _ hm rfl));exact .inr (cT hc scope.names [] hm)
   | cell=>exact .inl hl
   | «local» => rcases hx with h | h <;> simp at h
   | globalExplicit=>rcases hx with h | h <;> simp at h
   | globalImplicit=>rcases hx with h | h <;> simp at h
 .have h1':scope.names.lookup x=some .cell:=eq_of_beq h1
  rcases di h2 with z | ⟨z,_⟩
  .exact Nat.le_of_succ_le (bq _ _ (PySem.mem_of_lookup z)).2
  .have:=PySem.W.cellsFrom_some scope.names (s3.heap.objs.size+1) [] (.inl h1')
   rw [z] at this;cases this
 .rcases gL h with z | z
  .exact (hf b hb).2.2.2.2.1 x c z
  .exact Nat.ne_of_gt (HC (Nat.lt_succ_of_lt (hfl b hb)) z)
 .rcases (hf b hb).2.2.2.1 with z | z
  .exact I.ok.noex b o e z
  .exact absurd (HC (show b < X.base.objs.size from Hx e) (Hy I.ok.bsz z)) (Nat.lt_irrefl _)
 .rcases List.mem_cons.mp (I.stkSub b hfs) with z | z
  .exact (hf b hb).2.1 z
  .exact (hf b hb).2.2.1 z
def getD_none{o:Option (Option α)}{v:α}(h:o.getD none=some v):o=some (some v):=by
 cases o with
 | none=>cases h
 | some w=>cases h;rfl
def w8(S:CompSc X scope own fr frI)(I:L2.Inv X pins σ H3 s3)(hf:∀ b∈fp,AI X pins H3 b)(hfl:∀ b∈fp,b < s3.heap.objs.size){h1:Heap}{tk:Nat}{m0:Str->Option Value}(hns:h1.Ns s3.heap.objs.size m0)(kept:∀ b o,s3.heap.get? b=some o->h1.get? b=some o)(hcl:∀ x c,(x,c)∈cellsFrom (s3.heap.objs.size+1) scope.names [] -> ∃ v,h1.IsCell c v):
  L2.Inv (Ag X pins scope s3 H3 fp (own++fr)) [] (List.replicate own.length none++frI.map λj=>(σ[j]?).getD none) H3 { s3 with heap:=h1,toks:=tk }:=by
 have sub:=bI (cells:=X.env.cells) scope.names [] (λx c h=>by cases h)
 refine ⟨yk S I hf hfl,rfl,I.bare,Un.kept kept,⟨m0,hns,λi x v e1 e2 e3 => ?_⟩,λx c h => ?_,I.hok.fresh (HA _),λx c h=>(gL h).elim (I.freeC x c) λz=>I.hok.fresh (Nat.le_of_succ_le z),λp hp => ?_,I.hok.kept kept,?_⟩
 .
  have e1':(own++fr)[i]? = some x:=e1;by_cases hi:i < own.length
  .rw [List.getElem?_append_left (by simpa using hi),List.getElem?_replicate,if_pos hi] at e2
   cases e2
  .rw [List.getElem?_append_right (by simpa using hi),List.length_replicate,List.getElem?_map] at e2
   rw [List.getElem?_append_right ()] at e1'
   cases ej:frI[i - own.length]? with
   | none=>rw [ej] at e2;cases e2
   | some k =>
    rw [ej] at e2;have e2':=getD_none (Option.some.inj e2);have hN:=S.ix.2 _ x k e1' ej;have hfrx:=S.frs x (List.mem_of_getElem? e1');have hm:=fg hfrx;have hcell:=S.frees _ hm rfl;let ⟨m,hn,hl⟩:=I.loc;let ⟨u,ru,lk⟩:=hl k x v hN e2' (.inr (.inl hcell));refine ⟨u,ru,?_⟩;rcases lk with ⟨hk,_⟩ | ⟨_,c,hc,hcell'⟩
    .rw [hcell] at hk;cases hk
    .have hkind:(Ag X pins scope s3 H3 fp (own++fr)).env.kindOf x=some .cell:=by
      have := @dn X.env x scope.names;show List.lookup x _=_;refine this.trans ?_;rw [hfrx];have hk:=I.ok.kind;simp [hk,hcell]
     let ⟨c',hc'⟩:=Option.isSome_iff_exists.mp (cT hc scope.names [] hm);have:=sub x c' hc';rw [hc] at this;cases this;let ⟨o,ho,hd⟩:=hcell';exact .inr ⟨.inl hkind,c,acf hc' (λz=>by have:=S.cells _ z rfl;rw [hfrx] at this;cases this),o,kept c o ho,hd⟩
 .rcases di h with z | ⟨_,z⟩
  .exact hcl x c (PySem.mem_of_lookup z)
  .obtain ⟨v,o,ho,hd⟩:=I.cell x c (sub x c z)
   exact ⟨v,o,kept c o ho,hd⟩
 .have hp':p∈X.pn++pins:=by
   have:p∈(X.pn++pins)++[]:=hp;simpa using this
  let ⟨e,n,ne,nf,d⟩:=I.pin p hp';refine ⟨kept _ _ e,n,HD (Hx e),λz => ?_,d⟩;rcases List.mem_cons.mp (I.stkSub p.1 z) with q | q
  .exact ne q
  .exact nf q
 .show (List.replicate own.length none++frI.map λj=>(σ[j]?).getD none).length=(own++fr).length
  simp [S.ix.1]
def ya(h:RS K ρ H σu σ):RS K ρ H (List.replicate n none++frI.map λj=>(σu[j]?).getD none) (List.replicate n none++frI.map λj=>(σ[j]?).getD none):=by
 refine ⟨by simp,λi u e => ?_⟩
 by_cases hi:i < n
 .rw [List.getElem?_append_left (by simpa using hi),List.getElem?_replicate,if_pos hi] at e
  cases e
 .rw [List.getElem?_append_right (by simpa using hi),List.length_replicate,List.getElem?_map] at e
  rw [List.getElem?_append_right (by simpa using hi),List.length_replicate,List.getElem?_map]
  cases ej:frI[i - n]? with
  | none=>rw [ej] at e;cases e
  | some k =>
   rw [ej] at e;let ⟨v,e1,e2⟩:=h.val k u (getD_none (Option.some.inj e));exact ⟨v,by simp [e1],e2⟩
end
section
variable{own fr:List Str}
def dG(hc:X.calm=true)(S:CompSc X scope own fr frI){t:Tg}{c:CK}{n:Nat}(ha:gc.is_async=0)
  (inner:∀ pins s3 H3 fp,PG (Ag X pins scope s3 H3 fp (own++fr)) gc.target (tG X.K t)/\(∀ n,PTs (Ag X pins scope s3 H3 fp (own++fr)) gc.ifs #[41])/\A9 (Ag X pins scope s3 H3 fp (own++fr)) C rest rest' /\
   C0 (Ag X pins scope s3 H3 fp (own++fr)) C c elt')
  {pins:List (Addr×Obj)} {s2:Shared} {σ:L2.St} {H2:Hp} {ρ1:List Addr} {g1:G} {σu:Su} {it:Addr} {fp:List Addr} {tn:Nat->Heap->Prop} {J:It} {iI:Iter} {us:List U} {g2:G} {E:Value->Shared->Prop} {P:Value->Addr->Result->Shared->Prop}
  (I2:L2.Inv X pins σ H2 s2) (T:Turn X.prog X.w X.K gc.target J fp it tn) (st2:tn 0 s2.heap) (f2:∀ b∈fp,AI X pins H2 b) (hs:RS X.K ρ1 H2 σu σ) (hg1:RH X.K ρ1 H2 g1) (ri1:RI X.K ρ1 H2 iI J)
  (ecm:(Ju C n).cm iI 0 t cs rest' elt' [] (List.replicate own.length none++frI.map λj=>(σu[j]?).getD none) g1=.ok us g2)
  (fin:∀ (D Cc:Addr) (s':Shared) (H':Hp) (ρ':List Addr) (vs':HO) (m:Str->Option Value) (f:Flow),L2.Inv X pins σ H' s'->Stp X.K ρ1 H2 ρ' H'->RH X.K ρ' H' g2->H2 D=none->H' D=some vs'->D ∉ ρ'->CK.ho X.K ρ' H' c us vs'->s'.heap.Ns Cc m->Cc≠X.env.locals->(∀ x c,X.env.cells.lookup x=some c->c≠Cc) ->
   (∀ (s'':Shared) (σ2:L2.St) (H'':Hp) (h':Heap),L2.Inv X pins σ2 H'' s''->(∀ b,H' b=none->b < s'.heap.objs.size->H'' b=none)->Heap.SameBut Cc s''.heap h'->L2.Inv X pins σ2 H'' { s'' with heap:=h' })->P (.ref D) Cc (.ok f) s') :
  wpAny #[5] X.A c.new (λacc s₃ => wpAny #[5] X.A (newFunctionEnv scope X.env.globals (Jz X.env.cells scope.names []) [] X.env.qual none .none (some X.env)) (λcenv s₄ =>
    codeAny #[5] X.A (.compStart (c.exp (gc :: rest) scope pos) 0 (.ref it) acc { cenv with scope:=relabel scope X.env }) (P acc cenv.locals) s₄) E s₃) E s2:=by
 refine CK.new_wp (wY ?_);dsimp only;have ckk:=qV #[28] scope.names { cls := .type "dict",data := .dict #[] };have hns₁ := (Heap.Ns.new #[28] (.type "dict")).keeps (pushCells_keeps scope.names _);have kept:∀ b o,#[28].get? b=some o->(pushCells (#[28].push { cls := .type "dict",data := .dict #[] }) scope.names).get? b=some o:=λb o e=>pushCells_keeps _ _ b o (Hw _ e);generalize pushCells (#[28].push { cls := .type "dict",data := .dict #[] }) scope.names=h₁ at ckk hns₁ kept ⊢;have hDn:H2 s2.heap.objs.size=none:=I2.hok.fresh (HA _);have I3:L2.Inv X pins σ #[22] { s2 with heap:=s2.heap.push c.obj }:=I2.laid (t':=s2.toks) (λb ob q=>Hw _ q) (HA _) (c.ini_ok _ I2.big)
 have below:∀ b∈fp,b < s2.heap.objs.size:=λb hb=>let ⟨o,e,_⟩:=T.obj _ _ st2 b hb;Hx e
 have f3:∀ b∈fp,AI X pins #[22] b:=λb hb=>⟨by rw [ae (HD (below b hb))];exact (f2 b hb).1,(f2 b hb).2⟩
 have hsz:#[28].objs.size=s2.heap.objs.size+1:=Heap.size_push _ _;have hfl:∀ b∈fp,b < #[28].objs.size:=λb hb=>by rw [hsz];exact Nat.lt_succ_of_lt (below b hb)
 have I4:=w8 (tk:=s2.toks) S I3 f3 hfl hns₁ kept λx c h=>⟨_,(ckk.empty x c h).1⟩;let ⟨pg,pts,go,helt⟩:=inner pins { s2 with heap:=s2.heap.push c.obj } #[22] fp
 have kept2:∀ b o,s2.heap.get? b=some o->h₁.get? b=some o:=λb o e=>kept b o (Hw _ e);have st4:tn 0 h₁ := T.keep _ _ _ st2 λb _ o e=>kept2 b o e;have hn:s2.heap.objs.size ∉ ρ1:=λhm=>by
  let ⟨k,e⟩:=List.mem_iff_getElem?.mp hm;let ⟨o,ho⟩:=hg1.there e;rw [hDn] at ho;cases ho
 have sub:=bI (cells:=X.env.cells) scope.names [] (λx c h=>by cases h)
 have f4:∀ b∈fp,AI (Ag X pins scope { s2 with heap:=s2.heap.push c.obj } #[22] fp (own++fr)) [] #[22] b:=λb hb=>by
  refine ⟨(f3 b hb).1,HD (hfl b hb),λz => ?_,.inl hb,λx c h=>(gL h).elim ((f3 b hb).2.2.2.2.1 x c) λz=>Nat.ne_of_gt (HC (Nat.lt_succ_of_lt (hfl b hb)) z),λp hp=>(f3 b hb).2.2.2.2.2 p ?_⟩
  .rcases List.mem_cons.mp (I3.stkSub b z) with q | q
   .exact (f3 b hb).2.1 q
   .exact (f3 b hb).2.2.1 q
  .have:p∈(X.pn++pins)++[]:=hp
   simpa using this
 have loop:=vC (X:=Ag X pins scope { s2 with heap:=s2.heap.push c.obj } #[22] fp (own++fr)) (C:=C) hc rfl helt (c:=c) (gens:=gc :: rest) (scope:=scope) (pos:=pos) (D:=s2.heap.objs.size) rest rest' 0 gc t cs rfl rfl ha pg pts go n [] _ it fp tn J iI 0 [] c.ini _ _ _ ρ1 ρ1 H2 g1 us g2 T ecm I4 st4 f4 (ya (hs.step (Stp.fresh hDn))) (hg1.step_fresh hDn) (ri1.step (Stp.fresh hDn)) (Stp.fresh hDn) hDn upd_same hn CK.ho0
 refine codeAny_mono (il (k:=0) (g:=gc) rfl ha loop (T.self _ 0 _ _ _ st4 loop)) λr s' hr => ?_;let ⟨⟨f,rfl⟩,σ',H',ρ',vs',I5,sp5,hg5,hs5,hD5,hn5,rv5,_⟩:=hr;have chk:∀ b∈fp,(b∈X.ex\/X.s₀.heap.objs.size<=b)/\b≠X.env.locals/\(∀ x c,X.env.cells.lookup x=some c->c≠b) /\ ∀ p∈X.pn++pins,p.1≠b:=λb hb=>⟨(f3 b hb).2.2.2.1,(f3 b hb).2.1,(f3 b hb).2.2.2.2.1,(f3 b hb).2.2.2.2.2⟩;have I6:L2.Inv X pins σ H' s':=I3.call' (ch:=fp) I5.os I5.base I5.hok I5.bare chk;let ⟨m',hns',_⟩:=I5.loc;refine fin s2.heap.objs.size _ s' H' ρ' vs' m' f I6 sp5 hg5 hDn hD5 hn5 rv5 hns' (Nat.ne_of_gt I3.lt) (λx c h=>by let ⟨v,o,ho,hd⟩:=I3.cell x c h;exact HD (Hx ho)) λs'' σ2 H'' h' I7 hH hsb => ?_
 have hCn:H'' #[28].objs.size=none:=hH _ I5.free I5.lt;refine I7.turned (t':=s''.toks) (it:=#[28].objs.size) (λb o hb e=>(hsb.2 b hb).trans e) hCn ?_ (.inr ?_) (λx c h => ?_) λp hp => ?_
 .exact Nat.ne_of_gt I3.lt
 .exact I3.sz
 .obtain ⟨v,o,ho,hd⟩:=I3.cell x c h
  exact HD (Hx ho)
 .exact HD (Hx (I3.pin p hp).1)
def xX(hc:X.calm=true)(S:CompSc X scope own fr frI){t:Tg}{elt:Expr}{n:Nat}(ha:gc.is_async=0)
  (hi:PI X gc.target gc.iter #[29]) (hfold:∀ x,foldedSetIterable gc.iter X.env x=pure x)
  (inner:∀ pins s3 H3 fp,PG (Ag X pins scope s3 H3 fp (own++fr)) gc.target (tG X.K t)/\(∀ n,PTs (Ag X pins scope s3 H3 fp (own++fr)) gc.ifs #[41])/\A9 (Ag X pins scope s3 H3 fp (own++fr)) C rest rest' /\
   ∀ n,PE (Ag X pins scope s3 H3 fp (own++fr)) elt (tE X.K PTs.W0' ((Ju C n).ev elt'))) :
  PE X (.ListComp elt (gc :: rest) scope pos) (tE X.K PTs.W0' (Jm C (Ju C n) (.comp own.length frI ((t,it',cs) :: rest') elt'))):=by
 intro pins s σ H Q I ⟨σu,ρ,g,hs,hg,p⟩;rw [eval_ListComp];let ⟨tg,iter,ifs,asy⟩:=gc;obtain rfl:asy=0:=ha;refine wpAny_comprehension_free (use:=none) rfl hfold (dE λx hx hk=>I.ok.has x.1 (.inl (S.frees x hx hk))) S.kind S.names ?_;refine thn (hi pins s σ H _ I ⟨σu,ρ,g,hs,hg,post.bind p⟩) λv s1 h1=>thn h1 λitv s2 h2 => ?_;let ⟨it,fp,tn,J,H2,e,I2,T,st2,f2,ρ1,iI,g1,sp1,hg1,ri1,p1⟩:=h2;subst e;revert p1;cases ecm:(Ju C n).cm iI 0 t cs rest' elt' [] (List.replicate own.length none++frI.map λj=>(σu[j]?).getD none) g1 with
 | exc c fs g2=>intro p1;exact False.elim p1
 | bad=>intro p1;exact False.elim p1
 | ok us g2 =>
  intro p1;simp! [Out.bindB] at p1;split at p1
  .refine dG (c := .lst elt) hc S rfl (λpins s3 H3 fp=>let ⟨a,b,c,d⟩:=inner pins s3 H3 fp;⟨a,b,c,kj d⟩) I2 T st2 f2 (hs.step sp1) hg1 ri1 ecm λD Cc s' H' ρ' vs' m f I' sp' hg' hD0 hD' hn' ⟨vs,eo,rv'⟩ hns' _ _ stay => ?_
   subst eo;refine ⟨m,hns',λh' hsb => ?_⟩;refine ⟨.ref D,H',stay s' σ H' h' I' (λ_ h _=>h) hsb,rfl,?_⟩;refine p1 (.ref D) (ρ'++[D]) H' (sp'.named hD0) (hg'.named hD' hn' ⟨_,rfl,rv'⟩) ⟨D,rfl,?_⟩;rw [<-hg'.len];simp
  .exact False.elim p1
def yd(k v gens scope pos):eval (.DictComp k v gens scope pos) env=comprehension (.DictComp k v gens scope pos) scope env (firstIterPos gens pos) newDict (firstAsync gens) (firstIter gens env):=rfl
def wM(hc:X.calm=true)(hu:X.A.units+1 < cLine)(S:CompSc X scope own fr frI){t:Tg}{kx vx:Expr}{k' v':E}{n:Nat}(ha:gc.is_async=0)
  (hi:PI X gc.target gc.iter #[29]) (hfold:∀ x,foldedSetIterable gc.iter X.env x=pure x)
  (inner:∀ pins s3 H3 fp,PG (Ag X pins scope s3 H3 fp (own++fr)) gc.target (tG X.K t)/\(∀ n,PTs (Ag X pins scope s3 H3 fp (own++fr)) gc.ifs #[41])/\A9 (Ag X pins scope s3 H3 fp (own++fr)) C rest rest' /\
   (∀ n,PE (Ag X pins scope s3 H3 fp (own++fr)) kx (tE X.K PTs.W0' ((Ju C n).ev k'))) /\ ∀ n,PE (Ag X pins scope s3 H3 fp (own++fr)) vx (tE X.K PTs.W0' ((Ju C n).ev v'))) :
  PE X (.DictComp kx vx (gc :: rest) scope pos) (tE X.K PTs.W0' (Jm C (Ju C n) (.dcmp own.length frI ((t,it',cs) :: rest') k' v'))):=by
 intro pins s σ H Q I ⟨σu,ρ,g,hs,hg,p⟩;rw [yd];let ⟨tg,iter,ifs,asy⟩:=gc;obtain rfl:asy=0:=ha;refine wpAny_comprehension_free (use:=none) rfl hfold (dE λx hx hk=>I.ok.has x.1 (.inl (S.frees x hx hk))) S.kind S.names ?_;refine thn (hi pins s σ H _ I ⟨σu,ρ,g,hs,hg,post.bind p⟩) λv s1 h1=>thn h1 λitv s2 h2 => ?_;let ⟨it,fp,tn,J,H2,e,I2,T,st2,f2,ρ1,iI,g1,sp1,hg1,ri1,p1⟩:=h2;subst e;revert p1;cases ecm:(Ju C n).cm iI 0 t cs rest' (.pair k' v') [] (List.replicate own.length none++frI.map λj=>(σu[j]?).getD none) g1 with
 | exc c fs g2=>intro p1;exact False.elim p1
 | bad=>intro p1;exact False.elim p1
 | ok us g2 =>
  intro p1;simp! [Out.bindB] at p1;refine dG (c := .dic kx vx) hc S rfl (λpins s3 H3 fp=>let ⟨a,b,c,d,e⟩:=inner pins s3 H3 fp;⟨a,b,c,kh (X:=Ag X pins scope s3 H3 fp (own++fr)) hu d e⟩) I2 T st2 f2 (hs.step sp1) hg1 ri1 ecm ?_;rintro D Cc s' H' ρ' vs' m f I' sp' hg' hD0 hD' hn' ⟨kvs,ws,eo,ed,rv'⟩ hns' _ _ stay
  subst eo;rw [ed] at p1;refine ⟨m,hns',λh' hsb => ?_⟩;refine ⟨.ref D,H',stay s' σ H' h' I' (λ_ h _=>h) hsb,rfl,?_⟩;refine p1 (.ref D) (ρ'++[D]) H' (sp'.named hD0) (hg'.named hD' hn' ⟨_,rfl,rv'⟩) ⟨D,rfl,?_⟩;rw [<-hg'.len];simp
def bind_assoc{γ:Type}(o:Out α)(k:α->G->Out β)(k':β->G->Out γ):(o.bind k).bind k'=o.bind λa g=>(k a g).bind k':=by
 cases o <;> rfl
def uK(hc:X.calm=true)(S:CompSc X scope own fr frI){t:Tg}{elt:Expr}{spos py:Pos}{n:Nat}{y:Str}(ha:gc.is_async=0)
  (hi:PI X gc.target gc.iter #[29]) (hfold:∀ x,foldedSetIterable gc.iter X.env x=pure x)
  (inner:∀ pins s3 H3 fp,PG (Ag X pins scope s3 H3 fp (own++fr)) gc.target (tG X.K t)/\(∀ n,PTs (Ag X pins scope s3 H3 fp (own++fr)) gc.ifs #[41])/\A9 (Ag X pins scope s3 H3 fp (own++fr)) C rest rest' /\
   ∀ n,PE (Ag X pins scope s3 H3 fp (own++fr)) elt (tE X.K PTs.W0' ((Ju C n).ev elt')))
  (hN:X.N.Nodup) (hiy:X.N[i]? = some y) (hy:X.env.scope.names.lookup y=some .local) (hsw:swapsWith (.ListComp elt (gc :: rest) scope pos) (some (.Name y py)) spos.line X.env=pure true) :
  PS X (.Assign [.Name y py] (.ListComp elt (gc :: rest) scope pos) spos) (tSt X.K PTs.W0' (Jp (Ju C (n+1)) (.set (.nm i) (.comp own.length frI ((t,it',cs) :: rest') elt')))):=by
 intro pins s σ H Dd I ⟨σu,ρ,g,hs,hg,p⟩;have p':Jw X.K PTs.W0' ((Jk (Ju C n) it' σu g).bind λa g=>(((Ju C n).cm a 0 t cs rest' elt' [] (List.replicate own.length none++frI.map λj=>(σu[j]?).getD none) g).bindB λus g=>if us.length<=Ae then PI.alloc (.lst us) g else .bad).bind λu g=>match Ah (.nm i) u σu with | some σ'=>Out.ok (.nx σ') g | none => .bad) ρ H Dd:=by
  have e:Jp (Ju C (n+1)) (.set (.nm i) (.comp own.length frI ((t,it',cs) :: rest') elt')) σu g=_:=rfl;rw [<-bind_assoc];exact p
 rw [exec_Assign_Name_used _ _ _ _ hsw];refine ZB (wpAny_standAt (ZB ?_));let ⟨tg,iter,ifs,asy⟩:=gc;obtain rfl:asy=0:=ha;show wpAny _ _ (do let _ <- comprehension (.ListComp elt (⟨tg,iter,ifs,0⟩ :: rest) scope pos) scope X.env _ (newList []) false (eval iter X.env) (some (assign (.Name y py) X.env))) _ _ s
 refine ZB (thn (wpAny_comprehension_free (use:=some (assign (.Name y py) X.env)) (Q:=λ_ s'=>SP X pins Dd .next s') rfl hfold (dE λx hx hk=>I.ok.has x.1 (.inl (S.frees x hx hk))) S.kind S.names ?_) λ_ s' hq=>ZP (ZP hq));refine thn (hi pins s σ H _ I ⟨σu,ρ,g,hs,hg,Jw.bind p'⟩) λv s1 h1=>thn h1 λitv s2 h2 => ?_;let ⟨it,fp,tn,J,H2,e,I2,T,st2,f2,ρ1,iI,g1,sp1,hg1,ri1,p1⟩:=h2;subst e;revert p1;cases ecm:(Ju C n).cm iI 0 t cs rest' elt' [] (List.replicate own.length none++frI.map λj=>(σu[j]?).getD none) g1 with
 | exc c fs g2=>intro p1;exact False.elim p1
 | bad=>intro p1;exact False.elim p1
 | ok us g2 =>
  intro p1;simp! [Out.bindB] at p1;split at p1
  .refine dG (c := .lst elt) hc S rfl (λpins s3 H3 fp=>let ⟨a,b,c,d⟩:=inner pins s3 H3 fp;⟨a,b,c,kj d⟩) I2 T st2 f2 (hs.step sp1) hg1 ri1 ecm λD Cc s' H' ρ' vs' m f I' sp' hg' hD0 hD' hn' ⟨vs,eo,rv'⟩ hns' nl nc stay => ?_
   subst eo;show wpAny _ _ (assign (.Name y py) X.env (.ref D)) _ _ s';refine wpAny_assign_Name (fQ (v := .ref D) I' hN hiy (.inl hy) rfl (λs3 I3 ⟨a,hsb,ha⟩ => ?_) (.inr hy));have hne:Cc≠a:=by
    rcases ha with rfl | ha
    .exact nl
    .exact Ne.symm (nc y a ha)
   refine ⟨m,hns'.sameBut hsb hne,λh' hs3=>⟨_,H',stay s3 _ H' h' I3 (λ_ h _=>h) hs3,?_⟩⟩;simp! [PI.alloc,Out.bind,Jj,Ah] at p1;by_cases hl:i < σu.length
   .simp only [hl,if_true] at p1
    refine p1 _ (ρ'++[D]) H' (sp'.named hD0) (hg'.named hD' hn' ⟨_,rfl,rv'⟩) ((hs.step (sp1.trans (sp'.named hD0))).set (u := .ref g2.length) (v := .ref D) ?_);refine ⟨D,rfl,?_⟩;rw [<-hg'.len];simp
   .simp only [hl,if_false] at p1
    exact False.elim p1
  .exact False.elim p1
def uV(hc:X.calm=true)(hu:X.A.units+1 < cLine)(S:CompSc X scope own fr frI){t:Tg}{kx vx:Expr}{k' v':E}{spos py:Pos}{n:Nat}{y:Str}(ha:gc.is_async=0)
  (hi:PI X gc.target gc.iter #[29]) (hfold:∀ x,foldedSetIterable gc.iter X.env x=pure x)
  (inner:∀ pins s3 H3 fp,PG (Ag X pins scope s3 H3 fp (own++fr)) gc.target (tG X.K t)/\(∀ n,PTs (Ag X pins scope s3 H3 fp (own++fr)) gc.ifs #[41])/\A9 (Ag X pins scope s3 H3 fp (own++fr)) C rest rest' /\
   (∀ n,PE (Ag X pins scope s3 H3 fp (own++fr)) kx (tE X.K PTs.W0' ((Ju C n).ev k'))) /\ ∀ n,PE (Ag X pins scope s3 H3 fp (own++fr)) vx (tE X.K PTs.W0' ((Ju C n).ev v')))
  (hN:X.N.Nodup) (hiy:X.N[i]? = some y) (hy:X.env.scope.names.lookup y=some .local) (hsw:swapsWith (.DictComp kx vx (gc :: rest) scope pos) (some (.Name y py)) spos.line X.env=pure true) :
  PS X (.Assign [.Name y py] (.DictComp kx vx (gc :: rest) scope pos) spos) (tSt X.K PTs.W0' (Jp (Ju C (n+1)) (.set (.nm i) (.dcmp own.length frI ((t,it',cs) :: rest') k' v')))):=by
 intro pins s σ H Dd I ⟨σu,ρ,g,hs,hg,p⟩;have p':Jw X.K PTs.W0' ((Jk (Ju C n) it' σu g).bind λa g=>(((Ju C n).cm a 0 t cs rest' (.pair k' v') [] (List.replicate own.length none++frI.map λj=>(σu[j]?).getD none) g).bindB λus g=>match dfold us [] with | some kvs=>PI.alloc (.dic kvs) g | none => .bad).bind λu g=>match Ah (.nm i) u σu with | some σ'=>Out.ok (.nx σ') g | none => .bad) ρ H Dd:=by
  have e:Jp (Ju C (n+1)) (.set (.nm i) (.dcmp own.length frI ((t,it',cs) :: rest') k' v')) σu g=_:=rfl;rw [<-bind_assoc];exact p
 rw [exec_Assign_Name_used _ _ _ _ hsw];refine ZB (wpAny_standAt (ZB ?_));let ⟨tg,iter,ifs,asy⟩:=gc;obtain rfl:asy=0:=ha;show wpAny _ _ (do let _ <- comprehension (.DictComp kx vx (⟨tg,iter,ifs,0⟩ :: rest) scope pos) scope X.env _ newDict false (eval iter X.env) (some (assign (.Name y py) X.env))) _ _ s
 refine ZB (thn (wpAny_comprehension_free (use:=some (assign (.Name y py) X.env)) (Q:=λ_ s'=>SP X pins Dd .next s') rfl hfold (dE λx hx hk=>I.ok.has x.1 (.inl (S.frees x hx hk))) S.kind S.names ?_) λ_ s' hq=>ZP (ZP hq));refine thn (hi pins s σ H _ I ⟨σu,ρ,g,hs,hg,Jw.bind p'⟩) λv s1 h1=>thn h1 λitv s2 h2 => ?_;let ⟨it,fp,tn,J,H2,e,I2,T,st2,f2,ρ1,iI,g1,sp1,hg1,ri1,p1⟩:=h2;subst e;revert p1;cases ecm:(Ju C n).cm iI 0 t cs rest' (.pair k' v') [] (List.replicate own.length none++frI.map λj=>(σu[j]?).getD none) g1 with
 | exc c fs g2=>intro p1;exact False.elim p1
 | bad=>intro p1;exact False.elim p1
 | ok us g2 =>
  intro p1;simp! [Out.bindB] at p1;refine dG (c := .dic kx vx) hc S rfl (λpins s3 H3 fp=>let ⟨a,b,c,d,e⟩:=inner pins s3 H3 fp;⟨a,b,c,kh (X:=Ag X pins scope s3 H3 fp (own++fr)) hu d e⟩) I2 T st2 f2 (hs.step sp1) hg1 ri1 ecm ?_;rintro D Cc s' H' ρ' vs' m f I' sp' hg' hD0 hD' hn' ⟨kvs,ws,eo,ed,rv'⟩ hns' nl nc stay
  subst eo;rw [ed] at p1;show wpAny _ _ (assign (.Name y py) X.env (.ref D)) _ _ s';refine wpAny_assign_Name (fQ (v := .ref D) I' hN hiy (.inl hy) rfl (λs3 I3 ⟨a,hsb,ha⟩ => ?_) (.inr hy));have hne:Cc≠a:=by
   rcases ha with rfl | ha
   .exact nl
   .exact Ne.symm (nc y a ha)
  refine ⟨m,hns'.sameBut hsb hne,λh' hs3=>⟨_,H',stay s3 _ H' h' I3 (λ_ h _=>h) hs3,?_⟩⟩;simp! [PI.alloc,Out.bind,Jj,Ah] at p1;by_cases hl:i < σu.length
  .simp only [hl,if_true] at p1
   refine p1 _ (ρ'++[D]) H' (sp'.named hD0) (hg'.named hD' hn' ⟨_,rfl,rv'⟩) ((hs.step (sp1.trans (sp'.named hD0))).set (u := .ref g2.length) (v := .ref D) ?_);refine ⟨D,rfl,?_⟩;rw [<-hg'.len];simp
  .simp only [hl,if_false] at p1
   exact False.elim p1
end
section
variable{W:XQ}
inductive DOk(X:Cx)(W:XQ)(r:L):List (Option Expr)->List Expr->List Str->List E->Prop
 | nil:DOk X W r [] [] [] []
 | cons {k a b ks e es kk e' es'}:PE X e #[27]->DOk X W r ks es kk es'->DOk X W r (some (.Constant (.str k) a b) :: ks) (e :: es) (k :: kk) (e' :: es')
def JA(K:HG)(W:XQ)(r:L):List Str->List E->List (TE×TE)
 | k :: kk,e' :: es'=>(Ih (.str k),tE K W (r.ev e')) :: JA K W r kk es'
 | _,_=>[]
def yb(h:DOk X W r keys es ks es'):PPs X pos keys es (JA X.K W r ks es')/\keys.all (·.isSome)=true/\keys.length=es.length/\ks.length=keys.length/\es'.length=ks.length:=by
 induction h with
 | nil=>exact ⟨yt,rfl,rfl,rfl,rfl⟩
 | cons h1 _ ih =>
  let ⟨a,b,c,d,f⟩:=ih;exact ⟨wk nF h1 a,by simpa using b,by simp [c],by simp [d],by simp [f]⟩
def jA{K:HG}{σ:L2.St}{σu:Su}:∀ (ks:List Str) (es':List E) (ρ:List Addr) (H:Hp) (g:G) (P:List V->Hp->Prop) (Q:List (V×V)->Hp->Prop),es'.length=ks.length->RS K ρ H σu σ->RH K ρ H g->post K W (RVs K) (Jh r.ev es' σu g) ρ H P ->
  (∀ vs H2,vs.length=ks.length->P vs H2->Q ((ks.zip vs).map λp=>(V.str p.1,p.2)) H2)->CU (JA K W r ks es') σ H Q
 | [],[],ρ,H,g,P,Q,_,hs,hg,p,q=>q [] H rfl (p.okHere hg rfl)
 | k :: ks,e' :: es',ρ,H,g,P,Q,hl,hs,hg,p,q=>by
  refine ⟨σu,ρ,g,hs,hg,(post.bind p).mono λy H2 ⟨ρ1,u,g1,s1,h1,r1,p1⟩ => ?_⟩;refine jA ks es' ρ1 H2 g1 (λvs H3=>P (y :: vs) H3) _ (by simpa using hl) #[40] h1 ((post.bind (R:=RVs K) p1).mono λvs H3 ⟨ρ2,us,g2,s2,h2,rs,p2⟩=>p2.okHere h2 ⟨y,vs,rfl,RV.step s2 _ _ r1,rs⟩) λvs H3 hv hp => ?_
  exact q (y :: vs) H3 (by simp [hv]) hp
 | [],_ :: _,_,_,_,_,_,hl,_,_,_,_=>by simp at hl
 | _ :: _,[],_,_,_,_,_,hl,_,_,_,_=>by simp at hl
def vZ{kvs:List (Key×V)}{k:Key}(h:k ∉ kvs.map (·.1)):AK kvs k=none:=by
 unfold AK;rw [Option.map_eq_none_iff,List.find?_eq_none];intro p hp z;exact h (List.mem_map.mpr ⟨p,hp,HF z⟩)
def ka:∀ (more acc:List (Key×V)),((acc++more).map (·.1)).Nodup->Bz acc more=acc++more
 | [],acc,_=>by simp [Bz]
 | p :: r,acc,h=>by
  have hn:p.1 ∉ acc.map (·.1):=λz=>by
   rw [List.map_append,List.map_cons,List.nodup_append] at h;exact h.2.2 _ z _ List.mem_cons_self rfl
  show Bz (putK acc p.1 p.2) r=_;rw [wA _ (vZ hn),ka r _ (by simpa using h)]
  simp
def mX{K:HG}{ρ:List Addr}{H:Hp}:∀ (ks:List Str) {us:List U} {vs:List V},RVs K ρ H us vs->RK K ρ H (ks.zip us) ((ks.zip vs).map λp=>(Sum.inr p.1,p.2))
 | [],_,_,_=>by simp [RK]
 | k :: ks,[],_,h=>by cases h;simp [RK]
 | k :: ks,u :: us,_,h=>by
  let ⟨v,r,rfl,h1,h2⟩:=h;exact ⟨v,_,rfl,h1,mX ks h2⟩
def ym(h:DOk X W r keys es ks es')(h0:keys≠[])(h15:keys.length<=15)(hnd:ks.Nodup):PE X (.Dict keys es pos) (tE X.K W (Jm C r (.ddsp ks es'))):=by
 let ⟨pp,al,kl,kl2,el⟩:=yb (pos:=pos) h;refine (yI pp al kl h0 h15).imp ?_;rintro σ H Q ⟨σu,ρ,g,hs,hg,p⟩;intro q hq;have sp0:Stp X.K ρ H ρ (upd H q (.dK [])):=Stp.fresh hq;have hqn:q ∉ ρ:=λz=>by
  let ⟨n,e⟩:=List.mem_iff_getElem?.mp z;let ⟨o,ho⟩:=hg.there e;rw [hq] at ho;cases ho
 refine jA ks es' ρ _ g (λvs H2=>H2 q=some (.dK [])/\Q (.ref q) (upd H2 q (.dK ((ks.zip vs).map λp=>(Sum.inr p.1,p.2))))) _ el (hs.step sp0) (hg.step_fresh hq) ?_ λvs H2 hv ⟨e2,q2⟩=>⟨e2,(ks.zip vs).map (λp=>(Sum.inr p.1,p.2)),?_,?_,?_⟩
 .have p':post X.K W (RV X.K) ((Jh r.ev es' σu g).bind λus g=>PI.alloc (.dst (ks.zip us)) g) ρ H Q:=p
  revert p';cases Jh r.ev es' σu g with
  | bad=>exact λp'=>p'
  | exc c fs g1=>exact λp' vs ρ' H' s' h' rs=>p' vs ρ' H' (sp0.trans s') h' rs
  | ok us g1 =>
   intro p' vs ρ' H' s' h' rs;have hq':H' q=some (.dK []):=s'.oth q _ upd_same hqn;have hn':q ∉ ρ':=dz s' hqn upd_same;refine ⟨hq',p' (.ref q) (ρ'++[q]) _ (((sp0.trans s').accum hq hq' trivial).named hq) ((h'.accum hq' trivial hn').named upd_same hn' ⟨_,rfl,mX ks (rs.accum hq' trivial)⟩) ⟨q,rfl,?_⟩⟩;rw [<-h'.len];simp
 .rw [List.map_map];rfl
 .rw [List.length_map,List.length_zip];omega
 .rw [ka _ [] ?_,List.nil_append]
  .exact q2
  .rw [List.nil_append,List.map_map]
   have e:(ks.zip vs).map ((λkv:Key×V=>kv.1) ∘ λp=>(Sum.inr p.1,p.2))=ks.map Sum.inr:=by
    have z:(ks.zip vs).map Prod.fst=ks:=by rw [List.map_fst_zip];omega
    conv=>rhs;rw [<-z]
    rw [List.map_map];rfl
   rw [e];exact List.Pairwise.map _ (λa b h z=>h (Sum.inr.inj z)) hnd
end
abbrev W0:XQ:=PTs.W0'
inductive FrI(X:Cx)(W:XQ)(it:Iter)(J:It)(D:Ends)(f:Su->G->Out Fl)(σ:L2.St)(H:Hp):Prop
 | mk (σu:Su) (ρ:List Addr) (g:G) (hs:RS X.K ρ H σu σ) (hg:RH X.K ρ H g) (ri:RI X.K ρ H it J) (p:Jw X.K W (f σu g) ρ H D)
section
variable{W:XQ}{p2:Pos}{a b c:Expr}{a' b' c':E}{t:Tg}
def zP{iter:Expr}{bs:List Stmt}{bs':List S}{n:Nat}(hp:PassesOwn #[5] X.A X.env X.xe)(hc:X.calm=true)(hi:PI X tg iter (tI X.K W (Jk (Ju C n) it')))(hg:PG X tg (tG X.K t))(hb:∀ n,PSs X bs (tSt X.K W ((Ju C n).ex bs')))
  (hs:∀ x,foldedSetIterable iter X.env x=pure x):PS X (.For tg iter bs [] pos) (tSt X.K W (Jp (Ju C n) (.for t it' bs'))):=by
 have hb':PSs X bs (λD σ H => ∃ m,tSt X.K W ((Ju C m).ex bs') D σ H):=λpins s σ H D I ⟨m,h⟩=>hb m pins s σ H D I h;refine (abJ hp hc hi hg hb' hs).imp ?_;rintro D σ H ⟨σu,ρ,g,hs,hg,p⟩;refine ⟨σu,ρ,g,hs,hg,(Jw.bind (R:=RI X.K) p).mono λJ H1 ⟨ρ1,it,g1,s1,h1,ri,p1⟩ => ?_⟩;refine ⟨λi m σ H=>FrI X W it J D ((Ju C m).fr t it i bs') σ H,⟨n,σu,ρ1,g1,hs.step s1,h1,ri,p1⟩,?_⟩;rintro i m σ H ⟨σu,ρ,g,hs,hg,ri,p⟩;cases m with
 | zero=>exact p.elim
 | succ m =>
  have p':Jw X.K W (Js (Ju C m) t it i bs' σu g) ρ H D:=p;simp! [Js] at p';cases en:next it i g with
  | none=>simp! [en] at p';exact p'.elim
  | some o =>
   cases o with
   | none=>simp! [en] at p';exact .inl ⟨lZ hg ri en,p' _ ρ H .refl hg hs⟩
   | some u =>
    simp! [en] at p';let ⟨go,yl⟩:=qO hg ri en;refine .inr ⟨go,λσ' H'=>FrI X W it J D ((Ju C m).fr t it (i+1) bs') σ' H',λσ' H' q=>⟨m,Nat.lt_succ_self _,q⟩,λx H' y => ?_⟩;let ⟨spy,hgy,rv⟩:=yl x H' y;cases eb:Ah t u σu with
    | none=>simp! [eb] at p';exact p'.elim
    | some σ1 =>
     simp! [eb] at p';refine ⟨σu,ρ,g,u,σ1,hs.step spy,hgy,rv,jj eb,λσ2 hs2=>⟨m,σ1,ρ,g,hs2,hgy,?_⟩⟩;exact rW (k:=λσ' g=>(Ju C m).fr t it (i+1) bs' σ' g) (Jw.from p' spy) λσ3 g3 σ ρ' H' s3 h3 hs3 p3=>⟨σ3,ρ',g3,hs3,h3,(ri.step spy).step s3,p3⟩
inductive spW(K:HG)(Wf:XK->XQ)(fns:List Fn)(d i np:Nat)(vs:List V)(H:Hp)(Q:VK)(E:XK):Prop
 | mk (fu:Nat) (ρ:List Addr) (g:G) (us:List U) (hg:RH K ρ H g) (r:RVs K ρ H us vs) (l:us.length=np) (p:post K (Wf E) (RV K) (Aa fns fu d i us g) ρ H Q)
abbrev spI(K:HG)(fns:List Fn)(d i np:Nat):Sp:=spW K (λ_=>W0) fns d i np
def jl{fns:List Fn}{fu:Nat}{np:Nat}{Q:VK}(hnp:∀ F,fns[i]? = some F->F.np=np){W:XQ}(p:post K W (RV K) (Aa fns fu d i us g) ρ H Q):us.length=np:=by
 cases d with
 | zero=>exact p.elim
 | succ d =>
  simp! [Aa] at p;cases e:fns[i]? with
  | none=>simp! [e] at p;exact p.elim
  | some F =>
   simp! [e,BM] at p;split at p
   .rename_i h;rw [h,hnp F e]
   .exact p.elim
def x5{fns:List Fn}{fu k:Nat}{f:Addr}{Wf:XK->XQ}{E0:XK}(F:FnOk X.prog X.w X.K X.mg X.base CX k f fd ps (spW X.K Wf fns d i ps.length))(hx:AO CX X E0)(hnp:∀ F,fns[i]? = some F->F.np=ps.length)
  (hr:Room k X.A) (hg:Gl X x) (hm:X.mg x=some (.ref f)) (hk:PySem.W.keepIn X.K (.ref f)=true) (hb:Binds X.K fd ps []) (hdb:(x == ("__debug__" : Str))=false) (ha:PA X (a :: es) (tAr X.K W0 (Jh r.ev es')))
  (hst:starEach (a :: es) X.env=(false,eval a X.env) :: starEach es X.env) (hpl:#[11].any (·.1)=false) :
  PE X (.Call (.Name x p) (a :: es) [] pos) (tE X.K (Wf E0) (Jm #[6] r (.call i es'))):=by
 refine (xF F hr hg hm hk hb .nil hx ha hdb hst hpl).imp ?_;rintro σ H Q ⟨σu,ρ,g,hs,hg,p⟩;refine ⟨σu,ρ,g,hs,hg,(bc (R:=RVs X.K) p).mono λvs H1 ⟨ρ1,us,g1,s1,h1,rs,p1⟩ => ?_⟩;exact ⟨fu,ρ1,g1,us,h1,by rw [List.append_nil];exact rs,jl hnp p1,p1⟩
def wt{fns:List Fn}{fu k:Nat}{f:Addr}{Wf:XK->XQ}{E0:XK}(F:FnOk X.prog X.w X.K X.mg X.base CX k f fd ps (spW X.K Wf fns d i ps.length))(hx:AO CX X E0)(hnp:∀ F,fns[i]? = some F->F.np=ps.length)
  (hr:Room k X.A) (hg:Gl X x) (hm:X.mg x=some (.ref f)) (hk:PySem.W.keepIn X.K (.ref f)=true) (hb:Binds X.K fd ps []) (hdb:(x == ("__debug__" : Str))=false) :
  PE X (.Call (.Name x p) [] [] pos) (tE X.K (Wf E0) (Jm #[6] r (.call i []))):=by
 refine (wc F hr hg hm hk hb .nil hx hdb).imp ?_;rintro σ H Q ⟨σu,ρ,g,hs,hg,p⟩;have p':post X.K (Wf E0) (RV X.K) (Aa fns fu d i [] g) ρ H Q:=p;exact ⟨fu,ρ,g,[],hg,rfl,jl hnp p',p'⟩
end
structure OwnCl(K:HG)(C:Addr):Prop where
 ne:PySem.W.findIn K (.ref C) "__ne__" = some (some (.builtin "object.__ne__"))
 ob:PySem.W.mroIn K C (.type "object")=some true
 ci:(PySem.W.clsIn K C).isSome=true
 ty:PySem.W.typeIn K (.ref C)=some (.type "type")
 ca:PySem.W.findIn K (.ref C) "__class__" = some (some (.builtin "object.__class__"))
 sg:PySem.W.specialIn K (.builtin "object.__class__") "__get__" = some (some (.builtin "getset_descriptor.__get__"))
 tk:PySem.W.takesIn K (.builtin "object.__class__")=some true
def ixOf_get(h:AV N x=some i):N[i]? = some x:=by
 let ⟨h1,h2,_⟩:=List.findIdx?_eq_some_iff_getElem.mp h;rw [List.getElem?_eq_getElem h1];exact congrArg some (eq_of_beq h2)
def qe(h:HI e=some x):∃ p,e = .Name x p:=by
 cases e with
 | Name y p=>cases h;exact ⟨p,rfl⟩
 | _=>cases h
def fE{c:Str×List Expr}(h:Cu e=some c):∃ p q,e = .Call (.Name c.1 p) c.2 [] q:=by
 cases e with
 | Call f es kws q =>
  cases kws with
  | nil =>
   let ⟨n,hn,rfl⟩:=Option.map_eq_some_iff.mp h;let ⟨p,rfl⟩:=qe hn;exact ⟨p,q,rfl⟩
  | cons _ _=>cases h
 | _=>cases h
open PySem PySem.Spec PyProof.Rows L2 PySem.W
def star_ne{a:Expr}(h:isStar a=false)(es:List Expr):starEach (a :: es) env=(false,eval a env) :: starEach es env:=by
 cases a <;> first | rfl | cases h
def bE{env:Env}{pos:Pos}:∀ {es:List Expr},es.any isStar=false->(backTo pos (starEach es env)).any (·.1)=false
 | [],_=>rfl
 | a :: es,h=>by
  rw [List.any_cons,Bool.or_eq_false_iff] at h;rw [star_ne h.1];show (false || (backTo pos (starEach es env)).any (·.1))=false;rw [bE h.2]
  rfl
section
def cS{env:Env}:∀ {kws:List Keyword},kwOk kws=true->#[45].all (·.1.isSome)=true/\#[45].filterMap (·.1)=Az kws/\#[45].any (·.1.isNone)=false
 | [],_=>⟨rfl,rfl,rfl⟩
 | ⟨nm,e,kp⟩ :: kws,h=>by
  unfold kwOk at h;rw [List.all_cons,Bool.and_eq_true] at h;let ⟨a,b,c⟩:=cS (env:=env) (kws:=kws) h.2;cases nm with
  | none=>cases h.1
  | some n =>
   refine ⟨?_,?_,?_⟩
   .show (true && _)=true
    rw [Bool.true_and];exact a
   .show n :: _=n :: _
    exact congrArg (n :: ·) b
   .show (false || _)=false
    rw [Bool.false_or];exact c
def eR:∀ {kws:List Keyword},kwOk kws=true->(Az kws).length=kws.length
 | [],_=>rfl
 | ⟨nm,e,kp⟩ :: kws,h=>by
  unfold kwOk at h;rw [List.all_cons,Bool.and_eq_true] at h;cases nm with
  | none=>cases h.1
  | some n =>
   show (Az kws).length+1=kws.length+1;rw [eR h.2]
def _root_.L2.PK.imp{t t':TA}(h:PK X kws t)(q:∀ σ H Q,t' σ H Q->t σ H Q):PK X kws t':=λp pins s σ H Q I hw=>h p pins s σ H Q I (q σ H Q hw)
end
section
variable{k:Nat}{f:Addr}{sp:Sp}{E:XK}{t tk:TA}{g:List Value->List Value->List Value}
def va(F:FnOk X.prog X.w X.K X.mg X.base CX k f fd ps sp)(hr:Room k X.A)(hg:Gl X x)(hm:X.mg x=some (.ref f))(hk:PySem.W.keepIn X.K (.ref f)=true)(hb:KBinds X.K fd ps ks g gV)(hx:AO CX X E)
  (ha:PA X es t) (hnil:es=[] -> ∀ σ H Q,t σ H Q->Q [] H) (hkw:PK X kws tk) (hall:#[7].all (·.1.isSome)=true) (hks:#[7].filterMap (·.1)=ks)
  (hdb:(x == ("__debug__" : Str))=false) (hst:es.any isStar=false) (hno:#[7].any (·.1.isNone)=false) :
  PE X (.Call (.Name x p) es kws pos) (Fu sp gV E t tk):=by
 cases es with
 | cons e es =>
  rw [List.any_cons,Bool.or_eq_false_iff] at hst;refine wQ F hr hg hm hk hb hx ha hkw hall hks hdb (star_ne hst.1 _) ?_;rw [star_ne hst.1];show ((false || #[11].any (·.1)) || _)=false;rw [bE hst.2,hno]
  rfl
 | nil =>
  intro pins s σ H Q I h;refine wpAny_Call_Name_kw (cv I hg hm ?_ hdb);refine PySem.W.callWith_KW0 (h₀ := X.base) I.ok.mod.kin hk hall ?_ (by show (false || _)=false;rw [hno];rfl)
  have q:=hnil rfl σ H _ h;refine thn (hkw pos pins s σ H _ I q) λws s2 ⟨zs,H2,I2,rz,q2⟩=>⟨I2.kIn,?_⟩;rw [hks];exact eK F hr hb hx I2 .nil rz q2
end
section
variable{k:Nat}{f C:Addr}{sp:Sp}{E:XK}{m:Str}{t tk:TA}{g:List Value->List Value->List Value}
def iZ{σ:L2.St}{Q:VK}{us ws:List Value}{zs:List V}(M:Mk X.K C f)(F:FnOk X.prog X.w X.K X.mg X.base CX k f fd ps sp)(hr:Room (k+1) X.A)(hb:KBinds X.K fd ps ks g gV)
  (hx:AO CX X E) (I:Inv X pins σ H s) (r:Vals vs us) (rz:Vals zs ws)
  (h:∀ x dx,H x=none->H dx=none->dx≠x->sp (gV (.ref x :: vs) zs) (upd (upd H dx (.own x)) x (.ins C dx [])) (λv H2=>v=.non/\Q (.ref x) H2) E) :
  wpAny #[5] X.A (call (.ref C) us (ks.zip ws)) #[17] X.xe s:=by
 have hq:=h (s.heap.objs.size+1) s.heap.objs.size (I.hok.fresh (Nat.le_succ _)) (I.hok.fresh (HA _)) (HD (Nat.lt_succ_self _));have I2:=Inv.made (C:=C) I;have r2:Vals (gV (.ref (s.heap.objs.size+1) :: vs) zs) (g (.ref (s.heap.objs.size+1) :: us) ws):=hb.rel (.cons rfl r) rz;have hl:(g (.ref (s.heap.objs.size+1) :: us) ws).length=ps.length:=by rw [<-r2.length];exact F.len _ _ _ _ hq
 refine wpAny_call (wV (f:=f) I.kIn M.makes M.init (beq_iff_eq.mp M.fn) (codeAny_mono (F.run _ X.stack _ _ ⟨.ref (s.heap.objs.size+1) :: us,ks.zip ws⟩ _ _ _ E (hr.make C us (ks.zip ws)) (I2.env0.make C us (ks.zip ws)) (hb.to _ _ ws I2.kIn hl) r2 hq) λr s' hq' => ?_));cases r with
 | error e=>exact hx pins σ _ _ e s' I2 hq'
 | ok fl =>
  cases fl with
  | ret u =>
   let ⟨v,H',I3,rv,ev,q3⟩:=I2.after hq';subst ev;exact ⟨rv,⟨.ref (s.heap.objs.size+1),H',I3,rfl,q3⟩⟩
  | next=>exact False.elim hq'
  | brk=>exact False.elim hq'
  | cont=>exact False.elim hq'
def G1(C:Addr)(sp:Sp)(gV:List V->List V->List V)(E:XK)(t tk:TA):TE:=λσ H Q=>t σ H λvs H1=>tk σ H1 λzs H2 => ∀ x dx,H2 x=none->H2 dx=none->dx≠x ->
 sp (gV (.ref x :: vs) zs) (upd (upd H2 dx (.own x)) x (.ins C dx [])) (λv H3=>v=.non/\Q (.ref x) H3) E
def vz(M:Mk X.K C f)(F:FnOk X.prog X.w X.K X.mg X.base CX k f fd ps sp)(hr:Room (k+1) X.A)(hg:Gl X x)(hm:X.mg x=some (.ref C))(hb:KBinds X.K fd ps ks g gV)(hx:AO CX X E)
  (ha:PA X es t) (hnil:es=[] -> ∀ σ H Q,t σ H Q->Q [] H) (hkw:PK X kws tk) (hall:#[7].all (·.1.isSome)=true) (hks:#[7].filterMap (·.1)=ks)
  (hdb:(x == ("__debug__" : Str))=false) (hst:es.any isStar=false) (hno:#[7].any (·.1.isNone)=false) :
  PE X (.Call (.Name x p) es kws pos) (G1 C sp gV E t tk):=by
 intro pins s σ H Q I h;refine wpAny_Call_Name_kw (cv I hg hm ?_ hdb);cases es with
 | cons e es =>
  rw [List.any_cons,Bool.or_eq_false_iff] at hst;refine PySem.W.callWith_KW (h₀ := X.base) I.ok.mod.kin M.kp hall (thn (ha pos pins s σ H _ I h) λus s1 ⟨vs,H1,I1,r,q⟩ => ?_) ?_ (star_ne hst.1 _)
  .refine thn (hkw pos pins s1 σ H1 _ I1 q) λws s2 ⟨zs,H2,I2,rz,q2⟩=>⟨I2.kIn,?_⟩
   rw [hks];exact iZ M F hr hb hx I2 r rz q2
  .rw [star_ne hst.1]
   show ((false || #[11].any (·.1)) || _)=false;rw [bE hst.2,hno]
   rfl
 | nil =>
  have q:=hnil rfl σ H _ h;refine PySem.W.callWith_KW0 (h₀ := X.base) I.ok.mod.kin M.kp hall ?_ (by show (false || _)=false;rw [hno];rfl)
  refine thn (hkw pos pins s σ H _ I q) λws s2 ⟨zs,H2,I2,rz,q2⟩=>⟨I2.kIn,?_⟩;rw [hks];exact iZ M F hr hb hx I2 .nil rz q2
def G4(X:Cx)(CX:CXT)(k:Nat)(m:Str)(ks:List Str)(E:XK)(ta:TE)(t tk:TA):TE:=λσ H Q=>ta σ H λx H1 => ∃ (a C dx:Addr) (fs:List (Str×V)) (f:Addr) (fd:FuncData) (ps:List Str) (sp:Sp) (g:List Value->List Value->List Value) (gV:List V->List V->List V),
 x=.ref a/\H1 a=some (.ins C dx fs)/\fs.lookup m=none/\Cls X.K C/\Meth X.K C m f/\FnOk X.prog X.w X.K X.mg X.base CX k f fd ps sp/\KBinds X.K fd ps ks g gV/\t σ H1 λvs H2=>tk σ H2 λzs H3=>sp (gV (x :: vs) zs) H3 Q E
def vQ(he:PE X o ta)(hr:Room k X.A)(hx:AO CX X E)(ha:PA X es t)(hnil:es=[] -> ∀ σ H Q,t σ H Q->Q [] H)(hkw:PK X kws tk)(hall:#[7].all (·.1.isSome)=true)(hks:#[7].filterMap (·.1)=ks)
  (hst:es.any isStar=false) (hno:#[7].any (·.1.isNone)=false)
  (ht:eval (.Call (.Attribute o m apos) es kws pos) X.env=(do
   let ov <- eval o X.env
   standAt apos.atName
   let (f,first) <- holding [ov] (getMethod ov m pl)
   callWith pos f first #[11] #[7])) :
  PE X (.Call (.Attribute o m apos) es kws pos) (G4 X CX k m ks E ta t tk):=by
 intro pins s σ H Q I h;refine PySem.W.methodCall_KW (pl:=pl) (thn (he pins s σ H _ I h) λu s1 hz => ?_) ht;let ⟨x,H1,I1,rx,a,C,dx,fs,f,fd,ps,sp,g,gV,ex,ea,l,c,hm,F,hb,q⟩:=hz;subst ex;obtain rfl:u=Value.ref a:=rx;refine u9 I1 ea c hm l ?_;cases es with
 | cons e es =>
  rw [List.any_cons,Bool.or_eq_false_iff] at hst;refine PySem.W.callWith_KW (first:=[.ref a]) (h₀ := X.base) I.ok.mod.kin hm.kp hall (thn (ha pos pins s1 σ H1 _ I1 q) λus s2 ⟨vs,H2,I2,r,q2⟩ => ?_) ?_ (star_ne hst.1 _)
  .refine thn (hkw pos pins s2 σ H2 _ I2 q2) λws s3 ⟨zs,H3,I3,rz,q3⟩=>⟨I3.kIn,?_⟩
   rw [hks];exact eK (us := .ref a :: us) (vs := .ref a :: vs) F hr hb hx I3 (.cons rfl r) rz q3
  .rw [star_ne hst.1]
   show ((false || #[11].any (·.1)) || _)=false;rw [bE hst.2,hno]
   rfl
 | nil =>
  have q:=hnil rfl σ H1 _ q;refine PySem.W.callWith_KW0 (first:=[.ref a]) (h₀ := X.base) I.ok.mod.kin hm.kp hall ?_ (by show (false || _)=false;rw [hno];rfl)
  refine thn (hkw pos pins s1 σ H1 _ I1 q) λws s3 ⟨zs,H3,I3,rz,q3⟩=>⟨I3.kIn,?_⟩;rw [hks];exact eK (us:=[.ref a]) (vs:=[.ref a]) F hr hb hx I3 (.cons rfl .nil) rz q3
end
section
variable{W:XQ}{fns:List Fn}{fu k nd:Nat}{m:Str}{f:Addr}{F:KF}{ks':List E}
def gK{K:Frag}(KO:KFok K fd F nd ddV dd)(ρ:List Addr)(H:Hp):F2 (PR (RV K ρ H)) F.dd ddV:=by
 have:=KO.urel;revert this;generalize F.dd=l1;generalize ddV=l2;intro this
 induction this with
 | nil=>exact .nil
 | cons r _ ih=>exact .cons ⟨r.1,r.2 _ _⟩ ih
def gY{np:Nat}{K:Frag}{W:XQ}{Q:VK}(hnp:∀ F',fns[i]? = some F'->F'.np=np)(p:post K W (RV K) (Aa fns fu d i us g) ρ H Q):us.length=np:=by
 cases d with
 | zero=>exact p.elim
 | succ d =>
  simp! [Aa] at p;cases e:fns[i]? with
  | none=>rw [e] at p;exact p.elim
  | some F' =>
   rw [e] at p;simp! [BM] at p;split at p
   .rename_i hl;rw [hl];exact hnp F' e
   .exact p.elim
def vG{Wf:XK->XQ}{E0:XK}(O:FnOk X.prog X.w X.K X.mg X.base CX k f fd (F.ns++F.ks) (spW X.K Wf fns d i (F.ns++F.ks).length))(hx:AO CX X E0)(hnp:∀ F',fns[i]? = some F'->F'.np=(F.ns++F.ks).length)(KO:KFok X.K fd F nd ddV dd)(hne:F.ns++F.ks≠[])
  (hsh:By F nd es'.length (Az kws)=true) (hkw:kwOk kws=true) (hel:es'.length=es.length) (hkl:ks'.length=kws.length) (hr:Room k X.A) (hg:Gl X x) (hm:X.mg x=some (.ref f)) (hk:keepIn X.K (.ref f)=true) (hdb:(x == ("__debug__" : Str))=false)
  (ha:PA X es (tAr X.K W0 (Jh r.ev es'))) (hka:PK X kws (tAr X.K W0 (Jh r.ev ks'))) (hst:es.any isStar=false) :
  PE X (.Call (.Name x p) es kws pos) (tE X.K (Wf E0) (Jm #[6] r (.callk i es' ks' (BG F es'.length (Az kws))))):=by
 let ⟨k1,k2,k3⟩:=cS (pos:=pos) (env:=X.env) hkw;refine (va O hr hg hm hk (KO.binds hsh hne) hx ha (λe σ H Q ⟨σu,ρ,g,hs,hg,p⟩=>by subst e;cases es' with | nil=>exact post.okHere (R:=RVs X.K) (u:=[]) p hg rfl | cons=>cases hel) hka k1 k2 hdb hst k3).imp ?_;rintro σ H Q ⟨σu,ρ,g,hs,hg,p⟩
 refine ⟨σu,ρ,g,hs,hg,(bc (R:=RVs X.K) p).mono λvs H1 ⟨ρ1,us,g1,s1,h1,rs,p1⟩ => ?_⟩;refine ⟨σu,ρ1,g1,hs.step s1,h1,(bc (R:=RVs X.K) p1).mono λzs H2 ⟨ρ2,ws,g2,s2,h2,rz,p2⟩ => ?_⟩;split at p2
 .rename_i hc
  let ⟨c1,c2⟩:=hc;have c2':ws.length=(Az kws).length:=by rw [c2,hkl,eR hkw]
  have rs':=RVs.step s2 _ _ rs;have hv:vs.length=es'.length/\zs.length=(Az kws).length:=⟨by rw [<-rs'.length];exact c1,by rw [<-rz.length];exact c2'⟩
  rw [fq c1 c2'] at p2;refine ⟨fu,ρ2,g2,_,h2,?_,gY hnp p2,p2⟩;dsimp only;rw [if_pos hv];exact (cK (gK KO ρ2 H2) (.rvs rs') (.rvs rz)).toRvs
 .exact p2.elim
def fH{x:U}{q:Nat×List (Nat×U)}(e:AJ x g=some q):∃ n,x=.ref n/\g[n]? = some (.ins q.1 q.2):=by
 unfold AJ at e;split at e
 .split at e
  .rename_i h;cases e;exact ⟨_,rfl,h⟩
  .cases e
 .cases e
def xl{C:Addr}{c:Nat}(M:Mk X.K C f)(hC:nsIn X.K mainGlobals (As c)=some #[24]){Wf:XK->XQ}{E0:XK}(O:FnOk X.prog X.w X.K X.mg X.base CX k f fd (F.ns++F.ks) (spW X.K Wf fns d i (F.ns++F.ks).length))(hx:AO CX X E0)(hnp:∀ F',fns[i]? = some F'->F'.np=(F.ns++F.ks).length)(KO:KFok X.K fd F nd ddV dd)(hne:F.ns++F.ks≠[])
  (hsh:By F nd (es'.length+1) (Az kws)=true) (hkw:kwOk kws=true) (hel:es'.length=es.length) (hkl:ks'.length=kws.length) (hr:Room (k+1) X.A) (hg:Gl X x) (hm:X.mg x=some (.ref C)) (hdb:(x == ("__debug__" : Str))=false)
  (ha:PA X es (tAr X.K W0 (Jh r.ev es'))) (hka:PK X kws (tAr X.K W0 (Jh r.ev ks'))) (hst:es.any isStar=false) :
  PE X (.Call (.Name x p) es kws pos) (tE X.K (Wf E0) (Jm #[6] r (.make c i es' ks' (BG F (es'.length+1) (Az kws))))):=by
 let ⟨k1,k2,k3⟩:=cS (pos:=pos) (env:=X.env) hkw;refine (vz M O hr hg hm (KO.binds hsh hne) hx ha (λe σ H Q ⟨σu,ρ,g,hs,hg,p⟩=>by subst e;cases es' with | nil=>exact post.okHere (R:=RVs X.K) (u:=[]) p hg rfl | cons=>cases hel) hka k1 k2 hdb hst k3).imp ?_;rintro σ H Q ⟨σu,ρ,g,hs,hg,p⟩
 refine ⟨σu,ρ,g,hs,hg,(bc (R:=RVs X.K) p).mono λvs H1 ⟨ρ1,us,g1,s1,h1,rs,p1⟩ => ?_⟩;refine ⟨σu,ρ1,g1,hs.step s1,h1,(bc (R:=RVs X.K) p1).mono λzs H2 ⟨ρ2,ws,g2,s2,h2,rz,p2⟩ => ?_⟩;intro a dx ha hdx hne';split at p2
 .rename_i hc
  let ⟨c1,c2⟩:=hc;have c2':ws.length=(Az kws).length:=by rw [c2,hkl,eR hkw]
  have hax:(upd H2 dx (.own a)) a=none:=by rw [ae (Ne.symm hne')];exact ha
  have st:Stp X.K ρ2 H2 (ρ2++[a]) (upd (upd H2 dx (.own a)) a (.ins C dx [])):=(Stp.fresh hdx).trans (Stp.alloc hax);have rh:RH X.K (ρ2++[a]) (upd (upd H2 dx (.own a)) a (.ins C dx [])) (g2++[.ins c []]):=(h2.step_fresh hdx).allocO hax ⟨C,dx,[],rfl,hC,rfl⟩;have rs':=RVs.step st _ _ (RVs.step s2 _ _ rs);have rz':=RVs.step st _ _ rz;have rx:RV X.K (ρ2++[a]) (upd (upd H2 dx (.own a)) a (.ins C dx [])) (.ref g2.length) (.ref a):=⟨a,rfl,by rw [<-h2.len];simp⟩
  have hv:(V.ref a :: vs).length=es'.length+1/\zs.length=(Az kws).length:=⟨by rw [List.length_cons,<-rs'.length,c1],by rw [<-rz.length];exact c2'⟩
  have e1:(U.ref g2.length :: us).length=es'.length+1:=by rw [List.length_cons,c1]
  rw [show (U.ref g2.length :: us++ws)=(U.ref g2.length :: us)++ws from rfl,fq (us:=U.ref g2.length :: us) e1 c2'] at p2;have p3:post X.K (Wf E0) (RV X.K) (Aa fns fu d i (place F.ns F.ks (Az kws) F.dd (U.ref g2.length :: us) ws) (g2++[.ins c []])) (ρ2++[a]) (upd (upd H2 dx (.own a)) a (.ins C dx [])) (λv H3=>v=.non/\Q (.ref a) H3):=by
   refine (post.bind (R:=RV X.K) (p2.from st)).mono ?_;rintro v H3 ⟨ρ3,u,g3,s3,h3,r3,q3⟩;split at q3
   .rename_i hu
    have e:=fM r3;rw [hu] at e;exact ⟨HF e.symm,post.okHere q3 h3 (RV.step s3 _ _ rx)⟩
   .exact q3.elim
  refine ⟨fu,_,_,_,rh,?_,gY hnp p3,p3⟩;dsimp only;rw [if_pos hv];exact (cK (gK KO _ _) (F2.cons rx (.rvs rs')) (.rvs rz')).toRvs
 .exact p2.elim
def MtOk(CX:CXT)(Wf:XK->XQ)(X:Cx)(fns:List Fn)(d k:Nat)(m:Str)(np:Nat)(kw:List Str)(tb:List (Nat×Nat×List (Nat ⊕ U))):Prop := ∀ c i pm,tb.lookup c=some (i,pm) -> ∃ C f fd F nd ddV dd,nsIn X.K mainGlobals (As c)=some #[24]/\Cls X.K C/\Meth X.K C m f/\KFok X.K fd F nd ddV dd/\F.ns++F.ks≠[] /\
 By F nd (np+1) kw=true/\pm=BG F (np+1) kw/\FnOk X.prog X.w X.K X.mg X.base CX k f fd (F.ns++F.ks) (spW X.K Wf fns d i (F.ns++F.ks).length) /\ ∀ F',fns[i]? = some F'->F'.np=(F.ns++F.ks).length
def xM(ho:PE X o (tE X.K W0 (r.ev o')))(hj:j < Bb)(hm:As j=m){Wf:XK->XQ}{E0:XK}(hx:AO CX X E0)(hM:MtOk CX Wf X fns d k m es'.length (Az kws) tb)(hkw:kwOk kws=true)(hel:es'.length=es.length)(hkl:ks'.length=kws.length)(hr:Room k X.A)
  (ha:PA X es (tAr X.K W0 (Jh r.ev es'))) (hka:PK X kws (tAr X.K W0 (Jh r.ev ks'))) (hst:es.any isStar=false)
  (ht:eval (.Call (.Attribute o m apos) es kws pos) X.env=(do
   let ov <- eval o X.env
   standAt apos.atName
   let (f,first) <- holding [ov] (getMethod ov m pl)
   callWith pos f first #[11] #[7])) :
  PE X (.Call (.Attribute o m apos) es kws pos) (tE X.K (Wf E0) (Jm #[6] r (.meth o' j tb es' ks'))):=by
 let ⟨k1,k2,k3⟩:=cS (pos:=pos) (env:=X.env) hkw;refine (vQ ho hr hx ha (λe σ H Q ⟨σu,ρ,g,hs,hg,p⟩=>by subst e;cases es' with | nil=>exact post.okHere (R:=RVs X.K) (u:=[]) p hg rfl | cons=>cases hel) hka k1 k2 hst k3 ht).imp λσ H Q hp=>oneN hp λσu ρ H g u x hs hg r1 p => ?_
 cases ei:AJ u g with
 | none=>rw [ei] at p;exact p.elim
 | some q =>
  rw [ei] at p;simp! [Option.bind_some] at p;let ⟨n,rfl,eg⟩:=fH ei;let ⟨a,C,dx,fs,c1,c2,c3,c4⟩:=hg.ins eg;let ⟨a',rfl,z⟩:=r1;rw [c1] at z;cases z;unfold BA at p;rcases c4.look hj with ⟨l1,l2⟩ | ⟨u,v,l1,_,_⟩
  .rw [l1] at p
   dsimp only at p;cases et:tb.lookup q.1 with
   | none=>rw [et] at p;exact p.elim
   | some ip =>
    let ⟨i,pm⟩:=ip;rw [et] at p;dsimp only at p;let ⟨C',f,fd,F,nd,ddV,dd,m1,m2,m3,KO,hne,hsh,rfl,O,hnp⟩:=hM q.1 i pm et;rw [c3] at m1;cases m1;refine ⟨a,C,dx,fs,f,fd,_,_,_,_,rfl,c2,by rw [<-hm];exact l2,m2,m3,O,KO.binds hsh hne,σu,ρ,g,hs,hg,(bc (R:=RVs X.K) p).mono λvs H1 ⟨ρ1,us,g1,s1,h1,rs,p1⟩ => ?_⟩
    refine ⟨σu,ρ1,g1,hs.step s1,h1,(bc (R:=RVs X.K) p1).mono λzs H2 ⟨ρ2,ws,g2,s2,h2,rz,p2⟩ => ?_⟩;split at p2
    .rename_i hc
     let ⟨c1',c2'⟩:=hc;have c2':ws.length=(Az kws).length:=by rw [c2',hkl,eR hkw]
     have rs':=RVs.step s2 _ _ rs;have rx:RV X.K ρ2 H2 (.ref n) (.ref a):=⟨a,rfl,s2.ext _ _ (s1.ext _ _ c1)⟩;have hv:(V.ref a :: vs).length=es'.length+1/\zs.length=(Az kws).length:=⟨by rw [List.length_cons,<-rs'.length,c1'],by rw [<-rz.length];exact c2'⟩
     have e1:(U.ref n :: us).length=es'.length+1:=by rw [List.length_cons,c1']
     rw [show (U.ref n :: us++ws)=(U.ref n :: us)++ws from rfl,fq (us:=U.ref n :: us) e1 c2'] at p2;refine ⟨fu,ρ2,g2,_,h2,?_,gY hnp p2,p2⟩
     try dsimp only
     rw [if_pos hv];exact (cK (gK KO _ _) (F2.cons rx (.rvs rs')) (.rvs rz)).toRvs
    .exact p2.elim
  .rw [l1] at p;exact p.elim
def Cg(K:Frag)(f:Str)(cs:List Nat):Prop := ∀ c,cs.contains c=true -> ∃ C,nsIn K mainGlobals (As c)=some #[24]/\Cls K C/\NoAttr K C f
def zY{cs:List Nat}(he:PE X e #[27])(hb:attributeBase e m X.env (eval e X.env)=eval e X.env)(hj:j < Bb)(hm:As j=m)(hF:Cg X.K m cs):PE X (.Attribute e m pos) (tE X.K W (Jm C r (.fld e' j cs))):=by
 refine (abh he hb).imp λσ H Q hp=>one hp λσu ρ H g u x hs hg r1 p => ?_;let ⟨w,e0,p'⟩:=post.lift p;clear p;cases ei:AJ u g with
 | none=>rw [ei] at e0;cases e0
 | some q =>
  rw [ei] at e0;simp! [Option.bind_some,BE] at e0;split at e0
  .rename_i hc
   let ⟨n,rfl,eg⟩:=fH ei;let ⟨a,C,dx,fs,c1,c2,c3,c4⟩:=hg.ins eg;let ⟨a',rfl,z⟩:=r1;rw [c1] at z;cases z;let ⟨C',d1,J3,d3⟩:=hF q.1 hc;rw [c3] at d1;cases d1;rcases c4.look hj with ⟨l1,_⟩ | ⟨u,v,l1,l2,rv⟩
   .rw [l1] at e0;cases e0
   .rw [l1] at e0;cases e0
    exact ⟨a,C,dx,fs,v,rfl,c2,J3,d3,by rw [<-hm];exact l2,post.okHere p' hg rv⟩
  .cases e0
def xA{cs:List Nat}(ho:PE X o #[35])(he:PE X e #[27])(hs:swapsWith e (some (.Attribute o m pos')) pos.line X.env=pure false)(hj:j < Bb)(hm:As j=m)(hF:Cg X.K m cs):PS X (.Assign [.Attribute o m pos'] e pos) (tSt X.K W (Jp r (.fset o' j cs e'))):=by
 refine (aaH ho he hs).imp ?_;rintro D σ H ⟨σu,ρ,g,hs,hg,p⟩;refine ⟨σu,ρ,g,hs,hg,(Jw.bind (R:=RV X.K) p).mono λy H1 ⟨ρ1,u,g1,s1,h1,ry,p1⟩ => ?_⟩;refine ⟨σu,ρ1,g1,hs.step s1,h1,(Jw.bind (R:=RV X.K) p1).mono λx H2 ⟨ρ2,w,g2,s2,h2,rx,p2⟩ => ?_⟩;have ry':=RV.step s2 _ _ ry;cases ef:A8 w j cs u g2 with
 | none=>rw [ef] at p2;exact p2.elim
 | some g' =>
  rw [ef] at p2;unfold A8 at ef;split at ef
  .split at ef
   .rename_i n c fs eg
    split at ef
    .rename_i hc
     cases ef;let ⟨a,C,dx,fs',c1,c2,c3,c4⟩:=h2.ins eg;let ⟨a',rfl,z⟩:=rx;rw [c1] at z;cases z;let ⟨C',d1,J3,d3⟩:=hF c hc.1;rw [c3] at d1;cases d1;refine ⟨a,C,dx,fs',rfl,c2,J3,d3,by rw [<-c4.length];exact hc.2,?_⟩
     have st:Stp X.K ρ2 H2 ρ2 (upd H2 a (.ins C dx (AF m y fs'))):=Stp.writeO c1 c2 trivial;refine p2 σ ρ2 _ st (h2.writeO c1 c2 trivial ⟨C,dx,_,rfl,c3,?_⟩) ((#[40].step s2).step st);rw [<-hm];exact c4.put hj ry'
    .cases ef
   .cases ef
  .cases ef
def yD{CC:Nat->List U->G->Out U}{k:Int}{cs:List Nat}(ho:∀ n,PE X o (tE X.K W ((Ju CC n).ev (.var i))))(he:∀ n,PE X e (tE X.K W ((Ju CC n).ev (.cst (.int k)))))(hj:j < Bb)(hm:As j=m)(hF:Cg X.K m cs):∀ n,PS X (.AugAssign (.Attribute o m pos') .Add e pos) (tSt X.K W (Jp (Ju CC n) (.fset (.var i) j cs (.bin .add (.fld (.var i) j cs) (.cst (.int k))))))
 | 0=>PS.bad λ_ _=>rfl
 | 1=>PS.bad λ_ _=>rfl
 | 2=>PS.bad λ_ _=>rfl
 | n+3=>by
  refine (vA (ho 1) (he 1) abr).imp ?_;rintro D σ H ⟨σu,ρ,g,hs,hg,p⟩;refine ⟨σu,ρ,g,hs,hg,?_⟩
  delta Jp at p;dsimp only [Ju] at p ⊢;delta Jm at p ⊢;dsimp only at p ⊢
  cases eu:σu[i]? with
  | none=>simp! [eu,Out.bind] at p;exact p.elim
  | some ou=>cases ou with
   | none=>simp! [eu,Out.bind] at p;exact p.elim
   | some u =>
    simp! [eu,Out.bind] at p ⊢;intro x ρ1 H1 s1 h1 rx;cases ei:AJ u g with
    | none=>simp! [ei,Option.bind_none,lift] at p;exact p.elim
    | some q =>
     let ⟨l,rfl,eg⟩:=fH ei;let ⟨a,C,dx,fs,c1,c2,c3,c4⟩:=h1.ins eg;let ⟨a',rfl,z⟩:=rx;rw [c1] at z;cases z;simp! [ei,Option.bind_some,BE] at p;by_cases hc:cs.contains q.1=true
     .simp only [hc,if_true] at p
      let ⟨C',d1,J3,d3⟩:=hF q.1 hc;rw [c3] at d1;cases d1;rcases c4.look hj with ⟨l1,_⟩ | ⟨u,v,l1,l2,rv⟩
      .rw [l1] at p;exact p.elim
      .rw [l1] at p
       refine ⟨a,C,dx,fs,v,rfl,c2,J3,d3,by rw [<-hm];exact l2,σu,ρ1,g,hs.step s1,h1,?_⟩
       intro y ρ2 H2 s2 h2 ry;let ⟨a2,C2,dx2,fs2,e1,e2,e3,e4⟩:=h2.ins eg;rw [s2.ext _ _ c1] at e1;cases e1;cases u with
       | int w =>
        cases rv;obtain rfl:y=V.int k:=ry;have l3:=l1;simp! [lift,Bd,A2,IX,IW,A8,eg] at p;split at p
        .rename_i gg hg'
         split at hg'
         .rename_i hc2
          cases hg';rw [c3] at e3;cases e3;refine ⟨_,_,rfl,rfl,dx2,fs2,e2,by rw [<-e4.length];exact hc2.2,?_⟩
          have st:Stp X.K ρ2 H2 ρ2 (upd H2 a (.ins C dx2 (AF m (.int (w+k)) fs2))):=Stp.writeO (s2.ext _ _ c1) e2 trivial;refine p σ ρ2 _ ((s1.trans s2).trans st) (h2.writeO (s2.ext _ _ c1) e2 trivial ⟨C,dx2,_,rfl,c3,?_⟩) ((#[40].step s2).step st);rw [<-hm];exact e4.put (u := .int (w+k)) hj (rfl:RV X.K ρ2 _ (.int (w+k)) (.int (w+k)))
         .cases hg'
        .exact p.elim
       | _=>exact p.elim
     .simp only [if_neg hc,lift] at p;exact p.elim
end
def xU(hst:es.any isStar=false)(hkw:kwOk kws=true)(hn:es.length+kws.length+1 < 30):methodCallForm (es.length+kws.length) (backTo pos (starEach es env)) #[45]=true:=by
 unfold methodCallForm;let ⟨k1,_,_⟩:=cS (pos:=pos) (env:=env) hkw;have h1:(backTo pos (starEach es env)).all (!·.1)=true:=by
  have:=bE (env:=env) (pos:=pos) hst;rw [List.any_eq_false] at this;rw [List.all_eq_true];intro x hx;simpa using this x hx
 rw [h1,k1,Bool.true_and,Bool.true_and,decide_eq_true_eq];split <;> omega
def vj{m:Str}{ap cp:Pos}(hb:∀ w,attributeBase o m env w=w)(hst:es.any isStar=false)(hkw:kwOk kws=true)(hn:es.length+kws.length+1 < 30)(hline:(ap.endLine == cp.line)=true):
  eval (.Call (.Attribute o m ap) es kws cp) env=(do
   let ov <- eval o env
   standAt ap.atName
   let (f,first) <- holding [ov] (getMethod ov m (do return (<- importBound o env).getD true))
   callWith cp f first (backTo cp (starEach es env)) (backToKw cp (keywordEach kws env))):=by
 have hf:=xU (env:=env) (pos:=cp) hst hkw hn;show (do
  let ov <- attributeBase o m env (eval o env)
  standAt ap.atName
  methodCall o m ap cp env ov (es.length+kws.length) (backTo cp (starEach es env)) (backToKw cp (keywordEach kws env)))=_
 rw [hb];unfold methodCall calleeOf methodCallPos;rw [hf];simp! [if_true,hline,Bool.or_true,pure_bind]
def base_of{m:Str}(h:Cq o=false)(w:Sem Value):attributeBase o m env w=w:=by
 cases o <;> first | rfl | cases h
open PySem PySem.Spec PyProof.Rows L2
structure XOk(T:Tab)(fns:List Fn)(d:Nat)(X:Cx)(sc:Scope)(N:List Str):Prop where
 hF:∀ (i:Nat) (x:Str),T.fns[i]? = some x->(x == ("__debug__" : Str))=false -> ∃ f fd ps,X.mg x=some (.ref f)/\PySem.W.keepIn X.K (.ref f)=true/\Binds X.K fd ps []/\FnOk X.prog X.w X.K X.mg X.base CX0 (2*d+2) f fd ps (spI X.K fns d i ps.length) /\ ∀ F,fns[i]? = some F->F.np=ps.length
 cs:∀ x u,T.cs.lookup x=some u -> ∃ v val,X.mg x=some val/\RelV v val /\ ∀ ρ H,RV X.K ρ H u v
 bt:∀ x∈T.bt,X.mg x=none
 hK:∀ (y:Str) (i:Nat) (F:KF) (nd:Nat),T.kf.lookup y=some (i,F,nd) -> ∃ f fd ddV dd,X.mg y=some (.ref f)/\PySem.W.keepIn X.K (.ref f)=true/\KFok X.K fd F nd ddV dd/\F.ns++F.ks≠[]/\FnOk X.prog X.w X.K X.mg X.base CX0 (2*d+2) f fd (F.ns++F.ks) (spI X.K fns d i (F.ns++F.ks).length) /\ ∀ F',fns[i]? = some F'->F'.np=(F.ns++F.ks).length
 hC:∀ (y:Str) (c i:Nat) (F:KF) (nd:Nat),T.cl.lookup y=some (c,i,F,nd) -> ∃ C f fd ddV dd,X.mg y=some (.ref C)/\Mk X.K C f/\PySem.W.nsIn X.K mainGlobals (As c)=some #[24]/\KFok X.K fd F nd ddV dd/\F.ns++F.ks≠[]/\FnOk X.prog X.w X.K X.mg X.base CX0 (2*d+2) f fd (F.ns++F.ks) (spI X.K fns d i (F.ns++F.ks).length) /\ ∀ F',fns[i]? = some F'->F'.np=(F.ns++F.ks).length
 hT:∀ (m:Str) (l:List (Nat×Nat×KF×Nat)),T.mt.lookup m=some l -> ∀ c i F nd,(c,i,F,nd)∈l -> ∃ C f fd ddV dd,PySem.W.nsIn X.K mainGlobals (As c)=some #[24]/\Cls X.K C/\Meth X.K C m f/\KFok X.K fd F nd ddV dd/\F.ns++F.ks≠[]/\FnOk X.prog X.w X.K X.mg X.base CX0 (2*d+2) f fd (F.ns++F.ks) (spI X.K fns d i (F.ns++F.ks).length) /\ ∀ F',fns[i]? = some F'->F'.np=(F.ns++F.ks).length
 hA:(∀ (f:Str) (cs:List Nat),T.fl.lookup f=some cs->Cg X.K f cs) /\ ∀ p∈T.ow,∃ C,X.mg p.1=some (.ref C)/\PySem.W.nsIn X.K mainGlobals (As p.2)=some #[24]/\Cls X.K C/\OwnCl X.K C
 room:Room (2*d+3) X.A
 hN:X.N=N
 hsc:X.env.scope=sc
 nd:N.Nodup
 calm:X.calm=true
 xe:X.xe=λ_ _=>False
def Fo:Expr->Bool
 | .BoolOp .. => true
 | _=>false
def Good(X:Cx)(C:Nat->List U->G->Out U)(e:Expr)(e':E):Prop :=
 (∀ n,PE X e (tE X.K W0 ((Ju C n).ev e')))/\(∀ n,PT X e (tT X.K W0 ((Ju C n).ts e')))/\(Fo e=true -> ∀ n,PW X e (tT X.K W0 ((Ju C n).ts e')))
section
variable{T:Tab}{fns:List Fn}{fu:Nat}{sc:Scope}
def qN{r:α}{P:Prop}(h:(none:Option α)=some r):P:=by cases h
def qB{o:Option α}{f:α->Option β}{r:β}{P:Prop}(h:o.bind f=some r)(k:∀ a,o=some a->f a=some r->P):P:=by
 cases o with
 | none=>cases h
 | some a=>exact k a rfl h
def qM{o:Option α}{f:α->β}{r:β}{P:Prop}(h:o.map f=some r)(k:∀ a,o=some a->f a=r->P):P:=by
 cases o with
 | none=>cases h
 | some a=>exact k a rfl (Option.some.inj h)
def qI{c:Bool}{x:Option α}{r:α}{P:Prop}(h:HH c x=some r)(k:c=true->x=some r->P):P:=by
 cases c with
 | false=>cases h
 | true=>exact k rfl h
def qE{c:Prop}[Decidable c]{x y:Option α}{r:α}{P:Prop}(h:(if c then x else y)=some r)(k1:c->x=some r->P)(k2:y=some r->P):P:=by
 by_cases hc:c
 .rw [if_pos hc] at h;exact k1 hc h
 .rw [if_neg hc] at h;exact k2 h
def aY{l:List α}(h:A4 l=true):l=[]:=by
 cases l with
 | nil=>rfl
 | cons _ _=>cases h
def gm{k:E->E}{r:E}{P:Prop}(h:CJ ce k es=some r)(K:∀ a a',es=[a]->ce a=some a'->k a'=r->P):P:=by
 cases es with
 | nil=>cases h
 | cons a es=>cases es with
  | nil=>exact qM h λa' h1 h2=>K a a' rfl h1 h2
  | cons _ _=>cases h
def gp{k:E->E->E}{r:E}{P:Prop}(h:CN ce k es=some r)(K:∀ a b a' b',es=[a,b]->ce a=some a'->ce b=some b'->k a' b'=r->P):P:=by
 cases es with
 | nil=>cases h
 | cons a es=>cases es with
  | nil=>cases h
  | cons b es=>cases es with
   | nil=>exact qB h λa' h1 h=>qM h λb' h2 h3=>K a b a' b' rfl h1 h2 h3
   | cons _ _=>cases h
def aM(h:(!b)=true):b=false:=by cases b with
 | false=>rfl
 | true=>cases h
def Good.plain(pe:∀ n,PE X e (tE X.K W0 (Jm C (Ju C n) e')))(he:∀ whole,isTrue e X.env whole=(do let v <- whole;standAt e.pos;holding [v] (truthy v)))
  (hts:∀ r σ g,Jn r e' σ g=(r.ev e' σ g).bind λx g=>lift (Jb x g) g) (hb:Fo e=false):Good X C e e':=by
 have pe':∀ n,PE X e (tE X.K W0 ((Ju C n).ev e')):=λn=>by
  cases n with
  | zero=>exact PE.bad λ_ _=>rfl
  | succ n=>exact pe n
 refine ⟨pe',λn => ?_,λh => ?_⟩
 .cases n with
  | zero=>exact PT.bad λ_ _=>rfl
  | succ n =>
   have:((Ju C (n+1)).ts e')=λσ g=>((Ju C n).ev e' σ g).bind λx g=>lift (Jb x g) g:=by funext σ g;exact hts _ _ _
   rw [this];exact wH (pe' n) he
 .rw [hb] at h;cases h
def bj{f:Expr->Option E}(ih:∀ e e',f e=some e'->Good X C e e'):∀ {es:List Expr} {es':List E},es.any isStar=false->Ad (es.map f)=some es' -> ∀ n,PA X es (tAr X.K W0 (Jh (Ju C n).ev es'))
 | [],_,_,h=>λn=>by cases h;exact abn
 | a :: es,es',hs,h=>λn=>by
  rw [List.any_cons,Bool.or_eq_false_iff] at hs;rw [List.map_cons] at h;cases ea:f a with
  | none=>rw [ea] at h;cases h
  | some a' =>
   rw [ea] at h;simp! [Ad] at h;cases er:Ad (es.map f) with
   | none=>rw [er] at h;cases h
   | some r' =>
    rw [er] at h;cases h;exact xG ((ih a a' ea).1 n) (bj ih hs.2 er n) (star_ne hs.1 _)
def eV{f:Expr->Option E}(ih:∀ e e',f e=some e'->Good X C e e'):∀ {kws:List Keyword} {ks':List E},Ad (kws.map λk=>f k.value)=some ks' -> ∀ n,PK X kws (tAr X.K W0 (Jh (Ju C n).ev ks'))
 | [],_,h=>λn=>by cases h;exact aan.imp λσ H Q ⟨σu,ρ,g,hs,hg,p⟩=>post.okHere (R:=RVs X.K) (u:=[]) p hg rfl
 | ⟨nm,a,kp⟩ :: kws,ks',h=>λn=>by
  rw [List.map_cons] at h;cases ea:f a with
  | none=>rw [ea] at h;cases h
  | some a' =>
   rw [ea] at h;simp! [Ad] at h;cases er:Ad (kws.map λk=>f k.value) with
   | none=>rw [er] at h;cases h
   | some r' =>
    rw [er] at h;cases h;refine (yz ((ih a a' ea).1 n) (eV ih er n)).imp λσ H Q hp=>one hp λσu ρ H g u x hs hg r1 p => ?_;refine ⟨σu,ρ,g,hs,hg,(post.bind p).mono λxs H1 ⟨ρ1,us,g1,s1,h1,rs,p1⟩ => ?_⟩;exact post.okHere (R:=RVs X.K) p1 h1 ⟨x,xs,rfl,RV.step s1 _ _ r1,rs⟩
def za{o:Operator}{o':Op}(h:DX o=some o'):(o'=.add/\o = .Add)\/(o'=.sub/\o = .Sub)\/(o'=.mul/\o = .Mult)\/(o'=.fdiv/\o = .FloorDiv)\/(o'=.mod/\o = .Mod)\/(o'=.pow/\o = .Pow):=by
 cases o <;> simp! [DX,reduceCtorEq,Option.some.injEq] at h <;> subst h <;> simp
def XOk.room2(ok:XOk T fns d X sc N):Room (2*d+2) X.A:=⟨ok.room.hd,by have:=ok.room.dp;omega,by have:=ok.room.un;omega,ok.room.gd⟩
def XOk.units(ok:XOk T fns d X sc N):X.A.units+2 < cLine:=by have:=ok.room.units;omega
def cf(ok:XOk T fns d X sc N){o:CmpOp}{o':Cp}(h:CS o=some o'):Bq X o' o:=by
 refine acy ok.units o' o ?_;cases o <;> simp! [CS,reduceCtorEq,Option.some.injEq] at h <;> subst h <;> simp
def jP{b:Expr}{o:CmpOp}(h:CZ b=false):behindInMarks o b=false:=by
 cases b <;> first | rfl | cases h
def XOk.gl(ok:XOk T fns d X sc N)(h:sc.names.lookup x=some .globalImplicit):Gl X x:=by
 show X.env.scope.names.lookup x=_;rw [ok.hsc];exact h
def f9(h:CQ x=true):(x == ("__debug__" : Str))=false/\(x == ("__classdict__" : Str))=false/\x ≠ "__name__" := by
 unfold CQ at h;simp! [Bool.and_eq_true,Bool.not_eq_true'] at h;exact ⟨h.1.1,h.1.2,λe=>by have:=h.2;rw [e] at this;simp at this⟩
def ze{t:Ty}(h:DH x=some t):x=Str.ofString (tyName t)/\bootBuiltins x=some (.type (tyName t))/\x ≠ "__name__" /\ (x == ("__debug__" : Str))=false:=by
 unfold DH at h;split at h
 .rename_i e;cases h;subst e;exact ⟨rfl,by rfl,by decide,by decide⟩
 split at h
 .rename_i e;cases h;subst e;exact ⟨rfl,by rfl,by decide,by decide⟩
 split at h
 .rename_i e;cases h;subst e;exact ⟨rfl,by rfl,by decide,by decide⟩
 split at h
 .rename_i e;cases h;subst e;exact ⟨rfl,by rfl,by decide,by decide⟩
 split at h
 .rename_i e;cases h;subst e;exact ⟨rfl,by rfl,by decide,by decide⟩
 .cases h
def uY{b:Expr}(h:Co b=false):DK b:=by
 cases b <;> first | exact λ_ _=>rfl | cases h
section
variable{a:Expr}{a':E}
def abF{b:Bi}{f:Str}(hb:HK f=some b)(hc:X.calm=true)(hu:X.A.units+64 < cLine)(hgd:X.A.guards=some [])(hg:Gl X f)(hm:X.mg f=none)(ha:PA X (a :: es) (tAr X.K W0 (Jh r.ev es')))(hs:(a :: es).any isStar=false):
  PE X (.Call (.Name f p) (a :: es) [] pos) (tE X.K W0 (Jm C r (.bi b es'))):=by
 rw [List.any_cons,Bool.or_eq_false_iff] at hs;have h1:=star_ne (env:=X.env) hs.1 es;have h2:=bE (env:=X.env) (pos:=pos) hs.2;unfold HK at hb;split at hb
 .rename_i e;subst e;cases hb;exact se_bi (pe_callB call_len_seq hg hm PySem.boot_len ha #[1] #[1] h1 h2) imp_len
 split at hb
 .rename_i e;subst e;cases hb;exact se_bi (pe_callB call_abs hg hm #[2] ha #[1] #[1] h1 h2) imp_abs
 split at hb
 .rename_i e;subst e;cases hb;exact se_bi (pe_callTy call_list_of hg hm #[2] ha #[1] #[1] h1 h2) imp_list
 split at hb
 .rename_i e;subst e;cases hb;exact se_bi (pe_callB (call_mn hc) hg hm PyProof.Rows.boot_min ha #[1] #[1] h1 h2) (imp_mm λ_ _=>rfl)
 split at hb
 .rename_i e;subst e;cases hb;exact se_bi (pe_callB (call_mx hc) hg hm PyProof.Rows.boot_max ha #[1] #[1] h1 h2) (imp_mm λ_ _=>rfl)
 split at hb
 .rename_i e;subst e;cases hb;exact se_bi (pe_callTy call_dct hg hm #[2] ha #[1] #[1] h1 h2) imp_dct
 split at hb
 .rename_i e;subst e;cases hb;exact se_bi (pe_callB (call_rpr hgd hu) hg hm #[2] ha #[1] #[1] h1 h2) imp_rpr
 split at hb
 .rename_i e;subst e;cases hb;exact se_bi (pe_callTy call_int1 hg hm #[2] ha #[1] #[1] h1 h2) imp_int1
 cases hb
end
def bU{α β:Type}{f:α->Option β}:∀ {l:List α} {r:List β},Ad (l.map f)=some r->r.length=l.length
 | [],_,h=>by cases h;rfl
 | a :: l,r,h=>by
  rw [List.map_cons] at h;cases e:f a with
  | none=>rw [e] at h;cases h
  | some b =>
   rw [e] at h;let ⟨r',e2,rfl⟩:=Option.map_eq_some_iff.mp h;simp [bU e2]
def cW{f:Str}(h:BL f=true):As (A7 f)=f/\A7 f < Bb:=by
 unfold BL at h;rw [Bool.and_eq_true,decide_eq_true_eq,decide_eq_true_eq] at h;exact h
def j9(ok:XOk T fns d X sc N)(ihf:∀ e e',ce e=some e'->Good X #[6] e e'){f:Str}{e':E}(h:Cz T sc ce f es kws=some e')(p pos:Pos):Good X #[6] (.Call (.Name f p) es kws pos) e':=by
 refine qI h λhc h=>qB h λes' hes h=>qB h λks' hks h => ?_;simp! [Bool.and_eq_true,Bool.not_eq_true',beq_iff_eq] at hc;let ⟨⟨⟨hnm,hst⟩,hgl⟩,hkw⟩:=hc;let ⟨h1,h2,h3⟩:=f9 hnm;have hl:=bU hes;cases hkf:T.kf.lookup f with
 | some q =>
  rw [hkf] at h;let ⟨i,F,nd⟩:=q;refine qI h λhsh h => ?_;cases h;let ⟨fa,fd,ddV,dd,q1,q2,q3,q4,q5,q6⟩:=ok.hK _ _ _ _ hkf;dsimp only at hsh ⊢;rw [<-hl] at hsh ⊢;exact .plain (λn=>vG q5 c8 q6 q3 q4 hsh hkw hl (bU hks) ok.room2 (ok.gl hgl) q1 q2 h1 (bj ihf hst hes n) (eV ihf hks n) hst) (λ_=>rfl) (λ_ _ _=>rfl) rfl
 | none =>
  rw [hkf] at h;refine qB h λq hcl h=>qI h λhsh h => ?_;let ⟨c,i,F,nd⟩:=q;cases h;let ⟨C,fa,fd,ddV,dd,q1,q2,q3,q4,q5,q6,q7⟩:=ok.hC _ _ _ _ _ hcl;dsimp only at hsh ⊢;rw [<-hl] at hsh ⊢;exact .plain (λn=>xl q2 q3 q6 c8 q7 q4 q5 hsh hkw hl (bU hks) ok.room (ok.gl hgl) q1 h1 (bj ihf hst hes n) (eV ihf hks n) hst) (λ_=>rfl) (λ_ _ _=>rfl) rfl
def iA{α β:Type}{f:Nat×α->Nat×β}(hf:∀ e,(f e).1=e.1){c:Nat}{b:β}:∀ {l:List (Nat×α)},(l.map f).lookup c=some b -> ∃ a,(c,a)∈l/\b=(f (c,a)).2
 | [],h=>by cases h
 | (d,a) :: l,h=>by
  rw [List.map_cons,show f (d,a)=((f (d,a)).1,(f (d,a)).2) from rfl,List.lookup_cons,hf] at h;cases q:c == d with
  | true =>
   rw [q] at h;cases h;cases eq_of_beq q;exact ⟨a,List.mem_cons_self,rfl⟩
  | false =>
   rw [q] at h;let ⟨a',h1,h2⟩:=iA hf h;exact ⟨a',HB _ h1,h2⟩
def jR(ok:XOk T fns d X sc N)(ihf:∀ e e',ce e=some e'->Good X #[6] e e'){ap cp:Pos}(hbs:Cq o=false)(ho:Good X #[6] o o'){m:Str}{e':E}(h:DN T ce o' m ap cp es kws=some e'):Good X #[6] (.Call (.Attribute o m ap) es kws cp) e':=by
 refine qI h λhc h=>qB h λes' hes h=>qB h λks' hks h=>qB h λl hl h=>qI h λhsh h => ?_;simp! [Bool.and_eq_true,Bool.not_eq_true',decide_eq_true_eq] at hc;let ⟨⟨⟨⟨hnm,hst⟩,hkw⟩,hn30⟩,hline⟩:=hc;let ⟨h1,h2⟩:=cW hnm;cases h;have hel:=bU hes;refine .plain (λn=>xM (CX:=CX0) (Wf:=λ_=>W0) (E0:=λ_ _ _=>False) (k:=2*d+2) (ho.1 n) h2 h1 c8 (λc i pm hlk => ?_) hkw hel (bU hks) ok.room2 (bj ihf hst hes n) (eV ihf hks n) hst (vj (base_of hbs) hst hkw hn30 hline)) (λ_=>rfl) (λ_ _ _=>rfl) rfl;let ⟨⟨i',F,nd⟩,hmem,hb⟩:=iA (f:=λe:Nat×Nat×KF×Nat=>(e.1,e.2.1,BG e.2.2.1 (es.length+1) (Az kws))) (λ_=>rfl) hlk;cases hb;let ⟨C,f,fd,ddV,dd,q1,q2,q3,q4,q5,q6,q7⟩:=ok.hT _ _ hl _ _ _ _ hmem;refine ⟨C,f,fd,F,nd,ddV,dd,q1,q2,q3,q4,q5,?_,by rw [hel],q6,q7⟩
 rw [hel];exact List.all_eq_true.mp hsh _ hmem
def iC:∀ {keys:List (Option Expr)} {ks:List Str},strKeys keys=some ks->ks.length=keys.length
 | [],_,e=>by cases e;rfl
 | k :: r,ks,e=>by
  unfold strKeys at e;split at e
  .rename_i z;cases z
  .rename_i z;cases z
   let ⟨m,e1,rfl⟩:=Option.map_eq_some_iff.mp e;simp [iC e1]
  .cases e
def nu{f:Expr->Option E}(ih:∀ e e',f e=some e'->Good X #[6] e e')(n:Nat):∀ {keys:List (Option Expr)} {vs:List Expr} {ks:List Str} {es':List E},keys.length=vs.length->strKeys keys=some ks->Ad (vs.map f)=some es'->DOk X W0 (Ju #[6] n) keys vs ks es'
 | [],[],_,_,_,e,e2=>by cases e;cases e2;exact .nil
 | [],_ :: _,_,_,hl,_,_=>by simp at hl
 | _ :: _,[],_,_,hl,_,_=>by simp at hl
 | k :: r,v :: vs,ks,es',hl,e,e2=>by
  unfold strKeys at e;split at e
  .rename_i z;cases z
  .rename_i z;cases z
   let ⟨m,e1,rfl⟩:=Option.map_eq_some_iff.mp e;rw [List.map_cons] at e2;cases hv:f v with
   | none=>rw [hv] at e2;cases e2
   | some v' =>
    rw [hv] at e2;let ⟨m',e3,rfl⟩:=Option.map_eq_some_iff.mp (show (Ad (vs.map f)).map (v' :: ·)=some es' from e2);exact .cons ((ih _ _ hv).1 n) (nu ih n (by simpa using hl) e1 e3)
  .cases e
def bT{a:Expr}(h:[a].any isStar=false):isStar a=false:=by simpa using h
def fW(h:BS b sc x=true):L2.Loc sc x/\(b=false->sc.names.lookup x=some .local):=by
 unfold BS at h;simp! [Bool.or_eq_true,Bool.and_eq_true,beq_iff_eq] at h;rcases h with h | ⟨h1,h2⟩
 .exact ⟨.inl h,λ_=>h⟩
 .exact ⟨.inr h2,λe=>by rw [e] at h1;cases h1⟩
def d7(h:BQ b sc N x=some i):N[i]? = some x/\BS b sc x=true:=by
 unfold BQ at h;split at h
 .rename_i hl;exact ⟨ixOf_get h,hl⟩
 .cases h
def wZ(h:BQ b sc N x=some i):N[i]? = some x/\L2.Loc sc x/\(b=false->sc.names.lookup x=some .local):=⟨(d7 h).1,fW (d7 h).2⟩
def XOk.locX(ok:XOk T fns d X sc N)(h:L2.Loc sc x):L2.Loc X.env.scope x:=by rw [ok.hsc];exact h
def XOk.fnX(ok:XOk T fns d X sc N)(hb:b=true -> ∀ x,X.fn x=true){x:Str}(h:b=false->sc.names.lookup x=some .local):X.fn x=true\/X.env.scope.names.lookup x=some .local:=by
 rw [ok.hsc];cases b with
 | true=>exact .inl (hb rfl x)
 | false=>exact .inr (h rfl)
def XOk.ndX(ok:XOk T fns d X sc N):X.N.Nodup:=by rw [ok.hN];exact ok.nd
def XOk.own(ok:XOk T fns d X sc N):PassesOwn #[5] X.A X.env X.xe:=by rw [ok.xe];exact PassesOwn.never
def i6(ok:XOk T fns d X sc N){sd:Scope}(hl:∀ x,BS b sd x=true->L2.Loc X.env.scope x/\(X.fn x=true\/X.env.scope.names.lookup x=some .local)){t:Tg}(h:Bh b sd N tg=some t):PG X tg (tG X.K t):=by
 unfold Bh at h;split at h
 .cases e:BQ b sd N ‹Str› with
  | none=>rw [e] at h;cases h
  | some i =>
   rw [e] at h;cases h;let ⟨h1,h2⟩:=d7 e;exact ac6 ok.ndX (by rw [ok.hN];exact h1) (hl _ h2).1 (hl _ h2).2
 .rename_i ts k p
  cases e:Ad (ts.map (B4 b sd N)) with
  | none=>rw [e] at h;cases h
  | some is =>
   rw [e] at h;cases h;have all:∀ (ts:List Expr) (is:List Nat),Ad (ts.map (B4 b sd N))=some is->PGs X ts (tGs X.K is)/\(assignEach ts X.env).length=is.length/\(assignEach ts X.env).findIdx? (·.1)=none:=λts=>by
    induction ts with
    | nil=>intro is e;cases e;exact ⟨sgs_nil,rfl,rfl⟩
    | cons a ts ih =>
     intro is e;rw [List.map_cons] at e;cases ea:B4 b sd N a with
     | none=>rw [ea] at e;cases e
     | some i =>
      rw [ea] at e;simp! [Ad] at e;cases er:Ad (ts.map (B4 b sd N)) with
      | none=>rw [er] at e;cases e
      | some is' =>
       rw [er] at e;cases e;let ⟨p1,p2,p3⟩:=ih is' er;cases a <;> simp! [B4,reduceCtorEq] at ea
       let ⟨h1,h2⟩:=d7 ea;refine ⟨wL ok.ndX (by rw [ok.hN];exact h1) (hl _ h2).1 (hl _ h2).2 p1,?_,?_⟩
       .show (assignEach ts X.env).length+1=_
        rw [p2];rfl
       .show List.findIdx? (·.1) ((false,_) :: assignEach ts X.env)=none
        rw [List.findIdx?_cons];simp [p3]
   let ⟨p1,p2,p3⟩:=all ts is e;exact adb ok.calm p1 p2 p3
 .cases h
def dW(ok:XOk T fns d X sc N)(hb:b=true -> ∀ x,X.fn x=true){t:Tg}(h:Bh b sc N tg=some t):PG X tg (tG X.K t):=i6 ok (λ_ z=>⟨ok.locX (fW z).1,ok.fnX hb (fW z).2⟩) h
def xr{s3:Shared}{H3:Hp}{N':List Str}(h:BS true scope x=true):L2.Loc (Ag X pins scope s3 H3 fp N').env.scope x/\((Ag X pins scope s3 H3 fp N').fn x=true\/(Ag X pins scope s3 H3 fp N').env.scope.names.lookup x=some .local):=by
 have e:(Ag X pins scope s3 H3 fp N').env.scope.names.lookup x=_:=dn;simp! [BS,Bool.or_eq_true,Bool.true_and,beq_iff_eq] at h;rcases h with h | h
 .rw [h] at e;exact ⟨.inl e,.inr e⟩
 .rw [h] at e;exact ⟨.inr e,.inl (beq_iff_eq.mpr h)⟩
def zb(h:CW e'=true):Jk r e'=(λσ g=>(r.ev e' σ g).bind λu g=>match u with
  | .tup xs=>Out.ok (Iter.seq xs) g
  | .xn _ xs=>Out.ok (Iter.seq xs) g
  | .ref n=>match g[n]? with
   | some (.lst _) => .ok (.lst n) g
   | some (.dic kvs) => .ok (.dic n) (g.set n (.dif kvs))
   | some (.dif _) => .ok (.dic n) g
   | _ => .bad
  | _ => .bad):=by
 cases e' <;> first | rfl | cases h
def jI(ok:XOk T fns d X sc N){f:Expr->Option E}(ihf:∀ e e',f e=some e'->Good X #[6] e e'){it:Expr}(h:Dg T sc f it=some it'):(∀ n,PI X tg it (tI X.K W0 (Jk (Ju #[6] n) it'))) /\ ∀ x,foldedSetIterable it X.env x=pure x:=by
 have val:HJ f it=some it'->(∀ n,PI X tg it (tI X.K W0 (Jk (Ju #[6] n) it'))) /\ ∀ x,foldedSetIterable it X.env x=pure x:=λh=>qI h λhs h=>qB h λe' he h=>qI h λhr h=>by
  cases h;have hs:=aM hs;exact ⟨λn=>by rw [zb hr];exact zG ((ihf it it' he).1 n),λx=>by cases it <;> first | rfl | cases hs⟩
 unfold Dg at h;cases hc:Cu it with
 | none=>rw [hc] at h;exact val h
 | some c =>
  rw [hc] at h;refine qE h (λhf h => ?_) val;let ⟨p,q,rfl⟩:=fE hc;let ⟨n,es⟩:=c;have hf:n = "range" := hf;subst hf;refine qI h λhc h => ?_;simp! [Bool.and_eq_true,Bool.not_eq_true',beq_iff_eq] at hc;let ⟨⟨h1,h2⟩,h3⟩:=hc;have hm:=ok.bt _ (List.contains_iff_mem.mp h1);cases es with
  | nil=>cases h
  | cons a es =>
   cases es with
   | nil =>
    refine qM h λa' ha e => ?_;subst e;exact ⟨λn=>x3 (ok.gl h2) hm ((ihf _ _ ha).1 n) (star_ne (bT h3)),λx=>rfl⟩
   | cons b es =>
    refine gp (show CN f .rng2 (a :: b :: es)=some it' from h) λa b a' b' e1 ha hb e => ?_;cases e1;subst e;rw [List.any_cons,Bool.or_eq_false_iff] at h3;exact ⟨λn=>yP (ok.gl h2) hm ((ihf _ _ ha).1 n) ((ihf _ _ hb).1 n) (star_ne h3.1) (star_ne (bT h3.2)),λx=>rfl⟩
def bW(ok:XOk T fns d X sc N){f:Expr->Option E}(ihf:∀ e e',f e=some e'->Good X #[6] e e'){it:Expr}(h:Cw T sc f tg it=some it'):(∀ n,PI X tg it (tI X.K W0 (Jk (Ju #[6] n) it'))) /\ ∀ x,foldedSetIterable it X.env x=pure x:=by
 unfold Cw at h;cases hc:Cu it with
 | none=>rw [hc] at h;exact jI ok ihf h
 | some c =>
  rw [hc] at h;let ⟨n,es⟩:=c;refine qE h (λhf h => ?_) λh=>qE h (λhf h => ?_) (jI ok ihf)
  .obtain ⟨p,q,rfl⟩:=fE hc
   have hf:n = "enumerate" := hf;subst hf;refine qI h λhc h=>gm h λa a' e1 ha e => ?_;simp! [Bool.and_eq_true,Bool.not_eq_true',beq_iff_eq] at hc;let ⟨⟨⟨h1,h2⟩,h3⟩,h4⟩:=hc;have hm:=ok.bt _ (List.contains_iff_mem.mp h1);have e1:es=[a]:=e1;subst e1;subst e;cases tg with
   | Tuple ts k tp=>exact ⟨λn=>aaY (ok.gl h2) hm ((ihf _ _ ha).1 n) (star_ne (bT h3)),λx=>rfl⟩
   | _=>cases h4
  .obtain ⟨p,q,rfl⟩:=fE hc
   have hf:n = "zip" := hf;subst hf;refine qI h λhc h=>gp h λa b a' b' e1 ha hb e => ?_;simp! [Bool.and_eq_true,Bool.not_eq_true',beq_iff_eq] at hc;let ⟨⟨⟨h1,h2⟩,h3⟩,h4⟩:=hc;have hm:=ok.bt _ (List.contains_iff_mem.mp h1);have e1:es=[a,b]:=e1;subst e1;subst e;rw [List.any_cons,Bool.or_eq_false_iff] at h3;cases tg with
   | Tuple ts k tp=>exact ⟨λn=>aa5 (ok.gl h2) hm ((ihf _ _ ha).1 n) ((ihf _ _ hb).1 n) (star_ne h3.1) (star_ne (bT h3.2)),λx=>rfl⟩
   | _=>cases h4
def uZ(h:env.scope=sc):relabel scope env=Bf scope sc:=by subst h;rfl
def XOk.comp(ok:XOk T fns d X sc N){own fr:List Str}(nd:(own++fr).Nodup)(pins:List (Addr×Obj))(s3:Shared)(H3:Hp)(fp:List Addr):XOk T fns d (Ag X pins scope s3 H3 fp (own++fr)) (Bf scope sc) (own++fr) :=
 ⟨ok.hF,ok.cs,ok.bt,ok.hK,ok.hC,ok.hT,ok.hA,ok.room,rfl,uZ ok.hsc,nd,ok.calm,rfl⟩
def gf{f:Expr->Option E}(ih:∀ e e',f e=some e'->Good X C e e'):∀ {es:List Expr} {es':List E},Ad (es.map f)=some es' -> ∀ n,PTs X es (Ax (Ju C n).ts es')
 | [],_,h=>λn=>by cases h;exact yg
 | a :: es,es',h=>λn=>by
  rw [List.map_cons] at h;cases ea:f a with
  | none=>rw [ea] at h;cases h
  | some a' =>
   rw [ea] at h;simp! [Ad] at h;cases er:Ad (es.map f) with
   | none=>rw [er] at h;cases h
   | some r' =>
    rw [er] at h;cases h;exact xb ((ih a a' ea).2.1 n) (gf ih er n)
def jH(ok:XOk T fns d X sc N){f:Expr->Option E}(ih:∀ e e',f e=some e'->Good X #[6] e e'):∀ {gs:List Comprehension} {gs':List (Tg×E×List E)},DS T sc N f gs=some gs'->A9 X #[6] gs gs'
 | [],_,h=>by cases h;trivial
 | g :: gs,gs',h=>qI h λha h=>qB h λt ht h=>qB h λit hit h=>qB h λcs hcs h=>qM h λr' hr e=>by
  subst e;exact ⟨eq_of_beq ha,dW ok (λe=>by cases e) ht,gf ih hcs,(bW ok ih hit).1,(bW ok ih hit).2,jH ok ih hr⟩
def vb(ok:XOk T fns d X sc N){own:List Str}(h:DI scope sc own (freeOf scope)=true)(hI:Ad ((freeOf scope).map (AV N))=some frI):CompSc X scope own (freeOf scope) frI:=by
 unfold DI at h;simp! [Bool.and_eq_true,beq_iff_eq,List.all_eq_true,Bool.or_eq_true,bne_iff_ne,decide_eq_true_eq] at h;let ⟨⟨⟨⟨⟨⟨h1,h2⟩,h3⟩,h4⟩,h5⟩,h6⟩,h7⟩:=h;refine ⟨h1,λx hx hl=>(h2 x hx).resolve_left λz=>z hl,λx hx hl=>(h3 x hx).resolve_left λz=>z hl,λx hx hl => ?_,h5,h6,h7,?_⟩
 .show X.env.scope.names.lookup x.1=_
  rw [ok.hsc];exact (h4 x hx).resolve_left λz=>z hl
 .have all:∀ (l:List Str) (r:List Nat),Ad (l.map (AV N))=some r->r.length=l.length /\ ∀ (j:Nat) (x:Str) (i:Nat),l[j]? = some x->r[j]? = some i->N[i]? = some x:=λl=>by
   induction l with
   | nil=>intro r e;cases e;exact ⟨rfl,λj x i e=>by simp at e⟩
   | cons y l ih =>
    intro r e;rw [List.map_cons] at e;cases ea:AV N y with
    | none=>rw [ea] at e;cases e
    | some k =>
     rw [ea] at e;simp! [Ad] at e;cases er:Ad (l.map (AV N)) with
     | none=>rw [er] at e;cases e
     | some r' =>
      rw [er] at e;cases e;let ⟨p1,p2⟩:=ih r' er;refine ⟨by simp [p1],λj x i e1 e2 => ?_⟩
      cases j with
      | zero=>simp at e1 e2;subst e1;subst e2;exact ixOf_get ea
      | succ j=>exact p2 j x i (by simpa using e1) (by simpa using e2)
  rw [ok.hN];exact all _ _ hI
def wU(ok:XOk T fns d X sc N)(h:FA T sc N x=some e'):Good X #[6] (.Name x pos) e':=by
 refine qI h λhx h=>qB h λk hk h => ?_;let ⟨h1,h2,h3⟩:=f9 hx;have var:(k=.local\/k=.cell\/k=.free)->(AV N x).map E.var=some e'->Good X #[6] (.Name x pos) e':=λhk' h=>qM h λi ei e=>by
  subst e;refine .plain (λn=>abH (by rw [ok.hN];exact ixOf_get ei) ?_ h1 h2) (λ_=>rfl) (λ_ _ _=>rfl) rfl
  show X.env.scope.names.lookup x=_\/_;rw [ok.hsc];rcases hk' with rfl | rfl | rfl
  .exact .inl hk
  .exact .inr (.inl hk)
  .exact .inr (.inr hk)
 cases k with
 | «local» => exact var (.inl rfl) h
 | cell=>exact var (.inr (.inl rfl)) h
 | free=>exact var (.inr (.inr rfl)) h
 | globalImplicit =>
  refine qM h λu ec e => ?_;subst e;let ⟨v,val,q1,q2,q3⟩:=ok.cs x u ec;exact .plain (λn=>c7 (xC (ok.gl hk) q1 q2 h1) q3) (λ_=>rfl) (λ_ _ _=>rfl) rfl
 | globalExplicit=>exact qN h
def x6{v:Const}{k:Nat}(h:GH v=some e'):Good X C (.Constant v k pos) e':=by
 cases v with
 | int i=>cases h;exact .plain (λn=>c7 om λ_ _=>rfl) (λ_=>rfl) (λ_ _ _=>rfl) rfl
 | bool b=>cases h;exact .plain (λn=>c7 acY λ_ _=>rfl) (λ_=>rfl) (λ_ _ _=>rfl) rfl
 | none=>cases h;exact .plain (λn=>c7 abA λ_ _=>rfl) (λ_=>rfl) (λ_ _ _=>rfl) rfl
 | str s=>cases h;exact .plain (λn=>c7 nF λ_ _=>rfl) (λ_=>rfl) (λ_ _ _=>rfl) rfl
 | _=>exact qN h
section
variable(ok:XOk T fns d X sc N)(ih:∀ e e',ce e=some e'->Good X #[6] e e')
include ok in
def wd(ih:∀ e e',ce e=some e'->Good X #[6] e e'){a b:Expr}{o:CmpOp}(h:FK ce a o b=some e'):Good X #[6] (.Compare a [o] [b] pos) e':=by
 refine qI h λhset h=>qB h λo' ho h=>qB h λa' ha h=>qM h λb' hb e => ?_;subst e;have hm:=jP (o:=o) (aM hset);refine ⟨λn => ?_,λn => ?_,λh=>by cases h⟩
 .cases n with
  | zero=>exact PE.bad λ_ _=>rfl
  | succ n=>exact abE (C:=Aa fns fu d) (cf ok ho) hm ((ih _ _ ha).1 n) ((ih _ _ hb).1 n)
 .cases n with
  | zero=>exact PT.bad λ_ _=>rfl
  | succ n =>
   cases n with
   | zero=>exact PT.bad λ_ _=>rfl
   | succ n=>exact aaU (C:=Aa fns fu d) (cf ok ho) hm ((ih _ _ ha).1 n) ((ih _ _ hb).1 n)
include ok in
def w5(ih:∀ e e',ce e=some e'->Good X #[6] e e'){a b c:Expr}{o q:CmpOp}(h:FJ ce a o q b c=some e'):Good X #[6] (.Compare a [o,q] [b,c] pos) e':=by
 refine qI h λhset h=>qB h λo' ho h=>qB h λq' hq h=>qB h λa' ha h=>qB h λb' hb h=>qM h λc' hc e => ?_;subst e;have hm:=jP (o:=q) (aM hset);refine ⟨λn => ?_,λn => ?_,λh=>by cases h⟩
 .cases n with
  | zero=>exact PE.bad λ_ _=>rfl
  | succ n=>exact vX (C:=Aa fns fu d) (cf ok ho) (cf ok hq) hm ((ih _ _ ha).1 n) ((ih _ _ hb).1 n) ((ih _ _ hc).1 n)
 .cases n with
  | zero=>exact PT.bad λ_ _=>rfl
  | succ n =>
   cases n with
   | zero=>exact PT.bad λ_ _=>rfl
   | succ n=>exact vV (C:=Aa fns fu d) (cf ok ho) (cf ok hq) hm ((ih _ _ ha).1 n) ((ih _ _ hb).1 n) ((ih _ _ hc).1 n)
include ok in
def y3(ih:∀ e e',ce e=some e'->Good X #[6] e e'){a:Expr}{os:List CmpOp}{bs:List Expr}(h:F1 ce a os bs=some e'):Good X #[6] (.Compare a os bs pos) e':=by
 cases os with
 | nil=>exact qN h
 | cons o os=>cases bs with
  | nil=>exact qN h
  | cons b bs=>cases os with
   | nil =>
    refine qI h λhb h2 => ?_;cases aY hb;exact wd ok ih h2
   | cons q os=>cases bs with
    | nil=>exact qN h
    | cons c bs =>
     refine qI h λhb h2 => ?_;rw [Bool.and_eq_true] at hb;cases aY hb.1;cases aY hb.2;exact w5 ok ih h2
def yw(ih:∀ e e',ce e=some e'->Good X #[6] e e'){o:BoolOp}(h:FV ce o es pos=some e'):Good X #[6] (.BoolOp o es pos) e':=by
 cases es with
 | nil=>exact qN h
 | cons a es=>cases es with
  | nil =>
   let ⟨g1,g2,g3⟩:=ih _ _ h;have pw:∀ n,PW X (.BoolOp o [a] pos) (tT X.K W0 ((Ju #[6] n).ts e')):=λn=>by
    cases o with
    | And=>exact yQ (g2 n)
    | Or=>exact aaX (g2 n)
   exact ⟨λn=>abj (g1 n),λn=>(pw n).pt,λ_ n=>pw n⟩
  | cons b rest=>cases o with
   | And =>
    refine qB h λa' ha h=>qM h λb' hb e => ?_;subst e;have pw:∀ n,PW X (.BoolOp .And (a :: b :: rest) pos) (tT X.K W0 ((Ju #[6] n).ts (.and a' b'))):=λn=>by
     cases n with
     | zero=>exact λwh pins s σ H Q I ⟨_,_,_,_,_,p⟩=>p.elim
     | succ n=>exact zq ((ih _ _ ha).2.1 n) ((ih _ _ hb).2.2 rfl n)
    refine ⟨λn => ?_,λn=>(pw n).pt,λ_ n=>pw n⟩;cases n with
    | zero=>exact PE.bad λ_ _=>rfl
    | succ n=>exact abm (C:=Aa fns fu d) ((ih _ _ ha).1 n) ((ih _ _ hb).1 n)
   | Or =>
    refine qB h λa' ha h=>qM h λb' hb e => ?_;subst e;have pw:∀ n,PW X (.BoolOp .Or (a :: b :: rest) pos) (tT X.K W0 ((Ju #[6] n).ts (.or a' b'))):=λn=>by
     cases n with
     | zero=>exact λwh pins s σ H Q I ⟨_,_,_,_,_,p⟩=>p.elim
     | succ n=>exact ac3 ((ih _ _ ha).2.1 n) ((ih _ _ hb).2.2 rfl n)
    refine ⟨λn => ?_,λn=>(pw n).pt,λ_ n=>pw n⟩;cases n with
    | zero=>exact PE.bad λ_ _=>rfl
    | succ n=>exact acP (C:=Aa fns fu d) ((ih _ _ ha).1 n) ((ih _ _ hb).1 n)
def aa6(ih:∀ e e',ce e=some e'->Good X #[6] e e'){o:UnaryOp}{a:Expr}(h:HM ce o a=some e'):Good X #[6] (.UnaryOp o a pos) e':=by
 cases o with
 | Not =>
  refine qM h λa' ha e => ?_;subst e;refine ⟨λn => ?_,λn => ?_,λh=>by cases h⟩
  .cases n with
   | zero=>exact PE.bad λ_ _=>rfl
   | succ n=>exact aa8 (C:=Aa fns fu d) ((ih _ _ ha).1 n)
  .cases n with
   | zero=>exact PT.bad λ_ _=>rfl
   | succ n=>exact abM ((ih _ _ ha).2.1 n)
 | USub =>
  refine qM h λa' ha e => ?_;subst e;exact .plain (λn=>ab8 ((ih _ _ ha).1 n)) (λ_=>rfl) (λ_ _ _=>rfl) rfl
 | _=>exact qN h
def zh(h:Gi e=true):∃ k p q,e = .UnaryOp .USub (.Constant (.int 1) k p) q:=by
 cases e with
 | UnaryOp o a q=>cases o with
  | USub=>cases a with
   | Constant v k p=>cases v with
    | int i=>cases eq_of_beq (show (i == 1)=true from h);exact ⟨k,p,q,rfl⟩
    | _=>cases h
   | _=>cases h
  | _=>cases h
 | _=>cases h
def kL{o:Option α}(h:Ec o=true):o=none:=by
 cases o with
 | none=>rfl
 | some _=>cases h
def kS(ih:∀ e e',ce e=some e'->Good X #[6] e e'){lo:Option Expr}{l':Option E}(h:En ce lo=some l')(n:Nat):PO X lo (CL X.K W0 (Ji (Ju #[6] n).ev l')):=by
 cases lo with
 | none=>cases h;exact yh
 | some l=>exact qM h λl2 el e=>by subst e;exact xN ((ih _ _ el).1 n)
def yo(hu:X.A.units+2 < cLine)(ih:∀ e e',ce e=some e'->Good X #[6] e e'){a s:Expr}(h:Eo ce a s=some e'):Good X #[6] (.Subscript a s pos) e':=by
 unfold Eo at h;cases hsl:Co s with
 | true =>
  rw [hsl] at h;cases s with
  | Slice lo hi st p=>cases st with
   | none =>
    refine qB h λa' ha h=>qB h λl' hl h=>qM h λh' hh e => ?_;subst e;exact .plain (λn=>aaS ((ih _ _ ha).1 n) (kS ih hl n) (kS ih hh n)) (λ_=>rfl) (λ_ _ _=>rfl) rfl
   | some st =>
    refine qI h λhc h=>qM h λa' ha e => ?_;subst e;rw [Bool.and_eq_true,Bool.and_eq_true] at hc;cases kL hc.1.1;cases kL hc.1.2;let ⟨_,_,_,rfl⟩:=zh hc.2;exact .plain (λn=>aaR ((ih _ _ ha).1 n)) (λ_=>rfl) (λ_ _ _=>rfl) rfl
  | _=>exact qN h
 | false =>
  rw [hsl] at h;refine qB h λa' ha h=>qM h λb' hb e => ?_;subst e;exact .plain (λn=>z5 () ((ih _ _ ha).1 n) ((ih _ _ hb).1 n) (uY hsl)) (λ_=>rfl) (λ_ _ _=>rfl) rfl
include ok in
def abV(ih:∀ e e',ce e=some e'->Good X #[6] e e'){f:Str}(hgl:sc.names.lookup f=some .globalImplicit)(hm:X.mg f=none)(hst:es.any isStar=false)(h:HP ce f es=some e'):Good X #[6] (.Call (.Name f p) es [] pos) e':=by
 refine qB h λb hb h=>qI h λhne h=>qM h λes' ha e => ?_;subst e;cases es with
 | nil=>cases hne
 | cons a es =>
  unfold Fz at hb;exact .plain (λn=>abF hb ok.calm ok.room.units ok.room.gd (ok.gl hgl) hm (bj ih hst ha n) hst) (λ_=>rfl) (λ_ _ _=>rfl) rfl
include ok in
def yi(ih:∀ e e',ce e=some e'->Good X #[6] e e')(hgl:sc.names.lookup ("isinstance" : Str)=some .globalImplicit)(hm:X.mg "isinstance" = none)(hst:es.any isStar=false)(h:F6 T sc ce es=some e'):Good X #[6] (.Call (.Name "isinstance" p) es [] pos) e':=by
 cases es with
 | nil=>exact qN h
 | cons a es=>cases es with
  | nil=>exact qN h
  | cons t es =>
   refine qI h λhb h1=>qB h1 λtn0 hn0 h2 => ?_;cases aY hb;refine qB h2 λtn hn h=>qB h λty ht h=>qB h λa' ha h=>qI h λhc2 h9 => ?_;let ⟨p2,rfl⟩:=qe hn;simp! [Bool.and_eq_true,beq_iff_eq] at hc2;cases h9;let ⟨t1,t2,t3,t4⟩:=ze ht;rw [List.any_cons,Bool.or_eq_false_iff] at hst;exact .plain (λn=>aa4 (by unfold DH at ht;revert ht;(repeat' split) <;> (intro ht;cases ht) <;> rfl) t1 (ok.gl hc2.2) (ok.bt tn (List.contains_iff_mem.mp hc2.1)) t2 t3 t4 (ok.gl hgl) hm ((ih _ _ ha).1 n) (star_ne hst.1)) (λ_=>rfl) (λ_ _ _=>rfl) rfl
include ok in
def yu(ih:∀ e e',ce e=some e'->Good X #[6] e e'){f:Str}(hgl:sc.names.lookup f=some .globalImplicit)(hm:X.mg f=none)(hst:es.any isStar=false)(h:DB T sc ce f es=some e'):Good X #[6] (.Call (.Name f p) es [] pos) e':=by
 refine qE h (λhf h=>by subst hf;exact yi ok ih hgl hm hst h) λh => ?_
 exact abV ok ih hgl hm hst h
include ok in
def yq(ih:∀ e e',ce e=some e'->Good X #[6] e e'){f:Str}(h:Gr T sc ce f es=some e'):Good X #[6] (.Call (.Name f p) es [] pos) e':=by
 refine qI h λhc h => ?_;simp! [Bool.and_eq_true,Bool.not_eq_true',beq_iff_eq] at hc;let ⟨⟨hnm,hst⟩,hgl⟩:=hc;let ⟨h1,h2,h3⟩:=f9 hnm;cases hi:AV T.fns f with
 | some i =>
  rw [hi] at h;refine qM h λes' ha e => ?_;subst e;let ⟨fa,fd,ps,q1,q2,q3,q4,q5⟩:=ok.hF i f (ixOf_get hi) h1;refine .plain (λn => ?_) (λ_=>rfl) (λ_ _ _=>rfl) rfl;cases es with
  | nil=>cases ha;exact wt q4 c8 q5 ok.room2 (ok.gl hgl) q1 q2 q3 h1
  | cons a es =>
   have hst':=hst;rw [List.any_cons,Bool.or_eq_false_iff] at hst';exact x5 q4 c8 q5 ok.room2 (ok.gl hgl) q1 q2 q3 h1 (bj ih hst ha n) (star_ne hst'.1 _) (bE hst'.2)
 | none =>
  rw [hi] at h;cases hbt:T.bt.contains f with
  | true =>
   have h:(match T.bt.contains f with | true=>DB T sc ce f es | false=>Cz T sc ce f es [])=some e':=h
   rw [hbt] at h;exact yu ok ih hgl (ok.bt f (List.contains_iff_mem.mp hbt)) hst h
  | false =>
   have h:(match T.bt.contains f with | true=>DB T sc ce f es | false=>Cz T sc ce f es [])=some e':=h
   rw [hbt] at h;exact j9 ok ih h _ _
include ok in
def ab0(ih:∀ e e',ce e=some e'->Good X #[6] e e'){m:Str}{ap cp:Pos}(hbs:Cq o=false)(ho:Good X #[6] o o')(hline:(ap.endLine == cp.line)=true)(hst:es.any isStar=false)(h:HQ T ce o' m ap cp es=some e'):Good X #[6] (.Call (.Attribute o m ap) es [] cp) e':=by
 refine qE h (λhf h => ?_) λh => ?_
 .subst hf
  refine gm h λa a' e1 ha e => ?_;subst e1;subst e;exact .plain (λn=>aah (ho.1 n) ((ih _ _ ha).1 n) (base_of hbs _) hline (star_ne (bT hst))) (λ_=>rfl) (λ_ _ _=>rfl) rfl
 refine qE h (λhf h => ?_) λh => ?_
 .subst hf
  refine gm h λa a' e1 ha e => ?_;subst e1;subst e;exact .plain (λn=>aaA (ho.1 n) ((ih _ _ ha).1 n) (base_of hbs _) hline (star_ne (bT hst))) (λ_=>rfl) (λ_ _ _=>rfl) rfl
 refine qE h (λhf h5 => ?_) λh => ?_
 .subst hf
  cases es with
  | nil =>
   cases h5;exact .plain (λn=>abp (ho.1 n) (base_of hbs _) hline) (λ_=>rfl) (λ_ _ _=>rfl) rfl
  | cons b es =>
   exact qN h5
 refine qE h (λhf h => ?_) λh => ?_
 .subst hf
  refine qI h λhe h => ?_;cases aY he;cases h;exact .plain (λn=>zz (ho.1 n) (base_of hbs _) hline) (λ_=>rfl) (λ_ _ _=>rfl) rfl
 refine qE h (λhf h => ?_) λh => ?_
 .subst hf
  refine gp h λa b a' b' e1 ha hb e => ?_;subst e1;subst e;rw [List.any_cons,Bool.or_eq_false_iff] at hst;exact .plain (λn=>aaz (by have:=ok.units;omega) (ho.1 n) ((ih _ _ ha).1 n) ((ih _ _ hb).1 n) (base_of hbs _) hline (star_ne hst.1) (star_ne (bT hst.2))) (λ_=>rfl) (λ_ _ _=>rfl) rfl
 exact jR ok ih hbs ho h
include ok in
def yp(ih:∀ e e',ce e=some e'->Good X #[6] e e'){fn:Expr}(h:GF T sc ce fn es kws pos=some e'):Good X #[6] (.Call fn es kws pos) e':=by
 cases fn with
 | Name f p=>cases kws with
  | nil=>exact yq ok ih h
  | cons k kws=>exact j9 ok ih h _ _
 | Attribute o m ap =>
  refine qI h λhbs h=>qB h λo' ho h => ?_;have hbs:=aM hbs;cases kws with
  | nil =>
   refine qI h λhc h => ?_;rw [Bool.and_eq_true] at hc;exact ab0 ok ih hbs (ih _ _ ho) hc.1 (aM hc.2) h
  | cons k kws=>exact jR ok ih hbs (ih _ _ ho) h
 | _=>exact qN h
def yG(ih:∀ e e',ce e=some e'->Good X #[6] e e'){vs:List Expr}(h:GN ce keys vs=some e'):Good X #[6] (.Dict keys vs pos) e':=by
 cases keys with
 | nil =>
  refine qI h λhe h => ?_;cases aY he;cases h;exact .plain (λn=>x9) (λ_=>rfl) (λ_ _ _=>rfl) rfl
 | cons k0 keys =>
  refine qB h λks hks h=>qB h λes' hes h=>qI h λhc h => ?_;simp! [Bool.and_eq_true,beq_iff_eq,decide_eq_true_eq] at hc;cases h;have kl:=iC hks;exact .plain (λn=>ym (nu ih n (by rw [<-kl];exact hc.1.1) hks hes) (λz=>nomatch z) (by rw [<-kl];exact hc.1.2) hc.2) (λ_=>rfl) (λ_ _ _=>rfl) rfl
include ok in
def eI(ih:∀ e e',ce e=some e'->Good X #[6] e e'){ci:Expr->Option E}{g:Comprehension}{q:List Nat×List (Tg×E×List E)}
  (ihg:∀ {X':Cx},XOk T fns d X' (Bf scope sc) (ownOf (g :: rest)++freeOf scope) -> ∀ e e',ci e=some e'->Good X' #[6] e e') (h:Er T sc ce N ci g rest scope=some q) :
  ∃ t it' cs rest' frI,q=(frI,(t,it',cs) :: rest')/\CompSc X scope (ownOf (g :: rest)) (freeOf scope) frI/\g.is_async=0/\(∀ n,PI X g.target g.iter (tI X.K W0 (Jk (Ju #[6] n) it')))/\(∀ x,foldedSetIterable g.iter X.env x=pure x) /\
   ∀ pins s3 H3 fp,XOk T fns d (Ag X pins scope s3 H3 fp (ownOf (g :: rest)++freeOf scope)) (Bf scope sc) (ownOf (g :: rest)++freeOf scope)/\PG (Ag X pins scope s3 H3 fp (ownOf (g :: rest)++freeOf scope)) g.target (tG X.K t)/\(∀ n,PTs (Ag X pins scope s3 H3 fp (ownOf (g :: rest)++freeOf scope)) g.ifs (Ax (Ju #[6] n).ts cs)) /\
    A9 (Ag X pins scope s3 H3 fp (ownOf (g :: rest)++freeOf scope)) #[6] rest rest':=by
 refine qI h λhc h=>qB h λit' hit h=>qB h λt ht h=>qB h λcs hcs h=>qB h λrest' hrest h=>qM h λfrI hfr e => ?_;rw [Bool.and_eq_true,beq_iff_eq] at hc;have S:=vb ok hc.1 hfr;refine ⟨t,it',cs,rest',frI,e.symm,S,hc.2,(bW ok ih hit).1,(bW ok ih hit).2,λpins s3 H3 fp => ?_⟩;have ok':=ok.comp (scope:=scope) S.nd pins s3 H3 fp;exact ⟨ok',i6 ok' (λ_=>xr) ht,gf (ihg ok') hcs,jH ok' (ihg ok') hrest⟩
end
def au:∀ (m:Nat) {X:Cx} {sc:Scope} {N:List Str} (ok:XOk T fns d X sc N) (e:Expr) (e':E),Ap T sc N m e=some e'->Good X #[6] e e'
 | 0,_,_,_,_,_,_,h=>by cases h
 | m+1,X,sc,N,ok,e,e',h=>by
  have ih:=au m ok;cases e with
  | Name x p=>exact wU ok h
  | Constant v k p=>exact x6 h
  | BinOp a o b p =>
   refine qB h λo' ho h=>qB h λa' ha h=>qM h λb' hb e => ?_;subst e;exact .plain (λn=>vW (za ho) ((ih _ _ ha).1 n) ((ih _ _ hb).1 n)) (λ_=>rfl) (λ_ _ _=>rfl) rfl
  | Compare a os bs p=>exact y3 ok ih h
  | BoolOp o es p=>exact yw ih h
  | UnaryOp o a p=>exact aa6 ih h
  | Tuple es k p =>
   refine qI h λhs h=>qM h λa' ha e => ?_;subst e;exact .plain (λn=>abG (bj ih (aM hs) ha n)) (λ_=>rfl) (λ_ _ _=>rfl) rfl
  | List es p =>
   refine qI h λhs h=>qM h λa' ha e => ?_;subst e;exact .plain (λn=>aaM (bj ih (aM hs) ha n)) (λ_=>rfl) (λ_ _ _=>rfl) rfl
  | Subscript a s p=>exact yo ok.units ih h
  | Call fn es kws cp=>exact yp ok ih h
  | Attribute o f p =>
   refine qB h λcs hcs h=>qB h λo' ho h=>qI h λhn h => ?_;cases h;rw [Bool.and_eq_true] at hn;let ⟨n1,n2⟩:=cW hn.1;exact .plain (λn=>zY ((ih _ _ ho).1 n) (base_of (aM hn.2) _) n2 n1 (ok.hA.1 _ _ hcs)) (λ_=>rfl) (λ_ _ _=>rfl) rfl
  | Dict keys vs p=>exact yG ih h
  | ListComp elt gs scope p=>cases gs with
   | nil=>exact qN h
   | cons g rest =>
    refine qB h λq hq h=>qM h λelt' he e => ?_;subst e;let ⟨t,it',cs,rest',frI,rfl,S,h1,h2,h3,h4⟩:=eI (fu:=fu) ok ih (λok'=>au m ok') hq;exact .plain (λn=>xX ok.calm S h1 (h2 n) h3 λpins s3 H3 fp=>⟨#[14].2.1,#[14].2.2.1,#[14].2.2.2,(au m #[14].1 _ _ he).1⟩) (λ_=>rfl) (λ_ _ _=>rfl) rfl
  | DictComp kx vx gs scope p=>cases gs with
   | nil=>exact qN h
   | cons g rest =>
    refine qB h λq hq h=>qB h λk' hk h=>qM h λv' hv e => ?_;subst e;let ⟨t,it',cs,rest',frI,rfl,S,h1,h2,h3,h4⟩:=eI (fu:=fu) ok ih (λok'=>au m ok') hq;exact .plain (λn=>wM ok.calm (by have:=ok.units;omega) S h1 (h2 n) h3 λpins s3 H3 fp=>⟨#[14].2.1,#[14].2.2.1,#[14].2.2.2,(au m #[14].1 _ _ hk).1,(au m #[14].1 _ _ hv).1⟩) (λ_=>rfl) (λ_ _ _=>rfl) rfl
  | _=>exact qN h
def uj(ok:XOk T fns d X sc N){elt:Expr}{g:Comprehension}(h:Ap T sc N (m+1) (.ListComp elt (g :: rest) scope pos)=some e'):
  ∃ t it' cs rest' elt' frI,e'=.comp (ownOf (g :: rest)).length frI ((t,it',cs) :: rest') elt'/\CompSc X scope (ownOf (g :: rest)) (freeOf scope) frI/\g.is_async=0/\(∀ n,PI X g.target g.iter (tI X.K W0 (Jk (Ju #[6] n) it')))/\(∀ x,foldedSetIterable g.iter X.env x=pure x) /\
   ∀ pins s3 H3 fp,PG (Ag X pins scope s3 H3 fp (ownOf (g :: rest)++freeOf scope)) g.target (tG X.K t)/\(∀ n,PTs (Ag X pins scope s3 H3 fp (ownOf (g :: rest)++freeOf scope)) g.ifs (Ax (Ju #[6] n).ts cs)) /\
    A9 (Ag X pins scope s3 H3 fp (ownOf (g :: rest)++freeOf scope)) #[6] rest rest' /\ ∀ n,PE (Ag X pins scope s3 H3 fp (ownOf (g :: rest)++freeOf scope)) elt (tE X.K W0 ((Ju #[6] n).ev elt')):=by
 refine qB h λq hq h=>qM h λelt' he e => ?_;let ⟨t,it',cs,rest',frI,rfl,S,h1,h2,h3,h4⟩:=eI (fu:=fu) ok (au m ok) (λok'=>au m ok') hq;exact ⟨t,it',cs,rest',elt',frI,e.symm,S,h1,h2,h3,λpins s3 H3 fp=>⟨#[14].2.1,#[14].2.2.1,#[14].2.2.2,(au m #[14].1 _ _ he).1⟩⟩
def uc(ok:XOk T fns d X sc N){kx vx:Expr}{g:Comprehension}(h:Ap T sc N (m+1) (.DictComp kx vx (g :: rest) scope pos)=some e'):
  ∃ t it' cs rest' k' v' frI,e'=.dcmp (ownOf (g :: rest)).length frI ((t,it',cs) :: rest') k' v'/\CompSc X scope (ownOf (g :: rest)) (freeOf scope) frI/\g.is_async=0/\(∀ n,PI X g.target g.iter (tI X.K W0 (Jk (Ju #[6] n) it')))/\(∀ x,foldedSetIterable g.iter X.env x=pure x) /\
   ∀ pins s3 H3 fp,PG (Ag X pins scope s3 H3 fp (ownOf (g :: rest)++freeOf scope)) g.target (tG X.K t)/\(∀ n,PTs (Ag X pins scope s3 H3 fp (ownOf (g :: rest)++freeOf scope)) g.ifs (Ax (Ju #[6] n).ts cs)) /\
    A9 (Ag X pins scope s3 H3 fp (ownOf (g :: rest)++freeOf scope)) #[6] rest rest'/\(∀ n,PE (Ag X pins scope s3 H3 fp (ownOf (g :: rest)++freeOf scope)) kx (tE X.K W0 ((Ju #[6] n).ev k'))) /\ ∀ n,PE (Ag X pins scope s3 H3 fp (ownOf (g :: rest)++freeOf scope)) vx (tE X.K W0 ((Ju #[6] n).ev v')):=by
 refine qB h λq hq h=>qB h λk' hk h=>qM h λv' hv e => ?_;let ⟨t,it',cs,rest',frI,rfl,S,h1,h2,h3,h4⟩:=eI (fu:=fu) ok (au m ok) (λok'=>au m ok') hq;exact ⟨t,it',cs,rest',k',v',frI,e.symm,S,h1,h2,h3,λpins s3 H3 fp=>⟨#[14].2.1,#[14].2.2.1,#[14].2.2.2,(au m #[14].1 _ _ hk).1,(au m #[14].1 _ _ hv).1⟩⟩
end
section
variable{T:Tab}{fns:List Fn}{fu:Nat}{sc:Scope}
def iS{t:Option Expr}{l:Nat}(h:B0 e=false):swapsWith e t l env=pure false:=by
 cases e <;> first | rfl | cases h
def tU{t:Expr}{l:Nat}(h:B0 e=false):swapsWithSole [t] e l env=pure false:=by
 cases e <;> first | rfl | cases h
def ij{k:Nat}{l:Nat}:swapsWithSole [.Tuple ts k p] e l env=pure false:=by
 cases e <;> rfl
def cj{f:Stmt->Option S}(ih:∀ s s',f s=some s' -> ∀ n,PS X s (tSt X.K W0 (Jp (Ju #[6] n) s'))):∀ {ss:List Stmt} {ss':List S},Ad (ss.map f)=some ss' -> ∀ n,PSs X ss (tSt X.K W0 ((Ju #[6] n).ex ss'))
 | [],_,h=>λn=>by
  cases h;cases n with
  | zero=>exact PSs.bad λ_ _=>rfl
  | succ n=>exact aas (r:=Ju #[6] n)
 | s :: ss,ss',h=>λn=>by
  rw [List.map_cons] at h;cases ea:f s with
  | none=>rw [ea] at h;cases h
  | some s' =>
   rw [ea] at h;simp! [Ad] at h;cases er:Ad (ss.map f) with
   | none=>rw [er] at h;cases h
   | some r' =>
    rw [er] at h;cases h;cases n with
    | zero=>exact PSs.bad λ_ _=>rfl
    | succ n=>exact xZ (ih s s' ea n) (cj ih er n)
def uf{pt pt2:Pos}{a b:Expr}{kt k2:Nat}(ha:foldedForSure 8 a=true)(hb:foldedForSure 8 b=true):swappedStores [.Tuple ts kt pt] (.Tuple [a,b] k2 pt2) env=pure none:=by
 have h:[a,b].all (foldedForSure 8)=true:=by simp [ha,hb]
 unfold swappedStores;simp! [h,if_true];split
 .rfl
 .split
  .rfl
  .split <;> rfl
def uQ{y:Str}{px py pt pt2:Pos}{a b:Expr}{kt k2:Nat}(ok:XOk T fns d X sc N)(hk:X.env.blockKind=.function)(h:CD sc x y px py a b=true):
  swappedStores [.Tuple [.Name x px,.Name y py] kt pt] (.Tuple [a,b] k2 pt2) X.env=pure (some [x,y]):=by
 unfold CD at h;simp! [Bool.and_eq_true,Bool.not_eq_true',beq_iff_eq] at h;let ⟨⟨⟨⟨⟨⟨⟨h1,h2⟩,h3⟩,h4⟩,h5⟩,h6⟩,h7⟩,h8⟩:=h;have e1:X.env.kindOf x=some .local:=by show X.env.scope.names.lookup x=_;rw [ok.hsc];exact h1
 have e2:X.env.kindOf y=some .local:=by show X.env.scope.names.lookup y=_;rw [ok.hsc];exact h2
 have nd:[x,y].eraseDups.length=2:=by
  have : ¬ (y == x)=true:=by intro z;rw [beq_iff_eq] at z;subst z;simp at h3
  simp [List.eraseDups_cons,this]
 have b0:([.Tuple [.Name x px,.Name y py] kt pt]:List Expr)=[.Tuple [.Name x px,.Name y py] kt pt]:=rfl;unfold swappedStores;simp [hk,e1,e2,h4,nd,h7,h8];have q1:∀ z:Expr,isStar z=false -> ¬ ((match z with | .Starred value pos=>true | x=>false)=true):=λz hz=>by cases z <;> first | exact Hz | cases hz
 rw [if_neg (λz=>z.elim (q1 a h5) (q1 b h6))];have px':(Expr.Name x px).pos=px:=rfl;rw [px'];simp! [List.filterMap_cons,List.filterMap_nil,e1,e2,h4,true_and,and_self,if_true];simp [nd]
def u7{i:Expr}{spos:Pos}(h:Co i=false)(v:Value):assign (.Subscript o i spos) env v=(do
   let ov <- holding [v] (eval o env)
   let iv <- holding [v,ov] (eval i env)
   standAt spos
   holding [v,ov,iv] (setItem ov iv v)
   release [v,ov,iv] []):=by
 cases i <;> first | rfl | cases h
def jT{l:List α}{p:α×α}(h:DR l=some p):l=[p.1,p.2]:=by
 cases l with
 | nil=>cases h
 | cons a l=>cases l with
  | nil=>cases h
  | cons b l=>cases l with
   | nil=>cases h;rfl
   | cons _ _=>cases h
def eT{x:Str×Pos}(h:HS e=some x):e = .Name x.1 x.2:=by
 cases e with
 | Name y p=>cases h;rfl
 | _=>cases h
def yV{q:List Expr×Nat×Pos}(h:Gb e=some q):e = .Tuple q.1 q.2.1 q.2.2:=by
 cases e with
 | Tuple es k p=>cases h;rfl
 | _=>cases h
section
variable{cE:Expr->Option E}
def uz(ok:XOk T fns d X sc N)(hk:X.env.blockKind=.function)(hfn:∀ x,X.fn x=true)(ihE:∀ e e',cE e=some e'->Good X #[6] e e'){kt:Nat}{pt:Pos}{e:Expr}{st':S}(h:CT T sc N cE ts kt pt e=some st')(n:Nat):PS X (.Assign [.Tuple ts kt pt] e pos) (tSt X.K W0 (Jp (Ju #[6] n) st')):=by
 refine qB h λq hq h=>qB h λt ht h=>qB h λx hx h=>qB h λy hy h=>qB h λa ha h => ?_;cases yV hq;cases jT ht;rw [eT hx,eT hy] at h ⊢;rw [jT ha] at h ⊢;cases hp:CD sc x.1 y.1 x.2 y.2 a.1 a.2 with
 | true =>
  rw [hp] at h;refine qB h λi hi h=>qB h λj hj h=>qB h λa' h1 h=>qM h λb' h2 e => ?_;subst e;have hp':=hp;unfold CD at hp';simp! [Bool.and_eq_true,Bool.not_eq_true',beq_iff_eq] at hp';let ⟨⟨⟨⟨⟨⟨⟨p1,p2⟩,p3⟩,p4⟩,p5⟩,p6⟩,p7⟩,p8⟩:=hp';refine acd ok.calm ok.ndX (by rw [ok.hN];exact ixOf_get hi) (by rw [ok.hN];exact ixOf_get hj) ?_ (by rw [ok.hsc];exact p1) (by rw [ok.hsc];exact p2) ((ihE _ _ h1).1 n) ((ihE _ _ h2).1 n) (star_ne p5) (star_ne p6) (uQ ok hk hp)
  intro hij;subst hij;have:=(ixOf_get hi).symm.trans (ixOf_get hj);rw [Option.some.inj this] at p3;simp at p3
 | false =>
  rw [hp] at h;refine qI h λhf h=>qB h λt ht h=>qM h λe' he e => ?_;subst e;rw [Bool.and_eq_true] at hf;exact md ((ihE _ _ he).1 n) (dW ok (λ_=>hfn) ht) ij (uf hf.1 hf.2) rfl
end
def vt(ok:XOk T fns d X sc N)(hk:X.env.blockKind=.function)(hfn:∀ x,X.fn x=true){x:Str}{px:Pos}{st':S}(h:Ft sc N (Ap T sc N m) x px e=some st')(n:Nat):PS X (.Assign [.Name x px] e pos) (tSt X.K W0 (Jp (Ju #[6] n) st')):=by
 refine qI h λhc h=>qB h λi hi h=>qM h λe' he e => ?_;subst e;let ⟨h1,h2,h3⟩:=wZ hi;have plain:B0 e=false->PS X (.Assign [.Name x px] e pos) (tSt X.K W0 (Jp (Ju #[6] n) (.set (.nm i) e'))):=λhc=>acb ok.ndX (by rw [ok.hN];exact h1) (ok.locX h2) (.inl (hfn _)) ((au m ok _ _ he).1 n) (iS hc)
 cases e with
 | ListComp elt gs scope p=>cases gs with
  | nil=>cases hc
  | cons g rest =>
   have hsw:CH sc x px scope p=true:=hc;cases m with
   | zero=>cases he
   | succ m =>
    let ⟨t,it',cs,rest',elt',frI,rfl,Sc,ha,hpi,hfold,inner⟩:=uj ok he;unfold CH at hsw;rw [Bool.and_eq_true,Bool.and_eq_true,beq_iff_eq,beq_iff_eq] at hsw;let ⟨⟨q1,q2⟩,q3⟩:=hsw;have hloc:X.env.scope.names.lookup x=some .local:=by rw [ok.hsc];exact q1
    have hkd:X.env.kindOf x=some .local:=hloc;cases n with
    | zero=>exact PS.bad λ_ _=>rfl
    | succ n =>
     refine uK ok.calm Sc ha (hpi n) hfold inner ok.ndX (by rw [ok.hN];exact h1) hloc ?_
     show (pure (X.env.blockKind == .function && X.env.kindOf x == some .local && px.line == p.line && !(scope.names.any λ(n,k)=>n == x && (k == .local || k == .cell))):Sem Bool)=pure true;rw [hk,hkd,q2,q3];simp
 | DictComp kx vx gs scope p=>cases gs with
  | nil=>cases hc
  | cons g rest =>
   have hsw:CH sc x px scope p=true:=hc;cases m with
   | zero=>cases he
   | succ m =>
    let ⟨t,it',cs,rest',k',v',frI,rfl,Sc,ha,hpi,hfold,inner⟩:=uc ok he;unfold CH at hsw;rw [Bool.and_eq_true,Bool.and_eq_true,beq_iff_eq,beq_iff_eq] at hsw;let ⟨⟨q1,q2⟩,q3⟩:=hsw;have hloc:X.env.scope.names.lookup x=some .local:=by rw [ok.hsc];exact q1
    have hkd:X.env.kindOf x=some .local:=hloc;cases n with
    | zero=>exact PS.bad λ_ _=>rfl
    | succ n =>
     refine uV ok.calm (by have:=ok.units;omega) Sc ha (hpi n) hfold inner ok.ndX (by rw [ok.hN];exact h1) hloc ?_
     show (pure (X.env.blockKind == .function && X.env.kindOf x == some .local && px.line == p.line && !(scope.names.any λ(n,k)=>n == x && (k == .local || k == .cell))):Sem Bool)=pure true;rw [hk,hkd,q2,q3];simp
 | _=>exact plain (aM hc)
def uF(ok:XOk T fns d X sc N)(hk:X.env.blockKind=.function)(hfn:∀ x,X.fn x=true){t:Expr}{st':S}(h:Fh T sc N (Ap T sc N m) t e=some st')(n:Nat):PS X (.Assign [t] e pos) (tSt X.K W0 (Jp (Ju #[6] n) st')):=by
 have ihE:=au (fu:=fu) m ok;cases t with
 | Name x px=>exact vt ok hk hfn h n
 | Tuple ts k p =>
  cases hc:B5 e with
  | true =>
   have h:(match B5 e with | true=>CT T sc N (Ap T sc N m) ts k p e | false=>(Bh true sc N (.Tuple ts k p)).bind λt=>(Ap T sc N m e).map (S.set t))=some st':=h
   rw [hc] at h;exact uz ok hk hfn ihE h n
  | false =>
   have h:(match B5 e with | true=>CT T sc N (Ap T sc N m) ts k p e | false=>(Bh true sc N (.Tuple ts k p)).bind λt=>(Ap T sc N m e).map (S.set t))=some st':=h
   rw [hc] at h;refine qB h λt ht h=>qM h λe' he e1 => ?_;subst e1;refine md ((ihE _ _ he).1 n) (dW ok (λ_=>hfn) ht) ij ?_ rfl;revert hc;cases e <;> first | exact λ_=>rfl | exact λh2=>nomatch h2
 | Subscript o i p =>
  refine qI h λhc h=>qB h λo' ho h=>qB h λi' hi h=>qM h λe' he e => ?_;subst e;rw [Bool.and_eq_true] at hc;exact aca (by have:=ok.units;omega) ((ihE _ _ he).1 n) ((ihE _ _ ho).1 n) ((ihE _ _ hi).1 n) (tU (aM hc.2)) rfl (u7 (aM hc.1))
 | Attribute o f p =>
  refine qB h λx hx h=>qB h λcs hcs h=>qB h λo' ho h=>qB h λe' he h=>qI h λhn h => ?_;cases h;cases eT hx;let ⟨n1,n2⟩:=cW hn;exact xA ((ihE _ _ ho).1 n) ((ihE _ _ he).1 n) (by unfold swapsWith;cases e <;> rfl) n2 n1 (ok.hA.1 _ _ hcs)
 | _=>exact qN h
def uH(ok:XOk T fns d X sc N){t:Expr}{op:Operator}{st':S}(h:Fg T (Ap T sc N m) t op e=some st')(n:Nat):PS X (.AugAssign t op e pos) (tSt X.K W0 (Jp (Ju #[6] n) st')):=by
 have ihE:=au (fu:=fu) m ok;cases t with
 | Attribute o f p =>
  refine qB h λq hq h => ?_;cases op with
  | Add =>
   cases hq;refine qB h λx hx h=>qB h λcs hcs h=>qB h λo' ho h=>qB h λi hi h=>qB h λe' he h=>qB h λk hk h=>qI h λhn h => ?_;cases h;cases eT hx;let ⟨n1,n2⟩:=cW hn;cases o' with
   | var j =>
    cases hi;cases e' with
    | cst u =>
     cases u with
     | int z =>
      cases hk;exact yD (λn=>(ihE _ _ ho).1 n) (λn=>(ihE _ _ he).1 n) n2 n1 (ok.hA.1 _ _ hcs) n
     | _=>cases hk
    | _=>cases hk
   | _=>cases hi
  | Sub=>cases hq;cases h
  | _=>cases hq
 | _=>exact qN h
def jY(ok:XOk T fns d X sc N)(hk:X.env.blockKind=.function)(hfn:∀ x,X.fn x=true):∀ m st st',BB T sc N m st=some st' -> ∀ n,PS X st (tSt X.K W0 (Jp (Ju #[6] n) st'))
 | 0,_,_,h=>by cases h
 | m+1,st,st',h=>λn=>by
  have ih:=jY ok hk hfn m;have ihE:=au (fu:=fu) m ok;cases st with
  | Return o p=>cases o with
   | none=>exact qN h
   | some e=>exact qM h λa' ha e=>by subst e;exact abP ((ihE _ _ ha).1 n)
  | Assign ts e p=>cases ts with
   | nil=>exact qN h
   | cons t r =>
    refine qI h λhr h => ?_;cases aY hr;exact uF ok hk hfn h n
  | AugAssign t op e p=>exact uH ok h n
  | Expr e p=>exact qI h λhc h=>qM h λa' ha e=>by subst e;exact aa0 ((ihE _ _ ha).1 n) (iS (aM hc))
  | If c a b p=>exact qB h λc' hc h=>qB h λa' ha h=>qM h λb' hb e=>by subst e;exact adv ((ihE _ _ hc).2.1 n) (cj ih ha n) (cj ih hb n)
  | While c b o p =>
   refine qI h λhr h=>qB h λc' hc h=>qM h λb' hb e => ?_;subst e;cases aY hr;exact zv ok.own (λn=>(ihE _ _ hc).2.1 n) (λn=>cj ih hb n)
  | For tg it b o p =>
   refine qI h λhr h=>qB h λt ht h=>qB h λit' hi h=>qM h λb' hb e => ?_;subst e;cases aY hr;exact zP ok.own ok.calm ((bW ok ihE hi).1 n) (dW ok (λ_=>hfn) ht) (λn=>cj ih hb n) (bW (fu:=fu) ok ihE hi).2
  | Raise a b p=>cases h;exact PS.bad λ_ _=>rfl
  | _=>exact qN h
end
set_option genInjectivity false in
structure FI where
 x:Str
 st:Stmt
 N:List Str
 ps:List Str
 cm:Option (Str×Str)
 kf:Option (KF×Nat)
structure FunD(K:HG)(x qual:Str)(st:Stmt)(f:Addr)(fd:FuncData):Prop where
 ex:∃ (JV:Value) (od:Option Addr) (dV Ic doc pm:Value) (an:Option Addr) (cdv ct:Value) (osl:Array (Option Value)),
  fd=PySem.W.fnOf x qual (Cs st) (Cr st) (Bk st) dV Ic doc pm an cdv ct/\K.lookup f=some ⟨JV,od,.func fd,osl⟩/\PySem.W.codeIn K cdv qual=true
 kp:PySem.W.keepIn K (.ref f)=true
noncomputable def FI.nm(fi:FI):Str:=match fi.cm with | none=>fi.x | some c=>c.2
noncomputable def FI.tn(fi:FI):Str:=if fi.cm.isSome || fi.kf.isSome then "__debug__" else fi.x
def FAt(K:HG)(mg:Str->Option Value)(fi:FI)(f:Addr):Prop:=match fi.cm with
 | none=>mg fi.x=some (.ref f)
 | some c => ∃ C,mg c.1=some (.ref C)/\PySem.W.nsIn K mainGlobals c.1=some #[24]/\Cls K C/\Meth K C c.2 f/\(c.2 = "__init__" -> Mk K C f)
structure FOk(T:Tab)(K:HG)(mg:Str->Option Value)(fi:FI)(F:Fn):Prop where
 sc:FnScope fi.N fi.ps (Bk fi.st)
 np:F.np=fi.ps.length
 ns:F.ns=fi.N.length
 body:∃ m,Ad ((Cr fi.st).map (BB T (Bk fi.st) fi.N m))=some F.body
 obj:∃ f fd,FAt K mg fi f/\FunD K fi.nm fi.x fi.st f fd/\(fi.kf=none->Binds K fd fi.ps []) /\ ∀ F nd,fi.kf=some (F,nd)->fi.ps=F.ns++F.ks/\F.ns++F.ks≠[] /\ ∃ ddV dd,KFok K fd F nd ddV dd
def AllOk(T:Tab)(K:HG)(mg:Str->Option Value):List FI->List Fn->Prop
 | [],[]=>True
 | fi :: r,F :: s=>FOk T K mg fi F/\AllOk T K mg r s
 | _,_=>False
section
variable{T:Tab}{P:Program}
def AllOk.get:∀ {fis:List FI} {fns:List Fn} {i:Nat} {fi:FI},AllOk T K mg fis fns->fis[i]? = some fi -> ∃ F,fns[i]? = some F/\FOk T K mg fi F
 | [],_,_,_,_,e=>by simp at e
 | _ :: _,[],_,_,h,_=>False.elim h
 | _ :: _,F :: _,0,_,h,e=>by simp at e;subst e;exact ⟨F,rfl,h.1⟩
 | _ :: r,_ :: s,i+1,fi,h,e=>by
  let ⟨F,e1,e2⟩:=AllOk.get (i:=i) (fi:=fi) h.2 (by simpa using e)
  exact ⟨F,by simpa using e1,e2⟩
structure PgOk(T:Tab)(K:HG)(mg:Str->Option Value)(fis:List FI)(fns:List Fn):Prop where
 names:T.fns=fis.map FI.tn
 all:AllOk T K mg fis fns
 cs:∀ x u,T.cs.lookup x=some u -> ∃ v val,mg x=some val/\RelV v val /\ ∀ ρ H,RV K ρ H u v
 bt:∀ x∈T.bt,mg x=none
 kfs:∀ (y:Str) (i:Nat) (F:KF) (nd:Nat),T.kf.lookup y=some (i,F,nd) -> ∃ fi,fis[i]? = some fi/\fi.x=y/\fi.cm=none/\fi.kf=some (F,nd)
 cls:∀ (y:Str) (c i:Nat) (F:KF) (nd:Nat),T.cl.lookup y=some (c,i,F,nd)->As c=y /\ ∃ fi,fis[i]? = some fi/\fi.cm=some (y,("__init__" : Str))/\fi.kf=some (F,nd)
 mts:∀ (m:Str) (l:List (Nat×Nat×KF×Nat)),T.mt.lookup m=some l -> ∀ c i F nd,(c,i,F,nd)∈l -> ∃ fi,fis[i]? = some fi/\fi.cm=some (As c,m)/\fi.kf=some (F,nd)
 fls:(∀ (f:Str) (cs:List Nat),T.fl.lookup f=some cs->Cg K f cs) /\ ∀ p∈T.ow,∃ C,mg p.1=some (.ref C)/\PySem.W.nsIn K mainGlobals (As p.2)=some #[24]/\Cls K C/\OwnCl K C
def xk(hn:n=N.length)(h:RVs K ρ H us vs)(hl:us.length<=N.length):RS K ρ H (us.map some++List.replicate (n - us.length) none) (L2.start N vs) where
 len:=by unfold L2.start;simp [h.length,hn]
 val:=λi u e=>by
  subst hn;unfold L2.start;by_cases hi:i < us.length
  .rw [List.getElem?_append_left (by simpa using hi),List.getElem?_map] at e
   rw [List.getElem?_append_left (by rw [List.length_map,<-h.length];exact hi),List.getElem?_map]
   cases eu:us[i]? with
   | none=>rw [eu] at e;cases e
   | some w =>
    rw [eu] at e;cases e;let ⟨v,e1,e2⟩:=h.get eu;exact ⟨v,by rw [e1];rfl,e2⟩
  .rw [List.getElem?_append_right (by simpa using hi),List.getElem?_replicate] at e
   split at e <;> cases e
def aaN(h:env.scope.kind=.function):env.blockKind=.function:=by
 unfold Env.blockKind;rw [h]
 rfl
def yS{W:XQ}{o:Out Fl}{Q:VK}(p:post K W (RV K) (o.bind λf g=>match f with | .rt u => .ok u g | .nx _ => .ok .non g | _ => .bad) ρ H Q):Jw K W o ρ H { nx:=λ_ H'=>Q .non H',rt:=Q }:=by
 revert p;cases o with
 | ok fl g1 =>
  cases fl with
  | nx σ1=>exact λp σ ρ' H' s h hs=>p .non ρ' H' s h rfl
  | rt u=>exact λp=>p
  | bk σ1=>exact λp=>p.elim
  | ct σ1=>exact λp=>p.elim
 | exc c fs g1=>exact λp=>p
 | bad=>exact λp=>p
def ox{fis:List FI}{fns:List Fn}(G:PgOk T K mg fis fns):∀ (d i:Nat) (fi:FI),fis[i]? = some fi -> ∀ f fd,FunD K fi.nm fi.x fi.st f fd->FnOk P w K mg base CX0 (2*d+2) f fd fi.ps (spI K fns d i fi.ps.length)
 | 0,i,fi,_,f,fd,_=>⟨λvs H Q E ⟨_,ρ,g,us,_,_,_,p⟩=>p.elim,λA outer s H args us vs Q E _ _ _ _ ⟨_,ρ,g,us,_,_,_,p⟩=>p.elim⟩
 | d+1,i,fi,hi,f,fd,F=>by
  let ⟨Fi,ei,O⟩:=G.all.get hi;let ⟨m,hb⟩:=O.body;have callee:∀ j fj,fis[j]? = some fj -> ∃ f fd,FAt K mg fj f/\PySem.W.keepIn K (.ref f)=true/\(fj.kf=none->Binds K fd fj.ps [])/\(∀ F nd,fj.kf=some (F,nd)->fj.ps=F.ns++F.ks/\F.ns++F.ks≠[] /\ ∃ ddV dd,KFok K fd F nd ddV dd)/\FnOk P w K mg base CX0 (2*d+2) f fd fj.ps (spI K fns d j fj.ps.length) /\ ∀ F,fns[j]? = some F->F.np=fj.ps.length:=λj fj ej=>by
   let ⟨Fj,ej',Oj⟩:=G.all.get ej;let ⟨f',fd',m1,m2,m3,m4⟩:=Oj.obj;exact ⟨f',fd',m1,m2.kp,m3,m4,ox G d j fj ej f' fd' m2,λF' e=>by rw [ej'] at e;cases e;exact Oj.np⟩
  let ⟨JV,od,dV,Ic,doc,pm,an,cdv,ct,osl,rfl,lk,hcd⟩:=F.ex;refine acS (k:=2*d+3) lk hcd O.sc (λvs H Q E ⟨_,ρ,g,us,_,rs,hl,_⟩=>by rw [<-rs.length];exact hl) λA outer s H vs Q E hr h => ?_
  have ok:XOk T fns d (Cj CX0 P w K mg base fi.N fi.x (Bk fi.st) f cdv A outer s H E).nox (Bk fi.st) fi.N:=by
   refine ⟨λj x hx hdb => ?_,G.cs,G.bt,λy j F nd hy => ?_,λy c j F nd hy => ?_,λmm l hl c j F nd hmem => ?_,G.fls,hr,rfl,rfl,O.sc.nd,rfl,rfl⟩
   .rw [G.names,List.getElem?_map] at hx
    cases ej:fis[j]? with
    | none=>rw [ej] at hx;cases hx
    | some fj =>
     rw [ej] at hx;have hx:fj.tn=x:=by simpa using hx
     unfold FI.tn at hx;let ⟨f',fd',m1,m2,m3,m4,m5,m6⟩:=callee j fj ej;cases hc:fj.cm with
     | some c=>rw [hc] at hx;subst hx;cases hdb
     | none =>
      cases hk:fj.kf with
      | some c=>rw [hc,hk] at hx;subst hx;cases hdb
      | none =>
       rw [hc,hk] at hx;have hx:fj.x=x:=hx;subst hx;have m1':mg fj.x=some (.ref f'):=by unfold FAt at m1;rw [hc] at m1;exact m1
       exact ⟨f',fd',fj.ps,m1',m2,m3 hk,m5,m6⟩
   .obtain ⟨fj,ej,rfl,hc,hk⟩:=G.kfs y j F nd hy
    let ⟨f',fd',m1,m2,m3,m4,m5,m6⟩:=callee j fj ej;let ⟨b1,b2,ddV,dd,b3⟩:=m4 F nd hk;have m1':mg fj.x=some (.ref f'):=by unfold FAt at m1;rw [hc] at m1;exact m1
    rw [b1] at m5;exact ⟨f',fd',ddV,dd,m1',m2,b3,b2,m5,λF' e=>by rw [m6 F' e,b1]⟩
   .obtain ⟨hn,fj,ej,hc,hk⟩:=G.cls y c j F nd hy
    let ⟨f',fd',m1,m2,m3,m4,m5,m6⟩:=callee j fj ej;let ⟨b1,b2,ddV,dd,b3⟩:=m4 F nd hk;unfold FAt at m1;rw [hc] at m1;let ⟨C,c1,c2,c3,c4,c5⟩:=m1;rw [b1] at m5;exact ⟨C,f',fd',ddV,dd,c1,c5 rfl,by rw [hn];exact c2,b3,b2,m5,λF' e=>by rw [m6 F' e,b1]⟩
   .obtain ⟨fj,ej,hc,hk⟩:=G.mts mm l hl c j F nd hmem
    let ⟨f',fd',m1,m2,m3,m4,m5,m6⟩:=callee j fj ej;let ⟨b1,b2,ddV,dd,b3⟩:=m4 F nd hk;unfold FAt at m1;rw [hc] at m1;let ⟨C,c1,c2,c3,c4,c5⟩:=m1;rw [b1] at m5;exact ⟨C,f',fd',ddV,dd,c2,c3,c4,b3,b2,m5,λF' e=>by rw [m6 F' e,b1]⟩
  let ⟨fu,ρ,g,us,hg,rs,hl,p⟩:=h;refine ⟨tSt K W0 ((Ju #[6] fu).ex Fi.body),PSs.nox (cj (jY ok (aaN O.sc.kind) (λ_=>rfl) m) hb fu),?_⟩;simp! [Aa,ei,BM] at p;rw [if_pos (by rw [hl,O.np])] at p
  have hpl:fi.ps.length<=fi.N.length:=by have:=congrArg List.length O.sc.pre;rw [List.length_take] at this;omega
  exact ⟨_,ρ,g,xk O.ns rs (),hg,yS p⟩
def ace{xs:List V}(hO:Dk H)(h:SqL K H a xs):SqF K H a xs:=by
 rcases h with (h | h) | h
 .rcases hO a with z | ⟨o,ys,z⟩
  .rw [h] at z;cases z
  .rw [h] at z;cases z
 .exact .inl h
 .exact .inr h
def j4{ρ:List Addr}{H:Hp}:∀ ns:List Int,RVs K ρ H #[32] (ns.map V.int)
 | []=>rfl
 | n :: ns=>⟨.int n,ns.map V.int,rfl,rfl,j4 ns⟩
def aaw{fns:List Fn}{E:XK}(hO:Dk H)(hS:SqL K H a (ns.map V.int)){fu:Nat}(h:Aa fns fu d i [.fro #[32]] []=.ok (.bl true) g'):
  spI K fns d i 1 [.ref a] H (λv _=>v=.bl true) E:=by
 refine ⟨fu,[],[],[.fro #[32]],⟨rfl,λi j a e=>by simp at e,λn a o e=>by simp at e⟩,⟨_,_,rfl,⟨a,_,rfl,ace hO hS,j4 ns⟩,rfl⟩,rfl,?_⟩
 rw [h];exact λv ρ' H' _ _ r=>r
end
open PySem PySem.Spec PyProof.Rows L2 PySem.W
def j8{α β:Type}{f g:α->Option β}:∀ {l:List α},(∀ x∈l,f x=g x)->l.filterMap f=l.filterMap g
 | [],_=>rfl
 | a :: l,h=>by rw [List.filterMap_cons,List.filterMap_cons,h a (.head _),j8 λx hx=>h x (.tail _ hx)]
def u0:∀ {ps:List Str} {us:List α},ps.Nodup->us.length=ps.length->(ps.filterMap λn=>((ps.zip us).lookup n).map (n,·))=ps.zip us:=by
 intro ps
 induction ps with
 | nil=>intro us _ _;cases us <;> rfl
 | cons p ps ih =>
  intro us nd hl;cases us with
  | nil=>simp at hl
  | cons u us =>
   have hp:p ∉ ps:=#[46].1;rw [List.filterMap_cons];simp! [List.zip_cons_cons,List.lookup_cons,beq_self_eq_true,Option.map_some];congr 1;refine (j8 λx hx => ?_).trans (ih #[46].2 (by simpa using hl))
   have:(x == p)=false:=by
    rw [beq_eq_false_iff_ne];rintro rfl;exact hp hx
   simp! [this]
def kY{α:Type}:∀ {ps:List Str} {us:List α},us.length=ps.length -> ∀ x∈ps,((ps.zip us).lookup x).isNone=false
 | [],_,_,x,hx=>by simp at hx
 | p :: ps,[],hl,_,_=>by simp at hl
 | p :: ps,u :: us,hl,x,hx=>by
  simp! [List.zip_cons_cons,List.lookup_cons];cases e:x == p with
  | true=>rfl
  | false =>
   rcases List.mem_cons.mp hx with rfl | h
   .simp at e
   .exact kY (by simpa using hl) x h
def uX{us:List Value}(h1:fd.params.posonlyargs=[])(h2:fd.params.args.map (·.arg)=ps)(h3:fd.params.vararg=none)(h4:fd.params.kwonlyargs=[])(h5:fd.params.kwarg=none)
  (h6:fd.defaults=.none) (nd:ps.Nodup) (hl:us.length=ps.length):bindArgs fd ⟨us,[]⟩=pure (ps.zip us):=by
 unfold bindArgs;have e:(List.filter (λn=>((ps.zip us).lookup n).isNone) ps)=[]:=by
  rw [List.filter_eq_nil_iff];intro x hx;rw [kY hl x hx];decide
 have e2:=u0 nd hl;have hs:seqItems? Value.none=pure none:=rfl;have hg : ¬ us.length > ps.length:=by omega
 simp! [h1,h2,h3,h4,h5,h6,List.map_nil,List.nil_append,List.append_nil,List.forIn_nil,pure_bind,hs,Option.getD_none,List.length_nil,Nat.zero_sub,List.drop_nil,Nat.sub_zero,List.take_length,e,List.drop_length,List.zip_nil_right,List.isEmpty_nil,Bool.not_true,Bool.false_eq_true,if_false,decide_eq_false hg,Bool.false_and,e2]
def kZ{b:Addr}{o:Obj}:∀ {l:List Obj} {n:Nat},(B6 n l).lookup b=some o->n<=b/\l[b - n]? = some o/\o.data ≠ .freed
 | [],_,e=>by cases e
 | x :: l,n,e=>by
  have rest:(B6 (n+1) l).lookup b=some o->n<=b/\(x :: l)[b - n]? = some o/\o.data ≠ .freed:=λe=>by
   let ⟨h1,h2,h3⟩:=kZ e;let ⟨k,rfl⟩:=Nat.exists_eq_add_of_le h1;rw [Nat.add_sub_cancel_left] at h2;refine ⟨Hy (Nat.le_succ n) h1,?_,h3⟩;rw [show n+1+k - n=k+1 by omega,List.getElem?_cons_succ]
   exact h2
  unfold B6 at e;split at e
  .exact rest e
  .rename_i hf
   rw [List.lookup_cons] at e;split at e
   .rename_i z
    cases e;have:=eq_of_beq z;subst this;exact ⟨HA _,by rw [Nat.sub_self];rfl,hf⟩
   .exact rest e
def y6(h:Heap):(AZ h).In h:=λb o e=>by
 let ⟨_,h2,h3⟩:=kZ e;rw [Nat.sub_zero,Array.getElem?_toList] at h2;unfold Heap.get?;rw [h2];split
 .rename_i q;cases q;exact absurd rfl h3
 .rfl
def wJ{sc:Scope}(h:DJ N ps sc=true):FnScope N ps sc:=by
 simp! [DJ,Bool.and_eq_true,Bool.not_eq_true',decide_eq_true_eq,List.all_eq_true,Bool.or_eq_true] at h;let ⟨⟨⟨⟨⟨⟨a,b⟩,c⟩,d⟩,e⟩,f⟩,g⟩:=h;exact ⟨a,b,c,d,e,f,g⟩
def BZ(fd:FuncData)(b:List Stmt):Stmt := .FunctionDef fd.name fd.params b [] none [] fd.scope none fd.name ⟨0,0,0,0⟩
def xq{v:Value}(h:FZ v=true):v=.none:=by cases v <;> first | rfl | cases h
def JB:U->V
 | .int i => .int i
 | .bl b => .bl b
 | .str s => .str s
 | _ => .non
def o8{K:Frag}{val:Value}(h:Dq u val=true):RelV (JB u) val /\ ∀ ρ H,RV K ρ H u (JB u):=by
 unfold Dq at h;split at h
 .cases HF h;exact ⟨⟨_,rfl⟩,λ_ _=>rfl⟩
 .exact ⟨rfl,λ_ _=>rfl⟩
 .cases eq_of_beq h;exact ⟨rfl,λ_ _=>rfl⟩
 .cases HF h;exact ⟨⟨_,rfl⟩,λ_ _=>rfl⟩
 .cases h
def k6{K:Frag}:∀ {us:List U} {vals:List Value},Df us vals=true->Vals (us.map JB) vals /\ ∀ ρ H,RVs K ρ H us (us.map JB)
 | [],[],_=>⟨.nil,λ_ _=>rfl⟩
 | [],_ :: _,h=>by cases h
 | _ :: _,[],h=>by cases h
 | u :: us,v :: vs,h=>by
  rw [Df,Bool.and_eq_true] at h;let ⟨a,b⟩:=o8 (K:=K) h.1;let ⟨c,d⟩:=k6 (K:=K) h.2;exact ⟨.cons a c,λρ H=>⟨_,_,rfl,b ρ H,d ρ H⟩⟩
def y8{K:Frag}{val:Value}(h:HX K u val=true):∃ v,RelV v val /\ ∀ ρ H,RV K ρ H u v:=by
 unfold HX at h;split at h
 .split at h
  .rename_i od its n sl ho
   rw [Bool.and_eq_true,decide_eq_true_eq] at h;let ⟨c1,c2⟩:=k6 (K:=K) h.2;exact ⟨.ref _,rfl,λρ H=>⟨_,_,rfl,⟨_,its,n,ho,rfl,rfl,Hy h.1 #[1],c1⟩,c2 ρ H⟩⟩
  .cases h
 .cases h
def k7{K:Frag}{val:Value}(e:Dz K u val=true):∃ v,RelV v val /\ ∀ ρ H,RV K ρ H u v:=by
 unfold Dz at e;rw [Bool.or_eq_true] at e;rcases e with e | e
 .obtain ⟨a,b⟩:=o8 (K:=K) e;exact ⟨_,a,b⟩
 .exact y8 e
def lb{K:Frag}:∀ {ns:List Str} {dd:List (Str×U)} {vals:List Value},dd.map (·.1)=ns->De K (dd.map (·.2)) vals=true -> ∃ ddV,F2 (PR RelV) ddV (ns.zip vals)/\F2 (PR λu v => ∀ ρ H,RV K ρ H u v) dd ddV
 | _,[],[],h,_=>by subst h;exact ⟨[],.nil,.nil⟩
 | _,[],_ :: _,_,h=>by cases h
 | _,_ :: _,[],_,h=>by cases h
 | _,(n,u) :: dd,v :: vs,h,q=>by
  subst h;rw [List.map_cons,De,Bool.and_eq_true] at q;let ⟨w,a,b⟩:=k7 q.1;let ⟨ddV,c,d⟩:=lb (dd:=dd) rfl q.2;exact ⟨(n,w) :: ddV,.cons ⟨rfl,a⟩ c,.cons ⟨rfl,b⟩ d⟩
def ac2{K:Frag}{v:Value}{dsv:List Value}(h:Ei K v=some dsv)(M:Model)(hp:Heap)(X:K.In hp):∃ od:Option (Array Value),(od.getD #[]).toList=dsv/\Looks M hp (seqItems? v) od:=by
 unfold Ei at h;split at h
 .cases h;exact ⟨none,rfl,.of_pure rfl⟩
 .split at h
  .rename_i its _ _ ho
   cases h;exact ⟨some its,rfl,λA Q E s k q=>wpAny_seqItems (k _ _ (X _ _ ho)) rfl q⟩
  .cases h
 .cases h
def ado{K:Frag}{v:Value}{n:Str}{u:Value}(h:BK K v n=some u):∃ d,v=.ref d/\nsIn K d n=some (some u):=by
 unfold BK at h;split at h
 .split at h
  .rename_i q;cases h;exact ⟨_,rfl,q⟩
  .cases h
 .cases h
def jJ{α β:Type}:∀ {l l':List α} {m m':List β},l.length=m.length->(l++l').zip (m++m')=l.zip m++l'.zip m'
 | [],_,[],_,_=>rfl
 | [],_,_ :: _,_,h=>by simp at h
 | _ :: _,_,[],_,h=>by simp at h
 | a :: l,l',b :: m,m',h=>by simp [jJ (l:=l) (m:=m) (by simpa using h)]
def ac9{K:Frag}{F:KF}{nd:Nat}(h:HY K fd F nd=true):∃ ddV dd,KFok K fd F nd ddV dd:=by
 simp! [HY,Bool.and_eq_true,decide_eq_true_eq,List.isEmpty_iff,Option.isNone_iff_eq_none,List.all_eq_true] at h;let ⟨⟨⟨⟨⟨⟨⟨⟨p1,p2⟩,p3⟩,p4⟩,p5⟩,p6⟩,p7⟩,p8⟩,p9⟩:=h;split at p9
 .rename_i dsv hds
  rw [Bool.and_eq_true,decide_eq_true_eq] at p9;let ⟨l1,q⟩:=p9;let ⟨ddV,c1,c2⟩:=lb (K:=K) p8 q;refine ⟨ddV,_,p1,p2,p3,p4,p5,⟨dsv,λn=>(BK K fd.kwdefaults n).getD .none,λM h X=>ac2 hds M h X,l1,p6,λn hn => ?_,rfl⟩,?_,c2⟩
  .have:=p7 n hn
   cases e:BK K fd.kwdefaults n with
   | none=>rw [e] at this;cases this
   | some u=>exact ado (by show _=some (Option.getD _ _);rw [e];rfl)
  .rw [jJ (by rw [List.length_drop,l1];omega)] at c1
   have:F.ks.zip (F.ks.map λn=>(BK K fd.kwdefaults n).getD .none)=F.ks.map λn=>(n,(BK K fd.kwdefaults n).getD .none):=by
    generalize F.ks=l
    induction l with
    | nil=>rfl
    | cons a l ih=>simp [ih]
   rw [this] at c1;exact c1
 .cases p9
def acG{K:Frag}(X:K.In h)(G:h.Ns mainGlobals mg)(e:HZ K (x,u)=true):∃ v val,mg x=some val/\RelV v val /\ ∀ ρ H,RV K ρ H u v:=by
 unfold HZ at e;split at e
 .rename_i val hv
  have hm:mg x=some val:=mg_of X G hv;let ⟨v,a,b⟩:=k7 e;exact ⟨v,val,hm,a,b⟩
 .cases e
def gQ{K:Frag}{C:Addr}(h:CP K C=true):Cls K C:=by
 simp! [CP,Bool.and_eq_true,beq_iff_eq] at h;let ⟨⟨⟨a,b⟩,c⟩,d⟩:=h;exact ⟨a,b,c,d⟩
def B2(T:Tab)(K:Frag)(i:Inf):Option Fn:=mkF T (i,BN K i)
def wb{T:Tab}{i:Inf}{o:Option (Scope×List Stmt)}{F:Fn}(h:mkF T (i,o)=some F):∃ r,o=some r/\(Ad (r.2.map (BB T r.1 i.N 60))).map (λb'=>(⟨i.ps.length,i.N.length,b'⟩:Fn))=some F:=by
 cases o with
 | none=>cases h
 | some r=>exact ⟨r,rfl,h⟩
def qh{K:Frag}(X:K.In h)(G:h.Ns mainGlobals mg){i:Inf}{fi:FI}(hx:fi.x=i.x)(hc:fi.cm=i.cm)(e:Eb K i=some a):FAt K mg fi a:=by
 unfold FAt;rw [hc,hx];unfold Eb at e;split at e
 .rename_i h0
  try rw [h0]
  split at e
  .rename_i h1;cases e;exact mg_of X G h1
  .cases e
 .rename_i c h0
  try rw [h0]
  split at e
  .rename_i C h1
   split at e
   .rename_i a' h2
    split at e
    .rename_i hb
     cases e;simp! [Bool.and_eq_true,Bool.or_eq_true,Bool.not_eq_true',decide_eq_false_iff_not] at hb;let ⟨⟨⟨b1,b2⟩,b3⟩,b4⟩:=hb;refine ⟨C,mg_of X G h1,h1,gQ b1,⟨h2,b2,b3⟩,λhi => ?_⟩;rcases b4 with z | ⟨z1,z2⟩
     .exact absurd hi z
     .rw [hi] at h2;exact ⟨z1,h2,b2,z2⟩
    .cases e
   .cases e
  .cases e
def Plain(K:Frag)(mg:Str->Option Value)(i:Inf)(fi:FI):Prop :=
 i.kf=none ->
 i.cm=none -> ∀ f fd,mg fi.x=some (.ref f)->FunD K fi.nm fi.x fi.st f fd -> ∀ us:List Value,us.length=i.ps.length->bindArgs fd ⟨us,[]⟩=pure (i.ps.zip us)
def zd{T:Tab}{K:Frag}{i:Inf}{F:Fn}(X:K.In h)(G:h.Ns mainGlobals mg)(e:B2 T K i=some F):
  ∃ fi:FI,fi.x=i.x/\fi.ps=i.ps/\fi.cm=i.cm /\
  fi.kf=i.kf /\
  FOk T K mg fi F/\Plain K mg i fi:=by
 unfold B2 at e;let ⟨r,hr,e⟩:=wb e;unfold BN at hr;split at hr
 .rename_i a h1
  split at hr
  .rename_i JV od fd sl h2
   split at hr
   .rename_i b hb
    split at hr
    .rename_i hc
     cases hr;simp! [Bool.and_eq_true] at hc;let ⟨⟨⟨⟨c1,c2⟩,c3⟩,c4⟩,c5⟩:=hc;have sc:=wJ c2;simp! [FO,Bool.and_eq_true,decide_eq_true_eq,beq_iff_eq,List.isEmpty_iff] at c1;let ⟨⟨⟨⟨d1,J3⟩,d3⟩,d4⟩,d6⟩:=c1;let ⟨b',hb',rfl⟩:=Option.map_eq_some_iff.mp e;have hps:i.ps.Nodup:=by rw [<-sc.pre];exact sc.nd.sublist (List.take_sublist _ _)
     have hfd:fd=fnOf i.nm i.x (Cs (BZ fd b)) (Cr (BZ fd b)) (Bk (BZ fd b)) fd.defaults fd.kwdefaults fd.doc fd.pyModule fd.annotations fd.code fd.closureTuple:=by
      let ⟨n,q,pa,bo,scp,gl,cl,de,kw,dc,pm,an,cd,ct,bu⟩:=fd;simp! [BZ,Cs,Cr,Bk] at *;subst d1;subst J3;subst d3;subst d4;subst d6;subst hb
      rfl
     have hpl:i.kf=none -> ∀ us:List Value,us.length=i.ps.length->bindArgs fd ⟨us,[]⟩=pure (i.ps.zip us):=λhz us hl=>by
      unfold D4 at c3;rw [hz] at c3;simp! [FL,Bool.and_eq_true,decide_eq_true_eq,List.isEmpty_iff,Option.isNone_iff_eq_none] at c3;let ⟨⟨⟨⟨⟨p1,p2⟩,p3⟩,p4⟩,p5⟩,p6⟩:=c3;exact uX p1 p2 p3 p4 p5 (xq p6) hps hl
     have hnm:(⟨i.x,BZ fd b,i.N,i.ps,i.cm,i.kf⟩:FI).nm=i.nm:=rfl;refine ⟨⟨i.x,BZ fd b,i.N,i.ps,i.cm,i.kf⟩,rfl,rfl,rfl,rfl,⟨sc,rfl,rfl,⟨60,hb'⟩,a,fd,qh X G rfl rfl h1,⟨⟨JV,od,fd.defaults,fd.kwdefaults,fd.doc,fd.pyModule,fd.annotations,fd.code,fd.closureTuple,sl,by rw [hnm];exact hfd,h2,c4⟩,c5⟩,λhz => .all λus hl=>hpl hz us hl,λF nd hz => ?_⟩,λhz hcm f fd' hf hF us hl => ?_⟩
     .have hz:i.kf=some (F,nd):=hz
      unfold D4 at c3;rw [hz] at c3;simp! [Bool.and_eq_true,decide_eq_true_eq,Bool.not_eq_true',List.isEmpty_eq_false_iff] at c3;let ⟨⟨g1,g2⟩,g3⟩:=c3;exact ⟨g1,by rw [<-g1];exact g2,ac9 g3⟩
     .have hat:FAt K mg ⟨i.x,BZ fd b,i.N,i.ps,i.cm,i.kf⟩ a:=qh X G rfl rfl h1
      unfold FAt at hat;dsimp only at hat;rw [hcm] at hat;have hf:mg i.x=some (.ref f):=hf;rw [show mg i.x=some (.ref a) from hat] at hf;cases hf;let ⟨oc',od',dV,Ic,doc,pm,an,cdv,ct,osl,_,lk,_⟩:=hF.ex;rw [h2] at lk;cases lk;exact hpl hz us hl
    .cases hr
   .cases hr
  .cases hr
 .cases hr
def acF{K:Frag}{f:Str}{cs:List Nat}(h:H8 K (f,cs)=true):Cg K f cs:=λc hc=>by
 have:=List.all_eq_true.mp h c (List.contains_iff_mem.mp hc);dsimp only at this;split at this
 .rename_i C h1
  rw [Bool.and_eq_true,beq_iff_eq] at this;exact ⟨C,h1,gQ this.1,this.2⟩
 .cases this
def acA{K:Frag}(X:K.In h)(G:h.Ns mainGlobals mg){p:Str×Nat}(e:H9 K p=true):∃ C,mg p.1=some (.ref C)/\nsIn K mainGlobals (As p.2)=some #[24]/\Cls K C/\OwnCl K C:=by
 unfold H9 at e;split at e
 .rename_i C hv
  simp! [Bool.and_eq_true,decide_eq_true_eq,FX,beq_iff_eq] at e;let ⟨⟨e1,e2⟩,⟨⟨⟨⟨⟨⟨Kk,o2⟩,o3⟩,o4⟩,o5⟩,o6⟩,o7⟩⟩:=e;exact ⟨C,mg_of X G hv,by rw [e1];exact hv,gQ e2,⟨Kk,o2,o3,o4,o5,o6,o7⟩⟩
 .cases e
noncomputable def Inf.tn(i:Inf):Str:=if i.cm.isSome || i.kf.isSome then "__debug__" else i.x
def allFrom(T:Tab)(K:Frag)(is:List Inf):Option (List Fn):=if T.bt.all (λx=>(nsIn K mainGlobals x).any Option.isNone) && T.cs.all (HZ K) && T.fl.all (H8 K) && is.all (λi=>i.cm.all λc=>BL c.1) && T.ow.all (H9 K) then Ad (is.map (B2 T K)) else none
def jF{T:Tab}{K:Frag}{h:Heap}{mg:Str->Option Value}(X:K.In h)(G:h.Ns mainGlobals mg):∀ {is:List Inf} {fns:List Fn},Ad (is.map (B2 T K))=some fns ->
  ∃ fis:List FI,fis.map FI.tn=is.map Inf.tn/\AllOk T K mg fis fns /\ ∀ (j:Nat) (i:Inf),is[j]? = some i -> ∃ fi,fis[j]? = some fi/\fi.x=i.x/\fi.ps=i.ps/\fi.cm=i.cm /\
   fi.kf=i.kf /\
   Plain K mg i fi
 | [],fns,e=>by cases e;exact ⟨[],rfl,trivial,λj i h=>by simp at h⟩
 | i :: is,fns,e=>by
  rw [List.map_cons] at e;cases q:B2 T K i with
  | none=>rw [q] at e;cases e
  | some F =>
   rw [q] at e;let ⟨r,e',rfl⟩:=Option.map_eq_some_iff.mp e;let ⟨fis,a,b,c⟩:=jF X G e';let ⟨fi,f1,f2,f3,f4,f5,f6⟩:=zd X G q;refine ⟨fi :: fis,by simp [a,FI.tn,Inf.tn,f1,f3,f4],⟨f5,b⟩,λj k h => ?_⟩
   cases j with
   | zero=>simp at h;subst h;exact ⟨fi,rfl,f1,f2,f3,f4,f6⟩
   | succ j=>exact c j k (by simpa using h)
def mem_zipIdx'{p:Inf×Nat}(h:p∈is.zipIdx):is[p.2]? = some p.1:=by
 let ⟨i,k⟩:=p;have:=List.mem_zipIdx h;simp! [Nat.zero_add,Nat.sub_zero] at this;exact List.getElem?_eq_some_iff.mpr ⟨by omega,this.2.2.symm⟩
def Fs(T:Tab)(is:List Inf)(fns:List Fn)(h:Heap):Prop := ∃ K:Frag,K.In h/\allFrom T K is=some fns
def vK{T:Tab}{ms:List Str}{fns:List Fn}{K:Frag}(hn:T.fns=is.map Inf.tn)(hk:T.kf=DG is)(hcl:T.cl=DE is)(hmt:T.mt=C3 is ms)(X:K.In h)(e:allFrom T K is=some fns)(G:h.Ns mainGlobals mg):
  ∃ fis:List FI,PgOk T K mg fis fns /\ ∀ (j:Nat) (i:Inf),is[j]? = some i -> ∃ fi,fis[j]? = some fi/\fi.x=i.x/\fi.ps=i.ps/\fi.cm=i.cm /\
   fi.kf=i.kf /\
   Plain K mg i fi:=by
 unfold allFrom at e;split at e
 .rename_i hb
  simp! [Bool.and_eq_true] at hb;let ⟨⟨⟨⟨hb,hcs⟩,hfl⟩,hnm⟩,how⟩:=hb;let ⟨fis,a,b,c⟩:=jF X G e;have nm:∀ i∈is,∀ cm,i.cm=some cm->As (A7 cm.1)=cm.1:=λi hi cm hc=>by
   have:=List.all_eq_true.mp hnm i hi;rw [hc] at this;exact (cW this).1
  refine ⟨fis,⟨hn.trans a.symm,b,λx u h=>acG X G (List.all_eq_true.mp hcs (x,u) (mem_of_lookup h)),λx hx => ?_,λy i F nd hy => ?_,λy cc i F nd hy => ?_,λm l hl cc i F nd hmem => ?_,⟨λf cs h=>acF (List.all_eq_true.mp hfl (f,cs) (mem_of_lookup h)),λp hp=>acA X G (List.all_eq_true.mp how p hp)⟩⟩,c⟩
  .have:=List.all_eq_true.mp hb x hx
   cases q:nsIn K mainGlobals x with
   | none=>rw [q] at this;cases this
   | some v =>
    cases v with
    | some v=>rw [q] at this;cases this
    | none=>exact mg_none_of X G q
  .rw [hk] at hy
   let ⟨p,hp,hq⟩:=List.mem_filterMap.mp (mem_of_lookup hy);split at hq
   .rename_i k h1 h2
    cases hq;let ⟨fi,f1,f2,_,f3,f4,_⟩:=c _ _ (mem_zipIdx' hp);exact ⟨fi,f1,f2,f3.trans h1,f4.trans h2⟩
   .cases hq
  .rw [hcl] at hy
   let ⟨p,hp,hq⟩:=List.mem_filterMap.mp (mem_of_lookup hy);split at hq
   .rename_i cm k h1 h2
    split at hq
    .rename_i hi
     cases hq;have hz:=mem_zipIdx' hp;let ⟨fi,f1,f2,_,f3,f4,_⟩:=c _ _ hz;refine ⟨nm _ (List.mem_of_getElem? hz) _ h1,fi,f1,?_,f4.trans h2⟩;rw [f3,h1,<-hi]
    .cases hq
   .cases hq
  .rw [hmt] at hl
   let ⟨m',hm',hq⟩:=List.mem_map.mp (mem_of_lookup hl);cases hq;let ⟨p,hp,hq⟩:=List.mem_filterMap.mp hmem;split at hq
   .rename_i cm k h1 h2
    split at hq
    .rename_i hi
     cases hq;have hz:=mem_zipIdx' hp;let ⟨fi,f1,f2,_,f3,f4,_⟩:=c _ _ hz;refine ⟨fi,f1,?_,f4.trans h2⟩;rw [f3,h1,nm _ (List.mem_of_getElem? hz) _ h1,<-hi]
    .cases hq
   .cases hq
 .cases e
def acu{l:OpenLaw}{q:Program}{loose:List Str}{XP:(Str->Option Value)->Heap->Prop}{dr:DefRec}{T:Tab}{ms:List Str}{fns:List Fn}
  (hn:l.most=some 63) (hdf:dr.params.defaults=[]) (hr:Room (2*d+2) callerA) (hnm:T.fns=is.map Inf.tn) (hk:T.kf=DG is) (hcl:T.cl=DE is) (hmt:T.mt=C3 is ms) (hi:is[i]? = some ⟨dr.name,N,[x],none,none⟩)
  (hrun:∀ ns:List Int,ns.length<=63 -> ∃ fu g',Aa fns fu d i [.fro #[32]] []=.ok (.bl true) g') :
  WalkO q loose XP (λ_ h=>Fs T is fns h) l.row.toRowW dr [] (λf vs=>PySem.call f vs):=by
 refine Att.attach_call hn hdf λw s₀ s₁ mg mb fa o pm cd doc a vs ns G Y ho hd hcd hmg hobj hints hlen hg => ?_;let ⟨K,KX,hK⟩:=Y;let ⟨fis,PG,hf⟩:=vK hnm hk hcl hmt KX hK G.T.g;let ⟨fi,e1,e2,e3,e5,e6,e4⟩:=hf i _ hi;let ⟨Fi,ei,O⟩:=PG.all.get e1;let ⟨f,fd,m1,m2,m3⟩:=O.obj;unfold FAt at m1;rw [e5] at m1;have m1':mg fi.x=some (.ref f):=m1;have m1:=m1';rw [e2,hmg] at m1;cases m1;refine v7 (CX:=CX0) (k:=2*d+2) (x:=x) (fd:=fd) (sp:=spI K fns d i 1) KX G.T.g G.T.b G.T.builtins G.T.nolimit hg hobj hints (Hy hlen #[1]) hr (λbase kb nb => ?_) (λs u => ?_) (λH hO hS => ?_) λH e s' z=>z
 .have:=ox (P:=l.prog) (w:=w) (base:=base) PG d i fi e1 fa fd m2
  rw [e3] at this;exact this
 .exact .of_eq (e4 rfl rfl fa fd m1' m2 [u] rfl)
 .obtain ⟨fu,g',e⟩:=hrun ns hlen
  exact aaw hO hS e
open PySem PySem.Spec PyProof.Rows L2 PySem.W PySem.Calls
noncomputable section
def yA(p:Program)(w:World)(N:Nat):openEnds treeTable p w N=endsF p w N:=by
 unfold openEnds fencedOpening topFrom endsF GQ;rw [Fast.te10274390034422433532,Fast.te14364793385576792824,Fast.te1435165496053646825,Fast.te14289696077712309145,Fast.te14082659384304107361]
 rfl
def Bs(p:Program):DefRec:=match p.main.body.getD (p.main.body.length - 1) (.Pass ⟨0,0,0,0⟩) with
 | .FunctionDef n a b _ _ _ sc _ _ ps=>⟨n,a,b,sc,ps⟩
 | _=>⟨"",Cs (.Pass ⟨0,0,0,0⟩),[],Bk (.Pass ⟨0,0,0,0⟩),⟨0,0,0,0⟩⟩
def abL{γ:Type}{o:Option α}{f:α->β}{g:α->γ}{a:β}{b:γ}(h:o.map (λs=>(f s,g s))=some (a,b)):o.map f=some a:=by
 cases o with
 | none=>cases h
 | some s=>cases h;rfl
def aao{γ:Type}{o:Option α}{f:α->β}{g:α->γ}{a:β}{b:γ}(h:o.map (λs=>(f s,g s))=some (a,b)):o.map g=some b:=by
 cases o with
 | none=>cases h
 | some s=>cases h;rfl
def lG{α β:Type}{f:α->Option β}:∀ {l m:List α} {a b:List β},Ad (l.map f)=some a->Ad (m.map f)=some b->Ad ((l++m).map f)=some (a++b)
 | [],m,a,b,h1,h2=>by cases h1;exact h2
 | x :: l,m,a,b,h1,h2=>by
  rw [List.map_cons] at h1;rw [List.cons_append,List.map_cons];cases hx:f x with
  | none=>rw [hx] at h1;cases h1
  | some y =>
   rw [hx] at h1;cases hl:Ad (l.map f) with
   | none=>simp! [Ad,hl] at h1;cases h1
   | some ys =>
    have ih:=lG hl h2;simp! [Ad,hl] at h1;simp! [Ad,ih];cases h1
    rfl
def dR{f:α->Option β}{l:List α}{m:List β}{k c:Nat}(h1:Ad ((l.take k).map f)=some (m.take k))(h2:Ad (((l.drop k).take c).map f)=some ((m.drop k).take c)):Ad ((l.take (k+c)).map f)=some (m.take (k+c)):=by
 rw [List.take_add,List.take_add];exact lG h1 h2
def wK{o:Option Shared}{k c:Nat}(h1:o.map (λs=>(is.take k).map (BN (AZ s.heap)))=some (rs.take k))(h2:o.map (λs=>((is.drop k).take c).map (BN (AZ s.heap)))=some ((rs.drop k).take c)):o.map (λs=>(is.take (k+c)).map (BN (AZ s.heap)))=some (rs.take (k+c)):=by
 cases o with
 | none=>cases h1
 | some s =>
  simp! [Option.map_some,Option.some.injEq] at h1 h2 ⊢;rw [List.take_add,List.take_add,List.map_append,h1,h2]
def abe{o:Option Shared}{f:Shared->β}{b:β}{T:Tab}{fns:List Fn}{k:Nat}(ha:o.map (λs=>Ea T (AZ s.heap) is)=some true)(hg:o.map f=some b)
  (hr:o.map (λs=>(is.take k).map (BN (AZ s.heap)))=some (rs.take k)) (h:Ad (((is.zip rs).take k).map (mkF T))=some (fns.take k)) (h1:is.length<=k) (h2:fns.length<=k) (h3:rs.length<=k):o.map (λs=>(f s,allFrom T (AZ s.heap) is))=some (b,some fns):=by
 rw [List.take_of_length_le (Hy (List.length_zip ▸ Nat.min_le_left _ _) h1),List.take_of_length_le h2] at h;rw [List.take_of_length_le h1,List.take_of_length_le h3] at hr;cases o with
 | none=>cases ha
 | some s =>
  simp! [Option.map_some,Option.some.injEq,Prod.mk.injEq] at ha hg hr ⊢;refine ⟨hg,?_⟩;unfold allFrom;unfold Ea at ha;rw [if_pos ha,<-h];congr 1;rw [<-hr];generalize is=l
  induction l with
  | nil=>rfl
  | cons i l ih=>rw [List.map_cons,List.map_cons,List.zip_cons_cons,List.map_cons,ih,B2]
def aai{l:OpenLaw}{T:Tab}{ms:List Str}{fns:List Fn}{loose N0:List Str}{N:Nat}
  (said:Fast.tw9446332074065402090 l=true)
  (hl:∀ w,(endsF l.prog w N).map (λs=>(Fast.tw4187177175401517315 (lastOf l.prog) loose (importedModules l.prog.main.body) (λ_=>true) true s,allFrom T (AZ s.heap) is))=some (openGood (lastOf l.prog) loose,some fns))
  (h1:defOf (lastOf l.prog) l.name=some (Bs l.prog,[])) (h2:l.prog.theDef l.name=some ((Bs l.prog).params,(Bs l.prog).body,(Bs l.prog).scope)) (h3:kwWritten? (Bs l.prog).params.kwonlyargs (Bs l.prog).params.kw_defaults=some [])
  (h4:(Bs l.prog).params.defaults=[])
  (ok:(chainsOk (lastOf l.prog) && opensWell l.prog && (frees l.row.toRowW && l.row.within.isEmpty))=true) (hb:l.prog.bare) (hw:l.row.toRowW.promised)
  (hn:l.most=some 63) (hr:Room (2*d+2) callerA) (hnm:T.fns=is.map Inf.tn) (hk:T.kf=DG is) (hcl:T.cl=DE is) (hmt:T.mt=C3 is ms) (hi:is[i]? = some ⟨(Bs l.prog).name,N0,[x],none,none⟩)
  (hrun:∀ ns:List Int,ns.length<=63 -> ∃ fu g',Aa fns fu d i [.fro #[32]] []=.ok (.bl true) g'):l.Holds:=by
 have sd:l.wellSaid=true:=by rw [Fast.te9446332074065402090];exact said
 refine holds_law sd λsaid' => ?_;refine holds_open (r:=l.row) (q:=lastOf l.prog) (loose:=loose) (Xt:=λ_=>true) (XP:=λ_ _=>True) (Yf:=λs=>allFrom T (AZ s.heap) is) (Ya:=λ_=>some fns) (YP:=λ_ h=>Fs T is fns h) (N:=N) (d:=Bs l.prog) (kwd:=[]) ?_
  (λw s e=>⟨AZ s.heap,y6 _,e⟩) (λw h h' ⟨K,k1,k2⟩ hk=>⟨K,k1.keeps hk,k2⟩) (λ_ _=>trivial) (λ_ _ _ _ _=>trivial) h1 h2 h3 (λs _=>recFacts_nil rfl) (by simp [OpenLaw.row]) said' ok hb hw (acu hn h4 hr hnm hk hcl hmt hi hrun)
 intro w;have:=hl w;rw [<-yA,<-Fast.te4187177175401517315] at this;exact this
end
end
end PI
section
open PySem PySem.W PyProof.Rows
def Lk32.all(w:World):#[13].map (λs=>(Fast.tw4187177175401517315 #[15] Lk32.loose (PySem.importedModules #[0]) (λ_=>true) true s,PI.allFrom Lk32.T (PI.AZ s.heap) Lk32.A3))=some (openGood #[15] Lk32.loose,some Lk32.fns):=PI.abe (k:=52) (PI.aao (Lk32.chk0 w)) (PI.abL (Lk32.chk0 w)) (PI.wK (k:=26) (c:=26) (Lk32.chk1 w) (Lk32.chk2 w)) (PI.dR (k:=48) (c:=4) (PI.dR (k:=40) (c:=8) (PI.dR (k:=30) (c:=10) (PI.dR (k:=19) (c:=11) (Lk32.part0) Lk32.part1) Lk32.part2) Lk32.part3) Lk32.part4) #[1] #[1] #[1]
end
variable{W:PI.XQ}{Wf:L2.XK->PI.XQ}
namespace PI
noncomputable section
noncomputable def Out.le{α:Type}(o o':Out α):Prop:=o=.bad\/o=o'
def Out.le.rfl{o:Out α}:o.le o := .inr (Eq.refl _)
def Out.le.bot{o:Out α}:(Out.bad:Out α).le o := .inl (Eq.refl _)
def Out.le.trans{a b c:Out α}(h:a.le b)(k:b.le c):a.le c:=by
 rcases h with rfl | rfl
 .exact .bot
 .exact k
def ah{o o':Out α}{k k':α->G->Out β}(h:o.le o')(hk:∀ a g,(k a g).le (k' a g)):(o.bind k).le (o'.bind k'):=by
 rcases h with rfl | rfl
 .exact .bot
 .cases o with
  | ok a g=>exact hk a g
  | exc c fs g=>exact .rfl
  | bad=>exact .bot
def bg{o o':Out α}{k k':α->G->Out β}(h:o.le o')(hk:∀ a g,(k a g).le (k' a g)):(o.bindB k).le (o'.bindB k'):=by
 rcases h with rfl | rfl
 .exact .bot
 .cases o with
  | ok a g=>exact hk a g
  | exc c fs g=>exact .rfl
  | bad=>exact .bot
def aK{o o':Out α}(h:o.le o'):o.noex.le o'.noex:=by
 rcases h with rfl | rfl
 .exact .bot
 .exact .rfl
def xP{o o':Out U}{c:Nat}{xs:List (Option U)}{σ:Su}(h:o.le o'):(Ef o j c xs σ).le (Ef o' j c xs σ):=by
 rcases h with rfl | rfl
 .exact .bot
 .exact .rfl
abbrev CC:=Nat->List U->G->Out U
structure L.le(r r':L):Prop where
 ev:∀ e σ g,(r.ev e σ g).le (r'.ev e σ g)
 ts:∀ e σ g,(r.ts e σ g).le (r'.ts e σ g)
 ex:∀ e σ g,(r.ex e σ g).le (r'.ex e σ g)
 wh:∀ e b σ g,(r.wh e b σ g).le (r'.wh e b σ g)
 fr:∀ t it i b σ g,(r.fr t it i b σ g).le (r'.fr t it i b σ g)
 cm:∀ it i t cs rest elt acc σ g,(r.cm it i t cs rest elt acc σ g).le (r'.cm it i t cs rest elt acc σ g)
section
variable{C C':CC}{r':L}
def aP{f f':E->Su->G->Out U}(h:∀ e σ g,(f e σ g).le (f' e σ g)):∀ es σ g,(Jh f es σ g).le (Jh f' es σ g)
 | [],_,_ => .rfl
 | e :: es,σ,g=>ah (h e σ g) λ_ _=>ah (aP h es _ _) λ_ _ => .rfl
def qi{f f':E->Su->G->Out U}(h:∀ e σ g,(f e σ g).le (f' e σ g)):∀ e σ g,(Ji f e σ g).le (Ji f' e σ g)
 | none,_,_ => .rfl
 | some e,σ,g=>ah (h e σ g) λ_ _ => .rfl
def eF{f f':E->Su->G->Out Bool}(h:∀ e σ g,(f e σ g).le (f' e σ g)):∀ es σ g,(Ax f es σ g).le (Ax f' es σ g)
 | [],_,_ => .rfl
 | e :: es,σ,g=>ah (h e σ g) λk _=>by
  cases k
  .exact .rfl
  .exact eF h es _ _
local macro_rules | `(tactic| sleep 8) => `(tactic| (repeat (first | exact Out.le.rfl | exact Out.le.bot | assumption | apply L.le.ev | apply L.le.ts | apply L.le.ex | apply L.le.wh | apply L.le.fr | apply L.le.cm | apply aP | apply qi | apply eF | apply ah | apply bg | intro _ | split)))
def cB(h:r.le r')(e:E)(σ:Su)(g:G):(Jk r e σ g).le (Jk r' e σ g):=by
 unfold Jk;split <;> sleep 8
def vO{C C':CC}(hC:∀ f us g,(C f us g).le (C' f us g)){op:Cp}{x y:U}{g:G}:(B1 C op tb x y g).le (B1 C' op tb x y g):=by
 cases op with
 | eq =>
  simp! [B1];cases Ck tb x y g with
  | none=>exact .rfl
  | some p=>exact ah (hC _ _ _) λ_ _ => .rfl
 | ne =>
  simp! [B1];cases Ck tb x y g with
  | none=>exact .rfl
  | some p=>exact ah (hC _ _ _) λ_ _ => .rfl
 | inn =>
  simp! [B1];cases Gd y g with
  | none=>exact .rfl
  | some w =>
   dsimp only;split
   .cases Ck tb w x g with
    | none=>exact .rfl
    | some p=>exact ah (hC _ _ _) λ_ _ => .rfl
   .exact .rfl
 | _=>exact .rfl
def gO(hC:∀ f us g,(C f us g).le (C' f us g))(h:r.le r')(e:E)(σ:Su)(g:G):(Jm C r e σ g).le (Jm C' r' e σ g):=by
 cases e with
 | call f es=>exact ah (aK (aP h.ev _ _ _)) λus g=>hC f us g
 | oeq op tb a b=>exact ah (h.ev _ _ _) λx g=>ah (h.ev _ _ _) λy g=>vO hC
 | callk f es ks pm =>
  refine ah (aK (aP h.ev _ _ _)) λus g=>ah (aK (aP h.ev _ _ _)) λws g => ?_;split
  .exact hC _ _ _
  .exact .rfl
 | make c f es ks pm =>
  refine ah (aK (aP h.ev _ _ _)) λus g=>ah (aK (aP h.ev _ _ _)) λws g => ?_;split
  .exact ah (hC _ _ _) λu g => .rfl
  .exact .rfl
 | meth a j tb es ks =>
  refine ah (aK (h.ev _ _ _)) λx g => ?_;split
  .refine ah (aK (aP h.ev _ _ _)) λus g=>ah (aK (aP h.ev _ _ _)) λws g => ?_
   split
   .exact hC _ _ _
   .exact .rfl
  .exact .rfl
 | comp own fr gs elt =>
  cases gs with
  | nil=>exact .rfl
  | cons t rest =>
   let ⟨t,it,cs⟩:=t;exact ah (cB h _ _ _) λi g=>bg (h.cm _ _ _ _ _ _ _ _ _) λ_ _ => .rfl
 | dcmp own fr gs k v =>
  cases gs with
  | nil=>exact .rfl
  | cons t rest =>
   let ⟨t,it,cs⟩:=t;exact ah (cB h _ _ _) λi g=>bg (h.cm _ _ _ _ _ _ _ _ _) λ_ _ => .rfl
 | dgt o k x =>
  refine ah (h.ev _ _ _) λx g => ?_;split
  .exact ah (h.ev _ _ _) λ_ g=>ah (h.ev _ _ _) λ_ g => .rfl
  .exact .rfl
 | _=>delta Jm;dsimp only;sleep 8
def gT(h:r.le r')(e:E)(σ:Su)(g:G):(Jn r e σ g).le (Jn r' e σ g):=by
 unfold Jn;split <;> sleep 8
def nM(h:r.le r')(s:S)(σ:Su)(g:G):(Jp r s σ g).le (Jp r' s σ g):=by
 cases s with
 | «for» t it b=>exact ah (cB h _ _ _) λi g=>h.fr _ _ _ _ _ _
 | nox b=>exact aK (h.ex _ _ _)
 | ifx c a b=>exact ah (aK (h.ts _ _ _)) λk g=>by cases k <;> exact h.ex _ _ _
 | forx t it b=>exact ah (aK (cB h _ _ _)) λi g=>h.fr _ _ _ _ _ _
 | raise c es=>exact ah (aK (aP h.ev _ _ _)) λus g => .rfl
 | tryf j f es c xs=>exact xP (h.ev _ _ _)
 | _=>delta Jp;dsimp only;sleep 8
def gF(h:r.le r')(ss:List S)(σ:Su)(g:G):(Jq r ss σ g).le (Jq r' ss σ g):=by
 cases ss with
 | nil=>exact .rfl
 | cons s rest=>exact ah (nM h _ _ _) λf g=>by cases f <;> sleep 8
def gR(h:r.le r')(c:E)(b:List S)(σ:Su)(g:G):(Jr r c b σ g).le (Jr r' c b σ g):=by
 unfold Jr;sleep 8
def gH(h:r.le r')(t:Tg)(it:Iter)(i:Nat)(b:List S)(σ:Su)(g:G):(Js r t it i b σ g).le (Js r' t it i b σ g):=by
 unfold Js;sleep 8
def gU(h:r.le r')(it:Iter)(i:Nat)(t:Tg)(cs:List E)(rest:List (Tg×E×List E))(elt:E)(acc:List U)(σ:Su)(g:G):(Jt r it i t cs rest elt acc σ g).le (Jt r' it i t cs rest elt acc σ g):=by
 unfold Jt;split
 .sleep 8
 .sleep 8
 .split
  .split
   .sleep 8
   .refine bg (eF h.ts _ _ _) λk g => ?_
    split
    .cases rest with
     | nil=>exact bg (h.ev _ _ _) λv g=>by sleep 8
     | cons t rest =>
      let ⟨t2,it2,cs2⟩:=t;exact bg (cB h _ _ _) λj g=>bg (h.cm _ _ _ _ _ _ _ _ _) λ_ _=>h.cm _ _ _ _ _ _ _ _ _
    .sleep 8
  .sleep 8
def aB(hC:∀ f us g,(C f us g).le (C' f us g)):∀ {m n:Nat},m<=n->(Ju C m).le (Ju C' n)
 | 0,n,_=>⟨λ_ _ _ => .bot,λ_ _ _ => .bot,λ_ _ _ => .bot,λ_ _ _ _ => .bot,λ_ _ _ _ _ _ => .bot,λ_ _ _ _ _ _ _ _ _ => .bot⟩
 | m+1,0,h=>absurd h ()
 | m+1,n+1,h=>by
  have ih:=aB hC (m:=m) (n:=n) ()
  exact ⟨gO hC ih,gT ih,gF ih,gR ih,gH ih,gU ih⟩
def yN(hC:∀ f us g,(C f us g).le (C' f us g))(h:m<=n)(F:Fn)(us:List U)(g:G):(BM m C F us g).le (BM n C' F us g):=by
 unfold BM;split
 .exact ah ((aB hC h).ex _ _ _) λf g => .rfl
 .exact .rfl
def fP{fns:List Fn}{m n:Nat}(h:m<=n):∀ (d f:Nat) (us:List U) (g:G),(Aa fns m d f us g).le (Aa fns n d f us g)
 | 0,_,_,_ => .rfl
 | d+1,f,us,g=>by
  simp! [Aa];split
  .exact yN (fP h d) h _ _ _
  .exact .rfl
end
abbrev XP:=Nat->List U->G->Prop
def holds{α:Type}(o:Out α)(X:XP)(Q:α->G->Prop):Prop:=match o with
 | .ok a g=>Q a g
 | .exc c fs g=>X c fs g
 | .bad=>False
def wp{α:Type}(f:Nat->Out α)(X:XP)(Q:α->G->Prop):Prop := ∃ n,holds (f n) X Q
def Av{α:Type}(f:Nat->Out α):Prop := ∀ m n,m<=n->(f m).le (f n)
section
variable{f f':Nat->Out α}{k k':Nat->α->G->Out β}{X:XP}{Q:α->G->Prop}{R:β->G->Prop}
def eC{o o':Out α}(h:o.le o')(q:holds o X Q):holds o' X Q:=by
 rcases h with rfl | rfl
 .exact q.elim
 .exact q
def fB{o:Out α}{k:α->G->Out β}:holds (o.bind k) X R ↔ holds o X λa g=>holds (k a g) X R:=by cases o <;> exact Iff.rfl
def iF{o:Out α}{k:α->G->Out β}:holds (o.bindB k) X R ↔ holds o (λ_ _ _=>False) λa g=>holds (k a g) X R:=by cases o <;> exact Iff.rfl
def ft{o:Out α}{Q':α->G->Prop}(h:∀ a g,Q a g->Q' a g)(q:holds o X Q):holds o X Q':=by
 cases o with
 | ok a g=>exact h a g q
 | exc c fs g=>exact q
 | bad=>exact q
def wp_mono{Q':α->G->Prop}(q:wp f X Q)(h:∀ a g,Q a g->Q' a g):wp f X Q':=let ⟨n,z⟩:=q;⟨n,ft h z⟩
def ab{o:Out α}:wp (λ_=>o) X Q ↔ holds o X Q:=⟨λ⟨_,h⟩=>h,λh=>⟨0,h⟩⟩
def wp_bind(hf:Av f)(hk:∀ a g,Av λn=>k n a g):wp (λn=>(f n).bind (k n)) X R ↔ wp f X λa g=>wp (λn=>k n a g) X R:=by
 constructor
 .rintro ⟨n,h⟩
  rw [fB] at h;exact ⟨n,ft (λa g q=>⟨n,q⟩) h⟩
 .rintro ⟨n,h⟩
  cases e:f n with
  | ok a g =>
   rw [e] at h;let ⟨m,h⟩:=h;refine ⟨max n m,?_⟩;rw [fB];have h1:f (max n m)=.ok a g:=by
    rcases hf n (max n m) (Nat.le_max_left _ _) with z | z
    .rw [e] at z;cases z
    .rw [<-z,e]
   rw [h1];show holds (k (max n m) a g) X R;exact eC (hk a g m (max n m) (Nat.le_max_right _ _)) h
  | exc c fs g=>rw [e] at h;exact ⟨n,by rw [fB,e];exact h⟩
  | bad=>rw [e] at h;exact h.elim
def aA(hf:Av f)(hk:∀ a g,Av λn=>k n a g):wp (λn=>(f n).bindB (k n)) X R ↔ wp f (λ_ _ _=>False) λa g=>wp (λn=>k n a g) X R:=by
 constructor
 .rintro ⟨n,h⟩
  rw [iF] at h;exact ⟨n,ft (λa g q=>⟨n,q⟩) h⟩
 .rintro ⟨n,h⟩
  cases e:f n with
  | ok a g =>
   rw [e] at h;let ⟨m,h⟩:=h;refine ⟨max n m,?_⟩;rw [iF];have h1:f (max n m)=.ok a g:=by
    rcases hf n (max n m) (Nat.le_max_left _ _) with z | z
    .rw [e] at z;cases z
    .rw [<-z,e]
   rw [h1];show holds (k (max n m) a g) X R;exact eC (hk a g m (max n m) (Nat.le_max_right _ _)) h
  | exc c fs g=>rw [e] at h;exact h.elim
  | bad=>rw [e] at h;exact h.elim
def cF(h:∀ n,∃ m,(f n).le (f' m))(h':∀ n,∃ m,(f' n).le (f m)):wp f X Q ↔ wp f' X Q :=
 ⟨λ⟨n,q⟩=>let ⟨m,z⟩:=h n;⟨m,eC z q⟩,λ⟨n,q⟩=>let ⟨m,z⟩:=h' n;⟨m,eC z q⟩⟩
end
section
variable(fns:List Fn)(d:Nat)
abbrev cA(n:Nat):CC:=Aa fns n d
abbrev lv(n:Nat):L:=Ju (Aa fns n d) n
def JC(f:Nat)(us:List U)(g:G)(X:XP)(Q:U->G->Prop):Prop:=wp (λn=>Aa fns n d f us g) X Q
def JD(e:E)(σ:Su)(g:G)(X:XP)(Q:U->G->Prop):Prop:=wp (λn=>#[10].ev e σ g) X Q
def JE(e:E)(σ:Su)(g:G)(X:XP)(Q:Bool->G->Prop):Prop:=wp (λn=>#[10].ts e σ g) X Q
def Am(es:List E)(σ:Su)(g:G)(X:XP)(Q:List U->G->Prop):Prop:=wp (λn=>Jh #[10].ev es σ g) X Q
def JF(e:Option E)(σ:Su)(g:G)(X:XP)(Q:Option Int->G->Prop):Prop:=wp (λn=>Ji #[10].ev e σ g) X Q
def JG(es:List E)(σ:Su)(g:G)(X:XP)(Q:Bool->G->Prop):Prop:=wp (λn=>Ax #[10].ts es σ g) X Q
def JH(e:E)(σ:Su)(g:G)(X:XP)(Q:Iter->G->Prop):Prop:=wp (λn=>Jk #[10] e σ g) X Q
def JI(s:S)(σ:Su)(g:G)(X:XP)(Q:Fl->G->Prop):Prop:=wp (λn=>Jp #[10] s σ g) X Q
def wpS(ss:List S)(σ:Su)(g:G)(X:XP)(Q:Fl->G->Prop):Prop:=wp (λn=>#[10].ex ss σ g) X Q
def JJ(c:E)(b:List S)(σ:Su)(g:G)(X:XP)(Q:Fl->G->Prop):Prop:=wp (λn=>#[10].wh c b σ g) X Q
def JK(t:Tg)(it:Iter)(i:Nat)(b:List S)(σ:Su)(g:G)(X:XP)(Q:Fl->G->Prop):Prop:=wp (λn=>#[10].fr t it i b σ g) X Q
def JL(it:Iter)(i:Nat)(t:Tg)(cs:List E)(rest:List (Tg×E×List E))(elt:E)(acc:List U)(σ:Su)(g:G)(X:XP)(Q:List U->G->Prop):Prop:=wp (λn=>#[10].cm it i t cs rest elt acc σ g) X Q
end
section
variable{fns:List Fn}{X:XP}{σ:Su}
def bw(h:m<=n)(f:Nat)(us:List U)(g:G):(cA fns d m f us g).le (cA fns d n f us g):=fP h d f us g
def aQ(h:m<=n):(lv fns d m).le #[10]:=aB (bw h) h
def mC(f:Nat)(us:List U)(g:G):Av λn=>Aa fns n d f us g:=λ_ _ h=>fP h d f us g
def mE(e:E)(σ:Su)(g:G):Av λn=>#[10].ev e σ g:=λ_ _ h=>(aQ h).ev _ _ _
def mT(e:E)(σ:Su)(g:G):Av λn=>#[10].ts e σ g:=λ_ _ h=>(aQ h).ts _ _ _
def mEs(e:List E)(σ:Su)(g:G):Av λn=>Jh #[10].ev e σ g:=λ_ _ h=>aP (aQ h).ev _ _ _
def mO(e:Option E)(σ:Su)(g:G):Av λn=>Ji #[10].ev e σ g:=λ_ _ h=>qi (aQ h).ev _ _ _
def mA(e:List E)(σ:Su)(g:G):Av λn=>Ax #[10].ts e σ g:=λ_ _ h=>eF (aQ h).ts _ _ _
def mI(e:E)(σ:Su)(g:G):Av λn=>Jk #[10] e σ g:=λ_ _ h=>cB (aQ h) _ _ _
def m1(e:S)(σ:Su)(g:G):Av λn=>Jp #[10] e σ g:=λ_ _ h=>nM (aQ h) _ _ _
def mS(e:List S)(σ:Su)(g:G):Av λn=>#[10].ex e σ g:=λ_ _ h=>(aQ h).ex _ _ _
def mW(e:E)(b:List S)(σ:Su)(g:G):Av λn=>#[10].wh e b σ g:=λ_ _ h=>(aQ h).wh _ _ _ _
def mF(t:Tg)(it:Iter)(i:Nat)(b:List S)(σ:Su)(g:G):Av λn=>#[10].fr t it i b σ g:=λ_ _ h=>(aQ h).fr _ _ _ _ _ _
def mM(it:Iter)(i:Nat)(t:Tg)(cs:List E)(rest:List (Tg×E×List E))(elt:E)(acc:List U)(σ:Su)(g:G):Av λn=>#[10].cm it i t cs rest elt acc σ g:=λ_ _ h=>(aQ h).cm _ _ _ _ _ _ _ _ _
def mK(o:Out α):Av λ_=>o:=λ_ _ _ => .rfl
def mB{f:Nat->Out α}{k:Nat->α->G->Out β}(h:Av f)(hk:∀ a g,Av λn=>k n a g):Av λn=>(f n).bind (k n):=λm n z=>ah (h m n z) λa g=>hk a g m n z
def mBB{f:Nat->Out α}{k:Nat->α->G->Out β}(h:Av f)(hk:∀ a g,Av λn=>k n a g):Av λn=>(f n).bindB (k n):=λm n z=>bg (h m n z) λa g=>hk a g m n z
def ag{e:E}:JD fns d e σ g X Q ↔ wp (λn=>Jm (cA fns d n) #[10] e σ g) X Q :=
 cF (λn=>match n with
  | 0=>⟨0,.bot⟩
  | n+1=>⟨n+1,gO (C:=cA fns d (n+1)) (λ_ _ _ => .rfl) (aB (λ_ _ _ => .rfl) (Nat.le_succ n)) e σ g⟩) λn=>⟨n+1,gO (C:=cA fns d n) (C':=cA fns d (n+1)) (bw (Nat.le_succ n)) #[23] e σ g⟩
def cZ{e:E}{Q:Bool->G->Prop}:JE fns d e σ g X Q ↔ wp (λn=>Jn #[10] e σ g) X Q :=
 cF (λn=>match n with
  | 0=>⟨0,.bot⟩
  | n+1=>⟨n+1,gT (aB (λ_ _ _ => .rfl) (Nat.le_succ n)) e σ g⟩) λn=>⟨n+1,gT #[23] e σ g⟩
def nI{e:List S}{Q:Fl->G->Prop}:wpS fns d e σ g X Q ↔ wp (λn=>Jq #[10] e σ g) X Q :=
 cF (λn=>match n with
  | 0=>⟨0,.bot⟩
  | n+1=>⟨n+1,gF (aB (λ_ _ _ => .rfl) (Nat.le_succ n)) e σ g⟩) λn=>⟨n+1,gF #[23] e σ g⟩
def zt{b:List S}{Q:Fl->G->Prop}:JJ fns d c b σ g X Q ↔ wp (λn=>Jr #[10] c b σ g) X Q :=
 cF (λn=>match n with
  | 0=>⟨0,.bot⟩
  | n+1=>⟨n+1,gR (aB (λ_ _ _ => .rfl) (Nat.le_succ n)) c b σ g⟩) λn=>⟨n+1,gR #[23] c b σ g⟩
def aaW{t:Tg}{b:List S}{Q:Fl->G->Prop}:JK fns d t it i b σ g X Q ↔ wp (λn=>Js #[10] t it i b σ g) X Q :=
 cF (λn=>match n with
  | 0=>⟨0,.bot⟩
  | n+1=>⟨n+1,gH (aB (λ_ _ _ => .rfl) (Nat.le_succ n)) t it i b σ g⟩) λn=>⟨n+1,gH #[23] t it i b σ g⟩
def abc{t:Tg}{rest:List (Tg×E×List E)}{Q:List U->G->Prop}:JL fns d it i t cs rest elt acc σ g X Q ↔ wp (λn=>Jt #[10] it i t cs rest elt acc σ g) X Q :=
 cF (λn=>match n with
  | 0=>⟨0,.bot⟩
  | n+1=>⟨n+1,gU (aB (λ_ _ _ => .rfl) (Nat.le_succ n)) it i t cs rest elt acc σ g⟩) λn=>⟨n+1,gU #[23] it i t cs rest elt acc σ g⟩
end
local macro_rules | `(tactic| sleep 9) => `(tactic| (intros; repeat (first | exact mE _ _ _ | exact mT _ _ _ | exact mEs _ _ _ | exact mO _ _ _ | exact mA _ _ _ | exact mI _ _ _ | exact mS _ _ _ | exact mC _ _ _ | exact mW _ _ _ _ | exact mF _ _ _ _ _ _ | exact mM _ _ _ _ _ _ _ _ _ | exact mK _ | apply mB | apply mBB | intro _)))
def wp_congr{f:Nat->Out α}{X:XP}{Q Q':α->G->Prop}(h:∀ a g,Q a g ↔ Q' a g):wp f X Q ↔ wp f X Q':=⟨λq=>wp_mono q λa g=>(h a g).1,λq=>wp_mono q λa g=>(h a g).2⟩
inductive Lk{α:Sort u}(a:α):Type
 | mk:Lk a
@[reducible] def lk{α:Sort u}(a:α):Lk a := .mk
def JM{α:Type}(o:Option α){Q:α->Prop}(_:Lk Q):Prop:=match o with
 | some a=>Q a
 | none=>False
def JN(k:Bool){A B:Prop}(_:Lk A)(_:Lk B):Prop:=match k with
 | true=>A
 | false=>B
def JO(f:Fl){A:Su->Prop}{B:Fl->Prop}(_:Lk A)(_:Lk B):Prop:=match f with
 | .nx σ=>A σ
 | f=>B f
def JP(f:Fl){A:Su->Prop}{B:Fl->Prop}(_:Lk A)(_:Lk B):Prop:=match f with
 | .nx σ=>A σ
 | .ct σ=>A σ
 | .bk σ=>B (.nx σ)
 | .rt u=>B (.rt u)
def JQ(f:Fl){Q:U->Prop}(_:Lk Q):Prop:=match f with
 | .rt u=>Q u
 | .nx _=>Q .non
 | _=>False
def eG{a:α}{Q:α->Prop}:JM (some a) (lk Q)=Q a:=propext Iff.rfl
def hJ{A B:Prop}:JN true (lk A) (lk B)=A:=propext Iff.rfl
def tz{A B:Prop}:JN false (lk A) (lk B)=B:=propext Iff.rfl
def ar{k:Bool}{A B:Prop}(h:k=true->A)(h':k=false->B):JN k (lk A) (lk B):=by cases k;exact h' rfl;exact h rfl
def bQ{k:Bool}{A B:Prop}:(if k=true then A else B) ↔ JN k (lk A) (lk B):=by cases k <;> simp [JN]
def ac7{σ:Su}{A:Su->Prop}:JO (.nx σ) (lk A) (lk B)=A σ:=propext Iff.rfl
def acZ{A:Su->Prop}:JO (.rt u) (lk A) (lk B)=B (.rt u):=propext Iff.rfl
def adh{σ:Su}{A:Su->Prop}:JO (.bk σ) (lk A) (lk B)=B (.bk σ):=propext Iff.rfl
def adi{σ:Su}{A:Su->Prop}:JO (.ct σ) (lk A) (lk B)=B (.ct σ):=propext Iff.rfl
def sN{σ:Su}{A:Su->Prop}:JP (.nx σ) (lk A) (lk B)=A σ:=propext Iff.rfl
def acm{A:Su->Prop}:JP (.rt u) (lk A) (lk B)=B (.rt u):=propext Iff.rfl
def aco{σ:Su}{A:Su->Prop}:JP (.bk σ) (lk A) (lk B)=B (.nx σ):=propext Iff.rfl
def adt{σ:Su}{A:Su->Prop}:JP (.ct σ) (lk A) (lk B)=A σ:=propext Iff.rfl
def sD{Q:U->Prop}:JQ (.rt u) (lk Q)=Q u:=propext Iff.rfl
def acs{σ:Su}{Q:U->Prop}:JQ (.nx σ) (lk Q)=Q .non:=propext Iff.rfl
def aG{o:Option α}{Q:α->Prop}:(∃ a,o=some a/\Q a) ↔ JM o (lk Q):=by
 cases o with
 | none=>exact ⟨λ⟨_,e,_⟩=>(by cases e),λh=>h.elim⟩
 | some a=>exact ⟨λ⟨_,e,h⟩=>(by cases e;exact h),λh=>⟨a,rfl,h⟩⟩
def hk{α:Type}(o:Out α)(X:XP){Q:α->G->Prop}(_:Lk Q):Prop:=holds o X Q
def qx{a:α}{X:XP}{Q:α->G->Prop}:hk (.ok a g) X (lk Q)=Q a g:=propext Iff.rfl
def zQ{c:Nat}{fs:List U}{X:XP}{Q:α->G->Prop}:hk (.exc c fs g) X (lk Q)=X c fs g:=propext Iff.rfl
section
variable{fns:List Fn}{X:XP}{σ:Su}
def JR(fns:List Fn)(d f:Nat)(us:List U)(g:G)(X:XP){Q:U->G->Prop}(_:Lk Q):Prop:=JC fns d f us g X Q
def JS(fns:List Fn)(d:Nat)(it:Iter)(i:Nat)(t:Tg)(cs:List E)(rest:List (Tg×E×List E))(elt:E)(acc:List U)(σ:Su)(g:G)(X:XP){Q:List U->G->Prop}(_:Lk Q):Prop:=JL fns d it i t cs rest elt acc σ g X Q
def JT(fns:List Fn)(d:Nat)(t:Tg)(it:Iter)(i:Nat)(b:List S)(σ:Su)(g:G)(X:XP){Q:Fl->G->Prop}(_:Lk Q):Prop:=JK fns d t it i b σ g X Q
def JU(fns:List Fn)(d:Nat)(c:E)(b:List S)(σ:Su)(g:G)(X:XP){Q:Fl->G->Prop}(_:Lk Q):Prop:=JJ fns d c b σ g X Q
def CI(x:U)(l h:Option Int)(g:G):Out U:=match x with
  | .tup xs=>if HT.sIx xs.length 0 l=0/\HT.sIx xs.length xs.length h=xs.length then .bad else .ok (.tup (Be xs l h)) g
  | .fro xs=>alloc (.lst (Be xs l h)) g
  | .ref n=>match g[n]? with
   | some (.lst xs)=>alloc (.lst (Be xs l h)) g
   | _ => .bad
  | _ => .bad
def Bc(n:Nat):Bool := @decide (n<=Ae) (Classical.propDecidable _)
def fZ(h:n<=16777000):Bc n=true:=by unfold Bc;exact @decide_eq_true _ (Classical.propDecidable _) h
def jw:Bc n=true ↔ n<=Ae:=by unfold Bc;exact @decide_eq_true_iff _ (Classical.propDecidable _)
def Cf(x:U)(g:G):Option (List U):=match x with
 | .ref n=>match g[n]? with
  | some (.lst xs)=>some xs
  | _=>none
 | _=>none
def u6{o:Option α}{Q:α->G->Prop}:holds (lift o g) X Q ↔ ∃ a,o=some a/\Q a g:=by
 cases o with
 | none=>exact ⟨λh=>h.elim,λ⟨_,e,_⟩=>by cases e⟩
 | some a=>exact ⟨λh=>⟨a,rfl,h⟩,λ⟨b,e,h⟩=>by cases e;exact h⟩
def cV{o:Option α}{Q:α->G->Prop}:holds (lift o g) X Q ↔ JM o (lk λa=>Q a g):=by cases o <;> exact Iff.rfl
def gh{o:Option Bool}:holds (match o with | some c=>Out.ok (U.bl c) g | none => .bad) X Q ↔ JM o (lk λc=>Q (.bl c) g):=by cases o <;> exact Iff.rfl
def ee{o:Option α}{Q Q':α->Prop}(h:∀ a,Q a ↔ Q' a):JM o (lk Q) ↔ JM o (lk Q'):=by
 cases o with
 | none=>exact Iff.rfl
 | some a=>exact h a
def optN{o:Option Nat}{f:Nat->Nat->Out α}{Q:α->G->Prop}:wp (λn=>match o with | some k=>f n k | none => .bad) X Q ↔ JM o (lk λk=>wp (λn=>f n k) X Q):=by
 cases o with
 | none=>exact ab
 | some a=>exact Iff.rfl
def qA:holds (if n<=Ae then Out.ok u g' else .bad) X Q ↔ JN (Bc n) (lk (Q u g')) (lk False):=by
 rw [<-bQ];by_cases h:n<=Ae
 .rw [if_pos h,if_pos (jw.mpr h)];exact Iff.rfl
 .rw [if_neg h,if_neg (λz=>h (jw.mp z))];exact Iff.rfl
def ob(op:Op)(x y:U)(g:G)(X:XP){Q:U->G->Prop}(_:Lk Q):Prop:=holds (Bd op x y g) X Q
def tD{i:Int}{y:U}{X:XP}:ob op (.int i) y g X (lk Q)=JM (IX op (.int i) y) (lk λz=>Q z g):=propext (by
 unfold ob;refine Iff.trans (?_:_ ↔ holds (lift (IX op (.int i) y) g) X Q) cV;exact Iff.rfl)
def abT{ys:List U}{X:XP}(h1:g[n]? = some (.lst xs))(h2:g[m]? = some (.lst ys))(hl:xs.length+ys.length<=Ae)(h:Q (.ref g.length) (g++[.lst (xs++ys)])):ob .add (.ref n) (.ref m) g X (lk Q):=by
 unfold ob Bd A2;simp! [h1,h2];rw [if_pos hl];exact h
section
def sS:JD fns d (.var i) σ g X Q ↔ JM σ[i]? (lk λo=>JM o (lk λu=>Q u g)):=by
 rw [ag];delta Jm;simp! [ab];cases σ[i]? with
 | none=>exact Iff.rfl
 | some o=>cases o <;> exact Iff.rfl
def qF:JD fns d (.cst u) σ g X Q ↔ Q u g:=by rw [ag];delta Jm;simp! [ab];rfl
def qW{a b:E}:JD fns d (.bin op a b) σ g X Q ↔ JD fns d a σ g X λx g=>JD fns d b σ g X λy g=>ob op x y g X (lk Q):=by
 rw [ag];delta Jm;dsimp only;refine #[4].trans (wp_congr λ_ _ => ?_);refine #[4].trans (wp_congr λ_ _ => ?_);exact ab
def acH{a:E}{cs:List Nat}:JD fns d (.fld a j cs) σ g X Q ↔ JD fns d a σ g X λx g=>JM ((AJ x g).bind (BE j cs)) <| lk λz=>Q z g:=by
 rw [ag];delta Jm;dsimp only;refine #[4].trans (wp_congr λ_ _ => ?_);exact ab.trans cV
def zR{c:Bool}{a:E}:JD fns d (.revm c a) σ g X Q ↔ JD fns d a σ g X λx g=>JM (Jg x g) <| lk λn=>hk (BD c n g) X (lk Q):=by
 rw [ag];delta Jm;dsimp only;refine #[4].trans (wp_congr λx g=>ab.trans ?_)
 cases Jg x g <;> exact Iff.rfl
abbrev nX:XP:=λ_ _ _=>False
def dS{o:Out α}{k:α->G->Out β}:o.noex.bind k=o.bindB k:=by cases o <;> rfl
def aaP{c f:Nat}{es ks:List E}:JD fns d (.make c f es ks pm) σ g X Q ↔ Am fns d es σ g nX λus g=>Am fns d ks σ g nX λws g=>us.length=es.length/\ws.length=ks.length/\JR fns d f (perm (.ref g.length :: us++ws) pm) (g++[.ins c []]) X (lk λu g'=>AE u=true/\Q (.ref g.length) g'):=by
 rw [ag];delta Jm;dsimp only;simp! [dS];have hm:∀ (us ws:List U) (g:G),Av λn=>if us.length=es.length/\ws.length=ks.length then (Aa fns n d f (perm (.ref g.length :: us++ws) pm) (g++[.ins c []])).bind λu g'=>if AE u then Out.ok (U.ref g.length) g' else .bad else .bad:=λus ws g=>by
  split
  .exact mB (mC _ _ _) λ_ _=>mK _
  .exact mK _
 refine (aA (mEs _ _ _) λus g=>mBB (mEs _ _ _) λws g=>hm us ws g).trans (wp_congr λus g => ?_);refine (aA (mEs _ _ _) λws g=>hm us ws g).trans (wp_congr λws g => ?_);split
 .rename_i h
  refine Iff.trans ((wp_bind (k:=λ_ u g'=>if AE u=true then Out.ok (U.ref (List.length g)) g' else Out.bad) (mC _ _ _) λ_ _=>mK _).trans (wp_congr λu g'=>ab.trans ?_)) ⟨λq=>⟨h.1,h.2,q⟩,λq=>q.2.2⟩
  split
  .rename_i hu;exact ⟨λq=>⟨hu,q⟩,λq=>q.2⟩
  .rename_i hu;exact ⟨λq=>q.elim,λq=>(hu q.1).elim⟩
 .rename_i h;exact ⟨λ⟨_,q⟩=>q.elim,λq=>(h ⟨q.1,q.2.1⟩).elim⟩
def zO{a:E}{es ks:List E}:JD fns d (.meth a j tb es ks) σ g X Q ↔ JD fns d a σ g nX λx g=>JM ((AJ x g).bind (BA j tb)) <| lk λp=>Am fns d es σ g nX λus g=>Am fns d ks σ g nX λws g=>us.length=es.length/\ws.length=ks.length/\JR fns d p.1 (perm (x :: us++ws) p.2) g X (lk Q):=by
 rw [ag];delta Jm;dsimp only;simp! [dS];have hm:∀ (x:U) (p:Nat×List (Nat ⊕ U)) (us ws:List U) (g:G),Av λn=>if us.length=es.length/\ws.length=ks.length then Aa fns n d p.1 (perm (x :: us++ws) p.2) g else .bad:=λx p us ws g=>by
  split
  .exact mC _ _ _
  .exact mK _
 have hm2:∀ (x:U) (g:G) (o:Option (Nat×List (Nat ⊕ U))),Av λn=>match o with
   | some p=>(Jh #[10].ev es σ g).bindB λus g=>(Jh #[10].ev ks σ g).bindB λws g=>if us.length=es.length/\ws.length=ks.length then Aa fns n d p.1 (perm (x :: us++ws) p.2) g else .bad
   | none => .bad:=λx g o=>by
  cases o with
  | none=>exact mK _
  | some p=>exact mBB (mEs _ _ _) λus g=>mBB (mEs _ _ _) λws g=>hm x p us ws g
 refine (aA (mE _ _ _) λx g=>hm2 x g _).trans (wp_congr λx g => ?_);cases (AJ x g).bind (BA j tb) with
 | none=>exact ab
 | some p =>
  refine (aA (mEs _ _ _) λus g=>mBB (mEs _ _ _) λws g=>hm x p us ws g).trans (wp_congr λus g => ?_);refine (aA (mEs _ _ _) λws g=>hm x p us ws g).trans (wp_congr λws g => ?_);split
  .rename_i h;exact ⟨λq=>⟨h.1,h.2,q⟩,λq=>q.2.2⟩
  .rename_i h;exact ⟨λ⟨_,q⟩=>q.elim,λq=>(h ⟨q.1,q.2.1⟩).elim⟩
def adf{op:Cp}{a b:E}:JD fns d (.cmp op a b) σ g X Q ↔ JD fns d a σ g X λx g=>JD fns d b σ g X λy g=>JM (Ja op x y g) <| lk λz=>Q (.bl z) g:=by
 rw [ag];delta Jm;dsimp only;refine #[4].trans (wp_congr λ_ _ => ?_);refine #[4].trans (wp_congr λ_ _ => ?_);exact ab.trans gh
def yK{op op':Cp}{a b:E}:JD fns d (.chain op op' a b c) σ g X Q ↔ JD fns d a σ g X λx g=>JD fns d b σ g X λy g=>JM (Ja op x y g) <| lk λz=>JN z (lk (JD fns d c σ g X λw g=>JM (Ja op' y w g) <| lk λz=>Q (.bl z) g)) #[36]:=by
 rw [ag];delta Jm;dsimp only;refine (wp_bind (by sleep 9) (by intro x g;refine mB (mE _ _ _) λy g => ?_;generalize Ja op x y g=o;cases o with | none=>exact mK _ | some z=>cases z;exact mK _;exact mB (mE _ _ _) λ_ _=>mK _)).trans (wp_congr λx g => ?_)
 refine (wp_bind (by sleep 9) (by intro y g;generalize Ja op x y g=o;cases o with | none=>exact mK _ | some z=>cases z;exact mK _;exact mB (mE _ _ _) λ_ _=>mK _)).trans (wp_congr λy g => ?_)
 generalize Ja op x y g=o;cases o with
 | none=>exact ab
 | some z =>
  cases z
  .exact ab
  .exact #[4].trans (wp_congr λ_ _=>ab.trans gh)
def adm{a b:E}:JD fns d (.and a b) σ g X Q ↔ JD fns d a σ g X λx g=>JM (match x with | .bl z=>some z | _=>none) <| lk λz=>JN z #[18] #[36]:=by
 rw [ag];delta Jm;dsimp only;refine (wp_bind (by sleep 9) (by intro x g;cases x with | bl b=>cases b;exact mK _;exact mE _ _ _ | _=>exact mK _)).trans (wp_congr λx g => ?_)
 cases x with
 | bl z=>cases z;exact ab;exact Iff.rfl
 | _=>exact ab
def e_or{a b:E}:JD fns d (.or a b) σ g X Q ↔ JD fns d a σ g X λx g=>JM (match x with | .bl z=>some z | _=>none) <| lk λz=>JN z (lk (Q (.bl true) g)) #[18]:=by
 rw [ag];delta Jm;dsimp only;refine (wp_bind (by sleep 9) (by intro x g;cases x with | bl b=>cases b;exact mE _ _ _;exact mK _ | _=>exact mK _)).trans (wp_congr λx g => ?_)
 cases x with
 | bl z=>cases z;exact Iff.rfl;exact ab
 | _=>exact ab
def acz{a:E}:JD fns d (.not a) σ g X Q ↔ JD fns d a σ g X λx g=>JM (Jb x g) <| lk λc=>Q (.bl !c) g:=by
 rw [ag];delta Jm;dsimp only;refine #[4].trans (wp_congr λx g=>ab.trans ?_)
 cases Jb x g <;> exact Iff.rfl
def acO{a:E}:JD fns d (.neg a) σ g X Q ↔ JD fns d a σ g X λx g=>JM (match x with | .int i=>some i | _=>none) <| lk λi=>Q (.int (-i)) g:=by
 rw [ag];delta Jm;dsimp only;refine #[4].trans (wp_congr λx g=>ab.trans ?_)
 cases x <;> exact Iff.rfl
def acw{a b:E}:JD fns d (.ite c a b) σ g X Q ↔ JE fns d c σ g X λk g=>JN k (lk (JD fns d a σ g X Q)) #[18]:=by
 rw [ag];delta Jm;dsimp only;refine (wp_bind (by sleep 9) (by intro k g;cases k;exact mE _ _ _;exact mE _ _ _)).trans (wp_congr λx g => ?_)
 cases x <;> exact Iff.rfl
def rF{es:List E}:JD fns d (.tup es) σ g X Q ↔ Am fns d es σ g X λus g=>JN (Bc us.length) (lk (Q (.tup us) g)) (lk False):=by
 rw [ag];delta Jm;dsimp only;exact #[4].trans (wp_congr λx g=>ab.trans qA)
def acX{es:List E}:JD fns d (.lst es) σ g X Q ↔ Am fns d es σ g X λus g=>JN (Bc us.length) (lk (Q (.ref g.length) (g++[.lst us]))) (lk False):=by
 rw [ag];delta Jm;dsimp only;exact #[4].trans (wp_congr λx g=>ab.trans qA)
def sx{a b:E}:JD fns d (.idx a b) σ g X Q ↔ JD fns d a σ g X λx g=>JD fns d b σ g X λy g=>match y with | .tup us=>JM ((Aj (.tup us) x g).bind id) <| lk λz=>Q z g | .str k=>JM ((IZ x g).bind λkvs=>AU kvs k) <| lk λz=>Q z g | y=>JM (match y with | .int i=>some i | _=>none) <| lk λi=>JM (items x g) <| lk λxs=>JM (Jc xs i) <| lk λz=>Q z g:=by
 rw [ag];delta Jm;dsimp only;refine #[4].trans (wp_congr λx g=>#[4].trans (wp_congr λy g=>ab.trans ?_))
 cases y with
 | int i =>
  show holds (match items x g with | some xs=>lift (Jc xs i) g | none => .bad) X Q ↔ JM (items x g) (lk λxs=>JM (Jc xs i) (lk λz=>Q z g))
  cases items x g with
  | none=>exact Iff.rfl
  | some xs=>exact cV
 | tup us=>exact cV
 | str k=>exact cV
 | _=>exact Iff.rfl
def adq{a:E}{lo hi:Option E}:JD fns d (.slc a lo hi) σ g X Q ↔ JD fns d a σ g X λx g=>JF fns d lo σ g X λl g=>JF fns d hi σ g X λh g=>hk (CI x l h g) X (lk Q):=by
 rw [ag];delta Jm;dsimp only;refine #[4].trans (wp_congr λ_ _ => ?_);refine #[4].trans (wp_congr λ_ _ => ?_);refine #[4].trans (wp_congr λ_ _ => ?_);exact ab
def adu{a:E}:JD fns d (.rev a) σ g X Q ↔ JD fns d a σ g X λx g=>JM (Cf x g) <| lk λxs=>Q (.ref g.length) (g++[.lst xs.reverse]):=by
 rw [ag];delta Jm;dsimp only;refine #[4].trans (wp_congr λx g=>ab.trans ?_)
 cases x with
 | ref n =>
  dsimp only [Cf];cases g[n]? with
  | none=>exact Iff.rfl
  | some o=>cases o <;> exact Iff.rfl
 | _=>exact Iff.rfl
def zV{f:Nat}{es:List E}:JD fns d (.call f es) σ g X Q ↔ Am fns d es σ g nX λus g=>JR fns d f us g X (lk Q):=by
 rw [ag];delta Jm;dsimp only;simp! [dS];exact aA (mEs _ _ _) λ_ _=>mC _ _ _
def e_bi{b:Bi}{es:List E}:JD fns d (.bi b es) σ g X Q ↔ Am fns d es σ g X λus g=>hk (Jf b us g) X (lk Q):=by
 rw [ag];delta Jm;dsimp only;exact #[4].trans (wp_congr λx g=>ab)
def abo:JD fns d .dnew σ g X Q ↔ Q (.ref g.length) (g++[.dic []]):=by
 rw [ag];delta Jm;dsimp only;exact ab
def ack{a:E}{t:Ty}:JD fns d (.isi a t) σ g X Q ↔ JD fns d a σ g X λx g=>JM (AL t x g) <| lk λc=>Q (.bl c) g:=by
 rw [ag];delta Jm;dsimp only;exact #[4].trans (wp_congr λx g=>ab.trans gh)
def mN{o:Option Nat}{f:Nat->Nat->Out α}(h:∀ k,Av λn=>f n k):Av λn=>(match o with | some k=>f n k | none => .bad:Out α):=by
 cases o with
 | none=>exact mK _
 | some k=>exact h k
def acx{o v:E}:JD fns d (.app o v) σ g X Q ↔ JD fns d o σ g X λx g=>JM (Jg x g) <| lk λk=>JD fns d v σ g X λy g=>hk (A5 k y g) X (lk Q):=by
 rw [ag];delta Jm;dsimp only;refine (wp_bind (by sleep 9) (by intro x g;exact mN λk=>mB (mE _ _ _) λ_ _=>mK _)).trans (wp_congr λx g=>optN.trans (ee λk => ?_))
 refine #[4].trans (wp_congr λ_ _ => ?_);exact ab
def aav{o v:E}:JD fns d (.popi o v) σ g X Q ↔ JD fns d o σ g X λx g=>JM (Jg x g) <| lk λk=>JD fns d v σ g X λy g=>hk (CV k y g) X (lk Q):=by
 rw [ag];delta Jm;dsimp only;refine (wp_bind (by sleep 9) (by intro x g;exact mN λk=>mB (mE _ _ _) λ_ _=>mK _)).trans (wp_congr λx g=>optN.trans (ee λk => ?_))
 refine #[4].trans (wp_congr λ_ _ => ?_);exact ab
def adw{o v:E}:JD fns d (.ext o v) σ g X Q ↔ JD fns d o σ g X λx g=>JM (Jg x g) <| lk λk=>JD fns d v σ g X λy g=>hk (Bp k y g) X (lk Q):=by
 rw [ag];delta Jm;dsimp only;refine (wp_bind (by sleep 9) (by intro x g;exact mN λk=>mB (mE _ _ _) λ_ _=>mK _)).trans (wp_congr λx g=>optN.trans (ee λk => ?_))
 refine #[4].trans (wp_congr λ_ _ => ?_);exact ab
def acM{o:E}:JD fns d (.pop o) σ g X Q ↔ JD fns d o σ g X λx g=>JM (Jg x g) <| lk λk=>hk (Bg k g) X (lk Q):=by
 rw [ag];delta Jm;dsimp only;exact (wp_bind (by sleep 9) (by intro x g;exact mN λk=>mK _)).trans (wp_congr λx g=>optN.trans (ee λk=>ab))
def aac{own:Nat}{t:Tg}{it:E}{rest:List (Tg×E×List E)}{k v:E}:JD fns d (.dcmp own fr ((t,it,cs) :: rest) k v) σ g X Q ↔
  JH fns d it σ g X λi g=>JS fns d i 0 t cs rest (.pair k v) [] (List.replicate own none++fr.map λj=>(σ[j]?).getD none) g (λ_ _ _=>False) (lk λus g=>JM (dfold us []) <| lk λkvs=>Q (.ref g.length) (g++[.dic kvs])):=by
 rw [ag];delta Jm;dsimp only;refine #[4].trans (wp_congr λx g=>(aA (by sleep 9) (by sleep 9)).trans (wp_congr λus g=>ab.trans ?_))
 cases dfold us [] <;> exact Iff.rfl
def aau{k v:E}:JD fns d (.pair k v) σ g X Q ↔ JD fns d k σ g X λx g=>JD fns d v σ g X λy g=>JM (keyOf x) <| lk λ_=>Q (.tup [x,y]) g:=by
 rw [ag];delta Jm;dsimp only;refine #[4].trans (wp_congr λx g=>#[4].trans (wp_congr λy g=>ab.trans ?_))
 cases keyOf x <;> exact Iff.rfl
def aa9{ks:List PySem.Str}{es:List E}:JD fns d (.ddsp ks es) σ g X Q ↔ Am fns d es σ g X λus g=>Q (.ref g.length) (g++[.dst (ks.zip us)]):=by
 rw [ag];delta Jm;dsimp only;exact #[4].trans (wp_congr λx g=>ab)
def adE{o k x:E}:JD fns d (.dgt o k x) σ g X Q ↔ JD fns d o σ g X λy g=>JM (I0 y g) <| lk λ_=>JD fns d k σ g X λz g=>JD fns d x σ g X λw g=>JM (Aj z y g) <| lk λq=>Q (q.getD w) g:=by
 rw [ag];delta Jm;dsimp only;refine (wp_bind (by sleep 9) (by intro x g;cases I0 x g with | none=>exact mK _ | some _=>exact mB (mE _ _ _) λ_ _=>mB (mE _ _ _) λ_ _=>mK _)).trans (wp_congr λy g => ?_)
 cases I0 y g with
 | none=>exact ab
 | some kvs =>
  refine #[4].trans (wp_congr λz g=>#[4].trans (wp_congr λw g=>ab.trans ?_))
  cases Aj z y g <;> exact Iff.rfl
def ab9{own:Nat}{t:Tg}{it:E}{rest:List (Tg×E×List E)}:JD fns d (.comp own fr ((t,it,cs) :: rest) elt) σ g X Q ↔
  JH fns d it σ g X λi g=>JS fns d i 0 t cs rest elt [] (List.replicate own none++fr.map λj=>(σ[j]?).getD none) g (λ_ _ _=>False) (lk λus g=>us.length<=Ae/\Q (.ref g.length) (g++[.lst us])):=by
 rw [ag];delta Jm;dsimp only;refine #[4].trans (wp_congr λx g=>(aA (by sleep 9) (by sleep 9)).trans (wp_congr λus g=>ab.trans ?_))
 split
 .rename_i h;exact ⟨λq=>⟨h,q⟩,λq=>q.2⟩
 .rename_i h;exact ⟨λq=>q.elim,λq=>h q.1⟩
end
def qa{Q:List U->G->Prop}:Am fns d [] σ g X Q ↔ Q [] g:=by unfold Am;simp! [Jh,ab];rfl
def ly{e:E}{es:List E}{Q:List U->G->Prop}:Am fns d (e :: es) σ g X Q ↔ JD fns d e σ g X λu g=>Am fns d es σ g X λus g=>Q (u :: us) g:=by
 unfold Am;simp! [Jh];refine #[4].trans (wp_congr λ_ _ => ?_);refine #[4].trans (wp_congr λ_ _ => ?_);exact ab
def pR{Q:Option Int->G->Prop}:JF fns d none σ g X Q ↔ Q none g:=by unfold JF;simp! [Ji,ab];rfl
def abu{e:E}{Q:Option Int->G->Prop}:JF fns d (some e) σ g X Q ↔ JD fns d e σ g X λu g => ∃ i,u=.int i/\Q (some i) g:=by
 unfold JF;simp! [Ji];refine #[4].trans (wp_congr λx g=>ab.trans ?_)
 cases x with
 | int a=>exact ⟨λh=>⟨a,rfl,h⟩,λ⟨b,e,h⟩=>by cases e;exact h⟩
 | _=>exact ⟨λh=>h.elim,λ⟨_,e,_⟩=>by cases e⟩
section
variable{Q:Bool->G->Prop}
def acU{a b:E}:JE fns d (.and a b) σ g X Q ↔ JE fns d a σ g X λk g=>if k then JE fns d b σ g X Q else Q false g:=by
 rw [cZ];delta Jn;dsimp only;refine (wp_bind (by sleep 9) (by intro k g;cases k;exact mK _;exact mT _ _ _)).trans (wp_congr λx g => ?_)
 cases x
 .exact ab
 .exact Iff.rfl
theorem T_or{a b:E}:JE fns d (.or a b) σ g X Q ↔ JE fns d a σ g X λk g=>if k then Q true g else JE fns d b σ g X Q:=by
 rw [cZ];delta Jn;dsimp only;refine (wp_bind (by sleep 9) (by intro k g;cases k;exact mT _ _ _;exact mK _)).trans (wp_congr λx g => ?_)
 cases x
 .exact Iff.rfl
 .exact ab
def acJ{a:E}:JE fns d (.not a) σ g X Q ↔ JE fns d a σ g X λk g=>Q (!k) g:=by
 rw [cZ];delta Jn;dsimp only;refine #[4].trans (wp_congr λ_ _ => ?_);exact ab
def adj{a b:E}:JE fns d (.ite c a b) σ g X Q ↔ JE fns d c σ g X λk g=>if k then JE fns d a σ g X Q else JE fns d b σ g X Q:=by
 rw [cZ];delta Jn;dsimp only;refine (wp_bind (by sleep 9) (by intro k g;cases k;exact mT _ _ _;exact mT _ _ _)).trans (wp_congr λx g => ?_)
 cases x <;> exact Iff.rfl
def plainT:E->Bool
 | .and _ _=>false | .or _ _=>false | .not _=>false | .ite _ _ _=>false | _=>true
theorem T_e{e:E}(h:plainT e=true):JE fns d e σ g X Q ↔ JD fns d e σ g X λx g => ∃ c,Jb x g=some c/\Q c g:=by
 rw [cZ];have:(λn=>Jn #[10] e σ g)=λn=>(#[10].ev e σ g).bind λx g=>lift (Jb x g) g:=by
  funext n;cases e <;> first | rfl | cases h
 rw [this];refine #[4].trans (wp_congr λ_ _ => ?_);exact ab.trans u6
def gZ:JG fns d [] σ g X Q ↔ Q true g:=by unfold JG;simp! [Ax,ab];rfl
def zM:JG fns d (c :: cs) σ g X Q ↔ JE fns d c σ g X λk g=>if k then JG fns d cs σ g X Q else Q false g:=by
 unfold JG;simp! [Ax];refine (wp_bind (by sleep 9) (by intro k g;cases k;exact mK _;exact mA _ _ _)).trans (wp_congr λx g => ?_)
 cases x
 .exact ab
 .exact Iff.rfl
end
section
variable{Q:Iter->G->Prop}
def aaJ{a:E}:JH fns d (.rng1 a) σ g X Q ↔ JD fns d a σ g X λu g => ∃ j,u=.int j/\(-1000000 < j/\j < 1000000)/\Q (.rng 0 j.toNat) g:=by
 unfold JH;delta Jk;dsimp only;refine #[4].trans (wp_congr λx g=>ab.trans ?_)
 cases x with
 | int a =>
  simp! [];split
  .rename_i h;exact ⟨λq=>⟨a,rfl,h,q⟩,λ⟨b,e,_,q⟩=>by cases e;exact q⟩
  .rename_i h;exact ⟨λq=>q.elim,λ⟨b,e,h',q⟩=>by cases e;exact h h'⟩
 | _=>exact ⟨λh=>h.elim,λ⟨_,e,_⟩=>by cases e⟩
def acB{a:E}:JH fns d (.enm a) σ g X Q ↔ JD fns d a σ g X λu g => ∃ k,Jg u g=some k/\Q (.enm k) g:=by
 unfold JH;delta Jk;dsimp only;refine #[4].trans (wp_congr λx g=>ab.trans ?_)
 cases Jg x g with
 | none=>exact ⟨λh=>h.elim,λ⟨_,e,_⟩=>(by cases e)⟩
 | some k=>exact ⟨λq=>⟨k,rfl,q⟩,λ⟨_,e,q⟩=>(by cases e;exact q)⟩
def acv{a b:E}:JH fns d (.zip a b) σ g X Q ↔ JD fns d a σ g X λu g=>JD fns d b σ g X λw g => ∃ k,Jg u g=some k /\ ∃ m,Jg w g=some m/\Q (.zip k m) g:=by
 unfold JH;delta Jk;dsimp only;refine #[4].trans (wp_congr λx g=>#[4].trans (wp_congr λy g=>ab.trans ?_))
 cases Jg x g with
 | none=>exact ⟨λh=>h.elim,λ⟨_,e,_⟩=>(by cases e)⟩
 | some k =>
  cases Jg y g with
  | none=>exact ⟨λh=>h.elim,λ⟨_,_,_,e,_⟩=>(by cases e)⟩
  | some m=>exact ⟨λq=>⟨k,rfl,m,rfl,q⟩,λ⟨_,e,_,e',q⟩=>(by cases e;cases e';exact q)⟩
def zW{a b:E}:JH fns d (.rng2 a b) σ g X Q ↔ JD fns d a σ g X λu g=>JD fns d b σ g X λw g => ∃ i j,u=.int i/\w=.int j/\(-1000000 < i/\i < 1000000 /\ -1000000 < j/\j < 1000000)/\Q (.rng i (j - i).toNat) g:=by
 unfold JH;delta Jk;dsimp only;refine #[4].trans (wp_congr λx g=>#[4].trans (wp_congr λy g=>ab.trans ?_))
 cases x with
 | int a =>
  cases y with
  | int b =>
   simp! [];split
   .rename_i h;exact ⟨λq=>⟨a,b,rfl,rfl,h,q⟩,λ⟨_,_,e,e',_,q⟩=>by cases e;cases e';exact q⟩
   .rename_i h;exact ⟨λq=>q.elim,λ⟨_,_,e,e',h',q⟩=>by cases e;cases e';exact h h'⟩
  | _=>exact ⟨λh=>h.elim,λ⟨_,_,_,e,_⟩=>by cases e⟩
 | _=>exact ⟨λh=>h.elim,λ⟨_,_,e,_⟩=>by cases e⟩
theorem I_e{e:E}(h:CW e=true):JH fns d e σ g X Q ↔ JD fns d e σ g X λu g=>holds (match u with
  | .tup xs => .ok (.seq xs) g
  | .xn _ xs => .ok (.seq xs) g
  | .ref n=>match g[n]? with
   | some (.lst _) => .ok (.lst n) g
   | some (.dic kvs) => .ok (.dic n) (g.set n (.dif kvs))
   | some (.dif _) => .ok (.dic n) g
   | _ => .bad
  | _ => .bad) X Q:=by
 unfold JH;have:(λn=>Jk #[10] e σ g)=λn=>(#[10].ev e σ g).bind λu g=>match u with
  | .tup xs => .ok (.seq xs) g
  | .xn _ xs => .ok (.seq xs) g
  | .ref n=>match g[n]? with
   | some (.lst _) => .ok (.lst n) g
   | some (.dic kvs) => .ok (.dic n) (g.set n (.dif kvs))
   | some (.dif _) => .ok (.dic n) g
   | _ => .bad
  | _ => .bad:=by
  funext n;cases e <;> first | rfl | cases h
 rw [this];refine #[4].trans (wp_congr λ_ _ => ?_);exact ab
end
section
variable{Q:Fl->G->Prop}
def rl:wpS fns d [] σ g X Q ↔ Q (.nx σ) g:=by rw [nI];simp! [Jq,ab];rfl
def zp{s:S}{ss:List S}:wpS fns d (s :: ss) σ g X Q ↔ JI fns d s σ g X λf g=>match f with | .nx σ'=>wpS fns d ss σ' g X Q | f=>Q f g:=by
 rw [nI];simp! [Jq];refine (wp_bind (by exact m1 _ _ _) (by intro f g;cases f;exact mS _ _ _;exact mK _;exact mK _;exact mK _)).trans (wp_congr λx g => ?_)
 cases x <;> first | exact Iff.rfl | exact ab
def acL{e:E}:JI fns d (.ret e) σ g X Q ↔ JD fns d e σ g X λu g=>Q (.rt u) g:=by
 unfold JI;delta Jp;dsimp only;exact #[4].trans (wp_congr λx g=>ab)
def aat:JI fns d .retN σ g X Q ↔ Q (.rt .non) g:=by unfold JI;delta Jp;simp! [ab];rfl
def abZ:JI fns d .pass σ g X Q ↔ Q (.nx σ) g:=by unfold JI;delta Jp;simp! [ab];rfl
def ac8:JI fns d .brk σ g X Q ↔ Q (.bk σ) g:=by unfold JI;delta Jp;simp! [ab];rfl
def ab1:JI fns d .cont σ g X Q ↔ Q (.ct σ) g:=by unfold JI;delta Jp;simp! [ab];rfl
def acN{t:Tg}{e:E}:JI fns d (.set t e) σ g X Q ↔ JD fns d e σ g X λu g => ∃ σ',Ah t (Jj t u g) σ=some σ'/\Q (.nx σ') g:=by
 unfold JI;delta Jp;dsimp only;refine #[4].trans (wp_congr λx g=>ab.trans ?_)
 cases Ah t (Jj t x g) σ with
 | none=>exact ⟨λh=>h.elim,λ⟨_,e,_⟩=>by cases e⟩
 | some a=>exact ⟨λh=>⟨a,rfl,h⟩,λ⟨b,e,h⟩=>by cases e;exact h⟩
def acV{a b:E}:JI fns d (.par i j a b) σ g X Q ↔ JD fns d a σ g X λu g=>JD fns d b σ g X λw g=>(i < σ.length/\j < σ.length)/\Q (.nx ((σ.set i (some u)).set j (some w))) g:=by
 unfold JI;delta Jp;dsimp only;refine #[4].trans (wp_congr λx g=>#[4].trans (wp_congr λy g=>ab.trans ?_))
 split
 .rename_i h;exact ⟨λq=>⟨h,q⟩,λq=>q.2⟩
 .rename_i h;exact ⟨λq=>q.elim,λq=>h q.1⟩
def aaZ{a e:E}{cs:List Nat}:JI fns d (.fset a j cs e) σ g X Q ↔ JD fns d e σ g X λu g=>JD fns d a σ g X λx g => ∃ g',A8 x j cs u g=some g'/\Q (.nx σ) g':=by
 unfold JI;delta Jp;dsimp only;refine #[4].trans (wp_congr λu g=>#[4].trans (wp_congr λx g=>ab.trans ?_))
 cases A8 x j cs u g with
 | none=>exact ⟨λh=>h.elim,λ⟨_,e,_⟩=>by cases e⟩
 | some a=>exact ⟨λh=>⟨a,rfl,h⟩,λ⟨b,e,h⟩=>by cases e;exact h⟩
def ac4{o i e:E}:JI fns d (.sub o i e) σ g X Q ↔ JD fns d e σ g X λu g=>JD fns d o σ g X λx g=>JD fns d i σ g X λy g=>holds (subAt x y u σ g) X Q:=by
 unfold JI;delta Jp;dsimp only;refine #[4].trans (wp_congr λ_ _ => ?_);refine #[4].trans (wp_congr λ_ _ => ?_);refine #[4].trans (wp_congr λ_ _ => ?_);exact ab
def acW{o i:E}:JI fns d (.del o i) σ g X Q ↔ JD fns d o σ g X λx g=>JD fns d i σ g X λy g=>holds (CF x y σ g) X Q:=by
 unfold JI;delta Jp;dsimp only;refine #[4].trans (wp_congr λ_ _ => ?_);refine #[4].trans (wp_congr λ_ _ => ?_);exact ab
def acD{e:E}:JI fns d (.aug i op e) σ g X Q ↔ ∃ x,σ[i]? = some (some x)/\JD fns d e σ g X λy g => ∃ z,Ci op x y=some z/\Q (.nx (σ.set i (some z))) g:=by
 unfold JI;delta Jp;dsimp only;cases e1:σ[i]? with
 | none=>simp! [ab];exact ⟨λh=>h.elim,λ⟨_,e,_⟩=>by cases e⟩
 | some o=>cases o with
  | none=>simp! [ab];exact ⟨λh=>h.elim,λ⟨_,e,_⟩=>by cases e⟩
  | some a =>
   simp! [];have:∀ P:U->Prop,(∃ x,some (some a)=some (some x)/\P x) ↔ P a:=λP=>⟨λ⟨_,e,h⟩=>by cases e;exact h,λh=>⟨a,rfl,h⟩⟩
   refine Iff.trans ?_ (this _).symm;refine #[4].trans (wp_congr λx g=>ab.trans ?_)
   cases Ci op a x with
   | none=>exact ⟨λh=>h.elim,λ⟨_,e,_⟩=>by cases e⟩
   | some a=>exact ⟨λh=>⟨a,rfl,h⟩,λ⟨b,e,h⟩=>by cases e;exact h⟩
def adg{e:E}:JI fns d (.exp e) σ g X Q ↔ JD fns d e σ g X λ_ g=>Q (.nx σ) g:=by
 unfold JI;delta Jp;dsimp only;exact #[4].trans (wp_congr λx g=>ab)
def ads{a b:List S}:JI fns d (.ife c a b) σ g X Q ↔ JE fns d c σ g X λk g=>if k then wpS fns d a σ g X Q else wpS fns d b σ g X Q:=by
 unfold JI;delta Jp;dsimp only;refine (wp_bind (by sleep 9) (by intro k g;cases k;exact mS _ _ _;exact mS _ _ _)).trans (wp_congr λx g => ?_)
 cases x <;> exact Iff.rfl
def acn{t:Tg}{it:E}{b:List S}:JI fns d (.for t it b) σ g X Q ↔ JH fns d it σ g X λi g=>JK fns d t i 0 b σ g X Q:=by
 unfold JI;delta Jp;dsimp only;exact wp_bind (by sleep 9) (by sleep 9)
def zN{b:List S}:JJ fns d c b σ g X Q ↔ JE fns d c σ g X λk g=>if k then wpS fns d b σ g X λf g=>(match f with
  | .nx σ'=>JJ fns d c b σ' g X Q
  | .ct σ'=>JJ fns d c b σ' g X Q
  | .bk σ'=>Q (.nx σ') g
  | .rt u=>Q (.rt u) g) else Q (.nx σ) g:=by
 rw [zt];simp! [Jr];refine (wp_bind (mT _ _ _) λk g=>by cases k;exact mK _;refine mB (mS _ _ _) λf g => ?_;cases f;exact mW _ _ _ _;exact mK _;exact mK _;exact mW _ _ _ _).trans (wp_congr λx g => ?_)
 cases x
 .exact ab
 .simp only [if_true]
  refine (wp_bind (by sleep 9) (by intro f g;cases f;exact mW _ _ _ _;exact mK _;exact mK _;exact mW _ _ _ _)).trans (wp_congr λf g => ?_)
  cases f <;> first | exact Iff.rfl | exact ab
def nV{t:Tg}{b:List S}:JK fns d t it i b σ g X Q ↔ ∃ o,next it i g=some o/\match o with
  | none=>Q (.nx σ) g
  | some u => ∃ σ1,Ah t u σ=some σ1/\wpS fns d b σ1 g X λf g=>match f with
   | .nx σ'=>JK fns d t it (i+1) b σ' g X Q
   | .ct σ'=>JK fns d t it (i+1) b σ' g X Q
   | .bk σ'=>Q (.nx σ') g
   | .rt u=>Q (.rt u) g:=by
 rw [aaW];simp! [Js];cases next it i g with
 | none=>simp! [ab];exact ⟨λh=>h.elim,λ⟨_,e,_⟩=>by cases e⟩
 | some o =>
  cases o with
  | none=>simp! [ab];exact ⟨λh=>⟨none,rfl,h⟩,λ⟨o,e,h⟩=>by cases e;exact h⟩
  | some u =>
   simp! [];cases e2:Ah t u σ with
   | none=>simp! [ab];exact ⟨λh=>h.elim,λ⟨_,e,h⟩=>by cases e;let ⟨_,e,_⟩:=h;rw [e2] at e;cases e⟩
   | some σ1 =>
    simp! [];refine (wp_bind (by sleep 9) (by intro f g;cases f;exact mF _ _ _ _ _ _;exact mK _;exact mK _;exact mF _ _ _ _ _ _)).trans ?_
    refine Iff.trans (wp_congr (Q':=λf g=>match f with
       | .nx σ'=>JK fns d t it (i+1) b σ' g X Q
       | .ct σ'=>JK fns d t it (i+1) b σ' g X Q
       | .bk σ'=>Q (.nx σ') g
       | .rt u=>Q (.rt u) g) λf g => ?_) ?_
    .cases f <;> first | exact Iff.rfl | exact ab
    exact ⟨λh=>⟨some u,rfl,σ1,e2,h⟩,λ⟨o,e,h⟩=>by cases e;let ⟨σ2,e,h⟩:=h;rw [e2] at e;cases e;exact h⟩
end
def aT{t:Tg}{rest:List (Tg×E×List E)}{Q:List U->G->Prop}:JL fns d it i t cs rest elt acc σ g X Q ↔ ∃ o,next it i g=some o/\match o with
  | none=>Q acc g
  | some u=>AH t σ=true /\ ∃ σ1,Ah t u σ=some σ1/\JG fns d cs σ1 g (λ_ _ _=>False) λk g=>if k then
    match rest with
    | []=>JD fns d elt σ1 g (λ_ _ _=>False) λv g=>acc.length < Ae/\JL fns d it (i+1) t cs rest elt (acc++[v]) σ g X Q
    | (t2,it2,cs2) :: rest2=>JH fns d it2 σ1 g (λ_ _ _=>False) λj g=>JL fns d j 0 t2 cs2 rest2 elt acc σ1 g (λ_ _ _=>False) λacc2 g=>JL fns d it (i+1) t cs rest elt acc2 σ g X Q
   else JL fns d it (i+1) t cs rest elt acc σ g X Q:=by
 rw [abc];simp! [Jt];cases next it i g with
 | none=>simp! [ab];exact ⟨λh=>h.elim,λ⟨_,e,_⟩=>by cases e⟩
 | some o =>
  cases o with
  | none=>simp! [ab];exact ⟨λh=>⟨none,rfl,h⟩,λ⟨o,e,h⟩=>by cases e;exact h⟩
  | some u =>
   simp! [];by_cases hf:AH t σ=true
   .simp only [hf,if_true]
    cases e2:Ah t u σ with
    | none=>simp! [ab];exact ⟨λh=>h.elim,λ⟨_,e,h⟩=>by cases e;let ⟨_,_,e,_⟩:=h;rw [e2] at e;cases e⟩
    | some σ1 =>
     simp! [];refine Iff.trans ?_ ⟨λh=>⟨some u,rfl,trivial,σ1,e2,h⟩,λ⟨o,e,h⟩=>by cases e;let ⟨_,σ2,e,h⟩:=h;rw [e2] at e;cases e;exact h⟩
     cases rest with
     | nil =>
      refine (aA (by sleep 9) (by intro k g;cases k;exact mM _ _ _ _ _ _ _ _ _;refine mBB (mE _ _ _) λv g => ?_;by_cases h:acc.length < Ae;simp! [h,if_true];exact mM _ _ _ _ _ _ _ _ _;simp! [h,if_false];exact mK _)).trans (wp_congr λk g => ?_)
      cases k
      .exact Iff.rfl
      .refine Iff.trans (aA (by sleep 9) (by intro v g;by_cases h:acc.length < Ae;simp! [h,if_true];exact mM _ _ _ _ _ _ _ _ _;simp! [h,if_false];exact mK _)) (wp_congr λv g => ?_)
       by_cases h:acc.length < Ae
       .simp only [h,if_true];exact ⟨λq=>⟨trivial,q⟩,λq=>q.2⟩
       .simp only [h,if_false];exact ⟨λ⟨_,q⟩=>q.elim,λq=>q.1.elim⟩
     | cons t2 rest2 =>
      let ⟨t2,it2,cs2⟩:=t2;refine (aA (by sleep 9) (by intro k g;cases k;exact mM _ _ _ _ _ _ _ _ _;exact mBB (mI _ _ _) λ_ _=>mBB (mM _ _ _ _ _ _ _ _ _) λ_ _=>mM _ _ _ _ _ _ _ _ _)).trans (wp_congr λk g => ?_)
      cases k
      .exact Iff.rfl
      .refine Iff.trans (aA (by sleep 9) (by sleep 9)) (wp_congr λj g => ?_)
       exact aA (by sleep 9) (by sleep 9)
   .have hf':AH t σ=false:=by cases h:AH t σ;rfl;exact absurd h hf
    simp! [hf'];exact ⟨λ⟨_,h⟩=>h.elim,λ⟨_,e,h⟩=>by cases e;exact absurd h.1 #[3]⟩
def zI{f:Nat}{F:Fn}(hf:fns[f]? = some F)(hl:us.length=F.np):JC fns (d+1) f us g X Q ↔ wpS fns d F.body (us.map some++List.replicate (F.ns - us.length) none) g X λfl g=>match fl with
  | .rt u=>Q u g
  | .nx _=>Q .non g
  | _=>False:=by
 unfold JC;simp! [Aa,hf,BM,hl,if_true];refine (wp_bind (f:=λn=>#[10].ex F.body (us.map some++List.replicate (F.ns - F.np) none) g) (mS _ _ _) (by sleep 9)).trans (wp_congr λx g=>ab.trans ?_)
 cases x <;> exact Iff.rfl
def zi{f:Nat}(h:JC fns d f us g (λ_ _ _=>False) Q):∃ fu u g',Aa fns fu d f us g=.ok u g'/\Q u g':=by
 let ⟨n,h⟩:=h;have h:holds (Aa fns n d f us g) (λ_ _ _=>False) Q:=h;revert h;cases e:Aa fns n d f us g with
 | ok u g'=>exact λh=>⟨n,u,g',e,h⟩
 | exc c fs g=>exact λh=>h.elim
 | bad=>exact λh=>h.elim
end
section
variable{fns:List Fn}{X:XP}{σ σ':Su}
def qf{b:List S}{Q:Fl->G->Prop}:JI fns d (.whl c b) σ g X Q ↔ JU fns d c b σ g X (lk Q):=Iff.rfl
def abC{t:Tg}{it:E}{b:List S}{Q:Fl->G->Prop}:JI fns d (.for t it b) σ g X Q ↔ JH fns d it σ g X λi g=>JT fns d t i 0 b σ g X (lk Q):=acn
def aaf{e:E}{Q:Option Int->G->Prop}:JF fns d (some e) σ g X Q ↔ JD fns d e σ g X λu g=>JM (match u with | .int i=>some i | _=>none) <| lk λi=>Q (some i) g:=abu.trans (wp_congr λx g=>by
 cases x with
 | int z=>exact ⟨λ⟨_,e,h⟩=>(by cases e;exact h),λh=>⟨z,rfl,h⟩⟩
 | _=>exact ⟨λ⟨_,e,h⟩=>(by cases e),λh=>h.elim⟩)
section
def xw{a e:E}{cs:List Nat}{Q:Fl->G->Prop}:JI fns d (.fset a j cs e) σ g X Q ↔ JD fns d e σ g X λu g=>JD fns d a σ g X λx g=>JM (A8 x j cs u g) <| lk λg'=>Q (.nx σ) g':=by simp! [aaZ,aG]
end
section
variable{Q:Bool->G->Prop}
def acK{a b:E}:JE fns d (.and a b) σ g X Q ↔ JE fns d a σ g X λk g=>JN k (lk (JE fns d b σ g X Q)) (lk (Q false g)):=acU.trans (wp_congr λk g=>bQ)
def t_or{a b:E}:JE fns d (.or a b) σ g X Q ↔ JE fns d a σ g X λk g=>JN k (lk (Q true g)) (lk (JE fns d b σ g X Q)):=T_or.trans (wp_congr λk g=>bQ)
def adz{a b:E}:JE fns d (.ite c a b) σ g X Q ↔ JE fns d c σ g X λk g=>JN k (lk (JE fns d a σ g X Q)) (lk (JE fns d b σ g X Q)):=adj.trans (wp_congr λk g=>bQ)
def t_e{e:E}(h:plainT e=true):JE fns d e σ g X Q ↔ JD fns d e σ g X λx g=>JM (Jb x g) <| lk λc=>Q c g:=(T_e h).trans (wp_congr λx g=>aG)
def aap:JG fns d (c :: cs) σ g X Q ↔ JE fns d c σ g X λk g=>JN k (lk (JG fns d cs σ g X Q)) (lk (Q false g)):=zM.trans (wp_congr λk g=>bQ)
end
section
variable{Q:Iter->G->Prop}
def Ak(j:Int):Bool := @decide (-1000000 < j/\j < 1000000) (Classical.propDecidable _)
def az{j:Int}(h : -1000000 < j)(h':j < 1000000):Ak j=true:=by unfold Ak;exact @decide_eq_true _ (Classical.propDecidable _) ⟨h,h'⟩
def aaK{a:E}:JH fns d (.rng1 a) σ g X Q ↔ JD fns d a σ g X λu g=>JM (match u with | .int i=>some i | _=>none) <| lk λj=>JN (Ak j) (lk (Q (.rng 0 j.toNat) g)) (lk False):=aaJ.trans (wp_congr λu g=>by
 cases u with
 | int i =>
  show _ ↔ JN (Ak i) (lk _) (lk _);by_cases h : -1000000 < i/\i < 1000000
  .rw [show Ak i=true by unfold Ak;exact @decide_eq_true _ (Classical.propDecidable _) h]
   exact ⟨λ⟨_,e,_,q⟩=>(by cases e;exact q),λq=>⟨i,rfl,h,q⟩⟩
  .rw [show Ak i=false by unfold Ak;exact @decide_eq_false _ (Classical.propDecidable _) h]
   exact ⟨λ⟨_,e,q,_⟩=>(by cases e;exact h q),λq=>q.elim⟩
 | _=>exact ⟨λ⟨_,e,h⟩=>(by cases e),λh=>h.elim⟩)
def aag{a b:E}:JH fns d (.rng2 a b) σ g X Q ↔ JD fns d a σ g X λu g=>JD fns d b σ g X λw g=>JM (match u with | .int i=>some i | _=>none) <| lk λi=>JM (match w with | .int i=>some i | _=>none) <| lk λj=>JN (Ak i && Ak j) (lk (Q (.rng i (j - i).toNat) g)) (lk False):=zW.trans (wp_congr λu g=>wp_congr λw g=>by
 cases u with
 | int i =>
  cases w with
  | int j =>
   show _ ↔ JN (Ak i && Ak j) (lk _) (lk _);by_cases h:(Ak i && Ak j)=true
   .rw [h]
    have h':=h;simp! [Ak,Bool.and_eq_true,decide_eq_true_eq] at h';exact ⟨λ⟨_,_,e,e',_,q⟩=>(by cases e;cases e';exact q),λq=>⟨i,j,rfl,rfl,⟨h'.1.1,h'.1.2,h'.2.1,h'.2.2⟩,q⟩⟩
   .rw [Bool.not_eq_true] at h
    rw [h];exact ⟨λ⟨_,_,e,e',q,_⟩=>by cases e;cases e';simp [Ak,q] at h,λq=>q.elim⟩
  | _=>exact ⟨λ⟨_,_,e,e',h⟩=>(by cases e'),λh=>h.elim⟩
 | _=>exact ⟨λ⟨_,_,e,h⟩=>(by cases e),λh=>h.elim⟩)
def Bt(u:U)(g:G):Option (Iter×G):=match u with
 | .tup xs=>some (.seq xs,g)
 | .xn _ xs=>some (.seq xs,g)
 | .ref n=>match g[n]? with
  | some (.lst _)=>some (.lst n,g)
  | some (.dic kvs)=>some (.dic n,g.set n (.dif kvs))
  | some (.dif _)=>some (.dic n,g)
  | _=>none
 | _=>none
def i_e{e:E}(h:CW e=true):JH fns d e σ g X Q ↔ JD fns d e σ g X λu g=>JM (Bt u g) <| lk λp=>Q p.1 p.2:=(I_e h).trans (wp_congr λu g=>by
 cases u with
 | ref n =>
  simp! [Bt];cases g[n]? with
  | none=>exact Iff.rfl
  | some o=>cases o <;> exact Iff.rfl
 | _=>exact Iff.rfl)
def adp{a b:E}:JH fns d (.zip a b) σ g X Q ↔ JD fns d a σ g X λu g=>JD fns d b σ g X λw g=>JM (Jg u g) <| lk λk=>JM (Jg w g) <| lk λm=>Q (.zip k m) g:=by simp! [acv,aG]
def ac0{a:E}:JH fns d (.enm a) σ g X Q ↔ JD fns d a σ g X λu g=>JM (Jg u g) <| lk λk=>Q (.enm k) g:=by simp! [acB,aG]
end
section
variable{Q:Fl->G->Prop}
def abd{s:S}{ss:List S}:wpS fns d (s :: ss) σ g X Q ↔ JI fns d s σ g X λf g=>JO f (lk (λσ'=>wpS fns d ss σ' g X Q)) (lk λf=>Q f g):=zp.trans (wp_congr λf g=>by cases f <;> exact Iff.rfl)
def abx{t:Tg}{e:E}:JI fns d (.set t e) σ g X Q ↔ JD fns d e σ g X λu g=>JM (Ah t (Jj t u g) σ) <| lk λσ'=>Q (.nx σ') g:=acN.trans (wp_congr λx g=>aG)
def aaD{a b:E}:JI fns d (.par i j a b) σ g X Q ↔ JD fns d a σ g X λu g=>JD fns d b σ g X λw g=>JN (decide (i < σ.length) && decide (j < σ.length)) (lk (Q (.nx ((σ.set i (some u)).set j (some w))) g)) (lk False):=acV.trans (wp_congr λx g=>wp_congr λy g=>by
 by_cases h:i < σ.length <;> by_cases k:j < σ.length <;> simp [h,k,JN])
def abS{o i:E}:JI fns d (.del o i) σ g X Q ↔ JD fns d o σ g X λx g=>JD fns d i σ g X λy g=>hk (CF x y σ g) X (lk Q):=acW
def abQ{o i e:E}:JI fns d (.sub o i e) σ g X Q ↔ JD fns d e σ g X λu g=>JD fns d o σ g X λx g=>JD fns d i σ g X λy g=>hk (subAt x y u σ g) X (lk Q):=ac4
def zL{e:E}:JI fns d (.aug i op e) σ g X Q ↔ JM σ[i]? (lk λo=>JM o (lk λx=>JD fns d e σ g X λy g=>JM (Ci op x y) (lk λz=>Q (.nx (σ.set i (some z))) g))):=acD.trans (by
 cases σ[i]? with
 | none=>exact ⟨λ⟨_,e,_⟩=>(by cases e),λh=>h.elim⟩
 | some o=>cases o with
  | none=>exact ⟨λ⟨_,e,_⟩=>(by cases e),λh=>h.elim⟩
  | some a=>exact ⟨λ⟨_,e,h⟩=>by cases e;exact (wp_congr λy g=>aG).1 h,λh=>⟨a,rfl,(wp_congr λy g=>aG).2 h⟩⟩)
def aaC{a b:List S}:JI fns d (.ife c a b) σ g X Q ↔ JE fns d c σ g X λk g=>JN k (lk (wpS fns d a σ g X Q)) (lk (wpS fns d b σ g X Q)):=ads.trans (wp_congr λk g=>bQ)
def abO{b:List S}:JJ fns d c b σ g X Q ↔ JE fns d c σ g X λk g=>JN k (lk (wpS fns d b σ g X λf g=>JP f (lk (λσ'=>JJ fns d c b σ' g X Q)) (lk λf=>Q f g))) (lk (Q (.nx σ) g)):=zN.trans (wp_congr λk g=>bQ.trans (by
 cases k
 .exact Iff.rfl
 .exact wp_congr λf g=>by cases f <;> exact Iff.rfl))
def pH{f:Nat}{F:Fn}{Q:U->G->Prop}(hf:fns[f]? = some F)(hl:us.length=F.np):JC fns (d+1) f us g X Q ↔ wpS fns d F.body (us.map some++List.replicate (F.ns - us.length) none) g X λfl g=>JQ fl <| lk λu=>Q u g:=(zI hf hl).trans (wp_congr λf g=>by cases f <;> exact Iff.rfl)
def cG{t:Tg}{it:Iter}{b:List S}(us:List U)(Inv:Nat->Su->G->Prop)
  (hn:∀ k σ g,Inv k σ g->next it k g=some us[k]?)
  (hs:∀ k u σ g,us[k]? = some u->Inv k σ g->JM (Ah t u σ) (lk λσ1=>wpS fns d b σ1 g X λf g=>JP f (lk (λσ'=>Inv (k+1) σ' g)) (lk λf=>Q f g)))
  (hq:∀ σ g,Inv us.length σ g->Q (.nx σ) g):∀ (n i:Nat) (σ:Su) (g:G),i+n=us.length->Inv i σ g->JK fns d t it i b σ g X Q
 | 0,i,σ,g,e,h=>by
  have e:i=us.length:=by omega
  subst e;rw [nV];exact ⟨none,by rw [hn _ _ _ h];simp,hq _ _ h⟩
 | n+1,i,σ,g,e,h=>by
  have hi:i < us.length:=by omega
  rw [nV];let ⟨σ1,e1,w⟩:=aG.2 (hs i us[i] σ g (List.getElem?_eq_getElem hi) h);refine ⟨some us[i],by rw [hn _ _ _ h,List.getElem?_eq_getElem hi],σ1,e1,wp_mono w λf g q => ?_⟩
  cases f with
  | nx σ'=>exact cG us Inv hn hs hq n (i+1) σ' g () q
  | ct σ'=>exact cG us Inv hn hs hq n (i+1) σ' g () q
  | bk σ'=>exact q
  | rt u=>exact q
def rJ{b:List S}(Inv:Nat->Su->G->Prop)
  (hs:∀ n σ g,Inv n σ g->JE fns d c σ g X λk g=>JN k (lk (wpS fns d b σ g X λf g=>JP f (lk (λσ' => ∃ m,m < n/\Inv m σ' g)) (lk λf=>Q f g))) (lk (Q (.nx σ) g))):∀ (n:Nat) (σ:Su) (g:G),Inv n σ g->JJ fns d c b σ g X Q:=by
 intro n
 induction n using Nat.strongRecOn with
 | _ n ih =>
  intro σ g h;rw [abO];refine wp_mono (hs n σ g h) λk g q => ?_;cases k
  .exact q
  .refine wp_mono q λf g q => ?_
   cases f with
   | nx σ'=>let ⟨m,hm,q⟩:=q;exact ih m hm _ _ q
   | ct σ'=>let ⟨m,hm,q⟩:=q;exact ih m hm _ _ q
   | bk σ'=>exact q
   | rt u=>exact q
end
def JV{α:Type}(o:Option α){A:Prop}{Q:α->Prop}(_:Lk A)(_:Lk Q):Prop:=match o with
 | none=>A
 | some a=>Q a
def tL{A:Prop}{Q:α->Prop}:JV none (lk A) (lk Q)=A:=propext Iff.rfl
def tm{a:α}{A:Prop}{Q:α->Prop}:JV (some a) (lk A) (lk Q)=Q a:=propext Iff.rfl
end
section
variable{fns:List Fn}{X:XP}{σ:Su}
def zk{f:Nat}{es ks:List E}:JD fns d (.callk f es ks pm) σ g X Q ↔ Am fns d es σ g nX λus g=>Am fns d ks σ g nX λws g=>us.length=es.length/\ws.length=ks.length/\JR fns d f (perm (us++ws) pm) g X (lk Q):=by
 refine ag.trans ?_
 delta Jm;dsimp only;simp! [dS]
 have hm:∀ (us ws:List U) (g:G),Av λn=>if us.length=es.length/\ws.length=ks.length then Aa fns n d f (perm (us++ws) pm) g else .bad:=λus ws g=>by
  split
  .exact mC _ _ _
  .exact mK _
 refine (aA (mEs _ _ _) λus g=>mBB (mEs _ _ _) λws g=>hm us ws g).trans (wp_congr λus g => ?_);refine (aA (mEs _ _ _) λws g=>hm us ws g).trans (wp_congr λws g => ?_);split
 .rename_i h;exact ⟨λq=>⟨h.1,h.2,q⟩,λq=>q.2.2⟩
 .rename_i h;exact ⟨λ⟨_,q⟩=>q.elim,λq=>(h ⟨q.1,q.2.1⟩).elim⟩
end
def AS(f:E->Su->Option U):List E->Su->Option (List U)
 | [],_=>some []
 | e :: es,σ=>match f e σ with
  | some u=>match AS f es σ with
   | some us=>some (u :: us)
   | none=>none
  | none=>none
def BJ(x y:Option U):Option U:=match x with
 | some (.int i)=>match y with
  | some (.int j)=>some (.int (i+j))
  | _=>none
 | _=>none
def BX(x y:Option U):Option U:=match x with
 | some (.int i)=>match y with
  | some (.int j)=>some (.int (i - j))
  | _=>none
 | _=>none
def tupP(x:Option (List U)):Option U:=match x with
 | some us=>match Nat.ble us.length 1000 with
  | true=>some (.tup us)
  | false=>none
 | none=>none
def JW(x:Option U)(k:Int):Option U:=match x with
 | some (.tup xs)=>Jc xs k
 | _=>none
def DY(o:Option (Option U)):Option U:=match o with
 | some o=>o
 | none=>none
def JX:Nat->E->Su->Option U
 | 0,_,_=>none
 | n+1,e,σ=>match e with
  | .var i=>DY σ[i]?
  | .cst u=>some u
  | .tup es=>tupP (AS (JX n) es σ)
  | .bin .add a b=>BJ (JX n a σ) (JX n b σ)
  | .bin .sub a b=>BX (JX n a σ) (JX n b σ)
  | .idx a (.cst (.int k))=>JW (JX n a σ) k
  | _=>none
section
variable{fns:List Fn}{X:XP}{σ:Su}
def pEs{f:E->Su->Option U}(hf:∀ e u (Q:U->G->Prop),f e σ=some u->(JD fns d e σ g X Q ↔ Q u g)):∀ (es:List E) (us:List U) (Q:List U->G->Prop),AS f es σ=some us->(Am fns d es σ g X Q ↔ Q us g)
 | [],us,Q,h=>by cases h;exact qa
 | e :: es,us,Q,h=>by
  cases he:f e σ with
  | none=>simp! [AS,he] at h;cases h
  | some u =>
   cases hs:AS f es σ with
   | none=>simp! [AS,he,hs] at h;cases h
   | some us' =>
    simp! [AS,he,hs] at h;cases h;exact ly.trans ((hf e u _ he).trans (pEs hf es us' _ hs))
def sE{f:Option U->Option U->Option U}{a b:E}{x y:Option U}{u:U}{Q:U->G->Prop}(ha:∀ u (Q:U->G->Prop),x=some u->(JD fns d a σ g X Q ↔ Q u g))(hb:∀ u (Q:U->G->Prop),y=some u->(JD fns d b σ g X Q ↔ Q u g))(hf:f x y=some u)(k:∀ u,f x y=some u -> ∃ i j,x=some (.int i)/\y=some (.int j)/\IX op (.int i) (.int j)=some u):JD fns d (.bin op a b) σ g X Q ↔ Q u g:=by
 let ⟨i,j,e1,e2,e3⟩:=k u hf;refine qW.trans ((ha _ _ e1).trans ((hb _ _ e2).trans ?_));rw [tD,e3,eG]
def pE:∀ (n:Nat) (e:E) (u:U) (Q:U->G->Prop),JX n e σ=some u->(JD fns d e σ g X Q ↔ Q u g)
 | 0,_,_,_,h=>by cases h
 | n+1,e,u,Q,h=>by
  have ih:=pE n;unfold JX at h;split at h
  .rename_i i
   refine sS.trans ?_;cases hs:σ[i]? with
   | none=>rw [hs] at h;cases h
   | some o=>rw [hs] at h;have h:o=some u:=h;subst h;exact Iff.rfl
  .cases h;exact qF
  .rename_i es
   cases hs:AS (JX n) es σ with
   | none=>rw [hs] at h;cases h
   | some us =>
    rw [hs] at h;simp! [tupP] at h;cases hb:Nat.ble us.length 1000 with
    | true =>
     rw [hb] at h;cases h;refine rF.trans ((pEs (λe u Q h=>ih e u Q h) es us _ hs).trans ?_);rw [fZ (by have:=Nat.le_of_ble_eq_true hb;omega),hJ]
    | false=>rw [hb] at h;cases h
  .rename_i a b
   refine sE (f:=BJ) (λu Q h=>ih a u Q h) (λu Q h=>ih b u Q h) h λu h => ?_;unfold BJ at h;split at h
   .split at h
    .cases h;exact ⟨_,_,‹_›,‹_›,rfl⟩
    .cases h
   .cases h
  .rename_i a b
   refine sE (f:=BX) (λu Q h=>ih a u Q h) (λu Q h=>ih b u Q h) h λu h => ?_;unfold BX at h;split at h
   .split at h
    .cases h;exact ⟨_,_,‹_›,‹_›,rfl⟩
    .cases h
   .cases h
  .rename_i a k
   cases ha:JX n a σ with
   | none=>rw [ha] at h;cases h
   | some x =>
    rw [ha] at h;refine sx.trans ((ih a x _ ha).trans (qF.trans ?_));cases x with
    | tup xs =>
     have h:Jc xs k=some u:=h;show JM (Jc xs k) (lk _) ↔ _;rw [h,eG]
    | _=>cases h
  .cases h
def JY(fns:List Fn)(d:Nat)(e:E)(σ:Su)(g:G)(X:XP)(Q:U->G->Prop):Prop:=JD fns d e σ g X Q
def JZ(fns:List Fn)(d:Nat)(es:List E)(σ:Su)(g:G)(X:XP)(Q:List U->G->Prop):Prop:=Am fns d es σ g X Q
def p_E{e:E}:JD fns d e σ g X Q=JV (JX 8 e σ) (lk (JY fns d e σ g X Q)) (lk λu=>Q u g):=propext (by
 cases h:JX 8 e σ with
 | none=>exact Iff.rfl
 | some u=>exact pE 8 e u Q h)
def p_Es{es:List E}{Q:List U->G->Prop}:Am fns d es σ g X Q=JV (AS (JX 8) es σ) (lk (JZ fns d es σ g X Q)) (lk λus=>Q us g):=propext (by
 cases h:AS (JX 8) es σ with
 | none=>exact Iff.rfl
 | some us=>exact pEs (λe u Q h=>pE 8 e u Q h) es us Q h)
def lA{own:Nat}{t:Tg}{it:E}{rest:List (Tg×E×List E)}{k v:E}:JY fns d (.dcmp own fr ((t,it,cs) :: rest) k v) σ g X Q ↔ JH fns d it σ g X λi g=>JS fns d i 0 t cs rest (.pair k v) [] (List.replicate own none++fr.map λj=>(σ[j]?).getD none) g (λ_ _ _=>False) (lk λus g=>JM (dfold us []) <| lk λkvs=>Q (.ref g.length) (g++[.dic kvs])):=aac
def kH{k v:E}:JY fns d (.pair k v) σ g X Q ↔ JD fns d k σ g X λx g=>JD fns d v σ g X λy g=>JM (keyOf x) <| lk λ_=>Q (.tup [x,y]) g:=aau
def oP{o k x:E}:JY fns d (.dgt o k x) σ g X Q ↔ JD fns d o σ g X λy g=>JM (I0 y g) <| lk λ_=>JD fns d k σ g X λz g=>JD fns d x σ g X λw g=>JM (Aj z y g) <| lk λq=>Q (q.getD w) g:=adE
def lj{own:Nat}{t:Tg}{it:E}{rest:List (Tg×E×List E)}:JY fns d (.comp own fr ((t,it,cs) :: rest) elt) σ g X Q ↔ JH fns d it σ g X λi g=>JS fns d i 0 t cs rest elt [] (List.replicate own none++fr.map λj=>(σ[j]?).getD none) g (λ_ _ _=>False) (lk λus g=>us.length<=Ae/\Q (.ref g.length) (g++[.lst us])):=ab9
def lh{ks:List PySem.Str}{es:List E}:JY fns d (.ddsp ks es) σ g X Q ↔ Am fns d es σ g X λus g=>Q (.ref g.length) (g++[.dst (ks.zip us)]):=aa9
def lX:JY fns d .dnew σ g X Q ↔ Q (.ref g.length) (g++[.dic []]):=abo
def abt:JY fns d (.var i) σ g X Q ↔ JM σ[i]? (lk λo=>JM o (lk λu=>Q u g)):=sS
end
section
variable{σ:Su}
def si{f:E->Su->Option U}:AS f [] σ=some []:=rfl
def oe{f:E->Su->Option U}{e:E}{es:List E}:AS f (e :: es) σ=match f e σ with
  | some u=>match AS f es σ with
   | some us=>some (u :: us)
   | none=>none
  | none=>none:=rfl
def qY:JX (n+1) (.var i) σ=DY σ[i]? := rfl
def qv:JX (n+1) (.cst u) σ=some u:=rfl
def sy{es:List E}:JX (n+1) (.tup es) σ=tupP (AS (JX n) es σ):=rfl
def qL{a b:E}:JX (n+1) (.bin .add a b) σ=BJ (JX n a σ) (JX n b σ):=rfl
def rf{a b:E}:JX (n+1) (.bin .sub a b) σ=BX (JX n a σ) (JX n b σ):=rfl
def sr{a:E}{k:Int}:JX (n+1) (.idx a (.cst (.int k))) σ=JW (JX n a σ) k:=rfl
def pd{o:Option U}:DY (some o)=o:=rfl
def nA{a:U}:tupP (some [a])=some (.tup [a]):=rfl
def oJ{a b:U}:tupP (some [a,b])=some (.tup [a,b]):=rfl
def qg{a b c:U}:tupP (some [a,b,c])=some (.tup [a,b,c]):=rfl
def pO{a b c d:U}:tupP (some [a,b,c,d])=some (.tup [a,b,c,d]):=rfl
def oZ{a b c d e:U}:tupP (some [a,b,c,d,e])=some (.tup [a,b,c,d,e]):=rfl
def pP{a b c d e f:U}:tupP (some [a,b,c,d,e,f])=some (.tup [a,b,c,d,e,f]):=rfl
def pV{a b c d e f g:U}:tupP (some [a,b,c,d,e,f,g])=some (.tup [a,b,c,d,e,f,g]):=rfl
def oW{a b c d e f g h:U}:tupP (some [a,b,c,d,e,f,g,h])=some (.tup [a,b,c,d,e,f,g,h]):=rfl
def nt:tupP none=none:=rfl
def mj{i j:Int}:BJ (some (.int i)) (some (.int j))=some (.int (i+j)):=rfl
def pv{i j:Int}:BX (some (.int i)) (some (.int j))=some (.int (i - j)):=rfl
def nJ{y:Option U}:BJ none y=none:=rfl
def oR{y:Option U}:BX none y=none:=rfl
def oQ{i:Int}:BJ (some (.int i)) none=none:=rfl
def pb{i:Int}:BX (some (.int i)) none=none:=rfl
def pK{y:Option U}:BJ (some (.ref i)) y=none:=rfl
def sJ{k:Int}:JW (some (.tup xs)) k=Jc xs k:=rfl
def so{k:Int}:JW (some (.ref n)) k=none:=rfl
def qU{k:Int}:JW (some (.fro xs)) k=none:=rfl
def sF{c:Nat}{k:Int}:JW (some (.xn c xs)) k=none:=rfl
def qQ{k:Int}:JW none k=none:=rfl
def sk{a b:E}:JX (n+1) (.bin .mul a b) σ=none:=rfl
def nT{a b:E}:JX (n+1) (.bin .fdiv a b) σ=none:=rfl
def rD{a b:E}:JX (n+1) (.bin .mod a b) σ=none:=rfl
def rR{a b:E}:JX (n+1) (.bin .pow a b) σ=none:=rfl
def rX{o:Cp}{a b:E}:JX (n+1) (.cmp o a b) σ=none:=rfl
def kO{o q:Cp}{a b:E}:JX (n+1) (.chain o q a b c) σ=none:=rfl
def rQ{a b:E}:JX (n+1) (.and a b) σ=none:=rfl
def tF{a b:E}:JX (n+1) (.or a b) σ=none:=rfl
def sG{a:E}:JX (n+1) (.not a) σ=none:=rfl
def sP{a:E}:JX (n+1) (.neg a) σ=none:=rfl
def qP{a b:E}:JX (n+1) (.ite c a b) σ=none:=rfl
def sR{es:List E}:JX (n+1) (.lst es) σ=none:=rfl
def rm{a:E}{lo hi:Option E}:JX (n+1) (.slc a lo hi) σ=none:=rfl
def qX{a:E}:JX (n+1) (.rev a) σ=none:=rfl
def pA{f:Nat}{es:List E}:JX (n+1) (.call f es) σ=none:=rfl
def q0{a:E}{cs:List Nat}:JX (n+1) (.fld a j cs) σ=none:=rfl
def kP{f:Nat}{es ks:List E}:JX (n+1) (.callk f es ks pm) σ=none:=rfl
def mq{c f:Nat}{es ks:List E}:JX (n+1) (.make c f es ks pm) σ=none:=rfl
def sZ{op:Cp}{a b:E}:JX (n+1) (.oeq op tb a b) σ=none:=rfl
def mP{a:E}{es ks:List E}:JX (n+1) (.meth a j tb es ks) σ=none:=rfl
def oY{c:Bool}{a:E}:JX (n+1) (.revm c a) σ=none:=rfl
def q_bi{b:Bi}{es:List E}:JX (n+1) (.bi b es) σ=none:=rfl
def qR{a:E}{t:Ty}:JX (n+1) (.isi a t) σ=none:=rfl
def rZ{o v:E}:JX (n+1) (.app o v) σ=none:=rfl
def oI{o v:E}:JX (n+1) (.popi o v) σ=none:=rfl
def rg{o v:E}:JX (n+1) (.ext o v) σ=none:=rfl
def sv{o:E}:JX (n+1) (.pop o) σ=none:=rfl
def oG  : JX (n+1) .dnew σ=none:=rfl
def oU{e:E}:JX (n+1) (.comp m fr gs e) σ=none:=rfl
def pX{ks:List PySem.Str}{es:List E}:JX (n+1) (.ddsp ks es) σ=none:=rfl
def qG{o k x:E}:JX (n+1) (.dgt o k x) σ=none:=rfl
def pI{k v:E}:JX (n+1) (.pair k v) σ=none:=rfl
def pk{k v:E}:JX (n+1) (.dcmp m fr gs k v) σ=none:=rfl
def sm{a:E}:JX (n+1) (.idx a (.var i)) σ=none:=rfl
def rH{a:E}{f:Nat}{es:List E}:JX (n+1) (.idx a (.call f es)) σ=none:=rfl
def qz{a:E}{es:List E}:JX (n+1) (.idx a (.tup es)) σ=none:=rfl
def sQ{a b:E}{o:Op}:JX (n+1) (.idx a (.bin o b c)) σ=none:=rfl
def tf{a:E}{s:PySem.Str}:JX (n+1) (.idx a (.cst (.str s))) σ=none:=rfl
def sA{a b:E}:JX (n+1) (.idx a (.idx b c)) σ=none:=rfl
def r9{a b:E}:JX (n+1) (.idx a (.neg b)) σ=none:=rfl
end
section
variable{fns:List Fn}{X:XP}{σ:Su}{QF:Fl->G->Prop}{QB:Bool->G->Prop}{QI:Iter->G->Prop}{QL:List U->G->Prop}{QO:Option Int->G->Prop}{cp:Cp}{cq:Cp}{a:E}{b:E}{e:E}{it:E}{o:E}{v:E}{k:Nat}{f:Nat}{cc:Nat}{cs:List Nat}{es:List E}{ks:List E}{p:Nat×List (Nat ⊕ U)}{x:U}{y:U}{w:U}{ws:List U}{lo:Option E}{hi:Option E}{l:Option Int}{h:Option Int}{t:Tg}{ty:Ty}{z:Bool}{n:Int}{s:S}{ss:List S}{A:List S}{B:List S}{ao:Op}{st:Su}{bb:Bi}{it2:Iter}{pq:Iter×G}{g2:G}{nn:Nat}{ces:List E}{os:Option U}
def KV{α:Type}(g:G)(Q:α->G->Prop)(a:α):Prop:=Q a g
theorem KV_s{Q:α->G->Prop}{a:α}:JM (some a) #[47]=Q a g:=propext Iff.rfl
theorem KV_c{Q:α->G->Prop}{a:α}{A:Prop}:JV (some a) (lk A) #[47]=Q a g:=propext Iff.rfl
theorem KV_n{Q:α->G->Prop}{A:Prop}:JV none (lk A) #[47]=A:=propext Iff.rfl
theorem KV_a{Q:α->G->Prop}{a:α}:KV g Q a=Q a g:=propext Iff.rfl
def k_E  : JD fns d e σ g X Q=JV (JX 8 e σ) (lk (JY fns d e σ g X Q)) #[47]:=p_E
def tK  : Am fns d es σ g X QL=JV (AS (JX 8) es σ) (lk (JZ fns d es σ g X QL)) (lk (KV g QL)):=p_Es
def KB(g:G)(Q:U->G->Prop)(z:Bool):Prop:=Q (.bl z) g
theorem KB_s  : JM (some z) (lk (KB g Q))=(Q (.bl z) g):=propext Iff.rfl
def tB  : KB g Q z=(Q (.bl z) g):=propext Iff.rfl
def Kl2(u:U)(QL:List U->G->Prop)(us:List U)(g:G):Prop:=QL (u :: us) g
def rG  : Kl2 u QL us g=(QL (u :: us) g):=propext Iff.rfl
def Kl1(fns:List Fn)(d:Nat)(es:List E)(σ:Su)(X:XP)(QL:List U->G->Prop)(u:U)(g:G):Prop:=Am fns d es σ g X (Kl2 u QL)
def qr  : Kl1 fns d es σ X QL u g=(Am fns d es σ g X (Kl2 u QL)):=propext Iff.rfl
def ab4  : JZ fns d [] σ g X QL ↔ QL [] g:=qa
def k8  : JZ fns d (e :: es) σ g X QL ↔ JD fns d e σ g X (Kl1 fns d es σ X QL):=ly
def DO(op:Op)(x:U)(X:XP)(Q:U->G->Prop)(y:U)(g:G):Prop:=ob op x y g X (lk Q)
def lr  : DO op x X Q y g=(ob op x y g X (lk Q)):=propext Iff.rfl
def Fx(fns:List Fn)(d:Nat)(op:Op)(b:E)(σ:Su)(X:XP)(Q:U->G->Prop)(x:U)(g:G):Prop:=JD fns d b σ g X (DO op x X Q)
def kq  : Fx fns d op b σ X Q x g=(JD fns d b σ g X (DO op x X Q)):=propext Iff.rfl
def rB  : JY fns d (.bin op a b) σ g X Q ↔ JD fns d a σ g X (Fx fns d op b σ X Q):=qW
def tj{i:Int}{y:U}{X:XP}:ob op (.int i) y g X (lk Q)=JM (IX op (.int i) y) #[47]:=tD
def BP(cp:Cp)(x:U)(Q:U->G->Prop)(y:U)(g:G):Prop:=JM (Ja cp x y g) (lk (KB g Q))
def lT  : BP cp x Q y g=(JM (Ja cp x y g) (lk (KB g Q))):=propext Iff.rfl
def FQ(fns:List Fn)(d:Nat)(cp:Cp)(b:E)(σ:Su)(X:XP)(Q:U->G->Prop)(x:U)(g:G):Prop:=JD fns d b σ g X (BP cp x Q)
def lK  : FQ fns d cp b σ X Q x g=(JD fns d b σ g X (BP cp x Q)):=propext Iff.rfl
def sY  : JY fns d (.cmp cp a b) σ g X Q ↔ JD fns d a σ g X (FQ fns d cp b σ X Q):=adf
def Dn(fns:List Fn)(d:Nat)(cq:Cp)(y:U)(c:E)(σ:Su)(g:G)(X:XP)(Q:U->G->Prop)(z:Bool):Prop:=JN z (lk (JD fns d c σ g X (BP cq y Q))) #[36]
def aaF  : JM (some z) (lk (Dn fns d cq y c σ g X Q))=(JN z (lk (JD fns d c σ g X (BP cq y Q))) #[36]):=propext Iff.rfl
def pZ  : Dn fns d cq y c σ g X Q z=(JN z (lk (JD fns d c σ g X (BP cq y Q))) #[36]):=propext Iff.rfl
def El(fns:List Fn)(d:Nat)(cp:Cp)(cq:Cp)(x:U)(c:E)(σ:Su)(X:XP)(Q:U->G->Prop)(y:U)(g:G):Prop:=JM (Ja cp x y g) (lk (Dn fns d cq y c σ g X Q))
def o9  : El fns d cp cq x c σ X Q y g=(JM (Ja cp x y g) (lk (Dn fns d cq y c σ g X Q))):=propext Iff.rfl
def GK(fns:List Fn)(d:Nat)(cp:Cp)(cq:Cp)(b:E)(c:E)(σ:Su)(X:XP)(Q:U->G->Prop)(x:U)(g:G):Prop:=JD fns d b σ g X (El fns d cp cq x c σ X Q)
def ni  : GK fns d cp cq b c σ X Q x g=(JD fns d b σ g X (El fns d cp cq x c σ X Q)):=propext Iff.rfl
def lQ  : JY fns d (.chain cp cq a b c) σ g X Q ↔ JD fns d a σ g X (GK fns d cp cq b c σ X Q):=yK
def Gq(fns:List Fn)(d:Nat)(b:E)(σ:Su)(X:XP)(Q:U->G->Prop)(x:U)(g:G):Prop:=JM (match x with | .bl z=>some z | _=>none) <| lk λz=>JN z #[18] #[36]
def pJ{fns:List Fn}{b:E}{σ:Su}{X:XP}{z:Bool}:Gq fns d b σ X Q (.bl z) g=JN z #[18] #[36]:=propext Iff.rfl
def rT  : JY fns d (.and a b) σ g X Q ↔ JD fns d a σ g X (Gq fns d b σ X Q):=adm
def Kor(fns:List Fn)(d:Nat)(b:E)(σ:Su)(X:XP)(Q:U->G->Prop)(x:U)(g:G):Prop:=JM (match x with | .bl z=>some z | _=>none) <| lk λz=>JN z (lk (Q (.bl true) g)) #[18]
def su{fns:List Fn}{b:E}{σ:Su}{X:XP}{z:Bool}:Kor fns d b σ X Q (.bl z) g=JN z (lk (Q (.bl true) g)) #[18]:=propext Iff.rfl
def tw  : JY fns d (.or a b) σ g X Q ↔ JD fns d a σ g X (Kor fns d b σ X Q):=e_or
def Knt(g:G)(Q:U->G->Prop)(z:Bool):Prop:=Q (.bl !z) g
def acT  : JM (some z) (lk (Knt g Q))=(Q (.bl !z) g):=propext Iff.rfl
def sh  : Knt g Q z=(Q (.bl !z) g):=propext Iff.rfl
def Gj(Q:U->G->Prop)(x:U)(g:G):Prop:=JM (Jb x g) (lk (Knt g Q))
def oa  : Gj Q x g=(JM (Jb x g) (lk (Knt g Q))):=propext Iff.rfl
def qT  : JY fns d (.not a) σ g X Q ↔ JD fns d a σ g X (Gj Q):=acz
def GA(Q:U->G->Prop)(x:U)(g:G):Prop:=JM (match x with | .int i=>some i | _=>none) <| lk λi=>Q (.int (-i)) g
def mL{i:Int}:GA Q (.int i) g=Q (.int (-i)) g:=propext Iff.rfl
def sH  : JY fns d (.neg a) σ g X Q ↔ JD fns d a σ g X (GA Q):=acO
def Ga(fns:List Fn)(d:Nat)(a:E)(b:E)(σ:Su)(X:XP)(Q:U->G->Prop)(z:Bool)(g:G):Prop:=JN z (lk (JD fns d a σ g X Q)) #[18]
def abW  : Ga fns d a b σ X Q z g=(JN z (lk (JD fns d a σ g X Q)) #[18]):=propext Iff.rfl
def adD  : JY fns d (.ite c a b) σ g X Q ↔ JE fns d c σ g X (Ga fns d a b σ X Q):=acw
def Gx(Q:U->G->Prop)(us:List U)(g:G):Prop:=JN (Bc us.length) (lk (Q (.tup us) g)) (lk False)
def mz  : Gx Q us g=(JN (Bc us.length) (lk (Q (.tup us) g)) (lk False)):=propext Iff.rfl
def rp  : JY fns d (.tup es) σ g X Q ↔ Am fns d es σ g X (Gx Q):=rF
def Gn(Q:U->G->Prop)(us:List U)(g:G):Prop:=JN (Bc us.length) (lk (Q (.ref g.length) (g++[.lst us]))) (lk False)
def mH  : Gn Q us g=(JN (Bc us.length) (lk (Q (.ref g.length) (g++[.lst us]))) (lk False)):=propext Iff.rfl
def rn  : JY fns d (.lst es) σ g X Q ↔ Am fns d es σ g X (Gn Q):=acX
def D5(i:Int)(g:G)(Q:U->G->Prop)(xs:List U):Prop:=JM (Jc xs i) #[47]
def acj{i:Int}:JM (some xs) (lk (D5 i g Q))=JM (Jc xs i) #[47]:=propext Iff.rfl
def oC{i:Int}:D5 i g Q xs=JM (Jc xs i) #[47]:=propext Iff.rfl
def CM(x:U)(Q:U->G->Prop)(y:U)(g:G):Prop:=match y with | .tup us=>JM ((Aj (.tup us) x g).bind id) <| lk λz=>Q z g | .str k=>JM ((IZ x g).bind λkvs=>AU kvs k) <| lk λz=>Q z g | y=>JM (match y with | .int i=>some i | _=>none) <| lk λi=>JM (items x g) <| lk λxs=>JM (Jc xs i) <| lk λz=>Q z g
def oA{x:U}{i:Int}:CM x Q (.int i) g=JM (items x g) (lk (D5 i g Q)):=propext Iff.rfl
def m8{x:U}:CM x Q (.tup us) g=JM ((Aj (.tup us) x g).bind id) #[47]:=propext Iff.rfl
def nW{x:U}{k:PySem.Str}:CM x Q (.str k) g=JM ((IZ x g).bind λkvs=>AU kvs k) #[47]:=propext Iff.rfl
def Gu(fns:List Fn)(d:Nat)(b:E)(σ:Su)(X:XP)(Q:U->G->Prop)(x:U)(g:G):Prop:=JD fns d b σ g X (CM x Q)
def nR  : Gu fns d b σ X Q x g=(JD fns d b σ g X (CM x Q)):=propext Iff.rfl
def rS  : JY fns d (.idx a b) σ g X Q ↔ JD fns d a σ g X (Gu fns d b σ X Q):=sx
def D2(x:U)(l:Option Int)(X:XP)(Q:U->G->Prop)(h:Option Int)(g:G):Prop:=hk (CI x l h g) X (lk Q)
def l8  : D2 x l X Q h g=(hk (CI x l h g) X (lk Q)):=propext Iff.rfl
def Em(fns:List Fn)(d:Nat)(x:U)(hi:Option E)(σ:Su)(X:XP)(Q:U->G->Prop)(l:Option Int)(g:G):Prop:=JF fns d hi σ g X (D2 x l X Q)
def nG  : Em fns d x hi σ X Q l g=(JF fns d hi σ g X (D2 x l X Q)):=propext Iff.rfl
def Gv(fns:List Fn)(d:Nat)(lo:Option E)(hi:Option E)(σ:Su)(X:XP)(Q:U->G->Prop)(x:U)(g:G):Prop:=JF fns d lo σ g X (Em fns d x hi σ X Q)
def m7  : Gv fns d lo hi σ X Q x g=(JF fns d lo σ g X (Em fns d x hi σ X Q)):=propext Iff.rfl
def rA  : JY fns d (.slc a lo hi) σ g X Q ↔ JD fns d a σ g X (Gv fns d lo hi σ X Q):=adq
def Di(g:G)(Q:U->G->Prop)(xs:List U):Prop:=Q (.ref g.length) (g++[.lst xs.reverse])
def yv:JM (some xs) (lk (Di g Q))=Q (.ref g.length) (g++[.lst xs.reverse]):=propext Iff.rfl
def lD:Di g Q xs=Q (.ref g.length) (g++[.lst xs.reverse]):=propext Iff.rfl
def GO(Q:U->G->Prop)(x:U)(g:G):Prop:=JM (Cf x g) (lk (Di g Q))
def nq  : GO Q x g=(JM (Cf x g) (lk (Di g Q))):=propext Iff.rfl
def sM  : JY fns d (.rev a) σ g X Q ↔ JD fns d a σ g X (GO Q):=adu
def FD(fns:List Fn)(d:Nat)(f:Nat)(X:XP)(Q:U->G->Prop)(us:List U)(g:G):Prop:=JR fns d f us g X (lk Q)
def kE  : FD fns d f X Q us g=(JR fns d f us g X (lk Q)):=propext Iff.rfl
def nK  : JY fns d (.call f es) σ g X Q ↔ Am fns d es σ g nX (FD fns d f X Q):=zV
def GJ(j:Nat)(cs:List Nat)(Q:U->G->Prop)(x:U)(g:G):Prop:=JM ((AJ x g).bind (BE j cs)) #[47]
def nD  : GJ j cs Q x g=(JM ((AJ x g).bind (BE j cs)) #[47]):=propext Iff.rfl
def rY  : JY fns d (.fld a j cs) σ g X Q ↔ JD fns d a σ g X (GJ j cs Q):=acH
def D7(nn:Nat)(Q:U->G->Prop)(u:U)(g:G):Prop:=AE u=true/\Q (.ref nn) g
def mi  : D7 nn Q u g=(AE u=true/\Q (.ref nn) g):=propext Iff.rfl
def DW(fns:List Fn)(d:Nat)(cc:Nat)(f:Nat)(us:List U)(es:List E)(ks:List E)(pm:List (Nat ⊕ U))(X:XP)(Q:U->G->Prop)(ws:List U)(g:G):Prop:=us.length=es.length/\ws.length=ks.length/\JR fns d f (perm (.ref g.length :: us++ws) pm) (g++[.ins cc []]) X (lk (D7 g.length Q))
def oi  : DW fns d cc f us es ks pm X Q ws g=(us.length=es.length/\ws.length=ks.length/\JR fns d f (perm (.ref g.length :: us++ws) pm) (g++[.ins cc []]) X (lk (D7 g.length Q))):=propext Iff.rfl
def Kmk1(fns:List Fn)(d:Nat)(cc:Nat)(f:Nat)(es:List E)(ks:List E)(pm:List (Nat ⊕ U))(σ:Su)(X:XP)(Q:U->G->Prop)(us:List U)(g:G):Prop:=Am fns d ks σ g nX (DW fns d cc f us es ks pm X Q)
def mQ  : Kmk1 fns d cc f es ks pm σ X Q us g=(Am fns d ks σ g nX (DW fns d cc f us es ks pm X Q)):=propext Iff.rfl
def qp  : JY fns d (.make cc f es ks pm) σ g X Q ↔ Am fns d es σ g nX (Kmk1 fns d cc f es ks pm σ X Q):=aaP
def Eg(fns:List Fn)(d:Nat)(f:Nat)(us:List U)(es:List E)(ks:List E)(pm:List (Nat ⊕ U))(X:XP)(Q:U->G->Prop)(ws:List U)(g:G):Prop:=us.length=es.length/\ws.length=ks.length/\JR fns d f (perm (us++ws) pm) g X (lk Q)
def z9  : Eg fns d f us es ks pm X Q ws g=(us.length=es.length/\ws.length=ks.length/\JR fns d f (perm (us++ws) pm) g X (lk Q)):=propext Iff.rfl
def Gz(fns:List Fn)(d:Nat)(f:Nat)(es:List E)(ks:List E)(pm:List (Nat ⊕ U))(σ:Su)(X:XP)(Q:U->G->Prop)(us:List U)(g:G):Prop:=Am fns d ks σ g nX (Eg fns d f us es ks pm X Q)
def zy  : Gz fns d f es ks pm σ X Q us g=(Am fns d ks σ g nX (Eg fns d f us es ks pm X Q)):=propext Iff.rfl
def ye  : JY fns d (.callk f es ks pm) σ g X Q ↔ Am fns d es σ g nX (Gz fns d f es ks pm σ X Q):=zk
def Es(fns:List Fn)(d:Nat)(x:U)(p:Nat×List (Nat ⊕ U))(us:List U)(es:List E)(ks:List E)(X:XP)(Q:U->G->Prop)(ws:List U)(g:G):Prop:=us.length=es.length/\ws.length=ks.length/\JR fns d p.1 (perm (x :: us++ws) p.2) g X (lk Q)
def oK  : Es fns d x p us es ks X Q ws g=(us.length=es.length/\ws.length=ks.length/\JR fns d p.1 (perm (x :: us++ws) p.2) g X (lk Q)):=propext Iff.rfl
def Du(fns:List Fn)(d:Nat)(x:U)(p:Nat×List (Nat ⊕ U))(es:List E)(ks:List E)(σ:Su)(X:XP)(Q:U->G->Prop)(us:List U)(g:G):Prop:=Am fns d ks σ g nX (Es fns d x p us es ks X Q)
def pQ  : Du fns d x p es ks σ X Q us g=(Am fns d ks σ g nX (Es fns d x p us es ks X Q)):=propext Iff.rfl
def Dw(fns:List Fn)(d:Nat)(x:U)(es:List E)(ks:List E)(σ:Su)(g:G)(X:XP)(Q:U->G->Prop)(p:Nat×List (Nat ⊕ U)):Prop:=Am fns d es σ g nX (Du fns d x p es ks σ X Q)
def aaq  : JM (some p) (lk (Dw fns d x es ks σ g X Q))=(Am fns d es σ g nX (Du fns d x p es ks σ X Q)):=propext Iff.rfl
def qc  : Dw fns d x es ks σ g X Q p=(Am fns d es σ g nX (Du fns d x p es ks σ X Q)):=propext Iff.rfl
def Kmt1(fns:List Fn)(d:Nat)(j:Nat)(tb:List (Nat×Nat×List (Nat ⊕ U)))(es:List E)(ks:List E)(σ:Su)(X:XP)(Q:U->G->Prop)(x:U)(g:G):Prop:=JM ((AJ x g).bind (BA j tb)) (lk (Dw fns d x es ks σ g X Q))
def oy  : Kmt1 fns d j tb es ks σ X Q x g=(JM ((AJ x g).bind (BA j tb)) (lk (Dw fns d x es ks σ g X Q))):=propext Iff.rfl
def mr  : JY fns d (.meth a j tb es ks) σ g X Q ↔ JD fns d a σ g nX (Kmt1 fns d j tb es ks σ X Q):=zO
def DA(z:Bool)(g:G)(X:XP)(Q:U->G->Prop)(k:Nat):Prop:=hk (BD z k g) X (lk Q)
def aaL  : JM (some k) (lk (DA z g X Q))=(hk (BD z k g) X (lk Q)):=propext Iff.rfl
def l9  : DA z g X Q k=(hk (BD z k g) X (lk Q)):=propext Iff.rfl
def F9(z:Bool)(X:XP)(Q:U->G->Prop)(x:U)(g:G):Prop:=JM (Jg x g) (lk (DA z g X Q))
def oV  : F9 z X Q x g=(JM (Jg x g) (lk (DA z g X Q))):=propext Iff.rfl
def Dx(g:G)(X:XP)(Q:U->G->Prop)(k:Nat):Prop:=hk (Bg k g) X (lk Q)
def abg  : JM (some k) (lk (Dx g X Q))=(hk (Bg k g) X (lk Q)):=propext Iff.rfl
def pF  : Dx g X Q k=(hk (Bg k g) X (lk Q)):=propext Iff.rfl
def FW(X:XP)(Q:U->G->Prop)(x:U)(g:G):Prop:=JM (Jg x g) (lk (Dx g X Q))
def oX  : FW X Q x g=(JM (Jg x g) (lk (Dx g X Q))):=propext Iff.rfl
def mG  : JY fns d (.revm z o) σ g X Q ↔ JD fns d o σ g X (F9 z X Q):=zR
def rV  : JY fns d (.pop o) σ g X Q ↔ JD fns d o σ g X (FW X Q):=acM
def Ds(k:Nat)(X:XP)(Q:U->G->Prop)(y:U)(g:G):Prop:=hk (A5 k y g) X (lk Q)
def qj  : Ds k X Q y g=(hk (A5 k y g) X (lk Q)):=propext Iff.rfl
def Dj(fns:List Fn)(d:Nat)(v:E)(σ:Su)(g:G)(X:XP)(Q:U->G->Prop)(k:Nat):Prop:=JD fns d v σ g X (Ds k X Q)
def aaI  : JM (some k) (lk (Dj fns d v σ g X Q))=(JD fns d v σ g X (Ds k X Q)):=propext Iff.rfl
def oH  : Dj fns d v σ g X Q k=(JD fns d v σ g X (Ds k X Q)):=propext Iff.rfl
def Gh(fns:List Fn)(d:Nat)(v:E)(σ:Su)(X:XP)(Q:U->G->Prop)(x:U)(g:G):Prop:=JM (Jg x g) (lk (Dj fns d v σ g X Q))
def oz  : Gh fns d v σ X Q x g=(JM (Jg x g) (lk (Dj fns d v σ g X Q))):=propext Iff.rfl
def rP  : JY fns d (.app o v) σ g X Q ↔ JD fns d o σ g X (Gh fns d v σ X Q):=acx
def Dp(k:Nat)(X:XP)(Q:U->G->Prop)(y:U)(g:G):Prop:=hk (Bp k y g) X (lk Q)
def qm  : Dp k X Q y g=(hk (Bp k y g) X (lk Q)):=propext Iff.rfl
def Dy(fns:List Fn)(d:Nat)(v:E)(σ:Su)(g:G)(X:XP)(Q:U->G->Prop)(k:Nat):Prop:=JD fns d v σ g X (Dp k X Q)
def z0  : JM (some k) (lk (Dy fns d v σ g X Q))=(JD fns d v σ g X (Dp k X Q)):=propext Iff.rfl
def nL  : Dy fns d v σ g X Q k=(JD fns d v σ g X (Dp k X Q)):=propext Iff.rfl
def GI(fns:List Fn)(d:Nat)(v:E)(σ:Su)(X:XP)(Q:U->G->Prop)(x:U)(g:G):Prop:=JM (Jg x g) (lk (Dy fns d v σ g X Q))
def pT  : GI fns d v σ X Q x g=(JM (Jg x g) (lk (Dy fns d v σ g X Q))):=propext Iff.rfl
def rK  : JY fns d (.ext o v) σ g X Q ↔ JD fns d o σ g X (GI fns d v σ X Q):=adw
def DF(k:Nat)(X:XP)(Q:U->G->Prop)(y:U)(g:G):Prop:=hk (CV k y g) X (lk Q)
def aab  : DF k X Q y g=(hk (CV k y g) X (lk Q)):=propext Iff.rfl
def Dr(fns:List Fn)(d:Nat)(v:E)(σ:Su)(g:G)(X:XP)(Q:U->G->Prop)(k:Nat):Prop:=JD fns d v σ g X (DF k X Q)
def ab2  : JM (some k) (lk (Dr fns d v σ g X Q))=(JD fns d v σ g X (DF k X Q)):=propext Iff.rfl
def abv  : Dr fns d v σ g X Q k=(JD fns d v σ g X (DF k X Q)):=propext Iff.rfl
def GD(fns:List Fn)(d:Nat)(v:E)(σ:Su)(X:XP)(Q:U->G->Prop)(x:U)(g:G):Prop:=JM (Jg x g) (lk (Dr fns d v σ g X Q))
def zJ  : GD fns d v σ X Q x g=(JM (Jg x g) (lk (Dr fns d v σ g X Q))):=propext Iff.rfl
def abl  : JY fns d (.popi o v) σ g X Q ↔ JD fns d o σ g X (GD fns d v σ X Q):=aav
def Kbi(bb:Bi)(X:XP)(Q:U->G->Prop)(us:List U)(g:G):Prop:=hk (Jf bb us g) X (lk Q)
def qq  : Kbi bb X Q us g=(hk (Jf bb us g) X (lk Q)):=propext Iff.rfl
def tu  : JY fns d (.bi bb es) σ g X Q ↔ Am fns d es σ g X (Kbi bb X Q):=e_bi
def F7(ty:Ty)(Q:U->G->Prop)(x:U)(g:G):Prop:=JM (AL ty x g) (lk (KB g Q))
def pS  : F7 ty Q x g=(JM (AL ty x g) (lk (KB g Q))):=propext Iff.rfl
def qK  : JY fns d (.isi a ty) σ g X Q ↔ JD fns d a σ g X (F7 ty Q):=ack
def Ko(Q:Option Int->G->Prop)(x:U)(g:G):Prop:=JM (match x with | .int i=>some i | _=>none) <| lk λi=>Q (some i) g
def tJ{Q:Option Int->G->Prop}{i:Int}:Ko Q (.int i) g=Q (some i) g:=propext Iff.rfl
def l7  : JF fns d (some e) σ g X QO ↔ JD fns d e σ g X (Ko QO):=aaf
def Ktr(QB:Bool->G->Prop)(x:U)(g:G):Prop:=JM (Jb x g) (lk (KV g QB))
def qw  : Ktr QB x g=(JM (Jb x g) (lk (KV g QB))):=propext Iff.rfl
def Kta(fns:List Fn)(d:Nat)(b:E)(σ:Su)(X:XP)(QB:Bool->G->Prop)(z:Bool)(g:G):Prop:=JN z #[31] (lk (QB false g))
def qy  : Kta fns d b σ X QB z g=(JN z #[31] (lk (QB false g))):=propext Iff.rfl
def Kto(fns:List Fn)(d:Nat)(b:E)(σ:Su)(X:XP)(QB:Bool->G->Prop)(z:Bool)(g:G):Prop:=JN z (lk (QB true g)) #[31]
def rC  : Kto fns d b σ X QB z g=(JN z (lk (QB true g)) #[31]):=propext Iff.rfl
def Ktn(QB:Bool->G->Prop)(z:Bool)(g:G):Prop:=QB (!z) g
def qu  : Ktn QB z g=(QB (!z) g):=propext Iff.rfl
def Kti(fns:List Fn)(d:Nat)(a:E)(b:E)(σ:Su)(X:XP)(QB:Bool->G->Prop)(z:Bool)(g:G):Prop:=JN z (lk (JE fns d a σ g X QB)) #[31]
def acQ  : Kti fns d a b σ X QB z g=(JN z (lk (JE fns d a σ g X QB)) #[31]):=propext Iff.rfl
def qb  : JE fns d (.and a b) σ g X QB ↔ JE fns d a σ g X (Kta fns d b σ X QB):=acK
def se  : JE fns d (.or a b) σ g X QB ↔ JE fns d a σ g X (Kto fns d b σ X QB):=t_or
def pN  : JE fns d (.not a) σ g X QB ↔ JE fns d a σ g X (Ktn QB):=acJ
def abB  : JE fns d (.ite c a b) σ g X QB ↔ JE fns d c σ g X (Kti fns d a b σ X QB):=adz
def oM  : JE fns d (.var i) σ g X QB ↔ JD fns d (.var i) σ g X (Ktr QB):=t_e rfl
def aaj  : JE fns d (.cst u) σ g X QB ↔ JD fns d (.cst u) σ g X (Ktr QB):=t_e rfl
def pL  : JE fns d (.cmp cp a b) σ g X QB ↔ JD fns d (.cmp cp a b) σ g X (Ktr QB):=t_e rfl
def wF  : JE fns d (.chain cp cq a b c) σ g X QB ↔ JD fns d (.chain cp cq a b c) σ g X (Ktr QB):=t_e rfl
def kG  : JE fns d (.call f es) σ g X QB ↔ JD fns d (.call f es) σ g X (Ktr QB):=t_e rfl
def ac1  : JE fns d (.bi bb es) σ g X QB ↔ JD fns d (.bi bb es) σ g X (Ktr QB):=t_e rfl
def mf  : JE fns d (.isi a ty) σ g X QB ↔ JD fns d (.isi a ty) σ g X (Ktr QB):=t_e rfl
def zr  : JE fns d (.idx a b) σ g X QB ↔ JD fns d (.idx a b) σ g X (Ktr QB):=t_e rfl
def aay  : JE fns d (.bin op a b) σ g X QB ↔ JD fns d (.bin op a b) σ g X (Ktr QB):=t_e rfl
def lg  : JE fns d (.meth a j tb es ks) σ g X QB ↔ JD fns d (.meth a j tb es ks) σ g X (Ktr QB):=t_e rfl
def oE  : JE fns d (.fld a j cs) σ g X QB ↔ JD fns d (.fld a j cs) σ g X (Ktr QB):=t_e rfl
def ab3  : JE fns d (.rev a) σ g X QB ↔ JD fns d (.rev a) σ g X (Ktr QB):=t_e rfl
def zx  : JE fns d (.slc a lo hi) σ g X QB ↔ JD fns d (.slc a lo hi) σ g X (Ktr QB):=t_e rfl
def aaQ  : JE fns d (.tup es) σ g X QB ↔ JD fns d (.tup es) σ g X (Ktr QB):=t_e rfl
def aby  : JE fns d (.lst es) σ g X QB ↔ JD fns d (.lst es) σ g X (Ktr QB):=t_e rfl
def aar  : JE fns d (.dgt o a b) σ g X QB ↔ JD fns d (.dgt o a b) σ g X (Ktr QB):=t_e rfl
def yM{fns:List Fn}{X:XP}{σ:Su}{e:E}{QB:Bool->G->Prop}:JE fns d (.comp m fr gs e) σ g X QB ↔ JD fns d (.comp m fr gs e) σ g X (Ktr QB):=t_e rfl
def Kac(fns:List Fn)(d:Nat)(es:List E)(σ:Su)(X:XP)(QB:Bool->G->Prop)(z:Bool)(g:G):Prop:=JN z (lk (JG fns d es σ g X QB)) (lk (QB false g))
def sV  : Kac fns d es σ X QB z g=(JN z (lk (JG fns d es σ g X QB)) (lk (QB false g))):=propext Iff.rfl
def kN  : JG fns d (c :: es) σ g X QB ↔ JE fns d c σ g X (Kac fns d es σ X QB):=aap
def F5(Q:Iter->G->Prop)(x:U)(g:G):Prop:=JM (match x with | .int i=>some i | _=>none) <| lk λj=>JN (Ak j) (lk (Q (.rng 0 j.toNat) g)) (lk False)
def mw{Q:Iter->G->Prop}{j:Int}:F5 Q (.int j) g=JN (Ak j) (lk (Q (.rng 0 j.toNat) g)) (lk False):=propext Iff.rfl
def kI  : JH fns d (.rng1 a) σ g X QI ↔ JD fns d a σ g X (F5 QI):=aaK
def Ek(u:U)(Q:Iter->G->Prop)(w:U)(g:G):Prop:=JM (match u with | .int i=>some i | _=>none) <| lk λi=>JM (match w with | .int i=>some i | _=>none) <| lk λj=>JN (Ak i && Ak j) (lk (Q (.rng i (j - i).toNat) g)) (lk False)
def pY{Q:Iter->G->Prop}{i j:Int}:Ek (.int i) Q (.int j) g=JN (Ak i && Ak j) (lk (Q (.rng i (j - i).toNat) g)) (lk False):=propext Iff.rfl
def Ge(fns:List Fn)(d:Nat)(b:E)(σ:Su)(X:XP)(QI:Iter->G->Prop)(u:U)(g:G):Prop:=JD fns d b σ g X (Ek u QI)
def oF  : Ge fns d b σ X QI u g=(JD fns d b σ g X (Ek u QI)):=propext Iff.rfl
def lJ  : JH fns d (.rng2 a b) σ g X QI ↔ JD fns d a σ g X (Ge fns d b σ X QI):=aag
def CA(k:Nat)(g:G)(QI:Iter->G->Prop)(j:Nat):Prop:=QI (.zip k j) g
def yU  : JM (some j) (lk (CA k g QI))=(QI (.zip k j) g):=propext Iff.rfl
def kB  : CA k g QI j=(QI (.zip k j) g):=propext Iff.rfl
def C7(w:U)(g:G)(QI:Iter->G->Prop)(k:Nat):Prop:=JM (Jg w g) (lk (CA k g QI))
def yW  : JM (some k) (lk (C7 w g QI))=(JM (Jg w g) (lk (CA k g QI))):=propext Iff.rfl
def l0  : C7 w g QI k=(JM (Jg w g) (lk (CA k g QI))):=propext Iff.rfl
def DP(u:U)(QI:Iter->G->Prop)(w:U)(g:G):Prop:=JM (Jg u g) (lk (C7 w g QI))
def lY  : DP u QI w g=(JM (Jg u g) (lk (C7 w g QI))):=propext Iff.rfl
def F8(fns:List Fn)(d:Nat)(b:E)(σ:Su)(X:XP)(QI:Iter->G->Prop)(u:U)(g:G):Prop:=JD fns d b σ g X (DP u QI)
def mR  : F8 fns d b σ X QI u g=(JD fns d b σ g X (DP u QI)):=propext Iff.rfl
def mD  : JH fns d (.zip a b) σ g X QI ↔ JD fns d a σ g X (F8 fns d b σ X QI):=adp
def C1(g:G)(QI:Iter->G->Prop)(k:Nat):Prop:=QI (.enm k) g
def yL  : JM (some k) (lk (C1 g QI))=(QI (.enm k) g):=propext Iff.rfl
def kD  : C1 g QI k=(QI (.enm k) g):=propext Iff.rfl
def GR(QI:Iter->G->Prop)(u:U)(g:G):Prop:=JM (Jg u g) (lk (C1 g QI))
def nC  : GR QI u g=(JM (Jg u g) (lk (C1 g QI))):=propext Iff.rfl
def oj  : JH fns d (.enm a) σ g X QI ↔ JD fns d a σ g X (GR QI):=ac0
def Dm(Q:Iter->G->Prop)(p:Iter×G):Prop:=Q p.1 p.2
def zX{Q:Iter->G->Prop}{i:Iter}:JM (some (i,g)) (lk (Dm Q))=Q i g:=propext Iff.rfl
def qd{Q:Iter->G->Prop}{i:Iter}:Dm Q (i,g)=Q i g:=propext Iff.rfl
def Kit(QI:Iter->G->Prop)(u:U)(g:G):Prop:=JM (Bt u g) (lk (Dm QI))
def rL  : Kit QI u g=(JM (Bt u g) (lk (Dm QI))):=propext Iff.rfl
def my  : JH fns d (.var i) σ g X QI ↔ JD fns d (.var i) σ g X (Kit QI):=i_e rfl
def lC  : JH fns d (.call f es) σ g X QI ↔ JD fns d (.call f es) σ g X (Kit QI):=i_e rfl
def ade  : JH fns d (.bi bb es) σ g X QI ↔ JD fns d (.bi bb es) σ g X (Kit QI):=i_e rfl
def ot  : JH fns d (.idx a b) σ g X QI ↔ JD fns d (.idx a b) σ g X (Kit QI):=i_e rfl
def xB  : JH fns d (.meth a j tb es ks) σ g X QI ↔ JD fns d (.meth a j tb es ks) σ g X (Kit QI):=i_e rfl
def abY  : JH fns d (.fld a j cs) σ g X QI ↔ JD fns d (.fld a j cs) σ g X (Kit QI):=i_e rfl
def aa1  : JH fns d (.rev a) σ g X QI ↔ JD fns d (.rev a) σ g X (Kit QI):=i_e rfl
def abw  : JH fns d (.slc a lo hi) σ g X QI ↔ JD fns d (.slc a lo hi) σ g X (Kit QI):=i_e rfl
def og  : JH fns d (.tup es) σ g X QI ↔ JD fns d (.tup es) σ g X (Kit QI):=i_e rfl
def acg  : JH fns d (.lst es) σ g X QI ↔ JD fns d (.lst es) σ g X (Kit QI):=i_e rfl
def xK{fns:List Fn}{X:XP}{σ:Su}{e:E}{QI:Iter->G->Prop}:JH fns d (.comp m fr gs e) σ g X QI ↔ JD fns d (.comp m fr gs e) σ g X (Kit QI):=i_e rfl
def BH(fns:List Fn)(d:Nat)(ss:List S)(X:XP)(Q:Fl->G->Prop)(f:Fl)(g:G):Prop:=JO f (lk (λσ'=>wpS fns d ss σ' g X Q)) (lk λf=>Q f g)
def kX  : BH fns d ss X QF (.nx σ) g=(wpS fns d ss σ g X QF):=propext Iff.rfl
def kJ  : BH fns d ss X QF (.rt u) g=(QF (.rt u) g):=propext Iff.rfl
def yf  : BH fns d ss X QF (.bk σ) g=(QF (.bk σ) g):=propext Iff.rfl
def yy  : BH fns d ss X QF (.ct σ) g=(QF (.ct σ) g):=propext Iff.rfl
def lF  : wpS fns d (s :: ss) σ g X QF ↔ JI fns d s σ g X (BH fns d ss X QF):=abd
def GB(QF:Fl->G->Prop)(u:U)(g:G):Prop:=QF (.rt u) g
def oB  : GB QF u g=(QF (.rt u) g):=propext Iff.rfl
def mJ  : JI fns d (.ret e) σ g X QF ↔ JD fns d e σ g X (GB QF):=acL
def Dl(g:G)(QF:Fl->G->Prop)(st:Su):Prop:=QF (.nx st) g
def zH  : JM (some st) (lk (Dl g QF))=(QF (.nx st) g):=propext Iff.rfl
def nQ  : Dl g QF st=(QF (.nx st) g):=propext Iff.rfl
def Kst(t:Tg)(σ:Su)(QF:Fl->G->Prop)(u:U)(g:G):Prop:=JM (Ah t (Jj t u g) σ) (lk (Dl g QF))
def rM  : Kst t σ QF u g=(JM (Ah t (Jj t u g) σ) (lk (Dl g QF))):=propext Iff.rfl
def ng  : JI fns d (.set t e) σ g X QF ↔ JD fns d e σ g X (Kst t σ QF):=abx
def Ee(i:Nat)(j:Nat)(u:U)(σ:Su)(QF:Fl->G->Prop)(w:U)(g:G):Prop:=JN (decide (i < σ.length) && decide (j < σ.length)) (lk (QF (.nx ((σ.set i (some u)).set j (some w))) g)) (lk False)
def qo  : Ee i j u σ QF w g=(JN (decide (i < σ.length) && decide (j < σ.length)) (lk (QF (.nx ((σ.set i (some u)).set j (some w))) g)) (lk False)):=propext Iff.rfl
def Gm(fns:List Fn)(d:Nat)(i:Nat)(j:Nat)(b:E)(σ:Su)(X:XP)(QF:Fl->G->Prop)(u:U)(g:G):Prop:=JD fns d b σ g X (Ee i j u σ QF)
def nZ  : Gm fns d i j b σ X QF u g=(JD fns d b σ g X (Ee i j u σ QF)):=propext Iff.rfl
def pf  : JI fns d (.par i j a b) σ g X QF ↔ JD fns d a σ g X (Gm fns d i j b σ X QF):=aaD
def Ed(u:U)(x:U)(σ:Su)(X:XP)(QF:Fl->G->Prop)(y:U)(g:G):Prop:=hk (subAt x y u σ g) X (lk QF)
def pz  : Ed u x σ X QF y g=(hk (subAt x y u σ g) X (lk QF)):=propext Iff.rfl
def DU(fns:List Fn)(d:Nat)(u:U)(b:E)(σ:Su)(X:XP)(QF:Fl->G->Prop)(x:U)(g:G):Prop:=JD fns d b σ g X (Ed u x σ X QF)
def nH  : DU fns d u b σ X QF x g=(JD fns d b σ g X (Ed u x σ X QF)):=propext Iff.rfl
def Gy(fns:List Fn)(d:Nat)(o:E)(b:E)(σ:Su)(X:XP)(QF:Fl->G->Prop)(u:U)(g:G):Prop:=JD fns d o σ g X (DU fns d u b σ X QF)
def nv  : Gy fns d o b σ X QF u g=(JD fns d o σ g X (DU fns d u b σ X QF)):=propext Iff.rfl
def ma  : JI fns d (.sub o b e) σ g X QF ↔ JD fns d e σ g X (Gy fns d o b σ X QF):=abQ
def D3(x:U)(σ:Su)(X:XP)(QF:Fl->G->Prop)(y:U)(g:G):Prop:=hk (CF x y σ g) X (lk QF)
def abz  : D3 x σ X QF y g=(hk (CF x y σ g) X (lk QF)):=propext Iff.rfl
def GL(fns:List Fn)(d:Nat)(b:E)(σ:Su)(X:XP)(QF:Fl->G->Prop)(x:U)(g:G):Prop:=JD fns d b σ g X (D3 x σ X QF)
def aaG  : GL fns d b σ X QF x g=(JD fns d b σ g X (D3 x σ X QF)):=propext Iff.rfl
def aa3  : JI fns d (.del o b) σ g X QF ↔ JD fns d o σ g X (GL fns d b σ X QF):=abS
def Kxp(σ:Su)(QF:Fl->G->Prop)(u:U)(g:G):Prop:=QF (.nx σ) g
def qJ  : Kxp σ QF u g=(QF (.nx σ) g):=propext Iff.rfl
def mh  : JI fns d (.exp e) σ g X QF ↔ JD fns d e σ g X (Kxp σ QF):=adg
def Kif(fns:List Fn)(d:Nat)(A:List S)(B:List S)(σ:Su)(X:XP)(QF:Fl->G->Prop)(z:Bool)(g:G):Prop:=JN z (lk (wpS fns d A σ g X QF)) (lk (wpS fns d B σ g X QF))
def sC  : Kif fns d A B σ X QF z g=(JN z (lk (wpS fns d A σ g X QF)) (lk (wpS fns d B σ g X QF))):=propext Iff.rfl
def nB  : JI fns d (.ife c A B) σ g X QF ↔ JE fns d c σ g X (Kif fns d A B σ X QF):=aaC
def F0(fns:List Fn)(d:Nat)(t:Tg)(A:List S)(σ:Su)(X:XP)(QF:Fl->G->Prop)(it2:Iter)(g:G):Prop:=JT fns d t it2 0 A σ g X (lk QF)
def nh  : F0 fns d t A σ X QF it2 g=(JT fns d t it2 0 A σ g X (lk QF)):=propext Iff.rfl
def nz  : JI fns d (.for t it A) σ g X QF ↔ JH fns d it σ g X (F0 fns d t A σ X QF):=abC
def Dv(σ:Su)(QF:Fl->G->Prop)(g2:G):Prop:=QF (.nx σ) g2
def zw  : JM (some g2) (lk (Dv σ QF))=(QF (.nx σ) g2):=propext Iff.rfl
def nO  : Dv σ QF g2=(QF (.nx σ) g2):=propext Iff.rfl
def D9(u:U)(j:Nat)(cs:List Nat)(σ:Su)(QF:Fl->G->Prop)(x:U)(g:G):Prop:=JM (A8 x j cs u g) (lk (Dv σ QF))
def pG  : D9 u j cs σ QF x g=(JM (A8 x j cs u g) (lk (Dv σ QF))):=propext Iff.rfl
def D1(fns:List Fn)(d:Nat)(a:E)(j:Nat)(cs:List Nat)(σ:Su)(X:XP)(QF:Fl->G->Prop)(u:U)(g:G):Prop:=JD fns d a σ g X (D9 u j cs σ QF)
def nY  : D1 fns d a j cs σ X QF u g=(JD fns d a σ g X (D9 u j cs σ QF)):=propext Iff.rfl
def kT  : JI fns d (.fset a j cs e) σ g X QF ↔ JD fns d e σ g X (D1 fns d a j cs σ X QF):=xw
def Kfn(Q:U->G->Prop)(f:Fl)(g:G):Prop:=JQ f (lk λu=>Q u g)
def pM:Kfn Q (.rt u) g=Q u g:=propext Iff.rfl
def mU{σ:Su}:Kfn Q (.nx σ) g=Q .non g:=propext Iff.rfl
def af{fns:List Fn}{X:XP}{f:Nat}{F:Fn}(hf:fns[f]? = some F)(hl:us.length=F.np)(h:wpS fns d F.body (us.map some++List.replicate (F.ns - us.length) none) g X (Kfn Q)):JC fns (d+1) f us g X Q:=(pH hf hl).2 h
end
def bH(h:i < xs.length):Jc xs (i:Int)=xs[i]? := by
 unfold Jc L2.atI L2.ixN;rw [if_pos (),if_pos ()]
 simp
def eU{i:Int}(h0:0<=i)(h:i < xs.length):Jc xs i=xs[i.toNat]? := by
 have:=bH (xs:=xs) (i:=i.toNat) ()
 rwa [Int.toNat_of_nonneg h0] at this
def dh{x:U}:Jc (x :: xs) 0=some x:=bH (i:=0) #[3]
def eY{x y:U}:Jc (x :: y :: xs) 1=some y:=bH (i:=1) #[3]
def r8{x y z:U}:Jc (x :: y :: z :: xs) 2=some z:=bH (i:=2) #[3]
def sT{x y z a:U}:Jc (x :: y :: z :: a :: xs) 3=some a:=bH (i:=3) #[3]
def qS{x y z a b:U}:Jc (x :: y :: z :: a :: b :: xs) 4=some b:=bH (i:=4) #[3]
def rE{x y z a b c:U}:Jc (x :: y :: z :: a :: b :: c :: xs) 5=some c:=bH (i:=5) #[3]
def small(i:Int):Prop := -BR < i/\i < BR
def aC{i:Int}(h : -18446744073709551616 < i)(h':i < 18446744073709551616):small i:=⟨h,h'⟩
def bZ{i:Int}(h:(decide (-18446744073709551616 < i) && decide (i < 18446744073709551616))=true):small i:=by simp at h;exact h
section
variable{i j:Int}
def eQ:IX .add (.int i) (.int j)=some (.int (i+j)):=rfl
def eM:IX .sub (.int i) (.int j)=some (.int (i - j)):=rfl
def ny(h:0 < j):IX .mod (.int i) (.int j)=some (.int (i % j)):=by simp! [IX,IW,if_pos h]
def lB(h:0 < j)(h':j < Au):IX .fdiv (.int i) (.int j)=some (.int (i / j)):=by simp! [IX,IW,if_pos h,if_pos h']
def kr(h:small i):IX .mul (.int i) (.int j)=some (.int (i*j)):=by
 let ⟨h1,h2⟩:=h;simp [IX,IW,h1,h2]
def lE(h:small j):IX .mul (.int i) (.int j)=some (.int (i*j)):=by
 let ⟨h1,h2⟩:=h;simp [IX,IW,h1,h2]
def qZ:Ja .eq (.int i) (.int j) g=some (decide (i=j)):=by
 simp! [Ja,IV,Ar];congr 1
def rq{a:Bool}:Ja .eq (.bl a) (.bl b) g=some (a == b):=rfl
def rj{a b:PySem.Str}:Ja .eq (.str a) (.str b) g=some (a == b):=rfl
def rO{ys:List U}:Ja .eq (.tup xs) (.tup ys) g=Aw xs ys:=rfl
def nr{ys:List U}:Aw (.int i :: xs) (.int j :: ys)=(Aw xs ys).map λc=>decide (i=j) && c:=by
 simp! [Aw,Ar];cases Aw xs ys with
 | none=>rfl
 | some c=>simp! [Option.map_some];congr 1
def jZ:Aw [] []=some true:=rfl
def sj:Ja .ne (.int i) (.int j) g=some (!decide (i=j)):=by simp! [Ja,CG,if_true,Ar,Option.map_some];congr 1
def tN{x:U}:Ja .isN x .non g=some (AE x):=rfl
def sI{x:U}:Ja .notN x .non g=some (!AE x):=rfl
def cin{x y:U}:Ja .inn x y g=match items y g with | some ys=>IY x ys | none=>(Aj x y g).map Option.isSome:=rfl
def tM{x y:U}:Ja .nin x y g=match items y g with | some ys=>(IY x ys).map (!·) | none=>(Aj x y g).map λo => !o.isSome:=rfl
def clt:Ja .lt (.int i) (.int j) g=some (decide (i < j)):=rfl
def cle:Ja .le (.int i) (.int j) g=some (decide (i<=j)):=rfl
def cgt:Ja .gt (.int i) (.int j) g=some (decide (j < i)):=rfl
def cge:Ja .ge (.int i) (.int j) g=some (decide (j<=i)):=rfl
end
section
variable{fns:List Fn}{X:XP}{σ:Su}
def dj{it:Iter}{t:Tg}{cs:List E}{elt:E}{Q:List U->G->Prop}{α:Type}(ys:List α)(enc:α->U)(c:α->Bool)(e:α->U)(Inv:G->Prop)
  (hn:∀ k g,Inv g->next it k g=some (ys.map enc)[k]?)
  (hs:∀ y,y∈ys->AH t σ=true/\JM (Ah t (enc y) σ) (lk λσ1 => ∀ g,Inv g->JG fns d cs σ1 g (λ_ _ _=>False) λk g=>k=c y/\JN (c y) (lk (JD fns d elt σ1 g (λ_ _ _=>False) λv g=>v=e y/\Inv g)) (lk (Inv g)))) :
  ∀ (n i:Nat) (acc:List U) (g:G),i+n=ys.length->acc.length+n < Ae->Inv g->(∀ g,Inv g->Q (acc++((ys.drop i).filter c).map e) g)->JL fns d it i t cs [] elt acc σ g X Q
 | 0,i,acc,g,e1,_,h,hq=>by
  rw [aT];refine ⟨none,by rw [hn _ _ h];simp;omega,?_⟩
  have:=hq g h;rw [List.drop_eq_nil_of_le ()] at this
  simpa using this
 | n+1,i,acc,g,e1,hl,h,hq=>by
  have hi:i < ys.length:=by omega
  have hd:ys.drop i=ys[i] :: ys.drop (i+1):=List.drop_eq_getElem_cons hi;let ⟨hf,hs1⟩:=hs ys[i] (List.getElem_mem hi);let ⟨σ1,hb,hw⟩:=aG.2 hs1;rw [aT];refine ⟨some (enc ys[i]),by rw [hn _ _ h];simp [hi],hf,σ1,hb,wp_mono (hw g h) λk g q => ?_⟩
  let ⟨rfl,q⟩:=q;by_cases hc:c ys[i]=true
  .rw [if_pos hc]
   rw [hc] at q;refine wp_mono q λv g ⟨ev,hg⟩=>⟨by omega,?_⟩
   subst ev;refine dj ys enc c e Inv hn hs n (i+1) _ g () (by simp;omega) hg λg hg => ?_
   have:=hq g hg;rw [hd,List.filter_cons_of_pos hc] at this;simpa using this
  .rw [if_neg hc]
   rw [Bool.not_eq_true] at hc;rw [hc] at q;refine dj ys enc c e Inv hn hs n (i+1) _ g () () q λg hg => ?_
   have:=hq g hg;rw [hd,List.filter_cons_of_neg (by simp [hc])] at this
   exact this
def pj{it it2:E}{t t2:Tg}{J:Iter}{cs cs2:List E}{elt:E}{Q:List U->G->Prop}{α β:Type}(ys:List α)(enc:α->U)(zs:α->List β)(enc2:β->U)(c2:α->β->Bool)(e:α->β->U)(Inv:G->Prop)(B:Nat)
  (hn:∀ k g,Inv g->next J k g=some (ys.map enc)[k]?)
  (hs:∀ y,y∈ys->(zs y).length<=B/\AH t σ=true/\JM (Ah t (enc y) σ) (lk λσ1 => ∀ g,Inv g->JG fns d cs σ1 g (λ_ _ _=>False) λk g=>k=true/\JH fns d it2 σ1 g (λ_ _ _=>False) λJ2 g=>Inv g/\(∀ k g,Inv g->next J2 k g=some ((zs y).map enc2)[k]?) /\
   ∀ z,z∈zs y->AH t2 σ1=true/\JM (Ah t2 (enc2 z) σ1) (lk λσ2 => ∀ g,Inv g->JG fns d cs2 σ2 g (λ_ _ _=>False) λk g=>k=c2 y z/\JN (c2 y z) (lk (JD fns d elt σ2 g (λ_ _ _=>False) λv g=>v=e y z/\Inv g)) (lk (Inv g))))) :
  ∀ (n i:Nat) (acc:List U) (g:G),i+n=ys.length->acc.length+n*B+B < Ae->Inv g->(∀ g,Inv g->Q (acc++(ys.drop i).flatMap λy=>((zs y).filter (c2 y)).map (e y)) g)->JL fns d J i t cs [(t2,it2,cs2)] elt acc σ g X Q
 | 0,i,acc,g,e1,_,h,hq=>by
  rw [aT];refine ⟨none,by rw [hn _ _ h];simp;omega,?_⟩
  have:=hq g h;rw [List.drop_eq_nil_of_le ()] at this
  simpa using this
 | n+1,i,acc,g,e1,hl,h,hq=>by
  have hi:i < ys.length:=by omega
  have hd:ys.drop i=ys[i] :: ys.drop (i+1):=List.drop_eq_getElem_cons hi;let ⟨hB,hf,hs1⟩:=hs ys[i] (List.getElem_mem hi);let ⟨σ1,hb,hw⟩:=aG.2 hs1;rw [aT];refine ⟨some (enc ys[i]),by rw [hn _ _ h];simp [hi],hf,σ1,hb,wp_mono (hw g h) λk g q => ?_⟩
  let ⟨rfl,q⟩:=q;rw [if_pos rfl];refine wp_mono q ?_;rintro J2 g ⟨hg,hn2,hs2⟩;have hmul:(n+1)*B=n*B+B:=Nat.succ_mul n B;refine dj (zs ys[i]) enc2 (c2 ys[i]) (e ys[i]) Inv hn2 hs2 (zs ys[i]).length 0 acc g () () hg λg hg => ?_
  refine pj (it:=it) ys enc zs enc2 c2 e Inv B hn hs n (i+1) _ g () ?_ hg λg hg => ?_
  .have:(List.map (e ys[i]) (List.filter (c2 ys[i]) (zs ys[i]))).length<=B:=by
    rw [List.length_map];exact Hy (List.length_filter_le _ _) hB
   simp! [List.drop_zero,List.length_append];omega
  .have:=hq g hg
   rw [hd,List.flatMap_cons] at this;simpa using this
def br{t:Tg}{Q:List U->G->Prop}(ys:List α)(enc:α->U)(c:α->Bool)(e:α->U)(Inv:G->Prop)(L:List U)
  (hL:(ys.filter c).map e=L)
  (hn:∀ k g,Inv g->next it k g=some (ys.map enc)[k]?)
  (hs:∀ y,y∈ys->AH t σ=true/\JM (Ah t (enc y) σ) (lk λσ1 => ∀ g,Inv g->JG fns d cs σ1 g (λ_ _ _=>False) λk g=>k=c y/\JN (c y) (lk (JD fns d elt σ1 g (λ_ _ _=>False) λv g=>v=e y/\Inv g)) (lk (Inv g))))
  (hl:ys.length < 16777000) (h0:Inv g) (hq:∀ g,Inv g->Q L g):JL fns d it 0 t cs [] elt [] σ g X Q :=
 dj ys enc c e Inv hn hs ys.length 0 [] g (Nat.zero_add _) (by simpa [Ae] using hl) h0 λg hg=>by
  have:=hq g hg;rw [<-hL] at this;simpa using this
def nS{it2:E}{t t2:Tg}{J:Iter}{cs2:List E}{Q:List U->G->Prop}(ys:List α)(enc:α->U)(zs:α->List β)(enc2:β->U)(c2:α->β->Bool)(e:α->β->U)(Inv:G->Prop)(B:Nat)(L:List U)
  (hL:(ys.flatMap λy=>((zs y).filter (c2 y)).map (e y))=L)
  (hn:∀ k g,Inv g->next J k g=some (ys.map enc)[k]?)
  (hs:∀ y,y∈ys->(zs y).length<=B/\AH t σ=true/\JM (Ah t (enc y) σ) (lk λσ1 => ∀ g,Inv g->JG fns d cs σ1 g (λ_ _ _=>False) λk g=>k=true/\JH fns d it2 σ1 g (λ_ _ _=>False) λJ2 g=>Inv g/\(∀ k g,Inv g->next J2 k g=some ((zs y).map enc2)[k]?) /\
   ∀ z,z∈zs y->AH t2 σ1=true/\JM (Ah t2 (enc2 z) σ1) (lk λσ2 => ∀ g,Inv g->JG fns d cs2 σ2 g (λ_ _ _=>False) λk g=>k=c2 y z/\JN (c2 y z) (lk (JD fns d elt σ2 g (λ_ _ _=>False) λv g=>v=e y z/\Inv g)) (lk (Inv g)))))
  (hl:ys.length*B+B < 16777000) (h0:Inv g) (hq:∀ g,Inv g->Q L g):JL fns d J 0 t cs [(t2,it2,cs2)] elt [] σ g X Q :=
 pj (it := .cst .non) ys enc zs enc2 c2 e Inv B hn hs ys.length 0 [] g (Nat.zero_add _) (by simpa [Ae] using hl) h0 λg hg=>by
  have:=hq g hg;rw [<-hL] at this;simpa using this
def hG{it2:E}{t t2:Tg}{J:Iter}{cs cs2:List E}{rest2:List (Tg×E×List E)}{elt:E}{Q:List U->G->Prop}{α:Type}(ys:List α)(enc:α->U)(f:α->List U)(Inv:G->Prop)(B:Nat)
  (hn:∀ k g,Inv g->next J k g=some (ys.map enc)[k]?) (hB:∀ y,y∈ys->(f y).length<=B)
  (hs:∀ y,y∈ys->AH t σ=true/\JM (Ah t (enc y) σ) (lk λσ1 => ∀ g acc,Inv g->acc.length+B < 16777000->JG fns d cs σ1 g (λ_ _ _=>False) λk g=>k=true/\JH fns d it2 σ1 g (λ_ _ _=>False) λJ2 g=>JL fns d J2 0 t2 cs2 rest2 elt acc σ1 g (λ_ _ _=>False) λacc2 g=>acc2=acc++f y/\Inv g)) :
  ∀ (n i:Nat) (acc:List U) (g:G),i+n=ys.length->acc.length+n*B+B < 16777000->Inv g->(∀ g,Inv g->Q (acc++(ys.drop i).flatMap f) g)->JL fns d J i t cs ((t2,it2,cs2) :: rest2) elt acc σ g X Q
 | 0,i,acc,g,e1,_,h,hq=>by
  rw [aT];refine ⟨none,by rw [hn _ _ h];simp;omega,?_⟩
  have:=hq g h;rw [List.drop_eq_nil_of_le ()] at this
  simpa using this
 | n+1,i,acc,g,e1,hl,h,hq=>by
  have hi:i < ys.length:=by omega
  have hd:ys.drop i=ys[i] :: ys.drop (i+1):=List.drop_eq_getElem_cons hi;let ⟨hf,hs1⟩:=hs ys[i] (List.getElem_mem hi);let ⟨σ1,hb,hw⟩:=aG.2 hs1;have hmul:(n+1)*B=n*B+B:=Nat.succ_mul n B;have hBi:=hB ys[i] (List.getElem_mem hi);rw [aT];refine ⟨some (enc ys[i]),by rw [hn _ _ h];simp [hi],hf,σ1,hb,wp_mono (hw g acc h ()) λk g q => ?_⟩
  let ⟨rfl,q⟩:=q;rw [if_pos rfl];refine wp_mono q λJ2 g q=>wp_mono q λacc2 g q => ?_;let ⟨rfl,hg⟩:=q;refine hG ys enc f Inv B hn hB hs n (i+1) _ g () (by simp! [List.length_append];omega) hg λg hg => ?_
  have:=hq g hg;rw [hd,List.flatMap_cons] at this;simpa using this
def zU{t:Tg}{Q:List U->G->Prop}(ys:List α)(enc:α->U)(c:α->Bool)(e:α->U)(Inv:G->Prop)(acc:List U)
  (hn:∀ k g,Inv g->next it k g=some (ys.map enc)[k]?)
  (hs:∀ y,y∈ys->AH t σ=true/\JM (Ah t (enc y) σ) (lk λσ1 => ∀ g,Inv g->JG fns d cs σ1 g (λ_ _ _=>False) λk g=>k=c y/\JN (c y) (lk (JD fns d elt σ1 g (λ_ _ _=>False) λv g=>v=e y/\Inv g)) (lk (Inv g))))
  (hl:acc.length+ys.length < 16777000) (h0:Inv g) (hq:∀ g,Inv g->Q (acc++(ys.filter c).map e) g):JL fns d it 0 t cs [] elt acc σ g X Q :=
 dj ys enc c e Inv hn hs ys.length 0 acc g (Nat.zero_add _) (by simpa [Ae] using hl) h0 λg hg=>by simpa using hq g hg
def aH{t:Tg}{b:List S}{Q:Fl->G->Prop}(us:List U)(Inv:Nat->Su->G->Prop)
  (hn:∀ k σ g,Inv k σ g->next it k g=some us[k]?) (h0:Inv 0 σ g)
  (hs:∀ k u σ g,us[k]? = some u->Inv k σ g->JM (Ah t u σ) (lk λσ1=>wpS fns d b σ1 g X λf g=>JP f (lk (λσ'=>Inv (k+1) σ' g)) (lk λf=>Q f g)))
  (hq:∀ σ g,Inv us.length σ g->Q (.nx σ) g):JK fns d t it 0 b σ g X Q:=cG us Inv hn hs hq us.length 0 σ g (Nat.zero_add _) h0
end
def bF{l:List α}:(l.filter λ_=>true)=l:=List.filter_eq_self.mpr #[3]
abbrev Bj(g:G)(xs:List U)(Q:U->G->Prop):Prop := ∀ gs n,g.length<=n->(g++gs)[n]? = some (.lst xs)->Q (.ref n) (g++gs)
inductive Dt where
 | non | bl (b:Bool) | int (i:Int) | str (s:PySem.Str) | tup (ds:List Dt) | lst (ds:List Dt)
mutual
def Rep(g:G):Dt->U->Prop
 | .non,u=>u=.non
 | .bl b,u=>u=.bl b
 | .int i,u=>u=.int i
 | .str s,u=>u=.str s
 | .tup ds,u => ∃ us,u=.tup us/\Reps g ds us
 | .lst ds,u => ∃ n us,u=.ref n/\g[n]? = some (.lst us)/\Reps g ds us
def Reps(g:G):List Dt->List U->Prop
 | [],us=>us=[]
 | d :: ds,us => ∃ v vs,us=v :: vs/\Rep g d v/\Reps g ds vs
end
noncomputable def Dt.ok:Nat->Dt->Prop
 | 0,_=>False
 | n+1,.tup ds=>ds.length < 1000000 /\ ∀ D∈ds,D.ok n
 | n+1,.lst ds=>ds.length < 1000000 /\ ∀ D∈ds,D.ok n
 | _+1,_=>True
def Dt.ok_tup{ds:List Dt}:Dt.ok (n+1) (.tup ds) ↔ ds.length < 1000000 /\ ∀ D∈ds,D.ok n:=by rw [Dt.ok]
def Dt.ok_lst{ds:List Dt}:Dt.ok (n+1) (.lst ds) ↔ ds.length < 1000000 /\ ∀ D∈ds,D.ok n:=by rw [Dt.ok]
def Reps.length{g:G}:∀ {ds:List Dt} {us:List U},Reps g ds us->us.length=ds.length
 | [],_,h=>by cases h;rfl
 | _ :: ds,_,h=>by let ⟨v,vs,rfl,_,h2⟩:=h;simp [Reps.length h2]
def Reps.get{g:G}:∀ {ds:List Dt} {us:List U} {i:Nat} {D:Dt},Reps g ds us->ds[i]? = some D -> ∃ v,us[i]? = some v/\Rep g D v
 | [],_,_,_,_,e=>by simp at e
 | x :: ds,_,0,D,h,e=>by
  let ⟨v,vs,rfl,h1,_⟩:=h;simp at e;subst e;exact ⟨v,by simp,h1⟩
 | x :: ds,_,i+1,D,h,e=>by
  let ⟨v,vs,rfl,_,h2⟩:=h;let ⟨w,e1,e2⟩:=Reps.get (i:=i) (D:=D) h2 (by simpa using e)
  exact ⟨w,by simpa using e1,e2⟩
structure Plan where
 w:Int
 d:Int
 s:Int
abbrev Pt:=Int×Int
abbrev uPl(P:Plan):U := .tup [.int P.w,.int P.d,.int P.s]
abbrev uP(p:Pt):U := .tup [.int p.1,.int p.2]
structure Plan.ok(P:Plan):Prop where
 w:P.w=1\/P.w=2\/P.w=3
 d:P.d=1\/P.d=2\/P.d=3
 s:P.s=2\/P.s=4\/P.s=8
def Plan.ok.sd{P:Plan}(h:P.ok):small P.d:=by rcases h.d with e | e | e <;> rw [e] <;> exact bZ #[1]
def Plan.ok.ss{P:Plan}(h:P.ok):small P.s:=by rcases h.s with e | e | e <;> rw [e] <;> exact bZ #[1]
def Plan.ok.s0{P:Plan}(h:P.ok):0 < P.s:=by rcases h.s with e | e | e <;> rw [e] <;> decide
def Plan.ok.sb{P:Plan}(h:P.ok):P.s < Au:=by rcases h.s with e | e | e <;> rw [e] <;> decide
def Plan.ok.ws{P:Plan}(h:P.ok):2<=P.w*P.s/\P.w*P.s<=24:=by rcases h.w with e | e | e <;> rcases h.s with f | f | f <;> rw [e,f] <;> decide
def Plan.ok.ds{P:Plan}(h:P.ok):2<=P.d*P.s/\P.d*P.s<=24:=by rcases h.d with e | e | e <;> rcases h.s with f | f | f <;> rw [e,f] <;> decide
def An(P:Plan)(p:Pt):Bool:=decide (0<=p.1) && decide (p.1<=P.w*P.s) && decide (0<=p.2) && decide (p.2<=P.d*P.s)
def J0(n:Int):List Int:=(List.range n.toNat).map λ(i:Nat)=>(i:Int)
def ai(n:Int):(J0 n).length=n.toNat:=by simp [J0]
def cw{n i:Int}:i∈J0 n ↔ 0<=i/\i < n:=by
 simp! [J0,List.mem_map,List.mem_range];exact ⟨λ⟨k,h,e⟩=>by omega,λ⟨h,k⟩=>⟨i.toNat,by omega,by omega⟩⟩
def aN{j:Int}{k:Nat}:next (.rng 0 j.toNat) k g=some ((J0 j).map U.int)[k]? := by
 simp! [next,J0];by_cases h:k < j.toNat
 .simp [h]
 .simp [h]
def aE{k:Nat}(h:g[n]? = some (.lst xs)):next (.lst n) k g=some xs[k]? := by
 simp! [next,h]
def Ac(P:Plan):List Pt:=(J0 (P.w*P.s+1)).flatMap λx=>(J0 (P.d*P.s+1)).map λy=>(x,y)
def aW{P:Plan}{p:Pt}:p∈Ac P ↔ An P p=true:=by
 let ⟨x,y⟩:=p;simp! [Ac,List.mem_flatMap,List.mem_map,cw,An,Bool.and_eq_true,decide_eq_true_eq];constructor
 .rintro ⟨a,h1,b,h2,e⟩
  cases e;omega
 .intro h
  exact ⟨x,by omega,y,by omega,rfl⟩
def bG{α β:Type}{f:α->List β}{B:Nat}:∀ {l:List α},(∀ a∈l,(f a).length<=B)->(l.flatMap f).length<=l.length*B
 | [],_=>by simp
 | a :: l,h=>by
  rw [List.flatMap_cons,List.length_append,List.length_cons,Nat.succ_mul];have h1:=h a #[3]
  have h2:=bG (f:=f) (B:=B) (l:=l) λb hb=>h b (by simp [hb])
  omega
def bB{P:Plan}(h:P.ok):(Ac P).length<=625:=by
 have h1:=h.ws;have h2:=h.ds;have:=bG (f:=λx=>(J0 (P.d*P.s+1)).map λy=>((x,y):Pt)) (B:=25) (l:=J0 (P.w*P.s+1)) λa _=>by simp [ai];omega
 have h3:(J0 (P.w*P.s+1)).length<=25:=by rw [ai];omega
 have h4:(J0 (P.w*P.s+1)).length*25<=25*25:=Nat.mul_le_mul_right _ h3;unfold Ac;omega
def aa{gs:G}{o:O}(h:g[n]? = some o):(g++gs)[n]? = some o:=by
 rw [List.getElem?_append_left (List.getElem?_eq_some_iff.mp h).1];exact h
def aj{o:O}:(g++[o])[g.length]? = some o:=by simp
def fR{gs:G}(h:Bj g xs Q)(hl:xs.length<=16777000):xs.length<=16777000/\Q (.ref (g++gs).length) (g++gs++[.lst xs]):=by
 refine ⟨hl,?_⟩;have:=h (gs++[.lst xs]) (g++gs).length #[3] (by rw [<-List.append_assoc];exact aj)
 rw [<-List.append_assoc] at this;exact this
def D8(xs:List Int)(lo hi:Option Int):List Int:=(xs.drop (HT.sIx xs.length 0 lo)).take (HT.sIx xs.length xs.length hi - HT.sIx xs.length 0 lo)
def yx(ns:List Int)(l h:Option Int):Be #[32] l h=(D8 ns l h).map U.int:=by
 unfold Be D8;rw [List.length_map,<-List.map_drop,<-List.map_take]
abbrev Bx(c:Nat)(at_ seed:Int):O := .lst [.ref c,.int at_,.int seed]
def Bag(g:G):Prop := ∃ (xs:List Int) (at_ seed:Int),g[1]? = some (.lst (xs.map .int))/\g[2]? = some (Bx 1 at_ seed)
structure Fr(g g':G):Prop where
 bag:Bag g'
 len:g.length<=g'.length
 get:∀ (k:Nat) (o:O),3<=k->g[k]? = some o->g'[k]? = some o
def Bag.app{gs:G}(h:Bag g):Bag (g++gs):=let ⟨xs,a,s,h1,h2⟩:=h;⟨xs,a,s,aa h1,aa h2⟩
def Bag.len(h:Bag g):3<=g.length:=by let ⟨xs,a,s,h1,h2⟩:=h;exact (List.getElem?_eq_some_iff.mp h2).1
def Fr.app{g gs:G}(h:Bag g):Fr g (g++gs):=⟨h.app,by simp,λk o _ e=>aa e⟩
def Fr.refl(h:Bag g):Fr g g:=⟨h,HA _,λk o _ e=>e⟩
def Fr.trans{a b c:G}(h:Fr a b)(k:Fr b c):Fr a c:=⟨k.bag,Hy h.len k.len,λi o hi e=>k.get i o hi (h.get i o hi e)⟩
def Dc(xs:List Int)(at_:Int):Int:=if h:0 < xs.length then xs.getD (at_ % xs.length).toNat 0 else 0
def gE{xs:List Int}{at_:Int}(h:0 < xs.length):0<=at_ % (xs.length:Int)/\at_ % (xs.length:Int) < xs.length:=⟨Int.emod_nonneg _ (),Int.emod_lt_of_pos _ ()⟩
def wj{xs:List Int}{at_:Int}(h:0 < xs.length):Jc (xs.map U.int) (at_ % xs.length)=some (.int (Dc xs at_)):=by
 let ⟨h1,h2⟩:=gE (at_:=at_) h;rw [eU h1 (by simpa using h2)]
 have:(at_ % (xs.length:Int)).toNat < xs.length:=by omega
 simp [Dc,h,List.getElem?_eq_getElem this,List.getD]
def xS{xs:List Int}{at_:Int}(h:0 < xs.length):L2.ixN xs.length (at_ % xs.length)=some (at_ % xs.length).toNat:=by
 let ⟨h1,h2⟩:=gE (at_:=at_) h;unfold L2.ixN;rw [if_pos h1,if_pos h2]
def bX{P:Plan}{p:Pt}(h:0<=p.1/\p.1<=P.w*P.s/\0<=p.2/\p.2<=P.d*P.s):An P p=true:=by
 simp! [An,Bool.and_eq_true,decide_eq_true_eq];omega
def J1(p:Pt):Dt := .tup [.int p.1,.int p.2]
def aD{i:Int}:Rep g (.int i) (.int i):=by simp! [Rep]
def j0{α:Type}{g:G}{f:α->Dt}{e:α->U}(h:∀ a,Rep g (f a) (e a)):∀ l:List α,Reps g (l.map f) (l.map e)
 | []=>by simp! [List.map_nil,Reps]
 | a :: l=>by simp! [List.map_cons,Reps];exact ⟨_,_,rfl,h a,j0 h l⟩
def bL{i:Int}:(Dt.int i).ok (n+1):=by simp [Dt.ok]
def j5:IX .pow (.int 10) (.int 18)=some (.int 1000000000000000000):=by simp [IX,IW]
def cM{k:Int}{σ:Su}(h:g[n]? = some (.lst xs))(h0:0<=k)(h1:k < xs.length):subAt (.ref n) (.int k) u σ g=.ok (.nx σ) (g.set n (.lst (xs.set k.toNat u))):=by
 simp! [subAt,DV,h];unfold L2.ixN;rw [if_pos h0,if_pos h1]
def bf{y:U}(h:g[n]? = some (.lst xs))(hl:xs.length < 16777000):A5 n y g=.ok .non (g.set n (.lst (xs++[y]))):=by
 simp! [A5,h];rw [if_pos (by simpa [Ae] using hl)]
def uL{y:U}(hl:xs.length < 16777000):A5 g.length y (g++[.lst xs])=.ok .non (g++[.lst (xs++[y])]):=by
 rw [bf aj hl];simp
def ak{o o':O}(h:g[n]? = some o):(g.set n o')[n]? = some o':=List.getElem?_set_self (List.getElem?_eq_some_iff.mp h).1
def Fr.set1(h:Bag g)(xs:List Int):Fr g (g.set 1 (.lst (xs.map U.int))):=by
 let ⟨ys,a,s,h1,h2⟩:=h;refine ⟨⟨xs,a,s,ak h1,by rw [List.getElem?_set_ne #[1]];exact h2⟩,by simp,λk o hk e=>by rw [List.getElem?_set_ne ()];exact e⟩
def Fr.set2(h:Bag g)(a' s':Int):Fr g (g.set 2 (Bx 1 a' s')):=by
 let ⟨ys,a,s,h1,h2⟩:=h;refine ⟨⟨ys,a',s',by rw [List.getElem?_set_ne #[1]];exact h1,ak h2⟩,by simp,λk o hk e=>by rw [List.getElem?_set_ne ()];exact e⟩
def stride(p:Pt):Int:=if p.1 % 4=0/\p.2 % 4=0 then 4 else if p.1 % 2=0/\p.2 % 2=0 then 2 else 1
abbrev Pr:=Pt×Pt
def FH(p:Pt):Prop:=((p.1 - stride p) / (2*stride p)+(p.2 - stride p) / (2*stride p)) % 2=0
instance(p:Pt):Decidable (FH p):=by unfold FH;infer_instance
abbrev u2(q:Pr):U := .tup [uP q.1,uP q.2]
def C9:List Plan:=[1,2,3].flatMap λw=>[1,2,3].flatMap λd=>[2,4,8].map λs=>⟨w,d,s⟩
def dO{P:Plan}(h:P.ok):P∈C9:=by
 have m3:∀ {x a b c:Int},x=a\/x=b\/x=c->x∈[a,b,c]:=λh=>by simpa using h
 exact List.mem_flatMap.mpr ⟨P.w,m3 h.w,List.mem_flatMap.mpr ⟨P.d,m3 h.d,List.mem_map.mpr ⟨P.s,m3 h.s,rfl⟩⟩⟩
def qD{k i:Int}:IY (.int k) (.int i :: xs)=(IY (.int k) xs).map λc=>decide (i=k) || c:=by
 simp! [IY,IV,Ar];cases IY (.int k) xs with
 | none=>rfl
 | some c=>simp! [Option.map_some];congr 1
def lN{x:U}:IY x []=some false:=rfl
def J3(q:Pr):Dt := .tup [J1 q.1,J1 q.2]
def gy{l:List α}{f:α->U}{i:Int}(h0:0<=i)(h:i < l.length):∃ a∈l,Jc (l.map f) i=some (f a):=by
 have hi:i.toNat < l.length:=by omega
 refine ⟨l[i.toNat],List.getElem_mem hi,?_⟩;rw [eU h0 (by simpa using h)]
 simp [hi]
def ltP(p q:Pt):Prop:=p.1 < q.1\/(p.1=q.1/\p.2 < q.2)
instance(p q:Pt):Decidable (ltP p q):=by unfold ltP;infer_instance
def vw{p q:Pt}(h:ltP p q)(k:ltP q p):False:=by unfold ltP at h k;omega
def lx{p:Pt}(h:ltP p p):False:=vw h h
def iM(n:Int):(J0 n).Pairwise (· < ·):=by
 unfold J0;rw [List.pairwise_map];exact List.Pairwise.imp (λh=>by omega) (List.pairwise_lt_range (n:=n.toNat))
def hY(P:Plan):(Ac P).Pairwise ltP:=by
 unfold Ac;rw [List.pairwise_flatMap];refine ⟨λx _ => ?_,?_⟩
 .rw [List.pairwise_map]
  exact (iM _).imp λh => .inr ⟨rfl,h⟩
 .refine (iM _).imp λ{x y} h p hp q hq => ?_
  let ⟨_,_,rfl⟩:=List.mem_map.mp hp;let ⟨_,_,rfl⟩:=List.mem_map.mp hq;exact .inl h
structure Tri where
 ax:Int
 ay:Int
 bx:Int
 bY:Int
 cx:Int
 cy:Int
deriving DecidableEq
abbrev uT(t:Tri):U := .tup [.int t.ax,.int t.ay,.int t.bx,.int t.bY,.int t.cx,.int t.cy]
def J4(o:Option Pt):U:=match o with
 | none => .non
 | some p=>uP p
def AX(i j s:Int):List Tri:=if (i+j) % 2=0 then [⟨i*s,j*s,i*s+s,j*s+s,i*s+s,j*s⟩,⟨i*s+s,j*s+s,i*s,j*s,i*s,j*s+s⟩]
 else [⟨i*s+s,j*s,i*s,j*s+s,i*s+s,j*s+s⟩,⟨i*s,j*s+s,i*s+s,j*s,i*s,j*s⟩]
def dF(i j s:Int):(AX i j s).length=2:=by unfold AX;split <;> rfl
def Bn(P:Plan):List Tri:=(J0 P.w).flatMap λi=>(J0 P.d).flatMap λj=>AX i j P.s
def Bm(t:Tri):Option Pt:=if (t.ax+t.bx) % 2=1\/(t.ay+t.bY) % 2=1 then none else some ((t.ax+t.bx) / 2,(t.ay+t.bY) / 2)
def Ca(t:Tri)(m:Pt):List Tri:=[⟨t.ax,t.ay,t.cx,t.cy,m.1,m.2⟩,⟨t.cx,t.cy,t.bx,t.bY,m.1,m.2⟩]
def Aq(t:Tri):List Tri:=match Bm t with
 | none=>[]
 | some m=>Ca t m
def cI{t:Tri}{m:Pt}(h:Bm t=some m):Aq t=Ca t m:=by unfold Aq;rw [h]
def tY{t:Tri}(h:Bm t=none):Aq t=[]:=by unfold Aq;rw [h]
def AY:Nat->Tri->List Tri
 | 0,t=>[t]
 | n+1,t=>t :: (Aq t).flatMap (AY n)
def AM:Nat->Tri->Bool
 | 0,t=>(Aq t).isEmpty
 | n+1,t=>(Aq t).all (AM n)
def AA(t:Tri):List Tri:=AY 7 t
def fA{α β:Type}{f g:α->List β}:∀ {l:List α},(∀ x∈l,f x=g x)->l.flatMap f=l.flatMap g
 | [],_=>rfl
 | a :: l,h=>by rw [List.flatMap_cons,List.flatMap_cons,h a #[3],fA λx hx=>h x (by simp [hx])]
def iO:∀ (n:Nat) (t:Tri),AM n t=true->AY (n+1) t=AY n t
 | 0,t,h=>by
  have:Aq t=[]:=List.isEmpty_iff.mp h;simp [AY,this]
 | n+1,t,h=>by
  have h':=List.all_eq_true.mp h;show t :: (Aq t).flatMap (AY (n+1))=t :: (Aq t).flatMap (AY n);rw [fA λx hx=>iO n x (h' x hx)]
def je:∀ (n:Nat) (t:Tri),AM n t=true->AM (n+1) t=true
 | 0,t,h=>by
  have:Aq t=[]:=List.isEmpty_iff.mp h;simp [AM,this]
 | n+1,t,h=>List.all_eq_true.mpr λx hx=>je n x (List.all_eq_true.mp h x hx)
def jh{t x:Tri}(h:AM 7 t=true)(hx:x∈Aq t):AM 6 x=true:=List.all_eq_true.mp h x hx
def km{t:Tri}(h:AM 7 t=true):AA t=t :: (Aq t).flatMap AA:=by
 show t :: (Aq t).flatMap (AY 6)=_;rw [fA λx hx=>(iO 6 x (jh h hx)).symm]
 rfl
def vo(t:Tri):0 < (AA t).length:=by show 0 < (t :: _).length;simp
def J5(P:Plan):List Tri:=(Bn P).flatMap AA
def iU:(C9.all λP=>(Bn P).all (AM 7) && decide (((J5 P).length:Int)=P.w*P.d*(4*P.s*P.s - 2)) && decide ((J5 P).length<=2286))=true:=by decide +kernel
def fO{P:Plan}(h:P.ok){t:Tri}(ht:t∈Bn P):AM 7 t=true:=by
 have:=List.all_eq_true.mp iU P (dO h);simp! [Bool.and_eq_true,List.all_eq_true] at this;exact this.1.1 t ht
def fw{P:Plan}(h:P.ok):((J5 P).length:Int)=P.w*P.d*(4*P.s*P.s - 2)/\(J5 P).length<=2286:=by
 have:=List.all_eq_true.mp iU P (dO h);simp! [Bool.and_eq_true,decide_eq_true_eq] at this;exact ⟨this.1.2,this.2⟩
def iN{P:Plan}(h:P.ok):(Bn P).length<=18:=by
 have a:∀ i,((J0 P.d).flatMap λj=>AX i j P.s).length<=6:=λi=>by
  have:=bG (f:=λj=>AX i j P.s) (B:=2) (l:=J0 P.d) λj _=>Nat.le_of_eq (dF i j P.s);have h2:(J0 P.d).length<=3:=by rw [ai];rcases h.d with e | e | e <;> rw [e] <;> decide
  omega
 have:=bG (f:=λi=>(J0 P.d).flatMap λj=>AX i j P.s) (B:=6) (l:=J0 P.w) λi _=>a i;have h2:(J0 P.w).length<=3:=by rw [ai];rcases h.w with e | e | e <;> rw [e] <;> decide
 unfold Bn;omega
def fF{y:U}(h:g[n]? = some (.lst (xs++[y]))):Bg n g=.ok y (g.set n (.lst xs)):=by
 simp! [Bg,h];simp
def jy{ys:List U}(h:g[n]? = some (.lst xs))(k:g[m]? = some (.lst ys))(hl:xs.length+ys.length < 16777000):Bp n (.ref m) g=.ok .non (g.set n (.lst (xs++ys))):=by
 simp! [Bp,Jg,h,k];rw [if_pos (by simpa [Ae] using hl)]
def slc4{t:Tri}:CI (uT t) none (some 4) g=.ok (.tup [.int t.ax,.int t.ay,.int t.bx,.int t.bY]) g:=rfl
def dT(t:Tri):Dt := .tup [.int t.ax,.int t.ay,.int t.bx,.int t.bY,.int t.cx,.int t.cy]
def jS{α β:Type}{f:α->List β}:∀ {l:List α},(∀ x∈l,0 < (f x).length)->l.length<=(l.flatMap f).length
 | [],_=>by simp
 | a :: l,h=>by
  rw [List.flatMap_cons,List.length_append,List.length_cons];have h1:=h a #[3]
  have h2:=jS (l:=l) λx hx=>h x (by simp [hx])
  omega
def iq{α β:Type}{f:α->List β}:∀ {l:List α},(l.reverse.flatMap f).length=(l.flatMap f).length
 | []=>rfl
 | a :: l=>by
  rw [List.reverse_cons,List.flatMap_append,List.length_append,iq,List.flatMap_cons,List.length_append];simp;omega
def xy{l:List α}{a:α}:(l++[a]).isEmpty=false:=by cases l <;> rfl
def jV{B gs:G}{a b:O}:(g++a :: (B++b :: gs))[g.length]? = some a:=by simp
def d9{B gs:G}{a b:O}:(g++a :: (B++b :: gs))[g.length+1+B.length]? = some b:=by
 rw [List.getElem?_append_right (),show g.length+1+B.length - g.length=B.length+1 by omega,List.getElem?_cons_succ,List.getElem?_append_right ()]
 simp
def xg{B gs:G}{a b c:O}:(g++a :: (B++b :: gs)).set g.length c=g++c :: (B++b :: gs):=by simp
def jU{B gs:G}{a b c:O}:(g++a :: (B++b :: gs)).set (g.length+1+B.length) c=g++a :: (B++c :: gs):=by
 rw [List.set_append_right _ _ (),show g.length+1+B.length - g.length=B.length+1 by omega,List.set_cons_succ,List.set_append_right _ _ ()]
 simp
def gz{B gs hs:G}{a b:O}:g++a :: (B++b :: gs)++hs=g++a :: (B++b :: (gs++hs)):=by simp
def gj(i:Int):(if i < 0 then -i else i)=(i.natAbs:Int):=by split <;> omega
noncomputable def big(i:Int):Prop := -Au < i/\i < Au
def J6(i j:Int):Int:=if 0 < j then i / j else i.fdiv j
def n8{i j:Int}(h0:j≠0)(h:big j):IX .fdiv (.int i) (.int j)=some (.int (J6 i j)):=by
 let ⟨h1,h2⟩:=h;unfold J6;simp! [IX,IW];by_cases h:0 < j
 .simp [h,h2]
 .simp [h,h0,h1]
def Bu(a b:Int):Int:=if b < 0 then -(Nat.gcd a.natAbs b.natAbs:Int) else (Nat.gcd a.natAbs b.natAbs:Int)
def Gc(a b:Int):Pt:=(J6 a (Bu a b),J6 b (Bu a b))
def aaT{a b:Int}(hb:b≠0):0 < Nat.gcd a.natAbs b.natAbs/\Nat.gcd a.natAbs b.natAbs<=b.natAbs:=by
 have h:0 < b.natAbs:=by omega
 exact ⟨Nat.gcd_pos_of_pos_right _ h,Nat.le_of_dvd h (Nat.gcd_dvd_right _ _)⟩
def xp{a b:Int}(hb:b≠0)(h:big b):Bu a b≠0/\big (Bu a b):=by
 let ⟨h1,h2⟩:=aaT (a:=a) hb;let ⟨h3,h4⟩:=h;unfold Bu big;split <;> omega
def mid(i:Int):Prop := -10000000000000000000000000000 < i/\i < 10000000000000000000000000000
def mid.big{i:Int}(h:mid i):big i:=by unfold mid at h;unfold PI.big Au;omega
def jt:∀ (n:Nat) (t:Tri),t∈AY n t
 | 0,t=>by simp [AY]
 | n+1,t=>by simp [AY]
def ju:∀ (n:Nat) (r t x:Tri),AM n r=true->t∈AY n r->x∈Aq t->x∈AY n r
 | 0,r,t,x,hd,ht,hx=>by
  have h0:Aq r=[]:=List.isEmpty_iff.mp hd;have:t=r:=by simpa [AY] using ht
  subst this;rw [h0] at hx;cases hx
 | n+1,r,t,x,hd,ht,hx=>by
  rcases List.mem_cons.mp ht with rfl | h
  .exact HB _ (List.mem_flatMap.mpr ⟨x,hx,jt n x⟩)
  .obtain ⟨y,hy,hty⟩:=List.mem_flatMap.mp h
   exact HB _ (List.mem_flatMap.mpr ⟨y,hy,ju n y t x (List.all_eq_true.mp hd y hy) hty hx⟩)
def ur{P:Plan}(hP:P.ok){t x:Tri}(ht:t∈J5 P)(hx:x∈Aq t):x∈J5 P:=by
 let ⟨r,hr,h⟩:=List.mem_flatMap.mp ht;exact List.mem_flatMap.mpr ⟨r,hr,ju 7 r t x (fO hP hr) h hx⟩
def ux{P:Plan}{t:Tri}(ht:t∈Bn P):t∈J5 P:=List.mem_flatMap.mpr ⟨t,ht,jt 7 t⟩
def BW(t:Tri):Bool:=[t.ax,t.ay,t.bx,t.bY,t.cx,t.cy].all λi=>decide (0<=i) && decide (i < 32)
structure NT where
 a:Nat
 b:Nat
 c:Nat
 d:Nat
 e:Nat
 f:Nat
def J7(x y z v:Nat):Bool:=Nat.ble v x || (Nat.ble v y || Nat.ble v z)
def AD(t:Tri):List Int:=[t.ax,t.ay,t.bx,t.bY,t.cx,t.cy]
def d8{t u:Tri}(h:AD t=AD u):t=u:=by
 let ⟨a,b,c,d,e,f⟩:=t;let ⟨a',b',c',d',e',f'⟩:=u;simpa [AD] using h
def cz{t:Tri}:intsOf [.int t.ax,.int t.ay,.int t.bx,.int t.bY,.int t.cx,.int t.cy]=some (AD t):=rfl
def fG{k:List Int}:(Ao kvs k).isSome=kvs.any λkv=>decide (kv.1=k):=by
 unfold Ao
 induction kvs with
 | nil=>rfl
 | cons a r ih =>
  rw [List.find?_cons,List.any_cons];cases decide (a.1=k) with
  | true=>rfl
  | false=>simpa using ih
def jK{k:List Int}{v:U}:(dput kvs k v).length<=kvs.length+1:=by
 unfold dput;split <;> simp
def aS{k:List Int}{σ:Su}(h:g[n]? = some (.dic kvs))(hk:intsOf us=some k)(hl:kvs.length < 16777000):subAt (.ref n) (.tup us) u σ g=.ok (.nx σ) (g.set n (.dic (dput kvs k u))):=by
 simp! [subAt,DZ,h,hk];rw [if_pos (by simpa [Ae] using hl)]
def aJ{k:List Int}(h:g[n]? = some (.dic kvs))(hk:intsOf us=some k):Aj (.tup us) (.ref n) g=some (Ao kvs k):=by
 simp! [Aj,I0,h,keyOf,hk,Option.map_some]
def AW(a b:Int):List Int:=(List.range (b - a).toNat).map λ(i:Nat)=>a+(i:Int)
def d5(a b:Int):(AW a b).length=(b - a).toNat:=by simp [AW]
def wB{a b i:Int}:i∈AW a b ↔ a<=i/\i < b:=by
 simp! [AW,List.mem_map,List.mem_range];exact ⟨λ⟨k,h,e⟩=>by omega,λ⟨h,k⟩=>⟨(i - a).toNat,by omega,by omega⟩⟩
def jr{a b:Int}{k:Nat}:next (.rng a (b - a).toNat) k g=some ((AW a b).map U.int)[k]? := by
 simp! [next,AW];by_cases h:k < (b - a).toNat
 .simp [h]
 .simp [h]
abbrev lefT(t:Tri):Int:=best true t.ax [t.bx,t.cx]
abbrev lowY(t:Tri):Int:=best true t.ay [t.bY,t.cy]
abbrev rigT(t:Tri):Int:=best false t.ax [t.bx,t.cx]
abbrev topT(t:Tri):Int:=best false t.ay [t.bY,t.cy]
def Bo(t:Tri)(p:Pt):Bool:=decide (lefT t<=p.1) && decide (p.1<=rigT t) && (decide (lowY t<=p.2) && decide (p.2<=topT t))
def Ce(ax ay bx by_:Int)(p:Pt):Int:=(bx - ax)*(p.2 - ay) - (by_ - ay)*(p.1 - ax)
abbrev tu1(t:Tri)(p:Pt):Int:=Ce t.ax t.ay t.bx t.bY p
abbrev tu2(t:Tri)(p:Pt):Int:=Ce t.bx t.bY t.cx t.cy p
abbrev tu3(t:Tri)(p:Pt):Int:=Ce t.cx t.cy t.ax t.ay p
def AN(t:Tri)(p:Pt):Bool:=Bo t p && (decide (0<=best true (tu1 t p) [tu2 t p,tu3 t p]) || decide (best false (tu1 t p) [tu2 t p,tu3 t p]<=0))
def J8(t:Tri):List Pt:=(AW (lefT t) (rigT t+1)).flatMap λx=>((AW (lowY t) (topT t+1)).filter λy=>AN t (x,y)).map λy=>(x,y)
def G2(a b c:Pt):Int:=(b.1 - a.1)*(c.2 - a.2) - (c.1 - a.1)*(b.2 - a.2)
def J9(t:Tri):Pt:=(t.ax,t.ay)
def Ka(t:Tri):Pt:=(t.bx,t.bY)
def Kb(t:Tri):Pt:=(t.cx,t.cy)
def bD{a b c x:Int}:x<=best true a [b,c] ↔ x<=a/\x<=b/\x<=c:=by
 simp! [best,List.foldl_cons,List.foldl_nil,if_true];split <;> split <;> omega
def bC{a b c x:Int}:best false a [b,c]<=x ↔ a<=x/\b<=x/\c<=x:=by
 simp! [best,List.foldl_cons,List.foldl_nil,Bool.false_eq_true,if_false];split <;> split <;> omega
def Kc(t:Tri):Prop:=(-100<=t.ax/\t.ax<=100)/\(-100<=t.ay/\t.ay<=100)/\(-100<=t.bx/\t.bx<=100)/\(-100<=t.bY/\t.bY<=100)/\(-100<=t.cx/\t.cx<=100)/\(-100<=t.cy/\t.cy<=100)
def Kc.box{t:Tri}(h:Kc t): -100<=lefT t/\rigT t<=100 /\ -100<=lowY t/\topT t<=100:=by
 let ⟨a,b,c,d,e,f⟩:=h;refine ⟨bD.mpr (),bC.mpr (),bD.mpr (),bC.mpr ()⟩
def vn{t:Tri}(h:Kc t):(J8 t).length<=201*201:=by
 let ⟨b1,b2,b3,b4⟩:=h.box;have:=bG (f:=λx=>((AW (lowY t) (topT t+1)).filter λy=>AN t (x,y)).map λy=>((x,y):Pt)) (B:=201) (l:=AW (lefT t) (rigT t+1)) λx _=>by
  rw [List.length_map];have:=List.length_filter_le (λy=>AN t (x,y)) (AW (lowY t) (topT t+1));rw [d5] at this;omega
 have h3:(AW (lefT t) (rigT t+1)).length<=201:=by rw [d5];omega
 have h4:(AW (lefT t) (rigT t+1)).length*201<=201*201:=Nat.mul_le_mul_right _ h3;unfold J8;omega
def yZ:(C9.all λP=>(J5 P).all BW)=true:=by decide +kernel
def fm{P:Plan}(h:P.ok){t:Tri}(ht:t∈J5 P):BW t=true:=List.all_eq_true.mp (List.all_eq_true.mp yZ P (dO h)) t ht
def ke{t:Tri}(h:BW t=true):Kc t:=by
 simp! [BW,List.all_cons,List.all_nil,Bool.and_true,Bool.and_eq_true,decide_eq_true_eq] at h;unfold Kc;omega
section
variable{fns:List Fn}{σ:Su}{X:XP}
def gI{it:Iter}{t:Tg}{cs:List E}{elt:E}{Q:List U->G->Prop}(us:List U)(Pr:U->Prop)(Inv:G->Prop)
  (hn:∀ k g,Inv g->next it k g=some us[k]?)
  (hs:∀ u,u∈us->AH t σ=true/\JM (Ah t u σ) (lk λσ1 => ∀ g,Inv g->JG fns d cs σ1 g (λ_ _ _=>False) λk g=>Inv g/\(k=true->JD fns d elt σ1 g (λ_ _ _=>False) λv g=>Pr v/\Inv g))) :
  ∀ (n i:Nat) (acc:List U) (g:G),i+n=us.length->acc.length+n < Ae->Inv g->(∀ vs g,vs.length<=n->(∀ v∈vs,Pr v)->Inv g->Q (acc++vs) g)->JL fns d it i t cs [] elt acc σ g X Q
 | 0,i,acc,g,e1,_,h,hq=>by
  rw [aT];refine ⟨none,by rw [hn _ _ h];simp;omega,?_⟩
  have:=hq [] g (HA _) #[3] h
  simpa using this
 | n+1,i,acc,g,e1,hl,h,hq=>by
  have hi:i < us.length:=by omega
  let ⟨hf,hs1⟩:=hs us[i] (List.getElem_mem hi);let ⟨σ1,hb,hw⟩:=aG.2 hs1;rw [aT];refine ⟨some us[i],by rw [hn _ _ h];simp [hi],hf,σ1,hb,wp_mono (hw g h) λk g q => ?_⟩
  let ⟨q1,q2⟩:=q;cases k with
  | true =>
   rw [if_pos rfl];refine wp_mono (q2 rfl) λv g ⟨ev,hg⟩=>⟨by omega,?_⟩
   refine gI us Pr Inv hn hs n (i+1) _ g () (by simp;omega) hg λvs g h1 h2 h3 => ?_
   have:=hq (v :: vs) g (by simp;omega) (λx hx=>by rcases List.mem_cons.mp hx with rfl | z;exact ev;exact h2 x z) h3
   simpa using this
  | false =>
   rw [if_neg #[3]]
   exact gI us Pr Inv hn hs n (i+1) _ g () () q1 λvs g h1 h2 h3=>hq vs g () h2 h3
end
def jG{k k':List Int}{v:U}:∀ {kvs:List (List Int×U)},((kvs.map λkv=>if kv.1=k then (kv.1,v) else kv).find? λkv=>decide (kv.1=k'))=(kvs.find? λkv=>decide (kv.1=k')).map λkv=>if kv.1=k then (kv.1,v) else kv
 | []=>rfl
 | a :: r=>by
  have ih:=jG (k:=k) (k':=k') (v:=v) (kvs:=r);rw [List.map_cons,List.find?_cons,List.find?_cons];have e:decide ((if a.1=k then (a.1,v) else a).1=k')=decide (a.1=k'):=by split <;> rfl
  rw [e];cases decide (a.1=k') with
  | true=>rfl
  | false=>exact ih
def bV{k k':List Int}{v:U}:Ao (dput kvs k v) k'=if k=k' then some v else Ao kvs k':=by
 by_cases h:(kvs.any λkv=>decide (kv.1=k))=true
 .unfold dput
  rw [if_pos h];unfold Ao;rw [jG];have hs:=fG (kvs:=kvs) (k:=k);rw [h] at hs;unfold Ao at hs;cases hf:kvs.find? (λkv=>decide (kv.1=k')) with
  | none =>
   by_cases e:k=k'
   .subst e;rw [hf] at hs;simp at hs
   .rw [if_neg e];rfl
  | some kv =>
   have:=List.find?_some hf;simp! [decide_eq_true_eq] at this;by_cases e:k=k'
   .subst e;simp [this]
   .have e' : ¬ k'=k:=λz=>e z.symm
    rw [if_neg e];simp [this,e']
 .unfold dput
  rw [if_neg h];unfold Ao;rw [List.find?_append];by_cases e:k=k'
  .subst e
   have hs:=fG (kvs:=kvs) (k:=k);rw [Bool.not_eq_true] at h;rw [h] at hs;have hn:kvs.find? (λkv=>decide (kv.1=k))=none:=by
    unfold Ao at hs;cases hf:kvs.find? (λkv=>decide (kv.1=k)) with
    | none=>rfl
    | some kv=>rw [hf] at hs;simp at hs
   rw [hn];simp
  .rw [if_neg e]
   cases hf:kvs.find? (λkv=>decide (kv.1=k')) with
   | none=>simp [e]
   | some kv=>simp
def jm{k:List Int}{v:U}(h:(Ao kvs k).isSome=true):(dput kvs k v).length=kvs.length:=by
 rw [fG] at h;unfold dput;rw [if_pos h];simp
def Ab(p:Pt):List Int:=[p.1,p.2]
def av{p q:Pt}(h:Ab p=Ab q):p=q:=by
 let ⟨a,b⟩:=p;let ⟨c,d⟩:=q;simpa [Ab] using h
def aq{a b:Int}:intsOf [.int a,.int b]=some (Ab (a,b)):=rfl
def Kd{α:Type}(key:α->List Int)(f:α->U)(ps:List α):List (List Int×U):=ps.map λq=>(key q,f q)
def a7{α:Type}{key:α->List Int}(hi:∀ a b,key a=key b->a=b){f:α->U}{a:α}:∀ {ps:List α},a∈ps->Ao (Kd key f ps) (key a)=some (f a)
 | [],h=>nomatch h
 | b :: r,h=>by
  unfold Ao Kd;rw [List.map_cons,List.find?_cons];by_cases e:key b=key a
  .have:=hi _ _ e;subst this;simp
  .have h':a∈r:=by
    rcases List.mem_cons.mp h with z | z
    .subst z;exact absurd rfl e
    .exact z
   have ih:=a7 hi (f:=f) h';unfold Ao Kd at ih;simp! [e,decide_false];exact ih
def cb[DecidableEq α]{key:α->List Int}(hi:∀ a b,key a=key b->a=b){f:α->U}{a:α}{v:U}{ps:List α}(h:a ∉ ps):dput (Kd key f ps) (key a) v=Kd key (λq=>if q=a then v else f q) (ps++[a]):=by
 unfold dput;rw [if_neg]
 .unfold Kd
  rw [List.map_append];congr 1
  .refine List.map_congr_left λq hq => ?_
   show (key q,f q)=(key q,if q=a then v else f q)
   rw [if_neg (λe=>h (by rw [<-e];exact hq))]
  .simp
 .intro hc
  simp! [Kd,List.any_map,List.any_eq_true,Function.comp,decide_eq_true_eq] at hc;let ⟨q,hq,e⟩:=hc;exact h (by rw [<-hi _ _ e];exact hq)
def kg[DecidableEq α]{key:α->List Int}(hi:∀ a b,key a=key b->a=b){f:α->U}{a:α}{v:U}{ps:List α}(h:a∈ps):dput (Kd key f ps) (key a) v=Kd key (λq=>if q=a then v else f q) ps:=by
 unfold dput;rw [if_pos]
 .unfold Kd
  rw [List.map_map];refine List.map_congr_left λq hq => ?_;simp! [Function.comp];by_cases e:q=a
  .subst e;simp
  .rw [if_neg (λz=>e (hi _ _ z)),if_neg e]
 .simp only [Kd,List.any_map,List.any_eq_true,Function.comp,decide_eq_true_eq]
  exact ⟨a,h,rfl⟩
def jd{α:Type}(key:α->List Int)(e:α->U)(hk:∀ a,keyOf (e a)=some (key a))(v:U):∀ (ts:List α) (kvs:List (List Int×U)),∃ kvs',dfold (ts.map λt => .tup [e t,v]) kvs=some kvs'/\kvs'.length<=kvs.length+ts.length /\ ∀ k,Ao kvs' k=if k∈ts.map key then some v else Ao kvs k
 | [],kvs=>⟨kvs,rfl,by simp,λk=>by simp⟩
 | t :: ts,kvs=>by
  let ⟨kvs',h1,h2,h3⟩:=jd key e hk v ts (dput kvs (key t) v);refine ⟨kvs',?_,?_,λk => ?_⟩
  .rw [List.map_cons]
   show (BF kvs (.tup [e t,v])).bind _=_;simp! [BF,hk,Option.map_some,Option.bind_some];exact h1
  .have:=jK (kvs:=kvs) (k:=key t) (v:=v)
   rw [List.length_cons];omega
  .rw [h3,bV]
   by_cases e1:k∈ts.map key
   .rw [if_pos e1,if_pos (by rw [List.map_cons];exact HB _ e1)]
   .rw [if_neg e1]
    by_cases e2:key t=k
    .subst e2;rw [if_pos rfl,if_pos #[3]]
    .rw [if_neg e2,if_neg]
     rw [List.map_cons,List.mem_cons];exact λz=>z.elim (λz=>e2 z.symm) e1
def Ke(xs:List U):List U:=(List.range xs.length).map λ(i:Nat) => .tup [.int (i:Int),(xs[i]?).getD .non]
def gr{k:Nat}:(Ke xs)[k]? = (xs[k]?).map λu => .tup [.int k,u]:=by
 unfold Ke;by_cases h:k < xs.length
 .simp [h]
 .simp [h]
def k5:(Ke xs).length=xs.length:=by simp [Ke]
def jN{id k:Nat}(h:g[id]? = some (.lst xs)):next (.enm id) k g=some (Ke xs)[k]? := by
 simp! [next,h,gr]
def d0{id k:Nat}{key:α->List Int}{f:α->U}{ps:List α}(h:g[id]? = some (.dif (Kd key f ps))):next (.dic id) k g=some (ps.map λp=>U.tup ((key p).map .int))[k]? := by
 simp! [next,h,Kd,List.getElem?_map];cases ps[k]? <;> rfl
def dI{k:List Int}(h:g[n]? = some (.dif kvs))(hk:intsOf us=some k):Aj (.tup us) (.ref n) g=some (Ao kvs k):=by
 simp! [Aj,I0,h,keyOf,hk,Option.map_some]
def wX{k:List Int}(h:I0 u g=some kvs)(hk:intsOf us=some k):Aj (.tup us) u g=some (Ao kvs k):=by
 simp! [Aj,h,keyOf,hk,Option.map_some]
def A0(t:Tri):Int:=(t.bx - t.ax)*(t.cy - t.ay) - (t.bY - t.ay)*(t.cx - t.ax)
def DT(t:Tri)(a b c:Int):Int:=(b - a)*(t.cy - t.ay) - (c - a)*(t.bY - t.ay)
def DM(t:Tri)(a b c:Int):Int:=(c - a)*(t.bx - t.ax) - (b - a)*(t.cx - t.ax)
def FE(t:Tri)(a b c:Int):Int:=a*A0 t - DT t a b c*t.ax - DM t a b c*t.ay
abbrev Ht:=Pt->Int
abbrev riH(H:Ht)(t:Tri):Int:=DT t (H (J9 t)) (H (Ka t)) (H (Kb t))
abbrev clH(H:Ht)(t:Tri):Int:=DM t (H (J9 t)) (H (Ka t)) (H (Kb t))
abbrev baH(H:Ht)(t:Tri):Int:=FE t (H (J9 t)) (H (Ka t)) (H (Kb t))
def Kf(H:Ht)(t:Tri)(p:Pt):Int:=H p*A0 t - (riH H t*p.1+clH H t*p.2+baH H t)
def A1(H:Ht)(t:Tri)(p:Pt):Int:=((Kf H t p).natAbs:Int)
def AB(H:Ht)(t:Tri)(a:Int×Option Pt)(p:Pt):Int×Option Pt:=if a.1 < A1 H t p then (A1 H t p,some p) else a
def BO(H:Ht)(t:Tri):Int×Option Pt:=(J8 t).foldl (AB H t) (-1,none)
def Kg(H:Ht)(t:Tri):Pt:=Gc (BO H t).1 ((A0 t).natAbs:Int)
abbrev uG(H:Ht)(t:Tri):U := .tup [uP (Kg H t),J4 (BO H t).2]
def FC(a b:Pt):Prop:=a.1*b.2 < b.1*a.2
instance{a b:Pt}:Decidable (FC a b):=by unfold FC;infer_instance
def kc{H:Ht}{t:Tri}:∀ (l:List Pt) (a:Int×Option Pt),a.1<=(l.foldl (AB H t) a).1/\(∀ p∈l,A1 H t p<=(l.foldl (AB H t) a).1)/\((l.foldl (AB H t) a).1=a.1 \/ ∃ p∈l,(l.foldl (AB H t) a).1=A1 H t p)
 | [],a=>⟨Int.le_refl _,(λp h=>nomatch h),.inl rfl⟩
 | q :: l,a=>by
  let ⟨h1,h2,h3⟩:=kc (H:=H) (t:=t) l (AB H t a q);rw [List.foldl_cons];by_cases c:a.1 < A1 H t q
  .have e:AB H t a q=(A1 H t q,some q):=if_pos c
   have e1:(AB H t a q).1=A1 H t q:=by rw [e]
   refine ⟨by omega,λp hp => ?_,?_⟩
   .rcases List.mem_cons.mp hp with rfl | hp
    .omega
    .exact h2 p hp
   .rcases h3 with h3 | ⟨p,hp,h3⟩
    .exact .inr ⟨q,by simp,by omega⟩
    .exact .inr ⟨p,by simp [hp],h3⟩
  .have e:AB H t a q=a:=if_neg c
   have e1:(AB H t a q).1=a.1:=by rw [e]
   refine ⟨by omega,λp hp => ?_,?_⟩
   .rcases List.mem_cons.mp hp with rfl | hp
    .omega
    .exact h2 p hp
   .rcases h3 with h3 | ⟨p,hp,h3⟩
    .exact .inl ()
    .exact .inr ⟨p,by simp [hp],h3⟩
def zl{H:Ht}{t:Tri}{p:Pt}(h:p∈J8 t):0<=(BO H t).1:=by
 have:=(kc (H:=H) (t:=t) (J8 t) (-1,none)).2.1 p h;unfold BO;have h2:0<=A1 H t p:=by unfold A1;omega
 omega
structure Low(a:Pt):Prop where
 pos:0 < a.2
 cop:Nat.gcd a.1.natAbs a.2.natAbs=1
def jo{t:Tri}{p:Pt}:p∈J8 t ↔ AN t p=true:=by
 let ⟨x,y⟩:=p;unfold J8;simp! [List.mem_flatMap,wB,List.mem_map,List.mem_filter,Prod.mk.injEq];constructor
 .rintro ⟨a,ha,b,⟨hb,hc⟩,rfl,rfl⟩;exact hc
 .intro h
  have hb:Bo t (x,y)=true:=by unfold AN at h;exact (Bool.and_eq_true_iff.mp h).1
  simp! [Bo,Bool.and_eq_true,decide_eq_true_eq] at hb;exact ⟨x,by omega,y,⟨by omega,h⟩,rfl,rfl⟩
def Kh(P:Plan)(t:Tri):Bool:=An P (J9 t) && (An P (Ka t) && An P (Kb t))
def Ki(t:Tri):Bool:=decide (0 < (A0 t).natAbs) && decide ((A0 t).natAbs<=1000)
def zj:(C9.all λP=>(J5 P).all λt=>Kh P t && Ki t)=true:=by decide +kernel
def eN{P:Plan}(h:P.ok){t:Tri}(ht:t∈J5 P):Kh P t=true/\0 < (A0 t).natAbs/\(A0 t).natAbs<=1000:=by
 have:=List.all_eq_true.mp (List.all_eq_true.mp zj P (dO h)) t ht;simpa [Ki] using this
def cJ{P:Plan}{p:Pt}:An P p=true ↔ 0<=p.1/\p.1<=P.w*P.s/\0<=p.2/\p.2<=P.d*P.s:=by
 simp! [An,Bool.and_eq_true,decide_eq_true_eq];omega
def gq{P:Plan}{t:Tri}(h:Kh P t=true):An P (J9 t)=true/\An P (Ka t)=true/\An P (Kb t)=true:=by simpa [Kh] using h
def xa{P:Plan}{t:Tri}(h:Kh P t=true){p:Pt}(hp:p∈J8 t):An P p=true:=by
 let ⟨h1,h2,h3⟩:=gq h;rw [cJ] at *;have hb:Bo t p=true:=by have:=jo.mp hp;unfold AN at this;exact (Bool.and_eq_true_iff.mp this).1
 simp! [Bo,Bool.and_eq_true,decide_eq_true_eq] at hb;let ⟨⟨b1,b2⟩,b3,b4⟩:=hb;have m1:0<=lefT t:=(bD (a:=t.ax) (b:=t.bx) (c:=t.cx) (x:=0)).mpr ⟨h1.1,h2.1,h3.1⟩;have m2:rigT t<=P.w*P.s:=(bC (a:=t.ax) (b:=t.bx) (c:=t.cx) (x:=P.w*P.s)).mpr ⟨h1.2.1,h2.2.1,h3.2.1⟩;have m3:0<=lowY t:=(bD (a:=t.ay) (b:=t.bY) (c:=t.cy) (x:=0)).mpr ⟨h1.2.2.1,h2.2.2.1,h3.2.2.1⟩;have m4:topT t<=P.d*P.s:=(bC (a:=t.ay) (b:=t.bY) (c:=t.cy) (x:=P.d*P.s)).mpr ⟨h1.2.2.2,h2.2.2.2,h3.2.2.2⟩;generalize lefT t=z1 at *;generalize rigT t=z2 at *;generalize lowY t=z3 at *;generalize topT t=z4 at *;omega
def vI{t:Tri}:J9 t∈J8 t:=by
 rw [jo];unfold AN Bo;have e1:tu1 t (J9 t)=0:=by simp! [tu1,Ce,J9];grind
 have e3:tu3 t (J9 t)=0:=by simp! [tu3,Ce,J9];grind
 rw [e1,e3];simp! [Bool.and_eq_true,Bool.or_eq_true,decide_eq_true_eq,bD,bC,lefT,rigT,lowY,topT,best,List.foldl_cons,List.foldl_nil,if_true,Bool.false_eq_true,if_false,J9];omega
def pU{a b:Int}{A B:Nat}(ha:a.natAbs<=A)(hb:b.natAbs<=B):(a*b).natAbs<=A*B:=by
 rw [Int.natAbs_mul];exact Nat.mul_le_mul ha hb
def aaB{t:Tri}(h:BW t=true):t.ax.natAbs<=31/\t.ay.natAbs<=31/\t.bx.natAbs<=31/\t.bY.natAbs<=31/\t.cx.natAbs<=31/\t.cy.natAbs<=31:=by
 simp! [BW,List.all_cons,List.all_nil,Bool.and_true,Bool.and_eq_true,decide_eq_true_eq] at h;omega
def Kj(P:Plan)(H:Ht):Prop := ∀ p,An P p=true -> -1000<=H p/\H p<=1000
def Kk(ax ay bx by_ px py:Nat):Bool:=Nat.ble (by_*px+bx*ay+ax*py) (bx*py+by_*ax+ay*px)
def l1(ax ay bx by_ px py:Nat):Bool:=Nat.ble (bx*py+by_*ax+ay*px) (by_*px+bx*ay+ax*py)
def Kl:List (Nat×Nat):=(List.range 9).flatMap λx=>(List.range 9).map λy=>(x,y)
set_option maxRecDepth 1000000 in
def yH:((Kl.map λz=>hkL [(z.1:Int),(z.2:Int)]).Nodup):=by decide +kernel
def qk{α β:Type}{f:α->β}:∀ {l:List α},(l.map f).Nodup -> ∀ {a b:α},a∈l->b∈l->f a=f b->a=b
 | [],_,_,_,h,_,_=>by cases h
 | x :: l,hn,a,b,ha,hb,e=>by
  rw [List.map_cons,List.nodup_cons] at hn;rcases List.mem_cons.mp ha with rfl | ha
  .rcases List.mem_cons.mp hb with rfl | hb
   .rfl
   .exact absurd (List.mem_map.mpr ⟨b,hb,e.symm⟩) hn.1
  .rcases List.mem_cons.mp hb with e2 | hb
   .exact absurd (List.mem_map.mpr ⟨a,ha,by rw [e,e2]⟩) hn.1
   .exact qk hn.2 ha hb e
def Km(p:Pt):List Int:=[p.1,p.2]
def Kn(z:Nat×Nat):Pt:=((z.1:Int),(z.2:Int))
def wz{x y:Nat}:(x,y)∈Kl ↔ x<=8/\y<=8:=by
 unfold Kl;simp! [List.mem_flatMap,List.mem_map,List.mem_range,Prod.mk.injEq];constructor
 .rintro ⟨a,ha,b,hb,rfl,rfl⟩;omega
 .intro h;exact ⟨x,by omega,y,by omega,rfl,rfl⟩
def xI{p q:Pt}(hp:∃ z∈Kl,p=Kn z)(hq:∃ z∈Kl,q=Kn z)(e:hkL (Km p)=hkL (Km q)):p=q:=by
 let ⟨z,hz,rfl⟩:=hp;let ⟨y,hy,rfl⟩:=hq;rw [qk yH hz hy e]
structure Half14(t one two:Tri)(m:Pt):Prop where
 near1:Kc one
 near2:Kc two
 same:Jd ((J8 one++J8 two).map Km)=(J8 t).map Km
 ok:Je ((J8 one++J8 two).map Km)
 line:∀ p∈J8 one,p∈J8 two->G2 m (Kb t) p=0
 mid1:m∈J8 one
 mid2:m∈J8 two
section
variable{fns:List Fn}{σ:Su}{X:XP}
def qC{it:Iter}{t:Tg}{elt:E}{Q:List U->G->Prop}(us:List U)(Inv:Nat->List U->G->Prop)
  (hn:∀ k acc g,Inv k acc g->next it k g=some us[k]?)
  (hs:∀ k u acc,us[k]? = some u->AH t σ=true/\JM (Ah t u σ) (lk λσ1 => ∀ g,Inv k acc g->JD fns d elt σ1 g (λ_ _ _=>False) λv g=>Inv (k+1) (acc++[v]) g))
  (hl:us.length < 16777000) (hq:∀ vs g,Inv us.length vs g->vs.length=us.length->Q vs g) :
  ∀ (n i:Nat) (acc:List U) (g:G),i+n=us.length->acc.length=i->Inv i acc g->JL fns d it i t [] [] elt acc σ g X Q
 | 0,i,acc,g,e1,e2,h=>by
  rw [aT];refine ⟨none,by rw [hn _ _ _ h];simp;omega,?_⟩
  obtain rfl:i=us.length:=by omega
  exact hq acc g h e2
 | n+1,i,acc,g,e1,e2,h=>by
  have hi:i < us.length:=by omega
  let ⟨hf,hs1⟩:=hs i us[i] acc (List.getElem?_eq_getElem hi);let ⟨σ1,hb,hw⟩:=aG.2 hs1;rw [aT];refine ⟨some us[i],by rw [hn _ _ _ h];simp [hi],hf,σ1,hb,gZ.2 ?_⟩
  rw [if_pos rfl];refine wp_mono (hw g h) λv g hg=>⟨by simp! [Ae];omega,?_⟩
  exact qC us Inv hn hs hl hq n (i+1) _ g () (by simp;omega) hg
def tq{t:Tg}{Q:List U->G->Prop}{g:G}(us:List U)(Inv:Nat->List U->G->Prop)
  (hn:∀ k acc g,Inv k acc g->next it k g=some us[k]?)
  (hs:∀ k u acc,us[k]? = some u->AH t σ=true/\JM (Ah t u σ) (lk λσ1 => ∀ g,Inv k acc g->JD fns d elt σ1 g (λ_ _ _=>False) λv g=>Inv (k+1) (acc++[v]) g))
  (hl:us.length < 16777000) (h0:Inv 0 [] g) (hq:∀ vs g,Inv us.length vs g->vs.length=us.length->Q vs g):JL fns d it 0 t [] [] elt [] σ g X Q :=
 qC us Inv hn hs hl hq us.length 0 [] g (Nat.zero_add _) rfl h0
end
def adn{P:Plan}(h1:P.w*P.s<=8)(h2:P.d*P.s<=8){p q:Pt}(hp:An P p=true)(hq:An P q=true)(e:hkL (Ab p)=hkL (Ab q)):p=q:=by
 have at_:∀ {p:Pt},An P p=true -> ∃ z∈Kl,p=Kn z:=λ{p} hp=>by
  have:=cJ.mp hp;let ⟨x,hx⟩:=Int.eq_ofNat_of_zero_le (show 0<=p.1 by omega)
  let ⟨y,hy⟩:=Int.eq_ofNat_of_zero_le (show 0<=p.2 by omega)
  exact ⟨(x,y),wz.mpr (),Prod.ext hx hy⟩
 exact xI (at_ hp) (at_ hq) e
def aaa{P:Plan}{f:Pt->U}(h1:P.w*P.s<=8)(h2:P.d*P.s<=8)(h0:Ac P≠[])(h:I0 (.ref m) g=some (Kd Ab f (Ac P))):C6 [.ref m] g=.ok (.ref g.length) (g++[.dic (Kd Ab f (Ac P))]):=by
 have em:(Kd Ab f (Ac P)).map (·.1)=(Ac P).map Ab:=by unfold Kd;rw [List.map_map];rfl
 simp! [C6,h];rw [if_pos]
 .rfl
 .refine ⟨by unfold Kd;simpa using h0,λa ha b hb e => ?_⟩
  rw [em] at ha hb;let ⟨p,hp,rfl⟩:=List.mem_map.mp ha;let ⟨q,hq,rfl⟩:=List.mem_map.mp hb;rw [adn h1 h2 (aW.mp hp) (aW.mp hq) e]
def D6(P:Plan)(H:Ht)(y:Int):Dt := .lst ((J0 (P.w*P.s+1)).map λx => .int (H (x,y)))
def B9(P:Plan)(H:Ht):Dt := .lst ((J0 (P.d*P.s+1)).map (D6 P H))
def lM{P:Plan}{H:Ht}(hP:P.ok):(B9 P H).ok (n+3):=by
 have:=hP.ws;have:=hP.ds;unfold B9 D6;rw [Dt.ok_lst];refine ⟨by rw [List.length_map,ai];omega,λD hD => ?_⟩
 let ⟨y,_,rfl⟩:=List.mem_map.mp hD;rw [Dt.ok_lst];refine ⟨by rw [List.length_map,ai];omega,λD hD => ?_⟩
 let ⟨x,_,rfl⟩:=List.mem_map.mp hD;exact bL
def kR{g:G}:∀ {ds:List Dt} {us:List U},us.length=ds.length->(∀ (i:Nat) (D:Dt) (u:U),ds[i]? = some D->us[i]? = some u->Rep g D u)->Reps g ds us
 | [],us,h,_=>by
  cases us with
  | nil=>simp! [Reps]
  | cons _ _=>cases h
 | D :: ds,us,h,k=>by
  cases us with
  | nil=>cases h
  | cons u us =>
   simp! [Reps];exact ⟨u,us,rfl,k 0 D u rfl rfl,kR (by simpa using h) λi D u h1 h2=>k (i+1) D u (by simpa using h1) (by simpa using h2)⟩
end
end PI
variable{P:PI.Plan}
namespace Lk32
noncomputable section
open PI
section
variable{X:XP}{p:Pt}
def uy{i:Int}(h:Q (.bl true) g):JC fns (d+1) 0 [.int i] g X Q:=by
 simp? only [E2];simp?;exact h
def vP(hP:P.ok)(h:Q (.bl (An P p)) g):JC fns (d+1) 1 [uPl P,uP p] g X Q:=by
 have h1:=hP.ss;simp? only [E6]
 simp? [*];simp! [An] at h;refine ar (λk1 => ?_) λk1=>by simp? [*];simpa [k1] using h
 simp? [*];refine ar (λk2 => ?_) λk2 => ?_
 .simp? [*]
  refine ar (λk3 => ?_) λk3=>by simp? [*];simpa [k1,k2,k3] using h
  simp? [*];simpa [k1,k2,k3] using h
 .simp? [*];simpa [k1,k2] using h
def fk(hP:P.ok)(hp:An P p=true)(h:Q .non g):JC fns (d+2) 2 [uPl P,uP p] g X Q:=by
 simp? only [EE]
 simp?;refine vP hP ?_;simp?;simp! [hp];simp?;exact h
def we(hP:P.ok)(h:Bj g ((Ac P).map uP) Q):JC fns (d+1) 3 [uPl P] g X Q:=by
 have h0:=hP.s0;have h1:=hP.ss;have hw:=hP.ws;have hd:=hP.ds;have r1:Ak (P.w*P.s+1)=true:=az () ()
 have r2:Ak (P.d*P.s+1)=true:=az () ()
 have hl:=bB hP;simp? only [Fd]
 simp? [*];refine nS (J0 (P.w*P.s+1)) U.int (λ_=>J0 (P.d*P.s+1)) U.int (λ_ _=>true) (λx y=>uP (x,y)) (λg'=>g'=g) 25 ((Ac P).map uP) (by simp [Ac,List.map_flatMap,Function.comp_def,bF]) (λk g' _=>aN) (λx hx=>⟨by rw [ai];omega,?_⟩) (by rw [ai];omega) rfl ?_
 .simp? [*]
  intro g' e;subst e;simp? [*];refine ⟨λk g' _=>aN,λz _ g e => ?_⟩;simp? [*]
 .rintro g' rfl
  exact ⟨by rw [List.length_map];omega,h _ _ (HA _) aj⟩
def tW{i j s:Int}(hs:small s)(h:Bj g ((AX i j s).map uT) Q):JC fns (d+1) 4 [.int i,.int j,.int s] g X Q:=by
 simp? only [EB]
 simp? [hs];unfold AX at h;refine ar (λk1 => ?_) λk1 => ?_
 .have k2:(i+j) % 2=0:=by simpa using k1
  simp? [hs];rw [if_pos k2] at h;exact h _ _ (HA _) aj
 .have k2 : ¬ (i+j) % 2=0:=by simpa using k1
  simp? [hs];rw [if_neg k2] at h;exact h _ _ (HA _) aj
def lL(hP:P.ok)(h:Bj g ((Bn P).map uT) Q):JC fns (d+2) 5 [uPl P] g X Q:=by
 have hss:=hP.ss;have hl:=iN hP;have lw:(J0 P.w).length<=3:=by rw [ai];rcases hP.w with e | e | e <;> rw [e] <;> decide
 have ld:(J0 P.d).length<=3:=by rw [ai];rcases hP.d with e | e | e <;> rw [e] <;> decide
 have r1:Ak P.w=true:=by rcases hP.w with e | e | e <;> rw [e] <;> exact az #[1] #[1]
 have r2:Ak P.d=true:=by rcases hP.d with e | e | e <;> rw [e] <;> exact az #[1] #[1]
 have a:∀ i,((J0 P.d).flatMap λj=>(AX i j P.s).map uT).length<=6:=λi=>by
  have:=bG (f:=λj=>(AX i j P.s).map uT) (B:=2) (l:=J0 P.d) λj _=>by rw [List.length_map,dF];omega
  omega
 simp? only [Fp]
 simp? [r1];refine hG (J0 P.w) U.int (λi=>(J0 P.d).flatMap λj=>(AX i j P.s).map uT) (λg' => ∃ gs,g'=g++gs) 8 (λk g' _=>aN) (λi _=>Hy (a i) #[1]) (λi hi => ?_) _ 0 _ _ (Nat.zero_add _) (by simp! [List.length_nil];omega) ⟨[],by simp⟩ ?_
 .simp? [r2]
  rintro g' acc ⟨gs,rfl⟩ hacc;refine hG (J0 P.d) U.int (λj=>(AX i j P.s).map uT) (λg' => ∃ gs,g'=g++gs) 2 (λk g' _=>aN) (λj _=>by rw [List.length_map,dF];omega) (λj hj => ?_) _ 0 _ _ (Nat.zero_add _) () ⟨gs,rfl⟩ ?_
  .simp?
   rintro g' acc ⟨gs,rfl⟩ hacc;refine tW hss λgs2 n hn e => ?_;simp? [e];refine zU (AX i j P.s) uT (λ_=>true) uT (λg'=>g'=g++gs++gs2) acc (λk g' e'=>by rw [e',aE e]) (λt ht => ?_) (by rw [dF];omega) rfl ?_
   .simp?
    rintro g' rfl;trivial
   .rintro g' rfl
    exact ⟨by rw [bF],_,List.append_assoc ..⟩
  .rintro g' ⟨gs,rfl⟩
   exact ⟨rfl,_,rfl⟩
 .rintro g' ⟨gs,rfl⟩
  have e:([]++List.flatMap (λi=>List.flatMap (λj=>(AX i j P.s).map uT) (J0 P.d)) (List.drop 0 (J0 P.w)))=(Bn P).map uT:=by
   simp [Bn,List.map_flatMap]
  rw [e];exact fR h (by rw [List.length_map];omega)
def fV{t:Tri}(h:Q (J4 (Bm t)) g):JC fns (d+1) 6 [uT t] g X Q:=by
 have b2:(2:Int) < Au:=by decide
 simp? only [Fc]
 simp? [slc4];unfold Bm at h;refine ar (λk1 => ?_) λk1 => ?_
 .have k1':(t.ax+t.bx) % 2=1:=by simpa using k1
  rw [if_pos (.inl k1')] at h;simp?;exact h
 .have k1' : ¬ (t.ax+t.bx) % 2=1:=by simpa using k1
  simp?;refine ar (λk2 => ?_) λk2 => ?_
  .have k2':(t.ay+t.bY) % 2=1:=by simpa using k2
   rw [if_pos (.inr k2')] at h;simp?;exact h
  .have k2' : ¬ (t.ay+t.bY) % 2=1:=by simpa using k2
   rw [if_neg ()] at h
   simp? [b2];exact h
def jE{t:Tri}{m:Pt}(hm:Bm t=some m)(h:Bj g ((Aq t).map uT) Q):JC fns (d+2) 7 [uT t] g X Q:=by
 rw [cI hm] at h;simp? only [E8]
 simp?;refine fV ?_;rw [hm];simp? [J4];exact h _ _ (HA _) aj
def ac5{ts:List Tri}(e:g[n]? = some (.lst (ts.map uT)))(hd:∀ t∈ts,AM 7 t=true)(hl:(ts.flatMap AA).length < 16770000)(h:Bj g ((ts.flatMap AA).map uT) Q):JC fns (d+3) 8 [.ref n] g X Q:=by
 simp? only [Fw]
 simp? [aa e];obtain ⟨B,hB⟩:∃ B:G,B=[]:=⟨_,rfl⟩;have hlen:(ts.flatMap AA).length < 16770000:=hl;refine rJ (λm σ g' => ∃ (T W:List Tri) (gs:G) (o:Option U),T++W.reverse.flatMap AA=ts.flatMap AA/\(W.flatMap AA).length=m/\(∀ t∈W,AM 7 t=true)/\g'=(g ++ .lst (T.map uT) :: (B ++ .lst (W.map uT) :: gs))/\σ=[some (.ref n),some (.ref (g).length),some (.ref ((g).length+1+(List.length B))),o]) ?_ (ts.reverse.flatMap AA).length _ _ ⟨[],ts.reverse,[],none,by simp,rfl,λt ht=>hd t (List.mem_reverse.mp ht),by simp [hB],by simp [hB]⟩
 rintro m σ g' ⟨T,W,gs,o,hT,hm,hW,rfl,rfl⟩;rcases List.eq_nil_or_concat W with hnil | ⟨W',t,rfl⟩
 .subst hnil
  have hT':T=ts.flatMap AA:=by simpa using hT
  have g2:(g ++ .lst (T.map uT) :: (B ++ .lst [] :: gs))[(g).length+1+(List.length B)]? = some (.lst []):=d9;simp? [g2,List.isEmpty_nil,List.length_nil,Int.natCast_zero];rw [hT'];refine h _ _ (HA _) jV
 .have ht:AM 7 t=true:=hW t #[3]
  have hrest:T++([t]++((Aq t).flatMap AA++W'.reverse.flatMap AA))=ts.flatMap AA:=by
   rw [<-hT];simp [km ht]
  have hm':(W'.flatMap AA).length+(1+((Aq t).flatMap AA).length)=m:=by
   rw [<-hm];simp! [List.concat_eq_append,List.flatMap_append,List.flatMap_cons,List.flatMap_nil,List.append_nil,List.length_append,km ht,List.length_cons];omega
  have lenT:T.length+1<=(ts.flatMap AA).length:=by rw [<-hrest];simp! [List.length_append,List.length_cons,List.length_nil];omega
  have lenW:W'.length<=(ts.flatMap AA).length:=by
   have a1:W'.reverse.length<=(W'.reverse.flatMap AA).length:=jS λx _=>vo x;rw [List.length_reverse] at a1;rw [<-hrest];simp! [List.length_append,List.length_cons,List.length_nil];omega
  have ne:(W'.concat t).map uT=W'.map uT++[uT t]:=by simp
  have g2:(g ++ .lst (T.map uT) :: (B ++ .lst (W'.map uT++[uT t]) :: gs))[(g).length+1+(List.length B)]? = some (.lst (W'.map uT++[uT t])):=d9;have g3:(g ++ .lst (T.map uT) :: (B ++ .lst (W'.map uT) :: gs))[(g).length]? = some (.lst (T.map uT)):=jV;have pop:Bg ((g).length+1+(List.length B)) (g ++ .lst (T.map uT) :: (B ++ .lst (W'.map uT++[uT t]) :: gs))=.ok (uT t) (g ++ .lst (T.map uT) :: (B ++ .lst (W'.map uT) :: gs)):=by
   rw [fF g2,jU]
  have app:A5 (g).length (uT t) (g ++ .lst (T.map uT) :: (B ++ .lst (W'.map uT) :: gs))=.ok .non (g ++ .lst ((T++[t]).map uT) :: (B ++ .lst (W'.map uT) :: gs)):=by
   rw [bf g3 (by rw [List.length_map];omega),xg];simp
  have g4:(g ++ .lst ((T++[t]).map uT) :: (B ++ .lst (W'.map uT) :: gs))[(g).length+1+(List.length B)]? = some (.lst (W'.map uT)):=d9;have lp:decide ((0:Int) < ((W'.map uT).length+1:Nat))=true   := by simp;try omega
  have lp2:(0:Int) < ((W'.map uT).length+1:Nat):=by omega
  rw [ne];simp? [g2,xy,List.length_append,lp2,pop,g3,app];refine fV ?_;cases hmid:Bm t with
  | none =>
   simp? [J4,AE];exact ⟨(W'.flatMap AA).length,by omega,T++[t],W',gs,_,by rw [<-hrest,tY hmid];simp,rfl,λx hx=>hW x (by simp [hx]),rfl,rfl⟩
  | some q =>
   simp? [J4,AE,g4];refine jE hmid λgs2 n2 hn2 e2 => ?_;rw [gz] at e2 ⊢;simp? [e2];rw [gz];have g5:(g ++ .lst ((T++[t]).map uT) :: (B ++ .lst (W'.map uT) :: (gs++gs2++[.lst ((Aq t).map uT).reverse])))[(g).length+1+(List.length B)]? = some (.lst (W'.map uT)):=d9;have e3:(g ++ .lst ((T++[t]).map uT) :: (B ++ .lst (W'.map uT) :: (gs++gs2++[.lst ((Aq t).map uT).reverse])))[(List.length (g ++ .lst ((T++[t]).map uT) :: (B ++ .lst (W'.map uT) :: (gs++gs2))))]? = some (.lst ((Aq t).map uT).reverse):=by
    rw [<-gz];exact aj
   have hh:(Aq t).length<=2:=by rw [cI hmid];simp [Ca]
   have ext:Bp ((g).length+1+(List.length B)) (.ref (List.length (g ++ .lst ((T++[t]).map uT) :: (B ++ .lst (W'.map uT) :: (gs++gs2))))) (g ++ .lst ((T++[t]).map uT) :: (B ++ .lst (W'.map uT) :: (gs++gs2++[.lst ((Aq t).map uT).reverse])))=.ok .non (g ++ .lst ((T++[t]).map uT) :: (B ++ .lst ((W'++(Aq t).reverse).map uT) :: (gs++gs2++[.lst ((Aq t).map uT).reverse]))):=by
    rw [jy g5 e3 (by rw [List.length_map,List.length_reverse,List.length_map];omega),jU]
    simp
   simp? [ext];refine ⟨((W'++(Aq t).reverse).flatMap AA).length,?_,T++[t],W'++(Aq t).reverse,_,_,?_,rfl,λx hx => ?_,rfl,rfl⟩
   .rw [List.flatMap_append,List.length_append,iq];omega
   .rw [<-hrest];simp
   .rcases List.mem_append.mp hx with hx | hx
    .exact hW x (by simp [hx])
    .exact je 6 x (jh ht (List.mem_reverse.mp hx))
def v5(hP:P.ok)(h:Bj g ((J5 P).map uT) Q):JC fns (d+4) 9 [uPl P] g X Q:=by
 have hl:=(fw hP).2;simp? only [E9]
 simp?;refine lL hP λgs n hn e => ?_;simp?;refine ac5 e (λt ht=>fO hP ht) (by show (J5 P).length < _;omega) λgs2 n2 hn2 e2 => ?_
 simp?;rw [List.append_assoc] at e2 ⊢;exact h _ _ (Hy #[3] hn2) e2
def gS{ax ay bx by_:Int}{p:Pt}(h1:small (bx - ax))(h2:small (by_ - ay))(h:Q (.int (Ce ax ay bx by_ p)) g):JC fns (d+1) 10 [.int ax,.int ay,.int bx,.int by_,uP p] g X Q:=by
 simp? only [Fv]
 simp? [h1,h2];exact h
def sL{t:Tri}(h:Q (.tup [.int (lefT t),.int (lowY t),.int (rigT t),.int (topT t)]) g):JC fns (d+1) 11 [uT t] g X Q:=by
 simp? only [Fy]
 simp? [BY,intsOf];exact h
def xi{t:Tri}(h:Q (.bl (Bo t p)) g):JC fns (d+2) 12 [uT t,uP p] g X Q:=by
 simp? only [Fb]
 simp?;refine sL ?_;simp?;simp! [Bo] at h;refine ar (λk1 => ?_) λk1=>by simp? [*];simpa [k1] using h
 simp? [*];refine ar (λk2 => ?_) λk2 => ?_
 .simp? [*]
  refine ar (λk3 => ?_) λk3=>by simp? [*];simpa [k1,k2,k3] using h
  simp? [*];simpa [k1,k2,k3] using h
 .simp? [*];simpa [k1,k2] using h
def j6{t:Tri}(hn:Kc t)(h:∀ gs,Q (.bl (AN t p)) (g++gs)):JC fns (d+3) 13 [uT t,uP p] g X Q:=by
 let ⟨n1,n2,n3,n4,n5,n6⟩:=hn;simp? only [Ff]
 simp?;refine gS (aC () ()) (aC () ()) ?_
 simp?;refine gS (aC () ()) (aC () ()) ?_
 simp?;refine gS (aC () ()) (aC () ()) ?_
 simp?;refine xi ?_;unfold AN at h;have li:Bl [.ref g.length] (g++[.lst [.int (tu1 t p),.int (tu2 t p),.int (tu3 t p)]])=some [tu1 t p,tu2 t p,tu3 t p]:=by
  simp! [Bl,aj];rfl
 cases hb:Bo t p with
 | false =>
  simp?;rw [hb] at h;exact h _
 | true =>
  rw [hb] at h;simp! [tu1,tu2,tu3] at li h;simp? [BY,intsOf,li];refine ar (λk1 => ?_) λk1 => ?_
  .simp? [*]
   simpa [k1] using h [.lst [.int (tu1 t p),.int (tu2 t p),.int (tu3 t p)]]
  .simp? [BY,intsOf,li]
   simpa [k1] using h [.lst [.int (tu1 t p),.int (tu2 t p),.int (tu3 t p)]]
def xD{t:Tri}(hn:Kc t)(h:Bj g ((J8 t).map uP) Q):JC fns (d+4) 14 [uT t] g X Q:=by
 let ⟨b1,b2,b3,b4⟩:=hn.box;have hl:=vn hn;have k1:lefT t<=100:=by let ⟨a,_⟩:=hn;have:=(bD (x:=lefT t)).mp (Int.le_refl _);omega
 have k2:lowY t<=100:=by let ⟨_,a,_⟩:=hn;have:=(bD (x:=lowY t)).mp (Int.le_refl _);omega
 have k3 : -100<=rigT t:=by let ⟨a,_⟩:=hn;have:=(bC (x:=rigT t)).mp (Int.le_refl _);omega
 have k4 : -100<=topT t:=by let ⟨_,a,_⟩:=hn;have:=(bC (x:=topT t)).mp (Int.le_refl _);omega
 have r1:Ak (lefT t)=true:=az () ()
 have r2:Ak (rigT t+1)=true:=az () ()
 have r3:Ak (lowY t)=true:=az () ()
 have r4:Ak (topT t+1)=true:=az () ()
 simp? only [Fm]
 simp?;refine sL ?_;simp? [r1,r2];refine nS (AW (lefT t) (rigT t+1)) U.int (λ_=>AW (lowY t) (topT t+1)) U.int (λx y=>AN t (x,y)) (λx y=>uP (x,y)) (λg' => ∃ gs,g'=g++gs) 201 ((J8 t).map uP) (by simp [J8,List.map_flatMap,Function.comp_def]) (λk g' _=>jr) (λx hx=>⟨by rw [d5];omega,?_⟩) (by rw [d5];omega) ⟨[],by simp⟩ ?_
 .simp? [r3,r4]
  rintro g' ⟨gs,rfl⟩;refine ⟨⟨gs,rfl⟩,λk g' _=>jr,λy hy => ?_⟩;rintro g' ⟨gs,rfl⟩;refine j6 (p:=(x,y)) hn λgs2 => ?_;simp?;cases hc:AN t (x,y) with
  | true=>simp?;exact ⟨_,List.append_assoc ..⟩
  | false=>simp?;exact ⟨_,List.append_assoc ..⟩
 .rintro g' ⟨gs,rfl⟩
  refine fR h ?_;rw [List.length_map];omega
def w6{a b:Nat}(h:Q (.int (Nat.gcd a b:Nat)) g):JC fns (d+1) 16 [.int a,.int b] g X Q:=by
 simp? only [Fe]
 simp?;refine rJ (λm σ g'=>g'=g /\ ∃ x y:Nat,Nat.gcd x y=Nat.gcd a b/\y=m/\σ=[some (.int x),some (.int y)]) ?_ b _ _ ⟨rfl,a,b,rfl,rfl,rfl⟩;rintro m σ g' ⟨rfl,x,y,hg,rfl,rfl⟩;simp? [Bool.not_not];refine ar (λk1 => ?_) λk1 => ?_
 .have y0:0 < y:=by simp at k1;omega
  have y1:(0:Int) < y:=by omega
  simp? [y1];refine ⟨x % y,Nat.mod_lt _ y0,y,x % y,?_,rfl,?_⟩
  .rw [<-hg,Nat.gcd_comm y,<-Nat.gcd_rec,Nat.gcd_comm]
  .simp
 .have y0:y=0:=by simp at k1;omega
  subst y0;simp?;rw [<-hg] at h;simpa using h
def xv{a b:Int}(hb:b≠0)(hB:big b)(h:Q (uP (Gc a b)) g):JC fns (d+2) 15 [.int a,.int b] g X Q:=by
 let ⟨g0,gB⟩:=xp (a:=a) hb hB;simp? only [Fq]
 simp? [hb,gj];refine w6 ?_;simp?;refine ar (λk1 => ?_) λk1 => ?_
 .have k2:b < 0:=by simpa using k1
  have e:(-(Nat.gcd a.natAbs b.natAbs:Int))=Bu a b:=by unfold Bu;rw [if_pos k2]
  simp? [e,n8 g0 gB];exact h
 .have k2 : ¬ b < 0:=by simpa using k1
  have e:((Nat.gcd a.natAbs b.natAbs:Nat):Int)=Bu a b:=by unfold Bu;rw [if_neg k2]
  simp? [e,n8 g0 gB];exact h
def ic{i:Int}(h1 : -1000<=i)(h2:i<=1000)(h:Q .non g):JC fns (d+2) 17 [u,.int i] g X Q:=by
 simp? only [Ez]
 simp?;refine uy ?_;have e1:decide (i < -1000)=false:=by simpa using h1
 have e2:decide (1000 < i)=false:=by simpa using h2
 simp? [e1,e2];exact h
def iz{m:Int}(hg:g[n]? = some (.lst us))(hm:m=us.length)(h:Q .non g):JC fns (d+1) 18 [.ref n,.int m] g X Q:=by
 subst hm;simp? only [EV]
 simp? [hg];exact h
def CY(g:G)(n:Nat)(P:Plan)(H:Ht):Prop := ∃ ms:List Nat,g[n]? = some (.lst #[21])/\ms.length=(P.d*P.s+1).toNat /\ ∀ (y m:Nat),ms[y]? = some m->g[m]? = some (.lst ((J0 (P.w*P.s+1)).map λx => .int (H (x,(y:Int)))))
def RowsM(g:G)(n:Nat)(ms:List Nat)(P:Plan)(H:Ht):Prop:=g[n]? = some (.lst #[21])/\ms.length=(P.d*P.s+1).toNat/\(∀ (y m:Nat),ms[y]? = some m->g[m]? = some (.lst ((J0 (P.w*P.s+1)).map λx => .int (H (x,(y:Int))))))/\n ∉ ms
def RowsM.at{ms:List Nat}{H:Ht}(h:RowsM g n ms P H):CY g n P H:=⟨ms,h.1,h.2.1,h.2.2.1⟩
def RowsM.app{gs:G}{ms:List Nat}{H:Ht}(h:RowsM g n ms P H):RowsM (g++gs) n ms P H:=⟨aa h.1,h.2.1,λy m e=>aa (h.2.2.1 y m e),h.2.2.2⟩
def RowsM.lt{n:Nat}{ms:List Nat}{H:Ht}(h:RowsM g n ms P H):∀ k∈n :: ms,k < g.length:=λk hk=>by
 rcases List.mem_cons.mp hk with rfl | hk
 .exact (List.getElem?_eq_some_iff.mp h.1).1
 .obtain ⟨y,hy⟩:=List.getElem?_of_mem hk
  exact (List.getElem?_eq_some_iff.mp (h.2.2.1 y k hy)).1
def RowsM.sp{ms:List Nat}{H:Ht}(hP:P.ok)(h:RowsM g n ms P H):(1<=ms.length/\ms.length<=1000) /\ ∀ m∈ms,∃ xs,g[m]? = some (.lst xs)/\1<=xs.length/\xs.length<=1000:=by
 have hws:=hP.ws;have hds:=hP.ds;refine ⟨by rw [h.2.1];omega,λm hm => ?_⟩
 let ⟨y,hy⟩:=List.getElem?_of_mem hm;exact ⟨_,h.2.2.1 y m hy,by rw [List.length_map,ai];omega,by rw [List.length_map,ai];omega⟩
def Ai(P:Plan)(ed tr:Int)(hN dN doN unN gN:Nat):O := .ins 211529932 [(509789213455080,.ref hN),(232289904,uPl P),(487627477906021,.int ed),(31083624820,.int tr),(31083802852,.ref dN),(213628900,.ref doN),(3500095911797,.ref unN),(243020007,.ref gN)]
structure LandAt(g:G)(v:Nat)(P:Plan)(H:Ht)(hN gN:Nat):Prop where
 ins:∃ ed tr dN doN unN,g[v]? = some (Ai P ed tr hN dN doN unN gN)
 hts:∃ hk,g[hN]? = some (.dic hk) /\ ∀ p,An P p=true->Ao hk (Ab p)=some (.int (H p))
 gps:∃ gk,g[gN]? = some (.dic gk)/\gk.length<=5000/\(∀ t∈J5 P,Ao gk (AD t)=some .non \/ ∃ H':Ht,Ao gk (AD t)=some (uG H' t)) /\ ∀ t,t ∉ J5 P->Ao gk (AD t)=none
 hne:hN≠gN
structure Kp(n:Nat)(g g':G):Prop where
 len:g.length<=g'.length
 get:∀ (k:Nat) (o:O),k≠n->g[k]? = some o->g'[k]? = some o
def Kp.refl:Kp n g g:=⟨HA _,λ_ _ _ e=>e⟩
def Kp.app{gs:G}:Kp n g (g++gs):=⟨by simp,λ_ _ _ e=>aa e⟩
def Kp.trans{a b c:G}(h:Kp n a b)(k:Kp n b c):Kp n a c:=⟨Hy h.len k.len,λi o hi e=>k.get i o hi (h.get i o hi e)⟩
def Kp.set{n:Nat}{g:G}{o:O}:Kp n g (g.set n o):=⟨by simp,λk o' hk e=>by rw [List.getElem?_set_ne (Ne.symm hk)];exact e⟩
def LandAt.lt{H:Ht}(h:LandAt g v P H hN gN):v < g.length/\hN < g.length/\gN < g.length/\v≠gN:=by
 let ⟨⟨ed,tr,dN,doN,unN,h1⟩,⟨hk,h2,h3⟩,⟨gk,h4,h5⟩,h6⟩:=h;refine ⟨(List.getElem?_eq_some_iff.mp h1).1,(List.getElem?_eq_some_iff.mp h2).1,(List.getElem?_eq_some_iff.mp h4).1,?_⟩;rintro rfl;rw [h1] at h4;simp [Ai] at h4
def Bag.kp{k:Nat}(h:Bag g)(q:Kp k g g')(h3:3<=k):Bag g':=by
 let ⟨xs,a,s,h1,h2⟩:=h;exact ⟨xs,a,s,q.get _ _ () h1,q.get _ _ () h2⟩
def Fr.setNew{o:O}(h:Fr g g')(h1:g.length<=m)(h2:3<=m):Fr g (g'.set m o):=by
 let ⟨⟨xs,a,s,b1,b2⟩,l,q⟩:=h;refine ⟨⟨xs,a,s,by rw [List.getElem?_set_ne ()];exact b1,by rw [List.getElem?_set_ne ()];exact b2⟩,by simpa using l,λk o' hk e => ?_⟩
 have:k < g.length:=(List.getElem?_eq_some_iff.mp e).1;rw [List.getElem?_set_ne ()]
 exact q k o' hk e
def aF{gs:G}{a:O}:(g++a :: gs)[g.length]? = some a:=by simp
def cP{gs:G}{a b:O}:(g++a :: gs).set g.length b=g++b :: gs:=by simp
def cU{n:Int}{k:Nat}{x:Int}(h:(J0 n)[k]? = some x):x=k/\(k:Int) < n:=by
 have hk:k < (J0 n).length:=(List.getElem?_eq_some_iff.mp h).1;rw [ai] at hk;simp! [J0,List.getElem?_map,List.getElem?_range hk,Option.map_some,Option.some.injEq] at h;omega
def eE{gs:G}(h:I0 u g=some kvs):I0 u (g++gs)=some kvs:=by
 cases u with
 | ref n =>
  simp! [I0] at h ⊢;cases e:g[n]? with
  | none=>rw [e] at h;cases h
  | some o=>rw [aa e];rw [e] at h;exact h
 | _=>exact h
structure KpL(S:List Nat)(g g':G):Prop where
 len:g.length<=g'.length
 get:∀ (k:Nat) (o:O),k ∉ S->g[k]? = some o->g'[k]? = some o
def KpL.app{S:List Nat}{gs:G}:KpL S g (g++gs):=⟨by simp,λ_ _ _ e=>aa e⟩
def KpL.sub{S T:List Nat}(q:KpL S g g')(h:∀ k∈S,k∈T):KpL T g g':=⟨q.len,λk o hk e=>q.get k o (λz=>hk (h k z)) e⟩
def KpL.refl{S:List Nat}:KpL S g g:=⟨HA _,λ_ _ _ e=>e⟩
def KpL.trans{S:List Nat}{a b c:G}(h:KpL S a b)(k:KpL S b c):KpL S a c:=⟨Hy h.len k.len,λi o hi e=>k.get i o hi (h.get i o hi e)⟩
def KpL.set{S:List Nat}{n:Nat}{g:G}{o:O}(h:n∈S):KpL S g (g.set n o):=⟨by simp,λk o' hk e=>by rw [List.getElem?_set_ne (λz:n=k=>hk (z ▸ h))];exact e⟩
def Kp.l{S:List Nat}(q:Kp n g g')(h:n∈S):KpL S g g':=⟨q.len,λk o hk e=>q.get k o (λz=>hk (z ▸ h)) e⟩
def gM(h:I0 (.ref n) g=some kvs):∃ g',Bt (.ref n) g=some (.dic n,g')/\g'[n]? = some (.dif kvs)/\Kp n g g':=by
 simp! [I0] at h;cases e:g[n]? with
 | none=>rw [e] at h;cases h
 | some o =>
  rw [e] at h;cases o with
  | dic k=>cases h;exact ⟨_,by simp! [Bt,e],ak e,Kp.set⟩
  | dif k=>cases h;exact ⟨_,by simp! [Bt,e],e,Kp.refl⟩
  | _=>cases h
def gu{α:Type}[DecidableEq α]{key:α->List Int}{e:α->U}{f:α->U}(hi:∀ a b,key a=key b->a=b)(hk:∀ a,keyOf (e a)=some (key a)):∀ (ts qs:List α),(qs++ts).Nodup->dfold (ts.map λt => .tup [e t,f t]) (Kd key f qs)=some (Kd key f (qs++ts))
 | [],qs,_=>by rw [List.append_nil];rfl
 | t :: ts,qs,h=>by
  have ht:t ∉ qs:=λz=>(List.nodup_append.mp h).2.2 t z t List.mem_cons_self rfl;rw [List.append_cons] at h ⊢;rw [<-gu hi hk ts (qs++[t]) h,List.map_cons];show (BF _ (.tup [e t,f t])).bind _=_;simp! [BF,hk,Option.map_some,Option.bind_some];rw [cb hi ht,show (λq=>if q=t then f t else f q)=f from funext λq=>by split;(rename_i z;rw [z]);rfl]
abbrev Af(H:Ht)(p:Pt):U := .int (H p)
def jW{H:Ht}{a:Pt}:(λq=>if q=a then .int (H a) else Af H q)=Af H:=funext λq=>by split;(rename_i z;rw [z]);rfl
def vd{ps:List Pt}{a:Pt}(h:ps.Nodup)(n:a ∉ ps):(ps++[a]).Nodup:=List.nodup_append.mpr ⟨h,by simp,λx hx y hy=>by rw [List.mem_singleton.mp hy];exact λz=>n (z ▸ hx)⟩
structure LandE(g:G)(v:Nat)(P:Plan)(H:Ht)(hN dN doN unN gN B:Nat):Prop where
 ins:∃ ed tr,g[v]? = some (Ai P ed tr hN dN doN unN gN)
 hts:∃ ps:List Pt,g[hN]? = some (.dic (Kd Ab (Af H) ps))/\ps.Nodup /\ ∀ p,p∈ps ↔ An P p=true
 dts:∃ dk,g[dN]? = some (.dic dk)/\dk.length<=B
 gps:∃ gk,g[gN]? = some (.dic gk)/\gk.length<=5000/\(∀ t∈J5 P,Ao gk (AD t)=some .non \/ ∃ H':Ht,Ao gk (AD t)=some (uG H' t)) /\ ∀ t,t ∉ J5 P->Ao gk (AD t)=none
 ne:[v,hN,dN,doN,unN,gN].Nodup
def LandE.at{g:G}{v:Nat}{P:Plan}{H:Ht}{hN dN doN unN gN B:Nat}(L:LandE g v P H hN dN doN unN gN B):LandAt g v P H hN gN:=by
 let ⟨⟨ed,tr,h1⟩,⟨ps,h2,_,h3⟩,_,h4,h5⟩:=L;refine ⟨⟨_,_,_,_,_,h1⟩,⟨_,h2,λp hp=>a7 (key:=Ab) (λa b=>av) ((h3 p).mpr hp)⟩,h4,?_⟩;simp! [List.nodup_cons,List.mem_cons,List.not_mem_nil,or_false,not_or] at h5;exact h5.2.1.2.2.2
def LandE.up{S:List Nat}{H:Ht}{B:Nat}(L:LandE g v P H hN dN doN unN gN B)(q:KpL S g g')(hv:v ∉ S \/ ∃ ed tr,g'[v]? = some (Ai P ed tr hN dN doN unN gN))(s1:hN ∉ S)(s2:dN ∉ S)(s3:gN ∉ S):LandE g' v P H hN dN doN unN gN B:=by
 let ⟨⟨ed,tr,h1⟩,⟨ps,h2,h3⟩,⟨dk,h4,h5⟩,⟨gk,h6,h7⟩,h8⟩:=L;exact ⟨hv.elim (λz=>⟨_,_,q.get _ _ z h1⟩) id,⟨ps,q.get _ _ s1 h2,h3⟩,⟨dk,q.get _ _ s2 h4,h5⟩,⟨gk,q.get _ _ s3 h6,h7⟩,h8⟩
def LandE.app{g gs:G}{v:Nat}{P:Plan}{H:Ht}{hN dN doN unN gN B:Nat}(L:LandE g v P H hN dN doN unN gN B):LandE (g++gs) v P H hN dN doN unN gN B:=L.up (S:=[]) KpL.app (.inl List.not_mem_nil) List.not_mem_nil List.not_mem_nil List.not_mem_nil
def LandE.nl{H:Ht}{B:Nat}(L:LandE g v P H hN dN doN unN gN B)(e:g[m]? = some (.lst xs)):m≠hN/\m≠dN/\m≠gN/\m≠v:=by
 let ⟨⟨ed,tr,h1⟩,⟨ps,h2,h3⟩,⟨dk,h4,h5⟩,⟨gk,h6,_⟩,h8⟩:=L;refine ⟨?_,?_,?_,?_⟩ <;> rintro rfl
 .rw [e] at h2;cases h2
 .rw [e] at h4;cases h4
 .rw [e] at h6;cases h6
 .rw [e] at h1;cases h1
def LandE.gap{H:Ht}{B:Nat}(L:LandE g v P H hN dN doN unN gN B)(A:LandAt g' v P H hN gN)(q:Kp gN g g'):LandE g' v P H hN dN doN unN gN B:=by
 let ⟨⟨ed,tr,h1⟩,⟨ps,h2,h3⟩,⟨dk,h4,h5⟩,_,h8⟩:=L;have h9:=h8;simp! [List.nodup_cons,List.mem_cons,List.not_mem_nil,or_false,not_or] at h9;exact ⟨⟨_,_,q.get _ _ h9.1.2.2.2.2 h1⟩,⟨ps,q.get _ _ h9.2.1.2.2.2 h2,h3⟩,⟨dk,q.get _ _ h9.2.2.1.2.2 h4,h5⟩,A.gps,h8⟩
def LandE.lt{H:Ht}{B:Nat}(L:LandE g v P H hN dN doN unN gN B):v < g.length/\hN < g.length/\dN < g.length/\gN < g.length:=by
 let ⟨⟨ed,tr,h1⟩,⟨ps,h2,h3⟩,⟨dk,h4,h5⟩,⟨gk,h6,_⟩,h8⟩:=L;exact ⟨(List.getElem?_eq_some_iff.mp h1).1,(List.getElem?_eq_some_iff.mp h2).1,(List.getElem?_eq_some_iff.mp h4).1,(List.getElem?_eq_some_iff.mp h6).1⟩
def fN:(Ac P).Nodup:=List.Pairwise.imp (λ{a b} (h:ltP a b) (e:a=b)=>lx (p:=a) (by rw [<-e] at h;exact h)) (hY P)
def abN{ps:List Pt}(hP:P.ok)(h:ps.Nodup)(k:∀ p,p∈ps ↔ An P p=true):ps.length<=625:=by
 rw [((List.perm_ext_iff_of_nodup h fN).mpr λp=>by rw [k,aW]).length_eq]
 exact bB hP
def Ov(N:Ht)(qs:List Pt)(H:Ht):Ht:=λp=>if p∈qs then N p else H p
def yY{N H:Ht}{l:List Pt}{p:Pt}:(λq=>if q=p then .int (N p) else Af (Ov N l H) q)=Af (Ov N (l++[p]) H):=funext λq=>by
 unfold Af Ov;by_cases e:q=p
 .subst e;simp
 .simp [e]
def LandE.hset{H N:Ht}{l:List Pt}{B:Nat}(hP:P.ok)(L:LandE g v P (Ov N l H) hN dN doN unN gN B)(hp:An P p=true):∃ g',(∀ σ,subAt (.ref hN) (.tup [.int p.1,.int p.2]) (.int (N p)) σ g=.ok (.nx σ) g')/\LandE g' v P (Ov N (l++[p]) H) hN dN doN unN gN B/\Kp hN g g':=by
 let ⟨⟨ed,tr,h1⟩,⟨ps,h2,h3,h4⟩,⟨dk,h5,h6⟩,⟨gk,h7,h8⟩,h9⟩:=L;have h10:=h9;simp! [List.nodup_cons,List.mem_cons,List.not_mem_nil,or_false,not_or] at h10;have k:Kp hN g (g.set hN (.dic (Kd Ab (Af (Ov N (l++[p]) H)) ps))):=Kp.set;refine ⟨_,λσ => ?_,⟨⟨_,_,k.get _ _ h10.1.1 h1⟩,⟨ps,ak h2,h3,h4⟩,⟨dk,k.get _ _ (Ne.symm h10.2.1.1) h5,h6⟩,⟨gk,k.get _ _ (Ne.symm h10.2.1.2.2.2) h7,h8⟩,h9⟩,k⟩;rw [aS h2 aq (by rw [Kd,List.length_map];exact Nat.lt_of_le_of_lt (abN hP h3 h4) #[1]),kg (λa b=>av) ((h4 p).mpr hp),yY]
def LandE.dset{H:Ht}{B:Nat}(L:LandE g v P H hN dN doN unN gN B)(hB:B<=20000):∃ g',(∀ σ,subAt (.ref dN) (.tup [.int p.1,.int p.2]) u σ g=.ok (.nx σ) g')/\LandE g' v P H hN dN doN unN gN (B+1)/\Kp dN g g':=by
 let ⟨⟨ed,tr,h1⟩,⟨ps,h2,h3⟩,⟨dk,h5,h6⟩,⟨gk,h7,h8⟩,h9⟩:=L;have h10:=h9;simp! [List.nodup_cons,List.mem_cons,List.not_mem_nil,or_false,not_or] at h10;have k:Kp dN g (g.set dN (.dic (dput dk (Ab p) u))):=Kp.set;exact ⟨_,λσ=>aS h5 aq (Nat.lt_of_le_of_lt (Hy h6 hB) #[1]),⟨⟨_,_,k.get _ _ h10.1.2.1 h1⟩,⟨ps,k.get _ _ h10.2.1.1 h2,h3⟩,⟨_,ak h5,Hy jK (Nat.succ_le_succ h6)⟩,⟨gk,k.get _ _ (Ne.symm h10.2.2.1.2.2) h7,h8⟩,h9⟩,k⟩
def LandE.gset{H:Ht}{t:Tri}{B:Nat}(L:LandE g v P H hN dN doN unN gN B)(ht:t∈J5 P):∃ g',(∀ σ,subAt (.ref gN) (uT t) .non σ g=.ok (.nx σ) g')/\LandE g' v P H hN dN doN unN gN B/\Kp gN g g':=by
 let ⟨⟨ed,tr,h1⟩,⟨ps,h2,h3⟩,⟨dk,h5,h6⟩,⟨gk,h7,h8,h11,h12⟩,h9⟩:=L;have h10:=h9;simp! [List.nodup_cons,List.mem_cons,List.not_mem_nil,or_false,not_or] at h10;have k:Kp gN g (g.set gN (.dic (dput gk (AD t) .non))):=Kp.set;refine ⟨_,λσ=>aS h7 cz (Nat.lt_of_le_of_lt h8 #[1]),⟨⟨_,_,k.get _ _ h10.1.2.2.2.2 h1⟩,⟨ps,k.get _ _ h10.2.1.2.2.2 h2,h3⟩,⟨dk,k.get _ _ h10.2.2.1.2.2 h5,h6⟩,⟨_,ak h7,?_,λs hs => ?_,λs hs => ?_⟩,h9⟩,k⟩
 .rw [jm (by rcases h11 t ht with e | ⟨H',e⟩ <;> rw [e] <;> rfl)];exact h8
 .rw [bV]
  split
  .exact .inl rfl
  .exact h11 s hs
 .rw [bV,if_neg (λek=>hs (by rw [<-d8 ek];exact ht))]
  exact h12 s hs
def wm{k:Nat}{ys:List U}(h1:g[n]? = some (.lst xs))(h2:g[m]? = some (.lst ys)):next (.zip n m) k g=some (List.zipWith (λu w=>U.tup [u,w]) xs ys)[k]? := by
 simp! [next,h1,h2,List.getElem?_zipWith];cases xs[k]? <;> cases ys[k]? <;> rfl
def eL(p:Pt):keyOf (uP p)=some (Ab p):=rfl
def aO{k:Nat}{o o':O}(h:n≠k)(e:g[k]? = some o'):(g.set n o)[k]? = some o':=by rw [List.getElem?_set_ne h];exact e
structure Lo(m:Nat)(g g':G):Prop where
 len:g.length<=g'.length
 get:∀ (k:Nat) (o:O),k < m->g[k]? = some o->g'[k]? = some o
def KpL.lo{S:List Nat}(q:KpL S g g')(h:∀ k∈S,m<=k):Lo m g g':=⟨q.len,λk o hk e=>q.get k o (λz=>Nat.not_lt.mpr (h k z) hk) e⟩
def LandE.lo{B:Nat}{H:Ht}(L:LandE g v P H hN dN doN unN gN B)(q:Lo m g g')(h:v < m/\hN < m/\dN < m/\gN < m):LandE g' v P H hN dN doN unN gN B:=by
 let ⟨⟨ed,tr,h1⟩,⟨ps,h2,h3⟩,⟨dk,h4,h5⟩,⟨gk,h6,h7⟩,h8⟩:=L;exact ⟨⟨_,_,q.get _ _ h.1 h1⟩,⟨ps,q.get _ _ h.2.1 h2,h3⟩,⟨dk,q.get _ _ h.2.2.1 h4,h5⟩,⟨gk,q.get _ _ h.2.2.2 h6,h7⟩,h8⟩
def LandE.hi{S:List Nat}{B:Nat}{H:Ht}(L:LandE g v P H hN dN doN unN gN B)(q:KpL S g g')(k:∀ n,v<=n->n ∉ S)(h:v < hN/\v < dN/\v < doN/\v < unN/\v < gN):LandE g' v P H hN dN doN unN gN B :=
 L.up q (.inl (k _ (HA _))) (k _ (Nat.le_of_lt h.1)) (k _ (Nat.le_of_lt h.2.1)) (k _ (Nat.le_of_lt h.2.2.2.2))
def Bag.lo(b:Bag g)(q:Lo m g g')(h:3<=m):Bag g':=by
 let ⟨xs,a,s,h1,h2⟩:=b;exact ⟨xs,a,s,q.get _ _ (HC #[1] h) h1,q.get _ _ (HC #[1] h) h2⟩
def uk{H:Ht}(hP:P.ok)(hR:CY g n P H)(hH:Kj P H)(h:∀ ps:List Pt,ps.Nodup->(∀ p,p∈ps ↔ An P p=true)->Q (.ref g.length) (g++[.dic (Kd Ab (Af H) ps)])):JC fns (d+3) 19 [uPl P,.ref n] g X Q:=by
 let ⟨ms,e1,e2,e3⟩:=hR;have s1:=hP.ss;have hws:=hP.ws;have hds:=hP.ds;simp? only [EO]
 simp? [s1];refine iz e1 (by rw [List.length_map];omega) ?_
 simp? [e1];refine aH #[21] (λk σ g'=>g=g' /\ ∃ o,σ=[some (uPl P),some (.ref n),some (.int P.w),some (.int P.d),some (.int P.s),o,none,none,none,none]) (λk σ g' hI=>by rw [<-hI.1];exact aE e1) ⟨rfl,_,rfl⟩ (λk u σ g' hk hI => ?_) (λσ g' hI => ?_)
 .obtain ⟨rfl,o,rfl⟩:=hI
  simp! [List.getElem?_map,Option.map_eq_some_iff] at hk;let ⟨m,hm,rfl⟩:=hk;simp? [s1];refine iz (e3 k m hm) (by rw [List.length_map,ai];omega) ?_
  simp?;exact ⟨_,rfl⟩
 .obtain ⟨rfl,o,rfl⟩:=hI
  simp? [aa e1];refine aH (Ke #[21]) (λk σ g' => ∃ (ps:List Pt) (Kk o2 o3 o4:Option U),g'=g++[.dic (Kd Ab (Af H) ps)]/\ps.length<=k*25/\ps.Nodup/\(∀ p:Pt,p∈ps ↔ 0<=p.1/\p.1<=P.w*P.s/\0<=p.2/\p.2 < k)/\σ=[some (uPl P),some (.ref n),some (.int P.w),some (.int P.d),some (.int P.s),Kk,some (.ref g.length),o2,o3,o4]) (λk σ g' hI => ?_) ⟨[],_,_,_,_,rfl,by simp,List.nodup_nil,λp=>by simp;try omega,rfl⟩ (λk u σ g' hk hI => ?_) (λσ g' hI => ?_)
  .obtain ⟨ps,Kk,o2,o3,o4,rfl,_⟩:=hI
   exact jN (aa e1)
  .obtain ⟨ps,Kk,o2,o3,o4,rfl,hl,hd,hv,rfl⟩:=hI
   rw [gr] at hk;simp! [List.getElem?_map,Option.map_map,Option.map_eq_some_iff,Function.comp] at hk;let ⟨m,hm,rfl⟩:=hk;have hkl:k < ms.length:=(List.getElem?_eq_some_iff.mp hm).1;have e4:=e3 k m hm;simp? [aa e4];refine aH (Ke ((J0 (P.w*P.s+1)).map λx => .int (H (x,(k:Int))))) (λj σ g' => ∃ (ps:List Pt) (o3 o4:Option U),g'=g++[.dic (Kd Ab (Af H) ps)]/\ps.length<=k*25+j/\ps.Nodup/\(∀ p:Pt,p∈ps ↔ 0<=p.1/\p.1<=P.w*P.s/\0<=p.2/\(p.2 < k\/p.2=k/\p.1 < j))/\σ=[some (uPl P),some (.ref n),some (.int P.w),some (.int P.d),some (.int P.s),some (.ref m),some (.ref g.length),some (.int k),o3,o4]) (λj σ g' hI => ?_) ⟨ps,_,_,rfl,by omega,hd,λp=>by rw [hv];omega,rfl⟩ (λj u σ g' hj hI => ?_) (λσ g' hI => ?_)
   .obtain ⟨ps,o3,o4,rfl,_⟩:=hI
    exact jN (aa e4)
   .obtain ⟨ps,o3,o4,rfl,hl,hd,hv,rfl⟩:=hI
    rw [gr] at hj;simp! [List.getElem?_map,Option.map_map,Option.map_eq_some_iff,Function.comp] at hj;let ⟨x,hx,rfl⟩:=hj;let ⟨rfl,hx2⟩:=cU hx;have hb:=hH ((j:Int),(k:Int)) (bX ⟨by omega,by omega,by omega,by omega⟩)
    simp?;refine ic hb.1 hb.2 ?_;have new:((j:Int),(k:Int)) ∉ ps:=λz=>by have:=(hv _).mp z;simp only at this;omega
    have sb:∀ σ,subAt (.ref g.length) (.tup [.int (j:Int),.int (k:Int)]) (.int (H ((j:Int),(k:Int)))) σ (g++[.dic (Kd Ab (Af H) ps)])=.ok (.nx σ) (g++[.dic (Kd Ab (Af H) (ps++[((j:Int),(k:Int))]))]):=λσ=>by
     rw [aS aj aq (by simp! [Kd,List.length_map];omega),cb (λa b=>av) new,jW]
     simp
    simp? [sb];refine ⟨_,_,_,rfl,by simp;omega,vd hd new,λp => ?_,rfl⟩
    rw [List.mem_append,List.mem_singleton,hv,Prod.ext_iff];simp only;omega
   .obtain ⟨ps,o3,o4,rfl,hl,hd,hv,rfl⟩:=hI
    simp?;rw [k5,List.length_map,ai] at hl hv;exact ⟨ps,_,_,_,_,rfl,by omega,hd,λp=>by rw [hv];omega,rfl⟩
  .obtain ⟨ps,Kk,o2,o3,o4,rfl,hl,hd,hv,rfl⟩:=hI
   simp?;rw [k5,List.length_map] at hl hv;exact h ps hd λp=>by rw [hv,cJ];omega
def iT{D B:Nat}{ts:List Tri}{ps:List Pt}(hP:P.ok)(okT:Tri->Prop)(hB:B<=600)(hB1:1<=B)(hts:∀ t∈ts,t∈J5 P/\okT t)(hl:ts.length<=5000)(hpl:ps.length<=5000)(e1:g[n]? = some (.lst (ts.map uT)))(e2:g[m]? = some (.lst (ps.map uP)))
  (rec:∀ (t:Tri) (q:Pt),t∈J5 P->okT t->Bm t=some q -> ∀ {g:G} {Q:U->G->Prop} {n m:Nat} {ps:List Pt},ps.length<=5000->g[n]? = some (.lst ((Aq t).map uT))->g[m]? = some (.lst (ps.map uP))->(∀ (gs:G) (n':Nat) (us:List Tri),(∀ t∈us,t∈J5 P)->us.length+1<=B->(g++gs)[n']? = some (.lst (us.map uT))->Q (.ref n') (g++gs))->JC fns (D+3) 20 [.ref n,.ref m] g X Q)
  (h:∀ (gs:G) (n':Nat) (us:List Tri),(∀ t∈us,t∈J5 P)->us.length<=ts.length*B->(g++gs)[n']? = some (.lst (us.map uT))->Q (.ref n') (g++gs)):JC fns (D+4) 20 [.ref n,.ref m] g X Q:=by
 simp? only [E7]
 simp? [aa e1];refine aH (ts.map uT) (λj σ g' => ∃ (us:List Tri) (gs:G) (Kk o2:Option U),(∀ t∈us,t∈J5 P)/\us.length<=j*B/\g'=g ++ .lst (us.map uT) :: gs/\σ=[some (.ref n),some (.ref m),some (.ref g.length),Kk,o2]) (λj σ g' hI => ?_) ⟨[],[],none,none,λt ht=>(nomatch ht),Nat.zero_le _,by simp,rfl⟩ (λj u σ g' hj hI => ?_) (λσ g' hI => ?_)
 .obtain ⟨us,gs,Kk,o2,_,_,rfl,_⟩:=hI
  exact aE (aa e1)
 .obtain ⟨us,gs,Kk,o2,hu,hul,rfl,rfl⟩:=hI
  simp! [List.getElem?_map,Option.map_eq_some_iff] at hj;let ⟨t,ht,rfl⟩:=hj;let ⟨hts1,hts2⟩:=hts t (List.mem_of_getElem? ht);have hjl:j < ts.length:=(List.getElem?_eq_some_iff.mp ht).1;have near:=ke (fm hP hts1);have hjB:j*B<=5000*600:=Nat.mul_le_mul () hB
  have e2':=aa (gs := .lst (us.map uT) :: gs) e2;simp? [e2'];refine br ps uP (λp=>AN t p) uP (λg' => ∃ gs2,g'=g ++ .lst (us.map uT) :: (gs++gs2)) ((ps.filter λp=>AN t p).map uP) rfl (λk g' ⟨gs2,e⟩=>by rw [e];exact aE (aa e2)) (λp hp => ?_) () ⟨[],by simp⟩ ?_
  .simp?
   rintro g' ⟨gs2,rfl⟩;refine j6 (p:=p) near λgs3 => ?_;simp?;cases hc:AN t p with
   | true=>simp?;exact ⟨gs2++gs3,by simp⟩
   | false=>simp?;exact ⟨gs2++gs3,by simp⟩
  .rintro g' ⟨gs2,rfl⟩
   have fl:(ps.filter λp=>AN t p).length<=5000:=Hy (List.length_filter_le ..) hpl;refine ⟨by rw [List.length_map];omega,?_⟩
   obtain ⟨fs,hfs⟩:∃ fs,fs=ps.filter λp=>AN t p:=⟨_,rfl⟩;rw [<-hfs] at fl ⊢;obtain ⟨N,hN⟩:∃ N,N=(g++O.lst (us.map uT) :: (gs++gs2)).length:=⟨_,rfl⟩;obtain ⟨gg,hgg⟩:∃ gg,gg=gs++gs2++[O.lst (fs.map uP)]:=⟨_,rfl⟩;have hg0:g++O.lst (us.map uT) :: (gs++gs2)++[O.lst (fs.map uP)]=g++O.lst (us.map uT) :: gg:=by rw [hgg];simp
   have ef:∀ (ws:List Tri) (r:G),(g++O.lst (ws.map uT) :: (gg++r))[N]? = some (.lst (fs.map uP)):=λws r=>by
    have:g++O.lst (ws.map uT) :: (gg++r)=(g++O.lst (ws.map uT) :: (gs++gs2))++(O.lst (fs.map uP) :: r):=by rw [hgg];simp
    rw [this,hN,show (g++O.lst (us.map uT) :: (gs++gs2)).length=(g++O.lst (ws.map uT) :: (gs++gs2)).length by simp]
    exact aF
   rw [hg0,<-hN];have ef0:(g++O.lst (us.map uT) :: gg)[N]? = some (.lst (fs.map uP)):=by have:=ef us [];rw [List.append_nil] at this;exact this
   cases hfe:fs with
   | nil =>
    rw [hfe] at ef0;simp? [ef0,List.isEmpty_nil];exact ⟨us,gg,_,_,hu,by rw [Nat.succ_mul];omega,rfl,rfl⟩
   | cons p0 r0 =>
    have ef1:=ef0;rw [hfe] at ef1;have app:A5 g.length (uT t) (g++O.lst (us.map uT) :: gg)=.ok .non (g++O.lst ((us++[t]).map uT) :: gg):=by
     rw [bf aF (by rw [List.length_map];omega),cP];simp
    simp? [ef1,List.isEmpty_cons,aF,app];refine fV ?_;cases hmid:Bm t with
    | none =>
     simp? [J4,AE];exact ⟨us++[t],gg,_,_,λx hx=>(List.mem_append.mp hx).elim (hu x) λz=>by rw [List.mem_singleton.mp z];exact hts1,by rw [Nat.succ_mul,List.length_append,List.length_singleton];omega,rfl,rfl⟩
    | some q =>
     simp? [J4,AE,aF];refine jE hmid λgs3 n3 hn3 e3 => ?_;have hap:g++O.lst ((us++[t]).map uT) :: gg++gs3=g++O.lst ((us++[t]).map uT) :: (gg++gs3):=by simp
     rw [hap] at e3 ⊢;simp?;refine rec t q hts1 hts2 hmid (ps:=fs) fl e3 (ef (us++[t]) gs3) λgs4 n4 us4 hu4 hl4 e4 => ?_;have hap2:g++O.lst ((us++[t]).map uT) :: (gg++gs3)++gs4=g++O.lst ((us++[t]).map uT) :: (gg++gs3++gs4):=by simp
     rw [hap2] at e4 ⊢;have ext:Bp g.length (.ref n4) (g++O.lst ((us++[t]).map uT) :: (gg++gs3++gs4))=.ok .non (g++O.lst ((us++[t]++us4).map uT) :: (gg++gs3++gs4)):=by
      rw [jy aF e4 (by rw [List.length_map,List.length_map,List.length_append,List.length_singleton];omega),cP];simp
     simp? [ext];exact ⟨us++[t]++us4,_,_,_,λx hx=>(List.mem_append.mp hx).elim (λz=>(List.mem_append.mp z).elim (hu x) λz=>by rw [List.mem_singleton.mp z];exact hts1) (hu4 x),by rw [Nat.succ_mul,List.length_append,List.length_append,List.length_singleton];omega,rfl,rfl⟩
 .obtain ⟨us,gs,Kk,o2,hu,hul,rfl,rfl⟩:=hI
  simp?;rw [List.length_map] at hul;exact h _ _ us hu hul aF
def jq(hP:P.ok):∀ (k:Nat) {g:G} {Q:U->G->Prop} {n m:Nat} {ts:List Tri} {ps:List Pt},k<=7->(∀ t∈ts,t∈J5 P/\AM k t=true)->ts.length<=5000->ps.length<=5000->g[n]? = some (.lst (ts.map uT))->g[m]? = some (.lst (ps.map uP)) ->
  (∀ (gs:G) (n':Nat) (us:List Tri),(∀ t∈us,t∈J5 P)->us.length<=ts.length*(2 ^ (k+1) - 1)->(g++gs)[n']? = some (.lst (us.map uT))->Q (.ref n') (g++gs))->JC fns (d+k+4) 20 [.ref n,.ref m] g X Q
 | 0,g,Q,n,m,ts,ps,_,h1,h2,h3,e1,e2,h=>by
  refine iT (D:=d) (B:=1) hP (λt=>AM 0 t=true) #[1] #[1] h1 h2 h3 e1 e2 (λt q _ ht hm => ?_) (by simpa using h)
  have:Aq t=[]:=List.isEmpty_iff.mp ht;rw [cI hm] at this;simp [Ca] at this
 | k+1,g,Q,n,m,ts,ps,hk,h1,h2,h3,e1,e2,h=>by
  have hp:2 ^ (k+2)<=2 ^ 8:=Nat.pow_le_pow_right #[1] ()
  have hp1:2 ^ (k+2)=2*2 ^ (k+1):=by rw [Nat.pow_succ];omega
  have hp2:0 < 2 ^ (k+1):=Nat.pow_pos #[1]
  refine iT (D:=d+k+1) (B:=2 ^ (k+2) - 1) hP (λt=>AM (k+1) t=true) () () h1 h2 h3 e1 e2 (λt q hs ht hm {g Q n m ps} hl f1 f2 hq => ?_) h
  refine jq hP k () (λx hx=>⟨ur hP hs hx,List.all_eq_true.mp ht x hx⟩) (by rw [cI hm];simp [Ca]) hl f1 f2 λgs n' us hu hul e=>hq gs n' us hu ?_ e
  rw [cI hm] at hul;simp! [Ca,List.length_cons,List.length_nil] at hul;omega
structure SmT(t:Tri):Prop where
 ax:small t.ax
 ay:small t.ay
 bax:small (t.bx - t.ax)
 bay:small (t.bY - t.ay)
 cax:small (t.cx - t.ax)
 cay:small (t.cy - t.ay)
def yO{t:Tri}{a b c:Int}(hg:g[n]? = some (.lst [.int a,.int b,.int c]))(ha:small a)(s:SmT t)(h:Q (.tup [.int (DT t a b c),.int (DM t a b c),.int (FE t a b c),.int (A0 t)]) g):JC fns (d+1) 21 [uT t,.ref n] g X Q:=by
 simp? only [Fk]
 simp? [hg,ha,s.ax,s.ay,s.bax,s.bay,s.cax,s.cay];exact h
def lO(t:Tri):keyOf (uT t)=some (AD t):=rfl
def ix3{l m:G}{a:O}:(g++a :: (l++m))[g.length+(l.length+j+1)]? = m[j]? := by
 rw [List.getElem?_append_right (),Nat.add_sub_cancel_left,List.getElem?_cons_succ,List.getElem?_append_right (),Nat.add_sub_cancel_left]
def dm{H:Ht}(hP:P.ok)(hu:(u=.non/\H=λ_=>0) \/ ∃ n,u=.ref n/\CY g n P H)(hH:Kj P H)(h:∀ (gs:G) (hN dN doN unN gN:Nat),g.length < hN/\g.length < dN/\g.length < doN/\g.length < unN/\g.length < gN->LandE (g++gs) g.length P H hN dN doN unN gN 0->(g++gs)[g.length]? = some (Ai P 0 0 hN dN doN unN gN)->(g++gs)[doN]? = some (.lst [])->(g++gs)[unN]? = some (.lst [])->Q .non (g++gs)):JC fns (d+5) 22 [.ref g.length,uPl P,u] (g++[.ins 211529932 []]) X Q:=by
 have l1:(g++[O.ins 211529932 []]).length=g.length+1:=by simp
 have tail:∀ (gs1:G) (ps:List Pt) (u:U),ps.Nodup->(∀ p,p∈ps ↔ An P p=true)->JR fns (d+4) 9 [uPl P] (g++O.ins 211529932 [(509789213455080,.ref (g.length+(gs1.length+1))),(232289904,uPl P),(487627477906021,.int 0),(31083624820,.int 0),(31083802852,.ref (g.length+(gs1.length+1+1))),(213628900,.ref (g.length+(gs1.length+2+1))),(3500095911797,.ref (g.length+(gs1.length+3+1)))] :: (gs1++[O.dic (Kd Ab (Af H) ps),O.dic [],O.lst [],O.lst []])) X (lk (Kit λi g_1=>JS fns (d+4) i 0 (Tg.nm 0) [] [] ((E.var 0).pair (E.cst U.non)) [] [none] g_1 (λ_ _ _=>False) (lk λus g_2=>JM (dfold us []) (lk λkvs=>D1 fns (d+4) (E.var 0) 243020007 [211529932] [some (U.ref g.length),some (uPl P),some u] X (BH fns (d+4) [] X (Kfn Q)) (U.ref (List.length g_2)) (g_2++[O.dic kvs]))))):=λgs1 ps u nd hmem=>by
  refine v5 hP λgs n2 hn2 e2 => ?_;simp? [e2];refine br (J5 P) uT (λ_=>true) (λt => .tup [uT t,.non]) (λg'=>g'=_) ((J5 P).map λt => .tup [uT t,.non]) (by rw [bF]) (λk g' e=>by rw [e];exact aE e2) (λt ht => ?_) (by have:=(fw hP).2;omega) rfl ?_
  .simp?
   rintro g' rfl;simp? [lO]
  .rintro g' rfl
   let ⟨gk,f1,f2,f3⟩:=jd AD uT lO .non (J5 P) [];simp? [f1,aF,cP,List.append_assoc,List.length_append];have hl:=(fw hP).2;have gget:(O.dic (Kd Ab (Af H) ps) :: O.dic [] :: O.lst [] :: O.lst [] :: (gs++[O.dic gk]))[gs.length+1+1+1+1]? = some (.dic gk):=by simp
   refine h _ (g.length+(gs1.length+0+1)) (g.length+(gs1.length+1+1)) (g.length+(gs1.length+2+1)) (g.length+(gs1.length+3+1)) (g.length+(gs1.length+(gs.length+1+1+1+1)+1)) () ⟨⟨0,0,aF⟩,⟨ps,ix3 (j:=0),nd,hmem⟩,⟨[],ix3 (j:=1),HA _⟩,⟨gk,ix3.trans gget,by simp at f2;omega,λt ht => .inl ?_,λt ht => ?_⟩,?_⟩ aF (ix3 (j:=2)) (ix3 (j:=3))
   .rw [f3,if_pos (List.mem_map.mpr ⟨t,ht,rfl⟩)]
   .rw [f3,if_neg]
    .rfl
    .intro hm
     let ⟨s,hs,e⟩:=List.mem_map.mp hm;exact ht (by rw [<-d8 e];exact hs)
   .simp only [List.nodup_cons,List.mem_cons,List.not_mem_nil,or_false,not_or,List.nodup_nil,not_false_eq_true,and_true]
    omega
 simp? only [Ex]
 rcases hu with ⟨rfl,rfl⟩ | ⟨n,rfl,ms,e1,e2,e3⟩
 .simp?
  refine we hP λgs1 n1 hn1 e1 => ?_;simp? [e1];refine br (Ac P) uP (λ_=>true) (λp => .tup [uP p,Af (λ_=>0) p]) (λg'=>g'=_) ((Ac P).map λp => .tup [uP p,Af (λ_=>0) p]) (by rw [bF]) (λk g' e=>by rw [e];exact aE e1) (λp hp => ?_) (by have:=bB hP;omega) rfl ?_
  .simp?
   rintro g' rfl;simp? [eL]
  .rintro g' rfl
   have df:dfold ((Ac P).map λp => .tup [uP p,Af (λ_=>0) p]) []=some (Kd Ab (Af λ_=>0) (Ac P)):=gu (key:=Ab) (e:=uP) (f:=Af λ_=>0) (λa b=>av) eL (Ac P) [] fN;simp? [df,aF,cP,List.append_assoc,l1,List.length_append];exact tail gs1 (Ac P) .non fN λp=>aW
 .simp?
  refine uk hP ⟨ms,aa e1,e2,λy m hm=>aa (e3 y m hm)⟩ hH λps nd hmem => ?_;simp? [aF,cP,List.append_assoc,l1,List.length_append];exact tail [] ps (.ref n) nd hmem
structure LandZ(g:G)(v:Nat)(P:Plan)(H:Ht)(hN dN doN unN gN:Nat):Prop where
 e:LandE g v P H hN dN doN unN gN 0
 z:g[v]? = some (Ai P 0 0 hN dN doN unN gN)
def LandZ.up{g g':G}{S:List Nat}{v:Nat}{P:Plan}{H:Ht}{hN dN doN unN gN:Nat}(L:LandZ g v P H hN dN doN unN gN)(q:KpL S g g')(hS:∀ k∈[v,hN,dN,gN],k ∉ S):LandZ g' v P H hN dN doN unN gN :=
 ⟨L.e.up q (.inl (hS _ #[3])) (hS _ #[3]) (hS _ #[3]) (hS _ #[3]),q.get _ _ (hS _ #[3]) L.z⟩
def LandZ.app{g gs:G}{v:Nat}{P:Plan}{H:Ht}{hN dN doN unN gN:Nat}(L:LandZ g v P H hN dN doN unN gN):LandZ (g++gs) v P H hN dN doN unN gN:=L.up (S:=[]) KpL.app #[3]
structure Mdl(g:G)(n hc mk:Nat):Prop where
 ex:∃ kvs,g[n]? = some (.dst kvs)/\AU kvs (PySem.Str.ofString "heights")=some (.ref hc)/\AU kvs (PySem.Str.ofString "edition")=some (.int 0)/\AU kvs (PySem.Str.ofString "tries")=some (.int 0)/\AU kvs (PySem.Str.ofString "made")=some (.ref mk)
def Mdl.look{hc mk:Nat}(h:Mdl g n hc mk):((IZ (.ref n) g).bind λkvs=>AU kvs (PySem.Str.ofString "heights"))=some (.ref hc)/\((IZ (.ref n) g).bind λkvs=>AU kvs (PySem.Str.ofString "edition"))=some (.int 0)/\((IZ (.ref n) g).bind λkvs=>AU kvs (PySem.Str.ofString "tries"))=some (.int 0)/\((IZ (.ref n) g).bind λkvs=>AU kvs (PySem.Str.ofString "made"))=some (.ref mk):=by
 let ⟨kvs,h1,h2⟩:=h.ex;simp! [IZ,h1,Option.bind_some];exact h2
def Mdl.app{gs:G}{hc mk:Nat}(h:Mdl g n hc mk):Mdl (g++gs) n hc mk:=by
 let ⟨kvs,h1,h2⟩:=h.ex;exact ⟨kvs,aa h1,h2⟩
def Mdl.kp{hc mk k:Nat}(h:Mdl g n hc mk)(q:Kp k g g')(hn:n≠k):Mdl g' n hc mk:=by
 let ⟨kvs,h1,h2⟩:=h.ex;exact ⟨kvs,q.get _ _ hn h1,h2⟩
def dZ{H:Ht}(h:CY g n P H):Rep g (B9 P H) (.ref n):=by
 let ⟨ms,e1,e2,e3⟩:=h;simp! [B9,Rep];refine ⟨n,_,rfl,e1,kR (by rw [List.length_map,List.length_map,ai,e2]) λi D u h1 h2 => ?_⟩
 simp! [List.getElem?_map,Option.map_eq_some_iff] at h1 h2;let ⟨y,hy,rfl⟩:=h1;let ⟨m,hm,rfl⟩:=h2;let ⟨rfl,_⟩:=cU hy;simp! [D6,Rep];exact ⟨m,_,rfl,e3 i m hm,j0 (λ_=>aD) _⟩
def Kp.setNew{o:O}(h:Kp n g g')(hj:g.length<=j):Kp n g (g'.set j o):=⟨by simpa using h.len,λk o' hk e=>by
 have:k < g.length:=(List.getElem?_eq_some_iff.mp e).1
 rw [List.getElem?_set_ne ()];exact h.get k o' hk e⟩
def Kp.more{gs:G}(h:Kp n g g'):Kp n g (g'++gs):=h.trans Kp.app
def Kq(P:Plan):Dt := .tup [.int P.w,.int P.d,.int P.s]
def mZ:Rep g (Kq P) (uPl P):=by
 simp! [Kq,Rep];refine ⟨_,rfl,?_⟩;simp! [Reps];exact ⟨_,_,rfl,aD,_,_,rfl,aD,_,_,rfl,aD,rfl⟩
def adC:(Kq P).ok (n+2):=by
 unfold Kq;rw [Dt.ok_tup];refine ⟨by simp,λD h => ?_⟩
 simp at h;rcases h with rfl | rfl | rfl <;> exact bL
def Lo.trans{a b c:G}(h:Lo m a b)(k:Lo m b c):Lo m a c:=⟨Hy h.len k.len,λi o hi e=>k.get i o hi (h.get i o hi e)⟩
def Lo.app{a gs:G}:Lo m a (a++gs):=⟨by simp,λ_ _ _ e=>aa e⟩
def Kp.lo{a b:G}(q:Kp n a b)(h:m<=n):Lo m a b:=⟨q.len,λk o hk e=>q.get k o () e⟩
def fc(hP:P.ok):An P (0,0)=true:=by
 have hws:=hP.ws;have hds:=hP.ds;exact bX ⟨by decide,by simp only;omega,by decide,by simp only;omega⟩
def xx{H:Ht}{i:Int}{p:Pt}:Ov H [p] (Ov (λ_=>i) [p] H)=H:=funext λq=>by
 unfold Ov;split
 .rfl
 .rfl
def tX{H:Ht}(hP:P.ok)(L:LandZ g v P H hN dN doN unN gN)(hp:An P p=true)(h:Q (.int (H p)) g):JC fns (d+3) 23 [.ref v,uP p] g X Q:=by
 let ⟨⟨_,⟨ps,h2,_,h3⟩,_,_,_⟩,h1⟩:=L;unfold Ai at h1;have dl:Aj (.tup [.int p.1,.int p.2]) (.ref hN) g=some (some (.int (H p))):=by rw [aJ h2 aq,a7 (key:=Ab) (λa b=>av) ((h3 p).mpr hp)]
 simp? only [EC]
 simp? [h1];refine fk hP hp ?_;simp? [h1,dl,id];exact h
def dw{H:Ht}(hP:P.ok)(L:LandAt g v P H hN gN)(h:∀ (gs:G) (n:Nat) (ms:List Nat),RowsM (g++gs) n ms P H->(∀ k∈n :: ms,g.length<=k)->Q (.ref n) (g++gs)):JC fns (d+1) 24 [.ref v] g X Q:=by
 let ⟨⟨ed,tr,dN,doN,unN,h1⟩,⟨hk,h2,h3⟩,_,_⟩:=L;unfold Ai at h1;have s1:=hP.ss;have hws:=hP.ws;have hds:=hP.ds;have r1:Ak (P.w*P.s+1)=true:=az () ()
 have r2:Ak (P.d*P.s+1)=true:=az () ()
 simp? only [EL]
 simp? [h1,s1,r2];refine tq ((J0 (P.d*P.s+1)).map U.int) (λk acc g' => ∃ (ms:List Nat) (gs:G),g'=g++gs/\acc=ms.map U.ref/\ms.length=k/\(∀ m∈ms,g.length<=m) /\ ∀ (y m:Nat),ms[y]? = some m->g'[m]? = some (.lst ((J0 (P.w*P.s+1)).map λx => .int (H (x,(y:Int)))))) (λk acc g' _=>aN) (λk u acc hk' => ?_) (by rw [List.length_map,ai];omega) ⟨[],[],by simp,rfl,rfl,by simp,λy m e=>by simp at e⟩ (λvs g' hI hvl => ?_)
 .simp only [List.getElem?_map,Option.map_eq_some_iff] at hk'
  let ⟨y,hy,rfl⟩:=hk';let ⟨rfl,hy2⟩:=cU hy;simp?;rintro g' ⟨ms,gs,rfl,rfl,hl,hb,hm⟩;simp? [aa h1,s1,r1];refine br (J0 (P.w*P.s+1)) U.int (λ_=>true) (λx => .int (H (x,(k:Int)))) (λg'=>g'=g++gs) ((J0 (P.w*P.s+1)).map λx => .int (H (x,(k:Int)))) (by rw [bF]) (λk g' _=>aN) (λx hx => ?_) (by rw [ai];omega) rfl ?_
  .have hx2:=cw.mp hx
   have dl:Aj (.tup [.int x,.int (k:Int)]) (.ref hN) (g++gs)=some (some (.int (H (x,(k:Int))))):=by
    rw [aJ (aa h2) aq,h3 (x,(k:Int)) (bX ⟨by omega,by omega,by omega,by omega⟩)]
   simp?;rintro g' rfl;simp? [aa h1,dl,id]
  .rintro g' rfl
   refine ⟨by rw [List.length_map,ai];omega,?_⟩
   refine ⟨ms++[(g++gs).length],gs++[.lst ((J0 (P.w*P.s+1)).map λx => .int (H (x,(k:Int))))],by simp,by simp,by simp [hl],λm hm'=>(List.mem_append.mp hm').elim (hb m) (λz=>by rw [List.mem_singleton.mp z];simp),λy m e => ?_⟩
   rcases Nat.lt_or_ge y ms.length with c | c
   .rw [List.getElem?_append_left c] at e
    exact aa (hm y m e)
   .have ey:y=ms.length:=by
     have:=(List.getElem?_eq_some_iff.mp e).1;simp at this;omega
    subst ey;rw [hl];simp at e;subst e;simp
 .obtain ⟨ms,gs,rfl,rfl,hl,hb,hm⟩:=hI
  rw [List.length_map,ai] at hl;refine ⟨by rw [List.length_map];omega,?_⟩
  rw [List.append_assoc];refine h _ _ ms ⟨by rw [<-List.append_assoc];exact aj,hl,λy m e => ?_,λz => ?_⟩ λk hk => ?_
  .rw [<-List.append_assoc]
   exact aa (hm y m e)
  .obtain ⟨y,hy⟩:=List.getElem?_of_mem z
   exact Nat.lt_irrefl _ (List.getElem?_eq_some_iff.mp (hm y _ hy)).1
  .rcases List.mem_cons.mp hk with rfl | hk
   .simp
   .exact hb k hk
def t5{H:Ht}(hP:P.ok)(L:LandZ g v P H hN dN doN unN gN)(hp:An P p=true)(h:Q (.int 0) g):JC fns (d+3) 25 [.ref v,uP p] g X Q:=by
 let ⟨⟨_,_,⟨dk,h4,h5⟩,_,_⟩,h1⟩:=L;cases dk with
 | cons _ _=>simp at h5
 | nil =>
 unfold Ai at h1;have dl:Aj (.tup [.int p.1,.int p.2]) (.ref dN) g=some none:=by rw [aJ h4 aq];rfl
 have da:I0 (.ref dN) g=some []:=by simp! [I0,h4]
 simp? only [EJ]
 simp? [h1];refine fk hP hp ?_;simp? [h1,dl,da,Option.getD_none];exact h
def t6{H:Ht}{t:Tri}(L:LandAt g v P H hN gN)(h:Q (.bl (decide (t∈J5 P))) g):JC fns (d+1) 31 [.ref v,uT t] g X Q:=by
 let ⟨⟨ed,tr,dN,doN,unN,h1⟩,⟨hk,h2,h3⟩,⟨gk,h4,h5,h6,h7⟩,h8⟩:=L;unfold Ai at h1;have dl:Aj (uT t) (.ref gN) g=some (Ao gk (AD t)):=aJ h4 cz;have gt:(Ao gk (AD t)).isSome=decide (t∈J5 P):=by
  by_cases ht:t∈J5 P
  .rcases h6 t ht with e | ⟨H',e⟩ <;> rw [e] <;> simp [ht]
  .rw [h7 t ht];simp [ht]
 simp? only [EI]
 simp? [h1,h4,dl,gt];exact h
def hV{H:Ht}{t:Tri}(L:LandAt g v P H hN gN)(ht:t∈J5 P)(h:Q .non g):JC fns (d+2) 32 [.ref v,uT t] g X Q:=by
 let ⟨ed,tr,dN,doN,unN,h1⟩:=L.ins;unfold Ai at h1;simp? only [Et]
 simp? [h1];refine t6 L ?_;simp? [ht];exact h
def ue{H:Ht}{t:Tri}(hP:P.ok)(L:LandAt g v P H hN gN)(ht:t∈J5 P)(h:Bj g [.int (H (J9 t)),.int (H (Ka t)),.int (H (Kb t))] Q):JC fns (d+3) 33 [.ref v,uT t] g X Q:=by
 let ⟨ed,tr,dN,doN,unN,h1⟩:=L.ins;let ⟨hk,h2,h3⟩:=L.hts;let ⟨i1,i2,i3⟩:=gq (eN hP ht).1;unfold Ai at h1;simp? only [EF]
 simp? [h1];refine hV L ht ?_;simp?;refine br [J9 t,Ka t,Kb t] uP (λ_=>true) (λa => .int (H a)) (λg'=>g'=g) [.int (H (J9 t)),.int (H (Ka t)),.int (H (Kb t))] rfl (λk g' _=>rfl) (λa ha => ?_) #[3] rfl ?_
 .have hi:An P a=true:=by
   simp! [List.mem_cons,List.not_mem_nil,or_false] at ha;rcases ha with rfl | rfl | rfl
   .exact i1
   .exact i2
   .exact i3
  have dl:Aj (.tup [.int a.1,.int a.2]) (.ref hN) g=some (some (.int (H a))):=by rw [aJ h2 aq,h3 a hi]
  simp?;rintro g' rfl;simp? [h1,dl,id]
 .rintro g' rfl
  have:=fR (gs:=[]) h #[3]
  rw [List.append_nil] at this;exact this
def sm1{a:Int}(h:a.natAbs<=31):small a:=aC () ()
def sm2{a b:Int}(h:a.natAbs<=31)(k:b.natAbs<=31):small (a - b):=aC () ()
def zo{t:Tri}(h:BW t=true):SmT t:=by
 let ⟨a,b,c,d,e,f⟩:=aaB h;exact ⟨sm1 a,sm1 b,sm2 c a,sm2 d b,sm2 e a,sm2 f b⟩
def um{H:Ht}{t:Tri}(hP:P.ok)(L:LandAt g v P H hN gN)(hH:Kj P H)(ht:t∈J5 P)(h:∀ gs,Q (.tup [.int (riH H t),.int (clH H t),.int (baH H t),.int (A0 t)]) (g++gs)):JC fns (d+4) 34 [.ref v,uT t] g X Q:=by
 let ⟨ed,tr,dN,doN,unN,h1⟩:=L.ins;let ⟨i1,i2,i3⟩:=gq (eN hP ht).1;have hA:=hH _ i1;unfold Ai at h1;simp? only [EU]
 simp? [h1];refine ue hP L ht λgs n hn e => ?_;simp?;refine yO e (aC () ()) (zo (fm hP ht)) ?_
 simp?;exact h gs
def tP{H:Ht}{t:Tri}(hP:P.ok)(L:LandAt g v P H hN gN)(hH:Kj P H)(ht:t∈J5 P)(h:∀ gs,Q (uG H t) (g++gs)):JC fns (d+5) 36 [.ref v,uT t] g X Q:=by
 let ⟨ed,tr,dN,doN,unN,h1⟩:=L.ins;let ⟨hk,h2,h3⟩:=L.hts;have hin:=(eN hP ht).1;have hw:=(eN hP ht).2;have hws:=hP.ws;have hds:=hP.ds;unfold Ai at h1;simp? only [Ew]
 simp? [h1];refine um hP L hH ht λgs => ?_;simp?;refine xD (ke (fm hP ht)) λgs2 n hn e => ?_;simp? [e];refine aH ((J8 t).map uP) (λk σ g'=>g'=g++gs++gs2 /\ ∃ (Kk o2 o3:Option U),σ=[some (.ref v),some (uT t),some (.int (riH H t)),some (.int (clH H t)),some (.int (baH H t)),some (.int (A0 t)),some (.int (((J8 t).take k).foldl (AB H t) (-1,none)).1),some (J4 (((J8 t).take k).foldl (AB H t) (-1,none)).2),Kk,o2,o3]) (λk σ g' hI=>by rw [hI.1];exact aE e) ⟨rfl,_,_,_,rfl⟩ (λk u σ g' hk' hI => ?_) (λσ g' hI => ?_)
 .obtain ⟨rfl,Kk,o2,o3,rfl⟩:=hI
  simp! [List.getElem?_map,Option.map_eq_some_iff] at hk';let ⟨p,hp,rfl⟩:=hk';have hpi:=xa hin (List.mem_of_getElem? hp);have hpl:=cJ.mp hpi;have hHp:=hH p hpi;have z1:small (H p):=aC () ()
  have z2:small p.1:=aC () ()
  have z3:small p.2:=aC () ()
  have g1:(g++gs++gs2)[v]? = _:=aa (aa h1);have dl:Aj (.tup [.int p.1,.int p.2]) (.ref hN) (g++gs++gs2)=some (some (.int (H p))):=by rw [aJ (aa (aa h2)) aq,h3 p hpi]
  have da:(if H p*A0 t - (riH H t*p.1+clH H t*p.2+baH H t) < 0 then -(H p*A0 t - (riH H t*p.1+clH H t*p.2+baH H t)) else H p*A0 t - (riH H t*p.1+clH H t*p.2+baH H t))=A1 H t p:=gj _
  have et:(J8 t).take (k+1)=(J8 t).take k++[p]:=by rw [List.take_succ,hp];rfl
  rw [et,List.foldl_append];simp? [g1,dl,id,z1,z2,z3,da];refine ar (λk1 => ?_) λk1 => ?_
  .have k2:(((J8 t).take k).foldl (AB H t) (-1,none)).1 < A1 H t p:=by simpa using k1
   have er:[p].foldl (AB H t) (((J8 t).take k).foldl (AB H t) (-1,none))=(A1 H t p,some p):=if_pos k2;rw [er];simp?;exact ⟨_,_,_,rfl⟩
  .have k2 : ¬ (((J8 t).take k).foldl (AB H t) (-1,none)).1 < A1 H t p:=by simpa using k1
   have er:[p].foldl (AB H t) (((J8 t).take k).foldl (AB H t) (-1,none))=((J8 t).take k).foldl (AB H t) (-1,none):=if_neg k2;rw [er];simp?;exact ⟨_,_,_,rfl⟩
 .obtain ⟨rfl,Kk,o2,o3,rfl⟩:=hI
  rw [List.length_map,List.take_length];simp? [gj];refine xv () (by unfold big Au;omega) ?_
  simp?;rw [List.append_assoc];exact h _
def jc{H:Ht}{t:Tri}:∀ (l:List Pt) (a:Int×Option Pt),(a.1 < 0\/a.2.isSome=true)->(l.foldl (AB H t) a).1 < 0\/(l.foldl (AB H t) a).2.isSome=true
 | [],a,h=>h
 | q :: l,a,h=>by
  rw [List.foldl_cons];refine jc l _ ?_;unfold AB;split
  .exact .inr rfl
  .exact h
def neG{H H':Ht}{t:Tri}:∃ b,Ja .ne (uG H t) (uG H' t) g=some b:=by
 have key:∀ H:Ht,∃ p,(BO H t).2=some p:=λH=>by
  have h0:0<=(BO H t).1:=zl vI;rcases jc (H:=H) (t:=t) (J8 t) (-1,none) (.inl #[1]) with z | z
  .change (BO H t).1 < 0 at z;omega
  .exact Option.isSome_iff_exists.mp z
 let ⟨p,hp⟩:=key H;let ⟨q,hq⟩:=key H';unfold uG;rw [hp,hq];exact ⟨_,rfl⟩
def iQ{H:Ht}{t:Tri}(hP:P.ok)(L:LandAt g v P H hN gN)(hH:Kj P H)(ht:t∈J5 P)(h:∀ (H':Ht) (g':G),LandAt g' v P H hN gN->Kp gN g g'->Q (uG H' t) g'):JC fns (d+6) 35 [.ref v,uT t] g X Q:=by
 have L0:=L;let ⟨⟨ed,tr,dN,doN,unN,h1⟩,⟨hk,h2,h3⟩,⟨gk,h4,h5,h6,h7⟩,h8⟩:=L;unfold Ai at h1;simp? only [E4]
 simp? [h1];refine hV L0 ht ?_;have hs:=h6 t ht;rcases hs with e | ⟨H',e⟩
 .have dl:Aj (uT t) (.ref gN) g=some (some .non):=by rw [aJ h4 cz,e]
  simp? [h1,dl,id];refine tP hP L0 hH ht λgs => ?_;have h1':=aa (gs:=gs) h1;have h4':=aa (gs:=gs) h4;have sb:∀ σ,subAt (.ref gN) (uT t) (uG H t) σ (g++gs)=.ok (.nx σ) ((g++gs).set gN (.dic (dput gk (AD t) (uG H t)))):=λσ=>aS h4' cz ()
  have ne:=L0.lt.2.2.2;have i1:((g++gs).set gN (.dic (dput gk (AD t) (uG H t))))[v]? = (g++gs)[v]? := List.getElem?_set_ne (Ne.symm ne);rw [h1'] at i1;have i2:((g++gs).set gN (.dic (dput gk (AD t) (uG H t))))[gN]? = some (.dic (dput gk (AD t) (uG H t))):=ak h4';have dl2:Aj (uT t) (.ref gN) ((g++gs).set gN (.dic (dput gk (AD t) (uG H t))))=some (some (uG H t)):=by rw [aJ i2 cz,bV,if_pos rfl]
  simp? [h1',sb,i1,dl2,id];refine h H _ ⟨⟨_,_,_,_,_,i1⟩,⟨hk,?_,h3⟩,⟨_,i2,?_,λs hs => ?_,λs hs => ?_⟩,h8⟩ (Kp.app.trans Kp.set)
  .rw [List.getElem?_set_ne (Ne.symm h8)];exact aa h2
  .rw [jm (by rw [e];rfl)];exact h5
  .rw [bV]
   by_cases ek:AD t=AD s
   .have:=d8 ek;subst this;rw [if_pos rfl];exact .inr ⟨H,rfl⟩
   .rw [if_neg ek];exact h6 s hs
  .rw [bV,if_neg (λek=>hs (by rw [<-d8 ek];exact ht))]
   exact h7 s hs
 .have dl:Aj (uT t) (.ref gN) g=some (some (uG H' t)):=by rw [aJ h4 cz,e]
  simp? [h1,dl,id];exact h H' g L0 Kp.refl
def iB{B:Nat}{H N:Ht}{qs:List Pt}(hP:P.ok)(L:LandE g v P H hN dN doN unN gN B)(hB:B<=10000)(hH:Kj P H)(hq:∀ p∈qs,An P p=true /\ -1000<=N p/\N p<=1000)(ql:qs.length<=625)(hn:I0 (.ref n) g=some (Kd Ab (Af N) qs))(nn:n ∉ [v,hN,dN,gN])
  (h:∀ (u:U) (g':G),LandE g' v P (Ov N qs H) hN dN doN unN gN (B+625)->KpL [v,hN,dN,gN,n] g g'->Q u g'):JC fns (d+12) 30 [.ref v,.ref n] g X Q:=by
 have hne:=L.ne;simp! [List.nodup_cons,List.mem_cons,List.not_mem_nil,or_false,not_or] at hne nn;let ⟨ed,tr,h1⟩:=L.ins;have vlt:=L.lt.1;have hn':I0 (.ref n) (g.set v (Ai P (ed+1) tr hN dN doN unN gN))=some (Kd Ab (Af N) qs):=by
  simp! [I0] at hn ⊢;rw [List.getElem?_set_ne (Ne.symm nn.1)];exact hn
 let ⟨g2,hit,e2,k2⟩:=gM hn';have K2:KpL [v,hN,dN,gN,n] g g2:=(KpL.set #[3]).trans (k2.l #[3])
 have i2:=k2.get v _ (Ne.symm nn.1) (ak h1);have L2:=L.up (S:=[v,n]) ((KpL.set #[3]).trans (k2.l #[3])) (.inr ⟨_,_,i2⟩) (by simp [Ne.symm hne.1.1,Ne.symm nn.2.1]) (by simp [Ne.symm hne.1.2.1,Ne.symm nn.2.2.1]) (by simp [Ne.symm hne.1.2.2.2.2,Ne.symm nn.2.2.2])
 have hd2:=L2.at.hts;let ⟨hk2,hd2,hd3⟩:=hd2;unfold Ai at h1 hit i2;simp? only [EW]
 simp? [h1,↓hit];obtain ⟨cs,hcs⟩:∃ cs,cs=qs.filter λp => !decide (N p=H p):=⟨_,rfl⟩;have cin:∀ p∈cs,p∈qs:=λp hp=>by rw [hcs] at hp;exact (List.mem_filter.mp hp).1
 have cl:cs.length<=625:=by rw [hcs];exact Hy (List.length_filter_le ..) ql
 refine br qs uP (λp => !decide (N p=H p)) uP (λg'=>g'=g2) (cs.map uP) (by rw [hcs]) (λk g' e=>by rw [e];exact d0 e2) (λp hp => ?_) () rfl ?_
 .have dl1:Aj (.tup [.int p.1,.int p.2]) (.ref n) g2=some (some (.int (N p))):=by rw [dI e2 aq,a7 (key:=Ab) (λa b=>av) hp]
  have dl2:Aj (.tup [.int p.1,.int p.2]) (.ref hN) g2=some (some (.int (H p))):=by rw [aJ hd2 aq,hd3 p (hq p hp).1]
  simp?;rintro g' rfl;simp? [i2,dl1,dl2,id];by_cases hc:N p=H p
  .simp? [hc]
  .simp? [hc]
 rintro g' rfl;refine ⟨by rw [List.length_map];omega,?_⟩
 simp? [aa i2];refine lL hP λgs3 n3 _ e3 => ?_;have hpl:=iN hP;simp?;refine jq (d:=d) hP 7 #[1] (λt ht=>⟨ux ht,fO hP ht⟩) () () e3 (aa aj) λgs4 n4 us hu hul e4 => ?_
 have hul2:us.length<=18*255:=Hy hul (Nat.mul_le_mul_right _ hpl);have c4:(g'++[O.lst (cs.map uP)]++gs3++gs4)[g'.length]? = some (.lst (cs.map uP)):=aa (aa aj);have K4:KpL [v,hN,dN,gN,n] g (g'++[O.lst (cs.map uP)]++gs3++gs4):=K2.trans (KpL.app.trans (KpL.app.trans KpL.app));have L4:LandE (g'++[O.lst (cs.map uP)]++gs3++gs4) v P H hN dN doN unN gN B:=L2.app.app.app;have n4':(g'++[O.lst (cs.map uP)]++gs3++gs4)[n]? = _:=aa (aa (aa e2));have q4:=L4.nl e4;have q5:=L4.nl c4;obtain ⟨cN,hcN⟩:∃ cN,cN=g'.length:=⟨_,rfl⟩;rw [<-hcN] at c4 q5 ⊢;generalize g'++[O.lst (cs.map uP)]++gs3++gs4=g4 at *;simp? [e4];refine tq (us.map uT) (λk acc g'=>LandE g' v P H hN dN doN unN gN B/\KpL [gN] g4 g'/\acc.length=k /\ ∀ (i:Nat) (w:U),acc[i]? = some w -> ∃ t∈J5 P,us[i]? = some t /\ ∃ H',w=uG H' t) (λk acc g' hI=>aE (hI.2.1.get _ _ (by simp [q4]) e4)) (λk u acc hk => ?_) (by rw [List.length_map];omega) ⟨L4,KpL.refl,rfl,λi w e=>by simp at e⟩ (λvs g' hI hvl => ?_)
 .simp only [List.getElem?_map,Option.map_eq_some_iff] at hk
  let ⟨t,ht,rfl⟩:=hk;have hts:=hu t (List.mem_of_getElem? ht);simp?;rintro g' ⟨L5,K5,hl,ha⟩;let ⟨ed5,tr5,i5⟩:=L5.ins;unfold Ai at i5;simp? [i5];refine iQ hP L5.at hH hts λH' g6 A6 K6 => ?_;refine ⟨L5.gap A6 K6,K5.trans (K6.l #[3]),by simp [hl],λi w e => ?_⟩
  rcases Nat.lt_or_ge i acc.length with c | c
  .rw [List.getElem?_append_left c] at e
   exact ha i w e
  .rw [List.getElem?_append_right c] at e
   have:i - acc.length=0:=by have:=(List.getElem?_eq_some_iff.mp e).1;simp at this;omega
   rw [this] at e;cases e;exact ⟨t,hts,by rw [show i=k by omega];exact ht,H',rfl⟩
 let ⟨L5,K5,_,ha⟩:=hI;rw [List.length_map] at hvl;refine ⟨by omega,?_⟩
 have e6:=aa (gs:=[O.lst vs]) (K5.get _ _ (by simp [q4]) e4)
 have c6:=aa (gs:=[O.lst vs]) (K5.get _ _ (by simp [q5]) c4)
 have n6:=aa (gs:=[O.lst vs]) (K5.get _ _ (by simp [nn]) n4')
 have b6:(g'++[O.lst vs])[g'.length]? = _:=aj;have L6:LandE (g'++[O.lst vs]) v P (Ov N [] H) hN dN doN unN gN B:=L5.app;have K6:KpL [v,hN,dN,gN,n] g (g'++[O.lst vs]):=K4.trans ((K5.sub #[3]).trans KpL.app)
 have q6:=L6.nl b6;obtain ⟨bN,hbN⟩:∃ bN,bN=g'.length:=⟨_,rfl⟩;rw [<-hbN] at b6 q6 ⊢;generalize g'++[O.lst vs]=g6 at *;simp? [c6];refine aH (cs.map uP) (λj σ g' => ∃ o,LandE g' v P (Ov N (cs.take j) H) hN dN doN unN gN (B+j)/\KpL [hN,dN] g6 g'/\σ=[some (.ref v),some (.ref n),some (.ref cN),some (.ref n4),some (.ref bN),o,none]) (λj σ g' ⟨_,_,q,_⟩=>aE (q.get _ _ (by simp [q5]) c6)) ⟨_,L6,KpL.refl,rfl⟩ (λj u σ g' hj hI => ?_) (λσ g' hI => ?_)
 .simp only [List.getElem?_map,Option.map_eq_some_iff] at hj
  let ⟨p,hp,rfl⟩:=hj;let ⟨o,L7,K7,rfl⟩:=hI;have hpq:=cin p (List.mem_of_getElem? hp);have hjl:=(List.getElem?_eq_some_iff.mp hp).1;have et:cs.take (j+1)=cs.take j++[p]:=by rw [List.take_succ,hp];rfl
  let ⟨ed7,tr7,i7⟩:=L7.ins;have dl:Aj (.tup [.int p.1,.int p.2]) (.ref n) g'=some (some (.int (N p))):=by rw [dI (K7.get _ _ (by simp [nn]) n6) aq,a7 (key:=Ab) (λa b=>av) hpq]
  let ⟨g8,s8,L8,K8⟩:=L7.hset hP (hq p hpq).1;have i8:=K8.get _ _ hne.1.1 i7;let ⟨g9,s9,L9,K9⟩:=L8.dset (p:=p) (u := .int ed7) ()
  unfold Ai at i7 i8;simp? [i7,dl,id,s8,i8,s9];rw [et];exact ⟨_,L9,K7.trans ((K8.l #[3]).trans (K9.l #[3])),rfl⟩
 let ⟨o,L7,K7,rfl⟩:=hI;rw [List.length_map,List.take_length] at L7;have eOv:Ov N cs H=Ov N qs H:=funext λp=>by
  unfold Ov;rw [hcs];by_cases c1:p∈qs <;> by_cases c2:N p=H p <;> simp [c1,c2]
 rw [eOv] at L7;have hH7:Kj P (Ov N qs H):=λp hp=>by
  unfold Ov;split
  .rename_i z;exact (hq p z).2
  .exact hH p hp
 have e7:=K7.get _ _ (by simp [q4]) e6
 have b7:=K7.get _ _ (by simp [q6]) b6
 simp? [e7];refine aH (us.map uT) (λj σ g'' => ∃ o o',LandE g'' v P (Ov N qs H) hN dN doN unN gN (B+cs.length)/\KpL [gN] g' g''/\σ=[some (.ref v),some (.ref n),some (.ref cN),some (.ref n4),some (.ref bN),o,o']) (λj σ g'' ⟨_,_,_,q,_⟩=>aE (q.get _ _ (by simp [q4]) e7)) ⟨_,_,L7,KpL.refl,rfl⟩ (λj u σ g'' hj hI => ?_) (λσ g'' hI => ?_)
 .simp only [List.getElem?_map,Option.map_eq_some_iff] at hj
  let ⟨t,ht,rfl⟩:=hj;let ⟨o,o',L8,K8,rfl⟩:=hI;let ⟨ed8,tr8,i8⟩:=L8.ins;let ⟨g9,s9,L9,K9⟩:=L8.gset (hu t (List.mem_of_getElem? ht));unfold Ai at i8;simp? [i8,s9];exact ⟨_,_,L9,K8.trans (K9.l #[3]),rfl⟩
 let ⟨o,o',L8,K8,rfl⟩:=hI;have e8:=K8.get _ _ (by simp [q4]) e7
 have b8:=K8.get _ _ (by simp [q6]) b7
 simp? [e8,b8];refine gI (List.zipWith (λu w=>U.tup [u,w]) (us.map uT) vs) (λ_=>True) (λg3=>LandE g3 v P (Ov N qs H) hN dN doN unN gN (B+cs.length)/\KpL [gN] g'' g3) (λk g3 q=>wm (q.2.get _ _ (by simp [q4]) e8) (q.2.get _ _ (by simp [q6]) b8)) (λu hu' => ?_) _ 0 [] g'' (Nat.zero_add _) (by simp [Ae];omega) ⟨L8,KpL.refl⟩ (λws g3 hwl _ q => ?_)
 .obtain ⟨i,hi⟩:=List.mem_iff_getElem?.mp hu'
  rw [List.getElem?_zipWith] at hi;cases hw:vs[i]? with
  | none=>cases h2:(List.map uT us)[i]? <;> rw [hw,h2] at hi <;> cases hi
  | some w =>
   let ⟨t,ht,hti,H',rfl⟩:=ha i w hw;rw [hw,List.getElem?_map,hti] at hi;cases hi;simp?;refine ⟨rfl,?_⟩;rintro g3 ⟨L9,K9⟩;let ⟨ed9,tr9,i9⟩:=L9.ins;unfold Ai at i9;simp? [i9];refine iQ hP L9.at hH7 ht λH2 g10 A10 K10 => ?_;let ⟨c,hc⟩:=neG (H:=H2) (H':=H') (t:=t) (g:=g10);have q10:=And.intro (L9.gap A10 K10) (K9.trans (K10.l #[3]))
   simp? [hc];cases c with
   | true =>
    simp?;exact ⟨q10,λ_=>q10⟩
   | false =>
    simp?;exact ⟨q10,λ_=>q10⟩
 .rw [List.length_zipWith,List.length_map] at hwl
  refine ⟨by rw [List.nil_append];omega,?_⟩
  simp?;let ⟨⟨a1,a2,⟨dk,a3,a4⟩,a5,a6⟩,K9⟩:=q;exact h _ _ (LandE.app ⟨a1,a2,⟨dk,a3,by omega⟩,a5,a6⟩) (K6.trans ((K7.sub #[3]).trans ((K8.sub #[3]).trans ((K9.sub #[3]).trans KpL.app))))
def uC{B:Nat}{H N:Ht}{qs:List Pt}{ds:List U}(hP:P.ok)(L:LandE g v P H hN dN doN unN gN B)(hB:B<=10000)(hH:Kj P H)(hq:∀ p∈qs,An P p=true /\ -1000<=N p/\N p<=1000)(ql:qs.length<=625)(nd:qs.Nodup)(hn:I0 (.ref n) g=some (Kd Ab (Af N) qs))(hdo:g[doN]? = some (.lst ds))(dl:ds.length<=100)(hun:g[unN]? = some (.lst us))(nn:n ∉ [v,hN,dN,gN])
  (h:∀ (u:U) (g':G) (oN:Nat),LandE g' v P (Ov N qs H) hN dN doN unN gN (B+625)->KpL [v,hN,dN,doN,unN,gN,n] g g'->g'[doN]? = some (.lst (ds++[.tup [.ref oN,.ref n]]))->g'[unN]? = some (.lst [])->g'[oN]? = some (.dic #[33])->g.length<=oN->Q u g'):JC fns (d+13) 29 [.ref v,.ref n] g X Q:=by
 have hne:=L.ne;simp! [List.nodup_cons,List.mem_cons,List.not_mem_nil,or_false,not_or] at hne nn;let ⟨g2,hit,e2,k2⟩:=gM hn;have nl:n≠doN/\n≠unN:=by
  constructor <;> rintro rfl
  .simp only [I0,hdo] at hn;cases hn
  .simp only [I0,hun] at hn;cases hn
 let ⟨ed,tr,h1⟩:=L.ins;have i2:=k2.get v _ (Ne.symm nn.1) h1;have do2:=k2.get _ _ (Ne.symm nl.1) hdo;have un2:=k2.get _ _ (Ne.symm nl.2) hun;have L2:=L.up (S:=[n]) (k2.l #[3]) (.inl (by simp [Ne.symm nn.1])) (by simp [Ne.symm nn.2.1]) (by simp [Ne.symm nn.2.2.1]) (by simp [Ne.symm nn.2.2.2])
 let ⟨hk2,hd2,hd3⟩:=L2.at.hts;unfold Ai at i2;simp? only [E5]
 simp? [↓hit];refine br qs uP (λ_=>true) (λp => .tup [uP p,Af H p]) (λg'=>g'=g2) (qs.map λp => .tup [uP p,Af H p]) (by rw [bF]) (λk g' e=>by rw [e];exact d0 e2) (λp hp => ?_) () rfl ?_
 .have dl2:Aj (.tup [.int p.1,.int p.2]) (.ref hN) g2=some (some (.int (H p))):=by rw [aJ hd2 aq,hd3 p (hq p hp).1]
  simp?;rintro g' rfl;simp? [i2,dl2,id,eL]
 rintro g' rfl;have df:dfold (qs.map λp => .tup [uP p,Af H p]) []=some #[33]:=gu (key:=Ab) (e:=uP) (f:=Af H) (λa b=>av) eL qs [] nd;have do3:=aa (gs:=[.dic #[33]]) do2;have un3:=aa (gs:=[.dic #[33]]) un2;have ap:=bf (y := .tup [.ref g'.length,.ref n]) do3 ()
 have un4:((g'++[O.dic #[33]]).set doN (O.lst (ds++[U.tup [U.ref g'.length,U.ref n]])))[unN]? = some (.lst us):=aO hne.2.2.2.1.1 un3;have i4:((g'++[O.dic #[33]]).set doN (O.lst (ds++[U.tup [U.ref g'.length,U.ref n]])))[v]? = _:=aO (Ne.symm hne.1.2.2.1) (aa i2);have i5:(((g'++[O.dic #[33]]).set doN (O.lst (ds++[U.tup [U.ref g'.length,U.ref n]]))).set unN (.lst []))[v]? = _:=aO (Ne.symm hne.1.2.2.2.1) i4;simp? [df,aa i2,do3,ap,i4,un4,i5];obtain ⟨g5,hg5⟩:∃ g5,g5=((g'++[O.dic #[33]]).set doN (O.lst (ds++[U.tup [U.ref g'.length,U.ref n]]))).set unN (.lst []):=⟨_,rfl⟩;rw [<-hg5] at i5 ⊢;have K5:KpL [doN,unN] g' g5:=by rw [hg5];exact KpL.app.trans ((KpL.set #[3]).trans (KpL.set #[3]))
 have un5:g5[unN]? = some (.lst []):=by rw [hg5];exact ak un4
 have do5:g5[doN]? = some (.lst (ds++[.tup [.ref g'.length,.ref n]])):=by rw [hg5,List.getElem?_set_ne (Ne.symm hne.2.2.2.1.1)];exact ak do3
 have lt:=L2.lt;have dlt:=(List.getElem?_eq_some_iff.mp do2).1;have ult:=(List.getElem?_eq_some_iff.mp un2).1;have o5:g5[g'.length]? = some (.dic #[33]):=by rw [hg5,List.getElem?_set_ne (HD ult),List.getElem?_set_ne (HD dlt)];exact aj
 have L5:=L2.up K5 (.inl (by simp [hne.1])) (by simp [hne.2.1]) (by simp [hne.2.2.1]) (by simp [Ne.symm hne.2.2.2.1.2,Ne.symm hne.2.2.2.2.1])
 have n5:=K5.get _ _ (by simp [nl]) e2
 refine iB (d:=d) hP L5 hB hH hq ql (by simp! [I0,n5]) (by simp [nn]) λu g6 L6 K6 => ?_
 have nlt:=(List.getElem?_eq_some_iff.mp e2).1;refine h u g6 g'.length L6 (((k2.l #[3]).trans (K5.sub #[3])).trans (K6.sub #[3])) (K6.get _ _ ?_ do5) (K6.get _ _ ?_ un5) (K6.get _ _ ?_ o5) k2.len
 .simp [Ne.symm hne.1.2.2.1,Ne.symm hne.2.1.2.1,Ne.symm hne.2.2.1.1,hne.2.2.2.1.2,Ne.symm nl.1]
 .simp [Ne.symm hne.1.2.2.2.1,Ne.symm hne.2.1.2.2.1,Ne.symm hne.2.2.1.2.1,hne.2.2.2.2.1,Ne.symm nl.2]
 .simp [Ne.symm (HD lt.1),Ne.symm (HD lt.2.1),Ne.symm (HD lt.2.2.1),Ne.symm (HD lt.2.2.2),Ne.symm (HD nlt)]
def ui{B:Nat}{H N:Ht}{qs:List Pt}{ds:List U}(hP:P.ok)(L:LandE g v P H hN dN doN unN gN B)(hB:B<=10000)(hH:Kj P H)(hq:∀ p∈qs,An P p=true /\ -1000<=N p/\N p<=1000)(ql:qs.length<=625)(nd:qs.Nodup)(hm:g[m]? = some (.lst (qs.map λp => .tup [uP p,Af N p])))(hdo:g[doN]? = some (.lst ds))(dl:ds.length<=100)(hun:g[unN]? = some (.lst us))
  (h:∀ (u:U) (g':G) (oN nN:Nat),LandE g' v P (Ov N qs H) hN dN doN unN gN (B+625)->KpL [v,hN,dN,doN,unN,gN] g g'->g'[doN]? = some (.lst (ds++[.tup [.ref oN,.ref nN]]))->g'[unN]? = some (.lst [])->g'[oN]? = some (.dic #[33])->g.length<=oN->Q u g'):JC fns (d+14) 27 [.ref v,.ref m] g X Q:=by
 have hne:=L.ne;simp! [List.nodup_cons,List.mem_cons,List.not_mem_nil,or_false,not_or] at hne;let ⟨ed,tr,h1⟩:=L.ins;have q:=L.nl hm;have K1:KpL [v] g (g.set v (Ai P ed (tr+1) hN dN doN unN gN)):=KpL.set #[3]
 have i1:(g.set v (Ai P ed (tr+1) hN dN doN unN gN))[v]? = _:=ak h1;have L1:=L.up K1 (.inr ⟨_,_,i1⟩) (by simp [Ne.symm hne.1.1]) (by simp [Ne.symm hne.1.2.1]) (by simp [Ne.symm hne.1.2.2.2.2])
 have m1:=K1.get _ _ (by simp [q]) hm
 have do1:=K1.get _ _ (by simp [Ne.symm hne.1.2.2.1]) hdo
 have un1:=K1.get _ _ (by simp [Ne.symm hne.1.2.2.2.1]) hun
 have ll:(g.set v (Ai P ed (tr+1) hN dN doN unN gN)).length=g.length:=List.length_set;unfold Ai at h1;simp? only [EZ]
 unfold Ai at m1 ll i1;simp? [h1,aa m1];obtain ⟨g1,hg1⟩:∃ g1,g1=g.set v (Ai P ed (tr+1) hN dN doN unN gN):=⟨_,rfl⟩;have hg1':=hg1;unfold Ai at hg1';rw [<-hg1] at L1 K1 do1 un1;rw [<-hg1'] at ll m1 i1 ⊢;refine aH (qs.map λp => .tup [uP p,Af N p]) (λk σ g' => ∃ Kk o2,g'=g1++[.dic (Kd Ab (Af N) (qs.take k))]/\σ=[some (.ref v),some (.ref m),some (.ref g1.length),Kk,o2]) (λk σ g' ⟨_,_,e,_⟩=>by rw [e];exact aE (aa m1)) ⟨_,_,by simp [Kd],rfl⟩ (λk u σ g' hk hI => ?_) (λσ g' hI => ?_)
 .simp only [List.getElem?_map,Option.map_eq_some_iff] at hk
  let ⟨p,hp,rfl⟩:=hk;let ⟨Kk,o2,rfl,rfl⟩:=hI;have hpq:=hq p (List.mem_of_getElem? hp);have et:qs.take (k+1)=qs.take k++[p]:=by rw [List.take_succ,hp];rfl
  have new:p ∉ qs.take k:=λz=>by
   have:(qs.take (k+1)).Nodup:=nd.sublist (List.take_sublist ..);rw [et] at this;exact (List.nodup_append.mp this).2.2 p z p List.mem_cons_self rfl
  have sb:∀ σ,subAt (.ref g1.length) (.tup [.int p.1,.int p.2]) (.int (N p)) σ (g1++[.dic (Kd Ab (Af N) (qs.take k))])=.ok (.nx σ) (g1++[.dic (Kd Ab (Af N) (qs.take (k+1)))]):=λσ=>by
   rw [aS aj aq (by simp! [Kd,List.length_map,List.length_take];omega),cb (λa b=>av) new,jW,et]
   simp
  simp? [aa i1];refine fk hP hpq.1 ?_;simp?;refine ic hpq.2.1 hpq.2.2 ?_;simp? [sb];exact ⟨_,_,rfl⟩
 let ⟨Kk,o2,rfl,rfl⟩:=hI;rw [List.length_map,List.take_length];have l1:=L1.lt;simp? [aa i1];refine uC (d:=d) hP L1.app hB hH hq ql nd (by simp! [I0,aj]) (aa do1) dl (aa un1) ?_ λu g' oN L6 K6 do6 un6 o6 ho => ?_
 .simp [Ne.symm (HD l1.1),Ne.symm (HD l1.2.1),Ne.symm (HD l1.2.2.1),Ne.symm (HD l1.2.2.2)]
 .refine h u g' oN g1.length L6 ⟨Hy (by simp [ll]) K6.len,λk o hk e => ?_⟩ do6 un6 o6 (Hy (by simp [ll]) ho)
  have hkl:=(List.getElem?_eq_some_iff.mp e).1;refine K6.get k o (λz => ?_) (aa (K1.get k o (λz=>hk (by simp at z;simp [z])) e))
  have z:k∈[v,hN,dN,doN,unN,gN]++[g1.length]:=z;rcases List.mem_append.mp z with z | z
  .exact hk z
  .rw [List.mem_singleton.mp z,ll] at hkl;exact Nat.lt_irrefl _ hkl
def u5{B:Nat}{H:Ht}{i:Int}{ds:List U}(hP:P.ok)(L:LandE g v P H hN dN doN unN gN B)(hB:B<=10000)(hH:Kj P H)(hp:An P p=true)(hi : -1000<=i/\i<=1000)(hdo:g[doN]? = some (.lst ds))(dl:ds.length<=100)(hun:g[unN]? = some (.lst us))
  (h:∀ (u:U) (g':G) (oN nN:Nat),LandE g' v P (Ov (λ_=>i) [p] H) hN dN doN unN gN (B+625)->KpL [v,hN,dN,doN,unN,gN] g g'->g'[doN]? = some (.lst (ds++[.tup [.ref oN,.ref nN]]))->g'[unN]? = some (.lst [])->g'[oN]? = some (.dic (Kd Ab (Af H) [p]))->g.length < oN->Q u g'):JC fns (d+15) 26 [.ref v,uP p,.int i] g X Q:=by
 let ⟨ed,tr,h1⟩:=L.ins;unfold Ai at h1;simp? only [E1]
 simp? [h1];refine ui (d:=d) (N:=λ_=>i) (qs:=[p]) hP L.app hB hH (λq hq=>by rw [List.mem_singleton.mp hq];exact ⟨hp,hi⟩) #[3] #[3] aj (aa hdo) dl (aa hun) λu g' oN nN L6 K6 do6 un6 o6 ho => ?_
 exact h u g' oN nN L6 (KpL.app.trans K6) do6 un6 o6 (by simp at ho;omega)
def uw{B:Nat}{H N:Ht}{qs:List Pt}{ds:List U}(hP:P.ok)(L:LandE g v P H hN dN doN unN gN B)(hB:B<=10000)(hH:Kj P H)(hq:∀ p∈qs,An P p=true /\ -1000<=N p/\N p<=1000)(ql:qs.length<=625)(hn:I0 (.ref n) g=some (Kd Ab (Af N) qs))(hdo:g[doN]? = some (.lst (ds++[.tup [.ref n,.ref m]])))(hun:g[unN]? = some (.lst us))(ul:us.length<=100)(nn:n ∉ [v,hN,dN,gN])
  (h:∀ (u:U) (g':G),LandE g' v P (Ov N qs H) hN dN doN unN gN (B+625)->KpL [v,hN,dN,doN,unN,gN,n] g g'->Q u g'):JC fns (d+13) 28 [.ref v] g X Q:=by
 have hne:=L.ne;simp! [List.nodup_cons,List.mem_cons,List.not_mem_nil,or_false,not_or] at hne nn;let ⟨ed,tr,h1⟩:=L.ins;have K1:KpL [v] g (g.set v (Ai P ed (tr+1) hN dN doN unN gN)):=KpL.set #[3]
 have i1:(g.set v (Ai P ed (tr+1) hN dN doN unN gN))[v]? = _:=ak h1;have L1:=L.up K1 (.inr ⟨_,_,i1⟩) (by simp [Ne.symm hne.1.1]) (by simp [Ne.symm hne.1.2.1]) (by simp [Ne.symm hne.1.2.2.2.2])
 have nl:n≠doN/\n≠unN:=by
  constructor <;> rintro rfl
  .simp only [I0,hdo] at hn;cases hn
  .simp only [I0,hun] at hn;cases hn
 have do1:=K1.get _ _ (by simp [Ne.symm hne.1.2.2.1]) hdo
 have un1:=K1.get _ _ (by simp [Ne.symm hne.1.2.2.2.1]) hun
 obtain ⟨g1,hg1⟩:∃ g1,g1=g.set v (Ai P ed (tr+1) hN dN doN unN gN):=⟨_,rfl⟩;rw [<-hg1] at L1 K1 do1 un1 i1;have hg1':=hg1;have n1:I0 (.ref n) g1=some (Kd Ab (Af N) qs):=by
  simp! [I0] at hn ⊢;rw [hg1,List.getElem?_set_ne (Ne.symm nn.1)];exact hn
 have i2:(g1.set doN (.lst ds))[v]? = _:=aO (Ne.symm hne.1.2.2.1) i1;have un2:(g1.set doN (.lst ds))[unN]? = _:=aO hne.2.2.2.1.1 un1;have ap:=bf (y := .tup [.ref n,.ref m]) un2 ()
 have i3:((g1.set doN (.lst ds)).set unN (.lst (us++[.tup [.ref n,.ref m]])))[v]? = _:=aO (Ne.symm hne.1.2.2.2.1) i2;unfold Ai at h1 hg1' i1 i2 i3;have em:(ds++[U.tup [.ref n,.ref m]]).isEmpty=false:=by simp
 simp? only [EN]
 simp? [h1,<-hg1',i1,do1,em,fF do1,i2,un2,ap,i3];have K3:KpL [doN,unN] g1 ((g1.set doN (.lst ds)).set unN (.lst (us++[.tup [.ref n,.ref m]]))):=(KpL.set #[3]).trans (KpL.set #[3])
 have n3:I0 (.ref n) ((g1.set doN (.lst ds)).set unN (.lst (us++[.tup [.ref n,.ref m]])))=some (Kd Ab (Af N) qs):=by
  simp! [I0] at n1 ⊢;rw [List.getElem?_set_ne (Ne.symm nl.2),List.getElem?_set_ne (Ne.symm nl.1)];exact n1
 refine iB (d:=d) hP (L1.up K3 (.inl (by simp [hne.1])) (by simp [hne.2.1]) (by simp [hne.2.2.1]) (by simp [Ne.symm hne.2.2.2.1.2,Ne.symm hne.2.2.2.2.1])) hB hH hq ql n3 (by simp [nn]) λu g6 L6 K6 => ?_
 exact h u g6 L6 (((K1.sub #[3]).trans (K3.sub #[3])).trans (K6.sub #[3]))
def tZ{i:Int}(h:Q (.bl true) g):JC fns (d+1) 37 [.int i] g X Q:=by
 simp? only [EH]
 simp?;exact h
def a9(n:Nat):∀ (D:Dt) (u v:U) (Q:U->G->Prop),D.ok n->Rep g D u->Rep g D v->Q (.bl true) g->JC fns (d+n+1) 38 [u,v] g X Q:=by
 induction n with
 | zero=>intro D u v Q hd;exact hd.elim
 | succ n ih =>
  intro D u v Q hd hu hv h;refine (pH (d:=d+(n+1)) #[2] #[2]).2 ?_
  simp! [ER];have list:∀ (ds:List Dt) (us vs:List U),(∀ D∈ds,D.ok n)->Reps g ds us->Reps g ds vs->items u g=some us->items v g=some vs -> ∀ Q':Fl->G->Prop,(∀ σ,Q' (.nx σ) g)->JK fns (d+(n+1)) (.nm 2) (.rng 0 (vs.length:Int).toNat) 0 [.ife (.not (.call 38 [.idx (.var 0) (.var 2),.idx (.var 1) (.var 2)])) [.ret (.cst (.bl false))] []] [some u,some v,none] g X Q':=λds us vs hds hus hvs iu iv Q' hQ'=>by
   refine cG ((J0 (vs.length:Int)).map U.int) (λk σ g'=>g'=g /\ ∃ o,σ=[some u,some v,o]) (λk σ g' _=>aN) (λk w σ g' hk hI => ?_) (λσ g' hI=>by rw [hI.1];exact hQ' σ) _ 0 _ _ (Nat.zero_add _) ⟨rfl,none,rfl⟩
   let ⟨rfl,o,rfl⟩:=hI;simp! [List.getElem?_map,Option.map_eq_some_iff] at hk;let ⟨i,hi,rfl⟩:=hk;have hi':=cw.mp (List.mem_of_getElem? hi);have hlu:=hus.length;have hlv:=hvs.length;have hD:ds[i.toNat]? = some ds[i.toNat]:=List.getElem?_eq_getElem ()
   let ⟨a,ea,ra⟩:=hus.get hD;let ⟨b,eb,rb⟩:=hvs.get hD;have ua:Jc us i=some a:=by rw [eU hi'.1 (),ea]
   have J7:Jc vs i=some b:=by rw [eU hi'.1 (),eb]
   simp! [↓rl,↓aat,↓abZ,↓ac8,↓ab1,↓zL,↓qf,↓pR,↓gZ,↓hJ,↓tz,↓eG,↓ac7,↓acZ,↓adh,↓adi,↓sN,↓acm,↓aco,↓adt,↓sD,↓acs,↓qx,↓zQ,↓tL,↓tm,↓lj,↓lA,↓kH,↓oP,↓lh,↓lX,↓abt,↓KV_s,↓KV_c,↓KV_n,↓KV_a,↓k_E,↓tK,↓KB_s,↓tB,↓rG,↓qr,↓ab4,↓k8,↓lr,↓kq,↓rB,↓tj,↓lT,↓lK,↓sY,↓aaF,↓pZ,↓o9,↓ni,↓lQ,↓pJ,↓rT,↓su,↓tw,↓acT,↓sh,↓oa,↓qT,↓mL,↓sH,↓abW,↓adD,↓mz,↓rp,↓mH,↓rn,↓acj,↓oC,↓oA,↓m8,↓nW,↓nR,↓rS,↓l8,↓nG,↓m7,↓rA,↓yv,↓lD,↓nq,↓sM,↓kE,↓nK,↓nD,↓rY,↓mi,↓oi,↓mQ,↓qp,↓z9,↓zy,↓ye,↓oK,↓pQ,↓aaq,↓qc,↓oy,↓mr,↓aaL,↓l9,↓oV,↓abg,↓pF,↓oX,↓mG,↓rV,↓qj,↓aaI,↓oH,↓oz,↓rP,↓qm,↓z0,↓nL,↓pT,↓rK,↓aab,↓ab2,↓abv,↓zJ,↓abl,↓qq,↓tu,↓pS,↓qK,↓tJ,↓l7,↓qw,↓qy,↓rC,↓qu,↓acQ,↓qb,↓se,↓pN,↓abB,↓oM,↓aaj,↓pL,↓wF,↓kG,↓ac1,↓mf,↓zr,↓aay,↓lg,↓oE,↓ab3,↓zx,↓aaQ,↓aby,↓aar,↓yM,↓sV,↓kN,↓mw,↓kI,↓pY,↓oF,↓lJ,↓yL,↓kD,↓nC,↓oj,↓mD,↓mR,↓lY,↓yW,↓l0,↓yU,↓kB,↓zX,↓qd,↓rL,↓my,↓lC,↓ade,↓ot,↓xB,↓abY,↓aa1,↓abw,↓og,↓acg,↓xK,↓kX,↓kJ,↓yf,↓yy,↓lF,↓oB,↓mJ,↓zH,↓nQ,↓rM,↓ng,↓qo,↓nZ,↓pf,↓pz,↓nH,↓nv,↓ma,↓abz,↓aaG,↓aa3,↓qJ,↓mh,↓sC,↓nB,↓nh,↓nz,↓zw,↓nO,↓pG,↓nY,↓kT,↓pM,↓mU,↓si,↓oe,↓qY,↓qv,↓sy,↓qL,↓rf,↓sr,↓pd,↓nA,↓oJ,↓qg,↓pO,↓oZ,↓pP,↓pV,↓oW,↓nt,↓mj,↓pv,↓nJ,↓oR,↓oQ,↓pb,↓pK,↓sJ,↓so,↓qU,↓sF,↓qQ,↓sk,↓nT,↓rD,↓rR,↓rX,↓kO,↓rQ,↓tF,↓sG,↓sP,↓qP,↓sR,↓rm,↓qX,↓pA,↓q0,↓mq,↓kP,↓mP,↓sZ,↓oY,↓q_bi,↓qR,↓rZ,↓rg,↓sv,↓oI,↓oG,↓oU,↓pX,↓qG,↓pI,↓pk,↓sm,↓rH,↓qz,↓sQ,↓tf,↓sA,↓r9,perm,pick,AJ,Option.bind_some,BE,BA,A8,Cm,List.lookup_cons,List.lookup_nil,Nat.reduceBEq,List.contains_cons,List.contains_nil,BD,List.getElem?_cons_zero,List.getElem?_cons_succ,List.length_cons,List.length_nil,List.set_cons_zero,List.set_cons_succ,List.map_cons,List.map_nil,List.replicate_succ,List.replicate_zero,List.cons_append,List.nil_append,Nat.zero_add,Nat.reduceAdd,Nat.reduceSub,Nat.reduceLT,Nat.reduceLeDiff,Nat.reduceEqDiff,Nat.lt_add_left_iff_pos,Jj,Ah,bindL,if_true,if_false,ite_true,ite_false,and_true,true_and,Option.getD_some,eQ,eM,ny,lB,kr,lE,qZ,rq,rj,rO,nr,jZ,sj,tN,sI,cin,tM,qD,lN,Bool.or_false,Bool.or_true,Bool.true_or,Bool.false_or,clt,cle,cgt,cge,Ci,Jb,Cf,Bt,Jg,AE,lift,Jf,Dh,DQ,Cv,alloc,AH,fZ,Ae,dh,eY,r8,sT,qS,rE,AL,CB,Option.map_some,Int.reduceLT,Int.reduceLE,Int.reduceNeg,Int.reduceEq,decide_true,decide_false,Bool.not_true,Bool.not_false,Bool.and_true,Bool.true_and,Bool.and_self,decide_eq_true_eq,eq_self,iu,iv,ua,J7];refine ih _ a b _ (hds _ (List.mem_of_getElem? hD)) ra rb ?_;simp?;exact ⟨_,rfl⟩
  cases D with
  | non=>cases hu;cases hv;simp?;exact h
  | bl b=>cases hu;cases hv;simp?;cases b <;> exact h
  | int i =>
   cases hu;cases hv;simp?;refine tZ (d:=d+n) ?_;simp?;simpa using h
  | str s=>cases hu;cases hv;simp?;simpa using h
  | tup ds =>
   let ⟨us,rfl,hus⟩:=hu;let ⟨vs,rfl,hvs⟩:=hv;have hlu:=hus.length;have hlv:=hvs.length;let ⟨hlen,hds⟩:=Dt.ok_tup.mp hd;have eq:(us.length:Int)=vs.length:=by omega
   have hr:Ak (vs.length:Int)=true:=az () ()
   simp? [eq,hr];refine list ds us vs hds hus hvs rfl rfl _ λσ => ?_;simp?;exact h
  | lst ds =>
   let ⟨n1,us,rfl,hgu,hus⟩:=hu;let ⟨n2,vs,rfl,hgv,hvs⟩:=hv;have hlu:=hus.length;have hlv:=hvs.length;let ⟨hlen,hds⟩:=Dt.ok_lst.mp hd;have eq:(us.length:Int)=vs.length:=by omega
   have hr:Ak (vs.length:Int)=true:=az () ()
   simp? [eq,hr,hgu,hgv];refine list ds us vs hds hus hvs (by simp! [items,hgu]) (by simp! [items,hgv]) _ λσ => ?_
   simp?;exact h
def uD(ns:List Int)(h:∀ zs:List Int,Q (.ref 2) [.lst (zs.map U.int),.lst (zs.map U.int),Bx 1 0 7]):JC fns (d+1) 39 [.fro #[32]] [] X Q:=by
 simp? only [E3]
 simp? [CI];have hz:Be #[32] none (some 63)=(D8 ns none (some 63)).map U.int:=yx ns _ _;simp? [hz,Bx];exact h _
def aR{m:Int}(hb:Bag g)(hm:0 < m)(hm2:m < 1000000000000)(h:∀ (r:Int) (g':G),0<=r->r < m->Fr g g'->Q (.int r) g'):JC fns (d+1) 40 [.ref 2,.int m] g X Q:=by
 let ⟨xs,at_,seed,h1,h2⟩:=hb;have l1:1 < g.length:=(List.getElem?_eq_some_iff.mp h1).1;have l2:2 < g.length:=(List.getElem?_eq_some_iff.mp h2).1;have hmb:m < Au:=by unfold Au;omega
 have h63:(2147483647:Int) < Au:=by decide
 have h64:(64:Int) < Au:=by decide
 have s1:small 48271:=bZ #[1]
 have s2:small 9973:=bZ #[1]
 have s3:small 31:=bZ #[1]
 have s4:small 69621:=bZ #[1]
 simp? only [ET]
 simp? [h1,h2,Bx];have small_:∀ cell:Int,0<=cell -> ¬ 1000000000000000000<=cell->wpS fns d [(.ife (.cmp .ge (.var 4) (.bin .pow (.cst (.int 10)) (.cst (.int 18)))) [(.sub (.var 2) (.bin .mod (.var 3) (.bi .len [(.var 2)])) (.bin .fdiv (.var 4) (.var 1))),(.ret (.bin .mod (.var 4) (.var 1)))] []),(.sub (.var 0) (.cst (.int 1)) (.bin .add (.var 3) (.cst (.int 1)))),(.sub (.var 0) (.cst (.int 2)) (.bin .mod (.bin .add (.bin .add (.bin .add (.bin .mul (.idx (.var 0) (.cst (.int 2))) (.cst (.int 48271))) (.bin .mul (.var 4) (.cst (.int 9973)))) (.bin .mul (.var 3) (.cst (.int 31)))) (.cst (.int 11))) (.cst (.int 2147483647)))),(.ret (.bin .mod (.bin .fdiv (.bin .mod (.bin .mul (.idx (.var 0) (.cst (.int 2))) (.cst (.int 69621))) (.cst (.int 2147483629))) (.cst (.int 64))) (.var 1)))] [some (.ref 2),some (.int m),some (.ref 1),some (.int at_),some (.int cell)] g X λfl g=>JQ fl (lk λu=>Q u g):=λcell c0 c1=>by
  have h2':=ak (o':=Bx 1 (at_+1) seed) h2;have h2'':=ak (o':=Bx 1 (at_+1) ((seed*48271+cell*9973+at_*31+11) % 2147483647)) h2';have cn : ¬ cell < 0:=by omega
  simp? [h1,h2,j5,cn,c1,cM h2 (show (0:Int)<=1 by decide) #[3],s1,s2,s3,s4,hm,hmb,h63,h64,show (1:Int).toNat=1 from rfl,h2']
  simp? [cM h2' (show (0:Int)<=2 by decide) #[3],s1,s2,s3,s4,hm,hmb,h63,h64,show (2:Int).toNat=2 from rfl,h2'']
  exact h _ _ (Int.emod_nonneg _ ()) (Int.emod_lt_of_pos _ hm) ((Fr.set2 ⟨xs,at_,seed,h1,h2⟩ _ _).trans (Fr.set2 (Fr.set2 ⟨xs,at_,seed,h1,h2⟩ _ _).bag _ _))
 have big_:∀ cell:Int,0 < xs.length->1000000000000000000<=cell->wpS fns d [(.ife (.cmp .ge (.var 4) (.bin .pow (.cst (.int 10)) (.cst (.int 18)))) [(.sub (.var 2) (.bin .mod (.var 3) (.bi .len [(.var 2)])) (.bin .fdiv (.var 4) (.var 1))),(.ret (.bin .mod (.var 4) (.var 1)))] []),(.sub (.var 0) (.cst (.int 1)) (.bin .add (.var 3) (.cst (.int 1)))),(.sub (.var 0) (.cst (.int 2)) (.bin .mod (.bin .add (.bin .add (.bin .add (.bin .mul (.idx (.var 0) (.cst (.int 2))) (.cst (.int 48271))) (.bin .mul (.var 4) (.cst (.int 9973)))) (.bin .mul (.var 3) (.cst (.int 31)))) (.cst (.int 11))) (.cst (.int 2147483647)))),(.ret (.bin .mod (.bin .fdiv (.bin .mod (.bin .mul (.idx (.var 0) (.cst (.int 2))) (.cst (.int 69621))) (.cst (.int 2147483629))) (.cst (.int 64))) (.var 1)))] [some (.ref 2),some (.int m),some (.ref 1),some (.int at_),some (.int cell)] g X λfl g=>JQ fl (lk λu=>Q u g):=λcell c0 c1=>by
  have ce:=xS (at_:=at_) c0;have cl:(0:Int) < xs.length:=by omega
  let ⟨m1,m2⟩:=gE (at_:=at_) c0;simp? [h1,h2,j5,c1,List.length_map,cl,hm,hmb,cM h1 m1 (by simpa using m2),<-List.map_set]
  exact h _ _ (Int.emod_nonneg _ ()) (Int.emod_lt_of_pos _ hm) (Fr.set1 ⟨xs,at_,seed,h1,h2⟩ _)
 have fin_:∀ cell:Int,(1000000000000000000<=cell->0 < xs.length)->0<=cell->wpS fns d [(.ife (.cmp .ge (.var 4) (.bin .pow (.cst (.int 10)) (.cst (.int 18)))) [(.sub (.var 2) (.bin .mod (.var 3) (.bi .len [(.var 2)])) (.bin .fdiv (.var 4) (.var 1))),(.ret (.bin .mod (.var 4) (.var 1)))] []),(.sub (.var 0) (.cst (.int 1)) (.bin .add (.var 3) (.cst (.int 1)))),(.sub (.var 0) (.cst (.int 2)) (.bin .mod (.bin .add (.bin .add (.bin .add (.bin .mul (.idx (.var 0) (.cst (.int 2))) (.cst (.int 48271))) (.bin .mul (.var 4) (.cst (.int 9973)))) (.bin .mul (.var 3) (.cst (.int 31)))) (.cst (.int 11))) (.cst (.int 2147483647)))),(.ret (.bin .mod (.bin .fdiv (.bin .mod (.bin .mul (.idx (.var 0) (.cst (.int 2))) (.cst (.int 69621))) (.cst (.int 2147483629))) (.cst (.int 64))) (.var 1)))] [some (.ref 2),some (.int m),some (.ref 1),some (.int at_),some (.int cell)] g X λfl g=>JQ fl (lk λu=>Q u g):=λcell c0 c1=>by
  by_cases c2:1000000000000000000<=cell
  .exact big_ cell (c0 c2) c2
  .exact small_ cell c1 c2
 refine ar (λk1 => ?_) λk1 => ?_
 .have k1:0 < xs.length:=by simpa using k1
  have cl:(0:Int) < xs.length:=by omega
  simp? [h1,List.length_map,cl,wj k1];refine ar (λk2 => ?_) λk2 => ?_
  .have z:=fin_ (1 - Dc xs at_) (λ_=>k1) (by simp! [decide_eq_true_eq] at k2;omega)
   simp? [eq_self] at z ⊢;exact z
  .have z:=fin_ (Dc xs at_) (λ_=>k1) (by simp! [decide_eq_false_iff_not] at k2;omega)
   simp? [eq_self] at z ⊢;exact z
 .have z:=fin_ 0 (λz=>absurd z #[1]) #[1]
  simp? [eq_self] at z ⊢;exact z
def BC:List Plan:=[⟨1,1,2⟩,⟨1,1,4⟩,⟨2,1,2⟩,⟨1,2,2⟩,⟨2,2,2⟩,⟨1,1,4⟩,⟨3,1,2⟩,⟨1,3,2⟩,⟨2,1,4⟩,⟨1,2,4⟩,⟨3,2,2⟩,⟨1,1,8⟩]
def x4(h:P∈BC):P.ok:=by
 simp! [BC,List.mem_cons,List.not_mem_nil,or_false] at h;rcases h with rfl | rfl | rfl | rfl | rfl | rfl | rfl | rfl | rfl | rfl | rfl | rfl <;> exact ⟨by simp,by simp,by simp⟩
def ud(hb:Bag g)(h:∀ (P:Plan) (g':G),P∈BC->Fr g g'->Q (uPl P) g'):JC fns (d+2) 41 [.ref 2] g X Q:=by
 simp? only [EM]
 simp?;refine abT (aa aj) aj #[1] ?_
 simp?;refine aR hb.app.app.app #[1] #[1] λr g1 a1 b1 f1 => ?_
 have e1:=f1.get _ _ (by have:=hb.len;simp! [List.length_append,List.length_cons,List.length_nil];omega) aj
 let ⟨P,hP,hu⟩:=gy (l:=BC) (f:=uPl) a1 (by exact b1)
 have e2:g1[(g++[O.lst ((BC.take 6).map uPl)]++[O.lst ((BC.drop 6).map uPl)]).length]? = some (.lst (BC.map uPl)):=e1;have fr:Fr g g1:=by
  refine Fr.trans ?_ f1;rw [List.append_assoc,List.append_assoc];exact Fr.app hb
 revert e2;simp! [List.length_append,List.length_cons,List.length_nil];intro e2;simp? [e2,hu,List.length_append];exact h P g1 hP fr
def ie(hP:P.ok)(h:Bj g ((Ac P).map uP) Q):JC fns (d+1) 42 [uPl P] g X Q:=by
 have h0:=hP.s0;have h1:=hP.ss;have hw:=hP.ws;have hd:=hP.ds;have r1:Ak (P.w*P.s+1)=true:=az () ()
 have r2:Ak (P.d*P.s+1)=true:=az () ()
 have hl:=bB hP;simp? only [EA]
 simp? [*];refine cG ((J0 (P.w*P.s+1)).map U.int) (λk σ g'=>(∃ Kk o2,σ=[some (uPl P),some (.ref g.length),Kk,o2])/\g'=g++[.lst ((((J0 (P.w*P.s+1)).take k).flatMap λx=>(J0 (P.d*P.s+1)).map λy=>((x,y):Pt)).map uP)]) (λk σ g' _=>aN) (λk u σ g' hk hI => ?_) (λσ g' hI => ?_) _ 0 _ _ (Nat.zero_add _) ⟨⟨none,none,rfl⟩,rfl⟩
 .obtain ⟨⟨Kk,o2,rfl⟩,rfl⟩:=hI
  simp! [List.getElem?_map,Option.map_eq_some_iff] at hk;let ⟨x,hx,rfl⟩:=hk;simp? [*];refine cG ((J0 (P.d*P.s+1)).map U.int) (λj σ g'=>(∃ o2,σ=[some (uPl P),some (.ref g.length),some (.int x),o2])/\g'=g++[.lst (((((J0 (P.w*P.s+1)).take k).flatMap λx=>(J0 (P.d*P.s+1)).map λy=>((x,y):Pt))++(((J0 (P.d*P.s+1)).take j).map λy=>((x,y):Pt))).map uP)]) (λk σ g' _=>aN) (λj u σ g' hj hI => ?_) (λσ g' hI => ?_) _ 0 _ _ (Nat.zero_add _) ⟨⟨o2,rfl⟩,by simp⟩
  .obtain ⟨⟨o2,rfl⟩,rfl⟩:=hI
   simp! [List.getElem?_map,Option.map_eq_some_iff] at hj;let ⟨y,hy,rfl⟩:=hj;have hk':=List.length_take_le k (J0 (P.w*P.s+1));have hlen:((((J0 (P.w*P.s+1)).take k).flatMap λx=>(J0 (P.d*P.s+1)).map λy=>((x,y):Pt))++(((J0 (P.d*P.s+1)).take j).map λy=>((x,y):Pt))).length<=700:=by
    have a1:=bG (f:=λx=>(J0 (P.d*P.s+1)).map λy=>((x,y):Pt)) (B:=25) (l:=(J0 (P.w*P.s+1)).take k) λa _=>by simp [ai];omega
    have a2:((J0 (P.w*P.s+1)).take k).length<=25:=by rw [List.length_take,ai];omega
    have a3:=Nat.mul_le_mul_right 25 a2;rw [List.length_append,List.length_map,List.length_take,ai];omega
   simp? [aj,uL (show (List.map uP ((((J0 (P.w*P.s+1)).take k).flatMap λx=>(J0 (P.d*P.s+1)).map λy=>((x,y):Pt))++(((J0 (P.d*P.s+1)).take j).map λy=>((x,y):Pt)))).length < 16777000 by rw [List.length_map];omega)]
   refine ⟨⟨_,rfl⟩,?_⟩;rw [List.take_succ,hy];simp
  .obtain ⟨⟨o2,rfl⟩,rfl⟩:=hI
   simp?;refine ⟨⟨_,_,rfl⟩,?_⟩;rw [List.take_succ,hx];simp
 .obtain ⟨⟨Kk,o2,rfl⟩,rfl⟩:=hI
  simp?;refine h _ _ (HA _) ?_;simp [Ac]
def uq{k:Int}(hb:Bag g)(h:∀ (v:Int) (g':G),-1000<=v->v<=1000->Fr g g'->Q (.int v) g'):JC fns (d+2) 43 [.ref 2,.int k] g X Q:=by
 simp? only [ES];simp?
 refine ar (λk1 => ?_) λk1 => ?_
 .simp?
  refine aR hb.app #[1] #[1] λr g1 a1 b1 f1 => ?_
  have e1:g1[g.length]? = some (.lst (([0,0,0,0,0,7,-5]:List Int).map U.int)):=f1.get _ _ (by have:=hb.len;omega) aj
  let ⟨v,hv,hu⟩:=gy (l:=([0,0,0,0,0,7,-5]:List Int)) (f:=U.int) a1 (by exact b1)
  have hr : -1000<=v/\v<=1000:=by
   simp! [List.mem_cons,List.not_mem_nil,or_false] at hv;omega
  have hu':Jc [U.int 0,U.int 0,U.int 0,U.int 0,U.int 0,U.int 7,U.int (-5)] r=some (.int v):=hu;simp? [e1,hu'];exact h v g1 hr.1 hr.2 (Fr.trans (Fr.app hb) f1)
 .simp?
  refine ar (λk2 => ?_) λk2 => ?_
  .simp?
   refine aR hb #[1] #[1] λr g1 a1 b1 f1 => ?_
   simp?;exact h _ g1 () () f1
  .simp?
   refine ar (λk3 => ?_) λk3 => ?_
   .simp?
    refine aR hb #[1] #[1] λr g1 a1 b1 f1 => ?_
    simp?;exact h _ g1 () () f1
   .simp?
    refine ar (λk4 => ?_) λk4 => ?_
    .simp?
     refine aR hb #[1] #[1] λr g1 a1 b1 f1 => ?_
     have s2:small 2000:=⟨by decide,by decide⟩
     simp? [s2];exact h (r*2000 - 1000) g1 () () f1
    .simp?
     exact h 0 g #[1] #[1] (Fr.refl hb)
def fD{k:Nat}{p:Pt}(h:(Ac P)[k]? = some p):p ∉ (Ac P).take k:=by
 intro hm;have hs:=hY P;let ⟨hk,e⟩:=List.getElem?_eq_some_iff.mp h;let ⟨j,hj,e2⟩:=List.mem_iff_getElem.mp hm;rw [List.getElem_take] at e2;have hj2:j < k:=by rw [List.length_take] at hj;omega
 have:=List.pairwise_iff_getElem.mp hs j k () hk hj2
 rw [e2,e] at this;exact lx this
def tS(hP:P.ok)(hb:Bag g)(h:∀ (H:Ht) (m:Nat) (g':G),Kj P H->Fr g g'->g.length<=m->g'[m]? = some (.dic (Kd Ab (λp => .int (H p)) (Ac P)))->Q (.ref m) g'):JC fns (d+3) 44 [.ref 2,uPl P] g X Q:=by
 have hl:=bB hP;have hws:=hP.ws;have hds:=hP.ds;simp? only [Ey]
 simp?;refine aR hb #[1] #[1] λkd g1 k0 k1 f1 => ?_
 simp?;refine aR f1.bag #[1] #[1] λac g2 a0 a1 f2 => ?_
 simp?;refine aR f2.bag #[1] #[1] λal g3 b0 b1 f3 => ?_
 have F3:Fr g g3:=(f1.trans f2).trans f3;have l3:=F3.len;have b3:=hb.len;simp?;refine ie hP λgs n hn e => ?_;have F4:Fr g (g3++[O.dic []]++gs):=(F3.trans (Fr.app F3.bag)).trans (Fr.app F3.bag.app);have hn':g3.length < n:=by simp at hn;omega
 simp? [e];refine aH ((Ac P).map uP) (λk σ g' => ∃ (H:Ht) (o:Option U),Fr g g'/\g'[n]? = some (.lst ((Ac P).map uP))/\g'[g3.length]? = some (.dic (Kd Ab (λp => .int (H p)) ((Ac P).take k)))/\(∀ p,-1000<=H p/\H p<=1000)/\σ=[some (.ref 2),some (uPl P),some (.int kd),some (.int (ac - 20)),some (.int (al - 20)),some (.ref g3.length),o]) (λk σ g' hI => ?_) ⟨λ_=>0,none,F4,e,?_,λ_=>(by decide:(-1000:Int)<=0/\(0:Int)<=1000),rfl⟩ (λk u σ g' hk hI => ?_) (λσ g' hI => ?_)
 .obtain ⟨H,o,_,e,_⟩:=hI
  exact aE e
 .exact aa (by simp [Kd])
 .obtain ⟨H,o,fr,el,ed,hH,rfl⟩:=hI
  simp! [List.getElem?_map,Option.map_eq_some_iff] at hk;let ⟨p,hp,rfl⟩:=hk;have hpl:=cJ.mp (aW.mp (List.mem_of_getElem? hp));have hkl:k < (Ac P).length:=(List.getElem?_eq_some_iff.mp hp).1;have new:=fD hp;have et:(Ac P).take (k+1)=(Ac P).take k++[p]:=by rw [List.take_succ,hp];rfl
  simp?;refine uq fr.bag λv g5 v0 v1 f5 => ?_;have ed5:=f5.get _ _ () ed
  have el5:=f5.get _ _ () el
  have ln:(Kd Ab (λp=>U.int (H p)) ((Ac P).take k)).length < 16777000:=by simp! [Kd,List.length_map,List.length_take];omega
  have sb:∀ σ,subAt (.ref g3.length) (.tup [.int p.1,.int p.2]) (.int v) σ g5=.ok (.nx σ) (g5.set g3.length (.dic (Kd Ab (λq => .int (if q=p then v else H q)) ((Ac P).take (k+1))))):=λσ=>by
   rw [aS ed5 aq ln,et,cb (λa b=>av) new];congr 4;funext q;split <;> rfl
  have fr5:=fr.trans f5;have fr6:Fr g (g5.set g3.length (.dic (Kd Ab (λq => .int (if q=p then v else H q)) ((Ac P).take (k+1))))):=Fr.setNew fr5 l3 ()
  have H6:∀ q,-1000<=(if q=p then v else H q)/\(if q=p then v else H q)<=1000:=λq=>by
   split
   .exact ⟨v0,v1⟩
   .exact hH q
  simp? [sb];refine ar (λc5 => ?_) λc5 => ?_
  .have z1:small (ac - 20):=aC () ()
   have z2:small (al - 20):=aC () ()
   simp? [z1,z2];generalize hg6:List.set g5 g3.length (O.dic (Kd Ab (λq => .int (if q=p then v else H q)) ((Ac P).take (k+1))))=g6 at fr6
   have ed6:g6[g3.length]? = some (O.dic (Kd Ab (λq => .int (if q=p then v else H q)) ((Ac P).take (k+1)))):=by rw [<-hg6];exact ak ed5
   have el6:g6[n]? = some (.lst ((Ac P).map uP)):=by rw [<-hg6,List.getElem?_set_ne ()];exact el5
   refine aR fr6.bag.app #[1] #[1] λr g7 r0 r1 f7 => ?_
   have e7:g7[g6.length]? = some (.lst (([0,0,0,1]:List Int).map U.int)):=f7.get _ _ (by have:=fr6.len;omega) aj
   let ⟨w,hw,hu⟩:=gy (l:=([0,0,0,1]:List Int)) (f:=U.int) r0 (by exact r1)
   have hr:0<=w/\w<=1:=by
    simp! [List.mem_cons,List.not_mem_nil,or_false] at hw;omega
   have hu':Jc [U.int 0,U.int 0,U.int 0,U.int 1] r=some (.int w):=hu;have ed7:=f7.get _ _ () (aa (gs:=[.lst [.int 0,.int 0,.int 0,.int 1]]) ed6)
   have el7:=f7.get _ _ () (aa (gs:=[.lst [.int 0,.int 0,.int 0,.int 1]]) el6)
   have ln7:(Kd Ab (λq=>U.int (if q=p then v else H q)) ((Ac P).take (k+1))).length < 16777000:=by simp! [Kd,List.length_map,List.length_take];omega
   obtain ⟨v',hv'⟩:∃ v',v'=(ac - 20)*p.1+(al - 20)*p.2+w:=⟨_,rfl⟩;have bv : -1000<=v'/\v'<=1000:=by
    have q1:=pU (a:=ac - 20) (b:=p.1) (A:=20) (B:=24) () ()
    have q2:=pU (a:=al - 20) (b:=p.2) (A:=20) (B:=24) () ()
    omega
   have sb7:∀ σ,subAt (.ref g3.length) (.tup [.int p.1,.int p.2]) (.int v') σ g7=.ok (.nx σ) (g7.set g3.length (.dic (Kd Ab (λq => .int (if q=p then v' else H q)) ((Ac P).take (k+1))))):=λσ=>by
    rw [aS ed7 aq ln7,kg (λa b=>av) (by rw [et];simp)]
    congr 4;funext q;by_cases c:q=p <;> simp [c]
   rw [hv'] at sb7;simp? [e7,hu',sb7];rw [<-hv'];refine ⟨_,_,Fr.setNew ((fr6.trans (Fr.app fr6.bag)).trans f7) l3 (),?_,ak ed7,λq => ?_,rfl⟩
   .rw [List.getElem?_set_ne ()];exact el7
   .split
    .exact bv
    .exact hH q
  .simp?
   refine ⟨_,_,fr6,?_,ak ed5,H6,rfl⟩;rw [List.getElem?_set_ne ()];exact el5
 .obtain ⟨H,o,fr,el,ed,hH,rfl⟩:=hI
  simp?;rw [List.length_map,List.take_length] at ed;exact h H _ g' (λp _=>hH p) fr l3 ed
def dq{H:Ht}(hP:P.ok)(hu:I0 u g=some kvs)(hk:∀ p,An P p=true->Ao kvs (Ab p)=some (.int (H p)))(h:∀ (gs:G) (n:Nat) (ms:List Nat),RowsM (g++gs) n ms P H->(∀ k∈n :: ms,g.length<=k)->Q (.ref n) (g++gs)):JC fns (d+1) 45 [uPl P,u] g X Q:=by
 have s1:=hP.ss;have hws:=hP.ws;have hds:=hP.ds;have r1:Ak (P.w*P.s+1)=true:=az () ()
 have r2:Ak (P.d*P.s+1)=true:=az () ()
 simp? only [EX]
 simp? [s1,r2];refine aH ((J0 (P.d*P.s+1)).map U.int) (λk σ g' => ∃ (ms:List Nat) (gs:G) (o:Option U),g'=g ++ .lst #[21] :: gs/\ms.length=k/\(∀ (y m:Nat),ms[y]? = some m->g.length < m/\g'[m]? = some (.lst ((J0 (P.w*P.s+1)).map λx => .int (H (x,(y:Int))))))/\σ=[some (uPl P),some u,some (.ref g.length),o]) (λk σ g' _=>aN) ⟨[],[],_,rfl,rfl,λy m e=>by simp at e,rfl⟩ (λk u' σ g' hk' hI => ?_) (λσ g' hI => ?_)
 .obtain ⟨ms,gs,o,rfl,hl,hm,rfl⟩:=hI
  simp! [List.getElem?_map,Option.map_eq_some_iff] at hk';let ⟨y,hy,rfl⟩:=hk';let ⟨rfl,hy2⟩:=cU hy;simp? [aF,s1,r1];refine br (J0 (P.w*P.s+1)) U.int (λ_=>true) (λx => .int (H (x,(k:Int)))) (λg'=>g'=g ++ .lst #[21] :: gs) ((J0 (P.w*P.s+1)).map λx => .int (H (x,(k:Int)))) (by rw [bF]) (λk g' _=>aN) (λx hx => ?_) (by rw [ai];omega) rfl ?_
  .have hx2:=cw.mp hx
   have dl:Aj (.tup [.int x,.int (k:Int)]) u (g ++ .lst #[21] :: gs)=some (some (.int (H (x,(k:Int))))):=by
    rw [wX (eE hu) aq,hk (x,(k:Int)) (bX ⟨by omega,by omega,by omega,by omega⟩)]
   simp?;rintro g' rfl;simp? [dl,id]
  .rintro g' rfl
   have ap:A5 g.length (.ref (g++O.lst #[21] :: gs).length) (g++O.lst #[21] :: gs++[.lst ((J0 (P.w*P.s+1)).map λx => .int (H (x,(k:Int))))])=.ok .non (g ++ .lst ((ms++[(g++O.lst #[21] :: gs).length]).map U.ref) :: (gs++[.lst ((J0 (P.w*P.s+1)).map λx => .int (H (x,(k:Int))))])):=by
    rw [bf (xs:=ms.map U.ref) #[3] (by rw [List.length_map];omega)]
    simp
   refine ⟨by rw [List.length_map,ai];omega,?_⟩
   simp? [ap];refine ⟨_,_,_,rfl,by simp [hl],λy m e => ?_,rfl⟩
   rcases Nat.lt_or_ge y ms.length with c | c
   .rw [List.getElem?_append_left c] at e
    let ⟨m1,m2⟩:=hm y m e;refine ⟨m1,?_⟩;have c1:m < (g++O.lst #[21] :: gs).length:=(List.getElem?_eq_some_iff.mp m2).1;rw [List.getElem?_append_right ()] at m2 ⊢
    obtain ⟨j,hj⟩:∃ j,m - g.length=j+1:=⟨m - g.length - 1,by omega⟩
    rw [hj,List.getElem?_cons_succ] at m2 ⊢;exact aa m2
   .have ey:y=ms.length:=by
     have:=(List.getElem?_eq_some_iff.mp e).1;simp at this;omega
    subst ey;rw [hl];simp at e;subst e;refine ⟨by omega,?_⟩
    rw [show g++O.lst ((ms++[(g++O.lst #[21] :: gs).length]).map U.ref) :: (gs++[O.lst ((J0 (P.w*P.s+1)).map λx => .int (H (x,(k:Int))))])=(g++O.lst ((ms++[(g++O.lst #[21] :: gs).length]).map U.ref) :: gs)++[O.lst ((J0 (P.w*P.s+1)).map λx => .int (H (x,(k:Int))))] by simp]
    rw [List.getElem?_append_right #[3]]
    simp
 .obtain ⟨ms,gs,o,rfl,hl,hm,rfl⟩:=hI
  simp?;rw [List.length_map,ai] at hl;have nin:g.length ∉ ms:=λz=>by
   let ⟨y,hy⟩:=List.getElem?_of_mem z;exact Nat.lt_irrefl _ (hm y _ hy).1
  refine h _ _ ms ⟨aF,hl,λy m e=>(hm y m e).2,nin⟩ λk hk => ?_;rcases List.mem_cons.mp hk with rfl | hk
  .exact HA _
  .obtain ⟨y,hy⟩:=List.getElem?_of_mem hk
   exact Nat.le_of_lt (hm y k hy).1
def me:Jc (xs++[u]) (-1)=some u:=by
 have e:L2.ixN (xs++[u]).length (-1)=some xs.length:=by
  unfold L2.ixN;rw [List.length_append,List.length_singleton];rw [if_neg (),if_pos ()]
  congr 1;omega
 unfold Jc L2.atI;rw [e];simp
def gv{xs:List α}(h:1<=xs.length):∃ zs z,xs=zs++[z]:=⟨xs.dropLast,xs.getLast (λe=>by rw [e] at h;simp at h),(List.dropLast_concat_getLast _).symm⟩
def t7(h1:g[n]? = some (.lst xs))(hx:1<=xs.length)(hl:xs.length<=1000)(h:∀ ys:List U,Q .non (g.set n (.lst ys))):JC fns (d+1) 46 [.ref n] g X Q:=by
 let ⟨zs,z,rfl⟩:=gv hx;let ⟨ws,w,e2⟩:=gv (xs:=(zs++[z]).set 0 z) (by simpa using hx)
 have wl:ws.length < 16777000:=by have:=congrArg List.length e2;simp at this hl;omega
 have s1:∀ σ,subAt (.ref n) (.int 0) z σ g=.ok (.nx σ) (g.set n (.lst (ws++[w]))):=λσ=>by rw [<-e2];exact cM h1 #[1] #[3]
 have p2:Bg n (g.set n (.lst (ws++[w])))=.ok w (g.set n (.lst ws)):=by rw [fF (ak h1),List.set_set]
 have a3:A5 n .non (g.set n (.lst ws))=.ok .non (g.set n (.lst (ws++[.non]))):=by rw [bf (ak h1) wl,List.set_set]
 have g2:(g.set n (.lst (ws++[w])))[n]? = _:=ak h1;have g3:(g.set n (.lst ws))[n]? = _:=ak h1;have c0:decide ((0:Int) < ((zs++[z]).length:Nat))=true:=decide_eq_true #[3]
 simp? only [EK]
 simp? [h1,c0,me,s1,g2,p2,g3,a3];exact h _
def ir{H:Ht}(hP:P.ok)(h8:P.w*P.s<=8/\P.d*P.s<=8)(hm:g[m]? = some (.dic (Kd Ab (λp => .int (H p)) (Ac P))))
  (h:∀ (g':G) (n hc mk:Nat),Kp m g g'->g'[m]? = some (.dif (Kd Ab (λp => .int (H p)) (Ac P)))->Mdl g' n hc mk->g'[hc]? = some (.dic (Kd Ab (λp => .int (H p)) (Ac P)))->g'[mk]? = some (.dic (Kd Ab (λ_ => .int 0) (Ac P)))->g.length<=mk->n≠mk->hc≠mk->Q (.ref n) g'):JC fns (d+1) 47 [.ref m] g X Q:=by
 have hl:=bB hP;have hws:=hP.ws;have hds:=hP.ds;have mlt:m < g.length:=(List.getElem?_eq_some_iff.mp hm).1;have h0:Ac P≠[]:=λe=>by have:(0,0)∈Ac P:=aW.mpr (bX ⟨by decide,by simp only;omega,by decide,by simp only;omega⟩);rw [e] at this;cases this
 simp? only [EG]
 simp? [aa hm];refine aH ((Ac P).map uP) (λk σ g' => ∃ o,Kp m g g'/\g'[m]? = some (.dif (Kd Ab (λp => .int (H p)) (Ac P)))/\g'[g.length]? = some (.dic (Kd Ab (λ_ => .int 0) ((Ac P).take k)))/\σ=[some (.ref m),some (.ref g.length),o]) (λk σ g' hI => ?_) ⟨none,Kp.app.trans Kp.set,ak (aa hm),?_,rfl⟩ (λk u σ g' hk hI => ?_) (λσ g' hI => ?_)
 .obtain ⟨o,_,e,_⟩:=hI
  exact d0 e
 .rw [List.getElem?_set_ne ()];simp [Kd]
 .obtain ⟨o,kp,e3,e4,rfl⟩:=hI
  simp! [List.getElem?_map,Option.map_eq_some_iff] at hk;let ⟨p,hp,rfl⟩:=hk;have new:=fD hp;have et:(Ac P).take (k+1)=(Ac P).take k++[p]:=by rw [List.take_succ,hp];rfl
  have ln:(Kd Ab (λ_=>U.int 0) ((Ac P).take k)).length < 16777000:=by simp! [Kd,List.length_map,List.length_take];omega
  have sb:∀ σ,subAt (.ref g.length) (.tup [.int p.1,.int p.2]) (.int 0) σ g'=.ok (.nx σ) (g'.set g.length (.dic (Kd Ab (λ_ => .int 0) ((Ac P).take (k+1))))):=λσ=>by
   rw [aS e4 aq ln,et,cb (λa b=>av) new];congr 4;funext q;split <;> rfl
  simp? [sb];refine ⟨_,kp.setNew (HA _),?_,ak e4,rfl⟩;rw [List.getElem?_set_ne ()];exact e3
 .obtain ⟨o,kp,e3,e4,rfl⟩:=hI
  rw [List.length_map,List.take_length] at e4;have da:I0 (.ref m) g'=some (Kd Ab (λp => .int (H p)) (Ac P)):=by simp! [I0,e3]
  have gl:g.length < g'.length:=(List.getElem?_eq_some_iff.mp e4).1;simp? [aaa h8.1 h8.2 h0 da];refine h _ _ g'.length g.length kp.more.more.more.more (aa (aa (aa (aa e3)))) ⟨_,aj,by rfl,by rfl,by rfl,by rfl⟩ ?_ ?_ (HA _) ?_ ()
  .exact aa (aa (aa aj))
  .exact aa (aa (aa (aa e4)))
  .simp only [List.length_append,List.length_cons,List.length_nil];omega
def BV(P:Plan)(H:Ht):List #[26]:=(J0 (P.d*P.s+1)).map λy=>(J0 (P.w*P.s+1)).map λx=>H (x,y)
def jv{α:Type}{f:α->Int}:∀ l:List α,B8 (l.map λx=>U.int (f x))=some (l.map f)
 | []=>rfl
 | a :: l=>by simp! [List.map_cons,B8,Eh,jv l,Option.bind_some,Option.map_some]
def j3{g:G}:∀ {ms:List Nat} {d:List #[26]},ms.length=d.length->(∀ (j m:Nat) (is:List Int),ms[j]? = some m->d[j]? = some is->Br (.ref m) g=some is)->BU g #[21]=some d
 | [],[],_,_=>rfl
 | [],_ :: _,h,_=>by simp at h
 | _ :: _,[],h,_=>by simp at h
 | m :: ms,is :: d,h,k=>by
  have h1:=k 0 m is rfl rfl;have h2:=j3 (ms:=ms) (d:=d) (by simpa using h) λj m' is' e1 e2=>k (j+1) m' is' (by simpa using e1) (by simpa using e2)
  simp! [List.map_cons,BU,h1,h2,Option.bind_some,Option.map_some]
def fU{ms:List Nat}{H:Ht}(R:RowsM g n ms P H):Ba (.ref n) g=some (BV P H):=by
 let ⟨h1,h2,h3,_⟩:=R;simp! [Ba,h1];refine j3 (by simp! [BV,List.length_map,ai,h2]) λj m is e1 e2 => ?_
 simp! [BV,List.getElem?_map,Option.map_eq_some_iff] at e2;let ⟨y,hy,rfl⟩:=e2;let ⟨rfl,_⟩:=cU hy;simp! [Br,h3 j m e1];exact jv _
def acR{ms ks:List Nat}{H:Ht}(hP:P.ok)(R1:RowsM g n ms P H)(R2:RowsM g m ks P H):Ja .eq (.ref n) (.ref m) g=some true:=by
 have hl:I8 #[21] (ks.map U.ref)=none:=by
  have l1:=R1.2.1;have l2:=R2.2.1;have hd:=hP.ds;cases ms with
  | nil=>simp at l1;omega
  | cons a ms=>cases ks with
   | nil=>simp at l2;omega
   | cons b ks =>
    unfold I8;rw [if_pos (by rw [List.length_map,List.length_map,l1,l2])]
    rfl
 simp! [Ja,A2,R1.1,R2.1,I9,hl,fU R1,fU R2,Option.bind_some,Option.map_some,decide_true]
def ik{α:Type}{f:α->PySem.PyData}:∀ l:List α,PySem.PyData.shownAll (l.map f)=l.map λa=>(f a).shown
 | []=>rfl
 | a :: l=>by simp! [List.map_cons,PySem.PyData.shownAll,ik l]
def ff{α:Type}{f:α->PySem.PyData}:∀ l:List α,(∀ a∈l,(f a).showable=true)->PySem.PyData.showableAll (l.map f)=true
 | [],_=>rfl
 | a :: l,h=>by simp! [List.map_cons,PySem.PyData.showableAll,h a List.mem_cons_self,ff l λb hb=>h b (HB _ hb),Bool.and_self]
def mV{c:Nat}:∀ l:List Nat,(∀ x∈l,x<=c)->l.sum<=c*l.length
 | [],_=>HA _
 | x :: l,h=>by
  have h1:=h x List.mem_cons_self;have h2:=mV l λy hy=>h y (HB _ hy);rw [List.sum_cons,List.length_cons,Nat.mul_succ];omega
def lR{ts:List PySem.Str}{c:Nat}(h:∀ t∈ts,t.length<=c):(PySem.listText ts).length<=(c+2)*ts.length+3:=by
 have h1:=PySem.listText_len_le ts;have h2:=mV (c:=c) (ts.map (·.length)) λx hx=>by let ⟨t,ht,rfl⟩:=List.mem_map.mp hx;exact h t ht
 rw [List.length_map] at h2;rw [Nat.add_mul];omega
def wg{d:List #[26]}(hd:d.length<=100)(h:∀ r∈d,r.length<=100 /\ ∀ i∈r,-1000<=i/\i<=1000):(AG d).showable=true/\(AG d).shown.length<=PySem.sizeLine:=by
 constructor
 .simp only [AG,PySem.PyData.showable]
  refine ff d λr hr => ?_;simp! [PySem.PyData.showable];refine ff r λi hi => ?_;have:=(h r hr).2 i hi;simp! [PySem.PyData.showable,decide_eq_true_eq];exact Nat.lt_of_le_of_lt (Nat.log2_le_self _) ()
 .simp only [AG,PySem.PyData.shown,ik]
  have h1:∀ t∈d.map (λr=>PySem.listText (r.map λi=>PySem.Str.ofString (toString i))),t.length<=703:=λt ht=>by
   let ⟨r,hr,rfl⟩:=List.mem_map.mp ht;have h2:=lR (ts:=r.map λi=>PySem.Str.ofString (toString i)) (c:=5) λt ht=>by
    let ⟨i,hi,rfl⟩:=List.mem_map.mp ht;rw [PySem.ofString_length];have:=(h r hr).2 i hi;exact PySem.int_text_length_le10 (k:=4) #[1] ()
   have h3:=(h r hr).1;rw [List.length_map] at h2;omega
  have h4:=lR h1;rw [List.length_map] at h4;rw [PySem.sizeLine_eq];exact Hy h4 ()
def gJ{ms:List Nat}{H:Ht}(hP:P.ok)(hH:Kj P H)(R:RowsM g n ms P H):C8 [.ref n] g=.ok (.str (AG (BV P H)).shown) g:=by
 have hws:=hP.ws;have hds:=hP.ds;have hk:=wg (d:=BV P H) (by simp! [BV,List.length_map,ai];omega) λr hr=>by
  let ⟨y,hy,rfl⟩:=List.mem_map.mp hr;refine ⟨by rw [List.length_map,ai];omega,λi hi => ?_⟩
  let ⟨x,hx,rfl⟩:=List.mem_map.mp hi;have hx:=cw.mp hx;have hy:=cw.mp hy;exact hH (x,y) (bX ⟨by omega,by omega,by omega,by omega⟩)
 simp! [C8,fU R,if_pos hk]
def fh{v hc mk:Nat}{H:Ht}(hP:P.ok)(L:LandZ g v P H hN dN doN unN gN)(hR:∀ k∈[v,hN,dN,gN],k≠mk)(M:Mdl g n hc mk)(e1:g[hc]? = some (.dic (Kd Ab (λp => .int (H p)) (Ac P))))(e2:I0 (.ref mk) g=some (Kd Ab (λ_ => .int 0) (Ac P)))(n1:n≠mk)(n2:hc≠mk)
  (h:∀ g':G,Kp mk g g'->I0 (.ref mk) g'=some (Kd Ab (λ_ => .int 0) (Ac P))->Q (.bl true) g'):JC fns (d+6) 48 [.ref v,uPl P,.ref n] g X Q:=by
 have h1:=L.z;unfold Ai at h1;simp? only [ED]
 simp? [h1];refine dw hP L.e.at λgs1 m1 ms1 R1 _ => ?_;have M1:=M.app (gs:=gs1);have a1:I0 (.ref hc) (g++gs1)=some (Kd Ab (λp => .int (H p)) (Ac P)):=by simp! [I0,aa e1]
 simp? [M1.look.1];refine dq hP a1 (λp hp=>a7 (key:=Ab) (λa b=>av) (aW.mpr hp)) λgs2 m2 ms2 R2 _ => ?_;simp?;refine a9 3 (B9 P H) _ _ _ (lM hP) (dZ R1.app.at) (dZ R2.at) ?_;have M2:=M1.app (gs:=gs2);have L2:=(L.app (gs:=gs1)).app (gs:=gs2);have e12:=aa (gs:=gs2) (aa (gs:=gs1) e1);have e22:I0 (.ref mk) (g++gs1++gs2)=_:=eE (eE e2);have h12:=aa (gs:=gs2) (aa (gs:=gs1) h1);have kp0:Kp mk g (g++gs1++gs2):=Kp.app.trans Kp.app;generalize g++gs1++gs2=g2 at *;simp? [h12];refine a9 2 (Kq P) _ _ _ adC mZ mZ ?_;simp? [h12,M2.look.2.1];refine a9 1 (.int 0) _ _ _ bL aD aD ?_;simp? [h12,M2.look.2.2.1];refine a9 1 (.int 0) _ _ _ bL aD aD ?_;let ⟨g3,hit,e33,k3⟩:=gM e22;simp? [M2.look.2.2.2,↓hit];refine aH ((Ac P).map uP) (λk σ g'=>Kp mk g2 g'/\g'[mk]? = some (.dif (Kd Ab (λ_ => .int 0) (Ac P))) /\ ∃ o,σ=[some (.ref v),some (uPl P),some (.ref n),some (.bl true),o]) (λk σ g' hI=>d0 hI.2.1) ⟨k3,e33,_,rfl⟩ (λk u σ g' hk hI => ?_) (λσ g' hI => ?_)
 .obtain ⟨kp,e3,o,rfl⟩:=hI
  simp! [List.getElem?_map,Option.map_eq_some_iff] at hk;let ⟨p,hp,rfl⟩:=hk;have hpm:=List.mem_of_getElem? hp;have hpl:=aW.mp hpm;have L3:=L2.up (S:=[mk]) (kp.l #[3]) (λk hk z=>hR k hk (List.mem_singleton.mp z))
  have M3:=M2.kp kp n1;have h13:=kp.get v _ (hR v #[3]) h12
  have e13:=kp.get hc _ n2 e12;have d1:Aj (.tup [.int p.1,.int p.2]) (.ref mk) g'=some (some (.int 0)):=by rw [dI e3 aq,a7 (key:=Ab) (λa b=>av) hpm]
  have J3:Aj (.tup [.int p.1,.int p.2]) (.ref hc) g'=some (some (.int (H p))):=by rw [aJ e13 aq,a7 (key:=Ab) (λa b=>av) hpm]
  simp? [h13];refine t5 hP L3 hpl ?_;simp? [M3.look.2.2.2,d1,id];refine a9 1 (.int 0) _ _ _ bL aD aD ?_;simp? [h13];refine tX hP L3 hpl ?_;simp? [M3.look.1,J3,id];refine a9 1 (.int (H p)) _ _ _ bL aD aD ?_;simp?;exact ⟨kp,e3,_,rfl⟩
 .obtain ⟨kp,e3,o,rfl⟩:=hI
  simp?;exact h _ (kp0.trans kp) (by simp! [I0,e3])
def hX{ms:List Nat}(h1:g[n]? = some (.lst #[21]))(h0:1<=ms.length/\ms.length<=1000)(hn:n ∉ ms)(hr:∀ m∈ms,∃ xs,g[m]? = some (.lst xs)/\1<=xs.length/\xs.length<=1000)(h:∀ g',KpL (n :: ms) g g'->Q .non g'):JC fns (d+2) 49 [.ref n] g X Q:=by
 let ⟨as,ml,ems⟩:=gv h0.1;have hml:ml∈ms:=by rw [ems];simp
 have i1:Jc #[21] (-1)=some (.ref ml):=by rw [ems,List.map_append];exact me
 cases ms with
 | nil=>simp at h0
 | cons m0 rest =>
 have i0:Jc ((m0 :: rest).map U.ref) 0=some (.ref m0):=dh;rw [List.map_cons] at i0 i1 h1;let ⟨xs,e0,x1,x2⟩:=hr m0 List.mem_cons_self;have ne0:m0≠n:=λe=>hn (e ▸ List.mem_cons_self);have s1:∀ σ,subAt (.ref m0) (.int 0) (.int 999) σ g=.ok (.nx σ) #[37]:=λσ=>cM e0 #[1] ()
 have n1:#[37][n]? = _:=aO ne0 h1;obtain ⟨ys,y1,y2⟩:∃ ys,#[37][ml]? = some (.lst ys)/\ys.length<=1000:=by
  by_cases e:m0=ml
  .subst e;exact ⟨_,ak e0,by simpa using x2⟩
  .obtain ⟨zs,z1,_,z2⟩:=hr ml hml;exact ⟨zs,aO e z1,z2⟩
 have nel:ml≠n:=λe=>hn (e ▸ hml);have a2:=bf (y := .int 7) y1 ()
 have n2:(#[37].set ml (.lst (ys++[.int 7])))[n]? = _:=aO nel n1;simp? only [Eu]
 simp? [h1,i0,s1,n1,i1,y1,a2];refine t7 n2 #[3] (by simpa using h0.2) λzs => ?_
 simp?;exact h _ (((KpL.set #[3]).trans (KpL.set (by simp! [List.mem_cons];exact .inr (List.mem_cons.mp hml)))).trans (KpL.set #[3]))
def uh(hP:P.ok)(h:∀ (g':G) (m:Nat),KpL [] g g'->g.length<=m->g'[m]? = some (.dic (Kd Ab (λ_ => .int 0) (Ac P)))->Q (.ref m) g'):JC fns (d+2) 50 [uPl P] g X Q:=by
 have hl:=bB hP;simp? only [EY]
 simp?;refine ie hP λgs n hn e => ?_;simp? [e];refine aH ((Ac P).map uP) (λk σ g' => ∃ o,KpL [] g g'/\g'[n]? = some (.lst ((Ac P).map uP))/\g'[g.length]? = some (.dic (Kd Ab (λ_ => .int 0) ((Ac P).take k)))/\n≠g.length/\σ=[some (uPl P),some (.ref g.length),o]) (λk σ g' hI => ?_) ⟨none,?_,e,?_,?_,rfl⟩ (λk u σ g' hk hI => ?_) (λσ g' hI => ?_)
 .obtain ⟨o,_,e,_⟩:=hI
  exact aE e
 .exact KpL.app.trans KpL.app
 .rw [List.append_assoc];simp [Kd]
 .simp at hn;omega
 .obtain ⟨o,kp,e3,e4,e5,rfl⟩:=hI
  simp! [List.getElem?_map,Option.map_eq_some_iff] at hk;let ⟨p,hp,rfl⟩:=hk;have new:=fD hp;have et:(Ac P).take (k+1)=(Ac P).take k++[p]:=by rw [List.take_succ,hp];rfl
  have ln:(Kd Ab (λ_=>U.int 0) ((Ac P).take k)).length < 16777000:=by simp! [Kd,List.length_map,List.length_take];omega
  have sb:∀ σ,subAt (.ref g.length) (.tup [.int p.1,.int p.2]) (.int 0) σ g'=.ok (.nx σ) (g'.set g.length (.dic (Kd Ab (λ_ => .int 0) ((Ac P).take (k+1))))):=λσ=>by
   rw [aS e4 aq ln,et,cb (λa b=>av) new];congr 4;funext q;split <;> rfl
  simp? [sb];refine ⟨_,⟨by simpa using kp.len,λk o hk e => ?_⟩,aO (Ne.symm e5) e3,ak e4,e5,rfl⟩
  have:k < g.length:=(List.getElem?_eq_some_iff.mp e).1;exact aO () (kp.get k o hk e)
 .obtain ⟨o,kp,e3,e4,e5,rfl⟩:=hI
  rw [List.length_map,List.take_length] at e4;simp?;exact h _ _ kp (HA _) e4
def law_ok(ns:List Int):JC fns (d+22) 51 [.fro #[32]] [] X λu _=>u=.bl true:=by
 simp? only [Cb]
 simp?;refine uD ns λzs => ?_;have hb:Bag [.lst (zs.map U.int),.lst (zs.map U.int),Bx 1 0 7]:=⟨zs,0,7,rfl,rfl⟩;revert hb;generalize ([.lst (zs.map U.int),.lst (zs.map U.int),Bx 1 0 7]:G)=g0;intro hb;simp?;refine ud hb λP g1 hm f1 => ?_;have hP:=x4 hm;have h8:P.w*P.s<=8/\P.d*P.s<=8:=by
  simp! [BC,List.mem_cons,List.not_mem_nil,or_false] at hm;rcases hm with rfl | rfl | rfl | rfl | rfl | rfl | rfl | rfl | rfl | rfl | rfl | rfl <;> decide
 simp?;refine tS hP f1.bag λH mN g2 hH f2 hmN e2 => ?_;have l1:=f1.bag.len;have a2:I0 (.ref mN) g2=some (Kd Ab (Af H) (Ac P)):=by simp! [I0,e2]
 have lm:mN < g2.length:=(List.getElem?_eq_some_iff.mp e2).1;have hgt:∀ p,An P p=true->Ao (Kd Ab (Af H) (Ac P)) (Ab p)=some (.int (H p)):=λp hp=>a7 (key:=Ab) (λa b=>av) (aW.mpr hp);simp?;refine dq hP a2 hgt λgs3 n3 ms3 R3 B3 => ?_;have T3:=R3.lt;simp?;refine dm hP (.inr ⟨n3,rfl,R3.at⟩) hH λgs4 hA dA doA unA gA ltA LA zA doA4 unA4 => ?_;simp?;have rest:∀ (g6:G) (v hN dN doN unN gN:Nat),LandZ g6 v P H hN dN doN unN gN->v < hN/\v < dN/\v < doN/\v < unN/\v < gN->g6[doN]? = some (.lst [])->g6[unN]? = some (.lst [])->RowsM g6 n3 ms3 P H->g6[mN]? = some (.dic (Kd Ab (Af H) (Ac P)))->(g2++gs3).length<=v ->
   JR fns (d+21) 45 [uPl P,.ref mN] g6 X (lk (BP .eq (.ref n3) (Kst (Tg.nm 6) [some (.fro #[32]),some (.ref 2),some (uPl P),some (.ref mN),some (.ref n3),some (.ref v),none,none,none,none,none,none] (BH fns (d+21) (Cb.body.drop 7) X (Kfn λu _=>u=.bl true))))):=λg6 v hN dN doN unN gN L lt do6 un6 R6 e6 hv=>by
  simp! [Cb,List.drop];have hmv:mN < v:=HC lm (Hy #[3] hv)
  have lS:∀ k∈[v,hN,dN,doN,unN,gN],v<=k:=by simp;omega
  have lS4:∀ k∈[v,hN,dN,gN],v<=k:=by simp;omega
  have a6:I0 (.ref mN) g6=some (Kd Ab (Af H) (Ac P)):=by simp! [I0,e6]
  refine dq hP a6 hgt λgs7 n7 ms7 R7 B7 => ?_;have R67:=R6.app (gs:=gs7);simp? [acR hP R67 R7];let ⟨s1,s2⟩:=R67.sp hP;refine hX R67.1 s1 R67.2.2.2 s2 λg8 K8 => ?_;have o3:∀ k,v<=k->k ∉ n3 :: ms3:=λk hk z=>Nat.not_lt.mpr hk (HC (T3 k z) hv);have L8:=(L.app (gs:=gs7)).up K8 λk hk=>o3 k (lS4 k hk);have do8:=K8.get _ _ (o3 _ (Nat.le_of_lt lt.2.2.1)) (aa do6);have un8:=K8.get _ _ (o3 _ (Nat.le_of_lt lt.2.2.2.1)) (aa un6);have e8:=K8.get mN _ (λz=>Nat.not_lt.mpr (B3 mN z) lm) (aa e6);simp?;refine ir hP h8 e8 λg9 n9 hc9 mk9 k9 e9 M9 c9 m9 lk9 ne1 ne2 => ?_;have nm:∀ k,v<=k->k ∉ [mN]:=λk hk z=>by rw [List.mem_singleton] at z;omega
  have L9:=L8.up (k9.l (S:=[mN]) #[3]) λk hk=>nm k (lS4 k hk)
  have do9:=k9.get doN _ () do8
  have un9:=k9.get unN _ () un8
  have t8:=L8.e.lt;have t8d:=(List.getElem?_eq_some_iff.mp do8).1;have t8u:=(List.getElem?_eq_some_iff.mp un8).1;simp?;refine fh hP L9 (by simp;omega) M9 c9 (by simp! [I0,m9]) ne1 ne2 λg10 k10 a10 => ?_
  have L10:=L9.up (k10.l (S:=[mk9]) #[3]) (by simp;omega)
  have do10:=k10.get doN _ () do9
  have un10:=k10.get unN _ () un9
  have e10:=k10.get mN _ () e9
  have i10:=L10.z;unfold Ai at i10;simp? [i10];refine dw hP L10.e.at λgs11 n11 ms11 R11 B11 => ?_;simp?;let ⟨s3,s4⟩:=R11.sp hP;refine hX R11.1 s3 R11.2.2.2 s4 λg12 K12 => ?_;have t10:=L10.e.lt;have t10d:=(List.getElem?_eq_some_iff.mp do10).1;have t10u:=(List.getElem?_eq_some_iff.mp un10).1;have O12:=(Lo.app (m:=g10.length) (gs:=gs11)).trans (K12.lo B11);have L12:LandZ g12 v P H hN dN doN unN gN:=⟨L10.e.lo O12 t10,O12.get _ _ t10.1 L10.z⟩;have do12:=O12.get _ _ t10d do10;have un12:=O12.get _ _ t10u un10;have e12:=O12.get mN _ () e10
  have i12:=L12.z;unfold Ai at i12;simp? [i12];refine dw hP L12.e.at λgs13 n13 ms13 R13 B13 => ?_;have i13:=aa (gs:=gs13) i12;have d13:Aj (.tup [.int 0,.int 0]) (.ref mN) (g12++gs13++[.lst [.int 1,.int 2]])=some (some (.int (H (0,0)))):=by
   rw [dI (aa (aa e12)) aq];exact congrArg some (hgt (0,0) (fc hP))
  have ev:∀ (a:E) (es:List E) (σ:Su),JX 8 (.idx a (.bi .int es)) σ=none:=λ_ _ _=>by rfl
  have rest2:∀ i:Int,-1000<=i/\i<=1000->JR fns (d+21) 26 [.ref v,uP (0,0),.int i] (g12++gs13++[.lst [.int 1,.int 2]]) X (lk (Kxp [some (.fro #[32]),some (.ref 2),some (uPl P),some (.ref mN),some (.ref n3),some (.ref v),some (.bl true),some (.ref n9),some (.ref n11),some (.ref n13),some (.str (AG (BV P H)).shown),none] (BH fns (d+21) (Cb.body.drop 15) X (Kfn λu _=>u=.bl true)))):=λi hi=>by
   simp! [Cb,List.drop];have R14:=R13.app (gs:=[.lst [.int 1,.int 2]]);have L14:LandZ (g12++gs13++[.lst [.int 1,.int 2]]) v P H hN dN doN unN gN:=L12.app.app;have do14:=aa (gs:=[.lst [.int 1,.int 2]]) (aa (gs:=gs13) do12);have un14:=aa (gs:=[.lst [.int 1,.int 2]]) (aa (gs:=gs13) un12);have e14:=aa (gs:=[.lst [.int 1,.int 2]]) (aa (gs:=gs13) e12);have t12:=L12.e.lt;have t12d:=(List.getElem?_eq_some_iff.mp do12).1;have t12u:=(List.getElem?_eq_some_iff.mp un12).1;have t14:=L14.e.lt;generalize g12++gs13++[.lst [.int 1,.int 2]]=g14 at *;refine u5 hP L14.e #[1] hH (fc hP) hi do14 #[1] un14 λu15 g15 oN nN L15 K15 do15 un15 o15 ho15 => ?_
   have hb13:∀ k∈n13 :: ms13,k ∉ [v,hN,dN,doN,unN,gN]:=λk hk=>by
    have:=B13 k hk;simp;omega
   have R15:RowsM g15 n13 ms13 P H:=⟨K15.get _ _ (hb13 _ #[3]) R14.1,R14.2.1,λy m e=>K15.get _ _ (hb13 _ (HB _ (List.mem_of_getElem? e))) (R14.2.2.1 y m e),R14.2.2.2⟩
   have e15:=K15.get mN _ (by simp;omega) e14
   simp? [gJ hP hH R15,beq_self_eq_true];refine uh hP λg16 m16 K16 h16 e16 => ?_;simp?;refine ir (H:=λ_=>0) hP h8 e16 λg17 n17 hc17 mk17 k17 _ M17 c17 m17 lk17 n71 n72 => ?_;have l16:=K16.len;have O17:Lo g15.length g15 g17:=(K16.lo (λk hk=>absurd hk List.not_mem_nil)).trans (k17.lo h16);simp?;refine dm hP (.inl ⟨rfl,rfl⟩) (λp _=>by decide) λgs18 hC dC doC unC gC ltC LC zC _ _ => ?_
   have mk_lt:mk17 < g17.length:=(List.getElem?_eq_some_iff.mp m17).1;simp?;refine fh hP ⟨LC,zC⟩ (by simp;omega) M17.app (aa c17) (by simp! [I0,aa (gs:=gs18) m17]) n71 n72 λg19 k19 a19 => ?_
   have O19:Lo g15.length g15 g19:=(O17.trans Lo.app).trans (k19.lo ())
   simp?;refine dm hP (.inl ⟨rfl,rfl⟩) (λp _=>by decide) λgs20 hD dD doD unD gD ltD LD zD _ _ => ?_
   have l19:=k19.len;have l17:g17.length<=g19.length:=Hy #[3] l19
   simp?;refine fh hP ⟨LD,zD⟩ (by simp;omega) ((M17.app.kp k19 n71).app) (aa (k19.get hc17 _ n72 (aa c17))) (eE a19) n71 n72 λg21 k21 a21 => ?_
   have O21:Lo g15.length g15 g21:=(O19.trans Lo.app).trans (k21.lo ())
   have t15:=L15.lt;have L21:=L15.lo O21 t15;have do21:=O21.get _ _ (List.getElem?_eq_some_iff.mp do15).1 do15;have un21:=O21.get _ _ (List.getElem?_eq_some_iff.mp un15).1 un15;have o21:=O21.get _ _ (List.getElem?_eq_some_iff.mp o15).1 o15;have e21:=O21.get mN _ () e15
   let ⟨ed21,tr21,i21⟩:=L21.ins;unfold Ai at i21;simp? [i21];refine uw (N:=H) (qs:=[(0,0)]) hP L21 #[1] ?_ (λp hp=>by rw [List.mem_singleton.mp hp];exact ⟨fc hP,hH _ (fc hP)⟩) #[3] (by simp! [I0,o21]) do21 un21 #[3] ?_ λu22 g22 L22 K22 => ?_
   .intro p hp
    unfold Ov;split
    .exact hi
    .exact hH p hp
   .simp;omega
   rw [xx] at L22;have e22:=K22.get mN _ (by simp;omega) e21
   let ⟨ed22,tr22,i22⟩:=L22.ins;unfold Ai at i22;simp? [i22];refine dw hP L22.at λgs23 n23 ms23 R23 B23 => ?_;have a23:I0 (.ref mN) (g22++gs23)=some (Kd Ab (Af H) (Ac P)):=by simp! [I0,aa (gs:=gs23) e22]
   simp?;refine dq hP a23 hgt λgs24 n24 ms24 R24 B24 => ?_;simp?;refine a9 3 (B9 P H) _ _ _ (lM hP) (dZ R23.app.at) (dZ R24.at) ?_;simp?;refine a9 1 (.int 1000) _ _ _ bL aD aD ?_;simp?
  by_cases hc:H (0,0)=1
  .simp? [gJ hP hH R13,i13,aa i13,d13,id,ev,hc,C5,aj (g:=g12++gs13),dh,eY,Bool.false_eq_true,if_false]
   exact rest2 2 #[1]
  .simp? [gJ hP hH R13,i13,aa i13,d13,id,ev,hc,C5,aj (g:=g12++gs13),dh,eY,Bool.false_eq_true,if_false]
   exact rest2 1 #[1]
 refine aR f2.bag.app.app #[1] #[1] λr g5 _ _ f5 => ?_
 have q5:∀ (k:Nat) (o:O),3<=k->(g2++gs3++gs4)[k]? = some o->g5[k]? = some o:=λk o hk e=>f5.get k o hk e;have b2:=f2.bag.len;have hg3:3<=(g2++gs3).length:=by simp;omega
 have L5:LandZ g5 (g2++gs3).length P H hA dA doA unA gA:=by
  refine LandZ.up (S:=[0,1,2]) ⟨LA,zA⟩ ⟨f5.len,λk o hk e=>q5 k o (by simp at hk;omega) e⟩ λk hk z => ?_
  have hk':(g2++gs3).length<=k:=by
   simp! [List.mem_cons,List.not_mem_nil,or_false] at hk;rcases hk with rfl | rfl | rfl | rfl <;> omega
  simp! [List.mem_cons,List.not_mem_nil,or_false] at z;omega
 have do5:=q5 doA _ () doA4
 have un5:=q5 unA _ () unA4
 have R5:RowsM g5 n3 ms3 P H:=by
  have ge:∀ k∈n3 :: ms3,3<=k:=λk hk=>Hy b2 (B3 k hk);exact ⟨q5 _ _ (ge _ #[3]) (aa R3.1),R3.2.1,λy m e=>q5 _ _ (ge _ (HB _ (List.mem_of_getElem? e))) (aa (R3.2.2.1 y m e)),R3.2.2.2⟩
 have e5:=q5 mN _ () (aa (aa e2))
 simp?;refine ar (λc => ?_) λc => ?_
 .simp?
  refine dm hP (.inr ⟨n3,rfl,R5.at⟩) hH λgs6 hB dB doB unB gB ltB LB zB doB6 unB6 => ?_;simp?;exact rest _ _ hB dB doB unB gB ⟨LB,zB⟩ ltB doB6 unB6 R5.app (aa e5) (Hy #[3] f5.len)
 .simp?
  exact rest _ _ hA dA doA unA gA L5 ltA do5 un5 R5 e5 (HA _)
end
def run(ns:List Int)(h:ns.length<=63):∃ fu g',Aa fns fu 40 51 [.fro #[32]] []=.ok (.bl true) g':=by
 let ⟨fu,u,g',e,q⟩:=zi (law_ok (d:=18) (X:=λ_ _ _=>False) ns);subst q;exact ⟨fu,g',e⟩
end
end Lk32
open PySem PySem.W PyProof.Rows
theorem PySem.Challenge.cw_braemantle_k32_land_rows_and_heights_holds : PySem.Challenge.rw_braemantle_k32_land_rows_and_heights.Holds := by
 refine PI.aai (l:=PySem.Challenge.rw_braemantle_k32_land_rows_and_heights) (T:=Lk32.T) (ms:=Lk32.ms) (is:=Lk32.A3) (fns:=Lk32.fns) (loose:=Lk32.loose) (d:=40) (i:=51) (N:=20000) (x := "_law_script") (by kernel_rfl) Lk32.all (by kernel_rfl) (by kernel_rfl) (by kernel_rfl) (by kernel_rfl) (by kernel_rfl) ⟨rfl,rfl,rfl,rfl,rfl,by decide +kernel⟩ ?hw rfl ⟨rfl,by decide,by decide,rfl⟩ rfl rfl rfl rfl rfl Lk32.run
 case hw=>w_witness2
