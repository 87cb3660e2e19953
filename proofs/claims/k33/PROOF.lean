import PyProof.Rows.All
import KE.KDictOf
import KE.KDictSum
import KE.KEqDict
import KE.KFromBytes
import KE.KIsAll
import KE.KRevSl
import KE.KSortTup
import KE.KUnpack
import PySem.Challenge.RW_braemantle_k33_land_refused
set_option Elab.async false
set_option linter.all false
set_option maxRecDepth 100000
set_option maxHeartbeats 0
set_option hygiene false
set_option bootstrap.genMatcherCode false
set_option genSizeOf false
set_option genSizeOfSpec false
set_option compiler.extract_closed false
set_option backward.eqns.nonrecursive false
abbrev K0(p q:Prop):Prop:=p->q
abbrev KA(a:Prop)(r:Prop->Prop)(q:Prop):Prop:=a->r q
abbrev KE{α:Sort _}(r:α->Prop->Prop)(q:Prop):Prop:=∀x,r x q
class Cur(n:Nat)(p:Prop)(r:outParam (Prop->Prop)):Prop where c:∀{q:Prop},r q->p->q
instance{p:Prop}:Cur 0 p (K0 p):=⟨id⟩
instance{n:Nat}{a b:Prop}{r:Prop->Prop}[i:Cur n b r]:Cur (n+1) (a∧b) (KA a r):=⟨fun f h=>i.c (f h.1) h.2⟩
instance{n:Nat}{α:Sort _}{p:α->Prop}{r:α->Prop->Prop}[i:∀x,Cur n (p x) (r x)]:Cur (n+1) (∃x,p x) (KE r):=⟨fun f ⟨x,h⟩=>(i x).c (f x) h⟩
open Lean in
def r_p:Nat->Syntax->MacroM (TSyntax `rcasesPat)
 |0,_=>Macro.throwUnsupported
 |n+1,x=>do
  if x.isOfKind `Lean.Parser.Term.anonymousCtor then
   let q<-x[1].getSepArgs.mapM fun y=>do let z<-r_p n y;`(Parser.Tactic.rcasesPatLo|$z:rcasesPat)
   `(rcasesPat|⟨$q,*⟩)
  else if x.isIdent then `(rcasesPat|$(⟨x⟩):ident) else if x.isOfKind `Lean.Parser.Term.hole then `(rcasesPat|_) else Macro.throwUnsupported
open Lean in
local macro_rules|`(tactic|let $p:term:=$e)=>do
 if p.raw.isIdent then Macro.throwUnsupported
 let q<-r_p 9 p;`(tactic|obtain $q:rcasesPat:=$e)
open Lean in
def r_k(q:Syntax):Option (NumLit×Array (TSyntax `rintroPat)):=
 let a:=q[1].getSepArgs
 if q.isOfKind `Lean.Parser.Tactic.rcasesPat.tuple&&a.size>1&&a.all (fun x=>x[0][0].getArgs.size==1&&x[1].getArgs.isEmpty) then some (Syntax.mkNumLit (toString (a.size-1)),a.map fun x=>⟨mkNode `Lean.Parser.Tactic.rintroPat.one #[x[0][0][0]]⟩) else none
open Lean in
local macro_rules|`(tactic|rintro $ps*)=>do
 let o<-ps.mapM fun p=>do
  let q:=p.raw[0]
  if q.isOfKind `Lean.Parser.Tactic.rcasesPat.one&&q[0].getId != `rfl then return <-`(tactic|intro $(⟨q[0]⟩):ident)
  let r<-`(tactic|(intro h_;rcases h_ with $(⟨q⟩):rcasesPat))
  match r_k q with
  |some (n,k)=>`(tactic|first|(refine Cur.c (n:=$n) ?_;rintro $k*)|$r:tactic)
  |none=>if p.raw.isOfKind `Lean.Parser.Tactic.rintroPat.one then return r else Macro.throwUnsupported
 `(tactic|($[$o];*))
open Lean in
local macro_rules|`(tactic|obtain $q:rcasesPatMed:=$e:term)=>do
 let q:=q.raw[0][0]
 let r<-`(tactic|rcases $e:term with $(⟨q⟩):rcasesPat)
 match r_k q with
 |some (n,k)=>do
  let c<-if e.raw.isIdent then `(tactic|clear $(⟨e⟩):ident) else `(tactic|skip)
  `(tactic|first|(refine Cur.c (n:=$n) ?_ $e;$c:tactic;rintro $k*)|$r:tactic)
 |none=>return r
local macro_rules|`(tactic|simp! [$xs,*] $[$l:location]?)=>`(tactic|simp only [$xs,*] $[$l]?)
local macro_rules | `(tactic| simp? [$xs,*] $[$l:location]?) => do
  let a ← ("qv nr lU gf gw rK dJ pN oQ qV qU rL rO ka j9 jZ jQ rS k_E rJ rG qb qK kR kT kJ pz rV km kB pL lT pZ qi lB pS oo pQ l0 oS lr qH nI mq nh nJ pC oa nT nk pI j8 lL pY jK k7 nD oY mP oF lW ny oi m9 mf lC nK nt nS pj oj lZ lY qh nY oE lH oW mz nM lK oJ rC rN lQ qg rW kS qL qS qC pK me o9 lx lz oG jL n4 oy j4 j3 my nG nz qy nR kI jS kD kX mQ lE lG ph l7 nW oK mr lV oC mU nU qz mh pJ oz mw mL lg nZ lu jY mv nN pv k8 pH rg qk qW oM rl om nB lX l8 oH lP mH ng mZ ma lO lI ll lD lA nL nP oP qJ qc pA qZ o8 n8 rj pd oZ kA ql rQ pB rA oR qF pV l9 pR nV lN pX rP oN oO qj rD m8 nA n0 nH oB qT qY rB qQ qO qA pP abv abZ wa abe".splitOn " ").toArray.mapM λs => `(Lean.Parser.Tactic.simpLemma| ↓$(Lean.mkIdent s.toName):ident)
  let b ← ("perm pick AD Option.bind_some BM Bw Bb Cd List.lookup_cons List.lookup_nil Nat.reduceBEq List.contains_cons List.contains_nil FL List.getElem?_nil List.getElem?_cons_zero List.getElem?_cons_succ List.length_cons List.length_nil List.set_cons_zero List.set_cons_succ List.map_cons List.map_nil List.replicate_succ List.replicate_zero List.cons_append List.nil_append Nat.zero_add Nat.reduceAdd Nat.reduceSub Nat.reduceLT Nat.reduceLeDiff Nat.reduceEqDiff Nat.lt_add_left_iff_pos JN Ae bindL if_true if_false ite_true ite_false and_true true_and Option.getD_some dR dW n5 kL jH ke qR oX rp qq mV i4 qX rM qP cin rH qD k6 Bool.or_false Bool.or_true Bool.true_or Bool.false_or clt cle cgt cge GP JF items Ci Cj JK Ax lift JJ C2 D1 Cr alloc AR eU Ac pG pU pO pb qe rE Au Cy Option.map_some Int.reduceLT Int.reduceLE Int.reduceNeg Int.reduceEq decide_true decide_false Bool.not_true Bool.not_false Bool.and_true Bool.true_and Bool.and_self decide_eq_true_eq eq_self perm pick".splitOn " ").toArray.mapM λs => `(Lean.Parser.Tactic.simpLemma| $(Lean.mkIdent s.toName):ident)
  let a := a ++ b
  `(tactic| simp only [$[$a:simpLemma],*, $xs,*] $[$l]?)
local macro_rules|`(tactic|simp? only [$x:ident])=>`(tactic|(refine ag (by rfl) (by rfl) ?_;simp only [$x:ident]))|`(tactic|simp?)=>`(tactic|simp? [eq_self])
open Lean in
local macro_rules|`($m:declModifiers def $i:declId $s:optDeclSig $v:declVal)=>do
 unless m.raw.getArgs.all (·.isNone) do Macro.throwUnsupported
 let r<-(if (match i.raw[0].getId with|.str _ n=>(n.toList.headD 'A').isLower&&!("dig place kwOk isStar ownOf freeOf setB mkF endsF lastOf fns ms loose upd frs rNe start sIx ixN atI rPop putK items intsOf keyOf dput dfold neT best insI sortI tupI next bindL pick perm subAt rIxD post tyName allFrom holds wp wpS hk ob plainT tupP small stride ltP dT mid l1 hT".splitOn ).contains n|_=>false) then let z:TSyntax `Lean.Parser.Command.declSig:=⟨mkNode `Lean.Parser.Command.declSig #[s.raw[0],s.raw[1][0]]⟩;`(command|theorem $i:declId $z:declSig $v:declVal) else `(command|noncomputable def $i:declId $s:optDeclSig $v:declVal));return r.raw.rewriteBottomUp (·.setInfo .none)
open Lean in
local macro_rules|`($m:declModifiers abbrev $i:declId $s:optDeclSig $v:declVal)=>do
 unless m.raw.getArgs.all (·.isNone) do Macro.throwUnsupported
 `(command|noncomputable abbrev $i:declId $s:optDeclSig $v:declVal)
open Lean in
local macro_rules|`(fun $xs* => $b)=>do
 let rec h:Nat->Syntax->Bool
  |0,_=>true
  |n+1,x=>x.isOfKind `Lean.Parser.Term.syntheticHole||x.getArgs.any (h n)
 if xs.all (!·.raw.isOfKind `Lean.Parser.Term.anonymousCtor)||h 99 b then Macro.throwUnsupported
 let q<-xs.mapM fun x=>do let z<-r_p 9 x;`(rintroPat|$z:rcasesPat)
 `(by rintro $q*;exact $b)
open Lean in
local macro_rules|`(#[$n:num])=>match n.getNat with|0=>`(PySem.Challenge.rw_braemantle_k33_land_refused.prog.main.body)|1=>`(by decide)|2=>`(by rfl)|3=>`(by simp)|_=>Macro.throwUnsupported
local macro_rules|`(())=>`(by omega)
def b_F{P:Prop}(h:false=true):P:=absurd h Bool.false_ne_true
def n_F{α:Type}{a:α}{P:Prop}(h:(none:Option α)=some a):P:=nomatch h
local macro_rules|`(tactic|cases $h:ident)=>`(tactic|first|exact n_F $h|exact b_F $h|cases ($h))
def Zc:=@Bool.and_eq_true
def Yi:=@List.getElem?_eq_some_iff
def Yk:=@List.length_map
def Yl:=@Iff.rfl
def Yn:=@Option.map_eq_some_iff
def Yo:=@Option.some.injEq
def Yr:=@List.getElem?_eq_getElem
def YG:=@List.map_cons
def Xe:=@List.getElem?_append_left
def Xj:=@List.getElem?_map
def Xl:=@List.mem_cons
def XB:=@List.size_toArray
def XE:=@decide_eq_true_eq
def XN:=@List.getElem?_append_right
def XW:=@if_pos
def Wa:=@List.length_cons
def Wn:=@List.all_eq_true
def Wr:=@List.getElem?_set_ne
def WG:=@List.mem_of_getElem?
def WQ:=@Option.bind_eq_some_iff
def WV:=@if_neg
def W4:=@Bool.not_eq_true'
def W6:=@beq_iff_eq
def W9:=@List.length_append
def W_:=@List.mem_cons_self
def Vc:=@List.lookup_cons
def Ve:=@PySem.wpAny_mono
def Vj:=@Bool.false_eq_true
def Vm:=@Option.some.inj
def Vr:=@List.contains_iff_mem
def Vw:=@Option.map_some
def VC:=@List.append_assoc
def VJ:=@List.any_cons
def VL:=@List.getElem?_set_self
def VQ:=@List.filterMap_cons
def VZ:=@PySem.Heap.get?_update_other
def Ue:=@Bool.or_eq_false_iff
def Ul:=@List.mem_append_right
def Uq:=@List.find?_cons
def Ut:=@PySem.mem_of_lookup
def Uu:=@PySem.wpAny_holding
def Uz:=@List.not_mem_nil
def UE:=@List.mem_singleton
def UQ:=@List.getElem?_eq_none_iff
def UR:=@List.nodup_cons
def U2:=@Nat.le_succ
def U8:=@List.mem_append
def U_:=@Nat.lt_irrefl
def Td:=@if_false
def Tn:=@PySem.wpAny_standAt
def Tt:=@Option.isSome_iff_exists
def Tu:=@List.mem_iff_getElem?
def TF:=@PySem.wpAny_truthy_bool
def TH:=@PySem.sizeLine_eq
def TJ:=@List.append_nil
def TL:=@if_true
def TM:=@List.length_nil
def TV:=@List.mem_append_left
def TY:=@List.length_take
def T3:=@List.getElem?_of_mem
def T8:=@congrArg
def T_:=@PySem.wpAny_newObj_type
def Sa:=@decide_eq_false
def Sb:=@Bool.or_eq_true
def Sd:=@List.length_replicate
def Se:=@Option.bind_some
def Sf:=@Nat.zero_add
def Sg:=@List.getElem?_replicate
def Sh:=@List.flatMap_cons
def Si:=@beq_eq_false_iff_ne
def Sj:=@PyProof.Rows.callWith_type1
def Sk:=@List.mem_map
def Sl:=@Nat.lt_succ_self
def Sm:=@List.drop_length
def Sn:=@List.isEmpty_iff
def So:=@List.mem_filterMap
def Sq:=@Array.getElem?_eq_some_iff
def Sr:=@PySem.Heap.get?_update_self
def Ss:=@PySem.wpAny_passesOwn
def Sv:=@List.map_append
def Sw:=@PySem.Heap.get?_none_of_le
def Sx:=@PySem.codeAny_mono
def Sy:=@PySem.codeAny_call_builtin
def Sz:=@List.nodup_append
def SE:=@PySem.mem_of_lookup
def SF:=@PySem.plainObj_wpAny_Assign_Attribute
def SG:=@or_false
def SR:=@List.cons_append
def SX:=@List.getElem?_cons_succ
def S3:=@Nat.ne_of_gt
def S4:=@PySem.wpAny_call
def S7:=@PySem.wpAny_Call_Name_kw
def S8:=@PySem.W.cellsFrom_some
def S9:=@List.zip_cons_cons
def Ra:=@List.take_of_length_le
def Rb:=@PySem.W.kia_one
def Rc:=@List.reverse_cons
def Rf:=@PySem.wpAny_loadPart_at
def Rg:=@Int.toNat_natCast
def Rh:=@PySem.Heap.size_push
def Ri:=@List.length_eraseIdx
def Rj:=@List.map_nil
def Rk:=@beq_self_eq_true
def Rl:=@Option.isNone_iff_eq_none
def Rm:=@List.drop_eq_getElem_cons
def Rn:=@PySem.wpAny_comprehension_free
def Ro:=@List.foldl_cons
def Rp:=@PySem.tupleKind_room_in1
def Rq:=@List.contains_cons
def Rr:=@PySem.Obj.data_mapFields
def Rt:=@PySem.wpAny_field
def Ru:=@decide_eq_false_iff_not
def Rv:=@List.findIdx?_eq_some_iff_getElem
def Rw:=@List.take_succ
def Rx:=@PyProof.Rows.slot_tuple_getitem
def Ry:=@List.eraseIdxIfInBounds_toArray
def Rz:=@List.eraseIdx_eq_take_drop_succ
def RA:=@Array.getElem?_toList
def RB:=@PySem.Obj.isFreed_of_fields
def RE:=@List.length_drop
def RG:=@List.isEmpty_nil
def RJ:=@List.take_length
def RL:=@List.any_eq_true
def RM:=@List.getElem_mem
def RN:=@PySem.Paired.length
def RP:=@Bool.true_and
def RQ:=@PySem.Calls.evalArgs_plain
def RU:=@Option.ite_none_right_eq_some
def RW:=@Bool.eq_iff_iff
def RX:=@List.of_mem_zip
def RY:=@List.length_set
def RZ:=@PySem.SeqAt.EqAt.same
def R0:=@List.forIn_cons
def R1:=@PySem.MeetsSeq.plain_contains_loop
def R4:=@Array.length_toList
def R5:=@PySem.W.plainGet_of
def R6:=@List.mem_map_of_mem
def R7:=@List.length_reverse
def R8:=@List.flatMap_append
def R9:=@PySem.W.looks_findIn
def R_:=@PySem.Calls.Name_function_global
def Qa:=@PyProof.Rows.assignInOrder_cons
def Qb:=@PySem.wpAny_loadPart
def Qc:=@decide_eq_true
def Qd:=@List.nodup_nil
def Qe:=@PySem.SeqAt.EqAt.of_refs
def Qf:=@PySem.Code.quiet_builtin
def Qg:=@Int.emod_lt_of_pos
def Qh:=@List.isEmpty_eq_false_iff
def Qi:=@PySem.Within.cons
def Qj:=@Option.isSome_map
def Qk:=@Nat.le_of_succ_le
def Ql:=@Nat.lt_succ_of_lt
def Qm:=@List.all_cons
def Qn:=@Bool.not_true
def Qo:=@PySem.wpAny_lookBehind
def Qp:=@PySem.pastItsLine_dict
def Qq:=@Option.getD_none
def Qr:=@List.eraseIdx_cons_succ
def Qs:=@List.length_eq_zero_iff
def Qt:=@PySem.F.plainAttrs_list
def Qu:=@Nat.add_sub_cancel_left
def Qv:=@Bool.not_eq_true
def Qw:=@List.mem_flatMap
def Qx:=@Nat.le_of_lt
def Qy:=@Nat.le_of_eq
def Qz:=@List.range_succ_eq_map
def QA:=@List.filter_eq_nil_iff
def QC:=@Option.map_eq_none_iff
def QD:=@Nat.add_comm
def QE:=@List.drop_eq_nil_of_le
def QG:=@Nat.lt_or_ge
def QH:=@PySem.wpAny_execs_nil
def QJ:=@List.nil_append
def QK:=@Int.emod_nonneg
def QM:=@Sum.inr.inj
def QN:=@Bool.false_and
def QP:=@PySem.wpAny_cRoomFor
def QQ:=@PySem.W.looks_mroIn
def QR:=@PySem.wpAny_setField
def QS:=@Bool.false_or
def QT:=@Bool.and_self
def QU:=@PySem.call_meets
def QV:=@Nat.lt_trans
def QW:=@List.map_map
def QX:=@Bool.or_true
def QY:=@Nat.sub_zero
def QZ:=@eq_self
def H9:=@PySem.Heap.get?_push_of_some
def Ia:=@PySem.Heap.lt_size
def Ib:=@Nat.le_trans
def Ic:=@Bool.false_ne_true
def Ie:=@Nat.le_refl
def Ig:=@List.mem_cons_of_mem
def Ih:=@Nat.lt_of_lt_of_le
def Ii:=@Nat.ne_of_lt
def Ij:=@PySem.Heap.get?_push_size
def Ik:=@of_decide_eq_true
abbrev Il:=PySem.W.Frag
def ZB:=@PySem.wpAny_bind
def ZP:=@PySem.wpAny_pure
set_option bootstrap.genMatcherCode false
variable{K:Il}{J ZU ch fp:List PySem.Addr}{x name:PySem.Str}{a fI ea:PySem.Addr}{b:Bool}{P prog:PySem.Program}{w:PySem.World}{h h' base:PySem.Heap}{α β:Type}{e tg iter:PySem.Expr}{Y:List (PySem.Addr×PySem.Obj)}{s s':PySem.Shared}{t' i j n m d x1 fu:Nat}{N ps:List PySem.Str}{Z8:PySem.Model}{A:PySem.Around}{pos p apos p2 Zw:PySem.Pos}{ZV gens:List PySem.Comprehension}{D:List (List Int×PySem.Addr)}{f:PySem.Value->PySem.Value->PySem.Sem PySem.Value}{st:PyProof.Rows.SortSt}{es elts ts:List PySem.Expr}{pl:PySem.Sem Bool}{body:List PySem.Stmt}{κ:PyProof.Rows.SortKind}{ZY bm YQ sub:List PySem.Value}{dx dd:Option PySem.Addr}{kw:List (PySem.Str×PySem.Value)}{env:PySem.Env}{mg:PySem.Str->Option PySem.Value}{outer:List PySem.Env}{fd:PySem.FuncData}{kws:List PySem.Keyword}{sc scope:PySem.Scope}{a₀:Array PyProof.Rows.Keyed}{rk:PyProof.Rows.Keyed->Nat}{as:List (PySem.Str×Bool)}{gc:PySem.Comprehension}{cells cl:List (PySem.Str×PySem.Addr)}{names:List (PySem.Str×PySem.NameKind)}{Zu:List Nat}{Ex E':PySem.Value->PySem.Shared->Prop}{oe:PySem.Obj}{col:Option Bool}{newId:String}
namespace Att
end Att
namespace HT
end HT
namespace L2
end L2
namespace ZC
end ZC
namespace PI
end PI
namespace PI
noncomputable section
open PySem
noncomputable section
inductive U where
 |ZR|bl (b:Bool)|int (i:Int)|str (s:Str)|ZZ (xs:List U)|Zv (xs:List U)|ref (n:Nat)|xn (c:Nat) (fs:List U)
inductive Op where|add|sub|mul|fdiv|mod|pow
inductive Cp where|eq|ne|lt|le|gt|ge|WN|U7|W2|YK
inductive Bi where|len|abs|list|mn|mx|srt|sum|tupl|cat|sset|dct|rpr|int
set_option genInjectivity false in
inductive Ty where|V_|V9|U6|U5|U4|own (c:Nat)
set_option genInjectivity false in
inductive Tg where|nm (i:Nat)|tp (is:List Nat)
set_option genInjectivity false in
inductive E where
 |O (i:Nat)|Z0 (u:U)
 |ZT (op:Op) (a b:E)|cmp (op:Cp) (a b:E)|chain (op Y7:Cp) (a b c:E)
 |and (a b:E)|or (a b:E)|not (a:E)|neg (a:E)
 |ZZ (es:List E)|S (es:List E)
 |idx (a b:E)|Xy (a:E) (lo hi:Option E)|rev (a:E)
 |call (f:Nat) (es:List E)
 |fld (a:E) (j:Nat) (cs:List Nat)|make (c f:Nat) (es ks:List E) (pm:List (Nat ⊕ U))|Xx (a:E) (j:Nat) (tb:List (Nat×Nat×List (Nat ⊕ U))) (es ks:List E)|VB (op:Cp) (tb:List (Nat×Nat×List (Nat ⊕ U))) (a b:E)
 |bi (b:Bi) (es:List E)
 |Y1 (a:E) (t:Ty)
 |app (o v:E)|ext (o v:E)|pop (o:E)|V8 (o v:E)
 |YT (a:E)|VA (a b:E)|Y0 (a:E)|zip (a b:E)|WM
 |comp (own:Nat) (fr:List Nat) (gs:List (Tg×E×List E)) (elt:E)
 |pair (k v:E)|WL (own:Nat) (fr:List Nat) (gs:List (Tg×E×List E)) (k v:E)
set_option genInjectivity false in
inductive Z5 where
 |ret (e:E)|set (t:Tg) (e:E)|par (i j:Nat) (a b:E)
 |sub (o i e:E)
 |exp (e:E)|Zs (c:E) (a b:List Z5)|U3 (c:E) (b:List Z5)|for (t:Tg) (it:E) (b:List Z5)
 |never|fset (a:E) (j:Nat) (cs:List Nat) (e:E)
 |ZE (b:List Z5)|Wv (c:E) (a b:List Z5)|Wu (t:Tg) (it:E) (b:List Z5)|raise (c:Nat) (es:List E)|Vz (b:List Z5) (j:Nat) (hs:List (Nat×Nat×List (Nat ⊕ U)))
structure Fn where
 np:Nat
 ns:Nat
 body:List Z5
end
open PySem PySem.Spec PyProof.Rows L2
section
variable{Vy:List Addr}{H H' Yp:Hp}{g:G}
def dig:Nat->Nat->List Nat
 |0,_=>[]
 |f+1,n=>if n=0 then[]else n % 128::dig f (n / 128)
def Bc:Nat:=128 ^ 64
def Ag(n:Nat):Str:=⟨(dig 64 n).toArray⟩
end
open PySem PySem.Spec PyProof.Rows L2 PySem.W
def Cs(names:List Str):List Str->Bool
 |[]=>true
 |k::r=>!names.contains k&&Cs (names++[k]) r
def place{a:Type}(ns ks kw:List Str)(dd:List (Str×a))(M ws:List a):List a:=(ns++ks).filterMap λn=>(ns.zip M++(kw.zip ws++dd)).lookup n
set_option genInjectivity false in
structure KF where
 ns:List Str
 ks:List Str
 dd:List (Str×U)
def AU(F:KF)(a:Nat)(kw:List Str):List (Nat ⊕ U):=place F.ns F.ks kw (F.dd.map λp=>(p.1,.inr p.2)) ((List.range' 0 a).map .inl) ((List.range' a kw.length).map .inl)
def Bv(F:KF)(b a:Nat)(kw:List Str):Bool:=decide (a<=F.ns.length)&&kw.all (λk=>F.ns.contains k||F.ks.contains k)&&Cs (F.ns.take a) kw&&(F.ns.take (F.ns.length-b)).all λn=>(F.ns.take a++kw).contains n
def Aw(kws:List Keyword):List Str:=kws.filterMap (·.arg)
def kwOk(kws:List Keyword):Bool:=kws.all (·.arg.isSome)
open PySem PySem.Spec PyProof.Rows L2
set_option genInjectivity false in
structure Tab where
 L:List Str
 cs:List (Str×U)
 bt:List Str
 kf:List (Str×Nat×KF×Nat)
 cl:List (Str×Nat×Nat×KF×Nat)
 mt:List (Str×List (Nat×Nat×KF×Nat))
 fl:List (Str×List Nat)
 ow:List (Str×Nat)
 oq:List Str
 fs:List Str
 xc:List (Str×List Str×List (Str×Bool))
 fx:List Nat
def AG(N:List Str)(x:Str):Option Nat:=N.findIdx? (· == x)
def EE:Operator->Option Op
 |.Add=>some .add|.Sub=>some .sub|.Mult=>some .mul|.FloorDiv=>some .fdiv|.Mod=>some .mod|.Pow=>some .pow|_=>none
def Ca:CmpOp->Option Cp
 |.Eq=>some .eq|.NotEq=>some .ne|.Lt=>some .lt|.LtE=>some .le|.Gt=>some .gt|.GtE=>some .ge|.Is=>some .WN|.IsNot=>some .U7|.In=>some .W2|.NotIn=>some .YK
def isStar:Expr->Bool
 |.Starred ..=>true
 |_=>false
def Cu:Expr->Bool
 |.Set ..=>true
 |_=>false
def BY:Expr->Bool
 |.ListComp ..=>true|.SetComp ..=>true|.DictComp ..=>true|_=>false
def BX:Expr->Bool
 |.Call _ es _ _=>es.isEmpty
 |_=>false
def B4:Expr->Bool
 |.Tuple ..=>true|_=>false
def Cm:Expr->Bool
 |.Slice ..=>true|_=>false
def DH(x:Str):Option Ty:=if x = "int" then some .V_ else if x = "bool" then some .V9 else if x = "str" then some .U6 else if x = "tuple" then some .U5 else if x = "list" then some .U4 else none
def AE(x:Str):Bool:=!(x==("__debug__" : Str))&&!(x==("__classdict__" : Str))&&!(x==("__name__" : Str))
def Ab{b:Type}:List (Option b)->Option (List b)
 |[]=>some []
 |none::_=>none
 |some a::r=>(Ab r).map (a :: ·)
def CY:E->Bool
 |.YT _=>false|.VA _ _=>false|.Y0 _=>false|.zip _ _=>false|_=>true
def BL(b:Bool)(a:Scope)(x:Str):Bool:=a.names.lookup x==some .local||(b&&a.names.lookup x==some .cell)
def Bd(b:Bool)(a:Scope)(N:List Str)(x:Str):Option Nat:=if BL b a x then AG N x else none
def B0(b:Bool)(a:Scope)(N:List Str)(e:Expr):Option Nat:=match e with
 |.Name x _=>Bd b a N x
 |_=>none
def A3(b:Bool)(a:Scope)(N:List Str):Expr->Option Tg
 |.Name x _=>(Bd b a N x).map .nm
 |.Tuple ts _ _=>(Ab (ts.map (B0 b a N))).map .tp
 |_=>none
def Im{a:Type}(c:Bool)(x:Option a):Option a:=match c with
 |true=>x
 |false=>none
def Io(e:Expr):Option Str:=match e with
 |.Name x _=>some x
 |_=>none
def BZ(e:Expr):Option (Str×List Expr):=match e with
 |.Call f es kws _=>match kws with
  |[]=>(Io f).map λn=>(n,es)
  |_::_=>none
 |_=>none
def Ce(c:Expr->Option E)(k:E->E)(b:List Expr):Option E:=match b with
 |[]=>none
 |a::b=>match b with
  |[]=>(c a).map k
  |_::_=>none
def GW(d:Expr->Option E)(k:E->E->E)(c:List Expr):Option E:=match c with
 |[]=>none
 |a::c=>match c with
  |[]=>none
  |b::c=>match c with
   |[]=>(d a).bind λa'=>(d b).map (k a')
   |_::_=>none
def AB{a:Type}(l:List a):Bool:=match l with
 |[]=>true
 |_::_=>false
def Hq(f:Expr->Option E)(a:List Expr):Option E:=match a with
 |[]=>none
 |_::r=>match AB r with
  |true=>Ce f .YT a
  |false=>none
def Ip(f:Expr->Option E)(e:Expr):Option E:=Im (!Cu e) ((f e).bind λe'=>Im (CY e') (some e'))
def C8(T:Tab)(a:Scope)(f:Expr->Option E)(e:Expr):Option E:=match BZ e with
 |some c=>if c.1 = "range" then Im (T.bt.contains c.1&&(a.names.lookup c.1==some .globalImplicit)&&!c.2.any isStar) (Hq f c.2)else Ip f e
 |none=>Ip f e
def B1(T:Tab)(a:Scope)(f:Expr->Option E)(b e:Expr):Option E:=match BZ e with
 |some c=>if c.1 = "enumerate" then Im (T.bt.contains c.1&&(a.names.lookup c.1==some .globalImplicit)&&!c.2.any isStar&&B4 b) (Ce f .Y0 c.2)else if c.1 = "zip" then Im (T.bt.contains c.1&&(a.names.lookup c.1==some .globalImplicit)&&!c.2.any isStar&&B4 b) (GW f .zip c.2)else C8 T a f e
 |none=>C8 T a f e
def Ba(scope a:Scope):Scope:={scope with names:=scope.names.map λ(n,k)=>if(k==.free&&a.kind==.function&&a.names.lookup n==some .cell)then(n,.cell)else(n,k)}
def G1:Expr->List Str
 |.Name x _=>[x]
 |.Tuple ts _ _=>ts.filterMap fun|.Name x _=>some x|_=>none
 |_=>[]
def ownOf(gs:List Comprehension):List Str:=(gs.map λg=>G1 g.target).flatten
def freeOf(scope:Scope):List Str:=(scope.names.filter λx=>x.2==.free).map (·.1)
def DM(scope a:Scope)(own fr:List Str):Bool:=
 (scope.kind==.function)&&(scope.names.all λx=>x.2 != .local||scope.names.lookup x.1==some .local)&&(scope.names.all λx=>x.2 != .cell||scope.names.lookup x.1==some .cell)&&(scope.names.all λx=>x.2 != .free||a.names.lookup x.1==some .cell)
  && (own.all λx=>scope.names.lookup x==some .local||scope.names.lookup x==some .cell)&&decide ((own++fr).Nodup)&&(fr.all λx=>scope.names.lookup x==some .free)
def DZ(T:Tab)(a:Scope)(N:List Str)(f:Expr->Option E):List Comprehension->Option (List (Tg×E×List E))
 |[]=>some []
 |g::r=>Im (g.is_async==0) ((A3 false a N g.target).bind λt=>(B1 T a f g.target g.iter).bind λit=>(Ab (g.ifs.map f)).bind λcs=>(DZ T a N f r).map λr'=>(t,it,cs)::r')
def A7(f:Str):Nat:=f.cps.toList.foldr (λd n=>d+128*n) 0
def BG(f:Str):Bool:=decide (Ag (A7 f)=f)&&decide (A7 f<Bc)
def CF(T:Tab)(c:Scope)(b:Expr->Option E)(f:Str)(a:List Expr)(kws:List Keyword):Option E:=Im (AE f&&!a.any isStar&&(c.names.lookup f==some .globalImplicit)&&kwOk kws)
  ((Ab (a.map b)).bind λZI=>(Ab (kws.map λk=>b k.value)).bind λYJ=>match T.kf.lookup f with
   |some _=>none
   |none=>(T.cl.lookup f).bind λq=>Im (Bv q.2.2.1 q.2.2.2 (a.length+1) (Aw kws)) (some (.make q.1 q.2.1 ZI YJ (AU q.2.2.1 (a.length+1) (Aw kws)))))
def De(T:Tab)(b:Expr->Option E)(o':E)(m:Str)(d c:Pos)(a:List Expr)(kws:List Keyword):Option E:=Im (BG m&&!a.any isStar&&kwOk kws&&decide (a.length+kws.length+1<30)&&(d.endLine==c.line))
  ((Ab (a.map b)).bind λZI=>(Ab (kws.map λk=>b k.value)).bind λYJ=>(T.mt.lookup m).bind λl =>
   Im (l.all (λe=>Bv e.2.2.1 e.2.2.2 (a.length+1) (Aw kws))) (some (.Xx o' (A7 m) (l.map λe=>(e.1,e.2.1,AU e.2.2.1 (a.length+1) (Aw kws))) ZI YJ)))
def Fx(f:Str)(n:Nat)(a:Str->Option Bi):Option Bi:=
 a f
def Iq(f:Str):Option Bi:=
 if f = "len" then some .len else
 if f = "abs" then some .abs else
 if f = "list" then some .list else
 none
def Fv(T:Tab)(a:Scope)(N:List Str)(x:Str):Option E:=Im (AE x) ((a.names.lookup x).bind λk=>match k with
 |.local=>(AG N x).map .O
 |.cell=>(AG N x).map .O
 |.free=>(AG N x).map .O
 |.globalImplicit=>(T.cs.lookup x).map .Z0
 |_=>none)
def Gf(v:Const):Option E:=match v with
 |.int i=>some (.Z0 (.int i))
 |.bool b=>some (.Z0 (.bl b))
 |.none=>some (.Z0 .ZR)
 |.str s=>some (.Z0 (.str s))
 |_=>none
section
variable(T:Tab)(sc:Scope)(ce:Expr->Option E)
def HG(o:Operator)(a b:Expr):Option E:=(EE o).bind λo'=>(ce a).bind λa'=>(ce b).map (.ZT o' a')
def Fs(a:Expr)(o:CmpOp)(b:Expr):Option E:=Im (!Cu b) ((Ca o).bind λo'=>(ce a).bind λa'=>(ce b).map (.cmp o' a'))
def FE(a:Expr)(o q:CmpOp)(b c:Expr):Option E:=Im (!Cu c) ((Ca o).bind λo'=>(Ca q).bind λd=>(ce a).bind λa'=>(ce b).bind λb'=>(ce c).map (.chain o' d a' b'))
def En(a:Expr)(d:List CmpOp)(bs:List Expr):Option E:=match d with
 |[]=>none
 |o::d=>match bs with
  |[]=>none
  |b::bs=>match d with
   |[]=>Im (AB bs) (Fs ce a o b)
   |q::d=>match bs with
    |[]=>none
    |c::bs=>Im (AB d&&AB bs) (FE ce a o q b c)
def Gs(o:BoolOp)(c:List Expr)(pos:Pos):Option E:=match c with
 |[]=>none
 |a::c=>match c with
  |[]=>ce a
  |b::ZV=>match o with
   |.And=>(ce a).bind λa'=>(ce (.BoolOp .And (b::ZV) pos)).map (.and a')
   |.Or=>(ce a).bind λa'=>(ce (.BoolOp .Or (b::ZV) pos)).map (.or a')
def Ir(o:UnaryOp)(a:Expr):Option E:=match o with
 |.Not=>(ce a).map .not
 |.USub=>(ce a).map .neg
 |_=>none
def GL(k:List E->E)(a:List Expr):Option E:=Im (!a.any isStar) ((Ab (a.map ce)).map k)
def GG(e:Expr):Bool:=match e with
 |.UnaryOp o a _=>match o with
  |.USub=>match a with
   |.Constant v _ _=>match v with
    |.int i=>i==1
    |_=>false
   |_=>false
  |_=>false
 |_=>false
def Em(a:Option Expr):Option (Option E):=match a with
 |none=>some none
 |some l=>(ce l).map some
def Dz{a:Type}(o:Option a):Bool:=match o with
 |none=>true
 |some _=>false
def Iu(a s:Expr):Option E:=match s with
 |.Slice lo hi st _=>match st with
  |none=>(ce a).bind λa'=>(Em ce lo).bind λb=>(Em ce hi).map (.Xy a' b)
  |some st=>Im (Dz lo&&Dz hi&&GG st) ((ce a).map .rev)
 |_=>none
def Eg(a s:Expr):Option E:=match Cm s with
 |true=>Iu ce a s
 |false=>(ce a).bind λa'=>(ce s).map (.idx a')
def Hx(a t:Expr):Option E:=(Io t).bind λtn=>(DH tn).bind λt=>(ce a).bind λa'=>Im (T.bt.contains tn&&(sc.names.lookup tn==some .globalImplicit)) (some (.Y1 a' t))
def Hh(a t:Expr):Option E:=(Io t).bind λtn=>match T.ow.lookup tn with
 |some c=>(ce a).bind λa'=>Im (AE tn&&(sc.names.lookup tn==some .globalImplicit)) (some (.Y1 a' (.own c)))
 |none=>Hx T sc ce a t
def Gd(b:List Expr):Option E:=match b with
 |[]=>none
 |a::b=>match b with
  |[]=>none
  |t::b=>Im (AB b) (Hh T sc ce a t)
def Iv(f:Str)(a:List Expr):Option E:=(Fx f a.length Iq).bind λb=>Im (!AB a) ((Ab (a.map ce)).map (.bi b))
def Dx(T:Tab)(c:Scope)(b:Expr->Option E)(f:Str)(a:List Expr):Option E:=
 if f = "isinstance" then Gd T c b a else
 Iv b f a
def Gu(f:Str)(a:List Expr):Option E:=Im (AE f&&!a.any isStar&&(sc.names.lookup f==some .globalImplicit)) (match AG T.L f with
 |some i=>(Ab (a.map ce)).map (.call i)
 |none=>match T.bt.contains f with
  |true=>Dx T sc ce f a
  |false=>CF T sc ce f a [])
def Iw(o':E)(m:Str)(d c:Pos)(b:List Expr):Option E:=
 if m = "append" then Ce ce (.app o') b else
 if m = "extend" then Ce ce (.ext o') b else
 if m = "pop" then(match b with
  |[]=>some (.pop o')
  |a::b=>Ce ce (.V8 o') (a::b))else
 De T ce o' m d c b []
def Ho(o:Expr)(m:Str)(c b:Pos)(a:List Expr)(kws:List Keyword):Option E:=Im (!BX o) ((ce o).bind λo'=>match kws with
 |[]=>Im (c.endLine==b.line&&!a.any isStar) (Iw T ce o' m c b a)
 |k::kws=>De T ce o' m c b a (k::kws))
def FV(fn:Expr)(a:List Expr)(kws:List Keyword)(b:Pos):Option E:=match fn with
 |.Name f _=>match kws with
  |[]=>Gu T sc ce f a
  |k::kws=>CF T sc ce f a (k::kws)
 |.Attribute o m ap=>Ho T ce o m ap b a kws
 |_=>none
def HI(o:Expr)(f:Str):Option E:=(T.fl.lookup f).bind λcs=>(ce o).bind λo'=>Im (BG f&&!BX o) (some (.fld o' (A7 f) cs))
def GY(b:Expr->Option E)(a:List (Option Expr))(vs:List Expr):Option E:=match a with
 |[]=>Im (AB vs) (some .WM)
 |_::_=>none
def D7(N:List Str)(b:Expr->Option E)(g:Comprehension)(a:List Comprehension)(scope:Scope):Option (List Nat×List (Tg×E×List E)):=
 Im (DM scope sc (ownOf (g :: a)) (freeOf scope) && (g.is_async == 0)) ((B1 T sc ce g.target g.iter).bind λZz=>(A3 true scope (ownOf (g :: a)++freeOf scope) g.target).bind λt=>(Ab (g.ifs.map b)).bind λcs =>
  (DZ T (Ba scope sc) (ownOf (g::a)++freeOf scope) b a).bind λZD=>(Ab ((freeOf scope).map (AG N))).map λZu=>(Zu,(t,Zz,cs)::ZD))
end
def Et(T:Tab)(a:Expr):Bool:=match a with
 |.Name x _=>T.oq.contains x
 |_=>false
def HV(o:Cp):Bool:=match o with
 |.eq=>true
 |.ne=>true
 |.W2=>true
 |_=>false
def HM(T:Tab)(c:Expr->Option E)(a:Expr)(o:CmpOp)(b:Expr):Option E:=(Ca o).bind λop=>(T.mt.lookup ("__eq__" : Str)).bind λl=>(c a).bind λa'=>(c b).bind λb'=>
 Im (!Cu b&&HV op&&l.all λe=>Bv e.2.2.1 e.2.2.2 2 []&&T.ow.any λp=>p.2==e.1) (some (.VB op (l.map λe=>(e.1,e.2.1,AU e.2.2.1 2 [])) a' b'))
def Iy(T:Tab)(d:Expr->Option E)(a:Expr)(c:List CmpOp)(bs:List Expr):Option E:=match c with
 |[]=>none
 |o::c=>match bs with
  |[]=>none
  |b::bs=>Im (AB c&&AB bs) (HM T d a o b)
def Ad(T:Tab)(c:Scope)(N:List Str):Nat->Expr->Option E
 |0,_=>none
 |n+1,e=>match e with
  |.Name x _=>Fv T c N x
  |.Constant v _ _=>Gf v
  |.BinOp a o b _=>HG (Ad T c N n) o a b
  |.Compare a os bs _=>match Et T a with
   |true=>Iy T (Ad T c N n) a os bs
   |false=>En (Ad T c N n) a os bs
  |.BoolOp o es pos=>Gs (Ad T c N n) o es pos
  |.UnaryOp o a _=>Ir (Ad T c N n) o a
  |.Tuple es _ _=>GL (Ad T c N n) .ZZ es
  |.List es _=>GL (Ad T c N n) .S es
  |.Subscript a s _=>Eg (Ad T c N n) a s
  |.Call fn es kws cp=>FV T c (Ad T c N n) fn es kws cp
  |.Attribute o f _=>HI T (Ad T c N n) o f
  |.Dict keys vs _=>GY (Ad T c N n) keys vs
  |.ListComp elt gs scope _=>match gs with
   |[]=>none
   |g::ZV=>(D7 T c (Ad T c N n) N (Ad T (Ba scope c) (ownOf (g::ZV)++freeOf scope) n) g ZV scope).bind λq=>(Ad T (Ba scope c) (ownOf (g::ZV)++freeOf scope) n elt).map (.comp (ownOf (g::ZV)).length q.1 q.2)
  |.DictComp h d gs scope _=>match gs with
   |[]=>none
   |g::ZV=>(D7 T c (Ad T c N n) N (Ad T (Ba scope c) (ownOf (g::ZV)++freeOf scope) n) g ZV scope).bind λq=>
    (Ad T (Ba scope c) (ownOf (g::ZV)++freeOf scope) n h).bind λk'=>(Ad T (Ba scope c) (ownOf (g::ZV)++freeOf scope) n d).map (.WL (ownOf (g::ZV)).length q.1 q.2 k')
  |_=>none
def CB(c:Scope)(x y:Str)(e d:Pos)(a b:Expr):Bool:=
 (c.names.lookup x==some .local)&&(c.names.lookup y==some .local)&&!(x==y)&&(d.line==e.line)&&!isStar a&&!isStar b&&!(foldedForSure 8 a&&foldedForSure 8 b)&&!(constantsAlone 8 a&&constantsAlone 8 b)
def Ed(a:Scope)(x:Str)(b:Pos)(scope:Scope)(p:Pos):Bool:=(a.names.lookup x==some .local)&&(b.line==p.line)&&!(scope.names.any λ(n,k)=>n==x&&(k==.local||k==.cell))
def DX{c:Type}(l:List c):Option (c×c):=match l with
 |[]=>none
 |a::l=>match l with
  |[]=>none
  |b::l=>match l with
   |[]=>some (a,b)
   |_::_=>none
def Iz(e:Expr):Option (Str×Pos):=match e with
 |.Name x p=>some (x,p)
 |_=>none
def Gi(e:Expr):Option (List Expr×Nat×Pos):=match e with
 |.Tuple es k p=>some (es,k,p)
 |_=>none
def CV(T:Tab)(d:Scope)(N:List Str)(b:Expr->Option E)(c:List Expr)(g:Nat)(f:Pos)(e:Expr):Option Z5:=
 (Gi e).bind λq=>(DX c).bind λt=>(Iz t.1).bind λx=>(Iz t.2).bind λy=>(DX q.1).bind λa=>match CB d x.1 y.1 x.2 y.2 a.1 a.2 with
  |true=>(AG N x.1).bind λi=>(AG N y.1).bind λj=>(b a.1).bind λa'=>(b a.2).map (.par i j a')
  |false=>Im (foldedForSure 8 a.1&&foldedForSure 8 a.2) ((A3 true d N (.Tuple c g f)).bind λt=>(b e).map (.set t))
def IB(e:Expr):Option (Scope×Pos):=match e with
 |.ListComp _ gs scope p=>match gs with
  |[]=>none
  |_::_=>some (scope,p)
 |_=>none
def Ff(a:Scope)(N:List Str)(c:Expr->Option E)(x:Str)(b:Pos)(e:Expr):Option Z5:=Im (match IB e with
 |some q=>Ed a x b q.1 q.2
 |none=>!BY e) ((Bd true a N x).bind λi=>(c e).map (.set (.nm i)))
def Hg(T:Tab)(a:Expr->Option E)(o:Expr)(f:Str)(e:Expr):Option Z5:=(Iz o).bind λ_=>(T.fl.lookup f).bind λcs=>(a o).bind λo'=>(a e).bind λe'=>Im (BG f) (some (.fset o' (A7 f) cs e'))
def Fb(T:Tab)(b:Scope)(N:List Str)(a:Expr->Option E)(t e:Expr):Option Z5:=match t with
 |.Name x c=>Ff b N a x c e
 |.Tuple ts k p=>match B4 e with
  |true=>CV T b N a ts k p e
  |false=>(A3 true b N (.Tuple ts k p)).bind λt=>(a e).map (.set t)
 |.Subscript o i _=>Im (!Cm i&&!BY e) ((a o).bind λo'=>(a i).bind λd=>(a e).map (.sub o' d))
 |.Attribute o f _=>Hg T a o f e
 |_=>none
def A4(T:Tab)(d:Scope)(N:List Str):Nat->Stmt->Option Z5
 |0,_=>none
 |n+1,st=>match st with
  |.Return o _=>match o with
   |none=>none
   |some e=>(Ad T d N n e).map .ret
  |.Assign ts e _=>match ts with
   |[]=>none
   |t::r=>Im (AB r) (Fb T d N (Ad T d N n) t e)
  |.Expr e _=>Im (!BY e) ((Ad T d N n e).map .exp)
  |.If c a b _=>(Ad T d N n c).bind λc'=>(Ab (a.map (A4 T d N n))).bind λa'=>(Ab (b.map (A4 T d N n))).map (.Zs c' a')
  |.While c b o _=>Im (AB o) ((Ad T d N n c).bind λc'=>(Ab (b.map (A4 T d N n))).map (.U3 c'))
  |.For tg it b o _=>Im (AB o) ((A3 true d N tg).bind λt=>(B1 T d (Ad T d N n) tg it).bind λZz=>(Ab (b.map (A4 T d N n))).map (.for t Zz))
  |.Raise _ _ _=>some .never
  |_=>none
open PySem PySem.Spec PySem.Calls PyProof.Rows L2 PySem.W PySem.Builtin PySem.Builtin.ObjectAttr
def D0:List (List Value):=[[.type "ZeroDivisionError",.type "ArithmeticError",.type "Exception",.type "BaseException",.type "object"],[.type "ValueError",.type "Exception",.type "BaseException",.type "object"],[.type "LookupError",.type "Exception",.type "BaseException",.type "object"],[.type "IndexError",.type "LookupError",.type "Exception",.type "BaseException",.type "object"]]
def AV:List Value->Bool
 |.ref _::r=>AV r
 |l=>D0.contains l
def Cw(K:Frag)(C:Addr):Bool:=(clsIn K C).any λa=>AV a.mro&&a.mro.contains (.type "object")&&!a.mro.isEmpty
open PySem PySem.Spec PySem.Calls PyProof.Rows L2 PySem.W
section
variable{X:Cx}
abbrev IA:=(Str×Str)×(Pos×Pos×Pos×Pos)
end
open PySem PySem.Spec PyProof.Rows L2 PySem.W
def C4(f:Str):List Str->Option Nat
 |[]=>none
 |g::r=>match f==g with
  |true=>some 0
  |false=>(C4 f r).map (· + 1)
noncomputable def glob(a:Scope)(x:Str):Bool:=a.names.lookup x==some .globalImplicit
def Es(a:List Expr):Option (Expr×Expr):=match a with
 |[]=>none
 |y::a=>match a with
  |[]=>none
  |z::a=>match a with
   |[]=>some (y,z)
   |_::_=>none
def Gc(e:Expr):Option (Expr×Expr):=match e with
 |.Tuple ts _ _=>Es ts
 |_=>none
def IC(c:Scope)(as:List (Str×Bool))(b:Expr):Option (Nat ⊕ U):=match Io b with
 |some y=>Im (glob c y) ((as.lookup y).map λb=>.inr (.bl b))
 |none=>(Gc b).bind λq=>(Io q.1).bind λy=>(Io q.2).bind λz=>Im (glob c y&&glob c z) ((as.lookup y).bind λa=>(as.lookup z).map λb=>.inr (.bl (a||b)))
def CG(d:List Str)(b:Scope)(n:Str)(fo:List Str)(as:List (Str×Bool))(e:Expr):Option (Nat ⊕ U):=match e with
 |.Constant c _ _=>match c with
  |.str s=>some (.inr (.str s))
  |_=>none
 |.Attribute o f _=>(Io o).bind λa=>Im (decide (a=n)) ((C4 f fo).map .inl)
 |.Call f es ks _=>match ks with
  |[]=>(Io f).bind λf=>(Es es).bind λq=>(Io q.1).bind λa=>Im (decide (f = "isinstance")&&decide (a=n)&&d.contains f&&glob b f) (IC b as q.2)
  |_::_=>none
 |_=>none
def D5(T:Tab)(x:Str):Option Nat:=T.xc.findIdx? (·.1==x)
def Cv{b:Type}(l:List b):Option b:=match l with
 |[]=>none
 |a::r=>Im (AB r) (some a)
def DY(s:Stmt):Option (List Expr×Expr):=match s with
 |.Assign ts v _=>some (ts,v)
 |_=>none
def EG(a:List Stmt):Option (Str×Expr):=(Cv a).bind λs=>(DY s).bind λq=>(Cv q.1).bind λt=>(Io t).map λx=>(x,q.2)
def DS(h:ExceptHandler):Option (Str×Str×List Stmt):=match h with
 |.ExceptHandler c n b _=>c.bind λc=>(Io c).bind λc=>n.map λn=>(c,n,b)
def Gv(e:Expr):Option (List Expr):=match e with
 |.Tuple vs _ _=>some vs
 |_=>none
section
variable(T:Tab)(sc:Scope)(N:List Str)(ce:Expr->Option E)(cs:Stmt->Option Z5)
def ID(c:Str×List Expr):Option Z5:=match c.2 with
 |[]=>none
 |a::es=>Im (AE c.1&&glob sc c.1&&!(a::es).any isStar) ((D5 T c.1).bind λk=>(Ab ((a::es).map ce)).map λZI=>.raise k ZI)
def D4(n b:Str)(h:ExceptHandler):Option (Str×Nat×Nat×List (Nat ⊕ U)):=(DS h).bind λh=>(EG h.2.2).bind λp=>(Gv p.2).bind λvals=>Im (decide (h.2.1=n)&&decide (p.1=b)&&AE h.1&&glob sc h.1) ((D5 T h.1).bind λa=>T.xc[a]?.bind λq=>(Ab (vals.map (CG T.bt sc n q.2.1 q.2.2))).map λM=>(h.1,a,q.2.1.length,M))
def C1:List (Str×Nat×Nat×List (Nat ⊕ U))->Bool
 |[]=>true
 |r::rs=>rs.all (λz=>T.xc[z.2.1]?.any λq=>q.2.2.lookup r.1==some false)&&C1 rs
def IE(c:List Z5)(b:List ExceptHandler):Option Z5:=match b with
 |[]=>none
 |h0::_=>(DS h0).bind λq=>(EG q.2.2).bind λp=>Im (AE q.2.1&&(sc.names.lookup q.2.1==some .local)) ((Bd true sc N p.1).bind λj=>(AG N q.2.1).bind λi=>Im (!decide (i=j)) ((Ab (b.map (D4 T sc q.2.1 p.1))).bind λa=>Im (C1 T a) (some (.Vz c j (a.map (·.2))))))
def DT(e:Expr):Option (Expr×Str×Pos):=match e with
 |.Attribute o m ap=>some (o,m,ap)
 |_=>none
def IF(y:Str)(c:List Expr)(kws:List Keyword):Option E:=match c with
 |[]=>none
 |a::r=>Im (AB kws&&AE y&&glob sc y&&!(a::r).any isStar) ((AG T.L y).bind λb=>(Ab ((a::r).map ce)).map λZI=>.call b ZI)
def IG(y:Str)(a:List Expr)(kws:List Keyword):Option E:=(T.cl.lookup y).bind λq=>Im (T.fx.contains q.2.1&&AE y&&!a.any isStar&&glob sc y&&kwOk kws&&Bv q.2.2.1 q.2.2.2 (a.length+1) (Aw kws))
 ((Ab (a.map ce)).bind λZI=>(Ab (kws.map λk=>ce k.value)).map λYJ=>.make q.1 q.2.1 ZI YJ (AU q.2.2.1 (a.length+1) (Aw kws)))
def IH(q:Expr×Str×Pos)(a:List Expr)(kws:List Keyword)(b:Pos):Option E:=(T.mt.lookup q.2.1).bind λl=>Im (l.all (λe=>T.fx.contains e.2.1)&&!BX q.1) ((ce q.1).bind λo'=>De T ce o' q.2.1 q.2.2 b a kws)
def Bx(e:Expr):Option E:=match e with
 |.Call fn es kws cp=>match Io fn with
  |some y=>match T.fs.contains y with
   |true=>IF T sc ce y es kws
   |false=>IG T sc ce y es kws
  |none=>(DT fn).bind λq=>IH T ce q es kws cp
 |_=>none
end
def II(T:Tab)(a:Scope)(N:List Str)(b:E)(t:Expr):Option Z5:=match Io t with
 |some x=>(Bd true a N x).map λj=>.set (.nm j) b
 |none=>(DT t).bind λq=>(Io q.1).bind λx=>(Bd true a N x).bind λi=>(T.fl.lookup q.2.1).bind λcs=>Im (BG q.2.1&&AE x) (some (.fset (.O i) (A7 q.2.1) cs b))
def Bj(T:Tab)(d:Scope)(N:List Str)(g:Bool):Nat->Stmt->Option Z5
 |0,_=>none
 |m+1,st=>match st with
  |.If c a b _=>(Ad T d N m c).bind λc'=>(Ab (a.map (Bj T d N g m))).bind λa'=>(Ab (b.map (Bj T d N g m))).map λb'=>.Wv c' a' b'
  |.Raise e c _=>Im (g&&Dz c) (e.bind λe=>(BZ e).bind (ID T d (Ad T d N m)))
  |.Try b hs o f _=>Im (AB o&&AB f) ((Ab (b.map (Bj T d N false m))).bind λb'=>IE T d N b' hs)
  |.For tg it b o _=>Im (g&&AB o) ((A3 true d N tg).bind λt=>(B1 T d (Ad T d N m) tg it).bind λZz=>(Ab (b.map (Bj T d N g m))).map λb'=>.Wu t Zz b')
  |.Return v p=>match v.bind (Bx T d (Ad T d N m))with
   |some e'=>some (.ret e')
   |none=>(A4 T d N m (.Return v p)).map λs=>.ZE [s]
  |.Expr v p=>match Bx T d (Ad T d N m) v with
   |some e'=>some (.exp e')
   |none=>(A4 T d N m (.Expr v p)).map λs=>.ZE [s]
  |.Assign ts v p=>match Bx T d (Ad T d N m) v with
   |some e'=>(Cv ts).bind (II T d N e')
   |none=>(A4 T d N m (.Assign ts v p)).map λs=>.ZE [s]
  |st=>(A4 T d N m st).map λs=>.ZE [s]
open PySem PySem.Spec PyProof.Rows L2
def CD(T:Tab)(x:Str)(a:Scope)(N:List Str)(m:Nat):Stmt->Option Z5:=if T.fs.contains x then Bj T a N true m else A4 T a N m
open PySem PySem.Spec PyProof.Rows L2 PySem.W
def B7:Nat->List Obj->Frag
 |_,[]=>[]
 |n,o::r=>match o.data with
  |.freed=>B7 (n+1) r
  |_=>(n,o)::B7 (n+1) r
def Bf(h:Heap):Frag:=B7 0 h.objs.toList
set_option genInjectivity false in
structure Inf where
 x:Str
 N:List Str
 ps:List Str
 cm:Option (Str×Str)
 kf:Option (KF×Nat)
def CW(N b:List Str)(a:Scope):Bool:=
 decide (a.kind=.function)&&!a.isCoroutine&&!a.isGenerator&&decide N.Nodup&&decide (N.take b.length=b)&&b.all (λx=>decide (a.names.lookup x=some .local)||decide (a.names.lookup x=some .cell))&&a.names.all λy=>decide (y.2 ≠ .free)
def Dc(a:List Str)(p:Arguments):Bool:=p.posonlyargs.isEmpty&&decide (p.args.map (·.arg)=a)&&p.vararg.isNone&&p.kwonlyargs.isEmpty&&p.kwarg.isNone
def DB:Value->Bool
 |.none=>true
 |_=>false
def D8(u:U)(v:Value):Bool:=match u with
 |.int i=>match v with
  |.int j _=>decide (i=j)
  |_=>false
 |.ZR=>DB v
 |.bl b=>match v with
  |.bool c=>b==c
  |_=>false
 |.str s=>match v with
  |.str t _=>decide (s=t)
  |_=>false
 |_=>false
def CA:List U->List Value->Bool
 |[],[]=>true
 |u::M,v::vs=>D8 u v&&CA M vs
 |_,_=>false
def FQ(M:List U)(d:Data):Bool:=match d with
 |.seq ZY _=>decide (ZY.size<=1000)&&CA M ZY.toList
 |_=>false
def D6(K:Frag)(M:List U)(v:Value):Bool:=match v with
 |.ref a=>match K.lookup a with
  |some o=>decide (o.cls=.type "tuple")&&FQ M o.data
  |none=>false
 |_=>false
def IJ(K:Frag)(u:U)(v:Value):Bool:=match u with
 |.xn _ M=>D6 K M v
 |_=>false
def Dk(K:Frag)(u:U)(v:Value):Bool:=D8 u v||IJ K u v
def C5(K:Frag):List U->List Value->Bool
 |[],[]=>true
 |u::M,v::vs=>Dk K u v&&C5 K M vs
 |_,_=>false
def Ec(K:Frag):Value->Option (List Value)
 |.none=>some []
 |.ref a=>match K.lookup a with
  |some ⟨_,_,.seq ZY _,_⟩=>some ZY.toList
  |_=>none
 |_=>none
def BH(K:Frag)(v:Value)(n:Str):Option Value:=match v with
 |.ref d=>match nsIn K d n with
  |some (some v)=>some v
  |_=>none
 |_=>none
def IK(K:Frag)(fd:FuncData)(F:KF)(a:Nat):Bool:=fd.params.posonlyargs.isEmpty&&decide (fd.params.args.map (·.arg)=F.ns)&&fd.params.vararg.isNone&&decide (fd.params.kwonlyargs.map (·.arg)=F.ks)&&fd.params.kwarg.isNone&&decide (a<=F.ns.length) &&
 (F.ks.all λn=>(BH K fd.kwdefaults n).isSome)&&decide (F.dd.map (·.1)=F.ns.drop (F.ns.length-a)++F.ks)&&match Ec K fd.defaults with
  |some b=>decide (b.length=a)&&C5 K (F.dd.map (·.2)) (b++F.ks.map λn=>(BH K fd.kwdefaults n).getD .none)
  |none=>false
def IL(K:Frag)(c:Str×U):Bool:=match nsIn K mainGlobals c.1 with
 |some (some val)=>Dk K c.2 val
 |_=>false
open PySem PySem.Spec PyProof.Rows L2 PySem.W PySem.Calls
def DO:List (List Value×String):=[([.type "ZeroDivisionError",.type "ArithmeticError",.type "Exception",.type "BaseException",.type "object"],"ZeroDivisionError.__new__"),([.type "ValueError",.type "Exception",.type "BaseException",.type "object"],"ValueError.__new__"),([.type "LookupError",.type "Exception",.type "BaseException",.type "object"],"LookupError.__new__"),([.type "IndexError",.type "LookupError",.type "Exception",.type "BaseException",.type "object"],"IndexError.__new__")]
def HN:Value->Option Addr
 |.ref a=>some a
 |_=>none
def DU(K:Frag)(C:Addr):Bool:=(findIn K (.ref C) "__getattribute__" == some (some (.builtin "BaseException.__getattribute__")))&&(findIn K (.ref C) "__getattr__" == some none)&&(mroIn K C (.type "BaseException")==some true)&&(findIn K (.ref C) "__class__" == some (some (.builtin "object.__class__"))) &&
 (specialIn K (.builtin "object.__class__") "__get__" == some (some (.builtin "getset_descriptor.__get__")))&&(takesIn K (.builtin "object.__class__")==some true)&&(mroIn K C (.type "object")==some true)&&(clsIn K C).isSome
def Gh(K:Frag)(C:Addr)(y:Str)(b:Bool):Bool:=AE y&&match nsIn K mainGlobals y with
 |some none=>match bootBuiltins y with
  |some (.type T)=>kitOne K (.ref C) (.type T)==some b
  |_=>false
 |some (some (.ref D))=>kitOne K (.ref C) (.ref D)==some b
 |_=>false
def Gn(K:Frag)(C:Addr)(a:List Value):List Value->Bool
 |[]=>false
 |v::bm=>(v==.ref C)&&tailIn K a bm
def IM(K:Frag)(C:Addr)(c:List Value)(b:Addr)(a:ClassData):Bool:=!a.hasDel&&Gn K C c a.mro&&nsOkIn K a.ns&&(nsIn K a.ns "__init__" == some (some (.ref b)))
def DQ(K:Frag)(C:Addr)(b:List Value)(newId:String)(a:Addr):Bool:=match K.lookup C with
 |none=>false
 |some o=>(o.cls==.type "type")&&decide (o.slots.size=6)&&(o.slots[4]? == some (some (.builtin newId)))&&(clsIn K C).any (IM K C b a)
def G9(K:Frag)(C:Addr):Option Addr:=(clsIn K C).bind λa=>match nsIn K a.ns "__init__" with
 |some v=>v.bind HN
 |none=>none
def GI(s:Stmt):Option (Str×IA):=(DY s).bind λq=>(Cv q.1).bind λt=>match t,q.2 with
 |.Attribute (.Name x b) f a,.Name p p2=>match s with
  |.Assign _ _ pos=>some (x,((f,p),(b,a,p2,pos)))
  |_=>none
 |_,_=>none
def DR(self:Str):List Stmt->Option (List IA)
 |[]=>some []
 |s::r=>(GI s).bind λq=>Im (decide (q.1=self)) ((DR self r).map (q.2 :: ·))
def FR(K:Frag)(a:Addr):Option FuncData:=(K.lookup a).bind λo=>Im (o.cls==.type "function") (match o.data with
 |.func fd=>some fd
 |_=>none)
def Fu:FuncBody->Option (List Stmt)
 |.stmts b=>some b
 |_=>none
def Fk(K:Frag)(b:Addr)(a:List Str):Bool:=(FR K b).any λfd=>(fd.globals==mainGlobals)&&fd.closure.isEmpty&&DB fd.defaults&&(fd.builtins==builtinsNs)&&codeIn K fd.code fd.qualname &&
 (Fu fd.body).any λss=>match fd.params.args.map (·.arg)with
 |[]=>false
 |self::ps=>!ps.isEmpty&&(DR self ss).any λas=>decide (as.map (·.1.1)=a)&&decide (as.map (·.1.2)=ps)&&decide a.Nodup&&decide (a.length<=1000)&&CW (self::ps) (self::ps) fd.scope&&Dc (self::ps) fd.params&&(self::ps).all AE
def setB(K:Frag)(C:Addr)(f:Str):Bool:=(findIn K (.ref C) "__setattr__" == some (some (.builtin "object.__setattr__")))&&Cw K C&&(takerIn K C f==some none)&&hasDictIn K C&&(findIn K (.ref C) f==some none)
def IP(K:Frag)(C:Addr)(a:List Str):Bool:=match a with
 |[]=>false
 |_::_=>match G9 K C with
  |some fI=>(DO.any λb=>DQ K C b.1 b.2 fI)&&Fk K fI a&&a.all (setB K C)
  |none=>false
def CZ(K:Frag)(c:Str×List Str×List (Str×Bool)):Option Addr:=match nsIn K mainGlobals c.1 with
 |some (some (.ref C))=>if IP K C c.2.1&&DU K C&&c.2.2.all λa=>Gh K C a.1 a.2 then some C else none
 |_=>none
open PySem PySem.Spec PyProof.Rows L2 PySem.W
def Fq(x q:Str)(fd:FuncData):Bool:=decide (fd.name=x)&&decide (fd.qualname=q)&&(fd.globals==mainGlobals)&&fd.closure.isEmpty&&(fd.builtins==builtinsNs)
def El(K:Frag)(i:Inf)(fd:FuncData):Bool:=match i.kf with
 |none=>Dc i.ps fd.params&&DB fd.defaults
 |some (F,nd)=>decide (i.ps=F.ns++F.ks)&&!i.ps.isEmpty&&IK K fd F nd
def CP(K:Frag)(C:Addr):Bool:=plainGet K C Str.empty&&hasDictIn K C&&plainOver K C&&(findIn K (.ref C) "__setattr__" == some (some (.builtin "object.__setattr__")))
def EH(K:Frag)(i:Inf):Option Addr:=match i.cm with
 |none=>match nsIn K mainGlobals i.x with
  |some (some (.ref a))=>some a
  |_=>none
 |some c=>match nsIn K mainGlobals c.1 with
  |some (some (.ref C))=>match findIn K (.ref C) c.2 with
   |some (some (.ref a))=>if CP K C&&isFn K (.ref a)&&keepIn K (.ref a)&&(!decide (c.2 = "__init__")||(makesIn K C&&keepIn K (.ref C)))then some a else none
   |_=>none
  |_=>none
noncomputable def Inf.nm(i:Inf):Str:=match i.cm with|none=>i.x|some c=>c.2
def DG(K:Frag)(i:Inf):Option (Scope×List Stmt):=match EH K i with
 |some a=>match K.lookup a with
  |some ⟨_,_,.func fd,_⟩=>match fd.body with
   |.stmts b=>if Fq i.nm i.x fd&&CW i.N i.ps fd.scope&&El K i fd&&codeIn K fd.code i.x&&keepIn K (.ref a)then some (fd.scope,b)else none
   |_=>none
  |_=>none
 |none=>none
def mkF(T:Tab)(q:Inf×Option (Scope×List Stmt)):Option Fn:=match q.2 with
 |some r=>(Ab (r.2.map (CD T q.1.x r.1 q.1.N 60))).map λb'=>⟨q.1.ps.length,q.1.N.length,b'⟩
 |none=>none
def IQ(K:Frag)(e:Str×List Nat):Bool:=e.2.all λc=>match nsIn K mainGlobals (Ag c)with
 |some (some (.ref C))=>CP K C&&(findIn K (.ref C) e.1==some none)
 |_=>false
def GC(K:Frag)(C:Addr):Bool:=(findIn K (.ref C) "__ne__" == some (some (.builtin "object.__ne__")))&&(mroIn K C (.type "object")==some true)&&(clsIn K C).isSome&&(typeIn K (.ref C)==some (.type "type"))&&(findIn K (.ref C) "__class__" == some (some (.builtin "object.__class__"))) &&
 (specialIn K (.builtin "object.__class__") "__get__" == some (some (.builtin "getset_descriptor.__get__")))&&(takesIn K (.builtin "object.__class__")==some true)
def IS(K:Frag)(p:Str×Nat):Bool:=match nsIn K mainGlobals p.1 with
 |some (some (.ref C))=>decide (Ag p.2=p.1)&&CP K C&&GC K C
 |_=>false
def DF(is:List Inf):List (Str×Nat×KF×Nat):=is.zipIdx.filterMap λp=>match p.1.cm,p.1.kf with
 |none,some k=>some (p.1.x,p.2,k.1,k.2)
 |_,_=>none
def DE(is:List Inf):List (Str×Nat×Nat×KF×Nat):=is.zipIdx.filterMap λp=>match p.1.cm,p.1.kf with
 |some c,some k=>if c.2 = "__init__" then some (c.1,A7 c.1,p.2,k.1,k.2)else none
 |_,_=>none
def IT(is:List Inf)(m:Str):List (Nat×Nat×KF×Nat):=is.zipIdx.filterMap λp=>match p.1.cm,p.1.kf with
 |some c,some k=>if c.2=m then some (A7 c.1,p.2,k.1,k.2)else none
 |_,_=>none
def C3(is:List Inf)(ms:List Str):List (Str×List (Nat×Nat×KF×Nat)):=ms.map λm=>(m,IT is m)
def IU(T:Tab)(K:Frag):Bool:=T.bt.all (λx=>(nsIn K mainGlobals x).any Option.isNone)&&T.xc.all (λc=>(CZ K c).isSome)
def Dl(is:List Inf)(a:List Str):List Nat:=is.zipIdx.filterMap λp=>if a.contains p.1.x then some p.2 else none
open PySem PySem.Spec PyProof.Rows L2 PySem.W PySem.Calls
noncomputable section
def GR(p:Program)(w:World)(N:Nat)(ZK : Shared):Option Shared:=
 match ZK.heap.isNs mainGlobals&&ZK.gens.size==0 with
 |true=>(Fast.tw14082659384304107361 Fast.tw14364793385576792824 p w ZK.heap.objs.size (ZK.heap.nsMap mainGlobals "__annotations__") N ZK (topStub p)).bind λa=>match staticsOk (importedModules p.main.body) ZK.heap a.heap&&namesBound p a.heap&&gensDone a && laidKept ZK.heap a.heap with
   |true=>some a
   |false=>none
 |false=>none
def endsF(p:Program)(w:World)(N:Nat):Option Shared:=
 ((Fast.tw10274390034422433532 Fast.tw14364793385576792824 (opening p) w N (Fast.tw1435165496053646825 (opening p)).1 (Fast.tw1435165496053646825 (opening p)).2).bind (Fast.tw14289696077712309145 p)).bind (GR p w N)
def lastOf(p:Program):Program:={p with main:={p.main with body:=p.main.body.drop (p.main.body.length-1)}}
def Eu(T:Tab)(K:Frag)(is:List Inf):Bool:=IU T K&&T.cs.all (IL K)&&T.fl.all (IQ K)&&is.all (λi=>i.cm.all λc=>BG c.1)&&T.ow.all (IS K)
def Ar(b:List Stmt)(n:Nat):Option (Scope×List Stmt):=match b[n]? with
 |some (.FunctionDef _ _ b _ _ _ sc _ _ _)=>some (sc,b)
 |_=>none
def Gg(b:List Stmt)(n m:Nat):Option (Scope×List Stmt):=match b[n]? with
 |some (.ClassDef _ _ _ b _ _ _ _ _ _ _)=>Ar b m
 |_=>none
end
end
end PI
section
namespace ZC
open PI
def CU:Fn:=⟨1,1,[(.ret (.and (.Y1 (.O 0) .V_) (.not (.Y1 (.O 0) .V9))))]⟩
def GZ:Fn:=⟨1,4,[(.set (.tp [1,2,3]) (.O 0)),(.ret (.comp 2 [2,3] [((.nm 0),(.YT (.ZT .add (.ZT .mul (.O 1) (.O 3)) (.Z0 (.int 1)))),[]),((.nm 1),(.YT (.ZT .add (.ZT .mul (.O 2) (.O 3)) (.Z0 (.int 1)))),[])] (.ZZ [.O 0,.O 1])))]⟩
def ES:Fn:=⟨3,7,[(.par 3 4 (.ZT .mul (.O 0) (.O 2)) (.ZT .mul (.O 1) (.O 2))),(.par 5 6 (.ZT .add (.O 3) (.O 2)) (.ZT .add (.O 4) (.O 2))),(.Zs (.cmp .eq (.ZT .mod (.ZT .add (.O 0) (.O 1)) (.Z0 (.int 2))) (.Z0 (.int 0))) [(.ret (.S [(.ZZ [.O 3,.O 4,.O 5,.O 6,.O 5,.O 4]),(.ZZ [.O 5,.O 6,.O 3,.O 4,.O 3,.O 6])]))] []),(.ret (.S [(.ZZ [.O 5,.O 4,.O 3,.O 6,.O 5,.O 6]),(.ZZ [.O 3,.O 6,.O 5,.O 4,.O 3,.O 4])]))]⟩
def E9:Fn:=⟨1,4,[(.set (.tp [1,2,3]) (.O 0)),(.ret (.comp 3 [2,3] [((.nm 0),(.YT (.O 1)),[]),((.nm 1),(.YT (.O 3)),[]),((.nm 2),(.call 2 [.O 0,.O 1,.O 4]),[])] (.O 2)))]⟩
def E8:Fn:=⟨1,5,[(.set (.tp [1,2,3,4]) (.Xy (.O 0) none (some (.Z0 (.int 4))))),(.Zs (.or (.cmp .eq (.ZT .mod (.ZT .add (.O 1) (.O 3)) (.Z0 (.int 2))) (.Z0 (.int 1))) (.cmp .eq (.ZT .mod (.ZT .add (.O 2) (.O 4)) (.Z0 (.int 2))) (.Z0 (.int 1)))) [(.ret (.Z0 .ZR))] []),(.ret (.ZZ [(.ZT .fdiv (.ZT .add (.O 1) (.O 3)) (.Z0 (.int 2))),(.ZT .fdiv (.ZT .add (.O 2) (.O 4)) (.Z0 (.int 2)))]))]⟩
def E7:Fn:=⟨1,10,[(.set (.nm 1) (.call 4 [.O 0])),(.Zs (.cmp .WN (.O 1) (.Z0 .ZR)) [.never] []),(.set (.tp [2,3]) (.O 1)),(.set (.tp [4,5,6,7,8,9]) (.O 0)),(.ret (.S [(.ZZ [.O 4,.O 5,.O 8,.O 9,.O 2,.O 3]),(.ZZ [.O 8,.O 9,.O 6,.O 7,.O 2,.O 3])]))]⟩
def Fh:Fn:=⟨1,4,[(.set (.nm 1) (.S [])),(.set (.nm 2) (.rev (.O 0))),(.U3 (.O 2) [(.set (.nm 3) (.pop (.O 2))),(.exp (.app (.O 1) (.O 3))),(.Zs (.cmp .U7 (.call 4 [.O 3]) (.Z0 .ZR)) [(.exp (.ext (.O 2) (.rev (.call 5 [.O 3]))))] [])]),(.ret (.O 1))]⟩
def E6:Fn:=⟨1,1,[(.ret (.call 6 [(.call 3 [.O 0])]))]⟩
def ER:Fn:=⟨2,2,[(.Wv (.or (.not (.call 0 [.O 1])) (.or (.cmp .lt (.O 1) (.neg (.Z0 (.int 1000)))) (.cmp .gt (.O 1) (.Z0 (.int 1000))))) [(.raise 0 [.O 0,.O 1])] [])]⟩
def EW:Fn:=⟨2,2,[(.Wv (.cmp .ne (.bi .len [.O 0]) (.O 1)) [(.raise 1 [(.bi .len [.O 0])])] [])]⟩
def E1:Fn:=⟨2,10,[(.ZE [(.set (.tp [2,3,4]) (.O 0))]),(.exp (.call 9 [.O 1,(.ZT .add (.ZT .mul (.O 3) (.O 4)) (.Z0 (.int 1)))])),(.Wu (.nm 5) (.O 1) [(.exp (.call 9 [.O 5,(.ZT .add (.ZT .mul (.O 2) (.O 4)) (.Z0 (.int 1)))]))]),(.ZE [(.set (.nm 6) .WM)]),(.Wu (.tp [7,5]) (.Y0 (.O 1)) [(.Wu (.tp [8,9]) (.Y0 (.O 5)) [(.exp (.call 8 [(.ZZ [.O 8,.O 7]),.O 9])),(.ZE [(.sub (.O 6) (.ZZ [.O 8,.O 7]) (.O 9))])])]),(.ZE [(.ret (.O 6))])]⟩
def EM:Fn:=⟨3,3,[(.Wv (.cmp .WN (.O 2) (.Z0 .ZR)) [(.ZE [(.fset (.O 0) 509789213455080 [211529932] (.WL 1 [] [((.nm 0),(.call 1 [.O 1]),[])] (.O 0) (.Z0 (.int 0))))])] [(.fset (.O 0) 509789213455080 [211529932] (.call 10 [.O 1,.O 2]))]),(.ZE [(.fset (.O 0) 232289904 [211529932] (.O 1))]),(.ZE [(.fset (.O 0) 487627477906021 [211529932] (.Z0 (.int 0)))]),(.ZE [(.fset (.O 0) 31083624820 [211529932] (.Z0 (.int 0)))]),(.ZE [(.fset (.O 0) 31083802852 [211529932] .WM)]),(.ZE [(.fset (.O 0) 213628900 [211529932] (.S []))]),(.ZE [(.fset (.O 0) 3500095911797 [211529932] (.S []))]),(.ZE [(.fset (.O 0) 243020007 [211529932] (.WL 1 [] [((.nm 0),(.call 7 [.O 1]),[])] (.O 0) (.Z0 .ZR)))])]⟩
def EX:Fn:=⟨1,4,[(.set (.tp [1,2,3]) (.fld (.O 0) 232289904 [211529932])),(.ret (.comp 1 [0,3,1] [((.nm 0),(.YT (.ZT .add (.ZT .mul (.O 2) (.O 3)) (.Z0 (.int 1)))),[])] (.comp 1 [1,0] [((.nm 0),(.YT (.ZT .add (.ZT .mul (.O 3) (.O 2)) (.Z0 (.int 1)))),[])] (.idx (.fld (.O 1) 509789213455080 [211529932]) (.ZZ [.O 0,.O 2])))))]⟩
def Ck:Fn:=⟨1,1,[(.ret (.and (.Y1 (.O 0) .V_) (.not (.Y1 (.O 0) .V9))))]⟩
def E2:Fn:=⟨2,3,[(.Zs (.cmp .WN (.O 1) (.Z0 .ZR)) [(.ret (.cmp .WN (.O 0) (.Z0 .ZR)))] []),(.Zs (.Y1 (.O 1) .V9) [(.ret (.and (.Y1 (.O 0) .V9) (.cmp .eq (.O 0) (.O 1))))] []),(.Zs (.Y1 (.O 1) .V_) [(.ret (.and (.call 13 [.O 0]) (.cmp .eq (.O 0) (.O 1))))] []),(.Zs (.Y1 (.O 1) .U6) [(.ret (.and (.Y1 (.O 0) .U6) (.cmp .eq (.O 0) (.O 1))))] []),(.Zs (.and (.Y1 (.O 1) .U5) (.not (.Y1 (.O 0) .U5))) [(.ret (.Z0 (.bl false)))] []),(.Zs (.and (.Y1 (.O 1) .U4) (.not (.Y1 (.O 0) .U4))) [(.ret (.Z0 (.bl false)))] []),(.Zs (.cmp .ne (.bi .len [.O 0]) (.bi .len [.O 1])) [(.ret (.Z0 (.bl false)))] []),(.for (.nm 2) (.YT (.bi .len [.O 1])) [(.Zs (.not (.call 14 [(.idx (.O 0) (.O 2)),(.idx (.O 1) (.O 2))])) [(.ret (.Z0 (.bl false)))] [])]),(.ret (.Z0 (.bl true)))]⟩
def E5:Fn:=⟨1,1,[(.ret (.S [(.bi .list [(.Xy (.O 0) none (some (.Z0 (.int 63))))]),(.Z0 (.int 0)),(.Z0 (.int 7))]))]⟩
def EZ:Fn:=⟨2,5,[(.set (.nm 2) (.idx (.O 0) (.Z0 (.int 0)))),(.set (.nm 3) (.idx (.O 0) (.Z0 (.int 1)))),(.set (.nm 4) (.Z0 (.int 0))),(.Zs (.cmp .gt (.bi .len [.O 2]) (.Z0 (.int 0))) [(.set (.nm 4) (.idx (.O 2) (.ZT .mod (.O 3) (.bi .len [.O 2]))))] []),(.Zs (.cmp .lt (.O 4) (.Z0 (.int 0))) [(.set (.nm 4) (.ZT .sub (.Z0 (.int 1)) (.O 4)))] []),(.Zs (.cmp .ge (.O 4) (.ZT .pow (.Z0 (.int 10)) (.Z0 (.int 18)))) [(.sub (.O 2) (.ZT .mod (.O 3) (.bi .len [.O 2])) (.ZT .fdiv (.O 4) (.O 1))),(.ret (.ZT .mod (.O 4) (.O 1)))] []),(.sub (.O 0) (.Z0 (.int 1)) (.ZT .add (.O 3) (.Z0 (.int 1)))),(.sub (.O 0) (.Z0 (.int 2)) (.ZT .mod (.ZT .add (.ZT .add (.ZT .add (.ZT .mul (.idx (.O 0) (.Z0 (.int 2))) (.Z0 (.int 48271))) (.ZT .mul (.O 4) (.Z0 (.int 9973)))) (.ZT .mul (.O 3) (.Z0 (.int 31)))) (.Z0 (.int 11))) (.Z0 (.int 2147483647)))),(.ret (.ZT .mod (.ZT .fdiv (.ZT .mod (.ZT .mul (.idx (.O 0) (.Z0 (.int 2))) (.Z0 (.int 69621))) (.Z0 (.int 2147483629))) (.Z0 (.int 64))) (.O 1)))]⟩
def EU:Fn:=⟨1,2,[(.set (.nm 1) (.S [(.ZZ [(.Z0 (.int 1)),(.Z0 (.int 1)),(.Z0 (.int 2))]),(.ZZ [(.Z0 (.int 1)),(.Z0 (.int 1)),(.Z0 (.int 4))]),(.ZZ [(.Z0 (.int 2)),(.Z0 (.int 1)),(.Z0 (.int 2))]),(.ZZ [(.Z0 (.int 1)),(.Z0 (.int 2)),(.Z0 (.int 2))]),(.ZZ [(.Z0 (.int 2)),(.Z0 (.int 2)),(.Z0 (.int 2))]),(.ZZ [(.Z0 (.int 1)),(.Z0 (.int 1)),(.Z0 (.int 4))])])),(.set (.nm 1) (.ZT .add (.O 1) (.S [(.ZZ [(.Z0 (.int 3)),(.Z0 (.int 1)),(.Z0 (.int 2))]),(.ZZ [(.Z0 (.int 1)),(.Z0 (.int 3)),(.Z0 (.int 2))]),(.ZZ [(.Z0 (.int 2)),(.Z0 (.int 1)),(.Z0 (.int 4))]),(.ZZ [(.Z0 (.int 1)),(.Z0 (.int 2)),(.Z0 (.int 4))]),(.ZZ [(.Z0 (.int 3)),(.Z0 (.int 2)),(.Z0 (.int 2))]),(.ZZ [(.Z0 (.int 1)),(.Z0 (.int 1)),(.Z0 (.int 8))])]))),(.ret (.idx (.O 1) (.call 16 [.O 0,(.Z0 (.int 12))])))]⟩
def EO:Fn:=⟨1,4,[(.set (.nm 1) (.S [])),(.for (.nm 2) (.YT (.ZT .add (.ZT .mul (.idx (.O 0) (.Z0 (.int 0))) (.idx (.O 0) (.Z0 (.int 2)))) (.Z0 (.int 1)))) [(.for (.nm 3) (.YT (.ZT .add (.ZT .mul (.idx (.O 0) (.Z0 (.int 1))) (.idx (.O 0) (.Z0 (.int 2)))) (.Z0 (.int 1)))) [(.exp (.app (.O 1) (.ZZ [.O 2,.O 3])))])]),(.ret (.O 1))]⟩
def E3:Fn:=⟨2,2,[(.Zs (.cmp .eq (.O 1) (.Z0 (.int 0))) [(.ret (.idx (.S [(.Z0 (.int 0)),(.Z0 (.int 0)),(.Z0 (.int 0)),(.Z0 (.int 0)),(.Z0 (.int 0)),(.Z0 (.int 7)),(.ZT .sub (.Z0 (.int 0)) (.Z0 (.int 5)))]) (.call 16 [.O 0,(.Z0 (.int 7))])))] []),(.Zs (.cmp .eq (.O 1) (.Z0 (.int 1))) [(.ret (.ZT .sub (.call 16 [.O 0,(.Z0 (.int 7))]) (.Z0 (.int 3))))] []),(.Zs (.cmp .eq (.O 1) (.Z0 (.int 2))) [(.ret (.ZT .sub (.call 16 [.O 0,(.Z0 (.int 2001))]) (.Z0 (.int 1000))))] []),(.Zs (.cmp .eq (.O 1) (.Z0 (.int 3))) [(.ret (.ZT .sub (.ZT .mul (.call 16 [.O 0,(.Z0 (.int 2))]) (.Z0 (.int 2000))) (.Z0 (.int 1000))))] []),(.ret (.Z0 (.int 0)))]⟩
def EN:Fn:=⟨2,7,[(.set (.nm 2) (.call 16 [.O 0,(.Z0 (.int 6))])),(.set (.nm 3) (.ZT .sub (.call 16 [.O 0,(.Z0 (.int 41))]) (.Z0 (.int 20)))),(.set (.nm 4) (.ZT .sub (.call 16 [.O 0,(.Z0 (.int 41))]) (.Z0 (.int 20)))),(.set (.nm 5) .WM),(.for (.nm 6) (.call 18 [.O 1]) [(.sub (.O 5) (.O 6) (.call 19 [.O 0,.O 2])),(.Zs (.cmp .eq (.O 2) (.Z0 (.int 5))) [(.sub (.O 5) (.O 6) (.ZT .add (.ZT .add (.ZT .mul (.O 3) (.idx (.O 6) (.Z0 (.int 0)))) (.ZT .mul (.O 4) (.idx (.O 6) (.Z0 (.int 1))))) (.idx (.S [(.Z0 (.int 0)),(.Z0 (.int 0)),(.Z0 (.int 0)),(.Z0 (.int 1))]) (.call 16 [.O 0,(.Z0 (.int 4))]))))] [])]),(.ret (.O 5))]⟩
def EV:Fn:=⟨2,4,[(.set (.nm 2) (.S [])),(.for (.nm 3) (.YT (.ZT .add (.ZT .mul (.idx (.O 0) (.Z0 (.int 1))) (.idx (.O 0) (.Z0 (.int 2)))) (.Z0 (.int 1)))) [(.exp (.app (.O 2) (.comp 1 [1,3] [((.nm 0),(.YT (.ZT .add (.ZT .mul (.idx (.O 0) (.Z0 (.int 0))) (.idx (.O 0) (.Z0 (.int 2)))) (.Z0 (.int 1)))),[])] (.idx (.O 1) (.ZZ [.O 0,.O 2])))))]),(.ret (.O 2))]⟩
def ET:Fn:=⟨2,4,[(.ZE [(.set (.nm 2) (.Z0 .ZR))]),(.Vz [(.set (.nm 2) (.make 211529932 11 [.O 0,.O 1] [] [.inl 0,.inl 1,.inl 2]))] 2 [(1,1,[(.inr (.str (PySem.Str.ofString "size"))),.inl 0,(.inr (.bl true))]),(0,2,[(.inr (.str (PySem.Str.ofString "high"))),.inl 0,.inl 1,(.inr (.bl true))])]),(.ZE [(.ret (.O 2))])]⟩
def E4:Fn:=⟨2,5,[(.Zs (.cmp .ne (.bi .len [.O 1]) (.ZT .add (.ZT .mul (.idx (.O 0) (.Z0 (.int 1))) (.idx (.O 0) (.Z0 (.int 2)))) (.Z0 (.int 1)))) [(.ret (.ZZ [(.Z0 (.str (PySem.Str.ofString "size"))),(.bi .len [.O 1]),(.Z0 (.bl true))]))] []),(.for (.nm 2) (.O 1) [(.Zs (.cmp .ne (.bi .len [.O 2]) (.ZT .add (.ZT .mul (.idx (.O 0) (.Z0 (.int 0))) (.idx (.O 0) (.Z0 (.int 2)))) (.Z0 (.int 1)))) [(.ret (.ZZ [(.Z0 (.str (PySem.Str.ofString "size"))),(.bi .len [.O 2]),(.Z0 (.bl true))]))] [])]),(.for (.nm 3) (.YT (.bi .len [.O 1])) [(.for (.nm 4) (.YT (.bi .len [(.idx (.O 1) (.O 3))])) [(.Zs (.or (.not (.call 13 [(.idx (.idx (.O 1) (.O 3)) (.O 4))])) (.cmp .gt (.bi .abs [(.idx (.idx (.O 1) (.O 3)) (.O 4))]) (.Z0 (.int 1000)))) [(.ret (.ZZ [(.Z0 (.str (PySem.Str.ofString "high"))),(.ZZ [.O 4,.O 3]),(.idx (.idx (.O 1) (.O 3)) (.O 4)),(.Z0 (.bl true))]))] [])])]),(.ret (.Z0 .ZR))]⟩
def EY:Fn:=⟨2,5,[(.set (.nm 2) (.call 16 [.O 0,(.Z0 (.int 6))])),(.set (.nm 3) (.call 16 [.O 0,(.bi .len [.O 1])])),(.Zs (.cmp .eq (.O 2) (.Z0 (.int 0))) [(.exp (.app (.O 1) (.bi .list [(.idx (.O 1) (.Z0 (.int 0)))])))] []),(.Zs (.cmp .eq (.O 2) (.Z0 (.int 1))) [(.exp (.V8 (.O 1) (.O 3)))] []),(.Zs (.cmp .eq (.O 2) (.Z0 (.int 2))) [(.exp (.app (.idx (.O 1) (.O 3)) (.Z0 (.int 0))))] []),(.Zs (.and (.cmp .eq (.O 2) (.Z0 (.int 3))) (.cmp .gt (.bi .len [(.idx (.O 1) (.O 3))]) (.Z0 (.int 0)))) [(.exp (.pop (.idx (.O 1) (.O 3))))] []),(.Zs (.and (.cmp .gt (.O 2) (.Z0 (.int 3))) (.cmp .gt (.bi .len [(.idx (.O 1) (.O 3))]) (.Z0 (.int 0)))) [(.set (.nm 4) (.idx (.S [(.Z0 (.int 1001)),(.ZT .sub (.Z0 (.int 0)) (.Z0 (.int 1001))),(.Z0 (.bl true)),(.Z0 (.bl false)),.Z0 .ZR,(.ZT .pow (.Z0 (.int 10)) (.Z0 (.int 40)))]) (.call 16 [.O 0,(.Z0 (.int 6))]))),(.sub (.idx (.O 1) (.O 3)) (.call 16 [.O 0,(.bi .len [(.idx (.O 1) (.O 3))])]) (.O 4))] [])]⟩
def B9:Fn:=⟨1,8,[(.set (.nm 1) (.call 15 [.O 0])),(.set (.nm 2) (.call 17 [.O 1])),(.set (.nm 3) (.call 21 [.O 2,(.call 20 [.O 1,.O 2])])),(.for (.nm 4) (.YT (.call 16 [.O 1,(.Z0 (.int 4))])) [(.exp (.call 24 [.O 1,.O 3]))]),(.Zs (.cmp .eq (.call 16 [.O 1,(.Z0 (.int 12))]) (.Z0 (.int 0))) [(.set (.nm 3) (.S []))] []),(.set (.nm 5) (.call 23 [.O 2,.O 3])),(.set (.nm 6) (.comp 1 [] [((.nm 0),.O 3,[])] (.bi .list [.O 0]))),(.set (.nm 7) (.call 22 [.O 2,.O 3])),(.Zs (.cmp .WN (.O 5) (.Z0 .ZR)) [(.ret (.and (.Y1 (.O 7) (.own 211529932)) (.and (.call 14 [(.Xx (.O 7) 243136498 [(211529932,12,[.inl 0])] [] []),.O 6]) (.cmp .eq (.O 3) (.O 6)))))] []),(.ret (.and (.call 14 [.O 7,.O 5]) (.cmp .eq (.O 3) (.O 6))))]⟩
def L:List Fn:=[CU,GZ,ES,E9,E8,E7,Fh,E6,ER,EW,E1,EM,EX,Ck,E2,E5,EZ,EU,EO,E3,EN,EV,ET,E4,EY,B9]
end ZC
end
section
namespace ZC
noncomputable section
open PySem PI L2
def A8:List Inf:=[⟨"is_whole",["thing"],["thing"],none,none⟩,⟨"places",["plan","wide","deep","side"],["plan"],none,none⟩,⟨"block_roots",["i","j","side","x","y","right","top"],["i","j","side"],none,none⟩,⟨"roots",["plan","wide","deep","side"],["plan"],none,none⟩,⟨"middle",["shape","ax","ay","bx","by"],["shape"],none,none⟩,⟨"halved",["shape","place","x","y","ax","ay","bx","by","cx","cy"],["shape"],none,none⟩,⟨"kin",["starts","told","waiting","shape"],["starts"],none,none⟩,⟨"shapes",["plan"],["plan"],none,none⟩,⟨"need_height",["at","high"],["at","high"],none,none⟩,⟨"need_size",["things","size"],["things","size"],none,none⟩,⟨"read_rows",["plan","rows","wide","deep","side","row","heights","y","x","high"],["plan","rows"],none,none⟩,⟨"Land.__init__",["self","plan","rows"],["self","plan","rows"],some ("Land","__init__"),some (⟨["self","plan","rows"],[],[("rows",.ZR)]⟩,1)⟩,⟨"Land.rows",["self","wide","deep","side"],["self"],some ("Land","rows"),some (⟨["self"],[],[]⟩,0)⟩,⟨"_law_whole",["_law_found"],["_law_found"],none,none⟩,⟨"_law_same",["_law_found","_law_due_here","_law_k"],["_law_found","_law_due_here"],none,none⟩,⟨"_law_bag",["_law_script"],["_law_script"],none,none⟩,⟨"_law_draw",["_law_bag_here","_law_many","_law_cells","_law_at","_law_cell"],["_law_bag_here","_law_many"],none,none⟩,⟨"_law_plan",["_law_bag_here","_law_menu"],["_law_bag_here"],none,none⟩,⟨"_law_places",["_law_plan_here","_law_found","_law_x","_law_y"],["_law_plan_here"],none,none⟩,⟨"_law_high",["_law_bag_here","_law_kind"],["_law_bag_here","_law_kind"],none,none⟩,⟨"_law_heights",["_law_bag_here","_law_plan_here","_law_kind","_law_across","_law_along","_law_found","_law_at"],["_law_bag_here","_law_plan_here"],none,none⟩,⟨"_law_rows",["_law_plan_here","_law_heights_here","_law_found","_law_y"],["_law_plan_here","_law_heights_here"],none,none⟩,⟨"_law_told",["_law_plan_here","_law_rows_here","_law_told_here","e"],["_law_plan_here","_law_rows_here"],none,none⟩,⟨"_law_due",["_law_plan_here","_law_rows_here","_law_row","_law_y","_law_x"],["_law_plan_here","_law_rows_here"],none,none⟩,⟨"_law_bend",["_law_bag_here","_law_rows_here","_law_kind","_law_y","_law_high_here"],["_law_bag_here","_law_rows_here"],none,none⟩,⟨"law",["_law_script","_law_bag_here","_law_plan_here","_law_rows_here","_law_k","_law_due_here","_law_kept","_law_told_here"],["_law_script"],none,none⟩]
def ms:List Str:=["__init__","rows"]
def T:Tab:=⟨["is_whole","places","block_roots","roots","middle","halved","kin","shapes","need_height","need_size","read_rows","__debug__","__debug__","_law_whole","_law_same","_law_bag","_law_draw","_law_plan","_law_places","_law_high","_law_heights","_law_rows","_law_told","_law_due","_law_bend","law"],[("HIGH",(.int 1000))],["abs","bool","enumerate","int","isinstance","len","list","range","str","tuple"],DF A8,DE A8,C3 A8 ms,[("plan",[211529932]),("edition",[211529932]),("tries",[211529932]),("dates",[211529932]),("done",[211529932]),("undone",[211529932]),("gaps",[211529932]),("heights",[211529932]),("size",[211529932]),("at",[211529932]),("high",[211529932])],[("Land",211529932)],["_law_told_here"],["need_height","need_size","read_rows","Land.__init__","_law_told"],[("BadHeight",["at","high"],[("LandError",true),("BadSize",false)]),("BadSize",["size"],[("LandError",true)])],Dl A8 ["need_height","need_size","read_rows","Land.__init__","_law_told"]⟩
def loose:List Str:=(["_wall","LandError","LookError","NoShare","BadSize","BadHeight","NoHalf","NoPlace","NoTriangle","NothingLeft","is_whole","in_land","need_place","places","block_roots","roots","middle","halved","kin","shapes","turn","box","in_box","covers","under","share","common","HIGH","need_height","need_size","read_rows","touched","plane","Land","_law_whole","_law_same","_law_bag","_law_draw","_law_plan","_law_places","_law_high","_law_heights","_law_rows","_law_told","_law_due","_law_bend"].map Str.ofString)
end
end ZC
end
section
open PySem PySem.W PyProof.Rows
noncomputable def ZC.Uk:List (Option (Scope×List Stmt)):=[PI.Ar #[0] 12,PI.Ar #[0] 15,PI.Ar #[0] 17,PI.Ar #[0] 18,PI.Ar #[0] 19,PI.Ar #[0] 20,PI.Ar #[0] 21,PI.Ar #[0] 22,PI.Ar #[0] 33,PI.Ar #[0] 34,PI.Ar #[0] 35,PI.Gg #[0] 38 0,PI.Gg #[0] 38 3,PI.Ar #[0] 40,PI.Ar #[0] 41,PI.Ar #[0] 42,PI.Ar #[0] 43,PI.Ar #[0] 44,PI.Ar #[0] 45,PI.Ar #[0] 46,PI.Ar #[0] 47,PI.Ar #[0] 48,PI.Ar #[0] 49,PI.Ar #[0] 50,PI.Ar #[0] 51,PI.Ar #[0] 52]
def ZC.Tq(w:World):(PI.endsF PySem.Challenge.rw_braemantle_k33_land_refused.prog w 20000).map (λs=>(Fast.tw4187177175401517315 (PI.lastOf PySem.Challenge.rw_braemantle_k33_land_refused.prog) ZC.loose (PySem.importedModules #[0]) (λ_=>true) true s,PI.Eu ZC.T (PI.Bf s.heap) ZC.A8))=some (openGood (PI.lastOf PySem.Challenge.rw_braemantle_k33_land_refused.prog) ZC.loose,true):=by kernel_rfl
def ZC.chk1(w:World):(PI.endsF PySem.Challenge.rw_braemantle_k33_land_refused.prog w 20000).map (λs=>(ZC.A8.take 26).map (PI.DG (PI.Bf s.heap)))=some (ZC.Uk.take 26):=by kernel_rfl
def ZC.part0:PI.Ab (((ZC.A8.zip ZC.Uk).take 14).map (PI.mkF ZC.T))=some (ZC.L.take 14):=by kernel_rfl
def ZC.part1:PI.Ab ((((ZC.A8.zip ZC.Uk).drop 14).take 7).map (PI.mkF ZC.T))=some ((ZC.L.drop 14).take 7):=by kernel_rfl
def ZC.part2:PI.Ab ((((ZC.A8.zip ZC.Uk).drop 21).take 5).map (PI.mkF ZC.T))=some ((ZC.L.drop 21).take 5):=by kernel_rfl
end
variable{xs M ZW:List PI.U}{u:PI.U}{o' c a' e' elt Zp Zz:PI.E}{tb hs:List (Nat×Nat×List (Nat ⊕ PI.U))}{op:PI.Cp}{Z3:List (List Int×PI.U)}{pm:List (Nat ⊕ PI.U)}{ZI cs:List PI.E}{is:List PI.Inf}{ZD gs:List (PI.Tg×PI.E×List PI.E)}{Y6:List PI.Z5}{ce:PySem.Expr->Option PI.E}
namespace L2
open PySem PySem.Spec PyProof.Rows
abbrev Key:=Sum Int Str
def B6:Key->Value->Bool
 |.inl k,v=>Value.isInt k v
 |.inr x,v=>Value.isStrOf x v
def HH(w:World):Key->Int
 |.inl k=>hashInt k
 |.inr x=>hashStr w x
def aO:∀{k:Key} {v:Value},B6 k v=true->(∃i t,k=Sum.inl i/\v=Value.int i t)\/(∃x t,k=Sum.inr x/\v=Value.str x t)
 |.inl i,v,h=>by
  let⟨t,e⟩:=Value.isInt_shape (k:=i) (v:=v) h;exact .inl ⟨i,t,rfl,e⟩
 |.inr x,v,h=>by
  let⟨t,e⟩:=Value.isStrOf_shape (x:=x) (v:=v) h;exact .inr ⟨x,t,rfl,e⟩
def uC(i:Int)(t:Tok):B6 (.inl i) (.int i t)=true:=by simp[B6,Value.isInt]
def uK(x:Str)(t:Tok):B6 (.inr x) (.str x t)=true:=by simp[B6,Value.isStrOf]
def zQ(a b:Int):decide ((Sum.inl a:Key)=Sum.inl b)=(a==b):=by
 by_cases e:a=b
 .subst e;simp
 .have h : ¬ (Sum.inl a:Key)=Sum.inl b:=λq=>e (Sum.inl.inj q)
  rw[Sa h];exact(Si.mpr e).symm
def aaD(a b:Str):decide ((Sum.inr a:Key)=Sum.inr b)=decide (a=b):=by
 by_cases e:a=b
 .subst e;simp
 .have h : ¬ (Sum.inr a:Key)=Sum.inr b:=λq=>e (QM q)
  rw[Sa h,Sa e]
def yO(a:Int)(b:Str):decide ((Sum.inl a:Key)=Sum.inr b)=false:=Sa (λq=>nomatch q)
def aad(a:Str)(b:Int):decide ((Sum.inr a:Key)=Sum.inl b)=false:=Sa (λq=>nomatch q)
def AO(prog:Program)(w:World):PySem.KeyKind prog w Key where
 is:=B6
 hash:=HH w
 inj:=λv a b ha hb=>by
  rcases aO ha with⟨i,t,rfl,rfl⟩|⟨x,t,rfl,rfl⟩
  .rcases aO hb with⟨j,u,rfl,e⟩|⟨y,u,rfl,e⟩
   .injection e with e1 _;rw[e1]
   .exact nomatch e
  .rcases aO hb with⟨j,u,rfl,e⟩|⟨y,u,rfl,e⟩
   .exact nomatch e
   .injection e with e1 _;rw[e1]
 byValue:=λk v h=>by
  rcases aO h with⟨i,t,rfl,rfl⟩|⟨x,t,rfl,rfl⟩<;>rfl
 pyHash:=λhv h=>by
  rcases aO hv with⟨i,t,rfl,rfl⟩|⟨x,t,rfl,rfl⟩
  .exact wpAny_pyHash_int h
  .exact wpAny_pyHash_str h
 eqBool:=λhu hv h=>by
  rcases aO hu with⟨i,t,rfl,rfl⟩|⟨x,t,rfl,rfl⟩
  .rcases aO hv with⟨j,u,rfl,rfl⟩|⟨y,u,rfl,rfl⟩
   .rw [zQ]at h;exact wpAny_eqBool_int h
   .rw [yO]at h;exact SeqAt.EqAt.int_str i t y u _ _ _ _ h
  .rcases aO hv with⟨j,u,rfl,rfl⟩|⟨y,u,rfl,rfl⟩
   .rw [aad]at h;exact SeqAt.EqAt.str_int x t j u _ _ _ _ h
   .rw [aaD]at h;exact wpAny_eqBool_str h
 «strs»:=λk x t v h=>by
  rcases aO h with⟨i,u,rfl,e⟩|⟨y,u,rfl,e⟩
  .exact nomatch e
  .injection e with e1 _
   subst e1;cases v<;>rfl
def sA(prog:Program)(w:World)(i:Int)(t:Tok):(AO prog w).is (.inl i) (.int i t)=true:=uC i t
def sI(prog:Program)(w:World)(x:Str)(t:Tok):(AO prog w).is (.inr x) (.str x t)=true:=uK x t
end L2
namespace L2
open PySem PySem.Spec PyProof.Rows
inductive V where
 |ZR|bl (b:Bool)|int (i:Int)|str (x:Str)|Xv (b:Array UInt8)|Vx (b:UInt64)|ref (a:Addr)|ty (n:String)
 deriving DecidableEq
def RelV:V->Value->Prop
 |.ZR,u=>u=Value.none
 |.bl b,u=>u=Value.bool b
 |.int i,u=>∃t,u=Value.int i t
 |.str x,u=>∃t,u=Value.str x t
 |.Xv b,u=>∃t,u=Value.bytes b t
 |.Vx b,u=>∃t,u=Value.float b t
 |.ref a,u=>u=Value.ref a
 |.ty n,u=>u=Value.type n
abbrev ZM:List V->List Value->Prop:=Paired RelV
def ZM.length{xs:List V}{M:List Value}(r:ZM xs M):xs.length=M.length:=RN r
def ZM.get:∀{xs:List V} {M:List Value} {i:Nat} {x:V},ZM xs M->xs[i]?=some x ->∃u,M[i]?=some u/\RelV x u
 |_,_,_,_,.nil,e=>by simp at e
 |_,_,0,_,.cons r _,e=>by simp at e;subst e;exact⟨_,rfl,r⟩
 |_,_,i+1,x,.cons _ t,e=>by
  let⟨u,h1,h2⟩:=ZM.get (i:=i) (x:=x) t (by simpa using e)
  exact⟨u,by simpa using h1,h2⟩
def ZM.set{x:V}{u:Value}(r:RelV x u):∀{xs:List V} {M:List Value} (i:Nat),ZM xs M->ZM (xs.set i x) (M.set i u)
 |_,_,_,.nil=>.nil
 |_,_,0,.cons _ t=>.cons r t
 |_,_,i+1,.cons q t=>.cons q (ZM.set r i t)
def ZM.append:∀{xs ys:List V} {M ws:List Value},ZM xs M->ZM ys ws->ZM (xs++ys) (M++ws)
 |_,_,_,_,.nil,s=>s
 |_,_,_,_,.cons r t,s=>.cons r (ZM.append t s)
def ZM.take:∀{xs:List V} {M:List Value} (n:Nat),ZM xs M->ZM (xs.take n) (M.take n)
 |_,_,0,_=>.nil
 |_,_,_+1,.nil=>.nil
 |_,_,n+1,.cons r t=>.cons r (ZM.take n t)
def ZM.drop:∀{xs:List V} {M:List Value} (n:Nat),ZM xs M->ZM (xs.drop n) (M.drop n)
 |_,_,0,r=>r
 |_,_,_+1,.nil=>.nil
 |_,_,n+1,.cons _ t=>ZM.drop n t
def RelO:Option V->Option Value->Prop
 |some v,some u=>RelV v u
 |none,none=>True
 |_,_=>False
def KV{a:Type}:List (a×V)->List (a×Value)->Prop:=Paired λ(p:a×V) (q:a×Value)=>p.1=q.1/\RelV p.2 q.2
def IV:Key->V
 |.inl i=>.int i
 |.inr x=>.str x
set_option genInjectivity false in
inductive HO where
 |S (xs:List V)
 |ZZ (xs:List V)
 |dK (Z3:List (Key×V))|dT (Z3:List (List Key×V))
 |set (Z5:Int->Bool) (n:Nat)
 |ins (C dx:Addr) (fs:List (Str×V))
 |own (x:Addr)
 |xd (fs:List (Str×V))
 |met (f x:Addr)
 |YY (lo hi:Int)
 |Zo (o:Obj) (u:HO)
 |Wt (ps:Array Value)
 |ext (φ:Heap->Prop)
abbrev Hp:=Addr->Option HO
def upd(H:Hp)(a:Addr)(o:HO):Hp:=λb=>if b=a then some o else H b
def upd_same{H:Hp}{o:HO}:upd H a o a=some o:=by unfold upd;rw[XW rfl]
def aa{H:Hp}{b:Addr}{o:HO}(h:b≠a):upd H a o b=H b:=by unfold upd;rw[WV h]
def wR{H:Hp}{o u:HO}:upd (upd H a o) a u=upd H a u:=by
 funext b;unfold upd;split<;>rfl
def cO{H:Hp}{b:Addr}{o u:HO}(h:H a=some o)(h':H b=some u)(d:o≠u):a≠b:=by
 intro e;subst e;rw[h]at h';exact d (Vm h')
def aG{H:Hp}{b:Addr}{o:HO}(h:H a=some o)(h':H b=none):a≠b:=by
 intro e;subst e;rw[h]at h';cases h'
section
variable(P:Program)(w:World)
def ObjOk(H:Hp)(h:Heap)(a:Addr):HO->Prop
 |.S xs=>xs.length<=sizeLine /\∃(ZY:List Value) (n:Nat),ZM xs ZY/\h.get? a=some {cls:=.type "list",data:=.seq ZY.toArray n}
 |.ZZ xs=>xs.length<=sizeLine /\∃ZY:List Value,ZM xs ZY/\IsTup h a ZY.toArray
 |.dK Z3=>Z3.length<=sizeLine/\(a==sysModules)=false /\∃vs,KV Z3 vs/\h.DictOf (AO P w) a vs
 |.dT Z3=>Z3.length<=sizeLine/\(a==sysModules)=false /\∃xs:List (List Key×Addr×Value),
   Paired (λ(p:List Key×V) (q:List Key×Addr×Value)=>p.1=q.1/\H q.2.1=some (.ZZ (p.1.map IV))/\RelV p.2 q.2.2) Z3 xs /\
   ∃o es d,h.get? a=some o/\o.ExactDict/\o.data=.dict es d/\es.toList=xs.map (entryOfKey (tupleKind (AO P w)))/\(xs.map (·.1)).Nodup
 |.set Z5 n=>h.SetOf (intKind P w) a Z5 n
 |.ins C dx fs=>H dx=some (.own a)/\fs.length<=1000/\dx≠a/\h.get? a=some (PySem.W.instObj C dx) /\
   ∃mA,h.Ns1 dx mA/\(∀f,RelO (fs.lookup f) (mA f))/\PySem.Within mA (fs.map (·.1))
 |.own _=>∃o,h.get? a=some o
 |.xd fs=>∃mA,h.Ns1 a mA /\∀f,RelO (fs.lookup f) (mA f)
 |.YY lo hi=>∃t u v,h.get? a=some {cls:=.type "range",data:=.fields #[.int lo t,.int hi u,.int 1 v]}
 |.Zo o u=>h.get? a=some o/\ObjOk H h a u
 |.Wt ps=>h.get? a=some {cls:=.none,data:=.fields ps}
 |.met f x=>h.get? a=some (PySem.W.methodObj (.ref f) (.ref x))
 |.ext c=>c h/\(∃o,h.get? a=some o) /\∀h1 h2:Heap,c h1->(∀o,h1.get? a=some o->h2.get? a=some o)->c h2
def HOk(H:Hp)(h:Heap):Prop:=∀a o,H a=some o->ObjOk P w H h a o
end
section
variable{H H':Hp}{o:HO}
def ObjOk.lt(x:ObjOk P w H h a o):a<h.objs.size:=by
 cases o with
 |S xs=>let⟨_,_,_,_,e⟩:=x;exact Ia e
 |ZZ xs=>let⟨_,_,_,p⟩:=x;exact p.lt
 |dK Z3=>let⟨_,_,_,_,o,_,_,e,_⟩:=x;exact Ia e
 |dT Z3=>let⟨_,_,_,_,o,_,_,e,_⟩:=x;exact Ia e
 |set Z5 n=>let⟨o,_,_,_,e,_⟩:=x;exact Ia e
 |ins C dx fs=>let⟨_,_,_,e,_⟩:=x;exact Ia e
 |own y=>let⟨_,e⟩:=x;exact Ia e
 |xd fs=>let⟨_,⟨_,_,_,e,_⟩,_⟩:=x;exact Ia e
 |YY lo hi=>let⟨_,_,_,e⟩:=x;exact Ia e
 |Zo ob u=>let⟨e,_⟩:=x;exact Ia e
 |Wt ps=>exact Ia (show h.get? a=some _ from x)
 |met f y=>exact Ia (show h.get? a=some _ from x)
 |ext b=>let⟨_,⟨_,e⟩,_⟩:=x;exact Ia e
def Paired.T7{d c:Type}{F G:d->c->Prop}:∀{Tp : List d} {To : List c},Paired F Tp To -> (∀a b,F a b->G a b)->Paired G Tp To
 |_,_,.nil,_=>.nil
 |_,_,.cons r t,f=>.cons (f _ _ r) (Paired.T7 t f)
def ObjOk.YO(x:ObjOk P w H h a o)(k:∀b u,(b=a\/H b=some (.own a))->h.get? b=some u->h'.get? b=some u)
  (l:∀b,H b=some (.own a)->H' b=some (.own a)) (j:∀b xs,H b=some (.ZZ xs)->H' b=some (.ZZ xs)):ObjOk P w H' h' a o:=by
 induction o with
 |S xs=>let⟨z,ZY,n,r,e⟩:=x;exact⟨z,ZY,n,r,k _ _ (.inl rfl) e⟩
 |ZZ xs=>let⟨z,ZY,r,ob,e,c⟩:=x;exact⟨z,ZY,r,ob,k _ _ (.inl rfl) e,c⟩
 |dK Z3=>let⟨z,y,vs,r,ob,es,g,e,c⟩:=x;exact⟨z,y,vs,r,ob,es,g,k _ _ (.inl rfl) e,c⟩
 |dT Z3=>
  let⟨z,y,xs,r,ob,es,g,e,c⟩:=x;exact⟨z,y,xs,Paired.T7 r λp q z=>⟨z.1,j _ _ z.2.1,z.2.2⟩,ob,es,g,k _ _ (.inl rfl) e,c⟩
 |set Z5 n=>let⟨ob,es,g,t,e,c⟩:=x;exact⟨ob,es,g,t,k _ _ (.inl rfl) e,c⟩
 |ins C dx fs=>
  let⟨d,z,i,e,mA,⟨od,es,g,m,c⟩,r⟩:=x;exact⟨l _ d,z,i,k _ _ (.inl rfl) e,mA,⟨od,es,g,k _ _ (.inr d) m,c⟩,r⟩
 |own y=>let⟨ob,e⟩:=x;exact⟨ob,k _ _ (.inl rfl) e⟩
 |xd fs=>let⟨mA,⟨od,es,g,e,c⟩,r⟩:=x;exact⟨mA,⟨od,es,g,k _ _ (.inl rfl) e,c⟩,r⟩
 |YY lo hi=>let⟨t,u,v,e⟩:=x;exact⟨t,u,v,k _ _ (.inl rfl) e⟩
 |Zo ob u ih=>let⟨e,q⟩:=x;exact⟨k _ _ (.inl rfl) e,ih q⟩
 |Wt ps=>
  have e:h.get? a=some {cls:=.none,data:=.fields ps}:=x;show h'.get? a=some {cls:=.none,data:=.fields ps};exact k a _ (.inl rfl) e
 |met f y=>
  have e:h.get? a=some (PySem.W.methodObj (.ref f) (.ref y)):=x;show h'.get? a=some (PySem.W.methodObj (.ref f) (.ref y));exact k a _ (.inl rfl) e
 |ext s=>let⟨p,⟨o,e⟩,st⟩:=x;exact⟨st _ _ p λo q=>k _ _ (.inl rfl) q,⟨o,k _ _ (.inl rfl) e⟩,st⟩
def HOk.lt(x:HOk P w H h)(e:H a=some o):a<h.objs.size:=(x a o e).lt
def HOk.fresh(x:HOk P w H h)(e:h.objs.size<=a):H a=none:=by
 cases q:H a with
 |none=>rfl
 |some u=>exact absurd (Ih (x.lt q) e) (U_ _)
def HOk.kept(x:HOk P w H h)(k:∀b u,h.get? b=some u->h'.get? b=some u):HOk P w H h':=λa o e=>
 (x a o e).YO (λb u _ q=>k b u q) (λ_ q=>q) λ_ _ q=>q
def HOk.laid(x:HOk P w H h)(k:∀b u,h.get? b=some u->h'.get? b=some u)(hp:h.objs.size<=a)(d:ObjOk P w (upd H a o) h' a o):HOk P w (upd H a o) h':=λb u e=>by
 have f:=x.fresh hp;by_cases g:b=a
 .subst g;rw[upd_same]at e;cases e;exact d
 .rw [aa g]at e
  exact(x b u e).YO (λc v _ q=>k c v q) (λc q=>by rw[aa (aG q f)];exact q) λc xs q=>by rw[aa (aG q f)];exact q
end
def Rd(H:Hp)(a:Addr)(u:HO):Prop:=H a=some u \/∃o,H a=some (.Zo o u)
def Rd.ok{H:Hp}{u:HO}(r:Rd H a u)(x:HOk P w H h):ObjOk P w H h a u:=by
 rcases r with r|⟨o,r⟩
 .exact x a u r
 .obtain ⟨_,q⟩:=x a _ r
  exact q
def Mut:Option HO->Prop
 |some (.S _)=>True
 |some (.dK _)=>True
 |some (.dT _)=>True
 |some (.set _ _)=>True
 |some (.ins _ _ _)=>True
 |some (.ext _)=>True
 |_=>False
section
variable{H:Hp}{x e:Addr}{o':HO}
def HOk.write(o:HOk P w H h)(d:Mut (H x))(m:e=x\/H e=some (.own x))(k:∀b u,b≠e->h.get? b=some u->h'.get? b=some u)(s:∃u,h'.get? e=some u)
  (j:ObjOk P w (upd H x o') h' x o'):HOk P w (upd H x o') h':=λb u q=>by
 have n:∀c y,H c=some (.own y)->c≠x:=λc y r z=>by subst z;rw[r]at d;exact d
 have a:∀c xs,H c=some (.ZZ xs)->c≠x:=λc xs r z=>by subst z;rw[r]at d;exact d
 by_cases g:b=x
 .subst g;rw[upd_same]at q;cases q;exact j
 .rw [aa g]at q
  by_cases i:b=e
  .have l:H b=some (.own x):=by
    rcases m with z|z
    .exact absurd (i.trans z) g
    .rw [i];exact z
   rw[q]at l;cases l;let⟨v,p⟩:=s;exact⟨v,by rw[i];exact p⟩
  .refine (o b u q).YO (λc v f r=>k c v ?_ r) (λc r=>by rw[aa (n c b r)];exact r) λc xs r=>by rw[aa (a c xs r)];exact r
   rcases f with rfl|f
   .exact i
   .rintro rfl
    rcases m with z|z
    .exact n c b f z
    .rw [f]at z;cases z;exact g rfl
end
structure Un(fs ex:List Addr)(H H':Hp)(h h':Heap):Prop where
 keep:∀b o,h.get? b=some o->H b=none->b ∉ fs->b ∉ ex->h'.get? b=some o
 slot:∀b o,h.get? b=some o->H b=none->b∈fs->b ∉ ex ->∃sl,h'.get? b=some {o with slots:=sl}
 free:∀b o,h.get? b=some o->H b=none->b ∉ ex->H' b=none
 there:∀b o,h.get? b=some o->b ∉ ex ->∃o',h'.get? b=some o'
 XU:∀b xs,H b=some (.ZZ xs)->H' b=some (.ZZ xs)
 X2:∀b o u,H b=some (.Zo o u)->H' b=some (.Zo o u)
 XT:∀b ps,H b=some (.Wt ps) ->∃more,H' b=some (.Wt (ps++more))
section
variable{fs Vv ex ex':List Addr}{H H1 H2:Hp}{h1 h2:Heap}{x e:Addr}{o:HO}
def Un.any(u:Un fs ex H H1 h h1){b:Addr}{a:Obj}(q:h.get? b=some a)(n:H b=none)(hx:b ∉ ex):∃d,h1.get? b=some {a with slots:=d}:=by
 by_cases c:b∈fs
 .exact u.slot b a q n c hx
 .exact ⟨a.slots,u.keep b a q n c hx⟩
def Un.kept(k:∀b u,h.get? b=some u->h'.get? b=some u):Un fs ex H H h h':=
 ⟨λb ob q _ _ _=>k b ob q,λb ob q _ _ _=>⟨ob.slots,k b ob q⟩,λ_ _ _ n _=>n,λb ob q _=>⟨ob,k b ob q⟩,λ_ _ q=>q,λ_ _ _ q=>q,λ_ ps q=>⟨#[],by rw[q];simp⟩⟩
def Un.refl:Un fs ex H H h h:=Un.kept λ_ _ q=>q
def Un.laid(k:∀b u,h.get? b=some u->h'.get? b=some u)(hp:h.objs.size<=a)(hn:H a=none):Un fs ex H (upd H a o) h h' where
 keep:=λb u q _ _ _=>k b u q
 slot:=λb u q _ _ _=>⟨u.slots,k b u q⟩
 free:=λb u q n _=>by rw[aa (Ii (Ih (Ia q) hp))];exact n
 there:=λb u q _=>⟨u,k b u q⟩
 XU:=λb xs q=>by rw[aa (aG q hn)];exact q
 X2:=λb u xs q=>by rw[aa (aG q hn)];exact q
 XT:=λb ps q=>⟨#[],by rw[aa (aG q hn),q];simp⟩
def Un.write(a:Mut (H x))(j:e=x\/H e=some (.own x))(k:∀b u,b≠e->h.get? b=some u->h'.get? b=some u)(t:∃u,h'.get? e=some u):Un fs ex H (upd H x o) h h':=by
 have d:∀b,H b=none->b≠x:=λb n z=>by subst z;rw[n]at a;exact a
 have f:∀b,H b=none->b≠e:=λb n z=>by
  subst z;rcases j with r|r
  .exact d b n r
  .rw [n]at r;cases r
 have c:∀b u,H b=some u -> ¬ Mut (some u)->b≠x:=λb u q nm z=>by subst z;rw[q]at a;exact nm a
 refine ⟨λb u q n _ _=>k b u (f b n) q,λb u q n _ _=>⟨u.slots,k b u (f b n) q⟩,λb u q n _=>by rw [aa (d b n)];exact n,λb u q _ => ?_,
  λb xs q=>by rw[aa (c b _ q λz=>z)];exact q,λb u xs q=>by rw[aa (c b _ q λz=>z)];exact q,λb ps q=>⟨#[],by rw[aa (c b _ q λz=>z),q];simp⟩⟩
 by_cases g:b=e
 .subst g;exact t
 .exact ⟨u,k b u g q⟩
end
def IW(h:Heap)(H:Hp):List Addr:=(List.range h.objs.size).filter λa=>(H a).isSome
def Bs(h:Heap)(H:Hp):Heap:=PySem.W.hideAll h (IW h H)
def uJ(h:Heap)(H:Hp):(Bs h H).objs.size=h.objs.size:=PySem.W.hideAll_size _ _
def vB{H:Hp}{b:Addr}{o:Obj}(e:h.get? b=some o)(n:H b=none):(Bs h H).get? b=some o:=
 PySem.W.hideAll_get _ e λa=>by
  have q:(H b).isSome=true:=(List.mem_filter.mp a).2;rw[n]at q;simp at q
def wz{H:Hp}{b:Addr}{o:Obj}(e:(Bs h H).get? b=some o):h.get? b=some o/\H b=none:=by
 have e':h.get? b=some o:=PySem.W.of_hideAll (IW h H) e;refine⟨e',?_⟩;cases q:H b with
 |none=>rfl
 |some x=>
  have a:b∈IW h H:=List.mem_filter.mpr ⟨List.mem_range.mpr (Ia e'),by simp[q]⟩
  have z:(Bs h H).get? b=none:=PySem.W.hideAll_none (IW h H) a;rw[z]at e;cases e
end L2
variable{H H':L2.Hp}{v y:L2.V}{vs:List L2.V}{gV:List L2.V->List L2.V->List L2.V}{ZH:List (PySem.Str×L2.V)}{Q2:L2.V->L2.Hp->Prop}
namespace L2
open PySem PySem.Spec PyProof.Rows
structure Mod(K:Il)(mg:Str->Option Value)(base:Heap):Prop where
 kin:K.In base
 glob:base.Ns mainGlobals mg
 blt:∃mb,base.Ns builtinsNs mb /\∀x:Str,x ≠ "__name__" -> mb x=bootBuiltins x
 nolimit:base.NoLimit
set_option genInjectivity false in
structure Cx where
 prog:Program
 w:World
 K:Il
 mg:Str->Option Value
 base:Heap
 A:Around
 N:List Str
 ZK : Shared
 W1 : Hp
 env:Env
 outer:List Env
 stack:List Env
 ex:List Addr
 fn:Str->Bool
 calm:Bool
 pn:List (Addr×Obj)
 xe:Value->Shared->Prop
def frs(l:List Env):List Addr:=l.filterMap (·.frame)
abbrev Cx.fs(X:Cx):List Addr:=frs X.outer
def Vis(a:Scope)(x:Str):Prop:=a.names.lookup x=some .local\/a.names.lookup x=some .cell\/a.names.lookup x=some .free
def Loc(a:Scope)(x:Str):Prop:=a.names.lookup x=some .local\/a.names.lookup x=some .cell
def Look(env:Env)(h:Heap)(m:Str->Option Value)(x:Str)(u:Value):Prop:=
 (env.kindOf x=some .local/\m x=some u)\/((env.kindOf x=some .cell\/env.kindOf x=some .free) /\∃c,env.cells.lookup x=some c/\h.IsCell c (some u))
structure Cx.Ok(X:Cx):Prop where
 mod:Mod X.K X.mg X.base
 kind:X.env.scope.kind=.function
 glob:X.env.globals=mainGlobals
 blt:X.env.builtins=builtinsNs
 above:X.ZK.heap.objs.size<=X.env.locals
 inj:∀x y c,X.env.cells.lookup x=some c->X.env.cells.lookup y=some c->x=y
 has:∀x,(X.env.kindOf x=some .cell\/X.env.kindOf x=some .free) ->∃c,X.env.cells.lookup x=some c
 V7:∀x c,X.fn x=true->X.env.cells.lookup x=some c->X.ZK.heap.objs.size<=c
 hd:X.calm=true->X.A.handled=none
 frames:X.A.frames=some X.stack
 WZ:X.stack=X.outer\/(X.stack=X.env::X.outer/\X.env.frame=some X.env.locals)
 exf:∀b∈X.ex,b≠X.env.locals /\∀x c,X.env.cells.lookup x=some c->c≠b
 bs:∀b o,X.base.get? b=some o->X.ZK.heap.get? b=some o/\X.W1 b=none
 Xu:X.base.objs.size<=X.ZK.heap.objs.size
 Y9:∀b o,X.base.get? b=some o->b ∉ X.ex
 Vu:∀b∈X.ex,b ∉ X.fs
 Yg:X.ZK.heap.FunFrames X.base X.outer
 WY:∀b∈X.fs,X.W1 b=none
structure Z4(X:Cx)(Y:List (Addr×Obj))(Z:List (Option V))(H:Hp)(s:Shared):Prop where
 ok:X.Ok
 os:s.os=X.ZK.os
 bare:AllBare s.gens
 base:Un X.fs X.ex X.W1 H X.ZK.heap s.heap
 loc:∃m,s.heap.Ns X.env.locals m /\∀(i:Nat) (x:Str) (v:V),X.N[i]?=some x->Z[i]?=some (some v)->Vis X.env.scope x ->∃u,RelV v u/\Look X.env s.heap m x u
 cell:∀x c,X.env.cells.lookup x=some c ->∃v,s.heap.IsCell c v
 free:H X.env.locals=none
 Yw:∀x c,X.env.cells.lookup x=some c->H c=none
 pin:∀p∈X.pn++Y,s.heap.get? p.1=some p.2/\H p.1=none/\p.1≠X.env.locals/\p.1 ∉ X.fs /\∀v,p.2.data ≠ .cell v
 ZO:HOk X.prog X.w H s.heap
 len:Z.length=X.N.length
section
variable{X:Cx}{Z:List (Option V)}
def Cx.Ok.nofr(a:X.Ok){b:Addr}{o:Obj}(e:X.base.get? b=some o):b ∉ X.fs:=λc=>by
 have:=(a.Yg.mem c).1;rw[e]at this;cases this
def Z4.bs(I:Z4 X Y Z H s):∀b o,X.base.get? b=some o->s.heap.get? b=some o/\H b=none:=λb o e=>
 ⟨I.base.keep b o (I.ok.bs b o e).1 (I.ok.bs b o e).2 (I.ok.nofr e) (I.ok.Y9 b o e),I.base.free b o (I.ok.bs b o e).1 (I.ok.bs b o e).2 (I.ok.Y9 b o e)⟩
def Z4.bk(I:Z4 X Y Z H s):∀b o,X.base.get? b=some o->s.heap.get? b=some o:=λb o e=>(I.bs b o e).1
def Z4.mod(I:Z4 X Y Z H s):Mod X.K X.mg X.base:=I.ok.mod
def Z4.Zt(I:Z4 X Y Z H s):X.K.In s.heap:=I.ok.mod.kin.keeps I.bk
def Z4.lt(I:Z4 X Y Z H s):X.env.locals<s.heap.objs.size:=let⟨_,a,_⟩:=I.loc;a.lt
def Z4.sz(I:Z4 X Y Z H s):X.ZK.heap.objs.size<=s.heap.objs.size:=Ib I.ok.above (Qx I.lt)
def Z4.nofs(I:Z4 X Y Z H s)(h:s.heap.objs.size<=a):a ∉ X.fs:=λb=>by
 let⟨_,o,ho,_⟩:=I.ok.Yg.mem b;exact absurd (Ih (Ia ho) (Ib I.sz h)) (U_ _)
def Z4.Xg(I:Z4 X Y Z H s):∀x c,X.env.cells.lookup x=some c->c≠X.env.locals:=λx c e z=>by
 let⟨v,o,ho,a⟩:=I.cell x c e;let⟨m,⟨o',es,f,b,d,_⟩,_⟩:=I.loc;rw[z,b]at ho;cases ho;rw[d]at a;cases a
def Z4.Yg(I:Z4 X Y Z H s):s.heap.FunFrames X.base X.outer:=by
 have all:∀(l:List Env),(∀b∈frs l,b∈X.fs)->X.ZK.heap.FunFrames X.base l->s.heap.FunFrames X.base l:=by
  intro l
  induction l with
  |nil=>intro _ _;trivial
  |cons env r ih=>
   intro hs h;let⟨hk,⟨Z9,o,a,g,ho,i⟩,f⟩:=h;have d:Z9∈X.fs:=hs Z9 (by unfold frs;rw[VQ,a];exact W_)
   let⟨j,e⟩:=I.base.slot Z9 o ho (I.ok.WY Z9 d) d λz=>I.ok.Vu Z9 z d;exact⟨hk,⟨Z9,_,a,g,e,i⟩,ih (λb c=>hs b (by unfold frs;rw[VQ,a];exact Ig _ c)) f⟩
 exact all X.outer (λ_ c=>c) I.ok.Yg
def Z4.stack(I:Z4 X Y Z H s):s.heap.FunFrames X.base X.stack:=by
 rcases I.ok.WZ with e|⟨e,hf⟩
 .rw [e];exact I.Yg
 .rw [e]
  let⟨m,a,_⟩:=I.loc;refine .cons (by rw[I.ok.kind];decide) hf a ?_ I.Yg
  exact Sw (Ib I.ok.Xu I.ok.above)
def Z4.V5(I:Z4 X Y Z H s):∀b∈frs X.stack,b∈X.env.locals::X.fs:=λb a=>by
 rcases I.ok.WZ with e|⟨e,hf⟩
 .rw [e]at a;exact Ig _ a
 .rw [e]at a
  unfold frs at a;rw[VQ,hf]at a;exact a
def Z4.Uj(I:Z4 X Y Z H s):∀b∈frs X.stack,H b=none:=λb a=>by
 rcases Xl.mp (I.V5 b a)with e|a
 .rw [e];exact I.free
 .obtain ⟨_,o,ho,_⟩:=I.ok.Yg.mem a
  exact I.base.free b o ho (I.ok.WY b a) λz=>I.ok.Vu b z a
def Z4.step{g':Array GenState}{d':Drawn}{ch:List Addr}(I:Z4 X Y Z H s)
  (B:∀b∈ch,(b∈X.ex\/X.ZK.heap.objs.size<=b)/\b≠X.env.locals/\(∀x c,X.env.cells.lookup x=some c->c≠b) /\∀p∈X.pn++Y,p.1≠b)
  (keep:∀b o,b≠X.env.locals->b ∉ X.fs->b ∉ ch->s.heap.get? b=some o->H b=none->h'.get? b=some o)
  (slot:∀b o,b≠X.env.locals->b∈X.fs->b ∉ ch->s.heap.get? b=some o->H b=none ->∃C,h'.get? b=some {o with slots:=C}) (free:∀b o,b ∉ ch->s.heap.get? b=some o->H b=none->H' b=none)
  (there:∀b o,b ∉ ch->s.heap.get? b=some o ->∃o',h'.get? b=some o')
  (XU:∀b xs,H b=some (.ZZ xs)->H' b=some (.ZZ xs)) (X2:∀b o u,H b=some (.Zo o u)->H' b=some (.Zo o u)) (XT:∀b ps,H b=some (.Wt ps) ->∃t,H' b=some (.Wt (ps++t)))
  (ns:∀m,s.heap.Ns X.env.locals m->h'.Ns X.env.locals m) (P:HOk X.prog X.w H' h') (N:AllBare g') :
  Z4 X Y Z H' {s with heap:=h',gens:=g',drawn:=d',toks:=t'}:=by
 have J:∀b o,X.ZK.heap.get? b=some o->b≠X.env.locals:=λb o e=>Ii (Ih (Ia e) I.ok.above);have g:∀b o,X.ZK.heap.get? b=some o->b ∉ X.ex->b ∉ ch:=λb o e a j=>by
  rcases(B b j).1 with z|z
  .exact a z
  .exact absurd (Ih (Ia e) z) (U_ _)
 have f:∀x c,X.env.cells.lookup x=some c ->∀v,s.heap.IsCell c v->h'.IsCell c v:=λx c e v ⟨o,ho,hd⟩=>by
  have A:c ∉ ch:=λz=>(B c z).2.2.1 x c e rfl;by_cases G:c∈X.fs
  .obtain ⟨C,q⟩:=slot c o (I.Xg x c e) G A ho (I.Yw x c e)
   exact⟨_,q,hd⟩
  .exact ⟨o,keep c o (I.Xg x c e) G A ho (I.Yw x c e),hd⟩
 refine⟨I.ok,I.os,N,⟨λb o e n j a=>?_,λb o e n j a=>?_,λb o e n a=>?_,λb o e a=>?_,λb xs e=>XU b xs (I.base.XU b xs e),λb o xs e=>X2 b o xs (I.base.X2 b o xs e),λb ps e=>?_⟩,?_,λx c e=>?_,?_,λx c e=>?_,λp F=>?_,P,I.len⟩
 .exact keep b o (J b o e) j (g b o e a) (I.base.keep b o e n j a) (I.base.free b o e n a)
 .obtain ⟨C,h⟩:=I.base.slot b o e n j a
  let⟨Q,y⟩:=slot b _ (J b o e) j (g b o e a) h (I.base.free b o e n a);exact⟨Q,y⟩
 .obtain ⟨o',h⟩:=I.base.there b o e a
  exact free b o' (g b o e a) h (I.base.free b o e n a)
 .obtain ⟨o',h⟩:=I.base.there b o e a
  exact there b o' (g b o e a) h
 .obtain ⟨m1,h⟩:=I.base.XT b ps e
  let⟨K,y⟩:=XT b _ h;exact⟨m1++K,by rw[y,Array.append_assoc]⟩
 .obtain ⟨m,L,M⟩:=I.loc
  refine⟨m,ns m L,λi x v h y O=>?_⟩;let⟨u,r,l⟩:=M i x v h y O;refine⟨u,r,?_⟩;rcases l with l|⟨k,c,e,z⟩
  .exact .inl l
  .exact .inr ⟨k,c,e,f x c e _ z⟩
 .obtain ⟨v,z⟩:=I.cell x c e
  exact⟨v,f x c e v z⟩
 .obtain ⟨m,⟨o,_,_,ho,_⟩,_⟩:=I.loc
  exact free _ o (λz=>(B _ z).2.1 rfl) ho I.free
 .obtain ⟨v,o,ho,hd⟩:=I.cell x c e
  exact free c o (λz=>(B c z).2.2.1 x c e rfl) ho (I.Yw x c e)
 .obtain ⟨e,n,E,D,d⟩:=I.pin p F
  have A:p.1 ∉ ch:=λz=>(B p.1 z).2.2.2 p F rfl;exact⟨keep p.1 p.2 E D A e n,free p.1 p.2 A e n,E,D,d⟩
def Z4.un(I:Z4 X Y Z H s)(u:Un X.fs [] H H' s.heap h')(j:HOk X.prog X.w H' h'):Z4 X Y Z H' {s with heap:=h',toks:=t'}:=by
 let⟨m,⟨o,es,y,ho,r⟩,_⟩:=id I.loc;let⟨k,g⟩:=u.any ho I.free #[3]
 exact I.step (g':=s.gens) (d':=s.drawn) (ch:=[]) (λ_ z=>nomatch z) (λb o _ a _ e n=>u.keep b o e n a #[3]) (λb o _ a _ e n=>u.slot b o e n a #[3]) (λb o _ e n=>u.free b o e n #[3]) (λb o _ e=>u.there b o e #[3]) u.XU u.X2 u.XT (λt f=>by
  let⟨o',ZI,c,d,r'⟩:=f;rw[ho]at d;cases d;exact⟨_,ZI,c,g,r'⟩) j I.bare
def Z4.call{g':Array GenState}{d':Drawn}{ch:List Addr}(I:Z4 X Y Z H s)(u:Un (frs X.stack) ch H H' s.heap h')(l:HOk X.prog X.w H' h')(j:AllBare g')
  (g:∀b∈ch,(b∈X.ex\/X.ZK.heap.objs.size<=b)/\b≠X.env.locals/\(∀x c,X.env.cells.lookup x=some c->c≠b) /\∀p∈X.pn++Y,p.1≠b) :
  Z4 X Y Z H' {s with heap:=h',gens:=g',drawn:=d',toks:=t'}:=by
 let⟨m,⟨o,es,v,ho,r⟩,_⟩:=id I.loc;let⟨q,d⟩:=u.any ho I.free λz=>(g _ z).2.1 rfl
 exact I.step (ch:=ch) g (λb o d k a e n=>u.keep b o e n (λz=>(Xl.mp (I.V5 b z)).elim d k) a) (λb o _ _ a e n=>u.any e n a) (λb o a e n=>u.free b o e n a) (λb o a e=>u.there b o e a) u.XU u.X2 u.XT (λt i=>by
  let⟨o',ZI,f,h,r'⟩:=i;rw[ho]at h;cases h;exact⟨_,ZI,f,d,r'⟩) l j
def Z4.turned{it:Addr}(I:Z4 X Y Z H s)(k:∀b o,b≠it->s.heap.get? b=some o->h'.get? b=some o)(g:H it=none)(d:it≠X.env.locals)
  (A:it∈X.ex\/X.ZK.heap.objs.size<=it) (y:∀x c,X.env.cells.lookup x=some c->c≠it) (w:∀p∈X.pn++Y,p.1≠it):Z4 X Y Z H {s with heap:=h',toks:=t'}:=by
 have f:∀b u,H b=some u->b≠it:=λb u e z=>by rw[z,g]at e;cases e
 refine I.step (g':=s.gens) (d':=s.drawn) (ch:=[it]) (λb t=>?_) (λb o _ _ a e _=>k b o (λz=>a (by simp[z])) e) (λb o _ _ a e _=>⟨o.slots,k b o (λz=>a (by simp[z])) e⟩) (λ_ _ _ _ n=>n)
  (λb o a e=>⟨o,k b o (λz=>a (by simp[z])) e⟩) (λ_ _ e=>e) (λ_ _ _ e=>e) (λb ps e=>⟨#[],by rw[e];simp⟩) (λm j=>?_) (λb u e=>?_) I.bare
 .have e:b=it:=by simpa using t
  subst e;exact⟨A,d,y,w⟩
 .obtain ⟨o,es,B,ho,r⟩:=j
  exact⟨o,es,B,k _ o (Ne.symm d) ho,r⟩
 .refine (I.ZO b u e).YO (λc v a q=>k c v ?_ q) (λ_ q=>q) λ_ _ q=>q
  rcases a with z|z
  .rw [z];exact f b u e
  .exact f c _ z
def Z4.tok(I:Z4 X Y Z H s)(t:Nat):Z4 X Y Z H {s with toks:=t}:=I.un (h':=s.heap) (t':=t) Un.refl I.ZO
def Z4.kept{t':Nat}(I:Z4 X Y Z H s)(k:∀b u,s.heap.get? b=some u->h'.get? b=some u):Z4 X Y Z H {s with heap:=h',toks:=t'}:=I.un (Un.kept k) (I.ZO.kept k)
def Z4.laid{a:Addr}{o:HO}{t':Nat}(I:Z4 X Y Z H s)(k:∀b u,s.heap.get? b=some u->h'.get? b=some u)(hp:s.heap.objs.size<=a)(c:ObjOk X.prog X.w (upd H a o) h' a o):
  Z4 X Y Z (upd H a o) {s with heap:=h',toks:=t'}:=I.un (Un.laid k hp (I.ZO.fresh hp)) (I.ZO.laid k hp c)
def Z4.write{x e:Addr}{o:HO}{t':Nat}(I:Z4 X Y Z H s)(c:Mut (H x))(d:e=x\/H e=some (.own x))(k:∀b u,b≠e->s.heap.get? b=some u->h'.get? b=some u)(f:∃u,h'.get? e=some u)
  (a:ObjOk X.prog X.w (upd H x o) h' x o):Z4 X Y Z (upd H x o) {s with heap:=h',toks:=t'}:=I.un (Un.write c d k f) (I.ZO.write c d k f a)
def Z4.Tj{a:List (Addr×Obj)}(I:Z4 X Y Z H s)(h:∀p∈a,s.heap.get? p.1=some p.2/\H p.1=none/\p.1≠X.env.locals/\p.1 ∉ X.fs /\∀v,p.2.data ≠ .cell v):Z4 X a Z H s:=
 ⟨I.ok,I.os,I.bare,I.base,I.loc,I.cell,I.free,I.Yw,λp b=>(U8.mp b).elim (λz=>I.pin p (TV _ z)) (h p),I.ZO,I.len⟩
def eW(c:N.Nodup)(a:N[i]?=some x)(b:N[j]?=some x):i=j:=by
 let⟨h1,e⟩:=Yi.mp a;let⟨h2,d⟩:=Yi.mp b;exact(List.getElem_inj c).mp (e.trans d.symm)
def ic{E:Value->Shared->Prop}{u:Value}{Q:Unit->Shared->Prop}(I:Z4 X Y Z H s)(hN:X.N.Nodup)(G:X.N[i]?=some x)(hx:Loc X.env.scope x)(r:RelV v u)
  (h:∀s',Z4 X Y (Z.set i (some v)) H s'->(∃a,Heap.SameBut a s.heap s'.heap/\(a=X.env.locals\/X.env.cells.lookup x=some a))->Q Unit.unit s') (hf:X.fn x=true\/X.env.scope.names.lookup x=some .local:=by first|exact .inl rfl|exact .inr rfl|assumption):wpAny Z8 A (storeName X.env x u) Q E s:=by
 let⟨m,T,W⟩:=id I.loc;have WK:(X.env.scope.kind==.class||(X.env.scope.kind==.module&&X.env.locals != X.env.globals))=false:=by rw[I.ok.kind];rfl
 have Ti:i<Z.length:=by rw[I.len];exact(Yi.mp G).1
 have Xg:=I.Xg;have f:∀{a:Addr} {h':Heap},(∃o,s.heap.get? a=some o/\H a=none)->Heap.SameBut a s.heap h'->HOk X.prog X.w H h':=λ{a h'} ha hs b ob e=>by
  let⟨_,_,Ui⟩:=ha;refine(I.ZO b ob e).YO (λc J l q=>(hs.2 c ?_).trans q) (λ_ q=>q) λ_ _ q=>q;rintro rfl;rcases l with rfl|l
  .rw [Ui]at e;cases e
  .rw [Ui]at l;cases l
 rcases hx with hk|hk
 .refine wpAny_storeName_local hk T (λh' Zj hs=>?_) WK
  let⟨oL,_,_,S,_⟩:=id T;refine h _ ⟨I.ok,I.os,I.bare,⟨λb o e n C hx=>?_,λb o e n C hx=>?_,I.base.free,λb o e hx=>?_,I.base.XU,I.base.X2,I.base.XT⟩,⟨_,Zj,λj y L g t U=>?_⟩,λy c e=>?_,I.free,I.Yw,λp R=>?_,f ⟨oL,S,I.free⟩ hs,by simpa using I.len⟩ ⟨_,hs,.inl rfl⟩
  .exact (hs.2 b (Ii (Ih (Ia e) I.ok.above))).trans (I.base.keep b o e n C hx)
  .obtain ⟨O,g⟩:=I.base.slot b o e n C hx
   exact⟨O,(hs.2 b (Ii (Ih (Ia e) I.ok.above))).trans g⟩
  .obtain ⟨o',g⟩:=I.base.there b o e hx
   exact⟨o',(hs.2 b (Ii (Ih (Ia e) I.ok.above))).trans g⟩
  .by_cases B:j=i
   .subst B
    rw[G]at g;cases g;rw[VL Ti]at t;cases t;exact⟨u,r,.inl ⟨hk,by simp⟩⟩
   .rw [Wr (Ne.symm B)]at t
    let⟨M,r',q⟩:=W j y L g t U;refine⟨M,r',?_⟩;rcases q with⟨k,e⟩|⟨k,c,e,z⟩
    .refine .inl ⟨k,?_⟩
     have:y≠x:=λe=>B (eW hN g (e ▸ G));simp[this,e]
    .exact .inr ⟨k,c,e,z.sameBut hs (Xg y c e)⟩
  .obtain ⟨J,z⟩:=I.cell y c e
   exact⟨J,z.sameBut hs (Xg y c e)⟩
  .obtain ⟨e,n,K,P,d⟩:=I.pin p R
   exact⟨(hs.2 p.1 K).trans e,n,K,P,d⟩
 .have V:X.fn x=true:=by
   rcases hf with z|z
   .exact z
   .rw [z]at hk;cases hk
  let⟨c,l⟩:=I.ok.has x (.inl hk);let⟨J,z⟩:=I.cell x c l;refine wpAny_storeName_cell I.ok.kind hk l z (λh' Ws hs=>?_);let⟨Kq,F,D⟩:=id z;refine h {s with heap:=h'} ⟨I.ok,I.os,I.bare,⟨λb o e n C hx=>?_,λb o e n C hx=>?_,I.base.free,λb o e hx=>?_,I.base.XU,I.base.X2,I.base.XT⟩,⟨m,T.sameBut hs (Ne.symm (Xg x c l)),λj y L g t U=>?_⟩,λy c' e=>?_,I.free,I.Yw,λp R=>?_,f ⟨Kq,F,I.Yw x c l⟩ hs,by simpa using I.len⟩ ⟨c,hs,.inr l⟩
  .exact (hs.2 b (Ii (Ih (Ia e) (I.ok.V7 x c V l)))).trans (I.base.keep b o e n C hx)
  .obtain ⟨O,g⟩:=I.base.slot b o e n C hx
   exact⟨O,(hs.2 b (Ii (Ih (Ia e) (I.ok.V7 x c V l)))).trans g⟩
  .obtain ⟨o',g⟩:=I.base.there b o e hx
   exact⟨o',(hs.2 b (Ii (Ih (Ia e) (I.ok.V7 x c V l)))).trans g⟩
  .by_cases B:j=i
   .subst B
    rw[G]at g;cases g;rw[VL Ti]at t;cases t;exact⟨u,r,.inr ⟨.inl hk,c,l,Ws⟩⟩
   .rw [Wr (Ne.symm B)]at t
    let⟨M,r',q⟩:=W j y L g t U;refine⟨M,r',?_⟩;rcases q with q|⟨k,c',e,z'⟩
    .exact .inl q
    .refine .inr ⟨k,c',e,z'.sameBut hs ?_⟩
     rintro rfl;exact B (eW hN g (I.ok.inj _ _ _ e l ▸ G))
  .by_cases Vs:c'=c
   .subst Vs;exact⟨_,Ws⟩
   .obtain ⟨w2,z2⟩:=I.cell y c' e
    exact⟨w2,z2.sameBut hs Vs⟩
  .obtain ⟨e,n,K,P,d⟩:=I.pin p R
   refine⟨(hs.2 p.1 ?_).trans e,n,K,P,d⟩;intro q;rw[q,F]at e;have q':Kq=p.2:=Vm e;exact d J (by rw[<-q'];exact D)
def cz{E:Value->Shared->Prop}{u:Value}{Q:Unit->Shared->Prop}(I:Z4 X Y Z H s)(c:X.N.Nodup)(a:X.N[i]?=some x)(hx:Loc X.env.scope x)(r:RelV v u)
  (h:∀s',Z4 X Y (Z.set i (some v)) H s'->Q Unit.unit s') (b:X.fn x=true\/X.env.scope.names.lookup x=some .local:=by first|exact .inl rfl|exact .inr rfl|assumption):wpAny Z8 A (storeName X.env x u) Q E s:=
 ic I c a hx r (λs' d _=>h s' d) b
def Z4.U1{ch:List Addr}(I:Z4 X Y Z H s)(a:s'.os=s.os)(u:Un (frs X.stack) ch H H' s.heap s'.heap)(f:HOk X.prog X.w H' s'.heap)(d:AllBare s'.gens)
  (g:∀b∈ch,(b∈X.ex\/X.ZK.heap.objs.size<=b)/\b≠X.env.locals/\(∀x c,X.env.cells.lookup x=some c->c≠b) /\∀p∈X.pn++Y,p.1≠b):Z4 X Y Z H' s':=by
 let⟨h',g',d',t',o'⟩:=s';have e:o'=s.os:=a;subst e;exact I.call (g':=g') (t':=t') (d':=d') u f d g
end
abbrev XK:=Value->Option Addr->Hp->Prop
abbrev St:=List (Option V)
abbrev VK:=V->Hp->Prop
abbrev TE:=St->Hp->VK->Prop
abbrev TT:=St->Hp->(Bool->Hp->Prop)->Prop
abbrev TA:=St->Hp->(List V->Hp->Prop)->Prop
set_option genInjectivity false in
structure Ends where
 nx:St->Hp->Prop
 rt:VK
 bk:St->Hp->Prop:=λ_ _=>False
 ct:St->Hp->Prop:=λ_ _=>False
abbrev TS:=Ends->St->Hp->Prop
inductive EP(X:Cx)(Y:List (Addr×Obj))(Z:St)(Q:VK)(u:Value)(s':Shared):Prop
 |mk:∀v H',Z4 X Y Z H' s'->RelV v u->Q v H'->EP X Y Z Q u s'
inductive TP(X:Cx)(Y:List (Addr×Obj))(Z:St)(Q:Bool->Hp->Prop)(b:Bool)(s':Shared):Prop
 |mk:∀H',Z4 X Y Z H' s'->Q b H'->TP X Y Z Q b s'
inductive AP(X:Cx)(Y:List (Addr×Obj))(Z:St)(Q:List V->Hp->Prop)(M:List Value)(s':Shared):Prop
 |mk:∀vs H',Z4 X Y Z H' s'->ZM vs M->Q vs H'->AP X Y Z Q M s'
def SP(X:Cx)(Y:List (Addr×Obj))(D:Ends)(f:Flow)(a:Shared):Prop:=
 match f with
 |.next=>∃ZX H',Z4 X Y ZX H' a/\D.nx ZX H'
 |.brk=>∃ZX H',Z4 X Y ZX H' a/\D.bk ZX H'
 |.cont=>∃ZX H',Z4 X Y ZX H' a/\D.ct ZX H'
 |.ret u=>∃v ZX H',Z4 X Y ZX H' a/\RelV v u/\D.rt v H'
def PE(X:Cx)(e:Expr)(t:TE):Prop:=
 ∀(Y:List (Addr×Obj)) (s:Shared) (Z:St) (H:Hp) (Q:VK),Z4 X Y Z H s->t Z H Q->wpAny (model X.prog X.w) X.A (eval e X.env) (EP X Y Z Q) X.xe s
def PT(X:Cx)(e:Expr)(t:TT):Prop:=
 ∀(Y:List (Addr×Obj)) (s:Shared) (Z:St) (H:Hp) (Q:Bool->Hp->Prop),Z4 X Y Z H s->t Z H Q->wpAny (model X.prog X.w) X.A (isTrue e X.env (eval e X.env)) (TP X Y Z Q) X.xe s
def PW(X:Cx)(e:Expr)(t:TT):Prop:=
 ∀(a:Sem Value) (Y:List (Addr×Obj)) (s:Shared) (Z:St) (H:Hp) (Q:Bool->Hp->Prop),Z4 X Y Z H s->t Z H Q->wpAny (model X.prog X.w) X.A (isTrue e X.env a) (TP X Y Z Q) X.xe s
def PW.pt{X:Cx}{t:TT}(h:PW X e t):PT X e t:=h _
def PA(X:Cx)(a:List Expr)(t:TA):Prop:=
 ∀(pos:Pos) (Y:List (Addr×Obj)) (s:Shared) (Z:St) (H:Hp) (Q:List V->Hp->Prop),Z4 X Y Z H s->t Z H Q->wpAny (model X.prog X.w) X.A (spliced (backTo pos (starEach a X.env))) (AP X Y Z Q) X.xe s
def PS(X:Cx)(a:Stmt)(t:TS):Prop:=
 ∀(Y:List (Addr×Obj)) (s:Shared) (Z:St) (H:Hp) (D:Ends),Z4 X Y Z H s->t D Z H->wpAny (model X.prog X.w) X.A (exec a X.env) (SP X Y D) X.xe s
def PSs(X:Cx)(a:List Stmt)(t:TS):Prop:=
 ∀(Y:List (Addr×Obj)) (s:Shared) (Z:St) (H:Hp) (D:Ends),Z4 X Y Z H s->t D Z H->wpAny (model X.prog X.w) X.A (execs a X.env) (SP X Y D) X.xe s
def thn{t:Sem α}{Q Q':α->Shared->Prop}{E:Value->Shared->Prop}{s:Shared}(h:wpAny Z8 A t Q E s)(b:∀a s,Q a s->Q' a s):wpAny Z8 A t Q' E s:=Ve h b λ_ _ x=>x
end L2
variable{X:L2.Cx}{ta te:L2.TE}
namespace L2
open PySem PySem.Spec PyProof.Rows
section
def BD(i:Nat):TE:=λZ H Q=>∃v,Z[i]?=some (some v)/\Q v H
def IX(v:V):TE:=λ_ H Q=>Q v H
def cL(n:X.N[i]?=some x)(g:Vis X.env.scope x)(b:(x==("__debug__" : Str))=false:=by decide)(o:(x==("__classdict__" : Str))=false:=by decide):PE X (.Name x pos) (BD i):=by
 intro Y s Z H Q I h;let⟨v,e,h⟩:=h;let⟨m,j,k⟩:=I.loc;let⟨u,r,l⟩:=k i x v n e g;have a:EP X Y Z Q u s:=⟨v,H,I,r,h⟩;rcases l with⟨hk,hm⟩|⟨hk,c,d,f⟩
 .exact wpAny_Name (wpAny_loadName_local I.ok.kind hk j hm a) b
 .rcases hk with hk|hk
  .exact wpAny_Name (wpAny_loadName_cell I.ok.kind hk d f a) b
  .exact wpAny_Name (wpAny_loadName_free I.ok.kind hk d f a o) b
def lM{i j pos}:PE X (.Constant (.int i) j pos) (IX (.int i)):=λ_ _ _ H _ I h=>wpAny_Constant_int ⟨.int i,H,I.tok _,⟨_,rfl⟩,h⟩
def aco{b j pos}:PE X (.Constant (.bool b) j pos) (IX (.bl b)):=λ_ _ _ H _ I h=>Constant_bool ⟨.bl b,H,I,rfl,h⟩
def aa2{j pos}:PE X (.Constant .none j pos) (IX .ZR):=λ_ _ _ H _ I h=>Constant_none ⟨.ZR,H,I,rfl,h⟩
def nj{x j pos}:PE X (.Constant (.str x) j pos) (IX (.str x)):=λ_ _ _ H _ I h=>Calls.Constant_str ⟨.str x,H,I.tok _,⟨_,rfl⟩,h⟩
def Gl(X:Cx)(x:Str):Prop:=X.env.kindOf x=some .globalImplicit
def be{E:Value->Shared->Prop}{Z:St}{u:Value}{Q:Value->Shared->Prop}(I:Z4 X Y Z H s)(b:Gl X x)(a:X.mg x=some u)(h:Q u s)
  (c:(x==("__debug__" : Str))=false:=by decide):wpAny (model X.prog X.w) X.A (eval (.Name x pos) X.env) Q E s:=
 R_ I.ok.kind b (Calls.loadGlobal_global (by rw[I.ok.glob];exact I.mod.glob.keeps I.bk) a h) c
def bV{E:Value->Shared->Prop}{Z:St}{u:Value}{Q:Value->Shared->Prop}(I:Z4 X Y Z H s)(d:Gl X x)(c:X.mg x=none)(a:bootBuiltins x=some u)(h:Q u s)
  (b:x ≠ "__name__":=by decide) (e:(x==("__debug__" : Str))=false:=by decide):wpAny (model X.prog X.w) X.A (eval (.Name x pos) X.env) Q E s:=by
 let⟨f,h1,h2⟩:=I.mod.blt;exact R_ I.ok.kind d (Calls.loadGlobal_builtin (by rw[I.ok.glob];exact I.mod.glob.keeps I.bk) c (by rw[I.ok.blt];exact h1.keeps I.bk) ((h2 x b).trans a) h) e
def ff{u:Value}(b:Gl X x)(a:X.mg x=some u)(r:RelV v u)(c:(x==("__debug__" : Str))=false:=by decide):PE X (.Name x pos) (IX v):=
 λ_ _ _ H _ I h=>be I b a ⟨v,H,I,r,h⟩ c
def jX{u:Value}(d:Gl X x)(c:X.mg x=none)(a:bootBuiltins x=some u)(r:RelV v u)(b:x ≠ "__name__":=by decide)(e:(x==("__debug__" : Str))=false:=by decide):PE X (.Name x pos) (IX v):=
 λ_ _ _ H _ I h=>bV I d c a ⟨v,H,I,r,h⟩ b e
variable{a b:Expr}{tb:TE}
variable{tA tB':TT}{ZV:List Expr}
def HL(t u:TT):TT:=λZ H Q=>t Z H λc H1=>if c=true then u Z H1 Q else Q false H1
def IY(t u:TT):TT:=λZ H Q=>t Z H λc H1=>if c=true then Q true H1 else u Z H1 Q
def HU(t:TT):TT:=λZ H Q=>t Z H λc H1=>Q (!c) H1
def wX(b:PT X a tA):PW X (.BoolOp .And [a] pos) tA:=by
 intro d Y s Z H Q I h;refine isTrue_and (thn (b Y s Z H Q I h) λc f e=>?_);cases c with
 |true=>exact isTrue_and_nil e
 |false=>exact e
def zq(b:PT X a tA):PW X (.BoolOp .Or [a] pos) tA:=by
 intro d Y s Z H Q I h;refine isTrue_or (thn (b Y s Z H Q I h) λc f e=>?_);cases c with
 |false=>exact isTrue_or_nil e
 |true=>exact e
def abk(j:PT X a tA)(i:PW X (.BoolOp .And (b::ZV) pos) tB'):PW X (.BoolOp .And (a::b::ZV) pos) (HL tA tB'):=by
 intro f Y s Z H Q I h;refine isTrue_and (thn (j Y s Z H _ I h) ?_);rintro c g ⟨H1,e,d⟩;cases c with
 |true=>exact i f Y g Z H1 Q e d
 |false=>exact⟨H1,e,d⟩
def ab0(j:PT X a tA)(i:PW X (.BoolOp .Or (b::ZV) pos) tB'):PW X (.BoolOp .Or (a::b::ZV) pos) (IY tA tB'):=by
 intro f Y s Z H Q I h;refine isTrue_or (thn (j Y s Z H _ I h) ?_);rintro c g ⟨H1,e,d⟩;cases c with
 |true=>exact⟨H1,e,d⟩
 |false=>exact i f Y g Z H1 Q e d
def aak(b:PT X a tA):PT X (.UnaryOp .Not a pos) (HU tA):=by
 intro Y s Z H Q I h;exact isTrue_not (thn (b Y s Z H (λc H1=>Q (!c) H1) I h) λ_ _ ⟨H1,d,q⟩=>⟨H1,d,q⟩)
def Hr(a tb:TE):TE:=λZ H Q=>a Z H λx H1=>∃c,x=.bl c/\if c=true then tb Z H1 Q else Q (.bl false) H1
def IZ(a tb:TE):TE:=λZ H Q=>a Z H λx H1=>∃c,x=.bl c/\if c=true then Q (.bl true) H1 else tb Z H1 Q
def aa6{op}{t:TE}(h:PE X a t):PE X (.BoolOp op [a] pos) t:=λY s Z H Q I b=>BoolOp_one (h Y s Z H Q I b)
def zG(j:PE X a ta)(i:PE X (.BoolOp .And (b::ZV) pos) tb):PE X (.BoolOp .And (a::b::ZV) pos) (Hr ta tb):=by
 intro Y s Z H Q I h;refine BoolOp_and (thn (j Y s Z H _ I h) ?_);rintro v f ⟨x,H1,e,g,d⟩;let⟨c,rfl,d⟩:=d;cases g;refine TF ?_;cases c with
 |true=>exact i Y f Z H1 Q e d
 |false=>exact⟨.bl false,H1,e,rfl,d⟩
def abH(j:PE X a ta)(i:PE X (.BoolOp .Or (b::ZV) pos) tb):PE X (.BoolOp .Or (a::b::ZV) pos) (IZ ta tb):=by
 intro Y s Z H Q I h;refine BoolOp_or (thn (j Y s Z H _ I h) ?_);rintro v f ⟨x,H1,e,g,d⟩;let⟨c,rfl,d⟩:=d;cases g;refine TF ?_;cases c with
 |false=>exact i Y f Z H1 Q e d
 |true=>exact⟨.bl true,H1,e,rfl,d⟩
end
end L2
namespace L2
open PySem PySem.Spec PyProof.Rows
def SqL(K:Il)(H:Hp)(a:Addr)(xs:List V):Prop:=
 Rd H a (.S xs) \/
  ∃(o:Obj) (ZY:Array Value) (n:Nat),K.lookup a=some o/\o.cls=.type "list" /\ o.dict=none/\o.data=.seq ZY n/\ZY.size<=sizeLine/\ZM xs ZY.toList
def SqT(K:Il)(H:Hp)(a:Addr)(xs:List V):Prop:=
 Rd H a (.ZZ xs) \/
  ∃(o:Obj) (ZY:Array Value) (n:Nat),K.lookup a=some o/\o.cls=.type "tuple" /\ o.data=.seq ZY n/\ZY.size<=sizeLine/\ZM xs ZY.toList
def I0:Value->Option V
 |.none=>some .ZR
 |.bool b=>some (.bl b)
 |.int i _=>some (.int i)
 |.str x _=>some (.str x)
 |.bytes b _=>some (.Xv b)
 |.float b _=>some (.Vx b)
 |.ref a=>some (.ref a)
 |.type n=>some (.ty n)
 |_=>none
def RelV.abs{x:V}{u:Value}(r:RelV x u):I0 u=some x:=by
 cases x with
 |ZR=>cases r;rfl
 |bl _=>cases r;rfl
 |int _=>let⟨t,rfl⟩:=r;rfl
 |str _=>let⟨t,rfl⟩:=r;rfl
 |Xv _=>let⟨t,rfl⟩:=r;rfl
 |Vx _=>let⟨t,rfl⟩:=r;rfl
 |ref _=>cases r;rfl
 |ty _=>cases r;rfl
def RelV.inj{x y:V}{u:Value}(r:RelV x u)(q:RelV y u):x=y:=Vm (r.abs.symm.trans q.abs)
def ZM.inj:∀{xs ys:List V} {M:List Value},ZM xs M->ZM ys M->xs=ys
 |_,_,_,.nil,.nil=>rfl
 |_,_,_,.cons r t,.cons r' t'=>by rw[r.inj r',ZM.inj t t']
section
variable{Z:St}{xs ys:List V}
def SqL.of(h:H a=some (.S xs)):SqL K H a xs:=.inl (.inl h)
def SqT.of(h:H a=some (.ZZ xs)):SqT K H a xs:=.inl (.inl h)
def Z4.list(I:Z4 X Y Z H s)(h:SqL X.K H a xs):∃ZY:List Value,ZM xs ZY/\PlainL s.heap a ZY.toArray/\xs.length<=sizeLine:=by
 rcases h with h|⟨o,ZY,n,hk,b,hd,hs,c,r⟩
 .obtain ⟨z,ZY,n,r,e⟩:=h.ok I.ZO
  exact⟨ZY,r,⟨_,n,e,rfl,rfl,rfl⟩,z⟩
 .refine ⟨ZY.toList,r,⟨o,n,I.Zt a o hk,b,hd,by simpa using hs⟩,?_⟩
  have e:=r.length;simp![R4]at e;omega
def Z4.tuple(I:Z4 X Y Z H s)(h:SqT X.K H a xs):∃ZY:List Value,ZM xs ZY/\IsTup s.heap a ZY.toArray/\xs.length<=sizeLine:=by
 rcases h with h|⟨o,ZY,n,hk,b,hs,c,r⟩
 .obtain ⟨z,ZY,r,p⟩:=h.ok I.ZO
  exact⟨ZY,r,p,z⟩
 .refine ⟨ZY.toList,r,⟨o,I.Zt a o hk,b,n,by simpa using hs⟩,?_⟩
  have e:=r.length;simp![R4]at e;omega
def Z4.Uh(I:Z4 X Y Z H s)(h:SqL X.K H a xs)(h':SqL X.K H a ys):xs=ys:=by
 let⟨ZY,r,⟨o,n,e,_,_,d⟩,_⟩:=I.list h;let⟨b,r',⟨o',g,e',_,_,c⟩,_⟩:=I.list h';rw[e]at e';cases e';rw[d]at c;injection c with f _
 have:ZY=b:=by simpa using T8 Array.toList f
 subst this;exact r.inj r'
def Z4.U0(I:Z4 X Y Z H s)(h:SqT X.K H a xs)(h':SqT X.K H a ys):xs=ys:=by
 let⟨ZY,r,⟨o,e,_,n,d⟩,_⟩:=I.tuple h;let⟨b,r',⟨o',e',_,g,c⟩,_⟩:=I.tuple h';rw[e]at e';cases e';rw[d]at c;injection c with f _
 have:ZY=b:=by simpa using T8 Array.toList f
 subst this;exact r.inj r'
end
abbrev Cx.Yt(X:Cx)(E:Value->Shared->Prop):Cx:={X with xe:=E}
abbrev Cx.ZE(X:Cx):Cx:=X.Yt λ_ _=>False
def Cx.Ok.Yt{X:Cx}(a:X.Ok)(E:Value->Shared->Prop):(X.Yt E).Ok:=
 ⟨a.mod,a.kind,a.glob,a.blt,a.above,a.inj,a.has,a.V7,a.hd,a.frames,a.WZ,a.exf,a.bs,a.Xu,a.Y9,a.Vu,a.Yg,a.WY⟩
def Cx.Ok.Yd{E:Value->Shared->Prop}(a:(X.Yt E).Ok):X.Ok:=
 ⟨a.mod,a.kind,a.glob,a.blt,a.above,a.inj,a.has,a.V7,a.hd,a.frames,a.WZ,a.exf,a.bs,a.Xu,a.Y9,a.Vu,a.Yg,a.WY⟩
section
variable{Z:St}{E:Value->Shared->Prop}
def Z4.Yt(I:Z4 X Y Z H s)(E:Value->Shared->Prop):Z4 (X.Yt E) Y Z H s:=⟨I.ok.Yt E,I.os,I.bare,I.base,I.loc,I.cell,I.free,I.Yw,I.pin,I.ZO,I.len⟩
def Z4.Yd(I:Z4 (X.Yt E) Y Z H s):Z4 X Y Z H s:=⟨I.ok.Yd,I.os,I.bare,I.base,I.loc,I.cell,I.free,I.Yw,I.pin,I.ZO,I.len⟩
def SP.Yd{D:Ends}{f:Flow}{a:Shared}(h:SP (X.Yt E) Y D f a):SP X Y D f a:=by
 cases f with
 |next=>let⟨ZX,H',I,q⟩:=h;exact⟨ZX,H',I.Yd,q⟩
 |brk=>let⟨ZX,H',I,q⟩:=h;exact⟨ZX,H',I.Yd,q⟩
 |cont=>let⟨ZX,H',I,q⟩:=h;exact⟨ZX,H',I.Yd,q⟩
 |ret u=>let⟨v,ZX,H',I,r,q⟩:=h;exact⟨v,ZX,H',I.Yd,r,q⟩
def PE.ZE{e:Expr}{t:TE}(h:PE X.ZE e t):PE X e t:=λY s Z H Q I a=>
 Ve (h Y s Z H Q (I.Yt _) a) (λ_ _ ⟨v,H',b,r,q⟩=>⟨v,H',b.Yd,r,q⟩) λ_ _ z=>False.elim z
def PT.ZE{e:Expr}{t:TT}(h:PT X.ZE e t):PT X e t:=λY s Z H Q I a=>
 Ve (h Y s Z H Q (I.Yt _) a) (λ_ _ ⟨H',b,q⟩=>⟨H',b.Yd,q⟩) λ_ _ z=>False.elim z
def PSs.ZE{a:List Stmt}{t:TS}(h:PSs X.ZE a t):PSs X a t:=λY s Z H D I b=>
 Ve (h Y s Z H D (I.Yt _) b) (λ_ _ q=>q.Yd) λ_ _ z=>False.elim z
end
section
variable{st:Stmt}{ZV:List Stmt}{t u:TS}
def HE:TS:=λD Z H=>D.nx Z H
def I8(t u:TS):TS:=λD Z H=>t {D with nx:=u D} Z H
def dH:PSs X [] HE:=λ_ _ Z H _ I h=>QH ⟨Z,H,I,h⟩
def dq(c:PS X st t)(b:PSs X ZV u):PSs X (st::ZV) (I8 t u):=by
 intro Y s Z H D I h;refine wpAny_execs_cons (thn (c Y s Z H {D with nx:=u D} I h) λf a q=>?_)
 cases f with
 |next=>
  let⟨ZX,H',d,q⟩:=q;exact b Y a ZX H' D d q
 |ret v=>exact q
 |brk=>exact q
 |cont=>exact q
def Z4.quiet{Z:St}(I:Z4 X Y Z H s):interactive X.env=false:=by simp[interactive,I.ok.kind]
def HD(a:TE):TS:=λD Z H=>a Z H λ_ H1=>D.nx Z H1
def wM(c:PE X e te)(b:swapsWith e none pos.line X.env=pure false:=by rfl):PS X (.Expr e pos) (HD te):=by
 intro Y s Z H D I h;exact wpAny_Expr_any (thn (c Y s Z H _ I h) λv f ⟨x,H1,d,g,a⟩=>⟨Z,H1,d,a⟩) I.quiet b
def I9(a:TE):TS:=λD Z H=>a Z H D.rt
def aar(c:PE X e te):PS X (.Return (some e) pos) (I9 te):=by
 intro Y s Z H D I h;exact wpAny_Return_some (thn (c Y s Z H _ I h) λv f ⟨x,H1,d,a,b⟩=>⟨x,Z,H1,d,a,b⟩)
def HS(c:TT)(t u:TS):TS:=λD Z H=>c Z H λb H1=>if b=true then t D Z H1 else u D Z H1
def pk{c:Expr}{a b:List Stmt}{e:TT}(j:PT X c e)(l:PSs X a t)(k:PSs X b u):PS X (.If c a b pos) (HS e t u):=by
 intro Y s Z H D I h;refine wpAny_If (thn (j Y s Z H _ I h) ?_);rintro d f ⟨H1,i,g⟩;cases d with
 |true=>exact l Y f Z H1 D i g
 |false=>exact k Y f Z H1 D i g
end
abbrev TG:=V->St->Hp->(St->Hp->Prop)->Prop
abbrev WJ:=List V->St->Hp->(St->Hp->Prop)->Prop
def PG(X:Cx)(a:Expr)(t:TG):Prop:=
 ∀(Y:List (Addr×Obj)) (s:Shared) (Z:St) (H:Hp) (v:V) (u:Value) (Q:St->Hp->Prop),Z4 X Y Z H s->RelV v u->t v Z H Q ->
  wpAny (model X.prog X.w) X.A (assign a X.env u) (λ_ s'=>∃ZX H',Z4 X Y ZX H' s'/\Q ZX H') X.xe s
def PGs(X:Cx)(a:List Expr)(t:WJ):Prop:=
 ∀(Y:List (Addr×Obj)) (s:Shared) (Z:St) (H:Hp) (vs:List V) (M:List Value) (Q:St->Hp->Prop),Z4 X Y Z H s->ZM vs M->t vs Z H Q ->
  wpAny (model X.prog X.w) X.A (assignInOrder ((assignEach a X.env).map (·.2)) M) (λ_ s'=>∃ZX H',Z4 X Y ZX H' s'/\Q ZX H') X.xe s
abbrev CJ:=V->V->V->Hp->(Hp->Prop)->Prop
def Cf(X:Cx)(t:CJ):Prop:=
 ∀(Y:List (Addr×Obj)) (s:Shared) (Z:St) (H:Hp) (o i v:V) (a b u:Value) (Q:Hp->Prop),Z4 X Y Z H s->RelV o a->RelV i b->RelV v u->t o i v H Q ->
  wpAny (model X.prog X.w) X.A (setItem a b u) (λ_ s'=>∃H',Z4 X Y Z H' s'/\Q H') X.xe s
section
def FN(i:Nat):TG:=λv Z H Q=>Q (Z.set i (some v)) H
def kj(c:X.N.Nodup)(a:X.N[i]?=some x)(hx:Loc X.env.scope x)(b:X.fn x=true\/X.env.scope.names.lookup x=some .local:=by first|exact .inl rfl|exact .inr rfl|assumption):PG X (.Name x pos) (FN i):=by
 intro Y s Z H v u Q I r h;exact wpAny_assign_Name (cz I c a hx r (λs' d=>⟨_,H,d,h⟩) b)
def HP:WJ:=λvs Z H Q=>vs=[]/\Q Z H
def Hi(t:TG)(u:WJ):WJ:=λvs Z H Q=>∃v r,vs=v::r/\t v Z H λZX H'=>u r ZX H' Q
def ye:PGs X [] HP:=by
 intro Y s Z H vs M Q I r h;let⟨e,h⟩:=h;subst e;cases r;exact assignInOrder_nil ⟨Z,H,I,h⟩
def v3{t:TG}{u:WJ}(g:PG X e t)(f:PGs X es u)
  (d:(assignEach (e::es) X.env).map (·.2)=assign e X.env::(assignEach es X.env).map (·.2):=by rfl):PGs X (e::es) (Hi t u):=by
 intro Y s Z H vs M Q I r h;let⟨v,l,i,h⟩:=h;subst i;cases r with
 |cons r b=>
  rw[d];refine Qa (thn (g Y s Z H _ _ _ I r h) ?_);rintro _ a ⟨j,H1,k,c⟩;exact f Y a j H1 _ _ Q k b c
def Ja(K:Il)(n:Nat)(t:WJ):TG:=λv Z H Q=>∃a xs,v=.ref a/\SqT K H a xs/\xs.length=n/\t xs Z H Q
def abj{k:Nat}{t:WJ}(m:X.calm=true)(h:PGs X es t)
  (j:(assignEach es X.env).length=n:=by rfl) (q:(assignEach es X.env).findIdx? (·.1)=none:=by rfl):PG X (.Tuple es k pos) (Ja X.K n t):=by
 intro Y s Z H v u Q I r c;let⟨a,xs,p,i,l,c⟩:=c;subst p;cases r;let⟨ZY,d,g,x⟩:=I.tuple i;refine assign_Tuple_tuple (I.ok.hd m) g (by simp[j,<-l,d.length]) q λh' f=>?_
 have w:Z4 X Y Z H {s with heap:=h'}:=I.kept (t':=s.toks) λb o e=>f b o (Ii (Ia e)) e
 exact h Y _ Z H xs _ Q w (by simpa using d) c
def Jb(a b:TE)(t:CJ):TG:=λv Z H Q=>a Z H λo H1=>b Z H1 λi H2=>t o i v H2 λH3=>Q Z H3
def yD{o i:Expr}{to ti:TE}{t:CJ}(ho:PE X o to)(hi:PE X i ti)(hs:Cf X t)
  (ha:∀ v,assign (.Subscript o i pos) X.env v=(do
   let ov<-holding [v] (eval o X.env)
   let iv<-holding [v,ov] (eval i X.env)
   standAt pos
   holding [v,ov,iv] (setItem ov iv v)
   release [v,ov,iv] []):=by intro _;rfl):PG X (.Subscript o i pos) (Jb to ti t):=by
 intro Y s Z H v u Q I r h;rw[ha];refine ZB (Uu (thn (ho Y s Z H _ I h) ?_));rintro ov s1 ⟨x,H1,I1,r1,q1⟩;refine ZB (Uu (thn (hi Y s1 Z H1 _ I1 q1) ?_));rintro iv s2 ⟨y,H2,I2,r2,q2⟩;refine ZB (Tn (ZB (Uu (thn (hs Y s2 Z H2 x y v ov iv u _ I2 r1 r2 r q2) ?_))));rintro _ s3 ⟨H3,I3,q3⟩;exact wpAny_release ⟨Z,H3,I3,q3⟩
def FX(a:TE)(g:TG):TS:=λD Z H=>a Z H λx H1=>g x Z H1 D.nx
def lR{g:TG}(j:PE X e te)(i:PG X tg g)(f:swapsWithSole [tg] e pos.line X.env=pure false:=by rfl)(d:swappedStores [tg] e X.env=pure none:=by rfl)
  (h1:(assignEach [tg] X.env).map (·.2)=[assign tg X.env]:=by rfl):PS X (.Assign [tg] e pos) (FX te g):=by
 intro Y s Z H D I h;refine wpAny_Assign_stores (thn (j Y s Z H _ I h) λv a ⟨x,H1,k,b,c⟩=>?_) f d;rw[h1];exact thn (i Y a Z H1 x v _ k b c) λ_ l q=>q
def mJ{a:Pos}(k:X.N.Nodup)(f:X.N[i]?=some x)(hx:Loc X.env.scope x)(j:PE X e te)(d:swapsWith e (some (.Name x a)) pos.line X.env=pure false:=by rfl)(g:X.fn x=true\/X.env.scope.names.lookup x=some .local:=by first|exact .inl rfl|exact .inr rfl|assumption):
  PS X (.Assign [.Name x a] e pos) (FX te (FN i)):=by
 intro Y s Z H D I h;refine wpAny_Assign_Name (thn (j Y s Z H _ I h) λv o ⟨y,H1,m,b,c⟩=>?_) d;exact cz m k f hx b (λn l=>⟨_,H1,l,c⟩) g
def HQ(i j:Nat)(a:TA):TS:=λD Z H=>a Z H λvs H1=>∃v w,vs=[v,w]/\D.nx ((Z.set i (some v)).set j (some w)) H1
def abd{y:Str}{a b:Expr}{ta:TA}{px py pt:Pos}{kt k2 WX}(hc:X.calm=true)(hN:X.N.Nodup)(hi:X.N[i]?=some x)(hj:X.N[j]?=some y)(WW:i≠j)
  (hx:X.env.scope.names.lookup x=some .local) (hy:X.env.scope.names.lookup y=some .local) (ha:PA X [a,b] ta)
  (hw:swappedStores [.Tuple [.Name x px,.Name y py] kt pt] (.Tuple [a,b] k2 WX) X.env=pure (some [x,y]))
  (hs:swapsWithSole [.Tuple [.Name x px,.Name y py] kt pt] (.Tuple [a,b] k2 WX) pos.line X.env=pure false:=by rfl) :
  PS X (.Assign [.Tuple [.Name x px,.Name y py] kt pt] (.Tuple [a,b] k2 WX) pos) (HQ i j ta):=by
 intro Y s Z H D I h;rw[exec_Assign_arm];refine ZB (Tn ?_);rw[hs];refine ZB (ZP ?_);rw[WV #[1]]
 refine ZB (Tuple_ (thn (ha _ Y s Z H _ I h) ?_));rintro M s1 ⟨vs,H1,I1,r1,q1⟩;let⟨v,w,e1,q1⟩:=q1;subst e1;obtain⟨u1,u2,rfl,rv,Y5⟩:∃u1 u2,M=[u1,u2]/\RelV v u1/\RelV w u2:=by
  cases r1 with
  |cons p q=>
   cases q with
   |cons p' q'=>
    cases q';exact⟨_,_,rfl,p,p'⟩
 refine T_ ?_ (by show 2<=sizeLine;decide)
 have I2:Z4 X Y Z H1 {s1 with heap:=s1.heap.push {cls:=.type "tuple",data:=.seq [u1,u2].toArray}}:=I1.kept (t':=s1.toks) λb o e=>H9 _ e
 rw[hw];refine ZB (ZP ?_);show wpAny (model X.prog X.w) X.A (do rule "assign.swapped-stores";let items<-unpackItems (.ref s1.heap.objs.size) 2 none;assignInOrder [λv=>bindName X.env y v,λv=>bindName X.env x v] items.reverse;pure Flow.next) _ _ _
 refine ZB (wpAny_rule (ZB (unpackItems_tuple (items:=#[u1,u2]) (I.ok.hd hc) (IsTup.new s1.heap _) λh' hx'=>?_)));have I3:=I2.kept (h':=h') (t':=s1.toks) λb o e=>hx' b o (Ii (Ia e)) e;show wpAny _ _ (assignInOrder [λv=>bindName X.env y v,λv=>bindName X.env x v] [u2,u1] >>= λ_=>pure Flow.next) _ _ _;refine ZB (Qa (wpAny_bindName (cz I3 hN hj (.inl hy) Y5 (λs2 I4=>?_) (.inr hy))));refine Qa (wpAny_bindName (cz I4 hN hi (.inl hx) rv (λs3 I5=>assignInOrder_nil (ZP ?_)) (.inr hx)));rw[List.set_comm _ _ (Ne.symm WW)]at I5;exact⟨_,H1,I5,q1⟩
end
set_option genInjectivity false in
structure It where
 go:Nat->Hp->Prop
 yld:Nat->Hp->V->Hp->Prop
 stop:Nat->Hp->Prop
def Ay(X:Cx)(Y:List (Addr×Obj))(H:Hp)(b:Addr):Prop:=
 H b=none/\b≠X.env.locals/\b ∉ X.fs/\(b∈X.ex\/X.ZK.heap.objs.size<=b)/\(∀x c,X.env.cells.lookup x=some c->c≠b) /\∀p∈X.pn++Y,p.1≠b
def Z4.UZ{Z:St}{b:Addr}(I:Z4 X Y Z H s)(a:s.heap.objs.size<=b)(f:H' b=none):Ay X Y H' b:=by
 refine⟨f,S3 (Ih I.lt a),I.nofs a,.inr (Ib I.sz a),λx c e z=>?_,λp d z=>?_⟩
 .obtain ⟨v,q⟩:=I.cell x c e
  exact absurd (Ih q.lt (by rw[z];exact a)) (U_ _)
 .exact absurd (Ih (Ia (I.pin p d).1) (by rw[z];exact a)) (U_ _)
structure Turn(P:Program)(w:World)(K:Il)(tg:Expr)(Z7:It)(fp:List Addr)(it:Addr)(tn:Nat->Heap->Prop):Prop where
 mem:it∈fp
 obj:∀i h,tn i h ->∀b∈fp,∃o,h.get? b=some o /\∀v,o.data ≠ .cell v
 keep:∀i h h',tn i h->(∀b∈fp,∀o,h.get? b=some o->h'.get? b=some o)->tn i h'
 item:∀(X:Cx),X.prog=P->X.w=w->X.K=K->X.calm=true ->∀(i:Nat) (Y:List (Addr×Obj)) (s:Shared) (Z:St) (H:Hp) (E:Value->Shared->Prop),Z4 X Y Z H s->(∀b∈fp,Ay X Y H b)->tn i s.heap->Z7.go i H ->
  wpAny (model P w) X.A (pyNext (.ref it)) (λr s1 => ∃ u,r=some u /\
   wpAny (model P w) X.A (letOwnedTupleGo tg (.ref it) u) (λ_ s2=>∃x H',Z4 X Y Z H' s2/\RelV x u/\Z7.yld i H x H'/\tn (i+1) s2.heap /\∀b∈fp,H' b=none) E s1) E s
 done:∀(X:Cx),X.prog=P->X.w=w->X.K=K->X.calm=true ->∀(i:Nat) (Y:List (Addr×Obj)) (s:Shared) (Z:St) (H:Hp) (E:Value->Shared->Prop),Z4 X Y Z H s->(∀b∈fp,Ay X Y H b)->tn i s.heap->Z7.stop i H ->
  wpAny (model P w) X.A (pyNext (.ref it)) (λr s1=>r=none/\Z4 X Y Z H s1) E s
 self:∀(A:Around) (i:Nat) (s:Shared) (Q:Value->Shared->Prop) (E:Value->Shared->Prop),tn i s.heap->Q (.ref it) s->wpAny (model P w) A (pyIter (.ref it)) Q E s
abbrev TI:=St->Hp->(It->Hp->Prop)->Prop
def PIE(X:Cx)(Y:List (Addr×Obj))(Z:St)(d:Expr)(R:It->Hp->Prop)(e:Value)(a:Shared):Prop:=
 ∃(it:Addr) (fp:List Addr) (tn:Nat->Heap->Prop) (c:It) (H':Hp),e=.ref it/\Z4 X Y Z H' a/\Turn X.prog X.w X.K d c fp it tn/\tn 0 a.heap/\(∀b∈fp,Ay X Y H' b)/\R c H'
def PI(X:Cx)(c a:Expr)(b:TI):Prop:=
 ∀(Y:List (Addr×Obj)) (s:Shared) (Z:St) (H:Hp) (R:It->Hp->Prop),Z4 X Y Z H s->b Z H R ->
  wpAny (model X.prog X.w) X.A (eval a X.env) (λv d=>wpAny (model X.prog X.w) X.A (pyIter v) (PIE X Y Z c R) X.xe d) X.xe s
def gh{E:Value->Shared->Prop}{it:Addr}{u:Value}{o:Obj}{n:String}{vs:Array Value}{Q:Unit->Shared->Prop}(b:s.heap.get? it=some o)(e:o.cls=.type n)(d:o.data=.fields vs)
    (c:["enumerate","zip","dict_itemiterator","dict_reverseitemiterator","odict_iterator","itertools.zip_longest","itertools.pairwise"].contains n=false) (a:Q Unit.unit s):wpAny Z8 A (letOwnedTupleGo tg (.ref it) u) Q E s:=by
  unfold letOwnedTupleGo;cases tg<;>first
    |exact ZP a
    | (cases u <;> first
        |exact ZP a
        | (refine ZB (wpAny_load b ?_)
           rw[e,d];show wpAny Z8 A (if(["enumerate","zip","dict_itemiterator","dict_reverseitemiterator","odict_iterator","itertools.zip_longest","itertools.pairwise"].contains n&&vs[0]? == some (rawInt _))=true then _ else _) Q E s
           rw[WV (by intro h;rw[c,QN]at h;cases h)]
           exact ZP a))
def Itl(K:Il)(a:Addr):It:=
 ⟨λi H=>∃xs x,SqL K H a xs/\xs[i]?=some x,λi H x H'=>H'=H /\∀xs,SqL K H a xs->xs[i]?=some x,λi H=>∃xs,SqL K H a xs/\xs.length<=i⟩
def Itt(K:Il)(a:Addr):It:=
 ⟨λi H=>∃xs x,SqT K H a xs/\xs[i]?=some x,λi H x H'=>H'=H /\∀xs,SqT K H a xs->xs[i]?=some x,λi H=>∃xs,SqT K H a xs/\xs.length<=i⟩
def Itr(a:Int)(n:Nat):It:=⟨λi _=>i<n,λi H x H'=>H'=H/\x=.int (a+i),λi _=>n<=i⟩
def tZ(a it:Addr):Turn P w K tg (Itl K a) [it] it (λi h=>h.IsListIter it a i) where
 mem:=by simp
 obj:=λi h st b hb=>by
  have e:b=it:=by simpa using hb
  subst e;let⟨o,e,c,d⟩:=st;exact⟨o,e,λv z=>by rw[d]at z;cases z⟩
 keep:=λi h h' st k=>st.at λo e=>k it #[3] o e
 item:=by
  intro X hP hw hK hc i Y s Z H E I hf st hg;subst hP hw hK;let⟨xs,x,hq,hx⟩:=hg;let⟨ZY,rv,p,hz⟩:=I.list hq;let⟨u,hu,ru⟩:=rv.get hx;let⟨f0,f1,f2,f3,f4,f5⟩:=hf it #[3]
  refine wpAny_pyNext_list_item st p.isList (x:=u) (by simpa using hu) λh' Zf sb=>?_
  have I1:Z4 X Y Z H {s with heap:=h'}:=I.turned (t':=s.toks) (λb o hb e=>(sb.2 b hb).trans e) f0 f1 f3 f4 f5
  let⟨o,e,c,d⟩:=id Zf;exact⟨u,rfl,gh (s:={s with heap:=h'}) e c d #[1] ⟨x,H,I1,ru,⟨rfl,λys hy=>by rw[I.Uh hy hq];exact hx⟩,Zf,λb hb=>(hf b hb).1⟩⟩
 done:=by
  intro X hP hw hK hc i Y s Z H E I hf st hg;subst hP hw hK;let⟨xs,hq,hx⟩:=hg;let⟨ZY,rv,p,hz⟩:=I.list hq;let⟨f0,f1,f2,f3,f4,f5⟩:=hf it #[3]
  have hl:=rv.length;exact wpAny_pyNext_list_end (I.ok.hd hc) st p.isList (by simp;omega) λh' eb=>⟨rfl,I.turned (t':=s.toks) (λb o hb e=>eb b o hb e) f0 f1 f3 f4 f5⟩
 self:=λ_ _ _ _ _ st h=>wpAny_pyIter_listiter st h
def s9(a it:Addr):Turn P w K tg (Itt K a) [it] it (λi h=>h.IsTupleIter it a i) where
 mem:=by simp
 obj:=λi h st b hb=>by
  have e:b=it:=by simpa using hb
  subst e;let⟨o,e,c,d⟩:=st;exact⟨o,e,λv z=>by rw[d]at z;cases z⟩
 keep:=λi h h' st k=>st.at λo e=>k it #[3] o e
 item:=by
  intro X hP hw hK hc i Y s Z H E I hf st hg;subst hP hw hK;let⟨xs,x,hq,hx⟩:=hg;let⟨ZY,rv,p,hz⟩:=I.tuple hq;let⟨u,hu,ru⟩:=rv.get hx;let⟨f0,f1,f2,f3,f4,f5⟩:=hf it #[3]
  refine wpAny_pyNext_tuple_item st (show s.heap.IsTuple a ZY.toArray from p) (x:=u) (by simpa using hu) λh' Zf sb=>?_
  have I1:Z4 X Y Z H {s with heap:=h'}:=I.turned (t':=s.toks) (λb o hb e=>(sb.2 b hb).trans e) f0 f1 f3 f4 f5
  let⟨o,e,c,d⟩:=id Zf;exact⟨u,rfl,gh (s:={s with heap:=h'}) e c d #[1] ⟨x,H,I1,ru,⟨rfl,λys hy=>by rw[I.U0 hy hq];exact hx⟩,Zf,λb hb=>(hf b hb).1⟩⟩
 done:=by
  intro X hP hw hK hc i Y s Z H E I hf st hg;subst hP hw hK;let⟨xs,hq,hx⟩:=hg;let⟨ZY,rv,p,hz⟩:=I.tuple hq;let⟨f0,f1,f2,f3,f4,f5⟩:=hf it #[3]
  have hl:=rv.length;exact wpAny_pyNext_tuple_end (I.ok.hd hc) st (show s.heap.IsTuple a ZY.toArray from p) (by simp;omega) λh' eb=>⟨rfl,I.turned (t':=s.toks) (λb o hb e=>eb b o hb e) f0 f1 f3 f4 f5⟩
 self:=λ_ _ _ _ _ st h=>wpAny_pyIter_tupleiter st h
def sZ(it:Addr)(lo:Int)(n:Nat):Turn P w K tg (Itr lo n) [it] it (λi h=>IsRangeIter h it (lo+(i:Nat)*1) ((n:Int)-(i:Nat)) 1) where
 mem:=by simp
 obj:=λi h st b hb=>by
  have e:b=it:=by simpa using hb
  subst e
  exact ⟨_,st,λv z=>by
   have z':Data.fields _=Data.cell v:=z;cases z'⟩
 keep:=λi h h' st k=>k it #[3] _ st
 item:=by
  intro X hP hw hK hc i Y s Z H E I hf st hg;subst hP hw hK;let⟨f0,f1,f2,f3,f4,f5⟩:=hf it #[3]
  have W:=Walks.range (prog:=X.prog) (w:=X.w) (I.ok.hd hc) it lo 1 n;refine W.item i s _ _ hg st λv h' tk hv Zf kk=>?_;let⟨t,rfl⟩:=hv;have I1:Z4 X Y Z H {s with heap:=h',toks:=tk}:=I.turned (λb o hb e=>kk b o (by simpa using hb) e) f0 f1 f3 f4 f5
  refine⟨_,rfl,gh (s:={s with heap:=h',toks:=tk}) (n:="range_iterator") Zf rfl rfl #[1] ⟨.int (lo+i),H,I1,⟨t,?_⟩,⟨rfl,rfl⟩,Zf,λb hb=>(hf b hb).1⟩⟩
  rw[Int.mul_one]
 done:=by
  intro X hP hw hK hc i Y s Z H E I hf st hg;subst hP hw hK;let⟨f0,f1,f2,f3,f4,f5⟩:=hf it #[3]
  exact wpAny_pyNext_range_end (I.ok.hd hc) st (by have:n<=i:=hg;omega) λh' eb=>⟨rfl,I.turned (t':=s.toks) (λb o hb e=>eb b o hb e) f0 f1 f3 f4 f5⟩
 self:=λ_ _ _ _ _ st h=>wpAny_pyIter_rangeiter st h
end L2
namespace L2
open PySem PySem.Spec PyProof.Rows
section
def vK{Z:St}{R:It->Hp->Prop}{E:Value->Shared->Prop}{a c:Int}{t u v:Tok}{tk:Nat}(I:Z4 X Y Z H s)(h1 : -(2 ^ 62)<=a)(j:a<2 ^ 62)(h3 : -(2 ^ 62)<=c)(g:c<2 ^ 62)
  (q:R (Itr a (c-a).toNat) H):wpAny (model X.prog X.w) X.A (pyIter (.ref s.heap.objs.size)) (PIE X Y Z tg R) E {s with heap:=s.heap.push {cls:=.type "range",data:=.fields #[.int a t,.int c u,.int 1 v]},toks:=tk}:=by
 refine wpAny_pyIter_range (IsRange.new ..) (small_one h1 j h3 g) ?_;have d:Z4 X Y Z H {s with heap:=s.heap.push {cls:=.type "range",data:=.fields #[.int a t,.int c u,.int 1 v]},toks:=tk}:=I.kept λb o e=>H9 _ e
 refine⟨(s.heap.push {cls:=.type "range",data:=.fields #[.int a t,.int c u,.int 1 v]}).objs.size,[(s.heap.push {cls:=.type "range",data:=.fields #[.int a t,.int c u,.int 1 v]}).objs.size],_,_,H,rfl,
  d.kept (t':=tk) λb o e=>H9 _ e,sZ _ a (c-a).toNat,?_,λb f=>?_,q⟩
 .have r:a+((0:Nat):Int)*1=a:=by simp
  have k:(((c-a).toNat:Nat):Int)-((0:Nat):Int)=Builtin.Range.rangeSize a c 1:=by rw[rangeSize_one];split<;>omega
  show IsRangeIter _ _ (a+((0:Nat):Int)*1) ((((c-a).toNat:Nat):Int)-((0:Nat):Int)) 1;rw[r,k];exact Ij _ rfl
 .have e:b=(s.heap.push {cls:=.type "range",data:=.fields #[.int a t,.int c u,.int 1 v]}).objs.size:=by simpa using f
  subst e;exact d.UZ (Ie _) (d.ZO.fresh (Ie _))
def Hv(a:TA):TI:=λZ H R=>a Z H λvs H1=>∃j:Int,vs=[.int j] /\ -(2 ^ 62)<=j/\j<2 ^ 62/\R (Itr 0 j.toNat) H1
def uw{a:Expr}{c:TA}(l:Gl X "range")(k:X.mg "range" = none)(m:PA X [a] c)(i:starEach [a] X.env=[(false,eval a X.env)]:=by rfl):PI X tg (.Call (.Name "range" p) [a] [] pos) (Hv c):=by
 intro Y s Z H R I h;refine Call_ (bV I l k boot_range (Sj (thn (m pos Y s Z H _ I h) λM o ⟨vs,H1,n,f,b⟩=>?_) i rfl));let⟨j,e,b,g,q⟩:=b;subst e;cases f with
 |cons r d=>
  cases d;let⟨t,rfl⟩:=r;exact call_range_1 (vK n () () b g (by simpa using q))
def H8(c:TI)(g:TG)(tb:TS):TS:=λD Z H=>c Z H λa H1=>∃W:Nat->Nat->St->Hp->Prop,(∃m,W 0 m Z H1) /\∀i m Z H,W i m Z H ->
 (a.stop i H/\D.nx Z H)\/(a.go i H /\∃N:St->Hp->Prop,(∀ZX H',N ZX H' ->∃b,b<m/\W (i+1) b ZX H') /\∀x H',a.yld i H x H'->g x Z H' λd H2=>tb {D with nx:=N,ct:=N,bk:=D.nx} d H2)
def Cq(a:List Addr)(h:Heap):List (Addr×Obj):=a.filterMap λb=>(h.get? b).map λo=>(b,o)
def c7{b:Addr}{o:Obj}(a:b∈fp)(e:h.get? b=some o):(b,o)∈Cq fp h:=So.mpr ⟨b,a,by rw[e];rfl⟩
def uz{p:Addr×Obj}(hp:p∈Cq fp h):p.1∈fp/\h.get? p.1=some p.2:=by
 let⟨b,a,e⟩:=So.mp hp;cases q:h.get? b with
 |none=>rw[q]at e;cases e
 |some o=>
  rw[q]at e;have e':(b,o)=p:=Vm e;subst e';exact⟨a,q⟩
def Z4.pinned{Z:St}{a:List Addr}(I:Z4 X Y Z H s)(h:∀b∈a,Ay X Y H b)(g:∀b∈a,∃o,s.heap.get? b=some o /\∀v,o.data ≠ .cell v):Z4 X (Y++Cq a s.heap) Z H s:=
 I.Tj λp f=>(U8.mp f).elim (λz=>I.pin p (Ul _ z)) λz=>by
  let⟨c,e⟩:=uz z;let⟨k,j,i,_⟩:=h p.1 c;let⟨o,e',d⟩:=g p.1 c;rw[e]at e';cases e';exact⟨e,k,j,i,d⟩
def Z4.Ug{pl:List (Addr×Obj)}{Z:St}(I:Z4 X (Y++pl) Z H s):Z4 X Y Z H s:=I.Tj λp a=>I.pin p (Ul _ (TV _ a))
def mX{J:TI}{g:TG}{tb:TS}(hp:PassesOwn (model X.prog X.w) X.A X.env X.xe)(L:X.calm=true)(hi:PI X tg iter J)(hg:PG X tg g)(c:PSs X body tb)
  (hs:∀x,foldedSetIterable iter X.env x=pure x:=by intro _;rfl):PS X (.For tg iter body [] pos) (H8 J g tb):=by
 intro Y s Z H D I h;refine wpAny_For (thn (hi Y s Z H _ I h) λv s1 h1=>thn h1 λVq s2 h2=>?_) hs;let⟨it,fp,tn,Z7,H2,e,I2,T,XO,M,W,⟨m0,V⟩,turn⟩:=h2;subst e;have a:∀{H':Hp},(∀b∈fp,H' b=none) ->∀b∈fp,Ay X Y H' b:=λhn b c=>⟨hn b c,(M b c).2⟩;refine codeAny_forLoop_any (λn s'=>∃i ZX H',Z4 X Y ZX H' s'/\tn i s'.heap/\(∀b∈fp,H' b=none)/\W i n ZX H') ?_ m0 ⟨0,Z,H2,I2,XO,λb c=>(M b c).1,V⟩;rintro n s3 ⟨i,B,H3,O,t,z,U⟩;rcases turn i n B H3 U with⟨stop,qn⟩|⟨go,N,hN,step⟩
 .refine Ss hp (thn (T.done X rfl rfl rfl L i Y s3 B H3 X.xe O (a z) t stop) λr s4 ⟨E,I4⟩=>?_)
  subst E;exact QH ⟨B,H3,I4,qn⟩
 .refine Ss hp (thn (T.item X rfl rfl rfl L i Y s3 B H3 X.xe O (a z) t go) λr s4 ⟨u,E,h4⟩=>?_)
  subst E;refine Ss hp (thn h4 ?_);rintro _ K ⟨x,P,I5,r5,Q,F,UY⟩;have G:=I5.pinned (a UY) (T.obj _ _ F);refine Ss hp (thn (hg _ K B P x u _ G r5 (step x P Q)) ?_);rintro _ s6 ⟨UX,H6,I6,q6⟩;refine Ss hp (thn (c _ s6 UX H6 _ I6 q6) λf C q=>?_);have j:∀{k:St} {p:Hp},Z4 X (Y++Cq fp K.heap) k p C->N k p ->∃m,m<n /\∃i ZX H',Z4 X Y ZX H' C/\tn i C.heap/\(∀b∈fp,H' b=none)/\W i m ZX H':=λ{k p} l y=>by
   let⟨m',hm,S⟩:=hN k p y;refine⟨m',hm,i+1,k,p,l.Ug,T.keep _ _ _ F λb c o e=>(l.pin (b,o) (Ul _ (Ul _ (c7 c e)))).1,λb c=>?_,S⟩;let⟨o,e,d⟩:=T.obj _ _ F b c;exact(l.pin (b,o) (Ul _ (Ul _ (c7 c e)))).2.1
  cases f with
  |next=>let⟨k,p,l,y⟩:=q;exact j l y
  |cont=>let⟨k,p,l,y⟩:=q;exact j l y
  |brk=>let⟨k,p,l,q⟩:=q;exact⟨k,p,l.Ug,q⟩
  |ret v=>let⟨R,k,p,l,r7,q⟩:=q;exact⟨R,k,p,l.Ug,r7,q⟩
end
end L2
namespace L2
open PySem PySem.Spec PyProof.Rows
abbrev R2:=V->V->Hp->VK->Prop
def OpR(X:Cx)(f:Value->Value->Sem Value)(r:R2):Prop:=
 ∀(Y:List (Addr×Obj)) (s:Shared) (Z:St) (H:Hp) (x y:V) (v u:Value) (Q:VK),Z4 X Y Z H s->RelV x v->RelV y u->r x y H Q ->
  wpAny (model X.prog X.w) X.A (f v u) (EP X Y Z Q) X.xe s
def UnR(X:Cx)(f:Value->Sem Value)(r:V->Hp->VK->Prop):Prop:=
 ∀(Y:List (Addr×Obj)) (s:Shared) (Z:St) (H:Hp) (x:V) (v:Value) (Q:VK),Z4 X Y Z H s->RelV x v->r x H Q ->
  wpAny (model X.prog X.w) X.A (f v) (EP X Y Z Q) X.xe s
def CallR(X:Cx)(f:Value)(r:List V->Hp->VK->Prop):Prop:=
 ∀(Y:List (Addr×Obj)) (s:Shared) (Z:St) (H:Hp) (xs:List V) (M:List Value) (Q:VK),Z4 X Y Z H s->ZM xs M->r xs H Q ->
  wpAny (model X.prog X.w) X.A (call f M) (EP X Y Z Q) X.xe s
def HW(X:Cx)(r:V->Hp->(Bool->Hp->Prop)->Prop):Prop:=
 ∀(Y:List (Addr×Obj)) (s:Shared) (Z:St) (H:Hp) (x:V) (v:Value) (Q:Bool->Hp->Prop),Z4 X Y Z H s->RelV x v->r x H Q ->
  wpAny (model X.prog X.w) X.A (truthy v) (TP X Y Z Q) X.xe s
def Jc(r:R2)(a tb:TE):TE:=λZ H Q=>a Z H λx H1=>tb Z H1 λy H2=>r x y H2 Q
def Jd(r:V->Hp->VK->Prop)(a:TE):TE:=λZ H Q=>a Z H λx H1=>r x H1 Q
def Je(C:Int->Int->Prop)(g:Int->Int->V):R2:=λx y H Q=>∃i j,x=.int i/\y=.int j/\C i j/\Q (g i j) H
def Jf(g:Int->Int->V):R2:=λx y H Q=>∃i j,x=.int i/\y=.int j/\Q (g i j) H
def Jg(g:Int->V):V->Hp->VK->Prop:=λx H Q=>∃i,x=.int i/\Q (g i) H
section
variable{a b c:Expr}{tb tc:TE}
def gx(m:PE X a ta)(l:PE X b tb){Z:St}{R:V->V->Hp->Prop}(I:Z4 X Y Z H s)
  (h:ta Z H λx H1=>tb Z H1 λy H2=>R x y H2) {Q:Value->Shared->Prop} {f:Value->Value->Sem Value}
  (k:∀v u c x y H2,Z4 X Y Z H2 c->RelV x v->RelV y u->R x y H2->wpAny (model X.prog X.w) X.A (f v u) Q X.xe c) :
  wpAny (model X.prog X.w) X.A (eval a X.env) (λv n=>wpAny (model X.prog X.w) X.A (eval b X.env) (λu o=>wpAny (model X.prog X.w) X.A (f v u) Q X.xe o) X.xe n) X.xe s:=by
 refine thn (m Y s Z H _ I h) ?_;rintro v d ⟨x,H1,q,g,j⟩;refine thn (l Y d Z H1 _ q j) ?_;rintro u c ⟨y,H2,p,e,i⟩;exact k v u c x y H2 p g e i
def ace{c:Operator}{r:R2}(g:OpR X (binaryOp c) r)(j:PE X a ta)(i:PE X b tb):PE X (.BinOp a c b pos) (Jc r ta tb):=by
 intro Y s Z H Q I h;exact wpAny_BinOp (gx j i I h λv u d x y H2 k f e q=>g Y d Z H2 x y v u Q k f e q)
def pF{b:UnaryOp}{r:V->Hp->VK->Prop}(f:UnR X (unaryOp b) r)(g:PE X a ta):PE X (.UnaryOp b a pos) (Jd r ta):=by
 intro Y s Z H Q I h;exact UnaryOp_ (thn (g Y s Z H _ I h) λv c ⟨x,H1,i,d,e⟩=>f Y c Z H1 x v Q i d e)
def opI{C:Int->Int->Prop}{g:Int->Int->Int}
  (a:∀(i j:Int) (t u:Tok) (s:Shared) (Q:Value->Shared->Prop) (E:Value->Shared->Prop),C i j->Q (.int (g i j) s.toks) {s with toks:=s.toks+1}->wpAny (model X.prog X.w) X.A (f (.int i t) (.int j u)) Q E s) :
  OpR X f (Je C λi j=>.int (g i j)):=by
 intro Y s Z H x y v u Q I c b h;let⟨i,j,rfl,rfl,d,q⟩:=h;let⟨t,rfl⟩:=c;let⟨t',rfl⟩:=b;exact a i j t t' s _ _ d ⟨.int (g i j),H,I.tok _,⟨_,rfl⟩,q⟩
def rF{g:Int->Int->Int}
  (a:∀(i j:Int) (t u:Tok) (s:Shared) (Q:Value->Shared->Prop) (E:Value->Shared->Prop),Q (.int (g i j) s.toks) {s with toks:=s.toks+1}->wpAny (model X.prog X.w) X.A (f (.int i t) (.int j u)) Q E s) :
  OpR X f (Jf λi j=>.int (g i j)):=by
 intro Y s Z H x y v u Q I c b h;let⟨i,j,rfl,rfl,q⟩:=h;let⟨t,rfl⟩:=c;let⟨t',rfl⟩:=b;exact a i j t t' s _ _ ⟨.int (g i j),H,I.tok _,⟨_,rfl⟩,q⟩
def d9{g:Int->Int->Bool}
  (a:∀(i j:Int) (t u:Tok) (s:Shared) (Q:Value->Shared->Prop) (E:Value->Shared->Prop),Q (.bool (g i j)) s->wpAny (model X.prog X.w) X.A (f (.int i t) (.int j u)) Q E s) :
  OpR X f (Jf λi j=>.bl (g i j)):=by
 intro Y s Z H x y v u Q I c b h;let⟨i,j,rfl,rfl,q⟩:=h;let⟨t,rfl⟩:=c;let⟨t',rfl⟩:=b;exact a i j t t' s _ _ ⟨.bl (g i j),H,I,rfl,q⟩
def GA(i j:Int):Prop:=0<=j/\j<=1000000/\i.natAbs<2 ^ 64
def CMul(i j:Int):Prop:=(-(2 ^ 64)<i/\i<2 ^ 64)\/(-(2 ^ 64)<j/\j<2 ^ 64)
def CMul.ok{i j:Int}(h:CMul i j):IntMulOk i j:=by
 rcases h with⟨h1,h2⟩|⟨h1,h2⟩
 .exact .of_left (intBits_le_64 h1 h2)
 .exact .of_right (intBits_le_64 h1 h2)
def dR:OpR X (binaryOp .Add) (Jf λi j=>.int (i+j)):=rF λ_ _ _ _ _ _ _ q=>add_int q
def dW:OpR X (binaryOp .Sub) (Jf λi j=>.int (i-j)):=rF λ_ _ _ _ _ _ _ q=>sub_int q
def x4:OpR X (binaryOp .Mod) (Je (λ_ j=>j≠0) λi j=>.int (i.fmod j)):=opI λ_ _ _ _ _ _ _ a q=>mod_int' a q
def aae:OpR X (binaryOp .Pow) (Je GA λi j=>.int (i ^ j.toNat)):=opI λ_ _ _ _ _ _ _ a q=>pow_int_small a.1 a.2.1 a.2.2 q
def unI{f:Value->Sem Value}{g:Int->Int}
  (a:∀(i:Int) (t:Tok) (s:Shared) (Q:Value->Shared->Prop) (E:Value->Shared->Prop),Q (.int (g i) s.toks) {s with toks:=s.toks+1}->wpAny (model X.prog X.w) X.A (f (.int i t)) Q E s) :
  UnR X f (Jg λi=>.int (g i)):=by
 intro Y s Z H x v Q I b h;let⟨i,rfl,q⟩:=h;let⟨t,rfl⟩:=b;exact a i t s _ _ ⟨.int (g i),H,I.tok _,⟨_,rfl⟩,q⟩
def nC:UnR X (unaryOp .USub) (Jg λi=>.int (-i)):=unI λ_ _ _ _ _ q=>neg_int q
end
def HR:V->V->Bool
 |.ZR,.ZR=>true|.ZR,.int _=>true|.int _,.ZR=>true|.ZR,.bl _=>true|.bl _,.ZR=>true|.ZR,.str _=>true|.str _,.ZR=>true
 |.int _,.int _=>true|.bl _,.bl _=>true|.str _,.str _=>true|.Xv _,.Xv _=>true
 |.int _,.str _=>true|.str _,.int _=>true|.bl _,.str _=>true|.str _,.bl _=>true
 |_,_=>false
def rNe:R2:=λx y H Q=>HR x y=true/\Q (.bl (!decide (x=y))) H
def j2{i j:Int}:decide (V.int i=V.int j)=(i==j):=by
 rw[RW];simp
def m7{i j:Bool}:decide (V.bl i=V.bl j)=(i==j):=by
 rw[RW];simp
def kq{i j:Str}:decide (V.str i=V.str j)=(i==j):=by
 rw[RW];simp
def xw{i j:Array UInt8}:decide (V.Xv i=V.Xv j)=(i.toList==j.toList):=by
 rw[RW];cases i;cases j;simp
section
variable{a b c:Expr}{tb tc:TE}
def au{Z:St}{Q:VK}{k k':Bool}(I:Z4 X Y Z H s)(q:Q (.bl k) H)(e:k=k'):EP X Y Z Q (.bool k') s:=by
 subst e;exact⟨.bl k,H,I,rfl,q⟩
def abP:OpR X (compareOp .NotEq) rNe:=by
 intro Y s Z H x y v u Q I c a h;let⟨hs,q⟩:=h;cases x with
 |ZR=>
  cases c;cases y with
  |ZR=>cases a;exact PySem.EqNone.ne_none_none (au I q #[3])
  |bl j=>cases a;exact PySem.EqNone.ne_none_bool (au I q #[3])
  |int j=>let⟨t',rfl⟩:=a;exact PySem.EqNone.ne_none_int (au I q #[3])
  |str j=>let⟨t',rfl⟩:=a;exact PySem.EqNone.ne_none_str (au I q #[3])
  |_=>exact absurd (show false=true from hs) Ic
 |bl i=>
  cases c;cases y with
  |ZR=>cases a;exact PySem.EqNone.ne_bool_none (au I q #[3])
  |bl j=>cases a;exact ne_bool (au I q (T8 not m7))
  |str j=>let⟨t',rfl⟩:=a;exact PySem.EqMixed.ne_bool_str (au I q #[3])
  |_=>exact absurd (show false=true from hs) Ic
 |int i=>
  let⟨t,rfl⟩:=c;cases y with
  |ZR=>cases a;exact PySem.EqNone.ne_int_none (au I q #[3])
  |int j=>let⟨t',rfl⟩:=a;exact ne_int (au I q (T8 not j2))
  |str j=>let⟨t',rfl⟩:=a;exact PySem.EqMixed.ne_int_str (au I q #[3])
  |_=>exact absurd (show false=true from hs) Ic
 |str i=>
  let⟨t,rfl⟩:=c;cases y with
  |ZR=>cases a;exact PySem.EqNone.ne_str_none (au I q #[3])
  |bl j=>cases a;exact PySem.EqMixed.ne_str_bool (au I q #[3])
  |int j=>let⟨t',rfl⟩:=a;exact PySem.EqMixed.ne_str_int (au I q #[3])
  |str j=>let⟨t',rfl⟩:=a;exact ne_str (au I q (T8 not kq))
  |_=>exact absurd (show false=true from hs) Ic
 |Xv i=>
  let⟨t,rfl⟩:=c;cases y with
  |Xv j=>let⟨t',rfl⟩:=a;exact PySem.W.ne_bytes (au I q (T8 not xw))
  |_=>exact absurd (show false=true from hs) Ic
 |_=>cases y<;>exact absurd (show false=true from hs) Ic
def acn:OpR X (compareOp .Lt) (Jf λi j=>.bl (decide (i<j))):=d9 λ_ _ _ _ _ _ _ q=>lt_int q
def acb:OpR X (compareOp .LtE) (Jf λi j=>.bl (decide (i<=j))):=d9 λ_ _ _ _ _ _ _ q=>le_int q
def abN:OpR X (compareOp .Gt) (Jf λi j=>.bl (decide (j<i))):=d9 λ_ _ _ _ _ _ _ q=>gt_int q
def acC:OpR X (compareOp .GtE) (Jf λi j=>.bl (decide (j<=i))):=d9 λ_ _ _ _ _ _ _ q=>ge_int q
def aaH:OpR X (compareOp .Is) (λx y H Q=>y=.ZR/\Q (.bl (decide (x=.ZR))) H):=by
 intro Y s Z H x y v u Q I a b h;let⟨rfl,q⟩:=h;cases b;refine is_none_gen (au I q ?_);cases x<;>first
  |(cases a;rfl)
  |(let⟨t,rfl⟩:=a;rfl)
def xl:OpR X (compareOp .IsNot) (λx y H Q=>y=.ZR/\Q (.bl (!decide (x=.ZR))) H):=by
 intro Y s Z H x y v u Q I a b h;let⟨rfl,q⟩:=h;cases b;refine isnot_none_gen (au I q ?_);cases x<;>first
  |(cases a;rfl)
  |(let⟨t,rfl⟩:=a;rfl)
def ky{c:CmpOp}{r:R2}(g:OpR X (compareOp c) r)(k:PE X a ta)(j:PE X b tb)(i:behindInMarks c b=false):PE X (.Compare a [c] [b] pos) (Jc r ta tb):=by
 intro Y s Z H Q I h;exact wpAny_Compare1 (gx k j I h λv u d x y H2 l f e q=>g Y d Z H2 x y v u Q l f e q) i
def Fw(t:TE):TT:=λZ H Q=>t Z H λx H'=>∃k,x=.bl k/\Q k H'
def j5{d:CmpOp}{r:R2}(p:OpR X (compareOp d) r)(w:PE X a ta)(t:PE X b tb)(q:behindInMarks d b=false):PT X (.Compare a [d] [b] pos) (Fw (Jc r ta tb)):=by
 intro Y s Z H Q I h;refine wpAny_isTrue_Compare1 (thn (w Y s Z H _ I h) λv g ⟨x,H1,C,l,o⟩=>thn (t Y g Z H1 _ C o) λu f ⟨y,H2,B,j,n⟩ =>
  thn (p Y f Z H2 x y v u _ B l j n) λc s3 ⟨z,H3,A,i,k,e,m⟩=>?_) q
 subst e;cases i;exact TF ⟨H3,A,m⟩
def DP(r d:R2)(c tb b:TE):TE:=λZ H Q=>c Z H λx H1=>tb Z H1 λy H2=>r x y H2 λz H3=>∃k,z=.bl k /\
 (if k=true then b Z H3 λa e=>d y a e Q else Q (.bl false) H3)
def vt{f g:CmpOp}{r j:R2}(E:OpR X (compareOp f) r)(L:OpR X (compareOp g) j)(K:PE X a ta)(J:PE X b tb)(G:PE X c tc)
  (F:lastMarks [f,g] [b,c]=false:=by with_unfolding_all rfl):PE X (.Compare a [f,g] [b,c] pos) (DP r j ta tb tc):=by
 intro Y s Z H Q I h;refine Compare_chain (thn (K Y s Z H _ I h) λv q ⟨x,H1,O,A,D⟩=>chain_link (thn (J Y q Z H1 _ O D) λu p ⟨y,H2,N,i,C⟩ =>
  thn (E Y p Z H2 x y v u _ N A i C) λd s3 ⟨z,H3,m,w,k,e,l⟩=>?_)) F
 subst e;cases w;refine TF ?_;cases k with
 |false=>exact ite_ff ⟨.bl false,H3,m,rfl,l⟩
 |true=>exact ite_tt (chain_last (thn (G Y s3 Z H3 _ m l) λo s4 ⟨n,P,M,t,B⟩=>L Y s4 Z P y n u o Q M i t B))
def vz{f g:CmpOp}{r j:R2}(J:OpR X (compareOp f) r)(P:OpR X (compareOp g) j)(N:PE X a ta)(M:PE X b tb)(L:PE X c tc)
  (K:lastMarks [f,g] [b,c]=false:=by with_unfolding_all rfl):PT X (.Compare a [f,g] [b,c] pos) (Fw (DP r j ta tb tc)):=by
 intro Y s Z H Q I h;refine isTrue_chain (thn (N Y s Z H _ I h) λv q ⟨x,H1,U,B,F⟩=>test_link (thn (M Y q Z H1 _ U F) λu p ⟨y,H2,T,i,E⟩ =>
  thn (J Y p Z H2 x y v u _ T B i E) λd s3 ⟨z,H3,m,A,k,e,l⟩=>?_)) K
 subst e;cases A;refine TF ?_;cases k with
 |false=>
  let⟨k',e',G⟩:=l;cases e';exact ite_ff ⟨H3,m,G⟩
 |true=>
  refine ite_tt (test_last (thn (L Y s3 Z H3 _ m l) λo s4 ⟨n,W,S,w,D⟩=>thn (P Y s4 Z W y n u o _ S i w D) ?_));rintro d' s5 ⟨z2,V,R,t,k2,O,C⟩;subst O;cases t;exact TF ⟨V,R,C⟩
def Du(K:Il)(x:V)(H:Hp)(k:Bool):Prop:=
 match x with
 |.ZR=>k=false
 |.bl b=>k=b
 |.int i=>k=(i != 0)
 |.str y=>y.length<=sizeLine/\k=((y.length:Int) != 0)
 |.Xv y=>y.size<=sizeLine/\k=((y.size:Int) != 0)
 |.ref p=>(∃xs,SqL K H p xs/\k = !xs.isEmpty)\/(∃xs,SqT K H p xs/\k = !xs.isEmpty) \/∃Z3,H p=some (.dK Z3)/\k = !Z3.isEmpty
 |_=>False
def tJ{a:Type}{Z3:List (a×V)}{vs:List (a×Value)}(r:KV Z3 vs):(!vs.isEmpty) = !Z3.isEmpty:=by
 cases r<;>rfl
def gY{xs:List V}(r:ZM xs ZY):(!ZY.toArray.isEmpty) = !xs.isEmpty:=by
 cases r<;>simp
def cJ:(sizeLine:Nat)<2 ^ 63:=by rw[TH];decide
def lS:HW X (λx H Q=>∃k,Du X.K x H k/\Q k H):=by
 intro Y s Z H x v Q I a h;let⟨k,e,q⟩:=h;have g:=cJ;have hs:sizeLine=16777216:=TH;cases x with
 |ZR=>
  cases a;have e':k=false:=e;subst e';exact truthy_none ⟨H,I,q⟩
 |bl b=>
  cases a;have e':k=b:=e;subst e';exact TF ⟨H,I,q⟩
 |int i=>
  let⟨t,rfl⟩:=a;have e':k=(i != 0):=e;subst e';exact PySem.P.truthy_int ⟨H,I,q⟩
 |str y=>
  let⟨t,rfl⟩:=a;obtain⟨d,e'⟩:y.length<=sizeLine/\k=((y.length:Int) != 0):=e;subst e';exact PySem.P.truthy_str () ⟨H,I.tok _,q⟩
 |Xv y=>
  let⟨t,rfl⟩:=a;obtain⟨d,e'⟩:y.size<=sizeLine/\k=((y.size:Int) != 0):=e;subst e';exact PySem.W.truthy_bytes () ⟨H,I.tok _,q⟩
 |ref p=>
  cases a;have e':(∃xs,SqL X.K H p xs/\k = !xs.isEmpty)\/(∃xs,SqT X.K H p xs/\k = !xs.isEmpty) \/∃Z3,H p=some (.dK Z3)/\k = !Z3.isEmpty:=e;rcases e' with⟨xs,hx,e'⟩|⟨xs,hx,e'⟩|⟨Z3,hx,e'⟩
  .subst e'
   let⟨ZY,r,pl,c⟩:=I.list hx;have hlen:=r.length;exact wpAny_truthy_list pl.isList (by simp![XB];omega) ⟨H,I.tok _,by rw[gY r];exact q⟩
  .subst e'
   let⟨ZY,r,pl,c⟩:=I.tuple hx;have hlen:=r.length;exact truthy_tuple pl (by simp![XB];omega) ⟨H,I.tok _,by rw[gY r];exact q⟩
  .subst e'
   obtain⟨c,f,vs,r,m⟩:Z3.length<=sizeLine/\(p==sysModules)=false /\∃vs,KV Z3 vs/\s.heap.DictOf (AO X.prog X.w) p vs:=I.ZO p _ hx;have hlen:Z3.length=vs.length:=RN r;exact wpAny_truthy_dict f m () ⟨H,I.tok _,by rw[tJ r];exact q⟩
 |_=>exact(show False from e).elim
def v5(ha:PE X a ta)(he:∀whole,isTrue a X.env whole=(do let v<-whole;standAt a.pos;holding [v] (truthy v))):
  PT X a (λZ H Q=>ta Z H λx H'=>∃k,Du X.K x H' k/\Q k H'):=by
 intro Y s Z H Q I h;exact isTrue_plain (thn (ha Y s Z H _ I h) λv s1 ⟨x,H1,I1,r1,q1⟩=>lS Y s1 Z H1 x v Q I1 r1 q1) (he _)
def vals1{x:V}{M:List Value}(r:ZM [x] M):∃u,M=[u]/\RelV x u:=by
 cases r with
 |cons b a=>cases a;exact⟨_,rfl,b⟩
def call_abs:CallR X (.builtin "abs") (λxs H Q=>∃i,xs=[.int i]/\Q (.int (if i<0 then -i else i)) H):=by
 intro Y s Z H xs M Q I r h;let⟨i,rfl,q⟩:=h;let⟨u,rfl,t,rfl⟩:=vals1 r;exact call_abs_int λu tk=>⟨.int (if i<0 then -i else i),H,I.tok _,⟨_,rfl⟩,q⟩
end
end L2
namespace L2
open PySem PySem.Spec PyProof.Rows
structure V3(h:Heap)(x dx C:Addr)(mA:Str->Option Value):Prop where
 obj:h.get? x=some (PySem.W.instObj C dx)
 ns:h.Ns1 dx mA
 ne:dx≠x
def eO{d:Addr}{c:Str->Option Value}(n:h.Ns1 d c):∃od,h.get? d=some od /\∀name,PySem.W.lookIn name od=some (c name):=by
 let⟨o,es,j,ho,i,hk,_,g⟩:=n;refine⟨o,ho,λname=>?_⟩;have e:=g name;unfold nsFind findBy at e;rw[<-Array.find?_toList]at e;unfold PySem.W.lookIn;rw[i];dsimp only;split
 .rename_i y q
  rw[q]at e;exact T8 some e
 .rename_i q
  rw[q]at e;have a:es.toList.any (·.refKey)=false:=by
   rw[List.any_eq_false];intro y f;let⟨z,t,b⟩:=hk y (Array.mem_toList_iff.mp f);simp[DictEntry.refKey,b]
  have a' : ¬ es.toList.any (·.refKey)=true:=by rw[a];exact Ic
  rw[WV a'];exact T8 some e
def V3.look{x b C:Addr}{a:Str->Option Value}(I:V3 h x b C a):∃od,PySem.W.InstAt h x (PySem.W.instObj C b) C (some od) /\∀name,PySem.W.lookIn name od=some (a name):=
 let⟨od,ho,c⟩:=eO I.ns
 ⟨od,⟨I.obj,rfl,rfl,ho⟩,c⟩
section
variable{E:Value->Shared->Prop}{x dx C f:Addr}{mA:Str->Option Value}{v:Value}
def get_map{a:Bool}{Q:Value->Shared->Prop}(X:K.In s.heap)(I:V3 s.heap x dx C mA)(f:PySem.W.plainGet K C name=true)(e:PySem.W.hasDictIn K C=true)
  (g:PySem.W.findIn K (.ref C) name=some none) (c:mA name=some v) (b:PySem.W.handedIn v=true) (h:Q v {s with toks:=s.toks+1}) :
  wpAny (model prog w) A (getAttr (.ref x) name a) Q E s:=by
 let⟨od,i,d⟩:=I.look;exact PySem.W.get_value X i (R5 f).1 (PySem.W.findObj_own e g rfl (by rw[d,c])) b h
def vD{Q:Value×List Value->Shared->Prop}(X:K.In s.heap)(I:V3 s.heap x dx C mA)(a:PySem.W.plainGet K C name=true)
  (e:PySem.W.findIn K (.ref C) name=some (some (.ref f))) (c:PySem.W.isFn K (.ref f)=true) (b:mA name=none) (h:Q (.ref f,[.ref x]) s) :
  wpAny (model prog w) A (getMethod (.ref x) name pl) Q E s:=by
 let⟨od,g,d⟩:=I.look;exact PySem.W.method_fn X g (R5 a).1 (R5 a).2 e (W6.mp c) (by show(PySem.W.lookIn name od).map (·.isSome)=some false;rw[d,b];rfl) h
def xP{ns:List Str}{Q:Unit->Shared->Prop}(X:K.In s.heap)(I:V3 s.heap x dx C mA)
  (o:PySem.W.findIn K (.ref C) "__setattr__" = some (some (.builtin "object.__setattr__"))) (hp:PySem.W.plainOver K C=true) (k:PySem.W.takerIn K C name=some none) (t:PySem.W.hasDictIn K C=true)
  (j:PySem.Within mA ns) (hsz:ns.length<=sizeLine)
  (h:∀h',V3 h' x dx C (λy=>if y=name then some v else mA y)->Heap.SameBut dx s.heap h'->Q Unit.unit {s with heap:=h',toks:=s.toks+2}) :
  wpAny (model prog w) A (setAttr (.ref x) name v) Q E s:=by
 let⟨od,c,L⟩:=I.look;refine PySem.W.set_plain X c o (PySem.W.osa_open (s:={s with toks:=s.toks+1}) (r:=none) X c hp k λb=>?_)
 let⟨M,u,F⟩:=PySem.W.any_some t;have g:s.heap.get? x=some ⟨.ref C,some dx,.plain,#[]⟩:=I.obj;refine ZB (ZP (ZB (ZB (Qb g (ZB (PySem.W.Looks.here (s:={s with toks:=s.toks+1}) (PySem.W.looks_clsIn X u) ?_))))))
 rw[F];refine ZP (a:=some dx) (ZB (ZP (ZB ?_)));refine wpAny_nsSet1 (s:={s with toks:=s.toks+1}) I.ns λh' f d=>?_
 let⟨J,z,B,G,H,D⟩:=f.count (Qi name v j);refine ZB (Qo G (by rw[H];exact Qp (Ib D (by rw[Wa];omega))) ?_)
 exact ZP (h _ ⟨(d.2 _ (Ne.symm I.ne)).trans I.obj,f,I.ne⟩ d)
def vR{R:Result->Shared->Prop}{vs:List Value}(X:K.In s.heap)(a:PySem.W.makesIn K C=true)
  (b:PySem.W.findIn K (.ref C) "__init__" = some (some (.ref f))) (c:PySem.W.typeIn K (.ref f)=some (.type "function"))
  (h:codeAny (model prog w) (A.under (.builtin "type.__call__" ⟨.ref C::vs,kw⟩)) (.call (.ref f) ⟨.ref (s.heap.objs.size+1)::vs,kw⟩) (PySem.W.InitBack (s.heap.objs.size+1) R)
   {s with heap:=(s.heap.push PySem.W.emptyDict).push (PySem.W.instObj C s.heap.objs.size)}) :
  codeAny (model prog w) A (.call (.ref C) ⟨vs,kw⟩) R s:=by
 let⟨e,g,d,t,os⟩:=s;exact PySem.W.make_core (PySem.W.makes_of X a) (PySem.W.looks_findIn X b) (λself=>PySem.W.bind_fn X self c) (.inl rfl) h
end
def Az(f:Str)(v:V):List (Str×V)->List (Str×V)
 |[]=>[(f,v)]
 |(g,x)::r=>if g=f then(g,v)::r else(g,x)::Az f v r
def gF(f g:Str)(v:V):∀fs:List (Str×V),(Az f v fs).lookup g=if g=f then some v else fs.lookup g
 |[]=>by
  show List.lookup g [(f,v)]=_;by_cases h:g=f
  .have a:(g==f)=true:=W6.mpr h
   simp![List.lookup,a,XW h]
  .have a:(g==f)=false:=Si.mpr h
   simp![List.lookup,a,WV h]
 |(k,x)::r=>by
  have ih:=gF f g v r;rw[show Az f v ((k,x)::r)=(if k=f then(k,v)::r else(k,x)::Az f v r)from rfl]
  by_cases hk:k=f
  .rw [XW hk]
   by_cases h:g=k
   .have a:(g==k)=true:=W6.mpr h
    simp![List.lookup,a,XW (h.trans hk)]
   .have a:(g==k)=false:=Si.mpr h
    simp![List.lookup,a,WV (λe:g=f=>h (e.trans hk.symm))]
  .rw [WV hk]
   by_cases h:g=k
   .have a:(g==k)=true:=W6.mpr h
    simp![List.lookup,a,WV (λe:g=f=>hk (h.symm.trans e))]
   .have a:(g==k)=false:=Si.mpr h
    simp![List.lookup,a];exact ih
def eP(f:Str)(v:V):∀fs:List (Str×V),f∈(Az f v fs).map (·.1) /\∀g,g∈fs.map (·.1)->g∈(Az f v fs).map (·.1)
 |[]=>⟨by simp[Az],λg h=>by simp at h⟩
 |(k,x)::r=>by
  let⟨b,a⟩:=eP f v r;rw[show Az f v ((k,x)::r)=(if k=f then(k,v)::r else(k,x)::Az f v r)from rfl]
  by_cases hk:k=f
  .rw [XW hk]
   subst hk;exact⟨by simp,λg h=>by simpa using h⟩
  .rw [WV hk]
   refine⟨?_,λg h=>?_⟩
   .rw [YG]
    exact Ig _ b
   .rw [YG]at h ⊢
    rcases Xl.mp h with e|e
    .exact Xl.mpr (.inl e)
    .exact Ig _ (a g e)
def gK(f:Str)(v:V):∀fs:List (Str×V),(Az f v fs).length<=fs.length+1
 |[]=>by simp[Az]
 |(k,x)::r=>by
  have ih:=gK f v r;rw[show Az f v ((k,x)::r)=(if k=f then(k,v)::r else(k,x)::Az f v r)from rfl]
  by_cases hk:k=f
  .rw [XW hk,Wa,Wa];omega
  .rw [WV hk,Wa,Wa];omega
def RelO.some_of{o:Option Value}(r:RelO (some v) o):∃u,o=some u/\RelV v u:=by
 cases o with
 |none=>exact(show False from r).elim
 |some u=>exact⟨u,rfl,r⟩
def RelO.none_of{o:Option Value}(r:RelO none o):o=none:=by
 cases o with
 |none=>rfl
 |some u=>exact(show False from r).elim
def iQ{u:Value}(r:RelV v u):PySem.W.handedIn u=true:=by
 cases v with
 |ZR=>cases(show u=Value.none from r);rfl
 |bl b=>cases(show u=Value.bool b from r);rfl
 |int i=>let⟨t,e⟩:=(show∃t,u=Value.int i t from r);cases e;rfl
 |str x=>let⟨t,e⟩:=(show∃t,u=Value.str x t from r);cases e;rfl
 |Xv b=>let⟨t,e⟩:=(show∃t,u=Value.bytes b t from r);cases e;rfl
 |Vx b=>let⟨t,e⟩:=(show∃t,u=Value.float b t from r);cases e;rfl
 |ref a=>cases(show u=Value.ref a from r);rfl
 |ty n=>cases(show u=Value.type n from r);rfl
section
variable{C dx:Addr}{fs Vv:List (Str×V)}
def aT(c:HOk P w H h)(e:H a=some (.ins C dx fs)):∃mA,V3 h a dx C mA/\(∀f,RelO (fs.lookup f) (mA f))/\PySem.Within mA (fs.map (·.1))/\fs.length<=1000/\H dx=some (.own a):=by
 let⟨d,z,b,ob,mA,n,r,q⟩:=(show ObjOk P w H h a (.ins C dx fs)from c a _ e);exact⟨mA,⟨ob,n,b⟩,r,q,z,d⟩
end
structure YN(K:Il)(C:Addr):Prop where
 pg:PySem.W.plainGet K C Str.empty=true
 hd:PySem.W.hasDictIn K C=true
 po:PySem.W.plainOver K C=true
 sa:PySem.W.findIn K (.ref C) "__setattr__" = some (some (.builtin "object.__setattr__"))
def YN.get{C:Addr}(c:YN K C)(f:Str):PySem.W.plainGet K C f=true:=c.pg
def NoAttr(K:Il)(C:Addr)(f:Str):Prop:=PySem.W.findIn K (.ref C) f=some none
def NoAttr.SW{C:Addr}{f:Str}(n:NoAttr K C f):PySem.W.takerIn K C f=some none:=by
 unfold PySem.W.takerIn;rw[show PySem.W.findIn K (.ref C) f=some none from n]
 rfl
structure Con(K:Il)(C:Addr)(f:Str)(v:V)(u:Value):Prop where
 at_:PySem.W.findIn K (.ref C) f=some (some u)
 rel:RelV v u
 get:PySem.W.specialIn K u "__get__" = some none
 cp:PySem.W.copiedNames.contains f=false
structure V2(K:Il)(C:Addr)(m:Str)(f:Addr):Prop where
 at_:PySem.W.findIn K (.ref C) m=some (some (.ref f))
 fn:PySem.W.isFn K (.ref f)=true
 kp:PySem.W.keepIn K (.ref f)=true
section
variable{Z:St}{C dx:Addr}{fs:List (Str×V)}{f:Str}{E:Value->Shared->Prop}
def tK{Q:Value->Shared->Prop}(I:Z4 X Y Z H s)(e:H a=some (.ins C dx fs))(c:YN X.K C)(n:NoAttr X.K C f)(l:fs.lookup f=some v)
  (h:∀u s',Z4 X Y Z H s'->RelV v u->Q u s'):wpAny (model X.prog X.w) A (getAttr (.ref a) f b) Q E s:=by
 let⟨mA,Z6,r,_,_,_⟩:=aT I.ZO e;let⟨u,g,d⟩:=RelO.some_of (v:=v) (o:=mA f) (by rw[<-l];exact r f)
 exact get_map I.Zt Z6 (c.get f) c.hd n g (iQ d) (h u _ (I.tok _) d)
def tS{m:Str}{g:Addr}{Q:Value×List Value->Shared->Prop}(I:Z4 X Y Z H s)(e:H a=some (.ins C dx fs))(c:YN X.K C)(k:V2 X.K C m g)(l:fs.lookup m=none)
  (h:Q (.ref g,[.ref a]) s):wpAny (model X.prog X.w) A (getMethod (.ref a) m pl) Q E s:=by
 let⟨mA,Z6,r,_,_,_⟩:=aT I.ZO e;have b:mA m=none:=RelO.none_of (by rw[<-l];exact r m)
 exact vD I.Zt Z6 (c.get m) k.at_ k.fn b h
def sN{u:Value}{Q:Unit->Shared->Prop}(I:Z4 X Y Z H s)(e:H a=some (.ins C dx fs))(c:YN X.K C)(n:NoAttr X.K C f)(p:fs.length<1000)(j:RelV y u)
  (h:∀s',Z4 X Y Z (upd H a (.ins C dx (Az f y fs))) s'->Q Unit.unit s'):wpAny (model X.prog X.w) A (setAttr (.ref a) f u) Q E s:=by
 let⟨mA,Z6,r,i,_,ho⟩:=aT I.ZO e;have k:(fs.map (·.1)).length<=sizeLine:=by rw[Yk,TH];omega
 refine xP I.Zt Z6 c.sa c.po n.SW c.hd i k λh' d sb=>h _ ?_;have hd:∃o,h'.get? dx=some o:=let⟨o,_,_,e',_⟩:=d.ns;⟨o,e'⟩
 refine I.write (x:=a) (e:=dx) (by rw[e];exact True.intro) (.inr ho) (λb q m z=>(sb.2 b m).trans z) hd ?_
 refine⟨by rw[aa Z6.ne];exact ho,?_,Z6.ne,d.obj,_,d.ns,λg=>?_,λg l=>?_⟩
 .have:=gK f y fs;omega
 .show RelO ((Az f y fs).lookup g) (if g=f then some u else mA g)
  rw[gF];by_cases q:g=f
  .rw [XW q,XW q];exact j
  .rw [WV q,WV q];exact r g
 .by_cases q:g=f
  .rw [q];exact(eP f y fs).1
  .refine (eP f y fs).2 g (i g λz=>l ?_)
   show(if g=f then some u else mA g)=none
   rw[WV q];exact z
def Z4.made(I:Z4 X Y Z H s):Z4 X Y Z (upd (upd H s.heap.objs.size (.own (s.heap.objs.size+1))) (s.heap.objs.size+1) (.ins C s.heap.objs.size []))
  {s with heap:=(s.heap.push PySem.W.emptyDict).push (PySem.W.instObj C s.heap.objs.size)}:=by
 have d:(s.heap.push PySem.W.emptyDict).get? s.heap.objs.size=some PySem.W.emptyDict:=Ij s.heap rfl;have k:((s.heap.push PySem.W.emptyDict).push (PySem.W.instObj C s.heap.objs.size)).get? (s.heap.objs.size+1)=some (PySem.W.instObj C s.heap.objs.size):=by
  have:=Ij (s.heap.push PySem.W.emptyDict) (o:=PySem.W.instObj C s.heap.objs.size) rfl;rwa[Rh]at this
 have j:(s.heap.push PySem.W.emptyDict).Ns s.heap.objs.size (λ_=>none):=⟨PySem.W.emptyDict,#[],_,d,rfl,(λe g=>absurd g #[3]),λ_=>rfl⟩
 have r:=I.laid (a:=s.heap.objs.size) (o:=.own (s.heap.objs.size+1)) (h':=s.heap.push PySem.W.emptyDict) (t':=s.toks) (λb u q=>H9 _ q) (Ie _) ⟨_,d⟩;refine r.laid (a:=s.heap.objs.size+1) (o:=.ins C s.heap.objs.size []) (t':=s.toks) (λb u q=>H9 _ q) (Qy (Rh _ _)) ?_;have c:s.heap.objs.size≠s.heap.objs.size+1:=Ii (Sl _);refine⟨by rw[aa c,upd_same],Nat.zero_le _,c,k,λ_=>none,(Heap.Ns1.of_empty j).at λo q=>H9 _ q,λ_=>True.intro,λy f=>absurd rfl f⟩
def kr{f:Str}{Q:Value->Shared->Prop}(a:attributeBase e f env (eval e env)=eval e env)
  (h:wpAny (model prog w) A (eval e env) (λo b=>wpAny (model prog w) A (getAttr o f true) Q E b) E s):wpAny (model prog w) A (eval (.Attribute e f pos) env) Q E s:=
 Attribute_any_ h (by rw[arm_eval_Attribute,a])
end
def Jh(K:Il)(b:TE)(f:Str):TE:=λZ H Q=>b Z H λx H1=>∃a C dx fs v,x=.ref a/\H1 a=some (.ins C dx fs)/\YN K C/\NoAttr K C f/\fs.lookup f=some v/\Q v H1
def Ji(K:Il)(c b:TE)(f:Str):TS:=λD Z H=>b Z H λy H1=>c Z H1 λx H2=>∃a C dx fs,x=.ref a/\H2 a=some (.ins C dx fs)/\YN K C/\NoAttr K C f/\fs.length<1000 /\
 D.nx Z (upd H2 a (.ins C dx (Az f y fs)))
section
variable{o value:Expr}{f:Str}{pos' tpos:Pos}{tv:TE}
def zg(g:PE X e ta)(i:attributeBase e f X.env (eval e X.env)=eval e X.env):PE X (.Attribute e f pos) (Jh X.K ta f):=by
 intro Y s Z H Q I h;refine kr i (thn (g Y s Z H _ I h) ?_);rintro u p ⟨x,H1,k,b,a,C,dx,fs,v,ex,ea,c,n,l,q⟩;subst ex;obtain rfl:u=Value.ref a:=b;exact tK k ea c n l λm o j d=>⟨v,H1,j,d,q⟩
def zl(m:PE X o ta)(j:PE X value tv)(k:swapsWith value (some (.Attribute o f pos')) pos.line X.env=pure false):PS X (.Assign [.Attribute o f pos'] value pos) (Ji X.K ta tv f):=by
 intro Y s Z H D I h;refine SF (thn (j Y s Z H _ I h) λu b ⟨y,H1,t,d,q⟩=>thn (m Y b Z H1 _ t q) λi v ⟨x,H2,r,e,a,C,dx,fs,ex,ea,c,n,l,g⟩=>?_) k;subst ex;obtain rfl:i=Value.ref a:=e;exact sN r ea c n l d λs3 p=>⟨Z,_,p,g⟩
end
section
variable{Z:St}{E:Value->Shared->Prop}{Q:Value->Shared->Prop}{c:Value}
inductive Xd(K:Il)(H:Hp):V->Value->Prop where
 |ZR:Xd K H .ZR (.type "NoneType")
 |bl (x:Bool):Xd K H (.bl x) (.type "bool")
 |int (i:Int):Xd K H (.int i) (.type "int")
 |str (x:Str):Xd K H (.str x) (.type "str")
 |Vx (x:UInt64):Xd K H (.Vx x) (.type "float")
 |S {a:Addr} {xs:List V} (e:H a=some (.S xs)):Xd K H (.ref a) (.type "list")
 |Zo {a:Addr} {o:Obj} {xs:List V} (e:H a=some (.Zo o (.S xs))):Xd K H (.ref a) (.type "list")
 |ZZ {a:Addr} {xs:List V} (e:H a=some (.ZZ xs)):Xd K H (.ref a) (.type "tuple")
 |dK {a:Addr} {Z3:List (Key×V)} (e:H a=some (.dK Z3)):Xd K H (.ref a) (.type "dict")
 |dT {a:Addr} {Z3:List (List Key×V)} (e:H a=some (.dT Z3)):Xd K H (.ref a) (.type "dict")
 |ins {a C dx:Addr} {fs:List (Str×V)} (e:H a=some (.ins C dx fs)) (cl:YN K C) (ha:PySem.W.findIn K (.ref C) "__class__" = some (some (.builtin "object.__class__")))
   (hn:PySem.W.specialIn K (.builtin "object.__class__") "__get__" = some (some (.builtin "getset_descriptor.__get__"))) (htk:PySem.W.takesIn K (.builtin "object.__class__")=some true)
   (hm:PySem.W.mroIn K C (.type "object")=some true):Xd K H (.ref a) (.ref C)
end
end L2
namespace L2
open PySem PySem.Spec PyProof.Rows
structure Zy(k:Nat)(A:Around):Prop where
 hd:A.handled=none
 dp:A.depth+3*k+5<recursionLimit
 un:A.units+16*k+200<cLine
 gd:A.guards=some []
def Zy.mono{k:Nat}(r:Zy k A)(h:j<=k):Zy j A:=⟨r.hd,by have:=r.dp;omega,by have:=r.un;omega,r.gd⟩
def Zy.deeper{k:Nat}{A:Around}(r:Zy (k+1) A)(env:Env):Zy k (A.deeper env):=
 ⟨r.hd,by have:=r.dp;show A.depth+1+3*k+5<_;omega,by have:=r.un;show A.units+3+16*k+200<_;omega,r.gd⟩
def Zy.in1{k:Nat}{A:Around}(r:Zy (k+1) A):Zy k A.in1:=
 ⟨r.hd,by have:=r.dp;show A.depth+3*k+5<_;omega,by have:=r.un;show A.units+1+16*k+200<_;omega,r.gd⟩
def tB{C:Addr}{M:List Value}:(A.under (.builtin "type.__call__" ⟨.ref C::M,kw⟩)).depth=A.depth+1:=by
 first|rfl|simp[Around.under,Code.weight,Code.isCreation,Code.isGuard,Code.isCaller,Code.frames,Code.isFrame,guardIds]
def tU{C:Addr}{M:List Value}:(A.under (.builtin "type.__call__" ⟨.ref C::M,kw⟩)).units=A.units+1:=by
 first|rfl|simp[Around.under,Code.cUnits,Code.frames,Code.isFrame]
def Zy.make{k:Nat}(r:Zy (k+1) A)(C:Addr)(M:List Value)(kw:List (Str×Value)):Zy k (A.under (.builtin "type.__call__" ⟨.ref C::M,kw⟩)):=
 ⟨r.hd,by have:=r.dp;rw[tB];omega,by have:=r.un;rw[tU];omega,(show A.guards=_ from r.gd)⟩
def Zy.depth{k:Nat}{A:Around}(r:Zy k A):A.depth<recursionLimit:=by have:=r.dp;omega
def Zy.units{k:Nat}{A:Around}(r:Zy k A):A.units+64<cLine:=by have:=r.un;omega
def Ek:TA:=λ_ H Q=>Q [] H
def FD(b:TE)(a:TA):TA:=λZ H Q=>b Z H λx H1=>a Z H1 λxs H2=>Q (x::xs) H2
section
variable{t:TA}
def aJ:PA X [] Ek:=λ_ _ _ _ H Q I h=>Calls.spliced_nil ⟨[],H,I,.nil,h⟩
def ak(j:PE X e te)(i:PA X es t)(g:starEach (e::es) X.env=(false,eval e X.env)::starEach es X.env:=by rfl):PA X (e::es) (FD te t):=by
 intro pos Y s Z H Q I h;rw[g];show wpAny _ _ (spliced ((false,eval e X.env)::backTo pos (starEach es X.env))) _ _ s;refine Calls.spliced_cons (thn (j Y s Z H _ I h) ?_);rintro u a ⟨x,H1,l,c,f⟩;exact thn (i pos Y a Z H1 _ l f) λM m ⟨xs,H2,k,b,d⟩=>⟨x::xs,H2,k,.cons c b,d⟩
def HJ(t:TA):TE:=λZ H Q=>t Z H λxs H1=>xs.length<=sizeLine /\∀p,H1 p=none->Q (.ref p) (upd H1 p (.ZZ xs))
def Jj(t:TA):TE:=λZ H Q=>t Z H λxs H1=>xs.length<=sizeLine /\∀p,H1 p=none->Q (.ref p) (upd H1 p (.S xs))
def fJ{x1}(h:PA X es t):PE X (.Tuple es x1 pos) (HJ t):=by
 intro Y s Z H Q I d;refine wpAny_Tuple_spliced (thn (h pos Y s Z H _ I d) λM a ⟨xs,H1,c,r,z,q⟩=>⟨by rw[<-r.length];exact z,?_⟩)
 have f:H1 a.heap.objs.size=none:=c.ZO.fresh (Ie _);refine⟨.ref a.heap.objs.size,upd H1 a.heap.objs.size (.ZZ xs),c.laid (t':=a.toks) (λb u e=>H9 _ e) (Ie _) ?_,rfl,q _ f⟩;exact⟨z,M,r,⟨_,Ij _ rfl,rfl,_,rfl⟩⟩
def yC(h:PA X es t):PE X (.List es pos) (Jj t):=by
 intro Y s Z H Q I d;refine wpAny_List_spliced (thn (h pos Y s Z H _ I d) λM a ⟨xs,H1,c,r,z,q⟩=>⟨by rw[<-r.length];exact z,?_⟩)
 have f:H1 a.heap.objs.size=none:=c.ZO.fresh (Ie _);refine⟨.ref a.heap.objs.size,upd H1 a.heap.objs.size (.S xs),c.laid (t':=a.toks) (λb u e=>H9 _ e) (Ie _) ?_,rfl,q _ f⟩;exact⟨z,M,0,r,Ij _ rfl⟩
end
abbrev Sp:=List V->Hp->VK->XK->Prop
abbrev Yc:=List Env->Hp->Shared->XK->Value->Shared->Prop
structure Xr(P:Program)(w:World)(K:Il)(mg:Str->Option Value)(base:Heap)(A:Around)(outer:List Env)(s:Shared)(H:Hp):Prop where
 frames:A.frames=some outer
 mod:Mod K mg base
 bs:∀b o,base.get? b=some o->s.heap.get? b=some o/\H b=none
 Xu:base.objs.size<=s.heap.objs.size
 Yg:s.heap.FunFrames base outer
 WY:∀b∈frs outer,H b=none
 ZO:HOk P w H s.heap
 bare:AllBare s.gens
def CE(outer:List Env)(P:Program)(w:World)(H:Hp)(s:Shared)(Q:VK)(u:Value)(a:Shared):Prop:=
 ∃v H',a.os=s.os/\AllBare a.gens/\Un (frs outer) [] H H' s.heap a.heap/\HOk P w H' a.heap/\RelV v u/\Q v H'
def CR(CX:Yc)(outer:List Env)(P:Program)(w:World)(H:Hp)(s:Shared)(Q:VK)(E:XK)(r:Result)(a:Shared):Prop:=
 match r with
 |.ok (.ret u)=>CE outer P w H s Q u a
 |.ok _=>False
 |.error e=>CX outer H s E e a
structure Zb(P:Program)(w:World)(K:Il)(mg:Str->Option Value)(base:Heap)(CX:Yc)(k:Nat)(f:Addr)(fd:FuncData)(ps:List Str)(sp:Sp):Prop where
 len:∀vs H Q E,sp vs H Q E->vs.length=ps.length
 run:∀(A:Around) (outer:List Env) (s:Shared) (H:Hp) (args:Args) (M:List Value) (vs:List V) (Q:VK) (E:XK),Zy k A->Xr P w K mg base A outer s H->BindsTo s fd args (ps.zip M)->ZM vs M->sp vs H Q E ->
  codeAny (model P w) A (.call (.ref f) args) (CR CX outer P w H s Q E) s
def Xr.make(e:Xr P w K mg base A outer s H)(C:Addr)(M:List Value)(kw:List (Str×Value)):
  Xr P w K mg base (A.under (.builtin "type.__call__" ⟨.ref C::M,kw⟩)) outer s H:=⟨by first|exact e.frames|(simpa[Around.under,Code.envs,Code.isFrame,pushEnvs]using e.frames),e.mod,e.bs,e.Xu,e.Yg,e.WY,e.ZO,e.bare⟩
def Xr.in1{P:Program}{w:World}{K:Il}{mg:Str->Option Value}{base:Heap}{A:Around}{outer:List Env}{s:Shared}{H:Hp}(e:Xr P w K mg base A outer s H):
  Xr P w K mg base A.in1 outer s H:=⟨e.frames,e.mod,e.bs,e.Xu,e.Yg,e.WY,e.ZO,e.bare⟩
section
variable{Z:St}
def Z4.V1(I:Z4 X Y Z H s):Xr X.prog X.w X.K X.mg X.base X.A X.stack s H:=
 ⟨I.ok.frames,I.ok.mod,I.bs,Ib I.ok.Xu I.sz,I.stack,I.Uj,I.ZO,I.bare⟩
def Z4.after{Q:VK}{u:Value}(I:Z4 X Y Z H s)(h:CE X.stack X.prog X.w H s Q u s'):EP X Y Z Q u s':=by
 let⟨v,H',os,a,un,j,r,q⟩:=h;let⟨f,g,d,t,c⟩:=s';obtain rfl:c=s.os:=os;exact⟨v,H',I.call (h':=f) (g':=g) (d':=d) (t':=t) (ch:=[]) un j a (λb z=>absurd z #[3]),r,q⟩
end
def FG(sp:Sp)(a:List V)(E:XK)(t:TA):TE:=λZ H Q=>t Z H λvs H1=>sp (vs++a) H1 Q E
def Binds(K:Il)(fd:FuncData)(a:List Str)(b:List Value):Prop:=
 ∀(s:Shared) (M:List Value),K.In s.heap->(M++b).length=a.length->BindsTo s fd ⟨M,[]⟩ (a.zip (M++b))
def Binds.all(h:∀M:List Value,M.length=ps.length->bindArgs fd ⟨M,[]⟩=pure (ps.zip M)):Binds K fd ps []:=λs M _ a=>by
 rw[TJ]at a ⊢;exact .of_eq (h M a)
def AA(CX:Yc)(X:Cx)(E:XK):Prop:=∀(Y:List (Addr×Obj)) (Z:St) (H:Hp) (s:Shared) (e:Value) (s':Shared),Z4 X Y Z H s->CX X.stack H s E e s'->X.xe e s'
section
variable{CX:Yc}{k:Nat}{f C:Addr}{sp:Sp}{WU:List V}{ds:List Value}{E:XK}{m:Str}{o:Expr}{t:TA}
def lJ{Z:St}{Q:VK}{M:List Value}(F:Zb X.prog X.w X.K X.mg X.base CX k f fd ps sp)(c:Zy k X.A)(i:Binds X.K fd ps ds)(g:ZM WU ds)(hx:AA CX X E)
  (I:Z4 X Y Z H s) (r:ZM vs M) (h:sp (vs++WU) H Q E):wpAny (model X.prog X.w) X.A (call (.ref f) M) (EP X Y Z Q) X.xe s:=by
 have b:ZM (vs++WU) (M++ds):=r.append g;have d:(M++ds).length=ps.length:=by rw[<-b.length];exact F.len _ _ _ _ h
 refine S4 (Sx (F.run X.A X.stack s H ⟨M,[]⟩ (M++ds) (vs++WU) Q E c I.V1 (i s M I.Zt d) b h) λr s' a=>?_);cases r with
 |error e=>exact hx Y Z H s e s' I a
 |ok fl=>
  cases fl with
  |ret u=>exact I.after a
  |next=>exact False.elim a
  |brk=>exact False.elim a
  |cont=>exact False.elim a
def xV(F:Zb X.prog X.w X.K X.mg X.base CX k f fd ps sp)(b:Zy k X.A)(g:Gl X x)(c:X.mg x=some (.ref f))(d:PySem.W.keepIn X.K (.ref f)=true)(l:Binds X.K fd ps ds)(j:ZM WU ds)(hx:AA CX X E)
  (m:PA X (e::es) t) (o:(x==("__debug__" : Str))=false:=by decide) (i:starEach (e::es) X.env=(false,eval e X.env)::starEach es X.env:=by rfl) (n:(backTo pos (starEach es X.env)).any (·.1)=false:=by rfl) :
  PE X (.Call (.Name x p) (e::es) [] pos) (FG sp WU E t):=by
 intro Y s Z H Q I h;refine S7 (be I g c ?_ o);refine PySem.W.callWith_K (h₀:=X.base) I.ok.mod.kin d (thn (m pos Y s Z H _ I h) λM u ⟨vs,H1,a,r,q⟩=>⟨a.Zt,?_⟩) i n;exact lJ F b l j hx a r q
def vE(F:Zb X.prog X.w X.K X.mg X.base CX k f fd ps sp)(a:Zy k X.A)(d:Gl X x)(b:X.mg x=some (.ref f))(c:PySem.W.keepIn X.K (.ref f)=true)(g:Binds X.K fd ps ds)(e:ZM WU ds)(hx:AA CX X E)
  (i:(x==("__debug__" : Str))=false:=by decide):PE X (.Call (.Name x p) [] [] pos) (FG sp WU E Ek):=by
 intro Y s Z H Q I h;refine S7 (be I d b ?_ i);exact PySem.W.callWith_K0 I.Zt c (lJ (M:=[]) F a g e hx I .nil h)
structure Mk(K:Il)(C f:Addr):Prop where
 makes:PySem.W.makesIn K C=true
 init:PySem.W.findIn K (.ref C) "__init__" = some (some (.ref f))
 fn:PySem.W.isFn K (.ref f)=true
 kp:PySem.W.keepIn K (.ref C)=true
end
def PK(X:Cx)(kws:List Keyword)(t:TA):Prop:=
 ∀(pos:Pos) (Y:List (Addr×Obj)) (s:Shared) (Z:St) (H:Hp) (Q:List V->Hp->Prop),Z4 X Y Z H s->t Z H Q->wpAny (model X.prog X.w) X.A (evalAll ((backToKw pos (keywordEach kws X.env)).map (·.2))) (AP X Y Z Q) X.xe s
section
variable{CX:Yc}{k:Nat}{f C:Addr}{ks:List Str}{sp:Sp}{E:XK}{m:Str}{kpos:Pos}{o:Expr}{t tk:TA}{nm:Option Str}
def zO:PK X [] Ek:=λ_ _ _ _ H Q I h=>wpAny_evalAll_nil ⟨[],H,I,.nil,h⟩
def xW(ha:PE X e te)(hr:PK X kws t):PK X (⟨nm,e,kpos⟩::kws) (FD te t):=by
 intro pos Y s Z H Q I h;show wpAny _ _ (evalAll ((do let v<-eval e X.env;standAt pos;pure v)::(backToKw pos (keywordEach kws X.env)).map (·.2))) _ _ s
 refine wpAny_evalAll_cons (ZB (thn (ha Y s Z H _ I h) λu s1 ⟨x,H1,I1,r1,q1⟩=>ZB (Tn (ZP ?_))));exact thn (hr pos Y s1 Z H1 _ I1 q1) λM s2 ⟨xs,H2,I2,r2,q2⟩=>⟨x::xs,H2,I2,.cons r1 r2,q2⟩
structure Vp(K:Il)(fd:FuncData)(ps ks:List Str)(g:List Value->List Value->List Value)(gV:List V->List V->List V):Prop where
 to:∀(s:Shared) (M ws:List Value),K.In s.heap->(g M ws).length=ps.length->BindsTo s fd ⟨M,ks.zip ws⟩ (ps.zip (g M ws))
 rel:∀{vs:List V} {M:List Value} {zs:List V} {ws:List Value},ZM vs M->ZM zs ws->ZM (gV vs zs) (g M ws)
variable{g:List Value->List Value->List Value}
def kc{Z:St}{Q:VK}{M ws:List Value}{zs:List V}(F:Zb X.prog X.w X.K X.mg X.base CX k f fd ps sp)(i:Zy k X.A)(c:Vp X.K fd ps ks g gV)(hx:AA CX X E)
  (I:Z4 X Y Z H s) (r:ZM vs M) (d:ZM zs ws) (h:sp (gV vs zs) H Q E):wpAny (model X.prog X.w) X.A (call (.ref f) M (ks.zip ws)) (EP X Y Z Q) X.xe s:=by
 have b:=c.rel r d;have j:(g M ws).length=ps.length:=by rw[<-b.length];exact F.len _ _ _ _ h
 refine S4 (Sx (F.run X.A X.stack s H ⟨M,ks.zip ws⟩ (g M ws) (gV vs zs) Q E i I.V1 (c.to s M ws I.Zt j) b h) λr s' a=>?_);cases r with
 |error e=>exact hx Y Z H s e s' I a
 |ok fl=>
  cases fl with
  |ret u=>exact I.after a
  |next=>exact False.elim a
  |brk=>exact False.elim a
  |cont=>exact False.elim a
end
structure UT(N P:List Str)(sc:Scope):Prop where
 kind:sc.kind=.function
 co:sc.isCoroutine=false
 gen:sc.isGenerator=false
 nd:N.Nodup
 pre:N.take P.length=P
 par:∀x∈P,sc.names.lookup x=some .local\/sc.names.lookup x=some .cell
 SV:∀y∈sc.names,y.2 ≠ .free
def ig{b:Str->Option NameKind}{x:Str}:∀{a:List (Str×Value)} {m:Str->Option Value},(∀v,(x,v) ∉ a)->bindL b a m x=m x
 |[],_,_=>rfl
 |(n,v)::r,m,h=>by
  unfold bindL;rw[ig λw c=>h w (Ig _ c)];split
  .have:x≠n:=by rintro rfl;exact h v W_
   simp[this]
  .rfl
def iL{b:Str->Option NameKind}{x:Str}:∀{a:List (Str×Value)} {m:Str->Option Value},(∀v,(x,v) ∉ a)->bindC b a m x=m x
 |[],_,_=>rfl
 |(n,v)::r,m,h=>by
  unfold bindC;rw[iL λw c=>h w (Ig _ c)];split
  .rfl
  .have:x≠n:=by rintro rfl;exact h v W_
   simp[this]
def hR{a:Str->Option NameKind}{x:Str}{v:Value}:∀{P:List Str} {vs:List Value} {i:Nat} {m:Str->Option Value},P.Nodup->P[i]?=some x->vs[i]?=some v->a x=some .local ->
  bindL a (P.zip vs) m x=some v
 |[],_,_,_,_,h,_,_=>by simp at h
 |_::_,[],_,_,_,_,h,_=>by simp at h
 |p::P,w::vs,0,m,nd,h1,h2,hk=>by
  simp at h1 h2;subst h1;subst h2;show bindL a ((p,w)::P.zip vs) m p=_;unfold bindL;rw[ig λv b=>(UR.mp nd).1 (RX b).1,XW hk];simp
 |p::P,w::vs,i+1,m,nd,h1,h2,hk=>by
  show bindL a ((p,w)::P.zip vs) m x=_;unfold bindL;exact hR (i:=i) (UR.mp nd).2 (by simpa using h1) (by simpa using h2) hk
def ik{a:Str->Option NameKind}{x:Str}{v:Value}:∀{P:List Str} {vs:List Value} {i:Nat} {m:Str->Option Value},P.Nodup->P[i]?=some x->vs[i]?=some v->a x≠some .local ->
  bindC a (P.zip vs) m x=some v
 |[],_,_,_,_,h,_,_=>by simp at h
 |_::_,[],_,_,_,_,h,_=>by simp at h
 |p::P,w::vs,0,m,nd,h1,h2,hk=>by
  simp at h1 h2;subst h1;subst h2;show bindC a ((p,w)::P.zip vs) m p=_;unfold bindC;rw[iL λv b=>(UR.mp nd).1 (RX b).1,WV hk];simp
 |p::P,w::vs,i+1,m,nd,h1,h2,hk=>by
  show bindC a ((p,w)::P.zip vs) m x=_;unfold bindC;exact ik (i:=i) (UR.mp nd).2 (by simpa using h1) (by simpa using h2) hk
def start(N:List Str)(vs:List V):St:=vs.map some++List.replicate (N.length-vs.length) none
def Bt(CX:Yc)(P:Program)(w:World)(K:Il)(mg:Str->Option Value)(base:Heap)(N:List Str)(qual:Str)(scope:Scope)(f:Addr)(cd:Value)(A:Around)(outer:List Env)(s:Shared)(H:Hp)(E:XK):Cx where
 prog:=P
 w:=w
 K:=K
 mg:=mg
 base:=base
 A:=A.deeper (envOfC qual scope s.heap.objs.size f cd)
 N:=N
 ZK:=s
 W1:=H
 env:=envOfC qual scope s.heap.objs.size f cd
 outer:=outer
 stack:=envOfC qual scope s.heap.objs.size f cd::outer
 ex:=[]
 calm:=true
 fn:=λ_=>true
 pn:=[]
 xe:=λe s'=>wpAny (model P w) (A.deeper (envOfC qual scope s.heap.objs.size f cd)) (leaving (envOfC qual scope s.heap.objs.size f cd) e) (λ_ Yb=>CX outer H s E e Yb) (λe' Yb=>CX outer H s E e' Yb) s'
def i0(h:sc.names.lookup x=some .cell):∃c,(cellsFrom n sc.names []).lookup x=some c:=by
 have q:=S8 sc.names n [] (.inl h);exact Tt.mp q
def ui{CX:Yc}{qual:Str}{f:Addr}{B:Value}{D:Shared}{E:XK}{M:List Value}
  (j:UT N ps scope) (I:A.handled=none) (d:Xr P w K mg base A outer s H) (L:vs.length=ps.length) (r:ZM vs M)
  (x:InCallC s s.heap.objs.size (bindL (envOfC qual scope s.heap.objs.size f B).kindOf (ps.zip M) λ_=>none) (cellsFrom (s.heap.objs.size+1) scope.names []) (bindC (envOfC qual scope s.heap.objs.size f B).kindOf (ps.zip M) λ_=>none) D) :
  Z4 (Bt CX P w K mg base N qual scope f B A outer s H E) [] (start N vs) H D:=by
 have Q:ps.length<=N.length:=by have:=T8 List.length j.pre;rw[TY]at this;omega
 let⟨h1,tk,rfl,hk⟩:=x.done;have C:∀b:Addr,b ∉ (Bt CX P w K mg base N qual scope f B A outer s H E).ex:=λb z=>absurd (show b∈([]:List Addr)from z) #[3]
 refine ⟨⟨d.mod,j.kind,rfl,rfl,Ie _,λy z c h1 h2 => ?_,λy g => ?_,λy c _ h => ?_,λ_=>I,Around.frames_deeper d.frames,.inr ⟨rfl,rfl⟩,λb z=>absurd z (C b),d.bs,d.Xu,λb _ _=>C b,λb z=>absurd z (C b),d.Yg,d.WY⟩,
  rfl,d.bare,Un.kept hk,⟨_,x.toInCall.ns,λi y v h1 h2 O=>?_⟩,λy c h=>⟨_,x.cell y c h⟩,d.ZO.fresh (Ie _),λy c h=>?_,λp t=>absurd (show p∈([]:List (Addr×Obj))from t) #[3],d.ZO.kept hk,?_⟩
 .exact name_of_addr x.apart (Ut h1) (Ut h2)
 .have g:scope.names.lookup y=some .cell\/scope.names.lookup y=some .free:=g
  rcases g with g|g
  .exact i0 g
  .exact absurd rfl (j.SV _ (Ut g))
 .exact Qx (x.above y c (Ut h))
 .have hi:i<vs.length:=by
   unfold start at h2;by_cases hi:i<vs.length
   .exact hi
   .rw [XN (by simpa using hi)]at h2
    rw[Sg]at h2;split at h2<;>cases h2
  have J:vs[i]?=some v:=by
   unfold start at h2;rw[Xe (by simpa using hi),Xj]at h2
   cases e:vs[i]? with
   |none=>rw[e]at h2;cases h2
   |some a=>rw[e]at h2;cases h2;rfl
  let⟨u,F,G⟩:=r.get J;have t:ps[i]?=some y:=by
   rw[<-j.pre,List.getElem?_take_of_lt ()];exact h1
  have o:ps.Nodup:=by rw[<-j.pre];exact j.nd.sublist (List.take_sublist _ _)
  refine⟨u,G,?_⟩;rcases j.par y (WG t)with k|k
  .exact .inl ⟨k,hR o t F k⟩
  .obtain ⟨c,e⟩:=i0 (n:=s.heap.objs.size+1) k
   refine .inr ⟨.inl k,c,e,?_⟩;have q:=x.cell y c e;rw[ik o t F (by show scope.names.lookup y≠_;rw[k];decide)]at q
   exact q
 .exact d.ZO.fresh (Qx (x.above y c (Ut h)))
 .unfold start
  show _=N.length;rw[W9,Yk,Sd];omega
def gq{CX:Yc}{k:Nat}{f:Addr}{name qual:Str}{a:Arguments}{c:List Stmt}{scope:Scope}{L O l F g ct Kq:Value}{G R:Option Addr}
  {YV:Array (Option Value)} {N p:List Str} {sp:Sp} (lk:K.lookup f=some ⟨Kq,R,.func (PySem.W.fnOf name qual a c scope L O l F G g ct),YV⟩) (Zg:PySem.W.codeIn K g qual=true) (m:UT N p scope)
  (len:∀vs H Q E,sp vs H Q E->vs.length=p.length)
  (SU:∀ (A:Around) (outer:List Env) (s:Shared) (H:Hp) (vs:List V) (Q:VK) (E:XK),Zy k (A.deeper (envOfC qual scope s.heap.objs.size f g))->sp vs H Q E ->
   ∃t,PSs (Bt CX P w K mg base N qual scope f g A outer s H E) c t/\t {nx:=λ_ H'=>Q .ZR H',rt:=Q} (start N vs) H) :
  Zb P w K mg base CX (k+1) f (PySem.W.fnOf name qual a c scope L O l F G g ct) p sp:=by
 refine⟨len,λA outer s H args M vs Q E C j Z r h=>?_⟩;have X:=len _ _ _ _ h;have J:K.In s.heap:=j.mod.kin.keeps λb o e=>(j.bs b o e).1;have B:s.heap.NoLimit:=j.mod.nolimit.keeps λb o e=>(j.bs b o e).1;have TZ:∀y∈p.zip M,scope.names.lookup y.1=some .local\/(scope.names.lookup y.1=some .cell/\((cellsFrom (s.heap.objs.size+1) scope.names []).lookup y.1).isSome=true):=λ⟨n,v⟩ S=>by
  rcases m.par n (RX S).1 with q|q
  .exact .inl q
  .exact .inr ⟨q,S8 _ _ _ (.inl q)⟩
 refine codeAny_call_function C.depth (J _ _ lk) rfl m.co m.gen rfl (PySem.W.codeRec_of J Zg) (Z _ _ _ _ ?_);refine wpAny_newFunctionEnv_cells m.kind TZ λenv Y D x=>?_;subst Y;refine⟨B.keeps x.toInCall.keep,codeAny_func ?_⟩;let⟨t,T,U⟩:=SU A outer s H vs Q E (C.deeper _) h;have I:Z4 (Bt CX P w K mg base N qual scope f g A outer s H E) [] (start N vs) H D:=ui m C.hd j X r x;refine Ve (T [] D (start N vs) H _ I U) (λfl s' hs=>?_) λe s' hs=>hs;have i:∀{ZX:St} {H':Hp} {v:V} {u:Value},Z4 (Bt CX P w K mg base N qual scope f g A outer s H E) [] ZX H' s'->RelV v u->Q v H'->CE outer P w H s Q u s':=
  λ{ZX H' v u} d z q=>⟨v,H',d.os,d.bare,d.base,d.ZO,z,q⟩
 cases fl with
 |ret u=>
  let⟨v,ZX,H',d,z,q⟩:=hs;exact i d z q
 |next=>
  let⟨ZX,H',d,q⟩:=hs;exact i (v:=V.ZR) (u:=Value.none) d rfl q
 |brk=>
  let⟨_,_,_,q⟩:=hs;exact False.elim q
 |cont=>
  let⟨_,_,_,q⟩:=hs;exact False.elim q
end L2
variable{CX:L2.Yc}{sp:L2.Sp}
namespace L2
open PySem PySem.Spec PyProof.Rows
section
variable{t:TA}{id T:String}{r:List V->Hp->VK->Prop}
def Jk(r:List V->Hp->VK->Prop)(t:TA):TE:=λZ H Q=>t Z H λvs H1=>r vs H1 Q
def pe_callB(j:CallR X (.builtin id) r)(i:Gl X x)(g:X.mg x=none)(d:bootBuiltins x=some (.builtin id))(k:PA X (e::es) t)(f:x ≠ "__name__":=by decide)(m:(x==("__debug__" : Str))=false:=by decide)
  (he:starEach (e::es) X.env=(false,eval e X.env)::starEach es X.env:=by rfl) (l:(backTo pos (starEach es X.env)).any (·.1)=false:=by rfl):PE X (.Call (.Name x p) (e::es) [] pos) (Jk r t):=by
 intro Y s Z H Q I h;refine S7 (bV I i g d ?_ f m);exact PyProof.Rows.callWith_builtin1 (thn (k pos Y s Z H _ I h) λM a ⟨vs,H1,n,b,c⟩=>j Y a Z H1 vs M Q n b c) he l
def pe_callTy(j:CallR X (.type T) r)(i:Gl X x)(g:X.mg x=none)(d:bootBuiltins x=some (.type T))(k:PA X (e::es) t)(f:x ≠ "__name__":=by decide)(m:(x==("__debug__" : Str))=false:=by decide)
  (he:starEach (e::es) X.env=(false,eval e X.env)::starEach es X.env:=by rfl) (l:(backTo pos (starEach es X.env)).any (·.1)=false:=by rfl):PE X (.Call (.Name x p) (e::es) [] pos) (Jk r t):=by
 intro Y s Z H Q I h;refine S7 (bV I i g d ?_ f m);exact Sj (thn (k pos Y s Z H _ I h) λM a ⟨vs,H1,n,b,c⟩=>j Y a Z H1 vs M Q n b c) he l
end
end L2
namespace HT
open PySem PyProof.Rows
section
variable{E:Value->Shared->Prop}
def sIx(n d:Nat):Option Int->Nat
 |none=>d
 |some v=>if v<0 then(v+(n:Int)).toNat else min v.toNat n
def z7(n d:Nat)(b:d<=n)(o:Option Int):sIx n d o<=n:=by
 cases o with
 |none=>exact b
 |some v=>
  show(if v<0 then(v+(n:Int)).toNat else min v.toNat n)<=n
  by_cases a:v<0
  .rw [XW a];omega
  .rw [WV a];exact Nat.min_le_right _ _
def jI(v:Int)(n d:Nat):(if v<0 then max (v+(n:Int)) 0 else min v (n:Int))=((sIx n d (some v):Nat):Int):=by
 show(if v<0 then max (v+(n:Int)) 0 else min v (n:Int))=(((if v<0 then(v+(n:Int)).toNat else min v.toNat n):Nat):Int)
 by_cases a:v<0
 .simp only [XW a];omega
 .simp only [WV a];omega
def tQ(a b:Option Int)(n:Nat):Builtin.Slice.sliceAdjust a b 1 (n:Int)=(((sIx n 0 a:Nat):Int),((sIx n n b:Nat):Int)):=by
 have h1 : ¬ ((1:Int)<0):=by omega
 unfold Builtin.Slice.sliceAdjust;simp![h1,Td];refine Prod.ext ?_ ?_
 .cases a with
  |none=>rfl
  |some v=>exact jI v n 0
 .cases b with
  |none=>rfl
  |some v=>exact jI v n n
def tN(i j:Nat):Builtin.Slice.slicePlaces (i:Int) (j:Int) 1=j-i:=by
 unfold Builtin.Slice.slicePlaces;have h1:(1:Int) > 0:=by omega
 simp![h1,TL,Int.ediv_one];split<;>omega
def gO{v:Value}{o:Option Int}{Q:Option Int->Shared->Prop}(p:IsPart v o)(h:Q o s):wpAny (model prog w) A (Builtin.Slice.slicePartIndex v) Q E s:=by
 cases p with
 |none=>exact slicePart_none h
 |int i t=>exact slicePart_int h
def rX{k:Addr}{f d:Value}{a c:Option Int}{Q:Int×Int×Nat->Shared->Prop}(r:s.heap.IsSliceOf k f d .none)(pl:IsPart f a)(o:IsPart d c)
  (h:Q (((sIx n 0 a:Nat):Int),1,sIx n n c-sIx n 0 a) s):wpAny (model prog w) A (Builtin.Slice.sliceApplied (.ref k) (pure (n:Int))) Q E s:=by
 let⟨os,j,t,g⟩:=id r;unfold Builtin.Slice.sliceApplied Builtin.Slice.sliceFields;refine ZB (ZB (Rt j g (x:=f) rfl (ZB (Rt j g (x:=d) rfl (ZB (Rt j g (x:=.none) rfl (ZP ?_)))))));refine ZB (slicePart_none ?_);show wpAny _ _ (if((1:Int)==0)=true then _ else _) _ _ s
 rw[WV #[1]]
 refine ZB (gO pl (ZB (gO o (ZB (ZP ?_)))));show wpAny _ _ (match Builtin.Slice.sliceAdjust a c 1 (n:Int)with|(a,c)=>pure (a,(1:Int),Builtin.Slice.slicePlaces a c 1)) _ _ s
 rw[tQ a c n];show wpAny _ _ (pure (((sIx n 0 a:Nat):Int),(1:Int),Builtin.Slice.slicePlaces ((sIx n 0 a:Nat):Int) ((sIx n n c:Nat):Int) 1)) _ _ s;rw[tN];exact ZP h
def vT(xs:Array Value)(i k:Nat):((List.range k).filterMap λ(m:Nat)=>xs[((i:Int)+(m:Int)*1).toNat]?).toArray=((xs.toList.drop i).take k).toArray:=by
 have e:(λ(m:Nat)=>xs[((i:Int)+(m:Int)*1).toNat]?)=λm=>xs[i+m]?:=by
  funext m;have:((i:Int)+(m:Int)*1).toNat=i+m:=by omega
  rw[this]
 rw[e];have:=pick_run xs i k;rw[List.filterMap_map]at this;have a:((λx=>xs[x]?) ∘ λx=>i+x)=λm=>xs[i+m]?:=rfl;rw[a]at this;rw[this]
def getItem_tuple_cut{t g:Addr}{items:Array Value}{o k:Value}{a c:Option Int}{Q:Value->Shared->Prop}(d:IsTup s.heap t items)(r:s.heap.IsSliceOf g o k .none)(pl:IsPart o a)(u:IsPart k c)
  (hw : ¬ (sIx items.size 0 a=0/\sIx items.size items.size c=items.size))
  (h:Q (.ref s.heap.objs.size) {s with heap:=s.heap.push {cls:=.type "tuple",data:=.seq ((items.toList.drop (sIx items.size 0 a)).take (sIx items.size items.size c-sIx items.size 0 a)).toArray}})
  (hsz:items.size<=sizeLine):wpAny (model prog w) A (getItem (.ref t) (.ref g)) Q E s:=by
 have f:sizeOk (.seq ((items.toList.drop (sIx items.size 0 a)).take (sIx items.size items.size c-sIx items.size 0 a)).toArray):=by
  show((items.toList.drop (sIx items.size 0 a)).take (sIx items.size items.size c-sIx items.size 0 a)).toArray.size<=sizeLine;rw[XB,TY,RE,R4];omega
 have F:sIx items.size items.size c<=items.size:=z7 _ _ (Ie _) c;let⟨os,B,y,G⟩:=id r;have j:s.TypeIs (.ref g) "slice":=⟨os,B,y⟩;unfold getItem
 try with_reducible refine Uu ?_
 first|refine ZB (ZP ?_)|skip
 refine ZB (wpAny_sequenceKey d.typeIs #[1] ?_)
 refine ZB (wpAny_callSpecial?_slot (name:=Str.ofString "__getitem__") d.typeIs Rx
  (wpAny_call_entry Rx d.typeIs entry_tuple_getitem ?_ (args_tuple_getitem _ _)))
 show wpAny _ _ (Builtin.Tuple.tupleItemsOf (.ref t) >>= _) _ _ s;refine ZB (tupleItemsOf_ d ?_);refine ZB (wpAny_typeOf j ?_);rw[XW #[1]]
 refine ZB (rX r pl u ?_);have z : ¬ ((((sIx items.size 0 a:Nat):Int)==0&&(1:Int)==1&&(sIx items.size items.size c-sIx items.size 0 a)==items.size)=true):=by
  intro q;rw[Zc,Zc]at q;have D:((sIx items.size 0 a:Nat):Int)=0:=eq_of_beq q.1.1;have C:sIx items.size items.size c-sIx items.size 0 a=items.size:=eq_of_beq q.2;exact hw ⟨by omega,by omega⟩
 show wpAny _ _ (if(((sIx items.size 0 a:Nat):Int)==0&&(1:Int)==1&&(sIx items.size items.size c-sIx items.size 0 a)==items.size)=true then _ else _) _ _ s
 rw[WV z,vT]
 first
  |exact ZB (m:=Builtin.Tuple.tupleExact _) (T_ (ZP ⟨_,rfl,ZP h⟩) f)
  |exact ZB (m:=Builtin.Tuple.tupleExact _) (T_ (ZB (ZP (ZP ⟨_,rfl,ZP h⟩))) f)
  |exact ZB (ZB (m:=Builtin.Tuple.tupleExact _) (T_ (ZP (ZP ⟨_,rfl,ZP h⟩)) f))
  |exact ZB (ZB (m:=Builtin.Tuple.tupleExact _) (T_ (ZP ⟨_,rfl,ZP h⟩) f))
end
end HT
namespace L2
open PySem PySem.Spec PyProof.Rows
abbrev TO:=St->Hp->(Option Int->Hp->Prop)->Prop
def PO(X:Cx)(e:Option Expr)(t:TO):Prop:=
 ∀(Y:List (Addr×Obj)) (s:Shared) (Z:St) (H:Hp) (Q:Option Int->Hp->Prop),Z4 X Y Z H s->t Z H Q ->
  wpAny (model X.prog X.w) X.A (evalPart e X.env) (λu s'=>∃o H',Z4 X Y Z H' s'/\IsPart u o/\Q o H') X.xe s
def G3:TO:=λ_ H Q=>Q none H
def Hl(t:TE):TO:=λZ H Q=>t Z H λx H1=>∃i,x=.int i/\Q (some i) H1
section
variable{lo hi:Option Expr}{tl th:TO}
def xU:PO X none G3:=by
 intro Y s Z H Q I h;rw[evalPart_none];exact ZP ⟨none,H,I,.none,h⟩
def yk(h:PE X e te):PO X (some e) (Hl te):=by
 intro Y s Z H Q I c;rw[evalPart_some];refine thn (h Y s Z H _ I c) ?_;rintro u f ⟨x,H1,d,a,b⟩;let⟨i,rfl,q⟩:=b;let⟨t,rfl⟩:=a;exact⟨some i,H1,d,.int i t,q⟩
def SlR(X:Cx)(r:V->Option Int->Option Int->Hp->VK->Prop):Prop:=
 ∀(Y:List (Addr×Obj)) (s:Shared) (Z:St) (H:Hp) (x:V) (v b a:Value) (lo hi:Option Int) (c:Addr) (Q:VK),Z4 X Y Z H s->RelV x v->s.heap.IsSliceOf c b a .none->IsPart b lo->IsPart a hi->r x lo hi H Q ->
  ∃T id,typeLookup (.type T) "__getitem__" = pure (some (.builtin id))/\s.TypeIs v T/\wpAny (model X.prog X.w) X.A (getItem v (.ref c)) (EP X Y Z Q) X.xe s
def SlR.or{r e:V->Option Int->Option Int->Hp->VK->Prop}(h:SlR X r)(h':SlR X e):SlR X (λx lo hi H Q=>r x lo hi H Q\/e x lo hi H Q):=by
 intro Y s Z H x v b a lo hi c Q I d hs pl f q;rcases q with q|q
 .exact h Y s Z H x v b a lo hi c Q I d hs pl f q
 .exact h' Y s Z H x v b a lo hi c Q I d hs pl f q
def Jl(r:V->Option Int->Option Int->Hp->VK->Prop)(c:TE)(a b:TO):TE:=λZ H Q=>c Z H λx H1=>a Z H1 λl H2=>b Z H2 λu H3=>r x l u H3 Q
def vJ{r:V->Option Int->Option Int->Hp->VK->Prop}(z:SlR X r)(D:PE X e te)(B:PO X lo tl)(t:PO X hi th):PE X (.Subscript e (.Slice lo hi none p2) pos) (Jl r te tl th):=by
 intro Y s Z H Q I h;refine Subscript_ (thn (D Y s Z H _ I h) ?_);rintro v f ⟨x,H1,J,g,o⟩;refine wpAny_Slice (thn (B Y f Z H1 _ J o) λc d ⟨l,H2,G,pl,k⟩=>thn (t Y d Z H2 _ G k) ?_);rintro a s3 ⟨u,H3,F,pu,j⟩;rw[evalPart_none];refine ZP ?_;have E:Z4 X Y Z H3 {s3 with heap:=s3.heap.push {cls:=.type "slice",data:=.fields #[c,a,.none]}}:=F.kept (t':=s3.toks) λb ob q=>H9 _ q
 let⟨T,id,hT,y,C⟩:=z Y {s3 with heap:=s3.heap.push {cls:=.type "slice",data:=.fields #[c,a,.none]}} Z H3 x v c a l u s3.heap.objs.size Q E g (Heap.IsSliceOf.new ..) pl pu j
 show wpAny (model X.prog X.w) X.A (subscriptTail e (.Slice lo hi none p2) v (.ref s3.heap.objs.size)) (EP X Y Z Q) X.xe {s3 with heap:=s3.heap.push {cls:=.type "slice",data:=.fields #[c,a,.none]}}
 exact tail_any (ops:=[.ref s3.heap.objs.size,v]) y hT C (by with_unfolding_all rfl)
def BE(xs:List V)(a b:Option Int):List V:=(xs.drop (HT.sIx xs.length 0 a)).take (HT.sIx xs.length xs.length b-HT.sIx xs.length 0 a)
def gJ(xs:List V)(a b:Option Int):(BE xs a b).length<=xs.length:=by
 unfold BE;rw[TY,RE];omega
def Jm(K:Il):V->Option Int->Option Int->Hp->VK->Prop:=λx lo hi H Q=>∃a xs,x=.ref a/\SqT K H a xs /\
 ¬ (HT.sIx xs.length 0 lo=0/\HT.sIx xs.length xs.length hi=xs.length) /\∀p,H p=none->Q (.ref p) (upd H p (.ZZ (BE xs lo hi)))
def aaA:SlR X (Jm X.K):=by
 intro Y s Z H x v l k lo hi m Q I f hs pl g h;let⟨a,xs,rfl,i,j,q⟩:=h;cases f;let⟨ZY,r,e,d⟩:=I.tuple i;have c:ZY.toArray.size=xs.length:=by rw[XB];exact r.length.symm
 refine⟨"tuple",_,PyProof.Rows.slot_tuple_getitem.lookup,e.typeIs,?_⟩;refine HT.getItem_tuple_cut e hs pl g (by rw[c];exact j) ?_ (by rw[c];exact d)
 rw[c];refine⟨.ref s.heap.objs.size,_,I.laid (t':=s.toks) (o:=.ZZ (BE xs lo hi)) (λb ob q=>H9 _ q) (Ie _) ?_,rfl,q _ (I.ZO.fresh (Ie _))⟩;exact⟨Ib (gJ xs lo hi) d,_,(r.drop (HT.sIx xs.length 0 lo)).take (HT.sIx xs.length xs.length hi-HT.sIx xs.length 0 lo),IsTup.new _ _⟩
end
end L2
namespace L2
open PySem PySem.Spec PyProof.Rows
def ixN(n:Nat)(i:Int):Option Nat:=if 0<=i then(if i<n then some i.toNat else none)else if -(n:Int)<=i then some (i+n).toNat else none
def atI{a:Type}(xs:List a)(i:Int):Option a:=(ixN xs.length i).bind λj=>xs[j]?
def kZ{i:Int}(h:ixN n i=some j):seqIndex? i n=some j/\j<n /\ -(n:Int)<=i/\i<n:=by
 unfold ixN at h;by_cases a:0<=i
 .rw [XW a]at h
  by_cases h1:i<n
  .rw [XW h1]at h
   have e:i.toNat=j:=Vm h;exact⟨by rw[seqIndex_of a h1,e],by omega,by omega,h1⟩
  .rw [WV h1]at h;cases h
 .rw [WV a]at h
  by_cases h1 : -(n:Int)<=i
  .rw [XW h1]at h
   have e:(i+n).toNat=j:=Vm h;exact⟨by rw[seqIndex_neg () h1,e],by omega,h1,by omega⟩
  .rw [WV h1]at h;cases h
def kn{xs:List α}{i:Int}{v:α}(h:atI xs i=some v):∃j,seqIndex? i xs.length=some j/\xs[j]?=some v/\j<xs.length /\ -(xs.length:Int)<=i/\i<xs.length:=by
 unfold atI at h;cases e:ixN xs.length i with
 |none=>rw[e]at h;cases h
 |some j=>
  rw[e]at h;let⟨h1,h2,b,a⟩:=kZ e;exact⟨j,h1,h,h2,b,a⟩
def DN(b:Expr):Prop:=∀o i,subscripted b false o i=operate [o,i] (getItem o i)
def IxR(X:Cx)(r:R2):Prop:=
 ∀(value slice:Expr) (Y:List (Addr×Obj)) (s:Shared) (Z:St) (H:Hp) (x y:V) (v u:Value) (Q:VK),Z4 X Y Z H s->RelV x v->RelV y u->r x y H Q ->
  subscripted slice false v u=operate [v,u] (getItem v u)->wpAny (model X.prog X.w) X.A (subscriptTail value slice v u) (EP X Y Z Q) X.xe s
def MtR(X:Cx)(a:String)(r:V->List V->Hp->VK->Prop):Prop:=
 ∀(Y:List (Addr×Obj)) (s:Shared) (Z:St) (H:Hp) (x:V) (xs:List V) (v:Value) (M:List Value) (Q:VK),Z4 X Y Z H s->RelV x v->ZM xs M->r x xs H Q ->
  wpAny (model X.prog X.w) X.A (call (.builtin a) (v::M)) (EP X Y Z Q) X.xe s
section
variable{a b:Expr}{tb:TE}
def IxR.or{r c:R2}(h:IxR X r)(h':IxR X c):IxR X (λx y H Q=>r x y H Q\/c x y H Q):=by
 intro value slice Y s Z H x y v u Q I b a q hs;rcases q with q|q
 .exact h value slice Y s Z H x y v u Q I b a q hs
 .exact h' value slice Y s Z H x y v u Q I b a q hs
def abG{r:R2}(g:IxR X r)(j:PE X a ta)(i:PE X b tb)(f:DN b):PE X (.Subscript a b pos) (Jc r ta tb):=by
 intro Y s Z H Q I h;exact Subscript_ (gx j i I h λv u c x y H2 k e d q=>g a b Y c Z H2 x y v u Q k e d q (f _ _))
def Jn(K:Il):R2:=λx y H Q=>∃p xs i v,x=.ref p/\y=.int i/\SqL K H p xs/\atI xs i=some v/\Q v H
def HX(K:Il):R2:=λx y H Q=>∃p xs i v,x=.ref p/\y=.int i/\SqT K H p xs/\atI xs i=some v/\Q v H
def wB:IxR X (Jn X.K):=by
 intro value slice Y s Z H x y v u Q I f e h hs;let⟨p,xs,i,z,rfl,rfl,g,l,q⟩:=h;cases f;let⟨t,rfl⟩:=e;let⟨ZY,r,pl,A⟩:=I.list g;let⟨j,h1,h2,C,n,m⟩:=kn l;let⟨w,d,o⟩:=r.get h2;have k:=r.length;have B:=cJ;have a:EP X Y Z Q w s:=⟨z,H,I,o,q⟩;by_cases c:0<=i
 .have b:i.toNat=j:=by
   rw[seqIndex_of c m]at h1;exact Vm h1
  exact item_listR pl.isList c () (by rw[b];simpa using d) a hs
 .have b:(i+(ZY.toArray.size:Int)).toNat=j:=by
   rw[seqIndex_neg () n]at h1
   rw[XB,<-k];exact Vm h1
  exact subscriptTail_builtinR (x:=w) pl.isList.typeIs slot_list_getitem.lookup
   (wpAny_getItem_list_neg (Q:=λr s'=>r=w/\EP X Y Z Q r s') pl.isList () (by rw[XB]<;>omega) () (by rw[b];simpa using d) ⟨rfl,a⟩) hs
def aaU:IxR X (HX X.K):=by
 intro value slice Y s Z H x y v u Q I c b h hs;let⟨p,xs,i,z,rfl,rfl,d,f,q⟩:=h;cases c;let⟨t,rfl⟩:=b;let⟨ZY,r,pl,l⟩:=I.tuple d;let⟨j,h1,h2,A,o,n⟩:=kn f;let⟨w,g,k⟩:=r.get h2;have e:=r.length;have m:=cJ;have a:EP X Y Z Q w s:=⟨z,H,I,k,q⟩;exact subscriptTail_builtinR (x:=w) pl.typeIs slot_tuple_getitem.lookup
  (getItem_tuple (j:=j) (Q:=λr s'=>r=w/\EP X Y Z Q r s') pl () () (by rw[XB,<-e];exact h1) (by simpa using g) ⟨rfl,a⟩) hs
def tj(a:List Value)(n j:Nat)(u:Value):Obj.mapSeq (·.setIfInBounds j u) {cls:=.type "list",data:=.seq a.toArray n}={cls:=.type "list",data:=.seq (a.set j u).toArray n}:=by
 simp[Obj.mapSeq]
def Z4.S{Y:List (Addr×Obj)}{Z:St}{H:Hp}{s:Shared}{p:Addr}{xs:List V}(I:Z4 X Y Z H s)(h:H p=some (.S xs)):
  ∃(ZY:List Value) (n:Nat),ZM xs ZY/\s.heap.get? p=some {cls:=.type "list",data:=.seq ZY.toArray n}/\xs.length<=sizeLine:=by
 let⟨z,ZY,n,r,e⟩:=I.ZO p _ h;exact⟨ZY,n,r,e,z⟩
def Z4.SS{Z:St}{p:Addr}{xs a:List V}{its':List Value}{c:Nat}{f:Obj->Obj}(I:Z4 X Y Z H s)(h:H p=some (.S xs))
  (i:s.heap.get? p=some {cls:=.type "list",data:=.seq ZY.toArray n}) (d:f {cls:=.type "list",data:=.seq ZY.toArray n}={cls:=.type "list",data:=.seq its'.toArray c}) (r:ZM a its') (g:a.length<=sizeLine) (t:Nat) :
  Z4 X Y Z (upd H p (.S a)) {s with heap:=s.heap.update p f,toks:=t}:=by
 have e:(s.heap.update p f).get? p=some {cls:=.type "list",data:=.seq its'.toArray c}:=by
  rw[Sr f i (by rw[d]<;>rfl),d]
 refine I.write (x:=p) (e:=p) (by rw[h];trivial) (.inl rfl) (λb u j q=>(VZ _ _ (Ne.symm j)).trans q) ⟨_,e⟩ ?_
 exact⟨g,its',c,r,e⟩
def HB:V->V->V->Hp->(Hp->Prop)->Prop:=λo i v H Q=>∃p xs k j,o=.ref p/\i=.int k/\H p=some (.S xs)/\ixN xs.length k=some j/\Q (upd H p (.S (xs.set j v)))
def set_list:Cf X HB:=by
 intro Y s Z H o i v y z u Q I l m g h;let⟨p,xs,k,j,rfl,rfl,b,x,q⟩:=h;cases l;let⟨t,rfl⟩:=m;let⟨ZY,n,r,ho,w⟩:=I.S b;let⟨h1,h2,d,c⟩:=kZ x;have a:=r.length;have A:=cJ;have f:Z4 X Y Z (upd H p (.S (xs.set j v))) {s with heap:=s.heap.update p (Obj.mapSeq (·.setIfInBounds j u))}:=
  I.SS b ho (tj ZY n j u) (r.set g j) (by rw[RY];exact w) s.toks
 by_cases e:0<=k
 .have hk:k.toNat=j:=by
   rw[seqIndex_of e c]at h1;exact Vm h1
  exact PySem.W.ki_setAt ho e () (by rw[XB,<-a];exact c) (by rw[hk];exact⟨_,f,q⟩)
 .have hk:(k+(ZY.toArray.size:Int)).toNat=j:=by
   rw[seqIndex_neg () d]at h1
   rw[XB,<-a];exact Vm h1
  exact PySem.W.ki_setBack ho () (by rw[XB,<-a];exact d) () (by rw[hk];exact⟨_,f,q⟩)
def sr(a b:Option Int)(n:Nat):(sliceBounds a b none n).1=((HT.sIx n 0 a:Nat):Int)/\(sliceBounds a b none n).2.1=((HT.sIx n n b:Nat):Int)/\(sliceBounds a b none n).2.2=1:=by
 refine⟨?_,?_,rfl⟩
 .cases a with
  |none=>simp[sliceBounds,HT.sIx]
  |some i=>
   simp![sliceBounds,HT.sIx,Qq,show(1:Int) > 0 by decide,TL]
   by_cases h:i<0
   .simp only [h,TL]<;>omega
   .simp only [h,Td]<;>omega
 .cases b with
  |none=>simp[sliceBounds,HT.sIx]
  |some i=>
   simp![sliceBounds,HT.sIx,Qq,show(1:Int) > 0 by decide,TL]
   by_cases h:i<0
   .simp only [h,TL]<;>omega
   .simp only [h,Td]<;>omega
def sk(a:List Value)(b c:Option Int):slicePick a.toArray b c none=((a.drop (HT.sIx a.length 0 b)).take (HT.sIx a.length a.length c-HT.sIx a.length 0 b)).toArray:=by
 let⟨h1,h2,d⟩:=sr b c a.toArray.size;unfold slicePick;rw[h1,h2,d];simp![sliceRange_one,pick_run,XB]<;>rfl
def Jo(K:Il):V->Option Int->Option Int->Hp->VK->Prop:=λx lo hi H Q=>∃a xs,x=.ref a/\SqL K H a xs /\∀p,H p=none->Q (.ref p) (upd H p (.S (BE xs lo hi)))
def xM:SlR X (Jo X.K):=by
 intro Y s Z H x v t k lo hi u Q I d hs pl f h;let⟨a,xs,rfl,j,q⟩:=h;cases d;let⟨ZY,r,c,g⟩:=I.list j;have hlen:=r.length;refine⟨"list",_,slot_list_getitem.lookup,c.isList.typeIs,?_⟩;refine wpAny_getItem_list_slice c.isList hs pl f .none #[3] ?_ (by rw[XB]<;>omega)
 rw[sk,<-hlen];refine⟨.ref s.heap.objs.size,_,I.laid (t':=s.toks) (o:=.S (BE xs lo hi)) (λb ob q=>H9 _ q) (Ie _) ?_,rfl,q _ (I.ZO.fresh (Ie _))⟩;exact⟨Ib (gJ xs lo hi) g,_,0,(r.drop (HT.sIx xs.length 0 lo)).take (HT.sIx xs.length xs.length hi-HT.sIx xs.length 0 lo),Ij _ rfl⟩
def C9:V->Bool
 |.ZR=>true
 |.bl _=>true
 |.int _=>true
 |.str _=>true
 |_=>false
def Jp:V->V->Bool
 |.ZR,.ZR=>true
 |.bl a,.bl b=>a==b
 |.bl a,.int b=>(if a then 1 else 0)==b
 |.int a,.bl b=>a==(if b then 1 else 0)
 |.int a,.int b=>a==b
 |.str a,.str b=>a==b
 |_,_=>false
def dY{x:V}{u v:Value}(d:RelV y u)(c:RelV x v)(f:C9 y=true)(e:C9 x=true):SeqAt.EqAt A s u v (Jp y x):=by
 cases y with
 |ZR=>
  cases d;cases x with
  |ZR=>cases c;exact RZ _
  |bl b=>cases c;exact SeqAt.EqAt.none_bool b
  |int b=>let⟨t,rfl⟩:=c;exact SeqAt.EqAt.none_int b t
  |str b=>let⟨t,rfl⟩:=c;exact SeqAt.EqAt.none_str b t
  |_=>exact absurd (show false=true from e) Ic
 |bl a=>
  cases d;cases x with
  |ZR=>cases c;exact SeqAt.EqAt.bool_none a
  |bl b=>cases c;exact SeqAt.EqAt.bool_bool a b
  |int b=>let⟨t,rfl⟩:=c;exact SeqAt.EqAt.bool_int a b t
  |str b=>let⟨t,rfl⟩:=c;exact SeqAt.EqAt.bool_str a b t
  |_=>exact absurd (show false=true from e) Ic
 |int a=>
  let⟨t',rfl⟩:=d;cases x with
  |ZR=>cases c;exact SeqAt.EqAt.int_none a t'
  |bl b=>cases c;exact SeqAt.EqAt.int_bool a t' b
  |int b=>let⟨t,rfl⟩:=c;exact SeqAt.EqAt.int_int a t' b t
  |str b=>let⟨t,rfl⟩:=c;exact SeqAt.EqAt.int_str a t' b t
  |_=>exact absurd (show false=true from e) Ic
 |str a=>
  let⟨t',rfl⟩:=d;cases x with
  |ZR=>cases c;exact SeqAt.EqAt.str_none a t'
  |bl b=>cases c;exact SeqAt.EqAt.str_bool a t' b
  |int b=>let⟨t,rfl⟩:=c;exact SeqAt.EqAt.str_int a t' b t
  |str b=>let⟨t,rfl⟩:=c;exact SeqAt.EqAt.str_str a t' b t
  |_=>exact absurd (show false=true from e) Ic
 |_=>exact absurd (show false=true from f) Ic
def call_len_seq:CallR X (.builtin "len") (λxs H Q=>∃p ys,xs=[.ref p]/\(SqL X.K H p ys\/SqT X.K H p ys)/\Q (.int ys.length) H):=by
 intro Y s Z H xs M Q I r h;let⟨p,ys,rfl,a,q⟩:=h;let⟨u,rfl,b⟩:=vals1 r;cases b;have d:=cJ;rcases a with a|a
 .obtain ⟨ZY,r',pl,c⟩:=I.list a
  have hlen:=r'.length;exact Calls.call_len_list pl.isList (by simp![XB]<;>omega) ⟨.int ys.length,H,I.tok _,⟨s.toks+1,by rw[XB,hlen]⟩,q⟩
 .obtain ⟨ZY,r',pl,c⟩:=I.tuple a
  have hlen:=r'.length;exact len_tuple pl (by simp![XB]<;>omega) ⟨.int ys.length,H,I.tok _,⟨s.toks+1,by rw[XB,hlen]⟩,q⟩
def CallR.or{f:Value}{r b:List V->Hp->VK->Prop}(h:CallR X f r)(h':CallR X f b):CallR X f (λxs H Q=>r xs H Q\/b xs H Q):=by
 intro Y s Z H xs M Q I a q;rcases q with q|q
 .exact h Y s Z H xs M Q I a q
 .exact h' Y s Z H xs M Q I a q
def call_list_of:CallR X (.type "list") (λxs H Q=>∃p ys,xs=[.ref p]/\(SqL X.K H p ys\/SqT X.K H p ys) /\∀l,H l=none->Q (.ref l) (upd H l (.S ys))):=by
 intro Y s Z H xs M Q I r h;let⟨p,ys,rfl,d,q⟩:=h;let⟨u,rfl,k⟩:=vals1 r;cases k;have f:∀(ZY:List Value),ZM ys ZY->ys.length<=sizeLine ->∀(h':Heap) (c':Nat),(∀b o',s.heap.get? b=some o'->h'.get? b=some o') ->
   h'.get? s.heap.objs.size=some {cls:=.type "list",dict:=none,data:=.seq ZY.toArray c',slots:=#[]}->EP X Y Z Q (.ref s.heap.objs.size) {s with heap:=h'}:=λZY r' c h' c' a e=>
  ⟨.ref s.heap.objs.size,_,I.laid (t':=s.toks) a (Ie _) (show ObjOk X.prog X.w _ h' _ (.S ys)from⟨c,ZY,c',r',e⟩),rfl,q _ (I.ZO.fresh (Ie _))⟩
 rcases d with d|d
 .obtain ⟨ZY,r',pl,c⟩:=I.list d
  have hlen:=r'.length;let⟨o,ho,j,n,g⟩:=pl.isList;exact call_list_seq p (.inl rfl) ho j g (λh' c' a e=>f ZY r' c h' c' a e) (by simp![XB]<;>omega)
 .obtain ⟨ZY,r',pl,c⟩:=I.tuple d
  have hlen:=r'.length;let⟨o,ho,j,n,g⟩:=pl;exact call_list_seq p (.inr rfl) ho j g (λh' c' a e=>f ZY r' c h' c' a e) (by simp![XB]<;>omega)
def Jq(K:Il)(T:String)(x:V)(H:Hp):Prop:=match x with
 |.str _=>T = "str"
 |.int _=>T = "int"
 |.ref p=>(T = "list" /\∃xs,SqL K H p xs)\/(T = "tuple" /\∃o,K.lookup p=some o/\o.cls=.type "tuple" /\ o.dict=none) \/
   (T = "dict" /\ ((∃Z3,H p=some (.dK Z3)) \/∃Z3,H p=some (.dT Z3)))\/(T = "set" /\∃Z5 n,H p=some (.set Z5 n))
 |_=>False
def mR{Z:St}{T:String}{x:V}{v:Value}(I:Z4 X Y Z H s)(r:RelV x v)(b:Jq X.K T x H):
  s.TypeIs v T /\∀a,v=.ref a ->∃f,s.heap.get? a=some f/\f.dict=none:=by
 cases x with
 |str z=>
  let⟨t,rfl⟩:=r;cases(show T = "str" from b);exact⟨typeIs_str s z t,λ_ e=>nomatch e⟩
 |int i=>
  let⟨t,rfl⟩:=r;cases(show T = "int" from b);exact⟨typeIs_int s i t,λ_ e=>nomatch e⟩
 |ref p=>
  cases r;rcases b with⟨rfl,xs,g⟩|⟨rfl,o,hk,h,hd⟩|⟨rfl,hk⟩|⟨rfl,Z5,n,hk⟩
  .obtain ⟨ZY,_,pl,_⟩:=I.list g
   refine⟨pl.isList.typeIs,λa e=>?_⟩;cases e;let⟨o,n,e,c,hd,_⟩:=pl;exact⟨o,e,hd⟩
  .refine ⟨⟨o,I.Zt p o hk,h⟩,λa e=>?_⟩
   cases e;exact⟨o,I.Zt _ o hk,hd⟩
  .have z:∃o,s.heap.get? p=some o/\o.ExactDict:=by
    rcases hk with⟨Z3,hk⟩|⟨Z3,hk⟩
    .obtain ⟨_,_,_,_,o,_,_,e,ex,_⟩:=I.ZO p _ hk
     exact⟨o,e,ex⟩
    .obtain ⟨_,_,_,_,o,_,_,e,ex,_⟩:=I.ZO p _ hk
     exact⟨o,e,ex⟩
   let⟨o,e,ex⟩:=z;refine⟨⟨o,e,ex.1⟩,λa d=>?_⟩;cases d;exact⟨o,e,ex.2.1⟩
  .obtain ⟨o,_,_,_,e,ex,_⟩:=I.ZO p _ hk
   refine⟨⟨o,e,ex.1⟩,λa d=>?_⟩;cases d;exact⟨o,e,ex.2.1⟩
 |_=>exact False.elim b
def Jr(K:Il)(T:String)(r:V->List V->Hp->VK->Prop)(a:TE):TE:=λZ H Q=>a Z H λx H1=>Jq K T x H1/\r x [] H1 Q
def Js(K:Il)(T:String)(r:V->List V->Hp->VK->Prop)(a:TE)(t:TA):TE:=λZ H Q=>a Z H λx H1=>Jq K T x H1/\t Z H1 λxs H2=>r x xs H2 Q
variable{o:Expr}{to:TE}{t:TA}{T id:String}{r:V->List V->Hp->VK->Prop}
def aab(f:PlainAttrs T)(a:Slot T name id)(l:typeOf (.builtin id)=pure (.type "method_descriptor"))(i:MtR X id r)(g:PE X o to)
  (k:attributeBase o name X.env (eval o X.env)=eval o X.env:=by rfl) (j:(apos.endLine==Zw.line)=true:=by rfl):PE X (.Call (.Attribute o name apos) [] [] Zw) (Jr X.K T r to):=by
 intro Y s Z H Q I h;refine wpAny_Call_method0_late k j (thn (g Y s Z H _ I h) ?_);rintro v d ⟨x,H1,c,b,ty,e⟩;let⟨h1,h2⟩:=mR c b ty;exact⟨T,id,f,a,l,h1,h2,Calls.callWith_builtin rfl (PySem.evalArgs_none (i Y d Z H1 x [] v [] Q c b .nil e))⟩
def abz(l:PlainAttrs T)(a:Slot T name id)(y:typeOf (.builtin id)=pure (.type "method_descriptor"))(p:MtR X id r)(n:PE X o to)(q:PA X (e::es) t)
  (w:attributeBase o name X.env (eval o X.env)=eval o X.env:=by rfl)
  (b:((backTo Zw (starEach (e :: es) X.env)).all (λx => !x.1) && (backToKw Zw (keywordEach [] X.env)).all (λx=>x.1.isSome)
   && decide ((e::es).length+([]:List Keyword).length+(if([]:List Keyword).isEmpty then 0 else 1)<30))=true:=by rfl)
  (u:(apos.endLine==Zw.line)=true:=by rfl) (m:starEach (e::es) X.env=(false,eval e X.env)::starEach es X.env:=by rfl) (z:(backTo Zw (starEach es X.env)).any (·.1)=false:=by rfl) :
  PE X (.Call (.Attribute o name apos) (e::es) [] Zw) (Js X.K T r to t):=by
 intro Y s Z H Q I h;refine wpAny_Call_method_late w b u rfl (thn (n Y s Z H _ I h) ?_);rintro v g ⟨x,H1,d,c,ty,k⟩;let⟨h1,h2⟩:=mR d c ty;refine⟨T,id,l,a,y,h1,h2,?_⟩;have hA:=q Zw Y g Z H1 _ d k;rw[m]at hA ⊢;refine Calls.callWith_builtin (by show(false||(backTo Zw (starEach es X.env)).any (·.1))=false;rw[z]<;>rfl) (RQ ?_)
 exact thn hA λM f ⟨vs,H2,A,i,j⟩=>p Y f Z H2 x vs v M Q A c i j
end
end L2
namespace L2
open PySem PySem.Spec PyProof.Rows
def MtM(X:Cx)(a:String)(r:V->List V->Hp->VK->Prop):Prop:=
 ∀(Y:List (Addr×Obj)) (s:Shared) (Z:St) (H:Hp) (x:V) (xs:List V) (v:Value) (M:List Value) (Q:VK),Z4 X Y Z H s->RelV x v->ZM xs M->r x xs H Q ->
  wpAny (model X.prog X.w) X.A (call (.builtin a) (v::M)) (EP X Y Z Q) X.xe s
def ZM.one:∀{x:V} {M:List Value},ZM [x] M ->∃u,M=[u]/\RelV x u
 |_,_,.cons r .nil=>⟨_,rfl,r⟩
def ZM.zero:∀{M:List Value},ZM [] M->M=[]
 |_,.nil=>rfl
def ZM.dropLast{xs:List V}{M:List Value}(h:ZM xs M):ZM xs.dropLast M.dropLast:=by
 induction h with
 |nil=>exact .nil
 |cons r t ih=>
  cases t with
  |nil=>exact .nil
  |cons q t'=>exact .cons r ih
def ZM.eraseIdx:∀{xs:List V} {M:List Value} (i:Nat),ZM xs M->ZM (xs.eraseIdx i) (M.eraseIdx i)
 |_,_,_,.nil=>.nil
 |_,_,0,.cons _ t=>t
 |_,_,i+1,.cons r t=>.cons r (ZM.eraseIdx i t)
def ZM.reverse{xs:List V}{M:List Value}(h:ZM xs M):ZM xs.reverse M.reverse:=by
 induction h with
 |nil=>exact .nil
 |cons r t ih=>rw[Rc,Rc];exact ZM.append ih (.cons r .nil)
def tL(l:List α):l.eraseIdx (l.length-1)=l.dropLast:=by
 induction l with
 |nil=>rfl
 |cons a r ih=>
  cases r with
  |nil=>rfl
  |cons b r=>
   have e:(a::b::r).length-1=((b::r).length-1)+1:=by
    have h1:(a::b::r).length=r.length+2:=rfl;have h2:(b::r).length=r.length+1:=rfl;omega
   rw[e,Qr,ih]
   all_goals rfl
def ij{a:Type}:∀(l:List a) (i:Nat),(l.eraseIdx i).length<=l.length
 |[],_=>Ie _
 |_::_,0=>U2 _
 |_::r,i+1=>Nat.succ_le_succ (ij r i)
section
variable{Z:St}{l b:Addr}{xs ys zs:List V}
def Z4.Ud{its':List Value}{f:Array Value->Array Value}(I:Z4 X Y Z H s)(h:H l=some (.S xs))
  (e:s.heap.get? l=some {cls:=.type "list",data:=.seq ZY.toArray n}) (d:f ZY.toArray=its'.toArray) (b:ZM ys its') (a:ys.length<=sizeLine) :
  Z4 X Y Z (upd H l (.S ys)) {s with heap:=s.heap.update l (Obj.mapSeq f),toks:=t'}:=by
 have q:=PySem.IsL.update e f;rw[d]at q;refine I.write (x:=l) (e:=l) (by rw[h];exact trivial) (.inl rfl) (λb' u g c=>(VZ s.heap (Obj.mapSeq f) (Ne.symm g)).trans c) ⟨_,q⟩ ?_
 exact⟨a,its',_,b,q⟩
def Z4.lnew(I:Z4 X Y Z H s)(b:ZM ys ZY)(a:ys.length<=sizeLine):
  Z4 X Y Z (upd H s.heap.objs.size (.S ys)) {s with heap:=s.heap.push {cls:=.type "list",data:=.seq ZY.toArray},toks:=t'}:=
 I.laid (λ_ _ q=>H9 _ q) (Ie _) ⟨a,ZY,0,b,Ij _ rfl⟩
def Z4.fresh(I:Z4 X Y Z H s):H s.heap.objs.size=none:=I.ZO.fresh (Ie _)
def Z4.V0(I:Z4 X Y Z H s)(a:H l=some (.S xs)):xs.length<=sizeLine /\∃(ZY:List Value) (n:Nat),ZM xs ZY/\xs.length=ZY.length/\s.heap.get? l=some {cls:=.type "list",data:=.seq ZY.toArray n}:=by
 let⟨z,ZY,n,r,e⟩:=I.ZO l _ a;exact⟨z,ZY,n,r,r.length,e⟩
def vb(h:n<=sizeLine):Builtin.List.listTooLong n=false:=by
 unfold Builtin.List.listTooLong;exact Sa ()
end
section
def G0:V->List V->Hp->VK->Prop:=λx vs H Q=>∃l xs y,x=.ref l/\vs=[y]/\H l=some (.S xs)/\xs.length<sizeLine/\Q .ZR (upd H l (.S (xs++[y])))
def hU:MtM X "list.append" G0:=by
 intro Y s Z H x vs v M Q I c d h;let⟨l,xs,y,rfl,rfl,a,g,q⟩:=h;cases c;let⟨u,rfl,f⟩:=d.one;let⟨z,ZY,n,r,j,e⟩:=I.V0 a;refine QU F.slot_list_append ⟨_,e,rfl⟩ F.entry_list_append (F.args_list_append_2 _ _) (PySem.list_append l ZY.toArray n u (by rw[XB];omega)) ⟨e,?_⟩
 refine⟨.ZR,_,I.Ud (its':=ZY++[u]) a e #[3] (r.append (.cons f .nil)) ?_,rfl,q⟩
 rw[W9,List.length_singleton];omega
def G2:V->List V->Hp->VK->Prop:=λx vs H Q=>∃l b xs zs,x=.ref l/\vs=[.ref b]/\H l=some (.S xs)/\H b=some (.S zs)/\xs.length+zs.length<=sizeLine/\Q .ZR (upd H l (.S (xs++zs)))
def t8:MtM X "list.extend" G2:=by
 intro Y s Z H x vs v M Q I f g h;let⟨l,b,xs,zs,rfl,rfl,d,w,C,q⟩:=h;cases f;let⟨u,rfl,j⟩:=g.one;cases j;let⟨z,ZY,n,r,D,e⟩:=I.V0 d;let⟨B,a,o,k,t,y⟩:=I.V0 w;have c:ZY.toArray.size+a.toArray.size<=sizeLine:=by rw[XB,XB];omega
 have A : ¬ (!ZY.toArray.isEmpty&&Builtin.List.listTooLong (ZY.toArray.size+a.toArray.size))=true:=by
  rw[vb c,Bool.and_false];exact Ic
 refine QU F.slot_list_extend ⟨_,e,rfl⟩ F.entry_list_extend (F.args_list_extend_2 _ _)
  (AutoSeq1.list_extend_list_list_0 l ZY.toArray n b a.toArray o A (by rw[XB];omega) ()) ⟨e,y,?_⟩
 refine⟨.ZR,_,I.Ud (its':=ZY++a) d e #[3] (r.append k) ?_,rfl,q⟩
 rw[W9];omega
def rPop:V->List V->Hp->VK->Prop:=λx vs H Q=>∃l xs y,x=.ref l/\vs=[]/\H l=some (.S xs)/\xs[xs.length-1]?=some y/\Q y (upd H l (.S xs.dropLast))
def zK:MtM X "list.pop" rPop:=by
 intro Y s Z H x vs v M Q I c d h;let⟨l,xs,y,rfl,rfl,b,g,q⟩:=h;cases c;have k:=d.zero;subst k;let⟨z,ZY,n,r,j,e⟩:=I.V0 b;let⟨u,i,f⟩:=r.get g;have a:ZY.toArray[ZY.toArray.size-1]?=some u:=by
  show ZY.toArray[ZY.length-1]?=some u;rw[<-RA,<-j];exact i
 refine QU F.slot_list_pop ⟨_,e,rfl⟩ F.entry_list_pop (F.args_list_pop_1 _) (MeetsSeq.list_pop_last l ZY.toArray n u a (by rw[XB];omega)) ⟨e,?_⟩
 refine⟨y,_,I.Ud (its':=ZY.dropLast) b e ?_ r.dropLast ?_,f,q⟩
 .show ZY.toArray.eraseIdxIfInBounds (ZY.toArray.size-1)=ZY.dropLast.toArray
  rw[XB,Ry,tL]
 .rw [List.length_dropLast]
  omega
def G8:V->List V->Hp->VK->Prop:=λx vs H Q=>∃l xs i k y,x=.ref l/\vs=[.int i]/\H l=some (.S xs) /\ -(2 ^ 63)<=i/\i<2 ^ 63/\seqIndex? i xs.length=some k/\xs[k]?=some y/\Q y (upd H l (.S (xs.eraseIdx k)))
def uN:MtM X "list.pop" G8:=by
 intro Y s Z H x vs v M Q I b c h;let⟨l,xs,i,k,y,rfl,rfl,a,h1,h2,hk,f,q⟩:=h;cases b;let⟨u,rfl,d⟩:=c.one;let⟨t,rfl⟩:=d;let⟨z,ZY,n,r,j,e⟩:=I.V0 a;let⟨w,g,m⟩:=r.get f;refine QU F.slot_list_pop ⟨_,e,rfl⟩ F.entry_list_pop (F.args_list_pop_2 _ _)
  (MeetsSeq.list_pop_at l ZY.toArray n i t k w (fitsIndex_both h1 h2) (by rw[XB,<-j];exact hk) (by rw[<-RA];exact g) (by rw[XB];omega)) ⟨e,?_⟩
 refine⟨y,_,I.Ud (its':=ZY.eraseIdx k) a e ?_ (r.eraseIdx k) ?_,m,q⟩
 .show ZY.toArray.eraseIdxIfInBounds k=(ZY.eraseIdx k).toArray
  rw[Ry]
 .have:=ij xs k
  omega
def Gk:R2:=λx y H Q=>∃l b xs zs,x=.ref l/\y=.ref b/\H l=some (.S xs)/\H b=some (.S zs)/\xs.length+zs.length<=sizeLine /\∀p,H p=none->Q (.ref p) (upd H p (.S (xs++zs)))
def yY:OpR X (binaryOp .Add) Gk:=by
 intro Y s Z H x y v u Q I d c h;let⟨l,b,xs,zs,rfl,rfl,i,j,p,q⟩:=h;cases d;cases c;let⟨z,ZY,n,r,t,e⟩:=I.V0 i;let⟨m,a,o,f,g,k⟩:=I.V0 j;refine PySem.P.add_list e k ?_ (by rw[XB,XB];omega)
 have ea:ZY.toArray++a.toArray=(ZY++a).toArray:=by simp
 rw[ea];exact⟨.ref _,_,I.lnew (t':=s.toks) (r.append f) (by rw[W9];omega),rfl,q _ I.fresh⟩
end
end L2
namespace Att
open PySem PySem.W PySem.Calls PyProof.Rows
def rY{P:Params}:∀(ns:List Int) (vs:List Value),WellAll P h vs (ns.map WData.int)->IntsAre vs ns:=by
 intro ns
 induction ns with
 |nil=>
  intro vs w;rw[Rj]at w;cases w;exact .nil
 |cons n ns ih=>
  intro vs w;rw[YG]at w;cases w with
  |cons a b=>
   cases a;exact .cons _ _ (ih _ b)
def uE{l:OpenLaw}(y:l.most=some n){P:Params}{args:List WData}{c:List Value}
  (o:l.row.toRowW.claim.pre args=true) (j:WellAll P h c args) :
  ∃a vs ns,c=[Value.ref a]/\args=[WData.list (ns.map WData.int)]/\h.get? a=some {cls:=.type "list",data:=.seq vs.toArray}/\IntsAre vs ns/\ns.length<=n:=by
 have A:WShape.hasAll [] args [.list .int]=true:=(pre_splitW o).1;have k:l.pre.holds [] {args:=args}=true:=(pre_splitW o).2;let⟨d,r,rfl,h1,h2⟩:=hasAllW_cons A;obtain rfl:=hasAllW_nil h2;let⟨xs,rfl,z⟩:=hasW_list h1;let⟨ns,rfl⟩:=items_int z;have f:ns.length<=n:=by
  unfold OpenLaw.pre at k;have g:(WTm.not (.lt (.lit (.int (n:Int))) (.len (.arg 0)))).holds [] {args:=[.list (ns.map .int)]}=true:=by
   have g:=(holds_andW k).1;rw[y]at g;exact g
  have h5:=condW_of g (w_not (w_lt w_lit (w_len_list (w_arg rfl))));rw[Yk]at h5;refine Nat.le_of_not_lt λq=>?_;have w:(n:Int)<((ns.length:Nat):Int):=by omega
  first
   |(rw[Qc w]at h5;exact absurd h5 #[1])
   |(simp at h5;omega)
 cases j with
 |cons u t=>
  cases t;cases u with
  |list ho B=>exact⟨_,_,ns,rfl,rfl,ho,rY ns _ B,f⟩
def uH(l:OpenLaw)(args:List WData):l.row.toRowW.claim.post args (.bool true) args=true:=
 postW_of (r:=l.row.toRowW) (X:=(true==true))
  (show WShape.has [] (.bool true) .bool=true by first|rfl|decide|simp[WShape.has,WShape.arms,WShape.armsAll])
  (show(WTm.eq .res (.lit (.bool true))).value [] {args:=args,res:=some (.bool true),after:=args}=some (.bool (true==true))from w_eq_bool (w_res rfl) w_lit) rfl
def attach_call{l:OpenLaw}{q:Program}{loose:List Str}{XP:(Str->Option Value)->Heap->Prop}{YP:World->Heap->Prop}{d:DefRec}
  (F:l.most=some n) (A:d.params.defaults=[])
  (call:∀ (w:World) (ZK ZG : Shared) (mg u:Str->Option Value) (k:Addr) (o:Obj) (pm t g:Value) (a:Addr) (vs:List Value) (ns:List Int),
   Ground q loose [] XP w ZK mg u ZG.heap->YP w ZG.heap ->
   ZG.heap.get? k=some o->o.data=.func (docDef d.name d.params d.body d.scope pm t g)->ZG.heap.CodeRec t d.name->mg d.name=some (.ref k) ->
   ZG.heap.get? a=some {cls:=.type "list",data:=.seq vs.toArray}->IntsAre vs ns->ns.length<=n->ZG.gens = #[] ->
   codeAny (model l.prog w) callerA (.call (.ref k) ⟨[.ref a],[]⟩) (λr s'=>r=.ok (.ret (.bool true))/\OldK ZG.heap s'.heap/\s'.os=ZG.os/\AllBare s'.gens) ZG) :
  WalkO q loose XP YP l.row.toRowW d [] (λf vs=>PySem.call f vs):=by
 intro w ZK ZG mg u G O k o pm t g KP IV ho K N C z J args vals as P B D y I;obtain rfl:KP=.none:=Dflts.none C A;obtain rfl:IV=.none:=Dflts.noKw C;let⟨a,vs,ns,rfl,rfl,Q,c,j⟩:=uE F P y;refine enter_call (Sx (call w ZK ZG mg u k o pm t g a vs ns G O ho (fd_plain K) N z Q c j J) λr s' E=>?_);let⟨rfl,h2,M,L⟩:=E;exact⟨.inl ⟨.bool true,.bool true,[],rfl,λ_=>rfl,.bool true,uH l _,λ_=>⟨List.Pairwise.nil,λ_ H=>(nomatch H)⟩⟩,h2,M,L⟩
end Att
namespace L2
open PySem PySem.Spec PyProof.Rows
def iF:∀{vs:List Value} {ns:List Int},IntsAre vs ns->ZM (ns.map V.int) vs
 |_,_,.nil=>.nil
 |_,_,.cons n t h=>.cons ⟨t,rfl⟩ (iF h)
def Dw(H:Hp):Prop:=∀b,H b=none \/∃o xs,H b=some (.Zo o (.S xs))
def va{G:Str->Option Value}{k:Nat}{M:Addr}{x:Str}{ZG : Shared}{vs:List Value}{ns:List Int}
  (Y:K.In ZG.heap) (X:ZG.heap.Ns mainGlobals mg) (c:ZG.heap.Ns builtinsNs G) (J:∀x:Str,x ≠ "__name__" -> G x=bootBuiltins x) (A:ZG.heap.NoLimit) (hg:ZG.gens = #[])
  (E:ZG.heap.get? a=some {cls:=.type "list",data:=.seq vs.toArray}) (Q:IntsAre vs ns) (O:ns.length<=sizeLine) (hr:Zy k callerA)
  (F:∀base:Heap,K.In base->base.Ns mainGlobals mg->Zb P w K mg base CX k M fd [x] sp) (SQ:∀(s:Shared) (u:Value),BindsTo s fd ⟨[u],[]⟩ [(x,u)])
  (I:∀H:Hp,Dw H->SqL K H a (ns.map V.int)->sp [.ref a] H (λv _=>v=.bl true) λ_ _ _=>False)
  (L:∀H e s',CX [] H ZG (λ_ _ _=>False) e s'->False) :
  codeAny (model P w) callerA (.call (.ref M) ⟨[.ref a],[]⟩) (λr s'=>r=.ok (.ret (.bool true))/\OldK ZG.heap s'.heap/\s'.os=ZG.os/\AllBare s'.gens) ZG:=by
 have N:=iF Q;have t:=Q.length;have g:∀H:Hp,Dw H->SqL K H a (ns.map V.int)->HOk P w H ZG.heap->(∀b,H b≠none->b=a)->(H a≠none->K.lookup a=none) ->
   codeAny (model P w) callerA (.call (.ref M) ⟨[.ref a],[]⟩) (λr s'=>r=.ok (.ret (.bool true))/\OldK ZG.heap s'.heap/\s'.os=ZG.os/\AllBare s'.gens) ZG:=by
  intro H R hS W T hK;have base_of:∀{b:Addr} {o:Obj},ZG.heap.get? b=some o->H b=none->(Bs ZG.heap H).get? b=some o:=λe n=>vB e n;have US:∀{b:Addr} {o:Obj} {es:Array DictEntry} {C:Nat},ZG.heap.get? b=some o->o.data=.dict es C->H b=none:=λ{b o es C} e d=>by
   cases q:H b with
   |none=>rfl
   |some u=>
    have e':b=a:=T b (by rw[q];simp)
    subst e';rw[E]at e;cases e;have d':Data.seq vs.toArray _=Data.dict es C:=d;cases d'
  have f:∀{b:Addr} {m:Str->Option Value},ZG.heap.Ns b m->(Bs ZG.heap H).Ns b m:=λ{b m} ⟨o,es,C,e,d,r⟩=>⟨o,es,C,base_of e (US e d),d,r⟩
  have B:K.In (Bs ZG.heap H):=λb o e=>base_of (Y b o e) (by
   cases q:H b with
   |none=>rfl
   |some u=>
    have e':b=a:=T b (by rw[q];simp)
    subst e'
    rw[hK (by rw[q];simp)]at e;cases e)
  have hM:Mod K mg (Bs ZG.heap H):=⟨B,f X,⟨G,f c,J⟩,let⟨mc,h1,h2⟩:=A;⟨mc,f h1,h2⟩⟩
  have e0:Xr P w K mg (Bs ZG.heap H) callerA [] ZG H:=⟨rfl,hM,λb o e=>wz e,Qy (uJ _ _),trivial,λb c=>absurd (show b∈([]:List Addr)from c) #[3],W,.of_eq hg⟩
  refine Sx ((F _ B (f X)).run callerA [] ZG H ⟨[.ref a],[]⟩ [.ref a] [.ref a] _ _ hr e0 (SQ ZG (.ref a)) (.cons rfl .nil) (I H R hS)) λr s' h=>?_;cases r with
  |error e=>exact(L H e s' h).elim
  |ok fl=>
   cases fl with
   |next=>exact False.elim h
   |brk=>exact False.elim h
   |cont=>exact False.elim h
   |ret u=>
    let⟨v,H',os,D,un,y,r',q⟩:=h;have q':v=.bl true:=q;subst q';obtain rfl:u=Value.bool true:=r';refine⟨rfl,OldK.of_keep λb o e=>?_,os,D⟩;cases q:H b with
    |none=>exact un.keep b o e q (by intro z;exact absurd (show b∈([]:List Addr)from z) #[3]) #[3]
    |some u=>
     rcases R b with z|⟨ob,xs,z⟩
     .rw [q]at z;cases z
     .have Z:=un.X2 b ob _ z
      let⟨U,_⟩:=W b _ z;let⟨e2,_⟩:=y b _ Z;rw[e]at U;cases U;exact e2
 cases hk:K.lookup a with
 |some o=>
  have e:=Y a o hk;rw[E]at e;cases e;refine g (λ_=>none) (λ_=>.inl rfl) (.inr ⟨_,vs.toArray,_,hk,rfl,rfl,rfl,by rw[XB,t];exact O,by simpa using N⟩) (λb u z=>by have j:(none:Option HO)=some u:=z;cases j) (λb z=>absurd rfl z) λz=>absurd rfl z
 |none=>
  refine g (λb=>if b=a then some (.Zo {cls:=.type "list",data:=.seq vs.toArray} (.S (ns.map V.int)))else none) (λb=>?_) (.inl (.inr ⟨{cls:=.type "list",data:=.seq vs.toArray},XW rfl⟩)) (λb u z=>?_) (λb z=>?_) λ_=>hk
  .by_cases c:b=a
   .exact .inr ⟨_,_,XW c⟩
   .exact .inl (WV c)
  .by_cases c:b=a
   .have j:=(XW c).symm.trans z
    cases j;subst c;exact⟨E,by rw[Yk];exact O,vs,_,N,E⟩
   .have j:=(WV c).symm.trans z
    cases j
  .by_cases c:b=a
   .exact c
   .exact absurd (WV c) z
end L2
namespace L2
open PySem PySem.Spec PyProof.Rows
def Co(s:Stmt):Arguments:=match s with
 |.FunctionDef _ a _ _ _ _ _ _ _ _=>a
 |_=>{posonlyargs:=[],args:=[],vararg:=none,kwonlyargs:=[],kw_defaults:=[],kwarg:=none,defaults:=[]}
def Cn(s:Stmt):List Stmt:=match s with
 |.FunctionDef _ _ b _ _ _ _ _ _ _=>b
 |_=>[]
def AN(s:Stmt):Scope:=match s with
 |.FunctionDef _ _ _ _ _ _ sc _ _ _=>sc
 |_=>{kind:=.function,names:=[],isGenerator:=false,isCoroutine:=false}
abbrev X1:Yc:=λ_ _ _ _ _ _=>False
abbrev E0:XK:=λ_ _ _=>False
def d7:AA X1 X E0:=λ_ _ _ _ _ _ _ h=>h.elim
structure Fun(K:Il)(x qual:Str)(st:Stmt)(f:Addr)(fd:FuncData):Prop where
 ex:∃(Kq:Value) (od:Option Addr) (IV doc pm:Value) (an:Option Addr) (Zn ct:Value) (YV:Array (Option Value)),
  fd=PySem.W.fnOf x qual (Co st) (Cn st) (AN st) .none IV doc pm an Zn ct/\K.lookup f=some ⟨Kq,od,.func fd,YV⟩/\PySem.W.codeIn K Zn qual=true
 kp:PySem.W.keepIn K (.ref f)=true
def aY{A B:Prop}(h:B):if false=true then A else B:=by
 rw[WV Ic];exact h
def aZ{A B:Prop}(h:A):if true=true then A else B:=by
 rw[XW rfl];exact h
end L2
namespace L2
open PySem PySem.Spec PyProof.Rows
section
variable{κ:Type}[DecidableEq κ]
def AS(Z3:List (κ×V))(k:κ):Option V:=(Z3.find? λa=>decide (a.1=k)).map (·.2)
def putK(Z3:List (κ×V))(k:κ)(v:V):List (κ×V):=
 if(Z3.any λa=>decide (a.1=k))=true then Z3.map (λa=>if a.1=k then(a.1,v)else a)else Z3++[(k,v)]
def bG{p:κ×V}{r:List (κ×V)}{k:κ}(e:p.1=k):AS (p::r) k=some p.2:=by simp[AS,Uq,e]
def bI{p:κ×V}{r:List (κ×V)}{k:κ}(e : ¬ p.1=k):AS (p::r) k=AS r k:=by simp[AS,Uq,e]
def jq(k:κ):∀Z3:List (κ×V),(Z3.any λa=>decide (a.1=k))=(AS Z3 k).isSome
 |[]=>rfl
 |p::r=>by
  rw[VJ];by_cases e:p.1=k
  .simp only [bG e,Qc e,Bool.true_or,Option.isSome_some]
  .rw [bI e,Sa e,QS];exact jq k r
def eA(Z3:List (κ×V))(k:κ)(v:V):(putK Z3 k v).length<=Z3.length+1:=by
 unfold putK;split
 .rw [Yk];omega
 .rw [W9,Wa,TM];omega
def RelO.UP{o:Option V}{u:Option Value}(r:RelO o u):o.isSome=u.isSome:=by
 cases o with
 |none=>cases u with
  |none=>rfl
  |some _=>exact(show False from r).elim
 |some _=>cases u with
  |none=>exact(show False from r).elim
  |some _=>rfl
def KV.val{Z3:List (κ×V)}{vs:List (κ×Value)}(r:KV Z3 vs)(k:κ):RelO (AS Z3 k) (valueAt vs k):=by
 unfold KV at r
 induction r with
 |nil=>exact True.intro
 |@cons p q ps Jz h t ih=>
  let⟨h1,h2⟩:=h;by_cases e:p.1=k
  .have e':q.1=k:=h1.symm.trans e
   have b:valueAt (q::Jz) k=some q.2:=by simp[valueAt,Uq,e']
   rw[bG e,b];exact h2
  .have e' : ¬ q.1=k:=λz=>e (h1.trans z)
   have b:valueAt (q::Jz) k=valueAt Jz k:=by simp[valueAt,Uq,e']
   rw[bI e,b];exact ih
def KV.any{Z3:List (κ×V)}{vs:List (κ×Value)}(r:KV Z3 vs)(k:κ):(Z3.any λa=>decide (a.1=k))=vs.any λa=>decide (a.1=k):=by
 unfold KV at r
 induction r with
 |nil=>rfl
 |cons h t ih=>rw[VJ,VJ,ih,h.1]
def KV.Xc{Z3:List (κ×V)}{vs:List (κ×Value)}(r:KV Z3 vs)(k:κ){u:Value}(b:RelV y u):
  KV (Z3.map λa=>if a.1=k then(a.1,y)else a) (vs.map λa=>if a.1=k then(a.1,u)else a):=by
 unfold KV at r ⊢
 induction r with
 |nil=>exact .nil
 |@cons p q ps Jz h t ih=>
  rw[YG,YG];refine .cons ?_ ih;let⟨h1,h2⟩:=h;by_cases e:p.1=k
  .rw [XW e,XW (h1.symm.trans e)];exact⟨h1,b⟩
  .rw [WV e,WV (λz=>e (h1.trans z))];exact⟨h1,h2⟩
def KV.put{Z3:List (κ×V)}{vs:List (κ×Value)}(r:KV Z3 vs)(k:κ){u:Value}(a:RelV y u):KV (putK Z3 k y) (stored vs k u):=by
 unfold putK stored;rw[r.any k];by_cases e:(vs.any λb=>decide (b.1=k))=true
 .rw [XW e,XW e];exact r.Xc k a
 .rw [WV e,WV e];exact Paired.snoc r ⟨rfl,a⟩
def KV.length{Z3:List (κ×V)}{vs:List (κ×Value)}(r:KV Z3 vs):Z3.length=vs.length:=RN r
end
def cQ{k:Key}{u:Value}(r:RelV (IV k) u):(AO P w).is k u=true:=by
 cases k with
 |inl i=>let⟨t,e⟩:=(show∃t,u=Value.int i t from r);subst e;exact sA P w i t
 |inr x=>let⟨t,e⟩:=(show∃t,u=Value.str x t from r);subst e;exact sI P w x t
def iV{P:Program}{w:World}:∀{ks:List Key} {M:List Value},ZM (ks.map IV) M->ItemsAre (AO P w) ks M
 |[],_,r=>by rw[Rj]at r;cases r;exact .nil
 |k::ks,_,r=>by
  rw[YG]at r;cases r with
  |cons h t=>exact .cons (cQ h) (iV t)
abbrev KT(H:Hp):List (List Key×V)->List (List Key×Addr×Value)->Prop:=Paired λp q=>p.1=q.1/\H q.2.1=some (.ZZ (p.1.map IV))/\RelV p.2 q.2.2
def KT.val{Z3:List (List Key×V)}{xs:List (List Key×Addr×Value)}(r:KT H Z3 xs)(k:List Key):RelO (AS Z3 k) ((atKey xs k).map (·.2)):=by
 induction r with
 |nil=>exact True.intro
 |@cons p q ps Jz h t ih=>
  let⟨h1,_,h2⟩:=h;by_cases e:p.1=k
  .have e':q.1=k:=h1.symm.trans e
   have b:atKey (q::Jz) k=some q.2:=by simp[atKey,Uq,e']
   rw[bG e,b];exact h2
  .have e' : ¬ q.1=k:=λz=>e (h1.trans z)
   have b:atKey (q::Jz) k=atKey Jz k:=by simp[atKey,Uq,e']
   rw[bI e,b];exact ih
def KT.Xc{Z3:List (List Key×V)}{xs:List (List Key×Addr×Value)}(r:KT H Z3 xs)(k:List Key){u:Value}(b:RelV y u):
  KT H (Z3.map λa=>if a.1=k then(a.1,y)else a) (xs.map (putAt k u)):=by
 induction r with
 |nil=>exact .nil
 |@cons p q ps Jz h t ih=>
  rw[YG,YG];refine .cons ?_ ih;let⟨h1,h2,c⟩:=h;unfold putAt;by_cases e:p.1=k
  .rw [XW e,XW (h1.symm.trans e)];exact⟨h1,h2,b⟩
  .rw [WV e,WV (λz=>e (h1.trans z))];exact⟨h1,h2,c⟩
def KT.put{Z3:List (List Key×V)}{xs:List (List Key×Addr×Value)}(r:KT H Z3 xs)(k:List Key){b:Addr}{u:Value}(d:H b=some (.ZZ (k.map IV)))(a:RelV y u):
  KT H (putK Z3 k y) (storedH xs k b u):=by
 have e:(Z3.any λc=>decide (c.1=k))=(atKey xs k).isSome:=by
  rw[jq,(r.val k).UP,Qj]
 unfold putK storedH;rw[e];by_cases q:(atKey xs k).isSome=true
 .rw [XW q,XW q];exact r.Xc k a
 .rw [WV q,WV q];exact Paired.snoc r ⟨rfl,d,a⟩
def KT.keeps{Z3:List (List Key×V)}{xs:List (List Key×Addr×Value)}(r:KT H Z3 xs)(a:∀b ys,H b=some (.ZZ ys)->H' b=some (.ZZ ys)):KT H' Z3 xs:=
 Paired.T7 r λ_ _ z=>⟨z.1,a _ _ z.2.1,z.2.2⟩
section
def pM{u:HO}(ok:HOk P w H h)(e:Rd H a u):ObjOk P w H h a u:=e.ok ok
def cR{Z3:List (Key×V)}(b:HOk P w H h)(e:Rd H a (.dK Z3)):Z3.length<=sizeLine/\(a==sysModules)=false /\∃vs,KV Z3 vs/\h.DictOf (AO P w) a vs:=
 show ObjOk P w H h a (.dK Z3)from pM b e
def abR{Z3:List (Key×V)}(b:HOk P w H h)(e:H a=some (.dK Z3)):Z3.length<=sizeLine/\(a==sysModules)=false /\∃vs,KV Z3 vs/\h.DictOf (AO P w) a vs:=cR b (.inl e)
def bU{ks:List Key}(b:HOk P w H h)(e:H a=some (.ZZ (ks.map IV))):(tupleKind (AO P w)).is h ks a:=by
 let⟨_,ZY,r,o,h1,h2,n,c⟩:=(show ObjOk P w H h a (.ZZ (ks.map IV))from b a _ e);exact⟨o,ZY.toArray,n,h1,h2,c,by simpa using iV r⟩
def cS{Z3:List (List Key×V)}(c:HOk P w H h)(e:Rd H a (.dT Z3)):Z3.length<=sizeLine/\(a==sysModules)=false /\
  ∃xs,KT H Z3 xs/\h.DictOfH (tupleKind (AO P w)) a xs:=by
 let⟨z,y,xs,r,o,es,j,h1,h2,i,g,f⟩:=(show ObjOk P w H h a (.dT Z3)from pM c e);refine⟨z,y,xs,r,o,es,j,h1,h2,i,g,λx b=>?_,f⟩;have all:∀{l:List (List Key×V)} {m:List (List Key×Addr×Value)},KT H l m ->∀x∈m,(tupleKind (AO P w)).is h x.1 x.2.1:=by
  intro l m q
  induction q with
  |nil=>intro x b;exact nomatch b
  |@cons p q ps Jz d t ih=>
   intro x b;rcases Xl.mp b with e|b
   .subst e
    exact bU c (by rw[<-d.1];exact d.2.1)
   .exact ih x b
 exact all r x b
def rm{Z3:List (List Key×V)}(b:HOk P w H h)(e:H a=some (.dT Z3)):Z3.length<=sizeLine/\(a==sysModules)=false /\
  ∃xs,KT H Z3 xs/\h.DictOfH (tupleKind (AO P w)) a xs:=cS b (.inl e)
end
def DGet(H:Hp)(a:Addr)(y:V)(r:Option V):Prop:=
 (∃Z3 k,Rd H a (.dK Z3)/\y=IV k/\r=AS Z3 k) \/∃Z3 k b,Rd H a (.dT Z3)/\y=.ref b/\H b=some (.ZZ (k.map IV))/\r=AS Z3 k
def DPut(H:Hp)(a:Addr)(y v:V)(c:Hp):Prop:=
 (∃Z3 k,H a=some (.dK Z3)/\y=IV k/\Z3.length<sizeLine/\c=upd H a (.dK (putK Z3 k v))) \/
 ∃Z3 k b,H a=some (.dT Z3)/\y=.ref b/\H b=some (.ZZ (k.map IV))/\Z3.length<sizeLine/\c=upd H a (.dT (putK Z3 k v))
def DGet.k{H:Hp}{a:Addr}{Z3:List (Key×V)}{k:Key}(e:H a=some (.dK Z3)):DGet H a (IV k) (AS Z3 k):=.inl ⟨Z3,k,.inl e,rfl,rfl⟩
def DPut.k{H:Hp}{a:Addr}{Z3:List (Key×V)}{k:Key}{v:V}(e:H a=some (.dK Z3))(b:Z3.length<sizeLine):DPut H a (IV k) v (upd H a (.dK (putK Z3 k v))):=.inl ⟨Z3,k,e,rfl,b,rfl⟩
def DPut.t{b:Addr}{Z3:List (List Key×V)}{k:List Key}(e:H a=some (.dT Z3))(d:H b=some (.ZZ (k.map IV)))(c:Z3.length<sizeLine):
  DPut H a (.ref b) v (upd H a (.dT (putK Z3 k v))):=.inr ⟨Z3,k,b,e,rfl,d,c,rfl⟩
section
variable{Z:St}{u r:Value}{o:Option V}{E:Value->Shared->Prop}
def Z4.WH(I:Z4 X Y Z H s):sysModules<s.heap.objs.size:=by
 have h:mainGlobals<s.heap.objs.size:=(I.mod.glob.keeps I.bk).lt;exact QV #[1] h
def tW{Q:Value->Shared->Prop}(q:A.units+1<cLine)(I:Z4 X Y Z H s)(g:DGet H a y (some v))(n:RelV y u)(h:∀d s',Z4 X Y Z H s'->RelV v d->Q d s'):
  wpAny (model X.prog X.w) A (getItem (.ref a) u) Q E s:=by
 rcases g with⟨Z3,k,e,j,l⟩|⟨Z3,k,b,e,j,x,l⟩
 .subst j
  let⟨z,t,vs,c,dd⟩:=cR I.ZO e;let⟨d,f,m⟩:=RelO.some_of (v:=v) (o:=valueAt vs k) (by rw[l];exact c.val k)
  exact wpAny_getItem_of (cQ n) dd.mapOf f (h d _ (I.tok _) m)
 .subst j
  cases(show u=Value.ref b from n);let⟨z,t,xs,c,dd⟩:=cS I.ZO e;let⟨d,f,m⟩:=RelO.some_of (v:=v) (o:=(atKey xs k).map (·.2)) (by rw[l];exact c.val k)
  let⟨p,r,i⟩:=Yn.mp f;refine wpAny_getItem_heap (Rp q) (bU I.ZO x) dd r ?_;rw[i];exact h d _ (I.tok _) m
def acR{Q:Value->Shared->Prop}(j:A.units+1<cLine)(I:Z4 X Y Z H s)(g:DGet H a y o)(i:RelV y u)(h:∀s',Z4 X Y Z H s'->Q (.bool o.isSome) s'):
  wpAny (model X.prog X.w) A (compareOp .In u (.ref a)) Q E s:=by
 rcases g with⟨Z3,k,e,f,l⟩|⟨Z3,k,b,e,f,m,l⟩
 .subst f
  let⟨z,d,vs,c,dd⟩:=cR I.ZO e;refine wpAny_in_of (cQ i) d dd.mapOf ?_;rw[<-(c.val k).UP,<-l];exact h _ (I.tok _)
 .subst f
  cases(show u=Value.ref b from i);let⟨z,d,xs,c,dd⟩:=cS I.ZO e;refine wpAny_in_heap (Rp j) (bU I.ZO m) d dd ?_;have q:=(c.val k).UP;rw[Qj]at q;rw[<-q,<-l];exact h _ (I.tok _)
def xr{Q:Value->Shared->Prop}(j:A.units+1<cLine)(I:Z4 X Y Z H s)(g:DGet H a y o)(i:RelV y u)(h:∀s',Z4 X Y Z H s'->Q (.bool (!o.isSome)) s'):
  wpAny (model X.prog X.w) A (compareOp .NotIn u (.ref a)) Q E s:=by
 rcases g with⟨Z3,k,e,f,l⟩|⟨Z3,k,b,e,f,m,l⟩
 .subst f
  let⟨z,d,vs,c,dd⟩:=cR I.ZO e;refine wpAny_notIn_of (cQ i) d dd.mapOf ?_;rw[<-(c.val k).UP,<-l];exact h _ (I.tok _)
 .subst f
  cases(show u=Value.ref b from i);let⟨z,d,xs,c,dd⟩:=cS I.ZO e;refine wpAny_notIn_heap (Rp j) (bU I.ZO m) d dd ?_;have q:=(c.val k).UP;rw[Qj]at q;rw[<-q,<-l];exact h _ (I.tok _)
def fg{c:HO}(I:Z4 X Y Z H s)(f:Mut (H a))(g:Heap.SameBut a s.heap h')(h:∃q,h'.get? a=some q)(d:ObjOk X.prog X.w (upd H a c) h' a c):
  Z4 X Y Z (upd H a c) {s with heap:=h',toks:=t'}:=
 I.write (x:=a) (e:=a) f (.inl rfl) (λb q i z=>(g.2 b i).trans z) h d
def zL{Z3:List (Key×V)}{vs:List (Key×Value)}(z:Z3.length<=sizeLine)(c:(a==sysModules)=false)(b:KV Z3 vs)(dd:h'.DictOf (AO P w) a vs):
  ObjOk P w H' h' a (.dK Z3):=⟨z,c,vs,b,dd⟩
def t5{Q:Unit->Shared->Prop}(D:A.units+1<cLine)(I:Z4 X Y Z H s)(g:DPut H a y v H')(t:RelV y u)(x:RelV v r)(h:∀s',Z4 X Y Z H' s'->Q Unit.unit s'):
  wpAny (model X.prog X.w) A (setItem (.ref a) u r) Q E s:=by
 rcases g with⟨Z3,k,e,o,l,p⟩|⟨Z3,k,b,e,o,C,l,p⟩
 .subst o p
  let⟨z,n,vs,d,dd⟩:=abR I.ZO e;have j:vs.length<=sizeLine:=by rw[<-d.length];exact z
  have m:(putK Z3 k v).length<=sizeLine:=by have:=eA Z3 k v;omega
  refine wpAny_setItem_pairs (hsz:=j) (cQ t) dd λh' i hs=>h _ ?_;have F:∃q,h'.get? a=some q:=let⟨q,_,_,f,_⟩:=i;⟨q,f⟩
  exact fg I (by rw[e];exact True.intro) hs F (zL m n (d.put k x) i)
 .subst o p
  cases(show u=Value.ref b from t);let⟨z,n,xs,d,dd⟩:=rm I.ZO e;have j:xs.length<=sizeLine:=by rw[<-RN d];exact z
  have m:(putK Z3 k v).length<=sizeLine:=by have:=eA Z3 k v;omega
  refine wpAny_setItem_heap (hsz:=j) (Rp D) (bU I.ZO C) dd λh' i hs=>h _ ?_;let⟨q,es,L,f,h2,K,J,_,G⟩:=i;refine fg I (by rw[e];exact True.intro) hs ⟨q,f⟩ ⟨m,n,_,(d.put k C x).keeps λc ys B=>?_,q,es,L,f,h2,K,J,G⟩
  rw[aa (cO B e (λz=>nomatch z))];exact B
end
end L2
namespace L2
open PySem PySem.Spec PyProof.Rows
def i8(h:Heap)(a:sysModules<h.objs.size):ObjOk P w H (h.push {cls:=.type "dict",data:=.dict #[]}) h.objs.size (.dT []):=
 ⟨Nat.zero_le _,Si.mpr (Ne.symm (Ii a)),[],.nil,_,#[],0,Ij _ rfl,⟨rfl,rfl,rfl⟩,rfl,rfl,Qd⟩
def G7:TE:=λ_ H Q=>∀p,H p=none->Q (.ref p) (upd H p (.dT []))
section
def uX:PE X (.Dict [] [] pos) G7:=λY s Z H Q I h=>
 wpAny_Dict_empty ⟨.ref s.heap.objs.size,_,I.laid (a:=s.heap.objs.size) (o:=.dT []) (t':=s.toks) (λ_ _ q=>H9 _ q) (Ie _) (i8 s.heap I.WH),rfl,h _ (I.ZO.fresh (Ie _))⟩
end
structure M1(X:Cx)(o:Expr)(m:Str)(apos:Pos)(e:Expr)(Zw:Pos):Prop where
 base:attributeBase o m X.env (eval o X.env)=eval o X.env
 few:((backTo Zw (starEach [e] X.env)).all (λx => !x.1) && (backToKw Zw (keywordEach [] X.env)).all (λx=>x.1.isSome)
  && decide (([e]:List Expr).length+([]:List Keyword).length+(if([]:List Keyword).isEmpty then 0 else 1)<30))=true
 line:(apos.endLine==Zw.line)=true
 trees:backTo Zw (starEach [e] X.env)=[(false,eval e X.env)]
structure M2(X:Cx)(o:Expr)(m:Str)(apos:Pos)(e f:Expr)(Zw:Pos):Prop where
 base:attributeBase o m X.env (eval o X.env)=eval o X.env
 few:((backTo Zw (starEach [e,f] X.env)).all (λx => !x.1) && (backToKw Zw (keywordEach [] X.env)).all (λx=>x.1.isSome)
  && decide (([e,f]:List Expr).length+([]:List Keyword).length+(if([]:List Keyword).isEmpty then 0 else 1)<30))=true
 line:(apos.endLine==Zw.line)=true
 trees:backTo Zw (starEach [e,f] X.env)=[(false,eval e X.env),(false,eval f X.env)]
end L2
namespace PI
noncomputable section
open PySem
open PySem PyProof.Rows
def FZ:List Int->List Int->Bool
 |[],[]=>false
 |[],_::_=>true
 |_::_,[]=>false
 |a::r,b::q=>if a=b then FZ r q else decide (a<b)
abbrev KyB:=List (List Int×Addr)
open PySem PyProof.Rows PySem.W
open PySem
noncomputable section
set_option genInjectivity false in
inductive Z6 where
 |S (xs:List U)|ZJ (Z3:List (List Int×U))|YM (Z3:List (List Int×U))|dst (Z3:List (Str×U))|ins (c:Nat) (fs:List (Nat×U))
abbrev G:=List Z6
abbrev Su:=List (Option U)
inductive Out(α:Type) where
 |ok (a:α) (g:G)|exc (c:Nat) (fs:List U) (g:G)|Z1
noncomputable def Out.bind{d b:Type}(o:Out d)(k:d->G->Out b):Out b:=match o with
 |.ok a g=>k a g
 |.exc c fs g=>.exc c fs g
 |.Z1=>.Z1
noncomputable def Out.Y9{b:Type}(o:Out b):Out b:=match o with
 |.ok a g=>.ok a g
 |_=>.Z1
noncomputable def Out.bindB{c b:Type}(o:Out c)(k:c->G->Out b):Out b:=match o with
 |.ok a g=>k a g
 |_=>.Z1
set_option genInjectivity false in
inductive Fl where|nx (Z:Su)|rt (u:U)|bk (Z:Su)|ct (Z:Su)
set_option genInjectivity false in
inductive Iter where|S (id:Nat)|Y0 (id:Nat)|zip (id id':Nat)|seq (xs:List U)|YY (lo:Int) (n:Nat)
def Ah(x y:U):Option Bool:=match x with
 |.ZR=>match y with
  |.ZR=>some true
  |.bl _=>some false
  |.int _=>some false
  |.str _=>some false
  |_=>none
 |.bl a=>match y with
  |.ZR=>some false
  |.bl b=>some (a==b)
  |.int b=>some ((if a then 1 else 0)==b)
  |.str _=>some false
  |_=>none
 |.int a=>match y with
  |.ZR=>some false
  |.bl b=>some (a==(if b then 1 else 0))
  |.int b=>some (a==b)
  |.str _=>some false
  |_=>none
 |.str a=>match y with
  |.ZR=>some false
  |.bl _=>some false
  |.int _=>some false
  |.str b=>some (a==b)
  |_=>none
 |_=>none
def Ak:List U->List U->Option Bool
 |[],[]=>some true
 |x::xs,y::ys=>match Ah x y with
  |none=>none
  |some b=>match Ak xs ys with
   |none=>none
   |some c=>some (b&&c)
 |_,_=>none
def Jt:U->U->Option Bool
 |.ZZ xs,.ZZ ys=>Ak xs ys
 |x,y=>Ah x y
def Cz:U->U->Bool
 |.int _,.int _=>true
 |.bl _,.bl _=>true
 |.str _,.str _=>true
 |.ZR,.ZR=>true
 |_,_=>false
def BK:Int:=18446744073709551616
def Al:Int:=115792089237316195423570985008687907853269984665640564039457584007913129639936
def Ju(a:Op)(i j:Int):Option U:=match a with
 |.add=>some (.int (i+j))
 |.sub=>some (.int (i-j))
 |.mul=>if(decide (-BK<i)&&decide (i<BK))||(decide (-BK<j)&&decide (j<BK))||(decide (-Al<i)&&decide (i<Al)&&decide (-Al<j)&&decide (j<Al))then some (.int (i*j))else none
 |.fdiv=>if 0<j then(if j<Al then some (.int (i / j))else none)
   else if j=0 then none else if -Al<j then some (.int (i.fdiv j))else none
 |.mod=>if 0<j then some (.int (i % j))else if j=0 then none else some (.int (i.fmod j))
 |.pow=>if 0<=j/\j<=1000/\i.natAbs<1000000 then some (.int (i ^ j.toNat))else none
def Jv(a:Op)(x y:U):Option U:=match x with
 |.int i=>match y with
  |.int j=>Ju a i j
  |_=>none
 |_=>none
def GP:Op->U->U->Option U
 |.add,.int a,.int b=>some (.int (a+b))
 |.sub,.int a,.int b=>some (.int (a-b))
 |_,_,_=>none
def Jw(x:U):List U->Option Bool
 |[]=>some false
 |y::ys=>match Jt y x with
  |none=>none
  |some b=>match Jw x ys with
   |none=>none
   |some c=>some (b||c)
def items(u:U)(g:G):Option (List U):=match u with
 |.ZZ xs=>some xs
 |.Zv xs=>some xs
 |.xn _ xs=>some xs
 |.ref n=>match g[n]? with
  |some (.S xs)=>some xs
  |_=>none
 |_=>none
def Ax:U->Bool
 |.ZR=>true
 |_=>false
def intsOf:List U->Option (List Int)
 |[]=>some []
 |.int i::r=>(intsOf r).map (i :: ·)
 |_::_=>none
def keyOf(u:U):Option (List Int):=match u with
 |.ZZ M=>intsOf M
 |_=>none
def Aq(Z3:List (List Int×U))(k:List Int):Option U:=(Z3.find? λa=>decide (a.1=k)).map (·.2)
def dput(Z3:List (List Int×U))(k:List Int)(v:U):List (List Int×U):=
 if(Z3.any λa=>decide (a.1=k))=true then Z3.map (λa=>if a.1=k then(a.1,v)else a)else Z3++[(k,v)]
def B5(Z3:List (List Int×U))(x:U):Option (List (List Int×U)):=match x with
 |.ZZ [k,u]=>(keyOf k).map λks=>dput Z3 ks u
 |_=>none
def dfold:List U->List (List Int×U)->Option (List (List Int×U))
 |[],Z3=>some Z3
 |x::r,Z3=>(B5 Z3 x).bind λk=>dfold r k
def BU(Z3:List (Str×U))(k:Str):Option U:=(Z3.find? λa=>decide (a.1=k)).map (·.2)
def Ef(Z3:List (Str×U))(k:Str)(v:U):List (Str×U):=
 if(Z3.any λa=>decide (a.1=k))=true then Z3.map (λa=>if a.1=k then(a.1,v)else a)else Z3++[(k,v)]
def Jx(y:U)(g:G):Option (List (Str×U)):=match y with
 |.ref n=>match g[n]? with
  |some (.dst Z3)=>some Z3
  |_=>none
 |_=>none
def Jy(y:U)(g:G):Option (List (List Int×U)):=match y with
 |.ref n=>match g[n]? with
  |some (.ZJ Z3)=>some Z3
  |some (.YM Z3)=>some Z3
  |_=>none
 |_=>none
def AJ(x y:U)(g:G):Option (Option U):=match Jy y g with
 |some Z3=>(keyOf x).map (Aq Z3)
 |none=>none
def AM(x y:U)(g:G):Option (List U×List U):=match x with
 |.ref n=>match y with
  |.ref m=>match g[n]? with
   |some (.S xs)=>match g[m]? with
    |some (.S ys)=>some (xs,ys)
    |_=>none
   |_=>none
  |_=>none
 |_=>none
def Jz(q:U->U->Option Bool):List U->List U->Option Bool
 |[],[]=>some true
 |x::xs,y::ys=>match q x y with
  |none=>none
  |some b=>match Jz q xs ys with
   |none=>none
   |some c=>some (b&&c)
 |_,_=>none
def F7:U->U->Option Bool
 |.ZZ xs,.ZZ ys=>Jz Jt xs ys
 |x,y=>Ah x y
def JA(xs a:List U):Option Bool:=if xs.length=a.length then Jz F7 xs a else some false
def JB(g:G)(x y:U):Option Bool:=(AM x y g).bind λp=>if p.1.length=p.2.length then Jz Ah p.1 p.2 else some false
def JC(p:List U×List U)(g:G):Option Bool:=match JA p.1 p.2 with
 |some b=>some b
 |none=>if p.1.length=p.2.length then Jz (JB g) p.1 p.2 else some false
def neT(x y:U):Option Bool:=match x with
 |.ZZ xs=>match y with
  |.ZZ ys=>(Jz Jt xs ys).map (!·)
  |_=>none
 |_=>none
def JD(k:List Int):Int:=reduceHash (Builtin.Tuple.tupleHashOf (k.map hashInt))
def JE(a:Cp)(x y:U)(g:G):Option Bool:=match a with
 |.eq=>match AM x y g with
  |some p=>JC p g
  |none=>Jt x y
 |.ne=>if Cz x y then(Ah x y).map (!·)else neT x y
 |.lt=>match x,y with|.int i,.int j=>some (decide (i<j))|_,_=>none
 |.le=>match x,y with|.int i,.int j=>some (decide (i<=j))|_,_=>none
 |.gt=>match x,y with|.int i,.int j=>some (decide (j<i))|_,_=>none
 |.ge=>match x,y with|.int i,.int j=>some (decide (j<=i))|_,_=>none
 |.WN=>if Ax y then some (Ax x)else none
 |.U7=>if Ax y then some (!Ax x)else none
 |.W2=>match items y g with|some ys=>Jw x ys|none=>(AJ x y g).map Option.isSome
 |.YK=>match items y g with|some ys=>(Jw x ys).map (!·)|none=>(AJ x y g).map λo=>!o.isSome
def JF(u:U)(g:G):Option Bool:=match u with
 |.ZR=>some false
 |.bl b=>some b
 |.int i=>some (i != 0)
 |.ZZ xs=>some (!xs.isEmpty)
 |.Zv xs=>some (!xs.isEmpty)
 |.ref n=>match g[n]? with
  |some (.S xs)=>some (!xs.isEmpty)
  |_=>none
 |_=>none
def JG(xs:List U)(i:Int):Option U:=L2.atI xs i
noncomputable def lift{b:Type}(o:Option b)(g:G):Out b:=match o with
 |some a=>.ok a g
 |none=>.Z1
noncomputable def alloc(o:Z6)(g:G):Out U:=.ok (.ref g.length) (g++[o])
def Ac:Nat:=16777000
def Bg(a:Op)(x y:U)(g:G):Out U:=match AM x y g with
 |some p=>match a with
  |.add=>if p.1.length+p.2.length<=Ac then alloc (.S (p.1++p.2)) g else .Z1
  |_=>.Z1
 |none=>lift (Jv a x y) g
def AD(x:U)(g:G):Option (Nat×List (Nat×U)):=match x with
 |.ref n=>match g[n]? with
  |some (.ins c fs)=>some (c,fs)
  |_=>none
 |_=>none
def Cd(j:Nat)(u:U):List (Nat×U)->List (Nat×U)
 |[]=>[(j,u)]
 |(i,x)::r=>if i=j then(i,u)::r else(i,x)::Cd j u r
def BM(j:Nat)(a:List Nat)(p:Nat×List (Nat×U)):Option U:=if a.contains p.1 then p.2.lookup j else none
def Bb(x:U)(j:Nat)(a:List Nat)(u:U)(g:G):Option G:=match x with
 |.ref n=>match g[n]? with
  |some (.ins c fs)=>if a.contains c/\fs.length<1000 then some (g.set n (.ins c (Cd j u fs)))else none
  |_=>none
 |_=>none
def Bw(j:Nat)(tb:List (Nat×Nat×List (Nat ⊕ U)))(p:Nat×List (Nat×U)):Option (Nat×List (Nat ⊕ U)):=match p.2.lookup j with
 |none=>tb.lookup p.1
 |some _=>none
def Cy(t:Ty):Option Bool:=match t with|.U4=>some true|_=>some false
def Au(t:Ty)(u:U)(g:G):Option Bool:=match u with
 |.ZR=>some false
 |.bl _=>match t with|.V_=>some true|.V9=>some true|.own _=>none|_=>some false
 |.int _=>match t with|.V_=>some true|.own _=>none|_=>some false
 |.str _=>match t with|.U6=>some true|.own _=>none|_=>some false
 |.ZZ _=>match t with|.U5=>some true|.own _=>none|_=>some false
 |.ref n=>match g[n]? with
  |some (.S _)=>Cy t
  |some (.ins c _)=>match t with|.own c'=>if c=c' then some true else none|_=>none
  |_=>none
 |_=>none
def A9(xs:List U)(a b:Option Int):List U:=(xs.drop (HT.sIx xs.length 0 a)).take (HT.sIx xs.length xs.length b-HT.sIx xs.length 0 a)
def best(m:Bool)(a:Int)(r:List Int):Int:=r.foldl (λx y=>if m then(if y<x then y else x)else(if y > x then y else x)) a
def insI(a:Int):List Int->List Int
 |[]=>[a]
 |b::r=>if a<=b then a::b::r else b::insI a r
def sortI:List Int->List Int
 |[]=>[]
 |a::r=>insI a (sortI r)
def C2(M:List U)(g:G):Out U:=match M with
 |[u]=>match items u g with
  |some xs=>.ok (.int xs.length) g
  |none=>.Z1
 |_=>.Z1
def D1(M:List U)(g:G):Out U:=match M with
 |[u]=>match u with
  |.int i=>.ok (.int (if i<0 then -i else i)) g
  |_=>.Z1
 |_=>.Z1
def tupI(k:List Int):U:=.ZZ (k.map .int)
def Cr(M:List U)(g:G):Out U:=match M with
 |[u]=>match items u g with
  |some xs=>alloc (.S xs) g
  |none=>.Z1
 |_=>.Z1
def DL(M:List U)(g:G):Option (List Int):=match M with
 |[.ref n]=>match g[n]? with
  |some (.S xs)=>intsOf xs
  |_=>none
 |_=>none
def F5(m:Bool)(M:List U)(g:G):Out U:=match intsOf M with
 |some ns=>match ns with
  |[a,b]=>.ok (.int (best m a [b])) g
  |[a,b,c]=>.ok (.int (best m a [b,c])) g
  |_=>.Z1
 |none=>match DL M g with
  |some ns=>match ns with
   |a::r=>.ok (.int (best m a r)) g
   |[]=>.Z1
  |none=>.Z1
def Hk(M:List U)(g:G):Out U:=match DL M g with
 |some ns=>.ok (.int ns.sum) g
 |none=>.Z1
def HF(M:List U)(g:G):Out U:=match M with
 |[u]=>match u with
  |.ZZ xs=>.ok (.ZZ xs) g
  |.xn c xs=>.ok (.xn c xs) g
  |.ref n=>match g[n]? with
   |some (.S xs)=>.ok (.ZZ xs) g
   |_=>.Z1
  |_=>.Z1
 |_=>.Z1
def Fy(g:G):List U->Option (List U)
 |[]=>some []
 |.ref n::r=>match g[n]? with
  |some (.S xs)=>(Fy g r).map (xs ++ ·)
  |_=>none
 |_::_=>none
def Hm(M:List U)(g:G):Out U:=match M with
 |[.ref n,.ref m]=>match g[n]? with
  |some (.S (x::xs))=>match g[m]? with
   |some (.S [])=>match Fy g (x::xs)with
    |some zs=>if zs.length<=Ac then alloc (.S zs) g else .Z1
    |none=>.Z1
   |_=>.Z1
  |_=>.Z1
 |_=>.Z1
def FC:List U->Option (List (List Int))
 |[]=>some []
 |u::r=>match keyOf u with
  |none=>none
  |some k=>match FC r with
   |none=>none
   |some ks=>some (k::ks)
def Ga(a:List Int):List (List Int)->List (List Int)
 |[]=>[a]
 |b::r=>if a=b then b::r else if FZ a b=true then a::b::r else b::Ga a r
def JH:List (List Int)->List (List Int)
 |[]=>[]
 |a::r=>Ga a (JH r)
def JI(ks:List (List Int)):Prop:=ks.length<=300/\(∀k∈ks,k≠[]) /\∀a∈ks,∀b∈ks,JD a=JD b->a=b
def HY(M:List U)(g:G):Out U:=match FC M with
 |some ks=>open Classical in if JI ks then alloc (.S ((JH ks).map tupI)) g else .Z1
 |none=>.Z1
def He(M:List U)(g:G):Out U:=match M with
 |[u]=>match u with
  |.ref n=>match g[n]? with
   |some (.S xs)=>HY xs g
   |_=>.Z1
  |_=>.Z1
 |_=>.Z1
def Hw(M:List U)(g:G):Out U:=match DL M g with
 |some ns=>if ns.length<64 then alloc (.S ((sortI ns).map U.int)) g else .Z1
 |none=>.Z1
def Hj(M:List U)(g:G):Out U:=match M with
 |[u]=>match Jy u g with
  |some Z3=>open Classical in if Z3≠[] /\∀a∈Z3.map (·.1),∀b∈Z3.map (·.1),JD a=JD b->a=b then alloc (.ZJ Z3) g else .Z1
  |none=>.Z1
 |_=>.Z1
def F9(u:U)(g:G):Option PySem.PyData:=
 none
def HA(M:List U)(g:G):Out U:=match M with
 |[u]=>match F9 u g with
  |some d=>open Classical in if d.showable=true/\d.shown.length<=PySem.sizeLine then .ok (.str d.shown) g else .Z1
  |none=>.Z1
 |_=>.Z1
def HC(M:List U)(g:G):Out U:=match M with
 |[u]=>match u with
  |.bl b=>.ok (.int (if b then 1 else 0)) g
  |_=>.Z1
 |_=>.Z1
def JJ(b:Bi)(M:List U)(g:G):Out U:=match b with
 |.len=>C2 M g
 |.abs=>D1 M g
 |.list=>Cr M g
 |.mn=>F5 true M g
 |.mx=>F5 false M g
 |.srt=>Hw M g
 |.sum=>Hk M g
 |.tupl=>HF M g
 |.cat=>Hm M g
 |.sset=>He M g
 |.dct=>Hj M g
 |.rpr=>HA M g
 |.int=>HC M g
def JK(x:U)(g:G):Option Nat:=match x with
 |.ref n=>match g[n]? with
  |some (.S _)=>some n
  |_=>none
 |_=>none
def AY(n:Nat)(y:U)(g:G):Out U:=match g[n]? with
 |some (.S xs)=>if xs.length<Ac then .ok .ZR (g.set n (.S (xs++[y])))else .Z1
 |_=>.Z1
def BB(n:Nat)(y:U)(g:G):Out U:=match JK y g with
 |some m=>match g[n]?,g[m]? with
  |some (.S xs),some (.S ys)=>if xs.length+ys.length<Ac then .ok .ZR (g.set n (.S (xs++ys)))else .Z1
  |_,_=>.Z1
 |none=>.Z1
def FL(c:Bool)(n:Nat)(g:G):Out U:=match g[n]? with
 |some (.S xs)=>.ok .ZR (g.set n (.S (match c with|true=>[]|false=>xs.reverse)))
 |_=>.Z1
def A5(n:Nat)(g:G):Out U:=match g[n]? with
 |some (.S xs)=>match xs[xs.length-1]? with
  |some y=>.ok y (g.set n (.S xs.dropLast))
  |none=>.Z1
 |_=>.Z1
def BJ(n:Nat)(y:U)(g:G):Out U:=match y with
 |.int i=>match g[n]? with
  |some (.S xs)=>if 0<=i/\i<9223372036854775808 then match xs[i.toNat]? with
   |some u=>.ok u (g.set n (.S (xs.eraseIdx i.toNat)))
   |none=>.Z1
   else .Z1
  |_=>.Z1
 |_=>.Z1
def JL(f:E->Su->G->Out U):List E->Su->G->Out (List U)
 |[],_,g=>.ok [] g
 |e::es,Z,g=>(f e Z g).bind λu g=>(JL f es Z g).bind λM g=>.ok (u::M) g
def JM(f:E->Su->G->Out U):Option E->Su->G->Out (Option Int)
 |none,_,g=>.ok none g
 |some e,Z,g=>(f e Z g).bind λu g=>match u with
  |.int i=>.ok (some i) g
  |_=>.Z1
def next(it:Iter)(i:Nat)(g:G):Option (Option U):=match it with
 |.S id=>match g[id]? with
  |some (.S xs)=>some xs[i]?
  |_=>none
 |.Y0 id=>match g[id]? with
  |some (.S xs)=>some ((xs[i]?).map λu=>.ZZ [.int i,u])
  |_=>none
 |.zip id a=>match g[id]? with
  |some (.S xs)=>match g[a]? with
   |some (.S ys)=>some ((xs[i]?).bind λu=>(ys[i]?).map λw=>.ZZ [u,w])
   |_=>none
  |_=>none
 |.seq xs=>some xs[i]?
 |.YY lo n=>some (if i<n then some (.int (lo+i))else none)
def bindL:List Nat->List U->Su->Option Su
 |[],[],Z=>some Z
 |i::is,u::M,Z=>if i<Z.length then bindL is M (Z.set i (some u))else none
 |_,_,_=>none
def AR(t:Tg)(Z:Su):Bool:=match t with
 |.nm i=>match Z[i]? with|some none=>true|_=>false
 |.tp is=>is.all λi=>match Z[i]? with|some none=>true|_=>false
def Ae(t:Tg)(u:U)(Z:Su):Option Su:=match t with
 |.nm i=>if i<Z.length then some (Z.set i (some u))else none
 |.tp is=>match u with
  |.ZZ M=>bindL is M Z
  |_=>none
def JN(t:Tg)(u:U)(g:G):U:=match t with
 |.nm _=>u
 |.tp _=>match u with
  |.ref n=>match g[n]? with
   |some (.S xs)=>.ZZ xs
   |_=>u
  |_=>u
def pick(M:List U)(p:Nat ⊕ U):U:=match p with
 |.inl i=>M[i]?.getD .ZR
 |.inr u=>u
def perm(M:List U)(a:List (Nat ⊕ U)):List U:=a.map (pick M)
set_option genInjectivity false in
structure Z9 where
 ev:E->Su->G->Out U
 ts:E->Su->G->Out Bool
 ex:List Z5->Su->G->Out Fl
 wh:E->List Z5->Su->G->Out Fl
 fr:Tg->Iter->Nat->List Z5->Su->G->Out Fl
 cm:Iter->Nat->Tg->List E->List (Tg×E×List E)->E->List U->Su->G->Out (List U)
def JO(r:Z9)(e:E)(Z:Su)(g:G):Out Iter:=match e with
 |.YT a=>(r.ev a Z g).bind λu g=>match u with
  |.int j=>if -1000000<j/\j<1000000 then .ok (.YY 0 j.toNat) g else .Z1
  |_=>.Z1
 |.VA a b=>(r.ev a Z g).bind λu g=>(r.ev b Z g).bind λw g=>match u,w with
  |.int i,.int j=>if -1000000<i/\i<1000000 /\ -1000000<j/\j<1000000 then .ok (.YY i (j-i).toNat) g else .Z1
  |_,_=>.Z1
 |.Y0 a=>(r.ev a Z g).bind λu g=>match JK u g with
  |some n=>.ok (.Y0 n) g
  |none=>.Z1
 |.zip a b=>(r.ev a Z g).bind λu g=>(r.ev b Z g).bind λw g=>match JK u g with
  |some n=>match JK w g with
   |some m=>.ok (.zip n m) g
   |none=>.Z1
  |none=>.Z1
 |e=>(r.ev e Z g).bind λu g=>match u with
  |.ZZ xs=>.ok (.seq xs) g
  |.xn _ xs=>.ok (.seq xs) g
  |.ref n=>match g[n]? with
   |some (.S _)=>.ok (.S n) g
   |_=>.Z1
  |_=>.Z1
def EF(c:Nat)(y:U)(g:G):Bool:=match y with
 |.ZR=>true
 |.ref m=>match g[m]? with
  |some (.S _)=>true
  |some (.ins c' _)=>c'==c
  |_=>false
 |_=>false
def BW(u:U):Option Bool:=match u with
 |.bl c=>some c
 |_=>none
def A0(tb:List (Nat×Nat×List (Nat ⊕ U)))(x y:U)(g:G):Option (Nat×List (Nat ⊕ U)):=(AD x g).bind λp=>if EF p.1 y g then tb.lookup p.1 else none
def CM(y:U)(g:G):Option U:=match y with
 |.ref n=>match g[n]? with
  |some (.S xs)=>match xs with
   |[w]=>some w
   |_=>none
  |_=>none
 |_=>none
def Fg(x y:U):Bool:=match x with
 |.ref n=>match y with
  |.ref m=>n==m
  |_=>true
 |_=>true
def AI(C:Nat->List U->G->Out U)(a:Cp)(tb:List (Nat×Nat×List (Nat ⊕ U)))(x y:U)(g:G):Out U:=match a with
 |.eq=>match A0 tb x y g with
  |some p=>(C p.1 (perm [x,y] p.2) g).bind λu g=>lift ((BW u).map .bl) g
  |none=>.Z1
 |.ne=>match A0 tb x y g with
  |some p=>(C p.1 (perm [x,y] p.2) g).bind λu g=>lift ((BW u).map λc=>.bl (!c)) g
  |none=>.Z1
 |.W2=>match CM y g with
  |some w=>if(AD x g).isSome&&!Fg w x then match A0 tb w x g with
   |some p=>(C p.1 (perm [w,x] p.2) g).bind λu g=>match BW u with
    |some true=>.ok (.bl true) g
    |_=>.Z1
   |none=>.Z1
   else .Z1
  |none=>.Z1
 |_=>.Z1
def JP(C:Nat->List U->G->Out U)(r:Z9)(e:E)(Z:Su)(g:G):Out U:=match e with
 |.O i=>match Z[i]? with
  |some (some u)=>.ok u g
  |_=>.Z1
 |.Z0 u=>.ok u g
 |.ZT op a b=>(r.ev a Z g).bind λx g=>(r.ev b Z g).bind λy g=>Bg op x y g
 |.cmp op a b=>(r.ev a Z g).bind λx g=>(r.ev b Z g).bind λy g=>match JE op x y g with
  |some c=>.ok (.bl c) g
  |none=>.Z1
 |.chain op d a b c=>(r.ev a Z g).bind λx g=>(r.ev b Z g).bind λy g=>match JE op x y g with
  |some true=>(r.ev c Z g).bind λz g=>match JE d y z g with
   |some c=>.ok (.bl c) g
   |none=>.Z1
  |some false=>.ok (.bl false) g
  |none=>.Z1
 |.and a b=>(r.ev a Z g).bind λx g=>match x with
  |.bl true=>r.ev b Z g
  |.bl false=>.ok (.bl false) g
  |_=>.Z1
 |.or a b=>(r.ev a Z g).bind λx g=>match x with
  |.bl true=>.ok (.bl true) g
  |.bl false=>r.ev b Z g
  |_=>.Z1
 |.not a=>(r.ev a Z g).bind λx g=>match JF x g with
  |some c=>.ok (.bl (!c)) g
  |none=>.Z1
 |.neg a=>(r.ev a Z g).bind λx g=>match x with
  |.int i=>.ok (.int (-i)) g
  |_=>.Z1
 |.ZZ es=>(JL r.ev es Z g).bind λM g=>if M.length<=Ac then .ok (.ZZ M) g else .Z1
 |.S es=>(JL r.ev es Z g).bind λM g=>if M.length<=Ac then alloc (.S M) g else .Z1
 |.idx a b=>(r.ev a Z g).bind λx g=>(r.ev b Z g).bind λy g=>match y with
  |.int i=>match items x g with
   |some xs=>lift (JG xs i) g
   |none=>.Z1
  |.ZZ _=>lift ((AJ y x g).bind id) g
  |.str k=>lift ((Jx x g).bind λZ3=>BU Z3 k) g
  |_=>.Z1
 |.Xy a lo hi=>(r.ev a Z g).bind λx g=>(JM r.ev lo Z g).bind λl g=>(JM r.ev hi Z g).bind λh g=>match x with
  |.ZZ xs=>if HT.sIx xs.length 0 l=0/\HT.sIx xs.length xs.length h=xs.length then .Z1 else .ok (.ZZ (A9 xs l h)) g
  |.Zv xs=>alloc (.S (A9 xs l h)) g
  |.ref n=>match g[n]? with
   |some (.S xs)=>alloc (.S (A9 xs l h)) g
   |_=>.Z1
  |_=>.Z1
 |.rev a=>(r.ev a Z g).bind λx g=>match x with
  |.ref n=>match g[n]? with
   |some (.S xs)=>alloc (.S xs.reverse) g
   |_=>.Z1
  |_=>.Z1
 |.call f es=>(JL r.ev es Z g).Y9.bind λM g=>C f M g
 |.fld a j cs=>(r.ev a Z g).bind λx g=>lift ((AD x g).bind (BM j cs)) g
 |.make c f es ks pm=>(JL r.ev es Z g).Y9.bind λM g=>(JL r.ev ks Z g).Y9.bind λws g=>if M.length=es.length/\ws.length=ks.length then
   (C f (perm (.ref g.length::M++ws) pm) (g++[.ins c []])).bind λu g'=>if Ax u then .ok (.ref g.length) g' else .Z1 else .Z1
 |.Xx a j tb es ks=>(r.ev a Z g).Y9.bind λx g=>match(AD x g).bind (Bw j tb)with
  |some p=>(JL r.ev es Z g).Y9.bind λM g=>(JL r.ev ks Z g).Y9.bind λws g=>if M.length=es.length/\ws.length=ks.length then C p.1 (perm (x::M++ws) p.2) g else .Z1
  |none=>.Z1
 |.bi b es=>(JL r.ev es Z g).bind λM g=>JJ b M g
 |.Y1 a t=>(r.ev a Z g).bind λx g=>match Au t x g with
  |some c=>.ok (.bl c) g
  |none=>.Z1
 |.V8 o v=>(r.ev o Z g).bind λx g=>match JK x g with
  |some n=>(r.ev v Z g).bind λy g=>BJ n y g
  |none=>.Z1
 |.app o v=>(r.ev o Z g).bind λx g=>match JK x g with
  |some n=>(r.ev v Z g).bind λy g=>AY n y g
  |none=>.Z1
 |.ext o v=>(r.ev o Z g).bind λx g=>match JK x g with
  |some n=>(r.ev v Z g).bind λy g=>BB n y g
  |none=>.Z1
 |.pop o=>(r.ev o Z g).bind λx g=>match JK x g with
  |some n=>A5 n g
  |none=>.Z1
 |.YT _=>.Z1
 |.VA _ _=>.Z1
 |.Y0 _=>.Z1
 |.VB op tb a b=>(r.ev a Z g).bind λx g=>(r.ev b Z g).bind λy g=>AI C op tb x y g
 |.zip _ _=>.Z1
 |.WM=>alloc (.ZJ []) g
 |.comp own fr gs elt=>match gs with
  |[]=>.Z1
  |(t,it,cs)::ZV=>(JO r it Z g).bind λi g=>
    (r.cm i 0 t cs ZV elt [] (List.replicate own none++fr.map λj=>(Z[j]?).getD none) g).bindB λM g=>
     if M.length<=Ac then alloc (.S M) g else .Z1
 |.pair k v=>(r.ev k Z g).bind λx g=>(r.ev v Z g).bind λy g=>match keyOf x with
  |some _=>.ok (.ZZ [x,y]) g
  |none=>.Z1
 |.WL own fr gs k v=>match gs with
  |[]=>.Z1
  |(t,it,cs)::ZV=>(JO r it Z g).bind λi g=>
    (r.cm i 0 t cs ZV (.pair k v) [] (List.replicate own none++fr.map λj=>(Z[j]?).getD none) g).bindB λM g=>match dfold M []with
     |some Z3=>alloc (.ZJ Z3) g
     |none=>.Z1
def JQ(r:Z9)(e:E)(Z:Su)(g:G):Out Bool:=match e with
 |.and a b=>(r.ts a Z g).bind λc g=>if c then r.ts b Z g else .ok false g
 |.or a b=>(r.ts a Z g).bind λc g=>if c then .ok true g else r.ts b Z g
 |.not a=>(r.ts a Z g).bind λc g=>.ok (!c) g
 |e=>(r.ev e Z g).bind λx g=>lift (JF x g) g
def EL(n:Nat)(k:Int)(u:U)(Z:Su)(g:G):Out Fl:=match g[n]? with
 |some (.S xs)=>match L2.ixN xs.length k with
  |some j=>.ok (.nx Z) (g.set n (.S (xs.set j u)))
  |none=>.Z1
 |_=>.Z1
def Eb(n:Nat)(M:List U)(u:U)(Z:Su)(g:G):Out Fl:=match g[n]? with
 |some (.ZJ Z3)=>match intsOf M with
  |some k=>if Z3.length<Ac then .ok (.nx Z) (g.set n (.ZJ (dput Z3 k u)))else .Z1
  |none=>.Z1
 |_=>.Z1
def FW(n:Nat)(k:Str)(u:U)(Z:Su)(g:G):Out Fl:=match g[n]? with
 |some (.dst Z3)=>if Z3.length<Ac then .ok (.nx Z) (g.set n (.dst (Ef Z3 k u)))else .Z1
 |_=>.Z1
def subAt(x y u:U)(Z:Su)(g:G):Out Fl:=match x with
 |.ref n=>match y with
  |.int k=>EL n k u Z g
  |.ZZ M=>Eb n M u Z g
  |.str k=>FW n k u Z g
  |_=>.Z1
 |_=>.Z1
def BR(o:Out Fl)(j:Nat)(a:List (Nat×Nat×List (Nat ⊕ U)))(Z:Su):Out Fl:=match o with
 |.ok f g=>match f with
  |.nx ZX=>.ok (.nx ZX) g
  |_=>.Z1
 |.exc c fs g=>match a.lookup c with
  |some p=>if j<Z.length/\p.2.length<=Ac/\(p.1=0\/fs.length=p.1)then .ok (.nx ((List.replicate Z.length none).set j (some (.ZZ (perm fs p.2))))) g else .Z1
  |none=>.Z1
 |.Z1=>.Z1
def JR(r:Z9)(s:Z5)(Z:Su)(g:G):Out Fl:=match s with
 |.ret e=>(r.ev e Z g).bind λu g=>.ok (.rt u) g
 |.set t e=>(r.ev e Z g).bind λu g=>match Ae t (JN t u g) Z with
   |some ZX=>.ok (.nx ZX) g
   |none=>.Z1
 |.par i j a b=>(r.ev a Z g).bind λu g=>(r.ev b Z g).bind λw g=>
    if i<Z.length/\j<Z.length then .ok (.nx ((Z.set i (some u)).set j (some w))) g else .Z1
 |.sub o i e=>(r.ev e Z g).bind λu g=>(r.ev o Z g).bind λx g=>(r.ev i Z g).bind λy g=>subAt x y u Z g
 |.exp e=>(r.ev e Z g).bind λ_ g=>.ok (.nx Z) g
 |.Zs c a b=>(r.ts c Z g).bind λk g=>if k then r.ex a Z g else r.ex b Z g
 |.U3 c b=>r.wh c b Z g
 |.for t it b=>(JO r it Z g).bind λi g=>r.fr t i 0 b Z g
 |.never=>.Z1
 |.fset a j cs e=>(r.ev e Z g).bind λu g=>(r.ev a Z g).bind λx g=>match Bb x j cs u g with
  |some g'=>.ok (.nx Z) g'
  |none=>.Z1
 |.ZE b=>(r.ex b Z g).Y9
 |.Wv c a b=>(r.ts c Z g).Y9.bind λk g=>if k then r.ex a Z g else r.ex b Z g
 |.Wu t it b=>(JO r it Z g).Y9.bind λi g=>r.fr t i 0 b Z g
 |.raise c es=>(JL r.ev es Z g).Y9.bind λM g=>if M.length<=Ac then .exc c M g else .Z1
 |.Vz b j hs=>BR (r.ex b Z g) j hs Z
def JS(r:Z9)(a:List Z5)(Z:Su)(g:G):Out Fl:=match a with
 |[]=>.ok (.nx Z) g
 |s::ZV=>(JR r s Z g).bind λf g=>match f with
  |.nx ZX=>r.ex ZV ZX g
  |f=>.ok f g
def JT(r:Z9)(c:E)(b:List Z5)(Z:Su)(g:G):Out Fl:=
 (r.ts c Z g).bind λk g=>if k then(r.ex b Z g).bind λf g=>match f with
  |.nx ZX=>r.wh c b ZX g
  |.ct ZX=>r.wh c b ZX g
  |.bk ZX=>.ok (.nx ZX) g
  |.rt u=>.ok (.rt u) g
 else .ok (.nx Z) g
def JU(r:Z9)(t:Tg)(it:Iter)(i:Nat)(b:List Z5)(Z:Su)(g:G):Out Fl:=match next it i g with
 |none=>.Z1
 |some none=>.ok (.nx Z) g
 |some (some u)=>match Ae t u Z with
  |none=>.Z1
  |some a=>(r.ex b a g).bind λf g=>match f with
   |.nx ZX=>r.fr t it (i+1) b ZX g
   |.ct ZX=>r.fr t it (i+1) b ZX g
   |.bk ZX=>.ok (.nx ZX) g
   |.rt u=>.ok (.rt u) g
def Av(f:E->Su->G->Out Bool):List E->Su->G->Out Bool
 |[],_,g=>.ok true g
 |c::cs,Z,g=>(f c Z g).bind λk g=>if k then Av f cs Z g else .ok false g
def JV(r:Z9)(it:Iter)(i:Nat)(t:Tg)(c:List E)(d:List (Tg×E×List E))(a:E)(b:List U)(Z:Su)(g:G):Out (List U):=match next it i g with
 |none=>.Z1
 |some none=>.ok b g
 |some (some u)=>if AR t Z then match Ae t u Z with
  |none=>.Z1
  |some e=>(Av r.ts c e g).bindB λk g=>if k then
    match d with
    |[]=>(r.ev a e g).bindB λv g=>if b.length<Ac then r.cm it (i+1) t c d a (b++[v]) Z g else .Z1
    |(f,Ym,l)::m=>(JO r Ym e g).bindB λj g=>(r.cm j 0 f l m a b e g).bindB λh g=>r.cm it (i+1) t c d a h Z g
   else r.cm it (i+1) t c d a b Z g
  else .Z1
def JW(C:Nat->List U->G->Out U):Nat->Z9
 |0=>⟨λ_ _ _=>.Z1,λ_ _ _=>.Z1,λ_ _ _=>.Z1,λ_ _ _ _=>.Z1,λ_ _ _ _ _ _=>.Z1,λ_ _ _ _ _ _ _ _ _=>.Z1⟩
 |n+1=>let r:=JW C n
  ⟨JP C r,JQ r,JS r,JT r,JU r,JV r⟩
def Bp(fu:Nat)(C:Nat->List U->G->Out U)(F:Fn)(M:List U)(g:G):Out U:=
 if M.length=F.np then
  ((JW C fu).ex F.body (M.map some++List.replicate (F.ns-M.length) none) g).bind λf g=>match f with
   |.rt u=>.ok u g
   |.nx _=>.ok .ZR g
   |_=>.Z1
 else .Z1
def Aa(L:List Fn)(fu:Nat):Nat->Nat->List U->G->Out U
 |0=>λ_ _ _=>.Z1
 |d+1=>λf M g=>match L[f]? with
  |some F=>Bp fu (Aa L fu d) F M g
  |none=>.Z1
end
end
end PI
variable{g:PI.G}{it:PI.Iter}{Q:PI.U->PI.G->Prop}{r:PI.Z9}{C:Nat->List PI.U->PI.G->PI.Out PI.U}{B:PI.Fl->Prop}
namespace L2
open PySem PySem.Spec PyProof.Rows
def rIxD:R2:=λx y H Q=>∃a v,x=.ref a/\DGet H a y (some v)/\Q v H
def yV{Z:St}{o:Option V}(I:Z4 X Y Z H s)(g:DGet H a y o):s.TypeIs (.ref a) "dict":=by
 rcases g with⟨Z3,k,e,q⟩|⟨Z3,k,b,e,q⟩
 .exact let⟨_,_,_,_,dd⟩:=cR I.ZO e;dd.typeIs
 .exact let⟨_,_,_,_,dd⟩:=cS I.ZO e;dd.typeIs
def wo(f:X.A.units+1<cLine):IxR X rIxD:=by
 intro value slice Y s Z H x y v u Q I d c ⟨a,z,e,g,q⟩ hs;subst e;obtain rfl:v=Value.ref a:=d;have hT:=yV I g;have b:wpAny (model X.prog X.w) X.A (subscripted slice false (.ref a) u) (λr s3=>wpAny (model X.prog X.w) X.A (letTemporaryGo value (.ref a) r >>= λ_=>pure r) (EP X Y Z Q) X.xe s3) X.xe s:=by
  rw[hs];exact wpAny_operating (tW f I g c λj s3 i h=>ZB (wpAny_letTemporaryGo (ZP ⟨z,H,i,h,q⟩)))
 unfold subscriptTail;refine ZB ?_;rw[getitemInPython_of_ne hT.not_modules];refine ZB (wpAny_specialOf hT PySem.F.slot_dict_getitem.lookup ?_)
 (first|exact ZP (ZB b)|exact ZB (ZP (ZB b))|exact ZB b)
def Ite(K:Il)(a:Addr):It:=
 ⟨λi H=>∃xs x,SqL K H a xs/\xs[i]?=some x,λi H x H'=>∃p v,H p=none/\x=.ref p/\H'=upd H p (.ZZ [.int i,v]) /\∀xs,SqL K H a xs->xs[i]?=some v,λi H=>∃xs,SqL K H a xs/\xs.length<=i⟩
def Z4.SO{Z:St}{e it:Addr}(I:Z4 X Y Z H s)(g:∀b o,b≠e->b≠it->s.heap.get? b=some o->h'.get? b=some o)(F:Ay X Y H e)(E:Ay X Y H it)
  (A:∃o,h'.get? e=some o) (y:∃o,h'.get? it=some o) (t:ObjOk X.prog X.w (upd H s.heap.objs.size (.ZZ vs)) h' s.heap.objs.size (.ZZ vs)):Z4 X Y Z (upd H s.heap.objs.size (.ZZ vs)) {s with heap:=h',toks:=t'}:=by
 have fresh:H s.heap.objs.size=none:=I.ZO.fresh (Ie _);have a:∀b o,H b=some o->b≠s.heap.objs.size:=λb o q z=>by subst z;rw[fresh]at q;cases q
 have D:∀b o,H b=some o->b≠e/\b≠it:=λb o q=>⟨λz=>(by subst z;rw[F.1]at q;cases q),λz=>(by subst z;rw[E.1]at q;cases q)⟩
 refine I.U1 (ch:=[e,it]) rfl ⟨λb o q _ _ d=>?_,λb o q _ _ d=>?_,λb o q n _=>?_,λb o q _=>?_,λb xs q=>?_,λb o u q=>?_,λb ps q=>?_⟩ (λb u q=>?_) I.bare λb f=>?_
 .exact g b o (λz=>d (by simp[z])) (λz=>d (by simp[z])) q
 .exact ⟨o.slots,g b o (λz=>d (by simp[z])) (λz=>d (by simp[z])) q⟩
 .rw [aa (Ii (Ia q))];exact n
 .by_cases C:b=e
  .subst C;exact A
  .by_cases B:b=it
   .subst B;exact y
   .exact ⟨o,g b o C B q⟩
 .rw [aa (a b _ q)];exact q
 .rw [aa (a b _ q)];exact q
 .exact ⟨#[],by rw[aa (a b _ q),Array.append_empty];exact q⟩
 .by_cases z:b=s.heap.objs.size
  .subst z;rw[upd_same]at q;cases q;exact t
  .rw [aa z]at q
   refine(I.ZO b u q).YO (λc v G r=>?_) (λc r=>by rw[aa (a c _ r)];exact r) λc xs r=>by rw[aa (a c _ r)];exact r
   have k:∃o,H c=some o:=by rcases G with rfl|G<;>exact⟨_,by assumption⟩
   let⟨o,k⟩:=k;exact g c v (D c o k).1 (D c o k).2 r
 .have j:Ay X Y H b:=by
   rcases Xl.mp f with rfl|f
   .exact F
   .rcases Xl.mp f with rfl|f
    .exact E
    .cases f
  exact⟨j.2.2.2.1,j.2.1,j.2.2.2.2.1,j.2.2.2.2.2⟩
def tX{R:Pos}(a e it:Addr)(t:e≠it):
  Turn P w K (.Tuple elts x1 R) (Ite K a) [e,it] e (λi h=>(∃c,IsEnum h e it i c)/\h.IsListIter it a i) where
 mem:=by simp
 obj:=λi h st b g=>by
  let⟨⟨c,f⟩,o,hi,_,d⟩:=st;rcases Xl.mp g with rfl|g
  .exact ⟨_,f,λv z=>by cases z⟩
  .obtain rfl:b=it:=by simpa using g
   exact⟨o,hi,λv z=>by rw[d]at z;cases z⟩
 keep:=λi h h' ⟨⟨c,f⟩,hi⟩ k=>⟨⟨c,k e #[3] _ f⟩,hi.at λo q=>k it #[3] o q⟩
 item:=by
  intro X J C L N i Y s Z H E I r ⟨⟨c,f⟩,hi⟩ ⟨xs,x,A,hx⟩;subst J C L;let⟨ZY,B,p,T⟩:=I.list A;let⟨u,V,S⟩:=B.get hx;have fe:=r e #[3]
  have fi:=r it #[3]
  refine wpAny_pyNext_enum_item f hi p.isList (x:=u) (by simpa using V) t λh' ho VY hT W hk=>⟨_,rfl,?_⟩
  have Q:e<s.heap.objs.size:=Ia f;have F:it<s.heap.objs.size:=let⟨_,q,_⟩:=hi;Ia q
  refine wpAny_letOwnedTupleGo_enum ho λh2 y YF=>?_;have M:Heap.SameBut e h' h2:=YF;have G:h2.get? s.heap.objs.size=some {cls:=.type "tuple",data:=.seq #[.int i s.toks,u]}:=(M.2 _ (S3 Q)).trans hT;have j:h2.IsListIter it a (i+1):=VY.at λo q=>(M.2 it (Ne.symm t)).trans q;have Xa:∀b o,b≠e->b≠it->s.heap.get? b=some o->h2.get? b=some o:=λb o O b2 q=>(M.2 b O).trans (hk b o O b2 q);have I2:Z4 X Y Z (upd H s.heap.objs.size (.ZZ [.int i,x])) {s with heap:=h2,toks:=s.toks+1}:=I.SO Xa fe fi ⟨_,y⟩ (let⟨o,q,_⟩:=j;⟨o,q⟩) ⟨(by show 2<=sizeLine;decide),[.int i s.toks,u],.cons ⟨_,rfl⟩ (.cons S .nil),⟨_,G,rfl,_,rfl⟩⟩
  refine⟨.ref s.heap.objs.size,_,I2,rfl,⟨s.heap.objs.size,x,I.ZO.fresh (Ie _),rfl,rfl,λys U=>by rw[I.Uh U A];exact hx⟩,⟨⟨u,by simpa using y⟩,j⟩,λb g=>?_⟩
  have D:b<s.heap.objs.size:=by
   rcases Xl.mp g with rfl|g
   .exact Q
   .obtain rfl:b=it:=by simpa using g
    exact F
  rw[aa (Ii D)];exact(r b g).1
 done:=by
  intro X J C L N i Y s Z H E I r ⟨⟨c,f⟩,hi⟩ ⟨xs,A,hx⟩;subst J C L;let⟨ZY,B,p,T⟩:=I.list A;let⟨f0,f1,f2,f3,f4,f5⟩:=r it #[3]
  have hl:=B.length;exact wpAny_pyNext_enum_end (I.ok.hd N) f hi p.isList (by simp;omega) λh' eb=>⟨rfl,I.turned (t':=s.toks) (λb o g e=>eb b o g e) f0 f1 f3 f4 f5⟩
 self:=λ_ _ _ _ _ ⟨⟨_,f⟩,_⟩ h=>wpAny_pyIter_enum f h
def Hy(K:Il)(b:TA):TI:=λZ H R=>b Z H λvs H1=>∃a,vs=[.ref a]/\(∃xs,SqL K H1 a xs)/\R (Ite K a) H1
def xp{l:Expr}{g:TA}{o:Pos}(C:Gl X "enumerate")(B:X.mg "enumerate" = none)(D:PA X [l] g)(z:starEach [l] X.env=[(false,eval l X.env)]):PI X (.Tuple elts x1 o) (.Call (.Name "enumerate" p) [l] [] pos) (Hy X.K g):=by
 intro Y s Z H R I h;refine Call_ (bV I C B boot_enumerate (Sj (thn (D pos Y s Z H _ I h) λM c ⟨vs,H1,d,u,w⟩=>?_) z rfl));let⟨a,rfl,⟨xs,A⟩,q⟩:=w;cases u with
 |cons r t=>
  cases t;cases r;let⟨ZY,F,pl,G⟩:=d.list A;refine call_enumerate_list pl.isList λh' j E y hk=>wpAny_pyIter_enum j ?_;refine⟨c.heap.objs.size+1,[c.heap.objs.size+1,c.heap.objs.size],_,_,H1,rfl,d.kept (t':=c.toks) hk,tX a _ _ #[3],⟨⟨_,j⟩,E⟩,λb f=>?_,q⟩
  have k:c.heap.objs.size<=b:=by
   rcases Xl.mp f with rfl|f
   .exact U2 _
   .obtain rfl:b=c.heap.objs.size:=by simpa using f
    exact Ie _
  exact d.UZ k (d.ZO.fresh k)
end L2
namespace L2
open PySem PySem.Spec PyProof.Rows
def Itz(K:Il)(a b:Addr):It:=
 ⟨λi H => ∃ xs ys x y,SqL K H a xs/\SqL K H b ys/\xs[i]? = some x/\ys[i]? = some y,λi H x H' => ∃ p v w,H p=none/\x=.ref p/\H'=upd H p (.ZZ [v,w])/\(∀ xs,SqL K H a xs->xs[i]? = some v) /\ ∀ ys,SqL K H b ys->ys[i]? = some w,
  λi H=>∃xs ys,SqL K H a xs/\SqL K H b ys/\(xs.length<=i\/ys.length<=i)⟩
def Z4.SN{Z:St}{ch:List Addr}(I:Z4 X Y Z H s)(d:∀b o,b ∉ ch->s.heap.get? b=some o->h'.get? b=some o)(a:∀b∈ch,Ay X Y H b):Z4 X Y Z H {s with heap:=h',toks:=t'}:=by
 have g:∀b u,H b=some u->b ∉ ch:=λb u e z=>by rw[(a b z).1]at e;cases e
 refine I.step (g':=s.gens) (d':=s.drawn) (ch:=ch) (λb f=>?_) (λb o _ _ a e _=>d b o a e) (λb o _ _ a e _=>⟨o.slots,d b o a e⟩) (λ_ _ _ _ n=>n)
  (λb o a e=>⟨o,d b o a e⟩) (λ_ _ e=>e) (λ_ _ _ e=>e) (λb ps e=>⟨#[],by rw[e];simp⟩) (λm j=>?_) (λb u e=>?_) I.bare
 .exact ⟨(a b f).2.2.2.1,(a b f).2.1,(a b f).2.2.2.2.1,(a b f).2.2.2.2.2⟩
 .obtain ⟨o,es,k,ho,r⟩:=j
  exact⟨o,es,k,d _ o (λz=>(a _ z).2.1 rfl) ho,r⟩
 .refine (I.ZO b u e).YO (λc v a q=>d c v ?_ q) (λ_ q=>q) λ_ _ q=>q
  rcases a with z|z
  .rw [z];exact g b u e
  .exact g c _ z
def Z4.SM{Z:St}{ch:List Addr}(I:Z4 X Y Z H s)(f:∀b o,b ∉ ch->s.heap.get? b=some o->h'.get? b=some o)(d:∀b∈ch,Ay X Y H b)
  (A:∀b∈ch,∃o,h'.get? b=some o) (k:ObjOk X.prog X.w (upd H s.heap.objs.size (.ZZ vs)) h' s.heap.objs.size (.ZZ vs)):Z4 X Y Z (upd H s.heap.objs.size (.ZZ vs)) {s with heap:=h',toks:=t'}:=by
 have fresh:H s.heap.objs.size=none:=I.ZO.fresh (Ie _);have a:∀b o,H b=some o->b≠s.heap.objs.size:=λb o q z=>by subst z;rw[fresh]at q;cases q
 have y:∀b o,H b=some o->b ∉ ch:=λb o q z=>by rw[(d b z).1]at q;cases q
 refine I.U1 (ch:=ch) rfl ⟨λb o q _ _ j=>f b o j q,λb o q _ _ j=>⟨o.slots,f b o j q⟩,λb o q n _=>?_,λb o q _=>?_,λb xs q=>?_,λb o u q=>?_,λb ps q=>?_⟩ (λb u q=>?_) I.bare λb g=>?_
 .rw [aa (Ii (Ia q))];exact n
 .by_cases z:b∈ch
  .exact A b z
  .exact ⟨o,f b o z q⟩
 .rw [aa (a b _ q)];exact q
 .rw [aa (a b _ q)];exact q
 .exact ⟨#[],by rw[aa (a b _ q),Array.append_empty];exact q⟩
 .by_cases z:b=s.heap.objs.size
  .subst z;rw[upd_same]at q;cases q;exact k
  .rw [aa z]at q
   refine(I.ZO b u q).YO (λc v d r=>?_) (λc r=>by rw[aa (a c _ r)];exact r) λc xs r=>by rw[aa (a c _ r)];exact r
   have t:∃o,H c=some o:=by rcases d with rfl|d<;>exact⟨_,by assumption⟩
   let⟨o,t⟩:=t;exact f c v (y c o t) r
 .exact ⟨(d b g).2.2.2.1,(d b g).2.1,(d b g).2.2.2.2.1,(d b g).2.2.2.2.2⟩
structure ZA(z TI TO i1 i2:Addr):Prop where
 TIz:TI≠z
 TOz:TO≠z
 i1z:i1≠z
 i2z:i2≠z
 TITO:TI≠TO
 TIi1:TI≠i1
 TIi2:TI≠i2
 TOi1:TO≠i1
 TOi2:TO≠i2
 i12:i1≠i2
def a7{c:Addr}{f:Array Value}{o:Obj}{T:String}(p:PlainL h a f)(d:h.get? c=some o)(b:o.cls=.type T)(hT:T ≠ "list"):a≠c:=λe=>by
 subst e;let⟨o',n,g,c',_⟩:=p;rw[d]at g;cases g;rw[b]at c';cases c';exact hT rfl
def jc{b z j d g f:Addr}{u v:Value}{xs A:Array Value}(D:ZA z j d g f)(k:IsZip h z j d .none)(o:IsPair h d u v)(C:h.IsListIter g a i)(B:h.IsListIter f b i)(p:PlainL h a xs)(c:PlainL h b A):ZipApart z j d g f a b:=by
 let⟨KJ,t,y,_⟩:=C;let⟨o2,r,w,_⟩:=B;exact⟨D.TIz,D.TOz,D.i1z,D.i2z,D.TITO,D.TIi1,D.TIi2,D.TOi1,D.TOi2,D.i12,a7 p k rfl #[1],a7 p o rfl #[1],a7 p t y #[1],a7 p r w #[1],a7 c k rfl #[1],a7 c o rfl #[1],a7 c t y #[1],a7 c r w #[1]⟩
def vF{tp:Pos}(a b z C B j g:Addr)(D:ZA z C B j g):
  Turn P w K (.Tuple elts x1 tp) (Itz K a b) [z,C,B,j,g] z (λi h=>IsZip h z C B .none/\IsPair h C (.ref j) (.ref g)/\(∃u v,IsPair h B u v)/\h.IsListIter j a i/\h.IsListIter g b i) where
 mem:=by simp
 obj:=λi h ⟨f,t,⟨u,v,r⟩,⟨KJ,e1,_,d1⟩,⟨o2,e2,_,Kx⟩⟩ c d=>by
  simp![Xl,Uz,SG]at d;rcases d with rfl|rfl|rfl|rfl|rfl
  .exact ⟨_,f,λv z=>by cases z⟩
  .exact ⟨_,t,λv z=>by cases z⟩
  .exact ⟨_,r,λv z=>by cases z⟩
  .exact ⟨_,e1,λv z=>by rw[d1]at z;cases z⟩
  .exact ⟨_,e2,λv z=>by rw[Kx]at z;cases z⟩
 keep:=λi h h' ⟨f,t,⟨u,v,r⟩,h1,h2⟩ k=>⟨k z #[3] _ f,k C #[3] _ t,⟨u,v,k B #[3] _ r⟩,h1.at λo q=>k j #[3] o q,h2.at λo q=>k g #[3] o q⟩
 item:=by
  intro X hP hw hK d i Y s Z H E I U ⟨f,t,⟨u,v,r⟩,h1,h2⟩ ⟨xs,ys,x,y,S,R,hx,T⟩;subst hP hw hK;let⟨ZY,W,p,_⟩:=I.list S;let⟨jts,Y5,G,_⟩:=I.list R;let⟨V,hu1,ru1⟩:=W.get hx;let⟨u2,hu2,ru2⟩:=Y5.get T;have DD:=jc D f r h1 h2 p G;refine wpAny_pyNext_zip_item DD f t r h1 h2 p.isList G.isList (x:=V) (y:=u2) (by simpa using hu1) (by simpa using hu2) λh' hz' hO' Vo UO hT hsz hk=>⟨_,rfl,?_⟩
  have zs:z<s.heap.objs.size:=Ia f;refine wpAny_letOwnedTupleGo_zip hz' λA J WD=>?_;have L:Heap.SameBut z h' A:=WD;have F:∀c o,c≠z->h'.get? c=some o->A.get? c=some o:=λc o d q=>(L.2 c d).trans q;have M:∀c o,c ∉ [z,B,j,g]->s.heap.get? c=some o->A.get? c=some o:=λc o d q=>by
   simp![Xl,Uz,SG,not_or]at d;exact F c o d.1 (hk c o d.1 d.2.1 d.2.2.1 d.2.2.2 q)
  have N:=F _ _ D.TOz hO';have Q:A.IsListIter j a (i+1):=Vo.at λo q=>F _ o D.i1z q;have O:A.IsListIter g b (i+1):=UO.at λo q=>F _ o D.i2z q;have hI3:IsPair A C (.ref j) (.ref g):=M _ _ (by simp[D.TIz,D.TITO,D.TIi1,D.TIi2]) t
  have hT3:IsPair A s.heap.objs.size V u2:=F _ _ (S3 zs) hT;have lt:∀c∈[z,C,B,j,g],c<s.heap.objs.size:=λc d=>by
   simp![Xl,Uz,SG]at d;rcases d with rfl|rfl|rfl|rfl|rfl
   .exact zs
   .exact Ia t
   .exact Ia r
   .exact let⟨_,q,_⟩:=h1;Ia q
   .exact let⟨_,q,_⟩:=h2;Ia q
  have I2:Z4 X Y Z (upd H s.heap.objs.size (.ZZ [x,y])) { s with heap:=A,toks:=s.toks }:=I.SM M (λc d=>U c (by simp! [Xl,Uz,SG] at d ⊢;rcases d with h | h | h | h <;> simp [h])) (λc d=>by
   simp![Xl,Uz,SG]at d;rcases d with rfl|rfl|rfl|rfl
   .exact ⟨_,J⟩
   .exact ⟨_,N⟩
   .exact let⟨o,q,_⟩:=Q;⟨o,q⟩
   .exact let⟨o,q,_⟩:=O;⟨o,q⟩) ⟨(by show 2<=sizeLine;decide),[V,u2],.cons ru1 (.cons ru2 .nil),⟨_,hT3,rfl,_,rfl⟩⟩
  refine⟨.ref s.heap.objs.size,_,I2,rfl,⟨s.heap.objs.size,x,y,I.ZO.fresh (Ie _),rfl,rfl,λzs T=>by rw[I.Uh T S];exact hx,λzs f=>by rw[I.Uh f R];exact T⟩,⟨J,hI3,⟨_,_,N⟩,Q,O⟩,λc d=>?_⟩
  rw[aa (Ii (lt c d))];exact(U c d).1
 done:=by
  intro X hP hw hK d i Y s Z H E I U ⟨f,t,⟨u,v,r⟩,h1,h2⟩ ⟨xs,ys,S,R,hl⟩;subst hP hw hK;let⟨ZY,W,p,_⟩:=I.list S;let⟨jts,Y5,G,_⟩:=I.list R;have DD:=jc D f r h1 h2 p G;have l1:=W.length;have l2:=Y5.length;refine wpAny_pyNext_zip_end (I.ok.hd d) DD f t r h1 h2 p.isList G.isList (hl.imp (λh=>by simp;omega) λh=>by simp;omega) λh' hk=>⟨rfl,I.SN (t':=s.toks) (ch:=[z,C,B,j,g]) (λc o d e=>?_) U⟩
  simp![Xl,Uz,SG,not_or]at d;exact hk c o d.1 d.2.2.1 d.2.2.2.1 d.2.2.2.2 e
 self:=λ_ _ _ _ _ ⟨f,_⟩ h=>wpAny_pyIter_zip f h
def HZ(K:Il)(c:TA):TI:=λZ H R=>c Z H λvs H1=>∃a b,vs=[.ref a,.ref b]/\(∃xs,SqL K H1 a xs)/\(∃ys,SqL K H1 b ys)/\R (Itz K a b) H1
def z9{l m:Expr}{k:TA}{u:Pos}(D:Gl X "zip")(C:X.mg "zip" = none)(E:PA X [l,m] k)(A:∀es,starEach (l::es) X.env=(false,eval l X.env)::starEach es X.env)(F:starEach [m] X.env=[(false,eval m X.env)]):PI X (.Tuple elts x1 u) (.Call (.Name "zip" p) [l,m] [] pos) (HZ X.K k):=by
 intro Y s Z H R I h;refine Call_ (bV I D C boot_zip (Sj (thn (E pos Y s Z H _ I h) λM d ⟨vs,H1,e,v,w⟩=>?_) (A _) (by rw[F];rfl)))
 let⟨a,b,rfl,⟨xs,B⟩,⟨ys,G⟩,q⟩:=w;cases v with
 |cons r f=>
  cases f with
  |cons r' f=>
   cases f;cases r;cases r';let⟨ZY,J,pl,L⟩:=e.list B;let⟨x,N,g,y⟩:=e.list G;refine call_zip_2 pl.isList g.isList λh' o j i h1 h2 z hk=>wpAny_pyIter_zip o ?_;refine⟨d.heap.objs.size+4,[d.heap.objs.size+4,d.heap.objs.size+2,d.heap.objs.size+3,d.heap.objs.size,d.heap.objs.size+1],_,_,H1,rfl,e.kept (t':=d.toks) hk,vF a b _ _ _ _ _ ⟨by simp,by simp,by simp,by simp,by simp,by simp,by simp,by simp,by simp,by simp⟩,⟨o,j,⟨_,_,i⟩,h1,h2⟩,λc n=>?_,q⟩
   have t:d.heap.objs.size<=c:=by
    simp![Xl,Uz,SG]at n;rcases n with h|h|h|h|h<;>subst h<;>simp
   exact e.UZ t (e.ZO.fresh t)
end L2
namespace PI
noncomputable section
open PySem PySem.Spec PyProof.Rows L2
def SqF(K:Il)(H:Hp)(a:Addr)(xs:List V):Prop:=
 (∃o,H a=some (.Zo o (.S xs))) \/
  ∃(o:Obj) (ZY:Array Value) (n:Nat),K.lookup a=some o/\o.cls=.type "list" /\ o.dict=none/\o.data=.seq ZY n/\ZY.size<=sizeLine/\ZM xs ZY.toList
def SqF.sq{xs:List V}(h:SqF K H a xs):SqL K H a xs:=by
 rcases h with h|h
 .exact .inl (.inr h)
 .exact .inr h
def SqU(_:Il)(H:Hp)(a:Addr)(xs:List V):Prop:=H a=some (.ZZ xs)
def SqU.sq{xs:List V}(h:SqU K H a xs):SqT K H a xs:=.of h
def SqC(K:Il)(a:Addr)(xs:List V):Prop:=
 ∃(o:Obj) (ZY:Array Value) (n:Nat),K.lookup a=some o/\o.cls=.type "tuple" /\ o.data=.seq ZY n/\ZY.size<=sizeLine/\ZM xs ZY.toList
def SqC.sq{xs:List V}(h:SqC K a xs):SqT K H a xs:=.inr h
inductive RT(Z5:Addr->List V->Prop)(R:List V->Prop)(v:V):Prop
 |mk (a:Addr) (vs:List V) (e:v=.ref a) (s:Z5 a vs) (r:R vs)
inductive RC{α:Type}(p:α->Prop)(q:List α->Prop)(vs:List α):Prop
 |mk (v:α) (r:List α) (e:vs=v::r) (h:p v) (t:q r)
mutual
def RV(K:Il)(J:List Addr)(H:Hp):U->V->Prop
 |.ZR,v=>v=.ZR
 |.bl b,v=>v=.bl b
 |.int i,v=>v=.int i
 |.str s,v=>v=.str s
 |.ZZ M,v=>RT (SqU K H) (RVs K J H M) v
 |.Zv M,v=>RT (SqF K H) (RVs K J H M) v
 |.ref n,v=>∃a,v=.ref a/\J[n]?=some a
 |.xn _ M,v=>RT (SqC K) (RVs K J H M) v
def RVs(K:Il)(J:List Addr)(H:Hp):List U->List V->Prop
 |[],vs=>vs=[]
 |u::M,vs=>RC (RV K J H u) (RVs K J H M) vs
end
structure ZN(K:Il)(J:List Addr)(H:Hp)(ZU:List Addr)(H':Hp):Prop where
 ext:∀(n:Nat) (a:Addr),J[n]?=some a->ZU[n]?=some a
 new:∀(n:Nat) (a:Addr),ZU[n]?=some a->J[n]?=some a\/H a=none
 Yj:∀a o,H a=some o->a ∉ J->H' a=some o
 live:∀a,H a≠none->H' a≠none
 ZZ:∀a xs,SqU K H a xs->SqU K H' a xs
 Zv:∀a xs,SqF K H a xs->SqF K H' a xs
 Zo:∀a o u,H a=some (.Zo o u)->H' a=some (.Zo o u)
section
variable{Vy:List Addr}{Yp:Hp}
def ZN.refl:ZN K J H J H:=⟨λ_ _ h=>h,λ_ _ h=>.inl h,λ_ _ h _=>h,λ_ h=>h,λ_ _ h=>h,λ_ _ h=>h,λ_ _ _ h=>h⟩
def ZN.trans(a:ZN K J H ZU H')(b:ZN K ZU H' Vy Yp):ZN K J H Vy Yp where
 ext:=λn x h=>b.ext n x (a.ext n x h)
 new:=λn x h=>by
  rcases b.new n x h with q|q
  .exact a.new n x q
  .refine .inr ?_
   cases e:H x with
   |none=>rfl
   |some o=>exact absurd q (a.live x (by rw[e];simp))
 Yj:=λx o h hn=>b.Yj x o (a.Yj x o h hn) λhx=>by
  let⟨n,Zj⟩:=Tu.mp hx;rcases a.new n x Zj with q|q
  .exact hn (Tu.mpr ⟨n,q⟩)
  .rw [q]at h;cases h
 live:=λx h=>b.live x (a.live x h)
 ZZ:=λx xs h=>b.ZZ x xs (a.ZZ x xs h)
 Zv:=λx xs h=>b.Zv x xs (a.Zv x xs h)
 Zo:=λx o u h=>b.Zo x o u (a.Zo x o u h)
mutual
def RV.mono(d:∀(n:Nat) (a:Addr),J[n]?=some a->ZU[n]?=some a)(b:∀a xs,SqU K H a xs->SqU K H' a xs)(c:∀a xs,SqF K H a xs->SqF K H' a xs):∀(u:U) (v:V),RV K J H u v->RV K ZU H' u v
 |.ZR,_,h=>h
 |.bl _,_,h=>h
 |.int _,_,h=>h
 |.str _,_,h=>h
 |.ZZ M,v,h=>by
  let⟨a,vs,e,h1,h2⟩:=h;exact⟨a,vs,e,b _ _ h1,RVs.mono d b c M vs h2⟩
 |.Zv M,v,h=>by
  let⟨a,vs,e,h1,h2⟩:=h;exact⟨a,vs,e,c _ _ h1,RVs.mono d b c M vs h2⟩
 |.ref n,v,h=>by
  let⟨a,e,h1⟩:=h;exact⟨a,e,d _ _ h1⟩
 |.xn _ M,v,h=>by
  let⟨a,vs,e,h1,h2⟩:=h;exact⟨a,vs,e,h1,RVs.mono d b c M vs h2⟩
def RVs.mono(d:∀(n:Nat) (a:Addr),J[n]?=some a->ZU[n]?=some a)(b:∀a xs,SqU K H a xs->SqU K H' a xs)(c:∀a xs,SqF K H a xs->SqF K H' a xs):∀(M:List U) (vs:List V),RVs K J H M vs->RVs K ZU H' M vs
 |[],_,h=>h
 |u::M,vs,h=>by
  let⟨v,r,e,h1,h2⟩:=h;exact⟨v,r,e,RV.mono d b c u v h1,RVs.mono d b c M r h2⟩
end
def RV.step(s:ZN K J H ZU H')(u:U)(v:V)(h:RV K J H u v):RV K ZU H' u v:=RV.mono s.ext s.ZZ s.Zv u v h
def RVs.step(s:ZN K J H ZU H')(M:List U)(vs:List V)(h:RVs K J H M vs):RVs K ZU H' M vs:=RVs.mono s.ext s.ZZ s.Zv M vs h
def RVs.length:∀{M:List U} {vs:List V},RVs K J H M vs->M.length=vs.length
 |[],_,h=>by cases h;rfl
 |_::M,_,h=>by
  let⟨v,r,rfl,_,h2⟩:=h;simp[RVs.length h2]
def RVs.get:∀{M:List U} {vs:List V} {i:Nat} {u:U},RVs K J H M vs->M[i]?=some u ->∃v,vs[i]?=some v/\RV K J H u v
 |[],_,_,_,_,e=>by simp at e
 |x::M,_,0,u,h,e=>by
  let⟨v,r,rfl,h1,_⟩:=h;simp at e;subst e;exact⟨v,by simp,h1⟩
 |x::M,_,i+1,u,h,e=>by
  let⟨v,r,rfl,_,h2⟩:=h;let⟨w,b,a⟩:=RVs.get (i:=i) (u:=u) h2 (by simpa using e)
  exact⟨w,by simpa using b,a⟩
def RVs.none_of(h:RVs K J H M vs)(e:M[i]?=none):vs[i]?=none:=by
 have h1:=h.length;have h2:M.length<=i:=UQ.mp e;exact UQ.mpr ()
def RVs.append:∀{M ws:List U} {vs xs:List V},RVs K J H M vs->RVs K J H ws xs->RVs K J H (M++ws) (vs++xs)
 |[],_,_,_,h,q=>by cases h;exact q
 |u::M,_,_,_,h,q=>by
  let⟨v,r,rfl,h1,h2⟩:=h;exact⟨v,r++_,rfl,h1,RVs.append h2 q⟩
def RVs.one(h:RV K J H u v):RVs K J H [u] [v]:=⟨v,[],rfl,h,rfl⟩
def RVs.drop:∀{M:List U} {vs:List V} (n:Nat),RVs K J H M vs->RVs K J H (M.drop n) (vs.drop n)
 |_,_,0,h=>h
 |[],_,_+1,h=>by cases h;rfl
 |u::M,_,n+1,h=>by
  let⟨v,r,rfl,h1,h2⟩:=h;exact RVs.drop n h2
def RVs.take:∀{M:List U} {vs:List V} (n:Nat),RVs K J H M vs->RVs K J H (M.take n) (vs.take n)
 |_,_,0,h=>by simp[RVs]
 |[],_,_+1,h=>by cases h;rfl
 |u::M,_,n+1,h=>by
  let⟨v,r,rfl,h1,h2⟩:=h;exact⟨v,r.take n,rfl,h1,RVs.take n h2⟩
def RVs.set{u:U}{v:V}(q:RV K J H u v):∀{M:List U} {vs:List V} (i:Nat),RVs K J H M vs->RVs K J H (M.set i u) (vs.set i v)
 |[],_,_,h=>by cases h;rfl
 |x::M,_,0,h=>by
  let⟨w,r,rfl,_,h2⟩:=h;exact⟨v,r,rfl,q,h2⟩
 |x::M,_,i+1,h=>by
  let⟨w,r,rfl,h1,h2⟩:=h;exact⟨w,r.set i v,rfl,h1,RVs.set q i h2⟩
def RVs.reverse:∀{M:List U} {vs:List V},RVs K J H M vs->RVs K J H M.reverse vs.reverse
 |[],_,h=>by cases h;rfl
 |u::M,_,h=>by
  let⟨v,r,rfl,h1,h2⟩:=h;rw[Rc,Rc];exact RVs.append (RVs.reverse h2) (.one h1)
def RVs.dropLast{M:List U}{vs:List V}(h:RVs K J H M vs):RVs K J H M.dropLast vs.dropLast:=by
 rw[List.dropLast_eq_take,List.dropLast_eq_take,h.length];exact h.take _
def RD(K:Il)(J:List Addr)(H:Hp):List (List Int×U)->List (List Key×V)->Prop
 |[],ws=>ws=[]
 |(k,u)::r,ws=>∃v s,ws=(k.map Sum.inl,v)::s/\RV K J H u v/\RD K J H r s
def RD.mono(d:∀(n:Nat) (a:Addr),J[n]?=some a->ZU[n]?=some a)(b:∀a xs,SqU K H a xs->SqU K H' a xs)(c:∀a xs,SqF K H a xs->SqF K H' a xs):∀(M:List (List Int×U)) (vs:List (List Key×V)),RD K J H M vs->RD K ZU H' M vs
 |[],_,h=>h
 |(k,u)::M,vs,h=>by
  let⟨v,r,e,h1,h2⟩:=h;exact⟨v,r,e,RV.mono d b c u v h1,RD.mono d b c M r h2⟩
def RK(K:Il)(J:List Addr)(H:Hp):List (Str×U)->List (Key×V)->Prop
 |[],ws=>ws=[]
 |(k,u)::r,ws=>∃v s,ws=(Sum.inr k,v)::s/\RV K J H u v/\RK K J H r s
def RK.mono(d:∀(n:Nat) (a:Addr),J[n]?=some a->ZU[n]?=some a)(b:∀a xs,SqU K H a xs->SqU K H' a xs)(c:∀a xs,SqF K H a xs->SqF K H' a xs):∀(M:List (Str×U)) (vs:List (Key×V)),RK K J H M vs->RK K ZU H' M vs
 |[],_,h=>h
 |(k,u)::M,vs,h=>by
  let⟨v,r,e,h1,h2⟩:=h;exact⟨v,r,e,RV.mono d b c u v h1,RK.mono d b c M r h2⟩
def jP:∀(f a b:Nat),a<128 ^ f->b<128 ^ f->dig f a=dig f b->a=b
 |0,a,b,h1,h2,_=>by simp at h1 h2;omega
 |f+1,a,b,h1,h2,e=>by
  rw[Nat.pow_succ]at h1 h2;simp![dig]at e;split at e
  .split at e
   .omega
   .cases e
  .split at e
   .cases e
   .have d:a % 128=b % 128:=(List.cons.inj e).1
    have c:=jP f (a / 128) (b / 128) () () (List.cons.inj e).2
    omega
def oA{a b:Nat}(d:a<Bc)(c:b<Bc)(e:Ag a=Ag b):a=b:=jP 64 a b d c (by have:=T8 (λs:Str=>s.cps.toList) e;simpa[Ag]using this)
def RF(K:Il)(J:List Addr)(H:Hp):List (Nat×U)->List (Str×V)->Prop
 |[],ws=>ws=[]
 |(j,u)::r,ws=>∃v s,ws=(Ag j,v)::s/\j<Bc/\RV K J H u v/\RF K J H r s
def RF.mono(d:∀(n:Nat) (a:Addr),J[n]?=some a->ZU[n]?=some a)(b:∀a xs,SqU K H a xs->SqU K H' a xs)(c:∀a xs,SqF K H a xs->SqF K H' a xs):∀(M:List (Nat×U)) (vs:List (Str×V)),RF K J H M vs->RF K ZU H' M vs
 |[],_,h=>h
 |(k,u)::M,vs,h=>by
  let⟨v,r,e,f,h1,h2⟩:=h;exact⟨v,r,e,f,RV.mono d b c u v h1,RF.mono d b c M r h2⟩
def RF.look{j:Nat}(a:j<Bc):∀{M:List (Nat×U)} {vs:List (Str×V)},RF K J H M vs->(M.lookup j=none/\vs.lookup (Ag j)=none) \/∃u v,M.lookup j=some u/\vs.lookup (Ag j)=some v/\RV K J H u v
 |[],_,h=>by cases h;exact .inl ⟨rfl,rfl⟩
 |(i,u)::M,_,h=>by
  let⟨v,r,rfl,b,h1,h2⟩:=h;rw[Vc,Vc];by_cases e:j=i
  .subst e
   rw[Rk,Rk];exact .inr ⟨u,v,rfl,rfl,h1⟩
  .have d:(j==i)=false:=beq_false_of_ne e
   have c:(Ag j==Ag i)=false:=beq_false_of_ne λz=>e (oA a b z);rw[d,c];exact RF.look a h2
def RF.put{j:Nat}{u:U}{v:V}(b:j<Bc)(a:RV K J H u v):∀{M:List (Nat×U)} {vs:List (Str×V)},RF K J H M vs->RF K J H (Cd j u M) (Az (Ag j) v vs)
 |[],_,h=>by cases h;exact⟨v,[],rfl,b,a,rfl⟩
 |(i,x)::M,_,h=>by
  let⟨w,r,rfl,c,h1,h2⟩:=h;unfold Cd Az;by_cases e:i=j
  .subst e
   rw[XW rfl,XW rfl];exact⟨v,r,rfl,c,a,h2⟩
  .rw [WV e,WV λz=>e (oA c b z)]
   exact⟨w,_,rfl,c,h1,RF.put b a h2⟩
def RF.length:∀{M:List (Nat×U)} {vs:List (Str×V)},RF K J H M vs->M.length=vs.length
 |[],_,h=>by cases h;rfl
 |(i,x)::M,_,h=>by
  let⟨w,r,rfl,a,h1,h2⟩:=h;simp[RF.length h2]
def RHO(K:Il)(J:List Addr)(H:Hp):Z6->HO->Prop
 |.S M,o=>∃vs,o=.S vs/\RVs K J H M vs
 |.ZJ Z3,o=>∃ws,o=.dT ws/\RD K J H Z3 ws
 |.YM Z3,o=>∃ob ws,o=.Zo ob (.dT ws)/\RD K J H Z3 ws
 |.dst Z3,o=>∃ws,o=.dK ws/\RK K J H Z3 ws
 |.ins c M,o=>∃C dx vs,o=.ins C dx vs/\PySem.W.nsIn K mainGlobals (Ag c)=some (some (.ref C))/\RF K J H M vs
def RO(K:Il)(J:List Addr)(H:Hp)(a:Addr)(o:Z6):Prop:=∃ho,H a=some ho/\RHO K J H o ho
def RHO.mono(f:∀(n:Nat) (a:Addr),J[n]?=some a->ZU[n]?=some a)(b:∀a xs,SqU K H a xs->SqU K H' a xs)(d:∀a xs,SqF K H a xs->SqF K H' a xs){o:Z6}{g:HO}(h:RHO K J H o g):RHO K ZU H' o g:=by
 cases o with
 |S M=>let⟨vs,e,r⟩:=h;exact⟨vs,e,RVs.mono f b d _ _ r⟩
 |ZJ Z3=>let⟨ws,e,r⟩:=h;exact⟨ws,e,RD.mono f b d _ _ r⟩
 |YM Z3=>let⟨ob,ws,e,r⟩:=h;exact⟨ob,ws,e,RD.mono f b d _ _ r⟩
 |dst Z3=>let⟨ws,e,r⟩:=h;exact⟨ws,e,RK.mono f b d _ _ r⟩
 |ins c M=>let⟨C,dx,vs,e,i,r⟩:=h;exact⟨C,dx,vs,e,i,RF.mono f b d _ _ r⟩
def RHO.step(s:ZN K J H ZU H'){o:Z6}{a:HO}(h:RHO K J H o a):RHO K ZU H' o a:=h.mono s.ext s.ZZ s.Zv
def RO.step(s:ZN K J H ZU H'){a:Addr}{o:Z6}(e:∀b,H a=some b->H' a=some b)(h:RO K J H a o):RO K ZU H' a o:=
 let⟨b,c,r⟩:=h;⟨b,e b c,r.step s⟩
structure RH(K:Il)(J:List Addr)(H:Hp)(g:G):Prop where
 len:J.length=g.length
 inj:∀(i j:Nat) (a:Addr),J[i]?=some a->J[j]?=some a->i=j
 obj:∀(n:Nat) (a:Addr) (o:Z6),J[n]?=some a->g[n]?=some o->RO K J H a o
def RH.at(h:RH K J H g){o:Z6}(e:g[n]?=some o):∃a,J[n]?=some a/\RO K J H a o:=by
 have c:n<g.length:=(Yi.mp e).1;have b:n<J.length:=by rw[h.len];exact c
 exact⟨J[n],Yr b,h.obj n J[n] _ (Yr b) e⟩
def RH.S(h:RH K J H g){n:Nat}{M:List U}(e:g[n]?=some (.S M)):∃a vs,J[n]?=some a/\H a=some (.S vs)/\RVs K J H M vs:=by
 let⟨a,h1,ho,h2,vs,rfl,b⟩:=h.at e;exact⟨a,vs,h1,h2,b⟩
def RH.ZJ(h:RH K J H g){n:Nat}{Z3:List (List Int×U)}(e:g[n]?=some (.ZJ Z3)):∃a ws,J[n]?=some a/\H a=some (.dT ws)/\RD K J H Z3 ws:=by
 let⟨a,h1,ho,h2,vs,rfl,b⟩:=h.at e;exact⟨a,vs,h1,h2,b⟩
def RH.YM(h:RH K J H g){n:Nat}{Z3:List (List Int×U)}(e:g[n]?=some (.YM Z3)):∃a b ws,J[n]?=some a/\H a=some (.Zo b (.dT ws))/\RD K J H Z3 ws:=by
 let⟨a,h1,ho,h2,b,vs,rfl,c⟩:=h.at e;exact⟨a,b,vs,h1,h2,c⟩
def RH.dst(h:RH K J H g){n:Nat}{Z3:List (Str×U)}(e:g[n]?=some (.dst Z3)):∃a ws,J[n]?=some a/\H a=some (.dK ws)/\RK K J H Z3 ws:=by
 let⟨a,h1,ho,h2,vs,rfl,b⟩:=h.at e;exact⟨a,vs,h1,h2,b⟩
def RH.ins(h:RH K J H g){n c:Nat}{b:List (Nat×U)}(e:g[n]?=some (.ins c b)):∃a C dx vs,J[n]?=some a/\H a=some (.ins C dx vs)/\PySem.W.nsIn K mainGlobals (Ag c)=some (some (.ref C))/\RF K J H b vs:=by
 let⟨a,h1,ho,h2,C,dx,vs,rfl,f,d⟩:=h.at e;exact⟨a,C,dx,vs,h1,h2,f,d⟩
def RH.there(h:RH K J H g)(e:J[n]?=some a):∃o,H a=some o:=by
 have b:n<J.length:=(Yi.mp e).1;have c:n<g.length:=by rw[<-h.len];exact b
 let⟨ho,h1,_⟩:=h.obj n a g[n] e (Yr c);exact⟨ho,h1⟩
def xi{p:Addr}{o:HO}{xs:List V}(h:SqU K H a xs)(hp:a≠p):SqU K (upd H p o) a xs:=by
 unfold SqU;rw[aa hp];exact h
def xX{p:Addr}{o:HO}{xs:List V}(h:SqF K H a xs)(hp:a≠p):SqF K (upd H p o) a xs:=by
 rcases h with⟨ob,h⟩|h
 .exact .inl ⟨ob,by rw[aa hp];exact h⟩
 .exact .inr h
def Bo:HO->Prop
 |.S _=>True
 |.dT _=>True
 |.dK _=>True
 |.ins _ _ _=>True
 |_=>False
def aS{p:Addr}{o:HO}{xs:List V}(h:SqU K H a xs)(hp:H p=none \/∃b,H p=some b/\Bo b):SqU K (upd H p o) a xs:=
 xi h (by rintro rfl;rcases hp with z|⟨ys,z,m⟩<;>· unfold SqU at h;rw[h]at z;cases z;try exact m)
def aR{p:Addr}{o:HO}{xs:List V}(h:SqF K H a xs)(hp:H p=none \/∃b,H p=some b/\Bo b):SqF K (upd H p o) a xs:=by
 rcases h with⟨ob,h⟩|h
 .exact xX (.inl ⟨ob,h⟩) (by rintro rfl;rcases hp with z|⟨ys,z,m⟩<;>· rw[h]at z;cases z;try exact m)
 .exact .inr h
def ZN.fresh{p:Addr}{o:HO}(hp:H p=none):ZN K J H J (upd H p o) where
 ext:=λ_ _ h=>h
 new:=λ_ _ h=>.inl h
 Yj:=λa u h _=>by rw[aa (aG h hp)];exact h
 live:=λa h=>by
  by_cases e:a=p
  .subst e;rw[upd_same];simp
  .rw [aa e];exact h
 ZZ:=λa xs h=>aS h (.inl hp)
 Zv:=λa xs h=>aR h (.inl hp)
 Zo:=λa ob u h=>by rw[aa (aG h hp)];exact h
def RH.step_fresh{p:Addr}{o:HO}(h:RH K J H g)(hp:H p=none):RH K J (upd H p o) g where
 len:=h.len
 inj:=h.inj
 obj:=λn a ob h1 h2=>(h.obj n a ob h1 h2).step (ZN.fresh hp) λho e=>by rw[aa (aG e hp)];exact e
def ZN.alloc{p:Addr}{ho:HO}(hp:H p=none):ZN K J H (J++[p]) (upd H p ho) where
 ext:=λn a h=>by rw[Xe (Yi.mp h).1];exact h
 new:=λn a h=>by
  by_cases hn:n<J.length
  .rw [Xe hn]at h;exact .inl h
  .rw [XN ()]at h
   have:a=p:=by
    cases hk:n-J.length with
    |zero=>rw[hk]at h;simpa using h.symm
    |succ k=>rw[hk]at h;simp at h
   subst this;exact .inr hp
 Yj:=λa u h _=>by rw[aa (aG h hp)];exact h
 live:=(ZN.fresh (K:=K) (J:=J) hp).live
 ZZ:=λa xs h=>aS h (.inl hp)
 Zv:=λa xs h=>aR h (.inl hp)
 Zo:=λa ob u h=>by rw[aa (aG h hp)];exact h
def RH.TU{p:Addr}{ob:Z6}{ho:HO}(h:RH K J H g)(hp:H p=none)(r:RHO K J H ob ho):RH K (J++[p]) (upd H p ho) (g++[ob]) where
 len:=by simp[h.len]
 inj:=λi j a h1 h2=>by
  have key:∀k b,(J++[p])[k]?=some b->(k<J.length/\J[k]?=some b)\/(k=J.length/\b=p):=λk b e=>by
   by_cases hk:k<J.length
   .rw [Xe hk]at e;exact .inl ⟨hk,e⟩
   .rw [XN ()]at e
    cases hd:k-J.length with
    |zero=>rw[hd]at e;exact .inr ⟨by omega,by simpa using e.symm⟩
    |succ m=>rw[hd]at e;simp at e
  have noP:∀k,J[k]? ≠ some p:=λk e=>by
   let⟨o,ho⟩:=h.there e;rw[hp]at ho;cases ho
  rcases key i a h1 with⟨_,e1⟩|⟨e1,Ze⟩
  .rcases key j a h2 with⟨_,e2⟩|⟨e2,VX⟩
   .exact h.inj i j a e1 e2
   .subst VX;exact absurd e1 (noP i)
  .rcases key j a h2 with⟨_,e2⟩|⟨e2,VX⟩
   .subst Ze;exact absurd e2 (noP j)
   .omega
 obj:=λn a o h1 h2=>by
  by_cases hn:n<J.length
  .rw [Xe hn]at h1
   rw[Xe (by rw[<-h.len];exact hn)]at h2
   exact(h.obj n a o h1 h2).step (ZN.alloc hp) λho e=>by rw[aa (aG e hp)];exact e
  .have hl:=h.len
   rw[XN ()]at h1
   rw[XN ()]at h2
   rw[<-hl]at h2;cases hd:n-J.length with
   |zero=>
    rw[hd]at h1 h2;have e1:a=p:=by simpa using h1.symm
    have e2:o=ob:=by simpa using h2.symm
    subst e1;subst e2;exact⟨ho,upd_same,r.step (ZN.alloc hp)⟩
   |succ m=>rw[hd]at h1;simp at h1
def RH.alloc{p:Addr}(h:RH K J H g)(hp:H p=none)(r:RVs K J H M vs):RH K (J++[p]) (upd H p (.S vs)) (g++[.S M]):=h.TU hp ⟨vs,rfl,r⟩
def ZN.XI{x y:HO}(hn:J[n]?=some a)(ha:H a=some x)(hm:Bo x):ZN K J H J (upd H a y) where
 ext:=λ_ _ h=>h
 new:=λ_ _ h=>.inl h
 Yj:=λb u h hb=>by
  have:b≠a:=λe=>hb (e ▸ Tu.mpr ⟨n,hn⟩);rw[aa this];exact h
 live:=λb h=>by
  by_cases e:b=a
  .subst e;rw[upd_same];simp
  .rw [aa e];exact h
 ZZ:=λb zs h=>aS h (.inr ⟨_,ha,hm⟩)
 Zv:=λb zs h=>aR h (.inr ⟨_,ha,hm⟩)
 Zo:=λb ob u h=>by rw[aa (cO h ha (by rintro rfl;exact hm))];exact h
def ZN.write{xs b:List V}(c:J[n]?=some a)(d:H a=some (.S xs)):ZN K J H J (upd H a (.S b)):=ZN.XI c d trivial
def RH.XI{n:Nat}{a:Addr}{x y:HO}{ob:Z6}(h:RH K J H g)(hn:J[n]?=some a)(ha:H a=some x)(hm:Bo x)(r:RHO K J H ob y):RH K J (upd H a y) (g.set n ob) where
 len:=by simp[h.len]
 inj:=h.inj
 obj:=λm b o h1 h2=>by
  by_cases e:m=n
  .subst e
   rw[hn]at h1;cases h1;rw[VL (by rw[<-h.len];exact(Yi.mp hn).1)]at h2
   cases h2;exact⟨y,upd_same,r.step (ZN.XI hn ha hm)⟩
  .rw [Wr (Ne.symm e)]at h2
   have ne:b≠a:=λz=>e (h.inj m n a (z ▸ h1) hn);exact(h.obj m b o h1 h2).step (ZN.XI hn ha hm) λho e1=>by rw[aa ne];exact e1
def RH.write{xs b:List V}(h:RH K J H g)(c:J[n]?=some a)(d:H a=some (.S xs))(r:RVs K J H M b):RH K J (upd H a (.S b)) (g.set n (.S M)):=h.XI c d trivial ⟨b,rfl,r⟩
structure RS(K:Il)(J:List Addr)(H:Hp)(Z2:Su)(Z:L2.St):Prop where
 len:Z2.length=Z.length
 val:∀(i:Nat) (u:U),Z2[i]?=some (some u) ->∃v,Z[i]?=some (some v)/\RV K J H u v
def RS.step{a:Su}{Z:L2.St}(h:RS K J H a Z)(s:ZN K J H ZU H'):RS K ZU H' a Z:=
 ⟨h.len,λi u e=>let⟨v,b,r⟩:=h.val i u e;⟨v,b,RV.step s _ _ r⟩⟩
def RS.set{Z2:Su}{Z:L2.St}{i:Nat}{u:U}{v:V}(h:RS K J H Z2 Z)(r:RV K J H u v):RS K J H (Z2.set i (some u)) (Z.set i (some v)) where
 len:=by simp[h.len]
 val:=λj w e=>by
  by_cases hj:j=i
  .subst hj
   have hl:j<Z2.length:=by
    have:=(Yi.mp e).1;simpa using this
   rw[VL hl]at e;cases e;exact⟨v,by rw[VL (by rw[<-h.len];exact hl)],r⟩
  .rw [Wr (Ne.symm hj)]at e
   let⟨x,e1,e2⟩:=h.val j w e;exact⟨x,by rw[Wr (Ne.symm hj)];exact e1,e2⟩
end
abbrev XQ:=Nat->List V->Hp->Prop
section
variable(K:Il)(W:XQ)
def post{b a:Type}(R:List Addr->Hp->b->a->Prop)(o:Out b)(J:List Addr)(H:Hp)(Q:a->Hp->Prop):Prop:=match o with
 |.ok u g=>∀v ZU H',ZN K J H ZU H'->RH K ZU H' g->R ZU H' u v->Q v H'
 |.exc c fs g=>∀vs ZU H',ZN K J H ZU H'->RH K ZU H' g->RVs K ZU H' fs vs->W c vs H'
 |.Z1=>False
def JX(o:Out Fl)(J:List Addr)(H:Hp)(D:Ends):Prop:=match o with
 |.ok (.nx a) g=>∀Z ZU H',ZN K J H ZU H'->RH K ZU H' g->RS K ZU H' a Z->D.nx Z H'
 |.ok (.bk a) g=>∀Z ZU H',ZN K J H ZU H'->RH K ZU H' g->RS K ZU H' a Z->D.bk Z H'
 |.ok (.ct a) g=>∀Z ZU H',ZN K J H ZU H'->RH K ZU H' g->RS K ZU H' a Z->D.ct Z H'
 |.ok (.rt u) g=>∀v ZU H',ZN K J H ZU H'->RH K ZU H' g->RV K ZU H' u v->D.rt v H'
 |.exc c fs g=>∀vs ZU H',ZN K J H ZU H'->RH K ZU H' g->RVs K ZU H' fs vs->W c vs H'
 |.Z1=>False
abbrev YI{α:Type}:List Addr->Hp->α->α->Prop:=λ_ _ a b=>a=b
inductive tR{α β:Type}(R:List Addr->Hp->α->β->Prop)(f:Su->G->Out α)(Z:L2.St)(H:Hp)(Q:β->Hp->Prop):Prop
 |mk (Z2:Su) (J:List Addr) (g:G) (hs:RS K J H Z2 Z) (hg:RH K J H g) (p:post K W R (f Z2 g) J H Q)
abbrev tE(f:Su->G->Out U):TE:=tR K W (RV K) f
abbrev tT(f:Su->G->Out Bool):TT:=tR K W YI f
abbrev X9(f:Su->G->Out (List U)):TA:=tR K W (RVs K) f
inductive PB{α β Wp Wo:Type}(R:List Addr->Hp->α->β->Prop)(R':List Addr->Hp->Wp->Wo->Prop)(J:List Addr)(H:Hp)(k:α->G->Out Wp)(Q:Wo->Hp->Prop)(v:β)(H1:Hp):Prop
 |mk (ZS:List Addr) (u:α) (g1:G) (s:ZN K J H ZS H1) (h:RH K ZS H1 g1) (r:R ZS H1 u v) (p:post K W R' (k u g1) ZS H1 Q)
inductive PC{α β:Type}(R:List Addr->Hp->α->β->Prop)(J:List Addr)(H:Hp)(k:α->G->Out Fl)(D:Ends)(v:β)(H1:Hp):Prop
 |mk (ZS:List Addr) (u:α) (g1:G) (s:ZN K J H ZS H1) (h:RH K ZS H1 g1) (r:R ZS H1 u v) (p:JX K W (k u g1) ZS H1 D)
inductive ZF(f:Su->G->Out Fl)(D:Ends)(Z:L2.St)(H:Hp):Prop
 |mk (Z2:Su) (J:List Addr) (g:G) (hs:RS K J H Z2 Z) (hg:RH K J H g) (p:JX K W (f Z2 g) J H D)
end
section
variable{W:XQ}{Wp Wo:Type}{R:List Addr->Hp->α->β->Prop}{R':List Addr->Hp->Wp->Wo->Prop}
def post.from{o:Out α}{Q:β->Hp->Prop}(h:post K W R o J H Q)(s:ZN K J H ZU H'):post K W R o ZU H' Q:=by
 cases o with
 |ok u g=>exactλv b H2 a=>h v b H2 (s.trans a)
 |exc c fs g=>exactλv b H2 a=>h v b H2 (s.trans a)
 |Z1=>exact h
def JX.from{o:Out Fl}{D:Ends}(h:JX K W o J H D)(s:ZN K J H ZU H'):JX K W o ZU H' D:=by
 cases o with
 |ok f g=>cases f<;>exactλv b H2 a=>h v b H2 (s.trans a)
 |exc c fs g=>exactλv b H2 a=>h v b H2 (s.trans a)
 |Z1=>exact h
def post.bind{o:Out α}{k:α->G->Out Wp}{Q:Wo->Hp->Prop}(h:post K W R' (o.bind k) J H Q):
  post K W R o J H (PB K W R R' J H k Q):=by
 cases o with
 |ok u g=>exactλv d H1 a h1 b=>⟨d,u,g,a,h1,b,post.from (o:=k u g) h a⟩
 |exc c fs g=>exact h
 |Z1=>exact h
def JX.bind{o:Out α}{k:α->G->Out Fl}{D:Ends}(h:JX K W (o.bind k) J H D):
  post K W R o J H (PC K W R J H k D):=by
 cases o with
 |ok u g=>exactλv d H1 a h1 b=>⟨d,u,g,a,h1,b,JX.from (o:=k u g) h a⟩
 |exc c fs g=>exact h
 |Z1=>exact h
def post.mono{o:Out α}{Q Q':β->Hp->Prop}(h:post K W R o J H Q)(q:∀v H1,Q v H1->Q' v H1):post K W R o J H Q':=by
 cases o with
 |ok u g=>exactλv d H1 a h1 b=>q _ _ (h v d H1 a h1 b)
 |exc c fs g=>exact h
 |Z1=>exact h
def post.Zk{u:α}{v:β}{Q:β->Hp->Prop}(h:post K W R (.ok u g) J H Q)(a:RH K J H g)(r:R J H u v):Q v H:=h v J H .refl a r
def post.lift{o:Option α}{g:G}{Q:β->Hp->Prop}(h:post K W R (lift o g) J H Q):∃u,o=some u/\post K W R (.ok u g) J H Q:=by
 cases o with
 |none=>exact h.elim
 |some u=>exact⟨u,rfl,h⟩
end
def _root_.L2.PE.imp{t t':TE}(h:PE X e t)(q:∀Z H Q,t' Z H Q->t Z H Q):PE X e t':=λY s Z H Q I h'=>h Y s Z H Q I (q Z H Q h')
def _root_.L2.PT.imp{t t':TT}(h:PT X e t)(q:∀Z H Q,t' Z H Q->t Z H Q):PT X e t':=λY s Z H Q I h'=>h Y s Z H Q I (q Z H Q h')
def _root_.L2.PW.imp{t t':TT}(h:PW X e t)(q:∀Z H Q,t' Z H Q->t Z H Q):PW X e t':=λa Y s Z H Q I h'=>h a Y s Z H Q I (q Z H Q h')
def _root_.L2.PA.imp{e:List Expr}{t t':TA}(h:PA X e t)(q:∀Z H Q,t' Z H Q->t Z H Q):PA X e t':=λpos Y s Z H Q I h'=>h pos Y s Z H Q I (q Z H Q h')
def _root_.L2.PS.imp{e:Stmt}{t t':TS}(h:PS X e t)(q:∀D Z H,t' D Z H->t D Z H):PS X e t':=λY s Z H Q I h'=>h Y s Z H Q I (q Q Z H h')
def _root_.L2.PSs.imp{e:List Stmt}{t t':TS}(h:PSs X e t)(q:∀D Z H,t' D Z H->t D Z H):PSs X e t':=λY s Z H Q I h'=>h Y s Z H Q I (q Q Z H h')
def _root_.L2.PE.Z1{X:Cx}{e:Expr}{K:Il}{W:XQ}{f:Su->G->Out U}(h:∀Z g,f Z g=.Z1):PE X e (tE K W f):=λY s Z H Q I ⟨a,J,g,_,_,p⟩=>by rw[h]at p;exact p.elim
def _root_.L2.PT.Z1{X:Cx}{e:Expr}{K:Il}{W:XQ}{f:Su->G->Out Bool}(h:∀Z g,f Z g=.Z1):PT X e (tT K W f):=λY s Z H Q I ⟨a,J,g,_,_,p⟩=>by rw[h]at p;exact p.elim
def _root_.L2.PSs.Z1{X:Cx}{e:List Stmt}{K:Il}{W:XQ}{f:Su->G->Out Fl}(h:∀Z g,f Z g=.Z1):PSs X e (ZF K W f):=λY s Z H Q I ⟨a,J,g,_,_,p⟩=>by rw[h]at p;exact p.elim
def _root_.L2.PS.Z1{X:Cx}{e:Stmt}{K:Il}{W:XQ}{f:Su->G->Out Fl}(h:∀Z g,f Z g=.Z1):PS X e (ZF K W f):=λY s Z H Q I ⟨a,J,g,_,_,p⟩=>by rw[h]at p;exact p.elim
section
variable{W W':XQ}
def tz{o:Out Fl}{D:Ends}(h:JX K W o.Y9 J H D):JX K W' o J H D:=by
 cases o with
 |ok a g=>cases a<;>exact h
 |exc _ _ _=>exact h.elim
 |Z1=>exact h
def bD{b d:Type}{R:List Addr->Hp->α->β->Prop}{e:List Addr->Hp->b->d->Prop}{o:Out α}{k:α->G->Out b}{Q:d->Hp->Prop}(h:post K W e (o.Y9.bind k) J H Q):
  post K W' R o J H (PB K W R e J H k Q):=by
 cases o with
 |ok u g=>exactλv i H1 a h1 f=>⟨i,u,g,a,h1,f,post.from (o:=k u g) h a⟩
 |exc c fs g=>exact h.elim
 |Z1=>exact h
def cW{R:List Addr->Hp->α->β->Prop}{o:Out α}{k:α->G->Out Fl}{D:Ends}(h:JX K W (o.Y9.bind k) J H D):
  post K W' R o J H (PC K W R J H k D):=by
 cases o with
 |ok u g=>exactλv d H1 a h1 b=>⟨d,u,g,a,h1,b,JX.from (o:=k u g) h a⟩
 |exc c fs g=>exact h.elim
 |Z1=>exact h
end
section
def RV.flat{w:U}{x:V}(c:RV K J H u x)(a:RV K J H w y)(e:Ah u w=some b):C9 x=true/\C9 y=true/\Jp x y=b:=by
 cases u<;>cases w<;>simp![Ah,Yo,reduceCtorEq]at e<;>(subst e;cases c;cases a;exact⟨rfl,rfl,rfl⟩)
def dk:∀{M ws:List U} {vs:List V} {b:Bool},RVs K J H M vs->RVs K J H ws vs->Ak M ws=some b->b=true
 |[],[],_,b,_,_,e=>by simpa[Ak]using e.symm
 |[],_::_,_,b,_,_,e=>by simp[Ak]at e
 |_::_,[],_,b,_,_,e=>by simp[Ak]at e
 |u::M,w::ws,_,b,h1,h2,e=>by
  let⟨v,r,rfl,j,i⟩:=h1;let⟨k,r',e',h,g⟩:=h2;cases e';simp![Ak]at e;cases a:Ah u w with
  |none=>simp[a]at e
  |some c=>
   cases f:Ak M ws with
   |none=>simp[a,f]at e
   |some d=>
    simp![a,f,Yo]at e;subst e;rw[dk i g f];have:c=true:=by
     cases u<;>cases w<;>simp![Ah,Yo,reduceCtorEq]at a<;>(subst a;cases j;cases h;try simp)
    simp[this]
def JY:U->Bool
 |.ZR|.bl _|.int _|.str _=>true
 |_=>false
def jJ{z:U}(e:Ah u z=some b):JY u=true:=by
 cases u<;>first|rfl|(cases z<;>cases e)
def acp{a:U}(c:RV K J H u v)(b:RV K J H a v)(e:JY u=true)(d:JY a=true):u=a:=by
 cases u<;>first|(cases e;done)|(cases c;cases a<;>first|(cases d;done)|(cases b<;>rfl))
def nv{a z c:U}{h:Bool}(f:RV K J H u v)(d:RV K J H a v)(e:Ah u z=some b)(g:Ah a c=some h):u=a:=acp f d (jJ e) (jJ g)
def j6:∀{M f zs:List U} {vs:List V} {b b':Bool},RVs K J H M vs->RVs K J H f vs->Ak M zs=some b->Ak f zs=some b'->M=f
 |[],_,_,_,_,_,h1,h2,_,_=>by
  cases h1;have:=h2.length;simp at this;exact this.symm
 |_::_,_,[],_,_,_,_,_,e,_=>by simp[Ak]at e
 |u::M,[],_,_,_,_,h1,h2,_,_=>by
  let⟨v,r,rfl,_,_⟩:=h1;cases h2
 |u::M,j::f,z::zs,_,b,b',h1,h2,e,e'=>by
  let⟨v,r,rfl,n,m⟩:=h1;let⟨o,r',q,l,k⟩:=h2;cases q;simp![Ak]at e e';cases g:Ah u z with
  |none=>simp[g]at e
  |some c=>
   cases h:Ak M zs with
   |none=>simp[g,h]at e
   |some d=>
    cases a:Ah j z with
    |none=>simp[a]at e'
    |some c'=>
     cases i:Ak f zs with
     |none=>simp[a,i]at e'
     |some d'=>rw[nv n l g a,j6 m k h i]
def dm{w:U}(e:Jt u w=some b):(∃M ws,u=.ZZ M/\w=.ZZ ws/\Ak M ws=some b)\/Ah u w=some b:=by
 cases u<;>cases w<;>first|exact .inr e|exact .inl ⟨_,_,rfl,rfl,e⟩
end
section
variable{Z:L2.St}
def wG{w:U}{x:V}{v h:Value}(g:RV K J H u x)(d:RV K J H w y)(f:RelV x v)(c:RelV y h)(e:Ah u w=some b):SeqAt.RcAt A s v h b:=by
 cases u with
 |ZR=>
  cases g;cases f;cases w<;>simp![Ah,Yo,reduceCtorEq]at e
  .subst e;cases d;cases c;exact SeqAt.RcAt.none_none
  .subst e;cases d;cases c;exact SeqAt.RcAt.none_bool _
  .subst e;cases d;let⟨t',rfl⟩:=c;exact SeqAt.RcAt.none_int _ _
  .subst e;cases d;let⟨t',rfl⟩:=c;exact SeqAt.RcAt.none_str _ _
 |bl a=>
  cases g;cases f;cases w<;>simp![Ah,Yo,reduceCtorEq]at e
  .subst e;cases d;cases c;exact SeqAt.RcAt.bool_none _
  .subst e;cases d;cases c;exact SeqAt.RcAt.bool_bool _ _
  .subst e;cases d;let⟨t',rfl⟩:=c;exact SeqAt.RcAt.bool_int _ _ _
  .subst e;cases d;let⟨t',rfl⟩:=c;exact SeqAt.RcAt.bool_str _ _ _
 |int a=>
  cases g;let⟨t,rfl⟩:=f;cases w<;>simp![Ah,Yo,reduceCtorEq]at e
  .subst e;cases d;cases c;exact SeqAt.RcAt.int_none _ _
  .subst e;cases d;cases c;exact SeqAt.RcAt.int_bool _ _ _
  .subst e;cases d;let⟨t',rfl⟩:=c;exact SeqAt.RcAt.int_int _ _ _ _
  .subst e;cases d;let⟨t',rfl⟩:=c;exact SeqAt.RcAt.int_str _ _ _ _
 |str a=>
  cases g;let⟨t,rfl⟩:=f;cases w<;>simp![Ah,Yo,reduceCtorEq]at e
  .subst e;cases d;cases c;exact SeqAt.RcAt.str_none _ _
  .subst e;cases d;cases c;exact SeqAt.RcAt.str_bool _ _ _
  .subst e;cases d;let⟨t',rfl⟩:=c;exact SeqAt.RcAt.str_int _ _ _ _
  .subst e;cases d;let⟨t',rfl⟩:=c;exact SeqAt.RcAt.str_str _ _ _ _
 |_=>simp[Ah]at e
def iS{K:Il}{J:List Addr}:∀{M ws:List U} {xs ys:List V} {vs o:List Value} {b:Bool},RVs K J H M xs->RVs K J H ws ys->ZM xs vs->ZM ys o->Ak M ws=some b ->
  ∃e:Nat->Bool,vs.length=o.length/\(∀j (h1:j<vs.length) (h2:j<o.length),SeqAt.EqAt A s vs[j] o[j] (e j))/\(List.range vs.length).all e=b
 |[],[],_,_,_,_,b,h1,h2,g,a,e=>by
  cases h1;cases h2;cases g;cases a;simp![Ak,Yo]at e;subst e;exact⟨λ_=>true,rfl,λj h1=>absurd h1 #[3],rfl⟩
 |[],_::_,_,_,_,_,b,h1,h2,g,a,e=>by simp[Ak]at e
 |_::_,[],_,_,_,_,b,h1,h2,g,a,e=>by simp[Ak]at e
 |u::M,w::ws,_,_,_,_,b,h1,h2,g,a,e=>by
  let⟨x,xs,rfl,N,L⟩:=h1;let⟨y,ys,rfl,I,G⟩:=h2;cases g with
  |cons z g=>
  cases a with
  |cons t a=>
  simp![Ak]at e;cases k:Ah u w with
  |none=>simp[k]at e
  |some c=>
   cases r:Ak M ws with
   |none=>simp[k,r]at e
   |some d=>
    simp![k,r,Yo]at e;subst e;let⟨f,l,B,C⟩:=iS L G g a r;let⟨E,D,F⟩:=N.flat I k;refine⟨λj=>match j with|0=>c|j+1=>f j,by simp[l],λj h1 h2=>?_,?_⟩
    .cases j with
     |zero=>subst F;exact dY z t E D
     |succ j=>exact B j (by simpa using h1) (by simpa using h2)
    .subst C
     rw[Wa,Qz,Qm,List.all_map]
     rfl
def pW{w:U}{x:V}{v d:Value}(I:Z4 X Y Z H s)(q:A.units<cLine)(k:RV X.K J H u x)(i:RV X.K J H w y)(h:RelV x v)(g:RelV y d)(e:Jt u w=some b):SeqAt.RcAt A s v d b:=by
 by_cases m:∃M ws,u=.ZZ M/\w=.ZZ ws
 .obtain ⟨M,ws,rfl,rfl⟩:=m
  let⟨a,xs,rfl,h1,h2⟩:=k;let⟨a',ys,rfl,B,z⟩:=i;cases h;cases g;let⟨ZY,o,p,_⟩:=I.tuple h1.sq;let⟨c,n,p2,_⟩:=I.tuple B.sq;let⟨f,l,r,t⟩:=iS (A:=A.in1) (s:=s) h2 z o n e;have:=SeqAt.RcAt.tuples (A:=A) (s:=s) (l:=a) (b:=a') (items:=ZY.toArray) (items2:=c.toArray) (e:=f) p p2 q (λj h1 h2=>by simpa using r j (by simpa using h1) (by simpa using h2))
  have C:((List.range (min ZY.toArray.size c.toArray.size)).all f&&ZY.toArray.size==c.toArray.size)=b:=by simp[<-l,t]
  rw[C]at this;exact this
 .have e':Ah u w=some b:=by
   cases u<;>cases w<;>first|exact e|exact absurd ⟨_,_,rfl,rfl⟩ m
  exact wG k i h g e'
def gm{w:U}{x:V}{v h:Value}(I:Z4 X Y Z H s)(k:A.units<cLine)(g:RV X.K J H u x)(f:RV X.K J H w y)(d:RelV x v)(c:RelV y h)(e:Jt u w=some b):SeqAt.EqAt A s v h b:=by
 by_cases i:∃M ws,u=.ZZ M/\w=.ZZ ws
 .have rc:=pW I k g f d c e
  let⟨M,ws,rfl,rfl⟩:=i;let⟨a,xs,rfl,h1,h2⟩:=g;let⟨a',ys,rfl,m,l⟩:=f;cases d;cases c;by_cases j:a=a'
  .subst j
   obtain rfl:=I.U0 h1.sq m.sq;have:=dk h2 l e;subst this;exact RZ _
  .exact Qe j rc
 .have e':Ah u w=some b:=by
   cases u<;>cases w<;>first|exact e|exact absurd ⟨_,_,rfl,rfl⟩ i
  let⟨o,n,p⟩:=g.flat f e';subst p;exact dY d c o n
def jz{w:U}(I:Z4 X Y Z H s)(d:RV X.K J H u y)(c:RV X.K J H w y)(e:Jt u w=some b):b=true:=by
 rcases dm e with⟨M,ws,rfl,rfl,e⟩|e
 .obtain ⟨a,xs,rfl,i,h⟩:=d
  let⟨a',ys,q,g,f⟩:=c;cases q;obtain rfl:=I.U0 i.sq g.sq;exact dk h f e
 .have:=dk (b:=b&&true) (RVs.one d) (RVs.one c) (by simp![Ak,e])
  simpa using this
def bJ{J:List Addr}{q:U->U->Option Bool}(n:∀u w x y v m b,RV X.K J H u x->RV X.K J H w y->RelV x v->RelV y m->q u w=some b->SeqAt.EqAt A s v m b):∀{M ws:List U} {xs ys:List V} {ZY its':List Value} {b:Bool},RVs X.K J H M xs->RVs X.K J H ws ys->ZM xs ZY->ZM ys its'->Jz q M ws=some b ->
  ∃f:Nat->Bool,ZY.length=its'.length/\(∀j (h1:j<ZY.length) (h2:j<its'.length),SeqAt.EqAt A s ZY[j] its'[j] (f j))/\(List.range ZY.length).all f=b
 |[],[],_,_,_,_,b,h1,h2,g,a,e=>by
  cases h1;cases h2;cases g;cases a;simp![Jz,Yo]at e;subst e;exact⟨λ_=>true,rfl,λj h=>by simp at h,rfl⟩
 |[],_::_,_,_,_,_,_,_,_,_,_,e=>by simp[Jz]at e
 |_::_,[],_,_,_,_,_,_,_,_,_,e=>by simp[Jz]at e
 |u::M,w::ws,_,_,_,_,b,h1,h2,g,a,e=>by
  let⟨x,xs,rfl,D,C⟩:=h1;let⟨y,ys,rfl,B,z⟩:=h2;cases g with
  |cons p g=>
  cases a with
  |cons o a=>
  simp![Jz]at e;cases i:q u w with
  |none=>simp[i]at e
  |some c=>
   cases k:Jz q M ws with
   |none=>simp[i,k]at e
   |some d=>
    simp![i,k,Yo]at e;subst e;let⟨f,l,r,t⟩:=bJ n C z g a k;refine⟨λj=>match j with|0=>c|j+1=>f j,by simp[l],λj h1 h2=>?_,?_⟩
    .cases j with
     |zero=>exact n u w x y _ _ c D B p o i
     |succ j=>exact r j (by simpa using h1) (by simpa using h2)
    .subst t
     rw[Wa,Qz,Qm,List.all_map]
     rfl
def fq{J:List Addr}{q:U->U->Option Bool}(g:∀u w y b,RV X.K J H u y->RV X.K J H w y->q u w=some b->b=true):∀{M ws:List U} {xs:List V} {b:Bool},RVs X.K J H M xs->RVs X.K J H ws xs->Jz q M ws=some b->b=true
 |[],[],_,b,_,_,e=>by simpa[Jz]using e.symm
 |[],_::_,_,_,_,_,e=>by simp[Jz]at e
 |_::_,[],_,_,_,_,e=>by simp[Jz]at e
 |u::M,w::ws,_,b,h1,h2,e=>by
  let⟨x,xs,rfl,k,j⟩:=h1;let⟨y,ys,z,i,h⟩:=h2;cases z;simp![Jz]at e;cases a:q u w with
  |none=>simp[a]at e
  |some c=>
   cases f:Jz q M ws with
   |none=>simp[a,f]at e
   |some d=>
    simp![a,f,Yo]at e;rw[<-e,g u w _ c k i a,fq g j h f]
    rfl
def abn{w:U}{x:V}{v h:Value}(I:Z4 X Y Z H s)(D:A.units+1<cLine)(o:RV X.K J H u x)(n:RV X.K J H w y)(m:RelV x v)(k:RelV y h)(e:F7 u w=some b):SeqAt.EqAt A s v h b:=by
 by_cases p:∃M ws,u=.ZZ M/\w=.ZZ ws
 .obtain ⟨M,ws,rfl,rfl⟩:=p
  let⟨a,xs,rfl,h1,h2⟩:=o;let⟨a',ys,rfl,t,r⟩:=n;cases m;cases k;have e:Jz Jt M ws=some b:=e;by_cases q:a=a'
  .subst q
   obtain rfl:=I.U0 h1.sq t.sq;have:=fq (λu w y b g d i=>jz I g d i) h2 r e;subst this;exact RZ _
  .refine Qe q ?_
   let⟨ZY,g,C,_⟩:=I.tuple h1.sq;let⟨c,d,p2,_⟩:=I.tuple t.sq;let⟨f,l,E,F⟩:=bJ (A:=A.in1) (s:=s) (λu w x y v h b g d i B z=>gm (A:=A.in1) I D g d i B z) h2 r g d e;have:=SeqAt.RcAt.tuples (A:=A) (s:=s) (l:=a) (b:=a') (items:=ZY.toArray) (items2:=c.toArray) (e:=f) C p2 () (λj h1 h2=>by simpa using E j (by simpa using h1) (by simpa using h2))
   have O:((List.range (min ZY.toArray.size c.toArray.size)).all f&&ZY.toArray.size==c.toArray.size)=b:=by simp[<-l,F]
   rw[O]at this;exact this
 .have e':Ah u w=some b:=by
   cases u<;>cases w<;>first|exact e|exact absurd ⟨_,_,rfl,rfl⟩ p
  let⟨L,G,N⟩:=o.flat n e';subst N;exact dY m k L G
end
section
variable{W:XQ}
inductive UN(X:Cx)(f:U->U->G->Option Bool)(x y:V)(H:Hp)(Q:VK):Prop
 |mk (J:List Addr) (g:G) (u w:U) (b:Bool) (hg:RH X.K J H g) (r1:RV X.K J H u x) (r2:RV X.K J H w y) (e:f u w g=some b) (q:Q (.bl b) H)
def abi(i:X.A.units<cLine):OpR X (compareOp .Eq) (UN X λu w _=>Jt u w):=by
 intro Y s Z H x y v u Q I d c ⟨J,g,a,w,b,j,h,f,e,q⟩;exact pW I i h f d c e X.prog X.w X.xe _ ⟨.bl b,H,I,rfl,q⟩
def dn{x y:U}{p:List U×List U}(e:AM x y g=some p):∃n m,x=.ref n/\y=.ref m/\g[n]?=some (.S p.1)/\g[m]?=some (.S p.2):=by
 unfold AM at e;split at e
 .split at e
  .split at e
   .split at e
    .rename_i h1 _ _ h2
     cases e;exact⟨_,_,rfl,rfl,h1,h2⟩
    .cases e
   .cases e
  .cases e
 .cases e
def aaO(M:X.A.units+2<cLine):OpR X (compareOp .Eq) (UN X λu w g=>(AM u w g).bind λp=>JA p.1 p.2):=by
 intro Y s Z H x y v u Q I D C ⟨J,g,a,w,b,o,F,E,h,q⟩;let⟨p,h,e⟩:=WQ.mp h;let⟨n,m,rfl,rfl,P,g2⟩:=dn h;let⟨a1,vs,U,T,t⟩:=o.S P;let⟨a2,ws,R,Kx,r⟩:=o.S g2;let⟨W,rfl,z⟩:=F;rw[U]at z;cases z;let⟨V,rfl,z⟩:=E;rw[R]at z;cases z;cases D;cases C;let⟨ZY,d,i,_⟩:=I.list (.of T);let⟨k,c,p2,_⟩:=I.list (.of Kx);unfold JA at e;split at e
 case isFalse B=>
  cases e;refine SeqAt.eq_list_lengthsAt i.isList p2.isList ?_ () ⟨.bl false,H,I,rfl,q⟩
  rw[t.length,r.length,d.length,c.length]at B;simpa using B
 let⟨f,l,N,O⟩:=bJ (A:=X.A.in1) (s:=s) (λu w x y v v' b d c L K G=>abn (A:=X.A.in1) I (by exact M) d c L K G) t r d c e
 refine SeqAt.eq_listAt (e:=f) i.isList p2.isList (by simp[l]) () (λj h1 h2=>by simpa using N j (by simpa using h1) (by simpa using h2)) ?_
 refine⟨.bl b,H,I,?_,q⟩;rw[<-O];simp![XB]
 rfl
def cv{x:V}(h:RH K J H g)(b:RV K J H u x)(e:items u g=some M):∃a vs,x=.ref a/\(SqL K H a vs\/SqT K H a vs)/\RVs K J H M vs:=by
 cases u with
 |ZZ xs=>let⟨a,vs,rfl,h1,h2⟩:=b;cases e;exact⟨a,vs,rfl,.inr h1.sq,h2⟩
 |Zv xs=>let⟨a,vs,rfl,h1,h2⟩:=b;cases e;exact⟨a,vs,rfl,.inl h1.sq,h2⟩
 |xn _ xs=>let⟨a,vs,rfl,h1,h2⟩:=b;cases e;exact⟨a,vs,rfl,.inr h1.sq,h2⟩
 |ref n=>
  let⟨a,rfl,c⟩:=b;simp![items]at e;cases eg:g[n]? with
  |none=>simp[eg]at e
  |some o=>
   cases o with
   |S xs=>
    simp![eg,Yo]at e;subst e;let⟨a',vs,h1,h2,d⟩:=h.S eg;rw[c]at h1;cases h1;exact⟨a,vs,rfl,.inl (.of h2),d⟩
   |ZJ _=>simp[eg]at e
   |YM _=>simp[eg]at e
   |dst _=>simp[eg]at e
   |ins _ _=>simp[eg]at e
 |_=>simp[items]at e
def wy{Z:L2.St}{w d:U}{c j:Bool}(I:Z4 X Y Z H s)(i:RV X.K J H w y)(h:RV X.K J H d y)(e:Jt w u=some c)(b:Jt d u=some j):c=j:=by
 have g:w=d:=by
  rcases dm e with⟨M,zs,rfl,rfl,e⟩|e
  .rcases dm b with⟨o,f,rfl,q,b⟩|b
   .cases q
    let⟨a,vs,rfl,n,m⟩:=i;let⟨a',p,q,l,k⟩:=h;cases q;obtain rfl:=I.U0 n.sq l.sq;rw[j6 m k e b]
   .cases d<;>simp[Ah]at b
  .rcases dm b with⟨o,f,rfl,rfl,b⟩|b
   .cases w<;>simp[Ah]at e
   .exact nv i h e b
 subst g;rw[e]at b;exact Vm b
def gM{a:Type}{e f:a->Bool}:∀{l:List a},(∀z∈l,e z=f z)->l.any e=l.any f
 |[],_=>rfl
 |x::l,h=>by rw[VJ,VJ,h x W_,gM λz b=>h z (Ig _ b)]
def cg{J:List Addr}{H:Hp}{Y:List (Addr×Obj)}{Z:L2.St}{s:Shared}{A:Around}{u:U}{x:V}{v:Value}(I:Z4 X Y Z H s)(C:A.units<cLine)(B:RV X.K J H u x)(t:RelV x v):
  ∀{M:List U} {vs:List V} {ZY:List Value} {b:Bool},RVs X.K J H M vs->ZM vs ZY->Jw u M=some b ->
   ∃e:Value->Bool,(∀y∈ZY,SeqAt.EqAt A s y v (e y))/\ZY.any e=b /\∀w y a c,RV X.K J H w y->RelV y a->a∈ZY->Jt w u=some c->e a=c
 |[],_,_,b,h,q,e=>by
  cases h;cases q;simp![Jw,Yo]at e;subst e;exact⟨λ_=>false,λy n=>by simp at n,rfl,λ_ _ _ _ _ _ o=>by simp at o⟩
 |w::M,_,_,b,h,q,e=>by
  let⟨y,ys,rfl,r,N⟩:=h;cases q with
  |cons l q=>
  rename_i a ZY;simp![Jw]at e;cases i:Jt w u with
  |none=>simp[i]at e
  |some c=>
   cases p:Jw u M with
   |none=>simp[i,p]at e
   |some d=>
    simp![i,p,Yo]at e;subst e;let⟨f,G,L,D⟩:=cg I C B t N q p;have n:SeqAt.EqAt A s a v c:=gm I C r B l t i;have k:∀z∈ZY,(if z=a then c else f z)=f z:=λz m=>by
     by_cases g:z=a
     .subst g
      rw[XW rfl];exact(D w y _ c r l m i).symm
     .rw [WV g]
    refine⟨λz=>if z=a then c else f z,λz m=>?_,?_,λF E j c' h1 h2 o e'=>?_⟩
    .by_cases g:z=a
     .subst g;simpa using n
     .rcases Xl.mp m with h|h
      .exact absurd h g
      .simpa [g]using G z h
    .rw [VJ,gM k,L]
     simp
    .by_cases g:j=a
     .subst g
      obtain rfl:=h2.inj l;simpa using(wy I r h1 i e')
     .rcases Xl.mp o with h|h
      .exact absurd h g
      .simpa [g]using D F E j c' h1 h2 h e'
def aaN(o:X.A.units+1<cLine):OpR X (compareOp .In) (UN X λu w g=>(items w g).bind (Jw u)):=by
 intro Y s Z H x y v u Q I l r ⟨J,g,a,w,b,B,n,t,k,q⟩;let⟨M,k,e⟩:=WQ.mp k;let⟨p,vs,rfl,c,m⟩:=cv B t k;cases r;rcases c with c|c
 .obtain ⟨ZY,d,pl,z⟩:=I.list c
  let⟨f,i,j,_⟩:=cg (A:=X.A.in1) I (by exact o) n l m d e
  exact SeqAt.in_listAt f pl.isList (λw h=>i w (by simpa using h)) ⟨.bl b,H,I,by rw[show ZY.toArray.any f=ZY.any f by simp,j];rfl,q⟩
 .obtain ⟨ZY,d,pl,z⟩:=I.tuple c
  let⟨f,i,j,_⟩:=cg (A:=X.A.in1) I (by exact o) n l m d e
  exact SeqAt.in_tupleAt f pl (λw h=>i w (by simpa using h)) ⟨.bl b,H,I,by rw[show ZY.toArray.any f=ZY.any f by simp,j];rfl,q⟩
def xA(n:X.A.units+1<cLine):OpR X (compareOp .NotIn) (UN X λu w g=>(items w g).bind λM=>(Jw u M).map (!·)):=by
 intro Y s Z H x y v u Q I k o ⟨J,g,a,w,E,z,m,r,D,q⟩;let⟨M,B,C⟩:=WQ.mp D;let⟨b,e,rfl⟩:=Yn.mp C;let⟨p,vs,rfl,c,l⟩:=cv z r B;cases o;rcases c with c|c
 .obtain ⟨ZY,d,pl,t⟩:=I.list c
  let⟨f,i,j,_⟩:=cg (A:=X.A.in1) I (by exact n) m k l d e
  exact SeqAt.notIn_listAt f pl.isList (λw h=>i w (by simpa using h)) ⟨.bl (!b),H,I,by rw[show ZY.toArray.any f=ZY.any f by simp,j];rfl,q⟩
 .obtain ⟨ZY,d,pl,t⟩:=I.tuple c
  let⟨f,i,j,_⟩:=cg (A:=X.A.in1) I (by exact n) m k l d e
  exact SeqAt.notIn_tupleAt f pl (λw h=>i w (by simpa using h)) ⟨.bl (!b),H,I,by rw[show ZY.toArray.any f=ZY.any f by simp,j];rfl,q⟩
end
open PySem PySem.Spec PyProof.Rows L2 PySem.W
def cV{c a:Type}{Z8:Model}{h:Heap}{f:c->a->Sem (ForInStep a)}{g:a->c->a}(I:List c->a->Prop)(d:∀x r b,I (x::r) b->Looks Z8 h (f x b) (.yield (g b x))/\I r (g b x)):∀(l:List c) (b:a),I l b->Looks Z8 h (forIn l b f) (l.foldl g b)
 |[],b,_=>by rw[List.forIn_nil];exact .now
 |x::l,b,hi=>by
  rw[R0];exact(d x l b hi).1.andThen (cV I d l _ (d x l b hi).2)
def AL(b:List (Str×Value))(x:Str×Value):List (Str×Value):=if(b.lookup x.1).isNone=true then b++[x]else b
def a8{a:Type}{n:Str}:∀{b c:List (Str×a)},(b++c).lookup n=match b.lookup n with|some v=>some v|none=>c.lookup n
 |[],c=>rfl
 |(m,v)::b,c=>by
  rw[SR,Vc,Vc];cases n==m with
  |true=>rfl
  |false=>exact a8
def gz{n:Str}{b:List (Str×Value)}{x:Str×Value}:(AL b x).lookup n=(b++[x]).lookup n:=by
 unfold AL;split
 .rfl
 .rename_i h
  rw[a8];cases e:b.lookup n with
  |some v=>rfl
  |none=>
   let⟨m,v⟩:=x;simp![Vc,List.lookup_nil];cases q:n==m with
   |false=>rfl
   |true=>rw[eq_of_beq q]at e;rw[e]at h;exact absurd rfl h
def cY{n:Str}:∀{l b:List (Str×Value)},(l.foldl AL b).lookup n=(b++l).lookup n
 |[],b=>by simp
 |x::l,b=>by
  rw[Ro,cY,a8,gz,<-a8,VC]
  rfl
def hV{a:Type}{n:Str}:∀{l:List (Str×a)},(l.map (·.1)).contains n=false->l.lookup n=none
 |[],_=>rfl
 |(m,v)::l,h=>by
  rw[YG,Rq,Ue]at h;rw[Vc,h.1];exact hV h.2
def eC{a:Type}{n:Str}:∀{l:List (Str×a)},(l.map (·.1)).contains n=true->(l.lookup n).isSome=true
 |[],h=>by cases h
 |(m,v)::l,h=>by
  rw[YG,Rq,Sb]at h;rw[Vc];cases q:n==m with
  |true=>rfl
  |false=>
   rcases h with h|h
   .rw [q]at h;cases h
   .exact eC h
def cw{a:Type}:∀{ns:List Str} {M:List a},(ns.zip M).map (·.1)=ns.take M.length
 |[],_=>by simp
 |_::_,[]=>by simp
 |n::ns,u::M=>by simp[cw (ns:=ns) (M:=M)]
def sX{K:Frag}{ns ks:List Str}{M:List Value}{kw:List (Str×Value)}{c:Option (Array Value)}{kd:Str->Value}(X:K.In h)
  (J:fd.params.posonlyargs=[]) (I:fd.params.args.map (·.arg)=ns) (H:fd.params.vararg=none) (G:fd.params.kwonlyargs.map (·.arg)=ks) (F:fd.params.kwarg=none)
  (E:Looks Z8 h (seqItems? fd.defaults) c) (k:(c.getD #[]).toList.length<=ns.length) (W:M.length<=ns.length) (S:∀p∈kw,(ns.contains p.1||ks.contains p.1)=true) (D:Cs (ns.take M.length) (kw.map (·.1))=true)
  (A:∀n∈ns.take (ns.length-(c.getD #[]).toList.length),(ns.take M.length++kw.map (·.1)).contains n=true)
  (B:∀n∈ks,(ns.take M.length++kw.map (·.1)).contains n=false ->∃d,fd.kwdefaults=.ref d/\nsIn K d n=some (some (kd n))) :
  Looks Z8 h (bindArgs fd ⟨M,kw⟩) ((ns++ks).filterMap λn=>((ns.zip M++(kw++((ns.drop (ns.length-(c.getD #[]).toList.length)).zip (c.getD #[]).toList++ks.map λn=>(n,kd n)))).lookup n).map (n,·)):=by
 unfold bindArgs;simp![J,I,H,G,F,Rj,QJ,Option.isSome_none,Vj,Td];have Q:∀(l:List (Str×Value)) (b:List (Str×Value)×List (Str×Value)),l.foldl (λb x=>(b.1++[x],b.2)) b=(b.1++l,b.2):=by
  intro l
  induction l with
  |nil=>intro b;simp
  |cons x l ih=>intro b;rw[Ro,ih];simp
 refine Looks.andThen (a:=(ns.zip M++kw,[])) ?l1 ?V
 case l1=>
  have:=Q kw (ns.zip M,[]);rw[<-this];refine cV (g:=λ(b:List (Str×Value)×List (Str×Value)) x=>(b.1++[x],b.2)) (λr b=>(∀p∈r,(ns.contains p.1||ks.contains p.1)=true)/\Cs (b.1.map (·.1)) (r.map (·.1))=true) ?_ kw _ ⟨S,by rw[cw];exact D⟩
  rintro x r b ⟨o,f⟩;rw[YG,Cs,Zc,W4]at f;refine⟨?_,λp y=>o p (Ig _ y),by rw[Sv];exact f.2⟩
  rw[XW (o x W_),hV f.1];exact .now
 refine E.andThen ?_;have C : ¬ M.length > ns.length:=by omega
 generalize Y:(c.getD #[]).toList=ds at *;have P:List.drop (ds.length-ns.length) ds=ds:=by rw[Nat.sub_eq_zero_of_le k,List.drop_zero]
 simp![Sa C,QN,Vj,Td,P];have O:List.filter (λn=>((ns.zip M++kw).lookup n).isNone) (ns.take (ns.length-ds.length))=[]:=by
  rw[QA];intro x w;have:=eC (l:=ns.zip M++kw) (n:=x) (by rw[Sv,cw];exact A x w)
  cases q:(ns.zip M++kw).lookup x with
  |none=>rw[q]at this;cases this
  |some v=>simp
 simp![O,RG,Qn,Vj,Td];have N:∀(l:List Str) (b:List (Str×Value)×List Str),l.foldl (λ(b:List (Str×Value)×List Str) n=>(AL b.1 (n,kd n),b.2)) b=((l.map λn=>(n,kd n)).foldl AL b.1,b.2):=by
  intro l
  induction l with
  |nil=>intro b;rfl
  |cons x l ih=>intro b;rw[Ro,ih];rfl
 refine Looks.andThen (a:=List.foldl AL (ns.zip M++kw) ((ns.drop (ns.length-ds.length)).zip ds)) ?u ?U
 case u=>
  refine cV (g:=AL) (λ_ _=>True) ?_ _ _ trivial;rintro x r b -;refine⟨?_,trivial⟩;unfold AL;split
  .exact .now
  .exact .now
 refine Looks.andThen (a:=((ks.map λn=>(n,kd n)).foldl AL (List.foldl AL (ns.zip M++kw) ((ns.drop (ns.length-ds.length)).zip ds)),[])) ?t ?T
 case t=>
  have:=N ks (List.foldl AL (ns.zip M++kw) ((ns.drop (ns.length-ds.length)).zip ds),[]);rw[<-this];refine cV (g:=λ(b:List (Str×Value)×List Str) n=>(AL b.1 (n,kd n),b.2)) (λr b=>∀n∈r,(b.1.lookup n).isNone=true ->∃d,fd.kwdefaults=.ref d/\nsIn K d n=some (some (kd n))) ?_ ks _ ?_
  .intro x r b q
   refine⟨?_,λn j hi=>?_⟩
   .dsimp only [AL]
    split
    .rename_i hi
     let⟨d,R,Kx⟩:=q x W_ hi;rw[R];exact(looks_nsIn X Kx).andThen .now
    .exact .now
   .refine q n (Ig _ j) ?_
    have:=gz (n:=n) (b:=b.1) (x:=(x,kd x));dsimp only at hi;rw[this,a8]at hi;cases e:b.1.lookup n with
    |none=>rfl
    |some v=>rw[e]at hi;cases hi
  .intro n j hi
   refine B n j ?_;dsimp only at hi;rw[cY,a8]at hi;cases e:(ns.zip M++kw).lookup n with
   |some v=>rw[e]at hi;cases hi
   |none=>
    rw[Bool.eq_false_iff];intro z;have:=eC (l:=ns.zip M++kw) (n:=n) (by rw[Sv,cw];exact z)
    rw[e]at this;cases this
 simp![RG,Qn,Vj,Td];have L:∀n,(List.foldl AL (List.foldl AL (ns.zip M++kw) ((ns.drop (ns.length-ds.length)).zip ds)) (ks.map λn=>(n,kd n))).lookup n=(ns.zip M++(kw++((ns.drop (ns.length-ds.length)).zip ds++ks.map λn=>(n,kd n)))).lookup n:=λn=>by
  rw[cY,a8,cY,<-a8];simp![VC]
 simp![L];exact .now
inductive F2{α β:Type}(R:α->β->Prop):List α->List β->Prop
 |nil:F2 R [] []
 |cons {a:α} {b:β} {l:List α} {m:List β}:R a b->F2 R l m->F2 R (a::l) (b::m)
section
variable{R:α->β->Prop}
def PR(R:α->β->Prop)(p:Str×α)(q:Str×β):Prop:=p.1=q.1/\R p.2 q.2
def F2.zip{l:List α}{m:List β}(h:F2 R l m):∀ns:List Str,F2 (PR R) (ns.zip l) (ns.zip m):=by
 induction h with
 |nil=>intro ns;cases ns<;>exact .nil
 |cons r _ ih=>
  intro ns;cases ns with
  |nil=>exact .nil
  |cons n ns=>exact .cons ⟨rfl,r⟩ (ih ns)
def F2.append{l b:List α}{m a:List β}(h:F2 R l m)(h':F2 R b a):F2 R (l++b) (m++a):=by
 induction h with
 |nil=>exact h'
 |cons r _ ih=>exact .cons r ih
def F2.lookup{l:List (Str×α)}{m:List (Str×β)}(h:F2 (PR R) l m)(n:Str):(l.lookup n=none/\m.lookup n=none) \/∃a b,l.lookup n=some a/\m.lookup n=some b/\R a b:=by
 induction h with
 |nil=>exact .inl ⟨rfl,rfl⟩
 |@cons a b l m r _ ih=>
  let⟨c,a⟩:=a;let⟨d,b⟩:=b;let⟨e,r⟩:=r;dsimp only at e r;subst e;rw[Vc,Vc];cases q:n==c with
  |true=>exact .inr ⟨a,b,rfl,rfl,r⟩
  |false=>exact ih
def F2.filterMap{f:Str->Option α}{c:Str->Option β}(h:∀n,(f n=none/\c n=none) \/∃a b,f n=some a/\c n=some b/\R a b):∀ns:List Str,F2 R (ns.filterMap f) (ns.filterMap c)
 |[]=>.nil
 |n::ns=>by
  rw[VQ,VQ];rcases h n with⟨a,b⟩|⟨x,y,a,b,r⟩
  .rw [a,b];exact F2.filterMap h ns
  .rw [a,b];exact .cons r (F2.filterMap h ns)
end
def cb{R:α->β->Prop}{ns ks kw:List Str}{dd:List (Str×α)}{c:List (Str×β)}{M ws:List α}{b a:List β}(f:F2 (PR R) dd c)(e:F2 R M b)(d:F2 R ws a):F2 R (place ns ks kw dd M ws) (place ns ks kw c b a):=
 F2.filterMap (λn=>((e.zip ns).append ((d.zip kw).append f)).lookup n) _
def ir{a:Type}{f:Str->Option a}:∀{ps:List Str},(ps.filterMap f).length=ps.length->(ps.filterMap λn=>(f n).map (n,·))=ps.zip (ps.filterMap f)
 |[],_=>rfl
 |n::ps,h=>by
  rw[VQ]at h ⊢;rw[VQ];cases e:f n with
  |none=>
   rw[e]at h;have:=List.length_filterMap_le f ps;simp![Wa]at h;omega
  |some v=>
   rw[e]at h;simp![Vw,S9];rw[ir (by simpa using h)]
def eB{M:List U}:∀{l pre post:List U},M=pre++(l++post)->F2 (λp u=>pick M p=u) ((List.range' pre.length l.length).map Sum.inl) l
 |[],_,_,_=>.nil
 |x::l,pre,post,e=>by
  rw[Wa,List.range'_succ,YG];refine .cons ?_ ?_
  .show M[pre.length]?.getD U.ZR=x
   rw[e,SR,XN (Ie _)];simp
  .have:=eB (l:=l) (pre:=pre++[x]) (post:=post) (M:=M) (by rw[e];simp)
   simpa using this
def eI{F:KF}{c:Nat}{kw:List Str}{ws:List U}(d:M.length=c)(f:ws.length=kw.length):perm (M++ws) (AU F c kw)=place F.ns F.ks kw F.dd M ws:=by
 have a:∀{l:List (Nat ⊕ U)} {m:List U},F2 (λp u=>pick (M++ws) p=u) l m->l.map (pick (M++ws))=m:=λ{l m} h=>by
  induction h with
  |nil=>rfl
  |cons r _ ih=>rw[YG,r,ih]
 refine a (cb ?_ ?_ ?_)
 .have:∀l:List (Str×U),F2 (PR λp u=>pick (M++ws) p=u) (l.map λp=>(p.1,Sum.inr p.2)) l:=by
   intro l
   induction l with
   |nil=>exact .nil
   |cons x l ih=>exact .cons ⟨rfl,rfl⟩ ih
  exact this _
 .have:=eB (M:=M++ws) (l:=M) (pre:=[]) (post:=ws) #[3]
  rw[d]at this;exact this
 .have:=eB (M:=M++ws) (l:=ws) (pre:=M) (post:=[]) #[3]
  rw[d,f]at this;exact this
def F2.vals{M:List Value}(h:ZM vs M):F2 RelV vs M:=by
 induction h with
 |nil=>exact .nil
 |cons r _ ih=>exact .cons r ih
def F2.toVals{M:List Value}(h:F2 RelV vs M):ZM vs M:=by
 induction h with
 |nil=>exact .nil
 |cons r _ ih=>exact .cons r ih
def F2.UM{K:Frag}{J:List Addr}{H:Hp}:∀{M:List U} {vs:List V},RVs K J H M vs->F2 (RV K J H) M vs
 |[],_,h=>by cases h;exact .nil
 |u::M,_,h=>by let⟨v,r,rfl,h1,h2⟩:=h;exact .cons h1 (F2.UM h2)
def F2.TR{K:Frag}(h:F2 (RV K J H) M vs):RVs K J H M vs:=by
 induction h with
 |nil=>rfl
 |cons r _ ih=>exact⟨_,_,rfl,r,ih⟩
structure X8(K:Frag)(fd:FuncData)(F:KF)(nd:Nat)(ZH:List (Str×V))(dd:List (Str×Value)):Prop where
 h1:fd.params.posonlyargs=[]
 h2:fd.params.args.map (·.arg)=F.ns
 h3:fd.params.vararg=none
 h4:fd.params.kwonlyargs.map (·.arg)=F.ks
 h5:fd.params.kwarg=none
 ds:∃(Xw:List Value) (kd:Str->Value),(∀(Z8:Model) (h:Heap),K.In h ->∃od:Option (Array Value),(od.getD #[]).toList=Xw/\Looks Z8 h (seqItems? fd.defaults) od)/\Xw.length=nd/\nd<=F.ns.length /\
  (∀n∈F.ks,∃d,fd.kwdefaults=.ref d/\nsIn K d n=some (some (kd n)))/\dd=(F.ns.drop (F.ns.length-nd)).zip Xw++F.ks.map λn=>(n,kd n)
 rel:F2 (PR RelV) ZH dd
 urel:F2 (PR λu v=>∀J H,RV K J H u v) F.dd ZH
def X8.binds{K:Frag}{F:KF}{i d:Nat}{dd:List (Str×Value)}{kw:List Str}(a:X8 K fd F i ZH dd)(j:Bv F i d kw=true)(y:F.ns++F.ks≠[]):
  Vp K fd (F.ns++F.ks) kw (λM ws=>if M.length=d/\ws.length=kw.length then place F.ns F.ks kw dd M ws else[]) (λvs zs=>if vs.length=d/\zs.length=kw.length then place F.ns F.ks kw ZH vs zs else[]):=by
 refine⟨λs M ws X f=>?_,λ{vs M zs ws} h g=>?_⟩
 .split at f
  .rename_i v
   let⟨c,k⟩:=v;rw[XW ⟨c,k⟩];simp![Bv,Zc,XE,Wn]at j;let⟨⟨⟨m,l⟩,s3⟩,s4⟩:=j;let⟨B,kd,Z9,l1,t,r,o⟩:=a.ds;have e:(kw.zip ws).map (·.1)=kw:=by rw[cw,k,RJ]
   intro Z8 A E Q q;let⟨od,KJ,z⟩:=Z9 Z8 s.heap X;have:=sX (Z8:=Z8) (M:=M) (kw:=kw.zip ws) (kd:=kd) X a.h1 a.h2 a.h3 a.h4 a.h5 z (by rw[KJ,l1];exact t) (by rw[c];exact m)
    (λp u=>by have:=l p.1 (by rw[<-e];exact R6 u);simpa using this) (by rw[c,e];exact s3) (λn b=>by rw[KJ,l1]at b;rw[c,e];exact s4 n b) (λn b _=>r n b)
   refine this.here ?_;rw[KJ,l1,<-o];rw[ir (by exact f)]
   exact q
  .exact absurd (Qs.mp f.symm) y
 .have x:=h.length
  have w:=g.length;rw[x,w];split
  .exact (cb a.rel (.vals h) (.vals g)).toVals
  .exact .nil
open PySem PySem.Spec PyProof.Rows L2
section
def br{a b:List Int}:(a.map (Sum.inl:Int->Key)=b.map Sum.inl)↔a=b:=
 ⟨λh=>(List.map_inj_right (λx y e=>Sum.inl.inj e)).mp h,λh=>by rw[h]⟩
def RD.val(k:List Int):∀{Z3:List (List Int×U)} {ws:List (List Key×V)},RD K J H Z3 ws->(AS ws (k.map Sum.inl)).isSome=(Aq Z3 k).isSome
 |[],_,h=>by cases h;rfl
 |(k',u)::r,_,h=>by
  let⟨v,s,rfl,h1,h2⟩:=h;by_cases e:k'=k
  .rw [bG (br.mpr e)]
   simp[Aq,Uq,e]
  .rw [bI (λz=>e (br.mp z)),RD.val k h2]
   simp[Aq,Uq,e]
def RD.got(k:List Int){u:U}:∀{Z3:List (List Int×U)} {ws:List (List Key×V)},RD K J H Z3 ws->Aq Z3 k=some u ->∃v,AS ws (k.map Sum.inl)=some v/\RV K J H u v
 |[],_,h,e=>by cases e
 |(k',a)::r,_,h,e=>by
  let⟨v,s,rfl,h1,h2⟩:=h;by_cases z:k'=k
  .rw [bG (br.mpr z)]
   simp[Aq,Uq,z]at e;subst e;exact⟨v,rfl,h1⟩
  .rw [bI (λy=>z (br.mp y))]
   exact RD.got k h2 (by simpa[Aq,Uq,z]using e)
def RD.at:∀{Z3:List (List Int×U)} {ws:List (List Key×V)} {i:Nat} {k:List Int} {u:U},RD K J H Z3 ws->Z3[i]?=some (k,u) ->∃v,ws[i]?=some (k.map Sum.inl,v)/\RV K J H u v
 |[],_,_,_,_,_,e=>by simp at e
 |(k',a)::r,_,0,k,u,h,e=>by
  let⟨v,s,rfl,h1,h2⟩:=h;simp at e;let⟨rfl,rfl⟩:=e;exact⟨v,by simp,h1⟩
 |(k',a)::r,_,i+1,k,u,h,e=>by
  let⟨v,s,rfl,h1,h2⟩:=h;let⟨x,c,b⟩:=RD.at (i:=i) h2 (by simpa using e)
  exact⟨x,by simpa using c,b⟩
def RD.any(k:List Int):∀{Z3:List (List Int×U)} {ws:List (List Key×V)},RD K J H Z3 ws->(ws.any λa=>decide (a.1=k.map Sum.inl))=Z3.any λa=>decide (a.1=k)
 |[],_,h=>by cases h;rfl
 |(k',u)::r,_,h=>by
  let⟨v,s,rfl,h1,h2⟩:=h;rw[VJ,VJ,RD.any k h2];congr 1;exact decide_eq_decide.mpr br
def RD.len:∀{Z3:List (List Int×U)} {ws:List (List Key×V)},RD K J H Z3 ws->Z3.length=ws.length
 |[],_,h=>by cases h;rfl
 |(k',u)::r,_,h=>by
  let⟨v,s,rfl,h1,h2⟩:=h;simp[RD.len h2]
def RD.snoc{k:List Int}{u:U}{v:V}(q:RV K J H u v):∀{Z3:List (List Int×U)} {ws:List (List Key×V)},RD K J H Z3 ws->RD K J H (Z3++[(k,u)]) (ws++[(k.map Sum.inl,v)])
 |[],_,h=>by cases h;exact⟨v,[],rfl,q,rfl⟩
 |(k',a)::r,_,h=>by
  let⟨w,s,rfl,h1,h2⟩:=h;exact⟨w,_,rfl,h1,RD.snoc q h2⟩
def RD.Xc{k:List Int}{u:U}{v:V}(q:RV K J H u v):∀{Z3:List (List Int×U)} {ws:List (List Key×V)},RD K J H Z3 ws ->
  RD K J H (Z3.map λa=>if a.1=k then(a.1,u)else a) (ws.map λa=>if a.1=k.map Sum.inl then(a.1,v)else a)
 |[],_,h=>by cases h;rfl
 |(k',b)::r,_,h=>by
  let⟨w,s,rfl,h1,h2⟩:=h;rw[YG,YG];by_cases e:k'=k
  .rw [XW e,XW (br.mpr e)];exact⟨v,_,rfl,q,RD.Xc q h2⟩
  .rw [WV e,WV (λz=>e (br.mp z))];exact⟨w,_,rfl,h1,RD.Xc q h2⟩
def RD.put{k:List Int}(q:RV K J H u v){ws:List (List Key×V)}(h:RD K J H Z3 ws):RD K J H (dput Z3 k u) (putK ws (k.map Sum.inl) v):=by
 unfold dput putK;rw[h.any k];split
 .exact h.Xc q
 .exact h.snoc q
def RK.len:∀{Z3:List (Str×U)} {ws:List (Key×V)},RK K J H Z3 ws->Z3.length=ws.length
 |[],_,h=>by cases h;rfl
 |(k',u)::r,_,h=>by
  let⟨v,s,rfl,h1,h2⟩:=h;simp[RK.len h2]
def RK.got(k:Str){u:U}:∀{Z3:List (Str×U)} {ws:List (Key×V)},RK K J H Z3 ws->BU Z3 k=some u ->∃v,AS ws (Sum.inr k)=some v/\RV K J H u v
 |[],_,h,e=>by cases e
 |(k',a)::r,_,h,e=>by
  let⟨v,s,rfl,h1,h2⟩:=h;by_cases z:k'=k
  .rw [bG (T8 Sum.inr z)]
   simp[BU,Uq,z]at e;subst e;exact⟨v,rfl,h1⟩
  .rw [bI (λy=>z (QM y))]
   exact RK.got k h2 (by simpa[BU,Uq,z]using e)
def RK.any(k:Str):∀{Z3:List (Str×U)} {ws:List (Key×V)},RK K J H Z3 ws->(ws.any λa=>decide (a.1=Sum.inr k))=Z3.any λa=>decide (a.1=k)
 |[],_,h=>by cases h;rfl
 |(k',u)::r,_,h=>by
  let⟨v,s,rfl,h1,h2⟩:=h;rw[VJ,VJ,RK.any k h2];congr 1;exact decide_eq_decide.mpr ⟨QM,T8 Sum.inr⟩
def RK.snoc{k:Str}{u:U}{v:V}(q:RV K J H u v):∀{Z3:List (Str×U)} {ws:List (Key×V)},RK K J H Z3 ws->RK K J H (Z3++[(k,u)]) (ws++[(Sum.inr k,v)])
 |[],_,h=>by cases h;exact⟨v,[],rfl,q,rfl⟩
 |(k',a)::r,_,h=>by
  let⟨w,s,rfl,h1,h2⟩:=h;exact⟨w,_,rfl,h1,RK.snoc q h2⟩
def RK.Xc{k:Str}{u:U}{v:V}(q:RV K J H u v):∀{Z3:List (Str×U)} {ws:List (Key×V)},RK K J H Z3 ws ->
  RK K J H (Z3.map λa=>if a.1=k then(a.1,u)else a) (ws.map λa=>if a.1=Sum.inr k then(a.1,v)else a)
 |[],_,h=>by cases h;rfl
 |(k',b)::r,_,h=>by
  let⟨w,s,rfl,h1,h2⟩:=h;rw[YG,YG];by_cases e:k'=k
  .rw [XW e,XW (T8 Sum.inr e)];exact⟨v,_,rfl,q,RK.Xc q h2⟩
  .rw [WV e,WV (λz=>e (QM z))];exact⟨w,_,rfl,h1,RK.Xc q h2⟩
def RK.put{k:Str}(q:RV K J H u v){Z3:List (Str×U)}{ws:List (Key×V)}(h:RK K J H Z3 ws):RK K J H (Ef Z3 k u) (putK ws (Sum.inr k) v):=by
 unfold Ef putK;rw[h.any k];split
 .exact h.Xc q
 .exact h.snoc q
def yZ{y:U}{b:V}{Z3:List (Str×U)}(h:RH K J H g)(f:RV K J H y b)(e:Jx y g=some Z3):∃n a ws,y=.ref n/\g[n]?=some (.dst Z3)/\J[n]?=some a/\b=.ref a/\H a=some (.dK ws)/\RK K J H Z3 ws:=by
 cases y with
 |ref n=>
  simp![Jx]at e;cases eg:g[n]? with
  |none=>rw[eg]at e;cases e
  |some ob=>
   cases ob with
   |dst j=>
    rw[eg]at e;cases e;let⟨a,ws,c,i,rk⟩:=h.dst eg;let⟨a',rfl,d⟩:=f;rw[c]at d;cases d;exact⟨n,_,ws,rfl,eg,c,rfl,i,rk⟩
   |_=>rw[eg]at e;cases e
 |_=>cases e
def iH:∀{M:List U} {ns:List Int} {vs:List V},intsOf M=some ns->RVs K J H M vs->vs=ns.map V.int
 |[],_,_,e,h=>by cases e;cases h;rfl
 |u::M,ns,vs,e,h=>by
  let⟨v,r,rfl,h1,h2⟩:=h;cases u with
  |int i=>
   simp![intsOf]at e;let⟨m,a,rfl⟩:=Yn.mp e;cases h1;rw[iH a h2];rfl
  |_=>cases e
def fN{x:U}{k:List Int}(e:keyOf x=some k)(r:RV K J H x v):∃b,v=.ref b/\H b=some (.ZZ ((k.map Sum.inl).map IV)):=by
 cases x with
 |ZZ M=>
  let⟨a,vs,rfl,h1,h2⟩:=r;refine⟨a,rfl,?_⟩;rw[show H a=some (.ZZ vs)from h1,iH e h2,QW]
  rfl
 |_=>cases e
def zf{y:U}{h:V}(i:RH K J H g)(j:RV K J H y h)(b:Jy y g=some Z3):∃a ws,h=.ref a/\Rd H a (.dT ws)/\RD K J H Z3 ws:=by
 cases y with
 |ref n=>
  simp![Jy]at b;cases eg:g[n]? with
  |none=>rw[eg]at b;cases b
  |some ob=>
   let⟨a',rfl,c⟩:=j;cases ob with
   |ZJ k=>
    rw[eg]at b;cases b;let⟨a,ws,e,f,d⟩:=i.ZJ eg;rw[e]at c;cases c;exact⟨_,ws,rfl,.inl f,d⟩
   |YM k=>
    rw[eg]at b;cases b;let⟨a,ob,ws,e,f,d⟩:=i.YM eg;rw[e]at c;cases c;exact⟨_,ws,rfl,.inr ⟨ob,f⟩,d⟩
   |_=>rw[eg]at b;cases b
 |_=>cases b
def eV{x y:U}{h f:V}{o:Option U}(m:RH K J H g)(l:RV K J H x h)(j:RV K J H y f)(e:AJ x y g=some o):∃a c,f=.ref a/\DGet H a h c/\c.isSome=o.isSome /\∀u,o=some u ->∃v,c=some v/\RV K J H u v:=by
 unfold AJ at e;cases d:Jy y g with
 |none=>rw[d]at e;cases e
 |some Z3=>
  rw[d]at e;let⟨k,q,rfl⟩:=Yn.mp e;let⟨a,ws,rfl,p,i⟩:=zf m j d;let⟨b,rfl,n⟩:=fN q l;exact⟨a,_,rfl,.inr ⟨ws,_,b,p,rfl,n,rfl⟩,i.val k,λu z=>i.got k z⟩
end
section
def zh(d:X.A.units+1<cLine):OpR X (compareOp .In) (λy x H Q=>∃a o,x=.ref a/\DGet H a y o/\Q (.bl o.isSome) H):=by
 intro Y s Z H y x v u Q I b c ⟨a,o,e,g,q⟩;subst e;obtain rfl:u=Value.ref a:=c;exact acR d I g b λs3 f=>⟨.bl o.isSome,H,f,rfl,q⟩
def yv(d:X.A.units+1<cLine):OpR X (compareOp .NotIn) (λy x H Q=>∃a o,x=.ref a/\DGet H a y o/\Q (.bl (!o.isSome)) H):=by
 intro Y s Z H y x v u Q I b c ⟨a,o,e,g,q⟩;subst e;obtain rfl:u=Value.ref a:=c;exact xr d I g b λs3 f=>⟨.bl (!o.isSome),H,f,rfl,q⟩
def nF{r c:R2}(h:OpR X f r)(h':OpR X f c):OpR X f (λx y H Q=>r x y H Q\/c x y H Q):=λY s Z H x y v u Q I b a q=>
 q.elim (λq=>h Y s Z H x y v u Q I b a q) λq=>h' Y s Z H x y v u Q I b a q
def abE{Z:L2.St}{b:Addr}{Z3:List (List Key×V)}{k:List Key}{r:Value}{E:Value->Shared->Prop}{Q:Unit->Shared->Prop}(m:X.A.units+1<cLine)(I:L2.Z4 X Y Z H s)(e:H a=some (.dT Z3))(i:H b=some (.ZZ (k.map IV)))(l:Z3.length<sizeLine)(j:RelV v r)
  (h:∀s',L2.Z4 X Y Z (upd H a (.dT (putK Z3 k v))) s'->Q Unit.unit s'):wpAny (model X.prog X.w) X.A (dictSet a (.ref b) r) Q E s:=by
 let⟨z,n,xs,d,dd⟩:=rm I.ZO e;refine wpAny_dictSet_heap (hsz:=by rw[<-RN d];exact z) (by exact Nat.lt_of_succ_lt m) (bU I.ZO i) dd λh' x hs=>h _ ?_
 let⟨q,es,u,f,h2,t,p,_,o⟩:=x;refine fg I (by rw[e];exact True.intro) hs ⟨q,f⟩ ⟨by have:=eA Z3 k v;omega,n,_,(d.put k i j).keeps λc ys g=>?_,q,es,u,f,h2,t,p,o⟩
 rw[aa (cO g e (λz=>nomatch z))];exact g
def Hz:CJ:=λo i v H Q=>∃a H',o=.ref a/\DPut H a i v H'/\Q H'
def set_dict(h:X.A.units+1<cLine):Cf X Hz:=by
 intro Y s Z H o i v f k u Q I c d b ⟨a,H',e,g,q⟩;subst e;obtain rfl:f=Value.ref a:=c;exact t5 h I g d b λs4 j=>⟨H',j,q⟩
def x5{r d:CJ}(h:Cf X r)(h':Cf X d):Cf X (λo i v H Q=>r o i v H Q\/d o i v H Q):=λY s Z H o i v e f u Q I b c a q=>
 q.elim (λq=>h Y s Z H o i v e f u Q I b c a q) λq=>h' Y s Z H o i v e f u Q I b c a q
end
section
def zp(F:X.A.units+2<cLine):OpR X (compareOp .NotEq) (λx y H Q=>∃J M ws b,RV X.K J H (.ZZ M) x/\RV X.K J H (.ZZ ws) y/\Jz Jt M ws=some b/\Q (.bl (!b)) H):=by
 intro Y s Z H x y v u Q I i h ⟨J,M,ws,b,m,k,e,q⟩;let⟨a,xs,rfl,h1,h2⟩:=m;let⟨a',ys,rfl,C,B⟩:=k;cases i;cases h;let⟨ZY,g,r,_⟩:=I.tuple h1.sq;let⟨c,d,p2,_⟩:=I.tuple C.sq;let⟨f,l,t,z⟩:=bJ (A:=X.A.in1) (s:=s) (λu w x y v E b g d p o n=>gm (A:=X.A.in1) I (show X.A.units+1<cLine by omega) g d p o n) h2 B g d e
 refine SeqAt.RcNeAt.tuples (A:=X.A) (s:=s) (l:=a) (b:=a') (items:=ZY.toArray) (items2:=c.toArray) (e:=f) r p2 () (λj h1 h2=>by simpa using t j (by simpa using h1) (by simpa using h2)) X.prog X.w X.xe _ ⟨.bl (!b),H,I,?_,q⟩
 have D:((List.range (min ZY.toArray.size c.toArray.size)).all f&&ZY.toArray.size==c.toArray.size)=b:=by simp[<-l,z]
 rw[D]
 rfl
end
section
variable{W:XQ}{Z:L2.St}
def d0(I:Z4 X Y Z H s)(h:RH X.K J H g){x:V}{v:Value}(e:g[n]?=some (.S M))(r:RV X.K J H (.ref n) x)(c:RelV x v):∃(a:Addr) (vs:List V) (ZY:List Value),J[n]?=some a/\v=.ref a/\RVs X.K J H M vs/\ZM vs ZY/\s.heap.IsList a ZY.toArray:=by
 let⟨a,vs,b,j,i⟩:=h.S e;let⟨a',rfl,z⟩:=r;rw[b]at z;cases z;cases c;let⟨ZY,d,f,_⟩:=I.list (.of j);exact⟨a,vs,ZY,b,rfl,i,d,f.isList⟩
inductive RprX(X:Cx)(xs:List V)(H:Hp)(Q:VK):Prop
 |mk (J:List Addr) (g:G) (u:U) (x:V) (d:PyData) (e:xs=[x]) (hg:RH X.K J H g) (r:RV X.K J H u x) (er:F9 u g=some d) (h1:d.showable=true) (h2:d.shown.length<=sizeLine) (q:Q (.str d.shown) H)
def xB{w:U}(e:Ah u w=some b):Jt u w=some b:=by cases u<;>cases w<;>first|exact e|cases e
def zF(hu:X.A.units+2<cLine)(I:Z4 X Y Z H s)(C:RH X.K J H g){w:U}{x:V}{v z:Value}(e:JB g u w=some b)(O:RV X.K J H u x)(N:RV X.K J H w y)(M:RelV x v)(L:RelV y z):SeqAt.EqAt X.A.in1 s v z b:=by
 let⟨p,r,q⟩:=WQ.mp e;let⟨n,m,rfl,rfl,E,g2⟩:=dn r;let⟨a,vs,ZY,c1,rfl,t,d,l1⟩:=d0 I C E O M;let⟨a',ws,h,d1,rfl,G,c,D⟩:=d0 I C g2 N L;by_cases k:a=a'
 .subst k
  cases C.inj n m a c1 d1;have F:p.1=p.2:=T8 (λo=>match o with|Z6.S xs=>xs|_=>[]) (Vm (E.symm.trans g2))
  rw[XW (by rw[F]),<-F]at q
  rw[fq (λu w y b d c B=>jz I d c (xB B)) t t q];exact RZ _
 refine Qe k ?_;have i:X.A.in1.units<cLine:=by show X.A.units+1<_;omega
 have k1:ZY.length=p.1.length:=by rw[<-d.length,<-t.length]
 have k2:h.length=p.2.length:=by rw[<-c.length,<-G.length]
 split at q
 .rename_i r
  let⟨f,l,R,T⟩:=bJ (A:=X.A.in1.in1) (s:=s) (λu w x y v z b d c B Q P=>by let⟨fx,W,ev⟩:=d.flat c P;subst ev;exact dY B Q fx W) t G d c q
  rw[<-T];exact SeqAt.RcAt.lists (e:=f) l1 D (by simp[l]) i λj h1 h2=>by simpa using R j (by simpa using h1) (by simpa using h2)
 .rename_i r
  cases q;exact SeqAt.RcAt.lists_lengths l1 D (by simp[k1,k2,r]) i
def zm(L:X.A.units+2<cLine):OpR X (compareOp .Eq) (UN X λu w g=>(AM u w g).bind λp=>if p.1.length=p.2.length then Jz (JB g) p.1 p.2 else some false):=by
 intro Y s Z H x y v u Q I C B ⟨J,g,m,n,b,k,E,D,e,q⟩;let⟨p,i,o⟩:=WQ.mp e;let⟨n,m,rfl,rfl,O,g2⟩:=dn i;let⟨a,vs,ZY,S,rfl,z,h,l1⟩:=d0 I k O E C;let⟨a',ws,c,R,rfl,t,d,r⟩:=d0 I k g2 D B;have k1:ZY.length=p.1.length:=by rw[<-h.length,<-z.length]
 have k2:c.length=p.2.length:=by rw[<-d.length,<-t.length]
 split at o
 .obtain ⟨f,l,M,N⟩:=bJ (A:=X.A.in1) (s:=s) (λu w x y v P b h d K G F=>zF L I k F h d K G) z t h d o
  refine SeqAt.eq_listAt (e:=f) l1 r (by simp[l]) () (λj h1 h2=>by simpa using M j (by simpa using h1) (by simpa using h2)) ⟨.bl b,H,I,?_,q⟩
  rw[<-N];simp![XB]
  rfl
 .rename_i i
  cases o;exact SeqAt.eq_list_lengthsAt l1 r (by simp[k1,k2,i]) () ⟨.bl false,H,I,rfl,q⟩
end
section
variable{W:XQ}{a b c:Expr}{b' c':E}
def one{R:List Addr->Hp->α->β->Prop}{f:Su->G->Out U}{k:Su->U->G->Out α}{Z:L2.St}{H:Hp}{Q:β->Hp->Prop}
  (hp:tR X.K W R (λa g=>(f a g).bind λx g=>k a x g) Z H Q)
  (b:∀a J H g u x,RS X.K J H a Z->RH X.K J H g->RV X.K J H u x->post X.K W R (k a u g) J H Q->Q2 x H):tE X.K W f Z H Q2:=by
 let⟨a,J,g,hs,e,p⟩:=hp;exact⟨a,J,g,hs,e,(post.bind p).mono λx H1 ⟨h,u,g1,s1,h1,c,d⟩=>b a h H1 g1 u x (hs.step s1) h1 c d⟩
def acQ{W':XQ}{R:List Addr->Hp->α->β->Prop}{f:Su->G->Out U}{k:Su->U->G->Out α}{Z:L2.St}{H:Hp}{Q:β->Hp->Prop}
  (hp:tR X.K W R (λa g=>(f a g).Y9.bind λx g=>k a x g) Z H Q)
  (b:∀a J H g u x,RS X.K J H a Z->RH X.K J H g->RV X.K J H u x->post X.K W R (k a u g) J H Q->Q2 x H):tE X.K W' f Z H Q2:=by
 let⟨a,J,g,hs,e,p⟩:=hp;exact⟨a,J,g,hs,e,(bD p).mono λx H1 ⟨h,u,g1,s1,h1,c,d⟩=>b a h H1 g1 u x (hs.step s1) h1 c d⟩
def two{R:List Addr->Hp->α->β->Prop}{f h:Su->G->Out U}{k:Su->U->U->G->Out α}{Z:L2.St}{H:Hp}{Q:β->Hp->Prop}{c:V->V->Hp->Prop}
  (hp:tR X.K W R (λa g=>(f a g).bind λx g=>(h a g).bind λy g=>k a x y g) Z H Q)
  (b:∀a J H g u w x y,RS X.K J H a Z->RH X.K J H g->RV X.K J H u x->RV X.K J H w y->post X.K W R (k a u w g) J H Q->c x y H) :
  tE X.K W f Z H λx H1=>tE X.K W h Z H1 λy H2=>c x y H2:=by
 let⟨a,J,g,hs,j,p⟩:=hp;refine⟨a,J,g,hs,j,(post.bind p).mono λx H1 ⟨m,u,g1,s1,h1,e,i⟩=>?_⟩;refine⟨a,m,g1,hs.step s1,h1,(post.bind i).mono λy H2 ⟨l,w,g2,s2,h2,d,p2⟩=>?_⟩;exact b a l H2 g2 u w x y ((hs.step s1).step s2) h2 (RV.step s2 _ _ e) d p2
def lh(d:X.N[i]?=some x)(a:Vis X.env.scope x)(c:(x==("__debug__" : Str))=false)(j:(x==("__classdict__" : Str))=false):PE X (.Name x pos) (tE X.K W (JP C r (.O i))):=by
 refine(cL d a c j).imp ?_;rintro Z H Q ⟨k,J,g,hs,b,p⟩
 delta JP at p;dsimp only at p
 cases e:k[i]? with
 |none=>simp[e]at p;exact p.elim
 |some o=>
  cases o with
  |none=>simp[e]at p;exact p.elim
  |some u=>
   simp![e]at p;let⟨v,h,f⟩:=hs.val i u e;exact⟨v,h,post.Zk p b f⟩
def cK(h:PE X e (IX v))(a:∀J H,RV X.K J H u v):PE X e (tE X.K W (JP C r (.Z0 u))):=
 h.imp λZ H Q ⟨c,J,g,hs,b,p⟩=>post.Zk (u:=u) p b (a J H)
def bT{o:Operator}{f:Op}{c:R2}(m:OpR X (binaryOp o) c)
  (imp:∀u w z x y J (H:Hp) Q,RV X.K J H u x->RV X.K J H w y->Jv f u w=some z->(∀v,RV X.K J H z v->Q v H)->c x y H Q)
  (d:∀u w x y J (H:Hp) g p Q,RH X.K J H g->RV X.K J H u x->RV X.K J H w y->AM u w g=some p->post X.K W (RV X.K) (Bg f u w g) J H Q->c x y H Q)
  (s:PE X a (tE X.K W (r.ev a'))) (n:PE X b (tE X.K W (r.ev b'))):PE X (.BinOp a o b pos) (tE X.K W (JP C r (.ZT f a' b'))):=by
 refine(ace m s n).imp λZ H Q l=>two l λt J H g u w x y hs i h c p=>?_;cases j:AM u w g with
 |some q=>exact d u w x y J H g q Q i h c j p
 |none=>
  have p:post X.K W (RV X.K) (Bg f u w g) J H Q:=p;unfold Bg at p;rw[j]at p;let⟨z,e,p⟩:=post.lift p;exact imp u w z x y J H Q h c e λv k=>post.Zk p i k
def cH{a:Op}(h:a ≠ .add){b:R2}(u w:U)(x y:V)(J:List Addr)(H:Hp)(g:G)(q:List U×List U)(Q:VK)(_:RH X.K J H g)(_:RV X.K J H u x)(_:RV X.K J H w y)(c:AM u w g=some q)(p:post X.K W (RV X.K) (Bg a u w g) J H Q):b x y H Q:=by
 unfold Bg at p;rw[c]at p;cases a<;>first|exact absurd rfl h|exact p.elim
def dQ{r c:R2}(h:OpR X f r)(h':OpR X f c):OpR X f λx y H Q=>r x y H Q\/c x y H Q:=λY s Z H x y v u Q I b a q=>q.elim (h Y s Z H x y v u Q I b a) (h' Y s Z H x y v u Q I b a)
def zw(u w:U)(x y:V)(J:List Addr)(H:Hp)(g:G)(q:List U×List U)(Q:VK)(a:RH X.K J H g)(h:RV X.K J H u x)(f:RV X.K J H w y)(b:AM u w g=some q)(p:post X.K W (RV X.K) (Bg .add u w g) J H Q):Gk x y H Q:=by
 unfold Bg at p;rw[b]at p;dsimp only at p;split at p
 .rename_i i
  let⟨n,m,rfl,rfl,j,g2⟩:=dn b;let⟨A,vs,r,o,d⟩:=a.S j;let⟨t,ws,k,Kx,c⟩:=a.S g2;let⟨v,rfl,z⟩:=h;rw[r]at z;cases z;let⟨s,rfl,z⟩:=f;rw[k]at z;cases z;refine⟨A,t,vs,ws,rfl,rfl,o,Kx,by rw[<-d.length,<-c.length,TH];unfold Ac at i;omega,λl e=>?_⟩
  exact p (.ref l) _ _ (ZN.alloc e) (a.alloc e (d.append c)) ⟨l,rfl,by rw[<-a.len];simp⟩
 .exact p.elim
def bQ{a:Op}{g:Int->Int->Int}{b:Int->Int->Prop}(h:∀u w z,Jv a u w=some z ->∃i j,u=.int i/\w=.int j/\z=.int (g i j)/\b i j)(u w z:U)(x y:V)(J:List Addr)(H:Hp)(Q:VK)(d:RV K J H u x)(c:RV K J H w y)
  (e:Jv a u w=some z) (q:∀v,RV K J H z v->Q v H):Je b (λi j=>.int (g i j)) x y H Q:=by
 let⟨i,j,rfl,rfl,rfl,f⟩:=h u w z e;cases d;cases c;exact⟨i,j,rfl,rfl,f,q _ rfl⟩
def ls{g:Int->Int->V}(h:OpR X f (Jf g)):OpR X f (Je (λ_ _=>True) g):=λY s Z H x y v u Q I b a ⟨i,j,d,c,_,q⟩=>h Y s Z H x y v u Q I b a ⟨i,j,d,c,q⟩
def log2_small(h:n<115792089237316195423570985008687907853269984665640564039457584007913129639936):n.log2<9000:=by
 by_cases a:n=0
 .subst a;decide
 .exact Ih ((Nat.log2_lt a).mpr (show n<2 ^ 256 from h)) #[1]
def xq:OpR X (binaryOp .FloorDiv) (Je (λi j=>j≠0 /\ -Al<j/\j<Al) λi j=>.int (i.fdiv j)):=opI λi j _ _ _ _ _ a q=>
 floordiv_int a.1 q (.inl (PyProof.noPylong_of_log2 (log2_small (by have:=a.2;unfold Al at this;omega))))
def x6:OpR X (binaryOp .Mult) (Je (λi j=>CMul i j\/((-Al<i/\i<Al) /\ -Al<j/\j<Al)) λi j=>.int (i*j)):=opI λi j _ _ _ _ _ a q=>by
 rcases a with a|⟨⟨h1,h2⟩,h3,h4⟩
 .exact mul_int q a.ok
 .unfold Al at h1 h2 h3 h4
  exact mul_int q (IntMulOk.of_bits (Ib (intBits_le (k:=256) (show i.natAbs<115792089237316195423570985008687907853269984665640564039457584007913129639936 by omega)) #[1]) (Ib (intBits_le (k:=256) (show j.natAbs<115792089237316195423570985008687907853269984665640564039457584007913129639936 by omega)) #[1]))
def bR{a:Op}{w z:U}(e:Jv a u w=some z):∃i j,u=.int i/\w=.int j:=by
 cases u<;>first|(cases a<;>cases e<;>done)|skip
 cases w<;>first|(cases a<;>cases e<;>done)|skip
 exact⟨_,_,rfl,rfl⟩
def vY{c:Op}{o:Operator}(B:(c=.add/\o = .Add)\/(c=.sub/\o = .Sub)\/(c=.mul/\o = .Mult)\/(c=.fdiv/\o = .FloorDiv)\/(c=.mod/\o = .Mod)\/(c=.pow/\o = .Pow))
  (f:PE X a (tE X.K W (r.ev a'))) (d:PE X b (tE X.K W (r.ev b'))):PE X (.BinOp a o b pos) (tE X.K W (JP C r (.ZT c a' b'))):=by
 rcases B with⟨rfl,rfl⟩|⟨rfl,rfl⟩|⟨rfl,rfl⟩|⟨rfl,rfl⟩|⟨rfl,rfl⟩|⟨rfl,rfl⟩
 .exact bT (dQ (ls dR) yY) (λu w z x y J H Q A t e q => .inl (bQ (λu w z e=>by
   let⟨i,j,rfl,rfl⟩:=bR e;cases e;exact⟨_,_,rfl,rfl,rfl,trivial⟩) u w z x y J H Q A t e q)) (λu w x y J H g q Q E A t F p=>.inr (zw u w x y J H g q Q E A t F p)) f d
 .exact bT (ls dW) (bQ λu w z e=>by
   let⟨i,j,rfl,rfl⟩:=bR e;cases e
   exact⟨_,_,rfl,rfl,rfl,trivial⟩) (cH #[3]) f d
 .refine bT x6 (bQ λu w z e=>?_) (cH #[3]) f d
  let⟨i,j,rfl,rfl⟩:=bR e;simp![Jv,Ju,RU,Yo]at e;let⟨h,rfl⟩:=e;refine⟨_,_,rfl,rfl,rfl,?_⟩;rw[Sb,Sb,Zc,Zc,Zc,Zc,Zc]at h;unfold CMul;rw[show((2:Int) ^ 64)=BK from rfl];rcases h with(⟨h1,h2⟩|⟨h1,h2⟩)|⟨⟨⟨h1,h2⟩,h3⟩,h4⟩
  .exact .inl (.inl ⟨Ik h1,Ik h2⟩)
  .exact .inl (.inr ⟨Ik h1,Ik h2⟩)
  .exact .inr ⟨⟨Ik h1,Ik h2⟩,Ik h3,Ik h4⟩
 .refine bT xq (bQ λu w z e=>?_) (cH #[3]) f d
  let⟨i,j,rfl,rfl⟩:=bR e;simp![Jv,Ju]at e;refine⟨i,j,rfl,rfl,?_⟩;by_cases k:0<j
  .rw [XW k]at e
   have D:i / j=i.fdiv j:=(Int.fdiv_eq_ediv_of_nonneg i ()).symm
   by_cases h1:j<Al
   .rw [XW h1]at e
    rw[<-D];exact⟨(Vm e).symm,by omega,by unfold Al;omega,h1⟩
   .rw [WV h1]at e;cases e
  .rw [WV k]at e
   by_cases h1:j=0
   .rw [XW h1]at e;cases e
   .rw [WV h1]at e
    by_cases h2 : -Al<j
    .rw [XW h2]at e
     exact⟨(Vm e).symm,h1,h2,by unfold Al;omega⟩
    .rw [WV h2]at e;cases e
 .refine bT x4 (bQ λu w z e=>?_) (cH #[3]) f d
  let⟨i,j,rfl,rfl⟩:=bR e;simp![Jv,Ju]at e;refine⟨i,j,rfl,rfl,?_⟩;by_cases k:0<j
  .rw [XW k]at e
   have D:i % j=i.fmod j:=(Int.fmod_eq_emod_of_nonneg i ()).symm
   rw[<-D];exact⟨(Vm e).symm,by omega⟩
  .rw [WV k]at e
   by_cases h1:j=0
   .rw [XW h1]at e;cases e
   .rw [WV h1]at e
    exact⟨(Vm e).symm,h1⟩
 .exact bT aae (bQ λu w z e=>by
   let⟨i,j,rfl,rfl⟩:=bR e;simp![Jv,Ju,RU,Yo]at e;let⟨h,rfl⟩:=e;refine⟨_,_,rfl,rfl,rfl,?_⟩;unfold GA
   omega) (cH #[3]) f d
def yE(e:PE X a (tE X.K W (r.ev a'))):PE X (.UnaryOp .USub a pos) (tE X.K W (JP C r (.neg a'))):=by
 refine(pF nC e).imp λZ H Q c=>one c λf J H g u x hs d b p=>?_;cases u<;>simp![]at p<;>first|exact p.elim|skip
 cases b;exact⟨_,rfl,post.Zk p d rfl⟩
def Bm(X:Cx)(c:Cp)(o:CmpOp):Prop:=∃a,OpR X (compareOp o) a /\∀J (H:Hp) g u w x y b Q,RH X.K J H g->RV X.K J H u x->RV X.K J H w y->JE c u w g=some b->Q (V.bl b) H->a x y H Q
def df{o:CmpOp}{f:Int->Int->Bool}(d:OpR X (compareOp o) (Jf λi j=>.bl (f i j)))(h:∀u w g b,JE op u w g=some b ->∃i j,u=.int i/\w=.int j/\b=f i j):Bm X op o:=
 ⟨_,d,λJ H g u w x y b Q k c a e q=>by
  let⟨i,j,rfl,rfl,rfl⟩:=h u w g b e;cases c;cases a;exact⟨i,j,rfl,rfl,q⟩⟩
def eL{x:V}(h:RV K J H u x):Ax u=decide (x=.ZR):=by
 cases u with
 |ZZ M=>let⟨a,vs,rfl,_⟩:=h;rfl
 |Zv M=>let⟨a,vs,rfl,_⟩:=h;rfl
 |ref M=>let⟨a,rfl,_⟩:=h;rfl
 |xn _ M=>let⟨a,vs,rfl,_⟩:=h;rfl
 |_=>cases h;rfl
def dU{f:Int->Int->Bool}{w:U}{b:Bool}(e:(match u,w with|.int i,.int j=>some (f i j)|_,_=>none)=some b):∃i j,u=.int i/\w=.int j/\b=f i j:=by
 cases u<;>first|(cases e;done)|skip
 cases w<;>first|(cases e;done)|skip
 exact⟨_,_,rfl,rfl,(Vm e).symm⟩
def tM{w:U}(h:Cz u w=true):(u=.ZR/\w=.ZR)\/(∃a b,u=.bl a/\w=.bl b)\/(∃a b,u=.int a/\w=.int b) \/∃a b,u=.str a/\w=.str b:=by
 cases u<;>cases w<;>first|(cases h;done)|exact .inl ⟨rfl,rfl⟩|exact .inr (.inl ⟨_,_,rfl,rfl⟩)|exact .inr (.inr (.inl ⟨_,_,rfl,rfl⟩))|exact .inr (.inr (.inr ⟨_,_,rfl,rfl⟩))
def abT(n:X.A.units+2<cLine)(j:Cp)(o:CmpOp)(h:(j=.eq/\o = .Eq)\/(j=.ne/\o = .NotEq)\/(j=.lt/\o = .Lt)\/(j=.le/\o = .LtE)\/(j=.gt/\o = .Gt)\/(j=.ge/\o = .GtE)\/(j=.WN/\o = .Is)\/(j=.U7/\o = .IsNot)\/(j=.W2/\o = .In)\/(j=.YK/\o = .NotIn)):Bm X j o:=by
 rcases h with⟨rfl,rfl⟩|⟨rfl,rfl⟩|⟨rfl,rfl⟩|⟨rfl,rfl⟩|⟨rfl,rfl⟩|⟨rfl,rfl⟩|⟨rfl,rfl⟩|⟨rfl,rfl⟩|⟨rfl,rfl⟩|⟨rfl,rfl⟩
 .refine ⟨_,dQ (abi ()) (dQ (aaO n) (zm n)),λJ H g u w x y b Q i f d e q=>?_⟩
  simp![JE]at e;cases l:AM u w g with
  |none=>
   rw[l]at e;exact .inl ⟨J,g,u,w,b,i,f,d,e,q⟩
  |some p=>
   rw[l]at e;simp![JC]at e;cases t:JA p.1 p.2 with
   |some c=>rw[t]at e;exact .inr (.inl ⟨J,g,u,w,b,i,f,d,WQ.mpr ⟨p,l,t.trans e⟩,q⟩)
   |none=>rw[t]at e;exact .inr (.inr ⟨J,g,u,w,b,i,f,d,WQ.mpr ⟨p,l,e⟩,q⟩)
 .refine ⟨_,dQ abP (zp n),λJ H g u w x y b Q i f d e q=>?_⟩
  cases hs:Cz u w with
  |false=>
   simp![JE,hs,Vj,Td]at e;cases u<;>first|(cases e;done)|skip
   cases w<;>first|(cases e;done)|skip
   let⟨c,z,rfl⟩:=Yn.mp e;exact .inr ⟨J,_,_,c,f,d,z,q⟩
  |true=>
  refine .inl ?_;rcases tM hs with⟨rfl,rfl⟩|⟨a,c,rfl,rfl⟩|⟨a,c,rfl,rfl⟩|⟨a,c,rfl,rfl⟩<;>simp![JE,Cz,TL,Ah,Vw,Yo]at e<;>subst e<;>cases f<;>cases d<;>refine⟨rfl,?_⟩<;>
   first|exact q|(rw[j2];exact q)|(rw[m7];exact q)|(rw[kq];exact q)|simpa using q
 .exact df acn λu w g b e=>dU e
 .exact df acb λu w g b e=>dU e
 .exact df abN λu w g b e=>dU e
 .exact df acC λu w g b e=>dU e
 .refine ⟨_,aaH,λJ H g u w x y b Q i f d e q=>?_⟩
  cases w<;>simp![JE,Ax,TL,Vj,Td,Yo,reduceCtorEq]at e
  cases d;subst e;refine⟨rfl,?_⟩;rw[<-eL f];cases u<;>exact q
 .refine ⟨_,xl,λJ H g u w x y b Q i f d e q=>?_⟩
  cases w<;>simp![JE,Ax,TL,Vj,Td,Yo,reduceCtorEq]at e
  cases d;subst e;refine⟨rfl,?_⟩;rw[<-eL f];cases u<;>exact q
 .refine ⟨_,nF (aaN ()) (zh ()),λJ H g u w x y b Q i f d e q=>?_⟩
  simp![JE]at e;cases k:items w g with
  |none=>
   simp![k]at e;let⟨o,s,rfl⟩:=Yn.mp e;let⟨a,m,r,v,es,_⟩:=eV i f d s;exact .inr ⟨a,m,r,v,by rw[es];exact q⟩
  |some M=>simp![k]at e;exact .inl ⟨J,g,u,w,b,i,f,d,WQ.mpr ⟨M,k,e⟩,q⟩
 .refine ⟨_,nF (xA ()) (yv ()),λJ H g u w x y b Q i f d e q=>?_⟩
  simp![JE]at e;cases k:items w g with
  |none=>
   simp![k]at e;let⟨o,s,rfl⟩:=Yn.mp e;let⟨a,m,r,v,es,_⟩:=eV i f d s;exact .inr ⟨a,m,r,v,by rw[es];exact q⟩
  |some M=>
   simp![k]at e;exact .inl ⟨J,g,u,w,b,i,f,d,WQ.mpr ⟨M,k,e⟩,q⟩
def zj{o:CmpOp}(c:Bm X op o)(j:behindInMarks o b=false)(m:PE X a (tE X.K W (r.ev a')))(l:PE X b (tE X.K W (r.ev b'))):PE X (.Compare a [o] [b] pos) (tE X.K W (JP C r (.cmp op a' b'))):=by
 let⟨d,c,imp⟩:=c;refine(ky c m l j).imp λZ H Q i=>two i λn J H g u w x y hs f h d p=>?_;cases e:JE op u w g with
 |none=>simp![e]at p;exact p.elim
 |some k=>simp![e]at p;exact imp J H g u w x y k Q f h d e (post.Zk p f rfl)
def abq{o:CmpOp}(h:Bm X op o)(m:behindInMarks o b=false)(q:PE X a (tE X.K W (r.ev a')))(n:PE X b (tE X.K W (r.ev b'))):PT X (.Compare a [o] [b] pos) (tT X.K W (λZ g=>(JP C r (.cmp op a' b') Z g).bind λx g=>lift (JF x g) g)):=by
 let⟨i,h,imp⟩:=h;refine(j5 h q n m).imp λZ H Q l=>?_;have s:tR X.K W YI (λd g=>(r.ev a' d g).bind λx g=>(r.ev b' d g).bind λy g=>match JE op x y g with|some c=>Out.ok c g|none=>.Z1) Z H Q:=by
  let⟨d,J,g,hs,f,p⟩:=l;refine⟨d,J,g,hs,f,?_⟩;have e:((JP C r (.cmp op a' b') d g).bind λx g=>lift (JF x g) g)=((r.ev a' d g).bind λx g=>(r.ev b' d g).bind λy g=>match JE op x y g with|some c=>Out.ok c g|none=>.Z1):=by
   delta JP;dsimp only
   cases r.ev a' d g with
   |ok x g1=>
    simp![Out.bind];cases r.ev b' d g1 with
    |ok y g2=>simp![Out.bind];cases JE op x y g2<;>rfl
    |exc _ _ _=>rfl
    |Z1=>rfl
   |exc _ _ _=>rfl
   |Z1=>rfl
  have p2:=p
  change post X.K W YI ((JP C r (.cmp op a' b') d g).bind λx g=>lift (JF x g) g) J H Q at p2
  rw[e]at p2;exact p2
 refine two s λd J H g u w x y hs f j i p=>?_;cases e:JE op u w g with
 |none=>simp![e]at p;exact p.elim
 |some k=>simp![e]at p;exact imp J H g u w x y k _ f j i e ⟨k,rfl,post.Zk p f rfl⟩
end
section
variable{W:XQ}{a b c:Expr}{b' c':E}{ZV:List Expr}
def okE{Q:VK}(p:post X.K W (RV X.K) (.ok u g) J H Q)(a:RH X.K J H g)(r:RV X.K J H u v):Q v H:=post.Zk p a r
def iK{i:Cp}{a j:R2}
  (d:∀J (H:Hp) g u w x y b Q,RH X.K J H g->RV X.K J H u x->RV X.K J H w y->JE op u w g=some b->Q (V.bl b) H->a x y H Q)
  (c:∀J (H:Hp) g u w x y b Q,RH X.K J H g->RV X.K J H u x->RV X.K J H w y->JE i u w g=some b->Q (V.bl b) H->j x y H Q) (Z:L2.St) (H:Hp) (Q:VK) (hp:tE X.K W (JP C r (.chain op i a' b' c')) Z H Q) :
  DP a j (tE X.K W (r.ev a')) (tE X.K W (r.ev b')) (tE X.K W (r.ev c')) Z H Q:=by
 refine two hp λn J H g u w x y hs f l a p=>?_;cases e:JE op u w g with
 |none=>simp![e]at p;exact p.elim
 |some k=>
  refine d J H g u w x y k _ f l a e ⟨k,rfl,?_⟩;cases k with
  |false=>simp![e]at p;exact aY (okE p f rfl)
  |true=>
   simp![e]at p;refine aZ ?_;refine⟨n,J,g,hs,f,(post.bind p).mono λv H2 ⟨m,z,g2,s2,h2,rz,p2⟩=>?_⟩;cases h:JE i w z g2 with
   |none=>simp![h]at p2;exact p2.elim
   |some k2=>simp![h]at p2;exact c m H2 g2 w z y v k2 Q h2 (RV.step s2 _ _ a) rz h (okE p2 h2 rfl)
def vG{g:Cp}{o o':CmpOp}(e:Bm X op o)(f:Bm X g o')(h:lastMarks [o,o'] [b,c]=false)(k:PE X a (tE X.K W (r.ev a')))(j:PE X b (tE X.K W (r.ev b')))(i:PE X c (tE X.K W (r.ev c'))):
  PE X (.Compare a [o,o'] [b,c] pos) (tE X.K W (JP C r (.chain op g a' b' c'))):=by
 let⟨m,e,imp⟩:=e;let⟨l,f,d⟩:=f;exact(vt e f k j i h).imp (iK imp d)
def uW{f:Su->G->Out U}(h:∀Z g u g',f Z g=.ok u g' ->∃c,u=.bl c)(Z:L2.St)(H:Hp)(Q:Bool->Hp->Prop)(hp:tT X.K W (λZ g=>(f Z g).bind λx g=>lift (JF x g) g) Z H Q):tE X.K W f Z H (λx H1=>∃c,x=.bl c/\Q c H1):=by
 let⟨a,J,g,hs,e,p⟩:=hp;refine⟨a,J,g,hs,e,?_⟩;have hk:=h a g
 change post X.K W YI ((f a g).bind λx g=>lift (JF x g) g) J H Q at p
 revert p hk;cases f a g with
 |ok u g1=>
  intro hk p;let⟨c,rfl⟩:=hk u g1 rfl;intro v i H1 b h1 d;cases d;exact⟨c,rfl,p c i H1 b h1 rfl⟩
 |exc c fs g1=>exactλ_ p=>p
 |Z1=>exactλ_ p=>p
def vh{a:Cp}(Z:Su)(g:G)(u:U)(g':G)(h:JP C r (.chain op a a' b' c') Z g=.ok u g'):∃c,u=.bl c:=by
 delta JP at h;dsimp only at h
 revert h;cases r.ev a' Z g with
 |ok x g1=>
  simp![Out.bind];cases r.ev b' Z g1 with
  |ok y g2=>
   simp![Out.bind];cases JE op x y g2 with
   |none=>intro h;cases h
   |some k=>
    cases k with
    |false=>intro h;cases h;exact⟨_,rfl⟩
    |true=>
     simp![];cases r.ev c' Z g2 with
     |ok z g3=>
      simp![Out.bind];cases JE a y z g3 with
      |none=>intro h;cases h
      |some k=>intro h;cases h;exact⟨_,rfl⟩
     |exc _ _ _=>intro h;cases h
     |Z1=>intro h;cases h
  |exc _ _ _=>intro h;cases h
  |Z1=>intro h;cases h
 |exc _ _ _=>intro h;cases h
 |Z1=>intro h;cases h
def vX{h:Cp}{o o':CmpOp}(e:Bm X op o)(f:Bm X h o')(j:lastMarks [o,o'] [b,c]=false)(m:PE X a (tE X.K W (r.ev a')))(l:PE X b (tE X.K W (r.ev b')))(k:PE X c (tE X.K W (r.ev c'))):
  PT X (.Compare a [o,o'] [b,c] pos) (tT X.K W (λZ g=>(JP C r (.chain op h a' b' c') Z g).bind λx g=>lift (JF x g) g)):=by
 let⟨p,e,imp⟩:=e;let⟨n,f,d⟩:=f;exact(vz e f m l k j).imp λZ H Q i=>iK imp d Z H _ (uW vh Z H Q i)
def zY(h:PE X a (tE X.K W (r.ev a')))(f:PE X (.BoolOp .And (b::ZV) pos) (tE X.K W (r.ev b'))):PE X (.BoolOp .And (a::b::ZV) pos) (tE X.K W (JP C r (.and a' b'))):=by
 refine(zG h f).imp λZ H Q e=>one e λi J H g u x hs c d p=>?_;cases u with
 |bl k=>
  cases d;refine⟨k,rfl,?_⟩;cases k with
  |true=>exact aZ ⟨i,J,g,hs,c,p⟩
  |false=>exact aY (okE p c rfl)
 |_=>exact p.elim
def abM(h:PE X a (tE X.K W (r.ev a')))(f:PE X (.BoolOp .Or (b::ZV) pos) (tE X.K W (r.ev b'))):PE X (.BoolOp .Or (a::b::ZV) pos) (tE X.K W (JP C r (.or a' b'))):=by
 refine(abH h f).imp λZ H Q e=>one e λi J H g u x hs c d p=>?_;cases u with
 |bl k=>
  cases d;refine⟨k,rfl,?_⟩;cases k with
  |true=>exact aZ (okE p c rfl)
  |false=>exact aY ⟨i,J,g,hs,c,p⟩
 |_=>exact p.elim
def n6{x:V}{k:Bool}(j:RH X.K J H g)(d:RV X.K J H u x)(e:JF u g=some k):Du X.K x H k:=by
 have c:∀{M:List U} {vs:List V},RVs X.K J H M vs->(!M.isEmpty) = !vs.isEmpty:=λ{M vs} h=>by
  cases M with
  |nil=>cases h;rfl
  |cons u M=>let⟨v,r,rfl,_⟩:=h;rfl
 cases u with
 |ZR=>cases d;cases e;rfl
 |bl b=>cases d;cases e;rfl
 |int i=>cases d;cases e;rfl
 |str s=>simp[JF]at e
 |ZZ M=>let⟨a,vs,rfl,h1,h2⟩:=d;cases e;exact .inr (.inl ⟨vs,h1.sq,c h2⟩)
 |Zv M=>let⟨a,vs,rfl,h1,h2⟩:=d;cases e;exact .inl ⟨vs,h1.sq,c h2⟩
 |ref n=>
  let⟨a,rfl,f⟩:=d;simp![JF]at e;cases eg:g[n]? with
  |none=>simp[eg]at e
  |some o=>
   cases o with
   |S xs=>
    simp![eg,Yo]at e;subst e;let⟨a',vs,h1,h2,l⟩:=j.S eg;rw[f]at h1;cases h1;exact .inl ⟨vs,.of h2,c l⟩
   |ZJ _=>simp[eg]at e
   |YM _=>simp[eg]at e
   |dst _=>simp[eg]at e
   |ins _ _=>simp[eg]at e
 |xn _ _=>simp[JF]at e
def zX(l:PE X a (tE X.K W (r.ev a'))):PE X (.UnaryOp .Not a pos) (tE X.K W (JP C r (.not a'))):=by
 intro Y s Z H Q I j;have m:tE X.K W (r.ev a') Z H (λx H1=>∃k,Du X.K x H1 k/\Q (.bl (!k)) H1):=one j λt J H g u x hs d c p=>by
  cases e:JF u g with
  |none=>simp![e]at p;exact p.elim
  |some k=>simp![e]at p;exact⟨k,n6 d c e,okE p d rfl⟩
 refine UnaryOp_ (thn (l Y s Z H _ I m) ?_);rintro v f ⟨x,H1,o,c,k,tr,i⟩;exact not_of (thn (lS Y f Z H1 x v (λb H2=>Q (.bl (!b)) H2) o c ⟨k,tr,i⟩) λb q ⟨H2,n,h⟩=>⟨.bl (!b),H2,n,rfl,h⟩)
def vW(ha:PE X a (tE X.K W (r.ev a')))(he:∀whole,isTrue a X.env whole=(do let v<-whole;standAt a.pos;holding [v] (truthy v))):PT X a (tT X.K W (λZ g=>(r.ev a' Z g).bind λx g=>lift (JF x g) g)):=by
 refine(v5 ha he).imp λZ H Q hp=>one (k:=λ_ x g=>lift (JF x g) g) hp λZ2 J H g u x hs hg r1 p=>?_;let⟨k,e,p⟩:=post.lift p;exact⟨k,n6 hg r1 e,post.Zk p hg rfl⟩
def zU(h:PT X a (tT X.K W (r.ts a')))(f:PW X (.BoolOp .And (b::ZV) pos) (tT X.K W (r.ts b'))):PW X (.BoolOp .And (a::b::ZV) pos) (tT X.K W (JQ r (.and a' b'))):=by
 refine(abk h f).imp ?_;rintro Z H Q ⟨d,J,g,hs,e,p⟩;refine⟨d,J,g,hs,e,(post.bind (R:=YI) p).mono λk H1 ⟨j,k',g1,s1,h1,i,c⟩=>?_⟩;subst i;cases k' with
 |true=>exact aZ ⟨d,j,g1,hs.step s1,h1,c⟩
 |false=>exact aY (post.Zk c h1 rfl)
def ab5(h:PT X a (tT X.K W (r.ts a')))(f:PW X (.BoolOp .Or (b::ZV) pos) (tT X.K W (r.ts b'))):PW X (.BoolOp .Or (a::b::ZV) pos) (tT X.K W (JQ r (.or a' b'))):=by
 refine(ab0 h f).imp ?_;rintro Z H Q ⟨d,J,g,hs,e,p⟩;refine⟨d,J,g,hs,e,(post.bind (R:=YI) p).mono λk H1 ⟨j,k',g1,s1,h1,i,c⟩=>?_⟩;subst i;cases k' with
 |true=>exact aZ (post.Zk c h1 rfl)
 |false=>exact aY ⟨d,j,g1,hs.step s1,h1,c⟩
def aat(d:PT X a (tT X.K W (r.ts a'))):PT X (.UnaryOp .Not a pos) (tT X.K W (JQ r (.not a'))):=by
 refine(aak d).imp ?_;rintro Z H Q ⟨f,J,g,hs,c,p⟩;refine⟨f,J,g,hs,c,(post.bind (R:=YI) p).mono λk H1 ⟨h,k',g1,s1,h1,e,b⟩=>?_⟩;subst e;exact post.Zk b h1 rfl
def yN:PA X [] (X9 X.K W (JL r.ev [])):=aJ.imp λZ H Q ⟨b,J,g,hs,a,p⟩=>post.Zk (R:=RVs X.K) (u:=[]) p a rfl
def wF(i:PE X a (tE X.K W (r.ev a')))(e:PA X es (X9 X.K W (JL r.ev ZI)))(b:starEach (a::es) X.env=(false,eval a X.env)::starEach es X.env):PA X (a::es) (X9 X.K W (JL r.ev (a'::ZI))):=by
 refine(ak i e b).imp λZ H Q f=>one f λj J H g u x b h c p=>?_;refine⟨j,J,g,b,h,(post.bind p).mono λxs H1 ⟨k,M,g1,s1,h1,rs,d⟩=>?_⟩;exact post.Zk (R:=RVs X.K) d h1 ⟨x,xs,rfl,RV.step s1 _ _ c,rs⟩
def szl(rs:RVs X.K J H M vs)(h:M.length<=Ac):vs.length<=sizeLine:=by
 rw[<-rs.length,TH];unfold Ac at h;omega
def aaB{k:Nat}(h:PA X es (X9 X.K W (JL r.ev ZI))):PE X (.Tuple es k pos) (tE X.K W (JP C r (.ZZ ZI))):=by
 refine(fJ h).imp ?_;rintro Z H Q ⟨f,J,g,hs,d,p⟩;refine⟨f,J,g,hs,d,(post.bind (R:=RVs X.K) p).mono λxs H1 ⟨e,M,g1,s1,h1,rs,a⟩=>?_⟩;by_cases c:M.length<=Ac
 .rw [XW c]at a
  refine⟨szl rs c,λq b=>?_⟩;exact a _ e _ (ZN.fresh b) (h1.step_fresh b) ⟨q,xs,rfl,upd_same,RVs.step (ZN.fresh b) _ _ rs⟩
 .rw [WV c]at a;exact a.elim
def cj{xs:List V}{Q:VK}(p:post X.K W (RV X.K) (alloc (.S M) g) J H Q)(b:RH X.K J H g)(rs:RVs X.K J H M xs)(q:Addr)(a:H q=none):Q (.ref q) (upd H q (.S xs)):=by
 refine p (.ref q) (J++[q]) _ (ZN.alloc a) (b.alloc a rs) ⟨q,rfl,?_⟩;rw[<-b.len];simp
def y7(h:PA X es (X9 X.K W (JL r.ev ZI))):PE X (.List es pos) (tE X.K W (JP C r (.S ZI))):=by
 refine(yC h).imp ?_;rintro Z H Q ⟨e,J,g,hs,d,p⟩;refine⟨e,J,g,hs,d,(post.bind (R:=RVs X.K) p).mono λxs H1 ⟨f,M,g1,s1,h1,rs,a⟩=>?_⟩;by_cases b:M.length<=Ac
 .rw [XW b]at a
  exact⟨szl rs b,λq c=>cj a h1 rs q c⟩
 .rw [WV b]at a;exact a.elim
def x9{i:Int}(rs:RVs X.K J H M vs)(e:JG M i=some u):∃v,atI vs i=some v/\RV X.K J H u v:=by
 unfold JG atI at e;unfold atI;rw[<-rs.length];cases a:ixN M.length i with
 |none=>simp[a]at e
 |some j=>
  rw[a]at e;let⟨v,h1,h2⟩:=rs.get (show M[j]?=some u from e);exact⟨v,h1,h2⟩
def yQ(E:X.A.units+1<cLine)(s:PE X a (tE X.K W (r.ev a')))(G:PE X b (tE X.K W (r.ev b')))(B:DN b):PE X (.Subscript a b pos) (tE X.K W (JP C r (.idx a' b'))):=by
 refine(abG ((wB.or aaU).or (wo E)) s G B).imp λZ H Q F=>two F λN J H g u w x y B c m l p=>?_;cases w with
 |int i=>
  cases l;cases e:items u g with
  |none=>simp![e]at p;exact p.elim
  |some M=>
   simp![e]at p;let⟨z,j,p⟩:=post.lift p;let⟨q,vs,rfl,h,D⟩:=cv c m e;let⟨v,ev,f⟩:=x9 D j;rcases h with h|h
   .exact .inl (.inl ⟨q,vs,i,v,rfl,rfl,h,ev,okE p c f⟩)
   .exact .inl (.inr ⟨q,vs,i,v,rfl,rfl,h,ev,okE p c f⟩)
 |ZZ M=>
  let⟨z,j,p⟩:=post.lift p;let⟨o,t,d⟩:=WQ.mp j;let⟨q,L,rfl,I,_,got⟩:=eV c l m t;let⟨v,rfl,f⟩:=got z d;exact .inr ⟨q,v,rfl,I,okE p c f⟩
 |str k=>
  let⟨z,j,p2⟩:=post.lift p;clear p;let⟨Z3,t,d⟩:=WQ.mp j;let⟨n,q,ws,rfl,_,_,rfl,s,rk⟩:=yZ c m t;let⟨v,ev,f⟩:=rk.got k d;cases l;exact .inr ⟨q,v,rfl,by rw[<-ev];exact DGet.k (k:=Sum.inr k) s,okE p2 c f⟩
 |_=>exact p.elim
def se_bi{b:Bi}{f:Str}{c:Pos}{a:List V->Hp->VK->Prop}(h:PE X (.Call (.Name f c) (e::es) [] pos) (Jk a (X9 X.K W (JL r.ev ZI))))
  (imp:∀J H g M xs Q,RH X.K J H g->RVs X.K J H M xs->post X.K W (RV X.K) (JJ b M g) J H Q->a xs H Q):PE X (.Call (.Name f c) (e::es) [] pos) (tE X.K W (JP C r (.bi b ZI))):=by
 refine h.imp ?_;rintro Z H Q ⟨k,J,g,hs,i,p⟩;exact⟨k,J,g,hs,i,(post.bind (R:=RVs X.K) p).mono λxs H1 ⟨j,M,g1,s1,h1,rs,d⟩=>imp j H1 g1 M xs Q h1 rs d⟩
def imp_len(J:List Addr)(H:Hp)(g:G)(M:List U)(xs:List V)(Q:VK)(a:RH X.K J H g)(rs:RVs X.K J H M xs)(p:post X.K W (RV X.K) (JJ .len M g) J H Q):
  ∃p ys,xs=[.ref p]/\(SqL X.K H p ys\/SqT X.K H p ys)/\Q (.int ys.length) H:=by
 match M,rs with
 |[u],rs=>
  let⟨x,r',rfl,b,e⟩:=rs;cases e;simp![JJ,C2,Cr]at p;cases e:items u g with
  |none=>simp![e]at p;exact p.elim
  |some zs=>
   simp![e]at p;let⟨q,vs,rfl,c,rz⟩:=cv a b e;exact⟨q,vs,rfl,c,by rw[<-rz.length];exact okE p a rfl⟩
 |[],_=>exact p.elim
 |_::_::_,_=>exact p.elim
def imp_abs(J:List Addr)(H:Hp)(g:G)(M:List U)(xs:List V)(Q:VK)(b:RH X.K J H g)(rs:RVs X.K J H M xs)(p:post X.K W (RV X.K) (JJ .abs M g) J H Q):
  ∃i,xs=[.int i]/\Q (.int (if i<0 then -i else i)) H:=by
 match M,rs with
 |[u],rs=>
  let⟨x,r',rfl,a,e⟩:=rs;cases e;cases u with
  |int i=>cases a;exact⟨i,rfl,okE p b rfl⟩
  |_=>exact p.elim
 |[],_=>exact p.elim
 |_::_::_,_=>exact p.elim
def wj:PE X (.Dict [] [] pos) (tE X.K W (JP C r .WM)):=by
 refine(uX).imp ?_;rintro Z H Q ⟨c,J,g,hs,b,p⟩ q a;refine p (.ref q) (J++[q]) _ (ZN.alloc a) (b.TU a ⟨[],rfl,rfl⟩) ⟨q,rfl,?_⟩;rw[<-b.len];simp
end
open PySem PySem.Spec PyProof.Rows L2 PySem.W
section
variable{W:XQ}
def imp_list(J:List Addr)(H:Hp)(g:G)(M:List U)(xs:List V)(Q:VK)(a:RH X.K J H g)(rs:RVs X.K J H M xs)(p:post X.K W (RV X.K) (JJ .list M g) J H Q):
  (∃p ys,xs=[.ref p]/\(SqL X.K H p ys\/SqT X.K H p ys) /\∀l,H l=none->Q (.ref l) (upd H l (.S ys))):=by
 match M,rs with
 |[u],rs=>
  let⟨x,r',rfl,b,e⟩:=rs;cases e;simp![JJ,Cr]at p;cases e:items u g with
  |none=>
   simp![e]at p;exact p.elim
  |some zs=>
   simp![e]at p;let⟨q,vs,rfl,c,rz⟩:=cv a b e;exact⟨q,vs,rfl,c,λl d=>cj p a rz l d⟩
 |[],_=>exact p.elim
 |_::_::_,_=>exact p.elim
end
open PySem PySem.Spec PyProof.Rows L2
section
variable{W:XQ}{a b c:Expr}{b' c':E}{lo hi:Option Expr}{lo' VY:Option E}
abbrev CS(K:Il)(W:XQ)(f:Su->G->Out (Option Int)):TO:=tR K W YI f
def wO:PO X none (CS X.K W (JM r.ev none)):=λY s Z H Q I ⟨b,J,g,hs,a,p⟩=>xU Y s Z H Q I (post.Zk (R:=YI) p a rfl)
def wL(h:PE X e (tE X.K W (r.ev e'))):PO X (some e) (CS X.K W (JM r.ev (some e'))):=λY s Z H Q I b=>by
 refine yk h Y s Z H Q I (one (k:=λ_ u g=>match u with|.int i=>Out.ok (some i) g|_=>.Z1) b λd J H g u x hs c a p=>?_)
 cases u with
 |int i=>cases a;exact⟨i,rfl,post.Zk (R:=YI) p c rfl⟩
 |_=>exact p.elim
def fw{l h:Option Int}(rs:RVs X.K J H M vs):RVs X.K J H (A9 M l h) (BE vs l h):=by
 unfold A9 BE;rw[rs.length];exact(rs.drop _).take _
def yS(y:PE X a (tE X.K W (r.ev a')))(t:PO X lo (CS X.K W (JM r.ev lo')))(v:PO X hi (CS X.K W (JM r.ev VY))):PE X (.Subscript a (.Slice lo hi none p2) pos) (tE X.K W (JP C r (.Xy a' lo' VY))):=by
 refine(vJ (xM.or aaA) y t v).imp ?_;rintro Z H Q ⟨i,J,g,hs,w,p⟩;refine⟨i,J,g,hs,w,(post.bind p).mono λx H1 ⟨D,u,g1,s1,h1,m,s⟩=>?_⟩;refine⟨i,D,g1,hs.step s1,h1,(post.bind (R:=YI) s).mono λl H2 ⟨B,G,g2,s2,h2,A,p2⟩=>?_⟩;subst A;refine⟨i,B,g2,(hs.step s1).step s2,h2,(post.bind (R:=YI) p2).mono λh H3 ⟨E,h',g3,s3,h3,z,b⟩=>?_⟩;subst z;have e:=RV.step s3 _ _ (RV.step s2 _ _ m);cases u with
 |ZZ M=>
  let⟨q,vs,rfl,d,c⟩:=e;refine .inr ⟨q,vs,rfl,d.sq,?_⟩;simp![]at b;rw[c.length]at b;split at b
  .exact b.elim
  .rename_i f
   refine⟨f,λk hk=>?_⟩;exact b _ E _ (ZN.fresh hk) (h3.step_fresh hk) ⟨k,_,rfl,upd_same,RVs.step (ZN.fresh hk) _ _ (fw c)⟩
 |Zv M=>
  let⟨q,vs,rfl,d,c⟩:=e;exact .inl ⟨q,vs,rfl,d.sq,λk hk=>cj b h3 (fw c) k hk⟩
 |ref n=>
  let⟨q,rfl,f⟩:=e;simp![]at b;cases eg:g3[n]? with
  |none=>simp![eg]at b;exact b.elim
  |some o=>
   cases o with
   |S M=>
    simp![eg]at b;let⟨F,vs,d,c,j⟩:=h3.S eg;rw[f]at d;cases d;exact .inl ⟨q,vs,rfl,.of c,λk hk=>cj b h3 (fw j) k hk⟩
   |ZJ _=>simp![eg]at b;exact b.elim
   |YM _=>simp![eg]at b;exact b.elim
   |dst _=>simp![eg]at b;exact b.elim
   |ins _ _=>simp![eg]at b;exact b.elim
 |_=>exact b.elim
def abr{k:Nat}{O N:Pos}(ha:PE X a (tE X.K W (r.ev a'))):PE X (.Subscript a (.Slice none none (some (.UnaryOp .USub (.Constant (.int 1) k O) N)) p2) pos) (tE X.K W (JP C r (.rev a'))):=by
 intro Y s Z H Q I U;have X7:tE X.K W (r.ev a') Z H (λx H1=>∃q vs,x=.ref q/\H1 q=some (.S vs) /\∀k,H1 k=none->Q (.ref k) (upd H1 k (.S vs.reverse))):=one U λZ2 J H g u x hs B d p=>by
  cases u with
  |ref n=>
   let⟨q,rfl,V⟩:=d;simp![]at p;cases eg:g[n]? with
   |none=>simp![eg]at p;exact p.elim
   |some o=>
    cases o with
    |S M=>
     simp![eg]at p;let⟨q',vs,w,F,E⟩:=B.S eg;rw[V]at w;cases w;exact⟨q,vs,rfl,F,λk hk=>cj p B E.reverse k hk⟩
    |ZJ _=>simp![eg]at p;exact p.elim
    |YM _=>simp![eg]at p;exact p.elim
    |dst _=>simp![eg]at p;exact p.elim
    |ins _ _=>simp![eg]at p;exact p.elim
  |_=>exact p.elim
 refine Subscript_ (thn (ha Y s Z H _ I X7) ?_);rintro v G ⟨x,H1,I1,d,L⟩;let⟨q,vs,rfl,R,f⟩:=L;cases d;refine wpAny_Slice ?_;rw[evalPart_none];refine ZP (ZP ?_);rw[evalPart_some];refine thn (pF nC lM Y G Z H1 (λx H2=>x=.int (-1)/\H2=H1) I1 ⟨1,rfl,rfl,rfl⟩) ?_;rintro D c ⟨z,H2,I2,rz,ez,eh⟩;subst ez;subst eh;let⟨t,rfl⟩:=rz;have j:L2.Z4 X Y Z H2 {c with heap:=c.heap.push {cls:=.type "slice",data:=.fields #[.none,.none,.int (-1) t]}}:=I2.kept (t':=c.toks) λb ob q=>H9 _ q
 let⟨ZY,n,y,ho,P⟩:=j.S R;have A:Heap.IsList (c.heap.push {cls:=.type "slice",data:=.fields #[.none,.none,.int (-1) t]}) q ZY.toArray:=⟨_,ho,rfl,n,rfl⟩;have hlen:=y.length;refine tail_any (ops:=[.ref q,.ref c.heap.objs.size]) (T:="list") A.typeIs slot_list_getitem.lookup ?_ (by with_unfolding_all rfl)
 refine wpAny_getItem_list_slice A (Heap.IsSliceOf.new ..) .none .none (.int (-1) t) #[3] ?_ (by rw[XB];omega)
 rw[PySem.W.krv_pick];have hf:=j.ZO.fresh (Ie _);refine⟨.ref _,_,j.laid (t':=c.toks) (o:=.S vs.reverse) (λb ob q=>H9 _ q) (Ie _) ?_,rfl,f _ hf⟩;exact⟨by rw[R7];exact P,ZY.reverse,0,y.reverse,Ij _ rfl⟩
def tyName:Ty->String
 |.V_=>"int"|.V9=>"bool"|.U6=>"str"|.U5=>"tuple"|.U4=>"list"|.own _=>"?"
noncomputable def Ty.isB(t:Ty):Bool:=match t with|.own _=>false|_=>true
def zZ{x:V}{t:Ty}{k:Bool}{Z:L2.St}{v:Value}{Q:VK}(I:L2.Z4 X Y Z H s)(y:RH X.K J H g)(d:RV X.K J H u x)(c:RelV x v)
  (hT:t.isB=true) (e:Au t u g=some k) (q:Q (.bl k) H):wpAny (model X.prog X.w) X.A (call (.builtin "isinstance") [v,.type (tyName t)]) (EP X Y Z Q) X.xe s:=by
 have a:∀tk,EP X Y Z Q (.bool k) {s with toks:=tk}:=λtk=>⟨.bl k,H,I.tok tk,rfl,q⟩
 have f:∀{p:Addr} {M:List U} {vs:List V},SqT X.K H p vs->Au t (.ZZ M) g=some k->wpAny (model X.prog X.w) X.A (call (.builtin "isinstance") [.ref p,.type (tyName t)]) (EP X Y Z Q) X.xe s:=λ{p M vs} h e=>by
  let⟨ZY,_,⟨o,h1,h2,_⟩,_⟩:=I.tuple h;cases t<;>first|(cases hT;done)|(simp![Au,Yo,reduceCtorEq]at e;subst e;exact Rb PySem.W.kitx_tuple I.Zt ⟨o,h1,h2⟩ rfl (λz=>nomatch z) a)
 have j:∀{p:Addr} {vs:List V},SqL X.K H p vs->Cy t=some k->wpAny (model X.prog X.w) X.A (call (.builtin "isinstance") [.ref p,.type (tyName t)]) (EP X Y Z Q) X.xe s:=λ{p vs} h e=>by
  let⟨ZY,_,⟨o,n,h1,h2,_⟩,_⟩:=I.list h;cases t<;>first|(cases hT;done)|(simp![Cy,Yo,reduceCtorEq]at e;subst e;exact Rb PySem.W.kitx_list I.Zt ⟨o,h1,h2⟩ rfl (λz=>nomatch z) a)
 cases u with
 |ZR=>cases d;cases c;cases t<;>first|(cases hT;done)|(simp![Au,Yo,reduceCtorEq]at e;subst e;exact Rb PySem.W.kitx_none I.Zt True.intro rfl (λz=>nomatch z) a)
 |bl b=>cases d;cases c;cases t<;>first|(cases hT;done)|(simp![Au,Yo,reduceCtorEq]at e;subst e;exact Rb PySem.W.kitx_bool I.Zt True.intro rfl (λz=>nomatch z) a)
 |int i=>cases d;let⟨tk,rfl⟩:=c;cases t<;>first|(cases hT;done)|(simp![Au,Yo,reduceCtorEq]at e;subst e;exact Rb PySem.W.kitx_int I.Zt True.intro rfl (λz=>nomatch z) a)
 |str z=>cases d;let⟨tk,rfl⟩:=c;cases t<;>first|(cases hT;done)|(simp![Au,Yo,reduceCtorEq]at e;subst e;exact Rb PySem.W.kitx_str I.Zt True.intro rfl (λz=>nomatch z) a)
 |ZZ M=>let⟨p,vs,rfl,h1,h2⟩:=d;cases c;exact f h1.sq e
 |Zv M=>simp[Au]at e
 |ref n=>
  let⟨p,rfl,r⟩:=d;cases c;simp![Au]at e;cases eg:g[n]? with
  |none=>simp![eg]at e;cases e
  |some o=>
   cases o with
   |S M=>
    simp![eg]at e;let⟨C,vs,l,m,B⟩:=y.S eg;rw[r]at l;cases l;exact j (.of m) e
   |ZJ _=>simp![eg]at e;cases e
   |YM _=>simp![eg]at e;cases e
   |dst _=>simp![eg]at e;cases e
   |ins _ _=>simp![eg]at e;cases t<;>first|(cases hT;done)|cases e
 |xn _ _=>simp[Au]at e
def aav{t:Ty}{c:Str}{A:Pos}(hT:t.isB=true)(R:c=Str.ofString (tyName t))(P:Gl X c)(O:X.mg c=none)(N:bootBuiltins c=some (.type (tyName t)))(D:c ≠ "__name__")(L:(c==("__debug__" : Str))=false)
  (d:Gl X "isinstance") (E:X.mg "isinstance" = none) (G:PE X a (tE X.K W (r.ev a'))) (w:∀es,starEach (a::es) X.env=(false,eval a X.env)::starEach es X.env) :
  PE X (.Call (.Name "isinstance" A) [a,.Name c p2] [] pos) (tE X.K W (JP C r (.Y1 a' t))):=by
 have F:CallR X (.builtin "isinstance") (λxs H Q=>∃x J g u k,xs=[x,.ty (tyName t)]/\RH X.K J H g/\RV X.K J H u x/\Au t u g=some k/\Q (.bl k) H):=by
  intro Y s Z H xs M Q I f ⟨x,J,g,u,k,e,d,o,j,q⟩;subst e;cases f with
  |cons z f=>
   cases f with
   |cons y f=>
    cases f;cases y;exact zZ I d o z hT j q
 refine(pe_callB F d E #[2] (ak G (ak (jX (v:=.ty (tyName t)) P O N rfl D L) aJ rfl) (w _)) #[1] #[1] (w _) rfl).imp λZ H Q B=>?_
 refine one B λS J H g u x w d o p=>?_;cases j:Au t u g with
 |none=>simp![j]at p;exact p.elim
 |some k=>simp![j]at p;exact⟨x,J,g,u,k,rfl,d,o,j,okE p d rfl⟩
def aV{x:V}(f:RH X.K J H g)(e:RV X.K J H (.ref n) x)(h:g[n]?=some (.S M)):∃q vs,x=.ref q/\J[n]?=some q/\H q=some (.S vs)/\RVs X.K J H M vs:=by
 let⟨q,rfl,b⟩:=e;let⟨i,vs,a,d,c⟩:=f.S h;rw[b]at a;cases a;exact⟨q,vs,rfl,b,d,c⟩
def bM{x:U}(e:JK x g=some n):x=.ref n /\∃M,g[n]?=some (.S M):=by
 cases x<;>simp![JK,reduceCtorEq]at e
 rename_i m;cases eg:g[m]? with
 |none=>simp[eg]at e
 |some o=>
  cases o with
  |S M=>simp![eg,Yo]at e;subst e;exact⟨rfl,M,eg⟩
  |ZJ _=>simp[eg]at e
  |YM _=>simp[eg]at e
  |dst _=>simp[eg]at e
  |ins _ _=>simp[eg]at e
def fH{o:Expr}{e:String}{h:V->List V->Hp->VK->Prop}{f:Nat->U->G->Out U}(c:Slot "list" name e)(L:typeOf (.builtin e)=pure (.type "method_descriptor"))(m:MtR X e h)
  (imp:∀J H g n q y v Q,RH X.K J H g->J[n]?=some q->RV X.K J H y v->post X.K W (RV X.K) (f n y g) J H Q->h (.ref q) [v] H Q)
  (s:PE X o (tE X.K W (r.ev o'))) (A:PE X a (tE X.K W (r.ev a'))) (I:attributeBase o name X.env (eval o X.env)=eval o X.env) (E:(apos.endLine==Zw.line)=true)
  (b:∀ es,starEach (a :: es) X.env=(false,eval a X.env) :: starEach es X.env):PE X (.Call (.Attribute o name apos) [a] [] Zw) (tE X.K W (λZ g=>(r.ev o' Z g).bind λx g=>match JK x g with
  |some n=>(r.ev a' Z g).bind λy g=>f n y g
  |none=>.Z1)):=by
 refine(abz (T:="list") Qt c L m s (ak A aJ (b _)) I (by rw[b];rfl) E (b _) rfl).imp ?_;rintro Z H Q ⟨i,J,g,b,z,p⟩
 refine⟨i,J,g,b,z,(post.bind p).mono λx H1 ⟨D,u,g1,s1,h1,l,d⟩=>?_⟩;cases ea:JK u g1 with
 |none=>simp![ea]at d;exact d.elim
 |some n=>
  simp![ea]at d;let⟨rfl,M,B⟩:=bM ea;let⟨q,vs,rfl,t,j,N⟩:=aV h1 l B;refine⟨.inl ⟨rfl,vs,.of j⟩,i,D,g1,b.step s1,h1,(post.bind d).mono λy H2 ⟨C,w,g2,s2,h2,k,p2⟩=>?_⟩;exact imp C H2 g2 n q w y Q h2 (s2.ext _ _ t) k p2
def aL{q:Addr}(e:RH X.K J H g)(d:J[n]?=some q)(f:g[n]?=some (.S M)):∃vs,H q=some (.S vs)/\RVs X.K J H M vs:=by
 let⟨h,vs,a,c,b⟩:=e.S f;rw[d]at a;cases a;exact⟨vs,c,b⟩
def aaC{o:Expr}(i:PE X o (tE X.K W (r.ev o')))(k:PE X a (tE X.K W (r.ev a')))(m:attributeBase o "append" X.env (eval o X.env)=eval o X.env)(l:(apos.endLine==Zw.line)=true)
  (h:∀es,starEach (a::es) X.env=(false,eval a X.env)::starEach es X.env):PE X (.Call (.Attribute o "append" apos) [a] [] Zw) (tE X.K W (JP C r (.app o' a'))):=by
 refine fH PySem.F.slot_list_append PySem.F.type_list_append hU (λJ H g n q y v Q e c f p=>?_) i k m l h;simp![AY]at p;cases eg:g[n]? with
 |none=>simp![eg]at p;exact p.elim
 |some o=>
  cases o with
  |S M=>
   simp![eg]at p;let⟨vs,b,d⟩:=aL e c eg;split at p
   .rename_i j
    exact⟨q,vs,v,rfl,rfl,b,by rw[<-d.length,TH];unfold Ac at j;omega,p _ J _ (ZN.write c b) (e.write c b (d.append (.one f))) rfl⟩
   .exact p.elim
  |ZJ _=>simp![eg]at p;exact p.elim
  |YM _=>simp![eg]at p;exact p.elim
  |dst _=>simp![eg]at p;exact p.elim
  |ins _ _=>simp![eg]at p;exact p.elim
def yP{o:Expr}(s:PE X o (tE X.K W (r.ev o')))(u:PE X a (tE X.K W (r.ev a')))(x:attributeBase o "extend" X.env (eval o X.env)=eval o X.env)(w:(apos.endLine==Zw.line)=true)
  (l:∀es,starEach (a::es) X.env=(false,eval a X.env)::starEach es X.env):PE X (.Call (.Attribute o "extend" apos) [a] [] Zw) (tE X.K W (JP C r (.ext o' a'))):=by
 refine fH PySem.F.slot_list_extend PySem.F.type_list_extend t8 (λJ H g n q y v Q d c j p=>?_) s u x w l;simp![BB]at p;cases ea:JK y g with
 |none=>simp![ea]at p;exact p.elim
 |some m=>
  simp![ea]at p;let⟨rfl,zs,h⟩:=bM ea;let⟨k,ws,rfl,z,i,e⟩:=aV d j h;cases eg:g[n]? with
  |none=>simp![eg]at p;exact p.elim
  |some o=>
   cases o with
   |S M=>
    simp![eg,h]at p;let⟨vs,b,f⟩:=aL d c eg;split at p
    .rename_i t
     exact⟨q,k,vs,ws,rfl,rfl,b,i,by rw[<-f.length,<-e.length,TH];unfold Ac at t;omega,p _ J _ (ZN.write c b) (d.write c b (f.append e)) rfl⟩
    .exact p.elim
   |ZJ _=>simp![eg]at p;exact p.elim
   |YM _=>simp![eg]at p;exact p.elim
   |dst _=>simp![eg]at p;exact p.elim
   |ins _ _=>simp![eg]at p;exact p.elim
def aaE{o:Expr}(k:PE X o (tE X.K W (r.ev o')))(m:attributeBase o "pop" X.env (eval o X.env)=eval o X.env)(l:(apos.endLine==Zw.line)=true):
  PE X (.Call (.Attribute o "pop" apos) [] [] Zw) (tE X.K W (JP C r (.pop o'))):=by
 refine(aab (T:="list") Qt PySem.F.slot_list_pop PySem.F.type_list_pop zK k m l).imp λZ H Q j=>one j λs J H g u x hs e i p=>?_;cases ea:JK u g with
 |none=>simp![ea]at p;exact p.elim
 |some n=>
  simp![ea]at p;let⟨rfl,M,f⟩:=bM ea;let⟨q,vs,rfl,c,a,b⟩:=aV e i f;refine⟨.inl ⟨rfl,vs,.of a⟩,?_⟩;simp![A5,f]at p;cases d:M[M.length-1]? with
  |none=>simp![d]at p;exact p.elim
  |some y=>
   simp![d]at p;let⟨v,ev,h⟩:=b.get d;exact⟨q,vs,v,rfl,rfl,a,by rw[<-b.length];exact ev,p _ J _ (ZN.write c a) (e.write c a b.dropLast) (RV.step (ZN.write c a) _ _ h)⟩
def ab7{i:Int}(a:0<=i)(h:i.toNat<n):seqIndex? i n=some i.toNat:=by
 unfold seqIndex?;have h1 : ¬ i<0:=by omega
 have h2:(decide (0<=i)&&decide (i<n))=true:=by rw[Qc a,Qc ()];rfl
 simp![h1,Td,h2,TL]
def xC{o:Expr}(B:PE X o (tE X.K W (r.ev o')))(D:PE X a (tE X.K W (r.ev a')))(G:attributeBase o "pop" X.env (eval o X.env)=eval o X.env)(E:(apos.endLine==Zw.line)=true)
  (A:∀es,starEach (a::es) X.env=(false,eval a X.env)::starEach es X.env):PE X (.Call (.Attribute o "pop" apos) [a] [] Zw) (tE X.K W (JP C r (.V8 o' a'))):=by
 refine fH PySem.F.slot_list_pop PySem.F.type_list_pop uN (λJ H g n q y v Q t d w p=>?_) B D G E A;unfold BJ at p;cases y with
 |int i=>
  cases eg:g[n]? with
  |none=>simp![eg]at p;exact p.elim
  |some o=>
   cases o with
   |S M=>
    simp![eg]at p;by_cases hi:0<=i/\i<9223372036854775808
    .rw [XW hi]at p
     let⟨vs,c,f⟩:=aL t d eg;cases k:M[i.toNat]? with
     |none=>simp![k]at p;exact p.elim
     |some y=>
      simp![k]at p;let⟨u,ev,z⟩:=f.get k;cases w;have j:i.toNat<vs.length:=(Yi.mp ev).1;refine⟨q,vs,i,i.toNat,u,rfl,rfl,c,Int.le_trans #[1] hi.1,hi.2,?_,ev,p _ J _ (ZN.write d c) (t.write d c (by rw[Rz,Rz];exact(f.take _).append (f.drop _))) (RV.step (ZN.write d c) _ _ z)⟩
      exact ab7 hi.1 j
    .rw [WV hi]at p;exact p.elim
   |ZJ _=>simp![eg]at p;exact p.elim
   |YM _=>simp![eg]at p;exact p.elim
   |dst _=>simp![eg]at p;exact p.elim
   |ins _ _=>simp![eg]at p;exact p.elim
 |_=>exact p.elim
end
section
variable(K:Il)
inductive tG(t:Tg)(v:V)(Z:L2.St)(H:Hp)(Q:L2.St->Hp->Prop):Prop
 |mk (Z2:Su) (J:List Addr) (g:G) (u:U) (X0:Su) (hs:RS K J H Z2 Z) (hg:RH K J H g) (r:RV K J H u v) (e:Ae t (JN t u g) Z2=some X0) (q:∀ZX,RS K J H X0 ZX->Q ZX H)
inductive UK(is:List Nat)(vs:List V)(Z:L2.St)(H:Hp)(Q:L2.St->Hp->Prop):Prop
 |mk (Z2:Su) (J:List Addr) (M:List U) (X0:Su) (hs:RS K J H Z2 Z) (r:RVs K J H M vs) (e:bindL is M Z2=some X0) (q:∀ZX,RS K J H X0 ZX->Q ZX H)
def RI(J:List Addr)(H:Hp)(i:Iter)(c:It):Prop:=match i with
 |.S n=>∃a,J[n]?=some a/\c=Itl K a
 |.Y0 n=>∃a,J[n]?=some a/\c=Ite K a
 |.zip n m=>∃a b,J[n]?=some a/\J[m]?=some b/\c=Itz K a b
 |.seq M=>∃a vs,(SqU K H a vs\/SqC K a vs)/\RVs K J H M vs/\c=Itt K a
 |.YY lo n=>c=Itr lo n
abbrev tI(W:XQ)(f:Su->G->Out Iter):TI:=tR K W (RI K) f
end
def RI.step{K:Il}{J d:List Addr}{H f:Hp}{i:Iter}{e:It}(s:ZN K J H d f)(h:RI K J H i e):RI K d f i e:=by
 cases i with
 |S n=>let⟨a,h1,h2⟩:=h;exact⟨a,s.ext _ _ h1,h2⟩
 |Y0 n=>let⟨a,h1,h2⟩:=h;exact⟨a,s.ext _ _ h1,h2⟩
 |zip n m=>let⟨a,b,h1,h2,c⟩:=h;exact⟨a,b,s.ext _ _ h1,s.ext _ _ h2,c⟩
 |seq M=>let⟨a,vs,h1,h2,c⟩:=h;exact⟨a,vs,h1.imp_left (s.ZZ _ _),RVs.step s _ _ h2,c⟩
 |YY lo n=>exact h
section
variable{W:XQ}{a b c:Expr}{b' c':E}{t:Tg}
def eQ{t:Tg}{Z a:Su}(h:Ae t u Z=some a):Ae t (JN t u g) Z=some a:=by
 cases t with
 |nm i=>exact h
 |tp is=>
  cases u with
  |ref n=>simp[Ae]at h
  |_=>exact h
def Hu(K:Il)(n:Nat)(t:WJ):TG:=λv Z H Q=>∃a xs,v=.ref a/\SqL K H a xs/\xs.length=n/\t xs Z H Q
def v9{k:Nat}{t:WJ}(w:X.calm=true)(h:PGs X es t)
  (p:(assignEach es X.env).length=n) (z:(assignEach es X.env).findIdx? (·.1)=none):PG X (.Tuple es k pos) (Hu X.K n t):=by
 intro Y s Z H v u Q I r f;let⟨a,xs,y,l,q,f⟩:=f;subst y;cases r;let⟨ZY,g,⟨o,m,e,A,i,d⟩,C⟩:=I.list l;have x:s.heap.IsList a ZY.toArray:=⟨o,e,A,m,d⟩;rw[assign_Tuple];refine ZB (Tn ?_);unfold unpack;have c:(assignEach es X.env).length=ZY.toArray.size:=by simp[p,<-q,g.length]
 rw[c,z];refine ZB (Uu (PySem.W.kun_itemsOf (I.ok.hd w) x λh' j=>?_));have B:Z4 X Y Z H {s with heap:=h'}:=I.kept (t':=s.toks) λb o e=>j b o (Ii (Ia e)) e
 exact h Y _ Z H xs _ Q B (by simpa using g) f
def abL(d:X.N.Nodup)(b:X.N[i]?=some x)(hx:Loc X.env.scope x)(c:X.fn x=true\/X.env.scope.names.lookup x=some .local):PG X (.Name x pos) (tG X.K (.nm i)):=by
 intro Y s Z H v u Q I a ⟨j,J,g,w,k,hs,h,f,e,q⟩;refine kj d b hx c Y s Z H v u Q I a ?_;simp![JN,Ae]at e;split at e
 .cases e;exact q _ (hs.set f)
 .cases e
def sgs_nil:PGs X [] (UK X.K []):=by
 intro Y s Z H vs M Q I a ⟨c,J,ws,d,hs,b,e,q⟩;refine ye Y s Z H vs M Q I a ?_;cases ws with
 |nil=>cases b;cases e;exact⟨rfl,q _ hs⟩
 |cons _ _=>cases e
def v7{is:List Nat}(j:X.N.Nodup)(f:X.N[i]?=some x)(hx:Loc X.env.scope x)(g:X.fn x=true\/X.env.scope.names.lookup x=some .local)(h:PGs X ts (UK X.K is)):PGs X (.Name x pos::ts) (UK X.K (i::is)):=by
 intro Y s Z H vs M Q I b ⟨m,J,ws,l,hs,k,e,q⟩;refine v3 (kj j f hx g) h rfl Y s Z H vs M Q I b ?_;cases ws with
 |nil=>cases e
 |cons w ws=>
  let⟨v,a,rfl,d,c⟩:=k;simp![bindL]at e;split at e
  .exact ⟨v,a,rfl,_,J,ws,l,hs.set d,c,e,q⟩
  .cases e
def eR:∀{is:List Nat} {M:List U} {Z ZX:Su},bindL is M Z=some ZX->M.length=is.length
 |[],[],_,_,_=>rfl
 |_::is,_::M,_,_,e=>by
  simp![bindL]at e;split at e
  .simp [eR e]
  .cases e
 |[],_::_,_,_,e=>by simp[bindL]at e
 |_::_,[],_,_,e=>by simp[bindL]at e
def abF{is:List Nat}{k:Nat}(j:X.calm=true)(h:PGs X ts (UK X.K is))(i:(assignEach ts X.env).length=is.length)(l:(assignEach ts X.env).findIdx? (·.1)=none):PG X (.Tuple ts k pos) (tG X.K (.tp is)):=by
 intro Y s Z H v u Q I f ⟨c,J,g,w,d,hs,r,m,e,q⟩;cases w with
 |ZZ M=>
  refine abj j h i l Y s Z H v u Q I f ?_;let⟨a,vs,rfl,h1,h2⟩:=m;have e':bindL is M c=some d:=e;exact⟨a,vs,rfl,h1.sq,by rw[<-h2.length];exact eR e',c,J,M,d,hs,h2,e',q⟩
 |ref n=>
  simp![JN]at e;cases eg:g[n]? with
  |none=>simp[eg,Ae]at e
  |some o=>
   cases o with
   |S xs=>
    refine v9 j h i l Y s Z H v u Q I f ?_;let⟨a,vs,p,t,h2⟩:=r.S eg;let⟨a',rfl,b⟩:=m;rw[p]at b;cases b;have e':bindL is xs c=some d:=by simpa[eg,Ae]using e
    exact⟨a,vs,rfl,.of t,by rw[<-h2.length];exact eR e',c,J,xs,d,hs,h2,e',q⟩
   |_=>simp[eg,Ae]at e
 |_=>simp[JN,Ae]at e
def aaw{l:Expr}{i:E}(B:PE X l (tE X.K W (r.ev i))):PI X tg l (tI X.K W (λZ g=>(r.ev i Z g).bind λu g=>match u with
  |.ZZ xs=>Out.ok (Iter.seq xs) g
  |.xn _ xs=>Out.ok (Iter.seq xs) g
  |.ref n=>match g[n]? with
   |some (.S _)=>.ok (.S n) g
   |_=>.Z1
  |_=>.Z1)):=by
 intro Y s Z H R I z;have C:tE X.K W (r.ev i) Z H (λx H1=>(∃a,x=.ref a/\(∃xs,SqL X.K H1 a xs)/\R (Itl X.K a) H1)\/(∃a,x=.ref a/\(∃xs,SqT X.K H1 a xs)/\R (Itt X.K a) H1)):=by
  refine one (R:=RI X.K) z λF J H g u x hs h f p=>?_;cases u with
  |ZZ M=>let⟨a,vs,rfl,h1,h2⟩:=f;exact .inr ⟨a,rfl,⟨vs,h1.sq⟩,post.Zk (R:=RI X.K) p h ⟨a,vs,.inl h1,h2,rfl⟩⟩
  |xn _ M=>let⟨a,vs,rfl,h1,h2⟩:=f;exact .inr ⟨a,rfl,⟨vs,h1.sq⟩,post.Zk (R:=RI X.K) p h ⟨a,vs,.inr h1,h2,rfl⟩⟩
  |ref n=>
   simp![]at p;cases eg:g[n]? with
   |none=>simp![eg]at p;exact p.elim
   |some o=>
    cases o with
    |S M=>
     simp![eg]at p;let⟨q,vs,rfl,A,m,D⟩:=aV h f eg;exact .inl ⟨q,rfl,⟨vs,.of m⟩,post.Zk (R:=RI X.K) p h ⟨q,A,rfl⟩⟩
    |ZJ _=>simp![eg]at p;exact p.elim
    |YM _=>simp![eg]at p;exact p.elim
    |dst _=>simp![eg]at p;exact p.elim
    |ins _ _=>simp![eg]at p;exact p.elim
  |_=>exact p.elim
 refine thn (B Y s Z H _ I C) ?_;rintro v c ⟨x,H1,d,f,w⟩;rcases w with⟨a,e,⟨xs,j⟩,q⟩|⟨a,e,⟨xs,j⟩,q⟩
 .subst e
  cases f;let⟨ZY,t,p,y⟩:=d.list j;refine wpAny_pyIter_list p.isList ?_;refine⟨c.heap.objs.size,[c.heap.objs.size],_,_,H1,rfl,d.kept (t':=c.toks) λb o e=>H9 _ e,tZ a _,⟨_,Ij _ rfl,rfl,rfl⟩,λb k=>?_,q⟩;have e:b=c.heap.objs.size:=by simpa using k
  subst e;exact d.UZ (Ie _) (d.ZO.fresh (Ie _))
 .subst e
  cases f;let⟨ZY,t,p,y⟩:=d.tuple j;refine wpAny_pyIter_tuple (show c.heap.IsTuple a ZY.toArray from p) ?_;refine⟨c.heap.objs.size,[c.heap.objs.size],_,_,H1,rfl,d.kept (t':=c.toks) λb o e=>H9 _ e,s9 a _,⟨_,Ij _ rfl,rfl,rfl⟩,λb k=>?_,q⟩;have e:b=c.heap.objs.size:=by simpa using k
  subst e;exact d.UZ (Ie _) (d.ZO.fresh (Ie _))
def PI.imp{t t':TI}(h:PI X tg iter t)(q:∀Z H Q,t' Z H Q->t Z H Q):PI X tg iter t':=λY s Z H Q I h'=>h Y s Z H Q I (q Z H Q h')
def zv{d:Pos}(b:Gl X "enumerate")(j:X.mg "enumerate" = none)(k:PE X a (tE X.K W (r.ev a')))(c:∀es,starEach (a::es) X.env=(false,eval a X.env)::starEach es X.env):
  PI X (.Tuple elts x1 d) (.Call (.Name "enumerate" p) [a] [] pos) (tI X.K W (JO r (.Y0 a'))):=by
 refine PI.imp (xp b j (ak k aJ (c _)) (c _)) λZ H R h=>one (R:=RI X.K) h λo J H g u x c b f p=>?_;cases ea:JK u g with
 |none=>simp![ea]at p;exact p.elim
 |some n=>
  simp![ea]at p;let⟨rfl,M,l⟩:=bM ea;let⟨q,vs,rfl,i,e,m⟩:=aV b f l;exact⟨q,rfl,⟨vs,.of e⟩,post.Zk (R:=RI X.K) p b ⟨q,i,rfl⟩⟩
def zi{i:Pos}(c:Gl X "zip")(v:X.mg "zip" = none)(A:PE X a (tE X.K W (r.ev a')))(z:PE X b (tE X.K W (r.ev b')))(d:∀es,starEach (a::es) X.env=(false,eval a X.env)::starEach es X.env)(h:∀es,starEach (b::es) X.env=(false,eval b X.env)::starEach es X.env):
  PI X (.Tuple elts x1 i) (.Call (.Name "zip" p) [a,b] [] pos) (tI X.K W (JO r (.zip a' b'))):=by
 refine PI.imp (z9 c v (ak A (ak z aJ (h _)) (d _)) d (h _)) λZ H R s=>two (R:=RI X.K) s λI J H g u w x y d c o l p=>?_;cases ea:JK u g with
 |none=>simp![ea]at p;exact p.elim
 |some n=>
  cases e:JK w g with
  |none=>simp![ea,e]at p;exact p.elim
  |some m=>
   simp![ea,e]at p;let⟨rfl,M,B⟩:=bM ea;let⟨rfl,L,E⟩:=bM e;let⟨q,vs,rfl,t,k,G⟩:=aV c o B;let⟨f,D,rfl,C,F,j⟩:=aV c l E;exact⟨q,f,rfl,⟨vs,.of k⟩,⟨D,.of F⟩,post.Zk (R:=RI X.K) p c ⟨q,f,t,C,rfl⟩⟩
def x8(c:Gl X "range")(f:X.mg "range" = none)(h:PE X a (tE X.K W (r.ev a')))(b:∀es,starEach (a::es) X.env=(false,eval a X.env)::starEach es X.env):
  PI X tg (.Call (.Name "range" p) [a] [] pos) (tI X.K W (JO r (.YT a'))):=by
 refine PI.imp (uw c f (ak h aJ (b _)) (b _)) λZ H R e=>one (R:=RI X.K) e λk J H g u x b c d p=>?_;cases u with
 |int j=>
  cases d;simp![]at p;split at p
  .rename_i i
   exact⟨j,rfl,by omega,by omega,post.Zk (R:=RI X.K) p c rfl⟩
  .exact p.elim
 |_=>exact p.elim
def fh{p:It}(j:RH X.K J H g)(f:RI X.K J H it p)(e:next it i g=some none):p.stop i H:=by
 cases it with
 |S n=>
  let⟨a,h1,rfl⟩:=f;simp![next]at e;cases eg:g[n]? with
  |none=>simp[eg]at e
  |some o=>
   cases o with
   |S M=>
    simp![eg,Yo]at e;let⟨vs,d,c⟩:=aL j h1 eg;exact⟨vs,.of d,UQ.mp (c.none_of e)⟩
   |ZJ _=>simp[eg]at e
   |YM _=>simp[eg]at e
   |dst _=>simp[eg]at e
   |ins _ _=>simp[eg]at e
 |Y0 n=>
  let⟨a,h1,rfl⟩:=f;simp![next]at e;cases eg:g[n]? with
  |none=>simp[eg]at e
  |some o=>
   cases o with
   |S M=>
    simp![eg,Yo,QC]at e;let⟨vs,d,c⟩:=aL j h1 eg;exact⟨vs,.of d,UQ.mp (c.none_of e)⟩
   |_=>simp[eg]at e
 |zip n m=>
  let⟨a,b,h1,h2,rfl⟩:=f;simp![next]at e;cases eg:g[n]? with
  |none=>simp[eg]at e
  |some o=>
   cases o with
   |S M=>
    cases k:g[m]? with
    |none=>simp[eg,k]at e
    |some o'=>
     cases o' with
     |S s=>
      simp![eg,k,Yo]at e;let⟨vs,d,c⟩:=aL j h1 eg;let⟨q,r,l⟩:=aL j h2 k;refine⟨vs,q,.of d,.of r,?_⟩;cases ex:M[i]? with
      |none=>exact .inl (UQ.mp (c.none_of ex))
      |some z=>
       rw[ex,Se,QC]at e;exact .inr (UQ.mp (l.none_of e))
     |_=>simp[eg,k]at e
   |_=>simp[eg]at e
 |seq M=>
  let⟨a,vs,h1,h2,rfl⟩:=f;simp![next,Yo]at e;exact⟨vs,h1.elim SqU.sq SqC.sq,UQ.mp (h2.none_of e)⟩
 |YY lo n=>
  cases f;simp![next,Yo]at e;split at e
  .cases e
  .rename_i h;exact Nat.le_of_not_lt h
def gp{F:It}(k:RH X.K J H g)(s:RI X.K J H it F)(e:next it i g=some (some u)):F.go i H /\∀x H',F.yld i H x H'->ZN X.K J H J H'/\RH X.K J H' g/\RV X.K J H' u x:=by
 have c:∀{x:V} {H':Hp},H'=H->RV X.K J H u x->ZN X.K J H J H'/\RH X.K J H' g/\RV X.K J H' u x:=λe r=>by subst e;exact⟨.refl,k,r⟩
 cases it with
 |S n=>
  let⟨a,h1,rfl⟩:=s;simp![next]at e;cases eg:g[n]? with
  |none=>simp[eg]at e
  |some o=>
   cases o with
   |S M=>
    simp![eg,Yo]at e;let⟨vs,f,q⟩:=aL k h1 eg;let⟨v,d,j⟩:=q.get e;refine⟨⟨vs,v,.of f,d⟩,λx H' ⟨h1,h2⟩=>c h1 ?_⟩;have:=h2 vs (.of f);rw[d]at this;cases this;exact j
   |ZJ _=>simp[eg]at e
   |YM _=>simp[eg]at e
   |dst _=>simp[eg]at e
   |ins _ _=>simp[eg]at e
 |Y0 n=>
  let⟨a,h1,rfl⟩:=s;simp![next]at e;cases eg:g[n]? with
  |none=>simp[eg]at e
  |some o=>
   cases o with
   |S M=>
    simp![eg,Yo]at e;let⟨w,E,D⟩:=Yn.mp e;let⟨vs,f,q⟩:=aL k h1 eg;let⟨v,d,j⟩:=q.get E;refine⟨⟨vs,v,.of f,d⟩,λx H' ⟨p,l,hp,ex,C,all⟩=>?_⟩;have:=all vs (.of f);rw[d]at this;cases this;subst ex;subst C;subst D;have sp:ZN X.K J H J (upd H p (.ZZ [.int i,v])):=ZN.fresh hp;exact⟨sp,k.step_fresh hp,p,[.int i,v],rfl,upd_same,.int i,[v],rfl,rfl,v,[],rfl,RV.step sp _ _ j,rfl⟩
   |_=>simp[eg]at e
 |zip n m=>
  let⟨a,b,h1,h2,rfl⟩:=s;simp![next]at e;cases eg:g[n]? with
  |none=>simp[eg]at e
  |some o=>
   cases o with
   |S M=>
    cases A:g[m]? with
    |none=>simp[eg,A]at e
    |some o'=>
     cases o' with
     |S U=>
      simp![eg,A,Yo]at e;let⟨w,E,e⟩:=WQ.mp e;let⟨T,P,D⟩:=Yn.mp e;let⟨vs,f,q⟩:=aL k h1 eg;let⟨L,O,B⟩:=aL k h2 A;let⟨v,d,j⟩:=q.get E;let⟨l,t,Q⟩:=B.get P;refine⟨⟨vs,L,v,l,.of f,.of O,d,t⟩,λx H' ⟨p,z,R,hp,ex,C,all,y⟩=>?_⟩;have I:=all vs (.of f);have G:=y L (.of O);rw[d]at I;cases I;rw[t]at G;cases G;subst ex;subst C;subst D;have sp:ZN X.K J H J (upd H p (.ZZ [v,l])):=ZN.fresh hp;exact⟨sp,k.step_fresh hp,p,[v,l],rfl,upd_same,v,[l],rfl,RV.step sp _ _ j,l,[],rfl,RV.step sp _ _ Q,rfl⟩
     |_=>simp[eg,A]at e
   |_=>simp[eg]at e
 |seq M=>
  let⟨a,vs,h1,h2,rfl⟩:=s;simp![next,Yo]at e;let⟨v,d,j⟩:=h2.get e;have N:SqT X.K H a vs:=h1.elim SqU.sq SqC.sq;refine⟨⟨vs,v,N,d⟩,λx H' ⟨h3,h4⟩=>c h3 ?_⟩;have:=h4 vs N;rw[d]at this;cases this;exact j
 |YY lo n=>
  cases s;simp![next,Yo]at e;split at e
  .rename_i h
   cases e;exact⟨h,λx H' ⟨h1,h2⟩=>c h1 h2⟩
  .cases e
variable{st:Stmt}{ZV:List Stmt}{s':Z5}{ZD:List Z5}
def lj:PSs X [] (ZF X.K W (JS r [])):=dH.imp λD Z H ⟨b,J,g,hs,a,p⟩=>p Z J H .refl a hs
def kO(i:PS X st (ZF X.K W (JR r s')))(b:PSs X ZV (ZF X.K W (r.ex ZD))):PSs X (st::ZV) (ZF X.K W (JS r (s'::ZD))):=by
 refine(dq i b).imp λD Z H ⟨d,J,g,hs,h,p⟩=>⟨d,J,g,hs,h,?_⟩;revert p;simp![JS];cases JR r s' d g with
 |ok f g1=>
  cases f with
  |nx a=>exactλp l j H2 e b k=>⟨a,j,g1,k,b,JX.from (o:=r.ex ZD a g1) p e⟩
  |rt u=>exactλp=>p
  |bk a=>exactλp=>p
  |ct a=>exactλp=>p
 |exc c fs g1=>exactλp=>p
 |Z1=>exactλp=>p
def d8{f:Su->G->Out U}{k:Su->U->G->Out Fl}{Z:L2.St}{H:Hp}{D:Ends}
  (hp:ZF X.K W (λa g=>(f a g).bind λx g=>k a x g) D Z H)
  (b:∀a J H g u x,RS X.K J H a Z->RH X.K J H g->RV X.K J H u x->JX X.K W (k a u g) J H D->Q2 x H):tE X.K W f Z H Q2:=by
 let⟨a,J,g,hs,e,p⟩:=hp;exact⟨a,J,g,hs,e,(JX.bind p).mono λx H1 ⟨h,u,g1,s1,h1,c,d⟩=>b a h H1 g1 u x (hs.step s1) h1 c d⟩
def fM(h:PE X e (tE X.K W (r.ev e'))):PS X (.Return (some e) pos) (ZF X.K W (JR r (.ret e'))):=
 (aar h).imp λD Z H b=>d8 b λd J H g u x hs c a p=>p x J H .refl c a
def nQ(h:PE X e (tE X.K W (r.ev e')))(a:swapsWith e none pos.line X.env=pure false):PS X (.Expr e pos) (ZF X.K W (JR r (.exp e'))):=
 (wM h a).imp λD Z H b=>d8 b λf J H g u x a c d p=>p _ J H .refl c a
def zo{a:Su}{Z:L2.St}{D:Ends}(d:RS X.K J H a Z)(b:RH X.K J H g)(c:RV X.K J H u v)(p:JX X.K W (match Ae t (JN t u g) a with|some ZX=>Out.ok (.nx ZX) g|none=>.Z1) J H D):tG X.K t v Z H D.nx:=by
 cases e:Ae t (JN t u g) a with
 |none=>simp![e]at p;exact p.elim
 |some f=>simp![e]at p;exact⟨a,J,g,u,f,d,b,c,e,λZX h=>p ZX J H .refl b h⟩
def nO(h:PE X e (tE X.K W (r.ev e')))(b:PG X tg (tG X.K t))(a:swapsWithSole [tg] e pos.line X.env=pure false)(d:swappedStores [tg] e X.env=pure none)(i:(assignEach [tg] X.env).map (·.2)=[assign tg X.env]):
  PS X (.Assign [tg] e pos) (ZF X.K W (JR r (.set t e'))):=
 (lR h b a d i).imp λD Z H f=>d8 f λj J H g u x a b c p=>zo a b c p
def ly{a:Pos}(m:X.N.Nodup)(j:X.N[i]?=some x)(hx:Loc X.env.scope x)(l:X.fn x=true\/X.env.scope.names.lookup x=some .local)(h:PE X e (tE X.K W (r.ev e')))(b:swapsWith e (some (.Name x a)) pos.line X.env=pure false):
  PS X (.Assign [.Name x a] e pos) (ZF X.K W (JR r (.set (.nm i) e'))):=
 (mJ m j hx h b l).imp λD Z H f=>d8 f λn J H g u x b k d p=>by
  simp![JN,Ae]at p;by_cases c:i<n.length
  .rw [XW c]at p;exact p _ J H .refl k (b.set d)
  .rw [WV c]at p;exact p.elim
def zd{y:Str}{e d f:Pos}{kt k2 WX}(z:X.calm=true)(C:X.N.Nodup)(s:X.N[i]?=some x)(q:X.N[j]?=some y)(I:i≠j)
  (hx:X.env.scope.names.lookup x=some .local) (n:X.env.scope.names.lookup y=some .local) (B:PE X a (tE X.K W (r.ev a'))) (A:PE X b (tE X.K W (r.ev b'))) (c:∀es,starEach (a::es) X.env=(false,eval a X.env)::starEach es X.env) (G:∀es,starEach (b::es) X.env=(false,eval b X.env)::starEach es X.env)
  (o:swappedStores [.Tuple [.Name x e,.Name y d] kt f] (.Tuple [a,b] k2 WX) X.env=pure (some [x,y])) :
  PS X (.Assign [.Tuple [.Name x e,.Name y d] kt f] (.Tuple [a,b] k2 WX) pos) (ZF X.K W (JR r (.par i j a' b'))):=by
 refine(abd z C s q I hx n (ak B (ak A aJ (G _)) (c _)) o rfl).imp ?_;rintro D Z H ⟨h,J,g,hs,t,p⟩;refine⟨h,J,g,hs,t,(JX.bind p).mono λv H1 ⟨F,u,g1,s1,h1,l,m⟩=>?_⟩;refine⟨h,F,g1,hs.step s1,h1,(JX.bind m).mono λw H2 ⟨E,u2,g2,s2,h2,k,p2⟩=>?_⟩;split at p2
 .exact ⟨v,w,rfl,p2 _ E H2 .refl h2 ((((hs.step s1).step s2).set (RV.step s2 _ _ l)).set k)⟩
 .exact p2.elim
def yJ{o i:Expr}{i':E}{W8:Pos}(hu:X.A.units+1<cLine)(h:PE X e (tE X.K W (r.ev e')))(ho:PE X o (tE X.K W (r.ev o')))(hi:PE X i (tE X.K W (r.ev i')))(hs:swapsWithSole [.Subscript o i W8] e pos.line X.env=pure false)(hw:swappedStores [.Subscript o i W8] e X.env=pure none)
  (ha:∀ v,assign (.Subscript o i W8) X.env v=(do
   let ov<-holding [v] (eval o X.env)
   let iv<-holding [v,ov] (eval i X.env)
   standAt W8
   holding [v,ov,iv] (setItem ov iv v)
   release [v,ov,iv] [])):PS X (.Assign [.Subscript o i W8] e pos) (ZF X.K W (JR r (.sub o' i' e'))):=by
 refine(lR h (yD ho hi (x5 set_list (set_dict hu)) ha) hs hw rfl).imp ?_;rintro D Z H ⟨Z2,J,g,hs,hg,p⟩;refine⟨Z2,J,g,hs,hg,(JX.bind p).mono λv H1 ⟨ZS,u,g1,s1,h1,r1,p1⟩=>?_⟩;refine⟨Z2,ZS,g1,hs.step s1,h1,(JX.bind p1).mono λw H2 ⟨Zr,u2,g2,s2,h2,r2,p2⟩=>?_⟩;refine⟨Z2,Zr,g2,(hs.step s1).step s2,h2,(JX.bind p2).mono λz H3 ⟨Vn,u3,g3,s3,h3,r3,p3⟩=>?_⟩;cases u2 with
 |ref n=>
  cases u3 with
  |int k=>
   cases r3;simp![subAt,EL]at p3;cases eg:g3[n]? with
   |none=>simp![eg]at p3;exact p3.elim
   |some ob=>
    cases ob with
    |S M=>
     simp![eg]at p3;let⟨q,vs,rfl,hn,t2,t3⟩:=aV h3 (RV.step s3 _ _ r2) eg;cases ej:ixN M.length k with
     |none=>simp![ej]at p3;exact p3.elim
     |some j=>
      simp![ej]at p3;have rv:=RV.step s3 _ _ (RV.step s2 _ _ r1);exact .inl ⟨q,vs,k,j,rfl,rfl,t2,by rw[<-t3.length];exact ej,p3 _ Vn _ (ZN.write hn t2) (h3.write hn t2 (t3.set rv j)) ((((hs.step s1).step s2).step s3).step (ZN.write hn t2))⟩
    |ZJ _=>simp![eg]at p3;exact p3.elim
    |YM _=>simp![eg]at p3;exact p3.elim
    |dst _=>simp![eg]at p3;exact p3.elim
    |ins _ _=>simp![eg]at p3;exact p3.elim
  |ZZ M=>
   simp![subAt,Eb]at p3;cases eg:g3[n]? with
   |none=>simp![eg]at p3;exact p3.elim
   |some ob=>
    cases ob with
    |ZJ Z3=>
     simp![eg]at p3;cases ek:intsOf M with
     |none=>simp![ek]at p3;exact p3.elim
     |some k=>
      simp![ek]at p3;by_cases hl:Z3.length<Ac
      .rw [XW hl]at p3
       let⟨q,ws,hn,ha,rd⟩:=h3.ZJ eg;let⟨q',rfl,Zj⟩:=RV.step s3 _ _ r2;rw[hn]at Zj;cases Zj;let⟨b,rfl,hb⟩:=fN (x:=.ZZ M) (k:=k) ek r3;have rv:=RV.step s3 _ _ (RV.step s2 _ _ r1);refine .inr ⟨q,_,rfl,DPut.t ha hb ?_,p3 _ Vn _ (ZN.XI hn ha trivial) (h3.XI hn ha trivial ⟨_,rfl,rd.put rv⟩) ((((hs.step s1).step s2).step s3).step (ZN.XI hn ha trivial))⟩;rw[<-rd.len,TH];unfold Ac at hl;omega
      .rw [WV hl]at p3;exact p3.elim
    |S _=>simp![eg]at p3;exact p3.elim
    |YM _=>simp![eg]at p3;exact p3.elim
    |dst _=>simp![eg]at p3;exact p3.elim
    |ins _ _=>simp![eg]at p3;exact p3.elim
  |str k=>
   simp![subAt,FW]at p3;cases eg:g3[n]? with
   |none=>simp![eg]at p3;exact p3.elim
   |some ob=>
    cases ob with
    |dst Z3=>
     simp![eg]at p3;by_cases hl:Z3.length<Ac
     .rw [XW hl]at p3
      let⟨q,ws,hn,ha,rk⟩:=h3.dst eg;let⟨q',rfl,Zj⟩:=RV.step s3 _ _ r2;rw[hn]at Zj;cases Zj;cases r3;have rv:=RV.step s3 _ _ (RV.step s2 _ _ r1);refine .inr ⟨q,_,rfl,DPut.k (k:=Sum.inr k) ha ?_,p3 _ Vn _ (ZN.XI hn ha trivial) (h3.XI hn ha trivial ⟨_,rfl,rk.put rv⟩) ((((hs.step s1).step s2).step s3).step (ZN.XI hn ha trivial))⟩;rw[<-rk.len,TH];unfold Ac at hl;omega
     .rw [WV hl]at p3;exact p3.elim
    |_=>simp![eg]at p3;exact p3.elim
  |_=>exact False.elim p3
 |_=>exact False.elim p3
def abB{as bs:List Stmt}{e:List Z5}(h:PT X c (tT X.K W (r.ts c')))(j:PSs X as (ZF X.K W (r.ex e)))(i:PSs X bs (ZF X.K W (r.ex Y6))):PS X (.If c as bs pos) (ZF X.K W (JR r (.Zs c' e Y6))):=by
 refine(pk h j i).imp ?_;rintro D Z H ⟨a,J,g,hs,f,p⟩;refine⟨a,J,g,hs,f,(JX.bind (R:=YI) p).mono λk H1 ⟨d,k',g1,s1,h1,l,b⟩=>?_⟩;subst l;cases k' with
 |true=>exact aZ ⟨a,d,g1,hs.step s1,h1,b⟩
 |false=>exact aY ⟨a,d,g1,hs.step s1,h1,b⟩
def gi{o:Out Fl}{k:Su->G->Out Fl}{D:Ends}{N:L2.St->Hp->Prop}
  (p:JX X.K W (o.bind λf g=>match f with|.nx ZX=>k ZX g|.ct ZX=>k ZX g|.bk ZX=>.ok (.nx ZX) g|.rt u=>.ok (.rt u) g) J H D)
  (b:∀a d Z ZU H',ZN X.K J H ZU H'->RH X.K ZU H' d->RS X.K ZU H' a Z->JX X.K W (k a d) ZU H' D->N Z H'):JX X.K W o J H {D with nx:=N,ct:=N,bk:=D.nx}:=by
 cases o with
 |ok f g=>
  cases f with
  |nx a=>exactλZ ZU H' s h hs=>b a g Z ZU H' s h hs (JX.from (o:=k a g) p s)
  |ct a=>exactλZ ZU H' s h hs=>b a g Z ZU H' s h hs (JX.from (o:=k a g) p s)
  |bk a=>exact p
  |rt u=>exact p
 |exc c fs g=>exact p
 |Z1=>exact p
def yM{bs:List Stmt}{n:Nat}(hp:PassesOwn (model X.prog X.w) X.A X.env X.xe)(F:∀n,PT X c (tT X.K W ((JW C n).ts c')))(G:∀n,PSs X bs (ZF X.K W ((JW C n).ex Y6))):
  PS X (.While c bs [] pos) (ZF X.K W (JR (JW C n) (.U3 c' Y6))):=by
 intro Y s Z H D I B;have l:∀m Z H,ZF X.K W ((JW C m).wh c' Y6) D Z H ->∃j,m=j+1:=λm Z H ⟨o,J,g,_,_,p⟩=>by
  cases m with
  |zero=>exact p.elim
  |succ j=>exact⟨j,rfl⟩
 refine wpAny_While (codeAny_whileLoop (λn s'=>∃ZX H',L2.Z4 X Y ZX H' s'/\ZF X.K W ((JW C n).wh c' Y6) D ZX H') ?_ n ⟨Z,H,I,B⟩);rintro n d ⟨a,H1,O,t⟩;let⟨m,rfl⟩:=l n a H1 t;let⟨o,J,g,hs,E,p⟩:=t;refine Ss hp (thn (F m Y d a H1 (λb H2=>if b=true then ZF X.K W ((JW C m).ex Y6) {D with nx:=λZX H'=>ZF X.K W ((JW C m).wh c' Y6) D ZX H',ct:=λZX H'=>ZF X.K W ((JW C m).wh c' Y6) D ZX H',bk:=D.nx} a H2 else D.nx a H2) O ?_) λb u ⟨H2,z,h⟩=>?_)
 .refine ⟨o,J,g,hs,E,(JX.bind (R:=YI) p).mono λk H1 ⟨y,k',g1,d,h1,L,x⟩=>?_⟩
  subst L;cases k' with
  |true=>exact aZ ⟨o,y,g1,hs.step d,h1,gi (k:=λZX g=>(JW C m).wh c' Y6 ZX g) x λN g2 Z ZU H' u h2 M p2=>⟨N,ZU,g2,M,h2,p2⟩⟩
  |false=>exact aY (x _ y _ .refl h1 (hs.step d))
 .cases b with
  |true=>
   rw[XW rfl]at h;rw[XW rfl];refine Ss hp (thn (G m Y u a H2 _ z h) λf s3 e=>?_);cases f with
   |next=>
    let⟨q,H3,r,i⟩:=e;exact⟨m,Sl _,q,H3,r,i⟩
   |cont=>
    let⟨q,H3,r,i⟩:=e;exact⟨m,Sl _,q,H3,r,i⟩
   |brk=>exact e
   |ret v=>exact e
  |false=>
   rw[WV Ic]at h;rw[WV Ic];exact QH ⟨a,H2,z,h⟩
end
section
variable{YU:List Addr}{H0:Hp}{D:Addr}{KJ o2:HO}
def ZN.VV(s:ZN K YU H0 J H)(h0:H0 D=none)(hD:H D=some KJ)(hm:Bo KJ):ZN K YU H0 J (upd H D o2) where
 ext:=s.ext
 new:=s.new
 Yj:=λa o h hn=>by rw[aa (aG h h0)];exact s.Yj a o h hn
 live:=λa h=>by
  by_cases e:a=D
  .subst e;rw[upd_same];simp
  .rw [aa e];exact s.live a h
 ZZ:=λa xs h=>aS (s.ZZ a xs h) (.inr ⟨_,hD,hm⟩)
 Zv:=λa xs h=>aR (s.Zv a xs h) (.inr ⟨_,hD,hm⟩)
 Zo:=λa ob u h=>by rw[aa (cO (s.Zo a ob u h) hD (by rintro rfl;exact hm))];exact s.Zo a ob u h
def RV.VV(b:H D=some KJ)(a:Bo KJ)(h:RV K J H u v):RV K J (upd H D o2) u v:=RV.mono (λ_ _ e=>e) (λ_ _ h=>aS h (.inr ⟨_,b,a⟩)) (λ_ _ h=>aR h (.inr ⟨_,b,a⟩)) u v h
def RVs.VV(b:H D=some KJ)(a:Bo KJ){u:List U}{v:List V}(h:RVs K J H u v):RVs K J (upd H D o2) u v:=RVs.mono (λ_ _ e=>e) (λ_ _ h=>aS h (.inr ⟨_,b,a⟩)) (λ_ _ h=>aR h (.inr ⟨_,b,a⟩)) u v h
def RH.VV(h:RH K J H g)(hD:H D=some KJ)(hm:Bo KJ)(hn:D ∉ J):RH K J (upd H D o2) g where
 len:=h.len
 inj:=h.inj
 obj:=λn a o h1 h2=>by
  have q:=h.obj n a o h1 h2;have ne:a≠D:=λe=>hn (e ▸ Tu.mpr ⟨n,h1⟩);let⟨ho,e,r⟩:=q;exact⟨ho,by rw[aa ne];exact e,r.mono (λ_ _ e=>e) (λ_ _ h=>aS h (.inr ⟨_,hD,hm⟩)) (λ_ _ h=>aR h (.inr ⟨_,hD,hm⟩))⟩
def RH.named{p:Z6}(h:RH K J H g)(x:H D=some KJ)(v:D ∉ J)(r:RHO K J H p KJ):RH K (J++[D]) H (g++[p]):=by
 have t:∀(n:Nat) (a:Addr),J[n]?=some a->(J++[D])[n]?=some a:=λn a e=>by rw[Xe (Yi.mp e).1];exact e
 have c:∀k b,(J++[D])[k]?=some b->(k<J.length/\J[k]?=some b)\/(k=J.length/\b=D):=λk b e=>by
  by_cases hk:k<J.length
  .rw [Xe hk]at e;exact .inl ⟨hk,e⟩
  .rw [XN ()]at e
   cases hd:k-J.length with
   |zero=>rw[hd]at e;exact .inr ⟨by omega,by simpa using e.symm⟩
   |succ m=>rw[hd]at e;simp at e
 have l:∀k:Nat,J[k]? ≠ some D:=λk e=>v (Tu.mpr ⟨k,e⟩);refine⟨by simp[h.len],λi j a h1 h2=>?_,λn a o h1 h2=>?_⟩
 .rcases c i a h1 with⟨_,f⟩|⟨f,s⟩
  .rcases c j a h2 with⟨_,d⟩|⟨d,u⟩
   .exact h.inj i j a f d
   .subst u;exact absurd f (l i)
  .rcases c j a h2 with⟨_,d⟩|⟨d,u⟩
   .subst s;exact absurd d (l j)
   .omega
 .rcases c n a h1 with⟨w,f⟩|⟨f,s⟩
  .rw [Xe (by rw[<-h.len];exact w)]at h2
   have q:=h.obj n a o f h2;let⟨ho,e,r'⟩:=q;exact⟨ho,e,r'.mono t (λ_ _ h=>h) (λ_ _ h=>h)⟩
  .subst s
   rw[XN (by rw[<-h.len];omega),<-h.len,f]at h2
   have d:o=p:=by simpa using h2.symm
   subst d;exact⟨_,x,r.mono t (λ_ _ h=>h) (λ_ _ h=>h)⟩
def ZN.named(s:ZN K YU H0 J H)(h0:H0 D=none):ZN K YU H0 (J++[D]) H where
 ext:=λn a h=>by have:=s.ext n a h;rw[Xe (Yi.mp this).1];exact this
 new:=λn a h=>by
  by_cases hk:n<J.length
  .rw [Xe hk]at h;exact s.new n a h
  .rw [XN ()]at h
   cases hd:n-J.length with
   |zero=>
    rw[hd]at h;have e:a=D:=by simpa using h.symm
    subst e;exact .inr h0
   |succ m=>rw[hd]at h;simp at h
 Yj:=s.Yj
 live:=s.live
 ZZ:=s.ZZ
 Zv:=s.Zv
 Zo:=s.Zo
def eK(s:ZN K J H ZU H')(a:D ∉ J)(c:H D=some KJ):D ∉ ZU:=λb=>by
 let⟨n,e⟩:=Tu.mp b;rcases s.new n D e with q|q
 .exact a (Tu.mpr ⟨n,q⟩)
 .rw [c]at q;cases q
def RS.unbind{t:Tg}{b l:Su}{Z:L2.St}(m:AR t b=true)(d:Ae t u b=some l)(h:RS K J H l Z):RS K J H b Z:=by
 have one:∀(i:Nat) (w:U) (a:Su),(match a[i]? with|some none=>true|_=>false)=true ->∀(j:Nat) (z:U),a[j]?=some (some z)->(a.set i (some w))[j]?=some (some z):=λi w a hi j z e=>by
  by_cases g:j=i
  .subst g;rw[e]at hi;cases hi
  .rw [Wr (Ne.symm g)];exact e
 cases t with
 |nm i=>
  simp![Ae]at d;split at d
  .cases d
   exact⟨by have:=h.len;simpa using this,λj z e=>h.val j z (one i u b m j z e)⟩
  .cases d
 |tp is=>
  cases u with
  |ZZ M=>
   have p:bindL is M b=some l:=d;have all:∀(is:List Nat) (M:List U) (a f:Su),(∀i∈is,∀z,b[i]? ≠ some (some z))->(∀(j:Nat) (z:U),b[j]?=some (some z)->a[j]?=some (some z))->bindL is M a=some f->f.length=a.length /\∀(j:Nat) (z:U),b[j]?=some (some z)->f[j]?=some (some z):=λis=>by
    induction is with
    |nil=>
     intro M a f _ c e;cases M with
     |nil=>cases e;exact⟨rfl,c⟩
     |cons _ _=>cases e
    |cons i is ih=>
     intro M a f hi c e;cases M with
     |nil=>cases e
     |cons w M=>
      simp![bindL]at e;split at e
      .obtain ⟨h1,h2⟩:=ih M _ f (λk hk=>hi k (Ig _ hk)) (λj z n=>by
        have g:j≠i:=λq=>hi i W_ z (q ▸ n);rw[Wr (Ne.symm g)];exact c j z n) e
       exact⟨by rw[h1];simp,h2⟩
      .cases e
   have hi:∀i∈is,∀z,b[i]? ≠ some (some z):=λi o z e=>by
    have:=Wn.mp m i o;rw[e]at this;cases this
   let⟨h1,h2⟩:=all is M b l hi (λ_ _ e=>e) p;exact⟨by rw[<-h1];exact h.len,λj z e=>h.val j z (h2 j z e)⟩
  |_=>simp[Ae]at d
def dw{o:Out α}{k:α->G->Out β}{b:β}{g':G}(h:o.bindB k=.ok b g'):∃a c,o=.ok a c/\k a c=.ok b g':=by
 cases o with
 |ok a c=>exact⟨a,c,rfl,h⟩
 |exc _ _ _=>cases h
 |Z1=>cases h
end
section
abbrev TQ(ifs:List Expr)(env:Env):Sem Bool:=forIn ifs true λc r=>if r=true then do let ok<-isTrue c env (eval c env);pure (ForInStep.yield ok)else pure (ForInStep.yield r)
def ie{env:Env}{Z8:Model}{A:Around}{E:Value->Shared->Prop}{Q:Bool->Shared->Prop}{s:Shared}(h:Q false s):∀ifs:List Expr,wpAny Z8 A (forIn ifs false λc r=>if r=true then do let ok<-isTrue c env (eval c env);pure (ForInStep.yield ok)else pure (ForInStep.yield r)) Q E s
 |[]=>ZP h
 |c::cs=>by
  simp![R0,Vj,Td];exact ZB (ZP (ie h cs))
def PTs(X:Cx)(a:List Expr)(f:Su->G->Out Bool):Prop:=
 ∀(Y:List (Addr×Obj)) (s:Shared) (Z:L2.St) (H:Hp) (Q:Bool->Hp->Prop),L2.Z4 X Y Z H s->tT X.K YB f Z H Q->wpAny (model X.prog X.w) X.A (TQ a X.env) (TP X Y Z Q) X.xe s
where YB:XQ:=λ_ _ _=>False
def wd:PTs X [] (Av r.ts []):=λY s Z H Q I ⟨b,J,g,hs,a,p⟩=>ZP ⟨H,I,post.Zk (R:=YI) p a rfl⟩
def vd{c:Expr}{f:E}{d:List Expr}{a:List E}(l:PT X c (tT X.K PTs.YB (r.ts f)))(o:PTs X d (Av r.ts a)):PTs X (c::d) (Av r.ts (f::a)):=by
 intro Y s Z H Q I ⟨h,J,g,hs,j,p⟩;unfold TQ;simp![R0,TL];refine ZB (ZB (thn (l Y s Z H (λk H1=>if k=true then tT X.K PTs.YB (Av r.ts a) Z H1 Q else Q false H1) I ⟨h,J,g,hs,j,(post.bind (R:=YI) p).mono λk H1 ⟨n,k',g1,s1,h1,m,e⟩=>?_⟩) λk s1 ⟨H1,i,b⟩=>?_))
 .subst m
  cases k' with
  |true=>exact aZ ⟨h,n,g1,hs.step s1,h1,e⟩
  |false=>exact aY (post.Zk (R:=YI) e h1 rfl)
 .cases k with
  |true=>rw[XW rfl]at b;exact ZP (o Y s1 Z H1 Q i b)
  |false=>rw[WV Ic]at b;exact ZP (ie ⟨H1,i,b⟩ d)
structure Mon(K:Il)(J:List Addr)(H:Hp)(ZU:List Addr)(H':Hp):Prop where
 ext:∀(n:Nat) (a:Addr),J[n]?=some a->ZU[n]?=some a
 ZZ:∀a xs,SqU K H a xs->SqU K H' a xs
 Zv:∀a xs,SqF K H a xs->SqF K H' a xs
 Zo:∀a o u,H a=some (.Zo o u)->H' a=some (.Zo o u)
def ZN.mon(s:ZN K J H ZU H'):Mon K J H ZU H':=⟨s.ext,s.ZZ,s.Zv,s.Zo⟩
def Mon.trans{d:List Addr}{c:Hp}(a:Mon K J H ZU H')(b:Mon K ZU H' d c):Mon K J H d c:=⟨λn x h=>b.ext n x (a.ext n x h),λx xs h=>b.ZZ x xs (a.ZZ x xs h),λx xs h=>b.Zv x xs (a.Zv x xs h),λx o u h=>b.Zo x o u (a.Zo x o u h)⟩
def RI.mon{i:Iter}{d:It}(s:Mon K J H ZU H')(h:RI K J H i d):RI K ZU H' i d:=by
 cases i with
 |S n=>let⟨a,h1,h2⟩:=h;exact⟨a,s.ext _ _ h1,h2⟩
 |Y0 n=>let⟨a,h1,h2⟩:=h;exact⟨a,s.ext _ _ h1,h2⟩
 |zip n m=>let⟨a,b,h1,h2,c⟩:=h;exact⟨a,b,s.ext _ _ h1,s.ext _ _ h2,c⟩
 |seq M=>let⟨a,vs,h1,h2,c⟩:=h;exact⟨a,vs,h1.imp_left (s.ZZ _ _),RVs.mono s.ext s.ZZ s.Zv _ _ h2,c⟩
 |YY lo n=>exact h
def Bk(X:Cx)(C:Nat->List U->G->Out U):List Comprehension->List (Tg×E×List E)->Prop
 |[],[]=>True
 |g::r,(t,Zz,cs)::r'=>g.is_async=0/\PG X g.target (tG X.K t)/\(∀n,PTs X g.ifs (Av (JW C n).ts cs))/\(∀n,PI X g.target g.iter (tI X.K PTs.YB (JO (JW C n) Zz)))/\(∀x,foldedSetIterable g.iter X.env x=pure x)/\Bk X C r r'
 |_,_=>False
set_option genInjectivity false in
inductive CK where|S (elt:Expr)|ZJ (k v:Expr)
noncomputable def CK.exp(c:CK)(gens:List Comprehension)(scope:Scope)(pos:Pos):Expr:=match c with
 |.S elt=>.ListComp elt gens scope pos
 |.ZJ k v=>.DictComp k v gens scope pos
noncomputable def CK.emit(c:CK)(ZW:Value)(env:Env):Sem Unit:=match c with
 |.S elt=>(do let _<-call (.builtin "list.append") [ZW,<-eval elt env])
 | .ZJ k v=>(do
   let kv<-eval k env
   let vv<-holding [kv] (eval v env)
   match ZW with
   |.ref d=>do
    standAt {k.pos with endLine:=v.pos.endLine,endCol:=v.pos.endCol}
    holding [kv,vv] (dictSet d kv vv)
   |_=>unsupported "internal:dictcomp")
noncomputable def CK.new(c:CK):Sem Value:=match c with
 |.S _=>newList []
 |.ZJ _ _=>newDict
noncomputable def CK.obj(c:CK):Obj:=match c with
 |.S _=>{cls:=.type "list",dict:=none,data:=.seq ([]:List Value).toArray}
 |.ZJ _ _=>{cls:=.type "dict",data:=.dict #[]}
noncomputable def CK.WB(c:CK):HO:=match c with
 |.S _=>.S []
 |.ZJ _ _=>.dT []
noncomputable def CK.ho(K:Il)(J:List Addr)(H:Hp)(c:CK)(a:List U)(o:HO):Prop:=match c with
 |.S _=>∃vs,o=.S vs/\RVs K J H a vs
 |.ZJ _ _=>∃Z3 ws,o=.dT ws/\dfold a []=some Z3/\RD K J H Z3 ws
def CK.ho.mut{c:CK}{o:HO}(h:CK.ho K J H c ZW o):Bo o:=by
 cases c with
 |S e=>let⟨vs,rfl,_⟩:=h;trivial
 |ZJ k v=>let⟨_,ws,rfl,_⟩:=h;trivial
def CK.ho.mono{K:Il}{J l:List Addr}{H b:Hp}{c:CK}{j:List U}{o:HO}(h:CK.ho K J H c j o)(i:∀(n:Nat) (a:Addr),J[n]?=some a->l[n]?=some a)(f:∀a xs,SqU K H a xs->SqU K b a xs)(g:∀a xs,SqF K H a xs->SqF K b a xs):CK.ho K l b c j o:=by
 cases c with
 |S e=>let⟨vs,e,r⟩:=h;exact⟨vs,e,RVs.mono i f g _ _ r⟩
 |ZJ k v=>let⟨Z3,ws,e,d,r⟩:=h;exact⟨Z3,ws,e,d,RD.mono i f g _ _ r⟩
def CK.ho.step{c:CK}{o:HO}(s:ZN K J H ZU H')(h:CK.ho K J H c ZW o):CK.ho K ZU H' c ZW o:=h.mono s.ext s.ZZ s.Zv
def CK.ho0{c:CK}:CK.ho K J H c [] c.WB:=by
 cases c with
 |S e=>exact⟨[],rfl,rfl⟩
 |ZJ k v=>exact⟨[],[],rfl,rfl,rfl⟩
def CK.SK{E:Value->Shared->Prop}{Q:Value->Shared->Prop}{c:CK}(h:Q (.ref s.heap.objs.size) {s with heap:=s.heap.push c.obj}):wpAny Z8 A c.new Q E s:=by
 cases c with
 |S e=>exact T_ h
 |ZJ k v=>exact T_ h
def CK.SJ(c:CK)(h:Heap)(a:sysModules<h.objs.size):ObjOk P w H (h.push c.obj) h.objs.size c.WB:=by
 cases c with
 |S e=>exact⟨Nat.zero_le _,[],0,.nil,Ij _ rfl⟩
 |ZJ k v=>exact i8 h a
inductive RR(X:Cx)(c:CK)(D:Addr)(Y:List (Addr×Obj))(YU:List Addr)(H0:Hp)(WA:List Addr)(Hs:Hp)(Z2:Su)(M:List U)(g':G)(r:Result)(s':Shared):Prop
 |mk (f:∃f,r=.ok f) (ZX:L2.St) (H':Hp) (ZU:List Addr) (Zd:HO) (I:L2.Z4 X Y ZX H' s') (sp:ZN X.K YU H0 ZU H') (hg:RH X.K ZU H' g') (hs:RS X.K ZU H' Z2 ZX) (hD:H' D=some Zd) (hn:D ∉ ZU) (rv:CK.ho X.K ZU H' c M Zd) (mo:Mon X.K WA Hs ZU H')
def sE{c:CK}{k:Nat}{g:Comprehension}{it ZW:Value}(hk:gens[k]?=some g)(ha:g.is_async=0):
  compTurn (c.exp gens scope pos) k it ZW env=(do
   standAt g.iter.pos
   match<-pyNext it with
   |none=>pure (.done .next)
   |some v=>
    letOwnedTupleGo g.target it v
    assign g.target env v
    let ok<-TQ g.ifs env
    if ok then
     match gens[k+1]? with
     |some g'=>
      let x<-eval g'.iter env
      standAt g'.iter.pos
      let x<-if g'.is_async != 0 then foldedIterable g'.iter x else foldedSetIterable g'.iter env x
      let _<-runOwn (.compStart (c.exp gens scope pos) (k+1) (<- holding [x] (if g'.is_async != 0 then asyncIter x else pyIter x)) ZW env) env
     |none=>c.emit ZW env
    again (.compLoop (c.exp gens scope pos) k it ZW env)):=by
 cases c with
 |S elt=>unfold compTurn;simp![CK.exp,hk,ha];rfl
 |ZJ kx vx=>unfold compTurn;simp![CK.exp,hk,ha];rfl
end
section
variable{R:Result->Shared->Prop}
def gC{c:CK}{k:Nat}{g:Comprehension}{it ZW:Value}(hk:gens[k]?=some g)(ha:g.is_async=0)
  (h0:codeAny (model prog w) A (.compLoop (c.exp gens scope pos) k it ZW env) R s)
  (h:wpAny (model prog w) A (pyIter it) (λZz s'=>codeAny (model prog w) A (.compLoop (c.exp gens scope pos) k Zz ZW env) R s')
   (notedBy (model prog w) A env λx s'=>R (.error x) s') s) :
  codeAny (model prog w) A (.compStart (c.exp gens scope pos) k it ZW env) R s:=by
 refine codeAny_of_tree ?_;have key:(model prog w).den (.compStart (c.exp gens scope pos) k it ZW env)=(compStart (c.exp gens scope pos) k it ZW env).onRaise (λx=>do noteFrame x env;standAt theWindowsPlace):=by cases c<;>rfl
 have ku:A.under (.compStart (c.exp gens scope pos) k it ZW env)=A:=by cases c<;>rfl
 rw[key,ku];refine wpAny_notedAt ?_;unfold compStart;have hc:(clausesOf (c.exp gens scope pos))[k]?=some g:=by cases c<;>exact hk
 simp![hc,ha,Option.elim];show wpAny _ _ (ask >>= _) _ _ s;refine ZB (wpAny_askSetting (wpAny_ite ?_));split
 .first
   |exact ZB (ZP (ZP (And.intro rfl h0)))
   |exact ZP (And.intro rfl h0)
 .first
   |exact ZB (wpAny_rule (ZB (Tn (ZB (Ve h (λZz s' h'=>ZP (And.intro rfl h')) λ_ _ x=>x)))))
   |(refine ZB (wpAny_rule ?_);show wpAny _ _ (standAt g.iter.pos >>= _) _ _ s;exact ZB (Tn (ZB (Ve h (λZz s' h'=>ZP (And.intro rfl h')) λ_ _ x=>x))))
end
section
def noE{t:Sem α}{Q:α->Shared->Prop}{E:Value->Shared->Prop}(a:X.xe=λ_ _=>False)(h:wpAny (model X.prog X.w) X.A t Q X.xe s):wpAny (model X.prog X.w) X.A t Q E s:=
 Ve h (λ_ _ q=>q) λe s' z=>by rw[a]at z;exact z.elim
def C0(X:Cx)(C:Nat->List U->G->Out U)(c:CK)(f:E):Prop:=
 ∀(n:Nat) (Y:List (Addr×Obj)) (s:Shared) (d:Su) (Z:L2.St) (H:Hp) (J:List Addr) (b:G) (ZW:List U) (o:HO) (v:U) (g2:G) (D:Addr),(JW C n).ev f d b=.ok v g2->ZW.length<Ac->L2.Z4 X Y Z H s->RS X.K J H d Z->RH X.K J H b->H D=some o->D ∉ J->CK.ho X.K J H c ZW o ->
  wpAny (model X.prog X.w) X.A (c.emit (.ref D) X.env) (λ_ e=>∃a H1 o2,L2.Z4 X Y Z (upd H1 D o2) e/\ZN X.K J H a H1/\RH X.K a H1 g2/\H1 D=some o/\CK.ho X.K a (upd H1 D o2) c (ZW++[v]) o2) X.xe s
def jd{b:Expr}(y:∀n,PE X b (tE X.K PTs.YB ((JW C n).ev Zp))):C0 X C (.S b) Zp:=by
 intro n Y s t Z H J m ZW o v g2 D r j I hs k l i ⟨vs,p,g⟩;subst p;refine ZB (thn (y n Y s Z H (λx H1=>∃a,ZN X.K J H a H1/\RH X.K a H1 g2/\RV X.K a H1 v x) I ⟨t,J,m,hs,k,by rw[r];exactλv a H1 c h1 d=>⟨a,c,h1,d⟩⟩) ?_);rintro u c ⟨x,H1,A,d,a,e,w,h⟩
 have f:H1 D=some (.S vs):=e.Yj D _ l i;refine ZB (thn (hU Y c Z H1 (.ref D) [x] (.ref D) [u] (λ_ H2=>H2=upd H1 D (.S (vs++[x]))) A rfl (.cons d .nil) ⟨D,vs,x,rfl,rfl,f,by rw[<-g.length,TH];unfold Ac at j;omega,rfl⟩) ?_);rintro u2 E ⟨B,H2,z,F,q⟩
 subst q;exact ZP ⟨a,H1,_,z,e,w,f,_,rfl,((RVs.step e _ _ g).append (.one h)).VV f trivial⟩
def iJ:∀{xs ys:List U} {k0 Z3:List (List Int×U)},dfold xs k0=some Z3->dfold (xs++ys) k0=dfold ys Z3
 |[],_,_,_,e=>by cases e;rfl
 |x::xs,ys,k0,Z3,e=>by
  simp![SR,dfold]at e ⊢;let⟨k1,h1,h2⟩:=WQ.mp e;rw[h1];exact iJ h2
def vj{k:List Int}:(dput Z3 k u).length<=Z3.length+1:=by
 unfold dput;split<;>simp
def ux{k1:List (List Int×U)}{x:U}(e:B5 Z3 x=some k1):k1.length<=Z3.length+1:=by
 unfold B5 at e;split at e
 .obtain ⟨ks,_,rfl⟩:=Yn.mp e;exact vj
 .cases e
def iG:∀{xs:List U} {k0 Z3:List (List Int×U)},dfold xs k0=some Z3->Z3.length<=k0.length+xs.length
 |[],_,_,e=>by cases e;simp
 |x::xs,k0,Z3,e=>by
  simp![dfold]at e;let⟨k1,h1,h2⟩:=WQ.mp e;have:=ux h1;have:=iG h2;simp![Wa];omega
def ve{G z:Expr}{k' p:E}(U:X.A.units+1<cLine)(hk:∀n,PE X G (tE X.K PTs.YB ((JW C n).ev k')))(T:∀n,PE X z (tE X.K PTs.YB ((JW C n).ev p))):C0 X C (.ZJ G z) (.pair k' p):=by
 intro n Y s i Z H J t ZW o v g2 D N W I hs hg hD V ⟨Z3,ws,eo,M,F⟩;subst eo;cases n with
 |zero=>cases N
 |succ n=>
  have a:(((JW C n).ev k' i t).bind λx g=>((JW C n).ev p i g).bind λy g=>match keyOf x with|some _=>.ok (.ZZ [x,y]) g|none=>.Z1)=Out.ok v g2:=N
  cases q:(JW C n).ev k' i t with
  |exc _ _ _=>rw[q]at a;cases a
  |Z1=>rw[q]at a;cases a
  |ok L ga=>
   rw[q]at a;cases ev:(JW C n).ev p i ga with
   |exc _ _ _=>simp![Out.bind,ev]at a;cases a
   |Z1=>simp![Out.bind,ev]at a;cases a
   |ok B gb=>
    simp![Out.bind,ev]at a;cases f:keyOf L with
    |none=>rw[f]at a;cases a
    |some S=>
     rw[f]at a;cases a;refine ZB (thn (hk n Y s Z H (λx H1=>∃c,ZN X.K J H c H1/\RH X.K c H1 ga/\RV X.K c H1 L x) I ⟨i,J,t,hs,hg,by rw[q];exactλv c H1 k h1 l=>⟨c,k,h1,l⟩⟩) ?_);rintro u k ⟨x,H1,I1,l,c,O,YA,Q⟩
     refine ZB (Uu (thn (T n Y k Z H1 (λx H2=>∃m,ZN X.K c H1 m H2/\RH X.K m H2 g2/\RV X.K m H2 B x) I1 ⟨i,c,ga,hs.step O,YA,by rw[ev];exactλv c H1 k h1 l=>⟨c,k,h1,l⟩⟩) ?_));rintro w s2 ⟨y,H2,I2,R,m,j,r,P⟩
     let⟨b,rfl,hb⟩:=fN f (RV.step j _ _ Q);obtain rfl:u=Value.ref b:=l;have sp:=O.trans j;have d:H2 D=some (.dT ws):=sp.Yj D _ hD V;refine ZB (Tn (Uu (abE U I2 d hb ?_ R λs3 I3=>⟨m,H2,_,I3,sp,r,d,dput Z3 S B,_,rfl,?_,?_⟩)))
     .have:=iG M;rw[<-F.len,TH];unfold Ac at W;simp at this;omega
     .rw [iJ M];simp![dfold,B5,f,Vw,Se]
     .exact RD.mono (λ_ _ e=>e) (λ_ _ h=>aS h (.inr ⟨_,d,trivial⟩)) (λ_ _ h=>aR h (.inr ⟨_,d,trivial⟩)) _ _ ((F.mono sp.ext sp.ZZ sp.Zv).put P)
abbrev postC(c:Code)(R:Result->Shared->Prop)(N:Shared->Prop):PySem.Fin->Shared->Prop:=λfin s'=>match fin with|.done f=>R (.ok f) s'|.again c'=>c'=c/\N s'
inductive LpI(X:Cx)(f:Nat->Tg->List E->List (Tg×E×List E)->E->List U->Su->G->Out (List U))(t:Tg)(cs:List E)(ZD:List (Tg×E×List E))(Zp:E)(Z2:Su)(M:List U)(g':G)(Y:List (Addr×Obj))(tn:Nat->Heap->Prop)(fp:List Addr)(Yz:Iter)(Z7:It)(YU:List Addr)(H0:Hp)(D:Addr)(c:CK)(WA:List Addr)(Hs:Hp)(s:Shared):Prop
 |mk (i:Nat) (ZW:List U) (vs:HO) (Z:L2.St) (H:Hp) (J:List Addr) (g0:G) (eq:f i t cs ZD Zp ZW Z2 g0=.ok M g') (I:L2.Z4 X Y Z H s) (st:tn i s.heap) (hf:∀b∈fp,H b=none) (hs:RS X.K J H Z2 Z) (XY:RH X.K J H g0) (ri:RI X.K J H Yz Z7) (sp:ZN X.K YU H0 J H) (hD:H D=some vs) (hn:D ∉ J) (rv:CK.ho X.K J H c ZW vs) (mo:Mon X.K WA Hs J H)
def jW(hc:X.calm=true)(WT:X.xe=λ_ _=>False){c:CK}{Zp:E}{scope:Scope}{pos:Pos}{D:Addr}{k:Nat}{t:Tg}{YU WA:List Addr}{H0 Hs:Hp}
  {it:Addr} {fp:List Addr} {tn:Nat->Heap->Prop} {Z7:It} {Yz:Iter} {Y:List (Addr×Obj)} {Z2:Su} {M:List U} {g':G}
  (hk:gens[k]?=some gc) (ha:gc.is_async=0) (hg:PG X gc.target (tG X.K t)) (VU:∀n,PTs X gc.ifs (Av (JW C n).ts cs)) (T:Turn X.prog X.w X.K gc.target Z7 fp it tn) (ZL:∀b∈fp,∀H':Hp,H' b=none->Ay X Y H' b) (h0:H0 D=none)
  (inner:∀ (n:Nat) (Ye:List (Addr×Obj)) (s:Shared) (ZQ:Su) (Z:L2.St) (H:Hp) (J:List Addr) (g1:G) (ZW:List U) (vs:HO) (i:Nat) (N:Shared->Prop) (E:Value->Shared->Prop),
   (match ZD with
    |[]=>((JW C n).ev Zp ZQ g1).bindB λv g=>if ZW.length<Ac then(JW C n).cm Yz (i+1) t cs ZD Zp (ZW++[v]) Z2 g else .Z1
    |(t2,Ym,Xn)::Xb=>(JO (JW C n) Ym ZQ g1).bindB λj g=>((JW C n).cm j 0 t2 Xn Xb Zp ZW ZQ g).bindB λYC g=>(JW C n).cm Yz (i+1) t cs ZD Zp YC Z2 g)=.ok M g' ->
   L2.Z4 X Ye Z H s->RS X.K J H ZQ Z->RH X.K J H g1->ZN X.K YU H0 J H->H D=some vs->D ∉ J->CK.ho X.K J H c ZW vs ->
   (∀s' ZX H' ZU g2 YC VT,(JW C n).cm Yz (i+1) t cs ZD Zp YC Z2 g2=.ok M g'->L2.Z4 X Ye ZX H' s'->RS X.K ZU H' ZQ ZX->RH X.K ZU H' g2->ZN X.K YU H0 ZU H'->Mon X.K J H ZU H'->H' D=some VT->D ∉ ZU->CK.ho X.K ZU H' c YC VT->N s') ->
   wpAny (model X.prog X.w) X.A (match gens[k+1]? with
     | some g'=>(do
      let x<-eval g'.iter X.env
      standAt g'.iter.pos
      if(g'.is_async != 0)=true then do
        let x<-foldedIterable g'.iter x
        let y<-holding [x] (if(g'.is_async != 0)=true then asyncIter x else pyIter x)
        let _<-runOwn (.compStart (c.exp gens scope pos) (k+1) y (.ref D) X.env) X.env
        again (.compLoop (c.exp gens scope pos) k (.ref it) (.ref D) X.env)
       else do
        let x<-foldedSetIterable g'.iter X.env x
        let y<-holding [x] (if(g'.is_async != 0)=true then asyncIter x else pyIter x)
        let _<-runOwn (.compStart (c.exp gens scope pos) (k+1) y (.ref D) X.env) X.env
        again (.compLoop (c.exp gens scope pos) k (.ref it) (.ref D) X.env))
     | none=>(do
      c.emit (.ref D) X.env
      again (.compLoop (c.exp gens scope pos) k (.ref it) (.ref D) X.env))) (postC (.compLoop (c.exp gens scope pos) k (.ref it) (.ref D) X.env) (RR X c D Y YU H0 WA Hs Z2 M g') N) E s)
  (n:Nat) (s:Shared) (i:Nat) (ZW:List U) (vs:HO) (Z:L2.St) (H:Hp) (J:List Addr) (g0:G) (eq:(JW C n).cm Yz i t cs ZD Zp ZW Z2 g0=.ok M g') (I:L2.Z4 X Y Z H s) (st:tn i s.heap) (hf:∀b∈fp,H b=none)
  (hs:RS X.K J H Z2 Z) (XY:RH X.K J H g0) (ri:RI X.K J H Yz Z7) (sp:ZN X.K YU H0 J H) (hD:H D=some vs) (hn:D ∉ J) (rv:CK.ho X.K J H c ZW vs) (mo:Mon X.K WA Hs J H) :
  codeAny (model X.prog X.w) X.A (.compLoop (c.exp gens scope pos) k (.ref it) (.ref D) X.env) (RR X c D Y YU H0 WA Hs Z2 M g') s:=by
 refine codeAny_loop (by cases c<;>rfl) (λn s=>LpI X ((JW C n).cm Yz) t cs ZD Zp Z2 M g' Y tn fp Yz Z7 YU H0 D c WA Hs s) ?_ n ⟨i,ZW,vs,Z,H,J,g0,eq,I,st,hf,hs,XY,ri,sp,hD,hn,rv,mo⟩
 clear eq I st hf hs XY ri sp hD hn rv mo;rintro n s ⟨i,ZW,vs,Z,H,J,g0,eq,I,st,hf,hs,XY,ri,sp,hD,hn,rv,mo⟩;cases n with
 |zero=>cases eq
 |succ n=>
  have Xk:JV (JW C n) Yz i t cs ZD Zp ZW Z2 g0=.ok M g':=eq;clear eq;simp![JV]at Xk;have key:(model X.prog X.w).den (.compLoop (c.exp gens scope pos) k (.ref it) (.ref D) X.env)=(compTurn (c.exp gens scope pos) k (.ref it) (.ref D) X.env).onRaise (λx=>do noteFrame x X.env;theTreesLotGoes x):=by cases c<;>rfl
  have ku:X.A.under (.compLoop (c.exp gens scope pos) k (.ref it) (.ref D) X.env)=X.A:=by cases c<;>rfl
  rw[key,ku];refine wpAny_noted ?_;rw[sE hk ha];refine ZB (Tn (ZB ?_));have stat:∀{H':Hp},(∀b∈fp,H' b=none) ->∀b∈fp,Ay X Y H' b:=λh b hb=>ZL b hb _ (h b hb);cases en:next Yz i g0 with
  |none=>simp![en]at Xk;cases Xk
  |some o=>
   cases o with
   |none=>
    simp![en]at Xk;cases Xk;refine thn (T.done X rfl rfl rfl hc i Y s Z H _ I (stat hf) st (fh XY ri en)) ?_;rintro r s1 ⟨hr,I1⟩;subst hr;exact ZP ⟨⟨_,rfl⟩,Z,H,J,vs,I1,sp,XY,hs,hD,hn,rv,mo⟩
   |some u=>
    simp![en]at Xk;let⟨go,yl⟩:=gp XY ri en;refine thn (T.item X rfl rfl rfl hc i Y s Z H _ I (stat hf) st go) ?_;rintro r s1 ⟨u',hr,h4⟩;subst hr;refine ZB (thn h4 ?_);rintro _ s5 ⟨x,H5,I5,r5,y5,V4,UY⟩;let⟨XX,hgg5,rx⟩:=yl x H5 y5;replace hs:=hs.step XX;replace XY:=hgg5;replace ri:=ri.step XX;replace sp:=sp.trans XX;replace hD:=XX.Yj D _ hD hn;replace rv:=rv.step XX;replace mo:=mo.trans XX.mon;have I5':=I5.pinned (stat UY) (T.obj _ _ V4);split at Xk
    .rename_i Ui
     cases eb:Ae t u Z2 with
     |none=>simp![eb]at Xk;cases Xk
     |some ZQ=>
      simp![eb]at Xk;let⟨kk,g1,e1,e2⟩:=dw Xk;refine ZB (noE WT (thn (hg _ s5 Z H5 x u' (λZX H'=>H'=H5/\RS X.K J H5 ZQ ZX) I5' r5 ⟨Z2,J,g0,u,ZQ,hs,XY,rx,eQ eb,λZX h=>⟨rfl,h⟩⟩) ?_));rintro _ s6 ⟨UX,H6,I6,eh,hs6⟩;subst eh;refine ZB (noE WT (thn (VU n _ s6 UX H6 (λk' H'=>k'=kk /\∃ZS,ZN X.K J H6 ZS H'/\RH X.K ZS H' g1) I6 ⟨ZQ,J,g0,hs6,XY,by rw[e1];exactλv ZS H1 s1 h1 e=>⟨e.symm,ZS,s1,h1⟩⟩) ?_));rintro k' s7 ⟨H7,I7,ek,ZS,Zm,YA⟩
      subst ek;have back:∀(s':Shared) (ZX:L2.St) (H':Hp) (ZU:List Addr) (g2:G) (YC:List U) (VT:HO),(JW C n).cm Yz (i+1) t cs ZD Zp YC Z2 g2=.ok M g'->L2.Z4 X (Y++Cq fp s5.heap) ZX H' s'->RS X.K ZU H' ZQ ZX->RH X.K ZU H' g2->ZN X.K YU H0 ZU H'->Mon X.K ZS H7 ZU H'->H' D=some VT->D ∉ ZU->CK.ho X.K ZU H' c YC VT ->
        ∃m,m<n+1/\LpI X ((JW C m).cm Yz) t cs ZD Zp Z2 M g' Y tn fp Yz Z7 YU H0 D c WA Hs s':=λs' ZX H' ZU g2 YC VT q1 q2 q3 q4 q5 q6 q7 q8 q9=>by
       refine⟨n,Sl _,i+1,YC,VT,ZX,H',ZU,g2,q1,q2.Ug,T.keep _ _ _ V4 λb hb o e=>(q2.pin (b,o) (Ul _ (Ul _ (c7 hb e)))).1,λb hb=>?_,RS.unbind Ui eb q3,q4,(ri.step Zm).mon q6,q5,q7,q8,q9,(mo.trans Zm.mon).trans q6⟩;let⟨o,e,d⟩:=T.obj _ _ V4 b hb;exact(q2.pin (b,o) (Ul _ (Ul _ (c7 hb e)))).2.1
      have hD7:H7 D=some vs:=Zm.Yj D _ hD hn;have hn7:D ∉ ZS:=eK Zm hn hD;have rv7:=rv.step Zm;cases k' with
      |false=>
       simp![Vj,Td]at e2 ⊢;exact ZP ⟨rfl,back s7 UX H7 ZS g1 ZW vs e2 I7 (hs6.step Zm) YA (sp.trans Zm) ⟨λ_ _ h=>h,λ_ _ h=>h,λ_ _ h=>h,λ_ _ _ h=>h⟩ hD7 hn7 rv7⟩
      |true=>
       simp![TL]at e2 ⊢;exact inner n _ s7 ZQ UX H7 ZS g1 ZW vs i _ _ e2 I7 (hs6.step Zm) YA (sp.trans Zm) hD7 hn7 rv7 back
    .cases Xk
def uf(hc:X.calm=true)(WT:X.xe=λ_ _=>False){c:CK}(hem:C0 X C c Zp){D:Addr}:
  ∀(ZV:List Comprehension) (ZD:List (Tg×E×List E)) (k:Nat) (gc:Comprehension) (t:Tg) (cs:List E),gens[k]?=some gc->gens.drop (k+1)=ZV->gc.is_async=0->PG X gc.target (tG X.K t) ->
   (∀n,PTs X gc.ifs (Av (JW C n).ts cs))->Bk X C ZV ZD ->
   ∀(n:Nat) (Y:List (Addr×Obj)) (s:Shared) (it:Addr) (fp:List Addr) (tn:Nat->Heap->Prop) (S:It) (Yz:Iter) (i:Nat) (ZW:List U) (vs:HO) (Z2:Su) (Z:L2.St) (H:Hp) (J YU:List Addr) (H0:Hp) (R:G) (M:List U) (g':G),
    Turn X.prog X.w X.K gc.target S fp it tn->(JW C n).cm Yz i t cs ZD Zp ZW Z2 R=.ok M g'->L2.Z4 X Y Z H s->tn i s.heap->(∀b∈fp,Ay X Y H b)->RS X.K J H Z2 Z->RH X.K J H R->RI X.K J H Yz S ->
    ZN X.K YU H0 J H->H0 D=none->H D=some vs->D ∉ J->CK.ho X.K J H c ZW vs ->
    codeAny (model X.prog X.w) X.A (.compLoop (c.exp gens scope pos) k (.ref it) (.ref D) X.env) (RR X c D Y YU H0 J H Z2 M g') s:=by
 intro ZV
 induction ZV with
 |nil=>
  intro ZD k gc t cs hk Uc ha O VU y n Y s it fp tn S Yz i ZW vs Z2 Z H J YU H0 R M g' T Q I st hf hs XY ri sp h0 B u F;have UJ:gens[k+1]?=none:=by
   have:=T8 List.length Uc;rw[RE]at this;exact UQ.mpr (by simp at this;omega)
  cases ZD with
  |cons _ _=>exact False.elim y
  |nil=>
   refine jW hc WT hk ha O VU T (λb P H' h=>⟨h,(hf b P).2⟩) h0 ?_ n s i ZW vs Z H J R Q I st (λb P=>(hf b P).1) hs XY ri sp B u F ⟨λ_ _ h=>h,λ_ _ h=>h,λ_ _ h=>h,λ_ _ _ h=>h⟩;intro n Ye s ZQ Z H J g1 ZW vs i N E Q I hs O sp B u F a;let⟨v,g2,e1,e2⟩:=dw Q;rw[UJ];split at e2
   .rename_i hl
    refine ZB (noE WT (thn (hem n Ye s ZQ Z H J g1 ZW vs v g2 D e1 hl I hs O B u F) ?_));rintro _ s2 ⟨g,H1,o2,I2,d,YA,L,rv2⟩;have o:D ∉ g:=eK d u B;have hm:=F.mut;refine ZP ⟨rfl,?_⟩;refine a s2 Z _ g g2 (ZW++[v]) o2 e2 I2 ?_ (YA.VV L hm o) ((sp.trans d).VV h0 L hm) (d.mon.trans ⟨λ_ _ h=>h,λ_ _ h=>aS h (.inr ⟨_,L,hm⟩),λ_ _ h=>aR h (.inr ⟨_,L,hm⟩),λ_ _ _ h=>by rw[aa (cO h L (by rintro rfl;exact hm))];exact h⟩) upd_same o rv2
    exact⟨hs.len,λj z e=>let⟨w,w1,w2⟩:=(hs.step d).val j z e;⟨w,w1,w2.VV L hm⟩⟩
   .cases e2
 |cons gn ZV ih=>
  intro ZD k gc t cs hk Uc ha O VU y n Y s it fp tn S Yz i ZW vs Z2 Z H J YU H0 R M g' T Q I st hf hs XY ri sp h0 B u F;have UJ:gens[k+1]?=some gn:=by
   have:=T8 (λl=>l[0]?) Uc;simpa[List.getElem?_drop]using this
  have SI:gens.drop (k+1+1)=ZV:=by
   rw[<-List.drop_drop,Uc];rfl
  cases ZD with
  |nil=>exact False.elim y
  |cons q2 Xb=>
   let⟨t2,Ym,Xn⟩:=q2;let⟨a2,pg2,V,pi2,SH,W⟩:=y;refine jW hc WT hk ha O VU T (λb P H' h=>⟨h,(hf b P).2⟩) h0 ?_ n s i ZW vs Z H J R Q I st (λb P=>(hf b P).1) hs XY ri sp B u F ⟨λ_ _ h=>h,λ_ _ h=>h,λ_ _ h=>h,λ_ _ _ h=>h⟩;intro n Ye s ZQ Z H J g1 ZW vs i N E Q I hs O sp B u F a;let⟨j,g3,e1,e2⟩:=dw Q;let⟨YC,g4,e3,e4⟩:=dw e2;rw[UJ];refine ZB (noE WT (thn (pi2 n Ye s Z H (λS H1=>∃g,ZN X.K J H g H1/\RH X.K g H1 g3/\RI X.K g H1 j S) I ⟨ZQ,J,g1,hs,O,by rw[e1];exactλv g H1 s1 h1 r1=>⟨g,s1,h1,r1⟩⟩) λv s1 h1=>ZB (Tn ?_)))
   rw[a2];rw[WV #[1]]
   refine ZB (wpAny_of_eq (SH v) (ZB (Uu ?_)));rw[WV #[1]]
   refine noE WT (thn h1 λVq s2 h2=>?_);let⟨ita,fp2,tn2,J2,H2,e,I2,T2,XO,f2,g,d,YA,Wz⟩:=h2;subst e;have L:H2 D=some vs:=d.Yj D _ B u;have o:D ∉ g:=eK d u B;have loop:=ih Xb (k+1) gn t2 Xn UJ SI a2 pg2 V W n Ye s2 ita fp2 tn2 J2 j 0 ZW vs ZQ Z H2 g YU H0 g3 YC g4 T2 e3 I2 XO f2 (hs.step d) YA Wz (sp.trans d) h0 L o (F.step d);refine ZB (wpAny_runOwn (Sx (gC UJ a2 loop (T2.self _ 0 s2 _ _ XO loop)) λr s3 hr=>?_));let⟨⟨f,rfl⟩,ZX,H',ZU,Zd,I3,sp3,hg3,WD,hD3,hn3,rv3,mo3⟩:=hr;exact ZP ⟨rfl,a s3 ZX H' ZU g4 YC Zd e4 I3 WD hg3 sp3 (d.mon.trans mo3) hD3 hn3 rv3⟩
end
def JZ(cells:List (Str×Addr)):List (Str×NameKind)->List (Str×Addr)->List (Str×Addr)
 |[],ZW=>ZW
 |(x,k)::r,ZW=>if k==.free then(match cells.lookup x with|some c=>JZ cells r ((x,c)::ZW)|none=>JZ cells r ZW)else JZ cells r ZW
def eJ{scope:Scope}(h:∀x∈scope.names,x.2=.free ->∃c,env.cells.lookup x.1=some c):closureFor scope env=pure (JZ env.cells scope.names []):=by
 have all:∀(names:List (Str×NameKind)) (ZW:List (Str×Addr)),(∀x∈names,x.2=.free ->∃c,env.cells.lookup x.1=some c) ->
   (forIn names ZW λ(x:Str×NameKind) (cs:List (Str×Addr))=>match x with|(name,kind)=>if(kind==NameKind.free)=true then do let c<-cellOf env name;pure (ForInStep.yield ((name,c)::cs))else pure (ForInStep.yield cs):Sem (List (Str×Addr)))=pure (JZ env.cells names ZW):=λnames=>by
  induction names with
  |nil=>intro ZW _;rfl
  |cons p r ih=>
   intro ZW hp;let⟨x,k⟩:=p;simp![R0,JZ];by_cases hk:k=.free
   .subst hk
    let⟨c,hc⟩:=hp (x,.free) W_ rfl;have hco:cellOf env x=pure c:=by unfold cellOf;simp only at hc;rw[hc]
    simp![Rk,TL,hco,hc];exact ih _ λy hy=>hp y (Ig _ hy)
   .have hb:(k==NameKind.free)=false:=by simpa using hk
    simp![hb,Vj,Td];exact ih _ λy hy=>hp y (Ig _ hy)
 unfold closureFor;show((forIn scope.names [] λ(x:Str×NameKind) (cs:List (Str×Addr))=>match x with|(name,kind)=>if(kind==NameKind.free)=true then do let c<-cellOf env name;pure (ForInStep.yield ((name,c)::cs))else pure (ForInStep.yield cs):Sem (List (Str×Addr))) >>= λs=>pure s)=_
 rw[all scope.names [] h]
 rfl
def bz{cells:List (Str×Addr)}:∀(names:List (Str×NameKind)) (ZW:List (Str×Addr)),(∀x c,ZW.lookup x=some c->cells.lookup x=some c) ->∀x c,(JZ cells names ZW).lookup x=some c->cells.lookup x=some c
 |[],_,h=>h
 |(y,k)::r,ZW,h=>by
  unfold JZ;split
  .split
   .rename_i c b
    refine bz r _ λx d e=>?_;rw[Vc]at e;split at e
    .rename_i a
     cases e;rw[eq_of_beq a];exact b
    .exact h x d e
   .exact bz r _ h
  .exact bz r _ h
def dB{cells:List (Str×Addr)}{x:Str}:∀(names:List (Str×NameKind)) (ZW:List (Str×Addr)),(ZW.lookup x).isSome=true->((JZ cells names ZW).lookup x).isSome=true
 |[],_,h=>h
 |(y,k)::r,ZW,h=>by
  unfold JZ;split
  .split
   .refine dB r _ ?_
    rw[Vc];split
    .rfl
    .exact h
   .exact dB r _ h
  .exact dB r _ h
def cF{cells:List (Str×Addr)}{x:Str}{c:Addr}(a:cells.lookup x=some c):∀(names:List (Str×NameKind)) (ZW:List (Str×Addr)),(x,NameKind.free)∈names->((JZ cells names ZW).lookup x).isSome=true
 |(y,k)::r,ZW,h=>by
  unfold JZ;rcases Xl.mp h with e|h
  .cases e
   simp![Rk,TL,a];exact dB r _ #[3]
  .split
   .split
    .exact cF a r _ h
    .exact cF a r _ h
   .exact cF a r _ h
def bS:∀(names:List (Str×NameKind)) (n:Nat) (ZW:List (Str×Addr)),cellsFrom n names ZW=cellsFrom n names []++ZW
 |[],_,_=>rfl
 |(x,k)::r,n,ZW=>by
  unfold cellsFrom;split
  .rw [bS r (n+1) ((x,n)::ZW),bS r (n+1) [(x,n)],VC];rfl
  .exact bS r n ZW
def bf{x:Str}{c:Addr}:∀(names:List (Str×NameKind)) (n:Nat),(x,c)∈cellsFrom n names []->(x,NameKind.cell)∈names/\n<=c
 |[],_,h=>nomatch h
 |(y,k)::r,n,h=>by
  unfold cellsFrom at h;split at h
  .rename_i hk
   rw[bS,U8]at h;rcases h with h|h
   .exact ⟨.tail _ (bf r _ h).1,Qk (bf r _ h).2⟩
   .cases UE.mp h;rw[eq_of_beq hk];exact⟨.head _,Ie _⟩
  .exact ⟨.tail _ (bf r _ h).1,(bf r _ h).2⟩
def cP{c:Addr}(h:(cellsFrom n names cl).lookup x=some c):(cellsFrom n names []).lookup x=some c\/((cellsFrom n names []).lookup x=none/\cl.lookup x=some c):=by
 rw[bS,List.lookup_append]at h;cases e:(cellsFrom n names []).lookup x with
 |some d=>rw[e]at h;exact .inl h
 |none=>rw[e]at h;exact .inr ⟨rfl,h⟩
def zV{c:Addr}(h:cl.lookup x=some c)(hx:(x,NameKind.cell) ∉ names):(cellsFrom n names cl).lookup x=some c:=by
 rw[bS,List.lookup_append];cases e:(cellsFrom n names []).lookup x with
 |some d=>exact absurd (bf _ _ (Ut e)).1 hx
 |none=>exact h
def fT{c:Addr}(h:(cellsFrom n names (JZ cells names [])).lookup x=some c):cells.lookup x=some c\/n<=c:=by
 rcases cP h with z|⟨_,z⟩
 .exact .inr (bf _ _ (Ut z)).2
 .exact .inl (bz names [] (λx c h=>by cases h) x c z)
def qp(h:Heap)(names:List (Str×NameKind))(o:Obj):CellsOk (pushCells (h.push o) names) (h.objs.size+1) (cellsFrom (h.objs.size+1) names []):=by
 have:=cellsFrom_ok names (h.push o) (h.objs.size+1) [] ⟨λ_ _ a=>(nomatch a),List.Pairwise.nil⟩ (by rw[Rh];exact Ie _)
 rwa[Rh]at this
def vO{E:Value->Shared->Prop}{d:Addr}{qual:Str}{Q:Env->Shared->Prop}
  (h:Q {scope,locals:=s.heap.objs.size,globals:=d,cells:=cellsFrom (s.heap.objs.size+1) scope.names cl,qual:=qual,func:=none,code:=env.code,frame:=env.frame,builtins:=env.builtins} {s with heap:=pushCells (s.heap.push {cls:=.type "dict",data:=.dict #[]}) scope.names}) :
  wpAny Z8 A (newFunctionEnv scope d cl [] qual none .none (some env)) Q E s:=by
 simp![newFunctionEnv,Option.isSome_some,TL];refine ZB (wpAny_alloc ?_);refine ZB (wpAny_layCells _ (λname a cells=>by cases c:a==NameKind.cell<;>simp[c]) _ _ _ _ ?_)
 rw[show({s with heap:=s.heap.push {cls:=.type "dict",data:=.dict #[]}}:Shared).heap.objs.size=s.heap.objs.size+1 from Rh ..]
 exact ZB (ZP (ZP h))
def Af(X:Cx)(Y:List (Addr×Obj))(scope:Scope)(a:Shared)(d:Hp)(b:List Addr)(c:List Str):Cx:=
 {X with env:=compEnvC scope (cellsFrom (a.heap.objs.size+1) scope.names (JZ X.env.cells scope.names [])) a.heap.objs.size X.env,N:=c,ZK:=a,W1:=d,outer:=X.stack,stack:=X.stack,ex:=b,fn:=λx=>scope.names.lookup x==some .cell,pn:=X.pn++Y,xe:=λ_ _=>False}
section
variable{s3 s4:Shared}{Z:L2.St}{H3:Hp}{own fr:List Str}
structure Wy(X:Cx)(scope:Scope)(own fr:List Str)(Zu:List Nat):Prop where
 kind:scope.kind=.function
 names:∀x∈scope.names,x.2=.local->scope.names.lookup x.1=some .local
 cells:∀x∈scope.names,x.2=.cell->scope.names.lookup x.1=some .cell
 frees:∀x∈scope.names,x.2=.free->X.env.kindOf x.1=some .cell
 loc:∀x∈own,scope.names.lookup x=some .local\/scope.names.lookup x=some .cell
 nd:(own++fr).Nodup
 frs:∀x∈fr,scope.names.lookup x=some .free
 ix:Zu.length=fr.length /\∀(j:Nat) (x:Str) (i:Nat),fr[j]?=some x->Zu[j]?=some i->X.N[i]?=some x
def cU{a:Type}{x:Str}{k:a}:∀{l:List (Str×a)},l.lookup x=some k->(x,k)∈l
 |[],h=>by cases h
 |(y,z)::r,h=>by
  rw[Vc]at h;split at h
  .rename_i b;cases h;rw[eq_of_beq b];exact W_
  .exact Ig _ (cU h)
def cT{env:Env}{x:Str}:∀{names:List (Str×NameKind)},(names.map λ(n,k)=>if(k==NameKind.free&&env.scope.kind==.function&&env.kindOf n==some .cell)then(n,NameKind.cell)else(n,k)).lookup x =
  (names.lookup x).map λk=>if(k==NameKind.free&&env.scope.kind==.function&&env.kindOf x==some .cell)then NameKind.cell else k
 |[]=>rfl
 |(n,k)::r=>by
  have ih:=@cT env x r;rw[YG,Vc (as:=r)];show List.lookup x ((if(k==NameKind.free&&env.scope.kind==.function&&env.kindOf n==some .cell)=true then(n,NameKind.cell)else(n,k))::_)=_
  cases hx:x==n with
  |true=>
   obtain rfl:=eq_of_beq hx;by_cases a:(k==NameKind.free&&env.scope.kind==.function&&env.kindOf x==some .cell)=true
   .rw [XW a,Vc,hx]
    simp![Vw];rw[XW a]
   .rw [WV a,Vc,hx]
    simp![Vw];rw[WV a]
  |false=>
   by_cases a:(k==NameKind.free&&env.scope.kind==.function&&env.kindOf n==some .cell)=true
   .rw [XW a,Vc,hx];exact ih
   .rw [WV a,Vc,hx];exact ih
def yw(w:Wy X scope own fr Zu)(I:L2.Z4 X Y Z H3 s3)(r:∀b∈fp,Ay X Y H3 b)(A:∀b∈fp,b<s3.heap.objs.size):(Af X Y scope s3 H3 fp (own++fr)).Ok:=by
 have sub:=bz (cells:=X.env.cells) scope.names [] (λx c h=>by cases h)
 have E:(Af X Y scope s3 H3 fp (own++fr)).env.scope.kind=.function:=w.kind;have g:∀x c,X.env.cells.lookup x=some c->c<s3.heap.objs.size:=λx c h=>let⟨_,_,ho,_⟩:=I.cell x c h;Ia ho
 have C:=qp s3.heap scope.names {cls:=.type "dict",data:=.dict #[]};refine⟨I.ok.mod,E,I.ok.glob,I.ok.blt,Ie _,λx y c h1 h2=>?_,λx d=>?_,λx c h1 h2=>?_,I.ok.hd,I.ok.frames,.inl rfl,λb a=>⟨Ii (A b a),λx c h=>?_⟩,λb o e=>I.bs b o e,Ib I.ok.Xu I.sz,λb o e a=>?_,λb a u=>?_,I.stack,I.Uj⟩
 .have WH:∀{z},(cellsFrom (s3.heap.objs.size+1) scope.names []).lookup z=some c->s3.heap.objs.size<c:=λh=>(bf _ _ (Ut h)).2
  rcases cP h1 with z|⟨_,z⟩<;>rcases cP h2 with f|⟨_,f⟩
  .exact name_of_addr C.apart (Ut z) (Ut f)
  .exact absurd (QV (WH z) (g _ _ (sub _ _ f))) (U_ _)
  .exact absurd (QV (WH f) (g _ _ (sub _ _ z))) (U_ _)
  .exact I.ok.inj x y c (sub x c z) (sub y c f)
 .
  have t:(Af X Y scope s3 H3 fp (own++fr)).env.kindOf x=(scope.names.lookup x).map λk=>if(k==NameKind.free&&X.env.scope.kind==.function&&X.env.kindOf x==some .cell)then NameKind.cell else k:=cT
  rw[t]at d;cases j:scope.names.lookup x with
  |none=>rw[j]at d;rcases d with h|h<;>cases h
  |some k=>
   rw[j]at d;have hm:=cU j;refine Tt.mp (S8 _ _ _ ?_);cases k with
   |free=>
    let⟨c,B⟩:=I.ok.has x (.inl (w.frees _ hm rfl));exact .inr (cF B scope.names [] hm)
   |cell=>exact .inl j
   |«local»=>rcases d with h|h<;>simp at h
   |globalExplicit=>rcases d with h|h<;>simp at h
   |globalImplicit=>rcases d with h|h<;>simp at h
 .have D:scope.names.lookup x=some .cell:=eq_of_beq h1
  rcases cP h2 with z|⟨z,_⟩
  .exact Qk (bf _ _ (Ut z)).2
  .have:=S8 scope.names (s3.heap.objs.size+1) [] (.inl D)
   rw[z]at this;cases this
 .rcases fT h with z|z
  .exact (r b a).2.2.2.2.1 x c z
  .exact S3 (Ih (Ql (A b a)) z)
 .rcases (r b a).2.2.2.1 with z|z
  .exact I.ok.Y9 b o e z
  .exact absurd (Ih (show b<X.base.objs.size from Ia e) (Ib I.ok.Xu z)) (U_ _)
 .rcases Xl.mp (I.V5 b u)with z|z
  .exact (r b a).2.1 z
  .exact (r b a).2.2.1 z
def getD_none{o:Option (Option α)}{v:α}(h:o.getD none=some v):o=some (some v):=by
 cases o with
 |none=>cases h
 |some w=>cases h;rfl
def vZ(f:Wy X scope own fr Zu)(I:L2.Z4 X Y Z H3 s3)(H:∀b∈fp,Ay X Y H3 b)(L:∀b∈fp,b<s3.heap.objs.size){g:Heap}{tk:Nat}{y:Str->Option Value}(M:g.Ns s3.heap.objs.size y)(kept:∀b o,s3.heap.get? b=some o->g.get? b=some o)(K:∀x c,(x,c)∈cellsFrom (s3.heap.objs.size+1) scope.names [] ->∃v,g.IsCell c v):
  L2.Z4 (Af X Y scope s3 H3 fp (own++fr)) [] (List.replicate own.length none++Zu.map λj=>(Z[j]?).getD none) H3 {s3 with heap:=g,toks:=tk}:=by
 have sub:=bz (cells:=X.env.cells) scope.names [] (λx c h=>by cases h)
 refine⟨yw f I H L,rfl,I.bare,Un.kept kept,⟨y,M,λi x v J a S=>?_⟩,λx c h=>?_,I.ZO.fresh (Ie _),λx c h=>(fT h).elim (I.Yw x c) λz=>I.ZO.fresh (Qk z),λp F=>?_,I.ZO.kept kept,?_⟩
 .
  have s:(own++fr)[i]?=some x:=J;by_cases hi:i<own.length
  .rw [Xe (by simpa using hi),Sg,XW hi]at a
   cases a
  .rw [XN (by simpa using hi),Sd,Xj]at a
   rw[XN ()]at s
   cases r:Zu[i-own.length]? with
   |none=>rw[r]at a;cases a
   |some k=>
    rw[r]at a;have O:=getD_none (Vm a);have hN:=f.ix.2 _ x k s r;have w:=f.frs x (WG s);have hm:=cU w;have t:=f.frees _ hm rfl;let⟨m,R,G⟩:=I.loc;let⟨u,C,lk⟩:=G k x v hN O (.inr (.inl t));refine⟨u,C,?_⟩;rcases lk with⟨hk,_⟩|⟨_,c,A,Q⟩
    .rw [t]at hk;cases hk
    .have P:(Af X Y scope s3 H3 fp (own++fr)).env.kindOf x=some .cell:=by
      have:=@cT X.env x scope.names;show List.lookup x _=_;refine this.trans ?_;rw[w];have hk:=I.ok.kind;simp[hk,t]
     let⟨c',B⟩:=Tt.mp (cF A scope.names [] hm);have:=sub x c' B;rw[A]at this;cases this;let⟨o,ho,l⟩:=Q;exact .inr ⟨.inl P,c,zV B (λz=>by have:=f.cells _ z rfl;rw[w]at this;cases this),o,kept c o ho,l⟩
 .rcases cP h with z|⟨_,z⟩
  .exact K x c (Ut z)
  .obtain ⟨v,o,ho,l⟩:=I.cell x c (sub x c z)
   exact⟨v,o,kept c o ho,l⟩
 .have N:p∈X.pn++Y:=by
   have:p∈(X.pn++Y)++[]:=F;simpa using this
  let⟨e,n,E,D,d⟩:=I.pin p N;refine⟨kept _ _ e,n,Ii (Ia e),λz=>?_,d⟩;rcases Xl.mp (I.V5 p.1 z)with q|q
  .exact E q
  .exact D q
 .show (List.replicate own.length none++Zu.map λj=>(Z[j]?).getD none).length=(own++fr).length
  simp[f.ix.1]
def yf{b:Su}(h:RS K J H b Z):RS K J H (List.replicate n none++Zu.map λj=>(b[j]?).getD none) (List.replicate n none++Zu.map λj=>(Z[j]?).getD none):=by
 refine⟨by simp,λi u e=>?_⟩
 by_cases hi:i<n
 .rw [Xe (by simpa using hi),Sg,XW hi]at e
  cases e
 .rw [XN (by simpa using hi),Sd,Xj]at e
  rw[XN (by simpa using hi),Sd,Xj]
  cases a:Zu[i-n]? with
  |none=>rw[a]at e;cases e
  |some k=>
   rw[a]at e;let⟨v,d,c⟩:=h.val k u (getD_none (Vm e));exact⟨v,by simp[d],c⟩
end
section
variable{own fr:List Str}
def eG(hc:X.calm=true)(Z5:Wy X scope own fr Zu){t:Tg}{c:CK}{n:Nat}(ha:gc.is_async=0)
  (H:∀ Y s3 H3 fp,PG (Af X Y scope s3 H3 fp (own++fr)) gc.target (tG X.K t)/\(∀ n,PTs (Af X Y scope s3 H3 fp (own++fr)) gc.ifs (Av (JW C n).ts cs))/\Bk (Af X Y scope s3 H3 fp (own++fr)) C ZV ZD /\
   C0 (Af X Y scope s3 H3 fp (own++fr)) C c Zp)
  {Y:List (Addr×Obj)} {a:Shared} {Z:L2.St} {u:Hp} {I:List Addr} {g1:G} {Z2:Su} {it:Addr} {fp:List Addr} {V:Nat->Heap->Prop} {Z7:It} {iI:Iter} {M:List U} {g2:G} {E:Value->Shared->Prop} {P:Value->Addr->Result->Shared->Prop}
  (I2:L2.Z4 X Y Z u a) (T:Turn X.prog X.w X.K gc.target Z7 fp it V) (XO:V 0 a.heap) (f2:∀b∈fp,Ay X Y u b) (hs:RS X.K I u Z2 Z) (YA:RH X.K I u g1) (Wz:RI X.K I u iI Z7)
  (VS:(JW C n).cm iI 0 t cs ZD Zp [] (List.replicate own.length none++Zu.map λj=>(Z2[j]?).getD none) g1=.ok M g2)
  (fin:∀ (D S:Addr) (s':Shared) (H':Hp) (ZU:List Addr) (W:HO) (m:Str->Option Value) (f:Flow),L2.Z4 X Y Z H' s'->ZN X.K I u ZU H'->RH X.K ZU H' g2->u D=none->H' D=some W->D ∉ ZU->CK.ho X.K ZU H' c M W->s'.heap.Ns S m->S≠X.env.locals->(∀ x c,X.env.cells.lookup x=some c->c≠S) ->
   (∀(R:Shared) (Xs:L2.St) (Yp:Hp) (h':Heap),L2.Z4 X Y Xs Yp R->(∀b,H' b=none->b<s'.heap.objs.size->Yp b=none)->Heap.SameBut S R.heap h'->L2.Z4 X Y Xs Yp {R with heap:=h'})->P (.ref D) S (.ok f) s') :
  wpAny (model X.prog X.w) X.A c.new (λZW VR => wpAny (model X.prog X.w) X.A (newFunctionEnv scope X.env.globals (JZ X.env.cells scope.names []) [] X.env.qual none .none (some X.env)) (λTh N =>
    codeAny (model X.prog X.w) X.A (.compStart (c.exp (gc::ZV) scope pos) 0 (.ref it) ZW {Th with scope:=relabel scope X.env}) (P ZW Th.locals) N) E VR) E a:=by
 refine CK.SK (vO ?_);dsimp only;have Q:=qp (a.heap.push c.obj) scope.names {cls:=.type "dict",data:=.dict #[]};have Tf:=(Heap.Ns.new (a.heap.push c.obj) (.type "dict")).keeps (pushCells_keeps scope.names _);have kept:∀b o,(a.heap.push c.obj).get? b=some o->(pushCells ((a.heap.push c.obj).push {cls:=.type "dict",data:=.dict #[]}) scope.names).get? b=some o:=λb o e=>pushCells_keeps _ _ b o (H9 _ e);generalize pushCells ((a.heap.push c.obj).push {cls:=.type "dict",data:=.dict #[]}) scope.names=X6 at Q Tf kept ⊢;have J:u a.heap.objs.size=none:=I2.ZO.fresh (Ie _);have F:L2.Z4 X Y Z (upd u a.heap.objs.size c.WB) {a with heap:=a.heap.push c.obj}:=I2.laid (t':=a.toks) (λb ob q=>H9 _ q) (Ie _) (c.SJ _ I2.WH)
 have y:∀b∈fp,b<a.heap.objs.size:=λb d=>let⟨o,e,_⟩:=T.obj _ _ XO b d;Ia e
 have B:∀b∈fp,Ay X Y (upd u a.heap.objs.size c.WB) b:=λb d=>⟨by rw[aa (Ii (y b d))];exact(f2 b d).1,(f2 b d).2⟩
 have hsz:(a.heap.push c.obj).objs.size=a.heap.objs.size+1:=Rh _ _;have Y3:∀b∈fp,b<(a.heap.push c.obj).objs.size:=λb d=>by rw[hsz];exact Ql (y b d)
 have I4:=vZ (tk:=a.toks) Z5 F B Y3 Tf kept λx c h=>⟨_,(Q.empty x c h).1⟩;let⟨pg,pts,go,TN⟩:=H Y {a with heap:=a.heap.push c.obj} (upd u a.heap.objs.size c.WB) fp
 have SD:∀b o,a.heap.get? b=some o->X6.get? b=some o:=λb o e=>kept b o (H9 _ e);have O:V 0 X6:=T.keep _ _ _ XO λb _ o e=>SD b o e;have hn:a.heap.objs.size ∉ I:=λhm=>by
  let⟨k,e⟩:=Tu.mp hm;let⟨o,ho⟩:=YA.there e;rw[J]at ho;cases ho
 have sub:=bz (cells:=X.env.cells) scope.names [] (λx c h=>by cases h)
 have f4:∀b∈fp,Ay (Af X Y scope {a with heap:=a.heap.push c.obj} (upd u a.heap.objs.size c.WB) fp (own++fr)) [] (upd u a.heap.objs.size c.WB) b:=λb d=>by
  refine⟨(B b d).1,Ii (Y3 b d),λz=>?_,.inl d,λx c h=>(fT h).elim ((B b d).2.2.2.2.1 x c) λz=>S3 (Ih (Ql (Y3 b d)) z),λp hp=>(B b d).2.2.2.2.2 p ?_⟩
  .rcases Xl.mp (F.V5 b z)with q|q
   .exact (B b d).2.1 q
   .exact (B b d).2.2.1 q
  .have:p∈(X.pn++Y)++[]:=hp
   simpa using this
 have loop:=uf (X:=Af X Y scope {a with heap:=a.heap.push c.obj} (upd u a.heap.objs.size c.WB) fp (own++fr)) (C:=C) hc rfl TN (c:=c) (gens:=gc::ZV) (scope:=scope) (pos:=pos) (D:=a.heap.objs.size) ZV ZD 0 gc t cs rfl rfl ha pg pts go n [] _ it fp V Z7 iI 0 [] c.WB _ _ _ I I u g1 M g2 T VS I4 O f4 (yf (hs.step (ZN.fresh J))) (YA.step_fresh J) (Wz.step (ZN.fresh J)) (ZN.fresh J) J upd_same hn CK.ho0
 refine Sx (gC (k:=0) (g:=gc) rfl ha loop (T.self _ 0 _ _ _ O loop)) λr s' hr=>?_;let⟨⟨f,rfl⟩,ZX,H',ZU,W,L,sp5,hg5,hs5,hD5,hn5,rv5,_⟩:=hr;have chk:∀b∈fp,(b∈X.ex\/X.ZK.heap.objs.size<=b)/\b≠X.env.locals/\(∀x c,X.env.cells.lookup x=some c->c≠b) /\∀p∈X.pn++Y,p.1≠b:=λb d=>⟨(B b d).2.2.2.1,(B b d).2.1,(B b d).2.2.2.2.1,(B b d).2.2.2.2.2⟩;have I6:L2.Z4 X Y Z H' s':=F.U1 (ch:=fp) L.os L.base L.ZO L.bare chk;let⟨m',VP,_⟩:=L.loc;refine fin a.heap.objs.size _ s' H' ZU W m' f I6 sp5 hg5 J hD5 hn5 rv5 VP (S3 F.lt) (λx c h=>by let⟨v,o,ho,hd⟩:=F.cell x c h;exact Ii (Ia ho)) λR Xs Yp h' I7 hH XZ=>?_
 have hCn:Yp (a.heap.push c.obj).objs.size=none:=hH _ L.free L.lt;refine I7.turned (t':=R.toks) (it:=(a.heap.push c.obj).objs.size) (λb o d e=>(XZ.2 b d).trans e) hCn ?_ (.inr ?_) (λx c h=>?_) λp hp=>?_
 .exact S3 F.lt
 .exact F.sz
 .obtain ⟨v,o,ho,hd⟩:=F.cell x c h
  exact Ii (Ia ho)
 .exact Ii (Ia (F.pin p hp).1)
def yy(A:X.calm=true)(o:Wy X scope own fr Zu){t:Tg}{l:Expr}{n:Nat}(B:gc.is_async=0)
  (y:PI X gc.target gc.iter (tI X.K PTs.YB (JO (JW C n) Zz))) (VO:∀x,foldedSetIterable gc.iter X.env x=pure x)
  (k:∀ Y s3 H3 fp,PG (Af X Y scope s3 H3 fp (own++fr)) gc.target (tG X.K t)/\(∀ n,PTs (Af X Y scope s3 H3 fp (own++fr)) gc.ifs (Av (JW C n).ts cs))/\Bk (Af X Y scope s3 H3 fp (own++fr)) C ZV ZD /\
   ∀n,PE (Af X Y scope s3 H3 fp (own++fr)) l (tE X.K PTs.YB ((JW C n).ev Zp))) :
  PE X (.ListComp l (gc::ZV) scope pos) (tE X.K PTs.YB (JP C (JW C n) (.comp own.length Zu ((t,Zz,cs)::ZD) Zp))):=by
 intro Y s Z H Q I ⟨q,J,g,hs,z,p⟩;rw[eval_ListComp];let⟨tg,iter,ifs,UI⟩:=gc;obtain rfl:UI=0:=B;refine Rn (use:=none) rfl VO (eJ λx w hk=>I.ok.has x.1 (.inl (o.frees x w hk))) o.kind o.names ?_;refine thn (y Y s Z H _ I ⟨q,J,g,hs,z,post.bind p⟩) λv s1 h1=>thn h1 λVq s2 h2=>?_;let⟨it,fp,tn,Z7,H2,e,I2,T,R,F,ZS,u,E,L,O,U,i⟩:=h2;subst e;revert i;cases VS:(JW C n).cm u 0 t cs ZD Zp [] (List.replicate own.length none++Zu.map λj=>(q[j]?).getD none) E with
 |exc c fs g2=>intro i;exact False.elim i
 |Z1=>intro i;exact False.elim i
 |ok M g2=>
  intro i;simp![Out.bindB]at i;split at i
  .refine eG (c:=.S l) A o rfl (λY s3 H3 fp=>let⟨a,b,c,d⟩:=k Y s3 H3 fp;⟨a,b,c,jd d⟩) I2 T R F (hs.step L) O U VS λD Cc s' H' ZU Zd m f I' W r Vh UH N ⟨vs,G,V⟩ VP _ _ YO=>?_
   subst G;refine⟨m,VP,λh' P=>?_⟩;refine⟨.ref D,H',YO s' Z H' h' I' (λ_ h _=>h) P,rfl,?_⟩;refine i (.ref D) (ZU++[D]) H' (W.named Vh) (r.named UH N ⟨_,rfl,V⟩) ⟨D,rfl,?_⟩;rw[<-r.len];simp
  .exact False.elim i
def wq(k v gens scope pos):eval (.DictComp k v gens scope pos) env=comprehension (.DictComp k v gens scope pos) scope env (firstIterPos gens pos) newDict (firstAsync gens) (firstIter gens env):=rfl
def vI(L:X.calm=true)(B:X.A.units+1<cLine)(l:Wy X scope own fr Zu){t:Tg}{r o:Expr}{k' q:E}{n:Nat}(N:gc.is_async=0)
  (F:PI X gc.target gc.iter (tI X.K PTs.YB (JO (JW C n) Zz))) (VO:∀x,foldedSetIterable gc.iter X.env x=pure x)
  (k:∀ Y s3 H3 fp,PG (Af X Y scope s3 H3 fp (own++fr)) gc.target (tG X.K t)/\(∀ n,PTs (Af X Y scope s3 H3 fp (own++fr)) gc.ifs (Av (JW C n).ts cs))/\Bk (Af X Y scope s3 H3 fp (own++fr)) C ZV ZD /\
   (∀n,PE (Af X Y scope s3 H3 fp (own++fr)) r (tE X.K PTs.YB ((JW C n).ev k'))) /\∀n,PE (Af X Y scope s3 H3 fp (own++fr)) o (tE X.K PTs.YB ((JW C n).ev q))) :
  PE X (.DictComp r o (gc::ZV) scope pos) (tE X.K PTs.YB (JP C (JW C n) (.WL own.length Zu ((t,Zz,cs)::ZD) k' q))):=by
 intro Y s Z H Q I ⟨u,J,g,hs,G,p⟩;rw[wq];let⟨tg,iter,ifs,UI⟩:=gc;obtain rfl:UI=0:=N;refine Rn (use:=none) rfl VO (eJ λx z hk=>I.ok.has x.1 (.inl (l.frees x z hk))) l.kind l.names ?_;refine thn (F Y s Z H _ I ⟨u,J,g,hs,G,post.bind p⟩) λv s1 h1=>thn h1 λVq s2 h2=>?_;let⟨it,fp,tn,Z7,H2,e,I2,T,XO,P,ZS,y,O,U,W,Wz,i⟩:=h2;subst e;revert i;cases VS:(JW C n).cm y 0 t cs ZD (.pair k' q) [] (List.replicate own.length none++Zu.map λj=>(u[j]?).getD none) O with
 |exc c fs g2=>intro i;exact False.elim i
 |Z1=>intro i;exact False.elim i
 |ok M g2=>
  intro i;simp![Out.bindB]at i;refine eG (c:=.ZJ r o) L l rfl (λY s3 H3 fp=>let⟨a,b,c,d,e⟩:=k Y s3 H3 fp;⟨a,b,c,ve (X:=Af X Y scope s3 H3 fp (own++fr)) B d e⟩) I2 T XO P (hs.step U) W Wz VS ?_;rintro D Cc s' H' ZU Zd m f I' Vi w Vh UH V ⟨Z3,ws,R,S,Wq⟩ VP _ _ YO
  subst R;rw[S]at i;refine⟨m,VP,λh' XZ=>?_⟩;refine⟨.ref D,H',YO s' Z H' h' I' (λ_ h _=>h) XZ,rfl,?_⟩;refine i (.ref D) (ZU++[D]) H' (Vi.named Vh) (w.named UH V ⟨_,rfl,Wq⟩) ⟨D,rfl,?_⟩;rw[<-w.len];simp
def bind_assoc{b:Type}(o:Out α)(k:α->G->Out β)(k':β->G->Out b):(o.bind k).bind k'=o.bind λa g=>(k a g).bind k':=by
 cases o<;>rfl
def tF(hc:X.calm=true)(Z5:Wy X scope own fr Zu){t:Tg}{elt:Expr}{W8 py:Pos}{n:Nat}{y:Str}(ha:gc.is_async=0)
  (hi:PI X gc.target gc.iter (tI X.K PTs.YB (JO (JW C n) Zz))) (VO:∀x,foldedSetIterable gc.iter X.env x=pure x)
  (inner:∀ Y s3 H3 fp,PG (Af X Y scope s3 H3 fp (own++fr)) gc.target (tG X.K t)/\(∀ n,PTs (Af X Y scope s3 H3 fp (own++fr)) gc.ifs (Av (JW C n).ts cs))/\Bk (Af X Y scope s3 H3 fp (own++fr)) C ZV ZD /\
   ∀n,PE (Af X Y scope s3 H3 fp (own++fr)) elt (tE X.K PTs.YB ((JW C n).ev Zp)))
  (hN:X.N.Nodup) (hiy:X.N[i]?=some y) (hy:X.env.scope.names.lookup y=some .local) (UG:swapsWith (.ListComp elt (gc::ZV) scope pos) (some (.Name y py)) W8.line X.env=pure true) :
  PS X (.Assign [.Name y py] (.ListComp elt (gc::ZV) scope pos) W8) (ZF X.K PTs.YB (JR (JW C (n+1)) (.set (.nm i) (.comp own.length Zu ((t,Zz,cs)::ZD) Zp)))):=by
 intro Y s Z H Dd I ⟨Z2,J,g,hs,hg,p⟩;have p':JX X.K PTs.YB ((JO (JW C n) Zz Z2 g).bind λa g=>(((JW C n).cm a 0 t cs ZD Zp [] (List.replicate own.length none++Zu.map λj=>(Z2[j]?).getD none) g).bindB λM g=>if M.length<=Ac then PI.alloc (.S M) g else .Z1).bind λu g=>match Ae (.nm i) u Z2 with|some ZX=>Out.ok (.nx ZX) g|none=>.Z1) J H Dd:=by
  have e:JR (JW C (n+1)) (.set (.nm i) (.comp own.length Zu ((t,Zz,cs)::ZD) Zp)) Z2 g=_:=rfl;rw[<-bind_assoc];exact p
 rw[exec_Assign_Name_used _ _ _ _ UG];refine ZB (Tn (ZB ?_));let⟨tg,iter,ifs,UI⟩:=gc;obtain rfl:UI=0:=ha;show wpAny _ _ (do let _<-comprehension (.ListComp elt (⟨tg,iter,ifs,0⟩::ZV) scope pos) scope X.env _ (newList []) false (eval iter X.env) (some (assign (.Name y py) X.env))) _ _ s
 refine ZB (thn (Rn (use:=some (assign (.Name y py) X.env)) (Q:=λ_ s'=>SP X Y Dd .next s') rfl VO (eJ λx hx hk=>I.ok.has x.1 (.inl (Z5.frees x hx hk))) Z5.kind Z5.names ?_) λ_ s' hq=>ZP (ZP hq));refine thn (hi Y s Z H _ I ⟨Z2,J,g,hs,hg,JX.bind p'⟩) λv s1 h1=>thn h1 λVq s2 h2=>?_;let⟨it,fp,tn,Z7,H2,e,I2,T,XO,f2,ZS,iI,g1,Zm,YA,Wz,p1⟩:=h2;subst e;revert p1;cases VS:(JW C n).cm iI 0 t cs ZD Zp [] (List.replicate own.length none++Zu.map λj=>(Z2[j]?).getD none) g1 with
 |exc c fs g2=>intro p1;exact False.elim p1
 |Z1=>intro p1;exact False.elim p1
 |ok M g2=>
  intro p1;simp![Out.bindB]at p1;split at p1
  .refine eG (c:=.S elt) hc Z5 rfl (λY s3 H3 fp=>let⟨a,b,c,d⟩:=inner Y s3 H3 fp;⟨a,b,c,jd d⟩) I2 T XO f2 (hs.step Zm) YA Wz VS λD Cc s' H' ZU Zd m f I' Vi Wl Vh UH Zj ⟨vs,eo,Wq⟩ VP nl nc YO=>?_
   subst eo;show wpAny _ _ (assign (.Name y py) X.env (.ref D)) _ _ s';refine wpAny_assign_Name (ic (v:=.ref D) I' hN hiy (.inl hy) rfl (λs3 I3 ⟨a,XZ,ha⟩=>?_) (.inr hy));have Zi:Cc≠a:=by
    rcases ha with rfl|ha
    .exact nl
    .exact Ne.symm (nc y a ha)
   refine⟨m,VP.sameBut XZ Zi,λh' WD=>⟨_,H',YO s3 _ H' h' I3 (λ_ h _=>h) WD,?_⟩⟩;simp![PI.alloc,Out.bind,JN,Ae]at p1;by_cases hl:i<Z2.length
   .simp only [hl,TL]at p1
    refine p1 _ (ZU++[D]) H' (Vi.named Vh) (Wl.named UH Zj ⟨_,rfl,Wq⟩) ((hs.step (Zm.trans (Vi.named Vh))).set (u:=.ref g2.length) (v:=.ref D) ?_);refine⟨D,rfl,?_⟩;rw[<-Wl.len];simp
   .simp only [hl,Td]at p1
    exact False.elim p1
  .exact False.elim p1
end
section
variable{W:XQ}
inductive DOk(X:Cx)(W:XQ)(r:Z9):List (Option Expr)->List Expr->List Str->List E->Prop
 |nil:DOk X W r [] [] [] []
 |cons {k a b ks e es kk e' ZI}:PE X e (tE X.K W (r.ev e'))->DOk X W r ks es kk ZI->DOk X W r (some (.Constant (.str k) a b)::ks) (e::es) (k::kk) (e'::ZI)
end
abbrev W0:XQ:=PTs.YB
inductive FrI(X:Cx)(W:XQ)(it:Iter)(Z7:It)(D:Ends)(f:Su->G->Out Fl)(Z:L2.St)(H:Hp):Prop
 |mk (Z2:Su) (J:List Addr) (g:G) (hs:RS X.K J H Z2 Z) (hg:RH X.K J H g) (ri:RI X.K J H it Z7) (p:JX X.K W (f Z2 g) J H D)
section
variable{W:XQ}{a b c:Expr}{b' c':E}{t:Tg}
def y6{bs:List Stmt}{n:Nat}(hp:PassesOwn (model X.prog X.w) X.A X.env X.xe)(M:X.calm=true)(L:PI X tg iter (tI X.K W (JO (JW C n) Zz)))(c:PG X tg (tG X.K t))(N:∀n,PSs X bs (ZF X.K W ((JW C n).ex Y6)))
  (b:∀x,foldedSetIterable iter X.env x=pure x):PS X (.For tg iter bs [] pos) (ZF X.K W (JR (JW C n) (.for t Zz Y6))):=by
 have T:PSs X bs (λD Z H=>∃m,ZF X.K W ((JW C m).ex Y6) D Z H):=λY s Z H D I ⟨m,h⟩=>N m Y s Z H D I h;refine(mX hp M L c T b).imp ?_;rintro D Z H ⟨d,J,g,b,c,p⟩;refine⟨d,J,g,b,c,(JX.bind (R:=RI X.K) p).mono λv H1 ⟨S,it,g1,s1,h1,e,G⟩=>?_⟩;refine⟨λi m Z H=>FrI X W it v D ((JW C m).fr t it i Y6) Z H,⟨n,d,S,g1,b.step s1,h1,e,G⟩,?_⟩;rintro i m Z H ⟨d,J,g,b,c,e,p⟩;cases m with
 |zero=>exact p.elim
 |succ m=>
  have a:JX X.K W (JU (JW C m) t it i Y6 d g) J H D:=p;simp![JU]at a;cases f:next it i g with
  |none=>simp![f]at a;exact a.elim
  |some o=>
   cases o with
   |none=>simp![f]at a;exact .inl ⟨fh c e f,a _ J H .refl c b⟩
   |some u=>
    simp![f]at a;let⟨P,B⟩:=gp c e f;refine .inr ⟨P,λZX H'=>FrI X W it v D ((JW C m).fr t it (i+1) Y6) ZX H',λZX H' q=>⟨m,Sl _,q⟩,λx H' y=>?_⟩;let⟨l,z,E⟩:=B x H' y;cases j:Ae t u d with
    |none=>simp![j]at a;exact a.elim
    |some r=>
     simp![j]at a;refine⟨d,J,g,u,r,b.step l,z,E,eQ j,λXs U=>⟨m,r,J,g,U,z,?_⟩⟩;exact gi (k:=λZX g=>(JW C m).fr t it (i+1) Y6 ZX g) (JX.from a l) λV Q Z ZU H' s3 O WD F=>⟨V,ZU,Q,WD,O,(e.step l).step s3,F⟩
inductive Vg(K:Il)(Wf:XK->XQ)(L:List Fn)(d i np:Nat)(vs:List V)(H:Hp)(Q:VK)(E:XK):Prop
 |mk (fu:Nat) (J:List Addr) (g:G) (M:List U) (hg:RH K J H g) (r:RVs K J H M vs) (l:M.length=np) (p:post K (Wf E) (RV K) (Aa L fu d i M g) J H Q)
abbrev Wk(K:Il)(L:List Fn)(d i np:Nat):Sp:=Vg K (λ_=>W0) L d i np
def iM{L:List Fn}{np:Nat}{Q:VK}(a:∀F,L[i]?=some F->F.np=np){W:XQ}(p:post K W (RV K) (Aa L fu d i M g) J H Q):M.length=np:=by
 cases d with
 |zero=>exact p.elim
 |succ d=>
  simp![Aa]at p;cases e:L[i]? with
  |none=>simp![e]at p;exact p.elim
  |some F=>
   simp![e,Bp]at p;split at p
   .rename_i h;rw[h,a F e]
   .exact p.elim
def jU{L:List Fn}{k:Nat}{f:Addr}{Wf:XK->XQ}{E0:XK}(F:Zb X.prog X.w X.K X.mg X.base CX k f fd ps (Vg X.K Wf L d i ps.length))(hx:AA CX X E0)(u:∀F,L[i]?=some F->F.np=ps.length)
  (e:Zy k X.A) (b:Gl X x) (h:X.mg x=some (.ref f)) (j:PySem.W.keepIn X.K (.ref f)=true) (l:Binds X.K fd ps []) (t:(x==("__debug__" : Str))=false) (m:PA X (a::es) (X9 X.K W0 (JL r.ev ZI)))
  (o:starEach (a::es) X.env=(false,eval a X.env)::starEach es X.env) (s:(backTo pos (starEach es X.env)).any (·.1)=false) :
  PE X (.Call (.Name x p) (a::es) [] pos) (tE X.K (Wf E0) (JP (Aa L fu d) r (.call i ZI))):=by
 refine(xV F e b h j l .nil hx m t o s).imp ?_;rintro Z H Q ⟨q,J,g,hs,b,p⟩;refine⟨q,J,g,hs,b,(bD (R:=RVs X.K) p).mono λvs H1 ⟨n,M,g1,s1,h1,rs,c⟩=>?_⟩;exact⟨fu,n,g1,M,h1,by rw[TJ];exact rs,iM u c,c⟩
def vc{L:List Fn}{k:Nat}{f:Addr}{Wf:XK->XQ}{E0:XK}(F:Zb X.prog X.w X.K X.mg X.base CX k f fd ps (Vg X.K Wf L d i ps.length))(hx:AA CX X E0)(m:∀F,L[i]?=some F->F.np=ps.length)
  (c:Zy k X.A) (a:Gl X x) (e:X.mg x=some (.ref f)) (h:PySem.W.keepIn X.K (.ref f)=true) (j:Binds X.K fd ps []) (l:(x==("__debug__" : Str))=false) :
  PE X (.Call (.Name x p) [] [] pos) (tE X.K (Wf E0) (JP (Aa L fu d) r (.call i []))):=by
 refine(vE F c a e h j .nil hx l).imp ?_;rintro Z H Q ⟨n,J,g,hs,a,p⟩;have b:post X.K (Wf E0) (RV X.K) (Aa L fu d i [] g) J H Q:=p;exact⟨fu,J,g,[],a,rfl,iM m b,b⟩
end
structure Wj(K:Il)(C:Addr):Prop where
 ne:PySem.W.findIn K (.ref C) "__ne__" = some (some (.builtin "object.__ne__"))
 ob:PySem.W.mroIn K C (.type "object")=some true
 ci:(PySem.W.clsIn K C).isSome=true
 ty:PySem.W.typeIn K (.ref C)=some (.type "type")
 ca:PySem.W.findIn K (.ref C) "__class__" = some (some (.builtin "object.__class__"))
 sg:PySem.W.specialIn K (.builtin "object.__class__") "__get__" = some (some (.builtin "getset_descriptor.__get__"))
 tk:PySem.W.takesIn K (.builtin "object.__class__")=some true
def ixOf_get(h:AG N x=some i):N[i]?=some x:=by
 let⟨h1,h2,_⟩:=Rv.mp h;rw[Yr h1];exact T8 some (eq_of_beq h2)
def aD(h:Io e=some x):∃p,e = .Name x p:=by
 cases e with
 |Name y p=>cases h;exact⟨p,rfl⟩
 |_=>cases h
def dh{c:Str×List Expr}(h:BZ e=some c):∃p q,e = .Call (.Name c.1 p) c.2 [] q:=by
 cases e with
 |Call f es kws q=>
  cases kws with
  |nil=>
   let⟨n,a,rfl⟩:=Yn.mp h;let⟨p,rfl⟩:=aD a;exact⟨p,q,rfl⟩
  |cons _ _=>cases h
 |_=>cases h
open PySem PySem.Spec PyProof.Rows L2 PySem.W
def star_ne{a:Expr}(h:isStar a=false)(b:List Expr):starEach (a::b) env=(false,eval a env)::starEach b env:=by
 cases a<;>first|rfl|cases h
def bc{env:Env}{pos:Pos}:∀{es:List Expr},es.any isStar=false->(backTo pos (starEach es env)).any (·.1)=false
 |[],_=>rfl
 |a::es,h=>by
  rw[VJ,Ue]at h;rw[star_ne h.1];show(false||(backTo pos (starEach es env)).any (·.1))=false;rw[bc h.2]
  rfl
section
def dF{env:Env}:∀{kws:List Keyword},kwOk kws=true->(backToKw pos (keywordEach kws env)).all (·.1.isSome)=true/\(backToKw pos (keywordEach kws env)).filterMap (·.1)=Aw kws/\(backToKw pos (keywordEach kws env)).any (·.1.isNone)=false
 |[],_=>⟨rfl,rfl,rfl⟩
 |⟨nm,e,kp⟩::kws,h=>by
  unfold kwOk at h;rw[Qm,Zc]at h;let⟨a,b,c⟩:=dF (env:=env) (kws:=kws) h.2;cases nm with
  |none=>cases h.1
  |some n=>
   refine⟨?_,?_,?_⟩
   .show (true&&_)=true
    rw[RP];exact a
   .show n::_=n::_
    exact T8 (n :: ·) b
   .show (false||_)=false
    rw[QS];exact c
def fF:∀{kws:List Keyword},kwOk kws=true->(Aw kws).length=kws.length
 |[],_=>rfl
 |⟨nm,e,kp⟩::kws,h=>by
  unfold kwOk at h;rw[Qm,Zc]at h;cases nm with
  |none=>cases h.1
  |some n=>
   show(Aw kws).length+1=kws.length+1;rw[fF h.2]
def _root_.L2.PK.imp{t t':TA}(h:PK X kws t)(q:∀Z H Q,t' Z H Q->t Z H Q):PK X kws t':=λp Y s Z H Q I a=>h p Y s Z H Q I (q Z H Q a)
def _root_.L2.PK.ZE{kws:List Keyword}{t:TA}(h:PK X.ZE kws t):PK X kws t:=λp Y s Z H Q I a=>
 Ve (h p Y s Z H Q (I.Yt _) a) (λ_ _ ⟨v,H',b,r,q⟩=>⟨v,H',b.Yd,r,q⟩) λ_ _ z=>False.elim z
end
section
variable{k:Nat}{f C:Addr}{ks:List Str}{E:XK}{m:Str}{o:Expr}{t tk:TA}{g:List Value->List Value->List Value}
def iw{Z:L2.St}{Q:VK}{M ws:List Value}{zs:List V}(Z8:Mk X.K C f)(F:Zb X.prog X.w X.K X.mg X.base CX k f fd ps sp)(n:Zy (k+1) X.A)(i:Vp X.K fd ps ks g gV)
  (hx:AA CX X E) (I:Z4 X Y Z H s) (r:ZM vs M) (j:ZM zs ws)
  (h:∀x dx,H x=none->H dx=none->dx≠x->sp (gV (.ref x::vs) zs) (upd (upd H dx (.own x)) x (.ins C dx [])) (λv H2=>v=.ZR/\Q (.ref x) H2) E) :
  wpAny (model X.prog X.w) X.A (call (.ref C) M (ks.zip ws)) (EP X Y Z Q) X.xe s:=by
 have d:=h (s.heap.objs.size+1) s.heap.objs.size (I.ZO.fresh (U2 _)) (I.ZO.fresh (Ie _)) (Ii (Sl _));have b:=Z4.made (C:=C) I;have c:ZM (gV (.ref (s.heap.objs.size+1)::vs) zs) (g (.ref (s.heap.objs.size+1)::M) ws):=i.rel (.cons rfl r) j;have o:(g (.ref (s.heap.objs.size+1)::M) ws).length=ps.length:=by rw[<-c.length];exact F.len _ _ _ _ d
 refine S4 (vR (f:=f) I.Zt Z8.makes Z8.init (W6.mp Z8.fn) (Sx (F.run _ X.stack _ _ ⟨.ref (s.heap.objs.size+1)::M,ks.zip ws⟩ _ _ _ E (n.make C M (ks.zip ws)) (b.V1.make C M (ks.zip ws)) (i.to _ _ ws b.Zt o) c d) λr s' a=>?_));cases r with
 |error e=>exact hx Y Z _ _ e s' b a
 |ok fl=>
  cases fl with
  |ret u=>
   let⟨v,H',q,l,p,m⟩:=b.after a;subst p;exact⟨l,⟨.ref (s.heap.objs.size+1),H',q,rfl,m⟩⟩
  |next=>exact False.elim a
  |brk=>exact False.elim a
  |cont=>exact False.elim a
def Hb(C:Addr)(sp:Sp)(a:List V->List V->List V)(E:XK)(t tk:TA):TE:=λZ H Q=>t Z H λvs H1=>tk Z H1 λzs H2=>∀x dx,H2 x=none->H2 dx=none->dx≠x ->
 sp (a (.ref x::vs) zs) (upd (upd H2 dx (.own x)) x (.ins C dx [])) (λv H3=>v=.ZR/\Q (.ref x) H3) E
def uu(Z8:Mk X.K C f)(F:Zb X.prog X.w X.K X.mg X.base CX k f fd ps sp)(d:Zy (k+1) X.A)(y:Gl X x)(v:X.mg x=some (.ref C))(i:Vp X.K fd ps ks g gV)(hx:AA CX X E)
  (z:PA X es t) (D:es=[] ->∀Z H Q,t Z H Q->Q [] H) (m:PK X kws tk) (n:(backToKw pos (keywordEach kws X.env)).all (·.1.isSome)=true) (j:(backToKw pos (keywordEach kws X.env)).filterMap (·.1)=ks)
  (B:(x==("__debug__" : Str))=false) (b:es.any isStar=false) (l:(backToKw pos (keywordEach kws X.env)).any (·.1.isNone)=false) :
  PE X (.Call (.Name x p) es kws pos) (Hb C sp gV E t tk):=by
 intro Y s Z H Q I h;refine S7 (be I y v ?_ B);cases es with
 |cons e es=>
  rw[VJ,Ue]at b;refine PySem.W.callWith_KW (h₀:=X.base) I.ok.mod.kin Z8.kp n (thn (z pos Y s Z H _ I h) λM u ⟨vs,H1,G,r,q⟩=>?_) ?_ (star_ne b.1 _)
  .refine thn (m pos Y u Z H1 _ G q) λws o ⟨zs,H2,a,rz,c⟩=>⟨a.Zt,?_⟩
   rw[j];exact iw Z8 F d i hx a r rz c
  .rw [star_ne b.1]
   show((false||(backTo pos (starEach es X.env)).any (·.1))||_)=false;rw[bc b.2,l]
   rfl
 |nil=>
  have q:=D rfl Z H _ h;refine PySem.W.callWith_KW0 (h₀:=X.base) I.ok.mod.kin Z8.kp n ?_ (by show(false||_)=false;rw[l];rfl)
  refine thn (m pos Y s Z H _ I q) λws o ⟨zs,H2,a,rz,c⟩=>⟨a.Zt,?_⟩;rw[j];exact iw Z8 F d i hx a .nil rz c
def Hd(X:Cx)(CX:Yc)(k:Nat)(m:Str)(ks:List Str)(E:XK)(b:TE)(t tk:TA):TE:=λZ H Q=>b Z H λx H1=>∃(a C dx:Addr) (fs:List (Str×V)) (f:Addr) (fd:FuncData) (ps:List Str) (sp:Sp) (g:List Value->List Value->List Value) (gV:List V->List V->List V),
 x=.ref a/\H1 a=some (.ins C dx fs)/\fs.lookup m=none/\YN X.K C/\V2 X.K C m f/\Zb X.prog X.w X.K X.mg X.base CX k f fd ps sp/\Vp X.K fd ps ks g gV/\t Z H1 λvs H2=>tk Z H2 λzs H3=>sp (gV (x::vs) zs) H3 Q E
def t6(he:PE X o ta)(hr:Zy k X.A)(hx:AA CX X E)(ha:PA X es t)(UD:es=[] ->∀Z H Q,t Z H Q->Q [] H)(Y8:PK X kws tk)(XJ:(backToKw pos (keywordEach kws X.env)).all (·.1.isSome)=true)(Ys:(backToKw pos (keywordEach kws X.env)).filterMap (·.1)=ks)
  (ZL:es.any isStar=false) (YS:(backToKw pos (keywordEach kws X.env)).any (·.1.isNone)=false)
  (ht:eval (.Call (.Attribute o m apos) es kws pos) X.env=(do
   let ov<-eval o X.env
   standAt apos.atName
   let(f,first)<-holding [ov] (getMethod ov m pl)
   callWith pos f first (backTo pos (starEach es X.env)) (backToKw pos (keywordEach kws X.env)))) :
  PE X (.Call (.Attribute o m apos) es kws pos) (Hd X CX k m ks E ta t tk):=by
 intro Y s Z H Q I h;refine PySem.W.methodCall_KW (pl:=pl) (thn (he Y s Z H _ I h) λu s1 hz=>?_) ht;let⟨x,H1,I1,rx,a,C,dx,fs,f,fd,ps,sp,g,gV,ex,ea,l,c,hm,F,hb,q⟩:=hz;subst ex;obtain rfl:u=Value.ref a:=rx;refine tS I1 ea c hm l ?_;cases es with
 |cons e es=>
  rw[VJ,Ue]at ZL;refine PySem.W.callWith_KW (first:=[.ref a]) (h₀:=X.base) I.ok.mod.kin hm.kp XJ (thn (ha pos Y s1 Z H1 _ I1 q) λM s2 ⟨vs,H2,I2,r,q2⟩=>?_) ?_ (star_ne ZL.1 _)
  .refine thn (Y8 pos Y s2 Z H2 _ I2 q2) λws s3 ⟨zs,H3,I3,rz,q3⟩=>⟨I3.Zt,?_⟩
   rw[Ys];exact kc (M:=.ref a::M) (vs:=.ref a::vs) F hr hb hx I3 (.cons rfl r) rz q3
  .rw [star_ne ZL.1]
   show((false||(backTo pos (starEach es X.env)).any (·.1))||_)=false;rw[bc ZL.2,YS]
   rfl
 |nil=>
  have q:=UD rfl Z H1 _ q;refine PySem.W.callWith_KW0 (first:=[.ref a]) (h₀:=X.base) I.ok.mod.kin hm.kp XJ ?_ (by show(false||_)=false;rw[YS];rfl)
  refine thn (Y8 pos Y s1 Z H1 _ I1 q) λws s3 ⟨zs,H3,I3,rz,q3⟩=>⟨I3.Zt,?_⟩;rw[Ys];exact kc (M:=[.ref a]) (vs:=[.ref a]) F hr hb hx I3 (.cons rfl .nil) rz q3
end
section
variable{W:XQ}{L:List Fn}{k nd:Nat}{m:Str}{f:Addr}{F:KF}{dd:List (Str×Value)}{YJ:List E}
def fE{K:Frag}(a:X8 K fd F nd ZH dd)(J:List Addr)(H:Hp):F2 (PR (RV K J H)) F.dd ZH:=by
 have:=a.urel;revert this;generalize F.dd=l1;generalize ZH=b;intro this
 induction this with
 |nil=>exact .nil
 |cons r _ ih=>exact .cons ⟨r.1,r.2 _ _⟩ ih
def gv{np:Nat}{K:Frag}{W:XQ}{Q:VK}(c:∀a,L[i]?=some a->a.np=np)(p:post K W (RV K) (Aa L fu d i M g) J H Q):M.length=np:=by
 cases d with
 |zero=>exact p.elim
 |succ d=>
  simp![Aa]at p;cases e:L[i]? with
  |none=>rw[e]at p;exact p.elim
  |some a=>
   rw[e]at p;simp![Bp]at p;split at p
   .rename_i b;rw[b];exact c a e
   .exact p.elim
def cf{x:U}{q:Nat×List (Nat×U)}(e:AD x g=some q):∃n,x=.ref n/\g[n]?=some (.ins q.1 q.2):=by
 unfold AD at e;split at e
 .split at e
  .rename_i h;cases e;exact⟨_,rfl,h⟩
  .cases e
 .cases e
def jT{C:Addr}{c:Nat}(Z8:Mk X.K C f)(hC:nsIn X.K mainGlobals (Ag c)=some (some (.ref C))){Wf:XK->XQ}{E0:XK}(Z6:Zb X.prog X.w X.K X.mg X.base CX k f fd (F.ns++F.ks) (Vg X.K Wf L d i (F.ns++F.ks).length))(hx:AA CX X E0)(XG:∀N,L[i]?=some N->N.np=(F.ns++F.ks).length)(I:X8 X.K fd F nd ZH dd)(Zi:F.ns++F.ks≠[])
  (X_:Bv F nd (ZI.length+1) (Aw kws)=true) (D:kwOk kws=true) (W7:ZI.length=es.length) (WS:YJ.length=kws.length) (Y:Zy (k+1) X.A) (h:Gl X x) (hm:X.mg x=some (.ref C)) (Y4:(x==("__debug__" : Str))=false)
  (q:PA X es (X9 X.K W0 (JL r.ev ZI))) (o:PK X kws (X9 X.K W0 (JL r.ev YJ))) (ZL:es.any isStar=false) :
  PE X (.Call (.Name x p) es kws pos) (tE X.K (Wf E0) (JP (Aa L fu d) r (.make c i ZI YJ (AU F (ZI.length+1) (Aw kws))))):=by
 let⟨k1,k2,k3⟩:=dF (pos:=pos) (env:=X.env) D;refine(uu Z8 Z6 Y h hm (I.binds X_ Zi) hx q (λe Z H Q ⟨s,J,g,hs,h,p⟩=>by subst e;cases ZI with|nil=>exact post.Zk (R:=RVs X.K) (u:=[]) p h rfl|cons=>cases W7) o k1 k2 Y4 ZL k3).imp ?_;rintro Z H Q ⟨s,J,g,hs,h,p⟩
 refine⟨s,J,g,hs,h,(bD (R:=RVs X.K) p).mono λvs H1 ⟨ZS,M,g1,s1,h1,rs,S⟩=>?_⟩;refine⟨s,ZS,g1,hs.step s1,h1,(bD (R:=RVs X.K) S).mono λzs H2 ⟨l,ws,g2,s2,h2,rz,p2⟩=>?_⟩;intro a dx q B b;split at p2
 .rename_i hc
  let⟨z,c2⟩:=hc;have G:ws.length=(Aw kws).length:=by rw[c2,WS,fF D]
  have j:(upd H2 dx (.own a)) a=none:=by rw[aa (Ne.symm b)];exact q
  have st:ZN X.K l H2 (l++[a]) (upd (upd H2 dx (.own a)) a (.ins C dx [])):=(ZN.fresh B).trans (ZN.alloc j);have O:RH X.K (l++[a]) (upd (upd H2 dx (.own a)) a (.ins C dx [])) (g2++[.ins c []]):=(h2.step_fresh B).TU j ⟨C,dx,[],rfl,hC,rfl⟩;have E:=RVs.step st _ _ (RVs.step s2 _ _ rs);have m:=RVs.step st _ _ rz;have t:RV X.K (l++[a]) (upd (upd H2 dx (.own a)) a (.ins C dx [])) (.ref g2.length) (.ref a):=⟨a,rfl,by rw[<-h2.len];simp⟩
  have T:(V.ref a::vs).length=ZI.length+1/\zs.length=(Aw kws).length:=⟨by rw[Wa,<-E.length,z],by rw[<-rz.length];exact G⟩
  have e1:(U.ref g2.length::M).length=ZI.length+1:=by rw[Wa,z]
  rw[show(U.ref g2.length::M++ws)=(U.ref g2.length::M)++ws from rfl,eI (M:=U.ref g2.length::M) e1 G]at p2;have y:post X.K (Wf E0) (RV X.K) (Aa L fu d i (place F.ns F.ks (Aw kws) F.dd (U.ref g2.length::M) ws) (g2++[.ins c []])) (l++[a]) (upd (upd H2 dx (.own a)) a (.ins C dx [])) (λv H3=>v=.ZR/\Q (.ref a) H3):=by
   refine(post.bind (R:=RV X.K) (p2.from st)).mono ?_;rintro v H3 ⟨Vn,u,g3,s3,h3,P,n⟩;split at n
   .rename_i W
    have e:=eL P;rw[W]at e;exact⟨Ik e.symm,post.Zk n h3 (RV.step s3 _ _ t)⟩
   .exact n.elim
  refine⟨fu,_,_,_,O,?_,gv XG y,y⟩;dsimp only;rw[XW T];exact(cb (fE I _ _) (F2.cons t (.UM E)) (.UM m)).TR
 .exact p2.elim
def GB(CX:Yc)(Wf:XK->XQ)(X:Cx)(L:List Fn)(d k:Nat)(m:Str)(np:Nat)(kw:List Str)(tb:List (Nat×Nat×List (Nat ⊕ U))):Prop:=∀c i pm,tb.lookup c=some (i,pm) ->∃C f fd F nd ZH dd,nsIn X.K mainGlobals (Ag c)=some (some (.ref C))/\YN X.K C/\V2 X.K C m f/\X8 X.K fd F nd ZH dd/\F.ns++F.ks≠[] /\
 Bv F nd (np+1) kw=true/\pm=AU F (np+1) kw/\Zb X.prog X.w X.K X.mg X.base CX k f fd (F.ns++F.ks) (Vg X.K Wf L d i (F.ns++F.ks).length) /\∀a,L[i]?=some a->a.np=(F.ns++F.ks).length
def kU{o:Expr}(ho:PE X o (tE X.K W0 (r.ev o')))(hj:j<Bc)(hm:Ag j=m){Wf:XK->XQ}{E0:XK}(hx:AA CX X E0)(hM:GB CX Wf X L d k m ZI.length (Aw kws) tb)(Y8:kwOk kws=true)(W7:ZI.length=es.length)(WS:YJ.length=kws.length)(hr:Zy k X.A)
  (ha:PA X es (X9 X.K W0 (JL r.ev ZI))) (hka:PK X kws (X9 X.K W0 (JL r.ev YJ))) (ZL:es.any isStar=false)
  (ht:eval (.Call (.Attribute o m apos) es kws pos) X.env=(do
   let ov<-eval o X.env
   standAt apos.atName
   let(f,first)<-holding [ov] (getMethod ov m pl)
   callWith pos f first (backTo pos (starEach es X.env)) (backToKw pos (keywordEach kws X.env)))) :
  PE X (.Call (.Attribute o m apos) es kws pos) (tE X.K (Wf E0) (JP (Aa L fu d) r (.Xx o' j tb ZI YJ))):=by
 let⟨k1,k2,k3⟩:=dF (pos:=pos) (env:=X.env) Y8;refine(t6 ho hr hx ha (λe Z H Q ⟨Z2,J,g,hs,hg,p⟩=>by subst e;cases ZI with|nil=>exact post.Zk (R:=RVs X.K) (u:=[]) p hg rfl|cons=>cases W7) hka k1 k2 ZL k3 ht).imp λZ H Q hp=>acQ hp λZ2 J H g u x hs hg r1 p=>?_
 cases ei:AD u g with
 |none=>rw[ei]at p;exact p.elim
 |some q=>
  rw[ei]at p;simp![Se]at p;let⟨n,rfl,eg⟩:=cf ei;let⟨a,C,dx,fs,c1,c2,c3,c4⟩:=hg.ins eg;let⟨a',rfl,z⟩:=r1;rw[c1]at z;cases z;unfold Bw at p;rcases c4.look hj with⟨l1,l2⟩|⟨u,v,l1,_,_⟩
  .rw [l1]at p
   dsimp only at p;cases et:tb.lookup q.1 with
   |none=>rw[et]at p;exact p.elim
   |some ip=>
    let⟨i,pm⟩:=ip;rw[et]at p;dsimp only at p;let⟨C',f,fd,F,nd,ZH,dd,m1,m2,m3,KO,Zi,X_,rfl,Z6,XG⟩:=hM q.1 i pm et;rw[c3]at m1;cases m1;refine⟨a,C,dx,fs,f,fd,_,_,_,_,rfl,c2,by rw[<-hm];exact l2,m2,m3,Z6,KO.binds X_ Zi,Z2,J,g,hs,hg,(bD (R:=RVs X.K) p).mono λvs H1 ⟨ZS,M,g1,s1,h1,rs,p1⟩=>?_⟩
    refine⟨Z2,ZS,g1,hs.step s1,h1,(bD (R:=RVs X.K) p1).mono λzs H2 ⟨Zr,ws,g2,s2,h2,rz,p2⟩=>?_⟩;split at p2
    .rename_i hc
     let⟨c1',VN⟩:=hc;have VN:ws.length=(Aw kws).length:=by rw[VN,WS,fF Y8]
     have WR:=RVs.step s2 _ _ rs;have rx:RV X.K Zr H2 (.ref n) (.ref a):=⟨a,rfl,s2.ext _ _ (s1.ext _ _ c1)⟩;have hv:(V.ref a::vs).length=ZI.length+1/\zs.length=(Aw kws).length:=⟨by rw[Wa,<-WR.length,c1'],by rw[<-rz.length];exact VN⟩
     have e1:(U.ref n::M).length=ZI.length+1:=by rw[Wa,c1']
     rw[show(U.ref n::M++ws)=(U.ref n::M)++ws from rfl,eI (M:=U.ref n::M) e1 VN]at p2;refine⟨fu,Zr,g2,_,h2,?_,gv XG p2,p2⟩
     try dsimp only
     rw[XW hv];exact(cb (fE KO _ _) (F2.cons rx (.UM WR)) (.UM rz)).TR
    .exact p2.elim
  .rw [l1]at p;exact p.elim
def CO(K:Frag)(f:Str)(a:List Nat):Prop:=∀c,a.contains c=true ->∃C,nsIn K mainGlobals (Ag c)=some (some (.ref C))/\YN K C/\NoAttr K C f
def y4{h:List Nat}(A:PE X e (tE X.K W (r.ev e')))(D:attributeBase e m X.env (eval e X.env)=eval e X.env)(y:j<Bc)(t:Ag j=m)(E:CO X.K m h):PE X (.Attribute e m pos) (tE X.K W (JP C r (.fld e' j h))):=by
 refine(zg A D).imp λZ H Q s=>one s λO J H g u x hs d k p=>?_;let⟨w,b,l⟩:=post.lift p;clear p;cases c:AD u g with
 |none=>rw[c]at b;cases b
 |some q=>
  rw[c]at b;simp![Se,BM]at b;split at b
  .rename_i B
   let⟨n,rfl,F⟩:=cf c;let⟨a,C,dx,fs,N,M,L,I⟩:=d.ins F;let⟨a',rfl,z⟩:=k;rw[N]at z;cases z;let⟨C',f,Kx,G⟩:=E q.1 B;rw[L]at f;cases f;rcases I.look y with⟨l1,_⟩|⟨u,v,l1,o,i⟩
   .rw [l1]at b;cases b
   .rw [l1]at b;cases b
    exact⟨a,C,dx,fs,v,rfl,M,Kx,G,by rw[<-t];exact o,post.Zk l d i⟩
  .cases b
def ki{o:Expr}{i:List Nat}{d:Pos}(I:PE X o (tE X.K W (r.ev o')))(O:PE X e (tE X.K W (r.ev e')))(f:swapsWith e (some (.Attribute o m d)) pos.line X.env=pure false)(M:j<Bc)(L:Ag j=m)(P:CO X.K m i):PS X (.Assign [.Attribute o m d] e pos) (ZF X.K W (JR r (.fset o' j i e'))):=by
 refine(zl I O f).imp ?_;rintro D Z H ⟨B,J,g,f,N,p⟩;refine⟨B,J,g,f,N,(JX.bind (R:=RV X.K) p).mono λy H1 ⟨T,u,g1,s1,h1,E,G⟩=>?_⟩;refine⟨B,T,g1,f.step s1,h1,(JX.bind (R:=RV X.K) G).mono λx H2 ⟨q,w,g2,s2,h2,F,p2⟩=>?_⟩;have h:=RV.step s2 _ _ E;cases b:Bb w j i u g2 with
 |none=>rw[b]at p2;exact p2.elim
 |some g'=>
  rw[b]at p2;unfold Bb at b;split at b
  .split at b
   .rename_i n c fs Q
    split at b
    .rename_i s
     cases b;let⟨a,C,dx,Vv,l,k,A,v⟩:=h2.ins Q;let⟨a',rfl,z⟩:=F;rw[l]at z;cases z;let⟨C',t,Kx,S⟩:=P c s.1;rw[A]at t;cases t;refine⟨a,C,dx,Vv,rfl,k,Kx,S,by rw[<-v.length];exact s.2,?_⟩
     have st:ZN X.K q H2 q (upd H2 a (.ins C dx (Az m y Vv))):=ZN.XI l k trivial;refine p2 Z q _ st (h2.XI l k trivial ⟨C,dx,_,rfl,A,?_⟩) (((f.step s1).step s2).step st);rw[<-L];exact v.put M h
    .cases b
   .cases b
  .cases b
end
def xT(b:es.any isStar=false)(c:kwOk kws=true)(d:es.length+kws.length+1<30):methodCallForm (es.length+kws.length) (backTo pos (starEach es env)) (backToKw pos (keywordEach kws env))=true:=by
 unfold methodCallForm;let⟨k1,_,_⟩:=dF (pos:=pos) (env:=env) c;have h1:(backTo pos (starEach es env)).all (!·.1)=true:=by
  have:=bc (env:=env) (pos:=pos) b;rw[List.any_eq_false]at this;rw[Wn];intro x a;simpa using this x a
 rw[h1,k1,RP,RP,XE];split<;>omega
def iO{o:Expr}{m:Str}{ap cp:Pos}(hb:∀w,attributeBase o m env w=w)(ZL:es.any isStar=false)(Y8:kwOk kws=true)(hn:es.length+kws.length+1<30)(YZ:(ap.endLine==cp.line)=true):
  eval (.Call (.Attribute o m ap) es kws cp) env=(do
   let ov<-eval o env
   standAt ap.atName
   let(f,first)<-holding [ov] (getMethod ov m (do return (<- importBound o env).getD true))
   callWith cp f first (backTo cp (starEach es env)) (backToKw cp (keywordEach kws env))):=by
 have hf:=xT (env:=env) (pos:=cp) ZL Y8 hn;show (do
  let ov<-attributeBase o m env (eval o env)
  standAt ap.atName
  methodCall o m ap cp env ov (es.length+kws.length) (backTo cp (starEach es env)) (backToKw cp (keywordEach kws env)))=_
 rw[hb];unfold methodCall calleeOf methodCallPos;rw[hf];simp![TL,YZ,QX,pure_bind]
def base_of{o:Expr}{m:Str}(h:BX o=false)(w:Sem Value):attributeBase o m env w=w:=by
 cases o with
 |Call f es ks p=>
  cases es with
  |nil=>cases h
  |cons _ _=>cases f<;>rfl
 |_=>rfl
section
variable{Z:L2.St}{E:Value->Shared->Prop}{C dx f:Addr}{fs:List (Str×V)}{b tb:Value}
def Fm(Q:Value->Shared->Prop)(v:Value)(a:Shared):Prop:=∃c:Bool,v=.bool c/\Q (.bool c) a
def mj{Q:Option Value->Shared->Prop}(I:Z4 X Y Z H s)(e:H a=some (.ins C dx fs))(g:findIn X.K (.ref C) "__eq__" = some (some (.ref f)))(d:isFn X.K (.ref f)=true)
  (h:wpAny (model X.prog X.w) A (call (.ref f) [.ref a,b]) (Fm λv=>Q (some v)) E s):wpAny (model X.prog X.w) A (callSpecialIfBound? (.ref a) "__eq__" [b]) Q E s:=by
 let⟨mA,Z6,_⟩:=aT I.ZO e;let⟨od,It,_⟩:=Z6.look;exact ifBound_K I.Zt It g d (Ve h (λv s' ⟨c,ev,q⟩=>by subst ev;exact q) λ_ _ z=>z)
def la{Q:Value->Shared->Prop}(I:Z4 X Y Z H s)(i:A.units<cLine)(e:H a=some (.ins C dx fs))(m:findIn X.K (.ref C) "__eq__" = some (some (.ref f)))(l:isFn X.K (.ref f)=true)(n:Looks (model X.prog X.w) s.heap (typeOf b) tb)(j:notFirst X.K C tb=true)
  (h:wpAny (model X.prog X.w) A (call (.ref f) [.ref a,b]) (Fm Q) E s):wpAny (model X.prog X.w) A (richCompare .Eq (.ref a) b) Q E s:=by
 have o:wpAny (model X.prog X.w) A (tryCompare (.ref a) "__eq__" b) (λr s'=>∃v,r=some v/\Q v s') E s:=by
  unfold tryCompare;refine ZB (mj I e m l (Ve h (λv s' ⟨c,ev,q⟩=>⟨c,ev,?_⟩) λ_ _ z=>z));exact ZP ⟨_,rfl,q⟩
 let⟨mA,Z6,_⟩:=aT I.ZO e;let⟨od,It,_⟩:=Z6.look;unfold richCompare;simp![oneThing_ref];refine Uu (ZB (QP i (ZB (It.type.here (ZB (n.here ?_))))));have d:∀{k:Option Value->Sem Value},(∀v,k (some v)=pure v)->wpAny (model X.prog X.w) A (tryCompare (.ref a) "__eq__" b >>= k) Q E s:=λhk=>ZB (Ve o (λr s' ⟨v,p,q⟩=>by subst p;rw[hk];exact ZP q) λ_ _ z=>z)
 split
 .rename_i g
  have sb:subIn X.K tb (.ref C)=some false:=(Bool.or_eq_true_iff.mp j).elim (λz=>by rw[W6.mp z]at g;simp at g) λz=>W6.mp z
  refine ZB ((looks_subIn I.Zt sb).here ?_);simp![Vj,Td];exact d λv=>rfl
 .refine ZB (ZP ?_);simp![Vj,Td];exact d λv=>rfl
def acu{Q:Option Value->Shared->Prop}(I:Z4 X Y Z H s)(g:A.units+1<cLine)(e:H a=some (.ins C dx fs))(k:findIn X.K (.ref C) "__eq__" = some (some (.ref f)))(j:isFn X.K (.ref f)=true)(m:findIn X.K (.ref C) "__ne__" = some (some (.builtin "object.__ne__")))(i:mroIn X.K C (.type "object")=some true)
  (h:wpAny (model X.prog X.w) A.in1 (call (.ref f) [.ref a,b]) (λv s'=>∃c:Bool,v=.bool c/\Q (some (.bool (!c))) s') E s):wpAny (model X.prog X.w) A (tryCompare (.ref a) "__ne__" b) Q E s:=by
 let⟨mA,Z6,_⟩:=aT I.ZO e;let⟨od,It,_⟩:=Z6.look;have body:wpAny (model X.prog X.w) A (call (.builtin "object.__ne__") [.ref a,b]) (λv s'=>∃c:Bool,v=.bool (!c)/\Q (some (.bool (!c))) s') E s:=by
  refine S4 (Sy F.slot_zip_ne.plain F.cmpEntry_ne (check_slot F.cmpKind_ne F.cmpSplit_ne (It.type.andThen (QQ I.Zt i)) (F.cmpArgs_ne _ _) ?_));unfold Builtin.«object.__ne__»;refine ZB (ZP ?_);refine ZB (QP g (ZB (mj I e k j (Ve h (λv s' ⟨c,ev,q⟩=>⟨c,ev,?_⟩) λ_ _ z=>z))));exact ZB (TF (ZP ⟨c,rfl,q⟩))
 have d:wpAny (model X.prog X.w) A (call (.builtin "object.__ne__") ([.ref a]++[b]) >>= λv=>pure (some v)) (λr s'=>∃c:Bool,r=some (.bool (!c))/\Q (some (.bool (!c))) s') E s:=ZB (Ve body (λv s' ⟨c,ev,q⟩=>by subst ev;exact ZP ⟨c,rfl,q⟩) λ_ _ z=>z)
 unfold tryCompare;refine ZB (Ve (Q:=λr s'=>∃c:Bool,r=some (.bool (!c))/\Q (some (.bool (!c))) s') ?_ (λr s' ⟨c,l,q⟩=>by subst l;exact ZP q) λ_ _ z=>z)
 simp![callSpecialIfBound?,bindSpecialIfBound?];refine Uu (ZB (ZB (ZB (It.type.here ((R9 I.Zt m).here (ZB (wpAny_askSetting (wpAny_ite ?_))))))));split
 .refine ZB ?_;rw[F.slot_zip_ne.bind];exact ZP (ZP d)
 .refine wpAny_tryCatch (ZB ?_);rw[F.slot_zip_ne.bind];exact ZP (ZP d)
def vk{Q:Value->Shared->Prop}(I:Z4 X Y Z H s)(i:A.units+1<cLine)(e:H a=some (.ins C dx fs))(n:findIn X.K (.ref C) "__eq__" = some (some (.ref f)))(m:isFn X.K (.ref f)=true)(u:findIn X.K (.ref C) "__ne__" = some (some (.builtin "object.__ne__")))(j:mroIn X.K C (.type "object")=some true)(o:Looks (model X.prog X.w) s.heap (typeOf b) tb)(l:notFirst X.K C tb=true)
  (h:wpAny (model X.prog X.w) A.in1 (call (.ref f) [.ref a,b]) (λv s'=>∃c:Bool,v=.bool c/\Q (.bool (!c)) s') E s):wpAny (model X.prog X.w) A (richCompare .NotEq (.ref a) b) Q E s:=by
 have p:wpAny (model X.prog X.w) A (tryCompare (.ref a) "__ne__" b) (λr s'=>∃v,r=some v/\Q v s') E s:=acu I i e n m u j (Ve h (λv s' ⟨c,ev,q⟩=>⟨c,ev,_,rfl,q⟩) λ_ _ z=>z);let⟨mA,Z6,_⟩:=aT I.ZO e;let⟨od,It,_⟩:=Z6.look;unfold richCompare;simp![oneThing_ref];refine Uu (ZB (QP (Nat.lt_of_succ_lt i) (ZB (It.type.here (ZB (o.here ?_))))));have d:∀{k:Option Value->Sem Value},(∀v,k (some v)=pure v)->wpAny (model X.prog X.w) A (tryCompare (.ref a) "__ne__" b >>= k) Q E s:=λhk=>ZB (Ve p (λr s' ⟨v,t,q⟩=>by subst t;rw[hk];exact ZP q) λ_ _ z=>z)
 split
 .rename_i g
  have sb:subIn X.K tb (.ref C)=some false:=(Bool.or_eq_true_iff.mp l).elim (λz=>by rw[W6.mp z]at g;simp at g) λz=>W6.mp z
  refine ZB ((looks_subIn I.Zt sb).here ?_);simp![Vj,Td];exact d λv=>rfl
 .refine ZB (ZP ?_);simp![Vj,Td];exact d λv=>rfl
def y8{Q:Value->Shared->Prop}{x l:Addr}{sl:Array (Option Value)}(hl:s.heap.get? l=some {cls:=.type "list",dict:=dd,data:=.seq #[.ref a] n,slots:=sl})(Zi:a≠x)
  (h:wpAny (model X.prog X.w) A.in1 (richCompare .Eq (.ref a) (.ref x)) (λv s'=>v=.bool true/\Q (.bool true) s') E s):wpAny (model X.prog X.w) A (compareOp .In (.ref x) (.ref l)) Q E s:=by
 have hT:s.TypeIs (.ref l) "list":=⟨_,hl,rfl⟩;show wpAny _ A (do return .bool (<- contains (.ref l) (.ref x))) Q E s
 refine ZB (wpAny_contains_slot hT F.slot_list_contains (Ve (Q:=λv s'=>v=.bool true/\Q (.bool true) s') (S4 (Sy F.slot_list_contains.plain F.entry_list_contains (F.slot_list_contains.check _ _ _ _ _ _ _ _ hT (F.args_list_contains_2 _ _) ?_))) (λv s' ⟨ev,q⟩=>?_) λ_ _ z=>z))
 .unfold Builtin.«list.__contains__»
  refine ZB (ZP (ZP ⟨plainId_quiet R1 _,codeAny_builtin MeetsSeq.entry_contains_loop ?_⟩));rw[Around.under_plainId R1 _];show wpAny _ A.in1 (Builtin.List.listItems (.ref l) >>= _) _ _ s;unfold Builtin.List.listItems;refine ZB (ZB (wpAny_seqItems hl rfl (ZP ?_)));show wpAny _ A.in1 (eqBool (.ref a) (.ref x) >>= _) _ _ s;refine ZB ?_;unfold eqBool;refine Uu (wpAny_ite_split (λz=>absurd (Value.ref.inj (eq_of_beq z)) Zi) λ_=>ZB (Ve h (λv s' ⟨ev,q⟩=>?_) λ_ _ z=>z));subst ev;refine TF ?_;rw[XW rfl];exact ZP ⟨rfl,q⟩
 .subst ev;exact TF (ZP q)
end
def fV{K:Frag}{C:Addr}{T:String}{l:List Value}(h:fastBuiltinMro T=some l)(n:l.contains (.ref C)=false):subIn K (.type T) (.ref C)=some false:=by
 show(fastBuiltinMro T).map (·.contains (.ref C))=_;rw[h,Vw,n]
def mro_list:fastBuiltinMro "list" = some [.type "list",.type "object"]:=by kernel_rfl
def mro_none:fastBuiltinMro "NoneType" = some [.type "NoneType",.type "object"]:=by kernel_rfl
def kit_no{K:Frag}{C:Addr}{T:String}{l:List Value}(o:Wj K C)(h:fastBuiltinMro T=some l)(n:l.contains (.ref C)=false):kitOne K (.type T) (.ref C)=some false:=by
 unfold kitOne kitCls;rw[WV #[3]]
 simp![o.ci,o.ty,BEq.rfl,QT,TL];exact fV h n
section
variable{Z:L2.St}{C:Addr}{x:V}{v:Value}{c:Nat}{k:Bool}{Q:VK}
def yt(D:YN X.K C)(o:Wj X.K C)(B:nsIn X.K mainGlobals (Ag c)=some (some (.ref C)))(I:L2.Z4 X Y Z H s)(y:RH X.K J H g)(r:RV X.K J H u x)(j:RelV x v)(e:Au (.own c) u g=some k)(q:Q (.bl k) H):
  wpAny (model X.prog X.w) X.A (call (.builtin "isinstance") [v,.ref C]) (EP X Y Z Q) X.xe s:=by
 have d:∀tk,EP X Y Z Q (.bool k) {s with toks:=tk}:=λtk=>⟨.bl k,H,I.tok tk,rfl,q⟩
 cases u with
 |ZR=>cases r;cases j;cases e;exact kia_one kitx_none I.Zt True.intro (kit_no o mro_none #[3]) (λz=>nomatch z) d
 |ref n=>
  let⟨p,rfl,t⟩:=r;cases j;simp![Au]at e;cases eg:g[n]? with
  |none=>rw[eg]at e;cases e
  |some ob=>
   rw[eg]at e;cases ob with
   |S M=>
    let⟨P,vs,f,F,O⟩:=y.S eg;rw[t]at f;cases f;cases e;let⟨ZY,_,⟨ob,m,h1,h2,_⟩,_⟩:=I.list (.of F);exact kia_one kitx_list I.Zt ⟨ob,h1,h2⟩ (kit_no o mro_list #[3]) (λz=>nomatch z) d
   |ins c' fs=>
    simp only at e;split at e
    .rename_i N
     subst N;cases e;let⟨a,C',dx,Vv,E,L,G,R⟩:=y.ins eg;rw[t]at E;cases E;rw[G]at B;cases B;let⟨mA,Z6,_⟩:=aT I.ZO L;let⟨od,It,_⟩:=Z6.look;exact kia_one (kitx_own (D.get _) D.hd o.ca o.sg o.tk o.ob) I.Zt It (by simp[kitOne]) (λz=>nomatch z) d
    .cases e
   |_=>cases e
 |_=>cases e
def yb{T:Nat->List U->G->Out U}{W:XQ}{a:Expr}{t:Str}{B:Pos}(O:YN X.K C)(o:Wj X.K C)(N:nsIn X.K mainGlobals (Ag c)=some (some (.ref C)))(S:Gl X t)(R:X.mg t=some (.ref C))(P:(t==("__debug__" : Str))=false)
  (d:Gl X "isinstance") (E:X.mg "isinstance" = none) (L:PE X a (tE X.K W (r.ev a'))) (y:∀es,starEach (a::es) X.env=(false,eval a X.env)::starEach es X.env) :
  PE X (.Call (.Name "isinstance" B) [a,.Name t p2] [] pos) (tE X.K W (JP T r (.Y1 a' (.own c)))):=by
 have F:CallR X (.builtin "isinstance") (λxs H Q=>∃x J g u k,xs=[x,.ref C]/\RH X.K J H g/\RV X.K J H u x/\Au (.own c) u g=some k/\Q (.bl k) H):=by
  intro Y s Z H xs M Q I f ⟨x,J,g,u,k,e,d,w,j,q⟩;subst e;cases f with
  |cons A f=>
   cases f with
   |cons z f=>
    cases f;cases z;exact yt O o N I d w A j q
 refine(pe_callB F d E #[2] (ak L (ak (ff (v:=.ref C) S R rfl P) aJ rfl) (y _)) #[1] #[1] (y _) rfl).imp λZ H Q D=>?_
 refine one D λV J H g u x y d w p=>?_;cases j:Au (.own c) u g with
 |none=>simp![j]at p;exact p.elim
 |some k=>simp![j]at p;exact⟨x,J,g,u,k,rfl,d,w,j,okE p d rfl⟩
end
section
variable{Z:L2.St}{L:List Fn}{k:Nat}{f:Addr}{F:KF}{nd:Nat}{dd:List (Str×Value)}
def wx{b:List Value->List Value->List Value}{Q:VK}{M:List Value}(g:Zb X.prog X.w X.K X.mg X.base X1 k f fd ps sp)(i:Zy k A)(l:Xr X.prog X.w X.K X.mg X.base A X.stack s H)(d:Vp X.K fd ps [] b gV)
  (I:Z4 X Y Z H s) (r:ZM vs M) (h:sp (gV vs []) H Q E0):wpAny (model X.prog X.w) A (call (.ref f) M) (EP X Y Z Q) Ex s:=by
 have c:=d.rel (zs:=[]) (ws:=[]) r .nil;have j:(b M []).length=ps.length:=by rw[<-c.length];exact g.len _ _ _ _ h
 refine S4 (Sx (g.run A X.stack s H ⟨M,[]⟩ (b M []) (gV vs []) Q E0 i l (d.to s M [] I.Zt j) c h) λr s' a=>?_);cases r with
 |error e=>exact False.elim a
 |ok fl=>cases fl<;>first|exact I.after a|exact False.elim a
def xO{c:Nat}{C:Addr}{w:U}{u:Value}(k:RH X.K J H g)(I:Z4 X Y Z H s)(o:nsIn X.K mainGlobals (Ag c)=some (some (.ref C)))(r:RV X.K J H w y)(f:RelV y u)(e:EF c w g=true):∃tb,Looks (model X.prog X.w) s.heap (typeOf u) tb/\notFirst X.K C tb=true:=by
 cases w with
 |ZR=>cases r;cases f;exact⟨.type "NoneType",Looks.of_pure rfl,by unfold notFirst;rw[fV mro_none #[3]];simp⟩
 |ref m=>
  let⟨p,rfl,j⟩:=r;cases f;simp![EF]at e;cases eg:g[m]? with
  |none=>rw[eg]at e;cases e
  |some ob=>
   rw[eg]at e;cases ob with
   |S M=>
    let⟨F,vs,d,z,E⟩:=k.S eg;rw[j]at d;cases d;let⟨ZY,_,⟨ob,m,h1,h2,_⟩,_⟩:=I.list (.of z);exact⟨.type "list",kitAt_ty _ _ ⟨ob,h1,h2⟩,by unfold notFirst;rw[fV mro_list #[3]];simp⟩
   |ins c' fs=>
    have D:c'=c:=eq_of_beq e;subst D;let⟨a,C',dx,Vv,t,B,A,G⟩:=k.ins eg;rw[j]at t;cases t;rw[A]at o;cases o;let⟨mA,Z6,_⟩:=aT I.ZO B;let⟨od,It,_⟩:=Z6.look;exact⟨.ref C,It.type,by unfold notFirst;simp⟩
   |_=>cases e
 |_=>cases e
def Cg(X:Cx)(L:List Fn)(d k:Nat)(tb:List (Nat×Nat×List (Nat ⊕ U))):Prop:=GB X1 (λ_=>W0) X L d k "__eq__" 1 [] tb /\∀c i pm C,tb.lookup c=some (i,pm)->nsIn X.K mainGlobals (Ag c)=some (some (.ref C))->Wj X.K C
def ft{K:Frag}{c:Bool}(h:BW u=some c)(r:RV K J H u v):v=.bl c:=by
 cases u<;>first|(cases h;done)|(cases h;exact r)
def fD{m w:U}{p:Nat×List (Nat ⊕ U)}{x:V}{v u:Value}{Q:V->Hp->Prop}(G:Cg X L d k tb)(R:Zy k A)(W:Xr X.prog X.w X.K X.mg X.base A X.stack s H)(I:Z4 X Y Z H s)(i:RH X.K J H g)(B:RV X.K J H m x)(t:RV X.K J H w y)(N:RelV x v)(r:RelV y u)(l:A0 tb m w g=some p)
  (h:post X.K W0 (RV X.K) (Aa L fu d p.1 (perm [m,w] p.2) g) J H Q):∃a C dx fs f c,v=.ref a/\H a=some (.ins C dx fs)/\findIn X.K (.ref C) "__eq__" = some (some (.ref f))/\isFn X.K (.ref f)=true/\Wj X.K C/\Looks (model X.prog X.w) s.heap (typeOf u) c/\notFirst X.K C c=true/\wpAny (model X.prog X.w) A (call (.ref f) [v,u]) (EP X Y Z Q) Ex s:=by
 unfold A0 at l;let⟨q,S,b⟩:=WQ.mp l;clear l;split at b
 .rename_i P
  let⟨n,rfl,T⟩:=cf S;let⟨a,C,dx,fs,c1,c2,o,c4⟩:=i.ins T;have e:=B;let⟨a',rfl,z⟩:=B;rw[c1]at z;cases z;obtain rfl:v=Value.ref a:=N;let⟨j,pm⟩:=p;let⟨C',f,fd,F,nd,ZH,dd,m1,m2,E,M,Zi,X_,rfl,Z6,XG⟩:=G.1 q.1 j pm b;rw[o]at m1;cases m1;let⟨c,l1,O⟩:=xO i I o t r P;refine⟨a,C,dx,fs,f,c,rfl,c2,E.at_,E.fn,G.2 _ _ _ _ b o,l1,O,wx (vs:=[.ref a,y]) Z6 R W (M.binds X_ Zi) I (.cons rfl (.cons r .nil)) ?_⟩;have D:perm ([U.ref n,w]++[]) (AU F 2 [])=place F.ns F.ks [] F.dd [U.ref n,w] []:=eI rfl rfl;rw[TJ]at D;rw[D]at h;refine⟨fu,J,g,_,i,?_,gv XG h,h⟩;rw[XW ⟨rfl,rfl⟩];exact(cb (fE M _ _) (F2.cons e (F2.cons t F2.nil)) F2.nil).TR
 .cases b
def BS(X:Cx)(L:List Fn)(fu d:Nat)(a:Cp)(tb:List (Nat×Nat×List (Nat ⊕ U))):R2:=λx y H Q=>∃J g m w,RH X.K J H g/\RV X.K J H m x/\RV X.K J H w y/\post X.K W0 (RV X.K) (AI (Aa L fu d) a tb m w g) J H Q
def vU(E:Cg X L d k tb)(B:Zy k X.A)(V:X.A.units+2<cLine):OpR X (compareOp .Eq) (BS X L fu d .eq tb):=by
 intro Y s Z H x y v u Q I i h ⟨J,g,m,w,D,n,l,p⟩;simp![AI]at p;cases e:A0 tb m w g with
 |none=>rw[e]at p;exact p.elim
 |some U=>
  rw[e]at p;let⟨a,C,dx,fs,f,VM,rfl,O,N,M,o,l1,t,run⟩:=fD (Ex:=X.xe) E B I.V1 I D n l i h e (post.bind (R:=RV X.K) p);refine la I () O N M l1 t (Ve run (λz s' ⟨S,H1,P,rz,W,T,g1,s1,h1,j,r⟩=>?_) λ_ _ q=>q)
  let⟨b,G,p2⟩:=post.lift r;let⟨c,F,rfl⟩:=Yn.mp G;cases ft F j;exact⟨c,rz,.bl c,H1,P,rfl,post.Zk p2 h1 rfl⟩
def vn(E:Cg X L d k tb)(B:Zy k X.A.in1)(V:X.A.units+2<cLine):OpR X (compareOp .NotEq) (BS X L fu d .ne tb):=by
 intro Y s Z H x y v u Q I i h ⟨J,g,m,w,D,n,l,p⟩;simp![AI]at p;cases e:A0 tb m w g with
 |none=>rw[e]at p;exact p.elim
 |some U=>
  rw[e]at p;let⟨a,C,dx,fs,f,VM,rfl,O,N,M,o,l1,t,run⟩:=fD (Ex:=X.xe) E B I.V1.in1 I D n l i h e (post.bind (R:=RV X.K) p);refine vk I () O N M o.ne o.ob l1 t (Ve run (λz s' ⟨S,H1,P,rz,W,T,g1,s1,h1,j,r⟩=>?_) λ_ _ q=>q)
  let⟨b,G,p2⟩:=post.lift r;let⟨c,F,rfl⟩:=Yn.mp G;cases ft F j;exact⟨c,rz,.bl (!c),H1,P,rfl,post.Zk p2 h1 rfl⟩
def wK{y:U}{w:U}(h:CM y g=some w):∃n,y=.ref n/\g[n]?=some (.S [w]):=by
 unfold CM at h;split at h
 .split at h
  .rename_i e;split at h
   .cases h;exact⟨_,rfl,e⟩
   .cases h
  .cases h
 .cases h
def vg(hM:Cg X L d k tb)(hr:Zy k X.A.in1)(hu:X.A.units+2<cLine):OpR X (compareOp .In) (BS X L fu d .W2 tb):=by
 intro Y s Z H x y v u Q I B U ⟨J,g,m,w,i,E,r2,p⟩;simp![AI]at p;cases es:CM w g with
 |none=>rw[es]at p;exact p.elim
 |some N=>
  rw[es]at p;simp only at p;split at p
  .rename_i j
   rw[Zc,W4]at j;cases e:A0 tb N m g with
   |none=>rw[e]at p;exact p.elim
   |some ip=>
    rw[e]at p;let⟨n,rfl,eg⟩:=wK es;let⟨l,vs,rfl,hn,T,P⟩:=aV i r2 eg;obtain rfl:u=Value.ref l:=U;let⟨y1,ys,rfl,F,q2⟩:=P;cases q2;let⟨ZY,nn,V,ho,hz⟩:=I.S T;cases V with
    |cons D rr=>
     cases rr;let⟨a,C,dx,fs,f,VM,rfl,e1,e2,e3,o,l1,l2,run⟩:=fD (Ex:=X.xe) hM hr I.V1.in1 I i F E D B e (post.bind (R:=RV X.K) p);let⟨qm,em⟩:=Tt.mp j.1;let⟨xn,rfl,exg⟩:=cf em;let⟨t,rfl,h⟩:=E;obtain rfl:v=Value.ref t:=B;have ne:a≠t:=λz=>by
      subst z;unfold A0 at e;let⟨qw,ew,_⟩:=WQ.mp e;let⟨wn,rfl,ewg⟩:=cf ew;let⟨a',M,G⟩:=F;subst M;obtain rfl:a=a':=Value.ref.inj D;have:=j.2;rw[i.inj _ _ _ G h]at this;simp[Fg]at this
     refine y8 ho ne (la I (by show X.A.units+1<cLine;omega) e1 e2 e3 l1 l2 (Ve run (λz s' ⟨z',H1,I1,rz,ZS,O,g1,s1,h1,W,b⟩=>?_) λ_ _ q=>q))
     cases r:BW O with
     |none=>rw[r]at b;exact b.elim
     |some c=>
      rw[r]at b;cases c with
      |false=>exact b.elim
      |true=>
       cases ft r W;exact⟨true,rz,rfl,.bl true,H1,I1,rfl,post.Zk b h1 rfl⟩
  .exact p.elim
variable{a b:Expr}{b':E}
def yB{o:CmpOp}(h:OpR X (compareOp o) (BS X L fu d op tb))(i:behindInMarks o b=false)(l:PE X a (tE X.K W0 (r.ev a')))(k:PE X b (tE X.K W0 (r.ev b'))):PE X (.Compare a [o] [b] pos) (tE X.K W0 (JP (Aa L fu d) r (.VB op tb a' b'))):=
 (ky h l k i).imp λZ H Q f=>two f λm J H g u w x y hs j e c p=>⟨J,g,u,w,j,e,c,p⟩
def GX(a:Cp)(o:CmpOp):Prop:=(a=.eq/\o = .Eq)\/(a=.ne/\o = .NotEq)\/(a=.W2/\o = .In)
def aaX{o:CmpOp}(h:GX op o)(c:Cg X L d k tb)(a:Zy (k+1) X.A):OpR X (compareOp o) (BS X L fu d op tb):=by
 have b:X.A.units+2<cLine:=by have:=a.un;omega
 rcases h with⟨rfl,rfl⟩|⟨rfl,rfl⟩|⟨rfl,rfl⟩
 .exact vU c (a.mono (U2 _)) b
 .exact vn c a.in1 b
 .exact vg c a.in1 b
def tY{b:Nat->List U->G->Out U}{x y:U}{g':G}(h:AI b op tb x y g=.ok u g'):∃c,u=.bl c:=by
 have a:∀{o:Out U} {f:Bool->U},(∀c,∃c',f c=.bl c')->(o.bind λu g=>lift ((BW u).map f) g)=.ok u g' ->∃c,u=.bl c:=λ{o f} hf h=>by
  cases o with
  |ok z g1=>
   simp![Out.bind]at h;cases e:BW z with
   |none=>rw[e]at h;cases h
   |some c=>rw[e]at h;cases h;exact hf c
  |_=>cases h
 cases op with
 |eq=>
  simp![AI]at h;split at h
  .exact a (λc=>⟨c,rfl⟩) h
  .cases h
 |ne=>
  simp![AI]at h;split at h
  .exact a (λc=>⟨!c,rfl⟩) h
  .cases h
 |W2=>
  simp![AI]at h;split at h
  .split at h
   .split at h
    .rename_i p _
     revert h;generalize b _ _ _=o;intro h;cases o with
     |ok z g1=>
      simp![Out.bind]at h;split at h
      .cases h;exact⟨true,rfl⟩
      .cases h
     |_=>cases h
    .cases h
   .cases h
  .cases h
 |_=>cases h
def yI{o:CmpOp}(n:OpR X (compareOp o) (BS X L fu d op tb))(q:behindInMarks o b=false)(t:PE X a (tE X.K W0 (r.ev a')))(s:PE X b (tE X.K W0 (r.ev b'))):PT X (.Compare a [o] [b] pos) (tT X.K W0 (λZ g=>(JP (Aa L fu d) r (.VB op tb a' b') Z g).bind λx g=>lift (JF x g) g)):=by
 refine(j5 n t s q).imp λZ H Q m=>?_;have A:tR X.K W0 YI (λe g=>(r.ev a' e g).bind λx g=>(r.ev b' e g).bind λy g=>(AI (Aa L fu d) op tb x y g).bind λz g=>lift (JF z g) g) Z H Q:=by
  let⟨e,J,g,hs,h,p⟩:=m;refine⟨e,J,g,hs,h,?_⟩
  delta JP at p;dsimp only at p
  revert p;cases r.ev a' e g with
  |ok x g1=>simp![Out.bind];cases r.ev b' e g1<;>exactλp=>p
  |_=>exactλp=>p
 refine two (R:=YI) A λe J H g u w x y hs h l k p=>⟨J,g,u,w,h,l,k,?_⟩;cases f:AI (Aa L fu d) op tb u w g with
 |ok z g1=>
  rw[f]at p;let⟨c,rfl⟩:=tY f;intro v ZU H' st j i;cases i;exact⟨c,rfl,p c ZU H' st j rfl⟩
 |exc _ _ _=>rw[f]at p;exact p
 |Z1=>rw[f]at p;exact p
end
open PySem PySem.Spec PyProof.Rows L2
structure Zq(T:Tab)(L:List Fn)(d:Nat)(X:Cx)(sc:Scope)(N:List Str):Prop where
 hF:∀(i:Nat) (x:Str),T.L[i]?=some x->(x==("__debug__" : Str))=false ->∃f fd ps,X.mg x=some (.ref f)/\PySem.W.keepIn X.K (.ref f)=true/\Binds X.K fd ps []/\Zb X.prog X.w X.K X.mg X.base X1 (2*d+2) f fd ps (Wk X.K L d i ps.length) /\∀F,L[i]?=some F->F.np=ps.length
 cs:∀x u,T.cs.lookup x=some u ->∃v val,X.mg x=some val/\RelV v val /\∀J H,RV X.K J H u v
 bt:∀x∈T.bt,X.mg x=none
 hK:∀(y:Str) (i:Nat) (F:KF) (nd:Nat),T.kf.lookup y=some (i,F,nd) ->∃f fd ZH dd,X.mg y=some (.ref f)/\PySem.W.keepIn X.K (.ref f)=true/\X8 X.K fd F nd ZH dd/\F.ns++F.ks≠[]/\Zb X.prog X.w X.K X.mg X.base X1 (2*d+2) f fd (F.ns++F.ks) (Wk X.K L d i (F.ns++F.ks).length) /\∀F',L[i]?=some F'->F'.np=(F.ns++F.ks).length
 hC:∀(y:Str) (c i:Nat) (F:KF) (nd:Nat),T.cl.lookup y=some (c,i,F,nd) ->∃C f fd ZH dd,X.mg y=some (.ref C)/\Mk X.K C f/\PySem.W.nsIn X.K mainGlobals (Ag c)=some (some (.ref C))/\X8 X.K fd F nd ZH dd/\F.ns++F.ks≠[]/\Zb X.prog X.w X.K X.mg X.base X1 (2*d+2) f fd (F.ns++F.ks) (Wk X.K L d i (F.ns++F.ks).length) /\∀F',L[i]?=some F'->F'.np=(F.ns++F.ks).length
 hT:∀(m:Str) (l:List (Nat×Nat×KF×Nat)),T.mt.lookup m=some l ->∀c i F nd,(c,i,F,nd)∈l ->∃C f fd ZH dd,PySem.W.nsIn X.K mainGlobals (Ag c)=some (some (.ref C))/\YN X.K C/\V2 X.K C m f/\X8 X.K fd F nd ZH dd/\F.ns++F.ks≠[]/\Zb X.prog X.w X.K X.mg X.base X1 (2*d+2) f fd (F.ns++F.ks) (Wk X.K L d i (F.ns++F.ks).length) /\∀F',L[i]?=some F'->F'.np=(F.ns++F.ks).length
 hA:(∀(f:Str) (cs:List Nat),T.fl.lookup f=some cs->CO X.K f cs) /\∀p∈T.ow,∃C,X.mg p.1=some (.ref C)/\PySem.W.nsIn X.K mainGlobals (Ag p.2)=some (some (.ref C))/\YN X.K C/\Wj X.K C
 room:Zy (2*d+3) X.A
 hN:X.N=N
 Zh:X.env.scope=sc
 nd:N.Nodup
 calm:X.calm=true
 xe:X.xe=λ_ _=>False
def Fc:Expr->Bool
 |.BoolOp ..=>true
 |_=>false
def Good(X:Cx)(C:Nat->List U->G->Out U)(e:Expr)(a:E):Prop:=
 (∀n,PE X e (tE X.K W0 ((JW C n).ev a)))/\(∀n,PT X e (tT X.K W0 ((JW C n).ts a)))/\(Fc e=true ->∀n,PW X e (tT X.K W0 ((JW C n).ts a)))
section
variable{T:Tab}{L:List Fn}
def qN{r:α}{P:Prop}(h:(none:Option α)=some r):P:=by cases h
def qB{o:Option α}{f:α->Option β}{r:β}{P:Prop}(h:o.bind f=some r)(k:∀a,o=some a->f a=some r->P):P:=by
 cases o with
 |none=>cases h
 |some a=>exact k a rfl h
def qM{o:Option α}{f:α->β}{r:β}{P:Prop}(h:o.map f=some r)(k:∀a,o=some a->f a=r->P):P:=by
 cases o with
 |none=>cases h
 |some a=>exact k a rfl (Vm h)
def qI{c:Bool}{x:Option α}{r:α}{P:Prop}(h:Im c x=some r)(k:c=true->x=some r->P):P:=by
 cases c with
 |false=>cases h
 |true=>exact k rfl h
def qE{c:Prop}[Decidable c]{x y:Option α}{r:α}{P:Prop}(h:(if c then x else y)=some r)(k1:c->x=some r->P)(k2:y=some r->P):P:=by
 by_cases a:c
 .rw [XW a]at h;exact k1 a h
 .rw [WV a]at h;exact k2 h
def az{l:List α}(h:AB l=true):l=[]:=by
 cases l with
 |nil=>rfl
 |cons _ _=>cases h
def dG{k:E->E}{r:E}{P:Prop}(h:Ce ce k es=some r)(K:∀a a',es=[a]->ce a=some a'->k a'=r->P):P:=by
 cases es with
 |nil=>cases h
 |cons a es=>cases es with
  |nil=>exact qM h λa' h1 h2=>K a a' rfl h1 h2
  |cons _ _=>cases h
def wJ{k:E->E->E}{r:E}{P:Prop}(h:GW ce k es=some r)(K:∀a b a' b',es=[a,b]->ce a=some a'->ce b=some b'->k a' b'=r->P):P:=by
 cases es with
 |nil=>cases h
 |cons a es=>cases es with
  |nil=>cases h
  |cons b es=>cases es with
   |nil=>exact qB h λa' h1 h=>qM h λb' h2 c=>K a b a' b' rfl h1 h2 c
   |cons _ _=>cases h
def aF(h:(!b)=true):b=false:=by cases b with
 |false=>rfl
 |true=>cases h
def Good.plain(pe:∀n,PE X e (tE X.K W0 (JP C (JW C n) e')))(he:∀whole,isTrue e X.env whole=(do let v<-whole;standAt e.pos;holding [v] (truthy v)))
  (VU:∀r Z g,JQ r e' Z g=(r.ev e' Z g).bind λx g=>lift (JF x g) g) (hb:Fc e=false):Good X C e e':=by
 have pe':∀n,PE X e (tE X.K W0 ((JW C n).ev e')):=λn=>by
  cases n with
  |zero=>exact PE.Z1 λ_ _=>rfl
  |succ n=>exact pe n
 refine⟨pe',λn=>?_,λh=>?_⟩
 .cases n with
  |zero=>exact PT.Z1 λ_ _=>rfl
  |succ n=>
   have:((JW C (n+1)).ts e')=λZ g=>((JW C n).ev e' Z g).bind λx g=>lift (JF x g) g:=by funext Z g;exact VU _ _ _
   rw[this];exact vW (pe' n) he
 .rw [hb]at h;cases h
def aK{f:Expr->Option E}(c:∀e e',f e=some e'->Good X C e e'):∀{es:List Expr} {ZI:List E},es.any isStar=false->Ab (es.map f)=some ZI ->∀n,PA X es (X9 X.K W0 (JL (JW C n).ev ZI))
 |[],_,_,h=>λn=>by cases h;exact yN
 |a::es,ZI,hs,h=>λn=>by
  rw[VJ,Ue]at hs;rw[YG]at h;cases ea:f a with
  |none=>rw[ea]at h;cases h
  |some a'=>
   rw[ea]at h;simp![Ab]at h;cases b:Ab (es.map f)with
   |none=>rw[b]at h;cases h
   |some r'=>
    rw[b]at h;cases h;exact wF ((c a a' ea).1 n) (aK c hs.2 b n) (star_ne hs.1 _)
def cN{f:Expr->Option E}(d:∀e e',f e=some e'->Good X C e e'):∀{kws:List Keyword} {YJ:List E},Ab (kws.map λk=>f k.value)=some YJ ->∀n,PK X kws (X9 X.K W0 (JL (JW C n).ev YJ))
 |[],_,h=>λn=>by cases h;exact zO.imp λZ H Q ⟨i,J,g,hs,b,p⟩=>post.Zk (R:=RVs X.K) (u:=[]) p b rfl
 |⟨nm,a,kp⟩::kws,YJ,h=>λn=>by
  rw[YG]at h;cases ea:f a with
  |none=>rw[ea]at h;cases h
  |some a'=>
   rw[ea]at h;simp![Ab]at h;cases c:Ab (kws.map λk=>f k.value)with
   |none=>rw[c]at h;cases h
   |some r'=>
    rw[c]at h;cases h;refine(xW ((d a a' ea).1 n) (cN d c n)).imp λZ H Q m=>one m λi J H g u x hs b j p=>?_;refine⟨i,J,g,hs,b,(post.bind p).mono λxs H1 ⟨o,M,g1,s1,h1,rs,l⟩=>?_⟩;exact post.Zk (R:=RVs X.K) l h1 ⟨x,xs,rfl,RV.step s1 _ _ j,rs⟩
def xD{o:Operator}{o':Op}(h:EE o=some o'):(o'=.add/\o = .Add)\/(o'=.sub/\o = .Sub)\/(o'=.mul/\o = .Mult)\/(o'=.fdiv/\o = .FloorDiv)\/(o'=.mod/\o = .Mod)\/(o'=.pow/\o = .Pow):=by
 cases o<;>simp![EE,reduceCtorEq,Yo]at h<;>subst h<;>simp
def Zq.Vf(a:Zq T L d X sc N):Zy (2*d+2) X.A:=⟨a.room.hd,by have:=a.room.dp;omega,by have:=a.room.un;omega,a.room.gd⟩
def Zq.units(a:Zq T L d X sc N):X.A.units+2<cLine:=by have:=a.room.units;omega
def bO(a:Zq T L d X sc N){o:CmpOp}{o':Cp}(h:Ca o=some o'):Bm X o' o:=by
 refine abT a.units o' o ?_;cases o<;>simp![Ca,reduceCtorEq,Yo]at h<;>subst h<;>simp
def eY{b:Expr}{o:CmpOp}(h:Cu b=false):behindInMarks o b=false:=by
 cases b<;>first|rfl|cases h
def Zq.gl(a:Zq T L d X sc N)(h:sc.names.lookup x=some .globalImplicit):Gl X x:=by
 show X.env.scope.names.lookup x=_;rw[a.Zh];exact h
def aC(h:AE x=true):(x==("__debug__" : Str))=false/\(x==("__classdict__" : Str))=false/\x ≠ "__name__":=by
 unfold AE at h;simp![Zc,W4]at h;exact⟨h.1.1,h.1.2,λe=>by have:=h.2;rw[e]at this;simp at this⟩
def xy{t:Ty}(h:DH x=some t):x=Str.ofString (tyName t)/\bootBuiltins x=some (.type (tyName t))/\x ≠ "__name__" /\ (x==("__debug__" : Str))=false:=by
 unfold DH at h;split at h
 .rename_i e;cases h;subst e;exact⟨rfl,by rfl,by decide,by decide⟩
 split at h
 .rename_i e;cases h;subst e;exact⟨rfl,by rfl,by decide,by decide⟩
 split at h
 .rename_i e;cases h;subst e;exact⟨rfl,by rfl,by decide,by decide⟩
 split at h
 .rename_i e;cases h;subst e;exact⟨rfl,by rfl,by decide,by decide⟩
 split at h
 .rename_i e;cases h;subst e;exact⟨rfl,by rfl,by decide,by decide⟩
 .cases h
def sW{b:Expr}(h:Cm b=false):DN b:=by
 cases b<;>first|exactλ_ _=>rfl|cases h
section
variable{a:Expr}
def yH{b:Bi}{f:Str}(c:Iq f=some b)(u:X.calm=true)(t:X.A.units+64<cLine)(o:X.A.guards=some [])(j:Gl X f)(g:X.mg f=none)(k:PA X (a::es) (X9 X.K W0 (JL r.ev ZI)))(d:(a::es).any isStar=false):
  PE X (.Call (.Name f p) (a::es) [] pos) (tE X.K W0 (JP C r (.bi b ZI))):=by
 rw[VJ,Ue]at d;have h1:=star_ne (env:=X.env) d.1 es;have h2:=bc (env:=X.env) (pos:=pos) d.2;unfold Iq at c;split at c
 .rename_i e;subst e;cases c;exact se_bi (pe_callB call_len_seq j g PySem.boot_len k #[1] #[1] h1 h2) imp_len
 split at c
 .rename_i e;subst e;cases c;exact se_bi (pe_callB call_abs j g #[2] k #[1] #[1] h1 h2) imp_abs
 split at c
 .rename_i e;subst e;cases c;exact se_bi (pe_callTy call_list_of j g #[2] k #[1] #[1] h1 h2) imp_list
 cases c
end
def aP{d c:Type}{f:d->Option c}:∀{l:List d} {r:List c},Ab (l.map f)=some r->r.length=l.length
 |[],_,h=>by cases h;rfl
 |a::l,r,h=>by
  rw[YG]at h;cases e:f a with
  |none=>rw[e]at h;cases h
  |some b=>
   rw[e]at h;let⟨r',g,rfl⟩:=Yn.mp h;simp[aP g]
def bP{f:Str}(h:BG f=true):Ag (A7 f)=f/\A7 f<Bc:=by
 unfold BG at h;rw[Zc,XE,XE]at h;exact h
def jA(g:Zq T L d X sc N)(s:∀e b,ce e=some b->Good X (Aa L fu d) e b){f:Str}{b:E}(h:CF T sc ce f es kws=some b)(p pos:Pos):Good X (Aa L fu d) (.Call (.Name f p) es kws pos) b:=by
 refine qI h λl h=>qB h λZI r h=>qB h λYJ o h=>?_;simp![Zc,W4,W6]at l;let⟨⟨⟨G,m⟩,D⟩,B⟩:=l;let⟨h1,h2,H⟩:=aC G;have k:=aP r;cases a:T.kf.lookup f with
 |some q=>
  rw[a]at h;exact qN h
 |none=>
  rw[a]at h;refine qB h λq A h=>qI h λj h=>?_;let⟨c,i,F,nd⟩:=q;cases h;let⟨C,I,fd,ZH,dd,z,y,x,w,v,u,t⟩:=g.hC _ _ _ _ _ A;dsimp only at j ⊢;rw[<-k]at j ⊢;exact .plain (λn=>jT y x u d7 t w v j B k (aP o) g.room (g.gl D) z h1 (aK s m r n) (cN s o n) m) (λ_=>rfl) (λ_ _ _=>rfl) rfl
def b8{i g:Type}{f:Nat×i->Nat×g}(j:∀e,(f e).1=e.1){c:Nat}{b:g}:∀{l:List (Nat×i)},(l.map f).lookup c=some b ->∃a,(c,a)∈l/\b=(f (c,a)).2
 |[],h=>by cases h
 |(d,a)::l,h=>by
  rw[YG,show f (d,a)=((f (d,a)).1,(f (d,a)).2)from rfl,Vc,j]at h;cases q:c==d with
  |true=>
   rw[q]at h;cases h;cases eq_of_beq q;exact⟨a,W_,rfl⟩
  |false=>
   rw[q]at h;let⟨a',h1,h2⟩:=b8 j h;exact⟨a',Ig _ h1,h2⟩
def je(j:Zq T L d X sc N)(w:∀e a,ce e=some a->Good X (Aa L fu d) e a){o:Expr}{r q:Pos}(M:BX o=false)(H:Good X (Aa L fu d) o o'){m:Str}{a:E}(h:De T ce o' m r q es kws=some a):Good X (Aa L fu d) (.Call (.Attribute o m r) es kws q) a:=by
 refine qI h λp h=>qB h λZI t h=>qB h λYJ s h=>qB h λl I h=>qI h λO h=>?_;simp![Zc,W4,XE]at p;let⟨⟨⟨⟨P,b⟩,v⟩,R⟩,K⟩:=p;let⟨h1,h2⟩:=bP P;cases h;have g:=aP t;refine .plain (λn=>kU (CX:=X1) (Wf:=λ_=>W0) (E0:=λ_ _ _=>False) (k:=2*d+2) (H.1 n) h2 h1 d7 (λc i pm Q=>?_) v g (aP s) j.Vf (aK w b t n) (cN w s n) b (iO (base_of M) b v R K)) (λ_=>rfl) (λ_ _ _=>rfl) rfl;let⟨⟨S,F,nd⟩,u,J⟩:=b8 (f:=λe:Nat×Nat×KF×Nat=>(e.1,e.2.1,AU e.2.2.1 (es.length+1) (Aw kws))) (λ_=>rfl) Q;cases J;let⟨C,f,fd,ZH,dd,G,D,B,A,z,y,x⟩:=j.hT _ _ I _ _ _ _ u;refine⟨C,f,fd,F,nd,ZH,dd,G,D,B,A,z,?_,by rw[g],y,x⟩
 rw[g];exact Wn.mp O _ u
def b7{a:Expr}(h:[a].any isStar=false):isStar a=false:=by simpa using h
def eS(h:BL b sc x=true):L2.Loc sc x/\(b=false->sc.names.lookup x=some .local):=by
 unfold BL at h;simp![Sb,Zc,W6]at h;rcases h with h|⟨h1,h2⟩
 .exact ⟨.inl h,λ_=>h⟩
 .exact ⟨.inr h2,λe=>by rw[e]at h1;cases h1⟩
def dD(h:Bd b sc N x=some i):N[i]?=some x/\BL b sc x=true:=by
 unfold Bd at h;split at h
 .rename_i a;exact⟨ixOf_get h,a⟩
 .cases h
def dv(h:Bd b sc N x=some i):N[i]?=some x/\L2.Loc sc x/\(b=false->sc.names.lookup x=some .local):=⟨(dD h).1,eS (dD h).2⟩
def Zq.Te(a:Zq T L d X sc N)(h:L2.Loc sc x):L2.Loc X.env.scope x:=by rw[a.Zh];exact h
def Zq.fnX(a:Zq T L d X sc N)(c:b=true ->∀x,X.fn x=true){x:Str}(h:b=false->sc.names.lookup x=some .local):X.fn x=true\/X.env.scope.names.lookup x=some .local:=by
 rw[a.Zh];cases b with
 |true=>exact .inl (c rfl x)
 |false=>exact .inr (h rfl)
def Zq.UC(a:Zq T L d X sc N):X.N.Nodup:=by rw[a.hN];exact a.nd
def Zq.own(a:Zq T L d X sc N):PassesOwn (model X.prog X.w) X.A X.env X.xe:=by rw[a.xe];exact PassesOwn.never
def iE(f:Zq T L d X sc N){c:Scope}(g:∀x,BL b c x=true->L2.Loc X.env.scope x/\(X.fn x=true\/X.env.scope.names.lookup x=some .local)){t:Tg}(h:A3 b c N tg=some t):PG X tg (tG X.K t):=by
 unfold A3 at h;split at h
 .cases e:Bd b c N ‹Str› with
  |none=>rw[e]at h;cases h
  |some i=>
   rw[e]at h;cases h;let⟨h1,h2⟩:=dD e;exact abL f.UC (by rw[f.hN];exact h1) (g _ h2).1 (g _ h2).2
 .rename_i ts k p
  cases e:Ab (ts.map (B0 b c N))with
  |none=>rw[e]at h;cases h
  |some is=>
   rw[e]at h;cases h;have all:∀(ts:List Expr) (is:List Nat),Ab (ts.map (B0 b c N))=some is->PGs X ts (UK X.K is)/\(assignEach ts X.env).length=is.length/\(assignEach ts X.env).findIdx? (·.1)=none:=λts=>by
    induction ts with
    |nil=>intro is e;cases e;exact⟨sgs_nil,rfl,rfl⟩
    |cons a ts ih=>
     intro is e;rw[YG]at e;cases ea:B0 b c N a with
     |none=>rw[ea]at e;cases e
     |some i=>
      rw[ea]at e;simp![Ab]at e;cases n:Ab (ts.map (B0 b c N))with
      |none=>rw[n]at e;cases e
      |some m=>
       rw[n]at e;cases e;let⟨l,p2,j⟩:=ih m n;cases a<;>simp![B0,reduceCtorEq]at ea
       let⟨h1,h2⟩:=dD ea;refine⟨v7 f.UC (by rw[f.hN];exact h1) (g _ h2).1 (g _ h2).2 l,?_,?_⟩
       .show (assignEach ts X.env).length+1=_
        rw[p2];rfl
       .show List.findIdx? (·.1) ((false,_)::assignEach ts X.env)=none
        rw[List.findIdx?_cons];simp[j]
   let⟨l,p2,j⟩:=all ts is e;exact abF f.calm l p2 j
 .cases h
def cu(a:Zq T L d X sc N)(c:b=true ->∀x,X.fn x=true){t:Tg}(h:A3 b sc N tg=some t):PG X tg (tG X.K t):=iE a (λ_ z=>⟨a.Te (eS z).1,a.fnX c (eS z).2⟩) h
def x3{a:Shared}{c:Hp}{b:List Str}(h:BL true scope x=true):L2.Loc (Af X Y scope a c fp b).env.scope x/\((Af X Y scope a c fp b).fn x=true\/(Af X Y scope a c fp b).env.scope.names.lookup x=some .local):=by
 have e:(Af X Y scope a c fp b).env.scope.names.lookup x=_:=cT;simp![BL,Sb,RP,W6]at h;rcases h with h|h
 .rw [h]at e;exact⟨.inl e,.inr e⟩
 .rw [h]at e;exact⟨.inr e,.inl (W6.mpr h)⟩
def yz(h:CY e'=true):JO r e'=(λZ g=>(r.ev e' Z g).bind λu g=>match u with
  |.ZZ xs=>Out.ok (Iter.seq xs) g
  |.xn _ xs=>Out.ok (Iter.seq xs) g
  |.ref n=>match g[n]? with
   |some (.S _)=>.ok (.S n) g
   |_=>.Z1
  |_=>.Z1):=by
 cases e'<;>first|rfl|cases h
def jx(j:Zq T L d X sc N){f:Expr->Option E}(k:∀e e',f e=some e'->Good X (Aa L fu d) e e'){it:Expr}(h:C8 T sc f it=some Zz):(∀n,PI X tg it (tI X.K W0 (JO (JW (Aa L fu d) n) Zz))) /\∀x,foldedSetIterable it X.env x=pure x:=by
 have val:Ip f it=some Zz->(∀n,PI X tg it (tI X.K W0 (JO (JW (Aa L fu d) n) Zz))) /\∀x,foldedSetIterable it X.env x=pure x:=λh=>qI h λhs h=>qB h λe' m h=>qI h λl h=>by
  cases h;have hs:=aF hs;exact⟨λn=>by rw[yz l];exact aaw ((k it Zz m).1 n),λx=>by cases it<;>first|rfl|cases hs⟩
 unfold C8 at h;cases g:BZ it with
 |none=>rw[g]at h;exact val h
 |some c=>
  rw[g]at h;refine qE h (λi h=>?_) val;let⟨p,q,rfl⟩:=dh g;let⟨n,es⟩:=c;have i:n = "range":=i;subst i;refine qI h λg h=>?_;simp![Zc,W4,W6]at g;let⟨⟨h1,h2⟩,r⟩:=g;have hm:=j.bt _ (Vr.mp h1);cases es with
  |nil=>cases h
  |cons a es=>
   cases es with
   |nil=>
    refine qM h λa' o e=>?_;subst e;exact⟨λn=>x8 (j.gl h2) hm ((k _ _ o).1 n) (star_ne (b7 r)),λx=>rfl⟩
   |cons b es=>
    exact qN h
def a9(l:Zq T L d X sc N){f:Expr->Option E}(o:∀e e',f e=some e'->Good X (Aa L fu d) e e'){it:Expr}(h:B1 T sc f tg it=some Zz):(∀n,PI X tg it (tI X.K W0 (JO (JW (Aa L fu d) n) Zz))) /\∀x,foldedSetIterable it X.env x=pure x:=by
 unfold B1 at h;cases g:BZ it with
 |none=>rw[g]at h;exact jx l o h
 |some c=>
  rw[g]at h;let⟨n,es⟩:=c;refine qE h (λi h=>?_) λh=>qE h (λi h=>?_) (jx l o)
  .obtain ⟨p,q,rfl⟩:=dh g
   have i:n = "enumerate":=i;subst i;refine qI h λg h=>dG h λa a' j r e=>?_;simp![Zc,W4,W6]at g;let⟨⟨⟨h1,h2⟩,m⟩,s⟩:=g;have hm:=l.bt _ (Vr.mp h1);have j:es=[a]:=j;subst j;subst e;cases tg with
   |Tuple ts k tp=>exact⟨λn=>zv (l.gl h2) hm ((o _ _ r).1 n) (star_ne (b7 m)),λx=>rfl⟩
   |_=>cases s
  .obtain ⟨p,q,rfl⟩:=dh g
   have i:n = "zip":=i;subst i;refine qI h λg h=>wJ h λa b a' b' j r t e=>?_;simp![Zc,W4,W6]at g;let⟨⟨⟨h1,h2⟩,m⟩,s⟩:=g;have hm:=l.bt _ (Vr.mp h1);have j:es=[a,b]:=j;subst j;subst e;rw[VJ,Ue]at m;cases tg with
   |Tuple ts k tp=>exact⟨λn=>zi (l.gl h2) hm ((o _ _ r).1 n) ((o _ _ t).1 n) (star_ne m.1) (star_ne (b7 m.2)),λx=>rfl⟩
   |_=>cases s
def sS(h:env.scope=sc):relabel scope env=Ba scope sc:=by subst h;rfl
def Zq.comp(a:Zq T L d X sc N){own fr:List Str}(c:(own++fr).Nodup)(Y:List (Addr×Obj))(b:Shared)(f:Hp)(e:List Addr):Zq T L d (Af X Y scope b f e (own++fr)) (Ba scope sc) (own++fr):=
 ⟨a.hF,a.cs,a.bt,a.hK,a.hC,a.hT,a.hA,a.room,rfl,sS a.Zh,c,a.calm,rfl⟩
def fb{f:Expr->Option E}(c:∀e e',f e=some e'->Good X C e e'):∀{es:List Expr} {ZI:List E},Ab (es.map f)=some ZI ->∀n,PTs X es (Av (JW C n).ts ZI)
 |[],_,h=>λn=>by cases h;exact wd
 |a::es,ZI,h=>λn=>by
  rw[YG]at h;cases ea:f a with
  |none=>rw[ea]at h;cases h
  |some a'=>
   rw[ea]at h;simp![Ab]at h;cases b:Ab (es.map f)with
   |none=>rw[b]at h;cases h
   |some r'=>
    rw[b]at h;cases h;exact vd ((c a a' ea).2.1 n) (fb c b n)
def i3(c:Zq T L d X sc N){f:Expr->Option E}(i:∀e e',f e=some e'->Good X (Aa L fu d) e e'):∀{gs:List Comprehension} {a:List (Tg×E×List E)},DZ T sc N f gs=some a->Bk X (Aa L fu d) gs a
 |[],_,h=>by cases h;trivial
 |g::gs,a,h=>qI h λl h=>qB h λt j h=>qB h λit b h=>qB h λcs m h=>qM h λr' k e=>by
  subst e;exact⟨eq_of_beq l,cu c (λe=>by cases e) j,fb i m,(a9 c i b).1,(a9 c i b).2,i3 c i k⟩
def ue(m:Zq T L d X sc N){own:List Str}(h:DM scope sc own (freeOf scope)=true)(o:Ab ((freeOf scope).map (AG N))=some Zu):Wy X scope own (freeOf scope) Zu:=by
 unfold DM at h;simp![Zc,W6,Wn,Sb,bne_iff_ne,XE]at h;let⟨⟨⟨⟨⟨⟨h1,h2⟩,u⟩,t⟩,s⟩,q⟩,p⟩:=h;refine⟨h1,λx a b=>(h2 x a).resolve_left λz=>z b,λx a b=>(u x a).resolve_left λz=>z b,λx a b=>?_,s,q,p,?_⟩
 .show X.env.scope.names.lookup x.1=_
  rw[m.Zh];exact(t x a).resolve_left λz=>z b
 .have all:∀(l:List Str) (r:List Nat),Ab (l.map (AG N))=some r->r.length=l.length /\∀(j:Nat) (x:Str) (i:Nat),l[j]?=some x->r[j]?=some i->N[i]?=some x:=λl=>by
   induction l with
   |nil=>intro r e;cases e;exact⟨rfl,λj x i e=>by simp at e⟩
   |cons y l ih=>
    intro r e;rw[YG]at e;cases ea:AG N y with
    |none=>rw[ea]at e;cases e
    |some k=>
     rw[ea]at e;simp![Ab]at e;cases c:Ab (l.map (AG N))with
     |none=>rw[c]at e;cases e
     |some r'=>
      rw[c]at e;cases e;let⟨n,p2⟩:=ih r' c;refine⟨by simp[n],λj x i g f=>?_⟩
      cases j with
      |zero=>simp at g f;subst g;subst f;exact ixOf_get ea
      |succ j=>exact p2 j x i (by simpa using g) (by simpa using f)
  rw[m.hN];exact all _ _ o
def vf(a:Zq T L d X sc N)(h:Fv T sc N x=some e'):Good X (Aa L fu d) (.Name x pos) e':=by
 refine qI h λg h=>qB h λk hk h=>?_;let⟨h1,h2,o⟩:=aC g;have O:(k=.local\/k=.cell\/k=.free)->(AG N x).map E.O=some e'->Good X (Aa L fu d) (.Name x pos) e':=λm h=>qM h λi j e=>by
  subst e;refine .plain (λn=>lh (by rw[a.hN];exact ixOf_get j) ?_ h1 h2) (λ_=>rfl) (λ_ _ _=>rfl) rfl
  show X.env.scope.names.lookup x=_\/_;rw[a.Zh];rcases m with rfl|rfl|rfl
  .exact .inl hk
  .exact .inr (.inl hk)
  .exact .inr (.inr hk)
 cases k with
 |«local»=>exact O (.inl rfl) h
 |cell=>exact O (.inr (.inl rfl)) h
 |free=>exact O (.inr (.inr rfl)) h
 |globalImplicit=>
  refine qM h λu l e=>?_;subst e;let⟨v,val,f,c,b⟩:=a.cs x u l;exact .plain (λn=>cK (ff (a.gl hk) f c h1) b) (λ_=>rfl) (λ_ _ _=>rfl) rfl
 |globalExplicit=>exact qN h
def w5{v:Const}{k:Nat}(h:Gf v=some e'):Good X C (.Constant v k pos) e':=by
 cases v with
 |int i=>cases h;exact .plain (λn=>cK lM λ_ _=>rfl) (λ_=>rfl) (λ_ _ _=>rfl) rfl
 |bool b=>cases h;exact .plain (λn=>cK aco λ_ _=>rfl) (λ_=>rfl) (λ_ _ _=>rfl) rfl
 |none=>cases h;exact .plain (λn=>cK aa2 λ_ _=>rfl) (λ_=>rfl) (λ_ _ _=>rfl) rfl
 |str s=>cases h;exact .plain (λn=>cK nj λ_ _=>rfl) (λ_=>rfl) (λ_ _ _=>rfl) rfl
 |_=>exact qN h
section
variable(ok:Zq T L d X sc N)(ih:∀e e',ce e=some e'->Good X (Aa L fu d) e e')
def we(h:AE x=true):(x==("__debug__" : Str))=false:=by
 unfold AE at h;simp![Zc,W4]at h;exact h.1.1
include ok in
def uY(c:∀e e',ce e=some e'->Good X (Aa L fu d) e e'){a b:Expr}{o:CmpOp}(h:Fs ce a o b=some e'):Good X (Aa L fu d) (.Compare a [o] [b] pos) e':=by
 refine qI h λi h=>qB h λo' ho h=>qB h λa' g h=>qM h λb' f e=>?_;subst e;have hm:=eY (o:=o) (aF i);refine⟨λn=>?_,λn=>?_,λh=>by cases h⟩
 .cases n with
  |zero=>exact PE.Z1 λ_ _=>rfl
  |succ n=>exact zj (C:=Aa L fu d) (bO ok ho) hm ((c _ _ g).1 n) ((c _ _ f).1 n)
 .cases n with
  |zero=>exact PT.Z1 λ_ _=>rfl
  |succ n=>
   cases n with
   |zero=>exact PT.Z1 λ_ _=>rfl
   |succ n=>exact abq (C:=Aa L fu d) (bO ok ho) hm ((c _ _ g).1 n) ((c _ _ f).1 n)
include ok in
def uS(f:∀e e',ce e=some e'->Good X (Aa L fu d) e e'){a b c:Expr}{o q:CmpOp}(h:FE ce a o q b c=some e'):Good X (Aa L fu d) (.Compare a [o,q] [b,c] pos) e':=by
 refine qI h λl h=>qB h λo' ho h=>qB h λm g h=>qB h λa' k h=>qB h λb' j h=>qM h λc' i e=>?_;subst e;have hm:=eY (o:=q) (aF l);refine⟨λn=>?_,λn=>?_,λh=>by cases h⟩
 .cases n with
  |zero=>exact PE.Z1 λ_ _=>rfl
  |succ n=>exact vG (C:=Aa L fu d) (bO ok ho) (bO ok g) hm ((f _ _ k).1 n) ((f _ _ j).1 n) ((f _ _ i).1 n)
 .cases n with
  |zero=>exact PT.Z1 λ_ _=>rfl
  |succ n=>
   cases n with
   |zero=>exact PT.Z1 λ_ _=>rfl
   |succ n=>exact vX (C:=Aa L fu d) (bO ok ho) (bO ok g) hm ((f _ _ k).1 n) ((f _ _ j).1 n) ((f _ _ i).1 n)
include ok in
def wD(i:∀e e',ce e=some e'->Good X (Aa L fu d) e e'){a:Expr}{f:List CmpOp}{bs:List Expr}(h:En ce a f bs=some e'):Good X (Aa L fu d) (.Compare a f bs pos) e':=by
 cases f with
 |nil=>exact qN h
 |cons o f=>cases bs with
  |nil=>exact qN h
  |cons b bs=>cases f with
   |nil=>
    refine qI h λg h2=>?_;cases az g;exact uY ok i h2
   |cons q f=>cases bs with
    |nil=>exact qN h
    |cons c bs=>
     refine qI h λg h2=>?_;rw[Zc]at g;cases az g.1;cases az g.2;exact uS ok i h2
include ok in
def aaI(m:∀e e',ce e=some e'->Good X (Aa L fu d) e e'){a:Expr}{k:List CmpOp}{bs:List Expr}(h:Iy T ce a k bs=some e'):Good X (Aa L fu d) (.Compare a k bs pos) e':=by
 cases k with
 |nil=>exact qN h
 |cons o k=>cases bs with
  |nil=>exact qN h
  |cons b bs=>
   refine qI h λg h=>qB h λop s h=>qB h λl K h=>qB h λa' w h=>qB h λb' x h=>qI h λj O=>?_;rw[Zc]at g;cases az g.1;cases az g.2;cases O;simp![Zc]at j;have hm:=eY (o:=o) (aF j.1.1);have r:GX op o:=by
    have:=j.1.2;cases o<;>cases s<;>first|exact .inl ⟨rfl,rfl⟩|exact .inr (.inl ⟨rfl,rfl⟩)|exact .inr (.inr ⟨rfl,rfl⟩)|cases this
   have M:Cg X L d (2*d+2) (l.map λe=>(e.1,e.2.1,AU e.2.2.1 2 [])):=by
    refine⟨λc i pm v=>?_,λc i pm C v N=>?_⟩
    .obtain ⟨⟨I,F,nd⟩,q,g⟩:=b8 (f:=λe:Nat×Nat×KF×Nat=>(e.1,e.2.1,AU e.2.2.1 2 [])) (λ_=>rfl) v
     cases g;let⟨C,f,fd,ZH,dd,H,G,E,D,B,A,y⟩:=ok.hT _ _ K _ _ _ _ q;exact⟨C,f,fd,F,nd,ZH,dd,H,G,E,D,B,(Zc _ _ ▸ Wn.mp j.2 _ q).1,rfl,A,y⟩
    .obtain ⟨⟨I,F,nd⟩,q,g⟩:=b8 (f:=λe:Nat×Nat×KF×Nat=>(e.1,e.2.1,AU e.2.2.1 2 [])) (λ_=>rfl) v
     have t:=Wn.mp j.2 _ q;rw[Zc]at t;let⟨p,J,u⟩:=RL.mp t.2;have u:p.2=c:=eq_of_beq u;let⟨C',_,z,_,Kq⟩:=ok.hA.2 p J;rw[u,N]at z;cases z;exact Kq
   have ho:OpR X (compareOp o) (BS X L fu d op (l.map λe=>(e.1,e.2.1,AU e.2.2.1 2 []))):=aaX r M ok.room;refine⟨λn=>?_,λn=>?_,λh=>by cases h⟩
   .cases n with
    |zero=>exact PE.Z1 λ_ _=>rfl
    |succ n=>exact yB ho hm ((m _ _ w).1 n) ((m _ _ x).1 n)
   .cases n with
    |zero=>exact PT.Z1 λ_ _=>rfl
    |succ n=>
     cases n with
     |zero=>exact PT.Z1 λ_ _=>rfl
     |succ n=>exact yI ho hm ((m _ _ w).1 n) ((m _ _ x).1 n)
def wg(c:∀e e',ce e=some e'->Good X (Aa L fu d) e e'){o:BoolOp}(h:Gs ce o es pos=some e'):Good X (Aa L fu d) (.BoolOp o es pos) e':=by
 cases es with
 |nil=>exact qN h
 |cons a es=>cases es with
  |nil=>
   let⟨k,g2,l⟩:=c _ _ h;have f:∀n,PW X (.BoolOp o [a] pos) (tT X.K W0 ((JW (Aa L fu d) n).ts e')):=λn=>by
    cases o with
    |And=>exact wX (g2 n)
    |Or=>exact zq (g2 n)
   exact⟨λn=>aa6 (k n),λn=>(f n).pt,λ_ n=>f n⟩
  |cons b ZV=>cases o with
   |And=>
    refine qB h λa' i h=>qM h λb' g e=>?_;subst e;have f:∀n,PW X (.BoolOp .And (a::b::ZV) pos) (tT X.K W0 ((JW (Aa L fu d) n).ts (.and a' b'))):=λn=>by
     cases n with
     |zero=>exactλj Y s Z H Q I ⟨_,_,_,_,_,p⟩=>p.elim
     |succ n=>exact zU ((c _ _ i).2.1 n) ((c _ _ g).2.2 rfl n)
    refine⟨λn=>?_,λn=>(f n).pt,λ_ n=>f n⟩;cases n with
    |zero=>exact PE.Z1 λ_ _=>rfl
    |succ n=>exact zY (C:=Aa L fu d) ((c _ _ i).1 n) ((c _ _ g).1 n)
   |Or=>
    refine qB h λa' i h=>qM h λb' g e=>?_;subst e;have f:∀n,PW X (.BoolOp .Or (a::b::ZV) pos) (tT X.K W0 ((JW (Aa L fu d) n).ts (.or a' b'))):=λn=>by
     cases n with
     |zero=>exactλj Y s Z H Q I ⟨_,_,_,_,_,p⟩=>p.elim
     |succ n=>exact ab5 ((c _ _ i).2.1 n) ((c _ _ g).2.2 rfl n)
    refine⟨λn=>?_,λn=>(f n).pt,λ_ n=>f n⟩;cases n with
    |zero=>exact PE.Z1 λ_ _=>rfl
    |succ n=>exact abM (C:=Aa L fu d) ((c _ _ i).1 n) ((c _ _ g).1 n)
def aaV(c:∀e e',ce e=some e'->Good X (Aa L fu d) e e'){o:UnaryOp}{a:Expr}(h:Ir ce o a=some e'):Good X (Aa L fu d) (.UnaryOp o a pos) e':=by
 cases o with
 |Not=>
  refine qM h λa' b e=>?_;subst e;refine⟨λn=>?_,λn=>?_,λh=>by cases h⟩
  .cases n with
   |zero=>exact PE.Z1 λ_ _=>rfl
   |succ n=>exact zX (C:=Aa L fu d) ((c _ _ b).1 n)
  .cases n with
   |zero=>exact PT.Z1 λ_ _=>rfl
   |succ n=>exact aat ((c _ _ b).2.1 n)
 |USub=>
  refine qM h λa' b e=>?_;subst e;exact .plain (λn=>yE ((c _ _ b).1 n)) (λ_=>rfl) (λ_ _ _=>rfl) rfl
 |_=>exact qN h
def xN(h:GG e=true):∃k p q,e = .UnaryOp .USub (.Constant (.int 1) k p) q:=by
 cases e with
 |UnaryOp o a q=>cases o with
  |USub=>cases a with
   |Constant v k p=>cases v with
    |int i=>cases eq_of_beq (show(i==1)=true from h);exact⟨k,p,q,rfl⟩
    |_=>cases h
   |_=>cases h
  |_=>cases h
 |_=>cases h
def fm{o:Option α}(h:Dz o=true):o=none:=by
 cases o with
 |none=>rfl
 |some _=>cases h
def kP(c:∀e e',ce e=some e'->Good X (Aa L fu d) e e'){a:Option Expr}{b:Option E}(h:Em ce a=some b)(n:Nat):PO X a (CS X.K W0 (JM (JW (Aa L fu d) n).ev b)):=by
 cases a with
 |none=>cases h;exact wO
 |some l=>exact qM h λg f e=>by subst e;exact wL ((c _ _ f).1 n)
def wC(m:X.A.units+2<cLine)(b:∀e e',ce e=some e'->Good X (Aa L fu d) e e'){a s:Expr}(h:Eg ce a s=some e'):Good X (Aa L fu d) (.Subscript a s pos) e':=by
 unfold Eg at h;cases g:Cm s with
 |true=>
  rw[g]at h;cases s with
  |Slice lo hi st p=>cases st with
   |none=>
    refine qB h λa' c h=>qB h λl i h=>qM h λh' j e=>?_;subst e;exact .plain (λn=>yS ((b _ _ c).1 n) (kP b i n) (kP b j n)) (λ_=>rfl) (λ_ _ _=>rfl) rfl
   |some st=>
    refine qI h λf h=>qM h λa' c e=>?_;subst e;rw[Zc,Zc]at f;cases fm f.1.1;cases fm f.1.2;let⟨_,_,_,rfl⟩:=xN f.2;exact .plain (λn=>abr ((b _ _ c).1 n)) (λ_=>rfl) (λ_ _ _=>rfl) rfl
  |_=>exact qN h
 |false=>
  rw[g]at h;refine qB h λa' c h=>qM h λb' k e=>?_;subst e;exact .plain (λn=>yQ () ((b _ _ c).1 n) ((b _ _ k).1 n) (sW g)) (λ_=>rfl) (λ_ _ _=>rfl) rfl
include ok in
def aa1(i:∀e e',ce e=some e'->Good X (Aa L fu d) e e'){f:Str}(m:sc.names.lookup f=some .globalImplicit)(j:X.mg f=none)(g:es.any isStar=false)(h:Iv ce f es=some e'):Good X (Aa L fu d) (.Call (.Name f p) es [] pos) e':=by
 refine qB h λb c h=>qI h λl h=>qM h λZI k e=>?_;subst e;cases es with
 |nil=>cases l
 |cons a es=>
  unfold Fx at c;exact .plain (λn=>yH c ok.calm ok.room.units ok.room.gd (ok.gl m) j (aK i g k n) g) (λ_=>rfl) (λ_ _ _=>rfl) rfl
include ok in
def w9(m:∀e e',ce e=some e'->Good X (Aa L fu d) e e')(q:sc.names.lookup ("isinstance" : Str)=some .globalImplicit)(o:X.mg "isinstance" = none)(i:es.any isStar=false)(h:Gd T sc ce es=some e'):Good X (Aa L fu d) (.Call (.Name "isinstance" p) es [] pos) e':=by
 cases es with
 |nil=>exact qN h
 |cons a es=>cases es with
  |nil=>exact qN h
  |cons t es=>
   refine qI h λB h1=>qB h1 λf j h2=>?_;cases az B;cases hw:T.ow.lookup f with
   |some c=>
    rw[hw]at h2;refine qB h2 λa' k h=>qI h λb l=>?_;let⟨p2,rfl⟩:=aD j;simp![Zc,W6]at b;cases l;let⟨C,v,u,s,r⟩:=ok.hA.2 (f,c) (cU hw);rw[VJ,Ue]at i;exact .plain (λn=>yb s r u (ok.gl b.2) v (we b.1) (ok.gl q) o ((m _ _ k).1 n) (star_ne i.1)) (λ_=>rfl) (λ_ _ _=>rfl) rfl
   |none=>
   rw[hw]at h2;refine qB h2 λtn A h=>qB h λty g h=>qB h λa' k h=>qI h λb l=>?_;let⟨p2,rfl⟩:=aD A;simp![Zc,W6]at b;cases l;let⟨z,y,x,w⟩:=xy g;rw[VJ,Ue]at i;exact .plain (λn=>aav (by unfold DH at g;revert g;(repeat' split)<;>(intro g;cases g)<;>rfl) z (ok.gl b.2) (ok.bt tn (Vr.mp b.1)) y x w (ok.gl q) o ((m _ _ k).1 n) (star_ne i.1)) (λ_=>rfl) (λ_ _ _=>rfl) rfl
include ok in
def wH(a:∀e e',ce e=some e'->Good X (Aa L fu d) e e'){f:Str}(g:sc.names.lookup f=some .globalImplicit)(b:X.mg f=none)(c:es.any isStar=false)(h:Dx T sc ce f es=some e'):Good X (Aa L fu d) (.Call (.Name f p) es [] pos) e':=by
 refine qE h (λi h=>by subst i;exact w9 ok a g b c h) λh=>?_
 exact aa1 ok a g b c h
include ok in
def wb(b:∀e e',ce e=some e'->Good X (Aa L fu d) e e'){f:Str}(h:Gu T sc ce f es=some e'):Good X (Aa L fu d) (.Call (.Name f p) es [] pos) e':=by
 refine qI h λs h=>?_;simp![Zc,W4,W6]at s;let⟨⟨u,c⟩,j⟩:=s;let⟨h1,h2,v⟩:=aC u;cases hi:AG T.L f with
 |some i=>
  rw[hi]at h;refine qM h λZI t e=>?_;subst e;let⟨w,fd,ps,r,q,o,m,l⟩:=ok.hF i f (ixOf_get hi) h1;refine .plain (λn=>?_) (λ_=>rfl) (λ_ _ _=>rfl) rfl;cases es with
  |nil=>cases t;exact vc m d7 l ok.Vf (ok.gl j) r q o h1
  |cons a es=>
   have k:=c;rw[VJ,Ue]at k;exact jU m d7 l ok.Vf (ok.gl j) r q o h1 (aK b c t n) (star_ne k.1 _) (bc k.2)
 |none=>
  rw[hi]at h;cases g:T.bt.contains f with
  |true=>
   have h:(match T.bt.contains f with|true=>Dx T sc ce f es|false=>CF T sc ce f es [])=some e':=h
   rw[g]at h;exact wH ok b j (ok.bt f (Vr.mp g)) c h
  |false=>
   have h:(match T.bt.contains f with|true=>Dx T sc ce f es|false=>CF T sc ce f es [])=some e':=h
   rw[g]at h;exact jA ok b h _ _
include ok in
def yX(k:∀e e',ce e=some e'->Good X (Aa L fu d) e e'){o:Expr}{m:Str}{r q:Pos}(j:BX o=false)(c:Good X (Aa L fu d) o o')(p:(r.endLine==q.line)=true)(l:es.any isStar=false)(h:Iw T ce o' m r q es=some e'):Good X (Aa L fu d) (.Call (.Attribute o m r) es [] q) e':=by
 refine qE h (λf h=>?_) λh=>?_
 .subst f
  refine dG h λa a' i g e=>?_;subst i;subst e;exact .plain (λn=>aaC (c.1 n) ((k _ _ g).1 n) (base_of j _) p (star_ne (b7 l))) (λ_=>rfl) (λ_ _ _=>rfl) rfl
 refine qE h (λf h=>?_) λh=>?_
 .subst f
  refine dG h λa a' i g e=>?_;subst i;subst e;exact .plain (λn=>yP (c.1 n) ((k _ _ g).1 n) (base_of j _) p (star_ne (b7 l))) (λ_=>rfl) (λ_ _ _=>rfl) rfl
 refine qE h (λf s=>?_) λh=>?_
 .subst f
  cases es with
  |nil=>
   cases s;exact .plain (λn=>aaE (c.1 n) (base_of j _) p) (λ_=>rfl) (λ_ _ _=>rfl) rfl
  |cons b es=>
   refine dG s λa a' i g e=>?_;rw[i]at l ⊢;subst e;exact .plain (λn=>xC (c.1 n) ((k _ _ g).1 n) (base_of j _) p (star_ne (b7 l))) (λ_=>rfl) (λ_ _ _=>rfl) rfl
 exact je ok k j c h
include ok in
def yo(a:∀e e',ce e=some e'->Good X (Aa L fu d) e e'){fn:Expr}(h:FV T sc ce fn es kws pos=some e'):Good X (Aa L fu d) (.Call fn es kws pos) e':=by
 cases fn with
 |Name f p=>cases kws with
  |nil=>exact wb ok a h
  |cons k kws=>exact jA ok a h _ _
 |Attribute o m ap=>
  refine qI h λb h=>qB h λo' ho h=>?_;have b:=aF b;cases kws with
  |nil=>
   refine qI h λc h=>?_;rw[Zc]at c;exact yX ok a b (a _ _ ho) c.1 (aF c.2) h
  |cons k kws=>exact je ok a b (a _ _ ho) h
 |_=>exact qN h
def xu(c:∀e e',ce e=some e'->Good X (Aa L fu d) e e'){a:List (Option Expr)}{vs:List Expr}(h:GY ce a vs=some e'):Good X (Aa L fu d) (.Dict a vs pos) e':=by
 cases a with
 |nil=>
  refine qI h λb h=>?_;cases az b;cases h;exact .plain (λn=>wj) (λ_=>rfl) (λ_ _ _=>rfl) rfl
 |cons k0 a=>
  exact qN h
include ok in
def fc(i:∀e e',ce e=some e'->Good X (Aa L fu d) e e'){j:Expr->Option E}{g:Comprehension}{q:List Nat×List (Tg×E×List E)}
  (a:∀{k:Cx},Zq T L d k (Ba scope sc) (ownOf (g::ZV)++freeOf scope) ->∀e e',j e=some e'->Good k (Aa L fu d) e e') (h:D7 T sc ce N j g ZV scope=some q) :
  ∃t Zz cs ZD Zu,q=(Zu,(t,Zz,cs)::ZD)/\Wy X scope (ownOf (g::ZV)) (freeOf scope) Zu/\g.is_async=0/\(∀n,PI X g.target g.iter (tI X.K W0 (JO (JW (Aa L fu d) n) Zz)))/\(∀x,foldedSetIterable g.iter X.env x=pure x) /\
   ∀Y s3 H3 fp,Zq T L d (Af X Y scope s3 H3 fp (ownOf (g::ZV)++freeOf scope)) (Ba scope sc) (ownOf (g::ZV)++freeOf scope)/\PG (Af X Y scope s3 H3 fp (ownOf (g::ZV)++freeOf scope)) g.target (tG X.K t)/\(∀n,PTs (Af X Y scope s3 H3 fp (ownOf (g::ZV)++freeOf scope)) g.ifs (Av (JW (Aa L fu d) n).ts cs)) /\
    Bk (Af X Y scope s3 H3 fp (ownOf (g::ZV)++freeOf scope)) (Aa L fu d) ZV ZD:=by
 refine qI h λf h=>qB h λZz b h=>qB h λt l h=>qB h λcs m h=>qB h λZD p h=>qM h λZu o e=>?_;rw[Zc,W6]at f;have Z5:=ue ok f.1 o;refine⟨t,Zz,cs,ZD,Zu,e.symm,Z5,f.2,(a9 ok i b).1,(a9 ok i b).2,λY s3 H3 fp=>?_⟩;have c:=ok.comp (scope:=scope) Z5.nd Y s3 H3 fp;exact⟨c,iE c (λ_=>x3) l,fb (a c) m,i3 c (a c) p⟩
end
def aA:∀(m:Nat) {X:Cx} {sc:Scope} {N:List Str} (ok:Zq T L d X sc N) (e:Expr) (e':E),Ad T sc N m e=some e'->Good X (Aa L fu d) e e'
 |0,_,_,_,_,_,_,h=>by cases h
 |m+1,X,sc,N,ok,e,e',h=>by
  have ih:=aA m ok;cases e with
  |Name x p=>exact vf ok h
  |Constant v k p=>exact w5 h
  |BinOp a o b p=>
   refine qB h λo' ho h=>qB h λa' j h=>qM h λb' B e=>?_;subst e;exact .plain (λn=>vY (xD ho) ((ih _ _ j).1 n) ((ih _ _ B).1 n)) (λ_=>rfl) (λ_ _ _=>rfl) rfl
  |Compare a os bs p=>
   have h:(match Et T a with|true=>Iy T (Ad T sc N m) a os bs|false=>En (Ad T sc N m) a os bs)=some e':=h
   cases i:Et T a with
   |true=>rw[i]at h;exact aaI ok ih h
   |false=>rw[i]at h;exact wD ok ih h
  |BoolOp o es p=>exact wg ih h
  |UnaryOp o a p=>exact aaV ih h
  |Tuple es k p=>
   refine qI h λhs h=>qM h λa' j e=>?_;subst e;exact .plain (λn=>aaB (aK ih (aF hs) j n)) (λ_=>rfl) (λ_ _ _=>rfl) rfl
  |List es p=>
   refine qI h λhs h=>qM h λa' j e=>?_;subst e;exact .plain (λn=>y7 (aK ih (aF hs) j n)) (λ_=>rfl) (λ_ _ _=>rfl) rfl
  |Subscript a s p=>exact wC ok.units ih h
  |Call fn es kws cp=>exact yo ok ih h
  |Attribute o f p=>
   refine qB h λcs C h=>qB h λo' ho h=>qI h λl h=>?_;cases h;rw[Zc]at l;let⟨y,w⟩:=bP l.1;exact .plain (λn=>y4 ((ih _ _ ho).1 n) (base_of (aF l.2) _) w y (ok.hA.1 _ _ C)) (λ_=>rfl) (λ_ _ _=>rfl) rfl
  |Dict keys vs p=>exact xu ih h
  |ListComp elt gs scope p=>cases gs with
   |nil=>exact qN h
   |cons g ZV=>
    refine qB h λq i h=>qM h λZp A e=>?_;subst e;let⟨t,Zz,cs,ZD,Zu,rfl,Z5,h1,h2,r,c⟩:=fc (fu:=fu) ok ih (λu=>aA m u) i;exact .plain (λn=>yy ok.calm Z5 h1 (h2 n) r λY s3 H3 fp=>⟨(c Y s3 H3 fp).2.1,(c Y s3 H3 fp).2.2.1,(c Y s3 H3 fp).2.2.2,(aA m (c Y s3 H3 fp).1 _ _ A).1⟩) (λ_=>rfl) (λ_ _ _=>rfl) rfl
  |DictComp G D gs scope p=>cases gs with
   |nil=>exact qN h
   |cons g ZV=>
    refine qB h λq i h=>qB h λk' hk h=>qM h λF z e=>?_;subst e;let⟨t,Zz,cs,ZD,Zu,rfl,Z5,h1,h2,r,c⟩:=fc (fu:=fu) ok ih (λu=>aA m u) i;exact .plain (λn=>vI ok.calm (by have:=ok.units;omega) Z5 h1 (h2 n) r λY s3 H3 fp=>⟨(c Y s3 H3 fp).2.1,(c Y s3 H3 fp).2.2.1,(c Y s3 H3 fp).2.2.2,(aA m (c Y s3 H3 fp).1 _ _ hk).1,(aA m (c Y s3 H3 fp).1 _ _ z).1⟩) (λ_=>rfl) (λ_ _ _=>rfl) rfl
  |_=>exact qN h
def sD(c:Zq T L d X sc N){a:Expr}{g:Comprehension}(h:Ad T sc N (m+1) (.ListComp a (g::ZV) scope pos)=some e'):
  ∃t Zz cs ZD Zp Zu,e'=.comp (ownOf (g::ZV)).length Zu ((t,Zz,cs)::ZD) Zp/\Wy X scope (ownOf (g::ZV)) (freeOf scope) Zu/\g.is_async=0/\(∀n,PI X g.target g.iter (tI X.K W0 (JO (JW (Aa L fu d) n) Zz)))/\(∀x,foldedSetIterable g.iter X.env x=pure x) /\
   ∀Y s3 H3 fp,PG (Af X Y scope s3 H3 fp (ownOf (g::ZV)++freeOf scope)) g.target (tG X.K t)/\(∀n,PTs (Af X Y scope s3 H3 fp (ownOf (g::ZV)++freeOf scope)) g.ifs (Av (JW (Aa L fu d) n).ts cs)) /\
    Bk (Af X Y scope s3 H3 fp (ownOf (g::ZV)++freeOf scope)) (Aa L fu d) ZV ZD /\∀n,PE (Af X Y scope s3 H3 fp (ownOf (g::ZV)++freeOf scope)) a (tE X.K W0 ((JW (Aa L fu d) n).ev Zp)):=by
 refine qB h λq f h=>qM h λZp i e=>?_;let⟨t,Zz,cs,ZD,Zu,rfl,Z5,h1,h2,j,b⟩:=fc (fu:=fu) c (aA m c) (λk=>aA m k) f;exact⟨t,Zz,cs,ZD,Zp,Zu,e.symm,Z5,h1,h2,j,λY s3 H3 fp=>⟨(b Y s3 H3 fp).2.1,(b Y s3 H3 fp).2.2.1,(b Y s3 H3 fp).2.2.2,(aA m (b Y s3 H3 fp).1 _ _ i).1⟩⟩
end
section
variable{T:Tab}{L:List Fn}
def gX{t:Option Expr}{l:Nat}(h:BY e=false):swapsWith e t l env=pure false:=by
 cases e<;>first|rfl|cases h
def se{t:Expr}{l:Nat}(h:BY e=false):swapsWithSole [t] e l env=pure false:=by
 cases e<;>first|rfl|cases h
def gy{k:Nat}{l:Nat}:swapsWithSole [.Tuple ts k p] e l env=pure false:=by
 cases e<;>rfl
def bL{f:Stmt->Option Z5}(c:∀s s',f s=some s' ->∀n,PS X s (ZF X.K W0 (JR (JW (Aa L fu d) n) s'))):∀{ss:List Stmt} {b:List Z5},Ab (ss.map f)=some b ->∀n,PSs X ss (ZF X.K W0 ((JW (Aa L fu d) n).ex b))
 |[],_,h=>λn=>by
  cases h;cases n with
  |zero=>exact PSs.Z1 λ_ _=>rfl
  |succ n=>exact lj (r:=JW (Aa L fu d) n)
 |s::ss,b,h=>λn=>by
  rw[YG]at h;cases ea:f s with
  |none=>rw[ea]at h;cases h
  |some s'=>
   rw[ea]at h;simp![Ab]at h;cases a:Ab (ss.map f)with
   |none=>rw[a]at h;cases h
   |some r'=>
    rw[a]at h;cases h;cases n with
    |zero=>exact PSs.Z1 λ_ _=>rfl
    |succ n=>exact kO (c s s' ea n) (bL c a n)
def so{c g:Pos}{a b:Expr}{d k2:Nat}(f:foldedForSure 8 a=true)(e:foldedForSure 8 b=true):swappedStores [.Tuple ts d c] (.Tuple [a,b] k2 g) env=pure none:=by
 have h:[a,b].all (foldedForSure 8)=true:=by simp[f,e]
 unfold swappedStores;simp![h,TL];split
 .rfl
 .split
  .rfl
  .split<;>rfl
def sO{y:Str}{c e g v:Pos}{a b:Expr}{i k2:Nat}(k:Zq T L d X sc N)(p:X.env.blockKind=.function)(h:CB sc x y c e a b=true):
  swappedStores [.Tuple [.Name x c,.Name y e] i g] (.Tuple [a,b] k2 v) X.env=pure (some [x,y]):=by
 unfold CB at h;simp![Zc,W4,W6]at h;let⟨⟨⟨⟨⟨⟨⟨h1,h2⟩,u⟩,l⟩,t⟩,s⟩,r⟩,q⟩:=h;have n:X.env.kindOf x=some .local:=by show X.env.scope.names.lookup x=_;rw[k.Zh];exact h1
 have m:X.env.kindOf y=some .local:=by show X.env.scope.names.lookup y=_;rw[k.Zh];exact h2
 have nd:[x,y].eraseDups.length=2:=by
  have : ¬ (y==x)=true:=by intro z;rw[W6]at z;subst z;simp at u
  simp[List.eraseDups_cons,this]
 have w:([.Tuple [.Name x c,.Name y e] i g]:List Expr)=[.Tuple [.Name x c,.Name y e] i g]:=rfl;unfold swappedStores;simp[p,n,m,l,nd,r,q];have j:∀z:Expr,isStar z=false -> ¬ ((match z with|.Starred value pos=>true|x=>false)=true):=λz o=>by cases z<;>first|exact Ic|cases o
 rw[WV (λz=>z.elim (j a t) (j b s))];have f:(Expr.Name x c).pos=c:=rfl;rw[f];simp![VQ,List.filterMap_nil,n,m,l,true_and,and_self,TL];simp[nd]
def tm{o i:Expr}{W8:Pos}(h:Cm i=false)(v:Value):assign (.Subscript o i W8) env v=(do
   let ov<-holding [v] (eval o env)
   let iv<-holding [v,ov] (eval i env)
   standAt W8
   holding [v,ov,iv] (setItem ov iv v)
   release [v,ov,iv] []):=by
 cases i<;>first|rfl|cases h
def i9{l:List α}{p:α×α}(h:DX l=some p):l=[p.1,p.2]:=by
 cases l with
 |nil=>cases h
 |cons a l=>cases l with
  |nil=>cases h
  |cons b l=>cases l with
   |nil=>cases h;rfl
   |cons _ _=>cases h
def fW{x:Str×Pos}(h:Iz e=some x):e = .Name x.1 x.2:=by
 cases e with
 |Name y p=>cases h;rfl
 |_=>cases h
def xE{q:List Expr×Nat×Pos}(h:Gi e=some q):e = .Tuple q.1 q.2.1 q.2.2:=by
 cases e with
 |Tuple es k p=>cases h;rfl
 |_=>cases h
section
variable{cE:Expr->Option E}
def tP(b:Zq T L d X sc N)(B:X.env.blockKind=.function)(E:∀x,X.fn x=true)(g:∀e e',cE e=some e'->Good X (Aa L fu d) e e'){o:Nat}{l:Pos}{e:Expr}{r:Z5}(h:CV T sc N cE ts o l e=some r)(n:Nat):PS X (.Assign [.Tuple ts o l] e pos) (ZF X.K W0 (JR (JW (Aa L fu d) n) r)):=by
 refine qB h λq A h=>qB h λt c h=>qB h λx z h=>qB h λy w h=>qB h λa D h=>?_;cases xE A;cases i9 c;rw[fW z,fW w]at h ⊢;rw[i9 D]at h ⊢;cases hp:CB sc x.1 y.1 x.2 y.2 a.1 a.2 with
 |true=>
  rw[hp]at h;refine qB h λi hi h=>qB h λj p h=>qB h λa' h1 h=>qM h λb' h2 e=>?_;subst e;have k:=hp;unfold CB at k;simp![Zc,W4,W6]at k;let⟨⟨⟨⟨⟨⟨⟨v,p2⟩,m⟩,I⟩,u⟩,s⟩,H⟩,G⟩:=k;refine zd b.calm b.UC (by rw[b.hN];exact ixOf_get hi) (by rw[b.hN];exact ixOf_get p) ?_ (by rw[b.Zh];exact v) (by rw[b.Zh];exact p2) ((g _ _ h1).1 n) ((g _ _ h2).1 n) (star_ne u) (star_ne s) (sO b B hp)
  intro F;subst F;have:=(ixOf_get hi).symm.trans (ixOf_get p);rw[Vm this]at m;simp at m
 |false=>
  rw[hp]at h;refine qI h λf h=>qB h λt c h=>qM h λe' C e=>?_;subst e;rw[Zc]at f;exact nO ((g _ _ C).1 n) (cu b (λ_=>E) c) gy (so f.1 f.2) rfl
end
def uo(a:Zq T L d X sc N)(y:X.env.blockKind=.function)(A:∀x,X.fn x=true){x:Str}{c:Pos}{r:Z5}(h:Ff sc N (Ad T sc N m) x c e=some r)(n:Nat):PS X (.Assign [.Name x c] e pos) (ZF X.K W0 (JR (JW (Aa L fu d) n) r)):=by
 refine qI h λf h=>qB h λi hi h=>qM h λe' o e=>?_;subst e;let⟨h1,h2,D⟩:=dv hi;have plain:BY e=false->PS X (.Assign [.Name x c] e pos) (ZF X.K W0 (JR (JW (Aa L fu d) n) (.set (.nm i) e'))):=λf=>ly a.UC (by rw[a.hN];exact h1) (a.Te h2) (.inl (A _)) ((aA m a _ _ o).1 n) (gX f)
 cases e with
 |ListComp elt gs scope p=>cases gs with
  |nil=>cases f
  |cons g ZV=>
   have q:Ed sc x c scope p=true:=f;cases m with
   |zero=>cases o
   |succ m=>
    let⟨t,Zz,cs,ZD,Zp,Zu,rfl,C,z,j,B,b⟩:=sD a o;unfold Ed at q;rw[Zc,Zc,W6,W6]at q;let⟨⟨w,v⟩,u⟩:=q;have s:X.env.scope.names.lookup x=some .local:=by rw[a.Zh];exact w
    have l:X.env.kindOf x=some .local:=s;cases n with
    |zero=>exact PS.Z1 λ_ _=>rfl
    |succ n=>
     refine tF a.calm C z (j n) B b a.UC (by rw[a.hN];exact h1) s ?_
     show(pure (X.env.blockKind==.function&&X.env.kindOf x==some .local&&c.line==p.line&&!(scope.names.any λ(n,k)=>n==x&&(k==.local||k==.cell))):Sem Bool)=pure true;rw[y,l,v,u];simp
 |_=>exact plain (aF f)
def tD(c:Zq T L d X sc N)(q:X.env.blockKind=.function)(l:∀x,X.fn x=true){t:Expr}{j:Z5}(h:Fb T sc N (Ad T sc N m) t e=some j)(n:Nat):PS X (.Assign [t] e pos) (ZF X.K W0 (JR (JW (Aa L fu d) n) j)):=by
 have b:=aA (fu:=fu) m c;cases t with
 |Name x A=>exact uo c q l h n
 |Tuple ts k p=>
  cases a:B4 e with
  |true=>
   have h:(match B4 e with|true=>CV T sc N (Ad T sc N m) ts k p e|false=>(A3 true sc N (.Tuple ts k p)).bind λt=>(Ad T sc N m e).map (Z5.set t))=some j:=h
   rw[a]at h;exact tP c q l b h n
  |false=>
   have h:(match B4 e with|true=>CV T sc N (Ad T sc N m) ts k p e|false=>(A3 true sc N (.Tuple ts k p)).bind λt=>(Ad T sc N m e).map (Z5.set t))=some j:=h
   rw[a]at h;refine qB h λt v h=>qM h λe' g y=>?_;subst y;refine nO ((b _ _ g).1 n) (cu c (λ_=>l) v) gy ?_ rfl;revert a;cases e<;>first|exactλ_=>rfl|exactλh2=>nomatch h2
 |Subscript o i p=>
  refine qI h λa h=>qB h λo' ho h=>qB h λB hi h=>qM h λe' g e=>?_;subst e;rw[Zc]at a;exact yJ (by have:=c.units;omega) ((b _ _ g).1 n) ((b _ _ ho).1 n) ((b _ _ hi).1 n) (se (aF a.2)) rfl (tm (aF a.1))
 |Attribute o f p=>
  refine qB h λx u h=>qB h λcs z h=>qB h λo' ho h=>qB h λe' g h=>qI h λw h=>?_;cases h;cases fW u;let⟨s,r⟩:=bP w;exact ki ((b _ _ ho).1 n) ((b _ _ g).1 n) (by unfold swapsWith;cases e<;>rfl) r s (c.hA.1 _ _ z)
 |_=>exact qN h
def eT(f:Zq T L d X sc N)(u:X.env.blockKind=.function)(s:∀x,X.fn x=true):∀m st q,A4 T sc N m st=some q ->∀n,PS X st (ZF X.K W0 (JR (JW (Aa L fu d) n) q))
 |0,_,_,h=>by cases h
 |m+1,st,q,h=>λn=>by
  have ih:=eT f u s m;have g:=aA (fu:=fu) m f;cases st with
  |Return o p=>cases o with
   |none=>exact qN h
   |some e=>exact qM h λa' l e=>by subst e;exact fM ((g _ _ l).1 n)
  |Assign ts e p=>cases ts with
   |nil=>exact qN h
   |cons t r=>
    refine qI h λi h=>?_;cases az i;exact tD f u s h n
  |Expr e p=>exact qI h λj h=>qM h λa' l e=>by subst e;exact nQ ((g _ _ l).1 n) (gX (aF j))
  |If c a b p=>exact qB h λc' j h=>qB h λa' l h=>qM h λb' k e=>by subst e;exact abB ((g _ _ j).2.1 n) (bL ih l n) (bL ih k n)
  |While c b o p=>
   refine qI h λi h=>qB h λc' j h=>qM h λb' k e=>?_;subst e;cases az i;exact yM f.own (λn=>(g _ _ j).2.1 n) (λn=>bL ih k n)
  |For tg it b o p=>
   refine qI h λi h=>qB h λt v h=>qB h λZz hi h=>qM h λb' k e=>?_;subst e;cases az i;exact y6 f.own f.calm ((a9 f g hi).1 n) (cu f (λ_=>s) v) (λn=>bL ih k n) (a9 (fu:=fu) f g hi).2
  |Raise a b p=>cases h;exact PS.Z1 λ_ _=>rfl
  |_=>exact qN h
end
open PySem PySem.Spec PyProof.Rows L2 PySem.W
def _root_.L2.ObjOk.SA{o:HO}(x:ObjOk P w H h a o):∃u,h.get? a=some u:=by
 cases o with
 |S xs=>let⟨_,_,_,_,e⟩:=x;exact⟨_,e⟩
 |ZZ xs=>let⟨_,_,_,ob,e,_⟩:=x;exact⟨_,e⟩
 |dK Z3=>let⟨_,_,_,_,o,_,_,e,_⟩:=x;exact⟨_,e⟩
 |dT Z3=>let⟨_,_,_,_,o,_,_,e,_⟩:=x;exact⟨_,e⟩
 |set Z5 n=>let⟨o,_,_,_,e,_⟩:=x;exact⟨_,e⟩
 |ins C dx fs=>let⟨_,_,_,e,_⟩:=x;exact⟨_,e⟩
 |own y=>exact x
 |xd fs=>let⟨_,⟨_,_,_,e,_⟩,_⟩:=x;exact⟨_,e⟩
 |YY lo hi=>let⟨_,_,_,e⟩:=x;exact⟨_,e⟩
 |Zo ob u=>let⟨e,_⟩:=x;exact⟨_,e⟩
 |Wt ps=>exact⟨_,(show h.get? a=some _ from x)⟩
 |met f y=>exact⟨_,(show h.get? a=some _ from x)⟩
 |ext b=>let⟨_,e,_⟩:=x;exact e
def _root_.L2.HOk.off(x:HOk P w H h)(e:h.get? a=none):H a=none:=by
 cases q:H a with
 |none=>rfl
 |some o=>let⟨u,z⟩:=(x a o q).SA;rw[e]at z;cases z
def Tr(h:Heap)(e:Addr)(C:Value)(c:Option Addr)(T:Addr)(b:Value):Prop:=
 ∃oe vs a ts,h.get? e=some oe/\oe.cls=C/\oe.dict=c/\oe.data=.fields vs/\vs[1]?=some (.ref T)/\T≠e/\h.get? T=some a/\a.data=.fields ts/\ts[3]?=some b
structure Yy(fr ch:List Addr)(h h':Heap):Prop where
 keep:∀b o,h.get? b=some o->b ∉ fr->b ∉ ch->h'.get? b=some o
 slot:∀b o,h.get? b=some o->b∈fr ->∃sl,h'.get? b=some {o with slots:=sl}
def Yy.trans{fr:List Addr}{f d c:Heap}(a:Yy fr ch f d)(b:Yy fr ch d c):Yy fr ch f c:=by
 refine⟨λx o e n m=>b.keep x o (a.keep x o e n m) n m,λx o e n=>?_⟩;let⟨j,h⟩:=a.slot x o e n;let⟨i,g⟩:=b.slot x _ h n;exact⟨i,g⟩
def Yy.mono{fr ch c:List Addr}(a:Yy fr ch h h')(s:∀b∈ch,b∈c):Yy fr c h h':=⟨λx o e n m=>a.keep x o e n λz=>m (s x z),a.slot⟩
section
variable{E:Value->Shared->Prop}{Z9 e:Addr}
def jj{o:Obj}{vs:Array Value}{fr:List Addr}{x:Value}(g:h.get? a=some o)(f:o.data=.fields vs)(d:a∈ch)(c:a ∉ fr):Yy fr ch h (h.update a (Obj.mapFields (·.setIfInBounds i x))):=
 ⟨λb u e _ m=>by
  have z:a≠b:=λz=>m (z ▸ d)
  rw [VZ _ _ z];exact e,λb u e n=>⟨u.slots,by
  have z:a≠b:=λz=>c (z ▸ n);rw[VZ _ _ z];exact e⟩⟩
def i7{vs:Array Value}{head:Value}{hn:Bool}{Q:Unit->Shared->Prop}(XA:A.frames=some (env::outer))(hl:s.heap.FunFrames base (env::outer))(hf:env.frame=some Z9)
  (he:s.heap.get? e=some oe) (hd:oe.data=.fields vs) (hsz:1<vs.size)
  (h:∀h' T,Yy (frs (env::outer)) [e] s.heap h'->s.heap.get? T=none->Tr h' e oe.cls oe.dict T (rawInt Z9)->Q Unit.unit {s with heap:=h'}) :
  wpAny Z8 A (do let a<-frameOf env;let pl<-entryPlaceOf Z9 hn;let b<-EntryCells.newEntry head a .none (rawInt Z9) .none pl;setField (.ref e) 1 b) Q E s:=by
 have Tc:e ∉ frs (env::outer):=λhm=>by
  let⟨_,o,ho,Wi⟩:=hl.mem hm;rw[he]at ho;cases ho;exact Wi vs hd
 refine ZB (wpAny_frameOf_fun XA hl hf λX6 Ub=>?_);refine ZB (wpAny_entryPlaceOf λpl YW=>?_);unfold EntryCells.newEntry newFields;refine ZB (T_ ?_ (YW.sizeOk5 _ _ _ _ _));have Tb : X6.get? e=some oe:=(Ub.2.1 e Tc).trans he;generalize hO:({cls:=.type "traceback",dict:=none,data:=.fields ([head,.ref Z9,.none,rawInt Z9,.none]++(if pl.isEmpty then List.replicate 6 Value.none else pl)).toArray}:Obj)=Z6
 have Ta:=H9 (h:=X6) Z6 Tb;refine QR Ta hd hsz (h _ X6.objs.size ?_ ?_ ?_)
 .refine ⟨λb o q n m=>?_,λb o q n=>?_⟩
  .have Xh:b≠e:=λz=>m (by simp[z])
   rw[VZ _ _ (Ne.symm Xh)];exact H9 _ ((Ub.2.1 b n).trans q)
  .have Xh:b≠e:=λz=>Tc (z ▸ n)
   let⟨sl,UB⟩:=Ub.2.2 b o q;exact⟨sl,by rw[VZ _ _ (Ne.symm Xh)];exact H9 _ UB⟩
 .exact Sw (Qy Ub.1.symm)
 .have Wh:X6.objs.size≠e:=S3 (Ia Tb)
  have S_:=Rr hd (·.setIfInBounds 1 (Value.ref X6.objs.size));refine⟨_,_,Z6,([head,.ref Z9,.none,rawInt Z9,.none]++(if pl.isEmpty then List.replicate 6 Value.none else pl)).toArray,Sr _ Ta (RB S_),Obj.cls_mapFields _ _,?_,S_,by simp[hsz],Wh,?_,?_,?_⟩
  .obtain ⟨c1,d1,dd1,s1⟩:=oe
   dsimp only at hd;subst hd
   rfl
  .rw [VZ _ _ (Ne.symm Wh)]
   exact Ij X6 (by rw[<-hO];rfl)
  .rw [<-hO]
  .rcases YW with rfl|⟨_,_,_,_,_,_,_,rfl⟩<;>simp
def tq{vs:Array Value}{Q:Unit->Shared->Prop}(j:A.frames=some (env::outer))(g:s.heap.FunFrames base (env::outer))(a:env.frame=some Z9)
  (c:s.heap.get? e=some oe) (d:oe.data=.fields vs) (f:vs[1]?=some .none)
  (h:∀h' T,Yy (frs (env::outer)) [e] s.heap h'->s.heap.get? T=none->Tr h' e oe.cls oe.dict T (rawInt Z9)->Q Unit.unit {s with heap:=h'}):wpAny Z8 A (noteFrame (.ref e) env) Q E s:=by
 unfold noteFrame;simp![a];refine ZB (Rt c d f ?_);rw[WV #[1]]
 exact i7 j g a c d (Sq.mp f).1 h
def jG{C:Value}{T:Addr}{Q:Unit->Shared->Prop}(G:A.frames=some (env::outer))(t:s.heap.FunFrames base (env::outer))(u:env.frame=some Z9)(D:Tr s.heap e C dx T .none)
  (h:∀h' d,Yy (frs (env::outer)) [e,T] s.heap h'->s.heap.get? d=none->Tr h' e C dx d (rawInt Z9)->Q Unit.unit {s with heap:=h'}):wpAny Z8 A (noteFrame (.ref e) env) Q E s:=by
 let⟨oe,vs,L,ts,w,rfl,rfl,y,h1,H,hT,a,B⟩:=D;have I:T ∉ frs (env::outer):=λF=>by
  let⟨_,o,ho,r⟩:=t.mem F;rw[hT]at ho;cases ho;exact r ts a
 unfold noteFrame;simp![u];refine ZB (Rt w y h1 ?_);rw[XW (show(Value.ref T != Value.none)=true from by simp)]
 refine ZB (Rt hT a B ?_);rw[WV (show ¬ ((Value.none==rawInt Z9)=true)from by simp[rawInt])]
 refine ZB (QR hT a (Sq.mp B).1 ?_);have K:Yy (frs (env::outer)) [T] s.heap (s.heap.update T (Obj.mapFields (·.setIfInBounds 3 Value.none))):=jj hT a #[3] I
 have j:(s.heap.update T (Obj.mapFields (·.setIfInBounds 3 Value.none))).get? e=some oe:=by rw[VZ _ _ H];exact w
 have g:(s.heap.update T (Obj.mapFields (·.setIfInBounds 3 Value.none))).FunFrames base (env::outer):=t.of_keeps λb o k r=>by
  have z:T≠b:=λz=>by rw[<-z,hT]at k;cases k;exact r ts a
  exact⟨o,by rw[VZ _ _ z];exact k,rfl⟩
 refine i7 G g u j y (Sq.mp h1).1 λh' d J c f=>h h' d ((K.mono #[3]).trans (J.mono #[3])) ?_ f
 have:T≠d:=λz=>by
  rw[<-z]at c;rw[Sr _ hT (RB (Rr a _))]at c;cases c
 rw[VZ _ _ this]at c;exact c
def cX{C o:Value}{T:Addr}{fr:List Addr}{Q:Unit->Shared->Prop}(r:T ∉ fr)(j:Tr s.heap e C dx T o)
  (h:∀h',Yy fr [T] s.heap h'->Tr h' e C dx T .none->Q Unit.unit {s with heap:=h'}):wpAny Z8 A (setFlight (.ref e) none) Q E s:=by
 let⟨oe,vs,t,ts,d,rfl,rfl,f,h1,g,hT,c,k⟩:=j;unfold setFlight;refine ZB (Rt d f h1 ?_);rw[XW (show(Value.ref T != Value.none)=true from by simp)]
 have a:3<ts.size:=(Sq.mp k).1;refine QR hT c a (h _ (jj hT c #[3] r) ?_)
 refine⟨oe,vs,_,_,?_,rfl,rfl,f,h1,g,Sr _ hT (RB (Rr c _)),Rr c _,?_⟩
 .rw [VZ _ _ g];exact d
 .simp [a]
def su{vs:Array Value}{Q:Unit->Shared->Prop}(t:A.frames=some (env::outer))(c:s.heap.FunFrames base (env::outer))(j:env.frame=some Z9)
  (k:s.heap.get? e=some oe) (r:oe.data=.fields vs) (d:vs[1]?=some .none)
  (h:∀h' T,Yy (frs (env::outer)) [e,T] s.heap h'->s.heap.get? T=none->Tr h' e oe.cls oe.dict T .none->Q Unit.unit {s with heap:=h'}):wpAny Z8 A (leaving env (.ref e)) Q E s:=by
 unfold leaving;refine ZB (tq t c j k r d λd T y hT f=>?_);have u:T ∉ frs (env::outer):=λg=>by
  let⟨_,o,ho,_⟩:=c.mem g;rw[hT]at ho;cases ho
 exact cX u f λh2 w a=>h h2 T ((y.mono #[3]).trans (w.mono #[3])) hT a
def uq{C:Value}{T:Addr}{Q:Unit->Shared->Prop}(k:A.frames=some (env::outer))(f:s.heap.FunFrames base (env::outer))(j:env.frame=some Z9)(d:Tr s.heap e C dx T .none)
  (h:∀h' a,Yy (frs (env::outer)) [e,T,a] s.heap h'->s.heap.get? a=none->Tr h' e C dx a .none->Q Unit.unit {s with heap:=h'}):wpAny Z8 A (leaving env (.ref e)) Q E s:=by
 unfold leaving;refine ZB (jG k f j d λh1 a u hT d=>?_);have r:a ∉ frs (env::outer):=λg=>by
  let⟨_,o,ho,_⟩:=f.mem g;rw[hT]at ho;cases ho
 exact cX r d λh2 t c=>h h2 a ((u.mono #[3]).trans (t.mono #[3])) hT c
end
open PySem PySem.Spec PySem.Calls PyProof.Rows L2 PySem.W PySem.Builtin PySem.Builtin.ObjectAttr
def aQ(self:Value){l:List Value}(h:D0.contains l=true):refuseLoop self "__setattr__" l=pure Unit.unit:=by
 have h:=Vr.mp h;unfold D0 at h;simp![Xl,Uz,SG]at h;rcases h with rfl|rfl|rfl|rfl<;>kernel_rfl
def iD(self:Value):∀{l:List Value},AV l=true->refuseLoop self "__setattr__" l=pure Unit.unit
 |.ref C::r,h=>by rw[refuseLoop_ref];exact iD self (by simpa[AV]using h)
 |[],h=>aQ self (by simpa[AV]using h)
 |.type T::r,h=>aQ self (by simpa[AV]using h)
 |.none::r,h=>aQ self (by simpa[AV]using h)
 |.bool _::r,h=>aQ self (by simpa[AV]using h)
 |.int _ _::r,h=>aQ self (by simpa[AV]using h)
 |.float _ _::r,h=>aQ self (by simpa[AV]using h)
 |.str _ _::r,h=>aQ self (by simpa[AV]using h)
 |.bytes _ _::r,h=>aQ self (by simpa[AV]using h)
 |.builtin _::r,h=>aQ self (by simpa[AV]using h)
section
variable{E:Value->Shared->Prop}{K:Frag}{x C:Addr}{ox:Obj}{od:Option Obj}{v:Value}
def iP{tk:Tok}{R:Result->Shared->Prop}(X:K.In s.heap)(I:PySem.W.InstAt s.heap x ox C od)(hp:Cw K C=true)(l:takerIn K C name=some none)
  (h:∀ b,wpAny (model prog w) A.in1 (storeInOwnDict (.ref x) (.ref C) (.str name tk) name v b)
   (λi s'=>match i with|.done f=>R (.ok f) s'|.again c'=>c'.quiet=true/\codeAny (model prog w) A c' R s') (λe s'=>R (.error e) s') s) :
  codeAny (model prog w) A (.call (.builtin "object.__setattr__") ⟨[.ref x,.str name tk,v],[]⟩) R s:=by
 have d:=PySem.F.store_object;let⟨p,j,ho⟩:=any_some hp;simp![Zc,W4]at ho;let⟨⟨h1,h2⟩,k⟩:=ho;have sub:Looks (model prog w) s.heap (isInstance (.ref x) (.type "object")) true:=I.type.andThen (QQ X (by unfold mroIn;rw[j,Se,WV (by rw[k];decide),h2]))
 refine Sy d.slot.plain d.entry (@check_slot (model prog w) _ _ s "object.__setattr__" "object" "__setattr__" (.ref x) [.str name tk,v] [] _ d.kind d.split sub (d.args (.ref x) (.str name tk) v) ?_);let⟨c,o,g⟩:=WQ.mp l;have m:Looks (model prog w) s.heap (mroOf (.ref C)) p.mro:=(looks_clsIn X j).andThen .now;have q:Looks (model prog w) s.heap (storeTaker? c) none:=by
  cases c with
  |none=>exact .now
  |some a=>
   let⟨b,n,g⟩:=Yn.mp g;refine(looks_takesIn X n).andThen ?_;cases b with
   |true=>cases g
   |false=>exact .now
 rw[osa_eq,refuse_eq];refine ZB (ZB (I.type.here (ZB (m.here ?_))));rw[iD _ h1];refine ZP (ZB (I.type.here (ZB ((R9 X o).here (ZB (q.here ?_))))));exact h _
def vA{Q:Unit->Shared->Prop}(X:K.In s.heap)(he:s.heap.get? x=some ox)(hc:ox.cls=.ref C)(W5:ox.dict=none)(YS:notCls ox=true)(hs:findIn K (.ref C) "__setattr__" = some (some (.builtin "object.__setattr__")))(hp:Cw K C=true)(ht:takerIn K C name=some none)(hh:hasDictIn K C=true)
  (h:∀h' dx,s.heap.get? dx=none->h'.get? x=some {ox with dict:=some dx}->h'.Ns1 dx (λy=>if y=name then some v else none)->(∀b o,b≠x->s.heap.get? b=some o->h'.get? b=some o)->Q Unit.unit {s with heap:=h',toks:=s.toks+2}) :
  wpAny (model prog w) A (setAttr (.ref x) name v) Q E s:=by
 have I:PySem.W.InstAt s.heap x ox C none:=⟨he,hc,YS,by rw[W5];trivial⟩
 refine set_plain X I hs (iP (s:={s with toks:=s.toks+1}) X I hp ht λb=>?_)
 let⟨cd,Zg,V6⟩:=any_some hh;let⟨Kq,odi,Wg,YV⟩:=ox;dsimp only at hc W5;subst hc;subst W5;refine ZB (ZP (ZB ?_));show wpAny _ _ (instanceDict x true) _ _ _;unfold instanceDict;refine ZB (Qb he ?_);dsimp only;refine ZB ((looks_clsIn X Zg).here (s:={s with toks:=s.toks+1}) ?_)
 rw[V6];have he1:(s.heap.push {cls:=.type "dict",data:=.dict #[]}).get? x=some ⟨.ref C,none,Wg,YV⟩:=H9 _ he;have hxs:x≠s.heap.objs.size:=Ii (Ia he);show wpAny _ _ (match Wg with|.cls _=>pure none|_=>_) _ _ _
 have fin:∀{R:Option Addr->Shared->Prop} {E':Value->Shared->Prop},R (some s.heap.objs.size) {s with heap:=(s.heap.push {cls:=.type "dict",data:=.dict #[]}).update x λo=>{cls:=o.cls,dict:=some s.heap.objs.size,data:=o.data,slots:=o.slots},toks:=s.toks+1}->wpAny (model prog w) A.in1 (do
   let d<-PySem.alloc {cls:=.type "dict",data:=.dict #[]}
   update x λo=>{cls:=o.cls,dict:=some d,data:=o.data,slots:=o.slots}
   dictMade (.ref C) x d) R E' {s with toks:=s.toks+1}:=λq=>ZB (wpAny_alloc' (ZB (wpAny_update' he1 (ZP q))))
 have key:∀{Q':Fin->Shared->Prop} {E':Value->Shared->Prop},(∀h',h'.get? x=some ⟨.ref C,some s.heap.objs.size,Wg,YV⟩->h'.Ns1 s.heap.objs.size (λy=>if y=name then some v else none)->(∀b o,b≠x->s.heap.get? b=some o->h'.get? b=some o)->Q' (.done (.ret .none)) {s with heap:=h',toks:=s.toks+2}) ->
   wpAny (model prog w) A.in1 (storeInDict s.heap.objs.size (.str name s.toks) name v) Q' E' {s with heap:=(s.heap.push {cls:=.type "dict",data:=.dict #[]}).update x λo=>{cls:=o.cls,dict:=some s.heap.objs.size,data:=o.data,slots:=o.slots},toks:=s.toks+1}:=λ{Q' E'} q=>by
  generalize hh1:((s.heap.push {cls:=.type "dict",data:=.dict #[]}).update x λo=>{cls:=o.cls,dict:=some s.heap.objs.size,data:=o.data,slots:=o.slots})=h1;have hgd:h1.get? s.heap.objs.size=some {cls:=.type "dict",data:=.dict #[]}:=by
   rw[<-hh1];exact(Heap.get?_update_ne _ _ _ _ hxs.symm).trans (Heap.get?_push_at rfl rfl)
  have hgx:h1.get? x=some ⟨.ref C,some s.heap.objs.size,Wg,YV⟩:=by
   rw[<-hh1];refine Sr _ he1 ?_;have XA:=(Heap.get?_some_iff.mp he).2;cases Wg<;>first|rfl|exact XA
  have We:h1.Ns s.heap.objs.size (λ_=>none):=⟨_,#[],_,hgd,rfl,λe he=>absurd he #[3],λ_=>rfl⟩
  unfold storeInDict newKeyGuard;refine ZB (ZP (ZB (wpAny_nsSet1 (s:={s with heap:=h1,toks:=s.toks+1}) (Heap.Ns1.of_empty We) λh' Zj Vk=>?_)))
  let⟨oD,esD,epD,UW,UU,XM⟩:=Zj.count (Qi name v PySem.Within.nil);refine ZB (Qo UW (by rw[UU];exact Qp (Ib XM (by rw[Wa,TM,TH];omega))) ?_)
  refine ZP (q h' ((Vk.2 x hxs).trans hgx) Zj λb o hb e=>?_);refine(Vk.2 b (Ii (Ia e))).trans ?_;rw[<-hh1];exact(Heap.get?_update_ne _ _ _ _ hb).trans (H9 _ e)
 cases Wg with
 |cls cd'=>cases YS
 |_=>exact fin (key λh' a1 a2 a3=>h h' _ (Sw (Ie _)) a1 a2 a3)
def vH{a:Addr}{c:Str->Option Value}{ns:List Str}{Q:Unit->Shared->Prop}(X:K.In s.heap)(k:s.heap.get? x=some ox)(f:ox.cls=.ref C)(g:ox.dict=some a)(J:notCls ox=true)(o:s.heap.Ns1 a c)(u:PySem.Within c ns)(hsz:ns.length<sizeLine)
  (B:findIn K (.ref C) "__setattr__" = some (some (.builtin "object.__setattr__"))) (hp:Cw K C=true) (z:takerIn K C name=some none) (D:hasDictIn K C=true)
  (h:∀h',h'.Ns1 a (λy=>if y=name then some v else c y)->Heap.SameBut a s.heap h'->Q Unit.unit {s with heap:=h',toks:=s.toks+2}) :
  wpAny (model prog w) A (setAttr (.ref x) name v) Q E s:=by
 let⟨od,ho,_⟩:=eO o;have I:PySem.W.InstAt s.heap x ox C (some od):=⟨k,f,J,by rw[g];exact ho⟩
 refine set_plain X I B (iP (s:={s with toks:=s.toks+1}) X I hp z λb=>?_)
 let⟨S,H,N⟩:=any_some D;let⟨Kq,t,U,T⟩:=ox;dsimp only at f g;subst f;subst g;refine ZB (ZP (ZB ?_));show wpAny _ _ (instanceDict x true) _ _ _;unfold instanceDict;refine ZB (Qb k ?_);dsimp only;refine ZB ((looks_clsIn X H).here (s:={s with toks:=s.toks+1}) ?_)
 rw[N];have d:∀{j:Fin->Shared->Prop} {E':Value->Shared->Prop},(∀h',h'.Ns1 a (λy=>if y=name then some v else c y)->Heap.SameBut a s.heap h'->j (.done (.ret .none)) {s with heap:=h',toks:=s.toks+2}) ->
   wpAny (model prog w) A.in1 (storeInDict a (.str name s.toks) name v) j E' {s with toks:=s.toks+1}:=λ{j E'} q=>by
  unfold storeInDict newKeyGuard;refine ZB (ZP (ZB (wpAny_nsSet1 (s:={s with toks:=s.toks+1}) o λh' r L=>?_)))
  let⟨R,F,G,O,P,M⟩:=r.count (Qi name v u);refine ZB (Qo O (by rw[P];exact Qp (Ib M (by rw[Wa];omega))) ?_)
  exact ZP (q h' r L)
 rw[WV #[1]]
 exact ZP (d h)
end
open PySem PySem.Spec PySem.Calls PyProof.Rows L2 PySem.W
section
variable{E:Value->Shared->Prop}{g:Array GenState}{d:Drawn}{t:Nat}{os:OsState}
variable{nm q:Str}{C N:Addr}{bs:List Value}{hdct:Bool}{sn:List Str}{ab:Bool}{k0 k1 k2 k3 k5:Option Value}{B Yx:String}
def r8(F:ExcBaseFacts B newId Yx YQ)(T:OwnTail h YQ bm){mN:Str->Option Value}{a:List Value}{u:Obj}{Q:Fin->Shared->Prop}
  (f:h.get? C=some (excClassObj nm q C N bs bm hdct sn sub ab col dd k0 k1 k2 k3 k5 newId)) (H:h.Ns N mN) (I:mN "__init__" = some (.ref fI)) (L:h.get? fI=some u) (M:u.cls=.type "function")
  (G:∀h' e,Heap.MadeExcOf h h' e (.ref C) a->wpAny (model prog w) A (call (.ref fI) (.ref e::a)) (λr s'=>r=.none/\Q (.done (.ret (.ref e))) s') E ⟨h',g,d,t,os⟩) (K:a.length<=sizeLine) :
  wpAny (model prog w) A (Builtin.«type.__call__» ⟨.ref C::a,[]⟩) Q E ⟨h,g,d,t,os⟩:=by
 repeat (first|with_reducible refine Rf f ?_|with_reducible refine wpAny_madeBy_exc f ?_|wp_step)
 refine codeAny_call_builtin_code (Qf _ F.quiet) (wpAny_check_new_subT F T f ?_);refine codeAny_exc_new_subT F T f ?_ K;show wpAny _ _ _ _ _ _;have c:∀(b:Addr) (o:Obj),h.get? b=some o->((h.push {cls:=.type "tuple",data:=.seq a.toArray}).push {cls:=.ref C,data:=.fields #[.ref h.objs.size,.none,.none,.none,.bool false,.none]}).get? b=some o:=
  λb o e=>H9 _ (H9 _ e)
 have y:=c _ _ f;have O:=c _ _ L;have P:=H.keeps c;have j:=T.keeps c;have z:((h.push {cls:=.type "tuple",data:=.seq a.toArray}).push {cls:=.ref C,data:=.fields #[.ref h.objs.size,.none,.none,.none,.bool false,.none]}).get? (h.objs.size+1)=some
   {cls:=.ref C,data:=.fields #[.ref h.objs.size,.none,.none,.none,.bool false,.none]}:=by heap_get
 have k:(Value.ref C::bm).contains (.ref C)=true:=by simp
 unfold isInstance
 repeat (first|with_reducible refine Rf z ?_|(with_reducible refine wpAny_isSubtype_exc y ?_;rw[k])|wp_step)
 show wpAny _ _ (typeLookup (.ref C) _) _ _ _;refine wpAny_typeLookup_tail y P j F.mroIs F.init.lookup ?_;rw[I];refine Uu (ZB ?_);unfold bindSpecial;refine ZB (wpAny_typeOf (T:="function") ⟨_,O,M⟩ ?_);rw[XW #[1]]
 refine ZP (ZB (Ve (G _ (h.objs.size+1) ⟨c,Sw (U2 _),h.objs.size,z,Sw (Ie _),?_⟩) (λr s' D=>?_) λ_ _ x=>x))
 .exact H9 _ (Heap.get?_push_at rfl rfl)
 .obtain ⟨rfl,J⟩:=D
  wp_walk
  exact J
def uh(F:ExcBaseFacts B newId Yx YQ)(T:OwnTail h YQ bm){mN:Str->Option Value}{a:List Value}{c:Obj}{Q:Value->Shared->Prop}
  (b:h.get? C=some (excClassObj nm q C N bs bm hdct sn sub ab col dd k0 k1 k2 k3 k5 newId)) (i:h.Ns N mN) (k:mN "__init__" = some (.ref fI)) (m:h.get? fI=some c) (n:c.cls=.type "function")
  (f:∀h' e,Heap.MadeExcOf h h' e (.ref C) a->wpAny (model prog w) (A.under (.builtin "type.__call__" ⟨.ref C::a,[]⟩)) (call (.ref fI) (.ref e::a)) (λr s'=>r=.none/\Q (.ref e) s') E ⟨h',g,d,t,os⟩) (l:a.length<=sizeLine) :
  wpAny (model prog w) A (call (.ref C) a) Q E ⟨h,g,d,t,os⟩:=by
 have f1:=tc_lookup;have f2:=tc_bind (.ref C);have hT:(⟨h,g,d,t,os⟩:Shared).TypeIs (.ref C) "type":=⟨_,b,rfl⟩;refine S4 (codeAny_of_tree ?_);show wpAny _ _ (callAny (.ref C) _) _ _ _
 repeat (any_goals (first|assumption|with_reducible refine Rf b ?_|wp_step))
 refine⟨rfl,?_⟩;refine codeAny_call_builtin_at (Qf _ (by decide +kernel)) entry_typeCall (wpAny_check_type_call_sub b (r8 F T b i k m n (λh' e j=>?_) l))
 exact f h' e j
end
section
variable{E:Value->Shared->Prop}
variable{nm q:Str}{C N:Addr}{bs:List Value}{hdct:Bool}{sn:List Str}{ab:Bool}{k0 k1 k2 k3 k5:Option Value}
def sy{x:Sem Value}{Q:Flow->Shared->Prop}(r:bm.contains (.type "BaseException")=true)(j:A.handled=none)
  (h:wpAny Z8 A x (λv a => ∃ e t dx,v=.ref e/\a.heap.get? C=some (excClassObj nm q C N bs bm hdct sn sub ab col dd k0 k1 k2 k3 k5 newId) /\
   a.heap.get? e=some {cls:=.ref C,dict:=dx,data:=.fields #[.ref t,.none,.none,.none,.bool false,.none]}/\E (.ref e) a) E s) :
  wpAny Z8 A (raiseStmt env (some x) none) Q E s:=by
 have c:(Value.ref C::bm).contains (.type "BaseException")=true:=by rw[Rq,r,QX]
 unfold raiseStmt;refine ZB (Ve h (λv a u=>?_) λ_ _ x=>x);let⟨e,t,dx,rfl,f,k,o⟩:=u;let⟨w,g,d,tk,os⟩:=a
 repeat (first|with_reducible refine Rf k ?_|with_reducible refine Rf f ?_|(with_reducible refine wpAny_isSubtype_exc f ?_;rw[c])|wp_step)
 exact wpAny_raiseNew_none j o
end
section
variable{E:Value->Shared->Prop}
variable{nm q:Str}{C N:Addr}{bs:List Value}{hdct:Bool}{sn:List Str}{ab:Bool}{k0 k1 k2 k3 k5:Option Value}{B Yx:String}
def sP(F:ExcBaseFacts B newId Yx YQ){mN:Str->Option Value}{I:Pos}{args:List Expr}{H:Obj}{Q:Flow->Shared->Prop}
  (U:bm.contains (.type "BaseException")=true) (R:A.handled=none) (Y:(backTo Zw (starEach args env)).any (·.1)=false) (P:mN "__init__" = some (.ref fI)) (X:H.cls=.type "function")
  (h:wpAny (model prog w) A (eval (.Name x I) env) (λf K => f=.ref C/\wpAny (model prog w) A (evalArgs (.ref C) true (backTo Zw (starEach args env)) [])
   (λa c => a.kw=[]/\a.pos.length<=sizeLine/\c.heap.get? C=some (excClassObj nm q C N bs bm hdct sn sub ab col dd k0 k1 k2 k3 k5 newId)/\c.heap.Ns N mN/\OwnTail c.heap YQ bm/\c.heap.get? fI=some H /\
    ∀h' e,Heap.MadeExcOf c.heap h' e (.ref C) a.pos->wpAny (model prog w) (A.under (.builtin "type.__call__" ⟨.ref C::a.pos,[]⟩)) (call (.ref fI) (.ref e::a.pos))
     (λr o=>r=.none/\o.heap.get? C=some (excClassObj nm q C N bs bm hdct sn sub ab col dd k0 k1 k2 k3 k5 newId)/\(∃t dx,o.heap.get? e=some {cls:=.ref C,dict:=dx,data:=.fields #[.ref t,.none,.none,.none,.bool false,.none]})/\E (.ref e) o) E {c with heap:=h'}) E K) E s) :
  wpAny (model prog w) A (exec (.Raise (some (.Call (.Name x I) args [] Zw)) none pos) env) Q E s:=by
 rw[arm_exec_Raise];refine ZB (Tn (sy (C:=C) (nm:=nm) (q:=q) (N:=N) (bs:=bs) (bm:=bm) (hdct:=hdct) (sn:=sn) (sub:=sub) (ab:=ab) (col:=col) (dd:=dd) (k0:=k0) (k1:=k1) (k2:=k2) (k3:=k3) (k5:=k5) (newId:=newId) U R (ZB (Ve (wpAny_Call_ofName (Ve h (λf K D=>?_) λ_ _ x=>x)) (λv o j=>ZB (Tn (ZP j))) λ_ _ x=>x))));let⟨rfl,D⟩:=D;unfold callWith;refine ZB (Uu (Ve D (λa c G=>ZB (Tn ?_)) λ_ _ x=>x));let⟨apos,y⟩:=a;let⟨V,k,J,M,T,W,G⟩:=G;obtain rfl:y=[]:=V;let⟨Z,g,d,tk,os⟩:=c;simp![Y];refine ZB (wpAny_keeperOf_exc J ?_);refine ZB (uh F T J M P W X (λh' e O=>?_) k);refine Ve (G h' e O) (λr o ⟨L,u,⟨t,dx,he⟩,S⟩=>⟨L,ZB (Uu (wpAny_point (ZP ⟨e,t,dx,rfl,u,he,S⟩)))⟩) λ_ _ z=>z
end
abbrev Yh(e:Addr)(oe:Obj):HO:=.ext λh=>h.get? e=some oe
def BA(H:Hp)(e:Addr):Hp:=λa=>if a=e then none else H a
def bA{e:Addr}(h:a≠e):BA H e a=H a:=by unfold BA;rw[WV h]
def iN{e:Addr}:BA H e e=none:=by unfold BA;rw[XW rfl]
section
variable{Z:L2.St}{e:Addr}
def abX(I:L2.Z4 X Y Z H s)(f:s.heap.get? e=some oe)(j:H e=none)(l:X.ZK.heap.get? e=none)(i:e≠X.env.locals)(h:∀x c,X.env.cells.lookup x=some c->c≠e)(hp:∀p∈X.pn++Y,p.1≠e):L2.Z4 X Y Z (upd H e (Yh e oe)) s:=by
 have d:∀b u,H b=some u->b≠e:=λb u q z=>by rw[z,j]at q;cases q
 refine⟨I.ok,I.os,I.bare,⟨I.base.keep,I.base.slot,λb o q n g=>?_,I.base.there,λb xs q=>?_,λb o u q=>?_,λb ps q=>?_⟩,I.loc,I.cell,?_,λx c q=>?_,λp q=>?_,λa o q=>?_,I.len⟩
 .rw [aa (λz=>by rw[z,l]at q;cases q)];exact I.base.free b o q n g
 .have:=I.base.XU b xs q;rw[aa (d b _ this)];exact this
 .have:=I.base.X2 b o u q;rw[aa (d b _ this)];exact this
 .obtain ⟨m,this⟩:=I.base.XT b ps q;exact⟨m,by rw[aa (d b _ this)];exact this⟩
 .rw [aa (Ne.symm i)];exact I.free
 .rw [aa (h x c q)];exact I.Yw x c q
 .obtain ⟨y,w,v,t,r⟩:=I.pin p q
  exact⟨y,by rw[aa (hp p q)];exact w,v,t,r⟩
 .by_cases z:a=e
  .subst z
   rw[upd_same]at q;cases q;exact⟨f,⟨oe,f⟩,λh1 h2 p k=>k _ p⟩
  .rw [aa z]at q
   exact(I.ZO a o q).YO (λ_ _ _ k=>k) (λb k=>by rw[aa (d b _ k)];exact k) λb xs k=>by rw[aa (d b _ k)];exact k
def xS{g:Heap->Prop}(I:L2.Z4 X Y Z H s)(i:H e=some (.ext g)):L2.Z4 X Y Z (BA H e) s:=by
 have sub:∀b,H b=none->BA H e b=none:=λb q=>by
  unfold BA;split
  .rfl
  .exact q
 have f:∀b u,H b=some u->(∀d,u ≠ .ext d)->b≠e:=λb u q k z=>by rw[z,i]at q;cases q;exact k _ rfl
 refine⟨I.ok,I.os,I.bare,⟨I.base.keep,I.base.slot,λb o q n h=>sub b (I.base.free b o q n h),I.base.there,λb xs q=>?_,λb o u q=>?_,λb ps q=>?_⟩,I.loc,I.cell,sub _ I.free,λx c q=>sub _ (I.Yw x c q),λp q=>?_,λa o q=>?_,I.len⟩
 .have:=I.base.XU b xs q;rw[bA (f b _ this (by intro d z;cases z))];exact this
 .have:=I.base.X2 b o u q;rw[bA (f b _ this (by intro d z;cases z))];exact this
 .obtain ⟨m,this⟩:=I.base.XT b ps q;exact⟨m,by rw[bA (f b _ this (by intro d z;cases z))];exact this⟩
 .obtain ⟨v,t,r,l,j⟩:=I.pin p q
  exact⟨v,sub _ t,r,l,j⟩
 .have z:a≠e:=λz=>by rw[z,iN]at q;cases q
  rw[bA z]at q;exact(I.ZO a o q).YO (λ_ _ _ k=>k) (λb k=>by rw[bA (f b _ k (by intro d z;cases z))];exact k) λb xs k=>by rw[bA (f b _ k (by intro d z;cases z))];exact k
end
structure Vd(K:Frag)(C:Addr)(f:Str):Prop where
 sa:findIn K (.ref C) "__setattr__" = some (some (.builtin "object.__setattr__"))
 ov:Cw K C=true
 tk:takerIn K C f=some none
 hd:hasDictIn K C=true
section
def Hn(C:Addr)(f:Str)(i j:Nat):TS:=λD Z H=>∃e oe v,Z[i]?=some (some (.ref e))/\Z[j]?=some (some v)/\H e=some (Yh e oe)/\oe.cls=.ref C/\oe.dict=none/\notCls oe=true /\
 ∀dx,H dx=none->D.nx Z (upd (upd H dx (.xd [(f,v)])) e (Yh e {oe with dict:=some dx}))
def xh{self p f:Str}{O U:Pos}{C:Addr}(F:Vd X.K C f)(W:PE X (.Name self O) (BD i))(V:PE X (.Name p p2) (BD j)):PS X (.Assign [.Attribute (.Name self O) f U] (.Name p p2) pos) (Hn C f i j):=by
 intro Y s Z H D I ⟨e,oe,v,ei,ej,c,hc,W5,YS,q⟩;refine SF (thn (V Y s Z H (λy H1=>y=v/\H1=H) I ⟨v,ej,rfl,rfl⟩) λu R ⟨y,H1,Q,S,e1,J⟩=>thn (W Y R Z H1 (λy H2=>y=.ref e/\H2=H) (by rw[J]at Q ⊢;exact Q) ⟨_,ei,rfl,J⟩) λov N ⟨x,H2,r,T,e3,e4⟩=>?_) #[2]
 subst e1;subst J;subst e3;subst e4;obtain rfl:ov=Value.ref e:=T;let⟨P,_,_⟩:=(show ObjOk X.prog X.w _ N.heap e (Yh e oe)from r.ZO e _ c);refine vA r.Zt P hc W5 YS F.sa F.ov F.tk F.hd λh' dx A B Xo hk=>?_;have g:=r.ZO.off A;have VH:dx≠e:=λz=>by rw[z,P]at A;cases A
 refine⟨Z,_,r.un (h':=h') (t':=N.toks+2) ⟨λb o q n _ _=>?_,λb o q n _ _=>?_,λb o q n _=>?_,λb o q _=>?_,λb xs q=>?_,λb o u q=>?_,λb ps q=>?_⟩ ?_,q dx g⟩
 .exact hk b o (λz=>by rw[z,c]at n;cases n) q
 .exact ⟨o.slots,hk b o (λz=>by rw[z,c]at n;cases n) q⟩
 .rw [aa (λz=>by rw[z,c]at n;cases n),aa (λz=>by rw[z,A]at q;cases q)];exact n
 .by_cases z:b=e
  .subst z;exact⟨_,B⟩
  .exact ⟨o,hk b o z q⟩
 .rw [aa (λz=>by rw[z,c]at q;cases q),aa (λz=>by rw[z,g]at q;cases q)];exact q
 .rw [aa (λz=>by rw[z,c]at q;cases q),aa (λz=>by rw[z,g]at q;cases q)];exact q
 .exact ⟨#[],by rw[aa (λz=>by rw[z,c]at q;cases q),aa (λz=>by rw[z,g]at q;cases q),q];simp⟩
 .intro a o d
  by_cases z:a=e
  .subst z
   rw[upd_same]at d;cases d;exact⟨B,⟨_,B⟩,λh1 h2 p k=>k _ p⟩
  .rw [aa z]at d
   by_cases M:a=dx
   .subst M
    rw[upd_same]at d;cases d;refine⟨_,Xo,λf'=>?_⟩;by_cases G:f'=f
    .subst G;simp[List.lookup];exact S
    .have E:(f'==f)=false:=by simpa using G
     simp[List.lookup,E,G];trivial
   .rw [aa M]at d
    refine(r.ZO a o d).YO (λb u t k=>hk b u (λL=>?_) k) (λb k=>?_) λb xs k=>?_
    .rcases t with rfl|t
     .exact z L
     .rw [L,c]at t;cases t
    .rw [aa (λz=>by rw[z,c]at k;cases k),aa (λz=>by rw[z,g]at k;cases k)];exact k
    .rw [aa (λz=>by rw[z,c]at k;cases k),aa (λz=>by rw[z,g]at k;cases k)];exact k
end
section
def Hc(C:Addr)(f:Str)(i j:Nat):TS:=λD Z H=>∃e oe v dx fs,Z[i]?=some (some (.ref e))/\Z[j]?=some (some v)/\H e=some (Yh e oe)/\oe.cls=.ref C/\oe.dict=some dx/\notCls oe=true/\dx≠e/\H dx=some (.xd fs)/\fs.length<=1000/\fs.lookup f=none /\
 D.nx Z (upd H dx (.xd (fs++[(f,v)])))
def gD{a:Type}{f y:Str}{v:a}:∀{fs:List (Str×a)},fs.lookup f=none->(fs++[(f,v)]).lookup y=if y=f then some v else fs.lookup y
 |[],_=>by
  by_cases h:y=f
  .subst h;simp[List.lookup]
  .have:(y==f)=false:=by simpa using h
   simp[List.lookup,this,h]
 |(g,x)::r,e=>by
  have b:(f==g)=false:=by
   cases z:f==g with
   |false=>rfl
   |true=>simp[List.lookup,z]at e
  have e':r.lookup f=none:=by simpa[List.lookup,b]using e
  cases z:y==g with
  |true=>
   have:y≠f:=λq=>by rw[q,b]at z;cases z
   simp[List.lookup,z,this]
  |false=>simp![SR,List.lookup,z];exact gD e'
def u5{self p f:Str}{N T:Pos}{C:Addr}(F:Vd X.K C f)(hi:PE X (.Name self N) (BD i))(hj:PE X (.Name p p2) (BD j)):PS X (.Assign [.Attribute (.Name self N) f T] (.Name p p2) pos) (Hc C f i j):=by
 intro Y s Z H D I ⟨e,oe,v,dx,fs,ei,ej,hH,hc,W5,YS,Zi,L,hlen,X4,q⟩;refine SF (thn (hj Y s Z H (λy H1=>y=v/\H1=H) I ⟨v,ej,rfl,rfl⟩) λu Q ⟨y,H1,P,R,J,G⟩=>thn (hi Y Q Z H1 (λy H2=>y=.ref e/\H2=H) (by rw[G]at P ⊢;exact P) ⟨_,ei,rfl,G⟩) λov B ⟨x,H2,d,S,e3,e4⟩=>?_) #[2]
 subst J;subst G;subst e3;subst e4;obtain rfl:ov=Value.ref e:=S;let⟨he,_,_⟩:=(show ObjOk X.prog X.w _ B.heap e (Yh e oe)from d.ZO e _ hH);let⟨mA,U,c⟩:=(show ObjOk X.prog X.w _ B.heap dx (.xd fs)from d.ZO dx _ L);have W:PySem.Within mA (fs.map (·.1)):=λy V=>by
  have r:=c y;cases z:fs.lookup y with
  |none=>rw[z]at r;cases hm:mA y with
   |none=>exact absurd hm V
   |some u=>rw[hm]at r;exact r.elim
  |some w=>exact R6 (SE z)
 refine vH d.Zt he hc W5 YS U W (by rw[Yk,TH];omega) F.sa F.ov F.tk F.hd λh' O A=>?_
 have off:∀b,H2 b≠some (.xd fs)->b≠dx:=λb q z=>q (by rw[z];exact L)
 refine⟨Z,_,d.un (h':=h') (t':=B.toks+2) ⟨λb o q n _ _=>?_,λb o q n _ _=>?_,λb o q n _=>?_,λb o q _=>?_,λb xs q=>?_,λb o u q=>?_,λb ps q=>?_⟩ ?_,q⟩
 .rw [A.2 b (off b (by rw[n];simp))];exact q
 .exact ⟨o.slots,by rw[A.2 b (off b (by rw[n];simp))];exact q⟩
 .rw [aa (off b (by rw[n];simp))];exact n
 .by_cases z:b=dx
  .subst z
   let⟨o',_,_,J,_⟩:=O;exact⟨_,J⟩
  .exact ⟨o,(A.2 b z).trans q⟩
 .rw [aa (off b (by rw[q];simp))];exact q
 .rw [aa (off b (by rw[q];simp))];exact q
 .exact ⟨#[],by rw[aa (off b (by rw[q];simp)),q];simp⟩
 .intro a o g
  by_cases z:a=dx
  .subst z
   rw[upd_same]at g;cases g;refine⟨_,O,λf'=>?_⟩;rw[gD X4];by_cases E:f'=f
   .subst E;rw[XW rfl,XW rfl];exact R
   .rw [WV E,WV E];exact c f'
  .rw [aa z]at g
   refine(d.ZO a o g).YO (λb u t k=>(A.2 b (λM=>?_)).trans k) (λb k=>?_) λb xs k=>?_
   .rcases t with rfl|t
    .exact z M
    .rw [M,L]at t;cases t
   .rw [aa (off b (by rw[k];simp))];exact k
   .rw [aa (off b (by rw[k];simp))];exact k
def Cb(self:Str)(a:IA):Stmt:=.Assign [.Attribute (.Name self a.2.1) a.1.1 a.2.2.1] (.Name a.1.2 a.2.2.2.1) a.2.2.2.2
def Hf(C:Addr)(as:List IA)(k:Nat):TS:=λD Z H=>∃e oe dx fs vs,Z[0]?=some (some (.ref e))/\(∀(j:Nat) (v:V),vs[j]?=some v->Z[k+j]?=some (some v))/\vs.length=as.length/\H e=some (Yh e oe)/\oe.cls=.ref C/\oe.dict=some dx/\notCls oe=true/\dx≠e/\H dx=some (.xd fs)/\fs.length+as.length<=1000/\(fs.map (·.1)++as.map (·.1.1)).Nodup /\
 D.nx Z (upd H dx (.xd (fs++(as.map (·.1.1)).zip vs)))
def gZ{a:Type}{f:Str}:∀{fs:List (Str×a)},f ∉ fs.map (·.1)->fs.lookup f=none
 |[],_=>rfl
 |(g,x)::r,h=>by
  rw[YG,Xl,not_or]at h;have:(f==g)=false:=by simpa using h.1
  simp![List.lookup,this];exact gZ h.2
def abm{o:HO}(h:H a=some o):upd H a o=H:=by
 funext b;by_cases z:b=a
 .rw [z,upd_same,h]
 .rw [aa z]
def g9{self:Str}{C:Addr}(i:∀p,PE X (.Name self p) (BD 0)):∀{as:List IA} {k:Nat},(∀a∈as,Vd X.K C a.1.1)->(∀(j:Nat) (a:IA),as[j]?=some a ->∀p,PE X (.Name a.1.2 p) (BD (k+j)))->PSs X (as.map (Cb self)) (Hf C as k)
 |[],k,_,_=>dH.imp λD Z H ⟨e,oe,dx,fs,vs,_,_,c,_,_,_,_,_,h2,_,_,q⟩=>by
  rw[Rj,List.zip_nil_left,TJ,abm h2]at q;exact q
 |a::as,k,F,h=>by
  refine(dq (u5 (F a W_) (i a.2.1) (h 0 a rfl a.2.2.2.1)) (g9 i (as:=as) (k:=k+1) (λb m=>F b (Ig _ m)) λj b e p=>by have:=h (j+1) b e p;rwa[Nat.add_assoc,QD 1 j])).imp ?_;rintro D Z H ⟨e,oe,dx,fs,vs,h0,g,c,n,l,hd,o,d,x,hlen,r,q⟩
  cases vs with
  |nil=>cases c
  |cons v vs=>
   rw[YG,Sz]at r;let⟨t,s,f⟩:=r;rw[Wa]at hlen;refine⟨e,oe,v,dx,fs,h0,g 0 v rfl,n,l,hd,o,d,x,by omega,gZ λm=>f _ m _ W_ rfl,?_⟩
   refine⟨e,oe,dx,fs++[(a.1.1,v)],vs,h0,λj w u=>?_,by simpa using c,by rw[aa (Ne.symm d)];exact n,l,hd,o,d,upd_same,by rw[W9];simp;omega,?_,?_⟩
   .have:=g (j+1) w u;rwa[Nat.add_assoc,QD 1 j]
   .rw [Sv,VC,Sz];exact⟨t,s,f⟩
   .rw [wR,VC];exact q
end
def G5(C:Addr)(a:List Str):Sp:=λvs H Q _=>∃e oe ws,vs=.ref e::ws/\ws.length=a.length/\H e=some (Yh e oe)/\oe.cls=.ref C/\oe.dict=none/\notCls oe=true /\∀dx,H dx=none->Q .ZR (upd (upd H dx (.xd (a.zip ws))) e (Yh e {oe with dict:=some dx}))
structure Ua(K:Frag)(C fI:Addr)(fs:List Str):Prop where
 ex:∃(Kq:Value) (od:Option Addr) (name qual self:Str) (a:IA) (as:List IA) (params:Arguments) (scope:Scope) (KP IV doc pm Zn ct:Value) (an:Option Addr) (YV:Array (Option Value)),
  K.lookup fI=some ⟨Kq,od,.func (fnOf name qual params ((a::as).map (Cb self)) scope KP IV doc pm an Zn ct),YV⟩/\Kq=.type "function" /\ codeIn K Zn qual=true/\UT (self::(a::as).map (·.1.2)) (self::(a::as).map (·.1.2)) scope /\
  Binds K (fnOf name qual params ((a::as).map (Cb self)) scope KP IV doc pm an Zn ct) (self::(a::as).map (·.1.2)) []/\(∀y∈self::(a::as).map (·.1.2),AE y=true)/\fs=(a::as).map (·.1.1)/\fs.Nodup/\fs.length<=1000
def xx{K:Frag}{C:Addr}{o:List Str}{k:Nat}(F:∀f∈o,Vd K C f)(N:Ua K C fI o):
  ∃fd ps,Binds K fd ps []/\Zb P w K mg base X1 (k+1) fI fd ps (G5 C o)/\ps.length=o.length+1 /\∃I,K.lookup fI=some I/\I.cls=.type "function":=by
 let⟨Kq,od,name,G,self,a,as,d,scope,KP,IV,W,pm,Zn,ct,an,YV,lk,u,Y,Z5,T,ZO,rfl,Z,hlen⟩:=N.ex;refine⟨_,_,T,gq lk Y Z5 (λvs H Q E ⟨e,oe,ws,q,g,_⟩=>by rw[q,Wa,g];simp) λA outer s H vs Q E hr ⟨e,oe,ws,q,g,L,J,hd,O,S⟩=>?_,by simp,_,lk,u⟩
 subst q;have nm:∀(X:Cx) (j:Nat) (y:Str),X.N=self::(a::as).map (·.1.2)->X.env.scope=scope->(self::(a::as).map (·.1.2))[j]?=some y ->∀p,PE X (.Name y p) (BD j):=λX j y U hs t p=>by
  let⟨m1,R,_⟩:=aC (ZO y (WG t));refine cL (by rw[U];exact t) ?_ m1 R
  rw[hs];rcases Z5.par y (WG t)with z|z
  .exact .inl z
  .exact .inr (.inl z)
 cases ws with
 |nil=>cases g
 |cons v ws=>
 refine⟨_,dq (xh (C:=C) (i:=0) (j:=1) (F _ #[3]) (nm _ 0 _ rfl rfl rfl _) (nm _ 1 _ rfl rfl rfl _)) (g9 (λp=>nm _ 0 _ rfl rfl rfl p) (k:=2) (λb m=>F _ (R6 (Ig _ m))) λj b e p=>nm _ (2+j) _ rfl rfl (by rw[QD];simp[e]) p),?_⟩
 refine⟨e,oe,v,rfl,rfl,L,J,hd,O,λdx B=>?_⟩;have D:dx≠e:=λz=>by rw[z,L]at B;cases B
 have VW:ws.length=as.length:=by simpa using g
 refine⟨e,{oe with dict:=some dx},dx,[(a.1.1,v)],ws,rfl,λj w M=>?_,VW,upd_same,J,rfl,O,D,by rw[aa D,upd_same],?_,by simpa using Z,?_⟩
 .have hj:=(Yi.mp M).1
  unfold L2.start;rw[QD,Xe (by simp;omega)]
  simp[M]
 .simp at hlen ⊢;omega
 .have:=S dx B
  have V:upd (upd (upd H dx (.xd [(a.1.1,v)])) e (Yh e {oe with dict:=some dx})) dx (.xd ([(a.1.1,v)]++(as.map (·.1.1)).zip ws))=upd (upd H dx (.xd (((a::as).map (·.1.1)).zip (v::ws)))) e (Yh e {oe with dict:=some dx}):=by
   funext b;by_cases c:b=dx
   .subst c;rw[upd_same,aa D,upd_same];rfl
   .rw [aa c]
    by_cases r:b=e
    .subst r;rw[upd_same,upd_same]
    .rw [aa r,aa r,aa c,aa c]
  rw[V];exact this
section
def ug{j:List Str}{C:Addr}{B Yx:String}{a:Expr}{np:Pos}{t:TA}{k:Nat}{W:Addr->List V->Hp->Prop}
  (Z6:∃bm N nm q bs hdct sn sub ab col dd k0 k1 k2 k3 k5 mN,X.base.get? C=some (excClassObj nm q C N bs bm hdct sn sub ab col dd k0 k1 k2 k3 k5 newId)/\X.base.Ns N mN/\mN "__init__" = some (.ref fI)/\OwnTail X.base YQ bm) (hm:X.mg x=some (.ref C))
  (FB:ExcBaseFacts B newId Yx YQ) (F:∀f∈j,Vd X.K C f) (N:Ua X.K C fI j) (hr:Zy (k+2) X.A) (hex:X.ex=[]) (ZL:X.stack=X.env::X.outer) (hc:X.calm=true) (hg:Gl X x) (ha:PA X (a::es) t)
  (hx:∀Y Z H s e oe dx ws,L2.Z4 X Y Z H s->s.heap.get? e=some oe->oe.cls=.ref C->oe.dict=some dx->(∃vs,oe.data=.fields vs/\vs[1]?=some .none)->H e=none->X.ZK.heap.get? e=none->W dx ws H->X.xe (.ref e) s)
  (hd:(x==("__debug__" : Str))=false) (he:starEach (a::es) X.env=(false,eval a X.env)::starEach es X.env) (YW:(backTo Zw (starEach es X.env)).any (·.1)=false) :
  PS X (.Raise (some (.Call (.Name x np) (a::es) [] Zw)) none pos) (λ_ Z H=>t Z H λvs H1=>vs.length=j.length /\∀e dx,H1 e=none->H1 dx=none->dx≠e->W dx vs (upd H1 dx (.xd (j.zip vs)))):=by
 intro Y s Z H D I h;let⟨bm,N',nm,q,bs,hdct,sn,sub,ab,col,dd,k0,k1,k2,k3,k5,mN,hC,hN,hi,T⟩:=Z6;let⟨fd,ps,hb,FO,S,oI,U,VI⟩:=xx (P:=X.prog) (w:=X.w) (mg:=X.mg) (base:=X.base) (k:=k) F N;refine sP (C:=C) (nm:=nm) (q:=q) (N:=N') (bs:=bs) (bm:=bm) (hdct:=hdct) (sn:=sn) (sub:=sub) (ab:=ab) (col:=col) (dd:=dd) (k0:=k0) (k1:=k1) (k2:=k2) (k3:=k3) (k5:=k5)
  FB (mN:=mN) (T.hasType FB.hasBase) (I.ok.hd hc) (by rw[he];show(false||(backTo Zw (starEach es X.env)).any (·.1))=false;rw[YW];rfl) hi VI (be I hg hm ⟨rfl,?_⟩ hd)
 have UA:=ha Zw Y s Z H _ I h;rw[he]at UA ⊢;refine RQ (Ve UA (λM s2 ⟨ws,H2,d,r,ev,q⟩=>⟨rfl,?_,d.bk _ _ hC,hN.keeps d.bk,T.keeps d.bk,d.Zt _ _ U,λh' e E=>?_⟩) λ_ _ y=>y)
 .have hl1:=(N.ex)
  let⟨_,_,_,_,_,_,_,_,_,_,_,_,_,_,_,_,_,_,_,_,_,_,_,_,_,hlen⟩:=hl1;show M.length<=sizeLine;rw[<-r.length,ev,TH];omega
 .obtain ⟨L,he3,_,_⟩:=E.there
  have nw:=E.new;have I3:L2.Z4 X Y Z H2 {s2 with heap:=h'}:=d.kept (t':=s2.toks) E.keeps
  have O:X.ZK.heap.get? e=none:=by
   cases q:X.ZK.heap.get? e with
   |none=>rfl
   |some o=>let⟨o',z⟩:=d.base.there e o q (by rw[hex];simp);rw[nw]at z;cases z
  have g:=d.ZO.off nw;have hL:e≠X.env.locals:=λz=>by let⟨m,⟨o,_,_,ho,_⟩,_⟩:=d.loc;rw[<-z,nw]at ho;cases ho
  have I4:=abX I3 he3 g O hL (λy c ec z=>by let⟨v,o,ho,_⟩:=d.cell y c ec;rw[z,nw]at ho;cases ho) λp hp z=>by let⟨e1,_⟩:=d.pin p hp;rw[z,nw]at e1;cases e1
  have r2:ZM (V.ref e::ws) (Value.ref e::M):=.cons rfl r;have hl:((Value.ref e::M)++[]).length=ps.length:=by
   rw[TJ,<-r2.length,Wa,ev,S]
  refine S4 (Sx (FO.run (X.A.under (.builtin "type.__call__" ⟨.ref C::M,[]⟩)) X.stack _ _ ⟨Value.ref e::M,[]⟩ (Value.ref e::M) (V.ref e::ws)
   (λr H3=>r=.ZR /\∃dx,dx≠e/\H2 dx=none/\H3=upd (upd (upd H2 e (Yh e {cls:=.ref C,data:=.fields #[.ref L,.none,.none,.none,.bool false,.none]})) dx (.xd (j.zip ws))) e (Yh e {cls:=.ref C,dict:=some dx,data:=.fields #[.ref L,.none,.none,.none,.bool false,.none]})) E0 (hr.make C M []) (I4.V1.make C M []) (by have:=hb _ (Value.ref e::M) I4.Zt hl;rw[TJ]at this;exact this) r2
   ⟨e,_,ws,rfl,ev,upd_same,rfl,rfl,rfl,λdx G=>?_⟩) λrr s' Q=>?_)
  .have J:dx≠e:=λz=>by rw[z,upd_same]at G;cases G
   rw[aa J]at G;exact⟨rfl,dx,J,G,rfl⟩
  .cases rr with
   |error z=>exact False.elim Q
   |ok j=>
    cases j with
    |ret u=>
     let⟨v',H',I5,rv,ev',dx,J,G,eH⟩:=I4.after Q;subst ev';subst eH;let⟨ho,_,_⟩:=(show ObjOk X.prog X.w _ s'.heap e (Yh e _)from I5.ZO e _ upd_same);have I6:=xS I5 (e:=e) upd_same;have eqH:BA (upd (upd (upd H2 e (Yh e {cls:=.ref C,data:=.fields #[.ref L,.none,.none,.none,.bool false,.none]})) dx (.xd (j.zip ws))) e (Yh e {cls:=.ref C,dict:=some dx,data:=.fields #[.ref L,.none,.none,.none,.bool false,.none]})) e=upd H2 dx (.xd (j.zip ws)):=by
      funext b;by_cases z:b=e
      .subst z;rw[iN,aa (Ne.symm J)];exact g.symm
      .rw [bA z,aa z]
       by_cases R:b=dx
       .subst R;rw[upd_same,upd_same]
       .rw [aa R,aa R,aa z]
     rw[eqH]at I6;exact⟨rv,I5.bk _ _ hC,⟨L,some dx,ho⟩,hx Y Z _ s' e _ dx ws I6 ho rfl rfl ⟨_,rfl,rfl⟩ (by rw[aa (Ne.symm J)];exact g) O (q e dx g G J)⟩
    |next=>exact False.elim Q
    |brk=>exact False.elim Q
    |cont=>exact False.elim Q
end
open PySem PySem.Spec PyProof.Rows L2
structure Fly(P:Program)(w:World)(outer:List Env)(H0:Hp)(s0:Shared)(e:Addr)(C:Value)(dx:Option Addr)(H:Hp)(s:Shared):Prop where
 os:s.os=s0.os
 bare:AllBare s.gens
 un:Un (frs outer) [] H0 H s0.heap s.heap
 ZO:HOk P w H s.heap
 free:H e=none
 new:s0.heap.get? e=none
 tr:∃T,Tr s.heap e C dx T .none/\H T=none/\s0.heap.get? T=none
def CX1(P:Program)(w:World):Yc:=λouter H s E e s'=>∃ea C dx H',e=.ref ea/\Fly P w outer H s ea C dx H' s'/\E C dx H'
section
variable{Z:L2.St}
def kK{ch:List Addr}(I:L2.Z4 X Y Z H s)(g:X.ex=[])(k:Yy (frs X.stack) ch s.heap h')(w:∀b∈ch,X.ZK.heap.get? b=none):Un (frs X.outer) [] X.W1 H X.ZK.heap h':=by
 have y:∀b,b∈frs X.stack->b=X.env.locals\/b∈frs X.outer:=λb a=>Xl.mp (I.V5 b a);have f:∀b o,X.ZK.heap.get? b=some o->b≠X.env.locals:=λb o e z=>by
  have h1:=Ia e;have h2:=I.ok.above;rw[z]at h1;exact absurd (Ih h1 h2) (U_ _)
 have B:=I.base;rw[g]at B;have c:∀b:Addr,b ∉ ([]:List Addr):=λb z=>absurd z #[3]
 have j:∀b o,X.ZK.heap.get? b=some o->b ∉ ch:=λb o e z=>by rw[w b z]at e;cases e
 have step:∀b o,s.heap.get? b=some o->b ∉ ch ->∃r,h'.get? b=some {o with slots:=r}:=λb o e u=>by
  by_cases a:b∈frs X.stack
  .exact k.slot b o e a
  .exact ⟨o.slots,k.keep b o e a u⟩
 refine⟨λb o e n a _=>?_,λb o e n a _=>?_,λb o e n _=>B.free b o e n (c b),λb o e _=>?_,B.XU,B.X2,B.XT⟩
 .refine k.keep b o (B.keep b o e n a (c b)) (λz=>?_) (j b o e)
  rcases y b z with z|z
  .exact f b o e z
  .exact a z
 .obtain ⟨r,q⟩:=B.slot b o e n a (c b)
  let⟨t,d⟩:=step b _ q (j b o e);exact⟨t,d⟩
 .obtain ⟨o',q⟩:=B.there b o e (c b)
  let⟨t,d⟩:=step b _ q (j b o e);exact⟨_,d⟩
def jt{ch:List Addr}(I:L2.Z4 X Y Z H s)(k:Yy (frs X.stack) ch s.heap h')(g:∀b∈ch,H b=none):HOk X.prog X.w H h':=λa o e=>by
 have d:∀b u,H b=some u->b ∉ ch:=λb u q z=>by rw[g b z]at q;cases q
 have f:∀b u,H b=some u->b ∉ frs X.stack:=λb u q z=>by rw[I.Uj b z]at q;cases q
 refine(I.ZO a o e).YO (λb u c q=>?_) (λ_ q=>q) λ_ _ q=>q;rcases c with rfl|c
 .exact k.keep b u q (f b _ e) (d b _ e)
 .exact k.keep b u q (f b _ c) (d b _ c)
def fz(I:L2.Z4 X Y Z H s)(a:X.stack=X.env::X.outer):X.env.frame=some X.env.locals:=by
 rcases I.ok.WZ with z|⟨_,z⟩
 .rw [a]at z;exact absurd (T8 List.length z) #[3]
 .exact z
def leave_new{e:Addr}{vs:Array Value}{E0:XK}(I:L2.Z4 X Y Z H s)(c:X.ex=[])(d:X.stack=X.env::X.outer)(k:s.heap.get? e=some oe)(l:oe.data=.fields vs)(m:vs[1]?=some .none)(g:H e=none)(h:X.ZK.heap.get? e=none)(q:E0 oe.cls oe.dict H):
  wpAny (model X.prog X.w) X.A (leaving X.env (.ref e)) (λ_ s'=>CX1 X.prog X.w X.outer X.W1 X.ZK E0 (.ref e) s') (λe' s'=>CX1 X.prog X.w X.outer X.W1 X.ZK E0 e' s') s:=by
 have hf:=fz I d;have n:s.heap.FunFrames X.base (X.env::X.outer):=by rw[<-d];exact I.stack
 refine su (by rw[I.ok.frames,d]) n hf k l m λh' T K hT j=>?_
 rw[<-d]at K;have a:X.ZK.heap.get? T=none:=by
  cases q:X.ZK.heap.get? T with
  |none=>rfl
  |some o=>let⟨o',z⟩:=I.base.there T o q (by rw[c];simp);rw[hT]at z;cases z
 have i:=I.ZO.off hT;refine⟨e,oe.cls,oe.dict,H,rfl,⟨I.os,I.bare,kK I c K λb f=>?_,jt I K λb f=>?_,g,h,T,j,i,a⟩,q⟩
 .have:b=e\/b=T:=by simpa using f
  rcases this with rfl|rfl
  .exact h
  .exact a
 .have:b=e\/b=T:=by simpa using f
  rcases this with rfl|rfl
  .exact g
  .exact i
end
section
def u4{C:Addr}{B o:String}{T9 : Expr}{j:Pos}{t:TA}{W:Hp->Prop}(d:OwnCls x C bm newId X.mg X.base)(g:ExcBaseFacts B newId o bm)(m:X.calm=true)(l:Gl X x)(n:PA X (T9::es) t)
  (hx:∀Y Z H s h1 e args,L2.Z4 X Y Z H s->Heap.MadeExcOf s.heap h1 e (.ref C) args->W H->X.xe (.ref e) {s with heap:=h1})
  (hd:(x==("__debug__" : Str))=false) (c:starEach (T9::es) X.env=(false,eval T9 X.env)::starEach es X.env) (p:(backTo Zw (starEach es X.env)).any (·.1)=false) :
  PS X (.Raise (some (.Call (.Name x j) (T9::es) [] Zw)) none pos) (λ_ Z H=>t Z H λvs H1=>vs.length<=sizeLine/\W H1):=by
 intro Y s Z H D I h;let⟨tl,N,nm,q,bs,hdct,sn,sub,ab,col,dd,k0,k1,k2,k3,k5,mN,hC,hN,b,T⟩:=d.obj;refine wpAny_Raise_call_subT (C:=C) (nm:=nm) (q:=q) (N:=N) (bs:=bs) (bm:=tl) (hdct:=hdct) (sn:=sn) (sub:=sub) (ab:=ab) (col:=col) (dd:=dd) (k0:=k0) (k1:=k1) (k2:=k2) (k3:=k3) (k5:=k5)
  g (mN:=mN) (T.hasType g.hasBase) (I.ok.hd m) (by rw[c];show(false||(backTo Zw (starEach es X.env)).any (·.1))=false;rw[p];rfl) b (be I l d.bound ⟨rfl,?_⟩ hd)
 have f:=n Zw Y s Z H _ I h;rw[c]at f ⊢;exact RQ (Ve f (λM i ⟨vs,H2,a,r,z,q⟩=>⟨rfl,by show M.length<=sizeLine;rw[<-r.length];exact z,a.bk _ _ hC,hN.keeps a.bk,T.keeps a.bk,λh' e k=>hx Y Z H2 i h' e M a k q⟩) λ_ _ y=>y)
end
section
variable{Z:L2.St}
def sY{ch:List Addr}(I:L2.Z4 X Y Z H s)(t:X.ex=[])(keep:∀b o,s.heap.get? b=some o->b ∉ frs X.stack->b ∉ ch->h'.get? b=some o)
  (slot:∀b o,s.heap.get? b=some o->b∈frs X.stack ->∃j,h'.get? b=some {o with slots:=j}) (Q:X.env.locals∈frs X.stack)
  (w:∀b∈ch,X.ZK.heap.get? b=none/\H b=none/\b ∉ frs X.stack/\(∀x c,X.env.cells.lookup x=some c->c≠b) /\∀p∈X.pn++Y,p.1≠b):L2.Z4 X Y Z H {s with heap:=h'}:=by
 have L:∀b,b∈frs X.stack->b=X.env.locals\/b∈frs X.outer:=λb f=>Xl.mp (I.V5 b f);have C:∀b o,X.ZK.heap.get? b=some o->b≠X.env.locals:=λb o e z=>by
  have h1:=Ia e;have h2:=I.ok.above;rw[z]at h1;exact absurd (Ih h1 h2) (U_ _)
 have B:=I.base;rw[t]at B;have y:∀b:Addr,b ∉ ([]:List Addr):=λb z=>absurd z #[3]
 have any:∀b o,s.heap.get? b=some o->b ∉ ch ->∃j,h'.get? b=some {o with slots:=j}:=λb o e P=>by
  by_cases f:b∈frs X.stack
  .exact slot b o e f
  .exact ⟨o.slots,keep b o e f P⟩
 have D:∀b o,X.ZK.heap.get? b=some o->b ∉ ch:=λb o e z=>by rw[(w b z).1]at e;cases e
 have g:∀x c,X.env.cells.lookup x=some c ->∀v,s.heap.IsCell c v->h'.IsCell c v:=λx c e v ⟨o,ho,hd⟩=>by
  let⟨j,q⟩:=any c o ho λz=>(w c z).2.2.2.1 x c e rfl;exact⟨_,q,hd⟩
 refine⟨I.ok,I.os,I.bare,?_,?_,λx c e=>?_,I.free,I.Yw,λp G=>?_,λa o e=>?_,I.len⟩
 .rw [t]
  refine⟨λb o e n f _=>?_,λb o e n f _=>?_,λb o e n _=>B.free b o e n (y b),λb o e _=>?_,B.XU,B.X2,B.XT⟩
  .refine keep b o (B.keep b o e n f (y b)) (λz=>?_) (D b o e)
   rcases L b z with z|z
   .exact C b o e z
   .exact f z
  .obtain ⟨j,q⟩:=B.slot b o e n f (y b)
   let⟨J,A⟩:=any b _ q (D b o e);exact⟨J,A⟩
  .obtain ⟨o',q⟩:=B.there b o e (y b)
   let⟨J,A⟩:=any b _ q (D b o e);exact⟨_,A⟩
 .obtain ⟨m,⟨o,es,R,ho,r⟩,O⟩:=I.loc
  let⟨j,q⟩:=slot _ o ho Q;refine⟨m,⟨_,es,R,q,r⟩,λi x v U T S=>?_⟩;let⟨u,N,l⟩:=O i x v U T S;refine⟨u,N,?_⟩;rcases l with l|⟨k,c,e,z⟩
  .exact .inl l
  .exact .inr ⟨k,c,e,g x c e _ z⟩
 .obtain ⟨v,z⟩:=I.cell x c e
  exact⟨v,g x c e v z⟩
 .obtain ⟨e,n,F,E,d⟩:=I.pin p G
  exact⟨keep p.1 p.2 e (λz=>(L _ z).elim F E) λz=>(w _ z).2.2.2.2 p G rfl,n,F,E,d⟩
 .have M:∀b u,H b=some u->b ∉ ch:=λb u q z=>by rw[(w b z).2.1]at q;cases q
  have K:∀b u,H b=some u->b ∉ frs X.stack:=λb u q z=>by rw[I.Uj b z]at q;cases q
  refine(I.ZO a o e).YO (λb u f q=>?_) (λ_ q=>q) λ_ _ q=>q;rcases f with rfl|f
  .exact keep b u q (K b _ e) (M b _ e)
  .exact keep b u q (K b _ f) (M b _ f)
abbrev Bu(X:Cx)(Y:List (Addr×Obj))(ea:Addr)(oe:Obj):Cx:={X with A:=X.A.mark (some (.ref ea)),calm:=false,pn:=X.pn++Y++[(ea,oe)],xe:=λ_ _=>False}
def iy(I:L2.Z4 X Y Z H s)(d:s.heap.get? ea=some oe)(b:H ea=none)(f:ea≠X.env.locals)(c:ea ∉ X.fs)(e:∀v,oe.data ≠ .cell v):L2.Z4 (Bu X Y ea oe) [] Z H s:=
 ⟨⟨I.ok.mod,I.ok.kind,I.ok.glob,I.ok.blt,I.ok.above,I.ok.inj,I.ok.has,I.ok.V7,(λz=>by cases z),I.ok.frames,I.ok.WZ,I.ok.exf,I.ok.bs,I.ok.Xu,I.ok.Y9,I.ok.Vu,I.ok.Yg,I.ok.WY⟩,I.os,I.bare,I.base,I.loc,I.cell,I.free,I.Yw,λp a=>by
  rw[TJ]at a;rcases U8.mp a with z|z
  .exact I.pin p z
  .have:p=(ea,oe):=by simpa using z
   subst this;exact⟨d,b,f,c,e⟩,I.ZO,I.len⟩
def da{b:L2.St}(I:L2.Z4 X Y Z H s)(a:L2.Z4 (Bu X Y ea oe) [] b H' s'):L2.Z4 X Y b H' s':=
 ⟨I.ok,a.os,a.bare,a.base,a.loc,a.cell,a.free,a.Yw,λp c=>a.pin p (by rw[TJ];exact TV _ c),a.ZO,a.len⟩
def di{E:Value->Shared->Prop}{n:Str}{Q:Unit->Shared->Prop}(I:L2.Z4 X Y Z H s)(hN:X.N.Nodup)(hi:X.N[i]?=some n)(hk:X.env.scope.names.lookup n=some .local)
  (h:∀s',L2.Z4 X Y (Z.set i none) H s'->Q Unit.unit s'):wpAny Z8 A (do bindName X.env n .none;unbindBehindTheSuite X.env n pos) Q E s:=by
 let⟨m,hn,hl⟩:=id I.loc;have WK:(X.env.scope.kind==.class||(X.env.scope.kind==.module&&X.env.locals != X.env.globals))=false:=by rw[I.ok.kind];rfl
 have Xg:=I.Xg;have Vt:∀b o,X.ZK.heap.get? b=some o->b≠X.env.locals:=λb o e=>Ii (Ih (Ia e) I.ok.above);refine wpAny_nameGoes_keeps hk hn WK λh' v Zj hs=>h _ ?_;refine⟨I.ok,I.os,I.bare,⟨λb o e n hb hx=>?_,λb o e n hb hx=>?_,I.base.free,λb o e hx=>?_,I.base.XU,I.base.X2,I.base.XT⟩,⟨_,Zj,λj y v' e1 e2 e3=>?_⟩,λy c e=>?_,I.free,I.Yw,λp hp=>?_,λb ob e=>?_,by simpa using I.len⟩
 .exact (hs.2 b (Vt b o e)).trans (I.base.keep b o e n hb hx)
 .obtain ⟨sl,e1⟩:=I.base.slot b o e n hb hx
  exact⟨sl,(hs.2 b (Vt b o e)).trans e1⟩
 .obtain ⟨o',e1⟩:=I.base.there b o e hx
  exact⟨o',(hs.2 b (Vt b o e)).trans e1⟩
 .have hj:j≠i:=λz=>by
   subst z;have hl:j<Z.length:=by have:=(Yi.mp e2).1;simpa using this
   rw[VL hl]at e2;cases e2
  rw[Wr (Ne.symm hj)]at e2;let⟨u',r',q⟩:=hl j y v' e1 e2 e3;refine⟨u',r',?_⟩;rcases q with⟨k,e⟩|⟨k,c,e,z⟩
  .refine .inl ⟨k,?_⟩
   have:y≠n:=λe=>hj (eW hN e1 (e ▸ hi));simp[this,e]
  .exact .inr ⟨k,c,e,z.sameBut hs (Xg y c e)⟩
 .obtain ⟨w',z⟩:=I.cell y c e
  exact⟨w',z.sameBut hs (Xg y c e)⟩
 .obtain ⟨e,n,ne,nf,d⟩:=I.pin p hp
  exact⟨(hs.2 p.1 ne).trans e,n,ne,nf,d⟩
 .refine (I.ZO b ob e).YO (λc w' hc q=>(hs.2 c ?_).trans q) (λ_ q=>q) λ_ _ q=>q
  rintro rfl;rcases hc with rfl|hc
  .rw [I.free]at e;cases e
  .rw [I.free]at hc;cases hc
end
section
variable{Z:L2.St}
def Di(base:Heap)(C:Addr):Prop:=∃bm N nm q bs hdct sn sub ab col dd k0 k1 k2 k3 k5 newId,base.get? C=some (excClassObj nm q C N bs bm hdct sn sub ab col dd k0 k1 k2 k3 k5 newId)/\bm.contains (.type "BaseException")=true
def Df(X:Cx)(C:Addr)(h:ExceptHandler):Prop:=∃y a n b p D,h = .ExceptHandler (some (.Name y a)) n b p/\X.mg y=some (.ref D)/\Gl X y/\(y==("__debug__" : Str))=false/\PySem.W.kitOne X.K (.ref C) (.ref D)=some false/\PySem.W.mroIn X.K D (.type "BaseException")=some true
def uR{E:Value->Shared->Prop}{Q:Bool->Shared->Prop}{C D:Addr}(X:K.In s.heap)(b:s.heap.get? ea=some oe)(c:oe.cls=.ref C)(k:PySem.W.kitOne K (.ref C) (.ref D)=some false)(e:PySem.W.mroIn K D (.type "BaseException")=some true)(j:Q false s):
  wpAny (model prog w) A (excMatches (.ref ea) (.ref D)) Q E s:=by
 unfold PySem.W.kitOne at k;split at k
 .cases k
 let⟨i,a,n⟩:=PySem.W.kit_cls (M:=model prog w) X k;let⟨h,g,d,t,os⟩:=s;have f:PySem.W.Looks (model prog w) h (isInstance (.ref D) (.type "tuple")) false:=i.andThen (PySem.W.Looks.of_pure tc_notTuple);have l:PySem.W.Looks (model prog w) h (isExcClass (.ref D)) true:=a.andThen (PySem.W.looks_mroIn X e);have m:PySem.W.Looks (model prog w) h (typeOf (.ref ea)) (.ref C):=c ▸ (PySem.W.Looks.ld b).andThen .now;unfold excMatches;refine ZB (f.at ?_)
 repeat (any_goals (first|assumption|lk|wp_step))
def iX{C a:Addr}{oe:Obj}{d:List ExceptHandler}{Q:Flow->Shared->Prop}{E:Value->Shared->Prop}(c:L2.Z4 (Bu X Y a oe) [] Z H s)(e:s.heap.get? a=some oe)(f:oe.cls=.ref C)(h:wpAny (model X.prog X.w) X.A (handleBy (.ref a) X.env d) Q E s):
  ∀{pre:List ExceptHandler},(∀h∈pre,Df X C h)->wpAny (model X.prog X.w) X.A (handleBy (.ref a) X.env (pre++d)) Q E s
 |[],_=>h
 |p::pre,hp=>by
  let⟨y,o,n,b,ps,D,rfl,g,i,j,k,l⟩:=hp p W_;refine wpAny_handleBy_cons (codeAny_handlers_test (be c i g ?_ j)) (by intro q;cases q)
  exact uR c.Zt e f k l (iX c e f h λh m=>hp h (Ig _ m))
def ze{n:Str}{C:Addr}{Vb : Stmt}{Va:List Stmt}{np:Pos}{pre ZV:List ExceptHandler}{Q:Flow->Shared->Prop}{E:Value->Shared->Prop}
  (I:L2.Z4 X Y Z H s) (hex:X.ex=[]) (ZL:X.stack=X.env::X.outer) (F:Fly X.prog X.w X.stack H s ea (.ref C) dx H' s') (Z6:Di X.base C) (hm:X.mg x=some (.ref C)) (hg:Gl X x)
  (hN:X.N.Nodup) (hi:X.N[i]?=some n) (hk:X.env.scope.names.lookup n=some .local) (hd:(x==("__debug__" : Str))=false) (Xp:∀h∈pre,Df X C h)
  (k:∀ oe s4,oe.cls=.ref C->oe.dict=dx->(∃ vs,oe.data=.fields vs)->L2.Z4 (Bu X Y ea oe) [] (Z.set i (some (.ref ea))) H' s4 ->
   wpAny (model X.prog X.w) (X.A.mark (some (.ref ea))) (execs (Vb::Va) X.env) (λf s5=>wpAny (model X.prog X.w) X.A (do bindName X.env n .none;unbindBehindTheSuite X.env n pos) (λ_ s6=>Q f s6) E s5) (λ_ _=>False) s4) :
  wpAny (model X.prog X.w) X.A (noteFrame (.ref ea) X.env) (λ_ s2=>wpAny (model X.prog X.w) X.A (setFlight (.ref ea) none) (λ_ s3 =>
   wpAny (model X.prog X.w) X.A (handleBy (.ref ea) X.env (pre ++ .ExceptHandler (some (.Name x np)) (some n) (Vb::Va) pos::ZV)) Q E s3) E s2) E s':=by
 have hf:=fz I ZL;have fin:X.env.locals∈frs X.stack:=by rw[ZL];unfold frs;rw[VQ,hf];exact W_
 have I1:L2.Z4 X Y Z H' s':=I.U1 F.os F.un F.ZO F.bare (λb z=>absurd z #[3])
 let⟨T,tr,hHT,hsT⟩:=F.tr;have FF:s'.heap.FunFrames X.base (X.env::X.outer):=by rw[<-ZL];exact I1.stack
 have old:∀b,s.heap.get? b=none->X.ZK.heap.get? b=none:=λb e=>by
  cases q:X.ZK.heap.get? b with
  |none=>rfl
  |some o=>let⟨o',z⟩:=I.base.there b o q (by rw[hex];simp);rw[e]at z;cases z
 have VG:∀(b:Addr) (o:Obj) (ws:Array Value),s'.heap.get? b=some o->o.data=.fields ws->b ∉ frs X.stack:=λb o ws e d z=>by
  let⟨_,o',e1,e2⟩:=I1.stack.mem z;rw[e]at e1;cases e1;exact e2 ws d
 have one:∀b o ws,s'.heap.get? b=some o->o.data=.fields ws->s.heap.get? b=none->H' b=none->X.ZK.heap.get? b=none/\H' b=none/\b ∉ frs X.stack/\(∀x c,X.env.cells.lookup x=some c->c≠b) /\∀p∈X.pn++Y,p.1≠b:=λb o ws e d z hz=>by
  refine⟨old b z,hz,VG b o ws e d,λy c ec q=>?_,λp hp q=>?_⟩
  .obtain ⟨v,o',e1,e2⟩:=I.cell y c ec
   rw[q,z]at e1;cases e1
  .obtain ⟨e1,_⟩:=I.pin p hp
   rw[q,z]at e1;cases e1
 have two:∀b,s'.heap.get? b=none->X.ZK.heap.get? b=none/\H' b=none/\b ∉ frs X.stack/\(∀x c,X.env.cells.lookup x=some c->c≠b) /\∀p∈X.pn++Y,p.1≠b:=λb z=>by
  refine⟨?_,I1.ZO.off z,λq=>?_,λy c ec q=>?_,λp hp q=>?_⟩
  .cases q:X.ZK.heap.get? b with
   |none=>rfl
   |some o=>let⟨o',z'⟩:=I1.base.there b o q (by rw[hex];simp);rw[z]at z';cases z'
  .obtain ⟨_,o',e1,_⟩:=I1.stack.mem q;rw[z]at e1;cases e1
  .obtain ⟨v,o',e1,e2⟩:=I1.cell y c ec
   rw[q,z]at e1;cases e1
  .obtain ⟨e1,_⟩:=I1.pin p hp
   rw[q,z]at e1;cases e1
 have tr0:=tr;let⟨oe,vs,oT,ts,he,_,_,hd0,_,Wh,hT,Xz,_⟩:=tr0;refine jG (by rw[I.ok.frames,ZL]) FF hf tr λh4 T' K4 Xi tr4=>?_
 rw[<-ZL]at K4;have YX:∀b∈[ea,T,T'],X.ZK.heap.get? b=none/\H' b=none/\b ∉ frs X.stack/\(∀x c,X.env.cells.lookup x=some c->c≠b) /\∀p∈X.pn++Y,p.1≠b:=λb hb=>by
  have hb:b=ea\/b=T\/b=T':=by simpa using hb
  rcases hb with rfl|rfl|rfl
  .exact one _ oe vs he hd0 F.new F.free
  .exact one _ oT ts hT Xz hsT hHT
  .exact two _ Xi
 have WO:T' ∉ frs X.stack:=(YX T' #[3]).2.2.1
 refine cX (fr:=frs X.stack) WO tr4 λh5 K5 tr5=>?_;have K45:Yy (frs X.stack) [ea,T,T'] s'.heap h5:=(K4.mono #[3]).trans (K5.mono #[3])
 have back:∀h5,Yy (frs X.stack) [ea,T,T'] s'.heap h5->L2.Z4 X Y Z H' {s' with heap:=h5}:=λh5 K=>sY (ch:=[ea,T,T']) I1 hex K.keep K.slot fin YX
 have I5:=back h5 K45;have ne:ea≠X.env.locals/\ea ∉ X.fs:=by
  have z:=(YX ea #[3]).2.2.1
  refine⟨λq=>z (q ▸ fin),λq=>z ?_⟩;rw[ZL];unfold frs;rw[VQ,hf];exact Ig _ q
 let⟨oe5,vs5,_,_,he5,hc5,_,hd5,_⟩:=id tr5;have S5:=iy (oe:=oe5) I5 he5 F.free ne.1 ne.2 (λv q=>by rw[hd5]at q;cases q)
 let⟨bm,N,nm,q,bs,hdct,sn,sub,ab,col,dd,k0,k1,k2,k3,k5,newId,hC,YD⟩:=Z6;refine iX S5 he5 hc5 (wpAny_handleBy_cons (codeAny_handlers_test (be S5 hg hm ?_ hd)) (by intro q;cases q)) Xp
 refine wpAny_excMatches_sub_self (I5.bk _ _ hC) he5 hc5 YD (codeAny_handlers_suite_as ?_);refine cX (fr:=frs X.stack) WO tr5 λh6 K6 tr6=>?_;have I6:=back h6 (K45.trans (K6.mono #[3]))
 let⟨oe6,vs6,_,_,he6,hc6,hdx6,hd6,_⟩:=id tr6;have S6:=iy (oe:=oe6) I6 he6 F.free ne.1 ne.2 (λv q=>by rw[hd6]at q;cases q)
 refine cz (X:=Bu X Y ea oe6) (v:=.ref ea) S6 hN hi (.inl hk) rfl (λs7 I7=>?_) (.inr hk);exact Ve (k oe6 s7 hc6 hdx6 ⟨_,hd6⟩ I7) (λ_ _ q=>q) λ_ _ z=>z.elim
end
section
abbrev Bl(X:Cx)(pn:List (Addr×Obj))(E':Value->Shared->Prop):Cx:={X with pn:=pn,xe:=E'}
def yc{Z:L2.St}(I:L2.Z4 X Y Z H s):L2.Z4 (Bl X (X.pn++Y) E') [] Z H s:=
 ⟨⟨I.ok.mod,I.ok.kind,I.ok.glob,I.ok.blt,I.ok.above,I.ok.inj,I.ok.has,I.ok.V7,I.ok.hd,I.ok.frames,I.ok.WZ,I.ok.exf,I.ok.bs,I.ok.Xu,I.ok.Y9,I.ok.Vu,I.ok.Yg,I.ok.WY⟩,I.os,I.bare,I.base,I.loc,I.cell,I.free,I.Yw,λp a=>I.pin p (by rw[TJ]at a;exact a),I.ZO,I.len⟩
def cG{d:List (Addr×Obj)}{Z:L2.St}(b:X.Ok)(a:L2.Z4 (Bl X (X.pn++Y) E') d Z H s):L2.Z4 X Y Z H s:=
 ⟨b,a.os,a.bare,a.base,a.loc,a.cell,a.free,a.Yw,λp c=>a.pin p (TV _ c),a.ZO,a.len⟩
def FK(i:Nat)(D:Ends):Ends:={nx:=λZ H=>D.nx (Z.set i none) H,rt:=D.rt,bk:=λZ H=>D.bk (Z.set i none) H,ct:=λZ H=>D.ct (Z.set i none) H}
def Catch(X:Cx)(n:Str)(f:List ExceptHandler)(C:Addr)(d:Addr->Option Addr->TS):Prop:=∃a x e b c pos ZV,f=a ++ .ExceptHandler (some (.Name x e)) (some n) (b::c) pos::ZV/\(∀h∈a,Df X C h)/\Di X.base C/\X.mg x=some (.ref C)/\Gl X x/\(x==("__debug__" : Str))=false /\
 ∀(ea:Addr) (dx:Option Addr) (oe:Obj) (Y:List (Addr×Obj)),oe.cls=.ref C->oe.dict=dx->(∃vs,oe.data=.fields vs)->PSs (Bu X Y ea oe) (b::c) (d ea dx)
def HK(a:Addr->(Addr->Option Addr->TS)->Prop)(i n:Nat)(tb:XK->TS):TS:=λD Z H=>
 tb (λC' dx H'=>∃C ts,C'=.ref C/\a C ts /\∀(ea:Addr) (ZX:L2.St),H' ea=none->ZX.length=n->ts ea dx (FK i D) (ZX.set i (some (.ref ea))) H') D Z H
def aaq{n:Str}{A:ExceptHandler}{t:List ExceptHandler}{tb:XK->TS}
  (o:X.ex=[]) (L:X.stack=X.env::X.outer) (l:X.N.Nodup) (k:X.N[i]?=some n) (j:X.env.scope.names.lookup n=some .local)
  (E:∀(E0:XK) (pn:List (Addr×Obj)) (E':Value->Shared->Prop),AA (CX1 X.prog X.w) (Bl X pn E') E0->PSs (Bl X pn E') body (tb E0)) :
  PS X (.Try body (A::t) [] [] pos) (HK (Catch X n (A::t)) i X.N.length tb):=by
 intro Y s Z H D I h;rw[arm_exec_Try];refine ZB (Tn (wpAny_tryStmt_except ?_));refine Ve (E _ (X.pn++Y) _ ?_ [] s Z H D (yc I) h) (λf p q=>?_) (λe p q=>q)
 .rintro T ZX H' U e s' M ⟨ea,C',dx,H2,rfl,F,C,ts,rfl,⟨pre,x,np,V,W,y,ZV,J,P,Z6,hm,B,hd,G⟩,q⟩
  have g:=cG I.ok M;rw[J];refine ze g o L F Z6 hm B l k j hd P λoe s4 Q K O R=>?_;refine Ve (G ea dx oe Y Q K O [] s4 _ H2 (FK i D) R (q ea ZX F.free g.len)) (λf S z=>?_) λ_ _ z=>z;cases f with
  |next=>let⟨b,c,a,z⟩:=z;exact di (da g a) l k j λm d=>⟨_,_,d,z⟩
  |brk=>let⟨b,c,a,z⟩:=z;exact di (da g a) l k j λm d=>⟨_,_,d,z⟩
  |cont=>let⟨b,c,a,z⟩:=z;exact di (da g a) l k j λm d=>⟨_,_,d,z⟩
  |ret u=>let⟨v,b,c,a,r,z⟩:=z;exact di (da g a) l k j λm d=>⟨v,_,_,d,r,z⟩
 .cases f with
  |next=>let⟨b,c,a,z⟩:=q;exact dH Y p b c D (cG I.ok a) z
  |brk=>let⟨b,c,a,z⟩:=q;exact⟨b,c,cG I.ok a,z⟩
  |cont=>let⟨b,c,a,z⟩:=q;exact⟨b,c,cG I.ok a,z⟩
  |ret u=>let⟨v,b,c,a,r,z⟩:=q;exact⟨v,b,c,cG I.ok a,r,z⟩
end
open PySem PySem.Spec PySem.Calls PyProof.Rows L2 PySem.W PySem.Builtin PySem.Builtin.ObjectAttr PySem.Builtin.Getset_descriptor
section
variable{E:Value->Shared->Prop}{x C:Addr}{ox:Obj}{odo:Option Obj}
def aag{g:Array GenState}{d:Drawn}{t:Nat}{b:OsState}{c:Value}{Q:Unit->Shared->Prop}(X:K.In h)(j:Looks Z8 h (typeOf (.ref x)) (.ref C))(a:mroIn K C (.type "BaseException")=some true)(k:Q Unit.unit ⟨h,g,d,t,b⟩):wpAny Z8 A (checkBuiltinCall "BaseException.__getattribute__" ⟨[.ref x,c],[]⟩) Q E ⟨h,g,d,t,b⟩:=by
 have hk:builtinKind "BaseException.__getattribute__" = some .slot:=by decide +kernel
 have e:splitId "BaseException.__getattribute__" = some ("BaseException","__getattribute__"):=by decide +kernel
 have l:=F.args_bexc_ga (.ref x) c;have i:=QQ (M:=Z8) X a;have f:Looks Z8 h (isInstance (.ref x) (.type "BaseException")) true:=j.andThen i;simp![checkBuiltinCall,hk,e];refine ZB (f.at ?_)
 repeat (any_goals (first|assumption|wp_step))
def kE{g:Array GenState}{d:Drawn}{t:Nat}{j:OsState}{tk:Tok}{f b:Bool}{c:Builtin.ObjectAttr.Found}{Q:Value->Shared->Prop}(X:K.In h)(n:Looks (model prog w) h (typeOf (.ref x)) (.ref C))(m:findIn K (.ref C) "__getattribute__" = some (some (.builtin "BaseException.__getattribute__")))
  (o:findIn K (.ref C) "__getattr__" = some none) (l:mroIn K C (.type "BaseException")=some true) (y:Looks (model prog w) h (Builtin.ObjectAttr.find (.ref x) (.ref C) name) c)
  (i:∀(s:Around) (E':Value->Shared->Prop),match c with|.value v=>wpAny (model prog w) A (handedOut v) Q E ⟨h,g,d,t,j⟩|.bind gg a=>wpAny (model prog w) s (Builtin.ObjectAttr.bindTo gg a (.ref x) (.ref C)) (λe s'=>match e with|.done (.ret v)=>wpAny (model prog w) A (handedOut v) Q E s'|_=>False) E' ⟨h,g,d,t,j⟩|.missing=>False) :
  wpAny (model prog w) A (getAttrBy (.ref x) (.str name tk) f b) Q E ⟨h,g,d,t,j⟩:=by
 have r:=R9 (M:=model prog w) X m;have L2:=R9 (M:=model prog w) X o;have p:=F.excAttr_ValueError.ga.bind (.ref x);have k:(b&&onTheHeap (Value.builtin "BaseException.__getattribute__"))=false:=by cases b<;>rfl
 have q:(Value.builtin "BaseException.__getattribute__" == Value.builtin "object.__getattribute__")=false:=by decide +kernel
 unfold getAttrBy;refine Uu (ZB (n.at (ZB (r.at ?_))));simp![q,Bool.and_false,Vj,Td];unfold getAttrByItsOwn hookBefore;refine ZB ?_;show wpAny _ _ (typeLookup (.ref C) "__getattr__") _ _ _;refine L2.at ?_;refine ZB (wpAny_attempt (Uu ?_));unfold callGetattribute;simp![k,Vj,Td];unfold boundAndCalled;rw[p];refine ZB (ZP ?_);refine S4 (Sy F.excAttr_ValueError.ga.plain F.entry_bexc_ga (aag X n l ?_));unfold Builtin.«object.__getattribute__»
 repeat (any_goals (first|assumption|lk|wp_step))
 have u:=i;cases c with
 |value v=>exact ZP (i A E)
 |bind gg a=>
  refine Ve (i A.in1 (λ_ _=>False)) (λe s' z=>?_) λ_ _ z=>z.elim;rcases e with(_|_|_|_)|_<;>first|exact z|exact z.elim
 |missing=>exact(i A E).elim
def uD{a g:Value}(X:K.In h)(d:findIn K (.ref C) name=some (some a))(c:specialIn K a "__get__" = some (some g))(b:takesIn K a=some true):
  Looks Z8 h (Builtin.ObjectAttr.find (.ref x) (.ref C) name) (.bind g a):=by
 have f:=R9 (M:=Z8) X d;have L2:Looks Z8 h (Builtin.ObjectAttr.getOf (some a)) (some g):=looks_specialIn X c;have e:=looks_takesIn (M:=Z8) X b;refine f.andThen (L2.andThen ?_);exact(show Looks Z8 h (Builtin.ObjectAttr.dataDescriptor? (some a) (some g)) (some (g,a))from e.andThen .now).andThen (Looks.tag .now)
def tH{a:Value}{R:Result->Shared->Prop}(X:K.In s.heap)(hx:s.heap.get? x=some ox)(d:ox.cls=.ref C)(b:mroIn K C (.type "object")=some true)
  (h:R (.ok (.ret (.ref C))) s):codeAny (model prog w) A (.call (.builtin "getset_descriptor.__get__") ⟨[.builtin "object.__class__",.ref x,a],[]⟩) R s:=by
 let⟨c,g,e,t,os⟩:=s;have i:Looks (model prog w) c (typeOf (.ref x)) (.ref C):=d ▸ (Looks.ld hx).andThen .now;have f:=QQ (M:=model prog w) X b;refine Sy KF.slot_gs.plain KF.entry_gs (KF.slot_gs.check _ _ _ _ _ _ _ _ KF.type_class (KF.args_gs _ _ _) ?_);unfold Builtin.«getset_descriptor.__get__» descrGet;rw[dga_obj];refine ZB (ZP ?_);unfold descrGetter descrCheckInstance descrNameAndClass isInstance;simp![KF.owner_class]
 repeat lk
 refine⟨Qf _ (by decide +kernel),codeAny_builtin KF.entry_class ?_⟩
 unfold Builtin.«object.__class__» shownTypeOf
 repeat lk
 exact h
structure VF(K:Il)(C:Addr):Prop where
 ga:findIn K (.ref C) "__getattribute__" = some (some (.builtin "BaseException.__getattribute__"))
 gt:findIn K (.ref C) "__getattr__" = some none
 mb:mroIn K C (.type "BaseException")=some true
 cl:findIn K (.ref C) "__class__" = some (some (.builtin "object.__class__"))
 gn:specialIn K (.builtin "object.__class__") "__get__" = some (some (.builtin "getset_descriptor.__get__"))
 tk:takesIn K (.builtin "object.__class__")=some true
 mo:mroIn K C (.type "object")=some true
 cs:(clsIn K C).isSome=true
def zB{Q:Option Value->Shared->Prop}(F:VF K C)(X:K.In s.heap)(hx:s.heap.get? x=some ox)(a:ox.cls=.ref C)
  (h:Q (some (.ref C)) {s with toks:=s.toks+1}):wpAny (model prog w) A (getAttr? (.ref x) "__class__") Q E s:=by
 let⟨b,g,d,t,os⟩:=s;have c:Looks (model prog w) b (typeOf (.ref x)) (.ref C):=a ▸ (Looks.ld hx).andThen .now;unfold getAttr? getAttrBy?;refine ZB (wpAny_mkText (ZB (wpAny_attempt (kE X c F.ga F.gt F.mb (uD X F.cl F.gn F.tk) λe E'=>?_))));show wpAny _ _ (Builtin.ObjectAttr.bindTo _ _ _ _) _ _ _;unfold Builtin.ObjectAttr.bindTo;show wpAny _ _ (holding [.builtin "object.__class__"] (call (.builtin "getset_descriptor.__get__") [.builtin "object.__class__",.ref x,.ref C]) >>= ret) _ _ _;refine ZB (Uu (S4 (tH X hx a F.mo ?_)));exact ZP (handed_on rfl (ZP h))
def ja(F:VF K C):KitX K (.ref x) (.ref C) (λh=>∃ox,h.get? x=some ox/\ox.cls=.ref C) where
 ty:=λ_ _ _ ⟨_,hx,hc⟩=>hc ▸ (Looks.ld hx).andThen .now
 it:=λ_ _ X _=>by
  let⟨cdD,XM⟩:=Tt.mp F.cs;unfold clsIn at XM;split at XM
  .rename_i c' d' cd' Xf ho
   intro A' Q' E' s' k q;unfold isType loadHead;exact ZB (Qb (k _ _ (X _ _ ho)) (ZP q))
  .cases XM
 ne:=λh tp dd ZY n sl X htp=>by
  let⟨cdD,XM⟩:=Tt.mp F.cs;refine Bool.eq_false_iff.mpr λq=>?_;have e:C=tp:=Value.ref.inj (W6.mp q);subst e;unfold clsIn at XM;split at XM
  .rename_i c' d' cd' Xf ho
   have z:=(X _ _ ho).symm.trans htp;cases z
  .cases XM
 ca:=λX q k=>q.elim λ_ h=>zB F X h.1 h.2 k
end
open PySem PySem.Spec PyProof.Rows L2 PySem.W
structure Gr(H H':Hp):Prop where
 Uy:∀K J,ZN K J H J H'
 rh:∀K J g,RH K J H g->RH K J H' g
def Gr.refl{H:Hp}:Gr H H:=⟨λ_ _=>.refl,λ_ _ _ h=>h⟩
def Gr.trans{H d c:Hp}(a:Gr H d)(b:Gr d c):Gr H c:=⟨λK J=>(a.Uy K J).trans (b.Uy K J),λK J g h=>b.rh K J g (a.rh K J g h)⟩
def Gr.fresh{H:Hp}{t:Addr}{o:HO}(h:H t=none):Gr H (upd H t o):=⟨λ_ _=>.fresh h,λ_ _ _ k=>k.step_fresh h⟩
def Gr.at(g:Gr H H'){o:HO}(h:H a=some o):H' a=some o:=(g.Uy [] []).Yj a o h #[3]
def XMk(K:Il)(mg:Str->Option Value)(base:Heap)(x:Str)(C:Addr)(a:List Str):Prop:=match a with
 |[]=>∃bm newId B Yx,OwnCls x C bm newId mg base/\ExcBaseFacts B newId Yx bm
 |_::_=>∃fI YQ newId B Yx,(∃bm N nm q bs hdct sn sub ab col dd k0 k1 k2 k3 k5 mN,base.get? C=some (excClassObj nm q C N bs bm hdct sn sub ab col dd k0 k1 k2 k3 k5 newId)/\base.Ns N mN/\mN "__init__" = some (.ref fI)/\OwnTail base YQ bm) /\
   ExcBaseFacts B newId Yx YQ/\(∀f∈a,Vd K C f/\findIn K (.ref C) f=some none)/\Ua K C fI a
structure XC(K:Il)(mg:Str->Option Value)(base:Heap)(x:Str)(fo:List Str)(as:List (Str×Bool))(C:Addr):Prop where
 bound:mg x=some (.ref C)
 cls:Di base C
 made:XMk K mg base x C fo
 Ux:VF K C
 Uw:∀y b,as.lookup y=some b ->∃c v,RelV v c/\(∀u,RelV v u->u=c)/\((bootBuiltins y=some c/\mg y=none/\y ≠ "__name__")\/mg y=some c)/\(y==("__debug__" : Str))=false/\kitOne K (.ref C) c=some b
abbrev XF:=Option (Addr×List (Str×V))
def XFok(H:Hp):XF->Prop
 |none=>True
 |some (dx,fs)=>H dx=some (.xd fs)
def kG{b:Type}{f:Str}:∀{a:List Str} {vs:List b} {k:Nat},C4 f a=some k->a.length=vs.length ->∃v,vs[k]?=some v/\(a.zip vs).lookup f=some v
 |[],_,_,e,_=>by cases e
 |g::r,[],_,_,l=>by cases l
 |g::r,v::vs,k,e,l=>by
  unfold C4 at e;cases z:f==g with
  |true=>rw[z]at e;cases e;exact⟨v,rfl,by simp[List.lookup,z]⟩
  |false=>
   rw[z]at e;let⟨j,c,rfl⟩:=Yn.mp e;let⟨w,h1,h2⟩:=kG (vs:=vs) c (by simpa using l)
   exact⟨w,by simpa using h1,by simp![S9,List.lookup,z];exact h2⟩
def XFok.gr{xf:XF}(g:Gr H H')(h:XFok H xf):XFok H' xf:=by
 cases xf with
 |none=>trivial
 |some p=>exact g.at h
def J0(i:Nat)(a:Addr)(xf:XF)(v:V):TE:=λZ H Q=>Z[i]?=some (some (.ref a))/\XFok H xf /\∀H',Gr H H'->Q v H'
def J1(i:Nat)(a:Addr)(xf:XF)(vs:List V):TA:=λZ H Q=>Z[i]?=some (some (.ref a))/\XFok H xf /\∀H',Gr H H'->Q vs H'
def kN{q:Expr×Expr}(h:Es es=some q):es=[q.1,q.2]:=by
 cases es with
 |nil=>exact qN h
 |cons y es=>cases es with
  |nil=>exact qN h
  |cons z es=>cases es with
   |nil=>cases h;rfl
   |cons _ _=>exact qN h
def xb{q:Expr×Expr}(h:Gc e=some q):∃c p,e = .Tuple [q.1,q.2] c p:=by
 cases e with
 |Tuple ts c p=>exact⟨c,p,by rw[kN h]⟩
 |_=>exact qN h
def XR(K:Il)(ws:List V):Nat ⊕ U->V->Prop
 |.inr u,w=>∀J H,RV K J H u w
 |.inl k,w=>ws[k]?=some w
def XRs(K:Il)(ws:List V):List (Nat ⊕ U)->List V->Prop
 |[],vs=>vs=[]
 |x::xs,vs=>∃v r,vs=v::r/\XR K ws x v/\XRs K ws xs r
section
variable{n:Str}{fo:List Str}{C:Addr}{bt:List Str}{xf:XF}{ws:List V}
def zC{c:Value}(F:VF X.K C)(hp:(ea,oe)∈X.pn)(h:oe.cls=.ref C)(g:∀u,RelV v u->u=c)(k:kitOne X.K (.ref C) c=some b):CallR X (.builtin "isinstance") (λxs H Q=>xs=[.ref ea,v]/\Q (.bl b) H):=by
 intro Y s Z H xs M Q I a ⟨e,q⟩;subst e;cases a with
 |cons f a=>
  cases a with
  |cons d a=>
   cases a;cases f;cases g _ d;exact kia_one (ja F) I.Zt ⟨oe,(I.pin _ (TV _ hp)).1,h⟩ k (λz=>nomatch z) λtk=>⟨.bl b,H,I.tok tk,rfl,q⟩
def zT{c h:Value}{f:V}{a:Bool}(F:VF X.K C)(hp:(ea,oe)∈X.pn)(x:oe.cls=.ref C)(p:∀u,RelV v u->u=c)(y:∀u,RelV f u->u=h)(k:kitOne X.K (.ref C) c=some a)(k2:kitOne X.K (.ref C) h=some b):
  CallR X (.builtin "isinstance") (λxs H Q=>∃t,xs=[.ref ea,.ref t]/\H t=some (.ZZ [v,f])/\Q (.bl (a||b)) H):=by
 intro Y s Z H xs M Q I d ⟨t,e,w,q⟩;subst e;cases d with
 |cons j d=>
  cases d with
  |cons i d=>
   cases d;cases j;cases i;let⟨_,ZY,r,o,h1,h2,m,g⟩:=I.ZO t _ w;cases r with
   |cons n r=>
    cases r with
    |cons l r=>
     cases r;cases p _ n;cases y _ l;let⟨Kq,od,B,A⟩:=o;dsimp only at h2 g;subst h2;subst g;refine kia_tup (ja F) I.Zt ⟨oe,(I.pin _ (TV _ hp)).1,x⟩ h1 (b:=a||b) ?_ (λz=>nomatch z) λtk=>⟨.bl (a||b),H,I.tok tk,rfl,q⟩;simp![kitAny,k,k2];cases a<;>cases b<;>rfl
def fX{y:Str}{c:Value}(d:Gl X y)(r:RelV v c)(h:(bootBuiltins y=some c/\X.mg y=none/\y ≠ "__name__")\/X.mg y=some c)(e:(y==("__debug__" : Str))=false):PE X (.Name y pos) (IX v):=by
 rcases h with⟨a,b,c⟩|h
 .exact jX d b a r c e
 .exact ff d h r e
def xH{f:Str}{d:Addr}{r:List (Str×V)}{J:Pos}(X4:r.lookup f=some v)(F:VF X.K C)(S:findIn X.K (.ref C) f=some none)(R:hasDictIn X.K C=true)(hp:(ea,oe)∈X.pn)(U:oe.cls=.ref C)(Zl:oe.dict=some d)(t:∃vs,oe.data=.fields vs)(hN:X.N[i]?=some n)(M:Vis X.env.scope n)(T:(n==("__debug__" : Str))=false)(Zg:(n==("__classdict__" : Str))=false):
  PE X (.Attribute (.Name n J) f pos) (J0 i ea (some (d,r)) v):=by
 intro Y s Z H Q I ⟨G,E,D⟩;refine kr #[2] (thn (cL hN M T Zg Y s Z H (λy H1=>y=.ref ea/\H1=H) I ⟨_,G,rfl,rfl⟩) ?_);rintro u g ⟨y,H1,c,B,e1,e2⟩
 subst e1;subst e2;obtain rfl:u=Value.ref ea:=B;let⟨mA,L,j⟩:=(show ObjOk X.prog X.w _ g.heap d (.xd r)from c.ZO d _ E);let⟨od,k,P⟩:=eO L;have a:=j f;rw[X4]at a;cases hm:mA f with
 |none=>rw[hm]at a;exact a.elim
 |some A=>
  rw[hm]at a;have z:PySem.W.InstAt g.heap ea oe C (some od):=⟨(c.pin _ (TV _ hp)).1,U,by let⟨vs,t⟩:=t;unfold notCls;rw[t],by rw[Zl];exact k⟩
  have o:findObj X.K C (some od) f=some (.value A):=findObj_own R S rfl (by rw[P,hm])
  let⟨O,g1,d1,t1,KJ⟩:=g;unfold getAttr;refine ZB (wpAny_mkText (kE c.Zt z.type F.ga F.gt F.mb (looks_find c.Zt z o) λA' E'=>?_));exact handed_on (iQ a) ⟨v,H1,c.tok _,a,D H1 .refl⟩
def vV(F:XC X.K X.mg X.base x fo as C)(hp:(ea,oe)∈X.pn)(P:oe.cls=.ref C)(I:fo≠[]->ws.length=fo.length /\∃dx,oe.dict=some dx/\xf=some (dx,fo.zip ws))(Y3:∃vs,oe.data=.fields vs)(Zh:X.env.scope=sc)(XH:∀y∈bt,X.mg y=none)(S:X.N[i]?=some n)(J:Vis X.env.scope n)(hd:(n==("__debug__" : Str))=false)(Zg:(n==("__classdict__" : Str))=false){u:Nat ⊕ U}(h:CG bt sc n fo as e=some u):
  isStar e=false /\∃v,XR X.K ws u v/\PE X e (J0 i ea xf v):=by
 have gl:∀y,glob sc y=true->Gl X y:=λy G=>by
  show X.env.scope.names.lookup y=_;rw[Zh];exact W6.mp G
 cases e with
 |Constant c k p=>cases c with
  |str s=>cases h;exact⟨rfl,_,λ_ _=>rfl,nj.imp λZ H Q ⟨_,_,q⟩=>q H .refl⟩
  |_=>exact qN h
 |Attribute o f p=>
  refine qB h λn' M h=>qI h λd h=>qM h λk hk e=>?_;let⟨p1,rfl⟩:=aD M;cases Ik d;subst e;have Z8:=F.made;cases fo with
  |nil=>cases hk
  |cons f0 fr=>
   let⟨hl,dx,Zl,rfl⟩:=I #[3]
   let⟨v,h1,h2⟩:=kG hk hl.symm;let⟨fI,YQ,newId,B,Yx,_,_,XS,_⟩:=Z8;have E:f∈f0::fr:=(RX (SE h2)).1;exact⟨rfl,v,h1,xH h2 F.Ux (XS f E).2 (XS f E).1.hd hp P Zl Y3 S J hd Zg⟩
 |Call f es ks p=>cases ks with
  |cons _ _=>exact qN h
  |nil=>
   refine qB h λf' E h=>qB h λq hq h=>qB h λn' M h=>qI h λd A=>?_;let⟨D,j⟩:=q;let⟨pf,rfl⟩:=aD E;cases kN hq;let⟨pn,rfl⟩:=aD M;simp![Zc,XE]at d;let⟨⟨⟨rfl,rfl⟩,c3⟩,c4⟩:=d;unfold IC at A;cases R:Io j with
   |some y=>
    rw[R]at A;let⟨py,rfl⟩:=aD R;refine qI A λc5 h=>qM h λb g e=>?_;subst e;let⟨c,v,r,L,Y,W,V⟩:=F.Uw _ _ g;refine⟨rfl,_,λ_ _=>rfl,(pe_callB (zC F.Ux hp P L V) (gl _ c4) (XH _ (Vr.mp c3)) #[2] (ak (cL S J hd Zg) (ak (fX (gl _ c5) r Y W) aJ rfl) rfl)).imp λZ H Q ⟨D,_,j⟩=>?_⟩
    exact⟨_,D,rfl,j H .refl⟩
   |none=>
    rw[R]at A;refine qB A λw hw h=>qB h λy G h=>qB h λz hz h=>qI h λO h=>qB h λa g h=>qM h λb T e=>?_;subst e;let⟨w1,w2⟩:=w;let⟨_,_,rfl⟩:=xb hw;let⟨_,rfl⟩:=aD G;let⟨_,rfl⟩:=aD hz;rw[Zc]at O;let⟨c,v,r,L,Y,W,V⟩:=F.Uw _ _ g;let⟨c',v',r',Uv,Kx,d4,d5⟩:=F.Uw _ _ T;refine⟨rfl,_,λ_ _=>rfl,(pe_callB (zT F.Ux hp P L Uv V d5) (gl _ c4) (XH _ (Vr.mp c3)) #[2] (ak (cL S J hd Zg) (ak (fJ (ak (fX (gl _ O.1) r Y W) (ak (fX (gl _ O.2) r' Kx d4) aJ rfl) rfl)) aJ rfl) rfl)).imp λZ H Q ⟨D,_,j⟩=>?_⟩
    exact⟨_,D,by show 2<=sizeLine;decide,λt ht=>⟨t,rfl,upd_same,j _ (.fresh ht)⟩⟩
 |_=>exact qN h
def iB(F:XC X.K X.mg X.base x fo as C)(hp:(ea,oe)∈X.pn)(j:oe.cls=.ref C)(a:fo≠[]->ws.length=fo.length /\∃dx,oe.dict=some dx/\xf=some (dx,fo.zip ws))(t:∃vs,oe.data=.fields vs)(m:X.env.scope=sc)(w:∀y∈bt,X.mg y=none)(k:X.N[i]?=some n)(f:Vis X.env.scope n)(g:(n==("__debug__" : Str))=false)(o:(n==("__classdict__" : Str))=false):∀{es:List Expr} {M:List (Nat ⊕ U)},Ab (es.map (CG bt sc n fo as))=some M ->
  ∃vs,XRs X.K ws M vs/\PA X es (J1 i ea xf vs)
 |[],M,h=>by cases h;exact⟨[],rfl,λp Y s Z H Q I ⟨_,_,q⟩=>aJ p Y s Z H Q I (q H .refl)⟩
 |e::es,M,h=>by
  rw[YG]at h;cases b:CG bt sc n fo as e with
  |none=>rw[b]at h;cases h
  |some u=>
   rw[b]at h;let⟨G,B,rfl⟩:=Yn.mp h;let⟨st,v,r,E⟩:=vV F hp j a t m w k f g o b;let⟨vs,z,D⟩:=iB F hp j a t m w k f g o B;exact⟨v::vs,⟨v,vs,rfl,r,z⟩,(ak E D (star_ne st es)).imp λZ H Q ⟨d,c,A⟩=>⟨d,c,λH1 l=>⟨d,c.gr l,λH2 g2=>A H2 (l.trans g2)⟩⟩⟩
end
abbrev CL:=List (Addr×List Str)
def XD(fo:List Str)(vs:List V)(b:Hp)(c:Option Addr)(H:Hp):Prop:=match fo with
 |[]=>c=none/\H=b
 |_::_=>∃a,c=some a/\b a=none/\H=upd b a (.xd (fo.zip vs))
def WE(a:CL)(E:XK):XQ:=λc vs H=>∃C fo,a[c]?=some (C,fo)/\(fo=[]\/vs.length=fo.length) /\∀dx H',XD fo vs H dx H'->E (.ref C) dx H'
abbrev VE(K:Il)(cl:CL)(L:List Fn)(d i np:Nat):Sp:=Vg K (WE cl) L d i np
section
variable{W:XQ}
def _root_.L2.PA.ZE{a:List Expr}{t:TA}(h:PA X.ZE a t):PA X a t:=λp Y s Z H Q I b=>
 Ve (h p Y s Z H Q (I.Yt _) b) (λ_ _ ⟨v,H',c,r,q⟩=>⟨v,H',c.Yd,r,q⟩) λ_ _ z=>False.elim z
def _root_.L2.PS.ZE{a:Stmt}{t:TS}(h:PS X.ZE a t):PS X a t:=λY s Z H D I b=>
 Ve (h Y s Z H D (I.Yt _) b) (λ_ _ q=>q.Yd) λ_ _ z=>False.elim z
def _root_.L2.PS.impI{e:Stmt}{t t':TS}(h:PS X e t)(q:∀Y s D Z H,L2.Z4 X Y Z H s->t' D Z H->t D Z H):PS X e t':=λY s Z H D I h'=>h Y s Z H D I (q Y s D Z H I h')
def z8{i:Stmt}{b:Z5}(h:PS X.ZE i (ZF X.K W0 (JR r b))):∀n C,r=JW C n->PS X i (ZF X.K W (JR (JW C (n+1)) (.ZE [b]))):=by
 intro n C e;refine h.ZE.imp λD Z H ⟨d,J,g,hs,k,p⟩=>⟨d,J,g,hs,k,?_⟩;have a:=tz (W':=W0) p;have l:(JW C (n+1)).ex [b] d g=(JR r b d g).bind λf g=>match f with|.nx ZX=>r.ex [] ZX g|f=>.ok f g:=by rw[e];rfl
 rw[l]at a;revert a;cases JR r b d g with
 |ok f g1=>
  cases f with
  |nx j=>
   intro a;cases n with
   |zero=>rw[e]at a;exact a.elim
   |succ n=>rw[e]at a;exact a
  |rt u=>exactλp=>p
  |bk j=>exactλp=>p
  |ct j=>exactλp=>p
 |exc c fs g1=>exactλp=>p
 |Z1=>exactλp=>p
def aa5{c:Expr}{d:E}{as bs:List Stmt}{f:List Z5}(i:PT X c (tT X.K W0 (r.ts d)))(l:PSs X as (ZF X.K W (r.ex f)))(j:PSs X bs (ZF X.K W (r.ex Y6))):PS X (.If c as bs pos) (ZF X.K W (JR r (.Wv d f Y6))):=by
 refine(pk i l j).imp ?_;rintro D Z H ⟨a,J,g,hs,h,p⟩;refine⟨a,J,g,hs,h,(cW (R:=YI) p).mono λk H1 ⟨e,k',g1,s1,h1,m,b⟩=>?_⟩;subst m;cases k' with
 |true=>exact aZ ⟨a,e,g1,hs.step s1,h1,b⟩
 |false=>exact aY ⟨a,e,g1,hs.step s1,h1,b⟩
def vN{fo:List Str}{C:Addr}{a:Expr}{np:Pos}{k:Nat}(T:XC X.K X.mg X.base x fo as C)(hr:Zy (d+2) X.A)(u:X.ex=[])(ZL:X.stack=X.env::X.outer)(Q:X.calm=true)(j:Gl X x)(S:PA X (a::es) (X9 X.K W0 (JL r.ev ZI)))
  (h2:∀vs H,W k vs H->fo=[]\/vs.length=fo.length)
  (hx:∀Y Z H s e oe vs H0,L2.Z4 X Y Z H s->s.heap.get? e=some oe->oe.cls=.ref C->(∃fs,oe.data=.fields fs/\fs[1]?=some .none)->H e=none->X.ZK.heap.get? e=none->W k vs H0->XD fo vs H0 oe.dict H->X.xe (.ref e) s)
  (P:(x==("__debug__" : Str))=false) (O:starEach (a::es) X.env=(false,eval a X.env)::starEach es X.env) (U:(backTo Zw (starEach es X.env)).any (·.1)=false) :
  PS X (.Raise (some (.Call (.Name x np) (a::es) [] Zw)) none pos) (ZF X.K W (JR r (.raise k ZI))):=by
 have Z8:=T.made;cases fo with
 |nil=>
  let⟨bm,newId,B,Yx,L,N⟩:=Z8;refine(u4 (W:=λH=>∃vs,W k vs H) L N Q j S (λY Z H s h1 e args I y ⟨vs,q⟩=>?_) P O U).imp λD Z H ⟨G,J,g,hs,j,p⟩=>?_
  .obtain ⟨t,F,_,_⟩:=y.there
   have E:X.ZK.heap.get? e=none:=by
    cases q:X.ZK.heap.get? e with
    |none=>rfl
    |some o=>let⟨o',z⟩:=I.base.there e o q (by rw[u];simp);rw[y.new]at z;cases z
   exact hx Y Z H _ e _ vs H (I.kept (t':=s.toks) y.keeps) F rfl ⟨_,rfl,rfl⟩ (I.ZO.off y.new) E q ⟨rfl,rfl⟩
  .refine ⟨G,J,g,hs,j,(cW (R:=RVs X.K) p).mono λvs H1 ⟨w,M,g1,s1,h1,rs,c⟩=>?_⟩
   have c:JX X.K W (if M.length<=Ac then .exc k M g1 else .Z1) w H1 D:=c
   split at c
   .rename_i hl
    exact⟨by rw[<-rs.length,TH];unfold Ac at hl;omega,vs,c vs w H1 .refl h1 rs⟩
   .exact c.elim
 |cons f fr=>
  let⟨fI,YQ,newId,B,Yx,L,N,XS,IN⟩:=Z8;refine(ug (W:=λdx ws H=>∃H0,H=upd H0 dx (.xd ((f::fr).zip ws))/\H0 dx=none/\W k ws H0) L T.bound N (λf hf=>(XS f hf).1) IN hr u ZL Q j S (λY Z H s e oe dx ws I q1 q2 q3 q4 q5 q6 ⟨H0,q7,q8,V⟩=>hx Y Z H s e oe ws H0 I q1 q2 q4 q5 q6 V ⟨dx,q3,q8,q7⟩) P O U).imp ?_;rintro D Z H ⟨G,J,g,hs,j,p⟩;refine⟨G,J,g,hs,j,(cW (R:=RVs X.K) p).mono λvs H1 ⟨w,M,g1,s1,h1,rs,c⟩=>?_⟩;have c:JX X.K W (if M.length<=Ac then .exc k M g1 else .Z1) w H1 D:=c
  split at c
  .have q:=c vs w H1 .refl h1 rs
   refine⟨(h2 vs H1 q).resolve_left #[3],λe dx _ Zl _=>⟨H1,rfl,Zl,q⟩⟩
  .exact c.elim
def og{K:Il}{J:List Addr}{H:Hp}:∀{M:List U} {ws:List V} {k:Nat} {v:V},RVs K J H M ws->ws[k]?=some v ->∃u,M[k]?=some u/\RV K J H u v
 |[],ws,k,v,h,e=>by cases h;cases e
 |u::M,ws,k,v,h,e=>by
  let⟨w,t,rfl,h1,h2⟩:=h;cases k with
  |zero=>cases e;exact⟨u,rfl,h1⟩
  |succ k=>exact og (M:=M) h2 (by simpa using e)
def e8{K:Il}{J:List Addr}{H:Hp}{c:List U}{ws:List V}(h:RVs K J H c ws):∀{xs:List (Nat ⊕ U)} {vs:List V},XRs K ws xs vs->RVs K J H (perm c xs) vs
 |[],vs,r=>by cases r;rfl
 |.inr u::xs,vs,r=>by
  let⟨v,d,rfl,b,a⟩:=r;exact⟨v,d,rfl,b _ _,e8 h a⟩
 |.inl k::xs,vs,r=>by
  let⟨v,d,rfl,b,a⟩:=r;let⟨u,e,f⟩:=og h b;exact⟨v,d,rfl,by show RV K J H (c[k]?.getD .ZR) v;rw[e];exact f,e8 h a⟩
def kh{K:Il}{ws:List V}:∀{xs:List (Nat ⊕ U)} {vs:List V},XRs K ws xs vs->vs.length=xs.length
 |[],vs,h=>by cases h;rfl
 |_::xs,vs,h=>by let⟨v,r,rfl,_,h2⟩:=h;simp[kh h2]
def Tells(X:Cx)(n x:Str)(j:List ExceptHandler)(C:Addr)(fo:List Str)(xs:List (Nat ⊕ U)):Prop:=∃a c g f e d b vals i ZV bt sc as,j=a ++ .ExceptHandler (some (.Name c g)) (some n) [.Assign [.Name x f] (.Tuple vals i e) d] b::ZV/\(∀h∈a,Df X C h)/\XC X.K X.mg X.base c fo as C/\Gl X c/\(c==("__debug__" : Str))=false /\
 X.env.scope=sc/\(∀y∈bt,X.mg y=none)/\Ab (vals.map (CG bt sc n fo as))=some xs
def yu{cl:CL}{n:Str}{p9:Pos}{b:List Stmt}{A:List Z5}{h0:ExceptHandler}{hs:List ExceptHandler}
  (hex:X.ex=[]) (ZL:X.stack=X.env::X.outer) (hN:X.N.Nodup) (T:X.N[i]?=some n) (hj:X.N[j]?=some x) (WW:i≠j) (hk:X.env.scope.names.lookup n=some .local)
  (hx:Loc X.env.scope x) (Yu:∀y,X.fn y=true) (We:(n==("__debug__" : Str))=false) (G:(n==("__classdict__" : Str))=false)
  (hc:∀ci p,tb.lookup ci=some p ->∃C fo,cl[ci]?=some (C,fo)/\p.1=fo.length/\Tells X n x (h0::hs) C fo p.2)
  (hb:∀(E0:XK) (pn:List (Addr×Obj)) (E':Value->Shared->Prop),AA (CX1 X.prog X.w) (Bl X pn E') E0->PSs (Bl X pn E') b (ZF X.K (WE cl E0) (r.ex A))) :
  PS X (.Try b (h0::hs) [] [] p9) (ZF X.K W (JR r (.Vz A j tb))):=by
 refine(aaq (tb:=λE0=>ZF X.K (WE cl E0) (r.ex A)) hex ZL hN T hk hb).impI ?_;rintro Y s D Z H I ⟨B,J,g,F,hg,p0⟩;refine⟨B,J,g,F,hg,?_⟩;have p:JX X.K W (BR (r.ex A B g) j tb B) J H D:=p0;clear p0;show JX X.K _ (r.ex A B g) J H _;revert p;cases r.ex A B g with
 |ok f g1=>
  intro p;cases f with
  |nx ZQ=>exact p
  |rt u=>exact p.elim
  |bk ZQ=>exact p.elim
  |ct ZQ=>exact p.elim
 |exc c' fs g1=>
  intro p;simp![BR]at p;cases X4:tb.lookup c' with
  |none=>rw[X4]at p;exact p.elim
  |some q=>
   rw[X4]at p;dsimp only at p;split at p
   .rename_i hq
    let⟨R,hz,hf1⟩:=hq;let⟨C,fo,Yv,Wi,Q,c,p4,p5,p6,p7,p8,vals,kt,ZV,bt,sc,as,eh,Xp,Z6,V,hd,Zh,XH,hv⟩:=hc _ _ X4;intro ws ZU H' st rh rv;have O:fo=[]\/ws.length=fo.length:=by
     rcases hf1 with z|z
     .exact .inl (Qs.mp (Wi.symm.trans z))
     .exact .inr (by rw[<-rv.length,z,Wi])
    refine⟨C,fo,Yv,O,λd H1 xd=>⟨C,λea d D Z H=>q.2.length<=Ac/\Z[i]?=some (some (.ref ea)) /\∃xf:XF,XFok H xf/\(fo≠[]->ws.length=fo.length /\∃dx,d=some dx/\xf=some (dx,fo.zip ws)) /\∀vs,XRs X.K ws q.2 vs ->∀H' t,Gr H H'->H' t=none->D.nx (Z.set j (some (.ref t))) (upd H' t (.ZZ vs)),rfl,⟨Q,c,p4,_,_,p8,ZV,eh,Xp,Z6.cls,Z6.bound,V,hd,λea d oe Y WK M O=>?_⟩,λea ZX hea a=>?_⟩⟩
    .intro Ye s Z H D I ⟨R,q1,xf,qf,qx,q2⟩
     let⟨vs,rs,PAv⟩:=iB (X:=Bu X Y ea oe) (x:=c) (fo:=fo) (as:=as) (C:=C) (i:=i) (xf:=xf) (ws:=ws) ⟨Z6.bound,Z6.cls,Z6.made,Z6.Ux,Z6.Uw⟩ (Ul _ W_) WK (λz=>by let⟨e0,dx,e1,e2⟩:=qx z;exact⟨e0,dx,M.trans e1,e2⟩) O Zh XH T (.inl hk) We G hv
     refine dq (mJ (X:=Bu X Y ea oe) hN hj hx (fJ PAv) #[2] (.inl (Yu x))) dH Ye s Z H D I ?_
     refine⟨q1,qf,λH' g=>⟨?_,λt E=>q2 vs rs H' t g E⟩⟩;rw[kh rs,TH];unfold Ac at R;omega
    .obtain ⟨xf,s1,r1,f1,f2⟩:∃xf:XF,ZN X.K ZU H' ZU H1/\RH X.K ZU H1 g1/\XFok H1 xf/\(fo≠[]->ws.length=fo.length /\∃dx,d=some dx/\xf=some (dx,fo.zip ws)):=by
      cases fo with
      |nil=>let⟨rfl,rfl⟩:=xd;exact⟨none,.refl,rh,trivial,λz=>absurd rfl z⟩
      |cons f fr=>let⟨dx,rfl,Zl,rfl⟩:=xd;exact⟨some (dx,(f::fr).zip ws),.fresh Zl,rh.step_fresh Zl,upd_same,λ_=>⟨O.resolve_left #[3],dx,rfl,rfl⟩⟩
     refine⟨hz,by rw[VL (by rw[a];exact(Yi.mp T).1)],xf,f1,f2,λvs P Yp t gr E=>?_⟩
     have S2:=((st.trans s1).trans (gr.Uy X.K ZU)).trans (.fresh (o:=.ZZ vs) E);refine p _ ZU _ S2 ((gr.rh _ _ _ r1).step_fresh E) ⟨?_,λk u e=>?_⟩
     .simp only [RY,Sd]
      rw[F.len,a,I.len]
     .have S:j<(List.replicate B.length (none:Option U)).length:=by rw[Sd];exact R
      by_cases L:k=j
      .subst L
       rw[VL S]at e;cases e;refine⟨.ref t,?_,t,vs,rfl,upd_same,e8 (RVs.step ((s1.trans (gr.Uy X.K ZU)).trans (.fresh E)) _ _ rv) P⟩;rw[Wr WW,VL (by rw[RY,a];exact(Yi.mp hj).1)]
      .rw [Wr (Ne.symm L),Sg]at e
       split at e<;>cases e
   .exact p.elim
 |Z1=>exactλp=>p
end
open PySem PySem.Spec PyProof.Rows L2
section
variable{Z:L2.St}
def vw{C:Value}{E0:XK}(I:L2.Z4 X Y Z H s)(c:X.ex=[])(g:X.stack=X.env::X.outer)(F:Fly X.prog X.w X.stack H s ea C dx H' s')(q:E0 C dx H'):
  wpAny (model X.prog X.w) X.A (leaving X.env (.ref ea)) (λ_ u=>CX1 X.prog X.w X.outer X.W1 X.ZK E0 (.ref ea) u) (λe' u=>CX1 X.prog X.w X.outer X.W1 X.ZK E0 e' u) s':=by
 have hf:=fz I g;have d:L2.Z4 X Y Z H' s':=I.U1 F.os F.un F.ZO F.bare (λb z=>absurd z #[3])
 let⟨T,tr,t,k⟩:=F.tr;have E:s'.heap.FunFrames X.base (X.env::X.outer):=by rw[<-g];exact d.stack
 have a:∀b,s.heap.get? b=none->X.ZK.heap.get? b=none:=λb e=>by
  cases q:X.ZK.heap.get? b with
  |none=>rfl
  |some o=>let⟨o',z⟩:=I.base.there b o q (by rw[c];simp);rw[e]at z;cases z
 refine uq (by rw[I.ok.frames,g]) E hf tr λh' f K y j=>?_
 rw[<-g]at K;have D:X.ZK.heap.get? f=none:=by
  cases q:X.ZK.heap.get? f with
  |none=>rfl
  |some o=>let⟨o',z⟩:=d.base.there f o q (by rw[c];simp);rw[y]at z;cases z
 have B:=d.ZO.off y;refine⟨ea,C,dx,H',rfl,⟨d.os,d.bare,kK d c K λb r=>?_,jt d K λb r=>?_,F.free,a ea F.new,f,j,B,D⟩,q⟩
 .have:b=ea\/b=T\/b=f:=by simpa using r
  rcases this with rfl|rfl|rfl
  .exact a _ F.new
  .exact a _ k
  .exact D
 .have:b=ea\/b=T\/b=f:=by simpa using r
  rcases this with rfl|rfl|rfl
  .exact F.free
  .exact t
  .exact B
end
def t9{qual:Str}{f:Addr}{b:Value}{H:Hp}{E a:XK}(h:∀C dx H,a C dx H->E C dx H):
  AA (CX1 P w) (Bt (CX1 P w) P w K mg base N qual scope f b A outer s H E) a:=by
 rintro Y Z H' s' e c I ⟨ea,C,dx,H2,rfl,F,q⟩;exact vw I rfl rfl F (h C dx H2 q)
open PySem PySem.Spec PyProof.Rows L2 PySem.W
section
variable{W:XQ}{t:Tg}
def _root_.L2.PG.ZE{t:TG}(h:PG X.ZE tg t):PG X tg t:=λY s Z H v u Q I a b=>
 Ve (h Y s Z H v u Q (I.Yt _) a b) (λ_ _ ⟨ZX,H',c,q⟩=>⟨ZX,H',c.Yd,q⟩) λ_ _ z=>False.elim z
def aaf{a:TI}(h:L2.PI X.ZE tg iter a):L2.PI X tg iter a:=λY s Z H R I b=>
 Ve (h Y s Z H R (I.Yt _) b) (λ_ _ q=>Ve q (λ_ _ ⟨it,fp,tn,c,H',e,d,T,t0,fo,q⟩=>⟨it,fp,tn,c,H',e,d.Yd,T,t0,fo,q⟩) λ_ _ z=>False.elim z) λ_ _ z=>False.elim z
def w6{bs:List Stmt}{n:Nat}(hp:PassesOwn (model X.prog X.w) X.A X.env X.xe)(M:X.calm=true)(L:L2.PI X.ZE tg iter (tI X.K W0 (JO (JW C n) Zz)))(c:PG X tg (tG X.K t))(N:∀n,PSs X bs (ZF X.K W ((JW C n).ex Y6)))
  (b:∀x,foldedSetIterable iter X.env x=pure x):PS X (.For tg iter bs [] pos) (ZF X.K W (JR (JW C n) (.Wu t Zz Y6))):=by
 have T:PSs X bs (λD Z H=>∃m,ZF X.K W ((JW C m).ex Y6) D Z H):=λY s Z H D I ⟨m,h⟩=>N m Y s Z H D I h;refine(mX hp M (aaf L) c T b).imp ?_;rintro D Z H ⟨d,J,g,b,c,p⟩;refine⟨d,J,g,b,c,(cW (R:=RI X.K) p).mono λv H1 ⟨S,it,g1,s1,h1,e,G⟩=>?_⟩;refine⟨λi m Z H=>FrI X W it v D ((JW C m).fr t it i Y6) Z H,⟨n,d,S,g1,b.step s1,h1,e,G⟩,?_⟩;rintro i m Z H ⟨d,J,g,b,c,e,p⟩;cases m with
 |zero=>exact p.elim
 |succ m=>
  have a:JX X.K W (JU (JW C m) t it i Y6 d g) J H D:=p;simp![JU]at a;cases f:next it i g with
  |none=>simp![f]at a;exact a.elim
  |some o=>
   cases o with
   |none=>simp![f]at a;exact .inl ⟨fh c e f,a _ J H .refl c b⟩
   |some u=>
    simp![f]at a;let⟨P,B⟩:=gp c e f;refine .inr ⟨P,λZX H'=>FrI X W it v D ((JW C m).fr t it (i+1) Y6) ZX H',λZX H' q=>⟨m,Sl _,q⟩,λx H' y=>?_⟩;let⟨l,z,E⟩:=B x H' y;cases j:Ae t u d with
    |none=>simp![j]at a;exact a.elim
    |some r=>
     simp![j]at a;refine⟨d,J,g,u,r,b.step l,z,E,eQ j,λXs U=>⟨m,r,J,g,U,z,?_⟩⟩;exact gi (k:=λZX g=>(JW C m).fr t it (i+1) Y6 ZX g) (JX.from a l) λV Q Z ZU H' s3 O WD F=>⟨V,ZU,Q,WD,O,(e.step l).step s3,F⟩
end
def jn{T:Tab}{k:Nat}(h:D5 T x=some k):∃fo as,T.xc[k]?=some (x,fo,as):=by
 let⟨h1,h2,_⟩:=Rv.mp h;refine⟨T.xc[k].2.1,T.xc[k].2.2,?_⟩;rw[Yr h1,<-eq_of_beq h2]
def dC{l:List α}{a:α}(h:Cv l=some a):l=[a]:=by
 cases l with
 |nil=>exact qN h
 |cons b r=>
  refine qI h λh1 h=>?_;cases az h1;cases h
  rfl
def jw{s:Stmt}{q:List Expr×Expr}(h:DY s=some q):∃p,s = .Assign q.1 q.2 p:=by
 cases s with
 |Assign ts v p=>cases h;exact⟨p,rfl⟩
 |_=>exact qN h
def wU{b:List Stmt}{q:Str×Expr}(h:EG b=some q):∃p p2,b=[.Assign [.Name q.1 p] q.2 p2]:=by
 refine qB h λs hs h=>qB h λa f h=>qB h λt d h=>qM h λx c e=>?_;let⟨p2,rfl⟩:=jw f;subst e;let⟨p,rfl⟩:=aD c;rw[dC hs,dC d];exact⟨p,p2,rfl⟩
def vq{h:ExceptHandler}{q:Str×Str×List Stmt}(e:DS h=some q):∃p p2,h = .ExceptHandler (some (.Name q.1 p)) (some q.2.1) q.2.2 p2:=by
 cases h with
 |ExceptHandler c n b p2=>
  refine qB e λc' f h=>qB h λx a h=>qM h λi d g=>?_;subst f;subst d;subst g;let⟨p,rfl⟩:=aD a;exact⟨p,p2,rfl⟩
def xG{vs:List Expr}(h:Gv e=some vs):∃k p,e = .Tuple vs k p:=by
 cases e with
 |Tuple ws k p=>cases h;exact⟨k,p,rfl⟩
 |_=>exact qN h
section
variable(T:Tab)(sc:Scope)(N:List Str)(ce:Expr->Option E)(cs:Stmt->Option Z5)
def jk{q:Expr×Str×Pos}(h:DT e=some q):e = .Attribute q.1 q.2.1 q.2.2:=by
 cases e with
 |Attribute o m ap=>cases h;rfl
 |_=>exact qN h
end
structure Wx(T:Tab)(cl:CL)(L:List Fn)(d:Nat)(X:Cx)(sc:Scope)(N:List Str)(rz:Bool)(W:XQ):Prop where
 ok:Zq T L d X.ZE sc N
 Yv:∀(k:Nat) (x:Str) (fo:List Str) (as:List (Str×Bool)),T.xc[k]?=some (x,fo,as) ->∃C,cl[k]?=some (C,fo)/\XC X.K X.mg X.base x fo as C
 hF1:∀(i:Nat) (x:Str),T.L[i]?=some x->(x==("__debug__" : Str))=false->x∈T.fs ->∃f fd ps,X.mg x=some (.ref f)/\PySem.W.keepIn X.K (.ref f)=true/\Binds X.K fd ps []/\Zb X.prog X.w X.K X.mg X.base (CX1 X.prog X.w) (2*d+2) f fd ps (VE X.K cl L d i ps.length) /\∀F,L[i]?=some F->F.np=ps.length
 hx:rz=true ->∀(k:Nat) (C:Addr) (fo:List Str),cl[k]?=some (C,fo) ->∀Y Z H s e oe vs H0,L2.Z4 X Y Z H s->s.heap.get? e=some oe->oe.cls=.ref C->(∃fs,oe.data=.fields fs/\fs[1]?=some .none)->H e=none->X.ZK.heap.get? e=none->W k vs H0->XD fo vs H0 oe.dict H->X.xe (.ref e) s
 W3:rz=true ->∀(k:Nat) (C:Addr) (fo:List Str),cl[k]?=some (C,fo) ->∀vs H,W k vs H->fo=[]\/vs.length=fo.length
 hM1:∀(y:Str) (c i:Nat) (F:KF) (nd:Nat),T.cl.lookup y=some (c,i,F,nd)->i∈T.fx ->∃C f fd ZH dd,X.mg y=some (.ref C)/\Mk X.K C f/\PySem.W.nsIn X.K mainGlobals (Ag c)=some (some (.ref C))/\X8 X.K fd F nd ZH dd/\F.ns++F.ks≠[]/\Zb X.prog X.w X.K X.mg X.base (CX1 X.prog X.w) (2*d+2) f fd (F.ns++F.ks) (VE X.K cl L d i (F.ns++F.ks).length) /\∀F',L[i]?=some F'->F'.np=(F.ns++F.ks).length
 hT1:∀(m:Str) (l:List (Nat×Nat×KF×Nat)),T.mt.lookup m=some l ->∀c i F nd,(c,i,F,nd)∈l->i∈T.fx ->∃C f fd ZH dd,PySem.W.nsIn X.K mainGlobals (Ag c)=some (some (.ref C))/\YN X.K C/\V2 X.K C m f/\X8 X.K fd F nd ZH dd/\F.ns++F.ks≠[]/\Zb X.prog X.w X.K X.mg X.base (CX1 X.prog X.w) (2*d+2) f fd (F.ns++F.ks) (VE X.K cl L d i (F.ns++F.ks).length) /\∀F',L[i]?=some F'->F'.np=(F.ns++F.ks).length
 hp:∃E0,AA (CX1 X.prog X.w) X E0 /\∀c vs H,W c vs H->WE cl E0 c vs H
 own:rz=true->PassesOwn (model X.prog X.w) X.A X.env X.xe
 ex:X.ex=[]
 WZ:X.stack=X.env::X.outer
 blk:X.env.blockKind=.function
 fn:∀x,X.fn x=true
section
variable{T:Tab}{cl:CL}{L:List Fn}{rz:Bool}{W:XQ}
def bp{f:Stmt->Option Z5}(c:∀s s',f s=some s' ->∀n,PS X s (ZF X.K W (JR (JW (Aa L fu d) n) s'))):∀{ss:List Stmt} {b:List Z5},Ab (ss.map f)=some b ->∀n,PSs X ss (ZF X.K W ((JW (Aa L fu d) n).ex b))
 |[],_,h=>λn=>by
  cases h;cases n with
  |zero=>exact PSs.Z1 λ_ _=>rfl
  |succ n=>exact lj (r:=JW (Aa L fu d) n)
 |s::ss,b,h=>λn=>by
  rw[YG]at h;cases ea:f s with
  |none=>rw[ea]at h;cases h
  |some s'=>
   rw[ea]at h;simp![Ab]at h;cases a:Ab (ss.map f)with
   |none=>rw[a]at h;cases h
   |some r'=>
    rw[a]at h;cases h;cases n with
    |zero=>exact PSs.Z1 λ_ _=>rfl
    |succ n=>exact kO (c s s' ea n) (bp c a n)
def Wx.glob(ok:Wx T cl L d X sc N rz W){x:Str}(h:glob sc x=true):Gl X x:=by
 show X.env.scope.names.lookup x=_;have:X.env.scope=sc:=ok.ok.Zh;rw[this];exact W6.mp h
def yA{W W':XQ}{H:Hp}{R:List Addr->Hp->α->β->Prop}{o:Out α}{Q:β->Hp->Prop}(b:∀c vs H,W c vs H->W' c vs H)(h:post K W R o J H Q):post K W' R o J H Q:=by
 cases o with
 |ok a g=>exact h
 |exc c fs g=>exactλvs ZU H' s r v=>b _ _ _ (h vs ZU H' s r v)
 |Z1=>exact h
def zb(ok:Wx T cl L d X sc N rz W)(f:rz=true){c:Str×List Expr}{e:Z5}{q:Pos}(h:ID T sc (Ad T sc N m) c=some e)(n:Nat):PS X (.Raise (some (.Call (.Name c.1 p) c.2 [] q)) none pos) (ZF X.K W (JR (JW (Aa L fu d) n) e)):=by
 let⟨x,es⟩:=c;cases es with
 |nil=>exact qN h
 |cons a es=>
  refine qI h λg h=>qB h λk hk h=>qM h λZI l o=>?_;subst o;simp![Zc,W4]at g;let⟨⟨s,r⟩,j⟩:=g;let⟨fo,as,t⟩:=jn hk;let⟨C,i,Z6⟩:=ok.Yv _ _ _ _ t;have b:=j;rw[VJ,Ue]at b;exact vN (d:=2*d) Z6 ok.ok.Vf ok.ex ok.WZ ok.ok.calm (ok.glob r) (aK (aA (fu:=fu) m ok.ok) j l n).ZE (ok.W3 f k C fo i) (ok.hx f k C fo i) (aC s).1 (star_ne b.1 _) (bc b.2)
def ou{a:Type}{k:Nat}{v:a}:∀{l:List (Nat×a)},l.lookup k=some v->(k,v)∈l
 |[],e=>by cases e
 |(j,w)::r,e=>by
  rw[Vc]at e;split at e
  .rename_i z;cases e;rw[eq_of_beq z];exact W_
  .exact Ig _ (ou e)
def hY(ok:Wx T cl L d X sc N rz W){n m:Str}:∀{hs:List ExceptHandler} {rs:List (Str×Nat×Nat×List (Nat ⊕ U))},Ab (hs.map (D4 T sc n m))=some rs->C1 T rs=true ->∀i p,(rs.map (·.2)).lookup i=some p ->∃C fo,cl[i]?=some (C,fo)/\p.1=fo.length/\Tells X n m hs C fo p.2
 |[],rs,h,_,i,p,e=>by cases h;cases e
 |h::t,rs,j,E,i,p,e=>by
  rw[YG]at j;cases b:D4 T sc n m h with
  |none=>rw[b]at j;cases j
  |some r=>
   rw[b]at j;let⟨rt,h2,rfl⟩:=Yn.mp j;refine qB b λq hq b=>qB b λa ha b=>qB b λvals hv b=>qI b λF b=>qB b λci' x b=>qB b λq' O b=>qM b λM Xq er=>?_;subst er;let⟨_,_,rfl⟩:=vq hq;simp![Zc,XE]at F;let⟨⟨⟨rfl,rfl⟩,I⟩,H⟩:=F;let⟨_,_,eb⟩:=wU ha;let⟨_,_,ev⟩:=xG hv;let⟨A,Wm,J⟩:=jn x;rw[J]at O;cases O;let⟨D,hD,l⟩:=ok.Yv _ _ _ _ J;simp![C1,Zc]at E;rw[YG,Vc]at e;split at e
   .rename_i z
    cases e;cases eq_of_beq z;exact⟨D,A,hD,rfl,[],q.1,_,_,_,_,_,vals,_,t,T.bt,sc,Wm,by rw[eb,ev];rfl,nofun,l,ok.glob H,(aC I).1,ok.ok.Zh,ok.ok.bt,Xq⟩
   .obtain ⟨C,fo,G,hn,u,c,Y,V,S,R,Q,f,Z,ZV,bt,s,B,et,Xp,Z6,w⟩:=hY ok h2 E.2 i p e
    refine⟨C,fo,G,hn,_::u,c,Y,V,S,R,Q,f,Z,ZV,bt,s,B,by rw[et];rfl,λy v=>?_,Z6,w⟩
    rcases Xl.mp v with rfl|v
    .obtain ⟨z,hz,Xm⟩:=Sk.mp (ou e)
     have k:=Wn.mp E.1 z hz;rw[Xm]at k;cases g:T.xc[i]? with
     |none=>rw[g]at k;cases k
     |some o=>
      rw[g]at k;let⟨C',K,O'⟩:=ok.Yv i o.1 o.2.1 o.2.2 g;rw[G]at K;cases K;let⟨P,v2,_,_,b2,b4,b5⟩:=O'.Uw _ _ (W6.mp k);have:P=.ref D:=by
       rcases b2 with⟨_,z,_⟩|z
       .rw [l.bound]at z;cases z
       .rw [l.bound]at z;exact(Vm z).symm
      subst this;exact⟨q.1,_,_,_,_,D,rfl,l.bound,ok.glob H,(aC I).1,b5,l.Ux.mb⟩
    .exact Xp y v
def yT(ok:Wx T cl L d X sc N rz W){c:List ExceptHandler}{b:List Stmt}{l:List Z5}{k:Z5}{n:Pos}(h:IE T sc N l c=some k)
  (s:∀(E0:XK) (pn:List (Addr×Obj)) (E':Value->Shared->Prop),AA (CX1 X.prog X.w) (Bl X pn E') E0->PSs (Bl X pn E') b (ZF X.K (WE cl E0) (r.ex l))) :
  PS X (.Try b c [] [] n) (ZF X.K W (JR r k)):=by
 cases c with
 |nil=>exact qN h
 |cons h0 c=>
  refine qB h λq v h=>qB h λa x h=>qI h λf h=>qB h λj p h=>qB h λi hi h=>qI h λm h=>qB h λu g h=>qI h λt e=>?_;cases e;simp![Zc,W6]at f;rw[W4,Ru]at m;have Zh:X.env.scope=sc:=ok.ok.Zh;have hN:X.N=N:=ok.ok.hN;let⟨l1,o,_⟩:=dv p;exact yu ok.ex ok.WZ (by rw[hN];exact ok.ok.nd) (by rw[hN];exact ixOf_get hi) (by rw[hN];exact l1) m (by rw[Zh];exact f.2) (by rw[Zh];exact o) ok.fn (aC f.1).1 (aC f.1).2.1 (hY ok g t) s
def bj(ok:Wx T cl L d X sc N rz W)(h:Bx T sc (Ad T sc N m) e=some e')(n:Nat):PE X e (tE X.K W ((JW (Aa L fu d) n).ev e')) /\∀t l,swapsWith e t l X.env=pure false:=by
 have s:=aA (fu:=fu) m ok.ok;let⟨E0,U,hW⟩:=ok.hp;cases e with
 |Call fn es kws cp=>
  refine⟨?_,λt l=>rfl⟩;cases n with
  |zero=>exact PE.Z1 λ_ _=>rfl
  |succ n=>
   refine PE.imp ?_ λZ H Q (h:tE X.K W ((JW (Aa L fu d) (n+1)).ev e') Z H Q)=>(show tE X.K (WE cl E0) (JP (Aa L fu d) (JW (Aa L fu d) n) e') Z H Q from let⟨Z2,J,g,hs,hg,p⟩:=h;⟨Z2,J,g,hs,hg,yA hW p⟩)
   have b:=h;simp![Bx]at b;cases P:Io fn with
   |some y=>
    let⟨p,rfl⟩:=aD P;rw[P]at b;dsimp only at b;cases hf:T.fs.contains y with
    |true=>
     rw[hf]at b;dsimp only at b;cases es with
     |nil=>exact qN b
     |cons a es=>
      refine qI b λj h=>qB h λfi S h=>qM h λZI r e=>?_;subst e;simp![Zc,W4]at j;let⟨⟨⟨Y,I⟩,G⟩,E⟩:=j;cases az Y;let⟨f,fd,ps,A,z,x,v,u⟩:=ok.hF1 fi _ (ixOf_get S) (aC I).1 (Vr.mp hf);have o:=E;rw[VJ,Ue]at o;exact jU v U u ok.ok.Vf (ok.glob G) A z x (aC I).1 (aK s E r n).ZE (star_ne o.1 _) (bc o.2)
    |false=>
     rw[hf]at b;dsimp only at b;refine qB b λq R h=>qI h λj h=>qB h λZI r h=>qM h λYJ D e=>?_;subst e;let⟨c,i,F,nd⟩:=q;simp![Zc,W4]at j;let⟨⟨⟨⟨⟨Y,I⟩,G⟩,E⟩,c5⟩,V⟩:=j;let⟨C,fa,fd,ZH,dd,A,z,x,v,u,O,M⟩:=ok.hM1 _ _ _ _ _ R (Vr.mp Y);have B:=aP r;dsimp only at V ⊢;rw[<-B]at V ⊢;exact jT z x O U M v u V c5 B (aP D) ok.ok.room (ok.glob E) A (aC I).1 (aK s G r n).ZE (cN s D n).ZE G
   |none=>
    rw[P]at b;dsimp only at b;refine qB b λq R h=>qB h λl B h=>qI h λj h=>qB h λo' ho h8=>?_;cases jk R;rw[Zc,W4]at j;refine qI h8 λWs h=>qB h λZI r h=>qB h λYJ D h=>qB h λl' VW h=>qI h λX_ h=>?_;rw[B]at VW;cases VW;simp![Zc,W4,XE]at Ws;let⟨⟨⟨⟨X5,ZL⟩,Y8⟩,TK⟩,YZ⟩:=Ws;let⟨h1,h2⟩:=bP X5;cases h;have W7:=aP r;refine kU (CX:=CX1 X.prog X.w) (Wf:=WE cl) (E0:=E0) (k:=2*d+2) (((s _ _ ho).1 n).ZE) h2 h1 U (λc i pm X4=>?_) Y8 W7 (aP D) ok.ok.Vf (aK s ZL r n).ZE (cN s D n).ZE ZL (iO (base_of j.2) ZL Y8 TK YZ);let⟨⟨i',F,nd⟩,YL,hb⟩:=b8 (f:=λe:Nat×Nat×KF×Nat=>(e.1,e.2.1,AU e.2.2.1 (es.length+1) (Aw kws))) (λ_=>rfl) X4;cases hb;let⟨C,f,fd,ZH,dd,A,z,x,v,u,O,M⟩:=ok.hT1 _ _ B _ _ _ _ YL (Vr.mp (Wn.mp j.1 _ YL));refine⟨C,f,fd,F,nd,ZH,dd,A,z,x,v,u,?_,by rw[W7],O,M⟩
    rw[W7];exact Wn.mp X_ _ YL
 |_=>exact qN h
def dj:∀(m:Nat) {X:Cx} {rz:Bool} {W:XQ} (_:Wx T cl L d X sc N rz W) (st:Stmt) (y:Z5),Bj T sc N rz m st=some y ->∀n,PS X st (ZF X.K W (JR (JW (Aa L fu d) n) y))
  |0,_,_,_,_,_,_,h=>by cases h
  |m+1,X,rz,W,ok,st,y,h=>λn=>by
    have ih:=dj m ok;have I:=aA (fu:=fu) m ok.ok;have k:∀st:Stmt,((A4 T sc N m st).map λs=>Z5.ZE [s])=some y->PS X st (ZF X.K W (JR (JW (Aa L fu d) n) y)):=λst h=>by
      refine qM h λs' Z e=>?_;subst e;cases n with
      |zero=>exact PS.Z1 λ_ _=>rfl
      |succ n=>exact z8 (eT ok.ok ok.blk ok.fn m _ _ Z n) n _ rfl
    cases st with
    |If c a b p=>
      refine qB h λc' l h=>qB h λa' U h=>qM h λb' u e=>?_;subst e;exact aa5 (((I _ _ l).2.1 n).ZE) (bp ih U n) (bp ih u n)
    |Raise e c p=>
      refine qI h λl h=>qB h λe' S h=>qB h λq F H=>?_;rw[Zc]at l;cases fm l.2;subst S;let⟨_,_,rfl⟩:=dh F;exact zb ok l.1 H n
    |Try b hs o f p=>
      refine qI h λl h=>qB h λb' u H=>?_;rw[Zc]at l;cases az l.1;cases az l.2;refine yT ok H λE0 J E' V=>?_;have A:Wx T cl L d (Bl X J E') sc N false (WE cl E0):={ok with ok:=⟨ok.ok.hF,ok.ok.cs,ok.ok.bt,ok.ok.hK,ok.ok.hC,ok.ok.hT,ok.ok.hA,ok.ok.room,ok.ok.hN,ok.ok.Zh,ok.ok.nd,ok.ok.calm,rfl⟩,hx:=nofun,W3:=nofun,own:=nofun,hp:=⟨E0,V,λ_ _ _ z=>z⟩}
      exact bp (dj m A) u n
    |For tg it b o p=>
      refine qI h λl h=>qB h λt E h=>qB h λZz hi h=>qM h λb' u e=>?_;rw[Zc]at l;cases az l.2;subst e;exact w6 (ok.own l.1) ok.ok.calm ((a9 ok.ok I hi).1 n) (cu ok.ok (λ_=>ok.fn) E).ZE (λn=>bp ih u n) (a9 (fu:=fu) ok.ok I hi).2
    |Return v p=>
      simp![Bj]at h;cases g:v.bind (Bx T sc (Ad T sc N m))with
      |some e'=>
        rw[g]at h;let⟨v,rfl,Q⟩:=WQ.mp g;cases h;cases n with
        |zero=>exact fM (PE.Z1 λ_ _=>rfl)
        |succ n=>exact fM (bj ok Q _).1
      |none=>
       rw[g]at h;exact k _ h
    |Expr v p=>
      simp![Bj]at h;cases g:Bx T sc (Ad T sc N m) v with
      |some e'=>
        rw[g]at h;cases h;exact nQ (bj ok g n).1 ((bj (fu:=fu) ok g n).2 _ _)
      |none=>rw[g]at h;exact k _ h
    |Assign ts v p=>
      simp![Bj]at h;cases g:Bx T sc (Ad T sc N m) v with
      |some e'=>
        rw[g]at h;refine qB h λt E w=>?_;cases dC E;unfold II at w;cases hx:Io t with
        |some x=>
          rw[hx]at w;refine qM w λj R e=>?_;subst e;let⟨_,rfl⟩:=aD hx;let⟨l1,B,_⟩:=dv R;have Zh:X.env.scope=sc:=ok.ok.Zh;have hN:X.N=N:=ok.ok.hN;exact ly (by rw[hN];exact ok.ok.nd) (by rw[hN];exact l1) (by rw[Zh];exact B) (.inl (ok.fn x)) (bj ok g n).1 ((bj (fu:=fu) ok g n).2 _ _)
        |none=>
          rw[hx]at w;refine qB w λq F h=>qB h λx D h=>qB h λi hi h=>qB h λcs Y h=>qI h λG e=>?_;cases e;cases jk F;let⟨_,hx⟩:=aD D;rw[Zc]at G;let⟨O,M⟩:=bP G.1;let⟨l1,B,_⟩:=dv hi;let⟨m1,P,_⟩:=aC G.2;have Zh:X.env.scope=sc:=ok.ok.Zh;have hN:X.N=N:=ok.ok.hN;cases n with
          |zero=>exact PS.Z1 λ_ _=>rfl
          |succ n=>
            refine ki ?_ (bj ok g _).1 ((bj (fu:=fu) ok g 0).2 _ _) M O (ok.ok.hA.1 _ _ Y);rw[hx];exact lh (C:=Aa L fu d) (r:=JW (Aa L fu d) n) (by rw[hN];exact l1) (by rw[Zh];exact B.elim .inl λz=>.inr (.inl z)) m1 P
      |none=>rw[g]at h;exact k _ h
    |_=>exact k _ h
end
open PySem PySem.Spec PyProof.Rows L2
set_option genInjectivity false in
structure FI where
 x:Str
 st:Stmt
 N:List Str
 ps:List Str
 cm:Option (Str×Str)
 kf:Option (KF×Nat)
structure TC(K:Il)(x qual:Str)(st:Stmt)(f:Addr)(fd:FuncData):Prop where
 ex:∃(Kq:Value) (od:Option Addr) (KP IV doc pm:Value) (an:Option Addr) (Zn ct:Value) (YV:Array (Option Value)),
  fd=PySem.W.fnOf x qual (Co st) (Cn st) (AN st) KP IV doc pm an Zn ct/\K.lookup f=some ⟨Kq,od,.func fd,YV⟩/\PySem.W.codeIn K Zn qual=true
 kp:PySem.W.keepIn K (.ref f)=true
noncomputable def FI.nm(fi:FI):Str:=match fi.cm with|none=>fi.x|some c=>c.2
noncomputable def FI.tn(fi:FI):Str:=if fi.cm.isSome||fi.kf.isSome then "__debug__" else fi.x
def FAt(K:Il)(mg:Str->Option Value)(fi:FI)(f:Addr):Prop:=match fi.cm with
 |none=>mg fi.x=some (.ref f)
 |some c=>∃C,mg c.1=some (.ref C)/\PySem.W.nsIn K mainGlobals c.1=some (some (.ref C))/\YN K C/\V2 K C c.2 f/\(c.2 = "__init__" -> Mk K C f)
structure FOk(T:Tab)(K:Il)(mg:Str->Option Value)(fi:FI)(F:Fn):Prop where
 sc:UT fi.N fi.ps (AN fi.st)
 np:F.np=fi.ps.length
 ns:F.ns=fi.N.length
 body:∃m,Ab ((Cn fi.st).map (CD T fi.x (AN fi.st) fi.N m))=some F.body
 obj:∃f fd,FAt K mg fi f/\TC K fi.nm fi.x fi.st f fd/\(fi.kf=none->Binds K fd fi.ps []) /\∀F nd,fi.kf=some (F,nd)->fi.ps=F.ns++F.ks/\F.ns++F.ks≠[] /\∃ZH dd,X8 K fd F nd ZH dd
def AllOk(T:Tab)(K:Il)(mg:Str->Option Value):List FI->List Fn->Prop
 |[],[]=>True
 |fi::r,F::s=>FOk T K mg fi F/\AllOk T K mg r s
 |_,_=>False
section
variable{T:Tab}
def AllOk.get:∀{a:List FI} {L:List Fn} {i:Nat} {fi:FI},AllOk T K mg a L->a[i]?=some fi ->∃F,L[i]?=some F/\FOk T K mg fi F
 |[],_,_,_,_,e=>by simp at e
 |_::_,[],_,_,h,_=>False.elim h
 |_::_,F::_,0,_,h,e=>by simp at e;subst e;exact⟨F,rfl,h.1⟩
 |_::r,_::s,i+1,fi,h,e=>by
  let⟨F,c,b⟩:=AllOk.get (i:=i) (fi:=fi) h.2 (by simpa using e)
  exact⟨F,by simpa using c,b⟩
structure S1(T:Tab)(K:Il)(mg:Str->Option Value)(Y2:List FI)(L:List Fn):Prop where
 names:T.L=Y2.map FI.tn
 all:AllOk T K mg Y2 L
 cs:∀x u,T.cs.lookup x=some u ->∃v val,mg x=some val/\RelV v val /\∀J H,RV K J H u v
 bt:∀x∈T.bt,mg x=none
 kfs:∀(y:Str) (i:Nat) (F:KF) (nd:Nat),T.kf.lookup y=some (i,F,nd) ->∃fi,Y2[i]?=some fi/\fi.x=y/\fi.cm=none/\fi.kf=some (F,nd)
 cls:∀(y:Str) (c i:Nat) (F:KF) (nd:Nat),T.cl.lookup y=some (c,i,F,nd)->Ag c=y /\∃fi,Y2[i]?=some fi/\fi.cm=some (y,("__init__" : Str))/\fi.kf=some (F,nd)
 mts:∀(m:Str) (l:List (Nat×Nat×KF×Nat)),T.mt.lookup m=some l ->∀c i F nd,(c,i,F,nd)∈l ->∃fi,Y2[i]?=some fi/\fi.cm=some (Ag c,m)/\fi.kf=some (F,nd)
 fls:(∀(f:Str) (cs:List Nat),T.fl.lookup f=some cs->CO K f cs) /\∀p∈T.ow,∃C,mg p.1=some (.ref C)/\PySem.W.nsIn K mainGlobals (Ag p.2)=some (some (.ref C))/\YN K C/\Wj K C
 fx:∀j∈T.fx,∀fi,Y2[j]?=some fi->fi.x∈T.fs
def jm(hn:n=N.length)(h:RVs K J H M vs)(hl:M.length<=N.length):RS K J H (M.map some++List.replicate (n-M.length) none) (L2.start N vs) where
 len:=by unfold L2.start;simp[h.length,hn]
 val:=λi u e=>by
  subst hn;unfold L2.start;by_cases hi:i<M.length
  .rw [Xe (by simpa using hi),Xj]at e
   rw[Xe (by rw[Yk,<-h.length];exact hi),Xj]
   cases eu:M[i]? with
   |none=>rw[eu]at e;cases e
   |some w=>
    rw[eu]at e;cases e;let⟨v,e1,e2⟩:=h.get eu;exact⟨v,by rw[e1];rfl,e2⟩
  .rw [XN (by simpa using hi),Sg]at e
   split at e<;>cases e
def f9(h:env.scope.kind=.function):env.blockKind=.function:=by
 unfold Env.blockKind;rw[h]
 rfl
def j7{W:XQ}{o:Out Fl}{Q:VK}(p:post K W (RV K) (o.bind λf g=>match f with|.rt u=>.ok u g|.nx _=>.ok .ZR g|_=>.Z1) J H Q):JX K W o J H {nx:=λ_ H'=>Q .ZR H',rt:=Q}:=by
 revert p;cases o with
 |ok fl g1=>
  cases fl with
  |nx a=>exactλp Z ZU H' s h hs=>p .ZR ZU H' s h rfl
  |rt u=>exactλp=>p
  |bk a=>exactλp=>p.elim
  |ct a=>exactλp=>p.elim
 |exc c fs g1=>exactλp=>p
 |Z1=>exactλp=>p
def FH(T:Tab)(a:CL)(K:Il)(mg:Str->Option Value):Prop:=∀(k:Nat) (x:Str) (fo:List Str) (as:List (Str×Bool)),T.xc[k]?=some (x,fo,as) ->∃C,a[k]?=some (C,fo) /\∀base:Heap,K.In base->base.Ns mainGlobals mg->XC K mg base x fo as C
def AF(T:Tab)(a:CL)(P:Program)(w:World)(K:Il)(mg:Str->Option Value)(base:Heap)(L:List Fn)(d i:Nat)(fi:FI)(f:Addr)(fd:FuncData):Prop:=Zb P w K mg base X1 (2*d+2) f fd fi.ps (Wk K L d i fi.ps.length)/\(fi.x∈T.fs->Zb P w K mg base (CX1 P w) (2*d+2) f fd fi.ps (VE K a L d i fi.ps.length))
def ot{cl:CL}{Y2:List FI}{L:List Fn}(G:S1 T K mg Y2 L)(xo:FH T cl K mg)(kb:K.In base)(nb:base.Ns mainGlobals mg):∀(d i:Nat) (fi:FI),Y2[i]?=some fi ->∀f fd,TC K fi.nm fi.x fi.st f fd->AF T cl P w K mg base L d i fi f fd
 |0,i,fi,_,f,fd,_=>⟨⟨λvs H Q E ⟨_,J,g,M,_,_,_,p⟩=>p.elim,λA outer s H args M vs Q E _ _ _ _ ⟨_,J,g,M,_,_,_,p⟩=>p.elim⟩,λ_=>⟨λvs H Q E ⟨_,J,g,M,_,_,_,p⟩=>p.elim,λA outer s H args M vs Q E _ _ _ _ ⟨_,J,g,M,_,_,_,p⟩=>p.elim⟩⟩
 |d+1,i,fi,hi,f,fd,F=>by
  let⟨Fi,ei,Z6⟩:=G.all.get hi;let⟨m,hb⟩:=Z6.body;have YW:fi.ps.length<=fi.N.length:=by have:=T8 List.length Z6.sc.pre;rw[TY]at this;omega
  have b:∀j a,Y2[j]?=some a ->∃f fd,FAt K mg a f/\PySem.W.keepIn K (.ref f)=true/\(a.kf=none->Binds K fd a.ps [])/\(∀F nd,a.kf=some (F,nd)->a.ps=F.ns++F.ks/\F.ns++F.ks≠[] /\∃ZH dd,X8 K fd F nd ZH dd)/\AF T cl P w K mg base L d j a f fd /\∀F,L[j]?=some F->F.np=a.ps.length:=λj a r=>by
   let⟨Fj,ej',Oj⟩:=G.all.get r;let⟨f',t,m1,U,m3,O⟩:=Oj.obj;exact⟨f',t,m1,U.kp,m3,O,ot G xo kb nb d j a r f' t U,λu e=>by rw[ej']at e;cases e;exact Oj.np⟩
  have S0:∀j x,T.L[j]?=some x->(x==("__debug__" : Str))=false ->∃f fd a,FI.x a=x/\mg x=some (.ref f)/\PySem.W.keepIn K (.ref f)=true/\Binds K fd a.ps []/\AF T cl P w K mg base L d j a f fd /\∀F,L[j]?=some F->F.np=a.ps.length:=λj x o Y4=>by
   rw[G.names,Xj]at o;cases r:Y2[j]? with
   |none=>rw[r]at o;cases o
   |some a=>
    rw[r]at o;have o:a.tn=x:=by simpa using o
    unfold FI.tn at o;let⟨f',t,m1,U,m3,O,n,R⟩:=b j a r;cases B:a.cm with
    |some c=>rw[B]at o;subst o;cases Y4
    |none=>
     cases hk:a.kf with
     |some c=>rw[B,hk]at o;subst o;cases Y4
     |none=>
      rw[B,hk]at o;have o:a.x=x:=o;subst o;have U9:mg a.x=some (.ref f'):=by unfold FAt at m1;rw[B]at m1;exact m1
      exact⟨f',t,a,rfl,U9,U,m3 hk,n,R⟩
  have okN:∀(CX:Yc) v A outer s H E,Zy (2*d+3) (A.deeper (envOfC fi.x (AN fi.st) s.heap.objs.size f v))->Zq T L d (Bt CX P w K mg base fi.N fi.x (AN fi.st) f v A outer s H E).ZE (AN fi.st) fi.N:=λCX v A outer s H E V=>by
   refine⟨λj x o Y4=>?_,G.cs,G.bt,λy j F nd hy=>?_,λy c j F nd hy=>?_,λmm l S c j F nd YL=>?_,G.fls,V,rfl,rfl,Z6.sc.nd,rfl,rfl⟩
   .obtain ⟨f',t,a,_,a1,a2,a3,a4,a5⟩:=S0 j x o Y4
    have a4:=a4.1;exact⟨f',t,a.ps,a1,a2,a3,a4,a5⟩
   .obtain ⟨a,r,rfl,B,hk⟩:=G.kfs y j F nd hy
    let⟨f',t,m1,U,m3,O,n,R⟩:=b j a r;have n:=n.1;let⟨D,b2,ZH,dd,b3⟩:=O F nd hk;have U9:mg a.x=some (.ref f'):=by unfold FAt at m1;rw[B]at m1;exact m1
    rw[D]at n;exact⟨f',t,ZH,dd,U9,U,b3,b2,n,λu e=>by rw[R u e,D]⟩
   .obtain ⟨hn,a,r,B,hk⟩:=G.cls y c j F nd hy
    let⟨f',t,m1,U,m3,O,n,R⟩:=b j a r;have n:=n.1;let⟨D,b2,ZH,dd,b3⟩:=O F nd hk;unfold FAt at m1;rw[B]at m1;let⟨C,c1,c2,c3,c4,c5⟩:=m1;rw[D]at n;exact⟨C,f',t,ZH,dd,c1,c5 rfl,by rw[hn];exact c2,b3,b2,n,λu e=>by rw[R u e,D]⟩
   .obtain ⟨a,r,B,hk⟩:=G.mts mm l S c j F nd YL
    let⟨f',t,m1,U,m3,O,n,R⟩:=b j a r;have n:=n.1;let⟨D,b2,ZH,dd,b3⟩:=O F nd hk;unfold FAt at m1;rw[B]at m1;let⟨C,c1,c2,c3,c4,c5⟩:=m1;rw[D]at n;exact⟨C,f',t,ZH,dd,c2,c3,c4,b3,b2,n,λu e=>by rw[R u e,D]⟩
  have okX:∀(CX:Yc) (W:XQ) v A outer s H E X,(X=Bt CX P w K mg base fi.N fi.x (AN fi.st) f v A outer s H E\/X=(Bt CX P w K mg base fi.N fi.x (AN fi.st) f v A outer s H E).ZE)->Zy (2*d+3) (A.deeper (envOfC fi.x (AN fi.st) s.heap.objs.size f v)) ->
    (∀(k:Nat) (C:Addr) (fo:List Str),cl[k]?=some (C,fo) ->∀Y Z H s e oe vs H0,L2.Z4 X Y Z H s->s.heap.get? e=some oe->oe.cls=.ref C->(∃fs,oe.data=.fields fs/\fs[1]?=some .none)->H e=none->X.ZK.heap.get? e=none->W k vs H0->XD fo vs H0 oe.dict H->X.xe (.ref e) s) ->
    (∀(k:Nat) (C:Addr) (fo:List Str),cl[k]?=some (C,fo) ->∀vs H,W k vs H->fo=[]\/vs.length=fo.length)->(∃E0,AA (CX1 P w) X E0 /\∀c vs H,W c vs H->WE cl E0 c vs H)->Wx T cl L d X (AN fi.st) fi.N true W:=λCX W v A outer s H E X hX V o W3 hp=>by
   have Yv:∀(k:Nat) (x:Str) (fo:List Str) (as:List (Str×Bool)),T.xc[k]?=some (x,fo,as) ->∃C,cl[k]?=some (C,fo)/\XC K mg base x fo as C:=λk x fo as h=>let⟨C,h1,h2⟩:=xo k x fo as h;⟨C,h1,h2 base kb nb⟩
   have hF1:∀(i:Nat) (x:Str),T.L[i]?=some x->(x==("__debug__" : Str))=false->x∈T.fs ->∃f fd ps,mg x=some (.ref f)/\PySem.W.keepIn K (.ref f)=true/\Binds K fd ps []/\Zb P w K mg base (CX1 P w) (2*d+2) f fd ps (VE K cl L d i ps.length) /\∀F,L[i]?=some F->F.np=ps.length:=λj x h Y4 h'=>by
    let⟨f',t,a,rfl,a1,a2,a3,a4,a5⟩:=S0 j x h Y4;exact⟨f',t,a.ps,a1,a2,a3,a4.2 h',a5⟩
   have hM1:∀(y:Str) (c i:Nat) (F:KF) (nd:Nat),T.cl.lookup y=some (c,i,F,nd)->i∈T.fx ->∃C f fd ZH dd,mg y=some (.ref C)/\Mk K C f/\PySem.W.nsIn K mainGlobals (Ag c)=some (some (.ref C))/\X8 K fd F nd ZH dd/\F.ns++F.ks≠[]/\Zb P w K mg base (CX1 P w) (2*d+2) f fd (F.ns++F.ks) (VE K cl L d i (F.ns++F.ks).length) /\∀u,L[i]?=some u->u.np=(F.ns++F.ks).length:=λy c j F nd hy hj=>by
    let⟨hn,a,r,B,hk⟩:=G.cls y c j F nd hy;let⟨f',t,m1,U,m3,O,n,R⟩:=b j a r;have n:=n.2 (G.fx j hj a r);let⟨D,b2,ZH,dd,b3⟩:=O F nd hk;unfold FAt at m1;rw[B]at m1;let⟨C,c1,c2,c3,c4,c5⟩:=m1;rw[D]at n;exact⟨C,f',t,ZH,dd,c1,c5 rfl,by rw[hn];exact c2,b3,b2,n,λu e=>by rw[R u e,D]⟩
   have hT1:∀(m:Str) (l:List (Nat×Nat×KF×Nat)),T.mt.lookup m=some l ->∀c i F nd,(c,i,F,nd)∈l->i∈T.fx ->∃C f fd ZH dd,PySem.W.nsIn K mainGlobals (Ag c)=some (some (.ref C))/\YN K C/\V2 K C m f/\X8 K fd F nd ZH dd/\F.ns++F.ks≠[]/\Zb P w K mg base (CX1 P w) (2*d+2) f fd (F.ns++F.ks) (VE K cl L d i (F.ns++F.ks).length) /\∀u,L[i]?=some u->u.np=(F.ns++F.ks).length:=λmm l S c j F nd YL hj=>by
    let⟨a,r,B,hk⟩:=G.mts mm l S c j F nd YL;let⟨f',t,m1,U,m3,O,n,R⟩:=b j a r;have n:=n.2 (G.fx j hj a r);let⟨D,b2,ZH,dd,b3⟩:=O F nd hk;unfold FAt at m1;rw[B]at m1;let⟨C,c1,c2,c3,c4,c5⟩:=m1;rw[D]at n;exact⟨C,f',t,ZH,dd,c2,c3,c4,b3,b2,n,λu e=>by rw[R u e,D]⟩
   rcases hX with rfl|rfl
   .exact ⟨okN CX v A outer s H E V,Yv,hF1,λ_=>o,λ_=>W3,hM1,hT1,hp,λ_=>PassesOwn.leaving,rfl,rfl,f9 Z6.sc.kind,λ_=>rfl⟩
   .exact ⟨okN CX v A outer s H E V,Yv,hF1,λ_=>o,λ_=>W3,hM1,hT1,hp,λ_=>PassesOwn.never,rfl,rfl,f9 Z6.sc.kind,λ_=>rfl⟩
  have fin0:Zb P w K mg base X1 (2*(d+1)+2) f fd fi.ps (Wk K L (d+1) i fi.ps.length):=by
   let⟨Kq,od,KP,IV,doc,pm,an,v,ct,YV,rfl,lk,Zg⟩:=F.ex;refine gq (k:=2*d+3) lk Zg Z6.sc (λvs H Q E ⟨_,J,g,M,_,rs,S,_⟩=>by rw[<-rs.length];exact S) λA outer s H vs Q E V h=>?_
   let⟨fu,J,g,M,hg,rs,S,p⟩:=h;simp![Aa,ei,Bp]at p;rw[XW (by rw[S,Z6.np])]at p
   refine⟨ZF K W0 ((JW (Aa L fu d) fu).ex Fi.body),PSs.ZE ?_,_,J,g,jm Z6.ns rs (),hg,j7 p⟩
   unfold CD at hb;split at hb
   .exact bp (dj m (okX X1 W0 v A outer s H E _ (.inr rfl) V (λk C fo _ Y Z H s e oe vs H0 _ _ _ _ _ _ z=>z.elim) (λk C fo _ vs H z=>z.elim) ⟨λ_ _ _=>False,λ_ _ _ _ _ _ _ ⟨_,_,_,_,_,_,z⟩=>z.elim,λ_ _ _ z=>z.elim⟩)) hb fu
   .exact bL (eT (okN X1 v A outer s H E V) (f9 Z6.sc.kind) (λ_=>rfl) m) hb fu
  refine⟨fin0,λYL=>?_⟩;let⟨Kq,od,KP,IV,doc,pm,an,v,ct,YV,rfl,lk,Zg⟩:=F.ex;refine gq (k:=2*d+3) lk Zg Z6.sc (λvs H Q E ⟨_,J,g,M,_,rs,S,_⟩=>by rw[<-rs.length];exact S) λA outer s H vs Q E V h=>?_
  let⟨fu,J,g,M,hg,rs,S,p⟩:=h;simp![Aa,ei,Bp]at p;rw[XW (by rw[S,Z6.np])]at p
  refine⟨ZF K (WE cl E) ((JW (Aa L fu d) fu).ex Fi.body),?_,_,J,g,jm Z6.ns rs (),hg,j7 p⟩
  unfold CD at hb;rw[XW (Vr.mpr YL)]at hb;refine bp (dj m (okX (CX1 P w) (WE cl E) v A outer s H E _ (.inl rfl) V (λk C fo hC Y Z H' s' e oe vs H0 I a1 a2 ⟨fs,a3,a4⟩ a5 a6 ⟨C',fo',Wd,_,q⟩ xd=>?_) (λk C fo hC vs H ⟨C',fo',Wd,q,_⟩=>?_) ⟨E,t9 λ_ _ _ z=>z,λ_ _ _ z=>z⟩)) hb fu
  .rw [hC]at Wd
   cases Wd;refine leave_new I rfl rfl a1 a3 a4 a5 a6 ?_;rw[a2];exact q _ _ xd
  .rw [hC]at Wd
   cases Wd;exact q
def zc{xs:List V}(b:Dw H)(h:SqL K H a xs):SqF K H a xs:=by
 rcases h with(h|h)|h
 .rcases b a with z|⟨o,ys,z⟩
  .rw [h]at z;cases z
  .rw [h]at z;cases z
 .exact .inl h
 .exact .inr h
def ji{J:List Addr}{H:Hp}:∀ns:List Int,RVs K J H (ns.map U.int) (ns.map V.int)
 |[]=>rfl
 |n::ns=>⟨.int n,ns.map V.int,rfl,rfl,ji ns⟩
def aaQ{L:List Fn}{ns:List Int}{E:XK}(c:Dw H)(b:SqL K H a (ns.map V.int)){g':G}(h:Aa L fu d i [.Zv (ns.map U.int)] []=.ok (.bl true) g'):
  Wk K L d i 1 [.ref a] H (λv _=>v=.bl true) E:=by
 refine⟨fu,[],[],[.Zv (ns.map U.int)],⟨rfl,λi j a e=>by simp at e,λn a o e=>by simp at e⟩,⟨_,_,rfl,⟨a,_,rfl,zc c b,ji ns⟩,rfl⟩,rfl,?_⟩
 rw[h];exactλv ZU H' _ _ r=>r
end
open PySem PySem.Spec PyProof.Rows L2 PySem.W
def jr{b c:Type}{f g:b->Option c}:∀{l:List b},(∀x∈l,f x=g x)->l.filterMap f=l.filterMap g
 |[],_=>rfl
 |a::l,h=>by rw[VQ,VQ,h a (.head _),jr λx d=>h x (.tail _ d)]
def tw:∀{ps:List Str} {M:List α},ps.Nodup->M.length=ps.length->(ps.filterMap λn=>((ps.zip M).lookup n).map (n,·))=ps.zip M:=by
 intro ps
 induction ps with
 |nil=>intro M _ _;cases M<;>rfl
 |cons p ps ih=>
  intro M nd a;cases M with
  |nil=>simp at a
  |cons u M=>
   have c:p ∉ ps:=(UR.mp nd).1;rw[VQ];simp![S9,Vc,Rk,Vw];congr 1;refine(jr λx b=>?_).trans (ih (UR.mp nd).2 (by simpa using a))
   have:(x==p)=false:=by
    rw[Si];rintro rfl;exact c b
   simp![this]
def jM{b:Type}:∀{ps:List Str} {M:List b},M.length=ps.length ->∀x∈ps,((ps.zip M).lookup x).isNone=false
 |[],_,_,x,hx=>by simp at hx
 |p::ps,[],a,_,_=>by simp at a
 |p::ps,u::M,a,x,hx=>by
  simp![S9,Vc];cases e:x==p with
  |true=>rfl
  |false=>
   rcases Xl.mp hx with rfl|h
   .simp at e
   .exact jM (by simpa using a) x h
def gQ{M:List Value}(k:fd.params.posonlyargs=[])(j:fd.params.args.map (·.arg)=ps)(i:fd.params.vararg=none)(h:fd.params.kwonlyargs=[])(g:fd.params.kwarg=none)
  (f:fd.defaults=.none) (b:ps.Nodup) (a:M.length=ps.length):bindArgs fd ⟨M,[]⟩=pure (ps.zip M):=by
 unfold bindArgs;have e:(List.filter (λn=>((ps.zip M).lookup n).isNone) ps)=[]:=by
  rw[QA];intro x c;rw[jM a x c];decide
 have l:=tw b a;have hs:seqItems? Value.none=pure none:=rfl;have d : ¬ M.length > ps.length:=by omega
 simp![k,j,i,h,g,f,Rj,QJ,TJ,List.forIn_nil,pure_bind,hs,Qq,TM,Nat.zero_sub,List.drop_nil,QY,RJ,e,Sm,List.zip_nil_right,RG,Qn,Vj,Td,Sa d,QN,l]
def jE{b:Addr}{o:Obj}:∀{l:List Obj} {n:Nat},(B7 n l).lookup b=some o->n<=b/\l[b-n]?=some o/\o.data ≠ .freed
 |[],_,e=>by cases e
 |x::l,n,e=>by
  have ZV:(B7 (n+1) l).lookup b=some o->n<=b/\(x::l)[b-n]?=some o/\o.data ≠ .freed:=λe=>by
   let⟨h1,h2,c⟩:=jE e;let⟨k,rfl⟩:=Nat.exists_eq_add_of_le h1;rw[Qu]at h2;refine⟨Ib (U2 n) h1,?_,c⟩;rw[show n+1+k-n=k+1 by omega,SX]
   exact h2
  unfold B7 at e;split at e
  .exact ZV e
  .rename_i a
   rw[Vc]at e;split at e
   .rename_i z
    cases e;have:=eq_of_beq z;subst this;exact⟨Ie _,by rw[Nat.sub_self];rfl,a⟩
   .exact ZV e
def xJ(h:Heap):(Bf h).In h:=λb o e=>by
 let⟨_,h2,a⟩:=jE e;rw[QY,RA]at h2;unfold Heap.get?;rw[h2];split
 .rename_i q;cases q;exact absurd rfl a
 .rfl
def jD(h:CW N ps sc=true):UT N ps sc:=by
 simp![CW,Zc,W4,XE,Wn,Sb]at h;let⟨⟨⟨⟨⟨⟨a,b⟩,c⟩,d⟩,e⟩,f⟩,g⟩:=h;exact⟨a,b,c,d,e,f,g⟩
def BO(fd:FuncData)(b:List Stmt):Stmt:=.FunctionDef fd.name fd.params b [] none [] fd.scope none fd.name ⟨0,0,0,0⟩
def fv{v:Value}(h:DB v=true):v=.none:=by cases v<;>first|rfl|cases h
def J3:U->V
 |.int i=>.int i
 |.bl b=>.bl b
 |.str s=>.str s
 |_=>.ZR
def lF{K:Frag}{a:Value}(h:D8 u a=true):RelV (J3 u) a /\∀J H,RV K J H u (J3 u):=by
 cases u with
 |int i=>cases a with
  |int j _=>cases Ik h;exact⟨⟨_,rfl⟩,λ_ _=>rfl⟩
  |_=>cases h
 |ZR=>cases fv h;exact⟨rfl,λ_ _=>rfl⟩
 |bl b=>cases a with
  |bool c=>cases eq_of_beq h;exact⟨rfl,λ_ _=>rfl⟩
  |_=>cases h
 |str s=>cases a with
  |str t _=>cases Ik h;exact⟨⟨_,rfl⟩,λ_ _=>rfl⟩
  |_=>cases h
 |_=>cases h
def kQ{K:Frag}:∀{M:List U} {e:List Value},CA M e=true->ZM (M.map J3) e /\∀J H,RVs K J H M (M.map J3)
 |[],[],_=>⟨.nil,λ_ _=>rfl⟩
 |[],_::_,h=>by cases h
 |_::_,[],h=>by cases h
 |u::M,v::vs,h=>by
  rw[CA,Zc]at h;let⟨a,b⟩:=lF (K:=K) h.1;let⟨c,d⟩:=kQ (K:=K) h.2;exact⟨.cons a c,λJ H=>⟨_,_,rfl,b J H,d J H⟩⟩
def wk{K:Frag}{f:Value}(h:IJ K u f=true):∃v,RelV v f /\∀J H,RV K J H u v:=by
 cases u with
 |xn c M=>cases f with
  |ref a=>
   have h:D6 K M (.ref a)=true:=h;simp![D6]at h;cases ho:K.lookup a with
   |none=>rw[ho]at h;cases h
   |some o=>
    rw[ho]at h;have h:(decide (o.cls=.type "tuple")&&FQ M o.data)=true:=h;rw[Zc,XE]at h;let⟨cl,r,d,k⟩:=o;let⟨h1,h⟩:=h;cases(show cl=.type "tuple" from h1);cases d with
    |seq ZY n=>
     have h:(decide (ZY.size<=1000)&&CA M ZY.toList)=true:=h;rw[Zc,XE]at h;let⟨j,g⟩:=kQ (K:=K) h.2;exact⟨.ref _,rfl,λJ H=>⟨_,_,rfl,⟨_,ZY,n,ho,rfl,rfl,Ib h.1 #[1],j⟩,g J H⟩⟩
    |_=>cases h
  |_=>cases h
 |_=>cases h
def jN{K:Frag}{c:Value}(e:Dk K u c=true):∃v,RelV v c /\∀J H,RV K J H u v:=by
 unfold Dk at e;rw[Sb]at e;rcases e with e|e
 .obtain ⟨a,b⟩:=lF (K:=K) e;exact⟨_,a,b⟩
 .exact wk e
def kg{K:Frag}:∀{ns:List Str} {dd:List (Str×U)} {e:List Value},dd.map (·.1)=ns->C5 K (dd.map (·.2)) e=true ->∃ZH,F2 (PR RelV) ZH (ns.zip e)/\F2 (PR λu v=>∀J H,RV K J H u v) dd ZH
 |_,[],[],h,_=>by subst h;exact⟨[],.nil,.nil⟩
 |_,[],_::_,_,h=>by cases h
 |_,_::_,[],_,h=>by cases h
 |_,(n,u)::dd,v::vs,h,q=>by
  subst h;rw[YG,C5,Zc]at q;let⟨w,a,b⟩:=jN q.1;let⟨ZH,c,d⟩:=kg (dd:=dd) rfl q.2;exact⟨(n,w)::ZH,.cons ⟨rfl,a⟩ c,.cons ⟨rfl,b⟩ d⟩
def acE{K:Frag}{v:Value}{a:List Value}(h:Ec K v=some a)(Z8:Model)(hp:Heap)(X:K.In hp):∃od:Option (Array Value),(od.getD #[]).toList=a/\Looks Z8 hp (seqItems? v) od:=by
 unfold Ec at h;split at h
 .cases h;exact⟨none,rfl,.of_pure rfl⟩
 .split at h
  .rename_i ZY _ _ ho
   cases h;exact⟨some ZY,rfl,λA Q E s k q=>wpAny_seqItems (k _ _ (X _ _ ho)) rfl q⟩
  .cases h
 .cases h
def ack{K:Frag}{v:Value}{n:Str}{u:Value}(h:BH K v n=some u):∃d,v=.ref d/\nsIn K d n=some (some u):=by
 unfold BH at h;split at h
 .split at h
  .rename_i q;cases h;exact⟨_,rfl,q⟩
  .cases h
 .cases h
def jC{f e:Type}:∀{l d:List f} {m c:List e},l.length=m.length->(l++d).zip (m++c)=l.zip m++d.zip c
 |[],_,[],_,_=>rfl
 |[],_,_::_,_,h=>by simp at h
 |_::_,_,[],_,h=>by simp at h
 |a::l,d,b::m,c,h=>by simp[jC (l:=l) (m:=m) (by simpa using h)]
def ach{K:Frag}{F:KF}{d:Nat}(h:IK K fd F d=true):∃ZH dd,X8 K fd F d ZH dd:=by
 simp![IK,Zc,XE,Sn,Rl,Wn]at h;let⟨⟨⟨⟨⟨⟨⟨⟨o,p2⟩,m⟩,k⟩,j⟩,i⟩,g⟩,f⟩,b⟩:=h;split at b
 .rename_i t s
  rw[Zc,XE]at b;let⟨l1,q⟩:=b;let⟨ZH,c,r⟩:=kg (K:=K) f q;refine⟨ZH,_,o,p2,m,k,j,⟨t,λn=>(BH K fd.kwdefaults n).getD .none,λZ8 h X=>acE s Z8 h X,l1,i,λn p=>?_,rfl⟩,?_,r⟩
  .have:=g n p
   cases e:BH K fd.kwdefaults n with
   |none=>rw[e]at this;cases this
   |some u=>exact ack (by show _=some (Option.getD _ _);rw[e];rfl)
  .rw [jC (by rw[RE,l1];omega)]at c
   have:F.ks.zip (F.ks.map λn=>(BH K fd.kwdefaults n).getD .none)=F.ks.map λn=>(n,(BH K fd.kwdefaults n).getD .none):=by
    generalize F.ks=l
    induction l with
    |nil=>rfl
    |cons a l ih=>simp[ih]
   rw[this]at c;exact c
 .cases b
def abJ{K:Frag}(X:K.In h)(G:h.Ns mainGlobals mg)(e:IL K (x,u)=true):∃v c,mg x=some c/\RelV v c /\∀J H,RV K J H u v:=by
 unfold IL at e;split at e
 .rename_i c d
  have f:mg x=some c:=mg_of X G d;let⟨v,a,b⟩:=jN e;exact⟨v,c,f,a,b⟩
 .cases e
open PySem PySem.Spec PyProof.Rows L2 PySem.W PySem.Calls
def t7(h:(bm,newId)∈DO):∃B Yx,ExcBaseFacts B newId Yx bm:=by
 unfold DO at h;simp![Xl,Prod.mk.injEq,Uz,SG]at h;rcases h with⟨rfl,rfl⟩|⟨rfl,rfl⟩|⟨rfl,rfl⟩|⟨rfl,rfl⟩
 .exact ⟨_,_,PySem.F.excBase_ZeroDivisionError⟩
 .exact ⟨_,_,PySem.F.excBase_ValueError⟩
 .exact ⟨_,_,PySem.F.excBase_LookupError⟩
 .exact ⟨_,_,PySem.F.excBase_IndexError⟩
def dS{o:Option α}{f:α->Bool}(h:o.any f=true):∃a,o=some a/\f a=true:=by
 cases o with
 |none=>cases h
 |some a=>exact⟨a,rfl,h⟩
def wV{K:Frag}{C:Addr}(h:DU K C=true):VF K C:=by
 simp![DU,Zc,W6]at h;let⟨⟨⟨⟨⟨⟨⟨a,b⟩,c⟩,d⟩,e⟩,f⟩,g⟩,i⟩:=h;exact⟨a,b,c,d,e,f,g,i⟩
def xg{s:Stmt}{q:Str×IA}(h:GI s=some q):s=Cb q.1 q.2:=by
 refine qB h λb e h=>qB h λt d a=>?_;let⟨pos,rfl⟩:=jw e;let⟨k,j⟩:=b;have c:=dC d;dsimp only at c a;subst c;split at a
 .rename_i x i f g p p2
  cases a
  rfl
 .cases a
def jg{self:Str}:∀{ss:List Stmt} {as:List IA},DR self ss=some as->ss=as.map (Cb self)
 |[],as,h=>by cases h;rfl
 |s::r,as,h=>by
  refine qB h λq a h=>qI h λb h=>qM h λd c e=>?_;subst e;rw[YG,xg a,Ik b,jg c]
def uZ{K:Frag}{C:Addr}{e:ClassData}{o:Obj}(h:clsIn K C=some e)(f:K.lookup C=some o):o.data=.cls e:=by
 unfold clsIn at h;rw[f]at h;let⟨a,b,g,d⟩:=o;cases g with
 |cls c=>cases h;rfl
 |_=>cases h
def wI{K:Frag}{fd:FuncData}(h:FR K a=some fd):∃od b,K.lookup a=some ⟨.type "function",od,.func fd,b⟩:=by
 refine qB h λo ho h=>qI h λc h=>?_;let⟨cl,od,d,b⟩:=o;cases W6.mp c;cases d with
 |func e=>cases h;exact⟨od,b,ho⟩
 |_=>exact qN h
def vM{b:FuncBody}{a:List Stmt}(h:Fu b=some a):b=.stmts a:=by
 cases b with
 |stmts b=>cases h;rfl
 |_=>exact qN h
def tO{K:Frag}{N:Addr}{n:Str}{v:Value}(X:K.In h)(G:h.Ns N mg)(e:nsIn K N n=some (some v)):mg n=some v:=by
 let⟨o,es,j,ho,f,_,a⟩:=G;unfold nsIn at e;split at e
 .rename_i c d ZI i g q
  have:=X _ _ q;rw[ho]at this;cases this;cases f;split at e
  .rename_i k b
   cases e;rw[<-a];unfold nsFind findBy;rw[<-Array.find?_toList,b]
   rfl
  .split at e<;>cases e
 .cases e
def aax:∀{l:List α} {a:α},l.length=6->l[4]?=some a ->∃k0 k1 k2 k3 k5,l=[k0,k1,k2,k3,a,k5]
 |[k0,k1,k2,k3,b,k5],a,_,h=>by cases h;exact⟨k0,k1,k2,k3,k5,rfl⟩
def vC{K:Frag}{C:Addr}(X:K.In h)(q:DQ K C YQ newId fI=true):
  ∃bm N nm q bs hdct sn sub ab col dd k0 k1 k2 k3 k5 mN,h.get? C=some (excClassObj nm q C N bs bm hdct sn sub ab col dd k0 k1 k2 k3 k5 newId)/\h.Ns N mN/\mN "__init__" = some (.ref fI)/\OwnTail h YQ bm:=by
 unfold DQ at q;cases ho:K.lookup C with
 |none=>rw[ho]at q;cases q
 |some o=>
  rw[ho]at q;simp![Zc,W6,XE]at q;let⟨⟨⟨h1,n⟩,p⟩,a⟩:=q;let⟨i,t,a⟩:=dS a;let⟨cl,dd,r,⟨l⟩⟩:=o;cases h1;let⟨k0,k1,k2,k3,k5,rfl⟩:=aax (by simpa using n) (by simpa using p)
  have f:r=.cls i:=uZ t ho;subst f;let⟨nm,bs,c,b,j,m,sn,sub,ab,col,s⟩:=i;simp![IM,Zc,W4,W6]at a;let⟨⟨⟨rfl,e⟩,u⟩,d⟩:=a;cases c with
  |nil=>cases e
  |cons v bm=>
   simp![Gn,Zc,W6]at e;let⟨rfl,k⟩:=e;have g:h.Ns b (h.nsMap b):=.of_isNs (isNs_of_in X u);exact⟨bm,b,nm,j,bs,m,sn,sub,ab,col,dd,k0,k1,k2,k3,k5,_,X _ _ ho,g,tO X g d,tail_of_in X k⟩
def uc{K:Frag}{C:Addr}{i:List Str}(h:Fk K fI i=true):Ua K C fI i:=by
 let⟨fd,f,h⟩:=dS h;let⟨od,E,u⟩:=wI f;simp![Zc,W6,Sn]at h;let⟨⟨⟨⟨⟨y,x⟩,e⟩,w⟩,z⟩,h⟩:=h;have e:=fv e;let⟨ss,hs,h⟩:=dS h;have v:=vM hs;split at h
 .cases h
 rename_i self ps _;rw[Zc,W4,Qh]at h;let⟨B,h⟩:=h;let⟨as,d,g⟩:=dS h;have c:=jg d;subst c;simp![Zc,XE]at g;let⟨⟨⟨⟨⟨⟨rfl,rfl⟩,t⟩,b⟩,A⟩,j⟩,D⟩:=g;have sc:=jD A;simp![Dc,Zc,XE,Sn,Rl]at j;let⟨⟨⟨⟨r,p⟩,o⟩,m⟩,l⟩:=j;cases as with
 |nil=>exact absurd rfl B
 |cons a as=>
 have f:fd=fnOf fd.name fd.qualname fd.params ((a::as).map (Cb self)) fd.scope .none fd.kwdefaults fd.doc fd.pyModule fd.annotations fd.code fd.closureTuple:=by
  let⟨n,q,F,N,k,gl,cl,G,kw,H,pm,O,J,I,L⟩:=fd;simp only at *;subst y;subst x;subst e;subst w;subst v
  rfl
 refine⟨.type "function",od,fd.name,fd.qualname,self,a,as,fd.params,fd.scope,.none,fd.kwdefaults,fd.doc,fd.pyModule,fd.code,fd.closureTuple,fd.annotations,E,by rw[<-f];exact u,rfl,z,sc,?_,Wn.mp D,rfl,t,b⟩
 exact .all λM s=>gQ r p o m l rfl (by have:=sc.nd;exact this) s
def xY{K:Frag}{fo:List Str}{C:Addr}(X:K.In h)(G:h.Ns mainGlobals mg)(e:CZ K (x,fo,as)=some C):∀base:Heap,K.In base->base.Ns mainGlobals mg->XC K mg base x fo as C:=by
 intro base c i;unfold CZ at e;split at e
 .rename_i C' h1
  split at e
  .rename_i l
   cases e;simp![Zc]at l;let⟨⟨a,H⟩,F⟩:=l;have k:Di base C/\XMk K mg base x C fo:=by
    cases fo with
    |nil=>cases a
    |cons f fr=>
     simp![IP]at a;split at a
     .rename_i fI J
      simp![Zc]at a;let⟨⟨E,Kx⟩,d⟩:=a;let⟨⟨bm,newId⟩,A,t⟩:=RL.mp E;let⟨B,Yx,m⟩:=t7 A;have Z6:=vC c t;refine⟨?_,fI,bm,newId,B,Yx,Z6,m,λf w=>?_,uc Kx⟩
      rotate_left
      .have d:=Wn.mp d f w
       simp![setB,Zc,W6]at d;let⟨⟨⟨⟨r,p⟩,s3⟩,s4⟩,o⟩:=d;exact⟨⟨r,p,s3,s4⟩,o⟩
      let⟨j,N,nm,q,bs,hdct,sn,sub,ab,col,dd,k0,k1,k2,k3,k5,mN,hC,hN,hi,I⟩:=Z6;exact⟨j,N,nm,q,bs,hdct,sn,sub,ab,col,dd,k0,k1,k2,k3,k5,newId,hC,I.hasType m.hasBase⟩
     .cases a
   refine⟨mg_of c i h1,k.1,k.2,wV H,λy b v=>?_⟩;have:=Wn.mp F (y,b) (SE v);simp![Gh,Zc]at this;let⟨n,this⟩:=this;let⟨KJ,o2,s⟩:=aC n;split at this
   .rename_i g
    split at this
    .rename_i T hT
     exact⟨.type T,.ty T,rfl,λu z=>z,.inl ⟨hT,mg_none_of c i g,s⟩,KJ,W6.mp this⟩
    .cases this
   .rename_i D g
    exact⟨.ref D,.ref D,rfl,λu z=>z,.inr (mg_of c i g),KJ,W6.mp this⟩
   .cases this
  .cases e
 .cases e
open PySem PySem.Spec PyProof.Rows L2 PySem.W
def fK{K:Frag}{C:Addr}(h:CP K C=true):YN K C:=by
 simp![CP,Zc,W6]at h;let⟨⟨⟨a,b⟩,c⟩,d⟩:=h;exact⟨a,b,c,d⟩
def B2(T:Tab)(K:Frag)(i:Inf):Option Fn:=mkF T (i,DG K i)
def vi{T:Tab}{i:Inf}{o:Option (Scope×List Stmt)}{F:Fn}(h:mkF T (i,o)=some F):∃r,o=some r/\(Ab (r.2.map (CD T i.x r.1 i.N 60))).map (λb'=>(⟨i.ps.length,i.N.length,b'⟩:Fn))=some F:=by
 cases o with
 |none=>cases h
 |some r=>exact⟨r,rfl,h⟩
def mD{K:Frag}(X:K.In h)(G:h.Ns mainGlobals mg){i:Inf}{fi:FI}(hx:fi.x=i.x)(k:fi.cm=i.cm)(e:EH K i=some a):FAt K mg fi a:=by
 unfold FAt;rw[k,hx];unfold EH at e;split at e
 .rename_i b
  try rw[b]
  split at e
  .rename_i h1;cases e;exact mg_of X G h1
  .cases e
 .rename_i c b
  try rw[b]
  split at e
  .rename_i C h1
   split at e
   .rename_i a' h2
    split at e
    .rename_i d
     cases e;simp![Zc,Sb,W4,Ru]at d;let⟨⟨⟨n,f⟩,m⟩,l⟩:=d;refine⟨C,mg_of X G h1,h1,fK n,⟨h2,f,m⟩,λhi=>?_⟩;rcases l with z|⟨j,g⟩
     .exact absurd hi z
     .rw [hi]at h2;exact⟨j,h2,f,g⟩
    .cases e
   .cases e
  .cases e
def Plain(K:Frag)(mg:Str->Option Value)(i:Inf)(fi:FI):Prop:=
 i.kf=none ->
 i.cm=none ->∀f fd,mg fi.x=some (.ref f)->TC K fi.nm fi.x fi.st f fd ->∀M:List Value,M.length=i.ps.length->bindArgs fd ⟨M,[]⟩=pure (i.ps.zip M)
def xK{T:Tab}{K:Frag}{i:Inf}{F:Fn}(X:K.In h)(G:h.Ns mainGlobals mg)(e:B2 T K i=some F):
  ∃fi:FI,fi.x=i.x/\fi.ps=i.ps/\fi.cm=i.cm /\
  fi.kf=i.kf /\
  FOk T K mg fi F/\Plain K mg i fi:=by
 unfold B2 at e;let⟨r,c,e⟩:=vi e;unfold DG at c;split at c
 .rename_i a h1
  split at c
  .rename_i Kq od fd v h2
   split at c
   .rename_i b H
    split at c
    .rename_i p
     cases c;simp![Zc]at p;let⟨⟨⟨⟨t,V⟩,j⟩,U⟩,S⟩:=p;have sc:=jD V;simp![Fq,Zc,XE,W6,Sn]at t;let⟨⟨⟨⟨Q,Kx⟩,P⟩,O⟩,L⟩:=t;let⟨b',Y,rfl⟩:=Yn.mp e;have m:i.ps.Nodup:=by rw[<-sc.pre];exact sc.nd.sublist (List.take_sublist _ _)
     have Us:fd=fnOf i.nm i.x (Co (BO fd b)) (Cn (BO fd b)) (AN (BO fd b)) fd.defaults fd.kwdefaults fd.doc fd.pyModule fd.annotations fd.code fd.closureTuple:=by
      let⟨n,q,pa,bo,w,gl,cl,de,kw,dc,pm,W,cd,R,bu⟩:=fd;simp![BO,Co,Cn,AN]at *;subst Q;subst Kx;subst P;subst O;subst L;subst H
      rfl
     have u:i.kf=none ->∀M:List Value,M.length=i.ps.length->bindArgs fd ⟨M,[]⟩=pure (i.ps.zip M):=λd M k=>by
      unfold El at j;rw[d]at j;simp![Dc,Zc,XE,Sn,Rl]at j;let⟨⟨⟨⟨⟨C,p2⟩,B⟩,A⟩,z⟩,y⟩:=j;exact gQ C p2 B A z (fv y) m k
     have Z:(⟨i.x,BO fd b,i.N,i.ps,i.cm,i.kf⟩:FI).nm=i.nm:=rfl;refine⟨⟨i.x,BO fd b,i.N,i.ps,i.cm,i.kf⟩,rfl,rfl,rfl,rfl,⟨sc,rfl,rfl,⟨60,Y⟩,a,fd,mD X G rfl rfl h1,⟨⟨Kq,od,fd.defaults,fd.kwdefaults,fd.doc,fd.pyModule,fd.annotations,fd.code,fd.closureTuple,v,by rw[Z];exact Us,h2,U⟩,S⟩,λd=>.all λM k=>u d M k,λF nd d=>?_⟩,λd o f YH l I M k=>?_⟩
     .have d:i.kf=some (F,nd):=d
      unfold El at j;rw[d]at j;simp![Zc,XE,W4,Qh]at j;let⟨⟨s,g2⟩,J⟩:=j;exact⟨s,by rw[<-s];exact g2,ach J⟩
     .have g:FAt K mg ⟨i.x,BO fd b,i.N,i.ps,i.cm,i.kf⟩ a:=mD X G rfl rfl h1
      unfold FAt at g;dsimp only at g;rw[o]at g;have l:mg i.x=some (.ref f):=l;rw[show mg i.x=some (.ref a)from g]at l;cases l;let⟨E,D,KP,IV,doc,pm,W,Zn,R,YV,_,lk,_⟩:=I.ex;rw[h2]at lk;cases lk;exact u d M k
    .cases c
   .cases c
  .cases c
 .cases c
def ab9{K:Frag}{f:Str}{a:List Nat}(h:IQ K (f,a)=true):CO K f a:=λc b=>by
 have:=Wn.mp h c (Vr.mp b);dsimp only at this;split at this
 .rename_i C h1
  rw[Zc,W6]at this;exact⟨C,h1,fK this.1,this.2⟩
 .cases this
def abY{K:Frag}(X:K.In h)(G:h.Ns mainGlobals mg){p:Str×Nat}(e:IS K p=true):∃C,mg p.1=some (.ref C)/\nsIn K mainGlobals (Ag p.2)=some (some (.ref C))/\YN K C/\Wj K C:=by
 unfold IS at e;split at e
 .rename_i C a
  simp![Zc,XE,GC,W6]at e;let⟨⟨j,i⟩,⟨⟨⟨⟨⟨⟨KJ,o2⟩,g⟩,f⟩,d⟩,c⟩,b⟩⟩:=e;exact⟨C,mg_of X G a,by rw[j];exact a,fK i,⟨KJ,o2,g,f,d,c,b⟩⟩
 .cases e
noncomputable def Inf.tn(i:Inf):Str:=if i.cm.isSome||i.kf.isSome then "__debug__" else i.x
def allFrom(T:Tab)(K:Frag)(is:List Inf):Option (List Fn):=if IU T K&&T.cs.all (IL K)&&T.fl.all (IQ K)&&is.all (λi=>i.cm.all λc=>BG c.1)&&T.ow.all (IS K)then Ab (is.map (B2 T K))else none
def js{T:Tab}{K:Frag}{h:Heap}{mg:Str->Option Value}(X:K.In h)(G:h.Ns mainGlobals mg):∀{is:List Inf} {L:List Fn},Ab (is.map (B2 T K))=some L ->
  ∃d:List FI,d.map FI.tn=is.map Inf.tn/\AllOk T K mg d L /\∀(j:Nat) (i:Inf),is[j]?=some i ->∃fi,d[j]?=some fi/\fi.x=i.x/\fi.ps=i.ps/\fi.cm=i.cm /\
   fi.kf=i.kf /\
   Plain K mg i fi
 |[],L,e=>by cases e;exact⟨[],rfl,trivial,λj i h=>by simp at h⟩
 |i::is,L,e=>by
  rw[YG]at e;cases q:B2 T K i with
  |none=>rw[q]at e;cases e
  |some F=>
   rw[q]at e;let⟨r,e',rfl⟩:=Yn.mp e;let⟨d,a,b,c⟩:=js X G e';let⟨fi,l,o,g,f,n,m⟩:=xK X G q;refine⟨fi::d,by simp[a,FI.tn,Inf.tn,l,g,f],⟨n,b⟩,λj k h=>?_⟩
   cases j with
   |zero=>simp at h;subst h;exact⟨fi,rfl,l,o,g,f,m⟩
   |succ j=>exact c j k (by simpa using h)
def mem_zipIdx'{p:Inf×Nat}(h:p∈is.zipIdx):is[p.2]?=some p.1:=by
 let⟨i,k⟩:=p;have:=List.mem_zipIdx h;simp![Sf,QY]at this;exact Yi.mpr ⟨by omega,this.2.2.symm⟩
def Fe(T:Tab)(is:List Inf)(L:List Fn)(h:Heap):Prop:=∃K:Frag,K.In h/\allFrom T K is=some L
def uG{T:Tab}{ms:List Str}{L:List Fn}{K:Frag}(J:T.L=is.map Inf.tn)(M:T.kf=DF is)(O:T.cl=DE is)(U:T.mt=C3 is ms)
  (V:T.fx=Dl is T.fs)
  (X:K.In h) (e:allFrom T K is=some L) (G:h.Ns mainGlobals mg) :
  ∃B:List FI,S1 T K mg B L /\∀(j:Nat) (i:Inf),is[j]?=some i ->∃fi,B[j]?=some fi/\fi.x=i.x/\fi.ps=i.ps/\fi.cm=i.cm /\
   fi.kf=i.kf /\
   Plain K mg i fi:=by
 unfold allFrom at e;split at e
 .rename_i n
  simp![Zc]at n;let⟨⟨⟨⟨n,P⟩,R⟩,S⟩,C⟩:=n;unfold IU at n;rw[Zc]at n;have n:=n.1;let⟨B,a,b,c⟩:=js X G e;have nm:∀i∈is,∀cm,i.cm=some cm->Ag (A7 cm.1)=cm.1:=λi hi cm D=>by
   have:=Wn.mp S i hi;rw[D]at this;exact(bP this).1
  refine⟨B,⟨J.trans a.symm,b,λx u h=>abJ X G (Wn.mp P (x,u) (SE h)),λx I=>?_,λy i F nd s=>?_,λy cc i F nd s=>?_,λm l E cc i F nd Q=>?_,⟨λf cs h=>ab9 (Wn.mp R (f,cs) (SE h)),λp g=>abY X G (Wn.mp C p g)⟩,λj H fi t=>?_⟩,c⟩
  .have:=Wn.mp n x I
   cases q:nsIn K mainGlobals x with
   |none=>rw[q]at this;cases this
   |some v=>
    cases v with
    |some v=>rw[q]at this;cases this
    |none=>exact mg_none_of X G q
  .rw [M]at s
   let⟨p,g,d⟩:=So.mp (SE s);split at d
   .rename_i k h1 h2
    cases d;let⟨fi,o,A,_,z,w,_⟩:=c _ _ (mem_zipIdx' g);exact⟨fi,o,A,z.trans h1,w.trans h2⟩
   .cases d
  .rw [O]at s
   let⟨p,g,d⟩:=So.mp (SE s);split at d
   .rename_i cm k h1 h2
    split at d
    .rename_i hi
     cases d;have r:=mem_zipIdx' g;let⟨fi,o,A,_,z,w,_⟩:=c _ _ r;refine⟨nm _ (WG r) _ h1,fi,o,?_,w.trans h2⟩;rw[z,h1,<-hi]
    .cases d
   .cases d
  .rw [U]at E
   let⟨W,Y,d⟩:=Sk.mp (SE E);cases d;let⟨p,g,d⟩:=So.mp Q;split at d
   .rename_i cm k h1 h2
    split at d
    .rename_i hi
     cases d;have r:=mem_zipIdx' g;let⟨fi,o,A,_,z,w,_⟩:=c _ _ r;refine⟨fi,o,?_,w.trans h2⟩;rw[z,h1,nm _ (WG r) _ h1,<-hi]
    .cases d
   .cases d
  .rw [V]at H
   let⟨p,g,d⟩:=So.mp H;split at d
   .rename_i D
    cases d;let⟨N,o,A,_⟩:=c _ _ (mem_zipIdx' g);rw[o]at t;cases t;rw[A];exact Vr.mp D
   .cases d
 .cases e
def vS{T:Tab}{L:List Fn}{K:Frag}(X:K.In h)(e:allFrom T K is=some L)(G:h.Ns mainGlobals mg):FH T (T.xc.map λc=>((CZ K c).getD 0,c.2.1)) K mg:=λk x fo as hk=>by
 unfold allFrom at e;split at e
 .rename_i a
  simp![Zc]at a;have a:=a.1.1.1.1;unfold IU at a;rw[Zc]at a;let⟨C,b⟩:=Tt.mp (Wn.mp a.2 (x,fo,as) (WG hk));refine⟨C,?_,xY X G b⟩;rw[Xj,hk,Vw,b]
  rfl
 .cases e
def abO{l:OpenLaw}{q:Program}{loose:List Str}{XP:(Str->Option Value)->Heap->Prop}{y:DefRec}{T:Tab}{ms:List Str}{L:List Fn}
  (Q:l.most=some 63) (t:y.params.defaults=[]) (O:Zy (2*d+2) callerA) (X5:T.L=is.map Inf.tn) (R:T.kf=DF is) (Yv:T.cl=DE is) (WC:T.mt=C3 is ms)
  (Ur:T.fx=Dl is T.fs)
  (S:is[i]?=some ⟨y.name,N,[x],none,none⟩)
  (TB:∀ns:List Int,ns.length<=63 ->∃fu g',Aa L fu d i [.Zv (ns.map U.int)] []=.ok (.bl true) g') :
  WalkO q loose XP (λ_ h=>Fe T is L h) l.row.toRowW y [] (λf vs=>PySem.call f vs):=by
 refine Att.attach_call Q t λw ZK ZG mg mb E o pm cd doc a vs ns G Z_ ho hd Zg r TX j c V=>?_;let⟨K,A,C⟩:=Z_;let⟨Y2,PG,W⟩:=uG X5 R Yv WC Ur A C G.T.g;let⟨D,F,e2,e3,Z,e6,e4⟩:=W i _ S;let⟨Fi,ei,Z6⟩:=PG.all.get F;let⟨f,fd,m1,B,m3⟩:=Z6.obj;unfold FAt at m1;rw[Z]at m1;have I:mg D.x=some (.ref f):=m1;have m1:=I;rw[e2,r]at m1;cases m1;refine va (CX:=X1) (k:=2*d+2) (x:=x) (fd:=fd) (sp:=Wk K L d i 1) A G.T.g G.T.b G.T.builtins G.T.nolimit V TX j (Ib c #[1]) O (λbase M J=>?_) (λs u=>?_) (λH Y X=>?_) λH e s' z=>z
 .have:=(ot (P:=l.prog) (w:=w) (base:=base) PG (vS A C G.T.g) M J d i D F E fd B).1
  rw[e3]at this;exact this
 .exact .of_eq (e4 rfl rfl E fd I B [u] rfl)
 .obtain ⟨fu,g',e⟩:=TB ns c
  exact aaQ Y X e
open PySem PySem.Spec PyProof.Rows L2 PySem.W PySem.Calls
noncomputable section
def xQ(p:Program)(w:World)(N:Nat):openEnds treeTable p w N=endsF p w N:=by
 unfold openEnds fencedOpening topFrom endsF GR;rw[Fast.te10274390034422433532,Fast.te14364793385576792824,Fast.te1435165496053646825,Fast.te14289696077712309145,Fast.te14082659384304107361]
 rfl
def Br(p:Program):DefRec:=match p.main.body.getD (p.main.body.length-1) (.Pass ⟨0,0,0,0⟩)with
 |.FunctionDef n a b _ _ _ sc _ _ ps=>⟨n,a,b,sc,ps⟩
 |_=>⟨"",Co (.Pass ⟨0,0,0,0⟩),[],AN (.Pass ⟨0,0,0,0⟩),⟨0,0,0,0⟩⟩
def y3{c:Type}{o:Option α}{f:α->β}{g:α->c}{a:β}{b:c}(h:o.map (λs=>(f s,g s))=some (a,b)):o.map f=some a:=by
 cases o with
 |none=>cases h
 |some s=>cases h;rfl
def aap{c:Type}{o:Option α}{f:α->β}{g:α->c}{a:β}{b:c}(h:o.map (λs=>(f s,g s))=some (a,b)):o.map g=some b:=by
 cases o with
 |none=>cases h
 |some s=>cases h;rfl
def jV{e d:Type}{f:e->Option d}:∀{l m:List e} {a b:List d},Ab (l.map f)=some a->Ab (m.map f)=some b->Ab ((l++m).map f)=some (a++b)
 |[],m,a,b,h1,h2=>by cases h1;exact h2
 |x::l,m,a,b,h1,h2=>by
  rw[YG]at h1;rw[SR,YG];cases hx:f x with
  |none=>rw[hx]at h1;cases h1
  |some y=>
   rw[hx]at h1;cases c:Ab (l.map f)with
   |none=>simp![Ab,c]at h1;cases h1
   |some ys=>
    have ih:=jV c h2;simp![Ab,c]at h1;simp![Ab,ih];cases h1
    rfl
def iT{f:α->Option β}{l:List α}{m:List β}{k c:Nat}(b:Ab ((l.take k).map f)=some (m.take k))(a:Ab (((l.drop k).take c).map f)=some ((m.drop k).take c)):Ab ((l.take (k+c)).map f)=some (m.take (k+c)):=by
 rw[List.take_add,List.take_add];exact jV b a
def abb{o:Option Shared}{f:Shared->β}{b:β}{T:Tab}{rs:List (Option (Scope×List Stmt))}{L:List Fn}{k:Nat}(a:o.map (λs=>Eu T (Bf s.heap) is)=some true)(d:o.map f=some b)
  (c:o.map (λs=>(is.take k).map (DG (Bf s.heap)))=some (rs.take k)) (h:Ab (((is.zip rs).take k).map (mkF T))=some (L.take k)) (e:is.length<=k) (j:L.length<=k) (g:rs.length<=k):o.map (λs=>(f s,allFrom T (Bf s.heap) is))=some (b,some L):=by
 rw[Ra (Ib (List.length_zip ▸ Nat.min_le_left _ _) e),Ra j]at h;rw[Ra e,Ra g]at c;cases o with
 |none=>cases a
 |some s=>
  simp![Vw,Yo,Prod.mk.injEq]at a d c ⊢;refine⟨d,?_⟩;unfold allFrom;unfold Eu at a;rw[XW a,<-h];congr 1;rw[<-c];generalize is=l
  induction l with
  |nil=>rfl
  |cons i l ih=>rw[YG,YG,S9,YG,ih,B2]
def aa0{l:OpenLaw}{T:Tab}{ms:List Str}{L:List Fn}{loose C:List Str}{N:Nat}
  (a:Fast.tw9446332074065402090 l=true)
  (j:∀w,(endsF l.prog w N).map (λs=>(Fast.tw4187177175401517315 (lastOf l.prog) loose (importedModules l.prog.main.body) (λ_=>true) true s,allFrom T (Bf s.heap) is))=some (openGood (lastOf l.prog) loose,some L))
  (t:defOf (lastOf l.prog) l.name=some (Br l.prog,[])) (p:l.prog.theDef l.name=some ((Br l.prog).params,(Br l.prog).body,(Br l.prog).scope)) (o:kwWritten? (Br l.prog).params.kwonlyargs (Br l.prog).params.kw_defaults=some [])
  (n:(Br l.prog).params.defaults=[])
  (ok:(chainsOk (lastOf l.prog)&&opensWell l.prog&&(frees l.row.toRowW&&l.row.within.isEmpty))=true) (m:l.prog.bare) (c:l.row.toRowW.promised)
  (g:l.most=some 63) (f:Zy (2*d+2) callerA) (v:T.L=is.map Inf.tn) (b:T.kf=DF is) (u:T.cl=DE is) (y:T.mt=C3 is ms)
  (z:T.fx=Dl is T.fs)
  (k:is[i]?=some ⟨(Br l.prog).name,C,[x],none,none⟩)
  (A:∀ns:List Int,ns.length<=63 ->∃fu g',Aa L fu d i [.Zv (ns.map U.int)] []=.ok (.bl true) g'):l.Holds:=by
 have sd:l.wellSaid=true:=by rw[Fast.te9446332074065402090];exact a
 refine holds_law sd λB=>?_;refine holds_open (r:=l.row) (q:=lastOf l.prog) (loose:=loose) (Xt:=λ_=>true) (XP:=λ_ _=>True) (Yf:=λs=>allFrom T (Bf s.heap) is) (Ya:=λ_=>some L) (YP:=λ_ h=>Fe T is L h) (N:=N) (d:=Br l.prog) (kwd:=[]) ?_
  (λw s e=>⟨Bf s.heap,xJ _,e⟩) (λw h h' ⟨K,k1,k2⟩ b=>⟨K,k1.keeps b,k2⟩) (λ_ _=>trivial) (λ_ _ _ _ _=>trivial) t p o (λs _=>recFacts_nil rfl) (by simp[OpenLaw.row]) B ok m c (abO g n f v b u y z k A)
 intro w;have:=j w;rw[<-xQ,<-Fast.te4187177175401517315]at this;exact this
end
end
end PI
section
open PySem PySem.W PyProof.Rows
def ZC.all(w:World):(PI.endsF PySem.Challenge.rw_braemantle_k33_land_refused.prog w 20000).map (λs=>(Fast.tw4187177175401517315 (PI.lastOf PySem.Challenge.rw_braemantle_k33_land_refused.prog) ZC.loose (PySem.importedModules #[0]) (λ_=>true) true s,PI.allFrom ZC.T (PI.Bf s.heap) ZC.A8))=some (openGood (PI.lastOf PySem.Challenge.rw_braemantle_k33_land_refused.prog) ZC.loose,some ZC.L):=PI.abb (k:=26) (PI.aap (ZC.Tq w)) (PI.y3 (ZC.Tq w)) (ZC.chk1 w) (PI.iT (k:=21) (c:=5) (PI.iT (k:=14) (c:=7) (ZC.part0) ZC.part1) ZC.part2) #[1] #[1] #[1]
end
variable{W:PI.XQ}{Wf:L2.XK->PI.XQ}
namespace PI
noncomputable section
noncomputable def Out.le{a:Type}(o o':Out a):Prop:=o=.Z1\/o=o'
def Out.le.rfl{o:Out α}:o.le o:=.inr (Eq.refl _)
def Out.le.bot{o:Out α}:(Out.Z1:Out α).le o:=.inl (Eq.refl _)
def Out.le.trans{a b c:Out α}(h:a.le b)(k:b.le c):a.le c:=by
 rcases h with rfl|rfl
 .exact .bot
 .exact k
def aj{o o':Out α}{k k':α->G->Out β}(h:o.le o')(b:∀a g,(k a g).le (k' a g)):(o.bind k).le (o'.bind k'):=by
 rcases h with rfl|rfl
 .exact .bot
 .cases o with
  |ok a g=>exact b a g
  |exc c fs g=>exact .rfl
  |Z1=>exact .bot
def ba{o o':Out α}{k k':α->G->Out β}(h:o.le o')(b:∀a g,(k a g).le (k' a g)):(o.bindB k).le (o'.bindB k'):=by
 rcases h with rfl|rfl
 .exact .bot
 .cases o with
  |ok a g=>exact b a g
  |exc c fs g=>exact .rfl
  |Z1=>exact .bot
def aN{o o':Out α}(h:o.le o'):o.Y9.le o'.Y9:=by
 rcases h with rfl|rfl
 .exact .bot
 .exact .rfl
def wN{o o':Out Fl}{Z:Su}(h:o.le o'):(BR o j hs Z).le (BR o' j hs Z):=by
 rcases h with rfl|rfl
 .exact .bot
 .exact .rfl
abbrev CC:=Nat->List U->G->Out U
structure Z9.le(r r':Z9):Prop where
 ev:∀e Z g,(r.ev e Z g).le (r'.ev e Z g)
 ts:∀e Z g,(r.ts e Z g).le (r'.ts e Z g)
 ex:∀e Z g,(r.ex e Z g).le (r'.ex e Z g)
 wh:∀e b Z g,(r.wh e b Z g).le (r'.wh e b Z g)
 fr:∀t it i b Z g,(r.fr t it i b Z g).le (r'.fr t it i b Z g)
 cm:∀it i t cs ZV elt ZW Z g,(r.cm it i t cs ZV elt ZW Z g).le (r'.cm it i t cs ZV elt ZW Z g)
section
variable{C C':CC}{r':Z9}
def aU{f a:E->Su->G->Out U}(h:∀e Z g,(f e Z g).le (a e Z g)):∀es Z g,(JL f es Z g).le (JL a es Z g)
 |[],_,_=>.rfl
 |e::es,Z,g=>aj (h e Z g) λ_ _=>aj (aU h es _ _) λ_ _=>.rfl
def md{f a:E->Su->G->Out U}(h:∀e Z g,(f e Z g).le (a e Z g)):∀e Z g,(JM f e Z g).le (JM a e Z g)
 |none,_,_=>.rfl
 |some e,Z,g=>aj (h e Z g) λ_ _=>.rfl
def dO{f a:E->Su->G->Out Bool}(h:∀e Z g,(f e Z g).le (a e Z g)):∀es Z g,(Av f es Z g).le (Av a es Z g)
 |[],_,_=>.rfl
 |e::es,Z,g=>aj (h e Z g) λk _=>by
  cases k
  .exact .rfl
  .exact dO h es _ _
local macro_rules|`(tactic|sleep 8)=>do
 let a<-("Out.le.rfl Out.le.bot Z9.le.ev Z9.le.ts Z9.le.ex Z9.le.wh Z9.le.fr Z9.le.cm aU md dO aj ba".splitOn " ").toArray.mapM fun s=>`(tactic|apply $(Lean.mkIdent s.toName))
 `(tactic|(repeat first $[|$a:tactic]*|assumption|intro _|split))
def bW(h:r.le r')(e:E)(Z:Su)(g:G):(JO r e Z g).le (JO r' e Z g):=by
 cases e<;>(delta JO;dsimp only)<;>sleep 8
def uj{C C':CC}(a:∀f M g,(C f M g).le (C' f M g)){x y:U}{g:G}:(AI C op tb x y g).le (AI C' op tb x y g):=by
 cases op with
 |eq=>
  simp![AI];cases A0 tb x y g with
  |none=>exact .rfl
  |some p=>exact aj (a _ _ _) λ_ _=>.rfl
 |ne=>
  simp![AI];cases A0 tb x y g with
  |none=>exact .rfl
  |some p=>exact aj (a _ _ _) λ_ _=>.rfl
 |W2=>
  simp![AI];cases CM y g with
  |none=>exact .rfl
  |some w=>
   dsimp only;split
   .cases A0 tb w x g with
    |none=>exact .rfl
    |some p=>exact aj (a _ _ _) λ_ _=>.rfl
   .exact .rfl
 |_=>exact .rfl
def fU(d:∀f M g,(C f M g).le (C' f M g))(h:r.le r')(e:E)(Z:Su)(g:G):(JP C r e Z g).le (JP C' r' e Z g):=by
 cases e with
 |call f es=>exact aj (aN (aU h.ev _ _ _)) λM g=>d f M g
 |VB op tb a b=>exact aj (h.ev _ _ _) λx g=>aj (h.ev _ _ _) λy g=>uj d
 |make c f es ks pm=>
  refine aj (aN (aU h.ev _ _ _)) λM g=>aj (aN (aU h.ev _ _ _)) λws g=>?_;split
  .exact aj (d _ _ _) λu g=>.rfl
  .exact .rfl
 |Xx a j tb es ks=>
  refine aj (aN (h.ev _ _ _)) λx g=>?_;split
  .refine aj (aN (aU h.ev _ _ _)) λM g=>aj (aN (aU h.ev _ _ _)) λws g=>?_
   split
   .exact d _ _ _
   .exact .rfl
  .exact .rfl
 |comp own fr gs elt=>
  cases gs with
  |nil=>exact .rfl
  |cons t ZV=>
   let⟨t,it,cs⟩:=t;exact aj (bW h _ _ _) λi g=>ba (h.cm _ _ _ _ _ _ _ _ _) λ_ _=>.rfl
 |WL own fr gs k v=>
  cases gs with
  |nil=>exact .rfl
  |cons t ZV=>
   let⟨t,it,cs⟩:=t;exact aj (bW h _ _ _) λi g=>ba (h.cm _ _ _ _ _ _ _ _ _) λ_ _=>.rfl
 |_=>delta JP;dsimp only;sleep 8
def fZ(h:r.le r')(e:E)(Z:Su)(g:G):(JQ r e Z g).le (JQ r' e Z g):=by
 cases e<;>(delta JQ;dsimp only)<;>sleep 8
def lb(h:r.le r')(s:Z5)(Z:Su)(g:G):(JR r s Z g).le (JR r' s Z g):=by
 cases s with
 |«for» t it b=>exact aj (bW h _ _ _) λi g=>h.fr _ _ _ _ _ _
 |ZE b=>exact aN (h.ex _ _ _)
 |Wv c a b=>exact aj (aN (h.ts _ _ _)) λk g=>by cases k<;>exact h.ex _ _ _
 |Wu t it b=>exact aj (aN (bW h _ _ _)) λi g=>h.fr _ _ _ _ _ _
 |raise c es=>exact aj (aN (aU h.ev _ _ _)) λM g=>.rfl
 |Vz b j hs=>exact wN (h.ex _ _ _)
 |_=>delta JR;dsimp only;sleep 8
def fR(h:r.le r')(a:List Z5)(Z:Su)(g:G):(JS r a Z g).le (JS r' a Z g):=by
 cases a with
 |nil=>exact .rfl
 |cons s ZV=>exact aj (lb h _ _ _) λf g=>by cases f<;>sleep 8
def fG(h:r.le r')(c:E)(b:List Z5)(Z:Su)(g:G):(JT r c b Z g).le (JT r' c b Z g):=by
 unfold JT;sleep 8
def fQ(h:r.le r')(t:Tg)(it:Iter)(i:Nat)(b:List Z5)(Z:Su)(g:G):(JU r t it i b Z g).le (JU r' t it i b Z g):=by
 unfold JU;sleep 8
def fO(h:r.le r')(it:Iter)(i:Nat)(t:Tg)(c:List E)(b:List (Tg×E×List E))(a:E)(d:List U)(Z:Su)(g:G):(JV r it i t c b a d Z g).le (JV r' it i t c b a d Z g):=by
 unfold JV;split
 .sleep 8
 .sleep 8
 .split
  .split
   .sleep 8
   .refine ba (dO h.ts _ _ _) λk g=>?_
    split
    .cases b with
     |nil=>exact ba (h.ev _ _ _) λv g=>by sleep 8
     |cons t b=>
      let⟨e,Ym,f⟩:=t;exact ba (bW h _ _ _) λj g=>ba (h.cm _ _ _ _ _ _ _ _ _) λ_ _=>h.cm _ _ _ _ _ _ _ _ _
    .sleep 8
  .sleep 8
def aB(a:∀f M g,(C f M g).le (C' f M g)):∀{m n:Nat},m<=n->(JW C m).le (JW C' n)
 |0,n,_=>⟨λ_ _ _=>.bot,λ_ _ _=>.bot,λ_ _ _=>.bot,λ_ _ _ _=>.bot,λ_ _ _ _ _ _=>.bot,λ_ _ _ _ _ _ _ _ _=>.bot⟩
 |m+1,0,h=>absurd h ()
 |m+1,n+1,h=>by
  have ih:=aB a (m:=m) (n:=n) ()
  exact⟨fU a ih,fZ ih,fR ih,fG ih,fQ ih,fO ih⟩
def wt(a:∀f M g,(C f M g).le (C' f M g))(h:m<=n)(F:Fn)(M:List U)(g:G):(Bp m C F M g).le (Bp n C' F M g):=by
 unfold Bp;split
 .exact aj ((aB a h).ex _ _ _) λf g=>.rfl
 .exact .rfl
def eM{L:List Fn}{m n:Nat}(h:m<=n):∀(d f:Nat) (M:List U) (g:G),(Aa L m d f M g).le (Aa L n d f M g)
 |0,_,_,_=>.rfl
 |d+1,f,M,g=>by
  simp![Aa];split
  .exact wt (eM h d) h _ _ _
  .exact .rfl
end
abbrev XP:=Nat->List U->G->Prop
def holds{b:Type}(o:Out b)(X:XP)(Q:b->G->Prop):Prop:=match o with
 |.ok a g=>Q a g
 |.exc c fs g=>X c fs g
 |.Z1=>False
def wp{a:Type}(f:Nat->Out a)(X:XP)(Q:a->G->Prop):Prop:=∃n,holds (f n) X Q
def Am{a:Type}(f:Nat->Out a):Prop:=∀m n,m<=n->(f m).le (f n)
section
variable{f f':Nat->Out α}{k k':Nat->α->G->Out β}{X:XP}{Q:α->G->Prop}{R:β->G->Prop}
def du{o o':Out α}(h:o.le o')(q:holds o X Q):holds o' X Q:=by
 rcases h with rfl|rfl
 .exact q.elim
 .exact q
def eF{o:Out α}{k:α->G->Out β}:holds (o.bind k) X R↔holds o X λa g=>holds (k a g) X R:=by cases o<;>exact Yl
def gL{o:Out α}{k:α->G->Out β}:holds (o.bindB k) X R↔holds o (λ_ _ _=>False) λa g=>holds (k a g) X R:=by cases o<;>exact Yl
def eD{o:Out α}{Q':α->G->Prop}(h:∀a g,Q a g->Q' a g)(q:holds o X Q):holds o X Q':=by
 cases o with
 |ok a g=>exact h a g q
 |exc c fs g=>exact q
 |Z1=>exact q
def wp_mono{Q':α->G->Prop}(q:wp f X Q)(h:∀a g,Q a g->Q' a g):wp f X Q':=let⟨n,z⟩:=q;⟨n,eD h z⟩
def ae{o:Out α}:wp (λ_=>o) X Q↔holds o X Q:=⟨λ⟨_,h⟩=>h,λh=>⟨0,h⟩⟩
def wp_bind(d:Am f)(b:∀a g,Am λn=>k n a g):wp (λn=>(f n).bind (k n)) X R↔wp f X λa g=>wp (λn=>k n a g) X R:=by
 constructor
 .rintro ⟨n,h⟩
  rw[eF]at h;exact⟨n,eD (λa g q=>⟨n,q⟩) h⟩
 .rintro ⟨n,h⟩
  cases e:f n with
  |ok a g=>
   rw[e]at h;let⟨m,h⟩:=h;refine⟨max n m,?_⟩;rw[eF];have h1:f (max n m)=.ok a g:=by
    rcases d n (max n m) (Nat.le_max_left _ _)with z|z
    .rw [e]at z;cases z
    .rw [<-z,e]
   rw[h1];show holds (k (max n m) a g) X R;exact du (b a g m (max n m) (Nat.le_max_right _ _)) h
  |exc c fs g=>rw[e]at h;exact⟨n,by rw[eF,e];exact h⟩
  |Z1=>rw[e]at h;exact h.elim
def av(d:Am f)(b:∀a g,Am λn=>k n a g):wp (λn=>(f n).bindB (k n)) X R↔wp f (λ_ _ _=>False) λa g=>wp (λn=>k n a g) X R:=by
 constructor
 .rintro ⟨n,h⟩
  rw[gL]at h;exact⟨n,eD (λa g q=>⟨n,q⟩) h⟩
 .rintro ⟨n,h⟩
  cases e:f n with
  |ok a g=>
   rw[e]at h;let⟨m,h⟩:=h;refine⟨max n m,?_⟩;rw[gL];have h1:f (max n m)=.ok a g:=by
    rcases d n (max n m) (Nat.le_max_left _ _)with z|z
    .rw [e]at z;cases z
    .rw [<-z,e]
   rw[h1];show holds (k (max n m) a g) X R;exact du (b a g m (max n m) (Nat.le_max_right _ _)) h
  |exc c fs g=>rw[e]at h;exact h.elim
  |Z1=>rw[e]at h;exact h.elim
def bZ(h:∀n,∃m,(f n).le (f' m))(h':∀n,∃m,(f' n).le (f m)):wp f X Q↔wp f' X Q:=
 ⟨λ⟨n,q⟩=>let⟨m,z⟩:=h n;⟨m,du z q⟩,λ⟨n,q⟩=>let⟨m,z⟩:=h' n;⟨m,du z q⟩⟩
end
section
variable(L:List Fn)(d:Nat)
abbrev cA(n:Nat):CC:=Aa L n d
abbrev lv(n:Nat):Z9:=JW (Aa L n d) n
def J6(f:Nat)(M:List U)(g:G)(X:XP)(Q:U->G->Prop):Prop:=wp (λn=>Aa L n d f M g) X Q
def J7(e:E)(Z:Su)(g:G)(X:XP)(Q:U->G->Prop):Prop:=wp (λn=>(lv L d n).ev e Z g) X Q
def J8(e:E)(Z:Su)(g:G)(X:XP)(Q:Bool->G->Prop):Prop:=wp (λn=>(lv L d n).ts e Z g) X Q
def Aj(a:List E)(Z:Su)(g:G)(X:XP)(Q:List U->G->Prop):Prop:=wp (λn=>JL (lv L d n).ev a Z g) X Q
def J9(e:Option E)(Z:Su)(g:G)(X:XP)(Q:Option Int->G->Prop):Prop:=wp (λn=>JM (lv L d n).ev e Z g) X Q
def Ka(a:List E)(Z:Su)(g:G)(X:XP)(Q:Bool->G->Prop):Prop:=wp (λn=>Av (lv L d n).ts a Z g) X Q
def Kb(e:E)(Z:Su)(g:G)(X:XP)(Q:Iter->G->Prop):Prop:=wp (λn=>JO (lv L d n) e Z g) X Q
def Kc(s:Z5)(Z:Su)(g:G)(X:XP)(Q:Fl->G->Prop):Prop:=wp (λn=>JR (lv L d n) s Z g) X Q
def wpS(a:List Z5)(Z:Su)(g:G)(X:XP)(Q:Fl->G->Prop):Prop:=wp (λn=>(lv L d n).ex a Z g) X Q
def Kd(c:E)(b:List Z5)(Z:Su)(g:G)(X:XP)(Q:Fl->G->Prop):Prop:=wp (λn=>(lv L d n).wh c b Z g) X Q
def Ke(t:Tg)(it:Iter)(i:Nat)(b:List Z5)(Z:Su)(g:G)(X:XP)(Q:Fl->G->Prop):Prop:=wp (λn=>(lv L d n).fr t it i b Z g) X Q
def Kf(it:Iter)(i:Nat)(t:Tg)(b:List E)(e:List (Tg×E×List E))(a:E)(c:List U)(Z:Su)(g:G)(X:XP)(Q:List U->G->Prop):Prop:=wp (λn=>(lv L d n).cm it i t b e a c Z g) X Q
end
section
variable{L:List Fn}{X:XP}{Z:Su}
def bg(h:m<=n)(f:Nat)(M:List U)(g:G):(cA L d m f M g).le (cA L d n f M g):=eM h d f M g
def aM(h:m<=n):(lv L d m).le (lv L d n):=aB (bg h) h
def mC(f:Nat)(M:List U)(g:G):Am λn=>Aa L n d f M g:=λ_ _ h=>eM h d f M g
def mE(e:E)(Z:Su)(g:G):Am λn=>(lv L d n).ev e Z g:=λ_ _ h=>(aM h).ev _ _ _
def mT(e:E)(Z:Su)(g:G):Am λn=>(lv L d n).ts e Z g:=λ_ _ h=>(aM h).ts _ _ _
def mEs(e:List E)(Z:Su)(g:G):Am λn=>JL (lv L d n).ev e Z g:=λ_ _ h=>aU (aM h).ev _ _ _
def mO(e:Option E)(Z:Su)(g:G):Am λn=>JM (lv L d n).ev e Z g:=λ_ _ h=>md (aM h).ev _ _ _
def mA(e:List E)(Z:Su)(g:G):Am λn=>Av (lv L d n).ts e Z g:=λ_ _ h=>dO (aM h).ts _ _ _
def mI(e:E)(Z:Su)(g:G):Am λn=>JO (lv L d n) e Z g:=λ_ _ h=>bW (aM h) _ _ _
def m1(e:Z5)(Z:Su)(g:G):Am λn=>JR (lv L d n) e Z g:=λ_ _ h=>lb (aM h) _ _ _
def mS(e:List Z5)(Z:Su)(g:G):Am λn=>(lv L d n).ex e Z g:=λ_ _ h=>(aM h).ex _ _ _
def mW(e:E)(b:List Z5)(Z:Su)(g:G):Am λn=>(lv L d n).wh e b Z g:=λ_ _ h=>(aM h).wh _ _ _ _
def mF(t:Tg)(it:Iter)(i:Nat)(b:List Z5)(Z:Su)(g:G):Am λn=>(lv L d n).fr t it i b Z g:=λ_ _ h=>(aM h).fr _ _ _ _ _ _
def mM(it:Iter)(i:Nat)(t:Tg)(b:List E)(e:List (Tg×E×List E))(a:E)(c:List U)(Z:Su)(g:G):Am λn=>(lv L d n).cm it i t b e a c Z g:=λ_ _ h=>(aM h).cm _ _ _ _ _ _ _ _ _
def mK(o:Out α):Am λ_=>o:=λ_ _ _=>.rfl
def mB{f:Nat->Out α}{k:Nat->α->G->Out β}(h:Am f)(b:∀a g,Am λn=>k n a g):Am λn=>(f n).bind (k n):=λm n z=>aj (h m n z) λa g=>b a g m n z
def mBB{f:Nat->Out α}{k:Nat->α->G->Out β}(h:Am f)(b:∀a g,Am λn=>k n a g):Am λn=>(f n).bindB (k n):=λm n z=>ba (h m n z) λa g=>b a g m n z
def ah{e:E}:J7 L d e Z g X Q↔wp (λn=>JP (cA L d n) (lv L d n) e Z g) X Q:=
 bZ (λn=>match n with
  |0=>⟨0,.bot⟩
  |n+1=>⟨n+1,fU (C:=cA L d (n+1)) (λ_ _ _=>.rfl) (aB (λ_ _ _=>.rfl) (U2 n)) e Z g⟩) λn=>⟨n+1,fU (C:=cA L d n) (C':=cA L d (n+1)) (bg (U2 n)) (aB (bg (U2 n)) (Ie n)) e Z g⟩
def dX{e:E}{Q:Bool->G->Prop}:J8 L d e Z g X Q↔wp (λn=>JQ (lv L d n) e Z g) X Q:=
 bZ (λn=>match n with
  |0=>⟨0,.bot⟩
  |n+1=>⟨n+1,fZ (aB (λ_ _ _=>.rfl) (U2 n)) e Z g⟩) λn=>⟨n+1,fZ (aB (bg (U2 n)) (Ie n)) e Z g⟩
def ml{e:List Z5}{Q:Fl->G->Prop}:wpS L d e Z g X Q↔wp (λn=>JS (lv L d n) e Z g) X Q:=
 bZ (λn=>match n with
  |0=>⟨0,.bot⟩
  |n+1=>⟨n+1,fR (aB (λ_ _ _=>.rfl) (U2 n)) e Z g⟩) λn=>⟨n+1,fR (aB (bg (U2 n)) (Ie n)) e Z g⟩
def aai{b:List Z5}{Q:Fl->G->Prop}:Kd L d c b Z g X Q↔wp (λn=>JT (lv L d n) c b Z g) X Q:=
 bZ (λn=>match n with
  |0=>⟨0,.bot⟩
  |n+1=>⟨n+1,fG (aB (λ_ _ _=>.rfl) (U2 n)) c b Z g⟩) λn=>⟨n+1,fG (aB (bg (U2 n)) (Ie n)) c b Z g⟩
def zt{t:Tg}{b:List Z5}{Q:Fl->G->Prop}:Ke L d t it i b Z g X Q↔wp (λn=>JU (lv L d n) t it i b Z g) X Q:=
 bZ (λn=>match n with
  |0=>⟨0,.bot⟩
  |n+1=>⟨n+1,fQ (aB (λ_ _ _=>.rfl) (U2 n)) t it i b Z g⟩) λn=>⟨n+1,fQ (aB (bg (U2 n)) (Ie n)) t it i b Z g⟩
def abp{t:Tg}{a:List (Tg×E×List E)}{Q:List U->G->Prop}:Kf L d it i t cs a elt ZW Z g X Q↔wp (λn=>JV (lv L d n) it i t cs a elt ZW Z g) X Q:=
 bZ (λn=>match n with
  |0=>⟨0,.bot⟩
  |n+1=>⟨n+1,fO (aB (λ_ _ _=>.rfl) (U2 n)) it i t cs a elt ZW Z g⟩) λn=>⟨n+1,fO (aB (bg (U2 n)) (Ie n)) it i t cs a elt ZW Z g⟩
end
local macro_rules|`(tactic|sleep 9)=>do
 let a<-("mE mT mEs mO mA mI mS mC mW mF mM mK mB mBB".splitOn " ").toArray.mapM fun s=>`(tactic|apply $(Lean.mkIdent s.toName))
 `(tactic|(intros;repeat first $[|$a:tactic]*|intro _))
def wp_congr{f:Nat->Out α}{X:XP}{Q Q':α->G->Prop}(h:∀a g,Q a g↔Q' a g):wp f X Q↔wp f X Q':=⟨λq=>wp_mono q λa g=>(h a g).1,λq=>wp_mono q λa g=>(h a g).2⟩
inductive Lk{α:Sort u}(a:α):Type
 |mk:Lk a
@[reducible] def lk{b:Sort u}(a:b):Lk a:=.mk
def Kg{b:Type}(o:Option b){Q:b->Prop}(_:Lk Q):Prop:=match o with
 |some a=>Q a
 |none=>False
def Kh(k:Bool){A B:Prop}(_:Lk A)(_:Lk B):Prop:=match k with
 |true=>A
 |false=>B
def Ki(f:Fl){A:Su->Prop}{B:Fl->Prop}(_:Lk A)(_:Lk B):Prop:=match f with
 |.nx Z=>A Z
 |f=>B f
def Kj(f:Fl){A:Su->Prop}{B:Fl->Prop}(_:Lk A)(_:Lk B):Prop:=match f with
 |.nx Z=>A Z
 |.ct Z=>A Z
 |.bk Z=>B (.nx Z)
 |.rt u=>B (.rt u)
def Kk(f:Fl){Q:U->Prop}(_:Lk Q):Prop:=match f with
 |.rt u=>Q u
 |.nx _=>Q .ZR
 |_=>False
def dJ{a:α}{Q:α->Prop}:Kg (some a) (lk Q)=Q a:=propext Yl
def gw{A B:Prop}:Kh true (lk A) (lk B)=A:=propext Yl
def rK{A B:Prop}:Kh false (lk A) (lk B)=B:=propext Yl
def aq{k:Bool}{A B:Prop}(h:k=true->A)(h':k=false->B):Kh k (lk A) (lk B):=by cases k;exact h' rfl;exact h rfl
def bC{k:Bool}{A B:Prop}:(if k=true then A else B)↔Kh k (lk A) (lk B):=by cases k<;>simp[Kh]
def aci{Z:Su}{A:Su->Prop}:Ki (.nx Z) (lk A) (lk B)=A Z:=propext Yl
def abW{A:Su->Prop}:Ki (.rt u) (lk A) (lk B)=B (.rt u):=propext Yl
def acm{Z:Su}{A:Su->Prop}:Ki (.bk Z) (lk A) (lk B)=B (.bk Z):=propext Yl
def acx{Z:Su}{A:Su->Prop}:Ki (.ct Z) (lk A) (lk B)=B (.ct Z):=propext Yl
def pN{Z:Su}{A:Su->Prop}:Kj (.nx Z) (lk A) (lk B)=A Z:=propext Yl
def oQ{A:Su->Prop}:Kj (.rt u) (lk A) (lk B)=B (.rt u):=propext Yl
def acB{Z:Su}{A:Su->Prop}:Kj (.bk Z) (lk A) (lk B)=B (.nx Z):=propext Yl
def abK{Z:Su}{A:Su->Prop}:Kj (.ct Z) (lk A) (lk B)=A Z:=propext Yl
def qV{Q:U->Prop}:Kk (.rt u) (lk Q)=Q u:=propext Yl
def acs{Z:Su}{Q:U->Prop}:Kk (.nx Z) (lk Q)=Q .ZR:=propext Yl
def aW{o:Option α}{Q:α->Prop}:(∃a,o=some a/\Q a)↔Kg o (lk Q):=by
 cases o with
 |none=>exact⟨λ⟨_,e,_⟩=>(by cases e),λh=>h.elim⟩
 |some a=>exact⟨λ⟨_,e,h⟩=>(by cases e;exact h),λh=>⟨a,rfl,h⟩⟩
def hk{a:Type}(o:Out a)(X:XP){Q:a->G->Prop}(_:Lk Q):Prop:=holds o X Q
def qU{a:α}{X:XP}{Q:α->G->Prop}:hk (.ok a g) X (lk Q)=Q a g:=propext Yl
def yR{c:Nat}{a:List U}{X:XP}{Q:α->G->Prop}:hk (.exc c a g) X (lk Q)=X c a g:=propext Yl
section
variable{L:List Fn}{X:XP}{Z:Su}
def Kl(L:List Fn)(d f:Nat)(M:List U)(g:G)(X:XP){Q:U->G->Prop}(_:Lk Q):Prop:=J6 L d f M g X Q
def Km(L:List Fn)(d:Nat)(it:Iter)(i:Nat)(t:Tg)(b:List E)(e:List (Tg×E×List E))(a:E)(c:List U)(Z:Su)(g:G)(X:XP){Q:List U->G->Prop}(_:Lk Q):Prop:=Kf L d it i t b e a c Z g X Q
def Kn(L:List Fn)(d:Nat)(t:Tg)(it:Iter)(i:Nat)(b:List Z5)(Z:Su)(g:G)(X:XP){Q:Fl->G->Prop}(_:Lk Q):Prop:=Ke L d t it i b Z g X Q
def Kp(L:List Fn)(d:Nat)(c:E)(b:List Z5)(Z:Su)(g:G)(X:XP){Q:Fl->G->Prop}(_:Lk Q):Prop:=Kd L d c b Z g X Q
def CN(x:U)(l h:Option Int)(g:G):Out U:=match x with
  |.ZZ xs=>if HT.sIx xs.length 0 l=0/\HT.sIx xs.length xs.length h=xs.length then .Z1 else .ok (.ZZ (A9 xs l h)) g
  |.Zv xs=>alloc (.S (A9 xs l h)) g
  |.ref n=>match g[n]? with
   |some (.S xs)=>alloc (.S (A9 xs l h)) g
   |_=>.Z1
  |_=>.Z1
def A6(n:Nat):Bool:=@decide (n<=Ac) (Classical.propDecidable _)
def eU(h:n<=16777000):A6 n=true:=by unfold A6;exact @decide_eq_true _ (Classical.propDecidable _) h
def iq:A6 n=true↔n<=Ac:=by unfold A6;exact @decide_eq_true_iff _ (Classical.propDecidable _)
def Ci(x:U)(g:G):Option (List U):=match x with
 |.ref n=>match g[n]? with
  |some (.S xs)=>some xs
  |_=>none
 |_=>none
def tu{o:Option α}{Q:α->G->Prop}:holds (lift o g) X Q ↔ ∃a,o=some a/\Q a g:=by
 cases o with
 |none=>exact⟨λh=>h.elim,λ⟨_,e,_⟩=>by cases e⟩
 |some a=>exact⟨λh=>⟨a,rfl,h⟩,λ⟨b,e,h⟩=>by cases e;exact h⟩
def cD{o:Option α}{Q:α->G->Prop}:holds (lift o g) X Q↔Kg o (lk λa=>Q a g):=by cases o<;>exact Yl
def fB{o:Option Bool}:holds (match o with|some c=>Out.ok (U.bl c) g|none=>.Z1) X Q↔Kg o (lk λc=>Q (.bl c) g):=by cases o<;>exact Yl
def dz{o:Option α}{Q Q':α->Prop}(h:∀a,Q a↔Q' a):Kg o (lk Q)↔Kg o (lk Q'):=by
 cases o with
 |none=>exact Yl
 |some a=>exact h a
def optN{o:Option Nat}{f:Nat->Nat->Out α}{Q:α->G->Prop}:wp (λn=>match o with|some k=>f n k|none=>.Z1) X Q↔Kg o (lk λk=>wp (λn=>f n k) X Q):=by
 cases o with
 |none=>exact ae
 |some a=>exact Yl
def rn{g':G}:holds (if n<=Ac then Out.ok u g' else .Z1) X Q↔Kh (A6 n) (lk (Q u g')) (lk False):=by
 rw[<-bC];by_cases h:n<=Ac
 .rw [XW h,XW (iq.mpr h)];exact Yl
 .rw [WV h,WV (λz=>h (iq.mp z))];exact Yl
def ob(a:Op)(x y:U)(g:G)(X:XP){Q:U->G->Prop}(_:Lk Q):Prop:=holds (Bg a x y g) X Q
def rT{a:Op}{i:Int}{y:U}{X:XP}:ob a (.int i) y g X (lk Q)=Kg (Jv a (.int i) y) (lk λz=>Q z g):=propext (by
 unfold ob;refine Iff.trans (?_:_↔holds (lift (Jv a (.int i) y) g) X Q) cD;exact Yl)
def abt{a:List U}{X:XP}(d:g[n]?=some (.S xs))(c:g[m]?=some (.S a))(b:xs.length+a.length<=Ac)(h:Q (.ref g.length) (g++[.S (xs++a)])):ob .add (.ref n) (.ref m) g X (lk Q):=by
 unfold ob Bg AM;simp![d,c];rw[XW b];exact h
section
def qt:J7 L d (.O i) Z g X Q↔Kg Z[i]? (lk λo=>Kg o (lk λu=>Q u g)):=by
 rw[ah];delta JP;simp![ae];cases Z[i]? with
 |none=>exact Yl
 |some o=>cases o<;>exact Yl
def oV:J7 L d (.Z0 u) Z g X Q↔Q u g:=by rw[ah];delta JP;simp![ae];rfl
def qd{c:Op}{a b:E}:J7 L d (.ZT c a b) Z g X Q↔J7 L d a Z g X λx g=>J7 L d b Z g X λy g=>ob c x y g X (lk Q):=by
 rw[ah];delta JP;dsimp only;refine(wp_bind (by sleep 9) (by sleep 9)).trans (wp_congr λ_ _=>?_);refine(wp_bind (by sleep 9) (by sleep 9)).trans (wp_congr λ_ _=>?_);exact ae
def abQ{a:E}{b:List Nat}:J7 L d (.fld a j b) Z g X Q↔J7 L d a Z g X λx g=>Kg ((AD x g).bind (BM j b)) <| lk λz=>Q z g:=by
 rw[ah];delta JP;dsimp only;refine(wp_bind (by sleep 9) (by sleep 9)).trans (wp_congr λ_ _=>?_);exact ae.trans cD
abbrev nX:XP:=λ_ _ _=>False
def bE{o:Out α}{k:α->G->Out β}:o.Y9.bind k=o.bindB k:=by cases o<;>rfl
def abf{c f:Nat}{a ks:List E}:J7 L d (.make c f a ks pm) Z g X Q↔Aj L d a Z g nX λM g=>Aj L d ks Z g nX λws g=>M.length=a.length/\ws.length=ks.length/\Kl L d f (perm (.ref g.length::M++ws) pm) (g++[.ins c []]) X (lk λu g'=>Ax u=true/\Q (.ref g.length) g'):=by
 rw[ah];delta JP;dsimp only;simp![bE];have e:∀(M ws:List U) (g:G),Am λn=>if M.length=a.length/\ws.length=ks.length then(Aa L n d f (perm (.ref g.length::M++ws) pm) (g++[.ins c []])).bind λu g'=>if Ax u then Out.ok (U.ref g.length) g' else .Z1 else .Z1:=λM ws g=>by
  split
  .exact mB (mC _ _ _) λ_ _=>mK _
  .exact mK _
 refine(av (mEs _ _ _) λM g=>mBB (mEs _ _ _) λws g=>e M ws g).trans (wp_congr λM g=>?_);refine(av (mEs _ _ _) λws g=>e M ws g).trans (wp_congr λws g=>?_);split
 .rename_i h
  refine Iff.trans ((wp_bind (k:=λ_ u g'=>if Ax u=true then Out.ok (U.ref (List.length g)) g' else Out.Z1) (mC _ _ _) λ_ _=>mK _).trans (wp_congr λu g'=>ae.trans ?_)) ⟨λq=>⟨h.1,h.2,q⟩,λq=>q.2.2⟩
  split
  .rename_i b;exact⟨λq=>⟨b,q⟩,λq=>q.2⟩
  .rename_i b;exact⟨λq=>q.elim,λq=>(b q.1).elim⟩
 .rename_i h;exact⟨λ⟨_,q⟩=>q.elim,λq=>(h ⟨q.1,q.2.1⟩).elim⟩
def yF{a:E}{b ks:List E}:J7 L d (.Xx a j tb b ks) Z g X Q↔J7 L d a Z g nX λx g=>Kg ((AD x g).bind (Bw j tb)) <| lk λp=>Aj L d b Z g nX λM g=>Aj L d ks Z g nX λws g=>M.length=b.length/\ws.length=ks.length/\Kl L d p.1 (perm (x::M++ws) p.2) g X (lk Q):=by
 rw[ah];delta JP;dsimp only;simp![bE];have e:∀(x:U) (p:Nat×List (Nat ⊕ U)) (M ws:List U) (g:G),Am λn=>if M.length=b.length/\ws.length=ks.length then Aa L n d p.1 (perm (x::M++ws) p.2) g else .Z1:=λx p M ws g=>by
  split
  .exact mC _ _ _
  .exact mK _
 have c:∀(x:U) (g:G) (o:Option (Nat×List (Nat ⊕ U))),Am λn=>match o with
   |some p=>(JL (lv L d n).ev b Z g).bindB λM g=>(JL (lv L d n).ev ks Z g).bindB λws g=>if M.length=b.length/\ws.length=ks.length then Aa L n d p.1 (perm (x::M++ws) p.2) g else .Z1
   |none=>.Z1:=λx g o=>by
  cases o with
  |none=>exact mK _
  |some p=>exact mBB (mEs _ _ _) λM g=>mBB (mEs _ _ _) λws g=>e x p M ws g
 refine(av (mE _ _ _) λx g=>c x g _).trans (wp_congr λx g=>?_);cases(AD x g).bind (Bw j tb)with
 |none=>exact ae
 |some p=>
  refine(av (mEs _ _ _) λM g=>mBB (mEs _ _ _) λws g=>e x p M ws g).trans (wp_congr λM g=>?_);refine(av (mEs _ _ _) λws g=>e x p M ws g).trans (wp_congr λws g=>?_);split
  .rename_i h;exact⟨λq=>⟨h.1,h.2,q⟩,λq=>q.2.2⟩
  .rename_i h;exact⟨λ⟨_,q⟩=>q.elim,λq=>(h ⟨q.1,q.2.1⟩).elim⟩
def abV{a b:E}:J7 L d (.cmp op a b) Z g X Q↔J7 L d a Z g X λx g=>J7 L d b Z g X λy g=>Kg (JE op x y g) <| lk λz=>Q (.bl z) g:=by
 rw[ah];delta JP;dsimp only;refine(wp_bind (by sleep 9) (by sleep 9)).trans (wp_congr λ_ _=>?_);refine(wp_bind (by sleep 9) (by sleep 9)).trans (wp_congr λ_ _=>?_);exact ae.trans fB
def wc{e:Cp}{a b:E}:J7 L d (.chain op e a b c) Z g X Q↔J7 L d a Z g X λx g=>J7 L d b Z g X λy g=>Kg (JE op x y g) <| lk λz=>Kh z (lk (J7 L d c Z g X λw g=>Kg (JE e y w g) <| lk λz=>Q (.bl z) g)) (lk (Q (.bl false) g)):=by
 rw[ah];delta JP;dsimp only;refine(wp_bind (by sleep 9) (by intro x g;refine mB (mE _ _ _) λy g=>?_;generalize JE op x y g=o;cases o with|none=>exact mK _|some z=>cases z;exact mK _;exact mB (mE _ _ _) λ_ _=>mK _)).trans (wp_congr λx g=>?_)
 refine(wp_bind (by sleep 9) (by intro y g;generalize JE op x y g=o;cases o with|none=>exact mK _|some z=>cases z;exact mK _;exact mB (mE _ _ _) λ_ _=>mK _)).trans (wp_congr λy g=>?_)
 generalize JE op x y g=o;cases o with
 |none=>exact ae
 |some z=>
  cases z
  .exact ae
  .exact (wp_bind (by sleep 9) (by sleep 9)).trans (wp_congr λ_ _=>ae.trans fB)
def acw{a b:E}:J7 L d (.and a b) Z g X Q↔J7 L d a Z g X λx g=>Kg (match x with|.bl z=>some z|_=>none) <| lk λz=>Kh z (lk (J7 L d b Z g X Q)) (lk (Q (.bl false) g)):=by
 rw[ah];delta JP;dsimp only;refine(wp_bind (by sleep 9) (by intro x g;cases x with|bl b=>cases b;exact mK _;exact mE _ _ _|_=>exact mK _)).trans (wp_congr λx g=>?_)
 cases x with
 |bl z=>cases z;exact ae;exact Yl
 |_=>exact ae
def acP{a b:E}:J7 L d (.or a b) Z g X Q↔J7 L d a Z g X λx g=>Kg (match x with|.bl z=>some z|_=>none) <| lk λz=>Kh z (lk (Q (.bl true) g)) (lk (J7 L d b Z g X Q)):=by
 rw[ah];delta JP;dsimp only;refine(wp_bind (by sleep 9) (by intro x g;cases x with|bl b=>cases b;exact mE _ _ _;exact mK _|_=>exact mK _)).trans (wp_congr λx g=>?_)
 cases x with
 |bl z=>cases z;exact Yl;exact ae
 |_=>exact ae
def acr{a:E}:J7 L d (.not a) Z g X Q↔J7 L d a Z g X λx g=>Kg (JF x g) <| lk λc=>Q (.bl !c) g:=by
 rw[ah];delta JP;dsimp only;refine(wp_bind (by sleep 9) (by sleep 9)).trans (wp_congr λx g=>ae.trans ?_)
 cases JF x g<;>exact Yl
def abC{a:E}:J7 L d (.neg a) Z g X Q↔J7 L d a Z g X λx g=>Kg (match x with|.int i=>some i|_=>none) <| lk λi=>Q (.int (-i)) g:=by
 rw[ah];delta JP;dsimp only;refine(wp_bind (by sleep 9) (by sleep 9)).trans (wp_congr λx g=>ae.trans ?_)
 cases x<;>exact Yl
def pD{a:List E}:J7 L d (.ZZ a) Z g X Q↔Aj L d a Z g X λM g=>Kh (A6 M.length) (lk (Q (.ZZ M) g)) (lk False):=by
 rw[ah];delta JP;dsimp only;exact(wp_bind (by sleep 9) (by sleep 9)).trans (wp_congr λx g=>ae.trans rn)
def abw{a:List E}:J7 L d (.S a) Z g X Q↔Aj L d a Z g X λM g=>Kh (A6 M.length) (lk (Q (.ref g.length) (g++[.S M]))) (lk False):=by
 rw[ah];delta JP;dsimp only;exact(wp_bind (by sleep 9) (by sleep 9)).trans (wp_congr λx g=>ae.trans rn)
def oU{a b:E}:J7 L d (.idx a b) Z g X Q↔J7 L d a Z g X λx g=>J7 L d b Z g X λy g=>match y with|.ZZ M=>Kg ((AJ (.ZZ M) x g).bind id) <| lk λz=>Q z g|.str k=>Kg ((Jx x g).bind λZ3=>BU Z3 k) <| lk λz=>Q z g|y=>Kg (match y with|.int i=>some i|_=>none) <| lk λi=>Kg (items x g) <| lk λxs=>Kg (JG xs i) <| lk λz=>Q z g:=by
 rw[ah];delta JP;dsimp only;refine(wp_bind (by sleep 9) (by sleep 9)).trans (wp_congr λx g=>(wp_bind (by sleep 9) (by sleep 9)).trans (wp_congr λy g=>ae.trans ?_))
 cases y with
 |int i=>
  show holds (match items x g with|some xs=>lift (JG xs i) g|none=>.Z1) X Q↔Kg (items x g) (lk λxs=>Kg (JG xs i) (lk λz=>Q z g))
  cases items x g with
  |none=>exact Yl
  |some xs=>exact cD
 |ZZ M=>exact cD
 |str k=>exact cD
 |_=>exact Yl
def abA{a:E}{b c:Option E}:J7 L d (.Xy a b c) Z g X Q↔J7 L d a Z g X λx g=>J9 L d b Z g X λl g=>J9 L d c Z g X λh g=>hk (CN x l h g) X (lk Q):=by
 rw[ah];delta JP;dsimp only;refine(wp_bind (by sleep 9) (by sleep 9)).trans (wp_congr λ_ _=>?_);refine(wp_bind (by sleep 9) (by sleep 9)).trans (wp_congr λ_ _=>?_);refine(wp_bind (by sleep 9) (by sleep 9)).trans (wp_congr λ_ _=>?_);exact ae
def acA{a:E}:J7 L d (.rev a) Z g X Q↔J7 L d a Z g X λx g=>Kg (Ci x g) <| lk λxs=>Q (.ref g.length) (g++[.S xs.reverse]):=by
 rw[ah];delta JP;dsimp only;refine(wp_bind (by sleep 9) (by sleep 9)).trans (wp_congr λx g=>ae.trans ?_)
 cases x with
 |ref n=>
  dsimp only[Ci];cases g[n]? with
  |none=>exact Yl
  |some o=>cases o<;>exact Yl
 |_=>exact Yl
def abl{f:Nat}{a:List E}:J7 L d (.call f a) Z g X Q↔Aj L d a Z g nX λM g=>Kl L d f M g X (lk Q):=by
 rw[ah];delta JP;dsimp only;simp![bE];exact av (mEs _ _ _) λ_ _=>mC _ _ _
def e_bi{b:Bi}{a:List E}:J7 L d (.bi b a) Z g X Q↔Aj L d a Z g X λM g=>hk (JJ b M g) X (lk Q):=by
 rw[ah];delta JP;dsimp only;exact(wp_bind (by sleep 9) (by sleep 9)).trans (wp_congr λx g=>ae)
def aao:J7 L d .WM Z g X Q↔Q (.ref g.length) (g++[.ZJ []]):=by
 rw[ah];delta JP;dsimp only;exact ae
def acH{a:E}{t:Ty}:J7 L d (.Y1 a t) Z g X Q↔J7 L d a Z g X λx g=>Kg (Au t x g) <| lk λc=>Q (.bl c) g:=by
 rw[ah];delta JP;dsimp only;exact(wp_bind (by sleep 9) (by sleep 9)).trans (wp_congr λx g=>ae.trans fB)
def mN{o:Option Nat}{f:Nat->Nat->Out α}(h:∀k,Am λn=>f n k):Am λn=>(match o with|some k=>f n k|none=>.Z1:Out α):=by
 cases o with
 |none=>exact mK _
 |some k=>exact h k
def aca{o v:E}:J7 L d (.app o v) Z g X Q↔J7 L d o Z g X λx g=>Kg (JK x g) <| lk λk=>J7 L d v Z g X λy g=>hk (AY k y g) X (lk Q):=by
 rw[ah];delta JP;dsimp only;refine(wp_bind (by sleep 9) (by intro x g;exact mN λk=>mB (mE _ _ _) λ_ _=>mK _)).trans (wp_congr λx g=>optN.trans (dz λk=>?_))
 refine(wp_bind (by sleep 9) (by sleep 9)).trans (wp_congr λ_ _=>?_);exact ae
def zk{o v:E}:J7 L d (.V8 o v) Z g X Q↔J7 L d o Z g X λx g=>Kg (JK x g) <| lk λk=>J7 L d v Z g X λy g=>hk (BJ k y g) X (lk Q):=by
 rw[ah];delta JP;dsimp only;refine(wp_bind (by sleep 9) (by intro x g;exact mN λk=>mB (mE _ _ _) λ_ _=>mK _)).trans (wp_congr λx g=>optN.trans (dz λk=>?_))
 refine(wp_bind (by sleep 9) (by sleep 9)).trans (wp_congr λ_ _=>?_);exact ae
def acd{o v:E}:J7 L d (.ext o v) Z g X Q↔J7 L d o Z g X λx g=>Kg (JK x g) <| lk λk=>J7 L d v Z g X λy g=>hk (BB k y g) X (lk Q):=by
 rw[ah];delta JP;dsimp only;refine(wp_bind (by sleep 9) (by intro x g;exact mN λk=>mB (mE _ _ _) λ_ _=>mK _)).trans (wp_congr λx g=>optN.trans (dz λk=>?_))
 refine(wp_bind (by sleep 9) (by sleep 9)).trans (wp_congr λ_ _=>?_);exact ae
def ab6{o:E}:J7 L d (.pop o) Z g X Q↔J7 L d o Z g X λx g=>Kg (JK x g) <| lk λk=>hk (A5 k g) X (lk Q):=by
 rw[ah];delta JP;dsimp only;exact(wp_bind (by sleep 9) (by intro x g;exact mN λk=>mK _)).trans (wp_congr λx g=>optN.trans (dz λk=>ae))
def aa3{own:Nat}{fr:List Nat}{t:Tg}{it:E}{a:List (Tg×E×List E)}{k v:E}:J7 L d (.WL own fr ((t,it,cs)::a) k v) Z g X Q ↔
  Kb L d it Z g X λi g=>Km L d i 0 t cs a (.pair k v) [] (List.replicate own none++fr.map λj=>(Z[j]?).getD none) g (λ_ _ _=>False) (lk λM g=>Kg (dfold M []) <| lk λZ3=>Q (.ref g.length) (g++[.ZJ Z3])):=by
 rw[ah];delta JP;dsimp only;refine(wp_bind (by sleep 9) (by sleep 9)).trans (wp_congr λx g=>(av (by sleep 9) (by sleep 9)).trans (wp_congr λM g=>ae.trans ?_))
 cases dfold M []<;>exact Yl
def zD{k v:E}:J7 L d (.pair k v) Z g X Q↔J7 L d k Z g X λx g=>J7 L d v Z g X λy g=>Kg (keyOf x) <| lk λ_=>Q (.ZZ [x,y]) g:=by
 rw[ah];delta JP;dsimp only;refine(wp_bind (by sleep 9) (by sleep 9)).trans (wp_congr λx g=>(wp_bind (by sleep 9) (by sleep 9)).trans (wp_congr λy g=>ae.trans ?_))
 cases keyOf x<;>exact Yl
def z5{own:Nat}{fr:List Nat}{t:Tg}{it:E}{a:List (Tg×E×List E)}:J7 L d (.comp own fr ((t,it,cs)::a) elt) Z g X Q ↔
  Kb L d it Z g X λi g=>Km L d i 0 t cs a elt [] (List.replicate own none++fr.map λj=>(Z[j]?).getD none) g (λ_ _ _=>False) (lk λM g=>M.length<=Ac/\Q (.ref g.length) (g++[.S M])):=by
 rw[ah];delta JP;dsimp only;refine(wp_bind (by sleep 9) (by sleep 9)).trans (wp_congr λx g=>(av (by sleep 9) (by sleep 9)).trans (wp_congr λM g=>ae.trans ?_))
 split
 .rename_i h;exact⟨λq=>⟨h,q⟩,λq=>q.2⟩
 .rename_i h;exact⟨λq=>q.elim,λq=>h q.1⟩
end
def mY{Q:List U->G->Prop}:Aj L d [] Z g X Q↔Q [] g:=by unfold Aj;simp![JL,ae];rfl
def jO{e:E}{a:List E}{Q:List U->G->Prop}:Aj L d (e::a) Z g X Q↔J7 L d e Z g X λu g=>Aj L d a Z g X λM g=>Q (u::M) g:=by
 unfold Aj;simp![JL];refine(wp_bind (by sleep 9) (by sleep 9)).trans (wp_congr λ_ _=>?_);refine(wp_bind (by sleep 9) (by sleep 9)).trans (wp_congr λ_ _=>?_);exact ae
def lU{Q:Option Int->G->Prop}:J9 L d none Z g X Q↔Q none g:=by unfold J9;simp![JM,ae];rfl
def aac{e:E}{Q:Option Int->G->Prop}:J9 L d (some e) Z g X Q↔J7 L d e Z g X λu g=>∃i,u=.int i/\Q (some i) g:=by
 unfold J9;simp![JM];refine(wp_bind (by sleep 9) (by sleep 9)).trans (wp_congr λx g=>ae.trans ?_)
 cases x with
 |int a=>exact⟨λh=>⟨a,rfl,h⟩,λ⟨b,e,h⟩=>by cases e;exact h⟩
 |_=>exact⟨λh=>h.elim,λ⟨_,e,_⟩=>by cases e⟩
section
variable{Q:Bool->G->Prop}
def acG{a b:E}:J8 L d (.and a b) Z g X Q↔J8 L d a Z g X λk g=>if k then J8 L d b Z g X Q else Q false g:=by
 rw[dX];delta JQ;dsimp only;refine(wp_bind (by sleep 9) (by intro k g;cases k;exact mK _;exact mT _ _ _)).trans (wp_congr λx g=>?_)
 cases x
 .exact ae
 .exact Yl
def acT{a b:E}:J8 L d (.or a b) Z g X Q↔J8 L d a Z g X λk g=>if k then Q true g else J8 L d b Z g X Q:=by
 rw[dX];delta JQ;dsimp only;refine(wp_bind (by sleep 9) (by intro k g;cases k;exact mT _ _ _;exact mK _)).trans (wp_congr λx g=>?_)
 cases x
 .exact Yl
 .exact ae
def ab8{a:E}:J8 L d (.not a) Z g X Q↔J8 L d a Z g X λk g=>Q (!k) g:=by
 rw[dX];delta JQ;dsimp only;refine(wp_bind (by sleep 9) (by sleep 9)).trans (wp_congr λ_ _=>?_);exact ae
def plainT:E->Bool
 |.and _ _=>false|.or _ _=>false|.not _=>false|_=>true
theorem T_e{e:E}(h:plainT e=true):J8 L d e Z g X Q↔J7 L d e Z g X λx g=>∃c,JF x g=some c/\Q c g:=by
 rw[dX];have:(λn=>JQ (lv L d n) e Z g)=λn=>((lv L d n).ev e Z g).bind λx g=>lift (JF x g) g:=by
  funext n;cases e<;>first|rfl|cases h
 rw[this];refine(wp_bind (by sleep 9) (by sleep 9)).trans (wp_congr λ_ _=>?_);exact ae.trans tu
def gf:Ka L d [] Z g X Q↔Q true g:=by unfold Ka;simp![Av,ae];rfl
def zE:Ka L d (c::cs) Z g X Q↔J8 L d c Z g X λk g=>if k then Ka L d cs Z g X Q else Q false g:=by
 unfold Ka;simp![Av];refine(wp_bind (by sleep 9) (by intro k g;cases k;exact mK _;exact mA _ _ _)).trans (wp_congr λx g=>?_)
 cases x
 .exact ae
 .exact Yl
end
section
variable{Q:Iter->G->Prop}
def y9{a:E}:Kb L d (.YT a) Z g X Q↔J7 L d a Z g X λu g=>∃j,u=.int j/\(-1000000<j/\j<1000000)/\Q (.YY 0 j.toNat) g:=by
 unfold Kb;delta JO;dsimp only;refine(wp_bind (by sleep 9) (by sleep 9)).trans (wp_congr λx g=>ae.trans ?_)
 cases x with
 |int a=>
  simp![];split
  .rename_i h;exact⟨λq=>⟨a,rfl,h,q⟩,λ⟨b,e,_,q⟩=>by cases e;exact q⟩
  .rename_i h;exact⟨λq=>q.elim,λ⟨b,e,h',q⟩=>by cases e;exact h h'⟩
 |_=>exact⟨λh=>h.elim,λ⟨_,e,_⟩=>by cases e⟩
def ab2{a:E}:Kb L d (.Y0 a) Z g X Q↔J7 L d a Z g X λu g=>∃k,JK u g=some k/\Q (.Y0 k) g:=by
 unfold Kb;delta JO;dsimp only;refine(wp_bind (by sleep 9) (by sleep 9)).trans (wp_congr λx g=>ae.trans ?_)
 cases JK x g with
 |none=>exact⟨λh=>h.elim,λ⟨_,e,_⟩=>(by cases e)⟩
 |some k=>exact⟨λq=>⟨k,rfl,q⟩,λ⟨_,e,q⟩=>(by cases e;exact q)⟩
def ab3{a b:E}:Kb L d (.zip a b) Z g X Q↔J7 L d a Z g X λu g=>J7 L d b Z g X λw g=>∃k,JK u g=some k /\∃m,JK w g=some m/\Q (.zip k m) g:=by
 unfold Kb;delta JO;dsimp only;refine(wp_bind (by sleep 9) (by sleep 9)).trans (wp_congr λx g=>(wp_bind (by sleep 9) (by sleep 9)).trans (wp_congr λy g=>ae.trans ?_))
 cases JK x g with
 |none=>exact⟨λh=>h.elim,λ⟨_,e,_⟩=>(by cases e)⟩
 |some k=>
  cases JK y g with
  |none=>exact⟨λh=>h.elim,λ⟨_,_,_,e,_⟩=>(by cases e)⟩
  |some m=>exact⟨λq=>⟨k,rfl,m,rfl,q⟩,λ⟨_,e,_,e',q⟩=>(by cases e;cases e';exact q)⟩
def aaL{a b:E}:Kb L d (.VA a b) Z g X Q↔J7 L d a Z g X λu g=>J7 L d b Z g X λw g=>∃i j,u=.int i/\w=.int j/\(-1000000<i/\i<1000000 /\ -1000000<j/\j<1000000)/\Q (.YY i (j-i).toNat) g:=by
 unfold Kb;delta JO;dsimp only;refine(wp_bind (by sleep 9) (by sleep 9)).trans (wp_congr λx g=>(wp_bind (by sleep 9) (by sleep 9)).trans (wp_congr λy g=>ae.trans ?_))
 cases x with
 |int a=>
  cases y with
  |int b=>
   simp![];split
   .rename_i h;exact⟨λq=>⟨a,b,rfl,rfl,h,q⟩,λ⟨_,_,e,e',_,q⟩=>by cases e;cases e';exact q⟩
   .rename_i h;exact⟨λq=>q.elim,λ⟨_,_,e,e',h',q⟩=>by cases e;cases e';exact h h'⟩
  |_=>exact⟨λh=>h.elim,λ⟨_,_,_,e,_⟩=>by cases e⟩
 |_=>exact⟨λh=>h.elim,λ⟨_,_,e,_⟩=>by cases e⟩
theorem I_e{e:E}(h:CY e=true):Kb L d e Z g X Q ↔ J7 L d e Z g X λu g=>holds (match u with
  |.ZZ xs=>.ok (.seq xs) g
  |.xn _ xs=>.ok (.seq xs) g
  |.ref n=>match g[n]? with
   |some (.S _)=>.ok (.S n) g
   |_=>.Z1
  |_=>.Z1) X Q:=by
 unfold Kb;have:(λn=>JO (lv L d n) e Z g)=λn=>((lv L d n).ev e Z g).bind λu g=>match u with
  |.ZZ xs=>.ok (.seq xs) g
  |.xn _ xs=>.ok (.seq xs) g
  |.ref n=>match g[n]? with
   |some (.S _)=>.ok (.S n) g
   |_=>.Z1
  |_=>.Z1:=by
  funext n;cases e<;>first|rfl|cases h
 rw[this];refine(wp_bind (by sleep 9) (by sleep 9)).trans (wp_congr λ_ _=>?_);exact ae
end
section
variable{Q:Fl->G->Prop}
def qv:wpS L d [] Z g X Q↔Q (.nx Z) g:=by rw[ml];simp![JS,ae];rfl
def zS{s:Z5}{a:List Z5}:wpS L d (s::a) Z g X Q↔Kc L d s Z g X λf g=>match f with|.nx ZX=>wpS L d a ZX g X Q|f=>Q f g:=by
 rw[ml];simp![JS];refine(wp_bind (by exact m1 _ _ _) (by intro f g;cases f;exact mS _ _ _;exact mK _;exact mK _;exact mK _)).trans (wp_congr λx g=>?_)
 cases x<;>first|exact Yl|exact ae
def acy{e:E}:Kc L d (.ret e) Z g X Q↔J7 L d e Z g X λu g=>Q (.rt u) g:=by
 unfold Kc;delta JR;dsimp only;exact(wp_bind (by sleep 9) (by sleep 9)).trans (wp_congr λx g=>ae)
def acz{t:Tg}{e:E}:Kc L d (.set t e) Z g X Q↔J7 L d e Z g X λu g=>∃ZX,Ae t (JN t u g) Z=some ZX/\Q (.nx ZX) g:=by
 unfold Kc;delta JR;dsimp only;refine(wp_bind (by sleep 9) (by sleep 9)).trans (wp_congr λx g=>ae.trans ?_)
 cases Ae t (JN t x g) Z with
 |none=>exact⟨λh=>h.elim,λ⟨_,e,_⟩=>by cases e⟩
 |some a=>exact⟨λh=>⟨a,rfl,h⟩,λ⟨b,e,h⟩=>by cases e;exact h⟩
def acF{a b:E}:Kc L d (.par i j a b) Z g X Q↔J7 L d a Z g X λu g=>J7 L d b Z g X λw g=>(i<Z.length/\j<Z.length)/\Q (.nx ((Z.set i (some u)).set j (some w))) g:=by
 unfold Kc;delta JR;dsimp only;refine(wp_bind (by sleep 9) (by sleep 9)).trans (wp_congr λx g=>(wp_bind (by sleep 9) (by sleep 9)).trans (wp_congr λy g=>ae.trans ?_))
 split
 .rename_i h;exact⟨λq=>⟨h,q⟩,λq=>q.2⟩
 .rename_i h;exact⟨λq=>q.elim,λq=>h q.1⟩
def zR{a e:E}{c:List Nat}:Kc L d (.fset a j c e) Z g X Q↔J7 L d e Z g X λu g=>J7 L d a Z g X λx g=>∃g',Bb x j c u g=some g'/\Q (.nx Z) g':=by
 unfold Kc;delta JR;dsimp only;refine(wp_bind (by sleep 9) (by sleep 9)).trans (wp_congr λu g=>(wp_bind (by sleep 9) (by sleep 9)).trans (wp_congr λx g=>ae.trans ?_))
 cases Bb x j c u g with
 |none=>exact⟨λh=>h.elim,λ⟨_,e,_⟩=>by cases e⟩
 |some a=>exact⟨λh=>⟨a,rfl,h⟩,λ⟨b,e,h⟩=>by cases e;exact h⟩
def abu{o i e:E}:Kc L d (.sub o i e) Z g X Q↔J7 L d e Z g X λu g=>J7 L d o Z g X λx g=>J7 L d i Z g X λy g=>holds (subAt x y u Z g) X Q:=by
 unfold Kc;delta JR;dsimp only;refine(wp_bind (by sleep 9) (by sleep 9)).trans (wp_congr λ_ _=>?_);refine(wp_bind (by sleep 9) (by sleep 9)).trans (wp_congr λ_ _=>?_);refine(wp_bind (by sleep 9) (by sleep 9)).trans (wp_congr λ_ _=>?_);exact ae
def acj{e:E}:Kc L d (.exp e) Z g X Q↔J7 L d e Z g X λ_ g=>Q (.nx Z) g:=by
 unfold Kc;delta JR;dsimp only;exact(wp_bind (by sleep 9) (by sleep 9)).trans (wp_congr λx g=>ae)
def abD{a b:List Z5}:Kc L d (.Zs c a b) Z g X Q↔J8 L d c Z g X λk g=>if k then wpS L d a Z g X Q else wpS L d b Z g X Q:=by
 unfold Kc;delta JR;dsimp only;refine(wp_bind (by sleep 9) (by intro k g;cases k;exact mS _ _ _;exact mS _ _ _)).trans (wp_congr λx g=>?_)
 cases x<;>exact Yl
def acI{t:Tg}{it:E}{b:List Z5}:Kc L d (.for t it b) Z g X Q↔Kb L d it Z g X λi g=>Ke L d t i 0 b Z g X Q:=by
 unfold Kc;delta JR;dsimp only;exact wp_bind (by sleep 9) (by sleep 9)
def aam{b:List Z5}:Kd L d c b Z g X Q↔J8 L d c Z g X λk g=>if k then wpS L d b Z g X λf g=>(match f with
  |.nx ZX=>Kd L d c b ZX g X Q
  |.ct ZX=>Kd L d c b ZX g X Q
  |.bk ZX=>Q (.nx ZX) g
  |.rt u=>Q (.rt u) g)else Q (.nx Z) g:=by
 rw[aai];simp![JT];refine(wp_bind (mT _ _ _) λk g=>by cases k;exact mK _;refine mB (mS _ _ _) λf g=>?_;cases f;exact mW _ _ _ _;exact mK _;exact mK _;exact mW _ _ _ _).trans (wp_congr λx g=>?_)
 cases x
 .exact ae
 .simp only [TL]
  refine(wp_bind (by sleep 9) (by intro f g;cases f;exact mW _ _ _ _;exact mK _;exact mK _;exact mW _ _ _ _)).trans (wp_congr λf g=>?_)
  cases f<;>first|exact Yl|exact ae
def n9{t:Tg}{b:List Z5}:Ke L d t it i b Z g X Q ↔ ∃o,next it i g=some o/\match o with
  |none=>Q (.nx Z) g
  |some u=>∃a,Ae t u Z=some a/\wpS L d b a g X λf g=>match f with
   |.nx ZX=>Ke L d t it (i+1) b ZX g X Q
   |.ct ZX=>Ke L d t it (i+1) b ZX g X Q
   |.bk ZX=>Q (.nx ZX) g
   |.rt u=>Q (.rt u) g:=by
 rw[zt];simp![JU];cases next it i g with
 |none=>simp![ae];exact⟨λh=>h.elim,λ⟨_,e,_⟩=>by cases e⟩
 |some o=>
  cases o with
  |none=>simp![ae];exact⟨λh=>⟨none,rfl,h⟩,λ⟨o,e,h⟩=>by cases e;exact h⟩
  |some u=>
   simp![];cases c:Ae t u Z with
   |none=>simp![ae];exact⟨λh=>h.elim,λ⟨_,e,h⟩=>by cases e;let⟨_,e,_⟩:=h;rw[c]at e;cases e⟩
   |some a=>
    simp![];refine(wp_bind (by sleep 9) (by intro f g;cases f;exact mF _ _ _ _ _ _;exact mK _;exact mK _;exact mF _ _ _ _ _ _)).trans ?_
    refine Iff.trans (wp_congr (Q':=λf g=>match f with
       |.nx ZX=>Ke L d t it (i+1) b ZX g X Q
       |.ct ZX=>Ke L d t it (i+1) b ZX g X Q
       |.bk ZX=>Q (.nx ZX) g
       |.rt u=>Q (.rt u) g) λf g=>?_) ?_
    .cases f<;>first|exact Yl|exact ae
    exact⟨λh=>⟨some u,rfl,a,c,h⟩,λ⟨o,e,h⟩=>by cases e;let⟨j,e,h⟩:=h;rw[c]at e;cases e;exact h⟩
end
def bX{t:Tg}{c:List (Tg×E×List E)}{Q:List U->G->Prop}:Kf L d it i t cs c elt ZW Z g X Q ↔ ∃o,next it i g=some o/\match o with
  |none=>Q ZW g
  |some u=>AR t Z=true /\∃a,Ae t u Z=some a/\Ka L d cs a g (λ_ _ _=>False) λk g=>if k then
    match c with
    |[]=>J7 L d elt a g (λ_ _ _=>False) λv g=>ZW.length<Ac/\Kf L d it (i+1) t cs c elt (ZW++[v]) Z g X Q
    |(t2,Ym,Xn)::Xb=>Kb L d Ym a g (λ_ _ _=>False) λj g=>Kf L d j 0 t2 Xn Xb elt ZW a g (λ_ _ _=>False) λy g=>Kf L d it (i+1) t cs c elt y Z g X Q
   else Kf L d it (i+1) t cs c elt ZW Z g X Q:=by
 rw[abp];simp![JV];cases next it i g with
 |none=>simp![ae];exact⟨λh=>h.elim,λ⟨_,e,_⟩=>by cases e⟩
 |some o=>
  cases o with
  |none=>simp![ae];exact⟨λh=>⟨none,rfl,h⟩,λ⟨o,e,h⟩=>by cases e;exact h⟩
  |some u=>
   simp![];by_cases w:AR t Z=true
   .simp only [w,TL]
    cases r:Ae t u Z with
    |none=>simp![ae];exact⟨λh=>h.elim,λ⟨_,e,h⟩=>by cases e;let⟨_,_,e,_⟩:=h;rw[r]at e;cases e⟩
    |some a=>
     simp![];refine Iff.trans ?_ ⟨λh=>⟨some u,rfl,trivial,a,r,h⟩,λ⟨o,e,h⟩=>by cases e;let⟨_,z,e,h⟩:=h;rw[r]at e;cases e;exact h⟩
     cases c with
     |nil=>
      refine(av (by sleep 9) (by intro k g;cases k;exact mM _ _ _ _ _ _ _ _ _;refine mBB (mE _ _ _) λv g=>?_;by_cases h:ZW.length<Ac;simp![h,TL];exact mM _ _ _ _ _ _ _ _ _;simp![h,Td];exact mK _)).trans (wp_congr λk g=>?_)
      cases k
      .exact Yl
      .refine Iff.trans (av (by sleep 9) (by intro v g;by_cases h:ZW.length<Ac;simp![h,TL];exact mM _ _ _ _ _ _ _ _ _;simp![h,Td];exact mK _)) (wp_congr λv g=>?_)
       by_cases h:ZW.length<Ac
       .simp only [h,TL];exact⟨λq=>⟨trivial,q⟩,λq=>q.2⟩
       .simp only [h,Td];exact⟨λ⟨_,q⟩=>q.elim,λq=>q.1.elim⟩
     |cons t2 Xb=>
      let⟨t2,Ym,Xn⟩:=t2;refine(av (by sleep 9) (by intro k g;cases k;exact mM _ _ _ _ _ _ _ _ _;exact mBB (mI _ _ _) λ_ _=>mBB (mM _ _ _ _ _ _ _ _ _) λ_ _=>mM _ _ _ _ _ _ _ _ _)).trans (wp_congr λk g=>?_)
      cases k
      .exact Yl
      .refine Iff.trans (av (by sleep 9) (by sleep 9)) (wp_congr λj g=>?_)
       exact av (by sleep 9) (by sleep 9)
   .have f:AR t Z=false:=by cases h:AR t Z;rfl;exact absurd h w
    simp![f];exact⟨λ⟨_,h⟩=>h.elim,λ⟨_,e,h⟩=>by cases e;exact absurd h.1 #[3]⟩
def yL{f:Nat}{F:Fn}(b:L[f]?=some F)(a:M.length=F.np):J6 L (d+1) f M g X Q↔wpS L d F.body (M.map some++List.replicate (F.ns-M.length) none) g X λc g=>match c with
  |.rt u=>Q u g
  |.nx _=>Q .ZR g
  |_=>False:=by
 unfold J6;simp![Aa,b,Bp,a,TL];refine(wp_bind (f:=λn=>(lv L d n).ex F.body (M.map some++List.replicate (F.ns-F.np) none) g) (mS _ _ _) (by sleep 9)).trans (wp_congr λx g=>ae.trans ?_)
 cases x<;>exact Yl
def yd{f:Nat}(h:J6 L d f M g (λ_ _ _=>False) Q):∃fu u g',Aa L fu d f M g=.ok u g'/\Q u g':=by
 let⟨n,h⟩:=h;have h:holds (Aa L n d f M g) (λ_ _ _=>False) Q:=h;revert h;cases e:Aa L n d f M g with
 |ok u g'=>exactλh=>⟨n,u,g',e,h⟩
 |exc c fs g=>exactλh=>h.elim
 |Z1=>exactλh=>h.elim
end
section
variable{L:List Fn}{X:XP}{Z ZX:Su}{g':G}
def nr{b:List Z5}{Q:Fl->G->Prop}:Kc L d (.U3 c b) Z g X Q↔Kp L d c b Z g X (lk Q):=Yl
def aan{t:Tg}{it:E}{b:List Z5}{Q:Fl->G->Prop}:Kc L d (.for t it b) Z g X Q↔Kb L d it Z g X λi g=>Kn L d t i 0 b Z g X (lk Q):=acI
def aa7{e:E}{Q:Option Int->G->Prop}:J9 L d (some e) Z g X Q↔J7 L d e Z g X λu g=>Kg (match u with|.int i=>some i|_=>none) <| lk λi=>Q (some i) g:=aac.trans (wp_congr λx g=>by
 cases x with
 |int z=>exact⟨λ⟨_,e,h⟩=>(by cases e;exact h),λh=>⟨z,rfl,h⟩⟩
 |_=>exact⟨λ⟨_,e,h⟩=>(by cases e),λh=>h.elim⟩)
section
def yh{a e:E}{b:List Nat}{Q:Fl->G->Prop}:Kc L d (.fset a j b e) Z g X Q↔J7 L d e Z g X λu g=>J7 L d a Z g X λx g=>Kg (Bb x j b u g) <| lk λg'=>Q (.nx Z) g':=by simp![zR,aW]
end
section
variable{Q:Bool->G->Prop}
def ab1{a b:E}:J8 L d (.and a b) Z g X Q↔J8 L d a Z g X λk g=>Kh k (lk (J8 L d b Z g X Q)) (lk (Q false g)):=acG.trans (wp_congr λk g=>bC)
def t_or{a b:E}:J8 L d (.or a b) Z g X Q↔J8 L d a Z g X λk g=>Kh k (lk (Q true g)) (lk (J8 L d b Z g X Q)):=acT.trans (wp_congr λk g=>bC)
def t_e{e:E}(h:plainT e=true):J8 L d e Z g X Q↔J7 L d e Z g X λx g=>Kg (JF x g) <| lk λc=>Q c g:=(T_e h).trans (wp_congr λx g=>aW)
def aaa:Ka L d (c::cs) Z g X Q↔J8 L d c Z g X λk g=>Kh k (lk (Ka L d cs Z g X Q)) (lk (Q false g)):=zE.trans (wp_congr λk g=>bC)
end
section
variable{Q:Iter->G->Prop}
def Ai(j:Int):Bool:=@decide (-1000000<j/\j<1000000) (Classical.propDecidable _)
def aE{j:Int}(h : -1000000<j)(h':j<1000000):Ai j=true:=by unfold Ai;exact @decide_eq_true _ (Classical.propDecidable _) ⟨h,h'⟩
def aaP{a:E}:Kb L d (.YT a) Z g X Q↔J7 L d a Z g X λu g=>Kg (match u with|.int i=>some i|_=>none) <| lk λj=>Kh (Ai j) (lk (Q (.YY 0 j.toNat) g)) (lk False):=y9.trans (wp_congr λu g=>by
 cases u with
 |int i=>
  show _↔Kh (Ai i) (lk _) (lk _);by_cases h : -1000000<i/\i<1000000
  .rw [show Ai i=true by unfold Ai;exact @decide_eq_true _ (Classical.propDecidable _) h]
   exact⟨λ⟨_,e,_,q⟩=>(by cases e;exact q),λq=>⟨i,rfl,h,q⟩⟩
  .rw [show Ai i=false by unfold Ai;exact @decide_eq_false _ (Classical.propDecidable _) h]
   exact⟨λ⟨_,e,q,_⟩=>(by cases e;exact h q),λq=>q.elim⟩
 |_=>exact⟨λ⟨_,e,h⟩=>(by cases e),λh=>h.elim⟩)
def zP{a b:E}:Kb L d (.VA a b) Z g X Q↔J7 L d a Z g X λu g=>J7 L d b Z g X λw g=>Kg (match u with|.int i=>some i|_=>none) <| lk λi=>Kg (match w with|.int i=>some i|_=>none) <| lk λj=>Kh (Ai i&&Ai j) (lk (Q (.YY i (j-i).toNat) g)) (lk False):=aaL.trans (wp_congr λu g=>wp_congr λw g=>by
 cases u with
 |int i=>
  cases w with
  |int j=>
   show _↔Kh (Ai i&&Ai j) (lk _) (lk _);by_cases h:(Ai i&&Ai j)=true
   .rw [h]
    have h':=h;simp![Ai,Zc,XE]at h';exact⟨λ⟨_,_,e,e',_,q⟩=>(by cases e;cases e';exact q),λq=>⟨i,j,rfl,rfl,⟨h'.1.1,h'.1.2,h'.2.1,h'.2.2⟩,q⟩⟩
   .rw [Qv]at h
    rw[h];exact⟨λ⟨_,_,e,e',q,_⟩=>by cases e;cases e';simp[Ai,q]at h,λq=>q.elim⟩
  |_=>exact⟨λ⟨_,_,e,e',h⟩=>(by cases e'),λh=>h.elim⟩
 |_=>exact⟨λ⟨_,_,e,h⟩=>(by cases e),λh=>h.elim⟩)
def Cj(u:U)(g:G):Option (Iter×G):=match u with
 |.ZZ xs=>some (.seq xs,g)
 |.xn _ xs=>some (.seq xs,g)
 |.ref n=>match g[n]? with
  |some (.S _)=>some (.S n,g)
  |_=>none
 |_=>none
def i_e{e:E}(h:CY e=true):Kb L d e Z g X Q↔J7 L d e Z g X λu g=>Kg (Cj u g) <| lk λp=>Q p.1 p.2:=(I_e h).trans (wp_congr λu g=>by
 cases u with
 |ref n=>
  simp![Cj];cases g[n]? with
  |none=>exact Yl
  |some o=>cases o<;>exact Yl
 |_=>exact Yl)
def acg{a b:E}:Kb L d (.zip a b) Z g X Q↔J7 L d a Z g X λu g=>J7 L d b Z g X λw g=>Kg (JK u g) <| lk λk=>Kg (JK w g) <| lk λm=>Q (.zip k m) g:=by simp![ab3,aW]
def abx{a:E}:Kb L d (.Y0 a) Z g X Q↔J7 L d a Z g X λu g=>Kg (JK u g) <| lk λk=>Q (.Y0 k) g:=by simp![ab2,aW]
end
section
variable{Q:Fl->G->Prop}
def aaW{s:Z5}{a:List Z5}:wpS L d (s::a) Z g X Q↔Kc L d s Z g X λf g=>Ki f (lk (λZX=>wpS L d a ZX g X Q)) (lk λf=>Q f g):=zS.trans (wp_congr λf g=>by cases f<;>exact Yl)
def aas{t:Tg}{e:E}:Kc L d (.set t e) Z g X Q↔J7 L d e Z g X λu g=>Kg (Ae t (JN t u g) Z) <| lk λZX=>Q (.nx ZX) g:=acz.trans (wp_congr λx g=>aW)
def aaR{a b:E}:Kc L d (.par i j a b) Z g X Q↔J7 L d a Z g X λu g=>J7 L d b Z g X λw g=>Kh (decide (i<Z.length)&&decide (j<Z.length)) (lk (Q (.nx ((Z.set i (some u)).set j (some w))) g)) (lk False):=acF.trans (wp_congr λx g=>wp_congr λy g=>by
 by_cases h:i<Z.length<;>by_cases k:j<Z.length<;>simp[h,k,Kh])
def zI{o i e:E}:Kc L d (.sub o i e) Z g X Q↔J7 L d e Z g X λu g=>J7 L d o Z g X λx g=>J7 L d i Z g X λy g=>hk (subAt x y u Z g) X (lk Q):=abu
def aaZ{a b:List Z5}:Kc L d (.Zs c a b) Z g X Q↔J8 L d c Z g X λk g=>Kh k (lk (wpS L d a Z g X Q)) (lk (wpS L d b Z g X Q)):=abD.trans (wp_congr λk g=>bC)
def zH{b:List Z5}:Kd L d c b Z g X Q↔J8 L d c Z g X λk g=>Kh k (lk (wpS L d b Z g X λf g=>Kj f (lk (λZX=>Kd L d c b ZX g X Q)) (lk λf=>Q f g))) (lk (Q (.nx Z) g)):=aam.trans (wp_congr λk g=>bC.trans (by
 cases k
 .exact Yl
 .exact wp_congr λf g=>by cases f<;>exact Yl))
def ni{f:Nat}{F:Fn}{Q:U->G->Prop}(b:L[f]?=some F)(a:M.length=F.np):J6 L (d+1) f M g X Q↔wpS L d F.body (M.map some++List.replicate (F.ns-M.length) none) g X λc g=>Kk c <| lk λu=>Q u g:=(yL b a).trans (wp_congr λf g=>by cases f<;>exact Yl)
def b6{t:Tg}{it:Iter}{b:List Z5}(M:List U)(a:Nat->Su->G->Prop)
  (c:∀k Z g,a k Z g->next it k g=some M[k]?)
  (j:∀k u Z g,M[k]?=some u->a k Z g->Kg (Ae t u Z) (lk λm=>wpS L d b m g X λf g=>Kj f (lk (λZX=>a (k+1) ZX g)) (lk λf=>Q f g)))
  (l:∀Z g,a M.length Z g->Q (.nx Z) g):∀(n i:Nat) (Z:Su) (g:G),i+n=M.length->a i Z g->Ke L d t it i b Z g X Q
 |0,i,Z,g,e,h=>by
  have e:i=M.length:=by omega
  subst e;rw[n9];exact⟨none,by rw[c _ _ _ h];simp,l _ _ h⟩
 |n+1,i,Z,g,e,h=>by
  have hi:i<M.length:=by omega
  rw[n9];let⟨m,o,w⟩:=aW.2 (j i M[i] Z g (Yr hi) h);refine⟨some M[i],by rw[c _ _ _ h,Yr hi],m,o,wp_mono w λf g q=>?_⟩
  cases f with
  |nx ZX=>exact b6 M a c j l n (i+1) ZX g () q
  |ct ZX=>exact b6 M a c j l n (i+1) ZX g () q
  |bk ZX=>exact q
  |rt u=>exact q
def ab4{b:List Z5}(e:Nat->Su->G->Prop)
  (i:∀n Z g,e n Z g->J8 L d c Z g X λk g=>Kh k (lk (wpS L d b Z g X λf g=>Kj f (lk (λZX=>∃m,m<n/\e m ZX g)) (lk λf=>Q f g))) (lk (Q (.nx Z) g))):∀(n:Nat) (Z:Su) (g:G),e n Z g->Kd L d c b Z g X Q:=by
 intro n
 induction n using Nat.strongRecOn with
 |_ n ih=>
  intro Z g h;rw[zH];refine wp_mono (i n Z g h) λk g q=>?_;cases k
  .exact q
  .refine wp_mono q λf g q=>?_
   cases f with
   |nx ZX=>let⟨m,a,q⟩:=q;exact ih m a _ _ q
   |ct ZX=>let⟨m,a,q⟩:=q;exact ih m a _ _ q
   |bk ZX=>exact q
   |rt u=>exact q
end
def Kq{b:Type}(o:Option b){A:Prop}{Q:b->Prop}(_:Lk A)(_:Lk Q):Prop:=match o with
 |none=>A
 |some a=>Q a
def rL{A:Prop}{Q:α->Prop}:Kq none (lk A) (lk Q)=A:=propext Yl
def rO{a:α}{A:Prop}{Q:α->Prop}:Kq (some a) (lk A) (lk Q)=Q a:=propext Yl
end
def AK(f:E->Su->Option U):List E->Su->Option (List U)
 |[],_=>some []
 |e::es,Z=>match f e Z with
  |some u=>match AK f es Z with
   |some M=>some (u::M)
   |none=>none
  |none=>none
def Bq(x y:Option U):Option U:=match x with
 |some (.int i)=>match y with
  |some (.int j)=>some (.int (i+j))
  |_=>none
 |_=>none
def BF(x y:Option U):Option U:=match x with
 |some (.int i)=>match y with
  |some (.int j)=>some (.int (i-j))
  |_=>none
 |_=>none
def tupP(x:Option (List U)):Option U:=match x with
 |some M=>match Nat.ble M.length 1000 with
  |true=>some (.ZZ M)
  |false=>none
 |none=>none
def Kr(x:Option U)(k:Int):Option U:=match x with
 |some (.ZZ xs)=>JG xs k
 |_=>none
def Dj(o:Option (Option U)):Option U:=match o with
 |some o=>o
 |none=>none
def Ks:Nat->E->Su->Option U
 |0,_,_=>none
 |n+1,e,Z=>match e with
  |.O i=>Dj Z[i]?
  |.Z0 u=>some u
  |.ZZ es=>tupP (AK (Ks n) es Z)
  |.ZT .add a b=>Bq (Ks n a Z) (Ks n b Z)
  |.ZT .sub a b=>BF (Ks n a Z) (Ks n b Z)
  |.idx a (.Z0 (.int k))=>Kr (Ks n a Z) k
  |_=>none
section
variable{L:List Fn}{X:XP}{Z:Su}
def pEs{f:E->Su->Option U}(a:∀e u (Q:U->G->Prop),f e Z=some u->(J7 L d e Z g X Q↔Q u g)):∀(es:List E) (M:List U) (Q:List U->G->Prop),AK f es Z=some M->(Aj L d es Z g X Q↔Q M g)
 |[],M,Q,h=>by cases h;exact mY
 |e::es,M,Q,h=>by
  cases he:f e Z with
  |none=>simp![AK,he]at h;cases h
  |some u=>
   cases hs:AK f es Z with
   |none=>simp![AK,he,hs]at h;cases h
   |some b=>
    simp![AK,he,hs]at h;cases h;exact jO.trans ((a e u _ he).trans (pEs a es b _ hs))
def qu{c:Op}{f:Option U->Option U->Option U}{a b:E}{x y:Option U}{u:U}{Q:U->G->Prop}(l:∀u (Q:U->G->Prop),x=some u->(J7 L d a Z g X Q↔Q u g))(h:∀u (Q:U->G->Prop),y=some u->(J7 L d b Z g X Q↔Q u g))(e:f x y=some u)(k:∀u,f x y=some u ->∃i j,x=some (.int i)/\y=some (.int j)/\Jv c (.int i) (.int j)=some u):J7 L d (.ZT c a b) Z g X Q↔Q u g:=by
 let⟨i,j,o,n,m⟩:=k u e;refine qd.trans ((l _ _ o).trans ((h _ _ n).trans ?_));rw[rT,m,dJ]
def pE:∀(n:Nat) (e:E) (u:U) (Q:U->G->Prop),Ks n e Z=some u->(J7 L d e Z g X Q↔Q u g)
 |0,_,_,_,h=>by cases h
 |n+1,e,u,Q,h=>by
  have ih:=pE n;cases e with
  |O i=>
   have h:Dj Z[i]?=some u:=h;refine qt.trans ?_;cases hs:Z[i]? with
   |none=>rw[hs]at h;cases h
   |some o=>rw[hs]at h;have h:o=some u:=h;subst h;exact Yl
  |Z0 v=>cases(show some v=some u from h);exact oV
  |ZZ es=>
   have h:tupP (AK (Ks n) es Z)=some u:=h;cases hs:AK (Ks n) es Z with
   |none=>rw[hs]at h;cases h
   |some M=>
    rw[hs]at h;simp![tupP]at h;cases c:Nat.ble M.length 1000 with
    |true=>
     rw[c]at h;cases h;refine pD.trans ((pEs (λe u Q h=>ih e u Q h) es M _ hs).trans ?_);rw[eU (by have:=Nat.le_of_ble_eq_true c;omega),gw]
    |false=>rw[c]at h;cases h
  |ZT op a b=>
   cases op with
   |add=>
    have h:Bq (Ks n a Z) (Ks n b Z)=some u:=h;refine qu (f:=Bq) (λu Q h=>ih a u Q h) (λu Q h=>ih b u Q h) h λu h=>?_;unfold Bq at h;split at h
    .split at h
     .cases h;exact⟨_,_,‹_›,‹_›,rfl⟩
     .cases h
    .cases h
   |sub=>
    have h:BF (Ks n a Z) (Ks n b Z)=some u:=h;refine qu (f:=BF) (λu Q h=>ih a u Q h) (λu Q h=>ih b u Q h) h λu h=>?_;unfold BF at h;split at h
    .split at h
     .cases h;exact⟨_,_,‹_›,‹_›,rfl⟩
     .cases h
    .cases h
   |_=>exact nomatch (show none=some u from h)
  |idx a b=>
   cases b with
   |Z0 v=>
    cases v with
    |int k=>
     have h:Kr (Ks n a Z) k=some u:=h;cases j:Ks n a Z with
     |none=>rw[j]at h;cases h
     |some x=>
      rw[j]at h;refine oU.trans ((ih a x _ j).trans (oV.trans ?_));cases x with
      |ZZ xs=>
       have h:JG xs k=some u:=h;show Kg (JG xs k) (lk _)↔_;rw[h,dJ]
      |_=>cases h
    |_=>exact nomatch (show none=some u from h)
   |_=>exact nomatch (show none=some u from h)
  |_=>exact nomatch (show none=some u from h)
def Kt(L:List Fn)(d:Nat)(e:E)(Z:Su)(g:G)(X:XP)(Q:U->G->Prop):Prop:=J7 L d e Z g X Q
def Ku(L:List Fn)(d:Nat)(a:List E)(Z:Su)(g:G)(X:XP)(Q:List U->G->Prop):Prop:=Aj L d a Z g X Q
def p_E{e:E}:J7 L d e Z g X Q=Kq (Ks 8 e Z) (lk (Kt L d e Z g X Q)) (lk λu=>Q u g):=propext (by
 cases h:Ks 8 e Z with
 |none=>exact Yl
 |some u=>exact pE 8 e u Q h)
def acK{a:List E}{Q:List U->G->Prop}:Aj L d a Z g X Q=Kq (AK (Ks 8) a Z) (lk (Ku L d a Z g X Q)) (lk λM=>Q M g):=propext (by
 cases h:AK (Ks 8) a Z with
 |none=>exact Yl
 |some M=>exact pEs (λe u Q h=>pE 8 e u Q h) a M Q h)
def j9{own:Nat}{fr:List Nat}{t:Tg}{it:E}{a:List (Tg×E×List E)}{k v:E}:Kt L d (.WL own fr ((t,it,cs)::a) k v) Z g X Q↔Kb L d it Z g X λi g=>Km L d i 0 t cs a (.pair k v) [] (List.replicate own none++fr.map λj=>(Z[j]?).getD none) g (λ_ _ _=>False) (lk λM g=>Kg (dfold M []) <| lk λZ3=>Q (.ref g.length) (g++[.ZJ Z3])):=aa3
def jZ{k v:E}:Kt L d (.pair k v) Z g X Q↔J7 L d k Z g X λx g=>J7 L d v Z g X λy g=>Kg (keyOf x) <| lk λ_=>Q (.ZZ [x,y]) g:=zD
def ka{own:Nat}{fr:List Nat}{t:Tg}{it:E}{a:List (Tg×E×List E)}:Kt L d (.comp own fr ((t,it,cs)::a) elt) Z g X Q↔Kb L d it Z g X λi g=>Km L d i 0 t cs a elt [] (List.replicate own none++fr.map λj=>(Z[j]?).getD none) g (λ_ _ _=>False) (lk λM g=>M.length<=Ac/\Q (.ref g.length) (g++[.S M])):=z5
def jQ:Kt L d .WM Z g X Q↔Q (.ref g.length) (g++[.ZJ []]):=aao
def aaJ:Kt L d (.O i) Z g X Q↔Kg Z[i]? (lk λo=>Kg o (lk λu=>Q u g)):=qt
end
section
variable{Z:Su}
def pv{f:E->Su->Option U}:AK f [] Z=some []:=rfl
def k8{f:E->Su->Option U}{e:E}{a:List E}:AK f (e::a) Z=match f e Z with
  |some u=>match AK f a Z with
   |some M=>some (u::M)
   |none=>none
  |none=>none:=rfl
def pH:Ks (n+1) (.O i) Z=Dj Z[i]?:=rfl
def rg:Ks (n+1) (.Z0 u) Z=some u:=rfl
def qk{a:List E}:Ks (n+1) (.ZZ a) Z=tupP (AK (Ks n) a Z):=rfl
def qW{a b:E}:Ks (n+1) (.ZT .add a b) Z=Bq (Ks n a Z) (Ks n b Z):=rfl
def oM{a b:E}:Ks (n+1) (.ZT .sub a b) Z=BF (Ks n a Z) (Ks n b Z):=rfl
def rl{a:E}{k:Int}:Ks (n+1) (.idx a (.Z0 (.int k))) Z=Kr (Ks n a Z) k:=rfl
def om{o:Option U}:Dj (some o)=o:=rfl
def nB{a:U}:tupP (some [a])=some (.ZZ [a]):=rfl
def lX{a b:U}:tupP (some [a,b])=some (.ZZ [a,b]):=rfl
def l8{a b c:U}:tupP (some [a,b,c])=some (.ZZ [a,b,c]):=rfl
def oH{a b c d:U}:tupP (some [a,b,c,d])=some (.ZZ [a,b,c,d]):=rfl
def lP{a b c d e:U}:tupP (some [a,b,c,d,e])=some (.ZZ [a,b,c,d,e]):=rfl
def mH{a b c d e f:U}:tupP (some [a,b,c,d,e,f])=some (.ZZ [a,b,c,d,e,f]):=rfl
def ng{a b c d e f g:U}:tupP (some [a,b,c,d,e,f,g])=some (.ZZ [a,b,c,d,e,f,g]):=rfl
def mZ{a b c d e f g h:U}:tupP (some [a,b,c,d,e,f,g,h])=some (.ZZ [a,b,c,d,e,f,g,h]):=rfl
def ma:tupP none=none:=rfl
def lO{i j:Int}:Bq (some (.int i)) (some (.int j))=some (.int (i+j)):=rfl
def lI{i j:Int}:BF (some (.int i)) (some (.int j))=some (.int (i-j)):=rfl
def ll{y:Option U}:Bq none y=none:=rfl
def lD{y:Option U}:BF none y=none:=rfl
def lA{i:Int}:Bq (some (.int i)) none=none:=rfl
def nL{i:Int}:BF (some (.int i)) none=none:=rfl
def nP{y:Option U}:Bq (some (.ref i)) y=none:=rfl
def oP{k:Int}:Kr (some (.ZZ xs)) k=JG xs k:=rfl
def qJ{k:Int}:Kr (some (.ref n)) k=none:=rfl
def qc{k:Int}:Kr (some (.Zv xs)) k=none:=rfl
def pA{c:Nat}{k:Int}:Kr (some (.xn c xs)) k=none:=rfl
def qZ{k:Int}:Kr none k=none:=rfl
def o8{a b:E}:Ks (n+1) (.ZT .mul a b) Z=none:=rfl
def n8{a b:E}:Ks (n+1) (.ZT .fdiv a b) Z=none:=rfl
def rj{a b:E}:Ks (n+1) (.ZT .mod a b) Z=none:=rfl
def pd{a b:E}:Ks (n+1) (.ZT .pow a b) Z=none:=rfl
def oZ{o:Cp}{a b:E}:Ks (n+1) (.cmp o a b) Z=none:=rfl
def kA{o q:Cp}{a b:E}:Ks (n+1) (.chain o q a b c) Z=none:=rfl
def ql{a b:E}:Ks (n+1) (.and a b) Z=none:=rfl
def rQ{a b:E}:Ks (n+1) (.or a b) Z=none:=rfl
def pB{a:E}:Ks (n+1) (.not a) Z=none:=rfl
def rA{a:E}:Ks (n+1) (.neg a) Z=none:=rfl
def oR{a:List E}:Ks (n+1) (.S a) Z=none:=rfl
def qF{a:E}{b c:Option E}:Ks (n+1) (.Xy a b c) Z=none:=rfl
def pV{a:E}:Ks (n+1) (.rev a) Z=none:=rfl
def l9{f:Nat}{a:List E}:Ks (n+1) (.call f a) Z=none:=rfl
def pR{a:E}{b:List Nat}:Ks (n+1) (.fld a j b) Z=none:=rfl
def nV{c f:Nat}{a ks:List E}:Ks (n+1) (.make c f a ks pm) Z=none:=rfl
def pX{a b:E}:Ks (n+1) (.VB op tb a b) Z=none:=rfl
def lN{a:E}{b ks:List E}:Ks (n+1) (.Xx a j tb b ks) Z=none:=rfl
def rP{b:Bi}{a:List E}:Ks (n+1) (.bi b a) Z=none:=rfl
def oN{a:E}{t:Ty}:Ks (n+1) (.Y1 a t) Z=none:=rfl
def oO{o v:E}:Ks (n+1) (.app o v) Z=none:=rfl
def m8{o v:E}:Ks (n+1) (.V8 o v) Z=none:=rfl
def qj{o v:E}:Ks (n+1) (.ext o v) Z=none:=rfl
def rD{o:E}:Ks (n+1) (.pop o) Z=none:=rfl
def nA  : Ks (n+1) .WM Z=none:=rfl
def n0{fr:List Nat}{e:E}:Ks (n+1) (.comp m fr gs e) Z=none:=rfl
def nH{k v:E}:Ks (n+1) (.pair k v) Z=none:=rfl
def oB{fr:List Nat}{k v:E}:Ks (n+1) (.WL m fr gs k v) Z=none:=rfl
def qT{a:E}:Ks (n+1) (.idx a (.O i)) Z=none:=rfl
def qY{a:E}{f:Nat}{b:List E}:Ks (n+1) (.idx a (.call f b)) Z=none:=rfl
def rB{a:E}{b:List E}:Ks (n+1) (.idx a (.ZZ b)) Z=none:=rfl
def qQ{a b:E}{o:Op}:Ks (n+1) (.idx a (.ZT o b c)) Z=none:=rfl
def qO{a:E}{s:PySem.Str}:Ks (n+1) (.idx a (.Z0 (.str s))) Z=none:=rfl
def qA{a b:E}:Ks (n+1) (.idx a (.idx b c)) Z=none:=rfl
def pP{a b:E}:Ks (n+1) (.idx a (.neg b)) Z=none:=rfl
end
section
variable{L:List Fn}{X:XP}{Z:Su}{QF:Fl->G->Prop}{QB:Bool->G->Prop}{QI:Iter->G->Prop}{QL:List U->G->Prop}{QO:Option Int->G->Prop}{op:Op}{cp:Cp}{cq:Cp}{a:E}{b:E}{e:E}{it:E}{o:E}{v:E}{k:Nat}{f:Nat}{cc:Nat}{cs:List Nat}{es:List E}{ks:List E}{p:Nat×List (Nat ⊕ U)}{x:U}{y:U}{w:U}{ws:List U}{lo:Option E}{hi:Option E}{l:Option Int}{h:Option Int}{t:Tg}{ty:Ty}{z:Bool}{n:Int}{s:Z5}{ss:List Z5}{A:List Z5}{B:List Z5}{ao:Op}{st:Su}{bb:Bi}{Ym:Iter}{pq:Iter×G}{g2:G}{nn:Nat}{ces:List E}{os:Option U}
def KV{b:Type}(g:G)(Q:b->G->Prop)(a:b):Prop:=Q a g
def acN{Q:α->G->Prop}{a:α}:Kg (some a) (lk (KV g Q))=Q a g:=propext Yl
theorem KV_c{Q:α->G->Prop}{a:α}{A:Prop}:Kq (some a) (lk A) (lk (KV g Q))=Q a g:=propext Yl
theorem KV_n{Q:α->G->Prop}{A:Prop}:Kq none (lk A) (lk (KV g Q))=A:=propext Yl
def rS{Q:α->G->Prop}{a:α}:KV g Q a=Q a g:=propext Yl
def k_E  : J7 L d e Z g X Q=Kq (Ks 8 e Z) (lk (Kt L d e Z g X Q)) (lk (KV g Q)):=p_E
def rJ  : Aj L d es Z g X QL=Kq (AK (Ks 8) es Z) (lk (Ku L d es Z g X QL)) (lk (KV g QL)):=acK
def KB(g:G)(Q:U->G->Prop)(z:Bool):Prop:=Q (.bl z) g
theorem KB_s  : Kg (some z) (lk (KB g Q))=(Q (.bl z) g):=propext Yl
def rG  : KB g Q z=(Q (.bl z) g):=propext Yl
def Kl2(u:U)(a:List U->G->Prop)(M:List U)(g:G):Prop:=a (u::M) g
def qb  : Kl2 u QL M g=(QL (u::M) g):=propext Yl
def Kl1(L:List Fn)(d:Nat)(a:List E)(Z:Su)(X:XP)(b:List U->G->Prop)(u:U)(g:G):Prop:=Aj L d a Z g X (Kl2 u b)
def qK  : Kl1 L d es Z X QL u g=(Aj L d es Z g X (Kl2 u QL)):=propext Yl
def aaM  : Ku L d [] Z g X QL↔QL [] g:=mY
def kR  : Ku L d (e::es) Z g X QL↔J7 L d e Z g X (Kl1 L d es Z X QL):=jO
def DW(a:Op)(x:U)(X:XP)(Q:U->G->Prop)(y:U)(g:G):Prop:=ob a x y g X (lk Q)
def kT  : DW op x X Q y g=(ob op x y g X (lk Q)):=propext Yl
def Fo(L:List Fn)(d:Nat)(a:Op)(b:E)(Z:Su)(X:XP)(Q:U->G->Prop)(x:U)(g:G):Prop:=J7 L d b Z g X (DW a x X Q)
def kJ  : Fo L d op b Z X Q x g=(J7 L d b Z g X (DW op x X Q)):=propext Yl
def pz  : Kt L d (.ZT op a b) Z g X Q↔J7 L d a Z g X (Fo L d op b Z X Q):=qd
def rV{a:Op}{i:Int}{y:U}{X:XP}:ob a (.int i) y g X (lk Q)=Kg (Jv a (.int i) y) (lk (KV g Q)):=rT
def B8(a:Cp)(x:U)(Q:U->G->Prop)(y:U)(g:G):Prop:=Kg (JE a x y g) (lk (KB g Q))
def km  : B8 cp x Q y g=(Kg (JE cp x y g) (lk (KB g Q))):=propext Yl
def FA(L:List Fn)(d:Nat)(a:Cp)(b:E)(Z:Su)(X:XP)(Q:U->G->Prop)(x:U)(g:G):Prop:=J7 L d b Z g X (B8 a x Q)
def kB  : FA L d cp b Z X Q x g=(J7 L d b Z g X (B8 cp x Q)):=propext Yl
def pL  : Kt L d (.cmp cp a b) Z g X Q↔J7 L d a Z g X (FA L d cp b Z X Q):=abV
def Dr(L:List Fn)(d:Nat)(a:Cp)(y:U)(c:E)(Z:Su)(g:G)(X:XP)(Q:U->G->Prop)(z:Bool):Prop:=Kh z (lk (J7 L d c Z g X (B8 a y Q))) (lk (Q (.bl false) g))
def aaK  : Kg (some z) (lk (Dr L d cq y c Z g X Q))=(Kh z (lk (J7 L d c Z g X (B8 cq y Q))) (lk (Q (.bl false) g))):=propext Yl
def z6  : Dr L d cq y c Z g X Q z=(Kh z (lk (J7 L d c Z g X (B8 cq y Q))) (lk (Q (.bl false) g))):=propext Yl
def ED(L:List Fn)(d:Nat)(b:Cp)(a:Cp)(x:U)(c:E)(Z:Su)(X:XP)(Q:U->G->Prop)(y:U)(g:G):Prop:=Kg (JE b x y g) (lk (Dr L d a y c Z g X Q))
def aa4  : ED L d cp cq x c Z X Q y g=(Kg (JE cp x y g) (lk (Dr L d cq y c Z g X Q))):=propext Yl
def GH(L:List Fn)(d:Nat)(e:Cp)(a:Cp)(b:E)(c:E)(Z:Su)(X:XP)(Q:U->G->Prop)(x:U)(g:G):Prop:=J7 L d b Z g X (ED L d e a x c Z X Q)
def aaY  : GH L d cp cq b c Z X Q x g=(J7 L d b Z g X (ED L d cp cq x c Z X Q)):=propext Yl
def wZ  : Kt L d (.chain cp cq a b c) Z g X Q↔J7 L d a Z g X (GH L d cp cq b c Z X Q):=wc
def GV(L:List Fn)(d:Nat)(b:E)(Z:Su)(X:XP)(Q:U->G->Prop)(x:U)(g:G):Prop:=Kg (match x with|.bl z=>some z|_=>none) <| lk λz=>Kh z (lk (J7 L d b Z g X Q)) (lk (Q (.bl false) g))
def lT{L:List Fn}{b:E}{Z:Su}{X:XP}{z:Bool}:GV L d b Z X Q (.bl z) g=Kh z (lk (J7 L d b Z g X Q)) (lk (Q (.bl false) g)):=propext Yl
def pZ  : Kt L d (.and a b) Z g X Q↔J7 L d a Z g X (GV L d b Z X Q):=acw
def Kor(L:List Fn)(d:Nat)(b:E)(Z:Su)(X:XP)(Q:U->G->Prop)(x:U)(g:G):Prop:=Kg (match x with|.bl z=>some z|_=>none) <| lk λz=>Kh z (lk (Q (.bl true) g)) (lk (J7 L d b Z g X Q))
def acJ{L:List Fn}{b:E}{Z:Su}{X:XP}{z:Bool}:Kor L d b Z X Q (.bl z) g=Kh z (lk (Q (.bl true) g)) (lk (J7 L d b Z g X Q)):=propext Yl
def acO  : Kt L d (.or a b) Z g X Q↔J7 L d a Z g X (Kor L d b Z X Q):=acP
def Knt(g:G)(Q:U->G->Prop)(z:Bool):Prop:=Q (.bl !z) g
def acD  : Kg (some z) (lk (Knt g Q))=(Q (.bl !z) g):=propext Yl
def qi  : Knt g Q z=(Q (.bl !z) g):=propext Yl
def GF(Q:U->G->Prop)(x:U)(g:G):Prop:=Kg (JF x g) (lk (Knt g Q))
def lB  : GF Q x g=(Kg (JF x g) (lk (Knt g Q))):=propext Yl
def pS  : Kt L d (.not a) Z g X Q↔J7 L d a Z g X (GF Q):=acr
def F1(Q:U->G->Prop)(x:U)(g:G):Prop:=Kg (match x with|.int i=>some i|_=>none) <| lk λi=>Q (.int (-i)) g
def oo{i:Int}:F1 Q (.int i) g=Q (.int (-i)) g:=propext Yl
def pQ  : Kt L d (.neg a) Z g X Q↔J7 L d a Z g X (F1 Q):=abC
def Gj(Q:U->G->Prop)(M:List U)(g:G):Prop:=Kh (A6 M.length) (lk (Q (.ZZ M) g)) (lk False)
def l0  : Gj Q M g=(Kh (A6 M.length) (lk (Q (.ZZ M) g)) (lk False)):=propext Yl
def oS  : Kt L d (.ZZ es) Z g X Q↔Aj L d es Z g X (Gj Q):=pD
def GU(Q:U->G->Prop)(M:List U)(g:G):Prop:=Kh (A6 M.length) (lk (Q (.ref g.length) (g++[.S M]))) (lk False)
def lr  : GU Q M g=(Kh (A6 M.length) (lk (Q (.ref g.length) (g++[.S M]))) (lk False)):=propext Yl
def qH  : Kt L d (.S es) Z g X Q↔Aj L d es Z g X (GU Q):=abw
def Ez(i:Int)(g:G)(Q:U->G->Prop)(xs:List U):Prop:=Kg (JG xs i) (lk (KV g Q))
def aay{i:Int}:Kg (some xs) (lk (Ez i g Q))=Kg (JG xs i) (lk (KV g Q)):=propext Yl
def nI{i:Int}:Ez i g Q xs=Kg (JG xs i) (lk (KV g Q)):=propext Yl
def CT(x:U)(Q:U->G->Prop)(y:U)(g:G):Prop:=match y with|.ZZ M=>Kg ((AJ (.ZZ M) x g).bind id) <| lk λz=>Q z g|.str k=>Kg ((Jx x g).bind λZ3=>BU Z3 k) <| lk λz=>Q z g|y=>Kg (match y with|.int i=>some i|_=>none) <| lk λi=>Kg (items x g) <| lk λxs=>Kg (JG xs i) <| lk λz=>Q z g
def mq{x:U}{i:Int}:CT x Q (.int i) g=Kg (items x g) (lk (Ez i g Q)):=propext Yl
def nh{x:U}:CT x Q (.ZZ M) g=Kg ((AJ (.ZZ M) x g).bind id) (lk (KV g Q)):=propext Yl
def aah{x:U}{k:PySem.Str}:CT x Q (.str k) g=Kg ((Jx x g).bind λZ3=>BU Z3 k) (lk (KV g Q)):=propext Yl
def F0(L:List Fn)(d:Nat)(b:E)(Z:Su)(X:XP)(Q:U->G->Prop)(x:U)(g:G):Prop:=J7 L d b Z g X (CT x Q)
def nJ  : F0 L d b Z X Q x g=(J7 L d b Z g X (CT x Q)):=propext Yl
def pC  : Kt L d (.idx a b) Z g X Q↔J7 L d a Z g X (F0 L d b Z X Q):=oU
def Ej(x:U)(l:Option Int)(X:XP)(Q:U->G->Prop)(h:Option Int)(g:G):Prop:=hk (CN x l h g) X (lk Q)
def oa  : Ej x l X Q h g=(hk (CN x l h g) X (lk Q)):=propext Yl
def D9(L:List Fn)(d:Nat)(x:U)(a:Option E)(Z:Su)(X:XP)(Q:U->G->Prop)(l:Option Int)(g:G):Prop:=J9 L d a Z g X (Ej x l X Q)
def nT  : D9 L d x hi Z X Q l g=(J9 L d hi Z g X (Ej x l X Q)):=propext Yl
def GN(L:List Fn)(d:Nat)(a:Option E)(b:Option E)(Z:Su)(X:XP)(Q:U->G->Prop)(x:U)(g:G):Prop:=J9 L d a Z g X (D9 L d x b Z X Q)
def nk  : GN L d lo hi Z X Q x g=(J9 L d lo Z g X (D9 L d x hi Z X Q)):=propext Yl
def pI  : Kt L d (.Xy a lo hi) Z g X Q↔J7 L d a Z g X (GN L d lo hi Z X Q):=abA
def C7(g:G)(Q:U->G->Prop)(xs:List U):Prop:=Q (.ref g.length) (g++[.S xs.reverse])
def v8:Kg (some xs) (lk (C7 g Q))=Q (.ref g.length) (g++[.S xs.reverse]):=propext Yl
def j8:C7 g Q xs=Q (.ref g.length) (g++[.S xs.reverse]):=propext Yl
def GS(Q:U->G->Prop)(x:U)(g:G):Prop:=Kg (Ci x g) (lk (C7 g Q))
def lL  : GS Q x g=(Kg (Ci x g) (lk (C7 g Q))):=propext Yl
def pY  : Kt L d (.rev a) Z g X Q↔J7 L d a Z g X (GS Q):=acA
def Ft(L:List Fn)(d:Nat)(f:Nat)(X:XP)(Q:U->G->Prop)(M:List U)(g:G):Prop:=Kl L d f M g X (lk Q)
def jK  : Ft L d f X Q M g=(Kl L d f M g X (lk Q)):=propext Yl
def k7  : Kt L d (.call f es) Z g X Q↔Aj L d es Z g nX (Ft L d f X Q):=abl
def GJ(j:Nat)(a:List Nat)(Q:U->G->Prop)(x:U)(g:G):Prop:=Kg ((AD x g).bind (BM j a)) (lk (KV g Q))
def nD  : GJ j cs Q x g=(Kg ((AD x g).bind (BM j cs)) (lk (KV g Q))):=propext Yl
def oY  : Kt L d (.fld a j cs) Z g X Q↔J7 L d a Z g X (GJ j cs Q):=abQ
def Eh(a:Nat)(Q:U->G->Prop)(u:U)(g:G):Prop:=Ax u=true/\Q (.ref a) g
def mP  : Eh nn Q u g=(Ax u=true/\Q (.ref nn) g):=propext Yl
def Ew(L:List Fn)(d:Nat)(c:Nat)(f:Nat)(M:List U)(b:List E)(ks:List E)(a:List (Nat ⊕ U))(X:XP)(Q:U->G->Prop)(ws:List U)(g:G):Prop:=M.length=b.length/\ws.length=ks.length/\Kl L d f (perm (.ref g.length::M++ws) a) (g++[.ins c []]) X (lk (Eh g.length Q))
def oF  : Ew L d cc f M es ks pm X Q ws g=(M.length=es.length/\ws.length=ks.length/\Kl L d f (perm (.ref g.length::M++ws) pm) (g++[.ins cc []]) X (lk (Eh g.length Q))):=propext Yl
def GO(L:List Fn)(d:Nat)(c:Nat)(f:Nat)(b:List E)(ks:List E)(a:List (Nat ⊕ U))(Z:Su)(X:XP)(Q:U->G->Prop)(M:List U)(g:G):Prop:=Aj L d ks Z g nX (Ew L d c f M b ks a X Q)
def lW  : GO L d cc f es ks pm Z X Q M g=(Aj L d ks Z g nX (Ew L d cc f M es ks pm X Q)):=propext Yl
def ny  : Kt L d (.make cc f es ks pm) Z g X Q↔Aj L d es Z g nX (GO L d cc f es ks pm Z X Q):=abf
def Ey(L:List Fn)(d:Nat)(x:U)(p:Nat×List (Nat ⊕ U))(M:List U)(a:List E)(ks:List E)(X:XP)(Q:U->G->Prop)(ws:List U)(g:G):Prop:=M.length=a.length/\ws.length=ks.length/\Kl L d p.1 (perm (x::M++ws) p.2) g X (lk Q)
def oi  : Ey L d x p M es ks X Q ws g=(M.length=es.length/\ws.length=ks.length/\Kl L d p.1 (perm (x::M++ws) p.2) g X (lk Q)):=propext Yl
def Dv(L:List Fn)(d:Nat)(x:U)(p:Nat×List (Nat ⊕ U))(a:List E)(ks:List E)(Z:Su)(X:XP)(Q:U->G->Prop)(M:List U)(g:G):Prop:=Aj L d ks Z g nX (Ey L d x p M a ks X Q)
def m9  : Dv L d x p es ks Z X Q M g=(Aj L d ks Z g nX (Ey L d x p M es ks X Q)):=propext Yl
def Dp(L:List Fn)(d:Nat)(x:U)(a:List E)(ks:List E)(Z:Su)(g:G)(X:XP)(Q:U->G->Prop)(p:Nat×List (Nat ⊕ U)):Prop:=Aj L d a Z g nX (Dv L d x p a ks Z X Q)
def zW  : Kg (some p) (lk (Dp L d x es ks Z g X Q))=(Aj L d es Z g nX (Dv L d x p es ks Z X Q)):=propext Yl
def mf  : Dp L d x es ks Z g X Q p=(Aj L d es Z g nX (Dv L d x p es ks Z X Q)):=propext Yl
def Gw(L:List Fn)(d:Nat)(j:Nat)(tb:List (Nat×Nat×List (Nat ⊕ U)))(a:List E)(ks:List E)(Z:Su)(X:XP)(Q:U->G->Prop)(x:U)(g:G):Prop:=Kg ((AD x g).bind (Bw j tb)) (lk (Dp L d x a ks Z g X Q))
def lC  : Gw L d j tb es ks Z X Q x g=(Kg ((AD x g).bind (Bw j tb)) (lk (Dp L d x es ks Z g X Q))):=propext Yl
def nK  : Kt L d (.Xx a j tb es ks) Z g X Q↔J7 L d a Z g nX (Gw L d j tb es ks Z X Q):=yF
def Dm(g:G)(X:XP)(Q:U->G->Prop)(k:Nat):Prop:=hk (A5 k g) X (lk Q)
def abg  : Kg (some k) (lk (Dm g X Q))=(hk (A5 k g) X (lk Q)):=propext Yl
def nt  : Dm g X Q k=(hk (A5 k g) X (lk Q)):=propext Yl
def GK(X:XP)(Q:U->G->Prop)(x:U)(g:G):Prop:=Kg (JK x g) (lk (Dm g X Q))
def nS  : GK X Q x g=(Kg (JK x g) (lk (Dm g X Q))):=propext Yl
def pj  : Kt L d (.pop o) Z g X Q↔J7 L d o Z g X (GK X Q):=ab6
def Ds(k:Nat)(X:XP)(Q:U->G->Prop)(y:U)(g:G):Prop:=hk (AY k y g) X (lk Q)
def oj  : Ds k X Q y g=(hk (AY k y g) X (lk Q)):=propext Yl
def DC(L:List Fn)(d:Nat)(v:E)(Z:Su)(g:G)(X:XP)(Q:U->G->Prop)(k:Nat):Prop:=J7 L d v Z g X (Ds k X Q)
def aau  : Kg (some k) (lk (DC L d v Z g X Q))=(J7 L d v Z g X (Ds k X Q)):=propext Yl
def lZ  : DC L d v Z g X Q k=(J7 L d v Z g X (Ds k X Q)):=propext Yl
def Gz(L:List Fn)(d:Nat)(v:E)(Z:Su)(X:XP)(Q:U->G->Prop)(x:U)(g:G):Prop:=Kg (JK x g) (lk (DC L d v Z g X Q))
def lY  : Gz L d v Z X Q x g=(Kg (JK x g) (lk (DC L d v Z g X Q))):=propext Yl
def qh  : Kt L d (.app o v) Z g X Q↔J7 L d o Z g X (Gz L d v Z X Q):=aca
def DA(k:Nat)(X:XP)(Q:U->G->Prop)(y:U)(g:G):Prop:=hk (BB k y g) X (lk Q)
def nY  : DA k X Q y g=(hk (BB k y g) X (lk Q)):=propext Yl
def Dy(L:List Fn)(d:Nat)(v:E)(Z:Su)(g:G)(X:XP)(Q:U->G->Prop)(k:Nat):Prop:=J7 L d v Z g X (DA k X Q)
def abh  : Kg (some k) (lk (Dy L d v Z g X Q))=(J7 L d v Z g X (DA k X Q)):=propext Yl
def oE  : Dy L d v Z g X Q k=(J7 L d v Z g X (DA k X Q)):=propext Yl
def Gx(L:List Fn)(d:Nat)(v:E)(Z:Su)(X:XP)(Q:U->G->Prop)(x:U)(g:G):Prop:=Kg (JK x g) (lk (Dy L d v Z g X Q))
def lH  : Gx L d v Z X Q x g=(Kg (JK x g) (lk (Dy L d v Z g X Q))):=propext Yl
def oW  : Kt L d (.ext o v) Z g X Q↔J7 L d o Z g X (Gx L d v Z X Q):=acd
def Dn(k:Nat)(X:XP)(Q:U->G->Prop)(y:U)(g:G):Prop:=hk (BJ k y g) X (lk Q)
def mz  : Dn k X Q y g=(hk (BJ k y g) X (lk Q)):=propext Yl
def Dq(L:List Fn)(d:Nat)(v:E)(Z:Su)(g:G)(X:XP)(Q:U->G->Prop)(k:Nat):Prop:=J7 L d v Z g X (Dn k X Q)
def zy  : Kg (some k) (lk (Dq L d v Z g X Q))=(J7 L d v Z g X (Dn k X Q)):=propext Yl
def nM  : Dq L d v Z g X Q k=(J7 L d v Z g X (Dn k X Q)):=propext Yl
def Gb(L:List Fn)(d:Nat)(v:E)(Z:Su)(X:XP)(Q:U->G->Prop)(x:U)(g:G):Prop:=Kg (JK x g) (lk (Dq L d v Z g X Q))
def lK  : Gb L d v Z X Q x g=(Kg (JK x g) (lk (Dq L d v Z g X Q))):=propext Yl
def oJ  : Kt L d (.V8 o v) Z g X Q↔J7 L d o Z g X (Gb L d v Z X Q):=zk
def Kbi(a:Bi)(X:XP)(Q:U->G->Prop)(M:List U)(g:G):Prop:=hk (JJ a M g) X (lk Q)
def rC  : Kbi bb X Q M g=(hk (JJ bb M g) X (lk Q)):=propext Yl
def rN  : Kt L d (.bi bb es) Z g X Q↔Aj L d es Z g X (Kbi bb X Q):=e_bi
def F6(a:Ty)(Q:U->G->Prop)(x:U)(g:G):Prop:=Kg (Au a x g) (lk (KB g Q))
def lQ  : F6 ty Q x g=(Kg (Au ty x g) (lk (KB g Q))):=propext Yl
def qg  : Kt L d (.Y1 a ty) Z g X Q↔J7 L d a Z g X (F6 ty Q):=acH
def Ko(Q:Option Int->G->Prop)(x:U)(g:G):Prop:=Kg (match x with|.int i=>some i|_=>none) <| lk λi=>Q (some i) g
def rW{Q:Option Int->G->Prop}{i:Int}:Ko Q (.int i) g=Q (some i) g:=propext Yl
def kS  : J9 L d (some e) Z g X QO↔J7 L d e Z g X (Ko QO):=aa7
def Ktr(a:Bool->G->Prop)(x:U)(g:G):Prop:=Kg (JF x g) (lk (KV g a))
def qL  : Ktr QB x g=(Kg (JF x g) (lk (KV g QB))):=propext Yl
def Kta(L:List Fn)(d:Nat)(b:E)(Z:Su)(X:XP)(a:Bool->G->Prop)(z:Bool)(g:G):Prop:=Kh z (lk (J8 L d b Z g X a)) (lk (a false g))
def qS  : Kta L d b Z X QB z g=(Kh z (lk (J8 L d b Z g X QB)) (lk (QB false g))):=propext Yl
def Kto(L:List Fn)(d:Nat)(b:E)(Z:Su)(X:XP)(a:Bool->G->Prop)(z:Bool)(g:G):Prop:=Kh z (lk (a true g)) (lk (J8 L d b Z g X a))
def qC  : Kto L d b Z X QB z g=(Kh z (lk (QB true g)) (lk (J8 L d b Z g X QB))):=propext Yl
def Ktn(a:Bool->G->Prop)(z:Bool)(g:G):Prop:=a (!z) g
def pK  : Ktn QB z g=(QB (!z) g):=propext Yl
def me  : J8 L d (.and a b) Z g X QB↔J8 L d a Z g X (Kta L d b Z X QB):=ab1
def o9  : J8 L d (.or a b) Z g X QB↔J8 L d a Z g X (Kto L d b Z X QB):=t_or
def lx  : J8 L d (.not a) Z g X QB↔J8 L d a Z g X (Ktn QB):=ab8
def lz  : J8 L d (.O i) Z g X QB↔J7 L d (.O i) Z g X (Ktr QB):=t_e rfl
def abo  : J8 L d (.Z0 u) Z g X QB↔J7 L d (.Z0 u) Z g X (Ktr QB):=t_e rfl
def oG  : J8 L d (.cmp cp a b) Z g X QB↔J7 L d (.cmp cp a b) Z g X (Ktr QB):=t_e rfl
def vL  : J8 L d (.chain cp cq a b c) Z g X QB↔J7 L d (.chain cp cq a b c) Z g X (Ktr QB):=t_e rfl
def jL  : J8 L d (.call f es) Z g X QB↔J7 L d (.call f es) Z g X (Ktr QB):=t_e rfl
def abU  : J8 L d (.bi bb es) Z g X QB↔J7 L d (.bi bb es) Z g X (Ktr QB):=t_e rfl
def n4  : J8 L d (.Y1 a ty) Z g X QB↔J7 L d (.Y1 a ty) Z g X (Ktr QB):=t_e rfl
def zA  : J8 L d (.idx a b) Z g X QB↔J7 L d (.idx a b) Z g X (Ktr QB):=t_e rfl
def aaz  : J8 L d (.ZT op a b) Z g X QB↔J7 L d (.ZT op a b) Z g X (Ktr QB):=t_e rfl
def xv  : J8 L d (.Xx a j tb es ks) Z g X QB↔J7 L d (.Xx a j tb es ks) Z g X (Ktr QB):=t_e rfl
def yK  : J8 L d (.fld a j cs) Z g X QB↔J7 L d (.fld a j cs) Z g X (Ktr QB):=t_e rfl
def aaS  : J8 L d (.rev a) Z g X QB↔J7 L d (.rev a) Z g X (Ktr QB):=t_e rfl
def aaj  : J8 L d (.Xy a lo hi) Z g X QB↔J7 L d (.Xy a lo hi) Z g X (Ktr QB):=t_e rfl
def za  : J8 L d (.ZZ es) Z g X QB↔J7 L d (.ZZ es) Z g X (Ktr QB):=t_e rfl
def yG  : J8 L d (.S es) Z g X QB↔J7 L d (.S es) Z g X (Ktr QB):=t_e rfl
def yj{L:List Fn}{X:XP}{Z:Su}{fr:List Nat}{e:E}{a:Bool->G->Prop}:J8 L d (.comp m fr gs e) Z g X a↔J7 L d (.comp m fr gs e) Z g X (Ktr a):=t_e rfl
def Kac(L:List Fn)(d:Nat)(b:List E)(Z:Su)(X:XP)(a:Bool->G->Prop)(z:Bool)(g:G):Prop:=Kh z (lk (Ka L d b Z g X a)) (lk (a false g))
def abI  : Kac L d es Z X QB z g=(Kh z (lk (Ka L d es Z g X QB)) (lk (QB false g))):=propext Yl
def wY  : Ka L d (c::es) Z g X QB↔J8 L d c Z g X (Kac L d es Z X QB):=aaa
def FY(Q:Iter->G->Prop)(x:U)(g:G):Prop:=Kg (match x with|.int i=>some i|_=>none) <| lk λj=>Kh (Ai j) (lk (Q (.YY 0 j.toNat) g)) (lk False)
def oy{Q:Iter->G->Prop}{j:Int}:FY Q (.int j) g=Kh (Ai j) (lk (Q (.YY 0 j.toNat) g)) (lk False):=propext Yl
def j4  : Kb L d (.YT a) Z g X QI↔J7 L d a Z g X (FY QI):=aaP
def Eo(u:U)(Q:Iter->G->Prop)(w:U)(g:G):Prop:=Kg (match u with|.int i=>some i|_=>none) <| lk λi=>Kg (match w with|.int i=>some i|_=>none) <| lk λj=>Kh (Ai i&&Ai j) (lk (Q (.YY i (j-i).toNat) g)) (lk False)
def aba{Q:Iter->G->Prop}{i j:Int}:Eo (.int i) Q (.int j) g=Kh (Ai i&&Ai j) (lk (Q (.YY i (j-i).toNat) g)) (lk False):=propext Yl
def FP(L:List Fn)(d:Nat)(b:E)(Z:Su)(X:XP)(a:Iter->G->Prop)(u:U)(g:G):Prop:=J7 L d b Z g X (Eo u a)
def aaF  : FP L d b Z X QI u g=(J7 L d b Z g X (Eo u QI)):=propext Yl
def xZ  : Kb L d (.VA a b) Z g X QI↔J7 L d a Z g X (FP L d b Z X QI):=zP
def CI(k:Nat)(g:G)(a:Iter->G->Prop)(j:Nat):Prop:=a (.zip k j) g
def yg  : Kg (some j) (lk (CI k g QI))=(QI (.zip k j) g):=propext Yl
def xm  : CI k g QI j=(QI (.zip k j) g):=propext Yl
def Dg(w:U)(g:G)(a:Iter->G->Prop)(k:Nat):Prop:=Kg (JK w g) (lk (CI k g a))
def yr  : Kg (some k) (lk (Dg w g QI))=(Kg (JK w g) (lk (CI k g QI))):=propext Yl
def xt  : Dg w g QI k=(Kg (JK w g) (lk (CI k g QI))):=propext Yl
def DV(u:U)(a:Iter->G->Prop)(w:U)(g:G):Prop:=Kg (JK u g) (lk (Dg w g a))
def wW  : DV u QI w g=(Kg (JK u g) (lk (Dg w g QI))):=propext Yl
def Gm(L:List Fn)(d:Nat)(b:E)(Z:Su)(X:XP)(a:Iter->G->Prop)(u:U)(g:G):Prop:=J7 L d b Z g X (DV u a)
def zu  : Gm L d b Z X QI u g=(J7 L d b Z g X (DV u QI)):=propext Yl
def y2  : Kb L d (.zip a b) Z g X QI↔J7 L d a Z g X (Gm L d b Z X QI):=acg
def C6(g:G)(a:Iter->G->Prop)(k:Nat):Prop:=a (.Y0 k) g
def ya  : Kg (some k) (lk (C6 g QI))=(QI (.Y0 k) g):=propext Yl
def j3  : C6 g QI k=(QI (.Y0 k) g):=propext Yl
def F8(a:Iter->G->Prop)(u:U)(g:G):Prop:=Kg (JK u g) (lk (C6 g a))
def my  : F8 QI u g=(Kg (JK u g) (lk (C6 g QI))):=propext Yl
def nG  : Kb L d (.Y0 a) Z g X QI↔J7 L d a Z g X (F8 QI):=abx
def DI(Q:Iter->G->Prop)(p:Iter×G):Prop:=Q p.1 p.2
def zr{Q:Iter->G->Prop}{i:Iter}:Kg (some (i,g)) (lk (DI Q))=Q i g:=propext Yl
def nz{Q:Iter->G->Prop}{i:Iter}:DI Q (i,g)=Q i g:=propext Yl
def Kit(a:Iter->G->Prop)(u:U)(g:G):Prop:=Kg (Cj u g) (lk (DI a))
def qy  : Kit QI u g=(Kg (Cj u g) (lk (DI QI))):=propext Yl
def nR  : Kb L d (.O i) Z g X QI↔J7 L d (.O i) Z g X (Kit QI):=i_e rfl
def kI  : Kb L d (.call f es) Z g X QI↔J7 L d (.call f es) Z g X (Kit QI):=i_e rfl
def acq  : Kb L d (.bi bb es) Z g X QI↔J7 L d (.bi bb es) Z g X (Kit QI):=i_e rfl
def aaG  : Kb L d (.idx a b) Z g X QI↔J7 L d (.idx a b) Z g X (Kit QI):=i_e rfl
def xR  : Kb L d (.Xx a j tb es ks) Z g X QI↔J7 L d (.Xx a j tb es ks) Z g X (Kit QI):=i_e rfl
def aa9  : Kb L d (.fld a j cs) Z g X QI↔J7 L d (.fld a j cs) Z g X (Kit QI):=i_e rfl
def zN  : Kb L d (.rev a) Z g X QI↔J7 L d (.rev a) Z g X (Kit QI):=i_e rfl
def zJ  : Kb L d (.Xy a lo hi) Z g X QI↔J7 L d (.Xy a lo hi) Z g X (Kit QI):=i_e rfl
def yW  : Kb L d (.ZZ es) Z g X QI↔J7 L d (.ZZ es) Z g X (Kit QI):=i_e rfl
def zx  : Kb L d (.S es) Z g X QI↔J7 L d (.S es) Z g X (Kit QI):=i_e rfl
def yq{L:List Fn}{X:XP}{Z:Su}{fr:List Nat}{e:E}{a:Iter->G->Prop}:Kb L d (.comp m fr gs e) Z g X a↔J7 L d (.comp m fr gs e) Z g X (Kit a):=i_e rfl
def CQ(L:List Fn)(d:Nat)(a:List Z5)(X:XP)(Q:Fl->G->Prop)(f:Fl)(g:G):Prop:=Ki f (lk (λZX=>wpS L d a ZX g X Q)) (lk λf=>Q f g)
def jS  : CQ L d ss X QF (.nx Z) g=(wpS L d ss Z g X QF):=propext Yl
def kD  : CQ L d ss X QF (.rt u) g=(QF (.rt u) g):=propext Yl
def xj  : CQ L d ss X QF (.bk Z) g=(QF (.bk Z) g):=propext Yl
def xI  : CQ L d ss X QF (.ct Z) g=(QF (.ct Z) g):=propext Yl
def kX  : wpS L d (s::ss) Z g X QF↔Kc L d s Z g X (CQ L d ss X QF):=aaW
def FU(a:Fl->G->Prop)(u:U)(g:G):Prop:=a (.rt u) g
def mQ  : FU QF u g=(QF (.rt u) g):=propext Yl
def lE  : Kc L d (.ret e) Z g X QF↔J7 L d e Z g X (FU QF):=acy
def DJ(g:G)(b:Fl->G->Prop)(a:Su):Prop:=b (.nx a) g
def aa8  : Kg (some st) (lk (DJ g QF))=(QF (.nx st) g):=propext Yl
def lG  : DJ g QF st=(QF (.nx st) g):=propext Yl
def Kst(t:Tg)(Z:Su)(a:Fl->G->Prop)(u:U)(g:G):Prop:=Kg (Ae t (JN t u g) Z) (lk (DJ g a))
def ph  : Kst t Z QF u g=(Kg (Ae t (JN t u g) Z) (lk (DJ g QF))):=propext Yl
def l7  : Kc L d (.set t e) Z g X QF↔J7 L d e Z g X (Kst t Z QF):=aas
def EA(i:Nat)(j:Nat)(u:U)(Z:Su)(a:Fl->G->Prop)(w:U)(g:G):Prop:=Kh (decide (i<Z.length)&&decide (j<Z.length)) (lk (a (.nx ((Z.set i (some u)).set j (some w))) g)) (lk False)
def nW  : EA i j u Z QF w g=(Kh (decide (i<Z.length)&&decide (j<Z.length)) (lk (QF (.nx ((Z.set i (some u)).set j (some w))) g)) (lk False)):=propext Yl
def Gq(L:List Fn)(d:Nat)(i:Nat)(j:Nat)(b:E)(Z:Su)(X:XP)(a:Fl->G->Prop)(u:U)(g:G):Prop:=J7 L d b Z g X (EA i j u Z a)
def oK  : Gq L d i j b Z X QF u g=(J7 L d b Z g X (EA i j u Z QF)):=propext Yl
def mr  : Kc L d (.par i j a b) Z g X QF↔J7 L d a Z g X (Gq L d i j b Z X QF):=aaR
def Ee(u:U)(x:U)(Z:Su)(X:XP)(a:Fl->G->Prop)(y:U)(g:G):Prop:=hk (subAt x y u Z g) X (lk a)
def lV  : Ee u x Z X QF y g=(hk (subAt x y u Z g) X (lk QF)):=propext Yl
def Ea(L:List Fn)(d:Nat)(u:U)(b:E)(Z:Su)(X:XP)(a:Fl->G->Prop)(x:U)(g:G):Prop:=J7 L d b Z g X (Ee u x Z X a)
def oC  : Ea L d u b Z X QF x g=(J7 L d b Z g X (Ee u x Z X QF)):=propext Yl
def GD(L:List Fn)(d:Nat)(o:E)(b:E)(Z:Su)(X:XP)(a:Fl->G->Prop)(u:U)(g:G):Prop:=J7 L d o Z g X (Ea L d u b Z X a)
def mU  : GD L d o b Z X QF u g=(J7 L d o Z g X (Ea L d u b Z X QF)):=propext Yl
def nU  : Kc L d (.sub o b e) Z g X QF↔J7 L d e Z g X (GD L d o b Z X QF):=zI
def Kxp(Z:Su)(a:Fl->G->Prop)(u:U)(g:G):Prop:=a (.nx Z) g
def qz  : Kxp Z QF u g=(QF (.nx Z) g):=propext Yl
def mh  : Kc L d (.exp e) Z g X QF↔J7 L d e Z g X (Kxp Z QF):=acj
def Kif(L:List Fn)(d:Nat)(A:List Z5)(B:List Z5)(Z:Su)(X:XP)(a:Fl->G->Prop)(z:Bool)(g:G):Prop:=Kh z (lk (wpS L d A Z g X a)) (lk (wpS L d B Z g X a))
def pJ  : Kif L d A B Z X QF z g=(Kh z (lk (wpS L d A Z g X QF)) (lk (wpS L d B Z g X QF))):=propext Yl
def oz  : Kc L d (.Zs c A B) Z g X QF↔J8 L d c Z g X (Kif L d A B Z X QF):=aaZ
def Gp(L:List Fn)(d:Nat)(t:Tg)(A:List Z5)(Z:Su)(X:XP)(b:Fl->G->Prop)(a:Iter)(g:G):Prop:=Kn L d t a 0 A Z g X (lk b)
def mw  : Gp L d t A Z X QF Ym g=(Kn L d t Ym 0 A Z g X (lk QF)):=propext Yl
def mL  : Kc L d (.for t it A) Z g X QF↔Kb L d it Z g X (Gp L d t A Z X QF):=aan
def DK(Z:Su)(b:Fl->G->Prop)(a:G):Prop:=b (.nx Z) a
def aal  : Kg (some g2) (lk (DK Z QF))=(QF (.nx Z) g2):=propext Yl
def lg  : DK Z QF g2=(QF (.nx Z) g2):=propext Yl
def Ep(u:U)(j:Nat)(a:List Nat)(Z:Su)(b:Fl->G->Prop)(x:U)(g:G):Prop:=Kg (Bb x j a u g) (lk (DK Z b))
def nZ  : Ep u j cs Z QF x g=(Kg (Bb x j cs u g) (lk (DK Z QF))):=propext Yl
def Ge(L:List Fn)(d:Nat)(a:E)(j:Nat)(b:List Nat)(Z:Su)(X:XP)(c:Fl->G->Prop)(u:U)(g:G):Prop:=J7 L d a Z g X (Ep u j b Z c)
def lu  : Ge L d a j cs Z X QF u g=(J7 L d a Z g X (Ep u j cs Z QF)):=propext Yl
def jY  : Kc L d (.fset a j cs e) Z g X QF↔J7 L d e Z g X (Ge L d a j cs Z X QF):=yh
def Kfn(Q:U->G->Prop)(f:Fl)(g:G):Prop:=Kk f (lk λu=>Q u g)
def mv:Kfn Q (.rt u) g=Q u g:=propext Yl
def nN{Z:Su}:Kfn Q (.nx Z) g=Q .ZR g:=propext Yl
def ag{L:List Fn}{X:XP}{f:Nat}{F:Fn}(b:L[f]?=some F)(a:M.length=F.np)(h:wpS L d F.body (M.map some++List.replicate (F.ns-M.length) none) g X (Kfn Q)):J6 L (d+1) f M g X Q:=(ni b a).2 h
end
section
variable{L:List Fn}{X:XP}{Z:Su}{Q:Fl->G->Prop}
def gS{o:Out α}{Q:α->G->Prop}:holds o.Y9 X Q↔holds o nX Q:=by cases o<;>exact Yl
def yi{f:Nat->Out α}{Q:α->G->Prop}:wp (λn=>(f n).Y9) X Q↔wp f nX Q:=⟨λ⟨n,h⟩=>⟨n,gS.1 h⟩,λ⟨n,h⟩=>⟨n,gS.2 h⟩⟩
def abv{b:List Z5}:Kc L d (.ZE b) Z g X Q↔wpS L d b Z g nX Q:=yi
def abZ{a b:List Z5}:Kc L d (.Wv c a b) Z g X Q↔J8 L d c Z g nX λk g=>Kh k (lk (wpS L d a Z g X Q)) (lk (wpS L d b Z g X Q)):=by
 unfold Kc;delta JR;dsimp only;simp![bE];refine(av (mT _ _ _) (by intro k g;cases k;exact mS _ _ _;exact mS _ _ _)).trans (wp_congr λx g=>?_)
 rw[<-bC];cases x<;>exact Yl
def wa{c:Nat}{b:List E}:Kc L d (.raise c b) Z g X Q↔Aj L d b Z g nX λM g=>M.length<=Ac/\X c M g:=by
 unfold Kc;delta JR;dsimp only;simp![bE];refine(av (k:=λ_ M g=>if M.length<=Ac then Out.exc c M g else Out.Z1) (mEs _ _ _) (λa g=>mK _)).trans (wp_congr λM g=>ae.trans ?_)
 split
 .rename_i h;exact⟨λq=>⟨h,q⟩,λq=>q.2⟩
 .rename_i h;exact⟨λq=>q.elim,λq=>(h q.1).elim⟩
def abe{t:Tg}{it:E}{b:List Z5}:Kc L d (.Wu t it b) Z g X Q↔Kb L d it Z g nX λi g=>Kn L d t i 0 b Z g X (lk Q):=by
 unfold Kc;delta JR;dsimp only;simp![bE];exact av (mI _ _ _) λa g=>mF _ _ _ _ _ _
def sQ{o:Out Fl}(q:holds o (λc fs g2=>∃p,hs.lookup c=some p/\j<Z.length/\p.2.length<=Ac/\(p.1=0\/fs.length=p.1)/\Q (.nx ((List.replicate Z.length none).set j (some (.ZZ (perm fs p.2))))) g2) λf g2=>∃ZX,f=.nx ZX/\Q (.nx ZX) g2):holds (BR o j hs Z) X Q:=by
 cases o with
 |ok f g2=>let⟨ZX,rfl,a⟩:=(show∃ZX,f=.nx ZX/\Q (.nx ZX) g2 from q);exact a
 |exc c fs g2=>
  let⟨p,h1,h2,d,b,q⟩:=(show∃p,hs.lookup c=some p/\j<Z.length/\p.2.length<=Ac/\(p.1=0\/fs.length=p.1)/\Q (.nx ((List.replicate Z.length none).set j (some (.ZZ (perm fs p.2))))) g2 from q);simp![BR,h1];rw[XW ⟨h2,d,b⟩];exact q
 |Z1=>exact q.elim
def yU{b:List Z5}
  (h:wpS L d b Z g (λc fs g2=>∃p,hs.lookup c=some p/\j<Z.length/\p.2.length<=Ac/\(p.1=0\/fs.length=p.1)/\Q (.nx ((List.replicate Z.length none).set j (some (.ZZ (perm fs p.2))))) g2) λf g2=>∃ZX,f=.nx ZX/\Q (.nx ZX) g2) :
  Kc L d (.Vz b j hs) Z g X Q:=by
 let⟨n,q⟩:=h;exact⟨n,sQ q⟩
end
def aI(h:i<xs.length):JG xs (i:Int)=xs[i]?:=by
 unfold JG L2.atI L2.ixN;rw[XW (),XW ()]
 simp
def cI{i:Int}(a:0<=i)(h:i<xs.length):JG xs i=xs[i.toNat]?:=by
 have:=aI (xs:=xs) (i:=i.toNat) ()
 rwa[Int.toNat_of_nonneg a]at this
def pG{x:U}:JG (x::xs) 0=some x:=aI (i:=0) #[3]
def pU{x y:U}:JG (x::y::xs) 1=some y:=aI (i:=1) #[3]
def pO{x y z:U}:JG (x::y::z::xs) 2=some z:=aI (i:=2) #[3]
def pb{x y z a:U}:JG (x::y::z::a::xs) 3=some a:=aI (i:=3) #[3]
def qe{x y z a b:U}:JG (x::y::z::a::b::xs) 4=some b:=aI (i:=4) #[3]
def rE{x y z a b c:U}:JG (x::y::z::a::b::c::xs) 5=some c:=aI (i:=5) #[3]
def small(i:Int):Prop:=-BK<i/\i<BK
def i5{i:Int}(h : -18446744073709551616<i)(h':i<18446744073709551616):small i:=⟨h,h'⟩
def bF{i:Int}(h:(decide (-18446744073709551616<i)&&decide (i<18446744073709551616))=true):small i:=by simp at h;exact h
section
variable{i j:Int}
def dR:Jv .add (.int i) (.int j)=some (.int (i+j)):=rfl
def dW:Jv .sub (.int i) (.int j)=some (.int (i-j)):=rfl
def n5(h:0<j):Jv .mod (.int i) (.int j)=some (.int (i % j)):=by simp![Jv,Ju,XW h]
def kL(h:0<j)(h':j<Al):Jv .fdiv (.int i) (.int j)=some (.int (i / j)):=by simp![Jv,Ju,XW h,XW h']
def jH(h:small i):Jv .mul (.int i) (.int j)=some (.int (i*j)):=by
 let⟨h1,h2⟩:=h;simp[Jv,Ju,h1,h2]
def ke(h:small j):Jv .mul (.int i) (.int j)=some (.int (i*j)):=by
 let⟨h1,h2⟩:=h;simp[Jv,Ju,h1,h2]
def qR:JE .eq (.int i) (.int j) g=some (decide (i=j)):=by
 simp![JE,Jt,Ah];congr 1
def oX{a:Bool}:JE .eq (.bl a) (.bl b) g=some (a==b):=rfl
def rp{a b:PySem.Str}:JE .eq (.str a) (.str b) g=some (a==b):=rfl
def qq{a:List U}:JE .eq (.ZZ xs) (.ZZ a) g=Ak xs a:=rfl
def mV{a:List U}:Ak (.int i::xs) (.int j::a)=(Ak xs a).map λc=>decide (i=j)&&c:=by
 simp![Ak,Ah];cases Ak xs a with
 |none=>rfl
 |some c=>simp![Vw];congr 1
def i4:Ak [] []=some true:=rfl
def qX:JE .ne (.int i) (.int j) g=some (!decide (i=j)):=by simp![JE,Cz,TL,Ah,Vw];congr 1
def rM{x:U}:JE .WN x .ZR g=some (Ax x):=rfl
def qP{x:U}:JE .U7 x .ZR g=some (!Ax x):=rfl
def cin{x y:U}:JE .W2 x y g=match items y g with|some ys=>Jw x ys|none=>(AJ x y g).map Option.isSome:=rfl
def rH{x y:U}:JE .YK x y g=match items y g with|some ys=>(Jw x ys).map (!·)|none=>(AJ x y g).map λo=>!o.isSome:=rfl
def clt:JE .lt (.int i) (.int j) g=some (decide (i<j)):=rfl
def cle:JE .le (.int i) (.int j) g=some (decide (i<=j)):=rfl
def cgt:JE .gt (.int i) (.int j) g=some (decide (j<i)):=rfl
def cge:JE .ge (.int i) (.int j) g=some (decide (j<=i)):=rfl
end
section
variable{L:List Fn}{X:XP}{Z:Su}
def dZ{it:Iter}{t:Tg}{x:List E}{m:E}{Q:List U->G->Prop}{o:Type}(a:List o)(b:o->U)(c:o->Bool)(e:o->U)(f:G->Prop)
  (r:∀k g,f g->next it k g=some (a.map b)[k]?)
  (u:∀y,y∈a->AR t Z=true/\Kg (Ae t (b y) Z) (lk λs=>∀g,f g->Ka L d x s g (λ_ _ _=>False) λk g=>k=c y/\Kh (c y) (lk (J7 L d m s g (λ_ _ _=>False) λv g=>v=e y/\f g)) (lk (f g)))) :
  ∀(n i:Nat) (ZW:List U) (g:G),i+n=a.length->ZW.length+n<Ac->f g->(∀g,f g->Q (ZW++((a.drop i).filter c).map e) g)->Kf L d it i t x [] m ZW Z g X Q
 |0,i,ZW,g,C,_,h,p=>by
  rw[bX];refine⟨none,by rw[r _ _ h];simp;omega,?_⟩
  have:=p g h;rw[QE ()]at this
  simpa using this
 |n+1,i,ZW,g,C,F,h,p=>by
  have hi:i<a.length:=by omega
  have w:a.drop i=a[i]::a.drop (i+1):=Rm hi;let⟨A,D⟩:=u a[i] (RM hi);let⟨s,B,z⟩:=aW.2 D;rw[bX];refine⟨some (b a[i]),by rw[r _ _ h];simp[hi],A,s,B,wp_mono (z g h) λk g q=>?_⟩
  let⟨rfl,q⟩:=q;by_cases j:c a[i]=true
  .rw [XW j]
   rw[j]at q;refine wp_mono q λv g ⟨ev,l⟩=>⟨by omega,?_⟩
   subst ev;refine dZ a b c e f r u n (i+1) _ g () (by simp;omega) l λg l=>?_
   have:=p g l;rw[w,List.filter_cons_of_pos j]at this;simpa using this
  .rw [WV j]
   rw[Qv]at j;rw[j]at q;refine dZ a b c e f r u n (i+1) _ g () () q λg l=>?_
   have:=p g l;rw[w,List.filter_cons_of_neg (by simp[j])]at this
   exact this
def gj{t:Tg}{Q:List U->G->Prop}(f:List α)(a:α->U)(c:α->Bool)(e:α->U)(b:G->Prop)(i:List U)
  (p:(f.filter c).map e=i)
  (m:∀k g,b g->next it k g=some (f.map a)[k]?)
  (j:∀y,y∈f->AR t Z=true/\Kg (Ae t (a y) Z) (lk λh=>∀g,b g->Ka L d cs h g (λ_ _ _=>False) λk g=>k=c y/\Kh (c y) (lk (J7 L d elt h g (λ_ _ _=>False) λv g=>v=e y/\b g)) (lk (b g))))
  (n:f.length<16777000) (q:b g) (l:∀g,b g->Q i g):Kf L d it 0 t cs [] elt [] Z g X Q:=
 dZ f a c e b m j f.length 0 [] g (Sf _) (by simpa[Ac]using n) q λg o=>by
  have:=l g o;rw[<-p]at this;simpa using this
def gu{z:E}{t r:Tg}{x:Iter}{w C:List E}{D:List (Tg×E×List E)}{e:E}{Q:List U->G->Prop}{l:Type}(a:List l)(b:l->U)(f:l->List U)(c:G->Prop)(B:Nat)
  (o:∀k g,c g->next x k g=some (a.map b)[k]?) (v:∀y,y∈a->(f y).length<=B)
  (s:∀y,y∈a->AR t Z=true/\Kg (Ae t (b y) Z) (lk λj=>∀g ZW,c g->ZW.length+B<16777000->Ka L d w j g (λ_ _ _=>False) λk g=>k=true/\Kb L d z j g (λ_ _ _=>False) λF g=>Kf L d F 0 r C D e ZW j g (λ_ _ _=>False) λA g=>A=ZW++f y/\c g)) :
  ∀(n i:Nat) (ZW:List U) (g:G),i+n=a.length->ZW.length+n*B+B<16777000->c g->(∀g,c g->Q (ZW++(a.drop i).flatMap f) g)->Kf L d x i t w ((r,z,C)::D) e ZW Z g X Q
 |0,i,ZW,g,N,_,h,m=>by
  rw[bX];refine⟨none,by rw[o _ _ h];simp;omega,?_⟩
  have:=m g h;rw[QE ()]at this
  simpa using this
 |n+1,i,ZW,g,N,P,h,m=>by
  have hi:i<a.length:=by omega
  have J:a.drop i=a[i]::a.drop (i+1):=Rm hi;let⟨I,O⟩:=s a[i] (RM hi);let⟨j,K,H⟩:=aW.2 O;have u:(n+1)*B=n*B+B:=Nat.succ_mul n B;have M:=v a[i] (RM hi);rw[bX];refine⟨some (b a[i]),by rw[o _ _ h];simp[hi],I,j,K,wp_mono (H g ZW h ()) λk g q=>?_⟩
  let⟨rfl,q⟩:=q;rw[XW rfl];refine wp_mono q λF g q=>wp_mono q λA g q=>?_;let⟨rfl,p⟩:=q;refine gu a b f c B o v s n (i+1) _ g () (by simp![W9];omega) p λg p=>?_
  have:=m g p;rw[J,Sh]at this;simpa using this
def abc{t:Tg}{Q:List U->G->Prop}(f:List α)(a:α->U)(c:α->Bool)(e:α->U)(b:G->Prop)(h:List U)
  (m:∀k g,b g->next it k g=some (f.map a)[k]?)
  (j:∀y,y∈f->AR t Z=true/\Kg (Ae t (a y) Z) (lk λi=>∀g,b g->Ka L d cs i g (λ_ _ _=>False) λk g=>k=c y/\Kh (c y) (lk (J7 L d elt i g (λ_ _ _=>False) λv g=>v=e y/\b g)) (lk (b g))))
  (n:h.length+f.length<16777000) (p:b g) (l:∀g,b g->Q (h++(f.filter c).map e) g):Kf L d it 0 t cs [] elt h Z g X Q:=
 dZ f a c e b m j f.length 0 h g (Sf _) (by simpa[Ac]using n) p λg o=>by simpa using l g o
def aX{t:Tg}{b:List Z5}{Q:Fl->G->Prop}(M:List U)(a:Nat->Su->G->Prop)
  (h:∀k Z g,a k Z g->next it k g=some M[k]?) (i:a 0 Z g)
  (c:∀k u Z g,M[k]?=some u->a k Z g->Kg (Ae t u Z) (lk λj=>wpS L d b j g X λf g=>Kj f (lk (λZX=>a (k+1) ZX g)) (lk λf=>Q f g)))
  (e:∀Z g,a M.length Z g->Q (.nx Z) g):Ke L d t it 0 b Z g X Q:=b6 M a h c e M.length 0 Z g (Sf _) i
end
def dy{l:List α}:(l.filter λ_=>true)=l:=List.filter_eq_self.mpr #[3]
abbrev BQ(g:G)(xs:List U)(Q:U->G->Prop):Prop:=∀gs n,g.length<=n->(g++gs)[n]?=some (.S xs)->Q (.ref n) (g++gs)
inductive Dt where
 |ZR|bl (b:Bool)|int (i:Int)|str (s:PySem.Str)|ZZ (ds:List Dt)|S (ds:List Dt)
mutual
def Rep(g:G):Dt->U->Prop
 |.ZR,u=>u=.ZR
 |.bl b,u=>u=.bl b
 |.int i,u=>u=.int i
 |.str s,u=>u=.str s
 |.ZZ ds,u=>∃M,u=.ZZ M/\Reps g ds M
 |.S ds,u=>∃n M,u=.ref n/\g[n]?=some (.S M)/\Reps g ds M
def Reps(g:G):List Dt->List U->Prop
 |[],M=>M=[]
 |d::ds,M=>∃v vs,M=v::vs/\Rep g d v/\Reps g ds vs
end
noncomputable def Dt.ok:Nat->Dt->Prop
 |0,_=>False
 |n+1,.ZZ ds=>ds.length<1000000 /\∀D∈ds,D.ok n
 |n+1,.S ds=>ds.length<1000000 /\∀D∈ds,D.ok n
 |_+1,_=>True
def Dt.Tz{a:List Dt}:Dt.ok (n+1) (.ZZ a)↔a.length<1000000 /\∀D∈a,D.ok n:=by rw[Dt.ok]
def Dt.Tx{a:List Dt}:Dt.ok (n+1) (.S a)↔a.length<1000000 /\∀D∈a,D.ok n:=by rw[Dt.ok]
def Reps.length{g:G}:∀{ds:List Dt} {M:List U},Reps g ds M->M.length=ds.length
 |[],_,h=>by cases h;rfl
 |_::ds,_,h=>by let⟨v,vs,rfl,_,h2⟩:=h;simp[Reps.length h2]
def Reps.get{g:G}:∀{ds:List Dt} {M:List U} {i:Nat} {D:Dt},Reps g ds M->ds[i]?=some D ->∃v,M[i]?=some v/\Rep g D v
 |[],_,_,_,_,e=>by simp at e
 |x::ds,_,0,D,h,e=>by
  let⟨v,vs,rfl,h1,_⟩:=h;simp at e;subst e;exact⟨v,by simp,h1⟩
 |x::ds,_,i+1,D,h,e=>by
  let⟨v,vs,rfl,_,h2⟩:=h;let⟨w,b,a⟩:=Reps.get (i:=i) (D:=D) h2 (by simpa using e)
  exact⟨w,by simpa using b,a⟩
structure Plan where
 w:Int
 d:Int
 s:Int
abbrev Pt:=Int×Int
abbrev Za(P:Plan):U:=.ZZ [.int P.w,.int P.d,.int P.s]
abbrev uP(p:Pt):U:=.ZZ [.int p.1,.int p.2]
structure Plan.ok(P:Plan):Prop where
 w:P.w=1\/P.w=2\/P.w=3
 d:P.d=1\/P.d=2\/P.d=3
 s:P.s=2\/P.s=4\/P.s=8
def Plan.ok.sd{P:Plan}(h:P.ok):small P.d:=by rcases h.d with e|e|e<;>rw[e]<;>exact bF #[1]
def Plan.ok.ss{P:Plan}(h:P.ok):small P.s:=by rcases h.s with e|e|e<;>rw[e]<;>exact bF #[1]
def Plan.ok.s0{P:Plan}(h:P.ok):0<P.s:=by rcases h.s with e|e|e<;>rw[e]<;>decide
def Plan.ok.sb{P:Plan}(h:P.ok):P.s<Al:=by rcases h.s with e|e|e<;>rw[e]<;>decide
def Plan.ok.ws{P:Plan}(h:P.ok):2<=P.w*P.s/\P.w*P.s<=24:=by rcases h.w with e|e|e<;>rcases h.s with f|f|f<;>rw[e,f]<;>decide
def Plan.ok.ds{P:Plan}(h:P.ok):2<=P.d*P.s/\P.d*P.s<=24:=by rcases h.d with e|e|e<;>rcases h.s with f|f|f<;>rw[e,f]<;>decide
def A2(P:Plan)(p:Pt):Bool:=decide (0<=p.1)&&decide (p.1<=P.w*P.s)&&decide (0<=p.2)&&decide (p.2<=P.d*P.s)
def Kv(n:Int):List Int:=(List.range n.toNat).map λ(i:Nat)=>(i:Int)
def ai(n:Int):(Kv n).length=n.toNat:=by simp[Kv]
def dE{n i:Int}:i∈Kv n↔0<=i/\i<n:=by
 simp![Kv,Sk,List.mem_range];exact⟨λ⟨k,h,e⟩=>by omega,λ⟨h,k⟩=>⟨i.toNat,by omega,by omega⟩⟩
def aH{j:Int}{k:Nat}:next (.YY 0 j.toNat) k g=some ((Kv j).map U.int)[k]?:=by
 simp![next,Kv];by_cases h:k<j.toNat
 .simp [h]
 .simp [h]
def bH{k:Nat}(h:g[n]?=some (.S xs)):next (.S n) k g=some xs[k]?:=by
 simp![next,h]
def An(P:Plan):List Pt:=(Kv (P.w*P.s+1)).flatMap λx=>(Kv (P.d*P.s+1)).map λy=>(x,y)
def gH{P:Plan}{p:Pt}:p∈An P↔A2 P p=true:=by
 let⟨x,y⟩:=p;simp![An,Qw,Sk,dE,A2,Zc,XE];constructor
 .rintro ⟨a,h1,b,h2,e⟩
  cases e;omega
 .intro h
  exact⟨x,by omega,y,by omega,rfl⟩
def bK{c d:Type}{f:c->List d}{B:Nat}:∀{l:List c},(∀a∈l,(f a).length<=B)->(l.flatMap f).length<=l.length*B
 |[],_=>by simp
 |a::l,h=>by
  rw[Sh,W9,Wa,Nat.succ_mul];have h1:=h a #[3]
  have h2:=bK (f:=f) (B:=B) (l:=l) λb g=>h b (by simp[g])
  omega
def gG{P:Plan}(h:P.ok):(An P).length<=625:=by
 have h1:=h.ws;have h2:=h.ds;have:=bK (f:=λx=>(Kv (P.d*P.s+1)).map λy=>((x,y):Pt)) (B:=25) (l:=Kv (P.w*P.s+1)) λa _=>by simp[ai];omega
 have b:(Kv (P.w*P.s+1)).length<=25:=by rw[ai];omega
 have c:(Kv (P.w*P.s+1)).length*25<=25*25:=Nat.mul_le_mul_right _ b;unfold An;omega
def af{gs:G}{o:Z6}(h:g[n]?=some o):(g++gs)[n]?=some o:=by
 rw[Xe (Yi.mp h).1];exact h
def ar{o:Z6}:(g++[o])[g.length]?=some o:=by simp
def vm{gs:G}(h:BQ g xs Q)(a:xs.length<=16777000):xs.length<=16777000/\Q (.ref (g++gs).length) (g++gs++[.S xs]):=by
 refine⟨a,?_⟩;have:=h (gs++[.S xs]) (g++gs).length #[3] (by rw[<-VC];exact ar)
 rw[<-VC]at this;exact this
def EC(xs:List Int)(a b:Option Int):List Int:=(xs.drop (HT.sIx xs.length 0 a)).take (HT.sIx xs.length xs.length b-HT.sIx xs.length 0 a)
def w8(ns:List Int)(l h:Option Int):A9 (ns.map U.int) l h=(EC ns l h).map U.int:=by
 unfold A9 EC;rw[Yk,<-List.map_drop,<-List.map_take]
abbrev Bn(c:Nat)(at_ Ww:Int):Z6:=.S [.ref c,.int at_,.int Ww]
def Bag(g:G):Prop:=∃(xs:List Int) (a b:Int),g[1]?=some (.S (xs.map .int))/\g[2]?=some (Bn 1 a b)
structure Fr(g g':G):Prop where
 Y_:Bag g'
 len:g.length<=g'.length
 get:∀(k:Nat) (o:Z6),3<=k->g[k]?=some o->g'[k]?=some o
def Bag.app{gs:G}(h:Bag g):Bag (g++gs):=let⟨xs,a,s,h1,h2⟩:=h;⟨xs,a,s,af h1,af h2⟩
def Bag.len(h:Bag g):3<=g.length:=by let⟨xs,a,s,h1,h2⟩:=h;exact(Yi.mp h2).1
def Fr.app{g gs:G}(h:Bag g):Fr g (g++gs):=⟨h.app,by simp,λk o _ e=>af e⟩
def Fr.refl(h:Bag g):Fr g g:=⟨h,Ie _,λk o _ e=>e⟩
def Fr.trans{a b c:G}(h:Fr a b)(k:Fr b c):Fr a c:=⟨k.Y_,Ib h.len k.len,λi o hi e=>k.get i o hi (h.get i o hi e)⟩
def Dh(xs:List Int)(at_:Int):Int:=if h:0<xs.length then xs.getD (at_ % xs.length).toNat 0 else 0
def fY{xs:List Int}{at_:Int}(h:0<xs.length):0<=at_ % (xs.length:Int)/\at_ % (xs.length:Int)<xs.length:=⟨QK _ (),Qg _ ()⟩
def uU{xs:List Int}{at_:Int}(h:0<xs.length):JG (xs.map U.int) (at_ % xs.length)=some (.int (Dh xs at_)):=by
 let⟨h1,h2⟩:=fY (at_:=at_) h;rw[cI h1 (by simpa using h2)]
 have:(at_ % (xs.length:Int)).toNat<xs.length:=by omega
 simp[Dh,h,Yr this,List.getD]
def wu{xs:List Int}{at_:Int}(h:0<xs.length):L2.ixN xs.length (at_ % xs.length)=some (at_ % xs.length).toNat:=by
 let⟨h1,h2⟩:=fY (at_:=at_) h;unfold L2.ixN;rw[XW h1,XW h2]
def iU{P:Plan}{p:Pt}(h:0<=p.1/\p.1<=P.w*P.s/\0<=p.2/\p.2<=P.d*P.s):A2 P p=true:=by
 simp![A2,Zc,XE];omega
def Kw(p:Pt):Dt:=.ZZ [.int p.1,.int p.2]
def fk{i:Int}:Rep g (.int i) (.int i):=by simp![Rep]
def abS{p:Pt}:Rep g (Kw p) (uP p):=by
 simp![Kw,Rep];refine⟨_,rfl,?_⟩;simp![Reps];exact⟨_,_,rfl,fk,_,_,rfl,fk,rfl⟩
def jo{b:Type}{g:G}{f:b->Dt}{e:b->U}(h:∀a,Rep g (f a) (e a)):∀l:List b,Reps g (l.map f) (l.map e)
 |[]=>by simp![Rj,Reps]
 |a::l=>by simp![YG,Reps];exact⟨_,_,rfl,h a,jo h l⟩
def mG{i:Int}:(Dt.int i).ok (n+1):=by simp[Dt.ok]
def acv{i:Bool}:(Dt.bl i).ok (n+1):=by simp[Dt.ok]
def acL{p:Pt}:(Kw p).ok (n+2):=by
 unfold Kw;rw[Dt.Tz];refine⟨by simp,λD h=>?_⟩
 simp at h;rcases h with rfl|rfl<;>exact mG
def iY:Jv .pow (.int 10) (.int 18)=some (.int 1000000000000000000):=by simp[Jv,Ju]
def c8{k:Int}{Z:Su}(h:g[n]?=some (.S xs))(b:0<=k)(a:k<xs.length):subAt (.ref n) (.int k) u Z g=.ok (.nx Z) (g.set n (.S (xs.set k.toNat u))):=by
 simp![subAt,EL,h];unfold L2.ixN;rw[XW b,XW a]
def b9{y:U}(h:g[n]?=some (.S xs))(a:xs.length<16777000):AY n y g=.ok .ZR (g.set n (.S (xs++[y]))):=by
 simp![AY,h];rw[XW (by simpa[Ac]using a)]
def sT{y:U}(a:xs.length<16777000):AY g.length y (g++[.S xs])=.ok .ZR (g++[.S (xs++[y])]):=by
 rw[b9 ar a];simp
def bw{o o':Z6}(h:g[n]?=some o):(g.set n o')[n]?=some o':=VL (Yi.mp h).1
def Fr.set1(h:Bag g)(xs:List Int):Fr g (g.set 1 (.S (xs.map U.int))):=by
 let⟨ys,a,s,h1,h2⟩:=h;refine⟨⟨xs,a,s,bw h1,by rw[Wr #[1]];exact h2⟩,by simp,λk o hk e=>by rw[Wr ()];exact e⟩
def Fr.Tw(h:Bag g)(d c:Int):Fr g (g.set 2 (Bn 1 d c)):=by
 let⟨ys,a,s,h1,h2⟩:=h;refine⟨⟨ys,d,c,by rw[Wr #[1]];exact h1,bw h2⟩,by simp,λk o hk e=>by rw[Wr ()];exact e⟩
def stride(p:Pt):Int:=if p.1 % 4=0/\p.2 % 4=0 then 4 else if p.1 % 2=0/\p.2 % 2=0 then 2 else 1
abbrev Pr:=Pt×Pt
def Fp(p:Pt):Prop:=((p.1-stride p) / (2*stride p)+(p.2-stride p) / (2*stride p)) % 2=0
instance(p:Pt):Decidable (Fp p):=by unfold Fp;infer_instance
abbrev u2(q:Pr):U:=.ZZ [uP q.1,uP q.2]
def FJ:List Plan:=[1,2,3].flatMap λw=>[1,2,3].flatMap λd=>[2,4,8].map λs=>⟨w,d,s⟩
def iC{P:Plan}(h:P.ok):P∈FJ:=by
 have e:∀{x a b c:Int},x=a\/x=b\/x=c->x∈[a,b,c]:=λh=>by simpa using h
 exact Qw.mpr ⟨P.w,e h.w,Qw.mpr ⟨P.d,e h.d,Sk.mpr ⟨P.s,e h.s,rfl⟩⟩⟩
def qD{k i:Int}:Jw (.int k) (.int i::xs)=(Jw (.int k) xs).map λc=>decide (i=k)||c:=by
 simp![Jw,Jt,Ah];cases Jw (.int k) xs with
 |none=>rfl
 |some c=>simp![Vw];congr 1
def k6{x:U}:Jw x []=some false:=rfl
def Kx(q:Pr):Dt:=.ZZ [Kw q.1,Kw q.2]
def dI{l:List α}{f:α->U}{i:Int}(b:0<=i)(h:i<l.length):∃a∈l,JG (l.map f) i=some (f a):=by
 have hi:i.toNat<l.length:=by omega
 refine⟨l[i.toNat],RM hi,?_⟩;rw[cI b (by simpa using h)]
 simp[hi]
def ltP(p q:Pt):Prop:=p.1<q.1\/(p.1=q.1/\p.2<q.2)
instance(p q:Pt):Decidable (ltP p q):=by unfold ltP;infer_instance
def uy{p q:Pt}(h:ltP p q)(k:ltP q p):False:=by unfold ltP at h k;omega
def wm{p:Pt}(h:ltP p p):False:=uy h h
def gR(n:Int):(Kv n).Pairwise (· < ·):=by
 unfold Kv;rw[List.pairwise_map];exact List.Pairwise.imp (λh=>by omega) (List.pairwise_lt_range (n:=n.toNat))
def r6(P:Plan):(An P).Pairwise ltP:=by
 unfold An;rw[List.pairwise_flatMap];refine⟨λx _=>?_,?_⟩
 .rw [List.pairwise_map]
  exact(gR _).imp λh=>.inr ⟨rfl,h⟩
 .refine (gR _).imp λ{x y} h p hp q a=>?_
  let⟨_,_,rfl⟩:=Sk.mp hp;let⟨_,_,rfl⟩:=Sk.mp a;exact .inl h
structure Zx where
 ax:Int
 ay:Int
 bx:Int
 bY:Int
 cx:Int
 cy:Int
deriving DecidableEq
abbrev uT(t:Zx):U:=.ZZ [.int t.ax,.int t.ay,.int t.bx,.int t.bY,.int t.cx,.int t.cy]
def Ky(o:Option Pt):U:=match o with
 |none=>.ZR
 |some p=>uP p
def AQ(i j s:Int):List Zx:=if(i+j) % 2=0 then[⟨i*s,j*s,i*s+s,j*s+s,i*s+s,j*s⟩,⟨i*s+s,j*s+s,i*s,j*s,i*s,j*s+s⟩]
 else[⟨i*s+s,j*s,i*s,j*s+s,i*s+s,j*s+s⟩,⟨i*s,j*s+s,i*s+s,j*s,i*s,j*s⟩]
def cZ(i j s:Int):(AQ i j s).length=2:=by unfold AQ;split<;>rfl
def By(P:Plan):List Zx:=(Kv P.w).flatMap λi=>(Kv P.d).flatMap λj=>AQ i j P.s
def BI(t:Zx):Option Pt:=if(t.ax+t.bx) % 2=1\/(t.ay+t.bY) % 2=1 then none else some ((t.ax+t.bx) / 2,(t.ay+t.bY) / 2)
def D2(t:Zx)(m:Pt):List Zx:=[⟨t.ax,t.ay,t.cx,t.cy,m.1,m.2⟩,⟨t.cx,t.cy,t.bx,t.bY,m.1,m.2⟩]
def Ao(t:Zx):List Zx:=match BI t with
 |none=>[]
 |some m=>D2 t m
def gA{t:Zx}{m:Pt}(h:BI t=some m):Ao t=D2 t m:=by unfold Ao;rw[h]
def sv{t:Zx}(h:BI t=none):Ao t=[]:=by unfold Ao;rw[h]
def Bz:Nat->Zx->List Zx
 |0,t=>[t]
 |n+1,t=>t::(Ao t).flatMap (Bz n)
def AW:Nat->Zx->Bool
 |0,t=>(Ao t).isEmpty
 |n+1,t=>(Ao t).all (AW n)
def As(t:Zx):List Zx:=Bz 7 t
def eE{c d:Type}{f g:c->List d}:∀{l:List c},(∀x∈l,f x=g x)->l.flatMap f=l.flatMap g
 |[],_=>rfl
 |a::l,h=>by rw[Sh,Sh,h a #[3],eE λx j=>h x (by simp[j])]
def gU:∀(n:Nat) (t:Zx),AW n t=true->Bz (n+1) t=Bz n t
 |0,t,h=>by
  have:Ao t=[]:=Sn.mp h;simp[Bz,this]
 |n+1,t,h=>by
  have h':=Wn.mp h;show t::(Ao t).flatMap (Bz (n+1))=t::(Ao t).flatMap (Bz n);rw[eE λx a=>gU n x (h' x a)]
def il:∀(n:Nat) (t:Zx),AW n t=true->AW (n+1) t=true
 |0,t,h=>by
  have:Ao t=[]:=Sn.mp h;simp[AW,this]
 |n+1,t,h=>Wn.mpr λx a=>il n x (Wn.mp h x a)
def hJ{t x:Zx}(h:AW 7 t=true)(hx:x∈Ao t):AW 6 x=true:=Wn.mp h x hx
def jf{t:Zx}(h:AW 7 t=true):As t=t::(Ao t).flatMap As:=by
 show t::(Ao t).flatMap (Bz 6)=_;rw[eE λx a=>(gU 6 x (hJ h a)).symm]
 rfl
def uk(t:Zx):0<(As t).length:=by show 0<(t::_).length;simp
def Bh(P:Plan):List Zx:=(By P).flatMap As
def gT:(FJ.all λP=>(By P).all (AW 7)&&decide (((Bh P).length:Int)=P.w*P.d*(4*P.s*P.s-2))&&decide ((Bh P).length<=2286))=true:=by decide +kernel
def uA{P:Plan}(h:P.ok){t:Zx}(a:t∈By P):AW 7 t=true:=by
 have:=Wn.mp gT P (iC h);simp![Zc,Wn]at this;exact this.1.1 t a
def gP{P:Plan}(h:P.ok):((Bh P).length:Int)=P.w*P.d*(4*P.s*P.s-2)/\(Bh P).length<=2286:=by
 have:=Wn.mp gT P (iC h);simp![Zc,XE]at this;exact⟨this.1.2,this.2⟩
def tf{P:Plan}(h:P.ok):(By P).length<=18:=by
 have a:∀i,((Kv P.d).flatMap λj=>AQ i j P.s).length<=6:=λi=>by
  have:=bK (f:=λj=>AQ i j P.s) (B:=2) (l:=Kv P.d) λj _=>Qy (cZ i j P.s);have h2:(Kv P.d).length<=3:=by rw[ai];rcases h.d with e|e|e<;>rw[e]<;>decide
  omega
 have:=bK (f:=λi=>(Kv P.d).flatMap λj=>AQ i j P.s) (B:=6) (l:=Kv P.w) λi _=>a i;have h2:(Kv P.w).length<=3:=by rw[ai];rcases h.w with e|e|e<;>rw[e]<;>decide
 unfold By;omega
def uM{y:U}(h:g[n]?=some (.S (xs++[y]))):A5 n g=.ok y (g.set n (.S xs)):=by
 simp![A5,h];simp
def ud{a:List U}(h:g[n]?=some (.S xs))(k:g[m]?=some (.S a))(b:xs.length+a.length<16777000):BB n (.ref m) g=.ok .ZR (g.set n (.S (xs++a))):=by
 simp![BB,JK,h,k];rw[XW (by simpa[Ac]using b)]
def acS{t:Zx}:CN (uT t) none (some 4) g=.ok (.ZZ [.int t.ax,.int t.ay,.int t.bx,.int t.bY]) g:=rfl
def dT(t:Zx):Dt:=.ZZ [.int t.ax,.int t.ay,.int t.bx,.int t.bY,.int t.cx,.int t.cy]
def jl{c d:Type}{f:c->List d}:∀{l:List c},(∀x∈l,0<(f x).length)->l.length<=(l.flatMap f).length
 |[],_=>by simp
 |a::l,h=>by
  rw[Sh,W9,Wa];have h1:=h a #[3]
  have h2:=jl (l:=l) λx g=>h x (by simp[g])
  omega
def gB{b c:Type}{f:b->List c}:∀{l:List b},(l.reverse.flatMap f).length=(l.flatMap f).length
 |[]=>rfl
 |a::l=>by
  rw[Rc,R8,W9,gB,Sh,W9];simp;omega
def yx{l:List α}{a:α}:(l++[a]).isEmpty=false:=by cases l<;>rfl
def jv{B gs:G}{a b:Z6}:(g++a::(B++b::gs))[g.length]?=some a:=by simp
def dA{B gs:G}{a b:Z6}:(g++a::(B++b::gs))[g.length+1+B.length]?=some b:=by
 rw[XN (),show g.length+1+B.length-g.length=B.length+1 by omega,SX,XN ()]
 simp
def u7{B gs:G}{a b c:Z6}:(g++a::(B++b::gs)).set g.length c=g++c::(B++b::gs):=by simp
def iZ{B gs:G}{a b c:Z6}:(g++a::(B++b::gs)).set (g.length+1+B.length) c=g++a::(B++c::gs):=by
 rw[List.set_append_right _ _ (),show g.length+1+B.length-g.length=B.length+1 by omega,List.set_cons_succ,List.set_append_right _ _ ()]
 simp
def fA{B gs c:G}{a b:Z6}:g++a::(B++b::gs)++c=g++a::(B++b::(gs++c)):=by simp
noncomputable def WH(i:Int):Prop:=-Al<i/\i<Al
def mid(i:Int):Prop:=-10000000000000000000000000000<i/\i<10000000000000000000000000000
def mid.WH{i:Int}(h:mid i):WH i:=by unfold mid at h;unfold PI.WH Al;omega
structure NT where
 a:Nat
 b:Nat
 c:Nat
 d:Nat
 e:Nat
 f:Nat
def Kz(x y z v:Nat):Bool:=Nat.ble v x||(Nat.ble v y||Nat.ble v z)
def FT(t:Zx):List Int:=[t.ax,t.ay,t.bx,t.bY,t.cx,t.cy]
def hG{k:List Int}:(Aq Z3 k).isSome=Z3.any λb=>decide (b.1=k):=by
 unfold Aq
 induction Z3 with
 |nil=>rfl
 |cons a r ih=>
  rw[Uq,VJ];cases decide (a.1=k)with
  |true=>rfl
  |false=>simpa using ih
def vo{k:List Int}{v:U}:(dput Z3 k v).length<=Z3.length+1:=by
 unfold dput;split<;>simp
def eN{k:List Int}{Z:Su}(h:g[n]?=some (.ZJ Z3))(b:intsOf M=some k)(a:Z3.length<16777000):subAt (.ref n) (.ZZ M) u Z g=.ok (.nx Z) (g.set n (.ZJ (dput Z3 k u))):=by
 simp![subAt,Eb,h,b];rw[XW (by simpa[Ac]using a)]
def uB{k:List Int}(h:g[n]?=some (.ZJ Z3))(a:intsOf M=some k):AJ (.ZZ M) (.ref n) g=some (Aq Z3 k):=by
 simp![AJ,Jy,h,keyOf,a,Vw]
def GQ(a b:Int):List Int:=(List.range (b-a).toNat).map λ(i:Nat)=>a+(i:Int)
abbrev EJ(t:Zx):Int:=best true t.ax [t.bx,t.cx]
abbrev Ei(t:Zx):Int:=best true t.ay [t.bY,t.cy]
abbrev EK(t:Zx):Int:=best false t.ax [t.bx,t.cx]
abbrev EI(t:Zx):Int:=best false t.ay [t.bY,t.cy]
def Ha(t:Zx)(p:Pt):Bool:=decide (EJ t<=p.1)&&decide (p.1<=EK t)&&(decide (Ei t<=p.2)&&decide (p.2<=EI t))
def D3(ax ay bx a:Int)(p:Pt):Int:=(bx-ax)*(p.2-ay)-(a-ay)*(p.1-ax)
abbrev tu1(t:Zx)(p:Pt):Int:=D3 t.ax t.ay t.bx t.bY p
abbrev tu2(t:Zx)(p:Pt):Int:=D3 t.bx t.bY t.cx t.cy p
abbrev tu3(t:Zx)(p:Pt):Int:=D3 t.cx t.cy t.ax t.ay p
def G4(t:Zx)(p:Pt):Bool:=Ha t p&&(decide (0<=best true (tu1 t p) [tu2 t p,tu3 t p])||decide (best false (tu1 t p) [tu2 t p,tu3 t p]<=0))
def KA(t:Zx):List Pt:=(GQ (EJ t) (EK t+1)).flatMap λx=>((GQ (Ei t) (EI t+1)).filter λy=>G4 t (x,y)).map λy=>(x,y)
def G6(a b c:Pt):Int:=(b.1-a.1)*(c.2-a.2)-(c.1-a.1)*(b.2-a.2)
def KC(t:Zx):Pt:=(t.cx,t.cy)
def iA{a b c x:Int}:x<=best true a [b,c]↔x<=a/\x<=b/\x<=c:=by
 simp![best,Ro,List.foldl_nil,TL];split<;>split<;>omega
def iW{a b c x:Int}:best false a [b,c]<=x↔a<=x/\b<=x/\c<=x:=by
 simp![best,Ro,List.foldl_nil,Vj,Td];split<;>split<;>omega
def KD(t:Zx):Prop:=(-100<=t.ax/\t.ax<=100)/\(-100<=t.ay/\t.ay<=100)/\(-100<=t.bx/\t.bx<=100)/\(-100<=t.bY/\t.bY<=100)/\(-100<=t.cx/\t.cx<=100)/\(-100<=t.cy/\t.cy<=100)
def KD.box{t:Zx}(h:KD t): -100<=EJ t/\EK t<=100 /\ -100<=Ei t/\EI t<=100:=by
 let⟨a,b,c,d,e,f⟩:=h;refine⟨iA.mpr (),iW.mpr (),iA.mpr (),iW.mpr ()⟩
def ju{k k':List Int}{v:U}:∀{Z3:List (List Int×U)},((Z3.map λb=>if b.1=k then(b.1,v)else b).find? λb=>decide (b.1=k'))=(Z3.find? λb=>decide (b.1=k')).map λb=>if b.1=k then(b.1,v)else b
 |[]=>rfl
 |a::r=>by
  have ih:=ju (k:=k) (k':=k') (v:=v) (Z3:=r);rw[YG,Uq,Uq];have e:decide ((if a.1=k then(a.1,v)else a).1=k')=decide (a.1=k'):=by split<;>rfl
  rw[e];cases decide (a.1=k')with
  |true=>rfl
  |false=>exact ih
def uF{k k':List Int}{v:U}:Aq (dput Z3 k v) k'=if k=k' then some v else Aq Z3 k':=by
 by_cases h:(Z3.any λa=>decide (a.1=k))=true
 .unfold dput
  rw[XW h];unfold Aq;rw[ju];have hs:=hG (Z3:=Z3) (k:=k);rw[h]at hs;unfold Aq at hs;cases hf:Z3.find? (λa=>decide (a.1=k'))with
  |none=>
   by_cases e:k=k'
   .subst e;rw[hf]at hs;simp at hs
   .rw [WV e];rfl
  |some a=>
   have:=List.find?_some hf;simp![XE]at this;by_cases e:k=k'
   .subst e;simp[this]
   .have e' : ¬ k'=k:=λz=>e z.symm
    rw[WV e];simp[this,e']
 .unfold dput
  rw[WV h];unfold Aq;rw[List.find?_append];by_cases e:k=k'
  .subst e
   have hs:=hG (Z3:=Z3) (k:=k);rw[Qv]at h;rw[h]at hs;have b:Z3.find? (λa=>decide (a.1=k))=none:=by
    unfold Aq at hs;cases hf:Z3.find? (λa=>decide (a.1=k))with
    |none=>rfl
    |some a=>rw[hf]at hs;simp at hs
   rw[b];simp
  .rw [WV e]
   cases hf:Z3.find? (λa=>decide (a.1=k'))with
   |none=>simp[e]
   |some a=>simp
def Ap(p:Pt):List Int:=[p.1,p.2]
def cC{p q:Pt}(h:Ap p=Ap q):p=q:=by
 let⟨a,b⟩:=p;let⟨c,d⟩:=q;simpa[Ap]using h
def cM{a b:Int}:intsOf [.int a,.int b]=some (Ap (a,b)):=rfl
def KG{a:Type}(key:a->List Int)(f:a->U)(b:List a):List (List Int×U):=b.map λq=>(key q,f q)
def fP{c:Type}{key:c->List Int}(d:∀a b,key a=key b->a=b){f:c->U}{a:c}:∀{ps:List c},a∈ps->Aq (KG key f ps) (key a)=some (f a)
 |[],h=>nomatch h
 |b::r,h=>by
  unfold Aq KG;rw[YG,Uq];by_cases e:key b=key a
  .have:=d _ _ e;subst this;simp
  .have h':a∈r:=by
    rcases Xl.mp h with z|z
    .subst z;exact absurd rfl e
    .exact z
   have ih:=fP d (f:=f) h';unfold Aq KG at ih;simp![e,decide_false];exact ih
def jy[DecidableEq α]{key:α->List Int}(i:∀a b,key a=key b->a=b){f:α->U}{a:α}{v:U}{c:List α}(h:a ∉ c):dput (KG key f c) (key a) v=KG key (λq=>if q=a then v else f q) (c++[a]):=by
 unfold dput;rw[WV]
 .unfold KG
  rw[Sv];congr 1
  .refine List.map_congr_left λq d=>?_
   show(key q,f q)=(key q,if q=a then v else f q)
   rw[WV (λe=>h (by rw[<-e];exact d))]
  .simp
 .intro g
  simp![KG,List.any_map,RL,Function.comp,XE]at g;let⟨q,d,e⟩:=g;exact h (by rw[<-i _ _ e];exact d)
def u6[DecidableEq α]{key:α->List Int}(d:∀a b,key a=key b->a=b){f:α->U}{a:α}{v:U}{c:List α}(h:a∈c):dput (KG key f c) (key a) v=KG key (λq=>if q=a then v else f q) c:=by
 unfold dput;rw[XW]
 .unfold KG
  rw[QW];refine List.map_congr_left λq g=>?_;simp![Function.comp];by_cases e:q=a
  .subst e;simp
  .rw [WV (λz=>e (d _ _ z)),WV e]
 .simp only [KG,List.any_map,RL,Function.comp,XE]
  exact⟨a,h,rfl⟩
def iz{f:Type}(key:f->List Int)(e:f->U)(j:∀a,keyOf (e a)=some (key a))(v:U):∀(ts:List f) (Z3:List (List Int×U)),∃c,dfold (ts.map λt=>.ZZ [e t,v]) Z3=some c/\c.length<=Z3.length+ts.length /\∀k,Aq c k=if k∈ts.map key then some v else Aq Z3 k
 |[],Z3=>⟨Z3,rfl,by simp,λk=>by simp⟩
 |t::ts,Z3=>by
  let⟨c,h1,h2,o⟩:=iz key e j v ts (dput Z3 (key t) v);refine⟨c,?_,?_,λk=>?_⟩
  .rw [YG]
   show(B5 Z3 (.ZZ [e t,v])).bind _=_;simp![B5,j,Vw,Se];exact h1
  .have:=vo (Z3:=Z3) (k:=key t) (v:=v)
   rw[Wa];omega
  .rw [o,uF]
   by_cases d:k∈ts.map key
   .rw [XW d,XW (by rw[YG];exact Ig _ d)]
   .rw [WV d]
    by_cases g:key t=k
    .subst g;rw[XW rfl,XW #[3]]
    .rw [WV g,WV]
     rw[YG,Xl];exactλz=>z.elim (λz=>g z.symm) d
def KH(xs:List U):List U:=(List.range xs.length).map λ(i:Nat)=>.ZZ [.int (i:Int),(xs[i]?).getD .ZR]
def eZ{k:Nat}:(KH xs)[k]?=(xs[k]?).map λu=>.ZZ [.int k,u]:=by
 unfold KH;by_cases h:k<xs.length
 .simp [h]
 .simp [h]
def kH:(KH xs).length=xs.length:=by simp[KH]
def jh{a k:Nat}(h:g[a]?=some (.S xs)):next (.Y0 a) k g=some (KH xs)[k]?:=by
 simp![next,h,eZ]
def uQ{k:List Int}(h:Jy u g=some Z3)(a:intsOf M=some k):AJ (.ZZ M) u g=some (Aq Z3 k):=by
 simp![AJ,h,keyOf,a,Vw]
abbrev Ht:=Pt->Int
def Fz(a b:Pt):Prop:=a.1*b.2<b.1*a.2
instance{a b:Pt}:Decidable (Fz a b):=by unfold Fz;infer_instance
structure Low(a:Pt):Prop where
 pos:0<a.2
 cop:Nat.gcd a.1.natAbs a.2.natAbs=1
def gW{P:Plan}{p:Pt}:A2 P p=true↔0<=p.1/\p.1<=P.w*P.s/\0<=p.2/\p.2<=P.d*P.s:=by
 simp![A2,Zc,XE];omega
def mi{a b:Int}{A B:Nat}(d:a.natAbs<=A)(c:b.natAbs<=B):(a*b).natAbs<=A*B:=by
 rw[Int.natAbs_mul];exact Nat.mul_le_mul d c
def KI(P:Plan)(H:Ht):Prop:=∀p,A2 P p=true -> -1000<=H p/\H p<=1000
def KJ(ax ay bx c b a:Nat):Bool:=Nat.ble (c*b+bx*ay+ax*a) (bx*a+c*ax+ay*b)
def l1(ax ay bx c b a:Nat):Bool:=Nat.ble (bx*a+c*ax+ay*b) (c*b+bx*ay+ax*a)
set_option maxRecDepth 1000000 in
def KL(p:Pt):List Int:=[p.1,p.2]
structure Half14(t one two:Zx)(m:Pt):Prop where
 near1:KD one
 near2:KD two
 same:JH ((KA one++KA two).map KL)=(KA t).map KL
 ok:JI ((KA one++KA two).map KL)
 line:∀p∈KA one,p∈KA two->G6 m (KC t) p=0
 mid1:m∈KA one
 mid2:m∈KA two
section
variable{L:List Fn}{Z:Su}{X:XP}
def pT{it:Iter}{t:Tg}{b:E}{Q:List U->G->Prop}(M:List U)(a:Nat->List U->G->Prop)
  (c:∀k ZW g,a k ZW g->next it k g=some M[k]?)
  (f:∀k u ZW,M[k]?=some u->AR t Z=true/\Kg (Ae t u Z) (lk λe=>∀g,a k ZW g->J7 L d b e g (λ_ _ _=>False) λv g=>a (k+1) (ZW++[v]) g))
  (o:M.length<16777000) (j:∀vs g,a M.length vs g->vs.length=M.length->Q vs g) :
  ∀(n i:Nat) (ZW:List U) (g:G),i+n=M.length->ZW.length=i->a i ZW g->Kf L d it i t [] [] b ZW Z g X Q
 |0,i,ZW,g,s,l,h=>by
  rw[bX];refine⟨none,by rw[c _ _ _ h];simp;omega,?_⟩
  obtain rfl:i=M.length:=by omega
  exact j ZW g h l
 |n+1,i,ZW,g,s,l,h=>by
  have hi:i<M.length:=by omega
  let⟨q,w⟩:=f i M[i] ZW (Yr hi);let⟨e,r,m⟩:=aW.2 w;rw[bX];refine⟨some M[i],by rw[c _ _ _ h];simp[hi],q,e,r,gf.2 ?_⟩
  rw[XW rfl];refine wp_mono (m g h) λv g p=>⟨by simp![Ac];omega,?_⟩
  exact pT M a c f o j n (i+1) _ g () (by simp;omega) p
def rR{t:Tg}{Q:List U->G->Prop}{g:G}(M:List U)(a:Nat->List U->G->Prop)
  (e:∀k ZW g,a k ZW g->next it k g=some M[k]?)
  (b:∀k u ZW,M[k]?=some u->AR t Z=true/\Kg (Ae t u Z) (lk λi=>∀g,a k ZW g->J7 L d elt i g (λ_ _ _=>False) λv g=>a (k+1) (ZW++[v]) g))
  (f:M.length<16777000) (h:a 0 [] g) (c:∀vs g,a M.length vs g->vs.length=M.length->Q vs g):Kf L d it 0 t [] [] elt [] Z g X Q:=
 pT M a e b f c M.length 0 [] g (Sf _) rfl h
end
def EB(P:Plan)(H:Ht)(y:Int):Dt:=.S ((Kv (P.w*P.s+1)).map λx=>.int (H (x,y)))
def CH(P:Plan)(H:Ht):Dt:=.S ((Kv (P.d*P.s+1)).map (EB P H))
def xF{P:Plan}{H:Ht}(b:P.ok):(CH P H).ok (n+3):=by
 have:=b.ws;have:=b.ds;unfold CH EB;rw[Dt.Tx];refine⟨by rw[Yk,ai];omega,λD a=>?_⟩
 let⟨y,_,rfl⟩:=Sk.mp a;rw[Dt.Tx];refine⟨by rw[Yk,ai];omega,λD a=>?_⟩
 let⟨x,_,rfl⟩:=Sk.mp a;exact mG
def jF{g:G}:∀{ds:List Dt} {M:List U},M.length=ds.length->(∀(i:Nat) (D:Dt) (u:U),ds[i]?=some D->M[i]?=some u->Rep g D u)->Reps g ds M
 |[],M,h,_=>by
  cases M with
  |nil=>simp![Reps]
  |cons _ _=>cases h
 |D::ds,M,h,k=>by
  cases M with
  |nil=>cases h
  |cons u M=>
   simp![Reps];exact⟨u,M,rfl,k 0 D u rfl rfl,jF (by simpa using h) λi D u h1 h2=>k (i+1) D u (by simpa using h1) (by simpa using h2)⟩
end
end PI
namespace ZC
noncomputable section
open PI
section
variable{X:XP}{P:Plan}{p:Pt}
def Fd(g:G)(n:Nat)(P:Plan)(H:Ht):Prop:=∃ms:List Nat,g[n]?=some (.S (ms.map U.ref))/\ms.length=(P.d*P.s+1).toNat /\∀(y m:Nat),ms[y]?=some m->g[m]?=some (.S ((Kv (P.w*P.s+1)).map λx=>.int (H (x,(y:Int)))))
def RowsM(g:G)(n:Nat)(ms:List Nat)(P:Plan)(H:Ht):Prop:=g[n]?=some (.S (ms.map U.ref))/\ms.length=(P.d*P.s+1).toNat/\(∀(y m:Nat),ms[y]?=some m->g[m]?=some (.S ((Kv (P.w*P.s+1)).map λx=>.int (H (x,(y:Int))))))/\n ∉ ms
def RowsM.at{ms:List Nat}{P:Plan}{H:Ht}(h:RowsM g n ms P H):Fd g n P H:=⟨ms,h.1,h.2.1,h.2.2.1⟩
def RowsM.app{gs:G}{ms:List Nat}{P:Plan}{H:Ht}(h:RowsM g n ms P H):RowsM (g++gs) n ms P H:=⟨af h.1,h.2.1,λy m e=>af (h.2.2.1 y m e),h.2.2.2⟩
def Er(P:Plan)(d a:Int)(b e f g c:Nat):Z6:=.ins 211529932 [(509789213455080,.ref b),(232289904,Za P),(487627477906021,.int d),(31083624820,.int a),(31083802852,.ref e),(213628900,.ref f),(3500095911797,.ref g),(243020007,.ref c)]
def Fr.SY{g':G}{o:Z6}(h:Fr g g')(f:g.length<=m)(d:3<=m):Fr g (g'.set m o):=by
 let⟨⟨xs,a,s,c,b⟩,l,q⟩:=h;refine⟨⟨xs,a,s,by rw[Wr ()];exact c,by rw[Wr ()];exact b⟩,by simpa using l,λk o' hk e=>?_⟩
 have:k<g.length:=(Yi.mp e).1;rw[Wr ()]
 exact q k o' hk e
def cB{gs:G}{a:Z6}:(g++a::gs)[g.length]?=some a:=by simp
def jb{gs:G}{a b:Z6}:(g++a::gs).set g.length b=g++b::gs:=by simp
def bq{n:Int}{k:Nat}{x:Int}(h:(Kv n)[k]?=some x):x=k/\(k:Int)<n:=by
 have hk:k<(Kv n).length:=(Yi.mp h).1;rw[ai]at hk;simp![Kv,Xj,List.getElem?_range hk,Vw,Yo]at h;omega
def ym{gs:G}(h:Jy u g=some Z3):Jy u (g++gs)=some Z3:=by
 cases u with
 |ref n=>
  simp![Jy]at h ⊢;cases e:g[n]? with
  |none=>rw[e]at h;cases h
  |some o=>rw[af e];rw[e]at h;exact h
 |_=>exact h
abbrev Be(H:Ht)(p:Pt):U:=.int (H p)
def u9{H:Ht}{a:Pt}:(λq=>if q=a then .int (H a)else Be H q)=Be H:=funext λq=>by split;(rename_i z;rw[z]);rfl
def uI{b:List Pt}{a:Pt}(h:b.Nodup)(n:a ∉ b):(b++[a]).Nodup:=Sz.mpr ⟨h,by simp,λx d y c=>by rw[UE.mp c];exactλz=>n (z ▸ d)⟩
def i6{P:Plan}{H:Ht}(h:Fd g n P H):Rep g (CH P H) (.ref n):=by
 let⟨ms,e,d,c⟩:=h;simp![CH,Rep];refine⟨n,_,rfl,e,jF (by rw[Yk,Yk,ai,d]) λi D u h1 h2=>?_⟩
 simp![Xj,Yn]at h1 h2;let⟨y,a,rfl⟩:=h1;let⟨m,b,rfl⟩:=h2;let⟨rfl,_⟩:=bq a;simp![EB,Rep];exact⟨m,_,rfl,c i m b,jo (λ_=>fk) _⟩
structure Tv(g:G)(v:Nat)(P:Plan)(H:Ht):Prop where
 ex:∃(hN dN Up Uo gN:Nat) (hk:List (List Int×U)),g[v]?=some (Er P 0 0 hN dN Up Uo gN)/\g[hN]?=some (.ZJ hk) /\∀p,A2 P p=true->Aq hk (Ap p)=some (.int (H p))
inductive Vl where
 |i (n:Int)|b (c:Bool)|n
def KN:Vl->U
 |.i n=>.int n
 |.b c=>.bl c
 |.n=>.ZR
def KP:Vl->Dt
 |.i n=>.int n
 |.b c=>.bl c
 |.n=>.ZR
def KQ:Vl->Bool
 |.i n=>decide (-1000<=n)&&decide (n<=1000)
 |_=>false
structure X3(g:G)(n:Nat)(ms:List Nat)(rs:List (List Vl)):Prop where
 at_:g[n]?=some (.S (ms.map U.ref))
 len:ms.length=rs.length
 row:∀(y m:Nat) (r:List Vl),ms[y]?=some m->rs[y]?=some r->g[m]?=some (.S (r.map KN))
 nd:(n::ms).Nodup
def X3.app{gs:G}{ms:List Nat}{rs:List (List Vl)}(h:X3 g n ms rs):X3 (g++gs) n ms rs:=⟨af h.at_,h.len,λy m r b a=>af (h.row y m r b a),h.nd⟩
def X3.get{y:Nat}{ms:List Nat}{rs:List (List Vl)}{r:List Vl}(h:X3 g n ms rs)(e:rs[y]?=some r):∃m,ms[y]?=some m/\g[m]?=some (.S (r.map KN)):=by
 have a:y<ms.length:=by rw[h.len];exact(Yi.mp e).1
 exact⟨_,Yr a,h.row _ _ _ (Yr a) e⟩
def AX(W:Nat):List (List Vl)->Option Nat
 |[]=>none
 |r::t=>if r.length=W then AX W t else some r.length
def AZ(y:Int):Int->List Vl->Option (Pt×Vl)
 |_,[]=>none
 |x,v::t=>if KQ v=true then AZ y (x+1) t else some ((x,y),v)
def A1:Int->List (List Vl)->Option (Pt×Vl)
 |_,[]=>none
 |y,r::t=>match AZ y 0 r with
  |some c=>some c
  |none=>A1 (y+1) t
def AH(P:Plan)(rs:List (List Vl)):Option (Nat ⊕ (Pt×Vl)):=if rs.length=(P.d*P.s+1).toNat then match AX (P.w*P.s+1).toNat rs with
  |some k=>some (.inl k)
  |none=>(A1 0 rs).map .inr
 else some (.inl rs.length)
def BN:Option (Nat ⊕ (Pt×Vl))->U
 |none=>.ZR
 |some (.inl k)=>.ZZ [.str (PySem.Str.ofString "size"),.int k,.bl true]
 |some (.inr c)=>.ZZ [.str (PySem.Str.ofString "high"),uP c.1,KN c.2,.bl true]
def hT(rs:List (List Vl)):Ht:=λp=>match rs[p.2.toNat]? with
 |some r=>match r[p.1.toNat]? with
  |some (.i n)=>n
  |_=>0
 |none=>0
def c9{W:Nat}:∀{rs:List (List Vl)},AX W rs=none ->∀r∈rs,r.length=W
 |[],_,r,h=>by cases h
 |r::t,e,r',h=>by
  unfold AX at e;split at e
  .rename_i a
   rcases Xl.mp h with rfl|h
   .exact a
   .exact c9 e r' h
  .cases e
def iR{y:Int}:∀{r:List Vl} {x:Int},AZ y x r=none ->∀v∈r,KQ v=true
 |[],_,_,v,h=>by cases h
 |v::t,x,e,a,h=>by
  unfold AZ at e;split at e
  .rename_i b
   rcases Xl.mp h with rfl|h
   .exact b
   .exact iR e a h
  .cases e
def g8:∀{rs:List (List Vl)} {y:Int},A1 y rs=none ->∀r∈rs,∀v∈r,KQ v=true
 |[],_,_,r,h=>by cases h
 |r::t,y,e,r',h=>by
  unfold A1 at e;split at e
  .cases e
  .rename_i a
   rcases Xl.mp h with rfl|h
   .exact iR a
   .exact g8 e r' h
def ur{P:Plan}{rs:List (List Vl)}(h:AH P rs=none):rs.length=(P.d*P.s+1).toNat/\(∀r∈rs,r.length=(P.w*P.s+1).toNat) /\∀r∈rs,∀v∈r,KQ v=true:=by
 unfold AH at h;split at h
 .rename_i b
  split at h
  .cases h
  .rename_i a
   refine⟨b,c9 a,g8 (y:=0) ?_⟩;cases e:A1 0 rs with
   |none=>rfl
   |some c=>rw[e]at h;cases h
 .cases h
def qo{v:Vl}(h:KQ v=true):∃n,v=.i n /\ -1000<=n/\n<=1000:=by
 cases v with
 |i n=>simp![KQ,Zc,XE]at h;exact⟨n,rfl,h⟩
 |_=>cases h
def qr{rs:List (List Vl)}{x y:Nat}{r:List Vl}{n:Int}(b:rs[y]?=some r)(a:r[x]?=some (.i n)):hT rs ((x:Int),(y:Int))=n:=by
 simp![hT,Rg,b,a]
def wQ{ms:List Nat}{rs:List (List Vl)}(h:X3 g n ms rs)(d:AH P rs=none):RowsM g n ms P (hT rs):=by
 let⟨h1,h2,f⟩:=ur d;refine⟨h.at_,by rw[h.len,h1],λy m e=>?_,(UR.mp h.nd).1⟩
 have b:y<rs.length:=by rw[<-h.len];exact(Yi.mp e).1
 have a:=Yr b;rw[h.row y m _ e a];have j:=h2 _ (WG a);congr 2;refine List.ext_getElem? λx=>?_;rw[Xj,Xj];by_cases c:x<rs[y].length
 .have ev:=Yr c
  let⟨k,i,_⟩:=qo (f _ (WG a) _ (WG ev));rw[i]at ev;have:(Kv (P.w*P.s+1))[x]?=some (x:Int):=by simp![Kv,Xj,List.getElem?_range (show x<(P.w*P.s+1).toNat by omega),Vw]
  rw[ev,this,Vw,Vw,qr a ev]
  rfl
 .rw [List.getElem?_eq_none (),List.getElem?_eq_none (by rw[ai];omega)]
  rfl
def nu:∀r:List Vl,Jz Ah (r.map KN) (r.map KN)=some true
 |[]=>rfl
 |v::r=>by
  simp![YG,Jz];rw[show Ah (KN v) (KN v)=some true by cases v<;>simp[KN,Ah],nu r]
  rfl
def nq{g:G}:∀{rs:List (List Vl)} {ms ks:List Nat},ms.length=rs.length->ks.length=rs.length->(∀(y m:Nat) (r:List Vl),ms[y]?=some m->rs[y]?=some r->g[m]?=some (.S (r.map KN)))->(∀(y m:Nat) (r:List Vl),ks[y]?=some m->rs[y]?=some r->g[m]?=some (.S (r.map KN)))->Jz (JB g) (ms.map U.ref) (ks.map U.ref)=some true
 |[],[],[],_,_,_,_=>rfl
 |r::rs,m::ms,k::ks,h1,h2,h3,h4=>by
  have a1:=h3 0 m r rfl rfl;have a2:=h4 0 k r rfl rfl;have ih:=nq (rs:=rs) (ms:=ms) (ks:=ks) (by simpa using h1) (by simpa using h2) (λy m r b a=>h3 (y+1) m r (by simpa using b) (by simpa using a)) λy m r b a=>h4 (y+1) m r (by simpa using b) (by simpa using a)
  simp![YG,Jz,ih,JB,AM,a1,a2,Se,XW,nu,QT]
def qG{ms ks:List Nat}{rs:List (List Vl)}(d:X3 g n ms rs)(c:X3 g m ks rs):JE .eq (.ref n) (.ref m) g=some true:=by
 have l1:=d.len;have b:=c.len;have q:=nq l1 b d.row c.row;simp![JE,AM,d.at_,c.at_,JC];cases ms with
 |nil=>cases ks with
  |nil=>rfl
  |cons k ks=>simp at l1 b;omega
 |cons a ms=>cases ks with
  |nil=>simp at l1 b;omega
  |cons k ks=>
   have:JA ((a::ms).map U.ref) ((k::ks).map U.ref)=none:=by
    unfold JA;rw[XW (by rw[Yk,Yk,l1,b])]
    rfl
   rw[this];simp![Yk,l1,b,XW,q]
def KR:Vl->Bool
 |.i _=>true
 |_=>false
def sF{v:Vl}(h:Q (.bl (KR v)) g):J6 L (d+1) 0 [KN v] g X Q:=by
 cases v with
 |i n=>refine ag #[2] #[2] ?_;simp![CU,KN];simp?;exact h
 |b c=>refine ag #[2] #[2] ?_;simp![CU,KN];simp?;exact h
 |n=>refine ag #[2] #[2] ?_;simp![CU,KN];simp?;exact h
def sf{i j s:Int}(a:small s)(h:BQ g ((AQ i j s).map uT) Q):J6 L (d+1) 2 [.int i,.int j,.int s] g X Q:=by
 simp? only[ES]
 simp?[a];unfold AQ at h;refine aq (λk1=>?_) λk1=>?_
 .have k2:(i+j) % 2=0:=by simpa using k1
  simp?[a];rw[XW k2]at h;exact h _ _ (Ie _) ar
 .have k2 : ¬ (i+j) % 2=0:=by simpa using k1
  simp?[a];rw[WV k2]at h;exact h _ _ (Ie _) ar
def xk(c:P.ok)(h:BQ g ((By P).map uT) Q):J6 L (d+2) 3 [Za P] g X Q:=by
 have r:=c.ss;have F:=tf c;have A:(Kv P.w).length<=3:=by rw[ai];rcases c.w with e|e|e<;>rw[e]<;>decide
 have C:(Kv P.d).length<=3:=by rw[ai];rcases c.d with e|e|e<;>rw[e]<;>decide
 have y:Ai P.w=true:=by rcases c.w with e|e|e<;>rw[e]<;>exact aE #[1] #[1]
 have u:Ai P.d=true:=by rcases c.d with e|e|e<;>rw[e]<;>exact aE #[1] #[1]
 have a:∀i,((Kv P.d).flatMap λj=>(AQ i j P.s).map uT).length<=6:=λi=>by
  have:=bK (f:=λj=>(AQ i j P.s).map uT) (B:=2) (l:=Kv P.d) λj _=>by rw[Yk,cZ];omega
  omega
 simp? only[E9]
 simp?[y];refine gu (Kv P.w) U.int (λi=>(Kv P.d).flatMap λj=>(AQ i j P.s).map uT) (λg'=>∃gs,g'=g++gs) 8 (λk g' _=>aH) (λi _=>Ib (a i) #[1]) (λi hi=>?_) _ 0 _ _ (Sf _) (by simp![TM];omega) ⟨[],by simp⟩ ?_
 .simp? [u]
  rintro g' ZW ⟨gs,rfl⟩ o;refine gu (Kv P.d) U.int (λj=>(AQ i j P.s).map uT) (λg'=>∃gs,g'=g++gs) 2 (λk g' _=>aH) (λj _=>by rw[Yk,cZ];omega) (λj G=>?_) _ 0 _ _ (Sf _) () ⟨gs,rfl⟩ ?_
  .simp?
   rintro g' ZW ⟨gs,rfl⟩ o;refine sf r λz n E e=>?_;simp?[e];refine abc (AQ i j P.s) uT (λ_=>true) uT (λg'=>g'=g++gs++z) ZW (λk g' e'=>by rw[e',bH e]) (λt D=>?_) (by rw[cZ];omega) rfl ?_
   .simp?
    rintro g' rfl;trivial
   .rintro g' rfl
    exact⟨by rw[dy],_,VC ..⟩
  .rintro g' ⟨gs,rfl⟩
   exact⟨rfl,_,rfl⟩
 .rintro g' ⟨gs,rfl⟩
  have e:([]++List.flatMap (λi=>List.flatMap (λj=>(AQ i j P.s).map uT) (Kv P.d)) (List.drop 0 (Kv P.w)))=(By P).map uT:=by
   simp[By,List.map_flatMap]
  rw[e];exact vm h (by rw[Yk];omega)
def jB{t:Zx}(h:Q (Ky (BI t)) g):J6 L (d+1) 4 [uT t] g X Q:=by
 have c:(2:Int)<Al:=by decide
 simp? only[E8]
 simp?[acS];unfold BI at h;refine aq (λk1=>?_) λk1=>?_
 .have b:(t.ax+t.bx) % 2=1:=by simpa using k1
  rw[XW (.inl b)]at h;simp?;exact h
 .have b : ¬ (t.ax+t.bx) % 2=1:=by simpa using k1
  simp?;refine aq (λk2=>?_) λk2=>?_
  .have a:(t.ay+t.bY) % 2=1:=by simpa using k2
   rw[XW (.inr a)]at h;simp?;exact h
  .have a : ¬ (t.ay+t.bY) % 2=1:=by simpa using k2
   rw[WV ()]at h
   simp?[c];exact h
def vQ{t:Zx}{m:Pt}(a:BI t=some m)(h:BQ g ((Ao t).map uT) Q):J6 L (d+2) 5 [uT t] g X Q:=by
 rw[gA a]at h;simp? only[E7]
 simp?;refine jB ?_;rw[a];simp?[Ky];exact h _ _ (Ie _) ar
def aby{a:List Zx}(e:g[n]?=some (.S (a.map uT)))(I:∀t∈a,AW 7 t=true)(H:(a.flatMap As).length<16770000)(h:BQ g ((a.flatMap As).map uT) Q):J6 L (d+3) 6 [.ref n] g X Q:=by
 simp? only[Fh]
 simp?[af e];obtain⟨B,C⟩:∃B:G,B=[]:=⟨_,rfl⟩;have A:(a.flatMap As).length<16770000:=H;refine ab4 (λm Z g'=>∃(T W:List Zx) (gs:G) (o:Option U),T++W.reverse.flatMap As=a.flatMap As/\(W.flatMap As).length=m/\(∀t∈W,AW 7 t=true)/\g'=(g ++ .S (T.map uT)::(B ++ .S (W.map uT)::gs))/\Z=[some (.ref n),some (.ref (g).length),some (.ref ((g).length+1+(List.length B))),o]) ?_ (a.reverse.flatMap As).length _ _ ⟨[],a.reverse,[],none,by simp,rfl,λt j=>I t (List.mem_reverse.mp j),by simp[C],by simp[C]⟩
 rintro m Z g' ⟨T,W,gs,o,hT,hm,u,rfl,rfl⟩;rcases List.eq_nil_or_concat W with P|⟨W',t,rfl⟩
 .subst P
  have O:T=a.flatMap As:=by simpa using hT
  have g2:(g ++ .S (T.map uT)::(B ++ .S []::gs))[(g).length+1+(List.length B)]?=some (.S []):=dA;simp?[g2,RG,TM,Int.natCast_zero];rw[O];refine h _ _ (Ie _) jv
 .have j:AW 7 t=true:=u t #[3]
  have k:T++([t]++((Ao t).flatMap As++W'.reverse.flatMap As))=a.flatMap As:=by
   rw[<-hT];simp[jf j]
  have VD:(W'.flatMap As).length+(1+((Ao t).flatMap As).length)=m:=by
   rw[<-hm];simp![List.concat_eq_append,R8,Sh,List.flatMap_nil,TJ,W9,jf j,Wa];omega
  have z:T.length+1<=(a.flatMap As).length:=by rw[<-k];simp![W9,Wa,TM];omega
  have y:W'.length<=(a.flatMap As).length:=by
   have N:W'.reverse.length<=(W'.reverse.flatMap As).length:=jl λx _=>uk x;rw[R7]at N;rw[<-k];simp![W9,Wa,TM];omega
  have F:(W'.concat t).map uT=W'.map uT++[uT t]:=by simp
  have g2:(g ++ .S (T.map uT)::(B ++ .S (W'.map uT++[uT t])::gs))[(g).length+1+(List.length B)]?=some (.S (W'.map uT++[uT t])):=dA;have D:(g ++ .S (T.map uT)::(B ++ .S (W'.map uT)::gs))[(g).length]?=some (.S (T.map uT)):=jv;have pop:A5 ((g).length+1+(List.length B)) (g ++ .S (T.map uT)::(B ++ .S (W'.map uT++[uT t])::gs))=.ok (uT t) (g ++ .S (T.map uT)::(B ++ .S (W'.map uT)::gs)):=by
   rw[uM g2,iZ]
  have app:AY (g).length (uT t) (g ++ .S (T.map uT)::(B ++ .S (W'.map uT)::gs))=.ok .ZR (g ++ .S ((T++[t]).map uT)::(B ++ .S (W'.map uT)::gs)):=by
   rw[b9 D (by rw[Yk];omega),u7];simp
  have K:(g ++ .S ((T++[t]).map uT)::(B ++ .S (W'.map uT)::gs))[(g).length+1+(List.length B)]?=some (.S (W'.map uT)):=dA;have V:decide ((0:Int)<((W'.map uT).length+1:Nat))=true:=by simp;try omega
  have r:(0:Int)<((W'.map uT).length+1:Nat):=by omega
  rw[F];simp?[g2,yx,W9,r,pop,D,app];refine jB ?_;cases w:BI t with
  |none=>
   simp?[Ky,Ax];exact⟨(W'.flatMap As).length,by omega,T++[t],W',gs,_,by rw[<-k,sv w];simp,rfl,λx c=>u x (by simp[c]),rfl,rfl⟩
  |some q=>
   simp?[Ky,Ax,K];refine vQ w λf R WI E=>?_;rw[fA]at E ⊢;simp?[E];rw[fA];have J:(g ++ .S ((T++[t]).map uT)::(B ++ .S (W'.map uT)::(gs++f++[.S ((Ao t).map uT).reverse])))[(g).length+1+(List.length B)]?=some (.S (W'.map uT)):=dA;have M:(g ++ .S ((T++[t]).map uT)::(B ++ .S (W'.map uT)::(gs++f++[.S ((Ao t).map uT).reverse])))[(List.length (g ++ .S ((T++[t]).map uT)::(B ++ .S (W'.map uT)::(gs++f))))]?=some (.S ((Ao t).map uT).reverse):=by
    rw[<-fA];exact ar
   have Y:(Ao t).length<=2:=by rw[gA w];simp[D2]
   have ext:BB ((g).length+1+(List.length B)) (.ref (List.length (g ++ .S ((T++[t]).map uT)::(B ++ .S (W'.map uT)::(gs++f))))) (g ++ .S ((T++[t]).map uT)::(B ++ .S (W'.map uT)::(gs++f++[.S ((Ao t).map uT).reverse])))=.ok .ZR (g ++ .S ((T++[t]).map uT)::(B ++ .S ((W'++(Ao t).reverse).map uT)::(gs++f++[.S ((Ao t).map uT).reverse]))):=by
    rw[ud J M (by rw[Yk,R7,Yk];omega),iZ]
    simp
   simp?[ext];refine⟨((W'++(Ao t).reverse).flatMap As).length,?_,T++[t],W'++(Ao t).reverse,_,_,?_,rfl,λx c=>?_,rfl,rfl⟩
   .rw [R8,W9,gB];omega
   .rw [<-k];simp
   .rcases U8.mp c with c|c
    .exact u x (by simp[c])
    .exact il 6 x (hJ j (List.mem_reverse.mp c))
def vp(a:P.ok)(h:BQ g ((Bh P).map uT) Q):J6 L (d+4) 7 [Za P] g X Q:=by
 have r:=(gP a).2;simp? only[E6]
 simp?;refine xk a λgs n o e=>?_;simp?;refine aby e (λt f=>uA a f) (by show(Bh P).length<_;omega) λu k j c=>?_
 simp?;rw[VC]at c ⊢;exact h _ _ (Ib #[3] j) c
def sj{v:Vl}(h:KQ v=true->Q .ZR g)(hx:KQ v=false->X 0 [u,KN v] g):J6 L (d+2) 8 [u,KN v] g X Q:=by
 simp? only[ER]
 simp?;refine sF ?_;cases v with
 |i n=>
  simp![KR,KN];simp?;refine aq (λk=>?_) λk=>?_
  .simp?
   exact hx (by simp![KQ];simp at k;simp;omega)
  .simp?
   refine aq (λk2=>?_) λk2=>?_
   .simp?
    exact hx (by simp![KQ];simp at k2;simp;omega)
   .simp?
    exact h (by simp![KQ];simp at k k2;simp;omega)
 |b c=>simp![KR,KN];simp?;exact hx rfl
 |n=>simp![KR,KN];simp?;exact hx rfl
def gE{m:Int}(a:g[n]?=some (.S M))(h:(M.length:Int)=m->Q .ZR g)(hx:(M.length:Int)≠m->X 1 [.int M.length] g):J6 L (d+1) 9 [.ref n,.int m] g X Q:=by
 simp? only[EW]
 simp?[a];refine aq (λk=>?_) λk=>?_
 .have k : ¬ (M.length:Int)=m:=by simpa using k
  simp?[a];exact hx k
 .have k:(M.length:Int)=m:=by simpa using k
  simp?;exact h k
def bN{l:List α}{k:Nat}{a:α}(h:l[k]?=some a):l.drop k=a::l.drop (k+1):=by
 let⟨hk,e⟩:=Yi.mp h;rw[Rm hk,e]
def sH{ms:List Nat}{rs:List (List Vl)}(S:P.ok)(N:X3 g n ms rs)(H:rs.length<=100)(hr:∀r∈rs,r.length<=100)
  (h:AH P rs=none ->∀ps:List Pt,ps.Nodup->(∀p,p∈ps↔A2 P p=true)->Q (.ref g.length) (g++[.ZJ (KG Ap (Be (hT rs)) ps)]))
  (W:∀k:Nat,AH P rs=some (.inl k)->X 1 [.int k] g) (h2:∀c,AH P rs=some (.inr c) ->∀gs,X 0 [uP c.1,KN c.2] (g++gs)):J6 L (d+3) 10 [Za P,.ref n] g X Q:=by
 have s1:=S.ss;have Um:=S.ws;have YE:=S.ds;have J:=N.at_;have ln:=N.len;simp? only[E1]
 simp?[s1];refine gE J (λz=>?_) (λz=>?_)
 rotate_left
 .rw [Yk,ln]at z ⊢
  exact W _ (by unfold AH;rw[WV ()])
 rw[Yk,ln]at z;have M:AH P rs=match AX (P.w*P.s+1).toNat rs with
  |some k=>some (.inl k)
  |none=>(A1 0 rs).map .inr:=by unfold AH;rw[XW ()]
 simp?[J];refine aX (ms.map U.ref) (λk Z g'=>g=g'/\AX (P.w*P.s+1).toNat rs=AX (P.w*P.s+1).toNat (rs.drop k) /\∃o,Z=[some (Za P),some (.ref n),some (.int P.w),some (.int P.d),some (.int P.s),o,none,none,none,none]) (λk Z g' f=>by rw[<-f.1];exact bH J) ⟨rfl,rfl,_,rfl⟩ (λk u Z g' hk f=>?_) (λZ g' f=>?_)
 .obtain ⟨rfl,G,o,rfl⟩:=f
  simp![Xj,Yn]at hk;let⟨m,I,rfl⟩:=hk;have T:k<rs.length:=by rw[<-ln];exact(Yi.mp I).1
  have D:=Yr T;rw[bN D]at G;simp?[s1];refine gE (N.row k m _ I D) (λz=>?_) (λz=>?_)
  .rw [Yk]at z
   simp?;refine⟨?_,_,rfl⟩;rw[G,AX,XW ()]
  .rw [Yk]at z ⊢
   exact W _ (by rw[M,G,AX,WV ()])
 .obtain ⟨rfl,G,o,rfl⟩:=f
  rw[Yk,ln,Sm]at G;have hW:=c9 G;rw[G]at M;simp?[af J];refine aX (KH (ms.map U.ref)) (λk Z g'=>A1 0 rs=A1 k (rs.drop k)/\(∀r∈rs.take k,∀v∈r,KQ v=true) /\∃(ps:List Pt) (KJ o2 A y:Option U),g'=g++[.ZJ (KG Ap (Be (hT rs)) ps)]/\ps.length<=k*25/\ps.Nodup/\(∀p:Pt,p∈ps↔0<=p.1/\p.1<=P.w*P.s/\0<=p.2/\p.2<k)/\Z=[some (Za P),some (.ref n),some (.int P.w),some (.int P.d),some (.int P.s),KJ,some (.ref g.length),o2,A,y]) (λk Z g' f=>?_) ⟨rfl,by simp,[],_,_,_,_,rfl,by simp,Qd,λp=>by simp;try omega,rfl⟩ (λk u Z g' hk f=>?_) (λZ g' f=>?_)
  .obtain ⟨_,_,ps,KJ,o2,A,y,rfl,_⟩:=f
   exact jh (af J)
  .obtain ⟨C,V,ps,KJ,o2,A,y,rfl,H,F,t,rfl⟩:=f
   rw[eZ]at hk;simp![Xj,Option.map_map,Yn,Function.comp]at hk;let⟨m,I,rfl⟩:=hk;have T:k<rs.length:=by rw[<-ln];exact(Yi.mp I).1
   have D:=Yr T;have hrl:=hW _ (WG D);have Y:=N.row k m _ I D;rw[bN D,A1]at C;simp?[af Y];refine aX (KH (rs[k].map KN)) (λj Z g'=>AZ k 0 rs[k]=AZ k j (rs[k].drop j)/\(∀v∈rs[k].take j,KQ v=true) /\∃(ps:List Pt) (A y:Option U),g'=g++[.ZJ (KG Ap (Be (hT rs)) ps)]/\ps.length<=k*25+j/\ps.Nodup/\(∀p:Pt,p∈ps↔0<=p.1/\p.1<=P.w*P.s/\0<=p.2/\(p.2<k\/p.2=k/\p.1<j))/\Z=[some (Za P),some (.ref n),some (.int P.w),some (.int P.d),some (.int P.s),some (.ref m),some (.ref g.length),some (.int k),A,y]) (λj Z g' f=>?_) ⟨rfl,by simp,ps,_,_,rfl,by omega,F,λp=>by rw[t];omega,rfl⟩ (λj u Z g' R f=>?_) (λZ g' f=>?_)
   .obtain ⟨_,_,ps,A,y,rfl,_⟩:=f
    exact jh (af Y)
   .obtain ⟨B,K,ps,A,y,rfl,H,F,t,rfl⟩:=f
    rw[eZ]at R;simp![Xj,Option.map_map,Yn,Function.comp]at R;let⟨v,O,rfl⟩:=R;have hjl:j<rs[k].length:=(Yi.mp O).1;rw[bN O,AZ]at B;simp?;refine sj (λz=>?_) (λz=>?_)
    rotate_left
    .rw [z,WV #[1]]at B
     rw[B]at C;have:=h2 (((j:Int),(k:Int)),v) (by rw[M,C];rfl) [.ZJ (KG Ap (Be (hT rs)) ps)]
     exact this
    rw[z,XW rfl]at B;let⟨i,rfl,i1,i2⟩:=qo z;have new:((j:Int),(k:Int)) ∉ ps:=λz=>by have:=(t _).mp z;simp only at this;omega
    have hh:(U.int i)=.int (hT rs ((j:Int),(k:Int))):=by rw[qr D O]
    have sb:∀Z,subAt (.ref g.length) (.ZZ [.int (j:Int),.int (k:Int)]) (.int i) Z (g++[.ZJ (KG Ap (Be (hT rs)) ps)])=.ok (.nx Z) (g++[.ZJ (KG Ap (Be (hT rs)) (ps++[((j:Int),(k:Int))]))]):=λZ=>by
     rw[hh,eN ar cM (by simp![KG,Yk];omega),jy (λa b=>cC) new,u9]
     simp
    simp![KN];simp?[sb];refine⟨B,λw E=>?_,_,_,_,rfl,by simp;omega,uI F new,λp=>?_,rfl⟩
    .rw [Rw,O]at E
     rcases U8.mp E with E|E
     .exact K w E
     .simp at E;rw[E];exact z
    .rw [U8,UE,t,Prod.ext_iff]
     simp only;omega
   .obtain ⟨B,K,ps,A,y,rfl,H,F,t,rfl⟩:=f
    rw[kH,Yk]at H t B K;rw[Sm]at B;rw[B]at C;rw[RJ]at K;simp?;refine⟨C,λr Wc=>?_,ps,_,_,_,_,rfl,by omega,F,λp=>by rw[t];omega,rfl⟩
    rw[Rw,D]at Wc;rcases U8.mp Wc with z|z
    .exact V r z
    .simp at z;rw[z];exact K
  .obtain ⟨C,V,ps,KJ,o2,A,y,rfl,H,F,t,rfl⟩:=f
   rw[kH,Yk,ln]at H t C;rw[Sm]at C;simp?;exact h (by rw[M,C];rfl) ps F λp=>by rw[t,gW];omega
def kY(t:Zx):keyOf (uT t)=some (FT t):=rfl
def ix1{l:G}{a b:Z6}:(g++a::b::l)[g.length+1]?=some b:=by
 rw[XN (),Qu]
 rfl
def rZ{ms:List Nat}{rs:List (List Vl)}(i:P.ok)(v:X3 g n ms rs)(o:rs.length<=100)(l:∀r∈rs,r.length<=100)
  (h:AH P rs=none ->∀gs,Tv (g++gs) g.length P (hT rs)->Q .ZR (g++gs))
  (s:∀(k:Nat) gs,AH P rs=some (.inl k)->X 1 [.int k] (g++gs)) (q:∀c gs,AH P rs=some (.inr c)->X 0 [uP c.1,KN c.2] (g++gs)):J6 L (d+5) 11 [.ref g.length,Za P,.ref n] (g++[.ins 211529932 []]) X Q:=by
 have l1:(g++[Z6.ins 211529932 []]).length=g.length+1:=by simp
 simp? only[EM]
 simp?;refine sH i v.app o l (λf ps nd w=>?_) (λk f=>s k _ f) (λc f gs=>by rw[VC];exact q c _ f)
 simp?[cB,jb,VC,l1,W9];refine vp i λgs x C j=>?_;simp?[j];refine gj (Bh P) uT (λ_=>true) (λt=>.ZZ [uT t,.ZR]) (λg'=>g'=_) ((Bh P).map λt=>.ZZ [uT t,.ZR]) (by rw[dy]) (λk g' e=>by rw[e];exact bH j) (λt y=>?_) (by have:=(gP i).2;omega) rfl ?_
 .simp?
  rintro g' rfl;simp?[kY]
 .rintro g' rfl
  let⟨z,u,B,A⟩:=iz FT uT kY .ZR (Bh P) [];simp?[u,cB,jb,VC,W9];exact h f _ ⟨_,_,_,_,_,_,cB,ix1,λp m=>fP (key:=Ap) (λa b=>cC) ((w p).mpr m)⟩
def sJ{v:Nat}{H:Ht}(i:P.ok)(D:Tv g v P H)(h:∀(gs:G) (n:Nat) (ms:List Nat),RowsM (g++gs) n ms P H->(∀k∈n::ms,g.length<=k)->Q (.ref n) (g++gs)):J6 L (d+1) 12 [.ref v] g X Q:=by
 let⟨r,I,M,N,F,hk,h1,h2,A⟩:=D.ex;unfold Er at h1;have s1:=i.ss;have O:=i.ws;have J:=i.ds;have o:Ai (P.w*P.s+1)=true:=aE () ()
 have l:Ai (P.d*P.s+1)=true:=aE () ()
 simp? only[EX]
 simp?[h1,s1,l];refine rR ((Kv (P.d*P.s+1)).map U.int) (λk ZW g'=>∃(ms:List Nat) (gs:G),g'=g++gs/\ZW=ms.map U.ref/\ms.length=k/\(∀m∈ms,g.length<=m) /\∀(y m:Nat),ms[y]?=some m->g'[m]?=some (.S ((Kv (P.w*P.s+1)).map λx=>.int (H (x,(y:Int)))))) (λk ZW g' _=>aH) (λk u ZW j=>?_) (by rw[Yk,ai];omega) ⟨[],[],by simp,rfl,rfl,by simp,λy m e=>by simp at e⟩ (λvs g' t q=>?_)
 .simp only [Xj,Yn]at j
  let⟨y,b,rfl⟩:=j;let⟨rfl,K⟩:=bq b;simp?;rintro g' ⟨ms,gs,rfl,rfl,a,f,hm⟩;simp?[af h1,s1,o];refine gj (Kv (P.w*P.s+1)) U.int (λ_=>true) (λx=>.int (H (x,(k:Int)))) (λg'=>g'=g++gs) ((Kv (P.w*P.s+1)).map λx=>.int (H (x,(k:Int)))) (by rw[dy]) (λk g' _=>aH) (λx p=>?_) (by rw[ai];omega) rfl ?_
  .have W3:=dE.mp p
   have C:AJ (.ZZ [.int x,.int (k:Int)]) (.ref r) (g++gs)=some (some (.int (H (x,(k:Int))))):=by
    rw[uB (af h2) cM,A (x,(k:Int)) (iU ⟨by omega,by omega,by omega,by omega⟩)]
   simp?;rintro g' rfl;simp?[af h1,C,id]
  .rintro g' rfl
   refine⟨by rw[Yk,ai];omega,?_⟩
   refine⟨ms++[(g++gs).length],gs++[.S ((Kv (P.w*P.s+1)).map λx=>.int (H (x,(k:Int))))],by simp,by simp,by simp[a],λm E=>(U8.mp E).elim (f m) (λz=>by rw[UE.mp z];simp),λy m e=>?_⟩
   rcases QG y ms.length with c|c
   .rw [Xe c]at e
    exact af (hm y m e)
   .have B:y=ms.length:=by
     have:=(Yi.mp e).1;simp at this;omega
    subst B;rw[a];simp at e;subst e;simp
 .obtain ⟨ms,gs,rfl,rfl,a,f,hm⟩:=t
  rw[Yk,ai]at a;refine⟨by rw[Yk];omega,?_⟩
  rw[VC];refine h _ _ ms ⟨by rw[<-VC];exact ar,a,λy m e=>?_,λz=>?_⟩ λk hk=>?_
  .rw [<-VC]
   exact af (hm y m e)
  .obtain ⟨y,b⟩:=T3 z
   exact U_ _ (Yi.mp (hm y _ b)).1
  .rcases Xl.mp hk with rfl|hk
   .simp
   .exact f k hk
def sx{i:Int}(h:Q (.bl true) g):J6 L (d+1) 13 [.int i] g X Q:=by
 simp? only[Ck]
 simp?;exact h
def sh{v:Vl}(h:Q (.bl (KR v)) g):J6 L (d+1) 13 [KN v] g X Q:=by
 cases v with
 |i n=>refine ag #[2] #[2] ?_;simp![Ck,KN];simp?;exact h
 |b c=>refine ag #[2] #[2] ?_;simp![Ck,KN];simp?;exact h
 |n=>refine ag #[2] #[2] ?_;simp![Ck,KN];simp?;exact h
def gI(n:Nat):∀(D:Dt) (u v:U) (Q:U->G->Prop),D.ok n->Rep g D u->Rep g D v->Q (.bl true) g->J6 L (d+n+1) 14 [u,v] g X Q:=by
 induction n with
 |zero=>intro D u v Q E;exact E.elim
 |succ n ih=>
  intro D u v Q E r j h;refine(ni (d:=d+(n+1)) #[2] #[2]).2 ?_
  simp![E2];have list:∀(ds:List Dt) (M vs:List U),(∀D∈ds,D.ok n)->Reps g ds M->Reps g ds vs->items u g=some M->items v g=some vs ->∀N:Fl->G->Prop,(∀Z,N (.nx Z) g)->Ke L (d+(n+1)) (.nm 2) (.YY 0 (vs.length:Int).toNat) 0 [.Zs (.not (.call 14 [.idx (.O 0) (.O 2),.idx (.O 1) (.O 2)])) [.ret (.Z0 (.bl false))] []] [some u,some v,none] g X N:=λds M vs C c f W V N H=>by
   refine b6 ((Kv (vs.length:Int)).map U.int) (λk Z g'=>g'=g /\∃o,Z=[some u,some v,o]) (λk Z g' _=>aH) (λk w Z g' hk I=>?_) (λZ g' I=>by rw[I.1];exact H Z) _ 0 _ _ (Sf _) ⟨rfl,none,rfl⟩
   let⟨rfl,o,rfl⟩:=I;simp![Xj,Yn]at hk;let⟨i,hi,rfl⟩:=hk;have VY:=dE.mp (WG hi);have y:=c.length;have t:=f.length;have J:ds[i.toNat]?=some ds[i.toNat]:=Yr ()
   let⟨a,ea,T⟩:=c.get J;let⟨b,Y,R⟩:=f.get J;have P:JG M i=some a:=by rw[cI VY.1 (),ea]
   have Kz:JG vs i=some b:=by rw[cI VY.1 (),Y]
   simp![↓qv,↓nr,↓lU,↓gf,↓gw,↓rK,↓dJ,↓aci,↓abW,↓acm,↓acx,↓pN,↓oQ,↓acB,↓abK,↓qV,↓acs,↓qU,↓yR,↓rL,↓rO,↓ka,↓j9,↓jZ,↓jQ,↓aaJ,↓acN,↓KV_c,↓KV_n,↓rS,↓k_E,↓rJ,↓KB_s,↓rG,↓qb,↓qK,↓aaM,↓kR,↓kT,↓kJ,↓pz,↓rV,↓km,↓kB,↓pL,↓aaK,↓z6,↓aa4,↓aaY,↓wZ,↓lT,↓pZ,↓acJ,↓acO,↓acD,↓qi,↓lB,↓pS,↓oo,↓pQ,↓l0,↓oS,↓lr,↓qH,↓aay,↓nI,↓mq,↓nh,↓aah,↓nJ,↓pC,↓oa,↓nT,↓nk,↓pI,↓v8,↓j8,↓lL,↓pY,↓jK,↓k7,↓nD,↓oY,↓mP,↓oF,↓lW,↓ny,↓oi,↓m9,↓zW,↓mf,↓lC,↓nK,↓abg,↓nt,↓nS,↓pj,↓oj,↓aau,↓lZ,↓lY,↓qh,↓nY,↓abh,↓oE,↓lH,↓oW,↓mz,↓zy,↓nM,↓lK,↓oJ,↓rC,↓rN,↓lQ,↓qg,↓rW,↓kS,↓qL,↓qS,↓qC,↓pK,↓me,↓o9,↓lx,↓lz,↓abo,↓oG,↓vL,↓jL,↓abU,↓n4,↓zA,↓aaz,↓xv,↓yK,↓aaS,↓aaj,↓za,↓yG,↓yj,↓abI,↓wY,↓oy,↓j4,↓aba,↓aaF,↓xZ,↓ya,↓j3,↓my,↓nG,↓y2,↓zu,↓wW,↓yr,↓xt,↓yg,↓xm,↓zr,↓nz,↓qy,↓nR,↓kI,↓acq,↓aaG,↓xR,↓aa9,↓zN,↓zJ,↓yW,↓zx,↓yq,↓jS,↓kD,↓xj,↓xI,↓kX,↓mQ,↓lE,↓aa8,↓lG,↓ph,↓l7,↓nW,↓oK,↓mr,↓lV,↓oC,↓mU,↓nU,↓qz,↓mh,↓pJ,↓oz,↓mw,↓mL,↓aal,↓lg,↓nZ,↓lu,↓jY,↓mv,↓nN,↓pv,↓k8,↓pH,↓rg,↓qk,↓qW,↓oM,↓rl,↓om,↓nB,↓lX,↓l8,↓oH,↓lP,↓mH,↓ng,↓mZ,↓ma,↓lO,↓lI,↓ll,↓lD,↓lA,↓nL,↓nP,↓oP,↓qJ,↓qc,↓pA,↓qZ,↓o8,↓n8,↓rj,↓pd,↓oZ,↓kA,↓ql,↓rQ,↓pB,↓rA,↓oR,↓qF,↓pV,↓l9,↓pR,↓nV,↓lN,↓pX,↓rP,↓oN,↓oO,↓qj,↓rD,↓m8,↓nA,↓n0,↓nH,↓oB,↓qT,↓qY,↓rB,↓qQ,↓qO,↓qA,↓pP,perm,pick,AD,Se,BM,Bw,Bb,Cd,Vc,List.lookup_nil,Nat.reduceBEq,Rq,List.contains_nil,FL,List.getElem?_cons_zero,SX,Wa,TM,List.set_cons_zero,List.set_cons_succ,YG,Rj,List.replicate_succ,List.replicate_zero,SR,QJ,Sf,Nat.reduceAdd,Nat.reduceSub,Nat.reduceLT,Nat.reduceLeDiff,Nat.reduceEqDiff,Nat.lt_add_left_iff_pos,JN,Ae,bindL,TL,Td,ite_true,ite_false,and_true,true_and,Option.getD_some,dR,dW,n5,kL,jH,ke,qR,oX,rp,qq,mV,i4,qX,rM,qP,cin,rH,qD,k6,Bool.or_false,QX,Bool.true_or,QS,clt,cle,cgt,cge,GP,JF,Ci,Cj,JK,Ax,lift,JJ,C2,D1,Cr,alloc,AR,eU,Ac,pG,pU,pO,pb,qe,rE,Au,Cy,Vw,Int.reduceLT,Int.reduceLE,Int.reduceNeg,Int.reduceEq,decide_true,decide_false,Qn,Bool.not_false,Bool.and_true,RP,QT,XE,QZ,W,V,P,Kz];refine ih _ a b _ (C _ (WG J)) T R ?_;simp?;exact⟨_,rfl⟩
  cases D with
  |ZR=>cases r;cases j;simp?;exact h
  |bl b=>cases r;cases j;simp?;cases b<;>exact h
  |int i=>
   cases r;cases j;simp?;refine sx (d:=d+n) ?_;simp?;simpa using h
  |str s=>cases r;cases j;simp?;simpa using h
  |ZZ ds=>
   let⟨M,rfl,c⟩:=r;let⟨vs,rfl,f⟩:=j;have y:=c.length;have t:=f.length;let⟨z,C⟩:=Dt.Tz.mp E;have K:(M.length:Int)=vs.length:=by omega
   have F:Ai (vs.length:Int)=true:=aE () ()
   simp?[K,F];refine list ds M vs C c f rfl rfl _ λZ=>?_;simp?;exact h
  |S ds=>
   let⟨n1,M,rfl,B,c⟩:=r;let⟨n2,vs,rfl,A,f⟩:=j;have y:=c.length;have t:=f.length;let⟨z,C⟩:=Dt.Tx.mp E;have K:(M.length:Int)=vs.length:=by omega
   have F:Ai (vs.length:Int)=true:=aE () ()
   simp?[K,F,B,A];refine list ds M vs C c f (by simp![items,B]) (by simp![items,A]) _ λZ=>?_
   simp?;exact h
def sR(ns:List Int)(h:∀zs:List Int,Q (.ref 2) [.S (zs.map U.int),.S (zs.map U.int),Bn 1 0 7]):J6 L (d+1) 15 [.Zv (ns.map U.int)] [] X Q:=by
 simp? only[E5]
 simp?[CN];have a:A9 (ns.map U.int) none (some 63)=(EC ns none (some 63)).map U.int:=w8 ns _ _;simp?[a,Bn];exact h _
def aw{m:Int}(K:Bag g)(f:0<m)(J:m<1000000000000)(h:∀(r:Int) (g':G),0<=r->r<m->Fr g g'->Q (.int r) g'):J6 L (d+1) 16 [.ref 2,.int m] g X Q:=by
 let⟨xs,at_,B,h1,h2⟩:=K;have l1:1<g.length:=(Yi.mp h1).1;have P:2<g.length:=(Yi.mp h2).1;have c:m<Al:=by unfold Al;omega
 have k:(2147483647:Int)<Al:=by decide
 have j:(64:Int)<Al:=by decide
 have H:small 48271:=bF #[1]
 have F:small 9973:=bF #[1]
 have s3:small 31:=bF #[1]
 have s4:small 69621:=bF #[1]
 simp? only[EZ]
 simp?[h1,h2,Bn];have N:∀a:Int,0<=a -> ¬ 1000000000000000000<=a->wpS L d [(.Zs (.cmp .ge (.O 4) (.ZT .pow (.Z0 (.int 10)) (.Z0 (.int 18)))) [(.sub (.O 2) (.ZT .mod (.O 3) (.bi .len [(.O 2)])) (.ZT .fdiv (.O 4) (.O 1))),(.ret (.ZT .mod (.O 4) (.O 1)))] []),(.sub (.O 0) (.Z0 (.int 1)) (.ZT .add (.O 3) (.Z0 (.int 1)))),(.sub (.O 0) (.Z0 (.int 2)) (.ZT .mod (.ZT .add (.ZT .add (.ZT .add (.ZT .mul (.idx (.O 0) (.Z0 (.int 2))) (.Z0 (.int 48271))) (.ZT .mul (.O 4) (.Z0 (.int 9973)))) (.ZT .mul (.O 3) (.Z0 (.int 31)))) (.Z0 (.int 11))) (.Z0 (.int 2147483647)))),(.ret (.ZT .mod (.ZT .fdiv (.ZT .mod (.ZT .mul (.idx (.O 0) (.Z0 (.int 2))) (.Z0 (.int 69621))) (.Z0 (.int 2147483629))) (.Z0 (.int 64))) (.O 1)))] [some (.ref 2),some (.int m),some (.ref 1),some (.int at_),some (.int a)] g X λt g=>Kk t (lk λu=>Q u g):=λa y w=>by
  have D:=bw (o':=Bn 1 (at_+1) B) h2;have o:=bw (o':=Bn 1 (at_+1) ((B*48271+a*9973+at_*31+11) % 2147483647)) D;have M : ¬ a<0:=by omega
  simp?[h1,h2,iY,M,w,c8 h2 (show(0:Int)<=1 by decide) #[3],H,F,s3,s4,f,c,k,j,show(1:Int).toNat=1 from rfl,D]
  simp?[c8 D (show(0:Int)<=2 by decide) #[3],H,F,s3,s4,f,c,k,j,show(2:Int).toNat=2 from rfl,o]
  exact h _ _ (QK _ ()) (Qg _ f) ((Fr.Tw ⟨xs,at_,B,h1,h2⟩ _ _).trans (Fr.Tw (Fr.Tw ⟨xs,at_,B,h1,h2⟩ _ _).Y_ _ _))
 have A:∀a:Int,0<xs.length->1000000000000000000<=a->wpS L d [(.Zs (.cmp .ge (.O 4) (.ZT .pow (.Z0 (.int 10)) (.Z0 (.int 18)))) [(.sub (.O 2) (.ZT .mod (.O 3) (.bi .len [(.O 2)])) (.ZT .fdiv (.O 4) (.O 1))),(.ret (.ZT .mod (.O 4) (.O 1)))] []),(.sub (.O 0) (.Z0 (.int 1)) (.ZT .add (.O 3) (.Z0 (.int 1)))),(.sub (.O 0) (.Z0 (.int 2)) (.ZT .mod (.ZT .add (.ZT .add (.ZT .add (.ZT .mul (.idx (.O 0) (.Z0 (.int 2))) (.Z0 (.int 48271))) (.ZT .mul (.O 4) (.Z0 (.int 9973)))) (.ZT .mul (.O 3) (.Z0 (.int 31)))) (.Z0 (.int 11))) (.Z0 (.int 2147483647)))),(.ret (.ZT .mod (.ZT .fdiv (.ZT .mod (.ZT .mul (.idx (.O 0) (.Z0 (.int 2))) (.Z0 (.int 69621))) (.Z0 (.int 2147483629))) (.Z0 (.int 64))) (.O 1)))] [some (.ref 2),some (.int m),some (.ref 1),some (.int at_),some (.int a)] g X λt g=>Kk t (lk λu=>Q u g):=λa y w=>by
  have ce:=wu (at_:=at_) y;have cl:(0:Int)<xs.length:=by omega
  let⟨m1,I⟩:=fY (at_:=at_) y;simp?[h1,h2,iY,w,Yk,cl,f,c,c8 h1 m1 (by simpa using I),<-List.map_set]
  exact h _ _ (QK _ ()) (Qg _ f) (Fr.set1 ⟨xs,at_,B,h1,h2⟩ _)
 have E:∀a:Int,(1000000000000000000<=a->0<xs.length)->0<=a->wpS L d [(.Zs (.cmp .ge (.O 4) (.ZT .pow (.Z0 (.int 10)) (.Z0 (.int 18)))) [(.sub (.O 2) (.ZT .mod (.O 3) (.bi .len [(.O 2)])) (.ZT .fdiv (.O 4) (.O 1))),(.ret (.ZT .mod (.O 4) (.O 1)))] []),(.sub (.O 0) (.Z0 (.int 1)) (.ZT .add (.O 3) (.Z0 (.int 1)))),(.sub (.O 0) (.Z0 (.int 2)) (.ZT .mod (.ZT .add (.ZT .add (.ZT .add (.ZT .mul (.idx (.O 0) (.Z0 (.int 2))) (.Z0 (.int 48271))) (.ZT .mul (.O 4) (.Z0 (.int 9973)))) (.ZT .mul (.O 3) (.Z0 (.int 31)))) (.Z0 (.int 11))) (.Z0 (.int 2147483647)))),(.ret (.ZT .mod (.ZT .fdiv (.ZT .mod (.ZT .mul (.idx (.O 0) (.Z0 (.int 2))) (.Z0 (.int 69621))) (.Z0 (.int 2147483629))) (.Z0 (.int 64))) (.O 1)))] [some (.ref 2),some (.int m),some (.ref 1),some (.int at_),some (.int a)] g X λt g=>Kk t (lk λu=>Q u g):=λa y w=>by
  by_cases C:1000000000000000000<=a
  .exact A a (y C) C
  .exact N a w C
 refine aq (λk1=>?_) λk1=>?_
 .have k1:0<xs.length:=by simpa using k1
  have cl:(0:Int)<xs.length:=by omega
  simp?[h1,Yk,cl,uU k1];refine aq (λk2=>?_) λk2=>?_
  .have z:=E (1-Dh xs at_) (λ_=>k1) (by simp![XE]at k2;omega)
   simp?[QZ]at z ⊢;exact z
  .have z:=E (Dh xs at_) (λ_=>k1) (by simp![Ru]at k2;omega)
   simp?[QZ]at z ⊢;exact z
 .have z:=E 0 (λz=>absurd z #[1]) #[1]
  simp?[QZ]at z ⊢;exact z
def BC:List Plan:=[⟨1,1,2⟩,⟨1,1,4⟩,⟨2,1,2⟩,⟨1,2,2⟩,⟨2,2,2⟩,⟨1,1,4⟩,⟨3,1,2⟩,⟨1,3,2⟩,⟨2,1,4⟩,⟨1,2,4⟩,⟨3,2,2⟩,⟨1,1,8⟩]
def wA{P:Plan}(h:P∈BC):P.ok:=by
 simp![BC,Xl,Uz,SG]at h;rcases h with rfl|rfl|rfl|rfl|rfl|rfl|rfl|rfl|rfl|rfl|rfl|rfl<;>exact⟨by simp,by simp,by simp⟩
def sm(a:Bag g)(h:∀(P:Plan) (g':G),P∈BC->Fr g g'->Q (Za P) g'):J6 L (d+2) 17 [.ref 2] g X Q:=by
 simp? only[EU]
 simp?;refine abt (af ar) ar #[1] ?_
 simp?;refine aw a.app.app.app #[1] #[1] λr c y w k=>?_
 have u:=k.get _ _ (by have:=a.len;simp![W9,Wa,TM];omega) ar
 let⟨P,t,o⟩:=dI (l:=BC) (f:=Za) y (by exact w)
 have j:c[(g++[Z6.S ((BC.take 6).map Za)]++[Z6.S ((BC.drop 6).map Za)]).length]?=some (.S (BC.map Za)):=u;have fr:Fr g c:=by
  refine Fr.trans ?_ k;rw[VC,VC];exact Fr.app a
 revert j;simp![W9,Wa,TM];intro j;simp?[j,o,W9];exact h P c t fr
def si(c:P.ok)(h:BQ g ((An P).map uP) Q):J6 L (d+1) 18 [Za P] g X Q:=by
 have h0:=c.s0;have h1:=c.ss;have hw:=c.ws;have hd:=c.ds;have q:Ai (P.w*P.s+1)=true:=aE () ()
 have p:Ai (P.d*P.s+1)=true:=aE () ()
 have r:=gG c;simp? only[EO]
 simp?[*];refine b6 ((Kv (P.w*P.s+1)).map U.int) (λk Z g'=>(∃KJ o2,Z=[some (Za P),some (.ref g.length),KJ,o2])/\g'=g++[.S ((((Kv (P.w*P.s+1)).take k).flatMap λx=>(Kv (P.d*P.s+1)).map λy=>((x,y):Pt)).map uP)]) (λk Z g' _=>aH) (λk u Z g' hk b=>?_) (λZ g' b=>?_) _ 0 _ _ (Sf _) ⟨⟨none,none,rfl⟩,rfl⟩
 .obtain ⟨⟨KJ,o2,rfl⟩,rfl⟩:=b
  simp![Xj,Yn]at hk;let⟨x,n,rfl⟩:=hk;simp?[*];refine b6 ((Kv (P.d*P.s+1)).map U.int) (λj Z g'=>(∃o2,Z=[some (Za P),some (.ref g.length),some (.int x),o2])/\g'=g++[.S (((((Kv (P.w*P.s+1)).take k).flatMap λx=>(Kv (P.d*P.s+1)).map λy=>((x,y):Pt))++(((Kv (P.d*P.s+1)).take j).map λy=>((x,y):Pt))).map uP)]) (λk Z g' _=>aH) (λj u Z g' i b=>?_) (λZ g' b=>?_) _ 0 _ _ (Sf _) ⟨⟨o2,rfl⟩,by simp⟩
  .obtain ⟨⟨o2,rfl⟩,rfl⟩:=b
   simp![Xj,Yn]at i;let⟨y,m,rfl⟩:=i;have v:=List.length_take_le k (Kv (P.w*P.s+1));have e:((((Kv (P.w*P.s+1)).take k).flatMap λx=>(Kv (P.d*P.s+1)).map λy=>((x,y):Pt))++(((Kv (P.d*P.s+1)).take j).map λy=>((x,y):Pt))).length<=700:=by
    have a1:=bK (f:=λx=>(Kv (P.d*P.s+1)).map λy=>((x,y):Pt)) (B:=25) (l:=(Kv (P.w*P.s+1)).take k) λa _=>by simp[ai];omega
    have o:((Kv (P.w*P.s+1)).take k).length<=25:=by rw[TY,ai];omega
    have t:=Nat.mul_le_mul_right 25 o;rw[W9,Yk,TY,ai];omega
   simp?[ar,sT (show(List.map uP ((((Kv (P.w*P.s+1)).take k).flatMap λx=>(Kv (P.d*P.s+1)).map λy=>((x,y):Pt))++(((Kv (P.d*P.s+1)).take j).map λy=>((x,y):Pt)))).length<16777000 by rw[Yk];omega)]
   refine⟨⟨_,rfl⟩,?_⟩;rw[Rw,m];simp
  .obtain ⟨⟨o2,rfl⟩,rfl⟩:=b
   simp?;refine⟨⟨_,_,rfl⟩,?_⟩;rw[Rw,n];simp
 .obtain ⟨⟨KJ,o2,rfl⟩,rfl⟩:=b
  simp?;refine h _ _ (Ie _) ?_;simp[An]
def sC{k:Int}(j:Bag g)(h:∀(v:Int) (g':G),-1000<=v->v<=1000->Fr g g'->Q (.int v) g'):J6 L (d+2) 19 [.ref 2,.int k] g X Q:=by
 simp? only[E3];simp?
 refine aq (λk1=>?_) λk1=>?_
 .simp?
  refine aw j.app #[1] #[1] λr a t o c=>?_
  have B:a[g.length]?=some (.S (([0,0,0,0,0,7,-5]:List Int).map U.int)):=c.get _ _ (by have:=j.len;omega) ar
  let⟨v,z,A⟩:=dI (l:=([0,0,0,0,0,7,-5]:List Int)) (f:=U.int) t (by exact o)
  have u : -1000<=v/\v<=1000:=by
   simp![Xl,Uz,SG]at z;omega
  have C:JG [U.int 0,U.int 0,U.int 0,U.int 0,U.int 0,U.int 7,U.int (-5)] r=some (.int v):=A;simp?[B,C];exact h v a u.1 u.2 (Fr.trans (Fr.app j) c)
 .simp?
  refine aq (λk2=>?_) λk2=>?_
  .simp?
   refine aw j #[1] #[1] λr a t o c=>?_
   simp?;exact h _ a () () c
  .simp?
   refine aq (λk3=>?_) λk3=>?_
   .simp?
    refine aw j #[1] #[1] λr a t o c=>?_
    simp?;exact h _ a () () c
   .simp?
    refine aq (λy=>?_) λy=>?_
    .simp?
     refine aw j #[1] #[1] λr a t o c=>?_
     have w:small 2000:=⟨by decide,by decide⟩
     simp?[w];exact h (r*2000-1000) a () () c
    .simp?
     exact h 0 g #[1] #[1] (Fr.refl j)
def s8{k:Nat}{p:Pt}(h:(An P)[k]?=some p):p ∉ (An P).take k:=by
 intro c;have hs:=r6 P;let⟨hk,e⟩:=Yi.mp h;let⟨j,d,b⟩:=List.mem_iff_getElem.mp c;rw[List.getElem_take]at b;have a:j<k:=by rw[TY]at d;omega
 have:=List.pairwise_iff_getElem.mp hs j k () hk a
 rw[b,e]at this;exact wm this
def r9(M:P.ok)(hb:Bag g)(h:∀(H:Ht) (m:Nat) (g':G),KI P H->Fr g g'->g.length<=m->g'[m]?=some (.ZJ (KG Ap (λp=>.int (H p)) (An P)))->Q (.ref m) g'):J6 L (d+3) 20 [.ref 2,Za P] g X Q:=by
 have hl:=gG M;have Um:=M.ws;have YE:=M.ds;simp? only[EN]
 simp?;refine aw hb #[1] #[1] λkd g1 k0 k1 f1=>?_
 simp?;refine aw f1.Y_ #[1] #[1] λW g2 a0 a1 f2=>?_
 simp?;refine aw f2.Y_ #[1] #[1] λV j b0 b1 f3=>?_
 have Y:Fr g j:=(f1.trans f2).trans f3;have l3:=Y.len;have b3:=hb.len;simp?;refine si M λgs n hn e=>?_;have F4:Fr g (j++[Z6.ZJ []]++gs):=(Y.trans (Fr.app Y.Y_)).trans (Fr.app Y.Y_.app);have Zj:j.length<n:=by simp at hn;omega
 simp?[e];refine aX ((An P).map uP) (λk Z g'=>∃(H:Ht) (o:Option U),Fr g g'/\g'[n]?=some (.S ((An P).map uP))/\g'[j.length]?=some (.ZJ (KG Ap (λp=>.int (H p)) ((An P).take k)))/\(∀p,-1000<=H p/\H p<=1000)/\Z=[some (.ref 2),some (Za P),some (.int kd),some (.int (W-20)),some (.int (V-20)),some (.ref j.length),o]) (λk Z g' F=>?_) ⟨λ_=>0,none,F4,e,?_,λ_=>(by decide:(-1000:Int)<=0/\(0:Int)<=1000),rfl⟩ (λk u Z g' hk F=>?_) (λZ g' F=>?_)
 .obtain ⟨H,o,_,e,_⟩:=F
  exact bH e
 .exact af (by simp[KG])
 .obtain ⟨H,o,fr,el,T,N,rfl⟩:=F
  simp![Xj,Yn]at hk;let⟨p,K,rfl⟩:=hk;have YW:=gW.mp (gH.mp (WG K));have WS:k<(An P).length:=(Yi.mp K).1;have new:=s8 K;have et:(An P).take (k+1)=(An P).take k++[p]:=by rw[Rw,K];rfl
  simp?;refine sC fr.Y_ λv O v0 v1 f5=>?_;have t:=f5.get _ _ () T
  have I:=f5.get _ _ () el
  have ln:(KG Ap (λp=>U.int (H p)) ((An P).take k)).length<16777000:=by simp![KG,Yk,TY];omega
  have sb:∀Z,subAt (.ref j.length) (.ZZ [.int p.1,.int p.2]) (.int v) Z O=.ok (.nx Z) (O.set j.length (.ZJ (KG Ap (λq=>.int (if q=p then v else H q)) ((An P).take (k+1))))):=λZ=>by
   rw[eN t cM ln,et,jy (λa b=>cC) new];congr 4;funext q;split<;>rfl
  have UY:=fr.trans f5;have z:Fr g (O.set j.length (.ZJ (KG Ap (λq=>.int (if q=p then v else H q)) ((An P).take (k+1))))):=Fr.SY UY l3 ()
  have H6:∀q,-1000<=(if q=p then v else H q)/\(if q=p then v else H q)<=1000:=λq=>by
   split
   .exact ⟨v0,v1⟩
   .exact N q
  simp?[sb];refine aq (λc5=>?_) λc5=>?_
  .have z1:small (W-20):=i5 () ()
   have z2:small (V-20):=i5 () ()
   simp?[z1,z2];generalize E:List.set O j.length (Z6.ZJ (KG Ap (λq=>.int (if q=p then v else H q)) ((An P).take (k+1))))=g6 at z
   have ed6:g6[j.length]?=some (Z6.ZJ (KG Ap (λq=>.int (if q=p then v else H q)) ((An P).take (k+1)))):=by rw[<-E];exact bw t
   have el6:g6[n]?=some (.S ((An P).map uP)):=by rw[<-E,Wr ()];exact I
   refine aw z.Y_.app #[1] #[1] λr g7 r0 r1 R=>?_
   have e7:g7[g6.length]?=some (.S (([0,0,0,1]:List Int).map U.int)):=R.get _ _ (by have:=z.len;omega) ar
   let⟨w,hw,hu⟩:=dI (l:=([0,0,0,1]:List Int)) (f:=U.int) r0 (by exact r1)
   have hr:0<=w/\w<=1:=by
    simp![Xl,Uz,SG]at hw;omega
   have Uv:JG [U.int 0,U.int 0,U.int 0,U.int 1] r=some (.int w):=hu;have J:=R.get _ _ () (af (gs:=[.S [.int 0,.int 0,.int 0,.int 1]]) ed6)
   have el7:=R.get _ _ () (af (gs:=[.S [.int 0,.int 0,.int 0,.int 1]]) el6)
   have ln7:(KG Ap (λq=>U.int (if q=p then v else H q)) ((An P).take (k+1))).length<16777000:=by simp![KG,Yk,TY];omega
   obtain⟨y,D⟩:∃y,y=(W-20)*p.1+(V-20)*p.2+w:=⟨_,rfl⟩;have bv : -1000<=y/\y<=1000:=by
    have q1:=mi (a:=W-20) (b:=p.1) (A:=20) (B:=24) () ()
    have q2:=mi (a:=V-20) (b:=p.2) (A:=20) (B:=24) () ()
    omega
   have C:∀Z,subAt (.ref j.length) (.ZZ [.int p.1,.int p.2]) (.int y) Z g7=.ok (.nx Z) (g7.set j.length (.ZJ (KG Ap (λq=>.int (if q=p then y else H q)) ((An P).take (k+1))))):=λZ=>by
    rw[eN J cM ln7,u6 (λa b=>cC) (by rw[et];simp)]
    congr 4;funext q;by_cases c:q=p<;>simp[c]
   rw[D]at C;simp?[e7,Uv,C];rw[<-D];refine⟨_,_,Fr.SY ((z.trans (Fr.app z.Y_)).trans R) l3 (),?_,bw J,λq=>?_,rfl⟩
   .rw [Wr ()];exact el7
   .split
    .exact bv
    .exact N q
  .simp?
   refine⟨_,_,z,?_,bw t,H6,rfl⟩;rw[Wr ()];exact I
 .obtain ⟨H,o,fr,el,T,N,rfl⟩:=F
  simp?;rw[Yk,RJ]at T;exact h H _ g' (λp _=>N p) fr l3 T
def BP(P:Plan)(H:Ht):List (List Vl):=(Kv (P.d*P.s+1)).map λy=>(Kv (P.w*P.s+1)).map λx=>.i (H (x,y))
def sM{H:Ht}(D:P.ok)(N:Jy u g=some Z3)(A:∀p,A2 P p=true->Aq Z3 (Ap p)=some (.int (H p)))(h:∀(gs:G) (n:Nat) (ms:List Nat),X3 (g++gs) n ms (BP P H)->(∀k∈n::ms,g.length<=k)->Q (.ref n) (g++gs)):J6 L (d+1) 21 [Za P,u] g X Q:=by
 have s1:=D.ss;have Um:=D.ws;have YE:=D.ds;have M:Ai (P.w*P.s+1)=true:=aE () ()
 have K:Ai (P.d*P.s+1)=true:=aE () ()
 simp? only[EV]
 simp?[s1,K];refine aX ((Kv (P.d*P.s+1)).map U.int) (λk Z g'=>∃(ms:List Nat) (gs:G) (o:Option U),g'=g ++ .S (ms.map U.ref)::gs/\ms.length=k/\ms.Nodup/\(∀(y m:Nat),ms[y]?=some m->g.length<m/\g'[m]?=some (.S ((Kv (P.w*P.s+1)).map λx=>.int (H (x,(y:Int))))))/\Z=[some (Za P),some u,some (.ref g.length),o]) (λk Z g' _=>aH) ⟨[],[],_,rfl,rfl,Qd,λy m e=>by simp at e,rfl⟩ (λk Y Z g' J E=>?_) (λZ g' E=>?_)
 .obtain ⟨ms,gs,o,rfl,t,nd,f,rfl⟩:=E
  simp![Xj,Yn]at J;let⟨y,a,rfl⟩:=J;let⟨rfl,Wb⟩:=bq a;simp?[cB,s1,M];refine gj (Kv (P.w*P.s+1)) U.int (λ_=>true) (λx=>.int (H (x,(k:Int)))) (λg'=>g'=g ++ .S (ms.map U.ref)::gs) ((Kv (P.w*P.s+1)).map λx=>.int (H (x,(k:Int)))) (by rw[dy]) (λk g' _=>aH) (λx C=>?_) (by rw[ai];omega) rfl ?_
  .have W3:=dE.mp C
   have T:AJ (.ZZ [.int x,.int (k:Int)]) u (g ++ .S (ms.map U.ref)::gs)=some (some (.int (H (x,(k:Int))))):=by
    rw[uQ (ym N) cM,A (x,(k:Int)) (iU ⟨by omega,by omega,by omega,by omega⟩)]
   simp?;rintro g' rfl;simp?[T,id]
  .rintro g' rfl
   have V:AY g.length (.ref (g++Z6.S (ms.map U.ref)::gs).length) (g++Z6.S (ms.map U.ref)::gs++[.S ((Kv (P.w*P.s+1)).map λx=>.int (H (x,(k:Int))))])=.ok .ZR (g ++ .S ((ms++[(g++Z6.S (ms.map U.ref)::gs).length]).map U.ref)::(gs++[.S ((Kv (P.w*P.s+1)).map λx=>.int (H (x,(k:Int))))])):=by
    rw[b9 (xs:=ms.map U.ref) #[3] (by rw[Yk];omega)]
    simp
   refine⟨by rw[Yk,ai];omega,?_⟩
   simp?[V];have F:(g++Z6.S (ms.map U.ref)::gs).length ∉ ms:=λz=>by
    let⟨y,a⟩:=T3 z;exact U_ _ (Yi.mp (f y _ a).2).1
   refine⟨_,_,_,rfl,by simp[t],Sz.mpr ⟨nd,by simp,λx C y a=>by rw[UE.mp a];exactλz=>F (z ▸ C)⟩,λy m e=>?_,rfl⟩
   rcases QG y ms.length with c|c
   .rw [Xe c]at e
    let⟨m1,B⟩:=f y m e;refine⟨m1,?_⟩;have c1:m<(g++Z6.S (ms.map U.ref)::gs).length:=(Yi.mp B).1;rw[XN ()]at B ⊢
    obtain⟨j,O⟩:∃j,m-g.length=j+1:=⟨m-g.length-1,by omega⟩
    rw[O,SX]at B ⊢;exact af B
   .have R:y=ms.length:=by
     have:=(Yi.mp e).1;simp at this;omega
    subst R;rw[t];simp at e;subst e;refine⟨by omega,?_⟩
    rw[show g++Z6.S ((ms++[(g++Z6.S (ms.map U.ref)::gs).length]).map U.ref)::(gs++[Z6.S ((Kv (P.w*P.s+1)).map λx=>.int (H (x,(k:Int))))])=(g++Z6.S ((ms++[(g++Z6.S (ms.map U.ref)::gs).length]).map U.ref)::gs)++[Z6.S ((Kv (P.w*P.s+1)).map λx=>.int (H (x,(k:Int))))]by simp]
    rw[XN #[3]]
    simp
 .obtain ⟨ms,gs,o,rfl,t,nd,f,rfl⟩:=E
  simp?;rw[Yk,ai]at t;have F:g.length ∉ ms:=λz=>by
   let⟨y,a⟩:=T3 z;exact U_ _ (f y _ a).1
  refine h _ _ ms ⟨cB,by rw[BP,Yk,ai,t],λy m r e I=>?_,UR.mpr ⟨F,nd⟩⟩ λk A=>?_
  .simp only [BP,Xj,Yn]at I
   let⟨W,a,rfl⟩:=I;let⟨rfl,_⟩:=bq a;rw[(f y m e).2,QW]
   rfl
  rcases Xl.mp A with rfl|A
  .exact Ie _
  .obtain ⟨y,a⟩:=T3 A
   exact Qx (f y k a).1
def sL{ms:List Nat}{rs:List (List Vl)}(i:P.ok)(j:X3 g n ms rs)(f:rs.length<=100)(e:∀r∈rs,r.length<=100)
  (h:AH P rs=none ->∀gs,Tv (g++gs) g.length P (hT rs)->Q (.ref g.length) (g++gs)) (hx:∀b gs,AH P rs=some b->Q (BN (some b)) (g++gs)):J6 L (d+6) 22 [Za P,.ref n] g X Q:=by
 simp? only[ET]
 simp?;refine yU ?_;simp?;refine rZ (d:=d) i j f e (λa gs Z9=>?_) (λk gs a=>?_) (λc gs a=>?_)
 .simp?
  refine⟨_,rfl,?_⟩;simp?;exact h a gs Z9
 .exact ⟨_,rfl,by simp,.inr rfl,hx _ gs a⟩
 .exact ⟨_,rfl,by simp,.inr rfl,hx _ gs a⟩
def aI{k:Nat}(h:xs[k]?=some u):JG xs (k:Int)=some u:=by
 have:=(Yi.mp h).1;rw[cI () (),Rg,h]
def sV{ms:List Nat}{rs:List (List Vl)}(R:P.ok)(K:X3 g n ms rs)(hl:rs.length<=100)(hr:∀r∈rs,r.length<=100)(h:Q (BN (AH P rs)) g):J6 L (d+2) 23 [Za P,.ref n] g X Q:=by
 have s1:=R.ss;have Um:=R.ws;have YE:=R.ds;have t:=K.at_;have ln:=K.len;simp? only[E4]
 simp?[t,s1];refine aq (λk=>?_) λk=>?_
 .have k : ¬ (ms.length:Int)=P.d*P.s+1:=by simpa using k
  rw[AH,WV ()]at h
  simp?[t,Yk];rw[ln];exact h
 have k:(ms.length:Int)=P.d*P.s+1:=by simpa using k
 rw[AH,XW ()]at h
 simp?[t];refine aX (ms.map U.ref) (λk Z g'=>g=g'/\AX (P.w*P.s+1).toNat rs=AX (P.w*P.s+1).toNat (rs.drop k) /\∃o,Z=[some (Za P),some (.ref n),o,none,none]) (λk Z g' a=>by rw[<-a.1];exact bH t) ⟨rfl,rfl,_,rfl⟩ (λk u Z g' hk a=>?_) (λZ g' a=>?_)
 .obtain ⟨rfl,F,o,rfl⟩:=a
  simp![Xj,Yn]at hk;let⟨m,J,rfl⟩:=hk;have S:k<rs.length:=by rw[<-ln];exact(Yi.mp J).1
  have H:=Yr S;have A:=K.row k m _ J H;rw[bN H]at F;simp?[A,s1];refine aq (λI=>?_) λI=>?_
  .have I : ¬ (rs[k].length:Int)=P.w*P.s+1:=by simpa using I
   rw[F,AX,WV ()]at h
   simp?[A,Yk];exact h
  .have I:(rs[k].length:Int)=P.w*P.s+1:=by simpa using I
   simp?;exact⟨by rw[F,AX,XW ()],_,rfl⟩
 let⟨rfl,F,o,rfl⟩:=a;rw[Yk,ln,Sm]at F;have hW:=c9 F;rw[F]at h;have Y:Ai (ms.length:Int)=true:=aE () ()
 simp?[t,Y,Yk];refine aX ((Kv (ms.length:Int)).map U.int) (λk Z g'=>g=g'/\A1 0 rs=A1 k (rs.drop k) /\∃M E,Z=[some (Za P),some (.ref n),o,M,E]) (λk Z g' _=>aH) ⟨rfl,rfl,_,_,rfl⟩ (λk u Z g' hk a=>?_) (λZ g' a=>?_)
 .obtain ⟨rfl,D,M,E,rfl⟩:=a
  simp![Xj,Yn]at hk;let⟨y,hy,rfl⟩:=hk;let⟨rfl,Wb⟩:=bq hy;have S:k<rs.length:=by omega
  have H:=Yr S;let⟨m,J,A⟩:=K.get H;have G:JG (ms.map U.ref) (k:Int)=some (.ref m):=aI (by rw[Xj,J];rfl)
  have hrl:=hr _ (WG H);have W:Ai (rs[k].length:Int)=true:=aE () ()
  rw[bN H,A1]at D;simp?[t,G,A,W,Yk];refine aX ((Kv (rs[k].length:Int)).map U.int) (λj Z g'=>g=g'/\AZ k 0 rs[k]=AZ k j (rs[k].drop j) /\∃E,Z=[some (Za P),some (.ref n),o,some (.int k),E]) (λk Z g' _=>aH) ⟨rfl,rfl,_,rfl⟩ (λj u Z g' V a=>?_) (λZ g' a=>?_)
  .obtain ⟨rfl,C,E,rfl⟩:=a
   simp![Xj,Yn]at V;let⟨x,hx,rfl⟩:=V;let⟨rfl,W3⟩:=bq hx;have O:j<rs[k].length:=by omega
   obtain⟨v,T⟩:∃v,rs[k][j]?=some v:=⟨_,Yr O⟩;have B:JG (rs[k].map KN) (j:Int)=some (KN v):=aI (by rw[Xj,T];rfl)
   rw[bN T,AZ]at C;simp?[t,G,A,B];refine sh (d:=d) ?_;have f:KQ v=false->Q (.ZZ [.str (PySem.Str.ofString "high"),.ZZ [.int j,.int k],KN v,.bl true]) g:=λz=>by
    rw[z,WV #[1]]at C
    rw[C]at D;rw[D]at h;exact h
   have N:KQ v=true->AZ k 0 rs[k]=AZ k (j+1:Nat) (rs[k].drop (j+1)):=λz=>by
    rw[z,XW rfl]at C;exact C
   cases v with
   |i z=>
    simp![KR,KN]at f B ⊢;simp?[t,G,A,B];refine aq (λc=>?_) λc=>?_
    .simp? [t,G,A,B]
     exact f (by simp![KQ];simp at c ⊢;omega)
    .simp?
     exact⟨N (by simp![KQ];simp at c ⊢;omega),_,rfl⟩
   |b z=>
    simp![KR,KN]at f B ⊢;simp?[t,G,A,B];exact f rfl
   |n=>
    simp![KR,KN]at f B ⊢;simp?[t,G,A,B];exact f rfl
  .obtain ⟨rfl,C,E,rfl⟩:=a
   rw[Yk,ai,Rg,Sm]at C;rw[C]at D;simp?;exact⟨D,_,_,rfl⟩
 .obtain ⟨rfl,D,M,E,rfl⟩:=a
  rw[Yk,ai,Rg,ln,Sm]at D;rw[D]at h;simp?;exact h
def bB{k:Nat}{o o':Z6}(h:n≠k)(e:g[k]?=some o'):(g.set n o)[k]?=some o':=by rw[Wr h];exact e
def eX{o o':Z6}(e:g[n]?=some o'):(g.set n o)[n]?=some o:=by rw[VL (Yi.mp e).1]
def Bag.Ts{o:Z6}(h:Bag g)(b:3<=n):Bag (g.set n o):=by
 let⟨xs,a,s,h1,h2⟩:=h;exact⟨xs,a,s,bB () h1,bB () h2⟩
def ko{b c:Type}{f:b->c}:∀{l:List b} {k:Nat},(l.map f).eraseIdx k=(l.eraseIdx k).map f
 |[],_=>rfl
 |a::l,0=>rfl
 |a::l,k+1=>by simp![YG,Qr,ko]
structure YR(g:G)(n:Nat)(ms:List Nat)(rs:List (List Vl)):Prop where
 tb:X3 g n ms rs
 hi:∀k∈n::ms,3<=k
 Y_:Bag g
def YR.fr{g':G}{ms:List Nat}{rs:List (List Vl)}(h:YR g n ms rs)(f:Fr g g'):YR g' n ms rs:=
 ⟨⟨f.get _ _ (h.hi _ W_) h.tb.at_,h.tb.len,λy m r a b=>f.get _ _ (h.hi _ (Ig _ (WG a))) (h.tb.row y m r a b),h.tb.nd⟩,h.hi,f.Y_⟩
def YR.app{g gs:G}{n:Nat}{ms:List Nat}{rs:List (List Vl)}(h:YR g n ms rs):YR (g++gs) n ms rs:=⟨h.tb.app,h.hi,h.Y_.app⟩
def YR.put{y:Nat}{ms:List Nat}{rs:List (List Vl)}{r d:List Vl}(h:YR g n ms rs)(b:ms[y]?=some m)(e:rs[y]?=some r):YR (g.set m (.S (d.map KN))) n ms (rs.set y d):=by
 have hm:=WG b;have nd:=UR.mp h.tb.nd;refine⟨⟨bB (λz=>nd.1 (z ▸ hm)) h.tb.at_,by rw[RY];exact h.tb.len,λf j i a c=>?_,h.tb.nd⟩,h.hi,Bag.Ts h.Y_ (h.hi _ (Ig _ hm))⟩
 by_cases z:f=y
 .subst z
  rw[b]at a;cases a;rw[VL (Yi.mp e).1]at c;cases c;exact eX (h.tb.row _ _ _ b e)
 .rw [Wr (Ne.symm z)]at c
  refine bB (λq=>z ?_) (h.tb.row _ _ _ a c);subst q;exact(List.getElem?_inj (Yi.mp a).1 nd.2).mp (a.trans b.symm)
def YR.out{y:Nat}{ms:List Nat}{rs:List (List Vl)}(h:YR g n ms rs):YR (g.set n (.S ((ms.map U.ref).eraseIdx y))) n (ms.eraseIdx y) (rs.eraseIdx y):=by
 have nd:=UR.mp h.tb.nd;have sub:(ms.eraseIdx y).Sublist ms:=List.eraseIdx_sublist ..;refine⟨⟨?_,by rw[Ri,Ri,h.tb.len],λc e d b a=>?_,UR.mpr ⟨λz=>nd.1 (sub.subset z),nd.2.sublist sub⟩⟩,λk hk=>?_,Bag.Ts h.Y_ (h.hi _ W_)⟩
 .rw [eX h.tb.at_,ko]
 .have hm:=sub.subset (WG b)
  refine bB (λz=>nd.1 (z ▸ hm)) ?_;rw[List.getElem?_eraseIdx]at b a;split at b
  .rename_i z
   rw[XW z]at a;exact h.tb.row _ _ _ b a
  .rename_i z
   rw[WV z]at a;exact h.tb.row _ _ _ b a
 .rcases Xl.mp hk with rfl|hk
  .exact h.hi _ W_
  .exact h.hi _ (Ig _ (sub.subset hk))
def YR.add{ms:List Nat}{rs:List (List Vl)}{r:List Vl}(h:YR g n ms rs):YR ((g++[Z6.S (r.map KN)]).set n (Z6.S ((ms++[g.length]).map U.ref))) n (ms++[g.length]) (rs++[r]):=by
 have nd:=UR.mp h.tb.nd;have lt:∀k∈ms,k<g.length:=λk hk=>by
  let⟨y,a⟩:=T3 hk;have i:y<rs.length:=by rw[<-h.tb.len];exact(Yi.mp a).1
  exact(Yi.mp (h.tb.row y k _ a (Yr i))).1
 have ln:=(Yi.mp h.tb.at_).1;have f:=h.Y_.len;refine⟨⟨eX (af h.tb.at_),by simp[h.tb.len],λy m j b d=>?_,UR.mpr ⟨λz=>?_,Sz.mpr ⟨nd.2,by simp,λx e y a=>?_⟩⟩⟩,λk hk=>?_,Bag.Ts h.Y_.app (h.hi _ W_)⟩
 .rcases QG y ms.length with c|c
  .rw [Xe c]at b
   rw[Xe (by rw[<-h.tb.len];exact c)]at d
   exact bB (λz=>nd.1 (z ▸ WG b)) (af (h.tb.row _ _ _ b d))
  .have a:y=ms.length:=by have:=(Yi.mp b).1;simp at this;omega
   subst a;rw[h.tb.len]at d;simp at b d;subst b;subst d;exact bB () ar
 .rcases U8.mp z with z|z
  .exact nd.1 z
  .rw [UE.mp z]at ln;omega
 .rw [UE.mp a]
  have:=lt x e;omega
 .rcases Xl.mp hk with rfl|hk
  .exact h.hi _ W_
  .rcases U8.mp hk with hk|hk
   .exact h.hi _ (Ig _ hk)
   .rw [UE.mp hk];exact f
def vP:Jv .pow (.int 10) (.int 40)=some (.int 10000000000000000000000000000000000000000):=by simp[Jv,Ju]
def Gy:List Vl:=[.i 1001,.i (-1001),.b true,.b false,.n,.i 10000000000000000000000000000000000000000]
def sG{B:Nat}{ms:List Nat}{rs:List (List Vl)}(Yq:YR g n ms rs)(h1:1<=rs.length)(hB:B<=50)(hl:rs.length<=B)(D:∀r∈rs,r.length<=B)
  (h:∀g' N J,YR g' n N J->rs.length<=J.length+1->J.length<=B+1->(∀r∈J,r.length<=B+1)->Q .ZR g'):J6 L (d+2) 24 [.ref 2,.ref n] g X Q:=by
 have ln:=Yq.tb.len;simp? only[EY]
 simp?;refine aw Yq.Y_ #[1] #[1] λt g1 k0 k1 f1=>?_
 have T1:=Yq.fr f1;simp?[T1.tb.at_,Yk];refine aw (m:=(ms.length:Int)) T1.Y_ () () λy g2 y0 y1 f2=>?_
 have u:=T1.fr f2;let⟨o,rfl⟩:=Int.eq_ofNat_of_zero_le y0;have hy:o<rs.length:=by omega
 have C:=Yr hy;let⟨m,A,E⟩:=u.tb.get C;have F:JG (ms.map U.ref) (o:Int)=some (.ref m):=aI (by rw[Xj,A];rfl)
 have w:=u.tb.at_;have hrl:=D _ (WG C);have a:∀(r':List Vl),r'.length<=B+1 ->∀r∈rs.set o r',r.length<=B+1:=λr' P r VD=>by
  rcases List.mem_or_eq_of_mem_set VD with z|z
  .have:=D r z;omega
  .rw [z];exact P
 have done:Q .ZR g2:=h g2 ms rs u () () λr I=>by have:=D r I;omega
 have k2:t=0\/t=1\/t=2\/t=3\/(t=4\/t=5):=by omega
 rcases k2 with rfl|rfl|rfl|rfl|k2
 .obtain ⟨G,H⟩:∃G,rs[0]?=some G:=⟨_,Yr ()⟩
  let⟨m0,R,W⟩:=u.tb.get H;have u0:JG (ms.map U.ref) 0=some (.ref m0):=aI (k:=0) (by rw[Xj,R];rfl)
  have hr0:=D _ (WG H);have ap:AY n (.ref g2.length) (g2++[Z6.S (G.map KN)])=.ok .ZR ((g2++[Z6.S (G.map KN)]).set n (.S ((ms++[g2.length]).map U.ref))):=by
   rw[b9 (af w) (by rw[Yk];omega),Sv]
   rfl
  simp?[w,u0,W,ap];exact h _ _ (rs++[G]) u.add (by simp;omega) (by simp;omega) λr I=>(U8.mp I).elim (λz=>by have:=D r z;omega) λz=>by rw[UE.mp z];omega
 .have M:BJ n (.int (o:Int)) g2=.ok (.ref m) (g2.set n (.S ((ms.map U.ref).eraseIdx o))):=by
   simp![BJ,w];rw[XW (),Rg,Xj,A]
   rfl
  simp?[w,M];exact h _ _ _ u.out (by rw[Ri];split<;>omega) (by rw[Ri];split<;>omega) λr I=>by have:=D r ((List.eraseIdx_sublist ..).subset I);omega
 .have ap:AY m (.int 0) g2=.ok .ZR (g2.set m (.S ((rs[o]++[Vl.i 0]).map KN))):=by
   rw[b9 E (by rw[Yk];omega),Sv]
   rfl
  simp?[w,F,E,ap];exact h _ _ _ (u.put A C) #[3] (by simp;omega) (a _ (by simp;omega))
 .simp? [w,F,E,Yk]
  refine aq (λc=>?_) λc=>?_
  .have c:0<rs[o].length:=by simpa using c
   have lt:rs[o].length-1<(rs[o].map KN).length:=by rw[Yk];omega
   have M:A5 m g2=.ok ((rs[o].map KN)[rs[o].length-1]) (g2.set m (.S (rs[o].dropLast.map KN))):=by
    simp![A5,E];rw[Yk,Yr lt,List.map_dropLast]
   simp?[w,F,E,M];exact h _ _ _ (u.put A C) #[3] (by simp;omega) (a _ (by simp;omega))
  .simp?
   exact done
 .have z0:decide (t=0)=false:=by simp;omega
  have z1:decide (t=1)=false:=by simp;omega
  have z2:decide (t=2)=false:=by simp;omega
  have z3:decide (t=3)=false:=by simp;omega
  have z4:decide (3<t)=true:=by simp;omega
  simp?[z0,z1,z2,z3,z4,w,F,E,Yk];refine aq (λc=>?_) λc=>?_
  .have c:0<rs[o].length:=by simpa using c
   simp?[vP];refine aw u.Y_.app #[1] #[1] λj g3 j0 j1 f3=>?_
   have Y:g3[g2.length]?=some (.S (Gy.map KN)):=f3.get _ _ u.Y_.len ar;let⟨v,_,O⟩:=dI (l:=Gy) (f:=KN) j0 (by exact j1)
   have K:=u.app.fr f3;have e3:=K.tb.at_;have V:=K.tb.row _ _ _ A C;have Y:g3[g2.length]?=some (.S [.int 1001,.int (-1001),.bl true,.bl false,.ZR,.int 10000000000000000000000000000000000000000]):=Y;have O:JG [.int 1001,.int (-1001),.bl true,.bl false,.ZR,.int 10000000000000000000000000000000000000000] j=some (KN v):=O;simp?[Y,O,e3,F,V,Yk];refine aw (m:=(rs[o].length:Int)) K.Y_ () () λx g4 x0 x1 f4=>?_
   have T4:=K.fr f4;have T:=T4.tb.row _ _ _ A C;have sb:∀Z,subAt (.ref m) (.int x) (KN v) Z g4=.ok (.nx Z) (g4.set m (.S ((rs[o].set x.toNat v).map KN))):=λZ=>by
    rw[c8 T x0 (by rw[Yk];omega),List.map_set]
   simp?[sb];exact h _ _ _ (T4.put A C) #[3] (by simp;omega) (a _ (by simp;omega))
  .simp?
   exact done
def acf{v:Vl}:Rep g (KP v) (KN v):=by cases v<;>simp![KP,KN,Rep]
def acM{v:Vl}:(KP v).ok (n+1):=by cases v<;>simp[KP,Dt.ok]
def BV:Nat ⊕ (Pt×Vl)->Dt
 |.inl k=>.ZZ [.str (PySem.Str.ofString "size"),.int k,.bl true]
 |.inr c=>.ZZ [.str (PySem.Str.ofString "high"),Kw c.1,KP c.2,.bl true]
def jR{b:Nat ⊕ (Pt×Vl)}:Rep g (BV b) (BN (some b)):=by
 cases b with
 |inl k=>simp![BV,BN,Rep,Reps];exact⟨_,rfl,_,_,rfl,rfl,_,_,rfl,rfl,_,_,rfl,rfl,rfl⟩
 |inr c=>simp![BV,BN,Rep,Reps];exact⟨_,rfl,_,_,rfl,rfl,_,_,rfl,abS,_,_,rfl,acf,_,_,rfl,rfl,rfl⟩
def aaT{b:Nat ⊕ (Pt×Vl)}:(BV b).ok (n+3):=by
 cases b with
 |inl k=>simp[BV,Dt.ok]
 |inr c=>
  unfold BV;rw[Dt.Tz];refine⟨by simp,λD h=>?_⟩
  simp![Xl,Uz,SG]at h;rcases h with rfl|rfl|rfl|rfl
  .simp [Dt.ok]
  .exact acL
  .exact acM
  .exact acv
def uL{ms:List Nat}{rs:List (List Vl)}{Q:List U->G->Prop}(h:YR g n ms rs)(E:rs.length<=100)(v:∀(gs:G) (ks:List Nat),ks.length=rs.length->ks.Nodup->(∀k∈ks,g.length<=k)->(∀(y m:Nat) (r:List Vl),ks[y]?=some m->rs[y]?=some r->(g++gs)[m]?=some (.S (r.map KN)))->Q (ks.map U.ref) (g++gs)):Kf L d (.S n) 0 (.nm 0) [] [] (.bi .list [.O 0]) [] [none] g X Q:=by
 have ln:=h.tb.len;refine rR (ms.map U.ref) (λk ZW g'=>∃(ks:List Nat) (gs:G),g'=g++gs/\ZW=ks.map U.ref/\ks.length=k/\ks.Nodup/\(∀m∈ks,g.length<=m) /\∀(y m:Nat) (r:List Vl),ks[y]?=some m->rs[y]?=some r->g'[m]?=some (.S (r.map KN))) (λk ZW g' l=>by let⟨_,gs,rfl,_⟩:=l;exact bH (af h.tb.at_)) (λk u ZW hk=>?_) (by rw[Yk];omega) ⟨[],[],by simp,rfl,rfl,Qd,by simp,λy m r e=>by simp at e⟩ (λvs g' l t=>?_)
 .simp only [Xj,Yn]at hk
  let⟨m,p,rfl⟩:=hk;have B:k<rs.length:=by rw[<-ln];exact(Yi.mp p).1
  have q:=Yr B;simp?;rintro g' ⟨ks,gs,rfl,rfl,b,nd,lo,i⟩;have em:=af (gs:=gs) (h.tb.row k m _ p q);simp?[em];have A:(g++gs).length ∉ ks:=λz=>by
   let⟨y,f⟩:=T3 z;have C:y<rs.length:=by have:=(Yi.mp f).1;omega
   exact U_ _ (Yi.mp (i y _ _ f (Yr C))).1
  refine⟨ks++[(g++gs).length],gs++[.S (rs[k].map KN)],by simp,by simp,by simp[b],Sz.mpr ⟨nd,by simp,λx s y f=>by rw[UE.mp f];exactλz=>A (z ▸ s)⟩,λj D=>(U8.mp D).elim (lo j) (λz=>by rw[UE.mp z];simp),λy j r a o=>?_⟩
  rcases QG y ks.length with c|c
  .rw [Xe c]at a
   exact af (i y j r a o)
  .have w:y=ks.length:=by have:=(Yi.mp a).1;simp at this;omega
   subst w;rw[b,q]at o;simp at a;subst a;cases o;simp
 .obtain ⟨ks,gs,rfl,rfl,b,nd,lo,i⟩:=l
  rw[Yk,ln]at b;exact v gs ks b nd lo i
def zM{P:Plan}{ms:List Nat}{rs:List (List Vl)}{i:U}{u:Option U}{Q:Fl->G->Prop}(h:P.ok)(T:YR g n ms rs)(l:rs.length<=100)(q:∀r∈rs,r.length<=100)(s:∀g,Q (.rt (.bl true)) g):wpS L (d+11) (B9.body.drop 5) [some i,some (.ref 2),some (Za P),some (.ref n),u,none,none,none] g X Q:=by
 simp![B9,List.drop];simp?;refine sV (d:=d+9) h T.tb l q ?_;have B:=T.tb.at_;simp?[B];refine uL T l λgs ks x j w t=>?_;have lk:(ks.map U.ref).length<=16777000:=by rw[Yk];omega
 refine⟨lk,?_⟩;simp?;have o:∀c,X3 (g++gs++[.S (ks.map U.ref)]++c) (g++gs).length ks rs:=λc=>by
  refine⟨af ar,x,λy m r a b=>af (af (t y m r a b)),UR.mpr ⟨λz=>?_,j⟩⟩;let⟨y,p⟩:=T3 z;have C:y<rs.length:=by have:=(Yi.mp p).1;omega
  exact U_ _ (Yi.mp (t y _ _ p (Yr C))).1
 refine sL (d:=d+5) h T.tb.app.app l q (λf c Z9=>?_) (λb c f=>?_)
 .obtain ⟨H,J,K,N,I,hk,E,L2⟩:=Z9.ex
  have e:=E;unfold Er at e;rw[f];simp![BN];simp?[e];refine sJ (d:=d+10) h Z9 λA F v D _=>?_;simp?;refine gI (d:=d+7) 3 (CH P (hT rs)) _ _ _ (xF h) (i6 D.at) (i6 (wQ (o c) f).app.at) ?_;simp?[qG T.tb.app.app.app.app (o c).app];exact s _
 .obtain ⟨M,k⟩:∃M,BN (some b)=.ZZ M:=by cases b<;>exact⟨_,rfl⟩
  rw[f,k];simp?;refine gI (d:=d+7) 3 (BV b) _ _ _ aaT (k ▸ jR) (k ▸ jR) ?_;simp?[qG T.tb.app.app.app (o c)];exact s _
def law_ok(ns:List Int):J6 L (d+12) 25 [.Zv (ns.map U.int)] [] X λu _=>u=.bl true:=by
 simp? only[B9]
 simp?;refine sR ns λzs=>?_;have I:Bag [.S (zs.map U.int),.S (zs.map U.int),Bn 1 0 7]:=⟨zs,0,7,rfl,rfl⟩;revert I;generalize([.S (zs.map U.int),.S (zs.map U.int),Bn 1 0 7]:G)=g0;intro I;simp?;refine sm I λP g1 F f1=>?_;have t:=wA F;have h8:P.w*P.s<=8/\P.d*P.s<=8:=by
  simp![BC,Xl,Uz,SG]at F;rcases F with rfl|rfl|rfl|rfl|rfl|rfl|rfl|rfl|rfl|rfl|rfl|rfl<;>decide
 have Um:=t.ws;have YE:=t.ds;simp?;refine r9 t f1.Y_ λH mN g2 hH N hmN e2=>?_;have A:Jy (.ref mN) g2=some (KG Ap (Be H) (An P)):=by simp![Jy,e2]
 have UL:∀p,A2 P p=true->Aq (KG Ap (Be H) (An P)) (Ap p)=some (.int (H p)):=λp Y=>fP (key:=Ap) (λa b=>cC) (gH.mpr Y);simp?;refine sM t A UL λK D E R3 B3=>?_;have O:YR (g2++K) D E (BP P H):=⟨R3,λk hk=>Ib N.Y_.len (B3 k hk),N.Y_.app⟩;simp?;refine aw O.Y_ #[1] #[1] λr g4 r0 r1 f4=>?_
 have T4:=O.fr f4;have R:Ai r=true:=aE () ()
 have tl:(BP P H).length=(P.d*P.s+1).toNat:=by rw[BP,Yk,ai]
 simp?[R];refine aX ((Kv r).map U.int) (λk Z g=>∃ms f o,YR g D ms f/\3<=f.length+k/\f.length<=9+k/\(∀r∈f,r.length<=9+k)/\Z=[some (.Zv (ns.map U.int)),some (.ref 2),some (Za P),some (.ref D),o,none,none,none]) (λk Z g' _=>aH) ⟨_,_,_,T4,by omega,by omega,λr j=>?_,rfl⟩ (λk u Z g' hk J=>?_) (λZ g' J=>?_)
 .simp only [BP,Sk]at j
  let⟨y,_,rfl⟩:=j;rw[Yk,ai];omega
 .obtain ⟨ms,f,o,T,a1,A,C,rfl⟩:=J
  simp![Xj,Yn]at hk;let⟨x,W,rfl⟩:=hk;let⟨rfl,W3⟩:=bq W;simp?;refine sG (d:=d+9) (B:=9+k) T () () A C λg5 V Q T5 b1 b2 b3=>?_
  simp?;exact⟨_,_,_,T5,by omega,by omega,λr j=>by have:=b3 r j;omega,rfl⟩
 .obtain ⟨ms,f,o,T,a1,A,C,rfl⟩:=J
  rw[Yk,ai]at A C;have z:∀(n:Nat) (ms:List Nat) (f:List (List Vl)) (g:G),YR g n ms f->f.length<=100->(∀r∈f,r.length<=100)->wpS L (d+11) (B9.body.drop 5) [some (.Zv (ns.map U.int)),some (.ref 2),some (Za P),some (.ref n),o,none,none,none] g X (Kfn λu _=>u=.bl true):=λn ms f g T h1 h2=>zM t T h1 h2 λg=>by simp?
  simp![B9,List.drop]at z;simp?[QZ]at z;simp?;refine aw T.Y_ #[1] #[1] λq g6 q0 q1 M=>?_
  have T6:=T.fr M;simp?;refine aq (λc=>?_) λc=>?_
  .simp?
   exact z g6.length [] [] _ ⟨⟨ar,rfl,nofun,by simp⟩,λk hk=>by rw[UE.mp hk];exact M.Y_.len,M.Y_.app⟩ #[3] #[3]
  .simp?
   exact z _ _ _ _ T6 () λr j=>by have:=C r j;omega
end
def run(ns:List Int)(h:ns.length<=63):∃fu g',Aa L fu 40 25 [.Zv (ns.map U.int)] []=.ok (.bl true) g':=by
 let⟨fu,u,g',e,q⟩:=yd (law_ok (d:=28) (X:=λ_ _ _=>False) ns);subst q;exact⟨fu,g',e⟩
end
end ZC
open PySem PySem.W PyProof.Rows
theorem PySem.Challenge.cw_braemantle_k33_land_refused_holds : PySem.Challenge.rw_braemantle_k33_land_refused.Holds := by
 refine PI.aa0 (l:=PySem.Challenge.rw_braemantle_k33_land_refused) (T:=ZC.T) (ms:=ZC.ms) (is:=ZC.A8) (L:=ZC.L) (loose:=ZC.loose) (d:=40) (i:=25) (N:=20000) (x:="_law_script") (by kernel_rfl) ZC.all (by kernel_rfl) (by kernel_rfl) (by kernel_rfl) (by kernel_rfl) (by kernel_rfl) ⟨rfl,rfl,rfl,rfl,rfl,by decide +kernel⟩ ?hw rfl ⟨rfl,by decide,by decide,rfl⟩ rfl rfl rfl rfl rfl rfl ZC.run
 case hw=>w_witness2
