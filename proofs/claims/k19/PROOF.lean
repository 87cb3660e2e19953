import PyProof.Rows.All
import KE.KDictOf
import KE.KDictSum
import KE.KEqDict
import KE.KFromBytes
import KE.KIsAll
import KE.KRevSl
import KE.KSortTup
import KE.KUnpack
import PySem.Challenge.RW_braemantle_k19_chains_that_lack
set_option Elab.async false
set_option linter.all false
set_option maxRecDepth 100000
set_option maxHeartbeats 0
set_option hygiene false
set_option bootstrap.genMatcherCode false
set_option genSizeOf false
set_option genSizeOfSpec false
set_option backward.eqns.nonrecursive false
set_option compiler.extract_closed false
abbrev K0(p q:Prop):Prop:=p->q
abbrev KA(a:Prop)(r:Prop->Prop)(q:Prop):Prop:=a->r q
abbrev KE{α:Sort _}(r:α->Prop->Prop)(q:Prop):Prop:=∀x,r x q
class Cur(n:Nat)(p:Prop)(r:outParam (Prop->Prop)):Prop where c:∀{q:Prop},r q->p->q
instance{p:Prop}:Cur 0 p (K0 p):=⟨id⟩
instance{n:Nat}{a b:Prop}{r:Prop->Prop}[i:Cur n b r]:Cur (n+1) (a∧b) (KA a r):=⟨fun f h=>i.c (f h.1) h.2⟩
instance{n:Nat}{α:Sort _}{p:α->Prop}{r:α->Prop->Prop}[i:∀x,Cur n (p x) (r x)]:Cur (n+1) (∃x,p x) (KE r):=⟨fun f ⟨x,h⟩=>(i x).c (f x) h⟩
open Lean in
def r_p:Nat->Syntax->MacroM (TSyntax `rcasesPat)
 |0,_=>Macro.throwUnsupported
 |n+1,x=>do
  if x.isOfKind `Lean.Parser.Term.anonymousCtor then
   let q<-x[1].getSepArgs.mapM fun y=>do let z<-r_p n y;`(Parser.Tactic.rcasesPatLo|$z:rcasesPat)
   `(rcasesPat|⟨$q,*⟩)
  else if x.isIdent then `(rcasesPat|$(⟨x⟩):ident) else if x.isOfKind `Lean.Parser.Term.hole then `(rcasesPat|_) else Macro.throwUnsupported
open Lean in
local macro_rules|`(tactic|let $p:term:=$e)=>do
 if p.raw.isIdent then Macro.throwUnsupported
 let q<-r_p 9 p;`(tactic|obtain $q:rcasesPat:=$e)
open Lean in
def r_k(q:Syntax):Option (NumLit×Array (TSyntax `rintroPat)):=
 let a:=q[1].getSepArgs
 if q.isOfKind `Lean.Parser.Tactic.rcasesPat.tuple&&a.size>1&&a.all (fun x=>x[0][0].getArgs.size==1&&x[1].getArgs.isEmpty) then some (Syntax.mkNumLit (toString (a.size-1)),a.map fun x=>⟨mkNode `Lean.Parser.Tactic.rintroPat.one #[x[0][0][0]]⟩) else none
open Lean in
local macro_rules|`(tactic|rintro $ps*)=>do
 let o<-ps.mapM fun p=>do
  let q:=p.raw[0]
  if q.isOfKind `Lean.Parser.Tactic.rcasesPat.one&&q[0].getId != `rfl then return <-`(tactic|intro $(⟨q[0]⟩):ident)
  let r<-`(tactic|(intro h_;rcases h_ with $(⟨q⟩):rcasesPat))
  match r_k q with
  |some (n,k)=>`(tactic|first|(refine Cur.c (n:=$n) ?_;rintro $k*)|$r:tactic)
  |none=>if p.raw.isOfKind `Lean.Parser.Tactic.rintroPat.one then return r else Macro.throwUnsupported
 `(tactic|($[$o];*))
open Lean in
local macro_rules|`(tactic|obtain $q:rcasesPatMed:=$e:term)=>do
 let q:=q.raw[0][0]
 let r<-`(tactic|rcases $e:term with $(⟨q⟩):rcasesPat)
 match r_k q with
 |some (n,k)=>do
  let c<-if e.raw.isIdent then `(tactic|clear $(⟨e⟩):ident) else `(tactic|skip)
  `(tactic|first|(refine Cur.c (n:=$n) ?_ $e;$c:tactic;rintro $k*)|$r:tactic)
 |none=>return r
local macro_rules|`(tactic|simp! [$xs,*] $[$l:location]?)=>`(tactic|simp only [$xs,*] $[$l]?)
local macro_rules | `(tactic| simp? [$xs,*] $[$l:location]?) => do
  let a ← ("dh mG pX il iq ir eG sj sZ qk sr tH tL lK l7 lD kJ tN k_E tq tK sY sD mi lX mh qF tj lV lP sX pL mR nU l6 nF qz sA oH rN ou sM nC sF nj rG mm n5 mq sP nR pd oz sO lB oq oY oR sR nD oG m8 qV pS nI nH rM mZ nA nv oO qT tF nt su tz kO qr rP rD rV oU sN qc nO pT mf ot sQ l0 mV lY qe nk lG ny qW nN lL rQ oP pP bE kP lC pk m7 nq qv oi nW oV pN pJ oQ pB oN qy ph ik nJ om pK eS oA qX pR qo rR qD sW qh rE nY pC nr oK mY nT qg oZ mw pO n8 pM pY nS nP oJ pI qY rF sG rY sI rT oC rp qL sm kH ql tD rW rg rS rj qw rC nB rZ oy ll ni qZ pW tu rO rX qP sv mz mv nh nZ qJ pG nu qu sh rL sH se qt qi adt adF yV".splitOn " ").toArray.mapM λs => `(Lean.Parser.Tactic.simpLemma| ↓$(Lean.mkIdent s.toName):ident)
  let b ← ("perm pick BR Option.bind_some DE Dm Dk CZ List.lookup_cons List.lookup_nil Nat.reduceBEq List.contains_cons List.contains_nil Dx List.getElem?_nil List.getElem?_cons_zero List.getElem?_cons_succ List.length_cons List.length_nil List.set_cons_zero List.set_cons_succ List.map_cons List.map_nil List.replicate_succ List.replicate_zero List.cons_append List.nil_append Nat.zero_add Nat.reduceAdd Nat.reduceSub Nat.reduceLT Nat.reduceLeDiff Nat.reduceEqDiff Nat.lt_add_left_iff_pos Ji Af bindL if_true if_false ite_true ite_false and_true true_and Option.getD_some eQ eV nK lO lg lZ sC qG qK s8 gJ gk qm tJ qp cin iw qj gD Bool.or_false Bool.or_true Bool.true_or Bool.false_or clt cle cgt cge DT Ja items Fu B0 Jf AV lift Je CN Dy BA alloc AQ fY Ab sk si sJ rq sL rA Ay Cd Option.map_some Int.reduceLT Int.reduceLE Int.reduceNeg Int.reduceEq decide_true decide_false Bool.not_true Bool.not_false Bool.and_true Bool.true_and Bool.and_self decide_eq_true_eq eq_self perm pick".splitOn " ").toArray.mapM λs => `(Lean.Parser.Tactic.simpLemma| $(Lean.mkIdent s.toName):ident)
  let a := a ++ b
  `(tactic| simp only [$[$a:simpLemma],*, $xs,*] $[$l]?)
local macro_rules|`(tactic|simp? only [$x:ident])=>`(tactic|(refine ag (by rfl) (by rfl) ?_;simp only [$x:ident]))|`(tactic|simp?)=>`(tactic|simp? [eq_self])
open Lean in
local macro_rules|`($m:declModifiers def $i:declId $s:optDeclSig $v:declVal)=>do
 unless m.raw.getArgs.all (·.isNone) do Macro.throwUnsupported
 let r<-(if (match i.raw[0].getId with|.str _ n=>(n.toList.headD 'A').isLower&&!("isStar ownOf freeOf setArg setB mkF endsF lastOf fns loose upd frs rNe start sIx ixN atI putK head dd refs intsOf keyOf dput dfold neT best insI sortI tupI next bindL pick perm subAt rIxD dig post tyName allFrom holds wp wpS hk ob plainT tupP small stride lying upright rising falling ltP dT mid o1 kyP".splitOn ).contains n|_=>false) then let z:TSyntax `Lean.Parser.Command.declSig:=⟨mkNode `Lean.Parser.Command.declSig #[s.raw[0],s.raw[1][0]]⟩;`(command|theorem $i:declId $z:declSig $v:declVal) else `(command|noncomputable def $i:declId $s:optDeclSig $v:declVal));return r.raw.rewriteBottomUp (·.setInfo .none)
open Lean in
local macro_rules|`($m:declModifiers abbrev $i:declId $s:optDeclSig $v:declVal)=>do
 unless m.raw.getArgs.all (·.isNone) do Macro.throwUnsupported
 `(command|noncomputable abbrev $i:declId $s:optDeclSig $v:declVal)
open Lean in
local macro_rules|`(fun $xs* => $b)=>do
 let rec h:Nat->Syntax->Bool
  |0,_=>true
  |n+1,x=>x.isOfKind `Lean.Parser.Term.syntheticHole||x.getArgs.any (h n)
 if xs.all (!·.raw.isOfKind `Lean.Parser.Term.anonymousCtor)||h 99 b then Macro.throwUnsupported
 let q<-xs.mapM fun x=>do let z<-r_p 9 x;`(rintroPat|$z:rcasesPat)
 `(by rintro $q*;exact $b)
open Lean in
local macro_rules|`(#[$n:num])=>match n.getNat with|0=>`(PySem.Challenge.rw_braemantle_k19_chains_that_lack.prog.main.body)|1=>`(by decide)|2=>`(by rfl)|3=>`(by simp)|_=>Macro.throwUnsupported
local macro_rules|`(())=>`(by omega)
def b_F{P:Prop}(h:false=true):P:=absurd h Bool.false_ne_true
def n_F{α:Type}{a:α}{P:Prop}(h:(none:Option α)=some a):P:=nomatch h
local macro_rules|`(tactic|cases $h:ident)=>`(tactic|first|exact n_F $h|exact b_F $h|cases ($h))
def Zg:=@List.length_map
def Z1:=@Bool.and_eq_true
def Ye:=@List.getElem?_eq_some_iff
def Yn:=@if_neg
def YB:=@Iff.rfl
def YE:=@if_pos
def YJ:=@List.getElem?_eq_getElem
def YX:=@PyProof.Rows.wpS_bind
def YY:=@Option.some.injEq
def Y2:=@Array.length_toList
def Xc:=@Bool.false_eq_true
def Xe:=@List.size_toArray
def Xu:=@List.map_cons
def XB:=@Option.map_eq_some_iff
def XN:=@PyProof.Rows.wpS_pure
def XZ:=@List.length_append
def X7:=@List.getElem?_append_left
def X8:=@List.mem_cons
def Wd:=@decide_eq_true_eq
def Wh:=@List.mem_append
def Wi:=@List.getElem?_map
def Wp:=@Array.toList_append
def Wx:=@List.append_assoc
def WA:=@List.mem_map
def WB:=@Array.getElem?_eq_getElem
def WC:=@List.getElem?_append_right
def WJ:=@List.length_cons
def WK:=@List.take_append_drop
def WL:=@List.mem_singleton
def WV:=@Option.some.inj
def WY:=@List.all_eq_true
def W3:=@Array.getElem?_toList
def W_:=@PySem.Heap.get?_update_other
def Vb:=@if_false
def Vd:=@Option.bind_eq_some_iff
def Ve:=@List.getElem?_set_ne
def Vi:=@List.pairwise_append
def Vp:=@List.length_take
def Vr:=@Array.getElem?_eq_some_iff
def Vt:=@PySem.wpAny_holding
def Vw:=@List.mem_of_getElem?
def Vx:=@List.mem_append_right
def Vy:=@Bool.not_eq_true'
def VB:=@decide_eq_false
def VJ:=@Option.map_some
def VM:=@Array.getElem_mem
def VR:=@beq_iff_eq
def VT:=@List.drop_eq_getElem_cons
def VV:=@PySem.mem_of_lookup
def VX:=@List.getElem?_set_self
def VY:=@Nat.le_succ
def V8:=@List.any_cons
def Ua:=@List.mem_of_mem_drop
def Ub:=@List.length_drop
def Uc:=@PySem.wpAny_newObj_type
def Ud:=@List.pairwise_cons
def Ug:=@PySem.Obj.data_mapFields
def Uh:=@PySem.Heap.get?_update_self
def Ur:=@List.contains_iff_mem
def Uw:=@List.getElem?_eq_none_iff
def Ux:=@List.append_nil
def UA:=@List.mem_append_left
def UM:=@PySem.wpAny_mono
def UP:=@PySem.sizeLine_eq
def UR:=@List.perm_append_comm
def UW:=@PyProof.Rows.wpS_forRange
def U4:=@List.mem_filter
def U5:=@List.find?_cons
def Ta:=@List.length_nil
def Td:=@decide_eq_true
def Ti:=@List.lookup_cons
def Tj:=@if_true
def To:=@List.pairwise_map
def Tt:=@List.take_of_length_le
def Tx:=@List.drop_eq_nil_of_le
def TL:=@Option.isSome_iff_exists
def TN:=@List.filterMap_cons
def TR:=@PySem.Heap.SameBut.update
def TU:=@List.mem_iff_getElem?
def TX:=@PySem.wpAny_setState_of
def TY:=@PyProof.Rows.wpS_mono
def TZ:=@decide_eq_false_iff_not
def T1:=@List.eraseIdx_eq_take_drop_succ
def T6:=@Bool.or_eq_false_iff
def Se:=@PySem.wpAny_call_entry
def Sf:=@List.mem_reverse
def Sl:=@PyProof.Rows.F.plain_set_update_loop
def Sn:=@List.length_filter_le
def So:=@List.mem_range
def Ss:=@PySem.wpAny_standAt
def Sw:=@List.map_map
def SF:=@List.mem_of_mem_take
def SJ:=@PySem.wpAny_askSetting
def SM:=@List.filter_cons_of_neg
def SV:=@List.filter_cons_of_pos
def S9:=@Bool.not_true
def S_:=@PySem.wpAny_truthy_bool
def Rn:=@Array.toList_push
def Rw:=@List.nodup_cons
def Rx:=@Bool.or_eq_true
def Ry:=@List.pairwise_iff_getElem
def Rz:=@congrArg
def RA:=@List.length_replicate
def RL:=@List.length_singleton
def RU:=@PySem.Obj.isFreed_of_fields
def R3:=@List.getElem_mem
def R4:=@Nat.lt_irrefl
def R5:=@Nat.zero_add
def R9:=@Array.mem_toList_iff
def Qa:=@PySem.wpAny_typeNameOfWhole_keyiter
def Qb:=@List.getElem?_replicate
def Qc:=@PySem.wpAny_callSpecial?_slot
def Qd:=@List.map_append
def Qe:=@PySem.F.slot_dict_keyiterator_next
def Qf:=@Nat.le_of_lt
def Qg:=@PySem.wpAny_setField
def Qh:=@List.getElem?_eq_none
def Qi:=@List.Perm.append_left
def Qj:=@List.extract_eq_take_drop
def Qk:=@PySem.wpAny_passesOwn
def Ql:=@List.nil_append
def Qm:=@PySem.Heap.get?_none_of_le
def Qn:=@Nat.lt_succ_of_lt
def Qo:=@List.mem_iff_getElem
def Qp:=@PySem.wpAny_typeNameOf_keyiter
def Qq:=@List.eraseIdxIfInBounds_toArray
def Qr:=@Option.bind_some
def Qs:=@List.isEmpty_nil
def Qt:=@PySem.codeAny_mono
def Qu:=@PySem.W.cellsFrom_some
def Qv:=@PySem.tupleKind_room_in1
def Qw:=@List.zip_cons_cons
def Qx:=@PyProof.Rows.wpS_modify
def Qy:=@decide_false
def Qz:=@Bool.eq_iff_iff
def QA:=@PySem.W.kia_one
def QC:=@PySem.Paired.length
def QD:=@PySem.wpAny_attempt
def QE:=@List.Pairwise.sublist
def QG:=@PySem.Value.isInt_shape
def QH:=@PyProof.Rows.callWith_type1
def QJ:=@List.take_sublist
def QK:=@bne_self_eq_false
def QM:=@PySem.wpAny_loadPart_at
def QN:=@Nat.zero_le
def QP:=@List.getElem?_of_mem
def QQ:=@PySem.codeAny_call_builtin
def QR:=@PySem.wpAny_rule
def QS:=@Array.toList_extract
def QT:=@Array.toList_reverse
def QU:=@Nat.ne_of_gt
def QW:=@Nat.le_add_right
def QX:=@Nat.lt_succ_self
def QY:=@List.isEmpty_iff
def QZ:=@Option.isNone_iff_eq_none
def Q2:=@List.getElem_of_mem
def Q3:=@PyProof.Rows.F.entry_set_update_loop
def Q4:=@List.getElem?_take_of_lt
def Pa:=@PySem.wpAny_comprehension_free
def Pb:=@PySem.codeAny_builtin
def Pc:=@PySem.wpAny_Call_Name_kw
def Pd:=@Int.emod_lt_of_pos
def Pe:=@PySem.Code.quiet_builtin
def Pf:=@of_decide_eq_false
def Pg:=@Array.size_extract
def Ph:=@PySem.wpAny_field
def Pj:=@decide_true
def Pk:=@List.findIdx?_eq_some_iff_getElem
def Pl:=@List.reverse_cons
def Pm:=@Option.isSome_map
def Pn:=@Nat.lt_trans
def Po:=@List.length_range
def Pp:=@Nat.lt_or_ge
def Pq:=@PySem.Heap.size_push
def Pu:=@Int.toNat_natCast
def Pw:=@PySem.Obj.cls_mapFields
def Px:=@List.drop_drop
def Py:=@List.reverse_perm
def Pz:=@PySem.wpAny_dictEntries
def PD:=@PyProof.Rows.slot_tuple_getitem
def PF:=@List.Nodup.length_le_of_subset
def PH:=@Array.toList_inj
def PJ:=@PySem.wpAny_forIn_list
def PK:=@List.cons_append
def PL:=@PySem.F.args_dict_keyiterator_next_1
def PM:=@beq_self_eq_true
def PN:=@List.mem_flatMap
def PQ:=@List.take_add
def PU:=@PySem.Calls.evalArgs_plain
def PV:=@PySem.Around.under_plainId
def PX:=@PySem.F.entry_dict_keyiterator_next
def PY:=@Option.ite_none_right_eq_some
def PZ:=@List.length_set
def P1:=@Int.emod_nonneg
def P2:=@Array.getElem?_setIfInBounds
def P4:=@PySem.codeAny_of_tree
def P6:=@beq_eq_false_iff_ne
def P7:=@List.getElem?_range
def P8:=@PySem.wpAny_setEntries_of
def P9:=@PyProof.Rows.wpS_get
def P_:=@PySem.Calls.Name_function_global
def Oa:=@Bool.false_and
def Ob:=@List.mem_filterMap
def Oc:=@PySem.wpAny_call
def Od:=@List.perm_ext_iff_of_nodup
def Oe:=@Bool.not_false
def Of:=@List.length_eraseIdx_of_lt
def Og:=@PySem.wpAny_fieldsOf
def Oh:=@PyProof.Rows.wpS_lift
def Oi:=@Array.toList_setIfInBounds
def Ol:=@List.getElem?_drop
def Om:=@List.take_succ
def Oo:=@List.mem_of_find?_eq_some
def Oq:=@PySem.F.slot_dict_delitem
def Ot:=@Nat.le_of_lt_succ
def Ou:=@List.getElem_take
def Ov:=@List.getElem_drop
def Ow:=@List.nodup_append
def Ox:=@PySem.wpAny_pyIter_slot
def Oy:=@Nat.le_of_succ_le
def Oz:=@Bool.eq_false_iff
def OA:=@Array.size_setIfInBounds
def OB:=@Prod.mk.injEq
def OC:=@Option.getD_none
def OD:=@List.eraseIdx_cons_succ
def OE:=@Nat.succ_le_succ
def OF:=@List.nodup_range
def OG:=@PySem.wpAny_isInstance
def OH:=@List.pairwise_singleton
def OI:=@PySem.F.plainAttrs_list
def OJ:=@List.not_mem_nil
def OK:=@List.take_length
def OL:=@Nat.add_sub_cancel_left
def OM:=@List.getElem?_cons_succ
def ON:=@List.any_eq_true
def OO:=@Int.eq_ofNat_of_zero_le
def OP:=@PySem.wpAny_typeOf
def OQ:=@List.map_nil
def OR:=@Nat.mod_lt
def OS:=@Array.getElem?_eq_none
def OT:=@List.range_succ_eq_map
def OU:=@Option.map_eq_none_iff
def OV:=@PySem.W.looks_findIn
def OW:=@PySem.wpAny_execs_nil
def OX:=@List.of_mem_zip
def OY:=@PySem.SeqAt.EqAt.same
def OZ:=@PySem.wpAny_specialOf
def O0:=@List.cons.injEq
def O1:=@PySem.wpAny_dictEpoch
def O2:=@List.forIn_cons
def O3:=@Sum.inr.inj
def O4:=@PySem.wpAny_of_eq
def O5:=@PySem.isSubtype_type
def O6:=@Bool.true_and
def O7:=@Nat.add_assoc
def O8:=@List.map_take
def O9:=@List.map_drop
def O_:=@PySem.call_meets
def Na:=@Prod.ext
def Hg:=@PySem.Heap.get?_push_of_some
def Hh:=@PySem.Heap.lt_size
def Hi:=@Nat.le_trans
def Hj:=@Bool.false_ne_true
def Hk:=@Nat.le_refl
def Hl:=@List.mem_cons_of_mem
def Hm:=@Nat.lt_of_lt_of_le
def Hn:=@Nat.ne_of_lt
def Ho:=@PySem.Heap.get?_push_size
def Hq:=@Classical.byContradiction
def Hr:=@List.mem_cons_self
def Ht:=@of_decide_eq_true
abbrev Hu:=PySem.W.Frag
def ZB:=@PySem.wpAny_bind
def ZP:=@PySem.wpAny_pure
set_option bootstrap.genMatcherCode false
variable{x name:PySem.Str}{a fI:PySem.Addr}{b:Bool}{P prog:PySem.Program}{w:PySem.World}{h h' base:PySem.Heap}{α β:Type}{e tg:PySem.Expr}{Y:List (PySem.Addr×PySem.Obj)}{s s':PySem.Shared}{t' i j M n lo m d ep slot fu:Nat}{ch fp ρ ZO:List PySem.Addr}{N ps:List PySem.Str}{A:PySem.Around}{pos apos p2 Zq:PySem.Pos}{ZR gens:List PySem.Comprehension}{K:Hu}{D:List (List Int×PySem.Addr)}{f:PySem.Value->PySem.Value->PySem.Sem PySem.Value}{st:PyProof.Rows.SortSt}{es ts:List PySem.Expr}{body:List PySem.Stmt}{κ:PyProof.Rows.SortKind}{ZU bm Yz sub:List PySem.Value}{dx:Option PySem.Addr}{env:PySem.Env}{mg:PySem.Str->Option PySem.Value}{outer:List PySem.Env}{fd:PySem.FuncData}{Zc:List PySem.Keyword}{sc scope:PySem.Scope}{ns:List Int}{z:Nat×Int×PySem.Value}{ZN arr:Array PyProof.Rows.Keyed}{rk:PyProof.Rows.Keyed->Nat}{as:List (PySem.Str×Bool)}{gc:PySem.Comprehension}{cells cl:List (PySem.Str×PySem.Addr)}{names:List (PySem.Str×PySem.NameKind)}{Zs:List Nat}{oe:PySem.Obj}{col:Option Bool}{newId:String}{E':PySem.Value->PySem.Shared->Prop}{fo:Option PySem.Str}{rs:List (Option (PySem.Scope×List PySem.Stmt))}
namespace Att
end Att
namespace HT
end HT
namespace L2
end L2
namespace ZD
end ZD
namespace PI
end PI
namespace PI
noncomputable section
open PySem
noncomputable section
inductive U where
 |ZJ|bl (b:Bool)|int (i:Int)|str (s:Str)|ZY (xs:List U)|Zy (xs:List U)|ref (n:Nat)|xn (c:Nat) (fs:List U)
inductive Op where|add|sub|mul|fdiv|mod|pow
inductive Cp where|eq|ne|lt|le|gt|ge|U3|Th|Xl|Yy
inductive Bi where|len|abs|list|mn|mx|W9|sum|tupl|cat|sset|dct|rpr|int
set_option genInjectivity false in
inductive Ty where|U2|U1|Uq|Uo|U0|own (c:Nat)
set_option genInjectivity false in
inductive Tg where|nm (i:Nat)|tp (is:List Nat)
set_option genInjectivity false in
inductive E where
 |L (i:Nat)|ZW (u:U)
 |ZS (op:Op) (a b:E)|cmp (op:Cp) (a b:E)|chain (op YZ:Cp) (a b c:E)
 |and (a b:E)|or (a b:E)|not (a:E)|neg (a:E)|ite (c a b:E)
 |ZY (es:List E)|Z5 (es:List E)
 |idx (a b:E)|W8 (a:E) (lo hi:Option E)|rev (a:E)
 |call (f:Nat) (es:List E)|SU (f:Nat) (es ks:List E) (pm:List (Nat ⊕ U))
 |fld (a:E) (j:Nat) (cs:List Nat)|make (c f:Nat) (es ks:List E) (pm:List (Nat ⊕ U))|SS (a:E) (j:Nat) (tb:List (Nat×Nat×List (Nat ⊕ U))) (es ks:List E)|Sd (c:Bool) (o:E)|oeq (op:Cp) (tb:List (Nat×Nat×List (Nat ⊕ U))) (a b:E)
 |bi (b:Bi) (es:List E)
 |Yw (a:E) (t:Ty)
 |app (o v:E)|ext (o v:E)|pop (o:E)|VI (o v:E)
 |X3 (a:E)|WI (a b:E)|W7 (a:E)|zip (a b:E)|V6
 |comp (own:Nat) (fr:List Nat) (gs:List (Tg×E×List E)) (elt:E)
 |Sb (ks:List Str) (es:List E)|dgt (o k x:E)|pair (k v:E)|V5 (own:Nat) (fr:List Nat) (gs:List (Tg×E×List E)) (k v:E)
set_option genInjectivity false in
inductive Z6 where
 |ret (e:E)|retN|set (t:Tg) (e:E)|par (i j:Nat) (a b:E)
 |sub (o i e:E)|aug (i:Nat) (op:Op) (e:E)
 |exp (e:E)|Zv (c:E) (a b:List Z6)|VH (c:E) (b:List Z6)|for (t:Tg) (it:E) (b:List Z6)
 |pass|brk|cont|never|del (o i:E)|fset (a:E) (j:Nat) (cs:List Nat) (e:E)
 |Zh (b:List Z6)|V4 (c:E) (a b:List Z6)|Sa (t:Tg) (it:E) (b:List Z6)|raise (c:Nat) (es:List E)|UZ (j f:Nat) (es:List E) (c:Nat) (xs:List (Option U))
structure Fn where
 np:Nat
 ns:Nat
 body:List Z6
end
open PySem PySem.Spec PyProof.Rows L2
set_option genInjectivity false in
structure Tab where
 J:List Str
 cs:List (Str×U)
 bt:List Str
 fs:List Str
 xc:List (Str×Option Str×List (Str×Bool))
def AE(N:List Str)(x:Str):Option Nat:=N.findIdx? (· == x)
def DL:Operator->Option Op
 |.Add=>some .add|.Sub=>some .sub|.Mult=>some .mul|.FloorDiv=>some .fdiv|.Mod=>some .mod|.Pow=>some .pow|_=>none
def Cs:CmpOp->Option Cp
 |.Eq=>some .eq|.NotEq=>some .ne|.Lt=>some .lt|.LtE=>some .le|.Gt=>some .gt|.GtE=>some .ge|.Is=>some .U3|.IsNot=>some .Th|.In=>some .Xl|.NotIn=>some .Yy
def isStar:Expr->Bool
 |.Starred ..=>true
 |_=>false
def CF:Expr->Bool
 |.Set ..=>true
 |_=>false
def BJ:Expr->Bool
 |.ListComp ..=>true|.SetComp ..=>true|.DictComp ..=>true|_=>false
def Cv:Expr->Bool
 |.Call ..=>true|_=>false
def Cz:Expr->Bool
 |.Tuple ..=>true|_=>false
def B3:Expr->Bool
 |.Slice ..=>true|_=>false
def C5(x:Str):Option Ty:=if x = "int" then some .U2 else if x = "bool" then some .U1 else if x = "str" then some .Uq else if x = "tuple" then some .Uo else if x = "list" then some .U0 else none
def AS(x:Str):Bool:=!(x==("__debug__" : Str))&&!(x==("__classdict__" : Str))&&!(x==("__name__" : Str))
def Ac{b:Type}:List (Option b)->Option (List b)
 |[]=>some []
 |none::_=>none
 |some a::r=>(Ac r).map (a :: ·)
def CA:E->Bool
 |.X3 _=>false|.WI _ _=>false|.W7 _=>false|.zip _ _=>false|_=>true
def BB(b:Bool)(a:Scope)(x:Str):Bool:=a.names.lookup x==some .local||(b&&a.names.lookup x==some .cell)
def Bp(b:Bool)(a:Scope)(N:List Str)(x:Str):Option Nat:=if BB b a x then AE N x else none
def BL(b:Bool)(a:Scope)(N:List Str)(e:Expr):Option Nat:=match e with
 |.Name x _=>Bp b a N x
 |_=>none
def Ba(b:Bool)(a:Scope)(N:List Str):Expr->Option Tg
 |.Name x _=>(Bp b a N x).map .nm
 |.Tuple ts _ _=>(Ac (ts.map (BL b a N))).map .tp
 |_=>none
def Hv{a:Type}(c:Bool)(x:Option a):Option a:=match c with
 |true=>x
 |false=>none
def Hw(e:Expr):Option Str:=match e with
 |.Name x _=>some x
 |_=>none
def BK(e:Expr):Option (Str×List Expr):=match e with
 |.Call f es Zc _=>match Zc with
  |[]=>(Hw f).map λn=>(n,es)
  |_::_=>none
 |_=>none
def Cr(c:Expr->Option E)(k:E->E)(b:List Expr):Option E:=match b with
 |[]=>none
 |a::b=>match b with
  |[]=>(c a).map k
  |_::_=>none
def DW(d:Expr->Option E)(k:E->E->E)(c:List Expr):Option E:=match c with
 |[]=>none
 |a::c=>match c with
  |[]=>none
  |b::c=>match c with
   |[]=>(d a).bind λa'=>(d b).map (k a')
   |_::_=>none
def Hx{a:Type}(l:List a):Bool:=match l with
 |[]=>true
 |_::_=>false
def G9(f:Expr->Option E)(a:List Expr):Option E:=match a with
 |[]=>none
 |_::r=>match Hx r with
  |true=>Cr f .X3 a
  |false=>DW f .WI a
def Hy(f:Expr->Option E)(e:Expr):Option E:=Hv (!CF e) ((f e).bind λe'=>Hv (CA e') (some e'))
def Dz(T:Tab)(a:Scope)(f:Expr->Option E)(e:Expr):Option E:=match BK e with
 |some c=>if c.1 = "range" then Hv (T.bt.contains c.1&&(a.names.lookup c.1==some .globalImplicit)&&!c.2.any isStar) (G9 f c.2)else Hy f e
 |none=>Hy f e
def CG(T:Tab)(a:Scope)(f:Expr->Option E)(b e:Expr):Option E:=Dz T a f e
def A3(scope a:Scope):Scope:={scope with names:=scope.names.map λ(n,k)=>if(k==.free&&a.kind==.function&&a.names.lookup n==some .cell)then(n,.cell)else(n,k)}
def GB:Expr->List Str
 |.Name x _=>[x]
 |.Tuple ts _ _=>ts.filterMap fun|.Name x _=>some x|_=>none
 |_=>[]
def ownOf(gs:List Comprehension):List Str:=(gs.map λg=>GB g.target).flatten
def freeOf(scope:Scope):List Str:=(scope.names.filter λx=>x.2==.free).map (·.1)
def Dh(scope b:Scope)(a fr:List Str):Bool:=
 (scope.kind==.function)&&(scope.names.all λx=>x.2 != .local||scope.names.lookup x.1==some .local)&&(scope.names.all λx=>x.2 != .cell||scope.names.lookup x.1==some .cell)&&(scope.names.all λx=>x.2 != .free||b.names.lookup x.1==some .cell)
  && (a.all λx=>scope.names.lookup x==some .local||scope.names.lookup x==some .cell)&&decide ((a++fr).Nodup)&&(fr.all λx=>scope.names.lookup x==some .free)
def Dv(T:Tab)(a:Scope)(N:List Str)(f:Expr->Option E):List Comprehension->Option (List (Tg×E×List E))
 |[]=>some []
 |g::r=>Hv (g.is_async==0) ((Ba false a N g.target).bind λt=>(CG T a f g.target g.iter).bind λit=>(Ac (g.ifs.map f)).bind λcs=>(Dv T a N f r).map λr'=>(t,it,cs)::r')
def Cg(T:Tab)(a:Scope)(c:Expr->Option E)(f:Str)(b:List Expr)(d:List Keyword):Option E:=none
def DH(T:Tab)(c:Expr->Option E)(o':E)(m:Str)(d b:Pos)(a:List Expr)(e:List Keyword):Option E:=none
def E4(f:Str)(n:Nat)(a:Str->Option Bi):Option Bi:=
 a f
def Hz(f:Str):Option Bi:=
 if f = "len" then some .len else
 if f = "abs" then some .abs else
 if f = "list" then some .list else
 if f = "sorted" then some .W9 else
 none
def setArg(b:List Expr):Option Expr:=match b with
 |[]=>none
 |e::b=>match b with
  |[]=>(BK e).bind λc=>if c.1 = "set" then(match c.2 with
   |[]=>none
   |a::as=>match as with
    |[]=>Hv (!isStar a) (some a)
    |_::_=>none)else none
  |_::_=>none
def EZ(T:Tab)(a:Scope)(N:List Str)(x:Str):Option E:=Hv (AS x) ((a.names.lookup x).bind λk=>match k with
 |.local=>(AE N x).map .L
 |.cell=>(AE N x).map .L
 |.free=>(AE N x).map .L
 |.globalImplicit=>(T.cs.lookup x).map .ZW
 |_=>none)
def Gw(v:Const):Option E:=match v with
 |.int i=>some (.ZW (.int i))
 |.bool b=>some (.ZW (.bl b))
 |.none=>some (.ZW .ZJ)
 |.str s=>some (.ZW (.str s))
 |_=>none
section
variable(T:Tab)(sc:Scope)(ce:Expr->Option E)
def HA(o:Operator)(a b:Expr):Option E:=(DL o).bind λo'=>(ce a).bind λa'=>(ce b).map (.ZS o' a')
def Fh(a:Expr)(o:CmpOp)(b:Expr):Option E:=Hv (!CF b) ((Cs o).bind λo'=>(ce a).bind λa'=>(ce b).map (.cmp o' a'))
def E5(a:Expr)(o q:CmpOp)(b c:Expr):Option E:=Hv (!CF c) ((Cs o).bind λo'=>(Cs q).bind λd=>(ce a).bind λa'=>(ce b).bind λb'=>(ce c).map (.chain o' d a' b'))
def Gb(a:Expr)(d:List CmpOp)(bs:List Expr):Option E:=match d with
 |[]=>none
 |o::d=>match bs with
  |[]=>none
  |b::bs=>match d with
   |[]=>Hv (Hx bs) (Fh ce a o b)
   |q::d=>match bs with
    |[]=>none
    |c::bs=>Hv (Hx d&&Hx bs) (E5 ce a o q b c)
def Gk(o:BoolOp)(c:List Expr)(pos:Pos):Option E:=match c with
 |[]=>none
 |a::c=>match c with
  |[]=>ce a
  |b::ZR=>match o with
   |.And=>(ce a).bind λa'=>(ce (.BoolOp .And (b::ZR) pos)).map (.and a')
   |.Or=>(ce a).bind λa'=>(ce (.BoolOp .Or (b::ZR) pos)).map (.or a')
def HB(o:UnaryOp)(a:Expr):Option E:=match o with
 |.Not=>(ce a).map .not
 |.USub=>(ce a).map .neg
 |_=>none
def FV(k:List E->E)(a:List Expr):Option E:=Hv (!a.any isStar) ((Ac (a.map ce)).map k)
def DY(lo:Option Expr):Option (Option E):=match lo with
 |none=>some none
 |some l=>(ce l).map some
def F0{a:Type}(o:Option a):Bool:=match o with
 |none=>true
 |some _=>false
def HC(a s:Expr):Option E:=match s with
 |.Slice lo hi st _=>match st with
  |none=>(ce a).bind λa'=>(DY ce lo).bind λb=>(DY ce hi).map (.W8 a' b)
  |some st=>none
 |_=>none
def DO(a s:Expr):Option E:=match B3 s with
 |true=>HC ce a s
 |false=>(ce a).bind λa'=>(ce s).map (.idx a')
def G6(a t:Expr):Option E:=(Hw t).bind λtn=>(C5 tn).bind λt=>(ce a).bind λa'=>Hv (T.bt.contains tn&&(sc.names.lookup tn==some .globalImplicit)) (some (.Yw a' t))
def G5(a t:Expr):Option E:=(Hw t).bind λ_=>G6 T sc ce a t
def Gq(b:List Expr):Option E:=match b with
 |[]=>none
 |a::b=>match b with
  |[]=>none
  |t::b=>Hv (Hx b) (G5 T sc ce a t)
def HD(f:Str)(a:List Expr):Option E:=(E4 f a.length Hz).bind λb=>Hv (!Hx a) ((Ac (a.map ce)).map (.bi b))
def HE(a:Expr):Option E:=Hv (T.bt.contains ("set" : Str)&&(sc.names.lookup ("set" : Str)==some .globalImplicit)) ((ce a).map λa'=>.bi .sset [a'])
def HF(f:Str)(b:List Expr):Option E:=
 if f = "sorted" then(match setArg b with
  |some a=>HE T sc ce a
  |none=>HD ce f b)else
 HD ce f b
def Dc(T:Tab)(a:Scope)(c:Expr->Option E)(f:Str)(b:List Expr):Option E:=
 if f = "isinstance" then Gq T a c b else
 HF T a c f b
def Gc(f:Str)(a:List Expr):Option E:=Hv (AS f&&!a.any isStar&&(sc.names.lookup f==some .globalImplicit)) (match AE T.J f with
 |some i=>(Ac (a.map ce)).map (.call i)
 |none=>match T.bt.contains f with
  |true=>Dc T sc ce f a
  |false=>Cg T sc ce f a [])
def HG(o':E)(m:Str)(d c:Pos)(b:List Expr):Option E:=
 if m = "append" then Cr ce (.app o') b else
 if m = "extend" then Cr ce (.ext o') b else
 if m = "pop" then(match b with
  |[]=>some (.pop o')
  |a::b=>Cr ce (.VI o') (a::b))else
 DH T ce o' m d c b []
def GS(o:Expr)(m:Str)(c b:Pos)(a:List Expr)(d:List Keyword):Option E:=Hv (!Cv o) ((ce o).bind λo'=>match d with
 |[]=>Hv (c.endLine==b.line&&!a.any isStar) (HG T ce o' m c b a)
 |k::d=>DH T ce o' m c b a (k::d))
def FL(fn:Expr)(b:List Expr)(a:List Keyword)(c:Pos):Option E:=match fn with
 |.Name f _=>match a with
  |[]=>Gc T sc ce f b
  |k::a=>Cg T sc ce f b (k::a)
 |.Attribute o m ap=>GS T ce o m ap c b a
 |_=>none
def FX(b:Expr->Option E)(a:List (Option Expr))(vs:List Expr):Option E:=match a with
 |[]=>Hv (Hx vs) (some .V6)
 |_::_=>none
def Ee(N:List Str)(b:Expr->Option E)(g:Comprehension)(a:List Comprehension)(scope:Scope):Option (List Nat×List (Tg×E×List E)):=
 Hv (Dh scope sc (ownOf (g :: a)) (freeOf scope) && (g.is_async == 0)) ((CG T sc ce g.target g.iter).bind λZt=>(Ba true scope (ownOf (g :: a)++freeOf scope) g.target).bind λt=>(Ac (g.ifs.map b)).bind λcs =>
  (Dv T (A3 scope sc) (ownOf (g::a)++freeOf scope) b a).bind λZz=>(Ac ((freeOf scope).map (AE N))).map λZs=>(Zs,(t,Zt,cs)::Zz))
end
def Ak(T:Tab)(c:Scope)(N:List Str):Nat->Expr->Option E
 |0,_=>none
 |n+1,e=>match e with
  |.Name x _=>EZ T c N x
  |.Constant v _ _=>Gw v
  |.BinOp a o b _=>HA (Ak T c N n) o a b
  |.Compare a os bs _=>Gb (Ak T c N n) a os bs
  |.BoolOp o es pos=>Gk (Ak T c N n) o es pos
  |.UnaryOp o a _=>HB (Ak T c N n) o a
  |.Tuple es _ _=>FV (Ak T c N n) .ZY es
  |.List es _=>FV (Ak T c N n) .Z5 es
  |.Subscript a s _=>DO (Ak T c N n) a s
  |.Call fn es Zc cp=>FL T c (Ak T c N n) fn es Zc cp
  |.Dict keys vs _=>FX (Ak T c N n) keys vs
  |.ListComp elt gs scope _=>match gs with
   |[]=>none
   |g::ZR=>(Ee T c (Ak T c N n) N (Ak T (A3 scope c) (ownOf (g::ZR)++freeOf scope) n) g ZR scope).bind λq=>(Ak T (A3 scope c) (ownOf (g::ZR)++freeOf scope) n elt).map (.comp (ownOf (g::ZR)).length q.1 q.2)
  |.DictComp f d gs scope _=>match gs with
   |[]=>none
   |g::ZR=>(Ee T c (Ak T c N n) N (Ak T (A3 scope c) (ownOf (g::ZR)++freeOf scope) n) g ZR scope).bind λq=>
    (Ak T (A3 scope c) (ownOf (g::ZR)++freeOf scope) n f).bind λk'=>(Ak T (A3 scope c) (ownOf (g::ZR)++freeOf scope) n d).map (.V5 (ownOf (g::ZR)).length q.1 q.2 k')
  |_=>none
def DU(a:Scope)(x:Str)(b:Pos)(scope:Scope)(p:Pos):Bool:=(a.names.lookup x==some .local)&&(b.line==p.line)&&!(scope.names.any λ(n,k)=>n==x&&(k==.local||k==.cell))
def HH(e:Expr):Option (Scope×Pos):=match e with
 |.ListComp _ gs scope p=>match gs with
  |[]=>none
  |_::_=>some (scope,p)
 |_=>none
def EV(a:Scope)(N:List Str)(c:Expr->Option E)(x:Str)(b:Pos)(e:Expr):Option Z6:=Hv (match HH e with
 |some q=>DU a x b q.1 q.2
 |none=>!BJ e) ((Bp true a N x).bind λi=>(c e).map (.set (.nm i)))
def EU(T:Tab)(b:Scope)(N:List Str)(a:Expr->Option E)(t e:Expr):Option Z6:=match t with
 |.Name x c=>EV b N a x c e
 |.Tuple ts k p=>match Cz e with
  |true=>none
  |false=>(Ba true b N (.Tuple ts k p)).bind λt=>(a e).map (.set t)
 |.Subscript o i _=>Hv (!B3 i&&!BJ e) ((a o).bind λo'=>(a i).bind λi'=>(a e).map (.sub o' i'))
 |_=>none
def GC(a:Expr->Option E)(t:Expr):Option Z6:=match t with
 |.Subscript o i _=>(a o).bind λo'=>(a i).map (.del o')
 |_=>none
def Bt(T:Tab)(d:Scope)(N:List Str):Nat->Stmt->Option Z6
 |0,_=>none
 |n+1,st=>match st with
  |.Return o _=>match o with
   |none=>none
   |some e=>(Ak T d N n e).map .ret
  |.Assign ts e _=>match ts with
   |[]=>none
   |t::r=>Hv (Hx r) (EU T d N (Ak T d N n) t e)
  |.Expr e _=>Hv (!BJ e) ((Ak T d N n e).map .exp)
  |.If c a b _=>(Ak T d N n c).bind λc'=>(Ac (a.map (Bt T d N n))).bind λa'=>(Ac (b.map (Bt T d N n))).map (.Zv c' a')
  |.While c b o _=>Hv (Hx o) ((Ak T d N n c).bind λc'=>(Ac (b.map (Bt T d N n))).map (.VH c'))
  |.For tg it b o _=>Hv (Hx o) ((Ba true d N tg).bind λt=>(CG T d (Ak T d N n) tg it).bind λZt=>(Ac (b.map (Bt T d N n))).map (.for t Zt))
  |.Raise _ _ _=>some .never
  |.Delete ts _=>match ts with
   |[]=>none
   |t::r=>Hv (Hx r) (GC (Ak T d N n) t)
  |_=>none
open PySem PySem.Spec PySem.Calls PyProof.Rows L2 PySem.W PySem.Builtin PySem.Builtin.ObjectAttr
def Ds:List (List Value):=[[.type "ZeroDivisionError",.type "ArithmeticError",.type "Exception",.type "BaseException",.type "object"],[.type "ValueError",.type "Exception",.type "BaseException",.type "object"],[.type "LookupError",.type "Exception",.type "BaseException",.type "object"],[.type "IndexError",.type "LookupError",.type "Exception",.type "BaseException",.type "object"]]
def AR:List Value->Bool
 |.ref _::r=>AR r
 |l=>Ds.contains l
def CP(K:Frag)(C:Addr):Bool:=(clsIn K C).any λa=>AR a.mro&&a.mro.contains (.type "object")&&!a.mro.isEmpty
open PySem PySem.Spec PyProof.Rows L2 PySem.W
noncomputable def glob(a:Scope)(x:Str):Bool:=a.names.lookup x==some .globalImplicit
def D8(a:List Expr):Option (Expr×Expr):=match a with
 |[]=>none
 |y::a=>match a with
  |[]=>none
  |z::a=>match a with
   |[]=>some (y,z)
   |_::_=>none
def FK(e:Expr):Option (Expr×Expr):=match e with
 |.Tuple ts _ _=>D8 ts
 |_=>none
def HI(c:Scope)(as:List (Str×Bool))(b:Expr):Option (Option U):=match Hw b with
 |some y=>Hv (glob c y) ((as.lookup y).map λb=>some (.bl b))
 |none=>(FK b).bind λq=>(Hw q.1).bind λy=>(Hw q.2).bind λz=>Hv (glob c y&&glob c z) ((as.lookup y).bind λa=>(as.lookup z).map λb=>some (.bl (a||b)))
def B9(d:List Str)(b:Scope)(n:Str)(fo:Option Str)(as:List (Str×Bool))(e:Expr):Option (Option U):=match e with
 |.Constant c _ _=>match c with
  |.str s=>some (some (.str s))
  |_=>none
 |.Attribute o f _=>(Hw o).bind λa=>Hv (decide (a=n)&&decide (fo=some f)) (some none)
 |.Call f es ks _=>match ks with
  |[]=>(Hw f).bind λf=>(D8 es).bind λq=>(Hw q.1).bind λa=>Hv (decide (f = "isinstance")&&decide (a=n)&&d.contains f&&glob b f) (HI b as q.2)
  |_::_=>none
 |_=>none
def D9(T:Tab)(x:Str):Option Nat:=T.xc.findIdx? (·.1==x)
def E8(d:List Str)(a:Scope)(x b c n y:Str)(e:List Expr):Bool:=d.contains y&&(b==x)&&AS c&&AS n&&AS y&&glob a c&&glob a y&&!e.any isStar&&(a.names.lookup n==some .local)
def Ci{b:Type}(l:List b):Option b:=match l with
 |[]=>none
 |a::r=>Hv (Hx r) (some a)
def DF(s:Stmt):Option (List Expr×Expr):=match s with
 |.Assign ts v _=>some (ts,v)
 |_=>none
def DN(a:List Stmt):Option (Str×Expr):=(Ci a).bind λs=>(DF s).bind λq=>(Ci q.1).bind λt=>(Hw t).map λx=>(x,q.2)
def Fy(a:List ExceptHandler):Option (Str×Str×List Stmt):=match a with
 |[]=>none
 |.ExceptHandler c n b _::r=>Hv (Hx r) (c.bind λc=>(Hw c).bind λc=>n.map λn=>(c,n,b))
def Ge(e:Expr):Option (List Expr):=match e with
 |.Tuple vs _ _=>some vs
 |_=>none
section
variable(T:Tab)(sc:Scope)(N:List Str)(ce:Expr->Option E)(cs:Stmt->Option Z6)
def HJ(c:Str×List Expr):Option Z6:=match c.2 with
 |[]=>none
 |a::es=>Hv (AS c.1&&glob sc c.1&&!(a::es).any isStar) ((D9 T c.1).bind λk=>(Ac ((a::es).map ce)).bind λes'=>T.xc[k]?.bind λq=>Hv (q.2.1.isNone||Hx es) (some (.raise k es')))
def HK(x:Str)(d:Str×List Expr)(c n:Str)(f:Str)(b:List Expr):Option Z6:=match d.2 with
 |[]=>none
 |a::es=>Hv (E8 T.fs sc x f c n d.1 (a::es)) ((Bp true sc N x).bind λj=>(AE N n).bind λi=>(AE T.J d.1).bind λg=>(D9 T c).bind λe=>(Ac ((a::es).map ce)).bind λes'=>Hv (!decide (i=j)) (T.xc[e]?.bind λq=>(Ac (b.map (B9 T.bt sc n q.2.1 q.2.2))).map λS=>.UZ j g es' e S))
end
def CB(T:Tab)(d:Scope)(N:List Str):Nat->Stmt->Option Z6
 |0,_=>none
 |m+1,st=>match st with
  |.If c a b _=>(Ak T d N m c).bind λc'=>(Ac (a.map (CB T d N m))).bind λa'=>(Ac (b.map (CB T d N m))).map λb'=>.V4 c' a' b'
  |.Raise e c _=>Hv (F0 c) (e.bind λe=>(BK e).bind (HJ T d (Ak T d N m)))
  |.Try b hs o f _=>Hv (Hx o&&Hx f) ((DN b).bind λp=>(BK p.2).bind λj=>(Fy hs).bind λh=>(DN h.2.2).bind λi=>(Ge i.2).bind λg=>HK T d N (Ak T d N m) p.1 j h.1 h.2.1 i.1 g)
  |st=>(Bt T d N m st).map λs=>.Zh [s]
open PySem PySem.Spec PyProof.Rows L2
def Ca(T:Tab)(x:Str)(a:Scope)(N:List Str)(m:Nat):Stmt->Option Z6:=if T.fs.contains x then CB T a N m else Bt T a N m
open PySem PySem.Spec PyProof.Rows L2 PySem.W
def BV:Nat->List Obj->Frag
 |_,[]=>[]
 |n,o::r=>match o.data with
  |.freed=>BV (n+1) r
  |_=>(n,o)::BV (n+1) r
def AJ(h:Heap):Frag:=BV 0 h.objs.toList
set_option genInjectivity false in
structure Inf where
 x:Str
 N:List Str
 ps:List Str
 cm:Option (Str×Str)
def Cu(N b:List Str)(a:Scope):Bool:=
 decide (a.kind=.function)&&!a.isCoroutine&&!a.isGenerator&&decide N.Nodup&&decide (N.take b.length=b)&&b.all (λx=>decide (a.names.lookup x=some .local)||decide (a.names.lookup x=some .cell))&&a.names.all λy=>decide (y.2 ≠ .free)
def CJ(a:List Str)(p:Arguments):Bool:=p.posonlyargs.isEmpty&&decide (p.args.map (·.arg)=a)&&p.vararg.isNone&&p.kwonlyargs.isEmpty&&p.kwarg.isNone
def D6:Value->Bool
 |.none=>true
 |_=>false
def CW:U->Value->Bool
 |.int i,.int j _=>decide (i=j)
 |.ZJ,.none=>true
 |.bl b,.bool c=>b==c
 |.str s,.str t _=>decide (s=t)
 |_,_=>false
def CI:List U->List Value->Bool
 |[],[]=>true
 |u::S,v::vs=>CW u v&&CI S vs
 |_,_=>false
def HL(K:Frag):U->Value->Bool
 |.xn _ S,.ref a=>match K.lookup a with
  |some ⟨.type "tuple",_,.seq ZU _,_⟩=>decide (ZU.size<=1000)&&CI S ZU.toList
  |_=>false
 |_,_=>false
def DR(K:Frag)(u:U)(v:Value):Bool:=CW u v||HL K u v
def HM(K:Frag)(c:Str×U):Bool:=match nsIn K mainGlobals c.1 with
 |some (some val)=>DR K c.2 val
 |_=>false
open PySem PySem.Spec PyProof.Rows L2 PySem.W PySem.Calls
def Dq:List (List Value×String):=[([.type "ZeroDivisionError",.type "ArithmeticError",.type "Exception",.type "BaseException",.type "object"],"ZeroDivisionError.__new__"),([.type "ValueError",.type "Exception",.type "BaseException",.type "object"],"ValueError.__new__"),([.type "LookupError",.type "Exception",.type "BaseException",.type "object"],"LookupError.__new__")]
def HN:Value->Option Addr
 |.ref a=>some a
 |_=>none
def DC(K:Frag)(C:Addr):Bool:=(findIn K (.ref C) "__getattribute__" == some (some (.builtin "BaseException.__getattribute__")))&&(findIn K (.ref C) "__getattr__" == some none)&&(mroIn K C (.type "BaseException")==some true)&&(findIn K (.ref C) "__class__" == some (some (.builtin "object.__class__"))) &&
 (specialIn K (.builtin "object.__class__") "__get__" == some (some (.builtin "getset_descriptor.__get__")))&&(takesIn K (.builtin "object.__class__")==some true)&&(mroIn K C (.type "object")==some true)&&(clsIn K C).isSome
def Fs(K:Frag)(C:Addr)(y:Str)(b:Bool):Bool:=AS y&&match nsIn K mainGlobals y with
 |some none=>match bootBuiltins y with
  |some (.type T)=>kitOne K (.ref C) (.type T)==some b
  |_=>false
 |some (some (.ref D))=>kitOne K (.ref C) (.ref D)==some b
 |_=>false
def Gu(K:Frag)(C:Addr)(a:List Value):List Value->Bool
 |[]=>false
 |v::bm=>(v==.ref C)&&tailIn K a bm
def HP(K:Frag)(C:Addr)(c:List Value)(b:Addr)(a:ClassData):Bool:=!a.hasDel&&Gu K C c a.mro&&nsOkIn K a.ns&&(nsIn K a.ns "__init__" == some (some (.ref b)))
def Dr(K:Frag)(C:Addr)(b:List Value)(newId:String)(a:Addr):Bool:=match K.lookup C with
 |none=>false
 |some o=>(o.cls==.type "type")&&decide (o.slots.size=6)&&(o.slots[4]? == some (some (.builtin newId)))&&(clsIn K C).any (HP K C b a)
def GF(K:Frag)(C:Addr):Option Addr:=(clsIn K C).bind λa=>match nsIn K a.ns "__init__" with
 |some v=>v.bind HN
 |none=>none
def HQ(e:Expr):Option (Str×Str):=match e with
 |.Attribute o f _=>(Hw o).map λx=>(x,f)
 |_=>none
def Gs(b:List Stmt):Option ((Str×Str)×Str):=(Ci b).bind λs=>(DF s).bind λq=>(Ci q.1).bind λt=>(HQ t).bind λa=>(Hw q.2).map λp=>(a,p)
def FR(K:Frag)(a:Addr):Option FuncData:=(K.lookup a).bind λo=>Hv (o.cls==.type "function") (match o.data with
 |.func fd=>some fd
 |_=>none)
def E6:FuncBody->Option (List Stmt)
 |.stmts b=>some b
 |_=>none
def E2(K:Frag)(a:Addr)(f:Str):Bool:=(FR K a).any λfd=>(fd.globals==mainGlobals)&&fd.closure.isEmpty&&D6 fd.defaults&&(fd.builtins==builtinsNs)&&codeIn K fd.code fd.qualname &&
 ((E6 fd.body).bind Gs).any λq=>decide (q.1.2=f)&&Cu [q.1.1,q.2] [q.1.1,q.2] fd.scope&&CJ [q.1.1,q.2] fd.params&&AS q.1.1&&AS q.2
def setB(K:Frag)(C:Addr)(f:Str):Bool:=(findIn K (.ref C) "__setattr__" == some (some (.builtin "object.__setattr__")))&&CP K C&&(takerIn K C f==some none)&&hasDictIn K C&&(findIn K (.ref C) f==some none)
def HR(K:Frag)(C:Addr):Option Str->Bool
 |none=>false
 |some f=>match GF K C with
  |some fI=>(Dq.any λb=>Dr K C b.1 b.2 fI)&&E2 K fI f&&setB K C f
  |none=>false
def Cy(K:Frag)(c:Str×Option Str×List (Str×Bool)):Option Addr:=match nsIn K mainGlobals c.1 with
 |some (some (.ref C))=>if HR K C c.2.1&&DC K C&&c.2.2.all λa=>Fs K C a.1 a.2 then some C else none
 |_=>none
open PySem PySem.Spec PyProof.Rows L2 PySem.W
def Fe(x q:Str)(fd:FuncData):Bool:=decide (fd.name=x)&&decide (fd.qualname=q)&&(fd.globals==mainGlobals)&&fd.closure.isEmpty&&(fd.builtins==builtinsNs)
def Gi(K:Frag)(i:Inf)(fd:FuncData):Bool:=CJ i.ps fd.params&&D6 fd.defaults
def DJ(K:Frag)(i:Inf):Option Addr:=match i.cm with
 |none=>match nsIn K mainGlobals i.x with
  |some (some (.ref a))=>some a
  |_=>none
 |some _=>none
noncomputable def Inf.nm(i:Inf):Str:=match i.cm with|none=>i.x|some c=>c.2
def Bw(K:Frag)(i:Inf):Option (Scope×List Stmt):=match DJ K i with
 |some a=>match K.lookup a with
  |some ⟨_,_,.func fd,_⟩=>match fd.body with
   |.stmts b=>if Fe i.nm i.x fd&&Cu i.N i.ps fd.scope&&Gi K i fd&&codeIn K fd.code i.x&&keepIn K (.ref a)then some (fd.scope,b)else none
   |_=>none
  |_=>none
 |none=>none
def mkF(T:Tab)(q:Inf×Option (Scope×List Stmt)):Option Fn:=match q.2 with
 |some r=>(Ac (r.2.map (Ca T q.1.x r.1 q.1.N 60))).map λb'=>⟨q.1.ps.length,q.1.N.length,b'⟩
 |none=>none
def HS(T:Tab)(K:Frag):Bool:=T.bt.all (λx=>(nsIn K mainGlobals x).any Option.isNone)&&T.xc.all (λc=>(Cy K c).isSome)
open PySem PySem.Spec PyProof.Rows L2 PySem.W PySem.Calls
noncomputable section
def FP(p:Program)(w:World)(N:Nat)(ZF : Shared):Option Shared:=
 match ZF.heap.isNs mainGlobals&&ZF.gens.size==0 with
 |true=>(Fast.tw14082659384304107361 Fast.tw14364793385576792824 p w ZF.heap.objs.size (ZF.heap.nsMap mainGlobals "__annotations__") N ZF (topStub p)).bind λa=>match staticsOk (importedModules p.main.body) ZF.heap a.heap&&namesBound p a.heap&&gensDone a && laidKept ZF.heap a.heap with
   |true=>some a
   |false=>none
 |false=>none
def endsF(p:Program)(w:World)(N:Nat):Option Shared:=
 ((Fast.tw10274390034422433532 Fast.tw14364793385576792824 (opening p) w N (Fast.tw1435165496053646825 (opening p)).1 (Fast.tw1435165496053646825 (opening p)).2).bind (Fast.tw14289696077712309145 p)).bind (FP p w N)
def lastOf(p:Program):Program:={p with main:={p.main with body:=p.main.body.drop (p.main.body.length-1)}}
def D7(T:Tab)(K:Frag)(is:List Inf):Bool:=HS T K&&T.cs.all (HM K)
def Ai(b:List Stmt)(n:Nat):Option (Scope×List Stmt):=match b[n]? with
 |some (.FunctionDef _ _ b _ _ _ sc _ _ _)=>some (sc,b)
 |_=>none
end
end
end PI
section
namespace ZD
open PI
def EM:Fn:=⟨2,7,[(.set (.tp [2,3,4]) (.L 0)),(.set (.tp [5,6]) (.L 1)),(.ret (.and (.chain .le .le (.ZW (.int 0)) (.L 5) (.ZS .mul (.L 2) (.L 4))) (.chain .le .le (.ZW (.int 0)) (.L 6) (.ZS .mul (.L 3) (.L 4)))))]⟩
def Ep:Fn:=⟨2,2,[(.V4 (.not (.call 0 [.L 0,.L 1])) [(.raise 0 [.L 1])] [])]⟩
def Ey:Fn:=⟨2,5,[(.exp (.call 1 [.L 0,.L 1])),(.set (.nm 2) (.idx (.L 0) (.ZW (.int 2)))),(.set (.tp [3,4]) (.L 1)),(.ret (.and (.cmp .eq (.ZS .mod (.L 3) (.L 2)) (.ZW (.int 0))) (.cmp .eq (.ZS .mod (.L 4) (.L 2)) (.ZW (.int 0)))))]⟩
def EI:Fn:=⟨2,2,[(.V4 (.call 2 [.L 0,.L 1]) [(.raise 1 [.L 1])] [])]⟩
def EO:Fn:=⟨1,4,[(.set (.tp [1,2]) (.L 0)),(.for (.nm 3) (.ZY [(.ZW (.int 4)),(.ZW (.int 2))]) [(.Zv (.and (.cmp .eq (.ZS .mod (.L 1) (.L 3)) (.ZW (.int 0))) (.cmp .eq (.ZS .mod (.L 2) (.L 3)) (.ZW (.int 0)))) [(.ret (.L 3))] [])]),(.ret (.ZW (.int 1)))]⟩
def Ex:Fn:=⟨1,4,[(.set (.tp [1,2]) (.L 0)),(.set (.nm 3) (.call 4 [.L 0])),(.ret (.and (.cmp .eq (.ZS .mod (.ZS .fdiv (.L 1) (.L 3)) (.ZW (.int 2))) (.ZW (.int 1))) (.cmp .eq (.ZS .mod (.ZS .fdiv (.L 2) (.L 3)) (.ZW (.int 2))) (.ZW (.int 1)))))]⟩
def Es:Fn:=⟨1,6,[(.set (.tp [1,2]) (.L 0)),(.set (.nm 3) (.call 4 [.L 0])),(.set (.nm 4) (.ZY [(.ZY [(.ZS .sub (.L 1) (.L 3)),.L 2]),(.ZY [(.ZS .add (.L 1) (.L 3)),.L 2])])),(.set (.nm 5) (.ZY [(.ZY [.L 1,(.ZS .sub (.L 2) (.L 3))]),(.ZY [.L 1,(.ZS .add (.L 2) (.L 3))])])),(.Zv (.cmp .eq (.ZS .mod (.ZS .fdiv (.L 1) (.L 3)) (.ZW (.int 2))) (.ZW (.int 1))) [(.ret (.ZY [.L 4,.L 5]))] []),(.ret (.ZY [.L 5,.L 4]))]⟩
def Eg:Fn:=⟨1,6,[(.set (.tp [1,2]) (.L 0)),(.set (.nm 3) (.call 4 [.L 0])),(.set (.nm 4) (.ZY [(.ZY [(.ZS .sub (.L 1) (.L 3)),(.ZS .sub (.L 2) (.L 3))]),(.ZY [(.ZS .add (.L 1) (.L 3)),(.ZS .add (.L 2) (.L 3))])])),(.set (.nm 5) (.ZY [(.ZY [(.ZS .sub (.L 1) (.L 3)),(.ZS .add (.L 2) (.L 3))]),(.ZY [(.ZS .add (.L 1) (.L 3)),(.ZS .sub (.L 2) (.L 3))])])),(.Zv (.cmp .eq (.ZS .mod (.ZS .add (.ZS .fdiv (.ZS .sub (.L 1) (.L 3)) (.ZS .mul (.ZW (.int 2)) (.L 3))) (.ZS .fdiv (.ZS .sub (.L 2) (.L 3)) (.ZS .mul (.ZW (.int 2)) (.L 3)))) (.ZW (.int 2))) (.ZW (.int 0))) [(.ret (.ZY [.L 4,.L 5]))] []),(.ret (.ZY [.L 5,.L 4]))]⟩
def ES:Fn:=⟨1,1,[(.Zv (.call 5 [.L 0]) [(.ret (.call 7 [.L 0]))] []),(.ret (.call 6 [.L 0]))]⟩
def EK:Fn:=⟨2,3,[(.exp (.call 3 [.L 0,.L 1])),(.set (.nm 2) (.idx (.call 8 [.L 1]) (.ZW (.int 1)))),(.ret (.comp 1 [0] [((.nm 0),.L 2,[(.and (.call 0 [.L 1,.L 0]) (.not (.call 2 [.L 1,.L 0])))])] (.L 0)))]⟩
def ED:Fn:=⟨2,7,[(.exp (.call 3 [.L 0,.L 1])),(.set (.tp [2,3]) (.L 1)),(.set (.nm 4) (.call 4 [.L 1])),(.Zv (.call 5 [.L 1]) [(.set (.nm 5) (.Z5 [(.ZY [(.ZS .sub (.L 2) (.L 4)),.L 3]),(.ZY [.L 2,(.ZS .sub (.L 3) (.L 4))]),(.ZY [.L 2,(.ZS .add (.L 3) (.L 4))]),(.ZY [(.ZS .add (.L 2) (.L 4)),.L 3])]))] [(.Zv (.cmp .gt (.L 4) (.ZW (.int 1))) [(.set (.nm 6) (.ZS .fdiv (.L 4) (.ZW (.int 2)))),(.set (.nm 5) (.Z5 [(.ZY [(.ZS .sub (.L 2) (.L 6)),(.ZS .sub (.L 3) (.L 6))]),(.ZY [(.ZS .sub (.L 2) (.L 6)),(.ZS .add (.L 3) (.L 6))]),(.ZY [(.ZS .add (.L 2) (.L 6)),(.ZS .sub (.L 3) (.L 6))]),(.ZY [(.ZS .add (.L 2) (.L 6)),(.ZS .add (.L 3) (.L 6))])]))] [(.set (.nm 5) (.Z5 []))])]),(.ret (.comp 1 [0] [((.nm 0),.L 5,[(.call 0 [.L 1,.L 0])])] (.L 0)))]⟩
def EH:Fn:=⟨2,3,[(.for (.nm 2) (.L 1) [(.exp (.call 3 [.L 0,.L 2]))]),(.ret (.V5 1 [] [((.nm 0),(.bi .sset [.L 1]),[])] (.L 0) (.ZW (.bl true))))]⟩
def EL:Fn:=⟨3,3,[(.ret (.comp 1 [1] [((.nm 0),(.call 9 [.L 0,.L 2]),[(.cmp .Yy (.L 0) (.L 1))])] (.L 0)))]⟩
def EN:Fn:=⟨2,5,[(.set (.nm 2) (.call 11 [.L 0,.L 1])),(.set (.nm 3) (.bi .list [.L 2])),(.VH (.L 3) [(.set (.nm 4) (.pop (.L 3))),(.Zv (.and (.cmp .Xl (.L 4) (.L 2)) (.call 12 [.L 0,.L 2,.L 4])) [(.del (.L 2) (.L 4)),(.exp (.ext (.L 3) (.call 10 [.L 0,.L 4])))] [])]),(.ret (.bi .W9 [.L 2]))]⟩
def ET:Fn:=⟨3,6,[(.Zh [(.set (.nm 3) (.call 11 [.L 0,.L 1]))]),(.Zh [(.exp (.call 3 [.L 0,.L 2]))]),(.Zh [(.set (.nm 4) (.call 11 [.L 0,(.call 13 [.L 0,.L 1])]))]),(.V4 (.cmp .Xl (.L 2) (.L 4)) [(.raise 2 [.L 2])] []),(.Zh [(.set (.nm 5) (.Z5 [.L 2]))]),(.Zh [(.VH (.cmp .Xl (.idx (.L 5) (.neg (.ZW (.int 1)))) (.L 3)) [(.exp (.app (.L 5) (.idx (.call 12 [.L 0,.L 4,(.idx (.L 5) (.neg (.ZW (.int 1))))]) (.ZW (.int 0)))))])]),(.Zh [(.ret (.L 5))])]⟩
def Eo:Fn:=⟨1,1,[(.ret (.and (.Yw (.L 0) .U2) (.not (.Yw (.L 0) .U1))))]⟩
def EA:Fn:=⟨2,3,[(.Zv (.cmp .U3 (.L 1) (.ZW .ZJ)) [(.ret (.cmp .U3 (.L 0) (.ZW .ZJ)))] []),(.Zv (.Yw (.L 1) .U1) [(.ret (.and (.Yw (.L 0) .U1) (.cmp .eq (.L 0) (.L 1))))] []),(.Zv (.Yw (.L 1) .U2) [(.ret (.and (.call 15 [.L 0]) (.cmp .eq (.L 0) (.L 1))))] []),(.Zv (.Yw (.L 1) .Uq) [(.ret (.and (.Yw (.L 0) .Uq) (.cmp .eq (.L 0) (.L 1))))] []),(.Zv (.and (.Yw (.L 1) .Uo) (.not (.Yw (.L 0) .Uo))) [(.ret (.ZW (.bl false)))] []),(.Zv (.and (.Yw (.L 1) .U0) (.not (.Yw (.L 0) .U0))) [(.ret (.ZW (.bl false)))] []),(.Zv (.cmp .ne (.bi .len [.L 0]) (.bi .len [.L 1])) [(.ret (.ZW (.bl false)))] []),(.for (.nm 2) (.X3 (.bi .len [.L 1])) [(.Zv (.not (.call 16 [(.idx (.L 0) (.L 2)),(.idx (.L 1) (.L 2))])) [(.ret (.ZW (.bl false)))] [])]),(.ret (.ZW (.bl true)))]⟩
def EF:Fn:=⟨1,1,[(.ret (.Z5 [(.bi .list [(.W8 (.L 0) none (some (.ZW (.int 63))))]),(.ZW (.int 0)),(.ZW (.int 7))]))]⟩
def Eu:Fn:=⟨2,5,[(.set (.nm 2) (.idx (.L 0) (.ZW (.int 0)))),(.set (.nm 3) (.idx (.L 0) (.ZW (.int 1)))),(.set (.nm 4) (.ZW (.int 0))),(.Zv (.cmp .gt (.bi .len [.L 2]) (.ZW (.int 0))) [(.set (.nm 4) (.idx (.L 2) (.ZS .mod (.L 3) (.bi .len [.L 2]))))] []),(.Zv (.cmp .lt (.L 4) (.ZW (.int 0))) [(.set (.nm 4) (.ZS .sub (.ZW (.int 1)) (.L 4)))] []),(.Zv (.cmp .ge (.L 4) (.ZS .pow (.ZW (.int 10)) (.ZW (.int 18)))) [(.sub (.L 2) (.ZS .mod (.L 3) (.bi .len [.L 2])) (.ZS .fdiv (.L 4) (.L 1))),(.ret (.ZS .mod (.L 4) (.L 1)))] []),(.sub (.L 0) (.ZW (.int 1)) (.ZS .add (.L 3) (.ZW (.int 1)))),(.sub (.L 0) (.ZW (.int 2)) (.ZS .mod (.ZS .add (.ZS .add (.ZS .add (.ZS .mul (.idx (.L 0) (.ZW (.int 2))) (.ZW (.int 48271))) (.ZS .mul (.L 4) (.ZW (.int 9973)))) (.ZS .mul (.L 3) (.ZW (.int 31)))) (.ZW (.int 11))) (.ZW (.int 2147483647)))),(.ret (.ZS .mod (.ZS .fdiv (.ZS .mod (.ZS .mul (.idx (.L 0) (.ZW (.int 2))) (.ZW (.int 69621))) (.ZW (.int 2147483629))) (.ZW (.int 64))) (.L 1)))]⟩
def EB:Fn:=⟨1,2,[(.set (.nm 1) (.Z5 [(.ZY [(.ZW (.int 1)),(.ZW (.int 1)),(.ZW (.int 2))]),(.ZY [(.ZW (.int 1)),(.ZW (.int 1)),(.ZW (.int 4))]),(.ZY [(.ZW (.int 2)),(.ZW (.int 1)),(.ZW (.int 2))]),(.ZY [(.ZW (.int 1)),(.ZW (.int 2)),(.ZW (.int 2))]),(.ZY [(.ZW (.int 2)),(.ZW (.int 2)),(.ZW (.int 2))]),(.ZY [(.ZW (.int 1)),(.ZW (.int 1)),(.ZW (.int 4))])])),(.set (.nm 1) (.ZS .add (.L 1) (.Z5 [(.ZY [(.ZW (.int 3)),(.ZW (.int 1)),(.ZW (.int 2))]),(.ZY [(.ZW (.int 1)),(.ZW (.int 3)),(.ZW (.int 2))]),(.ZY [(.ZW (.int 2)),(.ZW (.int 1)),(.ZW (.int 4))]),(.ZY [(.ZW (.int 1)),(.ZW (.int 2)),(.ZW (.int 4))]),(.ZY [(.ZW (.int 3)),(.ZW (.int 2)),(.ZW (.int 2))]),(.ZY [(.ZW (.int 1)),(.ZW (.int 1)),(.ZW (.int 8))])]))),(.ret (.idx (.L 1) (.call 18 [.L 0,(.ZW (.int 12))])))]⟩
def Em:Fn:=⟨1,4,[(.set (.nm 1) (.Z5 [])),(.for (.nm 2) (.X3 (.ZS .add (.ZS .mul (.idx (.L 0) (.ZW (.int 0))) (.idx (.L 0) (.ZW (.int 2)))) (.ZW (.int 1)))) [(.for (.nm 3) (.X3 (.ZS .add (.ZS .mul (.idx (.L 0) (.ZW (.int 1))) (.idx (.L 0) (.ZW (.int 2)))) (.ZW (.int 1)))) [(.exp (.app (.L 1) (.ZY [.L 2,.L 3])))])]),(.ret (.L 1))]⟩
def El:Fn:=⟨2,2,[(.ret (.and (.cmp .eq (.ZS .mod (.idx (.L 1) (.ZW (.int 0))) (.idx (.L 0) (.ZW (.int 2)))) (.ZW (.int 0))) (.cmp .eq (.ZS .mod (.idx (.L 1) (.ZW (.int 1))) (.idx (.L 0) (.ZW (.int 2)))) (.ZW (.int 0)))))]⟩
def Ew:Fn:=⟨1,1,[(.ret (.comp 1 [0] [((.nm 0),(.call 20 [.L 0]),[(.not (.call 21 [.L 1,.L 0]))])] (.L 0)))]⟩
def EJ:Fn:=⟨2,2,[(.ret (.and (.chain .le .le (.ZW (.int 0)) (.idx (.L 1) (.ZW (.int 0))) (.ZS .mul (.idx (.L 0) (.ZW (.int 0))) (.idx (.L 0) (.ZW (.int 2))))) (.chain .le .le (.ZW (.int 0)) (.idx (.L 1) (.ZW (.int 1))) (.ZS .mul (.idx (.L 0) (.ZW (.int 1))) (.idx (.L 0) (.ZW (.int 2)))))))]⟩
def Et:Fn:=⟨1,1,[(.Zv (.and (.cmp .eq (.ZS .mod (.idx (.L 0) (.ZW (.int 0))) (.ZW (.int 4))) (.ZW (.int 0))) (.cmp .eq (.ZS .mod (.idx (.L 0) (.ZW (.int 1))) (.ZW (.int 4))) (.ZW (.int 0)))) [(.ret (.ZW (.int 4)))] []),(.Zv (.and (.cmp .eq (.ZS .mod (.idx (.L 0) (.ZW (.int 0))) (.ZW (.int 2))) (.ZW (.int 0))) (.cmp .eq (.ZS .mod (.idx (.L 0) (.ZW (.int 1))) (.ZW (.int 2))) (.ZW (.int 0)))) [(.ret (.ZW (.int 2)))] []),(.ret (.ZW (.int 1)))]⟩
def Eh:Fn:=⟨1,2,[(.set (.nm 1) (.call 24 [.L 0])),(.ret (.and (.cmp .eq (.ZS .mod (.ZS .fdiv (.idx (.L 0) (.ZW (.int 0))) (.L 1)) (.ZW (.int 2))) (.ZW (.int 1))) (.cmp .eq (.ZS .mod (.ZS .fdiv (.idx (.L 0) (.ZW (.int 1))) (.L 1)) (.ZW (.int 2))) (.ZW (.int 1)))))]⟩
def Ei:Fn:=⟨1,8,[(.set (.nm 1) (.call 24 [.L 0])),(.set (.tp [2,3]) (.L 0)),(.set (.nm 4) (.Z5 [(.ZY [(.ZS .sub (.L 2) (.L 1)),.L 3]),(.ZY [(.ZS .add (.L 2) (.L 1)),.L 3])])),(.set (.nm 5) (.Z5 [(.ZY [.L 2,(.ZS .sub (.L 3) (.L 1))]),(.ZY [.L 2,(.ZS .add (.L 3) (.L 1))])])),(.set (.nm 6) (.Z5 [(.ZY [(.ZS .sub (.L 2) (.L 1)),(.ZS .sub (.L 3) (.L 1))]),(.ZY [(.ZS .add (.L 2) (.L 1)),(.ZS .add (.L 3) (.L 1))])])),(.set (.nm 7) (.Z5 [(.ZY [(.ZS .sub (.L 2) (.L 1)),(.ZS .add (.L 3) (.L 1))]),(.ZY [(.ZS .add (.L 2) (.L 1)),(.ZS .sub (.L 3) (.L 1))])])),(.Zv (.call 25 [.L 0]) [(.Zv (.cmp .eq (.ZS .mod (.ZS .fdiv (.ZS .sub (.ZS .add (.ZS .sub (.L 2) (.L 1)) (.L 3)) (.L 1)) (.ZS .mul (.ZW (.int 2)) (.L 1))) (.ZW (.int 2))) (.ZW (.int 0))) [(.ret (.Z5 [.L 6,.L 7]))] []),(.ret (.Z5 [.L 7,.L 6]))] []),(.Zv (.cmp .eq (.ZS .mod (.ZS .fdiv (.L 2) (.L 1)) (.ZW (.int 2))) (.ZW (.int 1))) [(.ret (.Z5 [.L 4,.L 5]))] []),(.ret (.Z5 [.L 5,.L 4]))]⟩
def EG:Fn:=⟨2,2,[(.ret (.comp 1 [0] [((.nm 0),(.idx (.call 26 [.L 1]) (.ZW (.int 1))),[(.and (.call 23 [.L 1,.L 0]) (.not (.call 21 [.L 1,.L 0])))])] (.L 0)))]⟩
def EE:Fn:=⟨1,3,[(.set (.nm 1) .V6),(.for (.nm 2) (.L 0) [(.sub (.L 1) (.L 2) (.ZW (.bl true)))]),(.ret (.L 1))]⟩
def Ej:Fn:=⟨2,3,[(.for (.nm 2) (.L 0) [(.Zv (.cmp .Yy (.L 2) (.L 1)) [(.ret (.ZW (.bl false)))] [])]),(.ret (.ZW (.bl true)))]⟩
def Ek:Fn:=⟨2,5,[(.set (.nm 2) .V6),(.set (.nm 3) (.bi .list [.L 1])),(.VH (.cmp .gt (.bi .len [.L 3]) (.ZW (.int 0))) [(.set (.nm 4) (.pop (.L 3))),(.Zv (.cmp .Yy (.L 4) (.L 2)) [(.sub (.L 2) (.L 4) (.ZW (.bl true))),(.exp (.ext (.L 3) (.call 27 [.L 0,.L 4])))] [])]),(.ret (.bi .W9 [.L 2]))]⟩
def Ez:Fn:=⟨2,5,[(.set (.nm 2) (.bi .W9 [(.call 28 [.L 1])])),(.for (.nm 3) (.X3 (.ZW (.int 8))) [(.set (.nm 4) (.call 28 [.L 2])),(.set (.nm 2) (.comp 1 [0,4] [((.nm 0),.L 2,[(.call 29 [(.call 27 [.L 1,.L 0]),.L 2])])] (.L 0)))]),(.ret (.L 2))]⟩
def En:Fn:=⟨2,4,[(.set (.nm 2) (.call 22 [.L 1])),(.set (.nm 3) (.call 18 [.L 0,(.ZW (.int 11))])),(.Zv (.cmp .eq (.L 3) (.ZW (.int 0))) [(.ret (.Z5 []))] []),(.Zv (.cmp .eq (.L 3) (.ZW (.int 1))) [(.ret (.L 2))] []),(.Zv (.cmp .lt (.L 3) (.ZW (.int 4))) [(.ret (.comp 1 [0] [((.nm 0),.L 2,[(.cmp .eq (.call 18 [.L 1,(.ZW (.int 2))]) (.ZW (.int 1)))])] (.L 0)))] []),(.Zv (.cmp .lt (.L 3) (.ZW (.int 6))) [(.ret (.comp 1 [0] [((.nm 0),.L 2,[(.cmp .gt (.call 18 [.L 1,(.ZW (.int 5))]) (.ZW (.int 0)))])] (.L 0)))] []),(.ret (.comp 1 [0,2] [((.nm 0),(.X3 (.ZS .add (.ZW (.int 1)) (.call 18 [.L 0,(.ZW (.int 7))]))),[])] (.idx (.L 2) (.call 18 [.L 1,(.bi .len [.L 2])]))))]⟩
def EC:Fn:=⟨3,5,[(.Zh [(.set (.nm 3) (.ZW .ZJ))]),(.UZ 3 14 [.L 0,.L 1,.L 2] 2 [(some (.str (PySem.Str.ofString "refused"))),none,(some (.bl true)),(some (.bl false))]),(.Zh [(.ret (.L 3))])]⟩
def Er:Fn:=⟨4,5,[(.Zv (.or (.not (.Yw (.L 3) .U0)) (.or (.cmp .eq (.bi .len [.L 3]) (.ZW (.int 0))) (.cmp .gt (.bi .len [.L 3]) (.ZW (.int 9))))) [(.ret (.ZW (.bl false)))] []),(.Zv (.not (.call 16 [(.idx (.L 3) (.ZW (.int 0))),.L 2])) [(.ret (.ZW (.bl false)))] []),(.for (.nm 4) (.WI (.ZW (.int 1)) (.bi .len [.L 3])) [(.Zv (.or (.cmp .Yy (.idx (.L 3) (.ZS .sub (.L 4) (.ZW (.int 1)))) (.L 1)) (.cmp .Yy (.idx (.L 3) (.L 4)) (.call 27 [.L 0,(.idx (.L 3) (.ZS .sub (.L 4) (.ZW (.int 1))))]))) [(.ret (.ZW (.bl false)))] []),(.Zv (.not (.call 16 [(.idx (.L 3) (.L 4)),(.ZY [(.idx (.idx (.L 3) (.L 4)) (.ZW (.int 0))),(.idx (.idx (.L 3) (.L 4)) (.ZW (.int 1)))])])) [(.ret (.ZW (.bl false)))] [])]),(.ret (.cmp .Yy (.idx (.L 3) (.neg (.ZW (.int 1)))) (.L 1)))]⟩
def CQ:Fn:=⟨1,11,[(.set (.nm 1) (.call 17 [.L 0])),(.set (.nm 2) (.call 19 [.L 1])),(.set (.nm 3) (.call 32 [.L 1,.L 2])),(.Zv (.cmp .gt (.call 18 [.L 1,(.ZW (.int 3))]) (.ZW (.int 0))) [(.set (.nm 3) (.call 30 [.L 2,.L 3])),(.for (.nm 4) (.X3 (.call 18 [.L 1,(.ZW (.int 6))])) [(.Zv (.cmp .gt (.bi .len [.L 3]) (.ZW (.int 0))) [(.exp (.VI (.L 3) (.call 18 [.L 1,(.bi .len [.L 3])])))] [])])] []),(.set (.nm 5) (.call 31 [.L 2,.L 3])),(.set (.nm 6) (.call 22 [.L 2])),(.set (.nm 7) (.ZW (.bl true))),(.for (.nm 4) (.X3 (.ZW (.int 3))) [(.set (.nm 8) (.idx (.L 6) (.call 18 [.L 1,(.bi .len [.L 6])]))),(.Zv (.and (.cmp .gt (.bi .len [.L 3]) (.ZW (.int 0))) (.cmp .gt (.call 18 [.L 1,(.ZW (.int 4))]) (.ZW (.int 0)))) [(.set (.nm 8) (.idx (.L 3) (.call 18 [.L 1,(.bi .len [.L 3])])))] []),(.set (.nm 9) (.bi .list [.L 3])),(.set (.nm 10) (.call 33 [.L 2,.L 9,.L 8])),(.set (.nm 7) (.and (.L 7) (.cmp .eq (.L 9) (.L 3)))),(.Zv (.cmp .Xl (.L 8) (.L 5)) [(.set (.nm 7) (.and (.L 7) (.call 16 [.L 10,(.ZY [(.ZW (.str (PySem.Str.ofString "refused"))),.L 8,(.ZW (.bl true)),(.ZW (.bl false))])])))] [(.set (.nm 7) (.and (.L 7) (.call 34 [.L 2,.L 3,.L 8,.L 10])))])]),(.ret (.L 7))]⟩
def J:List Fn:=[EM,Ep,Ey,EI,EO,Ex,Es,Eg,ES,EK,ED,EH,EL,EN,ET,Eo,EA,EF,Eu,EB,Em,El,Ew,EJ,Et,Eh,Ei,EG,EE,Ej,Ek,Ez,En,EC,Er,CQ]
end ZD
end
section
namespace ZD
noncomputable section
open PySem PI L2
def Bj:List Inf:=[⟨"in_land",["plan","at","wide","deep","side","x","y"],["plan","at"],none⟩,⟨"need_place",["plan","at"],["plan","at"],none⟩,⟨"is_corner",["plan","at","side","x","y"],["plan","at"],none⟩,⟨"need_cut",["plan","at"],["plan","at"],none⟩,⟨"stride",["at","x","y","size"],["at"],none⟩,⟨"is_centre",["at","x","y","size"],["at"],none⟩,⟨"edge_pairs",["at","x","y","size","lying","upright"],["at"],none⟩,⟨"centre_pairs",["at","x","y","size","rising","falling"],["at"],none⟩,⟨"pairs",["at"],["at"],none⟩,⟨"parents",["plan","at","facing"],["plan","at"],none⟩,⟨"children",["plan","at","x","y","size","near","half"],["plan","at"],none⟩,⟨"gathered",["plan","cuts","at"],["plan","cuts"],none⟩,⟨"lacking",["plan","known","at"],["plan","known","at"],none⟩,⟨"within",["plan","cuts","known","waiting","at"],["plan","cuts"],none⟩,⟨"lacks",["plan","cuts","at","known","closed","chain"],["plan","cuts","at"],none⟩,⟨"_law_whole",["_law_found"],["_law_found"],none⟩,⟨"_law_same",["_law_found","_law_due","_law_k"],["_law_found","_law_due"],none⟩,⟨"_law_bag",["_law_script"],["_law_script"],none⟩,⟨"_law_draw",["_law_bag_here","_law_many","_law_cells","_law_at","_law_cell"],["_law_bag_here","_law_many"],none⟩,⟨"_law_plan",["_law_bag_here","_law_menu"],["_law_bag_here"],none⟩,⟨"_law_places",["_law_plan_here","_law_found","_law_x","_law_y"],["_law_plan_here"],none⟩,⟨"_law_corner",["_law_plan_here","_law_at"],["_law_plan_here","_law_at"],none⟩,⟨"_law_cuts",["_law_plan_here"],["_law_plan_here"],none⟩,⟨"_law_in",["_law_plan_here","_law_at"],["_law_plan_here","_law_at"],none⟩,⟨"_law_step",["_law_at"],["_law_at"],none⟩,⟨"_law_centre",["_law_at","_law_size"],["_law_at"],none⟩,⟨"_law_around",["_law_at","_law_size","_law_x","_law_y","_law_flat","_law_tall","_law_rising","_law_falling"],["_law_at"],none⟩,⟨"_law_ups",["_law_plan_here","_law_at"],["_law_plan_here","_law_at"],none⟩,⟨"_law_set",["_law_some","_law_found","_law_thing"],["_law_some"],none⟩,⟨"_law_all_in",["_law_some","_law_there","_law_thing"],["_law_some","_law_there"],none⟩,⟨"_law_closed",["_law_plan_here","_law_some","_law_there","_law_todo","_law_at"],["_law_plan_here","_law_some"],none⟩,⟨"_law_held",["_law_plan_here","_law_some","_law_left","_law_turn","_law_there"],["_law_plan_here","_law_some"],none⟩,⟨"_law_picks",["_law_bag_here","_law_plan_here","_law_every","_law_kind"],["_law_bag_here","_law_plan_here"],none⟩,⟨"_law_told",["_law_plan_here","_law_some","_law_at","_law_told_here","e"],["_law_plan_here","_law_some","_law_at"],none⟩,⟨"_law_chain",["_law_plan_here","_law_some","_law_at","_law_found","_law_k"],["_law_plan_here","_law_some","_law_at","_law_found"],none⟩,⟨"law",["_law_script","_law_bag_here","_law_plan_here","_law_some","_law_k","_law_kept","_law_all_cuts","_law_good","_law_at","_law_handed","_law_found"],["_law_script"],none⟩]
def T:Tab:=⟨(["in_land","need_place","is_corner","need_cut","stride","is_centre","edge_pairs","centre_pairs","pairs","parents","children","gathered","lacking","within","lacks","_law_whole","_law_same","_law_bag","_law_draw","_law_plan","_law_places","_law_corner","_law_cuts","_law_in","_law_step","_law_centre","_law_around","_law_ups","_law_set","_law_all_in","_law_closed","_law_held","_law_picks","_law_told","_law_chain","law"].map Str.ofString),[],["bool","int","isinstance","len","list","range","set","sorted","str","tuple"],["need_place","need_cut","lacks","_law_told"],[("NoPlace",some "at",[("LookError",true),("LandError",false),("NotIn",false)]),("NoCut",some "at",[("LookError",true),("LandError",false),("NotIn",false)]),("NotHeld",some "at",[("LookError",true),("LandError",false),("NotIn",false)])]⟩
def loose:List Str:=(["LandError","LookError","NoPlace","NoCut","NotIn","NotHeld","in_land","need_place","is_corner","need_cut","stride","is_centre","edge_pairs","centre_pairs","pairs","parents","children","gathered","lacking","within","lacks","_law_whole","_law_same","_law_bag","_law_draw","_law_plan","_law_places","_law_corner","_law_cuts","_law_in","_law_step","_law_centre","_law_around","_law_ups","_law_set","_law_all_in","_law_closed","_law_held","_law_picks","_law_told","_law_chain"].map Str.ofString)
end
end ZD
end
section
open PySem PySem.W PyProof.Rows
noncomputable def ZD.UY:List (Option (Scope×List Stmt)):=[PI.Ai #[0] 8,PI.Ai #[0] 9,PI.Ai #[0] 10,PI.Ai #[0] 11,PI.Ai #[0] 12,PI.Ai #[0] 13,PI.Ai #[0] 14,PI.Ai #[0] 15,PI.Ai #[0] 16,PI.Ai #[0] 17,PI.Ai #[0] 18,PI.Ai #[0] 20,PI.Ai #[0] 21,PI.Ai #[0] 22,PI.Ai #[0] 23,PI.Ai #[0] 25,PI.Ai #[0] 26,PI.Ai #[0] 27,PI.Ai #[0] 28,PI.Ai #[0] 29,PI.Ai #[0] 30,PI.Ai #[0] 31,PI.Ai #[0] 32,PI.Ai #[0] 33,PI.Ai #[0] 34,PI.Ai #[0] 35,PI.Ai #[0] 36,PI.Ai #[0] 37,PI.Ai #[0] 38,PI.Ai #[0] 39,PI.Ai #[0] 40,PI.Ai #[0] 41,PI.Ai #[0] 42,PI.Ai #[0] 43,PI.Ai #[0] 44,PI.Ai #[0] 45]
def ZD.R_(w:World):(PI.endsF PySem.Challenge.rw_braemantle_k19_chains_that_lack.prog w 20000).map (λs=>(Fast.tw4187177175401517315 (PI.lastOf PySem.Challenge.rw_braemantle_k19_chains_that_lack.prog) ZD.loose (PySem.importedModules #[0]) (λ_=>true) true s,PI.D7 ZD.T (PI.AJ s.heap) ZD.Bj))=some (openGood (PI.lastOf PySem.Challenge.rw_braemantle_k19_chains_that_lack.prog) ZD.loose,true):=by kernel_rfl
def ZD.chk1(w:World):(PI.endsF PySem.Challenge.rw_braemantle_k19_chains_that_lack.prog w 20000).map (λs=>(ZD.Bj.take 26).map (PI.Bw (PI.AJ s.heap)))=some (ZD.UY.take 26):=by kernel_rfl
def ZD.chk2(w:World):(PI.endsF PySem.Challenge.rw_braemantle_k19_chains_that_lack.prog w 20000).map (λs=>((ZD.Bj.drop 26).take 10).map (PI.Bw (PI.AJ s.heap)))=some ((ZD.UY.drop 26).take 10):=by kernel_rfl
def ZD.part0:PI.Ac (((ZD.Bj.zip ZD.UY).take 14).map (PI.mkF ZD.T))=some (ZD.J.take 14):=by kernel_rfl
def ZD.part1:PI.Ac ((((ZD.Bj.zip ZD.UY).drop 14).take 10).map (PI.mkF ZD.T))=some ((ZD.J.drop 14).take 10):=by kernel_rfl
def ZD.part2:PI.Ac ((((ZD.Bj.zip ZD.UY).drop 24).take 11).map (PI.mkF ZD.T))=some ((ZD.J.drop 24).take 11):=by kernel_rfl
def ZD.part3:PI.Ac ((((ZD.Bj.zip ZD.UY).drop 35).take 1).map (PI.mkF ZD.T))=some ((ZD.J.drop 35).take 1):=by kernel_rfl
end
variable{xs S ZQ:List PI.U}{u y:PI.U}{o' c e' elt Zn Zt:PI.E}{tb:List (Nat×Nat×List (Nat ⊕ PI.U))}{op:PI.Op}{pm:List (Nat ⊕ PI.U)}{es' cs:List PI.E}{is:List PI.Inf}{Zz gs:List (PI.Tg×PI.E×List PI.E)}{ce:PySem.Expr->Option PI.E}
namespace L2
open PySem PySem.Spec PyProof.Rows
abbrev Key:=Sum Int Str
def BP:Key->Value->Bool
 |.inl k,v=>Value.isInt k v
 |.inr x,v=>Value.isStrOf x v
def HU(w:World):Key->Int
 |.inl k=>hashInt k
 |.inr x=>hashStr w x
def aS:∀{k:Key} {v:Value},BP k v=true->(∃i t,k=Sum.inl i/\v=Value.int i t)\/(∃x t,k=Sum.inr x/\v=Value.str x t)
 |.inl i,v,h=>by
  let⟨t,e⟩:=QG (k:=i) (v:=v) h;exact .inl ⟨i,t,rfl,e⟩
 |.inr x,v,h=>by
  let⟨t,e⟩:=Value.isStrOf_shape (x:=x) (v:=v) h;exact .inr ⟨x,t,rfl,e⟩
def vO(i:Int)(t:Tok):BP (.inl i) (.int i t)=true:=by simp[BP,Value.isInt]
def vR(x:Str)(t:Tok):BP (.inr x) (.str x t)=true:=by simp[BP,Value.isStrOf]
def aau(a b:Int):decide ((Sum.inl a:Key)=Sum.inl b)=(a==b):=by
 by_cases e:a=b
 .subst e;simp
 .have h : ¬ (Sum.inl a:Key)=Sum.inl b:=λq=>e (Sum.inl.inj q)
  rw[VB h];exact(P6.mpr e).symm
def abY(a b:Str):decide ((Sum.inr a:Key)=Sum.inr b)=decide (a=b):=by
 by_cases e:a=b
 .subst e;simp
 .have h : ¬ (Sum.inr a:Key)=Sum.inr b:=λq=>e (O3 q)
  rw[VB h,VB e]
def acD(a:Int)(b:Str):decide ((Sum.inl a:Key)=Sum.inr b)=false:=VB (λq=>nomatch q)
def aag(a:Str)(b:Int):decide ((Sum.inr a:Key)=Sum.inl b)=false:=VB (λq=>nomatch q)
def AB(prog:Program)(w:World):PySem.KeyKind prog w Key where
 is:=BP
 hash:=HU w
 inj:=λv a b l f=>by
  rcases aS l with⟨i,t,rfl,rfl⟩|⟨x,t,rfl,rfl⟩
  .rcases aS f with⟨j,u,rfl,e⟩|⟨y,u,rfl,e⟩
   .injection e with c _;rw[c]
   .exact nomatch e
  .rcases aS f with⟨j,u,rfl,e⟩|⟨y,u,rfl,e⟩
   .exact nomatch e
   .injection e with c _;rw[c]
 byValue:=λk v h=>by
  rcases aS h with⟨i,t,rfl,rfl⟩|⟨x,t,rfl,rfl⟩<;>rfl
 pyHash:=λd h=>by
  rcases aS d with⟨i,t,rfl,rfl⟩|⟨x,t,rfl,rfl⟩
  .exact wpAny_pyHash_int h
  .exact wpAny_pyHash_str h
 eqBool:=λg d h=>by
  rcases aS g with⟨i,t,rfl,rfl⟩|⟨x,t,rfl,rfl⟩
  .rcases aS d with⟨j,u,rfl,rfl⟩|⟨y,u,rfl,rfl⟩
   .rw [aau]at h;exact wpAny_eqBool_int h
   .rw [acD]at h;exact SeqAt.EqAt.int_str i t y u _ _ _ _ h
  .rcases aS d with⟨j,u,rfl,rfl⟩|⟨y,u,rfl,rfl⟩
   .rw [aag]at h;exact SeqAt.EqAt.str_int x t j u _ _ _ _ h
   .rw [abY]at h;exact wpAny_eqBool_str h
 «strs»:=λk x t v h=>by
  rcases aS h with⟨i,u,rfl,e⟩|⟨y,u,rfl,e⟩
  .exact nomatch e
  .injection e with c _
   subst c;cases v<;>rfl
def uB(prog:Program)(w:World)(i:Int)(t:Tok):(AB prog w).is (.inl i) (.int i t)=true:=vO i t
def uo(prog:Program)(w:World)(x:Str)(t:Tok):(AB prog w).is (.inr x) (.str x t)=true:=vR x t
end L2
namespace L2
open PySem PySem.Spec PyProof.Rows
inductive V where
 |ZJ|bl (b:Bool)|int (i:Int)|str (x:Str)|Xk (b:Array UInt8)|UX (b:UInt64)|ref (a:Addr)|ty (n:String)
 deriving DecidableEq
def RelV:V->Value->Prop
 |.ZJ,u=>u=Value.none
 |.bl b,u=>u=Value.bool b
 |.int i,u=>∃t,u=Value.int i t
 |.str x,u=>∃t,u=Value.str x t
 |.Xk b,u=>∃t,u=Value.bytes b t
 |.UX b,u=>∃t,u=Value.float b t
 |.ref a,u=>u=Value.ref a
 |.ty n,u=>u=Value.type n
abbrev ZH:List V->List Value->Prop:=Paired RelV
def ZH.length{xs:List V}{S:List Value}(r:ZH xs S):xs.length=S.length:=QC r
def ZH.get:∀{xs:List V} {S:List Value} {i:Nat} {x:V},ZH xs S->xs[i]?=some x ->∃u,S[i]?=some u/\RelV x u
 |_,_,_,_,.nil,e=>by simp at e
 |_,_,0,_,.cons r _,e=>by simp at e;subst e;exact⟨_,rfl,r⟩
 |_,_,i+1,x,.cons _ t,e=>by
  let⟨u,h1,h2⟩:=ZH.get (i:=i) (x:=x) t (by simpa using e)
  exact⟨u,by simpa using h1,h2⟩
def ZH.set{x:V}{u:Value}(r:RelV x u):∀{xs:List V} {S:List Value} (i:Nat),ZH xs S->ZH (xs.set i x) (S.set i u)
 |_,_,_,.nil=>.nil
 |_,_,0,.cons _ t=>.cons r t
 |_,_,i+1,.cons q t=>.cons q (ZH.set r i t)
def ZH.append:∀{xs ys:List V} {S ws:List Value},ZH xs S->ZH ys ws->ZH (xs++ys) (S++ws)
 |_,_,_,_,.nil,s=>s
 |_,_,_,_,.cons r t,s=>.cons r (ZH.append t s)
def ZH.take:∀{xs:List V} {S:List Value} (n:Nat),ZH xs S->ZH (xs.take n) (S.take n)
 |_,_,0,_=>.nil
 |_,_,_+1,.nil=>.nil
 |_,_,n+1,.cons r t=>.cons r (ZH.take n t)
def ZH.drop:∀{xs:List V} {S:List Value} (n:Nat),ZH xs S->ZH (xs.drop n) (S.drop n)
 |_,_,0,r=>r
 |_,_,_+1,.nil=>.nil
 |_,_,n+1,.cons _ t=>ZH.drop n t
def RelO:Option V->Option Value->Prop
 |some v,some u=>RelV v u
 |none,none=>True
 |_,_=>False
def KV{a:Type}:List (a×V)->List (a×Value)->Prop:=Paired λ(p:a×V) (q:a×Value)=>p.1=q.1/\RelV p.2 q.2
def HV:Key->V
 |.inl i=>.int i
 |.inr x=>.str x
set_option genInjectivity false in
inductive HO where
 |Z5 (xs:List V)
 |ZY (xs:List V)
 |dK (Z4:List (Key×V))|dT (Z4:List (List Key×V))
 |set (Z6:Int->Bool) (n:Nat)
 |ins (C dx:Addr) (fs:List (Str×V))
 |own (x:Addr)
 |xd (fs:List (Str×V))
 |met (f x:Addr)
 |YU (lo hi:Int)
 |Zm (o:Obj) (u:HO)
 |V3 (ps:Array Value)
 |ext (φ:Heap->Prop)
abbrev Hp:=Addr->Option HO
def upd(H:Hp)(a:Addr)(o:HO):Hp:=λb=>if b=a then some o else H b
def upd_same{H:Hp}{o:HO}:upd H a o a=some o:=by unfold upd;rw[YE rfl]
def aa{H:Hp}{b:Addr}{o:HO}(h:b≠a):upd H a o b=H b:=by unfold upd;rw[Yn h]
def cf{H:Hp}{b:Addr}{o u:HO}(h:H a=some o)(h':H b=some u)(d:o≠u):a≠b:=by
 intro e;subst e;rw[h]at h';exact d (WV h')
def aD{H:Hp}{b:Addr}{o:HO}(h:H a=some o)(h':H b=none):a≠b:=by
 intro e;subst e;rw[h]at h';cases h'
section
variable(P:Program)(w:World)
def ObjOk(H:Hp)(h:Heap)(a:Addr):HO->Prop
 |.Z5 xs=>xs.length<=sizeLine /\∃(ZU:List Value) (n:Nat),ZH xs ZU/\h.get? a=some {cls:=.type "list",data:=.seq ZU.toArray n}
 |.ZY xs=>xs.length<=sizeLine /\∃ZU:List Value,ZH xs ZU/\IsTup h a ZU.toArray
 |.dK Z4=>Z4.length<=sizeLine/\(a==sysModules)=false /\∃d,KV Z4 d/\h.DictOf (AB P w) a d
 |.dT Z4=>Z4.length<=sizeLine/\(a==sysModules)=false /\∃xs:List (List Key×Addr×Value),
   Paired (λ(p:List Key×V) (q:List Key×Addr×Value)=>p.1=q.1/\H q.2.1=some (.ZY (p.1.map HV))/\RelV p.2 q.2.2) Z4 xs /\
   ∃o es ep,h.get? a=some o/\o.ExactDict/\o.data=.dict es ep/\es.toList=xs.map (entryOfKey (tupleKind (AB P w)))/\(xs.map (·.1)).Nodup
 |.set Z6 n=>h.SetOf (intKind P w) a Z6 n
 |.ins C dx fs=>H dx=some (.own a)/\fs.length<=1000/\dx≠a/\h.get? a=some (PySem.W.instObj C dx) /\
   ∃mA,h.Ns1 dx mA/\(∀f,RelO (fs.lookup f) (mA f))/\PySem.Within mA (fs.map (·.1))
 |.own _=>∃o,h.get? a=some o
 |.xd fs=>∃mA,h.Ns1 a mA /\∀f,RelO (fs.lookup f) (mA f)
 |.YU lo hi=>∃t u v,h.get? a=some {cls:=.type "range",data:=.fields #[.int lo t,.int hi u,.int 1 v]}
 |.Zm o u=>h.get? a=some o/\ObjOk H h a u
 |.V3 ps=>h.get? a=some {cls:=.none,data:=.fields ps}
 |.met f x=>h.get? a=some (PySem.W.methodObj (.ref f) (.ref x))
 |.ext c=>c h/\(∃o,h.get? a=some o) /\∀h1 h2:Heap,c h1->(∀o,h1.get? a=some o->h2.get? a=some o)->c h2
def HOk(H:Hp)(h:Heap):Prop:=∀a o,H a=some o->ObjOk P w H h a o
end
section
variable{H H':Hp}{o:HO}
def ObjOk.lt(x:ObjOk P w H h a o):a<h.objs.size:=by
 cases o with
 |Z5 xs=>let⟨_,_,_,_,e⟩:=x;exact Hh e
 |ZY xs=>let⟨_,_,_,p⟩:=x;exact p.lt
 |dK Z4=>let⟨_,_,_,_,o,_,_,e,_⟩:=x;exact Hh e
 |dT Z4=>let⟨_,_,_,_,o,_,_,e,_⟩:=x;exact Hh e
 |set Z6 n=>let⟨o,_,_,_,e,_⟩:=x;exact Hh e
 |ins C dx fs=>let⟨_,_,_,e,_⟩:=x;exact Hh e
 |own y=>let⟨_,e⟩:=x;exact Hh e
 |xd fs=>let⟨_,⟨_,_,_,e,_⟩,_⟩:=x;exact Hh e
 |YU lo hi=>let⟨_,_,_,e⟩:=x;exact Hh e
 |Zm ob u=>let⟨e,_⟩:=x;exact Hh e
 |V3 ps=>exact Hh (show h.get? a=some _ from x)
 |met f y=>exact Hh (show h.get? a=some _ from x)
 |ext b=>let⟨_,⟨_,e⟩,_⟩:=x;exact Hh e
def Paired.SR{d c:Type}{F G:d->c->Prop}:∀{l₁ : List d} {l₂ : List c},Paired F l₁ l₂ -> (∀a b,F a b->G a b)->Paired G l₁ l₂
 |_,_,.nil,_=>.nil
 |_,_,.cons r t,f=>.cons (f _ _ r) (Paired.SR t f)
def ObjOk.Yt(x:ObjOk P w H h a o)(k:∀b u,(b=a\/H b=some (.own a))->h.get? b=some u->h'.get? b=some u)
  (l:∀b,H b=some (.own a)->H' b=some (.own a)) (j:∀b xs,H b=some (.ZY xs)->H' b=some (.ZY xs)):ObjOk P w H' h' a o:=by
 induction o with
 |Z5 xs=>let⟨z,ZU,n,r,e⟩:=x;exact⟨z,ZU,n,r,k _ _ (.inl rfl) e⟩
 |ZY xs=>let⟨z,ZU,r,ob,e,c⟩:=x;exact⟨z,ZU,r,ob,k _ _ (.inl rfl) e,c⟩
 |dK Z4=>let⟨z,y,g,r,ob,es,ep,e,c⟩:=x;exact⟨z,y,g,r,ob,es,ep,k _ _ (.inl rfl) e,c⟩
 |dT Z4=>
  let⟨z,y,xs,r,ob,es,ep,e,c⟩:=x;exact⟨z,y,xs,Paired.SR r λp q z=>⟨z.1,j _ _ z.2.1,z.2.2⟩,ob,es,ep,k _ _ (.inl rfl) e,c⟩
 |set Z6 n=>let⟨ob,es,ep,t,e,c⟩:=x;exact⟨ob,es,ep,t,k _ _ (.inl rfl) e,c⟩
 |ins C dx fs=>
  let⟨d,z,i,e,mA,⟨od,es,ep,m,c⟩,r⟩:=x;exact⟨l _ d,z,i,k _ _ (.inl rfl) e,mA,⟨od,es,ep,k _ _ (.inr d) m,c⟩,r⟩
 |own y=>let⟨ob,e⟩:=x;exact⟨ob,k _ _ (.inl rfl) e⟩
 |xd fs=>let⟨mA,⟨od,es,ep,e,c⟩,r⟩:=x;exact⟨mA,⟨od,es,ep,k _ _ (.inl rfl) e,c⟩,r⟩
 |YU lo hi=>let⟨t,u,v,e⟩:=x;exact⟨t,u,v,k _ _ (.inl rfl) e⟩
 |Zm ob u ih=>let⟨e,q⟩:=x;exact⟨k _ _ (.inl rfl) e,ih q⟩
 |V3 ps=>
  have e:h.get? a=some {cls:=.none,data:=.fields ps}:=x;show h'.get? a=some {cls:=.none,data:=.fields ps};exact k a _ (.inl rfl) e
 |met f y=>
  have e:h.get? a=some (PySem.W.methodObj (.ref f) (.ref y)):=x;show h'.get? a=some (PySem.W.methodObj (.ref f) (.ref y));exact k a _ (.inl rfl) e
 |ext s=>let⟨p,⟨o,e⟩,st⟩:=x;exact⟨st _ _ p λo q=>k _ _ (.inl rfl) q,⟨o,k _ _ (.inl rfl) e⟩,st⟩
def HOk.lt(x:HOk P w H h)(e:H a=some o):a<h.objs.size:=(x a o e).lt
def HOk.fresh(x:HOk P w H h)(e:h.objs.size<=a):H a=none:=by
 cases q:H a with
 |none=>rfl
 |some u=>exact absurd (Hm (x.lt q) e) (R4 _)
def HOk.kept(x:HOk P w H h)(k:∀b u,h.get? b=some u->h'.get? b=some u):HOk P w H h':=λa o e=>
 (x a o e).Yt (λb u _ q=>k b u q) (λ_ q=>q) λ_ _ q=>q
def HOk.laid(x:HOk P w H h)(k:∀b u,h.get? b=some u->h'.get? b=some u)(g:h.objs.size<=a)(d:ObjOk P w (upd H a o) h' a o):HOk P w (upd H a o) h':=λb u e=>by
 have hn:=x.fresh g;by_cases f:b=a
 .subst f;rw[upd_same]at e;cases e;exact d
 .rw [aa f]at e
  exact(x b u e).Yt (λc v _ q=>k c v q) (λc q=>by rw[aa (aD q hn)];exact q) λc xs q=>by rw[aa (aD q hn)];exact q
end
def Rd(H:Hp)(a:Addr)(u:HO):Prop:=H a=some u \/∃o,H a=some (.Zm o u)
def Rd.ok{H:Hp}{u:HO}(r:Rd H a u)(x:HOk P w H h):ObjOk P w H h a u:=by
 rcases r with r|⟨o,r⟩
 .exact x a u r
 .obtain ⟨_,q⟩:=x a _ r
  exact q
def Mut:Option HO->Prop
 |some (.Z5 _)=>True
 |some (.dK _)=>True
 |some (.dT _)=>True
 |some (.set _ _)=>True
 |some (.ins _ _ _)=>True
 |some (.ext _)=>True
 |_=>False
section
variable{H:Hp}{x e:Addr}{o':HO}
def HOk.write(o:HOk P w H h)(d:Mut (H x))(m:e=x\/H e=some (.own x))(k:∀b u,b≠e->h.get? b=some u->h'.get? b=some u)(s:∃u,h'.get? e=some u)
  (j:ObjOk P w (upd H x o') h' x o'):HOk P w (upd H x o') h':=λb u q=>by
 have n:∀c y,H c=some (.own y)->c≠x:=λc y r z=>by subst z;rw[r]at d;exact d
 have a:∀c xs,H c=some (.ZY xs)->c≠x:=λc xs r z=>by subst z;rw[r]at d;exact d
 by_cases g:b=x
 .subst g;rw[upd_same]at q;cases q;exact j
 .rw [aa g]at q
  by_cases i:b=e
  .have l:H b=some (.own x):=by
    rcases m with z|z
    .exact absurd (i.trans z) g
    .rw [i];exact z
   rw[q]at l;cases l;let⟨v,p⟩:=s;exact⟨v,by rw[i];exact p⟩
  .refine (o b u q).Yt (λc v f r=>k c v ?_ r) (λc r=>by rw[aa (n c b r)];exact r) λc xs r=>by rw[aa (a c xs r)];exact r
   rcases f with rfl|f
   .exact i
   .rintro rfl
    rcases m with z|z
    .exact n c b f z
    .rw [f]at z;cases z;exact g rfl
end
structure Un(fs ex:List Addr)(H H':Hp)(h h':Heap):Prop where
 keep:∀b o,h.get? b=some o->H b=none->b ∉ fs->b ∉ ex->h'.get? b=some o
 slot:∀b o,h.get? b=some o->H b=none->b∈fs->b ∉ ex ->∃sl,h'.get? b=some {o with slots:=sl}
 free:∀b o,h.get? b=some o->H b=none->b ∉ ex->H' b=none
 there:∀b o,h.get? b=some o->b ∉ ex ->∃o',h'.get? b=some o'
 Xx:∀b xs,H b=some (.ZY xs)->H' b=some (.ZY xs)
 XJ:∀b o u,H b=some (.Zm o u)->H' b=some (.Zm o u)
 Xw:∀b ps,H b=some (.V3 ps) ->∃more,H' b=some (.V3 (ps++more))
section
variable{fs fs' ex ex':List Addr}{H H1 H2:Hp}{h1 h2:Heap}{x e:Addr}{o:HO}
def Un.any(u:Un fs ex H H1 h h1){b:Addr}{a:Obj}(q:h.get? b=some a)(n:H b=none)(c:b ∉ ex):∃e,h1.get? b=some {a with slots:=e}:=by
 by_cases d:b∈fs
 .exact u.slot b a q n d c
 .exact ⟨a.slots,u.keep b a q n d c⟩
def Un.kept(k:∀b u,h.get? b=some u->h'.get? b=some u):Un fs ex H H h h':=
 ⟨λb ob q _ _ _=>k b ob q,λb ob q _ _ _=>⟨ob.slots,k b ob q⟩,λ_ _ _ n _=>n,λb ob q _=>⟨ob,k b ob q⟩,λ_ _ q=>q,λ_ _ _ q=>q,λ_ ps q=>⟨#[],by rw[q];simp⟩⟩
def Un.refl:Un fs ex H H h h:=Un.kept λ_ _ q=>q
def Un.laid(k:∀b u,h.get? b=some u->h'.get? b=some u)(d:h.objs.size<=a)(c:H a=none):Un fs ex H (upd H a o) h h' where
 keep:=λb u q _ _ _=>k b u q
 slot:=λb u q _ _ _=>⟨u.slots,k b u q⟩
 free:=λb u q n _=>by rw[aa (Hn (Hm (Hh q) d))];exact n
 there:=λb u q _=>⟨u,k b u q⟩
 Xx:=λb xs q=>by rw[aa (aD q c)];exact q
 XJ:=λb u xs q=>by rw[aa (aD q c)];exact q
 Xw:=λb ps q=>⟨#[],by rw[aa (aD q c),q];simp⟩
def Un.write(a:Mut (H x))(j:e=x\/H e=some (.own x))(k:∀b u,b≠e->h.get? b=some u->h'.get? b=some u)(t:∃u,h'.get? e=some u):Un fs ex H (upd H x o) h h':=by
 have d:∀b,H b=none->b≠x:=λb n z=>by subst z;rw[n]at a;exact a
 have f:∀b,H b=none->b≠e:=λb n z=>by
  subst z;rcases j with r|r
  .exact d b n r
  .rw [n]at r;cases r
 have c:∀b u,H b=some u -> ¬ Mut (some u)->b≠x:=λb u q nm z=>by subst z;rw[q]at a;exact nm a
 refine ⟨λb u q n _ _=>k b u (f b n) q,λb u q n _ _=>⟨u.slots,k b u (f b n) q⟩,λb u q n _=>by rw [aa (d b n)];exact n,λb u q _ => ?_,
  λb xs q=>by rw[aa (c b _ q λz=>z)];exact q,λb u xs q=>by rw[aa (c b _ q λz=>z)];exact q,λb ps q=>⟨#[],by rw[aa (c b _ q λz=>z),q];simp⟩⟩
 by_cases g:b=e
 .subst g;exact t
 .exact ⟨u,k b u g q⟩
end
def HW(h:Heap)(H:Hp):List Addr:=(List.range h.objs.size).filter λa=>(H a).isSome
def Bg(h:Heap)(H:Hp):Heap:=PySem.W.hideAll h (HW h H)
def wx(h:Heap)(H:Hp):(Bg h H).objs.size=h.objs.size:=PySem.W.hideAll_size _ _
def ya{H:Hp}{b:Addr}{o:Obj}(e:h.get? b=some o)(n:H b=none):(Bg h H).get? b=some o:=
 PySem.W.hideAll_get _ e λa=>by
  have q:(H b).isSome=true:=(U4.mp a).2;rw[n]at q;simp at q
def zw{H:Hp}{b:Addr}{o:Obj}(e:(Bg h H).get? b=some o):h.get? b=some o/\H b=none:=by
 have e':h.get? b=some o:=PySem.W.of_hideAll (HW h H) e;refine⟨e',?_⟩;cases q:H b with
 |none=>rfl
 |some x=>
  have a:b∈HW h H:=U4.mpr ⟨So.mpr (Hh e'),by simp[q]⟩
  have z:(Bg h H).get? b=none:=PySem.W.hideAll_none (HW h H) a;rw[z]at e;cases e
end L2
variable{H H':L2.Hp}{v:L2.V}{Z4:List (List L2.Key×L2.V)}{gV:List L2.V->List L2.V->List L2.V}
namespace L2
open PySem PySem.Spec PyProof.Rows
structure Mod(K:Hu)(mg:Str->Option Value)(base:Heap):Prop where
 kin:K.In base
 glob:base.Ns mainGlobals mg
 blt:∃mb,base.Ns builtinsNs mb /\∀x:Str,x ≠ "__name__" -> mb x=bootBuiltins x
 nolimit:base.NoLimit
set_option genInjectivity false in
structure Cx where
 prog:Program
 w:World
 K:Hu
 mg:Str->Option Value
 base:Heap
 A:Around
 N:List Str
 ZF : Shared
 WH : Hp
 env:Env
 outer:List Env
 stack:List Env
 ex:List Addr
 fn:Str->Bool
 calm:Bool
 pn:List (Addr×Obj)
 xe:Value->Shared->Prop
def frs(l:List Env):List Addr:=l.filterMap (·.frame)
abbrev Cx.fs(X:Cx):List Addr:=frs X.outer
def Vis(a:Scope)(x:Str):Prop:=a.names.lookup x=some .local\/a.names.lookup x=some .cell\/a.names.lookup x=some .free
def Loc(a:Scope)(x:Str):Prop:=a.names.lookup x=some .local\/a.names.lookup x=some .cell
def Look(env:Env)(h:Heap)(m:Str->Option Value)(x:Str)(u:Value):Prop:=
 (env.kindOf x=some .local/\m x=some u)\/((env.kindOf x=some .cell\/env.kindOf x=some .free) /\∃c,env.cells.lookup x=some c/\h.IsCell c (some u))
structure Cx.Ok(X:Cx):Prop where
 mod:Mod X.K X.mg X.base
 kind:X.env.scope.kind=.function
 glob:X.env.globals=mainGlobals
 blt:X.env.builtins=builtinsNs
 above:X.ZF.heap.objs.size<=X.env.locals
 inj:∀x y c,X.env.cells.lookup x=some c->X.env.cells.lookup y=some c->x=y
 has:∀x,(X.env.kindOf x=some .cell\/X.env.kindOf x=some .free) ->∃c,X.env.cells.lookup x=some c
 VG:∀x c,X.fn x=true->X.env.cells.lookup x=some c->X.ZF.heap.objs.size<=c
 hd:X.calm=true->X.A.handled=none
 frames:X.A.frames=some X.stack
 WG:X.stack=X.outer\/(X.stack=X.env::X.outer/\X.env.frame=some X.env.locals)
 exf:∀b∈X.ex,b≠X.env.locals /\∀x c,X.env.cells.lookup x=some c->c≠b
 bs:∀b o,X.base.get? b=some o->X.ZF.heap.get? b=some o/\X.WH b=none
 W5:X.base.objs.size<=X.ZF.heap.objs.size
 Zb:∀b o,X.base.get? b=some o->b ∉ X.ex
 UU:∀b∈X.ex,b ∉ X.fs
 XI:X.ZF.heap.FunFrames X.base X.outer
 Wq:∀b∈X.fs,X.WH b=none
structure Z0(X:Cx)(Y:List (Addr×Obj))(O:List (Option V))(H:Hp)(s:Shared):Prop where
 ok:X.Ok
 os:s.os=X.ZF.os
 bare:AllBare s.gens
 base:Un X.fs X.ex X.WH H X.ZF.heap s.heap
 loc:∃m,s.heap.Ns X.env.locals m /\∀(i:Nat) (x:Str) (v:V),X.N[i]?=some x->O[i]?=some (some v)->Vis X.env.scope x ->∃u,RelV v u/\Look X.env s.heap m x u
 cell:∀x c,X.env.cells.lookup x=some c ->∃v,s.heap.IsCell c v
 free:H X.env.locals=none
 Yg:∀x c,X.env.cells.lookup x=some c->H c=none
 pin:∀p∈X.pn++Y,s.heap.get? p.1=some p.2/\H p.1=none/\p.1≠X.env.locals/\p.1 ∉ X.fs /\∀v,p.2.data ≠ .cell v
 ZK:HOk X.prog X.w H s.heap
 len:O.length=X.N.length
section
variable{X:Cx}{O:List (Option V)}
def Cx.Ok.nofr(a:X.Ok){b:Addr}{o:Obj}(e:X.base.get? b=some o):b ∉ X.fs:=λc=>by
 have:=(a.XI.mem c).1;rw[e]at this;cases this
def Z0.bs(I:Z0 X Y O H s):∀b o,X.base.get? b=some o->s.heap.get? b=some o/\H b=none:=λb o e=>
 ⟨I.base.keep b o (I.ok.bs b o e).1 (I.ok.bs b o e).2 (I.ok.nofr e) (I.ok.Zb b o e),I.base.free b o (I.ok.bs b o e).1 (I.ok.bs b o e).2 (I.ok.Zb b o e)⟩
def Z0.bk(I:Z0 X Y O H s):∀b o,X.base.get? b=some o->s.heap.get? b=some o:=λb o e=>(I.bs b o e).1
def Z0.mod(I:Z0 X Y O H s):Mod X.K X.mg X.base:=I.ok.mod
def Z0.Yv(I:Z0 X Y O H s):X.K.In s.heap:=I.ok.mod.kin.keeps I.bk
def Z0.lt(I:Z0 X Y O H s):X.env.locals<s.heap.objs.size:=let⟨_,a,_⟩:=I.loc;a.lt
def Z0.sz(I:Z0 X Y O H s):X.ZF.heap.objs.size<=s.heap.objs.size:=Hi I.ok.above (Qf I.lt)
def Z0.nofs(I:Z0 X Y O H s)(h:s.heap.objs.size<=a):a ∉ X.fs:=λb=>by
 let⟨_,o,ho,_⟩:=I.ok.XI.mem b;exact absurd (Hm (Hh ho) (Hi I.sz h)) (R4 _)
def Z0.W4(I:Z0 X Y O H s):∀x c,X.env.cells.lookup x=some c->c≠X.env.locals:=λx c e z=>by
 let⟨v,o,ho,a⟩:=I.cell x c e;let⟨m,⟨o',es,ep,d,b,_⟩,_⟩:=I.loc;rw[z,d]at ho;cases ho;rw[b]at a;cases a
def Z0.XI(I:Z0 X Y O H s):s.heap.FunFrames X.base X.outer:=by
 have all:∀(l:List Env),(∀b∈frs l,b∈X.fs)->X.ZF.heap.FunFrames X.base l->s.heap.FunFrames X.base l:=by
  intro l
  induction l with
  |nil=>intro _ _;trivial
  |cons env r ih=>
   intro hs h;let⟨hk,⟨Z7,o,a,g,ho,i⟩,f⟩:=h;have d:Z7∈X.fs:=hs Z7 (by unfold frs;rw[TN,a];exact Hr)
   let⟨j,e⟩:=I.base.slot Z7 o ho (I.ok.Wq Z7 d) d λz=>I.ok.UU Z7 z d;exact⟨hk,⟨Z7,_,a,g,e,i⟩,ih (λb c=>hs b (by unfold frs;rw[TN,a];exact Hl _ c)) f⟩
 exact all X.outer (λ_ c=>c) I.ok.XI
def Z0.stack(I:Z0 X Y O H s):s.heap.FunFrames X.base X.stack:=by
 rcases I.ok.WG with e|⟨e,hf⟩
 .rw [e];exact I.XI
 .rw [e]
  let⟨m,a,_⟩:=I.loc;refine .cons (by rw[I.ok.kind];decide) hf a ?_ I.XI
  exact Qm (Hi I.ok.W5 I.ok.above)
def Z0.VF(I:Z0 X Y O H s):∀b∈frs X.stack,b∈X.env.locals::X.fs:=λb a=>by
 rcases I.ok.WG with e|⟨e,hf⟩
 .rw [e]at a;exact Hl _ a
 .rw [e]at a
  unfold frs at a;rw[TN,hf]at a;exact a
def Z0.Tf(I:Z0 X Y O H s):∀b∈frs X.stack,H b=none:=λb a=>by
 rcases X8.mp (I.VF b a)with e|a
 .rw [e];exact I.free
 .obtain ⟨_,o,ho,_⟩:=I.ok.XI.mem a
  exact I.base.free b o ho (I.ok.Wq b a) λz=>I.ok.UU b z a
def Z0.step{g':Array GenState}{d':Drawn}{ch:List Addr}(I:Z0 X Y O H s)
  (y:∀b∈ch,(b∈X.ex\/X.ZF.heap.objs.size<=b)/\b≠X.env.locals/\(∀x c,X.env.cells.lookup x=some c->c≠b) /\∀p∈X.pn++Y,p.1≠b)
  (keep:∀b o,b≠X.env.locals->b ∉ X.fs->b ∉ ch->s.heap.get? b=some o->H b=none->h'.get? b=some o)
  (slot:∀b o,b≠X.env.locals->b∈X.fs->b ∉ ch->s.heap.get? b=some o->H b=none ->∃B,h'.get? b=some {o with slots:=B}) (free:∀b o,b ∉ ch->s.heap.get? b=some o->H b=none->H' b=none)
  (there:∀b o,b ∉ ch->s.heap.get? b=some o ->∃o',h'.get? b=some o')
  (Xx:∀b xs,H b=some (.ZY xs)->H' b=some (.ZY xs)) (XJ:∀b o u,H b=some (.Zm o u)->H' b=some (.Zm o u)) (Xw:∀b ps,H b=some (.V3 ps) ->∃more,H' b=some (.V3 (ps++more)))
  (J:∀m,s.heap.Ns X.env.locals m->h'.Ns X.env.locals m) (Q:HOk X.prog X.w H' h') (N:AllBare g') :
  Z0 X Y O H' {s with heap:=h',gens:=g',drawn:=d',toks:=t'}:=by
 have G:∀b o,X.ZF.heap.get? b=some o->b≠X.env.locals:=λb o e=>Hn (Hm (Hh e) I.ok.above);have g:∀b o,X.ZF.heap.get? b=some o->b ∉ X.ex->b ∉ ch:=λb o e a j=>by
  rcases(y b j).1 with z|z
  .exact a z
  .exact absurd (Hm (Hh e) z) (R4 _)
 have f:∀x c,X.env.cells.lookup x=some c ->∀v,s.heap.IsCell c v->h'.IsCell c v:=λx c e v ⟨o,ho,hd⟩=>by
  have A:c ∉ ch:=λz=>(y c z).2.2.1 x c e rfl;by_cases F:c∈X.fs
  .obtain ⟨B,q⟩:=slot c o (I.W4 x c e) F A ho (I.Yg x c e)
   exact⟨_,q,hd⟩
  .exact ⟨o,keep c o (I.W4 x c e) F A ho (I.Yg x c e),hd⟩
 refine⟨I.ok,I.os,N,⟨λb o e n j a=>?_,λb o e n j a=>?_,λb o e n a=>?_,λb o e a=>?_,λb xs e=>Xx b xs (I.base.Xx b xs e),λb o xs e=>XJ b o xs (I.base.XJ b o xs e),λb ps e=>?_⟩,?_,λx c e=>?_,?_,λx c e=>?_,λp E=>?_,Q,I.len⟩
 .exact keep b o (G b o e) j (g b o e a) (I.base.keep b o e n j a) (I.base.free b o e n a)
 .obtain ⟨B,h⟩:=I.base.slot b o e n j a
  let⟨R,t⟩:=slot b _ (G b o e) j (g b o e a) h (I.base.free b o e n a);exact⟨R,t⟩
 .obtain ⟨o',h⟩:=I.base.there b o e a
  exact free b o' (g b o e a) h (I.base.free b o e n a)
 .obtain ⟨o',h⟩:=I.base.there b o e a
  exact there b o' (g b o e a) h
 .obtain ⟨m1,h⟩:=I.base.Xw b ps e
  let⟨K,t⟩:=Xw b _ h;exact⟨m1++K,by rw[t,Array.append_assoc]⟩
 .obtain ⟨m,L,M⟩:=I.loc
  refine⟨m,J m L,λi x v h t P=>?_⟩;let⟨u,r,l⟩:=M i x v h t P;refine⟨u,r,?_⟩;rcases l with l|⟨k,c,e,z⟩
  .exact .inl l
  .exact .inr ⟨k,c,e,f x c e _ z⟩
 .obtain ⟨v,z⟩:=I.cell x c e
  exact⟨v,f x c e v z⟩
 .obtain ⟨m,⟨o,_,_,ho,_⟩,_⟩:=I.loc
  exact free _ o (λz=>(y _ z).2.1 rfl) ho I.free
 .obtain ⟨v,o,ho,hd⟩:=I.cell x c e
  exact free c o (λz=>(y c z).2.2.1 x c e rfl) ho (I.Yg x c e)
 .obtain ⟨e,n,D,C,d⟩:=I.pin p E
  have A:p.1 ∉ ch:=λz=>(y p.1 z).2.2.2 p E rfl;exact⟨keep p.1 p.2 D C A e n,free p.1 p.2 A e n,D,C,d⟩
def Z0.un(I:Z0 X Y O H s)(u:Un X.fs [] H H' s.heap h')(g:HOk X.prog X.w H' h'):Z0 X Y O H' {s with heap:=h',toks:=t'}:=by
 let⟨m,⟨o,es,ep,ho,r⟩,_⟩:=id I.loc;let⟨k,f⟩:=u.any ho I.free #[3]
 exact I.step (g':=s.gens) (d':=s.drawn) (ch:=[]) (λ_ z=>nomatch z) (λb o _ a _ e n=>u.keep b o e n a #[3]) (λb o _ a _ e n=>u.slot b o e n a #[3]) (λb o _ e n=>u.free b o e n #[3]) (λb o _ e=>u.there b o e #[3]) u.Xx u.XJ u.Xw (λt d=>by
  let⟨o',es',j,c,r'⟩:=d;rw[ho]at c;cases c;exact⟨_,es',j,f,r'⟩) g I.bare
def Z0.call{g':Array GenState}{d':Drawn}{ch:List Addr}(I:Z0 X Y O H s)(u:Un (frs X.stack) ch H H' s.heap h')(k:HOk X.prog X.w H' h')(i:AllBare g')
  (f:∀b∈ch,(b∈X.ex\/X.ZF.heap.objs.size<=b)/\b≠X.env.locals/\(∀x c,X.env.cells.lookup x=some c->c≠b) /\∀p∈X.pn++Y,p.1≠b) :
  Z0 X Y O H' {s with heap:=h',gens:=g',drawn:=d',toks:=t'}:=by
 let⟨m,⟨o,es,ep,ho,r⟩,_⟩:=id I.loc;let⟨q,d⟩:=u.any ho I.free λz=>(f _ z).2.1 rfl
 exact I.step (ch:=ch) f (λb o d j a e n=>u.keep b o e n (λz=>(X8.mp (I.VF b z)).elim d j) a) (λb o _ _ a e n=>u.any e n a) (λb o a e n=>u.free b o e n a) (λb o a e=>u.there b o e a) u.Xx u.XJ u.Xw (λt h=>by
  let⟨o',es',l,g,r'⟩:=h;rw[ho]at g;cases g;exact⟨_,es',l,d,r'⟩) k i
def Z0.turned{it:Addr}(I:Z0 X Y O H s)(k:∀b o,b≠it->s.heap.get? b=some o->h'.get? b=some o)(g:H it=none)(f:it≠X.env.locals)
  (A:it∈X.ex\/X.ZF.heap.objs.size<=it) (y:∀x c,X.env.cells.lookup x=some c->c≠it) (w:∀p∈X.pn++Y,p.1≠it):Z0 X Y O H {s with heap:=h',toks:=t'}:=by
 have d:∀b u,H b=some u->b≠it:=λb u e z=>by rw[z,g]at e;cases e
 refine I.step (g':=s.gens) (d':=s.drawn) (ch:=[it]) (λb t=>?_) (λb o _ _ a e _=>k b o (λz=>a (by simp[z])) e) (λb o _ _ a e _=>⟨o.slots,k b o (λz=>a (by simp[z])) e⟩) (λ_ _ _ _ n=>n)
  (λb o a e=>⟨o,k b o (λz=>a (by simp[z])) e⟩) (λ_ _ e=>e) (λ_ _ _ e=>e) (λb ps e=>⟨#[],by rw[e];simp⟩) (λm j=>?_) (λb u e=>?_) I.bare
 .have e:b=it:=by simpa using t
  subst e;exact⟨A,f,y,w⟩
 .obtain ⟨o,es,ep,ho,r⟩:=j
  exact⟨o,es,ep,k _ o (Ne.symm f) ho,r⟩
 .refine (I.ZK b u e).Yt (λc v a q=>k c v ?_ q) (λ_ q=>q) λ_ _ q=>q
  rcases a with z|z
  .rw [z];exact d b u e
  .exact d c _ z
def Z0.tok(I:Z0 X Y O H s)(t:Nat):Z0 X Y O H {s with toks:=t}:=I.un (h':=s.heap) (t':=t) Un.refl I.ZK
def Z0.kept{t':Nat}(I:Z0 X Y O H s)(k:∀b u,s.heap.get? b=some u->h'.get? b=some u):Z0 X Y O H {s with heap:=h',toks:=t'}:=I.un (Un.kept k) (I.ZK.kept k)
def Z0.laid{a:Addr}{o:HO}{t':Nat}(I:Z0 X Y O H s)(k:∀b u,s.heap.get? b=some u->h'.get? b=some u)(d:s.heap.objs.size<=a)(c:ObjOk X.prog X.w (upd H a o) h' a o):
  Z0 X Y O (upd H a o) {s with heap:=h',toks:=t'}:=I.un (Un.laid k d (I.ZK.fresh d)) (I.ZK.laid k d c)
def Z0.write{x e:Addr}{o:HO}{t':Nat}(I:Z0 X Y O H s)(c:Mut (H x))(d:e=x\/H e=some (.own x))(k:∀b u,b≠e->s.heap.get? b=some u->h'.get? b=some u)(f:∃u,h'.get? e=some u)
  (a:ObjOk X.prog X.w (upd H x o) h' x o):Z0 X Y O (upd H x o) {s with heap:=h',toks:=t'}:=I.un (Un.write c d k f) (I.ZK.write c d k f a)
def Z0.R8{a:List (Addr×Obj)}(I:Z0 X Y O H s)(h:∀p∈a,s.heap.get? p.1=some p.2/\H p.1=none/\p.1≠X.env.locals/\p.1 ∉ X.fs /\∀v,p.2.data ≠ .cell v):Z0 X a O H s:=
 ⟨I.ok,I.os,I.bare,I.base,I.loc,I.cell,I.free,I.Yg,λp b=>(Wh.mp b).elim (λz=>I.pin p (UA _ z)) (h p),I.ZK,I.len⟩
def fV(c:N.Nodup)(a:N[i]?=some x)(b:N[j]?=some x):i=j:=by
 let⟨h1,e⟩:=Ye.mp a;let⟨h2,d⟩:=Ye.mp b;exact(List.getElem_inj c).mp (e.trans d.symm)
def jF{M:Model}{E:Value->Shared->Prop}{u:Value}{Q:Unit->Shared->Prop}(I:Z0 X Y O H s)(hN:X.N.Nodup)(hi:X.N[i]?=some x)(t:Loc X.env.scope x)(r:RelV v u)
  (h:∀s',Z0 X Y (O.set i (some v)) H s'->(∃a,Heap.SameBut a s.heap s'.heap/\(a=X.env.locals\/X.env.cells.lookup x=some a))->Q Unit.unit s') (hf:X.fn x=true\/X.env.scope.names.lookup x=some .local:=by first|exact .inl rfl|exact .inr rfl|assumption):wpAny M A (storeName X.env x u) Q E s:=by
 let⟨m,V,hl⟩:=id I.loc;have Wo:(X.env.scope.kind==.class||(X.env.scope.kind==.module&&X.env.locals != X.env.globals))=false:=by rw[I.ok.kind];rfl
 have R7:i<O.length:=by rw[I.len];exact(Ye.mp hi).1
 have W4:=I.W4;have f:∀{a:Addr} {h':Heap},(∃o,s.heap.get? a=some o/\H a=none)->Heap.SameBut a s.heap h'->HOk X.prog X.w H h':=λ{a h'} ha hs b ob e=>by
  let⟨_,_,US⟩:=ha;refine(I.ZK b ob e).Yt (λc K l q=>(hs.2 c ?_).trans q) (λ_ q=>q) λ_ _ q=>q;rintro rfl;rcases l with rfl|l
  .rw [US]at e;cases e
  .rw [US]at l;cases l
 rcases t with hk|hk
 .refine wpAny_storeName_local hk V (λh' Zj hs=>?_) Wo
  let⟨oL,_,_,Um,_⟩:=id V;refine h _ ⟨I.ok,I.os,I.bare,⟨λb o e n D t=>?_,λb o e n D t=>?_,I.base.free,λb o e t=>?_,I.base.Xx,I.base.XJ,I.base.Xw⟩,⟨_,Zj,λj y P g B W=>?_⟩,λy c e=>?_,I.free,I.Yg,λp U=>?_,f ⟨oL,Um,I.free⟩ hs,by simpa using I.len⟩ ⟨_,hs,.inl rfl⟩
  .exact (hs.2 b (Hn (Hm (Hh e) I.ok.above))).trans (I.base.keep b o e n D t)
  .obtain ⟨S,g⟩:=I.base.slot b o e n D t
   exact⟨S,(hs.2 b (Hn (Hm (Hh e) I.ok.above))).trans g⟩
  .obtain ⟨o',g⟩:=I.base.there b o e t
   exact⟨o',(hs.2 b (Hn (Hm (Hh e) I.ok.above))).trans g⟩
  .by_cases C:j=i
   .subst C
    rw[hi]at g;cases g;rw[VX R7]at B;cases B;exact⟨u,r,.inl ⟨hk,by simp⟩⟩
   .rw [Ve (Ne.symm C)]at B
    let⟨R,r',q⟩:=hl j y P g B W;refine⟨R,r',?_⟩;rcases q with⟨k,e⟩|⟨k,c,e,z⟩
    .refine .inl ⟨k,?_⟩
     have:y≠x:=λe=>C (fV hN g (e ▸ hi));simp[this,e]
    .exact .inr ⟨k,c,e,z.sameBut hs (W4 y c e)⟩
  .obtain ⟨K,z⟩:=I.cell y c e
   exact⟨K,z.sameBut hs (W4 y c e)⟩
  .obtain ⟨e,n,L,T,d⟩:=I.pin p U
   exact⟨(hs.2 p.1 L).trans e,n,L,T,d⟩
 .have Z:X.fn x=true:=by
   rcases hf with z|z
   .exact z
   .rw [z]at hk;cases hk
  let⟨c,l⟩:=I.ok.has x (.inl hk);let⟨K,z⟩:=I.cell x c l;refine wpAny_storeName_cell I.ok.kind hk l z (λh' VE hs=>?_);let⟨JT,G,F⟩:=id z;refine h {s with heap:=h'} ⟨I.ok,I.os,I.bare,⟨λb o e n D t=>?_,λb o e n D t=>?_,I.base.free,λb o e t=>?_,I.base.Xx,I.base.XJ,I.base.Xw⟩,⟨m,V.sameBut hs (Ne.symm (W4 x c l)),λj y P g B W=>?_⟩,λy c' e=>?_,I.free,I.Yg,λp U=>?_,f ⟨JT,G,I.Yg x c l⟩ hs,by simpa using I.len⟩ ⟨c,hs,.inr l⟩
  .exact (hs.2 b (Hn (Hm (Hh e) (I.ok.VG x c Z l)))).trans (I.base.keep b o e n D t)
  .obtain ⟨S,g⟩:=I.base.slot b o e n D t
   exact⟨S,(hs.2 b (Hn (Hm (Hh e) (I.ok.VG x c Z l)))).trans g⟩
  .obtain ⟨o',g⟩:=I.base.there b o e t
   exact⟨o',(hs.2 b (Hn (Hm (Hh e) (I.ok.VG x c Z l)))).trans g⟩
  .by_cases C:j=i
   .subst C
    rw[hi]at g;cases g;rw[VX R7]at B;cases B;exact⟨u,r,.inr ⟨.inl hk,c,l,VE⟩⟩
   .rw [Ve (Ne.symm C)]at B
    let⟨R,r',q⟩:=hl j y P g B W;refine⟨R,r',?_⟩;rcases q with q|⟨k,c',e,z'⟩
    .exact .inl q
    .refine .inr ⟨k,c',e,z'.sameBut hs ?_⟩
     rintro rfl;exact C (fV hN g (I.ok.inj _ _ _ e l ▸ hi))
  .by_cases J:c'=c
   .subst J;exact⟨_,VE⟩
   .obtain ⟨w2,z2⟩:=I.cell y c' e
    exact⟨w2,z2.sameBut hs J⟩
  .obtain ⟨e,n,L,T,d⟩:=I.pin p U
   refine⟨(hs.2 p.1 ?_).trans e,n,L,T,d⟩;intro q;rw[q,G]at e;have q':JT=p.2:=WV e;exact d K (by rw[<-q'];exact F)
def gh{M:Model}{E:Value->Shared->Prop}{u:Value}{Q:Unit->Shared->Prop}(I:Z0 X Y O H s)(c:X.N.Nodup)(hi:X.N[i]?=some x)(a:Loc X.env.scope x)(r:RelV v u)
  (h:∀s',Z0 X Y (O.set i (some v)) H s'->Q Unit.unit s') (b:X.fn x=true\/X.env.scope.names.lookup x=some .local:=by first|exact .inl rfl|exact .inr rfl|assumption):wpAny M A (storeName X.env x u) Q E s:=
 jF I c hi a r (λs' d _=>h s' d) b
def Z0.SQ{ch:List Addr}(I:Z0 X Y O H s)(a:s'.os=s.os)(u:Un (frs X.stack) ch H H' s.heap s'.heap)(f:HOk X.prog X.w H' s'.heap)(d:AllBare s'.gens)
  (g:∀b∈ch,(b∈X.ex\/X.ZF.heap.objs.size<=b)/\b≠X.env.locals/\(∀x c,X.env.cells.lookup x=some c->c≠b) /\∀p∈X.pn++Y,p.1≠b):Z0 X Y O H' s':=by
 let⟨h',g',d',t',o'⟩:=s';have e:o'=s.os:=a;subst e;exact I.call (g':=g') (t':=t') (d':=d') u f d g
end
abbrev XK:=Value->Option Addr->Hp->Prop
abbrev St:=List (Option V)
abbrev VK:=V->Hp->Prop
abbrev TE:=St->Hp->VK->Prop
abbrev TT:=St->Hp->(Bool->Hp->Prop)->Prop
abbrev TA:=St->Hp->(List V->Hp->Prop)->Prop
set_option genInjectivity false in
structure Ends where
 nx:St->Hp->Prop
 rt:VK
 bk:St->Hp->Prop:=λ_ _=>False
 ct:St->Hp->Prop:=λ_ _=>False
abbrev TS:=Ends->St->Hp->Prop
inductive EP(X:Cx)(Y:List (Addr×Obj))(O:St)(Q:VK)(u:Value)(s':Shared):Prop
 |mk:∀v H',Z0 X Y O H' s'->RelV v u->Q v H'->EP X Y O Q u s'
inductive TP(X:Cx)(Y:List (Addr×Obj))(O:St)(Q:Bool->Hp->Prop)(b:Bool)(s':Shared):Prop
 |mk:∀H',Z0 X Y O H' s'->Q b H'->TP X Y O Q b s'
inductive AP(X:Cx)(Y:List (Addr×Obj))(O:St)(Q:List V->Hp->Prop)(S:List Value)(s':Shared):Prop
 |mk:∀vs H',Z0 X Y O H' s'->ZH vs S->Q vs H'->AP X Y O Q S s'
def SP(X:Cx)(Y:List (Addr×Obj))(D:Ends)(f:Flow)(a:Shared):Prop:=
 match f with
 |.next=>∃ZT H',Z0 X Y ZT H' a/\D.nx ZT H'
 |.brk=>∃ZT H',Z0 X Y ZT H' a/\D.bk ZT H'
 |.cont=>∃ZT H',Z0 X Y ZT H' a/\D.ct ZT H'
 |.ret u=>∃v ZT H',Z0 X Y ZT H' a/\RelV v u/\D.rt v H'
def PE(X:Cx)(e:Expr)(t:TE):Prop:=
 ∀(Y:List (Addr×Obj)) (s:Shared) (O:St) (H:Hp) (Q:VK),Z0 X Y O H s->t O H Q->wpAny (model X.prog X.w) X.A (eval e X.env) (EP X Y O Q) X.xe s
def PT(X:Cx)(e:Expr)(t:TT):Prop:=
 ∀(Y:List (Addr×Obj)) (s:Shared) (O:St) (H:Hp) (Q:Bool->Hp->Prop),Z0 X Y O H s->t O H Q->wpAny (model X.prog X.w) X.A (isTrue e X.env (eval e X.env)) (TP X Y O Q) X.xe s
def PW(X:Cx)(e:Expr)(t:TT):Prop:=
 ∀(a:Sem Value) (Y:List (Addr×Obj)) (s:Shared) (O:St) (H:Hp) (Q:Bool->Hp->Prop),Z0 X Y O H s->t O H Q->wpAny (model X.prog X.w) X.A (isTrue e X.env a) (TP X Y O Q) X.xe s
def PW.pt{X:Cx}{t:TT}(h:PW X e t):PT X e t:=h _
def PA(X:Cx)(a:List Expr)(t:TA):Prop:=
 ∀(pos:Pos) (Y:List (Addr×Obj)) (s:Shared) (O:St) (H:Hp) (Q:List V->Hp->Prop),Z0 X Y O H s->t O H Q->wpAny (model X.prog X.w) X.A (spliced (backTo pos (starEach a X.env))) (AP X Y O Q) X.xe s
def PS(X:Cx)(st:Stmt)(t:TS):Prop:=
 ∀(Y:List (Addr×Obj)) (s:Shared) (O:St) (H:Hp) (D:Ends),Z0 X Y O H s->t D O H->wpAny (model X.prog X.w) X.A (exec st X.env) (SP X Y D) X.xe s
def PSs(X:Cx)(st:List Stmt)(t:TS):Prop:=
 ∀(Y:List (Addr×Obj)) (s:Shared) (O:St) (H:Hp) (D:Ends),Z0 X Y O H s->t D O H->wpAny (model X.prog X.w) X.A (execs st X.env) (SP X Y D) X.xe s
def thn{t:Sem α}{Q Q':α->Shared->Prop}{M:Model}{E:Value->Shared->Prop}{s:Shared}(h:wpAny M A t Q E s)(b:∀a s,Q a s->Q' a s):wpAny M A t Q' E s:=UM h b λ_ _ x=>x
end L2
variable{X:L2.Cx}{ta te:L2.TE}
namespace L2
open PySem PySem.Spec PyProof.Rows
section
def Ed(i:Nat):TE:=λO H Q=>∃v,O[i]?=some (some v)/\Q v H
def HX(v:V):TE:=λ_ H Q=>Q v H
def bX(n:X.N[i]?=some x)(g:Vis X.env.scope x)(b:(x==("__debug__" : Str))=false:=by decide)(o:(x==("__classdict__" : Str))=false:=by decide):PE X (.Name x pos) (Ed i):=by
 intro Y s O H Q I h;let⟨v,e,h⟩:=h;let⟨m,j,k⟩:=I.loc;let⟨u,r,l⟩:=k i x v n e g;have a:EP X Y O Q u s:=⟨v,H,I,r,h⟩;rcases l with⟨hk,hm⟩|⟨hk,c,d,f⟩
 .exact wpAny_Name (wpAny_loadName_local I.ok.kind hk j hm a) b
 .rcases hk with hk|hk
  .exact wpAny_Name (wpAny_loadName_cell I.ok.kind hk d f a) b
  .exact wpAny_Name (wpAny_loadName_free I.ok.kind hk d f a o) b
def abX{i j pos}:PE X (.Constant (.int i) j pos) (HX (.int i)):=λ_ _ _ H _ I h=>wpAny_Constant_int ⟨.int i,H,I.tok _,⟨_,rfl⟩,h⟩
def acL{b j pos}:PE X (.Constant (.bool b) j pos) (HX (.bl b)):=λ_ _ _ H _ I h=>Constant_bool ⟨.bl b,H,I,rfl,h⟩
def ab2{j pos}:PE X (.Constant .none j pos) (HX .ZJ):=λ_ _ _ H _ I h=>Constant_none ⟨.ZJ,H,I,rfl,h⟩
def oj{x j pos}:PE X (.Constant (.str x) j pos) (HX (.str x)):=λ_ _ _ H _ I h=>Calls.Constant_str ⟨.str x,H,I.tok _,⟨_,rfl⟩,h⟩
def Gl(X:Cx)(x:Str):Prop:=X.env.kindOf x=some .globalImplicit
def bR{E:Value->Shared->Prop}{O:St}{u:Value}{Q:Value->Shared->Prop}(I:Z0 X Y O H s)(b:Gl X x)(a:X.mg x=some u)(h:Q u s)
  (c:(x==("__debug__" : Str))=false:=by decide):wpAny (model X.prog X.w) X.A (eval (.Name x pos) X.env) Q E s:=
 P_ I.ok.kind b (Calls.loadGlobal_global (by rw[I.ok.glob];exact I.mod.glob.keeps I.bk) a h) c
def cX{E:Value->Shared->Prop}{O:St}{u:Value}{Q:Value->Shared->Prop}(I:Z0 X Y O H s)(d:Gl X x)(c:X.mg x=none)(a:bootBuiltins x=some u)(h:Q u s)
  (b:x ≠ "__name__":=by decide) (e:(x==("__debug__" : Str))=false:=by decide):wpAny (model X.prog X.w) X.A (eval (.Name x pos) X.env) Q E s:=by
 let⟨f,h1,h2⟩:=I.mod.blt;exact P_ I.ok.kind d (Calls.loadGlobal_builtin (by rw[I.ok.glob];exact I.mod.glob.keeps I.bk) c (by rw[I.ok.blt];exact h1.keeps I.bk) ((h2 x b).trans a) h) e
def lx{u:Value}(b:Gl X x)(a:X.mg x=some u)(r:RelV v u)(c:(x==("__debug__" : Str))=false:=by decide):PE X (.Name x pos) (HX v):=
 λ_ _ _ H _ I h=>bR I b a ⟨v,H,I,r,h⟩ c
def k9{u:Value}(d:Gl X x)(c:X.mg x=none)(a:bootBuiltins x=some u)(r:RelV v u)(b:x ≠ "__name__":=by decide)(e:(x==("__debug__" : Str))=false:=by decide):PE X (.Name x pos) (HX v):=
 λ_ _ _ H _ I h=>cX I d c a ⟨v,H,I,r,h⟩ b e
variable{a b:Expr}{tb:TE}
variable{tA tB':TT}{ZR:List Expr}
def HY(t u:TT):TT:=λO H Q=>t O H λc H1=>if c=true then u O H1 Q else Q false H1
def HZ(t u:TT):TT:=λO H Q=>t O H λc H1=>if c=true then Q true H1 else u O H1 Q
def Hb(t:TT):TT:=λO H Q=>t O H λc H1=>Q (!c) H1
def aab(b:PT X a tA):PW X (.BoolOp .And [a] pos) tA:=by
 intro d Y s O H Q I h;refine isTrue_and (thn (b Y s O H Q I h) λc f e=>?_);cases c with
 |true=>exact isTrue_and_nil e
 |false=>exact e
def acE(b:PT X a tA):PW X (.BoolOp .Or [a] pos) tA:=by
 intro d Y s O H Q I h;refine isTrue_or (thn (b Y s O H Q I h) λc f e=>?_);cases c with
 |false=>exact isTrue_or_nil e
 |true=>exact e
def abI(j:PT X a tA)(i:PW X (.BoolOp .And (b::ZR) pos) tB'):PW X (.BoolOp .And (a::b::ZR) pos) (HY tA tB'):=by
 intro f Y s O H Q I h;refine isTrue_and (thn (j Y s O H _ I h) ?_);rintro c g ⟨H1,e,d⟩;cases c with
 |true=>exact i f Y g O H1 Q e d
 |false=>exact⟨H1,e,d⟩
def acN(j:PT X a tA)(i:PW X (.BoolOp .Or (b::ZR) pos) tB'):PW X (.BoolOp .Or (a::b::ZR) pos) (HZ tA tB'):=by
 intro f Y s O H Q I h;refine isTrue_or (thn (j Y s O H _ I h) ?_);rintro c g ⟨H1,e,d⟩;cases c with
 |true=>exact⟨H1,e,d⟩
 |false=>exact i f Y g O H1 Q e d
def abJ(b:PT X a tA):PT X (.UnaryOp .Not a pos) (Hb tA):=by
 intro Y s O H Q I h;exact isTrue_not (thn (b Y s O H (λc H1=>Q (!c) H1) I h) λ_ _ ⟨H1,d,q⟩=>⟨H1,d,q⟩)
def GQ(a tb:TE):TE:=λO H Q=>a O H λx H1=>∃c,x=.bl c/\if c=true then tb O H1 Q else Q (.bl false) H1
def H8(a tb:TE):TE:=λO H Q=>a O H λx H1=>∃c,x=.bl c/\if c=true then Q (.bl true) H1 else tb O H1 Q
def aat{op}{t:TE}(h:PE X a t):PE X (.BoolOp op [a] pos) t:=λY s O H Q I b=>BoolOp_one (h Y s O H Q I b)
def acn(j:PE X a ta)(i:PE X (.BoolOp .And (b::ZR) pos) tb):PE X (.BoolOp .And (a::b::ZR) pos) (GQ ta tb):=by
 intro Y s O H Q I h;refine BoolOp_and (thn (j Y s O H _ I h) ?_);rintro v f ⟨x,H1,e,g,d⟩;let⟨c,rfl,d⟩:=d;cases g;refine S_ ?_;cases c with
 |true=>exact i Y f O H1 Q e d
 |false=>exact⟨.bl false,H1,e,rfl,d⟩
def adj(j:PE X a ta)(i:PE X (.BoolOp .Or (b::ZR) pos) tb):PE X (.BoolOp .Or (a::b::ZR) pos) (H8 ta tb):=by
 intro Y s O H Q I h;refine BoolOp_or (thn (j Y s O H _ I h) ?_);rintro v f ⟨x,H1,e,g,d⟩;let⟨c,rfl,d⟩:=d;cases g;refine S_ ?_;cases c with
 |false=>exact i Y f O H1 Q e d
 |true=>exact⟨.bl true,H1,e,rfl,d⟩
end
end L2
namespace L2
open PySem PySem.Spec PyProof.Rows
def SqL(K:Hu)(H:Hp)(a:Addr)(xs:List V):Prop:=
 Rd H a (.Z5 xs) \/
  ∃(o:Obj) (ZU:Array Value) (n:Nat),K.lookup a=some o/\o.cls=.type "list" /\ o.dict=none/\o.data=.seq ZU n/\ZU.size<=sizeLine/\ZH xs ZU.toList
def SqT(K:Hu)(H:Hp)(a:Addr)(xs:List V):Prop:=
 Rd H a (.ZY xs) \/
  ∃(o:Obj) (ZU:Array Value) (n:Nat),K.lookup a=some o/\o.cls=.type "tuple" /\ o.data=.seq ZU n/\ZU.size<=sizeLine/\ZH xs ZU.toList
def H9:Value->Option V
 |.none=>some .ZJ
 |.bool b=>some (.bl b)
 |.int i _=>some (.int i)
 |.str x _=>some (.str x)
 |.bytes b _=>some (.Xk b)
 |.float b _=>some (.UX b)
 |.ref a=>some (.ref a)
 |.type n=>some (.ty n)
 |_=>none
def RelV.abs{x:V}{u:Value}(r:RelV x u):H9 u=some x:=by
 cases x with
 |ZJ=>cases r;rfl
 |bl _=>cases r;rfl
 |int _=>let⟨t,rfl⟩:=r;rfl
 |str _=>let⟨t,rfl⟩:=r;rfl
 |Xk _=>let⟨t,rfl⟩:=r;rfl
 |UX _=>let⟨t,rfl⟩:=r;rfl
 |ref _=>cases r;rfl
 |ty _=>cases r;rfl
def RelV.inj{x y:V}{u:Value}(r:RelV x u)(q:RelV y u):x=y:=WV (r.abs.symm.trans q.abs)
def ZH.inj:∀{xs ys:List V} {S:List Value},ZH xs S->ZH ys S->xs=ys
 |_,_,_,.nil,.nil=>rfl
 |_,_,_,.cons r t,.cons r' t'=>by rw[r.inj r',ZH.inj t t']
section
variable{O:St}{xs ys:List V}
def SqL.of(h:H a=some (.Z5 xs)):SqL K H a xs:=.inl (.inl h)
def SqT.of(h:H a=some (.ZY xs)):SqT K H a xs:=.inl (.inl h)
def Z0.list(I:Z0 X Y O H s)(h:SqL X.K H a xs):∃ZU:List Value,ZH xs ZU/\PlainL s.heap a ZU.toArray/\xs.length<=sizeLine:=by
 rcases h with h|⟨o,ZU,n,hk,b,hd,hs,hz,r⟩
 .obtain ⟨z,ZU,n,r,e⟩:=h.ok I.ZK
  exact⟨ZU,r,⟨_,n,e,rfl,rfl,rfl⟩,z⟩
 .refine ⟨ZU.toList,r,⟨o,n,I.Yv a o hk,b,hd,by simpa using hs⟩,?_⟩
  have e:=r.length;simp![Y2]at e;lia
def Z0.tuple(I:Z0 X Y O H s)(h:SqT X.K H a xs):∃ZU:List Value,ZH xs ZU/\IsTup s.heap a ZU.toArray/\xs.length<=sizeLine:=by
 rcases h with h|⟨o,ZU,n,hk,b,hs,hz,r⟩
 .obtain ⟨z,ZU,r,p⟩:=h.ok I.ZK
  exact⟨ZU,r,p,z⟩
 .refine ⟨ZU.toList,r,⟨o,I.Yv a o hk,b,n,by simpa using hs⟩,?_⟩
  have e:=r.length;simp![Y2]at e;omega
def Z0.Rr(I:Z0 X Y O H s)(h:SqL X.K H a xs)(h':SqL X.K H a ys):xs=ys:=by
 let⟨ZU,r,⟨o,n,e,_,_,d⟩,_⟩:=I.list h;let⟨b,r',⟨o',g,e',_,_,c⟩,_⟩:=I.list h';rw[e]at e';cases e';rw[d]at c;injection c with f _
 have:ZU=b:=by simpa using Rz Array.toList f
 subst this;exact r.inj r'
def Z0.Ul(I:Z0 X Y O H s)(h:SqT X.K H a xs)(h':SqT X.K H a ys):xs=ys:=by
 let⟨ZU,r,⟨o,e,_,n,d⟩,_⟩:=I.tuple h;let⟨b,r',⟨o',e',_,g,c⟩,_⟩:=I.tuple h';rw[e]at e';cases e';rw[d]at c;injection c with f _
 have:ZU=b:=by simpa using Rz Array.toList f
 subst this;exact r.inj r'
end
abbrev Cx.Xv(X:Cx)(E:Value->Shared->Prop):Cx:={X with xe:=E}
abbrev Cx.Zh(X:Cx):Cx:=X.Xv λ_ _=>False
def Cx.Ok.Xv{X:Cx}(a:X.Ok)(E:Value->Shared->Prop):(X.Xv E).Ok:=
 ⟨a.mod,a.kind,a.glob,a.blt,a.above,a.inj,a.has,a.VG,a.hd,a.frames,a.WG,a.exf,a.bs,a.W5,a.Zb,a.UU,a.XI,a.Wq⟩
def Cx.Ok.W2{E:Value->Shared->Prop}(a:(X.Xv E).Ok):X.Ok:=
 ⟨a.mod,a.kind,a.glob,a.blt,a.above,a.inj,a.has,a.VG,a.hd,a.frames,a.WG,a.exf,a.bs,a.W5,a.Zb,a.UU,a.XI,a.Wq⟩
section
variable{O:St}{E:Value->Shared->Prop}
def Z0.Xv(I:Z0 X Y O H s)(E:Value->Shared->Prop):Z0 (X.Xv E) Y O H s:=⟨I.ok.Xv E,I.os,I.bare,I.base,I.loc,I.cell,I.free,I.Yg,I.pin,I.ZK,I.len⟩
def Z0.W2(I:Z0 (X.Xv E) Y O H s):Z0 X Y O H s:=⟨I.ok.W2,I.os,I.bare,I.base,I.loc,I.cell,I.free,I.Yg,I.pin,I.ZK,I.len⟩
def SP.W2{D:Ends}{f:Flow}{a:Shared}(h:SP (X.Xv E) Y D f a):SP X Y D f a:=by
 cases f with
 |next=>let⟨ZT,H',I,q⟩:=h;exact⟨ZT,H',I.W2,q⟩
 |brk=>let⟨ZT,H',I,q⟩:=h;exact⟨ZT,H',I.W2,q⟩
 |cont=>let⟨ZT,H',I,q⟩:=h;exact⟨ZT,H',I.W2,q⟩
 |ret u=>let⟨v,ZT,H',I,r,q⟩:=h;exact⟨v,ZT,H',I.W2,r,q⟩
def PT.Zh{e:Expr}{t:TT}(h:PT X.Zh e t):PT X e t:=λY s O H Q I a=>
 UM (h Y s O H Q (I.Xv _) a) (λ_ _ ⟨H',b,q⟩=>⟨H',b.W2,q⟩) λ_ _ z=>False.elim z
def PSs.Zh{st:List Stmt}{t:TS}(h:PSs X.Zh st t):PSs X st t:=λY s O H D I a=>
 UM (h Y s O H D (I.Xv _) a) (λ_ _ q=>q.W2) λ_ _ z=>False.elim z
end
section
variable{st:Stmt}{ZR:List Stmt}{t u:TS}
def Fm:TS:=λD O H=>D.nx O H
def Gd(t u:TS):TS:=λD O H=>t {D with nx:=u D} O H
def cQ:PSs X [] Fm:=λ_ _ O H _ I h=>OW ⟨O,H,I,h⟩
def dX(c:PS X st t)(b:PSs X ZR u):PSs X (st::ZR) (Gd t u):=by
 intro Y s O H D I h;refine wpAny_execs_cons (thn (c Y s O H {D with nx:=u D} I h) λf a q=>?_)
 cases f with
 |next=>
  let⟨ZT,H',d,q⟩:=q;exact b Y a ZT H' D d q
 |ret v=>exact q
 |brk=>exact q
 |cont=>exact q
def Z0.quiet{O:St}(I:Z0 X Y O H s):interactive X.env=false:=by simp[interactive,I.ok.kind]
def GW(a:TE):TS:=λD O H=>a O H λ_ H1=>D.nx O H1
def zZ(c:PE X e te)(b:swapsWith e none pos.line X.env=pure false:=by rfl):PS X (.Expr e pos) (GW te):=by
 intro Y s O H D I h;exact wpAny_Expr_any (thn (c Y s O H _ I h) λv f ⟨x,H1,d,g,a⟩=>⟨O,H1,d,a⟩) I.quiet b
def Ia(a:TE):TS:=λD O H=>a O H D.rt
def acG(c:PE X e te):PS X (.Return (some e) pos) (Ia te):=by
 intro Y s O H D I h;exact wpAny_Return_some (thn (c Y s O H _ I h) λv f ⟨x,H1,d,a,b⟩=>⟨x,O,H1,d,a,b⟩)
def Ib(c:TT)(t u:TS):TS:=λD O H=>c O H λb H1=>if b=true then t D O H1 else u D O H1
def qO{c:Expr}{a b:List Stmt}{e:TT}(j:PT X c e)(l:PSs X a t)(k:PSs X b u):PS X (.If c a b pos) (Ib e t u):=by
 intro Y s O H D I h;refine wpAny_If (thn (j Y s O H _ I h) ?_);rintro d f ⟨H1,i,g⟩;cases d with
 |true=>exact l Y f O H1 D i g
 |false=>exact k Y f O H1 D i g
end
abbrev TG:=V->St->Hp->(St->Hp->Prop)->Prop
abbrev Wn:=List V->St->Hp->(St->Hp->Prop)->Prop
def PG(X:Cx)(a:Expr)(t:TG):Prop:=
 ∀(Y:List (Addr×Obj)) (s:Shared) (O:St) (H:Hp) (v:V) (u:Value) (Q:St->Hp->Prop),Z0 X Y O H s->RelV v u->t v O H Q ->
  wpAny (model X.prog X.w) X.A (assign a X.env u) (λ_ s'=>∃ZT H',Z0 X Y ZT H' s'/\Q ZT H') X.xe s
def PGs(X:Cx)(b:List Expr)(t:Wn):Prop:=
 ∀(Y:List (Addr×Obj)) (s:Shared) (O:St) (H:Hp) (a:List V) (S:List Value) (Q:St->Hp->Prop),Z0 X Y O H s->ZH a S->t a O H Q ->
  wpAny (model X.prog X.w) X.A (assignInOrder ((assignEach b X.env).map (·.2)) S) (λ_ s'=>∃ZT H',Z0 X Y ZT H' s'/\Q ZT H') X.xe s
abbrev Ct:=V->V->V->Hp->(Hp->Prop)->Prop
def BY(X:Cx)(t:Ct):Prop:=
 ∀(Y:List (Addr×Obj)) (s:Shared) (O:St) (H:Hp) (o i v:V) (a b u:Value) (Q:Hp->Prop),Z0 X Y O H s->RelV o a->RelV i b->RelV v u->t o i v H Q ->
  wpAny (model X.prog X.w) X.A (setItem a b u) (λ_ s'=>∃H',Z0 X Y O H' s'/\Q H') X.xe s
section
def E1(i:Nat):TG:=λv O H Q=>Q (O.set i (some v)) H
def lb(c:X.N.Nodup)(hi:X.N[i]?=some x)(a:Loc X.env.scope x)(b:X.fn x=true\/X.env.scope.names.lookup x=some .local:=by first|exact .inl rfl|exact .inr rfl|assumption):PG X (.Name x pos) (E1 i):=by
 intro Y s O H v u Q I r h;exact wpAny_assign_Name (gh I c hi a r (λs' d=>⟨_,H,d,h⟩) b)
def Hd:Wn:=λa O H Q=>a=[]/\Q O H
def GO(t:TG)(u:Wn):Wn:=λa O H Q=>∃v r,a=v::r/\t v O H λZT H'=>u r ZT H' Q
def yB:PGs X [] Hd:=by
 intro Y s O H a S Q I r h;let⟨e,h⟩:=h;subst e;cases r;exact assignInOrder_nil ⟨O,H,I,h⟩
def wM{t:TG}{u:Wn}(g:PG X e t)(f:PGs X es u)
  (d:(assignEach (e::es) X.env).map (·.2)=assign e X.env::(assignEach es X.env).map (·.2):=by rfl):PGs X (e::es) (GO t u):=by
 intro Y s O H l S Q I r h;let⟨v,m,i,h⟩:=h;subst i;cases r with
 |cons r b=>
  rw[d];refine assignInOrder_cons (thn (g Y s O H _ _ _ I r h) ?_);rintro _ a ⟨j,H1,k,c⟩;exact f Y a j H1 _ _ Q k b c
def Ic(K:Hu)(n:Nat)(t:Wn):TG:=λv O H Q=>∃a xs,v=.ref a/\SqT K H a xs/\xs.length=n/\t xs O H Q
def ab5{k:Nat}{t:Wn}(m:X.calm=true)(h:PGs X es t)
  (j:(assignEach es X.env).length=n:=by rfl) (q:(assignEach es X.env).findIdx? (·.1)=none:=by rfl):PG X (.Tuple es k pos) (Ic X.K n t):=by
 intro Y s O H v u Q I r c;let⟨a,xs,p,i,l,c⟩:=c;subst p;cases r;let⟨ZU,d,g,x⟩:=I.tuple i;refine assign_Tuple_tuple (I.ok.hd m) g (by simp[j,<-l,d.length]) q λh' f=>?_
 have w:Z0 X Y O H {s with heap:=h'}:=I.kept (t':=s.toks) λb o e=>f b o (Hn (Hh e)) e
 exact h Y _ O H xs _ Q w (by simpa using d) c
def Ie(a b:TE)(t:Ct):TG:=λv O H Q=>a O H λo H1=>b O H1 λi H2=>t o i v H2 λH3=>Q O H3
def abt{o i:Expr}{to ti:TE}{t:Ct}(ho:PE X o to)(hi:PE X i ti)(hs:BY X t)
  (ha:∀ v,assign (.Subscript o i pos) X.env v=(do
   let ov<-holding [v] (eval o X.env)
   let iv<-holding [v,ov] (eval i X.env)
   standAt pos
   holding [v,ov,iv] (setItem ov iv v)
   release [v,ov,iv] []):=by intro _;rfl):PG X (.Subscript o i pos) (Ie to ti t):=by
 intro Y s O H v u Q I r h;rw[ha];refine ZB (Vt (thn (ho Y s O H _ I h) ?_));rintro ov s1 ⟨x,H1,I1,r1,q1⟩;refine ZB (Vt (thn (hi Y s1 O H1 _ I1 q1) ?_));rintro iv s2 ⟨y,H2,I2,r2,q2⟩;refine ZB (Ss (ZB (Vt (thn (hs Y s2 O H2 x y v ov iv u _ I2 r1 r2 r q2) ?_))));rintro _ s3 ⟨H3,I3,q3⟩;exact wpAny_release ⟨O,H3,I3,q3⟩
def FZ(a:TE)(g:TG):TS:=λD O H=>a O H λx H1=>g x O H1 D.nx
def my{g:TG}(j:PE X e te)(i:PG X tg g)(f:swapsWithSole [tg] e pos.line X.env=pure false:=by rfl)(d:swappedStores [tg] e X.env=pure none:=by rfl)
  (h1:(assignEach [tg] X.env).map (·.2)=[assign tg X.env]:=by rfl):PS X (.Assign [tg] e pos) (FZ te g):=by
 intro Y s O H D I h;refine wpAny_Assign_stores (thn (j Y s O H _ I h) λv a ⟨x,H1,k,b,c⟩=>?_) f d;rw[h1];exact thn (i Y a O H1 x v _ k b c) λ_ l q=>q
def mX{a:Pos}(k:X.N.Nodup)(hi:X.N[i]?=some x)(d:Loc X.env.scope x)(j:PE X e te)(f:swapsWith e (some (.Name x a)) pos.line X.env=pure false:=by rfl)(g:X.fn x=true\/X.env.scope.names.lookup x=some .local:=by first|exact .inl rfl|exact .inr rfl|assumption):
  PS X (.Assign [.Name x a] e pos) (FZ te (E1 i)):=by
 intro Y s O H D I h;refine wpAny_Assign_Name (thn (j Y s O H _ I h) λv o ⟨y,H1,m,b,c⟩=>?_) f;exact gh m k hi d b (λn l=>⟨_,H1,l,c⟩) g
end
set_option genInjectivity false in
structure It where
 go:Nat->Hp->Prop
 yld:Nat->Hp->V->Hp->Prop
 stop:Nat->Hp->Prop
def AM(X:Cx)(Y:List (Addr×Obj))(H:Hp)(b:Addr):Prop:=
 H b=none/\b≠X.env.locals/\b ∉ X.fs/\(b∈X.ex\/X.ZF.heap.objs.size<=b)/\(∀x c,X.env.cells.lookup x=some c->c≠b) /\∀p∈X.pn++Y,p.1≠b
def Z0.SO{O:St}{b:Addr}(I:Z0 X Y O H s)(a:s.heap.objs.size<=b)(f:H' b=none):AM X Y H' b:=by
 refine⟨f,QU (Hm I.lt a),I.nofs a,.inr (Hi I.sz a),λx c e z=>?_,λp d z=>?_⟩
 .obtain ⟨v,q⟩:=I.cell x c e
  exact absurd (Hm q.lt (by rw[z];exact a)) (R4 _)
 .exact absurd (Hm (Hh (I.pin p d).1) (by rw[z];exact a)) (R4 _)
structure Turn(P:Program)(w:World)(K:Hu)(tg:Expr)(Z8:It)(fp:List Addr)(it:Addr)(tn:Nat->Heap->Prop):Prop where
 mem:it∈fp
 obj:∀i h,tn i h ->∀b∈fp,∃o,h.get? b=some o /\∀v,o.data ≠ .cell v
 keep:∀i h h',tn i h->(∀b∈fp,∀o,h.get? b=some o->h'.get? b=some o)->tn i h'
 item:∀(X:Cx),X.prog=P->X.w=w->X.K=K->X.calm=true ->∀(i:Nat) (Y:List (Addr×Obj)) (s:Shared) (O:St) (H:Hp) (E:Value->Shared->Prop),Z0 X Y O H s->(∀b∈fp,AM X Y H b)->tn i s.heap->Z8.go i H ->
  wpAny (model P w) X.A (pyNext (.ref it)) (λr s1 => ∃ u,r=some u /\
   wpAny (model P w) X.A (letOwnedTupleGo tg (.ref it) u) (λ_ s2=>∃x H',Z0 X Y O H' s2/\RelV x u/\Z8.yld i H x H'/\tn (i+1) s2.heap /\∀b∈fp,H' b=none) E s1) E s
 done:∀(X:Cx),X.prog=P->X.w=w->X.K=K->X.calm=true ->∀(i:Nat) (Y:List (Addr×Obj)) (s:Shared) (O:St) (H:Hp) (E:Value->Shared->Prop),Z0 X Y O H s->(∀b∈fp,AM X Y H b)->tn i s.heap->Z8.stop i H ->
  wpAny (model P w) X.A (pyNext (.ref it)) (λr s1=>r=none/\Z0 X Y O H s1) E s
 self:∀(A:Around) (i:Nat) (s:Shared) (Q:Value->Shared->Prop) (E:Value->Shared->Prop),tn i s.heap->Q (.ref it) s->wpAny (model P w) A (pyIter (.ref it)) Q E s
abbrev TI:=St->Hp->(It->Hp->Prop)->Prop
def PIE(X:Cx)(Y:List (Addr×Obj))(O:St)(d:Expr)(R:It->Hp->Prop)(e:Value)(a:Shared):Prop:=
 ∃(it:Addr) (fp:List Addr) (tn:Nat->Heap->Prop) (c:It) (H':Hp),e=.ref it/\Z0 X Y O H' a/\Turn X.prog X.w X.K d c fp it tn/\tn 0 a.heap/\(∀b∈fp,AM X Y H' b)/\R c H'
def PI(X:Cx)(c a:Expr)(b:TI):Prop:=
 ∀(Y:List (Addr×Obj)) (s:Shared) (O:St) (H:Hp) (R:It->Hp->Prop),Z0 X Y O H s->b O H R ->
  wpAny (model X.prog X.w) X.A (eval a X.env) (λv d=>wpAny (model X.prog X.w) X.A (pyIter v) (PIE X Y O c R) X.xe d) X.xe s
def hU{M:Model}{E:Value->Shared->Prop}{it:Addr}{u:Value}{o:Obj}{n:String}{vs:Array Value}{Q:Unit->Shared->Prop}(b:s.heap.get? it=some o)(e:o.cls=.type n)(d:o.data=.fields vs)
    (c:["enumerate","zip","dict_itemiterator","dict_reverseitemiterator","odict_iterator","itertools.zip_longest","itertools.pairwise"].contains n=false) (a:Q Unit.unit s):wpAny M A (letOwnedTupleGo tg (.ref it) u) Q E s:=by
  unfold letOwnedTupleGo;cases tg<;>first
    |exact ZP a
    | (cases u <;> first
        |exact ZP a
        | (refine ZB (wpAny_load b ?_)
           rw[e,d];show wpAny M A (if(["enumerate","zip","dict_itemiterator","dict_reverseitemiterator","odict_iterator","itertools.zip_longest","itertools.pairwise"].contains n&&vs[0]? == some (rawInt _))=true then _ else _) Q E s
           rw[Yn (by intro h;rw[c,Oa]at h;cases h)]
           exact ZP a))
def Itl(K:Hu)(a:Addr):It:=
 ⟨λi H=>∃xs x,SqL K H a xs/\xs[i]?=some x,λi H x H'=>H'=H /\∀xs,SqL K H a xs->xs[i]?=some x,λi H=>∃xs,SqL K H a xs/\xs.length<=i⟩
def Itt(K:Hu)(a:Addr):It:=
 ⟨λi H=>∃xs x,SqT K H a xs/\xs[i]?=some x,λi H x H'=>H'=H /\∀xs,SqT K H a xs->xs[i]?=some x,λi H=>∃xs,SqT K H a xs/\xs.length<=i⟩
def Itr(lo:Int)(n:Nat):It:=⟨λi _=>i<n,λi H x H'=>H'=H/\x=.int (lo+i),λi _=>n<=i⟩
def vP(a it:Addr):Turn P w K tg (Itl K a) [it] it (λi h=>h.IsListIter it a i) where
 mem:=by simp
 obj:=λi h st b f=>by
  have e:b=it:=by simpa using f
  subst e;let⟨o,e,c,d⟩:=st;exact⟨o,e,λv z=>by rw[d]at z;cases z⟩
 keep:=λi h h' st k=>st.at λo e=>k it #[3] o e
 item:=by
  intro X B y C M i Y s O H E I j st A;subst B y C;let⟨xs,x,g,t⟩:=A;let⟨ZU,r,p,R⟩:=I.list g;let⟨u,T,Q⟩:=r.get t;let⟨L,J,U,G,F,D⟩:=j it #[3]
  refine wpAny_pyNext_list_item st p.isList (x:=u) (by simpa using T) λh' N sb=>?_
  have W:Z0 X Y O H {s with heap:=h'}:=I.turned (t':=s.toks) (λb o f e=>(sb.2 b f).trans e) L J G F D
  let⟨o,e,c,d⟩:=id N;exact⟨u,rfl,hU (s:={s with heap:=h'}) e c d #[1] ⟨x,H,W,Q,⟨rfl,λys S=>by rw[I.Rr S g];exact t⟩,N,λb f=>(j b f).1⟩⟩
 done:=by
  intro X B y C M i Y s O H E I j st A;subst B y C;let⟨xs,g,t⟩:=A;let⟨ZU,r,p,R⟩:=I.list g;let⟨L,J,U,G,F,D⟩:=j it #[3]
  have hl:=r.length;exact wpAny_pyNext_list_end (I.ok.hd M) st p.isList (by simp;lia) λh' V=>⟨rfl,I.turned (t':=s.toks) (λb o f e=>V b o f e) L J G F D⟩
 self:=λ_ _ _ _ _ st h=>wpAny_pyIter_listiter st h
def uK(a it:Addr):Turn P w K tg (Itt K a) [it] it (λi h=>h.IsTupleIter it a i) where
 mem:=by simp
 obj:=λi h st b f=>by
  have e:b=it:=by simpa using f
  subst e;let⟨o,e,c,d⟩:=st;exact⟨o,e,λv z=>by rw[d]at z;cases z⟩
 keep:=λi h h' st k=>st.at λo e=>k it #[3] o e
 item:=by
  intro X B y C M i Y s O H E I j st A;subst B y C;let⟨xs,x,g,t⟩:=A;let⟨ZU,r,p,R⟩:=I.tuple g;let⟨u,T,Q⟩:=r.get t;let⟨L,J,U,G,F,D⟩:=j it #[3]
  refine wpAny_pyNext_tuple_item st (show s.heap.IsTuple a ZU.toArray from p) (x:=u) (by simpa using T) λh' N sb=>?_
  have W:Z0 X Y O H {s with heap:=h'}:=I.turned (t':=s.toks) (λb o f e=>(sb.2 b f).trans e) L J G F D
  let⟨o,e,c,d⟩:=id N;exact⟨u,rfl,hU (s:={s with heap:=h'}) e c d #[1] ⟨x,H,W,Q,⟨rfl,λys S=>by rw[I.Ul S g];exact t⟩,N,λb f=>(j b f).1⟩⟩
 done:=by
  intro X B y C M i Y s O H E I j st A;subst B y C;let⟨xs,g,t⟩:=A;let⟨ZU,r,p,R⟩:=I.tuple g;let⟨L,J,U,G,F,D⟩:=j it #[3]
  have hl:=r.length;exact wpAny_pyNext_tuple_end (I.ok.hd M) st (show s.heap.IsTuple a ZU.toArray from p) (by simp;omega) λh' V=>⟨rfl,I.turned (t':=s.toks) (λb o f e=>V b o f e) L J G F D⟩
 self:=λ_ _ _ _ _ st h=>wpAny_pyIter_tupleiter st h
def uD(it:Addr)(lo:Int)(n:Nat):Turn P w K tg (Itr lo n) [it] it (λi h=>IsRangeIter h it (lo+(i:Nat)*1) ((n:Int)-(i:Nat)) 1) where
 mem:=by simp
 obj:=λi h st b a=>by
  have e:b=it:=by simpa using a
  subst e
  exact ⟨_,st,λv z=>by
   have F:Data.fields _=Data.cell v:=z;cases F⟩
 keep:=λi h h' st k=>k it #[3] _ st
 item:=by
  intro X j d r g i Y s O H E I c st f;subst j d r;let⟨C,B,L,A,y,u⟩:=c it #[3]
  have W:=Walks.range (prog:=X.prog) (w:=X.w) (I.ok.hd g) it lo 1 n;refine W.item i s _ _ f st λv h' tk J D G=>?_;let⟨t,rfl⟩:=J;have N:Z0 X Y O H {s with heap:=h',toks:=tk}:=I.turned (λb o a e=>G b o (by simpa using a) e) C B A y u
  refine⟨_,rfl,hU (s:={s with heap:=h',toks:=tk}) (n:="range_iterator") D rfl rfl #[1] ⟨.int (lo+i),H,N,⟨t,?_⟩,⟨rfl,rfl⟩,D,λb a=>(c b a).1⟩⟩
  rw[Int.mul_one]
 done:=by
  intro X j d r g i Y s O H E I c st f;subst j d r;let⟨C,B,L,A,y,u⟩:=c it #[3]
  exact wpAny_pyNext_range_end (I.ok.hd g) st (by have:n<=i:=f;lia) λh' M=>⟨rfl,I.turned (t':=s.toks) (λb o a e=>M b o a e) C B A y u⟩
 self:=λ_ _ _ _ _ st h=>wpAny_pyIter_rangeiter st h
end L2
namespace L2
open PySem PySem.Spec PyProof.Rows
section
def j9{O:St}{R:It->Hp->Prop}{E:Value->Shared->Prop}{lo hi:Int}{t u v:Tok}{tk:Nat}(I:Z0 X Y O H s)(h1 : -(2 ^ 62)<=lo)(f:lo<2 ^ 62)(h3 : -(2 ^ 62)<=hi)(d:hi<2 ^ 62)
  (q:R (Itr lo (hi-lo).toNat) H):wpAny (model X.prog X.w) X.A (pyIter (.ref s.heap.objs.size)) (PIE X Y O tg R) E {s with heap:=s.heap.push {cls:=.type "range",data:=.fields #[.int lo t,.int hi u,.int 1 v]},toks:=tk}:=by
 refine wpAny_pyIter_range (IsRange.new ..) (small_one h1 f h3 d) ?_;have a:Z0 X Y O H {s with heap:=s.heap.push {cls:=.type "range",data:=.fields #[.int lo t,.int hi u,.int 1 v]},toks:=tk}:=I.kept λb o e=>Hg _ e
 refine⟨(s.heap.push {cls:=.type "range",data:=.fields #[.int lo t,.int hi u,.int 1 v]}).objs.size,[(s.heap.push {cls:=.type "range",data:=.fields #[.int lo t,.int hi u,.int 1 v]}).objs.size],_,_,H,rfl,
  a.kept (t':=tk) λb o e=>Hg _ e,uD _ lo (hi-lo).toNat,?_,λb c=>?_,q⟩
 .have j:lo+((0:Nat):Int)*1=lo:=by simp
  have g:(((hi-lo).toNat:Nat):Int)-((0:Nat):Int)=Builtin.Range.rangeSize lo hi 1:=by rw[rangeSize_one];split<;>lia
  show IsRangeIter _ _ (lo+((0:Nat):Int)*1) ((((hi-lo).toNat:Nat):Int)-((0:Nat):Int)) 1;rw[j,g];exact Ho _ rfl
 .have e:b=(s.heap.push {cls:=.type "range",data:=.fields #[.int lo t,.int hi u,.int 1 v]}).objs.size:=by simpa using c
  subst e;exact a.SO (Hk _) (a.ZK.fresh (Hk _))
def GZ(b:TA):TI:=λO H R=>b O H λa H1=>∃j:Int,a=[.int j] /\ -(2 ^ 62)<=j/\j<2 ^ 62/\R (Itr 0 j.toNat) H1
def GL(b:TA):TI:=λO H R=>b O H λa H1=>∃i j:Int,a=[.int i,.int j]/\(-(2 ^ 62)<=i/\i<2 ^ 62 /\ -(2 ^ 62)<=j/\j<2 ^ 62)/\R (Itr i (j-i).toNat) H1
def vo{a:Expr}{c:TA}{p:Pos}(l:Gl X "range")(k:X.mg "range" = none)(m:PA X [a] c)(i:starEach [a] X.env=[(false,eval a X.env)]:=by rfl):PI X tg (.Call (.Name "range" p) [a] [] pos) (GZ c):=by
 intro Y s O H R I h;refine Call_ (cX I l k boot_range (QH (thn (m pos Y s O H _ I h) λS o ⟨vs,H1,n,f,b⟩=>?_) i rfl));let⟨j,e,b,g,q⟩:=b;subst e;cases f with
 |cons r d=>
  cases d;let⟨t,rfl⟩:=r;exact call_range_1 (j9 n (by lia) (by lia) b g (by simpa using q))
def vt{a b:Expr}{f:TA}{p:Pos}(v:Gl X "range")(u:X.mg "range" = none)(w:PA X [a,b] f)(o:starEach [a,b] X.env=[(false,eval a X.env),(false,eval b X.env)]:=by rfl)(g:starEach [b] X.env=[(false,eval b X.env)]:=by rfl):
  PI X tg (.Call (.Name "range" p) [a,b] [] pos) (GL f):=by
 intro Y s O H R I h;refine Call_ (cX I v u boot_range (QH (thn (w pos Y s O H _ I h) λS y ⟨vs,H1,x,k,d⟩=>?_) (by rw[o,g]) (by rw[g];rfl)))
 let⟨i,j,e,⟨d,n,m,l⟩,q⟩:=d;subst e;cases k with
 |cons r c=>
  cases c with
  |cons r' c=>
   cases c;let⟨t,rfl⟩:=r;let⟨t',rfl⟩:=r';exact call_range_2 (j9 x d n m l q)
def Ig(c:TI)(g:TG)(tb:TS):TS:=λD O H=>c O H λa H1=>∃W:Nat->Nat->St->Hp->Prop,(∃m,W 0 m O H1) /\∀i m O H,W i m O H ->
 (a.stop i H/\D.nx O H)\/(a.go i H /\∃N:St->Hp->Prop,(∀ZT H',N ZT H' ->∃b,b<m/\W (i+1) b ZT H') /\∀x H',a.yld i H x H'->g x O H' λd H2=>tb {D with nx:=N,ct:=N,bk:=D.nx} d H2)
def B7(a:List Addr)(h:Heap):List (Addr×Obj):=a.filterMap λb=>(h.get? b).map λo=>(b,o)
def dy{b:Addr}{o:Obj}(a:b∈fp)(e:h.get? b=some o):(b,o)∈B7 fp h:=Ob.mpr ⟨b,a,by rw[e];rfl⟩
def vB{p:Addr×Obj}(a:p∈B7 fp h):p.1∈fp/\h.get? p.1=some p.2:=by
 let⟨b,c,e⟩:=Ob.mp a;cases q:h.get? b with
 |none=>rw[q]at e;cases e
 |some o=>
  rw[q]at e;have e':(b,o)=p:=WV e;subst e';exact⟨c,q⟩
def Z0.pinned{O:St}{a:List Addr}(I:Z0 X Y O H s)(h:∀b∈a,AM X Y H b)(g:∀b∈a,∃o,s.heap.get? b=some o /\∀v,o.data ≠ .cell v):Z0 X (Y++B7 a s.heap) O H s:=
 I.R8 λp f=>(Wh.mp f).elim (λz=>I.pin p (Vx _ z)) λz=>by
  let⟨c,e⟩:=vB z;let⟨k,j,i,_⟩:=h p.1 c;let⟨o,e',d⟩:=g p.1 c;rw[e]at e';cases e';exact⟨e,k,j,i,d⟩
def Z0.Te{a:List (Addr×Obj)}{O:St}(I:Z0 X (Y++a) O H s):Z0 X Y O H s:=I.R8 λp b=>I.pin p (Vx _ (UA _ b))
def abQ{c:Expr}{M:TI}{g:TG}{tb:TS}(B:PassesOwn (model X.prog X.w) X.A X.env X.xe)(Q:X.calm=true)(hi:PI X tg c M)(hg:PG X tg g)(j:PSs X body tb)
  (hs:∀x,foldedSetIterable c X.env x=pure x:=by intro _;rfl):PS X (.For tg c body [] pos) (Ig M g tb):=by
 intro Y s O H D I h;refine wpAny_For (thn (hi Y s O H _ I h) λv s1 h1=>thn h1 λUQ s2 h2=>?_) hs;let⟨it,fp,tn,Z8,H2,e,I2,T,Zx,R,W,⟨m0,w0⟩,y⟩:=h2;subst e;have a:∀{H':Hp},(∀b∈fp,H' b=none) ->∀b∈fp,AM X Y H' b:=λhn b j=>⟨hn b j,(R b j).2⟩;refine codeAny_forLoop_any (λn s'=>∃i ZT H',Z0 X Y ZT H' s'/\tn i s'.heap/\(∀b∈fp,H' b=none)/\W i n ZT H') ?_ m0 ⟨0,O,H2,I2,Zx,λb j=>(R b j).1,w0⟩;rintro n s3 ⟨i,E,H3,U,S,C,w3⟩;rcases y i n E H3 w3 with⟨stop,qn⟩|⟨go,N,hN,step⟩
 .refine Qk B (thn (T.done X rfl rfl rfl Q i Y s3 E H3 X.xe U (a C) S stop) λr s4 ⟨G,I4⟩=>?_)
  subst G;exact OW ⟨E,H3,I4,qn⟩
 .refine Qk B (thn (T.item X rfl rfl rfl Q i Y s3 E H3 X.xe U (a C) S go) λr s4 ⟨u,G,h4⟩=>?_)
  subst G;refine Qk B (thn h4 ?_);rintro _ P ⟨x,V,I5,r5,Z,K,J⟩;have L:=I5.pinned (a J) (T.obj _ _ K);refine Qk B (thn (hg _ P E V x u _ L r5 (step x V Z)) ?_);rintro _ s6 ⟨Uk,H6,I6,q6⟩;refine Qk B (thn (j _ s6 Uk H6 _ I6 q6) λf F t=>?_);have k:∀{l:St} {q:Hp},Z0 X (Y++B7 fp P.heap) l q F->N l q ->∃m,m<n /\∃i ZT H',Z0 X Y ZT H' F/\tn i F.heap/\(∀b∈fp,H' b=none)/\W i m ZT H':=λ{l q} p z=>by
   let⟨m',hm,w7⟩:=hN l q z;refine⟨m',hm,i+1,l,q,p.Te,T.keep _ _ _ K λb j o e=>(p.pin (b,o) (Vx _ (Vx _ (dy j e)))).1,λb j=>?_,w7⟩;let⟨o,e,d⟩:=T.obj _ _ K b j;exact(p.pin (b,o) (Vx _ (Vx _ (dy j e)))).2.1
  cases f with
  |next=>let⟨l,q,p,z⟩:=t;exact k p z
  |cont=>let⟨l,q,p,z⟩:=t;exact k p z
  |brk=>let⟨l,q,p,t⟩:=t;exact⟨l,q,p.Te,t⟩
  |ret v=>let⟨x7,l,q,p,r7,t⟩:=t;exact⟨x7,l,q,p.Te,r7,t⟩
end
end L2
namespace L2
open PySem PySem.Spec PyProof.Rows
abbrev R2:=V->V->Hp->VK->Prop
def OpR(X:Cx)(f:Value->Value->Sem Value)(r:R2):Prop:=
 ∀(Y:List (Addr×Obj)) (s:Shared) (O:St) (H:Hp) (x y:V) (v u:Value) (Q:VK),Z0 X Y O H s->RelV x v->RelV y u->r x y H Q ->
  wpAny (model X.prog X.w) X.A (f v u) (EP X Y O Q) X.xe s
def UnR(X:Cx)(f:Value->Sem Value)(r:V->Hp->VK->Prop):Prop:=
 ∀(Y:List (Addr×Obj)) (s:Shared) (O:St) (H:Hp) (x:V) (v:Value) (Q:VK),Z0 X Y O H s->RelV x v->r x H Q ->
  wpAny (model X.prog X.w) X.A (f v) (EP X Y O Q) X.xe s
def CallR(X:Cx)(f:Value)(r:List V->Hp->VK->Prop):Prop:=
 ∀(Y:List (Addr×Obj)) (s:Shared) (O:St) (H:Hp) (xs:List V) (S:List Value) (Q:VK),Z0 X Y O H s->ZH xs S->r xs H Q ->
  wpAny (model X.prog X.w) X.A (call f S) (EP X Y O Q) X.xe s
def Hf(X:Cx)(r:V->Hp->(Bool->Hp->Prop)->Prop):Prop:=
 ∀(Y:List (Addr×Obj)) (s:Shared) (O:St) (H:Hp) (x:V) (v:Value) (Q:Bool->Hp->Prop),Z0 X Y O H s->RelV x v->r x H Q ->
  wpAny (model X.prog X.w) X.A (truthy v) (TP X Y O Q) X.xe s
def Ih(r:R2)(a tb:TE):TE:=λO H Q=>a O H λx H1=>tb O H1 λy H2=>r x y H2 Q
def Ii(r:V->Hp->VK->Prop)(a:TE):TE:=λO H Q=>a O H λx H1=>r x H1 Q
def Ij(C:Int->Int->Prop)(g:Int->Int->V):R2:=λx y H Q=>∃i j,x=.int i/\y=.int j/\C i j/\Q (g i j) H
def Ik(g:Int->Int->V):R2:=λx y H Q=>∃i j,x=.int i/\y=.int j/\Q (g i j) H
def Il(g:Int->V):V->Hp->VK->Prop:=λx H Q=>∃i,x=.int i/\Q (g i) H
section
variable{a b c:Expr}{tb tc:TE}
def ip(m:PE X a ta)(l:PE X b tb){O:St}{R:V->V->Hp->Prop}(I:Z0 X Y O H s)
  (h:ta O H λx H1=>tb O H1 λy H2=>R x y H2) {Q:Value->Shared->Prop} {f:Value->Value->Sem Value}
  (k:∀v u c x y H2,Z0 X Y O H2 c->RelV x v->RelV y u->R x y H2->wpAny (model X.prog X.w) X.A (f v u) Q X.xe c) :
  wpAny (model X.prog X.w) X.A (eval a X.env) (λv n=>wpAny (model X.prog X.w) X.A (eval b X.env) (λu o=>wpAny (model X.prog X.w) X.A (f v u) Q X.xe o) X.xe n) X.xe s:=by
 refine thn (m Y s O H _ I h) ?_;rintro v d ⟨x,H1,q,g,j⟩;refine thn (l Y d O H1 _ q j) ?_;rintro u c ⟨y,H2,p,e,i⟩;exact k v u c x y H2 p g e i
def adx{op:Operator}{r:R2}(f:OpR X (binaryOp op) r)(i:PE X a ta)(g:PE X b tb):PE X (.BinOp a op b pos) (Ih r ta tb):=by
 intro Y s O H Q I h;exact wpAny_BinOp (ip i g I h λv u c x y H2 j e d q=>f Y c O H2 x y v u Q j e d q)
def ado{op:UnaryOp}{r:V->Hp->VK->Prop}(e:UnR X (unaryOp op) r)(f:PE X a ta):PE X (.UnaryOp op a pos) (Ii r ta):=by
 intro Y s O H Q I h;exact UnaryOp_ (thn (f Y s O H _ I h) λv b ⟨x,H1,g,c,d⟩=>e Y b O H1 x v Q g c d)
def opI{C:Int->Int->Prop}{g:Int->Int->Int}
  (a:∀(i j:Int) (t u:Tok) (s:Shared) (Q:Value->Shared->Prop) (E:Value->Shared->Prop),C i j->Q (.int (g i j) s.toks) {s with toks:=s.toks+1}->wpAny (model X.prog X.w) X.A (f (.int i t) (.int j u)) Q E s) :
  OpR X f (Ij C λi j=>.int (g i j)):=by
 intro Y s O H x y v u Q I c b h;let⟨i,j,rfl,rfl,d,q⟩:=h;let⟨t,rfl⟩:=c;let⟨t',rfl⟩:=b;exact a i j t t' s _ _ d ⟨.int (g i j),H,I.tok _,⟨_,rfl⟩,q⟩
def tf{g:Int->Int->Int}
  (a:∀(i j:Int) (t u:Tok) (s:Shared) (Q:Value->Shared->Prop) (E:Value->Shared->Prop),Q (.int (g i j) s.toks) {s with toks:=s.toks+1}->wpAny (model X.prog X.w) X.A (f (.int i t) (.int j u)) Q E s) :
  OpR X f (Ik λi j=>.int (g i j)):=by
 intro Y s O H x y v u Q I c b h;let⟨i,j,rfl,rfl,q⟩:=h;let⟨t,rfl⟩:=c;let⟨t',rfl⟩:=b;exact a i j t t' s _ _ ⟨.int (g i j),H,I.tok _,⟨_,rfl⟩,q⟩
def fe{g:Int->Int->Bool}
  (a:∀(i j:Int) (t u:Tok) (s:Shared) (Q:Value->Shared->Prop) (E:Value->Shared->Prop),Q (.bool (g i j)) s->wpAny (model X.prog X.w) X.A (f (.int i t) (.int j u)) Q E s) :
  OpR X f (Ik λi j=>.bl (g i j)):=by
 intro Y s O H x y v u Q I c b h;let⟨i,j,rfl,rfl,q⟩:=h;let⟨t,rfl⟩:=c;let⟨t',rfl⟩:=b;exact a i j t t' s _ _ ⟨.bl (g i j),H,I,rfl,q⟩
def Gn(i j:Int):Prop:=0<=j/\j<=1000000/\i.natAbs<2 ^ 64
def CMul(i j:Int):Prop:=(-(2 ^ 64)<i/\i<2 ^ 64)\/(-(2 ^ 64)<j/\j<2 ^ 64)
def CMul.ok{i j:Int}(h:CMul i j):IntMulOk i j:=by
 rcases h with⟨h1,h2⟩|⟨h1,h2⟩
 .exact .of_left (intBits_le_64 h1 h2)
 .exact .of_right (intBits_le_64 h1 h2)
def eQ:OpR X (binaryOp .Add) (Ik λi j=>.int (i+j)):=tf λ_ _ _ _ _ _ _ q=>add_int q
def eV:OpR X (binaryOp .Sub) (Ik λi j=>.int (i-j)):=tf λ_ _ _ _ _ _ _ q=>sub_int q
def yG:OpR X (binaryOp .Mod) (Ij (λ_ j=>j≠0) λi j=>.int (i.fmod j)):=opI λ_ _ _ _ _ _ _ a q=>mod_int' a q
def aaK:OpR X (binaryOp .Pow) (Ij Gn λi j=>.int (i ^ j.toNat)):=opI λ_ _ _ _ _ _ _ a q=>pow_int_small a.1 a.2.1 a.2.2 q
def unI{f:Value->Sem Value}{g:Int->Int}
  (a:∀(i:Int) (t:Tok) (s:Shared) (Q:Value->Shared->Prop) (E:Value->Shared->Prop),Q (.int (g i) s.toks) {s with toks:=s.toks+1}->wpAny (model X.prog X.w) X.A (f (.int i t)) Q E s) :
  UnR X f (Il λi=>.int (g i)):=by
 intro Y s O H x v Q I b h;let⟨i,rfl,q⟩:=h;let⟨t,rfl⟩:=b;exact a i t s _ _ ⟨.int (g i),H,I.tok _,⟨_,rfl⟩,q⟩
def aao:UnR X (unaryOp .USub) (Il λi=>.int (-i)):=unI λ_ _ _ _ _ q=>neg_int q
end
def Im:V->V->Bool
 |.ZJ,.ZJ=>true|.ZJ,.int _=>true|.int _,.ZJ=>true|.ZJ,.bl _=>true|.bl _,.ZJ=>true|.ZJ,.str _=>true|.str _,.ZJ=>true
 |.int _,.int _=>true|.bl _,.bl _=>true|.str _,.str _=>true|.Xk _,.Xk _=>true
 |.int _,.str _=>true|.str _,.int _=>true|.bl _,.str _=>true|.str _,.bl _=>true
 |_,_=>false
def rNe:R2:=λx y H Q=>Im x y=true/\Q (.bl (!decide (x=y))) H
def lr{i j:Int}:decide (V.int i=V.int j)=(i==j):=by
 rw[Qz];simp
def pA{i j:Bool}:decide (V.bl i=V.bl j)=(i==j):=by
 rw[Qz];simp
def kS{i j:Str}:decide (V.str i=V.str j)=(i==j):=by
 rw[Qz];simp
def aad{i j:Array UInt8}:decide (V.Xk i=V.Xk j)=(i.toList==j.toList):=by
 rw[Qz];cases i;cases j;simp
section
variable{a b c:Expr}{tb tc:TE}
def au{O:St}{Q:VK}{k a:Bool}(I:Z0 X Y O H s)(q:Q (.bl k) H)(e:k=a):EP X Y O Q (.bool a) s:=by
 subst e;exact⟨.bl k,H,I,rfl,q⟩
def adL:OpR X (compareOp .NotEq) rNe:=by
 intro Y s O H x y v u Q I c a h;let⟨hs,q⟩:=h;cases x with
 |ZJ=>
  cases c;cases y with
  |ZJ=>cases a;exact PySem.EqNone.ne_none_none (au I q #[3])
  |bl j=>cases a;exact PySem.EqNone.ne_none_bool (au I q #[3])
  |int j=>let⟨t',rfl⟩:=a;exact PySem.EqNone.ne_none_int (au I q #[3])
  |str j=>let⟨t',rfl⟩:=a;exact PySem.EqNone.ne_none_str (au I q #[3])
  |_=>exact absurd (show false=true from hs) Hj
 |bl i=>
  cases c;cases y with
  |ZJ=>cases a;exact PySem.EqNone.ne_bool_none (au I q #[3])
  |bl j=>cases a;exact ne_bool (au I q (Rz not pA))
  |str j=>let⟨t',rfl⟩:=a;exact PySem.EqMixed.ne_bool_str (au I q #[3])
  |_=>exact absurd (show false=true from hs) Hj
 |int i=>
  let⟨t,rfl⟩:=c;cases y with
  |ZJ=>cases a;exact PySem.EqNone.ne_int_none (au I q #[3])
  |int j=>let⟨t',rfl⟩:=a;exact ne_int (au I q (Rz not lr))
  |str j=>let⟨t',rfl⟩:=a;exact PySem.EqMixed.ne_int_str (au I q #[3])
  |_=>exact absurd (show false=true from hs) Hj
 |str i=>
  let⟨t,rfl⟩:=c;cases y with
  |ZJ=>cases a;exact PySem.EqNone.ne_str_none (au I q #[3])
  |bl j=>cases a;exact PySem.EqMixed.ne_str_bool (au I q #[3])
  |int j=>let⟨t',rfl⟩:=a;exact PySem.EqMixed.ne_str_int (au I q #[3])
  |str j=>let⟨t',rfl⟩:=a;exact ne_str (au I q (Rz not kS))
  |_=>exact absurd (show false=true from hs) Hj
 |Xk i=>
  let⟨t,rfl⟩:=c;cases y with
  |Xk j=>let⟨t',rfl⟩:=a;exact PySem.W.ne_bytes (au I q (Rz not aad))
  |_=>exact absurd (show false=true from hs) Hj
 |_=>cases y<;>exact absurd (show false=true from hs) Hj
def adK:OpR X (compareOp .Lt) (Ik λi j=>.bl (decide (i<j))):=fe λ_ _ _ _ _ _ _ q=>lt_int q
def acZ:OpR X (compareOp .LtE) (Ik λi j=>.bl (decide (i<=j))):=fe λ_ _ _ _ _ _ _ q=>le_int q
def acU:OpR X (compareOp .Gt) (Ik λi j=>.bl (decide (j<i))):=fe λ_ _ _ _ _ _ _ q=>gt_int q
def ac1:OpR X (compareOp .GtE) (Ik λi j=>.bl (decide (j<=i))):=fe λ_ _ _ _ _ _ _ q=>ge_int q
def abE:OpR X (compareOp .Is) (λx y H Q=>y=.ZJ/\Q (.bl (decide (x=.ZJ))) H):=by
 intro Y s O H x y v u Q I a b h;let⟨rfl,q⟩:=h;cases b;refine is_none_gen (au I q ?_);cases x<;>first
  |(cases a;rfl)
  |(let⟨t,rfl⟩:=a;rfl)
def z7:OpR X (compareOp .IsNot) (λx y H Q=>y=.ZJ/\Q (.bl (!decide (x=.ZJ))) H):=by
 intro Y s O H x y v u Q I a b h;let⟨rfl,q⟩:=h;cases b;refine isnot_none_gen (au I q ?_);cases x<;>first
  |(cases a;rfl)
  |(let⟨t,rfl⟩:=a;rfl)
def y7{op:CmpOp}{r:R2}(f:OpR X (compareOp op) r)(j:PE X a ta)(i:PE X b tb)(g:behindInMarks op b=false):PE X (.Compare a [op] [b] pos) (Ih r ta tb):=by
 intro Y s O H Q I h;exact wpAny_Compare1 (ip j i I h λv u c x y H2 k e d q=>f Y c O H2 x y v u Q k e d q) g
def Fd(t:TE):TT:=λO H Q=>t O H λx H'=>∃k,x=.bl k/\Q k H'
def zJ{op:CmpOp}{r:R2}(o:OpR X (compareOp op) r)(t:PE X a ta)(q:PE X b tb)(p:behindInMarks op b=false):PT X (.Compare a [op] [b] pos) (Fd (Ih r ta tb)):=by
 intro Y s O H Q I h;refine wpAny_isTrue_Compare1 (thn (t Y s O H _ I h) λv f ⟨x,H1,B,j,n⟩=>thn (q Y f O H1 _ B n) λu d ⟨y,H2,A,i,m⟩ =>
  thn (o Y d O H2 x y v u _ A j i m) λc s3 ⟨z,H3,w,g,k,e,l⟩=>?_) p
 subst e;cases g;exact S_ ⟨H3,w,l⟩
def Dl(r d:R2)(c tb b:TE):TE:=λO H Q=>c O H λx H1=>tb O H1 λy H2=>r x y H2 λz H3=>∃k,z=.bl k /\
 (if k=true then b O H3 λa e=>d y a e Q else Q (.bl false) H3)
def xG{op f:CmpOp}{r i:R2}(D:OpR X (compareOp op) r)(K:OpR X (compareOp f) i)(J:PE X a ta)(G:PE X b tb)(F:PE X c tc)
  (E:lastMarks [op,f] [b,c]=false:=by with_unfolding_all rfl):PE X (.Compare a [op,f] [b,c] pos) (Dl r i ta tb tc):=by
 intro Y s O H Q I h;refine Compare_chain (thn (J Y s O H _ I h) λv p ⟨x,H1,N,w,C⟩=>chain_link (thn (G Y p O H1 _ N C) λu o ⟨y,H2,M,g,B⟩ =>
  thn (D Y o O H2 x y v u _ M w g B) λd s3 ⟨z,H3,l,t,k,e,j⟩=>?_)) E
 subst e;cases t;refine S_ ?_;cases k with
 |false=>exact ite_ff ⟨.bl false,H3,l,rfl,j⟩
 |true=>exact ite_tt (chain_last (thn (F Y s3 O H3 _ l j) λn s4 ⟨m,P,L,q,A⟩=>K Y s4 O P y m u n Q L g q A))
def w8{op f:CmpOp}{r i:R2}(G:OpR X (compareOp op) r)(P:OpR X (compareOp f) i)(M:PE X a ta)(L:PE X b tb)(K:PE X c tc)
  (J:lastMarks [op,f] [b,c]=false:=by with_unfolding_all rfl):PT X (.Compare a [op,f] [b,c] pos) (Fd (Dl r i ta tb tc)):=by
 intro Y s O H Q I h;refine isTrue_chain (thn (M Y s O H _ I h) λv p ⟨x,H1,U,A,E⟩=>test_link (thn (L Y p O H1 _ U E) λu o ⟨y,H2,T,g,D⟩ =>
  thn (G Y o O H2 x y v u _ T A g D) λd s3 ⟨z,H3,l,w,k,e,j⟩=>?_)) J
 subst e;cases w;refine S_ ?_;cases k with
 |false=>
  let⟨k',e',F⟩:=j;cases e';exact ite_ff ⟨H3,l,F⟩
 |true=>
  refine ite_tt (test_last (thn (K Y s3 O H3 _ l j) λn s4 ⟨m,W,S,t,C⟩=>thn (P Y s4 O W y m u n _ S g t C) ?_));rintro d' s5 ⟨Z,V,R,q,k2,N,B⟩;subst N;cases q;exact S_ ⟨V,R,B⟩
def CY(K:Hu)(x:V)(H:Hp)(k:Bool):Prop:=
 match x with
 |.ZJ=>k=false
 |.bl b=>k=b
 |.int i=>k=(i != 0)
 |.str y=>y.length<=sizeLine/\k=((y.length:Int) != 0)
 |.Xk y=>y.size<=sizeLine/\k=((y.size:Int) != 0)
 |.ref p=>(∃xs,SqL K H p xs/\k = !xs.isEmpty)\/(∃xs,SqT K H p xs/\k = !xs.isEmpty) \/∃Z4,H p=some (.dK Z4)/\k = !Z4.isEmpty
 |_=>False
def va{a:Type}{b:List (a×V)}{vs:List (a×Value)}(r:KV b vs):(!vs.isEmpty) = !b.isEmpty:=by
 cases r<;>rfl
def iW{xs:List V}(r:ZH xs ZU):(!ZU.toArray.isEmpty) = !xs.isEmpty:=by
 cases r<;>simp
def cU:(sizeLine:Nat)<2 ^ 63:=by rw[UP];decide
def oS:Hf X (λx H Q=>∃k,CY X.K x H k/\Q k H):=by
 intro Y s O H x v Q I a h;let⟨k,e,q⟩:=h;have hl:=cU;have hs:sizeLine=16777216:=UP;cases x with
 |ZJ=>
  cases a;have e':k=false:=e;subst e';exact truthy_none ⟨H,I,q⟩
 |bl b=>
  cases a;have e':k=b:=e;subst e';exact S_ ⟨H,I,q⟩
 |int i=>
  let⟨t,rfl⟩:=a;have e':k=(i != 0):=e;subst e';exact PySem.P.truthy_int ⟨H,I,q⟩
 |str y=>
  let⟨t,rfl⟩:=a;obtain⟨j,e'⟩:y.length<=sizeLine/\k=((y.length:Int) != 0):=e;subst e';exact PySem.P.truthy_str (by lia) ⟨H,I.tok _,q⟩
 |Xk y=>
  let⟨t,rfl⟩:=a;obtain⟨j,e'⟩:y.size<=sizeLine/\k=((y.size:Int) != 0):=e;subst e';exact PySem.W.truthy_bytes (by lia) ⟨H,I.tok _,q⟩
 |ref p=>
  cases a;have e':(∃xs,SqL X.K H p xs/\k = !xs.isEmpty)\/(∃xs,SqT X.K H p xs/\k = !xs.isEmpty) \/∃Z4,H p=some (.dK Z4)/\k = !Z4.isEmpty:=e;rcases e' with⟨xs,c,e'⟩|⟨xs,c,e'⟩|⟨Z4,c,e'⟩
  .subst e'
   let⟨ZU,r,f,g⟩:=I.list c;have hlen:=r.length;exact wpAny_truthy_list f.isList (by simp![Xe];lia) ⟨H,I.tok _,by rw[iW r];exact q⟩
  .subst e'
   let⟨ZU,r,f,g⟩:=I.tuple c;have hlen:=r.length;exact truthy_tuple f (by simp![Xe];omega) ⟨H,I.tok _,by rw[iW r];exact q⟩
  .subst e'
   obtain⟨g,l,d,r,m⟩:Z4.length<=sizeLine/\(p==sysModules)=false /\∃d,KV Z4 d/\s.heap.DictOf (AB X.prog X.w) p d:=I.ZK p _ c;have hlen:Z4.length=d.length:=QC r;exact wpAny_truthy_dict l m (by lia) ⟨H,I.tok _,by rw[va r];exact q⟩
 |_=>exact(show False from e).elim
def w5(ha:PE X a ta)(he:∀whole,isTrue a X.env whole=(do let v<-whole;standAt a.pos;holding [v] (truthy v))):
  PT X a (λO H Q=>ta O H λx H'=>∃k,CY X.K x H' k/\Q k H'):=by
 intro Y s O H Q I h;exact isTrue_plain (thn (ha Y s O H _ I h) λv s1 ⟨x,H1,I1,r1,q1⟩=>oS Y s1 O H1 x v Q I1 r1 q1) (he _)
def vals1{x:V}{S:List Value}(r:ZH [x] S):∃u,S=[u]/\RelV x u:=by
 cases r with
 |cons b a=>cases a;exact⟨_,rfl,b⟩
def call_abs:CallR X (.builtin "abs") (λxs H Q=>∃i,xs=[.int i]/\Q (.int (if i<0 then -i else i)) H):=by
 intro Y s O H xs S Q I r h;let⟨i,rfl,q⟩:=h;let⟨u,rfl,t,rfl⟩:=vals1 r;exact call_abs_int λu tk=>⟨.int (if i<0 then -i else i),H,I.tok _,⟨_,rfl⟩,q⟩
end
end L2
namespace L2
open PySem PySem.Spec PyProof.Rows
structure ObjM(h:Heap)(x dx C:Addr)(mA:Str->Option Value):Prop where
 obj:h.get? x=some (PySem.W.instObj C dx)
 ns:h.Ns1 dx mA
 ne:dx≠x
def vF{c:Addr}{b:Str->Option Value}(n:h.Ns1 c b):∃od,h.get? c=some od /\∀name,PySem.W.lookIn name od=some (b name):=by
 let⟨o,es,ep,ho,g,hk,_,f⟩:=n;refine⟨o,ho,λname=>?_⟩;have e:=f name;unfold nsFind findBy at e;rw[<-Array.find?_toList]at e;unfold PySem.W.lookIn;rw[g];dsimp only;split
 .rename_i y q
  rw[q]at e;exact Rz some e
 .rename_i q
  rw[q]at e;have a:es.toList.any (·.refKey)=false:=by
   rw[List.any_eq_false];intro y d;let⟨z,t,i⟩:=hk y (R9.mp d);simp[DictEntry.refKey,i]
  have a' : ¬ es.toList.any (·.refKey)=true:=by rw[a];exact Hj
  rw[Yn a'];exact Rz some e
def RelO.some_of{o:Option Value}(r:RelO (some v) o):∃u,o=some u/\RelV v u:=by
 cases o with
 |none=>exact(show False from r).elim
 |some u=>exact⟨u,rfl,r⟩
def wa{u:Value}(r:RelV v u):PySem.W.handedIn u=true:=by
 cases v with
 |ZJ=>cases(show u=Value.none from r);rfl
 |bl b=>cases(show u=Value.bool b from r);rfl
 |int i=>let⟨t,e⟩:=(show∃t,u=Value.int i t from r);cases e;rfl
 |str x=>let⟨t,e⟩:=(show∃t,u=Value.str x t from r);cases e;rfl
 |Xk b=>let⟨t,e⟩:=(show∃t,u=Value.bytes b t from r);cases e;rfl
 |UX b=>let⟨t,e⟩:=(show∃t,u=Value.float b t from r);cases e;rfl
 |ref a=>cases(show u=Value.ref a from r);rfl
 |ty n=>cases(show u=Value.type n from r);rfl
structure Cls(K:Hu)(C:Addr):Prop where
 pg:PySem.W.plainGet K C Str.empty=true
 hd:PySem.W.hasDictIn K C=true
 po:PySem.W.plainOver K C=true
 sa:PySem.W.findIn K (.ref C) "__setattr__" = some (some (.builtin "object.__setattr__"))
structure Con(K:Hu)(C:Addr)(f:Str)(v:V)(u:Value):Prop where
 at_:PySem.W.findIn K (.ref C) f=some (some u)
 rel:RelV v u
 get:PySem.W.specialIn K u "__get__" = some none
 cp:PySem.W.copiedNames.contains f=false
structure Meth(K:Hu)(C:Addr)(m:Str)(f:Addr):Prop where
 at_:PySem.W.findIn K (.ref C) m=some (some (.ref f))
 fn:PySem.W.isFn K (.ref f)=true
 kp:PySem.W.keepIn K (.ref f)=true
section
variable{O:St}{C dx:Addr}{fs:List (Str×V)}{f:Str}{E:Value->Shared->Prop}
def zM{f:Str}{Q:Value->Shared->Prop}(a:attributeBase e f env (eval e env)=eval e env)
  (h:wpAny (model prog w) A (eval e env) (λo b=>wpAny (model prog w) A (getAttr o f true) Q E b) E s):wpAny (model prog w) A (eval (.Attribute e f pos) env) Q E s:=
 Attribute_any_ h (by rw[arm_eval_Attribute,a])
end
section
variable{O:St}{E:Value->Shared->Prop}{Q:Value->Shared->Prop}{c:Value}
inductive WX(K:Hu)(H:Hp):V->Value->Prop where
 |ZJ:WX K H .ZJ (.type "NoneType")
 |bl (x:Bool):WX K H (.bl x) (.type "bool")
 |int (i:Int):WX K H (.int i) (.type "int")
 |str (x:Str):WX K H (.str x) (.type "str")
 |UX (x:UInt64):WX K H (.UX x) (.type "float")
 |Z5 {a:Addr} {xs:List V} (e:H a=some (.Z5 xs)):WX K H (.ref a) (.type "list")
 |Zm {a:Addr} {o:Obj} {xs:List V} (e:H a=some (.Zm o (.Z5 xs))):WX K H (.ref a) (.type "list")
 |ZY {a:Addr} {xs:List V} (e:H a=some (.ZY xs)):WX K H (.ref a) (.type "tuple")
 |dK {a:Addr} {Z4:List (Key×V)} (e:H a=some (.dK Z4)):WX K H (.ref a) (.type "dict")
 |dT {a:Addr} {Z4:List (List Key×V)} (e:H a=some (.dT Z4)):WX K H (.ref a) (.type "dict")
 |ins {a C dx:Addr} {fs:List (Str×V)} (e:H a=some (.ins C dx fs)) (cl:Cls K C) (ha:PySem.W.findIn K (.ref C) "__class__" = some (some (.builtin "object.__class__")))
   (hn:PySem.W.specialIn K (.builtin "object.__class__") "__get__" = some (some (.builtin "getset_descriptor.__get__"))) (htk:PySem.W.takesIn K (.builtin "object.__class__")=some true)
   (hm:PySem.W.mroIn K C (.type "object")=some true):WX K H (.ref a) (.ref C)
end
end L2
namespace L2
open PySem PySem.Spec PyProof.Rows
structure Y8(k:Nat)(A:Around):Prop where
 hd:A.handled=none
 dp:A.depth+3*k+5<recursionLimit
 un:A.units+16*k+200<cLine
 gd:A.guards=some []
def Y8.deeper{k:Nat}{A:Around}(r:Y8 (k+1) A)(env:Env):Y8 k (A.deeper env):=
 ⟨r.hd,by have:=r.dp;show A.depth+1+3*k+5<_;lia,by have:=r.un;show A.units+3+16*k+200<_;lia,r.gd⟩
def uL{C:Addr}{S:List Value}{a:List (Str×Value)}:(A.under (.builtin "type.__call__" ⟨.ref C::S,a⟩)).depth=A.depth+1:=by
 first|rfl|simp[Around.under,Code.weight,Code.isCreation,Code.isGuard,Code.isCaller,Code.frames,Code.isFrame,guardIds]
def u6{C:Addr}{S:List Value}{a:List (Str×Value)}:(A.under (.builtin "type.__call__" ⟨.ref C::S,a⟩)).units=A.units+1:=by
 first|rfl|simp[Around.under,Code.cUnits,Code.frames,Code.isFrame]
def Y8.make{k:Nat}(r:Y8 (k+1) A)(C:Addr)(S:List Value)(a:List (Str×Value)):Y8 k (A.under (.builtin "type.__call__" ⟨.ref C::S,a⟩)):=
 ⟨r.hd,by have:=r.dp;rw[uL];lia,by have:=r.un;rw[u6];lia,(show A.guards=_ from r.gd)⟩
def Y8.depth{k:Nat}{A:Around}(r:Y8 k A):A.depth<recursionLimit:=by have:=r.dp;lia
def Y8.units{k:Nat}{A:Around}(r:Y8 k A):A.units+64<cLine:=by have:=r.un;lia
def Fx:TA:=λ_ H Q=>Q [] H
def G4(b:TE)(a:TA):TA:=λO H Q=>b O H λx H1=>a O H1 λxs H2=>Q (x::xs) H2
section
variable{t:TA}
def aQ:PA X [] Fx:=λ_ _ _ _ H Q I h=>Calls.spliced_nil ⟨[],H,I,.nil,h⟩
def aw(j:PE X e te)(i:PA X es t)(g:starEach (e::es) X.env=(false,eval e X.env)::starEach es X.env:=by rfl):PA X (e::es) (G4 te t):=by
 intro pos Y s O H Q I h;rw[g];show wpAny _ _ (spliced ((false,eval e X.env)::backTo pos (starEach es X.env))) _ _ s;refine Calls.spliced_cons (thn (j Y s O H _ I h) ?_);rintro u a ⟨x,H1,l,c,f⟩;exact thn (i pos Y a O H1 _ l f) λS m ⟨xs,H2,k,b,d⟩=>⟨x::xs,H2,k,.cons c b,d⟩
def Ha(t:TA):TE:=λO H Q=>t O H λxs H1=>xs.length<=sizeLine /\∀p,H1 p=none->Q (.ref p) (upd H1 p (.ZY xs))
def Io(t:TA):TE:=λO H Q=>t O H λxs H1=>xs.length<=sizeLine /\∀p,H1 p=none->Q (.ref p) (upd H1 p (.Z5 xs))
def gO{x1}(h:PA X es t):PE X (.Tuple es x1 pos) (Ha t):=by
 intro Y s O H Q I d;refine wpAny_Tuple_spliced (thn (h pos Y s O H _ I d) λS a ⟨xs,H1,c,r,z,q⟩=>⟨by rw[<-r.length];exact z,?_⟩)
 have f:H1 a.heap.objs.size=none:=c.ZK.fresh (Hk _);refine⟨.ref a.heap.objs.size,upd H1 a.heap.objs.size (.ZY xs),c.laid (t':=a.toks) (λb u e=>Hg _ e) (Hk _) ?_,rfl,q _ f⟩;exact⟨z,S,r,⟨_,Ho _ rfl,rfl,_,rfl⟩⟩
def aaj(h:PA X es t):PE X (.List es pos) (Io t):=by
 intro Y s O H Q I d;refine wpAny_List_spliced (thn (h pos Y s O H _ I d) λS a ⟨xs,H1,c,r,z,q⟩=>⟨by rw[<-r.length];exact z,?_⟩)
 have f:H1 a.heap.objs.size=none:=c.ZK.fresh (Hk _);refine⟨.ref a.heap.objs.size,upd H1 a.heap.objs.size (.Z5 xs),c.laid (t':=a.toks) (λb u e=>Hg _ e) (Hk _) ?_,rfl,q _ f⟩;exact⟨z,S,0,r,Ho _ rfl⟩
end
abbrev Sp:=List V->Hp->VK->XK->Prop
abbrev Xs:=List Env->Hp->Shared->XK->Value->Shared->Prop
structure VD(P:Program)(w:World)(K:Hu)(mg:Str->Option Value)(base:Heap)(A:Around)(outer:List Env)(s:Shared)(H:Hp):Prop where
 frames:A.frames=some outer
 mod:Mod K mg base
 bs:∀b o,base.get? b=some o->s.heap.get? b=some o/\H b=none
 W5:base.objs.size<=s.heap.objs.size
 XI:s.heap.FunFrames base outer
 Wq:∀b∈frs outer,H b=none
 ZK:HOk P w H s.heap
 bare:AllBare s.gens
def CE(outer:List Env)(P:Program)(w:World)(H:Hp)(s:Shared)(Q:VK)(u:Value)(a:Shared):Prop:=
 ∃v H',a.os=s.os/\AllBare a.gens/\Un (frs outer) [] H H' s.heap a.heap/\HOk P w H' a.heap/\RelV v u/\Q v H'
def CR(CX:Xs)(outer:List Env)(P:Program)(w:World)(H:Hp)(s:Shared)(Q:VK)(E:XK)(r:Result)(a:Shared):Prop:=
 match r with
 |.ok (.ret u)=>CE outer P w H s Q u a
 |.ok _=>False
 |.error e=>CX outer H s E e a
structure X0(P:Program)(w:World)(K:Hu)(mg:Str->Option Value)(base:Heap)(CX:Xs)(k:Nat)(f:Addr)(fd:FuncData)(ps:List Str)(sp:Sp):Prop where
 len:∀vs H Q E,sp vs H Q E->vs.length=ps.length
 run:∀(A:Around) (outer:List Env) (s:Shared) (H:Hp) (args:Args) (S:List Value) (vs:List V) (Q:VK) (E:XK),Y8 k A->VD P w K mg base A outer s H->BindsTo s fd args (ps.zip S)->ZH vs S->sp vs H Q E ->
  codeAny (model P w) A (.call (.ref f) args) (CR CX outer P w H s Q E) s
def VD.make(e:VD P w K mg base A outer s H)(C:Addr)(S:List Value)(a:List (Str×Value)):
  VD P w K mg base (A.under (.builtin "type.__call__" ⟨.ref C::S,a⟩)) outer s H:=⟨by first|exact e.frames|(simpa[Around.under,Code.envs,Code.isFrame,pushEnvs]using e.frames),e.mod,e.bs,e.W5,e.XI,e.Wq,e.ZK,e.bare⟩
section
variable{O:St}
def Z0.R6(I:Z0 X Y O H s):VD X.prog X.w X.K X.mg X.base X.A X.stack s H:=
 ⟨I.ok.frames,I.ok.mod,I.bs,Hi I.ok.W5 I.sz,I.stack,I.Tf,I.ZK,I.bare⟩
def Z0.after{Q:VK}{u:Value}(I:Z0 X Y O H s)(h:CE X.stack X.prog X.w H s Q u s'):EP X Y O Q u s':=by
 let⟨v,H',os,a,un,j,r,q⟩:=h;let⟨f,g,d,t,c⟩:=s';obtain rfl:c=s.os:=os;exact⟨v,H',I.call (h':=f) (g':=g) (d':=d) (t':=t) (ch:=[]) un j a (λb z=>absurd z #[3]),r,q⟩
end
def Fq(sp:Sp)(b:List V)(E:XK)(t:TA):TE:=λO H Q=>t O H λa H1=>sp (a++b) H1 Q E
def Binds(K:Hu)(fd:FuncData)(a:List Str)(b:List Value):Prop:=
 ∀(s:Shared) (S:List Value),K.In s.heap->(S++b).length=a.length->BindsTo s fd ⟨S,[]⟩ (a.zip (S++b))
def Binds.all(h:∀S:List Value,S.length=ps.length->bindArgs fd ⟨S,[]⟩=pure (ps.zip S)):Binds K fd ps []:=λs S _ a=>by
 rw[Ux]at a ⊢;exact .of_eq (h S a)
def A4(CX:Xs)(X:Cx)(E:XK):Prop:=∀(Y:List (Addr×Obj)) (O:St) (H:Hp) (s:Shared) (e:Value) (s':Shared),Z0 X Y O H s->CX X.stack H s E e s'->X.xe e s'
section
variable{CX:Xs}{k:Nat}{f C:Addr}{sp:Sp}{WD:List V}{ds:List Value}{E:XK}{m:Str}{p:Pos}{o:Expr}{t:TA}
def mD{O:St}{Q:VK}{S:List Value}{vs:List V}(F:X0 X.prog X.w X.K X.mg X.base CX k f fd ps sp)(d:Y8 k X.A)(j:Binds X.K fd ps ds)(i:ZH WD ds)(c:A4 CX X E)
  (I:Z0 X Y O H s) (r:ZH vs S) (h:sp (vs++WD) H Q E):wpAny (model X.prog X.w) X.A (call (.ref f) S) (EP X Y O Q) X.xe s:=by
 have b:ZH (vs++WD) (S++ds):=r.append i;have g:(S++ds).length=ps.length:=by rw[<-b.length];exact F.len _ _ _ _ h
 refine Oc (Qt (F.run X.A X.stack s H ⟨S,[]⟩ (S++ds) (vs++WD) Q E d I.R6 (j s S I.Yv g) b h) λr s' a=>?_);cases r with
 |error e=>exact c Y O H s e s' I a
 |ok fl=>
  cases fl with
  |ret u=>exact I.after a
  |next=>exact False.elim a
  |brk=>exact False.elim a
  |cont=>exact False.elim a
def aac(F:X0 X.prog X.w X.K X.mg X.base CX k f fd ps sp)(c:Y8 k X.A)(i:Gl X x)(d:X.mg x=some (.ref f))(g:PySem.W.keepIn X.K (.ref f)=true)(m:Binds X.K fd ps ds)(l:ZH WD ds)(b:A4 CX X E)
  (n:PA X (e::es) t) (o:(x==("__debug__" : Str))=false:=by decide) (j:starEach (e::es) X.env=(false,eval e X.env)::starEach es X.env:=by rfl) (u:(backTo pos (starEach es X.env)).any (·.1)=false:=by rfl) :
  PE X (.Call (.Name x p) (e::es) [] pos) (Fq sp WD E t):=by
 intro Y s O H Q I h;refine Pc (bR I i d ?_ o);refine PySem.W.callWith_K (h₀:=X.base) I.ok.mod.kin g (thn (n pos Y s O H _ I h) λS v ⟨vs,H1,a,r,q⟩=>⟨a.Yv,?_⟩) j u;exact mD F c m l b a r q
def xv(F:X0 X.prog X.w X.K X.mg X.base CX k f fd ps sp)(b:Y8 k X.A)(e:Gl X x)(c:X.mg x=some (.ref f))(d:PySem.W.keepIn X.K (.ref f)=true)(i:Binds X.K fd ps ds)(g:ZH WD ds)(a:A4 CX X E)
  (j:(x==("__debug__" : Str))=false:=by decide):PE X (.Call (.Name x p) [] [] pos) (Fq sp WD E Fx):=by
 intro Y s O H Q I h;refine Pc (bR I e c ?_ j);exact PySem.W.callWith_K0 I.Yv d (mD (S:=[]) F b i g a I .nil h)
structure Mk(K:Hu)(C f:Addr):Prop where
 makes:PySem.W.makesIn K C=true
 init:PySem.W.findIn K (.ref C) "__init__" = some (some (.ref f))
 fn:PySem.W.isFn K (.ref f)=true
 kp:PySem.W.keepIn K (.ref C)=true
end
section
variable{CX:Xs}{k:Nat}{f C:Addr}{ks:List Str}{sp:Sp}{E:XK}{m:Str}{p kpos:Pos}{o:Expr}{t tk:TA}{nm:Option Str}
structure KBinds(K:Hu)(fd:FuncData)(ps ks:List Str)(g:List Value->List Value->List Value)(gV:List V->List V->List V):Prop where
 to:∀(s:Shared) (S ws:List Value),K.In s.heap->(g S ws).length=ps.length->BindsTo s fd ⟨S,ks.zip ws⟩ (ps.zip (g S ws))
 rel:∀{vs:List V} {S:List Value} {zs:List V} {ws:List Value},ZH vs S->ZH zs ws->ZH (gV vs zs) (g S ws)
variable{g:List Value->List Value->List Value}
end
structure Uj(N P:List Str)(sc:Scope):Prop where
 kind:sc.kind=.function
 co:sc.isCoroutine=false
 gen:sc.isGenerator=false
 nd:N.Nodup
 pre:N.take P.length=P
 par:∀x∈P,sc.names.lookup x=some .local\/sc.names.lookup x=some .cell
 Rq:∀y∈sc.names,y.2 ≠ .free
def jc{b:Str->Option NameKind}{x:Str}:∀{a:List (Str×Value)} {m:Str->Option Value},(∀v,(x,v) ∉ a)->bindL b a m x=m x
 |[],_,_=>rfl
 |(n,v)::r,m,h=>by
  unfold bindL;rw[jc λw c=>h w (Hl _ c)];split
  .have:x≠n:=by rintro rfl;exact h v Hr
   simp[this]
  .rfl
def ja{b:Str->Option NameKind}{x:Str}:∀{a:List (Str×Value)} {m:Str->Option Value},(∀v,(x,v) ∉ a)->bindC b a m x=m x
 |[],_,_=>rfl
 |(n,v)::r,m,h=>by
  unfold bindC;rw[ja λw c=>h w (Hl _ c)];split
  .rfl
  .have:x≠n:=by rintro rfl;exact h v Hr
   simp[this]
def jl{a:Str->Option NameKind}{x:Str}{v:Value}:∀{P:List Str} {vs:List Value} {i:Nat} {m:Str->Option Value},P.Nodup->P[i]?=some x->vs[i]?=some v->a x=some .local ->
  bindL a (P.zip vs) m x=some v
 |[],_,_,_,_,h,_,_=>by simp at h
 |_::_,[],_,_,_,_,h,_=>by simp at h
 |p::P,w::vs,0,m,nd,h1,h2,hk=>by
  simp at h1 h2;subst h1;subst h2;show bindL a ((p,w)::P.zip vs) m p=_;unfold bindL;rw[jc λv b=>(Rw.mp nd).1 (OX b).1,YE hk];simp
 |p::P,w::vs,i+1,m,nd,h1,h2,hk=>by
  show bindL a ((p,w)::P.zip vs) m x=_;unfold bindL;exact jl (i:=i) (Rw.mp nd).2 (by simpa using h1) (by simpa using h2) hk
def jr{a:Str->Option NameKind}{x:Str}{v:Value}:∀{P:List Str} {vs:List Value} {i:Nat} {m:Str->Option Value},P.Nodup->P[i]?=some x->vs[i]?=some v->a x≠some .local ->
  bindC a (P.zip vs) m x=some v
 |[],_,_,_,_,h,_,_=>by simp at h
 |_::_,[],_,_,_,_,h,_=>by simp at h
 |p::P,w::vs,0,m,nd,h1,h2,hk=>by
  simp at h1 h2;subst h1;subst h2;show bindC a ((p,w)::P.zip vs) m p=_;unfold bindC;rw[ja λv b=>(Rw.mp nd).1 (OX b).1,Yn hk];simp
 |p::P,w::vs,i+1,m,nd,h1,h2,hk=>by
  show bindC a ((p,w)::P.zip vs) m x=_;unfold bindC;exact jr (i:=i) (Rw.mp nd).2 (by simpa using h1) (by simpa using h2) hk
def start(N:List Str)(vs:List V):St:=vs.map some++List.replicate (N.length-vs.length) none
def Be(CX:Xs)(P:Program)(w:World)(K:Hu)(mg:Str->Option Value)(base:Heap)(N:List Str)(qual:Str)(scope:Scope)(f:Addr)(a:Value)(A:Around)(outer:List Env)(s:Shared)(H:Hp)(E:XK):Cx where
 prog:=P
 w:=w
 K:=K
 mg:=mg
 base:=base
 A:=A.deeper (envOfC qual scope s.heap.objs.size f a)
 N:=N
 ZF:=s
 WH:=H
 env:=envOfC qual scope s.heap.objs.size f a
 outer:=outer
 stack:=envOfC qual scope s.heap.objs.size f a::outer
 ex:=[]
 calm:=true
 fn:=λ_=>true
 pn:=[]
 xe:=λe s'=>wpAny (model P w) (A.deeper (envOfC qual scope s.heap.objs.size f a)) (leaving (envOfC qual scope s.heap.objs.size f a) e) (λ_ b=>CX outer H s E e b) (λe' b=>CX outer H s E e' b) s'
def jT(h:sc.names.lookup x=some .cell):∃c,(cellsFrom n sc.names []).lookup x=some c:=by
 have q:=Qu sc.names n [] (.inl h);exact TL.mp q
def vK{CX:Xs}{qual:Str}{f:Addr}{B:Value}{D:Shared}{E:XK}{S:List Value}{vs:List V}
  (j:Uj N ps scope) (I:A.handled=none) (d:VD P w K mg base A outer s H) (L:vs.length=ps.length) (r:ZH vs S)
  (x:InCallC s s.heap.objs.size (bindL (envOfC qual scope s.heap.objs.size f B).kindOf (ps.zip S) λ_=>none) (cellsFrom (s.heap.objs.size+1) scope.names []) (bindC (envOfC qual scope s.heap.objs.size f B).kindOf (ps.zip S) λ_=>none) D) :
  Z0 (Be CX P w K mg base N qual scope f B A outer s H E) [] (start N vs) H D:=by
 have O:ps.length<=N.length:=by have:=Rz List.length j.pre;rw[Vp]at this;lia
 let⟨h1,tk,rfl,hk⟩:=x.done;have C:∀b:Addr,b ∉ (Be CX P w K mg base N qual scope f B A outer s H E).ex:=λb z=>absurd (show b∈([]:List Addr)from z) #[3]
 refine ⟨⟨d.mod,j.kind,rfl,rfl,Hk _,λy z c h1 h2 => ?_,λy g => ?_,λy c _ h => ?_,λ_=>I,Around.frames_deeper d.frames,.inr ⟨rfl,rfl⟩,λb z=>absurd z (C b),d.bs,d.W5,λb _ _=>C b,λb z=>absurd z (C b),d.XI,d.Wq⟩,
  rfl,d.bare,Un.kept hk,⟨_,x.toInCall.ns,λi y v h1 h2 M=>?_⟩,λy c h=>⟨_,x.cell y c h⟩,d.ZK.fresh (Hk _),λy c h=>?_,λp t=>absurd (show p∈([]:List (Addr×Obj))from t) #[3],d.ZK.kept hk,?_⟩
 .exact name_of_addr x.apart (VV h1) (VV h2)
 .have g:scope.names.lookup y=some .cell\/scope.names.lookup y=some .free:=g
  rcases g with g|g
  .exact jT g
  .exact absurd rfl (j.Rq _ (VV g))
 .exact Qf (x.above y c (VV h))
 .have hi:i<vs.length:=by
   unfold start at h2;by_cases hi:i<vs.length
   .exact hi
   .rw [WC (by simpa using hi)]at h2
    rw[Qb]at h2;split at h2<;>cases h2
  have J:vs[i]?=some v:=by
   unfold start at h2;rw[X7 (by simpa using hi),Wi]at h2
   cases e:vs[i]? with
   |none=>rw[e]at h2;cases h2
   |some a=>rw[e]at h2;cases h2;rfl
  let⟨u,F,G⟩:=r.get J;have t:ps[i]?=some y:=by
   rw[<-j.pre,Q4 (by lia)];exact h1
  have o:ps.Nodup:=by rw[<-j.pre];exact j.nd.sublist (QJ _ _)
  refine⟨u,G,?_⟩;rcases j.par y (Vw t)with k|k
  .exact .inl ⟨k,jl o t F k⟩
  .obtain ⟨c,e⟩:=jT (n:=s.heap.objs.size+1) k
   refine .inr ⟨.inl k,c,e,?_⟩;have q:=x.cell y c e;rw[jr o t F (by show scope.names.lookup y≠_;rw[k];decide)]at q
   exact q
 .exact d.ZK.fresh (Qf (x.above y c (VV h)))
 .unfold start
  show _=N.length;rw[XZ,Zg,RA];lia
def ig{CX:Xs}{k:Nat}{f:Addr}{name qual:Str}{a:Arguments}{c:List Stmt}{scope:Scope}{G M l F g ct JT:Value}{J O:Option Addr}
  {YK:Array (Option Value)} {N p:List Str} {sp:Sp} (lk:K.lookup f=some ⟨JT,O,.func (PySem.W.fnOf name qual a c scope G M l F J g ct),YK⟩) (Y9:PySem.W.codeIn K g qual=true) (m:Uj N p scope)
  (len:∀vs H Q E,sp vs H Q E->vs.length=p.length)
  (Rp:∀ (A:Around) (outer:List Env) (s:Shared) (H:Hp) (vs:List V) (Q:VK) (E:XK),Y8 k (A.deeper (envOfC qual scope s.heap.objs.size f g))->sp vs H Q E ->
   ∃t,PSs (Be CX P w K mg base N qual scope f g A outer s H E) c t/\t {nx:=λ_ H'=>Q .ZJ H',rt:=Q} (start N vs) H) :
  X0 P w K mg base CX (k+1) f (PySem.W.fnOf name qual a c scope G M l F J g ct) p sp:=by
 refine⟨len,λA outer s H args S vs Q E C j Y r h=>?_⟩;have hl:=len _ _ _ _ h;have L:K.In s.heap:=j.mod.kin.keeps λb o e=>(j.bs b o e).1;have B:s.heap.NoLimit:=j.mod.nolimit.keeps λb o e=>(j.bs b o e).1;have SN:∀y∈p.zip S,scope.names.lookup y.1=some .local\/(scope.names.lookup y.1=some .cell/\((cellsFrom (s.heap.objs.size+1) scope.names []).lookup y.1).isSome=true):=λ⟨n,v⟩ R=>by
  rcases m.par n (OX R).1 with q|q
  .exact .inl q
  .exact .inr ⟨q,Qu _ _ _ (.inl q)⟩
 refine codeAny_call_function C.depth (L _ _ lk) rfl m.co m.gen rfl (PySem.W.codeRec_of L Y9) (Y _ _ _ _ ?_);refine wpAny_newFunctionEnv_cells m.kind SN λenv X D x=>?_;subst X;refine⟨B.keeps x.toInCall.keep,codeAny_func ?_⟩;let⟨t,T,U⟩:=Rp A outer s H vs Q E (C.deeper _) h;have I:Z0 (Be CX P w K mg base N qual scope f g A outer s H E) [] (start N vs) H D:=vK m C.hd j hl r x;refine UM (T [] D (start N vs) H _ I U) (λZ s' hs=>?_) λe s' hs=>hs;have i:∀{ZT:St} {H':Hp} {v:V} {u:Value},Z0 (Be CX P w K mg base N qual scope f g A outer s H E) [] ZT H' s'->RelV v u->Q v H'->CE outer P w H s Q u s':=
  λ{ZT H' v u} d z q=>⟨v,H',d.os,d.bare,d.base,d.ZK,z,q⟩
 cases Z with
 |ret u=>
  let⟨v,ZT,H',d,z,q⟩:=hs;exact i d z q
 |next=>
  let⟨ZT,H',d,q⟩:=hs;exact i (v:=V.ZJ) (u:=Value.none) d rfl q
 |brk=>
  let⟨_,_,_,q⟩:=hs;exact False.elim q
 |cont=>
  let⟨_,_,_,q⟩:=hs;exact False.elim q
end L2
variable{CX:L2.Xs}
namespace L2
open PySem PySem.Spec PyProof.Rows
section
variable{p:Pos}{t:TA}{id T:String}{r:List V->Hp->VK->Prop}
def Ip(r:List V->Hp->VK->Prop)(t:TA):TE:=λO H Q=>t O H λa H1=>r a H1 Q
def pe_callB(j:CallR X (.builtin id) r)(i:Gl X x)(g:X.mg x=none)(d:bootBuiltins x=some (.builtin id))(k:PA X (e::es) t)(f:x ≠ "__name__":=by decide)(l:(x==("__debug__" : Str))=false:=by decide)
  (he:starEach (e::es) X.env=(false,eval e X.env)::starEach es X.env:=by rfl) (m:(backTo pos (starEach es X.env)).any (·.1)=false:=by rfl):PE X (.Call (.Name x p) (e::es) [] pos) (Ip r t):=by
 intro Y s O H Q I h;refine Pc (cX I i g d ?_ f l);exact PyProof.Rows.callWith_builtin1 (thn (k pos Y s O H _ I h) λS a ⟨vs,H1,n,b,c⟩=>j Y a O H1 vs S Q n b c) he m
def pe_callTy(j:CallR X (.type T) r)(i:Gl X x)(g:X.mg x=none)(d:bootBuiltins x=some (.type T))(k:PA X (e::es) t)(f:x ≠ "__name__":=by decide)(l:(x==("__debug__" : Str))=false:=by decide)
  (he:starEach (e::es) X.env=(false,eval e X.env)::starEach es X.env:=by rfl) (m:(backTo pos (starEach es X.env)).any (·.1)=false:=by rfl):PE X (.Call (.Name x p) (e::es) [] pos) (Ip r t):=by
 intro Y s O H Q I h;refine Pc (cX I i g d ?_ f l);exact QH (thn (k pos Y s O H _ I h) λS a ⟨vs,H1,n,b,c⟩=>j Y a O H1 vs S Q n b c) he m
end
end L2
namespace HT
open PySem PyProof.Rows
section
variable{E:Value->Shared->Prop}
def sIx(n d:Nat):Option Int->Nat
 |none=>d
 |some v=>if v<0 then(v+(n:Int)).toNat else min v.toNat n
def aa4(n d:Nat)(b:d<=n)(o:Option Int):sIx n d o<=n:=by
 cases o with
 |none=>exact b
 |some v=>
  show(if v<0 then(v+(n:Int)).toNat else min v.toNat n)<=n
  by_cases a:v<0
  .rw [YE a];lia
  .rw [Yn a];exact Nat.min_le_right _ _
def ly(v:Int)(n d:Nat):(if v<0 then max (v+(n:Int)) 0 else min v (n:Int))=((sIx n d (some v):Nat):Int):=by
 show(if v<0 then max (v+(n:Int)) 0 else min v (n:Int))=(((if v<0 then(v+(n:Int)).toNat else min v.toNat n):Nat):Int)
 by_cases a:v<0
 .simp only [YE a];lia
 .simp only [Yn a];lia
def u7(lo hi:Option Int)(n:Nat):Builtin.Slice.sliceAdjust lo hi 1 (n:Int)=(((sIx n 0 lo:Nat):Int),((sIx n n hi:Nat):Int)):=by
 have h1 : ¬ ((1:Int)<0):=by lia
 unfold Builtin.Slice.sliceAdjust;simp![h1,Vb];refine Na ?_ ?_
 .cases lo with
  |none=>rfl
  |some v=>exact ly v n 0
 .cases hi with
  |none=>rfl
  |some v=>exact ly v n n
def vb(i j:Nat):Builtin.Slice.slicePlaces (i:Int) (j:Int) 1=j-i:=by
 unfold Builtin.Slice.slicePlaces;have h1:(1:Int) > 0:=by lia
 simp![h1,Tj,Int.ediv_one];split<;>lia
def iY{v:Value}{o:Option Int}{Q:Option Int->Shared->Prop}(p:IsPart v o)(h:Q o s):wpAny (model prog w) A (Builtin.Slice.slicePartIndex v) Q E s:=by
 cases p with
 |none=>exact slicePart_none h
 |int i t=>exact slicePart_int h
def tO{g:Addr}{c a:Value}{lo hi:Option Int}{Q:Int×Int×Nat->Shared->Prop}(o:s.heap.IsSliceOf g c a .none)(k:IsPart c lo)(j:IsPart a hi)
  (h:Q (((sIx n 0 lo:Nat):Int),1,sIx n n hi-sIx n 0 lo) s):wpAny (model prog w) A (Builtin.Slice.sliceApplied (.ref g) (pure (n:Int))) Q E s:=by
 let⟨os,f,r,d⟩:=id o;unfold Builtin.Slice.sliceApplied Builtin.Slice.sliceFields;refine ZB (ZB (Ph f d (x:=c) rfl (ZB (Ph f d (x:=a) rfl (ZB (Ph f d (x:=.none) rfl (ZP ?_)))))));refine ZB (slicePart_none ?_);show wpAny _ _ (if((1:Int)==0)=true then _ else _) _ _ s
 rw[Yn #[1]]
 refine ZB (iY k (ZB (iY j (ZB (ZP ?_)))));show wpAny _ _ (match Builtin.Slice.sliceAdjust lo hi 1 (n:Int)with|(lo,hi)=>pure (lo,(1:Int),Builtin.Slice.slicePlaces lo hi 1)) _ _ s
 rw[u7 lo hi n];show wpAny _ _ (pure (((sIx n 0 lo:Nat):Int),(1:Int),Builtin.Slice.slicePlaces ((sIx n 0 lo:Nat):Int) ((sIx n n hi:Nat):Int) 1)) _ _ s;rw[vb];exact ZP h
def wF(xs:Array Value)(i k:Nat):((List.range k).filterMap λ(m:Nat)=>xs[((i:Int)+(m:Int)*1).toNat]?).toArray=((xs.toList.drop i).take k).toArray:=by
 have e:(λ(m:Nat)=>xs[((i:Int)+(m:Int)*1).toNat]?)=λm=>xs[i+m]?:=by
  funext m;have:((i:Int)+(m:Int)*1).toNat=i+m:=by lia
  rw[this]
 rw[e];have:=pick_run xs i k;rw[List.filterMap_map]at this;have a:((λx=>xs[x]?) ∘ λx=>i+x)=λm=>xs[i+m]?:=rfl;rw[a]at this;rw[this]
def getItem_tuple_cut{t d:Addr}{items:Array Value}{j g:Value}{lo hi:Option Int}{Q:Value->Shared->Prop}(a:IsTup s.heap t items)(k:s.heap.IsSliceOf d j g .none)(r:IsPart j lo)(o:IsPart g hi)
  (hw : ¬ (sIx items.size 0 lo=0/\sIx items.size items.size hi=items.size))
  (h:Q (.ref s.heap.objs.size) {s with heap:=s.heap.push {cls:=.type "tuple",data:=.seq ((items.toList.drop (sIx items.size 0 lo)).take (sIx items.size items.size hi-sIx items.size 0 lo)).toArray}})
  (hsz:items.size<=sizeLine):wpAny (model prog w) A (getItem (.ref t) (.ref d)) Q E s:=by
 have c:sizeOk (.seq ((items.toList.drop (sIx items.size 0 lo)).take (sIx items.size items.size hi-sIx items.size 0 lo)).toArray):=by
  show((items.toList.drop (sIx items.size 0 lo)).take (sIx items.size items.size hi-sIx items.size 0 lo)).toArray.size<=sizeLine;rw[Xe,Vp,Ub,Y2];omega
 have D:sIx items.size items.size hi<=items.size:=aa4 _ _ (Hk _) hi;let⟨os,z,u,F⟩:=id k;have f:s.TypeIs (.ref d) "slice":=⟨os,z,u⟩;unfold getItem
 try with_reducible refine Vt ?_
 first|refine ZB (ZP ?_)|skip
 refine ZB (wpAny_sequenceKey a.typeIs #[1] ?_)
 refine ZB (Qc (name:=Str.ofString "__getitem__") a.typeIs PD
  (Se PD a.typeIs entry_tuple_getitem ?_ (args_tuple_getitem _ _)))
 show wpAny _ _ (Builtin.Tuple.tupleItemsOf (.ref t) >>= _) _ _ s;refine ZB (tupleItemsOf_ a ?_);refine ZB (OP f ?_);rw[YE #[1]]
 refine ZB (tO k r o ?_);have y : ¬ ((((sIx items.size 0 lo:Nat):Int)==0&&(1:Int)==1&&(sIx items.size items.size hi-sIx items.size 0 lo)==items.size)=true):=by
  intro q;rw[Z1,Z1]at q;have C:((sIx items.size 0 lo:Nat):Int)=0:=eq_of_beq q.1.1;have B:sIx items.size items.size hi-sIx items.size 0 lo=items.size:=eq_of_beq q.2;exact hw ⟨by lia,by omega⟩
 show wpAny _ _ (if(((sIx items.size 0 lo:Nat):Int)==0&&(1:Int)==1&&(sIx items.size items.size hi-sIx items.size 0 lo)==items.size)=true then _ else _) _ _ s
 rw[Yn y,wF]
 first
  |exact ZB (m:=Builtin.Tuple.tupleExact _) (Uc (ZP ⟨_,rfl,ZP h⟩) c)
  |exact ZB (m:=Builtin.Tuple.tupleExact _) (Uc (ZB (ZP (ZP ⟨_,rfl,ZP h⟩))) c)
  |exact ZB (ZB (m:=Builtin.Tuple.tupleExact _) (Uc (ZP (ZP ⟨_,rfl,ZP h⟩)) c))
  |exact ZB (ZB (m:=Builtin.Tuple.tupleExact _) (Uc (ZP ⟨_,rfl,ZP h⟩) c))
end
end HT
namespace L2
open PySem PySem.Spec PyProof.Rows
abbrev TO:=St->Hp->(Option Int->Hp->Prop)->Prop
def PO(X:Cx)(e:Option Expr)(t:TO):Prop:=
 ∀(Y:List (Addr×Obj)) (s:Shared) (O:St) (H:Hp) (Q:Option Int->Hp->Prop),Z0 X Y O H s->t O H Q ->
  wpAny (model X.prog X.w) X.A (evalPart e X.env) (λu s'=>∃o H',Z0 X Y O H' s'/\IsPart u o/\Q o H') X.xe s
def Gx:TO:=λ_ H Q=>Q none H
def GY(t:TE):TO:=λO H Q=>t O H λx H1=>∃i,x=.int i/\Q (some i) H1
section
variable{lo hi:Option Expr}{tl th:TO}
def yc:PO X none Gx:=by
 intro Y s O H Q I h;rw[evalPart_none];exact ZP ⟨none,H,I,.none,h⟩
def zy(h:PE X e te):PO X (some e) (GY te):=by
 intro Y s O H Q I c;rw[evalPart_some];refine thn (h Y s O H _ I c) ?_;rintro u f ⟨x,H1,d,a,b⟩;let⟨i,rfl,q⟩:=b;let⟨t,rfl⟩:=a;exact⟨some i,H1,d,.int i t,q⟩
def SlR(X:Cx)(r:V->Option Int->Option Int->Hp->VK->Prop):Prop:=
 ∀(Y:List (Addr×Obj)) (s:Shared) (O:St) (H:Hp) (x:V) (v b a:Value) (lo hi:Option Int) (c:Addr) (Q:VK),Z0 X Y O H s->RelV x v->s.heap.IsSliceOf c b a .none->IsPart b lo->IsPart a hi->r x lo hi H Q ->
  ∃T id,typeLookup (.type T) "__getitem__" = pure (some (.builtin id))/\s.TypeIs v T/\wpAny (model X.prog X.w) X.A (getItem v (.ref c)) (EP X Y O Q) X.xe s
def SlR.or{r e:V->Option Int->Option Int->Hp->VK->Prop}(h:SlR X r)(h':SlR X e):SlR X (λx lo hi H Q=>r x lo hi H Q\/e x lo hi H Q):=by
 intro Y s O H x v b a lo hi c Q I d hs g f q;rcases q with q|q
 .exact h Y s O H x v b a lo hi c Q I d hs g f q
 .exact h' Y s O H x v b a lo hi c Q I d hs g f q
def Iq(r:V->Option Int->Option Int->Hp->VK->Prop)(c:TE)(a b:TO):TE:=λO H Q=>c O H λx H1=>a O H1 λl H2=>b O H2 λu H3=>r x l u H3 Q
def wD{r:V->Option Int->Option Int->Hp->VK->Prop}(z:SlR X r)(D:PE X e te)(B:PO X lo tl)(t:PO X hi th):PE X (.Subscript e (.Slice lo hi none p2) pos) (Iq r te tl th):=by
 intro Y s O H Q I h;refine Subscript_ (thn (D Y s O H _ I h) ?_);rintro v f ⟨x,H1,K,g,o⟩;refine wpAny_Slice (thn (B Y f O H1 _ K o) λc d ⟨l,H2,J,pl,k⟩=>thn (t Y d O H2 _ J k) ?_);rintro a s3 ⟨u,H3,G,pu,j⟩;rw[evalPart_none];refine ZP ?_;have F:Z0 X Y O H3 {s3 with heap:=s3.heap.push {cls:=.type "slice",data:=.fields #[c,a,.none]}}:=G.kept (t':=s3.toks) λb ob q=>Hg _ q
 let⟨T,id,E,y,C⟩:=z Y {s3 with heap:=s3.heap.push {cls:=.type "slice",data:=.fields #[c,a,.none]}} O H3 x v c a l u s3.heap.objs.size Q F g (Heap.IsSliceOf.new ..) pl pu j
 show wpAny (model X.prog X.w) X.A (subscriptTail e (.Slice lo hi none p2) v (.ref s3.heap.objs.size)) (EP X Y O Q) X.xe {s3 with heap:=s3.heap.push {cls:=.type "slice",data:=.fields #[c,a,.none]}}
 exact tail_any (ops:=[.ref s3.heap.objs.size,v]) y E C (by with_unfolding_all rfl)
def Bu(xs:List V)(lo hi:Option Int):List V:=(xs.drop (HT.sIx xs.length 0 lo)).take (HT.sIx xs.length xs.length hi-HT.sIx xs.length 0 lo)
def iK(xs:List V)(lo hi:Option Int):(Bu xs lo hi).length<=xs.length:=by
 unfold Bu;rw[Vp,Ub];omega
def Ir(K:Hu):V->Option Int->Option Int->Hp->VK->Prop:=λx lo hi H Q=>∃a xs,x=.ref a/\SqT K H a xs /\
 ¬ (HT.sIx xs.length 0 lo=0/\HT.sIx xs.length xs.length hi=xs.length) /\∀p,H p=none->Q (.ref p) (upd H p (.ZY (Bu xs lo hi)))
def abj:SlR X (Ir X.K):=by
 intro Y s O H x v m l lo hi n Q I f hs i g h;let⟨a,xs,rfl,j,k,q⟩:=h;cases f;let⟨ZU,r,e,d⟩:=I.tuple j;have c:ZU.toArray.size=xs.length:=by rw[Xe];exact r.length.symm
 refine⟨"tuple",_,PyProof.Rows.slot_tuple_getitem.lookup,e.typeIs,?_⟩;refine HT.getItem_tuple_cut e hs i g (by rw[c];exact k) ?_ (by rw[c];exact d)
 rw[c];refine⟨.ref s.heap.objs.size,_,I.laid (t':=s.toks) (o:=.ZY (Bu xs lo hi)) (λb ob q=>Hg _ q) (Hk _) ?_,rfl,q _ (I.ZK.fresh (Hk _))⟩;exact⟨Hi (iK xs lo hi) d,_,(r.drop (HT.sIx xs.length 0 lo)).take (HT.sIx xs.length xs.length hi-HT.sIx xs.length 0 lo),IsTup.new _ _⟩
end
end L2
namespace L2
open PySem PySem.Spec PyProof.Rows
def ixN(n:Nat)(i:Int):Option Nat:=if 0<=i then(if i<n then some i.toNat else none)else if -(n:Int)<=i then some (i+n).toNat else none
def atI{a:Type}(xs:List a)(i:Int):Option a:=(ixN xs.length i).bind λj=>xs[j]?
def kR{i:Int}(h:ixN n i=some j):seqIndex? i n=some j/\j<n /\ -(n:Int)<=i/\i<n:=by
 unfold ixN at h;by_cases a:0<=i
 .rw [YE a]at h
  by_cases h1:i<n
  .rw [YE h1]at h
   have e:i.toNat=j:=WV h;exact⟨by rw[seqIndex_of a h1,e],by omega,by lia,h1⟩
  .rw [Yn h1]at h;cases h
 .rw [Yn a]at h
  by_cases h1 : -(n:Int)<=i
  .rw [YE h1]at h
   have e:(i+n).toNat=j:=WV h;exact⟨by rw[seqIndex_neg (by lia) h1,e],by lia,h1,by lia⟩
  .rw [Yn h1]at h;cases h
def kE{xs:List α}{i:Int}{v:α}(h:atI xs i=some v):∃j,seqIndex? i xs.length=some j/\xs[j]?=some v/\j<xs.length /\ -(xs.length:Int)<=i/\i<xs.length:=by
 unfold atI at h;cases e:ixN xs.length i with
 |none=>rw[e]at h;cases h
 |some j=>
  rw[e]at h;let⟨h1,h2,b,a⟩:=kR e;exact⟨j,h1,h,h2,b,a⟩
def Dj(b:Expr):Prop:=∀o i,subscripted b false o i=operate [o,i] (getItem o i)
def IxR(X:Cx)(r:R2):Prop:=
 ∀(a slice:Expr) (Y:List (Addr×Obj)) (s:Shared) (O:St) (H:Hp) (x y:V) (v u:Value) (Q:VK),Z0 X Y O H s->RelV x v->RelV y u->r x y H Q ->
  subscripted slice false v u=operate [v,u] (getItem v u)->wpAny (model X.prog X.w) X.A (subscriptTail a slice v u) (EP X Y O Q) X.xe s
def MtR(X:Cx)(a:String)(r:V->List V->Hp->VK->Prop):Prop:=
 ∀(Y:List (Addr×Obj)) (s:Shared) (O:St) (H:Hp) (x:V) (xs:List V) (v:Value) (S:List Value) (Q:VK),Z0 X Y O H s->RelV x v->ZH xs S->r x xs H Q ->
  wpAny (model X.prog X.w) X.A (call (.builtin a) (v::S)) (EP X Y O Q) X.xe s
section
variable{a b:Expr}{tb:TE}
def IxR.or{r d:R2}(h:IxR X r)(h':IxR X d):IxR X (λx y H Q=>r x y H Q\/d x y H Q):=by
 intro a slice Y s O H x y v u Q I c b q hs;rcases q with q|q
 .exact h a slice Y s O H x y v u Q I c b q hs
 .exact h' a slice Y s O H x y v u Q I c b q hs
def acK{r:R2}(g:IxR X r)(j:PE X a ta)(i:PE X b tb)(f:Dj b):PE X (.Subscript a b pos) (Ih r ta tb):=by
 intro Y s O H Q I h;exact Subscript_ (ip j i I h λv u c x y H2 k e d q=>g a b Y c O H2 x y v u Q k e d q (f _ _))
def Iu(K:Hu):R2:=λx y H Q=>∃p xs i v,x=.ref p/\y=.int i/\SqL K H p xs/\atI xs i=some v/\Q v H
def Iv(K:Hu):R2:=λx y H Q=>∃p xs i v,x=.ref p/\y=.int i/\SqT K H p xs/\atI xs i=some v/\Q v H
def zD:IxR X (Iu X.K):=by
 intro b slice Y s O H x y v u Q I k g h hs;let⟨p,xs,i,z,rfl,rfl,l,m,q⟩:=h;cases k;let⟨t,rfl⟩:=g;let⟨ZU,r,c,B⟩:=I.list l;let⟨j,h1,h2,C,o,n⟩:=kE m;let⟨w,f,A⟩:=r.get h2;have hl:=r.length;have hn:=cU;have a:EP X Y O Q w s:=⟨z,H,I,A,q⟩;by_cases e:0<=i
 .have d:i.toNat=j:=by
   rw[seqIndex_of e n]at h1;exact WV h1
  exact item_listR c.isList e (by lia) (by rw[d];simpa using f) a hs
 .have d:(i+(ZU.toArray.size:Int)).toNat=j:=by
   rw[seqIndex_neg (by lia) o]at h1
   rw[Xe,<-hl];exact WV h1
  exact subscriptTail_builtinR (x:=w) c.isList.typeIs slot_list_getitem.lookup
   (wpAny_getItem_list_neg (Q:=λr s'=>r=w/\EP X Y O Q r s') c.isList () (by rw[Xe]<;>lia) (by lia) (by rw[d];simpa using f) ⟨rfl,a⟩) hs
def acw:IxR X (Iv X.K):=by
 intro a slice Y s O H x y v u Q I e d h hs;let⟨p,xs,i,z,rfl,rfl,f,g,q⟩:=h;cases e;let⟨t,rfl⟩:=d;let⟨ZU,r,c,m⟩:=I.tuple f;let⟨j,h1,h2,A,o,n⟩:=kE g;let⟨w,k,l⟩:=r.get h2;have hl:=r.length;have hn:=cU;have b:EP X Y O Q w s:=⟨z,H,I,l,q⟩;exact subscriptTail_builtinR (x:=w) c.typeIs slot_tuple_getitem.lookup
  (getItem_tuple (j:=j) (Q:=λr s'=>r=w/\EP X Y O Q r s') c (by lia) (by lia) (by rw[Xe,<-hl];exact h1) (by simpa using k) ⟨rfl,b⟩) hs
def u9(a:List Value)(n j:Nat)(u:Value):Obj.mapSeq (·.setIfInBounds j u) {cls:=.type "list",data:=.seq a.toArray n}={cls:=.type "list",data:=.seq (a.set j u).toArray n}:=by
 simp[Obj.mapSeq]
def Z0.Z5{Y:List (Addr×Obj)}{O:St}{H:Hp}{s:Shared}{p:Addr}{xs:List V}(I:Z0 X Y O H s)(h:H p=some (.Z5 xs)):
  ∃(ZU:List Value) (n:Nat),ZH xs ZU/\s.heap.get? p=some {cls:=.type "list",data:=.seq ZU.toArray n}/\xs.length<=sizeLine:=by
 let⟨z,ZU,n,r,e⟩:=I.ZK p _ h;exact⟨ZU,n,r,e,z⟩
def Z0.Ro{O:St}{p:Addr}{xs a:List V}{its':List Value}{c:Nat}{f:Obj->Obj}(I:Z0 X Y O H s)(h:H p=some (.Z5 xs))
  (g:s.heap.get? p=some {cls:=.type "list",data:=.seq ZU.toArray n}) (d:f {cls:=.type "list",data:=.seq ZU.toArray n}={cls:=.type "list",data:=.seq its'.toArray c}) (r:ZH a its') (hz:a.length<=sizeLine) (t:Nat) :
  Z0 X Y O (upd H p (.Z5 a)) {s with heap:=s.heap.update p f,toks:=t}:=by
 have e:(s.heap.update p f).get? p=some {cls:=.type "list",data:=.seq its'.toArray c}:=by
  rw[Uh f g (by rw[d]<;>rfl),d]
 refine I.write (x:=p) (e:=p) (by rw[h];trivial) (.inl rfl) (λb u i q=>(W_ _ _ (Ne.symm i)).trans q) ⟨_,e⟩ ?_
 exact⟨hz,its',c,r,e⟩
def GU:V->V->V->Hp->(Hp->Prop)->Prop:=λo i v H Q=>∃p xs k j,o=.ref p/\i=.int k/\H p=some (.Z5 xs)/\ixN xs.length k=some j/\Q (upd H p (.Z5 (xs.set j v)))
def set_list:BY X GU:=by
 intro Y s O H o i v x y u Q I g l f h;let⟨p,xs,k,j,rfl,rfl,a,w,q⟩:=h;cases g;let⟨t,rfl⟩:=l;let⟨ZU,n,r,ho,m⟩:=I.Z5 a;let⟨h1,h2,c,b⟩:=kR w;have hl:=r.length;have hn:=cU;have e:Z0 X Y O (upd H p (.Z5 (xs.set j v))) {s with heap:=s.heap.update p (Obj.mapSeq (·.setIfInBounds j u))}:=
  I.Ro a ho (u9 ZU n j u) (r.set f j) (by rw[PZ];exact m) s.toks
 by_cases d:0<=k
 .have hk:k.toNat=j:=by
   rw[seqIndex_of d b]at h1;exact WV h1
  exact PySem.W.ki_setAt ho d (by lia) (by rw[Xe,<-hl];exact b) (by rw[hk];exact⟨_,e,q⟩)
 .have hk:(k+(ZU.toArray.size:Int)).toNat=j:=by
   rw[seqIndex_neg (by lia) c]at h1
   rw[Xe,<-hl];exact WV h1
  exact PySem.W.ki_setBack ho () (by rw[Xe,<-hl];exact c) (by lia) (by rw[hk];exact⟨_,e,q⟩)
def ue(lo hi:Option Int)(n:Nat):(sliceBounds lo hi none n).1=((HT.sIx n 0 lo:Nat):Int)/\(sliceBounds lo hi none n).2.1=((HT.sIx n n hi:Nat):Int)/\(sliceBounds lo hi none n).2.2=1:=by
 refine⟨?_,?_,rfl⟩
 .cases lo with
  |none=>simp[sliceBounds,HT.sIx]
  |some i=>
   simp![sliceBounds,HT.sIx,OC,show(1:Int) > 0 by decide,Tj]
   by_cases h:i<0
   .simp only [h,Tj]<;>lia
   .simp only [h,Vb]<;>lia
 .cases hi with
  |none=>simp[sliceBounds,HT.sIx]
  |some i=>
   simp![sliceBounds,HT.sIx,OC,show(1:Int) > 0 by decide,Tj]
   by_cases h:i<0
   .simp only [h,Tj]<;>omega
   .simp only [h,Vb]<;>omega
def tZ(a:List Value)(lo hi:Option Int):slicePick a.toArray lo hi none=((a.drop (HT.sIx a.length 0 lo)).take (HT.sIx a.length a.length hi-HT.sIx a.length 0 lo)).toArray:=by
 let⟨h1,h2,b⟩:=ue lo hi a.toArray.size;unfold slicePick;rw[h1,h2,b];simp![sliceRange_one,pick_run,Xe]<;>rfl
def Iw(K:Hu):V->Option Int->Option Int->Hp->VK->Prop:=λx lo hi H Q=>∃a xs,x=.ref a/\SqL K H a xs /\∀p,H p=none->Q (.ref p) (upd H p (.Z5 (Bu xs lo hi)))
def zR:SlR X (Iw X.K):=by
 intro Y s O H x v u t lo hi w Q I d hs g f h;let⟨a,xs,rfl,k,q⟩:=h;cases d;let⟨ZU,r,c,j⟩:=I.list k;have hlen:=r.length;refine⟨"list",_,slot_list_getitem.lookup,c.isList.typeIs,?_⟩;refine wpAny_getItem_list_slice c.isList hs g f .none #[3] ?_ (by rw[Xe]<;>lia)
 rw[tZ,<-hlen];refine⟨.ref s.heap.objs.size,_,I.laid (t':=s.toks) (o:=.Z5 (Bu xs lo hi)) (λb ob q=>Hg _ q) (Hk _) ?_,rfl,q _ (I.ZK.fresh (Hk _))⟩;exact⟨Hi (iK xs lo hi) j,_,0,(r.drop (HT.sIx xs.length 0 lo)).take (HT.sIx xs.length xs.length hi-HT.sIx xs.length 0 lo),Ho _ rfl⟩
def CM:V->Bool
 |.ZJ=>true
 |.bl _=>true
 |.int _=>true
 |.str _=>true
 |_=>false
def Iy:V->V->Bool
 |.ZJ,.ZJ=>true
 |.bl a,.bl b=>a==b
 |.bl a,.int b=>(if a then 1 else 0)==b
 |.int a,.bl b=>a==(if b then 1 else 0)
 |.int a,.int b=>a==b
 |.str a,.str b=>a==b
 |_,_=>false
def gW{y x:V}{u v:Value}(d:RelV y u)(c:RelV x v)(f:CM y=true)(e:CM x=true):SeqAt.EqAt A s u v (Iy y x):=by
 cases y with
 |ZJ=>
  cases d;cases x with
  |ZJ=>cases c;exact OY _
  |bl b=>cases c;exact SeqAt.EqAt.none_bool b
  |int b=>let⟨t,rfl⟩:=c;exact SeqAt.EqAt.none_int b t
  |str b=>let⟨t,rfl⟩:=c;exact SeqAt.EqAt.none_str b t
  |_=>exact absurd (show false=true from e) Hj
 |bl a=>
  cases d;cases x with
  |ZJ=>cases c;exact SeqAt.EqAt.bool_none a
  |bl b=>cases c;exact SeqAt.EqAt.bool_bool a b
  |int b=>let⟨t,rfl⟩:=c;exact SeqAt.EqAt.bool_int a b t
  |str b=>let⟨t,rfl⟩:=c;exact SeqAt.EqAt.bool_str a b t
  |_=>exact absurd (show false=true from e) Hj
 |int a=>
  let⟨t',rfl⟩:=d;cases x with
  |ZJ=>cases c;exact SeqAt.EqAt.int_none a t'
  |bl b=>cases c;exact SeqAt.EqAt.int_bool a t' b
  |int b=>let⟨t,rfl⟩:=c;exact SeqAt.EqAt.int_int a t' b t
  |str b=>let⟨t,rfl⟩:=c;exact SeqAt.EqAt.int_str a t' b t
  |_=>exact absurd (show false=true from e) Hj
 |str a=>
  let⟨t',rfl⟩:=d;cases x with
  |ZJ=>cases c;exact SeqAt.EqAt.str_none a t'
  |bl b=>cases c;exact SeqAt.EqAt.str_bool a t' b
  |int b=>let⟨t,rfl⟩:=c;exact SeqAt.EqAt.str_int a t' b t
  |str b=>let⟨t,rfl⟩:=c;exact SeqAt.EqAt.str_str a t' b t
  |_=>exact absurd (show false=true from e) Hj
 |_=>exact absurd (show false=true from f) Hj
def call_len_seq:CallR X (.builtin "len") (λxs H Q=>∃p ys,xs=[.ref p]/\(SqL X.K H p ys\/SqT X.K H p ys)/\Q (.int ys.length) H):=by
 intro Y s O H xs S Q I r h;let⟨p,ys,rfl,a,q⟩:=h;let⟨u,rfl,c⟩:=vals1 r;cases c;have hn:=cU;rcases a with a|a
 .obtain ⟨ZU,r',b,d⟩:=I.list a
  have hlen:=r'.length;exact Calls.call_len_list b.isList (by simp![Xe]<;>lia) ⟨.int ys.length,H,I.tok _,⟨s.toks+1,by rw[Xe,hlen]⟩,q⟩
 .obtain ⟨ZU,r',b,d⟩:=I.tuple a
  have hlen:=r'.length;exact len_tuple b (by simp![Xe]<;>omega) ⟨.int ys.length,H,I.tok _,⟨s.toks+1,by rw[Xe,hlen]⟩,q⟩
def CallR.or{f:Value}{r a:List V->Hp->VK->Prop}(h:CallR X f r)(h':CallR X f a):CallR X f (λxs H Q=>r xs H Q\/a xs H Q):=by
 intro Y s O H xs S Q I rs q;rcases q with q|q
 .exact h Y s O H xs S Q I rs q
 .exact h' Y s O H xs S Q I rs q
def call_list_of:CallR X (.type "list") (λxs H Q=>∃p ys,xs=[.ref p]/\(SqL X.K H p ys\/SqT X.K H p ys) /\∀l,H l=none->Q (.ref l) (upd H l (.Z5 ys))):=by
 intro Y s O H xs S Q I r h;let⟨p,ys,rfl,d,q⟩:=h;let⟨u,rfl,t⟩:=vals1 r;cases t;have f:∀(ZU:List Value),ZH ys ZU->ys.length<=sizeLine ->∀(h':Heap) (c':Nat),(∀b o',s.heap.get? b=some o'->h'.get? b=some o') ->
   h'.get? s.heap.objs.size=some {cls:=.type "list",dict:=none,data:=.seq ZU.toArray c',slots:=#[]}->EP X Y O Q (.ref s.heap.objs.size) {s with heap:=h'}:=λZU r' c h' c' a e=>
  ⟨.ref s.heap.objs.size,_,I.laid (t':=s.toks) a (Hk _) (show ObjOk X.prog X.w _ h' _ (.Z5 ys)from⟨c,ZU,c',r',e⟩),rfl,q _ (I.ZK.fresh (Hk _))⟩
 rcases d with d|d
 .obtain ⟨ZU,r',g,c⟩:=I.list d
  have hlen:=r'.length;let⟨o,ho,k,n,j⟩:=g.isList;exact call_list_seq p (.inl rfl) ho k j (λh' c' a e=>f ZU r' c h' c' a e) (by simp![Xe]<;>omega)
 .obtain ⟨ZU,r',g,c⟩:=I.tuple d
  have hlen:=r'.length;let⟨o,ho,k,n,j⟩:=g;exact call_list_seq p (.inr rfl) ho k j (λh' c' a e=>f ZU r' c h' c' a e) (by simp![Xe]<;>omega)
def Iz(K:Hu)(T:String)(x:V)(H:Hp):Prop:=match x with
 |.str _=>T = "str"
 |.int _=>T = "int"
 |.ref p=>(T = "list" /\∃xs,SqL K H p xs)\/(T = "tuple" /\∃o,K.lookup p=some o/\o.cls=.type "tuple" /\ o.dict=none) \/
   (T = "dict" /\ ((∃Z4,H p=some (.dK Z4)) \/∃Z4,H p=some (.dT Z4)))\/(T = "set" /\∃Z6 n,H p=some (.set Z6 n))
 |_=>False
def nV{O:St}{T:String}{x:V}{v:Value}(I:Z0 X Y O H s)(r:RelV x v)(b:Iz X.K T x H):
  s.TypeIs v T /\∀a,v=.ref a ->∃g,s.heap.get? a=some g/\g.dict=none:=by
 cases x with
 |str z=>
  let⟨t,rfl⟩:=r;cases(show T = "str" from b);exact⟨typeIs_str s z t,λ_ e=>nomatch e⟩
 |int i=>
  let⟨t,rfl⟩:=r;cases(show T = "int" from b);exact⟨typeIs_int s i t,λ_ e=>nomatch e⟩
 |ref p=>
  cases r;rcases b with⟨rfl,xs,h⟩|⟨rfl,o,hk,j,hd⟩|⟨rfl,hk⟩|⟨rfl,Z6,n,hk⟩
  .obtain ⟨ZU,_,f,_⟩:=I.list h
   refine⟨f.isList.typeIs,λa e=>?_⟩;cases e;let⟨o,n,e,c,hd,_⟩:=f;exact⟨o,e,hd⟩
  .refine ⟨⟨o,I.Yv p o hk,j⟩,λa e=>?_⟩
   cases e;exact⟨o,I.Yv _ o hk,hd⟩
  .have z:∃o,s.heap.get? p=some o/\o.ExactDict:=by
    rcases hk with⟨Z4,hk⟩|⟨Z4,hk⟩
    .obtain ⟨_,_,_,_,o,_,_,e,ex,_⟩:=I.ZK p _ hk
     exact⟨o,e,ex⟩
    .obtain ⟨_,_,_,_,o,_,_,e,ex,_⟩:=I.ZK p _ hk
     exact⟨o,e,ex⟩
   let⟨o,e,ex⟩:=z;refine⟨⟨o,e,ex.1⟩,λa d=>?_⟩;cases d;exact⟨o,e,ex.2.1⟩
  .obtain ⟨o,_,_,_,e,ex,_⟩:=I.ZK p _ hk
   refine⟨⟨o,e,ex.1⟩,λa d=>?_⟩;cases d;exact⟨o,e,ex.2.1⟩
 |_=>exact False.elim b
def IA(K:Hu)(T:String)(r:V->List V->Hp->VK->Prop)(a:TE):TE:=λO H Q=>a O H λx H1=>Iz K T x H1/\r x [] H1 Q
def IB(K:Hu)(T:String)(r:V->List V->Hp->VK->Prop)(a:TE)(t:TA):TE:=λO H Q=>a O H λx H1=>Iz K T x H1/\t O H1 λxs H2=>r x xs H2 Q
variable{o:Expr}{to:TE}{t:TA}{T id:String}{r:V->List V->Hp->VK->Prop}
def aa3(f:PlainAttrs T)(a:Slot T name id)(l:typeOf (.builtin id)=pure (.type "method_descriptor"))(i:MtR X id r)(g:PE X o to)
  (j:attributeBase o name X.env (eval o X.env)=eval o X.env:=by rfl) (k:(apos.endLine==Zq.line)=true:=by rfl):PE X (.Call (.Attribute o name apos) [] [] Zq) (IA X.K T r to):=by
 intro Y s O H Q I h;refine wpAny_Call_method0_late j k (thn (g Y s O H _ I h) ?_);rintro v d ⟨x,H1,c,b,ty,e⟩;let⟨h1,h2⟩:=nV c b ty;exact⟨T,id,f,a,l,h1,h2,Calls.callWith_builtin rfl (PySem.evalArgs_none (i Y d O H1 x [] v [] Q c b .nil e))⟩
def adB(m:PlainAttrs T)(a:Slot T name id)(z:typeOf (.builtin id)=pure (.type "method_descriptor"))(q:MtR X id r)(p:PE X o to)(u:PA X (e::es) t)
  (w:attributeBase o name X.env (eval o X.env)=eval o X.env:=by rfl)
  (b:((backTo Zq (starEach (e :: es) X.env)).all (λx => !x.1) && (backToKw Zq (keywordEach [] X.env)).all (λx=>x.1.isSome)
   && decide ((e::es).length+([]:List Keyword).length+(if([]:List Keyword).isEmpty then 0 else 1)<30))=true:=by rfl)
  (y:(apos.endLine==Zq.line)=true:=by rfl) (n:starEach (e::es) X.env=(false,eval e X.env)::starEach es X.env:=by rfl) (A:(backTo Zq (starEach es X.env)).any (·.1)=false:=by rfl) :
  PE X (.Call (.Attribute o name apos) (e::es) [] Zq) (IB X.K T r to t):=by
 intro Y s O H Q I h;refine wpAny_Call_method_late w b y rfl (thn (p Y s O H _ I h) ?_);rintro v i ⟨x,H1,f,c,ty,l⟩;let⟨h1,h2⟩:=nV f c ty;refine⟨T,id,m,a,z,h1,h2,?_⟩;have d:=u Zq Y i O H1 _ f l;rw[n]at d ⊢;refine Calls.callWith_builtin (by show(false||(backTo Zq (starEach es X.env)).any (·.1))=false;rw[A]<;>rfl) (PU ?_)
 exact thn d λS g ⟨vs,H2,B,j,k⟩=>q Y g O H2 x vs v S Q B c j k
end
end L2
namespace L2
open PySem PySem.Spec PyProof.Rows
def MtM(X:Cx)(a:String)(r:V->List V->Hp->VK->Prop):Prop:=
 ∀(Y:List (Addr×Obj)) (s:Shared) (O:St) (H:Hp) (x:V) (xs:List V) (v:Value) (S:List Value) (Q:VK),Z0 X Y O H s->RelV x v->ZH xs S->r x xs H Q ->
  wpAny (model X.prog X.w) X.A (call (.builtin a) (v::S)) (EP X Y O Q) X.xe s
def ZH.one:∀{x:V} {S:List Value},ZH [x] S ->∃u,S=[u]/\RelV x u
 |_,_,.cons r .nil=>⟨_,rfl,r⟩
def ZH.zero:∀{S:List Value},ZH [] S->S=[]
 |_,.nil=>rfl
def ZH.dropLast{xs:List V}{S:List Value}(h:ZH xs S):ZH xs.dropLast S.dropLast:=by
 induction h with
 |nil=>exact .nil
 |cons r t ih=>
  cases t with
  |nil=>exact .nil
  |cons q t'=>exact .cons r ih
def ZH.eraseIdx:∀{xs:List V} {S:List Value} (i:Nat),ZH xs S->ZH (xs.eraseIdx i) (S.eraseIdx i)
 |_,_,_,.nil=>.nil
 |_,_,0,.cons _ t=>t
 |_,_,i+1,.cons r t=>.cons r (ZH.eraseIdx i t)
def ZH.reverse{xs:List V}{S:List Value}(h:ZH xs S):ZH xs.reverse S.reverse:=by
 induction h with
 |nil=>exact .nil
 |cons r t ih=>rw[Pl,Pl];exact ZH.append ih (.cons r .nil)
def vi(l:List α):l.eraseIdx (l.length-1)=l.dropLast:=by
 induction l with
 |nil=>rfl
 |cons a r ih=>
  cases r with
  |nil=>rfl
  |cons b r=>
   have e:(a::b::r).length-1=((b::r).length-1)+1:=by
    have h1:(a::b::r).length=r.length+2:=rfl;have h2:(b::r).length=r.length+1:=rfl;lia
   rw[e,OD,ih]
   all_goals rfl
def i9{a:Type}:∀(l:List a) (i:Nat),(l.eraseIdx i).length<=l.length
 |[],_=>Hk _
 |_::_,0=>VY _
 |_::r,i+1=>OE (i9 r i)
section
variable{O:St}{l b:Addr}{xs ys zs:List V}
def Z0.Tc{its':List Value}{f:Array Value->Array Value}(I:Z0 X Y O H s)(g:H l=some (.Z5 xs))
  (e:s.heap.get? l=some {cls:=.type "list",data:=.seq ZU.toArray n}) (c:f ZU.toArray=its'.toArray) (a:ZH ys its') (hz:ys.length<=sizeLine) :
  Z0 X Y O (upd H l (.Z5 ys)) {s with heap:=s.heap.update l (Obj.mapSeq f),toks:=t'}:=by
 have q:=PySem.IsL.update e f;rw[c]at q;refine I.write (x:=l) (e:=l) (by rw[g];exact trivial) (.inl rfl) (λb' u d b=>(W_ s.heap (Obj.mapSeq f) (Ne.symm d)).trans b) ⟨_,q⟩ ?_
 exact⟨hz,its',_,a,q⟩
def Z0.lnew(I:Z0 X Y O H s)(a:ZH ys ZU)(hz:ys.length<=sizeLine):
  Z0 X Y O (upd H s.heap.objs.size (.Z5 ys)) {s with heap:=s.heap.push {cls:=.type "list",data:=.seq ZU.toArray},toks:=t'}:=
 I.laid (λ_ _ q=>Hg _ q) (Hk _) ⟨hz,ZU,0,a,Ho _ rfl⟩
def Z0.fresh(I:Z0 X Y O H s):H s.heap.objs.size=none:=I.ZK.fresh (Hk _)
def Z0.VC(I:Z0 X Y O H s)(a:H l=some (.Z5 xs)):xs.length<=sizeLine /\∃(ZU:List Value) (n:Nat),ZH xs ZU/\xs.length=ZU.length/\s.heap.get? l=some {cls:=.type "list",data:=.seq ZU.toArray n}:=by
 let⟨z,ZU,n,r,e⟩:=I.ZK l _ a;exact⟨z,ZU,n,r,r.length,e⟩
def xB(h:n<=sizeLine):Builtin.List.listTooLong n=false:=by
 unfold Builtin.List.listTooLong;exact VB (by lia)
end
section
def GA:V->List V->Hp->VK->Prop:=λx a H Q=>∃l xs y,x=.ref l/\a=[y]/\H l=some (.Z5 xs)/\xs.length<sizeLine/\Q .ZJ (upd H l (.Z5 (xs++[y])))
def jJ:MtM X "list.append" GA:=by
 intro Y s O H x g v S Q I c d h;let⟨l,xs,y,rfl,rfl,a,j,q⟩:=h;cases c;let⟨u,rfl,f⟩:=d.one;let⟨z,ZU,n,r,k,e⟩:=I.VC a;refine O_ F.slot_list_append ⟨_,e,rfl⟩ F.entry_list_append (F.args_list_append_2 _ _) (PySem.list_append l ZU.toArray n u (by rw[Xe];lia)) ⟨e,?_⟩
 refine⟨.ZJ,_,I.Tc (its':=ZU++[u]) a e #[3] (r.append (.cons f .nil)) ?_,rfl,q⟩
 rw[XZ,RL];lia
def Gy:V->List V->Hp->VK->Prop:=λx a H Q=>∃l b xs zs,x=.ref l/\a=[.ref b]/\H l=some (.Z5 xs)/\H b=some (.Z5 zs)/\xs.length+zs.length<=sizeLine/\Q .ZJ (upd H l (.Z5 (xs++zs)))
def wc:MtM X "list.extend" Gy:=by
 intro Y s O H x B v S Q I f g h;let⟨l,b,xs,zs,rfl,rfl,d,t,C,q⟩:=h;cases f;let⟨u,rfl,j⟩:=g.one;cases j;let⟨z,ZU,n,r,D,e⟩:=I.VC d;let⟨A,a,o,k,E,w⟩:=I.VC t;have c:ZU.toArray.size+a.toArray.size<=sizeLine:=by rw[Xe,Xe];lia
 have y : ¬ (!ZU.toArray.isEmpty&&Builtin.List.listTooLong (ZU.toArray.size+a.toArray.size))=true:=by
  rw[xB c,Bool.and_false];exact Hj
 refine O_ F.slot_list_extend ⟨_,e,rfl⟩ F.entry_list_extend (F.args_list_extend_2 _ _)
  (AutoSeq1.list_extend_list_list_0 l ZU.toArray n b a.toArray o y (by rw[Xe];lia) (by lia)) ⟨e,w,?_⟩
 refine⟨.ZJ,_,I.Tc (its':=ZU++a) d e #[3] (r.append k) ?_,rfl,q⟩
 rw[XZ];lia
def He:V->List V->Hp->VK->Prop:=λx a H Q=>∃l xs y,x=.ref l/\a=[]/\H l=some (.Z5 xs)/\xs[xs.length-1]?=some y/\Q y (upd H l (.Z5 xs.dropLast))
def aaD:MtM X "list.pop" He:=by
 intro Y s O H x m v S Q I b c h;let⟨l,xs,y,rfl,rfl,a,f,q⟩:=h;cases b;have j:=c.zero;subst j;let⟨z,ZU,n,r,i,e⟩:=I.VC a;let⟨u,g,d⟩:=r.get f;have k:ZU.toArray[ZU.toArray.size-1]?=some u:=by
  show ZU.toArray[ZU.length-1]?=some u;rw[<-W3,<-i];exact g
 refine O_ F.slot_list_pop ⟨_,e,rfl⟩ F.entry_list_pop (F.args_list_pop_1 _) (MeetsSeq.list_pop_last l ZU.toArray n u k (by rw[Xe];lia)) ⟨e,?_⟩
 refine⟨y,_,I.Tc (its':=ZU.dropLast) a e ?_ r.dropLast ?_,d,q⟩
 .show ZU.toArray.eraseIdxIfInBounds (ZU.toArray.size-1)=ZU.dropLast.toArray
  rw[Xe,Qq,vi]
 .rw [List.length_dropLast]
  omega
def GJ:V->List V->Hp->VK->Prop:=λx a H Q=>∃l xs i k y,x=.ref l/\a=[.int i]/\H l=some (.Z5 xs) /\ -(2 ^ 63)<=i/\i<2 ^ 63/\seqIndex? i xs.length=some k/\xs[k]?=some y/\Q y (upd H l (.Z5 (xs.eraseIdx k)))
def wG:MtM X "list.pop" GJ:=by
 intro Y s O H x o v S Q I b c h;let⟨l,xs,i,k,y,rfl,rfl,a,h1,h2,hk,f,q⟩:=h;cases b;let⟨u,rfl,d⟩:=c.one;let⟨t,rfl⟩:=d;let⟨z,ZU,n,r,j,e⟩:=I.VC a;let⟨w,g,m⟩:=r.get f;refine O_ F.slot_list_pop ⟨_,e,rfl⟩ F.entry_list_pop (F.args_list_pop_2 _ _)
  (MeetsSeq.list_pop_at l ZU.toArray n i t k w (fitsIndex_both h1 h2) (by rw[Xe,<-j];exact hk) (by rw[<-W3];exact g) (by rw[Xe];lia)) ⟨e,?_⟩
 refine⟨y,_,I.Tc (its':=ZU.eraseIdx k) a e ?_ (r.eraseIdx k) ?_,m,q⟩
 .show ZU.toArray.eraseIdxIfInBounds k=(ZU.eraseIdx k).toArray
  rw[Qq]
 .have:=i9 xs k
  lia
def F4:R2:=λx y H Q=>∃l b xs zs,x=.ref l/\y=.ref b/\H l=some (.Z5 xs)/\H b=some (.Z5 zs)/\xs.length+zs.length<=sizeLine /\∀p,H p=none->Q (.ref p) (upd H p (.Z5 (xs++zs)))
def abu:OpR X (binaryOp .Add) F4:=by
 intro Y s O H x y v u Q I d c h;let⟨l,b,xs,zs,rfl,rfl,g,i,o,q⟩:=h;cases d;cases c;let⟨z,ZU,n,r,p,e⟩:=I.VC g;let⟨k,a,m,f,t,j⟩:=I.VC i;refine PySem.P.add_list e j ?_ (by rw[Xe,Xe];omega)
 have ea:ZU.toArray++a.toArray=(ZU++a).toArray:=by simp
 rw[ea];exact⟨.ref _,_,I.lnew (t':=s.toks) (r.append f) (by rw[XZ];omega),rfl,q _ I.fresh⟩
end
end L2
namespace Att
open PySem PySem.W PySem.Calls PyProof.Rows
def tP{P:Params}:∀(ns:List Int) (vs:List Value),WellAll P h vs (ns.map WData.int)->IntsAre vs ns:=by
 intro ns
 induction ns with
 |nil=>
  intro vs w;rw[OQ]at w;cases w;exact .nil
 |cons n ns ih=>
  intro vs w;rw[Xu]at w;cases w with
  |cons a b=>
   cases a;exact .cons _ _ (ih _ b)
def v5{l:OpenLaw}(z:l.most=some n){P:Params}{args:List WData}{c:List Value}
  (t:l.row.toRowW.claim.pre args=true) (j:WellAll P h c args) :
  ∃a vs ns,c=[Value.ref a]/\args=[WData.list (ns.map WData.int)]/\h.get? a=some {cls:=.type "list",data:=.seq vs.toArray}/\IntsAre vs ns/\ns.length<=n:=by
 have k:WShape.hasAll [] args [.list .int]=true:=(pre_splitW t).1;have o:l.pre.holds [] {args:=args}=true:=(pre_splitW t).2;let⟨d,r,rfl,h1,h2⟩:=hasAllW_cons k;obtain rfl:=hasAllW_nil h2;let⟨xs,rfl,A⟩:=hasW_list h1;let⟨ns,rfl⟩:=items_int A;have f:ns.length<=n:=by
  unfold OpenLaw.pre at o;have g:(WTm.not (.lt (.lit (.int (n:Int))) (.len (.arg 0)))).holds [] {args:=[.list (ns.map .int)]}=true:=by
   have g:=(holds_andW o).1;rw[z]at g;exact g
  have h5:=condW_of g (w_not (w_lt w_lit (w_len_list (w_arg rfl))));rw[Zg]at h5;refine Nat.le_of_not_lt λq=>?_;have y:(n:Int)<((ns.length:Nat):Int):=by omega
  first
   |(rw[Td y]at h5;exact absurd h5 #[1])
   |(simp at h5;omega)
 cases j with
 |cons w u=>
  cases u;cases w with
  |list ho B=>exact⟨_,_,ns,rfl,rfl,ho,tP ns _ B,f⟩
def vC(l:OpenLaw)(args:List WData):l.row.toRowW.claim.post args (.bool true) args=true:=
 postW_of (r:=l.row.toRowW) (X:=(true==true))
  (show WShape.has [] (.bool true) .bool=true by first|rfl|decide|simp[WShape.has,WShape.arms,WShape.armsAll])
  (show(WTm.eq .res (.lit (.bool true))).value [] {args:=args,res:=some (.bool true),after:=args}=some (.bool (true==true))from w_eq_bool (w_res rfl) w_lit) rfl
def attach_call{l:OpenLaw}{q:Program}{loose:List Str}{XP:(Str->Option Value)->Heap->Prop}{YP:World->Heap->Prop}{d:DefRec}
  (H:l.most=some n) (A:d.params.defaults=[])
  (call:∀ (w:World) (ZF ZE : Shared) (mg u:Str->Option Value) (k:Addr) (o:Obj) (pm t g:Value) (a:Addr) (vs:List Value) (ns:List Int),
   Ground q loose [] XP w ZF mg u ZE.heap->YP w ZE.heap ->
   ZE.heap.get? k=some o->o.data=.func (docDef d.name d.params d.body d.scope pm t g)->ZE.heap.CodeRec t d.name->mg d.name=some (.ref k) ->
   ZE.heap.get? a=some {cls:=.type "list",data:=.seq vs.toArray}->IntsAre vs ns->ns.length<=n->ZE.gens = #[] ->
   codeAny (model l.prog w) callerA (.call (.ref k) ⟨[.ref a],[]⟩) (λr s'=>r=.ok (.ret (.bool true))/\OldK ZE.heap s'.heap/\s'.os=ZE.os/\AllBare s'.gens) ZE) :
  WalkO q loose XP YP l.row.toRowW d [] (λf vs=>PySem.call f vs):=by
 intro w ZF ZE mg u G Z_ k o pm t g N HV ho K O D z J args B as P C E y R;obtain rfl:N=.none:=Dflts.none D A;obtain rfl:HV=.none:=Dflts.noKw D;let⟨a,vs,ns,rfl,rfl,Q,c,j⟩:=v5 H P y;refine enter_call (Qt (call w ZF ZE mg u k o pm t g a vs ns G Z_ ho (fd_plain K) O z Q c j J) λr s' F=>?_);let⟨rfl,h2,M,L⟩:=F;exact⟨.inl ⟨.bool true,.bool true,[],rfl,λ_=>rfl,.bool true,vC l _,λ_=>⟨List.Pairwise.nil,λ_ I=>(nomatch I)⟩⟩,h2,M,L⟩
end Att
namespace L2
open PySem PySem.Spec PyProof.Rows
def fK:∀{vs:List Value} {ns:List Int},IntsAre vs ns->ZH (ns.map V.int) vs
 |_,_,.nil=>.nil
 |_,_,.cons n t h=>.cons ⟨t,rfl⟩ (fK h)
def C8(H:Hp):Prop:=∀b,H b=none \/∃o xs,H b=some (.Zm o (.Z5 xs))
def wI{E:Str->Option Value}{k:Nat}{L:Addr}{x:Str}{sp:Sp}{ZE : Shared}{vs:List Value}
  (U:K.In ZE.heap) (T:ZE.heap.Ns mainGlobals mg) (c:ZE.heap.Ns builtinsNs E) (I:∀x:Str,x ≠ "__name__" -> E x=bootBuiltins x) (A:ZE.heap.NoLimit) (hg:ZE.gens = #[])
  (D:ZE.heap.get? a=some {cls:=.type "list",data:=.seq vs.toArray}) (hi:IntsAre vs ns) (N:ns.length<=sizeLine) (Z:Y8 k callerA)
  (F:∀base:Heap,K.In base->base.Ns mainGlobals mg->X0 P w K mg base CX k L fd [x] sp) (Rm:∀(s:Shared) (u:Value),BindsTo s fd ⟨[u],[]⟩ [(x,u)])
  (G:∀H:Hp,C8 H->SqL K H a (ns.map V.int)->sp [.ref a] H (λv _=>v=.bl true) λ_ _ _=>False)
  (J:∀H e s',CX [] H ZE (λ_ _ _=>False) e s'->False) :
  codeAny (model P w) callerA (.call (.ref L) ⟨[.ref a],[]⟩) (λr s'=>r=.ok (.ret (.bool true))/\OldK ZE.heap s'.heap/\s'.os=ZE.os/\AllBare s'.gens) ZE:=by
 have M:=fK hi;have t:=hi.length;have g:∀H:Hp,C8 H->SqL K H a (ns.map V.int)->HOk P w H ZE.heap->(∀b,H b≠none->b=a)->(H a≠none->K.lookup a=none) ->
   codeAny (model P w) callerA (.call (.ref L) ⟨[.ref a],[]⟩) (λr s'=>r=.ok (.ret (.bool true))/\OldK ZE.heap s'.heap/\s'.os=ZE.os/\AllBare s'.gens) ZE:=by
  intro H O hS S Q hK;have base_of:∀{b:Addr} {o:Obj},ZE.heap.get? b=some o->H b=none->(Bg ZE.heap H).get? b=some o:=λe n=>ya e n;have Ui:∀{b:Addr} {o:Obj} {es:Array DictEntry} {ep:Nat},ZE.heap.get? b=some o->o.data=.dict es ep->H b=none:=λ{b o es ep} e d=>by
   cases q:H b with
   |none=>rfl
   |some u=>
    have e':b=a:=Q b (by rw[q];simp)
    subst e';rw[D]at e;cases e;have d':Data.seq vs.toArray _=Data.dict es ep:=d;cases d'
  have f:∀{b:Addr} {m:Str->Option Value},ZE.heap.Ns b m->(Bg ZE.heap H).Ns b m:=λ{b m} ⟨o,es,ep,e,d,r⟩=>⟨o,es,ep,base_of e (Ui e d),d,r⟩
  have B:K.In (Bg ZE.heap H):=λb o e=>base_of (U b o e) (by
   cases q:H b with
   |none=>rfl
   |some u=>
    have e':b=a:=Q b (by rw[q];simp)
    subst e'
    rw[hK (by rw[q];simp)]at e;cases e)
  have hM:Mod K mg (Bg ZE.heap H):=⟨B,f T,⟨E,f c,I⟩,let⟨Y,h1,h2⟩:=A;⟨Y,f h1,h2⟩⟩
  have e0:VD P w K mg (Bg ZE.heap H) callerA [] ZE H:=⟨rfl,hM,λb o e=>zw e,Nat.le_of_eq (wx _ _),trivial,λb c=>absurd (show b∈([]:List Addr)from c) #[3],S,.of_eq hg⟩
  refine Qt ((F _ B (f T)).run callerA [] ZE H ⟨[.ref a],[]⟩ [.ref a] [.ref a] _ _ Z e0 (Rm ZE (.ref a)) (.cons rfl .nil) (G H O hS)) λr s' h=>?_;cases r with
  |error e=>exact(J H e s' h).elim
  |ok fl=>
   cases fl with
   |next=>exact False.elim h
   |brk=>exact False.elim h
   |cont=>exact False.elim h
   |ret u=>
    let⟨v,H',os,C,un,y,r',q⟩:=h;have X:v=.bl true:=q;subst X;obtain rfl:u=Value.bool true:=r';refine⟨rfl,OldK.of_keep λb o e=>?_,os,C⟩;cases q:H b with
    |none=>exact un.keep b o e q (by intro z;exact absurd (show b∈([]:List Addr)from z) #[3]) #[3]
    |some u=>
     rcases O b with z|⟨ob,xs,z⟩
     .rw [q]at z;cases z
     .have W:=un.XJ b ob _ z
      let⟨R,_⟩:=S b _ z;let⟨e2,_⟩:=y b _ W;rw[e]at R;cases R;exact e2
 cases hk:K.lookup a with
 |some o=>
  have e:=U a o hk;rw[D]at e;cases e;refine g (λ_=>none) (λ_=>.inl rfl) (.inr ⟨_,vs.toArray,_,hk,rfl,rfl,rfl,by rw[Xe,t];exact N,by simpa using M⟩) (λb u z=>by have j:(none:Option HO)=some u:=z;cases j) (λb z=>absurd rfl z) λz=>absurd rfl z
 |none=>
  refine g (λb=>if b=a then some (.Zm {cls:=.type "list",data:=.seq vs.toArray} (.Z5 (ns.map V.int)))else none) (λb=>?_) (.inl (.inr ⟨{cls:=.type "list",data:=.seq vs.toArray},YE rfl⟩)) (λb u z=>?_) (λb z=>?_) λ_=>hk
  .by_cases c:b=a
   .exact .inr ⟨_,_,YE c⟩
   .exact .inl (Yn c)
  .by_cases c:b=a
   .have j:=(YE c).symm.trans z
    cases j;subst c;exact⟨D,by rw[Zg];exact N,vs,_,M,D⟩
   .have j:=(Yn c).symm.trans z
    cases j
  .by_cases c:b=a
   .exact c
   .exact absurd (Yn c) z
end L2
namespace L2
open PySem PySem.Spec PyProof.Rows
def B6(s:Stmt):Arguments:=match s with
 |.FunctionDef _ a _ _ _ _ _ _ _ _=>a
 |_=>{posonlyargs:=[],args:=[],vararg:=none,kwonlyargs:=[],kw_defaults:=[],kwarg:=none,defaults:=[]}
def B5(s:Stmt):List Stmt:=match s with
 |.FunctionDef _ _ b _ _ _ _ _ _ _=>b
 |_=>[]
def AH(s:Stmt):Scope:=match s with
 |.FunctionDef _ _ _ _ _ _ sc _ _ _=>sc
 |_=>{kind:=.function,names:=[],isGenerator:=false,isCoroutine:=false}
abbrev VZ:Xs:=λ_ _ _ _ _ _=>False
abbrev E0:XK:=λ_ _ _=>False
def qC:A4 VZ X E0:=λ_ _ _ _ _ _ _ h=>h.elim
structure Fun(K:Hu)(x qual:Str)(st:Stmt)(f:Addr)(fd:FuncData):Prop where
 ex:∃(JT:Value) (od:Option Addr) (HV doc pm:Value) (an:Option Addr) (Zl ct:Value) (YK:Array (Option Value)),
  fd=PySem.W.fnOf x qual (B6 st) (B5 st) (AH st) .none HV doc pm an Zl ct/\K.lookup f=some ⟨JT,od,.func fd,YK⟩/\PySem.W.codeIn K Zl qual=true
 kp:PySem.W.keepIn K (.ref f)=true
def aY{A B:Prop}(h:B):if false=true then A else B:=by
 rw[Yn Hj];exact h
def aX{A B:Prop}(h:A):if true=true then A else B:=by
 rw[YE rfl];exact h
end L2
namespace L2
open PySem PySem.Spec PyProof.Rows
section
variable{κ:Type}[DecidableEq κ]
def AL(b:List (κ×V))(k:κ):Option V:=(b.find? λa=>decide (a.1=k)).map (·.2)
def putK(b:List (κ×V))(k:κ)(v:V):List (κ×V):=
 if(b.any λa=>decide (a.1=k))=true then b.map (λa=>if a.1=k then(a.1,v)else a)else b++[(k,v)]
def bP{p:κ×V}{r:List (κ×V)}{k:κ}(e:p.1=k):AL (p::r) k=some p.2:=by simp[AL,U5,e]
def bQ{p:κ×V}{r:List (κ×V)}{k:κ}(e : ¬ p.1=k):AL (p::r) k=AL r k:=by simp[AL,U5,e]
def jM(k:κ):∀Z4:List (κ×V),(Z4.any λa=>decide (a.1=k))=(AL Z4 k).isSome
 |[]=>rfl
 |p::r=>by
  rw[V8];by_cases e:p.1=k
  .simp only [bP e,Td e,Bool.true_or,Option.isSome_some]
  .rw [bQ e,VB e,Bool.false_or];exact jM k r
def fk(a:List (κ×V))(k:κ)(v:V):(putK a k v).length<=a.length+1:=by
 unfold putK;split
 .rw [Zg];lia
 .rw [XZ,WJ,Ta];lia
def RelO.Ue{o:Option V}{u:Option Value}(r:RelO o u):o.isSome=u.isSome:=by
 cases o with
 |none=>cases u with
  |none=>rfl
  |some _=>exact(show False from r).elim
 |some _=>cases u with
  |none=>exact(show False from r).elim
  |some _=>rfl
def KV.val{a:List (κ×V)}{vs:List (κ×Value)}(r:KV a vs)(k:κ):RelO (AL a k) (valueAt vs k):=by
 unfold KV at r
 induction r with
 |nil=>exact True.intro
 |@cons p q ps IX h t ih=>
  let⟨h1,h2⟩:=h;by_cases e:p.1=k
  .have e':q.1=k:=h1.symm.trans e
   have b:valueAt (q::IX) k=some q.2:=by simp[valueAt,U5,e']
   rw[bP e,b];exact h2
  .have e' : ¬ q.1=k:=λz=>e (h1.trans z)
   have b:valueAt (q::IX) k=valueAt IX k:=by simp[valueAt,U5,e']
   rw[bQ e,b];exact ih
def KV.any{b:List (κ×V)}{vs:List (κ×Value)}(r:KV b vs)(k:κ):(b.any λa=>decide (a.1=k))=vs.any λa=>decide (a.1=k):=by
 unfold KV at r
 induction r with
 |nil=>rfl
 |cons h t ih=>rw[V8,V8,ih,h.1]
def KV.WW{b:List (κ×V)}{vs:List (κ×Value)}(r:KV b vs)(k:κ){y:V}{u:Value}(c:RelV y u):
  KV (b.map λa=>if a.1=k then(a.1,y)else a) (vs.map λa=>if a.1=k then(a.1,u)else a):=by
 unfold KV at r ⊢
 induction r with
 |nil=>exact .nil
 |@cons p q ps IX h t ih=>
  rw[Xu,Xu];refine .cons ?_ ih;let⟨h1,h2⟩:=h;by_cases e:p.1=k
  .rw [YE e,YE (h1.symm.trans e)];exact⟨h1,c⟩
  .rw [Yn e,Yn (λz=>e (h1.trans z))];exact⟨h1,h2⟩
def KV.put{b:List (κ×V)}{vs:List (κ×Value)}(r:KV b vs)(k:κ){y:V}{u:Value}(a:RelV y u):KV (putK b k y) (stored vs k u):=by
 unfold putK stored;rw[r.any k];by_cases e:(vs.any λc=>decide (c.1=k))=true
 .rw [YE e,YE e];exact r.WW k a
 .rw [Yn e,Yn e];exact Paired.snoc r ⟨rfl,a⟩
def KV.length{a:List (κ×V)}{vs:List (κ×Value)}(r:KV a vs):a.length=vs.length:=QC r
end
def dj{k:Key}{u:Value}(r:RelV (HV k) u):(AB P w).is k u=true:=by
 cases k with
 |inl i=>let⟨t,e⟩:=(show∃t,u=Value.int i t from r);subst e;exact uB P w i t
 |inr x=>let⟨t,e⟩:=(show∃t,u=Value.str x t from r);subst e;exact uo P w x t
def jg{P:Program}{w:World}:∀{ks:List Key} {S:List Value},ZH (ks.map HV) S->ItemsAre (AB P w) ks S
 |[],_,r=>by rw[OQ]at r;cases r;exact .nil
 |k::ks,_,r=>by
  rw[Xu]at r;cases r with
  |cons h t=>exact .cons (dj h) (jg t)
abbrev KT(H:Hp):List (List Key×V)->List (List Key×Addr×Value)->Prop:=Paired λp q=>p.1=q.1/\H q.2.1=some (.ZY (p.1.map HV))/\RelV p.2 q.2.2
def KT.val{xs:List (List Key×Addr×Value)}(r:KT H Z4 xs)(k:List Key):RelO (AL Z4 k) ((atKey xs k).map (·.2)):=by
 induction r with
 |nil=>exact True.intro
 |@cons p q ps IX h t ih=>
  let⟨h1,_,h2⟩:=h;by_cases e:p.1=k
  .have e':q.1=k:=h1.symm.trans e
   have b:atKey (q::IX) k=some q.2:=by simp[atKey,U5,e']
   rw[bP e,b];exact h2
  .have e' : ¬ q.1=k:=λz=>e (h1.trans z)
   have b:atKey (q::IX) k=atKey IX k:=by simp[atKey,U5,e']
   rw[bQ e,b];exact ih
def KT.WW{xs:List (List Key×Addr×Value)}(r:KT H Z4 xs)(k:List Key){y:V}{u:Value}(b:RelV y u):
  KT H (Z4.map λa=>if a.1=k then(a.1,y)else a) (xs.map (putAt k u)):=by
 induction r with
 |nil=>exact .nil
 |@cons p q ps IX h t ih=>
  rw[Xu,Xu];refine .cons ?_ ih;let⟨h1,h2,c⟩:=h;unfold putAt;by_cases e:p.1=k
  .rw [YE e,YE (h1.symm.trans e)];exact⟨h1,h2,b⟩
  .rw [Yn e,Yn (λz=>e (h1.trans z))];exact⟨h1,h2,c⟩
def KT.put{xs:List (List Key×Addr×Value)}(r:KT H Z4 xs)(k:List Key){b:Addr}{y:V}{u:Value}(d:H b=some (.ZY (k.map HV)))(a:RelV y u):
  KT H (putK Z4 k y) (storedH xs k b u):=by
 have e:(Z4.any λc=>decide (c.1=k))=(atKey xs k).isSome:=by
  rw[jM,(r.val k).Ue,Pm]
 unfold putK storedH;rw[e];by_cases q:(atKey xs k).isSome=true
 .rw [YE q,YE q];exact r.WW k a
 .rw [Yn q,Yn q];exact Paired.snoc r ⟨rfl,d,a⟩
def KT.keeps{xs:List (List Key×Addr×Value)}(r:KT H Z4 xs)(a:∀b ys,H b=some (.ZY ys)->H' b=some (.ZY ys)):KT H' Z4 xs:=
 Paired.SR r λ_ _ z=>⟨z.1,a _ _ z.2.1,z.2.2⟩
section
def rl{u:HO}(ok:HOk P w H h)(e:Rd H a u):ObjOk P w H h a u:=e.ok ok
def dk{b:List (Key×V)}(c:HOk P w H h)(e:Rd H a (.dK b)):b.length<=sizeLine/\(a==sysModules)=false /\∃vs,KV b vs/\h.DictOf (AB P w) a vs:=
 show ObjOk P w H h a (.dK b)from rl c e
def acV{b:List (Key×V)}(c:HOk P w H h)(e:H a=some (.dK b)):b.length<=sizeLine/\(a==sysModules)=false /\∃vs,KV b vs/\h.DictOf (AB P w) a vs:=dk c (.inl e)
def bI{ks:List Key}(b:HOk P w H h)(e:H a=some (.ZY (ks.map HV))):(tupleKind (AB P w)).is h ks a:=by
 let⟨_,ZU,r,o,h1,h2,n,c⟩:=(show ObjOk P w H h a (.ZY (ks.map HV))from b a _ e);exact⟨o,ZU.toArray,n,h1,h2,c,by simpa using jg r⟩
def di(c:HOk P w H h)(e:Rd H a (.dT Z4)):Z4.length<=sizeLine/\(a==sysModules)=false /\
  ∃xs,KT H Z4 xs/\h.DictOfH (tupleKind (AB P w)) a xs:=by
 let⟨z,y,xs,r,o,es,ep,h1,h2,i,g,f⟩:=(show ObjOk P w H h a (.dT Z4)from rl c e);refine⟨z,y,xs,r,o,es,ep,h1,h2,i,g,λx b=>?_,f⟩;have all:∀{l:List (List Key×V)} {m:List (List Key×Addr×Value)},KT H l m ->∀x∈m,(tupleKind (AB P w)).is h x.1 x.2.1:=by
  intro l m q
  induction q with
  |nil=>intro x b;exact nomatch b
  |@cons p q ps IX d t ih=>
   intro x b;rcases X8.mp b with e|b
   .subst e
    exact bI c (by rw[<-d.1];exact d.2.1)
   .exact ih x b
 exact all r x b
def hZ(b:HOk P w H h)(e:H a=some (.dT Z4)):Z4.length<=sizeLine/\(a==sysModules)=false /\
  ∃xs,KT H Z4 xs/\h.DictOfH (tupleKind (AB P w)) a xs:=di b (.inl e)
end
def DGet(H:Hp)(a:Addr)(y:V)(r:Option V):Prop:=
 (∃Z4 k,Rd H a (.dK Z4)/\y=HV k/\r=AL Z4 k) \/∃Z4 k b,Rd H a (.dT Z4)/\y=.ref b/\H b=some (.ZY (k.map HV))/\r=AL Z4 k
def DPut(H:Hp)(a:Addr)(y v:V)(c:Hp):Prop:=
 (∃Z4 k,H a=some (.dK Z4)/\y=HV k/\Z4.length<sizeLine/\c=upd H a (.dK (putK Z4 k v))) \/
 ∃Z4 k b,H a=some (.dT Z4)/\y=.ref b/\H b=some (.ZY (k.map HV))/\Z4.length<sizeLine/\c=upd H a (.dT (putK Z4 k v))
def DGet.k{H:Hp}{a:Addr}{b:List (Key×V)}{k:Key}(e:H a=some (.dK b)):DGet H a (HV k) (AL b k):=.inl ⟨b,k,.inl e,rfl,rfl⟩
def DPut.k{H:Hp}{a:Addr}{b:List (Key×V)}{k:Key}{v:V}(e:H a=some (.dK b))(c:b.length<sizeLine):DPut H a (HV k) v (upd H a (.dK (putK b k v))):=.inl ⟨b,k,e,rfl,c,rfl⟩
def DPut.t{b:Addr}{k:List Key}(e:H a=some (.dT Z4))(d:H b=some (.ZY (k.map HV)))(c:Z4.length<sizeLine):
  DPut H a (.ref b) v (upd H a (.dT (putK Z4 k v))):=.inr ⟨Z4,k,b,e,rfl,d,c,rfl⟩
section
variable{O:St}{y:V}{u r:Value}{o:Option V}{E:Value->Shared->Prop}
def Z0.Wl(I:Z0 X Y O H s):sysModules<s.heap.objs.size:=by
 have h:mainGlobals<s.heap.objs.size:=(I.mod.glob.keeps I.bk).lt;exact Pn #[1] h
def vU{Q:Value->Shared->Prop}(q:A.units+1<cLine)(I:Z0 X Y O H s)(g:DGet H a y (some v))(m:RelV y u)(h:∀d s',Z0 X Y O H s'->RelV v d->Q d s'):
  wpAny (model X.prog X.w) A (getItem (.ref a) u) Q E s:=by
 rcases g with⟨Z4,k,e,i,l⟩|⟨Z4,k,b,e,i,x,l⟩
 .subst i
  let⟨z,t,n,c,dd⟩:=dk I.ZK e;let⟨d,f,j⟩:=RelO.some_of (v:=v) (o:=valueAt n k) (by rw[l];exact c.val k)
  exact wpAny_getItem_of (dj m) dd.mapOf f (h d _ (I.tok _) j)
 .subst i
  cases(show u=Value.ref b from m);let⟨z,t,xs,c,dd⟩:=di I.ZK e;let⟨d,f,j⟩:=RelO.some_of (v:=v) (o:=(atKey xs k).map (·.2)) (by rw[l];exact c.val k)
  let⟨p,r,B⟩:=XB.mp f;refine wpAny_getItem_heap (Qv q) (bI I.ZK x) dd r ?_;rw[B];exact h d _ (I.tok _) j
def d_in{Q:Value->Shared->Prop}(j:A.units+1<cLine)(I:Z0 X Y O H s)(g:DGet H a y o)(i:RelV y u)(h:∀s',Z0 X Y O H s'->Q (.bool o.isSome) s'):
  wpAny (model X.prog X.w) A (compareOp .In u (.ref a)) Q E s:=by
 rcases g with⟨Z4,k,e,f,l⟩|⟨Z4,k,b,e,f,m,l⟩
 .subst f
  let⟨z,d,n,c,dd⟩:=dk I.ZK e;refine wpAny_in_of (dj i) d dd.mapOf ?_;rw[<-(c.val k).Ue,<-l];exact h _ (I.tok _)
 .subst f
  cases(show u=Value.ref b from i);let⟨z,d,xs,c,dd⟩:=di I.ZK e;refine wpAny_in_heap (Qv j) (bI I.ZK m) d dd ?_;have q:=(c.val k).Ue;rw[Pm]at q;rw[<-q,<-l];exact h _ (I.tok _)
def yR{Q:Value->Shared->Prop}(j:A.units+1<cLine)(I:Z0 X Y O H s)(g:DGet H a y o)(i:RelV y u)(h:∀s',Z0 X Y O H s'->Q (.bool (!o.isSome)) s'):
  wpAny (model X.prog X.w) A (compareOp .NotIn u (.ref a)) Q E s:=by
 rcases g with⟨Z4,k,e,f,l⟩|⟨Z4,k,b,e,f,m,l⟩
 .subst f
  let⟨z,d,n,c,dd⟩:=dk I.ZK e;refine wpAny_notIn_of (dj i) d dd.mapOf ?_;rw[<-(c.val k).Ue,<-l];exact h _ (I.tok _)
 .subst f
  cases(show u=Value.ref b from i);let⟨z,d,xs,c,dd⟩:=di I.ZK e;refine wpAny_notIn_heap (Qv j) (bI I.ZK m) d dd ?_;have q:=(c.val k).Ue;rw[Pm]at q;rw[<-q,<-l];exact h _ (I.tok _)
def eA{c:HO}(I:Z0 X Y O H s)(f:Mut (H a))(g:Heap.SameBut a s.heap h')(h:∃q,h'.get? a=some q)(d:ObjOk X.prog X.w (upd H a c) h' a c):
  Z0 X Y O (upd H a c) {s with heap:=h',toks:=t'}:=
 I.write (x:=a) (e:=a) f (.inl rfl) (λb q i z=>(g.2 b i).trans z) h d
def aaB{c:List (Key×V)}{vs:List (Key×Value)}(z:c.length<=sizeLine)(d:(a==sysModules)=false)(b:KV c vs)(dd:h'.DictOf (AB P w) a vs):
  ObjOk P w H' h' a (.dK c):=⟨z,d,vs,b,dd⟩
def vN{Q:Unit->Shared->Prop}(F:A.units+1<cLine)(I:Z0 X Y O H s)(g:DPut H a y v H')(t:RelV y u)(x:RelV v r)(h:∀s',Z0 X Y O H' s'->Q Unit.unit s'):
  wpAny (model X.prog X.w) A (setItem (.ref a) u r) Q E s:=by
 rcases g with⟨Z4,k,e,o,l,p⟩|⟨Z4,k,b,e,o,C,l,p⟩
 .subst o p
  let⟨z,n,D,d,dd⟩:=acV I.ZK e;have j:D.length<=sizeLine:=by rw[<-d.length];exact z
  have m:(putK Z4 k v).length<=sizeLine:=by have:=fk Z4 k v;lia
  refine wpAny_setItem_pairs (hsz:=j) (dj t) dd λh' i hs=>h _ ?_;have G:∃q,h'.get? a=some q:=let⟨q,_,_,f,_⟩:=i;⟨q,f⟩
  exact eA I (by rw[e];exact True.intro) hs G (aaB m n (d.put k x) i)
 .subst o p
  cases(show u=Value.ref b from t);let⟨z,n,xs,d,dd⟩:=hZ I.ZK e;have j:xs.length<=sizeLine:=by rw[<-QC d];exact z
  have m:(putK Z4 k v).length<=sizeLine:=by have:=fk Z4 k v;lia
  refine wpAny_setItem_heap (hsz:=j) (Qv F) (bI I.ZK C) dd λh' i hs=>h _ ?_;let⟨q,es,ep,f,h2,L,K,_,J⟩:=i;refine eA I (by rw[e];exact True.intro) hs ⟨q,f⟩ ⟨m,n,_,(d.put k C x).keeps λc ys B=>?_,q,es,ep,f,h2,L,K,J⟩
  rw[aa (cf B e (λz=>nomatch z))];exact B
end
end L2
namespace L2
open PySem PySem.Spec PyProof.Rows
def kz(h:Heap)(a:sysModules<h.objs.size):ObjOk P w H (h.push {cls:=.type "dict",data:=.dict #[]}) h.objs.size (.dT []):=
 ⟨QN _,P6.mpr (Ne.symm (Hn a)),[],.nil,_,#[],0,Ho _ rfl,⟨rfl,rfl,rfl⟩,rfl,rfl,List.nodup_nil⟩
def GI:TE:=λ_ H Q=>∀p,H p=none->Q (.ref p) (upd H p (.dT []))
section
def xp:PE X (.Dict [] [] pos) GI:=λY s O H Q I h=>
 wpAny_Dict_empty ⟨.ref s.heap.objs.size,_,I.laid (a:=s.heap.objs.size) (o:=.dT []) (t':=s.toks) (λ_ _ q=>Hg _ q) (Hk _) (kz s.heap I.Wl),rfl,h _ (I.ZK.fresh (Hk _))⟩
end
structure M1(X:Cx)(o:Expr)(m:Str)(apos:Pos)(e:Expr)(Zq:Pos):Prop where
 base:attributeBase o m X.env (eval o X.env)=eval o X.env
 few:((backTo Zq (starEach [e] X.env)).all (λx => !x.1) && (backToKw Zq (keywordEach [] X.env)).all (λx=>x.1.isSome)
  && decide (([e]:List Expr).length+([]:List Keyword).length+(if([]:List Keyword).isEmpty then 0 else 1)<30))=true
 line:(apos.endLine==Zq.line)=true
 trees:backTo Zq (starEach [e] X.env)=[(false,eval e X.env)]
structure M2(X:Cx)(o:Expr)(m:Str)(apos:Pos)(e f:Expr)(Zq:Pos):Prop where
 base:attributeBase o m X.env (eval o X.env)=eval o X.env
 few:((backTo Zq (starEach [e,f] X.env)).all (λx => !x.1) && (backToKw Zq (keywordEach [] X.env)).all (λx=>x.1.isSome)
  && decide (([e,f]:List Expr).length+([]:List Keyword).length+(if([]:List Keyword).isEmpty then 0 else 1)<30))=true
 line:(apos.endLine==Zq.line)=true
 trees:backTo Zq (starEach [e,f] X.env)=[(false,eval e X.env),(false,eval f X.env)]
end L2
namespace PI
noncomputable section
open PySem
def IC(M:Nat)(p:SetTable.Probe):SetTable.Probe:=
 if p.more > 0 then{p with j:=p.j+1,more:=p.more-1}else
 let(i,perturb):=SetTable.leap M p.i p.perturb
 {p with j:=i,more:=SetTable.runEnd M i-i,i,perturb}
def Ao(M:Nat):Nat->SetTable.Probe->SetTable.Probe
 |0,p=>p
 |n+1,p=>Ao M n (IC M p)
def ID(M:Nat)(h:Int):SetTable.Probe:=
 let i:=SetTable.bits h % (M+1)
 {j:=i,more:=SetTable.runEnd M i-i,i,perturb:=SetTable.bits h,dummy:=none}
def IE(M:Nat)(h:Int)(n:Nat):Nat:=(Ao M n (ID M h)).j
def dU(M:Nat):∀(a b:Nat) (p:SetTable.Probe),Ao M (a+b) p=Ao M b (Ao M a p)
 |0,b,p=>by rw[R5];rfl
 |a+1,b,p=>by rw[Nat.succ_add];exact dU M a b _
def vk(M n:Nat)(p:SetTable.Probe):Ao M (n+1) p=IC M (Ao M n p):=dU M n 1 p
def vz(M:Nat)(p:SetTable.Probe):(IC M p).dummy=p.dummy:=by unfold IC;split<;>rfl
def iR(M:Nat):∀(n:Nat) (p:SetTable.Probe),(Ao M n p).dummy=p.dummy
 |0,_=>rfl
 |n+1,p=>(iR M n _).trans (vz M p)
def fW(M:Nat):∀(n:Nat) (p:SetTable.Probe),n<=p.more->Ao M n p={p with j:=p.j+n,more:=p.more-n}
 |0,p,_=>rfl
 |n+1,p,h=>by
  have e:IC M p={p with j:=p.j+1,more:=p.more-1}:=by unfold IC;rw[YE (by lia)]
  show Ao M n (IC M p)=_;rw[e,fW M n _ (by show n<=p.more-1;omega)]
  show SetTable.Probe.mk .. = SetTable.Probe.mk ..;congr 1
  .show p.j+1+n=p.j+(n+1);lia
  .show p.more-1-n=p.more-(n+1);lia
def head(M i q:Nat):SetTable.Probe:={j:=i,more:=SetTable.runEnd M i-i,i,perturb:=q,dummy:=none}
def jY(M i q:Nat):Ao M (SetTable.runEnd M i-i+1) (head M i q)=head M ((i*5+1+q / 32) % (M+1)) (q / 32):=by
 rw[vk,fW M (SetTable.runEnd M i-i) (head M i q) (Hk _)];unfold IC;rw[Yn (by show ¬ (SetTable.runEnd M i-i-(SetTable.runEnd M i-i)) > 0;lia)]
 rfl
def abl(M i:Nat):SetTable.runEnd M i-i<=9:=by unfold SetTable.runEnd;split<;>lia
def IF(M:Nat):Nat->Nat×Nat->Nat×Nat
 |0,x=>x
 |k+1,x=>IF M k ((x.1*5+1+x.2 / 32) % (M+1),x.2 / 32)
def eO(M:Nat):∀(a b:Nat) (x:Nat×Nat),IF M (a+b) x=IF M b (IF M a x)
 |0,b,x=>by rw[R5];rfl
 |a+1,b,x=>by rw[Nat.succ_add];exact eO M a b _
def jX(M:Nat):∀(k:Nat) (i q:Nat),∃n,n<=10*k/\Ao M n (head M i q)=head M (IF M k (i,q)).1 (IF M k (i,q)).2
 |0,i,q=>⟨0,Hk _,rfl⟩
 |k+1,i,q=>by
  let⟨n,a,e⟩:=jX M k ((i*5+1+q / 32) % (M+1)) (q / 32);refine⟨(SetTable.runEnd M i-i+1)+n,by have:=abl M i;lia,?_⟩
  rw[dU,jY,e];rfl
def gY(M:Nat):∀(k:Nat) (x:Nat×Nat),(IF M k x).2=x.2 / 32 ^ k
 |0,x=>by rw[Nat.pow_zero,Nat.div_one];rfl
 |k+1,x=>by
  show(IF M k _).2=_;rw[gY M k,Nat.div_div_eq_div_mul,Nat.pow_succ,Nat.mul_comm (32 ^ k)]
def IG(M:Nat)(k:Nat):Nat:=(IF M k (0,0)).1
def kN(M:Nat)(k i:Nat):IF M k (i,0)=((IF M k (i,0)).1,0):=by
 have:=gY M k (i,0);rw[Nat.zero_div]at this;exact Na rfl this
def Cm(M:Nat):Nat->Nat->List Nat
 |0,_=>[]
 |n+1,i=>i::Cm M n ((i*5+1) % (M+1))
def IH(M:Nat):Bool:=(List.range (M+1)).all λj=>(Cm M (M+1) 0).contains j
def Mok(M:Nat):Prop:=M=7\/M=31\/M=127\/M=511
def kA(M:Nat):∀(n i k:Nat),k<n->(Cm M n i)[k]?=some (IF M k (i,0)).1
 |0,_,_,h=>by lia
 |n+1,i,0,_=>rfl
 |n+1,i,k+1,h=>by
  show(Cm M n _)[k]?=_;rw[kA M n _ k (by lia)]
  show _=some (IF M k ((i*5+1+0 / 32) % (M+1),0 / 32)).1;rw[Nat.zero_div,Nat.add_zero]
def kf(M:Nat):∀(n i:Nat),(Cm M n i).length=n
 |0,_=>rfl
 |n+1,i=>Rz (· + 1) (kf M n _)
def oB(h:Mok M):IH M=true/\IG M (M+1)=0:=by
 rcases h with rfl|rfl|rfl|rfl<;>decide +kernel
def ml(h:Mok M)(b:j<=M):∃k,k<=M/\IG M k=j:=by
 have h1:=(oB h).1;unfold IH at h1;rw[WY]at h1;have h2:=h1 j (So.mpr (by lia))
 rw[Ur]at h2;let⟨k,hk,e⟩:=Q2 h2;have a:k<M+1:=by rw[kf]at hk;exact hk
 refine⟨k,by lia,?_⟩
 have:=kA M (M+1) 0 k a;rw[YJ hk,e]at this;exact(WV this).symm
def yq(h:Mok M)(k:Nat):IG M (M+1+k)=IG M k:=by
 unfold IG;rw[eO,kN M (M+1) 0];rw[show(IF M (M+1) (0,0)).1=0 from(oB h).2]
def zB(h:Mok M)(hi:i<=M)(e:j<=M):∃k,k<=M/\(IF M k (i,0)).1=j:=by
 let⟨a,g,ea⟩:=ml h hi;let⟨b,f,d⟩:=ml h e;have c:∀k,(IF M k (i,0)).1=IG M (a+k):=λk=>by
  unfold IG;rw[eO,kN M a 0];rw[show(IF M a (0,0)).1=i from ea]
 by_cases l:a<=b
 .exact ⟨b-a,by lia,by rw[c,show a+(b-a)=b by lia];exact d⟩
 .exact ⟨M+1+b-a,by omega,by rw[c,show a+(M+1+b-a)=M+1+b by lia,yq h];exact d⟩
def aaa(h:Int):SetTable.bits h<2 ^ 64:=by
 unfold SetTable.bits;have h1:0<=h % (2 ^ 64:Int):=P1 _ #[1]
 have h2:h % (2 ^ 64:Int)<2 ^ 64:=Pd _ #[1]
 lia
def qQ(M:Nat):∀(k:Nat) (x:Nat×Nat),x.1<=M->(IF M k x).1<=M
 |0,x,h=>h
 |k+1,x,_=>qQ M k _ (Ot (OR _ (by lia)))
def i4(c:Mok M)(h:Int)(a:j<=M):∃k,k<=M+13/\(IF M k (SetTable.bits h % (M+1),SetTable.bits h)).1=j:=by
 have d:(IF M 13 (SetTable.bits h % (M+1),SetTable.bits h)).2=0:=by
  rw[gY];exact Nat.div_eq_of_lt (Pn (aaa h) #[1])
 have h1:(IF M 13 (SetTable.bits h % (M+1),SetTable.bits h)).1<=M:=qQ M 13 _ (Ot (OR _ (by lia)))
 let⟨k,hk,e⟩:=zB c h1 a;refine⟨13+k,by lia,?_⟩
 rw[eO];have:IF M 13 (SetTable.bits h % (M+1),SetTable.bits h)=((IF M 13 (SetTable.bits h % (M+1),SetTable.bits h)).1,0):=Na rfl d;rw[this];exact e
def xA(b:Mok M)(h:Int)(a:j<=M):∃n,n<10*SetTable.turns M/\IE M h n=j:=by
 let⟨k,hk,e⟩:=i4 b h a;let⟨n,d,c⟩:=jX M k (SetTable.bits h % (M+1)) (SetTable.bits h);refine⟨n,by unfold SetTable.turns;lia,?_⟩
 unfold IE;rw[show ID M h=head M (SetTable.bits h % (M+1)) (SetTable.bits h)from rfl,c];exact e
def abH(p:SetTable.Probe)(h:p.j+p.more<=M):(IC M p).j+(IC M p).more<=M:=by
 unfold IC;split
 .show p.j+1+(p.more-1)<=M;lia
 .show (p.i*5+1+p.perturb / 32) % (M+1)+(SetTable.runEnd M ((p.i*5+1+p.perturb / 32) % (M+1))-(p.i*5+1+p.perturb / 32) % (M+1))<=M
  have:(p.i*5+1+p.perturb / 32) % (M+1)<M+1:=OR _ (by lia)
  unfold SetTable.runEnd;split<;>lia
def k6{M:Nat}:∀(n:Nat) (p:SetTable.Probe),p.j+p.more<=M->(Ao M n p).j<=M
 |0,p,h=>by show p.j<=M;lia
 |n+1,p,h=>k6 n _ (abH p h)
def eZ(M:Nat)(h:Int)(n:Nat):IE M h n<=M:=by
 refine k6 n _ ?_;show SetTable.bits h % (M+1)+(SetTable.runEnd M (SetTable.bits h % (M+1))-SetTable.bits h % (M+1))<=M;have:SetTable.bits h % (M+1)<M+1:=OR _ (by lia)
 unfold SetTable.runEnd;split<;>lia
def xw{P:Nat->Prop}:∀(n:Nat),P n ->∃N,N<=n/\P N /\∀m,m<N -> ¬ P m:=λn=>by
 induction n using Nat.strongRecOn with
 |_ n ih=>
  intro h;by_cases d:∃m,m<n/\P m
  .obtain ⟨m,h1,h2⟩:=d
   let⟨N,a,b,c⟩:=ih m h1 h2;exact⟨N,by lia,b,c⟩
  .exact ⟨n,Hk _,h,λm h1 h2=>d ⟨m,h1,h2⟩⟩
def fR(xs:Array Nat)(j:Nat)(d:∀(a b x y:Nat),a<b->xs[a]?=some x->xs[b]?=some y->x<y):∀(fu lo hi:Nat),hi-lo<=fu->lo<=hi->hi<=xs.size ->
  (∀i x,i<lo->xs[i]?=some x->x<j)->(∀i x,hi<=i->xs[i]?=some x->j<=x) ->
  (∀i x,i<SetTable.below.go xs j fu lo hi->xs[i]?=some x->x<j)/\(∀i x,SetTable.below.go xs j fu lo hi<=i->xs[i]?=some x->j<=x)/\SetTable.below.go xs j fu lo hi<=xs.size
 |0,lo,hi,h,h',hs,h1,h2=>⟨h1,λi x YI e=>h2 i x (by have:lo<=i:=YI;lia) e,by show lo<=_;lia⟩
 |fu+1,lo,hi,h,h',hs,h1,h2=>by
  unfold SetTable.below.go;split
  .rename_i k
   dsimp only;have f:(lo+hi) / 2<xs.size:=by lia
   have ex:xs[(lo+hi) / 2]?=some xs[(lo+hi) / 2]:=WB f;have g:xs.getD ((lo+hi) / 2) j=xs[(lo+hi) / 2]:=by unfold Array.getD;rw[dif_pos f];rfl
   rw[g];by_cases c:xs[(lo+hi) / 2]<j
   .rw [YE c]
    refine fR xs j d fu ((lo+hi) / 2+1) hi () (by lia) hs (λi x YI e=>?_) h2
    by_cases q:i=(lo+hi) / 2
    .subst q;rw[ex]at e;cases e;exact c
    .exact Pn (d i _ x _ (by lia) e ex) c
   .rw [Yn c]
    refine fR xs j d fu lo ((lo+hi) / 2) () (by lia) (by lia) h1 λi x YI e=>?_
    by_cases q:i=(lo+hi) / 2
    .subst q;rw[ex]at e;cases e;lia
    .have:=d _ i _ x (by lia) ex e;lia
  .rename_i k
   exact⟨h1,λi x YI e=>h2 i x (by lia) e,by lia⟩
abbrev Z3:=List (Nat×Int×Value)
structure Tb(t:SetTable)(es:Array (Int×Value))(Z:Z3):Prop where
 hp:t.place=(Z.map (·.1)).toArray
 he:es=(Z.map (·.2)).toArray
 hd:t.dummies = #[]
 hs:Z.Pairwise λa b=>a.1<b.1
 hl:∀z∈Z,z.1<=t.mask
 hM:Mok t.mask
 hn:Z.length<=t.mask
 met:∀z∈Z,∃n,IE t.mask z.2.1 n=z.1 /\∀m,m<n ->∃y∈Z,y.1=IE t.mask z.2.1 m
section
variable{t:SetTable}{es:Array (Int×Value)}{Z:Z3}
def Tb.get(T:Tb t es Z){x:Nat}:t.place[i]?=some x ↔ ∃z,Z[i]?=some z/\z.1=x:=by
 rw[T.hp];simp[Wi]
def Tb.lt(T:Tb t es Z)(a b x y:Nat)(h:a<b)(f:t.place[a]?=some x)(e:t.place[b]?=some y):x<y:=by
 let⟨z,h1,rfl⟩:=T.get.mp f;let⟨u,h2,rfl⟩:=T.get.mp e;let⟨d,rfl⟩:=Ye.mp h1;let⟨c,rfl⟩:=Ye.mp h2;exact Ry.mp T.hs a b d c h
def Tb.below(T:Tb t es Z)(j:Nat):(∀i x,i<SetTable.below t.place j->t.place[i]?=some x->x<j)/\(∀i x,SetTable.below t.place j<=i->t.place[i]?=some x->j<=x)/\SetTable.below t.place j<=t.place.size:=
 fR t.place j T.lt t.place.size 0 t.place.size (by lia) (QN _) (Hk _) (λi x h _=>by omega) (λi x h e=>by
  have:=(Vr.mp e).1;lia)
def Tb.live(T:Tb t es Z){i:Nat}{z:Nat×Int×Value}(h:Z[i]?=some z):t.slot z.1=.live i:=by
 let⟨d,c,f⟩:=T.below z.1;have e:t.place[i]?=some z.1:=T.get.mpr ⟨z,h,rfl⟩;have hi:SetTable.below t.place z.1=i:=by
  rcases Nat.lt_trichotomy (SetTable.below t.place z.1) i with q|q|q
  .have hs:SetTable.below t.place z.1<t.place.size:=Pn q (Vr.mp e).1
   have a:t.place[SetTable.below t.place z.1]?=some t.place[SetTable.below t.place z.1]:=WB hs;have h1:=c _ _ (Hk _) a;have h2:=T.lt _ _ _ _ q a e;lia
  .exact q
  .have:=d i _ q e;lia
 unfold SetTable.slot;dsimp only;rw[hi,e,YE #[3]]
def Tb.empty(T:Tb t es Z){j:Nat}(h:∀z∈Z,z.1≠j):t.slot j=.empty:=by
 unfold SetTable.slot;dsimp only;rw[Yn,Yn]
 .rw [T.hd];unfold SetTable.has;simp
 .intro e
  have e:t.place[SetTable.below t.place j]?=some j:=by simpa using e
  let⟨z,h1,h2⟩:=T.get.mp e;exact h z (Vw h1) h2
def Tb.slots(T:Tb t es Z)(j:Nat):(∃i z,Z[i]?=some z/\z.1=j/\t.slot j=.live i)\/((∀z∈Z,z.1≠j)/\t.slot j=.empty):=by
 by_cases h:∃z∈Z,z.1=j
 .obtain ⟨z,a,rfl⟩:=h
  let⟨i,e⟩:=QP a;exact .inl ⟨i,z,e,rfl,T.live e⟩
 .have h':∀z∈Z,z.1≠j:=λz a e=>h ⟨z,a,e⟩
  exact .inr ⟨h',T.empty h'⟩
def Tb.Rl(T:Tb t es Z):∃j,j<=t.mask /\∀z∈Z,z.1≠j:=by
 refine Hq λc=>?_;have h1:List.range (t.mask+1) ⊆ Z.map (·.1):=λj a=>by
  have a:=So.mp a;refine Hq λhn=>c ⟨j,by lia,λz b e=>hn (WA.mpr ⟨z,b,e⟩)⟩
 have h2:=PF (OF) h1;rw[Po,Zg]at h2;have:=T.hn;lia
def Tb.hash(T:Tb t es Z)(h:Z[i]?=some z):es[i]?=some z.2:=by
 rw[T.he];simp[h]
noncomputable def Xr(a:Array (Int×Value))(i:Nat):Int:=(a[i]?.map (·.1)).getD 0
def Tb.Xr(T:Tb t es Z){i:Nat}{z:Nat×Int×Value}(h:Z[i]?=some z):Xr es i=z.2.1:=by
 unfold PI.Xr;rw[T.hash h];rfl
def iT{f:Nat->Int}{h:Int}:∀(n fu:Nat) (p:SetTable.Probe),(∀m,m<n ->∃i,t.slot (Ao t.mask m p).j=.live i/\f i≠h) ->
  SetTable.probe.go t f h (fu+n) p=SetTable.probe.go t f h fu (Ao t.mask n p)
 |0,fu,p,_=>rfl
 |n+1,fu,p,H=>by
  let⟨i,e,hi⟩:=H 0 (Nat.succ_pos _);have e:t.slot p.j=.live i:=e;show SetTable.probe.go t f h ((fu+n)+1) p=_;rw[SetTable.probe.go,e];dsimp only;rw[Yn (by simpa using hi)]
  exact iT n fu (IC t.mask p) λm a=>H (m+1) (by lia)
def Tb.probe(T:Tb t es Z)(h:Int):
  (∃i z j nx,Z[i]?=some z/\z.2.1=h/\z.1=j/\t.probe (PI.Xr es) h (t.probeStart h)=some (.candidate j i nx)) \/
  ((∀z∈Z,z.2.1≠h) /\∃N,t.probe (PI.Xr es) h (t.probeStart h)=some (.empty (IE t.mask h N) none)/\(∀z∈Z,z.1≠IE t.mask h N)/\IE t.mask h N<=t.mask /\∀m,m<N ->∃y∈Z,y.1=IE t.mask h m):=by
 let⟨H,k,l⟩:=T.Rl;let⟨u,J,F⟩:=xA T.hM h k
 let P:Nat->Prop:=λn=>∀i,t.slot (IE t.mask h n)=.live i->PI.Xr es i=h
 have o:P u:=λi e=>by
  rw[F,T.empty l]at e;cases e
 let⟨N,I,B,A⟩:=xw u o;have skip:∀m,m<N ->∃i,t.slot (Ao t.mask m (t.probeStart h)).j=.live i/\PI.Xr es i≠h:=λm g=>by
  have:=A m g;refine Hq λD=>this λi e=>Hq λG=>D ⟨i,e,G⟩
 have run:t.probe (PI.Xr es) h (t.probeStart h)=SetTable.probe.go t (PI.Xr es) h ((10*SetTable.turns t.mask-N-1)+1) (Ao t.mask N (t.probeStart h)):=by
  unfold SetTable.probe;have:10*SetTable.turns t.mask=((10*SetTable.turns t.mask-N-1)+1)+N:=by lia
  rw[this];rw[iT N _ _ skip];congr 1;omega
 have a:∀m,m<N ->∃y∈Z,y.1=IE t.mask h m:=λm g=>by
  let⟨i,e,_⟩:=skip m g;rcases T.slots (IE t.mask h m)with⟨i',z,d,r,b⟩|⟨_,b⟩
  .exact ⟨z,Vw d,r⟩
  .rw [show(Ao t.mask m (t.probeStart h)).j=IE t.mask h m from rfl,b]at e;cases e
 rcases T.slots (IE t.mask h N)with⟨i,z,d,r,b⟩|⟨hn,b⟩
 .refine .inl ⟨i,z,_,t.advance (Ao t.mask N (t.probeStart h)),d,?_,r,?_⟩
  .rw [<-T.Xr d];exact B i b
  .rw [run,SetTable.probe.go]
   rw[show(Ao t.mask N (t.probeStart h)).j=IE t.mask h N from rfl,b];dsimp only;rw[YE (by rw[B i b];simp)]
 .refine .inr ⟨λz f x=>?_,N,?_,hn,?_,a⟩
  .obtain ⟨c,p,v⟩:=T.met z f
   rw[x]at p v;rcases Pp N c with q|q
   .obtain ⟨y,C,E⟩:=v N q
    exact hn y C E
   .rcases Pp c N with s|s
    .have:=A c s
     let⟨i,w⟩:=QP f;refine this λi' e'=>?_;rw[p,T.live w]at e';cases e';rw[T.Xr w];exact x
    .have:c=N:=by lia
     subst this;exact hn z f p.symm
  .rw [run,SetTable.probe.go]
   rw[show(Ao t.mask N (t.probeStart h)).j=IE t.mask h N from rfl,b];dsimp only;rw[show(Ao t.mask N (t.probeStart h)).dummy=none from iR _ _ _]
  .exact eZ _ _ _
end
section
variable{t:SetTable}{es:Array (Int×Value)}{Z:Z3}
def iZ(xs:List α)(p:Nat)(x:α):SetTable.insertAt xs.toArray p x=(xs.take p++x::xs.drop p).toArray:=by
 apply PH.mp;rw[SetTable.toList_insertAt]
def eF{xs:List α}{p:Nat}{x y:α}:y∈xs.take p++x::xs.drop p↔y=x\/y∈xs:=by
 rw[Wh,X8];constructor
 .rintro (h|h|h)
  .exact .inr (SF h)
  .exact .inl h
  .exact .inr (Ua h)
 .rintro (h|h)
  .exact .inr (.inl h)
  .rw [<-WK p xs,Wh]at h
   exact h.elim .inl λh=>.inr (.inr h)
def Tb.put(T:Tb t es Z){h:Int}{x:Value}{N:Nat}(o:∀z∈Z,z.1≠IE t.mask h N)(l:∀m,m<N ->∃y∈Z,y.1=IE t.mask h m)(v:Z.length+1<=t.mask):
  ∃p,(t.put (IE t.mask h N)).2=p/\Tb (t.put (IE t.mask h N)).1 (SetTable.insertAt es p (h,x)) (Z.take p++(IE t.mask h N,h,x)::Z.drop p):=by
 refine⟨_,rfl,?_⟩;let⟨s,r,w⟩:=T.below (IE t.mask h N);have u:(t.put (IE t.mask h N)).2=SetTable.below t.place (IE t.mask h N):=rfl;rw[u];have d:(t.put (IE t.mask h N)).1.mask=t.mask:=rfl;constructor
 .show SetTable.insertAt t.place _ _=_
  rw[T.hp,iZ];simp
 .rw [T.he,iZ]
  simp
 .show (if _ then _ else t.dummies)=_
  rw[T.hd];rw[Yn];unfold SetTable.has;simp
 .have hs:=T.hs
  rw[<-WK (SetTable.below t.place (IE t.mask h N)) Z,Vi]at hs;rw[Vi,Ud];have k:∀a∈Z.take (SetTable.below t.place (IE t.mask h N)),a.1<IE t.mask h N:=λa g=>by
   let⟨i,hi,e⟩:=Q2 g;rw[Vp]at hi;rw[Ou]at e;exact s i a.1 (by lia) (T.get.mpr ⟨a,by rw[<-e];exact YJ (by lia),rfl⟩)
  have g:∀a∈Z.drop (SetTable.below t.place (IE t.mask h N)),IE t.mask h N<a.1:=λa g=>by
   let⟨i,hi,e⟩:=Q2 g;rw[Ub]at hi;rw[Ov]at e;have:=r _ a.1 (QW _ i) (T.get.mpr ⟨a,by rw[<-e];exact YJ (),rfl⟩)
   exact Nat.lt_of_le_of_ne this λq=>o a (Ua g) q.symm
  refine⟨hs.1,⟨g,hs.2.1⟩,λa h' b f=>?_⟩;rcases X8.mp f with rfl|f
  .exact k a h'
  .exact hs.2.2 a h' b f
 .intro z c
  rw[d];rcases eF.mp c with rfl|c
  .exact eZ _ _ _
  .exact T.hl z c
 .exact T.hM
 .rw [d]
  have:(Z.take (SetTable.below t.place (IE t.mask h N))++(IE t.mask h N,h,x)::Z.drop (SetTable.below t.place (IE t.mask h N))).length=Z.length+1:=by
   rw[XZ,WJ,Vp,Ub];omega
  lia
 .intro z c
  rw[d];rcases eF.mp c with rfl|c
  .exact ⟨N,rfl,λm d=>let⟨y,j,e⟩:=l m d;⟨y,eF.mpr (.inr j),e⟩⟩
  .obtain ⟨n,e,k⟩:=T.met z c
   exact⟨n,e,λm d=>let⟨y,j,e⟩:=k m d;⟨y,eF.mpr (.inr j),e⟩⟩
def x8(xs:List α)(p:Nat)(x:α):(xs.take p++x::xs.drop p).Perm (x::xs):=by
 have:=(List.perm_middle (a:=x) (l₁:=xs.take p) (l₂:=xs.drop p));rwa[WK]at this
end
abbrev Wz:=Array (Option Nat)
def lz{M:Nat}(owner:Wz):∀(fu i q:Nat),(∃K,K<fu/\owner.getD (IF M K (i,q)).1 (some 0)=none) ->
  ∃n,SetTable.layClean.free M owner fu i q=some (Ao M n (head M i q)).j/\owner.getD (Ao M n (head M i q)).j (some 0)=none /\∀m,m<n->owner.getD (Ao M m (head M i q)).j (some 0)≠none
 |0,i,q,⟨K,h,_⟩=>by omega
 |fu+1,i,q,⟨K,v,e⟩=>by
  rw[SetTable.layClean.free];have len:SetTable.runEnd M i+1-i=(SetTable.runEnd M i-i)+1:=by unfold SetTable.runEnd;split<;>lia
  have d:∀m,m<=SetTable.runEnd M i-i->(Ao M m (head M i q)).j=i+m:=λm f=>by
   rw[fW M m (head M i q) f];rfl
  cases p:(List.range (SetTable.runEnd M i+1-i)).find? λk=>(owner.getD (i+k) (some 0)).isNone with
  |some k=>
   dsimp only;let⟨h1,h2,t⟩:=List.find?_range_eq_some.mp p;have hk:k<SetTable.runEnd M i+1-i:=So.mp h2;refine⟨k,by rw[d k (by lia)],by rw[d k ()];simpa using h1,λm f=>?_⟩
   rw[d m (by lia)]
   have:=t m f;intro q;rw[q]at this;simp at this
  |none=>
   dsimp only;have o:∀m,m<=SetTable.runEnd M i-i->owner.getD (i+m) (some 0)≠none:=λm f=>by
    have:=List.find?_eq_none.mp p m (So.mpr (by lia))
    intro q;rw[q]at this;simp at this
   have l:K≠0:=λs=>by
    subst s;exact o 0 (QN _) e
   let⟨u,rfl⟩:=Nat.exists_eq_succ_of_ne_zero l;let⟨n,a,b,c⟩:=lz owner fu ((i*5+1+q / 32) % (M+1)) (q / 32) ⟨u,by lia,e⟩
   have g:∀m,Ao M ((SetTable.runEnd M i-i+1)+m) (head M i q)=Ao M m (head M ((i*5+1+q / 32) % (M+1)) (q / 32)):=λm=>by rw[dU,jY]
   refine⟨(SetTable.runEnd M i-i+1)+n,by rw[g];exact a,by rw[g];exact b,λm f=>?_⟩
   rcases Pp m (SetTable.runEnd M i-i+1)with r|r
   .rw [d m (by lia)];exact o m ()
   .have:m=(SetTable.runEnd M i-i+1)+(m-(SetTable.runEnd M i-i+1)):=by omega
    rw[this,g];exact c _ (by lia)
structure LC(M:Nat)(owner:Wz)(hs:List Int)(Z_:List Nat):Prop where
 sz:owner.size=M+1
 len:Z_.length=hs.length
 to:∀(i j:Nat),Z_[i]?=some j->owner[j]?=some (some i)
 Zy:∀(i j:Nat),owner[j]?=some (some i)->Z_[i]?=some j
 met:∀(i j:Nat) (h:Int),hs[i]?=some h->Z_[i]?=some j ->∃n,IE M h n=j /\∀m,m<n->IE M h m∈Z_
def LC.getD{M:Nat}{owner:Wz}{d:List Int}{c:List Nat}(b:LC M owner d c){j:Nat}(l:j<=M):owner.getD j (some 0)=none↔j ∉ c:=by
 have a:j<owner.size:=by rw[b.sz];lia
 have k:owner.getD j (some 0)=owner[j]:=by unfold Array.getD;rw[dif_pos a];rfl
 rw[k];constructor
 .intro e g
  let⟨i,h⟩:=QP g;have:=b.to i j h;rw[WB a,e]at this;cases this
 .intro f
  cases e:owner[j]with
  |none=>rfl
  |some i=>exact absurd (Vw (b.Zy i j (by rw[WB a,e]))) f
def Co(M:Nat):Option (Wz×Nat)->Int->Option (Wz×Nat):=λZQ h=>do
  let(owner,k)<-ZQ
  let j<-SetTable.layClean.free M owner (SetTable.turns M) (SetTable.bits h % (M+1)) (SetTable.bits h)
  pure (owner.setIfInBounds j (some k),k+1)
def LC.step(A:Mok M){owner:Wz}{f:List Int}{g:List Nat}(d:LC M owner f g)(u:f.length<=M)(h:Int):
  ∃w j,Co M (some (owner,f.length)) h=some (w,f.length+1)/\LC M w (f++[h]) (g++[j]):=by
 have sp:∃j,j<=M/\j ∉ g:=by
  refine Hq λz=>?_;have h1:List.range (M+1) ⊆ g:=λj r=>by
   have r:=So.mp r;exact Hq λy=>z ⟨j,by lia,y⟩
  have h2:=PF (OF) h1;rw[Po]at h2;have:=d.len;lia
 let⟨F,o,E⟩:=sp;let⟨K,G,B⟩:=i4 A h o;let⟨n,a,b,c⟩:=lz (M:=M) owner (SetTable.turns M) (SetTable.bits h % (M+1)) (SetTable.bits h) ⟨K,by unfold SetTable.turns;lia,by rw[B];exact(d.getD o).mpr E⟩
 have a:SetTable.layClean.free M owner (SetTable.turns M) (SetTable.bits h % (M+1)) (SetTable.bits h)=some (IE M h n):=a;have b:owner.getD (IE M h n) (some 0)=none:=b;have c:∀m,m<n->owner.getD (IE M h m) (some 0)≠none:=c;have hle:=eZ M h n;have l:IE M h n ∉ g:=(d.getD hle).mp b;have v:IE M h n<owner.size:=by rw[d.sz];lia
 refine⟨owner.setIfInBounds (IE M h n) (some f.length),IE M h n,?_,?_⟩
 .unfold Co
  simp![Option.pure_def,Option.bind_eq_bind,Qr,a]
 .constructor
  .rw [OA];exact d.sz
  .simp [d.len]
  .intro i j e
   rw[P2];rw[List.getElem?_append]at e;split at e
   .have r:j∈g:=Vw e
    rw[Yn (λq=>l (by rw[q];exact r))]
    exact d.to i j e
   .rename_i H
    have:i-g.length=0:=by
     cases s:i-g.length with
     |zero=>rfl
     |succ k=>rw[s]at e;simp at e
    rw[this]at e;simp at e;subst e;rw[YE rfl,YE v];have:=d.len;congr 2;lia
  .intro i j e
   rw[P2]at e;by_cases q:IE M h n=j
   .rw [YE q,YE v]at e
    cases e;subst q;rw[<-d.len];simp
   .rw [Yn q]at e
    have:=d.Zy i j e;rw[X7 (Ye.mp this).1];exact this
  .intro i j h' p e
   rcases Pp i f.length with q|q
   .rw [X7 q]at p
    rw[X7 (by rw[d.len];exact q)]at e
    let⟨x,D,C⟩:=d.met i j h' p e;exact⟨x,D,λm t=>UA _ (C m t)⟩
   .have:i=f.length:=by
     have:=(Ye.mp p).1;simp at this;lia
    subst this;simp at p;rw[<-d.len]at e;simp at e;subst p e;exact⟨n,rfl,λm t=>UA _ (Hq λs=>c m t ((d.getD (eZ M h m)).mpr s))⟩
def LC.all{M:Nat}(a:Mok M):∀(r hs:List Int) {owner:Wz} {Z_:List Nat},LC M owner hs Z_->hs.length+r.length<=M ->
  ∃c f,r.foldl (Co M) (some (owner,hs.length))=some (c,hs.length+r.length)/\LC M c (hs++r) f
 |[],hs,owner,Z_,Z7,_=>⟨owner,Z_,rfl,by rw[Ux];exact Z7⟩
 |h::r,hs,owner,Z_,Z7,hl=>by
  rw[WJ]at hl;let⟨o1,j,d,g⟩:=Z7.step a (by lia) h
  let⟨o2,e,b,L2⟩:=LC.all a r (hs++[h]) g (by rw[XZ,RL];lia)
  refine⟨o2,e,?_,?_⟩
  .rw [List.foldl_cons,d]
   rw[XZ,RL]at b;rw[b,WJ];congr 2;lia
  .rw [Wx]at L2;exact L2
def wW(c:Mok M)(a:Array Int)(b:a.size<=M):∃owner Z_,SetTable.layClean M a=some owner/\LC M owner a.toList Z_:=by
 have d:LC M (Array.replicate (M+1) none) [] []:=by
  constructor
  .simp
  .rfl
  .intro i j e;simp at e
  .intro i j e
   rw[Array.getElem?_replicate]at e;split at e<;>cases e
  .intro i j h e;simp at e
 let⟨o,Z_,e,Z7⟩:=LC.all c a.toList [] d (by simpa using b)
 refine⟨o,Z_,?_,by simpa using Z7⟩
 unfold SetTable.layClean;rw[<-Array.foldl_toList];have:a.toList.foldl (Co M) (some (Array.replicate (M+1) none,0))=some (o,0+a.toList.length):=by simpa using e
 show(List.foldl (Co M) (some (Array.replicate (M+1) none,0)) a.toList).map (·.1)=some o;rw[this]
 rfl
def A2(a:Array (Int×Value))(i:Nat):Int×Value:=(a[i]?).getD (0,.none)
def II(M:Nat)(owner:Wz):List (Nat×Nat):=(List.range (M+1)).filterMap λj=>(owner.getD j none).map (j,·)
section
variable{owner:Wz}{hs:List Int}{Z_:List Nat}
def LC.live(c:LC M owner hs Z_)(j i:Nat):(j,i)∈II M owner↔Z_[i]?=some j:=by
 unfold II;rw[Ob];constructor
 .rintro ⟨b,g,e⟩
  have g:=So.mp g;have a:b<owner.size:=by rw[c.sz];exact g
  have f:owner.getD b none=owner[b]:=by unfold Array.getD;rw[dif_pos a];rfl
  rw[f]at e;cases d:owner[b]with
  |none=>rw[d]at e;cases e
  |some i'=>
   rw[d]at e;cases e;exact c.Zy i j (by rw[WB a,d])
 .intro e
  have h:=c.to i j e;have a:j<owner.size:=(Vr.mp h).1;refine⟨j,So.mpr (by rw[<-c.sz];exact a),?_⟩
  have f:owner.getD j none=some i:=by
   unfold Array.getD;rw[dif_pos a];rw[WB a]at h;exact WV h
  rw[f];rfl
def kX(M:Nat)(owner:Wz):(II M owner).Pairwise λa b=>a.1<b.1:=by
 unfold II;rw[List.pairwise_filterMap];refine List.Pairwise.imp (λ{a a'} h b c b' d=>?_) List.pairwise_lt_range;cases ea:owner.getD a none with
 |none=>rw[ea]at c;cases c
 |some i=>
  rw[ea]at c;cases c;cases e:owner.getD a' none with
  |none=>rw[e]at d;cases d
  |some i'=>rw[e]at d;cases d;exact h
def LC.order(c:LC M owner hs Z_):((II M owner).map (·.2)).Perm (List.range hs.length):=by
 refine(Od ?_ OF).mpr λi=>?_
 .refine To.mpr (List.Pairwise.imp_of_mem (λ{a b} g f k=>?_) (kX M owner))
  intro e;have h1:=(c.live a.1 a.2).mp g;have h2:=(c.live b.1 b.2).mp f;rw[e,h2]at h1;have:=WV h1;lia
 .rw [WA,So,<-c.len]
  constructor
  .rintro ⟨⟨j,i'⟩,d,rfl⟩
   exact(Ye.mp ((c.live j i').mp d)).1
  .intro h
   exact⟨(Z_[i],i),(c.live _ _).mpr (YJ h),rfl⟩
end
def l9{b c:Type}{f:b->Option c}{g:b->c}:∀(l:List b),(∀x∈l,f x=some (g x))->l.filterMap f=l.map g
 |[],_=>rfl
 |a::l,h=>by rw[TN,h a Hr,Xu,l9 l λx d=>h x (Hl _ d)]
section
variable{t:SetTable}{es:Array (Int×Value)}{Z:Z3}
def Tb.len(T:Tb t es Z):es.size=Z.length:=by rw[T.he];simp
def Tb.relaid(T:Tb t es Z){a:Nat}(o:Mok (SetTable.sizeAbove a-1))(k:Z.length<=SetTable.sizeAbove a-1):
  ∃t' order g,t.relaid (es.map (·.1)) a=some (t',order)/\Tb t' (order.filterMap (es[·]?)) g/\(g.map (·.2)).Perm (Z.map (·.2))/\t'.mask=SetTable.sizeAbove a-1/\t'.led=t.led/\t'.plain=t.plain:=by
 let⟨owner,Z_,e,Z7⟩:=wW o (es.map (·.1)) (by rw[Array.size_map,T.len];exact k)
 have c:(es.map (·.1)).toList.length=es.size:=by simp
 let M:=SetTable.sizeAbove a-1
 let order:Array Nat:=((II M owner).map (·.2)).toArray
 let t':SetTable:={mask:=M,place:=((II M owner).map (·.1)).toArray,dummies:=#[],finger:=t.finger,led:=t.led,moves:=t.movedTo M,plain:=t.plain}
 let g:Z3:=(II M owner).map λp=>(p.1,A2 es p.2)
 have r:∀p∈II M owner,es[p.2]?=some (A2 es p.2):=λp d=>by
  have h:=(Ye.mp ((Z7.live p.1 p.2).mp d)).1;rw[Z7.len,c]at h;unfold A2;rw[WB h];rfl
 refine⟨t',order,g,?_,?_,?_,rfl,rfl,rfl⟩
 .unfold SetTable.relaid SetTable.laid
  rw[e]
  rfl
 .constructor
  .show ((II M owner).map (·.1)).toArray=(List.map (λz:Nat×Int×Value=>z.1) (List.map _ _)).toArray
   rw[Sw];rfl
  .apply PH.mp
   rw[Array.toList_filterMap];show(((II M owner).map (·.2)).filterMap λx=>es[x]?)=(g.map (·.2));rw[List.filterMap_map,Sw];exact l9 _ r
  .rfl
  .exact To.mpr (kX M owner)
  .intro z j
   let⟨p,d,rfl⟩:=WA.mp j;have h:=Z7.to p.2 p.1 ((Z7.live p.1 p.2).mp d);have:=(Vr.mp h).1;rw[Z7.sz]at this;exact Ot this
  .exact o
  .show List.length (List.map _ _)<=M
   rw[Zg,<-Zg (f:=λp:Nat×Nat=>p.2),Z7.order.length_eq,Po,c,T.len];exact k
  .intro z j
   let⟨p,d,rfl⟩:=WA.mp j;have u:=(Z7.live p.1 p.2).mp d
   let ⟨n,B,A⟩:=Z7.met p.2 p.1 (A2 es p.2).1 (by
    rw[W3,Array.getElem?_map,r p d];rfl) u
   refine⟨n,B,λm w=>?_⟩;let⟨i,y⟩:=QP (A m w);exact⟨_,WA.mpr ⟨(IE M (A2 es p.2).1 m,i),(Z7.live _ _).mpr y,rfl⟩,rfl⟩
 .show (List.map _ (List.map _ _)).Perm _
  rw[Sw];have h1:((II M owner).map ((λz:Nat×Int×Value=>z.2) ∘ λp=>(p.1,A2 es p.2)))=((II M owner).map (·.2)).map (A2 es):=by rw[Sw];rfl
  rw[h1];have h2:Z.map (·.2)=(List.range es.size).map (A2 es):=by
   apply List.ext_getElem?;intro i;have he:es[i]?=(Z.map (·.2))[i]?:=by rw[T.he];simp
   rw[<-he,Wi];rcases Pp i es.size with q|q
   .rw [P7 q]
    show _=some (A2 es i);unfold A2;rw[WB q];rfl
   .rw [OS q,Qh (by rw[Po];exact q)];rfl
  rw[h2];have:=Z7.order.map (A2 es);rw[c]at this;exact this
def Tb.fill(T:Tb t es Z):t.fill=Z.length:=by unfold SetTable.fill;rw[T.hp,T.hd];simp
def Tb.full(T:Tb t es Z):t.tooFull=decide (Z.length*5 ≥ t.mask*3):=by unfold SetTable.tooFull;rw[T.fill]
def Tb.fits(T:Tb t es Z):t.fits es.size=true:=by
 unfold SetTable.fits;rw[T.fill,T.len];have:=T.hn;rw[T.hp];simp[this]
def yy(a:Mok M)(h:n*5<M*3)(h':(n+1)*5 ≥ M*3)(c:n<300):
  Mok (SetTable.sizeAbove (SetTable.grown (n+1))-1)/\(n+1)*5<(SetTable.sizeAbove (SetTable.grown (n+1))-1)*3/\SetTable.sizeAbove (SetTable.grown (n+1))<=512:=by
 rcases a with rfl|rfl|rfl|rfl
 .have:n=4:=by lia
  subst this;exact⟨.inr (.inl #[1]),by decide,by decide⟩
 .have:n=18:=by lia
  subst this;exact⟨.inr (.inr (.inl #[1])),by decide,by decide⟩
 .have:n=76:=by lia
  subst this;exact⟨.inr (.inr (.inr #[1])),by decide,by decide⟩
 .lia
end
open PySem PyProof.Rows
section
variable{E:Value->Shared->Prop}
abbrev IsT(prog:Program)(w:World)(h:Heap)(k:List Int)(b:Addr):Prop:=IsTupleKey (intKind prog w) h k b
abbrev Zp(prog:Program)(w:World)(k:List Int):Int:=tupleKeyHash (intKind prog w) k
def iS{k:List Int}{vs:List Value}(h:ItemsAre (intKind prog w) k vs):∀v∈vs,∃i t,v=.int i t:=by
 induction h with
 |nil=>intro v a;cases a
 |cons h1 _ ih=>
  intro v a;rcases X8.mp a with rfl|a
  .obtain ⟨t,e⟩:=QG h1;exact⟨_,t,e⟩
  .exact ih v a
def ki{k:List Int}{b:Addr}{Q:Bool->Shared->Prop}(d:IsT prog w s.heap k b)(h:Q false s):wpAny (model prog w) A (ofAClassStatement (n+1) (.ref b)) Q E s:=by
 have j:=d.typeIs;let⟨o,items,c,ho,_,g,hi⟩:=d;unfold ofAClassStatement;refine ZB (OP j ?_);dsimp only;rw[YE #[1]]
 refine ZB (ZP ?_);simp![S9,Xc,Vb];refine ZB (wpAny_seqItems ho g ?_);dsimp only;refine ZB ?_;rw[<-Array.forIn_toList];refine PJ _ (λZR r s'=>r.1=none/\s'=s /\∀v∈ZR,∃i t,v=Value.int i t) _ ?_ ?_ _ _ ⟨rfl,rfl,iS hi⟩
 .rintro v ZR r s' ⟨a,rfl,f⟩
  let⟨i,t,rfl⟩:=f v Hr;have e:ofAClassStatement n (Value.int i t)=pure false:=by cases n<;>rfl
  rw[e];refine ZB (ZP ?_);simp![Xc,Vb];exact ZP ⟨rfl,rfl,λu y=>f u (Hl _ y)⟩
 .rintro ⟨B,z⟩ s' ⟨a,rfl,_⟩
  simp only at a;subst a;exact ZP h
def yQ{k:List Int}{b:Addr}{Q:Bool->Shared->Prop}(d:IsT prog w s.heap k b)(h:Q true s):wpAny (model prog w) A (hashByValue (n+1) (.ref b)) Q E s:=by
 have j:=d.typeIs;let⟨o,items,c,ho,_,g,hi⟩:=d;unfold hashByValue;refine ZB (OZ j PySem.F.slot_tuple_hash.lookup ?_);dsimp only;refine ZB (wpAny_seqItems ho g ?_);dsimp only[Option.getD];refine ZB ?_;rw[<-Array.forIn_toList];refine PJ _ (λZR r s'=>r.1=none/\s'=s /\∀v∈ZR,∃i t,v=Value.int i t) _ ?_ ?_ _ _ ⟨rfl,rfl,iS hi⟩
 .rintro v ZR r s' ⟨a,rfl,f⟩
  let⟨i,t,rfl⟩:=f v Hr;have e:hashByValue n (Value.int i t)=pure true:=by cases n<;>rfl
  rw[e];refine ZB (ZP ?_);simp![S9,Xc,Vb];exact ZP ⟨rfl,rfl,λu l=>f u (Hl _ l)⟩
 .rintro ⟨p,m⟩ s' ⟨a,rfl,_⟩
  simp only at a;subst a;exact ZP h
def aaR{k:List Int}{b:Addr}{Q:Bool->Shared->Prop}(e:IsT prog w s.heap k b){d:List Value}(a:∀y∈d,∃k' b',y=.ref b'/\IsT prog w s.heap k' b')(h:Q false s):
  wpAny (model prog w) A (searchCouldBeSeen (.ref b) d) Q E s:=by
 unfold searchCouldBeSeen;refine ZB ?_;refine PJ _ (λZR r s'=>r.1=none/\s'=s /\∀y∈ZR,∃k' b',y=Value.ref b'/\IsT prog w s.heap k' b') _ ?_ ?_ _ _ ⟨rfl,rfl,a⟩
 .rintro y ZR r s' ⟨c,rfl,g⟩
  let⟨k',b',rfl,f⟩:=g y Hr;have Zz:∀u∈ZR,∃k' b',u=Value.ref b'/\IsT prog w s'.heap k' b':=λu i=>g u (Hl _ i);dsimp only;split
  .exact ZP ⟨rfl,rfl,Zz⟩
  .refine ZB (wpAny_eqIsQuiet_tuple e ?_)
   simp![S9,Xc,Vb];refine ZB (wpAny_eqIsQuiet_tuple f ?_);simp![S9,Xc,Vb];refine ZB (ki e ?_);simp![Xc,Vb];refine ZB (ki f ?_);simp![Xc,Vb];exact ZP ⟨rfl,rfl,Zz⟩
 .rintro ⟨l,j⟩ s' ⟨c,rfl,_⟩
  simp only at c;subst c;exact ZP h
structure Yu(prog:Program)(w:World)(o:Obj)(D:List (List Int×Addr))(es:Array (Int×Value))(ep:Nat)(t:SetTable)(Z:Z3):Prop where
 ex:o.ExactSet
 dt:o.data=.set es ep t
 tb:Tb t es Z
 pl:t.plain=true
 ld:t.led = !(w.params.followText "set-order")
 fl:Z.length*5<t.mask*3
 pm:(Z.map (·.2)).Perm (D.map λd=>(Zp prog w d.1,Value.ref d.2))
end
section
variable{E:Value->Shared->Prop}{b:Addr}{o:Obj}{es:Array (Int×Value)}{t:SetTable}{Z:Z3}{k:List Int}
def Yu.mem(P:Yu prog w o D es ep t Z)(hz:z∈Z):∃d∈D,z.2=(Zp prog w d.1,Value.ref d.2):=by
 have:=P.pm.mem_iff.mp (WA.mpr ⟨z,hz,rfl⟩);let⟨d,a,e⟩:=WA.mp this;exact⟨d,a,e.symm⟩
def Yu.mem'(P:Yu prog w o D es ep t Z){d:List Int×Addr}(b:d∈D):∃z∈Z,z.2=(Zp prog w d.1,Value.ref d.2):=by
 have:=P.pm.mem_iff.mpr (WA.mpr ⟨d,b,rfl⟩);let⟨z,a,e⟩:=WA.mp this;exact⟨z,a,e⟩
def Yu.len(P:Yu prog w o D es ep t Z):Z.length=D.length:=by
 have:=P.pm.length_eq;simpa using this
def w4(h:Mok M):M % 2=1:=by rcases h with rfl|rfl|rfl|rfl<;>decide
def uU(hu:A.units<cLine)(ho:s.heap.get? a=some o)(P:Yu prog w o D es ep t Z)(hD:∀d∈D,IsT prog w s.heap d.1 d.2)(hk:IsT prog w s.heap k b)
  (Xi:∀d∈D,Zp prog w d.1=Zp prog w k->d.1=k) {Q:SetFound->Shared->Prop}
  (h1:(∃d∈D,d.1=k)->Q (.there none) s)
  (h2:(∀d∈D,d.1≠k) ->∀N,(∀z∈Z,z.1≠IE t.mask (Zp prog w k) N)->(∀m,m<N ->∃y∈Z,y.1=IE t.mask (Zp prog w k) m)->Q (.free (IE t.mask (Zp prog w k) N) false) s) :
  wpAny (model prog w) A (setSearch a (.ref b) (Zp prog w k) true) Q E s:=by
 have hf:=P.tb.fits;show wpAny (model prog w) A (setSearchFrom a (.ref b) (Zp prog w k) true (99999+1) none) Q E s;rw[setSearchFrom];refine ZB (TX ho P.dt hf ?_);dsimp only;rw[Yn (by unfold SetTable.gaveWay;rw[w4 P.tb.hM];decide)]
 rcases P.tb.probe (Zp prog w k)with⟨i,z,j,nx,ez,eh,ej,e⟩|⟨XH,N,e,US,hle,hbef⟩
 .obtain ⟨d,hd,ed⟩:=P.mem (Vw ez)
  have hdk:d.1=k:=Xi d hd (by rw[<-eh,ed])
  have key:∀f:Nat->Int,f=Xr es->t.probe f (Zp prog w k) ((none:Option SetTable.Probe).getD (t.probeStart (Zp prog w k)))=some (.candidate j i nx):=λf hf=>by rw[hf];exact e
  rw[key]
  rotate_left
  .rfl
  dsimp only;have body:wpAny (model prog w) A (do
    let some (_,y):=es[i]?|unsupported "internal:set-entry"
    let equal<-holding [y] (eqBool y (.ref b))
    let(es',_,t')<-setState a
    if true&&equal then return .there none
    let some same:=t'.sameMemory t.moves t.mask|unsupported "set.changed-during-lookup:is-the-new-block-at-the-old-address"
    let Rk<-match(if same then t'.slot j else .empty)with
     |.live i'=>match es'[i']? with
      |some (_,y')=>do pure (if<-isSame y' y then some i' else none)
      |none=>pure none
     |_=>pure none
    match Rk with
    |none=>rule "set.search.anew";setSearchFrom a (.ref b) (Zp prog w k) true 99999 none
    |some i'=>if equal then return .there (some i')else setSearchFrom a (.ref b) (Zp prog w k) true 99999 (some nx)) Q E s:=by
   rw[P.tb.hash ez,ed];dsimp only;refine ZB (Vt (wpAny_eqBool_tuple (knd:=intKind prog w) hu (hD d hd) hk ?_));refine ZB (TX ho P.dt hf ?_);dsimp only;rw[Td hdk];exact ZP (h1 ⟨d,hd,hdk⟩)
  cases hl:t.led with
  |true=>simp![S9,Xc,Vb];exact body
  |false=>
   simp![Oe,Tj];refine ZB (aaR hk (λy hy=>?_) ?_)
   .rw [WA]at hy
    let⟨x,hx,rfl⟩:=hy;have hx:x∈es.toList:=by
     have:=R9.mp hx;rw[Array.mem_filter]at this;exact R9.mpr this.1
    rw[P.tb.he]at hx;simp![WA]at hx;let⟨z',hz',rfl⟩:=hx;let⟨d',Ys,e'⟩:=P.mem hz';exact⟨d'.1,d'.2,by rw[e'],hD d' Ys⟩
   .simp only [Xc,Vb]
    exact body
 .have key:∀f:Nat->Int,f=Xr es->t.probe f (Zp prog w k) ((none:Option SetTable.Probe).getD (t.probeStart (Zp prog w k)))=some (.empty (IE t.mask (Zp prog w k) N) none):=λf hf=>by rw[hf];exact e
  rw[key]
  rotate_left
  .rfl
  dsimp only;refine ZP (h2 (λd hd ek=>?_) N US hbef);let⟨z,hz,ez⟩:=P.mem' hd;exact XH z hz (by rw[ez,ek])
end
section
variable{E:Value->Shared->Prop}{b:Addr}{o:Obj}{es:Array (Int×Value)}{t:SetTable}{Z:Z3}{k:List Int}
def jD{es':Array (Int×Value)}{t':SetTable}(c:h.get? a=some o)(b:o.data=.set es ep t):(h.update a (Obj.putSet es' t')).get? a=some {o with data:=.set es' (ep+1) t'}:=by
 have:=Uh (Obj.putSet es' t') c (by rw[putSet_of es' t' b];rfl)
 rw[putSet_of es' t' b]at this;exact this
def vG{Q:Unit->Shared->Prop}{wanted:Nat}(ho:s.heap.get? a=some o)(hd:o.data=.set es ep t)(T:Tb t es Z)(hM:Mok (SetTable.sizeAbove wanted-1))(hl:Z.length<=SetTable.sizeAbove wanted-1)(hs:SetTable.sizeAbove wanted<=512)
  (h:∀ es' t' Z',Tb t' es' Z'->(Z'.map (·.2)).Perm (Z.map (·.2))->t'.mask=SetTable.sizeAbove wanted - 1->t'.led=t.led->t'.plain=t.plain ->
   Q Unit.unit {s with heap:=s.heap.update a (Obj.putSet es' t')}):wpAny (model prog w) A (setRelay a wanted) Q E s:=by
 let⟨t',order,Z',e,T',pm,hm,VW,hp⟩:=T.relaid hM hl;have hz:(order.filterMap (es[·]?)).size=es.size:=by
  rw[T'.len,T.len];have:=pm.length_eq;simpa using this
 unfold setRelay;refine ZB (TX ho hd T.fits ?_);dsimp only;have hz7:sizeLine=16777216:=by rfl
 rw[Yn (by lia)]
 refine ZB ?_;rw [e];show wpAny _ _ (do
  let es':=order.filterMap (es[·]?)
  if es'.size != es.size then unsupported "internal:set-table-lost-an-element"
  pure (es',t')) _ _ _
 dsimp only;rw[Yn (by rw[hz];simp)]
 refine ZP ?_;dsimp only;refine wpAny_storeSet_of ho hd (h _ t' Z' T' pm hm VW hp) ?_;rw[hz,T.len];have:sizeLine=16777216:=by rfl
 omega
def uT(K:A.units<cLine)(h:s.heap.get? a=some o)(P:Yu prog w o D es ep t Z)(L:∀d∈D,IsT prog w s.heap d.1 d.2)(z:IsT prog w s.heap k b)
  (Xi:∀d∈D,Zp prog w d.1=Zp prog w k->d.1=k) (hn:D.length<300) {Q:Bool->Shared->Prop}
  (R:(∃d∈D,d.1=k)->Q false s)
  (B:(∀d∈D,d.1≠k) ->∀h' o' es' u t' Z',Heap.SameBut a s.heap h'->h'.get? a=some o'->Yu prog w o' (D++[(k,b)]) es' u t' Z'->Q true {s with heap:=h'}) :
  wpAny (model prog w) A (setAddHashed a (.ref b) (Zp prog w k)) Q E s:=by
 have hf:=P.tb.fits;unfold setAddHashed;refine Vt ?_;show wpAny (model prog w) A (setAddHashedIn a (.ref b) (Zp prog w k) (99999+1)) Q E s;rw[setAddHashedIn];refine ZB (TX h P.dt hf ?_);dsimp only;rw[Yn (by exact Bool.false_ne_true)]
 refine ZB (uU K h P L z Xi (λj=>?_) λj N V U=>?_)
 .exact ZP (R j)
 .dsimp only
  refine ZB (TX h P.dt hf ?_);dsimp only;have hlen:=P.len;have F:=P.fl;have hM:=P.tb.hM;have O:Z.length+1<=t.mask:=by rcases hM with e|e|e|e<;>rw[e]at F ⊢<;>lia
  let⟨p,u,f⟩:=P.tb.put (x:=.ref b) V U O;have l:(t.put (IE t.mask (Zp prog w k) N)).1.plain=true:=P.pl;have y:(t.put (IE t.mask (Zp prog w k) N)).1.led = !(w.params.followText "set-order"):=P.ld;have H:(t.put (IE t.mask (Zp prog w k) N)).1.mask=t.mask:=rfl;rw[u];generalize r:List.take p Z++(IE t.mask (Zp prog w k) N,Zp prog w k,Value.ref b)::List.drop p Z=i at f;have c:(i.map (·.2)).Perm ((D++[(k,b)]).map λd=>(Zp prog w d.1,Value.ref d.2)):=by
   rw[<-r];refine((x8 Z p _).map _).trans ?_;rw[Xu,Qd];refine(P.pm.cons _).trans ?_;exact(UR (l₁:=[_])).trans (List.Perm.refl _)
  have I:i.length=Z.length+1:=by
   have:=c.length_eq;simp![Zg,XZ,RL]at this;lia
  generalize(t.put (IE t.mask (Zp prog w k) N)).1=t1 at f l y H;rw[YE l];refine ZB (yQ z ?_);simp![Tj];refine ZB (wpAny_storeSet_of h P.dt ?_ ?_)
  rotate_left
  .rw [f.len]
   have:sizeLine=16777216:=by rfl
   lia
  have v:=jD (es':=SetTable.insertAt es p (Zp prog w k,Value.ref b)) (t':=t1) h P.dt;have G:=TR s.heap a (Obj.putSet (SetTable.insertAt es p (Zp prog w k,Value.ref b)) t1);simp![Oe,O6];rw[f.full];by_cases m:i.length*5 ≥ t1.mask*3
  .rw [Td m]
   simp![Tj];have q:es.size=Z.length:=P.tb.len;rw[q];let⟨T,g2,S⟩:=yy (M:=t.mask) (n:=Z.length) hM F (by rw[H,I]at m;exact m) (by lia)
   refine ZB (vG (s:={s with heap:=_}) v rfl f T (by lia) S λW t2 C T2 g e1 Y X=>?_)
   refine ZP (B j _ _ _ _ _ C (G.trans (TR _ a _)) (jD v rfl) ⟨P.ex,rfl,T2,X.trans l,Y.trans y,?_,g.trans c⟩);have J:C.length=i.length:=by have:=g.length_eq;simpa using this
   rw[e1,J,I];exact g2
  .rw [VB m]
   simp![Xc,Vb];refine ZP (B j _ _ _ _ _ i G v ⟨P.ex,rfl,f,l,y,by omega,c⟩)
def zt(c:A.units<cLine)(f:s.heap.get? a=some o)(P:Yu prog w o D es ep t Z)(h:∀d∈D,IsT prog w s.heap d.1 d.2)(e:IsT prog w s.heap k b)
  (m:∀d∈D,Zp prog w d.1=Zp prog w k->d.1=k) (g:D.length<300) {Q:Bool->Shared->Prop}
  (j:(∃d∈D,d.1=k)->Q false {s with toks:=s.toks+(k.length+1)})
  (i:(∀d∈D,d.1≠k) ->∀h' o' es' n t' l,Heap.SameBut a s.heap h'->h'.get? a=some o'->Yu prog w o' (D++[(k,b)]) es' n t' l->Q true {s with heap:=h',toks:=s.toks+(k.length+1)}) :
  wpAny (model prog w) A (setAdd a (.ref b)) Q E s:=by
 unfold setAdd;refine Vt (ZB (wpAny_pyHash_tuple c e ?_));exact uT (s:={s with toks:=s.toks+(k.length+1)}) c f P h e m g j i
end
def dd(key:Nat->List Int×Addr):Nat->List (List Int×Addr)
 |0=>[]
 |i+1=>open Classical in if∃d∈dd key i,d.1=(key i).1 then dd key i else dd key i++[key i]
def cY(key:Nat->List Int×Addr):∀(i:Nat) (d:List Int×Addr),d∈dd key i ->∃j,j<i/\d=key j
 |0,d,h=>by cases h
 |i+1,d,h=>by
  unfold dd at h;split at h
  .obtain ⟨j,a,e⟩:=cY key i d h;exact⟨j,by lia,e⟩
  .rcases Wh.mp h with h|h
   .obtain ⟨j,a,e⟩:=cY key i d h;exact⟨j,by omega,e⟩
   .exact ⟨i,by lia,WL.mp h⟩
def og(key:Nat->List Int×Addr):∀(i:Nat),(dd key i).length<=i
 |0=>Hk _
 |i+1=>by
  have:=og key i;unfold dd;split
  .lia
  .rw [XZ,RL];lia
def ow(key:Nat->List Int×Addr):∀(i j:Nat),j<i ->∃d∈dd key i,d.1=(key j).1
 |0,j,h=>by omega
 |i+1,j,h=>by
  unfold dd;by_cases b:j=i
  .subst b
   split
   .assumption
   .exact ⟨_,Vx _ (WL.mpr rfl),rfl⟩
  .obtain ⟨d,a,e⟩:=ow key i j (by lia)
   split
   .exact ⟨d,a,e⟩
   .exact ⟨d,UA _ a,e⟩
def s9(key:Nat->List Int×Addr):∀(i:Nat),((dd key i).map (·.1)).Nodup
 |0=>List.nodup_nil
 |i+1=>by
  have ih:=s9 key i;unfold dd;split
  .exact ih
  .rename_i c
   rw[Qd];refine Ow.mpr ⟨ih,by simp,λx b y a e=>c ?_⟩
   let⟨d,f,g⟩:=WA.mp b;rw[List.map_singleton,WL]at a;exact⟨d,f,by rw[g,e,a]⟩
section
variable{R:Result->Shared->Prop}{I:Addr}{wr:List Addr}{G:Array GenState->Array GenState->Prop}{P:Nat->Value->Prop}{St:Nat->Shared->Prop}
def SInv(prog:Program)(w:World)(a:Addr)(D:List (List Int×Addr))(h:Heap):Prop:=∃o es ep t Z,h.get? a=some o/\Yu prog w o D es ep t Z
def xr(W:WalksS prog w A.in1 I fp wr G n P St)(hu:A.in1.units<cLine)(a:Addr)(y:a ∉ fp)(l:Heap)(N:l.get? a=none)(H:∀b∈wr,l.get? b=none)
  (key:Nat->List Int×Addr) (SI:∀i v,P i v->v=.ref (key i).2) (V1:∀i,i<n->IsT prog w l (key i).1 (key i).2)
  (SH:∀i j,i<n->j<n->Zp prog w (key i).1=Zp prog w (key j).1->(key i).1=(key j).1) (hn:n<=300) :
  ∀(m i:Nat) (s:Shared),n-i=m->i<=n->St i s->(∀b o,l.get? b=some o->s.heap.get? b=some o)->SInv prog w a (dd key i) s.heap ->
   (∀s',Moved (a::wr) G s s'->SInv prog w a (dd key n) s'.heap->R (.ok (.ret .none)) s') ->
   codeAny (model prog w) A (.builtin "set.update.loop" ⟨[.ref a,.ref I],[]⟩) R s:=by
 have u:a ∉ wr:=λh=>y (W.sub _ h);have Y:∀b∈wr,b∈a::wr:=λb k=>Hl _ k;have kp:∀{s s':Shared},Moved wr G s s'->(∀b o,l.get? b=some o->s.heap.get? b=some o) ->∀b o,l.get? b=some o->s'.heap.get? b=some o:=λf k b o e=>
  f.heap b o (λhw=>by rw[H b hw]at e;cases e) (k b o e)
 intro m
 induction m with
 |zero=>
  intro i s hk hi st k O B;have e:i=n:=by lia
  subst e;refine Pb Q3 ?_;rw[PV Sl _];show wpAny _ A.in1 (pyNext (.ref I) >>= _) _ _ s;refine ZB (W.done s _ _ st λs' f=>?_);let⟨o,es,ep,t,Z,ho,C⟩:=O;exact ZP (B s' (f.mono Y) ⟨o,es,ep,t,Z,f.heap a _ u ho,C⟩)
 |succ m ih=>
  intro i s hk hi st k O B;have z:i<n:=by omega
  refine Pb Q3 ?_;rw[PV Sl _];show wpAny _ A.in1 (pyNext (.ref I) >>= _) _ _ s;refine ZB (W.item i s _ _ z st λv s' hv ZX f=>?_);obtain rfl:=SI i v hv;let⟨o,es,ep,t,Z,ho,C⟩:=O;have YL:=f.heap a _ u ho;have X:=kp f k;have p:∀j,j<n->IsT prog w s'.heap (key j).1 (key j).2:=λj K=>by
   let⟨x,ZU,c,e1,e2,e3,e4⟩:=V1 j K;exact⟨x,ZU,c,X _ _ e1,e2,e3,e4⟩
  show wpAny _ A.in1 (holding [Value.ref (key i).2] (setAdd a (.ref (key i).2)) >>= _) _ _ s';refine ZB (Vt (zt hu YL C (λd r=>?_) (p i z) (λd r e=>?_) (by have:=og key i;lia) (λE=>?_) λE h' o2 S T t2 Z2 sb J Q=>?_))
  .obtain ⟨j,K,rfl⟩:=cY key i d r
   exact p j (by lia)
  .obtain ⟨j,K,rfl⟩:=cY key i d r
   exact SH j i (by lia) z e
  .have U:dd key (i+1)=dd key i:=by rw[dd,YE E]
   refine ZP ⟨plainId_quiet Sl _,ih (i+1) _ () z (W.frame _ s' s'.heap _ ZX (QW _ _) λb _ o e=>e) X ⟨o,es,ep,t,Z,YL,by rw[U];exact C⟩ λD V g=>?_⟩
   exact B D (Moved.trans W.gtrans ((f.mono Y).then_heap (QW _ _) λb o _ e=>e) V) g
  .have U:dd key (i+1)=dd key i++[key i]:=by
    rw[dd,Yn];rintro⟨d,r,e⟩;exact E d r e
   refine ZP ⟨plainId_quiet Sl _,ih (i+1) _ () z (W.frame _ s' h' _ ZX (QW _ _) λb M o e=>?_) (λb o e=>?_) ⟨o2,S,T,t2,Z2,J,by rw[U];exact Q⟩ λD V g=>?_⟩
   .rw [sb.2 b λq:b=a=>y (by rw[<-q];exact M)];exact e
   .show h'.get? b=_
    rw[sb.2 b λq:b=a=>by rw[q,N]at e;cases e];exact X b o e
   .refine B D (Moved.trans W.gtrans ((f.mono Y).then_heap (QW _ _) λb o L e=>?_) V) g
    show h'.get? b=_;rw[sb.2 b λq:b=a=>L (by rw[q];exact Hr)];exact e
end
section
variable{E:Value->Shared->Prop}
abbrev Gg(w:World):Bool:=w.params.followText "set-order"
abbrev AX(w:World):Obj:={cls:=.type "set",dict:=none,data:=.set #[] 0 (.fresh 0 0 (!Gg w))}
def ye:Yu prog w (AX w) [] #[] 0 (.fresh 0 0 (!Gg w)) [] where
 ex:=⟨rfl,rfl,rfl⟩
 dt:=rfl
 tb:=⟨rfl,rfl,rfl,List.Pairwise.nil,λz a=>by(cases a),.inl rfl,QN _,λz a=>by(cases a)⟩
 pl:=rfl
 ld:=rfl
 fl:=(by decide:0<7*3)
 pm:=List.Perm.refl _
def z9(a:Value){Q₁ : Value->Shared->Prop}(h:Q₁ (.ref s.heap.objs.size) {s with heap:=s.heap.push (AX w)}):
  codeAny (model prog w) A (.call (.builtin "set.__new__") ⟨[.type "set",a],[]⟩) (wants Q₁ E) s:=by
 refine P4 ?_;show wpAny _ A.in1 (do checkBuiltinCall "set.__new__" ⟨[.type "set",a],[]⟩;again (.builtin "set.__new__" ⟨[.type "set",a],[]⟩)) _ _ s
 refine ZB (O4 (PySem.F.newCall_set_1 a) (ZP ⟨plainId_quiet PySem.F.plain_set_new _,Pb PySem.F.entry_set_new ?_⟩));rw[PV PySem.F.plain_set_new _];unfold Builtin.«set.__new__» Builtin.Frozenset.newClass;have Wy:=sub_set_self;let⟨hp,g,d,tk,os⟩:=s;dsimp only
 wp_walk
 refine SJ (ZP ?_);dsimp only;simp![newObj];refine ZB (wpAny_alloc (ZP ?_));exact ZP h
set_option maxHeartbeats 3200000 in
def wj{l:Addr}{items:Array Value}{Q:Value->Shared->Prop}{key:Nat->List Int×Addr}
  (hh:A.handled=none) (Y:A.units+3<cLine) (hl:s.heap.IsList l items) (SI:∀(i:Nat) (v:Value),items[i]?=some v->v=.ref (key i).2) (V1:∀i,i<items.size->IsT prog w s.heap (key i).1 (key i).2)
  (SH:∀i j,i<items.size->j<items.size->Zp prog w (key i).1=Zp prog w (key j).1->(key i).1=(key j).1) (Z:items.size<=300)
  (h:∀(h':Heap) (tk:Nat),SInv prog w s.heap.objs.size (dd key items.size) h'->(∀b o,s.heap.get? b=some o->h'.get? b=some o)->Q (.ref s.heap.objs.size) {s with heap:=h',toks:=tk}) :
  wpAny (model prog w) A (call (.type "set") [.ref l]) Q E s:=by
 let⟨c,tl,O⟩:=PySem.F.called_set.mro;have G:=PySem.F.called_set.made;have Wy:=PySem.F.called_set.sub;refine Oc (P4 ?_);show wpAny _ _ (callAny (.type "set") _) _ _ _;refine ZP ⟨Pe _ (by decide +kernel),Pb PySem.F.entry_type_call ?_⟩
 rw[Around.under_plain (weight_type_call_type "set" [.ref l] []) rfl];have h1:=PySem.F.called_set.notType;have h2:=PySem.F.called_set.canCreate;have hct:=PySem.F.typeCall_set_1 (.ref l)
 repeat (any_goals (first|assumption|wp_step))
 refine Qt (z9 (.ref l) (E:=E) (Q₁:=λobj S=>obj=.ref s.heap.objs.size/\S = {s with heap:=s.heap.push (AX w)}) ⟨rfl,rfl⟩) λr S m=>?_
 cases r with
 |error e=>exact m
 |ok fl=>
  cases fl with
  |ret obj=>
   let⟨rfl,rfl⟩:=m;have P:(s.heap.push (AX w)).get? s.heap.objs.size=some (AX w):=Ho _ rfl;have hT:Shared.TypeIs {s with heap:=s.heap.push (AX w)} (.ref s.heap.objs.size) "set":=⟨_,P,rfl⟩
   have hli:=PySem.F.called_set.init.lookup;have hbi:=PySem.F.called_set.init.bind (.ref s.heap.objs.size)
   repeat (any_goals (first|assumption|wp_step))
   refine Qt (QQ (R:=wants (λr T => r=.none /\ ∃ h' tk,T = { s with heap:=h',toks:=tk }/\SInv prog w s.heap.objs.size (dd key items.size) h'/\(∀ b o,s.heap.get? b=some o->h'.get? b=some o)) E)
    PySem.F.called_set.init.plain PySem.F.entry_set_init (check_set_init_1 hT ?_)) λk T y=>?_
   .obtain ⟨W,p,U,L,x⟩:=hl
    let⟨K,Rj,D,Ri⟩:=W;simp only at U x;subst U;subst x;have n:(s.heap.push (AX w)).get? l=some {cls:=.type "list",dict:=Rj,data:=.seq items L,slots:=Ri}:=Hg _ p;have M:=PySem.F.sub_list_set;have N:=PySem.F.sub_list_frozenset;have YR:(Value.type "list" == Value.type "dict")=false:=by decide
    have u:(s.heap.push (AX w)).IsList l items:=⟨_,n,rfl,L,rfl⟩;unfold Builtin.«set.__init__» noKeywords Builtin.Frozenset.updateFrom;generalize J:pyIter=PI
    wp_walk
    subst J;refine wpAny_pyIter_list u ?_;refine ZB (wpAny_runValue ?_);have t:l<s.heap.objs.size:=Hh p;have H:A.in1.in1.in1.handled=none:=by simp[hh]
    have z:(s.heap.push (AX w)).objs.size=s.heap.objs.size+1:=Pq _ _;have q:l≠(s.heap.push (AX w)).objs.size:=by rw[z];exact Hn (Qn t)
    have I:s.heap.objs.size ∉ [(s.heap.push (AX w)).objs.size,l]:=by
     rw[z];intro a;rcases X8.mp a with e|a
     .exact Hn (QX _) e
     .exact QU t (WL.mp a)
    have V:∀b,s.heap.objs.size<=b->s.heap.get? b=none:=λb g=>by
     cases e:s.heap.get? b with
     |none=>rfl
     |some o=>exact absurd (Hh e) (Nat.not_lt.mpr g)
    refine xr ((Walks.list H _ l q items).toS) (by first|exact Y|(simp![Around.in1_units];omega)) s.heap.objs.size I s.heap (V _ (Hk _)) (λb g=>V b (by rw[WL.mp g,z];exact VY _)) key (λi v X=>SI i v X) V1 SH Z (items.size-0) 0 _ (by lia) (QN _)
     ⟨⟨_,Ho _ rfl,rfl,rfl⟩,(u.push _)⟩ (λb o e=>Hg _ (Hg _ e)) ⟨AX w,_,_,_,[],Hg _ P,ye⟩ λs' a f=>?_
    let⟨h',g',d',B,C⟩:=s';have eg:g'=s.gens:=a.gens;have ed:d'=s.drawn:=a.drawn;have eo:C=s.os:=a.os;subst eg;subst ed;subst eo;show wpAny _ _ _ _ _ _;refine ZP ?_;show wpAny _ _ (ret Value.none) _ _ _;refine ZP ⟨rfl,h',B,rfl,f,λb o e=>?_⟩;have g:=Hh e;refine a.heap b o (λd=>?_) (Hg _ (Hg _ e));rcases X8.mp d with e'|d
    .exact Hn g e'
    .have:=WL.mp d
     rw[z]at this;exact Hn (Qn g) this
   .cases k with
    |error e=>exact y
    |ok Rh=>
     cases Rh with
     |ret r=>
      let⟨rfl,h',tk,rfl,f,XX⟩:=y
      repeat (any_goals (first|assumption|wp_step))
      exact h _ _ f XX
     |next=>exact y.elim
     |brk=>exact y.elim
     |cont=>exact y.elim
  |next=>exact m.elim
  |brk=>exact m.elim
  |cont=>exact m.elim
end
def lR{b:Type}(next:Nat->Nat):∀(fu k:Nat) (left:List b) (out:Array b),left.length<=fu->(pickOrder.go next fu k left out).toList.Perm (out.toList++left)
 |0,k,left,out,h=>by
  have:left=[]:=List.length_eq_zero_iff.mp (by lia)
  subst this;rw[pickOrder.go,Ux]
 |fu+1,k,left,out,h=>by
  rw[pickOrder.go];cases e:left[next k % left.length]? with
  |none=>
   dsimp only;cases left with
   |nil=>rw[Ux]
   |cons x l=>
    rw[YJ (OR _ (by rw[WJ];lia))]at e
    cases e
  |some x=>
   dsimp only;let⟨hi,ex⟩:=Ye.mp e;refine(lR next fu (k+1) _ _ (by rw[Of hi];lia)).trans ?_
   rw[Rn,Wx];refine Qi _ ?_;have a:left=left.take (next k % left.length)++x::left.drop (next k % left.length+1):=by
    rw[<-ex,<-VT hi,WK]
   rw[T1];generalize left.take (next k % left.length)=Ka at a ⊢;generalize left.drop (next k % left.length+1)=c at a ⊢;rw[a];exact(List.perm_middle (l₁:=Ka)).symm
def vV(next:Nat->Nat)(xs:Array α):(pickOrder next xs).toList.Perm xs.toList:=by
 unfold pickOrder;exact(lR next _ 0 _ #[] #[3]).trans #[3]
def IJ(w:World)(a:Addr)(c:Nat)(b:Array (Int×Value)):List (Int×Value):=if w.params.followText "set-order" then(pickOrder (w.params.setOrder a c) b).toList else b.toList
def gi(w:World)(a:Addr)(c:Nat)(b:Array (Int×Value)):(IJ w a c b).Perm b.toList:=by
 unfold IJ;split
 .exact vV _ _
 .exact .refl _
def bM:Slot "set_iterator" "__next__" "set_iterator.__next__":=
 .of (owner:="set_iterator") (n:="__next__") (by rw[typeLookup_type,builtinLookup_eq_fast];kernel_rfl) (by decide +kernel) (by decide +kernel) (by decide +kernel)
  (by first|exact .inl (by decide +kernel)|exact .inr (by decide +kernel)) (by rw[O5];kernel_rfl)
def iN:entryFor table "set_iterator.__next__" = some Builtin.«set_iterator.__next__»:=entryFor_of_tree (by kernel_rfl)
def jA(a:Value):argsOk "set_iterator.__next__" ⟨[a],[]⟩:=by unfold argsOk;kernel_rfl
def i5:Slot "set_iterator" "__iter__" "set_iterator.__iter__":=
 .of (owner:="set_iterator") (n:="__iter__") (by rw[typeLookup_type,builtinLookup_eq_fast];kernel_rfl) (by decide +kernel) (by decide +kernel) (by decide +kernel)
  (by first|exact .inl (by decide +kernel)|exact .inr (by decide +kernel)) (by rw[O5];kernel_rfl)
def uH:entryFor table "set.__iter__" = some Builtin.«frozenset.__iter__»:=
 entryFor_alias (id':="frozenset.__iter__") (by kernel_rfl) rfl (by decide +kernel) (by kernel_rfl)
section
variable{E:Value->Shared->Prop}{Z6 it:Addr}{o:Obj}{es:Array (Int×Value)}{t:SetTable}{Z:Z3}
def SIt(h:Heap)(it d:Addr)(a i n c:Nat):Prop:=∃o,h.get? it=some o/\o.cls=.type "set_iterator" /\ o.data=.fields #[.int a 0,.int i 0,.ref d,.int n 0,.int c 0]
def SIt.typeIs(h:SIt s.heap it Z6 slot i n ep):s.TypeIs (.ref it) "set_iterator":=let⟨o,e,c,_⟩:=h;⟨o,e,c⟩
def xY{Q:Value->Shared->Prop}(a:s.heap.get? Z6=some o)(P:Yu prog w o D es ep t Z)
  (h:Q (.ref s.heap.objs.size) {s with heap:=s.heap.push {cls:=.type "set_iterator",data:=.fields #[.int 0 0,.int 0 0,.ref Z6,.int es.size 0,.int ep 0]}}):wpAny (model prog w) A (pyIter (.ref Z6)) Q E s:=by
 have c:s.TypeIs (.ref Z6) "set":=⟨o,a,P.ex.1⟩;have hf:=P.tb.fits;refine Ox c PySem.F.slot_set_iter (Se PySem.F.slot_set_iter c uH ?_ (PySem.F.args_set_iter_1 _));unfold Builtin.«frozenset.__iter__» Builtin.Frozenset.slot0 slotArgs Builtin.Frozenset.addrOf Builtin.Frozenset.sizeOf;simp![Qs,S9,Xc,Vb,Ta,QK];refine ZB (ZP ?_);refine ZB (ZB (P8 a P.dt hf (ZP ?_)));refine ZB ?_;unfold setDrawn setsByText;refine ZB (TX a P.dt hf ?_);dsimp only;refine ZB (ZB (SJ (ZP ?_)));refine ZP ?_;rw[Yn (by show ¬ ((!w.params.followText "set-order" && (!t.plain&&decide (es.size > 1)))=true);rw[P.pl];simp)]
 refine ZB (ZP ?_);refine ZB (wpAny_setEpoch_of a P.dt hf ?_);exact ZB (Uc (ZP ⟨_,rfl,"set_iterator",_,⟨_,Ho _ rfl,rfl⟩,bM.lookup,by simpa[rawInt]using h⟩))
def SAt(w:World)(t:SetTable)(a i:Nat):Prop:=w.params.followText "set-order" = false->SetTable.below t.place a=i
def below_at(T:Tb t es Z){x:Nat}(e:t.place[i]?=some x):SetTable.below t.place (x+1)=i+1:=by
 let⟨c,b,d⟩:=T.below (x+1);have hi:=(Vr.mp e).1;rcases Nat.lt_trichotomy (SetTable.below t.place (x+1)) (i+1)with q|q|q
 .have:=b i x (by lia) e;lia
 .exact q
 .have a:t.place[i+1]?=some t.place[i+1]:=WB ()
  have h1:=c (i+1) _ q a;have h2:=T.lt i (i+1) _ _ (by lia) e a
  lia
def uC(T:Tb t es Z):SetTable.below t.place 0=0:=by
 let⟨b,d,c⟩:=T.below 0;rcases Nat.eq_zero_or_pos (SetTable.below t.place 0)with q|q
 .exact q
 .have a:t.place[0]?=some t.place[0]:=WB ()
  have:=b 0 _ q a;lia
def vq{e:Int×Value}{Q:Option (Value×Nat)->Shared->Prop}(f:s.heap.get? Z6=some o)(P:Yu prog w o D es ep t Z)(r:SAt w t slot i)(c:(IJ w Z6 ep es)[i]?=some e)
  (h:∀k,SAt w t k (i+1)->Q (some (e.2,k)) s):wpAny (model prog w) A (setNext Z6 slot i ep) Q E s:=by
 have hf:=P.tb.fits;unfold setNext;refine ZB (TX f P.dt hf ?_);dsimp only;unfold setsByText;refine ZB (ZB (SJ (ZP ?_)));dsimp only;cases a:w.params.followText "set-order" with
 |true=>
  have d:(model prog w).w.params.followText "set-order" = true:=a;rw[d,YE rfl,Yn #[3]]
  refine ZB ?_;unfold setWalk setsByText;refine ZB (TX f P.dt hf ?_);dsimp only;refine ZB (ZB (SJ (ZP ?_)));rw[d,YE rfl];refine ZB (SJ (ZP ?_));refine ZP ?_;have:(pickOrder ((model prog w).w.params.setOrder Z6 ep) es)[i]?=some e:=by
   unfold IJ at c;rw[YE a]at c;rw[<-W3];exact c
  rw[this];exact h slot (λq=>by rw[a]at q;cases q)
 |false=>
  have d:(model prog w).w.params.followText "set-order" = false:=a;rw[d,Yn #[1]]
  rw[Yn (by show ¬ ((!t.plain&&decide (es.size > 1))=true);rw[P.pl];simp)]
  refine ZB ?_;show wpAny _ _ (if(!t.led&&!es.isEmpty)=true then unsupported "set:maker-not-led" else pure Unit.unit) _ _ _
  rw[Yn (by rw[P.ld,a];simp)]
  refine ZP ?_;rw[r a];have j:es[i]?=some e:=by
   unfold IJ at c;rw[Yn (by rw[a];decide)]at c
   rw[<-W3];exact c
  have hi:i<t.place.size:=by
   have:=(Vr.mp j).1;rw[P.tb.len]at this;rw[P.tb.hp];simpa using this
  have g:t.place[i]?=some t.place[i]:=WB hi;rw[j,g];exact ZP (h _ λ_=>below_at P.tb g)
def vT{Q:Option (Value×Nat)->Shared->Prop}(f:s.heap.get? Z6=some o)(P:Yu prog w o D es ep t Z)(g:SAt w t slot i)(a:(IJ w Z6 ep es)[i]?=none)
  (h:Q none s):wpAny (model prog w) A (setNext Z6 slot i ep) Q E s:=by
 have hf:=P.tb.fits;unfold setNext;refine ZB (TX f P.dt hf ?_);dsimp only;unfold setsByText;refine ZB (ZB (SJ (ZP ?_)));dsimp only;cases c:w.params.followText "set-order" with
 |true=>
  have d:(model prog w).w.params.followText "set-order" = true:=c;rw[d,YE rfl,Yn #[3]]
  refine ZB ?_;unfold setWalk setsByText;refine ZB (TX f P.dt hf ?_);dsimp only;refine ZB (ZB (SJ (ZP ?_)));rw[d,YE rfl];refine ZB (SJ (ZP ?_));refine ZP ?_;have:(pickOrder ((model prog w).w.params.setOrder Z6 ep) es)[i]?=none:=by
   unfold IJ at a;rw[YE c]at a;rw[<-W3];exact a
  rw[this];exact h
 |false=>
  have d:(model prog w).w.params.followText "set-order" = false:=c;rw[d,Yn #[1]]
  rw[Yn (by show ¬ ((!t.plain&&decide (es.size > 1))=true);rw[P.pl];simp)]
  refine ZB ?_;show wpAny _ _ (if(!t.led&&!es.isEmpty)=true then unsupported "set:maker-not-led" else pure Unit.unit) _ _ _
  rw[Yn (by rw[P.ld,c];simp)]
  refine ZP ?_;rw[g c];have j:es[i]?=none:=by
   unfold IJ at a;rw[Yn (by rw[c];decide)]at a
   rw[<-W3];exact a
  rw[j];exact ZP h
def xt{e:Int×Value}{Q:Option Value->Shared->Prop}(a:SIt s.heap it Z6 slot i es.size ep)(j:s.heap.get? Z6=some o)(P:Yu prog w o D es ep t Z)(r:SAt w t slot i)(u:(IJ w Z6 ep es)[i]?=some e)
  (h:∀h' d,SIt h' it Z6 d (i+1) es.size ep->SAt w t d (i+1)->Heap.SameBut it s.heap h'->Q (some e.2) {s with heap:=h'}):wpAny (model prog w) A (pyNext (.ref it)) Q E s:=by
 let⟨B,f,y,c⟩:=id a;unfold pyNext;refine ZB (QD (Qc (name:=Str.ofString "__next__") a.typeIs bM (Se bM a.typeIs iN ?_ (jA _))));delta Builtin.«set_iterator.__next__» slotArgs;dsimp only;dsimp only [List.isEmpty_nil,Bool.not_true,List.length_nil];rw[if_neg (by decide)];try (rw[if_neg (by decide)]);refine ZB (ZP ?_);refine ZB (Og f c ?_);dsimp only;refine ZB (P8 j P.dt P.tb.fits ?_);rw[Yn #[3]]
 simp![Pu];refine ZB (vq j P r u λd z=>?_);dsimp only;refine ZB (Qg f c #[3] ?_)
 have g:(s.heap.update it (Obj.mapFields (·.setIfInBounds 0 (rawInt d)))).get? it=some _:=Uh _ f (RU (Ug c _));refine ZB (Qg g (Ug c _) #[3] ?_)
 have k:=Uh (Obj.mapFields (·.setIfInBounds 1 (rawInt ((i:Int)+1)))) g (RU (Ug (Ug c _) _));refine ZP ⟨_,rfl,ZP (h _ d ⟨_,k,((Pw ..).trans (Pw ..)).trans y,?_⟩ z ((TR ..).trans (TR ..)))⟩;rw[Ug (Ug c _)];simp[rawInt]
def xC{Q:Option Value->Shared->Prop}(k:A.handled=none)(c:SIt s.heap it Z6 slot i es.size ep)(d:s.heap.get? Z6=some o)(P:Yu prog w o D es ep t Z)(j:SAt w t slot i)(r:(IJ w Z6 ep es)[i]?=none)
  (h:∀h',Heap.ExtBut it s.heap h'->Q none {s with heap:=h'}):wpAny (model prog w) A (pyNext (.ref it)) Q E s:=by
 let⟨u,g,y,f⟩:=id c;unfold pyNext;refine ZB (QD (Qc (name:=Str.ofString "__next__") c.typeIs bM (Se bM c.typeIs iN ?_ (jA _))));delta Builtin.«set_iterator.__next__» slotArgs;dsimp only;dsimp only [List.isEmpty_nil,Bool.not_true,List.length_nil];rw[if_neg (by decide)];try (rw[if_neg (by decide)]);refine ZB (ZP ?_);refine ZB (Og g f ?_);dsimp only;refine ZB (P8 d P.dt P.tb.fits ?_);rw[Yn #[3]]
 simp![Pu];refine ZB (vT d P j r ?_);dsimp only;refine ZB (Qg g f #[3] ?_)
 refine ZB ?_;delta newExc newTuple;try dsimp only;refine ZB (Uc ?_ (by size_fits))
 refine ZB (m:=firstArgMember _ _) (O4 (a:=Value.none) (by first|rfl|(simp![firstArgMember];rfl)) (Uc ?_ (by size_fits)))
 delta raiseNew;try dsimp only;refine ZB (wpAny_handled ?_);rw[show A.in1.handled=none from k];refine ZB (ZP (wpAny_throw ?_));exact ZB (OG (T:="StopIteration") (b:=true) ⟨_,Ho _ rfl,rfl⟩ isSubtype_stop (ZP (h _ (((TR ..).extBut.push _).push _))))
end
def Ag:List Int->List Int->Bool
 |[],[]=>false
 |[],_::_=>true
 |_::_,[]=>false
 |a::r,b::q=>if a=b then Ag r q else decide (a<b)
section
variable{E:Value->Shared->Prop}
def aba(c:A.units<cLine){f:Bool}{a b:Int}{t u:Tok}{Q:Bool->Shared->Prop}(h:Q (decide (a<b)) s):wpAny (model prog w) A (oneLt' f (.int a t) (.int b u)) Q E s:=by
 cases f with
 |true=>exact oneLt_int h
 |false=>
  rw[oneLt'_eq];simp![Xc,Vb];refine ZB (wpAny_richCompare_same_room (op:=.Lt) (typeIs_int s a t) (typeIs_int s b u) slot_int_lt (call_int_lt ⟨(λe=>nomatch e),?_⟩) c);exact S_ h
def we(f:Bool)(x y:Value):keyLt' (tuples' f) x y=(do
  let xs<-Builtin.List.listItems x;let ys<-Builtin.List.listItems y
  for ((p,q),i)in (xs.toList.zip ys.toList).zipIdx do
   if !(<- eqBool p q)then return<-oneLt' (f&&i==0) p q
  return xs.size<ys.size):=rfl
def acu(L:A.units<cLine){f:Bool}{x y:List Int}{b:Addr}{Q:Bool->Shared->Prop}(K:IsT prog w s.heap x a)(J:IsT prog w s.heap y b)(h:Q (Ag x y) s):
  wpAny (model prog w) A (keyLt' (tuples' f) (.ref a) (.ref b)) Q E s:=by
 let⟨V,xs,na,F,_,H,N⟩:=K;let⟨ob,ys,nb,D,_,M,G⟩:=J;rw[we];refine ZB (listItems_at F H ?_);refine ZB (listItems_at D M ?_);refine ZB ?_;refine PJ _
  (λZR r s'=>r.1=none/\s'=s /\∃p o m n k,ZR=(List.zip m n).zipIdx k/\ItemsAre (intKind prog w) p m/\ItemsAre (intKind prog w) o n/\Ag p o=Ag x y/\(m.length+ys.size=n.length+xs.size))
  _ ?_ ?_ _ _ ⟨rfl,rfl,x,y,xs.toList,ys.toList,0,rfl,N,G,rfl,by simp[Nat.add_comm]⟩
 .rintro ⟨⟨u,v⟩,i⟩ ZR r s' ⟨C,rfl,p,o,m,n,k,c,I,q,t,hlen⟩
  cases I with
  |nil=>simp at c
  |@cons k1 P B e h1 j=>
   cases q with
   |nil=>simp at c
   |@cons k2 O z d h2 g=>
    simp![Qw,List.zipIdx_cons,O0,OB]at c;let⟨⟨⟨rfl,rfl⟩,rfl⟩,rfl⟩:=c;refine ZB ((intKind prog w).eqBool (a:=k1) (b:=k2) h1 h2 ?_);by_cases hk:k1=k2
    .subst hk
     rw[Td rfl];simp![S9,Xc,Vb];refine ZP ⟨rfl,rfl,B,z,e,d,i+1,rfl,j,g,?_,?_⟩
     .rw [<-t];simp[Ag]
     .simp only [WJ]at hlen;lia
    .rw [VB hk]
     simp![Oe,Tj];let⟨S,rfl⟩:=QG h1;let⟨R,rfl⟩:=QG h2;refine ZB (aba L ?_);refine ZP (ZP ?_);have:Ag x y=decide (k1<k2):=by rw[<-t];simp[Ag,hk]
     rw[this]at h;exact h
 .rintro ⟨U,T⟩ s' ⟨C,rfl,p,o,m,n,k,c,I,q,t,hlen⟩
  simp only at C;subst C;refine ZP ?_;have l:decide (xs.size<ys.size)=Ag x y:=by
   rw[<-t];cases I with
   |nil=>
    cases q with
    |nil=>simp![Ag,Ta]at hlen ⊢;exact VB (by lia)
    |cons _ _=>simp![Ag,Ta,WJ]at hlen ⊢;exact Td (by lia)
   |cons _ _=>
    cases q with
    |nil=>simp![Ag,Ta,WJ]at hlen ⊢;exact VB (by lia)
    |cons _ _=>simp at c
  rw[l];exact h
end
def AG(prog:Program)(w:World)(A:Around)(E:Value->Shared->Prop)(s:Shared)(a:SortKind)(ZN : Array Keyed)(rk:Keyed->Nat):Prop:=
 ∀x y,x∈ZN -> y∈ZN ->∀(st:SortSt) (Q:Option Bool->SortSt->Prop),kindOf st=a->Q (some (decide (rk x<rk y))) st->wpS (model prog w) A E s (lt' x y) Q st
def IK(rk:Keyed->Nat)(a:Array Keyed)(i:Nat):Nat:=(a[i]?.map rk).getD 0
structure SB(κ:SortKind)(ZN : Array Keyed)(st:SortSt):Prop where
 perm:(arrOf st).Perm ZN
 failed:failedOf st=none
 kind:kindOf st=κ
def Up(r:Nat->Nat)(lo hi:Nat):Prop:=∀i j,lo<=i->i<=j->j<hi->r i<=r j
def Dn(r:Nat->Nat)(lo hi:Nat):Prop:=∀i j,lo<=i->i<=j->j<hi->r j<=r i
structure Kp(κ:SortKind)(ZN : Array Keyed)(lo hi:Nat)(st ZX:SortSt):Prop where
 sb:SB κ ZN ZX
 out:∀i,(i<lo\/hi<=i)->(arrOf ZX)[i]?=(arrOf st)[i]?
 pend:pendingOf ZX=pendingOf st
section
variable{E:Value->Shared->Prop}{hi:Nat}
def SB.size(B:SB κ ZN st):(arrOf st).size=ZN.size:=B.perm.size_eq
def Kp.refl(B:SB κ ZN st):Kp κ ZN lo hi st st:=⟨B,λ_ _=>rfl,rfl⟩
def Kp.trans{a b:SortSt}(h:Kp κ ZN lo hi st a)(h':Kp κ ZN lo hi a b):Kp κ ZN lo hi st b:=⟨h'.sb,λi hi=>(h'.out i hi).trans (h.out i hi),h'.pend.trans h.pend⟩
def SB.setArr(B:SB κ ZN st){xs:Array Keyed}(h:xs.Perm (arrOf st)):SB κ ZN (setArr st xs):=⟨h.trans B.perm,B.failed,B.kind⟩
def da(Z7:AG prog w A E s κ ZN rk)(B:SB κ ZN st){Q:Option Bool->SortSt->Prop}(hi:i<ZN.size)(hj:j<ZN.size)
  (h:Q (some (decide (IK rk (arrOf st) i<IK rk (arrOf st) j))) st):wpS (model prog w) A E s (ltAt' i j) Q st:=by
 have YI:i<(arrOf st).size:=by rw[B.size];exact hi
 have X9:j<(arrOf st).size:=by rw[B.size];exact hj
 have ei:(arrOf st)[i]?=some (arrOf st)[i]:=WB YI;have ej:(arrOf st)[j]?=some (arrOf st)[j]:=WB X9;rw[ltAt'_eq];refine YX (P9 ?_);show wpS _ _ _ _ (do let x<-elem' (arrOf st) i;let y<-elem' (arrOf st) j;lt' x y) Q st
 rw[elem'_eq,elem'_eq,ei,ej];refine YX (XN (YX (XN ?_)));refine Z7 _ _ (B.perm.mem_iff.mp (VM YI)) (B.perm.mem_iff.mp (VM X9)) st Q B.kind ?_;unfold IK at h;rw[ei,ej]at h;exact h
def wt{a:Array Keyed}(b:j<=a.size)(k:Nat):IK rk (mirror a i j ((j-i) / 2)) k=if i<=k/\k<j then IK rk a (i+j-1-k)else IK rk a k:=by
 unfold IK;rw[getElem?_mirror_all b];split<;>rfl
def bW(B:SB κ ZN st){Q:Unit->SortSt->Prop}(c:j<=ZN.size)
  (h:∀a,SB κ ZN a->pendingOf a=pendingOf st->(∀k,¬ (i<=k/\k<j)->(arrOf a)[k]?=(arrOf st)[k]?)->(∀k,IK rk (arrOf a) k=if i<=k/\k<j then IK rk (arrOf st) (i+j-1-k)else IK rk (arrOf st) k)->Q Unit.unit a) :
  wpS (model prog w) A E s (reverseSlice' i j) Q st:=by
 have b:j<=(arrOf st).size:=by rw[B.size];exact c
 rw[reverseSlice'_eq];refine Qx (h _ (B.setArr (mirror_perm _ _ _ _)) rfl (λk hk=>?_) λk=>wt b k);show(mirror (arrOf st) i j ((j-i) / 2))[k]?=_;rw[getElem?_mirror_all b,Yn hk]
def cD(Z7:AG prog w A E s κ ZN rk)(B:SB κ ZN st){Zi:Nat}{Q:Option (Option Nat)×Nat->SortSt->Prop}(h1:1<=n)(h2:n<=Zi)(hs:lo+Zi<=ZN.size)(hu:Up (IK rk (arrOf st)) lo (lo+n))
  (h:∀m,n<=m->m<=Zi->Up (IK rk (arrOf st)) lo (lo+m)->(m=Zi\/IK rk (arrOf st) (lo+m)<IK rk (arrOf st) (lo+m-1))->Q (none,m) st) :
  wpS (model prog w) A E s (forIn [n:Zi] ((none,n):Option (Option Nat)×Nat) λ_ c=>do
   let VA<-ltAt' (lo+c.2) (lo+c.2-1)
   match VA with
   |some SG=>if SG=true then pure (ForInStep.done (none,c.2))else pure (ForInStep.yield (none,c.2+1))
   |_=>pure (ForInStep.done (some none,c.2))) Q st:=by
 refine TY (UW (I:=λx c ZX=>ZX=st/\c=(none,x)/\x<=Zi/\Up (IK rk (arrOf st)) lo (lo+x))
  (Q:=λc ZX=>ZX=st /\∃m,c=(none,m)/\n<=m/\m<=Zi/\Up (IK rk (arrOf st)) lo (lo+m)/\(m=Zi\/IK rk (arrOf st) (lo+m)<IK rk (arrOf st) (lo+m-1))) ?_ ?_ ⟨rfl,rfl,h2,hu⟩) ?_
 .rintro x c ZX hnx hx ⟨rfl,rfl,_,YQ⟩
  refine YX (da Z7 B (by lia) () ?_)
  by_cases hl:IK rk (arrOf ZX) (lo+x)<IK rk (arrOf ZX) (lo+x-1)
  .simp only [hl,Pj,Tj]
   exact XN ⟨rfl,x,rfl,hnx,by lia,YQ,.inr hl⟩
  .simp only [hl,Qy,Xc,Vb]
   refine XN ⟨rfl,rfl,by lia,λi j hi Y3 hj=>?_⟩
   by_cases q:j<lo+x
   .exact YQ i j hi Y3 q
   .have:j=lo+x:=by lia
    subst this;by_cases q2:i=lo+x
    .rw [q2];exact Hk _
    .exact Hi (YQ i (lo+x-1) hi (by lia) ()) (by lia)
 .rintro c ZX ⟨rfl,rfl,_,YQ⟩
  have e:max n Zi=Zi:=by lia
  rw[e]at YQ ⊢;exact⟨rfl,Zi,rfl,h2,Hk _,YQ,.inl rfl⟩
 .rintro c ZX ⟨rfl,m,rfl,a,b,c,d⟩
  exact h m a b c d
end
section
variable{E:Value->Shared->Prop}{hi:Nat}
def Eqs(r:Nat->Nat)(lo n q:Nat):Prop:=q+1<=n /\∀i,lo+n-(q+1)<=i->i<lo+n->r i=r (lo+n-1)
def fX(B:SB κ ZN st){q:Nat}{Q:Unit->SortSt->Prop}(d:Eqs (IK rk (arrOf st)) lo n q)(b:lo+n<=ZN.size)
  (h:∀a,Kp κ ZN lo (lo+n) st a->(∀k,IK rk (arrOf a) k=IK rk (arrOf st) k)->Q Unit.unit a):wpS (model prog w) A E s (reverseSlice' (lo+n-(q+1)) (lo+n)) Q st:=by
 let⟨h1,h2⟩:=d;refine bW (rk:=rk) B b λa f e ho c=>h a ⟨f,λi hi=>ho i (),e⟩ λk=>?_
 rw[c k];split
 .rename_i hk
  rw[h2 _ () (),h2 k (by lia) ()]
 .rfl
def jq(z:AG prog w A E s κ ZN rk)(B:SB κ ZN st){g:Nat}{Q:Option (Option Nat)×Nat×Nat->SortSt->Prop}(O:1<=n)(y:n<=g)(M:lo+g<=ZN.size)(G:Dn (IK rk (arrOf st)) lo (lo+n))
  (h:∀m q f,Kp κ ZN lo (lo+g) st f->n<=m->m<=g->Dn (IK rk (arrOf f)) lo (lo+m)->Eqs (IK rk (arrOf f)) lo m q->Q (none,m,q) f) :
  wpS (model prog w) A E s (forIn [n:g] ((none,n,0):Option (Option Nat)×Nat×Nat) λ_ c =>
   ltAt' (lo+c.2.1) (lo+c.2.1-1) >>= λv=>match v with
   |some SG=>if SG=true then
     (if c.2.2 > 0 then reverseSlice' (lo+c.2.1-(c.2.2+1)) (lo+c.2.1) >>= λ_=>pure (ForInStep.yield (none,c.2.1+1,0))else pure (ForInStep.yield (none,c.2.1+1,0)))
    else (ltAt' (lo+c.2.1 - 1) (lo+c.2.1) >>= λv=>match v with
     |some Rg=>if Rg=true then pure (ForInStep.done (none,c.2.1,c.2.2))else pure (ForInStep.yield (none,c.2.1+1,c.2.2+1))
     |_=>pure (ForInStep.done (some none,c.2.1,c.2.2)))
   |_=>pure (ForInStep.done (some none,c.2.1,c.2.2))) Q st:=by
 refine TY (UW (I:=λx c f=>Kp κ ZN lo (lo+g) st f /\ ∃ q,c=(none,x,q)/\x<=g/\Dn (IK rk (arrOf f)) lo (lo+x)/\Eqs (IK rk (arrOf f)) lo x q)
  (Q:=λc f=>Kp κ ZN lo (lo+g) st f /\∃m q,c=(none,m,q)/\n<=m/\m<=g/\Dn (IK rk (arrOf f)) lo (lo+m)/\Eqs (IK rk (arrOf f)) lo m q) ?_ ?_
  ⟨Kp.refl B,0,rfl,y,G,by lia,λi a b=>by congr 1;lia⟩) ?_
 .rintro x c f t L ⟨hk,q,rfl,_,l,o⟩
  have k:∀{r:Nat->Nat},Dn r lo (lo+x)->r (lo+x)<=r (lo+x-1)->Dn r lo (lo+(x+1)):=λ{r} l hl i j hi K N=>by
   by_cases q:j<lo+x
   .exact l i j hi K q
   .have:j=lo+x:=by lia
    subst this;by_cases p:i=lo+x
    .rw [p];exact Hk _
    .exact Hi hl (l i (lo+x-1) hi (by lia) ())
  have one:∀r:Nat->Nat,Eqs r lo (x+1) 0:=λr=>⟨by lia,λi a b=>by congr 1;lia⟩
  dsimp only;refine YX (da z hk.sb (by lia) () ?_)
  by_cases hl:IK rk (arrOf f) (lo+x)<IK rk (arrOf f) (lo+x-1)
  .simp only [hl,Pj,Tj]
   by_cases D:q > 0
   .rw [YE D]
    refine YX (fX hk.sb o (by lia) λJ u F=>XN ⟨hk.trans ⟨u.sb,λi hi=>u.out i (by lia),u.pend⟩,0,rfl,by lia,?_,one _⟩)
    have e:IK rk (arrOf J)=IK rk (arrOf f):=funext F;rw[e];exact k l (by lia)
   .rw [Yn D]
    exact XN ⟨hk,0,rfl,by omega,k l (),one _⟩
  .simp only [hl,Qy,Xc,Vb]
   refine YX (da z hk.sb (by lia) (by lia) ?_)
   by_cases C:IK rk (arrOf f) (lo+x-1)<IK rk (arrOf f) (lo+x)
   .simp only [C,Pj,Tj]
    exact XN ⟨hk,x,q,rfl,t,by omega,l,o⟩
   .simp only [C,Qy,Xc,Vb]
    refine XN ⟨hk,q+1,rfl,by omega,k l (by lia),by have:=o.1;lia,λi a b=>?_⟩
    have H:lo+(x+1)-1=lo+x:=by lia
    rw[H];by_cases p:i=lo+x
    .rw [p]
    .rw [o.2 i (by have:=o.1;lia) (by lia)];lia
 .rintro c f ⟨hk,q,rfl,_,l,o⟩
  have e:max n g=g:=by omega
  rw[e]at l o ⊢;exact⟨hk,g,q,rfl,y,Hk _,l,o⟩
 .rintro c f ⟨hk,m,q,rfl,a,b,c,d⟩
  exact h m q f hk a b c d
end
section
variable{E:Value->Shared->Prop}{hi:Nat}
def eR{r a:Nat->Nat}(c:Dn r lo (lo+n))(b:∀k,a k=if lo<=k/\k<lo+n then r (lo+(lo+n)-1-k)else r k):Up a lo (lo+n):=λi j hi e d=>by
 rw[b i,b j,YE (by lia),YE (by lia)]
 exact c _ _ () () ()
def vp(t:AG prog w A E s κ ZN rk)(B:SB κ ZN st){g:Nat}{Q:Option Nat->SortSt->Prop}(h1:1<=g)(v:lo+g<=ZN.size)
  (h:∀m X,Kp κ ZN lo (lo+g) st X->1<=m->m<=g->Up (IK rk (arrOf X)) lo (lo+m)->Q (some m) X) :
  wpS (model prog w) A E s (countRun' lo g) Q st:=by
 rw[countRun'_eq];refine YX (cD t B (Hk 1) h1 v (λi j hi P V=>by have:i=j:=(by lia);rw[this];exact Hk _) λn Yp X6 M T=>?_)
 dsimp only;by_cases U:n=g
 .rw [YE (by simp[U])]
  exact XN (h n st (Kp.refl B) Yp X6 M)
 .rw [Yn (by simp[U])]
  have Ze:IK rk (arrOf st) (lo+n)<IK rk (arrOf st) (lo+n-1):=T.resolve_left U;have Ww:n<g:=by lia
  have p:∀{r:Nat->Nat},Dn r lo (lo+n)->r (lo+n)<=r (lo+n-1)->Dn r lo (lo+(n+1)):=λ{r} Ys hl i j hi P V=>by
   by_cases q:j<lo+n
   .exact Ys i j hi P q
   .have:j=lo+n:=by lia
    subst this;by_cases q2:i=lo+n
    .rw [q2];exact Hk _
    .exact Hi hl (Ys i (lo+n-1) hi (by lia) ())
  by_cases I:n > 1
  .rw [YE I]
   refine YX (da t B (by lia) () ?_)
   by_cases H:IK rk (arrOf st) lo<IK rk (arrOf st) (lo+n-1)
   .simp only [H,Pj,Tj]
    exact XN (h n st (Kp.refl B) Yp X6 M)
   .simp only [H,Qy,Xc,Vb]
    have N:∀i,lo<=i->i<lo+n->IK rk (arrOf st) i=IK rk (arrOf st) (lo+n-1):=λi a b=>by
     have Z:=M lo i (Hk _) a b;have Y:=M i (lo+n-1) a (by lia) ()
     lia
    refine YX (bW (rk:=rk) B (by lia) λO B1 hp ho R=>?_)
    have Z:∀k,IK rk (arrOf O) k=IK rk (arrOf st) k:=λk=>by
     rw[R k];split
     .rw [N _ () (),N k (by lia) (by lia)]
     .rfl
    have Y:IK rk (arrOf O)=IK rk (arrOf st):=funext Z;have C:Kp κ ZN lo (lo+g) st O:=⟨B1,λi hi=>ho i (by lia),hp⟩
    have y:Dn (IK rk (arrOf O)) lo (lo+(n+1)):=by
     rw[Y];exact p (λi j hi P V=>by rw[N i (by lia) (by lia),N j (by lia) (by lia)];exact Hk _) (by lia)
    refine YX (Oh (QR ⟨rfl,?_⟩));refine YX (jq t C.sb (by lia) (by lia) v y λm q W l Vz K d S=>?_)
    dsimp only;by_cases L:q > 0
    .rw [YE L]
     refine YX (fX l.sb S (by lia) λJ o H=>?_)
     have e:IK rk (arrOf J)=IK rk (arrOf W):=funext H;have x:Dn (IK rk (arrOf J)) lo (lo+m):=by rw[e];exact d
     refine YX (bW (rk:=rk) o.sb () λz f D F G=>?_)
     refine YX (cD t f (by lia) K v (eR x G) λu a b c _=>?_)
     exact XN (h u z ((C.trans l).trans (Kp.trans ⟨o.sb,λi hi=>o.out i (by lia),o.pend⟩ ⟨f,λi hi=>F i (by lia),D⟩)) (by lia) b c)
    .rw [Yn L]
     refine YX (bW (rk:=rk) l.sb () λz f D F G=>?_)
     refine YX (cD t f () K v (eR d G) λu a b c _=>?_)
     exact XN (h u z ((C.trans l).trans ⟨f,λi hi=>F i (),D⟩) () b c)
  .rw [Yn I]
   have:n=1:=by lia
   subst this;have C:Kp κ ZN lo (lo+g) st st:=Kp.refl B;have y:Dn (IK rk (arrOf st)) lo (lo+(1+1)):=p (λi j hi P V=>by have:i=j:=(by lia);rw[this];exact Hk _) (by lia)
   refine YX (Oh (QR ⟨rfl,?_⟩));refine YX (jq t C.sb (by lia) (by lia) v y λm q W l Vz K d S=>?_)
   dsimp only;by_cases L:q > 0
   .rw [YE L]
    refine YX (fX l.sb S (by lia) λJ o H=>?_)
    have e:IK rk (arrOf J)=IK rk (arrOf W):=funext H;have x:Dn (IK rk (arrOf J)) lo (lo+m):=by rw[e];exact d
    refine YX (bW (rk:=rk) o.sb () λz f D F G=>?_)
    refine YX (cD t f (by lia) K v (eR x G) λu a b c _=>?_)
    exact XN (h u z ((C.trans l).trans (Kp.trans ⟨o.sb,λi hi=>o.out i (by lia),o.pend⟩ ⟨f,λi hi=>F i (by lia),D⟩)) (by lia) b c)
   .rw [Yn L]
    refine YX (bW (rk:=rk) l.sb () λz f D F G=>?_)
    refine YX (cD t f () K v (eR d G) λu a b c _=>?_)
    exact XN (h u z ((C.trans l).trans ⟨f,λi hi=>F i (),D⟩) () b c)
def jC{a:Array Keyed}{b:Nat}(c:b<a.size)(e:d<=b)(k:Nat):IK rk (bubble a b d) k=if k=b-d then IK rk a b else if b-d<k/\k<=b then IK rk a (k-1)else IK rk a k:=by
 unfold IK;rw[getElem?_bubble c d e k];split
 .rfl
 .split<;>rfl
def uq(Z7:AG prog w A E s κ ZN rk)(B:SB κ ZN st){ok:Nat}{Q:Bool->SortSt->Prop}(hs:lo+n<=ZN.size)(ZK:ok<=n)(hu:Up (IK rk (arrOf st)) lo (lo+ok))
  (h:∀ZX,Kp κ ZN lo (lo+n) st ZX->Up (IK rk (arrOf ZX)) lo (lo+n)->Q true ZX):wpS (model prog w) A E s (binarySort' lo n ok) Q st:=by
 rw [binarySort'_eq];refine YX (TY (UW (I:=λk c ZX=>c=(none,Unit.unit)/\Kp κ ZN lo (lo+n) st ZX/\Up (IK rk (arrOf ZX)) lo (lo+min k n))
  (Q:=λc ZX=>c=(none,Unit.unit)/\Kp κ ZN lo (lo+n) st ZX/\Up (IK rk (arrOf ZX)) lo (lo+n)) ?step ?fin ?init) ?post)
 case post=>
  rintro c ZX ⟨rfl,hk,YQ⟩;exact XN (h ZX hk YQ)
 case init=>
  refine⟨rfl,Kp.refl B,λi j hi Y3 hj=>?_⟩;by_cases q:ok=0
  .have:i=j:=by lia
   rw[this];exact Hk _
  .exact hu i j hi Y3 (by lia)
 case fin=>
  rintro c ZX ⟨hc,hk,YQ⟩;refine⟨hc,hk,?_⟩;rwa[show min (max (max ok 1) n) n=n by omega]at YQ
 case step=>
  rintro k c ZX hak UK ⟨rfl,hk,YQ⟩;rw[show min k n=k by lia]at YQ
  refine YX (TY (UW (I:=λx c Y4=>Y4=ZX /\ ∃ l r,c=(none,l,r)/\l<=r/\r<=k/\r - l<=k - x /\
    (∀i,i<l->IK rk (arrOf ZX) (lo+i)<=IK rk (arrOf ZX) (lo+k))/\(∀i,r<=i->i<k->IK rk (arrOf ZX) (lo+k)<IK rk (arrOf ZX) (lo+i)))
   (Q:=λc Y4=>Y4=ZX /\ ∃ l r,c=(none,l,r)/\l<=k /\
    (∀i,i<l->IK rk (arrOf ZX) (lo+i)<=IK rk (arrOf ZX) (lo+k))/\(∀i,l<=i->i<k->IK rk (arrOf ZX) (lo+k)<IK rk (arrOf ZX) (lo+i))) ?Rf ?ifin ?Rc) ?Rb)
  case Rc=>exact⟨rfl,0,k,rfl,by lia,by lia,by lia,λi hi=>by lia,λi a b=>by lia⟩
  case ifin=>
   rintro c Y4 ⟨rfl,l,r,rfl,hlr,hrk,hm,V0,UJ⟩;have e:l=r:=by lia
   subst e;exact⟨rfl,l,l,rfl,hrk,V0,UJ⟩
  case Rf=>
   rintro x c Y4 _ hxk ⟨rfl,l,r,rfl,hlr,hrk,hm,V0,UJ⟩;dsimp only;by_cases X_:l ≥ r
   .rw [YE X_]
    have e:l=r:=by lia
    subst e;exact XN ⟨rfl,l,l,rfl,hrk,V0,UJ⟩
   .rw [Yn X_]
    refine YX (da Z7 hk.sb (by lia) (by lia) ?_)
    by_cases S8:IK rk (arrOf Y4) (lo+k)<IK rk (arrOf Y4) (lo+(l+r) / 2)
    .simp only [S8,Pj,Tj]
     refine XN ⟨rfl,l,(l+r) / 2,rfl,by lia,by lia,by omega,V0,λi a b=>?_⟩
     exact Hm S8 (YQ _ _ (by lia) (by lia) (by lia))
    .simp only [S8,Qy,Xc,Vb]
     refine XN ⟨rfl,(l+r) / 2+1,r,rfl,by lia,by lia,by omega,λi a=>?_,UJ⟩
     exact Hi (YQ (lo+i) (lo+(l+r) / 2) (by lia) (by lia) (by lia)) (Nat.not_lt.mp S8)
  case Rb=>
   rintro c Y4 ⟨rfl,l,r,rfl,WT,V0,UJ⟩;show wpS _ _ _ _ (do moveDown' (lo+k) (lo+l);pure (ForInStep.yield (none,Unit.unit))) _ _
   rw[moveDown'_eq];have hks:lo+k<(arrOf Y4).size:=by rw[hk.sb.size];lia
   refine YX (Qx (XN ⟨rfl,hk.trans ⟨hk.sb.setArr (bubble_perm _ _ _),λi hi=>?_,rfl⟩,?_⟩))
   .show (bubble (arrOf Y4) (lo+k) (lo+k-(lo+l)))[i]?=_
    rw[getElem?_bubble hks _ (),Yn (),Yn (by lia)]
   .rw [show min (k+1) n=k+1 by lia]
    intro i j hi Y3 hj;show IK rk (bubble (arrOf Y4) (lo+k) (lo+k-(lo+l))) i<=IK rk (bubble (arrOf Y4) (lo+k) (lo+k-(lo+l))) j;rw[jC hks (),jC hks (),show lo+k-(lo+k-(lo+l))=lo+l by lia]
    have key1:∀i,lo<=i->i<lo+l->IK rk (arrOf Y4) i<=IK rk (arrOf Y4) (lo+k):=λi a b=>by have:=V0 (i-lo) (by lia);rwa[show lo+(i-lo)=i by lia]at this
    have key2:∀i,lo+l<=i->i<lo+k->IK rk (arrOf Y4) (lo+k)<IK rk (arrOf Y4) i:=λi a b=>by have:=UJ (i-lo) (by lia) ();rwa[show lo+(i-lo)=i by lia]at this
    repeat' split
    all_goals first
     |(exfalso;lia)
     |exact Hk _
     |exact key1 _ (by lia) (by lia)
     |exact Qf (key2 _ (by lia) ())
     |exact YQ _ _ (by lia) (by lia) ()
end
def cL:∀a:List Int,Ag a a=false
 |[]=>rfl
 |x::r=>by simp[Ag,cL r]
def cT:∀{a b c:List Int},Ag a b=true->Ag b c=true->Ag a c=true
 |[],[],_,h,_=>by cases h
 |[],_::_,[],_,h=>by cases h
 |[],_::_,_::_,_,_=>rfl
 |_::_,[],_,h,_=>by cases h
 |_::_,_::_,[],_,h=>by cases h
 |x::a,y::b,z::c,h1,h2=>by
  simp![Ag]at h1 h2 ⊢;by_cases e:x=y
  .subst e
   rw[YE rfl]at h1;by_cases d:x=z
   .subst d;rw[YE rfl]at h2 ⊢;exact cT h1 h2
   .rw [Yn d]at h2 ⊢;exact h2
  .rw [Yn e]at h1
   have h1:=Ht h1;by_cases d:y=z
   .subst d;rw[Yn e];exact Td h1
   .rw [Yn d]at h2
    have h2:=Ht h2;rw[Yn (by lia)]
    exact Td ()
def cK:∀{a b:List Int},Ag a b=false->Ag b a=false->a=b
 |[],[],_,_=>rfl
 |[],_::_,h,_=>by cases h
 |_::_,[],_,h=>by cases h
 |x::a,y::b,h1,h2=>by
  simp![Ag]at h1 h2;by_cases e:x=y
  .subst e
   rw[YE rfl]at h1 h2;rw[cK h1 h2]
  .rw [Yn e]at h1
   rw[Yn (λq=>e q.symm)]at h2;have h1:=Pf h1;have h2:=Pf h2;lia
def j7{c:Type}{p q:c->Bool}:∀{l:List c},(∀x∈l,p x=true->q x=true)->(∃x∈l,q x=true/\p x=false)->l.countP p<l.countP q
 |[],_,⟨x,h,_⟩=>by cases h
 |a::l,h1,⟨x,b,d,hp⟩=>by
  have mono:l.countP p<=l.countP q:=List.countP_mono_left λx b h=>h1 x (Hl _ b) h;rw[List.countP_cons,List.countP_cons];rcases X8.mp b with rfl|b
  .rw [d,hp];simp;lia
  .have ih:=j7 (λx b=>h1 x (Hl _ b)) ⟨x,b,d,hp⟩
   have h2:=h1 a Hr;cases ep:p a with
   |false=>simp![Xc,Vb];split<;>lia
   |true=>rw[h2 ep];simp;omega
abbrev Y_:=List (List Int×Addr)
def DP(D:Y_)(v:Value):List Int:=open Classical in match D.find? λd=>decide (Value.ref d.2=v)with
 |some d=>d.1
 |none=>[]
def IL(D:Y_)(x:Keyed):Nat:=D.countP λd=>Ag d.1 (DP D x.1)
section
variable{E:Value->Shared->Prop}{D:Y_}
def km(f:∀d∈D,IsT prog w s.heap d.1 d.2){d:List Int×Addr}(c:d∈D):DP D (.ref d.2)=d.1:=by
 unfold DP;cases e:D.find? λb=>open Classical in decide (Value.ref b.2=Value.ref d.2)with
 |none=>
  have:=List.find?_eq_none.mp e d c;simp at this
 |some b=>
  have h1:=List.find?_some e;have h2:=Oo e;have g:b.2=d.2:=by simpa using h1
  have a:=f b h2;rw[g]at a;exact a.inj (f d c)
def sf(c:∀d∈D,IsT prog w s.heap d.1 d.2){d e:List Int×Addr}(b:d∈D)(f:e∈D)(u v:Value):Ag d.1 e.1=decide (IL D (.ref d.2,u)<IL D (.ref e.2,v)):=by
 unfold IL;rw[km c b,km c f];cases h:Ag d.1 e.1 with
 |true=>exact(Td (j7 (λx _ a=>cT a h) ⟨d,b,h,cL _⟩)).symm
 |false=>
  refine(VB (Nat.not_lt.mpr ?_)).symm;refine List.countP_mono_left λx _ a=>?_;cases h2:Ag e.1 d.1 with
  |true=>exact cT a h2
  |false=>rw[cK h h2];exact a
def adC(k:A.units<cLine)(a:∀d∈D,IsT prog w s.heap d.1 d.2){f:Bool}{ZN : Array Keyed}(g:∀x∈ZN,∃d∈D,x=(.ref d.2,.ref d.2)):AG prog w A E s (tuples' f) ZN (IL D):=by
 intro x y j i st Q hk h;let⟨d,c,rfl⟩:=g x j;let⟨e,b,rfl⟩:=g y i;rw[lt'_eq];refine YX (P9 ?_);rw[hk];refine YX (Oh (QD (acu k (a d c) (a e b) ⟨rfl,?_⟩)));rw[sf a c b (.ref d.2) (.ref e.2)];exact XN h
end
def IM:Bool->Keyed->Array Keyed->Nat->Nat->Nat->StateT SortSt Sem (Option Nat):=sortPriv% PySem.Builtin.gallop
def uQ(left:Bool)(key:Keyed)(arr:Array Keyed)(base n hint:Nat):IM left key arr base n hint=(do
 let beyond (i:Nat):StateT SortSt Sem (Option Bool):=do
  let x<-elem' arr (base+i)
  if left then lt' x key else return (<- lt' key x).map (!·)
 let mut S7:=0
 let mut Xh:=1
 let mut lo:=0
 let mut hi:=0
 let some right<-beyond hint|return none
 if right then
  let T_:=n-hint
  for _ in [0:n]do
   if Xh ≥ T_ then break
   let some more<-beyond (hint+Xh)|return none
   if !more then break
   S7:=Xh
   Xh:=2*Xh+1
  lo:=hint+S7+1
  hi:=hint+min Xh T_
 else
  let T_:=hint+1
  for _ in [0:n]do
   if Xh ≥ T_ then break
   let some found<-beyond (hint-Xh)|return none
   if found then break
   S7:=Xh
   Xh:=2*Xh+1
  lo:=hint+1-min Xh T_
  hi:=hint-S7
 for _ in [0:n]do
  if lo ≥ hi then break
  let m:=lo+(hi-lo) / 2
  let some more<-beyond m|return none
  if more then lo:=m+1 else hi:=m
 return some hi):=rfl
def IP(left:Bool)(rk:Keyed->Nat)(key:Keyed)(a:Array Keyed)(base i:Nat):Bool:=if left then decide (IK rk a (base+i)<rk key)else !decide (rk key<IK rk a (base+i))
section
variable{E:Value->Shared->Prop}
def IQ(left:Bool)(key:Keyed)(arr:Array Keyed)(base i:Nat):StateT SortSt Sem (Option Bool):=do
  let x<-elem' arr (base+i)
  if left then lt' x key else return (<- lt' key x).map (!·)
def aaA(e:AG prog w A E s κ ZN rk)(B:kindOf st=κ){left:Bool}{key:Keyed}{a:Array Keyed}{base:Nat}{Q:Option Bool->SortSt->Prop}(b:key∈ZN)(c:∀x∈a,x∈ZN)(hi:base+i<a.size)
  (h:Q (some (IP left rk key a base i)) st):wpS (model prog w) A E s (IQ left key a base i) Q st:=by
 have d:a[base+i]?=some a[base+i]:=WB hi;have f:IK rk a (base+i)=rk a[base+i]:=by unfold IK;rw[d];rfl
 unfold IQ;rw[elem'_eq,d];refine YX (XN ?_);unfold IP at h;rw[f]at h;cases left with
 |true=>rw[YE rfl]at h ⊢;exact e _ _ (c _ (VM hi)) b st Q B h
 |false=>
  rw[Yn Hj]at h ⊢;exact YX (e _ _ b (c _ (VM hi)) st _ B (XN h))
def Spl(b:Nat->Bool)(n k:Nat):Prop:=k<=n/\(∀i,i<k->b i=true) /\∀i,k<=i->i<n->b i=false
def fH(O:AG prog w A E s κ ZN rk)(B:kindOf st=κ){left:Bool}{key:Keyed}{m:Array Keyed}{base a:Nat}{Q:Option Nat->SortSt->Prop}(L:key∈ZN)(N:∀x∈m,x∈ZN)(P:base+n<=m.size)(M:a<n)
  (J:Up (IK rk m) base (base+n)) (h:∀k,Spl (IP left rk key m base) n k->Q (some k) st):wpS (model prog w) A E s (IM left key m base n a) Q st:=by
 have mono:∀i j,i<=j->j<n->IP left rk key m base j=true->IP left rk key m base i=true:=λi j S R u=>by
  have:=J (base+i) (base+j) (by lia) (by lia) (by lia)
  unfold IP at u ⊢;cases left with
  |true=>rw[YE rfl]at u ⊢;have:=Ht u;exact Td (by lia)
  |false=>
   rw[Yn Hj]at u ⊢;simp![Vy,TZ]at u ⊢;lia
 generalize u:IP left rk key m base=b at mono h;have bk:∀{i:Nat} {Q:Option Bool->SortSt->Prop},i<n->Q (some (b i)) st->wpS (model prog w) A E s (IQ left key m base i) Q st:=λhi K=>aaA O B L N (by lia) (by rw[u];exact K)
 rw[uQ];dsimp only;refine YX (bk M ?_);cases H:b a with
 |true=>
  dsimp only;rw [YE rfl];refine YX (TY (UW (I:=λx c f=>st=f /\ ∃ l o,c=(none,l,o)/\l < o/\x+1<=o/\a+l < n/\b (a+l)=true)
   (Q:=λc f=>st=f /\∃l o,c=(none,l,o)/\l<o/\a+l<n/\b (a+l)=true/\(n-a<=o\/b (a+o)=false)) ?_ ?_ ⟨rfl,0,1,rfl,by lia,by lia,by lia,H⟩) ?_)
  .rintro x c f _ D ⟨rfl,l,o,rfl,g,p2,p,d⟩
   dsimp only;by_cases r:o ≥ n-a
   .rw [YE r]
    exact XN ⟨rfl,l,o,rfl,g,p,d,.inl r⟩
   .rw [Yn r]
    refine YX (bk (i:=a+o) (by lia) ?_)
    cases hm:b (a+o)with
    |true=>exact XN ⟨rfl,o,2*o+1,rfl,by lia,by lia,by omega,hm⟩
    |false=>exact XN ⟨rfl,l,o,rfl,g,p,d,.inr hm⟩
  .rintro c f ⟨rfl,l,o,rfl,g,p2,p,d⟩
   exact⟨rfl,l,o,rfl,g,p,d,.inl (by lia)⟩
  .rintro c f ⟨rfl,l,o,rfl,g,p,d,t⟩
   dsimp only;have C:a+l+1=0\/b (a+l+1-1)=true:=.inr d;have z:a+min o (n-a)=n\/b (a+min o (n-a))=false:=by
    rcases t with e|e
    .exact .inl (by lia)
    .by_cases q:n-a<=o
     .exact .inl ()
     .refine .inr ?_
      rw[show min o (n-a)=o by lia];exact e
   have y:a+l+1<=a+min o (n-a):=by lia
   have v:a+min o (n-a)<=n:=by omega
   refine YX (TY (UW (I:=λx c f=>st=f /\ ∃ lo hi,c=(none,lo,hi)/\(lo=0\/b (lo - 1)=true)/\(hi=n\/b hi=false)/\lo<=hi/\hi<=n/\hi - lo<=n - x)
    (Q:=λc f=>st=f /\∃k,c=(none,k,k)/\(k=0\/b (k-1)=true)/\(k=n\/b k=false)/\k<=n) ?_ ?_ ⟨rfl,_,_,rfl,C,z,y,v,by omega⟩) ?_)
   .rintro x c f _ D ⟨rfl,lo,hi,rfl,g,p2,p,d,t⟩
    dsimp only;by_cases r:lo ≥ hi
    .rw [YE r]
     have e:lo=hi:=by lia
     subst e;exact XN ⟨rfl,lo,rfl,g,p2,d⟩
    .rw [Yn r]
     refine YX (bk (i:=lo+(hi-lo) / 2) () ?_)
     cases hm:b (lo+(hi-lo) / 2)with
     |true=>exact XN ⟨rfl,_,_,rfl,.inr hm,p2,by omega,d,by omega⟩
     |false=>exact XN ⟨rfl,_,_,rfl,g,.inr hm,by lia,by omega,by omega⟩
   .rintro c f ⟨rfl,lo,hi,rfl,g,p2,p,d,t⟩
    have e:lo=hi:=by omega
    subst e;exact⟨rfl,lo,rfl,g,p2,d⟩
   .rintro c f ⟨rfl,k,rfl,g,p2,d⟩
    refine XN (h k ⟨d,λi hi=>?_,λi hi F=>?_⟩)
    .rcases g with e|e
     .lia
     .exact mono i (k-1) (by lia) (by lia) e
    .rcases p2 with e|e
     .lia
     .cases G:b i with
      |false=>rfl
      |true=>have:=mono k i hi F G;rw[e]at this;cases this
 |false=>
  dsimp only;rw [Yn Hj];refine YX (TY (UW (I:=λx c f=>st=f /\ ∃ l o,c=(none,l,o)/\l < o/\x+1<=o/\l<=a/\b (a - l)=false)
   (Q:=λc f=>st=f /\∃l o,c=(none,l,o)/\l<o/\l<=a/\b (a-l)=false/\(a+1<=o\/b (a-o)=true)) ?_ ?_ ⟨rfl,0,1,rfl,by omega,by omega,by lia,H⟩) ?_)
  .rintro x c f _ D ⟨rfl,l,o,rfl,g,p2,p,d⟩
   dsimp only;by_cases r:o ≥ a+1
   .rw [YE r]
    exact XN ⟨rfl,l,o,rfl,g,p,d,.inl r⟩
   .rw [Yn r]
    refine YX (bk (i:=a-o) (by lia) ?_)
    cases hm:b (a-o)with
    |false=>exact XN ⟨rfl,o,2*o+1,rfl,by omega,by omega,by lia,hm⟩
    |true=>exact XN ⟨rfl,l,o,rfl,g,p,d,.inr hm⟩
  .rintro c f ⟨rfl,l,o,rfl,g,p2,p,d⟩
   exact⟨rfl,l,o,rfl,g,p,d,.inl (by lia)⟩
  .rintro c f ⟨rfl,l,o,rfl,g,p,d,t⟩
   dsimp only;have C:a+1-min o (a+1)=0\/b (a+1-min o (a+1)-1)=true:=by
    by_cases q:a+1<=o
    .exact .inl ()
    .refine .inr ?_
     rw[show a+1-min o (a+1)-1=a-o by lia]
     exact t.resolve_left q
   have z:a-l=n\/b (a-l)=false:=.inr d;have y:a+1-min o (a+1)<=a-l:=by omega
   have v:a-l<=n:=by lia
   refine YX (TY (UW (I:=λx c f=>st=f /\ ∃ lo hi,c=(none,lo,hi)/\(lo=0\/b (lo - 1)=true)/\(hi=n\/b hi=false)/\lo<=hi/\hi<=n/\hi - lo<=n - x)
    (Q:=λc f=>st=f /\∃k,c=(none,k,k)/\(k=0\/b (k-1)=true)/\(k=n\/b k=false)/\k<=n) ?_ ?_ ⟨rfl,_,_,rfl,C,z,y,v,by omega⟩) ?_)
   .rintro x c f _ D ⟨rfl,lo,hi,rfl,g,p2,p,d,t⟩
    dsimp only;by_cases r:lo ≥ hi
    .rw [YE r]
     have e:lo=hi:=by omega
     subst e;exact XN ⟨rfl,lo,rfl,g,p2,d⟩
    .rw [Yn r]
     refine YX (bk (i:=lo+(hi-lo) / 2) () ?_)
     cases hm:b (lo+(hi-lo) / 2)with
     |true=>exact XN ⟨rfl,_,_,rfl,.inr hm,p2,by omega,d,by omega⟩
     |false=>exact XN ⟨rfl,_,_,rfl,g,.inr hm,by omega,by omega,by omega⟩
   .rintro c f ⟨rfl,lo,hi,rfl,g,p2,p,d,t⟩
    have e:lo=hi:=by omega
    subst e;exact⟨rfl,lo,rfl,g,p2,d⟩
   .rintro c f ⟨rfl,k,rfl,g,p2,d⟩
    refine XN (h k ⟨d,λi hi=>?_,λi hi F=>?_⟩)
    .rcases g with e|e
     .omega
     .exact mono i (k-1) () () e
    .rcases p2 with e|e
     .omega
     .cases G:b i with
      |false=>rfl
      |true=>have:=mono k i hi F G;rw[e]at this;cases this
end
def Dg:Array Keyed->Array Keyed->StateT SortSt Sem (Array Keyed):=sortPriv% PySem.Builtin.mergeLo
def B2:Nat->StateT SortSt Sem Unit:=sortPriv% PySem.Builtin.setMinGallop
def dq(g:Nat):B2 g=modify λs=>SortSt.mk' (kindOf s) (arrOf s) (pendingOf s) g (failedOf s):=rfl
def uA(a b:Array Keyed):Dg a b=(do
 rule "list.sort.merge-lo"
 let total:=a.size+b.size
 let done (out:Array Keyed) (ia ib:Nat):=out++a.extract ia a.size++b.extract ib b.size
 let T9 (out:Array Keyed) (ia ib:Nat):=out++b.extract ib b.size++a.extract ia a.size
 let mut out:Array Keyed:=#[<-elem' b 0]
 let mut ia:=0
 let mut ib:=1
 if ib==b.size then return done out ia ib
 if ia+1==a.size then return T9 out ia ib
 let mut YO:=gallopOf (<- get)
 for _ in [0:total]do
  let mut XU:=0
  let mut XT:=0
  for _ in [0:total]do
   let some SE<-lt' (<- elem' b ib) (<- elem' a ia)|return done out ia ib
   if SE then
    out:=out.push (<- elem' b ib);ib:=ib+1;XT:=XT+1;XU:=0
    if ib==b.size then return done out ia ib
    if XT ≥ YO then break
   else
    out:=out.push (<- elem' a ia);ia:=ia+1;XU:=XU+1;XT:=0
    if ia+1==a.size then return T9 out ia ib
    if XU ≥ YO then break
  rule "list.sort.gallop"
  YO:=YO+1
  for _ in [0:total]do
   if YO > 1 then YO:=YO-1
   B2 YO
   let some k<-IM false (<- elem' b ib) a ia (a.size-ia) 0|return done out ia ib
   XU:=k
   if k > 0 then
    out:=out++a.extract ia (ia+k);ia:=ia+k
    if ia+1==a.size then return T9 out ia ib
    if ia==a.size then return done out ia ib
   out:=out.push (<- elem' b ib);ib:=ib+1
   if ib==b.size then return done out ia ib
   let some k<-IM true (<- elem' a ia) b ib (b.size-ib) 0|return done out ia ib
   XT:=k
   if k > 0 then
    out:=out++b.extract ib (ib+k);ib:=ib+k
    if ib==b.size then return done out ia ib
   out:=out.push (<- elem' a ia);ia:=ia+1
   if ia+1==a.size then return T9 out ia ib
   if XU<7&&XT<7 then break
  YO:=YO+1
  B2 YO
 unsupported "internal:list.sort.merge-bound"):=rfl
def SrL(rk:Keyed->Nat)(l:List Keyed):Prop:=l.Pairwise λx y=>rk x<=rk y
structure MI(rk:Keyed->Nat)(a b out:List Keyed)(ia ib:Nat):Prop where
 pm:out.Perm (a.take ia++b.take ib)
 so:SrL rk out
 oa:∀x∈out,∀y∈a.drop ia,rk x<=rk y
 ob:∀x∈out,∀y∈b.drop ib,rk x<=rk y
section
variable{a b out:List Keyed}{ia ib:Nat}
def jm(l:List Keyed)(i k:Nat):l.take (i+k)=l.take i++(l.drop i).take k:=by rw[PQ]
def SrL.drop{l:List Keyed}(h:SrL rk l)(i:Nat):SrL rk (l.drop i):=QE (List.drop_sublist i l) h
def SrL.cut{l:List Keyed}(h:SrL rk l)(k:Nat):∀x∈l.take k,∀y∈l.drop k,rk x<=rk y:=by
 rw[SrL,<-WK k l,Vi]at h;exact h.2.2
def MI.UI(I:MI rk a b out ia ib)(e:SrL rk a)(k:Nat)(h:∀x∈(a.drop ia).take k,∀y∈b.drop ib,rk x<=rk y):MI rk a b (out++(a.drop ia).take k) (ia+k) ib where
 pm:=by
  rw[jm];refine(I.pm.append_right _).trans ?_;rw[Wx,Wx];exact Qi _ UR
 so:=Vi.mpr ⟨I.so,QE (QJ k _) (e.drop ia),λx c y d=>I.oa x c y (SF d)⟩
 oa:=λx c y d=>by
  rw[<-Px]at d;rcases Wh.mp c with c|c
  .exact I.oa x c y (Ua d)
  .exact (e.drop ia).cut k x c y d
 ob:=λx c y d=>by
  rcases Wh.mp c with c|c
  .exact I.ob x c y d
  .exact h x c y d
def MI.Vv(I:MI rk a b out ia ib)(e:SrL rk b)(k:Nat)(h:∀x∈(b.drop ib).take k,∀y∈a.drop ia,rk x<=rk y):MI rk a b (out++(b.drop ib).take k) ia (ib+k) where
 pm:=by
  rw[jm];refine(I.pm.append_right _).trans ?_;rw[Wx]
 so:=Vi.mpr ⟨I.so,QE (QJ k _) (e.drop ib),λx c y d=>I.ob x c y (SF d)⟩
 oa:=λx c y d=>by
  rcases Wh.mp c with c|c
  .exact I.oa x c y d
  .exact h x c y d
 ob:=λx c y d=>by
  rw[<-Px]at d;rcases Wh.mp c with c|c
  .exact I.ob x c y (Ua d)
  .exact (e.drop ib).cut k x c y d
def Res(rk:Keyed->Nat)(a b res:List Keyed):Prop:=res.Perm (a++b)/\SrL rk res
def MI.Vu(I:MI rk a b out ia ib)(f:SrL rk a)(e:SrL rk b)(h:∀x∈a.drop ia,∀y∈b.drop ib,rk x<=rk y):Res rk a b (out++a.drop ia++b.drop ib):=by
 constructor
 .refine ((I.pm.append_right _).append_right _).trans ?_
  rw[Wx (List.take ia a)];have h1:(List.take ib b++List.drop ia a).Perm (List.drop ia a++List.take ib b):=UR;refine((h1.append_left (List.take ia a)).append_right _).trans ?_;rw[<-Wx,WK,Wx,WK]
 .refine Vi.mpr ⟨Vi.mpr ⟨I.so,f.drop ia,I.oa⟩,e.drop ib,λx c y d=>?_⟩
  rcases Wh.mp c with c|c
  .exact I.ob x c y d
  .exact h x c y d
def MI.UH(I:MI rk a b out ia ib)(f:SrL rk a)(e:SrL rk b)(h:∀x∈b.drop ib,∀y∈a.drop ia,rk x<=rk y):Res rk a b (out++b.drop ib++a.drop ia):=by
 constructor
 .refine ((I.pm.append_right _).append_right _).trans ?_
  rw[Wx (List.take ia a),WK];refine(UR (l₁:=List.take ia a++b)).trans ?_;rw[<-Wx];refine List.Perm.append_right _ ?_;refine UR.trans ?_;rw[WK]
 .refine Vi.mpr ⟨Vi.mpr ⟨I.so,e.drop ib,I.ob⟩,f.drop ia,λx c y d=>?_⟩
  rcases Wh.mp c with c|c
  .exact I.oa x c y d
  .exact h x c y d
end
section
variable{E:Value->Shared->Prop}
def SmS(st a:SortSt):Prop:=kindOf a=kindOf st/\arrOf a=arrOf st/\pendingOf a=pendingOf st/\failedOf a=failedOf st
def SmS.refl(st:SortSt):SmS st st:=⟨rfl,rfl,rfl,rfl⟩
def LI(rk:Keyed->Nat)(a b:Array Keyed)(n:Nat)(r:Option (Array Keyed))(out:Array Keyed)(d c:Nat):Prop:=match r with
 |some res=>Res rk a.toList b.toList res.toList
 |none=>MI rk a.toList b.toList out.toList d c/\d+1<a.size/\c<b.size/\n<=d+c
structure S4(rk:Keyed->Nat)(ZN a b:Array Keyed):Prop where
 ma:∀x∈a,x∈ZN
 mb:∀x∈b,x∈ZN
 sa:SrL rk a.toList
 sb:SrL rk b.toList
 last:∀x∈b.toList,∀y∈a.toList.drop (a.size-1),rk x<=rk y
def aca{a:Array Keyed}(h:i<a.size):a[i]∈a.toList.drop i:=by
 rw[List.mem_drop_iff_getElem];exact⟨0,by simpa using h,by simp⟩
def drop_one{a:Array Keyed}(h:i<a.size):(a.toList.drop i).take 1=[a[i]]:=by
 rw[VT (by simpa using h)];simp
def eY{a:Array Keyed}(c:SrL rk a.toList){i:Nat}(h:i<a.size):∀y∈a.toList.drop i,rk a[i]<=rk y:=λy b=>by
 rw[VT (by simpa using h)]at b
 rcases X8.mp b with rfl|b
 .simp
 .have:=(c.drop i)
  rw[VT (by simpa using h)]at this
  have:=(Ud.mp this).1 y b;simpa using this
def ar(a:Array Keyed)(i:Nat):(a.extract i a.size).toList=a.toList.drop i:=by
 rw[QS,Qj];exact Tt #[3]
def aq{Q:Keyed->SortSt->Prop}(hi:i<arr.size)(h:Q arr[i] st):wpS (model prog w) A E s (elem' arr i) Q st:=by
 rw[elem'_eq,WB hi];exact XN h
def zh(Z7:AG prog w A E s κ ZN rk){a b out:Array Keyed}{ia ib mg:Nat}(M:S4 rk ZN a b)(hk:kindOf st=κ)(n0:Nat)(h0:LI rk a b n0 none out ia ib)(ht:0<a.size+b.size)
  {Q:Option (Array Keyed)×Array Keyed×Nat×Nat×Nat×Nat->SortSt->Prop} (h:∀r out ia ib ac bc,LI rk a b (n0+1) r out ia ib->Q (r,out,ia,ib,ac,bc) st) :
  wpS (model prog w) A E s (forIn [:a.size+b.size] ((none,out,ia,ib,0,0):Option (Array Keyed)×Array Keyed×Nat×Nat×Nat×Nat) λx Zu=>do
    let WS<-elem' b Zu.snd.snd.snd.fst
    let Ra<-elem' a Zu.snd.snd.fst
    let VA<-lt' WS Ra
    match VA with
     |some SE=>
      if SE=true then do
       let WS<-elem' b Zu.snd.snd.snd.fst
       if(Zu.snd.snd.snd.fst+1==b.size)=true then
         pure (ForInStep.done (some (Zu.snd.fst.push WS++a.extract Zu.snd.snd.fst a.size++b.extract (Zu.snd.snd.snd.fst+1) b.size),Zu.snd.fst.push WS,Zu.snd.snd.fst,Zu.snd.snd.snd.fst+1,0,Zu.snd.snd.snd.snd.snd+1))
        else
         if Zu.snd.snd.snd.snd.snd+1 ≥ mg then
          pure (ForInStep.done (none,Zu.snd.fst.push WS,Zu.snd.snd.fst,Zu.snd.snd.snd.fst+1,0,Zu.snd.snd.snd.snd.snd+1))
         else
          pure (ForInStep.yield (none,Zu.snd.fst.push WS,Zu.snd.snd.fst,Zu.snd.snd.snd.fst+1,0,Zu.snd.snd.snd.snd.snd+1))
      else do
       let WS<-elem' a Zu.snd.snd.fst
       if(Zu.snd.snd.fst+1+1==a.size)=true then
         pure (ForInStep.done (some (Zu.snd.fst.push WS++b.extract Zu.snd.snd.snd.fst b.size++a.extract (Zu.snd.snd.fst+1) a.size),Zu.snd.fst.push WS,Zu.snd.snd.fst+1,Zu.snd.snd.snd.fst,Zu.snd.snd.snd.snd.fst+1,0))
        else
         if Zu.snd.snd.snd.snd.fst+1 ≥ mg then
          pure (ForInStep.done (none,Zu.snd.fst.push WS,Zu.snd.snd.fst+1,Zu.snd.snd.snd.fst,Zu.snd.snd.snd.snd.fst+1,0))
         else
          pure (ForInStep.yield (none,Zu.snd.fst.push WS,Zu.snd.snd.fst+1,Zu.snd.snd.snd.fst,Zu.snd.snd.snd.snd.fst+1,0))
     |x=>
      pure (ForInStep.done (some (Zu.snd.fst++a.extract Zu.snd.snd.fst a.size++b.extract Zu.snd.snd.snd.fst b.size),Zu.snd.fst,Zu.snd.snd.fst,Zu.snd.snd.snd.fst,Zu.snd.snd.snd.snd.fst,Zu.snd.snd.snd.snd.snd))) Q st:=by
 refine TY (UW (I:=λx c ZX=>st=ZX /\ ∃ out ia ib ac bc,c=(none,out,ia,ib,ac,bc)/\LI rk a b (n0+x) none out ia ib)
  (Q:=λc ZX=>st=ZX /\∃r out ia ib ac bc,c=(r,out,ia,ib,ac,bc)/\LI rk a b (n0+1) r out ia ib) ?_ ?_ ⟨rfl,out,ia,ib,0,0,rfl,h0⟩) ?_
 .rintro x c ZX _ hx ⟨rfl,out,ia,ib,ac,bc,rfl,I,Xg,YF,hn⟩
  dsimp only;have XW:ia<a.size:=by lia
  refine YX (aq YF (YX (aq XW (YX (Z7 _ _ (M.mb _ (VM YF)) (M.ma _ (VM XW)) st _ hk ?_)))));by_cases hl:rk b[ib]<rk a[ia]
  .simp only [hl,Pj,Tj]
   refine YX (aq YF ?_)
   have I2:=I.Vv M.sb 1 (λx hx y hy=>by
    rw[drop_one YF]at hx;rw[WL.mp hx];exact Hi (Qf hl) (eY M.sa XW y hy))
   rw[drop_one YF,<-Rn]at I2;by_cases he:ib+1=b.size
   .rw [YE (by simp[he])]
    refine XN ⟨rfl,_,_,_,_,_,_,rfl,?_⟩;show Res rk _ _ (Array.toList _);rw[Wp,Wp,ar,ar];exact I2.Vu M.sa M.sb λx _ y hy=>by rw[Tx (by rw[Y2];lia)]at hy;cases hy
   .rw [Yn (by simp[he])]
    have nx:LI rk a b (n0+(x+1)) none (out.push b[ib]) ia (ib+1):=⟨I2,Xg,by lia,by lia⟩
    split
    .exact XN ⟨rfl,_,_,_,_,_,_,rfl,⟨nx.1,nx.2.1,nx.2.2.1,by have:=nx.2.2.2;lia⟩⟩
    .exact XN ⟨rfl,_,_,_,_,_,rfl,nx⟩
  .simp only [hl,Qy,Xc,Vb]
   refine YX (aq XW ?_)
   have I2:=I.UI M.sa 1 (λx hx y hy=>by
    rw[drop_one XW]at hx;rw[WL.mp hx];exact Hi (Nat.not_lt.mp hl) (eY M.sb YF y hy))
   rw[drop_one XW,<-Rn]at I2;by_cases he:ia+1+1=a.size
   .rw [YE (by simp[he])]
    refine XN ⟨rfl,_,_,_,_,_,_,rfl,?_⟩;show Res rk _ _ (Array.toList _);rw[Wp,Wp,ar,ar];refine I2.UH M.sa M.sb λx hx y hy=>M.last x (Ua hx) y ?_;rw[show a.size-1=ia+1 by lia];exact hy
   .rw [Yn (by simp[he])]
    have nx:LI rk a b (n0+(x+1)) none (out.push a[ia]) (ia+1) ib:=⟨I2,by lia,YF,by lia⟩
    split
    .exact XN ⟨rfl,_,_,_,_,_,_,rfl,⟨nx.1,nx.2.1,nx.2.2.1,by have:=nx.2.2.2;lia⟩⟩
    .exact XN ⟨rfl,_,_,_,_,_,rfl,nx⟩
 .rintro c ZX ⟨rfl,out,ia,ib,ac,bc,rfl,I,Xg,YF,hn⟩
  exact⟨rfl,none,out,ia,ib,ac,bc,rfl,I,Xg,YF,by lia⟩
 .rintro c ZX ⟨rfl,r,out,ia,ib,ac,bc,rfl,hI⟩
  exact h r out ia ib ac bc hI
end
section
variable{E:Value->Shared->Prop}
def jW(a:Array Keyed)(i k:Nat):(a.extract i (i+k)).toList=(a.toList.drop i).take k:=by
 rw[QS,Qj];congr 1;lia
def aB{a:Array Keyed}(h:i<a.size):IK rk a i=rk a[i]:=by
 unfold IK;rw[WB h];rfl
def adG{a:Array Keyed}(h:SrL rk a.toList)(lo:Nat):Up (IK rk a) lo a.size:=λi j _ c b=>by
 rw[aB (by lia),aB b]
 rcases Nat.lt_or_eq_of_le c with k|rfl
 .have:=Ry.mp h i j (by simpa using(by lia:i<a.size)) (by simpa using b) k
  simpa using this
 .exact Hk _
def gal(m:AG prog w A E s κ ZN rk)(B:kindOf st=κ){left:Bool}{key:Keyed}{a:Array Keyed}{base n b:Nat}{Q:Option Nat->SortSt->Prop}(f:key∈ZN)(l:∀x∈a,x∈ZN)(e:base+n<=a.size)(g:b<n)
  (d:SrL rk a.toList) (h:∀k,k<=n->(∀x∈(a.toList.drop base).take k,rk x<=rk key)->(∀x∈((a.toList.drop base).take n).drop k,rk key<=rk x)->Q (some k) st):wpS (model prog w) A E s (IM left key a base n b) Q st:=by
 refine fH m B f l e g (λi j p q r=>adG d base i j p q (by lia)) λk ⟨h1,h2,h3⟩=>h k h1 (λx c=>?_) λx c=>?_
 .obtain ⟨i,hi,rfl⟩:=Qo.mp c
  have YI:=hi;simp![Vp,Ub,Y2]at YI;have:=h2 i ()
  unfold IP at this;rw[aB (by omega:base+i<a.size)]at this
  simp![Ou,Ov,Array.getElem_toList];cases left with
  |true=>rw[YE rfl]at this;have:=Ht this;omega
  |false=>rw[Yn Hj]at this;simp![Vy,TZ]at this;omega
 .obtain ⟨i,hi,rfl⟩:=Qo.mp c
  have YI:=hi;simp![Vp,Ub,Y2]at YI;have:=h3 (k+i) (by lia) ()
  unfold IP at this;rw[aB (by omega:base+(k+i)<a.size)]at this
  simp![Ou,Ov,Array.getElem_toList];cases left with
  |true=>rw[YE rfl]at this;have:=Pf this;omega
  |false=>rw[Yn Hj]at this;simp![Bool.not_eq_false',Wd]at this;omega
abbrev LoY(rk:Keyed->Nat)(a b:Array Keyed)(st:SortSt)(n:Nat)(c:Option (Array Keyed)×Array Keyed×Nat×Nat×Nat×Nat×Nat)(ZX:SortSt):Prop:=SmS st ZX /\∃out ia ib mg ac bc,c=(none,out,ia,ib,mg,ac,bc)/\LI rk a b n none out ia ib
abbrev LoD(rk:Keyed->Nat)(a b:Array Keyed)(st:SortSt)(n:Nat)(c:Option (Array Keyed)×Array Keyed×Nat×Nat×Nat×Nat×Nat)(ZX:SortSt):Prop:=SmS st ZX /\∃r out ia ib mg ac bc,c=(r,out,ia,ib,mg,ac,bc)/\LI rk a b n r out ia ib
abbrev LoS(rk:Keyed->Nat)(a b:Array Keyed)(st:SortSt)(n:Nat)(r:ForInStep (Option (Array Keyed)×Array Keyed×Nat×Nat×Nat×Nat×Nat))(ZX:SortSt):Prop:=match r with
 |.done c=>LoD rk a b st n c ZX
 |.yield c=>LoY rk a b st n c ZX
def w6(Z7:AG prog w A E s κ ZN rk){a b:Array Keyed}(M:S4 rk ZN a b)(hk:kindOf st=κ)(ha:0<a.size)(Y:0<b.size)(hf:∀x∈a.toList,rk b[0]<=rk x)
  {Q:Array Keyed->SortSt->Prop} (h:∀res j,SmS st j->Res rk a.toList b.toList res.toList->Q res j) :
  wpS (model prog w) A E s (Dg a b) Q st:=by
 rw[uA];extract_lets total done T9;refine YX (Oh (QR ⟨rfl,?_⟩));refine YX (aq Y ?_);extract_lets out ia ib;have I0:MI rk a.toList b.toList (#[b[0]]:Array Keyed).toList 0 1:=by
  have I:MI rk a.toList b.toList [] 0 0:=⟨by simp,List.Pairwise.nil,λx d=>by(cases d),λx d=>by(cases d)⟩
  have:=I.Vv M.sb 1 (λx d y f=>by
   rw[drop_one Y]at d;rw[WL.mp d];exact hf y (Ua f))
  rw[drop_one Y]at this;exact this
 by_cases h1:1=b.size
 .rw [YE (by show(1==b.size)=true;simp[<-h1])]
  refine XN (h _ st (SmS.refl st) ?_);show Res rk _ _ (Array.toList (#[b[0]]++a.extract 0 a.size++b.extract 1 b.size));rw[Wp,Wp,ar,ar];exact I0.Vu M.sa M.sb λx _ y f=>by rw[Tx (by rw[Y2];lia)]at f;cases f
 .rw [Yn (by show ¬ ((1==b.size)=true);simpa using h1)]
  by_cases h2:0+1=a.size
  .rw [YE (by show(0+1==a.size)=true;simp[<-h2])]
   refine XN (h _ st (SmS.refl st) ?_);show Res rk _ _ (Array.toList (#[b[0]]++b.extract 1 b.size++a.extract 0 a.size));rw[Wp,Wp,ar,ar];refine I0.UH M.sa M.sb λx d y f=>M.last x (Ua d) y ?_;rw[show a.size-1=0 by lia];exact f
  .rw [Yn (by show ¬ ((0+1==a.size)=true);simpa using h2)]
   refine YX (P9 ?_);extract_lets mg0;refine YX (TY (UW (I:=λx c j=>SmS st j /\ ∃ out ia ib mg,c=(none,out,ia,ib,mg)/\LI rk a b (1+x) none out ia ib)
    (Q:=λc j=>SmS st j /\∃res out ia ib mg,c=(some res,out,ia,ib,mg)/\Res rk a.toList b.toList res.toList) ?_ ?_ ⟨SmS.refl st,#[b[0]],0,1,_,rfl,I0,by lia,by lia,by lia⟩) ?_)
   .rintro x c YH _ d ⟨D,SD,W,V,S,rfl,hI1⟩
    extract_lets;refine YX (zh Z7 M (D.1.trans hk) (1+x) hI1 (by lia) λr out2 ia2 ib2 ac bc T8=>?_)
    cases r with
    |some res=>exact XN ⟨D,res,_,_,_,_,rfl,T8⟩
    |none=>
     refine YX (Oh (QR ⟨rfl,?_⟩));refine YX (TY (UW (I:=λ_=>LoY rk a b st (1+x+1))
      (Q:=LoD rk a b st (1+x+1)) ?_ ?_ ⟨D,_,_,_,_,_,_,rfl,T8⟩) ?_)
     .rintro y c C _ f ⟨F,out,ia,ib,mg,ac,bc,rfl,B,Xg,G,hn⟩
      extract_lets;rename_i jp T;have WR:∀(u:PUnit) (m:Nat),wpS (model prog w) A E s (jp u m) (LoS rk a b st (1+x+1)) C:=by
       intro u m;refine YX ?_;rw[dq];refine Qx ?_;generalize SA:SortSt.mk' (kindOf C) (arrOf C) (pendingOf C) m (failedOf C)=P;have o:SmS st P:=by rw[<-SA];exact F
       have Yo:kindOf P=κ:=o.1.trans hk;refine YX (aq G ?_);have X:b[ib]∈ZN:=M.mb _ (VM G);refine YX (gal Z7 Yo X M.ma (by show ia+(a.size-ia)<=a.size;omega) (by show 0<a.size-ia;omega) M.sa λk UK YG L=>?_)
       have L:∀ x∈a.toList.drop (ia+k),rk b[ib]<=rk x:=λx d=>L x (by
        rw[Tt (by rw[Ub,Y2];exact Hk _),Px];exact d)
       dsimp -zeta only
       extract_lets XU T7 R t;have VS:∀(u:PUnit) (out:Array Keyed) (g:Nat),ia<=g->g+1<a.size->MI rk a.toList b.toList out.toList g ib->(∀x∈a.toList.drop g,rk b[ib]<=rk x)->wpS (model prog w) A E s (T7 u out g) (LoS rk a b st (1+x+1)) P:=by
        intro u Sz g hle Ze I' K;refine YX (aq G ?_);extract_lets Sy;have I4:MI rk a.toList b.toList Sy.toList g (ib+1):=by
         have:=I'.Vv M.sb 1 (λx d y f=>by
          rw[drop_one G]at d;rw[WL.mp d];exact K y f)
         rw[drop_one G]at this;show MI rk _ _ (Sz.push b[ib]).toList _ _;rw[Rn];exact this
        by_cases h5:ib+1=b.size
        .rw [YE (by show(ib+1==b.size)=true;simp[h5])]
         refine XN ⟨o,some _,_,_,_,_,_,_,rfl,?_⟩;show Res rk _ _ (Array.toList (Sy++a.extract g a.size++b.extract (ib+1) b.size));rw[Wp,Wp,ar,ar];exact I4.Vu M.sa M.sb λx _ y f=>by rw[Tx (by rw[Y2];lia)]at f;cases f
        .rw [Yn (by show ¬ ((ib+1==b.size)=true);simpa using h5)]
         have H:g<a.size:=by lia
         refine YX (aq H ?_);have Z:a[g]∈ZN:=M.ma _ (VM H);refine YX (gal Z7 Yo Z M.mb (by show ib+1+(b.size-(ib+1))<=b.size;omega) (by show 0<b.size-(ib+1);omega) M.sb λn UG Yp N=>?_)
         have N:∀ x∈b.toList.drop (ib+1+n),rk a[g]<=rk x:=λx d=>N x (by
          rw[Tt (by rw[Ub,Y2];exact Hk _),Px];exact d)
         dsimp -zeta only
         extract_lets XT U UE O;have T5:∀(u:PUnit) (out:Array Keyed) (z:Nat),ib<z->z<b.size->MI rk a.toList b.toList out.toList g z->(∀x∈b.toList.drop z,rk a[g]<=rk x)->wpS (model prog w) A E s (U u out z) (LoS rk a b st (1+x+1)) P:=by
          intro u Sx z hle' R1 I6 J;refine YX (aq H ?_);extract_lets R0 ia7;have I7:MI rk a.toList b.toList R0.toList (g+1) z:=by
           have:=I6.UI M.sa 1 (λx d y f=>by
            rw[drop_one H]at d;rw[WL.mp d];exact J y f)
           rw[drop_one H]at this;show MI rk _ _ (Sx.push a[g]).toList _ _;rw[Rn];exact this
          by_cases h6:g+1+1=a.size
          .rw [YE (by show(g+1+1==a.size)=true;simp[h6])]
           refine XN ⟨o,some _,_,_,_,_,_,_,rfl,?_⟩;show Res rk _ _ (Array.toList (R0++b.extract z b.size++a.extract (g+1) a.size));rw[Wp,Wp,ar,ar];refine I7.UH M.sa M.sb λx d y f=>M.last x (Ua d) y ?_;rw[show a.size-1=g+1 by omega];exact f
          .rw [Yn (by show ¬ ((g+1+1==a.size)=true);simpa using h6)]
           split
           .exact XN ⟨o,none,_,_,_,_,_,_,rfl,I7,by lia,R1,by lia⟩
           .exact XN ⟨o,_,_,_,_,_,_,rfl,I7,by omega,R1,by omega⟩
         by_cases Wk:n > 0
         .rw [YE Wk]
          have I5:MI rk a.toList b.toList UE.toList g O:=by
           have:=I4.Vv M.sb n λx d y f=>Hi (Yp x d) (eY M.sa H y f);rw[<-jW,<-Wp]at this;exact this
          have e5:O=ib+1+n:=rfl;by_cases h7:O=b.size
          .rw [YE (by simp[h7])]
           refine XN ⟨o,some _,_,_,_,_,_,_,rfl,?_⟩;show Res rk _ _ (Array.toList (UE++a.extract g a.size++b.extract O b.size));rw[Wp,Wp,ar,ar];exact I5.Vu M.sa M.sb λx _ y f=>by rw[Tx (by rw[Y2];lia)]at f;cases f
          .rw [Yn (by simpa using h7)]
           have hnn':n<=b.size-(ib+1):=UG;exact T5 Unit.unit UE O (by lia) () I5 (by rw[e5];exact N)
         .rw [Yn Wk]
          have e0:n=0:=by lia
          rw[e0]at N;exact T5 Unit.unit Sy (ib+1) (by lia) (by lia) I4 N
       by_cases T4:k > 0
       .rw [YE T4]
        have I3:MI rk a.toList b.toList R.toList t ib:=by
         have:=B.UI M.sa k λx d y f=>Hi (YG x d) (eY M.sb G y f);rw[<-jW,<-Wp]at this;exact this
        have e3:t=ia+k:=rfl;by_cases h3:t+1=a.size
        .rw [YE (by simp[h3])]
         refine XN ⟨o,some _,_,_,_,_,_,_,rfl,?_⟩;show Res rk _ _ (Array.toList (R++b.extract ib b.size++a.extract t a.size));rw[Wp,Wp,ar,ar];refine I3.UH M.sa M.sb λx d y f=>M.last x (Ua d) y ?_;rw[show a.size-1=t by omega];exact f
        .rw [Yn (by simpa using h3)]
         by_cases h4:t=a.size
         .rw [YE (by simp[h4])]
          refine XN ⟨o,some _,_,_,_,_,_,_,rfl,?_⟩;show Res rk _ _ (Array.toList (R++a.extract t a.size++b.extract ib b.size));rw[Wp,Wp,ar,ar];exact I3.Vu M.sa M.sb λx d y _=>by rw[Tx (by rw[Y2];lia)]at d;cases d
         .rw [Yn (by simpa using h4)]
          exact VS Unit.unit R t (by lia) () I3 (by rw[e3];exact L)
       .rw [Yn T4]
        have e0:k=0:=by lia
        rw[e0]at L;exact VS Unit.unit out ia (Hk _) Xg B L
      by_cases hm:mg > 1
      .rw [YE hm];exact TY (WR Unit.unit T) λr j h=>by cases r<;>exact h
      .rw [Yn hm];exact TY (WR Unit.unit mg) λr j h=>by cases r<;>exact h
     .rintro c C ⟨F,out,ia,ib,mg,ac,bc,rfl,B⟩
      exact⟨F,none,_,_,_,_,_,_,rfl,B⟩
     .rintro c C ⟨F,r,out,ia,ib,mg,ac,bc,rfl,B⟩
      cases r with
      |some res=>exact XN ⟨F,res,_,_,_,_,rfl,B⟩
      |none=>
       let⟨q0,q1,q2,q3⟩:=B;refine YX ?_;rw[dq];refine Qx (XN ⟨F,out,ia,ib,_,rfl,q0,q1,q2,?_⟩);lia
   .rintro c YH ⟨D,SD,W,V,S,rfl,_,q1,q2,q3⟩
    have:max 0 total=a.size+b.size:=by show max 0 (a.size+b.size)=_;lia
    omega
   .rintro c YH ⟨D,res,_,_,_,_,rfl,hr⟩
    exact XN (h res YH D hr)
end
def Di:Array Keyed->Array Keyed->StateT SortSt Sem (Array Keyed):=sortPriv% PySem.Builtin.mergeHi
def uv(a b:Array Keyed):Di a b=(do
 rule "list.sort.merge-hi"
 let total:=a.size+b.size
 let done (out:Array Keyed) (na nb:Nat):=a.extract 0 na++b.extract 0 nb++out.reverse
 let T3 (out:Array Keyed) (na nb:Nat):=b.extract 0 nb++a.extract 0 na++out.reverse
 let mut na:=a.size-1
 let mut nb:=b.size
 let mut out:Array Keyed:=#[<-elem' a na]
 if na==0 then return done out na nb
 if nb==1 then return T3 out na nb
 let mut YO:=gallopOf (<- get)
 for _ in [0:total]do
  let mut XU:=0
  let mut XT:=0
  for _ in [0:total]do
   let some Q_<-lt' (<- elem' b (nb-1)) (<- elem' a (na-1))|return done out na nb
   if Q_ then
    na:=na-1;out:=out.push (<- elem' a na);XU:=XU+1;XT:=0
    if na==0 then return done out na nb
    if XU ≥ YO then break
   else
    nb:=nb-1;out:=out.push (<- elem' b nb);XT:=XT+1;XU:=0
    if nb==1 then return T3 out na nb
    if XT ≥ YO then break
  rule "list.sort.gallop"
  YO:=YO+1
  for _ in [0:total]do
   if YO > 1 then YO:=YO-1
   B2 YO
   let some at_<-IM false (<- elem' b (nb-1)) a 0 na (na-1)|return done out na nb
   let k:=na-at_
   XU:=k
   if k > 0 then
    out:=out++(a.extract at_ na).reverse;na:=at_
    if na==0 then return done out na nb
   nb:=nb-1;out:=out.push (<- elem' b nb)
   if nb==1 then return T3 out na nb
   let some at_<-IM true (<- elem' a (na-1)) b 0 nb (nb-1)|return done out na nb
   let k:=nb-at_
   XT:=k
   if k > 0 then
    out:=out++(b.extract at_ nb).reverse;nb:=at_
    if nb==1 then return T3 out na nb
    if nb==0 then return done out na nb
   na:=na-1;out:=out.push (<- elem' a na)
   if na==0 then return done out na nb
   if XU<7&&XT<7 then break
  YO:=YO+1
  B2 YO
 unsupported "internal:list.sort.merge-bound"):=rfl
structure MH(rk:Keyed->Nat)(a b out:List Keyed)(na nb:Nat):Prop where
 pm:out.Perm (a.drop na++b.drop nb)
 so:SrL rk out.reverse
 oa:∀x∈out,∀y∈a.take na,rk y<=rk x
 ob:∀x∈out,∀y∈b.take nb,rk y<=rk x
section
variable{a b out:List Keyed}{na nb:Nat}
def SrL.take{l:List Keyed}(h:SrL rk l)(i:Nat):SrL rk (l.take i):=QE (QJ i l) h
def dz(l:List Keyed){k:Nat}(h:k<=n):l.drop k=(l.take n).drop k++l.drop n:=by
 rcases Nat.le_total n l.length with hn|hn
 .conv=>lhs;rw[<-WK n l]
  rw[List.drop_append_of_le_length (by rw[Vp];lia)]
 .rw [Tt hn,Tx hn,Ux]
def eD{l:List Keyed}{k:Nat}(h:k<=n){x:Keyed}(a:x∈l.take k):x∈(l.take n).take k:=by
 rw[List.take_take,Nat.min_eq_left h];exact a
def MH.UI(I:MH rk a b out na nb)(f:SrL rk a){k:Nat}(e:k<=na)(h:∀x∈(a.take na).drop k,∀y∈b.take nb,rk y<=rk x):MH rk a b (out++((a.take na).drop k).reverse) k nb where
 pm:=by
  rw[dz a e];refine UR.trans ?_;rw[Wx];exact(Py _).append I.pm
 so:=by
  rw[List.reverse_append,List.reverse_reverse];exact Vi.mpr ⟨(f.take na).drop k,I.so,λx c y d=>I.oa y (Sf.mp d) x (Ua c)⟩
 oa:=λx c y d=>by
  rcases Wh.mp c with c|c
  .exact I.oa x c y (SF (eD e d))
  .exact (f.take na).cut k y (eD e d) x (Sf.mp c)
 ob:=λx c y d=>by
  rcases Wh.mp c with c|c
  .exact I.ob x c y d
  .exact h x (Sf.mp c) y d
def MH.Vv(I:MH rk a b out na nb)(f:SrL rk b){k:Nat}(e:k<=nb)(h:∀x∈(b.take nb).drop k,∀y∈a.take na,rk y<=rk x):MH rk a b (out++((b.take nb).drop k).reverse) na k where
 pm:=by
  rw[dz b e];refine(I.pm.append (Py _)).trans ?_;rw[Wx];exact Qi _ UR
 so:=by
  rw[List.reverse_append,List.reverse_reverse];exact Vi.mpr ⟨(f.take nb).drop k,I.so,λx c y d=>I.ob y (Sf.mp d) x (Ua c)⟩
 oa:=λx c y d=>by
  rcases Wh.mp c with c|c
  .exact I.oa x c y d
  .exact h x (Sf.mp c) y d
 ob:=λx c y d=>by
  rcases Wh.mp c with c|c
  .exact I.ob x c y (SF (eD e d))
  .exact (f.take nb).cut k y (eD e d) x (Sf.mp c)
def MH.Vu(I:MH rk a b out na nb)(f:SrL rk a)(e:SrL rk b)(h:∀x∈a.take na,∀y∈b.take nb,rk x<=rk y):Res rk a b (a.take na++b.take nb++out.reverse):=by
 constructor
 .refine (((Py _).trans I.pm).append_left _).trans ?_
  rw[Wx];refine(Qi _ ?_).trans (l₂:=List.take na a++(List.drop na a++b)) ?_
  .rw [<-Wx]
   refine(List.perm_append_comm.append_right _).trans ?_;rw[Wx,WK]
  .rw [<-Wx,WK]
 .refine Vi.mpr ⟨Vi.mpr ⟨f.take na,e.take nb,h⟩,I.so,λx c y d=>?_⟩
  rcases Wh.mp c with c|c
  .exact I.oa y (Sf.mp d) x c
  .exact I.ob y (Sf.mp d) x c
def MH.UH(I:MH rk a b out na nb)(f:SrL rk a)(e:SrL rk b)(h:∀x∈b.take nb,∀y∈a.take na,rk x<=rk y):Res rk a b (b.take nb++a.take na++out.reverse):=by
 constructor
 .refine (((Py _).trans I.pm).append_left _).trans ?_
  rw[Wx,<-Wx (List.take na a),WK];refine(UR).trans ?_;rw[Wx];refine Qi _ (UR.trans ?_);rw[WK]
 .refine Vi.mpr ⟨Vi.mpr ⟨e.take nb,f.take na,h⟩,I.so,λx c y d=>?_⟩
  rcases Wh.mp c with c|c
  .exact I.ob y (Sf.mp d) x c
  .exact I.oa y (Sf.mp d) x c
end
section
variable{E:Value->Shared->Prop}
def LH(rk:Keyed->Nat)(a b:Array Keyed)(n:Nat)(r:Option (Array Keyed))(out:Array Keyed)(d c:Nat):Prop:=match r with
 |some res=>Res rk a.toList b.toList res.toList
 |none=>MH rk a.toList b.toList out.toList d c/\(0<d/\d<=a.size)/\(1<c/\c<=b.size)/\n+d+c<=a.size+b.size
def bN{a:Array Keyed}(h:n<a.size):(a.toList.take (n+1)).drop n=[a[n]]:=by
 rw[List.drop_take,VT (by simpa using h)];simp
def cZ{a:Array Keyed}(c:SrL rk a.toList){n:Nat}(h:n<a.size):∀y∈a.toList.take (n+1),rk y<=rk a[n]:=λy b=>by
 rw[<-WK n (a.toList.take (n+1)),bN h]at b;rcases Wh.mp b with b|b
 .exact (c.take (n+1)).cut n y b a[n] (by rw[bN h];exact WL.mpr rfl)
 .rw [WL.mp b];exact Hk _
def eM(a:Array Keyed)(n:Nat):(a.extract 0 n).toList=a.toList.take n:=by
 rw[QS,Qj];simp
def ba(a:Array Keyed)(k n:Nat):(a.extract k n).toList=(a.toList.take n).drop k:=by
 rw[QS,Qj,List.drop_take]
def cS{a b out:Array Keyed}{d c:Nat}(I:MH rk a.toList b.toList out.toList d c)(i:SrL rk a.toList)(g:SrL rk b.toList)(h:d=0\/c=0):Res rk a.toList b.toList (a.extract 0 d++b.extract 0 c++out.reverse).toList:=by
 rw[Wp,Wp,eM,eM,QT];refine I.Vu i g λx f y e=>?_;rcases h with rfl|rfl
 .rw [List.take_zero]at f;cases f
 .rw [List.take_zero]at e;cases e
def eU{a b out:Array Keyed}{c:Nat}(I:MH rk a.toList b.toList out.toList c 1)(h:SrL rk a.toList)(d:SrL rk b.toList)(i:0<b.size)(g:∀x∈a.toList,rk b[0]<=rk x):Res rk a.toList b.toList (b.extract 0 1++a.extract 0 c++out.reverse).toList:=by
 rw[Wp,Wp,eM,eM,QT];refine I.UH h d λx f y e=>?_;have:=cZ d i x f;exact Hi this (g y (SF e))
def hV{a b out:Array Keyed}{c:Nat}(I:MH rk a.toList b.toList out.toList (n+1) c)(f:SrL rk a.toList)(h:n<a.size)(k:∀y∈b.toList.take c,rk y<=rk a[n]):MH rk a.toList b.toList (out.push a[n]).toList n c:=by
 have:=I.UI f (VY n) (λx d y e=>by
  rw[bN h]at d;rw[WL.mp d];exact k y e)
 rw[bN h]at this;rw[Rn];exact this
def qU{a b out:Array Keyed}{c:Nat}(I:MH rk a.toList b.toList out.toList c (n+1))(f:SrL rk b.toList)(h:n<b.size)(k:∀y∈a.toList.take c,rk y<=rk b[n]):MH rk a.toList b.toList (out.push b[n]).toList c n:=by
 have:=I.Vv f (VY n) (λx d y e=>by
  rw[bN h]at d;rw[WL.mp d];exact k y e)
 rw[bN h]at this;rw[Rn];exact this
abbrev HiY(rk:Keyed->Nat)(a b:Array Keyed)(st:SortSt)(n:Nat)(c:Option (Array Keyed)×Nat×Nat×Array Keyed×Nat×Nat×Nat)(ZX:SortSt):Prop:=SmS st ZX /\∃na nb out mg ac bc,c=(none,na,nb,out,mg,ac,bc)/\LH rk a b n none out na nb
abbrev HiD(rk:Keyed->Nat)(a b:Array Keyed)(st:SortSt)(n:Nat)(c:Option (Array Keyed)×Nat×Nat×Array Keyed×Nat×Nat×Nat)(ZX:SortSt):Prop:=SmS st ZX /\∃r na nb out mg ac bc,c=(r,na,nb,out,mg,ac,bc)/\LH rk a b n r out na nb
abbrev HiS(rk:Keyed->Nat)(a b:Array Keyed)(st:SortSt)(n:Nat)(r:ForInStep (Option (Array Keyed)×Nat×Nat×Array Keyed×Nat×Nat×Nat))(ZX:SortSt):Prop:=match r with
 |.done c=>HiD rk a b st n c ZX
 |.yield c=>HiY rk a b st n c ZX
def xN(Z7:AG prog w A E s κ ZN rk){a b:Array Keyed}(M:S4 rk ZN a b)(hk:kindOf st=κ)(ha:0<a.size)(Y:0<b.size)(X:∀x∈a.toList,rk b[0]<=rk x)
  {Q:Array Keyed->SortSt->Prop} (h:∀res g,SmS st g->Res rk a.toList b.toList res.toList->Q res g) :
  wpS (model prog w) A E s (Di a b) Q st:=by
 rw[uv];extract_lets total done T3 na0 nb0;refine YX (Oh (QR ⟨rfl,?_⟩));have F:a.size-1<a.size:=by omega
 refine YX (aq F ?_);have I0:MH rk a.toList b.toList (#[a[a.size-1]]:Array Keyed).toList (a.size-1) b.size:=by
  have I:MH rk a.toList b.toList (#[]:Array Keyed).toList (a.size-1+1) b.size:=⟨by simp;omega,List.Pairwise.nil,λx z=>by(cases z),λx z=>by(cases z)⟩
  exact hV I M.sa F λy o=>M.last y (SF o) _ (aca F)
 extract_lets out0;by_cases h1:a.size-1=0
 .rw [YE (by show(a.size-1==0)=true;simp[h1])]
  exact XN (h _ st (SmS.refl st) (cS I0 M.sa M.sb (.inl h1)))
 .rw [Yn (by show ¬ ((a.size-1==0)=true);simpa using h1)]
  by_cases h2:b.size=1
  .rw [YE (by show(b.size==1)=true;simp[h2])]
   have I1:MH rk a.toList b.toList (#[a[a.size-1]]:Array Keyed).toList (a.size-1) 1:=by rw[h2]at I0;exact I0
   have:=eU I1 M.sa M.sb Y X;refine XN (h _ st (SmS.refl st) ?_);show Res rk _ _ (b.extract 0 b.size++a.extract 0 (a.size-1)++Array.reverse #[a[a.size-1]]).toList;rw[h2];exact this
  .rw [Yn (by show ¬ ((b.size==1)=true);simpa using h2)]
   refine YX (P9 ?_);extract_lets mg0;refine YX (TY (UW (I:=λx c g=>SmS st g /\ ∃ na nb out mg,c=(none,na,nb,out,mg)/\LH rk a b (1+x) none out na nb)
    (Q:=λc g=>SmS st g /\∃res na nb out mg,c=(some res,na,nb,out,mg)/\Res rk a.toList b.toList res.toList) ?_ ?_ ⟨SmS.refl st,a.size-1,b.size,#[a[a.size-1]],_,rfl,I0,⟨by lia,by lia⟩,⟨by lia,by lia⟩,by lia⟩) ?_)
   .rintro x c N _ z ⟨K,na1,nb1,SD,mg1,rfl,hI1⟩
    have UL:x < a.size+b.size:=z;extract_lets;refine YX (TY (UW (I:=λy c g=>N=g /\ ∃ na nb out ac C,c=(none,na,nb,out,ac,C)/\LH rk a b (1+x+y) none out na nb)
     (Q:=λc g=>N=g /\∃r na nb out ac C,c=(r,na,nb,out,ac,C)/\LH rk a b (1+x+1) r out na nb) ?_ ?_ ⟨rfl,_,_,_,_,_,rfl,hI1⟩) ?_)
    .rintro y c t _ o ⟨rfl,na,nb,out,ac,C,rfl,I,⟨O,V⟩,⟨U,W⟩,hn⟩
     obtain⟨na,rfl⟩:∃n,na=n+1:=⟨na-1,by omega⟩
     obtain⟨nb,rfl⟩:∃n,nb=n+1:=⟨nb-1,by omega⟩
     have f:na<a.size:=by lia
     have j:nb<b.size:=by lia
     extract_lets;refine YX (aq (i:=nb) j (YX (aq (i:=na) f (YX (Z7 _ _ (M.mb _ (VM j)) (M.ma _ (VM f)) N _ (K.1.trans hk) ?_)))))
     dsimp -zeta only
     by_cases F:rk b[nb]<rk a[na]
     .rw [YE (by simpa using F)]
      refine YX (aq (i:=na) f ?_);extract_lets Wj ac3;have J:MH rk a.toList b.toList (out.push a[na]).toList na (nb+1):=hV I M.sa f λy o=>Hi (cZ M.sb j y o) (Qf F);by_cases B:na=0
      .rw [YE (by show(na==0)=true;simp[B])]
       exact XN ⟨rfl,some _,_,_,_,_,_,rfl,cS J M.sa M.sb (.inl B)⟩
      .rw [Yn (by show ¬ ((na==0)=true);simpa using B)]
       split
       .exact XN ⟨rfl,none,na,nb+1,_,_,_,rfl,J,⟨Nat.pos_of_ne_zero B,Qf f⟩,⟨U,W⟩,by lia⟩
       .exact XN ⟨rfl,na,nb+1,_,_,_,rfl,J,⟨Nat.pos_of_ne_zero B,Qf f⟩,⟨U,W⟩,by lia⟩
     .rw [Yn (by simpa using F)]
      refine YX (aq (i:=nb) j ?_);extract_lets Wj bc3;have J:MH rk a.toList b.toList (out.push b[nb]).toList (na+1) nb:=qU I M.sb j λy o=>Hi (cZ M.sa f y o) (Nat.not_lt.mp F);by_cases B:nb=1
      .rw [YE (by show(nb==1)=true;simp[B])]
       subst B;exact XN ⟨rfl,some _,_,_,_,_,_,rfl,eU J M.sa M.sb Y X⟩
      .rw [Yn (by show ¬ ((nb==1)=true);simpa using B)]
       have q:1<nb/\nb<=b.size:=by omega
       split
       .exact XN ⟨rfl,none,na+1,nb,_,_,_,rfl,J,⟨O,V⟩,q,by lia⟩
       .exact XN ⟨rfl,na+1,nb,_,_,_,rfl,J,⟨O,V⟩,q,by lia⟩
    .rintro c t ⟨rfl,na,nb,out,ac,C,rfl,I,⟨O,V⟩,⟨U,W⟩,hn⟩
     have:max 0 total=a.size+b.size:=by show max 0 (a.size+b.size)=_;lia
     exact⟨rfl,none,na,nb,out,ac,C,rfl,I,⟨O,V⟩,⟨U,W⟩,by lia⟩
    .rintro c t ⟨rfl,r,na2,nb2,out2,ac2,bc2,rfl,T8⟩
     cases r with
     |some res=>exact XN ⟨K,res,_,_,_,_,rfl,T8⟩
     |none=>
      refine YX (Oh (QR ⟨rfl,?_⟩));refine YX (TY (UW (I:=λ_=>HiY rk a b st (1+x+1))
       (Q:=HiD rk a b st (1+x+1)) ?_ ?_ ⟨K,_,_,_,_,_,_,rfl,T8⟩) ?_)
      .rintro y c t _ o ⟨L,na,nb,out,mg,ac,C,rfl,H,⟨O,V⟩,⟨U,W⟩,hn⟩
       obtain⟨nb,rfl⟩:∃n,nb=n+1:=⟨nb-1,by omega⟩
       have j:nb<b.size:=by omega
       extract_lets;rename_i jp mg';have WR:∀(u:PUnit) (m:Nat),wpS (model prog w) A E s (jp u m) (HiS rk a b st (1+x+1)) t:=by
        intro u m;refine YX ?_;rw[dq];refine Qx ?_;generalize SA:SortSt.mk' (kindOf t) (arrOf t) (pendingOf t) m (failedOf t)=Zf;have G:SmS st Zf:=by rw[<-SA];exact L
        have Yo:kindOf Zf=κ:=G.1.trans hk;refine YX (aq (i:=nb) j ?_);have hbi:b[nb]∈ZN:=M.mb _ (VM j);refine YX (gal Z7 Yo hbi M.ma (by show 0+na<=a.size;lia) (by show na-1<na;omega) M.sa λk UK T Za=>?_)
        have UK:k<=na:=UK;have T:∀x∈a.toList.take k,rk x<=rk b[nb]:=T;have Za:∀x∈(a.toList.take na).drop k,rk b[nb]<=rk x:=Za
        dsimp -zeta only
        extract_lets k' XU T7 Wj na3;have e3:na3=k:=rfl;have ek:k'=na-k:=rfl;have VS:∀(u:PUnit) (d:Nat) (out:Array Keyed),0<d->d<=na->MH rk a.toList b.toList out.toList d (nb+1)->(∀x∈a.toList.take d,rk x<=rk b[nb])->wpS (model prog w) A E s (T7 u d out) (HiS rk a b st (1+x+1)) Zf:=by
         intro u d Sz hp hle I' R;obtain⟨d,rfl⟩:∃n,d=n+1:=⟨d-1,by omega⟩
         have f:d<a.size:=by lia
         refine YX (aq (i:=nb) j ?_);have I4:MH rk a.toList b.toList (Sz.push b[nb]).toList (d+1) nb:=qU I' M.sb j R;by_cases h5:nb=1
         .rw [YE (by show(nb==1)=true;simp[h5])]
          subst h5;exact XN ⟨G,some _,_,_,_,_,_,_,rfl,eU I4 M.sa M.sb Y X⟩
         .rw [Yn (by show ¬ ((nb==1)=true);simpa using h5)]
          refine YX (aq (i:=d) f ?_);have hai:a[d]∈ZN:=M.ma _ (VM f);refine YX (gal Z7 Yo hai M.mb (by show 0+nb<=b.size;lia) (by show nb-1<nb;omega) M.sb λn UG S X6=>?_)
          have UG:n<=nb:=UG;have S:∀x∈b.toList.take n,rk x<=rk a[d]:=S;have X6:∀x∈(b.toList.take nb).drop n,rk a[d]<=rk x:=X6
          dsimp -zeta only
          extract_lets;rename_i kk XT jp3 UE nb5;have Z:nb5=n:=rfl;have T5:∀(u:PUnit) (D:Nat) (out:Array Keyed),1<D->D<=nb->MH rk a.toList b.toList out.toList (d+1) D->(∀x∈b.toList.take D,rk x<=rk a[d])->wpS (model prog w) A E s (jp3 u D out) (HiS rk a b st (1+x+1)) Zf:=by
           intro u D Sx VQ hle' I6 P;refine YX (aq (i:=d) f ?_);have I7:MH rk a.toList b.toList (Sx.push a[d]).toList d D:=hV I6 M.sa f P;by_cases h6:d=0
           .rw [YE (by show(d==0)=true;simp[h6])]
            exact XN ⟨G,some _,_,_,_,_,_,_,rfl,cS I7 M.sa M.sb (.inl h6)⟩
           .rw [Yn (by show ¬ ((d==0)=true);simpa using h6)]
            split
            .exact XN ⟨G,none,d,D,_,_,_,_,rfl,I7,⟨by lia,by lia⟩,⟨by lia,by lia⟩,by lia⟩
            .exact XN ⟨G,d,D,_,_,_,_,rfl,I7,⟨by omega,by omega⟩,⟨by omega,by omega⟩,by omega⟩
          by_cases Wk:nb-n > 0
          .rw [YE (by show nb-n > 0;exact Wk)]
           have I5:MH rk a.toList b.toList UE.toList (d+1) n:=by
            have:=I4.Vv M.sb UG λx z y o=>Hi (cZ M.sa f y o) (X6 x z);rw[<-ba,<-QT,<-Wp]at this;exact this
           by_cases h7:n=1
           .rw [YE (by rw[Z];simp[h7])]
            subst h7;exact XN ⟨G,some _,_,_,_,_,_,_,rfl,eU I5 M.sa M.sb Y X⟩
           .rw [Yn (by rw[Z];simpa using h7)]
            by_cases h8:n=0
            .rw [YE (by rw[Z];simp[h8])]
             exact XN ⟨G,some _,_,_,_,_,_,_,rfl,cS I5 M.sa M.sb (.inr h8)⟩
            .rw [Yn (by rw[Z];simpa using h8)]
             exact T5 Unit.unit n UE (by lia) UG I5 S
          .rw [Yn (by show ¬ (nb-n > 0);exact Wk)]
           have e0:n=nb:=by omega
           rw[e0]at S;exact T5 Unit.unit nb _ (by lia) (Hk _) I4 S
        by_cases T4:na-k > 0
        .rw [YE (by rw[ek];exact T4)]
         have I3:MH rk a.toList b.toList Wj.toList k (nb+1):=by
          have:=H.UI M.sa UK λx z y o=>Hi (cZ M.sb j y o) (Za x z);rw[<-ba,<-QT,<-Wp]at this;exact this
         by_cases h3:k=0
         .rw [YE (by rw[e3];simp[h3])]
          exact XN ⟨G,some _,_,_,_,_,_,_,rfl,cS I3 M.sa M.sb (.inl h3)⟩
         .rw [Yn (by rw[e3];simpa using h3)]
          exact VS Unit.unit k Wj (by lia) UK I3 T
        .rw [Yn (by rw[ek];exact T4)]
         have e0:k=na:=by omega
         rw[e0]at T;exact VS Unit.unit na out O (Hk _) H T
       by_cases hm:mg > 1
       .rw [YE hm];exact TY (WR Unit.unit mg') λr g h=>by cases r<;>exact h
       .rw [Yn hm];exact TY (WR Unit.unit mg) λr g h=>by cases r<;>exact h
      .rintro c t ⟨L,na,nb,out,mg,ac,C,rfl,H⟩
       exact⟨L,none,_,_,_,_,_,_,rfl,H⟩
      .rintro c t ⟨L,r,na,nb,out,mg,ac,C,rfl,H⟩
       cases r with
       |some res=>exact XN ⟨L,res,_,_,_,_,rfl,H⟩
       |none=>
        let⟨q0,q1,q2,q3⟩:=H;refine YX ?_;rw[dq];refine Qx (XN ⟨L,na,nb,out,_,rfl,q0,q1,q2,?_⟩);lia
   .rintro c N ⟨K,na1,nb1,SD,mg1,rfl,_,q1,q2,q3⟩
    have:max 0 total=a.size+b.size:=by show max 0 (a.size+b.size)=_;lia
    omega
   .rintro c N ⟨K,res,_,_,_,_,rfl,hr⟩
    exact XN (h res N K hr)
end
def kZ(s:Nat):∀(l:List Keyed) (n:Nat) (arr:Array Keyed),s+n+l.length<=arr.size->((l.zipIdx n).foldl (λa (p,j)=>a.setIfInBounds (s+j) p) arr).toList=arr.toList.take (s+n)++l++arr.toList.drop (s+n+l.length)
 |[],n,arr,h=>by simp
 |x::l,n,arr,h=>by
  rw[WJ]at h;rw[List.zipIdx_cons,List.foldl_cons,kZ s l (n+1) _ (by rw[OA];lia)]
  rw[Oi,WJ];have c:(arr.toList.set (s+n) x).take (s+(n+1))=arr.toList.take (s+n)++[x]:=by
   rw[<-O7,List.take_succ_eq_append_getElem (by simp;lia),List.take_set_of_le (Hk _),List.getElem_set_self]
  have b:(arr.toList.set (s+n) x).drop (s+(n+1)+l.length)=arr.toList.drop (s+n+(l.length+1)):=by
   rw[List.drop_set_of_lt (by lia)];congr 1;lia
  rw[c,b];simp
def uw(i:Nat):mergeAt' i=(do
 let s<-get
 let(some (sa,na,power),some (sb,nb,_)):=((pendingOf s)[i]?,(pendingOf s)[i+1]?)|unsupported "internal:list.sort.pending"
 set (setPending s (((pendingOf s).setIfInBounds i (sa,na+nb,power)).eraseIdxIfInBounds (i+1)))
 let some k<-IM false (<- elem' (arrOf s) sb) (arrOf s) sa na 0|return false
 let(sa,na):=(sa+k,na-k)
 if na==0 then return true
 let some nb<-IM true (<- elem' (arrOf s) (sa+na-1)) (arrOf s) sb nb (nb-1)|return false
 if nb==0 then return true
 let x:=(arrOf s).extract sa sb
 let y:=(arrOf s).extract sb (sb+nb)
 let merged<-if na<=nb then Dg x y else Di x y
 modify λs=>setArr s (merged.toList.zipIdx.foldl (λa (p,j)=>a.setIfInBounds (sa+j) p) (arrOf s))
 return (failedOf (<- get)).isNone):=rfl
section
def cO(a:Array Keyed)(i:Nat):IK rk a i=(a.toList[i]?.map rk).getD 0:=by
 unfold IK;rw[W3]
def rJ{a:Array Keyed}{l₁ l₂ RZ : List Keyed}(h:a.toList=l₁ ++ l₂ ++ RZ)(i:Nat):IK rk a i=if i<l₁.length then(l₁[i]?.map rk).getD 0 else if i<l₁.length+l₂.length then(l₂[i-l₁.length]?.map rk).getD 0 else(RZ[i-(l₁.length+l₂.length)]?.map rk).getD 0:=by
 rw[cO,h];split
 .rw [X7 (by rw[XZ];lia),X7 (by assumption)]
 .split
  .rw [X7 (by rw[XZ];assumption),WC (by lia)]
  .rw [WC (by rw[XZ];lia),XZ]
def yh{u:Array Keyed}{e p q:Nat}{mg:List Keyed}(I:e<=arr.size)(M:lo<=p)(L:p<=m)(K:m<=q)(J:q<=e)(A:Up (IK rk arr) lo m)(z:Up (IK rk arr) m e)
  (G:∀i,lo<=i->i<p ->∀t,m<=t->t<e->IK rk arr i<=IK rk arr t) (F:∀t,lo<=t->t<m ->∀j,q<=j->j<e->IK rk arr t<=IK rk arr j)
  (n:Res rk ((arr.extract p m).toList) ((arr.extract m q).toList) mg) (E:u.toList=arr.toList.take p++mg++arr.toList.drop q):Up (IK rk u) lo e:=by
 have D:mg.length=q-p:=by
  rw[n.1.length_eq,XZ,Y2,Y2,Pg,Pg];lia
 have IF:(arr.toList.take p).length=p:=by rw[Vp,Y2];lia
 have r':∀i,IK rk u i=if i<p then IK rk arr i else if i<q then(mg[i-p]?.map rk).getD 0 else IK rk arr i:=λi=>by
  rw[rJ E i,IF,D,show p+(q-p)=q by lia]
  split
  .rw [Q4 (by assumption),<-cO]
  .split
   .rfl
   .rw [Ol,show q+(i-q)=i by lia,<-cO]
 have f:∀i,i<q-p ->∃t,p<=t/\t<q/\(mg[i]?.map rk).getD 0=IK rk arr t:=λi hi=>by
  have YI:i<mg.length:=by lia
  have b:=n.1.mem_iff.mp (R3 YI);rw[ba,ba]at b;rw[YJ YI];rcases Wh.mp b with b|b
  .obtain ⟨j,a,o⟩:=Qo.mp b
   have s:=a;simp![Ub,Vp,Y2]at s;refine⟨p+j,by lia,by lia,?_⟩
   rw[aB (by lia:p+j<arr.size),<-o]
   simp
  .obtain ⟨j,a,o⟩:=Qo.mp b
   have s:=a;simp![Ub,Vp,Y2]at s;refine⟨m+j,by lia,by lia,?_⟩
   rw[aB (by lia:m+j<arr.size),<-o]
   simp
 intro i j hi r a;rw[r' i,r' j];by_cases l:i<p
 .rw [YE l]
  have c:∀t,p<=t->t<e->IK rk arr i<=IK rk arr t:=λt N H=>by
   by_cases g:t<m
   .exact A i t hi (by lia) g
   .exact G i hi l t (by lia) H
  by_cases x:j<p
  .rw [YE x];exact A i j hi r (by lia)
  .rw [Yn x]
   by_cases d:j<q
   .rw [YE d]
    let⟨t,g,C,h⟩:=f (j-p) (by lia)
    rw[h];exact c t g (by lia)
   .rw [Yn d];exact c j (by lia) a
 .rw [Yn l,Yn (by lia : ¬ j<p)]
  by_cases y:i<q
  .rw [YE y]
   by_cases d:j<q
   .rw [YE d]
    have w:i-p<mg.length:=by lia
    have v:j-p<mg.length:=by lia
    rw[YJ w,YJ v];rcases Nat.lt_or_eq_of_le r with k|k
    .exact Ry.mp n.2 (i-p) (j-p) w v (by lia)
    .subst k;exact Hk _
   .rw [Yn d]
    let⟨t,g,C,h⟩:=f (i-p) (by lia)
    rw[h];by_cases B:t<m
    .exact F t (by lia) B j (by lia) a
    .exact z t j (by lia) (by lia) a
  .rw [Yn y,Yn (by lia : ¬ j<q)]
   exact z i j (by lia) r a
end
section
variable{E:Value->Shared->Prop}
def eJ{p q:Nat}{x:Keyed}(h:x∈(arr.extract p q).toList):∃t,p<=t/\t<q/\t<arr.size/\IK rk arr t=rk x/\x∈arr:=by
 rw[ba]at h;let⟨j,a,e⟩:=Qo.mp h;have b:=a;simp![Ub,Vp,Y2]at b;refine⟨p+j,by lia,by omega,by omega,?_,?_⟩
 .rw [aB (by omega:p+j<arr.size),<-e];simp
 .rw [<-e];simp
def qb{p q hi:Nat}(h:Up (IK rk arr) lo hi)(d:lo<=p)(c:q<=hi)(b:hi<=arr.size):SrL rk (arr.extract p q).toList:=by
 rw[ba,SrL,Ry];intro i j YI a e;have a1:=YI;have a2:=a;simp![Ub,Vp,Y2]at a1 a2;have:=h (p+i) (p+j) (by lia) (by lia) (by lia)
 rw[aB (by lia:p+i<arr.size),aB (by lia:p+j<arr.size)]at this
 simpa using this
def yA{a:SortSt}{Q:PUnit->SortSt->Prop}(h:Q ⟨⟩ a):wpS (model prog w) A E s (set a:StateT SortSt Sem PUnit) Q st:=Qx (f:=λ_=>a) h
def xk(S:AG prog w A E s κ ZN rk)(B:SB κ ZN st){b c p e q:Nat}(h1:(pendingOf st)[i]?=some (b,c,p))(h2:(pendingOf st)[i+1]?=some (b+c,e,q))(X:0<c)(hnb:0<e)(hsz:b+c+e<=ZN.size)
  (G:Up (IK rk (arrOf st)) b (b+c)) (F:Up (IK rk (arrOf st)) (b+c) (b+c+e)) {Q:Bool->SortSt->Prop}
  (h:∀d,SB κ ZN d->(∀j,(j<b\/b+c+e<=j)->IK rk (arrOf d) j=IK rk (arrOf st) j)->Up (IK rk (arrOf d)) b (b+c+e)->pendingOf d=((pendingOf st).setIfInBounds i (b,c+e,p)).eraseIdxIfInBounds (i+1)->Q true d) :
  wpS (model prog w) A E s (mergeAt' i) Q st:=by
 rw[uw];refine YX (P9 ?_);rw[h1,h2]
 dsimp -zeta only
 have hs:=B.size;have D:∀x∈arrOf st,x∈ZN:=λx hx=>B.perm.mem_iff.mp hx;have WQ:b+c<(arrOf st).size:=by lia
 refine YX (yA ?_);generalize Sv:setPending st (((pendingOf st).setIfInBounds i (b,c+e,p)).eraseIdxIfInBounds (i+1))=C;have m:SB κ ZN C:=by rw[<-Sv];exact⟨B.perm,B.failed,B.kind⟩
 have ea:arrOf C=arrOf st:=by rw[<-Sv]
 have ep:pendingOf C=((pendingOf st).setIfInBounds i (b,c+e,p)).eraseIdxIfInBounds (i+1):=by rw[<-Sv]
 refine YX (aq WQ ?_);refine YX (fH S m.kind (D _ (VM WQ)) D (by lia) X G ?_);rintro k ⟨k1,k2,k3⟩
 dsimp -zeta only
 have kk:∀t,b<=t->t<b+k->IK rk (arrOf st) t<=IK rk (arrOf st) (b+c):=λt f g=>by
  have:=k2 (t-b) (by lia)
  unfold IP at this;rw[Yn Hj,show b+(t-b)=t by lia,Vy,TZ]at this
  rw[aB WQ];lia
 have kl:∀t,b+k<=t->t<b+c->rk (arrOf st)[b+c]<=IK rk (arrOf st) t:=λt f g=>by
  have:=k3 (t-b) (by lia) (by lia)
  unfold IP at this;rw[Yn Hj,show b+(t-b)=t by lia,Bool.not_eq_false',Wd]at this
  lia
 have RY:∀i,b<=i->i<b+k ->∀t,b+c<=t->t<b+c+e->IK rk (arrOf st) i<=IK rk (arrOf st) t:=λi i1 i2 t f g=>Hi (kk i i1 i2) (F _ t (Hk _) f g);by_cases P:c-k=0
 .rw [YE (by simp[P])]
  refine XN (h C m (λj _=>by rw[ea]) ?_ ep)
  rw[ea];intro x y J I H;by_cases N:y<b+c
  .exact G x y J I N
  .by_cases R:x<b+c
   .exact RY x J (by lia) y (by lia) H
   .exact F x y (by lia) I H
 .rw [Yn (by simpa using P)]
  have el:b+k+(c-k)-1=b+c-1:=by lia
  have O:b+k+(c-k)-1<(arrOf st).size:=by omega
  refine YX (aq O ?_);refine YX (fH S m.kind (D _ (VM O)) D (by lia) () F ?_);rintro n ⟨n1,n2,n3⟩
  dsimp -zeta only
  have nn:∀j,b+c+n<=j->j<b+c+e->IK rk (arrOf st) (b+c-1)<=IK rk (arrOf st) j:=λj W V=>by
   have:=n3 (j-(b+c)) (by lia) ()
   unfold IP at this;rw[YE rfl,show b+c+(j-(b+c))=j by lia,<-aB (rk:=rk) O,el]at this
   have:=Pf this;lia
  have nm:∀j,b+c<=j->j<b+c+n->IK rk (arrOf st) j<=IK rk (arrOf st) (b+c-1):=λj W V=>by
   have:=n2 (j-(b+c)) (by lia)
   unfold IP at this;rw[YE rfl,show b+c+(j-(b+c))=j by lia,<-aB (rk:=rk) O,el]at this
   have:=Ht this;lia
  have RX:∀t,b<=t->t<b+c ->∀j,b+c+n<=j->j<b+c+e->IK rk (arrOf st) t<=IK rk (arrOf st) j:=λt f g j W V=>Hi (G t _ f () ()) (nn j W V)
  by_cases e2:n=0
  .rw [YE (by simp[e2])]
   refine XN (h C m (λj _=>by rw[ea]) ?_ ep)
   rw[ea];intro x y J I H;by_cases N:y<b+c
   .exact G x y J I N
   .by_cases R:x<b+c
    .exact RX x J R y (by lia) H
    .exact F x y (by lia) I H
  .rw [Yn (by simpa using e2)]
   extract_lets x y jp;have sx:x.size=c-k:=by show((arrOf st).extract (b+k) (b+c)).size=_;rw[Pg];omega
   have sy:y.size=n:=by show((arrOf st).extract (b+c) (b+c+n)).size=_;rw[Pg];lia
   have WO:0<x.size:=by lia
   have K:0<y.size:=by lia
   have M:S4 rk ZN x y:=by
    refine⟨λz o=>?_,λz o=>?_,qb G (by lia) (by lia) (by lia),qb F () (by lia) (by lia),λz o v hv=>?_⟩
    .obtain ⟨t,_,_,_,_,Y⟩:=eJ (rk:=rk) (R9.mpr o)
     exact D _ Y
    .obtain ⟨t,_,_,_,_,Y⟩:=eJ (rk:=rk) (R9.mpr o)
     exact D _ Y
    .obtain ⟨t,f,g,_,T,_⟩:=eJ (rk:=rk) o
     have Wm:x.size-1<x.size:=by omega
     have ev:v=x[x.size-1]:=by
      rw[VT (by rw[Y2];exact Wm),Tx (by rw[Y2];lia)]at hv
      rw[WL.mp hv];simp
     have:rk v=IK rk (arrOf st) (b+c-1):=by
      rw[ev,aB (by lia:b+c-1<(arrOf st).size)]
      show rk (((arrOf st).extract (b+k) (b+c))[x.size-1])=_;rw[Array.getElem_extract];congr 2;lia
     rw[this,<-T];exact nm t f g
   have hf:∀z∈x.toList,rk y[0]<=rk z:=λz o=>by
    let⟨t,f,g,_,T,_⟩:=eJ (rk:=rk) o;have:=kl t f g;rw[T]at this;have e0:y[0]=(arrOf st)[b+c]:=by
     show((arrOf st).extract (b+c) (b+c+n))[0]=_;rw[Array.getElem_extract];rfl
    rw[e0];exact this
   have WR:∀mg d,SmS C d->Res rk x.toList y.toList mg.toList->wpS (model prog w) A E s (jp mg) Q d:=by
    intro mg d l u;refine YX (Qx (YX (P9 ?_)));have Y5:failedOf d=none:=l.2.2.2.trans m.failed;have Z:arrOf d=arrOf st:=l.2.1.trans ea;generalize L:List.foldl (λ(a:Array Keyed) (x:Keyed×Nat)=>a.setIfInBounds (b+k+x.snd) x.fst) (arrOf d) mg.toList.zipIdx=res;have U:mg.toList.length=(c-k)+n:=by
     rw[u.1.length_eq,XZ,Y2,Y2,sx,sy]
    have r:res.toList=(arrOf st).toList.take (b+k)++mg.toList++(arrOf st).toList.drop (b+c+n):=by
     have:=kZ (b+k) mg.toList 0 (arrOf d) (by rw[Z,U];omega)
     rw[Nat.add_zero,U,Z,show b+k+(c-k+n)=b+c+n by omega]at this
     rw[<-L,Z];exact this
    have Q9:res.Perm (arrOf st):=by
     rw[Array.perm_iff_toList_perm,r];have P:(arrOf st).toList=(arrOf st).toList.take (b+k)++(x.toList++y.toList)++(arrOf st).toList.drop (b+c+n):=by
      have N:=dz (arrOf st).toList (show b+c<=b+c+n by lia)
      have R:=dz (arrOf st).toList (show b+k<=b+c by lia)
      show _=_++(((arrOf st).extract (b+k) (b+c)).toList++((arrOf st).extract (b+c) (b+c+n)).toList)++_;rw[ba,ba,Wx,Wx,<-N,<-R,WK]
     conv=>rhs;rw[P]
     exact(u.1.append_left _).append_right _
    show wpS _ _ _ _ (pure (failedOf d).isNone) Q _;rw[Y5];refine XN (h _ ⟨Q9.trans B.perm,Y5,l.1.trans m.kind⟩ ?_ ?_ (l.2.2.1.trans ep))
    .intro j hj
     show IK rk res j=_;have IF:((arrOf st).toList.take (b+k)).length=b+k:=by rw[Vp,Y2];omega
     rw[rJ r j,IF,U,show b+k+(c-k+n)=b+c+n by omega]
     split
     .rw [Q4 (by assumption),<-cO]
     .rw [Yn (by lia),Ol,show b+c+n+(j-(b+c+n))=j by lia,<-cO]
    .show Up (IK rk res) b (b+c+e)
     exact yh (by lia) (by lia:b<=b+k) () (by omega:b+c<=b+c+n) (by lia) G F RY RX u r
   by_cases hc:c-k<=n
   .rw [YE hc]
    exact YX (w6 S M m.kind WO K hf λres d l u=>WR res d l u)
   .rw [Yn hc]
    exact YX (xN S M m.kind WO K hf λres d l u=>WR res d l u)
end
def PdR(r:Nat->Nat):List (Nat×Nat×Nat)->Nat->Nat->Prop
 |[],lo,hi=>lo=hi
 |(s,n,_)::l,lo,hi=>s=lo/\0<n/\Up r lo (lo+n)/\PdR r l (lo+n) hi
section
variable{r r':Nat->Nat}
def PdR.le:∀{l:List (Nat×Nat×Nat)} {lo hi:Nat},PdR r l lo hi->lo<=hi
 |[],_,_,h=>by cases h;exact Hk _
 |(s,n,p)::l,lo,hi,h=>by have:=h.2.2.2.le;lia
def PdR.app:∀{l f:List (Nat×Nat×Nat)} {lo hi:Nat},PdR r (l++f) lo hi ↔ ∃m,PdR r l lo m/\PdR r f m hi
 |[],f,lo,hi=>⟨λh=>⟨lo,rfl,h⟩,λ⟨m,h,k⟩=>by cases h;exact k⟩
 |(s,n,p)::l,f,lo,hi=>by
  rw[PK];constructor
  .rintro ⟨a,b,c,d⟩
   let⟨m,g,J1⟩:=PdR.app.mp d;exact⟨m,⟨a,b,c,g⟩,J1⟩
  .rintro ⟨m,⟨a,b,c,d⟩,e⟩
   exact⟨a,b,c,PdR.app.mpr ⟨m,d,e⟩⟩
def PdR.snoc{l:List (Nat×Nat×Nat)}{hi p:Nat}(h:PdR r l lo hi)(b:0<n)(a:Up r hi (hi+n)):PdR r (l++[(hi,n,p)]) lo (hi+n):=
 PdR.app.mpr ⟨hi,h,rfl,b,a,rfl⟩
def PdR.same:∀{l:List (Nat×Nat×Nat)} {lo hi:Nat},PdR r l lo hi->(∀j,lo<=j->j<hi->r' j=r j)->PdR r' l lo hi
 |[],_,_,h,_=>h
 |(s,n,p)::l,lo,hi,⟨a,b,c,d⟩,e=>by
  have:=d.le;refine⟨a,b,λi j h1 h2 f=>?_,d.same λj h1 h2=>e j (by lia) h2⟩
  rw[e i h1 (by lia),e j (by lia) (by lia)]
  exact c i j h1 h2 f
def PdR.join{l₁ l₂ : List (Nat×Nat×Nat)}{s p c a q hi:Nat}(h:PdR r (l₁ ++ (s,n,p)::(c,a,q)::l₂) lo hi)(b:∀j,(j<s\/s+n+a<=j)->r' j=r j)(f:Up r' s (s+n+a)):PdR r' (l₁ ++ (s,n+a,p)::l₂) lo hi:=by
 let⟨m,h1,h2,t,o,l,k,i,g⟩:=PdR.app.mp h;subst h2;have k1:=h1.le;refine PdR.app.mpr ⟨s,h1.same λj _ d=>b j (.inl d),rfl,by lia,by rw[<-O7];exact f,?_⟩
 rw[<-O7];exact g.same λj e _=>b j (.inr e)
def PdR.pair{l₁ l₂ : List (Nat×Nat×Nat)}{s p b a q hi:Nat}(h:PdR r (l₁ ++ (s,n,p)::(b,a,q)::l₂) lo hi):b=s+n/\0<n/\0<a/\s+n+a<=hi/\Up r s (s+n)/\Up r (s+n) (s+n+a):=by
 let⟨m,h1,h2,i,g,f,e,d,c⟩:=PdR.app.mp h;subst h2;exact⟨f,i,e,c.le,g,d⟩
def aaQ{l:List (Nat×Nat×Nat)}(h:i+1<l.length):∃x y,l[i]?=some x/\l[i+1]?=some y/\l=l.take i++x::y::l.drop (i+2)/\(l.set i (x.1,x.2.1+y.2.1,x.2.2)).eraseIdx (i+1)=l.take i++(x.1,x.2.1+y.2.1,x.2.2)::l.drop (i+2):=by
 have e:l=l.take i++l[i]::l[i+1]::l.drop (i+2):=by
  conv=>lhs;rw[<-WK i l,VT (),VT (by lia:i+1<l.length)]
 refine⟨l[i],l[i+1],YJ _,YJ h,e,?_⟩;have lt:(l.take i).length=i:=by rw[Vp];lia
 generalize l[i]=x at e ⊢;generalize l[i+1]=y at e ⊢;generalize l.take i=l₁ at e lt ⊢;generalize l.drop (i+2)=l₂ at e ⊢;subst e;subst lt;rw[List.set_append_right _ _ (Hk _),Nat.sub_self,List.set_cons_zero,List.eraseIdx_append_of_length_le (by lia),show l₁.length+1-l₁.length=1 by lia]
 rfl
end
section
variable{E:Value->Shared->Prop}
structure Ym(κ:SortKind)(ZN : Array Keyed)(rk:Keyed->Nat)(lo:Nat)(st:SortSt):Prop where
 sb:SB κ ZN st
 pr:PdR (IK rk (arrOf st)) (pendingOf st).toList 0 lo
def Ym.merge(r:AG prog w A E s κ ZN rk)(P:Ym κ ZN rk lo st)(x:lo<=ZN.size)(hi:i+1<(pendingOf st).size){Q:Bool->SortSt->Prop}
  (h:∀a,Ym κ ZN rk lo a->(∀j,lo<=j->IK rk (arrOf a) j=IK rk (arrOf st) j)->(pendingOf a).size+1=(pendingOf st).size->Q true a):wpS (model prog w) A E s (mergeAt' i) Q st:=by
 let⟨⟨d,na,p⟩,⟨sb,nb,q⟩,h1,h2,o,n⟩:=aaQ (l:=(pendingOf st).toList) (i:=i) (by rw[Y2];exact hi)
 have hp:=P.pr;rw[o]at hp;let⟨rfl,k,g,u,f,e⟩:=hp.pair;rw[W3]at h1 h2;refine xk r P.sb h1 h2 k g (by lia) f e λa t ho m b=>?_
 have c:(pendingOf a).toList=(pendingOf st).toList.take i++(d,na+nb,p)::(pendingOf st).toList.drop (i+2):=by
  rw[b,<-n,Array.toList_eraseIdxIfInBounds,Oi]
 refine h a ⟨t,?_⟩ (λj v=>ho j (.inr (by lia))) ?_
 .rw [c];exact hp.join ho m
 .have:=Rz List.length c
  rw[Y2,XZ,WJ,Vp,Ub,Y2]at this;lia
end
section
variable{E:Value->Shared->Prop}
def PdR.len{r:Nat->Nat}:∀{l:List (Nat×Nat×Nat)} {lo hi:Nat},PdR r l lo hi->lo+l.length<=hi
 |[],_,_,h=>by cases h;exact Hk _
 |(s,n,p)::l,lo,hi,h=>by have:=h.2.2.2.len;have:=h.2.1;rw[WJ];lia
def PdR.modify{r:Nat->Nat}{f:Nat×Nat×Nat->Nat×Nat×Nat}(d:∀x,(f x).1=x.1/\(f x).2.1=x.2.1):∀{l:List (Nat×Nat×Nat)} {k lo hi:Nat},PdR r l lo hi->PdR r (l.modify k f) lo hi
 |[],k,_,_,h=>by cases k<;>exact h
 |(s,n,p)::l,0,lo,hi,h=>by
  have:=d (s,n,p);rw[List.modify_zero_cons];obtain⟨⟨a,b,c⟩,e⟩:∃y,f (s,n,p)=y:=⟨_,rfl⟩;rw[e]at this ⊢;let⟨rfl,rfl⟩:=this;exact h
 |(s,n,p)::l,k+1,lo,hi,h=>by
  rw[List.modify_succ_cons];exact⟨h.1,h.2.1,h.2.2.1,h.2.2.2.modify d⟩
def wL{Q:Unit->SortSt->Prop}(M:AG prog w A E s κ ZN rk)(B:SB κ ZN st)(hp:pendingOf st = #[])
  (h:∀d,SB κ ZN d->Up (IK rk (arrOf d)) 0 ZN.size->Q Unit.unit d):wpS (model prog w) A E s sortRuns' Q st:=by
 rw[sortRuns'_eq];refine YX (P9 ?_);rw[B.size];extract_lets size U lo0;have P0:Ym κ ZN rk 0 st:=⟨B,by rw[hp];rfl⟩
 refine YX (TY (UW (I:=λx c d => ∃ lo,c=(none,lo)/\Ym κ ZN rk lo d/\lo<=ZN.size/\(x<=lo\/lo=ZN.size))
  (Q:=λc d=>c=(none,ZN.size)/\Ym κ ZN rk ZN.size d) ?step ?fin ⟨0,rfl,P0,QN _,.inl (Hk _)⟩) ?post)
 case fin=>
  rintro c d ⟨lo,rfl,P,Ka,l2⟩;have:max 0 size=ZN.size:=by show max 0 ZN.size=_;lia
  have:lo=ZN.size:=by lia
  subst this;exact⟨rfl,P⟩
 case step=>
  rintro x c d _ hx ⟨lo,rfl,P,Ka,l2⟩
  dsimp -zeta only
  extract_lets lo' jp;by_cases X:lo ≥ ZN.size
  .rw [YE X]
   have:lo=ZN.size:=by lia
   subst this;exact XN ⟨rfl,P⟩
  .rw [Yn X]
   refine YX (vp (lo:=lo) M P.sb (by show 1<=ZN.size-lo;lia) (by show lo+(ZN.size-lo)<=_;lia) λm t L Vz Yq XE=>?_)
   have Yq:m<=ZN.size-lo:=Yq
   dsimp -zeta only
   extract_lets;have WR:∀ (u:PUnit) (n:Nat) (z:SortSt),1<=n->lo+n<=ZN.size->Ym κ ZN rk lo z->Up (IK rk (arrOf z)) lo (lo+n)->wpS (model prog w) A E s (jp u n) (λr d=>match r with
     |.done c'=>c'=(none,ZN.size)/\Ym κ ZN rk ZN.size d
     |.yield c'=>∃lo,c'=(none,lo)/\Ym κ ZN rk lo d/\lo<=ZN.size/\(x+1<=lo\/lo=ZN.size)) z:=by
    intro u n z n1 n2 H C;refine YX (P9 ?_);extract_lets lo2 T7;have VS:∀ (u:PUnit) (k:SortSt),Ym κ ZN rk lo k->Up (IK rk (arrOf k)) lo (lo+n)->wpS (model prog w) A E s (T7 u) (λr d=>match r with
      |.done c'=>c'=(none,ZN.size)/\Ym κ ZN rk ZN.size d
      |.yield c'=>∃lo,c'=(none,lo)/\Ym κ ZN rk lo d/\lo<=ZN.size/\(x+1<=lo\/lo=ZN.size)) k:=by
     intro u k o F;refine YX (Qx (XN ⟨lo+n,rfl,⟨⟨o.sb.perm,o.sb.failed,o.sb.kind⟩,?_⟩,n2,by lia⟩))
     show PdR (IK rk (arrOf k)) ((pendingOf k).push (lo,n,0)).toList 0 (lo+n);rw[Rn];exact o.pr.snoc (by lia) F
    cases hb:(pendingOf z).back? with
    |none=>
     dsimp -zeta only
     exact TY (VS Unit.unit z H C) λr d h=>by cases r<;>exact h
    |some v=>
     let⟨s1,n1',pv⟩:=v
     dsimp -zeta only
     extract_lets V;refine YX (TY (UW (I:=λ_ c d=>c=(none,Unit.unit)/\Ym κ ZN rk lo d/\Up (IK rk (arrOf d)) lo (lo+n)) (Q:=λc d=>c=(none,Unit.unit)/\Ym κ ZN rk lo d/\Up (IK rk (arrOf d)) lo (lo+n)) ?_ (λ_ _ K=>K) ⟨rfl,H,C⟩) ?_)
     .rintro y c k _ _ ⟨rfl,o,F⟩
      refine YX (P9 ?_);extract_lets p;split
      .rename_i f1 f2 N W
       split
       .exact XN ⟨rfl,o,F⟩
       .have R:(pendingOf k).size-2+1<(pendingOf k).size:=by
         by_cases c1:(pendingOf k).size > 1
         .omega
         .rw [Yn c1]at W;cases W
        refine YX (o.merge M Ka R λV2 P5 J _=>?_);refine XN ⟨rfl,P5,λi j h1 h2 Y=>?_⟩;rw[J i h1,J j (by lia)]
        exact F i j h1 h2 Y
      .exact XN ⟨rfl,o,F⟩
     .rintro c k ⟨rfl,o,F⟩
      refine YX (Qx ?_);refine TY (VS Unit.unit _ ⟨⟨o.sb.perm,o.sb.failed,o.sb.kind⟩,?_⟩ F) λr d h=>by cases r<;>exact h
      show PdR (IK rk (arrOf k)) ((pendingOf k).modify ((pendingOf k).size-1) λx=>(x.fst,x.2.fst,V)).toList 0 lo;rw[Array.toList_modify];exact PdR.modify (f:=λx=>(x.fst,x.2.fst,V)) (λ_=>⟨rfl,rfl⟩) o.pr
   have g:Ym κ ZN rk lo t:=⟨L.sb,by rw[L.pend];exact P.pr.same λj _ O=>by unfold IK;rw[L.out j (.inl O)]⟩
   by_cases Z:m<U
   .rw [YE Z]
    refine YX (Oh (QR ⟨rfl,?_⟩));have fo:m<=min (ZN.size-lo) U/\lo+min (ZN.size-lo) U<=ZN.size:=by omega
    refine YX (uq (lo:=lo) M L.sb fo.2 fo.1 XE λz T C=>?_);have H:Ym κ ZN rk lo z:=⟨T.sb,by rw[T.pend];exact g.pr.same λj _ O=>by unfold IK;rw[T.out j (.inl O)]⟩
    exact TY (WR Unit.unit _ z (by lia) fo.2 H C) λr d h=>by cases r<;>exact h
   .rw [Yn Z]
    exact TY (WR Unit.unit m t Vz (by lia) g XE) λr d h=>by cases r<;>exact h
 case post=>
  rintro c d ⟨rfl,P⟩;have hlen:=P.pr.len;rw[Y2]at hlen;refine YX (TY (UW (I:=λx c D=>c=(none,Unit.unit)/\Ym κ ZN rk ZN.size D/\(pendingOf D).size+x<=ZN.size\/c=(none,Unit.unit)/\Ym κ ZN rk ZN.size D/\(pendingOf D).size<=1) (Q:=λc D=>c=(none,Unit.unit)/\Ym κ ZN rk ZN.size D/\(pendingOf D).size<=1) ?_ ?_ (.inl ⟨rfl,P,by lia⟩)) ?_)
  .intro x c t _ hx K
   refine YX (P9 ?_);by_cases h1:(pendingOf t).size<=1
   .rw [YE h1]
    rcases K with⟨rfl,g,_⟩|⟨rfl,g,_⟩<;>exact XN ⟨rfl,g,h1⟩
   .rw [Yn h1]
    rcases K with⟨rfl,g,h2⟩|⟨rfl,g,h2⟩
    .extract_lets
     rename_i i';have S:∀(c:Prop) [Decidable c] (a:Nat),(if c then a-1 else a)<=a:=λc _ a=>by split<;>lia
     have hi3:i'<=(pendingOf t).size-2:=S _ _;have hi:i'+1<(pendingOf t).size:=by omega
     refine YX (g.merge M (Hk _) hi λz H _ hz=>?_);exact XN (.inl ⟨rfl,H,by lia⟩)
    .omega
  .rintro c t (⟨rfl,g,h2⟩|⟨rfl,g,h2⟩)
   .have:max 0 size=ZN.size:=by show max 0 ZN.size=_;lia
    exact⟨rfl,g,by lia⟩
   .exact ⟨rfl,g,h2⟩
  .rintro c t ⟨rfl,g,h2⟩
   refine XN (h t g.sb ?_);have G:=g.pr;rw[<-Y2]at h2;generalize(pendingOf t).toList=l at G h2
   match l,G,h2 with
   |[],G,_=>intro i j _ _ Y;have:0=ZN.size:=G;lia
   |[(a,n,p)],G,_=>
    let⟨_,_,q3,q4⟩:=G;have:0+n=ZN.size:=q4;rw[<-this];exact q3
end
open PySem PyProof.Rows PySem.W
def jk{f:α->β}{l g:List β}(h:l.Perm g):∀(D:List α),g=D.map f ->∃a:List α,a.Perm D/\l=a.map f:=by
 induction h with
 |nil=>intro D e;exact⟨[],by rw[List.map_eq_nil_iff.mp e.symm],rfl⟩
 |cons x _ ih=>
  intro D e;cases D with
  |nil=>cases e
  |cons d D=>
   cases e;let⟨a,p,q⟩:=ih D rfl;exact⟨d::a,p.cons d,by rw[q];rfl⟩
 |swap x y l=>
  intro D e;cases D with
  |nil=>cases e
  |cons d D=>
   cases D with
   |nil=>cases e
   |cons d' D=>cases e;exact⟨d'::d::D,.swap _ _ _,rfl⟩
 |trans _ _ c b=>
  intro D e;let⟨m,p2,i⟩:=b D e;let⟨n,k,j⟩:=c m i;exact⟨n,k.trans p2,j⟩
def refs(D:Y_):List Value:=D.map λd=>.ref d.2
def BI(D:Y_):Prop:=D.Pairwise λx y=>Ag y.1 x.1=false
section
variable{E:Value->Shared->Prop}{D:Y_}
def IsT.keep{k:List Int}{b:Addr}(x:IsT prog w h k b)(a:∀o,h.get? b=some o->h'.get? b=some o):IsT prog w h' k b:=
 let⟨o,ZU,n,f,e,d,c⟩:=x;⟨o,ZU,n,a o f,e,d,c⟩
def fB(D:Y_):(pairsOf (refs D)).toList=D.map λd=>((.ref d.2,.ref d.2):Keyed):=by
 rw[pairsOf_toList];unfold refs
 induction D with
 |nil=>rfl
 |cons d D ih=>rw[Xu,Qw,ih];rfl
def mP:∀{D:Y_},(∀d∈D,IsT prog w s.heap d.1 d.2/\d.1≠[]) ->∃fs:List Value,KatTups s.heap (refs D) fs/\fs.length=D.length /\∀v∈fs,∃i t,v=.int i t
 |[],_=>⟨[],trivial,rfl,λv e=>by cases e⟩
 |d::D,h=>by
  let⟨fs,a,b,c⟩:=mP (D:=D) λd g=>h d (Hl _ g);let⟨⟨o,ZU,n,m,k,j,f⟩,p⟩:=h d Hr;cases hk:d.1 with
  |nil=>exact absurd hk p
  |cons i r=>
   rw[hk]at f;generalize hl:ZU.toList=l at f;cases f with
   |cons h1 _=>
    let⟨t,rfl⟩:=QG h1;refine⟨.int i t::fs,KatTups.cons m k j (by rw[<-W3,hl];rfl) a,by rw[WJ,b,WJ],λv e=>?_⟩
    rcases X8.mp e with rfl|e
    .exact ⟨i,t,rfl⟩
    .exact c v e
def vS(j:2<=D.length)(g:∀d∈D,IsT prog w s.heap d.1 d.2/\d.1≠[]){Q:SortKind->Shared->Prop}(h:Q (tuples' true) s):wpAny (model prog w) A (keyKind' (refs D).toArray) Q E s:=by
 let⟨fs,a,b,c⟩:=mP g;refine kat_kind (T:=.type "int") a (by lia) (λv f=>?_) #[1] (by rw[show(Value.type "int" != Value.type "tuple")=true by decide];exact h)
 let⟨i,t,rfl⟩:=c v f;exactλA Q E s' _ q=>ZP q
def abf{b:SortSt}(k:∀d∈D,IsT prog w s.heap d.1 d.2)(B:SB κ (pairsOf (refs D)) b)(g:Up (IK (IL D) (arrOf b)) 0 (pairsOf (refs D)).size):
  ∃a:Y_,a.Perm D/\BI a/\(arrOf b).map (·.2)=(refs a).toArray:=by
 have h:(arrOf b).toList.Perm (D.map λd=>((.ref d.2,.ref d.2):Keyed)):=by
  rw[<-fB];exact B.perm.toList
 let⟨a,p,e⟩:=jk h D rfl;have f:∀i (hi:i<a.length),(arrOf b)[i]?=some (.ref a[i].2,.ref a[i].2):=λi hi=>by
  rw[<-W3,e,Wi,YJ hi];rfl
 refine⟨a,p,?_,?_⟩
 .refine Ry.mpr λi j hi c l=>?_
  have m:(pairsOf (refs D)).size=a.length:=by rw[pairsOf_size];unfold refs;rw[Zg,p.length_eq]
  have:=g i j (QN _) (Qf l) (by lia)
  unfold IK at this;rw[f i hi,f j c]at this;have this:IL D (.ref a[i].2,.ref a[i].2)<=IL D (.ref a[j].2,.ref a[j].2):=this;rw[sf k (p.mem_iff.mp (R3 c)) (p.mem_iff.mp (R3 hi)) (.ref a[j].2) (.ref a[i].2)];exact VB (Nat.not_lt.mpr this)
 .apply PH.mp
  rw[Array.toList_map,e,Sw]
  rfl
def uS{P:PySem.Fin->Shared->Prop}(M:A.units<cLine)(r:s.heap.get? a=some (seqObj "list" (refs D).toArray n))(F:∀d∈D,IsT prog w s.heap d.1 d.2/\d.1≠[])(N:D.length<100000)
  (h:∀g:Y_,g.Perm D->BI g->P (.done (.ret .none)) {s with heap:=sortedHeap s.heap a (refs D) (refs g).toArray}) :
  wpAny (model prog w) A (Builtin.«list.sort» ⟨[.ref a],[]⟩) P E s:=by
 rw[list_sort_plain];have I:a<s.heap.objs.size:=Hh r;have f:(refs D).length=D.length:=by unfold refs;rw[Zg]
 refine ZB (listItems_at r rfl ?_);refine ZB (listUpdate_at r rfl ?_);obtain⟨G,K⟩:∃G,(s.heap.update a (Obj.mapSeq λ_=>#[])).get? a=some (seqObj "list" #[] G):=⟨_,get?_update_seq r (λ_=>#[])⟩;refine ZB (seqEpoch_at K rfl ?_);refine ZB (wpAny_newTuple ?_ (by rw[UP];show(refs D).toArray.toList.length<=_;rw[List.toList_toArray,f];lia))
 refine ZB (wpAny_newList ?_);refine Vt ?_;have u:(((s.heap.update a (Obj.mapSeq λ_=>#[])).push (seqObj "tuple" (refs D).toArray 0)).push (seqObj "list" #[] 0)).get? a=some (seqObj "list" #[] G):=by
  rw[Heap.get?_push_ne _ _ _ (by rw[size_push',Heap.size_update];exact Hn (Qn I)),Heap.get?_push_ne _ _ _ (by rw[Heap.size_update];exact Hn I)]
  exact K
 show wpAny (model prog w) A _ P E {s with heap:=((s.heap.update a (Obj.mapSeq λ_=>#[])).push (seqObj "tuple" (refs D).toArray 0)).push (seqObj "list" #[] 0)}
 have k:∀d∈D,IsT prog w (((s.heap.update a (Obj.mapSeq λ_=>#[])).push (seqObj "tuple" (refs D).toArray 0)).push (seqObj "list" #[] 0)) d.1 d.2/\d.1≠[]:=λd j=>by
  refine⟨(F d j).1.keep λo e=>?_,(F d j).2⟩;have O:d.2≠a:=λq=>by
   let⟨o',ZU,c,H,B,V,U⟩:=(F d j).1;rw[q,r]at H;cases H;have B:Value.type "list" = Value.type "tuple":=B;exact absurd B #[1]
  exact Hg _ (Hg _ ((W_ _ _ (Ne.symm O)).trans e))
 generalize T:(((s.heap.update a (Obj.mapSeq λ_=>#[])).push (seqObj "tuple" (refs D).toArray 0)).push (seqObj "list" #[] 0))=y at u k ⊢;have t:∀g:Y_,g.Perm D->BI g->P (.done (.ret .none)) {s with heap:=y.update a (Obj.mapSeq λ_=>(refs g).toArray)}:=λg p q=>by
  have:=h g p q;unfold sortedHeap at this;rw[T]at this;exact this
 dsimp only;have C:(refs D).toArray.size=D.length:=by rw[Xe,f]
 rw[C];by_cases h2:D.length<2
 .rw [YE h2,YE h2]
  refine ZB (ZP ?_);rw[StateT.run_pure];refine ZB (ZP ?_);dsimp only;refine ZB (seqEpoch_at u rfl ?_);refine ZB (listUpdate_at u rfl ?_ (hsz2:=by rw[Array.size_map];show(pairsOf (refs D)).size<=_;rw[pairsOf_size,UP,f];lia))
  simp![QK,Xc,Vb];have e:Array.map (λx=>x.2) ((refs D).toArray.zip (refs D).toArray)=(refs D).toArray:=by
   apply PH.mp;show(Array.map (λx:Keyed=>x.2) (pairsOf (refs D))).toList=_;rw[Array.toList_map,fB,Sw];rfl
  rw[show(arrOf (SortSt.mk' general' ((refs D).toArray.zip (refs D).toArray) #[] 7 none))=(refs D).toArray.zip (refs D).toArray from rfl,e];refine ZP (t D (.refl _) ?_)
  match D,h2 with
  |[],_=>exact .nil
  |[d],_=>exact OH _ _
  |_::_::_,h2=>exact absurd h2 (by simp![WJ];lia)
 .rw [Yn h2,Yn h2]
  refine ZB (vS (s:={s with heap:=y}) (by lia) k ?_)
  have S:∀x∈pairsOf (refs D),∃d∈D,x=(.ref d.2,.ref d.2):=λx L=>by
   have:x∈(pairsOf (refs D)).toList:=R9.mpr L;rw[fB]at this;let⟨d,j,e⟩:=WA.mp this;exact⟨d,j,e.symm⟩
  have W:(pairsOf (refs D)).size=D.length:=by rw[pairsOf_size,f]
  refine ZB (UM (wL (s:={ s with heap:=y }) (ZN := pairsOf (refs D)) (st:=SortSt.mk' (tuples' true) ((refs D).toArray.zip (refs D).toArray) #[] 7 none) (Q:=λ_ z=>SB (tuples' true) (pairsOf (refs D)) z/\Up (IK (IL D) (arrOf z)) 0 (pairsOf (refs D)).size)
   (adC M (λd j=>(k d j).1) S) ⟨Array.Perm.refl _,rfl,rfl⟩ rfl λz a b=>⟨a,b⟩) ?_ λ_ _ e=>e)
  rintro⟨⟨⟩,z⟩ s' ⟨rfl,J,R⟩;let⟨g,p,q,e⟩:=abf (s:={s with heap:=y}) (λd j=>(k d j).1) J R
  dsimp only;rw[e];refine ZB (seqEpoch_at u rfl ?_);refine ZB (listUpdate_at u rfl ?_ (hsz2:=by show(refs g).toArray.size<=_;unfold refs;rw[Xe,Zg,p.length_eq,UP];lia))
  rw[J.failed];simp![QK,Xc,Vb];exact ZP (t g p q)
end
section
variable{E:Value->Shared->Prop}{D:Y_}
def wK{r:Addr}{Q:Bool->Shared->Prop}(d:s.TypeIs (.ref r) "set")(h:Q false s):wpAny (model prog w) A (Builtin.List.listLengthHint (.ref r)) Q E s:=by
 unfold Builtin.List.listLengthHint;refine ZB (OZ d PySem.F.slot_set_len.lookup ?_);generalize a:("set.__len__" : String)=c
 wp_delta
 rw[show splitId c=some ("set","__len__")from by subst a;decide +kernel]
 subst a;refine ZB (OG (T:="set") (b:=true) d (by rw[O5];kernel_rfl) ?_)
 refine wpAny_ite_split (λf=>absurd f #[1]) (λ_=>?_)
 refine wpAny_ite_split (λ_=>?_) (λf=>absurd (by decide +kernel) f)
 refine ZB (OP d ?_);exact ZP h
def uJ{it c:Addr}{Q:Value->Shared->Prop}(a:SIt s.heap it c slot i n ep)(h:Q (.ref it) s):wpAny (model prog w) A (pyIter (.ref it)) Q E s:=by
 refine Ox a.typeIs i5 (Se (b:=Builtin.«dict_keyiterator.__iter__») i5 a.typeIs (entryFor_alias (id':="dict_keyiterator.__iter__") (by kernel_rfl) rfl (by decide +kernel) (by kernel_rfl)) ?_ (by unfold argsOk;kernel_rfl))
 show wpAny _ _ (ret (.ref it)) _ _ s;exact ZP ⟨_,rfl,"set_iterator",_,a.typeIs,bM.lookup,h⟩
def xH{o:Obj}{f:Array (Int×Value)}{t:SetTable}{Z:Z3}(u:A.handled=none){d it:Addr}(F:d≠it)(P:Yu prog w o D f ep t Z):
  Walks prog w A it [it,d] [it] f.size (λi v=>∃e,(IJ w d ep f)[i]?=some e/\v=e.2) (λi h=>∃slot,SIt h it d slot i f.size ep/\SAt w t slot i/\h.get? d=some o) where
 sub:=λb g=>by simp at g;simp[g]
 frame:=λi h h' ⟨slot,⟨io,C,B,z⟩,a,b⟩ hk=>⟨slot,⟨io,hk it #[3] io C,B,z⟩,a,hk d #[3] o b⟩
 item:=λi s Q E hi ⟨slot,a,b,c⟩ k=>by
  have j:(IJ w d ep f).length=f.size:=by rw[(gi w d ep f).length_eq,Y2]
  have r:(IJ w d ep f)[i]?=some (IJ w d ep f)[i]:=YJ ()
  refine xt a c P b r λh' G a' b' sb=>?_;exact k _ h' s.toks ⟨_,r,rfl⟩ ⟨G,a',b',(sb.2 d F).trans c⟩ λb o g e=>(sb.2 b λq=>g (by simp[q])).trans e
 done:=λs Q E ⟨slot,a,b,c⟩ k=>by
  have j:(IJ w d ep f).length=f.size:=by rw[(gi w d ep f).length_eq,Y2]
  refine xC u a c P b (Qh (by lia)) λh' y=>k h' s.toks λb o g e=>y b o (λq=>g (by simp[q])) e
 self:=λi s Q E ⟨slot,a,_,_⟩ k=>uJ a k
def aaf{o:Obj}{d:Array (Int×Value)}{t:SetTable}{Z:Z3}(P:Yu prog w o D d ep t Z)(b:Addr):
  KdlSrc prog w "set" b b d.size (λi v=>∃e,(IJ w b ep d)[i]?=some e/\v=e.2) (λh=>h.get? b=some o) where
 type:=λ_ a=>⟨o,a,P.ex.1⟩
 there:=λ_ a=>⟨Hh a,Hh a⟩
 keep:=λ_ _ a hk=>hk b (.inl rfl) o a
 notList:=by decide
 notTuple:=by decide
 hint:=λ_ _ _ _ a c=>wK ⟨o,a,P.ex.1⟩ c
 iter:=λ_ s f a=>⟨_,_,(λ_ _ c=>xY a P c),xH f (Hn (Hh a)) P,⟨0,⟨_,Ho _ rfl,rfl,rfl⟩,λ_=>uC P.tb,Hg _ a⟩⟩
def sortedHeap_at{xs out:Array Value}{vs:List Value}(d:h.get? a=some (seqObj "list" xs n)):∃c,(sortedHeap h a vs out).get? a=some (seqObj "list" out c):=by
 have j:a<h.objs.size:=Hh d;obtain⟨f,g⟩:∃f,(h.update a (Obj.mapSeq λ_=>#[])).get? a=some (seqObj "list" #[] f):=⟨_,get?_update_seq d (λ_=>#[])⟩;unfold sortedHeap;exact⟨_,get?_update_seq (Hg _ (Hg _ g)) _⟩
def sortedHeap_old{b:Addr}{o:Obj}{out:Array Value}{vs:List Value}(c:b≠a)(e:h.get? b=some o):(sortedHeap h a vs out).get? b=some o:=by
 unfold sortedHeap;refine(W_ _ _ (Ne.symm c)).trans ?_;exact Hg _ (Hg _ ((W_ _ _ (Ne.symm c)).trans e))
def iV{T:String}{r d:Addr}{P:Nat->Value->Prop}{u:Heap->Prop}{Q:Value->Shared->Prop}(K:KdlSrc prog w T r d n P u)(z:A.handled=none)(x:A.units+2<cLine)(F:u s.heap)(H:n<100000)
  (C:∀ vs:List Value,vs.length=n->(∀ (j:Nat) (v:Value),vs[j]? = some v->P j v) -> ∃ D:Y_,vs=refs D/\(∀ d∈D,IsT prog w s.heap d.1 d.2/\d.1≠[]) /\
   ∀(h1 h':Heap) (tk c:Nat) (a:Y_),a.Perm D->BI a->(∀b o,s.heap.get? b=some o->h1.get? b=some o)->(∀b o,h1.get? b=some o->h'.get? b=some o)->h'.get? h1.objs.size=some (seqObj "list" (refs a).toArray c)->Q (.ref h1.objs.size) {s with heap:=h',toks:=tk}) :
  wpAny (model prog w) A (call (.builtin "sorted") [.ref r]) Q E s:=by
 refine Calls.call_function_entry kind_sorted plain_sorted entry_sorted (args_sorted1 _) ?_;unfold Builtin.«sorted»;refine ZB (m:=checkCount "sorted" 1 1 _) (ZP ?_);refine ZB (kdu_collect (A:=A.in1) K z F (by rw[UP];lia) λh' tk ZQ hk t=>?_)
 have f:ZQ.toList.length=n:=by rw[Y2];exact t.1
 let⟨D,e,k,g⟩:=C ZQ.toList f (λj v e=>t.2 j v (by rw[<-W3];exact e))
 have y:D.length=n:=by rw[<-f,e];unfold refs;rw[Zg]
 refine ZB (wpAny_newList ?_ (by rw[f,UP];lia))
 rw[e];have h:(h'.push (seqObj "list" (refs D).toArray 0)).get? h'.objs.size=some (seqObj "list" (refs D).toArray 0):=Ho _ rfl;have G:∀d∈D,IsT prog w (h'.push (seqObj "list" (refs D).toArray 0)) d.1 d.2/\d.1≠[]:=λd i=>⟨(k d i).1.keep λo q=>Hg _ (hk _ _ q),(k d i).2⟩;show wpAny _ _ _ _ _ {s with heap:=h'.push (seqObj "list" (refs D).toArray 0),toks:=tk}
 refine ZB (Vt (Se slot_list_sort ⟨_,h,rfl⟩ entry_list_sort (uS (s:={s with heap:=h'.push (seqObj "list" (refs D).toArray 0),toks:=tk}) x h G (by lia) λa p q=>⟨_,rfl,?_⟩) (args_list_sort _)))
 let⟨c,B⟩:=sortedHeap_at (vs:=refs D) (out:=(refs a).toArray) h;refine ZP ⟨_,rfl,g h' _ tk c a p q hk (λb o l=>?_) B⟩;exact sortedHeap_old (Hn (Hh l)) (Hg _ l)
end
open PySem
noncomputable section
set_option genInjectivity false in
inductive Z9 where
 |Z5 (xs:List U)|ZG (Z4:List (List Int×U))|YD (Z4:List (List Int×U))|dst (Z4:List (Str×U))|ins (c:Nat) (fs:List (Nat×U))
abbrev G:=List Z9
abbrev Su:=List (Option U)
inductive Out(α:Type) where
 |ok (a:α) (g:G)|exc (c:Nat) (fs:List U) (g:G)|ZV
noncomputable def Out.bind{d b:Type}(o:Out d)(k:d->G->Out b):Out b:=match o with
 |.ok a g=>k a g
 |.exc c fs g=>.exc c fs g
 |.ZV=>.ZV
noncomputable def Out.Zb{b:Type}(o:Out b):Out b:=match o with
 |.ok a g=>.ok a g
 |_=>.ZV
noncomputable def Out.bindB{c b:Type}(o:Out c)(k:c->G->Out b):Out b:=match o with
 |.ok a g=>k a g
 |_=>.ZV
set_option genInjectivity false in
inductive Fl where|nx (O:Su)|rt (u:U)|bk (O:Su)|ct (O:Su)
set_option genInjectivity false in
inductive Iter where|Z5 (id:Nat)|W7 (id:Nat)|zip (id id':Nat)|seq (xs:List U)|YU (lo:Int) (n:Nat)
def Am(x y:U):Option Bool:=match x with
 |.ZJ=>match y with
  |.ZJ=>some true
  |.bl _=>some false
  |.int _=>some false
  |.str _=>some false
  |_=>none
 |.bl a=>match y with
  |.ZJ=>some false
  |.bl b=>some (a==b)
  |.int b=>some ((if a then 1 else 0)==b)
  |.str _=>some false
  |_=>none
 |.int a=>match y with
  |.ZJ=>some false
  |.bl b=>some (a==(if b then 1 else 0))
  |.int b=>some (a==b)
  |.str _=>some false
  |_=>none
 |.str a=>match y with
  |.ZJ=>some false
  |.bl _=>some false
  |.int _=>some false
  |.str b=>some (a==b)
  |_=>none
 |_=>none
def Ap:List U->List U->Option Bool
 |[],[]=>some true
 |x::xs,y::ys=>match Am x y with
  |none=>none
  |some b=>match Ap xs ys with
   |none=>none
   |some c=>some (b&&c)
 |_,_=>none
def IS:U->U->Option Bool
 |.ZY xs,.ZY ys=>Ap xs ys
 |x,y=>Am x y
def Ce:U->U->Bool
 |.int _,.int _=>true
 |.bl _,.bl _=>true
 |.str _,.str _=>true
 |.ZJ,.ZJ=>true
 |_,_=>false
def BC:Int:=18446744073709551616
def An:Int:=115792089237316195423570985008687907853269984665640564039457584007913129639936
def IT(op:Op)(i j:Int):Option U:=match op with
 |.add=>some (.int (i+j))
 |.sub=>some (.int (i-j))
 |.mul=>if(decide (-BC<i)&&decide (i<BC))||(decide (-BC<j)&&decide (j<BC))||(decide (-An<i)&&decide (i<An)&&decide (-An<j)&&decide (j<An))then some (.int (i*j))else none
 |.fdiv=>if 0<j then(if j<An then some (.int (i / j))else none)
   else if j=0 then none else if -An<j then some (.int (i.fdiv j))else none
 |.mod=>if 0<j then some (.int (i % j))else if j=0 then none else some (.int (i.fmod j))
 |.pow=>if 0<=j/\j<=1000/\i.natAbs<1000000 then some (.int (i ^ j.toNat))else none
def IU(op:Op)(x y:U):Option U:=match x with
 |.int i=>match y with
  |.int j=>IT op i j
  |_=>none
 |_=>none
def DT:Op->U->U->Option U
 |.add,.int a,.int b=>some (.int (a+b))
 |.sub,.int a,.int b=>some (.int (a-b))
 |_,_,_=>none
def IV(x:U):List U->Option Bool
 |[]=>some false
 |y::ys=>match IS y x with
  |none=>none
  |some b=>match IV x ys with
   |none=>none
   |some c=>some (b||c)
noncomputable def items(u:U)(g:G):Option (List U):=match u with
 |.ZY xs=>some xs
 |.Zy xs=>some xs
 |.xn _ xs=>some xs
 |.ref n=>match g[n]? with
  |some (.Z5 xs)=>some xs
  |_=>none
 |_=>none
def AV:U->Bool
 |.ZJ=>true
 |_=>false
def intsOf:List U->Option (List Int)
 |[]=>some []
 |.int i::r=>(intsOf r).map (i :: ·)
 |_::_=>none
def keyOf(u:U):Option (List Int):=match u with
 |.ZY S=>intsOf S
 |_=>none
def AK(b:List (List Int×U))(k:List Int):Option U:=(b.find? λa=>decide (a.1=k)).map (·.2)
def dput(b:List (List Int×U))(k:List Int)(v:U):List (List Int×U):=
 if(b.any λa=>decide (a.1=k))=true then b.map (λa=>if a.1=k then(a.1,v)else a)else b++[(k,v)]
def Cb(a:List (List Int×U))(x:U):Option (List (List Int×U)):=match x with
 |.ZY [k,u]=>(keyOf k).map λks=>dput a ks u
 |_=>none
def dfold:List U->List (List Int×U)->Option (List (List Int×U))
 |[],Z4=>some Z4
 |x::r,Z4=>(Cb Z4 x).bind λk=>dfold r k
def BH(b:List (Str×U))(k:Str):Option U:=(b.find? λa=>decide (a.1=k)).map (·.2)
def D4(b:List (Str×U))(k:Str)(v:U):List (Str×U):=
 if(b.any λa=>decide (a.1=k))=true then b.map (λa=>if a.1=k then(a.1,v)else a)else b++[(k,v)]
def IW(y:U)(g:G):Option (List (Str×U)):=match y with
 |.ref n=>match g[n]? with
  |some (.dst Z4)=>some Z4
  |_=>none
 |_=>none
noncomputable def Yd(y:U)(g:G):Option (List (List Int×U)):=match y with
 |.ref n=>match g[n]? with
  |some (.ZG Z4)=>some Z4
  |some (.YD Z4)=>some Z4
  |_=>none
 |_=>none
def AI(x y:U)(g:G):Option (Option U):=match Yd y g with
 |some Z4=>(keyOf x).map (AK Z4)
 |none=>none
def AW(x y:U)(g:G):Option (List U×List U):=match x with
 |.ref n=>match y with
  |.ref m=>match g[n]? with
   |some (.Z5 xs)=>match g[m]? with
    |some (.Z5 ys)=>some (xs,ys)
    |_=>none
   |_=>none
  |_=>none
 |_=>none
def IX(q:U->U->Option Bool):List U->List U->Option Bool
 |[],[]=>some true
 |x::xs,y::ys=>match q x y with
  |none=>none
  |some b=>match IX q xs ys with
   |none=>none
   |some c=>some (b&&c)
 |_,_=>none
def Cq:U->U->Option Bool
 |.ZY xs,.ZY ys=>IX IS xs ys
 |x,y=>Am x y
def IY(xs a:List U):Option Bool:=if xs.length=a.length then IX Cq xs a else some false
def IZ(u:U):Option Int:=match u with
 |.int i=>some i
 |_=>none
def EY:List U->Option (List Int)
 |[]=>some []
 |u::r=>(IZ u).bind λi=>(EY r).map (i :: ·)
def GN(u:U)(g:G):Option (List Int):=match u with
 |.ref n=>match g[n]? with
  |some (.Z5 S)=>EY S
  |_=>none
 |_=>none
def Fo(g:G):List U->Option (List (List Int))
 |[]=>some []
 |u::r=>(GN u g).bind λi=>(Fo g r).map (i :: ·)
def E9(u:U)(g:G):Option (List (List Int)):=match u with
 |.ref n=>match g[n]? with
  |some (.Z5 S)=>Fo g S
  |_=>none
 |_=>none
def neT(x y:U):Option Bool:=match x with
 |.ZY xs=>match y with
  |.ZY ys=>(IX IS xs ys).map (!·)
  |_=>none
 |_=>none
def I8(k:List Int):Int:=reduceHash (Builtin.Tuple.tupleHashOf (k.map hashInt))
def I9(op:Cp)(x y:U)(g:G):Option Bool:=match op with
 |.eq=>match AW x y g with
  |some p=>IY p.1 p.2
  |none=>IS x y
 |.ne=>if Ce x y then(Am x y).map (!·)else neT x y
 |.lt=>match x,y with|.int i,.int j=>some (decide (i<j))|_,_=>none
 |.le=>match x,y with|.int i,.int j=>some (decide (i<=j))|_,_=>none
 |.gt=>match x,y with|.int i,.int j=>some (decide (j<i))|_,_=>none
 |.ge=>match x,y with|.int i,.int j=>some (decide (j<=i))|_,_=>none
 |.U3=>if AV y then some (AV x)else none
 |.Th=>if AV y then some (!AV x)else none
 |.Xl=>match items y g with|some ys=>IV x ys|none=>(AI x y g).map Option.isSome
 |.Yy=>match items y g with|some ys=>(IV x ys).map (!·)|none=>(AI x y g).map λo=>!o.isSome
def Ja(u:U)(g:G):Option Bool:=match u with
 |.ZJ=>some false
 |.bl b=>some b
 |.int i=>some (i != 0)
 |.ZY xs=>some (!xs.isEmpty)
 |.Zy xs=>some (!xs.isEmpty)
 |.ref n=>match g[n]? with
  |some (.Z5 xs)=>some (!xs.isEmpty)
  |_=>none
 |_=>none
def Jb(xs:List U)(i:Int):Option U:=L2.atI xs i
noncomputable def lift{b:Type}(o:Option b)(g:G):Out b:=match o with
 |some a=>.ok a g
 |none=>.ZV
noncomputable def alloc(o:Z9)(g:G):Out U:=.ok (.ref g.length) (g++[o])
def Ab:Nat:=16777000
def A5(op:Op)(x y:U)(g:G):Out U:=match AW x y g with
 |some p=>match op with
  |.add=>if p.1.length+p.2.length<=Ab then alloc (.Z5 (p.1++p.2)) g else .ZV
  |_=>.ZV
 |none=>lift (IU op x y) g
def BR(x:U)(g:G):Option (Nat×List (Nat×U)):=match x with
 |.ref n=>match g[n]? with
  |some (.ins c fs)=>some (c,fs)
  |_=>none
 |_=>none
def CZ(j:Nat)(u:U):List (Nat×U)->List (Nat×U)
 |[]=>[(j,u)]
 |(i,x)::r=>if i=j then(i,u)::r else(i,x)::CZ j u r
def DE(j:Nat)(a:List Nat)(p:Nat×List (Nat×U)):Option U:=if a.contains p.1 then p.2.lookup j else none
def Dk(x:U)(j:Nat)(a:List Nat)(u:U)(g:G):Option G:=match x with
 |.ref n=>match g[n]? with
  |some (.ins c fs)=>if a.contains c/\fs.length<1000 then some (g.set n (.ins c (CZ j u fs)))else none
  |_=>none
 |_=>none
def Dm(j:Nat)(tb:List (Nat×Nat×List (Nat ⊕ U)))(p:Nat×List (Nat×U)):Option (Nat×List (Nat ⊕ U)):=match p.2.lookup j with
 |none=>tb.lookup p.1
 |some _=>none
def Cd(t:Ty):Option Bool:=match t with|.U0=>some true|_=>some false
def Ay(t:Ty)(u:U)(g:G):Option Bool:=match u with
 |.ZJ=>some false
 |.bl _=>match t with|.U2=>some true|.U1=>some true|.own _=>none|_=>some false
 |.int _=>match t with|.U2=>some true|.own _=>none|_=>some false
 |.str _=>match t with|.Uq=>some true|.own _=>none|_=>some false
 |.ZY _=>match t with|.Uo=>some true|.own _=>none|_=>some false
 |.ref n=>match g[n]? with
  |some (.Z5 _)=>Cd t
  |some (.ins c _)=>match t with|.own c'=>if c=c' then some true else none|_=>none
  |_=>none
 |_=>none
def A1(xs:List U)(lo hi:Option Int):List U:=(xs.drop (HT.sIx xs.length 0 lo)).take (HT.sIx xs.length xs.length hi-HT.sIx xs.length 0 lo)
def best(m:Bool)(a:Int)(r:List Int):Int:=r.foldl (λx y=>if m then(if y<x then y else x)else(if y > x then y else x)) a
def insI(a:Int):List Int->List Int
 |[]=>[a]
 |b::r=>if a<=b then a::b::r else b::insI a r
def sortI:List Int->List Int
 |[]=>[]
 |a::r=>insI a (sortI r)
def CN(S:List U)(g:G):Out U:=match S with
 |[u]=>match items u g with
  |some xs=>.ok (.int xs.length) g
  |none=>.ZV
 |_=>.ZV
def Dy(S:List U)(g:G):Out U:=match S with
 |[u]=>match u with
  |.int i=>.ok (.int (if i<0 then -i else i)) g
  |_=>.ZV
 |_=>.ZV
def tupI(k:List Int):U:=.ZY (k.map .int)
def BA(S:List U)(g:G):Out U:=match S with
 |[u]=>match items u g with
  |some xs=>alloc (.Z5 xs) g
  |none=>match Yd u g with
   |some Z4=>alloc (.Z5 (Z4.map λa=>tupI a.1)) g
   |none=>.ZV
 |_=>.ZV
def A6(S:List U)(g:G):Option (List Int):=match S with
 |[.ref n]=>match g[n]? with
  |some (.Z5 xs)=>intsOf xs
  |_=>none
 |_=>none
def F9(m:Bool)(S:List U)(g:G):Out U:=match intsOf S with
 |some ns=>match ns with
  |[a,b]=>.ok (.int (best m a [b])) g
  |[a,b,c]=>.ok (.int (best m a [b,c])) g
  |_=>.ZV
 |none=>match A6 S g with
  |some ns=>match ns with
   |a::r=>.ok (.int (best m a r)) g
   |[]=>.ZV
  |none=>.ZV
def G3(S:List U)(g:G):Out U:=match A6 S g with
 |some ns=>.ok (.int ns.sum) g
 |none=>.ZV
def GV(S:List U)(g:G):Out U:=match S with
 |[u]=>match u with
  |.ZY xs=>.ok (.ZY xs) g
  |.xn c xs=>.ok (.xn c xs) g
  |.ref n=>match g[n]? with
   |some (.Z5 xs)=>.ok (.ZY xs) g
   |_=>.ZV
  |_=>.ZV
 |_=>.ZV
def Fg(g:G):List U->Option (List U)
 |[]=>some []
 |.ref n::r=>match g[n]? with
  |some (.Z5 xs)=>(Fg g r).map (xs ++ ·)
  |_=>none
 |_::_=>none
def GR(S:List U)(g:G):Out U:=match S with
 |[.ref n,.ref m]=>match g[n]? with
  |some (.Z5 (x::xs))=>match g[m]? with
   |some (.Z5 [])=>match Fg g (x::xs)with
    |some zs=>if zs.length<=Ab then alloc (.Z5 zs) g else .ZV
    |none=>.ZV
   |_=>.ZV
  |_=>.ZV
 |_=>.ZV
def Bq:List U->Option (List (List Int))
 |[]=>some []
 |u::r=>match keyOf u with
  |none=>none
  |some k=>match Bq r with
   |none=>none
   |some ks=>some (k::ks)
def AN(a:List Int):List (List Int)->List (List Int)
 |[]=>[a]
 |b::r=>if a=b then b::r else if Ag a b=true then a::b::r else b::AN a r
def Jc:List (List Int)->List (List Int)
 |[]=>[]
 |a::r=>AN a (Jc r)
def Jd(ks:List (List Int)):Prop:=ks.length<=300/\(∀k∈ks,k≠[]) /\∀a∈ks,∀b∈ks,I8 a=I8 b->a=b
def B8(S:List U)(g:G):Out U:=match S with
 |[.ref n]=>match g[n]? with
  |some (.Z5 xs)=>match Bq xs with
   |some ks=>open Classical in if Jd ks then alloc (.Z5 ((Jc ks).map tupI)) g else .ZV
   |none=>.ZV
  |_=>.ZV
 |_=>.ZV
def Dp(S:List U)(g:G):Out U:=match S with
 |[u]=>match Yd u g with
  |some Z4=>open Classical in if Z4.length<100000/\(Z4.map (·.1)).Nodup /\∀k∈Z4.map (·.1),k≠[]then alloc (.Z5 ((Jc (Z4.map (·.1))).map tupI)) g else .ZV
  |none=>.ZV
 |_=>.ZV
def CO(S:List U)(g:G):Out U:=match A6 S g with
 |some ns=>if ns.length<64 then alloc (.Z5 ((sortI ns).map U.int)) g else .ZV
 |none=>Dp S g
def G2(S:List U)(g:G):Out U:=match S with
 |[u]=>match Yd u g with
  |some Z4=>open Classical in if Z4≠[] /\∀a∈Z4.map (·.1),∀b∈Z4.map (·.1),I8 a=I8 b->a=b then alloc (.ZG Z4) g else .ZV
  |none=>.ZV
 |_=>.ZV
def BZ(d:List (List Int)):PySem.PyData:=.list (d.map λr=>.list (r.map .int))
def G1(S:List U)(g:G):Out U:=match S with
 |[u]=>match E9 u g with
  |some d=>open Classical in if(BZ d).showable=true/\(BZ d).shown.length<=PySem.sizeLine then .ok (.str (BZ d).shown) g else .ZV
  |none=>.ZV
 |_=>.ZV
def GK(S:List U)(g:G):Out U:=match S with
 |[u]=>match u with
  |.bl b=>.ok (.int (if b then 1 else 0)) g
  |_=>.ZV
 |_=>.ZV
def Je(b:Bi)(S:List U)(g:G):Out U:=match b with
 |.len=>CN S g
 |.abs=>Dy S g
 |.list=>BA S g
 |.mn=>F9 true S g
 |.mx=>F9 false S g
 |.W9=>CO S g
 |.sum=>G3 S g
 |.tupl=>GV S g
 |.cat=>GR S g
 |.sset=>B8 S g
 |.dct=>G2 S g
 |.rpr=>G1 S g
 |.int=>GK S g
def Jf(x:U)(g:G):Option Nat:=match x with
 |.ref n=>match g[n]? with
  |some (.Z5 _)=>some n
  |_=>none
 |_=>none
def Bn(n:Nat)(y:U)(g:G):Out U:=match g[n]? with
 |some (.Z5 xs)=>if xs.length<Ab then .ok .ZJ (g.set n (.Z5 (xs++[y])))else .ZV
 |_=>.ZV
def BF(n:Nat)(y:U)(g:G):Out U:=match Jf y g with
 |some m=>match g[n]?,g[m]? with
  |some (.Z5 xs),some (.Z5 ys)=>if xs.length+ys.length<Ab then .ok .ZJ (g.set n (.Z5 (xs++ys)))else .ZV
  |_,_=>.ZV
 |none=>.ZV
def Dx(c:Bool)(n:Nat)(g:G):Out U:=match g[n]? with
 |some (.Z5 xs)=>.ok .ZJ (g.set n (.Z5 (match c with|true=>[]|false=>xs.reverse)))
 |_=>.ZV
def Br(n:Nat)(g:G):Out U:=match g[n]? with
 |some (.Z5 xs)=>match xs[xs.length-1]? with
  |some y=>.ok y (g.set n (.Z5 xs.dropLast))
  |none=>.ZV
 |_=>.ZV
def Bz(n:Nat)(y:U)(g:G):Out U:=match y with
 |.int i=>match g[n]? with
  |some (.Z5 xs)=>if 0<=i/\i<9223372036854775808 then match xs[i.toNat]? with
   |some u=>.ok u (g.set n (.Z5 (xs.eraseIdx i.toNat)))
   |none=>.ZV
   else .ZV
  |_=>.ZV
 |_=>.ZV
def Jg(f:E->Su->G->Out U):List E->Su->G->Out (List U)
 |[],_,g=>.ok [] g
 |e::es,O,g=>(f e O g).bind λu g=>(Jg f es O g).bind λS g=>.ok (u::S) g
def Jh(f:E->Su->G->Out U):Option E->Su->G->Out (Option Int)
 |none,_,g=>.ok none g
 |some e,O,g=>(f e O g).bind λu g=>match u with
  |.int i=>.ok (some i) g
  |_=>.ZV
def next(it:Iter)(i:Nat)(g:G):Option (Option U):=match it with
 |.Z5 id=>match g[id]? with
  |some (.Z5 xs)=>some xs[i]?
  |_=>none
 |.W7 id=>match g[id]? with
  |some (.Z5 xs)=>some ((xs[i]?).map λu=>.ZY [.int i,u])
  |_=>none
 |.zip id id'=>match g[id]? with
  |some (.Z5 xs)=>match g[id']? with
   |some (.Z5 ys)=>some ((xs[i]?).bind λu=>(ys[i]?).map λw=>.ZY [u,w])
   |_=>none
  |_=>none
 |.seq xs=>some xs[i]?
 |.YU lo n=>some (if i<n then some (.int (lo+i))else none)
def bindL:List Nat->List U->Su->Option Su
 |[],[],O=>some O
 |i::is,u::S,O=>if i<O.length then bindL is S (O.set i (some u))else none
 |_,_,_=>none
def AQ(t:Tg)(O:Su):Bool:=match t with
 |.nm i=>match O[i]? with|some none=>true|_=>false
 |.tp is=>is.all λi=>match O[i]? with|some none=>true|_=>false
def Af(t:Tg)(u:U)(O:Su):Option Su:=match t with
 |.nm i=>if i<O.length then some (O.set i (some u))else none
 |.tp is=>match u with
  |.ZY S=>bindL is S O
  |_=>none
def Ji(t:Tg)(u:U)(g:G):U:=match t with
 |.nm _=>u
 |.tp _=>match u with
  |.ref n=>match g[n]? with
   |some (.Z5 xs)=>.ZY xs
   |_=>u
  |_=>u
def pick(S:List U)(p:Nat ⊕ U):U:=match p with
 |.inl i=>S[i]?.getD .ZJ
 |.inr u=>u
def perm(S:List U)(a:List (Nat ⊕ U)):List U:=a.map (pick S)
set_option genInjectivity false in
structure Z7 where
 ev:E->Su->G->Out U
 ts:E->Su->G->Out Bool
 ex:List Z6->Su->G->Out Fl
 wh:E->List Z6->Su->G->Out Fl
 fr:Tg->Iter->Nat->List Z6->Su->G->Out Fl
 cm:Iter->Nat->Tg->List E->List (Tg×E×List E)->E->List U->Su->G->Out (List U)
def Jj(r:Z7)(e:E)(O:Su)(g:G):Out Iter:=match e with
 |.X3 a=>(r.ev a O g).bind λu g=>match u with
  |.int j=>if -1000000<j/\j<1000000 then .ok (.YU 0 j.toNat) g else .ZV
  |_=>.ZV
 |.WI a b=>(r.ev a O g).bind λu g=>(r.ev b O g).bind λw g=>match u,w with
  |.int i,.int j=>if -1000000<i/\i<1000000 /\ -1000000<j/\j<1000000 then .ok (.YU i (j-i).toNat) g else .ZV
  |_,_=>.ZV
 |.W7 a=>(r.ev a O g).bind λu g=>match Jf u g with
  |some n=>.ok (.W7 n) g
  |none=>.ZV
 |.zip a b=>(r.ev a O g).bind λu g=>(r.ev b O g).bind λw g=>match Jf u g with
  |some n=>match Jf w g with
   |some m=>.ok (.zip n m) g
   |none=>.ZV
  |none=>.ZV
 |e=>(r.ev e O g).bind λu g=>match u with
  |.ZY xs=>.ok (.seq xs) g
  |.xn _ xs=>.ok (.seq xs) g
  |.ref n=>match g[n]? with
   |some (.Z5 _)=>.ok (.Z5 n) g
   |_=>.ZV
  |_=>.ZV
def Hc(c:Nat)(y:U)(g:G):Bool:=match y with
 |.ZJ=>true
 |.ref m=>match g[m]? with
  |some (.Z5 _)=>true
  |some (.ins c' _)=>c'==c
  |_=>false
 |_=>false
def DK(u:U):Option Bool:=match u with
 |.bl c=>some c
 |_=>none
def BX(tb:List (Nat×Nat×List (Nat ⊕ U)))(x y:U)(g:G):Option (Nat×List (Nat ⊕ U)):=(BR x g).bind λp=>if Hc p.1 y g then tb.lookup p.1 else none
def Gf(y:U)(g:G):Option U:=match y with
 |.ref n=>match g[n]? with
  |some (.Z5 xs)=>match xs with
   |[w]=>some w
   |_=>none
  |_=>none
 |_=>none
def G7(x y:U):Bool:=match x with
 |.ref n=>match y with
  |.ref m=>n==m
  |_=>true
 |_=>true
def BM(C:Nat->List U->G->Out U)(op:Cp)(tb:List (Nat×Nat×List (Nat ⊕ U)))(x y:U)(g:G):Out U:=match op with
 |.eq=>match BX tb x y g with
  |some p=>(C p.1 (perm [x,y] p.2) g).bind λu g=>lift ((DK u).map .bl) g
  |none=>.ZV
 |.ne=>match BX tb x y g with
  |some p=>(C p.1 (perm [x,y] p.2) g).bind λu g=>lift ((DK u).map λc=>.bl (!c)) g
  |none=>.ZV
 |.Xl=>match Gf y g with
  |some w=>if(BR x g).isSome&&!G7 w x then match BX tb w x g with
   |some p=>(C p.1 (perm [w,x] p.2) g).bind λu g=>match DK u with
    |some true=>.ok (.bl true) g
    |_=>.ZV
   |none=>.ZV
   else .ZV
  |none=>.ZV
 |_=>.ZV
def Jk(C:Nat->List U->G->Out U)(r:Z7)(e:E)(O:Su)(g:G):Out U:=match e with
 |.L i=>match O[i]? with
  |some (some u)=>.ok u g
  |_=>.ZV
 |.ZW u=>.ok u g
 |.ZS op a b=>(r.ev a O g).bind λx g=>(r.ev b O g).bind λy g=>A5 op x y g
 |.cmp op a b=>(r.ev a O g).bind λx g=>(r.ev b O g).bind λy g=>match I9 op x y g with
  |some c=>.ok (.bl c) g
  |none=>.ZV
 |.chain op m a b c=>(r.ev a O g).bind λx g=>(r.ev b O g).bind λy g=>match I9 op x y g with
  |some true=>(r.ev c O g).bind λz g=>match I9 m y z g with
   |some c=>.ok (.bl c) g
   |none=>.ZV
  |some false=>.ok (.bl false) g
  |none=>.ZV
 |.and a b=>(r.ev a O g).bind λx g=>match x with
  |.bl true=>r.ev b O g
  |.bl false=>.ok (.bl false) g
  |_=>.ZV
 |.or a b=>(r.ev a O g).bind λx g=>match x with
  |.bl true=>.ok (.bl true) g
  |.bl false=>r.ev b O g
  |_=>.ZV
 |.not a=>(r.ev a O g).bind λx g=>match Ja x g with
  |some c=>.ok (.bl (!c)) g
  |none=>.ZV
 |.neg a=>(r.ev a O g).bind λx g=>match x with
  |.int i=>.ok (.int (-i)) g
  |_=>.ZV
 |.ite c a b=>(r.ts c O g).bind λk g=>if k then r.ev a O g else r.ev b O g
 |.ZY es=>(Jg r.ev es O g).bind λS g=>if S.length<=Ab then .ok (.ZY S) g else .ZV
 |.Z5 es=>(Jg r.ev es O g).bind λS g=>if S.length<=Ab then alloc (.Z5 S) g else .ZV
 |.idx a b=>(r.ev a O g).bind λx g=>(r.ev b O g).bind λy g=>match y with
  |.int i=>match items x g with
   |some xs=>lift (Jb xs i) g
   |none=>.ZV
  |.ZY _=>lift ((AI y x g).bind id) g
  |.str k=>lift ((IW x g).bind λZ4=>BH Z4 k) g
  |_=>.ZV
 |.W8 a lo hi=>(r.ev a O g).bind λx g=>(Jh r.ev lo O g).bind λl g=>(Jh r.ev hi O g).bind λh g=>match x with
  |.ZY xs=>if HT.sIx xs.length 0 l=0/\HT.sIx xs.length xs.length h=xs.length then .ZV else .ok (.ZY (A1 xs l h)) g
  |.Zy xs=>alloc (.Z5 (A1 xs l h)) g
  |.ref n=>match g[n]? with
   |some (.Z5 xs)=>alloc (.Z5 (A1 xs l h)) g
   |_=>.ZV
  |_=>.ZV
 |.rev a=>(r.ev a O g).bind λx g=>match x with
  |.ref n=>match g[n]? with
   |some (.Z5 xs)=>alloc (.Z5 xs.reverse) g
   |_=>.ZV
  |_=>.ZV
 |.call f es=>(Jg r.ev es O g).Zb.bind λS g=>C f S g
 |.SU f es ks pm=>(Jg r.ev es O g).Zb.bind λS g=>(Jg r.ev ks O g).Zb.bind λws g=>if S.length=es.length/\ws.length=ks.length then C f (perm (S++ws) pm) g else .ZV
 |.fld a j cs=>(r.ev a O g).bind λx g=>lift ((BR x g).bind (DE j cs)) g
 |.make c f es ks pm=>(Jg r.ev es O g).Zb.bind λS g=>(Jg r.ev ks O g).Zb.bind λws g=>if S.length=es.length/\ws.length=ks.length then
   (C f (perm (.ref g.length::S++ws) pm) (g++[.ins c []])).bind λu g'=>if AV u then .ok (.ref g.length) g' else .ZV else .ZV
 |.SS a j tb es ks=>(r.ev a O g).Zb.bind λx g=>match(BR x g).bind (Dm j tb)with
  |some p=>(Jg r.ev es O g).Zb.bind λS g=>(Jg r.ev ks O g).Zb.bind λws g=>if S.length=es.length/\ws.length=ks.length then C p.1 (perm (x::S++ws) p.2) g else .ZV
  |none=>.ZV
 |.Sd c o=>(r.ev o O g).bind λx g=>match Jf x g with
  |some n=>Dx c n g
  |none=>.ZV
 |.bi b es=>(Jg r.ev es O g).bind λS g=>Je b S g
 |.Yw a t=>(r.ev a O g).bind λx g=>match Ay t x g with
  |some c=>.ok (.bl c) g
  |none=>.ZV
 |.VI o v=>(r.ev o O g).bind λx g=>match Jf x g with
  |some n=>(r.ev v O g).bind λy g=>Bz n y g
  |none=>.ZV
 |.app o v=>(r.ev o O g).bind λx g=>match Jf x g with
  |some n=>(r.ev v O g).bind λy g=>Bn n y g
  |none=>.ZV
 |.ext o v=>(r.ev o O g).bind λx g=>match Jf x g with
  |some n=>(r.ev v O g).bind λy g=>BF n y g
  |none=>.ZV
 |.pop o=>(r.ev o O g).bind λx g=>match Jf x g with
  |some n=>Br n g
  |none=>.ZV
 |.X3 _=>.ZV
 |.WI _ _=>.ZV
 |.W7 _=>.ZV
 |.oeq op tb a b=>(r.ev a O g).bind λx g=>(r.ev b O g).bind λy g=>BM C op tb x y g
 |.zip _ _=>.ZV
 |.V6=>alloc (.ZG []) g
 |.comp own fr gs elt=>match gs with
  |[]=>.ZV
  |(t,it,cs)::ZR=>(Jj r it O g).bind λi g=>
    (r.cm i 0 t cs ZR elt [] (List.replicate own none++fr.map λj=>(O[j]?).getD none) g).bindB λS g=>
     if S.length<=Ab then alloc (.Z5 S) g else .ZV
 |.Sb ks es=>(Jg r.ev es O g).bind λS g=>alloc (.dst (ks.zip S)) g
 |.dgt o k x=>(r.ev o O g).bind λd g=>match Yd d g with
  |some _=>(r.ev k O g).bind λy g=>(r.ev x O g).bind λz g=>match AI y d g with
   |some w=>.ok (w.getD z) g
   |none=>.ZV
  |none=>.ZV
 |.pair k v=>(r.ev k O g).bind λx g=>(r.ev v O g).bind λy g=>match keyOf x with
  |some _=>.ok (.ZY [x,y]) g
  |none=>.ZV
 |.V5 own fr gs k v=>match gs with
  |[]=>.ZV
  |(t,it,cs)::ZR=>(Jj r it O g).bind λi g=>
    (r.cm i 0 t cs ZR (.pair k v) [] (List.replicate own none++fr.map λj=>(O[j]?).getD none) g).bindB λS g=>match dfold S []with
     |some Z4=>alloc (.ZG Z4) g
     |none=>.ZV
def Jl(r:Z7)(e:E)(O:Su)(g:G):Out Bool:=match e with
 |.and a b=>(r.ts a O g).bind λc g=>if c then r.ts b O g else .ok false g
 |.or a b=>(r.ts a O g).bind λc g=>if c then .ok true g else r.ts b O g
 |.not a=>(r.ts a O g).bind λc g=>.ok (!c) g
 |.ite c a b=>(r.ts c O g).bind λk g=>if k then r.ts a O g else r.ts b O g
 |e=>(r.ev e O g).bind λx g=>lift (Ja x g) g
def DI(n:Nat)(k:Int)(u:U)(O:Su)(g:G):Out Fl:=match g[n]? with
 |some (.Z5 xs)=>match L2.ixN xs.length k with
  |some j=>.ok (.nx O) (g.set n (.Z5 (xs.set j u)))
  |none=>.ZV
 |_=>.ZV
def DQ(n:Nat)(S:List U)(u:U)(O:Su)(g:G):Out Fl:=match g[n]? with
 |some (.ZG Z4)=>match intsOf S with
  |some k=>if Z4.length<Ab then .ok (.nx O) (g.set n (.ZG (dput Z4 k u)))else .ZV
  |none=>.ZV
 |_=>.ZV
def F5(n:Nat)(k:Str)(u:U)(O:Su)(g:G):Out Fl:=match g[n]? with
 |some (.dst Z4)=>if Z4.length<Ab then .ok (.nx O) (g.set n (.dst (D4 Z4 k u)))else .ZV
 |_=>.ZV
def Cf(a:List (List Int×U))(k:List Int):List (List Int×U):=a.filter λx=>!decide (x.1=k)
def Bb(x y:U)(O:Su)(g:G):Out Fl:=match x with
 |.ref n=>match g[n]? with
  |some (.ZG Z4)=>match keyOf y with
   |some k=>if k∈Z4.map (·.1)then .ok (.nx O) (g.set n (.ZG (Cf Z4 k)))else .ZV
   |none=>.ZV
  |_=>.ZV
 |_=>.ZV
def subAt(x y u:U)(O:Su)(g:G):Out Fl:=match x with
 |.ref n=>match y with
  |.int k=>DI n k u O g
  |.ZY S=>DQ n S u O g
  |.str k=>F5 n k u O g
  |_=>.ZV
 |_=>.ZV
def Jm(a:List U):List (Option U)->Option (List U)
 |[]=>some []
 |some u::r=>(Jm a r).map (u :: ·)
 |none::r=>match a with
  |[v]=>(Jm a r).map (v :: ·)
  |_=>none
def Bf(o:Out U)(j c:Nat)(xs:List (Option U))(O:Su):Out Fl:=match o with
 |.ok u g=>if j<O.length then .ok (.nx (O.set j (some u))) g else .ZV
 |.exc c' fs g=>if c'=c/\j<O.length/\xs.length<=Ab/\fs.length=1 then match Jm fs xs with
  |some S=>.ok (.nx ((List.replicate O.length none).set j (some (.ZY S)))) g
  |none=>.ZV
  else .ZV
 |.ZV=>.ZV
def Jn(r:Z7)(s:Z6)(O:Su)(g:G):Out Fl:=match s with
 |.ret e=>(r.ev e O g).bind λu g=>.ok (.rt u) g
 |.retN=>.ok (.rt .ZJ) g
 |.set t e=>(r.ev e O g).bind λu g=>match Af t (Ji t u g) O with
   |some ZT=>.ok (.nx ZT) g
   |none=>.ZV
 |.par i j a b=>(r.ev a O g).bind λu g=>(r.ev b O g).bind λw g=>
    if i<O.length/\j<O.length then .ok (.nx ((O.set i (some u)).set j (some w))) g else .ZV
 |.del o i=>(r.ev o O g).bind λx g=>(r.ev i O g).bind λy g=>Bb x y O g
 |.sub o i e=>(r.ev e O g).bind λu g=>(r.ev o O g).bind λx g=>(r.ev i O g).bind λy g=>subAt x y u O g
 |.aug i op e=>match O[i]? with
   |some (some x)=>(r.ev e O g).bind λy g=>match DT op x y with
    |some z=>.ok (.nx (O.set i (some z))) g
    |none=>.ZV
   |_=>.ZV
 |.exp e=>(r.ev e O g).bind λ_ g=>.ok (.nx O) g
 |.Zv c a b=>(r.ts c O g).bind λk g=>if k then r.ex a O g else r.ex b O g
 |.VH c b=>r.wh c b O g
 |.for t it b=>(Jj r it O g).bind λi g=>r.fr t i 0 b O g
 |.pass=>.ok (.nx O) g
 |.brk=>.ok (.bk O) g
 |.cont=>.ok (.ct O) g
 |.never=>.ZV
 |.fset a j cs e=>(r.ev e O g).bind λu g=>(r.ev a O g).bind λx g=>match Dk x j cs u g with
  |some g'=>.ok (.nx O) g'
  |none=>.ZV
 |.Zh b=>(r.ex b O g).Zb
 |.V4 c a b=>(r.ts c O g).Zb.bind λk g=>if k then r.ex a O g else r.ex b O g
 |.Sa t it b=>(Jj r it O g).Zb.bind λi g=>r.fr t i 0 b O g
 |.raise c es=>(Jg r.ev es O g).Zb.bind λS g=>if S.length<=Ab then .exc c S g else .ZV
 |.UZ j f es c xs=>Bf (r.ev (.call f es) O g) j c xs O
def Jo(r:Z7)(a:List Z6)(O:Su)(g:G):Out Fl:=match a with
 |[]=>.ok (.nx O) g
 |s::ZR=>(Jn r s O g).bind λf g=>match f with
  |.nx ZT=>r.ex ZR ZT g
  |f=>.ok f g
def Jp(r:Z7)(c:E)(b:List Z6)(O:Su)(g:G):Out Fl:=
 (r.ts c O g).bind λk g=>if k then(r.ex b O g).bind λf g=>match f with
  |.nx ZT=>r.wh c b ZT g
  |.ct ZT=>r.wh c b ZT g
  |.bk ZT=>.ok (.nx ZT) g
  |.rt u=>.ok (.rt u) g
 else .ok (.nx O) g
def Jq(r:Z7)(t:Tg)(it:Iter)(i:Nat)(b:List Z6)(O:Su)(g:G):Out Fl:=match next it i g with
 |none=>.ZV
 |some none=>.ok (.nx O) g
 |some (some u)=>match Af t u O with
  |none=>.ZV
  |some a=>(r.ex b a g).bind λf g=>match f with
   |.nx ZT=>r.fr t it (i+1) b ZT g
   |.ct ZT=>r.fr t it (i+1) b ZT g
   |.bk ZT=>.ok (.nx ZT) g
   |.rt u=>.ok (.rt u) g
def As(f:E->Su->G->Out Bool):List E->Su->G->Out Bool
 |[],_,g=>.ok true g
 |c::cs,O,g=>(f c O g).bind λk g=>if k then As f cs O g else .ok false g
def Jr(r:Z7)(it:Iter)(i:Nat)(t:Tg)(c:List E)(d:List (Tg×E×List E))(a:E)(b:List U)(O:Su)(g:G):Out (List U):=match next it i g with
 |none=>.ZV
 |some none=>.ok b g
 |some (some u)=>if AQ t O then match Af t u O with
  |none=>.ZV
  |some e=>(As r.ts c e g).bindB λk g=>if k then
    match d with
    |[]=>(r.ev a e g).bindB λv g=>if b.length<Ab then r.cm it (i+1) t c d a (b++[v]) O g else .ZV
    |(f,Xp,l)::m=>(Jj r Xp e g).bindB λj g=>(r.cm j 0 f l m a b e g).bindB λh g=>r.cm it (i+1) t c d a h O g
   else r.cm it (i+1) t c d a b O g
  else .ZV
def Js(C:Nat->List U->G->Out U):Nat->Z7
 |0=>⟨λ_ _ _=>.ZV,λ_ _ _=>.ZV,λ_ _ _=>.ZV,λ_ _ _ _=>.ZV,λ_ _ _ _ _ _=>.ZV,λ_ _ _ _ _ _ _ _ _=>.ZV⟩
 |n+1=>let r:=Js C n
  ⟨Jk C r,Jl r,Jo r,Jp r,Jq r,Jr r⟩
def Bx(fu:Nat)(C:Nat->List U->G->Out U)(F:Fn)(S:List U)(g:G):Out U:=
 if S.length=F.np then
  ((Js C fu).ex F.body (S.map some++List.replicate (F.ns-S.length) none) g).bind λf g=>match f with
   |.rt u=>.ok u g
   |.nx _=>.ok .ZJ g
   |_=>.ZV
 else .ZV
def Aa(J:List Fn)(fu:Nat):Nat->Nat->List U->G->Out U
 |0=>λ_ _ _=>.ZV
 |d+1=>λf S g=>match J[f]? with
  |some F=>Bx fu (Aa J fu d) F S g
  |none=>.ZV
end
end
end PI
variable{it:PI.Iter}{Q:PI.U->PI.G->Prop}{g:PI.G}{r:PI.Z7}{C:Nat->List PI.U->PI.G->PI.Out PI.U}{B:PI.Fl->Prop}{Z:PI.Z3}
namespace L2
open PySem PySem.Spec PyProof.Rows
section
variable{E:Value->Shared->Prop}
def yt{d:Addr}{o:Obj}{f:Array DictEntry}{Q:Value->Shared->Prop}(j:(d==sysModules)=false)(a:s.heap.get? d=some o)(g:o.ExactDict)(c:o.data=.dict f ep)
  (h:Q (.ref s.heap.objs.size) {s with heap:=s.heap.push {cls:=.type "dict_keyiterator",data:=.fields #[.ref d,.int 0 0,.int f.size 0,.int ep 0]}}):wpAny (model prog w) A (pyIter (.ref d)) Q E s:=by
 have t:s.TypeIs (.ref d) "dict":=⟨o,a,g.1⟩;refine Ox t F.slot_dict_iter (Se F.slot_dict_iter t F.entry_dict_iter ?_ (F.args_dict_iter_1 _));unfold Builtin.«dict.__iter__»;refine ZB ?_;unfold Builtin.Dict.dictSlotNone;refine ZB (wpAny_notOrdered_dict t ?_);show wpAny _ _ (pure (Value.ref d)) _ _ s;refine ZP ?_;show wpAny _ _ (Builtin.Dict.showsAll d >>= _) _ _ s;unfold Builtin.Dict.showsAll;rw[j,Yn Hj];refine ZB (ZP (ZB (Pz a c (ZB (O1 a c ?_)))));exact ZB (Uc (ZP ⟨_,rfl,"dict_keyiterator",_,⟨_,Ho _ rfl,rfl⟩,F.slot_dict_keyiterator_next.lookup,by simpa[rawInt]using h⟩))
def zO{it d:Addr}{g:Obj}{c:Array DictEntry}{e:DictEntry}{Q:Option Value->Shared->Prop}(a:s.heap.IsKeyIter it d i c.size ep)(k:s.heap.get? d=some g)(r:g.data=.dict c ep)(j:c[i]?=some e)
  (h:∀h',h'.IsKeyIter it d (i+1) c.size ep->Heap.SameBut it s.heap h'->Q (some e.key) {s with heap:=h'}):wpAny (model prog w) A (pyNext (.ref it)) Q E s:=by
 let⟨o,ho,u,f⟩:=id a;let⟨y,t⟩:=Vr.mp j;unfold pyNext;refine ZB (QD (Qc (name:=Str.ofString "__next__") a.typeIs Qe (Se Qe a.typeIs PX ?_ (PL _))));refine ZB (ZP ?_);refine ZB ?_;refine ZB ?_
 (first|refine ZB (Qa a.typeIs (ZP ?_))|refine ZB (Qp a.typeIs (ZP ?_)))
 refine ZB (Og ho f ?_);rw[show Builtin.Dict_items.ownsTuple "dict_keyiterator" = false from by decide];rw[if_neg Bool.false_ne_true]
 show wpAny _ _ (if(Value.ref d==Value.none)=true then _ else _) _ _ s;rw[Yn (show ¬ ((Value.ref d==Value.none)=true)from Hj)]
 refine ZB (ZP (ZB (Pz k r ?_)));rw[Yn #[3]];refine ZB (ZP (ZB (O1 k r ?_)));rw[Yn #[3]];refine ZP ?_
 dsimp only;rw[if_neg (show ¬((i:Int)<0) from by lia),Int.toNat_natCast,j];refine ZB ?_
 (first|refine ZB (Qa a.typeIs (ZP ?_))|refine ZB (Qp a.typeIs (ZP ?_)))
 refine ZB (wpAny_isOneOf_keyiter a.typeIs ?_);show wpAny _ _ (setField (.ref it) 1 (rawInt ((i:Int)+1)) >>= _) _ _ s;refine ZB (Qg ho f #[3] ?_)
 have n:(s.heap.update it (Obj.mapFields (·.setIfInBounds 1 (rawInt ((i:Int)+1))))).IsKeyIter it d (i+1) c.size ep:=⟨_,Uh _ ho (RU (Ug f _)),(Pw ..).trans u,by rw[Ug f];simp[rawInt]⟩
 refine ZB (Vt (ZB (wpAny_isOneOf_keyiter (s:={s with heap:=s.heap.update it (Obj.mapFields (·.setIfInBounds 1 (rawInt ((i:Int)+1))))}) n.typeIs ?_)));show wpAny _ _ (pure e.key) _ _ _
 exact ZP (ZP ⟨_,rfl,ZP (h _ n (TR ..))⟩)
def yx{it d:Addr}{g:Obj}{f:Array DictEntry}{Q:Option Value->Shared->Prop}(u:A.handled=none)(c:s.heap.IsKeyIter it d i f.size ep)(k:s.heap.get? d=some g)(r:g.data=.dict f ep)(t:f[i]?=none)
  (h:∀h',Heap.ExtBut it s.heap h'->Q none {s with heap:=h'}):wpAny (model prog w) A (pyNext (.ref it)) Q E s:=by
 let⟨o,ho,y,j⟩:=id c;unfold pyNext;refine ZB (QD (Qc (name:=Str.ofString "__next__") c.typeIs Qe (Se Qe c.typeIs PX ?_ (PL _))));refine ZB (ZP ?_);refine ZB ?_;refine ZB ?_
 (first|refine ZB (Qa c.typeIs (ZP ?_))|refine ZB (Qp c.typeIs (ZP ?_)))
 refine ZB (Og ho j ?_);rw[show Builtin.Dict_items.ownsTuple "dict_keyiterator" = false from by decide];rw[if_neg Bool.false_ne_true]
 show wpAny _ _ (if(Value.ref d==Value.none)=true then _ else _) _ _ s;rw[Yn (show ¬ ((Value.ref d==Value.none)=true)from Hj)]
 refine ZB (ZP (ZB (Pz k r ?_)));rw[Yn #[3]];refine ZB (ZP (ZB (O1 k r ?_)));rw[Yn #[3]];refine ZP ?_
 dsimp only;rw[if_neg (show ¬((i:Int)<0) from by lia),Int.toNat_natCast,t];refine ZB ?_
 (first|refine ZB (Qa c.typeIs (ZP ?_))|refine ZB (Qp c.typeIs (ZP ?_)))
 show wpAny _ _ (setField (.ref it) 0 .none >>= _) _ _ s;refine ZB (Qg ho j #[3] ?_);show wpAny _ _ (newExc (.type "StopIteration") [] >>= _) _ _ _
 refine ZB ?_;delta newExc newTuple;try dsimp only;refine ZB (Uc ?_ (by size_fits))
 refine ZB (m:=firstArgMember _ _) (O4 (a:=Value.none) (by first|rfl|(simp![firstArgMember];rfl)) (Uc ?_ (by size_fits)));delta raiseNew;try dsimp only
 refine ZB (wpAny_handled ?_);rw[show A.in1.handled=none from u];refine ZB (ZP (wpAny_throw ?_));exact ZB (OG (T:="StopIteration") (b:=true) ⟨_,Ho _ rfl,rfl⟩ isSubtype_stop (ZP (h _ (((TR ..).extBut.push _).push _))))
end
def dtAt(z:ObjOk P w H h a (.dT Z4)):Z4.length<=sizeLine/\(a==sysModules)=false /\∃o es ep,h.get? a=some o/\o.ExactDict/\o.data=.dict es ep/\es.size=Z4.length /\
  ∀(i:Nat) (k:List Key) (v:V),Z4[i]?=some (k,v) ->∃(b:Addr) (f:DictEntry),es[i]?=some f/\f.key=.ref b/\H b=some (.ZY (k.map HV)):=by
 let⟨e,hs,xs,d,o,es,ep,ho,m,s,c,_⟩:=z;have r:es.size=xs.length:=by rw[<-Y2,c,Zg]
 refine⟨e,hs,o,es,ep,ho,m,s,by rw[r,QC d],λi k v hk=>?_⟩
 have key:∀{Z4:List (List Key×V)} {xs:List (List Key×Addr×Value)},Paired (λ(p:List Key×V) (q:List Key×Addr×Value)=>p.1=q.1/\H q.2.1=some (.ZY (p.1.map HV))/\RelV p.2 q.2.2) Z4 xs ->∀(i:Nat) (k:List Key) (v:V),Z4[i]?=some (k,v) ->∃q:List Key×Addr×Value,xs[i]?=some q/\H q.2.1=some (.ZY (k.map HV)):=by
  intro Z4 xs d
  induction d with
  |nil=>intro i k v z;simp at z
  |cons h1 _ ih=>
   intro i k v z;cases i with
   |zero=>simp at z;subst z;exact⟨_,by simp,h1.2.1⟩
   |succ j=>let⟨q,l,g⟩:=ih j k v (by simpa using z);exact⟨q,by simpa using l,g⟩
 let⟨q,n,t⟩:=key d i k v hk;refine⟨q.2.1,entryOfKey (tupleKind (AB P w)) q,?_,rfl,t⟩;rw[<-W3,c,Wi,n];rfl
def rIxD:R2:=λx y H Q=>∃a v,x=.ref a/\DGet H a y (some v)/\Q v H
def aai{O:St}{y:V}{o:Option V}(I:Z0 X Y O H s)(g:DGet H a y o):s.TypeIs (.ref a) "dict":=by
 rcases g with⟨Z4,k,e,q⟩|⟨Z4,k,b,e,q⟩
 .exact let⟨_,_,_,_,dd⟩:=dk I.ZK e;dd.typeIs
 .exact let⟨_,_,_,_,dd⟩:=di I.ZK e;dd.typeIs
def yi(i:X.A.units+1<cLine):IxR X rIxD:=by
 intro b slice Y s O H x y v u Q I h f ⟨a,z,e,g,q⟩ hs;subst e;obtain rfl:v=Value.ref a:=h;have d:=aai I g;have c:wpAny (model X.prog X.w) X.A (subscripted slice false (.ref a) u) (λr s3=>wpAny (model X.prog X.w) X.A (letTemporaryGo b (.ref a) r >>= λ_=>pure r) (EP X Y O Q) X.xe s3) X.xe s:=by
  rw[hs];exact wpAny_operating (vU i I g f λl s3 k j=>ZB (wpAny_letTemporaryGo (ZP ⟨z,H,k,j,q⟩)))
 unfold subscriptTail;refine ZB ?_;rw[getitemInPython_of_ne d.not_modules];refine ZB (OZ d PySem.F.slot_dict_getitem.lookup ?_)
 (first|exact ZP (ZB c)|exact ZB (ZP (ZB c))|exact ZB c)
def Ite(K:Hu)(a:Addr):It:=
 ⟨λi H=>∃xs x,SqL K H a xs/\xs[i]?=some x,λi H x H'=>∃p v,H p=none/\x=.ref p/\H'=upd H p (.ZY [.int i,v]) /\∀xs,SqL K H a xs->xs[i]?=some v,λi H=>∃xs,SqL K H a xs/\xs.length<=i⟩
end L2
namespace L2
open PySem PySem.Spec PyProof.Rows
def Itz(K:Hu)(a b:Addr):It:=
 ⟨λi H => ∃ xs ys x y,SqL K H a xs/\SqL K H b ys/\xs[i]? = some x/\ys[i]? = some y,λi H x H' => ∃ p v w,H p=none/\x=.ref p/\H'=upd H p (.ZY [v,w])/\(∀ xs,SqL K H a xs->xs[i]? = some v) /\ ∀ ys,SqL K H b ys->ys[i]? = some w,
  λi H=>∃xs ys,SqL K H a xs/\SqL K H b ys/\(xs.length<=i\/ys.length<=i)⟩
structure ZA(z TI TO i1 i2:Addr):Prop where
 TIz:TI≠z
 TOz:TO≠z
 i1z:i1≠z
 i2z:i2≠z
 TITO:TI≠TO
 TIi1:TI≠i1
 TIi2:TI≠i2
 TOi1:TO≠i1
 TOi2:TO≠i2
 i12:i1≠i2
end L2
namespace PI
noncomputable section
open PySem PySem.Spec PyProof.Rows L2
def SqF(K:Hu)(H:Hp)(a:Addr)(xs:List V):Prop:=
 (∃o,H a=some (.Zm o (.Z5 xs))) \/
  ∃(o:Obj) (ZU:Array Value) (n:Nat),K.lookup a=some o/\o.cls=.type "list" /\ o.dict=none/\o.data=.seq ZU n/\ZU.size<=sizeLine/\ZH xs ZU.toList
def SqF.sq{xs:List V}(h:SqF K H a xs):SqL K H a xs:=by
 rcases h with h|h
 .exact .inl (.inr h)
 .exact .inr h
def SqU(_:Hu)(H:Hp)(a:Addr)(xs:List V):Prop:=H a=some (.ZY xs)
def SqU.sq{xs:List V}(h:SqU K H a xs):SqT K H a xs:=.of h
def SqC(K:Hu)(a:Addr)(xs:List V):Prop:=
 ∃(o:Obj) (ZU:Array Value) (n:Nat),K.lookup a=some o/\o.cls=.type "tuple" /\ o.data=.seq ZU n/\ZU.size<=sizeLine/\ZH xs ZU.toList
def SqC.sq{xs:List V}(h:SqC K a xs):SqT K H a xs:=.inr h
inductive RT(Z6:Addr->List V->Prop)(R:List V->Prop)(v:V):Prop
 |mk (a:Addr) (vs:List V) (e:v=.ref a) (s:Z6 a vs) (r:R vs)
inductive RC{α:Type}(p:α->Prop)(q:List α->Prop)(vs:List α):Prop
 |mk (v:α) (r:List α) (e:vs=v::r) (h:p v) (t:q r)
mutual
def RV(K:Hu)(ρ:List Addr)(H:Hp):U->V->Prop
 |.ZJ,v=>v=.ZJ
 |.bl b,v=>v=.bl b
 |.int i,v=>v=.int i
 |.str s,v=>v=.str s
 |.ZY S,v=>RT (SqU K H) (RVs K ρ H S) v
 |.Zy S,v=>RT (SqF K H) (RVs K ρ H S) v
 |.ref n,v=>∃a,v=.ref a/\ρ[n]?=some a
 |.xn _ S,v=>RT (SqC K) (RVs K ρ H S) v
def RVs(K:Hu)(ρ:List Addr)(H:Hp):List U->List V->Prop
 |[],vs=>vs=[]
 |u::S,vs=>RC (RV K ρ H u) (RVs K ρ H S) vs
end
structure ZI(K:Hu)(ρ:List Addr)(H:Hp)(ZO:List Addr)(H':Hp):Prop where
 ext:∀(n:Nat) (a:Addr),ρ[n]?=some a->ZO[n]?=some a
 new:∀(n:Nat) (a:Addr),ZO[n]?=some a->ρ[n]?=some a\/H a=none
 X4:∀a o,H a=some o->a ∉ ρ->H' a=some o
 live:∀a,H a≠none->H' a≠none
 ZY:∀a xs,SqU K H a xs->SqU K H' a xs
 Zy:∀a xs,SqF K H a xs->SqF K H' a xs
 Zm:∀a o u,H a=some (.Zm o u)->H' a=some (.Zm o u)
section
variable{TQ:List Addr}{Yc:Hp}
def ZI.refl:ZI K ρ H ρ H:=⟨λ_ _ h=>h,λ_ _ h=>.inl h,λ_ _ h _=>h,λ_ h=>h,λ_ _ h=>h,λ_ _ h=>h,λ_ _ _ h=>h⟩
def ZI.trans(a:ZI K ρ H ZO H')(b:ZI K ZO H' TQ Yc):ZI K ρ H TQ Yc where
 ext:=λn x h=>b.ext n x (a.ext n x h)
 new:=λn x h=>by
  rcases b.new n x h with q|q
  .exact a.new n x q
  .refine .inr ?_
   cases e:H x with
   |none=>rfl
   |some o=>exact absurd q (a.live x (by rw[e];simp))
 X4:=λx o h c=>b.X4 x o (a.X4 x o h c) λd=>by
  let⟨n,f⟩:=TU.mp d;rcases a.new n x f with q|q
  .exact c (TU.mpr ⟨n,q⟩)
  .rw [q]at h;cases h
 live:=λx h=>b.live x (a.live x h)
 ZY:=λx xs h=>b.ZY x xs (a.ZY x xs h)
 Zy:=λx xs h=>b.Zy x xs (a.Zy x xs h)
 Zm:=λx o u h=>b.Zm x o u (a.Zm x o u h)
mutual
def RV.mono(f:∀(n:Nat) (a:Addr),ρ[n]?=some a->ZO[n]?=some a)(c:∀a xs,SqU K H a xs->SqU K H' a xs)(d:∀a xs,SqF K H a xs->SqF K H' a xs):∀(u:U) (v:V),RV K ρ H u v->RV K ZO H' u v
 |.ZJ,_,h=>h
 |.bl _,_,h=>h
 |.int _,_,h=>h
 |.str _,_,h=>h
 |.ZY S,v,h=>by
  let⟨a,b,e,h1,h2⟩:=h;exact⟨a,b,e,c _ _ h1,RVs.mono f c d S b h2⟩
 |.Zy S,v,h=>by
  let⟨a,b,e,h1,h2⟩:=h;exact⟨a,b,e,d _ _ h1,RVs.mono f c d S b h2⟩
 |.ref n,v,h=>by
  let⟨a,e,h1⟩:=h;exact⟨a,e,f _ _ h1⟩
 |.xn _ S,v,h=>by
  let⟨a,b,e,h1,h2⟩:=h;exact⟨a,b,e,h1,RVs.mono f c d S b h2⟩
def RVs.mono(d:∀(n:Nat) (a:Addr),ρ[n]?=some a->ZO[n]?=some a)(b:∀a xs,SqU K H a xs->SqU K H' a xs)(c:∀a xs,SqF K H a xs->SqF K H' a xs):∀(S:List U) (vs:List V),RVs K ρ H S vs->RVs K ZO H' S vs
 |[],_,h=>h
 |u::S,vs,h=>by
  let⟨v,r,e,h1,h2⟩:=h;exact⟨v,r,e,RV.mono d b c u v h1,RVs.mono d b c S r h2⟩
end
def RV.step(s:ZI K ρ H ZO H')(u:U)(v:V)(h:RV K ρ H u v):RV K ZO H' u v:=RV.mono s.ext s.ZY s.Zy u v h
def RVs.step(s:ZI K ρ H ZO H')(S:List U)(vs:List V)(h:RVs K ρ H S vs):RVs K ZO H' S vs:=RVs.mono s.ext s.ZY s.Zy S vs h
def RVs.length:∀{S:List U} {vs:List V},RVs K ρ H S vs->S.length=vs.length
 |[],_,h=>by cases h;rfl
 |_::S,_,h=>by
  let⟨v,r,rfl,_,h2⟩:=h;simp[RVs.length h2]
def RVs.get:∀{S:List U} {vs:List V} {i:Nat} {u:U},RVs K ρ H S vs->S[i]?=some u ->∃v,vs[i]?=some v/\RV K ρ H u v
 |[],_,_,_,_,e=>by simp at e
 |x::S,_,0,u,h,e=>by
  let⟨v,r,rfl,h1,_⟩:=h;simp at e;subst e;exact⟨v,by simp,h1⟩
 |x::S,_,i+1,u,h,e=>by
  let⟨v,r,rfl,_,h2⟩:=h;let⟨w,b,a⟩:=RVs.get (i:=i) (u:=u) h2 (by simpa using e)
  exact⟨w,by simpa using b,a⟩
def RVs.none_of{vs:List V}(h:RVs K ρ H S vs)(e:S[i]?=none):vs[i]?=none:=by
 have h1:=h.length;have h2:S.length<=i:=Uw.mp e;exact Uw.mpr (by lia)
def RVs.append:∀{S ws:List U} {vs xs:List V},RVs K ρ H S vs->RVs K ρ H ws xs->RVs K ρ H (S++ws) (vs++xs)
 |[],_,_,_,h,q=>by cases h;exact q
 |u::S,_,_,_,h,q=>by
  let⟨v,r,rfl,h1,h2⟩:=h;exact⟨v,r++_,rfl,h1,RVs.append h2 q⟩
def RVs.one(h:RV K ρ H u v):RVs K ρ H [u] [v]:=⟨v,[],rfl,h,rfl⟩
def RVs.drop:∀{S:List U} {vs:List V} (n:Nat),RVs K ρ H S vs->RVs K ρ H (S.drop n) (vs.drop n)
 |_,_,0,h=>h
 |[],_,_+1,h=>by cases h;rfl
 |u::S,_,n+1,h=>by
  let⟨v,r,rfl,h1,h2⟩:=h;exact RVs.drop n h2
def RVs.take:∀{S:List U} {vs:List V} (n:Nat),RVs K ρ H S vs->RVs K ρ H (S.take n) (vs.take n)
 |_,_,0,h=>by simp[RVs]
 |[],_,_+1,h=>by cases h;rfl
 |u::S,_,n+1,h=>by
  let⟨v,r,rfl,h1,h2⟩:=h;exact⟨v,r.take n,rfl,h1,RVs.take n h2⟩
def RVs.set{u:U}{v:V}(q:RV K ρ H u v):∀{S:List U} {vs:List V} (i:Nat),RVs K ρ H S vs->RVs K ρ H (S.set i u) (vs.set i v)
 |[],_,_,h=>by cases h;rfl
 |x::S,_,0,h=>by
  let⟨w,r,rfl,_,h2⟩:=h;exact⟨v,r,rfl,q,h2⟩
 |x::S,_,i+1,h=>by
  let⟨w,r,rfl,h1,h2⟩:=h;exact⟨w,r.set i v,rfl,h1,RVs.set q i h2⟩
def RVs.reverse:∀{S:List U} {vs:List V},RVs K ρ H S vs->RVs K ρ H S.reverse vs.reverse
 |[],_,h=>by cases h;rfl
 |u::S,_,h=>by
  let⟨v,r,rfl,h1,h2⟩:=h;rw[Pl,Pl];exact RVs.append (RVs.reverse h2) (.one h1)
def RVs.dropLast{S:List U}{vs:List V}(h:RVs K ρ H S vs):RVs K ρ H S.dropLast vs.dropLast:=by
 rw[List.dropLast_eq_take,List.dropLast_eq_take,h.length];exact h.take _
def RD(K:Hu)(ρ:List Addr)(H:Hp):List (List Int×U)->List (List Key×V)->Prop
 |[],ws=>ws=[]
 |(k,u)::r,ws=>∃v s,ws=(k.map Sum.inl,v)::s/\RV K ρ H u v/\RD K ρ H r s
def RD.mono(d:∀(n:Nat) (a:Addr),ρ[n]?=some a->ZO[n]?=some a)(b:∀a xs,SqU K H a xs->SqU K H' a xs)(c:∀a xs,SqF K H a xs->SqF K H' a xs):∀(S:List (List Int×U)) (vs:List (List Key×V)),RD K ρ H S vs->RD K ZO H' S vs
 |[],_,h=>h
 |(k,u)::S,vs,h=>by
  let⟨v,r,e,h1,h2⟩:=h;exact⟨v,r,e,RV.mono d b c u v h1,RD.mono d b c S r h2⟩
def RK(K:Hu)(ρ:List Addr)(H:Hp):List (Str×U)->List (Key×V)->Prop
 |[],ws=>ws=[]
 |(k,u)::r,ws=>∃v s,ws=(Sum.inr k,v)::s/\RV K ρ H u v/\RK K ρ H r s
def RK.mono(d:∀(n:Nat) (a:Addr),ρ[n]?=some a->ZO[n]?=some a)(b:∀a xs,SqU K H a xs->SqU K H' a xs)(c:∀a xs,SqF K H a xs->SqF K H' a xs):∀(S:List (Str×U)) (vs:List (Key×V)),RK K ρ H S vs->RK K ZO H' S vs
 |[],_,h=>h
 |(k,u)::S,vs,h=>by
  let⟨v,r,e,h1,h2⟩:=h;exact⟨v,r,e,RV.mono d b c u v h1,RK.mono d b c S r h2⟩
def dig:Nat->Nat->List Nat
 |0,_=>[]
 |f+1,n=>if n=0 then[]else n % 128::dig f (n / 128)
def G0:Nat:=128 ^ 64
def FY(n:Nat):Str:=⟨(dig 64 n).toArray⟩
def RF(K:Hu)(ρ:List Addr)(H:Hp):List (Nat×U)->List (Str×V)->Prop
 |[],ws=>ws=[]
 |(j,u)::r,ws=>∃v s,ws=(FY j,v)::s/\j<G0/\RV K ρ H u v/\RF K ρ H r s
def RF.mono(d:∀(n:Nat) (a:Addr),ρ[n]?=some a->ZO[n]?=some a)(b:∀a xs,SqU K H a xs->SqU K H' a xs)(c:∀a xs,SqF K H a xs->SqF K H' a xs):∀(S:List (Nat×U)) (vs:List (Str×V)),RF K ρ H S vs->RF K ZO H' S vs
 |[],_,h=>h
 |(k,u)::S,vs,h=>by
  let⟨v,r,e,f,h1,h2⟩:=h;exact⟨v,r,e,f,RV.mono d b c u v h1,RF.mono d b c S r h2⟩
def RHO(K:Hu)(ρ:List Addr)(H:Hp):Z9->HO->Prop
 |.Z5 S,o=>∃a,o=.Z5 a/\RVs K ρ H S a
 |.ZG Z4,o=>∃ws,o=.dT ws/\RD K ρ H Z4 ws
 |.YD Z4,o=>∃ob ws,o=.Zm ob (.dT ws)/\RD K ρ H Z4 ws
 |.dst Z4,o=>∃ws,o=.dK ws/\RK K ρ H Z4 ws
 |.ins c S,o=>∃C dx a,o=.ins C dx a/\PySem.W.nsIn K mainGlobals (FY c)=some (some (.ref C))/\RF K ρ H S a
def RO(K:Hu)(ρ:List Addr)(H:Hp)(a:Addr)(o:Z9):Prop:=∃ho,H a=some ho/\RHO K ρ H o ho
def RHO.mono(f:∀(n:Nat) (a:Addr),ρ[n]?=some a->ZO[n]?=some a)(b:∀a xs,SqU K H a xs->SqU K H' a xs)(d:∀a xs,SqF K H a xs->SqF K H' a xs){o:Z9}{i:HO}(h:RHO K ρ H o i):RHO K ZO H' o i:=by
 cases o with
 |Z5 S=>let⟨g,e,r⟩:=h;exact⟨g,e,RVs.mono f b d _ _ r⟩
 |ZG Z4=>let⟨ws,e,r⟩:=h;exact⟨ws,e,RD.mono f b d _ _ r⟩
 |YD Z4=>let⟨ob,ws,e,r⟩:=h;exact⟨ob,ws,e,RD.mono f b d _ _ r⟩
 |dst Z4=>let⟨ws,e,r⟩:=h;exact⟨ws,e,RK.mono f b d _ _ r⟩
 |ins c S=>let⟨C,dx,g,e,j,r⟩:=h;exact⟨C,dx,g,e,j,RF.mono f b d _ _ r⟩
def RHO.step(s:ZI K ρ H ZO H'){o:Z9}{a:HO}(h:RHO K ρ H o a):RHO K ZO H' o a:=h.mono s.ext s.ZY s.Zy
def RO.step(s:ZI K ρ H ZO H'){a:Addr}{o:Z9}(e:∀b,H a=some b->H' a=some b)(h:RO K ρ H a o):RO K ZO H' a o:=
 let⟨b,c,r⟩:=h;⟨b,e b c,r.step s⟩
structure RH(K:Hu)(ρ:List Addr)(H:Hp)(g:G):Prop where
 len:ρ.length=g.length
 inj:∀(i j:Nat) (a:Addr),ρ[i]?=some a->ρ[j]?=some a->i=j
 obj:∀(n:Nat) (a:Addr) (o:Z9),ρ[n]?=some a->g[n]?=some o->RO K ρ H a o
def RH.at(h:RH K ρ H g){o:Z9}(e:g[n]?=some o):∃a,ρ[n]?=some a/\RO K ρ H a o:=by
 have c:n<g.length:=(Ye.mp e).1;have b:n<ρ.length:=by rw[h.len];exact c
 exact⟨ρ[n],YJ b,h.obj n ρ[n] _ (YJ b) e⟩
def RH.Z5(h:RH K ρ H g){n:Nat}{S:List U}(e:g[n]?=some (.Z5 S)):∃a vs,ρ[n]?=some a/\H a=some (.Z5 vs)/\RVs K ρ H S vs:=by
 let⟨a,h1,ho,h2,vs,rfl,b⟩:=h.at e;exact⟨a,vs,h1,h2,b⟩
def RH.ZG(h:RH K ρ H g){n:Nat}{b:List (List Int×U)}(e:g[n]?=some (.ZG b)):∃a ws,ρ[n]?=some a/\H a=some (.dT ws)/\RD K ρ H b ws:=by
 let⟨a,h1,ho,h2,c,rfl,d⟩:=h.at e;exact⟨a,c,h1,h2,d⟩
def RH.YD(h:RH K ρ H g){n:Nat}{c:List (List Int×U)}(e:g[n]?=some (.YD c)):∃a b ws,ρ[n]?=some a/\H a=some (.Zm b (.dT ws))/\RD K ρ H c ws:=by
 let⟨a,h1,ho,h2,b,d,rfl,f⟩:=h.at e;exact⟨a,b,d,h1,h2,f⟩
def RH.dst(h:RH K ρ H g){n:Nat}{b:List (Str×U)}(e:g[n]?=some (.dst b)):∃a ws,ρ[n]?=some a/\H a=some (.dK ws)/\RK K ρ H b ws:=by
 let⟨a,h1,ho,h2,c,rfl,d⟩:=h.at e;exact⟨a,c,h1,h2,d⟩
def RH.there(h:RH K ρ H g)(e:ρ[n]?=some a):∃o,H a=some o:=by
 have b:n<ρ.length:=(Ye.mp e).1;have c:n<g.length:=by rw[<-h.len];exact b
 let⟨ho,h1,_⟩:=h.obj n a g[n] e (YJ c);exact⟨ho,h1⟩
def yZ{p:Addr}{o:HO}{xs:List V}(h:SqU K H a xs)(b:a≠p):SqU K (upd H p o) a xs:=by
 unfold SqU;rw[aa b];exact h
def zI{p:Addr}{o:HO}{xs:List V}(h:SqF K H a xs)(b:a≠p):SqF K (upd H p o) a xs:=by
 rcases h with⟨ob,h⟩|h
 .exact .inl ⟨ob,by rw[aa b];exact h⟩
 .exact .inr h
def Bh:HO->Prop
 |.Z5 _=>True
 |.dT _=>True
 |.dK _=>True
 |.ins _ _ _=>True
 |_=>False
def aU{p:Addr}{o:HO}{xs:List V}(h:SqU K H a xs)(c:H p=none \/∃b,H p=some b/\Bh b):SqU K (upd H p o) a xs:=
 yZ h (by rintro rfl;rcases c with z|⟨ys,z,m⟩<;>· unfold SqU at h;rw[h]at z;cases z;try exact m)
def aV{p:Addr}{o:HO}{xs:List V}(h:SqF K H a xs)(c:H p=none \/∃b,H p=some b/\Bh b):SqF K (upd H p o) a xs:=by
 rcases h with⟨ob,h⟩|h
 .exact zI (.inl ⟨ob,h⟩) (by rintro rfl;rcases c with z|⟨ys,z,m⟩<;>· rw[h]at z;cases z;try exact m)
 .exact .inr h
def ZI.fresh{p:Addr}{o:HO}(b:H p=none):ZI K ρ H ρ (upd H p o) where
 ext:=λ_ _ h=>h
 new:=λ_ _ h=>.inl h
 X4:=λa u h _=>by rw[aa (aD h b)];exact h
 live:=λa h=>by
  by_cases e:a=p
  .subst e;rw[upd_same];simp
  .rw [aa e];exact h
 ZY:=λa xs h=>aU h (.inl b)
 Zy:=λa xs h=>aV h (.inl b)
 Zm:=λa ob u h=>by rw[aa (aD h b)];exact h
def RH.step_fresh{p:Addr}{o:HO}(h:RH K ρ H g)(b:H p=none):RH K ρ (upd H p o) g where
 len:=h.len
 inj:=h.inj
 obj:=λn a ob h1 h2=>(h.obj n a ob h1 h2).step (ZI.fresh b) λho e=>by rw[aa (aD e b)];exact e
def ZI.alloc{p:Addr}{c:HO}(b:H p=none):ZI K ρ H (ρ++[p]) (upd H p c) where
 ext:=λn a h=>by rw[X7 (Ye.mp h).1];exact h
 new:=λn a h=>by
  by_cases d:n<ρ.length
  .rw [X7 d]at h;exact .inl h
  .rw [WC (by lia)]at h
   have:a=p:=by
    cases hk:n-ρ.length with
    |zero=>rw[hk]at h;simpa using h.symm
    |succ k=>rw[hk]at h;simp at h
   subst this;exact .inr b
 X4:=λa u h _=>by rw[aa (aD h b)];exact h
 live:=(ZI.fresh (K:=K) (ρ:=ρ) b).live
 ZY:=λa xs h=>aU h (.inl b)
 Zy:=λa xs h=>aV h (.inl b)
 Zm:=λa ob u h=>by rw[aa (aD h b)];exact h
def RH.RW{p:Addr}{t:Z9}{d:HO}(h:RH K ρ H g)(s:H p=none)(r:RHO K ρ H t d):RH K (ρ++[p]) (upd H p d) (g++[t]) where
 len:=by simp[h.len]
 inj:=λi j a h1 h2=>by
  have c:∀k b,(ρ++[p])[k]?=some b->(k<ρ.length/\ρ[k]?=some b)\/(k=ρ.length/\b=p):=λk b e=>by
   by_cases hk:k<ρ.length
   .rw [X7 hk]at e;exact .inl ⟨hk,e⟩
   .rw [WC ()]at e
    cases hd:k-ρ.length with
    |zero=>rw[hd]at e;exact .inr ⟨by omega,by simpa using e.symm⟩
    |succ m=>rw[hd]at e;simp at e
  have l:∀k,ρ[k]? ≠ some p:=λk e=>by
   let⟨o,d⟩:=h.there e;rw[s]at d;cases d
  rcases c i a h1 with⟨_,q⟩|⟨q,w⟩
  .rcases c j a h2 with⟨_,f⟩|⟨f,v⟩
   .exact h.inj i j a q f
   .subst v;exact absurd q (l i)
  .rcases c j a h2 with⟨_,f⟩|⟨f,v⟩
   .subst w;exact absurd f (l j)
   .lia
 obj:=λn a o h1 h2=>by
  by_cases u:n<ρ.length
  .rw [X7 u]at h1
   rw[X7 (by rw[<-h.len];exact u)]at h2
   exact(h.obj n a o h1 h2).step (ZI.alloc s) λd e=>by rw[aa (aD e s)];exact e
  .have hl:=h.len
   rw[WC (by lia)]at h1
   rw[WC (by lia)]at h2
   rw[<-hl]at h2;cases hd:n-ρ.length with
   |zero=>
    rw[hd]at h1 h2;have q:a=p:=by simpa using h1.symm
    have f:o=t:=by simpa using h2.symm
    subst q;subst f;exact⟨d,upd_same,r.step (ZI.alloc s)⟩
   |succ m=>rw[hd]at h1;simp at h1
def RH.alloc{p:Addr}{vs:List V}(h:RH K ρ H g)(a:H p=none)(r:RVs K ρ H S vs):RH K (ρ++[p]) (upd H p (.Z5 vs)) (g++[.Z5 S]):=h.RW a ⟨vs,rfl,r⟩
def ZI.XD{x y:HO}(f:ρ[n]?=some a)(d:H a=some x)(c:Bh x):ZI K ρ H ρ (upd H a y) where
 ext:=λ_ _ h=>h
 new:=λ_ _ h=>.inl h
 X4:=λb u h g=>by
  have:b≠a:=λe=>g (e ▸ TU.mpr ⟨n,f⟩);rw[aa this];exact h
 live:=λb h=>by
  by_cases e:b=a
  .subst e;rw[upd_same];simp
  .rw [aa e];exact h
 ZY:=λb zs h=>aU h (.inr ⟨_,d,c⟩)
 Zy:=λb zs h=>aV h (.inr ⟨_,d,c⟩)
 Zm:=λb ob u h=>by rw[aa (cf h d (by rintro rfl;exact c))];exact h
def ZI.write{xs b:List V}(c:ρ[n]?=some a)(d:H a=some (.Z5 xs)):ZI K ρ H ρ (upd H a (.Z5 b)):=ZI.XD c d trivial
def RH.XD{n:Nat}{a:Addr}{x y:HO}{d:Z9}(h:RH K ρ H g)(c:ρ[n]?=some a)(i:H a=some x)(f:Bh x)(r:RHO K ρ H d y):RH K ρ (upd H a y) (g.set n d) where
 len:=by simp[h.len]
 inj:=h.inj
 obj:=λm b o h1 h2=>by
  by_cases e:m=n
  .subst e
   rw[c]at h1;cases h1;rw[VX (by rw[<-h.len];exact(Ye.mp c).1)]at h2
   cases h2;exact⟨y,upd_same,r.step (ZI.XD c i f)⟩
  .rw [Ve (Ne.symm e)]at h2
   have j:b≠a:=λz=>e (h.inj m n a (z ▸ h1) c);exact(h.obj m b o h1 h2).step (ZI.XD c i f) λho k=>by rw[aa j];exact k
def RH.write{xs b:List V}(h:RH K ρ H g)(c:ρ[n]?=some a)(d:H a=some (.Z5 xs))(r:RVs K ρ H S b):RH K ρ (upd H a (.Z5 b)) (g.set n (.Z5 S)):=h.XD c d trivial ⟨b,rfl,r⟩
structure RS(K:Hu)(ρ:List Addr)(H:Hp)(ZZ:Su)(O:L2.St):Prop where
 len:ZZ.length=O.length
 val:∀(i:Nat) (u:U),ZZ[i]?=some (some u) ->∃v,O[i]?=some (some v)/\RV K ρ H u v
def RS.step{a:Su}{O:L2.St}(h:RS K ρ H a O)(s:ZI K ρ H ZO H'):RS K ZO H' a O:=
 ⟨h.len,λi u e=>let⟨v,b,r⟩:=h.val i u e;⟨v,b,RV.step s _ _ r⟩⟩
def RS.set{b:Su}{O:L2.St}{i:Nat}{u:U}{v:V}(h:RS K ρ H b O)(r:RV K ρ H u v):RS K ρ H (b.set i (some u)) (O.set i (some v)) where
 len:=by simp[h.len]
 val:=λj w e=>by
  by_cases a:j=i
  .subst a
   have c:j<b.length:=by
    have:=(Ye.mp e).1;simpa using this
   rw[VX c]at e;cases e;exact⟨v,by rw[VX (by rw[<-h.len];exact c)],r⟩
  .rw [Ve (Ne.symm a)]at e
   let⟨x,f,d⟩:=h.val j w e;exact⟨x,by rw[Ve (Ne.symm a)];exact f,d⟩
end
abbrev XQ:=Nat->List V->Hp->Prop
section
variable(K:Hu)(W:XQ)
def post{b a:Type}(R:List Addr->Hp->b->a->Prop)(o:Out b)(ρ:List Addr)(H:Hp)(Q:a->Hp->Prop):Prop:=match o with
 |.ok u g=>∀v ZO H',ZI K ρ H ZO H'->RH K ZO H' g->R ZO H' u v->Q v H'
 |.exc c fs g=>∀d ZO H',ZI K ρ H ZO H'->RH K ZO H' g->RVs K ZO H' fs d->W c d H'
 |.ZV=>False
def Jt(o:Out Fl)(ρ:List Addr)(H:Hp)(D:Ends):Prop:=match o with
 |.ok (.nx a) g=>∀O ZO H',ZI K ρ H ZO H'->RH K ZO H' g->RS K ZO H' a O->D.nx O H'
 |.ok (.bk a) g=>∀O ZO H',ZI K ρ H ZO H'->RH K ZO H' g->RS K ZO H' a O->D.bk O H'
 |.ok (.ct a) g=>∀O ZO H',ZI K ρ H ZO H'->RH K ZO H' g->RS K ZO H' a O->D.ct O H'
 |.ok (.rt u) g=>∀v ZO H',ZI K ρ H ZO H'->RH K ZO H' g->RV K ZO H' u v->D.rt v H'
 |.exc c fs g=>∀b ZO H',ZI K ρ H ZO H'->RH K ZO H' g->RVs K ZO H' fs b->W c b H'
 |.ZV=>False
abbrev Yb{α:Type}:List Addr->Hp->α->α->Prop:=λ_ _ a b=>a=b
inductive tR{α β:Type}(R:List Addr->Hp->α->β->Prop)(f:Su->G->Out α)(O:L2.St)(H:Hp)(Q:β->Hp->Prop):Prop
 |mk (ZZ:Su) (ρ:List Addr) (g:G) (hs:RS K ρ H ZZ O) (hg:RH K ρ H g) (p:post K W R (f ZZ g) ρ H Q)
abbrev tE(f:Su->G->Out U):TE:=tR K W (RV K) f
abbrev tT(f:Su->G->Out Bool):TT:=tR K W Yb f
abbrev WN(f:Su->G->Out (List U)):TA:=tR K W (RVs K) f
inductive PB{α β VO VN:Type}(R:List Addr->Hp->α->β->Prop)(R':List Addr->Hp->VO->VN->Prop)(ρ:List Addr)(H:Hp)(k:α->G->Out VO)(Q:VN->Hp->Prop)(v:β)(H1:Hp):Prop
 |mk (ZM:List Addr) (u:α) (g1:G) (s:ZI K ρ H ZM H1) (h:RH K ZM H1 g1) (r:R ZM H1 u v) (p:post K W R' (k u g1) ZM H1 Q)
inductive PC{α β:Type}(R:List Addr->Hp->α->β->Prop)(ρ:List Addr)(H:Hp)(k:α->G->Out Fl)(D:Ends)(v:β)(H1:Hp):Prop
 |mk (ZM:List Addr) (u:α) (g1:G) (s:ZI K ρ H ZM H1) (h:RH K ZM H1 g1) (r:R ZM H1 u v) (p:Jt K W (k u g1) ZM H1 D)
inductive Zw(f:Su->G->Out Fl)(D:Ends)(O:L2.St)(H:Hp):Prop
 |mk (ZZ:Su) (ρ:List Addr) (g:G) (hs:RS K ρ H ZZ O) (hg:RH K ρ H g) (p:Jt K W (f ZZ g) ρ H D)
end
section
variable{W:XQ}{VO VN:Type}{R:List Addr->Hp->α->β->Prop}{R':List Addr->Hp->VO->VN->Prop}
def post.from{o:Out α}{Q:β->Hp->Prop}(h:post K W R o ρ H Q)(s:ZI K ρ H ZO H'):post K W R o ZO H' Q:=by
 cases o with
 |ok u g=>exactλv b H2 a=>h v b H2 (s.trans a)
 |exc c fs g=>exactλv b H2 a=>h v b H2 (s.trans a)
 |ZV=>exact h
def Jt.from{o:Out Fl}{D:Ends}(h:Jt K W o ρ H D)(s:ZI K ρ H ZO H'):Jt K W o ZO H' D:=by
 cases o with
 |ok f g=>cases f<;>exactλv b H2 a=>h v b H2 (s.trans a)
 |exc c fs g=>exactλv b H2 a=>h v b H2 (s.trans a)
 |ZV=>exact h
def post.bind{o:Out α}{k:α->G->Out VO}{Q:VN->Hp->Prop}(h:post K W R' (o.bind k) ρ H Q):
  post K W R o ρ H (PB K W R R' ρ H k Q):=by
 cases o with
 |ok u g=>exactλv d H1 a h1 b=>⟨d,u,g,a,h1,b,post.from (o:=k u g) h a⟩
 |exc c fs g=>exact h
 |ZV=>exact h
def Jt.bind{o:Out α}{k:α->G->Out Fl}{D:Ends}(h:Jt K W (o.bind k) ρ H D):
  post K W R o ρ H (PC K W R ρ H k D):=by
 cases o with
 |ok u g=>exactλv d H1 a h1 b=>⟨d,u,g,a,h1,b,Jt.from (o:=k u g) h a⟩
 |exc c fs g=>exact h
 |ZV=>exact h
def post.mono{o:Out α}{Q Q':β->Hp->Prop}(h:post K W R o ρ H Q)(q:∀v H1,Q v H1->Q' v H1):post K W R o ρ H Q':=by
 cases o with
 |ok u g=>exactλv d H1 a h1 b=>q _ _ (h v d H1 a h1 b)
 |exc c fs g=>exact h
 |ZV=>exact h
def post.YC{u:α}{v:β}{Q:β->Hp->Prop}(h:post K W R (.ok u g) ρ H Q)(a:RH K ρ H g)(r:R ρ H u v):Q v H:=h v ρ H .refl a r
def post.lift{o:Option α}{g:G}{Q:β->Hp->Prop}(h:post K W R (lift o g) ρ H Q):∃u,o=some u/\post K W R (.ok u g) ρ H Q:=by
 cases o with
 |none=>exact h.elim
 |some u=>exact⟨u,rfl,h⟩
end
def _root_.L2.PE.imp{t t':TE}(h:PE X e t)(q:∀O H Q,t' O H Q->t O H Q):PE X e t':=λY s O H Q I h'=>h Y s O H Q I (q O H Q h')
def _root_.L2.PT.imp{t t':TT}(h:PT X e t)(q:∀O H Q,t' O H Q->t O H Q):PT X e t':=λY s O H Q I h'=>h Y s O H Q I (q O H Q h')
def _root_.L2.PW.imp{t t':TT}(h:PW X e t)(q:∀O H Q,t' O H Q->t O H Q):PW X e t':=λa Y s O H Q I h'=>h a Y s O H Q I (q O H Q h')
def _root_.L2.PA.imp{e:List Expr}{t t':TA}(h:PA X e t)(q:∀O H Q,t' O H Q->t O H Q):PA X e t':=λpos Y s O H Q I h'=>h pos Y s O H Q I (q O H Q h')
def _root_.L2.PS.imp{e:Stmt}{t t':TS}(h:PS X e t)(q:∀D O H,t' D O H->t D O H):PS X e t':=λY s O H Q I h'=>h Y s O H Q I (q Q O H h')
def _root_.L2.PSs.imp{e:List Stmt}{t t':TS}(h:PSs X e t)(q:∀D O H,t' D O H->t D O H):PSs X e t':=λY s O H Q I h'=>h Y s O H Q I (q Q O H h')
def _root_.L2.PE.ZV{X:Cx}{e:Expr}{K:Hu}{W:XQ}{f:Su->G->Out U}(h:∀O g,f O g=.ZV):PE X e (tE K W f):=λY s O H Q I ⟨a,ρ,g,_,_,p⟩=>by rw[h]at p;exact p.elim
def _root_.L2.PT.ZV{X:Cx}{e:Expr}{K:Hu}{W:XQ}{f:Su->G->Out Bool}(h:∀O g,f O g=.ZV):PT X e (tT K W f):=λY s O H Q I ⟨a,ρ,g,_,_,p⟩=>by rw[h]at p;exact p.elim
def _root_.L2.PSs.ZV{X:Cx}{e:List Stmt}{K:Hu}{W:XQ}{f:Su->G->Out Fl}(h:∀O g,f O g=.ZV):PSs X e (Zw K W f):=λY s O H Q I ⟨a,ρ,g,_,_,p⟩=>by rw[h]at p;exact p.elim
def _root_.L2.PS.ZV{X:Cx}{e:Stmt}{K:Hu}{W:XQ}{f:Su->G->Out Fl}(h:∀O g,f O g=.ZV):PS X e (Zw K W f):=λY s O H Q I ⟨a,ρ,g,_,_,p⟩=>by rw[h]at p;exact p.elim
section
variable{W W':XQ}
def uZ{o:Out Fl}{D:Ends}(h:Jt K W o.Zb ρ H D):Jt K W' o ρ H D:=by
 cases o with
 |ok a g=>cases a<;>exact h
 |exc _ _ _=>exact h.elim
 |ZV=>exact h
def vd{b d:Type}{R:List Addr->Hp->α->β->Prop}{e:List Addr->Hp->b->d->Prop}{o:Out α}{k:α->G->Out b}{Q:d->Hp->Prop}(h:post K W e (o.Zb.bind k) ρ H Q):
  post K W' R o ρ H (PB K W R e ρ H k Q):=by
 cases o with
 |ok u g=>exactλv i H1 a h1 f=>⟨i,u,g,a,h1,f,post.from (o:=k u g) h a⟩
 |exc c fs g=>exact h.elim
 |ZV=>exact h
def fh{R:List Addr->Hp->α->β->Prop}{o:Out α}{k:α->G->Out Fl}{D:Ends}(h:Jt K W (o.Zb.bind k) ρ H D):
  post K W' R o ρ H (PC K W R ρ H k D):=by
 cases o with
 |ok u g=>exactλv d H1 a h1 b=>⟨d,u,g,a,h1,b,Jt.from (o:=k u g) h a⟩
 |exc c fs g=>exact h.elim
 |ZV=>exact h
end
section
def RV.flat{w:U}{x y:V}(c:RV K ρ H u x)(a:RV K ρ H w y)(e:Am u w=some b):CM x=true/\CM y=true/\Iy x y=b:=by
 cases u<;>cases w<;>simp![Am,YY,reduceCtorEq]at e<;>(subst e;cases c;cases a;exact⟨rfl,rfl,rfl⟩)
def dH:∀{S ws:List U} {vs:List V} {b:Bool},RVs K ρ H S vs->RVs K ρ H ws vs->Ap S ws=some b->b=true
 |[],[],_,b,_,_,e=>by simpa[Ap]using e.symm
 |[],_::_,_,b,_,_,e=>by simp[Ap]at e
 |_::_,[],_,b,_,_,e=>by simp[Ap]at e
 |u::S,w::ws,_,b,h1,h2,e=>by
  let⟨v,r,rfl,j,i⟩:=h1;let⟨k,r',e',h,g⟩:=h2;cases e';simp![Ap]at e;cases a:Am u w with
  |none=>simp[a]at e
  |some c=>
   cases f:Ap S ws with
   |none=>simp[a,f]at e
   |some d=>
    simp![a,f,YY]at e;subst e;rw[dH i g f];have:c=true:=by
     cases u<;>cases w<;>simp![Am,YY,reduceCtorEq]at a<;>(subst a;cases j;cases h;try simp)
    simp[this]
def Ju:U->Bool
 |.ZJ|.bl _|.int _|.str _=>true
 |_=>false
def kG{z:U}(e:Am u z=some b):Ju u=true:=by
 cases u<;>first|rfl|(cases z<;>cases e)
def adk{a:U}(c:RV K ρ H u v)(b:RV K ρ H a v)(e:Ju u=true)(d:Ju a=true):u=a:=by
 cases u<;>first|(cases e;done)|(cases c;cases a<;>first|(cases d;done)|(cases b<;>rfl))
def mr{a z c:U}{h:Bool}(f:RV K ρ H u v)(d:RV K ρ H a v)(e:Am u z=some b)(g:Am a c=some h):u=a:=adk f d (kG e) (kG g)
def lQ:∀{S f zs:List U} {vs:List V} {b b':Bool},RVs K ρ H S vs->RVs K ρ H f vs->Ap S zs=some b->Ap f zs=some b'->S=f
 |[],_,_,_,_,_,h1,h2,_,_=>by
  cases h1;have:=h2.length;simp at this;exact this.symm
 |_::_,_,[],_,_,_,_,_,e,_=>by simp[Ap]at e
 |u::S,[],_,_,_,_,h1,h2,_,_=>by
  let⟨v,r,rfl,_,_⟩:=h1;cases h2
 |u::S,j::f,z::zs,_,b,b',h1,h2,e,e'=>by
  let⟨v,r,rfl,n,m⟩:=h1;let⟨o,r',q,l,k⟩:=h2;cases q;simp![Ap]at e e';cases g:Am u z with
  |none=>simp[g]at e
  |some c=>
   cases h:Ap S zs with
   |none=>simp[g,h]at e
   |some d=>
    cases a:Am j z with
    |none=>simp[a]at e'
    |some c'=>
     cases i:Ap f zs with
     |none=>simp[a,i]at e'
     |some d'=>rw[mr n l g a,lQ m k h i]
def dB{w:U}(e:IS u w=some b):(∃S ws,u=.ZY S/\w=.ZY ws/\Ap S ws=some b)\/Am u w=some b:=by
 cases u<;>cases w<;>first|exact .inr e|exact .inl ⟨_,_,rfl,rfl,e⟩
end
section
variable{O:L2.St}
def yP{w:U}{x y:V}{v h:Value}(g:RV K ρ H u x)(d:RV K ρ H w y)(f:RelV x v)(c:RelV y h)(e:Am u w=some b):SeqAt.RcAt A s v h b:=by
 cases u with
 |ZJ=>
  cases g;cases f;cases w<;>simp![Am,YY,reduceCtorEq]at e
  .subst e;cases d;cases c;exact SeqAt.RcAt.none_none
  .subst e;cases d;cases c;exact SeqAt.RcAt.none_bool _
  .subst e;cases d;let⟨t',rfl⟩:=c;exact SeqAt.RcAt.none_int _ _
  .subst e;cases d;let⟨t',rfl⟩:=c;exact SeqAt.RcAt.none_str _ _
 |bl a=>
  cases g;cases f;cases w<;>simp![Am,YY,reduceCtorEq]at e
  .subst e;cases d;cases c;exact SeqAt.RcAt.bool_none _
  .subst e;cases d;cases c;exact SeqAt.RcAt.bool_bool _ _
  .subst e;cases d;let⟨t',rfl⟩:=c;exact SeqAt.RcAt.bool_int _ _ _
  .subst e;cases d;let⟨t',rfl⟩:=c;exact SeqAt.RcAt.bool_str _ _ _
 |int a=>
  cases g;let⟨t,rfl⟩:=f;cases w<;>simp![Am,YY,reduceCtorEq]at e
  .subst e;cases d;cases c;exact SeqAt.RcAt.int_none _ _
  .subst e;cases d;cases c;exact SeqAt.RcAt.int_bool _ _ _
  .subst e;cases d;let⟨t',rfl⟩:=c;exact SeqAt.RcAt.int_int _ _ _ _
  .subst e;cases d;let⟨t',rfl⟩:=c;exact SeqAt.RcAt.int_str _ _ _ _
 |str a=>
  cases g;let⟨t,rfl⟩:=f;cases w<;>simp![Am,YY,reduceCtorEq]at e
  .subst e;cases d;cases c;exact SeqAt.RcAt.str_none _ _
  .subst e;cases d;cases c;exact SeqAt.RcAt.str_bool _ _ _
  .subst e;cases d;let⟨t',rfl⟩:=c;exact SeqAt.RcAt.str_int _ _ _ _
  .subst e;cases d;let⟨t',rfl⟩:=c;exact SeqAt.RcAt.str_str _ _ _ _
 |_=>simp[Am]at e
def i8{K:Hu}{ρ:List Addr}:∀{S ws:List U} {xs ys:List V} {vs o:List Value} {b:Bool},RVs K ρ H S xs->RVs K ρ H ws ys->ZH xs vs->ZH ys o->Ap S ws=some b ->
  ∃e:Nat->Bool,vs.length=o.length/\(∀j (h1:j<vs.length) (h2:j<o.length),SeqAt.EqAt A s vs[j] o[j] (e j))/\(List.range vs.length).all e=b
 |[],[],_,_,_,_,b,h1,h2,g,a,e=>by
  cases h1;cases h2;cases g;cases a;simp![Ap,YY]at e;subst e;exact⟨λ_=>true,rfl,λj h1=>absurd h1 #[3],rfl⟩
 |[],_::_,_,_,_,_,b,h1,h2,g,a,e=>by simp[Ap]at e
 |_::_,[],_,_,_,_,b,h1,h2,g,a,e=>by simp[Ap]at e
 |u::S,w::ws,_,_,_,_,b,h1,h2,g,a,e=>by
  let⟨x,xs,rfl,L,J⟩:=h1;let⟨y,ys,rfl,I,G⟩:=h2;cases g with
  |cons z g=>
  cases a with
  |cons t a=>
  simp![Ap]at e;cases k:Am u w with
  |none=>simp[k]at e
  |some c=>
   cases r:Ap S ws with
   |none=>simp[k,r]at e
   |some d=>
    simp![k,r,YY]at e;subst e;let⟨f,l,B,C⟩:=i8 J G g a r;let⟨E,D,F⟩:=L.flat I k;refine⟨λj=>match j with|0=>c|j+1=>f j,by simp[l],λj h1 h2=>?_,?_⟩
    .cases j with
     |zero=>subst F;exact gW z t E D
     |succ j=>exact B j (by simpa using h1) (by simpa using h2)
    .subst C
     rw[WJ,OT,List.all_cons,List.all_map]
     rfl
def rn{w:U}{x y:V}{v d:Value}(I:Z0 X Y O H s)(q:A.units<cLine)(k:RV X.K ρ H u x)(i:RV X.K ρ H w y)(h:RelV x v)(g:RelV y d)(e:IS u w=some b):SeqAt.RcAt A s v d b:=by
 by_cases m:∃S ws,u=.ZY S/\w=.ZY ws
 .obtain ⟨S,ws,rfl,rfl⟩:=m
  let⟨a,xs,rfl,h1,h2⟩:=k;let⟨a',ys,rfl,B,z⟩:=i;cases h;cases g;let⟨ZU,o,p,_⟩:=I.tuple h1.sq;let⟨c,n,p2,_⟩:=I.tuple B.sq;let⟨f,l,r,t⟩:=i8 (A:=A.in1) (s:=s) h2 z o n e;have:=SeqAt.RcAt.tuples (A:=A) (s:=s) (l:=a) (b:=a') (items:=ZU.toArray) (items2:=c.toArray) (e:=f) p p2 q (λj h1 h2=>by simpa using r j (by simpa using h1) (by simpa using h2))
  have C:((List.range (min ZU.toArray.size c.toArray.size)).all f&&ZU.toArray.size==c.toArray.size)=b:=by simp[<-l,t]
  rw[C]at this;exact this
 .have e':Am u w=some b:=by
   cases u<;>cases w<;>first|exact e|exact absurd ⟨_,_,rfl,rfl⟩ m
  exact yP k i h g e'
def ie{w:U}{x y:V}{v h:Value}(I:Z0 X Y O H s)(k:A.units<cLine)(g:RV X.K ρ H u x)(f:RV X.K ρ H w y)(d:RelV x v)(c:RelV y h)(e:IS u w=some b):SeqAt.EqAt A s v h b:=by
 by_cases i:∃S ws,u=.ZY S/\w=.ZY ws
 .have rc:=rn I k g f d c e
  let⟨S,ws,rfl,rfl⟩:=i;let⟨a,xs,rfl,h1,h2⟩:=g;let⟨a',ys,rfl,m,l⟩:=f;cases d;cases c;by_cases j:a=a'
  .subst j
   obtain rfl:=I.Ul h1.sq m.sq;have:=dH h2 l e;subst this;exact OY _
  .exact SeqAt.EqAt.of_refs j rc
 .have e':Am u w=some b:=by
   cases u<;>cases w<;>first|exact e|exact absurd ⟨_,_,rfl,rfl⟩ i
  let⟨o,n,p⟩:=g.flat f e';subst p;exact gW d c o n
def x3{w:U}{y:V}(I:Z0 X Y O H s)(d:RV X.K ρ H u y)(c:RV X.K ρ H w y)(e:IS u w=some b):b=true:=by
 rcases dB e with⟨S,ws,rfl,rfl,e⟩|e
 .obtain ⟨a,xs,rfl,i,h⟩:=d
  let⟨a',ys,q,g,f⟩:=c;cases q;obtain rfl:=I.Ul i.sq g.sq;exact dH h f e
 .have:=dH (b:=b&&true) (RVs.one d) (RVs.one c) (by simp![Ap,e])
  simpa using this
def dR{ρ:List Addr}{q:U->U->Option Bool}(n:∀u w x y v m b,RV X.K ρ H u x->RV X.K ρ H w y->RelV x v->RelV y m->q u w=some b->SeqAt.EqAt A s v m b):∀{S ws:List U} {xs ys:List V} {ZU its':List Value} {b:Bool},RVs X.K ρ H S xs->RVs X.K ρ H ws ys->ZH xs ZU->ZH ys its'->IX q S ws=some b ->
  ∃f:Nat->Bool,ZU.length=its'.length/\(∀j (h1:j<ZU.length) (h2:j<its'.length),SeqAt.EqAt A s ZU[j] its'[j] (f j))/\(List.range ZU.length).all f=b
 |[],[],_,_,_,_,b,h1,h2,g,a,e=>by
  cases h1;cases h2;cases g;cases a;simp![IX,YY]at e;subst e;exact⟨λ_=>true,rfl,λj h=>by simp at h,rfl⟩
 |[],_::_,_,_,_,_,_,_,_,_,_,e=>by simp[IX]at e
 |_::_,[],_,_,_,_,_,_,_,_,_,e=>by simp[IX]at e
 |u::S,w::ws,_,_,_,_,b,h1,h2,g,a,e=>by
  let⟨x,xs,rfl,D,C⟩:=h1;let⟨y,ys,rfl,B,z⟩:=h2;cases g with
  |cons p g=>
  cases a with
  |cons o a=>
  simp![IX]at e;cases i:q u w with
  |none=>simp[i]at e
  |some c=>
   cases k:IX q S ws with
   |none=>simp[i,k]at e
   |some d=>
    simp![i,k,YY]at e;subst e;let⟨f,l,r,t⟩:=dR n C z g a k;refine⟨λj=>match j with|0=>c|j+1=>f j,by simp[l],λj h1 h2=>?_,?_⟩
    .cases j with
     |zero=>exact n u w x y _ _ c D B p o i
     |succ j=>exact r j (by simpa using h1) (by simpa using h2)
    .subst t
     rw[WJ,OT,List.all_cons,List.all_map]
     rfl
def lF{ρ:List Addr}{q:U->U->Option Bool}(g:∀u w y b,RV X.K ρ H u y->RV X.K ρ H w y->q u w=some b->b=true):∀{S ws:List U} {xs:List V} {b:Bool},RVs X.K ρ H S xs->RVs X.K ρ H ws xs->IX q S ws=some b->b=true
 |[],[],_,b,_,_,e=>by simpa[IX]using e.symm
 |[],_::_,_,_,_,_,e=>by simp[IX]at e
 |_::_,[],_,_,_,_,e=>by simp[IX]at e
 |u::S,w::ws,_,b,h1,h2,e=>by
  let⟨x,xs,rfl,k,j⟩:=h1;let⟨y,ys,z,i,h⟩:=h2;cases z;simp![IX]at e;cases a:q u w with
  |none=>simp[a]at e
  |some c=>
   cases f:IX q S ws with
   |none=>simp[a,f]at e
   |some d=>
    simp![a,f,YY]at e;rw[<-e,g u w _ c k i a,lF g j h f]
    rfl
def abS{w:U}{x y:V}{v h:Value}(I:Z0 X Y O H s)(D:A.units+1<cLine)(o:RV X.K ρ H u x)(n:RV X.K ρ H w y)(m:RelV x v)(k:RelV y h)(e:Cq u w=some b):SeqAt.EqAt A s v h b:=by
 by_cases p:∃S ws,u=.ZY S/\w=.ZY ws
 .obtain ⟨S,ws,rfl,rfl⟩:=p
  let⟨a,xs,rfl,h1,h2⟩:=o;let⟨a',ys,rfl,t,r⟩:=n;cases m;cases k;have e:IX IS S ws=some b:=e;by_cases q:a=a'
  .subst q
   obtain rfl:=I.Ul h1.sq t.sq;have:=lF (λu w y b g d i=>x3 I g d i) h2 r e;subst this;exact OY _
  .refine SeqAt.EqAt.of_refs q ?_
   let⟨ZU,g,C,_⟩:=I.tuple h1.sq;let⟨c,d,p2,_⟩:=I.tuple t.sq;let⟨f,l,E,F⟩:=dR (A:=A.in1) (s:=s) (λu w x y v h b g d i B z=>ie (A:=A.in1) I D g d i B z) h2 r g d e;have:=SeqAt.RcAt.tuples (A:=A) (s:=s) (l:=a) (b:=a') (items:=ZU.toArray) (items2:=c.toArray) (e:=f) C p2 (by lia) (λj h1 h2=>by simpa using E j (by simpa using h1) (by simpa using h2))
   have M:((List.range (min ZU.toArray.size c.toArray.size)).all f&&ZU.toArray.size==c.toArray.size)=b:=by simp[<-l,F]
   rw[M]at this;exact this
 .have e':Am u w=some b:=by
   cases u<;>cases w<;>first|exact e|exact absurd ⟨_,_,rfl,rfl⟩ p
  let⟨J,G,L⟩:=o.flat n e';subst L;exact gW m k J G
end
section
variable{W:XQ}
inductive OpX(X:Cx)(f:U->U->G->Option Bool)(x y:V)(H:Hp)(Q:VK):Prop
 |mk (ρ:List Addr) (g:G) (u w:U) (b:Bool) (hg:RH X.K ρ H g) (r1:RV X.K ρ H u x) (r2:RV X.K ρ H w y) (e:f u w g=some b) (q:Q (.bl b) H)
def abW(i:X.A.units<cLine):OpR X (compareOp .Eq) (OpX X λu w _=>IS u w):=by
 intro Y s O H x y v u Q I d c ⟨ρ,g,a,w,b,j,h,f,e,q⟩;exact rn I i h f d c e X.prog X.w X.xe _ ⟨.bl b,H,I,rfl,q⟩
def ky{x:U}{p:List U×List U}(e:AW x y g=some p):∃n m,x=.ref n/\y=.ref m/\g[n]?=some (.Z5 p.1)/\g[m]?=some (.Z5 p.2):=by
 unfold AW at e;split at e
 .split at e
  .split at e
   .split at e
    .rename_i h1 _ _ h2
     cases e;exact⟨_,_,rfl,rfl,h1,h2⟩
    .cases e
   .cases e
  .cases e
 .cases e
def ace(K:X.A.units+2<cLine):OpR X (compareOp .Eq) (OpX X λu w g=>(AW u w g).bind λp=>IY p.1 p.2):=by
 intro Y s O H x y v u Q I C B ⟨ρ,g,a,w,b,k,E,D,hl,q⟩;let⟨p,hl,e⟩:=Vd.mp hl;let⟨n,m,rfl,rfl,N,g2⟩:=ky hl;let⟨a1,V,S,R,r⟩:=k.Z5 N;let⟨Z,ws,P,J1,o⟩:=k.Z5 g2;let⟨U,rfl,z⟩:=E;rw[S]at z;cases z;let⟨T,rfl,z⟩:=D;rw[P]at z;cases z;cases C;cases B;let⟨ZU,d,h,_⟩:=I.list (.of R);let⟨i,c,p2,_⟩:=I.list (.of J1);unfold IY at e;split at e
 case isFalse t=>
  cases e;refine SeqAt.eq_list_lengthsAt h.isList p2.isList ?_ (by lia) ⟨.bl false,H,I,rfl,q⟩
  rw[r.length,o.length,d.length,c.length]at t;simpa using t
 let⟨f,l,L,M⟩:=dR (A:=X.A.in1) (s:=s) (λu w x y v W b d c J G F=>abS (A:=X.A.in1) I (by exact K) d c J G F) r o d c e
 refine SeqAt.eq_listAt (e:=f) h.isList p2.isList (by simp[l]) (by lia) (λj h1 h2=>by simpa using L j (by simpa using h1) (by simpa using h2)) ?_
 refine⟨.bl b,H,I,?_,q⟩;rw[<-M];simp![Xe]
 rfl
def cJ{x:V}(h:RH K ρ H g)(b:RV K ρ H u x)(e:items u g=some S):∃a vs,x=.ref a/\(SqL K H a vs\/SqT K H a vs)/\RVs K ρ H S vs:=by
 cases u with
 |ZY xs=>let⟨a,vs,rfl,h1,h2⟩:=b;cases e;exact⟨a,vs,rfl,.inr h1.sq,h2⟩
 |Zy xs=>let⟨a,vs,rfl,h1,h2⟩:=b;cases e;exact⟨a,vs,rfl,.inl h1.sq,h2⟩
 |xn _ xs=>let⟨a,vs,rfl,h1,h2⟩:=b;cases e;exact⟨a,vs,rfl,.inr h1.sq,h2⟩
 |ref n=>
  let⟨a,rfl,c⟩:=b;simp![items]at e;cases eg:g[n]? with
  |none=>simp[eg]at e
  |some o=>
   cases o with
   |Z5 xs=>
    simp![eg,YY]at e;subst e;let⟨a',vs,h1,h2,d⟩:=h.Z5 eg;rw[c]at h1;cases h1;exact⟨a,vs,rfl,.inl (.of h2),d⟩
   |ZG _=>simp[eg]at e
   |YD _=>simp[eg]at e
   |dst _=>simp[eg]at e
   |ins _ _=>simp[eg]at e
 |_=>simp[items]at e
def aae{O:L2.St}{w d:U}{y:V}{c j:Bool}(I:Z0 X Y O H s)(i:RV X.K ρ H w y)(h:RV X.K ρ H d y)(e:IS w u=some c)(b:IS d u=some j):c=j:=by
 have g:w=d:=by
  rcases dB e with⟨S,zs,rfl,rfl,e⟩|e
  .rcases dB b with⟨o,f,rfl,q,b⟩|b
   .cases q
    let⟨a,p,rfl,n,m⟩:=i;let⟨a',r,q,l,k⟩:=h;cases q;obtain rfl:=I.Ul n.sq l.sq;rw[lQ m k e b]
   .cases d<;>simp[Am]at b
  .rcases dB b with⟨o,f,rfl,rfl,b⟩|b
   .cases w<;>simp[Am]at e
   .exact mr i h e b
 subst g;rw[e]at b;exact WV b
def iU{a:Type}{e f:a->Bool}:∀{l:List a},(∀z∈l,e z=f z)->l.any e=l.any f
 |[],_=>rfl
 |x::l,h=>by rw[V8,V8,h x Hr,iU λz b=>h z (Hl _ b)]
def cz{ρ:List Addr}{H:Hp}{Y:List (Addr×Obj)}{O:L2.St}{s:Shared}{A:Around}{u:U}{x:V}{v:Value}(I:Z0 X Y O H s)(B:A.units<cLine)(t:RV X.K ρ H u x)(r:RelV x v):
  ∀{S:List U} {vs:List V} {ZU:List Value} {b:Bool},RVs X.K ρ H S vs->ZH vs ZU->IV u S=some b ->
   ∃e:Value->Bool,(∀y∈ZU,SeqAt.EqAt A s y v (e y))/\ZU.any e=b /\∀w y a c,RV X.K ρ H w y->RelV y a->a∈ZU->IS w u=some c->e a=c
 |[],_,_,b,h,q,e=>by
  cases h;cases q;simp![IV,YY]at e;subst e;exact⟨λ_=>false,λy m=>by simp at m,rfl,λ_ _ _ _ _ _ n=>by simp at n⟩
 |w::S,_,_,b,h,q,e=>by
  let⟨y,ys,rfl,p,J⟩:=h;cases q with
  |cons k q=>
  rename_i a ZU;simp![IV]at e;cases i:IS w u with
  |none=>simp[i]at e
  |some c=>
   cases o:IV u S with
   |none=>simp[i,o]at e
   |some d=>
    simp![i,o,YY]at e;subst e;let⟨f,F,G,C⟩:=cz I B t r J q o;have m:SeqAt.EqAt A s a v c:=ie I B p t k r i;have same:∀z∈ZU,(if z=a then c else f z)=f z:=λz l=>by
     by_cases g:z=a
     .subst g
      rw[YE rfl];exact(C w y _ c p k l i).symm
     .rw [Yn g]
    refine⟨λz=>if z=a then c else f z,λz l=>?_,?_,λE D j c' h1 h2 n e'=>?_⟩
    .by_cases g:z=a
     .subst g;simpa using m
     .rcases X8.mp l with h|h
      .exact absurd h g
      .simpa [g]using F z h
    .rw [V8,iU same,G]
     simp
    .by_cases g:j=a
     .subst g
      obtain rfl:=h2.inj k;simpa using(aae I p h1 i e')
     .rcases X8.mp n with h|h
      .exact absurd h g
      .simpa [g]using C E D j c' h1 h2 h e'
def aaq(o:X.A.units+1<cLine):OpR X (compareOp .In) (OpX X λu w g=>(items w g).bind (IV u)):=by
 intro Y s O H x y v u Q I m r ⟨ρ,g,a,w,b,B,n,t,l,q⟩;let⟨S,l,e⟩:=Vd.mp l;let⟨p,C,rfl,c,rs⟩:=cJ B t l;cases r;rcases c with c|c
 .obtain ⟨ZU,d,h,z⟩:=I.list c
  let⟨f,j,k,_⟩:=cz (A:=X.A.in1) I (by exact o) n m rs d e
  exact SeqAt.in_listAt f h.isList (λw i=>j w (by simpa using i)) ⟨.bl b,H,I,by rw[show ZU.toArray.any f=ZU.any f by simp,k];rfl,q⟩
 .obtain ⟨ZU,d,h,z⟩:=I.tuple c
  let⟨f,j,k,_⟩:=cz (A:=X.A.in1) I (by exact o) n m rs d e
  exact SeqAt.in_tupleAt f h (λw i=>j w (by simpa using i)) ⟨.bl b,H,I,by rw[show ZU.toArray.any f=ZU.any f by simp,k];rfl,q⟩
def z8(n:X.A.units+1<cLine):OpR X (compareOp .NotIn) (OpX X λu w g=>(items w g).bind λS=>(IV u S).map (!·)):=by
 intro Y s O H x y v u Q I l o ⟨ρ,g,a,w,F,z,m,r,D,q⟩;let⟨S,B,C⟩:=Vd.mp D;let⟨b,e,rfl⟩:=XB.mp C;let⟨p,E,rfl,c,rs⟩:=cJ z r B;cases o;rcases c with c|c
 .obtain ⟨ZU,d,h,t⟩:=I.list c
  let⟨f,j,k,_⟩:=cz (A:=X.A.in1) I (by exact n) m l rs d e
  exact SeqAt.notIn_listAt f h.isList (λw i=>j w (by simpa using i)) ⟨.bl (!b),H,I,by rw[show ZU.toArray.any f=ZU.any f by simp,k];rfl,q⟩
 .obtain ⟨ZU,d,h,t⟩:=I.tuple c
  let⟨f,j,k,_⟩:=cz (A:=X.A.in1) I (by exact n) m l rs d e
  exact SeqAt.notIn_tupleAt f h (λw i=>j w (by simpa using i)) ⟨.bl (!b),H,I,by rw[show ZU.toArray.any f=ZU.any f by simp,k];rfl,q⟩
end
open PySem PySem.Spec PyProof.Rows L2 PySem.W
inductive F2{α β:Type}(R:α->β->Prop):List α->List β->Prop
 |nil:F2 R [] []
 |cons {a:α} {b:β} {l:List α} {m:List β}:R a b->F2 R l m->F2 R (a::l) (b::m)
section
variable{R:α->β->Prop}
def PR(R:α->β->Prop)(p:Str×α)(q:Str×β):Prop:=p.1=q.1/\R p.2 q.2
end
set_option genInjectivity false in
structure KF where
 ns:List Str
 ks:List Str
 dd:List (Str×U)
structure KFok(K:Frag)(fd:FuncData)(F:KF)(nd:Nat)(ddV:List (Str×V))(dd:List (Str×Value)):Prop where
 h1:fd.params.posonlyargs=[]
 h2:fd.params.args.map (·.arg)=F.ns
 h3:fd.params.vararg=none
 h4:fd.params.kwonlyargs.map (·.arg)=F.ks
 h5:fd.params.kwarg=none
 ds:∃(dsv:List Value) (kd:Str->Value),(∀(M:Model) (h:Heap),K.In h ->∃od:Option (Array Value),(od.getD #[]).toList=dsv/\Looks M h (seqItems? fd.defaults) od)/\dsv.length=nd/\nd<=F.ns.length /\
  (∀n∈F.ks,∃d,fd.kwdefaults=.ref d/\nsIn K d n=some (some (kd n)))/\dd=(F.ns.drop (F.ns.length-nd)).zip dsv++F.ks.map λn=>(n,kd n)
 rel:F2 (PR RelV) ddV dd
 urel:F2 (PR λu v=>∀ρ H,RV K ρ H u v) F.dd ddV
open PySem PySem.Spec PyProof.Rows L2
section
def be{a b:List Int}:(a.map (Sum.inl:Int->Key)=b.map Sum.inl)↔a=b:=
 ⟨λh=>(List.map_inj_right (λx y e=>Sum.inl.inj e)).mp h,λh=>by rw[h]⟩
def RD.val(k:List Int):∀{Z4:List (List Int×U)} {ws:List (List Key×V)},RD K ρ H Z4 ws->(AL ws (k.map Sum.inl)).isSome=(AK Z4 k).isSome
 |[],_,h=>by cases h;rfl
 |(k',u)::r,_,h=>by
  let⟨v,s,rfl,h1,h2⟩:=h;by_cases e:k'=k
  .rw [bP (be.mpr e)]
   simp[AK,U5,e]
  .rw [bQ (λz=>e (be.mp z)),RD.val k h2]
   simp[AK,U5,e]
def RD.got(k:List Int){u:U}:∀{Z4:List (List Int×U)} {ws:List (List Key×V)},RD K ρ H Z4 ws->AK Z4 k=some u ->∃v,AL ws (k.map Sum.inl)=some v/\RV K ρ H u v
 |[],_,h,e=>by cases e
 |(k',a)::r,_,h,e=>by
  let⟨v,s,rfl,h1,h2⟩:=h;by_cases z:k'=k
  .rw [bP (be.mpr z)]
   simp[AK,U5,z]at e;subst e;exact⟨v,rfl,h1⟩
  .rw [bQ (λy=>z (be.mp y))]
   exact RD.got k h2 (by simpa[AK,U5,z]using e)
def RD.at:∀{Z4:List (List Int×U)} {ws:List (List Key×V)} {i:Nat} {k:List Int} {u:U},RD K ρ H Z4 ws->Z4[i]?=some (k,u) ->∃v,ws[i]?=some (k.map Sum.inl,v)/\RV K ρ H u v
 |[],_,_,_,_,_,e=>by simp at e
 |(k',a)::r,_,0,k,u,h,e=>by
  let⟨v,s,rfl,h1,h2⟩:=h;simp at e;let⟨rfl,rfl⟩:=e;exact⟨v,by simp,h1⟩
 |(k',a)::r,_,i+1,k,u,h,e=>by
  let⟨v,s,rfl,h1,h2⟩:=h;let⟨x,c,b⟩:=RD.at (i:=i) h2 (by simpa using e)
  exact⟨x,by simpa using c,b⟩
def RD.any(k:List Int):∀{Z4:List (List Int×U)} {ws:List (List Key×V)},RD K ρ H Z4 ws->(ws.any λa=>decide (a.1=k.map Sum.inl))=Z4.any λa=>decide (a.1=k)
 |[],_,h=>by cases h;rfl
 |(k',u)::r,_,h=>by
  let⟨v,s,rfl,h1,h2⟩:=h;rw[V8,V8,RD.any k h2];congr 1;exact decide_eq_decide.mpr be
def RD.len:∀{Z4:List (List Int×U)} {ws:List (List Key×V)},RD K ρ H Z4 ws->Z4.length=ws.length
 |[],_,h=>by cases h;rfl
 |(k',u)::r,_,h=>by
  let⟨v,s,rfl,h1,h2⟩:=h;simp[RD.len h2]
def RD.snoc{k:List Int}{u:U}{v:V}(q:RV K ρ H u v):∀{Z4:List (List Int×U)} {ws:List (List Key×V)},RD K ρ H Z4 ws->RD K ρ H (Z4++[(k,u)]) (ws++[(k.map Sum.inl,v)])
 |[],_,h=>by cases h;exact⟨v,[],rfl,q,rfl⟩
 |(k',a)::r,_,h=>by
  let⟨w,s,rfl,h1,h2⟩:=h;exact⟨w,_,rfl,h1,RD.snoc q h2⟩
def RD.WW{k:List Int}{u:U}{v:V}(q:RV K ρ H u v):∀{Z4:List (List Int×U)} {ws:List (List Key×V)},RD K ρ H Z4 ws ->
  RD K ρ H (Z4.map λa=>if a.1=k then(a.1,u)else a) (ws.map λa=>if a.1=k.map Sum.inl then(a.1,v)else a)
 |[],_,h=>by cases h;rfl
 |(k',b)::r,_,h=>by
  let⟨w,s,rfl,h1,h2⟩:=h;rw[Xu,Xu];by_cases e:k'=k
  .rw [YE e,YE (be.mpr e)];exact⟨v,_,rfl,q,RD.WW q h2⟩
  .rw [Yn e,Yn (λz=>e (be.mp z))];exact⟨w,_,rfl,h1,RD.WW q h2⟩
def RD.put{k:List Int}(q:RV K ρ H u v){b:List (List Int×U)}{a:List (List Key×V)}(h:RD K ρ H b a):RD K ρ H (dput b k u) (putK a (k.map Sum.inl) v):=by
 unfold dput putK;rw[h.any k];split
 .exact h.WW q
 .exact h.snoc q
def RK.len:∀{Z4:List (Str×U)} {ws:List (Key×V)},RK K ρ H Z4 ws->Z4.length=ws.length
 |[],_,h=>by cases h;rfl
 |(k',u)::r,_,h=>by
  let⟨v,s,rfl,h1,h2⟩:=h;simp[RK.len h2]
def RK.got(k:Str){u:U}:∀{Z4:List (Str×U)} {ws:List (Key×V)},RK K ρ H Z4 ws->BH Z4 k=some u ->∃v,AL ws (Sum.inr k)=some v/\RV K ρ H u v
 |[],_,h,e=>by cases e
 |(k',a)::r,_,h,e=>by
  let⟨v,s,rfl,h1,h2⟩:=h;by_cases z:k'=k
  .rw [bP (Rz Sum.inr z)]
   simp[BH,U5,z]at e;subst e;exact⟨v,rfl,h1⟩
  .rw [bQ (λy=>z (O3 y))]
   exact RK.got k h2 (by simpa[BH,U5,z]using e)
def RK.any(k:Str):∀{Z4:List (Str×U)} {ws:List (Key×V)},RK K ρ H Z4 ws->(ws.any λa=>decide (a.1=Sum.inr k))=Z4.any λa=>decide (a.1=k)
 |[],_,h=>by cases h;rfl
 |(k',u)::r,_,h=>by
  let⟨v,s,rfl,h1,h2⟩:=h;rw[V8,V8,RK.any k h2];congr 1;exact decide_eq_decide.mpr ⟨O3,Rz Sum.inr⟩
def RK.snoc{k:Str}{u:U}{v:V}(q:RV K ρ H u v):∀{Z4:List (Str×U)} {ws:List (Key×V)},RK K ρ H Z4 ws->RK K ρ H (Z4++[(k,u)]) (ws++[(Sum.inr k,v)])
 |[],_,h=>by cases h;exact⟨v,[],rfl,q,rfl⟩
 |(k',a)::r,_,h=>by
  let⟨w,s,rfl,h1,h2⟩:=h;exact⟨w,_,rfl,h1,RK.snoc q h2⟩
def RK.WW{k:Str}{u:U}{v:V}(q:RV K ρ H u v):∀{Z4:List (Str×U)} {ws:List (Key×V)},RK K ρ H Z4 ws ->
  RK K ρ H (Z4.map λa=>if a.1=k then(a.1,u)else a) (ws.map λa=>if a.1=Sum.inr k then(a.1,v)else a)
 |[],_,h=>by cases h;rfl
 |(k',b)::r,_,h=>by
  let⟨w,s,rfl,h1,h2⟩:=h;rw[Xu,Xu];by_cases e:k'=k
  .rw [YE e,YE (Rz Sum.inr e)];exact⟨v,_,rfl,q,RK.WW q h2⟩
  .rw [Yn e,Yn (λz=>e (O3 z))];exact⟨w,_,rfl,h1,RK.WW q h2⟩
def RK.put{k:Str}(q:RV K ρ H u v){b:List (Str×U)}{a:List (Key×V)}(h:RK K ρ H b a):RK K ρ H (D4 b k u) (putK a (Sum.inr k) v):=by
 unfold D4 putK;rw[h.any k];split
 .exact h.WW q
 .exact h.snoc q
def abo{c:V}{b:List (Str×U)}(i:RH K ρ H g)(h:RV K ρ H y c)(e:IW y g=some b):∃n a ws,y=.ref n/\g[n]?=some (.dst b)/\ρ[n]?=some a/\c=.ref a/\H a=some (.dK ws)/\RK K ρ H b ws:=by
 cases y with
 |ref n=>
  simp![IW]at e;cases eg:g[n]? with
  |none=>rw[eg]at e;cases e
  |some ob=>
   cases ob with
   |dst k=>
    rw[eg]at e;cases e;let⟨a,ws,d,j,rk⟩:=i.dst eg;let⟨a',rfl,f⟩:=h;rw[d]at f;cases f;exact⟨n,_,ws,rfl,eg,d,rfl,j,rk⟩
   |_=>rw[eg]at e;cases e
 |_=>cases e
def dE:∀{S:List U} {ns:List Int} {vs:List V},intsOf S=some ns->RVs K ρ H S vs->vs=ns.map V.int
 |[],_,_,e,h=>by cases e;cases h;rfl
 |u::S,ns,vs,e,h=>by
  let⟨v,r,rfl,h1,h2⟩:=h;cases u with
  |int i=>
   simp![intsOf]at e;let⟨m,a,rfl⟩:=XB.mp e;cases h1;rw[dE a h2];rfl
  |_=>cases e
def eT{x:U}{k:List Int}(e:keyOf x=some k)(r:RV K ρ H x v):∃b,v=.ref b/\H b=some (.ZY ((k.map Sum.inl).map HV)):=by
 cases x with
 |ZY S=>
  let⟨a,c,rfl,h1,h2⟩:=r;refine⟨a,rfl,?_⟩;rw[show H a=some (.ZY c)from h1,dE e h2,Sw]
  rfl
 |_=>cases e
def gK{K:Hu}{ρ:List Addr}{H:Hp}:∀{Z4:List (List Int×U)} {ws:List (List Key×V)},RD K ρ H Z4 ws->ws.map (·.1)=Z4.map λa=>a.1.map Sum.inl
 |[],ws,h=>by cases h;rfl
 |(k,u)::r,ws,⟨v,s,e,_,h⟩=>by subst e;rw[Xu,Xu,gK h]
def ng{h:V}{j:List (List Int×U)}(i:RH K ρ H g)(k:RV K ρ H y h)(b:Yd y g=some j):∃a ws,h=.ref a/\Rd H a (.dT ws)/\RD K ρ H j ws:=by
 cases y with
 |ref n=>
  simp![Yd]at b;cases eg:g[n]? with
  |none=>rw[eg]at b;cases b
  |some ob=>
   let⟨a',rfl,c⟩:=k;cases ob with
   |ZG l=>
    rw[eg]at b;cases b;let⟨a,ws,e,f,d⟩:=i.ZG eg;rw[e]at c;cases c;exact⟨_,ws,rfl,.inl f,d⟩
   |YD l=>
    rw[eg]at b;cases b;let⟨a,ob,ws,e,f,d⟩:=i.YD eg;rw[e]at c;cases c;exact⟨_,ws,rfl,.inr ⟨ob,f⟩,d⟩
   |_=>rw[eg]at b;cases b
 |_=>cases b
def gf{x:U}{h f:V}{o:Option U}(m:RH K ρ H g)(l:RV K ρ H x h)(j:RV K ρ H y f)(e:AI x y g=some o):∃a c,f=.ref a/\DGet H a h c/\c.isSome=o.isSome /\∀u,o=some u ->∃v,c=some v/\RV K ρ H u v:=by
 unfold AI at e;cases d:Yd y g with
 |none=>rw[d]at e;cases e
 |some Z4=>
  rw[d]at e;let⟨k,q,rfl⟩:=XB.mp e;let⟨a,ws,rfl,p,i⟩:=ng m j d;let⟨b,rfl,n⟩:=eT q l;exact⟨a,_,rfl,.inr ⟨ws,_,b,p,rfl,n,rfl⟩,i.val k,λu z=>i.got k z⟩
end
section
def abn(d:X.A.units+1<cLine):OpR X (compareOp .In) (λy x H Q=>∃a o,x=.ref a/\DGet H a y o/\Q (.bl o.isSome) H):=by
 intro Y s O H y x v u Q I b c ⟨a,o,e,g,q⟩;subst e;obtain rfl:u=Value.ref a:=c;exact d_in d I g b λs3 f=>⟨.bl o.isSome,H,f,rfl,q⟩
def zF(d:X.A.units+1<cLine):OpR X (compareOp .NotIn) (λy x H Q=>∃a o,x=.ref a/\DGet H a y o/\Q (.bl (!o.isSome)) H):=by
 intro Y s O H y x v u Q I b c ⟨a,o,e,g,q⟩;subst e;obtain rfl:u=Value.ref a:=c;exact yR d I g b λs3 f=>⟨.bl (!o.isSome),H,f,rfl,q⟩
def oW{r c:R2}(h:OpR X f r)(h':OpR X f c):OpR X f (λx y H Q=>r x y H Q\/c x y H Q):=λY s O H x y v u Q I b a q=>
 q.elim (λq=>h Y s O H x y v u Q I b a q) λq=>h' Y s O H x y v u Q I b a q
def adI{O:L2.St}{b:Addr}{k:List Key}{r:Value}{E:Value->Shared->Prop}{Q:Unit->Shared->Prop}(m:X.A.units+1<cLine)(I:L2.Z0 X Y O H s)(e:H a=some (.dT Z4))(i:H b=some (.ZY (k.map HV)))(l:Z4.length<sizeLine)(j:RelV v r)
  (h:∀s',L2.Z0 X Y O (upd H a (.dT (putK Z4 k v))) s'->Q Unit.unit s'):wpAny (model X.prog X.w) X.A (dictSet a (.ref b) r) Q E s:=by
 let⟨z,n,xs,d,dd⟩:=hZ I.ZK e;refine wpAny_dictSet_heap (hsz:=by rw[<-QC d];exact z) (by exact Nat.lt_of_succ_lt m) (bI I.ZK i) dd λh' u hs=>h _ ?_
 let⟨q,es,ep,f,h2,t,p,_,o⟩:=u;refine eA I (by rw[e];exact True.intro) hs ⟨q,f⟩ ⟨by have:=fk Z4 k v;lia,n,_,(d.put k i j).keeps λc ys g=>?_,q,es,ep,f,h2,t,p,o⟩
 rw[aa (cf g e (λz=>nomatch z))];exact g
def GX:Ct:=λo i v H Q=>∃a H',o=.ref a/\DPut H a i v H'/\Q H'
def set_dict(h:X.A.units+1<cLine):BY X GX:=by
 intro Y s O H o i v f k u Q I c d b ⟨a,H',e,g,q⟩;subst e;obtain rfl:f=Value.ref a:=c;exact vN h I g d b λs4 j=>⟨H',j,q⟩
def yf{r d:Ct}(h:BY X r)(h':BY X d):BY X (λo i v H Q=>r o i v H Q\/d o i v H Q):=λY s O H o i v e f u Q I b c a q=>
 q.elim (λq=>h Y s O H o i v e f u Q I b c a q) λq=>h' Y s O H o i v e f u Q I b c a q
end
def insI_perm(a:Int):∀r:List Int,(insI a r).Perm (a::r)
 |[]=>.refl _
 |b::r=>by
  simp![insI];split
  .exact .refl _
  .exact ((insI_perm a r).cons b).trans (.swap a b r)
def sortI_perm:∀r:List Int,(sortI r).Perm r
 |[]=>.refl _
 |a::r=>(insI_perm a _).trans ((sortI_perm r).cons a)
def yY{b:Int}(a:Int):∀{r:List Int},b<=a->(∀x∈r,b<=x) ->∀x∈insI a r,b<=x:=λ{r} h h' x c=>by
 rcases X8.mp ((insI_perm a r).mem_iff.mp c)with rfl|z
 .exact h
 .exact h' x z
def jR(a:Int):∀{r:List Int},r.Pairwise (· <= ·)->(insI a r).Pairwise (· <= ·)
 |[],_=>by simp[insI]
 |b::r,h=>by
  let⟨h1,h2⟩:=Ud.mp h;simp![insI];split
  .rename_i c
   exact Ud.mpr ⟨λx d=>by rcases X8.mp d with rfl|z;exact c;exact Int.le_trans c (h1 x z),h⟩
  .exact Ud.mpr ⟨yY a (by lia) h1,jR a h2⟩
def i0:∀r:List Int,(sortI r).Pairwise (· <= ·)
 |[]=>.nil
 |a::r=>jR a (i0 r)
def vM{a b:List Int}(c:a.Perm b)(e:a.Pairwise (· <= ·))(d:b.Pairwise (· <= ·)):a=b:=
 c.eq_of_pairwise (λx y _ _ h1 h2=>Int.le_antisymm h1 h2) e d
def kj:∀{ns:List Int} {S:List Value},ZH (ns.map V.int) S->IntsAre S ns
 |[],S,h=>by cases h;exact .nil
 |n::ns,S,h=>by
  cases h with
  |cons r t=>
   let⟨k,rfl⟩:=r;exact .cons n k (kj t)
def wN:∀{ns:List Int} {S:List Value},IntsAre S ns->ZH (ns.map V.int) S:=λh=>fK h
section
def xE:CallR X (.builtin "sorted") (λxs H Q=>∃(p:Addr) (ns:List Int),xs=[.ref p]/\H p=some (.Z5 (ns.map V.int))/\ns.length<64 /\∀l,H l=none->Q (.ref l) (upd H l (.Z5 ((sortI ns).map V.int)))):=by
 intro Y s O H xs S Q I r ⟨p,ns,e,hp,hl,q⟩;subst e;let⟨u,rfl,d⟩:=vals1 r;cases d;let⟨ZU,f,g,A⟩:=I.list (SqL.of hp);have hi:=kj f;refine sorted_ints g.isList hi (by rw[hi.length];exact hl) λout a z y t=>?_
 let⟨c,k⟩:=sortedAll_at s.heap ZU out;have o:a=sortI ns:=vM (y.trans (sortI_perm ns).symm) t (i0 ns);subst o;have j:H (s.heap.objs.size+1)=none:=I.ZK.fresh (VY _);refine⟨.ref (s.heap.objs.size+1),_,I.laid (t':=s.toks) (λ_ _=>sortedAll_old) (VY _) (show ObjOk X.prog X.w _ _ _ (.Z5 ((sortI ns).map V.int))from⟨?_,out.toList,c,wN z,?_⟩),rfl,q _ j⟩
 .rw [Zg,(sortI_perm ns).length_eq]
  exact Hi (Qf hl) #[1]
 .exact k
end
section
def aaW(F:X.A.units+2<cLine):OpR X (compareOp .NotEq) (λx y H Q=>∃ρ S ws b,RV X.K ρ H (.ZY S) x/\RV X.K ρ H (.ZY ws) y/\IX IS S ws=some b/\Q (.bl (!b)) H):=by
 intro Y s O H x y v u Q I i h ⟨ρ,S,ws,b,m,k,e,q⟩;let⟨a,xs,rfl,h1,h2⟩:=m;let⟨a',ys,rfl,C,B⟩:=k;cases i;cases h;let⟨ZU,g,r,_⟩:=I.tuple h1.sq;let⟨c,d,p2,_⟩:=I.tuple C.sq;let⟨f,l,t,z⟩:=dR (A:=X.A.in1) (s:=s) (λu w x y v E b g d p o n=>ie (A:=X.A.in1) I (show X.A.units+1<cLine by lia) g d p o n) h2 B g d e
 refine SeqAt.RcNeAt.tuples (A:=X.A) (s:=s) (l:=a) (b:=a') (items:=ZU.toArray) (items2:=c.toArray) (e:=f) r p2 (by lia) (λj h1 h2=>by simpa using t j (by simpa using h1) (by simpa using h2)) X.prog X.w X.xe _ ⟨.bl (!b),H,I,?_,q⟩
 have D:((List.range (min ZU.toArray.size c.toArray.size)).all f&&ZU.toArray.size==c.toArray.size)=b:=by simp[<-l,z]
 rw[D]
 rfl
end
section
variable{W:XQ}{O:L2.St}
inductive RprX(X:Cx)(xs:List V)(H:Hp)(Q:VK):Prop
 |mk (ρ:List Addr) (g:G) (u:U) (x:V) (d:List (List Int)) (e:xs=[x]) (hg:RH X.K ρ H g) (r:RV X.K ρ H u x) (er:E9 u g=some d) (h1:(BZ d).showable=true) (h2:(BZ d).shown.length<=sizeLine) (q:Q (.str (BZ d).shown) H)
end
section
variable{W:XQ}{a b c:Expr}{a' b' c':E}
def one{R:List Addr->Hp->α->β->Prop}{f:Su->G->Out U}{k:Su->U->G->Out α}{O:L2.St}{H:Hp}{Q:β->Hp->Prop}{c:V->Hp->Prop}
  (h:tR X.K W R (λa g=>(f a g).bind λx g=>k a x g) O H Q)
  (b:∀a ρ H g u x,RS X.K ρ H a O->RH X.K ρ H g->RV X.K ρ H u x->post X.K W R (k a u g) ρ H Q->c x H):tE X.K W f O H c:=by
 let⟨a,ρ,g,hs,i,p⟩:=h;exact⟨a,ρ,g,hs,i,(post.bind p).mono λx H1 ⟨j,u,g1,s1,h1,d,e⟩=>b a j H1 g1 u x (hs.step s1) h1 d e⟩
def two{R:List Addr->Hp->α->β->Prop}{f h:Su->G->Out U}{k:Su->U->U->G->Out α}{O:L2.St}{H:Hp}{Q:β->Hp->Prop}{c:V->V->Hp->Prop}
  (j:tR X.K W R (λa g=>(f a g).bind λx g=>(h a g).bind λy g=>k a x y g) O H Q)
  (b:∀a ρ H g u w x y,RS X.K ρ H a O->RH X.K ρ H g->RV X.K ρ H u x->RV X.K ρ H w y->post X.K W R (k a u w g) ρ H Q->c x y H) :
  tE X.K W f O H λx H1=>tE X.K W h O H1 λy H2=>c x y H2:=by
 let⟨a,ρ,g,hs,l,p⟩:=j;refine⟨a,ρ,g,hs,l,(post.bind p).mono λx H1 ⟨m,u,g1,s1,h1,e,i⟩=>?_⟩;refine⟨a,m,g1,hs.step s1,h1,(post.bind i).mono λy H2 ⟨n,w,g2,s2,h2,d,p2⟩=>?_⟩;exact b a n H2 g2 u w x y ((hs.step s1).step s2) h2 (RV.step s2 _ _ e) d p2
def aah(d:X.N[i]?=some x)(a:Vis X.env.scope x)(c:(x==("__debug__" : Str))=false)(k:(x==("__classdict__" : Str))=false):PE X (.Name x pos) (tE X.K W (Jk C r (.L i))):=by
 refine(bX d a c k).imp ?_;rintro O H Q ⟨j,ρ,g,hs,b,p⟩
 delta Jk at p;dsimp only at p
 cases e:j[i]? with
 |none=>simp[e]at p;exact p.elim
 |some o=>
  cases o with
  |none=>simp[e]at p;exact p.elim
  |some u=>
   simp![e]at p;let⟨v,h,f⟩:=hs.val i u e;exact⟨v,h,post.YC p b f⟩
def cW(h:PE X e (HX v))(a:∀ρ H,RV X.K ρ H u v):PE X e (tE X.K W (Jk C r (.ZW u))):=
 h.imp λO H Q ⟨c,ρ,g,hs,b,p⟩=>post.YC (u:=u) p b (a ρ H)
def bZ{o:Operator}{c:R2}(l:OpR X (binaryOp o) c)
  (imp:∀u w z x y ρ (H:Hp) Q,RV X.K ρ H u x->RV X.K ρ H w y->IU op u w=some z->(∀v,RV X.K ρ H z v->Q v H)->c x y H Q)
  (d:∀u w x y ρ (H:Hp) g p Q,RH X.K ρ H g->RV X.K ρ H u x->RV X.K ρ H w y->AW u w g=some p->post X.K W (RV X.K) (A5 op u w g) ρ H Q->c x y H Q)
  (n:PE X a (tE X.K W (r.ev a'))) (m:PE X b (tE X.K W (r.ev b'))):PE X (.BinOp a o b pos) (tE X.K W (Jk C r (.ZS op a' b'))):=by
 refine(adx l n m).imp λO H Q k=>two k λs ρ H g u w x y hs h f c p=>?_;cases i:AW u w g with
 |some q=>exact d u w x y ρ H g q Q h f c i p
 |none=>
  have p:post X.K W (RV X.K) (A5 op u w g) ρ H Q:=p;unfold A5 at p;rw[i]at p;let⟨z,e,p⟩:=post.lift p;exact imp u w z x y ρ H Q f c e λv j=>post.YC p h j
def cV(h:op ≠ .add){a:R2}(u w:U)(x y:V)(ρ:List Addr)(H:Hp)(g:G)(q:List U×List U)(Q:VK)(_:RH X.K ρ H g)(_:RV X.K ρ H u x)(_:RV X.K ρ H w y)(b:AW u w g=some q)(p:post X.K W (RV X.K) (A5 op u w g) ρ H Q):a x y H Q:=by
 unfold A5 at p;rw[b]at p;cases op<;>first|exact absurd rfl h|exact p.elim
def g9{r c:R2}(h:OpR X f r)(h':OpR X f c):OpR X f λx y H Q=>r x y H Q\/c x y H Q:=λY s O H x y v u Q I b a q=>q.elim (h Y s O H x y v u Q I b a) (h' Y s O H x y v u Q I b a)
def aaI(u w:U)(x y:V)(ρ:List Addr)(H:Hp)(g:G)(q:List U×List U)(Q:VK)(a:RH X.K ρ H g)(i:RV X.K ρ H u x)(h:RV X.K ρ H w y)(b:AW u w g=some q)(p:post X.K W (RV X.K) (A5 .add u w g) ρ H Q):F4 x y H Q:=by
 unfold A5 at p;rw[b]at p;dsimp only at p;split at p
 .rename_i j
  let⟨n,m,rfl,rfl,k,g2⟩:=ky b;let⟨B,f,s,r,d⟩:=a.Z5 k;let⟨v,ws,o,J1,c⟩:=a.Z5 g2;let⟨A,rfl,z⟩:=i;rw[s]at z;cases z;let⟨t,rfl,z⟩:=h;rw[o]at z;cases z;refine⟨B,v,f,ws,rfl,rfl,r,J1,by rw[<-d.length,<-c.length,UP];unfold Ab at j;lia,λl e=>?_⟩
  exact p (.ref l) _ _ (ZI.alloc e) (a.alloc e (d.append c)) ⟨l,rfl,by rw[<-a.len];simp⟩
 .exact p.elim
def bT{g:Int->Int->Int}{a:Int->Int->Prop}(h:∀u w z,IU op u w=some z ->∃i j,u=.int i/\w=.int j/\z=.int (g i j)/\a i j)(u w z:U)(x y:V)(ρ:List Addr)(H:Hp)(Q:VK)(c:RV K ρ H u x)(b:RV K ρ H w y)
  (e:IU op u w=some z) (q:∀v,RV K ρ H z v->Q v H):Ij a (λi j=>.int (g i j)) x y H Q:=by
 let⟨i,j,rfl,rfl,rfl,d⟩:=h u w z e;cases c;cases b;exact⟨i,j,rfl,rfl,d,q _ rfl⟩
def mL{g:Int->Int->V}(h:OpR X f (Ik g)):OpR X f (Ij (λ_ _=>True) g):=λY s O H x y v u Q I b a ⟨i,j,d,c,_,q⟩=>h Y s O H x y v u Q I b a ⟨i,j,d,c,q⟩
def log2_small(h:n<115792089237316195423570985008687907853269984665640564039457584007913129639936):n.log2<9000:=by
 by_cases a:n=0
 .subst a;decide
 .exact Hm ((Nat.log2_lt a).mpr (show n<2 ^ 256 from h)) #[1]
def zv:OpR X (binaryOp .FloorDiv) (Ij (λi j=>j≠0 /\ -An<j/\j<An) λi j=>.int (i.fdiv j)):=opI λi j _ _ _ _ _ a q=>
 floordiv_int a.1 q (.inl (PyProof.noPylong_of_log2 (log2_small (by have:=a.2;unfold An at this;omega))))
def yX:OpR X (binaryOp .Mult) (Ij (λi j=>CMul i j\/((-An<i/\i<An) /\ -An<j/\j<An)) λi j=>.int (i*j)):=opI λi j _ _ _ _ _ a q=>by
 rcases a with a|⟨⟨h1,h2⟩,h3,h4⟩
 .exact mul_int q a.ok
 .unfold An at h1 h2 h3 h4
  exact mul_int q (IntMulOk.of_bits (Hi (intBits_le (k:=256) (show i.natAbs<115792089237316195423570985008687907853269984665640564039457584007913129639936 by omega)) #[1]) (Hi (intBits_le (k:=256) (show j.natAbs<115792089237316195423570985008687907853269984665640564039457584007913129639936 by omega)) #[1]))
def bS{w z:U}(e:IU op u w=some z):∃i j,u=.int i/\w=.int j:=by
 cases u<;>first|(cases op<;>cases e<;>done)|skip
 cases w<;>first|(cases op<;>cases e<;>done)|skip
 exact⟨_,_,rfl,rfl⟩
def xQ{o:Operator}(A:(op=.add/\o = .Add)\/(op=.sub/\o = .Sub)\/(op=.mul/\o = .Mult)\/(op=.fdiv/\o = .FloorDiv)\/(op=.mod/\o = .Mod)\/(op=.pow/\o = .Pow))
  (d:PE X a (tE X.K W (r.ev a'))) (c:PE X b (tE X.K W (r.ev b'))):PE X (.BinOp a o b pos) (tE X.K W (Jk C r (.ZS op a' b'))):=by
 rcases A with⟨rfl,rfl⟩|⟨rfl,rfl⟩|⟨rfl,rfl⟩|⟨rfl,rfl⟩|⟨rfl,rfl⟩|⟨rfl,rfl⟩
 .exact bZ (g9 (mL eQ) abu) (λu w z x y ρ H Q t k e q => .inl (bT (λu w z e=>by
   let⟨i,j,rfl,rfl⟩:=bS e;cases e;exact⟨_,_,rfl,rfl,rfl,trivial⟩) u w z x y ρ H Q t k e q)) (λu w x y ρ H g q Q D t k E p=>.inr (aaI u w x y ρ H g q Q D t k E p)) d c
 .exact bZ (mL eV) (bT λu w z e=>by
   let⟨i,j,rfl,rfl⟩:=bS e;cases e
   exact⟨_,_,rfl,rfl,rfl,trivial⟩) (cV #[3]) d c
 .refine bZ yX (bT λu w z e=>?_) (cV #[3]) d c
  let⟨i,j,rfl,rfl⟩:=bS e;simp![IU,IT,PY,YY]at e;let⟨h,rfl⟩:=e;refine⟨_,_,rfl,rfl,rfl,?_⟩;rw[Rx,Rx,Z1,Z1,Z1,Z1,Z1]at h;unfold CMul;rw[show((2:Int) ^ 64)=BC from rfl];rcases h with(⟨h1,h2⟩|⟨h1,h2⟩)|⟨⟨⟨h1,h2⟩,h3⟩,h4⟩
  .exact .inl (.inl ⟨Ht h1,Ht h2⟩)
  .exact .inl (.inr ⟨Ht h1,Ht h2⟩)
  .exact .inr ⟨⟨Ht h1,Ht h2⟩,Ht h3,Ht h4⟩
 .refine bZ zv (bT λu w z e=>?_) (cV #[3]) d c
  let⟨i,j,rfl,rfl⟩:=bS e;simp![IU,IT]at e;refine⟨i,j,rfl,rfl,?_⟩;by_cases f:0<j
  .rw [YE f]at e
   have B:i / j=i.fdiv j:=(Int.fdiv_eq_ediv_of_nonneg i (by lia)).symm
   by_cases h1:j<An
   .rw [YE h1]at e
    rw[<-B];exact⟨(WV e).symm,by lia,by unfold An;lia,h1⟩
   .rw [Yn h1]at e;cases e
  .rw [Yn f]at e
   by_cases h1:j=0
   .rw [YE h1]at e;cases e
   .rw [Yn h1]at e
    by_cases h2 : -An<j
    .rw [YE h2]at e
     exact⟨(WV e).symm,h1,h2,by unfold An;omega⟩
    .rw [Yn h2]at e;cases e
 .refine bZ yG (bT λu w z e=>?_) (cV #[3]) d c
  let⟨i,j,rfl,rfl⟩:=bS e;simp![IU,IT]at e;refine⟨i,j,rfl,rfl,?_⟩;by_cases f:0<j
  .rw [YE f]at e
   have B:i % j=i.fmod j:=(Int.fmod_eq_emod_of_nonneg i ()).symm
   rw[<-B];exact⟨(WV e).symm,by omega⟩
  .rw [Yn f]at e
   by_cases h1:j=0
   .rw [YE h1]at e;cases e
   .rw [Yn h1]at e
    exact⟨(WV e).symm,h1⟩
 .exact bZ aaK (bT λu w z e=>by
   let⟨i,j,rfl,rfl⟩:=bS e;simp![IU,IT,PY,YY]at e;let⟨h,rfl⟩:=e;refine⟨_,_,rfl,rfl,rfl,?_⟩;unfold Gn
   omega) (cV #[3]) d c
def aa8(e:PE X a (tE X.K W (r.ev a'))):PE X (.UnaryOp .USub a pos) (tE X.K W (Jk C r (.neg a'))):=by
 refine(ado aao e).imp λO H Q c=>one c λf ρ H g u x hs d b p=>?_;cases u<;>simp![]at p<;>first|exact p.elim|skip
 cases b;exact⟨_,rfl,post.YC p d rfl⟩
def Bc(X:Cx)(op:Cp)(o:CmpOp):Prop:=∃a,OpR X (compareOp o) a /\∀ρ (H:Hp) g u w x y b Q,RH X.K ρ H g->RV X.K ρ H u x->RV X.K ρ H w y->I9 op u w g=some b->Q (V.bl b) H->a x y H Q
def dC{op:Cp}{o:CmpOp}{f:Int->Int->Bool}(d:OpR X (compareOp o) (Ik λi j=>.bl (f i j)))(h:∀u w g b,I9 op u w g=some b ->∃i j,u=.int i/\w=.int j/\b=f i j):Bc X op o:=
 ⟨_,d,λρ H g u w x y b Q k c a e q=>by
  let⟨i,j,rfl,rfl,rfl⟩:=h u w g b e;cases c;cases a;exact⟨i,j,rfl,rfl,q⟩⟩
def jh{x:V}(h:RV K ρ H u x):AV u=decide (x=.ZJ):=by
 cases u with
 |ZY S=>let⟨a,b,rfl,_⟩:=h;rfl
 |Zy S=>let⟨a,b,rfl,_⟩:=h;rfl
 |ref S=>let⟨a,rfl,_⟩:=h;rfl
 |xn _ S=>let⟨a,b,rfl,_⟩:=h;rfl
 |_=>cases h;rfl
def eW{f:Int->Int->Bool}{w:U}{b:Bool}(e:(match u,w with|.int i,.int j=>some (f i j)|_,_=>none)=some b):∃i j,u=.int i/\w=.int j/\b=f i j:=by
 cases u<;>first|(cases e;done)|skip
 cases w<;>first|(cases e;done)|skip
 exact⟨_,_,rfl,rfl,(WV e).symm⟩
def uX{w:U}(h:Ce u w=true):(u=.ZJ/\w=.ZJ)\/(∃a b,u=.bl a/\w=.bl b)\/(∃a b,u=.int a/\w=.int b) \/∃a b,u=.str a/\w=.str b:=by
 cases u<;>cases w<;>first|(cases h;done)|exact .inl ⟨rfl,rfl⟩|exact .inr (.inl ⟨_,_,rfl,rfl⟩)|exact .inr (.inr (.inl ⟨_,_,rfl,rfl⟩))|exact .inr (.inr (.inr ⟨_,_,rfl,rfl⟩))
def adN(s:X.A.units+2<cLine)(op:Cp)(o:CmpOp)(h:(op=.eq/\o = .Eq)\/(op=.ne/\o = .NotEq)\/(op=.lt/\o = .Lt)\/(op=.le/\o = .LtE)\/(op=.gt/\o = .Gt)\/(op=.ge/\o = .GtE)\/(op=.U3/\o = .Is)\/(op=.Th/\o = .IsNot)\/(op=.Xl/\o = .In)\/(op=.Yy/\o = .NotIn)):Bc X op o:=by
 rcases h with⟨rfl,rfl⟩|⟨rfl,rfl⟩|⟨rfl,rfl⟩|⟨rfl,rfl⟩|⟨rfl,rfl⟩|⟨rfl,rfl⟩|⟨rfl,rfl⟩|⟨rfl,rfl⟩|⟨rfl,rfl⟩|⟨rfl,rfl⟩
 .refine ⟨_,g9 (abW (by lia)) (ace s),λρ H g u w x y b Q i f d e q=>?_⟩
  simp![I9]at e;cases n:AW u w g with
  |none=>
   rw[n]at e;exact .inl ⟨ρ,g,u,w,b,i,f,d,e,q⟩
  |some p=>rw[n]at e;exact .inr ⟨ρ,g,u,w,b,i,f,d,Vd.mpr ⟨p,n,e⟩,q⟩
 .refine ⟨_,g9 adL (aaW s),λρ H g u w x y b Q i f d e q=>?_⟩
  cases hs:Ce u w with
  |false=>
   simp![I9,hs,Xc,Vb]at e;cases u<;>first|(cases e;done)|skip
   cases w<;>first|(cases e;done)|skip
   let⟨c,t,rfl⟩:=XB.mp e;exact .inr ⟨ρ,_,_,c,f,d,t,q⟩
  |true=>
  refine .inl ?_;rcases uX hs with⟨rfl,rfl⟩|⟨a,c,rfl,rfl⟩|⟨a,c,rfl,rfl⟩|⟨a,c,rfl,rfl⟩<;>simp![I9,Ce,Tj,Am,VJ,YY]at e<;>subst e<;>cases f<;>cases d<;>refine⟨rfl,?_⟩<;>
   first|exact q|(rw[lr];exact q)|(rw[pA];exact q)|(rw[kS];exact q)|simpa using q
 .exact dC adK λu w g b e=>eW e
 .exact dC acZ λu w g b e=>eW e
 .exact dC acU λu w g b e=>eW e
 .exact dC ac1 λu w g b e=>eW e
 .refine ⟨_,abE,λρ H g u w x y b Q i f d e q=>?_⟩
  cases w<;>simp![I9,AV,Tj,Xc,Vb,YY,reduceCtorEq]at e
  cases d;subst e;refine⟨rfl,?_⟩;rw[<-jh f];cases u<;>exact q
 .refine ⟨_,z7,λρ H g u w x y b Q i f d e q=>?_⟩
  cases w<;>simp![I9,AV,Tj,Xc,Vb,YY,reduceCtorEq]at e
  cases d;subst e;refine⟨rfl,?_⟩;rw[<-jh f];cases u<;>exact q
 .refine ⟨_,oW (aaq (by lia)) (abn ()),λρ H g u w x y b Q i f d e q=>?_⟩
  simp![I9]at e;cases j:items w g with
  |none=>
   simp![j]at e;let⟨o,m,rfl⟩:=XB.mp e;let⟨a,k,l,r,es,_⟩:=gf i f d m;exact .inr ⟨a,k,l,r,by rw[es];exact q⟩
  |some S=>simp![j]at e;exact .inl ⟨ρ,g,u,w,b,i,f,d,Vd.mpr ⟨S,j,e⟩,q⟩
 .refine ⟨_,oW (z8 ()) (zF ()),λρ H g u w x y b Q i f d e q=>?_⟩
  simp![I9]at e;cases j:items w g with
  |none=>
   simp![j]at e;let⟨o,m,rfl⟩:=XB.mp e;let⟨a,k,l,r,es,_⟩:=gf i f d m;exact .inr ⟨a,k,l,r,by rw[es];exact q⟩
  |some S=>
   simp![j]at e;exact .inl ⟨ρ,g,u,w,b,i,f,d,Vd.mpr ⟨S,j,e⟩,q⟩
def aar{op:Cp}{o:CmpOp}(c:Bc X op o)(j:behindInMarks o b=false)(m:PE X a (tE X.K W (r.ev a')))(l:PE X b (tE X.K W (r.ev b'))):PE X (.Compare a [o] [b] pos) (tE X.K W (Jk C r (.cmp op a' b'))):=by
 let⟨d,c,imp⟩:=c;refine(y7 c m l j).imp λO H Q i=>two i λn ρ H g u w x y hs f h d p=>?_;cases e:I9 op u w g with
 |none=>simp![e]at p;exact p.elim
 |some k=>simp![e]at p;exact imp ρ H g u w x y k Q f h d e (post.YC p f rfl)
def aam{op:Cp}{o:CmpOp}(h:Bc X op o)(m:behindInMarks o b=false)(q:PE X a (tE X.K W (r.ev a')))(n:PE X b (tE X.K W (r.ev b'))):PT X (.Compare a [o] [b] pos) (tT X.K W (λO g=>(Jk C r (.cmp op a' b') O g).bind λx g=>lift (Ja x g) g)):=by
 let⟨i,h,imp⟩:=h;refine(zJ h q n m).imp λO H Q l=>?_;have s:tR X.K W Yb (λd g=>(r.ev a' d g).bind λx g=>(r.ev b' d g).bind λy g=>match I9 op x y g with|some c=>Out.ok c g|none=>.ZV) O H Q:=by
  let⟨d,ρ,g,hs,f,p⟩:=l;refine⟨d,ρ,g,hs,f,?_⟩;have e:((Jk C r (.cmp op a' b') d g).bind λx g=>lift (Ja x g) g)=((r.ev a' d g).bind λx g=>(r.ev b' d g).bind λy g=>match I9 op x y g with|some c=>Out.ok c g|none=>.ZV):=by
   delta Jk;dsimp only
   cases r.ev a' d g with
   |ok x g1=>
    simp![Out.bind];cases r.ev b' d g1 with
    |ok y g2=>simp![Out.bind];cases I9 op x y g2<;>rfl
    |exc _ _ _=>rfl
    |ZV=>rfl
   |exc _ _ _=>rfl
   |ZV=>rfl
  have p2:=p
  change post X.K W Yb ((Jk C r (.cmp op a' b') d g).bind λx g=>lift (Ja x g) g) ρ H Q at p2
  rw[e]at p2;exact p2
 refine two s λd ρ H g u w x y hs f j i p=>?_;cases e:I9 op u w g with
 |none=>simp![e]at p;exact p.elim
 |some k=>simp![e]at p;exact imp ρ H g u w x y k _ f j i e ⟨k,rfl,post.YC p f rfl⟩
end
section
variable{W:XQ}{a b c:Expr}{a' b' c':E}{ZR:List Expr}
def okE{Q:VK}(p:post X.K W (RV X.K) (.ok u g) ρ H Q)(a:RH X.K ρ H g)(r:RV X.K ρ H u v):Q v H:=post.YC p a r
def jx{op i:Cp}{a j:R2}
  (d:∀ρ (H:Hp) g u w x y b Q,RH X.K ρ H g->RV X.K ρ H u x->RV X.K ρ H w y->I9 op u w g=some b->Q (V.bl b) H->a x y H Q)
  (c:∀ρ (H:Hp) g u w x y b Q,RH X.K ρ H g->RV X.K ρ H u x->RV X.K ρ H w y->I9 i u w g=some b->Q (V.bl b) H->j x y H Q) (O:L2.St) (H:Hp) (Q:VK) (n:tE X.K W (Jk C r (.chain op i a' b' c')) O H Q) :
  Dl a j (tE X.K W (r.ev a')) (tE X.K W (r.ev b')) (tE X.K W (r.ev c')) O H Q:=by
 refine two n λo ρ H g u w x y hs f m a p=>?_;cases e:I9 op u w g with
 |none=>simp![e]at p;exact p.elim
 |some k=>
  refine d ρ H g u w x y k _ f m a e ⟨k,rfl,?_⟩;cases k with
  |false=>simp![e]at p;exact aY (okE p f rfl)
  |true=>
   simp![e]at p;refine aX ?_;refine⟨o,ρ,g,hs,f,(post.bind p).mono λv H2 ⟨q,z,g2,s2,h2,l,p2⟩=>?_⟩;cases h:I9 i w z g2 with
   |none=>simp![h]at p2;exact p2.elim
   |some k2=>simp![h]at p2;exact c q H2 g2 w z y v k2 Q h2 (RV.step s2 _ _ a) l h (okE p2 h2 rfl)
def wR{op g:Cp}{o o':CmpOp}(e:Bc X op o)(f:Bc X g o')(h:lastMarks [o,o'] [b,c]=false)(k:PE X a (tE X.K W (r.ev a')))(j:PE X b (tE X.K W (r.ev b')))(i:PE X c (tE X.K W (r.ev c'))):
  PE X (.Compare a [o,o'] [b,c] pos) (tE X.K W (Jk C r (.chain op g a' b' c'))):=by
 let⟨m,e,imp⟩:=e;let⟨l,f,d⟩:=f;exact(xG e f k j i h).imp (jx imp d)
def wz{f:Su->G->Out U}(i:∀O g u g',f O g=.ok u g' ->∃c,u=.bl c)(O:L2.St)(H:Hp)(Q:Bool->Hp->Prop)(e:tT X.K W (λO g=>(f O g).bind λx g=>lift (Ja x g) g) O H Q):tE X.K W f O H (λx H1=>∃c,x=.bl c/\Q c H1):=by
 let⟨a,ρ,g,hs,h,p⟩:=e;refine⟨a,ρ,g,hs,h,?_⟩;have hk:=i a g
 change post X.K W Yb ((f a g).bind λx g=>lift (Ja x g) g) ρ H Q at p
 revert p hk;cases f a g with
 |ok u g1=>
  intro hk p;let⟨c,rfl⟩:=hk u g1 rfl;intro v j H1 b h1 d;cases d;exact⟨c,rfl,p c j H1 b h1 rfl⟩
 |exc c fs g1=>exactλ_ p=>p
 |ZV=>exactλ_ p=>p
def xF{op a:Cp}(O:Su)(g:G)(u:U)(g':G)(h:Jk C r (.chain op a a' b' c') O g=.ok u g'):∃c,u=.bl c:=by
 delta Jk at h;dsimp only at h
 revert h;cases r.ev a' O g with
 |ok x g1=>
  simp![Out.bind];cases r.ev b' O g1 with
  |ok y g2=>
   simp![Out.bind];cases I9 op x y g2 with
   |none=>intro h;cases h
   |some k=>
    cases k with
    |false=>intro h;cases h;exact⟨_,rfl⟩
    |true=>
     simp![];cases r.ev c' O g2 with
     |ok z g3=>
      simp![Out.bind];cases I9 a y z g3 with
      |none=>intro h;cases h
      |some k=>intro h;cases h;exact⟨_,rfl⟩
     |exc _ _ _=>intro h;cases h
     |ZV=>intro h;cases h
  |exc _ _ _=>intro h;cases h
  |ZV=>intro h;cases h
 |exc _ _ _=>intro h;cases h
 |ZV=>intro h;cases h
def wQ{op h:Cp}{o o':CmpOp}(e:Bc X op o)(f:Bc X h o')(j:lastMarks [o,o'] [b,c]=false)(m:PE X a (tE X.K W (r.ev a')))(l:PE X b (tE X.K W (r.ev b')))(k:PE X c (tE X.K W (r.ev c'))):
  PT X (.Compare a [o,o'] [b,c] pos) (tT X.K W (λO g=>(Jk C r (.chain op h a' b' c') O g).bind λx g=>lift (Ja x g) g)):=by
 let⟨p,e,imp⟩:=e;let⟨n,f,d⟩:=f;exact(w8 e f m l k j).imp λO H Q i=>jx imp d O H _ (wz xF O H Q i)
def abw(h:PE X a (tE X.K W (r.ev a')))(f:PE X (.BoolOp .And (b::ZR) pos) (tE X.K W (r.ev b'))):PE X (.BoolOp .And (a::b::ZR) pos) (tE X.K W (Jk C r (.and a' b'))):=by
 refine(acn h f).imp λO H Q e=>one e λi ρ H g u x hs c d p=>?_;cases u with
 |bl k=>
  cases d;refine⟨k,rfl,?_⟩;cases k with
  |true=>exact aX ⟨i,ρ,g,hs,c,p⟩
  |false=>exact aY (okE p c rfl)
 |_=>exact p.elim
def ac4(h:PE X a (tE X.K W (r.ev a')))(f:PE X (.BoolOp .Or (b::ZR) pos) (tE X.K W (r.ev b'))):PE X (.BoolOp .Or (a::b::ZR) pos) (tE X.K W (Jk C r (.or a' b'))):=by
 refine(adj h f).imp λO H Q e=>one e λi ρ H g u x hs c d p=>?_;cases u with
 |bl k=>
  cases d;refine⟨k,rfl,?_⟩;cases k with
  |true=>exact aX (okE p c rfl)
  |false=>exact aY ⟨i,ρ,g,hs,c,p⟩
 |_=>exact p.elim
def pz{x:V}{k:Bool}(l:RH X.K ρ H g)(f:RV X.K ρ H u x)(e:Ja u g=some k):CY X.K x H k:=by
 have c:∀{S:List U} {d:List V},RVs X.K ρ H S d->(!S.isEmpty) = !d.isEmpty:=λ{S d} h=>by
  cases S with
  |nil=>cases h;rfl
  |cons u S=>let⟨v,r,rfl,_⟩:=h;rfl
 cases u with
 |ZJ=>cases f;cases e;rfl
 |bl b=>cases f;cases e;rfl
 |int i=>cases f;cases e;rfl
 |str s=>simp[Ja]at e
 |ZY S=>let⟨a,d,rfl,h1,h2⟩:=f;cases e;exact .inr (.inl ⟨d,h1.sq,c h2⟩)
 |Zy S=>let⟨a,d,rfl,h1,h2⟩:=f;cases e;exact .inl ⟨d,h1.sq,c h2⟩
 |ref n=>
  let⟨a,rfl,j⟩:=f;simp![Ja]at e;cases eg:g[n]? with
  |none=>simp[eg]at e
  |some o=>
   cases o with
   |Z5 xs=>
    simp![eg,YY]at e;subst e;let⟨a',d,h1,h2,m⟩:=l.Z5 eg;rw[j]at h1;cases h1;exact .inl ⟨d,.of h2,c m⟩
   |ZG _=>simp[eg]at e
   |YD _=>simp[eg]at e
   |dst _=>simp[eg]at e
   |ins _ _=>simp[eg]at e
 |xn _ _=>simp[Ja]at e
def abz(l:PE X a (tE X.K W (r.ev a'))):PE X (.UnaryOp .Not a pos) (tE X.K W (Jk C r (.not a'))):=by
 intro Y s O H Q I j;have m:tE X.K W (r.ev a') O H (λx H1=>∃k,CY X.K x H1 k/\Q (.bl (!k)) H1):=one j λt ρ H g u x hs d c p=>by
  cases e:Ja u g with
  |none=>simp![e]at p;exact p.elim
  |some k=>simp![e]at p;exact⟨k,pz d c e,okE p d rfl⟩
 refine UnaryOp_ (thn (l Y s O H _ I m) ?_);rintro v f ⟨x,H1,o,c,k,tr,i⟩;exact not_of (thn (oS Y f O H1 x v (λb H2=>Q (.bl (!b)) H2) o c ⟨k,tr,i⟩) λb q ⟨H2,n,h⟩=>⟨.bl (!b),H2,n,rfl,h⟩)
def xh(ha:PE X a (tE X.K W (r.ev a')))(he:∀whole,isTrue a X.env whole=(do let v<-whole;standAt a.pos;holding [v] (truthy v))):PT X a (tT X.K W (λO g=>(r.ev a' O g).bind λx g=>lift (Ja x g) g)):=by
 refine(w5 ha he).imp λO H Q hp=>one (k:=λ_ x g=>lift (Ja x g) g) hp λZZ ρ H g u x hs hg r1 p=>?_;let⟨k,e,p⟩:=post.lift p;exact⟨k,pz hg r1 e,post.YC p hg rfl⟩
def aaV(h:PT X a (tT X.K W (r.ts a')))(f:PW X (.BoolOp .And (b::ZR) pos) (tT X.K W (r.ts b'))):PW X (.BoolOp .And (a::b::ZR) pos) (tT X.K W (Jl r (.and a' b'))):=by
 refine(abI h f).imp ?_;rintro O H Q ⟨d,ρ,g,hs,e,p⟩;refine⟨d,ρ,g,hs,e,(post.bind (R:=Yb) p).mono λk H1 ⟨j,k',g1,s1,h1,i,c⟩=>?_⟩;subst i;cases k' with
 |true=>exact aX ⟨d,j,g1,hs.step s1,h1,c⟩
 |false=>exact aY (post.YC c h1 rfl)
def acP(h:PT X a (tT X.K W (r.ts a')))(f:PW X (.BoolOp .Or (b::ZR) pos) (tT X.K W (r.ts b'))):PW X (.BoolOp .Or (a::b::ZR) pos) (tT X.K W (Jl r (.or a' b'))):=by
 refine(acN h f).imp ?_;rintro O H Q ⟨d,ρ,g,hs,e,p⟩;refine⟨d,ρ,g,hs,e,(post.bind (R:=Yb) p).mono λk H1 ⟨j,k',g1,s1,h1,i,c⟩=>?_⟩;subst i;cases k' with
 |true=>exact aX (post.YC c h1 rfl)
 |false=>exact aY ⟨d,j,g1,hs.step s1,h1,c⟩
def aaF(d:PT X a (tT X.K W (r.ts a'))):PT X (.UnaryOp .Not a pos) (tT X.K W (Jl r (.not a'))):=by
 refine(abJ d).imp ?_;rintro O H Q ⟨f,ρ,g,hs,c,p⟩;refine⟨f,ρ,g,hs,c,(post.bind (R:=Yb) p).mono λk H1 ⟨h,k',g1,s1,h1,e,b⟩=>?_⟩;subst e;exact post.YC b h1 rfl
def mJ:PA X [] (WN X.K W (Jg r.ev [])):=aQ.imp λO H Q ⟨b,ρ,g,hs,a,p⟩=>post.YC (R:=RVs X.K) (u:=[]) p a rfl
def kQ(i:PE X a (tE X.K W (r.ev a')))(e:PA X es (WN X.K W (Jg r.ev es')))(b:starEach (a::es) X.env=(false,eval a X.env)::starEach es X.env):PA X (a::es) (WN X.K W (Jg r.ev (a'::es'))):=by
 refine(aw i e b).imp λO H Q f=>one f λj ρ H g u x b h c p=>?_;refine⟨j,ρ,g,b,h,(post.bind p).mono λxs H1 ⟨k,S,g1,s1,h1,rs,d⟩=>?_⟩;exact post.YC (R:=RVs X.K) d h1 ⟨x,xs,rfl,RV.step s1 _ _ c,rs⟩
def szl{vs:List V}(a:RVs X.K ρ H S vs)(h:S.length<=Ab):vs.length<=sizeLine:=by
 rw[<-a.length,UP];unfold Ab at h;lia
def aaL{k:Nat}(h:PA X es (WN X.K W (Jg r.ev es'))):PE X (.Tuple es k pos) (tE X.K W (Jk C r (.ZY es'))):=by
 refine(gO h).imp ?_;rintro O H Q ⟨e,ρ,g,hs,d,p⟩;refine⟨e,ρ,g,hs,d,(post.bind (R:=RVs X.K) p).mono λxs H1 ⟨f,S,g1,s1,h1,rs,a⟩=>?_⟩;by_cases c:S.length<=Ab
 .rw [YE c]at a
  refine⟨szl rs c,λq b=>?_⟩;exact a _ f _ (ZI.fresh b) (h1.step_fresh b) ⟨q,xs,rfl,upd_same,RVs.step (ZI.fresh b) _ _ rs⟩
 .rw [Yn c]at a;exact a.elim
def a0{xs:List V}{Q:VK}(p:post X.K W (RV X.K) (alloc (.Z5 S) g) ρ H Q)(b:RH X.K ρ H g)(c:RVs X.K ρ H S xs)(q:Addr)(a:H q=none):Q (.ref q) (upd H q (.Z5 xs)):=by
 refine p (.ref q) (ρ++[q]) _ (ZI.alloc a) (b.alloc a c) ⟨q,rfl,?_⟩;rw[<-b.len];simp
def acy(h:PA X es (WN X.K W (Jg r.ev es'))):PE X (.List es pos) (tE X.K W (Jk C r (.Z5 es'))):=by
 refine(aaj h).imp ?_;rintro O H Q ⟨e,ρ,g,hs,d,p⟩;refine⟨e,ρ,g,hs,d,(post.bind (R:=RVs X.K) p).mono λxs H1 ⟨f,S,g1,s1,h1,rs,a⟩=>?_⟩;by_cases b:S.length<=Ab
 .rw [YE b]at a
  exact⟨szl rs b,λq c=>a0 a h1 rs q c⟩
 .rw [Yn b]at a;exact a.elim
def y6{vs:List V}{i:Int}(a:RVs X.K ρ H S vs)(e:Jb S i=some u):∃v,atI vs i=some v/\RV X.K ρ H u v:=by
 unfold Jb atI at e;unfold atI;rw[<-a.length];cases b:ixN S.length i with
 |none=>simp[b]at e
 |some j=>
  rw[b]at e;let⟨v,h1,h2⟩:=a.get (show S[j]?=some u from e);exact⟨v,h1,h2⟩
def aci(E:X.A.units+1<cLine)(s:PE X a (tE X.K W (r.ev a')))(G:PE X b (tE X.K W (r.ev b')))(D:Dj b):PE X (.Subscript a b pos) (tE X.K W (Jk C r (.idx a' b'))):=by
 refine(acK ((zD.or acw).or (yi E)) s G D).imp λO H Q F=>two F λL ρ H g u w x y D c m l p=>?_;cases w with
 |int i=>
  cases l;cases e:items u g with
  |none=>simp![e]at p;exact p.elim
  |some S=>
   simp![e]at p;let⟨z,j,p⟩:=post.lift p;let⟨q,B,rfl,h,rs⟩:=cJ c m e;let⟨v,ev,f⟩:=y6 rs j;rcases h with h|h
   .exact .inl (.inl ⟨q,B,i,v,rfl,rfl,h,ev,okE p c f⟩)
   .exact .inl (.inr ⟨q,B,i,v,rfl,rfl,h,ev,okE p c f⟩)
 |ZY S=>
  let⟨z,j,p⟩:=post.lift p;let⟨o,t,d⟩:=Vd.mp j;let⟨q,J,rfl,I,_,got⟩:=gf c l m t;let⟨v,rfl,f⟩:=got z d;exact .inr ⟨q,v,rfl,I,okE p c f⟩
 |str k=>
  let⟨z,j,p2⟩:=post.lift p;clear p;let⟨Z4,t,d⟩:=Vd.mp j;let⟨n,q,ws,rfl,_,_,rfl,s,rk⟩:=abo c m t;let⟨v,ev,f⟩:=rk.got k d;cases l;exact .inr ⟨q,v,rfl,by rw[<-ev];exact DGet.k (k:=Sum.inr k) s,okE p2 c f⟩
 |_=>exact p.elim
def fg{K:Hu}{ρ:List Addr}{H:Hp}:∀ns:List Int,RVs K ρ H (ns.map U.int) (ns.map V.int)
 |[]=>rfl
 |n::ns=>⟨.int n,ns.map V.int,rfl,rfl,fg ns⟩
def se_bi{b:Bi}{f:Str}{c:Pos}{a:List V->Hp->VK->Prop}(h:PE X (.Call (.Name f c) (e::es) [] pos) (Ip a (WN X.K W (Jg r.ev es'))))
  (imp:∀ρ H g S xs Q,RH X.K ρ H g->RVs X.K ρ H S xs->post X.K W (RV X.K) (Je b S g) ρ H Q->a xs H Q):PE X (.Call (.Name f c) (e::es) [] pos) (tE X.K W (Jk C r (.bi b es'))):=by
 refine h.imp ?_;rintro O H Q ⟨j,ρ,g,hs,i,p⟩;exact⟨j,ρ,g,hs,i,(post.bind (R:=RVs X.K) p).mono λxs H1 ⟨k,S,g1,s1,h1,rs,d⟩=>imp k H1 g1 S xs Q h1 rs d⟩
def imp_len(ρ:List Addr)(H:Hp)(g:G)(S:List U)(xs:List V)(Q:VK)(b:RH X.K ρ H g)(a:RVs X.K ρ H S xs)(p:post X.K W (RV X.K) (Je .len S g) ρ H Q):
  ∃p ys,xs=[.ref p]/\(SqL X.K H p ys\/SqT X.K H p ys)/\Q (.int ys.length) H:=by
 match S,a with
 |[u],a=>
  let⟨x,r',rfl,f,e⟩:=a;cases e;simp![Je,CN,BA]at p;cases e:items u g with
  |none=>simp![e]at p;exact p.elim
  |some zs=>
   simp![e]at p;let⟨q,c,rfl,h,d⟩:=cJ b f e;exact⟨q,c,rfl,h,by rw[<-d.length];exact okE p b rfl⟩
 |[],_=>exact p.elim
 |_::_::_,_=>exact p.elim
def imp_abs(ρ:List Addr)(H:Hp)(g:G)(S:List U)(xs:List V)(Q:VK)(c:RH X.K ρ H g)(a:RVs X.K ρ H S xs)(p:post X.K W (RV X.K) (Je .abs S g) ρ H Q):
  ∃i,xs=[.int i]/\Q (.int (if i<0 then -i else i)) H:=by
 match S,a with
 |[u],a=>
  let⟨x,r',rfl,b,e⟩:=a;cases e;cases u with
  |int i=>cases b;exact⟨i,rfl,okE p c rfl⟩
  |_=>exact p.elim
 |[],_=>exact p.elim
 |_::_::_,_=>exact p.elim
def vD{xs:List V}(j:RH X.K ρ H g)(b:RVs X.K ρ H S xs)(e:A6 S g=some ns):∃p,xs=[.ref p]/\H p=some (.Z5 (ns.map V.int)):=by
 match S,b with
 |[],_=>cases e
 |_::_::_,_=>unfold A6 at e;split at e<;>first|cases e|(rename_i h;cases h)
 |[u],b=>
  let⟨x,r',rfl,f,e'⟩:=b;cases e';cases u with
  |ref n=>
   simp![A6]at e;cases eg:g[n]? with
   |none=>rw[eg]at e;cases e
   |some ob=>
    cases ob with
    |Z5 S=>
     rw[eg]at e;let⟨a,l,i,k,d⟩:=j.Z5 eg;let⟨a',rfl,c⟩:=f;rw[i]at c;cases c;exact⟨a,rfl,by rw[k,dE e d]⟩
    |_=>rw[eg]at e;cases e
  |_=>cases e
def zk:PE X (.Dict [] [] pos) (tE X.K W (Jk C r .V6)):=by
 refine(xp).imp ?_;rintro O H Q ⟨c,ρ,g,hs,b,p⟩ q a;refine p (.ref q) (ρ++[q]) _ (ZI.alloc a) (b.RW a ⟨[],rfl,rfl⟩) ⟨q,rfl,?_⟩;rw[<-b.len];simp
end
def fU(a:List Int):∀{r:List (List Int)} {x:List Int},x∈AN a r↔x=a\/x∈r
 |[],x=>by simp[AN]
 |b::r,x=>by
  unfold AN;split
  .rename_i e;subst e;simp
  .split
   .simp
   .rw [X8,fU a,X8]
    constructor
    .rintro (h|h|h)
     .exact .inr (.inl h)
     .exact .inl h
     .exact .inr (.inr h)
    .rintro (h|h|h)
     .exact .inr (.inl h)
     .exact .inl h
     .exact .inr (.inr h)
def bF:∀{l:List (List Int)} {x:List Int},x∈Jc l↔x∈l
 |[],x=>YB
 |a::l,x=>by
  show x∈AN a (Jc l)↔_;rw[fU,bF,X8]
def ko(a:List Int):∀{r:List (List Int)},r.Pairwise (λx y=>Ag x y=true)->(AN a r).Pairwise λx y=>Ag x y=true
 |[],_=>by simp[AN]
 |b::r,h=>by
  let⟨h1,h2⟩:=Ud.mp h;unfold AN;split
  .exact h
  .rename_i f
   split
   .rename_i d
    refine Ud.mpr ⟨λx c=>?_,h⟩;rcases X8.mp c with rfl|c
    .exact d
    .exact cT d (h1 x c)
   .rename_i d
    refine Ud.mpr ⟨λx c=>?_,ko a h2⟩;rcases(fU a).mp c with rfl|c
    .cases e:Ag b x with
     |true=>rfl
     |false=>exact absurd (cK (by simpa using d) e) f
    .exact h1 x c
def bf:∀l:List (List Int),(Jc l).Pairwise λx y=>Ag x y=true
 |[]=>.nil
 |a::l=>ko a (bf l)
def nG:∀{a:List (List Int)},a.Pairwise (λx y=>Ag x y=true)->a.Nodup:=λh=>h.imp λ{x y} hl e=>by rw[e,cL]at hl;cases hl
def aby{ks l:List (List Int)}(a:l.Nodup)(h:∀x,x∈l↔x∈ks):l.length=(Jc ks).length:=
 ((Od a (nG (bf ks))).mpr λx=>(h x).trans bF.symm).length_eq
def lu(a:List Int):∀r:List (List Int),(AN a r).length<=r.length+1
 |[]=>Hk _
 |b::r=>by
  unfold AN;split
  .exact VY _
  .split
   .exact Hk _
   .rw [WJ,WJ];exact OE (lu a r)
def hY:∀ks:List (List Int),(Jc ks).length<=ks.length
 |[]=>Hk _
 |a::ks=>Hi (lu a (Jc ks)) (OE (hY ks))
def cI:∀{a b:List (List Int)},a.Pairwise (λx y=>Ag x y=true)->b.Pairwise (λx y=>Ag x y=true)->(∀x,x∈a↔x∈b)->a=b
 |[],[],_,_,_=>rfl
 |[],y::b,_,_,h=>absurd ((h y).mpr Hr) #[3]
 |x::a,[],_,_,h=>absurd ((h x).mp Hr) #[3]
 |x::a,y::b,u,t,h=>by
  let⟨g,A⟩:=Ud.mp u;let⟨f,w⟩:=Ud.mp t;have e:x=y:=by
   rcases X8.mp ((h x).mp Hr)with e|k
   .exact e
   .rcases X8.mp ((h y).mpr Hr)with e|j
    .exact e.symm
    .have:=cT (f x k) (g y j)
     rw[cL]at this;cases this
  subst e;have d:∀{l:List (List Int)},(∀z∈l,Ag x z=true)->x ∉ l:=λr o=>by have:=r x o;rw[cL]at this;cases this
  rw[cI A w λz=>?_];constructor
  .intro c
   rcases X8.mp ((h z).mp (Hl _ c))with e|q
   .subst e;exact absurd c (d g)
   .exact q
  .intro c
   rcases X8.mp ((h z).mpr (Hl _ c))with e|q
   .subst e;exact absurd c (d f)
   .exact q
section
def items_int{P:Program}{w:World}:∀{k:List Int} {S:List Value},ZH (k.map V.int) S->ItemsAre (intKind P w) k S
 |[],S,h=>by cases h;exact .nil
 |i::k,S,h=>by
  cases h with
  |cons r t=>
   let⟨u,rfl⟩:=r;exact .cons (intKind_is _ _ _ _) (items_int t)
def gT{b:Addr}{k:List Int}(a:HOk P w H h)(e:H b=some (.ZY (k.map V.int))):IsT P w h k b:=by
 let⟨_,ZU,r,o,ho,d,n,c⟩:=a b _ e;exact⟨o,ZU.toArray,n,ho,d,c,items_int r⟩
def FN(H:Hp)(D:Y_):Prop:=∀d∈D,H d.2=some (.ZY (d.1.map V.int))/\d.1≠[]
def Fz(X:Cx):List V->Hp->VK->Prop:=λxs H Q=>∃(p:Addr) (a:Y_),xs=[.ref p]/\H p=some (.Z5 (a.map λd=>V.ref d.2))/\FN H a/\a.length<=300/\(∀d∈a,∀e∈a,I8 d.1=I8 e.1->d.1=e.1) /\
 ∀(Z6:Addr) (D:Y_),H Z6=none->(∀d∈D,d∈a)->(∀d∈a,∃e∈D,e.1=d.1)->(D.map (·.1)).Nodup->Q (.ref Z6) (upd H Z6 (.ext (SInv X.prog X.w Z6 D)))
def SInv.Yt{a:Addr}{D:Y_}(c b:Heap)(i:SInv P w a D c)(k:∀o,c.get? a=some o->b.get? a=some o):SInv P w a D b:=
 let⟨o,es,ep,t,Z,ho,r⟩:=i;⟨o,es,ep,t,Z,k o ho,r⟩
def xS(C:X.calm=true)(B:X.A.units+3<cLine):CallR X (.type "set") (Fz X):=by
 intro Y s O H xs S Q I r ⟨p,c,e,hp,D,hn,F,q⟩;subst e;let⟨u,rfl,y⟩:=vals1 r;cases y;let⟨ZU,m,z,L⟩:=I.list (SqL.of hp);have f:ZU.length=c.length:=by rw[<-m.length,Zg]
 let key:Nat->List Int×Addr:=λi=>(c[i]?).getD ([],0)
 have hk:∀i,i<c.length->key i∈c/\c[i]?=some (key i):=λi hi=>by
  have e:c[i]?=some c[i]:=YJ hi;have l:key i=c[i]:=by show(c[i]?).getD _=_;rw[e];rfl
  rw[l];exact⟨R3 hi,e⟩
 have G:∀d∈c,∃i,i<c.length/\d=key i:=λd hd=>by
  let⟨i,hi,e⟩:=Q2 hd;exact⟨i,hi,by rw[<-e];have:=(hk i hi).2;rw[YJ hi]at this;exact WV this⟩
 refine wj (key:=key) (I.ok.hd C) B z.isList (λi v h=>?_) (λi hi=>?_) (λi j hi g e=>?_) (by rw[Xe,f];exact hn) λh' tk k J=>?_
 .rw [List.getElem?_toArray]at h
  have hi:i<c.length:=by rw[<-f];exact(Ye.mp h).1
  let⟨K,n,l⟩:=m.get (i:=i) (x:=V.ref (key i).2) (by rw[Wi,(hk i hi).2];rfl)
  rw[h]at n;cases n;exact l
 .rw [Xe,f]at hi
  exact gT I.ZK (D _ (hk i hi).1).1
 .rw [Xe,f]at hi g
  exact F _ (hk i hi).1 _ (hk j g).1 e
 .have E:ZU.toArray.size=c.length:=by rw[Xe,f]
  rw [E] at k;refine ⟨.ref s.heap.objs.size,_,I.laid (t':=tk) J (Hk _) (show ObjOk X.prog X.w _ h' _ (.ext (SInv X.prog X.w s.heap.objs.size (dd key c.length))) from ⟨k,?_,λh1 h2 a b=>SInv.Yt h1 h2 a b⟩),rfl,
   q _ (dd key c.length) (I.ZK.fresh (Hk _)) (λd hd=>?_) (λd hd=>?_) (s9 key _)⟩
  .obtain ⟨o,es,ep,t,Z,ho,_⟩:=k;exact⟨o,ho⟩
  .obtain ⟨j,g,e⟩:=cY key _ d hd
   rw[e];exact(hk j g).1
  .obtain ⟨i,hi,e⟩:=G d hd
   rw[e];exact ow key _ i hi
def Ff(X:Cx):List V->Hp->VK->Prop:=λxs H Q=>∃(Z6:Addr) (D:Y_),xs=[.ref Z6]/\H Z6=some (.ext (SInv X.prog X.w Z6 D))/\FN H D/\D.length<100000 /\
 ∀(l:Addr) (a:Y_),H l=none->a.Perm D->BI a->Q (.ref l) (upd H l (.Z5 (a.map λd=>V.ref d.2)))
def dD:∀D:Y_,ZH (D.map λd=>V.ref d.2) (refs D)
 |[]=>.nil
 |d::D=>.cons rfl (dD D)
def vQ(y:X.calm=true)(x:X.A.units+2<cLine):CallR X (.builtin "sorted") (Ff X):=by
 intro Y s O H xs S Q I r ⟨Z6,D,e,B,z,hn,q⟩;subst e;let⟨u,rfl,n⟩:=vals1 r;cases n;let⟨⟨o,es,ep,t,Z,ho,P⟩,_,_⟩:=I.ZK Z6 _ B;have k:es.size=D.length:=by rw[P.tb.len,P.len]
 refine iV (aaf P Z6) (I.ok.hd y) x ho (by lia) λg J v=>?_
 have pm:(IJ X.w Z6 ep es).Perm (D.map λd=>(Zp X.prog X.w d.1,Value.ref d.2)):=by
  refine(gi X.w Z6 ep es).trans ?_;rw[P.tb.he];exact P.pm
 let⟨h,b,F⟩:=jk pm D rfl;have C:g=refs h:=by
  apply List.ext_getElem?;intro i;rcases Pp i g.length with hi|hi
  .obtain ⟨e,a,E⟩:=v i g[i] (YJ hi)
   rw[YJ hi,E];unfold refs;rw[F,Wi]at a;rw[Wi];cases l:h[i]? with
   |none=>rw[l]at a;cases a
   |some d=>rw[l]at a;cases a;rfl
  .rw [Qh hi,Qh]
   unfold refs;rw[Zg,b.length_eq];lia
 refine⟨h,C,λd hd=>?_,λh1 h' tk c f j p k1 k2 G=>?_⟩
 .have:=z d (b.mem_iff.mp hd)
  exact⟨gT I.ZK this.1,this.2⟩
 .have m:Z0 X Y O H {s with heap:=h1,toks:=tk}:=I.kept k1
  refine⟨.ref h1.objs.size,_,m.laid (t':=tk) k2 (Hk _) (show ObjOk X.prog X.w _ h' _ (.Z5 (f.map λd=>V.ref d.2))from⟨?_,refs f,c,dD f,G⟩),rfl,q _ f (m.ZK.fresh (Hk _)) (j.trans b) p⟩;rw[Zg,(j.trans b).length_eq,UP];lia
end
section
def jV:∀{xs:List U} {ks:List (List Int)} {vs:List V},Bq xs=some ks->RVs K ρ H xs vs ->∃D:Y_,vs=(D.map λd=>V.ref d.2)/\D.map (·.1)=ks /\∀d∈D,H d.2=some (.ZY (d.1.map V.int))
 |[],ks,vs,h,r=>by cases h;exact⟨[],r,rfl,λd f=>by cases f⟩
 |u::xs,ks,vs,h,⟨v,r,e,j,rs⟩=>by
  simp![Bq]at h;cases g:keyOf u with
  |none=>rw[g]at h;cases h
  |some k=>
   rw[g]at h;cases i:Bq xs with
   |none=>rw[i]at h;cases h
   |some o=>
    rw[i]at h;cases h;let⟨D,a,b,c⟩:=jV i rs;cases u with
    |ZY S=>
     let⟨p,ws,rfl,l,n⟩:=j;have hi:intsOf S=some k:=g;have m:ws=k.map V.int:=dE hi n;subst m;refine⟨(k,p)::D,by rw[e,a];rfl,by rw[Xu,b],λd f=>?_⟩
     rcases X8.mp f with rfl|f
     .exact l
     .exact c d f
    |_=>cases g
end
section
variable{W:XQ}{a:Expr}{a':E}{p RQ:Pos}
def d7{K:Hu}{ρ:List Addr}{H:Hp}:∀{D:Y_},(∀d∈D,H d.2=some (.ZY (d.1.map V.int)))->RVs K ρ H ((D.map (·.1)).map tupI) (D.map λd=>V.ref d.2)
 |[],_=>rfl
 |d::D,h=>⟨_,_,rfl,⟨d.2,_,rfl,h d Hr,fg _⟩,d7 λd a=>h d (Hl _ a)⟩
def wB(ρ:List Addr)(H:Hp)(g:G)(S:List U)(xs:List V)(Q:VK)(I:RH X.K ρ H g)(p:RVs X.K ρ H S xs)(q:post X.K W (RV X.K) (Je .sset S g) ρ H Q):
  Fz X xs H λx H2=>Ff X [x] H2 Q:=by
 match S,p with
 |[.ref n],p=>
  let⟨x,r',rfl,⟨b,rfl,R⟩,e⟩:=p;cases e;simp![Je,B8]at q;cases eg:g[n]? with
  |none=>simp![eg]at q;exact q.elim
  |some o=>
   cases o with
   |Z5 ys=>
    simp![eg]at q;cases A:Bq ys with
    |none=>simp![A]at q;exact q.elim
    |some ks=>
     simp![A]at q;by_cases C:Jd ks
     .rw [YE C]at q
      let⟨h1,J,Y⟩:=C;let⟨b',vs,F,T,N⟩:=I.Z5 eg;rw[R]at F;cases F;let⟨M,Z,B,t⟩:=jV A N;subst Z;have i:∀d∈M,d.1∈ks:=λd a=>by rw[<-B];exact WA.mpr ⟨d,a,rfl⟩
      refine⟨b,M,rfl,T,λd a=>⟨t d a,J _ (i d a)⟩,by rw[<-Zg (f:=λd:List Int×Addr=>d.1),B];exact h1,λd a e s=>Y _ (i d a) _ (i e s),λZ6 D v m UD L=>?_⟩
      have YR:∀d∈D,d.2≠Z6:=λd a z=>by have:=t d (m d a);rw[z,v]at this;cases this
      have j:∀d∈D,upd H Z6 (.ext (SInv X.prog X.w Z6 D)) d.2=some (.ZY (d.1.map V.int)):=λd a=>by rw[aa (YR d a)];exact t d (m d a)
      have mem:∀x,x∈D.map (·.1)↔x∈ks:=λx=>by
       constructor
       .intro k
        let⟨d,a,rfl⟩:=WA.mp k;exact i d (m d a)
       .intro k
        rw[<-B]at k;let⟨d,a,rfl⟩:=WA.mp k;let⟨e,s,e2⟩:=UD d a;exact WA.mpr ⟨e,s,e2⟩
      have same:∀c:Y_,c.Perm D->BI c->c.map (·.1)=Jc ks:=λc h r=>by
       refine cI ?_ (bf ks) λx=>((h.map _).mem_iff.trans (mem x)).trans bF.symm;have O:(c.map (·.1)).Nodup:=(h.map _).nodup_iff.mpr L;refine To.mpr ?_;have Vq:=To.mp O;exact(r.and Vq).imp λ{x y} ⟨o1,P⟩=>by
        cases hl:Ag x.1 y.1 with
        |true=>rfl
        |false=>exact absurd (cK hl o1) P
      refine⟨Z6,D,rfl,upd_same,λd a=>⟨j d a,J _ (i d (m d a))⟩,?_,λl c hl h r=>?_⟩
      .have:=(aby (ks:=ks) L mem)
       have:=hY ks;rw[Zg]at *;lia
      .have e1:=same c h r
       have st:ZI X.K ρ H ρ (upd H Z6 (.ext (SInv X.prog X.w Z6 D))):=ZI.fresh v;have E:=q.from st;have Wv:=I.step_fresh v (o:=.ext (SInv X.prog X.w Z6 D));rw[<-e1]at E;exact a0 E Wv (d7 λd a=>j d (h.mem_iff.mp a)) l hl
     .rw [Yn C]at q;exact q.elim
   |_=>simp![eg]at q;exact q.elim
 |[],_=>exact q.elim
 |[.ZJ],_=>exact q.elim
 |[.bl _],_=>exact q.elim
 |[.int _],_=>exact q.elim
 |[.str _],_=>exact q.elim
 |[.ZY _],_=>exact q.elim
 |[.Zy _],_=>exact q.elim
 |[.xn _ _],_=>exact q.elim
 |u::_::_,_=>cases u<;>exact q.elim
def yH(j:X.calm=true)(o:X.A.units+3<cLine)(f:Gl X "sorted")(t:X.mg "sorted" = none)(d:Gl X "set")(z:X.mg "set" = none)(u:PE X a (tE X.K W (r.ev a')))(c:starEach [a] X.env=(false,eval a X.env)::starEach [] X.env):
  PE X (.Call (.Name "sorted" p) [.Call (.Name "set" p2) [a] [] RQ] [] pos) (tE X.K W (Jk C r (.bi .sset [a']))):=by
 have h1:=pe_callTy (p:=p2) (pos:=RQ) (xS j o) d z #[2] (kQ u mJ c) #[1] #[1] c #[2]
 have h2:=pe_callB (p:=p) (pos:=pos) (vQ j (by lia)) f t #[2] (aw h1 aQ) #[1] #[1]
 refine h2.imp ?_;rintro O H Q ⟨w,ρ,g,c,f,q⟩;exact⟨w,ρ,g,c,f,(post.bind (R:=RVs X.K) q).mono λxs H1 ⟨y,S,g1,s1,h1,rs,k⟩=>wB y H1 g1 S xs Q h1 rs k⟩
end
open PySem PySem.Spec PyProof.Rows L2 PySem.W
section
def wg{o:Obj}{f:Array DictEntry}(r:A.handled=none){d it:Addr}(u:d≠it)(k:o.data=.dict f ep):
  Walks prog w A it [it,d] [it] f.size (λi v=>∃e,f[i]?=some e/\v=e.key) (λi h=>h.IsKeyIter it d i f.size ep/\h.get? d=some o) where
 sub:=λb c=>by simp at c;simp[c]
 frame:=λi h h' ⟨a,b⟩ hk=>⟨a.at λo e=>hk it #[3] o e,hk d #[3] o b⟩
 item:=λi s Q E hi ⟨a,b⟩ g=>by
  have j:f[i]?=some f[i]:=WB hi;refine zO a b k j λh' a' sb=>?_;exact g _ h' s.toks ⟨_,j,rfl⟩ ⟨a',(sb.2 d u).trans b⟩ λb o c e=>(sb.2 b λq=>c (by simp[q])).trans e
 done:=λs Q E ⟨a,b⟩ g=>yx r a b k (OS (Hk _)) λh' t=>g h' s.toks λb o c e=>t b o (λq=>c (by simp[q])) e
 self:=λi s Q E ⟨a,_⟩ g=>wpAny_pyIter_keyiter a g
def j5{o:Obj}{f:Array DictEntry}{d:Addr}(j:(d==sysModules)=false)(b:o.ExactDict)(g:o.data=.dict f ep):
  KdlSrc prog w "dict" d d f.size (λi v=>∃e,f[i]?=some e/\v=e.key) (λh=>h.get? d=some o) where
 type:=λ_ a=>⟨o,a,b.1⟩
 there:=λ_ a=>⟨Hh a,Hh a⟩
 keep:=λ_ _ a hk=>hk d (.inl rfl) o a
 notList:=by decide
 notTuple:=by decide
 hint:=λ_ _ _ _ a c=>kdl_hint_dict ⟨o,a,b.1⟩ c
 iter:=λ_ s k a=>⟨_,_,(λ_ _ c=>yt j a b g c),wg k (Hn (Hh a)) g,⟨⟨_,Ho _ rfl,rfl,rfl⟩,Hg _ a⟩⟩
end
section
variable{W:XQ}
def oM:∀k:List Int,(k.map (Sum.inl:Int->Key)).map HV=k.map V.int
 |[]=>rfl
 |i::k=>by rw[Xu,Xu,Xu,oM k];rfl
def DKs(H:Hp)(a:Addr)(ks:List (List Int)):Prop:=∃ws,Rd H a (.dT ws)/\ws.map (·.1)=ks.map λk=>k.map Sum.inl
def D5(H:Hp)(D:Y_):Prop:=∀d∈D,H d.2=some (.ZY (d.1.map V.int))
def l8{ks:List (List Int)}(ok:HOk P w H h)(z:DKs H a ks):∃o es ep,ks.length<=sizeLine/\(a==sysModules)=false/\h.get? a=some o/\o.ExactDict/\o.data=.dict es ep/\es.size=ks.length /\
  ∀vs:List Value,vs.length=es.size->(∀(j:Nat) (v:Value),vs[j]?=some v ->∃e,es[j]?=some e/\v=e.key) ->∃D:Y_,vs=refs D/\D.map (·.1)=ks/\D5 H D:=by
 let⟨ws,u,p⟩:=z;let⟨h1,h2,o,es,ep,B,A,y,n,x⟩:=dtAt (u.ok ok);have m:ws.length=ks.length:=by rw[<-Zg (f:=(·.1)),p,Zg]
 refine⟨o,es,ep,by rw[<-m];exact h1,h2,B,A,y,by rw[n,m],λvs l hs=>?_⟩
 rw[n]at l;clear u h1 n;have c:∀(j:Nat) (v:Value),vs[j]?=some v ->∃b k,v=.ref b/\ks[j]?=some k/\H b=some (.ZY (k.map V.int)):=λj v e=>by
  let⟨O,s,r⟩:=hs j v e;have I:j<ws.length:=by rw[<-l];exact(Ye.mp e).1
  obtain⟨⟨k0,G⟩,F⟩:∃q,ws[j]?=some q:=⟨_,YJ I⟩;let⟨b,J,E,L,K⟩:=x j k0 G F;rw[s]at E;cases E;have i:(ws.map (·.1))[j]?=some k0:=by rw[Wi,F];rfl
  rw[p,Wi]at i;cases C:ks[j]? with
  |none=>rw[C]at i;cases i
  |some k=>
   rw[C]at i;cases i;exact⟨b,k,r.trans L,rfl,by rw[<-oM];exact K⟩
 have t:vs.length=ks.length:=by rw[l,m]
 clear l hs x p m y A B
 induction vs generalizing ks with
 |nil=>
  cases ks with
  |nil=>exact⟨[],rfl,rfl,λd g=>nomatch g⟩
  |cons _ _=>cases t
 |cons v vs ih=>
  cases ks with
  |nil=>cases t
  |cons k ks=>
   let⟨b,k',rfl,s,r⟩:=c 0 v rfl;cases s;let⟨D,N,J1,M⟩:=ih (λj v e=>c (j+1) v e) (by simpa using t)
   refine⟨(k,b)::D,by rw[N];rfl,by rw[Xu,J1],λd g=>?_⟩
   rcases X8.mp g with rfl|g
   .exact r
   .exact M d g
def EW(X:Cx):List V->Hp->VK->Prop:=λxs H Q=>∃(a:Addr) (ks:List (List Int)),xs=[.ref a]/\DKs H a ks /\
 ∀(l:Addr) (D:Y_),H l=none->D.map (·.1)=ks->D5 H D->Q (.ref l) (upd H l (.Z5 (D.map λd=>V.ref d.2)))
def call_listD(h:X.calm=true):CallR X (.type "list") (EW X):=by
 intro Y s O H xs S Q I r ⟨a,ks,e,z,q⟩;subst e;let⟨u,rfl,g⟩:=vals1 r;cases g;let⟨o,es,ep,h1,h2,p,n,m,l,k⟩:=l8 I.ZK z;refine kdl_call (j5 h2 n m) (I.ok.hd h) p (by rw[l];exact h1) λh' tk ZQ c hk i b=>?_
 let⟨D,x,J1,t⟩:=k ZQ.toList (by rw[Y2];exact b.1) λj v e=>b.2 j v (by rw[<-W3];exact e)
 have ea:ZQ=(refs D).toArray:=by rw[<-x]
 subst ea;refine⟨.ref s.heap.objs.size,_,I.laid (t':=tk) hk (Hk _) (show ObjOk X.prog X.w _ h' _ (.Z5 (D.map λd=>V.ref d.2))from⟨?_,refs D,c,dD D,i⟩),rfl,q _ D (I.ZK.fresh (Hk _)) J1 t⟩;rw[Zg,<-Zg (f:=(·.1)),J1];exact h1
def DA(X:Cx):List V->Hp->VK->Prop:=λxs H Q=>∃(a:Addr) (ks:List (List Int)),xs=[.ref a]/\DKs H a ks/\ks.length<100000/\(∀k∈ks,k≠[]) /\
 ∀(l:Addr) (D:Y_),H l=none->(D.map (·.1)).Perm ks->BI D->D5 H D->Q (.ref l) (upd H l (.Z5 (D.map λd=>V.ref d.2)))
def vZ(v:X.calm=true)(p:X.A.units+2<cLine):CallR X (.builtin "sorted") (DA X):=by
 intro Y s O H xs S Q I r ⟨a,ks,e,z,hn,F,q⟩;subst e;let⟨u,rfl,l⟩:=vals1 r;cases l;let⟨o,es,ep,h1,h2,C,B,y,J,x⟩:=l8 I.ZK z;refine iV (j5 h2 B y) (I.ok.hd v) p C (by lia) λk t n=>?_
 let⟨D,E,J1,h⟩:=x k t n;refine⟨D,E,λd hd=>⟨gT I.ZK (h d hd),F _ (by rw[<-J1];exact WA.mpr ⟨d,hd,rfl⟩)⟩,λi h' tk c b g m k1 k2 G=>?_⟩
 have j:Z0 X Y O H {s with heap:=i,toks:=tk}:=I.kept k1
 refine⟨.ref i.objs.size,_,j.laid (t':=tk) k2 (Hk _) (show ObjOk X.prog X.w _ h' _ (.Z5 (b.map λd=>V.ref d.2))from⟨?_,refs b,c,dD b,G⟩),rfl,q _ b (j.ZK.fresh (Hk _)) (by rw[<-J1];exact g.map _) m λd hd=>h d (g.mem_iff.mp hd)⟩
 rw[Zg,g.length_eq,<-Zg (f:=(·.1)),J1];exact h1
def pH{x:V}{b:List (List Int×U)}(f:RH K ρ H g)(d:RV K ρ H u x)(e:Yd u g=some b):∃a,x=.ref a/\DKs H a (b.map (·.1)):=by
 let⟨a,ws,rfl,h,c⟩:=ng f d e;exact⟨_,rfl,ws,h,by rw[gK c,Sw];rfl⟩
def imp_list(ρ:List Addr)(H:Hp)(g:G)(S:List U)(xs:List V)(Q:VK)(b:RH X.K ρ H g)(c:RVs X.K ρ H S xs)(p:post X.K W (RV X.K) (Je .list S g) ρ H Q):
  (∃p ys,xs=[.ref p]/\(SqL X.K H p ys\/SqT X.K H p ys) /\∀l,H l=none->Q (.ref l) (upd H l (.Z5 ys)))\/EW X xs H Q:=by
 match S,c with
 |[u],c=>
  let⟨x,r',rfl,h,e⟩:=c;cases e;simp![Je,BA]at p;cases e:items u g with
  |none=>
   simp![e]at p;cases f:Yd u g with
   |none=>simp![f]at p;exact p.elim
   |some Z4=>
    simp![f]at p;let⟨a,rfl,z⟩:=pH b h f;refine .inr ⟨a,_,rfl,z,λl D d n m=>a0 p b ?_ l d⟩;have:=d7 (K:=X.K) (ρ:=ρ) m;rw[n,Sw]at this;exact this
  |some zs=>
   simp![e]at p;let⟨q,i,rfl,k,j⟩:=cJ b h e;exact .inl ⟨q,i,rfl,k,λl d=>a0 p b j l d⟩
 |[],_=>exact p.elim
 |_::_::_,_=>exact p.elim
def imp_srt(ρ:List Addr)(H:Hp)(g:G)(S:List U)(xs:List V)(Q:VK)(f:RH X.K ρ H g)(d:RVs X.K ρ H S xs)(p:post X.K W (RV X.K) (Je .W9 S g) ρ H Q):
  (∃(p:Addr) (ns:List Int),xs=[.ref p]/\H p=some (.Z5 (ns.map V.int))/\ns.length<64 /\∀l,H l=none->Q (.ref l) (upd H l (.Z5 ((sortI ns).map V.int))))\/DA X xs H Q:=by
 simp![Je,CO]at p;cases c:A6 S g with
 |none=>
  simp![c,Dp]at p
  match S,d with
  |[u],d=>
   let⟨x,r',rfl,m,e⟩:=d;cases e;simp only at p;cases i:Yd u g with
   |none=>simp![i]at p;exact p.elim
   |some Z4=>
    simp![i]at p;by_cases hk:Z4.length<100000/\(Z4.map (·.1)).Nodup /\∀k∈Z4.map (·.1),k≠[]
    .rw [YE hk]at p
     let⟨a,rfl,z⟩:=pH f m i;refine .inr ⟨a,_,rfl,z,by rw[Zg];exact hk.1,hk.2.2,λl D b j n c=>a0 p f ?_ l b⟩
     have t:D.map (·.1)=Jc (Z4.map (·.1)):=by
      refine cI ?_ (bf _) λx=>j.mem_iff.trans bF.symm;have o:(D.map (·.1)).Nodup:=j.nodup_iff.mpr hk.2.1;refine To.mpr ?_;have v:=To.mp o;exact(List.Pairwise.and n v).imp λ{x y} ⟨o1,r⟩=>by
       cases b:Ag x.1 y.1 with
       |true=>rfl
       |false=>exact absurd (cK b o1) r
     rw[<-t];exact d7 c
    .rw [Yn hk]at p;exact p.elim
  |[],_=>exact p.elim
  |_::_::_,_=>exact p.elim
 |some ns=>
  simp![c]at p;let⟨q,rfl,s⟩:=vD f d c;by_cases b:ns.length<64
  .rw [YE b]at p
   exact .inl ⟨q,ns,rfl,s,b,λl h=>a0 p f (fg _) l h⟩
  .rw [Yn b]at p;exact p.elim
def call_srtX(b:X.calm=true)(a:X.A.units+2<cLine):CallR X (.builtin "sorted") (λxs H Q=>(∃(p:Addr) (ns:List Int),xs=[.ref p]/\H p=some (.Z5 (ns.map V.int))/\ns.length<64 /\∀l,H l=none->Q (.ref l) (upd H l (.Z5 ((sortI ns).map V.int))))\/DA X xs H Q):=xE.or (vZ b a)
end
open PySem PySem.Spec PyProof.Rows L2
section
variable{W:XQ}{a b c:Expr}{a' b' c':E}{lo hi:Option Expr}{lo' YI:Option E}
abbrev Ck(K:Hu)(W:XQ)(f:Su->G->Out (Option Int)):TO:=tR K W Yb f
def zl:PO X none (Ck X.K W (Jh r.ev none)):=λY s O H Q I ⟨b,ρ,g,hs,a,p⟩=>yc Y s O H Q I (post.YC (R:=Yb) p a rfl)
def zE(h:PE X e (tE X.K W (r.ev e'))):PO X (some e) (Ck X.K W (Jh r.ev (some e'))):=λY s O H Q I b=>by
 refine zy h Y s O H Q I (one (k:=λ_ u g=>match u with|.int i=>Out.ok (some i) g|_=>.ZV) b λd ρ H g u x hs c a p=>?_)
 cases u with
 |int i=>cases a;exact⟨i,rfl,post.YC (R:=Yb) p c rfl⟩
 |_=>exact p.elim
def gw{vs:List V}{l h:Option Int}(a:RVs X.K ρ H S vs):RVs X.K ρ H (A1 S l h) (Bu vs l h):=by
 unfold A1 Bu;rw[a.length];exact(a.drop _).take _
def aaG(z:PE X a (tE X.K W (r.ev a')))(v:PO X lo (Ck X.K W (Jh r.ev lo')))(w:PO X hi (Ck X.K W (Jh r.ev YI))):PE X (.Subscript a (.Slice lo hi none p2) pos) (tE X.K W (Jk C r (.W8 a' lo' YI))):=by
 refine(wD (zR.or abj) z v w).imp ?_;rintro O H Q ⟨j,ρ,g,hs,y,p⟩;refine⟨j,ρ,g,hs,y,(post.bind p).mono λx H1 ⟨D,u,g1,s1,h1,s,t⟩=>?_⟩;refine⟨j,D,g1,hs.step s1,h1,(post.bind (R:=Yb) t).mono λl H2 ⟨E,I,g2,s2,h2,B,p2⟩=>?_⟩;subst B;refine⟨j,E,g2,(hs.step s1).step s2,h2,(post.bind (R:=Yb) p2).mono λh H3 ⟨F,h',g3,s3,h3,A,b⟩=>?_⟩;subst A;have f:=RV.step s3 _ _ (RV.step s2 _ _ s);cases u with
 |ZY S=>
  let⟨q,e,rfl,d,c⟩:=f;refine .inr ⟨q,e,rfl,d.sq,?_⟩;simp![]at b;rw[c.length]at b;split at b
  .exact b.elim
  .rename_i i
   refine⟨i,λk hk=>?_⟩;exact b _ F _ (ZI.fresh hk) (h3.step_fresh hk) ⟨k,_,rfl,upd_same,RVs.step (ZI.fresh hk) _ _ (gw c)⟩
 |Zy S=>
  let⟨q,e,rfl,d,c⟩:=f;exact .inl ⟨q,e,rfl,d.sq,λk hk=>a0 b h3 (gw c) k hk⟩
 |ref n=>
  let⟨q,rfl,i⟩:=f;simp![]at b;cases eg:g3[n]? with
  |none=>simp![eg]at b;exact b.elim
  |some o=>
   cases o with
   |Z5 S=>
    simp![eg]at b;let⟨G,e,d,c,m⟩:=h3.Z5 eg;rw[i]at d;cases d;exact .inl ⟨q,e,rfl,.of c,λk hk=>a0 b h3 (gw m) k hk⟩
   |ZG _=>simp![eg]at b;exact b.elim
   |YD _=>simp![eg]at b;exact b.elim
   |dst _=>simp![eg]at b;exact b.elim
   |ins _ _=>simp![eg]at b;exact b.elim
 |_=>exact b.elim
def tyName:Ty->String
 |.U2=>"int"|.U1=>"bool"|.Uq=>"str"|.Uo=>"tuple"|.U0=>"list"|.own _=>"?"
noncomputable def Ty.isB(t:Ty):Bool:=match t with|.own _=>false|_=>true
def aa2{x:V}{t:Ty}{k:Bool}{O:L2.St}{v:Value}{Q:VK}(I:L2.Z0 X Y O H s)(C:RH X.K ρ H g)(j:RV X.K ρ H u x)(f:RelV x v)
  (d:t.isB=true) (e:Ay t u g=some k) (q:Q (.bl k) H):wpAny (model X.prog X.w) X.A (call (.builtin "isinstance") [v,.type (tyName t)]) (EP X Y O Q) X.xe s:=by
 have a:∀tk,EP X Y O Q (.bool k) {s with toks:=tk}:=λtk=>⟨.bl k,H,I.tok tk,rfl,q⟩
 have l:∀{p:Addr} {S:List U} {c:List V},SqT X.K H p c->Ay t (.ZY S) g=some k->wpAny (model X.prog X.w) X.A (call (.builtin "isinstance") [.ref p,.type (tyName t)]) (EP X Y O Q) X.xe s:=λ{p S c} h e=>by
  let⟨ZU,_,⟨o,h1,h2,_⟩,_⟩:=I.tuple h;cases t<;>first|(cases d;done)|(simp![Ay,YY,reduceCtorEq]at e;subst e;exact QA PySem.W.kitx_tuple I.Yv ⟨o,h1,h2⟩ rfl (λz=>nomatch z) a)
 have m:∀{p:Addr} {c:List V},SqL X.K H p c->Cd t=some k->wpAny (model X.prog X.w) X.A (call (.builtin "isinstance") [.ref p,.type (tyName t)]) (EP X Y O Q) X.xe s:=λ{p c} h e=>by
  let⟨ZU,_,⟨o,n,h1,h2,_⟩,_⟩:=I.list h;cases t<;>first|(cases d;done)|(simp![Cd,YY,reduceCtorEq]at e;subst e;exact QA PySem.W.kitx_list I.Yv ⟨o,h1,h2⟩ rfl (λz=>nomatch z) a)
 cases u with
 |ZJ=>cases j;cases f;cases t<;>first|(cases d;done)|(simp![Ay,YY,reduceCtorEq]at e;subst e;exact QA PySem.W.kitx_none I.Yv True.intro rfl (λz=>nomatch z) a)
 |bl b=>cases j;cases f;cases t<;>first|(cases d;done)|(simp![Ay,YY,reduceCtorEq]at e;subst e;exact QA PySem.W.kitx_bool I.Yv True.intro rfl (λz=>nomatch z) a)
 |int i=>cases j;let⟨tk,rfl⟩:=f;cases t<;>first|(cases d;done)|(simp![Ay,YY,reduceCtorEq]at e;subst e;exact QA PySem.W.kitx_int I.Yv True.intro rfl (λz=>nomatch z) a)
 |str z=>cases j;let⟨tk,rfl⟩:=f;cases t<;>first|(cases d;done)|(simp![Ay,YY,reduceCtorEq]at e;subst e;exact QA PySem.W.kitx_str I.Yv True.intro rfl (λz=>nomatch z) a)
 |ZY S=>let⟨p,c,rfl,h1,h2⟩:=j;cases f;exact l h1.sq e
 |Zy S=>simp[Ay]at e
 |ref n=>
  let⟨p,rfl,B⟩:=j;cases f;simp![Ay]at e;cases eg:g[n]? with
  |none=>simp![eg]at e;cases e
  |some o=>
   cases o with
   |Z5 S=>
    simp![eg]at e;let⟨E,c,r,y,D⟩:=C.Z5 eg;rw[B]at r;cases r;exact m (.of y) e
   |ZG _=>simp![eg]at e;cases e
   |YD _=>simp![eg]at e;cases e
   |dst _=>simp![eg]at e;cases e
   |ins _ _=>simp![eg]at e;cases t<;>first|(cases d;done)|cases e
 |xn _ _=>simp[Ay]at e
def aaE{t:Ty}{c:Str}{B:Pos}(L:t.isB=true)(P:c=Str.ofString (tyName t))(y:Gl X c)(w:X.mg c=none)(N:bootBuiltins c=some (.type (tyName t)))(E:c ≠ "__name__")(M:(c==("__debug__" : Str))=false)
  (d:Gl X "isinstance") (F:X.mg "isinstance" = none) (J:PE X a (tE X.K W (r.ev a'))) (o:∀es,starEach (a::es) X.env=(false,eval a X.env)::starEach es X.env) :
  PE X (.Call (.Name "isinstance" B) [a,.Name c p2] [] pos) (tE X.K W (Jk C r (.Yw a' t))):=by
 have G:CallR X (.builtin "isinstance") (λxs H Q=>∃x ρ g u k,xs=[x,.ty (tyName t)]/\RH X.K ρ H g/\RV X.K ρ H u x/\Ay t u g=some k/\Q (.bl k) H):=by
  intro Y s O H xs S Q I rs ⟨x,ρ,g,u,k,e,d,j,f,q⟩;subst e;cases rs with
  |cons A rs=>
   cases rs with
   |cons z rs=>
    cases rs;cases z;exact aa2 I d j A L f q
 refine(pe_callB G d F #[2] (aw J (aw (k9 (v:=.ty (tyName t)) y w N rfl E M) aQ rfl) (o _)) #[1] #[1] (o _) rfl).imp λO H Q D=>?_
 refine one D λR ρ H g u x o d j p=>?_;cases f:Ay t u g with
 |none=>simp![f]at p;exact p.elim
 |some k=>simp![f]at p;exact⟨x,ρ,g,u,k,rfl,d,j,f,okE p d rfl⟩
def df{x:V}(f:RH X.K ρ H g)(e:RV X.K ρ H (.ref n) x)(h:g[n]?=some (.Z5 S)):∃q vs,x=.ref q/\ρ[n]?=some q/\H q=some (.Z5 vs)/\RVs X.K ρ H S vs:=by
 let⟨q,rfl,b⟩:=e;let⟨i,vs,a,d,c⟩:=f.Z5 h;rw[b]at a;cases a;exact⟨q,vs,rfl,b,d,c⟩
def gq{x:U}(e:Jf x g=some n):x=.ref n /\∃S,g[n]?=some (.Z5 S):=by
 cases x<;>simp![Jf,reduceCtorEq]at e
 rename_i m;cases eg:g[m]? with
 |none=>simp[eg]at e
 |some o=>
  cases o with
  |Z5 S=>simp![eg,YY]at e;subst e;exact⟨rfl,S,eg⟩
  |ZG _=>simp[eg]at e
  |YD _=>simp[eg]at e
  |dst _=>simp[eg]at e
  |ins _ _=>simp[eg]at e
def gZ{o:Expr}{e:String}{h:V->List V->Hp->VK->Prop}{f:Nat->U->G->Out U}(c:Slot "list" name e)(L:typeOf (.builtin e)=pure (.type "method_descriptor"))(s:MtR X e h)
  (imp:∀ρ H g n q y v Q,RH X.K ρ H g->ρ[n]?=some q->RV X.K ρ H y v->post X.K W (RV X.K) (f n y g) ρ H Q->h (.ref q) [v] H Q)
  (t:PE X o (tE X.K W (r.ev o'))) (B:PE X a (tE X.K W (r.ev a'))) (E:attributeBase o name X.env (eval o X.env)=eval o X.env) (I:(apos.endLine==Zq.line)=true)
  (b:∀ es,starEach (a :: es) X.env=(false,eval a X.env) :: starEach es X.env):PE X (.Call (.Attribute o name apos) [a] [] Zq) (tE X.K W (λO g=>(r.ev o' O g).bind λx g=>match Jf x g with
  |some n=>(r.ev a' O g).bind λy g=>f n y g
  |none=>.ZV)):=by
 refine(adB (T:="list") OI c L s t (aw B aQ (b _)) E (by rw[b];rfl) I (b _) rfl).imp ?_;rintro O H Q ⟨i,ρ,g,b,A,p⟩
 refine⟨i,ρ,g,b,A,(post.bind p).mono λx H1 ⟨D,u,g1,s1,h1,m,d⟩=>?_⟩;cases ea:Jf u g1 with
 |none=>simp![ea]at d;exact d.elim
 |some n=>
  simp![ea]at d;let⟨rfl,S,C⟩:=gq ea;let⟨q,j,rfl,z,k,M⟩:=df h1 m C;refine⟨.inl ⟨rfl,j,.of k⟩,i,D,g1,b.step s1,h1,(post.bind d).mono λy H2 ⟨J,w,g2,s2,h2,l,p2⟩=>?_⟩;exact imp J H2 g2 n q w y Q h2 (s2.ext _ _ z) l p2
def aL{q:Addr}(e:RH X.K ρ H g)(d:ρ[n]?=some q)(f:g[n]?=some (.Z5 S)):∃vs,H q=some (.Z5 vs)/\RVs X.K ρ H S vs:=by
 let⟨h,vs,a,c,b⟩:=e.Z5 f;rw[d]at a;cases a;exact⟨vs,c,b⟩
def ab6{o:Expr}(j:PE X o (tE X.K W (r.ev o')))(l:PE X a (tE X.K W (r.ev a')))(m:attributeBase o "append" X.env (eval o X.env)=eval o X.env)(s:(apos.endLine==Zq.line)=true)
  (i:∀es,starEach (a::es) X.env=(false,eval a X.env)::starEach es X.env):PE X (.Call (.Attribute o "append" apos) [a] [] Zq) (tE X.K W (Jk C r (.app o' a'))):=by
 refine gZ PySem.F.slot_list_append PySem.F.type_list_append jJ (λρ H g n q y v Q e c h p=>?_) j l m s i;simp![Bn]at p;cases eg:g[n]? with
 |none=>simp![eg]at p;exact p.elim
 |some o=>
  cases o with
  |Z5 S=>
   simp![eg]at p;let⟨f,b,d⟩:=aL e c eg;split at p
   .rename_i k
    exact⟨q,f,v,rfl,rfl,b,by rw[<-d.length,UP];unfold Ab at k;lia,p _ ρ _ (ZI.write c b) (e.write c b (d.append (.one h))) rfl⟩
   .exact p.elim
  |ZG _=>simp![eg]at p;exact p.elim
  |YD _=>simp![eg]at p;exact p.elim
  |dst _=>simp![eg]at p;exact p.elim
  |ins _ _=>simp![eg]at p;exact p.elim
def aaO{o:Expr}(t:PE X o (tE X.K W (r.ev o')))(w:PE X a (tE X.K W (r.ev a')))(x:attributeBase o "extend" X.env (eval o X.env)=eval o X.env)(z:(apos.endLine==Zq.line)=true)
  (s:∀es,starEach (a::es) X.env=(false,eval a X.env)::starEach es X.env):PE X (.Call (.Attribute o "extend" apos) [a] [] Zq) (tE X.K W (Jk C r (.ext o' a'))):=by
 refine gZ PySem.F.slot_list_extend PySem.F.type_list_extend wc (λρ H g n q y v Q d c k p=>?_) t w x z s;simp![BF]at p;cases ea:Jf y g with
 |none=>simp![ea]at p;exact p.elim
 |some m=>
  simp![ea]at p;let⟨rfl,zs,h⟩:=gq ea;let⟨l,ws,rfl,A,i,e⟩:=df d k h;cases eg:g[n]? with
  |none=>simp![eg]at p;exact p.elim
  |some o=>
   cases o with
   |Z5 S=>
    simp![eg,h]at p;let⟨j,b,f⟩:=aL d c eg;split at p
    .rename_i u
     exact⟨q,l,j,ws,rfl,rfl,b,i,by rw[<-f.length,<-e.length,UP];unfold Ab at u;lia,p _ ρ _ (ZI.write c b) (d.write c b (f.append e)) rfl⟩
    .exact p.elim
   |ZG _=>simp![eg]at p;exact p.elim
   |YD _=>simp![eg]at p;exact p.elim
   |dst _=>simp![eg]at p;exact p.elim
   |ins _ _=>simp![eg]at p;exact p.elim
def acC{o:Expr}(l:PE X o (tE X.K W (r.ev o')))(m:attributeBase o "pop" X.env (eval o X.env)=eval o X.env)(s:(apos.endLine==Zq.line)=true):
  PE X (.Call (.Attribute o "pop" apos) [] [] Zq) (tE X.K W (Jk C r (.pop o'))):=by
 refine(aa3 (T:="list") OI PySem.F.slot_list_pop PySem.F.type_list_pop aaD l m s).imp λO H Q k=>one k λt ρ H g u x hs f j p=>?_;cases ea:Jf u g with
 |none=>simp![ea]at p;exact p.elim
 |some n=>
  simp![ea]at p;let⟨rfl,S,h⟩:=gq ea;let⟨q,e,rfl,c,a,b⟩:=df f j h;refine⟨.inl ⟨rfl,e,.of a⟩,?_⟩;simp![Br,h]at p;cases d:S[S.length-1]? with
  |none=>simp![d]at p;exact p.elim
  |some y=>
   simp![d]at p;let⟨v,ev,i⟩:=b.get d;exact⟨q,e,v,rfl,rfl,a,by rw[<-b.length];exact ev,p _ ρ _ (ZI.write c a) (f.write c a b.dropLast) (RV.step (ZI.write c a) _ _ i)⟩
def ac9{i:Int}(a:0<=i)(h:i.toNat<n):seqIndex? i n=some i.toNat:=by
 unfold seqIndex?;have h1 : ¬ i<0:=by lia
 have h2:(decide (0<=i)&&decide (i<n))=true:=by rw[Td a,Td (by lia)];rfl
 simp![h1,Vb,h2,Tj]
def yL{o:Expr}(B:PE X o (tE X.K W (r.ev o')))(D:PE X a (tE X.K W (r.ev a')))(G:attributeBase o "pop" X.env (eval o X.env)=eval o X.env)(I:(apos.endLine==Zq.line)=true)
  (A:∀es,starEach (a::es) X.env=(false,eval a X.env)::starEach es X.env):PE X (.Call (.Attribute o "pop" apos) [a] [] Zq) (tE X.K W (Jk C r (.VI o' a'))):=by
 refine gZ PySem.F.slot_list_pop PySem.F.type_list_pop wG (λρ H g n q y v Q t d w p=>?_) B D G I A;unfold Bz at p;cases y with
 |int i=>
  cases eg:g[n]? with
  |none=>simp![eg]at p;exact p.elim
  |some o=>
   cases o with
   |Z5 S=>
    simp![eg]at p;by_cases hi:0<=i/\i<9223372036854775808
    .rw [YE hi]at p
     let⟨k,c,f⟩:=aL t d eg;cases j:S[i.toNat]? with
     |none=>simp![j]at p;exact p.elim
     |some y=>
      simp![j]at p;let⟨u,ev,z⟩:=f.get j;cases w;have E:i.toNat<k.length:=(Ye.mp ev).1;refine⟨q,k,i,i.toNat,u,rfl,rfl,c,Int.le_trans #[1] hi.1,hi.2,?_,ev,p _ ρ _ (ZI.write d c) (t.write d c (by rw[T1,T1];exact(f.take _).append (f.drop _))) (RV.step (ZI.write d c) _ _ z)⟩
      exact ac9 hi.1 E
    .rw [Yn hi]at p;exact p.elim
   |ZG _=>simp![eg]at p;exact p.elim
   |YD _=>simp![eg]at p;exact p.elim
   |dst _=>simp![eg]at p;exact p.elim
   |ins _ _=>simp![eg]at p;exact p.elim
 |_=>exact p.elim
end
section
variable(K:Hu)
inductive tG(t:Tg)(v:V)(O:L2.St)(H:Hp)(Q:L2.St->Hp->Prop):Prop
 |mk (ZZ:Su) (ρ:List Addr) (g:G) (u:U) (XA:Su) (hs:RS K ρ H ZZ O) (hg:RH K ρ H g) (r:RV K ρ H u v) (e:Af t (Ji t u g) ZZ=some XA) (q:∀ZT,RS K ρ H XA ZT->Q ZT H)
inductive TK(is:List Nat)(vs:List V)(O:L2.St)(H:Hp)(Q:L2.St->Hp->Prop):Prop
 |mk (ZZ:Su) (ρ:List Addr) (S:List U) (XA:Su) (hs:RS K ρ H ZZ O) (r:RVs K ρ H S vs) (e:bindL is S ZZ=some XA) (q:∀ZT,RS K ρ H XA ZT->Q ZT H)
def RI(ρ:List Addr)(H:Hp)(i:Iter)(c:It):Prop:=match i with
 |.Z5 n=>∃a,ρ[n]?=some a/\c=Itl K a
 |.W7 n=>∃a,ρ[n]?=some a/\c=Ite K a
 |.zip n m=>∃a b,ρ[n]?=some a/\ρ[m]?=some b/\c=Itz K a b
 |.seq S=>∃a d,(SqU K H a d\/SqC K a d)/\RVs K ρ H S d/\c=Itt K a
 |.YU lo n=>c=Itr lo n
abbrev tI(W:XQ)(f:Su->G->Out Iter):TI:=tR K W (RI K) f
end
def RI.step{K:Hu}{ρ d:List Addr}{H f:Hp}{i:Iter}{e:It}(s:ZI K ρ H d f)(h:RI K ρ H i e):RI K d f i e:=by
 cases i with
 |Z5 n=>let⟨a,h1,h2⟩:=h;exact⟨a,s.ext _ _ h1,h2⟩
 |W7 n=>let⟨a,h1,h2⟩:=h;exact⟨a,s.ext _ _ h1,h2⟩
 |zip n m=>let⟨a,b,h1,h2,c⟩:=h;exact⟨a,b,s.ext _ _ h1,s.ext _ _ h2,c⟩
 |seq S=>let⟨a,g,h1,h2,c⟩:=h;exact⟨a,g,h1.imp_left (s.ZY _ _),RVs.step s _ _ h2,c⟩
 |YU lo n=>exact h
section
variable{W:XQ}{a b c:Expr}{a' b' c':E}{t:Tg}
def jz{t:Tg}{O a:Su}(h:Af t u O=some a):Af t (Ji t u g) O=some a:=by
 cases t with
 |nm i=>exact h
 |tp is=>
  cases u with
  |ref n=>simp[Af]at h
  |_=>exact h
def G8(K:Hu)(n:Nat)(t:Wn):TG:=λv O H Q=>∃a xs,v=.ref a/\SqL K H a xs/\xs.length=n/\t xs O H Q
def zX{k:Nat}{t:Wn}(w:X.calm=true)(h:PGs X es t)
  (p:(assignEach es X.env).length=n) (z:(assignEach es X.env).findIdx? (·.1)=none):PG X (.Tuple es k pos) (G8 X.K n t):=by
 intro Y s O H v u Q I r f;let⟨a,xs,y,l,q,f⟩:=f;subst y;cases r;let⟨ZU,g,⟨o,m,e,A,i,d⟩,C⟩:=I.list l;have x:s.heap.IsList a ZU.toArray:=⟨o,e,A,m,d⟩;rw[assign_Tuple];refine ZB (Ss ?_);unfold unpack;have c:(assignEach es X.env).length=ZU.toArray.size:=by simp[p,<-q,g.length]
 rw[c,z];refine ZB (Vt (PySem.W.kun_itemsOf (I.ok.hd w) x λh' j=>?_));have B:Z0 X Y O H {s with heap:=h'}:=I.kept (t':=s.toks) λb o e=>j b o (Hn (Hh e)) e
 exact h Y _ O H xs _ Q B (by simpa using g) f
def ac7(d:X.N.Nodup)(hi:X.N[i]?=some x)(b:Loc X.env.scope x)(c:X.fn x=true\/X.env.scope.names.lookup x=some .local):PG X (.Name x pos) (tG X.K (.nm i)):=by
 intro Y s O H v u Q I a ⟨j,ρ,g,w,k,hs,h,f,e,q⟩;refine lb d hi b c Y s O H v u Q I a ?_;simp![Ji,Af]at e;split at e
 .cases e;exact q _ (hs.set f)
 .cases e
def sgs_nil:PGs X [] (TK X.K []):=by
 intro Y s O H a S Q I b ⟨d,ρ,ws,f,hs,c,e,q⟩;refine yB Y s O H a S Q I b ?_;cases ws with
 |nil=>cases c;cases e;exact⟨rfl,q _ hs⟩
 |cons _ _=>cases e
def xb{is:List Nat}(k:X.N.Nodup)(hi:X.N[i]?=some x)(g:Loc X.env.scope x)(j:X.fn x=true\/X.env.scope.names.lookup x=some .local)(h:PGs X ts (TK X.K is)):PGs X (.Name x pos::ts) (TK X.K (i::is)):=by
 intro Y s O H a S Q I c ⟨n,ρ,ws,m,hs,l,e,q⟩;refine wM (lb k hi g j) h rfl Y s O H a S Q I c ?_;cases ws with
 |nil=>cases e
 |cons w ws=>
  let⟨v,b,rfl,f,d⟩:=l;simp![bindL]at e;split at e
  .exact ⟨v,b,rfl,_,ρ,ws,m,hs.set f,d,e,q⟩
  .cases e
def fJ:∀{is:List Nat} {S:List U} {O ZT:Su},bindL is S O=some ZT->S.length=is.length
 |[],[],_,_,_=>rfl
 |_::is,_::S,_,_,e=>by
  simp![bindL]at e;split at e
  .simp [fJ e]
  .cases e
 |[],_::_,_,_,e=>by simp[bindL]at e
 |_::_,[],_,_,e=>by simp[bindL]at e
def adl{is:List Nat}{k:Nat}(l:X.calm=true)(h:PGs X ts (TK X.K is))(j:(assignEach ts X.env).length=is.length)(m:(assignEach ts X.env).findIdx? (·.1)=none):PG X (.Tuple ts k pos) (tG X.K (.tp is)):=by
 intro Y s O H v u Q I i ⟨c,ρ,g,w,d,hs,t,p,e,q⟩;cases w with
 |ZY S=>
  refine ab5 l h j m Y s O H v u Q I i ?_;let⟨a,f,rfl,h1,h2⟩:=p;have e':bindL is S c=some d:=e;exact⟨a,f,rfl,h1.sq,by rw[<-h2.length];exact fJ e',c,ρ,S,d,hs,h2,e',q⟩
 |ref n=>
  simp![Ji]at e;cases eg:g[n]? with
  |none=>simp[eg,Af]at e
  |some o=>
   cases o with
   |Z5 xs=>
    refine zX l h j m Y s O H v u Q I i ?_;let⟨a,f,r,x,h2⟩:=t.Z5 eg;let⟨a',rfl,b⟩:=p;rw[r]at b;cases b;have e':bindL is xs c=some d:=by simpa[eg,Af]using e
    exact⟨a,f,rfl,.of x,by rw[<-h2.length];exact fJ e',c,ρ,xs,d,hs,h2,e',q⟩
   |_=>simp[eg,Af]at e
 |_=>simp[Ji,Af]at e
def abG{l:Expr}{j:E}(C:PE X l (tE X.K W (r.ev j))):PI X tg l (tI X.K W (λO g=>(r.ev j O g).bind λu g=>match u with
  |.ZY xs=>Out.ok (Iter.seq xs) g
  |.xn _ xs=>Out.ok (Iter.seq xs) g
  |.ref n=>match g[n]? with
   |some (.Z5 _)=>.ok (.Z5 n) g
   |_=>.ZV
  |_=>.ZV)):=by
 intro Y s O H R I A;have D:tE X.K W (r.ev j) O H (λx H1=>(∃a,x=.ref a/\(∃xs,SqL X.K H1 a xs)/\R (Itl X.K a) H1)\/(∃a,x=.ref a/\(∃xs,SqT X.K H1 a xs)/\R (Itt X.K a) H1)):=by
  refine one (R:=RI X.K) A λG ρ H g u x hs i h p=>?_;cases u with
  |ZY S=>let⟨a,f,rfl,h1,h2⟩:=h;exact .inr ⟨a,rfl,⟨f,h1.sq⟩,post.YC (R:=RI X.K) p i ⟨a,f,.inl h1,h2,rfl⟩⟩
  |xn _ S=>let⟨a,f,rfl,h1,h2⟩:=h;exact .inr ⟨a,rfl,⟨f,h1.sq⟩,post.YC (R:=RI X.K) p i ⟨a,f,.inr h1,h2,rfl⟩⟩
  |ref n=>
   simp![]at p;cases eg:g[n]? with
   |none=>simp![eg]at p;exact p.elim
   |some o=>
    cases o with
    |Z5 S=>
     simp![eg]at p;let⟨q,f,rfl,B,t,F⟩:=df i h eg;exact .inl ⟨q,rfl,⟨f,.of t⟩,post.YC (R:=RI X.K) p i ⟨q,B,rfl⟩⟩
    |ZG _=>simp![eg]at p;exact p.elim
    |YD _=>simp![eg]at p;exact p.elim
    |dst _=>simp![eg]at p;exact p.elim
    |ins _ _=>simp![eg]at p;exact p.elim
  |_=>exact p.elim
 refine thn (C Y s O H _ I D) ?_;rintro v c ⟨x,H1,d,h,y⟩;rcases y with⟨a,e,⟨xs,k⟩,q⟩|⟨a,e,⟨xs,k⟩,q⟩
 .subst e
  cases h;let⟨ZU,w,p,z⟩:=d.list k;refine wpAny_pyIter_list p.isList ?_;refine⟨c.heap.objs.size,[c.heap.objs.size],_,_,H1,rfl,d.kept (t':=c.toks) λb o e=>Hg _ e,vP a _,⟨_,Ho _ rfl,rfl,rfl⟩,λb m=>?_,q⟩;have e:b=c.heap.objs.size:=by simpa using m
  subst e;exact d.SO (Hk _) (d.ZK.fresh (Hk _))
 .subst e
  cases h;let⟨ZU,w,p,z⟩:=d.tuple k;refine wpAny_pyIter_tuple (show c.heap.IsTuple a ZU.toArray from p) ?_;refine⟨c.heap.objs.size,[c.heap.objs.size],_,_,H1,rfl,d.kept (t':=c.toks) λb o e=>Hg _ e,uK a _,⟨_,Ho _ rfl,rfl,rfl⟩,λb m=>?_,q⟩;have e:b=c.heap.objs.size:=by simpa using m
  subst e;exact d.SO (Hk _) (d.ZK.fresh (Hk _))
def PI.imp{a:Expr}{t t':TI}(h:PI X tg a t)(q:∀O H Q,t' O H Q->t O H Q):PI X tg a t':=λY s O H Q I h'=>h Y s O H Q I (q O H Q h')
def zi{p:Pos}(c:Gl X "range")(f:X.mg "range" = none)(h:PE X a (tE X.K W (r.ev a')))(b:∀es,starEach (a::es) X.env=(false,eval a X.env)::starEach es X.env):
  PI X tg (.Call (.Name "range" p) [a] [] pos) (tI X.K W (Jj r (.X3 a'))):=by
 refine PI.imp (vo c f (aw h aQ (b _)) (b _)) λO H R e=>one (R:=RI X.K) e λk ρ H g u x b c d p=>?_;cases u with
 |int j=>
  cases d;simp![]at p;split at p
  .rename_i i
   exact⟨j,rfl,by lia,by lia,post.YC (R:=RI X.K) p c rfl⟩
  .exact p.elim
 |_=>exact p.elim
def yJ{p:Pos}(d:Gl X "range")(l:X.mg "range" = none)(n:PE X a (tE X.K W (r.ev a')))(m:PE X b (tE X.K W (r.ev b')))(c:∀es,starEach (a::es) X.env=(false,eval a X.env)::starEach es X.env)
  (e:∀es,starEach (b::es) X.env=(false,eval b X.env)::starEach es X.env):PI X tg (.Call (.Name "range" p) [a,b] [] pos) (tI X.K W (Jj r (.WI a' b'))):=by
 refine PI.imp (vt d l (aw n (aw m aQ (e _)) (c _)) (by rw[c,e];rfl) (e _)) λO H R k=>two (R:=RI X.K) k λo ρ H g u w x y c d h f p=>?_
 cases u with
 |int i=>
  cases w with
  |int j=>
   cases h;cases f;simp![]at p;split at p
   .exact ⟨i,j,rfl,by omega,post.YC (R:=RI X.K) p d rfl⟩
   .exact p.elim
  |_=>exact p.elim
 |_=>cases w<;>exact p.elim
def l5{r:It}(k:RH X.K ρ H g)(j:RI X.K ρ H it r)(e:next it i g=some none):r.stop i H:=by
 cases it with
 |Z5 n=>
  let⟨a,h1,rfl⟩:=j;simp![next]at e;cases eg:g[n]? with
  |none=>simp[eg]at e
  |some o=>
   cases o with
   |Z5 S=>
    simp![eg,YY]at e;let⟨c,f,d⟩:=aL k h1 eg;exact⟨c,.of f,Uw.mp (d.none_of e)⟩
   |ZG _=>simp[eg]at e
   |YD _=>simp[eg]at e
   |dst _=>simp[eg]at e
   |ins _ _=>simp[eg]at e
 |W7 n=>
  let⟨a,h1,rfl⟩:=j;simp![next]at e;cases eg:g[n]? with
  |none=>simp[eg]at e
  |some o=>
   cases o with
   |Z5 S=>
    simp![eg,YY,OU]at e;let⟨c,f,d⟩:=aL k h1 eg;exact⟨c,.of f,Uw.mp (d.none_of e)⟩
   |_=>simp[eg]at e
 |zip n m=>
  let⟨a,b,h1,h2,rfl⟩:=j;simp![next]at e;cases eg:g[n]? with
  |none=>simp[eg]at e
  |some o=>
   cases o with
   |Z5 S=>
    cases l:g[m]? with
    |none=>simp[eg,l]at e
    |some o'=>
     cases o' with
     |Z5 t=>
      simp![eg,l,YY]at e;let⟨c,f,d⟩:=aL k h1 eg;let⟨s,q,p⟩:=aL k h2 l;refine⟨c,s,.of f,.of q,?_⟩;cases ex:S[i]? with
      |none=>exact .inl (Uw.mp (d.none_of ex))
      |some z=>
       rw[ex,Qr,OU]at e;exact .inr (Uw.mp (p.none_of e))
     |_=>simp[eg,l]at e
   |_=>simp[eg]at e
 |seq S=>
  let⟨a,c,h1,h2,rfl⟩:=j;simp![next,YY]at e;exact⟨c,h1.elim SqU.sq SqC.sq,Uw.mp (h2.none_of e)⟩
 |YU lo n=>
  cases j;simp![next,YY]at e;split at e
  .cases e
  .rename_i h;exact Nat.le_of_not_lt h
def sE{I:It}(l:RH X.K ρ H g)(y:RI X.K ρ H it I)(e:next it i g=some (some u)):I.go i H /\∀x H',I.yld i H x H'->ZI X.K ρ H ρ H'/\RH X.K ρ H' g/\RV X.K ρ H' u x:=by
 have d:∀{x:V} {H':Hp},H'=H->RV X.K ρ H u x->ZI X.K ρ H ρ H'/\RH X.K ρ H' g/\RV X.K ρ H' u x:=λe r=>by subst e;exact⟨.refl,l,r⟩
 cases it with
 |Z5 n=>
  let⟨a,h1,rfl⟩:=y;simp![next]at e;cases eg:g[n]? with
  |none=>simp[eg]at e
  |some o=>
   cases o with
   |Z5 S=>
    simp![eg,YY]at e;let⟨c,j,s⟩:=aL l h1 eg;let⟨v,f,k⟩:=s.get e;refine⟨⟨c,v,.of j,f⟩,λx H' ⟨h1,h2⟩=>d h1 ?_⟩;have:=h2 c (.of j);rw[f]at this;cases this;exact k
   |ZG _=>simp[eg]at e
   |YD _=>simp[eg]at e
   |dst _=>simp[eg]at e
   |ins _ _=>simp[eg]at e
 |W7 n=>
  let⟨a,h1,rfl⟩:=y;simp![next]at e;cases eg:g[n]? with
  |none=>simp[eg]at e
  |some o=>
   cases o with
   |Z5 S=>
    simp![eg,YY]at e;let⟨w,G,F⟩:=XB.mp e;let⟨c,j,s⟩:=aL l h1 eg;let⟨v,f,k⟩:=s.get G;refine⟨⟨c,v,.of j,f⟩,λx H' ⟨p,q,hp,ex,E,all⟩=>?_⟩;have:=all c (.of j);rw[f]at this;cases this;subst ex;subst E;subst F;have sp:ZI X.K ρ H ρ (upd H p (.ZY [.int i,v])):=ZI.fresh hp;exact⟨sp,l.step_fresh hp,p,[.int i,v],rfl,upd_same,.int i,[v],rfl,rfl,v,[],rfl,RV.step sp _ _ k,rfl⟩
   |_=>simp[eg]at e
 |zip n m=>
  let⟨a,b,h1,h2,rfl⟩:=y;simp![next]at e;cases eg:g[n]? with
  |none=>simp[eg]at e
  |some o=>
   cases o with
   |Z5 S=>
    cases C:g[m]? with
    |none=>simp[eg,C]at e
    |some o'=>
     cases o' with
     |Z5 T=>
      simp![eg,C,YY]at e;let⟨w,G,e⟩:=Vd.mp e;let⟨R,O,F⟩:=XB.mp e;let⟨c,j,s⟩:=aL l h1 eg;let⟨M,t,D⟩:=aL l h2 C;let⟨v,f,k⟩:=s.get G;let⟨q,A,P⟩:=D.get O;refine⟨⟨c,M,v,q,.of j,.of t,f,A⟩,λx H' ⟨p,z,Q,hp,ex,E,all,B⟩=>?_⟩;have L:=all c (.of j);have J:=B M (.of t);rw[f]at L;cases L;rw[A]at J;cases J;subst ex;subst E;subst F;have sp:ZI X.K ρ H ρ (upd H p (.ZY [v,q])):=ZI.fresh hp;exact⟨sp,l.step_fresh hp,p,[v,q],rfl,upd_same,v,[q],rfl,RV.step sp _ _ k,q,[],rfl,RV.step sp _ _ P,rfl⟩
     |_=>simp[eg,C]at e
   |_=>simp[eg]at e
 |seq S=>
  let⟨a,c,h1,h2,rfl⟩:=y;simp![next,YY]at e;let⟨v,f,k⟩:=h2.get e;have N:SqT X.K H a c:=h1.elim SqU.sq SqC.sq;refine⟨⟨c,v,N,f⟩,λx H' ⟨h3,h4⟩=>d h3 ?_⟩;have:=h4 c N;rw[f]at this;cases this;exact k
 |YU lo n=>
  cases y;simp![next,YY]at e;split at e
  .rename_i h
   cases e;exact⟨h,λx H' ⟨h1,h2⟩=>d h1 h2⟩
  .cases e
variable{st:Stmt}{ZR:List Stmt}{s':Z6}{Zz:List Z6}
def pZ:PSs X [] (Zw X.K W (Jo r [])):=cQ.imp λD O H ⟨b,ρ,g,hs,a,p⟩=>p O ρ H .refl a hs
def mj(i:PS X st (Zw X.K W (Jn r s')))(b:PSs X ZR (Zw X.K W (r.ex Zz))):PSs X (st::ZR) (Zw X.K W (Jo r (s'::Zz))):=by
 refine(dX i b).imp λD O H ⟨d,ρ,g,hs,h,p⟩=>⟨d,ρ,g,hs,h,?_⟩;revert p;simp![Jo];cases Jn r s' d g with
 |ok f g1=>
  cases f with
  |nx a=>exactλp l k H2 e b j=>⟨a,k,g1,j,b,Jt.from (o:=r.ex Zz a g1) p e⟩
  |rt u=>exactλp=>p
  |bk a=>exactλp=>p
  |ct a=>exactλp=>p
 |exc c fs g1=>exactλp=>p
 |ZV=>exactλp=>p
def fc{f:Su->G->Out U}{k:Su->U->G->Out Fl}{O:L2.St}{H:Hp}{D:Ends}{c:V->Hp->Prop}
  (h:Zw X.K W (λa g=>(f a g).bind λx g=>k a x g) D O H)
  (b:∀a ρ H g u x,RS X.K ρ H a O->RH X.K ρ H g->RV X.K ρ H u x->Jt X.K W (k a u g) ρ H D->c x H):tE X.K W f O H c:=by
 let⟨a,ρ,g,hs,i,p⟩:=h;exact⟨a,ρ,g,hs,i,(Jt.bind p).mono λx H1 ⟨j,u,g1,s1,h1,d,e⟩=>b a j H1 g1 u x (hs.step s1) h1 d e⟩
def aaP(h:PE X e (tE X.K W (r.ev e'))):PS X (.Return (some e) pos) (Zw X.K W (Jn r (.ret e'))):=
 (acG h).imp λD O H b=>fc b λd ρ H g u x hs c a p=>p x ρ H .refl c a
def abD(h:PE X e (tE X.K W (r.ev e')))(a:swapsWith e none pos.line X.env=pure false):PS X (.Expr e pos) (Zw X.K W (Jn r (.exp e'))):=
 (zZ h a).imp λD O H b=>fc b λf ρ H g u x a c d p=>p _ ρ H .refl c a
def acs{a:Su}{O:L2.St}{D:Ends}(d:RS X.K ρ H a O)(b:RH X.K ρ H g)(c:RV X.K ρ H u v)(p:Jt X.K W (match Af t (Ji t u g) a with|some ZT=>Out.ok (.nx ZT) g|none=>.ZV) ρ H D):tG X.K t v O H D.nx:=by
 cases e:Af t (Ji t u g) a with
 |none=>simp![e]at p;exact p.elim
 |some f=>simp![e]at p;exact⟨a,ρ,g,u,f,d,b,c,e,λZT h=>p ZT ρ H .refl b h⟩
def abO(h:PE X e (tE X.K W (r.ev e')))(b:PG X tg (tG X.K t))(a:swapsWithSole [tg] e pos.line X.env=pure false)(d:swappedStores [tg] e X.env=pure none)(i:(assignEach [tg] X.env).map (·.2)=[assign tg X.env]):
  PS X (.Assign [tg] e pos) (Zw X.K W (Jn r (.set t e'))):=
 (my h b a d i).imp λD O H f=>fc f λj ρ H g u x a b c p=>acs a b c p
def mQ{a:Pos}(m:X.N.Nodup)(hi:X.N[i]?=some x)(f:Loc X.env.scope x)(l:X.fn x=true\/X.env.scope.names.lookup x=some .local)(h:PE X e (tE X.K W (r.ev e')))(b:swapsWith e (some (.Name x a)) pos.line X.env=pure false):
  PS X (.Assign [.Name x a] e pos) (Zw X.K W (Jn r (.set (.nm i) e'))):=
 (mX m hi f h b l).imp λD O H j=>fc j λn ρ H g u x b k d p=>by
  simp![Ji,Af]at p;by_cases c:i<n.length
  .rw [YE c]at p;exact p _ ρ H .refl k (b.set d)
  .rw [Yn c]at p;exact p.elim
def aaU{o i:Expr}{i':E}{WM:Pos}(hu:X.A.units+1<cLine)(h:PE X e (tE X.K W (r.ev e')))(ho:PE X o (tE X.K W (r.ev o')))(hi:PE X i (tE X.K W (r.ev i')))(hs:swapsWithSole [.Subscript o i WM] e pos.line X.env=pure false)(hw:swappedStores [.Subscript o i WM] e X.env=pure none)
  (ha:∀ v,assign (.Subscript o i WM) X.env v=(do
   let ov<-holding [v] (eval o X.env)
   let iv<-holding [v,ov] (eval i X.env)
   standAt WM
   holding [v,ov,iv] (setItem ov iv v)
   release [v,ov,iv] [])):PS X (.Assign [.Subscript o i WM] e pos) (Zw X.K W (Jn r (.sub o' i' e'))):=by
 refine(my h (abt ho hi (yf set_list (set_dict hu)) ha) hs hw rfl).imp ?_;rintro D O H ⟨ZZ,ρ,g,hs,hg,p⟩;refine⟨ZZ,ρ,g,hs,hg,(Jt.bind p).mono λv H1 ⟨ZM,u,g1,s1,h1,r1,p1⟩=>?_⟩;refine⟨ZZ,ZM,g1,hs.step s1,h1,(Jt.bind p1).mono λw H2 ⟨Y1,u2,g2,s2,h2,r2,p2⟩=>?_⟩;refine⟨ZZ,Y1,g2,(hs.step s1).step s2,h2,(Jt.bind p2).mono λz H3 ⟨TM,u3,g3,s3,h3,r3,p3⟩=>?_⟩;cases u2 with
 |ref n=>
  cases u3 with
  |int k=>
   cases r3;simp![subAt,DI]at p3;cases eg:g3[n]? with
   |none=>simp![eg]at p3;exact p3.elim
   |some ob=>
    cases ob with
    |Z5 S=>
     simp![eg]at p3;let⟨q,vs,rfl,hn,t2,t3⟩:=df h3 (RV.step s3 _ _ r2) eg;cases ej:ixN S.length k with
     |none=>simp![ej]at p3;exact p3.elim
     |some j=>
      simp![ej]at p3;have rv:=RV.step s3 _ _ (RV.step s2 _ _ r1);exact .inl ⟨q,vs,k,j,rfl,rfl,t2,by rw[<-t3.length];exact ej,p3 _ TM _ (ZI.write hn t2) (h3.write hn t2 (t3.set rv j)) ((((hs.step s1).step s2).step s3).step (ZI.write hn t2))⟩
    |ZG _=>simp![eg]at p3;exact p3.elim
    |YD _=>simp![eg]at p3;exact p3.elim
    |dst _=>simp![eg]at p3;exact p3.elim
    |ins _ _=>simp![eg]at p3;exact p3.elim
  |ZY S=>
   simp![subAt,DQ]at p3;cases eg:g3[n]? with
   |none=>simp![eg]at p3;exact p3.elim
   |some ob=>
    cases ob with
    |ZG Z4=>
     simp![eg]at p3;cases ek:intsOf S with
     |none=>simp![ek]at p3;exact p3.elim
     |some k=>
      simp![ek]at p3;by_cases hl:Z4.length<Ab
      .rw [YE hl]at p3
       let⟨q,ws,hn,ha,rd⟩:=h3.ZG eg;let⟨q',rfl,Zj⟩:=RV.step s3 _ _ r2;rw[hn]at Zj;cases Zj;let⟨b,rfl,hb⟩:=eT (x:=.ZY S) (k:=k) ek r3;have rv:=RV.step s3 _ _ (RV.step s2 _ _ r1);refine .inr ⟨q,_,rfl,DPut.t ha hb ?_,p3 _ TM _ (ZI.XD hn ha trivial) (h3.XD hn ha trivial ⟨_,rfl,rd.put rv⟩) ((((hs.step s1).step s2).step s3).step (ZI.XD hn ha trivial))⟩;rw[<-rd.len,UP];unfold Ab at hl;lia
      .rw [Yn hl]at p3;exact p3.elim
    |Z5 _=>simp![eg]at p3;exact p3.elim
    |YD _=>simp![eg]at p3;exact p3.elim
    |dst _=>simp![eg]at p3;exact p3.elim
    |ins _ _=>simp![eg]at p3;exact p3.elim
  |str k=>
   simp![subAt,F5]at p3;cases eg:g3[n]? with
   |none=>simp![eg]at p3;exact p3.elim
   |some ob=>
    cases ob with
    |dst Z4=>
     simp![eg]at p3;by_cases hl:Z4.length<Ab
     .rw [YE hl]at p3
      let⟨q,ws,hn,ha,rk⟩:=h3.dst eg;let⟨q',rfl,Zj⟩:=RV.step s3 _ _ r2;rw[hn]at Zj;cases Zj;cases r3;have rv:=RV.step s3 _ _ (RV.step s2 _ _ r1);refine .inr ⟨q,_,rfl,DPut.k (k:=Sum.inr k) ha ?_,p3 _ TM _ (ZI.XD hn ha trivial) (h3.XD hn ha trivial ⟨_,rfl,rk.put rv⟩) ((((hs.step s1).step s2).step s3).step (ZI.XD hn ha trivial))⟩;rw[<-rk.len,UP];unfold Ab at hl;lia
     .rw [Yn hl]at p3;exact p3.elim
    |_=>simp![eg]at p3;exact p3.elim
  |_=>exact False.elim p3
 |_=>exact False.elim p3
def adq{as bs:List Stmt}{f e:List Z6}(i:PT X c (tT X.K W (r.ts c')))(l:PSs X as (Zw X.K W (r.ex f)))(j:PSs X bs (Zw X.K W (r.ex e))):PS X (.If c as bs pos) (Zw X.K W (Jn r (.Zv c' f e))):=by
 refine(qO i l j).imp ?_;rintro D O H ⟨a,ρ,g,hs,h,p⟩;refine⟨a,ρ,g,hs,h,(Jt.bind (R:=Yb) p).mono λk H1 ⟨d,k',g1,s1,h1,m,b⟩=>?_⟩;subst m;cases k' with
 |true=>exact aX ⟨a,d,g1,hs.step s1,h1,b⟩
 |false=>exact aY ⟨a,d,g1,hs.step s1,h1,b⟩
def qS{o:Out Fl}{k:Su->G->Out Fl}{D:Ends}{N:L2.St->Hp->Prop}
  (p:Jt X.K W (o.bind λf g=>match f with|.nx ZT=>k ZT g|.ct ZT=>k ZT g|.bk ZT=>.ok (.nx ZT) g|.rt u=>.ok (.rt u) g) ρ H D)
  (b:∀a d O ZO H',ZI X.K ρ H ZO H'->RH X.K ZO H' d->RS X.K ZO H' a O->Jt X.K W (k a d) ZO H' D->N O H'):Jt X.K W o ρ H {D with nx:=N,ct:=N,bk:=D.nx}:=by
 cases o with
 |ok f g=>
  cases f with
  |nx a=>exactλO ZO H' s h hs=>b a g O ZO H' s h hs (Jt.from (o:=k a g) p s)
  |ct a=>exactλO ZO H' s h hs=>b a g O ZO H' s h hs (Jt.from (o:=k a g) p s)
  |bk a=>exact p
  |rt u=>exact p
 |exc c fs g=>exact p
 |ZV=>exact p
def acf{bs:List Stmt}{a:List Z6}{n:Nat}(z:PassesOwn (model X.prog X.w) X.A X.env X.xe)(J:∀n,PT X c (tT X.K W ((Js C n).ts c')))(L:∀n,PSs X bs (Zw X.K W ((Js C n).ex a))):
  PS X (.While c bs [] pos) (Zw X.K W (Jn (Js C n) (.VH c' a))):=by
 intro Y s O H D I F;have o:∀m O H,Zw X.K W ((Js C m).wh c' a) D O H ->∃l,m=l+1:=λm O H ⟨q,ρ,g,_,_,p⟩=>by
  cases m with
  |zero=>exact p.elim
  |succ l=>exact⟨l,rfl⟩
 refine wpAny_While (codeAny_whileLoop (λn s'=>∃ZT H',L2.Z0 X Y ZT H' s'/\Zw X.K W ((Js C n).wh c' a) D ZT H') ?_ n ⟨O,H,I,F⟩);rintro n e ⟨d,H1,Q,u⟩;let⟨m,rfl⟩:=o n d H1 u;let⟨q,ρ,g,hs,G,p⟩:=u;refine Qk z (thn (J m Y e d H1 (λb H2=>if b=true then Zw X.K W ((Js C m).ex a) {D with nx:=λZT H'=>Zw X.K W ((Js C m).wh c' a) D ZT H',ct:=λZT H'=>Zw X.K W ((Js C m).wh c' a) D ZT H',bk:=D.nx} d H2 else D.nx d H2) Q ?_) λb x ⟨H2,E,i⟩=>?_)
 .refine ⟨q,ρ,g,hs,G,(Jt.bind (R:=Yb) p).mono λk H1 ⟨B,k',g1,e,h1,M,y⟩=>?_⟩
  subst M;cases k' with
  |true=>exact aX ⟨q,B,g1,hs.step e,h1,qS (k:=λZT g=>(Js C m).wh c' a ZT g) y λP g2 O ZO H' x h2 N p2=>⟨P,ZO,g2,N,h2,p2⟩⟩
  |false=>exact aY (y _ B _ .refl h1 (hs.step e))
 .cases b with
  |true=>
   rw[YE rfl]at i;rw[YE rfl];refine Qk z (thn (L m Y x d H2 _ E i) λf s3 h=>?_);cases f with
   |next=>
    let⟨r,H3,t,j⟩:=h;exact⟨m,QX _,r,H3,t,j⟩
   |cont=>
    let⟨r,H3,t,j⟩:=h;exact⟨m,QX _,r,H3,t,j⟩
   |brk=>exact h
   |ret v=>exact h
  |false=>
   rw[Yn Hj]at i;rw[Yn Hj];exact OW ⟨d,H2,E,i⟩
end
section
variable{YM:List Addr}{H0:Hp}{D:Addr}{o1 o2:HO}
def ZI.Vn(s:ZI K YM H0 ρ H)(f:H0 D=none)(c:H D=some o1)(b:Bh o1):ZI K YM H0 ρ (upd H D o2) where
 ext:=s.ext
 new:=s.new
 X4:=λa o h d=>by rw[aa (aD h f)];exact s.X4 a o h d
 live:=λa h=>by
  by_cases e:a=D
  .subst e;rw[upd_same];simp
  .rw [aa e];exact s.live a h
 ZY:=λa xs h=>aU (s.ZY a xs h) (.inr ⟨_,c,b⟩)
 Zy:=λa xs h=>aV (s.Zy a xs h) (.inr ⟨_,c,b⟩)
 Zm:=λa ob u h=>by rw[aa (cf (s.Zm a ob u h) c (by rintro rfl;exact b))];exact s.Zm a ob u h
def RV.Vn(b:H D=some o1)(a:Bh o1)(h:RV K ρ H u v):RV K ρ (upd H D o2) u v:=RV.mono (λ_ _ e=>e) (λ_ _ h=>aU h (.inr ⟨_,b,a⟩)) (λ_ _ h=>aV h (.inr ⟨_,b,a⟩)) u v h
def RVs.Vn(b:H D=some o1)(a:Bh o1){u:List U}{v:List V}(h:RVs K ρ H u v):RVs K ρ (upd H D o2) u v:=RVs.mono (λ_ _ e=>e) (λ_ _ h=>aU h (.inr ⟨_,b,a⟩)) (λ_ _ h=>aV h (.inr ⟨_,b,a⟩)) u v h
def RH.Vn(h:RH K ρ H g)(c:H D=some o1)(b:Bh o1)(f:D ∉ ρ):RH K ρ (upd H D o2) g where
 len:=h.len
 inj:=h.inj
 obj:=λn a o h1 h2=>by
  have q:=h.obj n a o h1 h2;have d:a≠D:=λe=>f (e ▸ TU.mpr ⟨n,h1⟩);let⟨ho,e,r⟩:=q;exact⟨ho,by rw[aa d];exact e,r.mono (λ_ _ e=>e) (λ_ _ h=>aU h (.inr ⟨_,c,b⟩)) (λ_ _ h=>aV h (.inr ⟨_,c,b⟩))⟩
def RH.named{p:Z9}(h:RH K ρ H g)(w:H D=some o1)(v:D ∉ ρ)(r:RHO K ρ H p o1):RH K (ρ++[D]) H (g++[p]):=by
 have t:∀(n:Nat) (a:Addr),ρ[n]?=some a->(ρ++[D])[n]?=some a:=λn a e=>by rw[X7 (Ye.mp e).1];exact e
 have c:∀k b,(ρ++[D])[k]?=some b->(k<ρ.length/\ρ[k]?=some b)\/(k=ρ.length/\b=D):=λk b e=>by
  by_cases hk:k<ρ.length
  .rw [X7 hk]at e;exact .inl ⟨hk,e⟩
  .rw [WC ()]at e
   cases hd:k-ρ.length with
   |zero=>rw[hd]at e;exact .inr ⟨by omega,by simpa using e.symm⟩
   |succ m=>rw[hd]at e;simp at e
 have l:∀k:Nat,ρ[k]? ≠ some D:=λk e=>v (TU.mpr ⟨k,e⟩);refine⟨by simp[h.len],λi j a h1 h2=>?_,λn a o h1 h2=>?_⟩
 .rcases c i a h1 with⟨_,f⟩|⟨f,s⟩
  .rcases c j a h2 with⟨_,d⟩|⟨d,u⟩
   .exact h.inj i j a f d
   .subst u;exact absurd f (l i)
  .rcases c j a h2 with⟨_,d⟩|⟨d,u⟩
   .subst s;exact absurd d (l j)
   .lia
 .rcases c n a h1 with⟨hl,f⟩|⟨f,s⟩
  .rw [X7 (by rw[<-h.len];exact hl)]at h2
   have q:=h.obj n a o f h2;let⟨ho,e,r'⟩:=q;exact⟨ho,e,r'.mono t (λ_ _ h=>h) (λ_ _ h=>h)⟩
  .subst s
   rw[WC (by rw[<-h.len];lia),<-h.len,f]at h2
   have d:o=p:=by simpa using h2.symm
   subst d;exact⟨_,w,r.mono t (λ_ _ h=>h) (λ_ _ h=>h)⟩
def ZI.named(s:ZI K YM H0 ρ H)(b:H0 D=none):ZI K YM H0 (ρ++[D]) H where
 ext:=λn a h=>by have:=s.ext n a h;rw[X7 (Ye.mp this).1];exact this
 new:=λn a h=>by
  by_cases hk:n<ρ.length
  .rw [X7 hk]at h;exact s.new n a h
  .rw [WC ()]at h
   cases hd:n-ρ.length with
   |zero=>
    rw[hd]at h;have e:a=D:=by simpa using h.symm
    subst e;exact .inr b
   |succ m=>rw[hd]at h;simp at h
 X4:=s.X4
 live:=s.live
 ZY:=s.ZY
 Zy:=s.Zy
 Zm:=s.Zm
def fA(s:ZI K ρ H ZO H')(a:D ∉ ρ)(c:H D=some o1):D ∉ ZO:=λb=>by
 let⟨n,e⟩:=TU.mp b;rcases s.new n D e with q|q
 .exact a (TU.mpr ⟨n,q⟩)
 .rw [c]at q;cases q
def RS.unbind{t:Tg}{b l:Su}{O:L2.St}(m:AQ t b=true)(d:Af t u b=some l)(h:RS K ρ H l O):RS K ρ H b O:=by
 have one:∀(i:Nat) (w:U) (a:Su),(match a[i]? with|some none=>true|_=>false)=true ->∀(j:Nat) (z:U),a[j]?=some (some z)->(a.set i (some w))[j]?=some (some z):=λi w a hi j z e=>by
  by_cases g:j=i
  .subst g;rw[e]at hi;cases hi
  .rw [Ve (Ne.symm g)];exact e
 cases t with
 |nm i=>
  simp![Af]at d;split at d
  .cases d
   exact⟨by have:=h.len;simpa using this,λj z e=>h.val j z (one i u b m j z e)⟩
  .cases d
 |tp is=>
  cases u with
  |ZY S=>
   have p:bindL is S b=some l:=d;have all:∀(is:List Nat) (S:List U) (a f:Su),(∀i∈is,∀z,b[i]? ≠ some (some z))->(∀(j:Nat) (z:U),b[j]?=some (some z)->a[j]?=some (some z))->bindL is S a=some f->f.length=a.length /\∀(j:Nat) (z:U),b[j]?=some (some z)->f[j]?=some (some z):=λis=>by
    induction is with
    |nil=>
     intro S a f _ c e;cases S with
     |nil=>cases e;exact⟨rfl,c⟩
     |cons _ _=>cases e
    |cons i is ih=>
     intro S a f hi c e;cases S with
     |nil=>cases e
     |cons w S=>
      simp![bindL]at e;split at e
      .obtain ⟨h1,h2⟩:=ih S _ f (λk hk=>hi k (Hl _ hk)) (λj z n=>by
        have g:j≠i:=λq=>hi i Hr z (q ▸ n);rw[Ve (Ne.symm g)];exact c j z n) e
       exact⟨by rw[h1];simp,h2⟩
      .cases e
   have hi:∀i∈is,∀z,b[i]? ≠ some (some z):=λi o z e=>by
    have:=WY.mp m i o;rw[e]at this;cases this
   let⟨h1,h2⟩:=all is S b l hi (λ_ _ e=>e) p;exact⟨by rw[<-h1];exact h.len,λj z e=>h.val j z (h2 j z e)⟩
  |_=>simp[Af]at d
def dY{o:Out α}{k:α->G->Out β}{b:β}{g':G}(h:o.bindB k=.ok b g'):∃a c,o=.ok a c/\k a c=.ok b g':=by
 cases o with
 |ok a c=>exact⟨a,c,rfl,h⟩
 |exc _ _ _=>cases h
 |ZV=>cases h
end
section
abbrev Sr(ifs:List Expr)(env:Env):Sem Bool:=forIn ifs true λc r=>if r=true then do let ok<-isTrue c env (eval c env);pure (ForInStep.yield ok)else pure (ForInStep.yield r)
def jj{env:Env}{M:Model}{A:Around}{E:Value->Shared->Prop}{Q:Bool->Shared->Prop}{s:Shared}(h:Q false s):∀ifs:List Expr,wpAny M A (forIn ifs false λc r=>if r=true then do let ok<-isTrue c env (eval c env);pure (ForInStep.yield ok)else pure (ForInStep.yield r)) Q E s
 |[]=>ZP h
 |c::cs=>by
  simp![O2,Xc,Vb];exact ZB (ZP (jj h cs))
def PTs(X:Cx)(a:List Expr)(f:Su->G->Out Bool):Prop:=
 ∀(Y:List (Addr×Obj)) (s:Shared) (O:L2.St) (H:Hp) (Q:Bool->Hp->Prop),L2.Z0 X Y O H s->tT X.K Yl f O H Q->wpAny (model X.prog X.w) X.A (Sr a X.env) (TP X Y O Q) X.xe s
where Yl:XQ:=λ_ _ _=>False
def zN:PTs X [] (As r.ts []):=λY s O H Q I ⟨b,ρ,g,hs,a,p⟩=>ZP ⟨H,I,post.YC (R:=Yb) p a rfl⟩
def xq{c:Expr}{f:E}{d:List Expr}{a:List E}(l:PT X c (tT X.K PTs.Yl (r.ts f)))(o:PTs X d (As r.ts a)):PTs X (c::d) (As r.ts (f::a)):=by
 intro Y s O H Q I ⟨h,ρ,g,hs,j,p⟩;unfold Sr;simp![O2,Tj];refine ZB (ZB (thn (l Y s O H (λk H1=>if k=true then tT X.K PTs.Yl (As r.ts a) O H1 Q else Q false H1) I ⟨h,ρ,g,hs,j,(post.bind (R:=Yb) p).mono λk H1 ⟨n,k',g1,s1,h1,m,e⟩=>?_⟩) λk s1 ⟨H1,i,b⟩=>?_))
 .subst m
  cases k' with
  |true=>exact aX ⟨h,n,g1,hs.step s1,h1,e⟩
  |false=>exact aY (post.YC (R:=Yb) e h1 rfl)
 .cases k with
  |true=>rw[YE rfl]at b;exact ZP (o Y s1 O H1 Q i b)
  |false=>rw[Yn Hj]at b;exact ZP (jj ⟨H1,i,b⟩ d)
structure Mon(K:Hu)(ρ:List Addr)(H:Hp)(ZO:List Addr)(H':Hp):Prop where
 ext:∀(n:Nat) (a:Addr),ρ[n]?=some a->ZO[n]?=some a
 ZY:∀a xs,SqU K H a xs->SqU K H' a xs
 Zy:∀a xs,SqF K H a xs->SqF K H' a xs
 Zm:∀a o u,H a=some (.Zm o u)->H' a=some (.Zm o u)
def ZI.mon(s:ZI K ρ H ZO H'):Mon K ρ H ZO H':=⟨s.ext,s.ZY,s.Zy,s.Zm⟩
def Mon.trans{d:List Addr}{c:Hp}(a:Mon K ρ H ZO H')(b:Mon K ZO H' d c):Mon K ρ H d c:=⟨λn x h=>b.ext n x (a.ext n x h),λx xs h=>b.ZY x xs (a.ZY x xs h),λx xs h=>b.Zy x xs (a.Zy x xs h),λx o u h=>b.Zm x o u (a.Zm x o u h)⟩
def RI.mon{i:Iter}{d:It}(s:Mon K ρ H ZO H')(h:RI K ρ H i d):RI K ZO H' i d:=by
 cases i with
 |Z5 n=>let⟨a,h1,h2⟩:=h;exact⟨a,s.ext _ _ h1,h2⟩
 |W7 n=>let⟨a,h1,h2⟩:=h;exact⟨a,s.ext _ _ h1,h2⟩
 |zip n m=>let⟨a,b,h1,h2,c⟩:=h;exact⟨a,b,s.ext _ _ h1,s.ext _ _ h2,c⟩
 |seq S=>let⟨a,e,h1,h2,c⟩:=h;exact⟨a,e,h1.imp_left (s.ZY _ _),RVs.mono s.ext s.ZY s.Zy _ _ h2,c⟩
 |YU lo n=>exact h
def A8(X:Cx)(C:Nat->List U->G->Out U):List Comprehension->List (Tg×E×List E)->Prop
 |[],[]=>True
 |g::r,(t,Zt,cs)::r'=>g.is_async=0/\PG X g.target (tG X.K t)/\(∀n,PTs X g.ifs (As (Js C n).ts cs))/\(∀n,PI X g.target g.iter (tI X.K PTs.Yl (Jj (Js C n) Zt)))/\(∀x,foldedSetIterable g.iter X.env x=pure x)/\A8 X C r r'
 |_,_=>False
set_option genInjectivity false in
inductive CK where|Z5 (elt:Expr)|ZG (k v:Expr)
noncomputable def CK.exp(c:CK)(gens:List Comprehension)(scope:Scope)(pos:Pos):Expr:=match c with
 |.Z5 elt=>.ListComp elt gens scope pos
 |.ZG k v=>.DictComp k v gens scope pos
noncomputable def CK.emit(c:CK)(ZQ:Value)(env:Env):Sem Unit:=match c with
 |.Z5 elt=>(do let _<-call (.builtin "list.append") [ZQ,<-eval elt env])
 | .ZG k v=>(do
   let kv<-eval k env
   let vv<-holding [kv] (eval v env)
   match ZQ with
   |.ref d=>do
    standAt {k.pos with endLine:=v.pos.endLine,endCol:=v.pos.endCol}
    holding [kv,vv] (dictSet d kv vv)
   |_=>unsupported "internal:dictcomp")
noncomputable def CK.new(c:CK):Sem Value:=match c with
 |.Z5 _=>newList []
 |.ZG _ _=>newDict
noncomputable def CK.obj(c:CK):Obj:=match c with
 |.Z5 _=>{cls:=.type "list",dict:=none,data:=.seq ([]:List Value).toArray}
 |.ZG _ _=>{cls:=.type "dict",data:=.dict #[]}
noncomputable def CK.Wc(c:CK):HO:=match c with
 |.Z5 _=>.Z5 []
 |.ZG _ _=>.dT []
noncomputable def CK.ho(K:Hu)(ρ:List Addr)(H:Hp)(c:CK)(b:List U)(o:HO):Prop:=match c with
 |.Z5 _=>∃a,o=.Z5 a/\RVs K ρ H b a
 |.ZG _ _=>∃Z4 ws,o=.dT ws/\dfold b []=some Z4/\RD K ρ H Z4 ws
def CK.ho.mut{c:CK}{o:HO}(h:CK.ho K ρ H c ZQ o):Bh o:=by
 cases c with
 |Z5 e=>let⟨a,rfl,_⟩:=h;trivial
 |ZG k v=>let⟨_,ws,rfl,_⟩:=h;trivial
def CK.ho.mono{K:Hu}{ρ l:List Addr}{H b:Hp}{c:CK}{j:List U}{o:HO}(h:CK.ho K ρ H c j o)(i:∀(n:Nat) (a:Addr),ρ[n]?=some a->l[n]?=some a)(f:∀a xs,SqU K H a xs->SqU K b a xs)(g:∀a xs,SqF K H a xs->SqF K b a xs):CK.ho K l b c j o:=by
 cases c with
 |Z5 e=>let⟨m,e,r⟩:=h;exact⟨m,e,RVs.mono i f g _ _ r⟩
 |ZG k v=>let⟨Z4,ws,e,d,r⟩:=h;exact⟨Z4,ws,e,d,RD.mono i f g _ _ r⟩
def CK.ho.step{c:CK}{o:HO}(s:ZI K ρ H ZO H')(h:CK.ho K ρ H c ZQ o):CK.ho K ZO H' c ZQ o:=h.mono s.ext s.ZY s.Zy
def CK.ho0{c:CK}:CK.ho K ρ H c [] c.Wc:=by
 cases c with
 |Z5 e=>exact⟨[],rfl,rfl⟩
 |ZG k v=>exact⟨[],[],rfl,rfl,rfl⟩
def CK.Q8{M:Model}{E:Value->Shared->Prop}{Q:Value->Shared->Prop}{c:CK}(h:Q (.ref s.heap.objs.size) {s with heap:=s.heap.push c.obj}):wpAny M A c.new Q E s:=by
 cases c with
 |Z5 e=>exact Uc h
 |ZG k v=>exact Uc h
def CK.Q7(c:CK)(h:Heap)(a:sysModules<h.objs.size):ObjOk P w H (h.push c.obj) h.objs.size c.Wc:=by
 cases c with
 |Z5 e=>exact⟨QN _,[],0,.nil,Ho _ rfl⟩
 |ZG k v=>exact kz h a
inductive RR(X:Cx)(c:CK)(D:Addr)(Y:List (Addr×Obj))(YM:List Addr)(H0:Hp)(Wb:List Addr)(Hs:Hp)(ZZ:Su)(S:List U)(g':G)(r:Result)(s':Shared):Prop
 |mk (f:∃f,r=.ok f) (ZT:L2.St) (H':Hp) (ZO:List Addr) (Y0:HO) (I:L2.Z0 X Y ZT H' s') (sp:ZI X.K YM H0 ZO H') (hg:RH X.K ZO H' g') (hs:RS X.K ZO H' ZZ ZT) (hD:H' D=some Y0) (hn:D ∉ ZO) (rv:CK.ho X.K ZO H' c S Y0) (mo:Mon X.K Wb Hs ZO H')
def uu{c:CK}{k:Nat}{g:Comprehension}{it ZQ:Value}(hk:gens[k]?=some g)(ha:g.is_async=0):
  compTurn (c.exp gens scope pos) k it ZQ env=(do
   standAt g.iter.pos
   match<-pyNext it with
   |none=>pure (.done .next)
   |some v=>
    letOwnedTupleGo g.target it v
    assign g.target env v
    let ok<-Sr g.ifs env
    if ok then
     match gens[k+1]? with
     |some g'=>
      let x<-eval g'.iter env
      standAt g'.iter.pos
      let x<-if g'.is_async != 0 then foldedIterable g'.iter x else foldedSetIterable g'.iter env x
      let _<-runOwn (.compStart (c.exp gens scope pos) (k+1) (<- holding [x] (if g'.is_async != 0 then asyncIter x else pyIter x)) ZQ env) env
     |none=>c.emit ZQ env
    again (.compLoop (c.exp gens scope pos) k it ZQ env)):=by
 cases c with
 |Z5 elt=>unfold compTurn;simp![CK.exp,hk,ha];rfl
 |ZG kx vx=>unfold compTurn;simp![CK.exp,hk,ha];rfl
end
section
variable{R:Result->Shared->Prop}
def iA{c:CK}{k:Nat}{g:Comprehension}{it ZQ:Value}(hk:gens[k]?=some g)(ha:g.is_async=0)
  (h0:codeAny (model prog w) A (.compLoop (c.exp gens scope pos) k it ZQ env) R s)
  (h:wpAny (model prog w) A (pyIter it) (λZt s'=>codeAny (model prog w) A (.compLoop (c.exp gens scope pos) k Zt ZQ env) R s')
   (notedBy (model prog w) A env λx s'=>R (.error x) s') s) :
  codeAny (model prog w) A (.compStart (c.exp gens scope pos) k it ZQ env) R s:=by
 refine P4 ?_;have key:(model prog w).den (.compStart (c.exp gens scope pos) k it ZQ env)=(compStart (c.exp gens scope pos) k it ZQ env).onRaise (λx=>do noteFrame x env;standAt theWindowsPlace):=by cases c<;>rfl
 have ku:A.under (.compStart (c.exp gens scope pos) k it ZQ env)=A:=by cases c<;>rfl
 rw[key,ku];refine wpAny_notedAt ?_;unfold compStart;have hc:(clausesOf (c.exp gens scope pos))[k]?=some g:=by cases c<;>exact hk
 simp![hc,ha,Option.elim];show wpAny _ _ (ask >>= _) _ _ s;refine ZB (SJ (wpAny_ite ?_));split
 .first
   |exact ZB (ZP (ZP (And.intro rfl h0)))
   |exact ZP (And.intro rfl h0)
 .first
   |exact ZB (QR (ZB (Ss (ZB (UM h (λZt s' h'=>ZP (And.intro rfl h')) λ_ _ x=>x)))))
   |(refine ZB (QR ?_);show wpAny _ _ (standAt g.iter.pos >>= _) _ _ s;exact ZB (Ss (ZB (UM h (λZt s' h'=>ZP (And.intro rfl h')) λ_ _ x=>x))))
end
section
def noE{t:Sem α}{Q:α->Shared->Prop}{E:Value->Shared->Prop}(a:X.xe=λ_ _=>False)(h:wpAny (model X.prog X.w) X.A t Q X.xe s):wpAny (model X.prog X.w) X.A t Q E s:=
 UM h (λ_ _ q=>q) λe s' z=>by rw[a]at z;exact z.elim
def CD(X:Cx)(C:Nat->List U->G->Out U)(c:CK)(f:E):Prop:=
 ∀(n:Nat) (Y:List (Addr×Obj)) (s:Shared) (d:Su) (O:L2.St) (H:Hp) (ρ:List Addr) (b:G) (ZQ:List U) (o:HO) (v:U) (g2:G) (D:Addr),(Js C n).ev f d b=.ok v g2->ZQ.length<Ab->L2.Z0 X Y O H s->RS X.K ρ H d O->RH X.K ρ H b->H D=some o->D ∉ ρ->CK.ho X.K ρ H c ZQ o ->
  wpAny (model X.prog X.w) X.A (c.emit (.ref D) X.env) (λ_ e=>∃a H1 o2,L2.Z0 X Y O (upd H1 D o2) e/\ZI X.K ρ H a H1/\RH X.K a H1 g2/\H1 D=some o/\CK.ho X.K a (upd H1 D o2) c (ZQ++[v]) o2) X.xe s
def ke{b:Expr}(y:∀n,PE X b (tE X.K PTs.Yl ((Js C n).ev Zn))):CD X C (.Z5 b) Zn:=by
 intro n Y s t O H ρ m ZQ o v g2 D r j I hs k l i ⟨vs,p,g⟩;subst p;refine ZB (thn (y n Y s O H (λx H1=>∃a,ZI X.K ρ H a H1/\RH X.K a H1 g2/\RV X.K a H1 v x) I ⟨t,ρ,m,hs,k,by rw[r];exactλv a H1 c h1 d=>⟨a,c,h1,d⟩⟩) ?_);rintro u c ⟨x,H1,A,d,a,e,w,h⟩
 have f:H1 D=some (.Z5 vs):=e.X4 D _ l i;refine ZB (thn (jJ Y c O H1 (.ref D) [x] (.ref D) [u] (λ_ H2=>H2=upd H1 D (.Z5 (vs++[x]))) A rfl (.cons d .nil) ⟨D,vs,x,rfl,rfl,f,by rw[<-g.length,UP];unfold Ab at j;omega,rfl⟩) ?_);rintro u2 E ⟨B,H2,z,F,q⟩
 subst q;exact ZP ⟨a,H1,_,z,e,w,f,_,rfl,((RVs.step e _ _ g).append (.one h)).Vn f trivial⟩
def i7:∀{xs ys:List U} {k0 Z4:List (List Int×U)},dfold xs k0=some Z4->dfold (xs++ys) k0=dfold ys Z4
 |[],_,_,_,e=>by cases e;rfl
 |x::xs,ys,k0,Z4,e=>by
  simp![PK,dfold]at e ⊢;let⟨k1,h1,h2⟩:=Vd.mp e;rw[h1];exact i7 h2
def xV{a:List (List Int×U)}{k:List Int}:(dput a k u).length<=a.length+1:=by
 unfold dput;split<;>simp
def vW{a k1:List (List Int×U)}{x:U}(e:Cb a x=some k1):k1.length<=a.length+1:=by
 unfold Cb at e;split at e
 .obtain ⟨ks,_,rfl⟩:=XB.mp e;exact xV
 .cases e
def i6:∀{xs:List U} {k0 Z4:List (List Int×U)},dfold xs k0=some Z4->Z4.length<=k0.length+xs.length
 |[],_,_,e=>by cases e;simp
 |x::xs,k0,Z4,e=>by
  simp![dfold]at e;let⟨k1,h1,h2⟩:=Vd.mp e;have:=vW h1;have:=i6 h2;simp![WJ];lia
def wU{J B:Expr}{p m:E}(V:X.A.units+1<cLine)(hk:∀n,PE X J (tE X.K PTs.Yl ((Js C n).ev p)))(U:∀n,PE X B (tE X.K PTs.Yl ((Js C n).ev m))):CD X C (.ZG J B) (.pair p m):=by
 intro n Y s f O H ρ z ZQ o v g2 D N Z I hs hg hD W ⟨Z4,ws,eo,M,G⟩;subst eo;cases n with
 |zero=>cases N
 |succ n=>
  have a:(((Js C n).ev p f z).bind λx g=>((Js C n).ev m f g).bind λy g=>match keyOf x with|some _=>.ok (.ZY [x,y]) g|none=>.ZV)=Out.ok v g2:=N
  cases q:(Js C n).ev p f z with
  |exc _ _ _=>rw[q]at a;cases a
  |ZV=>rw[q]at a;cases a
  |ok L ga=>
   rw[q]at a;cases ev:(Js C n).ev m f ga with
   |exc _ _ _=>simp![Out.bind,ev]at a;cases a
   |ZV=>simp![Out.bind,ev]at a;cases a
   |ok F gb=>
    simp![Out.bind,ev]at a;cases d:keyOf L with
    |none=>rw[d]at a;cases a
    |some T=>
     rw[d]at a;cases a;refine ZB (thn (hk n Y s O H (λx H1=>∃c,ZI X.K ρ H c H1/\RH X.K c H1 ga/\RV X.K c H1 L x) I ⟨f,ρ,z,hs,hg,by rw[q];exactλv c H1 j h1 k=>⟨c,j,h1,k⟩⟩) ?_);rintro u j ⟨x,H1,I1,k,c,P,Yk,R⟩
     refine ZB (Vt (thn (U n Y j O H1 (λx H2=>∃l,ZI X.K c H1 l H2/\RH X.K l H2 g2/\RV X.K l H2 F x) I1 ⟨f,c,ga,hs.step P,Yk,by rw[ev];exactλv c H1 j h1 k=>⟨c,j,h1,k⟩⟩) ?_));rintro w s2 ⟨y,H2,I2,S,l,i,t,Q⟩
     let⟨b,rfl,hb⟩:=eT d (RV.step i _ _ R);obtain rfl:u=Value.ref b:=k;have sp:=P.trans i;have r:H2 D=some (.dT ws):=sp.X4 D _ hD W;refine ZB (Ss (Vt (adI V I2 r hb ?_ S λs3 I3=>⟨l,H2,_,I3,sp,t,r,dput Z4 T F,_,rfl,?_,?_⟩)))
     .have:=i6 M;rw[<-G.len,UP];unfold Ab at Z;simp at this;lia
     .rw [i7 M];simp![dfold,Cb,d,VJ,Qr]
     .exact RD.mono (λ_ _ e=>e) (λ_ _ h=>aU h (.inr ⟨_,r,trivial⟩)) (λ_ _ h=>aV h (.inr ⟨_,r,trivial⟩)) _ _ ((G.mono sp.ext sp.ZY sp.Zy).put Q)
abbrev postC(c:Code)(R:Result->Shared->Prop)(N:Shared->Prop):PySem.Fin->Shared->Prop:=λfin s'=>match fin with|.done f=>R (.ok f) s'|.again c'=>c'=c/\N s'
inductive LpI(X:Cx)(f:Nat->Tg->List E->List (Tg×E×List E)->E->List U->Su->G->Out (List U))(t:Tg)(cs:List E)(Zz:List (Tg×E×List E))(Zn:E)(ZZ:Su)(S:List U)(g':G)(Y:List (Addr×Obj))(tn:Nat->Heap->Prop)(fp:List Addr)(Yj:Iter)(Z8:It)(YM:List Addr)(H0:Hp)(D:Addr)(c:CK)(Wb:List Addr)(Hs:Hp)(s:Shared):Prop
 |mk (i:Nat) (ZQ:List U) (vs:HO) (O:L2.St) (H:Hp) (ρ:List Addr) (g0:G) (eq:f i t cs Zz Zn ZQ ZZ g0=.ok S g') (I:L2.Z0 X Y O H s) (st:tn i s.heap) (hf:∀b∈fp,H b=none) (hs:RS X.K ρ H ZZ O) (Xz:RH X.K ρ H g0) (ri:RI X.K ρ H Yj Z8) (sp:ZI X.K YM H0 ρ H) (hD:H D=some vs) (hn:D ∉ ρ) (rv:CK.ho X.K ρ H c ZQ vs) (mo:Mon X.K Wb Hs ρ H)
def kK(hc:X.calm=true)(Wu:X.xe=λ_ _=>False){c:CK}{Zn:E}{scope:Scope}{pos:Pos}{D:Addr}{k:Nat}{t:Tg}{YM Wb:List Addr}{H0 Hs:Hp}
  {it:Addr} {fp:List Addr} {tn:Nat->Heap->Prop} {Z8:It} {Yj:Iter} {Y:List (Addr×Obj)} {ZZ:Su} {S:List U} {g':G}
  (hk:gens[k]?=some gc) (ha:gc.is_async=0) (hg:PG X gc.target (tG X.K t)) (Vm:∀n,PTs X gc.ifs (As (Js C n).ts cs)) (T:Turn X.prog X.w X.K gc.target Z8 fp it tn) (ZC:∀b∈fp,∀H':Hp,H' b=none->AM X Y H' b) (h0:H0 D=none)
  (inner:∀ (n:Nat) (X2:List (Addr×Obj)) (s:Shared) (ZL:Su) (O:L2.St) (H:Hp) (ρ:List Addr) (g1:G) (ZQ:List U) (vs:HO) (i:Nat) (N:Shared->Prop) (E:Value->Shared->Prop),
   (match Zz with
    |[]=>((Js C n).ev Zn ZL g1).bindB λv g=>if ZQ.length<Ab then(Js C n).cm Yj (i+1) t cs Zz Zn (ZQ++[v]) ZZ g else .ZV
    |(t2,Xp,We)::VP=>(Jj (Js C n) Xp ZL g1).bindB λj g=>((Js C n).cm j 0 t2 We VP Zn ZQ ZL g).bindB λX5 g=>(Js C n).cm Yj (i+1) t cs Zz Zn X5 ZZ g)=.ok S g' ->
   L2.Z0 X X2 O H s->RS X.K ρ H ZL O->RH X.K ρ H g1->ZI X.K YM H0 ρ H->H D=some vs->D ∉ ρ->CK.ho X.K ρ H c ZQ vs ->
   (∀s' ZT H' ZO g2 X5 Vl,(Js C n).cm Yj (i+1) t cs Zz Zn X5 ZZ g2=.ok S g'->L2.Z0 X X2 ZT H' s'->RS X.K ZO H' ZL ZT->RH X.K ZO H' g2->ZI X.K YM H0 ZO H'->Mon X.K ρ H ZO H'->H' D=some Vl->D ∉ ZO->CK.ho X.K ZO H' c X5 Vl->N s') ->
   wpAny (model X.prog X.w) X.A (match gens[k+1]? with
     | some g'=>(do
      let x<-eval g'.iter X.env
      standAt g'.iter.pos
      if(g'.is_async != 0)=true then do
        let x<-foldedIterable g'.iter x
        let y<-holding [x] (if(g'.is_async != 0)=true then asyncIter x else pyIter x)
        let _<-runOwn (.compStart (c.exp gens scope pos) (k+1) y (.ref D) X.env) X.env
        again (.compLoop (c.exp gens scope pos) k (.ref it) (.ref D) X.env)
       else do
        let x<-foldedSetIterable g'.iter X.env x
        let y<-holding [x] (if(g'.is_async != 0)=true then asyncIter x else pyIter x)
        let _<-runOwn (.compStart (c.exp gens scope pos) (k+1) y (.ref D) X.env) X.env
        again (.compLoop (c.exp gens scope pos) k (.ref it) (.ref D) X.env))
     | none=>(do
      c.emit (.ref D) X.env
      again (.compLoop (c.exp gens scope pos) k (.ref it) (.ref D) X.env))) (postC (.compLoop (c.exp gens scope pos) k (.ref it) (.ref D) X.env) (RR X c D Y YM H0 Wb Hs ZZ S g') N) E s)
  (n:Nat) (s:Shared) (i:Nat) (ZQ:List U) (vs:HO) (O:L2.St) (H:Hp) (ρ:List Addr) (g0:G) (eq:(Js C n).cm Yj i t cs Zz Zn ZQ ZZ g0=.ok S g') (I:L2.Z0 X Y O H s) (st:tn i s.heap) (hf:∀b∈fp,H b=none)
  (hs:RS X.K ρ H ZZ O) (Xz:RH X.K ρ H g0) (ri:RI X.K ρ H Yj Z8) (sp:ZI X.K YM H0 ρ H) (hD:H D=some vs) (hn:D ∉ ρ) (rv:CK.ho X.K ρ H c ZQ vs) (mo:Mon X.K Wb Hs ρ H) :
  codeAny (model X.prog X.w) X.A (.compLoop (c.exp gens scope pos) k (.ref it) (.ref D) X.env) (RR X c D Y YM H0 Wb Hs ZZ S g') s:=by
 refine codeAny_loop (by cases c<;>rfl) (λn s=>LpI X ((Js C n).cm Yj) t cs Zz Zn ZZ S g' Y tn fp Yj Z8 YM H0 D c Wb Hs s) ?_ n ⟨i,ZQ,vs,O,H,ρ,g0,eq,I,st,hf,hs,Xz,ri,sp,hD,hn,rv,mo⟩
 clear eq I st hf hs Xz ri sp hD hn rv mo;rintro n s ⟨i,ZQ,vs,O,H,ρ,g0,eq,I,st,hf,hs,Xz,ri,sp,hD,hn,rv,mo⟩;cases n with
 |zero=>cases eq
 |succ n=>
  have Xd:Jr (Js C n) Yj i t cs Zz Zn ZQ ZZ g0=.ok S g':=eq;clear eq;simp![Jr]at Xd;have key:(model X.prog X.w).den (.compLoop (c.exp gens scope pos) k (.ref it) (.ref D) X.env)=(compTurn (c.exp gens scope pos) k (.ref it) (.ref D) X.env).onRaise (λx=>do noteFrame x X.env;theTreesLotGoes x):=by cases c<;>rfl
  have ku:X.A.under (.compLoop (c.exp gens scope pos) k (.ref it) (.ref D) X.env)=X.A:=by cases c<;>rfl
  rw[key,ku];refine wpAny_noted ?_;rw[uu hk ha];refine ZB (Ss (ZB ?_));have stat:∀{H':Hp},(∀b∈fp,H' b=none) ->∀b∈fp,AM X Y H' b:=λh b hb=>ZC b hb _ (h b hb);cases en:next Yj i g0 with
  |none=>simp![en]at Xd;cases Xd
  |some o=>
   cases o with
   |none=>
    simp![en]at Xd;cases Xd;refine thn (T.done X rfl rfl rfl hc i Y s O H _ I (stat hf) st (l5 Xz ri en)) ?_;rintro r s1 ⟨hr,I1⟩;subst hr;exact ZP ⟨⟨_,rfl⟩,O,H,ρ,vs,I1,sp,Xz,hs,hD,hn,rv,mo⟩
   |some u=>
    simp![en]at Xd;let⟨go,yl⟩:=sE Xz ri en;refine thn (T.item X rfl rfl rfl hc i Y s O H _ I (stat hf) st go) ?_;rintro r s1 ⟨u',hr,h4⟩;subst hr;refine ZB (thn h4 ?_);rintro _ s5 ⟨x,H5,I5,r5,y5,V2,fr5⟩;let⟨Wt,hgg5,rx⟩:=yl x H5 y5;replace hs:=hs.step Wt;replace Xz:=hgg5;replace ri:=ri.step Wt;replace sp:=sp.trans Wt;replace hD:=Wt.X4 D _ hD hn;replace rv:=rv.step Wt;replace mo:=mo.trans Wt.mon;have I5':=I5.pinned (stat fr5) (T.obj _ _ V2);split at Xd
    .rename_i US
     cases eb:Af t u ZZ with
     |none=>simp![eb]at Xd;cases Xd
     |some ZL=>
      simp![eb]at Xd;let⟨kk,g1,e1,e2⟩:=dY Xd;refine ZB (noE Wu (thn (hg _ s5 O H5 x u' (λZT H'=>H'=H5/\RS X.K ρ H5 ZL ZT) I5' r5 ⟨ZZ,ρ,g0,u,ZL,hs,Xz,rx,jz eb,λZT h=>⟨rfl,h⟩⟩) ?_));rintro _ s6 ⟨Uk,H6,I6,eh,TV⟩;subst eh;refine ZB (noE Wu (thn (Vm n _ s6 Uk H6 (λk' H'=>k'=kk /\∃ZM,ZI X.K ρ H6 ZM H'/\RH X.K ZM H' g1) I6 ⟨ZL,ρ,g0,TV,Xz,by rw[e1];exactλv ZM H1 s1 h1 e=>⟨e.symm,ZM,s1,h1⟩⟩) ?_));rintro k' s7 ⟨H7,I7,ek,ZM,Zk,Yk⟩
      subst ek;have back:∀(s':Shared) (ZT:L2.St) (H':Hp) (ZO:List Addr) (g2:G) (X5:List U) (Vl:HO),(Js C n).cm Yj (i+1) t cs Zz Zn X5 ZZ g2=.ok S g'->L2.Z0 X (Y++B7 fp s5.heap) ZT H' s'->RS X.K ZO H' ZL ZT->RH X.K ZO H' g2->ZI X.K YM H0 ZO H'->Mon X.K ZM H7 ZO H'->H' D=some Vl->D ∉ ZO->CK.ho X.K ZO H' c X5 Vl ->
        ∃m,m<n+1/\LpI X ((Js C m).cm Yj) t cs Zz Zn ZZ S g' Y tn fp Yj Z8 YM H0 D c Wb Hs s':=λs' ZT H' ZO g2 X5 Vl q1 q2 q3 q4 q5 q6 q7 q8 q9=>by
       refine⟨n,QX _,i+1,X5,Vl,ZT,H',ZO,g2,q1,q2.Te,T.keep _ _ _ V2 λb hb o e=>(q2.pin (b,o) (Vx _ (Vx _ (dy hb e)))).1,λb hb=>?_,RS.unbind US eb q3,q4,(ri.step Zk).mon q6,q5,q7,q8,q9,(mo.trans Zk.mon).trans q6⟩;let⟨o,e,d⟩:=T.obj _ _ V2 b hb;exact(q2.pin (b,o) (Vx _ (Vx _ (dy hb e)))).2.1
      have hD7:H7 D=some vs:=Zk.X4 D _ hD hn;have hn7:D ∉ ZM:=fA Zk hn hD;have rv7:=rv.step Zk;cases k' with
      |false=>
       simp![Xc,Vb]at e2 ⊢;exact ZP ⟨rfl,back s7 Uk H7 ZM g1 ZQ vs e2 I7 (TV.step Zk) Yk (sp.trans Zk) ⟨λ_ _ h=>h,λ_ _ h=>h,λ_ _ h=>h,λ_ _ _ h=>h⟩ hD7 hn7 rv7⟩
      |true=>
       simp![Tj]at e2 ⊢;exact inner n _ s7 ZL Uk H7 ZM g1 ZQ vs i _ _ e2 I7 (TV.step Zk) Yk (sp.trans Zk) hD7 hn7 rv7 back
    .cases Xd
def vJ(hc:X.calm=true)(Wu:X.xe=λ_ _=>False){c:CK}(hem:CD X C c Zn){D:Addr}:
  ∀(ZR:List Comprehension) (Zz:List (Tg×E×List E)) (k:Nat) (gc:Comprehension) (t:Tg) (cs:List E),gens[k]?=some gc->gens.drop (k+1)=ZR->gc.is_async=0->PG X gc.target (tG X.K t) ->
   (∀n,PTs X gc.ifs (As (Js C n).ts cs))->A8 X C ZR Zz ->
   ∀(n:Nat) (Y:List (Addr×Obj)) (s:Shared) (it:Addr) (fp:List Addr) (tn:Nat->Heap->Prop) (Q:It) (Yj:Iter) (i:Nat) (ZQ:List U) (vs:HO) (ZZ:Su) (O:L2.St) (H:Hp) (ρ YM:List Addr) (H0:Hp) (P:G) (S:List U) (g':G),
    Turn X.prog X.w X.K gc.target Q fp it tn->(Js C n).cm Yj i t cs Zz Zn ZQ ZZ P=.ok S g'->L2.Z0 X Y O H s->tn i s.heap->(∀b∈fp,AM X Y H b)->RS X.K ρ H ZZ O->RH X.K ρ H P->RI X.K ρ H Yj Q ->
    ZI X.K YM H0 ρ H->H0 D=none->H D=some vs->D ∉ ρ->CK.ho X.K ρ H c ZQ vs ->
    codeAny (model X.prog X.w) X.A (.compLoop (c.exp gens scope pos) k (.ref it) (.ref D) X.env) (RR X c D Y YM H0 ρ H ZZ S g') s:=by
 intro ZR
 induction ZR with
 |nil=>
  intro Zz k gc t cs hk S3 ha J Vm u n Y s it fp tn Q Yj i ZQ vs ZZ O H ρ YM H0 P S g' T M I st W hs Xz ri sp Z y o B;have YG:gens[k+1]?=none:=by
   have:=Rz List.length S3;rw[Ub]at this;exact Uw.mpr (by simp at this;omega)
  cases Zz with
  |cons _ _=>exact False.elim u
  |nil=>
   refine kK hc Wu hk ha J Vm T (λb L H' h=>⟨h,(W b L).2⟩) Z ?_ n s i ZQ vs O H ρ P M I st (λb L=>(W b L).1) hs Xz ri sp y o B ⟨λ_ _ h=>h,λ_ _ h=>h,λ_ _ h=>h,λ_ _ _ h=>h⟩;intro n X2 s ZL O H ρ g1 ZQ vs i N E M I hs J sp y o B a;let⟨v,g2,e1,e2⟩:=dY M;rw[YG];split at e2
   .rename_i hl
    refine ZB (noE Wu (thn (hem n X2 s ZL O H ρ g1 ZQ vs v g2 D e1 hl I hs J y o B) ?_));rintro _ s2 ⟨g,H1,o2,I2,d,Yk,F,rv2⟩;have Yp:D ∉ g:=fA d o y;have hm:=B.mut;refine ZP ⟨rfl,?_⟩;refine a s2 O _ g g2 (ZQ++[v]) o2 e2 I2 ?_ (Yk.Vn F hm Yp) ((sp.trans d).Vn Z F hm) (d.mon.trans ⟨λ_ _ h=>h,λ_ _ h=>aU h (.inr ⟨_,F,hm⟩),λ_ _ h=>aV h (.inr ⟨_,F,hm⟩),λ_ _ _ h=>by rw[aa (cf h F (by rintro rfl;exact hm))];exact h⟩) upd_same Yp rv2
    exact⟨hs.len,λj z e=>let⟨w,w1,w2⟩:=(hs.step d).val j z e;⟨w,w1,w2.Vn F hm⟩⟩
   .cases e2
 |cons gn ZR ih=>
  intro Zz k gc t cs hk S3 ha J Vm u n Y s it fp tn Q Yj i ZQ vs ZZ O H ρ YM H0 P S g' T M I st W hs Xz ri sp Z y o B;have YG:gens[k+1]?=some gn:=by
   have:=Rz (λl=>l[0]?) S3;simpa[Ol]using this
  have Q6:gens.drop (k+1+1)=ZR:=by
   rw[<-Px,S3];rfl
  cases Zz with
  |nil=>exact False.elim u
  |cons q2 VP=>
   let⟨t2,Xp,We⟩:=q2;let⟨a2,pg2,R,pi2,Q5,V⟩:=u;refine kK hc Wu hk ha J Vm T (λb L H' h=>⟨h,(W b L).2⟩) Z ?_ n s i ZQ vs O H ρ P M I st (λb L=>(W b L).1) hs Xz ri sp y o B ⟨λ_ _ h=>h,λ_ _ h=>h,λ_ _ h=>h,λ_ _ _ h=>h⟩;intro n X2 s ZL O H ρ g1 ZQ vs i N E M I hs J sp y o B a;let⟨j,g3,e1,e2⟩:=dY M;let⟨X5,g4,e3,e4⟩:=dY e2;rw[YG];refine ZB (noE Wu (thn (pi2 n X2 s O H (λQ H1=>∃g,ZI X.K ρ H g H1/\RH X.K g H1 g3/\RI X.K g H1 j Q) I ⟨ZL,ρ,g1,hs,J,by rw[e1];exactλv g H1 s1 h1 r1=>⟨g,s1,h1,r1⟩⟩) λv s1 h1=>ZB (Ss ?_)))
   rw[a2];rw[Yn #[1]]
   refine ZB (O4 (Q5 v) (ZB (Vt ?_)));rw[Yn #[1]]
   refine noE Wu (thn h1 λUQ s2 h2=>?_);let⟨ita,fp2,tn2,J2,H2,e,I2,T2,Zx,f2,g,d,Yk,Wa⟩:=h2;subst e;have F:H2 D=some vs:=d.X4 D _ y o;have Yp:D ∉ g:=fA d o y;have loop:=ih VP (k+1) gn t2 We YG Q6 a2 pg2 R V n X2 s2 ita fp2 tn2 J2 j 0 ZQ vs ZL O H2 g YM H0 g3 X5 g4 T2 e3 I2 Zx f2 (hs.step d) Yk Wa (sp.trans d) Z F Yp (B.step d);refine ZB (wpAny_runOwn (Qt (iA YG a2 loop (T2.self _ 0 s2 _ _ Zx loop)) λr s3 hr=>?_));let⟨⟨f,rfl⟩,ZT,H',ZO,Y0,I3,sp3,TJ,YN,hD3,Ww,rv3,mo3⟩:=hr;exact ZP ⟨rfl,a s3 ZT H' ZO g4 X5 Y0 e4 I3 YN TJ sp3 (d.mon.trans mo3) hD3 Ww rv3⟩
end
def Jv(cells:List (Str×Addr)):List (Str×NameKind)->List (Str×Addr)->List (Str×Addr)
 |[],ZQ=>ZQ
 |(x,k)::r,ZQ=>if k==.free then(match cells.lookup x with|some c=>Jv cells r ((x,c)::ZQ)|none=>Jv cells r ZQ)else Jv cells r ZQ
def fv{scope:Scope}(h:∀x∈scope.names,x.2=.free ->∃c,env.cells.lookup x.1=some c):closureFor scope env=pure (Jv env.cells scope.names []):=by
 have all:∀(names:List (Str×NameKind)) (ZQ:List (Str×Addr)),(∀x∈names,x.2=.free ->∃c,env.cells.lookup x.1=some c) ->
   (forIn names ZQ λ(x:Str×NameKind) (cs:List (Str×Addr))=>match x with|(name,kind)=>if(kind==NameKind.free)=true then do let c<-cellOf env name;pure (ForInStep.yield ((name,c)::cs))else pure (ForInStep.yield cs):Sem (List (Str×Addr)))=pure (Jv env.cells names ZQ):=λnames=>by
  induction names with
  |nil=>intro ZQ _;rfl
  |cons p r ih=>
   intro ZQ hp;let⟨x,k⟩:=p;simp![O2,Jv];by_cases hk:k=.free
   .subst hk
    let⟨c,hc⟩:=hp (x,.free) Hr rfl;have hco:cellOf env x=pure c:=by unfold cellOf;simp only at hc;rw[hc]
    simp![PM,Tj,hco,hc];exact ih _ λy hy=>hp y (Hl _ hy)
   .have hb:(k==NameKind.free)=false:=by simpa using hk
    simp![hb,Xc,Vb];exact ih _ λy hy=>hp y (Hl _ hy)
 unfold closureFor;show((forIn scope.names [] λ(x:Str×NameKind) (cs:List (Str×Addr))=>match x with|(name,kind)=>if(kind==NameKind.free)=true then do let c<-cellOf env name;pure (ForInStep.yield ((name,c)::cs))else pure (ForInStep.yield cs):Sem (List (Str×Addr))) >>= λs=>pure s)=_
 rw[all scope.names [] h]
 rfl
def bC{cells:List (Str×Addr)}:∀(names:List (Str×NameKind)) (ZQ:List (Str×Addr)),(∀x c,ZQ.lookup x=some c->cells.lookup x=some c) ->∀x c,(Jv cells names ZQ).lookup x=some c->cells.lookup x=some c
 |[],_,h=>h
 |(y,k)::r,ZQ,h=>by
  unfold Jv;split
  .split
   .rename_i c b
    refine bC r _ λx d e=>?_;rw[Ti]at e;split at e
    .rename_i a
     cases e;rw[eq_of_beq a];exact b
    .exact h x d e
   .exact bC r _ h
  .exact bC r _ h
def dO{cells:List (Str×Addr)}{x:Str}:∀(names:List (Str×NameKind)) (ZQ:List (Str×Addr)),(ZQ.lookup x).isSome=true->((Jv cells names ZQ).lookup x).isSome=true
 |[],_,h=>h
 |(y,k)::r,ZQ,h=>by
  unfold Jv;split
  .split
   .refine dO r _ ?_
    rw[Ti];split
    .rfl
    .exact h
   .exact dO r _ h
  .exact dO r _ h
def cR{cells:List (Str×Addr)}{x:Str}{c:Addr}(a:cells.lookup x=some c):∀(names:List (Str×NameKind)) (ZQ:List (Str×Addr)),(x,NameKind.free)∈names->((Jv cells names ZQ).lookup x).isSome=true
 |(y,k)::r,ZQ,h=>by
  unfold Jv;rcases X8.mp h with e|h
  .cases e
   simp![PM,Tj,a];exact dO r _ #[3]
  .split
   .split
    .exact cR a r _ h
    .exact cR a r _ h
   .exact cR a r _ h
def b9:∀(names:List (Str×NameKind)) (n:Nat) (ZQ:List (Str×Addr)),cellsFrom n names ZQ=cellsFrom n names []++ZQ
 |[],_,_=>rfl
 |(x,k)::r,n,ZQ=>by
  unfold cellsFrom;split
  .rw [b9 r (n+1) ((x,n)::ZQ),b9 r (n+1) [(x,n)],Wx];rfl
  .exact b9 r n ZQ
def bg{x:Str}{c:Addr}:∀(names:List (Str×NameKind)) (n:Nat),(x,c)∈cellsFrom n names []->(x,NameKind.cell)∈names/\n<=c
 |[],_,h=>nomatch h
 |(y,k)::r,n,h=>by
  unfold cellsFrom at h;split at h
  .rename_i hk
   rw[b9,Wh]at h;rcases h with h|h
   .exact ⟨.tail _ (bg r _ h).1,Oy (bg r _ h).2⟩
   .cases WL.mp h;rw[eq_of_beq hk];exact⟨.head _,Hk _⟩
  .exact ⟨.tail _ (bg r _ h).1,(bg r _ h).2⟩
def c9{c:Addr}(h:(cellsFrom n names cl).lookup x=some c):(cellsFrom n names []).lookup x=some c\/((cellsFrom n names []).lookup x=none/\cl.lookup x=some c):=by
 rw[b9,List.lookup_append]at h;cases e:(cellsFrom n names []).lookup x with
 |some d=>rw[e]at h;exact .inl h
 |none=>rw[e]at h;exact .inr ⟨rfl,h⟩
def abK{c:Addr}(h:cl.lookup x=some c)(a:(x,NameKind.cell) ∉ names):(cellsFrom n names cl).lookup x=some c:=by
 rw[b9,List.lookup_append];cases e:(cellsFrom n names []).lookup x with
 |some d=>exact absurd (bg _ _ (VV e)).1 a
 |none=>exact h
def gN{c:Addr}(h:(cellsFrom n names (Jv cells names [])).lookup x=some c):cells.lookup x=some c\/n<=c:=by
 rcases c9 h with z|⟨_,z⟩
 .exact .inr (bg _ _ (VV z)).2
 .exact .inl (bC names [] (λx c h=>by cases h) x c z)
def r9(h:Heap)(names:List (Str×NameKind))(o:Obj):CellsOk (pushCells (h.push o) names) (h.objs.size+1) (cellsFrom (h.objs.size+1) names []):=by
 have:=cellsFrom_ok names (h.push o) (h.objs.size+1) [] ⟨λ_ _ a=>(nomatch a),List.Pairwise.nil⟩ (by rw[Pq];exact Hk _)
 rwa[Pq]at this
def wZ{M:Model}{E:Value->Shared->Prop}{d:Addr}{qual:Str}{Q:Env->Shared->Prop}
  (h:Q {scope,locals:=s.heap.objs.size,globals:=d,cells:=cellsFrom (s.heap.objs.size+1) scope.names cl,qual:=qual,func:=none,code:=env.code,frame:=env.frame,builtins:=env.builtins} {s with heap:=pushCells (s.heap.push {cls:=.type "dict",data:=.dict #[]}) scope.names}) :
  wpAny M A (newFunctionEnv scope d cl [] qual none .none (some env)) Q E s:=by
 simp![newFunctionEnv,Option.isSome_some,Tj];refine ZB (wpAny_alloc ?_);refine ZB (wpAny_layCells _ (λname a cells=>by cases c:a==NameKind.cell<;>simp[c]) _ _ _ _ ?_)
 rw[show({s with heap:=s.heap.push {cls:=.type "dict",data:=.dict #[]}}:Shared).heap.objs.size=s.heap.objs.size+1 from Pq ..]
 exact ZB (ZP (ZP h))
def Ah(X:Cx)(Y:List (Addr×Obj))(scope:Scope)(a:Shared)(d:Hp)(b:List Addr)(c:List Str):Cx:=
 {X with env:=compEnvC scope (cellsFrom (a.heap.objs.size+1) scope.names (Jv X.env.cells scope.names [])) a.heap.objs.size X.env,N:=c,ZF:=a,WH:=d,outer:=X.stack,stack:=X.stack,ex:=b,fn:=λx=>scope.names.lookup x==some .cell,pn:=X.pn++Y,xe:=λ_ _=>False}
section
variable{s3 s4:Shared}{O:L2.St}{H3:Hp}{own fr:List Str}
structure V_(X:Cx)(scope:Scope)(own fr:List Str)(Zs:List Nat):Prop where
 kind:scope.kind=.function
 names:∀x∈scope.names,x.2=.local->scope.names.lookup x.1=some .local
 cells:∀x∈scope.names,x.2=.cell->scope.names.lookup x.1=some .cell
 frees:∀x∈scope.names,x.2=.free->X.env.kindOf x.1=some .cell
 loc:∀x∈own,scope.names.lookup x=some .local\/scope.names.lookup x=some .cell
 nd:(own++fr).Nodup
 frs:∀x∈fr,scope.names.lookup x=some .free
 ix:Zs.length=fr.length /\∀(j:Nat) (x:Str) (i:Nat),fr[j]?=some x->Zs[j]?=some i->X.N[i]?=some x
def ff{a:Type}{x:Str}{k:a}:∀{l:List (Str×a)},l.lookup x=some k->(x,k)∈l
 |[],h=>by cases h
 |(y,z)::r,h=>by
  rw[Ti]at h;split at h
  .rename_i b;cases h;rw[eq_of_beq b];exact Hr
  .exact Hl _ (ff h)
def du{env:Env}{x:Str}:∀{names:List (Str×NameKind)},(names.map λ(n,k)=>if(k==NameKind.free&&env.scope.kind==.function&&env.kindOf n==some .cell)then(n,NameKind.cell)else(n,k)).lookup x =
  (names.lookup x).map λk=>if(k==NameKind.free&&env.scope.kind==.function&&env.kindOf x==some .cell)then NameKind.cell else k
 |[]=>rfl
 |(n,k)::r=>by
  have ih:=@du env x r;rw[Xu,Ti (as:=r)];show List.lookup x ((if(k==NameKind.free&&env.scope.kind==.function&&env.kindOf n==some .cell)=true then(n,NameKind.cell)else(n,k))::_)=_
  cases b:x==n with
  |true=>
   obtain rfl:=eq_of_beq b;by_cases a:(k==NameKind.free&&env.scope.kind==.function&&env.kindOf x==some .cell)=true
   .rw [YE a,Ti,b]
    simp![VJ];rw[YE a]
   .rw [Yn a,Ti,b]
    simp![VJ];rw[Yn a]
  |false=>
   by_cases a:(k==NameKind.free&&env.scope.kind==.function&&env.kindOf n==some .cell)=true
   .rw [YE a,Ti,b];exact ih
   .rw [Yn a,Ti,b];exact ih
def yo(t:V_ X scope own fr Zs)(I:L2.Z0 X Y O H3 s3)(j:∀b∈fp,AM X Y H3 b)(u:∀b∈fp,b<s3.heap.objs.size):(Ah X Y scope s3 H3 fp (own++fr)).Ok:=by
 have sub:=bC (cells:=X.env.cells) scope.names [] (λx c h=>by cases h)
 have D:(Ah X Y scope s3 H3 fp (own++fr)).env.scope.kind=.function:=t.kind;have g:∀x c,X.env.cells.lookup x=some c->c<s3.heap.objs.size:=λx c h=>let⟨_,_,ho,_⟩:=I.cell x c h;Hh ho
 have A:=r9 s3.heap scope.names {cls:=.type "dict",data:=.dict #[]};refine⟨I.ok.mod,D,I.ok.glob,I.ok.blt,Hk _,λx y c h1 h2=>?_,λx d=>?_,λx c h1 h2=>?_,I.ok.hd,I.ok.frames,.inl rfl,λb a=>⟨Hn (u b a),λx c h=>?_⟩,λb o e=>I.bs b o e,Hi I.ok.W5 I.sz,λb o e a=>?_,λb a r=>?_,I.stack,I.Tf⟩
 .have Wl:∀{z},(cellsFrom (s3.heap.objs.size+1) scope.names []).lookup z=some c->s3.heap.objs.size<c:=λh=>(bg _ _ (VV h)).2
  rcases c9 h1 with z|⟨_,z⟩<;>rcases c9 h2 with f|⟨_,f⟩
  .exact name_of_addr A.apart (VV z) (VV f)
  .exact absurd (Pn (Wl z) (g _ _ (sub _ _ f))) (R4 _)
  .exact absurd (Pn (Wl f) (g _ _ (sub _ _ z))) (R4 _)
  .exact I.ok.inj x y c (sub x c z) (sub y c f)
 .
  have C:(Ah X Y scope s3 H3 fp (own++fr)).env.kindOf x=(scope.names.lookup x).map λk=>if(k==NameKind.free&&X.env.scope.kind==.function&&X.env.kindOf x==some .cell)then NameKind.cell else k:=du
  rw[C]at d;cases hl:scope.names.lookup x with
  |none=>rw[hl]at d;rcases d with h|h<;>cases h
  |some k=>
   rw[hl]at d;have hm:=ff hl;refine TL.mp (Qu _ _ _ ?_);cases k with
   |free=>
    let⟨c,w⟩:=I.ok.has x (.inl (t.frees _ hm rfl));exact .inr (cR w scope.names [] hm)
   |cell=>exact .inl hl
   |«local»=>rcases d with h|h<;>simp at h
   |globalExplicit=>rcases d with h|h<;>simp at h
   |globalImplicit=>rcases d with h|h<;>simp at h
 .have B:scope.names.lookup x=some .cell:=eq_of_beq h1
  rcases c9 h2 with z|⟨z,_⟩
  .exact Oy (bg _ _ (VV z)).2
  .have:=Qu scope.names (s3.heap.objs.size+1) [] (.inl B)
   rw[z]at this;cases this
 .rcases gN h with z|z
  .exact (j b a).2.2.2.2.1 x c z
  .exact QU (Hm (Qn (u b a)) z)
 .rcases (j b a).2.2.2.1 with z|z
  .exact I.ok.Zb b o e z
  .exact absurd (Hm (show b<X.base.objs.size from Hh e) (Hi I.ok.W5 z)) (R4 _)
 .rcases X8.mp (I.VF b r)with z|z
  .exact (j b a).2.1 z
  .exact (j b a).2.2.1 z
def getD_none{o:Option (Option α)}{v:α}(h:o.getD none=some v):o=some (some v):=by
 cases o with
 |none=>cases h
 |some w=>cases h;rfl
def xJ(f:V_ X scope own fr Zs)(I:L2.Z0 X Y O H3 s3)(H:∀b∈fp,AM X Y H3 b)(K:∀b∈fp,b<s3.heap.objs.size){g:Heap}{tk:Nat}{y:Str->Option Value}(P:g.Ns s3.heap.objs.size y)(kept:∀b o,s3.heap.get? b=some o->g.get? b=some o)(L:∀x c,(x,c)∈cellsFrom (s3.heap.objs.size+1) scope.names [] ->∃v,g.IsCell c v):
  L2.Z0 (Ah X Y scope s3 H3 fp (own++fr)) [] (List.replicate own.length none++Zs.map λj=>(O[j]?).getD none) H3 {s3 with heap:=g,toks:=tk}:=by
 have sub:=bC (cells:=X.env.cells) scope.names [] (λx c h=>by cases h)
 refine⟨yo f I H K,rfl,I.bare,Un.kept kept,⟨y,P,λi x v J a T=>?_⟩,λx c h=>?_,I.ZK.fresh (Hk _),λx c h=>(gN h).elim (I.Yg x c) λz=>I.ZK.fresh (Oy z),λp F=>?_,I.ZK.kept kept,?_⟩
 .
  have s:(own++fr)[i]?=some x:=J;by_cases hi:i<own.length
  .rw [X7 (by simpa using hi),Qb,YE hi]at a
   cases a
  .rw [WC (by simpa using hi),RA,Wi]at a
   rw[WC (by lia)]at s
   cases r:Zs[i-own.length]? with
   |none=>rw[r]at a;cases a
   |some k=>
    rw[r]at a;have M:=getD_none (WV a);have hN:=f.ix.2 _ x k s r;have w:=f.frs x (Vw s);have hm:=ff w;have t:=f.frees _ hm rfl;let⟨m,S,G⟩:=I.loc;let⟨u,C,lk⟩:=G k x v hN M (.inr (.inl t));refine⟨u,C,?_⟩;rcases lk with⟨hk,_⟩|⟨_,c,A,R⟩
    .rw [t]at hk;cases hk
    .have Q:(Ah X Y scope s3 H3 fp (own++fr)).env.kindOf x=some .cell:=by
      have:=@du X.env x scope.names;show List.lookup x _=_;refine this.trans ?_;rw[w];have hk:=I.ok.kind;simp[hk,t]
     let⟨c',B⟩:=TL.mp (cR A scope.names [] hm);have:=sub x c' B;rw[A]at this;cases this;let⟨o,ho,l⟩:=R;exact .inr ⟨.inl Q,c,abK B (λz=>by have:=f.cells _ z rfl;rw[w]at this;cases this),o,kept c o ho,l⟩
 .rcases c9 h with z|⟨_,z⟩
  .exact L x c (VV z)
  .obtain ⟨v,o,ho,l⟩:=I.cell x c (sub x c z)
   exact⟨v,o,kept c o ho,l⟩
 .have N:p∈X.pn++Y:=by
   have:p∈(X.pn++Y)++[]:=F;simpa using this
  let⟨e,n,E,D,d⟩:=I.pin p N;refine⟨kept _ _ e,n,Hn (Hh e),λz=>?_,d⟩;rcases X8.mp (I.VF p.1 z)with q|q
  .exact E q
  .exact D q
 .show (List.replicate own.length none++Zs.map λj=>(O[j]?).getD none).length=(own++fr).length
  simp[f.ix.1]
def yk{b:Su}(h:RS K ρ H b O):RS K ρ H (List.replicate n none++Zs.map λj=>(b[j]?).getD none) (List.replicate n none++Zs.map λj=>(O[j]?).getD none):=by
 refine⟨by simp,λi u e=>?_⟩
 by_cases hi:i<n
 .rw [X7 (by simpa using hi),Qb,YE hi]at e
  cases e
 .rw [WC (by simpa using hi),RA,Wi]at e
  rw[WC (by simpa using hi),RA,Wi]
  cases a:Zs[i-n]? with
  |none=>rw[a]at e;cases e
  |some k=>
   rw[a]at e;let⟨v,d,c⟩:=h.val k u (getD_none (WV e));exact⟨v,by simp[d],c⟩
end
section
variable{own fr:List Str}
def fz(hc:X.calm=true)(Z6:V_ X scope own fr Zs){t:Tg}{c:CK}{n:Nat}(ha:gc.is_async=0)
  (F:∀ Y s3 H3 fp,PG (Ah X Y scope s3 H3 fp (own++fr)) gc.target (tG X.K t)/\(∀ n,PTs (Ah X Y scope s3 H3 fp (own++fr)) gc.ifs (As (Js C n).ts cs))/\A8 (Ah X Y scope s3 H3 fp (own++fr)) C ZR Zz /\
   CD (Ah X Y scope s3 H3 fp (own++fr)) C c Zn)
  {Y:List (Addr×Obj)} {a:Shared} {O:L2.St} {u:Hp} {H:List Addr} {g1:G} {ZZ:Su} {it:Addr} {fp:List Addr} {R:Nat->Heap->Prop} {Z8:It} {iI:Iter} {S:List U} {g2:G} {E:Value->Shared->Prop} {P:Value->Addr->Result->Shared->Prop}
  (I2:L2.Z0 X Y O u a) (T:Turn X.prog X.w X.K gc.target Z8 fp it R) (Zx:R 0 a.heap) (f2:∀b∈fp,AM X Y u b) (hs:RS X.K H u ZZ O) (Yk:RH X.K H u g1) (Wa:RI X.K H u iI Z8)
  (Vk:(Js C n).cm iI 0 t cs Zz Zn [] (List.replicate own.length none++Zs.map λj=>(ZZ[j]?).getD none) g1=.ok S g2)
  (fin:∀ (D Q:Addr) (s':Shared) (H':Hp) (ZO:List Addr) (V:HO) (m:Str->Option Value) (f:Flow),L2.Z0 X Y O H' s'->ZI X.K H u ZO H'->RH X.K ZO H' g2->u D=none->H' D=some V->D ∉ ZO->CK.ho X.K ZO H' c S V->s'.heap.Ns Q m->Q≠X.env.locals->(∀ x c,X.env.cells.lookup x=some c->c≠Q) ->
   (∀(N:Shared) (W1:L2.St) (Yc:Hp) (h':Heap),L2.Z0 X Y W1 Yc N->(∀b,H' b=none->b<s'.heap.objs.size->Yc b=none)->Heap.SameBut Q N.heap h'->L2.Z0 X Y W1 Yc {N with heap:=h'})->P (.ref D) Q (.ok f) s') :
  wpAny (model X.prog X.w) X.A c.new (λZQ Vj => wpAny (model X.prog X.w) X.A (newFunctionEnv scope X.env.globals (Jv X.env.cells scope.names []) [] X.env.qual none .none (some X.env)) (λRP L =>
    codeAny (model X.prog X.w) X.A (.compStart (c.exp (gc::ZR) scope pos) 0 (.ref it) ZQ {RP with scope:=relabel scope X.env}) (P ZQ RP.locals) L) E Vj) E a:=by
 refine CK.Q8 (wZ ?_);dsimp only;have M:=r9 (a.heap.push c.obj) scope.names {cls:=.type "dict",data:=.dict #[]};have RN:=(Heap.Ns.new (a.heap.push c.obj) (.type "dict")).keeps (pushCells_keeps scope.names _);have kept:∀b o,(a.heap.push c.obj).get? b=some o->(pushCells ((a.heap.push c.obj).push {cls:=.type "dict",data:=.dict #[]}) scope.names).get? b=some o:=λb o e=>pushCells_keeps _ _ b o (Hg _ e);generalize pushCells ((a.heap.push c.obj).push {cls:=.type "dict",data:=.dict #[]}) scope.names=XO at M RN kept ⊢;have I:u a.heap.objs.size=none:=I2.ZK.fresh (Hk _);have B:L2.Z0 X Y O (upd u a.heap.objs.size c.Wc) {a with heap:=a.heap.push c.obj}:=I2.laid (t':=a.toks) (λb ob q=>Hg _ q) (Hk _) (c.Q7 _ I2.Wl)
 have below:∀b∈fp,b<a.heap.objs.size:=λb d=>let⟨o,e,_⟩:=T.obj _ _ Zx b d;Hh e
 have y:∀b∈fp,AM X Y (upd u a.heap.objs.size c.Wc) b:=λb d=>⟨by rw[aa (Hn (below b d))];exact(f2 b d).1,(f2 b d).2⟩
 have hsz:(a.heap.push c.obj).objs.size=a.heap.objs.size+1:=Pq _ _;have Y5:∀b∈fp,b<(a.heap.push c.obj).objs.size:=λb d=>by rw[hsz];exact Qn (below b d)
 have I4:=xJ (tk:=a.toks) Z6 B y Y5 RN kept λx c h=>⟨_,(M.empty x c h).1⟩;let⟨pg,pts,go,Sq⟩:=F Y {a with heap:=a.heap.push c.obj} (upd u a.heap.objs.size c.Wc) fp
 have Q1:∀b o,a.heap.get? b=some o->XO.get? b=some o:=λb o e=>kept b o (Hg _ e);have YV:R 0 XO:=T.keep _ _ _ Zx λb _ o e=>Q1 b o e;have hn:a.heap.objs.size ∉ H:=λhm=>by
  let⟨k,e⟩:=TU.mp hm;let⟨o,ho⟩:=Yk.there e;rw[I]at ho;cases ho
 have sub:=bC (cells:=X.env.cells) scope.names [] (λx c h=>by cases h)
 have f4:∀b∈fp,AM (Ah X Y scope {a with heap:=a.heap.push c.obj} (upd u a.heap.objs.size c.Wc) fp (own++fr)) [] (upd u a.heap.objs.size c.Wc) b:=λb d=>by
  refine⟨(y b d).1,Hn (Y5 b d),λz=>?_,.inl d,λx c h=>(gN h).elim ((y b d).2.2.2.2.1 x c) λz=>QU (Hm (Qn (Y5 b d)) z),λp hp=>(y b d).2.2.2.2.2 p ?_⟩
  .rcases X8.mp (B.VF b z)with q|q
   .exact (y b d).2.1 q
   .exact (y b d).2.2.1 q
  .have:p∈(X.pn++Y)++[]:=hp
   simpa using this
 have loop:=vJ (X:=Ah X Y scope {a with heap:=a.heap.push c.obj} (upd u a.heap.objs.size c.Wc) fp (own++fr)) (C:=C) hc rfl Sq (c:=c) (gens:=gc::ZR) (scope:=scope) (pos:=pos) (D:=a.heap.objs.size) ZR Zz 0 gc t cs rfl rfl ha pg pts go n [] _ it fp R Z8 iI 0 [] c.Wc _ _ _ H H u g1 S g2 T Vk I4 YV f4 (yk (hs.step (ZI.fresh I))) (Yk.step_fresh I) (Wa.step (ZI.fresh I)) (ZI.fresh I) I upd_same hn CK.ho0
 refine Qt (iA (k:=0) (g:=gc) rfl ha loop (T.self _ 0 _ _ _ YV loop)) λr s' hr=>?_;let⟨⟨f,rfl⟩,ZT,H',ZO,V,J,W,hg5,hs5,hD5,hn5,Z,_⟩:=hr;have chk:∀b∈fp,(b∈X.ex\/X.ZF.heap.objs.size<=b)/\b≠X.env.locals/\(∀x c,X.env.cells.lookup x=some c->c≠b) /\∀p∈X.pn++Y,p.1≠b:=λb d=>⟨(y b d).2.2.2.1,(y b d).2.1,(y b d).2.2.2.2.1,(y b d).2.2.2.2.2⟩;have I6:L2.Z0 X Y O H' s':=B.SQ (ch:=fp) J.os J.base J.ZK J.bare chk;let⟨m',Vh,_⟩:=J.loc;refine fin a.heap.objs.size _ s' H' ZO V m' f I6 W hg5 I hD5 hn5 Z Vh (QU B.lt) (λx c h=>by let⟨v,o,ho,hd⟩:=B.cell x c h;exact Hn (Hh ho)) λN W1 Yc h' I7 hH WQ=>?_
 have hCn:Yc (a.heap.push c.obj).objs.size=none:=hH _ J.free J.lt;refine I7.turned (t':=N.toks) (it:=(a.heap.push c.obj).objs.size) (λb o d e=>(WQ.2 b d).trans e) hCn ?_ (.inr ?_) (λx c h=>?_) λp hp=>?_
 .exact QU B.lt
 .exact B.sz
 .obtain ⟨v,o,ho,hd⟩:=B.cell x c h
  exact Hn (Hh ho)
 .exact Hn (Hh (B.pin p hp).1)
def zC(z:X.calm=true)(o:V_ X scope own fr Zs){t:Tg}{l:Expr}{n:Nat}(A:gc.is_async=0)
  (hi:PI X gc.target gc.iter (tI X.K PTs.Yl (Jj (Js C n) Zt))) (W:∀x,foldedSetIterable gc.iter X.env x=pure x)
  (k:∀ Y s3 H3 fp,PG (Ah X Y scope s3 H3 fp (own++fr)) gc.target (tG X.K t)/\(∀ n,PTs (Ah X Y scope s3 H3 fp (own++fr)) gc.ifs (As (Js C n).ts cs))/\A8 (Ah X Y scope s3 H3 fp (own++fr)) C ZR Zz /\
   ∀n,PE (Ah X Y scope s3 H3 fp (own++fr)) l (tE X.K PTs.Yl ((Js C n).ev Zn))) :
  PE X (.ListComp l (gc::ZR) scope pos) (tE X.K PTs.Yl (Jk C (Js C n) (.comp own.length Zs ((t,Zt,cs)::Zz) Zn))):=by
 intro Y s O H Q I ⟨q,ρ,g,hs,y,p⟩;rw[eval_ListComp];let⟨tg,iter,ifs,TH⟩:=gc;obtain rfl:TH=0:=A;refine Pa (use:=none) rfl W (fv λx w hk=>I.ok.has x.1 (.inl (o.frees x w hk))) o.kind o.names ?_;refine thn (hi Y s O H _ I ⟨q,ρ,g,hs,y,post.bind p⟩) λv s1 h1=>thn h1 λUQ s2 h2=>?_;let⟨it,fp,tn,Z8,H2,e,I2,T,G,E,ZM,u,B,J,M,N,i⟩:=h2;subst e;revert i;cases U:(Js C n).cm u 0 t cs Zz Zn [] (List.replicate own.length none++Zs.map λj=>(q[j]?).getD none) B with
 |exc c fs g2=>intro i;exact False.elim i
 |ZV=>intro i;exact False.elim i
 |ok S g2=>
  intro i;simp![Out.bindB]at i;split at i
  .refine fz (c:=.Z5 l) z o rfl (λY s3 H3 fp=>let⟨a,b,c,d⟩:=k Y s3 H3 fp;⟨a,b,c,ke d⟩) I2 T G E (hs.step J) M N U λD Cc s' H' ZO Y0 m f I' Z r Uy TF L ⟨vs,F,R⟩ V _ _ Yt=>?_
   subst F;refine⟨m,V,λh' P=>?_⟩;refine⟨.ref D,H',Yt s' O H' h' I' (λ_ h _=>h) P,rfl,?_⟩;refine i (.ref D) (ZO++[D]) H' (Z.named Uy) (r.named TF L ⟨_,rfl,R⟩) ⟨D,rfl,?_⟩;rw[<-r.len];simp
  .exact False.elim i
def zU(k v gens scope pos):eval (.DictComp k v gens scope pos) env=comprehension (.DictComp k v gens scope pos) scope env (firstIterPos gens pos) newDict (firstAsync gens) (firstIter gens env):=rfl
def wV(J:X.calm=true)(F:X.A.units+1<cLine)(l:V_ X scope own fr Zs){t:Tg}{r o:Expr}{u q:E}{n:Nat}(L:gc.is_async=0)
  (hi:PI X gc.target gc.iter (tI X.K PTs.Yl (Jj (Js C n) Zt))) (Vg:∀x,foldedSetIterable gc.iter X.env x=pure x)
  (k:∀ Y s3 H3 fp,PG (Ah X Y scope s3 H3 fp (own++fr)) gc.target (tG X.K t)/\(∀ n,PTs (Ah X Y scope s3 H3 fp (own++fr)) gc.ifs (As (Js C n).ts cs))/\A8 (Ah X Y scope s3 H3 fp (own++fr)) C ZR Zz /\
   (∀n,PE (Ah X Y scope s3 H3 fp (own++fr)) r (tE X.K PTs.Yl ((Js C n).ev u))) /\∀n,PE (Ah X Y scope s3 H3 fp (own++fr)) o (tE X.K PTs.Yl ((Js C n).ev q))) :
  PE X (.DictComp r o (gc::ZR) scope pos) (tE X.K PTs.Yl (Jk C (Js C n) (.V5 own.length Zs ((t,Zt,cs)::Zz) u q))):=by
 intro Y s O H Q I ⟨w,ρ,g,hs,G,p⟩;rw[zU];let⟨tg,iter,ifs,TH⟩:=gc;obtain rfl:TH=0:=L;refine Pa (use:=none) rfl Vg (fv λx B hk=>I.ok.has x.1 (.inl (l.frees x B hk))) l.kind l.names ?_;refine thn (hi Y s O H _ I ⟨w,ρ,g,hs,G,post.bind p⟩) λv s1 h1=>thn h1 λUQ s2 h2=>?_;let⟨it,fp,tn,Z8,H2,e,I2,T,U,N,ZM,z,M,V,Z,Wa,i⟩:=h2;subst e;revert i;cases Vk:(Js C n).cm z 0 t cs Zz (.pair u q) [] (List.replicate own.length none++Zs.map λj=>(w[j]?).getD none) M with
 |exc c fs g2=>intro i;exact False.elim i
 |ZV=>intro i;exact False.elim i
 |ok S g2=>
  intro i;simp![Out.bindB]at i;refine fz (c:=.ZG r o) J l rfl (λY s3 H3 fp=>let⟨a,b,c,d,e⟩:=k Y s3 H3 fp;⟨a,b,c,wU (X:=Ah X Y scope s3 H3 fp (own++fr)) F d e⟩) I2 T U N (hs.step V) Z Wa Vk ?_;rintro D Cc s' H' ZO Y0 m f I' Uz y Uy TF W ⟨Z4,ws,P,R,Vo⟩ Vh _ _ Yt
  subst P;rw[R]at i;refine⟨m,Vh,λh' WQ=>?_⟩;refine⟨.ref D,H',Yt s' O H' h' I' (λ_ h _=>h) WQ,rfl,?_⟩;refine i (.ref D) (ZO++[D]) H' (Uz.named Uy) (y.named TF W ⟨_,rfl,Vo⟩) ⟨D,rfl,?_⟩;rw[<-y.len];simp
def bind_assoc{c:Type}(o:Out α)(k:α->G->Out β)(b:β->G->Out c):(o.bind k).bind b=o.bind λa g=>(k a g).bind b:=by
 cases o<;>rfl
def ve(hc:X.calm=true)(Z6:V_ X scope own fr Zs){t:Tg}{elt:Expr}{WM py:Pos}{n:Nat}{y:Str}(ha:gc.is_async=0)
  (hi:PI X gc.target gc.iter (tI X.K PTs.Yl (Jj (Js C n) Zt))) (Vg:∀x,foldedSetIterable gc.iter X.env x=pure x)
  (inner:∀ Y s3 H3 fp,PG (Ah X Y scope s3 H3 fp (own++fr)) gc.target (tG X.K t)/\(∀ n,PTs (Ah X Y scope s3 H3 fp (own++fr)) gc.ifs (As (Js C n).ts cs))/\A8 (Ah X Y scope s3 H3 fp (own++fr)) C ZR Zz /\
   ∀n,PE (Ah X Y scope s3 H3 fp (own++fr)) elt (tE X.K PTs.Yl ((Js C n).ev Zn)))
  (hN:X.N.Nodup) (hiy:X.N[i]?=some y) (hy:X.env.scope.names.lookup y=some .local) (TC:swapsWith (.ListComp elt (gc::ZR) scope pos) (some (.Name y py)) WM.line X.env=pure true) :
  PS X (.Assign [.Name y py] (.ListComp elt (gc::ZR) scope pos) WM) (Zw X.K PTs.Yl (Jn (Js C (n+1)) (.set (.nm i) (.comp own.length Zs ((t,Zt,cs)::Zz) Zn)))):=by
 intro Y s O H Dd I ⟨ZZ,ρ,g,hs,hg,p⟩;have p':Jt X.K PTs.Yl ((Jj (Js C n) Zt ZZ g).bind λa g=>(((Js C n).cm a 0 t cs Zz Zn [] (List.replicate own.length none++Zs.map λj=>(ZZ[j]?).getD none) g).bindB λS g=>if S.length<=Ab then PI.alloc (.Z5 S) g else .ZV).bind λu g=>match Af (.nm i) u ZZ with|some ZT=>Out.ok (.nx ZT) g|none=>.ZV) ρ H Dd:=by
  have e:Jn (Js C (n+1)) (.set (.nm i) (.comp own.length Zs ((t,Zt,cs)::Zz) Zn)) ZZ g=_:=rfl;rw[<-bind_assoc];exact p
 rw[exec_Assign_Name_used _ _ _ _ TC];refine ZB (Ss (ZB ?_));let⟨tg,iter,ifs,TH⟩:=gc;obtain rfl:TH=0:=ha;show wpAny _ _ (do let _<-comprehension (.ListComp elt (⟨tg,iter,ifs,0⟩::ZR) scope pos) scope X.env _ (newList []) false (eval iter X.env) (some (assign (.Name y py) X.env))) _ _ s
 refine ZB (thn (Pa (use:=some (assign (.Name y py) X.env)) (Q:=λ_ s'=>SP X Y Dd .next s') rfl Vg (fv λx hx hk=>I.ok.has x.1 (.inl (Z6.frees x hx hk))) Z6.kind Z6.names ?_) λ_ s' hq=>ZP (ZP hq));refine thn (hi Y s O H _ I ⟨ZZ,ρ,g,hs,hg,Jt.bind p'⟩) λv s1 h1=>thn h1 λUQ s2 h2=>?_;let⟨it,fp,tn,Z8,H2,e,I2,T,Zx,f2,ZM,iI,g1,Zk,Yk,Wa,p1⟩:=h2;subst e;revert p1;cases Vk:(Js C n).cm iI 0 t cs Zz Zn [] (List.replicate own.length none++Zs.map λj=>(ZZ[j]?).getD none) g1 with
 |exc c fs g2=>intro p1;exact False.elim p1
 |ZV=>intro p1;exact False.elim p1
 |ok S g2=>
  intro p1;simp![Out.bindB]at p1;split at p1
  .refine fz (c:=.Z5 elt) hc Z6 rfl (λY s3 H3 fp=>let⟨a,b,c,d⟩:=inner Y s3 H3 fp;⟨a,b,c,ke d⟩) I2 T Zx f2 (hs.step Zk) Yk Wa Vk λD Cc s' H' ZO Y0 m f I' Uz Wv Uy TF Zj ⟨vs,eo,Vo⟩ Vh nl nc Yt=>?_
   subst eo;show wpAny _ _ (assign (.Name y py) X.env (.ref D)) _ _ s';refine wpAny_assign_Name (jF (v:=.ref D) I' hN hiy (.inl hy) rfl (λs3 I3 ⟨a,WQ,ha⟩=>?_) (.inr hy));have YR:Cc≠a:=by
    rcases ha with rfl|ha
    .exact nl
    .exact Ne.symm (nc y a ha)
   refine⟨m,Vh.sameBut WQ YR,λh' YN=>⟨_,H',Yt s3 _ H' h' I3 (λ_ h _=>h) YN,?_⟩⟩;simp![PI.alloc,Out.bind,Ji,Af]at p1;by_cases hl:i<ZZ.length
   .simp only [hl,Tj]at p1
    refine p1 _ (ZO++[D]) H' (Uz.named Uy) (Wv.named TF Zj ⟨_,rfl,Vo⟩) ((hs.step (Zk.trans (Uz.named Uy))).set (u:=.ref g2.length) (v:=.ref D) ?_);refine⟨D,rfl,?_⟩;rw[<-Wv.len];simp
   .simp only [hl,Vb]at p1
    exact False.elim p1
  .exact False.elim p1
end
section
variable{W:XQ}
inductive DOk(X:Cx)(W:XQ)(r:Z7):List (Option Expr)->List Expr->List Str->List E->Prop
 |nil:DOk X W r [] [] [] []
 |cons {k a b ks e es kk e' es'}:PE X e (tE X.K W (r.ev e'))->DOk X W r ks es kk es'->DOk X W r (some (.Constant (.str k) a b)::ks) (e::es) (k::kk) (e'::es')
end
abbrev W0:XQ:=PTs.Yl
inductive FrI(X:Cx)(W:XQ)(it:Iter)(Z8:It)(D:Ends)(f:Su->G->Out Fl)(O:L2.St)(H:Hp):Prop
 |mk (ZZ:Su) (ρ:List Addr) (g:G) (hs:RS X.K ρ H ZZ O) (hg:RH X.K ρ H g) (ri:RI X.K ρ H it Z8) (p:Jt X.K W (f ZZ g) ρ H D)
section
variable{W:XQ}{a b c:Expr}{a' b' c':E}{t:Tg}
def acI{a:Expr}{bs:List Stmt}{e:List Z6}{n:Nat}(M:PassesOwn (model X.prog X.w) X.A X.env X.xe)(N:X.calm=true)(hi:PI X tg a (tI X.K W (Jj (Js C n) Zt)))(d:PG X tg (tG X.K t))(P:∀n,PSs X bs (Zw X.K W ((Js C n).ex e)))
  (c:∀x,foldedSetIterable a X.env x=pure x):PS X (.For tg a bs [] pos) (Zw X.K W (Jn (Js C n) (.for t Zt e))):=by
 have Y6:PSs X bs (λD O H=>∃m,Zw X.K W ((Js C m).ex e) D O H):=λY s O H D I ⟨m,h⟩=>P m Y s O H D I h;refine(abQ M N hi d Y6 c).imp ?_;rintro D O H ⟨f,ρ,g,c,d,p⟩;refine⟨f,ρ,g,c,d,(Jt.bind (R:=RI X.K) p).mono λE H1 ⟨U,it,g1,s1,h1,j,L⟩=>?_⟩;refine⟨λi m O H=>FrI X W it E D ((Js C m).fr t it i e) O H,⟨n,f,U,g1,c.step s1,h1,j,L⟩,?_⟩;rintro i m O H ⟨f,ρ,g,c,d,j,p⟩;cases m with
 |zero=>exact p.elim
 |succ m=>
  have b:Jt X.K W (Jq (Js C m) t it i e f g) ρ H D:=p;simp![Jq]at b;cases r:next it i g with
  |none=>simp![r]at b;exact b.elim
  |some o=>
   cases o with
   |none=>simp![r]at b;exact .inl ⟨l5 d j r,b _ ρ H .refl d c⟩
   |some u=>
    simp![r]at b;let⟨S,F⟩:=sE d j r;refine .inr ⟨S,λZT H'=>FrI X W it E D ((Js C m).fr t it (i+1) e) ZT H',λZT H' q=>⟨m,QX _,q⟩,λx H' y=>?_⟩;let⟨z,l,G⟩:=F x H' y;cases v:Af t u f with
    |none=>simp![v]at b;exact b.elim
    |some B=>
     simp![v]at b;refine⟨f,ρ,g,u,B,c.step z,l,G,jz v,λW1 V=>⟨m,B,ρ,g,V,l,?_⟩⟩;exact qS (k:=λZT g=>(Js C m).fr t it (i+1) e ZT g) (Jt.from b z) λWZ T O ZO H' s3 Q Z J=>⟨WZ,ZO,T,Z,Q,(j.step z).step s3,J⟩
inductive spW(K:Hu)(Wf:XK->XQ)(J:List Fn)(d i np:Nat)(vs:List V)(H:Hp)(Q:VK)(E:XK):Prop
 |mk (fu:Nat) (ρ:List Addr) (g:G) (S:List U) (hg:RH K ρ H g) (r:RVs K ρ H S vs) (l:S.length=np) (p:post K (Wf E) (RV K) (Aa J fu d i S g) ρ H Q)
abbrev TB(K:Hu)(J:List Fn)(d i np:Nat):Sp:=spW K (λ_=>W0) J d i np
def je{J:List Fn}{np:Nat}{Q:VK}(a:∀F,J[i]?=some F->F.np=np){W:XQ}(p:post K W (RV K) (Aa J fu d i S g) ρ H Q):S.length=np:=by
 cases d with
 |zero=>exact p.elim
 |succ d=>
  simp![Aa]at p;cases e:J[i]? with
  |none=>simp![e]at p;exact p.elim
  |some F=>
   simp![e,Bx]at p;split at p
   .rename_i h;rw[h,a F e]
   .exact p.elim
def lN{J:List Fn}{k:Nat}{f:Addr}{p:Pos}{e:XK->XQ}{h:XK}(F:X0 X.prog X.w X.K X.mg X.base CX k f fd ps (spW X.K e J d i ps.length))(j:A4 CX X h)(z:∀F,J[i]?=some F->F.np=ps.length)
  (l:Y8 k X.A) (b:Gl X x) (m:X.mg x=some (.ref f)) (n:PySem.W.keepIn X.K (.ref f)=true) (o:Binds X.K fd ps []) (v:(x==("__debug__" : Str))=false) (q:PA X (a::es) (WN X.K W0 (Jg r.ev es')))
  (u:starEach (a::es) X.env=(false,eval a X.env)::starEach es X.env) (y:(backTo pos (starEach es X.env)).any (·.1)=false) :
  PE X (.Call (.Name x p) (a::es) [] pos) (tE X.K (e h) (Jk (Aa J fu d) r (.call i es'))):=by
 refine(aac F l b m n o .nil j q v u y).imp ?_;rintro O H Q ⟨s,ρ,g,hs,b,p⟩;refine⟨s,ρ,g,hs,b,(vd (R:=RVs X.K) p).mono λB H1 ⟨t,S,g1,s1,h1,rs,c⟩=>?_⟩;exact⟨fu,t,g1,S,h1,by rw[Ux];exact rs,je z c,c⟩
def xX{J:List Fn}{k:Nat}{f:Addr}{p:Pos}{b:XK->XQ}{c:XK}(F:X0 X.prog X.w X.K X.mg X.base CX k f fd ps (spW X.K b J d i ps.length))(h:A4 CX X c)(q:∀F,J[i]?=some F->F.np=ps.length)
  (j:Y8 k X.A) (a:Gl X x) (l:X.mg x=some (.ref f)) (m:PySem.W.keepIn X.K (.ref f)=true) (n:Binds X.K fd ps []) (o:(x==("__debug__" : Str))=false) :
  PE X (.Call (.Name x p) [] [] pos) (tE X.K (b c) (Jk (Aa J fu d) r (.call i []))):=by
 refine(xv F j a l m n .nil h o).imp ?_;rintro O H Q ⟨s,ρ,g,hs,a,p⟩;have e:post X.K (b c) (RV X.K) (Aa J fu d i [] g) ρ H Q:=p;exact⟨fu,ρ,g,[],a,rfl,je q e,e⟩
end
structure OwnCl(K:Hu)(C:Addr):Prop where
 ne:PySem.W.findIn K (.ref C) "__ne__" = some (some (.builtin "object.__ne__"))
 ob:PySem.W.mroIn K C (.type "object")=some true
 ci:(PySem.W.clsIn K C).isSome=true
 ty:PySem.W.typeIn K (.ref C)=some (.type "type")
 ca:PySem.W.findIn K (.ref C) "__class__" = some (some (.builtin "object.__class__"))
 sg:PySem.W.specialIn K (.builtin "object.__class__") "__get__" = some (some (.builtin "getset_descriptor.__get__"))
 tk:PySem.W.takesIn K (.builtin "object.__class__")=some true
def ixOf_get(h:AE N x=some i):N[i]?=some x:=by
 let⟨h1,h2,_⟩:=Pk.mp h;rw[YJ h1];exact Rz some (eq_of_beq h2)
def aG(h:Hw e=some x):∃p,e = .Name x p:=by
 cases e with
 |Name y p=>cases h;exact⟨p,rfl⟩
 |_=>cases h
def dI{c:Str×List Expr}(h:BK e=some c):∃p q,e = .Call (.Name c.1 p) c.2 [] q:=by
 cases e with
 |Call f es Zc q=>
  cases Zc with
  |nil=>
   let⟨n,a,rfl⟩:=XB.mp h;let⟨p,rfl⟩:=aG a;exact⟨p,q,rfl⟩
  |cons _ _=>cases h
 |_=>cases h
def vL{a:Expr}(h:setArg es=some a):isStar a=false /\∃p pos,es=[.Call (.Name "set" p) [a] [] pos]:=by
 cases es with
 |nil=>cases h
 |cons e es=>cases es with
  |cons _ _=>cases h
  |nil=>
   let⟨c,f,h2⟩:=Vd.mp h;clear h;let⟨p,q,rfl⟩:=dI f;let⟨n,as⟩:=c;have h:=h2;dsimp only at h;by_cases d:n = "set"
   .rw [YE d]at h
    subst d;cases as with
    |nil=>cases h
    |cons b as=>cases as with
     |cons _ _=>cases h
     |nil=>
      cases hs:isStar b with
      |true=>
       have h:Hv (!isStar b) (some b)=some a:=h;rw[hs]at h;cases h
      |false=>
       have h:Hv (!isStar b) (some b)=some a:=h;rw[hs]at h;cases h;exact⟨hs,p,q,rfl⟩
   .rw [Yn d]at h;cases h
open PySem PySem.Spec PyProof.Rows L2 PySem.W
def star_ne{a:Expr}(h:isStar a=false)(b:List Expr):starEach (a::b) env=(false,eval a env)::starEach b env:=by
 cases a<;>first|rfl|cases h
def cF{env:Env}{pos:Pos}:∀{es:List Expr},es.any isStar=false->(backTo pos (starEach es env)).any (·.1)=false
 |[],_=>rfl
 |a::es,h=>by
  rw[V8,T6]at h;rw[star_ne h.1];show(false||(backTo pos (starEach es env)).any (·.1))=false;rw[cF h.2]
  rfl
def base_of{o:Expr}{m:Str}(h:Cv o=false)(w:Sem Value):attributeBase o m env w=w:=by
 cases o<;>first|rfl|cases h
open PySem PySem.Spec PyProof.Rows L2
structure Zo(T:Tab)(J:List Fn)(d:Nat)(X:Cx)(sc:Scope)(N:List Str):Prop where
 hF:∀(i:Nat) (x:Str),T.J[i]?=some x->(x==("__debug__" : Str))=false ->∃f fd ps,X.mg x=some (.ref f)/\PySem.W.keepIn X.K (.ref f)=true/\Binds X.K fd ps []/\X0 X.prog X.w X.K X.mg X.base VZ (2*d+2) f fd ps (TB X.K J d i ps.length) /\∀F,J[i]?=some F->F.np=ps.length
 cs:∀x u,T.cs.lookup x=some u ->∃v val,X.mg x=some val/\RelV v val /\∀ρ H,RV X.K ρ H u v
 bt:∀x∈T.bt,X.mg x=none
 room:Y8 (2*d+3) X.A
 hN:X.N=N
 Yx:X.env.scope=sc
 nd:N.Nodup
 calm:X.calm=true
 xe:X.xe=λ_ _=>False
def ER:Expr->Bool
 |.BoolOp ..=>true
 |_=>false
def Good(X:Cx)(C:Nat->List U->G->Out U)(e:Expr)(a:E):Prop:=
 (∀n,PE X e (tE X.K W0 ((Js C n).ev a)))/\(∀n,PT X e (tT X.K W0 ((Js C n).ts a)))/\(ER e=true ->∀n,PW X e (tT X.K W0 ((Js C n).ts a)))
section
variable{T:Tab}{J:List Fn}
def qN{r:α}{P:Prop}(h:(none:Option α)=some r):P:=by cases h
def qB{o:Option α}{f:α->Option β}{r:β}{P:Prop}(h:o.bind f=some r)(k:∀a,o=some a->f a=some r->P):P:=by
 cases o with
 |none=>cases h
 |some a=>exact k a rfl h
def qM{o:Option α}{f:α->β}{r:β}{P:Prop}(h:o.map f=some r)(k:∀a,o=some a->f a=r->P):P:=by
 cases o with
 |none=>cases h
 |some a=>exact k a rfl (WV h)
def qI{c:Bool}{x:Option α}{r:α}{P:Prop}(h:Hv c x=some r)(k:c=true->x=some r->P):P:=by
 cases c with
 |false=>cases h
 |true=>exact k rfl h
def qE{c:Prop}[Decidable c]{x y:Option α}{r:α}{P:Prop}(h:(if c then x else y)=some r)(k1:c->x=some r->P)(k2:y=some r->P):P:=by
 by_cases a:c
 .rw [YE a]at h;exact k1 a h
 .rw [Yn a]at h;exact k2 h
def aA{l:List α}(h:Hx l=true):l=[]:=by
 cases l with
 |nil=>rfl
 |cons _ _=>cases h
def gx{k:E->E}{r:E}{P:Prop}(h:Cr ce k es=some r)(K:∀a a',es=[a]->ce a=some a'->k a'=r->P):P:=by
 cases es with
 |nil=>cases h
 |cons a es=>cases es with
  |nil=>exact qM h λa' h1 h2=>K a a' rfl h1 h2
  |cons _ _=>cases h
def yn{k:E->E->E}{r:E}{P:Prop}(h:DW ce k es=some r)(K:∀a b a' b',es=[a,b]->ce a=some a'->ce b=some b'->k a' b'=r->P):P:=by
 cases es with
 |nil=>cases h
 |cons a es=>cases es with
  |nil=>cases h
  |cons b es=>cases es with
   |nil=>exact qB h λa' h1 h=>qM h λb' h2 c=>K a b a' b' rfl h1 h2 c
   |cons _ _=>cases h
def aN(h:(!b)=true):b=false:=by cases b with
 |false=>rfl
 |true=>cases h
def Good.plain(pe:∀n,PE X e (tE X.K W0 (Jk C (Js C n) e')))(he:∀whole,isTrue e X.env whole=(do let v<-whole;standAt e.pos;holding [v] (truthy v)))
  (Vm:∀r O g,Jl r e' O g=(r.ev e' O g).bind λx g=>lift (Ja x g) g) (hb:ER e=false):Good X C e e':=by
 have pe':∀n,PE X e (tE X.K W0 ((Js C n).ev e')):=λn=>by
  cases n with
  |zero=>exact PE.ZV λ_ _=>rfl
  |succ n=>exact pe n
 refine⟨pe',λn=>?_,λh=>?_⟩
 .cases n with
  |zero=>exact PT.ZV λ_ _=>rfl
  |succ n=>
   have:((Js C (n+1)).ts e')=λO g=>((Js C n).ev e' O g).bind λx g=>lift (Ja x g) g:=by funext O g;exact Vm _ _ _
   rw[this];exact xh (pe' n) he
 .rw [hb]at h;cases h
def bH{f:Expr->Option E}(c:∀e e',f e=some e'->Good X C e e'):∀{es:List Expr} {es':List E},es.any isStar=false->Ac (es.map f)=some es' ->∀n,PA X es (WN X.K W0 (Jg (Js C n).ev es'))
 |[],_,_,h=>λn=>by cases h;exact mJ
 |a::es,es',hs,h=>λn=>by
  rw[V8,T6]at hs;rw[Xu]at h;cases ea:f a with
  |none=>rw[ea]at h;cases h
  |some a'=>
   rw[ea]at h;simp![Ac]at h;cases b:Ac (es.map f)with
   |none=>rw[b]at h;cases h
   |some r'=>
    rw[b]at h;cases h;exact kQ ((c a a' ea).1 n) (bH c hs.2 b n) (star_ne hs.1 _)
def zL{o:Operator}{o':Op}(h:DL o=some o'):(o'=.add/\o = .Add)\/(o'=.sub/\o = .Sub)\/(o'=.mul/\o = .Mult)\/(o'=.fdiv/\o = .FloorDiv)\/(o'=.mod/\o = .Mod)\/(o'=.pow/\o = .Pow):=by
 cases o<;>simp![DL,reduceCtorEq,YY]at h<;>subst h<;>simp
def Zo.S1(a:Zo T J d X sc N):Y8 (2*d+2) X.A:=⟨a.room.hd,by have:=a.room.dp;lia,by have:=a.room.un;lia,a.room.gd⟩
def Zo.units(a:Zo T J d X sc N):X.A.units+2<cLine:=by have:=a.room.units;lia
def bU(a:Zo T J d X sc N){o:CmpOp}{o':Cp}(h:Cs o=some o'):Bc X o' o:=by
 refine adN a.units o' o ?_;cases o<;>simp![Cs,reduceCtorEq,YY]at h<;>subst h<;>simp
def j6{b:Expr}{o:CmpOp}(h:CF b=false):behindInMarks o b=false:=by
 cases b<;>first|rfl|cases h
def Zo.gl(a:Zo T J d X sc N)(h:sc.names.lookup x=some .globalImplicit):Gl X x:=by
 show X.env.scope.names.lookup x=_;rw[a.Yx];exact h
def aJ(h:AS x=true):(x==("__debug__" : Str))=false/\(x==("__classdict__" : Str))=false/\x ≠ "__name__":=by
 unfold AS at h;simp![Z1,Vy]at h;exact⟨h.1.1,h.1.2,λe=>by have:=h.2;rw[e]at this;simp at this⟩
def yz{t:Ty}(h:C5 x=some t):x=Str.ofString (tyName t)/\bootBuiltins x=some (.type (tyName t))/\x ≠ "__name__" /\ (x==("__debug__" : Str))=false:=by
 unfold C5 at h;split at h
 .rename_i e;cases h;subst e;exact⟨rfl,by rfl,by decide,by decide⟩
 split at h
 .rename_i e;cases h;subst e;exact⟨rfl,by rfl,by decide,by decide⟩
 split at h
 .rename_i e;cases h;subst e;exact⟨rfl,by rfl,by decide,by decide⟩
 split at h
 .rename_i e;cases h;subst e;exact⟨rfl,by rfl,by decide,by decide⟩
 split at h
 .rename_i e;cases h;subst e;exact⟨rfl,by rfl,by decide,by decide⟩
 .cases h
def uE{b:Expr}(h:B3 b=false):Dj b:=by
 cases b<;>first|exactλ_ _=>rfl|cases h
section
variable{a:Expr}{a':E}{p:Pos}
def aaM{b:Bi}{f:Str}(c:Hz f=some b)(o:X.calm=true)(u:X.A.units+64<cLine)(t:X.A.guards=some [])(g:Gl X f)(d:X.mg f=none)(j:PA X (a::es) (WN X.K W0 (Jg r.ev es')))(k:(a::es).any isStar=false):
  PE X (.Call (.Name f p) (a::es) [] pos) (tE X.K W0 (Jk C r (.bi b es'))):=by
 rw[V8,T6]at k;have h1:=star_ne (env:=X.env) k.1 es;have h2:=cF (env:=X.env) (pos:=pos) k.2;unfold Hz at c;split at c
 .rename_i e;subst e;cases c;exact se_bi (pe_callB call_len_seq g d PySem.boot_len j #[1] #[1] h1 h2) imp_len
 split at c
 .rename_i e;subst e;cases c;exact se_bi (pe_callB call_abs g d #[2] j #[1] #[1] h1 h2) imp_abs
 split at c
 .rename_i e;subst e;cases c;exact se_bi (pe_callTy (call_list_of.or (call_listD o)) g d #[2] j #[1] #[1] h1 h2) imp_list
 split at c
 .rename_i e;subst e;cases c;exact se_bi (pe_callB (call_srtX o (by lia)) g d #[2] j #[1] #[1] h1 h2) imp_srt
 cases c
end
def jU(b:Zo T J d X sc N)(c:∀e a,ce e=some a->Good X (Aa J fu d) e a){f:Str}{a:E}(h:Cg T sc ce f es Zc=some a)(p pos:Pos):Good X (Aa J fu d) (.Call (.Name f p) es Zc pos) a:=by
 exact qN h
def jZ(f:Zo T J d X sc N)(j:∀e a,ce e=some a->Good X (Aa J fu d) e a){o:Expr}{c b:Pos}(i:Cv o=false)(g:Good X (Aa J fu d) o o'){m:Str}{a:E}(h:DH T ce o' m c b es Zc=some a):Good X (Aa J fu d) (.Call (.Attribute o m c) es Zc b) a:=by
 exact qN h
def dm{a:Expr}(h:[a].any isStar=false):isStar a=false:=by simpa using h
def gm(h:BB b sc x=true):L2.Loc sc x/\(b=false->sc.names.lookup x=some .local):=by
 unfold BB at h;simp![Rx,Z1,VR]at h;rcases h with h|⟨h1,h2⟩
 .exact ⟨.inl h,λ_=>h⟩
 .exact ⟨.inr h2,λe=>by rw[e]at h1;cases h1⟩
def d9(h:Bp b sc N x=some i):N[i]?=some x/\BB b sc x=true:=by
 unfold Bp at h;split at h
 .rename_i a;exact⟨ixOf_get h,a⟩
 .cases h
def jP(h:Bp b sc N x=some i):N[i]?=some x/\L2.Loc sc x/\(b=false->sc.names.lookup x=some .local):=⟨(d9 h).1,gm (d9 h).2⟩
def Zo.RM(a:Zo T J d X sc N)(h:L2.Loc sc x):L2.Loc X.env.scope x:=by rw[a.Yx];exact h
def Zo.fnX(a:Zo T J d X sc N)(c:b=true ->∀x,X.fn x=true){x:Str}(h:b=false->sc.names.lookup x=some .local):X.fn x=true\/X.env.scope.names.lookup x=some .local:=by
 rw[a.Yx];cases b with
 |true=>exact .inl (c rfl x)
 |false=>exact .inr (h rfl)
def Zo.ndX(a:Zo T J d X sc N):X.N.Nodup:=by rw[a.hN];exact a.nd
def Zo.own(a:Zo T J d X sc N):PassesOwn (model X.prog X.w) X.A X.env X.xe:=by rw[a.xe];exact PassesOwn.never
def jf(f:Zo T J d X sc N){c:Scope}(g:∀x,BB b c x=true->L2.Loc X.env.scope x/\(X.fn x=true\/X.env.scope.names.lookup x=some .local)){t:Tg}(h:Ba b c N tg=some t):PG X tg (tG X.K t):=by
 unfold Ba at h;split at h
 .cases e:Bp b c N ‹Str› with
  |none=>rw[e]at h;cases h
  |some i=>
   rw[e]at h;cases h;let⟨h1,h2⟩:=d9 e;exact ac7 f.ndX (by rw[f.hN];exact h1) (g _ h2).1 (g _ h2).2
 .rename_i ts k p
  cases e:Ac (ts.map (BL b c N))with
  |none=>rw[e]at h;cases h
  |some is=>
   rw[e]at h;cases h;have all:∀(ts:List Expr) (is:List Nat),Ac (ts.map (BL b c N))=some is->PGs X ts (TK X.K is)/\(assignEach ts X.env).length=is.length/\(assignEach ts X.env).findIdx? (·.1)=none:=λts=>by
    induction ts with
    |nil=>intro is e;cases e;exact⟨sgs_nil,rfl,rfl⟩
    |cons a ts ih=>
     intro is e;rw[Xu]at e;cases ea:BL b c N a with
     |none=>rw[ea]at e;cases e
     |some i=>
      rw[ea]at e;simp![Ac]at e;cases n:Ac (ts.map (BL b c N))with
      |none=>rw[n]at e;cases e
      |some m=>
       rw[n]at e;cases e;let⟨l,p2,j⟩:=ih m n;cases a<;>simp![BL,reduceCtorEq]at ea
       let⟨h1,h2⟩:=d9 ea;refine⟨xb f.ndX (by rw[f.hN];exact h1) (g _ h2).1 (g _ h2).2 l,?_,?_⟩
       .show (assignEach ts X.env).length+1=_
        rw[p2];rfl
       .show List.findIdx? (·.1) ((false,_)::assignEach ts X.env)=none
        rw[List.findIdx?_cons];simp[j]
   let⟨l,p2,j⟩:=all ts is e;exact adl f.calm l p2 j
 .cases h
def gp(a:Zo T J d X sc N)(c:b=true ->∀x,X.fn x=true){t:Tg}(h:Ba b sc N tg=some t):PG X tg (tG X.K t):=jf a (λ_ z=>⟨a.RM (gm z).1,a.fnX c (gm z).2⟩) h
def y8{a:Shared}{c:Hp}{b:List Str}(h:BB true scope x=true):L2.Loc (Ah X Y scope a c fp b).env.scope x/\((Ah X Y scope a c fp b).fn x=true\/(Ah X Y scope a c fp b).env.scope.names.lookup x=some .local):=by
 have e:(Ah X Y scope a c fp b).env.scope.names.lookup x=_:=du;simp![BB,Rx,O6,VR]at h;rcases h with h|h
 .rw [h]at e;exact⟨.inl e,.inr e⟩
 .rw [h]at e;exact⟨.inr e,.inl (VR.mpr h)⟩
def yv(h:CA e'=true):Jj r e'=(λO g=>(r.ev e' O g).bind λu g=>match u with
  |.ZY xs=>Out.ok (Iter.seq xs) g
  |.xn _ xs=>Out.ok (Iter.seq xs) g
  |.ref n=>match g[n]? with
   |some (.Z5 _)=>.ok (.Z5 n) g
   |_=>.ZV
  |_=>.ZV):=by
 cases e'<;>first|rfl|cases h
def w9(k:Zo T J d X sc N){f:Expr->Option E}(j:∀e e',f e=some e'->Good X (Aa J fu d) e e'){it:Expr}(h:Dz T sc f it=some Zt):(∀n,PI X tg it (tI X.K W0 (Jj (Js (Aa J fu d) n) Zt))) /\∀x,foldedSetIterable it X.env x=pure x:=by
 have val:Hy f it=some Zt->(∀n,PI X tg it (tI X.K W0 (Jj (Js (Aa J fu d) n) Zt))) /\∀x,foldedSetIterable it X.env x=pure x:=λh=>qI h λhs h=>qB h λe' r h=>qI h λo h=>by
  cases h;have hs:=aN hs;exact⟨λn=>by rw[yv o];exact abG ((j it Zt r).1 n),λx=>by cases it<;>first|rfl|cases hs⟩
 unfold Dz at h;cases g:BK it with
 |none=>rw[g]at h;exact val h
 |some c=>
  rw[g]at h;refine qE h (λl h=>?_) val;let⟨p,q,rfl⟩:=dI g;let⟨n,es⟩:=c;have l:n = "range":=l;subst l;refine qI h λg h=>?_;simp![Z1,Vy,VR]at g;let⟨⟨h1,h2⟩,i⟩:=g;have hm:=k.bt _ (Ur.mp h1);cases es with
  |nil=>cases h
  |cons a es=>
   cases es with
   |nil=>
    refine qM h λa' m e=>?_;subst e;exact⟨λn=>zi (k.gl h2) hm ((j _ _ m).1 n) (star_ne (dm i)),λx=>rfl⟩
   |cons b es=>
    refine yn (show DW f .WI (a::b::es)=some Zt from h) λa b a' b' t m s e=>?_;cases t;subst e;rw[V8,T6]at i;exact⟨λn=>yJ (k.gl h2) hm ((j _ _ m).1 n) ((j _ _ s).1 n) (star_ne i.1) (star_ne (dm i.2)),λx=>rfl⟩
def bO(a:Zo T J d X sc N){f:Expr->Option E}(b:∀e e',f e=some e'->Good X (Aa J fu d) e e'){it:Expr}(h:CG T sc f tg it=some Zt):(∀n,PI X tg it (tI X.K W0 (Jj (Js (Aa J fu d) n) Zt))) /\∀x,foldedSetIterable it X.env x=pure x:=by
 exact w9 a b h
def uO(h:env.scope=sc):relabel scope env=A3 scope sc:=by subst h;rfl
def Zo.comp(b:Zo T J d X sc N){a fr:List Str}(e:(a++fr).Nodup)(Y:List (Addr×Obj))(c:Shared)(g:Hp)(f:List Addr):Zo T J d (Ah X Y scope c g f (a++fr)) (A3 scope sc) (a++fr):=
 ⟨b.hF,b.cs,b.bt,b.room,rfl,uO b.Yx,e,b.calm,rfl⟩
def gu{f:Expr->Option E}(c:∀e e',f e=some e'->Good X C e e'):∀{es:List Expr} {es':List E},Ac (es.map f)=some es' ->∀n,PTs X es (As (Js C n).ts es')
 |[],_,h=>λn=>by cases h;exact zN
 |a::es,es',h=>λn=>by
  rw[Xu]at h;cases ea:f a with
  |none=>rw[ea]at h;cases h
  |some a'=>
   rw[ea]at h;simp![Ac]at h;cases b:Ac (es.map f)with
   |none=>rw[b]at h;cases h
   |some r'=>
    rw[b]at h;cases h;exact xq ((c a a' ea).2.1 n) (gu c b n)
def ka(c:Zo T J d X sc N){f:Expr->Option E}(i:∀e e',f e=some e'->Good X (Aa J fu d) e e'):∀{gs:List Comprehension} {a:List (Tg×E×List E)},Dv T sc N f gs=some a->A8 X (Aa J fu d) gs a
 |[],_,h=>by cases h;trivial
 |g::gs,a,h=>qI h λl h=>qB h λt j h=>qB h λit b h=>qB h λcs m h=>qM h λr' k e=>by
  subst e;exact⟨eq_of_beq l,gp c (λe=>by cases e) j,gu i m,(bO c i b).1,(bO c i b).2,ka c i k⟩
def vj(n:Zo T J d X sc N){a:List Str}(h:Dh scope sc a (freeOf scope)=true)(p:Ac ((freeOf scope).map (AE N))=some Zs):V_ X scope a (freeOf scope) Zs:=by
 unfold Dh at h;simp![Z1,VR,WY,Rx,bne_iff_ne,Wd]at h;let⟨⟨⟨⟨⟨⟨h1,h2⟩,v⟩,u⟩,t⟩,s⟩,q⟩:=h;refine⟨h1,λx b c=>(h2 x b).resolve_left λz=>z c,λx b c=>(v x b).resolve_left λz=>z c,λx b c=>?_,t,s,q,?_⟩
 .show X.env.scope.names.lookup x.1=_
  rw[n.Yx];exact(u x b).resolve_left λz=>z c
 .have all:∀(l:List Str) (r:List Nat),Ac (l.map (AE N))=some r->r.length=l.length /\∀(j:Nat) (x:Str) (i:Nat),l[j]?=some x->r[j]?=some i->N[i]?=some x:=λl=>by
   induction l with
   |nil=>intro r e;cases e;exact⟨rfl,λj x i e=>by simp at e⟩
   |cons y l ih=>
    intro r e;rw[Xu]at e;cases ea:AE N y with
    |none=>rw[ea]at e;cases e
    |some k=>
     rw[ea]at e;simp![Ac]at e;cases f:Ac (l.map (AE N))with
     |none=>rw[f]at e;cases e
     |some r'=>
      rw[f]at e;cases e;let⟨o,p2⟩:=ih r' f;refine⟨by simp[o],λj x i m g=>?_⟩
      cases j with
      |zero=>simp at m g;subst m;subst g;exact ixOf_get ea
      |succ j=>exact p2 j x i (by simpa using m) (by simpa using g)
  rw[n.hN];exact all _ _ p
def xg(a:Zo T J d X sc N)(h:EZ T sc N x=some e'):Good X (Aa J fu d) (.Name x pos) e':=by
 refine qI h λg h=>qB h λk hk h=>?_;let⟨h1,h2,o⟩:=aJ g;have L:(k=.local\/k=.cell\/k=.free)->(AE N x).map E.L=some e'->Good X (Aa J fu d) (.Name x pos) e':=λm h=>qM h λi j e=>by
  subst e;refine .plain (λn=>aah (by rw[a.hN];exact ixOf_get j) ?_ h1 h2) (λ_=>rfl) (λ_ _ _=>rfl) rfl
  show X.env.scope.names.lookup x=_\/_;rw[a.Yx];rcases m with rfl|rfl|rfl
  .exact .inl hk
  .exact .inr (.inl hk)
  .exact .inr (.inr hk)
 cases k with
 |«local»=>exact L (.inl rfl) h
 |cell=>exact L (.inr (.inl rfl)) h
 |free=>exact L (.inr (.inr rfl)) h
 |globalImplicit=>
  refine qM h λu l e=>?_;subst e;let⟨v,val,f,c,b⟩:=a.cs x u l;exact .plain (λn=>cW (lx (a.gl hk) f c h1) b) (λ_=>rfl) (λ_ _ _=>rfl) rfl
 |globalExplicit=>exact qN h
def zS{v:Const}{k:Nat}(h:Gw v=some e'):Good X C (.Constant v k pos) e':=by
 cases v with
 |int i=>cases h;exact .plain (λn=>cW abX λ_ _=>rfl) (λ_=>rfl) (λ_ _ _=>rfl) rfl
 |bool b=>cases h;exact .plain (λn=>cW acL λ_ _=>rfl) (λ_=>rfl) (λ_ _ _=>rfl) rfl
 |none=>cases h;exact .plain (λn=>cW ab2 λ_ _=>rfl) (λ_=>rfl) (λ_ _ _=>rfl) rfl
 |str s=>cases h;exact .plain (λn=>cW oj λ_ _=>rfl) (λ_=>rfl) (λ_ _ _=>rfl) rfl
 |_=>exact qN h
section
variable(ok:Zo T J d X sc N)(ih:∀e e',ce e=some e'->Good X (Aa J fu d) e e')
include ok in
def yb(c:∀e e',ce e=some e'->Good X (Aa J fu d) e e'){a b:Expr}{o:CmpOp}(h:Fh ce a o b=some e'):Good X (Aa J fu d) (.Compare a [o] [b] pos) e':=by
 refine qI h λi h=>qB h λo' ho h=>qB h λa' g h=>qM h λb' f e=>?_;subst e;have hm:=j6 (o:=o) (aN i);refine⟨λn=>?_,λn=>?_,λh=>by cases h⟩
 .cases n with
  |zero=>exact PE.ZV λ_ _=>rfl
  |succ n=>exact aar (C:=Aa J fu d) (bU ok ho) hm ((c _ _ g).1 n) ((c _ _ f).1 n)
 .cases n with
  |zero=>exact PT.ZV λ_ _=>rfl
  |succ n=>
   cases n with
   |zero=>exact PT.ZV λ_ _=>rfl
   |succ n=>exact aam (C:=Aa J fu d) (bU ok ho) hm ((c _ _ g).1 n) ((c _ _ f).1 n)
include ok in
def xK(f:∀e e',ce e=some e'->Good X (Aa J fu d) e e'){a b c:Expr}{o q:CmpOp}(h:E5 ce a o q b c=some e'):Good X (Aa J fu d) (.Compare a [o,q] [b,c] pos) e':=by
 refine qI h λl h=>qB h λo' ho h=>qB h λm g h=>qB h λa' k h=>qB h λb' j h=>qM h λc' i e=>?_;subst e;have hm:=j6 (o:=q) (aN l);refine⟨λn=>?_,λn=>?_,λh=>by cases h⟩
 .cases n with
  |zero=>exact PE.ZV λ_ _=>rfl
  |succ n=>exact wR (C:=Aa J fu d) (bU ok ho) (bU ok g) hm ((f _ _ k).1 n) ((f _ _ j).1 n) ((f _ _ i).1 n)
 .cases n with
  |zero=>exact PT.ZV λ_ _=>rfl
  |succ n=>
   cases n with
   |zero=>exact PT.ZV λ_ _=>rfl
   |succ n=>exact wQ (C:=Aa J fu d) (bU ok ho) (bU ok g) hm ((f _ _ k).1 n) ((f _ _ j).1 n) ((f _ _ i).1 n)
include ok in
def y0(i:∀e e',ce e=some e'->Good X (Aa J fu d) e e'){a:Expr}{f:List CmpOp}{bs:List Expr}(h:Gb ce a f bs=some e'):Good X (Aa J fu d) (.Compare a f bs pos) e':=by
 cases f with
 |nil=>exact qN h
 |cons o f=>cases bs with
  |nil=>exact qN h
  |cons b bs=>cases f with
   |nil=>
    refine qI h λg h2=>?_;cases aA g;exact yb ok i h2
   |cons q f=>cases bs with
    |nil=>exact qN h
    |cons c bs=>
     refine qI h λg h2=>?_;rw[Z1]at g;cases aA g.1;cases aA g.2;exact xK ok i h2
def z5(c:∀e e',ce e=some e'->Good X (Aa J fu d) e e'){o:BoolOp}(h:Gk ce o es pos=some e'):Good X (Aa J fu d) (.BoolOp o es pos) e':=by
 cases es with
 |nil=>exact qN h
 |cons a es=>cases es with
  |nil=>
   let⟨k,g2,l⟩:=c _ _ h;have f:∀n,PW X (.BoolOp o [a] pos) (tT X.K W0 ((Js (Aa J fu d) n).ts e')):=λn=>by
    cases o with
    |And=>exact aab (g2 n)
    |Or=>exact acE (g2 n)
   exact⟨λn=>aat (k n),λn=>(f n).pt,λ_ n=>f n⟩
  |cons b ZR=>cases o with
   |And=>
    refine qB h λa' i h=>qM h λb' g e=>?_;subst e;have f:∀n,PW X (.BoolOp .And (a::b::ZR) pos) (tT X.K W0 ((Js (Aa J fu d) n).ts (.and a' b'))):=λn=>by
     cases n with
     |zero=>exactλj Y s O H Q I ⟨_,_,_,_,_,p⟩=>p.elim
     |succ n=>exact aaV ((c _ _ i).2.1 n) ((c _ _ g).2.2 rfl n)
    refine⟨λn=>?_,λn=>(f n).pt,λ_ n=>f n⟩;cases n with
    |zero=>exact PE.ZV λ_ _=>rfl
    |succ n=>exact abw (C:=Aa J fu d) ((c _ _ i).1 n) ((c _ _ g).1 n)
   |Or=>
    refine qB h λa' i h=>qM h λb' g e=>?_;subst e;have f:∀n,PW X (.BoolOp .Or (a::b::ZR) pos) (tT X.K W0 ((Js (Aa J fu d) n).ts (.or a' b'))):=λn=>by
     cases n with
     |zero=>exactλj Y s O H Q I ⟨_,_,_,_,_,p⟩=>p.elim
     |succ n=>exact acP ((c _ _ i).2.1 n) ((c _ _ g).2.2 rfl n)
    refine⟨λn=>?_,λn=>(f n).pt,λ_ n=>f n⟩;cases n with
    |zero=>exact PE.ZV λ_ _=>rfl
    |succ n=>exact ac4 (C:=Aa J fu d) ((c _ _ i).1 n) ((c _ _ g).1 n)
def ack(c:∀e e',ce e=some e'->Good X (Aa J fu d) e e'){o:UnaryOp}{a:Expr}(h:HB ce o a=some e'):Good X (Aa J fu d) (.UnaryOp o a pos) e':=by
 cases o with
 |Not=>
  refine qM h λa' b e=>?_;subst e;refine⟨λn=>?_,λn=>?_,λh=>by cases h⟩
  .cases n with
   |zero=>exact PE.ZV λ_ _=>rfl
   |succ n=>exact abz (C:=Aa J fu d) ((c _ _ b).1 n)
  .cases n with
   |zero=>exact PT.ZV λ_ _=>rfl
   |succ n=>exact aaF ((c _ _ b).2.1 n)
 |USub=>
  refine qM h λa' b e=>?_;subst e;exact .plain (λn=>aa8 ((c _ _ b).1 n)) (λ_=>rfl) (λ_ _ _=>rfl) rfl
 |_=>exact qN h
def yK{o:Option α}(h:F0 o=true):o=none:=by
 cases o with
 |none=>rfl
 |some _=>cases h
def k8(b:∀e e',ce e=some e'->Good X (Aa J fu d) e e'){lo:Option Expr}{a:Option E}(h:DY ce lo=some a)(n:Nat):PO X lo (Ck X.K W0 (Jh (Js (Aa J fu d) n).ev a)):=by
 cases lo with
 |none=>cases h;exact zl
 |some l=>exact qM h λf c e=>by subst e;exact zE ((b _ _ c).1 n)
def yM(l:X.A.units+2<cLine)(b:∀e e',ce e=some e'->Good X (Aa J fu d) e e'){a s:Expr}(h:DO ce a s=some e'):Good X (Aa J fu d) (.Subscript a s pos) e':=by
 unfold DO at h;cases f:B3 s with
 |true=>
  rw[f]at h;cases s with
  |Slice lo hi st p=>cases st with
   |none=>
    refine qB h λa' c h=>qB h λk g h=>qM h λh' i e=>?_;subst e;exact .plain (λn=>aaG ((b _ _ c).1 n) (k8 b g n) (k8 b i n)) (λ_=>rfl) (λ_ _ _=>rfl) rfl
   |some st=>exact qN h
  |_=>exact qN h
 |false=>
  rw[f]at h;refine qB h λa' c h=>qM h λb' j e=>?_;subst e;exact .plain (λn=>aci () ((b _ _ c).1 n) ((b _ _ j).1 n) (uE f)) (λ_=>rfl) (λ_ _ _=>rfl) rfl
include ok in
def mH(i:∀e e',ce e=some e'->Good X (Aa J fu d) e e'){f:Str}{p:Pos}(m:sc.names.lookup f=some .globalImplicit)(j:X.mg f=none)(g:es.any isStar=false)(h:HD ce f es=some e'):Good X (Aa J fu d) (.Call (.Name f p) es [] pos) e':=by
 refine qB h λb c h=>qI h λl h=>qM h λes' k e=>?_;subst e;cases es with
 |nil=>cases l
 |cons a es=>
  unfold E4 at c;exact .plain (λn=>aaM c ok.calm ok.room.units ok.room.gd (ok.gl m) j (bH i g k n) g) (λ_=>rfl) (λ_ _ _=>rfl) rfl
include ok in
def yj(m:∀e e',ce e=some e'->Good X (Aa J fu d) e e'){p:Pos}(v:sc.names.lookup ("isinstance" : Str)=some .globalImplicit)(q:X.mg "isinstance" = none)(f:es.any isStar=false)(h:Gq T sc ce es=some e'):Good X (Aa J fu d) (.Call (.Name "isinstance" p) es [] pos) e':=by
 cases es with
 |nil=>exact qN h
 |cons a es=>cases es with
  |nil=>exact qN h
  |cons t es=>
   refine qI h λr h1=>qB h1 λg w h2=>?_;cases aA r;refine qB h2 λtn o h=>qB h λty b h=>qB h λa' s h=>qI h λc u=>?_;let⟨p2,rfl⟩:=aG o;simp![Z1,VR]at c;cases u;let⟨l,k,j,i⟩:=yz b;rw[V8,T6]at f;exact .plain (λn=>aaE (by unfold C5 at b;revert b;(repeat' split)<;>(intro b;cases b)<;>rfl) l (ok.gl c.2) (ok.bt tn (Ur.mp c.1)) k j i (ok.gl v) q ((m _ _ s).1 n) (star_ne f.1)) (λ_=>rfl) (λ_ _ _=>rfl) rfl
include ok in
def yE(b:∀e e',ce e=some e'->Good X (Aa J fu d) e e'){f:Str}{p:Pos}(g:sc.names.lookup f=some .globalImplicit)(c:X.mg f=none)(k:es.any isStar=false)(h:Dc T sc ce f es=some e'):Good X (Aa J fu d) (.Call (.Name f p) es [] pos) e':=by
 refine qE h (λj h=>by subst j;exact yj ok b g c k h) λh=>?_
 refine qE h (λj h=>?_) (mH ok b g c k);cases l:setArg es with
 |none=>rw[l]at h;exact mH ok b g c k h
 |some a=>
  rw[l]at h;refine qI h λm h=>qM h λa' o e=>?_;subst j;subst e;simp![Z1,VR]at m;let⟨i,p2,q,rfl⟩:=vL l;exact .plain (λn=>yH ok.calm (by have:=ok.room.units;lia) (ok.gl g) c (ok.gl m.2) (ok.bt _ (Ur.mp m.1)) ((b _ _ o).1 n) (star_ne i _)) (λ_=>rfl) (λ_ _ _=>rfl) rfl
include ok in
def zG(b:∀e e',ce e=some e'->Good X (Aa J fu d) e e'){f:Str}{p:Pos}(h:Gc T sc ce f es=some e'):Good X (Aa J fu d) (.Call (.Name f p) es [] pos) e':=by
 refine qI h λs h=>?_;simp![Z1,Vy,VR]at s;let⟨⟨u,c⟩,j⟩:=s;let⟨h1,h2,v⟩:=aJ u;cases hi:AE T.J f with
 |some i=>
  rw[hi]at h;refine qM h λes' t e=>?_;subst e;let⟨w,fd,ps,r,q,o,m,l⟩:=ok.hF i f (ixOf_get hi) h1;refine .plain (λn=>?_) (λ_=>rfl) (λ_ _ _=>rfl) rfl;cases es with
  |nil=>cases t;exact xX m qC l ok.S1 (ok.gl j) r q o h1
  |cons a es=>
   have k:=c;rw[V8,T6]at k;exact lN m qC l ok.S1 (ok.gl j) r q o h1 (bH b c t n) (star_ne k.1 _) (cF k.2)
 |none=>
  rw[hi]at h;cases g:T.bt.contains f with
  |true=>
   have h:(match T.bt.contains f with|true=>Dc T sc ce f es|false=>Cg T sc ce f es [])=some e':=h
   rw[g]at h;exact yE ok b j (ok.bt f (Ur.mp g)) c h
  |false=>
   have h:(match T.bt.contains f with|true=>Dc T sc ce f es|false=>Cg T sc ce f es [])=some e':=h
   rw[g]at h;exact jU ok b h _ _
include ok in
def acv(k:∀e e',ce e=some e'->Good X (Aa J fu d) e e'){o:Expr}{m:Str}{r q:Pos}(j:Cv o=false)(c:Good X (Aa J fu d) o o')(p:(r.endLine==q.line)=true)(l:es.any isStar=false)(h:HG T ce o' m r q es=some e'):Good X (Aa J fu d) (.Call (.Attribute o m r) es [] q) e':=by
 refine qE h (λf h=>?_) λh=>?_
 .subst f
  refine gx h λa a' i g e=>?_;subst i;subst e;exact .plain (λn=>ab6 (c.1 n) ((k _ _ g).1 n) (base_of j _) p (star_ne (dm l))) (λ_=>rfl) (λ_ _ _=>rfl) rfl
 refine qE h (λf h=>?_) λh=>?_
 .subst f
  refine gx h λa a' i g e=>?_;subst i;subst e;exact .plain (λn=>aaO (c.1 n) ((k _ _ g).1 n) (base_of j _) p (star_ne (dm l))) (λ_=>rfl) (λ_ _ _=>rfl) rfl
 refine qE h (λf s=>?_) λh=>?_
 .subst f
  cases es with
  |nil=>
   cases s;exact .plain (λn=>acC (c.1 n) (base_of j _) p) (λ_=>rfl) (λ_ _ _=>rfl) rfl
  |cons b es=>
   refine gx s λa a' i g e=>?_;rw[i]at l ⊢;subst e;exact .plain (λn=>yL (c.1 n) ((k _ _ g).1 n) (base_of j _) p (star_ne (dm l))) (λ_=>rfl) (λ_ _ _=>rfl) rfl
 exact jZ ok k j c h
include ok in
def zb(a:∀e e',ce e=some e'->Good X (Aa J fu d) e e'){fn:Expr}(h:FL T sc ce fn es Zc pos=some e'):Good X (Aa J fu d) (.Call fn es Zc pos) e':=by
 cases fn with
 |Name f p=>cases Zc with
  |nil=>exact zG ok a h
  |cons k Zc=>exact jU ok a h _ _
 |Attribute o m ap=>
  refine qI h λb h=>qB h λo' ho h=>?_;have b:=aN b;cases Zc with
  |nil=>
   refine qI h λc h=>?_;rw[Z1]at c;exact acv ok a b (a _ _ ho) c.1 (aN c.2) h
  |cons k Zc=>exact jZ ok a b (a _ _ ho) h
 |_=>exact qN h
def y4(c:∀e e',ce e=some e'->Good X (Aa J fu d) e e'){a:List (Option Expr)}{vs:List Expr}(h:FX ce a vs=some e'):Good X (Aa J fu d) (.Dict a vs pos) e':=by
 cases a with
 |nil=>
  refine qI h λb h=>?_;cases aA b;cases h;exact .plain (λn=>zk) (λ_=>rfl) (λ_ _ _=>rfl) rfl
 |cons k0 a=>
  exact qN h
include ok in
def gA(i:∀e e',ce e=some e'->Good X (Aa J fu d) e e'){j:Expr->Option E}{g:Comprehension}{q:List Nat×List (Tg×E×List E)}
  (a:∀{k:Cx},Zo T J d k (A3 scope sc) (ownOf (g::ZR)++freeOf scope) ->∀e e',j e=some e'->Good k (Aa J fu d) e e') (h:Ee T sc ce N j g ZR scope=some q) :
  ∃t Zt cs Zz Zs,q=(Zs,(t,Zt,cs)::Zz)/\V_ X scope (ownOf (g::ZR)) (freeOf scope) Zs/\g.is_async=0/\(∀n,PI X g.target g.iter (tI X.K W0 (Jj (Js (Aa J fu d) n) Zt)))/\(∀x,foldedSetIterable g.iter X.env x=pure x) /\
   ∀Y s3 H3 fp,Zo T J d (Ah X Y scope s3 H3 fp (ownOf (g::ZR)++freeOf scope)) (A3 scope sc) (ownOf (g::ZR)++freeOf scope)/\PG (Ah X Y scope s3 H3 fp (ownOf (g::ZR)++freeOf scope)) g.target (tG X.K t)/\(∀n,PTs (Ah X Y scope s3 H3 fp (ownOf (g::ZR)++freeOf scope)) g.ifs (As (Js (Aa J fu d) n).ts cs)) /\
    A8 (Ah X Y scope s3 H3 fp (ownOf (g::ZR)++freeOf scope)) (Aa J fu d) ZR Zz:=by
 refine qI h λf h=>qB h λZt b h=>qB h λt l h=>qB h λcs o h=>qB h λZz p h=>qM h λZs m e=>?_;rw[Z1,VR]at f;have Z6:=vj ok f.1 m;refine⟨t,Zt,cs,Zz,Zs,e.symm,Z6,f.2,(bO ok i b).1,(bO ok i b).2,λY s3 H3 fp=>?_⟩;have c:=ok.comp (scope:=scope) Z6.nd Y s3 H3 fp;exact⟨c,jf c (λ_=>y8) l,gu (a c) o,ka c (a c) p⟩
end
def av:∀(m:Nat) {X:Cx} {sc:Scope} {N:List Str} (ok:Zo T J d X sc N) (e:Expr) (e':E),Ak T sc N m e=some e'->Good X (Aa J fu d) e e'
 |0,_,_,_,_,_,_,h=>by cases h
 |m+1,X,sc,N,ok,e,e',h=>by
  have ih:=av m ok;cases e with
  |Name x p=>exact xg ok h
  |Constant v k p=>exact zS h
  |BinOp a o b p=>
   refine qB h λo' ho h=>qB h λa' f h=>qM h λb' w e=>?_;subst e;exact .plain (λn=>xQ (zL ho) ((ih _ _ f).1 n) ((ih _ _ w).1 n)) (λ_=>rfl) (λ_ _ _=>rfl) rfl
  |Compare a os bs p=>exact y0 ok ih h
  |BoolOp o es p=>exact z5 ih h
  |UnaryOp o a p=>exact ack ih h
  |Tuple es k p=>
   refine qI h λhs h=>qM h λa' f e=>?_;subst e;exact .plain (λn=>aaL (bH ih (aN hs) f n)) (λ_=>rfl) (λ_ _ _=>rfl) rfl
  |List es p=>
   refine qI h λhs h=>qM h λa' f e=>?_;subst e;exact .plain (λn=>acy (bH ih (aN hs) f n)) (λ_=>rfl) (λ_ _ _=>rfl) rfl
  |Subscript a s p=>exact yM ok.units ih h
  |Call fn es Zc cp=>exact zb ok ih h
  |Dict keys vs p=>exact y4 ih h
  |ListComp elt gs scope p=>cases gs with
   |nil=>exact qN h
   |cons g ZR=>
    refine qB h λq i h=>qM h λZn u e=>?_;subst e;let⟨t,Zt,cs,Zz,Zs,rfl,Z6,h1,h2,j,c⟩:=gA (fu:=fu) ok ih (λl=>av m l) i;exact .plain (λn=>zC ok.calm Z6 h1 (h2 n) j λY s3 H3 fp=>⟨(c Y s3 H3 fp).2.1,(c Y s3 H3 fp).2.2.1,(c Y s3 H3 fp).2.2.2,(av m (c Y s3 H3 fp).1 _ _ u).1⟩) (λ_=>rfl) (λ_ _ _=>rfl) rfl
  |DictComp A y gs scope p=>cases gs with
   |nil=>exact qN h
   |cons g ZR=>
    refine qB h λq i h=>qB h λk' hk h=>qM h λz r e=>?_;subst e;let⟨t,Zt,cs,Zz,Zs,rfl,Z6,h1,h2,j,c⟩:=gA (fu:=fu) ok ih (λl=>av m l) i;exact .plain (λn=>wV ok.calm (by have:=ok.units;lia) Z6 h1 (h2 n) j λY s3 H3 fp=>⟨(c Y s3 H3 fp).2.1,(c Y s3 H3 fp).2.2.1,(c Y s3 H3 fp).2.2.2,(av m (c Y s3 H3 fp).1 _ _ hk).1,(av m (c Y s3 H3 fp).1 _ _ r).1⟩) (λ_=>rfl) (λ_ _ _=>rfl) rfl
  |_=>exact qN h
def um(c:Zo T J d X sc N){a:Expr}{g:Comprehension}(h:Ak T sc N (m+1) (.ListComp a (g::ZR) scope pos)=some e'):
  ∃t Zt cs Zz Zn Zs,e'=.comp (ownOf (g::ZR)).length Zs ((t,Zt,cs)::Zz) Zn/\V_ X scope (ownOf (g::ZR)) (freeOf scope) Zs/\g.is_async=0/\(∀n,PI X g.target g.iter (tI X.K W0 (Jj (Js (Aa J fu d) n) Zt)))/\(∀x,foldedSetIterable g.iter X.env x=pure x) /\
   ∀Y s3 H3 fp,PG (Ah X Y scope s3 H3 fp (ownOf (g::ZR)++freeOf scope)) g.target (tG X.K t)/\(∀n,PTs (Ah X Y scope s3 H3 fp (ownOf (g::ZR)++freeOf scope)) g.ifs (As (Js (Aa J fu d) n).ts cs)) /\
    A8 (Ah X Y scope s3 H3 fp (ownOf (g::ZR)++freeOf scope)) (Aa J fu d) ZR Zz /\∀n,PE (Ah X Y scope s3 H3 fp (ownOf (g::ZR)++freeOf scope)) a (tE X.K W0 ((Js (Aa J fu d) n).ev Zn)):=by
 refine qB h λq f h=>qM h λZn i e=>?_;let⟨t,Zt,cs,Zz,Zs,rfl,Z6,h1,h2,j,b⟩:=gA (fu:=fu) c (av m c) (λk=>av m k) f;exact⟨t,Zt,cs,Zz,Zn,Zs,e.symm,Z6,h1,h2,j,λY s3 H3 fp=>⟨(b Y s3 H3 fp).2.1,(b Y s3 H3 fp).2.2.1,(b Y s3 H3 fp).2.2.2,(av m (b Y s3 H3 fp).1 _ _ i).1⟩⟩
end
section
variable{K:Type}[DecidableEq K]{knd:HeapKind prog w K}{E:Value->Shared->Prop}{d:Addr}{k:K}{xs:List (K×Addr×Value)}
def jG{a:Type}:∀{xs:List (K×a)} {j:Nat} {p:a},(xs.map (·.1)).Nodup->xs[j]?=some (k,p)->xs.eraseIdx j=xs.filter λx=>!decide (x.1=k)
 |[],_,_,_,h=>by cases h
 |x::xs,0,p,hn,h=>by
  cases h;rw[Xu,Rw]at hn;rw[List.eraseIdx_zero,List.tail_cons,SM #[3]]
  refine(List.filter_eq_self.mpr λy c=>?_).symm;rw[Vy,TZ];exactλe=>hn.1 (WA.mpr ⟨y,c,e⟩)
 |x::xs,j+1,p,hn,h=>by
  rw[Xu,Rw]at hn;have d:x.1≠k:=λe=>hn.1 (WA.mpr ⟨(k,p),Vw (by simpa using h),e.symm⟩)
  rw[OD,SV (by simp[d]),jG hn.2 (by simpa using h)]
def uj{Q:Option DictEntry->Shared->Prop}(h:knd.room A)(m:knd.is s.heap k a)(q:s.heap.DictOfH knd d xs)(r:k∈xs.map (·.1))(hsz:xs.length<=sizeLine)
  (u:∀e h',h'.DictOfH knd d (xs.filter λx=>!decide (x.1=k))->Heap.SameBut d s.heap h'->Q (some e) {s with heap:=h',toks:=s.toks+knd.draws k}):wpAny (model prog w) A (Builtin.Dict.takeOut d (.ref a)) Q E s:=by
 let⟨o,es,ep,ho,t,c,b,f,g⟩:=q;unfold Builtin.Dict.takeOut
 try with_reducible refine Vt ?_
 refine ZB (knd.pyHash h m (ZB (wpAny_dictFind_heap (s:={s with toks:=s.toks+knd.draws k}) h m ho c b f g ?_ ?_)))
 .intro v
  exact absurd r (not_mem_keys_of_get v)
 .intro j p i
  refine ZB (Pz (s:={s with toks:=s.toks+knd.draws k}) ho c ?_)
  rw[entry_at b j,i]
  refine ZB (wpAny_updateDictKeys (hz:=by have e:=size_of_entries b;lia) (s:={ s with toks:=s.toks+knd.draws k }) ho c (ZP (u _ _ ⟨_,_,ep+1,Uh _ ho (Obj.isFreed_of_dict (Obj.data_mapDictKeys c _)),
   t.mapDictKeys _,Obj.data_mapDictKeys c _,?_,?_,?_⟩ (TR ..))))
  .rw [<-jG g i]
   let⟨l⟩:=es;have b:l=xs.map (entryOfKey knd):=b;rw[Qq,b];show(xs.map (entryOfKey knd)).eraseIdx j=_;simp[T1,O8,O9]
  .intro x n
   exact knd.keeps (f x (U4.mp n).1) ho c (TR ..)
  .exact g.sublist (List.filter_sublist.map _)
end
section
variable{O:L2.St}{b:Addr}{k:List Key}
def BU(a:List (List Key×V))(k:List Key):List (List Key×V):=a.filter λx=>!decide (x.1=k)
def KT.drop{xs:List (List Key×Addr×Value)}(r:KT H Z4 xs)(k:List Key):KT H (BU Z4 k) (xs.filter λx=>!decide (x.1=k)):=by
 induction r with
 |nil=>exact .nil
 |@cons p q ps IX a t ih=>
  unfold BU;by_cases e:p.1=k
  .rw [SM (by simp[e]),SM (by rw[<-a.1];simp[e])]
   exact ih
  .rw [SV (by simp[e]),SV (by rw[<-a.1];simp[e])]
   exact .cons a ih
def KT.keys{xs:List (List Key×Addr×Value)}(r:KT H Z4 xs):Z4.map (·.1)=xs.map (·.1):=by
 induction r with
 |nil=>rfl
 |cons a t ih=>rw[Xu,Xu,a.1,ih]
def ab0{Q:Unit->Shared->Prop}{E:Value->Shared->Prop}(j:X.A.units+1<cLine)(I:Z0 X Y O H s)(e:H a=some (.dT Z4))(y:H b=some (.ZY (k.map HV)))(l:k∈Z4.map (·.1))(h:∀s',Z0 X Y O (upd H a (.dT (BU Z4 k))) s'->Q Unit.unit s'):
  wpAny (model X.prog X.w) X.A (delItem (.ref a) (.ref b)) Q E s:=by
 let⟨z,o,xs,d,dd⟩:=hZ I.ZK e;refine wpAny_delItem_slot dd.typeIs #[1] Oq (Se Oq dd.typeIs PySem.F.entry_dict_delitem ?_ (PySem.F.args_dict_delitem_2 _ _))
 unfold Builtin.«dict.__delitem__»;refine ZB ?_;unfold Builtin.Dict.dictSlotArgs;refine ZB (wpAny_notOrdered_dict dd.typeIs ?_);show wpAny _ _ (pure (Value.ref a,Value.ref b)) _ _ s;refine ZP ?_;show wpAny _ _ (Builtin.Dict.takeOut a (.ref b) >>= _) _ _ s;refine ZB (uj (Qv j) (bI I.ZK y) dd (by rw[<-KT.keys d];exact l) (by rw[<-QC d];exact z) λe' h' B hs=>?_)
 refine ZB (wpAny_letGo (ZP ⟨.none,rfl,h _ ?_⟩));let⟨q,es,ep,f,h2,u,t,_,r⟩:=B;refine eA I (by rw[e];exact True.intro) hs ⟨q,f⟩ ⟨Hi (Sn _ _) z,o,_,(KT.drop d k).keeps λc ys g=>?_,q,es,ep,f,h2,u,t,r⟩
 rw[aa (cf g e (λz=>nomatch z))];exact g
def yC{o i:Expr}{d c:TE}{w:Pos}(q:X.A.units+1<cLine)(r:PE X o d)(hi:PE X i c):PS X (.Delete [.Subscript o i w] pos) (λD O H=>d O H λx H1=>c O H1 λy H2=>∃a b Z4 k,x=.ref a/\y=.ref b/\H2 a=some (.dT Z4)/\H2 b=some (.ZY (k.map HV))/\k∈Z4.map (·.1)/\D.nx O (upd H2 a (.dT (BU Z4 k)))):=by
 intro Y s O H D I h;refine wpAny_Delete (wpAny_deleteEach_cons (wpAny_delete_Subscript (thn (r Y s O H _ I h) λu f ⟨x,H1,C,j,n⟩=>thn (hi Y f O H1 _ C n) ?_)));rintro p E ⟨y,H2,B,g,a,b,Z4,k,ex,t,e,v,l,m⟩;subst ex t;obtain rfl:u=Value.ref a:=j;obtain rfl:p=Value.ref b:=g;exact ab0 q B e v l λs3 z=>wpAny_deleteEach_nil ⟨O,_,z,m⟩
end
def RD.drop{K:Hu}{ρ:List Addr}{H:Hp}{k:List Int}:∀{Z4:List (List Int×U)} {ws:List (List Key×V)},RD K ρ H Z4 ws->RD K ρ H (Cf Z4 k) (BU ws (k.map Sum.inl))
 |[],ws,h=>by cases h;rfl
 |(j,u)::r,ws,⟨v,t,e,h1,h2⟩=>by
  subst e;unfold Cf BU;by_cases e:j=k
  .rw [SM (by simp[e]),SM (by simp[e])]
   exact RD.drop h2
  .rw [SV (by simp[e]),SV (by simp;exactλz=>e (be.mp z))]
   exact⟨v,_,rfl,h1,RD.drop h2⟩
section
variable{W:XQ}{o i:Expr}{i':E}{Sm:Pos}
def abT(t:X.A.units+1<cLine)(w:PE X o (tE X.K W (r.ev o')))(hi:PE X i (tE X.K W (r.ev i'))):PS X (.Delete [.Subscript o i Sm] pos) (Zw X.K W (Jn r (.del o' i'))):=by
 refine(yC t w hi).imp ?_;rintro D O H ⟨h,ρ,g,hs,z,p⟩;refine⟨h,ρ,g,hs,z,(Jt.bind (R:=RV X.K) p).mono λx H1 ⟨C,u,g1,s1,h1,l,m⟩=>?_⟩;refine⟨h,C,g1,hs.step s1,h1,(Jt.bind (R:=RV X.K) m).mono λy H2 ⟨E,v,g2,s2,h2,j,p2⟩=>?_⟩;cases u with
 |ref n=>
  unfold Bb at p2;cases eg:g2[n]? with
  |none=>simp![eg]at p2;exact p2.elim
  |some ob=>
   cases ob with
   |ZG Z4=>
    simp![eg]at p2;cases d:keyOf v with
    |none=>simp![d]at p2;exact p2.elim
    |some k=>
     simp![d]at p2;by_cases hk:k∈Z4.map (·.1)
     .rw [YE hk]at p2
      let⟨q,ws,a,c,e⟩:=h2.ZG eg;let⟨F,rfl,f⟩:=RV.step s2 _ _ l;rw[a]at f;cases f;let⟨b,rfl,B⟩:=eT d j;refine⟨q,b,ws,k.map Sum.inl,rfl,rfl,c,B,?_,p2 _ E _ (ZI.XD a c trivial) (h2.XD a c trivial ⟨_,rfl,RD.drop e⟩) (((hs.step s1).step s2).step (ZI.XD a c trivial))⟩;rw[gK e];let⟨s,h1,h2⟩:=WA.mp hk;exact WA.mpr ⟨s,h1,by rw[h2]⟩
     .rw [Yn hk]at p2;exact p2.elim
   |Z5 _=>simp![eg]at p2;exact p2.elim
   |YD _=>simp![eg]at p2;exact p2.elim
   |dst _=>simp![eg]at p2;exact p2.elim
   |ins _ _=>simp![eg]at p2;exact p2.elim
 |_=>exact p2.elim
end
section
variable{T:Tab}{J:List Fn}
def iO{t:Option Expr}{l:Nat}(h:BJ e=false):swapsWith e t l env=pure false:=by
 cases e<;>first|rfl|cases h
def tU{t:Expr}{l:Nat}(h:BJ e=false):swapsWithSole [t] e l env=pure false:=by
 cases e<;>first|rfl|cases h
def tW{k:Nat}{p:Pos}{l:Nat}:swapsWithSole [.Tuple ts k p] e l env=pure false:=by
 cases e<;>rfl
def bV{f:Stmt->Option Z6}(c:∀s s',f s=some s' ->∀n,PS X s (Zw X.K W0 (Jn (Js (Aa J fu d) n) s'))):∀{ss:List Stmt} {b:List Z6},Ac (ss.map f)=some b ->∀n,PSs X ss (Zw X.K W0 ((Js (Aa J fu d) n).ex b))
 |[],_,h=>λn=>by
  cases h;cases n with
  |zero=>exact PSs.ZV λ_ _=>rfl
  |succ n=>exact pZ (r:=Js (Aa J fu d) n)
 |s::ss,b,h=>λn=>by
  rw[Xu]at h;cases ea:f s with
  |none=>rw[ea]at h;cases h
  |some s'=>
   rw[ea]at h;simp![Ac]at h;cases a:Ac (ss.map f)with
   |none=>rw[a]at h;cases h
   |some r'=>
    rw[a]at h;cases h;cases n with
    |zero=>exact PSs.ZV λ_ _=>rfl
    |succ n=>exact mj (c s s' ea n) (bV c a n)
def vg{o i:Expr}{WM:Pos}(h:B3 i=false)(v:Value):assign (.Subscript o i WM) env v=(do
   let ov<-holding [v] (eval o env)
   let iv<-holding [v,ov] (eval i env)
   standAt WM
   holding [v,ov,iv] (setItem ov iv v)
   release [v,ov,iv] []):=by
 cases i<;>first|rfl|cases h
def wo(a:Zo T J d X sc N)(y:X.env.blockKind=.function)(A:∀x,X.fn x=true){x:Str}{c:Pos}{r:Z6}(h:EV sc N (Ak T sc N m) x c e=some r)(n:Nat):PS X (.Assign [.Name x c] e pos) (Zw X.K W0 (Jn (Js (Aa J fu d) n) r)):=by
 refine qI h λf h=>qB h λi hi h=>qM h λe' o e=>?_;subst e;let⟨h1,h2,D⟩:=jP hi;have plain:BJ e=false->PS X (.Assign [.Name x c] e pos) (Zw X.K W0 (Jn (Js (Aa J fu d) n) (.set (.nm i) e'))):=λf=>mQ a.ndX (by rw[a.hN];exact h1) (a.RM h2) (.inl (A _)) ((av m a _ _ o).1 n) (iO f)
 cases e with
 |ListComp elt gs scope p=>cases gs with
  |nil=>cases f
  |cons g ZR=>
   have q:DU sc x c scope p=true:=f;cases m with
   |zero=>cases o
   |succ m=>
    let⟨t,Zt,cs,Zz,Zn,Zs,rfl,C,z,j,B,b⟩:=um a o;unfold DU at q;rw[Z1,Z1,VR,VR]at q;let⟨⟨w,v⟩,u⟩:=q;have s:X.env.scope.names.lookup x=some .local:=by rw[a.Yx];exact w
    have l:X.env.kindOf x=some .local:=s;cases n with
    |zero=>exact PS.ZV λ_ _=>rfl
    |succ n=>
     refine ve a.calm C z (j n) B b a.ndX (by rw[a.hN];exact h1) s ?_
     show(pure (X.env.blockKind==.function&&X.env.kindOf x==some .local&&c.line==p.line&&!(scope.names.any λ(n,k)=>n==x&&(k==.local||k==.cell))):Sem Bool)=pure true;rw[y,l,v,u];simp
 |_=>exact plain (aN f)
def uM(b:Zo T J d X sc N)(q:X.env.blockKind=.function)(j:∀x,X.fn x=true){t:Expr}{c:Z6}(h:EU T sc N (Ak T sc N m) t e=some c)(n:Nat):PS X (.Assign [t] e pos) (Zw X.K W0 (Jn (Js (Aa J fu d) n) c)):=by
 have f:=av (fu:=fu) m b;cases t with
 |Name x s=>exact wo b q j h n
 |Tuple ts k p=>
  cases a:Cz e with
  |true=>
   have h:(match Cz e with|true=>none|false=>(Ba true sc N (.Tuple ts k p)).bind λt=>(Ak T sc N m e).map (Z6.set t))=some c:=h
   rw[a]at h;exact qN h
  |false=>
   have h:(match Cz e with|true=>none|false=>(Ba true sc N (.Tuple ts k p)).bind λt=>(Ak T sc N m e).map (Z6.set t))=some c:=h
   rw[a]at h;refine qB h λt l h=>qM h λe' g r=>?_;subst r;refine abO ((f _ _ g).1 n) (gp b (λ_=>j) l) tW ?_ rfl;revert a;cases e<;>first|exactλ_=>rfl|exactλh2=>nomatch h2
 |Subscript o i p=>
  refine qI h λa h=>qB h λo' ho h=>qB h λi' hi h=>qM h λe' g e=>?_;subst e;rw[Z1]at a;exact aaU (by have:=b.units;lia) ((f _ _ g).1 n) ((f _ _ ho).1 n) ((f _ _ hi).1 n) (tU (aN a.2)) rfl (vg (aN a.1))
 |_=>exact qN h
def fZ(f:Zo T J d X sc N)(v:X.env.blockKind=.function)(u:∀x,X.fn x=true):∀m st s,Bt T sc N m st=some s ->∀n,PS X st (Zw X.K W0 (Jn (Js (Aa J fu d) n) s))
 |0,_,_,h=>by cases h
 |m+1,st,s,h=>λn=>by
  have ih:=fZ f v u m;have g:=av (fu:=fu) m f;cases st with
  |Return o p=>cases o with
   |none=>exact qN h
   |some e=>exact qM h λa' q e=>by subst e;exact aaP ((g _ _ q).1 n)
  |Assign ts e p=>cases ts with
   |nil=>exact qN h
   |cons t r=>
    refine qI h λj h=>?_;cases aA j;exact uM f v u h n
  |Expr e p=>exact qI h λk h=>qM h λa' q e=>by subst e;exact abD ((g _ _ q).1 n) (iO (aN k))
  |If c a b p=>exact qB h λc' k h=>qB h λa' q h=>qM h λb' l e=>by subst e;exact adq ((g _ _ k).2.1 n) (bV ih q n) (bV ih l n)
  |While c b o p=>
   refine qI h λj h=>qB h λc' k h=>qM h λb' l e=>?_;subst e;cases aA j;exact acf f.own (λn=>(g _ _ k).2.1 n) (λn=>bV ih l n)
  |For tg it b o p=>
   refine qI h λj h=>qB h λt w h=>qB h λZt hi h=>qM h λb' l e=>?_;subst e;cases aA j;exact acI f.own f.calm ((bO f g hi).1 n) (gp f (λ_=>u) w) (λn=>bV ih l n) (bO (fu:=fu) f g hi).2
  |Raise a b p=>cases h;exact PS.ZV λ_ _=>rfl
  |Delete ts p=>cases ts with
   |nil=>exact qN h
   |cons t r=>
    refine qI h λj h=>?_;cases aA j;cases t with
    |Subscript o i tp=>exact qB h λo' ho h=>qM h λi' hi e=>by subst e;exact abT (by have:=f.units;omega) ((g _ _ ho).1 n) ((g _ _ hi).1 n)
    |_=>exact qN h
  |_=>exact qN h
end
open PySem PySem.Spec PyProof.Rows L2 PySem.W
def _root_.L2.ObjOk.Q0{o:HO}(x:ObjOk P w H h a o):∃u,h.get? a=some u:=by
 cases o with
 |Z5 xs=>let⟨_,_,_,_,e⟩:=x;exact⟨_,e⟩
 |ZY xs=>let⟨_,_,_,ob,e,_⟩:=x;exact⟨_,e⟩
 |dK Z4=>let⟨_,_,_,_,o,_,_,e,_⟩:=x;exact⟨_,e⟩
 |dT Z4=>let⟨_,_,_,_,o,_,_,e,_⟩:=x;exact⟨_,e⟩
 |set Z6 n=>let⟨o,_,_,_,e,_⟩:=x;exact⟨_,e⟩
 |ins C dx fs=>let⟨_,_,_,e,_⟩:=x;exact⟨_,e⟩
 |own y=>exact x
 |xd fs=>let⟨_,⟨_,_,_,e,_⟩,_⟩:=x;exact⟨_,e⟩
 |YU lo hi=>let⟨_,_,_,e⟩:=x;exact⟨_,e⟩
 |Zm ob u=>let⟨e,_⟩:=x;exact⟨_,e⟩
 |V3 ps=>exact⟨_,(show h.get? a=some _ from x)⟩
 |met f y=>exact⟨_,(show h.get? a=some _ from x)⟩
 |ext b=>let⟨_,e,_⟩:=x;exact e
def _root_.L2.HOk.off(x:HOk P w H h)(e:h.get? a=none):H a=none:=by
 cases q:H a with
 |none=>rfl
 |some o=>let⟨u,z⟩:=(x a o q).Q0;rw[e]at z;cases z
def Tr(h:Heap)(e:Addr)(C:Value)(d:Option Addr)(T:Addr)(c:Value):Prop:=
 ∃oe a b ts,h.get? e=some oe/\oe.cls=C/\oe.dict=d/\oe.data=.fields a/\a[1]?=some (.ref T)/\T≠e/\h.get? T=some b/\b.data=.fields ts/\ts[3]?=some c
structure Yi(fr ch:List Addr)(h h':Heap):Prop where
 keep:∀b o,h.get? b=some o->b ∉ fr->b ∉ ch->h'.get? b=some o
 slot:∀b o,h.get? b=some o->b∈fr ->∃sl,h'.get? b=some {o with slots:=sl}
def Yi.trans{fr:List Addr}{f d c:Heap}(a:Yi fr ch f d)(b:Yi fr ch d c):Yi fr ch f c:=by
 refine⟨λx o e n m=>b.keep x o (a.keep x o e n m) n m,λx o e n=>?_⟩;let⟨j,h⟩:=a.slot x o e n;let⟨i,g⟩:=b.slot x _ h n;exact⟨i,g⟩
def Yi.mono{fr ch c:List Addr}(a:Yi fr ch h h')(s:∀b∈ch,b∈c):Yi fr c h h':=⟨λx o e n m=>a.keep x o e n λz=>m (s x z),a.slot⟩
section
variable{M:Model}{E:Value->Shared->Prop}{Z7 e:Addr}
def jO{o:Obj}{vs:Array Value}{fr:List Addr}{x:Value}(g:h.get? a=some o)(f:o.data=.fields vs)(d:a∈ch)(c:a ∉ fr):Yi fr ch h (h.update a (Obj.mapFields (·.setIfInBounds i x))):=
 ⟨λb u e _ m=>by
  have z:a≠b:=λz=>m (z ▸ d)
  rw [W_ _ _ z];exact e,λb u e n=>⟨u.slots,by
  have z:a≠b:=λz=>c (z ▸ n);rw[W_ _ _ z];exact e⟩⟩
def j4{vs:Array Value}{head:Value}{hn:Bool}{Q:Unit->Shared->Prop}(Xn:A.frames=some (env::outer))(hl:s.heap.FunFrames base (env::outer))(hf:env.frame=some Z7)
  (he:s.heap.get? e=some oe) (hd:oe.data=.fields vs) (hsz:1<vs.size)
  (h:∀h' T,Yi (frs (env::outer)) [e] s.heap h'->s.heap.get? T=none->Tr h' e oe.cls oe.dict T (rawInt Z7)->Q Unit.unit {s with heap:=h'}) :
  wpAny M A (do let a<-frameOf env;let pl<-entryPlaceOf Z7 hn;let b<-EntryCells.newEntry head a .none (rawInt Z7) .none pl;setField (.ref e) 1 b) Q E s:=by
 have RJ:e ∉ frs (env::outer):=λhm=>by
  let⟨_,o,ho,Tw⟩:=hl.mem hm;rw[he]at ho;cases ho;exact Tw vs hd
 refine ZB (wpAny_frameOf_fun Xn hl hf λXO S0=>?_);refine ZB (wpAny_entryPlaceOf λpl Y7=>?_);unfold EntryCells.newEntry newFields;refine ZB (Uc ?_ (Y7.sizeOk5 _ _ _ _ _));have RG : XO.get? e=some oe:=(S0.2.1 e RJ).trans he;generalize hO:({cls:=.type "traceback",dict:=none,data:=.fields ([head,.ref Z7,.none,rawInt Z7,.none]++(if pl.isEmpty then List.replicate 6 Value.none else pl)).toArray}:Obj)=Z9
 have RE:=Hg (h:=XO) Z9 RG;refine Qg RE hd hsz (h _ XO.objs.size ?_ ?_ ?_)
 .refine ⟨λb o q n m=>?_,λb o q n=>?_⟩
  .have W6:b≠e:=λz=>m (by simp[z])
   rw[W_ _ _ (Ne.symm W6)];exact Hg _ ((S0.2.1 b n).trans q)
  .have W6:b≠e:=λz=>RJ (z ▸ n)
   let⟨sl,Tz⟩:=S0.2.2 b o q;exact⟨sl,by rw[W_ _ _ (Ne.symm W6)];exact Hg _ Tz⟩
 .exact Qm (Nat.le_of_eq S0.1.symm)
 .have VL:XO.objs.size≠e:=QU (Hh RG)
  have RB:=Ug hd (·.setIfInBounds 1 (Value.ref XO.objs.size));refine⟨_,_,Z9,([head,.ref Z7,.none,rawInt Z7,.none]++(if pl.isEmpty then List.replicate 6 Value.none else pl)).toArray,Uh _ RE (RU RB),Pw _ _,?_,RB,by simp[hsz],VL,?_,?_,?_⟩
  .obtain ⟨c1,d1,dd1,s1⟩:=oe
   dsimp only at hd;subst hd
   rfl
  .rw [W_ _ _ (Ne.symm VL)]
   exact Ho XO (by rw[<-hO];rfl)
  .rw [<-hO]
  .rcases Y7 with rfl|⟨_,_,_,_,_,_,_,rfl⟩<;>simp
def uI{vs:Array Value}{Q:Unit->Shared->Prop}(j:A.frames=some (env::outer))(g:s.heap.FunFrames base (env::outer))(a:env.frame=some Z7)
  (c:s.heap.get? e=some oe) (d:oe.data=.fields vs) (f:vs[1]?=some .none)
  (h:∀h' T,Yi (frs (env::outer)) [e] s.heap h'->s.heap.get? T=none->Tr h' e oe.cls oe.dict T (rawInt Z7)->Q Unit.unit {s with heap:=h'}):wpAny M A (noteFrame (.ref e) env) Q E s:=by
 unfold noteFrame;simp![a];refine ZB (Ph c d f ?_);rw[Yn #[1]]
 exact j4 j g a c d (Vr.mp f).1 h
def kY{C:Value}{T:Addr}{Q:Unit->Shared->Prop}(G:A.frames=some (env::outer))(t:s.heap.FunFrames base (env::outer))(u:env.frame=some Z7)(D:Tr s.heap e C dx T .none)
  (h:∀h' f,Yi (frs (env::outer)) [e,T] s.heap h'->s.heap.get? f=none->Tr h' e C dx f (rawInt Z7)->Q Unit.unit {s with heap:=h'}):wpAny M A (noteFrame (.ref e) env) Q E s:=by
 let⟨oe,N,O,ts,w,rfl,rfl,y,h1,J,a,c,B⟩:=D;have H:T ∉ frs (env::outer):=λF=>by
  let⟨_,o,ho,r⟩:=t.mem F;rw[a]at ho;cases ho;exact r ts c
 unfold noteFrame;simp![u];refine ZB (Ph w y h1 ?_);rw[YE (show(Value.ref T != Value.none)=true from by simp)]
 refine ZB (Ph a c B ?_);rw[Yn (show ¬ ((Value.none==rawInt Z7)=true)from by simp[rawInt])]
 refine ZB (Qg a c (Vr.mp B).1 ?_);have L:Yi (frs (env::outer)) [T] s.heap (s.heap.update T (Obj.mapFields (·.setIfInBounds 3 Value.none))):=jO a c #[3] H
 have j:(s.heap.update T (Obj.mapFields (·.setIfInBounds 3 Value.none))).get? e=some oe:=by rw[W_ _ _ J];exact w
 have I:(s.heap.update T (Obj.mapFields (·.setIfInBounds 3 Value.none))).FunFrames base (env::outer):=t.of_keeps λb o k r=>by
  have z:T≠b:=λz=>by rw[<-z,a]at k;cases k;exact r ts c
  exact⟨o,by rw[W_ _ _ z];exact k,rfl⟩
 refine j4 G I u j y (Vr.mp h1).1 λh' f K d g=>h h' f ((L.mono #[3]).trans (K.mono #[3])) ?_ g
 have:T≠f:=λz=>by
  rw[<-z]at d;rw[Uh _ a (RU (Ug c _))]at d;cases d
 rw[W_ _ _ this]at d;exact d
def dv{C t:Value}{T:Addr}{fr:List Addr}{Q:Unit->Shared->Prop}(u:T ∉ fr)(o:Tr s.heap e C dx T t)
  (h:∀h',Yi fr [T] s.heap h'->Tr h' e C dx T .none->Q Unit.unit {s with heap:=h'}):wpAny M A (setFlight (.ref e) none) Q E s:=by
 let⟨oe,k,w,ts,f,rfl,rfl,g,h1,j,d,c,r⟩:=o;unfold setFlight;refine ZB (Ph f g h1 ?_);rw[YE (show(Value.ref T != Value.none)=true from by simp)]
 have a:3<ts.size:=(Vr.mp r).1;refine Qg d c a (h _ (jO d c #[3] u) ?_)
 refine⟨oe,k,_,_,?_,rfl,rfl,g,h1,j,Uh _ d (RU (Ug c _)),Ug c _,?_⟩
 .rw [W_ _ _ j];exact f
 .simp [a]
def ug{vs:Array Value}{Q:Unit->Shared->Prop}(u:A.frames=some (env::outer))(c:s.heap.FunFrames base (env::outer))(k:env.frame=some Z7)
  (r:s.heap.get? e=some oe) (t:oe.data=.fields vs) (f:vs[1]?=some .none)
  (h:∀h' T,Yi (frs (env::outer)) [e,T] s.heap h'->s.heap.get? T=none->Tr h' e oe.cls oe.dict T .none->Q Unit.unit {s with heap:=h'}):wpAny M A (leaving env (.ref e)) Q E s:=by
 unfold leaving;refine ZB (uI u c k r t f λf T z d g=>?_);have w:T ∉ frs (env::outer):=λj=>by
  let⟨_,o,ho,_⟩:=c.mem j;rw[d]at ho;cases ho
 exact dv w g λh2 y a=>h h2 T ((z.mono #[3]).trans (y.mono #[3])) d a
def wu{C:Value}{T:Addr}{Q:Unit->Shared->Prop}(r:A.frames=some (env::outer))(f:s.heap.FunFrames base (env::outer))(k:env.frame=some Z7)(d:Tr s.heap e C dx T .none)
  (h:∀h' a,Yi (frs (env::outer)) [e,T,a] s.heap h'->s.heap.get? a=none->Tr h' e C dx a .none->Q Unit.unit {s with heap:=h'}):wpAny M A (leaving env (.ref e)) Q E s:=by
 unfold leaving;refine ZB (kY r f k d λh1 a w g d=>?_);have t:a ∉ frs (env::outer):=λj=>by
  let⟨_,o,ho,_⟩:=f.mem j;rw[g]at ho;cases ho
 exact dv t d λh2 u c=>h h2 a ((w.mono #[3]).trans (u.mono #[3])) g c
end
open PySem PySem.Spec PySem.Calls PyProof.Rows L2 PySem.W PySem.Builtin PySem.Builtin.ObjectAttr
def aT(a:Value){l:List Value}(h:Ds.contains l=true):refuseLoop a "__setattr__" l=pure Unit.unit:=by
 have h:=Ur.mp h;unfold Ds at h;simp![X8,OJ,or_false]at h;rcases h with rfl|rfl|rfl|rfl<;>kernel_rfl
def jH(a:Value):∀{l:List Value},AR l=true->refuseLoop a "__setattr__" l=pure Unit.unit
 |.ref C::r,h=>by rw[refuseLoop_ref];exact jH a (by simpa[AR]using h)
 |[],h=>aT a (by simpa[AR]using h)
 |.type T::r,h=>aT a (by simpa[AR]using h)
 |.none::r,h=>aT a (by simpa[AR]using h)
 |.bool _::r,h=>aT a (by simpa[AR]using h)
 |.int _ _::r,h=>aT a (by simpa[AR]using h)
 |.float _ _::r,h=>aT a (by simpa[AR]using h)
 |.str _ _::r,h=>aT a (by simpa[AR]using h)
 |.bytes _ _::r,h=>aT a (by simpa[AR]using h)
 |.builtin _::r,h=>aT a (by simpa[AR]using h)
section
variable{E:Value->Shared->Prop}{K:Frag}{x C:Addr}{ox:Obj}{od:Option Obj}{v:Value}
def wy{tk:Tok}{R:Result->Shared->Prop}(X:K.In s.heap)(I:PySem.W.InstAt s.heap x ox C od)(m:CP K C=true)(l:takerIn K C name=some none)
  (h:∀ b,wpAny (model prog w) A.in1 (storeInOwnDict (.ref x) (.ref C) (.str name tk) name v b)
   (λi s'=>match i with|.done f=>R (.ok f) s'|.again c'=>c'.quiet=true/\codeAny (model prog w) A c' R s') (λe s'=>R (.error e) s') s) :
  codeAny (model prog w) A (.call (.builtin "object.__setattr__") ⟨[.ref x,.str name tk,v],[]⟩) R s:=by
 have d:=PySem.F.store_object;let⟨q,j,ho⟩:=any_some m;simp![Z1,Vy]at ho;let⟨⟨h1,h2⟩,k⟩:=ho;have sub:Looks (model prog w) s.heap (isInstance (.ref x) (.type "object")) true:=I.type.andThen (looks_mroIn X (by unfold mroIn;rw[j,Qr,Yn (by rw[k];decide),h2]))
 refine QQ d.slot.plain d.entry (@check_slot (model prog w) _ _ s "object.__setattr__" "object" "__setattr__" (.ref x) [.str name tk,v] [] _ d.kind d.split sub (d.args (.ref x) (.str name tk) v) ?_);let⟨c,p,g⟩:=Vd.mp l;have n:Looks (model prog w) s.heap (mroOf (.ref C)) q.mro:=(looks_clsIn X j).andThen .now;have r:Looks (model prog w) s.heap (storeTaker? c) none:=by
  cases c with
  |none=>exact .now
  |some a=>
   let⟨b,o,g⟩:=XB.mp g;refine(looks_takesIn X o).andThen ?_;cases b with
   |true=>cases g
   |false=>exact .now
 rw[osa_eq,refuse_eq];refine ZB (ZB (I.type.here (ZB (n.here ?_))));rw[jH _ h1];refine ZP (ZB (I.type.here (ZB ((OV X p).here (ZB (r.here ?_))))));exact h _
def wY{Q:Unit->Shared->Prop}(X:K.In s.heap)(he:s.heap.get? x=some ox)(hc:ox.cls=.ref C)(Tv:ox.dict=none)(XH:notCls ox=true)(hs:findIn K (.ref C) "__setattr__" = some (some (.builtin "object.__setattr__")))(hp:CP K C=true)(ht:takerIn K C name=some none)(hh:hasDictIn K C=true)
  (h:∀h' dx,s.heap.get? dx=none->h'.get? x=some {ox with dict:=some dx}->h'.Ns1 dx (λy=>if y=name then some v else none)->(∀b o,b≠x->s.heap.get? b=some o->h'.get? b=some o)->Q Unit.unit {s with heap:=h',toks:=s.toks+2}) :
  wpAny (model prog w) A (setAttr (.ref x) name v) Q E s:=by
 have I:PySem.W.InstAt s.heap x ox C none:=⟨he,hc,XH,by rw[Tv];trivial⟩
 refine set_plain X I hs (wy (s:={s with toks:=s.toks+1}) X I hp ht λb=>?_)
 let⟨cd,Y9,Ys⟩:=any_some hh;let⟨JT,odi,Va,YK⟩:=ox;dsimp only at hc Tv;subst hc;subst Tv;refine ZB (ZP (ZB ?_));show wpAny _ _ (instanceDict x true) _ _ _;unfold instanceDict;refine ZB (wpAny_loadPart he ?_);dsimp only;refine ZB ((looks_clsIn X Y9).here (s:={s with toks:=s.toks+1}) ?_)
 rw[Ys];have he1:(s.heap.push {cls:=.type "dict",data:=.dict #[]}).get? x=some ⟨.ref C,none,Va,YK⟩:=Hg _ he;have hxs:x≠s.heap.objs.size:=Hn (Hh he);show wpAny _ _ (match Va with|.cls _=>pure none|_=>_) _ _ _
 have fin:∀{R:Option Addr->Shared->Prop} {E':Value->Shared->Prop},R (some s.heap.objs.size) {s with heap:=(s.heap.push {cls:=.type "dict",data:=.dict #[]}).update x λo=>{cls:=o.cls,dict:=some s.heap.objs.size,data:=o.data,slots:=o.slots},toks:=s.toks+1}->wpAny (model prog w) A.in1 (do
   let d<-PySem.alloc {cls:=.type "dict",data:=.dict #[]}
   update x λo=>{cls:=o.cls,dict:=some d,data:=o.data,slots:=o.slots}
   dictMade (.ref C) x d) R E' {s with toks:=s.toks+1}:=λq=>ZB (wpAny_alloc' (ZB (wpAny_update' he1 (ZP q))))
 have key:∀{Q':Fin->Shared->Prop} {E':Value->Shared->Prop},(∀h',h'.get? x=some ⟨.ref C,some s.heap.objs.size,Va,YK⟩->h'.Ns1 s.heap.objs.size (λy=>if y=name then some v else none)->(∀b o,b≠x->s.heap.get? b=some o->h'.get? b=some o)->Q' (.done (.ret .none)) {s with heap:=h',toks:=s.toks+2}) ->
   wpAny (model prog w) A.in1 (storeInDict s.heap.objs.size (.str name s.toks) name v) Q' E' {s with heap:=(s.heap.push {cls:=.type "dict",data:=.dict #[]}).update x λo=>{cls:=o.cls,dict:=some s.heap.objs.size,data:=o.data,slots:=o.slots},toks:=s.toks+1}:=λ{Q' E'} q=>by
  generalize Tu:((s.heap.push {cls:=.type "dict",data:=.dict #[]}).update x λo=>{cls:=o.cls,dict:=some s.heap.objs.size,data:=o.data,slots:=o.slots})=h1;have hgd:h1.get? s.heap.objs.size=some {cls:=.type "dict",data:=.dict #[]}:=by
   rw[<-Tu];exact(Heap.get?_update_ne _ _ _ _ hxs.symm).trans (Heap.get?_push_at rfl rfl)
  have hgx:h1.get? x=some ⟨.ref C,some s.heap.objs.size,Va,YK⟩:=by
   rw[<-Tu];refine Uh _ he1 ?_;have Xn:=(Heap.get?_some_iff.mp he).2;cases Va<;>first|rfl|exact Xn
  have UC:h1.Ns s.heap.objs.size (λ_=>none):=⟨_,#[],_,hgd,rfl,λe he=>absurd he #[3],λ_=>rfl⟩
  unfold storeInDict newKeyGuard;refine ZB (ZP (ZB (wpAny_nsSet1 (s:={s with heap:=h1,toks:=s.toks+1}) (Heap.Ns1.of_empty UC) λh' Zj VU=>?_)))
  let⟨oD,esD,epD,hoD,hdD,V9⟩:=Zj.count (PySem.Within.cons name v PySem.Within.nil);refine ZB (wpAny_lookBehind hoD (by rw[hdD];exact pastItsLine_dict (Hi V9 (by rw[WJ,Ta,UP];lia))) ?_)
  refine ZP (q h' ((VU.2 x hxs).trans hgx) Zj λb o hb e=>?_);refine(VU.2 b (Hn (Hh e))).trans ?_;rw[<-Tu];exact(Heap.get?_update_ne _ _ _ _ hb).trans (Hg _ e)
 cases Va with
 |cls cd'=>cases XH
 |_=>exact fin (key λh' a1 a2 a3=>h h' _ (Qm (Hk _)) a1 a2 a3)
end
open PySem PySem.Spec PySem.Calls PyProof.Rows L2 PySem.W
section
variable{E:Value->Shared->Prop}{g:Array GenState}{d:Drawn}{t:Nat}{os:OsState}
variable{nm q:Str}{C N:Addr}{bs:List Value}{hdct:Bool}{sn:List Str}{ab:Bool}{dd:Option Addr}{k0 k1 k2 k3 k5:Option Value}{B Yh:String}
def tS(F:ExcBaseFacts B newId Yh Yz)(T:OwnTail h Yz bm){mN:Str->Option Value}{a:List Value}{u:Obj}{Q:Fin->Shared->Prop}
  (f:h.get? C=some (excClassObj nm q C N bs bm hdct sn sub ab col dd k0 k1 k2 k3 k5 newId)) (H:h.Ns N mN) (hi:mN "__init__" = some (.ref fI)) (J:h.get? fI=some u) (K:u.cls=.type "function")
  (G:∀h' e,Heap.MadeExcOf h h' e (.ref C) a->wpAny (model prog w) A (call (.ref fI) (.ref e::a)) (λr s'=>r=.none/\Q (.done (.ret (.ref e))) s') E ⟨h',g,d,t,os⟩) (L:a.length<=sizeLine) :
  wpAny (model prog w) A (Builtin.«type.__call__» ⟨.ref C::a,[]⟩) Q E ⟨h,g,d,t,os⟩:=by
 repeat (first|with_reducible refine QM f ?_|with_reducible refine wpAny_madeBy_exc f ?_|wp_step)
 refine codeAny_call_builtin_code (Pe _ F.quiet) (wpAny_check_new_subT F T f ?_);refine codeAny_exc_new_subT F T f ?_ L;show wpAny _ _ _ _ _ _;have c:∀(b:Addr) (o:Obj),h.get? b=some o->((h.push {cls:=.type "tuple",data:=.seq a.toArray}).push {cls:=.ref C,data:=.fields #[.ref h.objs.size,.none,.none,.none,.bool false,.none]}).get? b=some o:=
  λb o e=>Hg _ (Hg _ e)
 have z:=c _ _ f;have M:=c _ _ J;have O:=H.keeps c;have j:=T.keeps c;have y:((h.push {cls:=.type "tuple",data:=.seq a.toArray}).push {cls:=.ref C,data:=.fields #[.ref h.objs.size,.none,.none,.none,.bool false,.none]}).get? (h.objs.size+1)=some
   {cls:=.ref C,data:=.fields #[.ref h.objs.size,.none,.none,.none,.bool false,.none]}:=by heap_get
 have k:(Value.ref C::bm).contains (.ref C)=true:=by simp
 unfold isInstance
 repeat (first|with_reducible refine QM y ?_|(with_reducible refine wpAny_isSubtype_exc z ?_;rw[k])|wp_step)
 show wpAny _ _ (typeLookup (.ref C) _) _ _ _;refine wpAny_typeLookup_tail z O j F.mroIs F.init.lookup ?_;rw[hi];refine Vt (ZB ?_);unfold bindSpecial;refine ZB (OP (T:="function") ⟨_,M,K⟩ ?_);rw[YE #[1]]
 refine ZP (ZB (UM (G _ (h.objs.size+1) ⟨c,Qm (VY _),h.objs.size,y,Qm (Hk _),?_⟩) (λr s' D=>?_) λ_ _ x=>x))
 .exact Hg _ (Heap.get?_push_at rfl rfl)
 .obtain ⟨rfl,I⟩:=D
  wp_walk
  exact I
def wb(F:ExcBaseFacts B newId Yh Yz)(T:OwnTail h Yz bm){mN:Str->Option Value}{a:List Value}{c:Obj}{Q:Value->Shared->Prop}
  (b:h.get? C=some (excClassObj nm q C N bs bm hdct sn sub ab col dd k0 k1 k2 k3 k5 newId)) (i:h.Ns N mN) (hi:mN "__init__" = some (.ref fI)) (k:h.get? fI=some c) (l:c.cls=.type "function")
  (f:∀h' e,Heap.MadeExcOf h h' e (.ref C) a->wpAny (model prog w) (A.under (.builtin "type.__call__" ⟨.ref C::a,[]⟩)) (call (.ref fI) (.ref e::a)) (λr s'=>r=.none/\Q (.ref e) s') E ⟨h',g,d,t,os⟩) (m:a.length<=sizeLine) :
  wpAny (model prog w) A (call (.ref C) a) Q E ⟨h,g,d,t,os⟩:=by
 have f1:=tc_lookup;have f2:=tc_bind (.ref C);have n:(⟨h,g,d,t,os⟩:Shared).TypeIs (.ref C) "type":=⟨_,b,rfl⟩;refine Oc (P4 ?_);show wpAny _ _ (callAny (.ref C) _) _ _ _
 repeat (any_goals (first|assumption|with_reducible refine QM b ?_|wp_step))
 refine⟨rfl,?_⟩;refine codeAny_call_builtin_at (Pe _ (by decide +kernel)) entry_typeCall (wpAny_check_type_call_sub b (tS F T b i hi k l (λh' e j=>?_) m))
 exact f h' e j
end
section
variable{M:Model}{E:Value->Shared->Prop}
variable{nm q:Str}{C N:Addr}{bs:List Value}{hdct:Bool}{sn:List Str}{ab:Bool}{dd:Option Addr}{k0 k1 k2 k3 k5:Option Value}
def uy{x:Sem Value}{Q:Flow->Shared->Prop}(r:bm.contains (.type "BaseException")=true)(j:A.handled=none)
  (h:wpAny M A x (λv a => ∃ e t dx,v=.ref e/\a.heap.get? C=some (excClassObj nm q C N bs bm hdct sn sub ab col dd k0 k1 k2 k3 k5 newId) /\
   a.heap.get? e=some {cls:=.ref C,dict:=dx,data:=.fields #[.ref t,.none,.none,.none,.bool false,.none]}/\E (.ref e) a) E s) :
  wpAny M A (raiseStmt env (some x) none) Q E s:=by
 have c:(Value.ref C::bm).contains (.type "BaseException")=true:=by rw[List.contains_cons,r,Bool.or_true]
 unfold raiseStmt;refine ZB (UM h (λv a u=>?_) λ_ _ x=>x);let⟨e,t,dx,rfl,f,k,o⟩:=u;let⟨w,g,d,tk,os⟩:=a
 repeat (first|with_reducible refine QM k ?_|with_reducible refine QM f ?_|(with_reducible refine wpAny_isSubtype_exc f ?_;rw[c])|wp_step)
 exact wpAny_raiseNew_none j o
end
section
variable{E:Value->Shared->Prop}
variable{nm q:Str}{C N:Addr}{bs:List Value}{hdct:Bool}{sn:List Str}{ab:Bool}{dd:Option Addr}{k0 k1 k2 k3 k5:Option Value}{B Yh:String}
def u1(F:ExcBaseFacts B newId Yh Yz){mN:Str->Option Value}{J:Pos}{args:List Expr}{I:Obj}{Q:Flow->Shared->Prop}
  (U:bm.contains (.type "BaseException")=true) (R:A.handled=none) (X:(backTo Zq (starEach args env)).any (·.1)=false) (hi:mN "__init__" = some (.ref fI)) (W:I.cls=.type "function")
  (h:wpAny (model prog w) A (eval (.Name x J) env) (λf L => f=.ref C/\wpAny (model prog w) A (evalArgs (.ref C) true (backTo Zq (starEach args env)) [])
   (λa c => a.kw=[]/\a.pos.length<=sizeLine/\c.heap.get? C=some (excClassObj nm q C N bs bm hdct sn sub ab col dd k0 k1 k2 k3 k5 newId)/\c.heap.Ns N mN/\OwnTail c.heap Yz bm/\c.heap.get? fI=some I /\
    ∀h' e,Heap.MadeExcOf c.heap h' e (.ref C) a.pos->wpAny (model prog w) (A.under (.builtin "type.__call__" ⟨.ref C::a.pos,[]⟩)) (call (.ref fI) (.ref e::a.pos))
     (λr o=>r=.none/\o.heap.get? C=some (excClassObj nm q C N bs bm hdct sn sub ab col dd k0 k1 k2 k3 k5 newId)/\(∃t dx,o.heap.get? e=some {cls:=.ref C,dict:=dx,data:=.fields #[.ref t,.none,.none,.none,.bool false,.none]})/\E (.ref e) o) E {c with heap:=h'}) E L) E s) :
  wpAny (model prog w) A (exec (.Raise (some (.Call (.Name x J) args [] Zq)) none pos) env) Q E s:=by
 rw[arm_exec_Raise];refine ZB (Ss (uy (C:=C) (nm:=nm) (q:=q) (N:=N) (bs:=bs) (bm:=bm) (hdct:=hdct) (sn:=sn) (sub:=sub) (ab:=ab) (col:=col) (dd:=dd) (k0:=k0) (k1:=k1) (k2:=k2) (k3:=k3) (k5:=k5) (newId:=newId) U R (ZB (UM (wpAny_Call_ofName (UM h (λf L G=>?_) λ_ _ x=>x)) (λv o j=>ZB (Ss (ZP j))) λ_ _ x=>x))));let⟨rfl,G⟩:=G;unfold callWith;refine ZB (Vt (UM G (λa c H=>ZB (Ss ?_)) λ_ _ x=>x));let⟨apos,D⟩:=a;let⟨u,k,K,O,T,V,H⟩:=H;obtain rfl:D=[]:=u;let⟨Y,g,d,tk,os⟩:=c;simp![X];refine ZB (wpAny_keeperOf_exc K ?_);refine ZB (wb F T K O hi V W (λh' e P=>?_) k);refine UM (H h' e P) (λr o ⟨M,y,⟨t,dx,he⟩,S⟩=>⟨M,ZB (Vt (wpAny_point (ZP ⟨e,t,dx,rfl,y,he,S⟩)))⟩) λ_ _ z=>z
end
abbrev Xb(e:Addr)(oe:Obj):HO:=.ext λh=>h.get? e=some oe
def Bs(H:Hp)(e:Addr):Hp:=λa=>if a=e then none else H a
def bB{e:Addr}(h:a≠e):Bs H e a=H a:=by unfold Bs;rw[Yn h]
def jE{e:Addr}:Bs H e e=none:=by unfold Bs;rw[YE rfl]
section
variable{O:L2.St}{e:Addr}
def acS(I:L2.Z0 X Y O H s)(f:s.heap.get? e=some oe)(l:H e=none)(r:X.ZF.heap.get? e=none)(j:e≠X.env.locals)(i:∀x c,X.env.cells.lookup x=some c->c≠e)(h:∀p∈X.pn++Y,p.1≠e):L2.Z0 X Y O (upd H e (Xb e oe)) s:=by
 have d:∀b u,H b=some u->b≠e:=λb u q z=>by rw[z,l]at q;cases q
 refine⟨I.ok,I.os,I.bare,⟨I.base.keep,I.base.slot,λb o q n g=>?_,I.base.there,λb xs q=>?_,λb o u q=>?_,λb ps q=>?_⟩,I.loc,I.cell,?_,λx c q=>?_,λp q=>?_,λa o q=>?_,I.len⟩
 .rw [aa (λz=>by rw[z,r]at q;cases q)];exact I.base.free b o q n g
 .have:=I.base.Xx b xs q;rw[aa (d b _ this)];exact this
 .have:=I.base.XJ b o u q;rw[aa (d b _ this)];exact this
 .obtain ⟨m,this⟩:=I.base.Xw b ps q;exact⟨m,by rw[aa (d b _ this)];exact this⟩
 .rw [aa (Ne.symm j)];exact I.free
 .rw [aa (i x c q)];exact I.Yg x c q
 .obtain ⟨A,y,w,v,t⟩:=I.pin p q
  exact⟨A,by rw[aa (h p q)];exact y,w,v,t⟩
 .by_cases z:a=e
  .subst z
   rw[upd_same]at q;cases q;exact⟨f,⟨oe,f⟩,λh1 h2 p k=>k _ p⟩
  .rw [aa z]at q
   exact(I.ZK a o q).Yt (λ_ _ _ k=>k) (λb k=>by rw[aa (d b _ k)];exact k) λb xs k=>by rw[aa (d b _ k)];exact k
def yN{g:Heap->Prop}(I:L2.Z0 X Y O H s)(i:H e=some (.ext g)):L2.Z0 X Y O (Bs H e) s:=by
 have sub:∀b,H b=none->Bs H e b=none:=λb q=>by
  unfold Bs;split
  .rfl
  .exact q
 have f:∀b u,H b=some u->(∀d,u ≠ .ext d)->b≠e:=λb u q k z=>by rw[z,i]at q;cases q;exact k _ rfl
 refine⟨I.ok,I.os,I.bare,⟨I.base.keep,I.base.slot,λb o q n h=>sub b (I.base.free b o q n h),I.base.there,λb xs q=>?_,λb o u q=>?_,λb ps q=>?_⟩,I.loc,I.cell,sub _ I.free,λx c q=>sub _ (I.Yg x c q),λp q=>?_,λa o q=>?_,I.len⟩
 .have:=I.base.Xx b xs q;rw[bB (f b _ this (by intro d z;cases z))];exact this
 .have:=I.base.XJ b o u q;rw[bB (f b _ this (by intro d z;cases z))];exact this
 .obtain ⟨m,this⟩:=I.base.Xw b ps q;exact⟨m,by rw[bB (f b _ this (by intro d z;cases z))];exact this⟩
 .obtain ⟨v,t,r,l,j⟩:=I.pin p q
  exact⟨v,sub _ t,r,l,j⟩
 .have z:a≠e:=λz=>by rw[z,jE]at q;cases q
  rw[bB z]at q;exact(I.ZK a o q).Yt (λ_ _ _ k=>k) (λb k=>by rw[bB (f b _ k (by intro d z;cases z))];exact k) λb xs k=>by rw[bB (f b _ k (by intro d z;cases z))];exact k
end
structure SY(K:Frag)(C:Addr)(f:Str):Prop where
 sa:findIn K (.ref C) "__setattr__" = some (some (.builtin "object.__setattr__"))
 ov:CP K C=true
 tk:takerIn K C f=some none
 hd:hasDictIn K C=true
section
def GP(C:Addr)(f:Str)(i j:Nat):TS:=λD O H=>∃e oe v,O[i]?=some (some (.ref e))/\O[j]?=some (some v)/\H e=some (Xb e oe)/\oe.cls=.ref C/\oe.dict=none/\notCls oe=true /\
 ∀dx,H dx=none->D.nx O (upd (upd H dx (.xd [(f,v)])) e (Xb e {oe with dict:=some dx}))
def za{d p f:Str}{Q W:Pos}{C:Addr}(F:SY X.K C f)(hi:PE X (.Name d Q) (Ed i))(Z:PE X (.Name p p2) (Ed j)):PS X (.Assign [.Attribute (.Name d Q) f W] (.Name p p2) pos) (GP C f i j):=by
 intro Y s O H D I ⟨e,oe,v,ei,ej,c,hc,Tv,XH,q⟩;refine plainObj_wpAny_Assign_Attribute (thn (Z Y s O H (λy H1=>y=v/\H1=H) I ⟨v,ej,rfl,rfl⟩) λu T ⟨y,H1,S,U,e1,L⟩=>thn (hi Y T O H1 (λy H2=>y=.ref e/\H2=H) (by rw[L]at S ⊢;exact S) ⟨_,ei,rfl,L⟩) λov P ⟨x,H2,t,V,e3,e4⟩=>?_) #[2]
 subst e1;subst L;subst e3;subst e4;obtain rfl:ov=Value.ref e:=V;let⟨R,_,_⟩:=(show ObjOk X.prog X.w _ P.heap e (Xb e oe)from t.ZK e _ c);refine wY t.Yv R hc Tv XH F.sa F.ov F.tk F.hd λh' dx B E UO hk=>?_;have r:=t.ZK.off B;have U9:dx≠e:=λz=>by rw[z,R]at B;cases B
 refine⟨O,_,t.un (h':=h') (t':=P.toks+2) ⟨λb o q n _ _=>?_,λb o q n _ _=>?_,λb o q n _=>?_,λb o q _=>?_,λb xs q=>?_,λb o u q=>?_,λb ps q=>?_⟩ ?_,q dx r⟩
 .exact hk b o (λz=>by rw[z,c]at n;cases n) q
 .exact ⟨o.slots,hk b o (λz=>by rw[z,c]at n;cases n) q⟩
 .rw [aa (λz=>by rw[z,c]at n;cases n),aa (λz=>by rw[z,B]at q;cases q)];exact n
 .by_cases z:b=e
  .subst z;exact⟨_,E⟩
  .exact ⟨o,hk b o z q⟩
 .rw [aa (λz=>by rw[z,c]at q;cases q),aa (λz=>by rw[z,r]at q;cases q)];exact q
 .rw [aa (λz=>by rw[z,c]at q;cases q),aa (λz=>by rw[z,r]at q;cases q)];exact q
 .exact ⟨#[],by rw[aa (λz=>by rw[z,c]at q;cases q),aa (λz=>by rw[z,r]at q;cases q),q];simp⟩
 .intro a o g
  by_cases z:a=e
  .subst z
   rw[upd_same]at g;cases g;exact⟨E,⟨_,E⟩,λh1 h2 p k=>k _ p⟩
  .rw [aa z]at g
   by_cases N:a=dx
   .subst N
    rw[upd_same]at g;cases g;refine⟨_,UO,λf'=>?_⟩;by_cases J:f'=f
    .subst J;simp[List.lookup];exact U
    .have G:(f'==f)=false:=by simpa using J
     simp[List.lookup,G,J];trivial
   .rw [aa N]at g
    refine(t.ZK a o g).Yt (λb u A k=>hk b u (λM=>?_) k) (λb k=>?_) λb xs k=>?_
    .rcases A with rfl|A
     .exact z M
     .rw [M,c]at A;cases A
    .rw [aa (λz=>by rw[z,c]at k;cases k),aa (λz=>by rw[z,r]at k;cases k)];exact k
    .rw [aa (λz=>by rw[z,c]at k;cases k),aa (λz=>by rw[z,r]at k;cases k)];exact k
end
def GD(C:Addr)(f:Str):Sp:=λa H Q _=>∃e oe v,a=[.ref e,v]/\H e=some (Xb e oe)/\oe.cls=.ref C/\oe.dict=none/\notCls oe=true /\∀dx,H dx=none->Q .ZJ (upd (upd H dx (.xd [(f,v)])) e (Xb e {oe with dict:=some dx}))
structure SX(K:Frag)(C fI:Addr)(f:Str):Prop where
 ex:∃(JT:Value) (od:Option Addr) (name qual self p:Str) (params:Arguments) (scope:Scope) (dV HV doc pm Zl ct:Value) (an:Option Addr) (YK:Array (Option Value)) (p1 p2 p3 pos:Pos),
  K.lookup fI=some ⟨JT,od,.func (fnOf name qual params [.Assign [.Attribute (.Name self p1) f p3] (.Name p p2) pos] scope dV HV doc pm an Zl ct),YK⟩/\JT=.type "function" /\ codeIn K Zl qual=true/\Uj [self,p] [self,p] scope /\
  Binds K (fnOf name qual params [.Assign [.Attribute (.Name self p1) f p3] (.Name p p2) pos] scope dV HV doc pm an Zl ct) [self,p] []/\AS self=true/\AS p=true
def yD{K:Frag}{C:Addr}{f:Str}{k:Nat}(F:SY K C f)(N:SX K C fI f):
  ∃fd ps,Binds K fd ps []/\X0 P w K mg base VZ (k+1) fI fd ps (GD C f) /\∃r,K.lookup fI=some r/\r.cls=.type "function":=by
 let⟨JT,od,name,o,c,p,d,scope,Z,HV,S,pm,Zl,ct,an,YK,X,p2,W,pos,lk,g,U,Z6,O,B,u⟩:=N.ex;let⟨m1,I,_⟩:=aJ B;let⟨G,D,_⟩:=aJ u;refine⟨_,_,O,ig lk U Z6 (λt H Q E ⟨e,oe,v,q,_⟩=>by rw[q];rfl) λA outer s H t Q E Y ⟨e,oe,v,q,R,M,hd,V,L⟩=>?_,_,lk,g⟩
 subst q;have a:∀y∈[c,p],Vis scope y:=λy J=>by
  rcases Z6.par y J with z|z
  .exact .inl z
  .exact .inr (.inl z)
 refine⟨_,dX (za (C:=C) (i:=0) (j:=1) F (bX rfl (a _ #[3]) m1 I) (bX rfl (a _ #[3]) G D)) cQ,?_⟩
 exact⟨e,oe,v,rfl,rfl,R,M,hd,V,λdx T=>L dx T⟩
section
def v8{f:Str}{C:Addr}{B Yh:String}{a:Expr}{np:Pos}{t:TA}{k:Nat}{W:Addr->V->Hp->Prop}
  (Z9:∃bm N nm q bs hdct sn sub ab col dd k0 k1 k2 k3 k5 mN,X.base.get? C=some (excClassObj nm q C N bs bm hdct sn sub ab col dd k0 k1 k2 k3 k5 newId)/\X.base.Ns N mN/\mN "__init__" = some (.ref fI)/\OwnTail X.base Yz bm) (hm:X.mg x=some (.ref C))
  (FB:ExcBaseFacts B newId Yh Yz) (F:SY X.K C f) (N:SX X.K C fI f) (hr:Y8 (k+2) X.A) (U:X.ex=[]) (ZC:X.stack=X.env::X.outer) (hc:X.calm=true) (hg:Gl X x) (ha:PA X [a] t)
  (hx:∀Y O H s e oe dx v,L2.Z0 X Y O H s->s.heap.get? e=some oe->oe.cls=.ref C->oe.dict=some dx->(∃vs,oe.data=.fields vs/\vs[1]?=some .none)->H e=none->X.ZF.heap.get? e=none->H dx=some (.xd [(f,v)])->W dx v H->X.xe (.ref e) s)
  (hd:(x==("__debug__" : Str))=false) (he:starEach [a] X.env=(false,eval a X.env)::starEach [] X.env) :
  PS X (.Raise (some (.Call (.Name x np) [a] [] Zq)) none pos) (λ_ O H=>t O H λvs H1=>∃v,vs=[v] /\∀e dx,H1 e=none->H1 dx=none->dx≠e->W dx v (upd H1 dx (.xd [(f,v)]))):=by
 intro Y s O H D I h;let⟨bm,N',nm,q,bs,hdct,sn,sub,ab,col,dd,k0,k1,k2,k3,k5,mN,hC,hN,hi,T⟩:=Z9;let⟨fd,ps,hb,FO,oI,R,U_⟩:=yD (P:=X.prog) (w:=X.w) (mg:=X.mg) (base:=X.base) (k:=k) F N;refine u1 (C:=C) (nm:=nm) (q:=q) (N:=N') (bs:=bs) (bm:=bm) (hdct:=hdct) (sn:=sn) (sub:=sub) (ab:=ab) (col:=col) (dd:=dd) (k0:=k0) (k1:=k1) (k2:=k2) (k3:=k3) (k5:=k5)
  FB (mN:=mN) (T.hasType FB.hasBase) (I.ok.hd hc) (by rw[he];rfl) hi U_ (bR I hg hm ⟨rfl,?_⟩ hd)
 have Wg:=ha Zq Y s O H _ I h;rw[he]at Wg ⊢;refine PU (UM Wg (λS s2 ⟨vs,H2,d,r,v,ev,q⟩=>⟨rfl,?_,d.bk _ _ hC,hN.keeps d.bk,T.keeps d.bk,d.Yv _ _ R,λh' e UN=>?_⟩) λ_ _ y=>y)
 .subst ev
  have:=r.length;simp at this;show S.length<=sizeLine;rw[<-this];decide
 .subst ev
  let⟨j,Z,_,_⟩:=UN.there;have nw:=UN.new;have I3:L2.Z0 X Y O H2 {s2 with heap:=h'}:=d.kept (t':=s2.toks) UN.keeps
  have J:X.ZF.heap.get? e=none:=by
   cases q:X.ZF.heap.get? e with
   |none=>rfl
   |some o=>let⟨o',z⟩:=d.base.there e o q (by rw[U];simp);rw[nw]at z;cases z
  have g:=d.ZK.off nw;have hL:e≠X.env.locals:=λz=>by let⟨m,⟨o,_,_,ho,_⟩,_⟩:=d.loc;rw[<-z,nw]at ho;cases ho
  have I4:=acS I3 Z g J hL (λy c ec z=>by let⟨v,o,ho,_⟩:=d.cell y c ec;rw[z,nw]at ho;cases ho) λp hp z=>by let⟨M,_⟩:=d.pin p hp;rw[z,nw]at M;cases M
  have r2:ZH [V.ref e,v] (Value.ref e::S):=.cons rfl r;have hl:((Value.ref e::S)++[]).length=ps.length:=by
   have M:=FO.len [V.ref e,v] (upd H2 e (Xb e {cls:=.ref C,data:=.fields #[.ref j,.none,.none,.none,.bool false,.none]})) (λ_ _=>True) E0 ⟨e,_,v,rfl,upd_same,rfl,rfl,rfl,λ_ _=>trivial⟩;rw[Ux,<-r2.length];exact M
  refine Oc (Qt (FO.run (X.A.under (.builtin "type.__call__" ⟨.ref C::S,[]⟩)) X.stack _ _ ⟨Value.ref e::S,[]⟩ (Value.ref e::S) [V.ref e,v]
   (λr H3=>r=.ZJ /\∃dx,dx≠e/\H2 dx=none/\H3=upd (upd (upd H2 e (Xb e {cls:=.ref C,data:=.fields #[.ref j,.none,.none,.none,.bool false,.none]})) dx (.xd [(f,v)])) e (Xb e {cls:=.ref C,dict:=some dx,data:=.fields #[.ref j,.none,.none,.none,.bool false,.none]})) E0 (hr.make C S []) (I4.R6.make C S []) (by have:=hb _ (Value.ref e::S) I4.Yv hl;rw[Ux]at this;exact this) r2
   ⟨e,_,v,rfl,upd_same,rfl,rfl,rfl,λdx E=>?_⟩) λrr s' L=>?_)
  .have G:dx≠e:=λz=>by rw[z,upd_same]at E;cases E
   rw[aa G]at E;exact⟨rfl,dx,G,E,rfl⟩
  .cases rr with
   |error z=>exact False.elim L
   |ok fl=>
    cases fl with
    |ret u=>
     let⟨v',H',I5,rv,ev,dx,G,E,eH⟩:=I4.after L;subst ev;subst eH;let⟨ho,_,_⟩:=(show ObjOk X.prog X.w _ s'.heap e (Xb e _)from I5.ZK e _ upd_same);have I6:=yN I5 (e:=e) upd_same;have eqH:Bs (upd (upd (upd H2 e (Xb e {cls:=.ref C,data:=.fields #[.ref j,.none,.none,.none,.bool false,.none]})) dx (.xd [(f,v)])) e (Xb e {cls:=.ref C,dict:=some dx,data:=.fields #[.ref j,.none,.none,.none,.bool false,.none]})) e=upd H2 dx (.xd [(f,v)]):=by
      funext b;by_cases z:b=e
      .subst z;rw[jE,aa (Ne.symm G)];exact g.symm
      .rw [bB z,aa z]
       by_cases Q:b=dx
       .subst Q;rw[upd_same,upd_same]
       .rw [aa Q,aa Q,aa z]
     rw[eqH]at I6;exact⟨rv,I5.bk _ _ hC,⟨j,some dx,ho⟩,hx Y O _ s' e _ dx v I6 ho rfl rfl ⟨_,rfl,rfl⟩ (by rw[aa (Ne.symm G)];exact g) J upd_same (q e dx g E G)⟩
    |next=>exact False.elim L
    |brk=>exact False.elim L
    |cont=>exact False.elim L
end
open PySem PySem.Spec PyProof.Rows L2
structure Fly(P:Program)(w:World)(outer:List Env)(H0:Hp)(s0:Shared)(e:Addr)(C:Value)(dx:Option Addr)(H:Hp)(s:Shared):Prop where
 os:s.os=s0.os
 bare:AllBare s.gens
 un:Un (frs outer) [] H0 H s0.heap s.heap
 ZK:HOk P w H s.heap
 free:H e=none
 new:s0.heap.get? e=none
 tr:∃T,Tr s.heap e C dx T .none/\H T=none/\s0.heap.get? T=none
def CX1(P:Program)(w:World):Xs:=λouter H s E e s'=>∃ea C dx H',e=.ref ea/\Fly P w outer H s ea C dx H' s'/\E C dx H'
section
variable{O:L2.St}
def lh{ch:List Addr}(I:L2.Z0 X Y O H s)(g:X.ex=[])(k:Yi (frs X.stack) ch s.heap h')(w:∀b∈ch,X.ZF.heap.get? b=none):Un (frs X.outer) [] X.WH H X.ZF.heap h':=by
 have y:∀b,b∈frs X.stack->b=X.env.locals\/b∈frs X.outer:=λb a=>X8.mp (I.VF b a);have f:∀b o,X.ZF.heap.get? b=some o->b≠X.env.locals:=λb o e z=>by
  have h1:=Hh e;have h2:=I.ok.above;rw[z]at h1;exact absurd (Hm h1 h2) (R4 _)
 have B:=I.base;rw[g]at B;have c:∀b:Addr,b ∉ ([]:List Addr):=λb z=>absurd z #[3]
 have j:∀b o,X.ZF.heap.get? b=some o->b ∉ ch:=λb o e z=>by rw[w b z]at e;cases e
 have step:∀b o,s.heap.get? b=some o->b ∉ ch ->∃r,h'.get? b=some {o with slots:=r}:=λb o e u=>by
  by_cases a:b∈frs X.stack
  .exact k.slot b o e a
  .exact ⟨o.slots,k.keep b o e a u⟩
 refine⟨λb o e n a _=>?_,λb o e n a _=>?_,λb o e n _=>B.free b o e n (c b),λb o e _=>?_,B.Xx,B.XJ,B.Xw⟩
 .refine k.keep b o (B.keep b o e n a (c b)) (λz=>?_) (j b o e)
  rcases y b z with z|z
  .exact f b o e z
  .exact a z
 .obtain ⟨r,q⟩:=B.slot b o e n a (c b)
  let⟨t,d⟩:=step b _ q (j b o e);exact⟨t,d⟩
 .obtain ⟨o',q⟩:=B.there b o e (c b)
  let⟨t,d⟩:=step b _ q (j b o e);exact⟨_,d⟩
def kn{ch:List Addr}(I:L2.Z0 X Y O H s)(k:Yi (frs X.stack) ch s.heap h')(g:∀b∈ch,H b=none):HOk X.prog X.w H h':=λa o e=>by
 have d:∀b u,H b=some u->b ∉ ch:=λb u q z=>by rw[g b z]at q;cases q
 have f:∀b u,H b=some u->b ∉ frs X.stack:=λb u q z=>by rw[I.Tf b z]at q;cases q
 refine(I.ZK a o e).Yt (λb u c q=>?_) (λ_ q=>q) λ_ _ q=>q;rcases c with rfl|c
 .exact k.keep b u q (f b _ e) (d b _ e)
 .exact k.keep b u q (f b _ c) (d b _ c)
def gy(I:L2.Z0 X Y O H s)(a:X.stack=X.env::X.outer):X.env.frame=some X.env.locals:=by
 rcases I.ok.WG with z|⟨_,z⟩
 .rw [a]at z;exact absurd (Rz List.length z) #[3]
 .exact z
def leave_new{e:Addr}{vs:Array Value}{g:XK}(I:L2.Z0 X Y O H s)(c:X.ex=[])(d:X.stack=X.env::X.outer)(m:s.heap.get? e=some oe)(n:oe.data=.fields vs)(p:vs[1]?=some .none)(i:H e=none)(j:X.ZF.heap.get? e=none)(q:g oe.cls oe.dict H):
  wpAny (model X.prog X.w) X.A (leaving X.env (.ref e)) (λ_ s'=>CX1 X.prog X.w X.outer X.WH X.ZF g (.ref e) s') (λe' s'=>CX1 X.prog X.w X.outer X.WH X.ZF g e' s') s:=by
 have hf:=gy I d;have r:s.heap.FunFrames X.base (X.env::X.outer):=by rw[<-d];exact I.stack
 refine ug (by rw[I.ok.frames,d]) r hf m n p λh' T K h l=>?_
 rw[<-d]at K;have a:X.ZF.heap.get? T=none:=by
  cases q:X.ZF.heap.get? T with
  |none=>rfl
  |some o=>let⟨o',z⟩:=I.base.there T o q (by rw[c];simp);rw[h]at z;cases z
 have k:=I.ZK.off h;refine⟨e,oe.cls,oe.dict,H,rfl,⟨I.os,I.bare,lh I c K λb f=>?_,kn I K λb f=>?_,i,j,T,l,k,a⟩,q⟩
 .have:b=e\/b=T:=by simpa using f
  rcases this with rfl|rfl
  .exact j
  .exact a
 .have:b=e\/b=T:=by simpa using f
  rcases this with rfl|rfl
  .exact i
  .exact k
end
section
def xj{C:Addr}{B u:String}{SW : Expr}{j:Pos}{t:TA}{W:Hp->Prop}(d:OwnCls x C bm newId X.mg X.base)(g:ExcBaseFacts B newId u bm)(n:X.calm=true)(m:Gl X x)(o:PA X (SW::es) t)
  (k:∀Y O H s h1 e args,L2.Z0 X Y O H s->Heap.MadeExcOf s.heap h1 e (.ref C) args->W H->X.xe (.ref e) {s with heap:=h1})
  (hd:(x==("__debug__" : Str))=false) (c:starEach (SW::es) X.env=(false,eval SW X.env)::starEach es X.env) (v:(backTo Zq (starEach es X.env)).any (·.1)=false) :
  PS X (.Raise (some (.Call (.Name x j) (SW::es) [] Zq)) none pos) (λ_ O H=>t O H λvs H1=>vs.length<=sizeLine/\W H1):=by
 intro Y s O H D I h;let⟨tl,N,nm,q,bs,hdct,sn,sub,ab,col,dd,k0,k1,k2,k3,k5,mN,p,hN,b,T⟩:=d.obj;refine wpAny_Raise_call_subT (C:=C) (nm:=nm) (q:=q) (N:=N) (bs:=bs) (bm:=tl) (hdct:=hdct) (sn:=sn) (sub:=sub) (ab:=ab) (col:=col) (dd:=dd) (k0:=k0) (k1:=k1) (k2:=k2) (k3:=k3) (k5:=k5)
  g (mN:=mN) (T.hasType g.hasBase) (I.ok.hd n) (by rw[c];show(false||(backTo Zq (starEach es X.env)).any (·.1))=false;rw[v];rfl) b (bR I m d.bound ⟨rfl,?_⟩ hd)
 have f:=o Zq Y s O H _ I h;rw[c]at f ⊢;exact PU (UM f (λS i ⟨vs,H2,a,r,z,q⟩=>⟨rfl,by show S.length<=sizeLine;rw[<-r.length];exact z,a.bk _ _ p,hN.keeps a.bk,T.keeps a.bk,λh' e l=>k Y O H2 i h' e S a l q⟩) λ_ _ y=>y)
end
section
variable{O:L2.St}
def uG{ch:List Addr}(I:L2.Z0 X Y O H s)(t:X.ex=[])(keep:∀b o,s.heap.get? b=some o->b ∉ frs X.stack->b ∉ ch->h'.get? b=some o)
  (slot:∀b o,s.heap.get? b=some o->b∈frs X.stack ->∃j,h'.get? b=some {o with slots:=j}) (R:X.env.locals∈frs X.stack)
  (y:∀b∈ch,X.ZF.heap.get? b=none/\H b=none/\b ∉ frs X.stack/\(∀x c,X.env.cells.lookup x=some c->c≠b) /\∀p∈X.pn++Y,p.1≠b):L2.Z0 X Y O H {s with heap:=h'}:=by
 have J:∀b,b∈frs X.stack->b=X.env.locals\/b∈frs X.outer:=λb f=>X8.mp (I.VF b f);have C:∀b o,X.ZF.heap.get? b=some o->b≠X.env.locals:=λb o e z=>by
  have h1:=Hh e;have h2:=I.ok.above;rw[z]at h1;exact absurd (Hm h1 h2) (R4 _)
 have B:=I.base;rw[t]at B;have w:∀b:Addr,b ∉ ([]:List Addr):=λb z=>absurd z #[3]
 have any:∀b o,s.heap.get? b=some o->b ∉ ch ->∃j,h'.get? b=some {o with slots:=j}:=λb o e Q=>by
  by_cases f:b∈frs X.stack
  .exact slot b o e f
  .exact ⟨o.slots,keep b o e f Q⟩
 have D:∀b o,X.ZF.heap.get? b=some o->b ∉ ch:=λb o e z=>by rw[(y b z).1]at e;cases e
 have g:∀x c,X.env.cells.lookup x=some c ->∀v,s.heap.IsCell c v->h'.IsCell c v:=λx c e v ⟨o,ho,hd⟩=>by
  let⟨j,q⟩:=any c o ho λz=>(y c z).2.2.2.1 x c e rfl;exact⟨_,q,hd⟩
 refine⟨I.ok,I.os,I.bare,?_,?_,λx c e=>?_,I.free,I.Yg,λp G=>?_,λa o e=>?_,I.len⟩
 .rw [t]
  refine⟨λb o e n f _=>?_,λb o e n f _=>?_,λb o e n _=>B.free b o e n (w b),λb o e _=>?_,B.Xx,B.XJ,B.Xw⟩
  .refine keep b o (B.keep b o e n f (w b)) (λz=>?_) (D b o e)
   rcases J b z with z|z
   .exact C b o e z
   .exact f z
  .obtain ⟨j,q⟩:=B.slot b o e n f (w b)
   let⟨K,A⟩:=any b _ q (D b o e);exact⟨K,A⟩
  .obtain ⟨o',q⟩:=B.there b o e (w b)
   let⟨K,A⟩:=any b _ q (D b o e);exact⟨_,A⟩
 .obtain ⟨m,⟨o,es,ep,ho,r⟩,P⟩:=I.loc
  let⟨j,q⟩:=slot _ o ho R;refine⟨m,⟨_,es,ep,q,r⟩,λi x v U T S=>?_⟩;let⟨u,N,l⟩:=P i x v U T S;refine⟨u,N,?_⟩;rcases l with l|⟨k,c,e,z⟩
  .exact .inl l
  .exact .inr ⟨k,c,e,g x c e _ z⟩
 .obtain ⟨v,z⟩:=I.cell x c e
  exact⟨v,g x c e v z⟩
 .obtain ⟨e,n,F,E,d⟩:=I.pin p G
  exact⟨keep p.1 p.2 e (λz=>(J _ z).elim F E) λz=>(y _ z).2.2.2.2 p G rfl,n,F,E,d⟩
 .have M:∀b u,H b=some u->b ∉ ch:=λb u q z=>by rw[(y b z).2.1]at q;cases q
  have L:∀b u,H b=some u->b ∉ frs X.stack:=λb u q z=>by rw[I.Tf b z]at q;cases q
  refine(I.ZK a o e).Yt (λb u f q=>?_) (λ_ q=>q) λ_ _ q=>q;rcases f with rfl|f
  .exact keep b u q (L b _ e) (M b _ e)
  .exact keep b u q (L b _ f) (M b _ f)
abbrev Bm(X:Cx)(Y:List (Addr×Obj))(ea:Addr)(oe:Obj):Cx:={X with A:=X.A.mark (some (.ref ea)),calm:=false,pn:=X.pn++Y++[(ea,oe)],xe:=λ_ _=>False}
def jb{a:Addr}(I:L2.Z0 X Y O H s)(e:s.heap.get? a=some oe)(c:H a=none)(g:a≠X.env.locals)(d:a ∉ X.fs)(f:∀v,oe.data ≠ .cell v):L2.Z0 (Bm X Y a oe) [] O H s:=
 ⟨⟨I.ok.mod,I.ok.kind,I.ok.glob,I.ok.blt,I.ok.above,I.ok.inj,I.ok.has,I.ok.VG,(λz=>by cases z),I.ok.frames,I.ok.WG,I.ok.exf,I.ok.bs,I.ok.W5,I.ok.Zb,I.ok.UU,I.ok.XI,I.ok.Wq⟩,I.os,I.bare,I.base,I.loc,I.cell,I.free,I.Yg,λp b=>by
  rw[Ux]at b;rcases Wh.mp b with z|z
  .exact I.pin p z
  .have:p=(a,oe):=by simpa using z
   subst this;exact⟨e,c,g,d,f⟩,I.ZK,I.len⟩
def dF{d:Addr}{b:L2.St}(I:L2.Z0 X Y O H s)(a:L2.Z0 (Bm X Y d oe) [] b H' s'):L2.Z0 X Y b H' s':=
 ⟨I.ok,a.os,a.bare,a.base,a.loc,a.cell,a.free,a.Yg,λp c=>a.pin p (by rw[Ux];exact UA _ c),a.ZK,a.len⟩
def dJ{M:Model}{E:Value->Shared->Prop}{n:Str}{Q:Unit->Shared->Prop}(I:L2.Z0 X Y O H s)(hN:X.N.Nodup)(hi:X.N[i]?=some n)(hk:X.env.scope.names.lookup n=some .local)
  (h:∀s',L2.Z0 X Y (O.set i none) H s'->Q Unit.unit s'):wpAny M A (do bindName X.env n .none;unbindBehindTheSuite X.env n pos) Q E s:=by
 let⟨m,hn,hl⟩:=id I.loc;have Wo:(X.env.scope.kind==.class||(X.env.scope.kind==.module&&X.env.locals != X.env.globals))=false:=by rw[I.ok.kind];rfl
 have W4:=I.W4;have UT:∀b o,X.ZF.heap.get? b=some o->b≠X.env.locals:=λb o e=>Hn (Hm (Hh e) I.ok.above);refine wpAny_nameGoes_keeps hk hn Wo λh' v Zj hs=>h _ ?_;refine⟨I.ok,I.os,I.bare,⟨λb o e n hb hx=>?_,λb o e n hb hx=>?_,I.base.free,λb o e hx=>?_,I.base.Xx,I.base.XJ,I.base.Xw⟩,⟨_,Zj,λj y v' e1 e2 e3=>?_⟩,λy c e=>?_,I.free,I.Yg,λp hp=>?_,λb ob e=>?_,by simpa using I.len⟩
 .exact (hs.2 b (UT b o e)).trans (I.base.keep b o e n hb hx)
 .obtain ⟨sl,e1⟩:=I.base.slot b o e n hb hx
  exact⟨sl,(hs.2 b (UT b o e)).trans e1⟩
 .obtain ⟨o',e1⟩:=I.base.there b o e hx
  exact⟨o',(hs.2 b (UT b o e)).trans e1⟩
 .have hj:j≠i:=λz=>by
   subst z;have hl:j<O.length:=by have:=(Ye.mp e2).1;simpa using this
   rw[VX hl]at e2;cases e2
  rw[Ve (Ne.symm hj)]at e2;let⟨u',r',q⟩:=hl j y v' e1 e2 e3;refine⟨u',r',?_⟩;rcases q with⟨k,e⟩|⟨k,c,e,z⟩
  .refine .inl ⟨k,?_⟩
   have:y≠n:=λe=>hj (fV hN e1 (e ▸ hi));simp[this,e]
  .exact .inr ⟨k,c,e,z.sameBut hs (W4 y c e)⟩
 .obtain ⟨w',z⟩:=I.cell y c e
  exact⟨w',z.sameBut hs (W4 y c e)⟩
 .obtain ⟨e,n,ne,nf,d⟩:=I.pin p hp
  exact⟨(hs.2 p.1 ne).trans e,n,ne,nf,d⟩
 .refine (I.ZK b ob e).Yt (λc w' hc q=>(hs.2 c ?_).trans q) (λ_ q=>q) λ_ _ q=>q
  rintro rfl;rcases hc with rfl|hc
  .rw [I.free]at e;cases e
  .rw [I.free]at hc;cases hc
end
section
variable{O:L2.St}
def CS(base:Heap)(C:Addr):Prop:=∃bm N nm q bs hdct sn sub ab col dd k0 k1 k2 k3 k5 newId,base.get? C=some (excClassObj nm q C N bs bm hdct sn sub ab col dd k0 k1 k2 k3 k5 newId)/\bm.contains (.type "BaseException")=true
def aaX{n:Str}{C ea:Addr}{Ts : Stmt}{Tq:List Stmt}{np:Pos}{ZR:List ExceptHandler}{Q:Flow->Shared->Prop}{E:Value->Shared->Prop}
  (I:L2.Z0 X Y O H s) (hex:X.ex=[]) (ZC:X.stack=X.env::X.outer) (F:Fly X.prog X.w X.stack H s ea (.ref C) dx H' s') (Z9:CS X.base C) (hm:X.mg x=some (.ref C)) (hg:Gl X x)
  (hN:X.N.Nodup) (hi:X.N[i]?=some n) (hk:X.env.scope.names.lookup n=some .local) (hd:(x==("__debug__" : Str))=false)
  (k:∀ oe s4,oe.cls=.ref C->oe.dict=dx->(∃ vs,oe.data=.fields vs)->L2.Z0 (Bm X Y ea oe) [] (O.set i (some (.ref ea))) H' s4 ->
   wpAny (model X.prog X.w) (X.A.mark (some (.ref ea))) (execs (Ts::Tq) X.env) (λf s5=>wpAny (model X.prog X.w) X.A (do bindName X.env n .none;unbindBehindTheSuite X.env n pos) (λ_ s6=>Q f s6) E s5) (λ_ _=>False) s4) :
  wpAny (model X.prog X.w) X.A (noteFrame (.ref ea) X.env) (λ_ s2=>wpAny (model X.prog X.w) X.A (setFlight (.ref ea) none) (λ_ s3 =>
   wpAny (model X.prog X.w) X.A (handleBy (.ref ea) X.env (.ExceptHandler (some (.Name x np)) (some n) (Ts::Tq) pos::ZR)) Q E s3) E s2) E s':=by
 have hf:=gy I ZC;have fin:X.env.locals∈frs X.stack:=by rw[ZC];unfold frs;rw[TN,hf];exact Hr
 have I1:L2.Z0 X Y O H' s':=I.SQ F.os F.un F.ZK F.bare (λb z=>absurd z #[3])
 let⟨T,tr,hHT,hsT⟩:=F.tr;have FF:s'.heap.FunFrames X.base (X.env::X.outer):=by rw[<-ZC];exact I1.stack
 have old:∀b,s.heap.get? b=none->X.ZF.heap.get? b=none:=λb e=>by
  cases q:X.ZF.heap.get? b with
  |none=>rfl
  |some o=>let⟨o',z⟩:=I.base.there b o q (by rw[hex];simp);rw[e]at z;cases z
 have U8:∀(b:Addr) (o:Obj) (ws:Array Value),s'.heap.get? b=some o->o.data=.fields ws->b ∉ frs X.stack:=λb o ws e d z=>by
  let⟨_,o',e1,e2⟩:=I1.stack.mem z;rw[e]at e1;cases e1;exact e2 ws d
 have one:∀b o ws,s'.heap.get? b=some o->o.data=.fields ws->s.heap.get? b=none->H' b=none->X.ZF.heap.get? b=none/\H' b=none/\b ∉ frs X.stack/\(∀x c,X.env.cells.lookup x=some c->c≠b) /\∀p∈X.pn++Y,p.1≠b:=λb o ws e d z hz=>by
  refine⟨old b z,hz,U8 b o ws e d,λy c ec q=>?_,λp hp q=>?_⟩
  .obtain ⟨v,o',e1,e2⟩:=I.cell y c ec
   rw[q,z]at e1;cases e1
  .obtain ⟨e1,_⟩:=I.pin p hp
   rw[q,z]at e1;cases e1
 have two:∀b,s'.heap.get? b=none->X.ZF.heap.get? b=none/\H' b=none/\b ∉ frs X.stack/\(∀x c,X.env.cells.lookup x=some c->c≠b) /\∀p∈X.pn++Y,p.1≠b:=λb z=>by
  refine⟨?_,I1.ZK.off z,λq=>?_,λy c ec q=>?_,λp hp q=>?_⟩
  .cases q:X.ZF.heap.get? b with
   |none=>rfl
   |some o=>let⟨o',z'⟩:=I1.base.there b o q (by rw[hex];simp);rw[z]at z';cases z'
  .obtain ⟨_,o',e1,_⟩:=I1.stack.mem q;rw[z]at e1;cases e1
  .obtain ⟨v,o',e1,e2⟩:=I1.cell y c ec
   rw[q,z]at e1;cases e1
  .obtain ⟨e1,_⟩:=I1.pin p hp
   rw[q,z]at e1;cases e1
 have tr0:=tr;let⟨oe,vs,oT,ts,he,_,_,hd0,_,VL,hT,Xm,_⟩:=tr0;refine kY (by rw[I.ok.frames,ZC]) FF hf tr λh4 T' K4 Xf tr4=>?_
 rw[<-ZC]at K4;have YW:∀b∈[ea,T,T'],X.ZF.heap.get? b=none/\H' b=none/\b ∉ frs X.stack/\(∀x c,X.env.cells.lookup x=some c->c≠b) /\∀p∈X.pn++Y,p.1≠b:=λb hb=>by
  have hb:b=ea\/b=T\/b=T':=by simpa using hb
  rcases hb with rfl|rfl|rfl
  .exact one _ oe vs he hd0 F.new F.free
  .exact one _ oT ts hT Xm hsT hHT
  .exact two _ Xf
 have Ws:T' ∉ frs X.stack:=(YW T' #[3]).2.2.1
 refine dv (fr:=frs X.stack) Ws tr4 λh5 K5 tr5=>?_;have K45:Yi (frs X.stack) [ea,T,T'] s'.heap h5:=(K4.mono #[3]).trans (K5.mono #[3])
 have back:∀h5,Yi (frs X.stack) [ea,T,T'] s'.heap h5->L2.Z0 X Y O H' {s' with heap:=h5}:=λh5 K=>uG (ch:=[ea,T,T']) I1 hex K.keep K.slot fin YW
 have I5:=back h5 K45;have ne:ea≠X.env.locals/\ea ∉ X.fs:=by
  have z:=(YW ea #[3]).2.2.1
  refine⟨λq=>z (q ▸ fin),λq=>z ?_⟩;rw[ZC];unfold frs;rw[TN,hf];exact Hl _ q
 let⟨oe5,vs5,_,_,he5,hc5,_,hd5,_⟩:=id tr5;have S5:=jb (oe:=oe5) I5 he5 F.free ne.1 ne.2 (λv q=>by rw[hd5]at q;cases q)
 let⟨bm,N,nm,q,bs,hdct,sn,sub,ab,col,dd,k0,k1,k2,k3,k5,newId,hC,Yr⟩:=Z9;refine wpAny_handleBy_cons (codeAny_handlers_test (bR S5 hg hm ?_ hd)) (by intro q;cases q)
 refine wpAny_excMatches_sub_self (I5.bk _ _ hC) he5 hc5 Yr (codeAny_handlers_suite_as ?_);refine dv (fr:=frs X.stack) Ws tr5 λh6 K6 tr6=>?_;have I6:=back h6 (K45.trans (K6.mono #[3]))
 let⟨oe6,vs6,_,_,he6,hc6,hdx6,hd6,_⟩:=id tr6;have S6:=jb (oe:=oe6) I6 he6 F.free ne.1 ne.2 (λv q=>by rw[hd6]at q;cases q)
 refine gh (X:=Bm X Y ea oe6) (v:=.ref ea) S6 hN hi (.inl hk) rfl (λs7 I7=>?_) (.inr hk);exact UM (k oe6 s7 hc6 hdx6 ⟨_,hd6⟩ I7) (λ_ _ q=>q) λ_ _ z=>z.elim
end
section
abbrev Bo(X:Cx)(pn:List (Addr×Obj))(E':Value->Shared->Prop):Cx:={X with pn:=pn,xe:=E'}
def zY{O:L2.St}(I:L2.Z0 X Y O H s):L2.Z0 (Bo X (X.pn++Y) E') [] O H s:=
 ⟨⟨I.ok.mod,I.ok.kind,I.ok.glob,I.ok.blt,I.ok.above,I.ok.inj,I.ok.has,I.ok.VG,I.ok.hd,I.ok.frames,I.ok.WG,I.ok.exf,I.ok.bs,I.ok.W5,I.ok.Zb,I.ok.UU,I.ok.XI,I.ok.Wq⟩,I.os,I.bare,I.base,I.loc,I.cell,I.free,I.Yg,λp a=>I.pin p (by rw[Ux]at a;exact a),I.ZK,I.len⟩
def cP{d:List (Addr×Obj)}{O:L2.St}(b:X.Ok)(a:L2.Z0 (Bo X (X.pn++Y) E') d O H s):L2.Z0 X Y O H s:=
 ⟨b,a.os,a.bare,a.base,a.loc,a.cell,a.free,a.Yg,λp c=>a.pin p (UA _ c),a.ZK,a.len⟩
def DD(i:Nat)(D:Ends):Ends:={nx:=λO H=>D.nx (O.set i none) H,rt:=D.rt,bk:=λO H=>D.bk (O.set i none) H,ct:=λO H=>D.ct (O.set i none) H}
def Jw(C:Addr)(i n:Nat)(tb:XK->TS)(a:Addr->Option Addr->TS):TS:=λD O H=>
 tb (λC' dx H'=>C'=.ref C /\∀(ea:Addr) (ZT:L2.St),H' ea=none->ZT.length=n->a ea dx (DD i D) (ZT.set i (some (.ref ea))) H') D O H
def acp{n:Str}{C:Addr}{Ts : Stmt}{t:List Stmt}{A T:Pos}{tb:XK->TS}{o:Addr->Option Addr->TS}
  (m:X.ex=[]) (L:X.stack=X.env::X.outer) (M:CS X.base C) (E:X.mg x=some (.ref C)) (G:Gl X x)
  (k:X.N.Nodup) (hi:X.N[i]?=some n) (j:X.env.scope.names.lookup n=some .local) (J:(x==("__debug__" : Str))=false)
  (K:∀(y:XK) (pn:List (Addr×Obj)) (E':Value->Shared->Prop),A4 (CX1 X.prog X.w) (Bo X pn E') y->PSs (Bo X pn E') body (tb y))
  (B:∀(ea:Addr) (dx:Option Addr) (oe:Obj) (Y:List (Addr×Obj)),oe.cls=.ref C->oe.dict=dx->(∃vs,oe.data=.fields vs)->PSs (Bm X Y ea oe) (Ts::t) (o ea dx)) :
  PS X (.Try body [.ExceptHandler (some (.Name x A)) (some n) (Ts::t) T] [] [] pos) (Jw C i X.N.length tb o):=by
 intro Y s O H D I h;rw[arm_exec_Try];refine ZB (Ss (wpAny_tryStmt_except ?_));refine UM (K _ (X.pn++Y) _ ?_ [] s O H D (zY I) h) (λf p q=>?_) (λe p q=>q)
 .rintro Z ZT H' W e s' P ⟨ea,C',dx,H2,rfl,F,rfl,q⟩
  have g:=cP I.ok P;refine aaX g m L F M E G k hi j J λoe s4 S Q R U=>?_;refine UM (B ea dx oe Y S Q R [] s4 _ H2 (DD i D) U (q ea ZT F.free g.len)) (λf V z=>?_) λ_ _ z=>z;cases f with
  |next=>let⟨b,c,a,z⟩:=z;exact dJ (dF g a) k hi j λl d=>⟨_,_,d,z⟩
  |brk=>let⟨b,c,a,z⟩:=z;exact dJ (dF g a) k hi j λl d=>⟨_,_,d,z⟩
  |cont=>let⟨b,c,a,z⟩:=z;exact dJ (dF g a) k hi j λl d=>⟨_,_,d,z⟩
  |ret u=>let⟨v,b,c,a,r,z⟩:=z;exact dJ (dF g a) k hi j λl d=>⟨v,_,_,d,r,z⟩
 .cases f with
  |next=>let⟨b,c,a,z⟩:=q;exact cQ Y p b c D (cP I.ok a) z
  |brk=>let⟨b,c,a,z⟩:=q;exact⟨b,c,cP I.ok a,z⟩
  |cont=>let⟨b,c,a,z⟩:=q;exact⟨b,c,cP I.ok a,z⟩
  |ret u=>let⟨v,b,c,a,r,z⟩:=q;exact⟨v,b,c,cP I.ok a,r,z⟩
end
open PySem PySem.Spec PySem.Calls PyProof.Rows L2 PySem.W PySem.Builtin PySem.Builtin.ObjectAttr PySem.Builtin.Getset_descriptor
section
variable{E:Value->Shared->Prop}{x C:Addr}{ox:Obj}{odo:Option Obj}
def aaC{g:Array GenState}{d:Drawn}{t:Nat}{b:OsState}{M:Model}{c:Value}{Q:Unit->Shared->Prop}(X:K.In h)(i:Looks M h (typeOf (.ref x)) (.ref C))(a:mroIn K C (.type "BaseException")=some true)(j:Q Unit.unit ⟨h,g,d,t,b⟩):wpAny M A (checkBuiltinCall "BaseException.__getattribute__" ⟨[.ref x,c],[]⟩) Q E ⟨h,g,d,t,b⟩:=by
 have hk:builtinKind "BaseException.__getattribute__" = some .slot:=by decide +kernel
 have e:splitId "BaseException.__getattribute__" = some ("BaseException","__getattribute__"):=by decide +kernel
 have k:=F.args_bexc_ga (.ref x) c;have f:=looks_mroIn (M:=M) X a;have LI:Looks M h (isInstance (.ref x) (.type "BaseException")) true:=i.andThen f;simp![checkBuiltinCall,hk,e];refine ZB (LI.at ?_)
 repeat (any_goals (first|assumption|wp_step))
def lE{g:Array GenState}{d:Drawn}{t:Nat}{j:OsState}{tk:Tok}{f b:Bool}{c:Builtin.ObjectAttr.Found}{Q:Value->Shared->Prop}(X:K.In h)(m:Looks (model prog w) h (typeOf (.ref x)) (.ref C))(l:findIn K (.ref C) "__getattribute__" = some (some (.builtin "BaseException.__getattribute__")))
  (o:findIn K (.ref C) "__getattr__" = some none) (k:mroIn K C (.type "BaseException")=some true) (y:Looks (model prog w) h (Builtin.ObjectAttr.find (.ref x) (.ref C) name) c)
  (i:∀(u:Around) (E':Value->Shared->Prop),match c with|.value v=>wpAny (model prog w) A (handedOut v) Q E ⟨h,g,d,t,j⟩|.bind gg a=>wpAny (model prog w) u (Builtin.ObjectAttr.bindTo gg a (.ref x) (.ref C)) (λe s'=>match e with|.done (.ret v)=>wpAny (model prog w) A (handedOut v) Q E s'|_=>False) E' ⟨h,g,d,t,j⟩|.missing=>False) :
  wpAny (model prog w) A (getAttrBy (.ref x) (.str name tk) f b) Q E ⟨h,g,d,t,j⟩:=by
 have s:=OV (M:=model prog w) X l;have L2:=OV (M:=model prog w) X o;have p:=F.excAttr_ValueError.ga.bind (.ref x);have q:(b&&onTheHeap (Value.builtin "BaseException.__getattribute__"))=false:=by cases b<;>rfl
 have r:(Value.builtin "BaseException.__getattribute__" == Value.builtin "object.__getattribute__")=false:=by decide +kernel
 unfold getAttrBy;refine Vt (ZB (m.at (ZB (s.at ?_))));simp![r,Bool.and_false,Xc,Vb];unfold getAttrByItsOwn hookBefore;refine ZB ?_;show wpAny _ _ (typeLookup (.ref C) "__getattr__") _ _ _;refine L2.at ?_;refine ZB (QD (Vt ?_));unfold callGetattribute;simp![q,Xc,Vb];unfold boundAndCalled;rw[p];refine ZB (ZP ?_);refine Oc (QQ F.excAttr_ValueError.ga.plain F.entry_bexc_ga (aaC X m k ?_));unfold Builtin.«object.__getattribute__»
 repeat (any_goals (first|assumption|lk|wp_step))
 have n:=i;cases c with
 |value v=>exact ZP (i A E)
 |bind gg a=>
  refine UM (i A.in1 (λ_ _=>False)) (λe s' z=>?_) λ_ _ z=>z.elim;rcases e with(_|_|_|_)|_<;>first|exact z|exact z.elim
 |missing=>exact(i A E).elim
def vX{M:Model}{a g:Value}(X:K.In h)(d:findIn K (.ref C) name=some (some a))(c:specialIn K a "__get__" = some (some g))(b:takesIn K a=some true):
  Looks M h (Builtin.ObjectAttr.find (.ref x) (.ref C) name) (.bind g a):=by
 have f:=OV (M:=M) X d;have L2:Looks M h (Builtin.ObjectAttr.getOf (some a)) (some g):=looks_specialIn X c;have e:=looks_takesIn (M:=M) X b;refine f.andThen (L2.andThen ?_);exact(show Looks M h (Builtin.ObjectAttr.dataDescriptor? (some a) (some g)) (some (g,a))from e.andThen .now).andThen (Looks.tag .now)
def vh{a:Value}{R:Result->Shared->Prop}(X:K.In s.heap)(b:s.heap.get? x=some ox)(e:ox.cls=.ref C)(c:mroIn K C (.type "object")=some true)
  (h:R (.ok (.ret (.ref C))) s):codeAny (model prog w) A (.call (.builtin "getset_descriptor.__get__") ⟨[.builtin "object.__class__",.ref x,a],[]⟩) R s:=by
 let⟨d,g,f,t,os⟩:=s;have j:Looks (model prog w) d (typeOf (.ref x)) (.ref C):=e ▸ (Looks.ld b).andThen .now;have i:=looks_mroIn (M:=model prog w) X c;refine QQ KF.slot_gs.plain KF.entry_gs (KF.slot_gs.check _ _ _ _ _ _ _ _ KF.type_class (KF.args_gs _ _ _) ?_);unfold Builtin.«getset_descriptor.__get__» descrGet;rw[dga_obj];refine ZB (ZP ?_);unfold descrGetter descrCheckInstance descrNameAndClass isInstance;simp![KF.owner_class]
 repeat lk
 refine⟨Pe _ (by decide +kernel),Pb KF.entry_class ?_⟩
 unfold Builtin.«object.__class__» shownTypeOf
 repeat lk
 exact h
structure U7(K:Hu)(C:Addr):Prop where
 ga:findIn K (.ref C) "__getattribute__" = some (some (.builtin "BaseException.__getattribute__"))
 gt:findIn K (.ref C) "__getattr__" = some none
 mb:mroIn K C (.type "BaseException")=some true
 cl:findIn K (.ref C) "__class__" = some (some (.builtin "object.__class__"))
 gn:specialIn K (.builtin "object.__class__") "__get__" = some (some (.builtin "getset_descriptor.__get__"))
 tk:takesIn K (.builtin "object.__class__")=some true
 mo:mroIn K C (.type "object")=some true
 cs:(clsIn K C).isSome=true
def acx{Q:Option Value->Shared->Prop}(F:U7 K C)(X:K.In s.heap)(a:s.heap.get? x=some ox)(b:ox.cls=.ref C)
  (h:Q (some (.ref C)) {s with toks:=s.toks+1}):wpAny (model prog w) A (getAttr? (.ref x) "__class__") Q E s:=by
 let⟨c,g,d,t,os⟩:=s;have e:Looks (model prog w) c (typeOf (.ref x)) (.ref C):=b ▸ (Looks.ld a).andThen .now;unfold getAttr? getAttrBy?;refine ZB (wpAny_mkText (ZB (QD (lE X e F.ga F.gt F.mb (vX X F.cl F.gn F.tk) λf E'=>?_))));show wpAny _ _ (Builtin.ObjectAttr.bindTo _ _ _ _) _ _ _;unfold Builtin.ObjectAttr.bindTo;show wpAny _ _ (holding [.builtin "object.__class__"] (call (.builtin "getset_descriptor.__get__") [.builtin "object.__class__",.ref x,.ref C]) >>= ret) _ _ _;refine ZB (Vt (Oc (vh X a b F.mo ?_)));exact ZP (handed_on rfl (ZP h))
def kc(F:U7 K C):KitX K (.ref x) (.ref C) (λh=>∃ox,h.get? x=some ox/\ox.cls=.ref C) where
 ty:=λ_ _ _ ⟨_,g,i⟩=>i ▸ (Looks.ld g).andThen .now
 it:=λ_ _ X _=>by
  let⟨c,a⟩:=TL.mp F.cs;unfold clsIn at a;split at a
  .rename_i c' j d l ho
   intro p o E' s' k q;unfold isType loadHead;exact ZB (wpAny_loadPart (k _ _ (X _ _ ho)) (ZP q))
  .cases a
 ne:=λh f dd ZU n m X b=>by
  let⟨c,a⟩:=TL.mp F.cs;refine Oz.mpr λq=>?_;have e:C=f:=Value.ref.inj (VR.mp q);subst e;unfold clsIn at a;split at a
  .rename_i c' j d l ho
   have z:=(X _ _ ho).symm.trans b;cases z
  .cases a
 ca:=λX q k=>q.elim λ_ h=>acx F X h.1 h.2 k
end
open PySem PySem.Spec PyProof.Rows L2 PySem.W
structure Gr(H H':Hp):Prop where
 Tp:∀K ρ,ZI K ρ H ρ H'
 rh:∀K ρ g,RH K ρ H g->RH K ρ H' g
def Gr.refl{H:Hp}:Gr H H:=⟨λ_ _=>.refl,λ_ _ _ h=>h⟩
def Gr.trans{H d c:Hp}(a:Gr H d)(b:Gr d c):Gr H c:=⟨λK ρ=>(a.Tp K ρ).trans (b.Tp K ρ),λK ρ g h=>b.rh K ρ g (a.rh K ρ g h)⟩
def Gr.fresh{H:Hp}{t:Addr}{o:HO}(h:H t=none):Gr H (upd H t o):=⟨λ_ _=>.fresh h,λ_ _ _ k=>k.step_fresh h⟩
def Gr.at(g:Gr H H'){o:HO}(h:H a=some o):H' a=some o:=(g.Tp [] []).X4 a o h #[3]
def XMk(K:Hu)(mg:Str->Option Value)(base:Heap)(x:Str)(C:Addr):Option Str->Prop
 |none=>∃bm newId B Yh,OwnCls x C bm newId mg base/\ExcBaseFacts B newId Yh bm
 |some f=>∃fI Yz newId B Yh,(∃bm N nm q bs hdct sn sub ab col dd k0 k1 k2 k3 k5 mN,base.get? C=some (excClassObj nm q C N bs bm hdct sn sub ab col dd k0 k1 k2 k3 k5 newId)/\base.Ns N mN/\mN "__init__" = some (.ref fI)/\OwnTail base Yz bm) /\
   ExcBaseFacts B newId Yh Yz/\SY K C f/\SX K C fI f/\findIn K (.ref C) f=some none
structure XC(K:Hu)(mg:Str->Option Value)(base:Heap)(x:Str)(fo:Option Str)(as:List (Str×Bool))(C:Addr):Prop where
 bound:mg x=some (.ref C)
 cls:CS base C
 made:XMk K mg base x C fo
 kit:U7 K C
 ans:∀y b,as.lookup y=some b ->∃c v,RelV v c/\(∀u,RelV v u->u=c)/\((bootBuiltins y=some c/\mg y=none/\y ≠ "__name__")\/mg y=some c)/\(y==("__debug__" : Str))=false/\kitOne K (.ref C) c=some b
abbrev XF:=Option (Addr×Str×V)
def XFok(H:Hp):XF->Prop
 |none=>True
 |some (dx,f,v)=>H dx=some (.xd [(f,v)])
def XFok.gr{xf:XF}(g:Gr H H')(h:XFok H xf):XFok H' xf:=by
 cases xf with
 |none=>trivial
 |some p=>exact g.at h
def Jx(i:Nat)(a:Addr)(xf:XF)(v:V):TE:=λO H Q=>O[i]?=some (some (.ref a))/\XFok H xf /\∀H',Gr H H'->Q v H'
def Jy(i:Nat)(a:Addr)(xf:XF)(vs:List V):TA:=λO H Q=>O[i]?=some (some (.ref a))/\XFok H xf /\∀H',Gr H H'->Q vs H'
def md{q:Expr×Expr}(h:D8 es=some q):es=[q.1,q.2]:=by
 cases es with
 |nil=>exact qN h
 |cons y es=>cases es with
  |nil=>exact qN h
  |cons z es=>cases es with
   |nil=>cases h;rfl
   |cons _ _=>exact qN h
def zp{q:Expr×Expr}(h:FK e=some q):∃c p,e = .Tuple [q.1,q.2] c p:=by
 cases e with
 |Tuple ts c p=>exact⟨c,p,by rw[md h]⟩
 |_=>exact qN h
def XR(K:Hu)(xf:XF):Option U->V->Prop
 |some u,w=>∀ρ H,RV K ρ H u w
 |none,w=>∃dx f,xf=some (dx,f,w)
def XRs(K:Hu)(xf:XF):List (Option U)->List V->Prop
 |[],vs=>vs=[]
 |x::xs,vs=>∃v r,vs=v::r/\XR K xf x v/\XRs K xf xs r
section
variable{n:Str}{C ea:Addr}{bt:List Str}{xf:XF}
def acq{c:Value}(F:U7 X.K C)(g:(ea,oe)∈X.pn)(h:oe.cls=.ref C)(f:∀u,RelV v u->u=c)(k:kitOne X.K (.ref C) c=some b):CallR X (.builtin "isinstance") (λxs H Q=>xs=[.ref ea,v]/\Q (.bl b) H):=by
 intro Y s O H xs S Q I rs ⟨e,q⟩;subst e;cases rs with
 |cons d rs=>
  cases rs with
  |cons a rs=>
   cases rs;cases d;cases f _ a;exact kia_one (kc F) I.Yv ⟨oe,(I.pin _ (UA _ g)).1,h⟩ k (λz=>nomatch z) λtk=>⟨.bl b,H,I.tok tk,rfl,q⟩
def abF{c g:Value}{d:V}{a:Bool}(F:U7 X.K C)(w:(ea,oe)∈X.pn)(x:oe.cls=.ref C)(n:∀u,RelV v u->u=c)(y:∀u,RelV d u->u=g)(k:kitOne X.K (.ref C) c=some a)(k2:kitOne X.K (.ref C) g=some b):
  CallR X (.builtin "isinstance") (λxs H Q=>∃t,xs=[.ref ea,.ref t]/\H t=some (.ZY [v,d])/\Q (.bl (a||b)) H):=by
 intro Y s O H xs S Q I rs ⟨t,e,p,q⟩;subst e;cases rs with
 |cons i rs=>
  cases rs with
  |cons h rs=>
   cases rs;cases i;cases h;let⟨_,ZU,r,o,h1,h2,m,f⟩:=I.ZK t _ p;cases r with
   |cons l r=>
    cases r with
    |cons j r=>
     cases r;cases n _ l;cases y _ j;let⟨JT,od,B,A⟩:=o;dsimp only at h2 f;subst h2;subst f;refine kia_tup (kc F) I.Yv ⟨oe,(I.pin _ (UA _ w)).1,x⟩ h1 (b:=a||b) ?_ (λz=>nomatch z) λtk=>⟨.bl (a||b),H,I.tok tk,rfl,q⟩;simp![kitAny,k,k2];cases a<;>cases b<;>rfl
def gL{y:Str}{c:Value}(d:Gl X y)(r:RelV v c)(h:(bootBuiltins y=some c/\X.mg y=none/\y ≠ "__name__")\/X.mg y=some c)(e:(y==("__debug__" : Str))=false):PE X (.Name y pos) (HX v):=by
 rcases h with⟨a,b,c⟩|h
 .exact k9 d b a r c e
 .exact lx d h r e
def zd{f:Str}{d:Addr}{D:Pos}(F:U7 X.K C)(P:findIn X.K (.ref C) f=some none)(M:hasDictIn X.K C=true)(J:(ea,oe)∈X.pn)(S:oe.cls=.ref C)(Z:oe.dict=some d)(k:∃vs,oe.data=.fields vs)(T:X.N[i]?=some n)(E:Vis X.env.scope n)(R:(n==("__debug__" : Str))=false)(Y9:(n==("__classdict__" : Str))=false):
  PE X (.Attribute (.Name n D) f pos) (Jx i ea (some (d,f,v)) v):=by
 intro Y s O H Q I ⟨B,A,z⟩;refine zM #[2] (thn (bX T E R Y9 Y s O H (λy H1=>y=.ref ea/\H1=H) I ⟨_,B,rfl,rfl⟩) ?_);rintro u g ⟨y,H1,c,t,V,U⟩
 subst V;subst U;obtain rfl:u=Value.ref ea:=t;let⟨mA,ns,j⟩:=(show ObjOk X.prog X.w _ g.heap d (.xd [(f,v)])from c.ZK d _ A);let⟨od,Vs,L⟩:=vF ns;have a:=j f;simp![List.lookup,PM]at a;cases hm:mA f with
 |none=>rw[hm]at a;exact a.elim
 |some r=>
  rw[hm]at a;have o:PySem.W.InstAt g.heap ea oe C (some od):=⟨(c.pin _ (UA _ J)).1,S,by let⟨vs,k⟩:=k;unfold notCls;rw[k],by rw[Z];exact Vs⟩
  have U6:findObj X.K C (some od) f=some (.value r):=findObj_own M P rfl (by rw[L,hm])
  let⟨G,g1,d1,t1,o1⟩:=g;unfold getAttr;refine ZB (wpAny_mkText (lE c.Yv o.type F.ga F.gt F.mb (looks_find c.Yv o U6) λA' E'=>?_));exact handed_on (wa a) ⟨v,H1,c.tok _,a,z H1 .refl⟩
def xi(F:XC X.K X.mg X.base x fo as C)(L:(ea,oe)∈X.pn)(T:oe.cls=.ref C)(G:∀f,fo=some f ->∃dx v,oe.dict=some dx/\xf=some (dx,f,v))(Y5:∃vs,oe.data=.fields vs)(Yx:X.env.scope=sc)(Xo:∀y∈bt,X.mg y=none)(W:X.N[i]?=some n)(I:Vis X.env.scope n)(hd:(n==("__debug__" : Str))=false)(Y9:(n==("__classdict__" : Str))=false){u:Option U}(h:B9 bt sc n fo as e=some u):
  isStar e=false /\∃v,XR X.K xf u v/\PE X e (Jx i ea xf v):=by
 have gl:∀y,glob sc y=true->Gl X y:=λy E=>by
  show X.env.scope.names.lookup y=_;rw[Yx];exact VR.mp E
 cases e with
 |Constant c k p=>cases c with
  |str s=>cases h;exact⟨rfl,_,λ_ _=>rfl,oj.imp λO H Q ⟨_,_,q⟩=>q H .refl⟩
  |_=>exact qN h
 |Attribute o f p=>
  refine qB h λn' P h=>qI h λA d=>?_;let⟨p1,rfl⟩:=aG P;simp![Z1,Wd]at A;let⟨rfl,U6⟩:=A;cases d;let⟨dx,v,YT,rfl⟩:=G _ U6;have M:=F.made;rw[U6]at M;let⟨fI,Yz,newId,B,Yh,_,_,XS,_,S⟩:=M;exact⟨rfl,v,⟨dx,_,rfl⟩,zd F.kit S XS.hd L T YT Y5 W I hd Y9⟩
 |Call f es ks p=>cases ks with
  |cons _ _=>exact qN h
  |nil=>
   refine qB h λf' hf h=>qB h λq hq h=>qB h λn' P h=>qI h λA d=>?_;let⟨D,j⟩:=q;let⟨pf,rfl⟩:=aG hf;cases md hq;let⟨pn,rfl⟩:=aG P;simp![Z1,Wd]at A;let⟨⟨⟨rfl,rfl⟩,c3⟩,c4⟩:=A;unfold HI at d;cases V:Hw j with
   |some y=>
    rw[V]at d;let⟨py,rfl⟩:=aG V;refine qI d λc5 h=>qM h λb g e=>?_;subst e;let⟨c,v,r,J,b2,b4,Z⟩:=F.ans _ _ g;refine⟨rfl,_,λ_ _=>rfl,(pe_callB (acq F.kit L T J Z) (gl _ c4) (Xo _ (Ur.mp c3)) #[2] (aw (bX W I hd Y9) (aw (gL (gl _ c5) r b2 b4) aQ rfl) rfl)).imp λO H Q ⟨D,_,j⟩=>?_⟩
    exact⟨_,D,rfl,j H .refl⟩
   |none=>
    rw[V]at d;refine qB d λw hw h=>qB h λy E h=>qB h λz hz h=>qI h λR h=>qB h λa g h=>qM h λb Y e=>?_;subst e;let⟨w1,w2⟩:=w;let⟨_,_,rfl⟩:=zp hw;let⟨_,rfl⟩:=aG E;let⟨_,rfl⟩:=aG hz;rw[Z1]at R;let⟨c,v,r,J,b2,b4,Z⟩:=F.ans _ _ g;let⟨c',v',r',YQ,J1,d4,d5⟩:=F.ans _ _ Y;refine⟨rfl,_,λ_ _=>rfl,(pe_callB (abF F.kit L T J YQ Z d5) (gl _ c4) (Xo _ (Ur.mp c3)) #[2] (aw (bX W I hd Y9) (aw (gO (aw (gL (gl _ R.1) r b2 b4) (aw (gL (gl _ R.2) r' J1 d4) aQ rfl) rfl)) aQ rfl) rfl)).imp λO H Q ⟨D,_,j⟩=>?_⟩
    exact⟨_,D,by show 2<=sizeLine;decide,λt ht=>⟨t,rfl,upd_same,j _ (.fresh ht)⟩⟩
 |_=>exact qN h
def jo(F:XC X.K X.mg X.base x fo as C)(j:(ea,oe)∈X.pn)(l:oe.cls=.ref C)(a:∀f,fo=some f ->∃dx v,oe.dict=some dx/\xf=some (dx,f,v))(z:∃vs,oe.data=.fields vs)(t:X.env.scope=sc)(A:∀y∈bt,X.mg y=none)(m:X.N[i]?=some n)(g:Vis X.env.scope n)(k:(n==("__debug__" : Str))=false)(w:(n==("__classdict__" : Str))=false):∀{es:List Expr} {S:List (Option U)},Ac (es.map (B9 bt sc n fo as))=some S ->
  ∃vs,XRs X.K xf S vs/\PA X es (Jy i ea xf vs)
 |[],S,h=>by cases h;exact⟨[],rfl,λp Y s O H Q I ⟨_,_,q⟩=>aQ p Y s O H Q I (q H .refl)⟩
 |e::es,S,h=>by
  rw[Xu]at h;cases b:B9 bt sc n fo as e with
  |none=>rw[b]at h;cases h
  |some u=>
   rw[b]at h;let⟨J,D,rfl⟩:=XB.mp h;let⟨st,v,r,G⟩:=xi F j l a z t A m g k w b;let⟨vs,rs,E⟩:=jo F j l a z t A m g k w D;exact⟨v::vs,⟨v,vs,rfl,r,rs⟩,(aw G E (star_ne st es)).imp λO H Q ⟨d,c,B⟩=>⟨d,c,λH1 o=>⟨d,c.gr o,λH2 g2=>B H2 (o.trans g2)⟩⟩⟩
end
abbrev CL:=List (Addr×Option Str)
def WE1(C:Addr)(fo:Option Str)(E:XK)(vs:List V)(H:Hp):Prop:=match fo with
 |none=>E (.ref C) none H
 |some f=>∃v,vs=[v] /\∀dx,H dx=none->E (.ref C) (some dx) (upd H dx (.xd [(f,v)]))
def WE(b:CL)(E:XK):XQ:=λc a H=>∃C fo,b[c]?=some (C,fo)/\WE1 C fo E a H
abbrev spX(K:Hu)(cl:CL)(J:List Fn)(d i np:Nat):Sp:=spW K (WE cl) J d i np
section
variable{W:XQ}
def _root_.L2.PA.Zh{a:List Expr}{t:TA}(h:PA X.Zh a t):PA X a t:=λp Y s O H Q I b=>
 UM (h p Y s O H Q (I.Xv _) b) (λ_ _ ⟨v,H',c,r,q⟩=>⟨v,H',c.W2,r,q⟩) λ_ _ z=>False.elim z
def _root_.L2.PS.Zh{st:Stmt}{t:TS}(h:PS X.Zh st t):PS X st t:=λY s O H D I a=>
 UM (h Y s O H D (I.Xv _) a) (λ_ _ q=>q.W2) λ_ _ z=>False.elim z
def _root_.L2.PS.impI{e:Stmt}{t t':TS}(h:PS X e t)(q:∀Y s D O H,L2.Z0 X Y O H s->t' D O H->t D O H):PS X e t':=λY s O H D I h'=>h Y s O H D I (q Y s D O H I h')
def abi{st:Stmt}{b:Z6}(h:PS X.Zh st (Zw X.K W0 (Jn r b))):∀n C,r=Js C n->PS X st (Zw X.K W (Jn (Js C (n+1)) (.Zh [b]))):=by
 intro n C e;refine h.Zh.imp λD O H ⟨d,ρ,g,hs,j,p⟩=>⟨d,ρ,g,hs,j,?_⟩;have a:=uZ (W':=W0) p;have k:(Js C (n+1)).ex [b] d g=(Jn r b d g).bind λf g=>match f with|.nx ZT=>r.ex [] ZT g|f=>.ok f g:=by rw[e];rfl
 rw[k]at a;revert a;cases Jn r b d g with
 |ok f g1=>
  cases f with
  |nx i=>
   intro a;cases n with
   |zero=>rw[e]at a;exact a.elim
   |succ n=>rw[e]at a;exact a
  |rt u=>exactλp=>p
  |bk i=>exactλp=>p
  |ct i=>exactλp=>p
 |exc c fs g1=>exactλp=>p
 |ZV=>exactλp=>p
def abP{c:Expr}{d:E}{as bs:List Stmt}{h f:List Z6}(j:PT X c (tT X.K W0 (r.ts d)))(m:PSs X as (Zw X.K W (r.ex h)))(l:PSs X bs (Zw X.K W (r.ex f))):PS X (.If c as bs pos) (Zw X.K W (Jn r (.V4 d h f))):=by
 refine(qO j m l).imp ?_;rintro D O H ⟨a,ρ,g,hs,i,p⟩;refine⟨a,ρ,g,hs,i,(fh (R:=Yb) p).mono λk H1 ⟨e,k',g1,s1,h1,n,b⟩=>?_⟩;subst n;cases k' with
 |true=>exact aX ⟨a,e,g1,hs.step s1,h1,b⟩
 |false=>exact aY ⟨a,e,g1,hs.step s1,h1,b⟩
def wC{C:Addr}{a:Expr}{np:Pos}{k:Nat}(L:XC X.K X.mg X.base x fo as C)(hr:Y8 (d+2) X.A)(i:X.ex=[])(ZC:X.stack=X.env::X.outer)(G:X.calm=true)(c:Gl X x)(J:PA X (a::es) (WN X.K W0 (Jg r.ev es')))
  (h:fo=none\/es=[]) (h2:∀f,fo=some f ->∀vs H,W k vs H ->∃v,vs=[v])
  (WO:fo=none ->∀Y O H s e oe vs,L2.Z0 X Y O H s->s.heap.get? e=some oe->oe.cls=.ref C->oe.dict=none->(∃fs,oe.data=.fields fs/\fs[1]?=some .none)->H e=none->X.ZF.heap.get? e=none->W k vs H->X.xe (.ref e) s)
  (Uu:∀f,fo=some f ->∀Y O H s e oe dx v H0,L2.Z0 X Y O H s->s.heap.get? e=some oe->oe.cls=.ref C->oe.dict=some dx->(∃fs,oe.data=.fields fs/\fs[1]?=some .none)->H e=none->X.ZF.heap.get? e=none->H=upd H0 dx (.xd [(f,v)])->H0 dx=none->W k [v] H0->X.xe (.ref e) s)
  (F:(x==("__debug__" : Str))=false) (E:starEach (a::es) X.env=(false,eval a X.env)::starEach es X.env) (Y7:(backTo Zq (starEach es X.env)).any (·.1)=false) :
  PS X (.Raise (some (.Call (.Name x np) (a::es) [] Zq)) none pos) (Zw X.K W (Jn r (.raise k es'))):=by
 have M:=L.made;cases fo with
 |none=>
  let⟨bm,newId,B,Yh,w,y⟩:=M;refine(xj (W:=λH=>∃vs,W k vs H) w y G c J (λY O H s h e args I l ⟨vs,q⟩=>?_) F E Y7).imp λD O H ⟨u,ρ,g,hs,c,p⟩=>?_
  .obtain ⟨t,n,_,_⟩:=l.there
   have m:X.ZF.heap.get? e=none:=by
    cases q:X.ZF.heap.get? e with
    |none=>rfl
    |some o=>let⟨o',z⟩:=I.base.there e o q (by rw[i];simp);rw[l.new]at z;cases z
   exact WO rfl Y O H _ e _ vs (I.kept (t':=s.toks) l.keeps) n rfl rfl ⟨_,rfl,rfl⟩ (I.ZK.off l.new) m q
  .refine ⟨u,ρ,g,hs,c,(fh (R:=RVs X.K) p).mono λvs H1 ⟨j,S,g1,s1,h,rs,b⟩=>?_⟩
   have b:Jt X.K W (if S.length<=Ab then .exc k S g1 else .ZV) j H1 D:=b
   split at b
   .rename_i hl
    exact⟨by rw[<-rs.length,UP];unfold Ab at hl;omega,vs,b vs j H1 .refl h rs⟩
   .exact b.elim
 |some f=>
  rcases h with z|rfl
  .cases z
  let⟨fI,Yz,newId,B,Yh,w,y,XS,IN,_⟩:=M;refine(v8 (W:=λdx v H=>∃H0,H=upd H0 dx (.xd [(f,v)])/\H0 dx=none/\W k [v] H0) w L.bound y XS IN hr i ZC G c J (λY O H s e oe dx v I q1 q2 Z V U T _ ⟨H0,Q,P,N⟩=>Uu f rfl Y O H s e oe dx v H0 I q1 q2 Z V U T Q P N) F E).imp ?_;rintro D O H ⟨u,ρ,g,hs,c,p⟩;refine⟨u,ρ,g,hs,c,(fh (R:=RVs X.K) p).mono λvs H1 ⟨j,S,g1,s1,h,rs,b⟩=>?_⟩;have b:Jt X.K W (if S.length<=Ab then .exc k S g1 else .ZV) j H1 D:=b
  split at b
  .have q:=b vs j H1 .refl h rs
   let⟨v,rfl⟩:=h2 f rfl vs H1 q;exact⟨v,rfl,λe dx _ YT _=>⟨H1,rfl,YT,q⟩⟩
  .exact b.elim
def gU{K:Hu}{ρ:List Addr}{H:Hp}{xf:XF}{d:List U}{v0:V}(h:∀w dx f,xf=some (dx,f,w)->RVs K ρ H d [w]):∀{xs:List (Option U)} {S:List U} {vs:List V},Jm d xs=some S->XRs K xf xs vs->RVs K ρ H S vs
 |[],S,vs,e,r=>by cases e;cases r;rfl
 |some u::xs,S,vs,e,r=>by
  let⟨v,j,rfl,b,a⟩:=r;let⟨m,i,rfl⟩:=XB.mp e;exact⟨v,j,rfl,b _ _,gU (v0:=v0) h i a⟩
 |none::xs,S,vs,e,r=>by
  let⟨v,j,rfl,⟨dx,f,b⟩,a⟩:=r;have c:=h _ _ _ b;cases d with
  |nil=>cases c
  |cons n t=>
   cases t with
   |cons _ _=>let⟨_,_,g,_,_,_,l,_⟩:=c;cases g;cases l
   |nil=>
    simp![Jm]at e;let⟨m,i,rfl⟩:=XB.mp e;let⟨w,t,g,k,_⟩:=c;cases g;exact⟨_,j,rfl,k,gU (v0:=v0) h i a⟩
def lM{K:Hu}{xf:XF}:∀{xs:List (Option U)} {vs:List V},XRs K xf xs vs->vs.length=xs.length
 |[],vs,h=>by cases h;rfl
 |_::xs,vs,h=>by let⟨v,r,rfl,_,h2⟩:=h;simp[lM h2]
def zH{cl:CL}{J:List Fn}{fi ci kk:Nat}{n c:Str}{C f:Addr}{p1 p3 p4 p5 p6 p7 p8 p9:Pos}{k1 kt:Nat}{a:Expr}{G:List Expr}{xs:List (Option U)}{bt:List Str}
  (V:r=Js (Aa J fu d) k1) (hex:X.ex=[]) (ZC:X.stack=X.env::X.outer) (M:XC X.K X.mg X.base c fo as C) (Xq:cl[ci]?=some (C,fo)) (hg:Gl X c) (hN:X.N.Nodup) (hi:X.N[i]?=some n) (hj:X.N[j]?=some x) (Y3:i≠j) (hk:X.env.scope.names.lookup n=some .local)
  (hx:Loc X.env.scope x) (X1:∀y,X.fn y=true) (hd:(c==("__debug__" : Str))=false) (UC:(n==("__debug__" : Str))=false) (Z:(n==("__classdict__" : Str))=false) (Yx:X.env.scope=sc) (Xo:∀y∈bt,X.mg y=none) (hv:Ac (G.map (B9 bt sc n fo as))=some xs)
  (F:X0 X.prog X.w X.K X.mg X.base (CX1 X.prog X.w) kk f fd ps (spX X.K cl J d fi ps.length)) (Vf:∀F,J[fi]?=some F->F.np=ps.length) (hr:Y8 kk X.A) {y:Str} (hgy:Gl X y) (hm:X.mg y=some (.ref f)) (hkp:PySem.W.keepIn X.K (.ref f)=true) (hb:Binds X.K fd ps []) (YS:(y==("__debug__" : Str))=false)
  (ha:∀pn E',PA (Bo X pn E') (a::es) (WN X.K W0 (Jg (Js (Aa J fu d) (k1-1)).ev es')))
  (he:starEach (a::es) X.env=(false,eval a X.env)::starEach es X.env) (Y7:(backTo pos (starEach es X.env)).any (·.1)=false) :
  PS X (.Try [.Assign [.Name x p1] (.Call (.Name y p3) (a::es) [] pos) p2] [.ExceptHandler (some (.Name c p4)) (some n) [.Assign [.Name x p5] (.Tuple G kt p6) p7] p8] [] [] p9) (Zw X.K W (Jn r (.UZ j fi es' ci xs))):=by
 cases k1 with
 |zero=>exact PS.ZV λ_ _=>by rw[V];rfl
 |succ m=>
  subst V;have hs:∀(ea:Addr) (P:Option Addr) (oe:Obj) (Y:List (Addr×Obj)),oe.cls=.ref C->oe.dict=P->(∃E,oe.data=.fields E)->PSs (Bm X Y ea oe) [.Assign [.Name x p5] (.Tuple G kt p6) p7]
    (λD O H=>xs.length<=Ab/\O[i]?=some (some (.ref ea)) /\∃xf:XF,XFok H xf/\(∀f,fo=some f ->∃dx v,P=some dx/\xf=some (dx,f,v)) /\∀E,XRs X.K xf xs E ->∀H' t,Gr H H'->H' t=none->D.nx (O.set j (some (.ref t))) (upd H' t (.ZY E))):=λea P oe Y Wo hdxo Y5=>by
   intro X2 s O H D I ⟨hl,q1,xf,qf,qx,q2⟩;let⟨E,rs,PAv⟩:=jo (X:=Bm X Y ea oe) (x:=c) (fo:=fo) (as:=as) (C:=C) (i:=i) (xf:=xf) ⟨M.bound,M.cls,M.made,M.kit,M.ans⟩ (Vx _ Hr) Wo (λf hf=>by let⟨dx,v,e1,e2⟩:=qx f hf;exact⟨dx,v,hdxo.trans e1,e2⟩) Y5 Yx Xo hi (.inl hk) UC Z hv
   refine dX (mX (X:=Bm X Y ea oe) hN hj hx (gO PAv) #[2] (.inl (X1 x))) cQ X2 s O H D I ?_
   refine⟨q1,qf,λH' g=>⟨?_,λt R=>q2 E rs H' t g R⟩⟩;rw[lM rs,UP];unfold Ab at hl;lia
  refine(acp (tb:=λE0=>Gd (Zw X.K (WE cl E0) (Jn (Js (Aa J fu d) (m+1)) (.set (.nm j) (.call fi es')))) Fm) hex ZC M.cls M.bound hg hN hi hk hd (λE0 pn E' hP=>?_) hs).impI λY s D O H I ⟨Q,ρ,g,T,hg,p0⟩=>?_
  .exact dX (mQ (X:=Bo X pn E') hN hj hx (.inl (X1 x)) (lN (X:=Bo X pn E') (r:=Js (Aa J fu d) m) F hP Vf hr hgy hm hkp hb YS (ha pn E') he Y7) #[2]) cQ
  .refine ⟨Q,ρ,g,T,hg,?_⟩
   have p:Jt X.K W (Bf ((Js (Aa J fu d) (m+1)).ev (.call fi es') Q g) j ci xs Q) ρ H D:=p0;clear p0;show Jt X.K _ (((Js (Aa J fu d) (m+1)).ev (.call fi es') Q g).bind _) ρ H _;revert p;cases(Js (Aa J fu d) (m+1)).ev (.call fi es') Q g with
   |ok u g1=>
    intro p;simp![Bf]at p;simp![Out.bind,Ji,Af];split at p
    .rename_i hl;rw[YE hl];exact p
    .exact p.elim
   |exc c' fs g1=>
    intro p;simp![Bf]at p;split at p
    .rename_i VE
     let⟨rfl,hl,hz,hf1⟩:=VE;split at p
     .rename_i S XG
      intro E ZO H' st rh rv;have fin:∀(P:Option Addr) (H1:Hp) (xf:XF),ZI X.K ZO H' ZO H1->RH X.K ZO H1 g1->XFok H1 xf->(∀f,fo=some f ->∃dx v,P=some dx/\xf=some (dx,f,v))->(∀w dx f,xf=some (dx,f,w)->E=[w]) ->∀(ea:Addr) (ZT:L2.St),H1 ea=none->ZT.length=X.N.length ->
        (xs.length<=Ab/\(ZT.set i (some (.ref ea)))[i]?=some (some (.ref ea)) /\∃xf:XF,XFok H1 xf/\(∀f,fo=some f ->∃dx v,P=some dx/\xf=some (dx,f,v)) /\∀E,XRs X.K xf xs E ->∀Yc t,Gr H1 Yc->Yc t=none->(DD i D).nx ((ZT.set i (some (.ref ea))).set j (some (.ref t))) (upd Yc t (.ZY E))):=λP H1 xf s1 r1 f1 f2 f3 ea ZT L B=>by
       refine⟨hz,by rw[VX (by rw[B];exact(Ye.mp hi).1)],xf,f1,f2,λws rws H2 t gr R=>?_⟩
       have S2:=((st.trans s1).trans (gr.Tp X.K ZO)).trans (.fresh (o:=.ZY ws) R);refine p _ ZO _ S2 ((gr.rh _ _ _ r1).step_fresh R) ⟨?_,λk u e=>?_⟩
       .simp only [PZ,RA]
        rw[T.len,B,I.len]
       .have hjl:j<(List.replicate Q.length (none:Option U)).length:=by rw[RA];exact hl
        by_cases hkj:k=j
        .subst hkj
         rw[VX hjl]at e;cases e;refine⟨.ref t,?_,t,ws,rfl,upd_same,gU (v0:=.ZJ) (λw dx f z=>?_) XG rws⟩
         .rw [Ve Y3,VX (by rw[PZ,B];exact(Ye.mp hj).1)]
         .rw [<-f3 w dx f z]
          exact RVs.step ((s1.trans (gr.Tp X.K ZO)).trans (.fresh R)) _ _ rv
        .rw [Ve (Ne.symm hkj),Qb]at e
         split at e<;>cases e
      refine⟨C,fo,Xq,?_⟩;cases fo with
      |none=>exact⟨rfl,λea ZT L B=>fin none H' none .refl rh trivial (λf z=>by cases z) (λw dx f z=>by cases z) ea ZT L B⟩
      |some f0=>
       have hvl:E.length=1:=by rw[<-rv.length];exact hf1
       let⟨v,rfl⟩:=List.length_eq_one_iff.mp hvl;refine⟨v,rfl,λdx YT=>⟨rfl,λea ZT L B=>?_⟩⟩;exact fin (some dx) (upd H' dx (.xd [(f0,v)])) (some (dx,f0,v)) (.fresh YT) (rh.step_fresh YT) upd_same (λf z=>by cases z;exact⟨dx,v,rfl,rfl⟩) (λw dx' f z=>by cases z;rfl) ea ZT L B
     .exact p.elim
    .exact p.elim
   |ZV=>exactλp=>p
end
open PySem PySem.Spec PyProof.Rows L2
section
variable{O:L2.St}
def wO{d:Addr}{C:Value}{B:XK}(I:L2.Z0 X Y O H s)(c:X.ex=[])(j:X.stack=X.env::X.outer)(F:Fly X.prog X.w X.stack H s d C dx H' s')(q:B C dx H'):
  wpAny (model X.prog X.w) X.A (leaving X.env (.ref d)) (λ_ y=>CX1 X.prog X.w X.outer X.WH X.ZF B (.ref d) y) (λe' y=>CX1 X.prog X.w X.outer X.WH X.ZF B e' y) s':=by
 have hf:=gy I j;have f:L2.Z0 X Y O H' s':=I.SQ F.os F.un F.ZK F.bare (λb z=>absurd z #[3])
 let⟨T,tr,u,r⟩:=F.tr;have J:s'.heap.FunFrames X.base (X.env::X.outer):=by rw[<-j];exact f.stack
 have a:∀b,s.heap.get? b=none->X.ZF.heap.get? b=none:=λb e=>by
  cases q:X.ZF.heap.get? b with
  |none=>rfl
  |some o=>let⟨o',z⟩:=I.base.there b o q (by rw[c];simp);rw[e]at z;cases z
 refine wu (by rw[I.ok.frames,j]) J hf tr λh' g K D k=>?_
 rw[<-j]at K;have G:X.ZF.heap.get? g=none:=by
  cases q:X.ZF.heap.get? g with
  |none=>rfl
  |some o=>let⟨o',z⟩:=f.base.there g o q (by rw[c];simp);rw[D]at z;cases z
 have E:=f.ZK.off D;refine⟨d,C,dx,H',rfl,⟨f.os,f.bare,lh f c K λb t=>?_,kn f K λb t=>?_,F.free,a d F.new,g,k,E,G⟩,q⟩
 .have:b=d\/b=T\/b=g:=by simpa using t
  rcases this with rfl|rfl|rfl
  .exact a _ F.new
  .exact a _ r
  .exact G
 .have:b=d\/b=T\/b=g:=by simpa using t
  rcases this with rfl|rfl|rfl
  .exact F.free
  .exact u
  .exact E
end
def wd{qual:Str}{f:Addr}{b:Value}{H:Hp}{E a:XK}(h:∀C dx H,a C dx H->E C dx H):
  A4 (CX1 P w) (Be (CX1 P w) P w K mg base N qual scope f b A outer s H E) a:=by
 rintro Y O H' s' e c I ⟨ea,C,dx,H2,rfl,F,q⟩;exact wO I rfl rfl F (h C dx H2 q)
open PySem PySem.Spec PyProof.Rows L2 PySem.W
def jS{T:Tab}{k:Nat}(h:D9 T x=some k):∃fo as,T.xc[k]?=some (x,fo,as):=by
 let⟨h1,h2,_⟩:=Pk.mp h;refine⟨T.xc[k].2.1,T.xc[k].2.2,?_⟩;rw[YJ h1,<-eq_of_beq h2]
def dQ{l:List α}{a:α}(h:Ci l=some a):l=[a]:=by
 cases l with
 |nil=>exact qN h
 |cons b r=>
  refine qI h λh1 h=>?_;cases aA h1;cases h
  rfl
def jQ{s:Stmt}{q:List Expr×Expr}(h:DF s=some q):∃p,s = .Assign q.1 q.2 p:=by
 cases s with
 |Assign ts v p=>cases h;exact⟨p,rfl⟩
 |_=>exact qN h
def lS{b:List Stmt}{q:Str×Expr}(h:DN b=some q):∃p p2,b=[.Assign [.Name q.1 p] q.2 p2]:=by
 refine qB h λs hs h=>qB h λa f h=>qB h λt d h=>qM h λx c e=>?_;let⟨p2,rfl⟩:=jQ f;subst e;let⟨p,rfl⟩:=aG c;rw[dQ hs,dQ d];exact⟨p,p2,rfl⟩
def yu{a:List ExceptHandler}{q:Str×Str×List Stmt}(h:Fy a=some q):∃p p2,a=[.ExceptHandler (some (.Name q.1 p)) (some q.2.1) q.2.2 p2]:=by
 cases a with
 |nil=>exact qN h
 |cons s r=>
  cases s with
  |ExceptHandler c n b p2=>
   refine qI h λh1 h=>qB h λc' g h=>qB h λx d h=>qM h λi f e=>?_;cases aA h1;subst g;subst f;subst e;let⟨p,rfl⟩:=aG d;exact⟨p,p2,rfl⟩
def zj{vs:List Expr}(h:Ge e=some vs):∃k p,e = .Tuple vs k p:=by
 cases e with
 |Tuple ws k p=>cases h;exact⟨k,p,rfl⟩
 |_=>exact qN h
structure Ut(T:Tab)(cl:CL)(J:List Fn)(d:Nat)(X:Cx)(sc:Scope)(N:List Str)(W:XQ):Prop where
 ok:Zo T J d X.Zh sc N
 Xq:∀(k:Nat) (x:Str) (fo:Option Str) (as:List (Str×Bool)),T.xc[k]?=some (x,fo,as) ->∃C,cl[k]?=some (C,fo)/\XC X.K X.mg X.base x fo as C
 hF1:∀(i:Nat) (x:Str),T.J[i]?=some x->(x==("__debug__" : Str))=false->x∈T.fs ->∃f fd ps,X.mg x=some (.ref f)/\PySem.W.keepIn X.K (.ref f)=true/\Binds X.K fd ps []/\X0 X.prog X.w X.K X.mg X.base (CX1 X.prog X.w) (2*d+2) f fd ps (spX X.K cl J d i ps.length) /\∀F,J[i]?=some F->F.np=ps.length
 WO:∀(k:Nat) (C:Addr),cl[k]?=some (C,none) ->∀Y O H s e oe vs,L2.Z0 X Y O H s->s.heap.get? e=some oe->oe.cls=.ref C->oe.dict=none->(∃fs,oe.data=.fields fs/\fs[1]?=some .none)->H e=none->X.ZF.heap.get? e=none->W k vs H->X.xe (.ref e) s
 Uu:∀(k:Nat) (C:Addr) (f:Str),cl[k]?=some (C,some f) ->∀Y O H s e oe dx v H0,L2.Z0 X Y O H s->s.heap.get? e=some oe->oe.cls=.ref C->oe.dict=some dx->(∃fs,oe.data=.fields fs/\fs[1]?=some .none)->H e=none->X.ZF.heap.get? e=none->H=upd H0 dx (.xd [(f,v)])->H0 dx=none->W k [v] H0->X.xe (.ref e) s
 Uv:∀(k:Nat) (C:Addr) (f:Str),cl[k]?=some (C,some f) ->∀vs H,W k vs H ->∃v,vs=[v]
 hp:∃E0,A4 (CX1 X.prog X.w) X E0 /\∀c vs H,W c vs H->WE cl E0 c vs H
 own:PassesOwn (model X.prog X.w) X.A X.env X.xe
 ex:X.ex=[]
 WG:X.stack=X.env::X.outer
 blk:X.env.blockKind=.function
 fn:∀x,X.fn x=true
section
variable{T:Tab}{cl:CL}{J:List Fn}{W:XQ}
def cG{f:Stmt->Option Z6}(c:∀s s',f s=some s' ->∀n,PS X s (Zw X.K W (Jn (Js (Aa J fu d) n) s'))):∀{ss:List Stmt} {b:List Z6},Ac (ss.map f)=some b ->∀n,PSs X ss (Zw X.K W ((Js (Aa J fu d) n).ex b))
 |[],_,h=>λn=>by
  cases h;cases n with
  |zero=>exact PSs.ZV λ_ _=>rfl
  |succ n=>exact pZ (r:=Js (Aa J fu d) n)
 |s::ss,b,h=>λn=>by
  rw[Xu]at h;cases ea:f s with
  |none=>rw[ea]at h;cases h
  |some s'=>
   rw[ea]at h;simp![Ac]at h;cases a:Ac (ss.map f)with
   |none=>rw[a]at h;cases h
   |some r'=>
    rw[a]at h;cases h;cases n with
    |zero=>exact PSs.ZV λ_ _=>rfl
    |succ n=>exact mj (c s s' ea n) (cG c a n)
def Ut.glob(ok:Ut T cl J d X sc N W){x:Str}(h:glob sc x=true):Gl X x:=by
 show X.env.scope.names.lookup x=_;have:X.env.scope=sc:=ok.ok.Yx;rw[this];exact VR.mp h
def abA(ok:Ut T cl J d X sc N W){c:Str×List Expr}{i:Z6}{p v:Pos}(h:HJ T sc (Ak T sc N m) c=some i)(n:Nat):PS X (.Raise (some (.Call (.Name c.1 p) c.2 [] v)) none pos) (Zw X.K W (Jn (Js (Aa J fu d) n) i)):=by
 let⟨x,es⟩:=c;cases es with
 |nil=>exact qN h
 |cons a es=>
  refine qI h λl h=>qB h λk hk h=>qB h λes' t h=>qB h λq j h=>qI h λs u=>?_;simp![Z1,Vy]at l;let⟨⟨y,w⟩,o⟩:=l;let⟨fo,as,r⟩:=jS hk;rw[r]at j;cases j;cases u;let⟨C,g,Z9⟩:=ok.Xq _ _ _ _ r;have b:=o;rw[V8,T6]at b;refine wC (d:=2*d) Z9 ok.ok.S1 ok.ex ok.WG ok.ok.calm (ok.glob w) (bH (av (fu:=fu) m ok.ok) o t n).Zh ?_ (λf e=>by subst e;exact ok.Uv k C f g) (λe=>by subst e;exact ok.WO k C g) (λf e=>by subst e;exact ok.Uu k C f g) (aJ y).1 (star_ne b.1 _) (cF b.2)
  rw[Rx,QZ]at s;exact s.imp id aA
def abc(ok:Ut T cl J d X sc N W){c v t:Str}{l:Str×List Expr}{b:List Expr}{u:Z6}{Z Y V U R Q P O:Pos}{kt:Nat}(h:HK T sc N (Ak T sc N m) x l c v t b=some u)(n:Nat):
  PS X (.Try [.Assign [.Name x Z] (.Call (.Name l.1 Y) l.2 [] pos) p2] [.ExceptHandler (some (.Name c V)) (some v) [.Assign [.Name t U] (.Tuple b kt R) Q] P] [] [] O) (Zw X.K W (Jn (Js (Aa J fu d) n) u)):=by
 let⟨y,es⟩:=l;cases es with
 |nil=>exact qN h
 |cons a es=>
  refine qI h λz h=>qB h λj hj h=>qB h λi hi h=>qB h λfi p h=>qB h λci s h=>qB h λes' r h=>qI h λE h=>qB h λq w h=>qM h λS XG e=>?_;subst e;simp![E8,Z1,Vy,VR]at z;let⟨⟨⟨⟨⟨⟨⟨⟨c0,c1⟩,c2⟩,D⟩,B⟩,c5⟩,c6⟩,A⟩,c8⟩:=z;rw[Vy,TZ]at E;let⟨fo',UB,F⟩:=jS s;rw[F]at w;cases w;let⟨C,hC,Z9⟩:=ok.Xq _ _ _ _ F;let⟨f,fd,ps,M,L,I,H,G⟩:=ok.hF1 fi _ (ixOf_get p) (aJ B).1 (Ur.mp c0);have g:=A;rw[V8,T6]at g;have Yx:X.env.scope=sc:=ok.ok.Yx;have hN:X.N=N:=ok.ok.hN;subst c1;have o:∀k E',Zo T J d (Bo X k E').Zh sc N:=λk E'=>⟨ok.ok.hF,ok.ok.cs,ok.ok.bt,ok.ok.room,ok.ok.hN,ok.ok.Yx,ok.ok.nd,ok.ok.calm,rfl⟩;let⟨Ka,l2,_⟩:=jP hj;exact zH rfl ok.ex ok.WG Z9 hC (ok.glob c5) (by rw[hN];exact ok.ok.nd) (by rw[hN];exact ixOf_get hi) (by rw[hN];exact Ka) E (by rw[Yx];exact c8) (by rw[Yx];exact l2) ok.fn (aJ c2).1 (aJ D).1 (aJ D).2.1 Yx ok.ok.bt XG H G ok.ok.S1 (ok.glob c6) M L I (aJ B).1
   (λk E'=>(bH (av (fu:=fu) m (o k E')) A r (n-1)).Zh) (star_ne g.1 _) (cF g.2)
def fQ(ok:Ut T cl J d X sc N W):∀m st j,CB T sc N m st=some j ->∀n,PS X st (Zw X.K W (Jn (Js (Aa J fu d) n) j))
 |0,_,_,h=>by cases h
 |m+1,st,j,h=>λn=>by
  have ih:=fQ ok m;have C:=av (fu:=fu) m ok.ok;have i:∀st:Stmt,((Bt T sc N m st).map λs=>Z6.Zh [s])=some j->PS X st (Zw X.K W (Jn (Js (Aa J fu d) n) j)):=λst h=>by
   refine qM h λs' D e=>?_;subst e;cases n with
   |zero=>exact PS.ZV λ_ _=>rfl
   |succ n=>exact abi (fZ ok.ok ok.blk ok.fn m _ _ D n) n _ rfl
  cases st with
  |If c a b p=>
   refine qB h λc' g h=>qB h λa' B h=>qM h λb' A e=>?_;subst e;exact abP (((C _ _ g).2.1 n).Zh) (cG ih B n) (cG ih A n)
  |Raise e c p=>
   refine qI h λg h=>qB h λe' z h=>qB h λq l h=>?_;cases yK g;subst z;let⟨_,_,rfl⟩:=dI l;exact abA ok h n
  |Try b hs o f p=>
   refine qI h λg h=>qB h λq l h=>qB h λI r h=>qB h λy E h=>qB h λu k h=>qB h λt w h=>?_;rw[Z1]at g;cases aA g.1;cases aA g.2;let⟨x,v⟩:=q;let⟨F,G⟩:=u;let⟨c,H,bb⟩:=y;let⟨_,_,rfl⟩:=lS l;let⟨_,_,rfl⟩:=yu E;let⟨_,_,rfl⟩:=lS k;let⟨_,_,rfl⟩:=dI r;let⟨_,_,rfl⟩:=zj w;exact abc ok h n
  |_=>exact i _ h
end
open PySem PySem.Spec PyProof.Rows L2
set_option genInjectivity false in
structure FI where
 x:Str
 st:Stmt
 N:List Str
 ps:List Str
 cm:Option (Str×Str)
structure Sj(K:Hu)(x qual:Str)(st:Stmt)(f:Addr)(fd:FuncData):Prop where
 ex:∃(JT:Value) (od:Option Addr) (dV HV doc pm:Value) (an:Option Addr) (Zl ct:Value) (YK:Array (Option Value)),
  fd=PySem.W.fnOf x qual (B6 st) (B5 st) (AH st) dV HV doc pm an Zl ct/\K.lookup f=some ⟨JT,od,.func fd,YK⟩/\PySem.W.codeIn K Zl qual=true
 kp:PySem.W.keepIn K (.ref f)=true
noncomputable def FI.nm(fi:FI):Str:=match fi.cm with|none=>fi.x|some c=>c.2
noncomputable def FI.tn(fi:FI):Str:=if fi.cm.isSome then "__debug__" else fi.x
def FAt(K:Hu)(mg:Str->Option Value)(fi:FI)(f:Addr):Prop:=match fi.cm with
 |none=>mg fi.x=some (.ref f)
 |some _=>False
structure FOk(T:Tab)(K:Hu)(mg:Str->Option Value)(fi:FI)(F:Fn):Prop where
 sc:Uj fi.N fi.ps (AH fi.st)
 np:F.np=fi.ps.length
 ns:F.ns=fi.N.length
 body:∃m,Ac ((B5 fi.st).map (Ca T fi.x (AH fi.st) fi.N m))=some F.body
 obj:∃f fd,FAt K mg fi f/\Sj K fi.nm fi.x fi.st f fd/\Binds K fd fi.ps []
def AllOk(T:Tab)(K:Hu)(mg:Str->Option Value):List FI->List Fn->Prop
 |[],[]=>True
 |fi::r,F::s=>FOk T K mg fi F/\AllOk T K mg r s
 |_,_=>False
section
variable{T:Tab}
def AllOk.get:∀{a:List FI} {J:List Fn} {i:Nat} {fi:FI},AllOk T K mg a J->a[i]?=some fi ->∃F,J[i]?=some F/\FOk T K mg fi F
 |[],_,_,_,_,e=>by simp at e
 |_::_,[],_,_,h,_=>False.elim h
 |_::_,F::_,0,_,h,e=>by simp at e;subst e;exact⟨F,rfl,h.1⟩
 |_::r,_::s,i+1,fi,h,e=>by
  let⟨F,c,b⟩:=AllOk.get (i:=i) (fi:=fi) h.2 (by simpa using e)
  exact⟨F,by simpa using c,b⟩
structure Rv(T:Tab)(K:Hu)(mg:Str->Option Value)(YA:List FI)(J:List Fn):Prop where
 names:T.J=YA.map FI.tn
 all:AllOk T K mg YA J
 cs:∀x u,T.cs.lookup x=some u ->∃v val,mg x=some val/\RelV v val /\∀ρ H,RV K ρ H u v
 bt:∀x∈T.bt,mg x=none
def kq{vs:List V}(b:n=N.length)(h:RVs K ρ H S vs)(f:S.length<=N.length):RS K ρ H (S.map some++List.replicate (n-S.length) none) (L2.start N vs) where
 len:=by unfold L2.start;simp[h.length,b]
 val:=λi u e=>by
  subst b;unfold L2.start;by_cases hi:i<S.length
  .rw [X7 (by simpa using hi),Wi]at e
   rw[X7 (by rw[Zg,<-h.length];exact hi),Wi]
   cases a:S[i]? with
   |none=>rw[a]at e;cases e
   |some w=>
    rw[a]at e;cases e;let⟨v,d,c⟩:=h.get a;exact⟨v,by rw[d];rfl,c⟩
  .rw [WC (by simpa using hi),Qb]at e
   split at e<;>cases e
def gR(h:env.scope.kind=.function):env.blockKind=.function:=by
 unfold Env.blockKind;rw[h]
 rfl
def kL{W:XQ}{o:Out Fl}{Q:VK}(p:post K W (RV K) (o.bind λf g=>match f with|.rt u=>.ok u g|.nx _=>.ok .ZJ g|_=>.ZV) ρ H Q):Jt K W o ρ H {nx:=λ_ H'=>Q .ZJ H',rt:=Q}:=by
 revert p;cases o with
 |ok fl g1=>
  cases fl with
  |nx a=>exactλp O ZO H' s h hs=>p .ZJ ZO H' s h rfl
  |rt u=>exactλp=>p
  |bk a=>exactλp=>p.elim
  |ct a=>exactλp=>p.elim
 |exc c fs g1=>exactλp=>p
 |ZV=>exactλp=>p
def Fb(T:Tab)(a:CL)(K:Hu)(mg:Str->Option Value):Prop:=∀(k:Nat) (x:Str) (fo:Option Str) (as:List (Str×Bool)),T.xc[k]?=some (x,fo,as) ->∃C,a[k]?=some (C,fo) /\∀base:Heap,K.In base->base.Ns mainGlobals mg->XC K mg base x fo as C
def AF(T:Tab)(a:CL)(P:Program)(w:World)(K:Hu)(mg:Str->Option Value)(base:Heap)(J:List Fn)(d i:Nat)(fi:FI)(f:Addr)(fd:FuncData):Prop:=X0 P w K mg base VZ (2*d+2) f fd fi.ps (TB K J d i fi.ps.length)/\(fi.x∈T.fs->X0 P w K mg base (CX1 P w) (2*d+2) f fd fi.ps (spX K a J d i fi.ps.length))
def pF{r:CL}{YA:List FI}{J:List Fn}(G:Rv T K mg YA J)(xo:Fb T r K mg)(kb:K.In base)(nb:base.Ns mainGlobals mg):∀(d i:Nat) (fi:FI),YA[i]?=some fi ->∀f fd,Sj K fi.nm fi.x fi.st f fd->AF T r P w K mg base J d i fi f fd
 |0,i,fi,_,f,fd,_=>⟨⟨λa H Q E ⟨_,ρ,g,S,_,_,_,p⟩=>p.elim,λA outer s H args S a Q E _ _ _ _ ⟨_,ρ,g,S,_,_,_,p⟩=>p.elim⟩,λ_=>⟨λa H Q E ⟨_,ρ,g,S,_,_,_,p⟩=>p.elim,λA outer s H args S a Q E _ _ _ _ ⟨_,ρ,g,S,_,_,_,p⟩=>p.elim⟩⟩
 |d+1,i,fi,hi,f,fd,F=>by
  let⟨Fi,ei,Z9⟩:=G.all.get hi;let⟨m,V⟩:=Z9.body;have Y7:fi.ps.length<=fi.N.length:=by have:=Rz List.length Z9.sc.pre;rw[Vp]at this;lia
  have y:∀j l,YA[j]?=some l ->∃f fd,FAt K mg l f/\PySem.W.keepIn K (.ref f)=true/\Binds K fd l.ps []/\AF T r P w K mg base J d j l f fd /\∀F,J[j]?=some F->F.np=l.ps.length:=λj l Z=>by
   let⟨Fj,ej',Oj⟩:=G.all.get Z;let⟨f',R,m1,m2,m3⟩:=Oj.obj;exact⟨f',R,m1,m2.kp,m3,pF G xo kb nb d j l Z f' R m2,λF' e=>by rw[ej']at e;cases e;exact Oj.np⟩
  have Ru:∀j x,T.J[j]?=some x->(x==("__debug__" : Str))=false ->∃f fd l,FI.x l=x/\mg x=some (.ref f)/\PySem.W.keepIn K (.ref f)=true/\Binds K fd l.ps []/\AF T r P w K mg base J d j l f fd /\∀F,J[j]?=some F->F.np=l.ps.length:=λj x n YS=>by
   rw[G.names,Wi]at n;cases Z:YA[j]? with
   |none=>rw[Z]at n;cases n
   |some l=>
    rw[Z]at n;have n:l.tn=x:=by simpa using n
    unfold FI.tn at n;let⟨f',R,m1,m2,m3,m5,m6⟩:=y j l Z;cases hc:l.cm with
    |some c=>rw[hc]at n;subst n;cases YS
    |none=>
     rw[hc]at n;have n:l.x=x:=n;subst n;have m1':mg l.x=some (.ref f'):=by unfold FAt at m1;rw[hc]at m1;exact m1
     exact⟨f',R,l,rfl,m1',m2,m3,m5,m6⟩
  have U:∀(CX:Xs) o A outer s H E,Y8 (2*d+3) (A.deeper (envOfC fi.x (AH fi.st) s.heap.objs.size f o))->Zo T J d (Be CX P w K mg base fi.N fi.x (AH fi.st) f o A outer s H E).Zh (AH fi.st) fi.N:=λCX o A outer s H E u=>by
   refine⟨λj x n YS=>?_,G.cs,G.bt,u,rfl,rfl,Z9.sc.nd,rfl,rfl⟩
   .obtain ⟨f',R,l,_,M,L,D,t,B⟩:=Ru j x n YS
    have t:=t.1;exact⟨f',R,l.ps,M,L,D,t,B⟩
  have okX:∀(CX:Xs) (W:XQ) o A outer s H E X,(X=Be CX P w K mg base fi.N fi.x (AH fi.st) f o A outer s H E\/X=(Be CX P w K mg base fi.N fi.x (AH fi.st) f o A outer s H E).Zh)->Y8 (2*d+3) (A.deeper (envOfC fi.x (AH fi.st) s.heap.objs.size f o)) ->
    (∀(k:Nat) (C:Addr) (fo:Option Str),r[k]?=some (C,fo) ->∀Y O H s e oe a H0,L2.Z0 X Y O H s->s.heap.get? e=some oe->oe.cls=.ref C->(∃fs,oe.data=.fields fs/\fs[1]?=some .none)->H e=none->X.ZF.heap.get? e=none->W k a H0->(fo=none->oe.dict=none/\H=H0)->(∀f,fo=some f ->∃dx v,oe.dict=some dx/\a=[v]/\H=upd H0 dx (.xd [(f,v)])/\H0 dx=none)->X.xe (.ref e) s) ->
    (∀(k:Nat) (C:Addr) (f:Str),r[k]?=some (C,some f) ->∀a H,W k a H ->∃v,a=[v])->(∃E0,A4 (CX1 P w) X E0 /\∀c a H,W c a H->WE r E0 c a H)->Ut T r J d X (AH fi.st) fi.N W:=λCX W o A outer s H E X hX u n Uv hp=>by
   have WO:∀(k:Nat) (C:Addr),r[k]?=some (C,none) ->∀Y O H s e oe a,L2.Z0 X Y O H s->s.heap.get? e=some oe->oe.cls=.ref C->oe.dict=none->(∃fs,oe.data=.fields fs/\fs[1]?=some .none)->H e=none->X.ZF.heap.get? e=none->W k a H->X.xe (.ref e) s:=
    λk C hk Y O H s e oe a I M L D t B a6 q=>n k C none hk Y O H s e oe a H I M L t B a6 q (λ_=>⟨D,rfl⟩) λf z=>by cases z
   have Uu:∀(k:Nat) (C:Addr) (f:Str),r[k]?=some (C,some f) ->∀Y O H s e oe dx v H0,L2.Z0 X Y O H s->s.heap.get? e=some oe->oe.cls=.ref C->oe.dict=some dx->(∃fs,oe.data=.fields fs/\fs[1]?=some .none)->H e=none->X.ZF.heap.get? e=none->H=upd H0 dx (.xd [(f,v)])->H0 dx=none->W k [v] H0->X.xe (.ref e) s:=
    λk C f hk Y O H s e oe dx v H0 I M L D t B a6 a7 a8 q=>n k C (some f) hk Y O H s e oe [v] H0 I M L t B a6 q (λz=>by cases z) λf' z=>by cases z;exact⟨dx,v,D,rfl,a7,a8⟩
   have Xq:∀(k:Nat) (x:Str) (fo:Option Str) (as:List (Str×Bool)),T.xc[k]?=some (x,fo,as) ->∃C,r[k]?=some (C,fo)/\XC K mg base x fo as C:=λk x fo as h=>let⟨C,h1,h2⟩:=xo k x fo as h;⟨C,h1,h2 base kb nb⟩
   have hF1:∀(i:Nat) (x:Str),T.J[i]?=some x->(x==("__debug__" : Str))=false->x∈T.fs ->∃f fd ps,mg x=some (.ref f)/\PySem.W.keepIn K (.ref f)=true/\Binds K fd ps []/\X0 P w K mg base (CX1 P w) (2*d+2) f fd ps (spX K r J d i ps.length) /\∀F,J[i]?=some F->F.np=ps.length:=λj x h YS h'=>by
    let⟨f',R,l,rfl,M,L,D,t,B⟩:=Ru j x h YS;exact⟨f',R,l.ps,M,L,D,t.2 h',B⟩
   rcases hX with rfl|rfl
   .exact ⟨U CX o A outer s H E u,Xq,hF1,WO,Uu,Uv,hp,PassesOwn.leaving,rfl,rfl,gR Z9.sc.kind,λ_=>rfl⟩
   .exact ⟨U CX o A outer s H E u,Xq,hF1,WO,Uu,Uv,hp,PassesOwn.never,rfl,rfl,gR Z9.sc.kind,λ_=>rfl⟩
  have fin0:X0 P w K mg base VZ (2*(d+1)+2) f fd fi.ps (TB K J (d+1) i fi.ps.length):=by
   let⟨JT,od,dV,HV,doc,pm,an,o,ct,YK,rfl,lk,Y9⟩:=F.ex;refine ig (k:=2*d+3) lk Y9 Z9.sc (λa H Q E ⟨_,ρ,g,S,_,rs,hl,_⟩=>by rw[<-rs.length];exact hl) λA outer s H a Q E u h=>?_
   let⟨fu,ρ,g,S,hg,rs,hl,p⟩:=h;simp![Aa,ei,Bx]at p;rw[YE (by rw[hl,Z9.np])]at p
   refine⟨Zw K W0 ((Js (Aa J fu d) fu).ex Fi.body),PSs.Zh ?_,_,ρ,g,kq Z9.ns rs (by lia),hg,kL p⟩
   unfold Ca at V;split at V
   .exact cG (fQ (okX VZ W0 o A outer s H E _ (.inr rfl) u (λk C fo _ Y O H s e oe a H0 _ _ _ _ _ _ z=>z.elim) (λk C f _ a H z=>z.elim) ⟨λ_ _ _=>False,λ_ _ _ _ _ _ _ ⟨_,_,_,_,_,_,z⟩=>z.elim,λ_ _ _ z=>z.elim⟩) m) V fu
   .exact bV (fZ (U VZ o A outer s H E u) (gR Z9.sc.kind) (λ_=>rfl) m) V fu
  refine⟨fin0,λXY=>?_⟩;let⟨JT,od,dV,HV,doc,pm,an,o,ct,YK,rfl,lk,Y9⟩:=F.ex;refine ig (k:=2*d+3) lk Y9 Z9.sc (λa H Q E ⟨_,ρ,g,S,_,rs,hl,_⟩=>by rw[<-rs.length];exact hl) λA outer s H a Q E u h=>?_
  let⟨fu,ρ,g,S,hg,rs,hl,p⟩:=h;simp![Aa,ei,Bx]at p;rw[YE (by rw[hl,Z9.np])]at p
  refine⟨Zw K (WE r E) ((Js (Aa J fu d) fu).ex Fi.body),?_,_,ρ,g,kq Z9.ns rs (),hg,kL p⟩
  unfold Ca at V;rw[YE (Ur.mpr XY)]at V;refine cG (fQ (okX (CX1 P w) (WE r E) o A outer s H E _ (.inl rfl) u (λk C fo hC Y O H' s' e oe a H0 I M L ⟨fs,D,t⟩ B a6 ⟨C',fo',Tn,q⟩ z1 z2=>?_) (λk C f hC a H ⟨C',fo',Tn,q⟩=>?_) ⟨E,wd λ_ _ _ z=>z,λ_ _ _ z=>z⟩) m) V fu
  .rw [hC]at Tn
   cases Tn;refine leave_new I rfl rfl M D t B a6 ?_;rw[L];cases fo with
   |none=>let⟨b1,rfl⟩:=z1 rfl;rw[b1];exact q
   |some f=>
    let⟨dx,v,b1,rfl,rfl,b2⟩:=z2 f rfl;let⟨v',b3,q⟩:=q;cases b3;rw[b1];exact q dx b2
  .rw [hC]at Tn
   cases Tn;let⟨v,b,_⟩:=q;exact⟨v,b⟩
def aa9{xs:List V}(b:C8 H)(h:SqL K H a xs):SqF K H a xs:=by
 rcases h with(h|h)|h
 .rcases b a with z|⟨o,ys,z⟩
  .rw [h]at z;cases z
  .rw [h]at z;cases z
 .exact .inl h
 .exact .inr h
def jL{ρ:List Addr}{H:Hp}:∀ns:List Int,RVs K ρ H (ns.map U.int) (ns.map V.int)
 |[]=>rfl
 |n::ns=>⟨.int n,ns.map V.int,rfl,rfl,jL ns⟩
def aaY{J:List Fn}{E:XK}(c:C8 H)(b:SqL K H a (ns.map V.int)){g':G}(h:Aa J fu d i [.Zy (ns.map U.int)] []=.ok (.bl true) g'):
  TB K J d i 1 [.ref a] H (λv _=>v=.bl true) E:=by
 refine⟨fu,[],[],[.Zy (ns.map U.int)],⟨rfl,λi j a e=>by simp at e,λn a o e=>by simp at e⟩,⟨_,_,rfl,⟨a,_,rfl,aa9 c b,jL ns⟩,rfl⟩,rfl,?_⟩
 rw[h];exactλv ZO H' _ _ r=>r
end
open PySem PySem.Spec PyProof.Rows L2 PySem.W
def kD{b c:Type}{f g:b->Option c}:∀{l:List b},(∀x∈l,f x=g x)->l.filterMap f=l.filterMap g
 |[],_=>rfl
 |a::l,h=>by rw[TN,TN,h a (.head _),kD λx d=>h x (.tail _ d)]
def vf:∀{ps:List Str} {S:List α},ps.Nodup->S.length=ps.length->(ps.filterMap λn=>((ps.zip S).lookup n).map (n,·))=ps.zip S:=by
 intro ps
 induction ps with
 |nil=>intro S _ _;cases S<;>rfl
 |cons p ps ih=>
  intro S a b;cases S with
  |nil=>simp at b
  |cons u S=>
   have d:p ∉ ps:=(Rw.mp a).1;rw[TN];simp![Qw,Ti,PM,VJ];congr 1;refine(kD λx c=>?_).trans (ih (Rw.mp a).2 (by simpa using b))
   have:(x==p)=false:=by
    rw[P6];rintro rfl;exact d c
   simp![this]
def k7{b:Type}:∀{ps:List Str} {S:List b},S.length=ps.length ->∀x∈ps,((ps.zip S).lookup x).isNone=false
 |[],_,_,x,a=>by simp at a
 |p::ps,[],hl,_,_=>by simp at hl
 |p::ps,u::S,hl,x,a=>by
  simp![Qw,Ti];cases e:x==p with
  |true=>rfl
  |false=>
   rcases X8.mp a with rfl|h
   .simp at e
   .exact k7 (by simpa using hl) x h
def iM{S:List Value}(k:fd.params.posonlyargs=[])(j:fd.params.args.map (·.arg)=ps)(i:fd.params.vararg=none)(h:fd.params.kwonlyargs=[])(g:fd.params.kwarg=none)
  (f:fd.defaults=.none) (b:ps.Nodup) (a:S.length=ps.length):bindArgs fd ⟨S,[]⟩=pure (ps.zip S):=by
 unfold bindArgs;have e:(List.filter (λn=>((ps.zip S).lookup n).isNone) ps)=[]:=by
  rw[List.filter_eq_nil_iff];intro x c;rw[k7 a x c];decide
 have l:=vf b a;have hs:seqItems? Value.none=pure none:=rfl;have d : ¬ S.length > ps.length:=by lia
 simp![k,j,i,h,g,f,OQ,Ql,Ux,List.forIn_nil,pure_bind,hs,OC,Ta,Nat.zero_sub,List.drop_nil,Nat.sub_zero,OK,e,List.drop_length,List.zip_nil_right,Qs,S9,Xc,Vb,VB d,Oa,l]
def kU{b:Addr}{o:Obj}:∀{l:List Obj} {n:Nat},(BV n l).lookup b=some o->n<=b/\l[b-n]?=some o/\o.data ≠ .freed
 |[],_,e=>by cases e
 |x::l,n,e=>by
  have ZR:(BV (n+1) l).lookup b=some o->n<=b/\(x::l)[b-n]?=some o/\o.data ≠ .freed:=λe=>by
   let⟨h1,h2,c⟩:=kU e;let⟨k,rfl⟩:=Nat.exists_eq_add_of_le h1;rw[OL]at h2;refine⟨Hi (VY n) h1,?_,c⟩;rw[show n+1+k-n=k+1 by lia,OM]
   exact h2
  unfold BV at e;split at e
  .exact ZR e
  .rename_i a
   rw[Ti]at e;split at e
   .rename_i z
    cases e;have:=eq_of_beq z;subst this;exact⟨Hk _,by rw[Nat.sub_self];rfl,a⟩
   .exact ZR e
def y9(h:Heap):(AJ h).In h:=λb o e=>by
 let⟨_,h2,a⟩:=kU e;rw[Nat.sub_zero,W3]at h2;unfold Heap.get?;rw[h2];split
 .rename_i q;cases q;exact absurd rfl a
 .rfl
def kg(h:Cu N ps sc=true):Uj N ps sc:=by
 simp![Cu,Z1,Vy,Wd,WY,Rx]at h;let⟨⟨⟨⟨⟨⟨a,b⟩,c⟩,d⟩,e⟩,f⟩,g⟩:=h;exact⟨a,b,c,d,e,f,g⟩
def BG(fd:FuncData)(b:List Stmt):Stmt:=.FunctionDef fd.name fd.params b [] none [] fd.scope none fd.name ⟨0,0,0,0⟩
def lT{v:Value}(h:D6 v=true):v=.none:=by cases v<;>first|rfl|cases h
def Jz:U->V
 |.int i=>.int i
 |.bl b=>.bl b
 |.str s=>.str s
 |_=>.ZJ
def oX{K:Frag}{a:Value}(h:CW u a=true):RelV (Jz u) a /\∀ρ H,RV K ρ H u (Jz u):=by
 unfold CW at h;split at h
 .cases Ht h;exact⟨⟨_,rfl⟩,λ_ _=>rfl⟩
 .exact ⟨rfl,λ_ _=>rfl⟩
 .cases eq_of_beq h;exact⟨rfl,λ_ _=>rfl⟩
 .cases Ht h;exact⟨⟨_,rfl⟩,λ_ _=>rfl⟩
 .cases h
def lH{K:Frag}:∀{S:List U} {e:List Value},CI S e=true->ZH (S.map Jz) e /\∀ρ H,RVs K ρ H S (S.map Jz)
 |[],[],_=>⟨.nil,λ_ _=>rfl⟩
 |[],_::_,h=>by cases h
 |_::_,[],h=>by cases h
 |u::S,v::vs,h=>by
  rw[CI,Z1]at h;let⟨a,b⟩:=oX (K:=K) h.1;let⟨c,d⟩:=lH (K:=K) h.2;exact⟨.cons a c,λρ H=>⟨_,_,rfl,b ρ H,d ρ H⟩⟩
def zq{K:Frag}{a:Value}(h:HL K u a=true):∃v,RelV v a /\∀ρ H,RV K ρ H u v:=by
 unfold HL at h;split at h
 .split at h
  .rename_i od ZU n f ho
   rw[Z1,Wd]at h;let⟨d,c⟩:=lH (K:=K) h.2;exact⟨.ref _,rfl,λρ H=>⟨_,_,rfl,⟨_,ZU,n,ho,rfl,rfl,Hi h.1 #[1],d⟩,c ρ H⟩⟩
  .cases h
 .cases h
def ym{K:Frag}{c:Value}(e:DR K u c=true):∃v,RelV v c /\∀ρ H,RV K ρ H u v:=by
 unfold DR at e;rw[Rx]at e;rcases e with e|e
 .obtain ⟨a,b⟩:=oX (K:=K) e;exact⟨_,a,b⟩
 .exact zq e
def adJ{K:Frag}(X:K.In h)(G:h.Ns mainGlobals mg)(e:HM K (x,u)=true):∃v c,mg x=some c/\RelV v c /\∀ρ H,RV K ρ H u v:=by
 unfold HM at e;split at e
 .rename_i c d
  have f:mg x=some c:=mg_of X G d;let⟨v,a,b⟩:=ym e;exact⟨v,c,f,a,b⟩
 .cases e
open PySem PySem.Spec PyProof.Rows L2 PySem.W PySem.Calls
def vw(h:(bm,newId)∈Dq):∃B Yh,ExcBaseFacts B newId Yh bm:=by
 unfold Dq at h;simp![X8,OB,OJ,or_false]at h;rcases h with⟨rfl,rfl⟩|⟨rfl,rfl⟩|⟨rfl,rfl⟩
 .exact ⟨_,_,PySem.F.excBase_ZeroDivisionError⟩
 .exact ⟨_,_,PySem.F.excBase_ValueError⟩
 .exact ⟨_,_,PySem.F.excBase_LookupError⟩
def gM{o:Option α}{f:α->Bool}(h:o.any f=true):∃a,o=some a/\f a=true:=by
 cases o with
 |none=>cases h
 |some a=>exact⟨a,rfl,h⟩
def yw{K:Frag}{C:Addr}(h:DC K C=true):U7 K C:=by
 simp![DC,Z1,VR]at h;let⟨⟨⟨⟨⟨⟨⟨a,b⟩,c⟩,d⟩,e⟩,f⟩,g⟩,i⟩:=h;exact⟨a,b,c,d,e,f,g,i⟩
def acB{q:Str×Str}(h:HQ e=some q):∃p a,e = .Attribute (.Name q.1 p) q.2 a:=by
 cases e with
 |Attribute o f a=>
  refine qM h λx b e=>?_;subst e;let⟨p,rfl⟩:=aG b;exact⟨p,a,rfl⟩
 |_=>exact qN h
def zg{f:List Stmt}{q:(Str×Str)×Str}(h:Gs f=some q):∃d c p2 pos,f=[.Assign [.Attribute (.Name q.1.1 d) q.1.2 c] (.Name q.2 p2) pos]:=by
 refine qB h λs hs h=>qB h λb j h=>qB h λt g h=>qB h λa k h=>qM h λp i e=>?_;let⟨pos,rfl⟩:=jQ j;subst e;let⟨d,c,rfl⟩:=acB k;let⟨p2,h2⟩:=aG i;rw[dQ hs,dQ g,h2];exact⟨d,c,p2,pos,rfl⟩
def wH{K:Frag}{C:Addr}{e:ClassData}{o:Obj}(h:clsIn K C=some e)(f:K.lookup C=some o):o.data=.cls e:=by
 unfold clsIn at h;rw[f]at h;let⟨a,b,g,d⟩:=o;cases g with
 |cls c=>cases h;rfl
 |_=>cases h
def yW{K:Frag}{fd:FuncData}(h:FR K a=some fd):∃od b,K.lookup a=some ⟨.type "function",od,.func fd,b⟩:=by
 refine qB h λo ho h=>qI h λc h=>?_;let⟨cl,od,d,b⟩:=o;cases VR.mp c;cases d with
 |func e=>cases h;exact⟨od,b,ho⟩
 |_=>exact qN h
def x9{b:FuncBody}{a:List Stmt}(h:E6 b=some a):b=.stmts a:=by
 cases b with
 |stmts b=>cases h;rfl
 |_=>exact qN h
def uN{K:Frag}{N:Addr}{n:Str}{v:Value}(X:K.In h)(G:h.Ns N mg)(e:nsIn K N n=some (some v)):mg n=some v:=by
 let⟨o,es,ep,ho,f,_,a⟩:=G;unfold nsIn at e;split at e
 .rename_i c d es' i g q
  have:=X _ _ q;rw[ho]at this;cases this;cases f;split at e
  .rename_i j b
   cases e;rw[<-a];unfold nsFind findBy;rw[<-Array.find?_toList,b]
   rfl
  .split at e<;>cases e
 .cases e
def abk:∀{l:List α} {a:α},l.length=6->l[4]?=some a ->∃k0 k1 k2 k3 k5,l=[k0,k1,k2,k3,a,k5]
 |[k0,k1,k2,k3,b,k5],a,_,h=>by cases h;exact⟨k0,k1,k2,k3,k5,rfl⟩
def xx{K:Frag}{C:Addr}(X:K.In h)(q:Dr K C Yz newId fI=true):
  ∃bm N nm q bs hdct sn sub ab col dd k0 k1 k2 k3 k5 mN,h.get? C=some (excClassObj nm q C N bs bm hdct sn sub ab col dd k0 k1 k2 k3 k5 newId)/\h.Ns N mN/\mN "__init__" = some (.ref fI)/\OwnTail h Yz bm:=by
 unfold Dr at q;cases ho:K.lookup C with
 |none=>rw[ho]at q;cases q
 |some o=>
  rw[ho]at q;simp![Z1,VR,Wd]at q;let⟨⟨⟨h1,m⟩,n⟩,a⟩:=q;let⟨g,t,a⟩:=gM a;let⟨cl,dd,p,⟨l⟩⟩:=o;cases h1;let⟨k0,k1,k2,k3,k5,rfl⟩:=abk (by simpa using m) (by simpa using n)
  have e:p=.cls g:=wH t ho;subst e;let⟨nm,bs,b,ns,i,k,sn,sub,ab,col,r⟩:=g;simp![HP,Z1,Vy,VR]at a;let⟨⟨⟨rfl,d⟩,s⟩,c⟩:=a;cases b with
  |nil=>cases d
  |cons v bm=>
   simp![Gu,Z1,VR]at d;let⟨rfl,j⟩:=d;have f:h.Ns ns (h.nsMap ns):=.of_isNs (isNs_of_in X s);exact⟨bm,ns,nm,i,bs,k,sn,sub,ab,col,dd,k0,k1,k2,k3,k5,_,X _ _ ho,f,uN X f c,tail_of_in X j⟩
def vY{K:Frag}{C:Addr}{f:Str}(h:E2 K fI f=true):SX K C fI f:=by
 let⟨fd,d,h⟩:=gM h;let⟨od,D,v⟩:=yW d;simp![Z1,VR,QY]at h;let⟨⟨⟨⟨⟨z,y⟩,c⟩,x⟩,A⟩,h⟩:=h;have c:=lT c;let⟨⟨⟨a,f'⟩,p⟩,b,h⟩:=gM h;refine qB b λss hs b=>?_;let⟨g,e,p2,pos,rfl⟩:=zg b;have w:=x9 hs;simp![Z1,Wd]at h;let⟨⟨⟨⟨rfl,B⟩,i⟩,t⟩,s⟩:=h;have sc:=kg B;simp![CJ,Z1,Wd,QY,QZ]at i;let⟨⟨⟨⟨r,o⟩,m⟩,l⟩,k⟩:=i;have d:fd=fnOf fd.name fd.qualname fd.params [.Assign [.Attribute (.Name a g) f' e] (.Name p p2) pos] fd.scope .none fd.kwdefaults fd.doc fd.pyModule fd.annotations fd.code fd.closureTuple:=by
  let⟨n,q,E,M,j,gl,cl,G,F,H,pm,N,J,I,L⟩:=fd;simp only at *;subst z;subst y;subst c;subst x;subst w
  rfl
 refine⟨.type "function",od,fd.name,fd.qualname,a,p,fd.params,fd.scope,.none,fd.kwdefaults,fd.doc,fd.pyModule,fd.code,fd.closureTuple,fd.annotations,D,g,p2,e,pos,by rw[<-d];exact v,rfl,A,sc,?_,t,s⟩
 exact .all λS u=>iM r o m l k rfl (by have:=sc.nd;exact this) u
def yg{K:Frag}{C:Addr}(X:K.In h)(G:h.Ns mainGlobals mg)(e:Cy K (x,fo,as)=some C):∀base:Heap,K.In base->base.Ns mainGlobals mg->XC K mg base x fo as C:=by
 intro base c nb;unfold Cy at e;split at e
 .rename_i C' h1
  split at e
  .rename_i j
   cases e;simp![Z1]at j;let⟨⟨a,H⟩,F⟩:=j;have i:CS base C/\XMk K mg base x C fo:=by
    cases fo with
    |none=>cases a
    |some f=>
     simp![HR]at a;split at a
     .rename_i fI J
      simp![Z1]at a;let⟨⟨E,J1⟩,k⟩:=a;let⟨⟨bm,newId⟩,v,s⟩:=ON.mp E;let⟨B,Yh,l⟩:=vw v;have Z9:=xx c s;simp![setB,Z1,VR]at k;let⟨⟨⟨⟨p,o⟩,s3⟩,s4⟩,n⟩:=k;refine⟨?_,fI,bm,newId,B,Yh,Z9,l,⟨p,o,s3,s4⟩,vY J1,n⟩;let⟨g,N,nm,q,bs,hdct,sn,sub,ab,col,dd,k0,k1,k2,k3,k5,mN,A,hN,hi,I⟩:=Z9;exact⟨g,N,nm,q,bs,hdct,sn,sub,ab,col,dd,k0,k1,k2,k3,k5,newId,A,I.hasType l.hasBase⟩
     .cases a
   refine⟨mg_of c nb h1,i.1,i.2,yw H,λy b t=>?_⟩;have:=WY.mp F (y,b) (mem_of_lookup t);simp![Fs,Z1]at this;let⟨m,this⟩:=this;let⟨o1,o2,r⟩:=aJ m;split at this
   .rename_i d
    split at this
    .rename_i T w
     exact⟨.type T,.ty T,rfl,λu z=>z,.inl ⟨w,mg_none_of c nb d,r⟩,o1,VR.mp this⟩
    .cases this
   .rename_i D d
    exact⟨.ref D,.ref D,rfl,λu z=>z,.inr (mg_of c nb d),o1,VR.mp this⟩
   .cases this
  .cases e
 .cases e
open PySem PySem.Spec PyProof.Rows L2 PySem.W
def BN(T:Tab)(K:Frag)(i:Inf):Option Fn:=mkF T (i,Bw K i)
def xW{T:Tab}{i:Inf}{o:Option (Scope×List Stmt)}{F:Fn}(h:mkF T (i,o)=some F):∃r,o=some r/\(Ac (r.2.map (Ca T i.x r.1 i.N 60))).map (λb'=>(⟨i.ps.length,i.N.length,b'⟩:Fn))=some F:=by
 cases o with
 |none=>cases h
 |some r=>exact⟨r,rfl,h⟩
def mU{K:Frag}(X:K.In h)(G:h.Ns mainGlobals mg){i:Inf}{fi:FI}(b:fi.x=i.x)(c:fi.cm=i.cm)(e:DJ K i=some a):FAt K mg fi a:=by
 unfold FAt;rw[c,b];unfold DJ at e;split at e
 .rename_i d
  try rw[d]
  split at e
  .rename_i h1;cases e;exact mg_of X G h1
  .cases e
 .cases e
def Plain(K:Frag)(mg:Str->Option Value)(i:Inf)(fi:FI):Prop:=
 i.cm=none ->∀f fd,mg fi.x=some (.ref f)->Sj K fi.nm fi.x fi.st f fd ->∀S:List Value,S.length=i.ps.length->bindArgs fd ⟨S,[]⟩=pure (i.ps.zip S)
def zA{T:Tab}{K:Frag}{i:Inf}{F:Fn}(X:K.In h)(G:h.Ns mainGlobals mg)(e:BN T K i=some F):
  ∃fi:FI,fi.x=i.x/\fi.ps=i.ps/\fi.cm=i.cm /\
  FOk T K mg fi F/\Plain K mg i fi:=by
 unfold BN at e;let⟨r,c,e⟩:=xW e;unfold Bw at c;split at c
 .rename_i a h1
  split at c
  .rename_i JT od fd s h2
   split at c
   .rename_i b C
    split at c
    .rename_i m
     cases c;simp![Z1]at m;let⟨⟨⟨⟨o,P⟩,l⟩,O⟩,M⟩:=m;have sc:=kg P;simp![Fe,Z1,Wd,VR,QY]at o;let⟨⟨⟨⟨J,J1⟩,I⟩,H⟩,E⟩:=o;let⟨b',R,rfl⟩:=XB.mp e;have V:i.ps.Nodup:=by rw[<-sc.pre];exact sc.nd.sublist (QJ _ _)
     have W:fd=fnOf i.nm i.x (B6 (BG fd b)) (B5 (BG fd b)) (AH (BG fd b)) fd.defaults fd.kwdefaults fd.doc fd.pyModule fd.annotations fd.code fd.closureTuple:=by
      let⟨n,q,Y,bo,t,gl,cl,de,Z,dc,pm,Q,cd,L,bu⟩:=fd;simp![BG,B6,B5,AH]at *;subst J;subst J1;subst I;subst H;subst E;subst C
      rfl
     have p:∀S:List Value,S.length=i.ps.length->bindArgs fd ⟨S,[]⟩=pure (i.ps.zip S):=λS g=>by
      unfold Gi at l;simp![CJ,Z1,Wd,QY,QZ]at l;let⟨⟨⟨⟨⟨z,p2⟩,y⟩,w⟩,v⟩,u⟩:=l;exact iM z p2 y w v (lT u) V g
     have U:(⟨i.x,BG fd b,i.N,i.ps,i.cm⟩:FI).nm=i.nm:=rfl;refine⟨⟨i.x,BG fd b,i.N,i.ps,i.cm⟩,rfl,rfl,rfl,⟨sc,rfl,rfl,⟨60,R⟩,a,fd,mU X G rfl rfl h1,⟨⟨JT,od,fd.defaults,fd.kwdefaults,fd.doc,fd.pyModule,fd.annotations,fd.code,fd.closureTuple,s,by rw[U];exact W,h2,O⟩,M⟩,.all λS g=>p S g⟩,λk f Wr j D S g=>?_⟩
     have d:FAt K mg ⟨i.x,BG fd b,i.N,i.ps,i.cm⟩ a:=mU X G rfl rfl h1;unfold FAt at d;dsimp only at d;rw[k]at d;have j:mg i.x=some (.ref f):=j;rw[show mg i.x=some (.ref a)from d]at j;cases j;let⟨B,A,dV,HV,doc,pm,Q,Zl,L,YK,_,lk,_⟩:=D.ex;rw[h2]at lk;cases lk;exact p S g
    .cases c
   .cases c
  .cases c
 .cases c
noncomputable def Inf.tn(i:Inf):Str:=if i.cm.isSome then "__debug__" else i.x
def allFrom(T:Tab)(K:Frag)(is:List Inf):Option (List Fn):=if HS T K&&T.cs.all (HM K)then Ac (is.map (BN T K))else none
def jN{T:Tab}{K:Frag}{h:Heap}{mg:Str->Option Value}(X:K.In h)(G:h.Ns mainGlobals mg):∀{is:List Inf} {J:List Fn},Ac (is.map (BN T K))=some J ->
  ∃d:List FI,d.map FI.tn=is.map Inf.tn/\AllOk T K mg d J /\∀(j:Nat) (i:Inf),is[j]?=some i ->∃fi,d[j]?=some fi/\fi.x=i.x/\fi.ps=i.ps/\fi.cm=i.cm /\
   Plain K mg i fi
 |[],J,e=>by cases e;exact⟨[],rfl,trivial,λj i h=>by simp at h⟩
 |i::is,J,e=>by
  rw[Xu]at e;cases q:BN T K i with
  |none=>rw[q]at e;cases e
  |some F=>
   rw[q]at e;let⟨r,e',rfl⟩:=XB.mp e;let⟨d,a,b,c⟩:=jN X G e';let⟨fi,g,n,f,m,l⟩:=zA X G q;refine⟨fi::d,by simp[a,FI.tn,Inf.tn,g,f],⟨m,b⟩,λj k h=>?_⟩
   cases j with
   |zero=>simp at h;subst h;exact⟨fi,rfl,g,n,f,l⟩
   |succ j=>exact c j k (by simpa using h)
def EX(T:Tab)(is:List Inf)(J:List Fn)(h:Heap):Prop:=∃K:Frag,K.In h/\allFrom T K is=some J
def v3{T:Tab}{J:List Fn}{K:Frag}(k:T.J=is.map Inf.tn)(X:K.In h)(e:allFrom T K is=some J)(G:h.Ns mainGlobals mg):
  ∃f:List FI,Rv T K mg f J /\∀(j:Nat) (i:Inf),is[j]?=some i ->∃fi,f[j]?=some fi/\fi.x=i.x/\fi.ps=i.ps/\fi.cm=i.cm /\
   Plain K mg i fi:=by
 unfold allFrom at e;split at e
 .rename_i d
  simp![Z1]at d;let⟨d,l⟩:=d;unfold HS at d;rw[Z1]at d;have d:=d.1;let⟨f,a,b,c⟩:=jN X G e;refine⟨f,⟨k.trans a.symm,b,λx u h=>adJ X G (WY.mp l (x,u) (mem_of_lookup h)),λx g=>?_⟩,c⟩
  .have:=WY.mp d x g
   cases q:nsIn K mainGlobals x with
   |none=>rw[q]at this;cases this
   |some v=>
    cases v with
    |some v=>rw[q]at this;cases this
    |none=>exact mg_none_of X G q
 .cases e
def xU{T:Tab}{J:List Fn}{K:Frag}(X:K.In h)(e:allFrom T K is=some J)(G:h.Ns mainGlobals mg):Fb T (T.xc.map λc=>((Cy K c).getD 0,c.2.1)) K mg:=λk x fo as hk=>by
 unfold allFrom at e;split at e
 .rename_i a
  simp![Z1]at a;have a:=a.1;unfold HS at a;rw[Z1]at a;let⟨C,b⟩:=TL.mp (WY.mp a.2 (x,fo,as) (Vw hk));refine⟨C,?_,yg X G b⟩;rw[Wi,hk,VJ,b]
  rfl
 .cases e
def ac0{l:OpenLaw}{q:Program}{loose:List Str}{XP:(Str->Option Value)->Heap->Prop}{A:DefRec}{T:Tab}{J:List Fn}
  (O:l.most=some 63) (y:A.params.defaults=[]) (M:Y8 (2*d+2) callerA) (Vc:T.J=is.map Inf.tn) (hi:is[i]?=some ⟨A.name,N,[x],none⟩)
  (Si:∀ns:List Int,ns.length<=63 ->∃fu g',Aa J fu d i [.Zy (ns.map U.int)] []=.ok (.bl true) g') :
  WalkO q loose XP (λ_ h=>EX T is J h) l.row.toRowW A [] (λf vs=>PySem.call f vs):=by
 refine Att.attach_call O y λw ZF ZE mg mb F o pm cd doc a vs ns G Z_ ho hd Y9 t SK j c Q=>?_;let⟨K,B,D⟩:=Z_;let⟨YA,PG,R⟩:=v3 Vc B D G.T.g;let⟨E,I,Z,Y,W,X⟩:=R i _ hi;let⟨Fi,ei,Z9⟩:=PG.all.get I;let⟨f,fd,m1,C,m3⟩:=Z9.obj;unfold FAt at m1;rw[W]at m1;have r:mg E.x=some (.ref f):=m1;have m1:=r;rw[Z,t]at m1;cases m1;refine wI (CX:=VZ) (k:=2*d+2) (x:=x) (fd:=fd) (sp:=TB K J d i 1) B G.T.g G.T.b G.T.builtins G.T.nolimit Q SK j (Hi c #[1]) M (λbase L nb=>?_) (λs u=>?_) (λH V S=>?_) λH e s' z=>z
 .have:=(pF (P:=l.prog) (w:=w) (base:=base) PG (xU B D G.T.g) L nb d i E I F fd C).1
  rw[Y]at this;exact this
 .exact .of_eq (X rfl F fd r C [u] rfl)
 .obtain ⟨fu,g',e⟩:=Si ns c
  exact aaY V S e
open PySem PySem.Spec PyProof.Rows L2 PySem.W PySem.Calls
noncomputable section
def z0(p:Program)(w:World)(N:Nat):openEnds treeTable p w N=endsF p w N:=by
 unfold openEnds fencedOpening topFrom endsF FP;rw[Fast.te10274390034422433532,Fast.te14364793385576792824,Fast.te1435165496053646825,Fast.te14289696077712309145,Fast.te14082659384304107361]
 rfl
def Bl(p:Program):DefRec:=match p.main.body.getD (p.main.body.length-1) (.Pass ⟨0,0,0,0⟩)with
 |.FunctionDef n a b _ _ _ sc _ _ ps=>⟨n,a,b,sc,ps⟩
 |_=>⟨"",B6 (.Pass ⟨0,0,0,0⟩),[],AH (.Pass ⟨0,0,0,0⟩),⟨0,0,0,0⟩⟩
def aa1{c:Type}{o:Option α}{f:α->β}{g:α->c}{a:β}{b:c}(h:o.map (λs=>(f s,g s))=some (a,b)):o.map f=some a:=by
 cases o with
 |none=>cases h
 |some s=>cases h;rfl
def acj{c:Type}{o:Option α}{f:α->β}{g:α->c}{a:β}{b:c}(h:o.map (λs=>(f s,g s))=some (a,b)):o.map g=some b:=by
 cases o with
 |none=>cases h
 |some s=>cases h;rfl
def l4{d c:Type}{f:d->Option c}:∀{l m:List d} {a b:List c},Ac (l.map f)=some a->Ac (m.map f)=some b->Ac ((l++m).map f)=some (a++b)
 |[],m,a,b,h1,h2=>by cases h1;exact h2
 |x::l,m,a,b,h1,h2=>by
  rw[Xu]at h1;rw[PK,Xu];cases e:f x with
  |none=>rw[e]at h1;cases h1
  |some y=>
   rw[e]at h1;cases hl:Ac (l.map f)with
   |none=>simp![Ac,hl]at h1;cases h1
   |some ys=>
    have ih:=l4 hl h2;simp![Ac,hl]at h1;simp![Ac,ih];cases h1
    rfl
def fG{f:α->Option β}{l:List α}{m:List β}{k c:Nat}(b:Ac ((l.take k).map f)=some (m.take k))(a:Ac (((l.drop k).take c).map f)=some ((m.drop k).take c)):Ac ((l.take (k+c)).map f)=some (m.take (k+c)):=by
 rw[PQ,PQ];exact l4 b a
def xa{o:Option Shared}{k c:Nat}(a:o.map (λs=>(is.take k).map (Bw (AJ s.heap)))=some (rs.take k))(b:o.map (λs=>((is.drop k).take c).map (Bw (AJ s.heap)))=some ((rs.drop k).take c)):o.map (λs=>(is.take (k+c)).map (Bw (AJ s.heap)))=some (rs.take (k+c)):=by
 cases o with
 |none=>cases a
 |some s=>
  simp![VJ,YY]at a b ⊢;rw[PQ,PQ,Qd,a,b]
def aav{o:Option Shared}{f:Shared->β}{b:β}{T:Tab}{J:List Fn}{k:Nat}(a:o.map (λs=>D7 T (AJ s.heap) is)=some true)(d:o.map f=some b)
  (c:o.map (λs=>(is.take k).map (Bw (AJ s.heap)))=some (rs.take k)) (h:Ac (((is.zip rs).take k).map (mkF T))=some (J.take k)) (e:is.length<=k) (j:J.length<=k) (g:rs.length<=k):o.map (λs=>(f s,allFrom T (AJ s.heap) is))=some (b,some J):=by
 rw[Tt (Hi (List.length_zip ▸ Nat.min_le_left _ _) e),Tt j]at h;rw[Tt e,Tt g]at c;cases o with
 |none=>cases a
 |some s=>
  simp![VJ,YY,OB]at a d c ⊢;refine⟨d,?_⟩;unfold allFrom;unfold D7 at a;rw[YE a,<-h];congr 1;rw[<-c];generalize is=l
  induction l with
  |nil=>rfl
  |cons i l ih=>rw[Xu,Xu,Qw,Xu,ih,BN]
def abg{l:OpenLaw}{T:Tab}{J:List Fn}{loose v:List Str}{N:Nat}
  (a:Fast.tw9446332074065402090 l=true)
  (g:∀w,(endsF l.prog w N).map (λs=>(Fast.tw4187177175401517315 (lastOf l.prog) loose (importedModules l.prog.main.body) (λ_=>true) true s,allFrom T (AJ s.heap) is))=some (openGood (lastOf l.prog) loose,some J))
  (o:defOf (lastOf l.prog) l.name=some (Bl l.prog,[])) (n:l.prog.theDef l.name=some ((Bl l.prog).params,(Bl l.prog).body,(Bl l.prog).scope)) (m:kwWritten? (Bl l.prog).params.kwonlyargs (Bl l.prog).params.kw_defaults=some [])
  (k:(Bl l.prog).params.defaults=[])
  (ok:(chainsOk (lastOf l.prog)&&opensWell l.prog&&(frees l.row.toRowW&&l.row.within.isEmpty))=true) (j:l.prog.bare) (b:l.row.toRowW.promised)
  (f:l.most=some 63) (c:Y8 (2*d+2) callerA) (p:T.J=is.map Inf.tn) (hi:is[i]?=some ⟨(Bl l.prog).name,v,[x],none⟩)
  (t:∀ns:List Int,ns.length<=63 ->∃fu g',Aa J fu d i [.Zy (ns.map U.int)] []=.ok (.bl true) g'):l.Holds:=by
 have sd:l.wellSaid=true:=by rw[Fast.te9446332074065402090];exact a
 refine holds_law sd λu=>?_;refine holds_open (r:=l.row) (q:=lastOf l.prog) (loose:=loose) (Xt:=λ_=>true) (XP:=λ_ _=>True) (Yf:=λs=>allFrom T (AJ s.heap) is) (Ya:=λ_=>some J) (YP:=λ_ h=>EX T is J h) (N:=N) (d:=Bl l.prog) (kwd:=[]) ?_
  (λw s e=>⟨AJ s.heap,y9 _,e⟩) (λw h h' ⟨K,k1,k2⟩ hk=>⟨K,k1.keeps hk,k2⟩) (λ_ _=>trivial) (λ_ _ _ _ _=>trivial) o n m (λs _=>recFacts_nil rfl) (by simp[OpenLaw.row]) u ok j b (ac0 f k c p hi t)
 intro w;have:=g w;rw[<-z0,<-Fast.te4187177175401517315]at this;exact this
end
end
end PI
section
open PySem PySem.W PyProof.Rows
def ZD.all(w:World):(PI.endsF PySem.Challenge.rw_braemantle_k19_chains_that_lack.prog w 20000).map (λs=>(Fast.tw4187177175401517315 (PI.lastOf PySem.Challenge.rw_braemantle_k19_chains_that_lack.prog) ZD.loose (PySem.importedModules #[0]) (λ_=>true) true s,PI.allFrom ZD.T (PI.AJ s.heap) ZD.Bj))=some (openGood (PI.lastOf PySem.Challenge.rw_braemantle_k19_chains_that_lack.prog) ZD.loose,some ZD.J):=PI.aav (k:=36) (PI.acj (ZD.R_ w)) (PI.aa1 (ZD.R_ w)) (PI.xa (k:=26) (c:=10) (ZD.chk1 w) (ZD.chk2 w)) (PI.fG (k:=35) (c:=1) (PI.fG (k:=24) (c:=11) (PI.fG (k:=14) (c:=10) (ZD.part0) ZD.part1) ZD.part2) ZD.part3) #[1] #[1] #[1]
end
variable{W:PI.XQ}
namespace PI
noncomputable section
noncomputable def Out.le{a:Type}(o o':Out a):Prop:=o=.ZV\/o=o'
def Out.le.rfl{o:Out α}:o.le o:=.inr (Eq.refl _)
def Out.le.bot{o:Out α}:(Out.ZV:Out α).le o:=.inl (Eq.refl _)
def Out.le.trans{a b c:Out α}(h:a.le b)(k:b.le c):a.le c:=by
 rcases h with rfl|rfl
 .exact .bot
 .exact k
def ah{o o':Out α}{k b:α->G->Out β}(h:o.le o')(d:∀a g,(k a g).le (b a g)):(o.bind k).le (o'.bind b):=by
 rcases h with rfl|rfl
 .exact .bot
 .cases o with
  |ok a g=>exact d a g
  |exc c fs g=>exact .rfl
  |ZV=>exact .bot
def a9{o o':Out α}{k b:α->G->Out β}(h:o.le o')(d:∀a g,(k a g).le (b a g)):(o.bindB k).le (o'.bindB b):=by
 rcases h with rfl|rfl
 .exact .bot
 .cases o with
  |ok a g=>exact d a g
  |exc c fs g=>exact .rfl
  |ZV=>exact .bot
def aE{o o':Out α}(h:o.le o'):o.Zb.le o'.Zb:=by
 rcases h with rfl|rfl
 .exact .bot
 .exact .rfl
def zT{o o':Out U}{c:Nat}{xs:List (Option U)}{O:Su}(h:o.le o'):(Bf o j c xs O).le (Bf o' j c xs O):=by
 rcases h with rfl|rfl
 .exact .bot
 .exact .rfl
abbrev CC:=Nat->List U->G->Out U
structure Z7.le(r r':Z7):Prop where
 ev:∀e O g,(r.ev e O g).le (r'.ev e O g)
 ts:∀e O g,(r.ts e O g).le (r'.ts e O g)
 ex:∀e O g,(r.ex e O g).le (r'.ex e O g)
 wh:∀e b O g,(r.wh e b O g).le (r'.wh e b O g)
 fr:∀t it i b O g,(r.fr t it i b O g).le (r'.fr t it i b O g)
 cm:∀it i t cs ZR elt ZQ O g,(r.cm it i t cs ZR elt ZQ O g).le (r'.cm it i t cs ZR elt ZQ O g)
section
variable{C C':CC}{r':Z7}
def aK{f a:E->Su->G->Out U}(h:∀e O g,(f e O g).le (a e O g)):∀es O g,(Jg f es O g).le (Jg a es O g)
 |[],_,_=>.rfl
 |e::es,O,g=>ah (h e O g) λ_ _=>ah (aK h es _ _) λ_ _=>.rfl
def oF{f a:E->Su->G->Out U}(h:∀e O g,(f e O g).le (a e O g)):∀e O g,(Jh f e O g).le (Jh a e O g)
 |none,_,_=>.rfl
 |some e,O,g=>ah (h e O g) λ_ _=>.rfl
def eB{f a:E->Su->G->Out Bool}(h:∀e O g,(f e O g).le (a e O g)):∀es O g,(As f es O g).le (As a es O g)
 |[],_,_=>.rfl
 |e::es,O,g=>ah (h e O g) λk _=>by
  cases k
  .exact .rfl
  .exact eB h es _ _
local macro_rules|`(tactic|sleep 8)=>do
 let a<-("Out.le.rfl Out.le.bot Z7.le.ev Z7.le.ts Z7.le.ex Z7.le.wh Z7.le.fr Z7.le.cm aK oF eB ah a9".splitOn " ").toArray.mapM fun s=>`(tactic|apply $(Lean.mkIdent s.toName))
 `(tactic|(repeat first $[|$a:tactic]*|assumption|intro _|split))
def b8(h:r.le r')(e:E)(O:Su)(g:G):(Jj r e O g).le (Jj r' e O g):=by
 cases e<;>(delta Jj;dsimp only)<;>sleep 8
def wm{C C':CC}(a:∀f S g,(C f S g).le (C' f S g)){op:Cp}{x:U}{g:G}:(BM C op tb x y g).le (BM C' op tb x y g):=by
 cases op with
 |eq=>
  simp![BM];cases BX tb x y g with
  |none=>exact .rfl
  |some p=>exact ah (a _ _ _) λ_ _=>.rfl
 |ne=>
  simp![BM];cases BX tb x y g with
  |none=>exact .rfl
  |some p=>exact ah (a _ _ _) λ_ _=>.rfl
 |Xl=>
  simp![BM];cases Gf y g with
  |none=>exact .rfl
  |some w=>
   dsimp only;split
   .cases BX tb w x g with
    |none=>exact .rfl
    |some p=>exact ah (a _ _ _) λ_ _=>.rfl
   .exact .rfl
 |_=>exact .rfl
def gQ(d:∀f S g,(C f S g).le (C' f S g))(h:r.le r')(e:E)(O:Su)(g:G):(Jk C r e O g).le (Jk C' r' e O g):=by
 cases e with
 |call f es=>exact ah (aE (aK h.ev _ _ _)) λS g=>d f S g
 |oeq op tb a b=>exact ah (h.ev _ _ _) λx g=>ah (h.ev _ _ _) λy g=>wm d
 |SU f es ks pm=>
  refine ah (aE (aK h.ev _ _ _)) λS g=>ah (aE (aK h.ev _ _ _)) λws g=>?_;split
  .exact d _ _ _
  .exact .rfl
 |make c f es ks pm=>
  refine ah (aE (aK h.ev _ _ _)) λS g=>ah (aE (aK h.ev _ _ _)) λws g=>?_;split
  .exact ah (d _ _ _) λu g=>.rfl
  .exact .rfl
 |SS a j tb es ks=>
  refine ah (aE (h.ev _ _ _)) λx g=>?_;split
  .refine ah (aE (aK h.ev _ _ _)) λS g=>ah (aE (aK h.ev _ _ _)) λws g=>?_
   split
   .exact d _ _ _
   .exact .rfl
  .exact .rfl
 |comp own fr gs elt=>
  cases gs with
  |nil=>exact .rfl
  |cons t ZR=>
   let⟨t,it,cs⟩:=t;exact ah (b8 h _ _ _) λi g=>a9 (h.cm _ _ _ _ _ _ _ _ _) λ_ _=>.rfl
 |V5 own fr gs k v=>
  cases gs with
  |nil=>exact .rfl
  |cons t ZR=>
   let⟨t,it,cs⟩:=t;exact ah (b8 h _ _ _) λi g=>a9 (h.cm _ _ _ _ _ _ _ _ _) λ_ _=>.rfl
 |dgt o k x=>
  refine ah (h.ev _ _ _) λx g=>?_;split
  .exact ah (h.ev _ _ _) λ_ g=>ah (h.ev _ _ _) λ_ g=>.rfl
  .exact .rfl
 |_=>delta Jk;dsimp only;sleep 8
def gX(h:r.le r')(e:E)(O:Su)(g:G):(Jl r e O g).le (Jl r' e O g):=by
 cases e<;>(delta Jl;dsimp only)<;>sleep 8
def pQ(h:r.le r')(s:Z6)(O:Su)(g:G):(Jn r s O g).le (Jn r' s O g):=by
 cases s with
 |«for» t it b=>exact ah (b8 h _ _ _) λi g=>h.fr _ _ _ _ _ _
 |Zh b=>exact aE (h.ex _ _ _)
 |V4 c a b=>exact ah (aE (h.ts _ _ _)) λk g=>by cases k<;>exact h.ex _ _ _
 |Sa t it b=>exact ah (aE (b8 h _ _ _)) λi g=>h.fr _ _ _ _ _ _
 |raise c es=>exact ah (aE (aK h.ev _ _ _)) λS g=>.rfl
 |UZ j f es c xs=>exact zT (h.ev _ _ _)
 |_=>delta Jn;dsimp only;sleep 8
def gG(h:r.le r')(a:List Z6)(O:Su)(g:G):(Jo r a O g).le (Jo r' a O g):=by
 cases a with
 |nil=>exact .rfl
 |cons s ZR=>exact ah (pQ h _ _ _) λf g=>by cases f<;>sleep 8
def gS(h:r.le r')(c:E)(b:List Z6)(O:Su)(g:G):(Jp r c b O g).le (Jp r' c b O g):=by
 unfold Jp;sleep 8
def hG(h:r.le r')(t:Tg)(it:Iter)(i:Nat)(b:List Z6)(O:Su)(g:G):(Jq r t it i b O g).le (Jq r' t it i b O g):=by
 unfold Jq;sleep 8
def gH(h:r.le r')(it:Iter)(i:Nat)(t:Tg)(c:List E)(b:List (Tg×E×List E))(a:E)(d:List U)(O:Su)(g:G):(Jr r it i t c b a d O g).le (Jr r' it i t c b a d O g):=by
 unfold Jr;split
 .sleep 8
 .sleep 8
 .split
  .split
   .sleep 8
   .refine a9 (eB h.ts _ _ _) λk g=>?_
    split
    .cases b with
     |nil=>exact a9 (h.ev _ _ _) λv g=>by sleep 8
     |cons t b=>
      let⟨e,Xp,f⟩:=t;exact a9 (b8 h _ _ _) λj g=>a9 (h.cm _ _ _ _ _ _ _ _ _) λ_ _=>h.cm _ _ _ _ _ _ _ _ _
    .sleep 8
  .sleep 8
def az(a:∀f S g,(C f S g).le (C' f S g)):∀{m n:Nat},m<=n->(Js C m).le (Js C' n)
 |0,n,_=>⟨λ_ _ _=>.bot,λ_ _ _=>.bot,λ_ _ _=>.bot,λ_ _ _ _=>.bot,λ_ _ _ _ _ _=>.bot,λ_ _ _ _ _ _ _ _ _=>.bot⟩
 |m+1,0,h=>absurd h (by lia)
 |m+1,n+1,h=>by
  have ih:=az a (m:=m) (n:=n) (by lia)
  exact⟨gQ a ih,gX ih,gG ih,gS ih,hG ih,gH ih⟩
def zP(a:∀f S g,(C f S g).le (C' f S g))(h:m<=n)(F:Fn)(S:List U)(g:G):(Bx m C F S g).le (Bx n C' F S g):=by
 unfold Bx;split
 .exact ah ((az a h).ex _ _ _) λf g=>.rfl
 .exact .rfl
def fO{J:List Fn}{m n:Nat}(h:m<=n):∀(d f:Nat) (S:List U) (g:G),(Aa J m d f S g).le (Aa J n d f S g)
 |0,_,_,_=>.rfl
 |d+1,f,S,g=>by
  simp![Aa];split
  .exact zP (fO h d) h _ _ _
  .exact .rfl
end
abbrev XP:=Nat->List U->G->Prop
def holds{b:Type}(o:Out b)(X:XP)(Q:b->G->Prop):Prop:=match o with
 |.ok a g=>Q a g
 |.exc c fs g=>X c fs g
 |.ZV=>False
def wp{a:Type}(f:Nat->Out a)(X:XP)(Q:a->G->Prop):Prop:=∃n,holds (f n) X Q
def Aq{a:Type}(f:Nat->Out a):Prop:=∀m n,m<=n->(f m).le (f n)
section
variable{f f':Nat->Out α}{k k':Nat->α->G->Out β}{X:XP}{Q:α->G->Prop}{R:β->G->Prop}
def dW{o o':Out α}(h:o.le o')(q:holds o X Q):holds o' X Q:=by
 rcases h with rfl|rfl
 .exact q.elim
 .exact q
def fD{o:Out α}{k:α->G->Out β}:holds (o.bind k) X R↔holds o X λa g=>holds (k a g) X R:=by cases o<;>exact YB
def iC{o:Out α}{k:α->G->Out β}:holds (o.bindB k) X R↔holds o (λ_ _ _=>False) λa g=>holds (k a g) X R:=by cases o<;>exact YB
def fq{o:Out α}{Q':α->G->Prop}(h:∀a g,Q a g->Q' a g)(q:holds o X Q):holds o X Q':=by
 cases o with
 |ok a g=>exact h a g q
 |exc c fs g=>exact q
 |ZV=>exact q
def wp_mono{Q':α->G->Prop}(q:wp f X Q)(h:∀a g,Q a g->Q' a g):wp f X Q':=let⟨n,z⟩:=q;⟨n,fq h z⟩
def ae{o:Out α}:wp (λ_=>o) X Q↔holds o X Q:=⟨λ⟨_,h⟩=>h,λh=>⟨0,h⟩⟩
def wp_bind(d:Aq f)(b:∀a g,Aq λn=>k n a g):wp (λn=>(f n).bind (k n)) X R↔wp f X λa g=>wp (λn=>k n a g) X R:=by
 constructor
 .rintro ⟨n,h⟩
  rw[fD]at h;exact⟨n,fq (λa g q=>⟨n,q⟩) h⟩
 .rintro ⟨n,h⟩
  cases e:f n with
  |ok a g=>
   rw[e]at h;let⟨m,h⟩:=h;refine⟨max n m,?_⟩;rw[fD];have h1:f (max n m)=.ok a g:=by
    rcases d n (max n m) (Nat.le_max_left _ _)with z|z
    .rw [e]at z;cases z
    .rw [<-z,e]
   rw[h1];show holds (k (max n m) a g) X R;exact dW (b a g m (max n m) (Nat.le_max_right _ _)) h
  |exc c fs g=>rw[e]at h;exact⟨n,by rw[fD,e];exact h⟩
  |ZV=>rw[e]at h;exact h.elim
def aO(d:Aq f)(b:∀a g,Aq λn=>k n a g):wp (λn=>(f n).bindB (k n)) X R↔wp f (λ_ _ _=>False) λa g=>wp (λn=>k n a g) X R:=by
 constructor
 .rintro ⟨n,h⟩
  rw[iC]at h;exact⟨n,fq (λa g q=>⟨n,q⟩) h⟩
 .rintro ⟨n,h⟩
  cases e:f n with
  |ok a g=>
   rw[e]at h;let⟨m,h⟩:=h;refine⟨max n m,?_⟩;rw[iC];have h1:f (max n m)=.ok a g:=by
    rcases d n (max n m) (Nat.le_max_left _ _)with z|z
    .rw [e]at z;cases z
    .rw [<-z,e]
   rw[h1];show holds (k (max n m) a g) X R;exact dW (b a g m (max n m) (Nat.le_max_right _ _)) h
  |exc c fs g=>rw[e]at h;exact h.elim
  |ZV=>rw[e]at h;exact h.elim
def b6(h:∀n,∃m,(f n).le (f' m))(h':∀n,∃m,(f' n).le (f m)):wp f X Q↔wp f' X Q:=
 ⟨λ⟨n,q⟩=>let⟨m,z⟩:=h n;⟨m,dW z q⟩,λ⟨n,q⟩=>let⟨m,z⟩:=h' n;⟨m,dW z q⟩⟩
end
section
variable(J:List Fn)(d:Nat)
abbrev cA(n:Nat):CC:=Aa J n d
abbrev lv(n:Nat):Z7:=Js (Aa J n d) n
def JA(f:Nat)(S:List U)(g:G)(X:XP)(Q:U->G->Prop):Prop:=wp (λn=>Aa J n d f S g) X Q
def JB(e:E)(O:Su)(g:G)(X:XP)(Q:U->G->Prop):Prop:=wp (λn=>(lv J d n).ev e O g) X Q
def JC(e:E)(O:Su)(g:G)(X:XP)(Q:Bool->G->Prop):Prop:=wp (λn=>(lv J d n).ts e O g) X Q
def Au(a:List E)(O:Su)(g:G)(X:XP)(Q:List U->G->Prop):Prop:=wp (λn=>Jg (lv J d n).ev a O g) X Q
def JD(e:Option E)(O:Su)(g:G)(X:XP)(Q:Option Int->G->Prop):Prop:=wp (λn=>Jh (lv J d n).ev e O g) X Q
def JE(a:List E)(O:Su)(g:G)(X:XP)(Q:Bool->G->Prop):Prop:=wp (λn=>As (lv J d n).ts a O g) X Q
def JF(e:E)(O:Su)(g:G)(X:XP)(Q:Iter->G->Prop):Prop:=wp (λn=>Jj (lv J d n) e O g) X Q
def JG(s:Z6)(O:Su)(g:G)(X:XP)(Q:Fl->G->Prop):Prop:=wp (λn=>Jn (lv J d n) s O g) X Q
def wpS(a:List Z6)(O:Su)(g:G)(X:XP)(Q:Fl->G->Prop):Prop:=wp (λn=>(lv J d n).ex a O g) X Q
def JH(c:E)(b:List Z6)(O:Su)(g:G)(X:XP)(Q:Fl->G->Prop):Prop:=wp (λn=>(lv J d n).wh c b O g) X Q
def JI(t:Tg)(it:Iter)(i:Nat)(b:List Z6)(O:Su)(g:G)(X:XP)(Q:Fl->G->Prop):Prop:=wp (λn=>(lv J d n).fr t it i b O g) X Q
def JJ(it:Iter)(i:Nat)(t:Tg)(b:List E)(c:List (Tg×E×List E))(a:E)(e:List U)(O:Su)(g:G)(X:XP)(Q:List U->G->Prop):Prop:=wp (λn=>(lv J d n).cm it i t b c a e O g) X Q
end
section
variable{J:List Fn}{X:XP}{O:Su}
def bq(h:m<=n)(f:Nat)(S:List U)(g:G):(cA J d m f S g).le (cA J d n f S g):=fO h d f S g
def aM(h:m<=n):(lv J d m).le (lv J d n):=az (bq h) h
def mC(f:Nat)(S:List U)(g:G):Aq λn=>Aa J n d f S g:=λ_ _ h=>fO h d f S g
def mE(e:E)(O:Su)(g:G):Aq λn=>(lv J d n).ev e O g:=λ_ _ h=>(aM h).ev _ _ _
def mT(e:E)(O:Su)(g:G):Aq λn=>(lv J d n).ts e O g:=λ_ _ h=>(aM h).ts _ _ _
def mEs(e:List E)(O:Su)(g:G):Aq λn=>Jg (lv J d n).ev e O g:=λ_ _ h=>aK (aM h).ev _ _ _
def mO(e:Option E)(O:Su)(g:G):Aq λn=>Jh (lv J d n).ev e O g:=λ_ _ h=>oF (aM h).ev _ _ _
def mA(e:List E)(O:Su)(g:G):Aq λn=>As (lv J d n).ts e O g:=λ_ _ h=>eB (aM h).ts _ _ _
def mI(e:E)(O:Su)(g:G):Aq λn=>Jj (lv J d n) e O g:=λ_ _ h=>b8 (aM h) _ _ _
def m1(e:Z6)(O:Su)(g:G):Aq λn=>Jn (lv J d n) e O g:=λ_ _ h=>pQ (aM h) _ _ _
def mS(e:List Z6)(O:Su)(g:G):Aq λn=>(lv J d n).ex e O g:=λ_ _ h=>(aM h).ex _ _ _
def mW(e:E)(b:List Z6)(O:Su)(g:G):Aq λn=>(lv J d n).wh e b O g:=λ_ _ h=>(aM h).wh _ _ _ _
def mF(t:Tg)(it:Iter)(i:Nat)(b:List Z6)(O:Su)(g:G):Aq λn=>(lv J d n).fr t it i b O g:=λ_ _ h=>(aM h).fr _ _ _ _ _ _
def mM(it:Iter)(i:Nat)(t:Tg)(b:List E)(c:List (Tg×E×List E))(a:E)(e:List U)(O:Su)(g:G):Aq λn=>(lv J d n).cm it i t b c a e O g:=λ_ _ h=>(aM h).cm _ _ _ _ _ _ _ _ _
def mK(o:Out α):Aq λ_=>o:=λ_ _ _=>.rfl
def mB{f:Nat->Out α}{k:Nat->α->G->Out β}(h:Aq f)(b:∀a g,Aq λn=>k n a g):Aq λn=>(f n).bind (k n):=λm n z=>ah (h m n z) λa g=>b a g m n z
def mBB{f:Nat->Out α}{k:Nat->α->G->Out β}(h:Aq f)(b:∀a g,Aq λn=>k n a g):Aq λn=>(f n).bindB (k n):=λm n z=>a9 (h m n z) λa g=>b a g m n z
def ak{e:E}:JB J d e O g X Q↔wp (λn=>Jk (cA J d n) (lv J d n) e O g) X Q:=
 b6 (λn=>match n with
  |0=>⟨0,.bot⟩
  |n+1=>⟨n+1,gQ (C:=cA J d (n+1)) (λ_ _ _=>.rfl) (az (λ_ _ _=>.rfl) (VY n)) e O g⟩) λn=>⟨n+1,gQ (C:=cA J d n) (C':=cA J d (n+1)) (bq (VY n)) (az (bq (VY n)) (Hk n)) e O g⟩
def eL{e:E}{Q:Bool->G->Prop}:JC J d e O g X Q↔wp (λn=>Jl (lv J d n) e O g) X Q:=
 b6 (λn=>match n with
  |0=>⟨0,.bot⟩
  |n+1=>⟨n+1,gX (az (λ_ _ _=>.rfl) (VY n)) e O g⟩) λn=>⟨n+1,gX (az (bq (VY n)) (Hk n)) e O g⟩
def nQ{e:List Z6}{Q:Fl->G->Prop}:wpS J d e O g X Q↔wp (λn=>Jo (lv J d n) e O g) X Q:=
 b6 (λn=>match n with
  |0=>⟨0,.bot⟩
  |n+1=>⟨n+1,gG (az (λ_ _ _=>.rfl) (VY n)) e O g⟩) λn=>⟨n+1,gG (az (bq (VY n)) (Hk n)) e O g⟩
def aaw{b:List Z6}{Q:Fl->G->Prop}:JH J d c b O g X Q↔wp (λn=>Jp (lv J d n) c b O g) X Q:=
 b6 (λn=>match n with
  |0=>⟨0,.bot⟩
  |n+1=>⟨n+1,gS (az (λ_ _ _=>.rfl) (VY n)) c b O g⟩) λn=>⟨n+1,gS (az (bq (VY n)) (Hk n)) c b O g⟩
def abq{t:Tg}{b:List Z6}{Q:Fl->G->Prop}:JI J d t it i b O g X Q↔wp (λn=>Jq (lv J d n) t it i b O g) X Q:=
 b6 (λn=>match n with
  |0=>⟨0,.bot⟩
  |n+1=>⟨n+1,hG (az (λ_ _ _=>.rfl) (VY n)) t it i b O g⟩) λn=>⟨n+1,hG (az (bq (VY n)) (Hk n)) t it i b O g⟩
def abC{t:Tg}{a:List (Tg×E×List E)}{Q:List U->G->Prop}:JJ J d it i t cs a elt ZQ O g X Q↔wp (λn=>Jr (lv J d n) it i t cs a elt ZQ O g) X Q:=
 b6 (λn=>match n with
  |0=>⟨0,.bot⟩
  |n+1=>⟨n+1,gH (az (λ_ _ _=>.rfl) (VY n)) it i t cs a elt ZQ O g⟩) λn=>⟨n+1,gH (az (bq (VY n)) (Hk n)) it i t cs a elt ZQ O g⟩
end
local macro_rules|`(tactic|sleep 9)=>do
 let a<-("mE mT mEs mO mA mI mS mC mW mF mM mK mB mBB".splitOn " ").toArray.mapM fun s=>`(tactic|apply $(Lean.mkIdent s.toName))
 `(tactic|(intros;repeat first $[|$a:tactic]*|intro _))
def wp_congr{f:Nat->Out α}{X:XP}{Q Q':α->G->Prop}(h:∀a g,Q a g↔Q' a g):wp f X Q↔wp f X Q':=⟨λq=>wp_mono q λa g=>(h a g).1,λq=>wp_mono q λa g=>(h a g).2⟩
inductive Lk{α:Sort u}(a:α):Type
 |mk:Lk a
@[reducible] def lk{b:Sort u}(a:b):Lk a:=.mk
def JK{b:Type}(o:Option b){Q:b->Prop}(_:Lk Q):Prop:=match o with
 |some a=>Q a
 |none=>False
def JL(k:Bool){A B:Prop}(_:Lk A)(_:Lk B):Prop:=match k with
 |true=>A
 |false=>B
def JM(f:Fl){A:Su->Prop}{B:Fl->Prop}(_:Lk A)(_:Lk B):Prop:=match f with
 |.nx O=>A O
 |f=>B f
def JN(f:Fl){A:Su->Prop}{B:Fl->Prop}(_:Lk A)(_:Lk B):Prop:=match f with
 |.nx O=>A O
 |.ct O=>A O
 |.bk O=>B (.nx O)
 |.rt u=>B (.rt u)
def JO(f:Fl){Q:U->Prop}(_:Lk Q):Prop:=match f with
 |.rt u=>Q u
 |.nx _=>Q .ZJ
 |_=>False
def eG{a:α}{Q:α->Prop}:JK (some a) (lk Q)=Q a:=propext YB
def iq{A B:Prop}:JL true (lk A) (lk B)=A:=propext YB
def ir{A B:Prop}:JL false (lk A) (lk B)=B:=propext YB
def af{k:Bool}{A B:Prop}(h:k=true->A)(h':k=false->B):JL k (lk A) (lk B):=by cases k;exact h' rfl;exact h rfl
def bJ{k:Bool}{A B:Prop}:(if k=true then A else B)↔JL k (lk A) (lk B):=by cases k<;>simp[JL]
def acQ{O:Su}{A:Su->Prop}:JM (.nx O) (lk A) (lk B)=A O:=propext YB
def adz{A:Su->Prop}:JM (.rt u) (lk A) (lk B)=B (.rt u):=propext YB
def acX{O:Su}{A:Su->Prop}:JM (.bk O) (lk A) (lk B)=B (.bk O):=propext YB
def adi{O:Su}{A:Su->Prop}:JM (.ct O) (lk A) (lk B)=B (.ct O):=propext YB
def sj{O:Su}{A:Su->Prop}:JN (.nx O) (lk A) (lk B)=A O:=propext YB
def sZ{A:Su->Prop}:JN (.rt u) (lk A) (lk B)=B (.rt u):=propext YB
def acM{O:Su}{A:Su->Prop}:JN (.bk O) (lk A) (lk B)=B (.nx O):=propext YB
def adE{O:Su}{A:Su->Prop}:JN (.ct O) (lk A) (lk B)=A O:=propext YB
def qk{Q:U->Prop}:JO (.rt u) (lk Q)=Q u:=propext YB
def acT{O:Su}{Q:U->Prop}:JO (.nx O) (lk Q)=Q .ZJ:=propext YB
def bp{o:Option α}{Q:α->Prop}:(∃a,o=some a/\Q a)↔JK o (lk Q):=by
 cases o with
 |none=>exact⟨λ⟨_,e,_⟩=>(by cases e),λh=>h.elim⟩
 |some a=>exact⟨λ⟨_,e,h⟩=>(by cases e;exact h),λh=>⟨a,rfl,h⟩⟩
def hk{a:Type}(o:Out a)(X:XP){Q:a->G->Prop}(_:Lk Q):Prop:=holds o X Q
def sr{a:α}{X:XP}{Q:α->G->Prop}:hk (.ok a g) X (lk Q)=Q a g:=propext YB
def abU{c:Nat}{a:List U}{X:XP}{Q:α->G->Prop}:hk (.exc c a g) X (lk Q)=X c a g:=propext YB
section
variable{J:List Fn}{X:XP}{O:Su}
def JP(J:List Fn)(d f:Nat)(S:List U)(g:G)(X:XP){Q:U->G->Prop}(_:Lk Q):Prop:=JA J d f S g X Q
def JQ(J:List Fn)(d:Nat)(it:Iter)(i:Nat)(t:Tg)(b:List E)(c:List (Tg×E×List E))(a:E)(e:List U)(O:Su)(g:G)(X:XP){Q:List U->G->Prop}(_:Lk Q):Prop:=JJ J d it i t b c a e O g X Q
def JR(J:List Fn)(d:Nat)(t:Tg)(it:Iter)(i:Nat)(b:List Z6)(O:Su)(g:G)(X:XP){Q:Fl->G->Prop}(_:Lk Q):Prop:=JI J d t it i b O g X Q
def JS(J:List Fn)(d:Nat)(c:E)(b:List Z6)(O:Su)(g:G)(X:XP){Q:Fl->G->Prop}(_:Lk Q):Prop:=JH J d c b O g X Q
def CU(x:U)(l h:Option Int)(g:G):Out U:=match x with
  |.ZY xs=>if HT.sIx xs.length 0 l=0/\HT.sIx xs.length xs.length h=xs.length then .ZV else .ok (.ZY (A1 xs l h)) g
  |.Zy xs=>alloc (.Z5 (A1 xs l h)) g
  |.ref n=>match g[n]? with
   |some (.Z5 xs)=>alloc (.Z5 (A1 xs l h)) g
   |_=>.ZV
  |_=>.ZV
def AZ(n:Nat):Bool:=@decide (n<=Ab) (Classical.propDecidable _)
def fY(h:n<=16777000):AZ n=true:=by unfold AZ;exact @decide_eq_true _ (Classical.propDecidable _) h
def jI:AZ n=true↔n<=Ab:=by unfold AZ;exact @decide_eq_true_iff _ (Classical.propDecidable _)
def Fu(x:U)(g:G):Option (List U):=match x with
 |.ref n=>match g[n]? with
  |some (.Z5 xs)=>some xs
  |_=>none
 |_=>none
def vc{o:Option α}{Q:α->G->Prop}:holds (lift o g) X Q ↔ ∃a,o=some a/\Q a g:=by
 cases o with
 |none=>exact⟨λh=>h.elim,λ⟨_,e,_⟩=>by cases e⟩
 |some a=>exact⟨λh=>⟨a,rfl,h⟩,λ⟨b,e,h⟩=>by cases e;exact h⟩
def eE{o:Option α}{Q:α->G->Prop}:holds (lift o g) X Q↔JK o (lk λa=>Q a g):=by cases o<;>exact YB
def gv{o:Option Bool}:holds (match o with|some c=>Out.ok (U.bl c) g|none=>.ZV) X Q↔JK o (lk λc=>Q (.bl c) g):=by cases o<;>exact YB
def dN{o:Option α}{Q Q':α->Prop}(h:∀a,Q a↔Q' a):JK o (lk Q)↔JK o (lk Q'):=by
 cases o with
 |none=>exact YB
 |some a=>exact h a
def optN{o:Option Nat}{f:Nat->Nat->Out α}{Q:α->G->Prop}:wp (λn=>match o with|some k=>f n k|none=>.ZV) X Q↔JK o (lk λk=>wp (λn=>f n k) X Q):=by
 cases o with
 |none=>exact ae
 |some a=>exact YB
def qA{g':G}:holds (if n<=Ab then Out.ok u g' else .ZV) X Q↔JL (AZ n) (lk (Q u g')) (lk False):=by
 rw[<-bJ];by_cases h:n<=Ab
 .rw [YE h,YE (jI.mpr h)];exact YB
 .rw [Yn h,Yn (λz=>h (jI.mp z))];exact YB
def ob(op:Op)(x y:U)(g:G)(X:XP){Q:U->G->Prop}(_:Lk Q):Prop:=holds (A5 op x y g) X Q
def tw{i:Int}{X:XP}:ob op (.int i) y g X (lk Q)=JK (IU op (.int i) y) (lk λz=>Q z g):=propext (by
 unfold ob;refine Iff.trans (?_:_↔holds (lift (IU op (.int i) y) g) X Q) eE;exact YB)
def acm{a:List U}{X:XP}(d:g[n]?=some (.Z5 xs))(c:g[m]?=some (.Z5 a))(b:xs.length+a.length<=Ab)(h:Q (.ref g.length) (g++[.Z5 (xs++a)])):ob .add (.ref n) (.ref m) g X (lk Q):=by
 unfold ob A5 AW;simp![d,c];rw[YE b];exact h
section
def sV:JB J d (.L i) O g X Q↔JK O[i]? (lk λo=>JK o (lk λu=>Q u g)):=by
 rw[ak];delta Jk;simp![ae];cases O[i]? with
 |none=>exact YB
 |some o=>cases o<;>exact YB
def rH:JB J d (.ZW u) O g X Q↔Q u g:=by rw[ak];delta Jk;simp![ae];rfl
def rK{a b:E}:JB J d (.ZS op a b) O g X Q↔JB J d a O g X λx g=>JB J d b O g X λy g=>ob op x y g X (lk Q):=by
 rw[ak];delta Jk;dsimp only;refine(wp_bind (by sleep 9) (by sleep 9)).trans (wp_congr λ_ _=>?_);refine(wp_bind (by sleep 9) (by sleep 9)).trans (wp_congr λ_ _=>?_);exact ae
abbrev nX:XP:=λ_ _ _=>False
def fP{o:Out α}{k:α->G->Out β}:o.Zb.bind k=o.bindB k:=by cases o<;>rfl
def adf{op:Cp}{a b:E}:JB J d (.cmp op a b) O g X Q↔JB J d a O g X λx g=>JB J d b O g X λy g=>JK (I9 op x y g) <| lk λz=>Q (.bl z) g:=by
 rw[ak];delta Jk;dsimp only;refine(wp_bind (by sleep 9) (by sleep 9)).trans (wp_congr λ_ _=>?_);refine(wp_bind (by sleep 9) (by sleep 9)).trans (wp_congr λ_ _=>?_);exact ae.trans gv
def zu{op e:Cp}{a b:E}:JB J d (.chain op e a b c) O g X Q↔JB J d a O g X λx g=>JB J d b O g X λy g=>JK (I9 op x y g) <| lk λz=>JL z (lk (JB J d c O g X λw g=>JK (I9 e y w g) <| lk λz=>Q (.bl z) g)) (lk (Q (.bl false) g)):=by
 rw[ak];delta Jk;dsimp only;refine(wp_bind (by sleep 9) (by intro x g;refine mB (mE _ _ _) λy g=>?_;generalize I9 op x y g=o;cases o with|none=>exact mK _|some z=>cases z;exact mK _;exact mB (mE _ _ _) λ_ _=>mK _)).trans (wp_congr λx g=>?_)
 refine(wp_bind (by sleep 9) (by intro y g;generalize I9 op x y g=o;cases o with|none=>exact mK _|some z=>cases z;exact mK _;exact mB (mE _ _ _) λ_ _=>mK _)).trans (wp_congr λy g=>?_)
 generalize I9 op x y g=o;cases o with
 |none=>exact ae
 |some z=>
  cases z
  .exact ae
  .exact (wp_bind (by sleep 9) (by sleep 9)).trans (wp_congr λ_ _=>ae.trans gv)
def ada{a b:E}:JB J d (.and a b) O g X Q↔JB J d a O g X λx g=>JK (match x with|.bl z=>some z|_=>none) <| lk λz=>JL z (lk (JB J d b O g X Q)) (lk (Q (.bl false) g)):=by
 rw[ak];delta Jk;dsimp only;refine(wp_bind (by sleep 9) (by intro x g;cases x with|bl b=>cases b;exact mK _;exact mE _ _ _|_=>exact mK _)).trans (wp_congr λx g=>?_)
 cases x with
 |bl z=>cases z;exact ae;exact YB
 |_=>exact ae
def e_or{a b:E}:JB J d (.or a b) O g X Q↔JB J d a O g X λx g=>JK (match x with|.bl z=>some z|_=>none) <| lk λz=>JL z (lk (Q (.bl true) g)) (lk (JB J d b O g X Q)):=by
 rw[ak];delta Jk;dsimp only;refine(wp_bind (by sleep 9) (by intro x g;cases x with|bl b=>cases b;exact mE _ _ _;exact mK _|_=>exact mK _)).trans (wp_congr λx g=>?_)
 cases x with
 |bl z=>cases z;exact YB;exact ae
 |_=>exact ae
def adb{a:E}:JB J d (.not a) O g X Q↔JB J d a O g X λx g=>JK (Ja x g) <| lk λc=>Q (.bl !c) g:=by
 rw[ak];delta Jk;dsimp only;refine(wp_bind (by sleep 9) (by sleep 9)).trans (wp_congr λx g=>ae.trans ?_)
 cases Ja x g<;>exact YB
def acY{a:E}:JB J d (.neg a) O g X Q↔JB J d a O g X λx g=>JK (match x with|.int i=>some i|_=>none) <| lk λi=>Q (.int (-i)) g:=by
 rw[ak];delta Jk;dsimp only;refine(wp_bind (by sleep 9) (by sleep 9)).trans (wp_congr λx g=>ae.trans ?_)
 cases x<;>exact YB
def rm{a:List E}:JB J d (.ZY a) O g X Q↔Au J d a O g X λS g=>JL (AZ S.length) (lk (Q (.ZY S) g)) (lk False):=by
 rw[ak];delta Jk;dsimp only;exact(wp_bind (by sleep 9) (by sleep 9)).trans (wp_congr λx g=>ae.trans qA)
def acR{a:List E}:JB J d (.Z5 a) O g X Q↔Au J d a O g X λS g=>JL (AZ S.length) (lk (Q (.ref g.length) (g++[.Z5 S]))) (lk False):=by
 rw[ak];delta Jk;dsimp only;exact(wp_bind (by sleep 9) (by sleep 9)).trans (wp_congr λx g=>ae.trans qA)
def rB{a b:E}:JB J d (.idx a b) O g X Q↔JB J d a O g X λx g=>JB J d b O g X λy g=>match y with|.ZY S=>JK ((AI (.ZY S) x g).bind id) <| lk λz=>Q z g|.str k=>JK ((IW x g).bind λZ4=>BH Z4 k) <| lk λz=>Q z g|y=>JK (match y with|.int i=>some i|_=>none) <| lk λi=>JK (items x g) <| lk λxs=>JK (Jb xs i) <| lk λz=>Q z g:=by
 rw[ak];delta Jk;dsimp only;refine(wp_bind (by sleep 9) (by sleep 9)).trans (wp_congr λx g=>(wp_bind (by sleep 9) (by sleep 9)).trans (wp_congr λy g=>ae.trans ?_))
 cases y with
 |int i=>
  show holds (match items x g with|some xs=>lift (Jb xs i) g|none=>.ZV) X Q↔JK (items x g) (lk λxs=>JK (Jb xs i) (lk λz=>Q z g))
  cases items x g with
  |none=>exact YB
  |some xs=>exact eE
 |ZY S=>exact eE
 |str k=>exact eE
 |_=>exact YB
def adn{a:E}{lo hi:Option E}:JB J d (.W8 a lo hi) O g X Q↔JB J d a O g X λx g=>JD J d lo O g X λl g=>JD J d hi O g X λh g=>hk (CU x l h g) X (lk Q):=by
 rw[ak];delta Jk;dsimp only;refine(wp_bind (by sleep 9) (by sleep 9)).trans (wp_congr λ_ _=>?_);refine(wp_bind (by sleep 9) (by sleep 9)).trans (wp_congr λ_ _=>?_);refine(wp_bind (by sleep 9) (by sleep 9)).trans (wp_congr λ_ _=>?_);exact ae
def pD{f:Nat}{a:List E}:JB J d (.call f a) O g X Q↔Au J d a O g nX λS g=>JP J d f S g X (lk Q):=by
 rw[ak];delta Jk;dsimp only;simp![fP];exact aO (mEs _ _ _) λ_ _=>mC _ _ _
def e_bi{b:Bi}{a:List E}:JB J d (.bi b a) O g X Q↔Au J d a O g X λS g=>hk (Je b S g) X (lk Q):=by
 rw[ak];delta Jk;dsimp only;exact(wp_bind (by sleep 9) (by sleep 9)).trans (wp_congr λx g=>ae)
def abr:JB J d .V6 O g X Q↔Q (.ref g.length) (g++[.ZG []]):=by
 rw[ak];delta Jk;dsimp only;exact ae
def ads{a:E}{t:Ty}:JB J d (.Yw a t) O g X Q↔JB J d a O g X λx g=>JK (Ay t x g) <| lk λc=>Q (.bl c) g:=by
 rw[ak];delta Jk;dsimp only;exact(wp_bind (by sleep 9) (by sleep 9)).trans (wp_congr λx g=>ae.trans gv)
def mN{o:Option Nat}{f:Nat->Nat->Out α}(h:∀k,Aq λn=>f n k):Aq λn=>(match o with|some k=>f n k|none=>.ZV:Out α):=by
 cases o with
 |none=>exact mK _
 |some k=>exact h k
def acJ{o v:E}:JB J d (.app o v) O g X Q↔JB J d o O g X λx g=>JK (Jf x g) <| lk λk=>JB J d v O g X λy g=>hk (Bn k y g) X (lk Q):=by
 rw[ak];delta Jk;dsimp only;refine(wp_bind (by sleep 9) (by intro x g;exact mN λk=>mB (mE _ _ _) λ_ _=>mK _)).trans (wp_congr λx g=>optN.trans (dN λk=>?_))
 refine(wp_bind (by sleep 9) (by sleep 9)).trans (wp_congr λ_ _=>?_);exact ae
def acz{o v:E}:JB J d (.VI o v) O g X Q↔JB J d o O g X λx g=>JK (Jf x g) <| lk λk=>JB J d v O g X λy g=>hk (Bz k y g) X (lk Q):=by
 rw[ak];delta Jk;dsimp only;refine(wp_bind (by sleep 9) (by intro x g;exact mN λk=>mB (mE _ _ _) λ_ _=>mK _)).trans (wp_congr λx g=>optN.trans (dN λk=>?_))
 refine(wp_bind (by sleep 9) (by sleep 9)).trans (wp_congr λ_ _=>?_);exact ae
def adw{o v:E}:JB J d (.ext o v) O g X Q↔JB J d o O g X λx g=>JK (Jf x g) <| lk λk=>JB J d v O g X λy g=>hk (BF k y g) X (lk Q):=by
 rw[ak];delta Jk;dsimp only;refine(wp_bind (by sleep 9) (by intro x g;exact mN λk=>mB (mE _ _ _) λ_ _=>mK _)).trans (wp_congr λx g=>optN.trans (dN λk=>?_))
 refine(wp_bind (by sleep 9) (by sleep 9)).trans (wp_congr λ_ _=>?_);exact ae
def adh{o:E}:JB J d (.pop o) O g X Q↔JB J d o O g X λx g=>JK (Jf x g) <| lk λk=>hk (Br k g) X (lk Q):=by
 rw[ak];delta Jk;dsimp only;exact(wp_bind (by sleep 9) (by intro x g;exact mN λk=>mK _)).trans (wp_congr λx g=>optN.trans (dN λk=>ae))
def acd{a:Nat}{fr:List Nat}{t:Tg}{it:E}{b:List (Tg×E×List E)}{k v:E}:JB J d (.V5 a fr ((t,it,cs)::b) k v) O g X Q ↔
  JF J d it O g X λi g=>JQ J d i 0 t cs b (.pair k v) [] (List.replicate a none++fr.map λj=>(O[j]?).getD none) g (λ_ _ _=>False) (lk λS g=>JK (dfold S []) <| lk λZ4=>Q (.ref g.length) (g++[.ZG Z4])):=by
 rw[ak];delta Jk;dsimp only;refine(wp_bind (by sleep 9) (by sleep 9)).trans (wp_congr λx g=>(aO (by sleep 9) (by sleep 9)).trans (wp_congr λS g=>ae.trans ?_))
 cases dfold S []<;>exact YB
def abm{k v:E}:JB J d (.pair k v) O g X Q↔JB J d k O g X λx g=>JB J d v O g X λy g=>JK (keyOf x) <| lk λ_=>Q (.ZY [x,y]) g:=by
 rw[ak];delta Jk;dsimp only;refine(wp_bind (by sleep 9) (by sleep 9)).trans (wp_congr λx g=>(wp_bind (by sleep 9) (by sleep 9)).trans (wp_congr λy g=>ae.trans ?_))
 cases keyOf x<;>exact YB
def ab3{a:Nat}{fr:List Nat}{t:Tg}{it:E}{b:List (Tg×E×List E)}:JB J d (.comp a fr ((t,it,cs)::b) elt) O g X Q ↔
  JF J d it O g X λi g=>JQ J d i 0 t cs b elt [] (List.replicate a none++fr.map λj=>(O[j]?).getD none) g (λ_ _ _=>False) (lk λS g=>S.length<=Ab/\Q (.ref g.length) (g++[.Z5 S])):=by
 rw[ak];delta Jk;dsimp only;refine(wp_bind (by sleep 9) (by sleep 9)).trans (wp_congr λx g=>(aO (by sleep 9) (by sleep 9)).trans (wp_congr λS g=>ae.trans ?_))
 split
 .rename_i h;exact⟨λq=>⟨h,q⟩,λq=>q.2⟩
 .rename_i h;exact⟨λq=>q.elim,λq=>h q.1⟩
end
def nM{Q:List U->G->Prop}:Au J d [] O g X Q↔Q [] g:=by unfold Au;simp![Jg,ae];rfl
def lW{e:E}{a:List E}{Q:List U->G->Prop}:Au J d (e::a) O g X Q↔JB J d e O g X λu g=>Au J d a O g X λS g=>Q (u::S) g:=by
 unfold Au;simp![Jg];refine(wp_bind (by sleep 9) (by sleep 9)).trans (wp_congr λ_ _=>?_);refine(wp_bind (by sleep 9) (by sleep 9)).trans (wp_congr λ_ _=>?_);exact ae
def pX{Q:Option Int->G->Prop}:JD J d none O g X Q↔Q none g:=by unfold JD;simp![Jh,ae];rfl
def abx{e:E}{Q:Option Int->G->Prop}:JD J d (some e) O g X Q↔JB J d e O g X λu g=>∃i,u=.int i/\Q (some i) g:=by
 unfold JD;simp![Jh];refine(wp_bind (by sleep 9) (by sleep 9)).trans (wp_congr λx g=>ae.trans ?_)
 cases x with
 |int a=>exact⟨λh=>⟨a,rfl,h⟩,λ⟨b,e,h⟩=>by cases e;exact h⟩
 |_=>exact⟨λh=>h.elim,λ⟨_,e,_⟩=>by cases e⟩
section
variable{Q:Bool->G->Prop}
def adH{a b:E}:JC J d (.and a b) O g X Q↔JC J d a O g X λk g=>if k then JC J d b O g X Q else Q false g:=by
 rw[eL];delta Jl;dsimp only;refine(wp_bind (by sleep 9) (by intro k g;cases k;exact mK _;exact mT _ _ _)).trans (wp_congr λx g=>?_)
 cases x
 .exact ae
 .exact YB
theorem T_or{a b:E}:JC J d (.or a b) O g X Q↔JC J d a O g X λk g=>if k then Q true g else JC J d b O g X Q:=by
 rw[eL];delta Jl;dsimp only;refine(wp_bind (by sleep 9) (by intro k g;cases k;exact mT _ _ _;exact mK _)).trans (wp_congr λx g=>?_)
 cases x
 .exact YB
 .exact ae
def acW{a:E}:JC J d (.not a) O g X Q↔JC J d a O g X λk g=>Q (!k) g:=by
 rw[eL];delta Jl;dsimp only;refine(wp_bind (by sleep 9) (by sleep 9)).trans (wp_congr λ_ _=>?_);exact ae
def plainT:E->Bool
 |.and _ _=>false|.or _ _=>false|.not _=>false|.ite _ _ _=>false|_=>true
theorem T_e{e:E}(h:plainT e=true):JC J d e O g X Q↔JB J d e O g X λx g=>∃c,Ja x g=some c/\Q c g:=by
 rw[eL];have:(λn=>Jl (lv J d n) e O g)=λn=>((lv J d n).ev e O g).bind λx g=>lift (Ja x g) g:=by
  funext n;cases e<;>first|rfl|cases h
 rw[this];refine(wp_bind (by sleep 9) (by sleep 9)).trans (wp_congr λ_ _=>?_);exact ae.trans vc
def il:JE J d [] O g X Q↔Q true g:=by unfold JE;simp![As,ae];rfl
def abB:JE J d (c::cs) O g X Q↔JC J d c O g X λk g=>if k then JE J d cs O g X Q else Q false g:=by
 unfold JE;simp![As];refine(wp_bind (by sleep 9) (by intro k g;cases k;exact mK _;exact mA _ _ _)).trans (wp_congr λx g=>?_)
 cases x
 .exact ae
 .exact YB
end
section
variable{Q:Iter->G->Prop}
def ach{a:E}:JF J d (.X3 a) O g X Q↔JB J d a O g X λu g=>∃j,u=.int j/\(-1000000<j/\j<1000000)/\Q (.YU 0 j.toNat) g:=by
 unfold JF;delta Jj;dsimp only;refine(wp_bind (by sleep 9) (by sleep 9)).trans (wp_congr λx g=>ae.trans ?_)
 cases x with
 |int a=>
  simp![];split
  .rename_i h;exact⟨λq=>⟨a,rfl,h,q⟩,λ⟨b,e,_,q⟩=>by cases e;exact q⟩
  .rename_i h;exact⟨λq=>q.elim,λ⟨b,e,h',q⟩=>by cases e;exact h h'⟩
 |_=>exact⟨λh=>h.elim,λ⟨_,e,_⟩=>by cases e⟩
def acF{a b:E}:JF J d (.WI a b) O g X Q↔JB J d a O g X λu g=>JB J d b O g X λw g=>∃i j,u=.int i/\w=.int j/\(-1000000<i/\i<1000000 /\ -1000000<j/\j<1000000)/\Q (.YU i (j-i).toNat) g:=by
 unfold JF;delta Jj;dsimp only;refine(wp_bind (by sleep 9) (by sleep 9)).trans (wp_congr λx g=>(wp_bind (by sleep 9) (by sleep 9)).trans (wp_congr λy g=>ae.trans ?_))
 cases x with
 |int a=>
  cases y with
  |int b=>
   simp![];split
   .rename_i h;exact⟨λq=>⟨a,b,rfl,rfl,h,q⟩,λ⟨_,_,e,e',_,q⟩=>by cases e;cases e';exact q⟩
   .rename_i h;exact⟨λq=>q.elim,λ⟨_,_,e,e',h',q⟩=>by cases e;cases e';exact h h'⟩
  |_=>exact⟨λh=>h.elim,λ⟨_,_,_,e,_⟩=>by cases e⟩
 |_=>exact⟨λh=>h.elim,λ⟨_,_,e,_⟩=>by cases e⟩
theorem I_e{e:E}(h:CA e=true):JF J d e O g X Q ↔ JB J d e O g X λu g=>holds (match u with
  |.ZY xs=>.ok (.seq xs) g
  |.xn _ xs=>.ok (.seq xs) g
  |.ref n=>match g[n]? with
   |some (.Z5 _)=>.ok (.Z5 n) g
   |_=>.ZV
  |_=>.ZV) X Q:=by
 unfold JF;have:(λn=>Jj (lv J d n) e O g)=λn=>((lv J d n).ev e O g).bind λu g=>match u with
  |.ZY xs=>.ok (.seq xs) g
  |.xn _ xs=>.ok (.seq xs) g
  |.ref n=>match g[n]? with
   |some (.Z5 _)=>.ok (.Z5 n) g
   |_=>.ZV
  |_=>.ZV:=by
  funext n;cases e<;>first|rfl|cases h
 rw[this];refine(wp_bind (by sleep 9) (by sleep 9)).trans (wp_congr λ_ _=>?_);exact ae
end
section
variable{Q:Fl->G->Prop}
def dh:wpS J d [] O g X Q↔Q (.nx O) g:=by rw[nQ];simp![Jo,ae];rfl
def aas{s:Z6}{a:List Z6}:wpS J d (s::a) O g X Q↔JG J d s O g X λf g=>match f with|.nx ZT=>wpS J d a ZT g X Q|f=>Q f g:=by
 rw[nQ];simp![Jo];refine(wp_bind (by exact m1 _ _ _) (by intro f g;cases f;exact mS _ _ _;exact mK _;exact mK _;exact mK _)).trans (wp_congr λx g=>?_)
 cases x<;>first|exact YB|exact ae
def ac5{e:E}:JG J d (.ret e) O g X Q↔JB J d e O g X λu g=>Q (.rt u) g:=by
 unfold JG;delta Jn;dsimp only;exact(wp_bind (by sleep 9) (by sleep 9)).trans (wp_congr λx g=>ae)
def adg{t:Tg}{e:E}:JG J d (.set t e) O g X Q↔JB J d e O g X λu g=>∃ZT,Af t (Ji t u g) O=some ZT/\Q (.nx ZT) g:=by
 unfold JG;delta Jn;dsimp only;refine(wp_bind (by sleep 9) (by sleep 9)).trans (wp_congr λx g=>ae.trans ?_)
 cases Af t (Ji t x g) O with
 |none=>exact⟨λh=>h.elim,λ⟨_,e,_⟩=>by cases e⟩
 |some a=>exact⟨λh=>⟨a,rfl,h⟩,λ⟨b,e,h⟩=>by cases e;exact h⟩
def ac8{o i e:E}:JG J d (.sub o i e) O g X Q↔JB J d e O g X λu g=>JB J d o O g X λx g=>JB J d i O g X λy g=>holds (subAt x y u O g) X Q:=by
 unfold JG;delta Jn;dsimp only;refine(wp_bind (by sleep 9) (by sleep 9)).trans (wp_congr λ_ _=>?_);refine(wp_bind (by sleep 9) (by sleep 9)).trans (wp_congr λ_ _=>?_);refine(wp_bind (by sleep 9) (by sleep 9)).trans (wp_congr λ_ _=>?_);exact ae
def adu{o i:E}:JG J d (.del o i) O g X Q↔JB J d o O g X λx g=>JB J d i O g X λy g=>holds (Bb x y O g) X Q:=by
 unfold JG;delta Jn;dsimp only;refine(wp_bind (by sleep 9) (by sleep 9)).trans (wp_congr λ_ _=>?_);refine(wp_bind (by sleep 9) (by sleep 9)).trans (wp_congr λ_ _=>?_);exact ae
def adD{e:E}:JG J d (.exp e) O g X Q↔JB J d e O g X λ_ g=>Q (.nx O) g:=by
 unfold JG;delta Jn;dsimp only;exact(wp_bind (by sleep 9) (by sleep 9)).trans (wp_congr λx g=>ae)
def ac6{a b:List Z6}:JG J d (.Zv c a b) O g X Q↔JC J d c O g X λk g=>if k then wpS J d a O g X Q else wpS J d b O g X Q:=by
 unfold JG;delta Jn;dsimp only;refine(wp_bind (by sleep 9) (by intro k g;cases k;exact mS _ _ _;exact mS _ _ _)).trans (wp_congr λx g=>?_)
 cases x<;>exact YB
def adM{t:Tg}{it:E}{b:List Z6}:JG J d (.for t it b) O g X Q↔JF J d it O g X λi g=>JI J d t i 0 b O g X Q:=by
 unfold JG;delta Jn;dsimp only;exact wp_bind (by sleep 9) (by sleep 9)
def aaz{b:List Z6}:JH J d c b O g X Q↔JC J d c O g X λk g=>if k then wpS J d b O g X λf g=>(match f with
  |.nx ZT=>JH J d c b ZT g X Q
  |.ct ZT=>JH J d c b ZT g X Q
  |.bk ZT=>Q (.nx ZT) g
  |.rt u=>Q (.rt u) g)else Q (.nx O) g:=by
 rw[aaw];simp![Jp];refine(wp_bind (mT _ _ _) λk g=>by cases k;exact mK _;refine mB (mS _ _ _) λf g=>?_;cases f;exact mW _ _ _ _;exact mK _;exact mK _;exact mW _ _ _ _).trans (wp_congr λx g=>?_)
 cases x
 .exact ae
 .simp only [Tj]
  refine(wp_bind (by sleep 9) (by intro f g;cases f;exact mW _ _ _ _;exact mK _;exact mK _;exact mW _ _ _ _)).trans (wp_congr λf g=>?_)
  cases f<;>first|exact YB|exact ae
def g8{t:Tg}{b:List Z6}:JI J d t it i b O g X Q ↔ ∃o,next it i g=some o/\match o with
  |none=>Q (.nx O) g
  |some u=>∃a,Af t u O=some a/\wpS J d b a g X λf g=>match f with
   |.nx ZT=>JI J d t it (i+1) b ZT g X Q
   |.ct ZT=>JI J d t it (i+1) b ZT g X Q
   |.bk ZT=>Q (.nx ZT) g
   |.rt u=>Q (.rt u) g:=by
 rw[abq];simp![Jq];cases next it i g with
 |none=>simp![ae];exact⟨λh=>h.elim,λ⟨_,e,_⟩=>by cases e⟩
 |some o=>
  cases o with
  |none=>simp![ae];exact⟨λh=>⟨none,rfl,h⟩,λ⟨o,e,h⟩=>by cases e;exact h⟩
  |some u=>
   simp![];cases c:Af t u O with
   |none=>simp![ae];exact⟨λh=>h.elim,λ⟨_,e,h⟩=>by cases e;let⟨_,e,_⟩:=h;rw[c]at e;cases e⟩
   |some a=>
    simp![];refine(wp_bind (by sleep 9) (by intro f g;cases f;exact mF _ _ _ _ _ _;exact mK _;exact mK _;exact mF _ _ _ _ _ _)).trans ?_
    refine Iff.trans (wp_congr (Q':=λf g=>match f with
       |.nx ZT=>JI J d t it (i+1) b ZT g X Q
       |.ct ZT=>JI J d t it (i+1) b ZT g X Q
       |.bk ZT=>Q (.nx ZT) g
       |.rt u=>Q (.rt u) g) λf g=>?_) ?_
    .cases f<;>first|exact YB|exact ae
    exact⟨λh=>⟨some u,rfl,a,c,h⟩,λ⟨o,e,h⟩=>by cases e;let⟨j,e,h⟩:=h;rw[c]at e;cases e;exact h⟩
end
def b7{t:Tg}{c:List (Tg×E×List E)}{Q:List U->G->Prop}:JJ J d it i t cs c elt ZQ O g X Q ↔ ∃o,next it i g=some o/\match o with
  |none=>Q ZQ g
  |some u=>AQ t O=true /\∃a,Af t u O=some a/\JE J d cs a g (λ_ _ _=>False) λk g=>if k then
    match c with
    |[]=>JB J d elt a g (λ_ _ _=>False) λv g=>ZQ.length<Ab/\JJ J d it (i+1) t cs c elt (ZQ++[v]) O g X Q
    |(t2,Xp,We)::VP=>JF J d Xp a g (λ_ _ _=>False) λj g=>JJ J d j 0 t2 We VP elt ZQ a g (λ_ _ _=>False) λy g=>JJ J d it (i+1) t cs c elt y O g X Q
   else JJ J d it (i+1) t cs c elt ZQ O g X Q:=by
 rw[abC];simp![Jr];cases next it i g with
 |none=>simp![ae];exact⟨λh=>h.elim,λ⟨_,e,_⟩=>by cases e⟩
 |some o=>
  cases o with
  |none=>simp![ae];exact⟨λh=>⟨none,rfl,h⟩,λ⟨o,e,h⟩=>by cases e;exact h⟩
  |some u=>
   simp![];by_cases w:AQ t O=true
   .simp only [w,Tj]
    cases r:Af t u O with
    |none=>simp![ae];exact⟨λh=>h.elim,λ⟨_,e,h⟩=>by cases e;let⟨_,_,e,_⟩:=h;rw[r]at e;cases e⟩
    |some a=>
     simp![];refine Iff.trans ?_ ⟨λh=>⟨some u,rfl,trivial,a,r,h⟩,λ⟨o,e,h⟩=>by cases e;let⟨_,z,e,h⟩:=h;rw[r]at e;cases e;exact h⟩
     cases c with
     |nil=>
      refine(aO (by sleep 9) (by intro k g;cases k;exact mM _ _ _ _ _ _ _ _ _;refine mBB (mE _ _ _) λv g=>?_;by_cases h:ZQ.length<Ab;simp![h,Tj];exact mM _ _ _ _ _ _ _ _ _;simp![h,Vb];exact mK _)).trans (wp_congr λk g=>?_)
      cases k
      .exact YB
      .refine Iff.trans (aO (by sleep 9) (by intro v g;by_cases h:ZQ.length<Ab;simp![h,Tj];exact mM _ _ _ _ _ _ _ _ _;simp![h,Vb];exact mK _)) (wp_congr λv g=>?_)
       by_cases h:ZQ.length<Ab
       .simp only [h,Tj];exact⟨λq=>⟨trivial,q⟩,λq=>q.2⟩
       .simp only [h,Vb];exact⟨λ⟨_,q⟩=>q.elim,λq=>q.1.elim⟩
     |cons t2 VP=>
      let⟨t2,Xp,We⟩:=t2;refine(aO (by sleep 9) (by intro k g;cases k;exact mM _ _ _ _ _ _ _ _ _;exact mBB (mI _ _ _) λ_ _=>mBB (mM _ _ _ _ _ _ _ _ _) λ_ _=>mM _ _ _ _ _ _ _ _ _)).trans (wp_congr λk g=>?_)
      cases k
      .exact YB
      .refine Iff.trans (aO (by sleep 9) (by sleep 9)) (wp_congr λj g=>?_)
       exact aO (by sleep 9) (by sleep 9)
   .have f:AQ t O=false:=by cases h:AQ t O;rfl;exact absurd h w
    simp![f];exact⟨λ⟨_,h⟩=>h.elim,λ⟨_,e,h⟩=>by cases e;exact absurd h.1 #[3]⟩
def abd{f:Nat}{F:Fn}(b:J[f]?=some F)(a:S.length=F.np):JA J (d+1) f S g X Q↔wpS J d F.body (S.map some++List.replicate (F.ns-S.length) none) g X λc g=>match c with
  |.rt u=>Q u g
  |.nx _=>Q .ZJ g
  |_=>False:=by
 unfold JA;simp![Aa,b,Bx,a,Tj];refine(wp_bind (f:=λn=>(lv J d n).ex F.body (S.map some++List.replicate (F.ns-F.np) none) g) (mS _ _ _) (by sleep 9)).trans (wp_congr λx g=>ae.trans ?_)
 cases x<;>exact YB
def zK{f:Nat}(h:JA J d f S g (λ_ _ _=>False) Q):∃fu u g',Aa J fu d f S g=.ok u g'/\Q u g':=by
 let⟨n,h⟩:=h;have h:holds (Aa J n d f S g) (λ_ _ _=>False) Q:=h;revert h;cases e:Aa J n d f S g with
 |ok u g'=>exactλh=>⟨n,u,g',e,h⟩
 |exc c fs g=>exactλh=>h.elim
 |ZV=>exactλh=>h.elim
end
section
variable{J:List Fn}{X:XP}{O ZT:Su}{g':G}
def mG{b:List Z6}{Q:Fl->G->Prop}:JG J d (.VH c b) O g X Q↔JS J d c b O g X (lk Q):=YB
def ab9{t:Tg}{it:E}{b:List Z6}{Q:Fl->G->Prop}:JG J d (.for t it b) O g X Q↔JF J d it O g X λi g=>JR J d t i 0 b O g X (lk Q):=adM
def acA{e:E}{Q:Option Int->G->Prop}:JD J d (some e) O g X Q↔JB J d e O g X λu g=>JK (match u with|.int i=>some i|_=>none) <| lk λi=>Q (some i) g:=abx.trans (wp_congr λx g=>by
 cases x with
 |int z=>exact⟨λ⟨_,e,h⟩=>(by cases e;exact h),λh=>⟨z,rfl,h⟩⟩
 |_=>exact⟨λ⟨_,e,h⟩=>(by cases e),λh=>h.elim⟩)
section
variable{Q:Bool->G->Prop}
def adp{a b:E}:JC J d (.and a b) O g X Q↔JC J d a O g X λk g=>JL k (lk (JC J d b O g X Q)) (lk (Q false g)):=adH.trans (wp_congr λk g=>bJ)
def t_or{a b:E}:JC J d (.or a b) O g X Q↔JC J d a O g X λk g=>JL k (lk (Q true g)) (lk (JC J d b O g X Q)):=T_or.trans (wp_congr λk g=>bJ)
def t_e{e:E}(h:plainT e=true):JC J d e O g X Q↔JB J d e O g X λx g=>JK (Ja x g) <| lk λc=>Q c g:=(T_e h).trans (wp_congr λx g=>bp)
def abe:JE J d (c::cs) O g X Q↔JC J d c O g X λk g=>JL k (lk (JE J d cs O g X Q)) (lk (Q false g)):=abB.trans (wp_congr λk g=>bJ)
end
section
variable{Q:Iter->G->Prop}
def Al(j:Int):Bool:=@decide (-1000000<j/\j<1000000) (Classical.propDecidable _)
def aP{j:Int}(h : -1000000<j)(h':j<1000000):Al j=true:=by unfold Al;exact @decide_eq_true _ (Classical.propDecidable _) ⟨h,h'⟩
def abp{a:E}:JF J d (.X3 a) O g X Q↔JB J d a O g X λu g=>JK (match u with|.int i=>some i|_=>none) <| lk λj=>JL (Al j) (lk (Q (.YU 0 j.toNat) g)) (lk False):=ach.trans (wp_congr λu g=>by
 cases u with
 |int i=>
  show _↔JL (Al i) (lk _) (lk _);by_cases h : -1000000<i/\i<1000000
  .rw [show Al i=true by unfold Al;exact @decide_eq_true _ (Classical.propDecidable _) h]
   exact⟨λ⟨_,e,_,q⟩=>(by cases e;exact q),λq=>⟨i,rfl,h,q⟩⟩
  .rw [show Al i=false by unfold Al;exact @decide_eq_false _ (Classical.propDecidable _) h]
   exact⟨λ⟨_,e,q,_⟩=>(by cases e;exact h q),λq=>q.elim⟩
 |_=>exact⟨λ⟨_,e,h⟩=>(by cases e),λh=>h.elim⟩)
def abR{a b:E}:JF J d (.WI a b) O g X Q↔JB J d a O g X λu g=>JB J d b O g X λw g=>JK (match u with|.int i=>some i|_=>none) <| lk λi=>JK (match w with|.int i=>some i|_=>none) <| lk λj=>JL (Al i&&Al j) (lk (Q (.YU i (j-i).toNat) g)) (lk False):=acF.trans (wp_congr λu g=>wp_congr λw g=>by
 cases u with
 |int i=>
  cases w with
  |int j=>
   show _↔JL (Al i&&Al j) (lk _) (lk _);by_cases h:(Al i&&Al j)=true
   .rw [h]
    have h':=h;simp![Al,Z1,Wd]at h';exact⟨λ⟨_,_,e,e',_,q⟩=>(by cases e;cases e';exact q),λq=>⟨i,j,rfl,rfl,⟨h'.1.1,h'.1.2,h'.2.1,h'.2.2⟩,q⟩⟩
   .rw [Bool.not_eq_true]at h
    rw[h];exact⟨λ⟨_,_,e,e',q,_⟩=>by cases e;cases e';simp[Al,q]at h,λq=>q.elim⟩
  |_=>exact⟨λ⟨_,_,e,e',h⟩=>(by cases e'),λh=>h.elim⟩
 |_=>exact⟨λ⟨_,_,e,h⟩=>(by cases e),λh=>h.elim⟩)
def B0(u:U)(g:G):Option (Iter×G):=match u with
 |.ZY xs=>some (.seq xs,g)
 |.xn _ xs=>some (.seq xs,g)
 |.ref n=>match g[n]? with
  |some (.Z5 _)=>some (.Z5 n,g)
  |_=>none
 |_=>none
def i_e{e:E}(h:CA e=true):JF J d e O g X Q↔JB J d e O g X λu g=>JK (B0 u g) <| lk λp=>Q p.1 p.2:=(I_e h).trans (wp_congr λu g=>by
 cases u with
 |ref n=>
  simp![B0];cases g[n]? with
  |none=>exact YB
  |some o=>cases o<;>exact YB
 |_=>exact YB)
end
section
variable{Q:Fl->G->Prop}
def abh{s:Z6}{a:List Z6}:wpS J d (s::a) O g X Q↔JG J d s O g X λf g=>JM f (lk (λZT=>wpS J d a ZT g X Q)) (lk λf=>Q f g):=aas.trans (wp_congr λf g=>by cases f<;>exact YB)
def abL{t:Tg}{e:E}:JG J d (.set t e) O g X Q↔JB J d e O g X λu g=>JK (Af t (Ji t u g) O) <| lk λZT=>Q (.nx ZT) g:=adg.trans (wp_congr λx g=>bp)
def abb{o i:E}:JG J d (.del o i) O g X Q↔JB J d o O g X λx g=>JB J d i O g X λy g=>hk (Bb x y O g) X (lk Q):=adu
def ab8{o i e:E}:JG J d (.sub o i e) O g X Q↔JB J d e O g X λu g=>JB J d o O g X λx g=>JB J d i O g X λy g=>hk (subAt x y u O g) X (lk Q):=ac8
def abZ{a b:List Z6}:JG J d (.Zv c a b) O g X Q↔JC J d c O g X λk g=>JL k (lk (wpS J d a O g X Q)) (lk (wpS J d b O g X Q)):=ac6.trans (wp_congr λk g=>bJ)
def aaS{b:List Z6}:JH J d c b O g X Q↔JC J d c O g X λk g=>JL k (lk (wpS J d b O g X λf g=>JN f (lk (λZT=>JH J d c b ZT g X Q)) (lk λf=>Q f g))) (lk (Q (.nx O) g)):=aaz.trans (wp_congr λk g=>bJ.trans (by
 cases k
 .exact YB
 .exact wp_congr λf g=>by cases f<;>exact YB))
def oE{f:Nat}{F:Fn}{Q:U->G->Prop}(b:J[f]?=some F)(a:S.length=F.np):JA J (d+1) f S g X Q↔wpS J d F.body (S.map some++List.replicate (F.ns-S.length) none) g X λc g=>JO c <| lk λu=>Q u g:=(abd b a).trans (wp_congr λf g=>by cases f<;>exact YB)
def cj{t:Tg}{it:Iter}{b:List Z6}(S:List U)(a:Nat->Su->G->Prop)
  (c:∀k O g,a k O g->next it k g=some S[k]?)
  (j:∀k u O g,S[k]?=some u->a k O g->JK (Af t u O) (lk λm=>wpS J d b m g X λf g=>JN f (lk (λZT=>a (k+1) ZT g)) (lk λf=>Q f g)))
  (l:∀O g,a S.length O g->Q (.nx O) g):∀(n i:Nat) (O:Su) (g:G),i+n=S.length->a i O g->JI J d t it i b O g X Q
 |0,i,O,g,e,h=>by
  have e:i=S.length:=by lia
  subst e;rw[g8];exact⟨none,by rw[c _ _ _ h];simp,l _ _ h⟩
 |n+1,i,O,g,e,h=>by
  have hi:i<S.length:=by lia
  rw[g8];let⟨m,o,w⟩:=bp.2 (j i S[i] O g (YJ hi) h);refine⟨some S[i],by rw[c _ _ _ h,YJ hi],m,o,wp_mono w λf g q=>?_⟩
  cases f with
  |nx ZT=>exact cj S a c j l n (i+1) ZT g (by lia) q
  |ct ZT=>exact cj S a c j l n (i+1) ZT g () q
  |bk ZT=>exact q
  |rt u=>exact q
def hJ{b:List Z6}(e:Nat->Su->G->Prop)
  (i:∀n O g,e n O g->JC J d c O g X λk g=>JL k (lk (wpS J d b O g X λf g=>JN f (lk (λZT=>∃m,m<n/\e m ZT g)) (lk λf=>Q f g))) (lk (Q (.nx O) g))):∀(n:Nat) (O:Su) (g:G),e n O g->JH J d c b O g X Q:=by
 intro n
 induction n using Nat.strongRecOn with
 |_ n ih=>
  intro O g h;rw[aaS];refine wp_mono (i n O g h) λk g q=>?_;cases k
  .exact q
  .refine wp_mono q λf g q=>?_
   cases f with
   |nx ZT=>let⟨m,a,q⟩:=q;exact ih m a _ _ q
   |ct ZT=>let⟨m,a,q⟩:=q;exact ih m a _ _ q
   |bk ZT=>exact q
   |rt u=>exact q
end
def JT{b:Type}(o:Option b){A:Prop}{Q:b->Prop}(_:Lk A)(_:Lk Q):Prop:=match o with
 |none=>A
 |some a=>Q a
def tH{A:Prop}{Q:α->Prop}:JT none (lk A) (lk Q)=A:=propext YB
def tL{a:α}{A:Prop}{Q:α->Prop}:JT (some a) (lk A) (lk Q)=Q a:=propext YB
def bj{t:Tg}{b:List Z6}{Q:Fl->G->Prop}:JR J d t (.seq xs) i b O g X (lk Q)↔JT xs[i]? (lk (Q (.nx O) g)) (lk λu=>JK (Af t u O) (lk λc=>wpS J d b c g X λf g=>JN f (lk λZT=>JR J d t (.seq xs) (i+1) b ZT g X (lk Q)) (lk λf=>Q f g))):=by
 refine Iff.trans g8 ?_;constructor
 .rintro ⟨o,e,h⟩
  cases e;cases a:xs[i]? with
  |none=>rw[a]at h;exact h
  |some u=>
   rw[a]at h;let⟨c,j,h⟩:=h;refine bp.1 ⟨c,j,wp_mono h λf g q=>?_⟩;cases f<;>exact q
 .intro h
  refine⟨xs[i]?,rfl,?_⟩;cases a:xs[i]? with
  |none=>rw[a]at h;exact h
  |some u=>
   rw[a]at h;let⟨c,j,h⟩:=bp.2 h;refine⟨c,j,wp_mono h λf g q=>?_⟩;cases f<;>exact q
end
def AA(f:E->Su->Option U):List E->Su->Option (List U)
 |[],_=>some []
 |e::es,O=>match f e O with
  |some u=>match AA f es O with
   |some S=>some (u::S)
   |none=>none
  |none=>none
def Bd(x y:Option U):Option U:=match x with
 |some (.int i)=>match y with
  |some (.int j)=>some (.int (i+j))
  |_=>none
 |_=>none
def Bv(x y:Option U):Option U:=match x with
 |some (.int i)=>match y with
  |some (.int j)=>some (.int (i-j))
  |_=>none
 |_=>none
def tupP(x:Option (List U)):Option U:=match x with
 |some S=>match Nat.ble S.length 1000 with
  |true=>some (.ZY S)
  |false=>none
 |none=>none
def JU(x:Option U)(k:Int):Option U:=match x with
 |some (.ZY xs)=>Jb xs k
 |_=>none
def C4(o:Option (Option U)):Option U:=match o with
 |some o=>o
 |none=>none
def JV:Nat->E->Su->Option U
 |0,_,_=>none
 |n+1,e,O=>match e with
  |.L i=>C4 O[i]?
  |.ZW u=>some u
  |.ZY es=>tupP (AA (JV n) es O)
  |.ZS .add a b=>Bd (JV n a O) (JV n b O)
  |.ZS .sub a b=>Bv (JV n a O) (JV n b O)
  |.idx a (.ZW (.int k))=>JU (JV n a O) k
  |_=>none
section
variable{J:List Fn}{X:XP}{O:Su}
def pEs{f:E->Su->Option U}(a:∀e u (Q:U->G->Prop),f e O=some u->(JB J d e O g X Q↔Q u g)):∀(es:List E) (S:List U) (Q:List U->G->Prop),AA f es O=some S->(Au J d es O g X Q↔Q S g)
 |[],S,Q,h=>by cases h;exact nM
 |e::es,S,Q,h=>by
  cases he:f e O with
  |none=>simp![AA,he]at h;cases h
  |some u=>
   cases hs:AA f es O with
   |none=>simp![AA,he,hs]at h;cases h
   |some b=>
    simp![AA,he,hs]at h;cases h;exact lW.trans ((a e u _ he).trans (pEs a es b _ hs))
def sT{f:Option U->Option U->Option U}{a b:E}{x y:Option U}{u:U}{Q:U->G->Prop}(h:∀u (Q:U->G->Prop),x=some u->(JB J d a O g X Q↔Q u g))(e:∀u (Q:U->G->Prop),y=some u->(JB J d b O g X Q↔Q u g))(c:f x y=some u)(k:∀u,f x y=some u ->∃i j,x=some (.int i)/\y=some (.int j)/\IU op (.int i) (.int j)=some u):JB J d (.ZS op a b) O g X Q↔Q u g:=by
 let⟨i,j,n,m,l⟩:=k u c;refine rK.trans ((h _ _ n).trans ((e _ _ m).trans ?_));rw[tw,l,eG]
def pE:∀(n:Nat) (e:E) (u:U) (Q:U->G->Prop),JV n e O=some u->(JB J d e O g X Q↔Q u g)
 |0,_,_,_,h=>by cases h
 |n+1,e,u,Q,h=>by
  have ih:=pE n;cases e with
  |L i=>
   have h:C4 O[i]?=some u:=h;refine sV.trans ?_;cases hs:O[i]? with
   |none=>rw[hs]at h;cases h
   |some o=>rw[hs]at h;have h:o=some u:=h;subst h;exact YB
  |ZW v=>cases(show some v=some u from h);exact rH
  |ZY es=>
   have h:tupP (AA (JV n) es O)=some u:=h;cases hs:AA (JV n) es O with
   |none=>rw[hs]at h;cases h
   |some S=>
    rw[hs]at h;simp![tupP]at h;cases c:Nat.ble S.length 1000 with
    |true=>
     rw[c]at h;cases h;refine rm.trans ((pEs (λe u Q h=>ih e u Q h) es S _ hs).trans ?_);rw[fY (by have:=Nat.le_of_ble_eq_true c;lia),iq]
    |false=>rw[c]at h;cases h
  |ZS op a b=>
   cases op with
   |add=>
    have h:Bd (JV n a O) (JV n b O)=some u:=h;refine sT (f:=Bd) (λu Q h=>ih a u Q h) (λu Q h=>ih b u Q h) h λu h=>?_;unfold Bd at h;split at h
    .split at h
     .cases h;exact⟨_,_,‹_›,‹_›,rfl⟩
     .cases h
    .cases h
   |sub=>
    have h:Bv (JV n a O) (JV n b O)=some u:=h;refine sT (f:=Bv) (λu Q h=>ih a u Q h) (λu Q h=>ih b u Q h) h λu h=>?_;unfold Bv at h;split at h
    .split at h
     .cases h;exact⟨_,_,‹_›,‹_›,rfl⟩
     .cases h
    .cases h
   |_=>exact nomatch (show none=some u from h)
  |idx a b=>
   cases b with
   |ZW v=>
    cases v with
    |int k=>
     have h:JU (JV n a O) k=some u:=h;cases j:JV n a O with
     |none=>rw[j]at h;cases h
     |some x=>
      rw[j]at h;refine rB.trans ((ih a x _ j).trans (rH.trans ?_));cases x with
      |ZY xs=>
       have h:Jb xs k=some u:=h;show JK (Jb xs k) (lk _)↔_;rw[h,eG]
      |_=>cases h
    |_=>exact nomatch (show none=some u from h)
   |_=>exact nomatch (show none=some u from h)
  |_=>exact nomatch (show none=some u from h)
def JW(J:List Fn)(d:Nat)(e:E)(O:Su)(g:G)(X:XP)(Q:U->G->Prop):Prop:=JB J d e O g X Q
def JX(J:List Fn)(d:Nat)(a:List E)(O:Su)(g:G)(X:XP)(Q:List U->G->Prop):Prop:=Au J d a O g X Q
def p_E{e:E}:JB J d e O g X Q=JT (JV 8 e O) (lk (JW J d e O g X Q)) (lk λu=>Q u g):=propext (by
 cases h:JV 8 e O with
 |none=>exact YB
 |some u=>exact pE 8 e u Q h)
def p_Es{a:List E}{Q:List U->G->Prop}:Au J d a O g X Q=JT (AA (JV 8) a O) (lk (JX J d a O g X Q)) (lk λS=>Q S g):=propext (by
 cases h:AA (JV 8) a O with
 |none=>exact YB
 |some S=>exact pEs (λe u Q h=>pE 8 e u Q h) a S Q h)
def l7{a:Nat}{fr:List Nat}{t:Tg}{it:E}{b:List (Tg×E×List E)}{k v:E}:JW J d (.V5 a fr ((t,it,cs)::b) k v) O g X Q↔JF J d it O g X λi g=>JQ J d i 0 t cs b (.pair k v) [] (List.replicate a none++fr.map λj=>(O[j]?).getD none) g (λ_ _ _=>False) (lk λS g=>JK (dfold S []) <| lk λZ4=>Q (.ref g.length) (g++[.ZG Z4])):=acd
def lD{k v:E}:JW J d (.pair k v) O g X Q↔JB J d k O g X λx g=>JB J d v O g X λy g=>JK (keyOf x) <| lk λ_=>Q (.ZY [x,y]) g:=abm
def lK{a:Nat}{fr:List Nat}{t:Tg}{it:E}{b:List (Tg×E×List E)}:JW J d (.comp a fr ((t,it,cs)::b) elt) O g X Q↔JF J d it O g X λi g=>JQ J d i 0 t cs b elt [] (List.replicate a none++fr.map λj=>(O[j]?).getD none) g (λ_ _ _=>False) (lk λS g=>S.length<=Ab/\Q (.ref g.length) (g++[.Z5 S])):=ab3
def kJ:JW J d .V6 O g X Q↔Q (.ref g.length) (g++[.ZG []]):=abr
def aaN:JW J d (.L i) O g X Q↔JK O[i]? (lk λo=>JK o (lk λu=>Q u g)):=sV
end
section
variable{O:Su}
def qX{f:E->Su->Option U}:AA f [] O=some []:=rfl
def pR{f:E->Su->Option U}{e:E}{a:List E}:AA f (e::a) O=match f e O with
  |some u=>match AA f a O with
   |some S=>some (u::S)
   |none=>none
  |none=>none:=rfl
def qo:JV (n+1) (.L i) O=C4 O[i]?:=rfl
def rR:JV (n+1) (.ZW u) O=some u:=rfl
def qD{a:List E}:JV (n+1) (.ZY a) O=tupP (AA (JV n) a O):=rfl
def sW{a b:E}:JV (n+1) (.ZS .add a b) O=Bd (JV n a O) (JV n b O):=rfl
def qh{a b:E}:JV (n+1) (.ZS .sub a b) O=Bv (JV n a O) (JV n b O):=rfl
def rE{a:E}{k:Int}:JV (n+1) (.idx a (.ZW (.int k))) O=JU (JV n a O) k:=rfl
def nY{o:Option U}:C4 (some o)=o:=rfl
def pC{a:U}:tupP (some [a])=some (.ZY [a]):=rfl
def nr{a b:U}:tupP (some [a,b])=some (.ZY [a,b]):=rfl
def oK{a b c:U}:tupP (some [a,b,c])=some (.ZY [a,b,c]):=rfl
def mY{a b c d:U}:tupP (some [a,b,c,d])=some (.ZY [a,b,c,d]):=rfl
def nT{a b c d e:U}:tupP (some [a,b,c,d,e])=some (.ZY [a,b,c,d,e]):=rfl
def qg{a b c d e f:U}:tupP (some [a,b,c,d,e,f])=some (.ZY [a,b,c,d,e,f]):=rfl
def oZ{a b c d e f g:U}:tupP (some [a,b,c,d,e,f,g])=some (.ZY [a,b,c,d,e,f,g]):=rfl
def mw{a b c d e f g h:U}:tupP (some [a,b,c,d,e,f,g,h])=some (.ZY [a,b,c,d,e,f,g,h]):=rfl
def pO:tupP none=none:=rfl
def n8{i j:Int}:Bd (some (.int i)) (some (.int j))=some (.int (i+j)):=rfl
def pM{i j:Int}:Bv (some (.int i)) (some (.int j))=some (.int (i-j)):=rfl
def pY{y:Option U}:Bd none y=none:=rfl
def nS{y:Option U}:Bv none y=none:=rfl
def nP{i:Int}:Bd (some (.int i)) none=none:=rfl
def oJ{i:Int}:Bv (some (.int i)) none=none:=rfl
def pI{y:Option U}:Bd (some (.ref i)) y=none:=rfl
def qY{k:Int}:JU (some (.ZY xs)) k=Jb xs k:=rfl
def rF{k:Int}:JU (some (.ref n)) k=none:=rfl
def sG{k:Int}:JU (some (.Zy xs)) k=none:=rfl
def rY{c:Nat}{k:Int}:JU (some (.xn c xs)) k=none:=rfl
def sI{k:Int}:JU none k=none:=rfl
def rT{a b:E}:JV (n+1) (.ZS .mul a b) O=none:=rfl
def oC{a b:E}:JV (n+1) (.ZS .fdiv a b) O=none:=rfl
def rp{a b:E}:JV (n+1) (.ZS .mod a b) O=none:=rfl
def qL{a b:E}:JV (n+1) (.ZS .pow a b) O=none:=rfl
def sm{o:Cp}{a b:E}:JV (n+1) (.cmp o a b) O=none:=rfl
def kH{o q:Cp}{a b:E}:JV (n+1) (.chain o q a b c) O=none:=rfl
def ql{a b:E}:JV (n+1) (.and a b) O=none:=rfl
def tD{a b:E}:JV (n+1) (.or a b) O=none:=rfl
def rW{a:E}:JV (n+1) (.not a) O=none:=rfl
def rg{a:E}:JV (n+1) (.neg a) O=none:=rfl
def rS{a b:E}:JV (n+1) (.ite c a b) O=none:=rfl
def rj{a:List E}:JV (n+1) (.Z5 a) O=none:=rfl
def qw{a:E}{lo hi:Option E}:JV (n+1) (.W8 a lo hi) O=none:=rfl
def rC{a:E}:JV (n+1) (.rev a) O=none:=rfl
def nB{f:Nat}{a:List E}:JV (n+1) (.call f a) O=none:=rfl
def rZ{a:E}{b:List Nat}:JV (n+1) (.fld a j b) O=none:=rfl
def ll{f:Nat}{a ks:List E}:JV (n+1) (.SU f a ks pm) O=none:=rfl
def oy{c f:Nat}{a ks:List E}:JV (n+1) (.make c f a ks pm) O=none:=rfl
def qZ{op:Cp}{a b:E}:JV (n+1) (.oeq op tb a b) O=none:=rfl
def ni{a:E}{b ks:List E}:JV (n+1) (.SS a j tb b ks) O=none:=rfl
def pW{c:Bool}{a:E}:JV (n+1) (.Sd c a) O=none:=rfl
def tu{b:Bi}{a:List E}:JV (n+1) (.bi b a) O=none:=rfl
def rO{a:E}{t:Ty}:JV (n+1) (.Yw a t) O=none:=rfl
def rX{o v:E}:JV (n+1) (.app o v) O=none:=rfl
def mz{o v:E}:JV (n+1) (.VI o v) O=none:=rfl
def qP{o v:E}:JV (n+1) (.ext o v) O=none:=rfl
def sv{o:E}:JV (n+1) (.pop o) O=none:=rfl
def mv  : JV (n+1) .V6 O=none:=rfl
def nh{fr:List Nat}{e:E}:JV (n+1) (.comp m fr gs e) O=none:=rfl
def nZ{ks:List PySem.Str}{a:List E}:JV (n+1) (.Sb ks a) O=none:=rfl
def qJ{o k x:E}:JV (n+1) (.dgt o k x) O=none:=rfl
def pG{k v:E}:JV (n+1) (.pair k v) O=none:=rfl
def nu{fr:List Nat}{k v:E}:JV (n+1) (.V5 m fr gs k v) O=none:=rfl
def qu{a:E}:JV (n+1) (.idx a (.L i)) O=none:=rfl
def sh{a:E}{f:Nat}{b:List E}:JV (n+1) (.idx a (.call f b)) O=none:=rfl
def rL{a:E}{b:List E}:JV (n+1) (.idx a (.ZY b)) O=none:=rfl
def sH{a b:E}{o:Op}:JV (n+1) (.idx a (.ZS o b c)) O=none:=rfl
def se{a:E}{s:PySem.Str}:JV (n+1) (.idx a (.ZW (.str s))) O=none:=rfl
def qt{a b:E}:JV (n+1) (.idx a (.idx b c)) O=none:=rfl
def qi{a b:E}:JV (n+1) (.idx a (.neg b)) O=none:=rfl
end
section
variable{J:List Fn}{X:XP}{O:Su}{QF:Fl->G->Prop}{QB:Bool->G->Prop}{QI:Iter->G->Prop}{QL:List U->G->Prop}{QO:Option Int->G->Prop}{cp:Cp}{cq:Cp}{a:E}{b:E}{e:E}{it:E}{o:E}{v:E}{k:Nat}{f:Nat}{cc:Nat}{cs:List Nat}{es:List E}{ks:List E}{p:Nat×List (Nat ⊕ U)}{x:U}{w:U}{ws:List U}{lo:Option E}{hi:Option E}{l:Option Int}{h:Option Int}{t:Tg}{ty:Ty}{z:Bool}{n:Int}{s:Z6}{ss:List Z6}{A:List Z6}{B:List Z6}{ao:Op}{st:Su}{bb:Bi}{Xp:Iter}{pq:Iter×G}{g2:G}{nn:Nat}{ces:List E}{os:Option U}
def KV{b:Type}(g:G)(Q:b->G->Prop)(a:b):Prop:=Q a g
theorem KV_s{Q:α->G->Prop}{a:α}:JK (some a) (lk (KV g Q))=Q a g:=propext YB
def adQ{Q:α->G->Prop}{a:α}{A:Prop}:JT (some a) (lk A) (lk (KV g Q))=Q a g:=propext YB
theorem KV_n{Q:α->G->Prop}{A:Prop}:JT none (lk A) (lk (KV g Q))=A:=propext YB
def tN{Q:α->G->Prop}{a:α}:KV g Q a=Q a g:=propext YB
def k_E  : JB J d e O g X Q=JT (JV 8 e O) (lk (JW J d e O g X Q)) (lk (KV g Q)):=p_E
def tq  : Au J d es O g X QL=JT (AA (JV 8) es O) (lk (JX J d es O g X QL)) (lk (KV g QL)):=p_Es
def KB(g:G)(Q:U->G->Prop)(z:Bool):Prop:=Q (.bl z) g
def adO  : JK (some z) (lk (KB g Q))=(Q (.bl z) g):=propext YB
def tK  : KB g Q z=(Q (.bl z) g):=propext YB
def Kl2(u:U)(a:List U->G->Prop)(S:List U)(g:G):Prop:=a (u::S) g
def sY  : Kl2 u QL S g=(QL (u::S) g):=propext YB
def Kl1(J:List Fn)(d:Nat)(a:List E)(O:Su)(X:XP)(b:List U->G->Prop)(u:U)(g:G):Prop:=Au J d a O g X (Kl2 u b)
def sD  : Kl1 J d es O X QL u g=(Au J d es O g X (Kl2 u QL)):=propext YB
def abN  : JX J d [] O g X QL↔QL [] g:=nM
def mi  : JX J d (e::es) O g X QL↔JB J d e O g X (Kl1 J d es O X QL):=lW
def Du(op:Op)(x:U)(X:XP)(Q:U->G->Prop)(y:U)(g:G):Prop:=ob op x y g X (lk Q)
def lX  : Du op x X Q y g=(ob op x y g X (lk Q)):=propext YB
def E7(J:List Fn)(d:Nat)(op:Op)(b:E)(O:Su)(X:XP)(Q:U->G->Prop)(x:U)(g:G):Prop:=JB J d b O g X (Du op x X Q)
def mh  : E7 J d op b O X Q x g=(JB J d b O g X (Du op x X Q)):=propext YB
def qF  : JW J d (.ZS op a b) O g X Q↔JB J d a O g X (E7 J d op b O X Q):=rK
def tj{i:Int}{X:XP}:ob op (.int i) y g X (lk Q)=JK (IU op (.int i) y) (lk (KV g Q)):=tw
def BS(a:Cp)(x:U)(Q:U->G->Prop)(y:U)(g:G):Prop:=JK (I9 a x y g) (lk (KB g Q))
def lV  : BS cp x Q y g=(JK (I9 cp x y g) (lk (KB g Q))):=propext YB
def Fk(J:List Fn)(d:Nat)(a:Cp)(b:E)(O:Su)(X:XP)(Q:U->G->Prop)(x:U)(g:G):Prop:=JB J d b O g X (BS a x Q)
def lP  : Fk J d cp b O X Q x g=(JB J d b O g X (BS cp x Q)):=propext YB
def sX  : JW J d (.cmp cp a b) O g X Q↔JB J d a O g X (Fk J d cp b O X Q):=adf
def C3(J:List Fn)(d:Nat)(a:Cp)(y:U)(c:E)(O:Su)(g:G)(X:XP)(Q:U->G->Prop)(z:Bool):Prop:=JL z (lk (JB J d c O g X (BS a y Q))) (lk (Q (.bl false) g))
def abV  : JK (some z) (lk (C3 J d cq y c O g X Q))=(JL z (lk (JB J d c O g X (BS cq y Q))) (lk (Q (.bl false) g))):=propext YB
def pL  : C3 J d cq y c O g X Q z=(JL z (lk (JB J d c O g X (BS cq y Q))) (lk (Q (.bl false) g))):=propext YB
def DV(J:List Fn)(d:Nat)(b:Cp)(a:Cp)(x:U)(c:E)(O:Su)(X:XP)(Q:U->G->Prop)(y:U)(g:G):Prop:=JK (I9 b x y g) (lk (C3 J d a y c O g X Q))
def mR  : DV J d cp cq x c O X Q y g=(JK (I9 cp x y g) (lk (C3 J d cq y c O g X Q))):=propext YB
def FH(J:List Fn)(d:Nat)(e:Cp)(a:Cp)(b:E)(c:E)(O:Su)(X:XP)(Q:U->G->Prop)(x:U)(g:G):Prop:=JB J d b O g X (DV J d e a x c O X Q)
def nU  : FH J d cp cq b c O X Q x g=(JB J d b O g X (DV J d cp cq x c O X Q)):=propext YB
def l6  : JW J d (.chain cp cq a b c) O g X Q↔JB J d a O g X (FH J d cp cq b c O X Q):=zu
def F6(J:List Fn)(d:Nat)(b:E)(O:Su)(X:XP)(Q:U->G->Prop)(x:U)(g:G):Prop:=JK (match x with|.bl z=>some z|_=>none) <| lk λz=>JL z (lk (JB J d b O g X Q)) (lk (Q (.bl false) g))
def nF{J:List Fn}{b:E}{O:Su}{X:XP}{z:Bool}:F6 J d b O X Q (.bl z) g=JL z (lk (JB J d b O g X Q)) (lk (Q (.bl false) g)):=propext YB
def qz  : JW J d (.and a b) O g X Q↔JB J d a O g X (F6 J d b O X Q):=ada
def Kor(J:List Fn)(d:Nat)(b:E)(O:Su)(X:XP)(Q:U->G->Prop)(x:U)(g:G):Prop:=JK (match x with|.bl z=>some z|_=>none) <| lk λz=>JL z (lk (Q (.bl true) g)) (lk (JB J d b O g X Q))
def adA{J:List Fn}{b:E}{O:Su}{X:XP}{z:Bool}:Kor J d b O X Q (.bl z) g=JL z (lk (Q (.bl true) g)) (lk (JB J d b O g X Q)):=propext YB
def k_or  : JW J d (.or a b) O g X Q↔JB J d a O g X (Kor J d b O X Q):=e_or
def Knt(g:G)(Q:U->G->Prop)(z:Bool):Prop:=Q (.bl !z) g
def ady  : JK (some z) (lk (Knt g Q))=(Q (.bl !z) g):=propext YB
def sA  : Knt g Q z=(Q (.bl !z) g):=propext YB
def Gj(Q:U->G->Prop)(x:U)(g:G):Prop:=JK (Ja x g) (lk (Knt g Q))
def oH  : Gj Q x g=(JK (Ja x g) (lk (Knt g Q))):=propext YB
def rN  : JW J d (.not a) O g X Q↔JB J d a O g X (Gj Q):=adb
def F1(Q:U->G->Prop)(x:U)(g:G):Prop:=JK (match x with|.int i=>some i|_=>none) <| lk λi=>Q (.int (-i)) g
def ou{i:Int}:F1 Q (.int i) g=Q (.int (-i)) g:=propext YB
def sM  : JW J d (.neg a) O g X Q↔JB J d a O g X (F1 Q):=acY
def FE(Q:U->G->Prop)(S:List U)(g:G):Prop:=JL (AZ S.length) (lk (Q (.ZY S) g)) (lk False)
def nC  : FE Q S g=(JL (AZ S.length) (lk (Q (.ZY S) g)) (lk False)):=propext YB
def sF  : JW J d (.ZY es) O g X Q↔Au J d es O g X (FE Q):=rm
def F7(Q:U->G->Prop)(S:List U)(g:G):Prop:=JL (AZ S.length) (lk (Q (.ref g.length) (g++[.Z5 S]))) (lk False)
def nj  : F7 Q S g=(JL (AZ S.length) (lk (Q (.ref g.length) (g++[.Z5 S]))) (lk False)):=propext YB
def rG  : JW J d (.Z5 es) O g X Q↔Au J d es O g X (F7 Q):=acR
def Ec(i:Int)(g:G)(Q:U->G->Prop)(xs:List U):Prop:=JK (Jb xs i) (lk (KV g Q))
def aaJ{i:Int}:JK (some xs) (lk (Ec i g Q))=JK (Jb xs i) (lk (KV g Q)):=propext YB
def mm{i:Int}:Ec i g Q xs=JK (Jb xs i) (lk (KV g Q)):=propext YB
def Cj(x:U)(Q:U->G->Prop)(y:U)(g:G):Prop:=match y with|.ZY S=>JK ((AI (.ZY S) x g).bind id) <| lk λz=>Q z g|.str k=>JK ((IW x g).bind λZ4=>BH Z4 k) <| lk λz=>Q z g|y=>JK (match y with|.int i=>some i|_=>none) <| lk λi=>JK (items x g) <| lk λxs=>JK (Jb xs i) <| lk λz=>Q z g
def n5{x:U}{i:Int}:Cj x Q (.int i) g=JK (items x g) (lk (Ec i g Q)):=propext YB
def aa7{x:U}:Cj x Q (.ZY S) g=JK ((AI (.ZY S) x g).bind id) (lk (KV g Q)):=propext YB
def ab1{x:U}{k:PySem.Str}:Cj x Q (.str k) g=JK ((IW x g).bind λZ4=>BH Z4 k) (lk (KV g Q)):=propext YB
def FT(J:List Fn)(d:Nat)(b:E)(O:Su)(X:XP)(Q:U->G->Prop)(x:U)(g:G):Prop:=JB J d b O g X (Cj x Q)
def mq  : FT J d b O X Q x g=(JB J d b O g X (Cj x Q)):=propext YB
def sP  : JW J d (.idx a b) O g X Q↔JB J d a O g X (FT J d b O X Q):=rB
def DZ(x:U)(l:Option Int)(X:XP)(Q:U->G->Prop)(h:Option Int)(g:G):Prop:=hk (CU x l h g) X (lk Q)
def nR  : DZ x l X Q h g=(hk (CU x l h g) X (lk Q)):=propext YB
def D3(J:List Fn)(d:Nat)(x:U)(hi:Option E)(O:Su)(X:XP)(Q:U->G->Prop)(l:Option Int)(g:G):Prop:=JD J d hi O g X (DZ x l X Q)
def pd  : D3 J d x hi O X Q l g=(JD J d hi O g X (DZ x l X Q)):=propext YB
def F8(J:List Fn)(d:Nat)(lo:Option E)(hi:Option E)(O:Su)(X:XP)(Q:U->G->Prop)(x:U)(g:G):Prop:=JD J d lo O g X (D3 J d x hi O X Q)
def oz  : F8 J d lo hi O X Q x g=(JD J d lo O g X (D3 J d x hi O X Q)):=propext YB
def sO  : JW J d (.W8 a lo hi) O g X Q↔JB J d a O g X (F8 J d lo hi O X Q):=adn
def Fp(J:List Fn)(d:Nat)(f:Nat)(X:XP)(Q:U->G->Prop)(S:List U)(g:G):Prop:=JP J d f S g X (lk Q)
def lB  : Fp J d f X Q S g=(JP J d f S g X (lk Q)):=propext YB
def oq  : JW J d (.call f es) O g X Q↔Au J d es O g nX (Fp J d f X Q):=pD
def CV(g:G)(X:XP)(Q:U->G->Prop)(k:Nat):Prop:=hk (Br k g) X (lk Q)
def ab7  : JK (some k) (lk (CV g X Q))=(hk (Br k g) X (lk Q)):=propext YB
def oY  : CV g X Q k=(hk (Br k g) X (lk Q)):=propext YB
def Ft(X:XP)(Q:U->G->Prop)(x:U)(g:G):Prop:=JK (Jf x g) (lk (CV g X Q))
def oR  : Ft X Q x g=(JK (Jf x g) (lk (CV g X Q))):=propext YB
def sR  : JW J d (.pop o) O g X Q↔JB J d o O g X (Ft X Q):=adh
def C1(k:Nat)(X:XP)(Q:U->G->Prop)(y:U)(g:G):Prop:=hk (Bn k y g) X (lk Q)
def nD  : C1 k X Q y g=(hk (Bn k y g) X (lk Q)):=propext YB
def Df(J:List Fn)(d:Nat)(v:E)(O:Su)(g:G)(X:XP)(Q:U->G->Prop)(k:Nat):Prop:=JB J d v O g X (C1 k X Q)
def abv  : JK (some k) (lk (Df J d v O g X Q))=(JB J d v O g X (C1 k X Q)):=propext YB
def oG  : Df J d v O g X Q k=(JB J d v O g X (C1 k X Q)):=propext YB
def FD(J:List Fn)(d:Nat)(v:E)(O:Su)(X:XP)(Q:U->G->Prop)(x:U)(g:G):Prop:=JK (Jf x g) (lk (Df J d v O g X Q))
def m8  : FD J d v O X Q x g=(JK (Jf x g) (lk (Df J d v O g X Q))):=propext YB
def qV  : JW J d (.app o v) O g X Q↔JB J d o O g X (FD J d v O X Q):=acJ
def C9(k:Nat)(X:XP)(Q:U->G->Prop)(y:U)(g:G):Prop:=hk (BF k y g) X (lk Q)
def pS  : C9 k X Q y g=(hk (BF k y g) X (lk Q)):=propext YB
def C7(J:List Fn)(d:Nat)(v:E)(O:Su)(g:G)(X:XP)(Q:U->G->Prop)(k:Nat):Prop:=JB J d v O g X (C9 k X Q)
def aa6  : JK (some k) (lk (C7 J d v O g X Q))=(JB J d v O g X (C9 k X Q)):=propext YB
def nI  : C7 J d v O g X Q k=(JB J d v O g X (C9 k X Q)):=propext YB
def FJ(J:List Fn)(d:Nat)(v:E)(O:Su)(X:XP)(Q:U->G->Prop)(x:U)(g:G):Prop:=JK (Jf x g) (lk (C7 J d v O g X Q))
def nH  : FJ J d v O X Q x g=(JK (Jf x g) (lk (C7 J d v O g X Q))):=propext YB
def rM  : JW J d (.ext o v) O g X Q↔JB J d o O g X (FJ J d v O X Q):=adw
def C6(k:Nat)(X:XP)(Q:U->G->Prop)(y:U)(g:G):Prop:=hk (Bz k y g) X (lk Q)
def mZ  : C6 k X Q y g=(hk (Bz k y g) X (lk Q)):=propext YB
def De(J:List Fn)(d:Nat)(v:E)(O:Su)(g:G)(X:XP)(Q:U->G->Prop)(k:Nat):Prop:=JB J d v O g X (C6 k X Q)
def acH  : JK (some k) (lk (De J d v O g X Q))=(JB J d v O g X (C6 k X Q)):=propext YB
def nA  : De J d v O g X Q k=(JB J d v O g X (C6 k X Q)):=propext YB
def Gh(J:List Fn)(d:Nat)(v:E)(O:Su)(X:XP)(Q:U->G->Prop)(x:U)(g:G):Prop:=JK (Jf x g) (lk (De J d v O g X Q))
def nv  : Gh J d v O X Q x g=(JK (Jf x g) (lk (De J d v O g X Q))):=propext YB
def oO  : JW J d (.VI o v) O g X Q↔JB J d o O g X (Gh J d v O X Q):=acz
def Kbi(a:Bi)(X:XP)(Q:U->G->Prop)(S:List U)(g:G):Prop:=hk (Je a S g) X (lk Q)
def qT  : Kbi bb X Q S g=(hk (Je bb S g) X (lk Q)):=propext YB
def tF  : JW J d (.bi bb es) O g X Q↔Au J d es O g X (Kbi bb X Q):=e_bi
def Fw(a:Ty)(Q:U->G->Prop)(x:U)(g:G):Prop:=JK (Ay a x g) (lk (KB g Q))
def nt  : Fw ty Q x g=(JK (Ay ty x g) (lk (KB g Q))):=propext YB
def su  : JW J d (.Yw a ty) O g X Q↔JB J d a O g X (Fw ty Q):=ads
def Ko(Q:Option Int->G->Prop)(x:U)(g:G):Prop:=JK (match x with|.int i=>some i|_=>none) <| lk λi=>Q (some i) g
def tz{Q:Option Int->G->Prop}{i:Int}:Ko Q (.int i) g=Q (some i) g:=propext YB
def kO  : JD J d (some e) O g X QO↔JB J d e O g X (Ko QO):=acA
def Ktr(a:Bool->G->Prop)(x:U)(g:G):Prop:=JK (Ja x g) (lk (KV g a))
def qr  : Ktr QB x g=(JK (Ja x g) (lk (KV g QB))):=propext YB
def Kta(J:List Fn)(d:Nat)(b:E)(O:Su)(X:XP)(a:Bool->G->Prop)(z:Bool)(g:G):Prop:=JL z (lk (JC J d b O g X a)) (lk (a false g))
def rP  : Kta J d b O X QB z g=(JL z (lk (JC J d b O g X QB)) (lk (QB false g))):=propext YB
def Kto(J:List Fn)(d:Nat)(b:E)(O:Su)(X:XP)(a:Bool->G->Prop)(z:Bool)(g:G):Prop:=JL z (lk (a true g)) (lk (JC J d b O g X a))
def rD  : Kto J d b O X QB z g=(JL z (lk (QB true g)) (lk (JC J d b O g X QB))):=propext YB
def Ktn(a:Bool->G->Prop)(z:Bool)(g:G):Prop:=a (!z) g
def rV  : Ktn QB z g=(QB (!z) g):=propext YB
def oU  : JC J d (.and a b) O g X QB↔JC J d a O g X (Kta J d b O X QB):=adp
def sN  : JC J d (.or a b) O g X QB↔JC J d a O g X (Kto J d b O X QB):=t_or
def qc  : JC J d (.not a) O g X QB↔JC J d a O g X (Ktn QB):=acW
def nO  : JC J d (.L i) O g X QB↔JB J d (.L i) O g X (Ktr QB):=t_e rfl
def acr  : JC J d (.ZW u) O g X QB↔JB J d (.ZW u) O g X (Ktr QB):=t_e rfl
def pT  : JC J d (.cmp cp a b) O g X QB↔JB J d (.cmp cp a b) O g X (Ktr QB):=t_e rfl
def xu  : JC J d (.chain cp cq a b c) O g X QB↔JB J d (.chain cp cq a b c) O g X (Ktr QB):=t_e rfl
def mf  : JC J d (.call f es) O g X QB↔JB J d (.call f es) O g X (Ktr QB):=t_e rfl
def ade  : JC J d (.bi bb es) O g X QB↔JB J d (.bi bb es) O g X (Ktr QB):=t_e rfl
def ot  : JC J d (.Yw a ty) O g X QB↔JB J d (.Yw a ty) O g X (Ktr QB):=t_e rfl
def acg  : JC J d (.idx a b) O g X QB↔JB J d (.idx a b) O g X (Ktr QB):=t_e rfl
def aa5  : JC J d (.ZS op a b) O g X QB↔JB J d (.ZS op a b) O g X (Ktr QB):=t_e rfl
def abM  : JC J d (.W8 a lo hi) O g X QB↔JB J d (.W8 a lo hi) O g X (Ktr QB):=t_e rfl
def aay  : JC J d (.ZY es) O g X QB↔JB J d (.ZY es) O g X (Ktr QB):=t_e rfl
def aak  : JC J d (.Z5 es) O g X QB↔JB J d (.Z5 es) O g X (Ktr QB):=t_e rfl
def zx{J:List Fn}{X:XP}{O:Su}{fr:List Nat}{e:E}{a:Bool->G->Prop}:JC J d (.comp m fr gs e) O g X a↔JB J d (.comp m fr gs e) O g X (Ktr a):=t_e rfl
def Kac(J:List Fn)(d:Nat)(b:List E)(O:Su)(X:XP)(a:Bool->G->Prop)(z:Bool)(g:G):Prop:=JL z (lk (JE J d b O g X a)) (lk (a false g))
def sQ  : Kac J d es O X QB z g=(JL z (lk (JE J d es O g X QB)) (lk (QB false g))):=propext YB
def l0  : JE J d (c::es) O g X QB↔JC J d c O g X (Kac J d es O X QB):=abe
def F3(Q:Iter->G->Prop)(x:U)(g:G):Prop:=JK (match x with|.int i=>some i|_=>none) <| lk λj=>JL (Al j) (lk (Q (.YU 0 j.toNat) g)) (lk False)
def mV{Q:Iter->G->Prop}{j:Int}:F3 Q (.int j) g=JL (Al j) (lk (Q (.YU 0 j.toNat) g)) (lk False):=propext YB
def lY  : JF J d (.X3 a) O g X QI↔JB J d a O g X (F3 QI):=abp
def Eb(u:U)(Q:Iter->G->Prop)(w:U)(g:G):Prop:=JK (match u with|.int i=>some i|_=>none) <| lk λi=>JK (match w with|.int i=>some i|_=>none) <| lk λj=>JL (Al i&&Al j) (lk (Q (.YU i (j-i).toNat) g)) (lk False)
def qe{Q:Iter->G->Prop}{i j:Int}:Eb (.int i) Q (.int j) g=JL (Al i&&Al j) (lk (Q (.YU i (j-i).toNat) g)) (lk False):=propext YB
def FU(J:List Fn)(d:Nat)(b:E)(O:Su)(X:XP)(a:Iter->G->Prop)(u:U)(g:G):Prop:=JB J d b O g X (Eb u a)
def nk  : FU J d b O X QI u g=(JB J d b O g X (Eb u QI)):=propext YB
def lG  : JF J d (.WI a b) O g X QI↔JB J d a O g X (FU J d b O X QI):=abR
def C2(Q:Iter->G->Prop)(p:Iter×G):Prop:=Q p.1 p.2
def aal{Q:Iter->G->Prop}{i:Iter}:JK (some (i,g)) (lk (C2 Q))=Q i g:=propext YB
def ny{Q:Iter->G->Prop}{i:Iter}:C2 Q (i,g)=Q i g:=propext YB
def Kit(a:Iter->G->Prop)(u:U)(g:G):Prop:=JK (B0 u g) (lk (C2 a))
def qW  : Kit QI u g=(JK (B0 u g) (lk (C2 QI))):=propext YB
def nN  : JF J d (.L i) O g X QI↔JB J d (.L i) O g X (Kit QI):=i_e rfl
def lL  : JF J d (.call f es) O g X QI↔JB J d (.call f es) O g X (Kit QI):=i_e rfl
def rQ  : JF J d (.bi bb es) O g X QI↔JB J d (.bi bb es) O g X (Kit QI):=i_e rfl
def oP  : JF J d (.idx a b) O g X QI↔JB J d (.idx a b) O g X (Kit QI):=i_e rfl
def aa0  : JF J d (.W8 a lo hi) O g X QI↔JB J d (.W8 a lo hi) O g X (Kit QI):=i_e rfl
def pP  : JF J d (.ZY es) O g X QI↔JB J d (.ZY es) O g X (Kit QI):=i_e rfl
def aaH  : JF J d (.Z5 es) O g X QI↔JB J d (.Z5 es) O g X (Kit QI):=i_e rfl
def yS{J:List Fn}{X:XP}{O:Su}{fr:List Nat}{e:E}{a:Iter->G->Prop}:JF J d (.comp m fr gs e) O g X a↔JB J d (.comp m fr gs e) O g X (Kit a):=i_e rfl
def Cn(J:List Fn)(d:Nat)(a:List Z6)(X:XP)(Q:Fl->G->Prop)(f:Fl)(g:G):Prop:=JM f (lk (λZT=>wpS J d a ZT g X Q)) (lk λf=>Q f g)
def bE  : Cn J d ss X QF (.nx O) g=(wpS J d ss O g X QF):=propext YB
def kP  : Cn J d ss X QF (.rt u) g=(QF (.rt u) g):=propext YB
def ze  : Cn J d ss X QF (.bk O) g=(QF (.bk O) g):=propext YB
def yT  : Cn J d ss X QF (.ct O) g=(QF (.ct O) g):=propext YB
def lC  : wpS J d (s::ss) O g X QF↔JG J d s O g X (Cn J d ss X QF):=abh
def FG(a:Fl->G->Prop)(u:U)(g:G):Prop:=a (.rt u) g
def pk  : FG QF u g=(QF (.rt u) g):=propext YB
def m7  : JG J d (.ret e) O g X QF↔JB J d e O g X (FG QF):=ac5
def CT(g:G)(a:Fl->G->Prop)(st:Su):Prop:=a (.nx st) g
def aax  : JK (some st) (lk (CT g QF))=(QF (.nx st) g):=propext YB
def nq  : CT g QF st=(QF (.nx st) g):=propext YB
def Kst(t:Tg)(O:Su)(a:Fl->G->Prop)(u:U)(g:G):Prop:=JK (Af t (Ji t u g) O) (lk (CT g a))
def qv  : Kst t O QF u g=(JK (Af t (Ji t u g) O) (lk (CT g QF))):=propext YB
def oi  : JG J d (.set t e) O g X QF↔JB J d e O g X (Kst t O QF):=abL
def DX(u:U)(x:U)(O:Su)(X:XP)(a:Fl->G->Prop)(y:U)(g:G):Prop:=hk (subAt x y u O g) X (lk a)
def nW  : DX u x O X QF y g=(hk (subAt x y u O g) X (lk QF)):=propext YB
def Ea(J:List Fn)(d:Nat)(u:U)(b:E)(O:Su)(X:XP)(a:Fl->G->Prop)(x:U)(g:G):Prop:=JB J d b O g X (DX u x O X a)
def oV  : Ea J d u b O X QF x g=(JB J d b O g X (DX u x O X QF)):=propext YB
def FQ(J:List Fn)(d:Nat)(o:E)(b:E)(O:Su)(X:XP)(a:Fl->G->Prop)(u:U)(g:G):Prop:=JB J d o O g X (Ea J d u b O X a)
def pN  : FQ J d o b O X QF u g=(JB J d o O g X (Ea J d u b O X QF)):=propext YB
def pJ  : JG J d (.sub o b e) O g X QF↔JB J d e O g X (FQ J d o b O X QF):=ab8
def Ef(x:U)(O:Su)(X:XP)(a:Fl->G->Prop)(y:U)(g:G):Prop:=hk (Bb x y O g) X (lk a)
def oQ  : Ef x O X QF y g=(hk (Bb x y O g) X (lk QF)):=propext YB
def Ga(J:List Fn)(d:Nat)(b:E)(O:Su)(X:XP)(a:Fl->G->Prop)(x:U)(g:G):Prop:=JB J d b O g X (Ef x O X a)
def pB  : Ga J d b O X QF x g=(JB J d b O g X (Ef x O X QF)):=propext YB
def oN  : JG J d (.del o b) O g X QF↔JB J d o O g X (Ga J d b O X QF):=abb
def Kxp(O:Su)(a:Fl->G->Prop)(u:U)(g:G):Prop:=a (.nx O) g
def qy  : Kxp O QF u g=(QF (.nx O) g):=propext YB
def ph  : JG J d (.exp e) O g X QF↔JB J d e O g X (Kxp O QF):=adD
def Kif(J:List Fn)(d:Nat)(A:List Z6)(B:List Z6)(O:Su)(X:XP)(a:Fl->G->Prop)(z:Bool)(g:G):Prop:=JL z (lk (wpS J d A O g X a)) (lk (wpS J d B O g X a))
def ik  : Kif J d A B O X QF z g=(JL z (lk (wpS J d A O g X QF)) (lk (wpS J d B O g X QF))):=propext YB
def nJ  : JG J d (.Zv c A B) O g X QF↔JC J d c O g X (Kif J d A B O X QF):=abZ
def FW(J:List Fn)(d:Nat)(t:Tg)(A:List Z6)(O:Su)(X:XP)(b:Fl->G->Prop)(a:Iter)(g:G):Prop:=JR J d t a 0 A O g X (lk b)
def om  : FW J d t A O X QF Xp g=(JR J d t Xp 0 A O g X (lk QF)):=propext YB
def pK  : JG J d (.for t it A) O g X QF↔JF J d it O g X (FW J d t A O X QF):=ab9
def Kfn(Q:U->G->Prop)(f:Fl)(g:G):Prop:=JO f (lk λu=>Q u g)
def eS:Kfn Q (.rt u) g=Q u g:=propext YB
def oA{O:Su}:Kfn Q (.nx O) g=Q .ZJ g:=propext YB
def ag{J:List Fn}{X:XP}{f:Nat}{F:Fn}(b:J[f]?=some F)(a:S.length=F.np)(h:wpS J d F.body (S.map some++List.replicate (F.ns-S.length) none) g X (Kfn Q)):JA J (d+1) f S g X Q:=(oE b a).2 h
end
section
variable{J:List Fn}{X:XP}{O:Su}{Q:Fl->G->Prop}
def iQ{o:Out α}{Q:α->G->Prop}:holds o.Zb X Q↔holds o nX Q:=by cases o<;>exact YB
def yp{f:Nat->Out α}{Q:α->G->Prop}:wp (λn=>(f n).Zb) X Q↔wp f nX Q:=⟨λ⟨n,h⟩=>⟨n,iQ.1 h⟩,λ⟨n,h⟩=>⟨n,iQ.2 h⟩⟩
def adt{b:List Z6}:JG J d (.Zh b) O g X Q↔wpS J d b O g nX Q:=yp
def adF{a b:List Z6}:JG J d (.V4 c a b) O g X Q↔JC J d c O g nX λk g=>JL k (lk (wpS J d a O g X Q)) (lk (wpS J d b O g X Q)):=by
 unfold JG;delta Jn;dsimp only;simp![fP];refine(aO (mT _ _ _) (by intro k g;cases k;exact mS _ _ _;exact mS _ _ _)).trans (wp_congr λx g=>?_)
 rw[<-bJ];cases x<;>exact YB
def yV{c:Nat}{b:List E}:JG J d (.raise c b) O g X Q↔Au J d b O g nX λS g=>S.length<=Ab/\X c S g:=by
 unfold JG;delta Jn;dsimp only;simp![fP];refine(aO (k:=λ_ S g=>if S.length<=Ab then Out.exc c S g else Out.ZV) (mEs _ _ _) (λa g=>mK _)).trans (wp_congr λS g=>ae.trans ?_)
 split
 .rename_i h;exact⟨λq=>⟨h,q⟩,λq=>q.2⟩
 .rename_i h;exact⟨λq=>q.elim,λq=>(h q.1).elim⟩
def uR{o:Out U}{c:Nat}{xs:List (Option U)}(q:holds o (λc' fs g2=>c'=c/\j<O.length/\xs.length<=Ab/\fs.length=1 /\∃S,Jm fs xs=some S/\Q (.nx ((List.replicate O.length none).set j (some (.ZY S)))) g2) λu g2=>j<O.length/\Q (.nx (O.set j (some u))) g2):holds (Bf o j c xs O) X Q:=by
 cases o with
 |ok u g2=>let⟨h,q⟩:=(show j<O.length/\Q (.nx (O.set j (some u))) g2 from q);simp![Bf];rw[YE h];exact q
 |exc c' fs g2=>
  let⟨h1,h2,d,b,S,a,q⟩:=(show c'=c/\j<O.length/\xs.length<=Ab/\fs.length=1 /\∃S,Jm fs xs=some S/\Q (.nx ((List.replicate O.length none).set j (some (.ZY S)))) g2 from q);simp![Bf];rw[YE ⟨h1,h2,d,b⟩];simp![a];exact q
 |ZV=>exact q.elim
def ab4{f c:Nat}{a:List E}{xs:List (Option U)}
  (h:Au J d a O g nX λS b=>JA J d f S b (λc' fs g2=>c'=c/\j<O.length/\xs.length<=Ab/\fs.length=1 /\∃S,Jm fs xs=some S/\Q (.nx ((List.replicate O.length none).set j (some (.ZY S)))) g2) λu g2=>j<O.length/\Q (.nx (O.set j (some u))) g2) :
  JG J d (.UZ j f a c xs) O g X Q:=by
 let⟨n,q⟩:=pD.2 h;refine⟨n,?_⟩;simp![Jn];exact uR q
end
def bA(h:i<xs.length):Jb xs (i:Int)=xs[i]?:=by
 unfold Jb L2.atI L2.ixN;rw[YE (by lia),YE (by lia)]
 simp
def cb{i:Int}(a:0<=i)(h:i<xs.length):Jb xs i=xs[i.toNat]?:=by
 have:=bA (xs:=xs) (i:=i.toNat) ()
 rwa[Int.toNat_of_nonneg a]at this
def sk{x:U}:Jb (x::xs) 0=some x:=bA (i:=0) #[3]
def si{x:U}:Jb (x::y::xs) 1=some y:=bA (i:=1) #[3]
def sJ{x z:U}:Jb (x::y::z::xs) 2=some z:=bA (i:=2) #[3]
def rq{x z a:U}:Jb (x::y::z::a::xs) 3=some a:=bA (i:=3) #[3]
def sL{x z a b:U}:Jb (x::y::z::a::b::xs) 4=some b:=bA (i:=4) #[3]
def rA{x z a b c:U}:Jb (x::y::z::a::b::c::xs) 5=some c:=bA (i:=5) #[3]
def small(i:Int):Prop:=-BC<i/\i<BC
def br{i:Int}(h:(decide (-18446744073709551616<i)&&decide (i<18446744073709551616))=true):small i:=by simp at h;exact h
section
variable{i j:Int}
def eQ:IU .add (.int i) (.int j)=some (.int (i+j)):=rfl
def eV:IU .sub (.int i) (.int j)=some (.int (i-j)):=rfl
def nK(h:0<j):IU .mod (.int i) (.int j)=some (.int (i % j)):=by simp![IU,IT,YE h]
def lO(h:0<j)(h':j<An):IU .fdiv (.int i) (.int j)=some (.int (i / j)):=by simp![IU,IT,YE h,YE h']
def lg(h:small i):IU .mul (.int i) (.int j)=some (.int (i*j)):=by
 let⟨h1,h2⟩:=h;simp[IU,IT,h1,h2]
def lZ(h:small j):IU .mul (.int i) (.int j)=some (.int (i*j)):=by
 let⟨h1,h2⟩:=h;simp[IU,IT,h1,h2]
def sC:I9 .eq (.int i) (.int j) g=some (decide (i=j)):=by
 simp![I9,IS,Am];congr 1
def qG{a:Bool}:I9 .eq (.bl a) (.bl b) g=some (a==b):=rfl
def qK{a b:PySem.Str}:I9 .eq (.str a) (.str b) g=some (a==b):=rfl
def s8{a:List U}:I9 .eq (.ZY xs) (.ZY a) g=Ap xs a:=rfl
def gJ{a:List U}:Ap (.int i::xs) (.int j::a)=(Ap xs a).map λc=>decide (i=j)&&c:=by
 simp![Ap,Am];cases Ap xs a with
 |none=>rfl
 |some c=>simp![VJ];congr 1
def gk:Ap [] []=some true:=rfl
def qm:I9 .ne (.int i) (.int j) g=some (!decide (i=j)):=by simp![I9,Ce,Tj,Am,VJ];congr 1
def tJ{x:U}:I9 .U3 x .ZJ g=some (AV x):=rfl
def qp{x:U}:I9 .Th x .ZJ g=some (!AV x):=rfl
def cin{x:U}:I9 .Xl x y g=match items y g with|some ys=>IV x ys|none=>(AI x y g).map Option.isSome:=rfl
def iw{x:U}:I9 .Yy x y g=match items y g with|some ys=>(IV x ys).map (!·)|none=>(AI x y g).map λo=>!o.isSome:=rfl
def clt:I9 .lt (.int i) (.int j) g=some (decide (i<j)):=rfl
def cle:I9 .le (.int i) (.int j) g=some (decide (i<=j)):=rfl
def cgt:I9 .gt (.int i) (.int j) g=some (decide (j<i)):=rfl
def cge:I9 .ge (.int i) (.int j) g=some (decide (j<=i)):=rfl
end
section
variable{J:List Fn}{X:XP}{O:Su}
def ic{it:Iter}{t:Tg}{x:List E}{m:E}{Q:List U->G->Prop}{o:Type}(a:List o)(b:o->U)(c:o->Bool)(e:o->U)(f:G->Prop)
  (r:∀k g,f g->next it k g=some (a.map b)[k]?)
  (u:∀y,y∈a->AQ t O=true/\JK (Af t (b y) O) (lk λs=>∀g,f g->JE J d x s g (λ_ _ _=>False) λk g=>k=c y/\JL (c y) (lk (JB J d m s g (λ_ _ _=>False) λv g=>v=e y/\f g)) (lk (f g)))) :
  ∀(n i:Nat) (ZQ:List U) (g:G),i+n=a.length->ZQ.length+n<Ab->f g->(∀g,f g->Q (ZQ++((a.drop i).filter c).map e) g)->JJ J d it i t x [] m ZQ O g X Q
 |0,i,ZQ,g,C,_,h,p=>by
  rw[b7];refine⟨none,by rw[r _ _ h];simp;lia,?_⟩
  have:=p g h;rw[Tx ()]at this
  simpa using this
 |n+1,i,ZQ,g,C,hl,h,p=>by
  have hi:i<a.length:=by lia
  have w:a.drop i=a[i]::a.drop (i+1):=VT hi;let⟨A,D⟩:=u a[i] (R3 hi);let⟨s,B,z⟩:=bp.2 D;rw[b7];refine⟨some (b a[i]),by rw[r _ _ h];simp[hi],A,s,B,wp_mono (z g h) λk g q=>?_⟩
  let⟨rfl,q⟩:=q;by_cases j:c a[i]=true
  .rw [YE j]
   rw[j]at q;refine wp_mono q λv g ⟨ev,l⟩=>⟨by lia,?_⟩
   subst ev;refine ic a b c e f r u n (i+1) _ g (by lia) (by simp;lia) l λg l=>?_
   have:=p g l;rw[w,SV j]at this;simpa using this
  .rw [Yn j]
   rw[Bool.not_eq_true]at j;rw[j]at q;refine ic a b c e f r u n (i+1) _ g () (by lia) q λg l=>?_
   have:=p g l;rw[w,SM (by simp[j])]at this
   exact this
def bL{t:Tg}{Q:List U->G->Prop}(f:List α)(a:α->U)(c:α->Bool)(e:α->U)(b:G->Prop)(i:List U)
  (p:(f.filter c).map e=i)
  (m:∀k g,b g->next it k g=some (f.map a)[k]?)
  (j:∀y,y∈f->AQ t O=true/\JK (Af t (a y) O) (lk λh=>∀g,b g->JE J d cs h g (λ_ _ _=>False) λk g=>k=c y/\JL (c y) (lk (JB J d elt h g (λ_ _ _=>False) λv g=>v=e y/\b g)) (lk (b g))))
  (n:f.length<16777000) (q:b g) (l:∀g,b g->Q i g):JJ J d it 0 t cs [] elt [] O g X Q:=
 ic f a c e b m j f.length 0 [] g (R5 _) (by simpa[Ab]using n) q λg o=>by
  have:=l g o;rw[<-p]at this;simpa using this
def bK{t:Tg}{b:List Z6}{Q:Fl->G->Prop}(S:List U)(a:Nat->Su->G->Prop)
  (h:∀k O g,a k O g->next it k g=some S[k]?) (i:a 0 O g)
  (c:∀k u O g,S[k]?=some u->a k O g->JK (Af t u O) (lk λj=>wpS J d b j g X λf g=>JN f (lk (λZT=>a (k+1) ZT g)) (lk λf=>Q f g)))
  (e:∀O g,a S.length O g->Q (.nx O) g):JI J d t it 0 b O g X Q:=cj S a h c e S.length 0 O g (R5 _) i
end
def xm{l:List α}:(l.filter λ_=>true)=l:=List.filter_eq_self.mpr #[3]
abbrev BW(g:G)(xs:List U)(Q:U->G->Prop):Prop:=∀gs n,g.length<=n->(g++gs)[n]?=some (.Z5 xs)->Q (.ref n) (g++gs)
inductive Dt where
 |ZJ|bl (b:Bool)|int (i:Int)|str (s:PySem.Str)|ZY (ds:List Dt)|Z5 (ds:List Dt)
mutual
def Rep(g:G):Dt->U->Prop
 |.ZJ,u=>u=.ZJ
 |.bl b,u=>u=.bl b
 |.int i,u=>u=.int i
 |.str s,u=>u=.str s
 |.ZY ds,u=>∃S,u=.ZY S/\Reps g ds S
 |.Z5 ds,u=>∃n S,u=.ref n/\g[n]?=some (.Z5 S)/\Reps g ds S
def Reps(g:G):List Dt->List U->Prop
 |[],S=>S=[]
 |d::ds,S=>∃v a,S=v::a/\Rep g d v/\Reps g ds a
end
noncomputable def Dt.ok:Nat->Dt->Prop
 |0,_=>False
 |n+1,.ZY ds=>ds.length<1000000 /\∀D∈ds,D.ok n
 |n+1,.Z5 ds=>ds.length<1000000 /\∀D∈ds,D.ok n
 |_+1,_=>True
def Dt.Rt{a:List Dt}:Dt.ok (n+1) (.ZY a)↔a.length<1000000 /\∀D∈a,D.ok n:=by rw[Dt.ok]
def Dt.QV{a:List Dt}:Dt.ok (n+1) (.Z5 a)↔a.length<1000000 /\∀D∈a,D.ok n:=by rw[Dt.ok]
def Reps.length{g:G}:∀{ds:List Dt} {S:List U},Reps g ds S->S.length=ds.length
 |[],_,h=>by cases h;rfl
 |_::ds,_,h=>by let⟨v,a,rfl,_,h2⟩:=h;simp[Reps.length h2]
def Reps.get{g:G}:∀{ds:List Dt} {S:List U} {i:Nat} {D:Dt},Reps g ds S->ds[i]?=some D ->∃v,S[i]?=some v/\Rep g D v
 |[],_,_,_,_,e=>by simp at e
 |x::ds,_,0,D,h,e=>by
  let⟨v,a,rfl,h1,_⟩:=h;simp at e;subst e;exact⟨v,by simp,h1⟩
 |x::ds,_,i+1,D,h,e=>by
  let⟨v,a,rfl,_,h2⟩:=h;let⟨w,c,b⟩:=Reps.get (i:=i) (D:=D) h2 (by simpa using e)
  exact⟨w,by simpa using c,b⟩
structure Plan where
 w:Int
 d:Int
 s:Int
abbrev Pt:=Int×Int
abbrev Zr(P:Plan):U:=.ZY [.int P.w,.int P.d,.int P.s]
abbrev uP(p:Pt):U:=.ZY [.int p.1,.int p.2]
structure Plan.ok(P:Plan):Prop where
 w:P.w=1\/P.w=2\/P.w=3
 d:P.d=1\/P.d=2\/P.d=3
 s:P.s=2\/P.s=4\/P.s=8
def Plan.ok.sd{P:Plan}(h:P.ok):small P.d:=by rcases h.d with e|e|e<;>rw[e]<;>exact br #[1]
def Plan.ok.ss{P:Plan}(h:P.ok):small P.s:=by rcases h.s with e|e|e<;>rw[e]<;>exact br #[1]
def Plan.ok.s0{P:Plan}(h:P.ok):0<P.s:=by rcases h.s with e|e|e<;>rw[e]<;>decide
def Plan.ok.sb{P:Plan}(h:P.ok):P.s<An:=by rcases h.s with e|e|e<;>rw[e]<;>decide
def Plan.ok.ws{P:Plan}(h:P.ok):2<=P.w*P.s/\P.w*P.s<=24:=by rcases h.w with e|e|e<;>rcases h.s with f|f|f<;>rw[e,f]<;>decide
def Plan.ok.ds{P:Plan}(h:P.ok):2<=P.d*P.s/\P.d*P.s<=24:=by rcases h.d with e|e|e<;>rcases h.s with f|f|f<;>rw[e,f]<;>decide
def Ar(P:Plan)(p:Pt):Bool:=decide (0<=p.1)&&decide (p.1<=P.w*P.s)&&decide (0<=p.2)&&decide (p.2<=P.d*P.s)
def Az(P:Plan)(p:Pt):Bool:=decide (p.1 % P.s=0)&&decide (p.2 % P.s=0)
def JY(n:Int):List Int:=(List.range n.toNat).map λ(i:Nat)=>(i:Int)
def bD(n:Int):(JY n).length=n.toNat:=by simp[JY]
def lI{n i:Int}:i∈JY n↔0<=i/\i<n:=by
 simp![JY,WA,So];exact⟨λ⟨k,h,e⟩=>by lia,λ⟨h,k⟩=>⟨i.toNat,by lia,by lia⟩⟩
def bw{j:Int}{k:Nat}:next (.YU 0 j.toNat) k g=some ((JY j).map U.int)[k]?:=by
 simp![next,JY];by_cases h:k<j.toNat
 .simp [h]
 .simp [h]
def aI{k:Nat}(h:g[n]?=some (.Z5 xs)):next (.Z5 n) k g=some xs[k]?:=by
 simp![next,h]
def xO{k:Nat}:next (.seq xs) k g=some xs[k]?:=rfl
def A7(P:Plan):List Pt:=(JY (P.w*P.s+1)).flatMap λx=>(JY (P.d*P.s+1)).map λy=>(x,y)
def Ae(P:Plan):List Pt:=(A7 P).filter λp=>!Az P p
def uz{P:Plan}{p:Pt}:p∈A7 P↔Ar P p=true:=by
 let⟨x,y⟩:=p;simp![A7,PN,WA,lI,Ar,Z1,Wd];constructor
 .rintro ⟨a,h1,b,h2,e⟩
  cases e;omega
 .intro h
  exact⟨x,by omega,y,by omega,rfl⟩
def gj{c d:Type}{f:c->List d}{B:Nat}:∀{l:List c},(∀a∈l,(f a).length<=B)->(l.flatMap f).length<=l.length*B
 |[],_=>by simp
 |a::l,h=>by
  rw[List.flatMap_cons,XZ,WJ,Nat.succ_mul];have h1:=h a #[3]
  have h2:=gj (f:=f) (B:=B) (l:=l) λb g=>h b (by simp[g])
  lia
def iJ{P:Plan}(h:P.ok):(A7 P).length<=625:=by
 have h1:=h.ws;have h2:=h.ds;have:=gj (f:=λx=>(JY (P.d*P.s+1)).map λy=>((x,y):Pt)) (B:=25) (l:=JY (P.w*P.s+1)) λa _=>by simp[bD];lia
 have b:(JY (P.w*P.s+1)).length<=25:=by rw[bD];lia
 have c:(JY (P.w*P.s+1)).length*25<=25*25:=Nat.mul_le_mul_right _ b;unfold A7;lia
def aj{gs:G}{o:Z9}(h:g[n]?=some o):(g++gs)[n]?=some o:=by
 rw[X7 (Ye.mp h).1];exact h
def ai{o:Z9}:(g++[o])[g.length]?=some o:=by simp
def d8{gs:G}(h:BW g xs Q)(a:xs.length<=16777000):xs.length<=16777000/\Q (.ref (g++gs).length) (g++gs++[.Z5 xs]):=by
 refine⟨a,?_⟩;have:=h (gs++[.Z5 xs]) (g++gs).length #[3] (by rw[<-Wx];exact ai)
 rw[<-Wx]at this;exact this
def DM(xs:List Int)(lo hi:Option Int):List Int:=(xs.drop (HT.sIx xs.length 0 lo)).take (HT.sIx xs.length xs.length hi-HT.sIx xs.length 0 lo)
def zo(a:List Int)(l h:Option Int):A1 (a.map U.int) l h=(DM a l h).map U.int:=by
 unfold A1 DM;rw[Zg,<-O9,<-O8]
abbrev Bk(c:Nat)(at_ V7:Int):Z9:=.Z5 [.ref c,.int at_,.int V7]
def Bag(g:G):Prop:=∃(xs:List Int) (a b:Int),g[1]?=some (.Z5 (xs.map .int))/\g[2]?=some (Bk 1 a b)
structure Fr(g g':G):Prop where
 Zd:Bag g'
 len:g.length<=g'.length
 get:∀(k:Nat) (o:Z9),3<=k->g[k]?=some o->g'[k]?=some o
def Bag.app{gs:G}(h:Bag g):Bag (g++gs):=let⟨xs,a,s,h1,h2⟩:=h;⟨xs,a,s,aj h1,aj h2⟩
def Bag.len(h:Bag g):3<=g.length:=by let⟨xs,a,s,h1,h2⟩:=h;exact(Ye.mp h2).1
def Fr.app{g gs:G}(h:Bag g):Fr g (g++gs):=⟨h.app,by simp,λk o _ e=>aj e⟩
def Fr.refl(h:Bag g):Fr g g:=⟨h,Hk _,λk o _ e=>e⟩
def Fr.trans{a b c:G}(h:Fr a b)(k:Fr b c):Fr a c:=⟨k.Zd,Hi h.len k.len,λi o hi e=>k.get i o hi (h.get i o hi e)⟩
def CH(xs:List Int)(at_:Int):Int:=if h:0<xs.length then xs.getD (at_ % xs.length).toNat 0 else 0
def gI{xs:List Int}{at_:Int}(h:0<xs.length):0<=at_ % (xs.length:Int)/\at_ % (xs.length:Int)<xs.length:=⟨P1 _ (by lia),Pd _ (by lia)⟩
def wX{xs:List Int}{at_:Int}(h:0<xs.length):Jb (xs.map U.int) (at_ % xs.length)=some (.int (CH xs at_)):=by
 let⟨h1,h2⟩:=gI (at_:=at_) h;rw[cb h1 (by simpa using h2)]
 have:(at_ % (xs.length:Int)).toNat<xs.length:=by lia
 simp[CH,h,YJ this,List.getD]
def zr{xs:List Int}{at_:Int}(h:0<xs.length):L2.ixN xs.length (at_ % xs.length)=some (at_ % xs.length).toNat:=by
 let⟨h1,h2⟩:=gI (at_:=at_) h;unfold L2.ixN;rw[YE h1,YE h2]
def JZ(p:Pt):Dt:=.ZY [.int p.1,.int p.2]
def kI{i:Int}:Rep g (.int i) (.int i):=by simp![Rep]
def fb{p:Pt}:Rep g (JZ p) (uP p):=by
 simp![JZ,Rep];refine⟨_,rfl,?_⟩;simp![Reps];exact⟨_,_,rfl,kI,_,_,rfl,kI,rfl⟩
def aan{i:Int}:(Dt.int i).ok (n+1):=by simp[Dt.ok]
def tM{p:Pt}:(JZ p).ok (n+2):=by
 unfold JZ;rw[Dt.Rt];refine⟨by simp,λD h=>?_⟩
 simp at h;rcases h with rfl|rfl<;>exact aan
def kh:IU .pow (.int 10) (.int 18)=some (.int 1000000000000000000):=by simp[IU,IT]
def fM{k:Int}{O:Su}(h:g[n]?=some (.Z5 xs))(b:0<=k)(a:k<xs.length):subAt (.ref n) (.int k) u O g=.ok (.nx O) (g.set n (.Z5 (xs.set k.toNat u))):=by
 simp![subAt,DI,h];unfold L2.ixN;rw[YE b,YE a]
def jn(h:g[n]?=some (.Z5 xs))(a:xs.length<16777000):Bn n y g=.ok .ZJ (g.set n (.Z5 (xs++[y]))):=by
 simp![Bn,h];rw[YE (by simpa[Ab]using a)]
def uY(a:xs.length<16777000):Bn g.length y (g++[.Z5 xs])=.ok .ZJ (g++[.Z5 (xs++[y])]):=by
 rw[jn ai a];simp
def aF{o o':Z9}(h:g[n]?=some o):(g.set n o')[n]?=some o':=VX (Ye.mp h).1
def Fr.set1(h:Bag g)(xs:List Int):Fr g (g.set 1 (.Z5 (xs.map U.int))):=by
 let⟨ys,a,s,h1,h2⟩:=h;refine⟨⟨xs,a,s,aF h1,by rw[Ve #[1]];exact h2⟩,by simp,λk o hk e=>by rw[Ve (by lia)];exact e⟩
def Fr.Sh(h:Bag g)(d c:Int):Fr g (g.set 2 (Bk 1 d c)):=by
 let⟨ys,a,s,h1,h2⟩:=h;refine⟨⟨ys,d,c,by rw[Ve #[1]];exact h1,aF h2⟩,by simp,λk o hk e=>by rw[Ve (by lia)];exact e⟩
def stride(p:Pt):Int:=if p.1 % 4=0/\p.2 % 4=0 then 4 else if p.1 % 2=0/\p.2 % 2=0 then 2 else 1
def cC(p:Pt):(stride p=4/\p.1 % 4=0/\p.2 % 4=0)\/(stride p=2/\p.1 % 2=0/\p.2 % 2=0)\/stride p=1:=by
 unfold stride;by_cases h:p.1 % 4=0/\p.2 % 4=0
 .rw [YE h];exact .inl ⟨rfl,h⟩
 .rw [Yn h]
  by_cases k:p.1 % 2=0/\p.2 % 2=0
  .rw [YE k];exact .inr (.inl ⟨rfl,k⟩)
  .rw [Yn k];exact .inr (.inr rfl)
def cv(p:Pt):0<stride p/\stride p<=4:=by rcases cC p with⟨e,_⟩|⟨e,_⟩|e<;>rw[e]<;>decide
def iz(p:Pt):small (stride p):=by rcases cC p with⟨e,_⟩|⟨e,_⟩|e<;>rw[e]<;>exact br #[1]
def d0(p:Pt):stride p<An:=by rcases cC p with⟨e,_⟩|⟨e,_⟩|e<;>rw[e]<;>decide
def jv(p:Pt):2*stride p<An:=by rcases cC p with⟨e,_⟩|⟨e,_⟩|e<;>rw[e]<;>decide
def A9(p:Pt):Bool:=decide (p.1 / stride p % 2=1)&&decide (p.2 / stride p % 2=1)
abbrev Pr:=Pt×Pt
def lying(p:Pt):Pr:=((p.1-stride p,p.2),(p.1+stride p,p.2))
def upright(p:Pt):Pr:=((p.1,p.2-stride p),(p.1,p.2+stride p))
def rising(p:Pt):Pr:=((p.1-stride p,p.2-stride p),(p.1+stride p,p.2+stride p))
def falling(p:Pt):Pr:=((p.1-stride p,p.2+stride p),(p.1+stride p,p.2-stride p))
def BE(p:Pt):Pr×Pr:=if p.1 / stride p % 2=1 then(lying p,upright p)else(upright p,lying p)
def BQ(p:Pt):Prop:=((p.1-stride p) / (2*stride p)+(p.2-stride p) / (2*stride p)) % 2=0
instance(p:Pt):Decidable (BQ p):=by unfold BQ;infer_instance
def By(p:Pt):Pr×Pr:=if BQ p then(rising p,falling p)else(falling p,rising p)
def Av(p:Pt):Pr×Pr:=if A9 p=true then By p else BE p
abbrev u2(q:Pr):U:=.ZY [uP q.1,uP q.2]
abbrev u4(q:Pr×Pr):U:=.ZY [u2 q.1,u2 q.2]
def wk{p:Pt}(h:A9 p=true):(p.1-stride p+p.2-stride p) / (2*stride p) % 2=0↔BQ p:=by
 have a:2*stride p ∣ p.1-stride p:=by
  simp![A9,Z1,Wd]at h;have h:=h.1;rcases cC p with⟨e,f⟩|⟨e,f⟩|e<;>rw[e]at h ⊢<;>omega
 unfold BQ;rw[show p.1-stride p+p.2-stride p=(p.1-stride p)+(p.2-stride p)from Int.add_sub_assoc ..,Int.add_ediv_of_dvd_left a]
def J0(P:Plan)(p:Pt):List Pt:=[(Av p).2.1,(Av p).2.2].filter λq=>Ar P q&&!Az P q
def cu(P:Plan)(p:Pt):(J0 P p).length<=2:=Sn _ _
def aZ{P:Plan}{p:Pt}:p∈Ae P↔Ar P p=true/\Az P p=false:=by
 unfold Ae;rw[U4,uz];simp
def BO(P:Plan)(p:Pt)(t:Int×Int):Int×Int:=if stride p<t.1 then(t.1 / 2,t.2+2)else t
def AD(P:Plan)(p:Pt):Int:=if A9 p=true then(BO P p (BO P p (BO P p (P.s / 2,0)))).2 else(BO P p (BO P p (BO P p (P.s / 2,0)))).2+1
def Dw:List Plan:=[1,2,3].flatMap λw=>[1,2,3].flatMap λd=>[2,4,8].map λs=>⟨w,d,s⟩
def jy{P:Plan}(h:P.ok):P∈Dw:=by
 have e:∀{x a b c:Int},x=a\/x=b\/x=c->x∈[a,b,c]:=λh=>by simpa using h
 exact PN.mpr ⟨P.w,e h.w,PN.mpr ⟨P.d,e h.d,WA.mpr ⟨P.s,e h.s,rfl⟩⟩⟩
def vE:(Dw.all λP=>(Ae P).all λp=>(J0 P p).all (λq=>decide (AD P q+1=AD P p))&&((J0 P p).isEmpty==decide (AD P p=0))&&decide (0<=AD P p)&&decide (AD P p<=5))=true:=by decide +kernel
def dw{P:Plan}(h:P.ok){p:Pt}(a:p∈Ae P):(∀q∈J0 P p,AD P q+1=AD P p)/\((J0 P p=[])↔AD P p=0)/\0<=AD P p/\AD P p<=5:=by
 have:=WY.mp (WY.mp vE P (jy h)) p a;simp![Z1,WY,Wd,VR]at this;let⟨⟨⟨h1,h2⟩,c⟩,b⟩:=this;refine⟨h1,?_,c,b⟩;rw[<-QY,h2];simp
def eI{p q:List U}{a b c d:Z9}{i j n:Nat}(h:∀gs n i j,(g++gs)[n]?=some (.Z5 [.ref i,.ref j])->(g++gs)[i]?=some (.Z5 p)->(g++gs)[j]?=some (.Z5 q)->Q (.ref n) (g++gs))(hi:[a,b,c,d][i]?=some (.Z5 p))(u:[a,b,c,d][j]?=some (.Z5 q))(r:n=g.length+i)(t:m=g.length+j):
  Q (.ref (g++[a]++[b]++[c]++[d]).length) (g++[a]++[b]++[c]++[d]++[.Z5 [.ref n,.ref m]]):=by
 subst r t;have f:∀(k:Nat) (o:Z9),[a,b,c,d][k]?=some o->(g++([a,b,c,d]++[.Z5 [.ref (g.length+i),.ref (g.length+j)]]))[g.length+k]?=some o:=λk o e=>by
  rw[WC (by lia),OL]
  exact aj e
 have:=h ([a,b,c,d]++[.Z5 [.ref (g.length+i),.ref (g.length+j)]]) (g++[a]++[b]++[c]++[d]).length (g.length+i) (g.length+j) #[3] (f i _ hi) (f j _ u)
 simpa using this
def qj{k i:Int}:IV (.int k) (.int i::xs)=(IV (.int k) xs).map λc=>decide (i=k)||c:=by
 simp![IV,IS,Am];cases IV (.int k) xs with
 |none=>rfl
 |some c=>simp![VJ];congr 1
def gD{x:U}:IV x []=some false:=rfl
def J1(q:Pr):Dt:=.ZY [JZ q.1,JZ q.2]
def ee{l:List α}{f:α->U}{i:Int}(b:0<=i)(h:i<l.length):∃a∈l,Jb (l.map f) i=some (f a):=by
 have hi:i.toNat<l.length:=by omega
 refine⟨l[i.toNat],R3 hi,?_⟩;rw[cb b (by simpa using h)]
 simp[hi]
def ltP(p q:Pt):Prop:=p.1<q.1\/(p.1=q.1/\p.2<q.2)
instance(p q:Pt):Decidable (ltP p q):=by unfold ltP;infer_instance
def AU(p:Pt):List Pt:=if A9 p=true then[(p.1-stride p,p.2),(p.1,p.2-stride p),(p.1,p.2+stride p),(p.1+stride p,p.2)]
 else if 1<stride p then[(p.1-stride p / 2,p.2-stride p / 2),(p.1-stride p / 2,p.2+stride p / 2),(p.1+stride p / 2,p.2-stride p / 2),(p.1+stride p / 2,p.2+stride p / 2)]else[]
def J3(P:Plan)(p:Pt):List Pt:=(AU p).filter (Ar P)
def Gv(i:Int):Int:=if i<0 then -i else i
def Cw:List Pt->Bool
 |a::b::l=>decide (ltP a b)&&Cw (b::l)
 |_=>true
def v9:(Dw.all λP=>(Ae P).all λp=>(J0 P p).all (λr=>decide (p∈J3 P r))&&(J3 P p).all (λc=>!Az P c&&decide (Gv (c.1-p.1)<=4)&&decide (p∈J0 P c))&&Cw (J3 P p))=true:=by decide +kernel
def vI{p q r:Pt}(h:ltP p q)(k:ltP q r):ltP p r:=by unfold ltP at h k ⊢;lia
def iX:∀{l:List Pt},Cw l=true->l.Pairwise ltP
 |[],_=>.nil
 |[a],_=>by simp
 |a::b::l,h=>by
  simp![Cw,Z1,Wd]at h;have ih:=iX h.2;rw[Ud];refine⟨λx c=>?_,ih⟩;rcases X8.mp c with rfl|c
  .exact h.1
  .exact vI h.1 ((Ud.mp ih).1 x c)
def iP{P:Plan}(h:P.ok){p:Pt}(b:p∈Ae P):(∀r∈J0 P p,p∈J3 P r)/\(∀c∈J3 P p,Az P c=false/\Gv (c.1-p.1)<=4/\p∈J0 P c)/\(J3 P p).Pairwise ltP:=by
 have:=WY.mp (WY.mp v9 P (jy h)) p b;simp![Z1,WY,Wd]at this;let⟨⟨h1,h2⟩,d⟩:=this;exact⟨h1,λc a=>⟨by simpa using(h2 c a).1.1,(h2 c a).1.2,(h2 c a).2⟩,iX d⟩
def uh{P:Plan}{p c:Pt}(h:c∈J3 P p):Ar P c=true:=(U4.mp h).2
def ju{P:Plan}(h:P.ok){p q:Pt}(c:p∈Ae P):q∈J3 P p↔q∈Ae P/\p∈J0 P q:=by
 constructor
 .intro a
  let⟨_,h2,_⟩:=iP h c;exact⟨aZ.mpr ⟨uh a,(h2 q a).1⟩,(h2 q a).2.2⟩
 .rintro ⟨a,b⟩
  exact(iP h a).1 p b
def cg{p:Pt}:∀{l:List Pt},IV (uP p) (l.map uP)=some (decide (p∈l))
 |[]=>by simp[gD]
 |q::l=>by
  have:IS (uP q) (uP p)=some (decide (q=p)):=by
   simp![IS,gJ,gk,VJ,Bool.and_true];congr 1;rw[Qz];simp![Z1,Wd,Prod.ext_iff]
  simp![Xu,IV,this,cg (l:=l),X8];congr 1;rw[Qz];simp![Rx,Wd];exact or_congr eq_comm YB
structure Xy where
 ax:Int
 ay:Int
 bx:Int
 bY:Int
 cx:Int
 cy:Int
deriving DecidableEq
def jw(h:g[n]?=some (.Z5 (xs++[y]))):Br n g=.ok y (g.set n (.Z5 xs)):=by
 simp![Br,h];simp
def jd{a:List U}(h:g[n]?=some (.Z5 xs))(k:g[m]?=some (.Z5 a))(b:xs.length+a.length<16777000):BF n (.ref m) g=.ok .ZJ (g.set n (.Z5 (xs++a))):=by
 simp![BF,Jf,h,k];rw[YE (by simpa[Ab]using b)]
def dT(t:Xy):Dt:=.ZY [.int t.ax,.int t.ay,.int t.bx,.int t.bY,.int t.cx,.int t.cy]
def yI{l:List α}{a:α}:(l++[a]).isEmpty=false:=by cases l<;>rfl
noncomputable def Wl(i:Int):Prop:=-An<i/\i<An
def mid(i:Int):Prop:=-10000000000000000000000000000<i/\i<10000000000000000000000000000
def mid.Wl{i:Int}(h:mid i):Wl i:=by unfold mid at h;unfold PI.Wl An;omega
structure NT where
 a:Nat
 b:Nat
 c:Nat
 d:Nat
 e:Nat
 f:Nat
def J6(x y z v:Nat):Bool:=Nat.ble v x||(Nat.ble v y||Nat.ble v z)
def inL{P:Plan}{p:Pt}:Ar P p=true↔0<=p.1/\p.1<=P.w*P.s/\0<=p.2/\p.2<=P.d*P.s:=by
 simp![Ar,Z1,Wd,and_assoc]
def ji{a:List (List Int×U)}{k:List Int}{O:Su}(h:g[n]?=some (.ZG a))(c:intsOf S=some k)(b:a.length<16777000):subAt (.ref n) (.ZY S) u O g=.ok (.nx O) (g.set n (.ZG (dput a k u))):=by
 simp![subAt,DQ,h,c];rw[YE (by simpa[Ab]using b)]
def Gp(a b:Int):List Int:=(List.range (b-a).toNat).map λ(i:Nat)=>a+(i:Int)
abbrev FC(t:Xy):Int:=best true t.ax [t.bx,t.cx]
abbrev FA(t:Xy):Int:=best true t.ay [t.bY,t.cy]
abbrev Fv(t:Xy):Int:=best false t.ax [t.bx,t.cx]
abbrev Gm(t:Xy):Int:=best false t.ay [t.bY,t.cy]
def GH(t:Xy)(p:Pt):Bool:=decide (FC t<=p.1)&&decide (p.1<=Fv t)&&(decide (FA t<=p.2)&&decide (p.2<=Gm t))
def DG(b a c d:Int)(p:Pt):Int:=(c-b)*(p.2-a)-(d-a)*(p.1-b)
abbrev tu1(t:Xy)(p:Pt):Int:=DG t.ax t.ay t.bx t.bY p
abbrev tu2(t:Xy)(p:Pt):Int:=DG t.bx t.bY t.cx t.cy p
abbrev tu3(t:Xy)(p:Pt):Int:=DG t.cx t.cy t.ax t.ay p
def Gz(t:Xy)(p:Pt):Bool:=GH t p&&(decide (0<=best true (tu1 t p) [tu2 t p,tu3 t p])||decide (best false (tu1 t p) [tu2 t p,tu3 t p]<=0))
def J7(t:Xy):List Pt:=(Gp (FC t) (Fv t+1)).flatMap λx=>((Gp (FA t) (Gm t+1)).filter λy=>Gz t (x,y)).map λy=>(x,y)
def GG(a b c:Pt):Int:=(b.1-a.1)*(c.2-a.2)-(c.1-a.1)*(b.2-a.2)
def J8(t:Xy):Pt:=(t.cx,t.cy)
def Fc(t:Xy):Prop:=(-100<=t.ax/\t.ax<=100)/\(-100<=t.ay/\t.ay<=100)/\(-100<=t.bx/\t.bx<=100)/\(-100<=t.bY/\t.bY<=100)/\(-100<=t.cx/\t.cx<=100)/\(-100<=t.cy/\t.cy<=100)
section
variable{J:List Fn}{O:Su}{X:XP}
def lJ{it:Iter}{t:Tg}{c:E}{Q:List U->G->Prop}(S:List U)(r:U->Prop)(a:G->Prop)
  (j:∀k g,a g->next it k g=some S[k]?)
  (w:∀u,u∈S->AQ t O=true/\JK (Af t u O) (lk λo=>∀g,a g->JB J d c o g (λ_ _ _=>False) λv g=>r v/\a g)) :
  ∀(n i:Nat) (ZQ:List U) (g:G),i+n=S.length->ZQ.length+n<Ab->a g->(∀vs g,vs.length=n->(∀v∈vs,r v)->a g->Q (ZQ++vs) g)->JJ J d it i t [] [] c ZQ O g X Q
 |0,i,ZQ,g,H,_,h,f=>by
  rw[b7];refine⟨none,by rw[j _ _ h];simp;lia,?_⟩
  have:=f [] g rfl #[3] h
  simpa using this
 |n+1,i,ZQ,g,H,hl,h,f=>by
  have hi:i<S.length:=by lia
  let⟨C,I⟩:=w S[i] (R3 hi);let⟨o,D,A⟩:=bp.2 I;rw[b7];refine⟨some S[i],by rw[j _ _ h];simp[hi],C,o,D,il.2 ?_⟩
  rw[YE rfl];refine wp_mono (A g h) λv g ⟨ev,B⟩=>⟨by lia,?_⟩
  refine lJ S r a j w n (i+1) _ g (by lia) (by simp;lia) B λvs g h1 h2 F=>?_
  have:=f (v::vs) g (by simp[h1]) (λx y=>by rcases X8.mp y with rfl|z;exact ev;exact h2 x z) F
  simpa using this
def acb{t:Tg}{Q:List U->G->Prop}{g:G}(S:List U)(b:U->Prop)(a:G->Prop)
  (f:∀k g,a g->next it k g=some S[k]?)
  (c:∀u,u∈S->AQ t O=true/\JK (Af t u O) (lk λl=>∀g,a g->JB J d elt l g (λ_ _ _=>False) λv g=>b v/\a g))
  (h:S.length<16777000) (j:a g) (e:∀vs g,vs.length=S.length->(∀v∈vs,b v)->a g->Q vs g):JJ J d it 0 t [] [] elt [] O g X Q:=
 lJ S b a f c S.length 0 [] g (R5 _) (by simpa[Ab]using h) j λvs g h1 h2 i=>by simpa using e vs g h1 h2 i
def eP{it:Iter}{t:Tg}{A:List E}{c:E}{Q:List U->G->Prop}(S:List U)(r:U->Prop)(a:G->Prop)
  (j:∀k g,a g->next it k g=some S[k]?)
  (w:∀u,u∈S->AQ t O=true/\JK (Af t u O) (lk λo=>∀g,a g->JE J d A o g (λ_ _ _=>False) λk g=>a g/\(k=true->JB J d c o g (λ_ _ _=>False) λv g=>r v/\a g))) :
  ∀(n i:Nat) (ZQ:List U) (g:G),i+n=S.length->ZQ.length+n<Ab->a g->(∀vs g,vs.length<=n->(∀v∈vs,r v)->a g->Q (ZQ++vs) g)->JJ J d it i t A [] c ZQ O g X Q
 |0,i,ZQ,g,L,_,h,f=>by
  rw[b7];refine⟨none,by rw[j _ _ h];simp;omega,?_⟩
  have:=f [] g (Hk _) #[3] h
  simpa using this
 |n+1,i,ZQ,g,L,hl,h,f=>by
  have hi:i<S.length:=by omega
  let⟨I,M⟩:=w S[i] (R3 hi);let⟨o,K,F⟩:=bp.2 M;rw[b7];refine⟨some S[i],by rw[j _ _ h];simp[hi],I,o,K,wp_mono (F g h) λk g q=>?_⟩
  let⟨C,B⟩:=q;cases k with
  |true=>
   rw[YE rfl];refine wp_mono (B rfl) λv g ⟨ev,H⟩=>⟨by omega,?_⟩
   refine eP S r a j w n (i+1) _ g () (by simp;omega) H λvs g h1 h2 y=>?_
   have:=f (v::vs) g (by simp;lia) (λx D=>by rcases X8.mp D with rfl|z;exact ev;exact h2 x z) y
   simpa using this
  |false=>
   rw[Yn #[3]]
   exact eP S r a j w n (i+1) _ g () (by lia) C λvs g h1 h2 y=>f vs g (by lia) h2 y
end
def Ax(p:Pt):List Int:=[p.1,p.2]
def cH{p q:Pt}(h:Ax p=Ax q):p=q:=by
 let⟨a,b⟩:=p;let⟨c,d⟩:=q;simpa[Ax]using h
def gE{a b:Int}:intsOf [.int a,.int b]=some (Ax (a,b)):=rfl
def J9{a:Type}(key:a->List Int)(f:a->U)(b:List a):List (List Int×U):=b.map λq=>(key q,f q)
def m9{c:Type}{key:c->List Int}(hi:∀a b,key a=key b->a=b){f:c->U}{a:c}:∀{ps:List c},a∈ps->AK (J9 key f ps) (key a)=some (f a)
 |[],h=>nomatch h
 |b::r,h=>by
  unfold AK J9;rw[Xu,U5];by_cases e:key b=key a
  .have:=hi _ _ e;subst this;simp
  .have h':a∈r:=by
    rcases X8.mp h with z|z
    .subst z;exact absurd rfl e
    .exact z
   have ih:=m9 hi (f:=f) h';unfold AK J9 at ih;simp![e,Qy];exact ih
def xM[DecidableEq α]{key:α->List Int}(hi:∀a b,key a=key b->a=b){f:α->U}{a:α}{v:U}{c:List α}(h:a ∉ c):dput (J9 key f c) (key a) v=J9 key (λq=>if q=a then v else f q) (c++[a]):=by
 unfold dput;rw[Yn]
 .unfold J9
  rw[Qd];congr 1
  .refine List.map_congr_left λq d=>?_
   show(key q,f q)=(key q,if q=a then v else f q)
   rw[Yn (λe=>h (by rw[<-e];exact d))]
  .simp
 .intro g
  simp![J9,List.any_map,ON,Function.comp,Wd]at g;let⟨q,d,e⟩:=g;exact h (by rw[<-hi _ _ e];exact d)
def xZ[DecidableEq α]{key:α->List Int}(hi:∀a b,key a=key b->a=b){f:α->U}{a:α}{v:U}{c:List α}(h:a∈c):dput (J9 key f c) (key a) v=J9 key (λq=>if q=a then v else f q) c:=by
 unfold dput;rw[YE]
 .unfold J9
  rw[Sw];refine List.map_congr_left λq d=>?_;simp![Function.comp];by_cases e:q=a
  .subst e;simp
  .rw [Yn (λz=>e (hi _ _ z)),Yn e]
 .simp only [J9,List.any_map,ON,Function.comp,Wd]
  exact⟨a,h,rfl⟩
def xI{a:List (List Int×U)}{k:List Int}(h:Yd u g=some a)(b:intsOf S=some k):AI (.ZY S) u g=some (AK a k):=by
 simp![AI,h,keyOf,b,VJ]
def E3(a b:Pt):Prop:=a.1*b.2<b.1*a.2
instance{a b:Pt}:Decidable (E3 a b):=by unfold E3;infer_instance
structure Low(a:Pt):Prop where
 pos:0<a.2
 cop:Nat.gcd a.1.natAbs a.2.natAbs=1
def o1(e d c f b a:Nat):Bool:=Nat.ble (f*b+c*d+e*a) (c*a+f*e+d*b)
def Ka(e d c f b a:Nat):Bool:=Nat.ble (c*a+f*e+d*b) (f*b+c*d+e*a)
def Kb:List (Nat×Nat):=(List.range 9).flatMap λx=>(List.range 9).map λy=>(x,y)
def Aw:List Plan:=[⟨1,1,2⟩,⟨1,1,4⟩,⟨2,1,2⟩,⟨1,2,2⟩,⟨2,2,2⟩,⟨1,1,4⟩,⟨3,1,2⟩,⟨1,3,2⟩,⟨2,1,4⟩,⟨1,2,4⟩,⟨3,2,2⟩,⟨1,1,8⟩]
set_option maxRecDepth 1000000 in
def yr:((Kb.map λz=>I8 [(z.1:Int),(z.2:Int)]).Nodup):=by decide +kernel
def pU{g i:Type}{f:g->i}:∀{l:List g},(l.map f).Nodup ->∀{a b:g},a∈l->b∈l->f a=f b->a=b
 |[],_,_,_,h,_,_=>by cases h
 |x::l,hn,a,b,d,c,e=>by
  rw[Xu,Rw]at hn;rcases X8.mp d with rfl|d
  .rcases X8.mp c with rfl|c
   .rfl
   .exact absurd (WA.mpr ⟨b,c,e.symm⟩) hn.1
  .rcases X8.mp c with j|c
   .exact absurd (WA.mpr ⟨a,d,by rw[e,j]⟩) hn.1
   .exact pU hn.2 d c e
def kyP(p:Pt):List Int:=[p.1,p.2]
def cM{p q:Pt}(h:kyP p=kyP q):p=q:=by
 simp![kyP,O0,and_true]at h;exact Na h.1 h.2
def Kc(z:Nat×Nat):Pt:=((z.1:Int),(z.2:Int))
def xT{x y:Nat}:(x,y)∈Kb↔x<=8/\y<=8:=by
 unfold Kb;simp![PN,WA,So,OB];constructor
 .rintro ⟨a,d,b,c,rfl,rfl⟩;lia
 .intro h;exact⟨x,by lia,y,by lia,rfl,rfl⟩
def yF{p q:Pt}(d:∃z∈Kb,p=Kc z)(c:∃z∈Kb,q=Kc z)(e:I8 (kyP p)=I8 (kyP q)):p=q:=by
 let⟨z,a,rfl⟩:=d;let⟨y,b,rfl⟩:=c;rw[pU yr a b e]
structure Half14(t one two:Xy)(m:Pt):Prop where
 near1:Fc one
 near2:Fc two
 same:Jc ((J7 one++J7 two).map kyP)=(J7 t).map kyP
 ok:Jd ((J7 one++J7 two).map kyP)
 line:∀p∈J7 one,p∈J7 two->GG m (J8 t) p=0
 mid1:m∈J7 one
 mid2:m∈J7 two
def lU:∀l:List Pt,Bq (l.map uP)=some (l.map kyP)
 |[]=>rfl
 |p::l=>by
  have e:keyOf (uP p)=some (kyP p):=rfl;rw[Xu];simp![Bq,e,lU l]
  rfl
def pV(l:List Pt):(l.map kyP).map tupI=l.map uP:=by rw[Sw];rfl
def z6{l m:List Pt}(c:g[n]?=some (.Z5 (l.map uP)))(b:Jd (l.map kyP))(a:Jc (l.map kyP)=m.map kyP):B8 [.ref n] g=.ok (.ref g.length) (g++[.Z5 (m.map uP)]):=by
 unfold B8;simp![c,lU];rw[YE b,a,pV]
 rfl
def qH:∀l:List Pt,IX Cq (l.map uP) (l.map uP)=some true
 |[]=>rfl
 |p::l=>by
  have e:Cq (uP p) (uP p)=some true:=by simp[Cq,IX,IS,Am]
  rw[Xu];simp![IX,e,qH l]
  rfl
def tB(l:List Pt):IY (l.map uP) (l.map uP)=some true:=by unfold IY;rw[YE rfl];exact qH l
def sS{a:List U}(c:g[n]?=some (.Z5 xs))(b:g[m]?=some (.Z5 a)):I9 .eq (.ref n) (.ref m) g=IY xs a:=by
 simp![I9,AW,c,b]
def map_inj{c e:Type}{f:c->e}(d:∀a b,f a=f b->a=b):∀{l m:List c},l.map f=m.map f->l=m
 |[],[],_=>rfl
 |[],_::_,h=>by cases h
 |_::_,[],h=>by cases h
 |a::l,b::m,h=>by
  rw[Xu,Xu,O0]at h;rw[d a b h.1,map_inj d h.2]
def C0(a:Pt):List Pt->List Pt
 |[]=>[a]
 |b::r=>if a=b then b::r else if Ag (kyP a) (kyP b)=true then a::b::r else b::C0 a r
def Ad:List Pt->List Pt
 |[]=>[]
 |a::r=>C0 a (Ad r)
def me(a:Pt):∀r:List Pt,AN (kyP a) (r.map kyP)=(C0 a r).map kyP
 |[]=>rfl
 |b::r=>by
  rw[Xu];unfold AN C0;by_cases h:a=b
  .rw [YE h,YE (by rw[h]),Xu]
  .rw [Yn h,Yn λe=>h (cM e)]
   split
   .rfl
   .rw [me a r];rfl
def aW:∀l:List Pt,Jc (l.map kyP)=(Ad l).map kyP
 |[]=>rfl
 |a::l=>by
  show AN (kyP a) (Jc (l.map kyP))=_;rw[aW l,me];rfl
def bG{p:Pt}{l:List Pt}:kyP p∈l.map kyP↔p∈l:=
 ⟨λh=>let⟨q,a,e⟩:=WA.mp h;by rw[<-cM e];exact a,λh=>WA.mpr ⟨p,h,rfl⟩⟩
def aH{p:Pt}{l:List Pt}:p∈Ad l↔p∈l:=by
 rw[<-bG,<-aW,bF,bG]
def vn{f:α->β}{l:List α}(h:(l.map f).Nodup):l.Nodup:=(To.mp h).imp λ{a b} n e=>n (by rw[e])
def aco{l:List Pt}(h:l.Nodup):(l.map kyP).Nodup:=To.mpr (h.imp λ{a b} n e=>n (cM e))
def cN(l:List Pt):(Ad l).Nodup:=vn (f:=kyP) (by rw[<-aW];exact nG (bf _))
def kT(l:List Pt):(Ad l).length<=l.length:=by
 have:=hY (l.map kyP);rw[aW,Zg,Zg]at this;exact this
def dG{l m:List Pt}(h:∀p,p∈l↔p∈m):Ad l=Ad m:=by
 apply map_inj (λa b=>cM);rw[<-aW,<-aW];refine cI (bf _) (bf _) λx=>?_;rw[bF,bF];constructor
 .intro c;let⟨p,d,rfl⟩:=WA.mp c;exact bG.mpr ((h p).mp d)
 .intro c;let⟨p,d,rfl⟩:=WA.mp c;exact bG.mpr ((h p).mpr d)
def eX{P:Plan}(h:P∈Aw):P.w*P.s<=8/\P.d*P.s<=8/\(Ae P).length<=77:=by
 have:(Aw.all λP=>decide (P.w*P.s<=8)&&(decide (P.d*P.s<=8)&&Nat.ble (Ae P).length 77))=true:=by decide +kernel
 have:=WY.mp this P h;rw[Z1,Z1,Wd,Wd,Nat.ble_eq]at this;exact this
def ls{P:Plan}(h:P∈Aw){p:Pt}(d:Ar P p=true):∃z∈Kb,p=Kc z:=by
 have m:=eX h;have a:=inL.mp d;let⟨x,c⟩:=OO a.1;let⟨y,b⟩:=OO a.2.2.1;exact⟨(x,y),xT.mpr (),Na c b⟩
def Cuts(P:Plan)(l:List Pt):Prop:=∀p∈l,p∈Ae P
def Cuts.len{P:Plan}(h:P∈Aw){l:List Pt}(b:Cuts P l)(a:l.Nodup):l.length<=77:=Hi (a.length_le_of_subset b) (eX h).2.2
def Cuts.W9{P:Plan}{l:List Pt}(b:Cuts P l):Cuts P (Ad l):=λp a=>b p (aH.mp a)
def adm{P:Plan}(h:P∈Aw){l:List Pt}(g:l.length<=300)(c:Cuts P l):Jd (l.map kyP):=by
 refine⟨by rw[Zg];exact g,λk hk=>?_,λa j b i e=>?_⟩
 .obtain ⟨p,_,rfl⟩:=WA.mp hk
  exactλz=>nomatch z
 .obtain ⟨p,f,rfl⟩:=WA.mp j
  let⟨q,d,rfl⟩:=WA.mp i;rw[yF (ls h (aZ.mp (c p f)).1) (ls h (aZ.mp (c q d)).1) e]
abbrev DS(ks:List Pt):List (List Int×U):=J9 Ax (λ_=>U.bl true) ks
def Kd(ks:List Pt)(a:Pt):List Pt:=if a∈ks then ks else ks++[a]
def gz{ks:List Pt}{a:Pt}:dput (DS ks) (Ax a) (.bl true)=DS (Kd ks a):=by
 unfold Kd;split
 .rename_i h
  rw[xZ (λa b=>cH) h];congr 1;funext q;split<;>rfl
 .rename_i h
  rw[xM (λa b=>cH) h];congr 1;funext q;split<;>rfl
def bz{ks:List Pt}{a p:Pt}:p∈Kd ks a↔p=a\/p∈ks:=by
 unfold Kd;split
 .rename_i h
  exact⟨.inr,λz=>z.elim (λe=>by rw[e];exact h) id⟩
 .rw [Wh,WL];exact Or.comm
def gF{ks:List Pt}{a:Pt}(h:ks.Nodup):(Kd ks a).Nodup:=by
 unfold Kd;split
 .exact h
 .rename_i n
  refine Ow.mpr ⟨h,OH _ a,λx c y b e=>?_⟩;rw[WL]at b;exact n (by rw[<-b,<-e];exact c)
def gB{ks:List Pt}{a:Pt}:(AK (DS ks) (Ax a)).isSome=decide (a∈ks):=by
 by_cases h:a∈ks
 .rw [m9 (key:=Ax) (λa b=>cH) h,Td h];rfl
 .rw [VB h]
  unfold AK DS J9;rw[Pm,Oz];intro z;let⟨e,c⟩:=TL.mp z;have h1:=Oo c;have h2:=List.find?_some c;let⟨q,d,rfl⟩:=WA.mp h1;rw[Wd]at h2;exact h (by rw[<-cH h2];exact d)
def eC(ks:List Pt):(DS ks).map (·.1)=ks.map kyP:=by unfold DS J9;rw[Sw];rfl
def jK:∀{l ks:List Pt},(ks++l).Nodup->dfold (l.map λp=>.ZY [uP p,.bl true]) (DS ks)=some (DS (ks++l))
 |[],ks,_=>by rw[Ux];rfl
 |a::l,ks,h=>by
  have b:a ∉ ks:=λz=>by
   have:=(Ow.mp h).2.2 a z a Hr;exact this rfl
  have e:Cb (DS ks) (.ZY [uP a,.bl true])=some (DS (ks++[a])):=by
   show(keyOf (uP a)).map (λk=>dput (DS ks) k (.bl true))=_;rw[show keyOf (uP a)=some (Ax a)from rfl,VJ,gz];unfold Kd;rw[Yn b]
  rw[Xu];simp![dfold,e,Qr];rw[jK (by rw[Wx];exact h),Wx]
  rfl
section
variable{ks:List Pt}{p:Pt}
def SetAt(g:G)(n:Nat)(ks:List Pt):Prop:=g[n]?=some (.ZG (DS ks))\/g[n]?=some (.YD (DS ks))
def SetAt.app{gs:G}(h:SetAt g n ks):SetAt (g++gs) n ks:=h.imp aj aj
def SetAt.items(h:SetAt g n ks):items (.ref n) g=none:=by rcases h with h|h<;>simp![PI.items,h]
def SetAt.Yd(h:SetAt g n ks):Yd (.ref n) g=some (DS ks):=by rcases h with h|h<;>simp![PI.Yd,h]
def SetAt.look(h:SetAt g n ks):AI (uP p) (.ref n) g=some (AK (DS ks) (Ax p)):=xI h.Yd gE
def qd(h:SetAt g n ks):I9 .Yy (uP p) (.ref n) g=some (!decide (p∈ks)):=by
 rw[iw,h.items];simp![h.look,VJ,gB]
def ij(h:SetAt g n ks):I9 .Xl (uP p) (.ref n) g=some (decide (p∈ks)):=by
 rw[cin,h.items];simp![h.look,VJ,gB]
def gC(h:SetAt g n ks)(a:ks.Nodup)(b:ks.length<100000):CO [.ref n] g=.ok (.ref g.length) (g++[.Z5 ((Ad ks).map uP)]):=by
 unfold CO;have e:A6 [.ref n] g=none:=by rcases h with h|h<;>simp![A6,h]
 simp![e,Dp,h.Yd];rw[YE ⟨by unfold DS J9;rw[Zg];exact b,by rw[eC];exact aco a,λk hk=>by rw[eC]at hk;let⟨p,_,rfl⟩:=WA.mp hk;exactλz=>nomatch z⟩,eC,aW,pV]
 rfl
def xl(h:SetAt g n ks):BA [.ref n] g=.ok (.ref g.length) (g++[.Z5 (ks.map uP)]):=by
 unfold BA;simp![h.items,h.Yd];have:((DS ks).map λa=>tupI a.1)=ks.map uP:=by
  unfold DS J9;rw[Sw];rfl
 rw[this];rfl
def x4{P:Plan}{l:List Pt}(c:P∈Aw)(h:g[n]?=some (.Z5 (l.map uP)))(a:l.length<=300)(b:Cuts P l):B8 [.ref n] g=.ok (.ref g.length) (g++[.Z5 ((Ad l).map uP)]):=z6 h (adm c a b) (aW l)
def wA{i:Int}(h:g[n]?=some (.Z5 xs))(b:0<=i)(c:i<1000000)(a:xs[i.toNat]?=some u):Bz n (.int i) g=.ok u (g.set n (.Z5 (xs.eraseIdx i.toNat))):=by
 unfold Bz;simp![h];rw[YE ⟨b,by lia⟩]
 simp![a]
end
def vH{f:α->β}{l:List α}{k:Nat}:(l.eraseIdx k).map f=(l.map f).eraseIdx k:=by simp[T1,O8,O9]
def A0(P:Plan)(l:List Pt)(p:Pt):List Pt:=(J0 P p).filter λq=>!decide (q∈l)
def iG{P:Plan}{p q:Pt}(h:q∈J0 P p):q∈Ae P:=by
 unfold J0 at h;have:=(U4.mp h).2;rw[Z1,Vy]at this;exact aZ.mpr this
def Old(g g':G):Prop:=∃gs,g'=g++gs
section
variable{g' g'':G}{o:Z9}
def Old.refl:Old g g:=⟨[],(Ux g).symm⟩
def Old.app{gs:G}:Old g (g++gs):=⟨gs,rfl⟩
def Old.more{gs:G}(h:Old g g'):Old g (g'++gs):=by let⟨a,rfl⟩:=h;exact⟨a++gs,Wx ..⟩
def Old.trans(h:Old g g')(k:Old g' g''):Old g g'':=by let⟨a,rfl⟩:=k;exact h.more
def Old.len(h:Old g g'):g.length<=g'.length:=by let⟨a,rfl⟩:=h;simp
def Old.get(h:Old g g')(e:g[n]?=some o):g'[n]?=some o:=by let⟨a,rfl⟩:=h;exact aj e
def Old.set(h:Old g g')(b:g.length<=n):Old g (g'.set n o):=by let⟨a,rfl⟩:=h;exact⟨a.set (n-g.length) o,List.set_append_right n o b⟩
def Old.fr(h:Old g g')(b:Bag g):Fr g g':=by let⟨a,rfl⟩:=h;exact Fr.app b
def aR{o':Z9}(h:n≠m)(e:g[m]?=some o):(g.set n o')[m]?=some o:=by rw[Ve h];exact e
end
def eN{b:Pt->Prop}:∀{vs:List U},(∀v∈vs,∃p,v=uP p/\b p) ->∃ps:List Pt,vs=ps.map uP /\∀p∈ps,b p
 |[],_=>⟨[],rfl,λp a=>nomatch a⟩
 |v::vs,h=>by
  let⟨p,rfl,a⟩:=h v Hr;let⟨ps,rfl,e⟩:=eN (vs:=vs) λw c=>h w (Hl _ c);exact⟨p::ps,rfl,λq d=>by rcases X8.mp d with rfl|z;exact a;exact e q z⟩
inductive Xa(P:Plan)(l:List Pt):Pt->Prop
 |base {p:Pt}:p∈l->Xa P l p
 |step {p q:Pt}:Xa P l p->q∈J0 P p->Xa P l q
section
variable{P:Plan}{l ks:List Pt}{p q:Pt}
def Xa.cut(a:Cuts P l)(h:Xa P l p):p∈Ae P:=by
 induction h with
 |base h=>exact a _ h
 |step _ h _=>exact iG h
def AY(P:Plan)(l:List Pt):List Pt:=open Classical in Ad ((Ae P).filter λq=>decide (Xa P l q))
open Classical in
def uV(a:Cuts P l):q∈AY P l↔Xa P l q:=by
 unfold AY;rw[aH,U4,Wd];exact⟨λh=>h.2,λh=>⟨h.cut a,h⟩⟩
open Classical in
def iF:Cuts P (AY P l):=λp a=>by
 unfold AY at a;rw[aH,U4]at a;exact a.1
def v7:(AY P l).Nodup:=cN _
def et(l:List Pt):Ad (Ad l)=Ad l:=dG λp=>aH
def xR(a:Cuts P l)(h:∀q,q∈ks↔Xa P l q):Ad ks=AY P l:=by
 rw[dG (l:=ks) (m:=AY P l) λq=>(h q).trans (uV a).symm];unfold AY;rw[et]
def aaT(c:∀p∈l,p∈ks)(b:∀p∈ks,∀q∈J0 P p,q∈ks)(h:Xa P l q):q∈ks:=by
 induction h with
 |base h=>exact c _ h
 |step _ a ih=>exact b _ ih _ a
def zf(b:ks.Nodup)(h:p ∉ ks):(ks++[p]).Nodup:=by
 have:=gF (a:=p) b;unfold Kd at this;rwa[Yn h]at this
def zV(h:p ∉ ks):(Kd ks p).length=ks.length+1:=by unfold Kd;rw[Yn h];simp
end
inductive XM(P:Plan)(l:List Pt):Pt->Prop
 |base {p:Pt}:p ∉ l->XM P l p
 |step {p q:Pt}:q∈J0 P p->XM P l q->XM P l p
def Aj(P:Plan)(l:List Pt):List Pt:=open Classical in Ad (l.filter λp=>decide (¬ XM P l p))
section
variable{P:Plan}{l ks:List Pt}{p q:Pt}
open Classical in
def cB:q∈Aj P l ↔ ¬ XM P l q:=by
 unfold Aj;rw[aH,U4,Wd];exact⟨λh=>h.2,λh=>⟨Hq λz=>h (.base z),h⟩⟩
def vA(h:q∈Aj P l):q∈l:=Hq λz=>cB.mp h (.base z)
def wJ:(Aj P l).Nodup:=cN _
def zc(h:∀q,q∈ks ↔ ¬ XM P l q):Ad ks=Aj P l:=by
 rw[dG (l:=ks) (m:=Aj P l) λq=>(h q).trans cB.symm];unfold Aj;rw[et]
def zm(d:∀p∈ks,p∈l)(c:∀p∈ks,∀q∈J0 P p,q∈ks)(a:p∈ks): ¬ XM P l p:=by
 intro h
 induction h with
 |base n=>exact n (d _ a)
 |step b _ ih=>exact ih (c _ a _ b)
def Ke(ks:List Pt)(p:Pt):List Pt:=ks.filter λq=>!decide (q=p)
def dZ:q∈Ke ks p↔q∈ks/\q≠p:=by unfold Ke;rw[U4,Vy,TZ]
def yU(h:ks.Nodup):(Ke ks p).Nodup:=h.sublist List.filter_sublist
def x6(h:p∈ks):(Ke ks p).length+1<=ks.length:=List.length_filter_lt_length_iff_exists.mpr ⟨p,h,by simp⟩
def xP:Cf (DS ks) (Ax p)=DS (Ke ks p):=by
 unfold Cf DS J9 Ke;rw[List.filter_map];congr 1;apply List.filter_congr;intro q _;show(!decide (Ax q=Ax p)) = !decide (q=p);by_cases e:q=p
 .rw [e];simp
 .rw [VB e,VB λz=>e (cH z)]
def aaZ{O:Su}(h:g[n]?=some (.ZG (DS ks)))(a:p∈ks):Bb (.ref n) (uP p) O g=.ok (.nx O) (g.set n (.ZG (DS (Ke ks p)))):=by
 have hk:Ax p∈(DS ks).map (·.1):=by rw[eC];exact bG.mpr a
 unfold Bb;simp![h,show keyOf (uP p)=some (Ax p)from rfl];rw[YE hk,xP]
def DB(P:Plan)(l:List Pt):List Pt:=l.filter λp=>(J0 P p).all λq=>decide (q∈l)
def AO(P:Plan):Nat->List Pt->List Pt
 |0,l=>l
 |n+1,l=>DB P (AO P n l)
def f9:q∈DB P l↔q∈l /\∀r∈J0 P q,r∈l:=by
 unfold DB;rw[U4,WY];simp![Wd]
def cw:∀{n:Nat},q∈AO P n l->q∈l
 |0,h=>h
 |n+1,h=>cw (f9.mp h).1
def fF:∀n,(AO P n l).length<=l.length
 |0=>Hk _
 |n+1=>Hi (Sn _ _) (fF n)
def fT:∀{n:Nat} {q:Pt},¬ XM P l q->q∈AO P n l
 |0,q,h=>Hq λz=>h (.base z)
 |n+1,q,h=>f9.mpr ⟨fT h,λr a=>fT λz=>h (.step a z)⟩
def jt(c:P.ok)(b:Cuts P l):∀{n:Nat} {q:Pt},AD P q<n->q∈AO P n l -> ¬ XM P l q
 |0,q,hl,h=>λ_=>by
  have:=(dw c (b q (cw h))).2.2.1;lia
 |n+1,q,hl,h=>λz=>by
  have e:=b q (cw h);cases z with
  |base a=>exact a (cw h)
  |step d hz=>
   have:=(dw c e).1 _ d;exact jt c b (n:=n) (by lia) ((f9.mp h).2 _ d) hz
def fE:∀n,(AO P n (Ad l)).Pairwise (λx y=>Ag (kyP x) (kyP y)=true)
 |0=>by
  have:=bf (l.map kyP);rw[aW]at this;exact To.mp this
 |n+1=>(fE n).filter _
def acO{a b:List Pt}(f:a.Pairwise λx y=>Ag (kyP x) (kyP y)=true)(e:b.Pairwise λx y=>Ag (kyP x) (kyP y)=true)(h:∀q,q∈a↔q∈b):a=b:=by
 apply map_inj (λa b=>cM);refine cI (To.mpr f) (To.mpr e) λx=>?_;constructor
 .intro c;let⟨p,d,rfl⟩:=WA.mp c;exact bG.mpr ((h p).mp d)
 .intro c;let⟨p,d,rfl⟩:=WA.mp c;exact bG.mpr ((h p).mpr d)
def nL(b:P∈Aw)(a:p∈Ae P):AD P p<8:=by
 have:(Aw.all λP=>(Ae P).all λp=>decide (AD P p<8))=true:=by decide +kernel
 exact Ht (WY.mp (WY.mp this P b) p a)
def kB{m:List Pt}(h:∀p,p∈l↔p∈m)(z:XM P l q):XM P m q:=by
 induction z with
 |base a=>exact .base λy=>a ((h _).mpr y)
 |step a _ ih=>exact .step a ih
def aap(c:P∈Aw)(b:P.ok)(a:Cuts P l):AO P 8 (Ad l)=Aj P l:=by
 refine acO (fE 8) ?_ λq=>?_
 .have:=fE (P:=P) (l:=Aj P l) 0
  unfold Aj at this ⊢;rw[show AO P 0=id from rfl]at this;exact(et _) ▸ this
 .have e:XM P (Ad l) q↔XM P l q:=⟨kB λp=>aH,kB λp=>aH.symm⟩
  rw[cB,<-e];exact⟨λh=>jt b a.W9 (nL c (a.W9 q (cw h))) h,fT⟩
end
def Clo(P:Plan)(l:List Pt):Prop:=∀p∈l,∀q∈J0 P p,q∈l
section
variable{P:Plan}{l m:List Pt}{p q:Pt}
def js(b:Cuts P l):Cuts P (Aj P l):=λp a=>b p (vA a)
def xD:Ad (Aj P l)=Aj P l:=by unfold Aj;rw[et]
def Clo.app(h:Clo P l)(k:Clo P m):Clo P (l++m):=λp b q a=>by
 rcases Wh.mp b with z|z
 .exact Wh.mpr (.inl (h p z q a))
 .exact Wh.mpr (.inr (k p z q a))
def Cuts.app(h:Cuts P l)(k:Cuts P m):Cuts P (l++m):=λp a=>(Wh.mp a).elim (h p) (k p)
end
section
variable{P:Plan}{l:List Pt}{p q:Pt}
def j8:Jb (xs++[u]) (-1)=some u:=by
 have e:L2.ixN (xs++[u]).length (-1)=some xs.length:=by
  unfold L2.ixN;rw[XZ,RL];rw[Yn (by lia),YE (by lia)]
  congr 1;lia
 unfold Jb L2.atI;rw[e];simp
end
end
end PI
variable{p q:PI.Pt}{ks l:List PI.Pt}
namespace ZD
noncomputable section
open PI
section
variable{X:XP}{P:Plan}
def fN(a:P.ok)(h:Q (.bl (Ar P p)) g):JA J (d+1) 0 [Zr P,uP p] g X Q:=by
 have h1:=a.ss;simp? only[EM]
 simp?[*];simp![Ar]at h;refine af (λk1=>?_) λk1=>by simp?[*];simpa[k1]using h
 simp?[*];refine af (λk2=>?_) λk2=>?_
 .simp? [*]
  refine af (λk3=>?_) λk3=>by simp?[*];simpa[k1,k2,k3]using h
  simp?[*];simpa[k1,k2,k3]using h
 .simp? [*];simpa[k1,k2]using h
def uc(b:P.ok)(a:Ar P p=true)(h:Q .ZJ g):JA J (d+2) 1 [Zr P,uP p] g X Q:=by
 simp? only[Ep]
 simp?;refine fN b ?_;simp?;simp![a];simp?;exact h
def iD(a:P.ok)(b:Ar P p=true)(h:Q (.bl (Az P p)) g):JA J (d+3) 2 [Zr P,uP p] g X Q:=by
 have h0:=a.s0;simp? only[Ey]
 simp?;refine uc a b ?_;simp?[*];simp![Az]at h;refine af (λk1=>?_) λk1=>by simp?[*];simpa[k1]using h
 simp?[*];simpa[k1]using h
def dA(c:P.ok)(a:Ar P p=true)(b:Az P p=false)(h:Q .ZJ g):JA J (d+4) 3 [Zr P,uP p] g X Q:=by
 simp? only[EI]
 simp?;refine iD c a ?_;simp?[b];exact h
def dS(h:Q (.int (stride p)) g):JA J (d+1) 4 [uP p] g X Q:=by
 simp? only[EO]
 simp?[bj];unfold stride at h
 (repeat' (refine af (λ_=>?_) (λ_=>?_)<;>(try simp?[bj, *])))
 all_goals simp_all
def iH(h:Q (.bl (A9 p)) g):JA J (d+2) 5 [uP p] g X Q:=by
 have s0:=(cv p).1;have sb:=d0 p;simp? only[Ex]
 simp?;refine dS ?_;simp?[s0,sb];unfold A9 at h
 (repeat' (refine af (λ_=>?_) (λ_=>?_)<;>(try simp?[bj, *])))
 all_goals simp_all
def t9(h:Q (u4 (BE p)) g):JA J (d+2) 6 [uP p] g X Q:=by
 have s0:=(cv p).1;have sb:=d0 p;simp? only[Es]
 simp?;refine dS ?_;simp?[s0,sb];unfold BE lying upright at h
 (repeat' (refine af (λ_=>?_) (λ_=>?_)<;>(try simp?[bj, *])))
 all_goals simp_all
def tQ(h:Q (u4 (By p)) g):JA J (d+2) 7 [uP p] g X Q:=by
 have s0:=(cv p).1;have a:0<2*stride p:=by lia
 have sb:=jv p;have ss:=iz p;simp? only[Eg]
 simp?;refine dS ?_;simp?[s0,a,sb,ss];unfold By BQ rising falling at h
 (repeat' (refine af (λ_=>?_) (λ_=>?_)<;>(try simp?[bj, *])))
 all_goals simp_all
def yd(h:Q (u4 (Av p)) g):JA J (d+3) 8 [uP p] g X Q:=by
 simp? only[ES]
 simp?;refine iH ?_;simp?;unfold Av at h;refine af (λk=>?_) λk=>?_
 .rw [YE k]at h
  simp?;refine tQ ?_;simp?;exact h
 .rw [Yn (by simp[k])]at h
  simp?;refine t9 ?_;simp?;exact h
def wq(a:P.ok)(c:Ar P p=true)(f:Az P p=false)(h:BW g ((J0 P p).map uP) Q):JA J (d+5) 9 [Zr P,uP p] g X Q:=by
 simp? only[EK]
 simp?;refine dA a c f ?_;simp?;refine yd ?_;simp?;refine bL [(Av p).2.1,(Av p).2.2] uP (λq=>Ar P q&&!Az P q) uP (λg'=>g'=g) ((J0 P p).map uP) rfl (λk g' e=>xO) (λq j=>?_) #[3] rfl ?_
 .simp?
  rintro g' rfl;refine fN a ?_;simp?;refine af (λk1=>?_) λk1=>?_
  .simp?
   refine iD a k1 ?_;simp?[k1];refine af (λk2=>?_) λk2=>?_<;>simp?[k1,k2]
  .simp? [k1,Oa]
 .rintro g' rfl
  have hl:=cu P p;exact⟨by rw[Zg];lia,h _ _ (Hk _) ai⟩
def u5(c:P.ok)(f:Ar P p=true)(i:Az P p=false)(h:∀gs n,g.length<=n->(g++gs)[n]?=some (.Z5 ((J3 P p).map uP))->Q (.ref n) (g++gs)):JA J (d+5) 10 [Zr P,uP p] g X Q:=by
 have o:(2:Int)<An:=by decide
 have b:∀(m:Nat) (g2 gs:G) (O:Su),AU p=AU p->g2=g++gs->g2[m]?=some (.Z5 ((AU p).map uP))->O=[none,some (Zr P)]->JJ J (d+4) (.Z5 m) 0 (.nm 0) [.call 0 [.L 1,.L 0]] [] (.L 0) [] O g2 (λ_ _ _=>False) λS g=>S.length<=16777000/\Q (.ref g.length) (g++[.Z5 S]):=λm g2 gs O _ e l j=>by
  subst e;subst j;have s:(AU p).length<=4:=by unfold AU;split;simp;split<;>simp
  refine bL (AU p) uP (Ar P) uP (λg'=>g'=g++gs) ((J3 P p).map uP) rfl (λk g' e=>by rw[e];exact aI l) (λq r=>?_) (by lia) rfl ?_
  .simp?
   rintro g' rfl;refine fN c ?_;simp?;refine af (λk1=>?_) λk1=>?_<;>simp?[k1]
  .rintro g' rfl
   have:=Sn (Ar P) (AU p);exact d8 h (by rw[Zg];unfold J3;lia)
 simp? only[ED]
 simp?;refine dA c f i ?_;simp?;refine dS ?_;simp?;refine iH ?_;simp?;refine af (λk1=>?_) λk1=>?_
 .simp? [ai]
  exact b _ _ _ _ rfl rfl (by rw[ai];simp[AU,k1]) rfl
 .simp?
  refine af (λk2=>?_) λk2=>?_
  .have a:1<stride p:=by simpa using k2
   simp?[ai,o];exact b _ _ _ _ rfl rfl (by rw[ai];simp[AU,k1,a]) rfl
  .have a : ¬ 1<stride p:=by simpa using k2
   simp?[ai];exact b _ _ _ _ rfl rfl (by rw[ai];simp[AU,k1,a]) rfl
def fw(A:P∈Aw)(z:P.ok)(c:g[n]?=some (.Z5 (l.map uP)))(y:l.length<=300)(j:Cuts P l)(h:∀(g':G) (m:Nat),Old g g'->g.length<=m->g'[m]?=some (.ZG (DS (Ad l)))->Q (.ref m) g'):JA J (d+5) 11 [Zr P,.ref n] g X Q:=by
 simp? only[EH]
 simp?[c];refine bK (l.map uP) (λk O g'=>g'=g /\∃o,O=[some (Zr P),some (.ref n),o]) (λk O g' a=>by rw[a.1];exact aI c) ⟨rfl,_,rfl⟩ (λk u O g' hk a=>?_) (λO g' a=>?_)
 .obtain ⟨rfl,o,rfl⟩:=a
  simp![Wi,XB]at hk;let⟨p,f,rfl⟩:=hk;let⟨t,w⟩:=aZ.mp (j p (Vw f));simp?;refine dA z t w ?_;simp?;exact⟨_,rfl⟩
 .obtain ⟨rfl,o,rfl⟩:=a
  have r:(g'++[Z9.Z5 ((Ad l).map uP)])[g'.length]?=some (.Z5 ((Ad l).map uP)):=ai;simp?[x4 A c y j,r];refine bL (Ad l) uP (λ_=>true) (λp=>.ZY [uP p,.bl true]) (λg2=>g2=g'++[Z9.Z5 ((Ad l).map uP)]) ((Ad l).map λp=>.ZY [uP p,.bl true]) (by rw[xm]) (λk g2 e=>by rw[e];exact aI r) (λp f=>?_) (by have:=kT l;lia) rfl ?_
  .simp?
   rintro g2 rfl;simp?[keyOf,intsOf]
  .rintro g2 rfl
   have f1:=jK (l:=Ad l) (ks:=[]) (cN l);rw[Ql]at f1;simp?[show dfold ((Ad l).map λp=>.ZY [uP p,.bl true]) []=some (DS (Ad l))from f1];exact h _ _ Old.app.more #[3] ai
def jB(j:P.ok)(i:p∈Ae P)(b:SetAt g m ks)(h:BW g ((A0 P ks p).map uP) Q):JA J (d+6) 12 [Zr P,.ref m,uP p] g X Q:=by
 let⟨c,f⟩:=aZ.mp i;simp? only[EL]
 simp?;refine wq j c f λgs n r e=>?_;simp?[e];refine bL (J0 P p) uP (λq=>!decide (q∈ks)) uP (λg'=>g'=g++gs) ((A0 P ks p).map uP) rfl (λk g' e'=>by rw[e'];exact aI e) (λq o=>?_) (by have:=cu P p;lia) rfl ?_
 .have dl:=(b.app (gs:=gs)).look (p:=q)
  have l:=gB (ks:=ks) (a:=q);have hi:=(b.app (gs:=gs)).items;simp![items]at hi;simp?;rintro g' rfl;simp?[hi,dl,l];refine af (λk1=>?_) λk1=>?_<;>simp?[k1]
 .rintro g' rfl
  have hl:=cu P p;have:=Sn (λq=>!decide (q∈ks)) (J0 P p);exact d8 h (by rw[Zg];unfold A0;lia)
def x5(hM:P∈Aw)(v:P.ok)(hn:g[n]?=some (.Z5 (l.map uP)))(hl:l.length<=300)(F:Cuts P l)
  (h:∀(g':G) (m:Nat),Old g g'->g.length<=m->g'[m]?=some (.Z5 ((Aj P l).map uP))->Q (.ref m) g'):JA J (d+8) 13 [Zr P,.ref n] g X Q:=by
 have hs77:=(F.W9).len hM (cN l);simp? only[EN]
 simp?;refine fw hM v hn hl F λc m o1 lm Y=>?_;have Vz:m<c.length:=(Ye.mp Y).1;have gl:=o1.len;simp?[↓xl (.inl Y)];refine hJ (λk O g'=>∃(ks W:List Pt) (o:Option U),Old g g'/\g'[m]?=some (.ZG (DS ks))/\g'[c.length]?=some (.Z5 (W.map uP))/\ks.Nodup/\(∀p∈ks,p∈l)/\(∀p,p ∉ ks->XM P l p)/\Cuts P W/\(∀p∈ks,p∈W \/∀q∈J0 P p,q∈ks)/\W.length+4*ks.length<=385/\5*ks.length+W.length=k/\O=[some (Zr P),some (.ref n),some (.ref m),some (.ref c.length),o]) ?_ _ _ _ ⟨Ad l,Ad l,none,o1.more,aj Y,ai,cN l,(λp b=>aH.mp b),(λp b=>.base λz=>b (aH.mpr z)),F.W9,(λp b=>.inl b),by lia,rfl,rfl⟩
 rintro k O g' ⟨ks,W,o,ho,e2,C,nd,x,w,hW,H,hw,hk,rfl⟩;have Xj:Cuts P ks:=λp b=>F p (x p b);rcases List.eq_nil_or_concat W with Sg|⟨W',p,rfl⟩
 .subst Sg
  have same:Ad ks=Aj P l:=zc λq=>⟨zm x (λp b=>(H p b).resolve_left (λz=>nomatch z)),λz=>Hq λy=>z (w q y)⟩;simp?[C,Qs,gC (.inl e2) nd (by lia)]
  rw[same];exact h _ _ ho.more ho.len ai
 .have ne:(W'.concat p).map uP=W'.map uP++[uP p]:=by simp
  rw[ne]at C;have lw:(W'.concat p).length=W'.length+1:=by simp
  have mem:∀q,q∈W'.concat p↔q∈W'\/q=p:=λq=>by simp
  have M:p∈Ae P:=hW p ((mem p).mpr (.inr rfl));have i:Cuts P W':=λq a=>hW q ((mem q).mpr (.inl a));have pop:=jw C;have B:(g'.set c.length (.Z5 (W'.map uP)))[m]?=some (.ZG (DS ks)):=aR (by lia) e2
  have T:(g'.set c.length (.Z5 (W'.map uP)))[c.length]?=some (.Z5 (W'.map uP)):=aF C;have o2:Old g (g'.set c.length (.Z5 (W'.map uP))):=ho.set gl;have ind:=ij (p:=p) (.inl B);simp?[C,yI,pop,↓ind];generalize g'.set c.length (.Z5 (W'.map uP))=g3 at B T o2 ind ⊢;refine af (λk1=>?_) λk1=>?_
  .replace k1:p∈ks:=by simpa using k1
   simp?;refine jB v M (.inl B) λgs n4 hn4 A=>?_;have K:=aj (gs:=gs) B;have S:=aj (gs:=gs) T;have N:=o2.more (gs:=gs);generalize g3++gs=s at A K S N ⊢;have f:∀q,q∈A0 P ks p↔q∈J0 P p/\q ∉ ks:=λq=>by unfold A0;rw[U4];simp
   cases L:A0 P ks p with
   |nil=>
    rw[L]at A;simp?[A,Qs];refine⟨_,?_,ks,W',_,N,K,S,nd,x,w,i,λr j=>?_,by lia,rfl,rfl⟩
    .lia
    .rcases H r j with z|z
     .rcases (mem r).mp z with z|z
      .exact .inl z
      .refine .inr λq a=>?_
       rw[z]at a;exact Hq λy=>by have:=(f q).mpr ⟨a,y⟩;rw[L]at this;cases this
     .exact .inr z
   |cons E r0=>
    have WU:E∈A0 P ks p:=by rw[L];exact Hr
    rw[L]at A;have dl:∀O,Bb (.ref m) (uP p) O s=.ok (.nx O) (s.set m (.ZG (DS (Ke ks p)))):=λO=>aaZ K k1;have I:(s.set m (.ZG (DS (Ke ks p))))[c.length]?=some (.Z5 (W'.map uP)):=aR (by lia) S
    have D:(s.set m (.ZG (DS (Ke ks p))))[m]?=some (.ZG (DS (Ke ks p))):=aF K;have Z:Old g (s.set m (.ZG (DS (Ke ks p)))):=N.set lm;simp?[A,List.isEmpty_cons,dl,I];generalize s.set m (.ZG (DS (Ke ks p)))=g5 at I D Z ⊢;let⟨pi,pc⟩:=aZ.mp M;refine u5 v pi pc λgs n6 hn6 V=>?_;have Xq:(J3 P p).length<=4:=Hi (Sn _ _) (by unfold AU;split;simp;split<;>simp)
    have dlen:=x6 k1;have ext:=jd (aj (gs:=gs) I) V (by rw[Zg,Zg];lia)
    simp?[ext];refine⟨_,?_,Ke ks p,W'++J3 P p,_,(Z.more).set gl,aR (by lia) (aj D),?_,yU nd,λq a=>x q (dZ.mp a).1,λq a=>?_,λq a=>?_,λr j=>?_,?_,rfl,rfl⟩
    .rw [XZ];lia
    .rw [Qd];exact aF (aj I)
    .by_cases e:q=p
     .rw [e];exact .step ((f E).mp WU).1 (w E ((f E).mp WU).2)
     .exact w q λz=>a (dZ.mpr ⟨z,e⟩)
    .rcases Wh.mp a with z|z
     .exact i q z
     .exact ((ju v M).mp z).1
    .obtain ⟨t,R⟩:=dZ.mp j
     by_cases u:p∈J0 P r
     .exact .inl (Wh.mpr (.inr ((ju v M).mpr ⟨Xj r t,u⟩)))
     .rcases H r t with z|z
      .rcases (mem r).mp z with z|z
       .exact .inl (Wh.mpr (.inl z))
       .exact absurd z R
      .exact .inr λq a=>dZ.mpr ⟨z q a,λe=>u (by rw[<-e];exact a)⟩
    .rw [XZ];lia
  .replace k1:p ∉ ks:=by simpa using k1
   simp?;refine⟨_,?_,ks,W',_,o2,B,T,nd,x,w,i,λr j=>?_,by lia,rfl,rfl⟩
   .lia
   .rcases H r j with z|z
    .rcases (mem r).mp z with z|z
     .exact .inl z
     .exact absurd (by rw[<-z];exact j) k1
    .exact .inr z
def LkL(P:Plan)(l:List Pt):List Pt->Prop
 |a::b::r=>(a∈l/\b∈J0 P a)/\LkL P l (b::r)
 |_=>True
def lA{l:List Pt}{q:Pt}:∀{r:List Pt},LkL P l (r++[p])->p∈l/\q∈J0 P p->LkL P l (r++[p]++[q])
 |[],_,h=>⟨h,trivial⟩
 |[a],⟨h1,_⟩,h=>⟨h1,h,trivial⟩
 |a::b::r,⟨h1,h2⟩,h=>⟨h1,lA (r:=b::r) h2 h⟩
def qR{l:List Pt}{q:Pt}:∀{r:List Pt} {k:Nat},LkL P l r->r[k]?=some p->r[k+1]?=some q->p∈l/\q∈J0 P p
 |[],k,_,e,_=>by cases e
 |[a],k,_,_,e=>by simp at e
 |a::b::r,0,h,d,c=>by cases d;cases c;exact h.1
 |a::b::r,k+1,h,d,c=>qR (r:=b::r) (k:=k) h.2 d c
def zW(f:p∈l)(e:p ∉ Aj P l):∃c cs,A0 P (Aj P l) p=c::cs/\c∈J0 P p/\c ∉ Aj P l:=by
 have d:∀q,q∈A0 P (Aj P l) p↔q∈J0 P p/\q ∉ Aj P l:=λq=>by unfold A0;rw[U4];simp
 have ho:XM P l p:=Hq λz=>e (cB.mpr z);cases hl:A0 P (Aj P l) p with
 |nil=>
  cases ho with
  |base a=>exact absurd f a
  |step a b=>
   have:=(d _).mpr ⟨a,λz=>cB.mp z b⟩;rw[hl]at this;cases this
 |cons c cs=>
  let⟨a,b⟩:=(d c).mp (by rw[hl];exact Hr)
  exact⟨c,cs,rfl,a,b⟩
def yO(o:P∈Aw)(i:P.ok)(I:g[n]?=some (.Z5 (l.map uP)))(K:l.length<=300)(x:Cuts P l)(D:p∈Ae P)
  (h0:∀g',Old g g'->p∈Aj P l->X 2 [uP p] g')
  (h:∀(g':G) (m:Nat) (r:List Pt),Old g g'->g.length<=m->g'[m]?=some (.Z5 ((p::r).map uP))->p ∉ Aj P l->LkL P l (p::r)->(p::r).length<=8->(∃z,(p::r).getLast? = some z/\z ∉ l)->Q (.ref m) g'):JA J (d+10) 14 [Zr P,.ref n,uP p] g X Q:=by
 let⟨R,S⟩:=aZ.mp D;have l77:=(js x).len o wJ;simp? only[ET]
 simp?;refine fw o i I K x λg1 m1 o1 Z e1=>?_;simp?;refine dA i R S ?_;simp?;refine x5 o i (o1.get I) K x λg2 m2 o2 Y e2=>?_;simp?;refine fw o i e2 (by lia) (js x) λt B T W A=>?_
 rw[xD]at A;have w:=o2.trans T;have N:=w.get e1;have nd:=ij (p:=p) (.inl A);simp?[↓nd];refine af (λk1=>?_) λk1=>?_
 .replace k1:p∈Aj P l:=by simpa using k1
  simp?;exact h0 _ (o1.trans w) k1
 .replace k1:p ∉ Aj P l:=by simpa using k1
  simp?;refine hJ (λk O g'=>∃(r:List Pt) (q:Pt),Old g g'/\g'[m1]?=some (.ZG (DS (Ad l)))/\g'[B]?=some (.ZG (DS (Aj P l)))/\g'[t.length]?=some (.Z5 ((r++[q]).map uP))/\(r++[q]).head? = some p/\LkL P l (r++[q])/\q∈Ae P/\q ∉ Aj P l/\AD P q+r.length=AD P p/\8-r.length=k/\O=[some (Zr P),some (.ref n),some (uP p),some (.ref m1),some (.ref B),some (.ref t.length)]) ?_ _ _ _ ⟨[],p,(o1.trans w).more,aj N,aj A,ai,rfl,trivial,D,k1,by simp,rfl,rfl⟩
  rintro k O g' ⟨r,q,ho,f1,L,v,E,F,e,C,hlv,hk,rfl⟩;have U:=nL o D;have V:=(dw i e).2.2.1;have hr:r.length<8:=by lia
  have H:Jb ((r++[q]).map uP) (-1)=some (uP q):=by rw[Qd];exact j8
  have Vq:=ij (p:=q) (.inl f1);simp?[v,H,↓Vq];refine af (λk2=>?_) λk2=>?_
  .replace k2:q∈Ad l:=by simpa using k2
   have j:q∈l:=aH.mp k2;simp?[v,H];refine jB i e (.inl L) λgs n6 hn6 M=>?_;let⟨c,cs,WT,f,YW⟩:=zW j C;rw[WT]at M;have u:(g'++gs)[t.length]?=some (.Z5 ((r++[q]).map uP)):=aj v;have ap:=jn (y:=uP c) u (by rw[Zg,XZ];simp;lia)
   simp?[M,ap];have l3:=(o1.trans w).len;have g13:m1<t.length:=(Ye.mp N).1;have g33:B<t.length:=(Ye.mp A).1;refine⟨_,?_,r++[q],c,(ho.more).set l3,aR (by lia) (aj f1),aR (by lia) (aj L),?_,?_,lA F ⟨j,f⟩,iG f,YW,?_,rfl⟩
   .rw [XZ];simp;lia
   .rw [aF u];simp
   .rw [List.head?_append,E];rfl
   .have:=(dw i e).1 c f
    rw[XZ];simp;lia
  .replace k2:q ∉ Ad l:=by simpa using k2
   simp?;cases b:r++[q]with
   |nil=>simp at b
   |cons a s=>
    rw[b]at E F v;cases E;refine h _ _ s ho (o1.trans w).len v k1 F ?_ ⟨q,?_,λz=>k2 (aH.mpr z)⟩
    .rw [<-b,XZ];simp;lia
    .rw [<-b];simp
def t8{i:Int}(h:Q (.bl true) g):JA J (d+1) 15 [.int i] g X Q:=by
 simp? only[Eo]
 simp?;exact h
def fm(n:Nat):∀(D:Dt) (u v:U) (Q:U->G->Prop),D.ok n->Rep g D u->Rep g D v->Q (.bl true) g->JA J (d+n+1) 16 [u,v] g X Q:=by
 induction n with
 |zero=>intro D u v Q F;exact F.elim
 |succ n ih=>
  intro D u v Q F t r h;refine(oE (d:=d+(n+1)) #[2] #[2]).2 ?_
  simp![EA];have list:∀(ds:List Dt) (S c:List U),(∀D∈ds,D.ok n)->Reps g ds S->Reps g ds c->items u g=some S->items v g=some c ->∀P:Fl->G->Prop,(∀O,P (.nx O) g)->JI J (d+(n+1)) (.nm 2) (.YU 0 (c.length:Int).toNat) 0 [.Zv (.not (.call 16 [.idx (.L 0) (.L 2),.idx (.L 1) (.L 2)])) [.ret (.ZW (.bl false))] []] [some u,some v,none] g X P:=λds S c E f j W V P I=>by
   refine cj ((JY (c.length:Int)).map U.int) (λk O g'=>g'=g /\∃o,O=[some u,some v,o]) (λk O g' _=>bw) (λk w O g' hk K=>?_) (λO g' K=>by rw[K.1];exact I O) _ 0 _ _ (R5 _) ⟨rfl,none,rfl⟩
   let⟨rfl,o,rfl⟩:=K;simp![Wi,XB]at hk;let⟨i,hi,rfl⟩:=hk;have YI:=lI.mp (Vw hi);have z:=f.length;have y:=j.length;have M:ds[i.toNat]?=some ds[i.toNat]:=YJ ()
   let⟨a,ea,IK⟩:=f.get M;let⟨b,Y,T⟩:=j.get M;have R:Jb S i=some a:=by rw[cb YI.1 (by lia),ea]
   have J6:Jb c i=some b:=by rw[cb YI.1 (by lia),Y]
   simp![↓dh,↓mG,↓pX,↓il,↓iq,↓ir,↓eG,↓acQ,↓adz,↓acX,↓adi,↓sj,↓sZ,↓acM,↓adE,↓qk,↓acT,↓sr,↓abU,↓tH,↓tL,↓lK,↓l7,↓lD,↓kJ,↓aaN,↓KV_s,↓adQ,↓KV_n,↓tN,↓k_E,↓tq,↓adO,↓tK,↓sY,↓sD,↓abN,↓mi,↓lX,↓mh,↓qF,↓tj,↓lV,↓lP,↓sX,↓abV,↓pL,↓mR,↓nU,↓l6,↓nF,↓qz,↓adA,↓k_or,↓ady,↓sA,↓oH,↓rN,↓ou,↓sM,↓nC,↓sF,↓nj,↓rG,↓aaJ,↓mm,↓n5,↓aa7,↓ab1,↓mq,↓sP,↓nR,↓pd,↓oz,↓sO,↓lB,↓oq,↓ab7,↓oY,↓oR,↓sR,↓nD,↓abv,↓oG,↓m8,↓qV,↓pS,↓aa6,↓nI,↓nH,↓rM,↓mZ,↓acH,↓nA,↓nv,↓oO,↓qT,↓tF,↓nt,↓su,↓tz,↓kO,↓qr,↓rP,↓rD,↓rV,↓oU,↓sN,↓qc,↓nO,↓acr,↓pT,↓xu,↓mf,↓ade,↓ot,↓acg,↓aa5,↓abM,↓aay,↓aak,↓zx,↓sQ,↓l0,↓mV,↓lY,↓qe,↓nk,↓lG,↓aal,↓ny,↓qW,↓nN,↓lL,↓rQ,↓oP,↓aa0,↓pP,↓aaH,↓yS,↓bE,↓kP,↓ze,↓yT,↓lC,↓pk,↓m7,↓aax,↓nq,↓qv,↓oi,↓nW,↓oV,↓pN,↓pJ,↓oQ,↓pB,↓oN,↓qy,↓ph,↓ik,↓nJ,↓om,↓pK,↓eS,↓oA,↓qX,↓pR,↓qo,↓rR,↓qD,↓sW,↓qh,↓rE,↓nY,↓pC,↓nr,↓oK,↓mY,↓nT,↓qg,↓oZ,↓mw,↓pO,↓n8,↓pM,↓pY,↓nS,↓nP,↓oJ,↓pI,↓qY,↓rF,↓sG,↓rY,↓sI,↓rT,↓oC,↓rp,↓qL,↓sm,↓kH,↓ql,↓tD,↓rW,↓rg,↓rS,↓rj,↓qw,↓rC,↓nB,↓rZ,↓oy,↓ll,↓ni,↓qZ,↓pW,↓tu,↓rO,↓rX,↓qP,↓sv,↓mz,↓mv,↓nh,↓nZ,↓qJ,↓pG,↓nu,↓qu,↓sh,↓rL,↓sH,↓se,↓qt,↓qi,perm,pick,BR,Qr,DE,Dm,Dk,CZ,Ti,List.lookup_nil,Nat.reduceBEq,List.contains_cons,List.contains_nil,Dx,List.getElem?_cons_zero,OM,WJ,Ta,List.set_cons_zero,List.set_cons_succ,Xu,OQ,List.replicate_succ,List.replicate_zero,PK,Ql,R5,Nat.reduceAdd,Nat.reduceSub,Nat.reduceLT,Nat.reduceLeDiff,Nat.reduceEqDiff,Nat.lt_add_left_iff_pos,Ji,Af,bindL,Tj,Vb,ite_true,ite_false,and_true,true_and,Option.getD_some,eQ,eV,nK,lO,lg,lZ,sC,qG,qK,s8,gJ,gk,qm,tJ,qp,cin,iw,qj,gD,Bool.or_false,Bool.or_true,Bool.true_or,Bool.false_or,clt,cle,cgt,cge,DT,Ja,Fu,B0,Jf,AV,lift,Je,CN,Dy,BA,alloc,AQ,fY,Ab,sk,si,sJ,rq,sL,rA,Ay,Cd,VJ,Int.reduceLT,Int.reduceLE,Int.reduceNeg,Int.reduceEq,Pj,Qy,S9,Oe,Bool.and_true,O6,Bool.and_self,Wd,eq_self,W,V,R,J6];refine ih _ a b _ (E _ (Vw M)) IK T ?_;simp?;exact⟨_,rfl⟩
  cases D with
  |ZJ=>cases t;cases r;simp?;exact h
  |bl b=>cases t;cases r;simp?;cases b<;>exact h
  |int i=>
   cases t;cases r;simp?;refine t8 (d:=d+n) ?_;simp?;simpa using h
  |str s=>cases t;cases r;simp?;simpa using h
  |ZY ds=>
   let⟨S,rfl,f⟩:=t;let⟨c,rfl,j⟩:=r;have z:=f.length;have y:=j.length;let⟨A,E⟩:=Dt.Rt.mp F;have N:(S.length:Int)=c.length:=by lia
   have H:Al (c.length:Int)=true:=aP (by lia) (by lia)
   simp?[N,H];refine list ds S c E f j rfl rfl _ λO=>?_;simp?;exact h
  |Z5 ds=>
   let⟨n1,S,rfl,C,f⟩:=t;let⟨Z,c,rfl,B,j⟩:=r;have z:=f.length;have y:=j.length;let⟨A,E⟩:=Dt.QV.mp F;have N:(S.length:Int)=c.length:=by omega
   have H:Al (c.length:Int)=true:=aP () ()
   simp?[N,H,C,B];refine list ds S c E f j (by simp![items,C]) (by simp![items,B]) _ λO=>?_
   simp?;exact h
def uF(a:List Int)(h:∀zs:List Int,Q (.ref 2) [.Z5 (zs.map U.int),.Z5 (zs.map U.int),Bk 1 0 7]):JA J (d+1) 17 [.Zy (a.map U.int)] [] X Q:=by
 simp? only[EF]
 simp?[CU];have b:A1 (a.map U.int) none (some 63)=(DM a none (some 63)).map U.int:=zo a _ _;simp?[b,Bk];exact h _
def aC{m:Int}(K:Bag g)(j:0<m)(P:m<1000000000000)(h:∀(r:Int) (g':G),0<=r->r<m->Fr g g'->Q (.int r) g'):JA J (d+1) 18 [.ref 2,.int m] g X Q:=by
 let⟨xs,at_,C,h1,h2⟩:=K;have Ka:1<g.length:=(Ye.mp h1).1;have O:2<g.length:=(Ye.mp h2).1;have c:m<An:=by unfold An;lia
 have o:(2147483647:Int)<An:=by decide
 have k:(64:Int)<An:=by decide
 have H:small 48271:=br #[1]
 have F:small 9973:=br #[1]
 have s3:small 31:=br #[1]
 have s4:small 69621:=br #[1]
 simp? only[Eu]
 simp?[h1,h2,Bk];have N:∀a:Int,0<=a -> ¬ 1000000000000000000<=a->wpS J d [(.Zv (.cmp .ge (.L 4) (.ZS .pow (.ZW (.int 10)) (.ZW (.int 18)))) [(.sub (.L 2) (.ZS .mod (.L 3) (.bi .len [(.L 2)])) (.ZS .fdiv (.L 4) (.L 1))),(.ret (.ZS .mod (.L 4) (.L 1)))] []),(.sub (.L 0) (.ZW (.int 1)) (.ZS .add (.L 3) (.ZW (.int 1)))),(.sub (.L 0) (.ZW (.int 2)) (.ZS .mod (.ZS .add (.ZS .add (.ZS .add (.ZS .mul (.idx (.L 0) (.ZW (.int 2))) (.ZW (.int 48271))) (.ZS .mul (.L 4) (.ZW (.int 9973)))) (.ZS .mul (.L 3) (.ZW (.int 31)))) (.ZW (.int 11))) (.ZW (.int 2147483647)))),(.ret (.ZS .mod (.ZS .fdiv (.ZS .mod (.ZS .mul (.idx (.L 0) (.ZW (.int 2))) (.ZW (.int 69621))) (.ZW (.int 2147483629))) (.ZW (.int 64))) (.L 1)))] [some (.ref 2),some (.int m),some (.ref 1),some (.int at_),some (.int a)] g X λw g=>JO w (lk λu=>Q u g):=λa A y=>by
  have f:=aF (o':=Bk 1 (at_+1) C) h2;have t:=aF (o':=Bk 1 (at_+1) ((C*48271+a*9973+at_*31+11) % 2147483647)) f;have M : ¬ a<0:=by lia
  simp?[h1,h2,kh,M,y,fM h2 (show(0:Int)<=1 by decide) #[3],H,F,s3,s4,j,c,o,k,show(1:Int).toNat=1 from rfl,f]
  simp?[fM f (show(0:Int)<=2 by decide) #[3],H,F,s3,s4,j,c,o,k,show(2:Int).toNat=2 from rfl,t]
  exact h _ _ (P1 _ (by lia)) (Pd _ j) ((Fr.Sh ⟨xs,at_,C,h1,h2⟩ _ _).trans (Fr.Sh (Fr.Sh ⟨xs,at_,C,h1,h2⟩ _ _).Zd _ _))
 have B:∀a:Int,0<xs.length->1000000000000000000<=a->wpS J d [(.Zv (.cmp .ge (.L 4) (.ZS .pow (.ZW (.int 10)) (.ZW (.int 18)))) [(.sub (.L 2) (.ZS .mod (.L 3) (.bi .len [(.L 2)])) (.ZS .fdiv (.L 4) (.L 1))),(.ret (.ZS .mod (.L 4) (.L 1)))] []),(.sub (.L 0) (.ZW (.int 1)) (.ZS .add (.L 3) (.ZW (.int 1)))),(.sub (.L 0) (.ZW (.int 2)) (.ZS .mod (.ZS .add (.ZS .add (.ZS .add (.ZS .mul (.idx (.L 0) (.ZW (.int 2))) (.ZW (.int 48271))) (.ZS .mul (.L 4) (.ZW (.int 9973)))) (.ZS .mul (.L 3) (.ZW (.int 31)))) (.ZW (.int 11))) (.ZW (.int 2147483647)))),(.ret (.ZS .mod (.ZS .fdiv (.ZS .mod (.ZS .mul (.idx (.L 0) (.ZW (.int 2))) (.ZW (.int 69621))) (.ZW (.int 2147483629))) (.ZW (.int 64))) (.L 1)))] [some (.ref 2),some (.int m),some (.ref 1),some (.int at_),some (.int a)] g X λw g=>JO w (lk λu=>Q u g):=λa A y=>by
  have ce:=zr (at_:=at_) A;have cl:(0:Int)<xs.length:=by lia
  let⟨m1,I⟩:=gI (at_:=at_) A;simp?[h1,h2,kh,y,Zg,cl,j,c,fM h1 m1 (by simpa using I),<-List.map_set]
  exact h _ _ (P1 _ (by lia)) (Pd _ j) (Fr.set1 ⟨xs,at_,C,h1,h2⟩ _)
 have E:∀a:Int,(1000000000000000000<=a->0<xs.length)->0<=a->wpS J d [(.Zv (.cmp .ge (.L 4) (.ZS .pow (.ZW (.int 10)) (.ZW (.int 18)))) [(.sub (.L 2) (.ZS .mod (.L 3) (.bi .len [(.L 2)])) (.ZS .fdiv (.L 4) (.L 1))),(.ret (.ZS .mod (.L 4) (.L 1)))] []),(.sub (.L 0) (.ZW (.int 1)) (.ZS .add (.L 3) (.ZW (.int 1)))),(.sub (.L 0) (.ZW (.int 2)) (.ZS .mod (.ZS .add (.ZS .add (.ZS .add (.ZS .mul (.idx (.L 0) (.ZW (.int 2))) (.ZW (.int 48271))) (.ZS .mul (.L 4) (.ZW (.int 9973)))) (.ZS .mul (.L 3) (.ZW (.int 31)))) (.ZW (.int 11))) (.ZW (.int 2147483647)))),(.ret (.ZS .mod (.ZS .fdiv (.ZS .mod (.ZS .mul (.idx (.L 0) (.ZW (.int 2))) (.ZW (.int 69621))) (.ZW (.int 2147483629))) (.ZW (.int 64))) (.L 1)))] [some (.ref 2),some (.int m),some (.ref 1),some (.int at_),some (.int a)] g X λw g=>JO w (lk λu=>Q u g):=λa A y=>by
  by_cases D:1000000000000000000<=a
  .exact B a (A D) D
  .exact N a y D
 refine af (λk1=>?_) λk1=>?_
 .have k1:0<xs.length:=by simpa using k1
  have cl:(0:Int)<xs.length:=by lia
  simp?[h1,Zg,cl,wX k1];refine af (λk2=>?_) λk2=>?_
  .have z:=E (1-CH xs at_) (λ_=>k1) (by simp![Wd]at k2;lia)
   simp?[eq_self]at z ⊢;exact z
  .have z:=E (CH xs at_) (λ_=>k1) (by simp![TZ]at k2;lia)
   simp?[eq_self]at z ⊢;exact z
 .have z:=E 0 (λz=>absurd z #[1]) #[1]
  simp?[eq_self]at z ⊢;exact z
def BD:List Plan:=[⟨1,1,2⟩,⟨1,1,4⟩,⟨2,1,2⟩,⟨1,2,2⟩,⟨2,2,2⟩,⟨1,1,4⟩,⟨3,1,2⟩,⟨1,3,2⟩,⟨2,1,4⟩,⟨1,2,4⟩,⟨3,2,2⟩,⟨1,1,8⟩]
def zQ{P:Plan}(h:P∈BD):P.ok:=by
 simp![BD,X8,OJ,or_false]at h;rcases h with rfl|rfl|rfl|rfl|rfl|rfl|rfl|rfl|rfl|rfl|rfl|rfl<;>exact⟨by simp,by simp,by simp⟩
def ud(a:Bag g)(h:∀(P:Plan) (g':G),P∈BD->Fr g g'->Q (Zr P) g'):JA J (d+2) 19 [.ref 2] g X Q:=by
 simp? only[EB]
 simp?;refine acm (aj ai) ai #[1] ?_
 simp?;refine aC a.app.app.app #[1] #[1] λr c y w k=>?_
 have u:=k.get _ _ (by have:=a.len;simp![XZ,WJ,Ta];lia) ai
 let⟨P,t,o⟩:=ee (l:=BD) (f:=Zr) y (by exact w)
 have j:c[(g++[Z9.Z5 ((BD.take 6).map Zr)]++[Z9.Z5 ((BD.drop 6).map Zr)]).length]?=some (.Z5 (BD.map Zr)):=u;have fr:Fr g c:=by
  refine Fr.trans ?_ k;rw[Wx,Wx];exact Fr.app a
 revert j;simp![XZ,WJ,Ta];intro j;simp?[j,o,XZ];exact h P c t fr
def tX(c:P.ok)(h:BW g ((A7 P).map uP) Q):JA J (d+1) 20 [Zr P] g X Q:=by
 have h0:=c.s0;have h1:=c.ss;have hw:=c.ws;have hd:=c.ds;have q:Al (P.w*P.s+1)=true:=aP (by lia) (by lia)
 have p:Al (P.d*P.s+1)=true:=aP () ()
 have hl:=iJ c;simp? only[Em]
 simp?[*];refine cj ((JY (P.w*P.s+1)).map U.int) (λk O g'=>(∃o1 o2,O=[some (Zr P),some (.ref g.length),o1,o2])/\g'=g++[.Z5 ((((JY (P.w*P.s+1)).take k).flatMap λx=>(JY (P.d*P.s+1)).map λy=>((x,y):Pt)).map uP)]) (λk O g' _=>bw) (λk u O g' hk b=>?_) (λO g' b=>?_) _ 0 _ _ (R5 _) ⟨⟨none,none,rfl⟩,rfl⟩
 .obtain ⟨⟨o1,o2,rfl⟩,rfl⟩:=b
  simp![Wi,XB]at hk;let⟨x,n,rfl⟩:=hk;simp?[*];refine cj ((JY (P.d*P.s+1)).map U.int) (λj O g'=>(∃o2,O=[some (Zr P),some (.ref g.length),some (.int x),o2])/\g'=g++[.Z5 (((((JY (P.w*P.s+1)).take k).flatMap λx=>(JY (P.d*P.s+1)).map λy=>((x,y):Pt))++(((JY (P.d*P.s+1)).take j).map λy=>((x,y):Pt))).map uP)]) (λk O g' _=>bw) (λj u O g' i b=>?_) (λO g' b=>?_) _ 0 _ _ (R5 _) ⟨⟨o2,rfl⟩,by simp⟩
  .obtain ⟨⟨o2,rfl⟩,rfl⟩:=b
   simp![Wi,XB]at i;let⟨y,m,rfl⟩:=i;have t:=List.length_take_le k (JY (P.w*P.s+1));have e:((((JY (P.w*P.s+1)).take k).flatMap λx=>(JY (P.d*P.s+1)).map λy=>((x,y):Pt))++(((JY (P.d*P.s+1)).take j).map λy=>((x,y):Pt))).length<=700:=by
    have a1:=gj (f:=λx=>(JY (P.d*P.s+1)).map λy=>((x,y):Pt)) (B:=25) (l:=(JY (P.w*P.s+1)).take k) λa _=>by simp[bD];lia
    have o:((JY (P.w*P.s+1)).take k).length<=25:=by rw[Vp,bD];lia
    have r:=Nat.mul_le_mul_right 25 o;rw[XZ,Zg,Vp,bD];lia
   simp?[ai,uY (show(List.map uP ((((JY (P.w*P.s+1)).take k).flatMap λx=>(JY (P.d*P.s+1)).map λy=>((x,y):Pt))++(((JY (P.d*P.s+1)).take j).map λy=>((x,y):Pt)))).length<16777000 by rw[Zg];lia)]
   refine⟨⟨_,rfl⟩,?_⟩;rw[Om,m];simp
  .obtain ⟨⟨o2,rfl⟩,rfl⟩:=b
   simp?;refine⟨⟨_,_,rfl⟩,?_⟩;rw[Om,n];simp
 .obtain ⟨⟨o1,o2,rfl⟩,rfl⟩:=b
  simp?;refine h _ _ (Hk _) ?_;simp[A7]
def iy(a:P.ok)(h:Q (.bl (Az P p)) g):JA J (d+1) 21 [Zr P,uP p] g X Q:=by
 have h0:=a.s0;simp? only[El]
 simp?[*];simp![Az]at h;refine af (λk1=>?_) λk1=>by simp?[*];simpa[k1]using h
 simp?[*];simpa[k1]using h
def iE(a:P.ok)(h:BW g ((Ae P).map uP) Q):JA J (d+2) 22 [Zr P] g X Q:=by
 have hl:=iJ a;simp? only[Ew]
 simp?;refine tX a λgs n f b=>?_;simp?[*];refine bL (A7 P) uP (λp=>!Az P p) uP (λg'=>g'=g++gs) ((Ae P).map uP) rfl (λk g' e=>by rw[e,aI b]) (λp c=>?_) (by lia) rfl ?_
 .simp?
  rintro g' rfl;refine iy a ?_;simp?;refine af (λk1=>?_) λk1=>?_<;>simp?[*]
 .rintro g' rfl
  have hf:=Sn (λp=>!Az P p) (A7 P);exact d8 h (by rw[Zg];unfold Ae;lia)
def vm(a:P.ok)(h:Q (.bl (Ar P p)) g):JA J (d+1) 23 [Zr P,uP p] g X Q:=by
 have h1:=a.ss;simp? only[EJ]
 simp?[h1];unfold Ar at h
 (repeat' (refine af (λ_=>?_) (λ_=>?_)<;>(try simp?[bj, *])))
 all_goals simp_all
def iB(h:Q (.int (stride p)) g):JA J (d+1) 24 [uP p] g X Q:=by
 simp? only[Et]
 simp?;unfold stride at h
 (repeat' (refine af (λ_=>?_) (λ_=>?_)<;>(try simp?[bj, *])))
 all_goals simp_all
def tY(h:Q (.bl (A9 p)) g):JA J (d+2) 25 [uP p] g X Q:=by
 have s0:=(cv p).1;have sb:=d0 p;simp? only[Eh]
 simp?;refine iB ?_;simp?[s0,sb];unfold A9 at h
 (repeat' (refine af (λ_=>?_) (λ_=>?_)<;>(try simp?[bj, *])))
 all_goals simp_all
def t5(h:∀gs n i j,(g++gs)[n]?=some (.Z5 [.ref i,.ref j])->(g++gs)[i]?=some (.Z5 [uP (Av p).1.1,uP (Av p).1.2])->(g++gs)[j]?=some (.Z5 [uP (Av p).2.1,uP (Av p).2.2])->Q (.ref n) (g++gs)):JA J (d+3) 26 [uP p] g X Q:=by
 have s0:=(cv p).1;have a:0<2*stride p:=by omega
 have sb:=jv p;have c:=d0 p;have ss:=iz p;simp? only[Ei]
 simp?;refine iB ?_;simp?[s0,a,sb,c,ss];refine tY ?_;simp?[s0,a,sb,c,ss];refine af (λk1=>?_) λk1=>?_
 .have ev:=wk k1
  simp?[s0,a,sb,c,ss];refine af (λk2=>?_) λk2=>?_
  .have k3:=ev.mp (by simpa using k2)
   simp?[s0,a,sb,c,ss];exact eI (i:=2) (j:=3) h (by simp[Av,k1,By,k3,rising]) (by simp[Av,k1,By,k3,falling]) #[3] #[3]
  .have k3:=mt ev.mpr (by simpa using k2)
   simp?[s0,a,sb,c,ss];exact eI (i:=3) (j:=2) h (by simp[Av,k1,By,k3,falling]) (by simp[Av,k1,By,k3,rising]) #[3] #[3]
 .simp? [s0,a,sb,c,ss]
  refine af (λk2=>?_) λk2=>?_
  .have k3:p.1 / stride p % 2=1:=by simpa using k2
   simp?[s0,a,sb,c,ss];exact eI (i:=0) (j:=1) h (by simp[Av,k1,BE,k3,lying]) (by simp[Av,k1,BE,k3,upright]) #[3] #[3]
  .have k3 : ¬ p.1 / stride p % 2=1:=by simpa using k2
   simp?[s0,a,sb,c,ss];exact eI (i:=1) (j:=0) h (by simp[Av,k1,BE,k3,upright]) (by simp[Av,k1,BE,k3,lying]) #[3] #[3]
def ft(a:P.ok)(h:BW g ((J0 P p).map uP) Q):JA J (d+4) 27 [Zr P,uP p] g X Q:=by
 simp? only[EG]
 simp?;refine t5 λgs n i j o f c=>?_;simp?[o,f,c];refine bL [(Av p).2.1,(Av p).2.2] uP (λq=>Ar P q&&!Az P q) uP (λg'=>g'=g++gs) ((J0 P p).map uP) rfl (λk g' e=>by rw[e];exact aI c) (λq r=>?_) #[3] rfl ?_
 .simp?
  rintro g' rfl;refine vm a ?_;simp?;refine af (λk1=>?_) λk1=>?_
  .simp?
   refine iy a ?_;simp?[k1];refine af (λk2=>?_) λk2=>?_<;>simp?[k1,k2]
  .simp? [k1,Oa]
 .rintro g' rfl
  have hl:=cu P p;exact d8 h (by rw[Zg];omega)
def iL(i:g[n]?=some (.Z5 (l.map uP)))(r:l.length<=100000)
  (h:∀(g':G) (m:Nat) (ks:List Pt),Old g g'->g.length<=m->g'[m]?=some (.ZG (DS ks))->ks.Nodup->(∀p,p∈ks↔p∈l)->ks.length<=l.length->Q (.ref m) g'):JA J (d+1) 28 [.ref n] g X Q:=by
 simp? only[EE]
 simp?[aj i];refine bK (l.map uP) (λk O g'=>∃(ks:List Pt) (o:Option U),g'=g++[.ZG (DS ks)]/\ks.length<=k/\ks.Nodup/\(∀p,p∈ks↔p∈l.take k)/\O=[some (.ref n),some (.ref g.length),o]) (λk O g' a=>?_) ⟨[],none,rfl,Hk _,.nil,λp=>by simp,rfl⟩ (λk u O g' hk a=>?_) (λO g' a=>?_)
 .obtain ⟨ks,o,rfl,_⟩:=a
  exact aI (aj i)
 .obtain ⟨ks,o,rfl,e,c,b,rfl⟩:=a
  simp![Wi,XB]at hk;let⟨p,f,rfl⟩:=hk;have j:k<l.length:=(Ye.mp f).1;have sb:∀O,subAt (.ref g.length) (uP p) (.bl true) O (g++[.ZG (DS ks)])=.ok (.nx O) (g++[.ZG (DS (Kd ks p))]):=λO=>by
   rw[ji ai gE (by unfold DS J9;rw[Zg];lia)]
   rw[show Ax (p.1,p.2)=Ax p from rfl,gz];simp
  simp?[sb];refine⟨_,_,rfl,?_,gF c,λq=>?_,rfl⟩
  .unfold Kd;split
   .lia
   .simp;lia
  .rw [bz,b,Om,f];simp[or_comm]
 .obtain ⟨ks,o,rfl,e,c,b,rfl⟩:=a
  simp?;rw[Zg]at e b;exact h _ _ ks Old.app (Hk _) ai c (λp=>by rw[b,OK]) e
def t7(f:g[n]?=some (.Z5 (l.map uP)))(i:SetAt g m ks)(h:Q (.bl (l.all λq=>decide (q∈ks))) g):JA J (d+1) 29 [.ref n,.ref m] g X Q:=by
 simp? only[Ej]
 simp?[f];refine bK (l.map uP) (λk O g'=>g'=g/\(∀q∈l.take k,q∈ks) /\∃o,O=[some (.ref n),some (.ref m),o]) (λk O g' b=>by rw[b.1];exact aI f) ⟨rfl,λq a=>by simp at a,_,rfl⟩ (λk u O g' hk b=>?_) (λO g' b=>?_)
 .obtain ⟨rfl,c,o,rfl⟩:=b
  simp![Wi,XB]at hk;let⟨q,a,rfl⟩:=hk;have nd:=qd (p:=q) i;simp?[↓nd];refine af (λk1=>?_) λk1=>?_
  .replace k1:q ∉ ks:=by simpa using k1
   simp?;rw[show(l.all λq=>decide (q∈ks))=false from Oz.mpr λz=>k1 (Ht (WY.mp z q (Vw a)))]at h;exact h
  .replace k1:q∈ks:=by simpa using k1
   simp?;refine⟨λx e=>?_,_,rfl⟩;rw[Om,a]at e;rcases Wh.mp e with z|z
   .exact c x z
   .simp at z;rw[z];exact k1
 .obtain ⟨rfl,c,o,rfl⟩:=b
  simp?;rw[Zg,OK]at c;rw[show(l.all λq=>decide (q∈ks))=true from WY.mpr λq a=>Td (c q a)]at h;exact h
def t6(I:P∈Aw)(T:P.ok)(R:g[n]?=some (.Z5 (l.map uP)))(S:l.length<=700)(B:Cuts P l)
  (h:∀(g':G) (m:Nat),Old g g'->g.length<=m->g'[m]?=some (.Z5 ((AY P l).map uP))->Q (.ref m) g'):JA J (d+5) 30 [Zr P,.ref n] g X Q:=by
 simp? only[Ek]
 simp?[aj R];refine hJ (λm O g'=>∃(ks W:List Pt) (o:Option U),Old g g'/\g'[g.length]?=some (.ZG (DS ks))/\g'[g.length+1]?=some (.Z5 (W.map uP))/\ks.Nodup/\(∀p∈ks,Xa P l p)/\(∀p∈W,Xa P l p)/\(∀p∈l,p∈ks\/p∈W)/\(∀p∈ks,∀q∈J0 P p,q∈ks\/q∈W)/\W.length<=700+2*ks.length/\3*(77-ks.length)+W.length=m/\O=[some (Zr P),some (.ref n),some (.ref g.length),some (.ref (g.length+1)),o]) ?_ (3*(77-0)+l.length) _ _ ⟨[],l,none,Old.app.more,by simp[J9],by simp,.nil,(λp c=>nomatch c),(λp c=>.base c),(λp c=>.inr c),(λp c=>nomatch c),by simpa using S,rfl,by simp⟩
 rintro m O g' ⟨ks,W,o,ho,L,j,nd,k,u,C,D,hw,hm,rfl⟩;have hk:Cuts P ks:=λp c=>(k p c).cut B;have H:=hk.len I nd;rcases List.eq_nil_or_concat W with Sg|⟨W',p,rfl⟩
 .subst Sg
  have same:Ad ks=AY P l:=xR B λq=>⟨k q,aaT (λp c=>(C p c).resolve_right λz=>nomatch z) λp c q a=>(D p c q a).resolve_right λz=>nomatch z⟩;simp?[j,Ta,Int.natCast_zero,gC (.inl L) nd (by lia)]
  rw[same];exact h _ _ ho.more (ho.len) ai
 .have N:(W'.concat p).map uP=W'.map uP++[uP p]:=by simp
  rw[N]at j;have lw:(W'.concat p).length=W'.length+1:=by simp
  have f:Xa P l p:=u p #[3]
  have Us:p∈Ae P:=f.cut B;have mem:∀q,q∈W'.concat p↔q∈W'\/q=p:=λq=>by simp
  have pop:=jw j;have o2:Old g (g'.set (g.length+1) (.Z5 (W'.map uP))):=ho.set (by lia)
  have t:(g'.set (g.length+1) (.Z5 (W'.map uP)))[g.length]?=some (.ZG (DS ks)):=aR (by lia) L
  have K:(g'.set (g.length+1) (.Z5 (W'.map uP)))[g.length+1]?=some (.Z5 (W'.map uP)):=aF j;have Z:=qd (p:=p) (.inl t);have w:(0:Int)<((W'.map uP).length+1:Nat):=by lia
  simp?[j,XZ,w,pop,↓Z];refine af (λk1=>?_) λk1=>?_
  .replace k1:p ∉ ks:=by simpa using k1
   have YG:ks.length+1<=77:=by
    have:=Cuts.len I (l:=ks++[p]) (λq a=>by rcases Wh.mp a with z|z;exact hk q z;rw[WL.mp z];exact Us) (zf nd k1)
    simpa using this
   have sb:∀O,subAt (.ref g.length) (uP p) (.bl true) O (g'.set (g.length+1) (.Z5 (W'.map uP)))=.ok (.nx O) ((g'.set (g.length+1) (.Z5 (W'.map uP))).set g.length (.ZG (DS (Kd ks p)))):=λO=>by
    rw[ji t gE (by unfold DS J9;rw[Zg];lia),show Ax (p.1,p.2)=Ax p from rfl,gz]
   simp?[sb];generalize F:(g'.set (g.length+1) (.Z5 (W'.map uP))).set g.length (.ZG (DS (Kd ks p)))=g3;have M:Old g g3:=by rw[<-F];exact o2.set (Hk _)
   have Y:g3[g.length]?=some (.ZG (DS (Kd ks p))):=by rw[<-F];exact aF t
   have E:g3[g.length+1]?=some (.Z5 (W'.map uP)):=by rw[<-F];exact aR (by lia) K
   simp?[E];refine ft T λgs n3 Ww V=>?_;have Y7:=cu P p;have ext:=jd (aj (gs:=gs) E) V (by rw[Zg,Zg];lia)
   simp?[ext];have la:=zV k1;refine⟨_,?_,Kd ks p,W'++J0 P p,_,(M.more).set (by lia),aR (by lia) (aj Y),?_,gF nd,λq a=>?_,λq a=>?_,λq a=>?_,λr A q a=>?_,?_,rfl,rfl⟩
   .rw [XZ];lia
   .rw [Qd];exact aF (aj E)
   .rcases bz.mp a with rfl|z
    .exact f
    .exact k q z
   .rcases Wh.mp a with z|z
    .exact u q ((mem q).mpr (.inl z))
    .exact .step f z
   .rcases C q a with z|z
    .exact .inl (bz.mpr (.inr z))
    .rcases (mem q).mp z with z|z
     .exact .inr (Wh.mpr (.inl z))
     .exact .inl (bz.mpr (.inl z))
   .rcases bz.mp A with rfl|z
    .exact .inr (Wh.mpr (.inr a))
    .rcases D r z q a with y|y
     .exact .inl (bz.mpr (.inr y))
     .rcases (mem q).mp y with y|y
      .exact .inr (Wh.mpr (.inl y))
      .exact .inl (bz.mpr (.inl y))
   .rw [XZ];lia
  .replace k1:p∈ks:=by simpa using k1
   simp?;refine⟨_,?_,ks,W',_,o2,t,K,nd,k,λq a=>u q ((mem q).mpr (.inl a)),λq a=>?_,λr A q a=>?_,by lia,rfl,rfl⟩
   .lia
   .rcases C q a with z|z
    .exact .inl z
    .rcases (mem q).mp z with z|z
     .exact .inr z
     .exact .inl (by rw[z];exact k1)
   .rcases D r A q a with z|z
    .exact .inl z
    .rcases (mem q).mp z with z|z
     .exact .inr z
     .exact .inl (by rw[z];exact k1)
def ur(S:P∈Aw)(B:P.ok)(L:g[n]?=some (.Z5 (l.map uP)))(hl:l.length<=300)(R:Cuts P l)
  (h:∀(g':G) (m:Nat),Old g g'->g.length<=m->g'[m]?=some (.Z5 ((Aj P l).map uP))->Q (.ref m) g'):JA J (d+5) 31 [Zr P,.ref n] g X Q:=by
 rw[<-aap S B R]at h;simp? only[Ez]
 simp?;refine iL L (by lia) λg1 m1 ks o1 I Z F M N=>?_
 have hs:Ad ks=Ad l:=dG M;have sl:=kT l;have bs:=gC (.inl Z) F (by lia)
 rw[hs]at bs;have D:Al 8=true:=aP #[1] #[1]
 simp?[bs,D];refine bK ((JY 8).map U.int) (λk O g'=>∃(m:Nat) (o o':Option U),Old g g'/\g.length<=m/\g'[m]?=some (.Z5 ((AO P k (Ad l)).map uP))/\O=[some (Zr P),some (.ref n),some (.ref m),o,o']) (λk O g' _=>bw) ⟨_,_,_,o1.more,o1.len,ai,rfl⟩ (λk u O g' hk y=>?_) (λO g' y=>?_)
 .obtain ⟨m,o,o',ho,z,c,rfl⟩:=y
  simp![Wi,XB]at hk;let⟨kk,_,rfl⟩:=hk;have tl:=fF (P:=P) (l:=Ad l) k;simp?;refine iL c (by lia) λV m3 t r H Y E w A=>?_
  have C:=r.get c;simp?[C];refine bL (AO P k (Ad l)) uP (λp=>(J0 P p).all λq=>decide (q∈AO P k (Ad l))) uP (λg'=>Old V g') ((AO P (k+1) (Ad l)).map uP) rfl (λk g' f=>aI (f.get C)) (λp hp=>?_) (by lia) Old.refl ?_
  .simp?
   intro T a;refine ft B λgs n6 K W=>?_;have j:=a.more (gs:=gs);simp?;refine t7 W (.inl (j.get Y)) ?_;rw[show((J0 P p).all λq=>decide (q∈t))=(J0 P p).all λq=>decide (q∈AO P k (Ad l))by simp![w]]
   simp?;refine af (λk1=>?_) λk1=>?_<;>simp?[k1]
   .exact j
   .exact j
  .intro T a
   have:=fF (P:=P) (l:=Ad l) (k+1);refine⟨by rw[Zg];lia,?_⟩
   simp?;exact⟨_,_,_,(ho.trans r).trans (a.more),Hi (ho.trans r).len a.len,ai,rfl⟩
 .obtain ⟨m,o,o',ho,z,c,rfl⟩:=y
  simp?;exact h _ _ ho z c
def ui(R:P∈Aw)(hP:P.ok)(I:Bag g)(h:∀(g':G) (m:Nat) (l:List Pt),Fr g g'->g.length<=m->g'[m]?=some (.Z5 (l.map uP))->Cuts P l->l.length<=77->Q (.ref m) g'):JA J (d+3) 32 [.ref 2,Zr P] g X Q:=by
 have K:=(eX R).2.2;have Sk:0<(Ae P).length:=by
  have:(Aw.all λP=>Nat.blt 0 (Ae P).length)=true:=by decide +kernel
  exact Nat.blt_eq.mp (WY.mp this P R)
 have C:Cuts P (Ae P):=λp o=>o;simp? only[En]
 simp?;refine iE hP λgs n1 W e1=>?_;have A:3<=n1:=Hi I.len W;simp?;refine aC I.app #[1] #[1] λr g2 O N y=>?_
 have B:Fr g g2:=(Fr.app I).trans y;have w:=y.get _ _ A e1;have H:g.length<=g2.length:=B.len;have pick:∀(m:Int),0<m->m<1000 ->∀(c:Int->Bool) (S:G),Fr g2 S->True:=λ_ _ _ _ _ _=>trivial;simp?;refine af (λk1=>?_) λk1=>?_
 .simp?
  exact h _ _ [] (B.trans (Fr.app y.Zd)) H ai (λp o=>nomatch o) #[3]
 simp?;refine af (λk2=>?_) λk2=>?_
 .simp?
  exact h _ _ _ B W w C K
 simp?;refine af (λk3=>?_) λk3=>?_
 .simp? [w]
  refine eP ((Ae P).map uP) (λv=>∃p,v=uP p/\p∈Ae P) (λg'=>Fr g2 g') (λk g' f=>aI (f.get _ _ A w)) (λu t=>?_) ((Ae P).map uP).length 0 [] _ (R5 _) (by rw[Zg];unfold Ab;simp;lia) (Fr.refl y.Zd) λL g' Ka D a=>?_
  .obtain ⟨p,o,rfl⟩:=WA.mp t
   simp?;intro g' a;refine aC a.Zd #[1] #[1] λr g4 O N j=>?_
   simp?;refine af (λE=>?_) λE=>?_
   .simp?
    exact⟨a.trans j,λ_=>⟨⟨p,rfl,o⟩,a.trans j⟩⟩
   .simp?
    exact⟨a.trans j,λz=>by cases z⟩
  .obtain ⟨ps,rfl,F⟩:=eN D
   rw[Zg,Zg]at Ka;refine⟨by rw[Ql,Zg];lia,?_⟩
   rw[Ql];exact h _ _ ps ((B.trans a).trans (Fr.app a.Zd)) (Hi H a.len) ai F (by lia)
 simp?;refine af (λE=>?_) λE=>?_
 .simp? [w]
  refine eP ((Ae P).map uP) (λv=>∃p,v=uP p/\p∈Ae P) (λg'=>Fr g2 g') (λk g' f=>aI (f.get _ _ A w)) (λu t=>?_) ((Ae P).map uP).length 0 [] _ (R5 _) (by rw[Zg];unfold Ab;simp;omega) (Fr.refl y.Zd) λL g' Ka D a=>?_
  .obtain ⟨p,o,rfl⟩:=WA.mp t
   simp?;intro g' a;refine aC a.Zd #[1] #[1] λr g4 O N j=>?_
   simp?;refine af (λE=>?_) λE=>?_
   .simp?
    exact⟨a.trans j,λ_=>⟨⟨p,rfl,o⟩,a.trans j⟩⟩
   .simp?
    exact⟨a.trans j,λz=>by cases z⟩
  .obtain ⟨ps,rfl,F⟩:=eN D
   rw[Zg,Zg]at Ka;refine⟨by rw[Ql,Zg];omega,?_⟩
   rw[Ql];exact h _ _ ps ((B.trans a).trans (Fr.app a.Zd)) (Hi H a.len) ai F ()
 simp?;refine aC y.Zd #[1] #[1] λM S s0 s1 a=>?_
 have e3:=a.get _ _ A w;have rr:Al (1+M)=true:=aP (by lia) (by lia)
 simp?[rr];refine acb ((JY (1+M)).map U.int) (λv=>∃p,v=uP p/\p∈Ae P) (λg'=>Fr g2 g') (λk g' f=>bw) (λu t=>?_) (by rw[Zg,bD];lia) a λL g' Ka D j=>?_
 .obtain ⟨kk,hk,rfl⟩:=WA.mp t
  simp?;intro g' j;have V:=j.get _ _ A w;simp?[V,Zg];refine aC j.Zd (by lia) () λr5 g5 Z Y T=>?_
  let⟨p,o,t⟩:=ee (f:=uP) Z Y;simp?[T.get _ _ A V,t];exact⟨⟨p,rfl,o⟩,j.trans T⟩
 .obtain ⟨ps,rfl,F⟩:=eN D
  rw[Zg,Zg,bD]at Ka;refine⟨by rw[Zg];lia,?_⟩
  exact h _ _ ps ((B.trans j).trans (Fr.app j.Zd)) (Hi H j.len) ai F (by lia)
def ux(s:P∈Aw)(q:P.ok)(f:g[n]?=some (.Z5 (l.map uP)))(i:l.length<=300)(j:Cuts P l)(c:p∈Ae P)
  (t:∀g',Old g g'->p∈Aj P l->Q (.ZY [.str (PySem.Str.ofString "refused"),uP p,.bl true,.bl false]) g')
  (h:∀(g':G) (m:Nat) (r:List Pt),Old g g'->g.length<=m->g'[m]?=some (.Z5 ((p::r).map uP))->p ∉ Aj P l->LkL P l (p::r)->(p::r).length<=8->(∃z,(p::r).getLast? = some z/\z ∉ l)->Q (.ref m) g'):JA J (d+11) 33 [Zr P,.ref n,uP p] g X Q:=by
 simp? only[EC]
 simp?;refine ab4 ?_;simp?;refine yO s q f i j c (λg' o k=>?_) λg' m r o a e k1 k2 k3 b=>?_
 .exact ⟨rfl,rfl,_,rfl,t g' o k⟩
 .exact h g' m r o a e k1 k2 k3 b
def uf{r:List Pt}(W:P.ok)(I:g[n]?=some (.Z5 (l.map uP)))(y:g[m]?=some (.Z5 ((p::r).map uP)))(V:LkL P l (p::r))(T:(p::r).length<=8)(hz:∃z,(p::r).getLast? = some z/\z ∉ l)(h:∀g',Old g g'->Q (.bl true) g'):JA J (d+6) 34 [Zr P,.ref n,uP p,.ref m] g X Q:=by
 have Wm:r.length+1<=8:=T;have L:g[m]?=some (.Z5 (uP p::r.map uP)):=y;simp? only[Er]
 have S : ¬ ((r.map uP).length+1:Nat)=(0:Int):=by lia
 have R : ¬ (9:Int)<((r.map uP).length+1:Nat):=by rw[Zg];lia
 simp?[L,S,R];refine fm 2 (JZ p) _ _ _ tM fb fb ?_;have M:(Al 1&&Al (((r.map uP).length+1:Nat):Int))=true:=by
  rw[Z1];exact⟨aP #[1] #[1],aP (by lia) (by rw[Zg];lia)⟩
 have N:∀(k:Nat) (g':G),next (.YU 1 ((((r.map uP).length+1:Nat):Int)-1).toNat) k g'=some (((List.range r.length).map λ(i:Nat)=>U.int (1+(i:Int)))[k]?):=λk g'=>by
  have e:((((r.map uP).length+1:Nat):Int)-1).toNat=r.length:=by rw[Zg];lia
  rw[e];simp![next,Wi];by_cases hk:k<r.length
  .rw [YE hk,P7 hk];rfl
  .rw [Yn hk,Qh (by simpa using hk)];rfl
 simp?[L,M];refine bK ((List.range r.length).map λ(i:Nat)=>U.int (1+(i:Int))) (λk O g'=>Old g g' /\∃o,O=[some (Zr P),some (.ref n),some (uP p),some (.ref m),o]) (λk O g' _=>N k g') ⟨Old.refl,_,rfl⟩ (λk u O g' hk C=>?_) (λO g' C=>?_)
 .obtain ⟨ho,o,rfl⟩:=C
  have f:k<r.length:=by
   have:=(Ye.mp hk).1;simpa using this
  rw[Wi,P7 f]at hk;cases hk;have w:Jb ((p::r).map uP) (1+(k:Int))=some (uP r[k]):=by
   rw[cb (by lia) (by rw[Zg,WJ];lia),show(1+(k:Int)).toNat=k+1 by lia]
   simp[f]
  have c:Jb ((p::r).map uP) (1+(k:Int)-1)=some (uP ((p::r)[k]'(by simp;lia))):=by
   rw[cb (by lia) (by rw[Zg,WJ];lia),show(1+(k:Int)-1).toNat=k by lia,Wi,YJ (by simp;omega)]
   rfl
  obtain⟨t,H⟩:(p::r)[k]'(by simp;omega)∈l/\r[k]∈J0 P ((p::r)[k]'(by simp;omega)):=qR V (YJ (by simp;omega)) (by simp[f])
  have E:g'[m]?=some (.Z5 ((p::r).map uP)):=ho.get y;have F:=ho.get I;generalize(p::r)[k]'(by simp;omega)=a at c H t
  generalize r[k]=b at w H;replace w:Jb (uP p::r.map uP) (1+(k:Int))=some (uP b):=w;replace c:Jb (uP p::r.map uP) (1+(k:Int)-1)=some (uP a):=c;simp?[E,c,F,cg,t,w];refine ft W λD n1 Yp Y=>?_;have o1:=ho.more (gs:=D);have B:=o1.get y;simp?[Y,cg,H,B,w];refine fm 2 (JZ b) _ _ _ tM fb fb ?_;simp?;exact⟨o1,_,rfl⟩
 .obtain ⟨ho,o,rfl⟩:=C
  let⟨z,j,Z⟩:=hz;have E:g'[m]?=some (.Z5 ((p::r).map uP)):=ho.get y;have F:=ho.get I;have es:p::r=(p::r).dropLast++[z]:=by
   have K:p::r≠[]:=λz=>nomatch z;rw[List.getLast?_eq_some_getLast K]at j;rw[<-WV j,List.dropLast_concat_getLast K]
  have A:Jb ((p::r).map uP) (-1)=some (uP z):=by rw[es,Qd];exact j8
  replace A:Jb (uP p::r.map uP) (-1)=some (uP z):=A;simp?[E,A,F,cg,Z];exact h _ ho
def law_ok(E:List Int):JA J (d+13) 35 [.Zy (E.map U.int)] [] X λu _=>u=.bl true:=by
 simp? only[CQ]
 simp?;refine uF E λzs=>?_;have j:Bag [.Z5 (zs.map U.int),.Z5 (zs.map U.int),Bk 1 0 7]:=⟨zs,0,7,rfl,rfl⟩;revert j;generalize([.Z5 (zs.map U.int),.Z5 (zs.map U.int),Bk 1 0 7]:G)=g0;intro j;simp?;refine ud j λP g1 B f1=>?_;have hP:=zQ B;have B:P∈Aw:=B;have h1:=f1.Zd.len;have Sk:0<(Ae P).length:=by
  have:(Aw.all λP=>Nat.blt 0 (Ae P).length)=true:=by decide +kernel
  exact Nat.blt_eq.mp (WY.mp this P B)
 have r3:Al 3=true:=aP #[1] #[1]
 have h77:=(eX B).2.2;simp?;refine ui B hP f1.Zd λg2 m l f2 lm e2 A hl=>?_;simp?;refine aC f2.Zd #[1] #[1] λr3' g3 r0 r1 f3=>?_
 have e3:=f3.get _ _ (by lia) e2
 have main:∀(l:List Pt) (m:Nat) (g':G) (o:Option U) (K:Fl->G->Prop),Cuts P l->l.length<=77->Bag g'->3<=m->g'[m]?=some (.Z5 (l.map uP))->(∀g',K (.rt (.bl true)) g')->wpS J (d+12) ((CQ).body.drop 4) [some (.Zy (E.map U.int)),some (.ref 2),some (Zr P),some (.ref m),o,none,none,none,none,none,none] g' X K:=λl m1 g2 o K A hl j lm1 e2 K1=>by
  simp![CQ,List.drop];simp?;refine ur B hP e2 (by lia) A λg3 I o3 lm2 e3=>?_
  have l2:=j.len;simp?;refine iE hP λgs4 H lm3 D=>?_;have l3:=o3.len;have main:∀(q:Pt) (C:G) (R t y:Option U),q∈Ae P->Bag C->C[m1]?=some (.Z5 (l.map uP))->C[I]?=some (.Z5 ((Aj P l).map uP))->C[H]?=some (.Z5 ((Ae P).map uP)) ->∀K:Fl->G->Prop,(∀(g':G) (t y:Option U),Bag g'->g'[m1]?=some (.Z5 (l.map uP))->g'[I]?=some (.Z5 ((Aj P l).map uP))->g'[H]?=some (.Z5 ((Ae P).map uP))->K (.nx [some (.Zy (E.map U.int)),some (.ref 2),some (Zr P),some (.ref m1),R,some (.ref I),some (.ref H),some (.bl true),some (uP q),t,y]) g')->wpS J (d+12) [(.set (.nm 9) (.bi .list [(.L 3)])),(.set (.nm 10) (.call 33 [(.L 2),(.L 9),(.L 8)])),(.set (.nm 7) (.and (.L 7) (.cmp .eq (.L 9) (.L 3)))),(.Zv (.cmp .Xl (.L 8) (.L 5)) [(.set (.nm 7) (.and (.L 7) (.call 16 [(.L 10),(.ZY [(.ZW (.str (PySem.Str.ofString "refused"))),(.L 8),(.ZW (.bl true)),(.ZW (.bl false))])])))] [(.set (.nm 7) (.and (.L 7) (.call 34 [(.L 2),(.L 3),(.L 8),(.L 10)])))])] [some (.Zy (E.map U.int)),some (.ref 2),some (Zr P),some (.ref m1),R,some (.ref I),some (.ref H),some (.bl true),some (uP q),t,y] C X K:=λq C R t y hq hbg k1 k2 k3 K hK=>by
   simp?[k1];refine ux B hP ai (by lia) A hq (λM o5 Xi=>?_) λM m5 r o5 lm5 V XH ha hlr hz=>?_
   .have z:Old C M:=Old.app.trans o5
    have b5:Bag M:=(z.fr hbg).Zd;have e8:=o5.get (ai (g:=C) (o:=Z9.Z5 (l.map uP)));simp?[sS e8 (z.get k1),tB,z.get k2,cg,Xi];refine fm 3 (.ZY [.str (PySem.Str.ofString "refused"),JZ q,.bl true,.bl false]) _ _ _ (by simp[Dt.ok,JZ]) (by simp[Rep,Reps,JZ]) (by simp[Rep,Reps,JZ]) ?_
    simp?;exact hK _ _ _ b5 (z.get k1) (z.get k2) (z.get k3)
   .have z:Old C M:=Old.app.trans o5
    have e8:=o5.get (ai (g:=C) (o:=Z9.Z5 (l.map uP)));simp?[sS e8 (z.get k1),tB,z.get k2,cg,XH];refine uf hP (z.get k1) V ha hlr hz λg6 o7'=>?_;have F:=z.trans o7';simp?;exact hK _ _ _ (F.fr hbg).Zd (F.get k1) (F.get k2) (F.get k3)
  simp?[r3];refine bK ((JY 3).map U.int) (λk O g'=>Bag g'/\g'[m1]?=some (.Z5 (l.map uP))/\g'[I]?=some (.Z5 ((Aj P l).map uP))/\g'[H]?=some (.Z5 ((Ae P).map uP)) /\∃R F t y,O=[some (.Zy (E.map U.int)),some (.ref 2),some (Zr P),some (.ref m1),R,some (.ref I),some (.ref H),some (.bl true),F,t,y]) (λk O g' _=>bw) ⟨((o3.more (gs:=gs4)).fr j).Zd,(o3.more (gs:=gs4)).get e2,aj e3,D,_,_,_,_,rfl⟩ (λk u O g' hk T=>?_) (λO g' T=>?_)
  .obtain ⟨Y6,k1,k2,k3,R,F,t,y,rfl⟩:=T
   simp![Wi,XB]at hk;let⟨kk,_,rfl⟩:=hk;simp?[k3,Zg];refine aC Y6 (by lia) () λr M r0 r1 w=>?_
   let⟨q,hq,hu⟩:=ee (f:=uP) r0 r1;have j1:=w.get _ _ (by lia) k1
   have j2:=w.get _ _ (by lia) k2
   have j3:=w.get _ _ (by lia) k3
   simp?[j3,hu,j1,Zg];refine af (λc1=>?_) λc1=>?_
   .have c1:0<l.length:=by simpa using c1
    simp?;refine aC w.Zd #[1] #[1] λr6 g6 s0 s1 f6=>?_
    have i1:=f6.get _ _ (by lia) j1
    have i2:=f6.get _ _ (by lia) j2
    have i3:=f6.get _ _ (by lia) j3
    simp?;refine af (λc2=>?_) λc2=>?_
    .refine wp_mono (Q:=λf g=>∃N:Pt,N∈Ae P/\Bag g/\g[m1]?=some (.Z5 (l.map uP))/\g[I]?=some (.Z5 ((Aj P l).map uP))/\g[H]?=some (.Z5 ((Ae P).map uP))/\f=.nx [some (.Zy (E.map U.int)),some (.ref 2),some (Zr P),some (.ref m1),some (.int kk),some (.ref I),some (.ref H),some (.bl true),some (uP N),t,y]) ?_ ?_
     .show wpS _ _ _ _ _ _ _
      simp?[i1,Zg];refine aC f6.Zd (by lia) () λr7 g7 t0 t1 f7=>?_
      let⟨N,S,XE⟩:=ee (f:=uP) t0 t1;have y1:=f7.get _ _ (by lia) i1
      simp?[y1,XE];exact⟨N,A N S,f7.Zd,f7.get _ _ (by lia) i2,f7.get _ _ (by lia) i3,rfl⟩
     .rintro f g ⟨N,S,b,y1,y2,y3,rfl⟩
      simp![↓bE];exact main N g _ _ _ S b y1 y2 y3 _ λg' t y Z Y b3 W=>⟨Z,Y,b3,W,_,_,_,_,rfl⟩
    .simp only [↓dh,↓bE]
     exact main q g6 _ _ _ hq f6.Zd i1 i2 i3 _ λg' t y Z Y b3 W=>⟨Z,Y,b3,W,_,_,_,_,rfl⟩
   .simp only [↓ik,↓ir,↓dh,↓bE]
    exact main q M _ _ _ hq w.Zd j1 j2 j3 _ λg' t y Z Y b3 W=>⟨Z,Y,b3,W,_,_,_,_,rfl⟩
  .obtain ⟨Y6,k1,k2,k3,R,F,t,y,rfl⟩:=T
   simp?;exact K1 _
 simp?;refine af (λk1=>?_) λk1=>?_
 .refine wp_mono (Q:=λf g=>∃(l:List Pt) (m:Nat) (o:Option U),Cuts P l/\l.length<=77/\Bag g/\3<=m/\g[m]?=some (.Z5 (l.map uP))/\f=.nx [some (.Zy (E.map U.int)),some (.ref 2),some (Zr P),some (.ref m),o,none,none,none,none,none,none]) ?_ ?_
  .show wpS _ _ _ _ _ _ _
   simp?;refine t6 B hP e3 (by lia) A λg4 m4 o4 lm4 D=>?_
   have W:Bag g4:=(o4.fr f3.Zd).Zd;have l3:=f3.Zd.len;simp?;refine aC W #[1] #[1] λr5 M s0 s1 w=>?_
   have V:=w.get _ _ (by lia) D
   have rr:Al r5=true:=aP (by lia) (by lia)
   simp?[rr];refine bK ((JY r5).map U.int) (λk O g'=>∃(l:List Pt) (o:Option U),Bag g'/\m4<g'.length/\g'[m4]?=some (.Z5 (l.map uP))/\Cuts P l/\l.length<=77/\O=[some (.Zy (E.map U.int)),some (.ref 2),some (Zr P),some (.ref m4),o,none,none,none,none,none,none]) (λk O g' _=>bw) ⟨AY P l,none,w.Zd,(Ye.mp V).1,V,iF,iF.len B v7,rfl⟩ (λk u O g' hk T=>?_) (λO g' T=>?_)
   .obtain ⟨l,o,j,hm,D,A,hl,rfl⟩:=T
    simp![Wi,XB]at hk;let⟨kk,_,rfl⟩:=hk;simp?[D,Zg];refine af (λk1=>?_) λk1=>?_
    .have k1:0<l.length:=by simpa using k1
     simp?[D,Zg];refine aC j (by lia) () λr M r0 r1 w=>?_
     have V:=w.get _ _ (by lia) D
     have hr:r.toNat<l.length:=by lia
     have pp:=wA V r0 (by lia) (u:=uP l[r.toNat]) (by rw[Wi,YJ hr];rfl)
     simp?[pp];refine⟨l.eraseIdx r.toNat,_,?_,?_,?_,λp hp=>A p (List.mem_of_mem_eraseIdx hp),?_,rfl⟩
     .obtain ⟨xs,a,s,Z,Y⟩:=w.Zd
      exact⟨xs,a,s,aR (by lia) Z,aR (by lia) Y⟩
     .rw [PZ];exact Hm hm w.len
     .rw [aF V,vH]
     .rw [Of hr];lia
    .simp?
     exact⟨l,_,j,hm,D,A,hl,rfl⟩
   .obtain ⟨l,o,j,hm,D,A,hl,rfl⟩:=T
    simp?;exact⟨l,m4,_,A,hl,j,by lia,D,rfl⟩
  .rintro f g ⟨l,m,o,c,len,j,hm,e,rfl⟩
   simp![↓bE];exact main l m g _ _ c len j hm e λg'=>by rw[eS]
 .simp only [↓dh,↓bE]
  exact main l m g3 _ _ A hl f3.Zd () e3 λg'=>by rw[eS]
end
def run(a:List Int)(h:a.length<=63):∃fu g',Aa J fu 40 35 [.Zy (a.map U.int)] []=.ok (.bl true) g':=by
 let⟨fu,u,g',e,q⟩:=zK (law_ok (d:=27) (X:=λ_ _ _=>False) a);subst q;exact⟨fu,g',e⟩
end
end ZD
open PySem PySem.W PyProof.Rows
theorem PySem.Challenge.cw_braemantle_k19_chains_that_lack_holds : PySem.Challenge.rw_braemantle_k19_chains_that_lack.Holds := by
 refine PI.abg (l:=PySem.Challenge.rw_braemantle_k19_chains_that_lack) (T:=ZD.T) (is:=ZD.Bj) (J:=ZD.J) (loose:=ZD.loose) (d:=40) (i:=35) (N:=20000) (x:="_law_script") (by kernel_rfl) ZD.all (by kernel_rfl) (by kernel_rfl) (by kernel_rfl) (by kernel_rfl) (by kernel_rfl) ⟨rfl,rfl,rfl,rfl,rfl,by decide +kernel⟩ ?hw rfl ⟨rfl,by decide,by decide,rfl⟩ rfl rfl ZD.run
 case hw=>w_witness2
