import PyProof.Rows.All
import KE.KDictOf
import KE.KDictSum
import KE.KEqDict
import KE.KFromBytes
import KE.KIsAll
import KE.KRevSl
import KE.KSortTup
import KE.KUnpack
import PySem.Challenge.RW_braemantle_k29_whole_no_crack
set_option Elab.async false
set_option linter.all false
set_option maxRecDepth 100000
set_option maxHeartbeats 0
set_option hygiene false
set_option bootstrap.genMatcherCode false
set_option genSizeOf false
set_option genSizeOfSpec false
set_option compiler.extract_closed false
set_option backward.eqns.nonrecursive false
abbrev K0(p q:Prop):Prop:=p->q
abbrev KA(a:Prop)(r:Prop->Prop)(q:Prop):Prop:=a->r q
abbrev KE{α:Sort _}(r:α->Prop->Prop)(q:Prop):Prop:=∀x,r x q
class Cur(n:Nat)(p:Prop)(r:outParam (Prop->Prop)):Prop where c:∀{q:Prop},r q->p->q
instance{p:Prop}:Cur 0 p (K0 p):=⟨id⟩
instance{n:Nat}{a b:Prop}{r:Prop->Prop}[i:Cur n b r]:Cur (n+1) (a∧b) (KA a r):=⟨fun f h=>i.c (f h.1) h.2⟩
instance{n:Nat}{α:Sort _}{p:α->Prop}{r:α->Prop->Prop}[i:∀x,Cur n (p x) (r x)]:Cur (n+1) (∃x,p x) (KE r):=⟨fun f ⟨x,h⟩=>(i x).c (f x) h⟩
open Lean in
def r_p:Nat->Syntax->MacroM (TSyntax `rcasesPat)
 |0,_=>Macro.throwUnsupported
 |n+1,x=>do
  if x.isOfKind `Lean.Parser.Term.anonymousCtor then
   let q<-x[1].getSepArgs.mapM fun y=>do let z<-r_p n y;`(Parser.Tactic.rcasesPatLo|$z:rcasesPat)
   `(rcasesPat|⟨$q,*⟩)
  else if x.isIdent then `(rcasesPat|$(⟨x⟩):ident) else if x.isOfKind `Lean.Parser.Term.hole then `(rcasesPat|_) else Macro.throwUnsupported
open Lean in
local macro_rules|`(tactic|let $p:term:=$e)=>do
 if p.raw.isIdent then Macro.throwUnsupported
 let q<-r_p 9 p;`(tactic|obtain $q:rcasesPat:=$e)
open Lean in
def r_k(q:Syntax):Option (NumLit×Array (TSyntax `rintroPat)):=
 let a:=q[1].getSepArgs
 if q.isOfKind `Lean.Parser.Tactic.rcasesPat.tuple&&a.size>1&&a.all (fun x=>x[0][0].getArgs.size==1&&x[1].getArgs.isEmpty) then some (Syntax.mkNumLit (toString (a.size-1)),a.map fun x=>⟨mkNode `Lean.Parser.Tactic.rintroPat.one #[x[0][0][0]]⟩) else none
open Lean in
local macro_rules|`(tactic|rintro $ps*)=>do
 let o<-ps.mapM fun p=>do
  let q:=p.raw[0]
  if q.isOfKind `Lean.Parser.Tactic.rcasesPat.one&&q[0].getId != `rfl then return <-`(tactic|intro $(⟨q[0]⟩):ident)
  let r<-`(tactic|(intro h_;rcases h_ with $(⟨q⟩):rcasesPat))
  match r_k q with
  |some (n,k)=>`(tactic|first|(refine Cur.c (n:=$n) ?_;rintro $k*)|$r:tactic)
  |none=>if p.raw.isOfKind `Lean.Parser.Tactic.rintroPat.one then return r else Macro.throwUnsupported
 `(tactic|($[$o];*))
open Lean in
local macro_rules|`(tactic|obtain $q:rcasesPatMed:=$e:term)=>do
 let q:=q.raw[0][0]
 let r<-`(tactic|rcases $e:term with $(⟨q⟩):rcasesPat)
 match r_k q with
 |some (n,k)=>do
  let c<-if e.raw.isIdent then `(tactic|clear $(⟨e⟩):ident) else `(tactic|skip)
  `(tactic|first|(refine Cur.c (n:=$n) ?_ $e;$c:tactic;rintro $k*)|$r:tactic)
 |none=>return r
local macro_rules|`(tactic|simp! [$xs,*] $[$l:location]?)=>`(tactic|simp only [$xs,*] $[$l]?)
local macro_rules | `(tactic| simp? [$xs,*] $[$l:location]?) => do
  let a ← ("acJ aaw yp nL oj bh_f gu abP ad5 abM adO oc_n oc_s vE vN vO xm KV_a k_E k_Es KB_a acS acZ xC xB wy acy ob_k wD vD ab4 aap zE aa2 vc zj adb yg adQ yI acf zY abK aao adn aaK aaT zL ado w8 aav abU vA zD abA adw abo zw abr aaF zW abi aaX abk z6 aaI yd acQ yF yo zI abS y7 aaQ yM acP z8 xN yK aau adW k_bi Ko_a xu adx ad3 ab2 adG zG adk abx yD z9 xh ab9 xg aal w9 xT yQ wb x6 acr aaJ wk ab3 yZ xv yy aaW wm u0 uU abJ yb zx acG abu yL aab yk yR aa7 zR aa6 abT abe adR aaz zH zJ z7 z5 zQ vC zv y9 acU zi acY acp acF adM ab0 adE yE aam aa8 zS zg abg zT xK aaG aaO aan abn abv y6 aaA zu zb adm ace adh ac8 ac0 acT ze adq acK acC xI adF q_or adf acD ac9 acL abO acN yn acd xR vT abE acM abc q_bi adl adK adB abZ x5 yT xY yq abY xZ abm ada ady ac7 adt adY ad0 adU".splitOn " ").toArray.mapM λs => `(Lean.Parser.Tactic.simpLemma| ↓$(Lean.mkIdent s.toName):ident)
  let b ← ("perm pick AK Option.bind_some Cd BS Bw CL List.lookup_cons List.lookup_nil Nat.reduceBEq List.contains_cons List.contains_nil FX List.getElem?_nil List.getElem?_cons_zero List.getElem?_cons_succ List.length_cons List.length_nil List.set_cons_zero List.set_cons_succ List.map_cons List.map_nil List.replicate_succ List.replicate_zero List.cons_append List.nil_append Nat.zero_add Nat.reduceAdd Nat.reduceSub Nat.reduceLT Nat.reduceLeDiff Nat.reduceEqDiff Nat.lt_add_left_iff_pos Jk Ad bindL if_true if_false ite_true ite_false and_true true_and Option.getD_some gW hY y4 we wo xF adX ab6 adJ nG m7 kn ac1 cisN abV cin nS cnin aci ls Bool.or_false Bool.or_true Bool.true_or Bool.false_or clt cle cgt cge IW Jc items CG CO Jh AH lift Jg DM FR C7 alloc AX j9 Ac ad1 abR ach abW acB adj F4 FE Option.map_some Int.reduceLT Int.reduceLE Int.reduceNeg Int.reduceEq decide_true decide_false Bool.not_true Bool.not_false Bool.and_true Bool.true_and Bool.and_self decide_eq_true_eq eq_self".splitOn " ").toArray.mapM λs => `(Lean.Parser.Tactic.simpLemma| $(Lean.mkIdent s.toName):ident)
  let a := a ++ b
  `(tactic| simp only [$[$a:simpLemma],*, $xs,*] $[$l]?)
local macro_rules|`(tactic|simp? only [$x:ident])=>`(tactic|(refine ae (by rfl) (by rfl) ?_;simp only [$x:ident]))|`(tactic|simp?)=>`(tactic|simp? [eq_self])
open Lean in
local macro_rules|`($m:declModifiers def $i:declId $s:optDeclSig $v:declVal)=>do
 unless m.raw.getArgs.all (·.isNone) do Macro.throwUnsupported
 let r<-(if (match i.raw[0].getId with|.str _ n=>(n.toList.headD 'A').isLower&&!("dig place kwOk isStar ownOf freeOf setArg mkF endsF lastOf fns ms loose upd frs gNil rNe start sIx ixN atI rPop putK head dd refs intsOf keyOf dput dfold neT inD best insI sortI tupI next bindL pick perm subAt rIxD post rInN allFrom holds wp wpS hk ob plainT tupP small stride lying upright rising falling ltP dT mid toT l1 kyP".splitOn ).contains n|_=>false) then let z:TSyntax `Lean.Parser.Command.declSig:=⟨mkNode `Lean.Parser.Command.declSig #[s.raw[0],s.raw[1][0]]⟩;`(command|theorem $i:declId $z:declSig $v:declVal) else `(command|noncomputable def $i:declId $s:optDeclSig $v:declVal));return r.raw.rewriteBottomUp (·.setInfo .none)
open Lean in
local macro_rules|`($m:declModifiers abbrev $i:declId $s:optDeclSig $v:declVal)=>do
 unless m.raw.getArgs.all (·.isNone) do Macro.throwUnsupported
 `(command|noncomputable abbrev $i:declId $s:optDeclSig $v:declVal)
open Lean in
local macro_rules|`(fun $xs* => $b)=>do
 let rec h:Nat->Syntax->Bool
  |0,_=>true
  |n+1,x=>x.isOfKind `Lean.Parser.Term.syntheticHole||x.getArgs.any (h n)
 if xs.all (!·.raw.isOfKind `Lean.Parser.Term.anonymousCtor)||h 99 b then Macro.throwUnsupported
 let q<-xs.mapM fun x=>do let z<-r_p 9 x;`(rintroPat|$z:rcasesPat)
 `(by rintro $q*;exact $b)
open Lean in
local macro_rules|`(#[$n:num])=>match n.getNat with|0=>`(PySem.Challenge.rw_braemantle_k29_whole_no_crack.prog.main.body)|1=>`(by decide)|2=>`(by rfl)|3=>`(by simp)|_=>Macro.throwUnsupported
local macro_rules|`(())=>`(by omega)
def b_F{P:Prop}(h:false=true):P:=absurd h Bool.false_ne_true
def n_F{α:Type}{a:α}{P:Prop}(h:(none:Option α)=some a):P:=nomatch h
local macro_rules|`(tactic|cases $h:ident)=>`(tactic|first|exact n_F $h|exact b_F $h|cases ($h))
def Zd:=@List.length_map
def Z1:=@Bool.and_eq_true
def Yb:=@if_neg
def Yj:=@List.getElem?_eq_some_iff
def Yn:=@if_pos
def YB:=@List.length_append
def YN:=@List.all_eq_true
def YW:=@Array.length_toList
def YY:=@PyProof.Rows.wpS_bind
def Y2:=@List.map_cons
def Y6:=@Iff.rfl
def Xb:=@List.length_cons
def Xc:=@Option.some.injEq
def Xh:=@Bool.false_eq_true
def Xp:=@List.getElem?_eq_getElem
def Xq:=@List.mem_cons
def XA:=@List.size_toArray
def XM:=@decide_eq_true_eq
def XR:=@PyProof.Rows.wpS_pure
def XU:=@List.append_assoc
def X0:=@List.getElem?_append_left
def X7:=@Option.map_eq_some_iff
def Wl:=@List.mem_map
def Wm:=@List.getElem?_append_right
def Wu:=@List.mem_append
def Wv:=@List.mem_cons_self
def Wx:=@Array.toList_append
def Wy:=@List.getElem?_map
def WB:=@Array.getElem?_eq_getElem
def WC:=@List.mem_singleton
def WD:=@List.take_append_drop
def WQ:=@Option.some.inj
def WT:=@List.mem_flatMap
def WW:=@List.lookup_cons
def W3:=@Bool.not_eq_true'
def W5:=@Option.bind_eq_some_iff
def W8:=@List.mem_of_getElem?
def Vh:=@List.pairwise_append
def Vi:=@List.length_take
def Vl:=@Array.getElem?_toList
def Vn:=@if_false
def Vt:=@decide_eq_true
def Vu:=@decide_eq_false
def Vy:=@List.drop_eq_getElem_cons
def VF:=@List.mem_append_right
def VG:=@List.flatMap_cons
def VJ:=@List.getElem?_set_ne
def VL:=@List.length_drop
def VM:=@Array.getElem_mem
def VO:=@Option.map_some
def VV:=@List.getElem?_eq_none_iff
def V0:=@List.filterMap_cons
def V4:=@PySem.mem_of_lookup
def V6:=@if_true
def V7:=@PySem.wpAny_holding
def V8:=@Nat.le_succ
def Ub:=@List.any_cons
def Ue:=@List.mem_of_mem_drop
def Uk:=@PySem.wpAny_newObj_type
def Ul:=@beq_iff_eq
def Um:=@List.drop_eq_nil_of_le
def Uo:=@Bool.or_eq_false_iff
def Ur:=@List.pairwise_cons
def Us:=@List.perm_append_comm
def Ut:=@PyProof.Rows.wpS_forRange
def Ux:=@List.find?_cons
def UC:=@Bool.or_eq_true
def UD:=@Array.getElem?_eq_some_iff
def UG:=@decide_eq_false_iff_not
def UI:=@List.mem_reverse
def UK:=@List.take_of_length_le
def US:=@List.foldl_cons
def U3:=@PySem.wpAny_call_entry
def U9:=@PySem.sizeLine_eq
def Tf:=@List.mem_iff_getElem?
def Ti:=@List.pairwise_map
def Tv:=@PySem.wpAny_setState_of
def TF:=@PyProof.Rows.wpS_mono
def TK:=@List.eraseIdx_eq_take_drop_succ
def TQ:=@List.mem_range
def TR:=@List.append_nil
def TU:=@List.map_map
def TX:=@List.getElem_mem
def TZ:=@PyProof.Rows.F.plain_set_update_loop
def T1:=@PySem.wpAny_truthy_bool
def T9:=@Nat.zero_add
def T_:=@List.map_append
def Sh:=@PySem.Obj.data_mapFields
def Si:=@Array.mem_toList_iff
def Sx:=@List.mem_of_mem_take
def SF:=@PySem.wpAny_askSetting
def SM:=@List.getElem?_set_self
def SO:=@congrArg
def SQ:=@Array.toList_push
def SV:=@PySem.Heap.SameBut.update
def S3:=@List.pairwise_iff_getElem
def S8:=@PySem.wpAny_Call_Name_kw
def S_:=@PySem.wpAny_standAt
def Ra:=@List.mem_append_left
def Rb:=@PySem.wpAny_typeNameOfWhole_keyiter
def Rc:=@PySem.wpAny_callSpecial?_slot
def Rf:=@PySem.F.slot_dict_keyiterator_next
def Rg:=@beq_eq_false_iff_ne
def Rh:=@Nat.le_of_lt
def Ri:=@PySem.Heap.get?_update_other
def Rj:=@Nat.lt_succ_self
def Rk:=@Option.bind_some
def Rl:=@List.isEmpty_iff
def Rm:=@List.mem_filterMap
def Rn:=@List.zip_cons_cons
def Ro:=@PySem.Heap.get?_update_self
def Rp:=@List.length_singleton
def Rq:=@List.contains_iff_mem
def Rr:=@List.Perm.append_left
def Rt:=@List.length_filter_le
def Ru:=@List.extract_eq_take_drop
def Rv:=@List.mem_filter
def Rw:=@PySem.wpAny_passesOwn
def Rx:=@List.nodup_cons
def Ry:=@List.nil_append
def Rz:=@PySem.codeAny_mono
def RA:=@Nat.lt_succ_of_lt
def RB:=@List.mem_iff_getElem
def RE:=@Nat.lt_irrefl
def RG:=@Option.isSome_iff_exists
def RJ:=@PySem.wpAny_typeNameOf_keyiter
def RL:=@PySem.Heap.size_push
def RM:=@List.getElem?_replicate
def RN:=@Nat.zero_le
def RP:=@PySem.wpAny_rule
def RQ:=@PySem.W.cellsFrom_some
def RX:=@PyProof.Rows.wpS_modify
def RY:=@List.filter_eq_nil_iff
def Qa:=@Bool.eq_iff_iff
def Qb:=@PySem.wpAny_specialOf
def Qc:=@List.length_replicate
def Qd:=@List.getElem?_eq_none
def Qe:=@List.Pairwise.sublist
def Qf:=@List.set_append_right
def Qg:=@PySem.Value.isInt_shape
def Qh:=@PyProof.Rows.callWith_type1
def Qi:=@List.take_sublist
def Qj:=@List.reverse_cons
def Qk:=@List.getElem?_of_mem
def Ql:=@Array.toList_extract
def Qm:=@Array.toList_reverse
def Qn:=@List.take_succ
def Qo:=@Nat.ne_of_gt
def Qp:=@Nat.le_add_right
def Qq:=@decide_false
def Qr:=@List.cons_append
def Qs:=@beq_self_eq_true
def Qt:=@List.any_eq_true
def Qu:=@List.getElem_of_mem
def Qv:=@PyProof.Rows.F.entry_set_update_loop
def Qw:=@List.flatMap_append
def Qx:=@PySem.Paired.length
def Qy:=@List.getElem?_take_of_lt
def Qz:=@Bool.false_or
def QA:=@Prod.mk.injEq
def QC:=@PySem.wpAny_comprehension_free
def QD:=@List.length_set
def QE:=@PySem.tupleKind_room_in1
def QG:=@Int.emod_lt_of_pos
def QH:=@of_decide_eq_false
def QJ:=@Array.size_extract
def QK:=@List.length_eq_zero_iff
def QM:=@Bool.false_and
def QN:=@Option.isSome_map
def QP:=@Nat.lt_trans
def QQ:=@List.length_range
def QR:=@Nat.lt_or_ge
def QS:=@Array.getElem?_eq_none
def QT:=@Int.toNat_natCast
def QU:=@PySem.wpAny_setField
def QV:=@List.drop_drop
def QW:=@List.reverse_perm
def QX:=@PySem.wpAny_dictEntries
def QY:=@Int.le_trans
def QZ:=@Option.map_eq_none_iff
def Q0:=@PyProof.Rows.slot_tuple_getitem
def Q1:=@List.eraseIdxIfInBounds_toArray
def Q3:=@PySem.Obj.isFreed_of_fields
def Q4:=@PySem.wpAny_mono
def Q5:=@List.Nodup.length_le_of_subset
def Q6:=@Array.toList_inj
def Q7:=@PySem.wpAny_forIn_list
def Q8:=@PySem.F.args_dict_keyiterator_next_1
def Q9:=@List.take_length
def Q_:=@List.not_mem_nil
def Pa:=@Bool.true_and
def Pb:=@PySem.wpAny_attempt
def Pc:=@List.take_add
def Pd:=@List.all_cons
def Pe:=@PySem.mem_of_lookup
def Pf:=@PySem.Around.under_plainId
def Pg:=@decide_true
def Ph:=@PySem.F.entry_dict_keyiterator_next
def Pj:=@Option.ite_none_right_eq_some
def Pk:=@PySem.W.callWith_KW0
def Pl:=@Int.emod_nonneg
def Pm:=@Array.getElem?_setIfInBounds
def Pn:=@PySem.codeAny_builtin
def Po:=@List.cons.injEq
def Pp:=@List.forIn_cons
def Pq:=@PySem.W.plainGet_of
def Pu:=@PySem.W.callWith_KW
def Pw:=@PySem.wpAny_setEntries_of
def Px:=@List.map_nil
def Py:=@PyProof.Rows.wpS_get
def Pz:=@PySem.Calls.Name_function_global
def PD:=@PyProof.Rows.assignInOrder_cons
def PF:=@List.perm_ext_iff_of_nodup
def PH:=@PySem.wpAny_fieldsOf
def PJ:=@PyProof.Rows.wpS_lift
def PL:=@Array.toList_setIfInBounds
def PM:=@List.getElem?_drop
def PN:=@List.foldl_nil
def PQ:=@List.mem_of_find?_eq_some
def PU:=@Option.isNone_iff_eq_none
def PV:=@Nat.le_of_lt_succ
def PX:=@List.getElem_take
def PY:=@List.getElem_drop
def PZ:=@List.nodup_append
def P1:=@PySem.wpAny_pyIter_slot
def P2:=@PySem.Obj.cls_mapFields
def P4:=@Nat.le_of_succ_le
def P6:=@Array.size_setIfInBounds
def P7:=@Option.getD_none
def P8:=@Nat.succ_le_succ
def P9:=@List.nodup_range
def P_:=@List.perm_middle
def Oa:=@PySem.wpAny_isInstance
def Ob:=@List.pairwise_singleton
def Oc:=@PySem.F.plainAttrs_list
def Od:=@Nat.add_sub_cancel_left
def Oe:=@List.getElem?_cons_succ
def Of:=@List.map_flatMap
def Og:=@Int.eq_ofNat_of_zero_le
def Oh:=@Nat.mod_lt
def Oi:=@List.pairwise_lt_range
def Ol:=@List.range_succ_eq_map
def Om:=@PySem.wpAny_execs_nil
def Oo:=@List.of_mem_zip
def Oq:=@PySem.SeqAt.EqAt.same
def Ot:=@PySem.codeAny_of_tree
def Ou:=@PySem.wpAny_dictEpoch
def Ov:=@Int.le_antisymm
def Ow:=@Sum.inr.inj
def Ox:=@PySem.wpAny_seqItems
def Oy:=@Bool.not_false
def Oz:=@PySem.wpAny_of_eq
def OA:=@PySem.isSubtype_type
def OB:=@List.drop_zero
def OC:=@PySem.typeIs_none
def OD:=@Nat.add_assoc
def OE:=@Bool.and_true
def OF:=@PySem.wpAny_call
def OG:=@PySem.call_meets
def OH:=@Nat.le_of_eq
def OI:=@Prod.ext
def OJ:=@Nat.succ_pos
def OK:=@Nat.sub_zero
def OL:=@eq_self
def G4:=@PySem.Heap.get?_push_of_some
def G5:=@PySem.Heap.lt_size
def G6:=@Nat.le_trans
def G7:=@Bool.false_ne_true
def G8:=@Nat.le_refl
def G9:=@List.mem_cons_of_mem
def Ha:=@Nat.lt_of_lt_of_le
def Hb:=@Nat.ne_of_lt
def Hc:=@PySem.Heap.get?_push_size
def Hd:=@Classical.byContradiction
def He:=@of_decide_eq_true
abbrev Hf:=PySem.W.Frag
def ZB:=@PySem.wpAny_bind
def ZP:=@PySem.wpAny_pure
set_option bootstrap.genMatcherCode false
variable{K:Hf}{ρ ZN ch fp:List PySem.Addr}{x:PySem.Str}{a:PySem.Addr}{b:Bool}{w:PySem.World}{h h' base:PySem.Heap}{α β:Type}{e tg:PySem.Expr}{O:List (PySem.Addr×PySem.Obj)}{s:PySem.Shared}{t' i j M n lo m d ep slot:Nat}{N ps:List PySem.Str}{A:PySem.Around}{Q:PySem.Value->PySem.Shared->Prop}{pos apos Y_:PySem.Pos}{ZQ gens:List PySem.Comprehension}{D:List (List Int×PySem.Addr)}{f:PySem.Value->PySem.Value->PySem.Sem PySem.Value}{st:PyProof.Rows.SortSt}{es ts:List PySem.Expr}{pl:PySem.Sem Bool}{κ:PyProof.Rows.SortKind}{ZU:List PySem.Value}{prog:PySem.Program}{ns:List Int}{kw:List (PySem.Str×PySem.Value)}{env:PySem.Env}{mg:PySem.Str->Option PySem.Value}{fd:PySem.FuncData}{kws:List PySem.Keyword}{scope:PySem.Scope}{z:Nat×Int×PySem.Value}{ZO arr:Array PyProof.Rows.Keyed}{rk:PyProof.Rows.Keyed->Nat}{gc:PySem.Comprehension}{cells cl:List (PySem.Str×PySem.Addr)}{names:List (PySem.Str×PySem.NameKind)}{Zr:List Nat}{rs:List (Option (PySem.Scope×List PySem.Stmt))}
namespace Att
end Att
namespace HT
end HT
namespace L2
end L2
namespace ZE
end ZE
namespace PI
end PI
namespace PI
noncomputable section
open PySem
noncomputable section
inductive U where
 |ZK|bl (b:Bool)|int (i:Int)|str (s:Str)|ZW (xs:List U)|Zx (xs:List U)|ref (n:Nat)|xn (c:Nat) (fs:List U)
inductive Op where|add|sub|mul|fdiv|mod|pow
inductive Cp where|eq|ne|lt|le|gt|ge|UZ|UY|Xn|VZ
inductive Bi where|len|abs|list|mn|mx|Wk|sum|tupl|cat|sset|dct|rpr|int
set_option genInjectivity false in
inductive Ty where|S2|Ss|tstr|Sr|Sq|own (c:Nat)
set_option genInjectivity false in
inductive Tg where|nm (i:Nat)|tp (is:List Nat)
set_option genInjectivity false in
inductive E where
 |L (i:Nat)|ZZ (u:U)
 |ZT (op:Op) (a b:E)|cmp (op:Cp) (a b:E)|chain (op YZ:Cp) (a b c:E)
 |and (a b:E)|or (a b:E)|not (a:E)|neg (a:E)|ite (c a b:E)
 |ZW (es:List E)|Z5 (es:List E)
 |idx (a b:E)|Wj (a:E) (lo hi:Option E)|rev (a:E)
 |call (f:Nat) (es:List E)|UX (f:Nat) (es ks:List E) (pm:List (Nat ⊕ U))
 |fld (a:E) (j:Nat) (cs:List Nat)|make (c f:Nat) (es ks:List E) (pm:List (Nat ⊕ U))|XG (a:E) (j:Nat) (tb:List (Nat×Nat×List (Nat ⊕ U))) (es ks:List E)|S1 (c:Bool) (o:E)|oeq (op:Cp) (tb:List (Nat×Nat×List (Nat ⊕ U))) (a b:E)
 |bi (b:Bi) (es:List E)
 |isi (a:E) (t:Ty)
 |app (o v:E)|ext (o v:E)|pop (o:E)|VY (o v:E)
 |X1 (a:E)|Xm (a b:E)|Xl (a:E)|zip (a b:E)|Wi
 |comp (own:Nat) (fr:List Nat) (gs:List (Tg×E×List E)) (elt:E)
 |S0 (ks:List Str) (es:List E)|dgt (o k x:E)|pair (k v:E)|Wh (own:Nat) (fr:List Nat) (gs:List (Tg×E×List E)) (k v:E)
set_option genInjectivity false in
inductive Z6 where
 |ret (e:E)|retN|set (t:Tg) (e:E)|par (i j:Nat) (a b:E)
 |sub (o i e:E)|aug (i:Nat) (op:Op) (e:E)
 |exp (e:E)|Zp (c:E) (a b:List Z6)|Vr (c:E) (b:List Z6)|for (t:Tg) (it:E) (b:List Z6)
 |pass|brk|cont|never|del (o i:E)|fset (a:E) (j:Nat) (cs:List Nat) (e:E)
 |VX (b:List Z6)|ifx (c:E) (a b:List Z6)|SY (t:Tg) (it:E) (b:List Z6)|raise (c:Nat) (es:List E)|SX (j f:Nat) (es:List E) (c:Nat) (xs:List (Option U))
structure Fn where
 np:Nat
 ns:Nat
 body:List Z6
end
open PySem PySem.Spec PyProof.Rows L2
section
variable{Vq:List Addr}{H H' XF:Hp}{g:G}
def dig:Nat->Nat->List Nat
 |0,_=>[]
 |f+1,n=>if n=0 then[]else n % 128::dig f (n / 128)
def Bn:Nat:=128 ^ 64
def Aq(n:Nat):Str:=⟨(dig 64 n).toArray⟩
end
open PySem PySem.Spec PyProof.Rows L2 PySem.W
def Cv(names:List Str):List Str->Bool
 |[]=>true
 |k::r=>!names.contains k&&Cv (names++[k]) r
def place{a:Type}(ns ks kw:List Str)(dd:List (Str×a))(S b:List a):List a:=(ns++ks).filterMap λn=>(ns.zip S++(kw.zip b++dd)).lookup n
set_option genInjectivity false in
structure KF where
 ns:List Str
 ks:List Str
 dd:List (Str×U)
def BM(F:KF)(a:Nat)(kw:List Str):List (Nat ⊕ U):=place F.ns F.ks kw (F.dd.map λp=>(p.1,.inr p.2)) ((List.range' 0 a).map .inl) ((List.range' a kw.length).map .inl)
def BD(F:KF)(b a:Nat)(kw:List Str):Bool:=decide (a<=F.ns.length)&&kw.all (λk=>F.ns.contains k||F.ks.contains k)&&Cv (F.ns.take a) kw&&(F.ns.take (F.ns.length-b)).all λn=>(F.ns.take a++kw).contains n
def Ax(kws:List Keyword):List Str:=kws.filterMap (·.arg)
def kwOk(kws:List Keyword):Bool:=kws.all (·.arg.isSome)
open PySem PySem.Spec PyProof.Rows L2
set_option genInjectivity false in
structure Tab where
 J:List Str
 cs:List (Str×U)
 bt:List Str
 kf:List (Str×Nat×KF×Nat)
 cl:List (Str×Nat×Nat×KF×Nat)
 mt:List (Str×List (Nat×Nat×KF×Nat))
 fl:List (Str×List Nat)
 ow:List (Str×Nat)
 oq:List Str
def AS(N:List Str)(x:Str):Option Nat:=N.findIdx? (· == x)
def Eo:Operator->Option Op
 |.Add=>some .add|.Sub=>some .sub|.Mult=>some .mul|.FloorDiv=>some .fdiv|.Mod=>some .mod|.Pow=>some .pow|_=>none
def CW:CmpOp->Option Cp
 |.Eq=>some .eq|.NotEq=>some .ne|.Lt=>some .lt|.LtE=>some .le|.Gt=>some .gt|.GtE=>some .ge|.Is=>some .UZ|.IsNot=>some .UY|.In=>some .Xn|.NotIn=>some .VZ
def isStar:Expr->Bool
 |.Starred ..=>true
 |_=>false
def Df:Expr->Bool
 |.Set ..=>true
 |_=>false
def B5:Expr->Bool
 |.ListComp ..=>true|.SetComp ..=>true|.DictComp ..=>true|_=>false
def Cs:Expr->Bool
 |.Call ..=>true|_=>false
def C4:Expr->Bool
 |.Tuple ..=>true|_=>false
def Cq:Expr->Bool
 |.Slice ..=>true|_=>false
def CT(x:Str):Bool:=!(x==("__debug__" : Str))&&!(x==("__classdict__" : Str))&&!(x==("__name__" : Str))
def Ab{b:Type}:List (Option b)->Option (List b)
 |[]=>some []
 |none::_=>none
 |some a::r=>(Ab r).map (a :: ·)
def De:E->Bool
 |.X1 _=>false|.Xm _ _=>false|.Xl _=>false|.zip _ _=>false|_=>true
def BW(b:Bool)(a:Scope)(x:Str):Bool:=a.names.lookup x==some .local||(b&&a.names.lookup x==some .cell)
def BX(b:Bool)(a:Scope)(N:List Str)(x:Str):Option Nat:=if BW b a x then AS N x else none
def B7(b:Bool)(a:Scope)(N:List Str)(e:Expr):Option Nat:=match e with
 |.Name x _=>BX b a N x
 |_=>none
def Bm(b:Bool)(a:Scope)(N:List Str):Expr->Option Tg
 |.Name x _=>(BX b a N x).map .nm
 |.Tuple ts _ _=>(Ab (ts.map (B7 b a N))).map .tp
 |_=>none
def Hg{a:Type}(c:Bool)(x:Option a):Option a:=match c with
 |true=>x
 |false=>none
def Hh(e:Expr):Option Str:=match e with
 |.Name x _=>some x
 |_=>none
def C8(e:Expr):Option (Str×List Expr):=match e with
 |.Call f es kws _=>match kws with
  |[]=>(Hh f).map λn=>(n,es)
  |_::_=>none
 |_=>none
def CP(c:Expr->Option E)(k:E->E)(b:List Expr):Option E:=match b with
 |[]=>none
 |a::b=>match b with
  |[]=>(c a).map k
  |_::_=>none
def Ee(d:Expr->Option E)(k:E->E->E)(c:List Expr):Option E:=match c with
 |[]=>none
 |a::c=>match c with
  |[]=>none
  |b::c=>match c with
   |[]=>(d a).bind λa'=>(d b).map (k a')
   |_::_=>none
def Bp{a:Type}(l:List a):Bool:=match l with
 |[]=>true
 |_::_=>false
def GN(f:Expr->Option E)(a:List Expr):Option E:=match a with
 |[]=>none
 |_::r=>match Bp r with
  |true=>CP f .X1 a
  |false=>Ee f .Xm a
def Hi(f:Expr->Option E)(e:Expr):Option E:=Hg (!Df e) ((f e).bind λe'=>Hg (De e') (some e'))
def DH(T:Tab)(a:Scope)(f:Expr->Option E)(e:Expr):Option E:=match C8 e with
 |some c=>if c.1 = "range" then Hg (T.bt.contains c.1&&(a.names.lookup c.1==some .globalImplicit)&&!c.2.any isStar) (GN f c.2)else Hi f e
 |none=>Hi f e
def C5(T:Tab)(a:Scope)(f:Expr->Option E)(b e:Expr):Option E:=DH T a f e
def Bl(scope a:Scope):Scope:={scope with names:=scope.names.map λ(n,k)=>if(k==.free&&a.kind==.function&&a.names.lookup n==some .cell)then(n,.cell)else(n,k)}
def Gy:Expr->List Str
 |.Name x _=>[x]
 |.Tuple ts _ _=>ts.filterMap fun|.Name x _=>some x|_=>none
 |_=>[]
def ownOf(gs:List Comprehension):List Str:=(gs.map λg=>Gy g.target).flatten
def freeOf(scope:Scope):List Str:=(scope.names.filter λx=>x.2==.free).map (·.1)
def DA(scope c:Scope)(a b:List Str):Bool:=
 (scope.kind==.function)&&(scope.names.all λx=>x.2 != .local||scope.names.lookup x.1==some .local)&&(scope.names.all λx=>x.2 != .cell||scope.names.lookup x.1==some .cell)&&(scope.names.all λx=>x.2 != .free||c.names.lookup x.1==some .cell)
  && (a.all λx=>scope.names.lookup x==some .local||scope.names.lookup x==some .cell)&&decide ((a++b).Nodup)&&(b.all λx=>scope.names.lookup x==some .free)
def DI(T:Tab)(a:Scope)(N:List Str)(f:Expr->Option E):List Comprehension->Option (List (Tg×E×List E))
 |[]=>some []
 |g::r=>Hg (g.is_async==0) ((Bm false a N g.target).bind λt=>(C5 T a f g.target g.iter).bind λit=>(Ab (g.ifs.map f)).bind λcs=>(DI T a N f r).map λr'=>(t,it,cs)::r')
def Bt(f:Str):Nat:=f.cps.toList.foldr (λd n=>d+128*n) 0
def B3(f:Str):Bool:=decide (Aq (Bt f)=f)&&decide (Bt f<Bn)
def CF(T:Tab)(c:Scope)(b:Expr->Option E)(f:Str)(a:List Expr)(kws:List Keyword):Option E:=Hg (CT f&&!a.any isStar&&(c.names.lookup f==some .globalImplicit)&&kwOk kws)
  ((Ab (a.map b)).bind λes'=>(Ab (kws.map λk=>b k.value)).bind λYx=>match T.kf.lookup f with
   |some q=>Hg (BD q.2.1 q.2.2 a.length (Ax kws)) (some (.UX q.1 es' Yx (BM q.2.1 a.length (Ax kws))))
   |none=>(T.cl.lookup f).bind λq=>Hg (BD q.2.2.1 q.2.2.2 (a.length+1) (Ax kws)) (some (.make q.1 q.2.1 es' Yx (BM q.2.2.1 (a.length+1) (Ax kws)))))
def DO(T:Tab)(b:Expr->Option E)(o':E)(m:Str)(d c:Pos)(a:List Expr)(kws:List Keyword):Option E:=Hg (B3 m&&!a.any isStar&&kwOk kws&&decide (a.length+kws.length+1<30)&&(d.endLine==c.line))
  ((Ab (a.map b)).bind λes'=>(Ab (kws.map λk=>b k.value)).bind λYx=>(T.mt.lookup m).bind λl =>
   Hg (l.all (λe=>BD e.2.2.1 e.2.2.2 (a.length+1) (Ax kws))) (some (.XG o' (Bt m) (l.map λe=>(e.1,e.2.1,BM e.2.2.1 (a.length+1) (Ax kws))) es' Yx)))
def FP(f:Str)(n:Nat)(a:Str->Option Bi):Option Bi:=
 a f
def Hj(f:Str):Option Bi:=
 if f = "len" then some .len else
 if f = "abs" then some .abs else
 if f = "list" then some .list else
 if f = "min" then some .mn else
 if f = "max" then some .mx else
 if f = "sorted" then some .Wk else
 none
def setArg(b:List Expr):Option Expr:=match b with
 |[]=>none
 |e::b=>match b with
  |[]=>(C8 e).bind λc=>if c.1 = "set" then(match c.2 with
   |[]=>none
   |a::as=>match as with
    |[]=>Hg (!isStar a) (some a)
    |_::_=>none)else none
  |_::_=>none
def FH(T:Tab)(a:Scope)(N:List Str)(x:Str):Option E:=Hg (CT x) ((a.names.lookup x).bind λk=>match k with
 |.local=>(AS N x).map .L
 |.cell=>(AS N x).map .L
 |.free=>(AS N x).map .L
 |.globalImplicit=>(T.cs.lookup x).map .ZZ
 |_=>none)
def Gr(v:Const):Option E:=match v with
 |.int i=>some (.ZZ (.int i))
 |.bool b=>some (.ZZ (.bl b))
 |.none=>some (.ZZ .ZK)
 |.str s=>some (.ZZ (.str s))
 |_=>none
section
variable(T:Tab)(sc:Scope)(ce:Expr->Option E)
def Hk(o:Operator)(a b:Expr):Option E:=(Eo o).bind λo'=>(ce a).bind λa'=>(ce b).map (.ZT o' a')
def FT(a:Expr)(o:CmpOp)(b:Expr):Option E:=Hg (!Df b) ((CW o).bind λo'=>(ce a).bind λa'=>(ce b).map (.cmp o' a'))
def FN(a:Expr)(o q:CmpOp)(b c:Expr):Option E:=Hg (!Df c) ((CW o).bind λo'=>(CW q).bind λd=>(ce a).bind λa'=>(ce b).bind λb'=>(ce c).map (.chain o' d a' b'))
def F6(a:Expr)(e:List CmpOp)(d:List Expr):Option E:=match e with
 |[]=>none
 |o::e=>match d with
  |[]=>none
  |b::d=>match e with
   |[]=>Hg (Bp d) (FT ce a o b)
   |q::e=>match d with
    |[]=>none
    |c::d=>Hg (Bp e&&Bp d) (FN ce a o q b c)
def Hl(o:BoolOp)(c:List Expr)(pos:Pos):Option E:=match c with
 |[]=>none
 |a::c=>match c with
  |[]=>ce a
  |b::ZQ=>match o with
   |.And=>(ce a).bind λa'=>(ce (.BoolOp .And (b::ZQ) pos)).map (.and a')
   |.Or=>(ce a).bind λa'=>(ce (.BoolOp .Or (b::ZQ) pos)).map (.or a')
def Hm(o:UnaryOp)(a:Expr):Option E:=match o with
 |.Not=>(ce a).map .not
 |_=>none
def Hn(k:List E->E)(a:List Expr):Option E:=Hg (!a.any isStar) ((Ab (a.map ce)).map k)
def Ga(e:Expr):Bool:=match e with
 |.UnaryOp o a _=>match o with
  |.USub=>match a with
   |.Constant v _ _=>match v with
    |.int i=>i==1
    |_=>false
   |_=>false
  |_=>false
 |_=>false
def D8(lo:Option Expr):Option (Option E):=match lo with
 |none=>some none
 |some l=>(ce l).map some
def Ey{a:Type}(o:Option a):Bool:=match o with
 |none=>true
 |some _=>false
def Ho(a s:Expr):Option E:=match s with
 |.Slice lo hi st _=>match st with
  |none=>(ce a).bind λa'=>(D8 ce lo).bind λb=>(D8 ce hi).map (.Wj a' b)
  |some st=>Hg (Ey lo&&Ey hi&&Ga st) ((ce a).map .rev)
 |_=>none
def D6(a s:Expr):Option E:=match Cq s with
 |true=>Ho ce a s
 |false=>(ce a).bind λa'=>(ce s).map (.idx a')
def Hq(f:Str)(a:List Expr):Option E:=(FP f a.length Hj).bind λb=>Hg (!Bp a) ((Ab (a.map ce)).map (.bi b))
def Hr(a:Expr):Option E:=Hg (T.bt.contains ("set" : Str)&&(sc.names.lookup ("set" : Str)==some .globalImplicit)) ((ce a).map λa'=>.bi .sset [a'])
def Ht(f:Str)(b:List Expr):Option E:=
 if f = "sorted" then(match setArg b with
  |some a=>Hr T sc ce a
  |none=>Hq ce f b)else
 Hq ce f b
def Dy(T:Tab)(a:Scope)(c:Expr->Option E)(f:Str)(b:List Expr):Option E:=
 Ht T a c f b
def Hu(f:Str)(a:List Expr):Option E:=Hg (CT f&&!a.any isStar&&(sc.names.lookup f==some .globalImplicit)) (match AS T.J f with
 |some i=>(Ab (a.map ce)).map (.call i)
 |none=>match T.bt.contains f with
  |true=>Dy T sc ce f a
  |false=>CF T sc ce f a [])
def Hv(o':E)(m:Str)(d c:Pos)(b:List Expr):Option E:=
 if m = "append" then CP ce (.app o') b else
 if m = "extend" then CP ce (.ext o') b else
 if m = "pop" then(match b with
  |[]=>some (.pop o')
  |a::b=>CP ce (.VY o') (a::b))else
 DO T ce o' m d c b []
def G0(o:Expr)(m:Str)(c b:Pos)(a:List Expr)(kws:List Keyword):Option E:=Hg (!Cs o) ((ce o).bind λo'=>match kws with
 |[]=>Hg (c.endLine==b.line&&!a.any isStar) (Hv T ce o' m c b a)
 |k::kws=>DO T ce o' m c b a (k::kws))
def Hw(fn:Expr)(a:List Expr)(kws:List Keyword)(b:Pos):Option E:=match fn with
 |.Name f _=>match kws with
  |[]=>Hu T sc ce f a
  |k::kws=>CF T sc ce f a (k::kws)
 |.Attribute o m ap=>G0 T ce o m ap b a kws
 |_=>none
def Hx(o:Expr)(f:Str):Option E:=(T.fl.lookup f).bind λcs=>(ce o).bind λo'=>Hg (B3 f&&!Cs o) (some (.fld o' (Bt f) cs))
def Hy(b:Expr->Option E)(a:List (Option Expr))(vs:List Expr):Option E:=match a with
 |[]=>Hg (Bp vs) (some .Wi)
 |_::_=>none
def Ec(N:List Str)(b:Expr->Option E)(g:Comprehension)(a:List Comprehension)(scope:Scope):Option (List Nat×List (Tg×E×List E)):=
 Hg (DA scope sc (ownOf (g :: a)) (freeOf scope) && (g.is_async == 0)) ((C5 T sc ce g.target g.iter).bind λZt=>(Bm true scope (ownOf (g :: a)++freeOf scope) g.target).bind λt=>(Ab (g.ifs.map b)).bind λcs =>
  (DI T (Bl scope sc) (ownOf (g::a)++freeOf scope) b a).bind λZC=>(Ab ((freeOf scope).map (AS N))).map λZr=>(Zr,(t,Zt,cs)::ZC))
end
def Al(T:Tab)(c:Scope)(N:List Str):Nat->Expr->Option E
 |0,_=>none
 |n+1,e=>match e with
  |.Name x _=>FH T c N x
  |.Constant v _ _=>Gr v
  |.BinOp a o b _=>Hk (Al T c N n) o a b
  |.Compare a os bs _=>F6 (Al T c N n) a os bs
  |.BoolOp o es pos=>Hl (Al T c N n) o es pos
  |.UnaryOp o a _=>Hm (Al T c N n) o a
  |.Tuple es _ _=>Hn (Al T c N n) .ZW es
  |.List es _=>Hn (Al T c N n) .Z5 es
  |.Subscript a s _=>D6 (Al T c N n) a s
  |.Call fn es kws cp=>Hw T c (Al T c N n) fn es kws cp
  |.Attribute o f _=>Hx T (Al T c N n) o f
  |.Dict keys vs _=>Hy (Al T c N n) keys vs
  |.ListComp elt gs scope _=>match gs with
   |[]=>none
   |g::ZQ=>(Ec T c (Al T c N n) N (Al T (Bl scope c) (ownOf (g::ZQ)++freeOf scope) n) g ZQ scope).bind λq=>(Al T (Bl scope c) (ownOf (g::ZQ)++freeOf scope) n elt).map (.comp (ownOf (g::ZQ)).length q.1 q.2)
  |.DictComp h d gs scope _=>match gs with
   |[]=>none
   |g::ZQ=>(Ec T c (Al T c N n) N (Al T (Bl scope c) (ownOf (g::ZQ)++freeOf scope) n) g ZQ scope).bind λq=>
    (Al T (Bl scope c) (ownOf (g::ZQ)++freeOf scope) n h).bind λk'=>(Al T (Bl scope c) (ownOf (g::ZQ)++freeOf scope) n d).map (.Wh (ownOf (g::ZQ)).length q.1 q.2 k')
  |_=>none
def CA(c:Scope)(x y:Str)(e d:Pos)(a b:Expr):Bool:=
 (c.names.lookup x==some .local)&&(c.names.lookup y==some .local)&&!(x==y)&&(d.line==e.line)&&!isStar a&&!isStar b&&!(foldedForSure 8 a&&foldedForSure 8 b)&&!(constantsAlone 8 a&&constantsAlone 8 b)
def ED(a:Scope)(x:Str)(b:Pos)(scope:Scope)(p:Pos):Bool:=(a.names.lookup x==some .local)&&(b.line==p.line)&&!(scope.names.any λ(n,k)=>n==x&&(k==.local||k==.cell))
def DJ{c:Type}(l:List c):Option (c×c):=match l with
 |[]=>none
 |a::l=>match l with
  |[]=>none
  |b::l=>match l with
   |[]=>some (a,b)
   |_::_=>none
def Hz(e:Expr):Option (Str×Pos):=match e with
 |.Name x p=>some (x,p)
 |_=>none
def Gn(e:Expr):Option (List Expr×Nat×Pos):=match e with
 |.Tuple es k p=>some (es,k,p)
 |_=>none
def CZ(T:Tab)(d:Scope)(N:List Str)(b:Expr->Option E)(c:List Expr)(g:Nat)(f:Pos)(e:Expr):Option Z6:=
 (Gn e).bind λq=>(DJ c).bind λt=>(Hz t.1).bind λx=>(Hz t.2).bind λy=>(DJ q.1).bind λa=>match CA d x.1 y.1 x.2 y.2 a.1 a.2 with
  |true=>(AS N x.1).bind λi=>(AS N y.1).bind λj=>(b a.1).bind λa'=>(b a.2).map (.par i j a')
  |false=>Hg (foldedForSure 8 a.1&&foldedForSure 8 a.2) ((Bm true d N (.Tuple c g f)).bind λt=>(b e).map (.set t))
def HA(e:Expr):Option (Scope×Pos):=match e with
 |.ListComp _ gs scope p=>match gs with
  |[]=>none
  |_::_=>some (scope,p)
 |_=>none
def Fx(a:Scope)(N:List Str)(c:Expr->Option E)(x:Str)(b:Pos)(e:Expr):Option Z6:=Hg (match HA e with
 |some q=>ED a x b q.1 q.2
 |none=>!B5 e) ((BX true a N x).bind λi=>(c e).map (.set (.nm i)))
def GA(T:Tab)(a:Expr->Option E)(o:Expr)(f:Str)(e:Expr):Option Z6:=(Hz o).bind λ_=>(T.fl.lookup f).bind λcs=>(a o).bind λo'=>(a e).bind λe'=>Hg (B3 f) (some (.fset o' (Bt f) cs e'))
def Fs(T:Tab)(b:Scope)(N:List Str)(a:Expr->Option E)(t e:Expr):Option Z6:=match t with
 |.Name x c=>Fx b N a x c e
 |.Tuple ts k p=>match C4 e with
  |true=>CZ T b N a ts k p e
  |false=>(Bm true b N (.Tuple ts k p)).bind λt=>(a e).map (.set t)
 |.Subscript o i _=>Hg (!Cq i&&!B5 e) ((a o).bind λo'=>(a i).bind λd=>(a e).map (.sub o' d))
 |.Attribute o f _=>GA T a o f e
 |_=>none
def BF(T:Tab)(d:Scope)(N:List Str):Nat->Stmt->Option Z6
 |0,_=>none
 |n+1,st=>match st with
  |.Return o _=>match o with
   |none=>none
   |some e=>(Al T d N n e).map .ret
  |.Assign ts e _=>match ts with
   |[]=>none
   |t::r=>Hg (Bp r) (Fs T d N (Al T d N n) t e)
  |.Expr e _=>Hg (!B5 e) ((Al T d N n e).map .exp)
  |.If c a b _=>(Al T d N n c).bind λc'=>(Ab (a.map (BF T d N n))).bind λa'=>(Ab (b.map (BF T d N n))).map (.Zp c' a')
  |.While c b o _=>Hg (Bp o) ((Al T d N n c).bind λc'=>(Ab (b.map (BF T d N n))).map (.Vr c'))
  |.For tg it b o _=>Hg (Bp o) ((Bm true d N tg).bind λt=>(C5 T d (Al T d N n) tg it).bind λZt=>(Ab (b.map (BF T d N n))).map (.for t Zt))
  |.Raise _ _ _=>some .never
  |_=>none
open PySem PySem.Spec PyProof.Rows L2 PySem.W
def B9:Nat->List Obj->Frag
 |_,[]=>[]
 |n,o::r=>match o.data with
  |.freed=>B9 (n+1) r
  |_=>(n,o)::B9 (n+1) r
def A4(h:Heap):Frag:=B9 0 h.objs.toList
set_option genInjectivity false in
structure Inf where
 x:Str
 N:List Str
 ps:List Str
 cm:Option (Str×Str)
 kf:Option (KF×Nat)
def DE(N b:List Str)(a:Scope):Bool:=
 decide (a.kind=.function)&&!a.isCoroutine&&!a.isGenerator&&decide N.Nodup&&decide (N.take b.length=b)&&b.all (λx=>decide (a.names.lookup x=some .local)||decide (a.names.lookup x=some .cell))&&a.names.all λy=>decide (y.2 ≠ .free)
def FV(a:List Str)(p:Arguments):Bool:=p.posonlyargs.isEmpty&&decide (p.args.map (·.arg)=a)&&p.vararg.isNone&&p.kwonlyargs.isEmpty&&p.kwarg.isNone
def EG:Value->Bool
 |.none=>true
 |_=>false
def Ep(u:U)(v:Value):Bool:=match u with
 |.int i=>match v with
  |.int j _=>decide (i=j)
  |_=>false
 |.ZK=>EG v
 |.bl b=>match v with
  |.bool c=>b==c
  |_=>false
 |.str s=>match v with
  |.str t _=>decide (s=t)
  |_=>false
 |_=>false
def CD:List U->List Value->Bool
 |[],[]=>true
 |u::S,v::vs=>Ep u v&&CD S vs
 |_,_=>false
def HB(S:List U)(d:Data):Bool:=match d with
 |.seq ZU _=>decide (ZU.size<=1000)&&CD S ZU.toList
 |_=>false
def EA(K:Frag)(S:List U)(v:Value):Bool:=match v with
 |.ref a=>match K.lookup a with
  |some o=>decide (o.cls=.type "tuple")&&HB S o.data
  |none=>false
 |_=>false
def HC(K:Frag)(u:U)(v:Value):Bool:=match u with
 |.xn _ S=>EA K S v
 |_=>false
def Ds(K:Frag)(u:U)(v:Value):Bool:=Ep u v||HC K u v
def Dm(K:Frag):List U->List Value->Bool
 |[],[]=>true
 |u::S,v::vs=>Ds K u v&&Dm K S vs
 |_,_=>false
def EC(K:Frag):Value->Option (List Value)
 |.none=>some []
 |.ref a=>match K.lookup a with
  |some ⟨_,_,.seq ZU _,_⟩=>some ZU.toList
  |_=>none
 |_=>none
def BK(K:Frag)(v:Value)(n:Str):Option Value:=match v with
 |.ref d=>match nsIn K d n with
  |some (some v)=>some v
  |_=>none
 |_=>none
def HD(K:Frag)(fd:FuncData)(F:KF)(a:Nat):Bool:=fd.params.posonlyargs.isEmpty&&decide (fd.params.args.map (·.arg)=F.ns)&&fd.params.vararg.isNone&&decide (fd.params.kwonlyargs.map (·.arg)=F.ks)&&fd.params.kwarg.isNone&&decide (a<=F.ns.length) &&
 (F.ks.all λn=>(BK K fd.kwdefaults n).isSome)&&decide (F.dd.map (·.1)=F.ns.drop (F.ns.length-a)++F.ks)&&match EC K fd.defaults with
  |some b=>decide (b.length=a)&&Dm K (F.dd.map (·.2)) (b++F.ks.map λn=>(BK K fd.kwdefaults n).getD .none)
  |none=>false
def HE(K:Frag)(c:Str×U):Bool:=match nsIn K mainGlobals c.1 with
 |some (some val)=>Ds K c.2 val
 |_=>false
def FY(x q:Str)(fd:FuncData):Bool:=decide (fd.name=x)&&decide (fd.qualname=q)&&(fd.globals==mainGlobals)&&fd.closure.isEmpty&&(fd.builtins==builtinsNs)
def Ei(K:Frag)(i:Inf)(fd:FuncData):Bool:=match i.kf with
 |none=>FV i.ps fd.params&&EG fd.defaults
 |some (F,nd)=>decide (i.ps=F.ns++F.ks)&&!i.ps.isEmpty&&HD K fd F nd
def CJ(K:Frag)(C:Addr):Bool:=plainGet K C Str.empty&&hasDictIn K C&&plainOver K C&&(findIn K (.ref C) "__setattr__" == some (some (.builtin "object.__setattr__")))
def DU(K:Frag)(i:Inf):Option Addr:=match i.cm with
 |none=>match nsIn K mainGlobals i.x with
  |some (some (.ref a))=>some a
  |_=>none
 |some c=>match nsIn K mainGlobals c.1 with
  |some (some (.ref C))=>match findIn K (.ref C) c.2 with
   |some (some (.ref a))=>if CJ K C&&isFn K (.ref a)&&keepIn K (.ref a)&&(!decide (c.2 = "__init__")||(makesIn K C&&keepIn K (.ref C)))then some a else none
   |_=>none
  |_=>none
noncomputable def Inf.nm(i:Inf):Str:=match i.cm with|none=>i.x|some c=>c.2
def BO(K:Frag)(i:Inf):Option (Scope×List Stmt):=match DU K i with
 |some a=>match K.lookup a with
  |some ⟨_,_,.func fd,_⟩=>match fd.body with
   |.stmts b=>if FY i.nm i.x fd&&DE i.N i.ps fd.scope&&Ei K i fd&&codeIn K fd.code i.x&&keepIn K (.ref a)then some (fd.scope,b)else none
   |_=>none
  |_=>none
 |none=>none
def mkF(T:Tab)(q:Inf×Option (Scope×List Stmt)):Option Fn:=match q.2 with
 |some r=>(Ab (r.2.map (BF T r.1 q.1.N 60))).map λb'=>⟨q.1.ps.length,q.1.N.length,b'⟩
 |none=>none
def HF(K:Frag)(e:Str×List Nat):Bool:=e.2.all λc=>match nsIn K mainGlobals (Aq c)with
 |some (some (.ref C))=>CJ K C&&(findIn K (.ref C) e.1==some none)
 |_=>false
def HG(K:Frag)(C:Addr):Bool:=(findIn K (.ref C) "__ne__" == some (some (.builtin "object.__ne__")))&&(mroIn K C (.type "object")==some true)&&(clsIn K C).isSome&&(typeIn K (.ref C)==some (.type "type"))&&(findIn K (.ref C) "__class__" == some (some (.builtin "object.__class__"))) &&
 (specialIn K (.builtin "object.__class__") "__get__" == some (some (.builtin "getset_descriptor.__get__")))&&(takesIn K (.builtin "object.__class__")==some true)
def HH(K:Frag)(p:Str×Nat):Bool:=match nsIn K mainGlobals p.1 with
 |some (some (.ref C))=>decide (Aq p.2=p.1)&&CJ K C&&HG K C
 |_=>false
def Dz(is:List Inf):List (Str×Nat×KF×Nat):=is.zipIdx.filterMap λp=>match p.1.cm,p.1.kf with
 |none,some k=>some (p.1.x,p.2,k.1,k.2)
 |_,_=>none
def Dv(is:List Inf):List (Str×Nat×Nat×KF×Nat):=is.zipIdx.filterMap λp=>match p.1.cm,p.1.kf with
 |some c,some k=>if c.2 = "__init__" then some (c.1,Bt c.1,p.2,k.1,k.2)else none
 |_,_=>none
def HI(is:List Inf)(m:Str):List (Nat×Nat×KF×Nat):=is.zipIdx.filterMap λp=>match p.1.cm,p.1.kf with
 |some c,some k=>if c.2=m then some (Bt c.1,p.2,k.1,k.2)else none
 |_,_=>none
def Dj(is:List Inf)(ms:List Str):List (Str×List (Nat×Nat×KF×Nat)):=ms.map λm=>(m,HI is m)
def HJ(T:Tab)(K:Frag):Bool:=T.bt.all (λx=>(nsIn K mainGlobals x).any Option.isNone)
open PySem PySem.Spec PyProof.Rows L2 PySem.W PySem.Calls
noncomputable section
def HK(p:Program)(w:World)(N:Nat)(Zf : Shared):Option Shared:=
 match Zf.heap.isNs mainGlobals&&Zf.gens.size==0 with
 |true=>(Fast.tw14082659384304107361 Fast.tw14364793385576792824 p w Zf.heap.objs.size (Zf.heap.nsMap mainGlobals "__annotations__") N Zf (topStub p)).bind λa=>match staticsOk (importedModules p.main.body) Zf.heap a.heap&&namesBound p a.heap&&gensDone a && laidKept Zf.heap a.heap with
   |true=>some a
   |false=>none
 |false=>none
def endsF(p:Program)(w:World)(N:Nat):Option Shared:=
 ((Fast.tw10274390034422433532 Fast.tw14364793385576792824 (opening p) w N (Fast.tw1435165496053646825 (opening p)).1 (Fast.tw1435165496053646825 (opening p)).2).bind (Fast.tw14289696077712309145 p)).bind (HK p w N)
def lastOf(p:Program):Program:={p with main:={p.main with body:=p.main.body.drop (p.main.body.length-1)}}
def D9(T:Tab)(K:Frag)(is:List Inf):Bool:=HJ T K&&T.cs.all (HE K)&&T.fl.all (HF K)&&is.all (λi=>i.cm.all λc=>B3 c.1)&&T.ow.all (HH K)
def Ae(b:List Stmt)(n:Nat):Option (Scope×List Stmt):=match b[n]? with
 |some (.FunctionDef _ _ b _ _ _ sc _ _ _)=>some (sc,b)
 |_=>none
def Gf(b:List Stmt)(n m:Nat):Option (Scope×List Stmt):=match b[n]? with
 |some (.ClassDef _ _ _ b _ _ _ _ _ _ _)=>Ae b m
 |_=>none
end
end
end PI
section
namespace ZE
open PI
def Fg:Fn:=⟨2,7,[(.set (.tp [2,3,4]) (.L 0)),(.set (.tp [5,6]) (.L 1)),(.ret (.and (.chain .le .le (.ZZ (.int 0)) (.L 5) (.ZT .mul (.L 2) (.L 4))) (.chain .le .le (.ZZ (.int 0)) (.L 6) (.ZT .mul (.L 3) (.L 4)))))]⟩
def EX:Fn:=⟨2,2,[(.Zp (.not (.call 0 [.L 0,.L 1])) [.never] [])]⟩
def E7:Fn:=⟨2,5,[(.exp (.call 1 [.L 0,.L 1])),(.set (.nm 2) (.idx (.L 0) (.ZZ (.int 2)))),(.set (.tp [3,4]) (.L 1)),(.ret (.and (.cmp .eq (.ZT .mod (.L 3) (.L 2)) (.ZZ (.int 0))) (.cmp .eq (.ZT .mod (.L 4) (.L 2)) (.ZZ (.int 0)))))]⟩
def Fb:Fn:=⟨2,2,[(.Zp (.call 2 [.L 0,.L 1]) [.never] [])]⟩
def Fo:Fn:=⟨1,4,[(.set (.tp [1,2]) (.L 0)),(.for (.nm 3) (.ZW [(.ZZ (.int 4)),(.ZZ (.int 2))]) [(.Zp (.and (.cmp .eq (.ZT .mod (.L 1) (.L 3)) (.ZZ (.int 0))) (.cmp .eq (.ZT .mod (.L 2) (.L 3)) (.ZZ (.int 0)))) [(.ret (.L 3))] [])]),(.ret (.ZZ (.int 1)))]⟩
def E6:Fn:=⟨1,4,[(.set (.tp [1,2]) (.L 0)),(.set (.nm 3) (.call 4 [.L 0])),(.ret (.and (.cmp .eq (.ZT .mod (.ZT .fdiv (.L 1) (.L 3)) (.ZZ (.int 2))) (.ZZ (.int 1))) (.cmp .eq (.ZT .mod (.ZT .fdiv (.L 2) (.L 3)) (.ZZ (.int 2))) (.ZZ (.int 1)))))]⟩
def EY:Fn:=⟨1,6,[(.set (.tp [1,2]) (.L 0)),(.set (.nm 3) (.call 4 [.L 0])),(.set (.nm 4) (.ZW [(.ZW [(.ZT .sub (.L 1) (.L 3)),.L 2]),(.ZW [(.ZT .add (.L 1) (.L 3)),.L 2])])),(.set (.nm 5) (.ZW [(.ZW [.L 1,(.ZT .sub (.L 2) (.L 3))]),(.ZW [.L 1,(.ZT .add (.L 2) (.L 3))])])),(.Zp (.cmp .eq (.ZT .mod (.ZT .fdiv (.L 1) (.L 3)) (.ZZ (.int 2))) (.ZZ (.int 1))) [(.ret (.ZW [.L 4,.L 5]))] []),(.ret (.ZW [.L 5,.L 4]))]⟩
def EN:Fn:=⟨1,6,[(.set (.tp [1,2]) (.L 0)),(.set (.nm 3) (.call 4 [.L 0])),(.set (.nm 4) (.ZW [(.ZW [(.ZT .sub (.L 1) (.L 3)),(.ZT .sub (.L 2) (.L 3))]),(.ZW [(.ZT .add (.L 1) (.L 3)),(.ZT .add (.L 2) (.L 3))])])),(.set (.nm 5) (.ZW [(.ZW [(.ZT .sub (.L 1) (.L 3)),(.ZT .add (.L 2) (.L 3))]),(.ZW [(.ZT .add (.L 1) (.L 3)),(.ZT .sub (.L 2) (.L 3))])])),(.Zp (.cmp .eq (.ZT .mod (.ZT .add (.ZT .fdiv (.ZT .sub (.L 1) (.L 3)) (.ZT .mul (.ZZ (.int 2)) (.L 3))) (.ZT .fdiv (.ZT .sub (.L 2) (.L 3)) (.ZT .mul (.ZZ (.int 2)) (.L 3)))) (.ZZ (.int 2))) (.ZZ (.int 0))) [(.ret (.ZW [.L 4,.L 5]))] []),(.ret (.ZW [.L 5,.L 4]))]⟩
def Fq:Fn:=⟨1,1,[(.Zp (.call 5 [.L 0]) [(.ret (.call 7 [.L 0]))] []),(.ret (.call 6 [.L 0]))]⟩
def Fe:Fn:=⟨2,3,[(.exp (.call 3 [.L 0,.L 1])),(.set (.nm 2) (.idx (.call 8 [.L 1]) (.ZZ (.int 1)))),(.ret (.comp 1 [0] [((.nm 0),.L 2,[(.and (.call 0 [.L 1,.L 0]) (.not (.call 2 [.L 1,.L 0])))])] (.L 0)))]⟩
def Fd:Fn:=⟨2,3,[(.for (.nm 2) (.L 1) [(.exp (.call 3 [.L 0,.L 2]))]),(.ret (.Wh 1 [] [((.nm 0),(.bi .sset [.L 1]),[])] (.L 0) (.ZZ (.bl true))))]⟩
def Ff:Fn:=⟨3,3,[(.ret (.comp 1 [1] [((.nm 0),(.call 9 [.L 0,.L 2]),[(.cmp .VZ (.L 0) (.L 1))])] (.L 0)))]⟩
def Fp:Fn:=⟨2,5,[(.set (.nm 2) (.call 10 [.L 0,.L 1])),(.for (.nm 3) (.L 2) [(.set (.nm 4) (.call 11 [.L 0,.L 2,.L 3])),(.Zp (.L 4) [(.ret (.ZW [.L 3,(.idx (.L 4) (.ZZ (.int 0)))]))] [])]),(.ret (.ZZ .ZK))]⟩
def EO:Fn:=⟨3,7,[(.par 3 4 (.ZT .mul (.L 0) (.L 2)) (.ZT .mul (.L 1) (.L 2))),(.par 5 6 (.ZT .add (.L 3) (.L 2)) (.ZT .add (.L 4) (.L 2))),(.Zp (.cmp .eq (.ZT .mod (.ZT .add (.L 0) (.L 1)) (.ZZ (.int 2))) (.ZZ (.int 0))) [(.ret (.Z5 [(.ZW [.L 3,.L 4,.L 5,.L 6,.L 5,.L 4]),(.ZW [.L 5,.L 6,.L 3,.L 4,.L 3,.L 6])]))] []),(.ret (.Z5 [(.ZW [.L 5,.L 4,.L 3,.L 6,.L 5,.L 6]),(.ZW [.L 3,.L 6,.L 5,.L 4,.L 3,.L 4])]))]⟩
def Ft:Fn:=⟨1,4,[(.set (.tp [1,2,3]) (.L 0)),(.ret (.comp 3 [2,3] [((.nm 0),(.X1 (.L 1)),[]),((.nm 1),(.X1 (.L 3)),[]),((.nm 2),(.call 13 [.L 0,.L 1,.L 4]),[])] (.L 2)))]⟩
def Fk:Fn:=⟨1,5,[(.set (.tp [1,2,3,4]) (.Wj (.L 0) none (some (.ZZ (.int 4))))),(.Zp (.or (.cmp .eq (.ZT .mod (.ZT .add (.L 1) (.L 3)) (.ZZ (.int 2))) (.ZZ (.int 1))) (.cmp .eq (.ZT .mod (.ZT .add (.L 2) (.L 4)) (.ZZ (.int 2))) (.ZZ (.int 1)))) [(.ret (.ZZ .ZK))] []),(.ret (.ZW [(.ZT .fdiv (.ZT .add (.L 1) (.L 3)) (.ZZ (.int 2))),(.ZT .fdiv (.ZT .add (.L 2) (.L 4)) (.ZZ (.int 2)))]))]⟩
def Fm:Fn:=⟨1,10,[(.set (.nm 1) (.call 15 [.L 0])),(.Zp (.cmp .UZ (.L 1) (.ZZ .ZK)) [.never] []),(.set (.tp [2,3]) (.L 1)),(.set (.tp [4,5,6,7,8,9]) (.L 0)),(.ret (.Z5 [(.ZW [.L 4,.L 5,.L 8,.L 9,.L 2,.L 3]),(.ZW [.L 8,.L 9,.L 6,.L 7,.L 2,.L 3])]))]⟩
def EL:Fn:=⟨3,4,[(.set (.nm 3) (.call 12 [.L 1,.L 2])),(.Zp (.cmp .UY (.L 3) (.ZZ .ZK)) [.never] []),(.fset (.L 0) 232289904 [220000973] (.L 1)),(.fset (.L 0) 31096353005 [220000973] (.call 10 [.L 1,.L 2]))]⟩
def EK:Fn:=⟨1,4,[(.set (.nm 1) (.Z5 [])),(.set (.nm 2) (.rev (.call 14 [(.fld (.L 0) 232289904 [220000973])]))),(.Vr (.L 2) [(.set (.nm 3) (.pop (.L 2))),(.Zp (.cmp .Xn (.call 15 [.L 3]) (.fld (.L 0) 31096353005 [220000973])) [(.exp (.ext (.L 2) (.rev (.call 16 [.L 3]))))] [(.exp (.app (.L 1) (.L 3)))])]),(.ret (.L 1))]⟩
def E9:Fn:=⟨1,1,[(.ret (.Z5 [(.bi .list [(.Wj (.L 0) none (some (.ZZ (.int 63))))]),(.ZZ (.int 0)),(.ZZ (.int 7))]))]⟩
def E5:Fn:=⟨2,5,[(.set (.nm 2) (.idx (.L 0) (.ZZ (.int 0)))),(.set (.nm 3) (.idx (.L 0) (.ZZ (.int 1)))),(.set (.nm 4) (.ZZ (.int 0))),(.Zp (.cmp .gt (.bi .len [.L 2]) (.ZZ (.int 0))) [(.set (.nm 4) (.idx (.L 2) (.ZT .mod (.L 3) (.bi .len [.L 2]))))] []),(.Zp (.cmp .lt (.L 4) (.ZZ (.int 0))) [(.set (.nm 4) (.ZT .sub (.ZZ (.int 1)) (.L 4)))] []),(.Zp (.cmp .ge (.L 4) (.ZT .pow (.ZZ (.int 10)) (.ZZ (.int 18)))) [(.sub (.L 2) (.ZT .mod (.L 3) (.bi .len [.L 2])) (.ZT .fdiv (.L 4) (.L 1))),(.ret (.ZT .mod (.L 4) (.L 1)))] []),(.sub (.L 0) (.ZZ (.int 1)) (.ZT .add (.L 3) (.ZZ (.int 1)))),(.sub (.L 0) (.ZZ (.int 2)) (.ZT .mod (.ZT .add (.ZT .add (.ZT .add (.ZT .mul (.idx (.L 0) (.ZZ (.int 2))) (.ZZ (.int 48271))) (.ZT .mul (.L 4) (.ZZ (.int 9973)))) (.ZT .mul (.L 3) (.ZZ (.int 31)))) (.ZZ (.int 11))) (.ZZ (.int 2147483647)))),(.ret (.ZT .mod (.ZT .fdiv (.ZT .mod (.ZT .mul (.idx (.L 0) (.ZZ (.int 2))) (.ZZ (.int 69621))) (.ZZ (.int 2147483629))) (.ZZ (.int 64))) (.L 1)))]⟩
def E8:Fn:=⟨1,2,[(.set (.nm 1) (.Z5 [(.ZW [(.ZZ (.int 1)),(.ZZ (.int 1)),(.ZZ (.int 2))]),(.ZW [(.ZZ (.int 1)),(.ZZ (.int 1)),(.ZZ (.int 4))]),(.ZW [(.ZZ (.int 2)),(.ZZ (.int 1)),(.ZZ (.int 2))]),(.ZW [(.ZZ (.int 1)),(.ZZ (.int 2)),(.ZZ (.int 2))]),(.ZW [(.ZZ (.int 2)),(.ZZ (.int 2)),(.ZZ (.int 2))]),(.ZW [(.ZZ (.int 1)),(.ZZ (.int 1)),(.ZZ (.int 4))])])),(.set (.nm 1) (.ZT .add (.L 1) (.Z5 [(.ZW [(.ZZ (.int 3)),(.ZZ (.int 1)),(.ZZ (.int 2))]),(.ZW [(.ZZ (.int 1)),(.ZZ (.int 3)),(.ZZ (.int 2))]),(.ZW [(.ZZ (.int 2)),(.ZZ (.int 1)),(.ZZ (.int 4))]),(.ZW [(.ZZ (.int 1)),(.ZZ (.int 2)),(.ZZ (.int 4))]),(.ZW [(.ZZ (.int 3)),(.ZZ (.int 2)),(.ZZ (.int 2))]),(.ZW [(.ZZ (.int 1)),(.ZZ (.int 1)),(.ZZ (.int 8))])]))),(.ret (.idx (.L 1) (.call 20 [.L 0,(.ZZ (.int 12))])))]⟩
def ET:Fn:=⟨1,4,[(.set (.nm 1) (.Z5 [])),(.for (.nm 2) (.X1 (.ZT .add (.ZT .mul (.idx (.L 0) (.ZZ (.int 0))) (.idx (.L 0) (.ZZ (.int 2)))) (.ZZ (.int 1)))) [(.for (.nm 3) (.X1 (.ZT .add (.ZT .mul (.idx (.L 0) (.ZZ (.int 1))) (.idx (.L 0) (.ZZ (.int 2)))) (.ZZ (.int 1)))) [(.exp (.app (.L 1) (.ZW [.L 2,.L 3])))])]),(.ret (.L 1))]⟩
def ES:Fn:=⟨2,2,[(.ret (.and (.cmp .eq (.ZT .mod (.idx (.L 1) (.ZZ (.int 0))) (.idx (.L 0) (.ZZ (.int 2)))) (.ZZ (.int 0))) (.cmp .eq (.ZT .mod (.idx (.L 1) (.ZZ (.int 1))) (.idx (.L 0) (.ZZ (.int 2)))) (.ZZ (.int 0)))))]⟩
def E3:Fn:=⟨1,1,[(.ret (.comp 1 [0] [((.nm 0),(.call 22 [.L 0]),[(.not (.call 23 [.L 1,.L 0]))])] (.L 0)))]⟩
def Fh:Fn:=⟨2,2,[(.ret (.and (.chain .le .le (.ZZ (.int 0)) (.idx (.L 1) (.ZZ (.int 0))) (.ZT .mul (.idx (.L 0) (.ZZ (.int 0))) (.idx (.L 0) (.ZZ (.int 2))))) (.chain .le .le (.ZZ (.int 0)) (.idx (.L 1) (.ZZ (.int 1))) (.ZT .mul (.idx (.L 0) (.ZZ (.int 1))) (.idx (.L 0) (.ZZ (.int 2)))))))]⟩
def E4:Fn:=⟨1,1,[(.Zp (.and (.cmp .eq (.ZT .mod (.idx (.L 0) (.ZZ (.int 0))) (.ZZ (.int 4))) (.ZZ (.int 0))) (.cmp .eq (.ZT .mod (.idx (.L 0) (.ZZ (.int 1))) (.ZZ (.int 4))) (.ZZ (.int 0)))) [(.ret (.ZZ (.int 4)))] []),(.Zp (.and (.cmp .eq (.ZT .mod (.idx (.L 0) (.ZZ (.int 0))) (.ZZ (.int 2))) (.ZZ (.int 0))) (.cmp .eq (.ZT .mod (.idx (.L 0) (.ZZ (.int 1))) (.ZZ (.int 2))) (.ZZ (.int 0)))) [(.ret (.ZZ (.int 2)))] []),(.ret (.ZZ (.int 1)))]⟩
def ER:Fn:=⟨1,2,[(.set (.nm 1) (.call 26 [.L 0])),(.ret (.and (.cmp .eq (.ZT .mod (.ZT .fdiv (.idx (.L 0) (.ZZ (.int 0))) (.L 1)) (.ZZ (.int 2))) (.ZZ (.int 1))) (.cmp .eq (.ZT .mod (.ZT .fdiv (.idx (.L 0) (.ZZ (.int 1))) (.L 1)) (.ZZ (.int 2))) (.ZZ (.int 1)))))]⟩
def EV:Fn:=⟨1,8,[(.set (.nm 1) (.call 26 [.L 0])),(.set (.tp [2,3]) (.L 0)),(.set (.nm 4) (.Z5 [(.ZW [(.ZT .sub (.L 2) (.L 1)),.L 3]),(.ZW [(.ZT .add (.L 2) (.L 1)),.L 3])])),(.set (.nm 5) (.Z5 [(.ZW [.L 2,(.ZT .sub (.L 3) (.L 1))]),(.ZW [.L 2,(.ZT .add (.L 3) (.L 1))])])),(.set (.nm 6) (.Z5 [(.ZW [(.ZT .sub (.L 2) (.L 1)),(.ZT .sub (.L 3) (.L 1))]),(.ZW [(.ZT .add (.L 2) (.L 1)),(.ZT .add (.L 3) (.L 1))])])),(.set (.nm 7) (.Z5 [(.ZW [(.ZT .sub (.L 2) (.L 1)),(.ZT .add (.L 3) (.L 1))]),(.ZW [(.ZT .add (.L 2) (.L 1)),(.ZT .sub (.L 3) (.L 1))])])),(.Zp (.call 27 [.L 0]) [(.Zp (.cmp .eq (.ZT .mod (.ZT .fdiv (.ZT .sub (.ZT .add (.ZT .sub (.L 2) (.L 1)) (.L 3)) (.L 1)) (.ZT .mul (.ZZ (.int 2)) (.L 1))) (.ZZ (.int 2))) (.ZZ (.int 0))) [(.ret (.Z5 [.L 6,.L 7]))] []),(.ret (.Z5 [.L 7,.L 6]))] []),(.Zp (.cmp .eq (.ZT .mod (.ZT .fdiv (.L 2) (.L 1)) (.ZZ (.int 2))) (.ZZ (.int 1))) [(.ret (.Z5 [.L 4,.L 5]))] []),(.ret (.Z5 [.L 5,.L 4]))]⟩
def Fc:Fn:=⟨2,2,[(.ret (.comp 1 [0] [((.nm 0),(.idx (.call 28 [.L 1]) (.ZZ (.int 1))),[(.and (.call 25 [.L 1,.L 0]) (.not (.call 23 [.L 1,.L 0])))])] (.L 0)))]⟩
def EU:Fn:=⟨2,5,[(.set (.nm 2) .Wi),(.set (.nm 3) (.bi .list [.L 1])),(.Vr (.cmp .gt (.bi .len [.L 3]) (.ZZ (.int 0))) [(.set (.nm 4) (.pop (.L 3))),(.Zp (.cmp .VZ (.L 4) (.L 2)) [(.sub (.L 2) (.L 4) (.ZZ (.bl true))),(.exp (.ext (.L 3) (.call 29 [.L 0,.L 4])))] [])]),(.ret (.bi .Wk [.L 2]))]⟩
def E1:Fn:=⟨2,4,[(.set (.nm 2) (.call 24 [.L 1])),(.set (.nm 3) (.call 20 [.L 0,(.ZZ (.int 11))])),(.Zp (.cmp .eq (.L 3) (.ZZ (.int 0))) [(.ret (.Z5 []))] []),(.Zp (.cmp .eq (.L 3) (.ZZ (.int 1))) [(.ret (.L 2))] []),(.Zp (.cmp .lt (.L 3) (.ZZ (.int 4))) [(.ret (.comp 1 [0] [((.nm 0),.L 2,[(.cmp .eq (.call 20 [.L 1,(.ZZ (.int 2))]) (.ZZ (.int 1)))])] (.L 0)))] []),(.Zp (.cmp .lt (.L 3) (.ZZ (.int 6))) [(.ret (.comp 1 [0] [((.nm 0),.L 2,[(.cmp .gt (.call 20 [.L 1,(.ZZ (.int 5))]) (.ZZ (.int 0)))])] (.L 0)))] []),(.ret (.comp 1 [0,2] [((.nm 0),(.X1 (.ZT .add (.ZZ (.int 1)) (.call 20 [.L 0,(.ZZ (.int 7))]))),[])] (.idx (.L 2) (.call 20 [.L 1,(.bi .len [.L 2])]))))]⟩
def E2:Fn:=⟨2,2,[(.ret (.call 30 [.L 1,(.call 31 [.L 0,.L 1])]))]⟩
def EZ:Fn:=⟨2,5,[(.set (.nm 2) (.Z5 [])),(.set (.nm 3) (.bi .list [.L 1])),(.for (.nm 4) (.X1 (.bi .len [.L 1])) [(.exp (.app (.L 2) (.VY (.L 3) (.call 20 [.L 0,(.bi .len [.L 3])]))))]),(.ret (.L 2))]⟩
def EJ:Fn:=⟨1,1,[(.ret (.Z5 [(.ZW [(.idx (.L 0) (.ZZ (.int 0))),(.idx (.L 0) (.ZZ (.int 1)))]),(.ZW [(.idx (.L 0) (.ZZ (.int 2))),(.idx (.L 0) (.ZZ (.int 3)))]),(.ZW [(.idx (.L 0) (.ZZ (.int 4))),(.idx (.L 0) (.ZZ (.int 5)))])]))]⟩
def EW:Fn:=⟨3,4,[(.set (.nm 3) (.ZT .mul (.ZT .sub (.idx (.L 1) (.ZZ (.int 0))) (.idx (.L 0) (.ZZ (.int 0)))) (.ZT .sub (.idx (.L 2) (.ZZ (.int 1))) (.idx (.L 0) (.ZZ (.int 1)))))),(.ret (.ZT .sub (.L 3) (.ZT .mul (.ZT .sub (.idx (.L 2) (.ZZ (.int 0))) (.idx (.L 0) (.ZZ (.int 0)))) (.ZT .sub (.idx (.L 1) (.ZZ (.int 1))) (.idx (.L 0) (.ZZ (.int 1)))))))]⟩
def Cn:Fn:=⟨4,11,[(.set (.tp [4,5,6]) (.comp 1 [3] [((.nm 0),(.call 34 [.L 0]),[])] (.ZW [(.ZT .mul (.idx (.L 0) (.ZZ (.int 0))) (.L 1)),(.ZT .mul (.idx (.L 0) (.ZZ (.int 1))) (.L 1))]))),(.set (.nm 7) (.ZW [.L 1,.L 2])),(.set (.nm 8) (.ZZ (.int 1))),(.Zp (.cmp .lt (.call 35 [.L 4,.L 5,.L 6]) (.ZZ (.int 0))) [(.set (.nm 8) (.ZT .sub (.ZZ (.int 0)) (.ZZ (.int 1))))] []),(.set (.nm 9) (.ZT .mul (.L 8) (.call 35 [.L 7,.L 5,.L 6]))),(.set (.nm 10) (.ZT .mul (.L 8) (.call 35 [.L 4,.L 7,.L 6]))),(.ret (.Z5 [.L 9,.L 10,(.ZT .mul (.L 8) (.call 35 [.L 4,.L 5,.L 7]))]))]⟩
def EM:Fn:=⟨3,3,[(.Zp (.or (.cmp .eq (.L 2) (.L 0)) (.or (.cmp .eq (.L 2) (.L 1)) (.cmp .ne (.call 35 [.L 0,.L 1,.L 2]) (.ZZ (.int 0))))) [(.ret (.ZZ (.bl false)))] []),(.Zp (.or (.cmp .lt (.idx (.L 2) (.ZZ (.int 0))) (.bi .mn [(.idx (.L 0) (.ZZ (.int 0))),(.idx (.L 1) (.ZZ (.int 0)))])) (.cmp .gt (.idx (.L 2) (.ZZ (.int 0))) (.bi .mx [(.idx (.L 0) (.ZZ (.int 0))),(.idx (.L 1) (.ZZ (.int 0)))]))) [(.ret (.ZZ (.bl false)))] []),(.ret (.chain .le .le (.bi .mn [(.idx (.L 0) (.ZZ (.int 1))),(.idx (.L 1) (.ZZ (.int 1)))]) (.idx (.L 2) (.ZZ (.int 1))) (.bi .mx [(.idx (.L 0) (.ZZ (.int 1))),(.idx (.L 1) (.ZZ (.int 1)))])))]⟩
def EI:Fn:=⟨3,5,[(.for (.nm 3) (.Xm (.bi .mn [(.idx (.L 0) (.ZZ (.int 0))),(.idx (.L 1) (.ZZ (.int 0)))]) (.ZT .add (.bi .mx [(.idx (.L 0) (.ZZ (.int 0))),(.idx (.L 1) (.ZZ (.int 0)))]) (.ZZ (.int 1)))) [(.for (.nm 4) (.Xm (.bi .mn [(.idx (.L 0) (.ZZ (.int 1))),(.idx (.L 1) (.ZZ (.int 1)))]) (.ZT .add (.bi .mx [(.idx (.L 0) (.ZZ (.int 1))),(.idx (.L 1) (.ZZ (.int 1)))]) (.ZZ (.int 1)))) [(.Zp (.and (.cmp .Xn (.ZW [.L 3,.L 4]) (.L 2)) (.call 37 [.L 0,.L 1,(.ZW [.L 3,.L 4])])) [(.ret (.ZZ (.bl false)))] [])])]),(.ret (.ZZ (.bl true)))]⟩
def FC:Fn:=⟨1,17,[(.set (.nm 1) (.call 19 [.L 0])),(.set (.nm 2) (.call 21 [.L 1])),(.set (.nm 3) (.call 32 [.L 1,.L 2])),(.set (.nm 4) (.make 220000973 17 [.L 2,(.call 33 [.L 1,.L 3])] [] [.inl 0,.inl 1,.inl 2])),(.set (.nm 5) .Wi),(.set (.nm 6) (.ZZ (.int 0))),(.set (.nm 7) (.ZZ (.bl true))),(.for (.nm 8) (.XG (.L 4) 8343959817466575220 [(220000973,18,[.inl 0])] [] []) [(.set (.tp [9,10,11]) (.call 34 [.L 8])),(.set (.nm 6) (.ZT .add (.L 6) (.bi .abs [(.call 35 [.L 9,.L 10,.L 11])]))),(.for (.nm 12) (.Z5 [.L 9,.L 10,.L 11]) [(.sub (.L 5) (.L 12) (.ZZ (.bl true)))])]),(.for (.nm 8) (.XG (.L 4) 8343959817466575220 [(220000973,18,[.inl 0])] [] []) [(.set (.tp [9,10,11]) (.call 34 [.L 8])),(.set (.nm 7) (.and (.L 7) (.and (.cmp .ne (.call 35 [.L 9,.L 10,.L 11]) (.ZZ (.int 0))) (.call 38 [.L 9,.L 10,.L 5])))),(.set (.nm 7) (.and (.L 7) (.and (.call 38 [.L 10,.L 11,.L 5]) (.call 38 [.L 11,.L 9,.L 5]))))]),(.set (.nm 7) (.and (.L 7) (.cmp .eq (.L 6) (.ZT .mul (.ZT .mul (.ZT .mul (.ZT .mul (.ZZ (.int 2)) (.idx (.L 2) (.ZZ (.int 0)))) (.idx (.L 2) (.ZZ (.int 1)))) (.idx (.L 2) (.ZZ (.int 2)))) (.idx (.L 2) (.ZZ (.int 2))))))),(.set (.nm 13) (.ZT .add (.ZT .mul (.ZZ (.int 4)) (.call 20 [.L 1,(.ZT .mul (.idx (.L 2) (.ZZ (.int 0))) (.idx (.L 2) (.ZZ (.int 2))))])) (.ZZ (.int 1)))),(.set (.nm 14) (.ZT .add (.ZT .mul (.ZZ (.int 4)) (.call 20 [.L 1,(.ZT .mul (.idx (.L 2) (.ZZ (.int 1))) (.idx (.L 2) (.ZZ (.int 2))))])) (.ZZ (.int 2)))),(.set (.nm 15) (.bi .len [(.comp 1 [13,14] [((.nm 0),(.XG (.L 4) 8343959817466575220 [(220000973,18,[.inl 0])] [] []),[(.cmp .gt (.bi .mn [(.call 36 [.L 0,.L 1,.L 2,(.ZZ (.int 4))])]) (.ZZ (.int 0)))])] (.L 0))])),(.set (.nm 16) (.comp 1 [2,3] [((.nm 0),(.call 22 [.L 2]),[(.or (.call 23 [.L 1,.L 0]) (.cmp .Xn (.L 0) (.L 2)))])] (.L 0))),(.ret (.and (.L 7) (.and (.cmp .eq (.L 15) (.ZZ (.int 1))) (.cmp .eq (.bi .Wk [.L 5]) (.L 16)))))]⟩
def J:List Fn:=[Fg,EX,E7,Fb,Fo,E6,EY,EN,Fq,Fe,Fd,Ff,Fp,EO,Ft,Fk,Fm,EL,EK,E9,E5,E8,ET,ES,E3,Fh,E4,ER,EV,Fc,EU,E1,E2,EZ,EJ,EW,Cn,EM,EI,FC]
end ZE
end
section
namespace ZE
noncomputable section
open PySem PI L2
def Bf:List Inf:=[⟨"in_land",["plan","at","wide","deep","side","x","y"],["plan","at"],none,none⟩,⟨"need_place",["plan","at"],["plan","at"],none,none⟩,⟨"is_corner",["plan","at","side","x","y"],["plan","at"],none,none⟩,⟨"need_cut",["plan","at"],["plan","at"],none,none⟩,⟨"stride",["at","x","y","size"],["at"],none,none⟩,⟨"is_centre",["at","x","y","size"],["at"],none,none⟩,⟨"edge_pairs",["at","x","y","size","lying","upright"],["at"],none,none⟩,⟨"centre_pairs",["at","x","y","size","rising","falling"],["at"],none,none⟩,⟨"pairs",["at"],["at"],none,none⟩,⟨"parents",["plan","at","facing"],["plan","at"],none,none⟩,⟨"gathered",["plan","cuts","at"],["plan","cuts"],none,none⟩,⟨"lacking",["plan","known","at"],["plan","known","at"],none,none⟩,⟨"crack",["plan","cuts","known","at","missing"],["plan","cuts"],none,none⟩,⟨"block_roots",["i","j","side","x","y","right","top"],["i","j","side"],none,none⟩,⟨"roots",["plan","wide","deep","side"],["plan"],none,none⟩,⟨"middle",["shape","ax","ay","bx","by"],["shape"],none,none⟩,⟨"halved",["shape","place","x","y","ax","ay","bx","by","cx","cy"],["shape"],none,none⟩,⟨"Mesh.__init__",["self","plan","cuts","cracked"],["self","plan","cuts"],some ("Mesh","__init__"),some (⟨["self","plan","cuts"],[],[("cuts",(.xn 0 []))]⟩,1)⟩,⟨"Mesh.triangles",["self","told","waiting","shape"],["self"],some ("Mesh","triangles"),some (⟨["self"],[],[]⟩,0)⟩,⟨"_law_bag",["_law_script"],["_law_script"],none,none⟩,⟨"_law_draw",["_law_bag_here","_law_many","_law_cells","_law_at","_law_cell"],["_law_bag_here","_law_many"],none,none⟩,⟨"_law_plan",["_law_bag_here","_law_menu"],["_law_bag_here"],none,none⟩,⟨"_law_places",["_law_plan_here","_law_found","_law_x","_law_y"],["_law_plan_here"],none,none⟩,⟨"_law_corner",["_law_plan_here","_law_at"],["_law_plan_here","_law_at"],none,none⟩,⟨"_law_cuts",["_law_plan_here"],["_law_plan_here"],none,none⟩,⟨"_law_in",["_law_plan_here","_law_at"],["_law_plan_here","_law_at"],none,none⟩,⟨"_law_step",["_law_at"],["_law_at"],none,none⟩,⟨"_law_centre",["_law_at","_law_size"],["_law_at"],none,none⟩,⟨"_law_around",["_law_at","_law_size","_law_x","_law_y","_law_flat","_law_tall","_law_rising","_law_falling"],["_law_at"],none,none⟩,⟨"_law_ups",["_law_plan_here","_law_at"],["_law_plan_here","_law_at"],none,none⟩,⟨"_law_closed",["_law_plan_here","_law_some_here","_law_there","_law_todo","_law_at"],["_law_plan_here","_law_some_here"],none,none⟩,⟨"_law_picks",["_law_bag_here","_law_plan_here","_law_every","_law_kind"],["_law_bag_here","_law_plan_here"],none,none⟩,⟨"_law_some",["_law_bag_here","_law_plan_here"],["_law_bag_here","_law_plan_here"],none,none⟩,⟨"_law_mixed",["_law_bag_here","_law_row","_law_found","_law_left","_law_k"],["_law_bag_here","_law_row"],none,none⟩,⟨"_law_corners_of",["_law_shape"],["_law_shape"],none,none⟩,⟨"_law_cross",["_law_one","_law_two","_law_three","_law_first"],["_law_one","_law_two","_law_three"],none,none⟩,⟨"_law_weigh",["_law_shape","_law_x","_law_y","_law_scale","_law_a","_law_b","_law_c","_law_spot","_law_sign","_law_one","_law_two"],["_law_shape","_law_x","_law_y","_law_scale"],none,none⟩,⟨"_law_between",["_law_one","_law_two","_law_at"],["_law_one","_law_two","_law_at"],none,none⟩,⟨"_law_side_clean",["_law_one","_law_two","_law_spots","_law_x","_law_y"],["_law_one","_law_two","_law_spots"],none,none⟩,⟨"law",["_law_script","_law_bag_here","_law_plan_here","_law_some_here","_law_mesh","_law_spots","_law_area","_law_good","_law_shape","_law_a","_law_b","_law_c","_law_at","_law_x","_law_y","_law_many","_law_due"],["_law_script"],none,none⟩]
def ms:List Str:=["__init__","triangles"]
def T:Tab:=⟨(["in_land","need_place","is_corner","need_cut","stride","is_centre","edge_pairs","centre_pairs","pairs","parents","gathered","lacking","crack","block_roots","roots","middle","halved","__debug__","__debug__","_law_bag","_law_draw","_law_plan","_law_places","_law_corner","_law_cuts","_law_in","_law_step","_law_centre","_law_around","_law_ups","_law_closed","_law_picks","_law_some","_law_mixed","_law_corners_of","_law_cross","_law_weigh","_law_between","_law_side_clean","law"].map Str.ofString),[],["abs","len","list","max","min","range","set","sorted"],Dz Bf,Dv Bf,Dj Bf ms,[("plan",[220000973]),("marks",[220000973])],[("Mesh",220000973)],["_law_mesh"]⟩
def loose:List Str:=(["_wall","LandError","LookError","Cracked","Twice","NoHalf","NoPlace","NoCut","in_land","need_place","is_corner","need_cut","stride","is_centre","edge_pairs","centre_pairs","pairs","parents","gathered","lacking","crack","block_roots","roots","middle","halved","Mesh","_law_bag","_law_draw","_law_plan","_law_places","_law_corner","_law_cuts","_law_in","_law_step","_law_centre","_law_around","_law_ups","_law_closed","_law_picks","_law_some","_law_mixed","_law_corners_of","_law_cross","_law_weigh","_law_between","_law_side_clean"].map Str.ofString)
end
end ZE
end
section
open PySem PySem.W PyProof.Rows
noncomputable def ZE.Vp:List (Option (Scope×List Stmt)):=[PI.Ae #[0] 10,PI.Ae #[0] 11,PI.Ae #[0] 12,PI.Ae #[0] 13,PI.Ae #[0] 14,PI.Ae #[0] 15,PI.Ae #[0] 16,PI.Ae #[0] 17,PI.Ae #[0] 18,PI.Ae #[0] 19,PI.Ae #[0] 21,PI.Ae #[0] 22,PI.Ae #[0] 23,PI.Ae #[0] 25,PI.Ae #[0] 26,PI.Ae #[0] 27,PI.Ae #[0] 28,PI.Gf #[0] 30 0,PI.Gf #[0] 30 5,PI.Ae #[0] 32,PI.Ae #[0] 33,PI.Ae #[0] 34,PI.Ae #[0] 35,PI.Ae #[0] 36,PI.Ae #[0] 37,PI.Ae #[0] 38,PI.Ae #[0] 39,PI.Ae #[0] 40,PI.Ae #[0] 41,PI.Ae #[0] 42,PI.Ae #[0] 43,PI.Ae #[0] 44,PI.Ae #[0] 45,PI.Ae #[0] 46,PI.Ae #[0] 47,PI.Ae #[0] 48,PI.Ae #[0] 49,PI.Ae #[0] 50,PI.Ae #[0] 51,PI.Ae #[0] 52]
def ZE.SW(w:World):(PI.endsF PySem.Challenge.rw_braemantle_k29_whole_no_crack.prog w 20000).map (λs=>(Fast.tw4187177175401517315 (PI.lastOf PySem.Challenge.rw_braemantle_k29_whole_no_crack.prog) ZE.loose (PySem.importedModules #[0]) (λ_=>true) true s,PI.D9 ZE.T (PI.A4 s.heap) ZE.Bf))=some (openGood (PI.lastOf PySem.Challenge.rw_braemantle_k29_whole_no_crack.prog) ZE.loose,true):=by kernel_rfl
def ZE.chk1(w:World):(PI.endsF PySem.Challenge.rw_braemantle_k29_whole_no_crack.prog w 20000).map (λs=>(ZE.Bf.take 26).map (PI.BO (PI.A4 s.heap)))=some (ZE.Vp.take 26):=by kernel_rfl
def ZE.chk2(w:World):(PI.endsF PySem.Challenge.rw_braemantle_k29_whole_no_crack.prog w 20000).map (λs=>((ZE.Bf.drop 26).take 14).map (PI.BO (PI.A4 s.heap)))=some ((ZE.Vp.drop 26).take 14):=by kernel_rfl
def ZE.part0:PI.Ab (((ZE.Bf.zip ZE.Vp).take 16).map (PI.mkF ZE.T))=some (ZE.J.take 16):=by kernel_rfl
def ZE.part1:PI.Ab ((((ZE.Bf.zip ZE.Vp).drop 16).take 11).map (PI.mkF ZE.T))=some ((ZE.J.drop 16).take 11):=by kernel_rfl
def ZE.part2:PI.Ab ((((ZE.Bf.zip ZE.Vp).drop 27).take 10).map (PI.mkF ZE.T))=some ((ZE.J.drop 27).take 10):=by kernel_rfl
def ZE.part3:PI.Ab ((((ZE.Bf.zip ZE.Vp).drop 37).take 3).map (PI.mkF ZE.T))=some ((ZE.J.drop 37).take 3):=by kernel_rfl
end
variable{xs S ZS:List PI.U}{u y:PI.U}{o' c e' elt Zl Zt:PI.E}{tb:List (Nat×Nat×List (Nat ⊕ PI.U))}{op:PI.Op}{pm:List (Nat ⊕ PI.U)}{es' cs:List PI.E}{is:List PI.Inf}{ZC:List (PI.Tg×PI.E×List PI.E)}{ce:PySem.Expr->Option PI.E}
namespace L2
open PySem PySem.Spec PyProof.Rows
abbrev Key:=Sum Int Str
def Cb:Key->Value->Bool
 |.inl k,v=>Value.isInt k v
 |.inr x,v=>Value.isStrOf x v
def HL(w:World):Key->Int
 |.inl k=>hashInt k
 |.inr x=>hashStr w x
def aO:∀{k:Key} {v:Value},Cb k v=true->(∃i t,k=Sum.inl i/\v=Value.int i t)\/(∃x t,k=Sum.inr x/\v=Value.str x t)
 |.inl i,v,h=>by
  let⟨t,e⟩:=Qg (k:=i) (v:=v) h;exact .inl ⟨i,t,rfl,e⟩
 |.inr x,v,h=>by
  let⟨t,e⟩:=Value.isStrOf_shape (x:=x) (v:=v) h;exact .inr ⟨x,t,rfl,e⟩
def rn(i:Int)(t:Tok):Cb (.inl i) (.int i t)=true:=by simp[Cb,Value.isInt]
def sf(x:Str)(t:Tok):Cb (.inr x) (.str x t)=true:=by simp[Cb,Value.isStrOf]
def abl(a b:Int):decide ((Sum.inl a:Key)=Sum.inl b)=(a==b):=by
 by_cases e:a=b
 .subst e;simp
 .have h : ¬ (Sum.inl a:Key)=Sum.inl b:=λq=>e (Sum.inl.inj q)
  rw[Vu h];exact(Rg.mpr e).symm
def x3(a b:Str):decide ((Sum.inr a:Key)=Sum.inr b)=decide (a=b):=by
 by_cases e:a=b
 .subst e;simp
 .have h : ¬ (Sum.inr a:Key)=Sum.inr b:=λq=>e (Ow q)
  rw[Vu h,Vu e]
def x4(a:Int)(b:Str):decide ((Sum.inl a:Key)=Sum.inr b)=false:=Vu (λq=>nomatch q)
def zN(a:Str)(b:Int):decide ((Sum.inr a:Key)=Sum.inl b)=false:=Vu (λq=>nomatch q)
def AJ(prog:Program)(w:World):PySem.KeyKind prog w Key where
 is:=Cb
 hash:=HL w
 inj:=λv a b l f=>by
  rcases aO l with⟨i,t,rfl,rfl⟩|⟨x,t,rfl,rfl⟩
  .rcases aO f with⟨j,u,rfl,e⟩|⟨y,u,rfl,e⟩
   .injection e with c _;rw[c]
   .exact nomatch e
  .rcases aO f with⟨j,u,rfl,e⟩|⟨y,u,rfl,e⟩
   .exact nomatch e
   .injection e with c _;rw[c]
 byValue:=λk v h=>by
  rcases aO h with⟨i,t,rfl,rfl⟩|⟨x,t,rfl,rfl⟩<;>rfl
 pyHash:=λd h=>by
  rcases aO d with⟨i,t,rfl,rfl⟩|⟨x,t,rfl,rfl⟩
  .exact wpAny_pyHash_int h
  .exact wpAny_pyHash_str h
 eqBool:=λg d h=>by
  rcases aO g with⟨i,t,rfl,rfl⟩|⟨x,t,rfl,rfl⟩
  .rcases aO d with⟨j,u,rfl,rfl⟩|⟨y,u,rfl,rfl⟩
   .rw [abl]at h;exact wpAny_eqBool_int h
   .rw [x4]at h;exact SeqAt.EqAt.int_str i t y u _ _ _ _ h
  .rcases aO d with⟨j,u,rfl,rfl⟩|⟨y,u,rfl,rfl⟩
   .rw [zN]at h;exact SeqAt.EqAt.str_int x t j u _ _ _ _ h
   .rw [x3]at h;exact wpAny_eqBool_str h
 «strs»:=λk x t v h=>by
  rcases aO h with⟨i,u,rfl,e⟩|⟨y,u,rfl,e⟩
  .exact nomatch e
  .injection e with c _
   subst c;cases v<;>rfl
def pD(prog:Program)(w:World)(i:Int)(t:Tok):(AJ prog w).is (.inl i) (.int i t)=true:=rn i t
def pG(prog:Program)(w:World)(x:Str)(t:Tok):(AJ prog w).is (.inr x) (.str x t)=true:=sf x t
end L2
namespace L2
open PySem PySem.Spec PyProof.Rows
inductive V where
 |ZK|bl (b:Bool)|int (i:Int)|str (x:Str)|XD (b:Array UInt8)|Vo (b:UInt64)|ref (a:Addr)|ty (n:String)
 deriving DecidableEq
def RelV:V->Value->Prop
 |.ZK,u=>u=Value.none
 |.bl b,u=>u=Value.bool b
 |.int i,u=>∃t,u=Value.int i t
 |.str x,u=>∃t,u=Value.str x t
 |.XD b,u=>∃t,u=Value.bytes b t
 |.Vo b,u=>∃t,u=Value.float b t
 |.ref a,u=>u=Value.ref a
 |.ty n,u=>u=Value.type n
abbrev ZG:List V->List Value->Prop:=Paired RelV
def ZG.length{xs:List V}{S:List Value}(r:ZG xs S):xs.length=S.length:=Qx r
def ZG.get:∀{xs:List V} {S:List Value} {i:Nat} {x:V},ZG xs S->xs[i]?=some x ->∃u,S[i]?=some u/\RelV x u
 |_,_,_,_,.nil,e=>by simp at e
 |_,_,0,_,.cons r _,e=>by simp at e;subst e;exact⟨_,rfl,r⟩
 |_,_,i+1,x,.cons _ t,e=>by
  let⟨u,h1,h2⟩:=ZG.get (i:=i) (x:=x) t (by simpa using e)
  exact⟨u,by simpa using h1,h2⟩
def ZG.set{x:V}{u:Value}(r:RelV x u):∀{xs:List V} {S:List Value} (i:Nat),ZG xs S->ZG (xs.set i x) (S.set i u)
 |_,_,_,.nil=>.nil
 |_,_,0,.cons _ t=>.cons r t
 |_,_,i+1,.cons q t=>.cons q (ZG.set r i t)
def ZG.append:∀{xs ys:List V} {S ws:List Value},ZG xs S->ZG ys ws->ZG (xs++ys) (S++ws)
 |_,_,_,_,.nil,s=>s
 |_,_,_,_,.cons r t,s=>.cons r (ZG.append t s)
def ZG.take:∀{xs:List V} {S:List Value} (n:Nat),ZG xs S->ZG (xs.take n) (S.take n)
 |_,_,0,_=>.nil
 |_,_,_+1,.nil=>.nil
 |_,_,n+1,.cons r t=>.cons r (ZG.take n t)
def ZG.drop:∀{xs:List V} {S:List Value} (n:Nat),ZG xs S->ZG (xs.drop n) (S.drop n)
 |_,_,0,r=>r
 |_,_,_+1,.nil=>.nil
 |_,_,n+1,.cons _ t=>ZG.drop n t
def RelO:Option V->Option Value->Prop
 |some v,some u=>RelV v u
 |none,none=>True
 |_,_=>False
def KV{a:Type}:List (a×V)->List (a×Value)->Prop:=Paired λ(p:a×V) (q:a×Value)=>p.1=q.1/\RelV p.2 q.2
def HM:Key->V
 |.inl i=>.int i
 |.inr x=>.str x
set_option genInjectivity false in
inductive HO where
 |Z5 (xs:List V)
 |ZW (xs:List V)
 |dK (Z4:List (Key×V))|dT (Z4:List (List Key×V))
 |set (Z6:Int->Bool) (n:Nat)
 |ins (C dx:Addr) (fs:List (Str×V))
 |own (x:Addr)
 |xd (fs:List (Str×V))
 |met (f x:Addr)
 |YG (lo hi:Int)
 |Zv (o:Obj) (u:HO)
 |VW (ps:Array Value)
 |ext (φ:Heap->Prop)
abbrev Hp:=Addr->Option HO
def upd(H:Hp)(a:Addr)(o:HO):Hp:=λb=>if b=a then some o else H b
def upd_same{H:Hp}{o:HO}:upd H a o a=some o:=by unfold upd;rw[Yn rfl]
def af{H:Hp}{b:Addr}{o:HO}(h:b≠a):upd H a o b=H b:=by unfold upd;rw[Yb h]
def cg{H:Hp}{b:Addr}{o u:HO}(h:H a=some o)(h':H b=some u)(d:o≠u):a≠b:=by
 intro e;subst e;rw[h]at h';exact d (WQ h')
def aE{H:Hp}{b:Addr}{o:HO}(h:H a=some o)(h':H b=none):a≠b:=by
 intro e;subst e;rw[h]at h';cases h'
section
variable(P:Program)(w:World)
def ObjOk(H:Hp)(h:Heap)(a:Addr):HO->Prop
 |.Z5 xs=>xs.length<=sizeLine /\∃(ZU:List Value) (n:Nat),ZG xs ZU/\h.get? a=some {cls:=.type "list",data:=.seq ZU.toArray n}
 |.ZW xs=>xs.length<=sizeLine /\∃ZU:List Value,ZG xs ZU/\IsTup h a ZU.toArray
 |.dK Z4=>Z4.length<=sizeLine/\(a==sysModules)=false /\∃vs,KV Z4 vs/\h.DictOf (AJ P w) a vs
 |.dT Z4=>Z4.length<=sizeLine/\(a==sysModules)=false /\∃xs:List (List Key×Addr×Value),
   Paired (λ(p:List Key×V) (q:List Key×Addr×Value)=>p.1=q.1/\H q.2.1=some (.ZW (p.1.map HM))/\RelV p.2 q.2.2) Z4 xs /\
   ∃o es ep,h.get? a=some o/\o.ExactDict/\o.data=.dict es ep/\es.toList=xs.map (entryOfKey (tupleKind (AJ P w)))/\(xs.map (·.1)).Nodup
 |.set Z6 n=>h.SetOf (intKind P w) a Z6 n
 |.ins C dx fs=>H dx=some (.own a)/\fs.length<=1000/\dx≠a/\h.get? a=some (PySem.W.instObj C dx) /\
   ∃mA,h.Ns1 dx mA/\(∀f,RelO (fs.lookup f) (mA f))/\PySem.Within mA (fs.map (·.1))
 |.own _=>∃o,h.get? a=some o
 |.xd fs=>∃mA,h.Ns1 a mA /\∀f,RelO (fs.lookup f) (mA f)
 |.YG lo hi=>∃t u v,h.get? a=some {cls:=.type "range",data:=.fields #[.int lo t,.int hi u,.int 1 v]}
 |.Zv o u=>h.get? a=some o/\ObjOk H h a u
 |.VW ps=>h.get? a=some {cls:=.none,data:=.fields ps}
 |.met f x=>h.get? a=some (PySem.W.methodObj (.ref f) (.ref x))
 |.ext c=>c h/\(∃o,h.get? a=some o) /\∀h1 h2:Heap,c h1->(∀o,h1.get? a=some o->h2.get? a=some o)->c h2
def HOk(H:Hp)(h:Heap):Prop:=∀a o,H a=some o->ObjOk P w H h a o
end
section
variable{P:Program}{H H':Hp}{o:HO}
def ObjOk.lt(x:ObjOk P w H h a o):a<h.objs.size:=by
 cases o with
 |Z5 xs=>let⟨_,_,_,_,e⟩:=x;exact G5 e
 |ZW xs=>let⟨_,_,_,p⟩:=x;exact p.lt
 |dK Z4=>let⟨_,_,_,_,o,_,_,e,_⟩:=x;exact G5 e
 |dT Z4=>let⟨_,_,_,_,o,_,_,e,_⟩:=x;exact G5 e
 |set Z6 n=>let⟨o,_,_,_,e,_⟩:=x;exact G5 e
 |ins C dx fs=>let⟨_,_,_,e,_⟩:=x;exact G5 e
 |own y=>let⟨_,e⟩:=x;exact G5 e
 |xd fs=>let⟨_,⟨_,_,_,e,_⟩,_⟩:=x;exact G5 e
 |YG lo hi=>let⟨_,_,_,e⟩:=x;exact G5 e
 |Zv ob u=>let⟨e,_⟩:=x;exact G5 e
 |VW ps=>exact G5 (show h.get? a=some _ from x)
 |met f y=>exact G5 (show h.get? a=some _ from x)
 |ext b=>let⟨_,⟨_,e⟩,_⟩:=x;exact G5 e
def Paired.TC{d c:Type}{F G:d->c->Prop}:∀{l₁ : List d} {l₂ : List c},Paired F l₁ l₂ -> (∀a b,F a b->G a b)->Paired G l₁ l₂
 |_,_,.nil,_=>.nil
 |_,_,.cons r t,f=>.cons (f _ _ r) (Paired.TC t f)
def ObjOk.XT(x:ObjOk P w H h a o)(k:∀b u,(b=a\/H b=some (.own a))->h.get? b=some u->h'.get? b=some u)
  (l:∀b,H b=some (.own a)->H' b=some (.own a)) (j:∀b xs,H b=some (.ZW xs)->H' b=some (.ZW xs)):ObjOk P w H' h' a o:=by
 induction o with
 |Z5 xs=>let⟨z,ZU,n,r,e⟩:=x;exact⟨z,ZU,n,r,k _ _ (.inl rfl) e⟩
 |ZW xs=>let⟨z,ZU,r,ob,e,c⟩:=x;exact⟨z,ZU,r,ob,k _ _ (.inl rfl) e,c⟩
 |dK Z4=>let⟨z,y,vs,r,ob,es,ep,e,c⟩:=x;exact⟨z,y,vs,r,ob,es,ep,k _ _ (.inl rfl) e,c⟩
 |dT Z4=>
  let⟨z,y,xs,r,ob,es,ep,e,c⟩:=x;exact⟨z,y,xs,Paired.TC r λp q z=>⟨z.1,j _ _ z.2.1,z.2.2⟩,ob,es,ep,k _ _ (.inl rfl) e,c⟩
 |set Z6 n=>let⟨ob,es,ep,t,e,c⟩:=x;exact⟨ob,es,ep,t,k _ _ (.inl rfl) e,c⟩
 |ins C dx fs=>
  let⟨d,z,i,e,mA,⟨g,es,ep,m,c⟩,r⟩:=x;exact⟨l _ d,z,i,k _ _ (.inl rfl) e,mA,⟨g,es,ep,k _ _ (.inr d) m,c⟩,r⟩
 |own y=>let⟨ob,e⟩:=x;exact⟨ob,k _ _ (.inl rfl) e⟩
 |xd fs=>let⟨mA,⟨g,es,ep,e,c⟩,r⟩:=x;exact⟨mA,⟨g,es,ep,k _ _ (.inl rfl) e,c⟩,r⟩
 |YG lo hi=>let⟨t,u,v,e⟩:=x;exact⟨t,u,v,k _ _ (.inl rfl) e⟩
 |Zv ob u ih=>let⟨e,q⟩:=x;exact⟨k _ _ (.inl rfl) e,ih q⟩
 |VW ps=>
  have e:h.get? a=some {cls:=.none,data:=.fields ps}:=x;show h'.get? a=some {cls:=.none,data:=.fields ps};exact k a _ (.inl rfl) e
 |met f y=>
  have e:h.get? a=some (PySem.W.methodObj (.ref f) (.ref y)):=x;show h'.get? a=some (PySem.W.methodObj (.ref f) (.ref y));exact k a _ (.inl rfl) e
 |ext s=>let⟨p,⟨o,e⟩,st⟩:=x;exact⟨st _ _ p λo q=>k _ _ (.inl rfl) q,⟨o,k _ _ (.inl rfl) e⟩,st⟩
def HOk.lt(x:HOk P w H h)(e:H a=some o):a<h.objs.size:=(x a o e).lt
def HOk.fresh(x:HOk P w H h)(e:h.objs.size<=a):H a=none:=by
 cases q:H a with
 |none=>rfl
 |some u=>exact absurd (Ha (x.lt q) e) (RE _)
def HOk.kept(x:HOk P w H h)(k:∀b u,h.get? b=some u->h'.get? b=some u):HOk P w H h':=λa o e=>
 (x a o e).XT (λb u _ q=>k b u q) (λ_ q=>q) λ_ _ q=>q
def HOk.laid(x:HOk P w H h)(k:∀b u,h.get? b=some u->h'.get? b=some u)(g:h.objs.size<=a)(d:ObjOk P w (upd H a o) h' a o):HOk P w (upd H a o) h':=λb u e=>by
 have hn:=x.fresh g;by_cases f:b=a
 .subst f;rw[upd_same]at e;cases e;exact d
 .rw [af f]at e
  exact(x b u e).XT (λc v _ q=>k c v q) (λc q=>by rw[af (aE q hn)];exact q) λc xs q=>by rw[af (aE q hn)];exact q
end
def Rd(H:Hp)(a:Addr)(u:HO):Prop:=H a=some u \/∃o,H a=some (.Zv o u)
def Rd.ok{P:Program}{H:Hp}{u:HO}(r:Rd H a u)(x:HOk P w H h):ObjOk P w H h a u:=by
 rcases r with r|⟨o,r⟩
 .exact x a u r
 .obtain ⟨_,q⟩:=x a _ r
  exact q
def Mut:Option HO->Prop
 |some (.Z5 _)=>True
 |some (.dK _)=>True
 |some (.dT _)=>True
 |some (.set _ _)=>True
 |some (.ins _ _ _)=>True
 |some (.ext _)=>True
 |_=>False
section
variable{P:Program}{H:Hp}{x e:Addr}{o':HO}
def HOk.write(o:HOk P w H h)(d:Mut (H x))(m:e=x\/H e=some (.own x))(k:∀b u,b≠e->h.get? b=some u->h'.get? b=some u)(s:∃u,h'.get? e=some u)
  (j:ObjOk P w (upd H x o') h' x o'):HOk P w (upd H x o') h':=λb u q=>by
 have n:∀c y,H c=some (.own y)->c≠x:=λc y r z=>by subst z;rw[r]at d;exact d
 have a:∀c xs,H c=some (.ZW xs)->c≠x:=λc xs r z=>by subst z;rw[r]at d;exact d
 by_cases g:b=x
 .subst g;rw[upd_same]at q;cases q;exact j
 .rw [af g]at q
  by_cases i:b=e
  .have l:H b=some (.own x):=by
    rcases m with z|z
    .exact absurd (i.trans z) g
    .rw [i];exact z
   rw[q]at l;cases l;let⟨v,p⟩:=s;exact⟨v,by rw[i];exact p⟩
  .refine (o b u q).XT (λc v f r=>k c v ?_ r) (λc r=>by rw[af (n c b r)];exact r) λc xs r=>by rw[af (a c xs r)];exact r
   rcases f with rfl|f
   .exact i
   .rintro rfl
    rcases m with z|z
    .exact n c b f z
    .rw [f]at z;cases z;exact g rfl
end
structure Un(fs ex:List Addr)(H H':Hp)(h h':Heap):Prop where
 keep:∀b o,h.get? b=some o->H b=none->b ∉ fs->b ∉ ex->h'.get? b=some o
 slot:∀b o,h.get? b=some o->H b=none->b∈fs->b ∉ ex ->∃sl,h'.get? b=some {o with slots:=sl}
 free:∀b o,h.get? b=some o->H b=none->b ∉ ex->H' b=none
 there:∀b o,h.get? b=some o->b ∉ ex ->∃o',h'.get? b=some o'
 Wg:∀b xs,H b=some (.ZW xs)->H' b=some (.ZW xs)
 WJ:∀b o u,H b=some (.Zv o u)->H' b=some (.Zv o u)
 We:∀b ps,H b=some (.VW ps) ->∃more,H' b=some (.VW (ps++more))
section
variable{fs fs' ex ex':List Addr}{H H1 H2:Hp}{h1 h2:Heap}{x e:Addr}{o:HO}
def Un.any(u:Un fs ex H H1 h h1){b:Addr}{a:Obj}(q:h.get? b=some a)(n:H b=none)(c:b ∉ ex):∃e,h1.get? b=some {a with slots:=e}:=by
 by_cases d:b∈fs
 .exact u.slot b a q n d c
 .exact ⟨a.slots,u.keep b a q n d c⟩
def Un.kept(k:∀b u,h.get? b=some u->h'.get? b=some u):Un fs ex H H h h':=
 ⟨λb ob q _ _ _=>k b ob q,λb ob q _ _ _=>⟨ob.slots,k b ob q⟩,λ_ _ _ n _=>n,λb ob q _=>⟨ob,k b ob q⟩,λ_ _ q=>q,λ_ _ _ q=>q,λ_ ps q=>⟨#[],by rw[q];simp⟩⟩
def Un.refl:Un fs ex H H h h:=Un.kept λ_ _ q=>q
def Un.laid(k:∀b u,h.get? b=some u->h'.get? b=some u)(d:h.objs.size<=a)(c:H a=none):Un fs ex H (upd H a o) h h' where
 keep:=λb u q _ _ _=>k b u q
 slot:=λb u q _ _ _=>⟨u.slots,k b u q⟩
 free:=λb u q n _=>by rw[af (Hb (Ha (G5 q) d))];exact n
 there:=λb u q _=>⟨u,k b u q⟩
 Wg:=λb xs q=>by rw[af (aE q c)];exact q
 WJ:=λb u xs q=>by rw[af (aE q c)];exact q
 We:=λb ps q=>⟨#[],by rw[af (aE q c),q];simp⟩
def Un.write(a:Mut (H x))(j:e=x\/H e=some (.own x))(k:∀b u,b≠e->h.get? b=some u->h'.get? b=some u)(t:∃u,h'.get? e=some u):Un fs ex H (upd H x o) h h':=by
 have d:∀b,H b=none->b≠x:=λb n z=>by subst z;rw[n]at a;exact a
 have f:∀b,H b=none->b≠e:=λb n z=>by
  subst z;rcases j with r|r
  .exact d b n r
  .rw [n]at r;cases r
 have c:∀b u,H b=some u -> ¬ Mut (some u)->b≠x:=λb u q nm z=>by subst z;rw[q]at a;exact nm a
 refine ⟨λb u q n _ _=>k b u (f b n) q,λb u q n _ _=>⟨u.slots,k b u (f b n) q⟩,λb u q n _=>by rw [af (d b n)];exact n,λb u q _ => ?_,
  λb xs q=>by rw[af (c b _ q λz=>z)];exact q,λb u xs q=>by rw[af (c b _ q λz=>z)];exact q,λb ps q=>⟨#[],by rw[af (c b _ q λz=>z),q];simp⟩⟩
 by_cases g:b=e
 .subst g;exact t
 .exact ⟨u,k b u g q⟩
end
def HN(h:Heap)(H:Hp):List Addr:=(List.range h.objs.size).filter λa=>(H a).isSome
def BB(h:Heap)(H:Hp):Heap:=PySem.W.hideAll h (HN h H)
def qL(h:Heap)(H:Hp):(BB h H).objs.size=h.objs.size:=PySem.W.hideAll_size _ _
def um{H:Hp}{b:Addr}{o:Obj}(e:h.get? b=some o)(n:H b=none):(BB h H).get? b=some o:=
 PySem.W.hideAll_get _ e λa=>by
  have q:(H b).isSome=true:=(Rv.mp a).2;rw[n]at q;simp at q
def vo{H:Hp}{b:Addr}{o:Obj}(e:(BB h H).get? b=some o):h.get? b=some o/\H b=none:=by
 have e':h.get? b=some o:=PySem.W.of_hideAll (HN h H) e;refine⟨e',?_⟩;cases q:H b with
 |none=>rfl
 |some x=>
  have a:b∈HN h H:=Rv.mpr ⟨TQ.mpr (G5 e'),by simp[q]⟩
  have z:(BB h H).get? b=none:=PySem.W.hideAll_none (HN h H) a;rw[z]at e;cases e
end L2
variable{H H':L2.Hp}{v:L2.V}{vs:List L2.V}{Z4:List (List L2.Key×L2.V)}{gV:List L2.V->List L2.V->List L2.V}{Zs:List (PySem.Str×L2.V)}{Q2:L2.V->L2.Hp->Prop}
namespace L2
open PySem PySem.Spec PyProof.Rows
structure Mod(K:Hf)(mg:Str->Option Value)(base:Heap):Prop where
 WI:K.In base
 glob:base.Ns mainGlobals mg
 blt:∃mb,base.Ns builtinsNs mb /\∀x:Str,x ≠ "__name__" -> mb x=bootBuiltins x
 nolimit:base.NoLimit
set_option genInjectivity false in
structure Cx where
 prog:Program
 w:World
 K:Hf
 mg:Str->Option Value
 base:Heap
 A:Around
 N:List Str
 Zf : Shared
 UW : Hp
 env:Env
 outer:List Env
 stack:List Env
 ex:List Addr
 fn:Str->Bool
 calm:Bool
 pn:List (Addr×Obj)
 xe:Value->Shared->Prop
def frs(l:List Env):List Addr:=l.filterMap (·.frame)
abbrev Cx.fs(X:Cx):List Addr:=frs X.outer
def Vis(a:Scope)(x:Str):Prop:=a.names.lookup x=some .local\/a.names.lookup x=some .cell\/a.names.lookup x=some .free
def Loc(a:Scope)(x:Str):Prop:=a.names.lookup x=some .local\/a.names.lookup x=some .cell
def Look(env:Env)(h:Heap)(m:Str->Option Value)(x:Str)(u:Value):Prop:=
 (env.kindOf x=some .local/\m x=some u)\/((env.kindOf x=some .cell\/env.kindOf x=some .free) /\∃c,env.cells.lookup x=some c/\h.IsCell c (some u))
structure Cx.Ok(X:Cx):Prop where
 mod:Mod X.K X.mg X.base
 kind:X.env.scope.kind=.function
 glob:X.env.globals=mainGlobals
 blt:X.env.builtins=builtinsNs
 above:X.Zf.heap.objs.size<=X.env.locals
 inj:∀x y c,X.env.cells.lookup x=some c->X.env.cells.lookup y=some c->x=y
 has:∀x,(X.env.kindOf x=some .cell\/X.env.kindOf x=some .free) ->∃c,X.env.cells.lookup x=some c
 UU:∀x c,X.fn x=true->X.env.cells.lookup x=some c->X.Zf.heap.objs.size<=c
 hd:X.calm=true->X.A.handled=none
 frames:X.A.frames=some X.stack
 stk:X.stack=X.outer\/(X.stack=X.env::X.outer/\X.env.frame=some X.env.locals)
 exf:∀b∈X.ex,b≠X.env.locals /\∀x c,X.env.cells.lookup x=some c->c≠b
 bs:∀b o,X.base.get? b=some o->X.Zf.heap.get? b=some o/\X.UW b=none
 WH:X.base.objs.size<=X.Zf.heap.objs.size
 YM:∀b o,X.base.get? b=some o->b ∉ X.ex
 T5:∀b∈X.ex,b ∉ X.fs
 XC:X.Zf.heap.FunFrames X.base X.outer
 VU:∀b∈X.fs,X.UW b=none
structure Z0(X:Cx)(O:List (Addr×Obj))(Y:List (Option V))(H:Hp)(s:Shared):Prop where
 ok:X.Ok
 os:s.os=X.Zf.os
 bare:AllBare s.gens
 base:Un X.fs X.ex X.UW H X.Zf.heap s.heap
 loc:∃m,s.heap.Ns X.env.locals m /\∀(i:Nat) (x:Str) (v:V),X.N[i]?=some x->Y[i]?=some (some v)->Vis X.env.scope x ->∃u,RelV v u/\Look X.env s.heap m x u
 cell:∀x c,X.env.cells.lookup x=some c ->∃v,s.heap.IsCell c v
 free:H X.env.locals=none
 W4:∀x c,X.env.cells.lookup x=some c->H c=none
 pin:∀p∈X.pn++O,s.heap.get? p.1=some p.2/\H p.1=none/\p.1≠X.env.locals/\p.1 ∉ X.fs /\∀v,p.2.data ≠ .cell v
 ZJ:HOk X.prog X.w H s.heap
 len:Y.length=X.N.length
section
variable{X:Cx}{Y:List (Option V)}
def Cx.Ok.nofr(a:X.Ok){b:Addr}{o:Obj}(e:X.base.get? b=some o):b ∉ X.fs:=λc=>by
 have:=(a.XC.mem c).1;rw[e]at this;cases this
def Z0.bs(I:Z0 X O Y H s):∀b o,X.base.get? b=some o->s.heap.get? b=some o/\H b=none:=λb o e=>
 ⟨I.base.keep b o (I.ok.bs b o e).1 (I.ok.bs b o e).2 (I.ok.nofr e) (I.ok.YM b o e),I.base.free b o (I.ok.bs b o e).1 (I.ok.bs b o e).2 (I.ok.YM b o e)⟩
def Z0.bk(I:Z0 X O Y H s):∀b o,X.base.get? b=some o->s.heap.get? b=some o:=λb o e=>(I.bs b o e).1
def Z0.mod(I:Z0 X O Y H s):Mod X.K X.mg X.base:=I.ok.mod
def Z0.Ys(I:Z0 X O Y H s):X.K.In s.heap:=I.ok.mod.WI.keeps I.bk
def Z0.lt(I:Z0 X O Y H s):X.env.locals<s.heap.objs.size:=let⟨_,a,_⟩:=I.loc;a.lt
def Z0.sz(I:Z0 X O Y H s):X.Zf.heap.objs.size<=s.heap.objs.size:=G6 I.ok.above (Rh I.lt)
def Z0.nofs(I:Z0 X O Y H s)(h:s.heap.objs.size<=a):a ∉ X.fs:=λb=>by
 let⟨_,o,ho,_⟩:=I.ok.XC.mem b;exact absurd (Ha (G5 ho) (G6 I.sz h)) (RE _)
def Z0.WG(I:Z0 X O Y H s):∀x c,X.env.cells.lookup x=some c->c≠X.env.locals:=λx c e z=>by
 let⟨v,o,ho,a⟩:=I.cell x c e;let⟨m,⟨o',es,ep,b,d,_⟩,_⟩:=I.loc;rw[z,b]at ho;cases ho;rw[d]at a;cases a
def Z0.XC(I:Z0 X O Y H s):s.heap.FunFrames X.base X.outer:=by
 have all:∀(l:List Env),(∀b∈frs l,b∈X.fs)->X.Zf.heap.FunFrames X.base l->s.heap.FunFrames X.base l:=by
  intro l
  induction l with
  |nil=>intro _ _;trivial
  |cons env r ih=>
   intro hs h;let⟨hk,⟨Z7,o,a,g,ho,i⟩,f⟩:=h;have d:Z7∈X.fs:=hs Z7 (by unfold frs;rw[V0,a];exact Wv)
   let⟨j,e⟩:=I.base.slot Z7 o ho (I.ok.VU Z7 d) d λz=>I.ok.T5 Z7 z d;exact⟨hk,⟨Z7,_,a,g,e,i⟩,ih (λb c=>hs b (by unfold frs;rw[V0,a];exact G9 _ c)) f⟩
 exact all X.outer (λ_ c=>c) I.ok.XC
def Z0.stack(I:Z0 X O Y H s):s.heap.FunFrames X.base X.stack:=by
 rcases I.ok.stk with e|⟨e,hf⟩
 .rw [e];exact I.XC
 .rw [e]
  let⟨m,a,_⟩:=I.loc;refine .cons (by rw[I.ok.kind];decide) hf a ?_ I.XC
  exact Heap.get?_none_of_le (G6 I.ok.WH I.ok.above)
def Z0.UT(I:Z0 X O Y H s):∀b∈frs X.stack,b∈X.env.locals::X.fs:=λb a=>by
 rcases I.ok.stk with e|⟨e,hf⟩
 .rw [e]at a;exact G9 _ a
 .rw [e]at a
  unfold frs at a;rw[V0,hf]at a;exact a
def Z0.SU(I:Z0 X O Y H s):∀b∈frs X.stack,H b=none:=λb a=>by
 rcases Xq.mp (I.UT b a)with e|a
 .rw [e];exact I.free
 .obtain ⟨_,o,ho,_⟩:=I.ok.XC.mem a
  exact I.base.free b o ho (I.ok.VU b a) λz=>I.ok.T5 b z a
def Z0.step{g':Array GenState}{d':Drawn}{ch:List Addr}(I:Z0 X O Y H s)
  (A:∀b∈ch,(b∈X.ex\/X.Zf.heap.objs.size<=b)/\b≠X.env.locals/\(∀x c,X.env.cells.lookup x=some c->c≠b) /\∀p∈X.pn++O,p.1≠b)
  (keep:∀b o,b≠X.env.locals->b ∉ X.fs->b ∉ ch->s.heap.get? b=some o->H b=none->h'.get? b=some o)
  (slot:∀b o,b≠X.env.locals->b∈X.fs->b ∉ ch->s.heap.get? b=some o->H b=none ->∃D,h'.get? b=some {o with slots:=D}) (free:∀b o,b ∉ ch->s.heap.get? b=some o->H b=none->H' b=none)
  (there:∀b o,b ∉ ch->s.heap.get? b=some o ->∃o',h'.get? b=some o')
  (Wg:∀b xs,H b=some (.ZW xs)->H' b=some (.ZW xs)) (WJ:∀b o u,H b=some (.Zv o u)->H' b=some (.Zv o u)) (We:∀b ps,H b=some (.VW ps) ->∃more,H' b=some (.VW (ps++more)))
  (ns:∀m,s.heap.Ns X.env.locals m->h'.Ns X.env.locals m) (Q:HOk X.prog X.w H' h') (N:AllBare g') :
  Z0 X O Y H' {s with heap:=h',gens:=g',drawn:=d',toks:=t'}:=by
 have t:∀b o,X.Zf.heap.get? b=some o->b≠X.env.locals:=λb o e=>Hb (Ha (G5 e) I.ok.above);have g:∀b o,X.Zf.heap.get? b=some o->b ∉ X.ex->b ∉ ch:=λb o e a j=>by
  rcases(A b j).1 with z|z
  .exact a z
  .exact absurd (Ha (G5 e) z) (RE _)
 have f:∀x c,X.env.cells.lookup x=some c ->∀v,s.heap.IsCell c v->h'.IsCell c v:=λx c e v ⟨o,ho,hd⟩=>by
  have B:c ∉ ch:=λz=>(A c z).2.2.1 x c e rfl;by_cases J:c∈X.fs
  .obtain ⟨D,q⟩:=slot c o (I.WG x c e) J B ho (I.W4 x c e)
   exact⟨_,q,hd⟩
  .exact ⟨o,keep c o (I.WG x c e) J B ho (I.W4 x c e),hd⟩
 refine⟨I.ok,I.os,N,⟨λb o e n j a=>?_,λb o e n j a=>?_,λb o e n a=>?_,λb o e a=>?_,λb xs e=>Wg b xs (I.base.Wg b xs e),λb o xs e=>WJ b o xs (I.base.WJ b o xs e),λb ps e=>?_⟩,?_,λx c e=>?_,?_,λx c e=>?_,λp G=>?_,Q,I.len⟩
 .exact keep b o (t b o e) j (g b o e a) (I.base.keep b o e n j a) (I.base.free b o e n a)
 .obtain ⟨D,h⟩:=I.base.slot b o e n j a
  let⟨C,y⟩:=slot b _ (t b o e) j (g b o e a) h (I.base.free b o e n a);exact⟨C,y⟩
 .obtain ⟨o',h⟩:=I.base.there b o e a
  exact free b o' (g b o e a) h (I.base.free b o e n a)
 .obtain ⟨o',h⟩:=I.base.there b o e a
  exact there b o' (g b o e a) h
 .obtain ⟨m1,h⟩:=I.base.We b ps e
  let⟨K,y⟩:=We b _ h;exact⟨m1++K,by rw[y,Array.append_assoc]⟩
 .obtain ⟨m,L,M⟩:=I.loc
  refine⟨m,ns m L,λi x v h y P=>?_⟩;let⟨u,r,l⟩:=M i x v h y P;refine⟨u,r,?_⟩;rcases l with l|⟨k,c,e,z⟩
  .exact .inl l
  .exact .inr ⟨k,c,e,f x c e _ z⟩
 .obtain ⟨v,z⟩:=I.cell x c e
  exact⟨v,f x c e v z⟩
 .obtain ⟨m,⟨o,_,_,ho,_⟩,_⟩:=I.loc
  exact free _ o (λz=>(A _ z).2.1 rfl) ho I.free
 .obtain ⟨v,o,ho,hd⟩:=I.cell x c e
  exact free c o (λz=>(A c z).2.2.1 x c e rfl) ho (I.W4 x c e)
 .obtain ⟨e,n,F,E,d⟩:=I.pin p G
  have B:p.1 ∉ ch:=λz=>(A p.1 z).2.2.2 p G rfl;exact⟨keep p.1 p.2 F E B e n,free p.1 p.2 B e n,F,E,d⟩
def Z0.un(I:Z0 X O Y H s)(u:Un X.fs [] H H' s.heap h')(g:HOk X.prog X.w H' h'):Z0 X O Y H' {s with heap:=h',toks:=t'}:=by
 let⟨m,⟨o,es,ep,ho,r⟩,_⟩:=id I.loc;let⟨k,f⟩:=u.any ho I.free #[3]
 exact I.step (g':=s.gens) (d':=s.drawn) (ch:=[]) (λ_ z=>nomatch z) (λb o _ a _ e n=>u.keep b o e n a #[3]) (λb o _ a _ e n=>u.slot b o e n a #[3]) (λb o _ e n=>u.free b o e n #[3]) (λb o _ e=>u.there b o e #[3]) u.Wg u.WJ u.We (λt d=>by
  let⟨o',es',j,c,r'⟩:=d;rw[ho]at c;cases c;exact⟨_,es',j,f,r'⟩) g I.bare
def Z0.call{g':Array GenState}{d':Drawn}{ch:List Addr}(I:Z0 X O Y H s)(u:Un (frs X.stack) ch H H' s.heap h')(k:HOk X.prog X.w H' h')(i:AllBare g')
  (g:∀b∈ch,(b∈X.ex\/X.Zf.heap.objs.size<=b)/\b≠X.env.locals/\(∀x c,X.env.cells.lookup x=some c->c≠b) /\∀p∈X.pn++O,p.1≠b) :
  Z0 X O Y H' {s with heap:=h',gens:=g',drawn:=d',toks:=t'}:=by
 let⟨m,⟨o,es,ep,ho,r⟩,_⟩:=id I.loc;let⟨q,d⟩:=u.any ho I.free λz=>(g _ z).2.1 rfl
 exact I.step (ch:=ch) g (λb o d j a e n=>u.keep b o e n (λz=>(Xq.mp (I.UT b z)).elim d j) a) (λb o _ _ a e n=>u.any e n a) (λb o a e n=>u.free b o e n a) (λb o a e=>u.there b o e a) u.Wg u.WJ u.We (λt h=>by
  let⟨o',es',l,f,r'⟩:=h;rw[ho]at f;cases f;exact⟨_,es',l,d,r'⟩) k i
def Z0.turned{it:Addr}(I:Z0 X O Y H s)(k:∀b o,b≠it->s.heap.get? b=some o->h'.get? b=some o)(g:H it=none)(f:it≠X.env.locals)
  (A:it∈X.ex\/X.Zf.heap.objs.size<=it) (y:∀x c,X.env.cells.lookup x=some c->c≠it) (w:∀p∈X.pn++O,p.1≠it):Z0 X O Y H {s with heap:=h',toks:=t'}:=by
 have d:∀b u,H b=some u->b≠it:=λb u e z=>by rw[z,g]at e;cases e
 refine I.step (g':=s.gens) (d':=s.drawn) (ch:=[it]) (λb t=>?_) (λb o _ _ a e _=>k b o (λz=>a (by simp[z])) e) (λb o _ _ a e _=>⟨o.slots,k b o (λz=>a (by simp[z])) e⟩) (λ_ _ _ _ n=>n)
  (λb o a e=>⟨o,k b o (λz=>a (by simp[z])) e⟩) (λ_ _ e=>e) (λ_ _ _ e=>e) (λb ps e=>⟨#[],by rw[e];simp⟩) (λm j=>?_) (λb u e=>?_) I.bare
 .have e:b=it:=by simpa using t
  subst e;exact⟨A,f,y,w⟩
 .obtain ⟨o,es,ep,ho,r⟩:=j
  exact⟨o,es,ep,k _ o (Ne.symm f) ho,r⟩
 .refine (I.ZJ b u e).XT (λc v a q=>k c v ?_ q) (λ_ q=>q) λ_ _ q=>q
  rcases a with z|z
  .rw [z];exact d b u e
  .exact d c _ z
def Z0.tok(I:Z0 X O Y H s)(t:Nat):Z0 X O Y H {s with toks:=t}:=I.un (h':=s.heap) (t':=t) Un.refl I.ZJ
def Z0.kept{t':Nat}(I:Z0 X O Y H s)(k:∀b u,s.heap.get? b=some u->h'.get? b=some u):Z0 X O Y H {s with heap:=h',toks:=t'}:=I.un (Un.kept k) (I.ZJ.kept k)
def Z0.laid{a:Addr}{o:HO}{t':Nat}(I:Z0 X O Y H s)(k:∀b u,s.heap.get? b=some u->h'.get? b=some u)(d:s.heap.objs.size<=a)(c:ObjOk X.prog X.w (upd H a o) h' a o):
  Z0 X O Y (upd H a o) {s with heap:=h',toks:=t'}:=I.un (Un.laid k d (I.ZJ.fresh d)) (I.ZJ.laid k d c)
def Z0.write{x e:Addr}{o:HO}{t':Nat}(I:Z0 X O Y H s)(c:Mut (H x))(d:e=x\/H e=some (.own x))(k:∀b u,b≠e->s.heap.get? b=some u->h'.get? b=some u)(f:∃u,h'.get? e=some u)
  (a:ObjOk X.prog X.w (upd H x o) h' x o):Z0 X O Y (upd H x o) {s with heap:=h',toks:=t'}:=I.un (Un.write c d k f) (I.ZJ.write c d k f a)
def Z0.SS{a:List (Addr×Obj)}(I:Z0 X O Y H s)(h:∀p∈a,s.heap.get? p.1=some p.2/\H p.1=none/\p.1≠X.env.locals/\p.1 ∉ X.fs /\∀v,p.2.data ≠ .cell v):Z0 X a Y H s:=
 ⟨I.ok,I.os,I.bare,I.base,I.loc,I.cell,I.free,I.W4,λp b=>(Wu.mp b).elim (λz=>I.pin p (Ra _ z)) (h p),I.ZJ,I.len⟩
def kq(c:N.Nodup)(a:N[i]?=some x)(b:N[j]?=some x):i=j:=by
 let⟨h1,e⟩:=Yj.mp a;let⟨h2,d⟩:=Yj.mp b;exact(List.getElem_inj c).mp (e.trans d.symm)
def jt{M:Model}{E:Value->Shared->Prop}{u:Value}{Q:Unit->Shared->Prop}(I:Z0 X O Y H s)(hN:X.N.Nodup)(hi:X.N[i]?=some x)(t:Loc X.env.scope x)(r:RelV v u)
  (h:∀s',Z0 X O (Y.set i (some v)) H s'->(∃a,Heap.SameBut a s.heap s'.heap/\(a=X.env.locals\/X.env.cells.lookup x=some a))->Q Unit.unit s') (hf:X.fn x=true\/X.env.scope.names.lookup x=some .local:=by first|exact .inl rfl|exact .inr rfl|assumption):wpAny M A (storeName X.env x u) Q E s:=by
 let⟨m,V,hl⟩:=id I.loc;have TB:(X.env.scope.kind==.class||(X.env.scope.kind==.module&&X.env.locals != X.env.globals))=false:=by rw[I.ok.kind];rfl
 have SR:i<Y.length:=by rw[I.len];exact(Yj.mp hi).1
 have WG:=I.WG;have f:∀{a:Addr} {h':Heap},(∃o,s.heap.get? a=some o/\H a=none)->Heap.SameBut a s.heap h'->HOk X.prog X.w H h':=λ{a h'} ha hs b ob e=>by
  let⟨_,_,Vm⟩:=ha;refine(I.ZJ b ob e).XT (λc K l q=>(hs.2 c ?_).trans q) (λ_ q=>q) λ_ _ q=>q;rintro rfl;rcases l with rfl|l
  .rw [Vm]at e;cases e
  .rw [Vm]at l;cases l
 rcases t with hk|hk
 .refine wpAny_storeName_local hk V (λh' Ze hs=>?_) TB
  let⟨oL,_,_,UR,_⟩:=id V;refine h _ ⟨I.ok,I.os,I.bare,⟨λb o e n D t=>?_,λb o e n D t=>?_,I.base.free,λb o e t=>?_,I.base.Wg,I.base.WJ,I.base.We⟩,⟨_,Ze,λj y P g B W=>?_⟩,λy c e=>?_,I.free,I.W4,λp U=>?_,f ⟨oL,UR,I.free⟩ hs,by simpa using I.len⟩ ⟨_,hs,.inl rfl⟩
  .exact (hs.2 b (Hb (Ha (G5 e) I.ok.above))).trans (I.base.keep b o e n D t)
  .obtain ⟨S,g⟩:=I.base.slot b o e n D t
   exact⟨S,(hs.2 b (Hb (Ha (G5 e) I.ok.above))).trans g⟩
  .obtain ⟨o',g⟩:=I.base.there b o e t
   exact⟨o',(hs.2 b (Hb (Ha (G5 e) I.ok.above))).trans g⟩
  .by_cases C:j=i
   .subst C
    rw[hi]at g;cases g;rw[SM SR]at B;cases B;exact⟨u,r,.inl ⟨hk,by simp⟩⟩
   .rw [VJ (Ne.symm C)]at B
    let⟨R,r',q⟩:=hl j y P g B W;refine⟨R,r',?_⟩;rcases q with⟨k,e⟩|⟨k,c,e,z⟩
    .refine .inl ⟨k,?_⟩
     have:y≠x:=λe=>C (kq hN g (e ▸ hi));simp[this,e]
    .exact .inr ⟨k,c,e,z.sameBut hs (WG y c e)⟩
  .obtain ⟨K,z⟩:=I.cell y c e
   exact⟨K,z.sameBut hs (WG y c e)⟩
  .obtain ⟨e,n,L,T,d⟩:=I.pin p U
   exact⟨(hs.2 p.1 L).trans e,n,L,T,d⟩
 .have Z:X.fn x=true:=by
   rcases hf with z|z
   .exact z
   .rw [z]at hk;cases hk
  let⟨c,l⟩:=I.ok.has x (.inl hk);let⟨K,z⟩:=I.cell x c l;refine wpAny_storeName_cell I.ok.kind hk l z (λh' UQ hs=>?_);let⟨JV,G,F⟩:=id z;refine h {s with heap:=h'} ⟨I.ok,I.os,I.bare,⟨λb o e n D t=>?_,λb o e n D t=>?_,I.base.free,λb o e t=>?_,I.base.Wg,I.base.WJ,I.base.We⟩,⟨m,V.sameBut hs (Ne.symm (WG x c l)),λj y P g B W=>?_⟩,λy c' e=>?_,I.free,I.W4,λp U=>?_,f ⟨JV,G,I.W4 x c l⟩ hs,by simpa using I.len⟩ ⟨c,hs,.inr l⟩
  .exact (hs.2 b (Hb (Ha (G5 e) (I.ok.UU x c Z l)))).trans (I.base.keep b o e n D t)
  .obtain ⟨S,g⟩:=I.base.slot b o e n D t
   exact⟨S,(hs.2 b (Hb (Ha (G5 e) (I.ok.UU x c Z l)))).trans g⟩
  .obtain ⟨o',g⟩:=I.base.there b o e t
   exact⟨o',(hs.2 b (Hb (Ha (G5 e) (I.ok.UU x c Z l)))).trans g⟩
  .by_cases C:j=i
   .subst C
    rw[hi]at g;cases g;rw[SM SR]at B;cases B;exact⟨u,r,.inr ⟨.inl hk,c,l,UQ⟩⟩
   .rw [VJ (Ne.symm C)]at B
    let⟨R,r',q⟩:=hl j y P g B W;refine⟨R,r',?_⟩;rcases q with q|⟨k,c',e,z'⟩
    .exact .inl q
    .refine .inr ⟨k,c',e,z'.sameBut hs ?_⟩
     rintro rfl;exact C (kq hN g (I.ok.inj _ _ _ e l ▸ hi))
  .by_cases J:c'=c
   .subst J;exact⟨_,UQ⟩
   .obtain ⟨w2,z2⟩:=I.cell y c' e
    exact⟨w2,z2.sameBut hs J⟩
  .obtain ⟨e,n,L,T,d⟩:=I.pin p U
   refine⟨(hs.2 p.1 ?_).trans e,n,L,T,d⟩;intro q;rw[q,G]at e;have q':JV=p.2:=WQ e;exact d K (by rw[<-q'];exact F)
def dF{M:Model}{E:Value->Shared->Prop}{u:Value}{Q:Unit->Shared->Prop}(I:Z0 X O Y H s)(c:X.N.Nodup)(hi:X.N[i]?=some x)(a:Loc X.env.scope x)(r:RelV v u)
  (h:∀s',Z0 X O (Y.set i (some v)) H s'->Q Unit.unit s') (b:X.fn x=true\/X.env.scope.names.lookup x=some .local:=by first|exact .inl rfl|exact .inr rfl|assumption):wpAny M A (storeName X.env x u) Q E s:=
 jt I c hi a r (λs' d _=>h s' d) b
def Z0.So{a:Shared}{ch:List Addr}(I:Z0 X O Y H s)(d:a.os=s.os)(u:Un (frs X.stack) ch H H' s.heap a.heap)(g:HOk X.prog X.w H' a.heap)(f:AllBare a.gens)
  (h:∀b∈ch,(b∈X.ex\/X.Zf.heap.objs.size<=b)/\b≠X.env.locals/\(∀x c,X.env.cells.lookup x=some c->c≠b) /\∀p∈X.pn++O,p.1≠b):Z0 X O Y H' a:=by
 let⟨h',g',d',t',o'⟩:=a;have e:o'=s.os:=d;subst e;exact I.call (g':=g') (t':=t') (d':=d') u g f h
end
abbrev XK:=Value->Option Addr->Hp->Prop
abbrev St:=List (Option V)
abbrev VK:=V->Hp->Prop
abbrev TE:=St->Hp->VK->Prop
abbrev TT:=St->Hp->(Bool->Hp->Prop)->Prop
abbrev TA:=St->Hp->(List V->Hp->Prop)->Prop
set_option genInjectivity false in
structure Ends where
 nx:St->Hp->Prop
 rt:VK
 bk:St->Hp->Prop:=λ_ _=>False
 ct:St->Hp->Prop:=λ_ _=>False
abbrev TS:=Ends->St->Hp->Prop
inductive EP(X:Cx)(O:List (Addr×Obj))(Y:St)(Q:VK)(u:Value)(s':Shared):Prop
 |mk:∀v H',Z0 X O Y H' s'->RelV v u->Q v H'->EP X O Y Q u s'
inductive TP(X:Cx)(O:List (Addr×Obj))(Y:St)(Q:Bool->Hp->Prop)(b:Bool)(s':Shared):Prop
 |mk:∀H',Z0 X O Y H' s'->Q b H'->TP X O Y Q b s'
inductive AP(X:Cx)(O:List (Addr×Obj))(Y:St)(Q:List V->Hp->Prop)(S:List Value)(s':Shared):Prop
 |mk:∀vs H',Z0 X O Y H' s'->ZG vs S->Q vs H'->AP X O Y Q S s'
def SP(X:Cx)(O:List (Addr×Obj))(D:Ends)(f:Flow)(a:Shared):Prop:=
 match f with
 |.next=>∃ZR H',Z0 X O ZR H' a/\D.nx ZR H'
 |.brk=>∃ZR H',Z0 X O ZR H' a/\D.bk ZR H'
 |.cont=>∃ZR H',Z0 X O ZR H' a/\D.ct ZR H'
 |.ret u=>∃v ZR H',Z0 X O ZR H' a/\RelV v u/\D.rt v H'
def PE(X:Cx)(e:Expr)(t:TE):Prop:=
 ∀(O:List (Addr×Obj)) (s:Shared) (Y:St) (H:Hp) (Q:VK),Z0 X O Y H s->t Y H Q->wpAny (model X.prog X.w) X.A (eval e X.env) (EP X O Y Q) X.xe s
def PT(X:Cx)(e:Expr)(t:TT):Prop:=
 ∀(O:List (Addr×Obj)) (s:Shared) (Y:St) (H:Hp) (Q:Bool->Hp->Prop),Z0 X O Y H s->t Y H Q->wpAny (model X.prog X.w) X.A (isTrue e X.env (eval e X.env)) (TP X O Y Q) X.xe s
def PW(X:Cx)(e:Expr)(t:TT):Prop:=
 ∀(a:Sem Value) (O:List (Addr×Obj)) (s:Shared) (Y:St) (H:Hp) (Q:Bool->Hp->Prop),Z0 X O Y H s->t Y H Q->wpAny (model X.prog X.w) X.A (isTrue e X.env a) (TP X O Y Q) X.xe s
def PW.pt{X:Cx}{t:TT}(h:PW X e t):PT X e t:=h _
def PA(X:Cx)(a:List Expr)(t:TA):Prop:=
 ∀(pos:Pos) (O:List (Addr×Obj)) (s:Shared) (Y:St) (H:Hp) (Q:List V->Hp->Prop),Z0 X O Y H s->t Y H Q->wpAny (model X.prog X.w) X.A (spliced (backTo pos (starEach a X.env))) (AP X O Y Q) X.xe s
def PS(X:Cx)(st:Stmt)(t:TS):Prop:=
 ∀(O:List (Addr×Obj)) (s:Shared) (Y:St) (H:Hp) (D:Ends),Z0 X O Y H s->t D Y H->wpAny (model X.prog X.w) X.A (exec st X.env) (SP X O D) X.xe s
def PSs(X:Cx)(st:List Stmt)(t:TS):Prop:=
 ∀(O:List (Addr×Obj)) (s:Shared) (Y:St) (H:Hp) (D:Ends),Z0 X O Y H s->t D Y H->wpAny (model X.prog X.w) X.A (execs st X.env) (SP X O D) X.xe s
def thn{t:Sem α}{Q Q':α->Shared->Prop}{M:Model}{E:Value->Shared->Prop}{s:Shared}(h:wpAny M A t Q E s)(b:∀a s,Q a s->Q' a s):wpAny M A t Q' E s:=Q4 h b λ_ _ x=>x
end L2
variable{X:L2.Cx}{ta te:L2.TE}
namespace L2
open PySem PySem.Spec PyProof.Rows
section
def HP(i:Nat):TE:=λY H Q=>∃v,Y[i]?=some (some v)/\Q v H
def HQ(v:V):TE:=λ_ H Q=>Q v H
def abw(n:X.N[i]?=some x)(g:Vis X.env.scope x)(b:(x==("__debug__" : Str))=false:=by decide)(o:(x==("__classdict__" : Str))=false:=by decide):PE X (.Name x pos) (HP i):=by
 intro O s Y H Q I h;let⟨v,e,h⟩:=h;let⟨m,j,k⟩:=I.loc;let⟨u,r,l⟩:=k i x v n e g;have a:EP X O Y Q u s:=⟨v,H,I,r,h⟩;rcases l with⟨hk,hm⟩|⟨hk,c,d,f⟩
 .exact wpAny_Name (wpAny_loadName_local I.ok.kind hk j hm a) b
 .rcases hk with hk|hk
  .exact wpAny_Name (wpAny_loadName_cell I.ok.kind hk d f a) b
  .exact wpAny_Name (wpAny_loadName_free I.ok.kind hk d f a o) b
def m8{i j pos}:PE X (.Constant (.int i) j pos) (HQ (.int i)):=λ_ _ _ H _ I h=>wpAny_Constant_int ⟨.int i,H,I.tok _,⟨_,rfl⟩,h⟩
def acb{b j pos}:PE X (.Constant (.bool b) j pos) (HQ (.bl b)):=λ_ _ _ H _ I h=>Constant_bool ⟨.bl b,H,I,rfl,h⟩
def zO{j pos}:PE X (.Constant .none j pos) (HQ .ZK):=λ_ _ _ H _ I h=>Constant_none ⟨.ZK,H,I,rfl,h⟩
def yh{x j pos}:PE X (.Constant (.str x) j pos) (HQ (.str x)):=λ_ _ _ H _ I h=>Calls.Constant_str ⟨.str x,H,I.tok _,⟨_,rfl⟩,h⟩
def Gl(X:Cx)(x:Str):Prop:=X.env.kindOf x=some .globalImplicit
def bV{E:Value->Shared->Prop}{Y:St}{u:Value}(I:Z0 X O Y H s)(b:Gl X x)(a:X.mg x=some u)(h:Q u s)
  (c:(x==("__debug__" : Str))=false:=by decide):wpAny (model X.prog X.w) X.A (eval (.Name x pos) X.env) Q E s:=
 Pz I.ok.kind b (Calls.loadGlobal_global (by rw[I.ok.glob];exact I.mod.glob.keeps I.bk) a h) c
def eE{E:Value->Shared->Prop}{Y:St}{u:Value}(I:Z0 X O Y H s)(d:Gl X x)(c:X.mg x=none)(a:bootBuiltins x=some u)(h:Q u s)
  (b:x ≠ "__name__":=by decide) (e:(x==("__debug__" : Str))=false:=by decide):wpAny (model X.prog X.w) X.A (eval (.Name x pos) X.env) Q E s:=by
 let⟨f,h1,h2⟩:=I.mod.blt;exact Pz I.ok.kind d (Calls.loadGlobal_builtin (by rw[I.ok.glob];exact I.mod.glob.keeps I.bk) c (by rw[I.ok.blt];exact h1.keeps I.bk) ((h2 x b).trans a) h) e
def xq{u:Value}(b:Gl X x)(a:X.mg x=some u)(r:RelV v u)(c:(x==("__debug__" : Str))=false:=by decide):PE X (.Name x pos) (HQ v):=
 λ_ _ _ H _ I h=>bV I b a ⟨v,H,I,r,h⟩ c
variable{a b:Expr}{tb:TE}
variable{tA tB':TT}{ZQ:List Expr}
def HR(t u:TT):TT:=λY H Q=>t Y H λc H1=>if c=true then u Y H1 Q else Q false H1
def HS(t u:TT):TT:=λY H Q=>t Y H λc H1=>if c=true then Q true H1 else u Y H1 Q
def HU(t:TT):TT:=λY H Q=>t Y H λc H1=>Q (!c) H1
def vi(b:PT X a tA):PW X (.BoolOp .And [a] pos) tA:=by
 intro d O s Y H Q I h;refine isTrue_and (thn (b O s Y H Q I h) λc f e=>?_);cases c with
 |true=>exact isTrue_and_nil e
 |false=>exact e
def aaC(b:PT X a tA):PW X (.BoolOp .Or [a] pos) tA:=by
 intro d O s Y H Q I h;refine isTrue_or (thn (b O s Y H Q I h) λc f e=>?_);cases c with
 |false=>exact isTrue_or_nil e
 |true=>exact e
def aaB(j:PT X a tA)(i:PW X (.BoolOp .And (b::ZQ) pos) tB'):PW X (.BoolOp .And (a::b::ZQ) pos) (HR tA tB'):=by
 intro f O s Y H Q I h;refine isTrue_and (thn (j O s Y H _ I h) ?_);rintro c g ⟨H1,e,d⟩;cases c with
 |true=>exact i f O g Y H1 Q e d
 |false=>exact⟨H1,e,d⟩
def adg(j:PT X a tA)(i:PW X (.BoolOp .Or (b::ZQ) pos) tB'):PW X (.BoolOp .Or (a::b::ZQ) pos) (HS tA tB'):=by
 intro f O s Y H Q I h;refine isTrue_or (thn (j O s Y H _ I h) ?_);rintro c g ⟨H1,e,d⟩;cases c with
 |true=>exact⟨H1,e,d⟩
 |false=>exact i f O g Y H1 Q e d
def zU(b:PT X a tA):PT X (.UnaryOp .Not a pos) (HU tA):=by
 intro O s Y H Q I h;exact isTrue_not (thn (b O s Y H (λc H1=>Q (!c) H1) I h) λ_ _ ⟨H1,d,q⟩=>⟨H1,d,q⟩)
def GO(b a:TE):TE:=λY H Q=>b Y H λx H1=>∃c,x=.bl c/\if c=true then a Y H1 Q else Q (.bl false) H1
def HV(b a:TE):TE:=λY H Q=>b Y H λx H1=>∃c,x=.bl c/\if c=true then Q (.bl true) H1 else a Y H1 Q
def zk{op}{t:TE}(h:PE X a t):PE X (.BoolOp op [a] pos) t:=λO s Y H Q I b=>BoolOp_one (h O s Y H Q I b)
def aaE(j:PE X a ta)(i:PE X (.BoolOp .And (b::ZQ) pos) tb):PE X (.BoolOp .And (a::b::ZQ) pos) (GO ta tb):=by
 intro O s Y H Q I h;refine BoolOp_and (thn (j O s Y H _ I h) ?_);rintro v f ⟨x,H1,e,g,d⟩;let⟨c,rfl,d⟩:=d;cases g;refine T1 ?_;cases c with
 |true=>exact i O f Y H1 Q e d
 |false=>exact⟨.bl false,H1,e,rfl,d⟩
def ad6(j:PE X a ta)(i:PE X (.BoolOp .Or (b::ZQ) pos) tb):PE X (.BoolOp .Or (a::b::ZQ) pos) (HV ta tb):=by
 intro O s Y H Q I h;refine BoolOp_or (thn (j O s Y H _ I h) ?_);rintro v f ⟨x,H1,e,g,d⟩;let⟨c,rfl,d⟩:=d;cases g;refine T1 ?_;cases c with
 |false=>exact i O f Y H1 Q e d
 |true=>exact⟨.bl true,H1,e,rfl,d⟩
end
end L2
namespace L2
open PySem PySem.Spec PyProof.Rows
def SqL(K:Hf)(H:Hp)(a:Addr)(xs:List V):Prop:=
 Rd H a (.Z5 xs) \/
  ∃(o:Obj) (ZU:Array Value) (n:Nat),K.lookup a=some o/\o.cls=.type "list" /\ o.dict=none/\o.data=.seq ZU n/\ZU.size<=sizeLine/\ZG xs ZU.toList
def SqT(K:Hf)(H:Hp)(a:Addr)(xs:List V):Prop:=
 Rd H a (.ZW xs) \/
  ∃(o:Obj) (ZU:Array Value) (n:Nat),K.lookup a=some o/\o.cls=.type "tuple" /\ o.data=.seq ZU n/\ZU.size<=sizeLine/\ZG xs ZU.toList
def HW:Value->Option V
 |.none=>some .ZK
 |.bool b=>some (.bl b)
 |.int i _=>some (.int i)
 |.str x _=>some (.str x)
 |.bytes b _=>some (.XD b)
 |.float b _=>some (.Vo b)
 |.ref a=>some (.ref a)
 |.type n=>some (.ty n)
 |_=>none
def RelV.abs{x:V}{u:Value}(r:RelV x u):HW u=some x:=by
 cases x with
 |ZK=>cases r;rfl
 |bl _=>cases r;rfl
 |int _=>let⟨t,rfl⟩:=r;rfl
 |str _=>let⟨t,rfl⟩:=r;rfl
 |XD _=>let⟨t,rfl⟩:=r;rfl
 |Vo _=>let⟨t,rfl⟩:=r;rfl
 |ref _=>cases r;rfl
 |ty _=>cases r;rfl
def RelV.inj{x y:V}{u:Value}(r:RelV x u)(q:RelV y u):x=y:=WQ (r.abs.symm.trans q.abs)
def ZG.inj:∀{xs ys:List V} {S:List Value},ZG xs S->ZG ys S->xs=ys
 |_,_,_,.nil,.nil=>rfl
 |_,_,_,.cons r t,.cons r' t'=>by rw[r.inj r',ZG.inj t t']
section
variable{Y:St}{xs ys:List V}
def SqL.of(h:H a=some (.Z5 xs)):SqL K H a xs:=.inl (.inl h)
def SqT.of(h:H a=some (.ZW xs)):SqT K H a xs:=.inl (.inl h)
def Z0.list(I:Z0 X O Y H s)(h:SqL X.K H a xs):∃ZU:List Value,ZG xs ZU/\PlainL s.heap a ZU.toArray/\xs.length<=sizeLine:=by
 rcases h with h|⟨o,ZU,n,hk,b,hd,hs,c,r⟩
 .obtain ⟨z,ZU,n,r,e⟩:=h.ok I.ZJ
  exact⟨ZU,r,⟨_,n,e,rfl,rfl,rfl⟩,z⟩
 .refine ⟨ZU.toList,r,⟨o,n,I.Ys a o hk,b,hd,by simpa using hs⟩,?_⟩
  have e:=r.length;simp![YW]at e;lia
def Z0.tuple(I:Z0 X O Y H s)(h:SqT X.K H a xs):∃ZU:List Value,ZG xs ZU/\IsTup s.heap a ZU.toArray/\xs.length<=sizeLine:=by
 rcases h with h|⟨o,ZU,n,hk,b,hs,c,r⟩
 .obtain ⟨z,ZU,r,p⟩:=h.ok I.ZJ
  exact⟨ZU,r,p,z⟩
 .refine ⟨ZU.toList,r,⟨o,I.Ys a o hk,b,n,by simpa using hs⟩,?_⟩
  have e:=r.length;simp![YW]at e;omega
def Z0.Sn(I:Z0 X O Y H s)(h:SqL X.K H a xs)(h':SqL X.K H a ys):xs=ys:=by
 let⟨ZU,r,⟨o,n,e,_,_,d⟩,_⟩:=I.list h;let⟨b,r',⟨o',g,e',_,_,c⟩,_⟩:=I.list h';rw[e]at e';cases e';rw[d]at c;injection c with f _
 have:ZU=b:=by simpa using SO Array.toList f
 subst this;exact r.inj r'
def Z0.UP(I:Z0 X O Y H s)(h:SqT X.K H a xs)(h':SqT X.K H a ys):xs=ys:=by
 let⟨ZU,r,⟨o,e,_,n,d⟩,_⟩:=I.tuple h;let⟨b,r',⟨o',e',_,g,c⟩,_⟩:=I.tuple h';rw[e]at e';cases e';rw[d]at c;injection c with f _
 have:ZU=b:=by simpa using SO Array.toList f
 subst this;exact r.inj r'
end
abbrev Cx.WZ(X:Cx)(E:Value->Shared->Prop):Cx:={X with xe:=E}
abbrev Cx.VX(X:Cx):Cx:=X.WZ λ_ _=>False
def Cx.Ok.WZ{X:Cx}(a:X.Ok)(E:Value->Shared->Prop):(X.WZ E).Ok:=
 ⟨a.mod,a.kind,a.glob,a.blt,a.above,a.inj,a.has,a.UU,a.hd,a.frames,a.stk,a.exf,a.bs,a.WH,a.YM,a.T5,a.XC,a.VU⟩
def Cx.Ok.Wd{E:Value->Shared->Prop}(a:(X.WZ E).Ok):X.Ok:=
 ⟨a.mod,a.kind,a.glob,a.blt,a.above,a.inj,a.has,a.UU,a.hd,a.frames,a.stk,a.exf,a.bs,a.WH,a.YM,a.T5,a.XC,a.VU⟩
section
variable{Y:St}{E:Value->Shared->Prop}
def Z0.WZ(I:Z0 X O Y H s)(E:Value->Shared->Prop):Z0 (X.WZ E) O Y H s:=⟨I.ok.WZ E,I.os,I.bare,I.base,I.loc,I.cell,I.free,I.W4,I.pin,I.ZJ,I.len⟩
def Z0.Wd(I:Z0 (X.WZ E) O Y H s):Z0 X O Y H s:=⟨I.ok.Wd,I.os,I.bare,I.base,I.loc,I.cell,I.free,I.W4,I.pin,I.ZJ,I.len⟩
def SP.Wd{D:Ends}{f:Flow}{a:Shared}(h:SP (X.WZ E) O D f a):SP X O D f a:=by
 cases f with
 |next=>let⟨ZR,H',I,q⟩:=h;exact⟨ZR,H',I.Wd,q⟩
 |brk=>let⟨ZR,H',I,q⟩:=h;exact⟨ZR,H',I.Wd,q⟩
 |cont=>let⟨ZR,H',I,q⟩:=h;exact⟨ZR,H',I.Wd,q⟩
 |ret u=>let⟨v,ZR,H',I,r,q⟩:=h;exact⟨v,ZR,H',I.Wd,r,q⟩
def PSs.VX{st:List Stmt}{t:TS}(h:PSs X.VX st t):PSs X st t:=λO s Y H D I a=>
 Q4 (h O s Y H D (I.WZ _) a) (λ_ _ q=>q.Wd) λ_ _ z=>False.elim z
end
section
variable{st:Stmt}{ZQ:List Stmt}{t u:TS}
def GV:TS:=λD Y H=>D.nx Y H
def HX(t u:TS):TS:=λD Y H=>t {D with nx:=u D} Y H
def wN:PSs X [] GV:=λ_ _ Y H _ I h=>Om ⟨Y,H,I,h⟩
def tQ(c:PS X st t)(b:PSs X ZQ u):PSs X (st::ZQ) (HX t u):=by
 intro O s Y H D I h;refine wpAny_execs_cons (thn (c O s Y H {D with nx:=u D} I h) λf a q=>?_)
 cases f with
 |next=>
  let⟨ZR,H',d,q⟩:=q;exact b O a ZR H' D d q
 |ret v=>exact q
 |brk=>exact q
 |cont=>exact q
def Z0.quiet{Y:St}(I:Z0 X O Y H s):interactive X.env=false:=by simp[interactive,I.ok.kind]
def GH(a:TE):TS:=λD Y H=>a Y H λ_ H1=>D.nx Y H1
def u5(c:PE X e te)(b:swapsWith e none pos.line X.env=pure false:=by rfl):PS X (.Expr e pos) (GH te):=by
 intro O s Y H D I h;exact wpAny_Expr_any (thn (c O s Y H _ I h) λv f ⟨x,H1,d,g,a⟩=>⟨Y,H1,d,a⟩) I.quiet b
def HY(a:TE):TS:=λD Y H=>a Y H D.rt
def yj(c:PE X e te):PS X (.Return (some e) pos) (HY te):=by
 intro O s Y H D I h;exact wpAny_Return_some (thn (c O s Y H _ I h) λv f ⟨x,H1,d,a,b⟩=>⟨x,Y,H1,d,a,b⟩)
def HZ(c:TT)(t u:TS):TS:=λD Y H=>c Y H λb H1=>if b=true then t D Y H1 else u D Y H1
def ab7{c:Expr}{a b:List Stmt}{e:TT}(j:PT X c e)(l:PSs X a t)(k:PSs X b u):PS X (.If c a b pos) (HZ e t u):=by
 intro O s Y H D I h;refine wpAny_If (thn (j O s Y H _ I h) ?_);rintro d f ⟨H1,i,g⟩;cases d with
 |true=>exact l O f Y H1 D i g
 |false=>exact k O f Y H1 D i g
end
abbrev TG:=V->St->Hp->(St->Hp->Prop)->Prop
abbrev WE:=List V->St->Hp->(St->Hp->Prop)->Prop
def PG(X:Cx)(a:Expr)(t:TG):Prop:=
 ∀(O:List (Addr×Obj)) (s:Shared) (Y:St) (H:Hp) (v:V) (u:Value) (Q:St->Hp->Prop),Z0 X O Y H s->RelV v u->t v Y H Q ->
  wpAny (model X.prog X.w) X.A (assign a X.env u) (λ_ s'=>∃ZR H',Z0 X O ZR H' s'/\Q ZR H') X.xe s
def PGs(X:Cx)(a:List Expr)(t:WE):Prop:=
 ∀(O:List (Addr×Obj)) (s:Shared) (Y:St) (H:Hp) (vs:List V) (S:List Value) (Q:St->Hp->Prop),Z0 X O Y H s->ZG vs S->t vs Y H Q ->
  wpAny (model X.prog X.w) X.A (assignInOrder ((assignEach a X.env).map (·.2)) S) (λ_ s'=>∃ZR H',Z0 X O ZR H' s'/\Q ZR H') X.xe s
abbrev CU:=V->V->V->Hp->(Hp->Prop)->Prop
def Cg(X:Cx)(t:CU):Prop:=
 ∀(O:List (Addr×Obj)) (s:Shared) (Y:St) (H:Hp) (o i v:V) (a b u:Value) (Q:Hp->Prop),Z0 X O Y H s->RelV o a->RelV i b->RelV v u->t o i v H Q ->
  wpAny (model X.prog X.w) X.A (setItem a b u) (λ_ s'=>∃H',Z0 X O Y H' s'/\Q H') X.xe s
section
def FW(i:Nat):TG:=λv Y H Q=>Q (Y.set i (some v)) H
def lR(c:X.N.Nodup)(hi:X.N[i]?=some x)(a:Loc X.env.scope x)(b:X.fn x=true\/X.env.scope.names.lookup x=some .local:=by first|exact .inl rfl|exact .inr rfl|assumption):PG X (.Name x pos) (FW i):=by
 intro O s Y H v u Q I r h;exact wpAny_assign_Name (dF I c hi a r (λs' d=>⟨_,H,d,h⟩) b)
def gNil:WE:=λvs Y H Q=>vs=[]/\Q Y H
def G1(t:TG)(u:WE):WE:=λvs Y H Q=>∃v r,vs=v::r/\t v Y H λZR H'=>u r ZR H' Q
def wF:PGs X [] gNil:=by
 intro O s Y H vs S Q I r h;let⟨e,h⟩:=h;subst e;cases r;exact assignInOrder_nil ⟨Y,H,I,h⟩
def sS{t:TG}{u:WE}(g:PG X e t)(f:PGs X es u)
  (d:(assignEach (e::es) X.env).map (·.2)=assign e X.env::(assignEach es X.env).map (·.2):=by rfl):PGs X (e::es) (G1 t u):=by
 intro O s Y H vs S Q I r h;let⟨v,l,i,h⟩:=h;subst i;cases r with
 |cons r b=>
  rw[d];refine PD (thn (g O s Y H _ _ _ I r h) ?_);rintro _ a ⟨j,H1,k,c⟩;exact f O a j H1 _ _ Q k b c
def H8(K:Hf)(n:Nat)(t:WE):TG:=λv Y H Q=>∃a xs,v=.ref a/\SqT K H a xs/\xs.length=n/\t xs Y H Q
def zK{k:Nat}{t:WE}(m:X.calm=true)(h:PGs X es t)
  (j:(assignEach es X.env).length=n:=by rfl) (q:(assignEach es X.env).findIdx? (·.1)=none:=by rfl):PG X (.Tuple es k pos) (H8 X.K n t):=by
 intro O s Y H v u Q I r c;let⟨a,xs,p,i,l,c⟩:=c;subst p;cases r;let⟨ZU,d,g,x⟩:=I.tuple i;refine assign_Tuple_tuple (I.ok.hd m) g (by simp[j,<-l,d.length]) q λh' f=>?_
 have w:Z0 X O Y H {s with heap:=h'}:=I.kept (t':=s.toks) λb o e=>f b o (Hb (G5 e)) e
 exact h O _ Y H xs _ Q w (by simpa using d) c
def H9(a b:TE)(t:CU):TG:=λv Y H Q=>a Y H λo H1=>b Y H1 λi H2=>t o i v H2 λH3=>Q Y H3
def zm{o i:Expr}{to ti:TE}{t:CU}(ho:PE X o to)(hi:PE X i ti)(hs:Cg X t)
  (ha:∀ v,assign (.Subscript o i pos) X.env v=(do
   let ov<-holding [v] (eval o X.env)
   let iv<-holding [v,ov] (eval i X.env)
   standAt pos
   holding [v,ov,iv] (setItem ov iv v)
   release [v,ov,iv] []):=by intro _;rfl):PG X (.Subscript o i pos) (H9 to ti t):=by
 intro O s Y H v u Q I r h;rw[ha];refine ZB (V7 (thn (ho O s Y H _ I h) ?_));rintro ov s1 ⟨x,H1,I1,r1,q1⟩;refine ZB (V7 (thn (hi O s1 Y H1 _ I1 q1) ?_));rintro iv s2 ⟨y,H2,I2,r2,q2⟩;refine ZB (S_ (ZB (V7 (thn (hs O s2 Y H2 x y v ov iv u _ I2 r1 r2 r q2) ?_))));rintro _ s3 ⟨H3,I3,q3⟩;exact wpAny_release ⟨Y,H3,I3,q3⟩
def Ia(a:TE)(g:TG):TS:=λD Y H=>a Y H λx H1=>g x Y H1 D.nx
def mH{g:TG}(j:PE X e te)(i:PG X tg g)(f:swapsWithSole [tg] e pos.line X.env=pure false:=by rfl)(d:swappedStores [tg] e X.env=pure none:=by rfl)
  (h1:(assignEach [tg] X.env).map (·.2)=[assign tg X.env]:=by rfl):PS X (.Assign [tg] e pos) (Ia te g):=by
 intro O s Y H D I h;refine wpAny_Assign_stores (thn (j O s Y H _ I h) λv a ⟨x,H1,k,b,c⟩=>?_) f d;rw[h1];exact thn (i O a Y H1 x v _ k b c) λ_ l q=>q
def yx{a:Pos}(k:X.N.Nodup)(hi:X.N[i]?=some x)(d:Loc X.env.scope x)(j:PE X e te)(f:swapsWith e (some (.Name x a)) pos.line X.env=pure false:=by rfl)(g:X.fn x=true\/X.env.scope.names.lookup x=some .local:=by first|exact .inl rfl|exact .inr rfl|assumption):
  PS X (.Assign [.Name x a] e pos) (Ia te (FW i)):=by
 intro O s Y H D I h;refine wpAny_Assign_Name (thn (j O s Y H _ I h) λv o ⟨y,H1,m,b,c⟩=>?_) f;exact dF m k hi d b (λn l=>⟨_,H1,l,c⟩) g
def Ib(i j:Nat)(a:TA):TS:=λD Y H=>a Y H λvs H1=>∃v w,vs=[v,w]/\D.nx ((Y.set i (some v)).set j (some w)) H1
def aaR{y:Str}{a b:Expr}{ta:TA}{px py pt:Pos}{kt k2 WY}(hc:X.calm=true)(hN:X.N.Nodup)(hi:X.N[i]?=some x)(hj:X.N[j]?=some y)(Y3:i≠j)
  (hx:X.env.scope.names.lookup x=some .local) (hy:X.env.scope.names.lookup y=some .local) (ha:PA X [a,b] ta)
  (hw:swappedStores [.Tuple [.Name x px,.Name y py] kt pt] (.Tuple [a,b] k2 WY) X.env=pure (some [x,y]))
  (hs:swapsWithSole [.Tuple [.Name x px,.Name y py] kt pt] (.Tuple [a,b] k2 WY) pos.line X.env=pure false:=by rfl) :
  PS X (.Assign [.Tuple [.Name x px,.Name y py] kt pt] (.Tuple [a,b] k2 WY) pos) (Ib i j ta):=by
 intro O s Y H D I h;rw[exec_Assign_arm];refine ZB (S_ ?_);rw[hs];refine ZB (ZP ?_);rw[Yb #[1]]
 refine ZB (Tuple_ (thn (ha _ O s Y H _ I h) ?_));rintro S s1 ⟨vs,H1,I1,r1,q1⟩;let⟨v,w,e1,q1⟩:=q1;subst e1;obtain⟨u1,u2,rfl,rv,YR⟩:∃u1 u2,S=[u1,u2]/\RelV v u1/\RelV w u2:=by
  cases r1 with
  |cons p q=>
   cases q with
   |cons p' q'=>
    cases q';exact⟨_,_,rfl,p,p'⟩
 refine Uk ?_ (by show 2<=sizeLine;decide)
 have I2:Z0 X O Y H1 {s1 with heap:=s1.heap.push {cls:=.type "tuple",data:=.seq [u1,u2].toArray}}:=I1.kept (t':=s1.toks) λb o e=>G4 _ e
 rw[hw];refine ZB (ZP ?_);show wpAny (model X.prog X.w) X.A (do rule "assign.swapped-stores";let items<-unpackItems (.ref s1.heap.objs.size) 2 none;assignInOrder [λv=>bindName X.env y v,λv=>bindName X.env x v] items.reverse;pure Flow.next) _ _ _
 refine ZB (RP (ZB (unpackItems_tuple (items:=#[u1,u2]) (I.ok.hd hc) (IsTup.new s1.heap _) λh' Wc=>?_)));have I3:=I2.kept (h':=h') (t':=s1.toks) λb o e=>Wc b o (Hb (G5 e)) e;show wpAny _ _ (assignInOrder [λv=>bindName X.env y v,λv=>bindName X.env x v] [u2,u1] >>= λ_=>pure Flow.next) _ _ _;refine ZB (PD (wpAny_bindName (dF I3 hN hj (.inl hy) YR (λs2 I4=>?_) (.inr hy))));refine PD (wpAny_bindName (dF I4 hN hi (.inl hx) rv (λs3 I5=>assignInOrder_nil (ZP ?_)) (.inr hx)));rw[List.set_comm _ _ (Ne.symm Y3)]at I5;exact⟨_,H1,I5,q1⟩
end
set_option genInjectivity false in
structure It where
 go:Nat->Hp->Prop
 yld:Nat->Hp->V->Hp->Prop
 stop:Nat->Hp->Prop
def A3(X:Cx)(O:List (Addr×Obj))(H:Hp)(b:Addr):Prop:=
 H b=none/\b≠X.env.locals/\b ∉ X.fs/\(b∈X.ex\/X.Zf.heap.objs.size<=b)/\(∀x c,X.env.cells.lookup x=some c->c≠b) /\∀p∈X.pn++O,p.1≠b
def Z0.T4{Y:St}{b:Addr}(I:Z0 X O Y H s)(a:s.heap.objs.size<=b)(f:H' b=none):A3 X O H' b:=by
 refine⟨f,Qo (Ha I.lt a),I.nofs a,.inr (G6 I.sz a),λx c e z=>?_,λp d z=>?_⟩
 .obtain ⟨v,q⟩:=I.cell x c e
  exact absurd (Ha q.lt (by rw[z];exact a)) (RE _)
 .exact absurd (Ha (G5 (I.pin p d).1) (by rw[z];exact a)) (RE _)
structure Turn(P:Program)(w:World)(K:Hf)(tg:Expr)(Z8:It)(fp:List Addr)(it:Addr)(tn:Nat->Heap->Prop):Prop where
 mem:it∈fp
 obj:∀i h,tn i h ->∀b∈fp,∃o,h.get? b=some o /\∀v,o.data ≠ .cell v
 keep:∀i h h',tn i h->(∀b∈fp,∀o,h.get? b=some o->h'.get? b=some o)->tn i h'
 item:∀(X:Cx),X.prog=P->X.w=w->X.K=K->X.calm=true ->∀(i:Nat) (O:List (Addr×Obj)) (s:Shared) (Y:St) (H:Hp) (E:Value->Shared->Prop),Z0 X O Y H s->(∀b∈fp,A3 X O H b)->tn i s.heap->Z8.go i H ->
  wpAny (model P w) X.A (pyNext (.ref it)) (λr s1 => ∃ u,r=some u /\
   wpAny (model P w) X.A (letOwnedTupleGo tg (.ref it) u) (λ_ s2=>∃x H',Z0 X O Y H' s2/\RelV x u/\Z8.yld i H x H'/\tn (i+1) s2.heap /\∀b∈fp,H' b=none) E s1) E s
 done:∀(X:Cx),X.prog=P->X.w=w->X.K=K->X.calm=true ->∀(i:Nat) (O:List (Addr×Obj)) (s:Shared) (Y:St) (H:Hp) (E:Value->Shared->Prop),Z0 X O Y H s->(∀b∈fp,A3 X O H b)->tn i s.heap->Z8.stop i H ->
  wpAny (model P w) X.A (pyNext (.ref it)) (λr s1=>r=none/\Z0 X O Y H s1) E s
 self:∀(A:Around) (i:Nat) (s:Shared) (Q:Value->Shared->Prop) (E:Value->Shared->Prop),tn i s.heap->Q (.ref it) s->wpAny (model P w) A (pyIter (.ref it)) Q E s
abbrev TI:=St->Hp->(It->Hp->Prop)->Prop
def PIE(X:Cx)(O:List (Addr×Obj))(Y:St)(d:Expr)(R:It->Hp->Prop)(e:Value)(a:Shared):Prop:=
 ∃(it:Addr) (fp:List Addr) (tn:Nat->Heap->Prop) (c:It) (H':Hp),e=.ref it/\Z0 X O Y H' a/\Turn X.prog X.w X.K d c fp it tn/\tn 0 a.heap/\(∀b∈fp,A3 X O H' b)/\R c H'
def PI(X:Cx)(c a:Expr)(b:TI):Prop:=
 ∀(O:List (Addr×Obj)) (s:Shared) (Y:St) (H:Hp) (R:It->Hp->Prop),Z0 X O Y H s->b Y H R ->
  wpAny (model X.prog X.w) X.A (eval a X.env) (λv d=>wpAny (model X.prog X.w) X.A (pyIter v) (PIE X O Y c R) X.xe d) X.xe s
def eV{M:Model}{E:Value->Shared->Prop}{it:Addr}{u:Value}{o:Obj}{n:String}{vs:Array Value}{Q:Unit->Shared->Prop}(b:s.heap.get? it=some o)(e:o.cls=.type n)(d:o.data=.fields vs)
    (c:["enumerate","zip","dict_itemiterator","dict_reverseitemiterator","odict_iterator","itertools.zip_longest","itertools.pairwise"].contains n=false) (a:Q Unit.unit s):wpAny M A (letOwnedTupleGo tg (.ref it) u) Q E s:=by
  unfold letOwnedTupleGo;cases tg<;>first
    |exact ZP a
    | (cases u <;> first
        |exact ZP a
        | (refine ZB (wpAny_load b ?_)
           rw[e,d];show wpAny M A (if(["enumerate","zip","dict_itemiterator","dict_reverseitemiterator","odict_iterator","itertools.zip_longest","itertools.pairwise"].contains n&&vs[0]? == some (rawInt _))=true then _ else _) Q E s
           rw[Yb (by intro h;rw[c,QM]at h;cases h)]
           exact ZP a))
def Itl(K:Hf)(a:Addr):It:=
 ⟨λi H=>∃xs x,SqL K H a xs/\xs[i]?=some x,λi H x H'=>H'=H /\∀xs,SqL K H a xs->xs[i]?=some x,λi H=>∃xs,SqL K H a xs/\xs.length<=i⟩
def Itt(K:Hf)(a:Addr):It:=
 ⟨λi H=>∃xs x,SqT K H a xs/\xs[i]?=some x,λi H x H'=>H'=H /\∀xs,SqT K H a xs->xs[i]?=some x,λi H=>∃xs,SqT K H a xs/\xs.length<=i⟩
def Itr(lo:Int)(n:Nat):It:=⟨λi _=>i<n,λi H x H'=>H'=H/\x=.int (lo+i),λi _=>n<=i⟩
def qS{P:Program}(a it:Addr):Turn P w K tg (Itl K a) [it] it (λi h=>h.IsListIter it a i) where
 mem:=by simp
 obj:=λi h st b f=>by
  have e:b=it:=by simpa using f
  subst e;let⟨o,e,c,d⟩:=st;exact⟨o,e,λv z=>by rw[d]at z;cases z⟩
 keep:=λi h h' st k=>st.at λo e=>k it #[3] o e
 item:=by
  intro X B y C M i O s Y H E I j st A;subst B y C;let⟨xs,x,g,t⟩:=A;let⟨ZU,r,p,R⟩:=I.list g;let⟨u,T,Q⟩:=r.get t;let⟨L,J,U,G,F,D⟩:=j it #[3]
  refine wpAny_pyNext_list_item st p.isList (x:=u) (by simpa using T) λh' N sb=>?_
  have W:Z0 X O Y H {s with heap:=h'}:=I.turned (t':=s.toks) (λb o f e=>(sb.2 b f).trans e) L J G F D
  let⟨o,e,c,d⟩:=id N;exact⟨u,rfl,eV (s:={s with heap:=h'}) e c d #[1] ⟨x,H,W,Q,⟨rfl,λys S=>by rw[I.Sn S g];exact t⟩,N,λb f=>(j b f).1⟩⟩
 done:=by
  intro X B y C M i O s Y H E I j st A;subst B y C;let⟨xs,g,t⟩:=A;let⟨ZU,r,p,R⟩:=I.list g;let⟨L,J,U,G,F,D⟩:=j it #[3]
  have hl:=r.length;exact wpAny_pyNext_list_end (I.ok.hd M) st p.isList (by simp;lia) λh' V=>⟨rfl,I.turned (t':=s.toks) (λb o f e=>V b o f e) L J G F D⟩
 self:=λ_ _ _ _ _ st h=>wpAny_pyIter_listiter st h
def qp{P:Program}(a it:Addr):Turn P w K tg (Itt K a) [it] it (λi h=>h.IsTupleIter it a i) where
 mem:=by simp
 obj:=λi h st b f=>by
  have e:b=it:=by simpa using f
  subst e;let⟨o,e,c,d⟩:=st;exact⟨o,e,λv z=>by rw[d]at z;cases z⟩
 keep:=λi h h' st k=>st.at λo e=>k it #[3] o e
 item:=by
  intro X B y C M i O s Y H E I j st A;subst B y C;let⟨xs,x,g,t⟩:=A;let⟨ZU,r,p,R⟩:=I.tuple g;let⟨u,T,Q⟩:=r.get t;let⟨L,J,U,G,F,D⟩:=j it #[3]
  refine wpAny_pyNext_tuple_item st (show s.heap.IsTuple a ZU.toArray from p) (x:=u) (by simpa using T) λh' N sb=>?_
  have W:Z0 X O Y H {s with heap:=h'}:=I.turned (t':=s.toks) (λb o f e=>(sb.2 b f).trans e) L J G F D
  let⟨o,e,c,d⟩:=id N;exact⟨u,rfl,eV (s:={s with heap:=h'}) e c d #[1] ⟨x,H,W,Q,⟨rfl,λys S=>by rw[I.UP S g];exact t⟩,N,λb f=>(j b f).1⟩⟩
 done:=by
  intro X B y C M i O s Y H E I j st A;subst B y C;let⟨xs,g,t⟩:=A;let⟨ZU,r,p,R⟩:=I.tuple g;let⟨L,J,U,G,F,D⟩:=j it #[3]
  have hl:=r.length;exact wpAny_pyNext_tuple_end (I.ok.hd M) st (show s.heap.IsTuple a ZU.toArray from p) (by simp;omega) λh' V=>⟨rfl,I.turned (t':=s.toks) (λb o f e=>V b o f e) L J G F D⟩
 self:=λ_ _ _ _ _ st h=>wpAny_pyIter_tupleiter st h
def pJ{P:Program}(it:Addr)(lo:Int)(n:Nat):Turn P w K tg (Itr lo n) [it] it (λi h=>IsRangeIter h it (lo+(i:Nat)*1) ((n:Int)-(i:Nat)) 1) where
 mem:=by simp
 obj:=λi h st b a=>by
  have e:b=it:=by simpa using a
  subst e
  exact ⟨_,st,λv z=>by
   have F:Data.fields _=Data.cell v:=z;cases F⟩
 keep:=λi h h' st k=>k it #[3] _ st
 item:=by
  intro X j d r g i O s Y H E I c st f;subst j d r;let⟨C,B,L,A,y,u⟩:=c it #[3]
  have W:=Walks.range (prog:=X.prog) (w:=X.w) (I.ok.hd g) it lo 1 n;refine W.item i s _ _ f st λv h' tk J D G=>?_;let⟨t,rfl⟩:=J;have N:Z0 X O Y H {s with heap:=h',toks:=tk}:=I.turned (λb o a e=>G b o (by simpa using a) e) C B A y u
  refine⟨_,rfl,eV (s:={s with heap:=h',toks:=tk}) (n:="range_iterator") D rfl rfl #[1] ⟨.int (lo+i),H,N,⟨t,?_⟩,⟨rfl,rfl⟩,D,λb a=>(c b a).1⟩⟩
  rw[Int.mul_one]
 done:=by
  intro X j d r g i O s Y H E I c st f;subst j d r;let⟨C,B,L,A,y,u⟩:=c it #[3]
  exact wpAny_pyNext_range_end (I.ok.hd g) st (by have:n<=i:=f;lia) λh' M=>⟨rfl,I.turned (t':=s.toks) (λb o a e=>M b o a e) C B A y u⟩
 self:=λ_ _ _ _ _ st h=>wpAny_pyIter_rangeiter st h
end L2
namespace L2
open PySem PySem.Spec PyProof.Rows
section
def kJ{Y:St}{R:It->Hp->Prop}{E:Value->Shared->Prop}{lo hi:Int}{t u v:Tok}{tk:Nat}(I:Z0 X O Y H s)(h1 : -(2 ^ 62)<=lo)(f:lo<2 ^ 62)(h3 : -(2 ^ 62)<=hi)(d:hi<2 ^ 62)
  (q:R (Itr lo (hi-lo).toNat) H):wpAny (model X.prog X.w) X.A (pyIter (.ref s.heap.objs.size)) (PIE X O Y tg R) E {s with heap:=s.heap.push {cls:=.type "range",data:=.fields #[.int lo t,.int hi u,.int 1 v]},toks:=tk}:=by
 refine wpAny_pyIter_range (IsRange.new ..) (small_one h1 f h3 d) ?_;have a:Z0 X O Y H {s with heap:=s.heap.push {cls:=.type "range",data:=.fields #[.int lo t,.int hi u,.int 1 v]},toks:=tk}:=I.kept λb o e=>G4 _ e
 refine⟨(s.heap.push {cls:=.type "range",data:=.fields #[.int lo t,.int hi u,.int 1 v]}).objs.size,[(s.heap.push {cls:=.type "range",data:=.fields #[.int lo t,.int hi u,.int 1 v]}).objs.size],_,_,H,rfl,
  a.kept (t':=tk) λb o e=>G4 _ e,pJ _ lo (hi-lo).toNat,?_,λb c=>?_,q⟩
 .have j:lo+((0:Nat):Int)*1=lo:=by simp
  have g:(((hi-lo).toNat:Nat):Int)-((0:Nat):Int)=Builtin.Range.rangeSize lo hi 1:=by rw[rangeSize_one];split<;>lia
  show IsRangeIter _ _ (lo+((0:Nat):Int)*1) ((((hi-lo).toNat:Nat):Int)-((0:Nat):Int)) 1;rw[j,g];exact Hc _ rfl
 .have e:b=(s.heap.push {cls:=.type "range",data:=.fields #[.int lo t,.int hi u,.int 1 v]}).objs.size:=by simpa using c
  subst e;exact a.T4 (G8 _) (a.ZJ.fresh (G8 _))
def GX(a:TA):TI:=λY H R=>a Y H λvs H1=>∃j:Int,vs=[.int j] /\ -(2 ^ 62)<=j/\j<2 ^ 62/\R (Itr 0 j.toNat) H1
def GJ(a:TA):TI:=λY H R=>a Y H λvs H1=>∃i j:Int,vs=[.int i,.int j]/\(-(2 ^ 62)<=i/\i<2 ^ 62 /\ -(2 ^ 62)<=j/\j<2 ^ 62)/\R (Itr i (j-i).toNat) H1
def rL{a:Expr}{c:TA}{p:Pos}(l:Gl X "range")(k:X.mg "range" = none)(m:PA X [a] c)(i:starEach [a] X.env=[(false,eval a X.env)]:=by rfl):PI X tg (.Call (.Name "range" p) [a] [] pos) (GX c):=by
 intro O s Y H R I h;refine Call_ (eE I l k boot_range (Qh (thn (m pos O s Y H _ I h) λS o ⟨vs,H1,n,f,b⟩=>?_) i rfl));let⟨j,e,b,g,q⟩:=b;subst e;cases f with
 |cons r d=>
  cases d;let⟨t,rfl⟩:=r;exact call_range_1 (kJ n (by lia) (by lia) b g (by simpa using q))
def rV{a b:Expr}{f:TA}{p:Pos}(v:Gl X "range")(u:X.mg "range" = none)(w:PA X [a,b] f)(o:starEach [a,b] X.env=[(false,eval a X.env),(false,eval b X.env)]:=by rfl)(g:starEach [b] X.env=[(false,eval b X.env)]:=by rfl):
  PI X tg (.Call (.Name "range" p) [a,b] [] pos) (GJ f):=by
 intro O s Y H R I h;refine Call_ (eE I v u boot_range (Qh (thn (w pos O s Y H _ I h) λS y ⟨vs,H1,x,k,d⟩=>?_) (by rw[o,g]) (by rw[g];rfl)))
 let⟨i,j,e,⟨d,n,m,l⟩,q⟩:=d;subst e;cases k with
 |cons r c=>
  cases c with
  |cons r' c=>
   cases c;let⟨t,rfl⟩:=r;let⟨t',rfl⟩:=r';exact call_range_2 (kJ x d n m l q)
def Ic(c:TI)(g:TG)(d:TS):TS:=λD Y H=>c Y H λa H1=>∃W:Nat->Nat->St->Hp->Prop,(∃m,W 0 m Y H1) /\∀i m Y H,W i m Y H ->
 (a.stop i H/\D.nx Y H)\/(a.go i H /\∃N:St->Hp->Prop,(∀ZR H',N ZR H' ->∃b,b<m/\W (i+1) b ZR H') /\∀x H',a.yld i H x H'->g x Y H' λe H2=>d {D with nx:=N,ct:=N,bk:=D.nx} e H2)
def Cw(a:List Addr)(h:Heap):List (Addr×Obj):=a.filterMap λb=>(h.get? b).map λo=>(b,o)
def dq{b:Addr}{o:Obj}(a:b∈fp)(e:h.get? b=some o):(b,o)∈Cw fp h:=Rm.mpr ⟨b,a,by rw[e];rfl⟩
def qP{p:Addr×Obj}(a:p∈Cw fp h):p.1∈fp/\h.get? p.1=some p.2:=by
 let⟨b,c,e⟩:=Rm.mp a;cases q:h.get? b with
 |none=>rw[q]at e;cases e
 |some o=>
  rw[q]at e;have e':(b,o)=p:=WQ e;subst e';exact⟨c,q⟩
def Z0.pinned{Y:St}{a:List Addr}(I:Z0 X O Y H s)(h:∀b∈a,A3 X O H b)(g:∀b∈a,∃o,s.heap.get? b=some o /\∀v,o.data ≠ .cell v):Z0 X (O++Cw a s.heap) Y H s:=
 I.SS λp f=>(Wu.mp f).elim (λz=>I.pin p (VF _ z)) λz=>by
  let⟨c,e⟩:=qP z;let⟨k,j,i,_⟩:=h p.1 c;let⟨o,e',d⟩:=g p.1 c;rw[e]at e';cases e';exact⟨e,k,j,i,d⟩
def Z0.T3{pl:List (Addr×Obj)}{Y:St}(I:Z0 X (O++pl) Y H s):Z0 X O Y H s:=I.SS λp a=>I.pin p (VF _ (Ra _ a))
def aak{c:Expr}{y:List Stmt}{P:TI}{g:TG}{Q:TS}(C:PassesOwn (model X.prog X.w) X.A X.env X.xe)(S:X.calm=true)(hi:PI X tg c P)(hg:PG X tg g)(j:PSs X y Q)
  (hs:∀x,foldedSetIterable c X.env x=pure x:=by intro _;rfl):PS X (.For tg c y [] pos) (Ic P g Q):=by
 intro O s Y H D I h;refine wpAny_For (thn (hi O s Y H _ I h) λv s1 h1=>thn h1 λVk s2 h2=>?_) hs;let⟨it,fp,tn,Z8,H2,e,I2,T,Zy,U,W,⟨m0,w0⟩,z⟩:=h2;subst e;have a:∀{H':Hp},(∀b∈fp,H' b=none) ->∀b∈fp,A3 X O H' b:=λhn b j=>⟨hn b j,(U b j).2⟩;refine codeAny_forLoop_any (λn s'=>∃i ZR H',Z0 X O ZR H' s'/\tn i s'.heap/\(∀b∈fp,H' b=none)/\W i n ZR H') ?_ m0 ⟨0,Y,H2,I2,Zy,λb j=>(U b j).1,w0⟩;rintro n s3 ⟨i,F,H3,Z,V,E,w3⟩;rcases z i n F H3 w3 with⟨stop,qn⟩|⟨go,N,hN,step⟩
 .refine Rw C (thn (T.done X rfl rfl rfl S i O s3 F H3 X.xe Z (a E) V stop) λr s4 ⟨J,I4⟩=>?_)
  subst J;exact Om ⟨F,H3,I4,qn⟩
 .refine Rw C (thn (T.item X rfl rfl rfl S i O s3 F H3 X.xe Z (a E) V go) λr s4 ⟨u,J,h4⟩=>?_)
  subst J;refine Rw C (thn h4 ?_);rintro _ R ⟨x,H5,I5,r5,y5,L,K⟩;have M:=I5.pinned (a K) (T.obj _ _ L);refine Rw C (thn (hg _ R F H5 x u _ M r5 (step x H5 y5)) ?_);rintro _ s6 ⟨UO,H6,I6,q6⟩;refine Rw C (thn (j _ s6 UO H6 _ I6 q6) λf G t=>?_);have k:∀{l:St} {q:Hp},Z0 X (O++Cw fp R.heap) l q G->N l q ->∃m,m<n /\∃i ZR H',Z0 X O ZR H' G/\tn i G.heap/\(∀b∈fp,H' b=none)/\W i m ZR H':=λ{l q} p B=>by
   let⟨m',hm,w7⟩:=hN l q B;refine⟨m',hm,i+1,l,q,p.T3,T.keep _ _ _ L λb j o e=>(p.pin (b,o) (VF _ (VF _ (dq j e)))).1,λb j=>?_,w7⟩;let⟨o,e,d⟩:=T.obj _ _ L b j;exact(p.pin (b,o) (VF _ (VF _ (dq j e)))).2.1
  cases f with
  |next=>let⟨l,q,p,B⟩:=t;exact k p B
  |cont=>let⟨l,q,p,B⟩:=t;exact k p B
  |brk=>let⟨l,q,p,t⟩:=t;exact⟨l,q,p.T3,t⟩
  |ret v=>let⟨x7,l,q,p,r7,t⟩:=t;exact⟨x7,l,q,p.T3,r7,t⟩
end
end L2
namespace L2
open PySem PySem.Spec PyProof.Rows
abbrev R2:=V->V->Hp->VK->Prop
def OpR(X:Cx)(f:Value->Value->Sem Value)(r:R2):Prop:=
 ∀(O:List (Addr×Obj)) (s:Shared) (Y:St) (H:Hp) (x y:V) (v u:Value) (Q:VK),Z0 X O Y H s->RelV x v->RelV y u->r x y H Q ->
  wpAny (model X.prog X.w) X.A (f v u) (EP X O Y Q) X.xe s
def UnR(X:Cx)(f:Value->Sem Value)(r:V->Hp->VK->Prop):Prop:=
 ∀(O:List (Addr×Obj)) (s:Shared) (Y:St) (H:Hp) (x:V) (v:Value) (Q:VK),Z0 X O Y H s->RelV x v->r x H Q ->
  wpAny (model X.prog X.w) X.A (f v) (EP X O Y Q) X.xe s
def CallR(X:Cx)(f:Value)(r:List V->Hp->VK->Prop):Prop:=
 ∀(O:List (Addr×Obj)) (s:Shared) (Y:St) (H:Hp) (xs:List V) (S:List Value) (Q:VK),Z0 X O Y H s->ZG xs S->r xs H Q ->
  wpAny (model X.prog X.w) X.A (call f S) (EP X O Y Q) X.xe s
def TruR(X:Cx)(r:V->Hp->(Bool->Hp->Prop)->Prop):Prop:=
 ∀(O:List (Addr×Obj)) (s:Shared) (Y:St) (H:Hp) (x:V) (v:Value) (Q:Bool->Hp->Prop),Z0 X O Y H s->RelV x v->r x H Q ->
  wpAny (model X.prog X.w) X.A (truthy v) (TP X O Y Q) X.xe s
def Ie(r:R2)(b a:TE):TE:=λY H Q=>b Y H λx H1=>a Y H1 λy H2=>r x y H2 Q
def Ig(r:V->Hp->VK->Prop)(a:TE):TE:=λY H Q=>a Y H λx H1=>r x H1 Q
def Ih(C:Int->Int->Prop)(g:Int->Int->V):R2:=λx y H Q=>∃i j,x=.int i/\y=.int j/\C i j/\Q (g i j) H
def Ii(g:Int->Int->V):R2:=λx y H Q=>∃i j,x=.int i/\y=.int j/\Q (g i j) H
def Ij(g:Int->V):V->Hp->VK->Prop:=λx H Q=>∃i,x=.int i/\Q (g i) H
section
variable{a b c:Expr}{tb tc:TE}
def iw(m:PE X a ta)(l:PE X b tb){Y:St}{R:V->V->Hp->Prop}(I:Z0 X O Y H s)
  (h:ta Y H λx H1=>tb Y H1 λy H2=>R x y H2) {Q:Value->Shared->Prop} {f:Value->Value->Sem Value}
  (k:∀v u c x y H2,Z0 X O Y H2 c->RelV x v->RelV y u->R x y H2->wpAny (model X.prog X.w) X.A (f v u) Q X.xe c) :
  wpAny (model X.prog X.w) X.A (eval a X.env) (λv n=>wpAny (model X.prog X.w) X.A (eval b X.env) (λu o=>wpAny (model X.prog X.w) X.A (f v u) Q X.xe o) X.xe n) X.xe s:=by
 refine thn (m O s Y H _ I h) ?_;rintro v d ⟨x,H1,q,g,j⟩;refine thn (l O d Y H1 _ q j) ?_;rintro u c ⟨y,H2,p,e,i⟩;exact k v u c x y H2 p g e i
def ac6{op:Operator}{r:R2}(f:OpR X (binaryOp op) r)(i:PE X a ta)(g:PE X b tb):PE X (.BinOp a op b pos) (Ie r ta tb):=by
 intro O s Y H Q I h;exact wpAny_BinOp (iw i g I h λv u c x y H2 j e d q=>f O c Y H2 x y v u Q j e d q)
def adI{op:UnaryOp}{r:V->Hp->VK->Prop}(e:UnR X (unaryOp op) r)(f:PE X a ta):PE X (.UnaryOp op a pos) (Ig r ta):=by
 intro O s Y H Q I h;exact UnaryOp_ (thn (f O s Y H _ I h) λv b ⟨x,H1,g,c,d⟩=>e O b Y H1 x v Q g c d)
def opI{C:Int->Int->Prop}{g:Int->Int->Int}
  (a:∀(i j:Int) (t u:Tok) (s:Shared) (Q:Value->Shared->Prop) (E:Value->Shared->Prop),C i j->Q (.int (g i j) s.toks) {s with toks:=s.toks+1}->wpAny (model X.prog X.w) X.A (f (.int i t) (.int j u)) Q E s) :
  OpR X f (Ih C λi j=>.int (g i j)):=by
 intro O s Y H x y v u Q I c b h;let⟨i,j,rfl,rfl,d,q⟩:=h;let⟨t,rfl⟩:=c;let⟨t',rfl⟩:=b;exact a i j t t' s _ _ d ⟨.int (g i j),H,I.tok _,⟨_,rfl⟩,q⟩
def oi{g:Int->Int->Int}
  (a:∀(i j:Int) (t u:Tok) (s:Shared) (Q:Value->Shared->Prop) (E:Value->Shared->Prop),Q (.int (g i j) s.toks) {s with toks:=s.toks+1}->wpAny (model X.prog X.w) X.A (f (.int i t) (.int j u)) Q E s) :
  OpR X f (Ii λi j=>.int (g i j)):=by
 intro O s Y H x y v u Q I c b h;let⟨i,j,rfl,rfl,q⟩:=h;let⟨t,rfl⟩:=c;let⟨t',rfl⟩:=b;exact a i j t t' s _ _ ⟨.int (g i j),H,I.tok _,⟨_,rfl⟩,q⟩
def fb{g:Int->Int->Bool}
  (a:∀(i j:Int) (t u:Tok) (s:Shared) (Q:Value->Shared->Prop) (E:Value->Shared->Prop),Q (.bool (g i j)) s->wpAny (model X.prog X.w) X.A (f (.int i t) (.int j u)) Q E s) :
  OpR X f (Ii λi j=>.bl (g i j)):=by
 intro O s Y H x y v u Q I c b h;let⟨i,j,rfl,rfl,q⟩:=h;let⟨t,rfl⟩:=c;let⟨t',rfl⟩:=b;exact a i j t t' s _ _ ⟨.bl (g i j),H,I,rfl,q⟩
def CPow(i j:Int):Prop:=0<=j/\j<=1000000/\i.natAbs<2 ^ 64
def CMul(i j:Int):Prop:=(-(2 ^ 64)<i/\i<2 ^ 64)\/(-(2 ^ 64)<j/\j<2 ^ 64)
def CMul.ok{i j:Int}(h:CMul i j):IntMulOk i j:=by
 rcases h with⟨h1,h2⟩|⟨h1,h2⟩
 .exact .of_left (intBits_le_64 h1 h2)
 .exact .of_right (intBits_le_64 h1 h2)
def gW:OpR X (binaryOp .Add) (Ii λi j=>.int (i+j)):=oi λ_ _ _ _ _ _ _ q=>add_int q
def hY:OpR X (binaryOp .Sub) (Ii λi j=>.int (i-j)):=oi λ_ _ _ _ _ _ _ q=>sub_int q
def vI:OpR X (binaryOp .Mod) (Ih (λ_ j=>j≠0) λi j=>.int (i.fmod j)):=opI λ_ _ _ _ _ _ _ a q=>mod_int' a q
def y0:OpR X (binaryOp .Pow) (Ih CPow λi j=>.int (i ^ j.toNat)):=opI λ_ _ _ _ _ _ _ a q=>pow_int_small a.1 a.2.1 a.2.2 q
def unI{f:Value->Sem Value}{g:Int->Int}
  (a:∀(i:Int) (t:Tok) (s:Shared) (Q:Value->Shared->Prop) (E:Value->Shared->Prop),Q (.int (g i) s.toks) {s with toks:=s.toks+1}->wpAny (model X.prog X.w) X.A (f (.int i t)) Q E s) :
  UnR X f (Ij λi=>.int (g i)):=by
 intro O s Y H x v Q I b h;let⟨i,rfl,q⟩:=h;let⟨t,rfl⟩:=b;exact a i t s _ _ ⟨.int (g i),H,I.tok _,⟨_,rfl⟩,q⟩
def zl:UnR X (unaryOp .USub) (Ij λi=>.int (-i)):=unI λ_ _ _ _ _ q=>neg_int q
end
def Ik:V->V->Bool
 |.ZK,.ZK=>true|.ZK,.int _=>true|.int _,.ZK=>true|.ZK,.bl _=>true|.bl _,.ZK=>true|.ZK,.str _=>true|.str _,.ZK=>true
 |.int _,.int _=>true|.bl _,.bl _=>true|.str _,.str _=>true|.XD _,.XD _=>true
 |.int _,.str _=>true|.str _,.int _=>true|.bl _,.str _=>true|.str _,.bl _=>true
 |_,_=>false
def rNe:R2:=λx y H Q=>Ik x y=true/\Q (.bl (!decide (x=y))) H
def lI{i j:Int}:decide (V.int i=V.int j)=(i==j):=by
 rw[Qa];simp
def mL{i j:Bool}:decide (V.bl i=V.bl j)=(i==j):=by
 rw[Qa];simp
def kX{i j:Str}:decide (V.str i=V.str j)=(i==j):=by
 rw[Qa];simp
def vL{i j:Array UInt8}:decide (V.XD i=V.XD j)=(i.toList==j.toList):=by
 rw[Qa];cases i;cases j;simp
section
variable{a b c:Expr}{tb tc:TE}
def au{Y:St}{Q:VK}{k a:Bool}(I:Z0 X O Y H s)(q:Q (.bl k) H)(e:k=a):EP X O Y Q (.bool a) s:=by
 subst e;exact⟨.bl k,H,I,rfl,q⟩
def acV:OpR X (compareOp .NotEq) rNe:=by
 intro O s Y H x y v u Q I c a h;let⟨hs,q⟩:=h;cases x with
 |ZK=>
  cases c;cases y with
  |ZK=>cases a;exact PySem.EqNone.ne_none_none (au I q #[3])
  |bl j=>cases a;exact PySem.EqNone.ne_none_bool (au I q #[3])
  |int j=>let⟨t',rfl⟩:=a;exact PySem.EqNone.ne_none_int (au I q #[3])
  |str j=>let⟨t',rfl⟩:=a;exact PySem.EqNone.ne_none_str (au I q #[3])
  |_=>exact absurd (show false=true from hs) G7
 |bl i=>
  cases c;cases y with
  |ZK=>cases a;exact PySem.EqNone.ne_bool_none (au I q #[3])
  |bl j=>cases a;exact ne_bool (au I q (SO not mL))
  |str j=>let⟨t',rfl⟩:=a;exact PySem.EqMixed.ne_bool_str (au I q #[3])
  |_=>exact absurd (show false=true from hs) G7
 |int i=>
  let⟨t,rfl⟩:=c;cases y with
  |ZK=>cases a;exact PySem.EqNone.ne_int_none (au I q #[3])
  |int j=>let⟨t',rfl⟩:=a;exact ne_int (au I q (SO not lI))
  |str j=>let⟨t',rfl⟩:=a;exact PySem.EqMixed.ne_int_str (au I q #[3])
  |_=>exact absurd (show false=true from hs) G7
 |str i=>
  let⟨t,rfl⟩:=c;cases y with
  |ZK=>cases a;exact PySem.EqNone.ne_str_none (au I q #[3])
  |bl j=>cases a;exact PySem.EqMixed.ne_str_bool (au I q #[3])
  |int j=>let⟨t',rfl⟩:=a;exact PySem.EqMixed.ne_str_int (au I q #[3])
  |str j=>let⟨t',rfl⟩:=a;exact ne_str (au I q (SO not kX))
  |_=>exact absurd (show false=true from hs) G7
 |XD i=>
  let⟨t,rfl⟩:=c;cases y with
  |XD j=>let⟨t',rfl⟩:=a;exact PySem.W.ne_bytes (au I q (SO not vL))
  |_=>exact absurd (show false=true from hs) G7
 |_=>cases y<;>exact absurd (show false=true from hs) G7
def ab1:OpR X (compareOp .Lt) (Ii λi j=>.bl (decide (i<j))):=fb λ_ _ _ _ _ _ _ q=>lt_int q
def acm:OpR X (compareOp .LtE) (Ii λi j=>.bl (decide (i<=j))):=fb λ_ _ _ _ _ _ _ q=>le_int q
def acI:OpR X (compareOp .Gt) (Ii λi j=>.bl (decide (j<i))):=fb λ_ _ _ _ _ _ _ q=>gt_int q
def acj:OpR X (compareOp .GtE) (Ii λi j=>.bl (decide (j<=i))):=fb λ_ _ _ _ _ _ _ q=>ge_int q
def yX:OpR X (compareOp .Is) (λx y H Q=>y=.ZK/\Q (.bl (decide (x=.ZK))) H):=by
 intro O s Y H x y v u Q I a b h;let⟨rfl,q⟩:=h;cases b;refine is_none_gen (au I q ?_);cases x<;>first
  |(cases a;rfl)
  |(let⟨t,rfl⟩:=a;rfl)
def vS:OpR X (compareOp .IsNot) (λx y H Q=>y=.ZK/\Q (.bl (!decide (x=.ZK))) H):=by
 intro O s Y H x y v u Q I a b h;let⟨rfl,q⟩:=h;cases b;refine isnot_none_gen (au I q ?_);cases x<;>first
  |(cases a;rfl)
  |(let⟨t,rfl⟩:=a;rfl)
def wg{op:CmpOp}{r:R2}(f:OpR X (compareOp op) r)(j:PE X a ta)(i:PE X b tb)(g:behindInMarks op b=false):PE X (.Compare a [op] [b] pos) (Ie r ta tb):=by
 intro O s Y H Q I h;exact wpAny_Compare1 (iw j i I h λv u c x y H2 k e d q=>f O c Y H2 x y v u Q k e d q) g
def FD(t:TE):TT:=λY H Q=>t Y H λx H'=>∃k,x=.bl k/\Q k H'
def uQ{op:CmpOp}{r:R2}(o:OpR X (compareOp op) r)(t:PE X a ta)(q:PE X b tb)(p:behindInMarks op b=false):PT X (.Compare a [op] [b] pos) (FD (Ie r ta tb)):=by
 intro O s Y H Q I h;refine wpAny_isTrue_Compare1 (thn (t O s Y H _ I h) λv f ⟨x,H1,B,j,n⟩=>thn (q O f Y H1 _ B n) λu d ⟨y,H2,A,i,m⟩ =>
  thn (o O d Y H2 x y v u _ A j i m) λc s3 ⟨z,H3,w,g,k,e,l⟩=>?_) p
 subst e;cases g;exact T1 ⟨H3,w,l⟩
def DG(r e:R2)(d c b:TE):TE:=λY H Q=>d Y H λx H1=>c Y H1 λy H2=>r x y H2 λz H3=>∃k,z=.bl k /\
 (if k=true then b Y H3 λa f=>e y a f Q else Q (.bl false) H3)
def sQ{op f:CmpOp}{r i:R2}(D:OpR X (compareOp op) r)(K:OpR X (compareOp f) i)(J:PE X a ta)(G:PE X b tb)(F:PE X c tc)
  (E:lastMarks [op,f] [b,c]=false:=by with_unfolding_all rfl):PE X (.Compare a [op,f] [b,c] pos) (DG r i ta tb tc):=by
 intro O s Y H Q I h;refine Compare_chain (thn (J O s Y H _ I h) λv p ⟨x,H1,N,w,C⟩=>chain_link (thn (G O p Y H1 _ N C) λu o ⟨y,H2,M,g,B⟩ =>
  thn (D O o Y H2 x y v u _ M w g B) λd s3 ⟨z,H3,l,t,k,e,j⟩=>?_)) E
 subst e;cases t;refine T1 ?_;cases k with
 |false=>exact ite_ff ⟨.bl false,H3,l,rfl,j⟩
 |true=>exact ite_tt (chain_last (thn (F O s3 Y H3 _ l j) λn s4 ⟨m,P,L,q,A⟩=>K O s4 Y P y m u n Q L g q A))
def sL{op f:CmpOp}{r i:R2}(G:OpR X (compareOp op) r)(P:OpR X (compareOp f) i)(M:PE X a ta)(L:PE X b tb)(K:PE X c tc)
  (J:lastMarks [op,f] [b,c]=false:=by with_unfolding_all rfl):PT X (.Compare a [op,f] [b,c] pos) (FD (DG r i ta tb tc)):=by
 intro O s Y H Q I h;refine isTrue_chain (thn (M O s Y H _ I h) λv p ⟨x,H1,U,A,E⟩=>test_link (thn (L O p Y H1 _ U E) λu o ⟨y,H2,T,g,D⟩ =>
  thn (G O o Y H2 x y v u _ T A g D) λd s3 ⟨z,H3,l,w,k,e,j⟩=>?_)) J
 subst e;cases w;refine T1 ?_;cases k with
 |false=>
  let⟨k',e',F⟩:=j;cases e';exact ite_ff ⟨H3,l,F⟩
 |true=>
  refine ite_tt (test_last (thn (K O s3 Y H3 _ l j) λn s4 ⟨m,W,S,t,C⟩=>thn (P O s4 Y W y m u n _ S g t C) ?_));rintro d' s5 ⟨Z,V,R,q,k2,N,B⟩;subst N;cases q;exact T1 ⟨V,R,B⟩
def Dq(K:Hf)(x:V)(H:Hp)(k:Bool):Prop:=
 match x with
 |.ZK=>k=false
 |.bl b=>k=b
 |.int i=>k=(i != 0)
 |.str y=>y.length<=sizeLine/\k=((y.length:Int) != 0)
 |.XD y=>y.size<=sizeLine/\k=((y.size:Int) != 0)
 |.ref p=>(∃xs,SqL K H p xs/\k = !xs.isEmpty)\/(∃xs,SqT K H p xs/\k = !xs.isEmpty) \/∃Z4,H p=some (.dK Z4)/\k = !Z4.isEmpty
 |_=>False
def qh{a:Type}{b:List (a×V)}{vs:List (a×Value)}(r:KV b vs):(!vs.isEmpty) = !b.isEmpty:=by
 cases r<;>rfl
def iO{xs:List V}(r:ZG xs ZU):(!ZU.toArray.isEmpty) = !xs.isEmpty:=by
 cases r<;>simp
def cQ:(sizeLine:Nat)<2 ^ 63:=by rw[U9];decide
def mR:TruR X (λx H Q=>∃k,Dq X.K x H k/\Q k H):=by
 intro O s Y H x v Q I a h;let⟨k,e,q⟩:=h;have hl:=cQ;have hs:sizeLine=16777216:=U9;cases x with
 |ZK=>
  cases a;have e':k=false:=e;subst e';exact truthy_none ⟨H,I,q⟩
 |bl b=>
  cases a;have e':k=b:=e;subst e';exact T1 ⟨H,I,q⟩
 |int i=>
  let⟨t,rfl⟩:=a;have e':k=(i != 0):=e;subst e';exact PySem.P.truthy_int ⟨H,I,q⟩
 |str y=>
  let⟨t,rfl⟩:=a;obtain⟨f,e'⟩:y.length<=sizeLine/\k=((y.length:Int) != 0):=e;subst e';exact PySem.P.truthy_str (by lia) ⟨H,I.tok _,q⟩
 |XD y=>
  let⟨t,rfl⟩:=a;obtain⟨f,e'⟩:y.size<=sizeLine/\k=((y.size:Int) != 0):=e;subst e';exact PySem.W.truthy_bytes (by lia) ⟨H,I.tok _,q⟩
 |ref p=>
  cases a;have e':(∃xs,SqL X.K H p xs/\k = !xs.isEmpty)\/(∃xs,SqT X.K H p xs/\k = !xs.isEmpty) \/∃Z4,H p=some (.dK Z4)/\k = !Z4.isEmpty:=e;rcases e' with⟨xs,c,e'⟩|⟨xs,c,e'⟩|⟨Z4,c,e'⟩
  .subst e'
   let⟨ZU,r,pl,d⟩:=I.list c;have hlen:=r.length;exact wpAny_truthy_list pl.isList (by simp![XA];lia) ⟨H,I.tok _,by rw[iO r];exact q⟩
  .subst e'
   let⟨ZU,r,pl,d⟩:=I.tuple c;have hlen:=r.length;exact truthy_tuple pl (by simp![XA];omega) ⟨H,I.tok _,by rw[iO r];exact q⟩
  .subst e'
   obtain⟨d,g,vs,r,m⟩:Z4.length<=sizeLine/\(p==sysModules)=false /\∃vs,KV Z4 vs/\s.heap.DictOf (AJ X.prog X.w) p vs:=I.ZJ p _ c;have hlen:Z4.length=vs.length:=Qx r;exact wpAny_truthy_dict g m (by lia) ⟨H,I.tok _,by rw[qh r];exact q⟩
 |_=>exact(show False from e).elim
def ui(ha:PE X a ta)(he:∀whole,isTrue a X.env whole=(do let v<-whole;standAt a.pos;holding [v] (truthy v))):
  PT X a (λY H Q=>ta Y H λx H'=>∃k,Dq X.K x H' k/\Q k H'):=by
 intro O s Y H Q I h;exact isTrue_plain (thn (ha O s Y H _ I h) λv s1 ⟨x,H1,I1,r1,q1⟩=>mR O s1 Y H1 x v Q I1 r1 q1) (he _)
def vals1{x:V}{S:List Value}(r:ZG [x] S):∃u,S=[u]/\RelV x u:=by
 cases r with
 |cons b a=>cases a;exact⟨_,rfl,b⟩
def vals2{x y:V}{S:List Value}(r:ZG [x,y] S):∃u a,S=[u,a]/\RelV x u/\RelV y a:=by
 cases r with
 |cons e d=>
  cases d with
  |cons c b=>cases b;exact⟨_,_,rfl,e,c⟩
def call_abs:CallR X (.builtin "abs") (λxs H Q=>∃i,xs=[.int i]/\Q (.int (if i<0 then -i else i)) H):=by
 intro O s Y H xs S Q I r h;let⟨i,rfl,q⟩:=h;let⟨u,rfl,t,rfl⟩:=vals1 r;exact call_abs_int λu tk=>⟨.int (if i<0 then -i else i),H,I.tok _,⟨_,rfl⟩,q⟩
def sj(b:X.calm=true):CallR X (.builtin "max") (λxs H Q=>∃i j,xs=[.int i,.int j]/\Q (.int (if j > i then j else i)) H):=by
 intro O s Y H xs S Q I r h;let⟨i,j,rfl,q⟩:=h;let⟨u,c,rfl,⟨t,rfl⟩,⟨t',rfl⟩⟩:=vals2 r;refine max_two_ints (I.ok.hd b) λh' tk k=>⟨_,H,I.kept k,?_,q⟩;by_cases a:j > i
 .rw [Yn a,Yn a];exact⟨_,rfl⟩
 .rw [Yb a,Yb a];exact⟨_,rfl⟩
def rX(b:X.calm=true):CallR X (.builtin "min") (λxs H Q=>∃i j,xs=[.int i,.int j]/\Q (.int (if j<i then j else i)) H):=by
 intro O s Y H xs S Q I r h;let⟨i,j,rfl,q⟩:=h;let⟨u,c,rfl,⟨t,rfl⟩,⟨t',rfl⟩⟩:=vals2 r;refine min_two_ints (I.ok.hd b) λh' tk k=>⟨_,H,I.kept k,?_,q⟩;by_cases a:j<i
 .rw [Yn a,Yn a];exact⟨_,rfl⟩
 .rw [Yb a,Yb a];exact⟨_,rfl⟩
end
end L2
namespace L2
open PySem PySem.Spec PyProof.Rows
structure VT(h:Heap)(x dx C:Addr)(mA:Str->Option Value):Prop where
 obj:h.get? x=some (PySem.W.instObj C dx)
 ns:h.Ns1 dx mA
 ne:dx≠x
def rE{d:Addr}{c:Str->Option Value}(n:h.Ns1 d c):∃b,h.get? d=some b /\∀name,PySem.W.lookIn name b=some (c name):=by
 let⟨o,es,ep,ho,i,hk,_,g⟩:=n;refine⟨o,ho,λname=>?_⟩;have e:=g name;unfold nsFind findBy at e;rw[<-Array.find?_toList]at e;unfold PySem.W.lookIn;rw[i];dsimp only;split
 .rename_i y q
  rw[q]at e;exact SO some e
 .rename_i q
  rw[q]at e;have a:es.toList.any (·.refKey)=false:=by
   rw[List.any_eq_false];intro y f;let⟨z,t,j⟩:=hk y (Si.mp f);simp[DictEntry.refKey,j]
  have a' : ¬ es.toList.any (·.refKey)=true:=by rw[a];exact G7
  rw[Yb a'];exact SO some e
def VT.look{x c C:Addr}{b:Str->Option Value}(I:VT h x c C b):∃a,PySem.W.InstAt h x (PySem.W.instObj C c) C (some a) /\∀name,PySem.W.lookIn name a=some (b name):=
 let⟨a,ho,d⟩:=rE I.ns
 ⟨a,⟨I.obj,rfl,rfl,ho⟩,d⟩
section
variable{E:Value->Shared->Prop}{x dx C f:Addr}{mA:Str->Option Value}{name:Str}{v:Value}
def get_map{a:Bool}(X:K.In s.heap)(I:VT s.heap x dx C mA)(f:PySem.W.plainGet K C name=true)(e:PySem.W.hasDictIn K C=true)
  (g:PySem.W.findIn K (.ref C) name=some none) (c:mA name=some v) (b:PySem.W.handedIn v=true) (h:Q v {s with toks:=s.toks+1}) :
  wpAny (model prog w) A (getAttr (.ref x) name a) Q E s:=by
 let⟨j,i,d⟩:=I.look;exact PySem.W.get_value X i (Pq f).1 (PySem.W.findObj_own e g rfl (by rw[d,c])) b h
def sM{Q:Value×List Value->Shared->Prop}(X:K.In s.heap)(I:VT s.heap x dx C mA)(a:PySem.W.plainGet K C name=true)
  (g:PySem.W.findIn K (.ref C) name=some (some (.ref f))) (d:PySem.W.isFn K (.ref f)=true) (c:mA name=none) (h:Q (.ref f,[.ref x]) s) :
  wpAny (model prog w) A (getMethod (.ref x) name pl) Q E s:=by
 let⟨b,i,e⟩:=I.look;exact PySem.W.method_fn X i (Pq a).1 (Pq a).2 g (Ul.mp d) (by show(PySem.W.lookIn name b).map (·.isSome)=some false;rw[e,c];rfl) h
def uY{ns:List Str}{Q:Unit->Shared->Prop}(X:K.In s.heap)(I:VT s.heap x dx C mA)
  (z:PySem.W.findIn K (.ref C) "__setattr__" = some (some (.builtin "object.__setattr__"))) (B:PySem.W.plainOver K C=true) (u:PySem.W.takerIn K C name=some none) (D:PySem.W.hasDictIn K C=true)
  (t:PySem.Within mA ns) (hsz:ns.length<=sizeLine)
  (h:∀h',VT h' x dx C (λy=>if y=name then some v else mA y)->Heap.SameBut dx s.heap h'->Q Unit.unit {s with heap:=h',toks:=s.toks+2}) :
  wpAny (model prog w) A (setAttr (.ref x) name v) Q E s:=by
 let⟨L,j,N⟩:=I.look;refine PySem.W.set_plain X j z (PySem.W.osa_open (s:={s with toks:=s.toks+1}) (r:=none) X j B u λb=>?_)
 let⟨O,F,J⟩:=PySem.W.any_some D;have o:s.heap.get? x=some ⟨.ref C,some dx,.plain,#[]⟩:=I.obj;refine ZB (ZP (ZB (ZB (wpAny_loadPart o (ZB (PySem.W.Looks.here (s:={s with toks:=s.toks+1}) (PySem.W.looks_clsIn X F) ?_))))))
 rw[J];refine ZP (a:=some dx) (ZB (ZP (ZB ?_)));refine wpAny_nsSet1 (s:={s with toks:=s.toks+1}) I.ns λh' k g=>?_
 let⟨M,G,H,c,d,f⟩:=k.count (PySem.Within.cons name v t);refine ZB (wpAny_lookBehind c (by rw[d];exact pastItsLine_dict (G6 f (by rw[Xb];lia))) ?_)
 exact ZP (h _ ⟨(g.2 _ (Ne.symm I.ne)).trans I.obj,k,I.ne⟩ g)
def tu{R:Result->Shared->Prop}{vs:List Value}(X:K.In s.heap)(a:PySem.W.makesIn K C=true)
  (hi:PySem.W.findIn K (.ref C) "__init__" = some (some (.ref f))) (b:PySem.W.typeIn K (.ref f)=some (.type "function"))
  (h:codeAny (model prog w) (A.under (.builtin "type.__call__" ⟨.ref C::vs,kw⟩)) (.call (.ref f) ⟨.ref (s.heap.objs.size+1)::vs,kw⟩) (PySem.W.InitBack (s.heap.objs.size+1) R)
   {s with heap:=(s.heap.push PySem.W.emptyDict).push (PySem.W.instObj C s.heap.objs.size)}) :
  codeAny (model prog w) A (.call (.ref C) ⟨vs,kw⟩) R s:=by
 let⟨c,g,d,t,os⟩:=s;exact PySem.W.make_core (PySem.W.makes_of X a) (PySem.W.looks_findIn X hi) (λself=>PySem.W.bind_fn X self b) (.inl rfl) h
end
def AG(f:Str)(v:V):List (Str×V)->List (Str×V)
 |[]=>[(f,v)]
 |(g,x)::r=>if g=f then(g,v)::r else(g,x)::AG f v r
def iH(f g:Str)(v:V):∀fs:List (Str×V),(AG f v fs).lookup g=if g=f then some v else fs.lookup g
 |[]=>by
  show List.lookup g [(f,v)]=_;by_cases h:g=f
  .have a:(g==f)=true:=Ul.mpr h
   simp![List.lookup,a,Yn h]
  .have a:(g==f)=false:=Rg.mpr h
   simp![List.lookup,a,Yb h]
 |(k,x)::r=>by
  have ih:=iH f g v r;rw[show AG f v ((k,x)::r)=(if k=f then(k,v)::r else(k,x)::AG f v r)from rfl]
  by_cases hk:k=f
  .rw [Yn hk]
   by_cases h:g=k
   .have a:(g==k)=true:=Ul.mpr h
    simp![List.lookup,a,Yn (h.trans hk)]
   .have a:(g==k)=false:=Rg.mpr h
    simp![List.lookup,a,Yb (λe:g=f=>h (e.trans hk.symm))]
  .rw [Yb hk]
   by_cases h:g=k
   .have a:(g==k)=true:=Ul.mpr h
    simp![List.lookup,a,Yb (λe:g=f=>hk (h.symm.trans e))]
   .have a:(g==k)=false:=Rg.mpr h
    simp![List.lookup,a];exact ih
def fK(f:Str)(v:V):∀fs:List (Str×V),f∈(AG f v fs).map (·.1) /\∀g,g∈fs.map (·.1)->g∈(AG f v fs).map (·.1)
 |[]=>⟨by simp[AG],λg h=>by simp at h⟩
 |(k,x)::r=>by
  let⟨b,a⟩:=fK f v r;rw[show AG f v ((k,x)::r)=(if k=f then(k,v)::r else(k,x)::AG f v r)from rfl]
  by_cases hk:k=f
  .rw [Yn hk]
   subst hk;exact⟨by simp,λg h=>by simpa using h⟩
  .rw [Yb hk]
   refine⟨?_,λg h=>?_⟩
   .rw [Y2]
    exact G9 _ b
   .rw [Y2]at h ⊢
    rcases Xq.mp h with e|e
    .exact Xq.mpr (.inl e)
    .exact G9 _ (a g e)
def iE(f:Str)(v:V):∀fs:List (Str×V),(AG f v fs).length<=fs.length+1
 |[]=>by simp[AG]
 |(k,x)::r=>by
  have ih:=iE f v r;rw[show AG f v ((k,x)::r)=(if k=f then(k,v)::r else(k,x)::AG f v r)from rfl]
  by_cases hk:k=f
  .rw [Yn hk,Xb,Xb];lia
  .rw [Yb hk,Xb,Xb];lia
def RelO.some_of{o:Option Value}(r:RelO (some v) o):∃u,o=some u/\RelV v u:=by
 cases o with
 |none=>exact(show False from r).elim
 |some u=>exact⟨u,rfl,r⟩
def RelO.none_of{o:Option Value}(r:RelO none o):o=none:=by
 cases o with
 |none=>rfl
 |some u=>exact(show False from r).elim
def r8{u:Value}(r:RelV v u):PySem.W.handedIn u=true:=by
 cases v with
 |ZK=>cases(show u=Value.none from r);rfl
 |bl b=>cases(show u=Value.bool b from r);rfl
 |int i=>let⟨t,e⟩:=(show∃t,u=Value.int i t from r);cases e;rfl
 |str x=>let⟨t,e⟩:=(show∃t,u=Value.str x t from r);cases e;rfl
 |XD b=>let⟨t,e⟩:=(show∃t,u=Value.bytes b t from r);cases e;rfl
 |Vo b=>let⟨t,e⟩:=(show∃t,u=Value.float b t from r);cases e;rfl
 |ref a=>cases(show u=Value.ref a from r);rfl
 |ty n=>cases(show u=Value.type n from r);rfl
section
variable{P:Program}{C dx:Addr}{fs fs':List (Str×V)}
def gD(c:HOk P w H h)(e:H a=some (.ins C dx fs)):∃mA,VT h a dx C mA/\(∀f,RelO (fs.lookup f) (mA f))/\PySem.Within mA (fs.map (·.1))/\fs.length<=1000/\H dx=some (.own a):=by
 let⟨d,z,b,ob,mA,n,r,q⟩:=(show ObjOk P w H h a (.ins C dx fs)from c a _ e);exact⟨mA,⟨ob,n,b⟩,r,q,z,d⟩
end
structure Yh(K:Hf)(C:Addr):Prop where
 pg:PySem.W.plainGet K C Str.empty=true
 hd:PySem.W.hasDictIn K C=true
 po:PySem.W.plainOver K C=true
 sa:PySem.W.findIn K (.ref C) "__setattr__" = some (some (.builtin "object.__setattr__"))
def Yh.get{C:Addr}(c:Yh K C)(f:Str):PySem.W.plainGet K C f=true:=c.pg
def NoAttr(K:Hf)(C:Addr)(f:Str):Prop:=PySem.W.findIn K (.ref C) f=some none
def NoAttr.Sm{C:Addr}{f:Str}(n:NoAttr K C f):PySem.W.takerIn K C f=some none:=by
 unfold PySem.W.takerIn;rw[show PySem.W.findIn K (.ref C) f=some none from n]
 rfl
structure Con(K:Hf)(C:Addr)(f:Str)(v:V)(u:Value):Prop where
 at_:PySem.W.findIn K (.ref C) f=some (some u)
 rel:RelV v u
 get:PySem.W.specialIn K u "__get__" = some none
 cp:PySem.W.copiedNames.contains f=false
structure UM(K:Hf)(C:Addr)(m:Str)(f:Addr):Prop where
 at_:PySem.W.findIn K (.ref C) m=some (some (.ref f))
 fn:PySem.W.isFn K (.ref f)=true
 kp:PySem.W.keepIn K (.ref f)=true
section
variable{Y:St}{C dx:Addr}{fs:List (Str×V)}{f:Str}{E:Value->Shared->Prop}
def pO(I:Z0 X O Y H s)(e:H a=some (.ins C dx fs))(c:Yh X.K C)(n:NoAttr X.K C f)(l:fs.lookup f=some v)
  (h:∀u s',Z0 X O Y H s'->RelV v u->Q u s'):wpAny (model X.prog X.w) A (getAttr (.ref a) f b) Q E s:=by
 let⟨mA,Z9,r,_,_,_⟩:=gD I.ZJ e;let⟨u,g,d⟩:=RelO.some_of (v:=v) (o:=mA f) (by rw[<-l];exact r f)
 exact get_map I.Ys Z9 (c.get f) c.hd n g (r8 d) (h u _ (I.tok _) d)
def pI{m:Str}{g:Addr}{Q:Value×List Value->Shared->Prop}(I:Z0 X O Y H s)(e:H a=some (.ins C dx fs))(c:Yh X.K C)(k:UM X.K C m g)(l:fs.lookup m=none)
  (h:Q (.ref g,[.ref a]) s):wpAny (model X.prog X.w) A (getMethod (.ref a) m pl) Q E s:=by
 let⟨mA,Z9,r,_,_,_⟩:=gD I.ZJ e;have b:mA m=none:=RelO.none_of (by rw[<-l];exact r m)
 exact sM I.Ys Z9 (c.get m) k.at_ k.fn b h
def pQ{y:V}{u:Value}{Q:Unit->Shared->Prop}(I:Z0 X O Y H s)(e:H a=some (.ins C dx fs))(c:Yh X.K C)(n:NoAttr X.K C f)(p:fs.length<1000)(j:RelV y u)
  (h:∀s',Z0 X O Y (upd H a (.ins C dx (AG f y fs))) s'->Q Unit.unit s'):wpAny (model X.prog X.w) A (setAttr (.ref a) f u) Q E s:=by
 let⟨mA,Z9,r,i,_,ho⟩:=gD I.ZJ e;have k:(fs.map (·.1)).length<=sizeLine:=by rw[Zd,U9];lia
 refine uY I.Ys Z9 c.sa c.po n.Sm c.hd i k λh' d sb=>h _ ?_;have hd:∃o,h'.get? dx=some o:=let⟨o,_,_,e',_⟩:=d.ns;⟨o,e'⟩
 refine I.write (x:=a) (e:=dx) (by rw[e];exact True.intro) (.inr ho) (λb q m z=>(sb.2 b m).trans z) hd ?_
 refine⟨by rw[af Z9.ne];exact ho,?_,Z9.ne,d.obj,_,d.ns,λg=>?_,λg l=>?_⟩
 .have:=iE f y fs;lia
 .show RelO ((AG f y fs).lookup g) (if g=f then some u else mA g)
  rw[iH];by_cases q:g=f
  .rw [Yn q,Yn q];exact j
  .rw [Yb q,Yb q];exact r g
 .by_cases q:g=f
  .rw [q];exact(fK f y fs).1
  .refine (fK f y fs).2 g (i g λz=>l ?_)
   show(if g=f then some u else mA g)=none
   rw[Yb q];exact z
def Z0.made(I:Z0 X O Y H s):Z0 X O Y (upd (upd H s.heap.objs.size (.own (s.heap.objs.size+1))) (s.heap.objs.size+1) (.ins C s.heap.objs.size []))
  {s with heap:=(s.heap.push PySem.W.emptyDict).push (PySem.W.instObj C s.heap.objs.size)}:=by
 have d:(s.heap.push PySem.W.emptyDict).get? s.heap.objs.size=some PySem.W.emptyDict:=Hc s.heap rfl;have k:((s.heap.push PySem.W.emptyDict).push (PySem.W.instObj C s.heap.objs.size)).get? (s.heap.objs.size+1)=some (PySem.W.instObj C s.heap.objs.size):=by
  have:=Hc (s.heap.push PySem.W.emptyDict) (o:=PySem.W.instObj C s.heap.objs.size) rfl;rwa[RL]at this
 have j:(s.heap.push PySem.W.emptyDict).Ns s.heap.objs.size (λ_=>none):=⟨PySem.W.emptyDict,#[],_,d,rfl,(λe g=>absurd g #[3]),λ_=>rfl⟩
 have r:=I.laid (a:=s.heap.objs.size) (o:=.own (s.heap.objs.size+1)) (h':=s.heap.push PySem.W.emptyDict) (t':=s.toks) (λb u q=>G4 _ q) (G8 _) ⟨_,d⟩;refine r.laid (a:=s.heap.objs.size+1) (o:=.ins C s.heap.objs.size []) (t':=s.toks) (λb u q=>G4 _ q) (OH (RL _ _)) ?_;have c:s.heap.objs.size≠s.heap.objs.size+1:=Hb (Rj _);refine⟨by rw[af c,upd_same],RN _,c,k,λ_=>none,(Heap.Ns1.of_empty j).at λo q=>G4 _ q,λ_=>True.intro,λy f=>absurd rfl f⟩
def w5{f:Str}(a:attributeBase e f env (eval e env)=eval e env)
  (h:wpAny (model prog w) A (eval e env) (λo b=>wpAny (model prog w) A (getAttr o f true) Q E b) E s):wpAny (model prog w) A (eval (.Attribute e f pos) env) Q E s:=
 Attribute_any_ h (by rw[arm_eval_Attribute,a])
end
def Il(K:Hf)(b:TE)(f:Str):TE:=λY H Q=>b Y H λx H1=>∃a C dx fs v,x=.ref a/\H1 a=some (.ins C dx fs)/\Yh K C/\NoAttr K C f/\fs.lookup f=some v/\Q v H1
def Im(K:Hf)(c b:TE)(f:Str):TS:=λD Y H=>b Y H λy H1=>c Y H1 λx H2=>∃a C dx fs,x=.ref a/\H2 a=some (.ins C dx fs)/\Yh K C/\NoAttr K C f/\fs.length<1000 /\
 D.nx Y (upd H2 a (.ins C dx (AG f y fs)))
section
variable{o value:Expr}{f:Str}{pos' tpos:Pos}{tv:TE}
def aaU(g:PE X e ta)(i:attributeBase e f X.env (eval e X.env)=eval e X.env):PE X (.Attribute e f pos) (Il X.K ta f):=by
 intro O s Y H Q I h;refine w5 i (thn (g O s Y H _ I h) ?_);rintro u r ⟨x,H1,m,b,a,C,dx,fs,v,ex,j,c,n,l,q⟩;subst ex;obtain rfl:u=Value.ref a:=b;exact pO m j c n l λo p k d=>⟨v,H1,k,d,q⟩
def zA(m:PE X o ta)(j:PE X value tv)(k:swapsWith value (some (.Attribute o f pos')) pos.line X.env=pure false):PS X (.Assign [.Attribute o f pos'] value pos) (Im X.K ta tv f):=by
 intro O s Y H D I h;refine plainObj_wpAny_Assign_Attribute (thn (j O s Y H _ I h) λu b ⟨y,H1,v,d,q⟩=>thn (m O b Y H1 _ v q) λi w ⟨x,H2,t,e,a,C,dx,fs,ex,p,c,n,l,g⟩=>?_) k;subst ex;obtain rfl:i=Value.ref a:=e;exact pQ t p c n l d λs3 r=>⟨Y,_,r,g⟩
end
section
variable{Y:St}{E:Value->Shared->Prop}{c:Value}
inductive Xg(K:Hf)(H:Hp):V->Value->Prop where
 |ZK:Xg K H .ZK (.type "NoneType")
 |bl (x:Bool):Xg K H (.bl x) (.type "bool")
 |int (i:Int):Xg K H (.int i) (.type "int")
 |str (x:Str):Xg K H (.str x) (.type "str")
 |Vo (x:UInt64):Xg K H (.Vo x) (.type "float")
 |Z5 {a:Addr} {xs:List V} (e:H a=some (.Z5 xs)):Xg K H (.ref a) (.type "list")
 |Zv {a:Addr} {o:Obj} {xs:List V} (e:H a=some (.Zv o (.Z5 xs))):Xg K H (.ref a) (.type "list")
 |ZW {a:Addr} {xs:List V} (e:H a=some (.ZW xs)):Xg K H (.ref a) (.type "tuple")
 |dK {a:Addr} {Z4:List (Key×V)} (e:H a=some (.dK Z4)):Xg K H (.ref a) (.type "dict")
 |dT {a:Addr} {Z4:List (List Key×V)} (e:H a=some (.dT Z4)):Xg K H (.ref a) (.type "dict")
 |ins {a C dx:Addr} {fs:List (Str×V)} (e:H a=some (.ins C dx fs)) (cl:Yh K C) (ha:PySem.W.findIn K (.ref C) "__class__" = some (some (.builtin "object.__class__")))
   (hn:PySem.W.specialIn K (.builtin "object.__class__") "__get__" = some (some (.builtin "getset_descriptor.__get__"))) (htk:PySem.W.takesIn K (.builtin "object.__class__")=some true)
   (hm:PySem.W.mroIn K C (.type "object")=some true):Xg K H (.ref a) (.ref C)
end
end L2
namespace L2
open PySem PySem.Spec PyProof.Rows
structure Zc(k:Nat)(A:Around):Prop where
 hd:A.handled=none
 dp:A.depth+3*k+5<recursionLimit
 un:A.units+16*k+200<cLine
 gd:A.guards=some []
def Zc.deeper{k:Nat}{A:Around}(r:Zc (k+1) A)(env:Env):Zc k (A.deeper env):=
 ⟨r.hd,by have:=r.dp;show A.depth+1+3*k+5<_;lia,by have:=r.un;show A.units+3+16*k+200<_;lia,r.gd⟩
def pU{C:Addr}{S:List Value}:(A.under (.builtin "type.__call__" ⟨.ref C::S,kw⟩)).depth=A.depth+1:=by
 first|rfl|simp[Around.under,Code.weight,Code.isCreation,Code.isGuard,Code.isCaller,Code.frames,Code.isFrame,guardIds]
def ql{C:Addr}{S:List Value}:(A.under (.builtin "type.__call__" ⟨.ref C::S,kw⟩)).units=A.units+1:=by
 first|rfl|simp[Around.under,Code.cUnits,Code.frames,Code.isFrame]
def Zc.make{k:Nat}(r:Zc (k+1) A)(C:Addr)(S:List Value)(kw:List (Str×Value)):Zc k (A.under (.builtin "type.__call__" ⟨.ref C::S,kw⟩)):=
 ⟨r.hd,by have:=r.dp;rw[pU];lia,by have:=r.un;rw[ql];lia,(show A.guards=_ from r.gd)⟩
def Zc.depth{k:Nat}{A:Around}(r:Zc k A):A.depth<recursionLimit:=by have:=r.dp;lia
def Zc.units{k:Nat}{A:Around}(r:Zc k A):A.units+64<cLine:=by have:=r.un;lia
def Ea:TA:=λ_ H Q=>Q [] H
def FL(b:TE)(a:TA):TA:=λY H Q=>b Y H λx H1=>a Y H1 λxs H2=>Q (x::xs) H2
section
variable{t:TA}
def bX:PA X [] Ea:=λ_ _ _ _ H Q I h=>Calls.spliced_nil ⟨[],H,I,.nil,h⟩
def a6(j:PE X e te)(i:PA X es t)(g:starEach (e::es) X.env=(false,eval e X.env)::starEach es X.env:=by rfl):PA X (e::es) (FL te t):=by
 intro pos O s Y H Q I h;rw[g];show wpAny _ _ (spliced ((false,eval e X.env)::backTo pos (starEach es X.env))) _ _ s;refine Calls.spliced_cons (thn (j O s Y H _ I h) ?_);rintro u a ⟨x,H1,l,c,f⟩;exact thn (i pos O a Y H1 _ l f) λS m ⟨xs,H2,k,b,d⟩=>⟨x::xs,H2,k,.cons c b,d⟩
def Io(t:TA):TE:=λY H Q=>t Y H λxs H1=>xs.length<=sizeLine /\∀p,H1 p=none->Q (.ref p) (upd H1 p (.ZW xs))
def Ip(t:TA):TE:=λY H Q=>t Y H λxs H1=>xs.length<=sizeLine /\∀p,H1 p=none->Q (.ref p) (upd H1 p (.Z5 xs))
def y2{x1}(h:PA X es t):PE X (.Tuple es x1 pos) (Io t):=by
 intro O s Y H Q I d;refine wpAny_Tuple_spliced (thn (h pos O s Y H _ I d) λS a ⟨xs,H1,c,r,z,q⟩=>⟨by rw[<-r.length];exact z,?_⟩)
 have f:H1 a.heap.objs.size=none:=c.ZJ.fresh (G8 _);refine⟨.ref a.heap.objs.size,upd H1 a.heap.objs.size (.ZW xs),c.laid (t':=a.toks) (λb u e=>G4 _ e) (G8 _) ?_,rfl,q _ f⟩;exact⟨z,S,r,⟨_,Hc _ rfl,rfl,_,rfl⟩⟩
def aae(h:PA X es t):PE X (.List es pos) (Ip t):=by
 intro O s Y H Q I d;refine wpAny_List_spliced (thn (h pos O s Y H _ I d) λS a ⟨xs,H1,c,r,z,q⟩=>⟨by rw[<-r.length];exact z,?_⟩)
 have f:H1 a.heap.objs.size=none:=c.ZJ.fresh (G8 _);refine⟨.ref a.heap.objs.size,upd H1 a.heap.objs.size (.Z5 xs),c.laid (t':=a.toks) (λb u e=>G4 _ e) (G8 _) ?_,rfl,q _ f⟩;exact⟨z,S,0,r,Hc _ rfl⟩
end
abbrev Sp:=List V->Hp->VK->XK->Prop
abbrev XS:=List Env->Hp->Shared->XK->Value->Shared->Prop
structure VS(P:Program)(w:World)(K:Hf)(mg:Str->Option Value)(base:Heap)(A:Around)(outer:List Env)(s:Shared)(H:Hp):Prop where
 frames:A.frames=some outer
 mod:Mod K mg base
 bs:∀b o,base.get? b=some o->s.heap.get? b=some o/\H b=none
 WH:base.objs.size<=s.heap.objs.size
 XC:s.heap.FunFrames base outer
 VU:∀b∈frs outer,H b=none
 ZJ:HOk P w H s.heap
 bare:AllBare s.gens
def CE(outer:List Env)(P:Program)(w:World)(H:Hp)(s:Shared)(Q:VK)(u:Value)(a:Shared):Prop:=
 ∃v H',a.os=s.os/\AllBare a.gens/\Un (frs outer) [] H H' s.heap a.heap/\HOk P w H' a.heap/\RelV v u/\Q v H'
def CR(CX:XS)(outer:List Env)(P:Program)(w:World)(H:Hp)(s:Shared)(Q:VK)(E:XK)(r:Result)(a:Shared):Prop:=
 match r with
 |.ok (.ret u)=>CE outer P w H s Q u a
 |.ok _=>False
 |.error e=>CX outer H s E e a
structure YQ(P:Program)(w:World)(K:Hf)(mg:Str->Option Value)(base:Heap)(CX:XS)(k:Nat)(f:Addr)(fd:FuncData)(ps:List Str)(sp:Sp):Prop where
 len:∀vs H Q E,sp vs H Q E->vs.length=ps.length
 run:∀(A:Around) (outer:List Env) (s:Shared) (H:Hp) (args:Args) (S:List Value) (vs:List V) (Q:VK) (E:XK),Zc k A->VS P w K mg base A outer s H->BindsTo s fd args (ps.zip S)->ZG vs S->sp vs H Q E ->
  codeAny (model P w) A (.call (.ref f) args) (CR CX outer P w H s Q E) s
def VS.make{P:Program}{outer:List Env}(e:VS P w K mg base A outer s H)(C:Addr)(S:List Value)(kw:List (Str×Value)):
  VS P w K mg base (A.under (.builtin "type.__call__" ⟨.ref C::S,kw⟩)) outer s H:=⟨by first|exact e.frames|(simpa[Around.under,Code.envs,Code.isFrame,pushEnvs]using e.frames),e.mod,e.bs,e.WH,e.XC,e.VU,e.ZJ,e.bare⟩
section
variable{Y:St}{s':Shared}
def Z0.Tz(I:Z0 X O Y H s):VS X.prog X.w X.K X.mg X.base X.A X.stack s H:=
 ⟨I.ok.frames,I.ok.mod,I.bs,G6 I.ok.WH I.sz,I.stack,I.SU,I.ZJ,I.bare⟩
def Z0.after{Q:VK}{u:Value}(I:Z0 X O Y H s)(h:CE X.stack X.prog X.w H s Q u s'):EP X O Y Q u s':=by
 let⟨v,H',os,a,un,j,r,q⟩:=h;let⟨f,g,d,t,c⟩:=s';obtain rfl:c=s.os:=os;exact⟨v,H',I.call (h':=f) (g':=g) (d':=d) (t':=t) (ch:=[]) un j a (λb z=>absurd z #[3]),r,q⟩
end
def FO(sp:Sp)(a:List V)(E:XK)(t:TA):TE:=λY H Q=>t Y H λvs H1=>sp (vs++a) H1 Q E
def Binds(K:Hf)(fd:FuncData)(a:List Str)(b:List Value):Prop:=
 ∀(s:Shared) (S:List Value),K.In s.heap->(S++b).length=a.length->BindsTo s fd ⟨S,[]⟩ (a.zip (S++b))
def Binds.all(h:∀S:List Value,S.length=ps.length->bindArgs fd ⟨S,[]⟩=pure (ps.zip S)):Binds K fd ps []:=λs S _ a=>by
 rw[TR]at a ⊢;exact .of_eq (h S a)
def AO(CX:XS)(X:Cx)(E:XK):Prop:=∀(O:List (Addr×Obj)) (Y:St) (H:Hp) (s:Shared) (e:Value) (s':Shared),Z0 X O Y H s->CX X.stack H s E e s'->X.xe e s'
section
variable{CX:XS}{k:Nat}{f C:Addr}{sp:Sp}{WX:List V}{ds:List Value}{E:XK}{m:Str}{p:Pos}{o:Expr}{t:TA}
def mD{Y:St}{Q:VK}{S:List Value}(F:YQ X.prog X.w X.K X.mg X.base CX k f fd ps sp)(d:Zc k X.A)(j:Binds X.K fd ps ds)(i:ZG WX ds)(c:AO CX X E)
  (I:Z0 X O Y H s) (r:ZG vs S) (h:sp (vs++WX) H Q E):wpAny (model X.prog X.w) X.A (call (.ref f) S) (EP X O Y Q) X.xe s:=by
 have b:ZG (vs++WX) (S++ds):=r.append i;have g:(S++ds).length=ps.length:=by rw[<-b.length];exact F.len _ _ _ _ h
 refine OF (Rz (F.run X.A X.stack s H ⟨S,[]⟩ (S++ds) (vs++WX) Q E d I.Tz (j s S I.Ys g) b h) λr s' a=>?_);cases r with
 |error e=>exact c O Y H s e s' I a
 |ok fl=>
  cases fl with
  |ret u=>exact I.after a
  |next=>exact False.elim a
  |brk=>exact False.elim a
  |cont=>exact False.elim a
def xa(F:YQ X.prog X.w X.K X.mg X.base CX k f fd ps sp)(c:Zc k X.A)(i:Gl X x)(d:X.mg x=some (.ref f))(g:PySem.W.keepIn X.K (.ref f)=true)(m:Binds X.K fd ps ds)(l:ZG WX ds)(b:AO CX X E)
  (n:PA X (e::es) t) (u:(x==("__debug__" : Str))=false:=by decide) (j:starEach (e::es) X.env=(false,eval e X.env)::starEach es X.env:=by rfl) (o:(backTo pos (starEach es X.env)).any (·.1)=false:=by rfl) :
  PE X (.Call (.Name x p) (e::es) [] pos) (FO sp WX E t):=by
 intro O s Y H Q I h;refine S8 (bV I i d ?_ u);refine PySem.W.callWith_K (h₀:=X.base) I.ok.mod.WI g (thn (n pos O s Y H _ I h) λS v ⟨vs,H1,a,r,q⟩=>⟨a.Ys,?_⟩) j o;exact mD F c m l b a r q
def sR(F:YQ X.prog X.w X.K X.mg X.base CX k f fd ps sp)(b:Zc k X.A)(e:Gl X x)(c:X.mg x=some (.ref f))(d:PySem.W.keepIn X.K (.ref f)=true)(i:Binds X.K fd ps ds)(g:ZG WX ds)(a:AO CX X E)
  (j:(x==("__debug__" : Str))=false:=by decide):PE X (.Call (.Name x p) [] [] pos) (FO sp WX E Ea):=by
 intro O s Y H Q I h;refine S8 (bV I e c ?_ j);exact PySem.W.callWith_K0 I.Ys d (mD (S:=[]) F b i g a I .nil h)
structure Mk(K:Hf)(C f:Addr):Prop where
 makes:PySem.W.makesIn K C=true
 init:PySem.W.findIn K (.ref C) "__init__" = some (some (.ref f))
 fn:PySem.W.isFn K (.ref f)=true
 kp:PySem.W.keepIn K (.ref C)=true
end
def PK(X:Cx)(kws:List Keyword)(t:TA):Prop:=
 ∀(pos:Pos) (O:List (Addr×Obj)) (s:Shared) (Y:St) (H:Hp) (Q:List V->Hp->Prop),Z0 X O Y H s->t Y H Q->wpAny (model X.prog X.w) X.A (evalAll ((backToKw pos (keywordEach kws X.env)).map (·.2))) (AP X O Y Q) X.xe s
section
variable{CX:XS}{k:Nat}{f C:Addr}{ks:List Str}{sp:Sp}{E:XK}{m:Str}{p kpos:Pos}{o:Expr}{t tk:TA}{nm:Option Str}
def aai:PK X [] Ea:=λ_ _ _ _ H Q I h=>wpAny_evalAll_nil ⟨[],H,I,.nil,h⟩
def wZ(ha:PE X e te)(hr:PK X kws t):PK X (⟨nm,e,kpos⟩::kws) (FL te t):=by
 intro pos O s Y H Q I h;show wpAny _ _ (evalAll ((do let v<-eval e X.env;standAt pos;pure v)::(backToKw pos (keywordEach kws X.env)).map (·.2))) _ _ s
 refine wpAny_evalAll_cons (ZB (thn (ha O s Y H _ I h) λu s1 ⟨x,H1,I1,r1,q1⟩=>ZB (S_ (ZP ?_))));exact thn (hr pos O s1 Y H1 _ I1 q1) λS s2 ⟨xs,H2,I2,r2,q2⟩=>⟨x::xs,H2,I2,.cons r1 r2,q2⟩
structure VR(K:Hf)(fd:FuncData)(ps ks:List Str)(g:List Value->List Value->List Value)(gV:List V->List V->List V):Prop where
 to:∀(s:Shared) (S ws:List Value),K.In s.heap->(g S ws).length=ps.length->BindsTo s fd ⟨S,ks.zip ws⟩ (ps.zip (g S ws))
 rel:∀{vs:List V} {S:List Value} {zs:List V} {ws:List Value},ZG vs S->ZG zs ws->ZG (gV vs zs) (g S ws)
def Fw(sp:Sp)(a:List V->List V->List V)(E:XK)(t tk:TA):TE:=λY H Q=>t Y H λvs H1=>tk Y H1 λzs H2=>sp (a vs zs) H2 Q E
variable{g:List Value->List Value->List Value}
def eA{Y:St}{Q:VK}{S a:List Value}{c:List V}(F:YQ X.prog X.w X.K X.mg X.base CX k f fd ps sp)(m:Zc k X.A)(i:VR X.K fd ps ks g gV)(l:AO CX X E)
  (I:Z0 X O Y H s) (r:ZG vs S) (j:ZG c a) (h:sp (gV vs c) H Q E):wpAny (model X.prog X.w) X.A (call (.ref f) S (ks.zip a)) (EP X O Y Q) X.xe s:=by
 have d:=i.rel r j;have n:(g S a).length=ps.length:=by rw[<-d.length];exact F.len _ _ _ _ h
 refine OF (Rz (F.run X.A X.stack s H ⟨S,ks.zip a⟩ (g S a) (gV vs c) Q E m I.Tz (i.to s S a I.Ys n) d h) λr s' b=>?_);cases r with
 |error e=>exact l O Y H s e s' I b
 |ok fl=>
  cases fl with
  |ret u=>exact I.after b
  |next=>exact False.elim b
  |brk=>exact False.elim b
  |cont=>exact False.elim b
def t9(F:YQ X.prog X.w X.K X.mg X.base CX k f fd ps sp)(j:Zc k X.A)(n:Gl X x)(l:X.mg x=some (.ref f))(m:PySem.W.keepIn X.K (.ref f)=true)(u:VR X.K fd ps ks g gV)(i:AO CX X E)
  (v:PA X (e::es) t) (y:PK X kws tk) (C:(backToKw pos (keywordEach kws X.env)).all (·.1.isSome)=true:=by rfl) (B:(backToKw pos (keywordEach kws X.env)).filterMap (·.1)=ks:=by rfl)
  (D:(x==("__debug__" : Str))=false:=by decide) (o:starEach (e::es) X.env=(false,eval e X.env)::starEach es X.env:=by rfl)
  (z:((backTo pos (starEach (e::es) X.env)).any (·.1)||(backToKw pos (keywordEach kws X.env)).any (·.1.isNone))=false:=by rfl) :
  PE X (.Call (.Name x p) (e::es) kws pos) (Fw sp gV E t tk):=by
 intro O s Y H Q I h;refine S8 (bV I n l ?_ D);refine Pu (h₀:=X.base) I.ok.mod.WI m C (thn (v pos O s Y H _ I h) λS b ⟨vs,H1,G,r,q⟩=>?_) z o;refine thn (y pos O b Y H1 _ G q) λws J ⟨zs,H2,a,c,d⟩=>⟨a.Ys,?_⟩;rw[B];exact eA F j u i a r c d
end
structure TY(N P:List Str)(sc:Scope):Prop where
 kind:sc.kind=.function
 co:sc.isCoroutine=false
 gen:sc.isGenerator=false
 nd:N.Nodup
 pre:N.take P.length=P
 par:∀x∈P,sc.names.lookup x=some .local\/sc.names.lookup x=some .cell
 Sl:∀y∈sc.names,y.2 ≠ .free
def ju{b:Str->Option NameKind}{x:Str}:∀{a:List (Str×Value)} {m:Str->Option Value},(∀v,(x,v) ∉ a)->bindL b a m x=m x
 |[],_,_=>rfl
 |(n,v)::r,m,h=>by
  unfold bindL;rw[ju λw c=>h w (G9 _ c)];split
  .have:x≠n:=by rintro rfl;exact h v Wv
   simp[this]
  .rfl
def js{b:Str->Option NameKind}{x:Str}:∀{a:List (Str×Value)} {m:Str->Option Value},(∀v,(x,v) ∉ a)->bindC b a m x=m x
 |[],_,_=>rfl
 |(n,v)::r,m,h=>by
  unfold bindC;rw[js λw c=>h w (G9 _ c)];split
  .rfl
  .have:x≠n:=by rintro rfl;exact h v Wv
   simp[this]
def jm{a:Str->Option NameKind}{x:Str}{v:Value}:∀{P:List Str} {vs:List Value} {i:Nat} {m:Str->Option Value},P.Nodup->P[i]?=some x->vs[i]?=some v->a x=some .local ->
  bindL a (P.zip vs) m x=some v
 |[],_,_,_,_,h,_,_=>by simp at h
 |_::_,[],_,_,_,_,h,_=>by simp at h
 |p::P,w::vs,0,m,nd,h1,h2,hk=>by
  simp at h1 h2;subst h1;subst h2;show bindL a ((p,w)::P.zip vs) m p=_;unfold bindL;rw[ju λv b=>(Rx.mp nd).1 (Oo b).1,Yn hk];simp
 |p::P,w::vs,i+1,m,nd,h1,h2,hk=>by
  show bindL a ((p,w)::P.zip vs) m x=_;unfold bindL;exact jm (i:=i) (Rx.mp nd).2 (by simpa using h1) (by simpa using h2) hk
def jv{a:Str->Option NameKind}{x:Str}{v:Value}:∀{P:List Str} {vs:List Value} {i:Nat} {m:Str->Option Value},P.Nodup->P[i]?=some x->vs[i]?=some v->a x≠some .local ->
  bindC a (P.zip vs) m x=some v
 |[],_,_,_,_,h,_,_=>by simp at h
 |_::_,[],_,_,_,_,h,_=>by simp at h
 |p::P,w::vs,0,m,nd,h1,h2,hk=>by
  simp at h1 h2;subst h1;subst h2;show bindC a ((p,w)::P.zip vs) m p=_;unfold bindC;rw[js λv b=>(Rx.mp nd).1 (Oo b).1,Yb hk];simp
 |p::P,w::vs,i+1,m,nd,h1,h2,hk=>by
  show bindC a ((p,w)::P.zip vs) m x=_;unfold bindC;exact jv (i:=i) (Rx.mp nd).2 (by simpa using h1) (by simpa using h2) hk
def start(N:List Str)(vs:List V):St:=vs.map some++List.replicate (N.length-vs.length) none
def Cf(CX:XS)(P:Program)(w:World)(K:Hf)(c:Str->Option Value)(base:Heap)(N:List Str)(qual:Str)(scope:Scope)(f:Addr)(a:Value)(A:Around)(outer:List Env)(s:Shared)(H:Hp)(E:XK):Cx where
 prog:=P
 w:=w
 K:=K
 mg:=c
 base:=base
 A:=A.deeper (envOfC qual scope s.heap.objs.size f a)
 N:=N
 Zf:=s
 UW:=H
 env:=envOfC qual scope s.heap.objs.size f a
 outer:=outer
 stack:=envOfC qual scope s.heap.objs.size f a::outer
 ex:=[]
 calm:=true
 fn:=λ_=>true
 pn:=[]
 xe:=λe s'=>wpAny (model P w) (A.deeper (envOfC qual scope s.heap.objs.size f a)) (leaving (envOfC qual scope s.heap.objs.size f a) e) (λ_ b=>CX outer H s E e b) (λe' b=>CX outer H s E e' b) s'
def j8{a:Scope}(h:a.names.lookup x=some .cell):∃c,(cellsFrom n a.names []).lookup x=some c:=by
 have q:=RQ a.names n [] (.inl h);exact RG.mp q
def rZ{CX:XS}{P:Program}{qual:Str}{f:Addr}{t:Value}{outer:List Env}{C:Shared}{E:XK}{S:List Value}
  (Z6:TY N ps scope) (G:A.handled=none) (d:VS P w K mg base A outer s H) (J:vs.length=ps.length) (r:ZG vs S)
  (x:InCallC s s.heap.objs.size (bindL (envOfC qual scope s.heap.objs.size f t).kindOf (ps.zip S) λ_=>none) (cellsFrom (s.heap.objs.size+1) scope.names []) (bindC (envOfC qual scope s.heap.objs.size f t).kindOf (ps.zip S) λ_=>none) C) :
  Z0 (Cf CX P w K mg base N qual scope f t A outer s H E) [] (start N vs) H C:=by
 have M:ps.length<=N.length:=by have:=SO List.length Z6.pre;rw[Vi]at this;lia
 let⟨h1,tk,rfl,hk⟩:=x.done;have B:∀b:Addr,b ∉ (Cf CX P w K mg base N qual scope f t A outer s H E).ex:=λb z=>absurd (show b∈([]:List Addr)from z) #[3]
 refine ⟨⟨d.mod,Z6.kind,rfl,rfl,G8 _,λy z c h1 h2 => ?_,λy g => ?_,λy c _ h => ?_,λ_=>G,Around.frames_deeper d.frames,.inr ⟨rfl,rfl⟩,λb z=>absurd z (B b),d.bs,d.WH,λb _ _=>B b,λb z=>absurd z (B b),d.XC,d.VU⟩,
  rfl,d.bare,Un.kept hk,⟨_,x.toInCall.ns,λi y v h1 h2 L=>?_⟩,λy c h=>⟨_,x.cell y c h⟩,d.ZJ.fresh (G8 _),λy c h=>?_,λp o=>absurd (show p∈([]:List (Addr×Obj))from o) #[3],d.ZJ.kept hk,?_⟩
 .exact name_of_addr x.apart (V4 h1) (V4 h2)
 .have g:scope.names.lookup y=some .cell\/scope.names.lookup y=some .free:=g
  rcases g with g|g
  .exact j8 g
  .exact absurd rfl (Z6.Sl _ (V4 g))
 .exact Rh (x.above y c (V4 h))
 .have hi:i<vs.length:=by
   unfold start at h2;by_cases hi:i<vs.length
   .exact hi
   .rw [Wm (by simpa using hi)]at h2
    rw[RM]at h2;split at h2<;>cases h2
  have I:vs[i]?=some v:=by
   unfold start at h2;rw[X0 (by simpa using hi),Wy]at h2
   cases e:vs[i]? with
   |none=>rw[e]at h2;cases h2
   |some a=>rw[e]at h2;cases h2;rfl
  let⟨u,D,F⟩:=r.get I;have o:ps[i]?=some y:=by
   rw[<-Z6.pre,Qy (by lia)];exact h1
  have j:ps.Nodup:=by rw[<-Z6.pre];exact Z6.nd.sublist (Qi _ _)
  refine⟨u,F,?_⟩;rcases Z6.par y (W8 o)with k|k
  .exact .inl ⟨k,jm j o D k⟩
  .obtain ⟨c,e⟩:=j8 (n:=s.heap.objs.size+1) k
   refine .inr ⟨.inl k,c,e,?_⟩;have q:=x.cell y c e;rw[jv j o D (by show scope.names.lookup y≠_;rw[k];decide)]at q
   exact q
 .exact d.ZJ.fresh (Rh (x.above y c (V4 h)))
 .unfold start
  show _=N.length;rw[YB,Zd,Qc];lia
def ab8{CX:XS}{P:Program}{k:Nat}{f:Addr}{name qual:Str}{a:Arguments}{c:List Stmt}{scope:Scope}{F L l D g ct JV:Value}{G M:Option Addr}
  {VQ:Array (Option Value)} {N m:List Str} {sp:Sp} (lk:K.lookup f=some ⟨JV,M,.func (PySem.W.fnOf name qual a c scope F L l D G g ct),VQ⟩) (Z:PySem.W.codeIn K g qual=true) (Z6:TY N m scope)
  (len:∀vs H Q E,sp vs H Q E->vs.length=m.length)
  (Sk:∀ (A:Around) (outer:List Env) (s:Shared) (H:Hp) (vs:List V) (Q:VK) (E:XK),Zc k (A.deeper (envOfC qual scope s.heap.objs.size f g))->sp vs H Q E ->
   ∃t,PSs (Cf CX P w K mg base N qual scope f g A outer s H E) c t/\t {nx:=λ_ H'=>Q .ZK H',rt:=Q} (start N vs) H) :
  YQ P w K mg base CX (k+1) f (PySem.W.fnOf name qual a c scope F L l D G g ct) m sp:=by
 refine⟨len,λA outer s H args S vs Q E B j X r h=>?_⟩;have hl:=len _ _ _ _ h;have J:K.In s.heap:=j.mod.WI.keeps λb o e=>(j.bs b o e).1;have z:s.heap.NoLimit:=j.mod.nolimit.keeps λb o e=>(j.bs b o e).1;have Tx:∀y∈m.zip S,scope.names.lookup y.1=some .local\/(scope.names.lookup y.1=some .cell/\((cellsFrom (s.heap.objs.size+1) scope.names []).lookup y.1).isSome=true):=λ⟨n,v⟩ O=>by
  rcases Z6.par n (Oo O).1 with q|q
  .exact .inl q
  .exact .inr ⟨q,RQ _ _ _ (.inl q)⟩
 refine codeAny_call_function B.depth (J _ _ lk) rfl Z6.co Z6.gen rfl (PySem.W.codeRec_of J Z) (X _ _ _ _ ?_);refine wpAny_newFunctionEnv_cells Z6.kind Tx λenv U C x=>?_;subst U;refine⟨z.keeps x.toInCall.keep,codeAny_func ?_⟩;let⟨t,R,T⟩:=Sk A outer s H vs Q E (B.deeper _) h;have I:Z0 (Cf CX P w K mg base N qual scope f g A outer s H E) [] (start N vs) H C:=rZ Z6 B.hd j hl r x;refine Q4 (R [] C (start N vs) H _ I T) (λY s' hs=>?_) λe s' hs=>hs;have i:∀{ZR:St} {H':Hp} {v:V} {u:Value},Z0 (Cf CX P w K mg base N qual scope f g A outer s H E) [] ZR H' s'->RelV v u->Q v H'->CE outer P w H s Q u s':=
  λ{ZR H' v u} d p q=>⟨v,H',d.os,d.bare,d.base,d.ZJ,p,q⟩
 cases Y with
 |ret u=>
  let⟨v,ZR,H',d,p,q⟩:=hs;exact i d p q
 |next=>
  let⟨ZR,H',d,q⟩:=hs;exact i (v:=V.ZK) (u:=Value.none) d rfl q
 |brk=>
  let⟨_,_,_,q⟩:=hs;exact False.elim q
 |cont=>
  let⟨_,_,_,q⟩:=hs;exact False.elim q
end L2
variable{CX:L2.XS}
namespace L2
open PySem PySem.Spec PyProof.Rows
section
variable{p:Pos}{t:TA}{id T:String}{r:List V->Hp->VK->Prop}
def Iq(r:List V->Hp->VK->Prop)(t:TA):TE:=λY H Q=>t Y H λvs H1=>r vs H1 Q
def pe_callB(j:CallR X (.builtin id) r)(i:Gl X x)(g:X.mg x=none)(d:bootBuiltins x=some (.builtin id))(k:PA X (e::es) t)(f:x ≠ "__name__":=by decide)(m:(x==("__debug__" : Str))=false:=by decide)
  (he:starEach (e::es) X.env=(false,eval e X.env)::starEach es X.env:=by rfl) (l:(backTo pos (starEach es X.env)).any (·.1)=false:=by rfl):PE X (.Call (.Name x p) (e::es) [] pos) (Iq r t):=by
 intro O s Y H Q I h;refine S8 (eE I i g d ?_ f m);exact PyProof.Rows.callWith_builtin1 (thn (k pos O s Y H _ I h) λS a ⟨vs,H1,n,b,c⟩=>j O a Y H1 vs S Q n b c) he l
def pe_callTy(j:CallR X (.type T) r)(i:Gl X x)(g:X.mg x=none)(d:bootBuiltins x=some (.type T))(k:PA X (e::es) t)(f:x ≠ "__name__":=by decide)(m:(x==("__debug__" : Str))=false:=by decide)
  (he:starEach (e::es) X.env=(false,eval e X.env)::starEach es X.env:=by rfl) (l:(backTo pos (starEach es X.env)).any (·.1)=false:=by rfl):PE X (.Call (.Name x p) (e::es) [] pos) (Iq r t):=by
 intro O s Y H Q I h;refine S8 (eE I i g d ?_ f m);exact Qh (thn (k pos O s Y H _ I h) λS a ⟨vs,H1,n,b,c⟩=>j O a Y H1 vs S Q n b c) he l
end
end L2
namespace HT
open PySem PyProof.Rows
section
variable{E:Value->Shared->Prop}
def sIx(n d:Nat):Option Int->Nat
 |none=>d
 |some v=>if v<0 then(v+(n:Int)).toNat else min v.toNat n
def zM(n d:Nat)(b:d<=n)(o:Option Int):sIx n d o<=n:=by
 cases o with
 |none=>exact b
 |some v=>
  show(if v<0 then(v+(n:Int)).toNat else min v.toNat n)<=n
  by_cases a:v<0
  .rw [Yn a];lia
  .rw [Yb a];exact Nat.min_le_right _ _
def kZ(v:Int)(n d:Nat):(if v<0 then max (v+(n:Int)) 0 else min v (n:Int))=((sIx n d (some v):Nat):Int):=by
 show(if v<0 then max (v+(n:Int)) 0 else min v (n:Int))=(((if v<0 then(v+(n:Int)).toNat else min v.toNat n):Nat):Int)
 by_cases a:v<0
 .simp only [Yn a];lia
 .simp only [Yb a];lia
def qu(lo hi:Option Int)(n:Nat):Builtin.Slice.sliceAdjust lo hi 1 (n:Int)=(((sIx n 0 lo:Nat):Int),((sIx n n hi:Nat):Int)):=by
 have h1 : ¬ ((1:Int)<0):=by lia
 unfold Builtin.Slice.sliceAdjust;simp![h1,Vn];refine OI ?_ ?_
 .cases lo with
  |none=>rfl
  |some v=>exact kZ v n 0
 .cases hi with
  |none=>rfl
  |some v=>exact kZ v n n
def qx(i j:Nat):Builtin.Slice.slicePlaces (i:Int) (j:Int) 1=j-i:=by
 unfold Builtin.Slice.slicePlaces;have h1:(1:Int) > 0:=by lia
 simp![h1,V6,Int.ediv_one];split<;>lia
def i0{v:Value}{o:Option Int}{Q:Option Int->Shared->Prop}(p:IsPart v o)(h:Q o s):wpAny (model prog w) A (Builtin.Slice.slicePartIndex v) Q E s:=by
 cases p with
 |none=>exact slicePart_none h
 |int i t=>exact slicePart_int h
def om{g:Addr}{c a:Value}{lo hi:Option Int}{Q:Int×Int×Nat->Shared->Prop}(k:s.heap.IsSliceOf g c a .none)(pl:IsPart c lo)(j:IsPart a hi)
  (h:Q (((sIx n 0 lo:Nat):Int),1,sIx n n hi-sIx n 0 lo) s):wpAny (model prog w) A (Builtin.Slice.sliceApplied (.ref g) (pure (n:Int))) Q E s:=by
 let⟨os,f,o,d⟩:=id k;unfold Builtin.Slice.sliceApplied Builtin.Slice.sliceFields;refine ZB (ZB (wpAny_field f d (x:=c) rfl (ZB (wpAny_field f d (x:=a) rfl (ZB (wpAny_field f d (x:=.none) rfl (ZP ?_)))))));refine ZB (slicePart_none ?_);show wpAny _ _ (if((1:Int)==0)=true then _ else _) _ _ s
 rw[Yb #[1]]
 refine ZB (i0 pl (ZB (i0 j (ZB (ZP ?_)))));show wpAny _ _ (match Builtin.Slice.sliceAdjust lo hi 1 (n:Int)with|(lo,hi)=>pure (lo,(1:Int),Builtin.Slice.slicePlaces lo hi 1)) _ _ s
 rw[qu lo hi n];show wpAny _ _ (pure (((sIx n 0 lo:Nat):Int),(1:Int),Builtin.Slice.slicePlaces ((sIx n 0 lo:Nat):Int) ((sIx n n hi:Nat):Int) 1)) _ _ s;rw[qx];exact ZP h
def uF(xs:Array Value)(i k:Nat):((List.range k).filterMap λ(m:Nat)=>xs[((i:Int)+(m:Int)*1).toNat]?).toArray=((xs.toList.drop i).take k).toArray:=by
 have e:(λ(m:Nat)=>xs[((i:Int)+(m:Int)*1).toNat]?)=λm=>xs[i+m]?:=by
  funext m;have:((i:Int)+(m:Int)*1).toNat=i+m:=by lia
  rw[this]
 rw[e];have:=pick_run xs i k;rw[List.filterMap_map]at this;have a:((λx=>xs[x]?) ∘ λx=>i+x)=λm=>xs[i+m]?:=rfl;rw[a]at this;rw[this]
def getItem_tuple_cut{t d:Addr}{items:Array Value}{j g:Value}{lo hi:Option Int}(a:IsTup s.heap t items)(k:s.heap.IsSliceOf d j g .none)(pl:IsPart j lo)(o:IsPart g hi)
  (hw : ¬ (sIx items.size 0 lo=0/\sIx items.size items.size hi=items.size))
  (h:Q (.ref s.heap.objs.size) {s with heap:=s.heap.push {cls:=.type "tuple",data:=.seq ((items.toList.drop (sIx items.size 0 lo)).take (sIx items.size items.size hi-sIx items.size 0 lo)).toArray}})
  (hsz:items.size<=sizeLine):wpAny (model prog w) A (getItem (.ref t) (.ref d)) Q E s:=by
 have c:sizeOk (.seq ((items.toList.drop (sIx items.size 0 lo)).take (sIx items.size items.size hi-sIx items.size 0 lo)).toArray):=by
  show((items.toList.drop (sIx items.size 0 lo)).take (sIx items.size items.size hi-sIx items.size 0 lo)).toArray.size<=sizeLine;rw[XA,Vi,VL,YW];omega
 have C:sIx items.size items.size hi<=items.size:=zM _ _ (G8 _) hi;let⟨os,y,u,D⟩:=id k;have f:s.TypeIs (.ref d) "slice":=⟨os,y,u⟩;unfold getItem
 try with_reducible refine V7 ?_
 first|refine ZB (ZP ?_)|skip
 refine ZB (wpAny_sequenceKey a.typeIs #[1] ?_)
 refine ZB (Rc (name:=Str.ofString "__getitem__") a.typeIs Q0
  (U3 Q0 a.typeIs entry_tuple_getitem ?_ (args_tuple_getitem _ _)))
 show wpAny _ _ (Builtin.Tuple.tupleItemsOf (.ref t) >>= _) _ _ s;refine ZB (tupleItemsOf_ a ?_);refine ZB (wpAny_typeOf f ?_);rw[Yn #[1]]
 refine ZB (om k pl o ?_);have r : ¬ ((((sIx items.size 0 lo:Nat):Int)==0&&(1:Int)==1&&(sIx items.size items.size hi-sIx items.size 0 lo)==items.size)=true):=by
  intro q;rw[Z1,Z1]at q;have B:((sIx items.size 0 lo:Nat):Int)=0:=eq_of_beq q.1.1;have z:sIx items.size items.size hi-sIx items.size 0 lo=items.size:=eq_of_beq q.2;exact hw ⟨by lia,by omega⟩
 show wpAny _ _ (if(((sIx items.size 0 lo:Nat):Int)==0&&(1:Int)==1&&(sIx items.size items.size hi-sIx items.size 0 lo)==items.size)=true then _ else _) _ _ s
 rw[Yb r,uF]
 first
  |exact ZB (m:=Builtin.Tuple.tupleExact _) (Uk (ZP ⟨_,rfl,ZP h⟩) c)
  |exact ZB (m:=Builtin.Tuple.tupleExact _) (Uk (ZB (ZP (ZP ⟨_,rfl,ZP h⟩))) c)
  |exact ZB (ZB (m:=Builtin.Tuple.tupleExact _) (Uk (ZP (ZP ⟨_,rfl,ZP h⟩)) c))
  |exact ZB (ZB (m:=Builtin.Tuple.tupleExact _) (Uk (ZP ⟨_,rfl,ZP h⟩) c))
end
end HT
namespace L2
open PySem PySem.Spec PyProof.Rows
abbrev TO:=St->Hp->(Option Int->Hp->Prop)->Prop
def PO(X:Cx)(e:Option Expr)(t:TO):Prop:=
 ∀(O:List (Addr×Obj)) (s:Shared) (Y:St) (H:Hp) (Q:Option Int->Hp->Prop),Z0 X O Y H s->t Y H Q ->
  wpAny (model X.prog X.w) X.A (evalPart e X.env) (λu s'=>∃o H',Z0 X O Y H' s'/\IsPart u o/\Q o H') X.xe s
def Gu:TO:=λ_ H Q=>Q none H
def GR(t:TE):TO:=λY H Q=>t Y H λx H1=>∃i,x=.int i/\Q (some i) H1
section
variable{lo hi:Option Expr}{tl th:TO}{p2:Pos}
def vt:PO X none Gu:=by
 intro O s Y H Q I h;rw[evalPart_none];exact ZP ⟨none,H,I,.none,h⟩
def wJ(h:PE X e te):PO X (some e) (GR te):=by
 intro O s Y H Q I c;rw[evalPart_some];refine thn (h O s Y H _ I c) ?_;rintro u f ⟨x,H1,d,a,b⟩;let⟨i,rfl,q⟩:=b;let⟨t,rfl⟩:=a;exact⟨some i,H1,d,.int i t,q⟩
def SlR(X:Cx)(r:V->Option Int->Option Int->Hp->VK->Prop):Prop:=
 ∀(O:List (Addr×Obj)) (s:Shared) (Y:St) (H:Hp) (x:V) (v b a:Value) (lo hi:Option Int) (c:Addr) (Q:VK),Z0 X O Y H s->RelV x v->s.heap.IsSliceOf c b a .none->IsPart b lo->IsPart a hi->r x lo hi H Q ->
  ∃T id,typeLookup (.type T) "__getitem__" = pure (some (.builtin id))/\s.TypeIs v T/\wpAny (model X.prog X.w) X.A (getItem v (.ref c)) (EP X O Y Q) X.xe s
def SlR.or{r e:V->Option Int->Option Int->Hp->VK->Prop}(h:SlR X r)(h':SlR X e):SlR X (λx lo hi H Q=>r x lo hi H Q\/e x lo hi H Q):=by
 intro O s Y H x v b a lo hi c Q I d hs pl f q;rcases q with q|q
 .exact h O s Y H x v b a lo hi c Q I d hs pl f q
 .exact h' O s Y H x v b a lo hi c Q I d hs pl f q
def Ir(r:V->Option Int->Option Int->Hp->VK->Prop)(c:TE)(a b:TO):TE:=λY H Q=>c Y H λx H1=>a Y H1 λl H2=>b Y H2 λu H3=>r x l u H3 Q
def uq{r:V->Option Int->Option Int->Hp->VK->Prop}(z:SlR X r)(D:PE X e te)(B:PO X lo tl)(t:PO X hi th):PE X (.Subscript e (.Slice lo hi none p2) pos) (Ir r te tl th):=by
 intro O s Y H Q I h;refine Subscript_ (thn (D O s Y H _ I h) ?_);rintro v f ⟨x,H1,K,g,o⟩;refine wpAny_Slice (thn (B O f Y H1 _ K o) λc d ⟨l,H2,J,pl,k⟩=>thn (t O d Y H2 _ J k) ?_);rintro a s3 ⟨u,H3,G,pu,j⟩;rw[evalPart_none];refine ZP ?_;have F:Z0 X O Y H3 {s3 with heap:=s3.heap.push {cls:=.type "slice",data:=.fields #[c,a,.none]}}:=G.kept (t':=s3.toks) λb ob q=>G4 _ q
 let⟨T,id,E,y,C⟩:=z O {s3 with heap:=s3.heap.push {cls:=.type "slice",data:=.fields #[c,a,.none]}} Y H3 x v c a l u s3.heap.objs.size Q F g (Heap.IsSliceOf.new ..) pl pu j
 show wpAny (model X.prog X.w) X.A (subscriptTail e (.Slice lo hi none p2) v (.ref s3.heap.objs.size)) (EP X O Y Q) X.xe {s3 with heap:=s3.heap.push {cls:=.type "slice",data:=.fields #[c,a,.none]}}
 exact tail_any (ops:=[.ref s3.heap.objs.size,v]) y E C (by with_unfolding_all rfl)
def BJ(xs:List V)(lo hi:Option Int):List V:=(xs.drop (HT.sIx xs.length 0 lo)).take (HT.sIx xs.length xs.length hi-HT.sIx xs.length 0 lo)
def iF(xs:List V)(lo hi:Option Int):(BJ xs lo hi).length<=xs.length:=by
 unfold BJ;rw[Vi,VL];omega
def Iu(K:Hf):V->Option Int->Option Int->Hp->VK->Prop:=λx lo hi H Q=>∃a xs,x=.ref a/\SqT K H a xs /\
 ¬ (HT.sIx xs.length 0 lo=0/\HT.sIx xs.length xs.length hi=xs.length) /\∀p,H p=none->Q (.ref p) (upd H p (.ZW (BJ xs lo hi)))
def abq:SlR X (Iu X.K):=by
 intro O s Y H x v l k lo hi m Q I f hs pl g h;let⟨a,xs,rfl,i,j,q⟩:=h;cases f;let⟨ZU,r,e,d⟩:=I.tuple i;have c:ZU.toArray.size=xs.length:=by rw[XA];exact r.length.symm
 refine⟨"tuple",_,PyProof.Rows.slot_tuple_getitem.lookup,e.typeIs,?_⟩;refine HT.getItem_tuple_cut e hs pl g (by rw[c];exact j) ?_ (by rw[c];exact d)
 rw[c];refine⟨.ref s.heap.objs.size,_,I.laid (t':=s.toks) (o:=.ZW (BJ xs lo hi)) (λb ob q=>G4 _ q) (G8 _) ?_,rfl,q _ (I.ZJ.fresh (G8 _))⟩;exact⟨G6 (iF xs lo hi) d,_,(r.drop (HT.sIx xs.length 0 lo)).take (HT.sIx xs.length xs.length hi-HT.sIx xs.length 0 lo),IsTup.new _ _⟩
end
end L2
namespace L2
open PySem PySem.Spec PyProof.Rows
def ixN(n:Nat)(i:Int):Option Nat:=if 0<=i then(if i<n then some i.toNat else none)else if -(n:Int)<=i then some (i+n).toNat else none
def atI{a:Type}(xs:List a)(i:Int):Option a:=(ixN xs.length i).bind λj=>xs[j]?
def lF{i:Int}(h:ixN n i=some j):seqIndex? i n=some j/\j<n /\ -(n:Int)<=i/\i<n:=by
 unfold ixN at h;by_cases a:0<=i
 .rw [Yn a]at h
  by_cases h1:i<n
  .rw [Yn h1]at h
   have e:i.toNat=j:=WQ h;exact⟨by rw[seqIndex_of a h1,e],by omega,by lia,h1⟩
  .rw [Yb h1]at h;cases h
 .rw [Yb a]at h
  by_cases h1 : -(n:Int)<=i
  .rw [Yn h1]at h
   have e:(i+n).toNat=j:=WQ h;exact⟨by rw[seqIndex_neg (by lia) h1,e],by lia,h1,by lia⟩
  .rw [Yb h1]at h;cases h
def lW{xs:List α}{i:Int}{v:α}(h:atI xs i=some v):∃j,seqIndex? i xs.length=some j/\xs[j]?=some v/\j<xs.length /\ -(xs.length:Int)<=i/\i<xs.length:=by
 unfold atI at h;cases e:ixN xs.length i with
 |none=>rw[e]at h;cases h
 |some j=>
  rw[e]at h;let⟨h1,h2,b,a⟩:=lF e;exact⟨j,h1,h,h2,b,a⟩
def DD(b:Expr):Prop:=∀o i,subscripted b false o i=operate [o,i] (getItem o i)
def IxR(X:Cx)(r:R2):Prop:=
 ∀(value slice:Expr) (O:List (Addr×Obj)) (s:Shared) (Y:St) (H:Hp) (x y:V) (v u:Value) (Q:VK),Z0 X O Y H s->RelV x v->RelV y u->r x y H Q ->
  subscripted slice false v u=operate [v,u] (getItem v u)->wpAny (model X.prog X.w) X.A (subscriptTail value slice v u) (EP X O Y Q) X.xe s
def MtR(X:Cx)(a:String)(r:V->List V->Hp->VK->Prop):Prop:=
 ∀(O:List (Addr×Obj)) (s:Shared) (Y:St) (H:Hp) (x:V) (xs:List V) (v:Value) (S:List Value) (Q:VK),Z0 X O Y H s->RelV x v->ZG xs S->r x xs H Q ->
  wpAny (model X.prog X.w) X.A (call (.builtin a) (v::S)) (EP X O Y Q) X.xe s
section
variable{a b:Expr}{tb:TE}
def IxR.or{r c:R2}(h:IxR X r)(h':IxR X c):IxR X (λx y H Q=>r x y H Q\/c x y H Q):=by
 intro value slice O s Y H x y v u Q I b a q hs;rcases q with q|q
 .exact h value slice O s Y H x y v u Q I b a q hs
 .exact h' value slice O s Y H x y v u Q I b a q hs
def ad4{r:R2}(g:IxR X r)(j:PE X a ta)(i:PE X b tb)(f:DD b):PE X (.Subscript a b pos) (Ie r ta tb):=by
 intro O s Y H Q I h;exact Subscript_ (iw j i I h λv u c x y H2 k e d q=>g a b O c Y H2 x y v u Q k e d q (f _ _))
def Iv(K:Hf):R2:=λx y H Q=>∃p xs i v,x=.ref p/\y=.int i/\SqL K H p xs/\atI xs i=some v/\Q v H
def Iw(K:Hf):R2:=λx y H Q=>∃p xs i v,x=.ref p/\y=.int i/\SqT K H p xs/\atI xs i=some v/\Q v H
def ve:IxR X (Iv X.K):=by
 intro value slice O s Y H x y v u Q I f e h hs;let⟨p,xs,i,z,rfl,rfl,g,k,q⟩:=h;cases f;let⟨t,rfl⟩:=e;let⟨ZU,r,pl,o⟩:=I.list g;let⟨j,h1,h2,A,m,l⟩:=lW k;let⟨w,d,n⟩:=r.get h2;have hl:=r.length;have hn:=cQ;have a:EP X O Y Q w s:=⟨z,H,I,n,q⟩;by_cases c:0<=i
 .have b:i.toNat=j:=by
   rw[seqIndex_of c l]at h1;exact WQ h1
  exact item_listR pl.isList c (by lia) (by rw[b];simpa using d) a hs
 .have b:(i+(ZU.toArray.size:Int)).toNat=j:=by
   rw[seqIndex_neg (by lia) m]at h1
   rw[XA,<-hl];exact WQ h1
  exact subscriptTail_builtinR (x:=w) pl.isList.typeIs slot_list_getitem.lookup
   (wpAny_getItem_list_neg (Q:=λr s'=>r=w/\EP X O Y Q r s') pl.isList () (by rw[XA]<;>lia) (by lia) (by rw[b];simpa using d) ⟨rfl,a⟩) hs
def yV:IxR X (Iw X.K):=by
 intro value slice O s Y H x y v u Q I c b h hs;let⟨p,xs,i,z,rfl,rfl,d,e,q⟩:=h;cases c;let⟨t,rfl⟩:=b;let⟨ZU,r,pl,k⟩:=I.tuple d;let⟨j,h1,h2,n,m,l⟩:=lW e;let⟨w,f,g⟩:=r.get h2;have hl:=r.length;have hn:=cQ;have a:EP X O Y Q w s:=⟨z,H,I,g,q⟩;exact subscriptTail_builtinR (x:=w) pl.typeIs slot_tuple_getitem.lookup
  (getItem_tuple (j:=j) (Q:=λr s'=>r=w/\EP X O Y Q r s') pl (by lia) (by lia) (by rw[XA,<-hl];exact h1) (by simpa using f) ⟨rfl,a⟩) hs
def pM(a:List Value)(n j:Nat)(u:Value):Obj.mapSeq (·.setIfInBounds j u) {cls:=.type "list",data:=.seq a.toArray n}={cls:=.type "list",data:=.seq (a.set j u).toArray n}:=by
 simp[Obj.mapSeq]
def Z0.Z5{O:List (Addr×Obj)}{Y:St}{H:Hp}{s:Shared}{p:Addr}{xs:List V}(I:Z0 X O Y H s)(h:H p=some (.Z5 xs)):
  ∃(ZU:List Value) (n:Nat),ZG xs ZU/\s.heap.get? p=some {cls:=.type "list",data:=.seq ZU.toArray n}/\xs.length<=sizeLine:=by
 let⟨z,ZU,n,r,e⟩:=I.ZJ p _ h;exact⟨ZU,n,r,e,z⟩
def Z0.Sj{Y:St}{p:Addr}{xs a:List V}{its':List Value}{c:Nat}{f:Obj->Obj}(I:Z0 X O Y H s)(h:H p=some (.Z5 xs))
  (i:s.heap.get? p=some {cls:=.type "list",data:=.seq ZU.toArray n}) (d:f {cls:=.type "list",data:=.seq ZU.toArray n}={cls:=.type "list",data:=.seq its'.toArray c}) (r:ZG a its') (g:a.length<=sizeLine) (t:Nat) :
  Z0 X O Y (upd H p (.Z5 a)) {s with heap:=s.heap.update p f,toks:=t}:=by
 have e:(s.heap.update p f).get? p=some {cls:=.type "list",data:=.seq its'.toArray c}:=by
  rw[Ro f i (by rw[d]<;>rfl),d]
 refine I.write (x:=p) (e:=p) (by rw[h];trivial) (.inl rfl) (λb u j q=>(Ri _ _ (Ne.symm j)).trans q) ⟨_,e⟩ ?_
 exact⟨g,its',c,r,e⟩
def GZ:V->V->V->Hp->(Hp->Prop)->Prop:=λo i v H Q=>∃p xs k j,o=.ref p/\i=.int k/\H p=some (.Z5 xs)/\ixN xs.length k=some j/\Q (upd H p (.Z5 (xs.set j v)))
def set_list:Cg X GZ:=by
 intro O s Y H o i v x y u Q I g l f h;let⟨p,xs,k,j,rfl,rfl,a,w,q⟩:=h;cases g;let⟨t,rfl⟩:=l;let⟨ZU,n,r,ho,m⟩:=I.Z5 a;let⟨h1,h2,c,b⟩:=lF w;have hl:=r.length;have hn:=cQ;have e:Z0 X O Y (upd H p (.Z5 (xs.set j v))) {s with heap:=s.heap.update p (Obj.mapSeq (·.setIfInBounds j u))}:=
  I.Sj a ho (pM ZU n j u) (r.set f j) (by rw[QD];exact m) s.toks
 by_cases d:0<=k
 .have hk:k.toNat=j:=by
   rw[seqIndex_of d b]at h1;exact WQ h1
  exact PySem.W.ki_setAt ho d (by lia) (by rw[XA,<-hl];exact b) (by rw[hk];exact⟨_,e,q⟩)
 .have hk:(k+(ZU.toArray.size:Int)).toNat=j:=by
   rw[seqIndex_neg (by lia) c]at h1
   rw[XA,<-hl];exact WQ h1
  exact PySem.W.ki_setBack ho () (by rw[XA,<-hl];exact c) (by lia) (by rw[hk];exact⟨_,e,q⟩)
def oO(lo hi:Option Int)(n:Nat):(sliceBounds lo hi none n).1=((HT.sIx n 0 lo:Nat):Int)/\(sliceBounds lo hi none n).2.1=((HT.sIx n n hi:Nat):Int)/\(sliceBounds lo hi none n).2.2=1:=by
 refine⟨?_,?_,rfl⟩
 .cases lo with
  |none=>simp[sliceBounds,HT.sIx]
  |some i=>
   simp![sliceBounds,HT.sIx,P7,show(1:Int) > 0 by decide,V6]
   by_cases h:i<0
   .simp only [h,V6]<;>lia
   .simp only [h,Vn]<;>lia
 .cases hi with
  |none=>simp[sliceBounds,HT.sIx]
  |some i=>
   simp![sliceBounds,HT.sIx,P7,show(1:Int) > 0 by decide,V6]
   by_cases h:i<0
   .simp only [h,V6]<;>omega
   .simp only [h,Vn]<;>omega
def oF(a:List Value)(lo hi:Option Int):slicePick a.toArray lo hi none=((a.drop (HT.sIx a.length 0 lo)).take (HT.sIx a.length a.length hi-HT.sIx a.length 0 lo)).toArray:=by
 let⟨h1,h2,b⟩:=oO lo hi a.toArray.size;unfold slicePick;rw[h1,h2,b];simp![sliceRange_one,pick_run,XA]<;>rfl
def Iy(K:Hf):V->Option Int->Option Int->Hp->VK->Prop:=λx lo hi H Q=>∃a xs,x=.ref a/\SqL K H a xs /\∀p,H p=none->Q (.ref p) (upd H p (.Z5 (BJ xs lo hi)))
def uM:SlR X (Iy X.K):=by
 intro O s Y H x v t k lo hi u Q I d hs pl f h;let⟨a,xs,rfl,j,q⟩:=h;cases d;let⟨ZU,r,c,g⟩:=I.list j;have hlen:=r.length;refine⟨"list",_,slot_list_getitem.lookup,c.isList.typeIs,?_⟩;refine wpAny_getItem_list_slice c.isList hs pl f .none #[3] ?_ (by rw[XA]<;>lia)
 rw[oF,<-hlen];refine⟨.ref s.heap.objs.size,_,I.laid (t':=s.toks) (o:=.Z5 (BJ xs lo hi)) (λb ob q=>G4 _ q) (G8 _) ?_,rfl,q _ (I.ZJ.fresh (G8 _))⟩;exact⟨G6 (iF xs lo hi) g,_,0,(r.drop (HT.sIx xs.length 0 lo)).take (HT.sIx xs.length xs.length hi-HT.sIx xs.length 0 lo),Hc _ rfl⟩
def Dh:V->Bool
 |.ZK=>true
 |.bl _=>true
 |.int _=>true
 |.str _=>true
 |_=>false
def Iz:V->V->Bool
 |.ZK,.ZK=>true
 |.bl a,.bl b=>a==b
 |.bl a,.int b=>(if a then 1 else 0)==b
 |.int a,.bl b=>a==(if b then 1 else 0)
 |.int a,.int b=>a==b
 |.str a,.str b=>a==b
 |_,_=>false
def gX{y x:V}{u v:Value}(d:RelV y u)(c:RelV x v)(f:Dh y=true)(e:Dh x=true):SeqAt.EqAt A s u v (Iz y x):=by
 cases y with
 |ZK=>
  cases d;cases x with
  |ZK=>cases c;exact Oq _
  |bl b=>cases c;exact SeqAt.EqAt.none_bool b
  |int b=>let⟨t,rfl⟩:=c;exact SeqAt.EqAt.none_int b t
  |str b=>let⟨t,rfl⟩:=c;exact SeqAt.EqAt.none_str b t
  |_=>exact absurd (show false=true from e) G7
 |bl a=>
  cases d;cases x with
  |ZK=>cases c;exact SeqAt.EqAt.bool_none a
  |bl b=>cases c;exact SeqAt.EqAt.bool_bool a b
  |int b=>let⟨t,rfl⟩:=c;exact SeqAt.EqAt.bool_int a b t
  |str b=>let⟨t,rfl⟩:=c;exact SeqAt.EqAt.bool_str a b t
  |_=>exact absurd (show false=true from e) G7
 |int a=>
  let⟨t',rfl⟩:=d;cases x with
  |ZK=>cases c;exact SeqAt.EqAt.int_none a t'
  |bl b=>cases c;exact SeqAt.EqAt.int_bool a t' b
  |int b=>let⟨t,rfl⟩:=c;exact SeqAt.EqAt.int_int a t' b t
  |str b=>let⟨t,rfl⟩:=c;exact SeqAt.EqAt.int_str a t' b t
  |_=>exact absurd (show false=true from e) G7
 |str a=>
  let⟨t',rfl⟩:=d;cases x with
  |ZK=>cases c;exact SeqAt.EqAt.str_none a t'
  |bl b=>cases c;exact SeqAt.EqAt.str_bool a t' b
  |int b=>let⟨t,rfl⟩:=c;exact SeqAt.EqAt.str_int a t' b t
  |str b=>let⟨t,rfl⟩:=c;exact SeqAt.EqAt.str_str a t' b t
  |_=>exact absurd (show false=true from e) G7
 |_=>exact absurd (show false=true from f) G7
def call_len_seq:CallR X (.builtin "len") (λxs H Q=>∃p ys,xs=[.ref p]/\(SqL X.K H p ys\/SqT X.K H p ys)/\Q (.int ys.length) H):=by
 intro O s Y H xs S Q I r h;let⟨p,ys,rfl,a,q⟩:=h;let⟨u,rfl,b⟩:=vals1 r;cases b;have hn:=cQ;rcases a with a|a
 .obtain ⟨ZU,r',pl,c⟩:=I.list a
  have hlen:=r'.length;exact Calls.call_len_list pl.isList (by simp![XA]<;>lia) ⟨.int ys.length,H,I.tok _,⟨s.toks+1,by rw[XA,hlen]⟩,q⟩
 .obtain ⟨ZU,r',pl,c⟩:=I.tuple a
  have hlen:=r'.length;exact len_tuple pl (by simp![XA]<;>omega) ⟨.int ys.length,H,I.tok _,⟨s.toks+1,by rw[XA,hlen]⟩,q⟩
def CallR.or{f:Value}{r a:List V->Hp->VK->Prop}(h:CallR X f r)(h':CallR X f a):CallR X f (λxs H Q=>r xs H Q\/a xs H Q):=by
 intro O s Y H xs S Q I rs q;rcases q with q|q
 .exact h O s Y H xs S Q I rs q
 .exact h' O s Y H xs S Q I rs q
def call_list_of:CallR X (.type "list") (λxs H Q=>∃p ys,xs=[.ref p]/\(SqL X.K H p ys\/SqT X.K H p ys) /\∀l,H l=none->Q (.ref l) (upd H l (.Z5 ys))):=by
 intro O s Y H xs S Q I r h;let⟨p,ys,rfl,d,q⟩:=h;let⟨u,rfl,k⟩:=vals1 r;cases k;have f:∀(ZU:List Value),ZG ys ZU->ys.length<=sizeLine ->∀(h':Heap) (c':Nat),(∀b o',s.heap.get? b=some o'->h'.get? b=some o') ->
   h'.get? s.heap.objs.size=some {cls:=.type "list",dict:=none,data:=.seq ZU.toArray c',slots:=#[]}->EP X O Y Q (.ref s.heap.objs.size) {s with heap:=h'}:=λZU r' c h' c' a e=>
  ⟨.ref s.heap.objs.size,_,I.laid (t':=s.toks) a (G8 _) (show ObjOk X.prog X.w _ h' _ (.Z5 ys)from⟨c,ZU,c',r',e⟩),rfl,q _ (I.ZJ.fresh (G8 _))⟩
 rcases d with d|d
 .obtain ⟨ZU,r',pl,c⟩:=I.list d
  have hlen:=r'.length;let⟨o,ho,j,n,g⟩:=pl.isList;exact call_list_seq p (.inl rfl) ho j g (λh' c' a e=>f ZU r' c h' c' a e) (by simp![XA]<;>omega)
 .obtain ⟨ZU,r',pl,c⟩:=I.tuple d
  have hlen:=r'.length;let⟨o,ho,j,n,g⟩:=pl;exact call_list_seq p (.inr rfl) ho j g (λh' c' a e=>f ZU r' c h' c' a e) (by simp![XA]<;>omega)
def IA(K:Hf)(T:String)(x:V)(H:Hp):Prop:=match x with
 |.str _=>T = "str"
 |.int _=>T = "int"
 |.ref p=>(T = "list" /\∃xs,SqL K H p xs)\/(T = "tuple" /\∃o,K.lookup p=some o/\o.cls=.type "tuple" /\ o.dict=none) \/
   (T = "dict" /\ ((∃Z4,H p=some (.dK Z4)) \/∃Z4,H p=some (.dT Z4)))\/(T = "set" /\∃Z6 n,H p=some (.set Z6 n))
 |_=>False
def ng{Y:St}{T:String}{x:V}{v:Value}(I:Z0 X O Y H s)(r:RelV x v)(b:IA X.K T x H):
  s.TypeIs v T /\∀a,v=.ref a ->∃f,s.heap.get? a=some f/\f.dict=none:=by
 cases x with
 |str z=>
  let⟨t,rfl⟩:=r;cases(show T = "str" from b);exact⟨typeIs_str s z t,λ_ e=>nomatch e⟩
 |int i=>
  let⟨t,rfl⟩:=r;cases(show T = "int" from b);exact⟨typeIs_int s i t,λ_ e=>nomatch e⟩
 |ref p=>
  cases r;rcases b with⟨rfl,xs,g⟩|⟨rfl,o,hk,h,hd⟩|⟨rfl,hk⟩|⟨rfl,Z6,n,hk⟩
  .obtain ⟨ZU,_,pl,_⟩:=I.list g
   refine⟨pl.isList.typeIs,λa e=>?_⟩;cases e;let⟨o,n,e,c,hd,_⟩:=pl;exact⟨o,e,hd⟩
  .refine ⟨⟨o,I.Ys p o hk,h⟩,λa e=>?_⟩
   cases e;exact⟨o,I.Ys _ o hk,hd⟩
  .have z:∃o,s.heap.get? p=some o/\o.ExactDict:=by
    rcases hk with⟨Z4,hk⟩|⟨Z4,hk⟩
    .obtain ⟨_,_,_,_,o,_,_,e,ex,_⟩:=I.ZJ p _ hk
     exact⟨o,e,ex⟩
    .obtain ⟨_,_,_,_,o,_,_,e,ex,_⟩:=I.ZJ p _ hk
     exact⟨o,e,ex⟩
   let⟨o,e,ex⟩:=z;refine⟨⟨o,e,ex.1⟩,λa d=>?_⟩;cases d;exact⟨o,e,ex.2.1⟩
  .obtain ⟨o,_,_,_,e,ex,_⟩:=I.ZJ p _ hk
   refine⟨⟨o,e,ex.1⟩,λa d=>?_⟩;cases d;exact⟨o,e,ex.2.1⟩
 |_=>exact False.elim b
def IB(K:Hf)(T:String)(r:V->List V->Hp->VK->Prop)(a:TE):TE:=λY H Q=>a Y H λx H1=>IA K T x H1/\r x [] H1 Q
def IC(K:Hf)(T:String)(r:V->List V->Hp->VK->Prop)(a:TE)(t:TA):TE:=λY H Q=>a Y H λx H1=>IA K T x H1/\t Y H1 λxs H2=>r x xs H2 Q
variable{o:Expr}{to:TE}{t:TA}{name:Str}{T id:String}{r:V->List V->Hp->VK->Prop}
def xV(f:PlainAttrs T)(a:Slot T name id)(l:typeOf (.builtin id)=pure (.type "method_descriptor"))(i:MtR X id r)(g:PE X o to)
  (k:attributeBase o name X.env (eval o X.env)=eval o X.env:=by rfl) (j:(apos.endLine==Y_.line)=true:=by rfl):PE X (.Call (.Attribute o name apos) [] [] Y_) (IB X.K T r to):=by
 intro O s Y H Q I h;refine wpAny_Call_method0_late k j (thn (g O s Y H _ I h) ?_);rintro v d ⟨x,H1,c,b,ty,e⟩;let⟨h1,h2⟩:=ng c b ty;exact⟨T,id,f,a,l,h1,h2,Calls.callWith_builtin rfl (PySem.evalArgs_none (i O d Y H1 x [] v [] Q c b .nil e))⟩
def acw(l:PlainAttrs T)(a:Slot T name id)(y:typeOf (.builtin id)=pure (.type "method_descriptor"))(p:MtR X id r)(n:PE X o to)(q:PA X (e::es) t)
  (w:attributeBase o name X.env (eval o X.env)=eval o X.env:=by rfl)
  (b:((backTo Y_ (starEach (e :: es) X.env)).all (λx => !x.1) && (backToKw Y_ (keywordEach [] X.env)).all (λx=>x.1.isSome)
   && decide ((e::es).length+([]:List Keyword).length+(if([]:List Keyword).isEmpty then 0 else 1)<30))=true:=by rfl)
  (u:(apos.endLine==Y_.line)=true:=by rfl) (m:starEach (e::es) X.env=(false,eval e X.env)::starEach es X.env:=by rfl) (z:(backTo Y_ (starEach es X.env)).any (·.1)=false:=by rfl) :
  PE X (.Call (.Attribute o name apos) (e::es) [] Y_) (IC X.K T r to t):=by
 intro O s Y H Q I h;refine wpAny_Call_method_late w b u rfl (thn (n O s Y H _ I h) ?_);rintro v g ⟨x,H1,d,c,ty,k⟩;let⟨h1,h2⟩:=ng d c ty;refine⟨T,id,l,a,y,h1,h2,?_⟩;have hA:=q Y_ O g Y H1 _ d k;rw[m]at hA ⊢;refine Calls.callWith_builtin (by show(false||(backTo Y_ (starEach es X.env)).any (·.1))=false;rw[z]<;>rfl) (Calls.evalArgs_plain ?_)
 exact thn hA λS f ⟨vs,H2,A,i,j⟩=>p O f Y H2 x vs v S Q A c i j
end
end L2
namespace L2
open PySem PySem.Spec PyProof.Rows
def MtM(X:Cx)(a:String)(r:V->List V->Hp->VK->Prop):Prop:=
 ∀(O:List (Addr×Obj)) (s:Shared) (Y:St) (H:Hp) (x:V) (xs:List V) (v:Value) (S:List Value) (Q:VK),Z0 X O Y H s->RelV x v->ZG xs S->r x xs H Q ->
  wpAny (model X.prog X.w) X.A (call (.builtin a) (v::S)) (EP X O Y Q) X.xe s
def ZG.one:∀{x:V} {S:List Value},ZG [x] S ->∃u,S=[u]/\RelV x u
 |_,_,.cons r .nil=>⟨_,rfl,r⟩
def ZG.zero:∀{S:List Value},ZG [] S->S=[]
 |_,.nil=>rfl
def ZG.dropLast{xs:List V}{S:List Value}(h:ZG xs S):ZG xs.dropLast S.dropLast:=by
 induction h with
 |nil=>exact .nil
 |cons r t ih=>
  cases t with
  |nil=>exact .nil
  |cons q t'=>exact .cons r ih
def ZG.eraseIdx:∀{xs:List V} {S:List Value} (i:Nat),ZG xs S->ZG (xs.eraseIdx i) (S.eraseIdx i)
 |_,_,_,.nil=>.nil
 |_,_,0,.cons _ t=>t
 |_,_,i+1,.cons r t=>.cons r (ZG.eraseIdx i t)
def ZG.reverse{xs:List V}{S:List Value}(h:ZG xs S):ZG xs.reverse S.reverse:=by
 induction h with
 |nil=>exact .nil
 |cons r t ih=>rw[Qj,Qj];exact ZG.append ih (.cons r .nil)
def pS(l:List α):l.eraseIdx (l.length-1)=l.dropLast:=by
 induction l with
 |nil=>rfl
 |cons a r ih=>
  cases r with
  |nil=>rfl
  |cons b r=>
   have e:(a::b::r).length-1=((b::r).length-1)+1:=by
    have h1:(a::b::r).length=r.length+2:=rfl;have h2:(b::r).length=r.length+1:=rfl;lia
   rw[e,List.eraseIdx_cons_succ,ih]
   all_goals rfl
def jj{a:Type}:∀(l:List a) (i:Nat),(l.eraseIdx i).length<=l.length
 |[],_=>G8 _
 |_::_,0=>V8 _
 |_::r,i+1=>P8 (jj r i)
section
variable{Y:St}{l b:Addr}{xs ys zs:List V}
def Z0.TV{its':List Value}{f:Array Value->Array Value}(I:Z0 X O Y H s)(h:H l=some (.Z5 xs))
  (e:s.heap.get? l=some {cls:=.type "list",data:=.seq ZU.toArray n}) (d:f ZU.toArray=its'.toArray) (b:ZG ys its') (a:ys.length<=sizeLine) :
  Z0 X O Y (upd H l (.Z5 ys)) {s with heap:=s.heap.update l (Obj.mapSeq f),toks:=t'}:=by
 have q:=PySem.IsL.update e f;rw[d]at q;refine I.write (x:=l) (e:=l) (by rw[h];exact trivial) (.inl rfl) (λb' u g c=>(Ri s.heap (Obj.mapSeq f) (Ne.symm g)).trans c) ⟨_,q⟩ ?_
 exact⟨a,its',_,b,q⟩
def Z0.lnew(I:Z0 X O Y H s)(b:ZG ys ZU)(a:ys.length<=sizeLine):
  Z0 X O Y (upd H s.heap.objs.size (.Z5 ys)) {s with heap:=s.heap.push {cls:=.type "list",data:=.seq ZU.toArray},toks:=t'}:=
 I.laid (λ_ _ q=>G4 _ q) (G8 _) ⟨a,ZU,0,b,Hc _ rfl⟩
def Z0.fresh(I:Z0 X O Y H s):H s.heap.objs.size=none:=I.ZJ.fresh (G8 _)
def Z0.VP(I:Z0 X O Y H s)(a:H l=some (.Z5 xs)):xs.length<=sizeLine /\∃(ZU:List Value) (n:Nat),ZG xs ZU/\xs.length=ZU.length/\s.heap.get? l=some {cls:=.type "list",data:=.seq ZU.toArray n}:=by
 let⟨z,ZU,n,r,e⟩:=I.ZJ l _ a;exact⟨z,ZU,n,r,r.length,e⟩
def sD(h:n<=sizeLine):Builtin.List.listTooLong n=false:=by
 unfold Builtin.List.listTooLong;exact Vu (by lia)
end
section
def Gw:V->List V->Hp->VK->Prop:=λx vs H Q=>∃l xs y,x=.ref l/\vs=[y]/\H l=some (.Z5 xs)/\xs.length<sizeLine/\Q .ZK (upd H l (.Z5 (xs++[y])))
def jd:MtM X "list.append" Gw:=by
 intro O s Y H x vs v S Q I c d h;let⟨l,xs,y,rfl,rfl,a,g,q⟩:=h;cases c;let⟨u,rfl,f⟩:=d.one;let⟨z,ZU,n,r,j,e⟩:=I.VP a;refine OG F.slot_list_append ⟨_,e,rfl⟩ F.entry_list_append (F.args_list_append_2 _ _) (PySem.list_append l ZU.toArray n u (by rw[XA];lia)) ⟨e,?_⟩
 refine⟨.ZK,_,I.TV (its':=ZU++[u]) a e #[3] (r.append (.cons f .nil)) ?_,rfl,q⟩
 rw[YB,Rp];lia
def Gv:V->List V->Hp->VK->Prop:=λx vs H Q=>∃l b xs zs,x=.ref l/\vs=[.ref b]/\H l=some (.Z5 xs)/\H b=some (.Z5 zs)/\xs.length+zs.length<=sizeLine/\Q .ZK (upd H l (.Z5 (xs++zs)))
def rj:MtM X "list.extend" Gv:=by
 intro O s Y H x vs v S Q I f g h;let⟨l,b,xs,zs,rfl,rfl,d,t,B,q⟩:=h;cases f;let⟨u,rfl,j⟩:=g.one;cases j;let⟨z,ZU,n,r,C,e⟩:=I.VP d;let⟨A,a,o,k,D,w⟩:=I.VP t;have c:ZU.toArray.size+a.toArray.size<=sizeLine:=by rw[XA,XA];lia
 have y : ¬ (!ZU.toArray.isEmpty&&Builtin.List.listTooLong (ZU.toArray.size+a.toArray.size))=true:=by
  rw[sD c,Bool.and_false];exact G7
 refine OG F.slot_list_extend ⟨_,e,rfl⟩ F.entry_list_extend (F.args_list_extend_2 _ _)
  (AutoSeq1.list_extend_list_list_0 l ZU.toArray n b a.toArray o y (by rw[XA];lia) (by lia)) ⟨e,w,?_⟩
 refine⟨.ZK,_,I.TV (its':=ZU++a) d e #[3] (r.append k) ?_,rfl,q⟩
 rw[YB];lia
def rPop:V->List V->Hp->VK->Prop:=λx vs H Q=>∃l xs y,x=.ref l/\vs=[]/\H l=some (.Z5 xs)/\xs[xs.length-1]?=some y/\Q y (upd H l (.Z5 xs.dropLast))
def zZ:MtM X "list.pop" rPop:=by
 intro O s Y H x vs v S Q I c d h;let⟨l,xs,y,rfl,rfl,b,g,q⟩:=h;cases c;have a:=d.zero;subst a;let⟨z,ZU,n,r,j,e⟩:=I.VP b;let⟨u,i,f⟩:=r.get g;have k:ZU.toArray[ZU.toArray.size-1]?=some u:=by
  show ZU.toArray[ZU.length-1]?=some u;rw[<-Vl,<-j];exact i
 refine OG F.slot_list_pop ⟨_,e,rfl⟩ F.entry_list_pop (F.args_list_pop_1 _) (MeetsSeq.list_pop_last l ZU.toArray n u k (by rw[XA];lia)) ⟨e,?_⟩
 refine⟨y,_,I.TV (its':=ZU.dropLast) b e ?_ r.dropLast ?_,f,q⟩
 .show ZU.toArray.eraseIdxIfInBounds (ZU.toArray.size-1)=ZU.dropLast.toArray
  rw[XA,Q1,pS]
 .rw [List.length_dropLast]
  omega
def Gz:V->List V->Hp->VK->Prop:=λx vs H Q=>∃l xs i k y,x=.ref l/\vs=[.int i]/\H l=some (.Z5 xs) /\ -(2 ^ 63)<=i/\i<2 ^ 63/\seqIndex? i xs.length=some k/\xs[k]?=some y/\Q y (upd H l (.Z5 (xs.eraseIdx k)))
def uH:MtM X "list.pop" Gz:=by
 intro O s Y H x vs v S Q I b c h;let⟨l,xs,i,k,y,rfl,rfl,a,h1,h2,hk,f,q⟩:=h;cases b;let⟨u,rfl,d⟩:=c.one;let⟨t,rfl⟩:=d;let⟨z,ZU,n,r,j,e⟩:=I.VP a;let⟨w,g,m⟩:=r.get f;refine OG F.slot_list_pop ⟨_,e,rfl⟩ F.entry_list_pop (F.args_list_pop_2 _ _)
  (MeetsSeq.list_pop_at l ZU.toArray n i t k w (fitsIndex_both h1 h2) (by rw[XA,<-j];exact hk) (by rw[<-Vl];exact g) (by rw[XA];lia)) ⟨e,?_⟩
 refine⟨y,_,I.TV (its':=ZU.eraseIdx k) a e ?_ (r.eraseIdx k) ?_,m,q⟩
 .show ZU.toArray.eraseIdxIfInBounds k=(ZU.eraseIdx k).toArray
  rw[Q1]
 .have:=jj xs k
  lia
def Gi:R2:=λx y H Q=>∃l b xs zs,x=.ref l/\y=.ref b/\H l=some (.Z5 xs)/\H b=some (.Z5 zs)/\xs.length+zs.length<=sizeLine /\∀p,H p=none->Q (.ref p) (upd H p (.Z5 (xs++zs)))
def abC:OpR X (binaryOp .Add) Gi:=by
 intro O s Y H x y v u Q I d c h;let⟨l,b,xs,zs,rfl,rfl,g,i,p,q⟩:=h;cases d;cases c;let⟨z,ZU,n,r,t,e⟩:=I.VP g;let⟨m,a,o,f,w,k⟩:=I.VP i;refine PySem.P.add_list e k ?_ (by rw[XA,XA];omega)
 have j:ZU.toArray++a.toArray=(ZU++a).toArray:=by simp
 rw[j];exact⟨.ref _,_,I.lnew (t':=s.toks) (r.append f) (by rw[YB];omega),rfl,q _ I.fresh⟩
end
end L2
namespace Att
open PySem PySem.W PySem.Calls PyProof.Rows
def ot{P:Params}:∀(ns:List Int) (vs:List Value),WellAll P h vs (ns.map WData.int)->IntsAre vs ns:=by
 intro ns
 induction ns with
 |nil=>
  intro vs w;rw[Px]at w;cases w;exact .nil
 |cons n ns ih=>
  intro vs w;rw[Y2]at w;cases w with
  |cons a b=>
   cases a;exact .cons _ _ (ih _ b)
def rP{l:OpenLaw}(y:l.most=some n){P:Params}{args:List WData}{c:List Value}
  (o:l.row.toRowW.claim.pre args=true) (j:WellAll P h c args) :
  ∃a vs ns,c=[Value.ref a]/\args=[WData.list (ns.map WData.int)]/\h.get? a=some {cls:=.type "list",data:=.seq vs.toArray}/\IntsAre vs ns/\ns.length<=n:=by
 have A:WShape.hasAll [] args [.list .int]=true:=(pre_splitW o).1;have k:l.pre.holds [] {args:=args}=true:=(pre_splitW o).2;let⟨d,r,rfl,h1,h2⟩:=hasAllW_cons A;obtain rfl:=hasAllW_nil h2;let⟨xs,rfl,z⟩:=hasW_list h1;let⟨ns,rfl⟩:=items_int z;have f:ns.length<=n:=by
  unfold OpenLaw.pre at k;have g:(WTm.not (.lt (.lit (.int (n:Int))) (.len (.arg 0)))).holds [] {args:=[.list (ns.map .int)]}=true:=by
   have g:=(holds_andW k).1;rw[y]at g;exact g
  have h5:=condW_of g (w_not (w_lt w_lit (w_len_list (w_arg rfl))));rw[Zd]at h5;refine Nat.le_of_not_lt λq=>?_;have w:(n:Int)<((ns.length:Nat):Int):=by omega
  first
   |(rw[Vt w]at h5;exact absurd h5 #[1])
   |(simp at h5;omega)
 cases j with
 |cons u t=>
  cases t;cases u with
  |list ho B=>exact⟨_,_,ns,rfl,rfl,ho,ot ns _ B,f⟩
def qQ(l:OpenLaw)(args:List WData):l.row.toRowW.claim.post args (.bool true) args=true:=
 postW_of (r:=l.row.toRowW) (X:=(true==true))
  (show WShape.has [] (.bool true) .bool=true by first|rfl|decide|simp[WShape.has,WShape.arms,WShape.armsAll])
  (show(WTm.eq .res (.lit (.bool true))).value [] {args:=args,res:=some (.bool true),after:=args}=some (.bool (true==true))from w_eq_bool (w_res rfl) w_lit) rfl
def attach_call{l:OpenLaw}{q:Program}{loose:List Str}{XP:(Str->Option Value)->Heap->Prop}{YP:World->Heap->Prop}{d:DefRec}
  (F:l.most=some n) (A:d.params.defaults=[])
  (call:∀ (w:World) (Zf Zz : Shared) (mg u:Str->Option Value) (k:Addr) (o:Obj) (pm t g:Value) (a:Addr) (vs:List Value) (ns:List Int),
   Ground q loose [] XP w Zf mg u Zz.heap->YP w Zz.heap ->
   Zz.heap.get? k=some o->o.data=.func (docDef d.name d.params d.body d.scope pm t g)->Zz.heap.CodeRec t d.name->mg d.name=some (.ref k) ->
   Zz.heap.get? a=some {cls:=.type "list",data:=.seq vs.toArray}->IntsAre vs ns->ns.length<=n->Zz.gens = #[] ->
   codeAny (model l.prog w) callerA (.call (.ref k) ⟨[.ref a],[]⟩) (λr s'=>r=.ok (.ret (.bool true))/\OldK Zz.heap s'.heap/\s'.os=Zz.os/\AllBare s'.gens) Zz) :
  WalkO q loose XP YP l.row.toRowW d [] (λf vs=>PySem.call f vs):=by
 intro w Zf Zz mg u G Z_ k o pm t g M HM ho J N C z I args vals Q P B D y R;obtain rfl:M=.none:=Dflts.none C A;obtain rfl:HM=.none:=Dflts.noKw C;let⟨a,vs,ns,rfl,rfl,O,c,j⟩:=rP F P y;refine enter_call (Rz (call w Zf Zz mg u k o pm t g a vs ns G Z_ ho (fd_plain J) N z O c j I) λr s' E=>?_);let⟨rfl,h2,L,K⟩:=E;exact⟨.inl ⟨.bool true,.bool true,[],rfl,λ_=>rfl,.bool true,qQ l _,λ_=>⟨List.Pairwise.nil,λ_ H=>(nomatch H)⟩⟩,h2,L,K⟩
end Att
namespace L2
open PySem PySem.Spec PyProof.Rows
def fN:∀{vs:List Value} {ns:List Int},IntsAre vs ns->ZG (ns.map V.int) vs
 |_,_,.nil=>.nil
 |_,_,.cons n t h=>.cons ⟨t,rfl⟩ (fN h)
def Dw(H:Hp):Prop:=∀b,H b=none \/∃o xs,H b=some (.Zv o (.Z5 xs))
def tH{P:Program}{E:Str->Option Value}{k:Nat}{L:Addr}{x:Str}{sp:Sp}{Zz : Shared}{vs:List Value}
  (U:K.In Zz.heap) (T:Zz.heap.Ns mainGlobals mg) (c:Zz.heap.Ns builtinsNs E) (I:∀x:Str,x ≠ "__name__" -> E x=bootBuiltins x) (A:Zz.heap.NoLimit) (hg:Zz.gens = #[])
  (D:Zz.heap.get? a=some {cls:=.type "list",data:=.seq vs.toArray}) (hi:IntsAre vs ns) (N:ns.length<=sizeLine) (Z:Zc k callerA)
  (F:∀base:Heap,K.In base->base.Ns mainGlobals mg->YQ P w K mg base CX k L fd [x] sp) (Sg:∀(s:Shared) (u:Value),BindsTo s fd ⟨[u],[]⟩ [(x,u)])
  (G:∀H:Hp,Dw H->SqL K H a (ns.map V.int)->sp [.ref a] H (λv _=>v=.bl true) λ_ _ _=>False)
  (J:∀H e s',CX [] H Zz (λ_ _ _=>False) e s'->False) :
  codeAny (model P w) callerA (.call (.ref L) ⟨[.ref a],[]⟩) (λr s'=>r=.ok (.ret (.bool true))/\OldK Zz.heap s'.heap/\s'.os=Zz.os/\AllBare s'.gens) Zz:=by
 have M:=fN hi;have t:=hi.length;have g:∀H:Hp,Dw H->SqL K H a (ns.map V.int)->HOk P w H Zz.heap->(∀b,H b≠none->b=a)->(H a≠none->K.lookup a=none) ->
   codeAny (model P w) callerA (.call (.ref L) ⟨[.ref a],[]⟩) (λr s'=>r=.ok (.ret (.bool true))/\OldK Zz.heap s'.heap/\s'.os=Zz.os/\AllBare s'.gens) Zz:=by
  intro H O hS S Q hK;have base_of:∀{b:Addr} {o:Obj},Zz.heap.get? b=some o->H b=none->(BB Zz.heap H).get? b=some o:=λe n=>um e n;have UL:∀{b:Addr} {o:Obj} {es:Array DictEntry} {ep:Nat},Zz.heap.get? b=some o->o.data=.dict es ep->H b=none:=λ{b o es ep} e d=>by
   cases q:H b with
   |none=>rfl
   |some u=>
    have e':b=a:=Q b (by rw[q];simp)
    subst e';rw[D]at e;cases e;have d':Data.seq vs.toArray _=Data.dict es ep:=d;cases d'
  have f:∀{b:Addr} {m:Str->Option Value},Zz.heap.Ns b m->(BB Zz.heap H).Ns b m:=λ{b m} ⟨o,es,ep,e,d,r⟩=>⟨o,es,ep,base_of e (UL e d),d,r⟩
  have B:K.In (BB Zz.heap H):=λb o e=>base_of (U b o e) (by
   cases q:H b with
   |none=>rfl
   |some u=>
    have e':b=a:=Q b (by rw[q];simp)
    subst e'
    rw[hK (by rw[q];simp)]at e;cases e)
  have hM:Mod K mg (BB Zz.heap H):=⟨B,f T,⟨E,f c,I⟩,let⟨Y,h1,h2⟩:=A;⟨Y,f h1,h2⟩⟩
  have e0:VS P w K mg (BB Zz.heap H) callerA [] Zz H:=⟨rfl,hM,λb o e=>vo e,OH (qL _ _),trivial,λb c=>absurd (show b∈([]:List Addr)from c) #[3],S,.of_eq hg⟩
  refine Rz ((F _ B (f T)).run callerA [] Zz H ⟨[.ref a],[]⟩ [.ref a] [.ref a] _ _ Z e0 (Sg Zz (.ref a)) (.cons rfl .nil) (G H O hS)) λr s' h=>?_;cases r with
  |error e=>exact(J H e s' h).elim
  |ok fl=>
   cases fl with
   |next=>exact False.elim h
   |brk=>exact False.elim h
   |cont=>exact False.elim h
   |ret u=>
    let⟨v,H',os,C,un,y,r',q⟩:=h;have X:v=.bl true:=q;subst X;obtain rfl:u=Value.bool true:=r';refine⟨rfl,OldK.of_keep λb o e=>?_,os,C⟩;cases q:H b with
    |none=>exact un.keep b o e q (by intro z;exact absurd (show b∈([]:List Addr)from z) #[3]) #[3]
    |some u=>
     rcases O b with z|⟨ob,xs,z⟩
     .rw [q]at z;cases z
     .have W:=un.WJ b ob _ z
      let⟨R,_⟩:=S b _ z;let⟨e2,_⟩:=y b _ W;rw[e]at R;cases R;exact e2
 cases hk:K.lookup a with
 |some o=>
  have e:=U a o hk;rw[D]at e;cases e;refine g (λ_=>none) (λ_=>.inl rfl) (.inr ⟨_,vs.toArray,_,hk,rfl,rfl,rfl,by rw[XA,t];exact N,by simpa using M⟩) (λb u z=>by have j:(none:Option HO)=some u:=z;cases j) (λb z=>absurd rfl z) λz=>absurd rfl z
 |none=>
  refine g (λb=>if b=a then some (.Zv {cls:=.type "list",data:=.seq vs.toArray} (.Z5 (ns.map V.int)))else none) (λb=>?_) (.inl (.inr ⟨{cls:=.type "list",data:=.seq vs.toArray},Yn rfl⟩)) (λb u z=>?_) (λb z=>?_) λ_=>hk
  .by_cases c:b=a
   .exact .inr ⟨_,_,Yn c⟩
   .exact .inl (Yb c)
  .by_cases c:b=a
   .have j:=(Yn c).symm.trans z
    cases j;subst c;exact⟨D,by rw[Zd];exact N,vs,_,M,D⟩
   .have j:=(Yb c).symm.trans z
    cases j
  .by_cases c:b=a
   .exact c
   .exact absurd (Yb c) z
end L2
namespace L2
open PySem PySem.Spec PyProof.Rows
def Co(s:Stmt):Arguments:=match s with
 |.FunctionDef _ a _ _ _ _ _ _ _ _=>a
 |_=>{posonlyargs:=[],args:=[],vararg:=none,kwonlyargs:=[],kw_defaults:=[],kwarg:=none,defaults:=[]}
def Cr(s:Stmt):List Stmt:=match s with
 |.FunctionDef _ _ b _ _ _ _ _ _ _=>b
 |_=>[]
def Bk(s:Stmt):Scope:=match s with
 |.FunctionDef _ _ _ _ _ _ sc _ _ _=>sc
 |_=>{kind:=.function,names:=[],isGenerator:=false,isCoroutine:=false}
abbrev Xz:XS:=λ_ _ _ _ _ _=>False
abbrev E0:XK:=λ_ _ _=>False
def cW:AO Xz X E0:=λ_ _ _ _ _ _ _ h=>h.elim
structure Fun(K:Hf)(x qual:Str)(st:Stmt)(f:Addr)(fd:FuncData):Prop where
 ex:∃(JV:Value) (od:Option Addr) (HM doc pm:Value) (an:Option Addr) (Yv ct:Value) (VQ:Array (Option Value)),
  fd=PySem.W.fnOf x qual (Co st) (Cr st) (Bk st) .none HM doc pm an Yv ct/\K.lookup f=some ⟨JV,od,.func fd,VQ⟩/\PySem.W.codeIn K Yv qual=true
 kp:PySem.W.keepIn K (.ref f)=true
def bj{A B:Prop}(h:B):if false=true then A else B:=by
 rw[Yb G7];exact h
def bp{A B:Prop}(h:A):if true=true then A else B:=by
 rw[Yn rfl];exact h
end L2
namespace L2
open PySem PySem.Spec PyProof.Rows
section
variable{κ:Type}[DecidableEq κ]
def A0(b:List (κ×V))(k:κ):Option V:=(b.find? λa=>decide (a.1=k)).map (·.2)
def putK(b:List (κ×V))(k:κ)(v:V):List (κ×V):=
 if(b.any λa=>decide (a.1=k))=true then b.map (λa=>if a.1=k then(a.1,v)else a)else b++[(k,v)]
def bP{p:κ×V}{r:List (κ×V)}{k:κ}(e:p.1=k):A0 (p::r) k=some p.2:=by simp[A0,Ux,e]
def bR{p:κ×V}{r:List (κ×V)}{k:κ}(e : ¬ p.1=k):A0 (p::r) k=A0 r k:=by simp[A0,Ux,e]
def ka(k:κ):∀Z4:List (κ×V),(Z4.any λa=>decide (a.1=k))=(A0 Z4 k).isSome
 |[]=>rfl
 |p::r=>by
  rw[Ub];by_cases e:p.1=k
  .simp only [bP e,Vt e,Bool.true_or,Option.isSome_some]
  .rw [bR e,Vu e,Qz];exact ka k r
def fq(a:List (κ×V))(k:κ)(v:V):(putK a k v).length<=a.length+1:=by
 unfold putK;split
 .rw [Zd];lia
 .rw [YB,Xb,List.length_nil];lia
def RelO.UJ{o:Option V}{u:Option Value}(r:RelO o u):o.isSome=u.isSome:=by
 cases o with
 |none=>cases u with
  |none=>rfl
  |some _=>exact(show False from r).elim
 |some _=>cases u with
  |none=>exact(show False from r).elim
  |some _=>rfl
def KV.val{a:List (κ×V)}{vs:List (κ×Value)}(r:KV a vs)(k:κ):RelO (A0 a k) (valueAt vs k):=by
 unfold KV at r
 induction r with
 |nil=>exact True.intro
 |@cons p q ps IZ h t ih=>
  let⟨h1,h2⟩:=h;by_cases e:p.1=k
  .have e':q.1=k:=h1.symm.trans e
   have b:valueAt (q::IZ) k=some q.2:=by simp[valueAt,Ux,e']
   rw[bP e,b];exact h2
  .have e' : ¬ q.1=k:=λz=>e (h1.trans z)
   have b:valueAt (q::IZ) k=valueAt IZ k:=by simp[valueAt,Ux,e']
   rw[bR e,b];exact ih
def KV.any{b:List (κ×V)}{vs:List (κ×Value)}(r:KV b vs)(k:κ):(b.any λa=>decide (a.1=k))=vs.any λa=>decide (a.1=k):=by
 unfold KV at r
 induction r with
 |nil=>rfl
 |cons h t ih=>rw[Ub,Ub,ih,h.1]
def KV.Xe{b:List (κ×V)}{vs:List (κ×Value)}(r:KV b vs)(k:κ){y:V}{u:Value}(c:RelV y u):
  KV (b.map λa=>if a.1=k then(a.1,y)else a) (vs.map λa=>if a.1=k then(a.1,u)else a):=by
 unfold KV at r ⊢
 induction r with
 |nil=>exact .nil
 |@cons p q ps IZ h t ih=>
  rw[Y2,Y2];refine .cons ?_ ih;let⟨h1,h2⟩:=h;by_cases e:p.1=k
  .rw [Yn e,Yn (h1.symm.trans e)];exact⟨h1,c⟩
  .rw [Yb e,Yb (λz=>e (h1.trans z))];exact⟨h1,h2⟩
def KV.put{b:List (κ×V)}{vs:List (κ×Value)}(r:KV b vs)(k:κ){y:V}{u:Value}(a:RelV y u):KV (putK b k y) (stored vs k u):=by
 unfold putK stored;rw[r.any k];by_cases e:(vs.any λc=>decide (c.1=k))=true
 .rw [Yn e,Yn e];exact r.Xe k a
 .rw [Yb e,Yb e];exact Paired.snoc r ⟨rfl,a⟩
def KV.length{a:List (κ×V)}{vs:List (κ×Value)}(r:KV a vs):a.length=vs.length:=Qx r
end
def cZ{P:Program}{k:Key}{u:Value}(r:RelV (HM k) u):(AJ P w).is k u=true:=by
 cases k with
 |inl i=>let⟨t,e⟩:=(show∃t,u=Value.int i t from r);subst e;exact pD P w i t
 |inr x=>let⟨t,e⟩:=(show∃t,u=Value.str x t from r);subst e;exact pG P w x t
def jx{P:Program}{w:World}:∀{ks:List Key} {S:List Value},ZG (ks.map HM) S->ItemsAre (AJ P w) ks S
 |[],_,r=>by rw[Px]at r;cases r;exact .nil
 |k::ks,_,r=>by
  rw[Y2]at r;cases r with
  |cons h t=>exact .cons (cZ h) (jx t)
abbrev KT(H:Hp):List (List Key×V)->List (List Key×Addr×Value)->Prop:=Paired λp q=>p.1=q.1/\H q.2.1=some (.ZW (p.1.map HM))/\RelV p.2 q.2.2
def KT.val{xs:List (List Key×Addr×Value)}(r:KT H Z4 xs)(k:List Key):RelO (A0 Z4 k) ((atKey xs k).map (·.2)):=by
 induction r with
 |nil=>exact True.intro
 |@cons p q ps IZ h t ih=>
  let⟨h1,_,h2⟩:=h;by_cases e:p.1=k
  .have e':q.1=k:=h1.symm.trans e
   have b:atKey (q::IZ) k=some q.2:=by simp[atKey,Ux,e']
   rw[bP e,b];exact h2
  .have e' : ¬ q.1=k:=λz=>e (h1.trans z)
   have b:atKey (q::IZ) k=atKey IZ k:=by simp[atKey,Ux,e']
   rw[bR e,b];exact ih
def KT.Xe{xs:List (List Key×Addr×Value)}(r:KT H Z4 xs)(k:List Key){y:V}{u:Value}(b:RelV y u):
  KT H (Z4.map λa=>if a.1=k then(a.1,y)else a) (xs.map (putAt k u)):=by
 induction r with
 |nil=>exact .nil
 |@cons p q ps IZ h t ih=>
  rw[Y2,Y2];refine .cons ?_ ih;let⟨h1,h2,c⟩:=h;unfold putAt;by_cases e:p.1=k
  .rw [Yn e,Yn (h1.symm.trans e)];exact⟨h1,h2,b⟩
  .rw [Yb e,Yb (λz=>e (h1.trans z))];exact⟨h1,h2,c⟩
def KT.put{xs:List (List Key×Addr×Value)}(r:KT H Z4 xs)(k:List Key){b:Addr}{y:V}{u:Value}(d:H b=some (.ZW (k.map HM)))(a:RelV y u):
  KT H (putK Z4 k y) (storedH xs k b u):=by
 have e:(Z4.any λc=>decide (c.1=k))=(atKey xs k).isSome:=by
  rw[ka,(r.val k).UJ,QN]
 unfold putK storedH;rw[e];by_cases q:(atKey xs k).isSome=true
 .rw [Yn q,Yn q];exact r.Xe k a
 .rw [Yb q,Yb q];exact Paired.snoc r ⟨rfl,d,a⟩
def KT.keeps{xs:List (List Key×Addr×Value)}(r:KT H Z4 xs)(a:∀b ys,H b=some (.ZW ys)->H' b=some (.ZW ys)):KT H' Z4 xs:=
 Paired.TC r λ_ _ z=>⟨z.1,a _ _ z.2.1,z.2.2⟩
section
variable{P:Program}
def nA{u:HO}(ok:HOk P w H h)(e:Rd H a u):ObjOk P w H h a u:=e.ok ok
def c7{b:List (Key×V)}(c:HOk P w H h)(e:Rd H a (.dK b)):b.length<=sizeLine/\(a==sysModules)=false /\∃vs,KV b vs/\h.DictOf (AJ P w) a vs:=
 show ObjOk P w H h a (.dK b)from nA c e
def acn{b:List (Key×V)}(c:HOk P w H h)(e:H a=some (.dK b)):b.length<=sizeLine/\(a==sysModules)=false /\∃vs,KV b vs/\h.DictOf (AJ P w) a vs:=c7 c (.inl e)
def b5{ks:List Key}(b:HOk P w H h)(e:H a=some (.ZW (ks.map HM))):(tupleKind (AJ P w)).is h ks a:=by
 let⟨_,ZU,r,o,h1,h2,n,c⟩:=(show ObjOk P w H h a (.ZW (ks.map HM))from b a _ e);exact⟨o,ZU.toArray,n,h1,h2,c,by simpa using jx r⟩
def cY(c:HOk P w H h)(e:Rd H a (.dT Z4)):Z4.length<=sizeLine/\(a==sysModules)=false /\
  ∃xs,KT H Z4 xs/\h.DictOfH (tupleKind (AJ P w)) a xs:=by
 let⟨z,y,xs,r,o,es,ep,h1,h2,i,g,f⟩:=(show ObjOk P w H h a (.dT Z4)from nA c e);refine⟨z,y,xs,r,o,es,ep,h1,h2,i,g,λx b=>?_,f⟩;have all:∀{l:List (List Key×V)} {m:List (List Key×Addr×Value)},KT H l m ->∀x∈m,(tupleKind (AJ P w)).is h x.1 x.2.1:=by
  intro l m q
  induction q with
  |nil=>intro x b;exact nomatch b
  |@cons p q ps IZ d t ih=>
   intro x b;rcases Xq.mp b with e|b
   .subst e
    exact b5 c (by rw[<-d.1];exact d.2.1)
   .exact ih x b
 exact all r x b
def ny(b:HOk P w H h)(e:H a=some (.dT Z4)):Z4.length<=sizeLine/\(a==sysModules)=false /\
  ∃xs,KT H Z4 xs/\h.DictOfH (tupleKind (AJ P w)) a xs:=cY b (.inl e)
end
def DGet(H:Hp)(a:Addr)(y:V)(r:Option V):Prop:=
 (∃Z4 k,Rd H a (.dK Z4)/\y=HM k/\r=A0 Z4 k) \/∃Z4 k b,Rd H a (.dT Z4)/\y=.ref b/\H b=some (.ZW (k.map HM))/\r=A0 Z4 k
def DPut(H:Hp)(a:Addr)(y v:V)(c:Hp):Prop:=
 (∃Z4 k,H a=some (.dK Z4)/\y=HM k/\Z4.length<sizeLine/\c=upd H a (.dK (putK Z4 k v))) \/
 ∃Z4 k b,H a=some (.dT Z4)/\y=.ref b/\H b=some (.ZW (k.map HM))/\Z4.length<sizeLine/\c=upd H a (.dT (putK Z4 k v))
def DGet.k{H:Hp}{a:Addr}{b:List (Key×V)}{k:Key}(e:H a=some (.dK b)):DGet H a (HM k) (A0 b k):=.inl ⟨b,k,.inl e,rfl,rfl⟩
def DPut.k{H:Hp}{a:Addr}{b:List (Key×V)}{k:Key}{v:V}(e:H a=some (.dK b))(c:b.length<sizeLine):DPut H a (HM k) v (upd H a (.dK (putK b k v))):=.inl ⟨b,k,e,rfl,c,rfl⟩
def DPut.t{b:Addr}{k:List Key}(e:H a=some (.dT Z4))(d:H b=some (.ZW (k.map HM)))(c:Z4.length<sizeLine):
  DPut H a (.ref b) v (upd H a (.dT (putK Z4 k v))):=.inr ⟨Z4,k,b,e,rfl,d,c,rfl⟩
section
variable{Y:St}{y:V}{u r:Value}{o:Option V}{E:Value->Shared->Prop}
def Z0.Xd(I:Z0 X O Y H s):sysModules<s.heap.objs.size:=by
 have h:mainGlobals<s.heap.objs.size:=(I.mod.glob.keeps I.bk).lt;exact QP #[1] h
def qJ(n:A.units+1<cLine)(I:Z0 X O Y H s)(g:DGet H a y (some v))(m:RelV y u)(h:∀d s',Z0 X O Y H s'->RelV v d->Q d s'):
  wpAny (model X.prog X.w) A (getItem (.ref a) u) Q E s:=by
 rcases g with⟨Z4,k,e,i,l⟩|⟨Z4,k,b,e,i,t,l⟩
 .subst i
  let⟨z,r,vs,c,dd⟩:=c7 I.ZJ e;let⟨d,f,j⟩:=RelO.some_of (v:=v) (o:=valueAt vs k) (by rw[l];exact c.val k)
  exact wpAny_getItem_of (cZ m) dd.mapOf f (h d _ (I.tok _) j)
 .subst i
  cases(show u=Value.ref b from m);let⟨z,r,xs,c,dd⟩:=cY I.ZJ e;let⟨d,f,j⟩:=RelO.some_of (v:=v) (o:=(atKey xs k).map (·.2)) (by rw[l];exact c.val k)
  let⟨p,q,x⟩:=X7.mp f;refine wpAny_getItem_heap (QE n) (b5 I.ZJ t) dd q ?_;rw[x];exact h d _ (I.tok _) j
def d_in(j:A.units+1<cLine)(I:Z0 X O Y H s)(g:DGet H a y o)(i:RelV y u)(h:∀s',Z0 X O Y H s'->Q (.bool o.isSome) s'):
  wpAny (model X.prog X.w) A (compareOp .In u (.ref a)) Q E s:=by
 rcases g with⟨Z4,k,e,f,l⟩|⟨Z4,k,b,e,f,m,l⟩
 .subst f
  let⟨z,d,vs,c,dd⟩:=c7 I.ZJ e;refine wpAny_in_of (cZ i) d dd.mapOf ?_;rw[<-(c.val k).UJ,<-l];exact h _ (I.tok _)
 .subst f
  cases(show u=Value.ref b from i);let⟨z,d,xs,c,dd⟩:=cY I.ZJ e;refine wpAny_in_heap (QE j) (b5 I.ZJ m) d dd ?_;have q:=(c.val k).UJ;rw[QN]at q;rw[<-q,<-l];exact h _ (I.tok _)
def vk(j:A.units+1<cLine)(I:Z0 X O Y H s)(g:DGet H a y o)(i:RelV y u)(h:∀s',Z0 X O Y H s'->Q (.bool (!o.isSome)) s'):
  wpAny (model X.prog X.w) A (compareOp .NotIn u (.ref a)) Q E s:=by
 rcases g with⟨Z4,k,e,f,l⟩|⟨Z4,k,b,e,f,m,l⟩
 .subst f
  let⟨z,d,vs,c,dd⟩:=c7 I.ZJ e;refine wpAny_notIn_of (cZ i) d dd.mapOf ?_;rw[<-(c.val k).UJ,<-l];exact h _ (I.tok _)
 .subst f
  cases(show u=Value.ref b from i);let⟨z,d,xs,c,dd⟩:=cY I.ZJ e;refine wpAny_notIn_heap (QE j) (b5 I.ZJ m) d dd ?_;have q:=(c.val k).UJ;rw[QN]at q;rw[<-q,<-l];exact h _ (I.tok _)
def gv{c:HO}(I:Z0 X O Y H s)(f:Mut (H a))(g:Heap.SameBut a s.heap h')(h:∃q,h'.get? a=some q)(d:ObjOk X.prog X.w (upd H a c) h' a c):
  Z0 X O Y (upd H a c) {s with heap:=h',toks:=t'}:=
 I.write (x:=a) (e:=a) f (.inl rfl) (λb q i z=>(g.2 b i).trans z) h d
def abt{P:Program}{c:List (Key×V)}{vs:List (Key×Value)}(z:c.length<=sizeLine)(d:(a==sysModules)=false)(b:KV c vs)(dd:h'.DictOf (AJ P w) a vs):
  ObjOk P w H' h' a (.dK c):=⟨z,d,vs,b,dd⟩
def rl{Q:Unit->Shared->Prop}(D:A.units+1<cLine)(I:Z0 X O Y H s)(g:DPut H a y v H')(t:RelV y u)(x:RelV v r)(h:∀s',Z0 X O Y H' s'->Q Unit.unit s'):
  wpAny (model X.prog X.w) A (setItem (.ref a) u r) Q E s:=by
 rcases g with⟨Z4,k,e,o,l,p⟩|⟨Z4,k,b,e,o,C,l,p⟩
 .subst o p
  let⟨z,n,vs,d,dd⟩:=acn I.ZJ e;have j:vs.length<=sizeLine:=by rw[<-d.length];exact z
  have m:(putK Z4 k v).length<=sizeLine:=by have:=fq Z4 k v;lia
  refine wpAny_setItem_pairs (hsz:=j) (cZ t) dd λh' i hs=>h _ ?_;have F:∃q,h'.get? a=some q:=let⟨q,_,_,f,_⟩:=i;⟨q,f⟩
  exact gv I (by rw[e];exact True.intro) hs F (abt m n (d.put k x) i)
 .subst o p
  cases(show u=Value.ref b from t);let⟨z,n,xs,d,dd⟩:=ny I.ZJ e;have j:xs.length<=sizeLine:=by rw[<-Qx d];exact z
  have m:(putK Z4 k v).length<=sizeLine:=by have:=fq Z4 k v;lia
  refine wpAny_setItem_heap (hsz:=j) (QE D) (b5 I.ZJ C) dd λh' i hs=>h _ ?_;let⟨q,es,ep,f,h2,K,J,_,G⟩:=i;refine gv I (by rw[e];exact True.intro) hs ⟨q,f⟩ ⟨m,n,_,(d.put k C x).keeps λc ys B=>?_,q,es,ep,f,h2,K,J,G⟩
  rw[af (cg B e (λz=>nomatch z))];exact B
end
end L2
namespace L2
open PySem PySem.Spec PyProof.Rows
def jY{P:Program}(h:Heap)(a:sysModules<h.objs.size):ObjOk P w H (h.push {cls:=.type "dict",data:=.dict #[]}) h.objs.size (.dT []):=
 ⟨RN _,Rg.mpr (Ne.symm (Hb a)),[],.nil,_,#[],0,Hc _ rfl,⟨rfl,rfl,rfl⟩,rfl,rfl,List.nodup_nil⟩
def GB:TE:=λ_ H Q=>∀p,H p=none->Q (.ref p) (upd H p (.dT []))
section
def sT:PE X (.Dict [] [] pos) GB:=λO s Y H Q I h=>
 wpAny_Dict_empty ⟨.ref s.heap.objs.size,_,I.laid (a:=s.heap.objs.size) (o:=.dT []) (t':=s.toks) (λ_ _ q=>G4 _ q) (G8 _) (jY s.heap I.Xd),rfl,h _ (I.ZJ.fresh (G8 _))⟩
end
structure M1(X:Cx)(o:Expr)(m:Str)(apos:Pos)(e:Expr)(Y_:Pos):Prop where
 base:attributeBase o m X.env (eval o X.env)=eval o X.env
 few:((backTo Y_ (starEach [e] X.env)).all (λx => !x.1) && (backToKw Y_ (keywordEach [] X.env)).all (λx=>x.1.isSome)
  && decide (([e]:List Expr).length+([]:List Keyword).length+(if([]:List Keyword).isEmpty then 0 else 1)<30))=true
 line:(apos.endLine==Y_.line)=true
 trees:backTo Y_ (starEach [e] X.env)=[(false,eval e X.env)]
structure M2(X:Cx)(o:Expr)(m:Str)(apos:Pos)(e f:Expr)(Y_:Pos):Prop where
 base:attributeBase o m X.env (eval o X.env)=eval o X.env
 few:((backTo Y_ (starEach [e,f] X.env)).all (λx => !x.1) && (backToKw Y_ (keywordEach [] X.env)).all (λx=>x.1.isSome)
  && decide (([e,f]:List Expr).length+([]:List Keyword).length+(if([]:List Keyword).isEmpty then 0 else 1)<30))=true
 line:(apos.endLine==Y_.line)=true
 trees:backTo Y_ (starEach [e,f] X.env)=[(false,eval e X.env),(false,eval f X.env)]
end L2
namespace PI
noncomputable section
open PySem
def ID(M:Nat)(p:SetTable.Probe):SetTable.Probe:=
 if p.more > 0 then{p with j:=p.j+1,more:=p.more-1}else
 let(i,perturb):=SetTable.leap M p.i p.perturb
 {p with j:=i,more:=SetTable.runEnd M i-i,i,perturb}
def Ar(M:Nat):Nat->SetTable.Probe->SetTable.Probe
 |0,p=>p
 |n+1,p=>Ar M n (ID M p)
def IE(M:Nat)(h:Int):SetTable.Probe:=
 let i:=SetTable.bits h % (M+1)
 {j:=i,more:=SetTable.runEnd M i-i,i,perturb:=SetTable.bits h,dummy:=none}
def IF(M:Nat)(h:Int)(n:Nat):Nat:=(Ar M n (IE M h)).j
def dC(M:Nat):∀(a b:Nat) (p:SetTable.Probe),Ar M (a+b) p=Ar M b (Ar M a p)
 |0,b,p=>by rw[T9];rfl
 |a+1,b,p=>by rw[Nat.succ_add];exact dC M a b _
def rp(M n:Nat)(p:SetTable.Probe):Ar M (n+1) p=ID M (Ar M n p):=dC M n 1 p
def qR(M:Nat)(p:SetTable.Probe):(ID M p).dummy=p.dummy:=by unfold ID;split<;>rfl
def iR(M:Nat):∀(n:Nat) (p:SetTable.Probe),(Ar M n p).dummy=p.dummy
 |0,_=>rfl
 |n+1,p=>(iR M n _).trans (qR M p)
def f7(M:Nat):∀(n:Nat) (p:SetTable.Probe),n<=p.more->Ar M n p={p with j:=p.j+n,more:=p.more-n}
 |0,p,_=>rfl
 |n+1,p,h=>by
  have e:ID M p={p with j:=p.j+1,more:=p.more-1}:=by unfold ID;rw[Yn (by lia)]
  show Ar M n (ID M p)=_;rw[e,f7 M n _ (by show n<=p.more-1;omega)]
  show SetTable.Probe.mk .. = SetTable.Probe.mk ..;congr 1
  .show p.j+1+n=p.j+(n+1);lia
  .show p.more-1-n=p.more-(n+1);lia
def head(M i q:Nat):SetTable.Probe:={j:=i,more:=SetTable.runEnd M i-i,i,perturb:=q,dummy:=none}
def kh(M i q:Nat):Ar M (SetTable.runEnd M i-i+1) (head M i q)=head M ((i*5+1+q / 32) % (M+1)) (q / 32):=by
 rw[rp,f7 M (SetTable.runEnd M i-i) (head M i q) (G8 _)];unfold ID;rw[Yb (by show ¬ (SetTable.runEnd M i-i-(SetTable.runEnd M i-i)) > 0;lia)]
 rfl
def y8(M i:Nat):SetTable.runEnd M i-i<=9:=by unfold SetTable.runEnd;split<;>lia
def IG(M:Nat):Nat->Nat×Nat->Nat×Nat
 |0,x=>x
 |k+1,x=>IG M k ((x.1*5+1+x.2 / 32) % (M+1),x.2 / 32)
def eF(M:Nat):∀(a b:Nat) (x:Nat×Nat),IG M (a+b) x=IG M b (IG M a x)
 |0,b,x=>by rw[T9];rfl
 |a+1,b,x=>by rw[Nat.succ_add];exact eF M a b _
def kj(M:Nat):∀(k:Nat) (i q:Nat),∃n,n<=10*k/\Ar M n (head M i q)=head M (IG M k (i,q)).1 (IG M k (i,q)).2
 |0,i,q=>⟨0,G8 _,rfl⟩
 |k+1,i,q=>by
  let⟨n,a,e⟩:=kj M k ((i*5+1+q / 32) % (M+1)) (q / 32);refine⟨(SetTable.runEnd M i-i+1)+n,by have:=y8 M i;lia,?_⟩
  rw[dC,kh,e];rfl
def gL(M:Nat):∀(k:Nat) (x:Nat×Nat),(IG M k x).2=x.2 / 32 ^ k
 |0,x=>by rw[Nat.pow_zero,Nat.div_one];rfl
 |k+1,x=>by
  show(IG M k _).2=_;rw[gL M k,Nat.div_div_eq_div_mul,Nat.pow_succ,Nat.mul_comm (32 ^ k)]
def IH(M:Nat)(k:Nat):Nat:=(IG M k (0,0)).1
def ll(M:Nat)(k i:Nat):IG M k (i,0)=((IG M k (i,0)).1,0):=by
 have:=gL M k (i,0);rw[Nat.zero_div]at this;exact OI rfl this
def CV(M:Nat):Nat->Nat->List Nat
 |0,_=>[]
 |n+1,i=>i::CV M n ((i*5+1) % (M+1))
def II(M:Nat):Bool:=(List.range (M+1)).all λj=>(CV M (M+1) 0).contains j
def Mok(M:Nat):Prop:=M=7\/M=31\/M=127\/M=511
def j3(M:Nat):∀(n i k:Nat),k<n->(CV M n i)[k]?=some (IG M k (i,0)).1
 |0,_,_,h=>by lia
 |n+1,i,0,_=>rfl
 |n+1,i,k+1,h=>by
  show(CV M n _)[k]?=_;rw[j3 M n _ k (by lia)]
  show _=some (IG M k ((i*5+1+0 / 32) % (M+1),0 / 32)).1;rw[Nat.zero_div,Nat.add_zero]
def j7(M:Nat):∀(n i:Nat),(CV M n i).length=n
 |0,_=>rfl
 |n+1,i=>SO (· + 1) (j7 M n _)
def mz(h:Mok M):II M=true/\IH M (M+1)=0:=by
 rcases h with rfl|rfl|rfl|rfl<;>decide +kernel
def lY(h:Mok M)(b:j<=M):∃k,k<=M/\IH M k=j:=by
 have h1:=(mz h).1;unfold II at h1;rw[YN]at h1;have h2:=h1 j (TQ.mpr (by lia))
 rw[Rq]at h2;let⟨k,hk,e⟩:=Qu h2;have a:k<M+1:=by rw[j7]at hk;exact hk
 refine⟨k,by lia,?_⟩
 have:=j3 M (M+1) 0 k a;rw[Xp hk,e]at this;exact(WQ this).symm
def vw(h:Mok M)(k:Nat):IH M (M+1+k)=IH M k:=by
 unfold IH;rw[eF,ll M (M+1) 0];rw[show(IG M (M+1) (0,0)).1=0 from(mz h).2]
def wG(h:Mok M)(hi:i<=M)(e:j<=M):∃k,k<=M/\(IG M k (i,0)).1=j:=by
 let⟨a,l,f⟩:=lY h hi;let⟨b,g,d⟩:=lY h e;have c:∀k,(IG M k (i,0)).1=IH M (a+k):=λk=>by
  unfold IH;rw[eF,ll M a 0];rw[show(IG M a (0,0)).1=i from f]
 by_cases m:a<=b
 .exact ⟨b-a,by lia,by rw[c,show a+(b-a)=b by lia];exact d⟩
 .exact ⟨M+1+b-a,by omega,by rw[c,show a+(M+1+b-a)=M+1+b by lia,vw h];exact d⟩
def v9(h:Int):SetTable.bits h<2 ^ 64:=by
 unfold SetTable.bits;have h1:0<=h % (2 ^ 64:Int):=Pl _ #[1]
 have h2:h % (2 ^ 64:Int)<2 ^ 64:=QG _ #[1]
 lia
def nH(M:Nat):∀(k:Nat) (x:Nat×Nat),x.1<=M->(IG M k x).1<=M
 |0,x,h=>h
 |k+1,x,_=>nH M k _ (PV (Oh _ (by lia)))
def ji(c:Mok M)(h:Int)(a:j<=M):∃k,k<=M+13/\(IG M k (SetTable.bits h % (M+1),SetTable.bits h)).1=j:=by
 have d:(IG M 13 (SetTable.bits h % (M+1),SetTable.bits h)).2=0:=by
  rw[gL];exact Nat.div_eq_of_lt (QP (v9 h) #[1])
 have h1:(IG M 13 (SetTable.bits h % (M+1),SetTable.bits h)).1<=M:=nH M 13 _ (PV (Oh _ (by lia)))
 let⟨k,hk,e⟩:=wG c h1 a;refine⟨13+k,by lia,?_⟩
 rw[eF];have:IG M 13 (SetTable.bits h % (M+1),SetTable.bits h)=((IG M 13 (SetTable.bits h % (M+1),SetTable.bits h)).1,0):=OI rfl d;rw[this];exact e
def uD(b:Mok M)(h:Int)(a:j<=M):∃n,n<10*SetTable.turns M/\IF M h n=j:=by
 let⟨k,hk,e⟩:=ji b h a;let⟨n,d,c⟩:=kj M k (SetTable.bits h % (M+1)) (SetTable.bits h);refine⟨n,by unfold SetTable.turns;lia,?_⟩
 unfold IF;rw[show IE M h=head M (SetTable.bits h % (M+1)) (SetTable.bits h)from rfl,c];exact e
def aaf(p:SetTable.Probe)(h:p.j+p.more<=M):(ID M p).j+(ID M p).more<=M:=by
 unfold ID;split
 .show p.j+1+(p.more-1)<=M;lia
 .show (p.i*5+1+p.perturb / 32) % (M+1)+(SetTable.runEnd M ((p.i*5+1+p.perturb / 32) % (M+1))-(p.i*5+1+p.perturb / 32) % (M+1))<=M
  have:(p.i*5+1+p.perturb / 32) % (M+1)<M+1:=Oh _ (by lia)
  unfold SetTable.runEnd;split<;>lia
def lz{M:Nat}:∀(n:Nat) (p:SetTable.Probe),p.j+p.more<=M->(Ar M n p).j<=M
 |0,p,h=>by show p.j<=M;lia
 |n+1,p,h=>lz n _ (aaf p h)
def eX(M:Nat)(h:Int)(n:Nat):IF M h n<=M:=by
 refine lz n _ ?_;show SetTable.bits h % (M+1)+(SetTable.runEnd M (SetTable.bits h % (M+1))-SetTable.bits h % (M+1))<=M;have:SetTable.bits h % (M+1)<M+1:=Oh _ (by lia)
 unfold SetTable.runEnd;split<;>lia
def tJ{P:Nat->Prop}:∀(n:Nat),P n ->∃N,N<=n/\P N /\∀m,m<N -> ¬ P m:=λn=>by
 induction n using Nat.strongRecOn with
 |_ n ih=>
  intro h;by_cases d:∃m,m<n/\P m
  .obtain ⟨m,h1,h2⟩:=d
   let⟨N,a,b,c⟩:=ih m h1 h2;exact⟨N,by lia,b,c⟩
  .exact ⟨n,G8 _,h,λm h1 h2=>d ⟨m,h1,h2⟩⟩
def gh(xs:Array Nat)(j:Nat)(d:∀(a b x y:Nat),a<b->xs[a]?=some x->xs[b]?=some y->x<y):∀(fu lo hi:Nat),hi-lo<=fu->lo<=hi->hi<=xs.size ->
  (∀i x,i<lo->xs[i]?=some x->x<j)->(∀i x,hi<=i->xs[i]?=some x->j<=x) ->
  (∀i x,i<SetTable.below.go xs j fu lo hi->xs[i]?=some x->x<j)/\(∀i x,SetTable.below.go xs j fu lo hi<=i->xs[i]?=some x->j<=x)/\SetTable.below.go xs j fu lo hi<=xs.size
 |0,lo,hi,h,h',hs,h1,h2=>⟨h1,λi x Yr e=>h2 i x (by have:lo<=i:=Yr;lia) e,by show lo<=_;lia⟩
 |fu+1,lo,hi,h,h',hs,h1,h2=>by
  unfold SetTable.below.go;split
  .rename_i k
   dsimp only;have f:(lo+hi) / 2<xs.size:=by lia
   have ex:xs[(lo+hi) / 2]?=some xs[(lo+hi) / 2]:=WB f;have g:xs.getD ((lo+hi) / 2) j=xs[(lo+hi) / 2]:=by unfold Array.getD;rw[dif_pos f];rfl
   rw[g];by_cases c:xs[(lo+hi) / 2]<j
   .rw [Yn c]
    refine gh xs j d fu ((lo+hi) / 2+1) hi () (by lia) hs (λi x Yr e=>?_) h2
    by_cases q:i=(lo+hi) / 2
    .subst q;rw[ex]at e;cases e;exact c
    .exact QP (d i _ x _ (by lia) e ex) c
   .rw [Yb c]
    refine gh xs j d fu lo ((lo+hi) / 2) () (by lia) (by lia) h1 λi x Yr e=>?_
    by_cases q:i=(lo+hi) / 2
    .subst q;rw[ex]at e;cases e;lia
    .have:=d _ i _ x (by lia) ex e;lia
  .rename_i k
   exact⟨h1,λi x Yr e=>h2 i x (by lia) e,by lia⟩
abbrev Z3:=List (Nat×Int×Value)
structure Tb(t:SetTable)(es:Array (Int×Value))(Z:Z3):Prop where
 hp:t.place=(Z.map (·.1)).toArray
 he:es=(Z.map (·.2)).toArray
 hd:t.dummies = #[]
 hs:Z.Pairwise λa b=>a.1<b.1
 hl:∀z∈Z,z.1<=t.mask
 hM:Mok t.mask
 hn:Z.length<=t.mask
 met:∀z∈Z,∃n,IF t.mask z.2.1 n=z.1 /\∀m,m<n ->∃y∈Z,y.1=IF t.mask z.2.1 m
section
variable{t:SetTable}{es:Array (Int×Value)}{Z:Z3}
def Tb.get(T:Tb t es Z){x:Nat}:t.place[i]?=some x ↔ ∃z,Z[i]?=some z/\z.1=x:=by
 rw[T.hp];simp[Wy]
def Tb.lt(T:Tb t es Z)(a b x y:Nat)(h:a<b)(f:t.place[a]?=some x)(e:t.place[b]?=some y):x<y:=by
 let⟨z,h1,rfl⟩:=T.get.mp f;let⟨u,h2,rfl⟩:=T.get.mp e;let⟨d,rfl⟩:=Yj.mp h1;let⟨c,rfl⟩:=Yj.mp h2;exact S3.mp T.hs a b d c h
def Tb.below(T:Tb t es Z)(j:Nat):(∀i x,i<SetTable.below t.place j->t.place[i]?=some x->x<j)/\(∀i x,SetTable.below t.place j<=i->t.place[i]?=some x->j<=x)/\SetTable.below t.place j<=t.place.size:=
 gh t.place j T.lt t.place.size 0 t.place.size (by lia) (RN _) (G8 _) (λi x h _=>by omega) (λi x h e=>by
  have:=(UD.mp e).1;lia)
def Tb.live(T:Tb t es Z){i:Nat}{z:Nat×Int×Value}(h:Z[i]?=some z):t.slot z.1=.live i:=by
 let⟨d,c,f⟩:=T.below z.1;have e:t.place[i]?=some z.1:=T.get.mpr ⟨z,h,rfl⟩;have hi:SetTable.below t.place z.1=i:=by
  rcases Nat.lt_trichotomy (SetTable.below t.place z.1) i with q|q|q
  .have hs:SetTable.below t.place z.1<t.place.size:=QP q (UD.mp e).1
   have a:t.place[SetTable.below t.place z.1]?=some t.place[SetTable.below t.place z.1]:=WB hs;have h1:=c _ _ (G8 _) a;have h2:=T.lt _ _ _ _ q a e;lia
  .exact q
  .have:=d i _ q e;lia
 unfold SetTable.slot;dsimp only;rw[hi,e,Yn #[3]]
def Tb.empty(T:Tb t es Z){j:Nat}(h:∀z∈Z,z.1≠j):t.slot j=.empty:=by
 unfold SetTable.slot;dsimp only;rw[Yb,Yb]
 .rw [T.hd];unfold SetTable.has;simp
 .intro e
  have e:t.place[SetTable.below t.place j]?=some j:=by simpa using e
  let⟨z,h1,h2⟩:=T.get.mp e;exact h z (W8 h1) h2
def Tb.slots(T:Tb t es Z)(j:Nat):(∃i z,Z[i]?=some z/\z.1=j/\t.slot j=.live i)\/((∀z∈Z,z.1≠j)/\t.slot j=.empty):=by
 by_cases h:∃z∈Z,z.1=j
 .obtain ⟨z,a,rfl⟩:=h
  let⟨i,e⟩:=Qk a;exact .inl ⟨i,z,e,rfl,T.live e⟩
 .have h':∀z∈Z,z.1≠j:=λz a e=>h ⟨z,a,e⟩
  exact .inr ⟨h',T.empty h'⟩
def Tb.Sf(T:Tb t es Z):∃j,j<=t.mask /\∀z∈Z,z.1≠j:=by
 refine Hd λc=>?_;have h1:List.range (t.mask+1) ⊆ Z.map (·.1):=λj a=>by
  have a:=TQ.mp a;refine Hd λhn=>c ⟨j,by lia,λz b e=>hn (Wl.mpr ⟨z,b,e⟩)⟩
 have h2:=Q5 (P9) h1;rw[QQ,Zd]at h2;have:=T.hn;lia
def Tb.hash(T:Tb t es Z)(h:Z[i]?=some z):es[i]?=some z.2:=by
 rw[T.he];simp[h]
noncomputable def XO(a:Array (Int×Value))(i:Nat):Int:=(a[i]?.map (·.1)).getD 0
def Tb.XO(T:Tb t es Z){i:Nat}{z:Nat×Int×Value}(h:Z[i]?=some z):XO es i=z.2.1:=by
 unfold PI.XO;rw[T.hash h];rfl
def iS{f:Nat->Int}{h:Int}:∀(n fu:Nat) (p:SetTable.Probe),(∀m,m<n ->∃i,t.slot (Ar t.mask m p).j=.live i/\f i≠h) ->
  SetTable.probe.go t f h (fu+n) p=SetTable.probe.go t f h fu (Ar t.mask n p)
 |0,fu,p,_=>rfl
 |n+1,fu,p,H=>by
  let⟨i,e,hi⟩:=H 0 (OJ _);have e:t.slot p.j=.live i:=e;show SetTable.probe.go t f h ((fu+n)+1) p=_;rw[SetTable.probe.go,e];dsimp only;rw[Yb (by simpa using hi)]
  exact iS n fu (ID t.mask p) λm a=>H (m+1) (by lia)
def Tb.probe(T:Tb t es Z)(h:Int):
  (∃i z j nx,Z[i]?=some z/\z.2.1=h/\z.1=j/\t.probe (PI.XO es) h (t.probeStart h)=some (.candidate j i nx)) \/
  ((∀z∈Z,z.2.1≠h) /\∃N,t.probe (PI.XO es) h (t.probeStart h)=some (.empty (IF t.mask h N) none)/\(∀z∈Z,z.1≠IF t.mask h N)/\IF t.mask h N<=t.mask /\∀m,m<N ->∃y∈Z,y.1=IF t.mask h m):=by
 let⟨I,k,l⟩:=T.Sf;let⟨u,K,G⟩:=uD T.hM h k
 let P:Nat->Prop:=λn=>∀i,t.slot (IF t.mask h n)=.live i->PI.XO es i=h
 have o:P u:=λi e=>by
  rw[G,T.empty l]at e;cases e
 let⟨N,J,B,A⟩:=tJ u o;have skip:∀m,m<N ->∃i,t.slot (Ar t.mask m (t.probeStart h)).j=.live i/\PI.XO es i≠h:=λm g=>by
  have:=A m g;refine Hd λE=>this λi e=>Hd λH=>E ⟨i,e,H⟩
 have run:t.probe (PI.XO es) h (t.probeStart h)=SetTable.probe.go t (PI.XO es) h ((10*SetTable.turns t.mask-N-1)+1) (Ar t.mask N (t.probeStart h)):=by
  unfold SetTable.probe;have:10*SetTable.turns t.mask=((10*SetTable.turns t.mask-N-1)+1)+N:=by lia
  rw[this];rw[iS N _ _ skip];congr 1;omega
 have a:∀m,m<N ->∃y∈Z,y.1=IF t.mask h m:=λm g=>by
  let⟨i,e,_⟩:=skip m g;rcases T.slots (IF t.mask h m)with⟨C,z,d,r,b⟩|⟨_,b⟩
  .exact ⟨z,W8 d,r⟩
  .rw [show(Ar t.mask m (t.probeStart h)).j=IF t.mask h m from rfl,b]at e;cases e
 rcases T.slots (IF t.mask h N)with⟨i,z,d,r,b⟩|⟨hn,b⟩
 .refine .inl ⟨i,z,_,t.advance (Ar t.mask N (t.probeStart h)),d,?_,r,?_⟩
  .rw [<-T.XO d];exact B i b
  .rw [run,SetTable.probe.go]
   rw[show(Ar t.mask N (t.probeStart h)).j=IF t.mask h N from rfl,b];dsimp only;rw[Yn (by rw[B i b];simp)]
 .refine .inr ⟨λz f x=>?_,N,?_,hn,?_,a⟩
  .obtain ⟨c,p,v⟩:=T.met z f
   rw[x]at p v;rcases QR N c with q|q
   .obtain ⟨y,D,F⟩:=v N q
    exact hn y D F
   .rcases QR c N with s|s
    .have:=A c s
     let⟨i,w⟩:=Qk f;refine this λC e'=>?_;rw[p,T.live w]at e';cases e';rw[T.XO w];exact x
    .have:c=N:=by lia
     subst this;exact hn z f p.symm
  .rw [run,SetTable.probe.go]
   rw[show(Ar t.mask N (t.probeStart h)).j=IF t.mask h N from rfl,b];dsimp only;rw[show(Ar t.mask N (t.probeStart h)).dummy=none from iR _ _ _]
  .exact eX _ _ _
end
section
variable{t:SetTable}{es:Array (Int×Value)}{Z:Z3}
def i5(xs:List α)(p:Nat)(x:α):SetTable.insertAt xs.toArray p x=(xs.take p++x::xs.drop p).toArray:=by
 apply Q6.mp;rw[SetTable.toList_insertAt]
def d0{xs:List α}{p:Nat}{x y:α}:y∈xs.take p++x::xs.drop p↔y=x\/y∈xs:=by
 rw[Wu,Xq];constructor
 .rintro (h|h|h)
  .exact .inr (Sx h)
  .exact .inl h
  .exact .inr (Ue h)
 .rintro (h|h)
  .exact .inr (.inl h)
  .rw [<-WD p xs,Wu]at h
   exact h.elim .inl λh=>.inr (.inr h)
def Tb.put(T:Tb t es Z){h:Int}{x:Value}{N:Nat}(o:∀z∈Z,z.1≠IF t.mask h N)(l:∀m,m<N ->∃y∈Z,y.1=IF t.mask h m)(v:Z.length+1<=t.mask):
  ∃p,(t.put (IF t.mask h N)).2=p/\Tb (t.put (IF t.mask h N)).1 (SetTable.insertAt es p (h,x)) (Z.take p++(IF t.mask h N,h,x)::Z.drop p):=by
 refine⟨_,rfl,?_⟩;let⟨s,r,w⟩:=T.below (IF t.mask h N);have u:(t.put (IF t.mask h N)).2=SetTable.below t.place (IF t.mask h N):=rfl;rw[u];have d:(t.put (IF t.mask h N)).1.mask=t.mask:=rfl;constructor
 .show SetTable.insertAt t.place _ _=_
  rw[T.hp,i5];simp
 .rw [T.he,i5]
  simp
 .show (if _ then _ else t.dummies)=_
  rw[T.hd];rw[Yb];unfold SetTable.has;simp
 .have hs:=T.hs
  rw[<-WD (SetTable.below t.place (IF t.mask h N)) Z,Vh]at hs;rw[Vh,Ur];have k:∀a∈Z.take (SetTable.below t.place (IF t.mask h N)),a.1<IF t.mask h N:=λa g=>by
   let⟨i,hi,e⟩:=Qu g;rw[Vi]at hi;rw[PX]at e;exact s i a.1 (by lia) (T.get.mpr ⟨a,by rw[<-e];exact Xp (by lia),rfl⟩)
  have g:∀a∈Z.drop (SetTable.below t.place (IF t.mask h N)),IF t.mask h N<a.1:=λa g=>by
   let⟨i,hi,e⟩:=Qu g;rw[VL]at hi;rw[PY]at e;have:=r _ a.1 (Qp _ i) (T.get.mpr ⟨a,by rw[<-e];exact Xp (),rfl⟩)
   exact Nat.lt_of_le_of_ne this λq=>o a (Ue g) q.symm
  refine⟨hs.1,⟨g,hs.2.1⟩,λa h' b f=>?_⟩;rcases Xq.mp f with rfl|f
  .exact k a h'
  .exact hs.2.2 a h' b f
 .intro z c
  rw[d];rcases d0.mp c with rfl|c
  .exact eX _ _ _
  .exact T.hl z c
 .exact T.hM
 .rw [d]
  have:(Z.take (SetTable.below t.place (IF t.mask h N))++(IF t.mask h N,h,x)::Z.drop (SetTable.below t.place (IF t.mask h N))).length=Z.length+1:=by
   rw[YB,Xb,Vi,VL];omega
  lia
 .intro z c
  rw[d];rcases d0.mp c with rfl|c
  .exact ⟨N,rfl,λm d=>let⟨y,j,e⟩:=l m d;⟨y,d0.mpr (.inr j),e⟩⟩
  .obtain ⟨n,e,k⟩:=T.met z c
   exact⟨n,e,λm d=>let⟨y,j,e⟩:=k m d;⟨y,d0.mpr (.inr j),e⟩⟩
def sY(xs:List α)(p:Nat)(x:α):(xs.take p++x::xs.drop p).Perm (x::xs):=by
 have:=(P_ (a:=x) (l₁:=xs.take p) (l₂:=xs.drop p));rwa[WD]at this
end
abbrev WV:=Array (Option Nat)
def lh{M:Nat}(owner:WV):∀(fu i q:Nat),(∃K,K<fu/\owner.getD (IG M K (i,q)).1 (some 0)=none) ->
  ∃n,SetTable.layClean.free M owner fu i q=some (Ar M n (head M i q)).j/\owner.getD (Ar M n (head M i q)).j (some 0)=none /\∀m,m<n->owner.getD (Ar M m (head M i q)).j (some 0)≠none
 |0,i,q,⟨K,h,_⟩=>by omega
 |fu+1,i,q,⟨K,hK,e⟩=>by
  rw[SetTable.layClean.free];have len:SetTable.runEnd M i+1-i=(SetTable.runEnd M i-i)+1:=by unfold SetTable.runEnd;split<;>lia
  have d:∀m,m<=SetTable.runEnd M i-i->(Ar M m (head M i q)).j=i+m:=λm f=>by
   rw[f7 M m (head M i q) f];rfl
  cases p:(List.range (SetTable.runEnd M i+1-i)).find? λk=>(owner.getD (i+k) (some 0)).isNone with
  |some k=>
   dsimp only;let⟨h1,h2,t⟩:=List.find?_range_eq_some.mp p;have hk:k<SetTable.runEnd M i+1-i:=TQ.mp h2;refine⟨k,by rw[d k (by lia)],by rw[d k ()];simpa using h1,λm f=>?_⟩
   rw[d m (by lia)]
   have:=t m f;intro q;rw[q]at this;simp at this
  |none=>
   dsimp only;have o:∀m,m<=SetTable.runEnd M i-i->owner.getD (i+m) (some 0)≠none:=λm f=>by
    have:=List.find?_eq_none.mp p m (TQ.mpr (by lia))
    intro q;rw[q]at this;simp at this
   have l:K≠0:=λs=>by
    subst s;exact o 0 (RN _) e
   let⟨u,rfl⟩:=Nat.exists_eq_succ_of_ne_zero l;let⟨n,a,b,c⟩:=lh owner fu ((i*5+1+q / 32) % (M+1)) (q / 32) ⟨u,by lia,e⟩
   have g:∀m,Ar M ((SetTable.runEnd M i-i+1)+m) (head M i q)=Ar M m (head M ((i*5+1+q / 32) % (M+1)) (q / 32)):=λm=>by rw[dC,kh]
   refine⟨(SetTable.runEnd M i-i+1)+n,by rw[g];exact a,by rw[g];exact b,λm f=>?_⟩
   rcases QR m (SetTable.runEnd M i-i+1)with r|r
   .rw [d m (by lia)];exact o m ()
   .have:m=(SetTable.runEnd M i-i+1)+(m-(SetTable.runEnd M i-i+1)):=by omega
    rw[this,g];exact c _ (by lia)
structure LC(M:Nat)(owner:WV)(hs:List Int)(Z_:List Nat):Prop where
 sz:owner.size=M+1
 len:Z_.length=hs.length
 to:∀(i j:Nat),Z_[i]?=some j->owner[j]?=some (some i)
 Zx:∀(i j:Nat),owner[j]?=some (some i)->Z_[i]?=some j
 met:∀(i j:Nat) (h:Int),hs[i]?=some h->Z_[i]?=some j ->∃n,IF M h n=j /\∀m,m<n->IF M h m∈Z_
def LC.getD{M:Nat}{owner:WV}{d:List Int}{c:List Nat}(b:LC M owner d c){j:Nat}(l:j<=M):owner.getD j (some 0)=none↔j ∉ c:=by
 have a:j<owner.size:=by rw[b.sz];lia
 have k:owner.getD j (some 0)=owner[j]:=by unfold Array.getD;rw[dif_pos a];rfl
 rw[k];constructor
 .intro e g
  let⟨i,h⟩:=Qk g;have:=b.to i j h;rw[WB a,e]at this;cases this
 .intro f
  cases e:owner[j]with
  |none=>rfl
  |some i=>exact absurd (W8 (b.Zx i j (by rw[WB a,e]))) f
def CM(M:Nat):Option (WV×Nat)->Int->Option (WV×Nat):=λZS h=>do
  let(owner,k)<-ZS
  let j<-SetTable.layClean.free M owner (SetTable.turns M) (SetTable.bits h % (M+1)) (SetTable.bits h)
  pure (owner.setIfInBounds j (some k),k+1)
def LC.step(A:Mok M){owner:WV}{f:List Int}{g:List Nat}(d:LC M owner f g)(u:f.length<=M)(h:Int):
  ∃w j,CM M (some (owner,f.length)) h=some (w,f.length+1)/\LC M w (f++[h]) (g++[j]):=by
 have sp:∃j,j<=M/\j ∉ g:=by
  refine Hd λz=>?_;have h1:List.range (M+1) ⊆ g:=λj r=>by
   have r:=TQ.mp r;exact Hd λy=>z ⟨j,by lia,y⟩
  have h2:=Q5 (P9) h1;rw[QQ]at h2;have:=d.len;lia
 let⟨F,o,E⟩:=sp;let⟨K,G,B⟩:=ji A h o;let⟨n,a,b,c⟩:=lh (M:=M) owner (SetTable.turns M) (SetTable.bits h % (M+1)) (SetTable.bits h) ⟨K,by unfold SetTable.turns;lia,by rw[B];exact(d.getD o).mpr E⟩
 have a:SetTable.layClean.free M owner (SetTable.turns M) (SetTable.bits h % (M+1)) (SetTable.bits h)=some (IF M h n):=a;have b:owner.getD (IF M h n) (some 0)=none:=b;have c:∀m,m<n->owner.getD (IF M h m) (some 0)≠none:=c;have hle:=eX M h n;have l:IF M h n ∉ g:=(d.getD hle).mp b;have v:IF M h n<owner.size:=by rw[d.sz];lia
 refine⟨owner.setIfInBounds (IF M h n) (some f.length),IF M h n,?_,?_⟩
 .unfold CM
  simp![Option.pure_def,Option.bind_eq_bind,Rk,a]
 .constructor
  .rw [P6];exact d.sz
  .simp [d.len]
  .intro i j e
   rw[Pm];rw[List.getElem?_append]at e;split at e
   .have r:j∈g:=W8 e
    rw[Yb (λq=>l (by rw[q];exact r))]
    exact d.to i j e
   .rename_i H
    have:i-g.length=0:=by
     cases s:i-g.length with
     |zero=>rfl
     |succ k=>rw[s]at e;simp at e
    rw[this]at e;simp at e;subst e;rw[Yn rfl,Yn v];have:=d.len;congr 2;lia
  .intro i j e
   rw[Pm]at e;by_cases q:IF M h n=j
   .rw [Yn q,Yn v]at e
    cases e;subst q;rw[<-d.len];simp
   .rw [Yb q]at e
    have:=d.Zx i j e;rw[X0 (Yj.mp this).1];exact this
  .intro i j h' p e
   rcases QR i f.length with q|q
   .rw [X0 q]at p
    rw[X0 (by rw[d.len];exact q)]at e
    let⟨x,D,C⟩:=d.met i j h' p e;exact⟨x,D,λm t=>Ra _ (C m t)⟩
   .have:i=f.length:=by
     have:=(Yj.mp p).1;simp at this;lia
    subst this;simp at p;rw[<-d.len]at e;simp at e;subst p e;exact⟨n,rfl,λm t=>Ra _ (Hd λs=>c m t ((d.getD (eX M h m)).mpr s))⟩
def LC.all{M:Nat}(a:Mok M):∀(r hs:List Int) {owner:WV} {Z_:List Nat},LC M owner hs Z_->hs.length+r.length<=M ->
  ∃c f,r.foldl (CM M) (some (owner,hs.length))=some (c,hs.length+r.length)/\LC M c (hs++r) f
 |[],hs,owner,Z_,Z7,_=>⟨owner,Z_,rfl,by rw[TR];exact Z7⟩
 |h::r,hs,owner,Z_,Z7,hl=>by
  rw[Xb]at hl;let⟨Kh,j,d,g⟩:=Z7.step a (by lia) h
  let⟨o2,e,b,L2⟩:=LC.all a r (hs++[h]) g (by rw[YB,Rp];lia)
  refine⟨o2,e,?_,?_⟩
  .rw [US,d]
   rw[YB,Rp]at b;rw[b,Xb];congr 2;lia
  .rw [XU]at L2;exact L2
def t6(c:Mok M)(a:Array Int)(b:a.size<=M):∃owner Z_,SetTable.layClean M a=some owner/\LC M owner a.toList Z_:=by
 have d:LC M (Array.replicate (M+1) none) [] []:=by
  constructor
  .simp
  .rfl
  .intro i j e;simp at e
  .intro i j e
   rw[Array.getElem?_replicate]at e;split at e<;>cases e
  .intro i j h e;simp at e
 let⟨o,Z_,e,Z7⟩:=LC.all c a.toList [] d (by simpa using b)
 refine⟨o,Z_,?_,by simpa using Z7⟩
 unfold SetTable.layClean;rw[<-Array.foldl_toList];have:a.toList.foldl (CM M) (some (Array.replicate (M+1) none,0))=some (o,0+a.toList.length):=by simpa using e
 show(List.foldl (CM M) (some (Array.replicate (M+1) none,0)) a.toList).map (·.1)=some o;rw[this]
 rfl
def Bj(a:Array (Int×Value))(i:Nat):Int×Value:=(a[i]?).getD (0,.none)
def IJ(M:Nat)(owner:WV):List (Nat×Nat):=(List.range (M+1)).filterMap λj=>(owner.getD j none).map (j,·)
section
variable{owner:WV}{hs:List Int}{Z_:List Nat}
def LC.live(c:LC M owner hs Z_)(j i:Nat):(j,i)∈IJ M owner↔Z_[i]?=some j:=by
 unfold IJ;rw[Rm];constructor
 .rintro ⟨b,g,e⟩
  have g:=TQ.mp g;have a:b<owner.size:=by rw[c.sz];exact g
  have f:owner.getD b none=owner[b]:=by unfold Array.getD;rw[dif_pos a];rfl
  rw[f]at e;cases d:owner[b]with
  |none=>rw[d]at e;cases e
  |some k=>
   rw[d]at e;cases e;exact c.Zx i j (by rw[WB a,d])
 .intro e
  have h:=c.to i j e;have a:j<owner.size:=(UD.mp h).1;refine⟨j,TQ.mpr (by rw[<-c.sz];exact a),?_⟩
  have f:owner.getD j none=some i:=by
   unfold Array.getD;rw[dif_pos a];rw[WB a]at h;exact WQ h
  rw[f];rfl
def lN(M:Nat)(owner:WV):(IJ M owner).Pairwise λa b=>a.1<b.1:=by
 unfold IJ;rw[List.pairwise_filterMap];refine List.Pairwise.imp (λ{a a'} h b c b' d=>?_) Oi;cases f:owner.getD a none with
 |none=>rw[f]at c;cases c
 |some i=>
  rw[f]at c;cases c;cases e:owner.getD a' none with
  |none=>rw[e]at d;cases d
  |some g=>rw[e]at d;cases d;exact h
def LC.order(c:LC M owner hs Z_):((IJ M owner).map (·.2)).Perm (List.range hs.length):=by
 refine(PF ?_ P9).mpr λi=>?_
 .refine Ti.mpr (List.Pairwise.imp_of_mem (λ{a b} k g l=>?_) (lN M owner))
  intro e;have h1:=(c.live a.1 a.2).mp k;have h2:=(c.live b.1 b.2).mp g;rw[e,h2]at h1;have:=WQ h1;lia
 .rw [Wl,TQ,<-c.len]
  constructor
  .rintro ⟨⟨j,d⟩,f,rfl⟩
   exact(Yj.mp ((c.live j d).mp f)).1
  .intro h
   exact⟨(Z_[i],i),(c.live _ _).mpr (Xp h),rfl⟩
end
def k8{b c:Type}{f:b->Option c}{g:b->c}:∀(l:List b),(∀x∈l,f x=some (g x))->l.filterMap f=l.map g
 |[],_=>rfl
 |a::l,h=>by rw[V0,h a Wv,Y2,k8 l λx d=>h x (G9 _ d)]
section
variable{t:SetTable}{es:Array (Int×Value)}{Z:Z3}
def Tb.len(T:Tb t es Z):es.size=Z.length:=by rw[T.he];simp
def Tb.relaid(T:Tb t es Z){a:Nat}(o:Mok (SetTable.sizeAbove a-1))(k:Z.length<=SetTable.sizeAbove a-1):
  ∃t' order g,t.relaid (es.map (·.1)) a=some (t',order)/\Tb t' (order.filterMap (es[·]?)) g/\(g.map (·.2)).Perm (Z.map (·.2))/\t'.mask=SetTable.sizeAbove a-1/\t'.led=t.led/\t'.plain=t.plain:=by
 let⟨owner,Z_,e,Z7⟩:=t6 o (es.map (·.1)) (by rw[Array.size_map,T.len];exact k)
 have c:(es.map (·.1)).toList.length=es.size:=by simp
 let M:=SetTable.sizeAbove a-1
 let order:Array Nat:=((IJ M owner).map (·.2)).toArray
 let t':SetTable:={mask:=M,place:=((IJ M owner).map (·.1)).toArray,dummies:=#[],finger:=t.finger,led:=t.led,moves:=t.movedTo M,plain:=t.plain}
 let g:Z3:=(IJ M owner).map λp=>(p.1,Bj es p.2)
 have r:∀p∈IJ M owner,es[p.2]?=some (Bj es p.2):=λp d=>by
  have h:=(Yj.mp ((Z7.live p.1 p.2).mp d)).1;rw[Z7.len,c]at h;unfold Bj;rw[WB h];rfl
 refine⟨t',order,g,?_,?_,?_,rfl,rfl,rfl⟩
 .unfold SetTable.relaid SetTable.laid
  rw[e]
  rfl
 .constructor
  .show ((IJ M owner).map (·.1)).toArray=(List.map (λz:Nat×Int×Value=>z.1) (List.map _ _)).toArray
   rw[TU];rfl
  .apply Q6.mp
   rw[Array.toList_filterMap];show(((IJ M owner).map (·.2)).filterMap λx=>es[x]?)=(g.map (·.2));rw[List.filterMap_map,TU];exact k8 _ r
  .rfl
  .exact Ti.mpr (lN M owner)
  .intro z j
   let⟨p,d,rfl⟩:=Wl.mp j;have h:=Z7.to p.2 p.1 ((Z7.live p.1 p.2).mp d);have:=(UD.mp h).1;rw[Z7.sz]at this;exact PV this
  .exact o
  .show List.length (List.map _ _)<=M
   rw[Zd,<-Zd (f:=λp:Nat×Nat=>p.2),Z7.order.length_eq,QQ,c,T.len];exact k
  .intro z j
   let⟨p,d,rfl⟩:=Wl.mp j;have u:=(Z7.live p.1 p.2).mp d
   let ⟨n,B,A⟩:=Z7.met p.2 p.1 (Bj es p.2).1 (by
    rw[Vl,Array.getElem?_map,r p d];rfl) u
   refine⟨n,B,λm w=>?_⟩;let⟨i,y⟩:=Qk (A m w);exact⟨_,Wl.mpr ⟨(IF M (Bj es p.2).1 m,i),(Z7.live _ _).mpr y,rfl⟩,rfl⟩
 .show (List.map _ (List.map _ _)).Perm _
  rw[TU];have h1:((IJ M owner).map ((λz:Nat×Int×Value=>z.2) ∘ λp=>(p.1,Bj es p.2)))=((IJ M owner).map (·.2)).map (Bj es):=by rw[TU];rfl
  rw[h1];have h2:Z.map (·.2)=(List.range es.size).map (Bj es):=by
   apply List.ext_getElem?;intro i;have he:es[i]?=(Z.map (·.2))[i]?:=by rw[T.he];simp
   rw[<-he,Wy];rcases QR i es.size with q|q
   .rw [List.getElem?_range q]
    show _=some (Bj es i);unfold Bj;rw[WB q];rfl
   .rw [QS q,Qd (by rw[QQ];exact q)];rfl
  rw[h2];have:=Z7.order.map (Bj es);rw[c]at this;exact this
def Tb.fill(T:Tb t es Z):t.fill=Z.length:=by unfold SetTable.fill;rw[T.hp,T.hd];simp
def Tb.full(T:Tb t es Z):t.tooFull=decide (Z.length*5 ≥ t.mask*3):=by unfold SetTable.tooFull;rw[T.fill]
def Tb.fits(T:Tb t es Z):t.fits es.size=true:=by
 unfold SetTable.fits;rw[T.fill,T.len];have:=T.hn;rw[T.hp];simp[this]
def uS(a:Mok M)(h:n*5<M*3)(h':(n+1)*5 ≥ M*3)(c:n<300):
  Mok (SetTable.sizeAbove (SetTable.grown (n+1))-1)/\(n+1)*5<(SetTable.sizeAbove (SetTable.grown (n+1))-1)*3/\SetTable.sizeAbove (SetTable.grown (n+1))<=512:=by
 rcases a with rfl|rfl|rfl|rfl
 .have:n=4:=by lia
  subst this;exact⟨.inr (.inl #[1]),by decide,by decide⟩
 .have:n=18:=by lia
  subst this;exact⟨.inr (.inr (.inl #[1])),by decide,by decide⟩
 .have:n=76:=by lia
  subst this;exact⟨.inr (.inr (.inr #[1])),by decide,by decide⟩
 .lia
end
open PySem PyProof.Rows
section
variable{E:Value->Shared->Prop}
abbrev IsT(prog:Program)(w:World)(h:Heap)(k:List Int)(b:Addr):Prop:=IsTupleKey (intKind prog w) h k b
abbrev Zn(prog:Program)(w:World)(k:List Int):Int:=tupleKeyHash (intKind prog w) k
def i3{k:List Int}{vs:List Value}(h:ItemsAre (intKind prog w) k vs):∀v∈vs,∃i t,v=.int i t:=by
 induction h with
 |nil=>intro v a;cases a
 |cons h1 _ ih=>
  intro v a;rcases Xq.mp a with rfl|a
  .obtain ⟨t,e⟩:=Qg h1;exact⟨_,t,e⟩
  .exact ih v a
def kc{k:List Int}{b:Addr}{Q:Bool->Shared->Prop}(d:IsT prog w s.heap k b)(h:Q false s):wpAny (model prog w) A (ofAClassStatement (n+1) (.ref b)) Q E s:=by
 have hT:=d.typeIs;let⟨o,items,c,ho,_,g,hi⟩:=d;unfold ofAClassStatement;refine ZB (wpAny_typeOf hT ?_);dsimp only;rw[Yn #[1]]
 refine ZB (ZP ?_);simp![Bool.not_true,Xh,Vn];refine ZB (Ox ho g ?_);dsimp only;refine ZB ?_;rw[<-Array.forIn_toList];refine Q7 _ (λZQ r s'=>r.1=none/\s'=s /\∀v∈ZQ,∃i t,v=Value.int i t) _ ?_ ?_ _ _ ⟨rfl,rfl,i3 hi⟩
 .rintro v ZQ r s' ⟨a,rfl,f⟩
  let⟨i,t,rfl⟩:=f v Wv;have e:ofAClassStatement n (Value.int i t)=pure false:=by cases n<;>rfl
  rw[e];refine ZB (ZP ?_);simp![Xh,Vn];exact ZP ⟨rfl,rfl,λu j=>f u (G9 _ j)⟩
 .rintro ⟨z,y⟩ s' ⟨a,rfl,_⟩
  simp only at a;subst a;exact ZP h
def vK{k:List Int}{b:Addr}{Q:Bool->Shared->Prop}(d:IsT prog w s.heap k b)(h:Q true s):wpAny (model prog w) A (hashByValue (n+1) (.ref b)) Q E s:=by
 have hT:=d.typeIs;let⟨o,items,c,ho,_,g,hi⟩:=d;unfold hashByValue;refine ZB (Qb hT PySem.F.slot_tuple_hash.lookup ?_);dsimp only;refine ZB (Ox ho g ?_);dsimp only[Option.getD];refine ZB ?_;rw[<-Array.forIn_toList];refine Q7 _ (λZQ r s'=>r.1=none/\s'=s /\∀v∈ZQ,∃i t,v=Value.int i t) _ ?_ ?_ _ _ ⟨rfl,rfl,i3 hi⟩
 .rintro v ZQ r s' ⟨a,rfl,f⟩
  let⟨i,t,rfl⟩:=f v Wv;have e:hashByValue n (Value.int i t)=pure true:=by cases n<;>rfl
  rw[e];refine ZB (ZP ?_);simp![Bool.not_true,Xh,Vn];exact ZP ⟨rfl,rfl,λu j=>f u (G9 _ j)⟩
 .rintro ⟨m,l⟩ s' ⟨a,rfl,_⟩
  simp only at a;subst a;exact ZP h
def aaj{k:List Int}{b:Addr}{Q:Bool->Shared->Prop}(e:IsT prog w s.heap k b){d:List Value}(a:∀y∈d,∃k' b',y=.ref b'/\IsT prog w s.heap k' b')(h:Q false s):
  wpAny (model prog w) A (searchCouldBeSeen (.ref b) d) Q E s:=by
 unfold searchCouldBeSeen;refine ZB ?_;refine Q7 _ (λZQ r s'=>r.1=none/\s'=s /\∀y∈ZQ,∃k' b',y=Value.ref b'/\IsT prog w s.heap k' b') _ ?_ ?_ _ _ ⟨rfl,rfl,a⟩
 .rintro y ZQ r s' ⟨c,rfl,f⟩
  let⟨k',b',rfl,g⟩:=f y Wv;have ZC:∀u∈ZQ,∃k' b',u=Value.ref b'/\IsT prog w s'.heap k' b':=λu i=>f u (G9 _ i);dsimp only;split
  .exact ZP ⟨rfl,rfl,ZC⟩
  .refine ZB (wpAny_eqIsQuiet_tuple e ?_)
   simp![Bool.not_true,Xh,Vn];refine ZB (wpAny_eqIsQuiet_tuple g ?_);simp![Bool.not_true,Xh,Vn];refine ZB (kc e ?_);simp![Xh,Vn];refine ZB (kc g ?_);simp![Xh,Vn];exact ZP ⟨rfl,rfl,ZC⟩
 .rintro ⟨l,j⟩ s' ⟨c,rfl,_⟩
  simp only at c;subst c;exact ZP h
structure Yt(prog:Program)(w:World)(o:Obj)(D:List (List Int×Addr))(es:Array (Int×Value))(ep:Nat)(t:SetTable)(Z:Z3):Prop where
 ex:o.ExactSet
 dt:o.data=.set es ep t
 tb:Tb t es Z
 pl:t.plain=true
 ld:t.led = !(w.params.followText "set-order")
 fl:Z.length*5<t.mask*3
 pm:(Z.map (·.2)).Perm (D.map λd=>(Zn prog w d.1,Value.ref d.2))
end
section
variable{E:Value->Shared->Prop}{b:Addr}{o:Obj}{es:Array (Int×Value)}{t:SetTable}{Z:Z3}{k:List Int}
def Yt.mem(P:Yt prog w o D es ep t Z)(a:z∈Z):∃d∈D,z.2=(Zn prog w d.1,Value.ref d.2):=by
 have:=P.pm.mem_iff.mp (Wl.mpr ⟨z,a,rfl⟩);let⟨d,b,e⟩:=Wl.mp this;exact⟨d,b,e.symm⟩
def Yt.mem'(P:Yt prog w o D es ep t Z){d:List Int×Addr}(b:d∈D):∃z∈Z,z.2=(Zn prog w d.1,Value.ref d.2):=by
 have:=P.pm.mem_iff.mpr (Wl.mpr ⟨d,b,rfl⟩);let⟨z,a,e⟩:=Wl.mp this;exact⟨z,a,e⟩
def Yt.len(P:Yt prog w o D es ep t Z):Z.length=D.length:=by
 have:=P.pm.length_eq;simpa using this
def tU(h:Mok M):M % 2=1:=by rcases h with rfl|rfl|rfl|rfl<;>decide
def qg(hu:A.units<cLine)(ho:s.heap.get? a=some o)(P:Yt prog w o D es ep t Z)(hD:∀d∈D,IsT prog w s.heap d.1 d.2)(hk:IsT prog w s.heap k b)
  (WU:∀d∈D,Zn prog w d.1=Zn prog w k->d.1=k) {Q:SetFound->Shared->Prop}
  (h1:(∃d∈D,d.1=k)->Q (.there none) s)
  (h2:(∀d∈D,d.1≠k) ->∀N,(∀z∈Z,z.1≠IF t.mask (Zn prog w k) N)->(∀m,m<N ->∃y∈Z,y.1=IF t.mask (Zn prog w k) m)->Q (.free (IF t.mask (Zn prog w k) N) false) s) :
  wpAny (model prog w) A (setSearch a (.ref b) (Zn prog w k) true) Q E s:=by
 have hf:=P.tb.fits;show wpAny (model prog w) A (setSearchFrom a (.ref b) (Zn prog w k) true (99999+1) none) Q E s;rw[setSearchFrom];refine ZB (Tv ho P.dt hf ?_);dsimp only;rw[Yb (by unfold SetTable.gaveWay;rw[tU P.tb.hM];decide)]
 rcases P.tb.probe (Zn prog w k)with⟨i,z,j,nx,ez,eh,ej,e⟩|⟨XB,N,e,Vm,hle,hbef⟩
 .obtain ⟨d,hd,ed⟩:=P.mem (W8 ez)
  have hdk:d.1=k:=WU d hd (by rw[<-eh,ed])
  have key:∀f:Nat->Int,f=XO es->t.probe f (Zn prog w k) ((none:Option SetTable.Probe).getD (t.probeStart (Zn prog w k)))=some (.candidate j i nx):=λf hf=>by rw[hf];exact e
  rw[key]
  rotate_left
  .rfl
  dsimp only;have body:wpAny (model prog w) A (do
    let some (_,y):=es[i]?|unsupported "internal:set-entry"
    let equal<-holding [y] (eqBool y (.ref b))
    let(es',_,t')<-setState a
    if true&&equal then return .there none
    let some same:=t'.sameMemory t.moves t.mask|unsupported "set.changed-during-lookup:is-the-new-block-at-the-old-address"
    let Se<-match(if same then t'.slot j else .empty)with
     |.live i'=>match es'[i']? with
      |some (_,y')=>do pure (if<-isSame y' y then some i' else none)
      |none=>pure none
     |_=>pure none
    match Se with
    |none=>rule "set.search.anew";setSearchFrom a (.ref b) (Zn prog w k) true 99999 none
    |some i'=>if equal then return .there (some i')else setSearchFrom a (.ref b) (Zn prog w k) true 99999 (some nx)) Q E s:=by
   rw[P.tb.hash ez,ed];dsimp only;refine ZB (V7 (wpAny_eqBool_tuple (knd:=intKind prog w) hu (hD d hd) hk ?_));refine ZB (Tv ho P.dt hf ?_);dsimp only;rw[Vt hdk];exact ZP (h1 ⟨d,hd,hdk⟩)
  cases hl:t.led with
  |true=>simp![Bool.not_true,Xh,Vn];exact body
  |false=>
   simp![Oy,V6];refine ZB (aaj hk (λy hy=>?_) ?_)
   .rw [Wl]at hy
    let⟨x,hx,rfl⟩:=hy;have hx:x∈es.toList:=by
     have:=Si.mp hx;rw[Array.mem_filter]at this;exact Si.mpr this.1
    rw[P.tb.he]at hx;simp![Wl]at hx;let⟨z',hz',rfl⟩:=hx;let⟨d',Y4,e'⟩:=P.mem hz';exact⟨d'.1,d'.2,by rw[e'],hD d' Y4⟩
   .simp only [Xh,Vn]
    exact body
 .have key:∀f:Nat->Int,f=XO es->t.probe f (Zn prog w k) ((none:Option SetTable.Probe).getD (t.probeStart (Zn prog w k)))=some (.empty (IF t.mask (Zn prog w k) N) none):=λf hf=>by rw[hf];exact e
  rw[key]
  rotate_left
  .rfl
  dsimp only;refine ZP (h2 (λd hd ek=>?_) N Vm hbef);let⟨z,hz,ez⟩:=P.mem' hd;exact XB z hz (by rw[ez,ek])
end
section
variable{E:Value->Shared->Prop}{b:Addr}{o:Obj}{es:Array (Int×Value)}{t:SetTable}{Z:Z3}{k:List Int}
def i8{es':Array (Int×Value)}{t':SetTable}(c:h.get? a=some o)(b:o.data=.set es ep t):(h.update a (Obj.putSet es' t')).get? a=some {o with data:=.set es' (ep+1) t'}:=by
 have:=Ro (Obj.putSet es' t') c (by rw[putSet_of es' t' b];rfl)
 rw[putSet_of es' t' b]at this;exact this
def rB{Q:Unit->Shared->Prop}{wanted:Nat}(ho:s.heap.get? a=some o)(hd:o.data=.set es ep t)(T:Tb t es Z)(hM:Mok (SetTable.sizeAbove wanted-1))(hl:Z.length<=SetTable.sizeAbove wanted-1)(hs:SetTable.sizeAbove wanted<=512)
  (h:∀ es' t' Z',Tb t' es' Z'->(Z'.map (·.2)).Perm (Z.map (·.2))->t'.mask=SetTable.sizeAbove wanted - 1->t'.led=t.led->t'.plain=t.plain ->
   Q Unit.unit {s with heap:=s.heap.update a (Obj.putSet es' t')}):wpAny (model prog w) A (setRelay a wanted) Q E s:=by
 let⟨t',order,Z',e,T',pm,hm,V9,hp⟩:=T.relaid hM hl;have hz:(order.filterMap (es[·]?)).size=es.size:=by
  rw[T'.len,T.len];have:=pm.length_eq;simpa using this
 unfold setRelay;refine ZB (Tv ho hd T.fits ?_);dsimp only;have hz7:sizeLine=16777216:=by rfl
 rw[Yb (by lia)]
 refine ZB ?_;rw [e];show wpAny _ _ (do
  let es':=order.filterMap (es[·]?)
  if es'.size != es.size then unsupported "internal:set-table-lost-an-element"
  pure (es',t')) _ _ _
 dsimp only;rw[Yb (by rw[hz];simp)]
 refine ZP ?_;dsimp only;refine wpAny_storeSet_of ho hd (h _ t' Z' T' pm hm V9 hp) ?_;rw[hz,T.len];have:sizeLine=16777216:=by rfl
 omega
def pZ(K:A.units<cLine)(h:s.heap.get? a=some o)(P:Yt prog w o D es ep t Z)(L:∀d∈D,IsT prog w s.heap d.1 d.2)(B:IsT prog w s.heap k b)
  (WU:∀d∈D,Zn prog w d.1=Zn prog w k->d.1=k) (hn:D.length<300) {Q:Bool->Shared->Prop}
  (R:(∃d∈D,d.1=k)->Q false s)
  (C:(∀d∈D,d.1≠k) ->∀h' o' es' v t' Z',Heap.SameBut a s.heap h'->h'.get? a=some o'->Yt prog w o' (D++[(k,b)]) es' v t' Z'->Q true {s with heap:=h'}) :
  wpAny (model prog w) A (setAddHashed a (.ref b) (Zn prog w k)) Q E s:=by
 have hf:=P.tb.fits;unfold setAddHashed;refine V7 ?_;show wpAny (model prog w) A (setAddHashedIn a (.ref b) (Zn prog w k) (99999+1)) Q E s;rw[setAddHashedIn];refine ZB (Tv h P.dt hf ?_);dsimp only;rw[Yb (by exact G7)]
 refine ZB (qg K h P L B WU (λl=>?_) λl N V U=>?_)
 .exact ZP (R l)
 .dsimp only
  refine ZB (Tv h P.dt hf ?_);dsimp only;have hlen:=P.len;have H:=P.fl;have hM:=P.tb.hM;have O:Z.length+1<=t.mask:=by rcases hM with e|e|e|e<;>rw[e]at H ⊢<;>lia
  let⟨p,v,f⟩:=P.tb.put (x:=.ref b) V U O;have m:(t.put (IF t.mask (Zn prog w k) N)).1.plain=true:=P.pl;have z:(t.put (IF t.mask (Zn prog w k) N)).1.led = !(w.params.followText "set-order"):=P.ld;have i:(t.put (IF t.mask (Zn prog w k) N)).1.mask=t.mask:=rfl;rw[v];generalize u:List.take p Z++(IF t.mask (Zn prog w k) N,Zn prog w k,Value.ref b)::List.drop p Z=j at f;have c:(j.map (·.2)).Perm ((D++[(k,b)]).map λd=>(Zn prog w d.1,Value.ref d.2)):=by
   rw[<-u];refine((sY Z p _).map _).trans ?_;rw[Y2,T_];refine(P.pm.cons _).trans ?_;exact(Us (l₁:=[_])).trans (List.Perm.refl _)
  have I:j.length=Z.length+1:=by
   have:=c.length_eq;simp![Zd,YB,Rp]at this;lia
  generalize(t.put (IF t.mask (Zn prog w k) N)).1=t1 at f m z i;rw[Yn m];refine ZB (vK B ?_);simp![V6];refine ZB (wpAny_storeSet_of h P.dt ?_ ?_)
  rotate_left
  .rw [f.len]
   have:sizeLine=16777216:=by rfl
   lia
  have y:=i8 (es':=SetTable.insertAt es p (Zn prog w k,Value.ref b)) (t':=t1) h P.dt;have G:=SV s.heap a (Obj.putSet (SetTable.insertAt es p (Zn prog w k,Value.ref b)) t1);simp![Oy,Pa];rw[f.full];by_cases q:j.length*5 ≥ t1.mask*3
  .rw [Vt q]
   simp![V6];have r:es.size=Z.length:=P.tb.len;rw[r];let⟨T,g2,S⟩:=uS (M:=t.mask) (n:=Z.length) hM H (by rw[i,I]at q;exact q) (by lia)
   refine ZB (rB (s:={s with heap:=_}) y rfl f T (by lia) S λW t2 F T2 g e1 Y X=>?_)
   refine ZP (C l _ _ _ _ _ F (G.trans (SV _ a _)) (i8 y rfl) ⟨P.ex,rfl,T2,X.trans m,Y.trans z,?_,g.trans c⟩);have J:F.length=j.length:=by have:=g.length_eq;simpa using this
   rw[e1,J,I];exact g2
  .rw [Vu q]
   simp![Xh,Vn];refine ZP (C l _ _ _ _ _ j G y ⟨P.ex,rfl,f,m,z,by omega,c⟩)
def xj(c:A.units<cLine)(f:s.heap.get? a=some o)(P:Yt prog w o D es ep t Z)(h:∀d∈D,IsT prog w s.heap d.1 d.2)(e:IsT prog w s.heap k b)
  (n:∀d∈D,Zn prog w d.1=Zn prog w k->d.1=k) (g:D.length<300) {Q:Bool->Shared->Prop}
  (j:(∃d∈D,d.1=k)->Q false {s with toks:=s.toks+(k.length+1)})
  (i:(∀d∈D,d.1≠k) ->∀h' o' es' m t' l,Heap.SameBut a s.heap h'->h'.get? a=some o'->Yt prog w o' (D++[(k,b)]) es' m t' l->Q true {s with heap:=h',toks:=s.toks+(k.length+1)}) :
  wpAny (model prog w) A (setAdd a (.ref b)) Q E s:=by
 unfold setAdd;refine V7 (ZB (wpAny_pyHash_tuple c e ?_));exact pZ (s:={s with toks:=s.toks+(k.length+1)}) c f P h e n g j i
end
def dd(key:Nat->List Int×Addr):Nat->List (List Int×Addr)
 |0=>[]
 |i+1=>open Classical in if∃d∈dd key i,d.1=(key i).1 then dd key i else dd key i++[key i]
def cR(key:Nat->List Int×Addr):∀(i:Nat) (d:List Int×Addr),d∈dd key i ->∃j,j<i/\d=key j
 |0,d,h=>by cases h
 |i+1,d,h=>by
  unfold dd at h;split at h
  .obtain ⟨j,a,e⟩:=cR key i d h;exact⟨j,by lia,e⟩
  .rcases Wu.mp h with h|h
   .obtain ⟨j,a,e⟩:=cR key i d h;exact⟨j,by omega,e⟩
   .exact ⟨i,by lia,WC.mp h⟩
def mP(key:Nat->List Int×Addr):∀(i:Nat),(dd key i).length<=i
 |0=>G8 _
 |i+1=>by
  have:=mP key i;unfold dd;split
  .lia
  .rw [YB,Rp];lia
def mZ(key:Nat->List Int×Addr):∀(i j:Nat),j<i ->∃d∈dd key i,d.1=(key j).1
 |0,j,h=>by omega
 |i+1,j,h=>by
  unfold dd;by_cases b:j=i
  .subst b
   split
   .assumption
   .exact ⟨_,VF _ (WC.mpr rfl),rfl⟩
  .obtain ⟨d,a,e⟩:=mZ key i j (by lia)
   split
   .exact ⟨d,a,e⟩
   .exact ⟨d,Ra _ a,e⟩
def nT(key:Nat->List Int×Addr):∀(i:Nat),((dd key i).map (·.1)).Nodup
 |0=>List.nodup_nil
 |i+1=>by
  have ih:=nT key i;unfold dd;split
  .exact ih
  .rename_i c
   rw[T_];refine PZ.mpr ⟨ih,by simp,λx b y a e=>c ?_⟩
   let⟨d,f,g⟩:=Wl.mp b;rw[List.map_singleton,WC]at a;exact⟨d,f,by rw[g,e,a]⟩
section
variable{R:Result->Shared->Prop}{I:Addr}{wr:List Addr}{G:Array GenState->Array GenState->Prop}{P:Nat->Value->Prop}{St:Nat->Shared->Prop}
def SInv(prog:Program)(w:World)(Z6:Addr)(D:List (List Int×Addr))(h:Heap):Prop:=∃o es ep t Z,h.get? Z6=some o/\Yt prog w o D es ep t Z
def tV(W:WalksS prog w A.in1 I fp wr G n P St)(hu:A.in1.units<cLine)(Z6:Addr)(u:Z6 ∉ fp)(k:Heap)(M:k.get? Z6=none)(E:∀b∈wr,k.get? b=none)
  (key:Nat->List Int×Addr) (Tu:∀i v,P i v->v=.ref (key i).2) (UN:∀i,i<n->IsT prog w k (key i).1 (key i).2)
  (Tt:∀i j,i<n->j<n->Zn prog w (key i).1=Zn prog w (key j).1->(key i).1=(key j).1) (hn:n<=300) :
  ∀(m i:Nat) (s:Shared),n-i=m->i<=n->St i s->(∀b o,k.get? b=some o->s.heap.get? b=some o)->SInv prog w Z6 (dd key i) s.heap ->
   (∀s',Moved (Z6::wr) G s s'->SInv prog w Z6 (dd key n) s'.heap->R (.ok (.ret .none)) s') ->
   codeAny (model prog w) A (.builtin "set.update.loop" ⟨[.ref Z6,.ref I],[]⟩) R s:=by
 have r:Z6 ∉ wr:=λh=>u (W.sub _ h);have X:∀b∈wr,b∈Z6::wr:=λb g=>G9 _ g;have kp:∀{s s':Shared},Moved wr G s s'->(∀b o,k.get? b=some o->s.heap.get? b=some o) ->∀b o,k.get? b=some o->s'.heap.get? b=some o:=λa g b o e=>
  a.heap b o (λhw=>by rw[E b hw]at e;cases e) (g b o e)
 intro m
 induction m with
 |zero=>
  intro i s hk hi st g N z;have e:i=n:=by lia
  subst e;refine Pn Qv ?_;rw[Pf TZ _];show wpAny _ A.in1 (pyNext (.ref I) >>= _) _ _ s;refine ZB (W.done s _ _ st λs' a=>?_);let⟨o,es,ep,t,Z,ho,B⟩:=N;exact ZP (z s' (a.mono X) ⟨o,es,ep,t,Z,a.heap Z6 _ r ho,B⟩)
 |succ m ih=>
  intro i s hk hi st g N z;have y:i<n:=by omega
  refine Pn Qv ?_;rw[Pf TZ _];show wpAny _ A.in1 (pyNext (.ref I) >>= _) _ _ s;refine ZB (W.item i s _ _ y st λv s' hv Y a=>?_);obtain rfl:=Tu i v hv;let⟨o,es,ep,t,Z,ho,B⟩:=N;have YV:=a.heap Z6 _ r ho;have U:=kp a g;have l:∀j,j<n->IsT prog w s'.heap (key j).1 (key j).2:=λj J=>by
   let⟨x,ZU,c,e1,e2,e3,e4⟩:=UN j J;exact⟨x,ZU,c,U _ _ e1,e2,e3,e4⟩
  show wpAny _ A.in1 (holding [Value.ref (key i).2] (setAdd Z6 (.ref (key i).2)) >>= _) _ _ s';refine ZB (V7 (xj hu YV B (λd p=>?_) (l i y) (λd p e=>?_) (by have:=mP key i;lia) (λD=>?_) λD h' o2 Q S t2 Z2 sb H O=>?_))
  .obtain ⟨j,J,rfl⟩:=cR key i d p
   exact l j (by lia)
  .obtain ⟨j,J,rfl⟩:=cR key i d p
   exact Tt j i (by lia) y e
  .have T:dd key (i+1)=dd key i:=by rw[dd,Yn D]
   refine ZP ⟨plainId_quiet TZ _,ih (i+1) _ () y (W.frame _ s' s'.heap _ Y (Qp _ _) λb _ o e=>e) U ⟨o,es,ep,t,Z,YV,by rw[T];exact B⟩ λC V f=>?_⟩
   exact z C (Moved.trans W.gtrans ((a.mono X).then_heap (Qp _ _) λb o _ e=>e) V) f
  .have T:dd key (i+1)=dd key i++[key i]:=by
    rw[dd,Yb];rintro⟨d,p,e⟩;exact D d p e
   refine ZP ⟨plainId_quiet TZ _,ih (i+1) _ () y (W.frame _ s' h' _ Y (Qp _ _) λb L o e=>?_) (λb o e=>?_) ⟨o2,Q,S,t2,Z2,H,by rw[T];exact O⟩ λC V f=>?_⟩
   .rw [sb.2 b λq:b=Z6=>u (by rw[<-q];exact L)];exact e
   .show h'.get? b=_
    rw[sb.2 b λq:b=Z6=>by rw[q,M]at e;cases e];exact U b o e
   .refine z C (Moved.trans W.gtrans ((a.mono X).then_heap (Qp _ _) λb o K e=>?_) V) f
    show h'.get? b=_;rw[sb.2 b λq:b=Z6=>K (by rw[q];exact Wv)];exact e
end
section
variable{E:Value->Shared->Prop}
abbrev SN(w:World):Bool:=w.params.followText "set-order"
abbrev Be(w:World):Obj:={cls:=.type "set",dict:=none,data:=.set #[] 0 (.fresh 0 0 (!SN w))}
def vh:Yt prog w (Be w) [] #[] 0 (.fresh 0 0 (!SN w)) [] where
 ex:=⟨rfl,rfl,rfl⟩
 dt:=rfl
 tb:=⟨rfl,rfl,rfl,List.Pairwise.nil,λz a=>by(cases a),.inl rfl,RN _,λz a=>by(cases a)⟩
 pl:=rfl
 ld:=rfl
 fl:=(by decide:0<7*3)
 pm:=List.Perm.refl _
def uV(a:Value){Q₁ : Value->Shared->Prop}(h:Q₁ (.ref s.heap.objs.size) {s with heap:=s.heap.push (Be w)}):
  codeAny (model prog w) A (.call (.builtin "set.__new__") ⟨[.type "set",a],[]⟩) (wants Q₁ E) s:=by
 refine Ot ?_;show wpAny _ A.in1 (do checkBuiltinCall "set.__new__" ⟨[.type "set",a],[]⟩;again (.builtin "set.__new__" ⟨[.type "set",a],[]⟩)) _ _ s
 refine ZB (Oz (PySem.F.newCall_set_1 a) (ZP ⟨plainId_quiet PySem.F.plain_set_new _,Pn PySem.F.entry_set_new ?_⟩));rw[Pf PySem.F.plain_set_new _];unfold Builtin.«set.__new__» Builtin.Frozenset.newClass;have UH:=sub_set_self;let⟨hp,g,d,tk,os⟩:=s;dsimp only
 wp_walk
 refine SF (ZP ?_);dsimp only;simp![newObj];refine ZB (wpAny_alloc (ZP ?_));exact ZP h
set_option maxHeartbeats 3200000 in
def qY{l:Addr}{items:Array Value}{key:Nat->List Int×Addr}
  (hh:A.handled=none) (Y:A.units+3<cLine) (hl:s.heap.IsList l items) (Tu:∀(i:Nat) (v:Value),items[i]?=some v->v=.ref (key i).2) (UN:∀i,i<items.size->IsT prog w s.heap (key i).1 (key i).2)
  (Tt:∀i j,i<items.size->j<items.size->Zn prog w (key i).1=Zn prog w (key j).1->(key i).1=(key j).1) (Z:items.size<=300)
  (h:∀(h':Heap) (tk:Nat),SInv prog w s.heap.objs.size (dd key items.size) h'->(∀b o,s.heap.get? b=some o->h'.get? b=some o)->Q (.ref s.heap.objs.size) {s with heap:=h',toks:=tk}) :
  wpAny (model prog w) A (call (.type "set") [.ref l]) Q E s:=by
 let⟨c,tl,O⟩:=PySem.F.called_set.mro;have D:=PySem.F.called_set.made;have UH:=PySem.F.called_set.sub;refine OF (Ot ?_);show wpAny _ _ (callAny (.type "set") _) _ _ _;refine ZP ⟨Code.quiet_builtin _ (by decide +kernel),Pn PySem.F.entry_type_call ?_⟩
 rw[Around.under_plain (weight_type_call_type "set" [.ref l] []) rfl];have h1:=PySem.F.called_set.notType;have h2:=PySem.F.called_set.canCreate;have hct:=PySem.F.typeCall_set_1 (.ref l)
 repeat (any_goals (first|assumption|wp_step))
 refine Rz (uV (.ref l) (E:=E) (Q₁:=λobj S=>obj=.ref s.heap.objs.size/\S = {s with heap:=s.heap.push (Be w)}) ⟨rfl,rfl⟩) λr S k=>?_
 cases r with
 |error e=>exact k
 |ok fl=>
  cases fl with
  |ret obj=>
   let⟨rfl,rfl⟩:=k;have P:(s.heap.push (Be w)).get? s.heap.objs.size=some (Be w):=Hc _ rfl;have hT:Shared.TypeIs {s with heap:=s.heap.push (Be w)} (.ref s.heap.objs.size) "set":=⟨_,P,rfl⟩
   have hli:=PySem.F.called_set.init.lookup;have hbi:=PySem.F.called_set.init.bind (.ref s.heap.objs.size)
   repeat (any_goals (first|assumption|wp_step))
   refine Rz (codeAny_call_builtin (R:=wants (λr U => r=.none /\ ∃ h' tk,U = { s with heap:=h',toks:=tk }/\SInv prog w s.heap.objs.size (dd key items.size) h'/\(∀ b o,s.heap.get? b=some o->h'.get? b=some o)) E)
    PySem.F.called_set.init.plain PySem.F.entry_set_init (check_set_init_1 hT ?_)) λg U x=>?_
   .obtain ⟨W,n,T,L,u⟩:=hl
    let⟨K,Sd,C,Sb⟩:=W;simp only at T u;subst T;subst u;have m:(s.heap.push (Be w)).get? l=some {cls:=.type "list",dict:=Sd,data:=.seq items L,slots:=Sb}:=G4 _ n;have M:=PySem.F.sub_list_set;have N:=PySem.F.sub_list_frozenset;have Zo:(Value.type "list" == Value.type "dict")=false:=by decide
    have t:(s.heap.push (Be w)).IsList l items:=⟨_,m,rfl,L,rfl⟩;unfold Builtin.«set.__init__» noKeywords Builtin.Frozenset.updateFrom;generalize I:pyIter=PI
    wp_walk
    subst I;refine wpAny_pyIter_list t ?_;refine ZB (wpAny_runValue ?_);have q:l<s.heap.objs.size:=G5 n;have G:A.in1.in1.in1.handled=none:=by simp[hh]
    have y:(s.heap.push (Be w)).objs.size=s.heap.objs.size+1:=RL _ _;have p:l≠(s.heap.push (Be w)).objs.size:=by rw[y];exact Hb (RA q)
    have H:s.heap.objs.size ∉ [(s.heap.push (Be w)).objs.size,l]:=by
     rw[y];intro a;rcases Xq.mp a with e|a
     .exact Hb (Rj _) e
     .exact Qo q (WC.mp a)
    have V:∀b,s.heap.objs.size<=b->s.heap.get? b=none:=λb f=>by
     cases e:s.heap.get? b with
     |none=>rfl
     |some o=>exact absurd (G5 e) (Nat.not_lt.mpr f)
    refine tV ((Walks.list G _ l p items).toS) (by first|exact Y|(simp![Around.in1_units];omega)) s.heap.objs.size H s.heap (V _ (G8 _)) (λb f=>V b (by rw[WC.mp f,y];exact V8 _)) key (λi v X=>Tu i v X) UN Tt Z (items.size-0) 0 _ (by lia) (RN _)
     ⟨⟨_,Hc _ rfl,rfl,rfl⟩,(t.push _)⟩ (λb o e=>G4 _ (G4 _ e)) ⟨Be w,_,_,_,[],G4 _ P,vh⟩ λs' a d=>?_
    let⟨h',g',d',z,B⟩:=s';have eg:g'=s.gens:=a.gens;have ed:d'=s.drawn:=a.drawn;have eo:B=s.os:=a.os;subst eg;subst ed;subst eo;show wpAny _ _ _ _ _ _;refine ZP ?_;show wpAny _ _ (ret Value.none) _ _ _;refine ZP ⟨rfl,h',z,rfl,d,λb o e=>?_⟩;have f:=G5 e;refine a.heap b o (λJ=>?_) (G4 _ (G4 _ e));rcases Xq.mp J with e'|J
    .exact Hb f e'
    .have:=WC.mp J
     rw[y]at this;exact Hb (RA f) this
   .cases g with
    |error e=>exact x
    |ok Sa=>
     cases Sa with
     |ret r=>
      let⟨rfl,h',tk,rfl,d,WA⟩:=x
      repeat (any_goals (first|assumption|wp_step))
      exact h _ _ d WA
     |next=>exact x.elim
     |brk=>exact x.elim
     |cont=>exact x.elim
  |next=>exact k.elim
  |brk=>exact k.elim
  |cont=>exact k.elim
end
def lJ{b:Type}(next:Nat->Nat):∀(fu k:Nat) (left:List b) (out:Array b),left.length<=fu->(pickOrder.go next fu k left out).toList.Perm (out.toList++left)
 |0,k,left,out,h=>by
  have:left=[]:=QK.mp (by lia)
  subst this;rw[pickOrder.go,TR]
 |fu+1,k,left,out,h=>by
  rw[pickOrder.go];cases e:left[next k % left.length]? with
  |none=>
   dsimp only;cases left with
   |nil=>rw[TR]
   |cons x l=>
    rw[Xp (Oh _ (by rw[Xb];lia))]at e
    cases e
  |some x=>
   dsimp only;let⟨hi,ex⟩:=Yj.mp e;refine(lJ next fu (k+1) _ _ (by rw[List.length_eraseIdx_of_lt hi];lia)).trans ?_
   rw[SQ,XU];refine Rr _ ?_;have a:left=left.take (next k % left.length)++x::left.drop (next k % left.length+1):=by
    rw[<-ex,<-Vy hi,WD]
   rw[TK];generalize left.take (next k % left.length)=l1 at a ⊢;generalize left.drop (next k % left.length+1)=c at a ⊢;rw[a];exact(P_ (l₁:=l1)).symm
def rm(next:Nat->Nat)(xs:Array α):(pickOrder next xs).toList.Perm xs.toList:=by
 unfold pickOrder;exact(lJ next _ 0 _ #[] #[3]).trans #[3]
def IK(w:World)(a:Addr)(c:Nat)(b:Array (Int×Value)):List (Int×Value):=if w.params.followText "set-order" then(pickOrder (w.params.setOrder a c) b).toList else b.toList
def f9(w:World)(a:Addr)(c:Nat)(b:Array (Int×Value)):(IK w a c b).Perm b.toList:=by
 unfold IK;split
 .exact rm _ _
 .exact .refl _
def bN:Slot "set_iterator" "__next__" "set_iterator.__next__":=
 .of (owner:="set_iterator") (n:="__next__") (by rw[typeLookup_type,builtinLookup_eq_fast];kernel_rfl) (by decide +kernel) (by decide +kernel) (by decide +kernel)
  (by first|exact .inl (by decide +kernel)|exact .inr (by decide +kernel)) (by rw[OA];kernel_rfl)
def iT:entryFor table "set_iterator.__next__" = some Builtin.«set_iterator.__next__»:=entryFor_of_tree (by kernel_rfl)
def ja(a:Value):argsOk "set_iterator.__next__" ⟨[a],[]⟩:=by unfold argsOk;kernel_rfl
def jI:Slot "set_iterator" "__iter__" "set_iterator.__iter__":=
 .of (owner:="set_iterator") (n:="__iter__") (by rw[typeLookup_type,builtinLookup_eq_fast];kernel_rfl) (by decide +kernel) (by decide +kernel) (by decide +kernel)
  (by first|exact .inl (by decide +kernel)|exact .inr (by decide +kernel)) (by rw[OA];kernel_rfl)
def pR:entryFor table "set.__iter__" = some Builtin.«frozenset.__iter__»:=
 entryFor_alias (id':="frozenset.__iter__") (by kernel_rfl) rfl (by decide +kernel) (by kernel_rfl)
section
variable{E:Value->Shared->Prop}{Z6 it:Addr}{o:Obj}{es:Array (Int×Value)}{t:SetTable}{Z:Z3}
def SIt(h:Heap)(it Z6:Addr)(a i n c:Nat):Prop:=∃o,h.get? it=some o/\o.cls=.type "set_iterator" /\ o.data=.fields #[.int a 0,.int i 0,.ref Z6,.int n 0,.int c 0]
def SIt.typeIs(h:SIt s.heap it Z6 slot i n ep):s.TypeIs (.ref it) "set_iterator":=let⟨o,e,c,_⟩:=h;⟨o,e,c⟩
def tP(a:s.heap.get? Z6=some o)(P:Yt prog w o D es ep t Z)
  (h:Q (.ref s.heap.objs.size) {s with heap:=s.heap.push {cls:=.type "set_iterator",data:=.fields #[.int 0 0,.int 0 0,.ref Z6,.int es.size 0,.int ep 0]}}):wpAny (model prog w) A (pyIter (.ref Z6)) Q E s:=by
 have c:s.TypeIs (.ref Z6) "set":=⟨o,a,P.ex.1⟩;have hf:=P.tb.fits;refine P1 c PySem.F.slot_set_iter (U3 PySem.F.slot_set_iter c pR ?_ (PySem.F.args_set_iter_1 _));unfold Builtin.«frozenset.__iter__» Builtin.Frozenset.slot0 slotArgs Builtin.Frozenset.addrOf Builtin.Frozenset.sizeOf;dsimp only[List.isEmpty_nil,Bool.not_true,List.length_nil];rw[Yb #[1]];try (rw[Yb #[1]])
 refine ZB (ZP ?_);refine ZB (ZB (Pw a P.dt hf (ZP ?_)));refine ZB ?_;unfold setDrawn setsByText;refine ZB (Tv a P.dt hf ?_);dsimp only;refine ZB (ZB (SF (ZP ?_)));refine ZP ?_;rw[Yb (by show ¬ ((!w.params.followText "set-order" && (!t.plain&&decide (es.size > 1)))=true);rw[P.pl];simp)]
 refine ZB (ZP ?_);refine ZB (wpAny_setEpoch_of a P.dt hf ?_);exact ZB (Uk (ZP ⟨_,rfl,"set_iterator",_,⟨_,Hc _ rfl,rfl⟩,bN.lookup,by simpa[rawInt]using h⟩))
def SAt(w:World)(t:SetTable)(a i:Nat):Prop:=w.params.followText "set-order" = false->SetTable.below t.place a=i
def below_at(T:Tb t es Z){x:Nat}(e:t.place[i]?=some x):SetTable.below t.place (x+1)=i+1:=by
 let⟨c,b,d⟩:=T.below (x+1);have hi:=(UD.mp e).1;rcases Nat.lt_trichotomy (SetTable.below t.place (x+1)) (i+1)with q|q|q
 .have:=b i x (by lia) e;lia
 .exact q
 .have a:t.place[i+1]?=some t.place[i+1]:=WB ()
  have h1:=c (i+1) _ q a;have h2:=T.lt i (i+1) _ _ (by lia) e a
  lia
def pH(T:Tb t es Z):SetTable.below t.place 0=0:=by
 let⟨b,d,c⟩:=T.below 0;rcases Nat.eq_zero_or_pos (SetTable.below t.place 0)with q|q
 .exact q
 .have a:t.place[0]?=some t.place[0]:=WB ()
  have:=b 0 _ q a;lia
def rq{e:Int×Value}{Q:Option (Value×Nat)->Shared->Prop}(f:s.heap.get? Z6=some o)(P:Yt prog w o D es ep t Z)(r:SAt w t slot i)(c:(IK w Z6 ep es)[i]?=some e)
  (h:∀k,SAt w t k (i+1)->Q (some (e.2,k)) s):wpAny (model prog w) A (setNext Z6 slot i ep) Q E s:=by
 have hf:=P.tb.fits;unfold setNext;refine ZB (Tv f P.dt hf ?_);dsimp only;unfold setsByText;refine ZB (ZB (SF (ZP ?_)));dsimp only;cases a:w.params.followText "set-order" with
 |true=>
  have d:(model prog w).w.params.followText "set-order" = true:=a;rw[d,Yn rfl,Yb #[3]]
  refine ZB ?_;unfold setWalk setsByText;refine ZB (Tv f P.dt hf ?_);dsimp only;refine ZB (ZB (SF (ZP ?_)));rw[d,Yn rfl];refine ZB (SF (ZP ?_));refine ZP ?_;have:(pickOrder ((model prog w).w.params.setOrder Z6 ep) es)[i]?=some e:=by
   unfold IK at c;rw[Yn a]at c;rw[<-Vl];exact c
  rw[this];exact h slot (λq=>by rw[a]at q;cases q)
 |false=>
  have d:(model prog w).w.params.followText "set-order" = false:=a;rw[d,Yb #[1]]
  rw[Yb (by show ¬ ((!t.plain&&decide (es.size > 1))=true);rw[P.pl];simp)]
  refine ZB ?_;show wpAny _ _ (if(!t.led&&!es.isEmpty)=true then unsupported "set:maker-not-led" else pure Unit.unit) _ _ _
  rw[Yb (by rw[P.ld,a];simp)]
  refine ZP ?_;rw[r a];have j:es[i]?=some e:=by
   unfold IK at c;rw[Yb (by rw[a];decide)]at c
   rw[<-Vl];exact c
  have hi:i<t.place.size:=by
   have:=(UD.mp j).1;rw[P.tb.len]at this;rw[P.tb.hp];simpa using this
  have g:t.place[i]?=some t.place[i]:=WB hi;rw[j,g];exact ZP (h _ λ_=>below_at P.tb g)
def qC{Q:Option (Value×Nat)->Shared->Prop}(f:s.heap.get? Z6=some o)(P:Yt prog w o D es ep t Z)(g:SAt w t slot i)(a:(IK w Z6 ep es)[i]?=none)
  (h:Q none s):wpAny (model prog w) A (setNext Z6 slot i ep) Q E s:=by
 have hf:=P.tb.fits;unfold setNext;refine ZB (Tv f P.dt hf ?_);dsimp only;unfold setsByText;refine ZB (ZB (SF (ZP ?_)));dsimp only;cases c:w.params.followText "set-order" with
 |true=>
  have d:(model prog w).w.params.followText "set-order" = true:=c;rw[d,Yn rfl,Yb #[3]]
  refine ZB ?_;unfold setWalk setsByText;refine ZB (Tv f P.dt hf ?_);dsimp only;refine ZB (ZB (SF (ZP ?_)));rw[d,Yn rfl];refine ZB (SF (ZP ?_));refine ZP ?_;have:(pickOrder ((model prog w).w.params.setOrder Z6 ep) es)[i]?=none:=by
   unfold IK at a;rw[Yn c]at a;rw[<-Vl];exact a
  rw[this];exact h
 |false=>
  have d:(model prog w).w.params.followText "set-order" = false:=c;rw[d,Yb #[1]]
  rw[Yb (by show ¬ ((!t.plain&&decide (es.size > 1))=true);rw[P.pl];simp)]
  refine ZB ?_;show wpAny _ _ (if(!t.led&&!es.isEmpty)=true then unsupported "set:maker-not-led" else pure Unit.unit) _ _ _
  rw[Yb (by rw[P.ld,c];simp)]
  refine ZP ?_;rw[g c];have j:es[i]?=none:=by
   unfold IK at a;rw[Yb (by rw[c];decide)]at a
   rw[<-Vl];exact a
  rw[j];exact ZP h
def s9{e:Int×Value}{Q:Option Value->Shared->Prop}(a:SIt s.heap it Z6 slot i es.size ep)(k:s.heap.get? Z6=some o)(P:Yt prog w o D es ep t Z)(u:SAt w t slot i)(y:(IK w Z6 ep es)[i]?=some e)
  (h:∀h' d,SIt h' it Z6 d (i+1) es.size ep->SAt w t d (i+1)->Heap.SameBut it s.heap h'->Q (some e.2) {s with heap:=h'}):wpAny (model prog w) A (pyNext (.ref it)) Q E s:=by
 let⟨B,g,z,c⟩:=id a;unfold pyNext;refine ZB (Pb (Rc (name:=Str.ofString "__next__") a.typeIs bN (U3 bN a.typeIs iT ?_ (ja _))))
 delta Builtin.«set_iterator.__next__» slotArgs;dsimp only
 dsimp only[List.isEmpty_nil,Bool.not_true,List.length_nil];rw[Yb #[1]];try (rw[Yb #[1]])
 refine ZB (ZP ?_);refine ZB (PH g c ?_);dsimp only;refine ZB (Pw k P.dt P.tb.fits ?_);rw[Yb #[3]]
 simp![QT];refine ZB (rq k P u y λd f=>?_);dsimp only;refine ZB (QU g c #[3] ?_)
 have j:(s.heap.update it (Obj.mapFields (·.setIfInBounds 0 (rawInt d)))).get? it=some _:=Ro _ g (Q3 (Sh c _));refine ZB (QU j (Sh c _) #[3] ?_)
 have r:=Ro (Obj.mapFields (·.setIfInBounds 1 (rawInt ((i:Int)+1)))) j (Q3 (Sh (Sh c _) _));refine ZP ⟨_,rfl,ZP (h _ d ⟨_,r,((P2 ..).trans (P2 ..)).trans z,?_⟩ f ((SV ..).trans (SV ..)))⟩;rw[Sh (Sh c _)];simp[rawInt]
def t7{Q:Option Value->Shared->Prop}(k:A.handled=none)(c:SIt s.heap it Z6 slot i es.size ep)(d:s.heap.get? Z6=some o)(P:Yt prog w o D es ep t Z)(j:SAt w t slot i)(r:(IK w Z6 ep es)[i]?=none)
  (h:∀h',Heap.ExtBut it s.heap h'->Q none {s with heap:=h'}):wpAny (model prog w) A (pyNext (.ref it)) Q E s:=by
 let⟨u,g,y,f⟩:=id c;unfold pyNext;refine ZB (Pb (Rc (name:=Str.ofString "__next__") c.typeIs bN (U3 bN c.typeIs iT ?_ (ja _))))
 delta Builtin.«set_iterator.__next__» slotArgs;dsimp only
 dsimp only[List.isEmpty_nil,Bool.not_true,List.length_nil];rw[Yb #[1]];try (rw[Yb #[1]])
 refine ZB (ZP ?_);refine ZB (PH g f ?_);dsimp only;refine ZB (Pw d P.dt P.tb.fits ?_);rw[Yb #[3]]
 simp![QT];refine ZB (qC d P j r ?_);dsimp only;refine ZB (QU g f #[3] ?_)
 refine ZB ?_
 delta newExc newTuple;try dsimp only
 refine ZB (Uk ?_ (by size_fits))
 refine ZB (m:=firstArgMember _ _) (Oz (a:=Value.none) (by first|rfl|(simp![firstArgMember];rfl)) (Uk ?_ (by size_fits)))
 delta raiseNew;try dsimp only
 refine ZB (wpAny_handled ?_);rw[show A.in1.handled=none from k];refine ZB (ZP (wpAny_throw ?_));exact ZB (Oa (T:="StopIteration") (b:=true) ⟨_,Hc _ rfl,rfl⟩ isSubtype_stop (ZP (h _ (((SV ..).extBut.push _).push _))))
end
def Ag:List Int->List Int->Bool
 |[],[]=>false
 |[],_::_=>true
 |_::_,[]=>false
 |a::r,b::q=>if a=b then Ag r q else decide (a<b)
section
variable{E:Value->Shared->Prop}
def aax(c:A.units<cLine){f:Bool}{a b:Int}{t u:Tok}{Q:Bool->Shared->Prop}(h:Q (decide (a<b)) s):wpAny (model prog w) A (oneLt' f (.int a t) (.int b u)) Q E s:=by
 cases f with
 |true=>exact oneLt_int h
 |false=>
  rw[oneLt'_eq];simp![Xh,Vn];refine ZB (wpAny_richCompare_same_room (op:=.Lt) (typeIs_int s a t) (typeIs_int s b u) slot_int_lt (call_int_lt ⟨(λe=>nomatch e),?_⟩) c);exact T1 h
def rb(f:Bool)(x y:Value):keyLt' (tuples' f) x y=(do
  let xs<-Builtin.List.listItems x;let ys<-Builtin.List.listItems y
  for ((p,q),i)in (xs.toList.zip ys.toList).zipIdx do
   if !(<- eqBool p q)then return<-oneLt' (f&&i==0) p q
  return xs.size<ys.size):=rfl
def aaZ(N:A.units<cLine){f:Bool}{x y:List Int}{b:Addr}{Q:Bool->Shared->Prop}(M:IsT prog w s.heap x a)(L:IsT prog w s.heap y b)(h:Q (Ag x y) s):
  wpAny (model prog w) A (keyLt' (tuples' f) (.ref a) (.ref b)) Q E s:=by
 let⟨X,xs,na,H,_,J,P⟩:=M;let⟨ob,ys,nb,G,_,O,I⟩:=L;rw[rb];refine ZB (listItems_at H J ?_);refine ZB (listItems_at G O ?_);refine ZB ?_;refine Q7 _
  (λZQ r s'=>r.1=none/\s'=s /\∃p o m n k,ZQ=(List.zip m n).zipIdx k/\ItemsAre (intKind prog w) p m/\ItemsAre (intKind prog w) o n/\Ag p o=Ag x y/\(m.length+ys.size=n.length+xs.size))
  _ ?_ ?_ _ _ ⟨rfl,rfl,x,y,xs.toList,ys.toList,0,rfl,P,I,rfl,by simp[Nat.add_comm]⟩
 .rintro ⟨⟨u,v⟩,i⟩ ZQ r s' ⟨F,rfl,p,o,m,n,k,c,K,q,t,hlen⟩
  cases K with
  |nil=>simp at c
  |@cons D S B e h1 j=>
   cases q with
   |nil=>simp at c
   |@cons C R z d h2 g=>
    simp![Rn,List.zipIdx_cons,Po,QA]at c;let⟨⟨⟨rfl,rfl⟩,rfl⟩,rfl⟩:=c;refine ZB ((intKind prog w).eqBool (a:=D) (b:=C) h1 h2 ?_);by_cases hk:D=C
    .subst hk
     rw[Vt rfl];simp![Bool.not_true,Xh,Vn];refine ZP ⟨rfl,rfl,B,z,e,d,i+1,rfl,j,g,?_,?_⟩
     .rw [<-t];simp[Ag]
     .simp only [Xb]at hlen;lia
    .rw [Vu hk]
     simp![Oy,V6];let⟨U,rfl⟩:=Qg h1;let⟨T,rfl⟩:=Qg h2;refine ZB (aax N ?_);refine ZP (ZP ?_);have:Ag x y=decide (D<C):=by rw[<-t];simp[Ag,hk]
     rw[this]at h;exact h
 .rintro ⟨W,V⟩ s' ⟨F,rfl,p,o,m,n,k,c,K,q,t,hlen⟩
  simp only at F;subst F;refine ZP ?_;have l:decide (xs.size<ys.size)=Ag x y:=by
   rw[<-t];cases K with
   |nil=>
    cases q with
    |nil=>simp![Ag,List.length_nil]at hlen ⊢;exact Vu (by lia)
    |cons _ _=>simp![Ag,List.length_nil,Xb]at hlen ⊢;exact Vt (by lia)
   |cons _ _=>
    cases q with
    |nil=>simp![Ag,List.length_nil,Xb]at hlen ⊢;exact Vu (by lia)
    |cons _ _=>simp at c
  rw[l];exact h
end
def AR(prog:Program)(w:World)(A:Around)(E:Value->Shared->Prop)(s:Shared)(a:SortKind)(ZO : Array Keyed)(rk:Keyed->Nat):Prop:=
 ∀x y,x∈ZO -> y∈ZO ->∀(st:SortSt) (Q:Option Bool->SortSt->Prop),kindOf st=a->Q (some (decide (rk x<rk y))) st->wpS (model prog w) A E s (lt' x y) Q st
def IL(rk:Keyed->Nat)(a:Array Keyed)(i:Nat):Nat:=(a[i]?.map rk).getD 0
structure SB(κ:SortKind)(ZO : Array Keyed)(st:SortSt):Prop where
 perm:(arrOf st).Perm ZO
 failed:failedOf st=none
 kind:kindOf st=κ
def Up(r:Nat->Nat)(lo hi:Nat):Prop:=∀i j,lo<=i->i<=j->j<hi->r i<=r j
def Dn(r:Nat->Nat)(lo hi:Nat):Prop:=∀i j,lo<=i->i<=j->j<hi->r j<=r i
structure Kp(κ:SortKind)(ZO : Array Keyed)(lo hi:Nat)(st ZX:SortSt):Prop where
 sb:SB κ ZO ZX
 out:∀i,(i<lo\/hi<=i)->(arrOf ZX)[i]?=(arrOf st)[i]?
 pend:pendingOf ZX=pendingOf st
section
variable{E:Value->Shared->Prop}{hi:Nat}
def SB.size(B:SB κ ZO st):(arrOf st).size=ZO.size:=B.perm.size_eq
def Kp.refl(B:SB κ ZO st):Kp κ ZO lo hi st st:=⟨B,λ_ _=>rfl,rfl⟩
def Kp.trans{a b:SortSt}(h:Kp κ ZO lo hi st a)(h':Kp κ ZO lo hi a b):Kp κ ZO lo hi st b:=⟨h'.sb,λi hi=>(h'.out i hi).trans (h.out i hi),h'.pend.trans h.pend⟩
def SB.setArr(B:SB κ ZO st){xs:Array Keyed}(h:xs.Perm (arrOf st)):SB κ ZO (setArr st xs):=⟨h.trans B.perm,B.failed,B.kind⟩
def cX(Z7:AR prog w A E s κ ZO rk)(B:SB κ ZO st){Q:Option Bool->SortSt->Prop}(hi:i<ZO.size)(hj:j<ZO.size)
  (h:Q (some (decide (IL rk (arrOf st) i<IL rk (arrOf st) j))) st):wpS (model prog w) A E s (ltAt' i j) Q st:=by
 have Yr:i<(arrOf st).size:=by rw[B.size];exact hi
 have Yd:j<(arrOf st).size:=by rw[B.size];exact hj
 have ei:(arrOf st)[i]?=some (arrOf st)[i]:=WB Yr;have ej:(arrOf st)[j]?=some (arrOf st)[j]:=WB Yd;rw[ltAt'_eq];refine YY (Py ?_);show wpS _ _ _ _ (do let x<-elem' (arrOf st) i;let y<-elem' (arrOf st) j;lt' x y) Q st
 rw[elem'_eq,elem'_eq,ei,ej];refine YY (XR (YY (XR ?_)));refine Z7 _ _ (B.perm.mem_iff.mp (VM Yr)) (B.perm.mem_iff.mp (VM Yd)) st Q B.kind ?_;unfold IL at h;rw[ei,ej]at h;exact h
def qU{a:Array Keyed}(b:j<=a.size)(k:Nat):IL rk (mirror a i j ((j-i) / 2)) k=if i<=k/\k<j then IL rk a (i+j-1-k)else IL rk a k:=by
 unfold IL;rw[getElem?_mirror_all b];split<;>rfl
def bZ(B:SB κ ZO st){Q:Unit->SortSt->Prop}(c:j<=ZO.size)
  (h:∀a,SB κ ZO a->pendingOf a=pendingOf st->(∀k,¬ (i<=k/\k<j)->(arrOf a)[k]?=(arrOf st)[k]?)->(∀k,IL rk (arrOf a) k=if i<=k/\k<j then IL rk (arrOf st) (i+j-1-k)else IL rk (arrOf st) k)->Q Unit.unit a) :
  wpS (model prog w) A E s (reverseSlice' i j) Q st:=by
 have b:j<=(arrOf st).size:=by rw[B.size];exact c
 rw[reverseSlice'_eq];refine RX (h _ (B.setArr (mirror_perm _ _ _ _)) rfl (λk hk=>?_) λk=>qU b k);show(mirror (arrOf st) i j ((j-i) / 2))[k]?=_;rw[getElem?_mirror_all b,Yb hk]
def cF(Z7:AR prog w A E s κ ZO rk)(B:SB κ ZO st){Zh:Nat}{Q:Option (Option Nat)×Nat->SortSt->Prop}(h1:1<=n)(h2:n<=Zh)(hs:lo+Zh<=ZO.size)(hu:Up (IL rk (arrOf st)) lo (lo+n))
  (h:∀m,n<=m->m<=Zh->Up (IL rk (arrOf st)) lo (lo+m)->(m=Zh\/IL rk (arrOf st) (lo+m)<IL rk (arrOf st) (lo+m-1))->Q (none,m) st) :
  wpS (model prog w) A E s (forIn [n:Zh] ((none,n):Option (Option Nat)×Nat) λ_ c=>do
   let VN<-ltAt' (lo+c.2) (lo+c.2-1)
   match VN with
   |some Ts=>if Ts=true then pure (ForInStep.done (none,c.2))else pure (ForInStep.yield (none,c.2+1))
   |_=>pure (ForInStep.done (some none,c.2))) Q st:=by
 refine TF (Ut (I:=λx c ZX=>ZX=st/\c=(none,x)/\x<=Zh/\Up (IL rk (arrOf st)) lo (lo+x))
  (Q:=λc ZX=>ZX=st /\∃m,c=(none,m)/\n<=m/\m<=Zh/\Up (IL rk (arrOf st)) lo (lo+m)/\(m=Zh\/IL rk (arrOf st) (lo+m)<IL rk (arrOf st) (lo+m-1))) ?_ ?_ ⟨rfl,rfl,h2,hu⟩) ?_
 .rintro x c ZX hnx hx ⟨rfl,rfl,_,Yz⟩
  refine YY (cX Z7 B (by lia) () ?_)
  by_cases hl:IL rk (arrOf ZX) (lo+x)<IL rk (arrOf ZX) (lo+x-1)
  .simp only [hl,Pg,V6]
   exact XR ⟨rfl,x,rfl,hnx,by lia,Yz,.inr hl⟩
  .simp only [hl,Qq,Xh,Vn]
   refine XR ⟨rfl,rfl,by lia,λi j hi Y3 hj=>?_⟩
   by_cases q:j<lo+x
   .exact Yz i j hi Y3 q
   .have:j=lo+x:=by lia
    subst this;by_cases q2:i=lo+x
    .rw [q2];exact G8 _
    .exact G6 (Yz i (lo+x-1) hi (by lia) ()) (by lia)
 .rintro c ZX ⟨rfl,rfl,_,Yz⟩
  have e:max n Zh=Zh:=by lia
  rw[e]at Yz ⊢;exact⟨rfl,Zh,rfl,h2,G8 _,Yz,.inl rfl⟩
 .rintro c ZX ⟨rfl,m,rfl,a,b,c,d⟩
  exact h m a b c d
end
section
variable{E:Value->Shared->Prop}{hi:Nat}
def Eqs(r:Nat->Nat)(lo n q:Nat):Prop:=q+1<=n /\∀i,lo+n-(q+1)<=i->i<lo+n->r i=r (lo+n-1)
def gg(B:SB κ ZO st){q:Nat}{Q:Unit->SortSt->Prop}(d:Eqs (IL rk (arrOf st)) lo n q)(b:lo+n<=ZO.size)
  (h:∀a,Kp κ ZO lo (lo+n) st a->(∀k,IL rk (arrOf a) k=IL rk (arrOf st) k)->Q Unit.unit a):wpS (model prog w) A E s (reverseSlice' (lo+n-(q+1)) (lo+n)) Q st:=by
 let⟨h1,h2⟩:=d;refine bZ (rk:=rk) B b λa f e ho c=>h a ⟨f,λi hi=>ho i (),e⟩ λk=>?_
 rw[c k];split
 .rename_i hk
  rw[h2 _ () (),h2 k (by lia) ()]
 .rfl
def jq(z:AR prog w A E s κ ZO rk)(B:SB κ ZO st){g:Nat}{Q:Option (Option Nat)×Nat×Nat->SortSt->Prop}(O:1<=n)(y:n<=g)(M:lo+g<=ZO.size)(G:Dn (IL rk (arrOf st)) lo (lo+n))
  (h:∀m q f,Kp κ ZO lo (lo+g) st f->n<=m->m<=g->Dn (IL rk (arrOf f)) lo (lo+m)->Eqs (IL rk (arrOf f)) lo m q->Q (none,m,q) f) :
  wpS (model prog w) A E s (forIn [n:g] ((none,n,0):Option (Option Nat)×Nat×Nat) λ_ c =>
   ltAt' (lo+c.2.1) (lo+c.2.1-1) >>= λv=>match v with
   |some Ts=>if Ts=true then
     (if c.2.2 > 0 then reverseSlice' (lo+c.2.1-(c.2.2+1)) (lo+c.2.1) >>= λ_=>pure (ForInStep.yield (none,c.2.1+1,0))else pure (ForInStep.yield (none,c.2.1+1,0)))
    else (ltAt' (lo+c.2.1 - 1) (lo+c.2.1) >>= λv=>match v with
     |some R_=>if R_=true then pure (ForInStep.done (none,c.2.1,c.2.2))else pure (ForInStep.yield (none,c.2.1+1,c.2.2+1))
     |_=>pure (ForInStep.done (some none,c.2.1,c.2.2)))
   |_=>pure (ForInStep.done (some none,c.2.1,c.2.2))) Q st:=by
 refine TF (Ut (I:=λx c f=>Kp κ ZO lo (lo+g) st f /\ ∃ q,c=(none,x,q)/\x<=g/\Dn (IL rk (arrOf f)) lo (lo+x)/\Eqs (IL rk (arrOf f)) lo x q)
  (Q:=λc f=>Kp κ ZO lo (lo+g) st f /\∃m q,c=(none,m,q)/\n<=m/\m<=g/\Dn (IL rk (arrOf f)) lo (lo+m)/\Eqs (IL rk (arrOf f)) lo m q) ?_ ?_
  ⟨Kp.refl B,0,rfl,y,G,by lia,λi a b=>by congr 1;lia⟩) ?_
 .rintro x c f t L ⟨hk,q,rfl,_,l,o⟩
  have k:∀{r:Nat->Nat},Dn r lo (lo+x)->r (lo+x)<=r (lo+x-1)->Dn r lo (lo+(x+1)):=λ{r} l hl i j hi K N=>by
   by_cases q:j<lo+x
   .exact l i j hi K q
   .have:j=lo+x:=by lia
    subst this;by_cases p:i=lo+x
    .rw [p];exact G8 _
    .exact G6 hl (l i (lo+x-1) hi (by lia) ())
  have one:∀r:Nat->Nat,Eqs r lo (x+1) 0:=λr=>⟨by lia,λi a b=>by congr 1;lia⟩
  dsimp only;refine YY (cX z hk.sb (by lia) () ?_)
  by_cases hl:IL rk (arrOf f) (lo+x)<IL rk (arrOf f) (lo+x-1)
  .simp only [hl,Pg,V6]
   by_cases D:q > 0
   .rw [Yn D]
    refine YY (gg hk.sb o (by lia) λJ u F=>XR ⟨hk.trans ⟨u.sb,λi hi=>u.out i (by lia),u.pend⟩,0,rfl,by lia,?_,one _⟩)
    have e:IL rk (arrOf J)=IL rk (arrOf f):=funext F;rw[e];exact k l (by lia)
   .rw [Yb D]
    exact XR ⟨hk,0,rfl,by omega,k l (),one _⟩
  .simp only [hl,Qq,Xh,Vn]
   refine YY (cX z hk.sb (by lia) (by lia) ?_)
   by_cases C:IL rk (arrOf f) (lo+x-1)<IL rk (arrOf f) (lo+x)
   .simp only [C,Pg,V6]
    exact XR ⟨hk,x,q,rfl,t,by omega,l,o⟩
   .simp only [C,Qq,Xh,Vn]
    refine XR ⟨hk,q+1,rfl,by omega,k l (by lia),by have:=o.1;lia,λi a b=>?_⟩
    have H:lo+(x+1)-1=lo+x:=by lia
    rw[H];by_cases p:i=lo+x
    .rw [p]
    .rw [o.2 i (by have:=o.1;lia) (by lia)];lia
 .rintro c f ⟨hk,q,rfl,_,l,o⟩
  have e:max n g=g:=by omega
  rw[e]at l o ⊢;exact⟨hk,g,q,rfl,y,G8 _,l,o⟩
 .rintro c f ⟨hk,m,q,rfl,a,b,c,d⟩
  exact h m q f hk a b c d
end
section
variable{E:Value->Shared->Prop}{hi:Nat}
def eG{r a:Nat->Nat}(c:Dn r lo (lo+n))(b:∀k,a k=if lo<=k/\k<lo+n then r (lo+(lo+n)-1-k)else r k):Up a lo (lo+n):=λi j hi e d=>by
 rw[b i,b j,Yn (by lia),Yn (by lia)]
 exact c _ _ () () ()
def rW(t:AR prog w A E s κ ZO rk)(B:SB κ ZO st){g:Nat}{Q:Option Nat->SortSt->Prop}(h1:1<=g)(v:lo+g<=ZO.size)
  (h:∀m Y,Kp κ ZO lo (lo+g) st Y->1<=m->m<=g->Up (IL rk (arrOf Y)) lo (lo+m)->Q (some m) Y) :
  wpS (model prog w) A E s (countRun' lo g) Q st:=by
 rw[countRun'_eq];refine YY (cF t B (G8 1) h1 v (λi j hi P W=>by have:i=j:=(by lia);rw[this];exact G8 _) λn YL Yi M T=>?_)
 dsimp only;by_cases U:n=g
 .rw [Yn (by simp[U])]
  exact XR (h n st (Kp.refl B) YL Yi M)
 .rw [Yb (by simp[U])]
  have Zb:IL rk (arrOf st) (lo+n)<IL rk (arrOf st) (lo+n-1):=T.resolve_left U;have WS:n<g:=by lia
  have p:∀{r:Nat->Nat},Dn r lo (lo+n)->r (lo+n)<=r (lo+n-1)->Dn r lo (lo+(n+1)):=λ{r} Y4 hl i j hi P W=>by
   by_cases q:j<lo+n
   .exact Y4 i j hi P q
   .have:j=lo+n:=by lia
    subst this;by_cases q2:i=lo+n
    .rw [q2];exact G8 _
    .exact G6 hl (Y4 i (lo+n-1) hi (by lia) ())
  by_cases I:n > 1
  .rw [Yn I]
   refine YY (cX t B (by lia) () ?_)
   by_cases H:IL rk (arrOf st) lo<IL rk (arrOf st) (lo+n-1)
   .simp only [H,Pg,V6]
    exact XR (h n st (Kp.refl B) YL Yi M)
   .simp only [H,Qq,Xh,Vn]
    have N:∀i,lo<=i->i<lo+n->IL rk (arrOf st) i=IL rk (arrOf st) (lo+n-1):=λi a b=>by
     have e1:=M lo i (G8 _) a b;have Z:=M i (lo+n-1) a (by lia) ()
     lia
    refine YY (bZ (rk:=rk) B (by lia) λO B1 hp ho R=>?_)
    have e1:∀k,IL rk (arrOf O) k=IL rk (arrOf st) k:=λk=>by
     rw[R k];split
     .rw [N _ () (),N k (by lia) (by lia)]
     .rfl
    have Z:IL rk (arrOf O)=IL rk (arrOf st):=funext e1;have C:Kp κ ZO lo (lo+g) st O:=⟨B1,λi hi=>ho i (by lia),hp⟩
    have y:Dn (IL rk (arrOf O)) lo (lo+(n+1)):=by
     rw[Z];exact p (λi j hi P W=>by rw[N i (by lia) (by lia),N j (by lia) (by lia)];exact G8 _) (by lia)
    refine YY (PJ (RP ⟨rfl,?_⟩));refine YY (jq t C.sb (by lia) (by lia) v y λm q X l V J d S=>?_)
    dsimp only;by_cases L:q > 0
    .rw [Yn L]
     refine YY (gg l.sb S (by lia) λK o H=>?_)
     have e:IL rk (arrOf K)=IL rk (arrOf X):=funext H;have x:Dn (IL rk (arrOf K)) lo (lo+m):=by rw[e];exact d
     refine YY (bZ (rk:=rk) o.sb () λz f D F G=>?_)
     refine YY (cF t f (by lia) J v (eG x G) λu a b c _=>?_)
     exact XR (h u z ((C.trans l).trans (Kp.trans ⟨o.sb,λi hi=>o.out i (by lia),o.pend⟩ ⟨f,λi hi=>F i (by lia),D⟩)) (by lia) b c)
    .rw [Yb L]
     refine YY (bZ (rk:=rk) l.sb () λz f D F G=>?_)
     refine YY (cF t f () J v (eG d G) λu a b c _=>?_)
     exact XR (h u z ((C.trans l).trans ⟨f,λi hi=>F i (),D⟩) () b c)
  .rw [Yb I]
   have:n=1:=by lia
   subst this;have C:Kp κ ZO lo (lo+g) st st:=Kp.refl B;have y:Dn (IL rk (arrOf st)) lo (lo+(1+1)):=p (λi j hi P W=>by have:i=j:=(by lia);rw[this];exact G8 _) (by lia)
   refine YY (PJ (RP ⟨rfl,?_⟩));refine YY (jq t C.sb (by lia) (by lia) v y λm q X l V J d S=>?_)
   dsimp only;by_cases L:q > 0
   .rw [Yn L]
    refine YY (gg l.sb S (by lia) λK o H=>?_)
    have e:IL rk (arrOf K)=IL rk (arrOf X):=funext H;have x:Dn (IL rk (arrOf K)) lo (lo+m):=by rw[e];exact d
    refine YY (bZ (rk:=rk) o.sb () λz f D F G=>?_)
    refine YY (cF t f (by lia) J v (eG x G) λu a b c _=>?_)
    exact XR (h u z ((C.trans l).trans (Kp.trans ⟨o.sb,λi hi=>o.out i (by lia),o.pend⟩ ⟨f,λi hi=>F i (by lia),D⟩)) (by lia) b c)
   .rw [Yb L]
    refine YY (bZ (rk:=rk) l.sb () λz f D F G=>?_)
    refine YY (cF t f () J v (eG d G) λu a b c _=>?_)
    exact XR (h u z ((C.trans l).trans ⟨f,λi hi=>F i (),D⟩) () b c)
def jb{a:Array Keyed}{b:Nat}(c:b<a.size)(e:d<=b)(k:Nat):IL rk (bubble a b d) k=if k=b-d then IL rk a b else if b-d<k/\k<=b then IL rk a (k-1)else IL rk a k:=by
 unfold IL;rw[getElem?_bubble c d e k];split
 .rfl
 .split<;>rfl
def pz(Z7:AR prog w A E s κ ZO rk)(B:SB κ ZO st){ok:Nat}{Q:Bool->SortSt->Prop}(hs:lo+n<=ZO.size)(ZJ:ok<=n)(hu:Up (IL rk (arrOf st)) lo (lo+ok))
  (h:∀ZX,Kp κ ZO lo (lo+n) st ZX->Up (IL rk (arrOf ZX)) lo (lo+n)->Q true ZX):wpS (model prog w) A E s (binarySort' lo n ok) Q st:=by
 rw [binarySort'_eq];refine YY (TF (Ut (I:=λk c ZX=>c=(none,Unit.unit)/\Kp κ ZO lo (lo+n) st ZX/\Up (IL rk (arrOf ZX)) lo (lo+min k n))
  (Q:=λc ZX=>c=(none,Unit.unit)/\Kp κ ZO lo (lo+n) st ZX/\Up (IL rk (arrOf ZX)) lo (lo+n)) ?step ?fin ?init) ?post)
 case post=>
  rintro c ZX ⟨rfl,hk,Yz⟩;exact XR (h ZX hk Yz)
 case init=>
  refine⟨rfl,Kp.refl B,λi j hi Y3 hj=>?_⟩;by_cases q:ok=0
  .have:i=j:=by lia
   rw[this];exact G8 _
  .exact hu i j hi Y3 (by lia)
 case fin=>
  rintro c ZX ⟨hc,hk,Yz⟩;refine⟨hc,hk,?_⟩;rwa[show min (max (max ok 1) n) n=n by omega]at Yz
 case step=>
  rintro k c ZX hak Vg ⟨rfl,hk,Yz⟩;rw[show min k n=k by lia]at Yz
  refine YY (TF (Ut (I:=λx c Y1=>Y1=ZX /\ ∃ l r,c=(none,l,r)/\l<=r/\r<=k/\r - l<=k - x /\
    (∀i,i<l->IL rk (arrOf ZX) (lo+i)<=IL rk (arrOf ZX) (lo+k))/\(∀i,r<=i->i<k->IL rk (arrOf ZX) (lo+k)<IL rk (arrOf ZX) (lo+i)))
   (Q:=λc Y1=>Y1=ZX /\ ∃ l r,c=(none,l,r)/\l<=k /\
    (∀i,i<l->IL rk (arrOf ZX) (lo+i)<=IL rk (arrOf ZX) (lo+k))/\(∀i,l<=i->i<k->IL rk (arrOf ZX) (lo+k)<IL rk (arrOf ZX) (lo+i))) ?R9 ?ifin ?R8) ?R7)
  case R8=>exact⟨rfl,0,k,rfl,by lia,by lia,by lia,λi hi=>by lia,λi a b=>by lia⟩
  case ifin=>
   rintro c Y1 ⟨rfl,l,r,rfl,hlr,hrk,hm,Wa,Vf⟩;have e:l=r:=by lia
   subst e;exact⟨rfl,l,l,rfl,hrk,Wa,Vf⟩
  case R9=>
   rintro x c Y1 _ hxk ⟨rfl,l,r,rfl,hlr,hrk,hm,Wa,Vf⟩;dsimp only;by_cases Ye:l ≥ r
   .rw [Yn Ye]
    have e:l=r:=by lia
    subst e;exact XR ⟨rfl,l,l,rfl,hrk,Wa,Vf⟩
   .rw [Yb Ye]
    refine YY (cX Z7 hk.sb (by lia) (by lia) ?_)
    by_cases TN:IL rk (arrOf Y1) (lo+k)<IL rk (arrOf Y1) (lo+(l+r) / 2)
    .simp only [TN,Pg,V6]
     refine XR ⟨rfl,l,(l+r) / 2,rfl,by lia,by lia,by omega,Wa,λi a b=>?_⟩
     exact Ha TN (Yz _ _ (by lia) (by lia) (by lia))
    .simp only [TN,Qq,Xh,Vn]
     refine XR ⟨rfl,(l+r) / 2+1,r,rfl,by lia,by lia,by omega,λi a=>?_,Vf⟩
     exact G6 (Yz (lo+i) (lo+(l+r) / 2) (by lia) (by lia) (by lia)) (Nat.not_lt.mp TN)
  case R7=>
   rintro c Y1 ⟨rfl,l,r,rfl,hlk,Wa,Vf⟩;show wpS _ _ _ _ (do moveDown' (lo+k) (lo+l);pure (ForInStep.yield (none,Unit.unit))) _ _
   rw[moveDown'_eq];have YU:lo+k<(arrOf Y1).size:=by rw[hk.sb.size];lia
   refine YY (RX (XR ⟨rfl,hk.trans ⟨hk.sb.setArr (bubble_perm _ _ _),λi hi=>?_,rfl⟩,?_⟩))
   .show (bubble (arrOf Y1) (lo+k) (lo+k-(lo+l)))[i]?=_
    rw[getElem?_bubble YU _ (),Yb (),Yb (by lia)]
   .rw [show min (k+1) n=k+1 by lia]
    intro i j hi Y3 hj;show IL rk (bubble (arrOf Y1) (lo+k) (lo+k-(lo+l))) i<=IL rk (bubble (arrOf Y1) (lo+k) (lo+k-(lo+l))) j;rw[jb YU (),jb YU (),show lo+k-(lo+k-(lo+l))=lo+l by lia]
    have key1:∀i,lo<=i->i<lo+l->IL rk (arrOf Y1) i<=IL rk (arrOf Y1) (lo+k):=λi a b=>by have:=Wa (i-lo) (by lia);rwa[show lo+(i-lo)=i by lia]at this
    have key2:∀i,lo+l<=i->i<lo+k->IL rk (arrOf Y1) (lo+k)<IL rk (arrOf Y1) i:=λi a b=>by have:=Vf (i-lo) (by lia) ();rwa[show lo+(i-lo)=i by lia]at this
    repeat' split
    all_goals first
     |(exfalso;lia)
     |exact G8 _
     |exact key1 _ (by lia) (by lia)
     |exact Rh (key2 _ (by lia) ())
     |exact Yz _ _ (by lia) (by lia) ()
end
def cK:∀a:List Int,Ag a a=false
 |[]=>rfl
 |x::r=>by simp[Ag,cK r]
def cU:∀{a b c:List Int},Ag a b=true->Ag b c=true->Ag a c=true
 |[],[],_,h,_=>by cases h
 |[],_::_,[],_,h=>by cases h
 |[],_::_,_::_,_,_=>rfl
 |_::_,[],_,h,_=>by cases h
 |_::_,_::_,[],_,h=>by cases h
 |x::a,y::b,z::c,h1,h2=>by
  simp![Ag]at h1 h2 ⊢;by_cases e:x=y
  .subst e
   rw[Yn rfl]at h1;by_cases d:x=z
   .subst d;rw[Yn rfl]at h2 ⊢;exact cU h1 h2
   .rw [Yb d]at h2 ⊢;exact h2
  .rw [Yb e]at h1
   have h1:=He h1;by_cases d:y=z
   .subst d;rw[Yb e];exact Vt h1
   .rw [Yb d]at h2
    have h2:=He h2;rw[Yb (by lia)]
    exact Vt ()
def cJ:∀{a b:List Int},Ag a b=false->Ag b a=false->a=b
 |[],[],_,_=>rfl
 |[],_::_,h,_=>by cases h
 |_::_,[],_,h=>by cases h
 |x::a,y::b,h1,h2=>by
  simp![Ag]at h1 h2;by_cases e:x=y
  .subst e
   rw[Yn rfl]at h1 h2;rw[cJ h1 h2]
  .rw [Yb e]at h1
   rw[Yb (λq=>e q.symm)]at h2;have h1:=QH h1;have h2:=QH h2;lia
def kg{c:Type}{p q:c->Bool}:∀{l:List c},(∀x∈l,p x=true->q x=true)->(∃x∈l,q x=true/\p x=false)->l.countP p<l.countP q
 |[],_,⟨x,h,_⟩=>by cases h
 |a::l,h1,⟨x,b,d,hp⟩=>by
  have mono:l.countP p<=l.countP q:=List.countP_mono_left λx b h=>h1 x (G9 _ b) h;rw[List.countP_cons,List.countP_cons];rcases Xq.mp b with rfl|b
  .rw [d,hp];simp;lia
  .have ih:=kg (λx b=>h1 x (G9 _ b)) ⟨x,b,d,hp⟩
   have h2:=h1 a Wv;cases ep:p a with
   |false=>simp![Xh,Vn];split<;>lia
   |true=>rw[h2 ep];simp;omega
abbrev Y0:=List (List Int×Addr)
def DY(D:Y0)(v:Value):List Int:=open Classical in match D.find? λd=>decide (Value.ref d.2=v)with
 |some d=>d.1
 |none=>[]
def IM(D:Y0)(x:Keyed):Nat:=D.countP λd=>Ag d.1 (DY D x.1)
section
variable{E:Value->Shared->Prop}{D:Y0}
def jW(f:∀d∈D,IsT prog w s.heap d.1 d.2){d:List Int×Addr}(c:d∈D):DY D (.ref d.2)=d.1:=by
 unfold DY;cases e:D.find? λb=>open Classical in decide (Value.ref b.2=Value.ref d.2)with
 |none=>
  have:=List.find?_eq_none.mp e d c;simp at this
 |some b=>
  have h1:=List.find?_some e;have h2:=PQ e;have g:b.2=d.2:=by simpa using h1
  have a:=f b h2;rw[g]at a;exact a.inj (f d c)
def nY(c:∀d∈D,IsT prog w s.heap d.1 d.2){d e:List Int×Addr}(b:d∈D)(f:e∈D)(u v:Value):Ag d.1 e.1=decide (IM D (.ref d.2,u)<IM D (.ref e.2,v)):=by
 unfold IM;rw[jW c b,jW c f];cases h:Ag d.1 e.1 with
 |true=>exact(Vt (kg (λx _ a=>cU a h) ⟨d,b,h,cK _⟩)).symm
 |false=>
  refine(Vu (Nat.not_lt.mpr ?_)).symm;refine List.countP_mono_left λx _ a=>?_;cases h2:Ag e.1 d.1 with
  |true=>exact cU a h2
  |false=>rw[cJ h h2];exact a
def acs(k:A.units<cLine)(a:∀d∈D,IsT prog w s.heap d.1 d.2){f:Bool}{ZO : Array Keyed}(g:∀x∈ZO,∃d∈D,x=(.ref d.2,.ref d.2)):AR prog w A E s (tuples' f) ZO (IM D):=by
 intro x y j i st Q hk h;let⟨d,c,rfl⟩:=g x j;let⟨e,b,rfl⟩:=g y i;rw[lt'_eq];refine YY (Py ?_);rw[hk];refine YY (PJ (Pb (aaZ k (a d c) (a e b) ⟨rfl,?_⟩)));rw[nY a c b (.ref d.2) (.ref e.2)];exact XR h
end
def IP:Bool->Keyed->Array Keyed->Nat->Nat->Nat->StateT SortSt Sem (Option Nat):=sortPriv% PySem.Builtin.gallop
def pW(left:Bool)(key:Keyed)(arr:Array Keyed)(base n hint:Nat):IP left key arr base n hint=(do
 let beyond (i:Nat):StateT SortSt Sem (Option Bool):=do
  let x<-elem' arr (base+i)
  if left then lt' x key else return (<- lt' key x).map (!·)
 let mut TM:=0
 let mut Xx:=1
 let mut lo:=0
 let mut hi:=0
 let some right<-beyond hint|return none
 if right then
  let UB:=n-hint
  for _ in [0:n]do
   if Xx ≥ UB then break
   let some more<-beyond (hint+Xx)|return none
   if !more then break
   TM:=Xx
   Xx:=2*Xx+1
  lo:=hint+TM+1
  hi:=hint+min Xx UB
 else
  let UB:=hint+1
  for _ in [0:n]do
   if Xx ≥ UB then break
   let some found<-beyond (hint-Xx)|return none
   if found then break
   TM:=Xx
   Xx:=2*Xx+1
  lo:=hint+1-min Xx UB
  hi:=hint-TM
 for _ in [0:n]do
  if lo ≥ hi then break
  let m:=lo+(hi-lo) / 2
  let some more<-beyond m|return none
  if more then lo:=m+1 else hi:=m
 return some hi):=rfl
def IQ(left:Bool)(rk:Keyed->Nat)(key:Keyed)(a:Array Keyed)(base i:Nat):Bool:=if left then decide (IL rk a (base+i)<rk key)else !decide (rk key<IL rk a (base+i))
section
variable{E:Value->Shared->Prop}
def IS(left:Bool)(key:Keyed)(arr:Array Keyed)(base i:Nat):StateT SortSt Sem (Option Bool):=do
  let x<-elem' arr (base+i)
  if left then lt' x key else return (<- lt' key x).map (!·)
def zC(e:AR prog w A E s κ ZO rk)(B:kindOf st=κ){left:Bool}{key:Keyed}{a:Array Keyed}{base:Nat}{Q:Option Bool->SortSt->Prop}(b:key∈ZO)(c:∀x∈a,x∈ZO)(hi:base+i<a.size)
  (h:Q (some (IQ left rk key a base i)) st):wpS (model prog w) A E s (IS left key a base i) Q st:=by
 have d:a[base+i]?=some a[base+i]:=WB hi;have f:IL rk a (base+i)=rk a[base+i]:=by unfold IL;rw[d];rfl
 unfold IS;rw[elem'_eq,d];refine YY (XR ?_);unfold IQ at h;rw[f]at h;cases left with
 |true=>rw[Yn rfl]at h ⊢;exact e _ _ (c _ (VM hi)) b st Q B h
 |false=>
  rw[Yb G7]at h ⊢;exact YY (e _ _ b (c _ (VM hi)) st _ B (XR h))
def Spl(b:Nat->Bool)(n k:Nat):Prop:=k<=n/\(∀i,i<k->b i=true) /\∀i,k<=i->i<n->b i=false
def fR(O:AR prog w A E s κ ZO rk)(B:kindOf st=κ){left:Bool}{key:Keyed}{m:Array Keyed}{base a:Nat}{Q:Option Nat->SortSt->Prop}(L:key∈ZO)(N:∀x∈m,x∈ZO)(P:base+n<=m.size)(M:a<n)
  (J:Up (IL rk m) base (base+n)) (h:∀k,Spl (IQ left rk key m base) n k->Q (some k) st):wpS (model prog w) A E s (IP left key m base n a) Q st:=by
 have mono:∀i j,i<=j->j<n->IQ left rk key m base j=true->IQ left rk key m base i=true:=λi j S R u=>by
  have:=J (base+i) (base+j) (by lia) (by lia) (by lia)
  unfold IQ at u ⊢;cases left with
  |true=>rw[Yn rfl]at u ⊢;have:=He u;exact Vt (by lia)
  |false=>
   rw[Yb G7]at u ⊢;simp![W3,UG]at u ⊢;lia
 generalize u:IQ left rk key m base=b at mono h;have bk:∀{i:Nat} {Q:Option Bool->SortSt->Prop},i<n->Q (some (b i)) st->wpS (model prog w) A E s (IS left key m base i) Q st:=λhi K=>zC O B L N (by lia) (by rw[u];exact K)
 rw[pW];dsimp only;refine YY (bk M ?_);cases H:b a with
 |true=>
  dsimp only;rw [Yn rfl];refine YY (TF (Ut (I:=λx c f=>st=f /\ ∃ l o,c=(none,l,o)/\l < o/\x+1<=o/\a+l < n/\b (a+l)=true)
   (Q:=λc f=>st=f /\∃l o,c=(none,l,o)/\l<o/\a+l<n/\b (a+l)=true/\(n-a<=o\/b (a+o)=false)) ?_ ?_ ⟨rfl,0,1,rfl,by lia,by lia,by lia,H⟩) ?_)
  .rintro x c f _ D ⟨rfl,l,o,rfl,g,p2,p,d⟩
   dsimp only;by_cases r:o ≥ n-a
   .rw [Yn r]
    exact XR ⟨rfl,l,o,rfl,g,p,d,.inl r⟩
   .rw [Yb r]
    refine YY (bk (i:=a+o) (by lia) ?_)
    cases hm:b (a+o)with
    |true=>exact XR ⟨rfl,o,2*o+1,rfl,by lia,by lia,by omega,hm⟩
    |false=>exact XR ⟨rfl,l,o,rfl,g,p,d,.inr hm⟩
  .rintro c f ⟨rfl,l,o,rfl,g,p2,p,d⟩
   exact⟨rfl,l,o,rfl,g,p,d,.inl (by lia)⟩
  .rintro c f ⟨rfl,l,o,rfl,g,p,d,t⟩
   dsimp only;have C:a+l+1=0\/b (a+l+1-1)=true:=.inr d;have z:a+min o (n-a)=n\/b (a+min o (n-a))=false:=by
    rcases t with e|e
    .exact .inl (by lia)
    .by_cases q:n-a<=o
     .exact .inl ()
     .refine .inr ?_
      rw[show min o (n-a)=o by lia];exact e
   have y:a+l+1<=a+min o (n-a):=by lia
   have v:a+min o (n-a)<=n:=by omega
   refine YY (TF (Ut (I:=λx c f=>st=f /\ ∃ lo hi,c=(none,lo,hi)/\(lo=0\/b (lo - 1)=true)/\(hi=n\/b hi=false)/\lo<=hi/\hi<=n/\hi - lo<=n - x)
    (Q:=λc f=>st=f /\∃k,c=(none,k,k)/\(k=0\/b (k-1)=true)/\(k=n\/b k=false)/\k<=n) ?_ ?_ ⟨rfl,_,_,rfl,C,z,y,v,by omega⟩) ?_)
   .rintro x c f _ D ⟨rfl,lo,hi,rfl,g,p2,p,d,t⟩
    dsimp only;by_cases r:lo ≥ hi
    .rw [Yn r]
     have e:lo=hi:=by lia
     subst e;exact XR ⟨rfl,lo,rfl,g,p2,d⟩
    .rw [Yb r]
     refine YY (bk (i:=lo+(hi-lo) / 2) () ?_)
     cases hm:b (lo+(hi-lo) / 2)with
     |true=>exact XR ⟨rfl,_,_,rfl,.inr hm,p2,by omega,d,by omega⟩
     |false=>exact XR ⟨rfl,_,_,rfl,g,.inr hm,by lia,by omega,by omega⟩
   .rintro c f ⟨rfl,lo,hi,rfl,g,p2,p,d,t⟩
    have e:lo=hi:=by omega
    subst e;exact⟨rfl,lo,rfl,g,p2,d⟩
   .rintro c f ⟨rfl,k,rfl,g,p2,d⟩
    refine XR (h k ⟨d,λi hi=>?_,λi hi F=>?_⟩)
    .rcases g with e|e
     .lia
     .exact mono i (k-1) (by lia) (by lia) e
    .rcases p2 with e|e
     .lia
     .cases G:b i with
      |false=>rfl
      |true=>have:=mono k i hi F G;rw[e]at this;cases this
 |false=>
  dsimp only;rw [Yb G7];refine YY (TF (Ut (I:=λx c f=>st=f /\ ∃ l o,c=(none,l,o)/\l < o/\x+1<=o/\l<=a/\b (a - l)=false)
   (Q:=λc f=>st=f /\∃l o,c=(none,l,o)/\l<o/\l<=a/\b (a-l)=false/\(a+1<=o\/b (a-o)=true)) ?_ ?_ ⟨rfl,0,1,rfl,by omega,by omega,by lia,H⟩) ?_)
  .rintro x c f _ D ⟨rfl,l,o,rfl,g,p2,p,d⟩
   dsimp only;by_cases r:o ≥ a+1
   .rw [Yn r]
    exact XR ⟨rfl,l,o,rfl,g,p,d,.inl r⟩
   .rw [Yb r]
    refine YY (bk (i:=a-o) (by lia) ?_)
    cases hm:b (a-o)with
    |false=>exact XR ⟨rfl,o,2*o+1,rfl,by omega,by omega,by lia,hm⟩
    |true=>exact XR ⟨rfl,l,o,rfl,g,p,d,.inr hm⟩
  .rintro c f ⟨rfl,l,o,rfl,g,p2,p,d⟩
   exact⟨rfl,l,o,rfl,g,p,d,.inl (by lia)⟩
  .rintro c f ⟨rfl,l,o,rfl,g,p,d,t⟩
   dsimp only;have C:a+1-min o (a+1)=0\/b (a+1-min o (a+1)-1)=true:=by
    by_cases q:a+1<=o
    .exact .inl ()
    .refine .inr ?_
     rw[show a+1-min o (a+1)-1=a-o by lia]
     exact t.resolve_left q
   have z:a-l=n\/b (a-l)=false:=.inr d;have y:a+1-min o (a+1)<=a-l:=by omega
   have v:a-l<=n:=by lia
   refine YY (TF (Ut (I:=λx c f=>st=f /\ ∃ lo hi,c=(none,lo,hi)/\(lo=0\/b (lo - 1)=true)/\(hi=n\/b hi=false)/\lo<=hi/\hi<=n/\hi - lo<=n - x)
    (Q:=λc f=>st=f /\∃k,c=(none,k,k)/\(k=0\/b (k-1)=true)/\(k=n\/b k=false)/\k<=n) ?_ ?_ ⟨rfl,_,_,rfl,C,z,y,v,by omega⟩) ?_)
   .rintro x c f _ D ⟨rfl,lo,hi,rfl,g,p2,p,d,t⟩
    dsimp only;by_cases r:lo ≥ hi
    .rw [Yn r]
     have e:lo=hi:=by omega
     subst e;exact XR ⟨rfl,lo,rfl,g,p2,d⟩
    .rw [Yb r]
     refine YY (bk (i:=lo+(hi-lo) / 2) () ?_)
     cases hm:b (lo+(hi-lo) / 2)with
     |true=>exact XR ⟨rfl,_,_,rfl,.inr hm,p2,by omega,d,by omega⟩
     |false=>exact XR ⟨rfl,_,_,rfl,g,.inr hm,by omega,by omega,by omega⟩
   .rintro c f ⟨rfl,lo,hi,rfl,g,p2,p,d,t⟩
    have e:lo=hi:=by omega
    subst e;exact⟨rfl,lo,rfl,g,p2,d⟩
   .rintro c f ⟨rfl,k,rfl,g,p2,d⟩
    refine XR (h k ⟨d,λi hi=>?_,λi hi F=>?_⟩)
    .rcases g with e|e
     .omega
     .exact mono i (k-1) () () e
    .rcases p2 with e|e
     .omega
     .cases G:b i with
      |false=>rfl
      |true=>have:=mono k i hi F G;rw[e]at this;cases this
end
def DB:Array Keyed->Array Keyed->StateT SortSt Sem (Array Keyed):=sortPriv% PySem.Builtin.mergeLo
def Cm:Nat->StateT SortSt Sem Unit:=sortPriv% PySem.Builtin.setMinGallop
def df(g:Nat):Cm g=modify λs=>SortSt.mk' (kindOf s) (arrOf s) (pendingOf s) g (failedOf s):=rfl
def oX(a b:Array Keyed):DB a b=(do
 rule "list.sort.merge-lo"
 let total:=a.size+b.size
 let done (out:Array Keyed) (ia ib:Nat):=out++a.extract ia a.size++b.extract ib b.size
 let UA (out:Array Keyed) (ia ib:Nat):=out++b.extract ib b.size++a.extract ia a.size
 let mut out:Array Keyed:=#[<-elem' b 0]
 let mut ia:=0
 let mut ib:=1
 if ib==b.size then return done out ia ib
 if ia+1==a.size then return UA out ia ib
 let mut YK:=gallopOf (<- get)
 for _ in [0:total]do
  let mut X5:=0
  let mut X4:=0
  for _ in [0:total]do
   let some Tr<-lt' (<- elem' b ib) (<- elem' a ia)|return done out ia ib
   if Tr then
    out:=out.push (<- elem' b ib);ib:=ib+1;X4:=X4+1;X5:=0
    if ib==b.size then return done out ia ib
    if X4 ≥ YK then break
   else
    out:=out.push (<- elem' a ia);ia:=ia+1;X5:=X5+1;X4:=0
    if ia+1==a.size then return UA out ia ib
    if X5 ≥ YK then break
  rule "list.sort.gallop"
  YK:=YK+1
  for _ in [0:total]do
   if YK > 1 then YK:=YK-1
   Cm YK
   let some k<-IP false (<- elem' b ib) a ia (a.size-ia) 0|return done out ia ib
   X5:=k
   if k > 0 then
    out:=out++a.extract ia (ia+k);ia:=ia+k
    if ia+1==a.size then return UA out ia ib
    if ia==a.size then return done out ia ib
   out:=out.push (<- elem' b ib);ib:=ib+1
   if ib==b.size then return done out ia ib
   let some k<-IP true (<- elem' a ia) b ib (b.size-ib) 0|return done out ia ib
   X4:=k
   if k > 0 then
    out:=out++b.extract ib (ib+k);ib:=ib+k
    if ib==b.size then return done out ia ib
   out:=out.push (<- elem' a ia);ia:=ia+1
   if ia+1==a.size then return UA out ia ib
   if X5<7&&X4<7 then break
  YK:=YK+1
  Cm YK
 unsupported "internal:list.sort.merge-bound"):=rfl
def SrL(rk:Keyed->Nat)(l:List Keyed):Prop:=l.Pairwise λx y=>rk x<=rk y
structure MI(rk:Keyed->Nat)(a b out:List Keyed)(ia ib:Nat):Prop where
 pm:out.Perm (a.take ia++b.take ib)
 so:SrL rk out
 oa:∀x∈out,∀y∈a.drop ia,rk x<=rk y
 ob:∀x∈out,∀y∈b.drop ib,rk x<=rk y
section
variable{a b out:List Keyed}{ia ib:Nat}
def jw(l:List Keyed)(i k:Nat):l.take (i+k)=l.take i++(l.drop i).take k:=by rw[Pc]
def SrL.drop{l:List Keyed}(h:SrL rk l)(i:Nat):SrL rk (l.drop i):=Qe (List.drop_sublist i l) h
def SrL.cut{l:List Keyed}(h:SrL rk l)(k:Nat):∀x∈l.take k,∀y∈l.drop k,rk x<=rk y:=by
 rw[SrL,<-WD k l,Vh]at h;exact h.2.2
def MI.Ve(I:MI rk a b out ia ib)(e:SrL rk a)(k:Nat)(h:∀x∈(a.drop ia).take k,∀y∈b.drop ib,rk x<=rk y):MI rk a b (out++(a.drop ia).take k) (ia+k) ib where
 pm:=by
  rw[jw];refine(I.pm.append_right _).trans ?_;rw[XU,XU];exact Rr _ Us
 so:=Vh.mpr ⟨I.so,Qe (Qi k _) (e.drop ia),λx c y d=>I.oa x c y (Sx d)⟩
 oa:=λx c y d=>by
  rw[<-QV]at d;rcases Wu.mp c with c|c
  .exact I.oa x c y (Ue d)
  .exact (e.drop ia).cut k x c y d
 ob:=λx c y d=>by
  rcases Wu.mp c with c|c
  .exact I.ob x c y d
  .exact h x c y d
def MI.VI(I:MI rk a b out ia ib)(e:SrL rk b)(k:Nat)(h:∀x∈(b.drop ib).take k,∀y∈a.drop ia,rk x<=rk y):MI rk a b (out++(b.drop ib).take k) ia (ib+k) where
 pm:=by
  rw[jw];refine(I.pm.append_right _).trans ?_;rw[XU]
 so:=Vh.mpr ⟨I.so,Qe (Qi k _) (e.drop ib),λx c y d=>I.ob x c y (Sx d)⟩
 oa:=λx c y d=>by
  rcases Wu.mp c with c|c
  .exact I.oa x c y d
  .exact h x c y d
 ob:=λx c y d=>by
  rw[<-QV]at d;rcases Wu.mp c with c|c
  .exact I.ob x c y (Ue d)
  .exact (e.drop ib).cut k x c y d
def Res(rk:Keyed->Nat)(a b res:List Keyed):Prop:=res.Perm (a++b)/\SrL rk res
def MI.VH(I:MI rk a b out ia ib)(f:SrL rk a)(e:SrL rk b)(h:∀x∈a.drop ia,∀y∈b.drop ib,rk x<=rk y):Res rk a b (out++a.drop ia++b.drop ib):=by
 constructor
 .refine ((I.pm.append_right _).append_right _).trans ?_
  rw[XU (List.take ia a)];have h1:(List.take ib b++List.drop ia a).Perm (List.drop ia a++List.take ib b):=Us;refine((h1.append_left (List.take ia a)).append_right _).trans ?_;rw[<-XU,WD,XU,WD]
 .refine Vh.mpr ⟨Vh.mpr ⟨I.so,f.drop ia,I.oa⟩,e.drop ib,λx c y d=>?_⟩
  rcases Wu.mp c with c|c
  .exact I.ob x c y d
  .exact h x c y d
def MI.Vd(I:MI rk a b out ia ib)(f:SrL rk a)(e:SrL rk b)(h:∀x∈b.drop ib,∀y∈a.drop ia,rk x<=rk y):Res rk a b (out++b.drop ib++a.drop ia):=by
 constructor
 .refine ((I.pm.append_right _).append_right _).trans ?_
  rw[XU (List.take ia a),WD];refine(Us (l₁:=List.take ia a++b)).trans ?_;rw[<-XU];refine List.Perm.append_right _ ?_;refine Us.trans ?_;rw[WD]
 .refine Vh.mpr ⟨Vh.mpr ⟨I.so,e.drop ib,I.ob⟩,f.drop ia,λx c y d=>?_⟩
  rcases Wu.mp c with c|c
  .exact I.oa x c y d
  .exact h x c y d
end
section
variable{E:Value->Shared->Prop}
def SmS(st a:SortSt):Prop:=kindOf a=kindOf st/\arrOf a=arrOf st/\pendingOf a=pendingOf st/\failedOf a=failedOf st
def SmS.refl(st:SortSt):SmS st st:=⟨rfl,rfl,rfl,rfl⟩
def LI(rk:Keyed->Nat)(a b:Array Keyed)(n:Nat)(r:Option (Array Keyed))(out:Array Keyed)(d c:Nat):Prop:=match r with
 |some res=>Res rk a.toList b.toList res.toList
 |none=>MI rk a.toList b.toList out.toList d c/\d+1<a.size/\c<b.size/\n<=d+c
structure TL(rk:Keyed->Nat)(ZO a b:Array Keyed):Prop where
 ma:∀x∈a,x∈ZO
 mb:∀x∈b,x∈ZO
 sa:SrL rk a.toList
 sb:SrL rk b.toList
 last:∀x∈b.toList,∀y∈a.toList.drop (a.size-1),rk x<=rk y
def xM{a:Array Keyed}(h:i<a.size):a[i]∈a.toList.drop i:=by
 rw[List.mem_drop_iff_getElem];exact⟨0,by simpa using h,by simp⟩
def drop_one{a:Array Keyed}(h:i<a.size):(a.toList.drop i).take 1=[a[i]]:=by
 rw[Vy (by simpa using h)];simp
def eY{a:Array Keyed}(c:SrL rk a.toList){i:Nat}(h:i<a.size):∀y∈a.toList.drop i,rk a[i]<=rk y:=λy b=>by
 rw[Vy (by simpa using h)]at b
 rcases Xq.mp b with rfl|b
 .simp
 .have:=(c.drop i)
  rw[Vy (by simpa using h)]at this
  have:=(Ur.mp this).1 y b;simpa using this
def ar(a:Array Keyed)(i:Nat):(a.extract i a.size).toList=a.toList.drop i:=by
 rw[Ql,Ru];exact UK #[3]
def ak{Q:Keyed->SortSt->Prop}(hi:i<arr.size)(h:Q arr[i] st):wpS (model prog w) A E s (elem' arr i) Q st:=by
 rw[elem'_eq,WB hi];exact XR h
def wL(Z7:AR prog w A E s κ ZO rk){a b out:Array Keyed}{ia ib mg:Nat}(M:TL rk ZO a b)(hk:kindOf st=κ)(n0:Nat)(h0:LI rk a b n0 none out ia ib)(ht:0<a.size+b.size)
  {Q:Option (Array Keyed)×Array Keyed×Nat×Nat×Nat×Nat->SortSt->Prop} (h:∀r out ia ib ac bc,LI rk a b (n0+1) r out ia ib->Q (r,out,ia,ib,ac,bc) st) :
  wpS (model prog w) A E s (forIn [:a.size+b.size] ((none,out,ia,ib,0,0):Option (Array Keyed)×Array Keyed×Nat×Nat×Nat×Nat) λx Zw=>do
    let Xa<-elem' b Zw.snd.snd.snd.fst
    let R6<-elem' a Zw.snd.snd.fst
    let VN<-lt' Xa R6
    match VN with
     |some Tr=>
      if Tr=true then do
       let Xa<-elem' b Zw.snd.snd.snd.fst
       if(Zw.snd.snd.snd.fst+1==b.size)=true then
         pure (ForInStep.done (some (Zw.snd.fst.push Xa++a.extract Zw.snd.snd.fst a.size++b.extract (Zw.snd.snd.snd.fst+1) b.size),Zw.snd.fst.push Xa,Zw.snd.snd.fst,Zw.snd.snd.snd.fst+1,0,Zw.snd.snd.snd.snd.snd+1))
        else
         if Zw.snd.snd.snd.snd.snd+1 ≥ mg then
          pure (ForInStep.done (none,Zw.snd.fst.push Xa,Zw.snd.snd.fst,Zw.snd.snd.snd.fst+1,0,Zw.snd.snd.snd.snd.snd+1))
         else
          pure (ForInStep.yield (none,Zw.snd.fst.push Xa,Zw.snd.snd.fst,Zw.snd.snd.snd.fst+1,0,Zw.snd.snd.snd.snd.snd+1))
      else do
       let Xa<-elem' a Zw.snd.snd.fst
       if(Zw.snd.snd.fst+1+1==a.size)=true then
         pure (ForInStep.done (some (Zw.snd.fst.push Xa++b.extract Zw.snd.snd.snd.fst b.size++a.extract (Zw.snd.snd.fst+1) a.size),Zw.snd.fst.push Xa,Zw.snd.snd.fst+1,Zw.snd.snd.snd.fst,Zw.snd.snd.snd.snd.fst+1,0))
        else
         if Zw.snd.snd.snd.snd.fst+1 ≥ mg then
          pure (ForInStep.done (none,Zw.snd.fst.push Xa,Zw.snd.snd.fst+1,Zw.snd.snd.snd.fst,Zw.snd.snd.snd.snd.fst+1,0))
         else
          pure (ForInStep.yield (none,Zw.snd.fst.push Xa,Zw.snd.snd.fst+1,Zw.snd.snd.snd.fst,Zw.snd.snd.snd.snd.fst+1,0))
     |x=>
      pure (ForInStep.done (some (Zw.snd.fst++a.extract Zw.snd.snd.fst a.size++b.extract Zw.snd.snd.snd.fst b.size),Zw.snd.fst,Zw.snd.snd.fst,Zw.snd.snd.snd.fst,Zw.snd.snd.snd.snd.fst,Zw.snd.snd.snd.snd.snd))) Q st:=by
 refine TF (Ut (I:=λx c ZX=>st=ZX /\ ∃ out ia ib ac bc,c=(none,out,ia,ib,ac,bc)/\LI rk a b (n0+x) none out ia ib)
  (Q:=λc ZX=>st=ZX /\∃r out ia ib ac bc,c=(r,out,ia,ib,ac,bc)/\LI rk a b (n0+1) r out ia ib) ?_ ?_ ⟨rfl,out,ia,ib,0,0,rfl,h0⟩) ?_
 .rintro x c ZX _ hx ⟨rfl,out,ia,ib,ac,bc,rfl,I,Xw,YC,hn⟩
  dsimp only;have X6:ia<a.size:=by lia
  refine YY (ak YC (YY (ak X6 (YY (Z7 _ _ (M.mb _ (VM YC)) (M.ma _ (VM X6)) st _ hk ?_)))));by_cases hl:rk b[ib]<rk a[ia]
  .simp only [hl,Pg,V6]
   refine YY (ak YC ?_)
   have I2:=I.VI M.sb 1 (λx hx y hy=>by
    rw[drop_one YC]at hx;rw[WC.mp hx];exact G6 (Rh hl) (eY M.sa X6 y hy))
   rw[drop_one YC,<-SQ]at I2;by_cases he:ib+1=b.size
   .rw [Yn (by simp[he])]
    refine XR ⟨rfl,_,_,_,_,_,_,rfl,?_⟩;show Res rk _ _ (Array.toList _);rw[Wx,Wx,ar,ar];exact I2.VH M.sa M.sb λx _ y hy=>by rw[Um (by rw[YW];lia)]at hy;cases hy
   .rw [Yb (by simp[he])]
    have nx:LI rk a b (n0+(x+1)) none (out.push b[ib]) ia (ib+1):=⟨I2,Xw,by lia,by lia⟩
    split
    .exact XR ⟨rfl,_,_,_,_,_,_,rfl,⟨nx.1,nx.2.1,nx.2.2.1,by have:=nx.2.2.2;lia⟩⟩
    .exact XR ⟨rfl,_,_,_,_,_,rfl,nx⟩
  .simp only [hl,Qq,Xh,Vn]
   refine YY (ak X6 ?_)
   have I2:=I.Ve M.sa 1 (λx hx y hy=>by
    rw[drop_one X6]at hx;rw[WC.mp hx];exact G6 (Nat.not_lt.mp hl) (eY M.sb YC y hy))
   rw[drop_one X6,<-SQ]at I2;by_cases he:ia+1+1=a.size
   .rw [Yn (by simp[he])]
    refine XR ⟨rfl,_,_,_,_,_,_,rfl,?_⟩;show Res rk _ _ (Array.toList _);rw[Wx,Wx,ar,ar];refine I2.Vd M.sa M.sb λx hx y hy=>M.last x (Ue hx) y ?_;rw[show a.size-1=ia+1 by lia];exact hy
   .rw [Yb (by simp[he])]
    have nx:LI rk a b (n0+(x+1)) none (out.push a[ia]) (ia+1) ib:=⟨I2,by lia,YC,by lia⟩
    split
    .exact XR ⟨rfl,_,_,_,_,_,_,rfl,⟨nx.1,nx.2.1,nx.2.2.1,by have:=nx.2.2.2;lia⟩⟩
    .exact XR ⟨rfl,_,_,_,_,_,rfl,nx⟩
 .rintro c ZX ⟨rfl,out,ia,ib,ac,bc,rfl,I,Xw,YC,hn⟩
  exact⟨rfl,none,out,ia,ib,ac,bc,rfl,I,Xw,YC,by lia⟩
 .rintro c ZX ⟨rfl,r,out,ia,ib,ac,bc,rfl,hI⟩
  exact h r out ia ib ac bc hI
end
section
variable{E:Value->Shared->Prop}
def ko(a:Array Keyed)(i k:Nat):(a.extract i (i+k)).toList=(a.toList.drop i).take k:=by
 rw[Ql,Ru];congr 1;lia
def aD{a:Array Keyed}(h:i<a.size):IL rk a i=rk a[i]:=by
 unfold IL;rw[WB h];rfl
def adV{a:Array Keyed}(h:SrL rk a.toList)(lo:Nat):Up (IL rk a) lo a.size:=λi j _ c b=>by
 rw[aD (by lia),aD b]
 rcases Nat.lt_or_eq_of_le c with k|rfl
 .have:=S3.mp h i j (by simpa using(by lia:i<a.size)) (by simpa using b) k
  simpa using this
 .exact G8 _
def gal(m:AR prog w A E s κ ZO rk)(B:kindOf st=κ){left:Bool}{key:Keyed}{a:Array Keyed}{base n b:Nat}{Q:Option Nat->SortSt->Prop}(f:key∈ZO)(l:∀x∈a,x∈ZO)(e:base+n<=a.size)(g:b<n)
  (d:SrL rk a.toList) (h:∀k,k<=n->(∀x∈(a.toList.drop base).take k,rk x<=rk key)->(∀x∈((a.toList.drop base).take n).drop k,rk key<=rk x)->Q (some k) st):wpS (model prog w) A E s (IP left key a base n b) Q st:=by
 refine fR m B f l e g (λi j p q r=>adV d base i j p q (by lia)) λk ⟨h1,h2,h3⟩=>h k h1 (λx c=>?_) λx c=>?_
 .obtain ⟨i,hi,rfl⟩:=RB.mp c
  have Yr:=hi;simp![Vi,VL,YW]at Yr;have:=h2 i ()
  unfold IQ at this;rw[aD (by omega:base+i<a.size)]at this
  simp![PX,PY,Array.getElem_toList];cases left with
  |true=>rw[Yn rfl]at this;have:=He this;omega
  |false=>rw[Yb G7]at this;simp![W3,UG]at this;omega
 .obtain ⟨i,hi,rfl⟩:=RB.mp c
  have Yr:=hi;simp![Vi,VL,YW]at Yr;have:=h3 (k+i) (by lia) ()
  unfold IQ at this;rw[aD (by omega:base+(k+i)<a.size)]at this
  simp![PX,PY,Array.getElem_toList];cases left with
  |true=>rw[Yn rfl]at this;have:=QH this;omega
  |false=>rw[Yb G7]at this;simp![Bool.not_eq_false',XM]at this;omega
abbrev LoY(rk:Keyed->Nat)(a b:Array Keyed)(st:SortSt)(n:Nat)(c:Option (Array Keyed)×Array Keyed×Nat×Nat×Nat×Nat×Nat)(ZX:SortSt):Prop:=SmS st ZX /\∃out ia ib mg ac bc,c=(none,out,ia,ib,mg,ac,bc)/\LI rk a b n none out ia ib
abbrev LoD(rk:Keyed->Nat)(a b:Array Keyed)(st:SortSt)(n:Nat)(c:Option (Array Keyed)×Array Keyed×Nat×Nat×Nat×Nat×Nat)(ZX:SortSt):Prop:=SmS st ZX /\∃r out ia ib mg ac bc,c=(r,out,ia,ib,mg,ac,bc)/\LI rk a b n r out ia ib
abbrev LoS(rk:Keyed->Nat)(a b:Array Keyed)(st:SortSt)(n:Nat)(r:ForInStep (Option (Array Keyed)×Array Keyed×Nat×Nat×Nat×Nat×Nat))(ZX:SortSt):Prop:=match r with
 |.done c=>LoD rk a b st n c ZX
 |.yield c=>LoY rk a b st n c ZX
def uz(Z7:AR prog w A E s κ ZO rk){a b:Array Keyed}(M:TL rk ZO a b)(hk:kindOf st=κ)(ha:0<a.size)(Y:0<b.size)(hf:∀x∈a.toList,rk b[0]<=rk x)
  {Q:Array Keyed->SortSt->Prop} (h:∀res j,SmS st j->Res rk a.toList b.toList res.toList->Q res j) :
  wpS (model prog w) A E s (DB a b) Q st:=by
 rw[oX];extract_lets total done UA;refine YY (PJ (RP ⟨rfl,?_⟩));refine YY (ak Y ?_);extract_lets out ia ib;have I0:MI rk a.toList b.toList (#[b[0]]:Array Keyed).toList 0 1:=by
  have I:MI rk a.toList b.toList [] 0 0:=⟨by simp,List.Pairwise.nil,λx d=>by(cases d),λx d=>by(cases d)⟩
  have:=I.VI M.sb 1 (λx d y f=>by
   rw[drop_one Y]at d;rw[WC.mp d];exact hf y (Ue f))
  rw[drop_one Y]at this;exact this
 by_cases h1:1=b.size
 .rw [Yn (by show(1==b.size)=true;simp[<-h1])]
  refine XR (h _ st (SmS.refl st) ?_);show Res rk _ _ (Array.toList (#[b[0]]++a.extract 0 a.size++b.extract 1 b.size));rw[Wx,Wx,ar,ar];exact I0.VH M.sa M.sb λx _ y f=>by rw[Um (by rw[YW];lia)]at f;cases f
 .rw [Yb (by show ¬ ((1==b.size)=true);simpa using h1)]
  by_cases h2:0+1=a.size
  .rw [Yn (by show(0+1==a.size)=true;simp[<-h2])]
   refine XR (h _ st (SmS.refl st) ?_);show Res rk _ _ (Array.toList (#[b[0]]++b.extract 1 b.size++a.extract 0 a.size));rw[Wx,Wx,ar,ar];refine I0.Vd M.sa M.sb λx d y f=>M.last x (Ue d) y ?_;rw[show a.size-1=0 by lia];exact f
  .rw [Yb (by show ¬ ((0+1==a.size)=true);simpa using h2)]
   refine YY (Py ?_);extract_lets mg0;refine YY (TF (Ut (I:=λx c j=>SmS st j /\ ∃ out ia ib mg,c=(none,out,ia,ib,mg)/\LI rk a b (1+x) none out ia ib)
    (Q:=λc j=>SmS st j /\∃res out ia ib mg,c=(some res,out,ia,ib,mg)/\Res rk a.toList b.toList res.toList) ?_ ?_ ⟨SmS.refl st,#[b[0]],0,1,_,rfl,I0,by lia,by lia,by lia⟩) ?_)
   .rintro x c YD _ d ⟨F,Tq,W,V,S,rfl,hI1⟩
    extract_lets;refine YY (wL Z7 M (F.1.trans hk) (1+x) hI1 (by lia) λr out2 ia2 ib2 ac bc Uz=>?_)
    cases r with
    |some res=>exact XR ⟨F,res,_,_,_,_,rfl,Uz⟩
    |none=>
     refine YY (PJ (RP ⟨rfl,?_⟩));refine YY (TF (Ut (I:=λ_=>LoY rk a b st (1+x+1))
      (Q:=LoD rk a b st (1+x+1)) ?_ ?_ ⟨F,_,_,_,_,_,_,rfl,Uz⟩) ?_)
     .rintro y c C _ f ⟨D,out,ia,ib,mg,ac,bc,rfl,B,Xw,G,hn⟩
      extract_lets;rename_i jp T;have W_:∀(u:PUnit) (m:Nat),wpS (model prog w) A E s (jp u m) (LoS rk a b st (1+x+1)) C:=by
       intro u m;refine YY ?_;rw[df];refine RX ?_;generalize Tp:SortSt.mk' (kindOf C) (arrOf C) (pendingOf C) m (failedOf C)=P;have o:SmS st P:=by rw[<-Tp];exact D
       have Yy:kindOf P=κ:=o.1.trans hk;refine YY (ak G ?_);have X:b[ib]∈ZO:=M.mb _ (VM G);refine YY (gal Z7 Yy X M.ma (by show ia+(a.size-ia)<=a.size;omega) (by show 0<a.size-ia;omega) M.sa λk Vg Y7 L=>?_)
       have L:∀ x∈a.toList.drop (ia+k),rk b[ib]<=rk x:=λx d=>L x (by
        rw[UK (by rw[VL,YW];exact G8 _),QV];exact d)
       dsimp -zeta only
       extract_lets X5 Uy R t;have V5:∀(u:PUnit) (out:Array Keyed) (g:Nat),ia<=g->g+1<a.size->MI rk a.toList b.toList out.toList g ib->(∀x∈a.toList.drop g,rk b[ib]<=rk x)->wpS (model prog w) A E s (Uy u out g) (LoS rk a b st (1+x+1)) P:=by
        intro u To g hle Zb I' K;refine YY (ak G ?_);extract_lets Tn;have I4:MI rk a.toList b.toList Tn.toList g (ib+1):=by
         have:=I'.VI M.sb 1 (λx d y f=>by
          rw[drop_one G]at d;rw[WC.mp d];exact K y f)
         rw[drop_one G]at this;show MI rk _ _ (To.push b[ib]).toList _ _;rw[SQ];exact this
        by_cases h5:ib+1=b.size
        .rw [Yn (by show(ib+1==b.size)=true;simp[h5])]
         refine XR ⟨o,some _,_,_,_,_,_,_,rfl,?_⟩;show Res rk _ _ (Array.toList (Tn++a.extract g a.size++b.extract (ib+1) b.size));rw[Wx,Wx,ar,ar];exact I4.VH M.sa M.sb λx _ y f=>by rw[Um (by rw[YW];lia)]at f;cases f
        .rw [Yb (by show ¬ ((ib+1==b.size)=true);simpa using h5)]
         have H:g<a.size:=by lia
         refine YY (ak H ?_);have Z:a[g]∈ZO:=M.ma _ (VM H);refine YY (gal Z7 Yy Z M.mb (by show ib+1+(b.size-(ib+1))<=b.size;omega) (by show 0<b.size-(ib+1);omega) M.sb λn Vc YL N=>?_)
         have N:∀ x∈b.toList.drop (ib+1+n),rk a[g]<=rk x:=λx d=>N x (by
          rw[UK (by rw[VL,YW];exact G8 _),QV];exact d)
         dsimp -zeta only
         extract_lets X4 U Vb O;have Uw:∀(u:PUnit) (out:Array Keyed) (z:Nat),ib<z->z<b.size->MI rk a.toList b.toList out.toList g z->(∀x∈b.toList.drop z,rk a[g]<=rk x)->wpS (model prog w) A E s (U u out z) (LoS rk a b st (1+x+1)) P:=by
          intro u Tj z hle' SK I6 J;refine YY (ak H ?_);extract_lets SJ ia7;have I7:MI rk a.toList b.toList SJ.toList (g+1) z:=by
           have:=I6.Ve M.sa 1 (λx d y f=>by
            rw[drop_one H]at d;rw[WC.mp d];exact J y f)
           rw[drop_one H]at this;show MI rk _ _ (Tj.push a[g]).toList _ _;rw[SQ];exact this
          by_cases h6:g+1+1=a.size
          .rw [Yn (by show(g+1+1==a.size)=true;simp[h6])]
           refine XR ⟨o,some _,_,_,_,_,_,_,rfl,?_⟩;show Res rk _ _ (Array.toList (SJ++b.extract z b.size++a.extract (g+1) a.size));rw[Wx,Wx,ar,ar];refine I7.Vd M.sa M.sb λx d y f=>M.last x (Ue d) y ?_;rw[show a.size-1=g+1 by omega];exact f
          .rw [Yb (by show ¬ ((g+1+1==a.size)=true);simpa using h6)]
           split
           .exact XR ⟨o,none,_,_,_,_,_,_,rfl,I7,by lia,SK,by lia⟩
           .exact XR ⟨o,_,_,_,_,_,_,rfl,I7,by omega,SK,by omega⟩
         by_cases V_:n > 0
         .rw [Yn V_]
          have I5:MI rk a.toList b.toList Vb.toList g O:=by
           have:=I4.VI M.sb n λx d y f=>G6 (YL x d) (eY M.sa H y f);rw[<-ko,<-Wx]at this;exact this
          have e5:O=ib+1+n:=rfl;by_cases h7:O=b.size
          .rw [Yn (by simp[h7])]
           refine XR ⟨o,some _,_,_,_,_,_,_,rfl,?_⟩;show Res rk _ _ (Array.toList (Vb++a.extract g a.size++b.extract O b.size));rw[Wx,Wx,ar,ar];exact I5.VH M.sa M.sb λx _ y f=>by rw[Um (by rw[YW];lia)]at f;cases f
          .rw [Yb (by simpa using h7)]
           have hnn':n<=b.size-(ib+1):=Vc;exact Uw Unit.unit Vb O (by lia) () I5 (by rw[e5];exact N)
         .rw [Yb V_]
          have e0:n=0:=by lia
          rw[e0]at N;exact Uw Unit.unit Tn (ib+1) (by lia) (by lia) I4 N
       by_cases Uv:k > 0
       .rw [Yn Uv]
        have I3:MI rk a.toList b.toList R.toList t ib:=by
         have:=B.Ve M.sa k λx d y f=>G6 (Y7 x d) (eY M.sb G y f);rw[<-ko,<-Wx]at this;exact this
        have e3:t=ia+k:=rfl;by_cases h3:t+1=a.size
        .rw [Yn (by simp[h3])]
         refine XR ⟨o,some _,_,_,_,_,_,_,rfl,?_⟩;show Res rk _ _ (Array.toList (R++b.extract ib b.size++a.extract t a.size));rw[Wx,Wx,ar,ar];refine I3.Vd M.sa M.sb λx d y f=>M.last x (Ue d) y ?_;rw[show a.size-1=t by omega];exact f
        .rw [Yb (by simpa using h3)]
         by_cases h4:t=a.size
         .rw [Yn (by simp[h4])]
          refine XR ⟨o,some _,_,_,_,_,_,_,rfl,?_⟩;show Res rk _ _ (Array.toList (R++a.extract t a.size++b.extract ib b.size));rw[Wx,Wx,ar,ar];exact I3.VH M.sa M.sb λx d y _=>by rw[Um (by rw[YW];lia)]at d;cases d
         .rw [Yb (by simpa using h4)]
          exact V5 Unit.unit R t (by lia) () I3 (by rw[e3];exact L)
       .rw [Yb Uv]
        have e0:k=0:=by lia
        rw[e0]at L;exact V5 Unit.unit out ia (G8 _) Xw B L
      by_cases hm:mg > 1
      .rw [Yn hm];exact TF (W_ Unit.unit T) λr j h=>by cases r<;>exact h
      .rw [Yb hm];exact TF (W_ Unit.unit mg) λr j h=>by cases r<;>exact h
     .rintro c C ⟨D,out,ia,ib,mg,ac,bc,rfl,B⟩
      exact⟨D,none,_,_,_,_,_,_,rfl,B⟩
     .rintro c C ⟨D,r,out,ia,ib,mg,ac,bc,rfl,B⟩
      cases r with
      |some res=>exact XR ⟨D,res,_,_,_,_,rfl,B⟩
      |none=>
       let⟨q0,q1,q2,q3⟩:=B;refine YY ?_;rw[df];refine RX (XR ⟨D,out,ia,ib,_,rfl,q0,q1,q2,?_⟩);lia
   .rintro c YD ⟨F,Tq,W,V,S,rfl,_,q1,q2,q3⟩
    have:max 0 total=a.size+b.size:=by show max 0 (a.size+b.size)=_;lia
    omega
   .rintro c YD ⟨F,res,_,_,_,_,rfl,hr⟩
    exact XR (h res YD F hr)
end
def DC:Array Keyed->Array Keyed->StateT SortSt Sem (Array Keyed):=sortPriv% PySem.Builtin.mergeHi
def pf(a b:Array Keyed):DC a b=(do
 rule "list.sort.merge-hi"
 let total:=a.size+b.size
 let done (out:Array Keyed) (na nb:Nat):=a.extract 0 na++b.extract 0 nb++out.reverse
 let Uu (out:Array Keyed) (na nb:Nat):=b.extract 0 nb++a.extract 0 na++out.reverse
 let mut na:=a.size-1
 let mut nb:=b.size
 let mut out:Array Keyed:=#[<-elem' a na]
 if na==0 then return done out na nb
 if nb==1 then return Uu out na nb
 let mut YK:=gallopOf (<- get)
 for _ in [0:total]do
  let mut X5:=0
  let mut X4:=0
  for _ in [0:total]do
   let some R5<-lt' (<- elem' b (nb-1)) (<- elem' a (na-1))|return done out na nb
   if R5 then
    na:=na-1;out:=out.push (<- elem' a na);X5:=X5+1;X4:=0
    if na==0 then return done out na nb
    if X5 ≥ YK then break
   else
    nb:=nb-1;out:=out.push (<- elem' b nb);X4:=X4+1;X5:=0
    if nb==1 then return Uu out na nb
    if X4 ≥ YK then break
  rule "list.sort.gallop"
  YK:=YK+1
  for _ in [0:total]do
   if YK > 1 then YK:=YK-1
   Cm YK
   let some at_<-IP false (<- elem' b (nb-1)) a 0 na (na-1)|return done out na nb
   let k:=na-at_
   X5:=k
   if k > 0 then
    out:=out++(a.extract at_ na).reverse;na:=at_
    if na==0 then return done out na nb
   nb:=nb-1;out:=out.push (<- elem' b nb)
   if nb==1 then return Uu out na nb
   let some at_<-IP true (<- elem' a (na-1)) b 0 nb (nb-1)|return done out na nb
   let k:=nb-at_
   X4:=k
   if k > 0 then
    out:=out++(b.extract at_ nb).reverse;nb:=at_
    if nb==1 then return Uu out na nb
    if nb==0 then return done out na nb
   na:=na-1;out:=out.push (<- elem' a na)
   if na==0 then return done out na nb
   if X5<7&&X4<7 then break
  YK:=YK+1
  Cm YK
 unsupported "internal:list.sort.merge-bound"):=rfl
structure MH(rk:Keyed->Nat)(a b out:List Keyed)(na nb:Nat):Prop where
 pm:out.Perm (a.drop na++b.drop nb)
 so:SrL rk out.reverse
 oa:∀x∈out,∀y∈a.take na,rk y<=rk x
 ob:∀x∈out,∀y∈b.take nb,rk y<=rk x
section
variable{a b out:List Keyed}{na nb:Nat}
def SrL.take{l:List Keyed}(h:SrL rk l)(i:Nat):SrL rk (l.take i):=Qe (Qi i l) h
def dv(l:List Keyed){k:Nat}(h:k<=n):l.drop k=(l.take n).drop k++l.drop n:=by
 rcases Nat.le_total n l.length with hn|hn
 .conv=>lhs;rw[<-WD n l]
  rw[List.drop_append_of_le_length (by rw[Vi];lia)]
 .rw [UK hn,Um hn,TR]
def d9{l:List Keyed}{k:Nat}(h:k<=n){x:Keyed}(a:x∈l.take k):x∈(l.take n).take k:=by
 rw[List.take_take,Nat.min_eq_left h];exact a
def MH.Ve(I:MH rk a b out na nb)(f:SrL rk a){k:Nat}(e:k<=na)(h:∀x∈(a.take na).drop k,∀y∈b.take nb,rk y<=rk x):MH rk a b (out++((a.take na).drop k).reverse) k nb where
 pm:=by
  rw[dv a e];refine Us.trans ?_;rw[XU];exact(QW _).append I.pm
 so:=by
  rw[List.reverse_append,List.reverse_reverse];exact Vh.mpr ⟨(f.take na).drop k,I.so,λx c y d=>I.oa y (UI.mp d) x (Ue c)⟩
 oa:=λx c y d=>by
  rcases Wu.mp c with c|c
  .exact I.oa x c y (Sx (d9 e d))
  .exact (f.take na).cut k y (d9 e d) x (UI.mp c)
 ob:=λx c y d=>by
  rcases Wu.mp c with c|c
  .exact I.ob x c y d
  .exact h x (UI.mp c) y d
def MH.VI(I:MH rk a b out na nb)(f:SrL rk b){k:Nat}(e:k<=nb)(h:∀x∈(b.take nb).drop k,∀y∈a.take na,rk y<=rk x):MH rk a b (out++((b.take nb).drop k).reverse) na k where
 pm:=by
  rw[dv b e];refine(I.pm.append (QW _)).trans ?_;rw[XU];exact Rr _ Us
 so:=by
  rw[List.reverse_append,List.reverse_reverse];exact Vh.mpr ⟨(f.take nb).drop k,I.so,λx c y d=>I.ob y (UI.mp d) x (Ue c)⟩
 oa:=λx c y d=>by
  rcases Wu.mp c with c|c
  .exact I.oa x c y d
  .exact h x (UI.mp c) y d
 ob:=λx c y d=>by
  rcases Wu.mp c with c|c
  .exact I.ob x c y (Sx (d9 e d))
  .exact (f.take nb).cut k y (d9 e d) x (UI.mp c)
def MH.VH(I:MH rk a b out na nb)(f:SrL rk a)(e:SrL rk b)(h:∀x∈a.take na,∀y∈b.take nb,rk x<=rk y):Res rk a b (a.take na++b.take nb++out.reverse):=by
 constructor
 .refine (((QW _).trans I.pm).append_left _).trans ?_
  rw[XU];refine(Rr _ ?_).trans (l₂:=List.take na a++(List.drop na a++b)) ?_
  .rw [<-XU]
   refine(List.perm_append_comm.append_right _).trans ?_;rw[XU,WD]
  .rw [<-XU,WD]
 .refine Vh.mpr ⟨Vh.mpr ⟨f.take na,e.take nb,h⟩,I.so,λx c y d=>?_⟩
  rcases Wu.mp c with c|c
  .exact I.oa y (UI.mp d) x c
  .exact I.ob y (UI.mp d) x c
def MH.Vd(I:MH rk a b out na nb)(f:SrL rk a)(e:SrL rk b)(h:∀x∈b.take nb,∀y∈a.take na,rk x<=rk y):Res rk a b (b.take nb++a.take na++out.reverse):=by
 constructor
 .refine (((QW _).trans I.pm).append_left _).trans ?_
  rw[XU,<-XU (List.take na a),WD];refine(Us).trans ?_;rw[XU];refine Rr _ (Us.trans ?_);rw[WD]
 .refine Vh.mpr ⟨Vh.mpr ⟨e.take nb,f.take na,h⟩,I.so,λx c y d=>?_⟩
  rcases Wu.mp c with c|c
  .exact I.ob y (UI.mp d) x c
  .exact I.oa y (UI.mp d) x c
end
section
variable{E:Value->Shared->Prop}
def LH(rk:Keyed->Nat)(a b:Array Keyed)(n:Nat)(r:Option (Array Keyed))(out:Array Keyed)(d c:Nat):Prop:=match r with
 |some res=>Res rk a.toList b.toList res.toList
 |none=>MH rk a.toList b.toList out.toList d c/\(0<d/\d<=a.size)/\(1<c/\c<=b.size)/\n+d+c<=a.size+b.size
def bM{a:Array Keyed}(h:n<a.size):(a.toList.take (n+1)).drop n=[a[n]]:=by
 rw[List.drop_take,Vy (by simpa using h)];simp
def c6{a:Array Keyed}(c:SrL rk a.toList){n:Nat}(h:n<a.size):∀y∈a.toList.take (n+1),rk y<=rk a[n]:=λy b=>by
 rw[<-WD n (a.toList.take (n+1)),bM h]at b;rcases Wu.mp b with b|b
 .exact (c.take (n+1)).cut n y b a[n] (by rw[bM h];exact WC.mpr rfl)
 .rw [WC.mp b];exact G8 _
def eO(a:Array Keyed)(n:Nat):(a.extract 0 n).toList=a.toList.take n:=by
 rw[Ql,Ru];simp
def a0(a:Array Keyed)(k n:Nat):(a.extract k n).toList=(a.toList.take n).drop k:=by
 rw[Ql,Ru,List.drop_take]
def cO{a b out:Array Keyed}{d c:Nat}(I:MH rk a.toList b.toList out.toList d c)(i:SrL rk a.toList)(g:SrL rk b.toList)(h:d=0\/c=0):Res rk a.toList b.toList (a.extract 0 d++b.extract 0 c++out.reverse).toList:=by
 rw[Wx,Wx,eO,eO,Qm];refine I.VH i g λx f y e=>?_;rcases h with rfl|rfl
 .rw [List.take_zero]at f;cases f
 .rw [List.take_zero]at e;cases e
def eN{a b out:Array Keyed}{c:Nat}(I:MH rk a.toList b.toList out.toList c 1)(h:SrL rk a.toList)(d:SrL rk b.toList)(i:0<b.size)(g:∀x∈a.toList,rk b[0]<=rk x):Res rk a.toList b.toList (b.extract 0 1++a.extract 0 c++out.reverse).toList:=by
 rw[Wx,Wx,eO,eO,Qm];refine I.Vd h d λx f y e=>?_;have:=c6 d i x f;exact G6 this (g y (Sx e))
def il{a b out:Array Keyed}{c:Nat}(I:MH rk a.toList b.toList out.toList (n+1) c)(f:SrL rk a.toList)(h:n<a.size)(k:∀y∈b.toList.take c,rk y<=rk a[n]):MH rk a.toList b.toList (out.push a[n]).toList n c:=by
 have:=I.Ve f (V8 n) (λx d y e=>by
  rw[bM h]at d;rw[WC.mp d];exact k y e)
 rw[bM h]at this;rw[SQ];exact this
def nN{a b out:Array Keyed}{c:Nat}(I:MH rk a.toList b.toList out.toList c (n+1))(f:SrL rk b.toList)(h:n<b.size)(k:∀y∈a.toList.take c,rk y<=rk b[n]):MH rk a.toList b.toList (out.push b[n]).toList c n:=by
 have:=I.VI f (V8 n) (λx d y e=>by
  rw[bM h]at d;rw[WC.mp d];exact k y e)
 rw[bM h]at this;rw[SQ];exact this
abbrev HiY(rk:Keyed->Nat)(a b:Array Keyed)(st:SortSt)(n:Nat)(c:Option (Array Keyed)×Nat×Nat×Array Keyed×Nat×Nat×Nat)(ZX:SortSt):Prop:=SmS st ZX /\∃na nb out mg ac bc,c=(none,na,nb,out,mg,ac,bc)/\LH rk a b n none out na nb
abbrev HiD(rk:Keyed->Nat)(a b:Array Keyed)(st:SortSt)(n:Nat)(c:Option (Array Keyed)×Nat×Nat×Array Keyed×Nat×Nat×Nat)(ZX:SortSt):Prop:=SmS st ZX /\∃r na nb out mg ac bc,c=(r,na,nb,out,mg,ac,bc)/\LH rk a b n r out na nb
abbrev HiS(rk:Keyed->Nat)(a b:Array Keyed)(st:SortSt)(n:Nat)(r:ForInStep (Option (Array Keyed)×Nat×Nat×Array Keyed×Nat×Nat×Nat))(ZX:SortSt):Prop:=match r with
 |.done c=>HiD rk a b st n c ZX
 |.yield c=>HiY rk a b st n c ZX
def ux(Z7:AR prog w A E s κ ZO rk){a b:Array Keyed}(M:TL rk ZO a b)(hk:kindOf st=κ)(ha:0<a.size)(Y:0<b.size)(X:∀x∈a.toList,rk b[0]<=rk x)
  {Q:Array Keyed->SortSt->Prop} (h:∀res g,SmS st g->Res rk a.toList b.toList res.toList->Q res g) :
  wpS (model prog w) A E s (DC a b) Q st:=by
 rw[pf];extract_lets total done Uu na0 nb0;refine YY (PJ (RP ⟨rfl,?_⟩));have F:a.size-1<a.size:=by omega
 refine YY (ak F ?_);have I0:MH rk a.toList b.toList (#[a[a.size-1]]:Array Keyed).toList (a.size-1) b.size:=by
  have I:MH rk a.toList b.toList (#[]:Array Keyed).toList (a.size-1+1) b.size:=⟨by simp;omega,List.Pairwise.nil,λx z=>by(cases z),λx z=>by(cases z)⟩
  exact il I M.sa F λy o=>M.last y (Sx o) _ (xM F)
 extract_lets out0;by_cases h1:a.size-1=0
 .rw [Yn (by show(a.size-1==0)=true;simp[h1])]
  exact XR (h _ st (SmS.refl st) (cO I0 M.sa M.sb (.inl h1)))
 .rw [Yb (by show ¬ ((a.size-1==0)=true);simpa using h1)]
  by_cases h2:b.size=1
  .rw [Yn (by show(b.size==1)=true;simp[h2])]
   have I1:MH rk a.toList b.toList (#[a[a.size-1]]:Array Keyed).toList (a.size-1) 1:=by rw[h2]at I0;exact I0
   have:=eN I1 M.sa M.sb Y X;refine XR (h _ st (SmS.refl st) ?_);show Res rk _ _ (b.extract 0 b.size++a.extract 0 (a.size-1)++Array.reverse #[a[a.size-1]]).toList;rw[h2];exact this
  .rw [Yb (by show ¬ ((b.size==1)=true);simpa using h2)]
   refine YY (Py ?_);extract_lets mg0;refine YY (TF (Ut (I:=λx c g=>SmS st g /\ ∃ na nb out mg,c=(none,na,nb,out,mg)/\LH rk a b (1+x) none out na nb)
    (Q:=λc g=>SmS st g /\∃res na nb out mg,c=(some res,na,nb,out,mg)/\Res rk a.toList b.toList res.toList) ?_ ?_ ⟨SmS.refl st,a.size-1,b.size,#[a[a.size-1]],_,rfl,I0,⟨by lia,by lia⟩,⟨by lia,by lia⟩,by lia⟩) ?_)
   .rintro x c N _ z ⟨L,na1,nb1,Tq,mg1,rfl,hI1⟩
    have Wc:x < a.size+b.size:=z;extract_lets;refine YY (TF (Ut (I:=λy c g=>N=g /\ ∃ na nb out ac C,c=(none,na,nb,out,ac,C)/\LH rk a b (1+x+y) none out na nb)
     (Q:=λc g=>N=g /\∃r na nb out ac C,c=(r,na,nb,out,ac,C)/\LH rk a b (1+x+1) r out na nb) ?_ ?_ ⟨rfl,_,_,_,_,_,rfl,hI1⟩) ?_)
    .rintro y c t _ o ⟨rfl,na,nb,out,ac,C,rfl,I,⟨O,V⟩,⟨T,W⟩,hn⟩
     obtain⟨na,rfl⟩:∃n,na=n+1:=⟨na-1,by omega⟩
     obtain⟨nb,rfl⟩:∃n,nb=n+1:=⟨nb-1,by omega⟩
     have f:na<a.size:=by lia
     have j:nb<b.size:=by lia
     extract_lets;refine YY (ak (i:=nb) j (YY (ak (i:=na) f (YY (Z7 _ _ (M.mb _ (VM j)) (M.ma _ (VM f)) N _ (L.1.trans hk) ?_)))))
     dsimp -zeta only
     by_cases F:rk b[nb]<rk a[na]
     .rw [Yn (by simpa using F)]
      refine YY (ak (i:=na) f ?_);extract_lets Wz ac3;have J:MH rk a.toList b.toList (out.push a[na]).toList na (nb+1):=il I M.sa f λy o=>G6 (c6 M.sb j y o) (Rh F);by_cases B:na=0
      .rw [Yn (by show(na==0)=true;simp[B])]
       exact XR ⟨rfl,some _,_,_,_,_,_,rfl,cO J M.sa M.sb (.inl B)⟩
      .rw [Yb (by show ¬ ((na==0)=true);simpa using B)]
       split
       .exact XR ⟨rfl,none,na,nb+1,_,_,_,rfl,J,⟨Nat.pos_of_ne_zero B,Rh f⟩,⟨T,W⟩,by lia⟩
       .exact XR ⟨rfl,na,nb+1,_,_,_,rfl,J,⟨Nat.pos_of_ne_zero B,Rh f⟩,⟨T,W⟩,by lia⟩
     .rw [Yb (by simpa using F)]
      refine YY (ak (i:=nb) j ?_);extract_lets Wz bc3;have J:MH rk a.toList b.toList (out.push b[nb]).toList (na+1) nb:=nN I M.sb j λy o=>G6 (c6 M.sa f y o) (Nat.not_lt.mp F);by_cases B:nb=1
      .rw [Yn (by show(nb==1)=true;simp[B])]
       subst B;exact XR ⟨rfl,some _,_,_,_,_,_,rfl,eN J M.sa M.sb Y X⟩
      .rw [Yb (by show ¬ ((nb==1)=true);simpa using B)]
       have q:1<nb/\nb<=b.size:=by omega
       split
       .exact XR ⟨rfl,none,na+1,nb,_,_,_,rfl,J,⟨O,V⟩,q,by lia⟩
       .exact XR ⟨rfl,na+1,nb,_,_,_,rfl,J,⟨O,V⟩,q,by lia⟩
    .rintro c t ⟨rfl,na,nb,out,ac,C,rfl,I,⟨O,V⟩,⟨T,W⟩,hn⟩
     have:max 0 total=a.size+b.size:=by show max 0 (a.size+b.size)=_;lia
     exact⟨rfl,none,na,nb,out,ac,C,rfl,I,⟨O,V⟩,⟨T,W⟩,by lia⟩
    .rintro c t ⟨rfl,r,na2,nb2,out2,ac2,bc2,rfl,Uz⟩
     cases r with
     |some res=>exact XR ⟨L,res,_,_,_,_,rfl,Uz⟩
     |none=>
      refine YY (PJ (RP ⟨rfl,?_⟩));refine YY (TF (Ut (I:=λ_=>HiY rk a b st (1+x+1))
       (Q:=HiD rk a b st (1+x+1)) ?_ ?_ ⟨L,_,_,_,_,_,_,rfl,Uz⟩) ?_)
      .rintro y c t _ o ⟨K,na,nb,out,mg,ac,C,rfl,H,⟨O,V⟩,⟨T,W⟩,hn⟩
       obtain⟨nb,rfl⟩:∃n,nb=n+1:=⟨nb-1,by omega⟩
       have j:nb<b.size:=by omega
       extract_lets;rename_i jp mg';have W_:∀(u:PUnit) (m:Nat),wpS (model prog w) A E s (jp u m) (HiS rk a b st (1+x+1)) t:=by
        intro u m;refine YY ?_;rw[df];refine RX ?_;generalize Tp:SortSt.mk' (kindOf t) (arrOf t) (pendingOf t) m (failedOf t)=Y9;have G:SmS st Y9:=by rw[<-Tp];exact K
        have Yy:kindOf Y9=κ:=G.1.trans hk;refine YY (ak (i:=nb) j ?_);have hbi:b[nb]∈ZO:=M.mb _ (VM j);refine YY (gal Z7 Yy hbi M.ma (by show 0+na<=a.size;lia) (by show na-1<na;omega) M.sa λk Vg U Zg=>?_)
        have Vg:k<=na:=Vg;have U:∀x∈a.toList.take k,rk x<=rk b[nb]:=U;have Zg:∀x∈(a.toList.take na).drop k,rk b[nb]<=rk x:=Zg
        dsimp -zeta only
        extract_lets k' X5 Uy Wz na3;have e3:na3=k:=rfl;have ek:k'=na-k:=rfl;have V5:∀(u:PUnit) (d:Nat) (out:Array Keyed),0<d->d<=na->MH rk a.toList b.toList out.toList d (nb+1)->(∀x∈a.toList.take d,rk x<=rk b[nb])->wpS (model prog w) A E s (Uy u d out) (HiS rk a b st (1+x+1)) Y9:=by
         intro u d To hp hle I' R;obtain⟨d,rfl⟩:∃n,d=n+1:=⟨d-1,by omega⟩
         have f:d<a.size:=by lia
         refine YY (ak (i:=nb) j ?_);have I4:MH rk a.toList b.toList (To.push b[nb]).toList (d+1) nb:=nN I' M.sb j R;by_cases h5:nb=1
         .rw [Yn (by show(nb==1)=true;simp[h5])]
          subst h5;exact XR ⟨G,some _,_,_,_,_,_,_,rfl,eN I4 M.sa M.sb Y X⟩
         .rw [Yb (by show ¬ ((nb==1)=true);simpa using h5)]
          refine YY (ak (i:=d) f ?_);have hai:a[d]∈ZO:=M.ma _ (VM f);refine YY (gal Z7 Yy hai M.mb (by show 0+nb<=b.size;lia) (by show nb-1<nb;omega) M.sb λn Vc S Yi=>?_)
          have Vc:n<=nb:=Vc;have S:∀x∈b.toList.take n,rk x<=rk a[d]:=S;have Yi:∀x∈(b.toList.take nb).drop n,rk a[d]<=rk x:=Yi
          dsimp -zeta only
          extract_lets;rename_i kk X4 jp3 Vb nb5;have Z:nb5=n:=rfl;have Uw:∀(u:PUnit) (D:Nat) (out:Array Keyed),1<D->D<=nb->MH rk a.toList b.toList out.toList (d+1) D->(∀x∈b.toList.take D,rk x<=rk a[d])->wpS (model prog w) A E s (jp3 u D out) (HiS rk a b st (1+x+1)) Y9:=by
           intro u D Tj XZ hle' I6 P;refine YY (ak (i:=d) f ?_);have I7:MH rk a.toList b.toList (Tj.push a[d]).toList d D:=il I6 M.sa f P;by_cases h6:d=0
           .rw [Yn (by show(d==0)=true;simp[h6])]
            exact XR ⟨G,some _,_,_,_,_,_,_,rfl,cO I7 M.sa M.sb (.inl h6)⟩
           .rw [Yb (by show ¬ ((d==0)=true);simpa using h6)]
            split
            .exact XR ⟨G,none,d,D,_,_,_,_,rfl,I7,⟨by lia,by lia⟩,⟨by lia,by lia⟩,by lia⟩
            .exact XR ⟨G,d,D,_,_,_,_,rfl,I7,⟨by omega,by omega⟩,⟨by omega,by omega⟩,by omega⟩
          by_cases V_:nb-n > 0
          .rw [Yn (by show nb-n > 0;exact V_)]
           have I5:MH rk a.toList b.toList Vb.toList (d+1) n:=by
            have:=I4.VI M.sb Vc λx z y o=>G6 (c6 M.sa f y o) (Yi x z);rw[<-a0,<-Qm,<-Wx]at this;exact this
           by_cases h7:n=1
           .rw [Yn (by rw[Z];simp[h7])]
            subst h7;exact XR ⟨G,some _,_,_,_,_,_,_,rfl,eN I5 M.sa M.sb Y X⟩
           .rw [Yb (by rw[Z];simpa using h7)]
            by_cases h8:n=0
            .rw [Yn (by rw[Z];simp[h8])]
             exact XR ⟨G,some _,_,_,_,_,_,_,rfl,cO I5 M.sa M.sb (.inr h8)⟩
            .rw [Yb (by rw[Z];simpa using h8)]
             exact Uw Unit.unit n Vb (by lia) Vc I5 S
          .rw [Yb (by show ¬ (nb-n > 0);exact V_)]
           have e0:n=nb:=by omega
           rw[e0]at S;exact Uw Unit.unit nb _ (by lia) (G8 _) I4 S
        by_cases Uv:na-k > 0
        .rw [Yn (by rw[ek];exact Uv)]
         have I3:MH rk a.toList b.toList Wz.toList k (nb+1):=by
          have:=H.Ve M.sa Vg λx z y o=>G6 (c6 M.sb j y o) (Zg x z);rw[<-a0,<-Qm,<-Wx]at this;exact this
         by_cases h3:k=0
         .rw [Yn (by rw[e3];simp[h3])]
          exact XR ⟨G,some _,_,_,_,_,_,_,rfl,cO I3 M.sa M.sb (.inl h3)⟩
         .rw [Yb (by rw[e3];simpa using h3)]
          exact V5 Unit.unit k Wz (by lia) Vg I3 U
        .rw [Yb (by rw[ek];exact Uv)]
         have e0:k=na:=by omega
         rw[e0]at U;exact V5 Unit.unit na out O (G8 _) H U
       by_cases hm:mg > 1
       .rw [Yn hm];exact TF (W_ Unit.unit mg') λr g h=>by cases r<;>exact h
       .rw [Yb hm];exact TF (W_ Unit.unit mg) λr g h=>by cases r<;>exact h
      .rintro c t ⟨K,na,nb,out,mg,ac,C,rfl,H⟩
       exact⟨K,none,_,_,_,_,_,_,rfl,H⟩
      .rintro c t ⟨K,r,na,nb,out,mg,ac,C,rfl,H⟩
       cases r with
       |some res=>exact XR ⟨K,res,_,_,_,_,rfl,H⟩
       |none=>
        let⟨q0,q1,q2,q3⟩:=H;refine YY ?_;rw[df];refine RX (XR ⟨K,na,nb,out,_,rfl,q0,q1,q2,?_⟩);lia
   .rintro c N ⟨L,na1,nb1,Tq,mg1,rfl,_,q1,q2,q3⟩
    have:max 0 total=a.size+b.size:=by show max 0 (a.size+b.size)=_;lia
    omega
   .rintro c N ⟨L,res,_,_,_,_,rfl,hr⟩
    exact XR (h res N L hr)
end
def lx(s:Nat):∀(l:List Keyed) (n:Nat) (arr:Array Keyed),s+n+l.length<=arr.size->((l.zipIdx n).foldl (λa (p,j)=>a.setIfInBounds (s+j) p) arr).toList=arr.toList.take (s+n)++l++arr.toList.drop (s+n+l.length)
 |[],n,arr,h=>by simp
 |x::l,n,arr,h=>by
  rw[Xb]at h;rw[List.zipIdx_cons,US,lx s l (n+1) _ (by rw[P6];lia)]
  rw[PL,Xb];have c:(arr.toList.set (s+n) x).take (s+(n+1))=arr.toList.take (s+n)++[x]:=by
   rw[<-OD,List.take_succ_eq_append_getElem (by simp;lia),List.take_set_of_le (G8 _),List.getElem_set_self]
  have b:(arr.toList.set (s+n) x).drop (s+(n+1)+l.length)=arr.toList.drop (s+n+(l.length+1)):=by
   rw[List.drop_set_of_lt (by lia)];congr 1;lia
  rw[c,b];simp
def oU(i:Nat):mergeAt' i=(do
 let s<-get
 let(some (sa,na,power),some (sb,nb,_)):=((pendingOf s)[i]?,(pendingOf s)[i+1]?)|unsupported "internal:list.sort.pending"
 set (setPending s (((pendingOf s).setIfInBounds i (sa,na+nb,power)).eraseIdxIfInBounds (i+1)))
 let some k<-IP false (<- elem' (arrOf s) sb) (arrOf s) sa na 0|return false
 let(sa,na):=(sa+k,na-k)
 if na==0 then return true
 let some nb<-IP true (<- elem' (arrOf s) (sa+na-1)) (arrOf s) sb nb (nb-1)|return false
 if nb==0 then return true
 let x:=(arrOf s).extract sa sb
 let y:=(arrOf s).extract sb (sb+nb)
 let merged<-if na<=nb then DB x y else DC x y
 modify λs=>setArr s (merged.toList.zipIdx.foldl (λa (p,j)=>a.setIfInBounds (sa+j) p) (arrOf s))
 return (failedOf (<- get)).isNone):=rfl
section
def cM(a:Array Keyed)(i:Nat):IL rk a i=(a.toList[i]?.map rk).getD 0:=by
 unfold IL;rw[Vl]
def nM{a:Array Keyed}{l₁ l₂ SI : List Keyed}(h:a.toList=l₁ ++ l₂ ++ SI)(i:Nat):IL rk a i=if i<l₁.length then(l₁[i]?.map rk).getD 0 else if i<l₁.length+l₂.length then(l₂[i-l₁.length]?.map rk).getD 0 else(SI[i-(l₁.length+l₂.length)]?.map rk).getD 0:=by
 rw[cM,h];split
 .rw [X0 (by rw[YB];lia),X0 (by assumption)]
 .split
  .rw [X0 (by rw[YB];assumption),Wm (by lia)]
  .rw [Wm (by rw[YB];lia),YB]
def vQ{v:Array Keyed}{e p q:Nat}{a:List Keyed}(J:e<=arr.size)(N:lo<=p)(M:p<=m)(L:m<=q)(K:q<=e)(B:Up (IL rk arr) lo m)(A:Up (IL rk arr) m e)
  (H:∀i,lo<=i->i<p ->∀t,m<=t->t<e->IL rk arr i<=IL rk arr t) (G:∀t,lo<=t->t<m ->∀j,q<=j->j<e->IL rk arr t<=IL rk arr j)
  (o:Res rk ((arr.extract p m).toList) ((arr.extract m q).toList) a) (F:v.toList=arr.toList.take p++a++arr.toList.drop q):Up (IL rk v) lo e:=by
 have E:a.length=q-p:=by
  rw[o.1.length_eq,YB,YW,YW,QJ,QJ];lia
 have IG:(arr.toList.take p).length=p:=by rw[Vi,YW];lia
 have r':∀i,IL rk v i=if i<p then IL rk arr i else if i<q then(a[i-p]?.map rk).getD 0 else IL rk arr i:=λi=>by
  rw[nM F i,IG,E,show p+(q-p)=q by lia]
  split
  .rw [Qy (by assumption),<-cM]
  .split
   .rfl
   .rw [PM,show q+(i-q)=i by lia,<-cM]
 have g:∀i,i<q-p ->∃t,p<=t/\t<q/\(a[i]?.map rk).getD 0=IL rk arr t:=λi hi=>by
  have Yr:i<a.length:=by lia
  have c:=o.1.mem_iff.mp (TX Yr);rw[a0,a0]at c;rw[Xp Yr];rcases Wu.mp c with c|c
  .obtain ⟨j,b,r⟩:=RB.mp c
   have s:=b;simp![VL,Vi,YW]at s;refine⟨p+j,by lia,by lia,?_⟩
   rw[aD (by lia:p+j<arr.size),<-r]
   simp
  .obtain ⟨j,b,r⟩:=RB.mp c
   have s:=b;simp![VL,Vi,YW]at s;refine⟨m+j,by lia,by lia,?_⟩
   rw[aD (by lia:m+j<arr.size),<-r]
   simp
 intro i j hi u b;rw[r' i,r' j];by_cases n:i<p
 .rw [Yn n]
  have d:∀t,p<=t->t<e->IL rk arr i<=IL rk arr t:=λt O I=>by
   by_cases h:t<m
   .exact B i t hi (by lia) h
   .exact H i hi n t (by lia) I
  by_cases y:j<p
  .rw [Yn y];exact B i j hi u (by lia)
  .rw [Yb y]
   by_cases f:j<q
   .rw [Yn f]
    let⟨t,h,D,l⟩:=g (j-p) (by lia)
    rw[l];exact d t h (by lia)
   .rw [Yb f];exact d j (by lia) b
 .rw [Yb n,Yb (by lia : ¬ j<p)]
  by_cases z:i<q
  .rw [Yn z]
   by_cases f:j<q
   .rw [Yn f]
    have x:i-p<a.length:=by lia
    have w:j-p<a.length:=by lia
    rw[Xp x,Xp w];rcases Nat.lt_or_eq_of_le u with k|k
    .exact S3.mp o.2 (i-p) (j-p) x w (by lia)
    .subst k;exact G8 _
   .rw [Yb f]
    let⟨t,h,D,l⟩:=g (i-p) (by lia)
    rw[l];by_cases C:t<m
    .exact G t (by lia) C j (by lia) b
    .exact A t j (by lia) (by lia) b
  .rw [Yb z,Yb (by lia : ¬ j<q)]
   exact A i j (by lia) u b
end
section
variable{E:Value->Shared->Prop}
def d8{p q:Nat}{x:Keyed}(h:x∈(arr.extract p q).toList):∃t,p<=t/\t<q/\t<arr.size/\IL rk arr t=rk x/\x∈arr:=by
 rw[a0]at h;let⟨j,a,e⟩:=RB.mp h;have b:=a;simp![VL,Vi,YW]at b;refine⟨p+j,by lia,by omega,by omega,?_,?_⟩
 .rw [aD (by omega:p+j<arr.size),<-e];simp
 .rw [<-e];simp
def nq{p q hi:Nat}(h:Up (IL rk arr) lo hi)(d:lo<=p)(c:q<=hi)(b:hi<=arr.size):SrL rk (arr.extract p q).toList:=by
 rw[a0,SrL,S3];intro i j Yr a e;have a1:=Yr;have a2:=a;simp![VL,Vi,YW]at a1 a2;have:=h (p+i) (p+j) (by lia) (by lia) (by lia)
 rw[aD (by lia:p+i<arr.size),aD (by lia:p+j<arr.size)]at this
 simpa using this
def xH{a:SortSt}{Q:PUnit->SortSt->Prop}(h:Q ⟨⟩ a):wpS (model prog w) A E s (set a:StateT SortSt Sem PUnit) Q st:=RX (f:=λ_=>a) h
def tM(V:AR prog w A E s κ ZO rk)(B:SB κ ZO st){b c p e q:Nat}(h1:(pendingOf st)[i]?=some (b,c,p))(h2:(pendingOf st)[i+1]?=some (b+c,e,q))(hna:0<c)(hnb:0<e)(hsz:b+c+e<=ZO.size)
  (H:Up (IL rk (arrOf st)) b (b+c)) (G:Up (IL rk (arrOf st)) (b+c) (b+c+e)) {Q:Bool->SortSt->Prop}
  (h:∀d,SB κ ZO d->(∀j,(j<b\/b+c+e<=j)->IL rk (arrOf d) j=IL rk (arrOf st) j)->Up (IL rk (arrOf d)) b (b+c+e)->pendingOf d=((pendingOf st).setIfInBounds i (b,c+e,p)).eraseIdxIfInBounds (i+1)->Q true d) :
  wpS (model prog w) A E s (mergeAt' i) Q st:=by
 rw[oU];refine YY (Py ?_);rw[h1,h2]
 dsimp -zeta only
 have hs:=B.size;have D:∀x∈arrOf st,x∈ZO:=λx hx=>B.perm.mem_iff.mp hx;have XN:b+c<(arrOf st).size:=by lia
 refine YY (xH ?_);generalize Th:setPending st (((pendingOf st).setIfInBounds i (b,c+e,p)).eraseIdxIfInBounds (i+1))=F;have m:SB κ ZO F:=by rw[<-Th];exact⟨B.perm,B.failed,B.kind⟩
 have P:arrOf F=arrOf st:=by rw[<-Th]
 have ep:pendingOf F=((pendingOf st).setIfInBounds i (b,c+e,p)).eraseIdxIfInBounds (i+1):=by rw[<-Th]
 refine YY (ak XN ?_);refine YY (fR V m.kind (D _ (VM XN)) D (by lia) hna H ?_);rintro k ⟨k1,k2,k3⟩
 dsimp -zeta only
 have kk:∀t,b<=t->t<b+k->IL rk (arrOf st) t<=IL rk (arrOf st) (b+c):=λt f g=>by
  have:=k2 (t-b) (by lia)
  unfold IQ at this;rw[Yb G7,show b+(t-b)=t by lia,W3,UG]at this
  rw[aD XN];lia
 have kl:∀t,b+k<=t->t<b+c->rk (arrOf st)[b+c]<=IL rk (arrOf st) t:=λt f g=>by
  have:=k3 (t-b) (by lia) (by lia)
  unfold IQ at this;rw[Yb G7,show b+(t-b)=t by lia,Bool.not_eq_false',XM]at this
  lia
 have SH:∀i,b<=i->i<b+k ->∀t,b+c<=t->t<b+c+e->IL rk (arrOf st) i<=IL rk (arrOf st) t:=λi i1 i2 t f g=>G6 (kk i i1 i2) (G _ t (G8 _) f g);by_cases T:c-k=0
 .rw [Yn (by simp[T])]
  refine XR (h F m (λj _=>by rw[P]) ?_ ep)
  rw[P];intro x y K J I;by_cases R:y<b+c
  .exact H x y K J R
  .by_cases U:x<b+c
   .exact SH x K (by lia) y (by lia) I
   .exact G x y (by lia) J I
 .rw [Yb (by simpa using T)]
  have el:b+k+(c-k)-1=b+c-1:=by lia
  have S:b+k+(c-k)-1<(arrOf st).size:=by omega
  refine YY (ak S ?_);refine YY (fR V m.kind (D _ (VM S)) D (by lia) () G ?_);rintro n ⟨n1,n2,n3⟩
  dsimp -zeta only
  have nn:∀j,b+c+n<=j->j<b+c+e->IL rk (arrOf st) (b+c-1)<=IL rk (arrOf st) j:=λj Z Y=>by
   have:=n3 (j-(b+c)) (by lia) ()
   unfold IQ at this;rw[Yn rfl,show b+c+(j-(b+c))=j by lia,<-aD (rk:=rk) S,el]at this
   have:=QH this;lia
  have nm:∀j,b+c<=j->j<b+c+n->IL rk (arrOf st) j<=IL rk (arrOf st) (b+c-1):=λj Z Y=>by
   have:=n2 (j-(b+c)) (by lia)
   unfold IQ at this;rw[Yn rfl,show b+c+(j-(b+c))=j by lia,<-aD (rk:=rk) S,el]at this
   have:=He this;lia
  have SG:∀t,b<=t->t<b+c ->∀j,b+c+n<=j->j<b+c+e->IL rk (arrOf st) t<=IL rk (arrOf st) j:=λt f g j Z Y=>G6 (H t _ f () ()) (nn j Z Y)
  by_cases e2:n=0
  .rw [Yn (by simp[e2])]
   refine XR (h F m (λj _=>by rw[P]) ?_ ep)
   rw[P];intro x y K J I;by_cases R:y<b+c
   .exact H x y K J R
   .by_cases U:x<b+c
    .exact SG x K U y (by lia) I
    .exact G x y (by lia) J I
  .rw [Yb (by simpa using e2)]
   extract_lets x y jp;have sx:x.size=c-k:=by show((arrOf st).extract (b+k) (b+c)).size=_;rw[QJ];omega
   have sy:y.size=n:=by show((arrOf st).extract (b+c) (b+c+n)).size=_;rw[QJ];lia
   have N:0<x.size:=by lia
   have L:0<y.size:=by lia
   have M:TL rk ZO x y:=by
    refine⟨λz o=>?_,λz o=>?_,nq H (by lia) (by lia) (by lia),nq G () (by lia) (by lia),λz o v hv=>?_⟩
    .obtain ⟨t,_,_,_,_,hm⟩:=d8 (rk:=rk) (Si.mpr o)
     exact D _ hm
    .obtain ⟨t,_,_,_,_,hm⟩:=d8 (rk:=rk) (Si.mpr o)
     exact D _ hm
    .obtain ⟨t,f,g,_,W,_⟩:=d8 (rk:=rk) o
     have Vj:x.size-1<x.size:=by omega
     have ev:v=x[x.size-1]:=by
      rw[Vy (by rw[YW];exact Vj),Um (by rw[YW];lia)]at hv
      rw[WC.mp hv];simp
     have:rk v=IL rk (arrOf st) (b+c-1):=by
      rw[ev,aD (by lia:b+c-1<(arrOf st).size)]
      show rk (((arrOf st).extract (b+k) (b+c))[x.size-1])=_;rw[Array.getElem_extract];congr 2;lia
     rw[this,<-W];exact nm t f g
   have hf:∀z∈x.toList,rk y[0]<=rk z:=λz o=>by
    let⟨t,f,g,_,W,_⟩:=d8 (rk:=rk) o;have:=kl t f g;rw[W]at this;have e0:y[0]=(arrOf st)[b+c]:=by
     show((arrOf st).extract (b+c) (b+c+n))[0]=_;rw[Array.getElem_extract];rfl
    rw[e0];exact this
   have W_:∀mg d,SmS F d->Res rk x.toList y.toList mg.toList->wpS (model prog w) A E s (jp mg) Q d:=by
    intro mg d l C;refine YY (RX (YY (Py ?_)));have X_:failedOf d=none:=l.2.2.2.trans m.failed;have u:arrOf d=arrOf st:=l.2.1.trans P;generalize O:List.foldl (λ(a:Array Keyed) (x:Keyed×Nat)=>a.setIfInBounds (b+k+x.snd) x.fst) (arrOf d) mg.toList.zipIdx=res;have X:mg.toList.length=(c-k)+n:=by
     rw[C.1.length_eq,YB,YW,YW,sx,sy]
    have r:res.toList=(arrOf st).toList.take (b+k)++mg.toList++(arrOf st).toList.drop (b+c+n):=by
     have:=lx (b+k) mg.toList 0 (arrOf d) (by rw[u,X];omega)
     rw[Nat.add_zero,X,u,show b+k+(c-k+n)=b+c+n by omega]at this
     rw[<-O,u];exact this
    have R4:res.Perm (arrOf st):=by
     rw[Array.perm_iff_toList_perm,r];have T:(arrOf st).toList=(arrOf st).toList.take (b+k)++(x.toList++y.toList)++(arrOf st).toList.drop (b+c+n):=by
      have R:=dv (arrOf st).toList (show b+c<=b+c+n by lia)
      have U:=dv (arrOf st).toList (show b+k<=b+c by lia)
      show _=_++(((arrOf st).extract (b+k) (b+c)).toList++((arrOf st).extract (b+c) (b+c+n)).toList)++_;rw[a0,a0,XU,XU,<-R,<-U,WD]
     conv=>rhs;rw[T]
     exact(C.1.append_left _).append_right _
    show wpS _ _ _ _ (pure (failedOf d).isNone) Q _;rw[X_];refine XR (h _ ⟨R4.trans B.perm,X_,l.1.trans m.kind⟩ ?_ ?_ (l.2.2.1.trans ep))
    .intro j hj
     show IL rk res j=_;have IG:((arrOf st).toList.take (b+k)).length=b+k:=by rw[Vi,YW];omega
     rw[nM r j,IG,X,show b+k+(c-k+n)=b+c+n by omega]
     split
     .rw [Qy (by assumption),<-cM]
     .rw [Yb (by lia),PM,show b+c+n+(j-(b+c+n))=j by lia,<-cM]
    .show Up (IL rk res) b (b+c+e)
     exact vQ (by lia) (by lia:b<=b+k) () (by omega:b+c<=b+c+n) (by lia) H G SH SG C r
   by_cases hc:c-k<=n
   .rw [Yn hc]
    exact YY (uz V M m.kind N L hf λres d l C=>W_ res d l C)
   .rw [Yb hc]
    exact YY (ux V M m.kind N L hf λres d l C=>W_ res d l C)
end
def PdR(r:Nat->Nat):List (Nat×Nat×Nat)->Nat->Nat->Prop
 |[],lo,hi=>lo=hi
 |(s,n,_)::l,lo,hi=>s=lo/\0<n/\Up r lo (lo+n)/\PdR r l (lo+n) hi
section
variable{r r':Nat->Nat}
def PdR.le:∀{l:List (Nat×Nat×Nat)} {lo hi:Nat},PdR r l lo hi->lo<=hi
 |[],_,_,h=>by cases h;exact G8 _
 |(s,n,p)::l,lo,hi,h=>by have:=h.2.2.2.le;lia
def PdR.app:∀{l f:List (Nat×Nat×Nat)} {lo hi:Nat},PdR r (l++f) lo hi ↔ ∃m,PdR r l lo m/\PdR r f m hi
 |[],f,lo,hi=>⟨λh=>⟨lo,rfl,h⟩,λ⟨m,h,k⟩=>by cases h;exact k⟩
 |(s,n,p)::l,f,lo,hi=>by
  rw[Qr];constructor
  .rintro ⟨a,b,c,d⟩
   let⟨m,g,J4⟩:=PdR.app.mp d;exact⟨m,⟨a,b,c,g⟩,J4⟩
  .rintro ⟨m,⟨a,b,c,d⟩,e⟩
   exact⟨a,b,c,PdR.app.mpr ⟨m,d,e⟩⟩
def PdR.snoc{l:List (Nat×Nat×Nat)}{hi p:Nat}(h:PdR r l lo hi)(b:0<n)(a:Up r hi (hi+n)):PdR r (l++[(hi,n,p)]) lo (hi+n):=
 PdR.app.mpr ⟨hi,h,rfl,b,a,rfl⟩
def PdR.same:∀{l:List (Nat×Nat×Nat)} {lo hi:Nat},PdR r l lo hi->(∀j,lo<=j->j<hi->r' j=r j)->PdR r' l lo hi
 |[],_,_,h,_=>h
 |(s,n,p)::l,lo,hi,⟨a,b,c,d⟩,e=>by
  have:=d.le;refine⟨a,b,λi j h1 h2 f=>?_,d.same λj h1 h2=>e j (by lia) h2⟩
  rw[e i h1 (by lia),e j (by lia) (by lia)]
  exact c i j h1 h2 f
def PdR.join{l₁ l₂ : List (Nat×Nat×Nat)}{s p c a q hi:Nat}(h:PdR r (l₁ ++ (s,n,p)::(c,a,q)::l₂) lo hi)(b:∀j,(j<s\/s+n+a<=j)->r' j=r j)(f:Up r' s (s+n+a)):PdR r' (l₁ ++ (s,n+a,p)::l₂) lo hi:=by
 let⟨m,h1,h2,u,t,o,l,k,g⟩:=PdR.app.mp h;subst h2;have i:=h1.le;refine PdR.app.mpr ⟨s,h1.same λj _ d=>b j (.inl d),rfl,by lia,by rw[<-OD];exact f,?_⟩
 rw[<-OD];exact g.same λj e _=>b j (.inr e)
def PdR.pair{l₁ l₂ : List (Nat×Nat×Nat)}{s p b a q hi:Nat}(h:PdR r (l₁ ++ (s,n,p)::(b,a,q)::l₂) lo hi):b=s+n/\0<n/\0<a/\s+n+a<=hi/\Up r s (s+n)/\Up r (s+n) (s+n+a):=by
 let⟨m,h1,h2,i,g,f,e,d,c⟩:=PdR.app.mp h;subst h2;exact⟨f,i,e,c.le,g,d⟩
def za{l:List (Nat×Nat×Nat)}(h:i+1<l.length):∃x y,l[i]?=some x/\l[i+1]?=some y/\l=l.take i++x::y::l.drop (i+2)/\(l.set i (x.1,x.2.1+y.2.1,x.2.2)).eraseIdx (i+1)=l.take i++(x.1,x.2.1+y.2.1,x.2.2)::l.drop (i+2):=by
 have e:l=l.take i++l[i]::l[i+1]::l.drop (i+2):=by
  conv=>lhs;rw[<-WD i l,Vy (),Vy (by lia:i+1<l.length)]
 refine⟨l[i],l[i+1],Xp _,Xp h,e,?_⟩;have lt:(l.take i).length=i:=by rw[Vi];lia
 generalize l[i]=x at e ⊢;generalize l[i+1]=y at e ⊢;generalize l.take i=l₁ at e lt ⊢;generalize l.drop (i+2)=l₂ at e ⊢;subst e;subst lt;rw[Qf _ _ (G8 _),Nat.sub_self,List.set_cons_zero,List.eraseIdx_append_of_length_le (by lia),show l₁.length+1-l₁.length=1 by lia]
 rfl
end
section
variable{E:Value->Shared->Prop}
structure Yq(κ:SortKind)(ZO : Array Keyed)(rk:Keyed->Nat)(lo:Nat)(st:SortSt):Prop where
 sb:SB κ ZO st
 pr:PdR (IL rk (arrOf st)) (pendingOf st).toList 0 lo
def Yq.merge(r:AR prog w A E s κ ZO rk)(P:Yq κ ZO rk lo st)(x:lo<=ZO.size)(hi:i+1<(pendingOf st).size){Q:Bool->SortSt->Prop}
  (h:∀a,Yq κ ZO rk lo a->(∀j,lo<=j->IL rk (arrOf a) j=IL rk (arrOf st) j)->(pendingOf a).size+1=(pendingOf st).size->Q true a):wpS (model prog w) A E s (mergeAt' i) Q st:=by
 let⟨⟨d,na,p⟩,⟨sb,nb,q⟩,h1,h2,o,n⟩:=za (l:=(pendingOf st).toList) (i:=i) (by rw[YW];exact hi)
 have hp:=P.pr;rw[o]at hp;let⟨rfl,k,g,u,f,e⟩:=hp.pair;rw[Vl]at h1 h2;refine tM r P.sb h1 h2 k g (by lia) f e λa t ho m b=>?_
 have c:(pendingOf a).toList=(pendingOf st).toList.take i++(d,na+nb,p)::(pendingOf st).toList.drop (i+2):=by
  rw[b,<-n,Array.toList_eraseIdxIfInBounds,PL]
 refine h a ⟨t,?_⟩ (λj v=>ho j (.inr (by lia))) ?_
 .rw [c];exact hp.join ho m
 .have:=SO List.length c
  rw[YW,YB,Xb,Vi,VL,YW]at this;lia
end
section
variable{E:Value->Shared->Prop}
def PdR.len{r:Nat->Nat}:∀{l:List (Nat×Nat×Nat)} {lo hi:Nat},PdR r l lo hi->lo+l.length<=hi
 |[],_,_,h=>by cases h;exact G8 _
 |(s,n,p)::l,lo,hi,h=>by have:=h.2.2.2.len;have:=h.2.1;rw[Xb];lia
def PdR.modify{r:Nat->Nat}{f:Nat×Nat×Nat->Nat×Nat×Nat}(d:∀x,(f x).1=x.1/\(f x).2.1=x.2.1):∀{l:List (Nat×Nat×Nat)} {k lo hi:Nat},PdR r l lo hi->PdR r (l.modify k f) lo hi
 |[],k,_,_,h=>by cases k<;>exact h
 |(s,n,p)::l,0,lo,hi,h=>by
  have:=d (s,n,p);rw[List.modify_zero_cons];obtain⟨⟨a,b,c⟩,e⟩:∃y,f (s,n,p)=y:=⟨_,rfl⟩;rw[e]at this ⊢;let⟨rfl,rfl⟩:=this;exact h
 |(s,n,p)::l,k+1,lo,hi,h=>by
  rw[List.modify_succ_cons];exact⟨h.1,h.2.1,h.2.2.1,h.2.2.2.modify d⟩
def tK{Q:Unit->SortSt->Prop}(M:AR prog w A E s κ ZO rk)(B:SB κ ZO st)(hp:pendingOf st = #[])
  (h:∀d,SB κ ZO d->Up (IL rk (arrOf d)) 0 ZO.size->Q Unit.unit d):wpS (model prog w) A E s sortRuns' Q st:=by
 rw[sortRuns'_eq];refine YY (Py ?_);rw[B.size];extract_lets size W lo0;have P0:Yq κ ZO rk 0 st:=⟨B,by rw[hp];rfl⟩
 refine YY (TF (Ut (I:=λx c d => ∃ lo,c=(none,lo)/\Yq κ ZO rk lo d/\lo<=ZO.size/\(x<=lo\/lo=ZO.size))
  (Q:=λc d=>c=(none,ZO.size)/\Yq κ ZO rk ZO.size d) ?step ?fin ⟨0,rfl,P0,RN _,.inl (G8 _)⟩) ?post)
 case fin=>
  rintro c d ⟨lo,rfl,P,l1,l2⟩;have:max 0 size=ZO.size:=by show max 0 ZO.size=_;lia
  have:lo=ZO.size:=by lia
  subst this;exact⟨rfl,P⟩
 case step=>
  rintro x c d _ hx ⟨lo,rfl,P,l1,l2⟩
  dsimp -zeta only
  extract_lets lo' jp;by_cases hl:lo ≥ ZO.size
  .rw [Yn hl]
   have:lo=ZO.size:=by lia
   subst this;exact XR ⟨rfl,P⟩
  .rw [Yb hl]
   refine YY (rW (lo:=lo) M P.sb (by show 1<=ZO.size-lo;lia) (by show lo+(ZO.size-lo)<=_;lia) λm t L S YE Xv=>?_)
   have YE:m<=ZO.size-lo:=YE
   dsimp -zeta only
   extract_lets;have W_:∀ (u:PUnit) (n:Nat) (z:SortSt),1<=n->lo+n<=ZO.size->Yq κ ZO rk lo z->Up (IL rk (arrOf z)) lo (lo+n)->wpS (model prog w) A E s (jp u n) (λr d=>match r with
     |.done c'=>c'=(none,ZO.size)/\Yq κ ZO rk ZO.size d
     |.yield c'=>∃lo,c'=(none,lo)/\Yq κ ZO rk lo d/\lo<=ZO.size/\(x+1<=lo\/lo=ZO.size)) z:=by
    intro u n z n1 n2 H C;refine YY (Py ?_);extract_lets lo2 Uy;have V5:∀ (u:PUnit) (k:SortSt),Yq κ ZO rk lo k->Up (IL rk (arrOf k)) lo (lo+n)->wpS (model prog w) A E s (Uy u) (λr d=>match r with
      |.done c'=>c'=(none,ZO.size)/\Yq κ ZO rk ZO.size d
      |.yield c'=>∃lo,c'=(none,lo)/\Yq κ ZO rk lo d/\lo<=ZO.size/\(x+1<=lo\/lo=ZO.size)) k:=by
     intro u k o F;refine YY (RX (XR ⟨lo+n,rfl,⟨⟨o.sb.perm,o.sb.failed,o.sb.kind⟩,?_⟩,n2,by lia⟩))
     show PdR (IL rk (arrOf k)) ((pendingOf k).push (lo,n,0)).toList 0 (lo+n);rw[SQ];exact o.pr.snoc (by lia) F
    cases hb:(pendingOf z).back? with
    |none=>
     dsimp -zeta only
     exact TF (V5 Unit.unit z H C) λr d h=>by cases r<;>exact h
    |some v=>
     let⟨s1,n1',pv⟩:=v
     dsimp -zeta only
     extract_lets X;refine YY (TF (Ut (I:=λ_ c d=>c=(none,Unit.unit)/\Yq κ ZO rk lo d/\Up (IL rk (arrOf d)) lo (lo+n)) (Q:=λc d=>c=(none,Unit.unit)/\Yq κ ZO rk lo d/\Up (IL rk (arrOf d)) lo (lo+n)) ?_ (λ_ _ K=>K) ⟨rfl,H,C⟩) ?_)
     .rintro y c k _ _ ⟨rfl,o,F⟩
      refine YY (Py ?_);extract_lets p;split
      .rename_i f1 f2 N Z
       split
       .exact XR ⟨rfl,o,F⟩
       .have R:(pendingOf k).size-2+1<(pendingOf k).size:=by
         by_cases c1:(pendingOf k).size > 1
         .omega
         .rw [Yb c1]at Z;cases Z
        refine YY (o.merge M l1 R λWb P5 J _=>?_);refine XR ⟨rfl,P5,λi j h1 h2 h3=>?_⟩;rw[J i h1,J j (by lia)]
        exact F i j h1 h2 h3
      .exact XR ⟨rfl,o,F⟩
     .rintro c k ⟨rfl,o,F⟩
      refine YY (RX ?_);refine TF (V5 Unit.unit _ ⟨⟨o.sb.perm,o.sb.failed,o.sb.kind⟩,?_⟩ F) λr d h=>by cases r<;>exact h
      show PdR (IL rk (arrOf k)) ((pendingOf k).modify ((pendingOf k).size-1) λx=>(x.fst,x.2.fst,X)).toList 0 lo;rw[Array.toList_modify];exact PdR.modify (f:=λx=>(x.fst,x.2.fst,X)) (λ_=>⟨rfl,rfl⟩) o.pr
   have g:Yq κ ZO rk lo t:=⟨L.sb,by rw[L.pend];exact P.pr.same λj _ O=>by unfold IL;rw[L.out j (.inl O)]⟩
   by_cases Zb:m<W
   .rw [Yn Zb]
    refine YY (PJ (RP ⟨rfl,?_⟩));have U:m<=min (ZO.size-lo) W/\lo+min (ZO.size-lo) W<=ZO.size:=by omega
    refine YY (pz (lo:=lo) M L.sb U.2 U.1 Xv λz V C=>?_);have H:Yq κ ZO rk lo z:=⟨V.sb,by rw[V.pend];exact g.pr.same λj _ O=>by unfold IL;rw[V.out j (.inl O)]⟩
    exact TF (W_ Unit.unit _ z (by lia) U.2 H C) λr d h=>by cases r<;>exact h
   .rw [Yb Zb]
    exact TF (W_ Unit.unit m t S (by lia) g Xv) λr d h=>by cases r<;>exact h
 case post=>
  rintro c d ⟨rfl,P⟩;have hlen:=P.pr.len;rw[YW]at hlen;refine YY (TF (Ut (I:=λx c D=>c=(none,Unit.unit)/\Yq κ ZO rk ZO.size D/\(pendingOf D).size+x<=ZO.size\/c=(none,Unit.unit)/\Yq κ ZO rk ZO.size D/\(pendingOf D).size<=1) (Q:=λc D=>c=(none,Unit.unit)/\Yq κ ZO rk ZO.size D/\(pendingOf D).size<=1) ?_ ?_ (.inl ⟨rfl,P,by lia⟩)) ?_)
  .intro x c t _ hx K
   refine YY (Py ?_);by_cases h1:(pendingOf t).size<=1
   .rw [Yn h1]
    rcases K with⟨rfl,g,_⟩|⟨rfl,g,_⟩<;>exact XR ⟨rfl,g,h1⟩
   .rw [Yb h1]
    rcases K with⟨rfl,g,h2⟩|⟨rfl,g,h2⟩
    .extract_lets
     rename_i Y;have T:∀(c:Prop) [Decidable c] (a:Nat),(if c then a-1 else a)<=a:=λc _ a=>by split<;>lia
     have hi3:Y<=(pendingOf t).size-2:=T _ _;have hi:Y+1<(pendingOf t).size:=by omega
     refine YY (g.merge M (G8 _) hi λz H _ hz=>?_);exact XR (.inl ⟨rfl,H,by lia⟩)
    .omega
  .rintro c t (⟨rfl,g,h2⟩|⟨rfl,g,h2⟩)
   .have:max 0 size=ZO.size:=by show max 0 ZO.size=_;lia
    exact⟨rfl,g,by lia⟩
   .exact ⟨rfl,g,h2⟩
  .rintro c t ⟨rfl,g,h2⟩
   refine XR (h t g.sb ?_);have G:=g.pr;rw[<-YW]at h2;generalize(pendingOf t).toList=l at G h2
   match l,G,h2 with
   |[],G,_=>intro i j _ _ h3;have:0=ZO.size:=G;lia
   |[(a,n,p)],G,_=>
    let⟨_,_,q3,q4⟩:=G;have:0+n=ZO.size:=q4;rw[<-this];exact q3
end
open PySem PyProof.Rows PySem.W
def jO{f:α->β}{l g:List β}(h:l.Perm g):∀(D:List α),g=D.map f ->∃a:List α,a.Perm D/\l=a.map f:=by
 induction h with
 |nil=>intro D e;exact⟨[],by rw[List.map_eq_nil_iff.mp e.symm],rfl⟩
 |cons x _ ih=>
  intro D e;cases D with
  |nil=>cases e
  |cons d D=>
   cases e;let⟨a,p,q⟩:=ih D rfl;exact⟨d::a,p.cons d,by rw[q];rfl⟩
 |swap x y l=>
  intro D e;cases D with
  |nil=>cases e
  |cons d D=>
   cases D with
   |nil=>cases e
   |cons d' D=>cases e;exact⟨d'::d::D,.swap _ _ _,rfl⟩
 |trans _ _ c b=>
  intro D e;let⟨m,p2,i⟩:=b D e;let⟨n,k,j⟩:=c m i;exact⟨n,k.trans p2,j⟩
def refs(D:Y0):List Value:=D.map λd=>.ref d.2
def B0(D:Y0):Prop:=D.Pairwise λx y=>Ag y.1 x.1=false
section
variable{E:Value->Shared->Prop}{D:Y0}
def IsT.keep{k:List Int}{b:Addr}(x:IsT prog w h k b)(a:∀o,h.get? b=some o->h'.get? b=some o):IsT prog w h' k b:=
 let⟨o,ZU,n,f,e,d,c⟩:=x;⟨o,ZU,n,a o f,e,d,c⟩
def fF(D:Y0):(pairsOf (refs D)).toList=D.map λd=>((.ref d.2,.ref d.2):Keyed):=by
 rw[pairsOf_toList];unfold refs
 induction D with
 |nil=>rfl
 |cons d D ih=>rw[Y2,Rn,ih];rfl
def mJ:∀{D:Y0},(∀d∈D,IsT prog w s.heap d.1 d.2/\d.1≠[]) ->∃fs:List Value,KatTups s.heap (refs D) fs/\fs.length=D.length /\∀v∈fs,∃i t,v=.int i t
 |[],_=>⟨[],trivial,rfl,λv e=>by cases e⟩
 |d::D,h=>by
  let⟨fs,a,b,c⟩:=mJ (D:=D) λd g=>h d (G9 _ g);let⟨⟨o,ZU,n,m,k,j,f⟩,p⟩:=h d Wv;cases hk:d.1 with
  |nil=>exact absurd hk p
  |cons i r=>
   rw[hk]at f;generalize hl:ZU.toList=l at f;cases f with
   |cons h1 _=>
    let⟨t,rfl⟩:=Qg h1;refine⟨.int i t::fs,KatTups.cons m k j (by rw[<-Vl,hl];rfl) a,by rw[Xb,b,Xb],λv e=>?_⟩
    rcases Xq.mp e with rfl|e
    .exact ⟨i,t,rfl⟩
    .exact c v e
def qX(j:2<=D.length)(g:∀d∈D,IsT prog w s.heap d.1 d.2/\d.1≠[]){Q:SortKind->Shared->Prop}(h:Q (tuples' true) s):wpAny (model prog w) A (keyKind' (refs D).toArray) Q E s:=by
 let⟨fs,a,b,c⟩:=mJ g;refine kat_kind (T:=.type "int") a (by lia) (λv f=>?_) #[1] (by rw[show(Value.type "int" != Value.type "tuple")=true by decide];exact h)
 let⟨i,t,rfl⟩:=c v f;exactλA Q E s' _ q=>ZP q
def zz{b:SortSt}(k:∀d∈D,IsT prog w s.heap d.1 d.2)(B:SB κ (pairsOf (refs D)) b)(g:Up (IL (IM D) (arrOf b)) 0 (pairsOf (refs D)).size):
  ∃a:Y0,a.Perm D/\B0 a/\(arrOf b).map (·.2)=(refs a).toArray:=by
 have h:(arrOf b).toList.Perm (D.map λd=>((.ref d.2,.ref d.2):Keyed)):=by
  rw[<-fF];exact B.perm.toList
 let⟨a,p,e⟩:=jO h D rfl;have f:∀i (hi:i<a.length),(arrOf b)[i]?=some (.ref a[i].2,.ref a[i].2):=λi hi=>by
  rw[<-Vl,e,Wy,Xp hi];rfl
 refine⟨a,p,?_,?_⟩
 .refine S3.mpr λi j hi c l=>?_
  have m:(pairsOf (refs D)).size=a.length:=by rw[pairsOf_size];unfold refs;rw[Zd,p.length_eq]
  have:=g i j (RN _) (Rh l) (by lia)
  unfold IL at this;rw[f i hi,f j c]at this;have this:IM D (.ref a[i].2,.ref a[i].2)<=IM D (.ref a[j].2,.ref a[j].2):=this;rw[nY k (p.mem_iff.mp (TX c)) (p.mem_iff.mp (TX hi)) (.ref a[j].2) (.ref a[i].2)];exact Vu (Nat.not_lt.mpr this)
 .apply Q6.mp
  rw[Array.toList_map,e,TU]
  rfl
def pV{P:PySem.Fin->Shared->Prop}(M:A.units<cLine)(r:s.heap.get? a=some (seqObj "list" (refs D).toArray n))(F:∀d∈D,IsT prog w s.heap d.1 d.2/\d.1≠[])(N:D.length<100000)
  (h:∀g:Y0,g.Perm D->B0 g->P (.done (.ret .none)) {s with heap:=sortedHeap s.heap a (refs D) (refs g).toArray}) :
  wpAny (model prog w) A (Builtin.«list.sort» ⟨[.ref a],[]⟩) P E s:=by
 rw[list_sort_plain];have I:a<s.heap.objs.size:=G5 r;have f:(refs D).length=D.length:=by unfold refs;rw[Zd]
 refine ZB (listItems_at r rfl ?_);refine ZB (listUpdate_at r rfl ?_);obtain⟨G,K⟩:∃G,(s.heap.update a (Obj.mapSeq λ_=>#[])).get? a=some (seqObj "list" #[] G):=⟨_,get?_update_seq r (λ_=>#[])⟩;refine ZB (seqEpoch_at K rfl ?_);refine ZB (wpAny_newTuple ?_ (by rw[U9];show(refs D).toArray.toList.length<=_;rw[List.toList_toArray,f];lia))
 refine ZB (wpAny_newList ?_);refine V7 ?_;have u:(((s.heap.update a (Obj.mapSeq λ_=>#[])).push (seqObj "tuple" (refs D).toArray 0)).push (seqObj "list" #[] 0)).get? a=some (seqObj "list" #[] G):=by
  rw[Heap.get?_push_ne _ _ _ (by rw[size_push',Heap.size_update];exact Hb (RA I)),Heap.get?_push_ne _ _ _ (by rw[Heap.size_update];exact Hb I)]
  exact K
 show wpAny (model prog w) A _ P E {s with heap:=((s.heap.update a (Obj.mapSeq λ_=>#[])).push (seqObj "tuple" (refs D).toArray 0)).push (seqObj "list" #[] 0)}
 have k:∀d∈D,IsT prog w (((s.heap.update a (Obj.mapSeq λ_=>#[])).push (seqObj "tuple" (refs D).toArray 0)).push (seqObj "list" #[] 0)) d.1 d.2/\d.1≠[]:=λd j=>by
  refine⟨(F d j).1.keep λo e=>?_,(F d j).2⟩;have O:d.2≠a:=λq=>by
   let⟨o',ZU,c,H,B,V,U⟩:=(F d j).1;rw[q,r]at H;cases H;have B:Value.type "list" = Value.type "tuple":=B;exact absurd B #[1]
  exact G4 _ (G4 _ ((Ri _ _ (Ne.symm O)).trans e))
 generalize T:(((s.heap.update a (Obj.mapSeq λ_=>#[])).push (seqObj "tuple" (refs D).toArray 0)).push (seqObj "list" #[] 0))=y at u k ⊢;have t:∀g:Y0,g.Perm D->B0 g->P (.done (.ret .none)) {s with heap:=y.update a (Obj.mapSeq λ_=>(refs g).toArray)}:=λg p q=>by
  have:=h g p q;unfold sortedHeap at this;rw[T]at this;exact this
 dsimp only;have C:(refs D).toArray.size=D.length:=by rw[XA,f]
 rw[C];by_cases h2:D.length<2
 .rw [Yn h2,Yn h2]
  refine ZB (ZP ?_);rw[StateT.run_pure];refine ZB (ZP ?_);dsimp only;refine ZB (seqEpoch_at u rfl ?_);refine ZB (listUpdate_at u rfl ?_ (hsz2:=by rw[Array.size_map];show(pairsOf (refs D)).size<=_;rw[pairsOf_size,U9,f];lia))
  simp![bne_self_eq_false,Xh,Vn];have e:Array.map (λx=>x.2) ((refs D).toArray.zip (refs D).toArray)=(refs D).toArray:=by
   apply Q6.mp;show(Array.map (λx:Keyed=>x.2) (pairsOf (refs D))).toList=_;rw[Array.toList_map,fF,TU];rfl
  rw[show(arrOf (SortSt.mk' general' ((refs D).toArray.zip (refs D).toArray) #[] 7 none))=(refs D).toArray.zip (refs D).toArray from rfl,e];refine ZP (t D (.refl _) ?_)
  match D,h2 with
  |[],_=>exact .nil
  |[d],_=>exact Ob _ _
  |_::_::_,h2=>exact absurd h2 (by simp![Xb];lia)
 .rw [Yb h2,Yb h2]
  refine ZB (qX (s:={s with heap:=y}) (by lia) k ?_)
  have S:∀x∈pairsOf (refs D),∃d∈D,x=(.ref d.2,.ref d.2):=λx L=>by
   have:x∈(pairsOf (refs D)).toList:=Si.mpr L;rw[fF]at this;let⟨d,j,e⟩:=Wl.mp this;exact⟨d,j,e.symm⟩
  have W:(pairsOf (refs D)).size=D.length:=by rw[pairsOf_size,f]
  refine ZB (Q4 (tK (s:={ s with heap:=y }) (ZO := pairsOf (refs D)) (st:=SortSt.mk' (tuples' true) ((refs D).toArray.zip (refs D).toArray) #[] 7 none) (Q:=λ_ z=>SB (tuples' true) (pairsOf (refs D)) z/\Up (IL (IM D) (arrOf z)) 0 (pairsOf (refs D)).size)
   (acs M (λd j=>(k d j).1) S) ⟨Array.Perm.refl _,rfl,rfl⟩ rfl λz a b=>⟨a,b⟩) ?_ λ_ _ e=>e)
  rintro⟨⟨⟩,z⟩ s' ⟨rfl,J,R⟩;let⟨g,p,q,e⟩:=zz (s:={s with heap:=y}) (λd j=>(k d j).1) J R
  dsimp only;rw[e];refine ZB (seqEpoch_at u rfl ?_);refine ZB (listUpdate_at u rfl ?_ (hsz2:=by show(refs g).toArray.size<=_;unfold refs;rw[XA,Zd,p.length_eq,U9];lia))
  rw[J.failed];simp![bne_self_eq_false,Xh,Vn];exact ZP (t g p q)
end
section
variable{E:Value->Shared->Prop}{D:Y0}
def tY{r:Addr}{Q:Bool->Shared->Prop}(d:s.TypeIs (.ref r) "set")(h:Q false s):wpAny (model prog w) A (Builtin.List.listLengthHint (.ref r)) Q E s:=by
 unfold Builtin.List.listLengthHint;refine ZB (Qb d PySem.F.slot_set_len.lookup ?_);generalize a:("set.__len__" : String)=c
 wp_delta
 rw[show splitId c=some ("set","__len__")from by subst a;decide +kernel]
 subst a;refine ZB (Oa (T:="set") (b:=true) d (by rw[OA];kernel_rfl) ?_)
 refine wpAny_ite_split (λf=>absurd f #[1]) (λ_=>?_)
 refine wpAny_ite_split (λ_=>?_) (λf=>absurd (by decide +kernel) f)
 refine ZB (wpAny_typeOf d ?_);exact ZP h
def qf{it Z6:Addr}(a:SIt s.heap it Z6 slot i n ep)(h:Q (.ref it) s):wpAny (model prog w) A (pyIter (.ref it)) Q E s:=by
 refine P1 a.typeIs jI (U3 (b:=Builtin.«dict_keyiterator.__iter__») jI a.typeIs (entryFor_alias (id':="dict_keyiterator.__iter__") (by kernel_rfl) rfl (by decide +kernel) (by kernel_rfl)) ?_ (by unfold argsOk;kernel_rfl))
 show wpAny _ _ (ret (.ref it)) _ _ s;exact ZP ⟨_,rfl,"set_iterator",_,a.typeIs,bN.lookup,h⟩
def uE{o:Obj}{d:Array (Int×Value)}{t:SetTable}{Z:Z3}(r:A.handled=none){Z6 it:Addr}(C:Z6≠it)(P:Yt prog w o D d ep t Z):
  Walks prog w A it [it,Z6] [it] d.size (λi v=>∃e,(IK w Z6 ep d)[i]?=some e/\v=e.2) (λi h=>∃slot,SIt h it Z6 slot i d.size ep/\SAt w t slot i/\h.get? Z6=some o) where
 sub:=λb f=>by simp at f;simp[f]
 frame:=λi h h' ⟨slot,⟨io,B,z,y⟩,a,b⟩ hk=>⟨slot,⟨io,hk it #[3] io B,z,y⟩,a,hk Z6 #[3] o b⟩
 item:=λi s Q E hi ⟨slot,a,b,c⟩ j=>by
  have g:(IK w Z6 ep d).length=d.size:=by rw[(f9 w Z6 ep d).length_eq,YW]
  have k:(IK w Z6 ep d)[i]?=some (IK w Z6 ep d)[i]:=Xp ()
  refine s9 a c P b k λh' F a' b' sb=>?_;exact j _ h' s.toks ⟨_,k,rfl⟩ ⟨F,a',b',(sb.2 Z6 C).trans c⟩ λb o f e=>(sb.2 b λq=>f (by simp[q])).trans e
 done:=λs Q E ⟨slot,a,b,c⟩ j=>by
  have g:(IK w Z6 ep d).length=d.size:=by rw[(f9 w Z6 ep d).length_eq,YW]
  refine t7 r a c P b (Qd (by lia)) λh' u=>j h' s.toks λb o f e=>u b o (λq=>f (by simp[q])) e
 self:=λi s Q E ⟨slot,a,_,_⟩ j=>qf a j
def v3{o:Obj}{c:Array (Int×Value)}{t:SetTable}{Z:Z3}(P:Yt prog w o D c ep t Z)(Z6:Addr):
  KdlSrc prog w "set" Z6 Z6 c.size (λi v=>∃e,(IK w Z6 ep c)[i]?=some e/\v=e.2) (λh=>h.get? Z6=some o) where
 type:=λ_ a=>⟨o,a,P.ex.1⟩
 there:=λ_ a=>⟨G5 a,G5 a⟩
 keep:=λ_ _ a hk=>hk Z6 (.inl rfl) o a
 notList:=by decide
 notTuple:=by decide
 hint:=λ_ _ _ _ a b=>tY ⟨o,a,P.ex.1⟩ b
 iter:=λ_ s d a=>⟨_,_,(λ_ _ b=>tP a P b),uE d (Hb (G5 a)) P,⟨0,⟨_,Hc _ rfl,rfl,rfl⟩,λ_=>pH P.tb,G4 _ a⟩⟩
def sortedHeap_at{xs out:Array Value}{vs:List Value}(d:h.get? a=some (seqObj "list" xs n)):∃c,(sortedHeap h a vs out).get? a=some (seqObj "list" out c):=by
 have j:a<h.objs.size:=G5 d;obtain⟨f,g⟩:∃f,(h.update a (Obj.mapSeq λ_=>#[])).get? a=some (seqObj "list" #[] f):=⟨_,get?_update_seq d (λ_=>#[])⟩;unfold sortedHeap;exact⟨_,get?_update_seq (G4 _ (G4 _ g)) _⟩
def sortedHeap_old{b:Addr}{o:Obj}{out:Array Value}{vs:List Value}(c:b≠a)(e:h.get? b=some o):(sortedHeap h a vs out).get? b=some o:=by
 unfold sortedHeap;refine(Ri _ _ (Ne.symm c)).trans ?_;exact G4 _ (G4 _ ((Ri _ _ (Ne.symm c)).trans e))
def iP{T:String}{r d:Addr}{P:Nat->Value->Prop}{x:Heap->Prop}(K:KdlSrc prog w T r d n P x)(B:A.handled=none)(y:A.units+2<cLine)(G:x s.heap)(H:n<100000)
  (F:∀ vs:List Value,vs.length=n->(∀ (j:Nat) (v:Value),vs[j]? = some v->P j v) -> ∃ D:Y0,vs=refs D/\(∀ d∈D,IsT prog w s.heap d.1 d.2/\d.1≠[]) /\
   ∀(h1 h':Heap) (tk c:Nat) (a:Y0),a.Perm D->B0 a->(∀b o,s.heap.get? b=some o->h1.get? b=some o)->(∀b o,h1.get? b=some o->h'.get? b=some o)->h'.get? h1.objs.size=some (seqObj "list" (refs a).toArray c)->Q (.ref h1.objs.size) {s with heap:=h',toks:=tk}) :
  wpAny (model prog w) A (call (.builtin "sorted") [.ref r]) Q E s:=by
 refine Calls.call_function_entry kind_sorted plain_sorted entry_sorted (args_sorted1 _) ?_;unfold Builtin.«sorted»;refine ZB (m:=checkCount "sorted" 1 1 _) (ZP ?_);refine ZB (kdu_collect (A:=A.in1) K B G (by rw[U9];lia) λh' tk ZS hk u=>?_)
 have f:ZS.toList.length=n:=by rw[YW];exact u.1
 let⟨D,e,l,h⟩:=F ZS.toList f (λj v e=>u.2 j v (by rw[<-Vl];exact e))
 have z:D.length=n:=by rw[<-f,e];unfold refs;rw[Zd]
 refine ZB (wpAny_newList ?_ (by rw[f,U9];lia))
 rw[e];have i:(h'.push (seqObj "list" (refs D).toArray 0)).get? h'.objs.size=some (seqObj "list" (refs D).toArray 0):=Hc _ rfl;have g:∀d∈D,IsT prog w (h'.push (seqObj "list" (refs D).toArray 0)) d.1 d.2/\d.1≠[]:=λd k=>⟨(l d k).1.keep λo q=>G4 _ (hk _ _ q),(l d k).2⟩;show wpAny _ _ _ _ _ {s with heap:=h'.push (seqObj "list" (refs D).toArray 0),toks:=tk}
 refine ZB (V7 (U3 slot_list_sort ⟨_,i,rfl⟩ entry_list_sort (pV (s:={s with heap:=h'.push (seqObj "list" (refs D).toArray 0),toks:=tk}) y i g (by lia) λa p q=>⟨_,rfl,?_⟩) (args_list_sort _)))
 let⟨c,C⟩:=sortedHeap_at (vs:=refs D) (out:=(refs a).toArray) i;refine ZP ⟨_,rfl,h h' _ tk c a p q hk (λb o t=>?_) C⟩;exact sortedHeap_old (Hb (G5 t)) (G4 _ t)
end
open PySem
noncomputable section
set_option genInjectivity false in
inductive Z9 where
 |Z5 (xs:List U)|ZF (Z4:List (List Int×U))|Zq (Z4:List (List Int×U))|dst (Z4:List (Str×U))|ins (c:Nat) (fs:List (Nat×U))
abbrev G:=List Z9
abbrev Su:=List (Option U)
inductive Out(α:Type) where
 |ok (a:α) (g:G)|exc (c:Nat) (fs:List U) (g:G)|ZV
noncomputable def Out.bind{d b:Type}(o:Out d)(k:d->G->Out b):Out b:=match o with
 |.ok a g=>k a g
 |.exc c fs g=>.exc c fs g
 |.ZV=>.ZV
noncomputable def Out.YM{b:Type}(o:Out b):Out b:=match o with
 |.ok a g=>.ok a g
 |_=>.ZV
noncomputable def Out.bindB{c b:Type}(o:Out c)(k:c->G->Out b):Out b:=match o with
 |.ok a g=>k a g
 |_=>.ZV
set_option genInjectivity false in
inductive Fl where|nx (Y:Su)|rt (u:U)|bk (Y:Su)|ct (Y:Su)
set_option genInjectivity false in
inductive Iter where|Z5 (id:Nat)|ZF (id:Nat)|Xl (id:Nat)|zip (id id':Nat)|seq (xs:List U)|YG (lo:Int) (n:Nat)
def Ai(x y:U):Option Bool:=match x with
 |.ZK=>match y with
  |.ZK=>some true
  |.bl _=>some false
  |.int _=>some false
  |.str _=>some false
  |_=>none
 |.bl a=>match y with
  |.ZK=>some false
  |.bl b=>some (a==b)
  |.int b=>some ((if a then 1 else 0)==b)
  |.str _=>some false
  |_=>none
 |.int a=>match y with
  |.ZK=>some false
  |.bl b=>some (a==(if b then 1 else 0))
  |.int b=>some (a==b)
  |.str _=>some false
  |_=>none
 |.str a=>match y with
  |.ZK=>some false
  |.bl _=>some false
  |.int _=>some false
  |.str b=>some (a==b)
  |_=>none
 |_=>none
def Ap:List U->List U->Option Bool
 |[],[]=>some true
 |x::xs,y::ys=>match Ai x y with
  |none=>none
  |some b=>match Ap xs ys with
   |none=>none
   |some c=>some (b&&c)
 |_,_=>none
def IT:U->U->Option Bool
 |.ZW xs,.ZW ys=>Ap xs ys
 |x,y=>Ai x y
def Cy:U->U->Bool
 |.int _,.int _=>true
 |.bl _,.bl _=>true
 |.str _,.str _=>true
 |.ZK,.ZK=>true
 |_,_=>false
def BY:Int:=18446744073709551616
def Aj:Int:=115792089237316195423570985008687907853269984665640564039457584007913129639936
def IU(op:Op)(i j:Int):Option U:=match op with
 |.add=>some (.int (i+j))
 |.sub=>some (.int (i-j))
 |.mul=>if(decide (-BY<i)&&decide (i<BY))||(decide (-BY<j)&&decide (j<BY))||(decide (-Aj<i)&&decide (i<Aj)&&decide (-Aj<j)&&decide (j<Aj))then some (.int (i*j))else none
 |.fdiv=>if 0<j then(if j<Aj then some (.int (i / j))else none)
   else if j=0 then none else if -Aj<j then some (.int (i.fdiv j))else none
 |.mod=>if 0<j then some (.int (i % j))else if j=0 then none else some (.int (i.fmod j))
 |.pow=>if 0<=j/\j<=1000/\i.natAbs<1000000 then some (.int (i ^ j.toNat))else none
def IV(op:Op)(x y:U):Option U:=match x with
 |.int i=>match y with
  |.int j=>IU op i j
  |_=>none
 |_=>none
def IW:Op->U->U->Option U
 |.add,.int a,.int b=>some (.int (a+b))
 |.sub,.int a,.int b=>some (.int (a-b))
 |_,_,_=>none
def IX(x:U):List U->Option Bool
 |[]=>some false
 |y::ys=>match IT y x with
  |none=>none
  |some b=>match IX x ys with
   |none=>none
   |some c=>some (b||c)
noncomputable def items(u:U)(g:G):Option (List U):=match u with
 |.ZW xs=>some xs
 |.Zx xs=>some xs
 |.xn _ xs=>some xs
 |.ref n=>match g[n]? with
  |some (.Z5 xs)=>some xs
  |_=>none
 |_=>none
def AH:U->Bool
 |.ZK=>true
 |_=>false
def intsOf:List U->Option (List Int)
 |[]=>some []
 |.int i::r=>(intsOf r).map (i :: ·)
 |_::_=>none
def keyOf(u:U):Option (List Int):=match u with
 |.ZW S=>intsOf S
 |_=>none
def A6(b:List (List Int×U))(k:List Int):Option U:=(b.find? λa=>decide (a.1=k)).map (·.2)
def dput(b:List (List Int×U))(k:List Int)(v:U):List (List Int×U):=
 if(b.any λa=>decide (a.1=k))=true then b.map (λa=>if a.1=k then(a.1,v)else a)else b++[(k,v)]
def CB(a:List (List Int×U))(x:U):Option (List (List Int×U)):=match x with
 |.ZW [k,u]=>(keyOf k).map λks=>dput a ks u
 |_=>none
def dfold:List U->List (List Int×U)->Option (List (List Int×U))
 |[],Z4=>some Z4
 |x::r,Z4=>(CB Z4 x).bind λk=>dfold r k
def Cj(b:List (Str×U))(k:Str):Option U:=(b.find? λa=>decide (a.1=k)).map (·.2)
def Ej(b:List (Str×U))(k:Str)(v:U):List (Str×U):=
 if(b.any λa=>decide (a.1=k))=true then b.map (λa=>if a.1=k then(a.1,v)else a)else b++[(k,v)]
def IY(y:U)(g:G):Option (List (Str×U)):=match y with
 |.ref n=>match g[n]? with
  |some (.dst Z4)=>some Z4
  |_=>none
 |_=>none
noncomputable def Yp(y:U)(g:G):Option (List (List Int×U)):=match y with
 |.ref n=>match g[n]? with
  |some (.ZF Z4)=>some Z4
  |some (.Zq Z4)=>some Z4
  |_=>none
 |_=>none
def AY(x y:U)(g:G):Option (Option U):=match Yp y g with
 |some Z4=>(keyOf x).map (A6 Z4)
 |none=>none
def Bd(x y:U)(g:G):Option (List U×List U):=match x with
 |.ref n=>match y with
  |.ref m=>match g[n]? with
   |some (.Z5 xs)=>match g[m]? with
    |some (.Z5 ys)=>some (xs,ys)
    |_=>none
   |_=>none
  |_=>none
 |_=>none
def IZ(q:U->U->Option Bool):List U->List U->Option Bool
 |[],[]=>some true
 |x::xs,y::ys=>match q x y with
  |none=>none
  |some b=>match IZ q xs ys with
   |none=>none
   |some c=>some (b&&c)
 |_,_=>none
def CN:U->U->Option Bool
 |.ZW xs,.ZW ys=>IZ IT xs ys
 |x,y=>Ai x y
def I8(xs a:List U):Option Bool:=if xs.length=a.length then IZ CN xs a else some false
def I9(u:U):Option Int:=match u with
 |.int i=>some i
 |_=>none
def FK:List U->Option (List Int)
 |[]=>some []
 |u::r=>(I9 u).bind λi=>(FK r).map (i :: ·)
def GL(u:U)(g:G):Option (List Int):=match u with
 |.ref n=>match g[n]? with
  |some (.Z5 S)=>FK S
  |_=>none
 |_=>none
def FQ(g:G):List U->Option (List (List Int))
 |[]=>some []
 |u::r=>(GL u g).bind λi=>(FQ g r).map (i :: ·)
def FA(u:U)(g:G):Option (List (List Int)):=match u with
 |.ref n=>match g[n]? with
  |some (.Z5 S)=>FQ g S
  |_=>none
 |_=>none
def neT(x y:U):Option Bool:=match x with
 |.ZW xs=>match y with
  |.ZW ys=>(IZ IT xs ys).map (!·)
  |_=>none
 |_=>none
def Ja(k:List Int):Int:=reduceHash (Builtin.Tuple.tupleHashOf (k.map hashInt))
def A8:Int:=4238894112
def inD(x y:U)(g:G):Option Bool:=match x with
 |.ZK=>(Yp y g).bind λZ4=>open Classical in if∀k∈Z4.map (·.1),Ja k≠A8 then some false else none
 |x=>(AY x y g).map Option.isSome
def Jb(op:Cp)(x y:U)(g:G):Option Bool:=match op with
 |.eq=>match Bd x y g with
  |some p=>I8 p.1 p.2
  |none=>IT x y
 |.ne=>if Cy x y then(Ai x y).map (!·)else neT x y
 |.lt=>match x,y with|.int i,.int j=>some (decide (i<j))|_,_=>none
 |.le=>match x,y with|.int i,.int j=>some (decide (i<=j))|_,_=>none
 |.gt=>match x,y with|.int i,.int j=>some (decide (j<i))|_,_=>none
 |.ge=>match x,y with|.int i,.int j=>some (decide (j<=i))|_,_=>none
 |.UZ=>if AH y then some (AH x)else none
 |.UY=>if AH y then some (!AH x)else none
 |.Xn=>match items y g with|some ys=>IX x ys|none=>inD x y g
 |.VZ=>match items y g with|some ys=>(IX x ys).map (!·)|none=>(AY x y g).map λo=>!o.isSome
def Jc(u:U)(g:G):Option Bool:=match u with
 |.ZK=>some false
 |.bl b=>some b
 |.int i=>some (i != 0)
 |.ZW xs=>some (!xs.isEmpty)
 |.Zx xs=>some (!xs.isEmpty)
 |.ref n=>match g[n]? with
  |some (.Z5 xs)=>some (!xs.isEmpty)
  |_=>none
 |_=>none
def Jd(xs:List U)(i:Int):Option U:=L2.atI xs i
noncomputable def lift{b:Type}(o:Option b)(g:G):Out b:=match o with
 |some a=>.ok a g
 |none=>.ZV
noncomputable def alloc(o:Z9)(g:G):Out U:=.ok (.ref g.length) (g++[o])
def Ac:Nat:=16777000
def Br(op:Op)(x y:U)(g:G):Out U:=match Bd x y g with
 |some p=>match op with
  |.add=>if p.1.length+p.2.length<=Ac then alloc (.Z5 (p.1++p.2)) g else .ZV
  |_=>.ZV
 |none=>lift (IV op x y) g
def AK(x:U)(g:G):Option (Nat×List (Nat×U)):=match x with
 |.ref n=>match g[n]? with
  |some (.ins c fs)=>some (c,fs)
  |_=>none
 |_=>none
def CL(j:Nat)(u:U):List (Nat×U)->List (Nat×U)
 |[]=>[(j,u)]
 |(i,x)::r=>if i=j then(i,u)::r else(i,x)::CL j u r
def Cd(j:Nat)(a:List Nat)(p:Nat×List (Nat×U)):Option U:=if a.contains p.1 then p.2.lookup j else none
def Bw(x:U)(j:Nat)(a:List Nat)(u:U)(g:G):Option G:=match x with
 |.ref n=>match g[n]? with
  |some (.ins c fs)=>if a.contains c/\fs.length<1000 then some (g.set n (.ins c (CL j u fs)))else none
  |_=>none
 |_=>none
def BS(j:Nat)(a:List (Nat×Nat×List (Nat ⊕ U)))(p:Nat×List (Nat×U)):Option (Nat×List (Nat ⊕ U)):=match p.2.lookup j with
 |none=>a.lookup p.1
 |some _=>none
def FE(t:Ty):Option Bool:=match t with|.Sq=>some true|_=>some false
def F4(t:Ty)(u:U)(g:G):Option Bool:=match u with
 |.ZK=>some false
 |.bl _=>match t with|.S2=>some true|.Ss=>some true|.own _=>none|_=>some false
 |.int _=>match t with|.S2=>some true|.own _=>none|_=>some false
 |.str _=>match t with|.tstr=>some true|.own _=>none|_=>some false
 |.ZW _=>match t with|.Sr=>some true|.own _=>none|_=>some false
 |.ref n=>match g[n]? with
  |some (.Z5 _)=>FE t
  |some (.ins c _)=>match t with|.own c'=>if c=c' then some true else none|_=>none
  |_=>none
 |_=>none
def Bh(xs:List U)(lo hi:Option Int):List U:=(xs.drop (HT.sIx xs.length 0 lo)).take (HT.sIx xs.length xs.length hi-HT.sIx xs.length 0 lo)
def best(m:Bool)(a:Int)(r:List Int):Int:=r.foldl (λx y=>if m then(if y<x then y else x)else(if y > x then y else x)) a
def insI(a:Int):List Int->List Int
 |[]=>[a]
 |b::r=>if a<=b then a::b::r else b::insI a r
def sortI:List Int->List Int
 |[]=>[]
 |a::r=>insI a (sortI r)
def DM(S:List U)(g:G):Out U:=match S with
 |[u]=>match items u g with
  |some xs=>.ok (.int xs.length) g
  |none=>.ZV
 |_=>.ZV
def FR(S:List U)(g:G):Out U:=match S with
 |[u]=>match u with
  |.int i=>.ok (.int (if i<0 then -i else i)) g
  |_=>.ZV
 |_=>.ZV
def tupI(k:List Int):U:=.ZW (k.map .int)
def C7(S:List U)(g:G):Out U:=match S with
 |[u]=>match items u g with
  |some xs=>alloc (.Z5 xs) g
  |none=>.ZV
 |_=>.ZV
def A9(S:List U)(g:G):Option (List Int):=match S with
 |[.ref n]=>match g[n]? with
  |some (.Z5 xs)=>intsOf xs
  |_=>none
 |_=>none
def Ce(m:Bool)(S:List U)(g:G):Out U:=match intsOf S with
 |some ns=>match ns with
  |[a,b]=>.ok (.int (best m a [b])) g
  |[a,b,c]=>.ok (.int (best m a [b,c])) g
  |_=>.ZV
 |none=>match A9 S g with
  |some ns=>match ns with
   |a::r=>.ok (.int (best m a r)) g
   |[]=>.ZV
  |none=>.ZV
def G2(S:List U)(g:G):Out U:=match A9 S g with
 |some ns=>.ok (.int ns.sum) g
 |none=>.ZV
def GU(S:List U)(g:G):Out U:=match S with
 |[u]=>match u with
  |.ZW xs=>.ok (.ZW xs) g
  |.xn c xs=>.ok (.xn c xs) g
  |.ref n=>match g[n]? with
   |some (.Z5 xs)=>.ok (.ZW xs) g
   |_=>.ZV
  |_=>.ZV
 |_=>.ZV
def FG(g:G):List U->Option (List U)
 |[]=>some []
 |.ref n::r=>match g[n]? with
  |some (.Z5 xs)=>(FG g r).map (xs ++ ·)
  |_=>none
 |_::_=>none
def GQ(S:List U)(g:G):Out U:=match S with
 |[.ref n,.ref m]=>match g[n]? with
  |some (.Z5 (x::xs))=>match g[m]? with
   |some (.Z5 [])=>match FG g (x::xs)with
    |some zs=>if zs.length<=Ac then alloc (.Z5 zs) g else .ZV
    |none=>.ZV
   |_=>.ZV
  |_=>.ZV
 |_=>.ZV
def BH:List U->Option (List (List Int))
 |[]=>some []
 |u::r=>match keyOf u with
  |none=>none
  |some k=>match BH r with
   |none=>none
   |some ks=>some (k::ks)
def A5(a:List Int):List (List Int)->List (List Int)
 |[]=>[a]
 |b::r=>if a=b then b::r else if Ag a b=true then a::b::r else b::A5 a r
def Je:List (List Int)->List (List Int)
 |[]=>[]
 |a::r=>A5 a (Je r)
def Jf(ks:List (List Int)):Prop:=ks.length<=300/\(∀k∈ks,k≠[]) /\∀a∈ks,∀b∈ks,Ja a=Ja b->a=b
def Cu(S:List U)(g:G):Out U:=match S with
 |[.ref n]=>match g[n]? with
  |some (.Z5 xs)=>match BH xs with
   |some ks=>open Classical in if Jf ks then alloc (.Z5 ((Je ks).map tupI)) g else .ZV
   |none=>.ZV
  |_=>.ZV
 |_=>.ZV
def DF(S:List U)(g:G):Out U:=match S with
 |[u]=>match Yp u g with
  |some Z4=>open Classical in if Z4.length<100000/\(Z4.map (·.1)).Nodup /\∀k∈Z4.map (·.1),k≠[]then alloc (.Z5 ((Je (Z4.map (·.1))).map tupI)) g else .ZV
  |none=>.ZV
 |_=>.ZV
def Dp(S:List U)(g:G):Out U:=match A9 S g with
 |some ns=>if ns.length<64 then alloc (.Z5 ((sortI ns).map U.int)) g else .ZV
 |none=>DF S g
def G3(S:List U)(g:G):Out U:=match S with
 |[u]=>match Yp u g with
  |some Z4=>open Classical in if Z4≠[] /\∀a∈Z4.map (·.1),∀b∈Z4.map (·.1),Ja a=Ja b->a=b then alloc (.ZF Z4) g else .ZV
  |none=>.ZV
 |_=>.ZV
def Ck(d:List (List Int)):PySem.PyData:=.list (d.map λr=>.list (r.map .int))
def GP(S:List U)(g:G):Out U:=match S with
 |[u]=>match FA u g with
  |some d=>open Classical in if(Ck d).showable=true/\(Ck d).shown.length<=PySem.sizeLine then .ok (.str (Ck d).shown) g else .ZV
  |none=>.ZV
 |_=>.ZV
def GY(S:List U)(g:G):Out U:=match S with
 |[u]=>match u with
  |.bl b=>.ok (.int (if b then 1 else 0)) g
  |_=>.ZV
 |_=>.ZV
def Jg(b:Bi)(S:List U)(g:G):Out U:=match b with
 |.len=>DM S g
 |.abs=>FR S g
 |.list=>C7 S g
 |.mn=>Ce true S g
 |.mx=>Ce false S g
 |.Wk=>Dp S g
 |.sum=>G2 S g
 |.tupl=>GU S g
 |.cat=>GQ S g
 |.sset=>Cu S g
 |.dct=>G3 S g
 |.rpr=>GP S g
 |.int=>GY S g
def Jh(x:U)(g:G):Option Nat:=match x with
 |.ref n=>match g[n]? with
  |some (.Z5 _)=>some n
  |_=>none
 |_=>none
def Bo(n:Nat)(y:U)(g:G):Out U:=match g[n]? with
 |some (.Z5 xs)=>if xs.length<Ac then .ok .ZK (g.set n (.Z5 (xs++[y])))else .ZV
 |_=>.ZV
def BE(n:Nat)(y:U)(g:G):Out U:=match Jh y g with
 |some m=>match g[n]?,g[m]? with
  |some (.Z5 xs),some (.Z5 ys)=>if xs.length+ys.length<Ac then .ok .ZK (g.set n (.Z5 (xs++ys)))else .ZV
  |_,_=>.ZV
 |none=>.ZV
def FX(c:Bool)(n:Nat)(g:G):Out U:=match g[n]? with
 |some (.Z5 xs)=>.ok .ZK (g.set n (.Z5 (match c with|true=>[]|false=>xs.reverse)))
 |_=>.ZV
def BI(n:Nat)(g:G):Out U:=match g[n]? with
 |some (.Z5 xs)=>match xs[xs.length-1]? with
  |some y=>.ok y (g.set n (.Z5 xs.dropLast))
  |none=>.ZV
 |_=>.ZV
def BQ(n:Nat)(y:U)(g:G):Out U:=match y with
 |.int i=>match g[n]? with
  |some (.Z5 xs)=>if 0<=i/\i<9223372036854775808 then match xs[i.toNat]? with
   |some u=>.ok u (g.set n (.Z5 (xs.eraseIdx i.toNat)))
   |none=>.ZV
   else .ZV
  |_=>.ZV
 |_=>.ZV
def Ji(f:E->Su->G->Out U):List E->Su->G->Out (List U)
 |[],_,g=>.ok [] g
 |e::es,Y,g=>(f e Y g).bind λu g=>(Ji f es Y g).bind λS g=>.ok (u::S) g
def Jj(f:E->Su->G->Out U):Option E->Su->G->Out (Option Int)
 |none,_,g=>.ok none g
 |some e,Y,g=>(f e Y g).bind λu g=>match u with
  |.int i=>.ok (some i) g
  |_=>.ZV
def next(it:Iter)(i:Nat)(g:G):Option (Option U):=match it with
 |.Z5 id=>match g[id]? with
  |some (.Z5 xs)=>some xs[i]?
  |_=>none
 |.ZF id=>match g[id]? with
  |some (.Zq Z4)=>some ((Z4[i]?).map λa=>.ZW (a.1.map .int))
  |_=>none
 |.Xl id=>match g[id]? with
  |some (.Z5 xs)=>some ((xs[i]?).map λu=>.ZW [.int i,u])
  |_=>none
 |.zip id id'=>match g[id]? with
  |some (.Z5 xs)=>match g[id']? with
   |some (.Z5 ys)=>some ((xs[i]?).bind λu=>(ys[i]?).map λw=>.ZW [u,w])
   |_=>none
  |_=>none
 |.seq xs=>some xs[i]?
 |.YG lo n=>some (if i<n then some (.int (lo+i))else none)
def bindL:List Nat->List U->Su->Option Su
 |[],[],Y=>some Y
 |i::is,u::S,Y=>if i<Y.length then bindL is S (Y.set i (some u))else none
 |_,_,_=>none
def AX(t:Tg)(Y:Su):Bool:=match t with
 |.nm i=>match Y[i]? with|some none=>true|_=>false
 |.tp is=>is.all λi=>match Y[i]? with|some none=>true|_=>false
def Ad(t:Tg)(u:U)(Y:Su):Option Su:=match t with
 |.nm i=>if i<Y.length then some (Y.set i (some u))else none
 |.tp is=>match u with
  |.ZW S=>bindL is S Y
  |_=>none
def Jk(t:Tg)(u:U)(g:G):U:=match t with
 |.nm _=>u
 |.tp _=>match u with
  |.ref n=>match g[n]? with
   |some (.Z5 xs)=>.ZW xs
   |_=>u
  |_=>u
def pick(S:List U)(p:Nat ⊕ U):U:=match p with
 |.inl i=>S[i]?.getD .ZK
 |.inr u=>u
def perm(S:List U)(a:List (Nat ⊕ U)):List U:=a.map (pick S)
set_option genInjectivity false in
structure Z7 where
 ev:E->Su->G->Out U
 ts:E->Su->G->Out Bool
 ex:List Z6->Su->G->Out Fl
 wh:E->List Z6->Su->G->Out Fl
 fr:Tg->Iter->Nat->List Z6->Su->G->Out Fl
 cm:Iter->Nat->Tg->List E->List (Tg×E×List E)->E->List U->Su->G->Out (List U)
def Jl(r:Z7)(e:E)(Y:Su)(g:G):Out Iter:=match e with
 |.X1 a=>(r.ev a Y g).bind λu g=>match u with
  |.int j=>if -1000000<j/\j<1000000 then .ok (.YG 0 j.toNat) g else .ZV
  |_=>.ZV
 |.Xm a b=>(r.ev a Y g).bind λu g=>(r.ev b Y g).bind λw g=>match u,w with
  |.int i,.int j=>if -1000000<i/\i<1000000 /\ -1000000<j/\j<1000000 then .ok (.YG i (j-i).toNat) g else .ZV
  |_,_=>.ZV
 |.Xl a=>(r.ev a Y g).bind λu g=>match Jh u g with
  |some n=>.ok (.Xl n) g
  |none=>.ZV
 |.zip a b=>(r.ev a Y g).bind λu g=>(r.ev b Y g).bind λw g=>match Jh u g with
  |some n=>match Jh w g with
   |some m=>.ok (.zip n m) g
   |none=>.ZV
  |none=>.ZV
 |e=>(r.ev e Y g).bind λu g=>match u with
  |.ZW xs=>.ok (.seq xs) g
  |.xn _ xs=>.ok (.seq xs) g
  |.ref n=>match g[n]? with
   |some (.Z5 _)=>.ok (.Z5 n) g
   |some (.ZF Z4)=>.ok (.ZF n) (g.set n (.Zq Z4))
   |some (.Zq _)=>.ok (.ZF n) g
   |_=>.ZV
  |_=>.ZV
def Jm(c:Nat)(y:U)(g:G):Bool:=match y with
 |.ZK=>true
 |.ref m=>match g[m]? with
  |some (.Z5 _)=>true
  |some (.ins c' _)=>c'==c
  |_=>false
 |_=>false
def DW(u:U):Option Bool:=match u with
 |.bl c=>some c
 |_=>none
def Ci(a:List (Nat×Nat×List (Nat ⊕ U)))(x y:U)(g:G):Option (Nat×List (Nat ⊕ U)):=(AK x g).bind λp=>if Jm p.1 y g then a.lookup p.1 else none
def Jn(y:U)(g:G):Option U:=match y with
 |.ref n=>match g[n]? with
  |some (.Z5 xs)=>match xs with
   |[w]=>some w
   |_=>none
  |_=>none
 |_=>none
def GG(x y:U):Bool:=match x with
 |.ref n=>match y with
  |.ref m=>n==m
  |_=>true
 |_=>true
def B6(C:Nat->List U->G->Out U)(op:Cp)(a:List (Nat×Nat×List (Nat ⊕ U)))(x y:U)(g:G):Out U:=match op with
 |.eq=>match Ci a x y g with
  |some p=>(C p.1 (perm [x,y] p.2) g).bind λu g=>lift ((DW u).map .bl) g
  |none=>.ZV
 |.ne=>match Ci a x y g with
  |some p=>(C p.1 (perm [x,y] p.2) g).bind λu g=>lift ((DW u).map λc=>.bl (!c)) g
  |none=>.ZV
 |.Xn=>match Jn y g with
  |some w=>if(AK x g).isSome&&!GG w x then match Ci a w x g with
   |some p=>(C p.1 (perm [w,x] p.2) g).bind λu g=>match DW u with
    |some true=>.ok (.bl true) g
    |_=>.ZV
   |none=>.ZV
   else .ZV
  |none=>.ZV
 |_=>.ZV
def Jo(C:Nat->List U->G->Out U)(r:Z7)(e:E)(Y:Su)(g:G):Out U:=match e with
 |.L i=>match Y[i]? with
  |some (some u)=>.ok u g
  |_=>.ZV
 |.ZZ u=>.ok u g
 |.ZT op a b=>(r.ev a Y g).bind λx g=>(r.ev b Y g).bind λy g=>Br op x y g
 |.cmp op a b=>(r.ev a Y g).bind λx g=>(r.ev b Y g).bind λy g=>match Jb op x y g with
  |some c=>.ok (.bl c) g
  |none=>.ZV
 |.chain op m a b c=>(r.ev a Y g).bind λx g=>(r.ev b Y g).bind λy g=>match Jb op x y g with
  |some true=>(r.ev c Y g).bind λz g=>match Jb m y z g with
   |some c=>.ok (.bl c) g
   |none=>.ZV
  |some false=>.ok (.bl false) g
  |none=>.ZV
 |.and a b=>(r.ev a Y g).bind λx g=>match x with
  |.bl true=>r.ev b Y g
  |.bl false=>.ok (.bl false) g
  |_=>.ZV
 |.or a b=>(r.ev a Y g).bind λx g=>match x with
  |.bl true=>.ok (.bl true) g
  |.bl false=>r.ev b Y g
  |_=>.ZV
 |.not a=>(r.ev a Y g).bind λx g=>match Jc x g with
  |some c=>.ok (.bl (!c)) g
  |none=>.ZV
 |.neg a=>(r.ev a Y g).bind λx g=>match x with
  |.int i=>.ok (.int (-i)) g
  |_=>.ZV
 |.ite c a b=>(r.ts c Y g).bind λk g=>if k then r.ev a Y g else r.ev b Y g
 |.ZW es=>(Ji r.ev es Y g).bind λS g=>if S.length<=Ac then .ok (.ZW S) g else .ZV
 |.Z5 es=>(Ji r.ev es Y g).bind λS g=>if S.length<=Ac then alloc (.Z5 S) g else .ZV
 |.idx a b=>(r.ev a Y g).bind λx g=>(r.ev b Y g).bind λy g=>match y with
  |.int i=>match items x g with
   |some xs=>lift (Jd xs i) g
   |none=>.ZV
  |.ZW _=>lift ((AY y x g).bind id) g
  |.str k=>lift ((IY x g).bind λZ4=>Cj Z4 k) g
  |_=>.ZV
 |.Wj a lo hi=>(r.ev a Y g).bind λx g=>(Jj r.ev lo Y g).bind λl g=>(Jj r.ev hi Y g).bind λh g=>match x with
  |.ZW xs=>if HT.sIx xs.length 0 l=0/\HT.sIx xs.length xs.length h=xs.length then .ZV else .ok (.ZW (Bh xs l h)) g
  |.Zx xs=>alloc (.Z5 (Bh xs l h)) g
  |.ref n=>match g[n]? with
   |some (.Z5 xs)=>alloc (.Z5 (Bh xs l h)) g
   |_=>.ZV
  |_=>.ZV
 |.rev a=>(r.ev a Y g).bind λx g=>match x with
  |.ref n=>match g[n]? with
   |some (.Z5 xs)=>alloc (.Z5 xs.reverse) g
   |_=>.ZV
  |_=>.ZV
 |.call f es=>(Ji r.ev es Y g).YM.bind λS g=>C f S g
 |.UX f es ks pm=>(Ji r.ev es Y g).YM.bind λS g=>(Ji r.ev ks Y g).YM.bind λws g=>if S.length=es.length/\ws.length=ks.length then C f (perm (S++ws) pm) g else .ZV
 |.fld a j cs=>(r.ev a Y g).bind λx g=>lift ((AK x g).bind (Cd j cs)) g
 |.make c f es ks pm=>(Ji r.ev es Y g).YM.bind λS g=>(Ji r.ev ks Y g).YM.bind λws g=>if S.length=es.length/\ws.length=ks.length then
   (C f (perm (.ref g.length::S++ws) pm) (g++[.ins c []])).bind λu g'=>if AH u then .ok (.ref g.length) g' else .ZV else .ZV
 |.XG a j tb es ks=>(r.ev a Y g).YM.bind λx g=>match(AK x g).bind (BS j tb)with
  |some p=>(Ji r.ev es Y g).YM.bind λS g=>(Ji r.ev ks Y g).YM.bind λws g=>if S.length=es.length/\ws.length=ks.length then C p.1 (perm (x::S++ws) p.2) g else .ZV
  |none=>.ZV
 |.S1 c o=>(r.ev o Y g).bind λx g=>match Jh x g with
  |some n=>FX c n g
  |none=>.ZV
 |.bi b es=>(Ji r.ev es Y g).bind λS g=>Jg b S g
 |.isi a t=>(r.ev a Y g).bind λx g=>match F4 t x g with
  |some c=>.ok (.bl c) g
  |none=>.ZV
 |.VY o v=>(r.ev o Y g).bind λx g=>match Jh x g with
  |some n=>(r.ev v Y g).bind λy g=>BQ n y g
  |none=>.ZV
 |.app o v=>(r.ev o Y g).bind λx g=>match Jh x g with
  |some n=>(r.ev v Y g).bind λy g=>Bo n y g
  |none=>.ZV
 |.ext o v=>(r.ev o Y g).bind λx g=>match Jh x g with
  |some n=>(r.ev v Y g).bind λy g=>BE n y g
  |none=>.ZV
 |.pop o=>(r.ev o Y g).bind λx g=>match Jh x g with
  |some n=>BI n g
  |none=>.ZV
 |.X1 _=>.ZV
 |.Xm _ _=>.ZV
 |.Xl _=>.ZV
 |.oeq op tb a b=>(r.ev a Y g).bind λx g=>(r.ev b Y g).bind λy g=>B6 C op tb x y g
 |.zip _ _=>.ZV
 |.Wi=>alloc (.ZF []) g
 |.comp own fr gs elt=>match gs with
  |[]=>.ZV
  |(t,it,cs)::ZQ=>(Jl r it Y g).bind λi g=>
    (r.cm i 0 t cs ZQ elt [] (List.replicate own none++fr.map λj=>(Y[j]?).getD none) g).bindB λS g=>
     if S.length<=Ac then alloc (.Z5 S) g else .ZV
 |.S0 ks es=>(Ji r.ev es Y g).bind λS g=>alloc (.dst (ks.zip S)) g
 |.dgt o k x=>(r.ev o Y g).bind λd g=>match Yp d g with
  |some _=>(r.ev k Y g).bind λy g=>(r.ev x Y g).bind λz g=>match AY y d g with
   |some w=>.ok (w.getD z) g
   |none=>.ZV
  |none=>.ZV
 |.pair k v=>(r.ev k Y g).bind λx g=>(r.ev v Y g).bind λy g=>match keyOf x with
  |some _=>.ok (.ZW [x,y]) g
  |none=>.ZV
 |.Wh own fr gs k v=>match gs with
  |[]=>.ZV
  |(t,it,cs)::ZQ=>(Jl r it Y g).bind λi g=>
    (r.cm i 0 t cs ZQ (.pair k v) [] (List.replicate own none++fr.map λj=>(Y[j]?).getD none) g).bindB λS g=>match dfold S []with
     |some Z4=>alloc (.ZF Z4) g
     |none=>.ZV
def Jp(r:Z7)(e:E)(Y:Su)(g:G):Out Bool:=match e with
 |.and a b=>(r.ts a Y g).bind λc g=>if c then r.ts b Y g else .ok false g
 |.or a b=>(r.ts a Y g).bind λc g=>if c then .ok true g else r.ts b Y g
 |.not a=>(r.ts a Y g).bind λc g=>.ok (!c) g
 |.ite c a b=>(r.ts c Y g).bind λk g=>if k then r.ts a Y g else r.ts b Y g
 |e=>(r.ev e Y g).bind λx g=>lift (Jc x g) g
def Ed(n:Nat)(k:Int)(u:U)(Y:Su)(g:G):Out Fl:=match g[n]? with
 |some (.Z5 xs)=>match L2.ixN xs.length k with
  |some j=>.ok (.nx Y) (g.set n (.Z5 (xs.set j u)))
  |none=>.ZV
 |_=>.ZV
def Er(n:Nat)(S:List U)(u:U)(Y:Su)(g:G):Out Fl:=match g[n]? with
 |some (.ZF Z4)=>match intsOf S with
  |some k=>if Z4.length<Ac then .ok (.nx Y) (g.set n (.ZF (dput Z4 k u)))else .ZV
  |none=>.ZV
 |_=>.ZV
def Gm(n:Nat)(k:Str)(u:U)(Y:Su)(g:G):Out Fl:=match g[n]? with
 |some (.dst Z4)=>if Z4.length<Ac then .ok (.nx Y) (g.set n (.dst (Ej Z4 k u)))else .ZV
 |_=>.ZV
def GK(a:List (List Int×U))(k:List Int):List (List Int×U):=a.filter λx=>!decide (x.1=k)
def GI(x y:U)(Y:Su)(g:G):Out Fl:=match x with
 |.ref n=>match g[n]? with
  |some (.ZF Z4)=>match keyOf y with
   |some k=>if k∈Z4.map (·.1)then .ok (.nx Y) (g.set n (.ZF (GK Z4 k)))else .ZV
   |none=>.ZV
  |_=>.ZV
 |_=>.ZV
def subAt(x y u:U)(Y:Su)(g:G):Out Fl:=match x with
 |.ref n=>match y with
  |.int k=>Ed n k u Y g
  |.ZW S=>Er n S u Y g
  |.str k=>Gm n k u Y g
  |_=>.ZV
 |_=>.ZV
def Jq(a:List U):List (Option U)->Option (List U)
 |[]=>some []
 |some u::r=>(Jq a r).map (u :: ·)
 |none::r=>match a with
  |[v]=>(Jq a r).map (v :: ·)
  |_=>none
def Eh(o:Out U)(j c:Nat)(xs:List (Option U))(Y:Su):Out Fl:=match o with
 |.ok u g=>if j<Y.length then .ok (.nx (Y.set j (some u))) g else .ZV
 |.exc c' fs g=>if c'=c/\j<Y.length/\xs.length<=Ac/\fs.length=1 then match Jq fs xs with
  |some S=>.ok (.nx ((List.replicate Y.length none).set j (some (.ZW S)))) g
  |none=>.ZV
  else .ZV
 |.ZV=>.ZV
def Jr(r:Z7)(s:Z6)(Y:Su)(g:G):Out Fl:=match s with
 |.ret e=>(r.ev e Y g).bind λu g=>.ok (.rt u) g
 |.retN=>.ok (.rt .ZK) g
 |.set t e=>(r.ev e Y g).bind λu g=>match Ad t (Jk t u g) Y with
   |some ZR=>.ok (.nx ZR) g
   |none=>.ZV
 |.par i j a b=>(r.ev a Y g).bind λu g=>(r.ev b Y g).bind λw g=>
    if i<Y.length/\j<Y.length then .ok (.nx ((Y.set i (some u)).set j (some w))) g else .ZV
 |.del o i=>(r.ev o Y g).bind λx g=>(r.ev i Y g).bind λy g=>GI x y Y g
 |.sub o i e=>(r.ev e Y g).bind λu g=>(r.ev o Y g).bind λx g=>(r.ev i Y g).bind λy g=>subAt x y u Y g
 |.aug i op e=>match Y[i]? with
   |some (some x)=>(r.ev e Y g).bind λy g=>match IW op x y with
    |some z=>.ok (.nx (Y.set i (some z))) g
    |none=>.ZV
   |_=>.ZV
 |.exp e=>(r.ev e Y g).bind λ_ g=>.ok (.nx Y) g
 |.Zp c a b=>(r.ts c Y g).bind λk g=>if k then r.ex a Y g else r.ex b Y g
 |.Vr c b=>r.wh c b Y g
 |.for t it b=>(Jl r it Y g).bind λi g=>r.fr t i 0 b Y g
 |.pass=>.ok (.nx Y) g
 |.brk=>.ok (.bk Y) g
 |.cont=>.ok (.ct Y) g
 |.never=>.ZV
 |.fset a j cs e=>(r.ev e Y g).bind λu g=>(r.ev a Y g).bind λx g=>match Bw x j cs u g with
  |some g'=>.ok (.nx Y) g'
  |none=>.ZV
 |.VX b=>(r.ex b Y g).YM
 |.ifx c a b=>(r.ts c Y g).YM.bind λk g=>if k then r.ex a Y g else r.ex b Y g
 |.SY t it b=>(Jl r it Y g).YM.bind λi g=>r.fr t i 0 b Y g
 |.raise c es=>(Ji r.ev es Y g).YM.bind λS g=>if S.length<=Ac then .exc c S g else .ZV
 |.SX j f es c xs=>Eh (r.ev (.call f es) Y g) j c xs Y
def Js(r:Z7)(a:List Z6)(Y:Su)(g:G):Out Fl:=match a with
 |[]=>.ok (.nx Y) g
 |s::ZQ=>(Jr r s Y g).bind λf g=>match f with
  |.nx ZR=>r.ex ZQ ZR g
  |f=>.ok f g
def Jt(r:Z7)(c:E)(b:List Z6)(Y:Su)(g:G):Out Fl:=
 (r.ts c Y g).bind λk g=>if k then(r.ex b Y g).bind λf g=>match f with
  |.nx ZR=>r.wh c b ZR g
  |.ct ZR=>r.wh c b ZR g
  |.bk ZR=>.ok (.nx ZR) g
  |.rt u=>.ok (.rt u) g
 else .ok (.nx Y) g
def Ju(r:Z7)(t:Tg)(it:Iter)(i:Nat)(b:List Z6)(Y:Su)(g:G):Out Fl:=match next it i g with
 |none=>.ZV
 |some none=>.ok (.nx Y) g
 |some (some u)=>match Ad t u Y with
  |none=>.ZV
  |some a=>(r.ex b a g).bind λf g=>match f with
   |.nx ZR=>r.fr t it (i+1) b ZR g
   |.ct ZR=>r.fr t it (i+1) b ZR g
   |.bk ZR=>.ok (.nx ZR) g
   |.rt u=>.ok (.rt u) g
def Az(f:E->Su->G->Out Bool):List E->Su->G->Out Bool
 |[],_,g=>.ok true g
 |c::cs,Y,g=>(f c Y g).bind λk g=>if k then Az f cs Y g else .ok false g
def Jv(r:Z7)(it:Iter)(i:Nat)(t:Tg)(c:List E)(d:List (Tg×E×List E))(a:E)(b:List U)(Y:Su)(g:G):Out (List U):=match next it i g with
 |none=>.ZV
 |some none=>.ok b g
 |some (some u)=>if AX t Y then match Ad t u Y with
  |none=>.ZV
  |some e=>(Az r.ts c e g).bindB λk g=>if k then
    match d with
    |[]=>(r.ev a e g).bindB λv g=>if b.length<Ac then r.cm it (i+1) t c d a (b++[v]) Y g else .ZV
    |(f,X9,l)::m=>(Jl r X9 e g).bindB λj g=>(r.cm j 0 f l m a b e g).bindB λh g=>r.cm it (i+1) t c d a h Y g
   else r.cm it (i+1) t c d a b Y g
  else .ZV
def Jw(C:Nat->List U->G->Out U):Nat->Z7
 |0=>⟨λ_ _ _=>.ZV,λ_ _ _=>.ZV,λ_ _ _=>.ZV,λ_ _ _ _=>.ZV,λ_ _ _ _ _ _=>.ZV,λ_ _ _ _ _ _ _ _ _=>.ZV⟩
 |n+1=>let r:=Jw C n
  ⟨Jo C r,Jp r,Js r,Jt r,Ju r,Jv r⟩
def BL(fu:Nat)(C:Nat->List U->G->Out U)(F:Fn)(S:List U)(g:G):Out U:=
 if S.length=F.np then
  ((Jw C fu).ex F.body (S.map some++List.replicate (F.ns-S.length) none) g).bind λf g=>match f with
   |.rt u=>.ok u g
   |.nx _=>.ok .ZK g
   |_=>.ZV
 else .ZV
def Aa(J:List Fn)(fu:Nat):Nat->Nat->List U->G->Out U
 |0=>λ_ _ _=>.ZV
 |d+1=>λf S g=>match J[f]? with
  |some F=>BL fu (Aa J fu d) F S g
  |none=>.ZV
end
end
end PI
variable{g g' gs:PI.G}{it:PI.Iter}{r:PI.Z7}{C:Nat->List PI.U->PI.G->PI.Out PI.U}{Z:PI.Z3}
namespace L2
open PySem PySem.Spec PyProof.Rows
section
variable{E:Value->Shared->Prop}
def md{d:Addr}{o:Obj}{f:Array DictEntry}(j:(d==sysModules)=false)(a:s.heap.get? d=some o)(g:o.ExactDict)(c:o.data=.dict f ep)
  (h:Q (.ref s.heap.objs.size) {s with heap:=s.heap.push {cls:=.type "dict_keyiterator",data:=.fields #[.ref d,.int 0 0,.int f.size 0,.int ep 0]}}):wpAny (model prog w) A (pyIter (.ref d)) Q E s:=by
 have t:s.TypeIs (.ref d) "dict":=⟨o,a,g.1⟩;refine P1 t F.slot_dict_iter (U3 F.slot_dict_iter t F.entry_dict_iter ?_ (F.args_dict_iter_1 _));unfold Builtin.«dict.__iter__»;refine ZB ?_;unfold Builtin.Dict.dictSlotNone;refine ZB (wpAny_notOrdered_dict t ?_);show wpAny _ _ (pure (Value.ref d)) _ _ s;refine ZP ?_;show wpAny _ _ (Builtin.Dict.showsAll d >>= _) _ _ s;unfold Builtin.Dict.showsAll;rw[j,Yb G7];refine ZB (ZP (ZB (QX a c (ZB (Ou a c ?_)))));exact ZB (Uk (ZP ⟨_,rfl,"dict_keyiterator",_,⟨_,Hc _ rfl,rfl⟩,F.slot_dict_keyiterator_next.lookup,by simpa[rawInt]using h⟩))
def lT{it d:Addr}{g:Obj}{c:Array DictEntry}{e:DictEntry}{Q:Option Value->Shared->Prop}(a:s.heap.IsKeyIter it d i c.size ep)(k:s.heap.get? d=some g)(r:g.data=.dict c ep)(j:c[i]?=some e)
  (h:∀h',h'.IsKeyIter it d (i+1) c.size ep->Heap.SameBut it s.heap h'->Q (some e.key) {s with heap:=h'}):wpAny (model prog w) A (pyNext (.ref it)) Q E s:=by
 let⟨o,ho,t,f⟩:=id a;let⟨u,y⟩:=UD.mp j;unfold pyNext;refine ZB (Pb (Rc (name:=Str.ofString "__next__") a.typeIs Rf (U3 Rf a.typeIs Ph ?_ (Q8 _))));refine ZB (ZP ?_);refine ZB ?_;refine ZB ?_
 (first|refine ZB (Rb a.typeIs (ZP ?_))|refine ZB (RJ a.typeIs (ZP ?_)))
 refine ZB (PH ho f ?_);rw[show Builtin.Dict_items.ownsTuple "dict_keyiterator" = false from by decide];rw[Yb G7]
 show wpAny _ _ (if(Value.ref d==Value.none)=true then _ else _) _ _ s;rw[Yb (show ¬ ((Value.ref d==Value.none)=true)from G7)]
 refine ZB (ZP (ZB (QX k r ?_)));rw[Yb #[3]];refine ZB (ZP (ZB (Ou k r ?_)));rw[Yb #[3]];refine ZP ?_
 dsimp only;rw[Yb (show ¬ ((i:Int)<0)from by lia),QT,j];refine ZB ?_
 (first|refine ZB (Rb a.typeIs (ZP ?_))|refine ZB (RJ a.typeIs (ZP ?_)))
 refine ZB (wpAny_isOneOf_keyiter a.typeIs ?_);show wpAny _ _ (setField (.ref it) 1 (rawInt ((i:Int)+1)) >>= _) _ _ s;refine ZB (QU ho f #[3] ?_)
 have n:(s.heap.update it (Obj.mapFields (·.setIfInBounds 1 (rawInt ((i:Int)+1))))).IsKeyIter it d (i+1) c.size ep:=⟨_,Ro _ ho (Q3 (Sh f _)),(P2 ..).trans t,by rw[Sh f];simp[rawInt]⟩
 refine ZB (V7 (ZB (wpAny_isOneOf_keyiter (s:={s with heap:=s.heap.update it (Obj.mapFields (·.setIfInBounds 1 (rawInt ((i:Int)+1))))}) n.typeIs ?_)));show wpAny _ _ (pure e.key) _ _ _
 exact ZP (ZP ⟨_,rfl,ZP (h _ n (SV ..))⟩)
def l8{it d:Addr}{g:Obj}{f:Array DictEntry}{Q:Option Value->Shared->Prop}(u:A.handled=none)(c:s.heap.IsKeyIter it d i f.size ep)(k:s.heap.get? d=some g)(r:g.data=.dict f ep)(t:f[i]?=none)
  (h:∀h',Heap.ExtBut it s.heap h'->Q none {s with heap:=h'}):wpAny (model prog w) A (pyNext (.ref it)) Q E s:=by
 let⟨o,ho,y,j⟩:=id c;unfold pyNext;refine ZB (Pb (Rc (name:=Str.ofString "__next__") c.typeIs Rf (U3 Rf c.typeIs Ph ?_ (Q8 _))));refine ZB (ZP ?_);refine ZB ?_;refine ZB ?_
 (first|refine ZB (Rb c.typeIs (ZP ?_))|refine ZB (RJ c.typeIs (ZP ?_)))
 refine ZB (PH ho j ?_);rw[show Builtin.Dict_items.ownsTuple "dict_keyiterator" = false from by decide];rw[Yb G7]
 show wpAny _ _ (if(Value.ref d==Value.none)=true then _ else _) _ _ s;rw[Yb (show ¬ ((Value.ref d==Value.none)=true)from G7)]
 refine ZB (ZP (ZB (QX k r ?_)));rw[Yb #[3]];refine ZB (ZP (ZB (Ou k r ?_)));rw[Yb #[3]];refine ZP ?_
 dsimp only;rw[Yb (show ¬ ((i:Int)<0)from by lia),QT,t];refine ZB ?_
 (first|refine ZB (Rb c.typeIs (ZP ?_))|refine ZB (RJ c.typeIs (ZP ?_)))
 show wpAny _ _ (setField (.ref it) 0 .none >>= _) _ _ s;refine ZB (QU ho j #[3] ?_);show wpAny _ _ (newExc (.type "StopIteration") [] >>= _) _ _ _
 refine ZB ?_;delta newExc newTuple;try dsimp only;refine ZB (Uk ?_ (by size_fits))
 refine ZB (m:=firstArgMember _ _) (Oz (a:=Value.none) (by first|rfl|(simp![firstArgMember];rfl)) (Uk ?_ (by size_fits)));delta raiseNew;try dsimp only
 refine ZB (wpAny_handled ?_);rw[show A.in1.handled=none from u];refine ZB (ZP (wpAny_throw ?_));exact ZB (Oa (T:="StopIteration") (b:=true) ⟨_,Hc _ rfl,rfl⟩ isSubtype_stop (ZP (h _ (((SV ..).extBut.push _).push _))))
end
def Itd(a:Addr)(o:Obj)(c:List (List Key×V)):It:=
 ⟨λi H=>H a=some (.Zv o (.dT c))/\i<c.length,λi H x H'=>H'=H /\∃b k v,x=.ref b/\c[i]?=some (k,v)/\H b=some (.ZW (k.map HM)),λi H=>H a=some (.Zv o (.dT c))/\c.length<=i⟩
def oe{P:Program}(z:ObjOk P w H h a (.dT Z4)):Z4.length<=sizeLine/\(a==sysModules)=false /\∃o es ep,h.get? a=some o/\o.ExactDict/\o.data=.dict es ep/\es.size=Z4.length /\
  ∀(i:Nat) (k:List Key) (v:V),Z4[i]?=some (k,v) ->∃(b:Addr) (e:DictEntry),es[i]?=some e/\e.key=.ref b/\H b=some (.ZW (k.map HM)):=by
 let⟨d,hs,xs,c,o,es,ep,ho,m,s,f,_⟩:=z;have r:es.size=xs.length:=by rw[<-YW,f,Zd]
 refine⟨d,hs,o,es,ep,ho,m,s,by rw[r,Qx c],λi k v hk=>?_⟩
 have key:∀{Z4:List (List Key×V)} {xs:List (List Key×Addr×Value)},Paired (λ(p:List Key×V) (q:List Key×Addr×Value)=>p.1=q.1/\H q.2.1=some (.ZW (p.1.map HM))/\RelV p.2 q.2.2) Z4 xs ->∀(i:Nat) (k:List Key) (v:V),Z4[i]?=some (k,v) ->∃q:List Key×Addr×Value,xs[i]?=some q/\H q.2.1=some (.ZW (k.map HM)):=by
  intro Z4 xs c
  induction c with
  |nil=>intro i k v z;simp at z
  |cons h1 _ ih=>
   intro i k v z;cases i with
   |zero=>simp at z;subst z;exact⟨_,by simp,h1.2.1⟩
   |succ j=>let⟨q,l,g⟩:=ih j k v (by simpa using z);exact⟨q,by simpa using l,g⟩
 let⟨q,n,t⟩:=key c i k v hk;refine⟨q.2.1,entryOfKey (tupleKind (AJ P w)) q,?_,rfl,t⟩;rw[<-Vl,f,Wy,n];rfl
def ir{P:Program}{o:Obj}(f:HOk P w H h)(e:H a=some (.Zv o (.dT Z4))):h.get? a=some o/\o.ExactDict/\(a==sysModules)=false /\∃es ep,o.data=.dict es ep/\es.size=Z4.length /\
  ∀(i:Nat) (k:List Key) (v:V),Z4[i]?=some (k,v) ->∃(b:Addr) (c:DictEntry),es[i]?=some c/\c.key=.ref b/\H b=some (.ZW (k.map HM)):=by
 let⟨ho,z⟩:=f a _ e;let⟨_,hs,o',es,ep,d,r⟩:=oe z;rw[ho]at d;cases d;exact⟨ho,r.1,hs,es,ep,r.2⟩
def rS{P:Program}(a it:Addr)(o:Obj)(Q:List (List Key×V)):
  Turn P w K tg (Itd a o Q) [it] it (λi h=>∃es ep,o.data=.dict es ep/\h.IsKeyIter it a i es.size ep) where
 mem:=by simp
 obj:=λi h st b f=>by
  have e:b=it:=by simpa using f
  let⟨_,_,_,q,e1,_,d⟩:=st;subst e;exact⟨q,e1,λv z=>by rw[d]at z;cases z⟩
 keep:=λi h h' ⟨es,ep,hd,st⟩ k=>⟨es,ep,hd,st.at λo e=>k it #[3] o e⟩
 item:=by
  intro X y r A L i O s Y H E I j ⟨es,ep,hd,st⟩ ⟨J,M⟩;subst y r A;let⟨ho,S,_,es',Xk,g,T,hk⟩:=ir I.ZJ J;rw[hd]at g;cases g;obtain⟨⟨k,v⟩,R⟩:∃p,Q[i]?=some p:=⟨_,Xp M⟩;let⟨b,W,u,t,f⟩:=hk i k v R;let⟨G,F,U,D,C,B⟩:=j it #[3]
  refine lT st ho hd u λh' N sb=>?_;have I1:Z0 X O Y H {s with heap:=h'}:=I.turned (t':=s.toks) (λb o f e=>(sb.2 b f).trans e) G F D C B
  let⟨q,e,c,d⟩:=id N;refine⟨W.key,rfl,eV (s:={s with heap:=h'}) e c d #[1] ⟨.ref b,H,I1,?_,⟨rfl,b,k,v,rfl,R,f⟩,⟨es,ep,hd,N⟩,λb f=>(j b f).1⟩⟩
  rw[t];rfl
 done:=by
  intro X y r A L i O s Y H E I j ⟨es,ep,hd,st⟩ ⟨J,M⟩;subst y r A;let⟨ho,S,_,es',Xk,g,T,hk⟩:=ir I.ZJ J;rw[hd]at g;cases g;let⟨G,F,U,D,C,B⟩:=j it #[3]
  exact l8 (I.ok.hd L) st ho hd (QS (by lia)) λh' Z=>⟨rfl,I.turned (t':=s.toks) (λb o f e=>Z b o f e) G F D C B⟩
 self:=λ_ _ _ _ _ ⟨_,_,_,st⟩ h=>wpAny_pyIter_keyiter st h
def rIxD:R2:=λx y H Q=>∃a v,x=.ref a/\DGet H a y (some v)/\Q v H
def abB{Y:St}{y:V}{o:Option V}(I:Z0 X O Y H s)(g:DGet H a y o):s.TypeIs (.ref a) "dict":=by
 rcases g with⟨Z4,k,e,q⟩|⟨Z4,k,b,e,q⟩
 .exact let⟨_,_,_,_,dd⟩:=c7 I.ZJ e;dd.typeIs
 .exact let⟨_,_,_,_,dd⟩:=cY I.ZJ e;dd.typeIs
def xo(f:X.A.units+1<cLine):IxR X rIxD:=by
 intro value slice O s Y H x y v u Q I d c ⟨a,z,e,g,q⟩ hs;subst e;obtain rfl:v=Value.ref a:=d;have hT:=abB I g;have b:wpAny (model X.prog X.w) X.A (subscripted slice false (.ref a) u) (λr s3=>wpAny (model X.prog X.w) X.A (letTemporaryGo value (.ref a) r >>= λ_=>pure r) (EP X O Y Q) X.xe s3) X.xe s:=by
  rw[hs];exact wpAny_operating (qJ f I g c λj s3 i h=>ZB (wpAny_letTemporaryGo (ZP ⟨z,H,i,h,q⟩)))
 unfold subscriptTail;refine ZB ?_;rw[getitemInPython_of_ne hT.not_modules];refine ZB (Qb hT PySem.F.slot_dict_getitem.lookup ?_)
 (first|exact ZP (ZB b)|exact ZB (ZP (ZB b))|exact ZB b)
def Z0.freeze{Y:St}(I:Z0 X O Y H s)(e:H a=some (.dT Z4)):∃o,Z0 X O Y (upd H a (.Zv o (.dT Z4))) s:=by
 let⟨z,hs,xs,d,o,es,ep,ho,f,g,h,nd⟩:=I.ZJ a _ e;refine⟨o,I.write (x:=a) (e:=a) (h':=s.heap) (t':=s.toks) (by rw[e];trivial) (.inl rfl) (λ_ _ _ q=>q) ⟨o,ho⟩ ⟨ho,z,hs,xs,KT.keeps (H:=H) d λc ys b=>?_,o,es,ep,ho,f,g,h,nd⟩⟩
 rw[af (cg b e (λz=>nomatch z))];exact b
def nD{Y:St}{o:Obj}{R:It->Hp->Prop}{E:Value->Shared->Prop}(I:Z0 X O Y H s)(e:H a=some (.Zv o (.dT Z4)))(q:R (Itd a o Z4) H):
  wpAny (model X.prog X.w) X.A (pyIter (.ref a)) (PIE X O Y tg R) E s:=by
 let⟨ho,d,hs,es,ep,c,g,hk⟩:=ir I.ZJ e;refine md hs ho d c ⟨s.heap.objs.size,[s.heap.objs.size],_,_,H,rfl,I.kept (t':=s.toks) λb o e=>G4 _ e,rS a _ o Z4,⟨es,ep,c,_,Hc _ rfl,rfl,rfl⟩,λb f=>?_,q⟩;have e:b=s.heap.objs.size:=by simpa using f
 subst e;exact I.T4 (G8 _) (I.ZJ.fresh (G8 _))
def Ite(K:Hf)(a:Addr):It:=
 ⟨λi H=>∃xs x,SqL K H a xs/\xs[i]?=some x,λi H x H'=>∃p v,H p=none/\x=.ref p/\H'=upd H p (.ZW [.int i,v]) /\∀xs,SqL K H a xs->xs[i]?=some v,λi H=>∃xs,SqL K H a xs/\xs.length<=i⟩
end L2
namespace L2
open PySem PySem.Spec PyProof.Rows
def Itz(K:Hf)(a b:Addr):It:=
 ⟨λi H => ∃ xs ys x y,SqL K H a xs/\SqL K H b ys/\xs[i]? = some x/\ys[i]? = some y,λi H x H' => ∃ p v w,H p=none/\x=.ref p/\H'=upd H p (.ZW [v,w])/\(∀ xs,SqL K H a xs->xs[i]? = some v) /\ ∀ ys,SqL K H b ys->ys[i]? = some w,
  λi H=>∃xs ys,SqL K H a xs/\SqL K H b ys/\(xs.length<=i\/ys.length<=i)⟩
structure ZA(z TI TO i1 i2:Addr):Prop where
 TIz:TI≠z
 TOz:TO≠z
 i1z:i1≠z
 i2z:i2≠z
 TITO:TI≠TO
 TIi1:TI≠i1
 TIi2:TI≠i2
 TOi1:TO≠i1
 TOi2:TO≠i2
 i12:i1≠i2
end L2
namespace PI
noncomputable section
open PySem PySem.Spec PyProof.Rows L2
def SqF(K:Hf)(H:Hp)(a:Addr)(xs:List V):Prop:=
 (∃o,H a=some (.Zv o (.Z5 xs))) \/
  ∃(o:Obj) (ZU:Array Value) (n:Nat),K.lookup a=some o/\o.cls=.type "list" /\ o.dict=none/\o.data=.seq ZU n/\ZU.size<=sizeLine/\ZG xs ZU.toList
def SqF.sq{xs:List V}(h:SqF K H a xs):SqL K H a xs:=by
 rcases h with h|h
 .exact .inl (.inr h)
 .exact .inr h
def SqU(_:Hf)(H:Hp)(a:Addr)(xs:List V):Prop:=H a=some (.ZW xs)
def SqU.sq{xs:List V}(h:SqU K H a xs):SqT K H a xs:=.of h
def SqC(K:Hf)(a:Addr)(xs:List V):Prop:=
 ∃(o:Obj) (ZU:Array Value) (n:Nat),K.lookup a=some o/\o.cls=.type "tuple" /\ o.data=.seq ZU n/\ZU.size<=sizeLine/\ZG xs ZU.toList
def SqC.sq{xs:List V}(h:SqC K a xs):SqT K H a xs:=.inr h
inductive RT(Z6:Addr->List V->Prop)(R:List V->Prop)(v:V):Prop
 |mk (a:Addr) (vs:List V) (e:v=.ref a) (s:Z6 a vs) (r:R vs)
inductive RC{α:Type}(p:α->Prop)(q:List α->Prop)(vs:List α):Prop
 |mk (v:α) (r:List α) (e:vs=v::r) (h:p v) (t:q r)
mutual
def RV(K:Hf)(ρ:List Addr)(H:Hp):U->V->Prop
 |.ZK,v=>v=.ZK
 |.bl b,v=>v=.bl b
 |.int i,v=>v=.int i
 |.str s,v=>v=.str s
 |.ZW S,v=>RT (SqU K H) (RVs K ρ H S) v
 |.Zx S,v=>RT (SqF K H) (RVs K ρ H S) v
 |.ref n,v=>∃a,v=.ref a/\ρ[n]?=some a
 |.xn _ S,v=>RT (SqC K) (RVs K ρ H S) v
def RVs(K:Hf)(ρ:List Addr)(H:Hp):List U->List V->Prop
 |[],vs=>vs=[]
 |u::S,vs=>RC (RV K ρ H u) (RVs K ρ H S) vs
end
structure ZI(K:Hf)(ρ:List Addr)(H:Hp)(ZN:List Addr)(H':Hp):Prop where
 ext:∀(n:Nat) (a:Addr),ρ[n]?=some a->ZN[n]?=some a
 new:∀(n:Nat) (a:Addr),ZN[n]?=some a->ρ[n]?=some a\/H a=none
 X3:∀a o,H a=some o->a ∉ ρ->H' a=some o
 live:∀a,H a≠none->H' a≠none
 ZW:∀a xs,SqU K H a xs->SqU K H' a xs
 Zx:∀a xs,SqF K H a xs->SqF K H' a xs
 Zv:∀a o u,H a=some (.Zv o u)->H' a=some (.Zv o u)
section
variable{Vq:List Addr}{XF:Hp}
def ZI.refl:ZI K ρ H ρ H:=⟨λ_ _ h=>h,λ_ _ h=>.inl h,λ_ _ h _=>h,λ_ h=>h,λ_ _ h=>h,λ_ _ h=>h,λ_ _ _ h=>h⟩
def ZI.trans(a:ZI K ρ H ZN H')(b:ZI K ZN H' Vq XF):ZI K ρ H Vq XF where
 ext:=λn x h=>b.ext n x (a.ext n x h)
 new:=λn x h=>by
  rcases b.new n x h with q|q
  .exact a.new n x q
  .refine .inr ?_
   cases e:H x with
   |none=>rfl
   |some o=>exact absurd q (a.live x (by rw[e];simp))
 X3:=λx o h c=>b.X3 x o (a.X3 x o h c) λd=>by
  let⟨n,f⟩:=Tf.mp d;rcases a.new n x f with q|q
  .exact c (Tf.mpr ⟨n,q⟩)
  .rw [q]at h;cases h
 live:=λx h=>b.live x (a.live x h)
 ZW:=λx xs h=>b.ZW x xs (a.ZW x xs h)
 Zx:=λx xs h=>b.Zx x xs (a.Zx x xs h)
 Zv:=λx o u h=>b.Zv x o u (a.Zv x o u h)
mutual
def RV.mono(d:∀(n:Nat) (a:Addr),ρ[n]?=some a->ZN[n]?=some a)(b:∀a xs,SqU K H a xs->SqU K H' a xs)(c:∀a xs,SqF K H a xs->SqF K H' a xs):∀(u:U) (v:V),RV K ρ H u v->RV K ZN H' u v
 |.ZK,_,h=>h
 |.bl _,_,h=>h
 |.int _,_,h=>h
 |.str _,_,h=>h
 |.ZW S,v,h=>by
  let⟨a,vs,e,h1,h2⟩:=h;exact⟨a,vs,e,b _ _ h1,RVs.mono d b c S vs h2⟩
 |.Zx S,v,h=>by
  let⟨a,vs,e,h1,h2⟩:=h;exact⟨a,vs,e,c _ _ h1,RVs.mono d b c S vs h2⟩
 |.ref n,v,h=>by
  let⟨a,e,h1⟩:=h;exact⟨a,e,d _ _ h1⟩
 |.xn _ S,v,h=>by
  let⟨a,vs,e,h1,h2⟩:=h;exact⟨a,vs,e,h1,RVs.mono d b c S vs h2⟩
def RVs.mono(d:∀(n:Nat) (a:Addr),ρ[n]?=some a->ZN[n]?=some a)(b:∀a xs,SqU K H a xs->SqU K H' a xs)(c:∀a xs,SqF K H a xs->SqF K H' a xs):∀(S:List U) (vs:List V),RVs K ρ H S vs->RVs K ZN H' S vs
 |[],_,h=>h
 |u::S,vs,h=>by
  let⟨v,r,e,h1,h2⟩:=h;exact⟨v,r,e,RV.mono d b c u v h1,RVs.mono d b c S r h2⟩
end
def RV.step(s:ZI K ρ H ZN H')(u:U)(v:V)(h:RV K ρ H u v):RV K ZN H' u v:=RV.mono s.ext s.ZW s.Zx u v h
def RVs.step(s:ZI K ρ H ZN H')(S:List U)(vs:List V)(h:RVs K ρ H S vs):RVs K ZN H' S vs:=RVs.mono s.ext s.ZW s.Zx S vs h
def RVs.length:∀{S:List U} {vs:List V},RVs K ρ H S vs->S.length=vs.length
 |[],_,h=>by cases h;rfl
 |_::S,_,h=>by
  let⟨v,r,rfl,_,h2⟩:=h;simp[RVs.length h2]
def RVs.get:∀{S:List U} {vs:List V} {i:Nat} {u:U},RVs K ρ H S vs->S[i]?=some u ->∃v,vs[i]?=some v/\RV K ρ H u v
 |[],_,_,_,_,e=>by simp at e
 |x::S,_,0,u,h,e=>by
  let⟨v,r,rfl,h1,_⟩:=h;simp at e;subst e;exact⟨v,by simp,h1⟩
 |x::S,_,i+1,u,h,e=>by
  let⟨v,r,rfl,_,h2⟩:=h;let⟨w,b,a⟩:=RVs.get (i:=i) (u:=u) h2 (by simpa using e)
  exact⟨w,by simpa using b,a⟩
def RVs.none_of(h:RVs K ρ H S vs)(e:S[i]?=none):vs[i]?=none:=by
 have h1:=h.length;have h2:S.length<=i:=VV.mp e;exact VV.mpr (by lia)
def RVs.append:∀{S ws:List U} {vs xs:List V},RVs K ρ H S vs->RVs K ρ H ws xs->RVs K ρ H (S++ws) (vs++xs)
 |[],_,_,_,h,q=>by cases h;exact q
 |u::S,_,_,_,h,q=>by
  let⟨v,r,rfl,h1,h2⟩:=h;exact⟨v,r++_,rfl,h1,RVs.append h2 q⟩
def RVs.one(h:RV K ρ H u v):RVs K ρ H [u] [v]:=⟨v,[],rfl,h,rfl⟩
def RVs.drop:∀{S:List U} {vs:List V} (n:Nat),RVs K ρ H S vs->RVs K ρ H (S.drop n) (vs.drop n)
 |_,_,0,h=>h
 |[],_,_+1,h=>by cases h;rfl
 |u::S,_,n+1,h=>by
  let⟨v,r,rfl,h1,h2⟩:=h;exact RVs.drop n h2
def RVs.take:∀{S:List U} {vs:List V} (n:Nat),RVs K ρ H S vs->RVs K ρ H (S.take n) (vs.take n)
 |_,_,0,h=>by simp[RVs]
 |[],_,_+1,h=>by cases h;rfl
 |u::S,_,n+1,h=>by
  let⟨v,r,rfl,h1,h2⟩:=h;exact⟨v,r.take n,rfl,h1,RVs.take n h2⟩
def RVs.set{u:U}{v:V}(q:RV K ρ H u v):∀{S:List U} {vs:List V} (i:Nat),RVs K ρ H S vs->RVs K ρ H (S.set i u) (vs.set i v)
 |[],_,_,h=>by cases h;rfl
 |x::S,_,0,h=>by
  let⟨w,r,rfl,_,h2⟩:=h;exact⟨v,r,rfl,q,h2⟩
 |x::S,_,i+1,h=>by
  let⟨w,r,rfl,h1,h2⟩:=h;exact⟨w,r.set i v,rfl,h1,RVs.set q i h2⟩
def RVs.reverse:∀{S:List U} {vs:List V},RVs K ρ H S vs->RVs K ρ H S.reverse vs.reverse
 |[],_,h=>by cases h;rfl
 |u::S,_,h=>by
  let⟨v,r,rfl,h1,h2⟩:=h;rw[Qj,Qj];exact RVs.append (RVs.reverse h2) (.one h1)
def RVs.dropLast{S:List U}{vs:List V}(h:RVs K ρ H S vs):RVs K ρ H S.dropLast vs.dropLast:=by
 rw[List.dropLast_eq_take,List.dropLast_eq_take,h.length];exact h.take _
def RD(K:Hf)(ρ:List Addr)(H:Hp):List (List Int×U)->List (List Key×V)->Prop
 |[],ws=>ws=[]
 |(k,u)::r,ws=>∃v s,ws=(k.map Sum.inl,v)::s/\RV K ρ H u v/\RD K ρ H r s
def RD.mono(d:∀(n:Nat) (a:Addr),ρ[n]?=some a->ZN[n]?=some a)(b:∀a xs,SqU K H a xs->SqU K H' a xs)(c:∀a xs,SqF K H a xs->SqF K H' a xs):∀(S:List (List Int×U)) (vs:List (List Key×V)),RD K ρ H S vs->RD K ZN H' S vs
 |[],_,h=>h
 |(k,u)::S,vs,h=>by
  let⟨v,r,e,h1,h2⟩:=h;exact⟨v,r,e,RV.mono d b c u v h1,RD.mono d b c S r h2⟩
def RK(K:Hf)(ρ:List Addr)(H:Hp):List (Str×U)->List (Key×V)->Prop
 |[],ws=>ws=[]
 |(k,u)::r,ws=>∃v s,ws=(Sum.inr k,v)::s/\RV K ρ H u v/\RK K ρ H r s
def RK.mono(d:∀(n:Nat) (a:Addr),ρ[n]?=some a->ZN[n]?=some a)(b:∀a xs,SqU K H a xs->SqU K H' a xs)(c:∀a xs,SqF K H a xs->SqF K H' a xs):∀(S:List (Str×U)) (vs:List (Key×V)),RK K ρ H S vs->RK K ZN H' S vs
 |[],_,h=>h
 |(k,u)::S,vs,h=>by
  let⟨v,r,e,h1,h2⟩:=h;exact⟨v,r,e,RV.mono d b c u v h1,RK.mono d b c S r h2⟩
def lC:∀(f a b:Nat),a<128 ^ f->b<128 ^ f->dig f a=dig f b->a=b
 |0,a,b,h1,h2,_=>by simp at h1 h2;lia
 |f+1,a,b,h1,h2,e=>by
  rw[Nat.pow_succ]at h1 h2;simp![dig]at e;split at e
  .split at e
   .lia
   .cases e
  .split at e
   .cases e
   .have d:a % 128=b % 128:=(List.cons.inj e).1
    have c:=lC f (a / 128) (b / 128) (by lia) (by lia) (List.cons.inj e).2
    lia
def ni{a b:Nat}(d:a<Bn)(c:b<Bn)(e:Aq a=Aq b):a=b:=lC 64 a b d c (by have:=SO (λs:Str=>s.cps.toList) e;simpa[Aq]using this)
def RF(K:Hf)(ρ:List Addr)(H:Hp):List (Nat×U)->List (Str×V)->Prop
 |[],ws=>ws=[]
 |(j,u)::r,ws=>∃v s,ws=(Aq j,v)::s/\j<Bn/\RV K ρ H u v/\RF K ρ H r s
def RF.mono(d:∀(n:Nat) (a:Addr),ρ[n]?=some a->ZN[n]?=some a)(b:∀a xs,SqU K H a xs->SqU K H' a xs)(c:∀a xs,SqF K H a xs->SqF K H' a xs):∀(S:List (Nat×U)) (vs:List (Str×V)),RF K ρ H S vs->RF K ZN H' S vs
 |[],_,h=>h
 |(k,u)::S,vs,h=>by
  let⟨v,r,e,f,h1,h2⟩:=h;exact⟨v,r,e,f,RV.mono d b c u v h1,RF.mono d b c S r h2⟩
def RF.look{j:Nat}(a:j<Bn):∀{S:List (Nat×U)} {vs:List (Str×V)},RF K ρ H S vs->(S.lookup j=none/\vs.lookup (Aq j)=none) \/∃u v,S.lookup j=some u/\vs.lookup (Aq j)=some v/\RV K ρ H u v
 |[],_,h=>by cases h;exact .inl ⟨rfl,rfl⟩
 |(i,u)::S,_,h=>by
  let⟨v,r,rfl,b,h1,h2⟩:=h;rw[WW,WW];by_cases e:j=i
  .subst e
   rw[Qs,Qs];exact .inr ⟨u,v,rfl,rfl,h1⟩
  .have d:(j==i)=false:=beq_false_of_ne e
   have c:(Aq j==Aq i)=false:=beq_false_of_ne λz=>e (ni a b z);rw[d,c];exact RF.look a h2
def RF.put{j:Nat}{u:U}{v:V}(b:j<Bn)(a:RV K ρ H u v):∀{S:List (Nat×U)} {vs:List (Str×V)},RF K ρ H S vs->RF K ρ H (CL j u S) (AG (Aq j) v vs)
 |[],_,h=>by cases h;exact⟨v,[],rfl,b,a,rfl⟩
 |(i,x)::S,_,h=>by
  let⟨w,r,rfl,c,h1,h2⟩:=h;unfold CL AG;by_cases e:i=j
  .subst e
   rw[Yn rfl,Yn rfl];exact⟨v,r,rfl,c,a,h2⟩
  .rw [Yb e,Yb λz=>e (ni c b z)]
   exact⟨w,_,rfl,c,h1,RF.put b a h2⟩
def RF.length:∀{S:List (Nat×U)} {vs:List (Str×V)},RF K ρ H S vs->S.length=vs.length
 |[],_,h=>by cases h;rfl
 |(i,x)::S,_,h=>by
  let⟨w,r,rfl,a,h1,h2⟩:=h;simp[RF.length h2]
def RHO(K:Hf)(ρ:List Addr)(H:Hp):Z9->HO->Prop
 |.Z5 S,o=>∃vs,o=.Z5 vs/\RVs K ρ H S vs
 |.ZF Z4,o=>∃ws,o=.dT ws/\RD K ρ H Z4 ws
 |.Zq Z4,o=>∃ob ws,o=.Zv ob (.dT ws)/\RD K ρ H Z4 ws
 |.dst Z4,o=>∃ws,o=.dK ws/\RK K ρ H Z4 ws
 |.ins c S,o=>∃C dx vs,o=.ins C dx vs/\PySem.W.nsIn K mainGlobals (Aq c)=some (some (.ref C))/\RF K ρ H S vs
def RO(K:Hf)(ρ:List Addr)(H:Hp)(a:Addr)(o:Z9):Prop:=∃ho,H a=some ho/\RHO K ρ H o ho
def RHO.mono(f:∀(n:Nat) (a:Addr),ρ[n]?=some a->ZN[n]?=some a)(b:∀a xs,SqU K H a xs->SqU K H' a xs)(d:∀a xs,SqF K H a xs->SqF K H' a xs){o:Z9}{g:HO}(h:RHO K ρ H o g):RHO K ZN H' o g:=by
 cases o with
 |Z5 S=>let⟨vs,e,r⟩:=h;exact⟨vs,e,RVs.mono f b d _ _ r⟩
 |ZF Z4=>let⟨ws,e,r⟩:=h;exact⟨ws,e,RD.mono f b d _ _ r⟩
 |Zq Z4=>let⟨ob,ws,e,r⟩:=h;exact⟨ob,ws,e,RD.mono f b d _ _ r⟩
 |dst Z4=>let⟨ws,e,r⟩:=h;exact⟨ws,e,RK.mono f b d _ _ r⟩
 |ins c S=>let⟨C,dx,vs,e,i,r⟩:=h;exact⟨C,dx,vs,e,i,RF.mono f b d _ _ r⟩
def RHO.step(s:ZI K ρ H ZN H'){o:Z9}{a:HO}(h:RHO K ρ H o a):RHO K ZN H' o a:=h.mono s.ext s.ZW s.Zx
def RO.step(s:ZI K ρ H ZN H'){a:Addr}{o:Z9}(e:∀b,H a=some b->H' a=some b)(h:RO K ρ H a o):RO K ZN H' a o:=
 let⟨b,c,r⟩:=h;⟨b,e b c,r.step s⟩
structure RH(K:Hf)(ρ:List Addr)(H:Hp)(g:G):Prop where
 len:ρ.length=g.length
 inj:∀(i j:Nat) (a:Addr),ρ[i]?=some a->ρ[j]?=some a->i=j
 obj:∀(n:Nat) (a:Addr) (o:Z9),ρ[n]?=some a->g[n]?=some o->RO K ρ H a o
def RH.at(h:RH K ρ H g){o:Z9}(e:g[n]?=some o):∃a,ρ[n]?=some a/\RO K ρ H a o:=by
 have c:n<g.length:=(Yj.mp e).1;have b:n<ρ.length:=by rw[h.len];exact c
 exact⟨ρ[n],Xp b,h.obj n ρ[n] _ (Xp b) e⟩
def RH.Z5(h:RH K ρ H g){n:Nat}{S:List U}(e:g[n]?=some (.Z5 S)):∃a vs,ρ[n]?=some a/\H a=some (.Z5 vs)/\RVs K ρ H S vs:=by
 let⟨a,h1,ho,h2,vs,rfl,b⟩:=h.at e;exact⟨a,vs,h1,h2,b⟩
def RH.ZF(h:RH K ρ H g){n:Nat}{b:List (List Int×U)}(e:g[n]?=some (.ZF b)):∃a ws,ρ[n]?=some a/\H a=some (.dT ws)/\RD K ρ H b ws:=by
 let⟨a,h1,ho,h2,vs,rfl,c⟩:=h.at e;exact⟨a,vs,h1,h2,c⟩
def RH.Zq(h:RH K ρ H g){n:Nat}{c:List (List Int×U)}(e:g[n]?=some (.Zq c)):∃a b ws,ρ[n]?=some a/\H a=some (.Zv b (.dT ws))/\RD K ρ H c ws:=by
 let⟨a,h1,ho,h2,b,vs,rfl,d⟩:=h.at e;exact⟨a,b,vs,h1,h2,d⟩
def RH.dst(h:RH K ρ H g){n:Nat}{b:List (Str×U)}(e:g[n]?=some (.dst b)):∃a ws,ρ[n]?=some a/\H a=some (.dK ws)/\RK K ρ H b ws:=by
 let⟨a,h1,ho,h2,vs,rfl,c⟩:=h.at e;exact⟨a,vs,h1,h2,c⟩
def RH.ins(h:RH K ρ H g){n c:Nat}{b:List (Nat×U)}(e:g[n]?=some (.ins c b)):∃a C dx vs,ρ[n]?=some a/\H a=some (.ins C dx vs)/\PySem.W.nsIn K mainGlobals (Aq c)=some (some (.ref C))/\RF K ρ H b vs:=by
 let⟨a,h1,ho,h2,C,dx,vs,rfl,f,d⟩:=h.at e;exact⟨a,C,dx,vs,h1,h2,f,d⟩
def RH.there(h:RH K ρ H g)(e:ρ[n]?=some a):∃o,H a=some o:=by
 have b:n<ρ.length:=(Yj.mp e).1;have c:n<g.length:=by rw[<-h.len];exact b
 let⟨ho,h1,_⟩:=h.obj n a g[n] e (Xp c);exact⟨ho,h1⟩
def xx{p:Addr}{o:HO}{xs:List V}(h:SqU K H a xs)(b:a≠p):SqU K (upd H p o) a xs:=by
 unfold SqU;rw[af b];exact h
def wI{p:Addr}{o:HO}{xs:List V}(h:SqF K H a xs)(b:a≠p):SqF K (upd H p o) a xs:=by
 rcases h with⟨ob,h⟩|h
 .exact .inl ⟨ob,by rw[af b];exact h⟩
 .exact .inr h
def By:HO->Prop
 |.Z5 _=>True
 |.dT _=>True
 |.dK _=>True
 |.ins _ _ _=>True
 |_=>False
def aQ{p:Addr}{o:HO}{xs:List V}(h:SqU K H a xs)(c:H p=none \/∃b,H p=some b/\By b):SqU K (upd H p o) a xs:=
 xx h (by rintro rfl;rcases c with z|⟨ys,z,m⟩<;>· unfold SqU at h;rw[h]at z;cases z;try exact m)
def aS{p:Addr}{o:HO}{xs:List V}(h:SqF K H a xs)(c:H p=none \/∃b,H p=some b/\By b):SqF K (upd H p o) a xs:=by
 rcases h with⟨ob,h⟩|h
 .exact wI (.inl ⟨ob,h⟩) (by rintro rfl;rcases c with z|⟨ys,z,m⟩<;>· rw[h]at z;cases z;try exact m)
 .exact .inr h
def ZI.fresh{p:Addr}{o:HO}(b:H p=none):ZI K ρ H ρ (upd H p o) where
 ext:=λ_ _ h=>h
 new:=λ_ _ h=>.inl h
 X3:=λa u h _=>by rw[af (aE h b)];exact h
 live:=λa h=>by
  by_cases e:a=p
  .subst e;rw[upd_same];simp
  .rw [af e];exact h
 ZW:=λa xs h=>aQ h (.inl b)
 Zx:=λa xs h=>aS h (.inl b)
 Zv:=λa ob u h=>by rw[af (aE h b)];exact h
def RH.step_fresh{p:Addr}{o:HO}(h:RH K ρ H g)(b:H p=none):RH K ρ (upd H p o) g where
 len:=h.len
 inj:=h.inj
 obj:=λn a ob h1 h2=>(h.obj n a ob h1 h2).step (ZI.fresh b) λho e=>by rw[af (aE e b)];exact e
def ZI.alloc{p:Addr}{c:HO}(b:H p=none):ZI K ρ H (ρ++[p]) (upd H p c) where
 ext:=λn a h=>by rw[X0 (Yj.mp h).1];exact h
 new:=λn a h=>by
  by_cases d:n<ρ.length
  .rw [X0 d]at h;exact .inl h
  .rw [Wm (by lia)]at h
   have:a=p:=by
    cases hk:n-ρ.length with
    |zero=>rw[hk]at h;simpa using h.symm
    |succ k=>rw[hk]at h;simp at h
   subst this;exact .inr b
 X3:=λa u h _=>by rw[af (aE h b)];exact h
 live:=(ZI.fresh (K:=K) (ρ:=ρ) b).live
 ZW:=λa xs h=>aQ h (.inl b)
 Zx:=λa xs h=>aS h (.inl b)
 Zv:=λa ob u h=>by rw[af (aE h b)];exact h
def RH.Te{p:Addr}{t:Z9}{d:HO}(h:RH K ρ H g)(s:H p=none)(r:RHO K ρ H t d):RH K (ρ++[p]) (upd H p d) (g++[t]) where
 len:=by simp[h.len]
 inj:=λi j a h1 h2=>by
  have c:∀k b,(ρ++[p])[k]?=some b->(k<ρ.length/\ρ[k]?=some b)\/(k=ρ.length/\b=p):=λk b e=>by
   by_cases hk:k<ρ.length
   .rw [X0 hk]at e;exact .inl ⟨hk,e⟩
   .rw [Wm ()]at e
    cases hd:k-ρ.length with
    |zero=>rw[hd]at e;exact .inr ⟨by omega,by simpa using e.symm⟩
    |succ m=>rw[hd]at e;simp at e
  have l:∀k,ρ[k]? ≠ some p:=λk e=>by
   let⟨o,d⟩:=h.there e;rw[s]at d;cases d
  rcases c i a h1 with⟨_,q⟩|⟨q,w⟩
  .rcases c j a h2 with⟨_,f⟩|⟨f,v⟩
   .exact h.inj i j a q f
   .subst v;exact absurd q (l i)
  .rcases c j a h2 with⟨_,f⟩|⟨f,v⟩
   .subst w;exact absurd f (l j)
   .lia
 obj:=λn a o h1 h2=>by
  by_cases u:n<ρ.length
  .rw [X0 u]at h1
   rw[X0 (by rw[<-h.len];exact u)]at h2
   exact(h.obj n a o h1 h2).step (ZI.alloc s) λd e=>by rw[af (aE e s)];exact e
  .have hl:=h.len
   rw[Wm (by lia)]at h1
   rw[Wm (by lia)]at h2
   rw[<-hl]at h2;cases hd:n-ρ.length with
   |zero=>
    rw[hd]at h1 h2;have q:a=p:=by simpa using h1.symm
    have f:o=t:=by simpa using h2.symm
    subst q;subst f;exact⟨d,upd_same,r.step (ZI.alloc s)⟩
   |succ m=>rw[hd]at h1;simp at h1
def RH.alloc{p:Addr}(h:RH K ρ H g)(a:H p=none)(r:RVs K ρ H S vs):RH K (ρ++[p]) (upd H p (.Z5 vs)) (g++[.Z5 S]):=h.Te a ⟨vs,rfl,r⟩
def ZI.X2{x y:HO}(f:ρ[n]?=some a)(d:H a=some x)(c:By x):ZI K ρ H ρ (upd H a y) where
 ext:=λ_ _ h=>h
 new:=λ_ _ h=>.inl h
 X3:=λb u h g=>by
  have:b≠a:=λe=>g (e ▸ Tf.mpr ⟨n,f⟩);rw[af this];exact h
 live:=λb h=>by
  by_cases e:b=a
  .subst e;rw[upd_same];simp
  .rw [af e];exact h
 ZW:=λb zs h=>aQ h (.inr ⟨_,d,c⟩)
 Zx:=λb zs h=>aS h (.inr ⟨_,d,c⟩)
 Zv:=λb ob u h=>by rw[af (cg h d (by rintro rfl;exact c))];exact h
def ZI.write{xs b:List V}(c:ρ[n]?=some a)(d:H a=some (.Z5 xs)):ZI K ρ H ρ (upd H a (.Z5 b)):=ZI.X2 c d trivial
def RH.X2{n:Nat}{a:Addr}{x y:HO}{d:Z9}(h:RH K ρ H g)(c:ρ[n]?=some a)(i:H a=some x)(f:By x)(r:RHO K ρ H d y):RH K ρ (upd H a y) (g.set n d) where
 len:=by simp[h.len]
 inj:=h.inj
 obj:=λm b o h1 h2=>by
  by_cases e:m=n
  .subst e
   rw[c]at h1;cases h1;rw[SM (by rw[<-h.len];exact(Yj.mp c).1)]at h2
   cases h2;exact⟨y,upd_same,r.step (ZI.X2 c i f)⟩
  .rw [VJ (Ne.symm e)]at h2
   have j:b≠a:=λz=>e (h.inj m n a (z ▸ h1) c);exact(h.obj m b o h1 h2).step (ZI.X2 c i f) λho k=>by rw[af j];exact k
def RH.write{xs b:List V}(h:RH K ρ H g)(c:ρ[n]?=some a)(d:H a=some (.Z5 xs))(r:RVs K ρ H S b):RH K ρ (upd H a (.Z5 b)) (g.set n (.Z5 S)):=h.X2 c d trivial ⟨b,rfl,r⟩
structure RS(K:Hf)(ρ:List Addr)(H:Hp)(ZY:Su)(Y:L2.St):Prop where
 len:ZY.length=Y.length
 val:∀(i:Nat) (u:U),ZY[i]?=some (some u) ->∃v,Y[i]?=some (some v)/\RV K ρ H u v
def RS.step{a:Su}{Y:L2.St}(h:RS K ρ H a Y)(s:ZI K ρ H ZN H'):RS K ZN H' a Y:=
 ⟨h.len,λi u e=>let⟨v,b,r⟩:=h.val i u e;⟨v,b,RV.step s _ _ r⟩⟩
def RS.set{b:Su}{Y:L2.St}{i:Nat}{u:U}{v:V}(h:RS K ρ H b Y)(r:RV K ρ H u v):RS K ρ H (b.set i (some u)) (Y.set i (some v)) where
 len:=by simp[h.len]
 val:=λj w e=>by
  by_cases a:j=i
  .subst a
   have c:j<b.length:=by
    have:=(Yj.mp e).1;simpa using this
   rw[SM c]at e;cases e;exact⟨v,by rw[SM (by rw[<-h.len];exact c)],r⟩
  .rw [VJ (Ne.symm a)]at e
   let⟨x,f,d⟩:=h.val j w e;exact⟨x,by rw[VJ (Ne.symm a)];exact f,d⟩
end
abbrev XQ:=Nat->List V->Hp->Prop
section
variable(K:Hf)(W:XQ)
def post{b a:Type}(R:List Addr->Hp->b->a->Prop)(o:Out b)(ρ:List Addr)(H:Hp)(Q:a->Hp->Prop):Prop:=match o with
 |.ok u g=>∀v ZN H',ZI K ρ H ZN H'->RH K ZN H' g->R ZN H' u v->Q v H'
 |.exc c fs g=>∀vs ZN H',ZI K ρ H ZN H'->RH K ZN H' g->RVs K ZN H' fs vs->W c vs H'
 |.ZV=>False
def Jx(o:Out Fl)(ρ:List Addr)(H:Hp)(D:Ends):Prop:=match o with
 |.ok (.nx a) g=>∀Y ZN H',ZI K ρ H ZN H'->RH K ZN H' g->RS K ZN H' a Y->D.nx Y H'
 |.ok (.bk a) g=>∀Y ZN H',ZI K ρ H ZN H'->RH K ZN H' g->RS K ZN H' a Y->D.bk Y H'
 |.ok (.ct a) g=>∀Y ZN H',ZI K ρ H ZN H'->RH K ZN H' g->RS K ZN H' a Y->D.ct Y H'
 |.ok (.rt u) g=>∀v ZN H',ZI K ρ H ZN H'->RH K ZN H' g->RV K ZN H' u v->D.rt v H'
 |.exc c fs g=>∀vs ZN H',ZI K ρ H ZN H'->RH K ZN H' g->RVs K ZN H' fs vs->W c vs H'
 |.ZV=>False
abbrev Yc{α:Type}:List Addr->Hp->α->α->Prop:=λ_ _ a b=>a=b
inductive tR{α β:Type}(R:List Addr->Hp->α->β->Prop)(f:Su->G->Out α)(Y:L2.St)(H:Hp)(Q:β->Hp->Prop):Prop
 |mk (ZY:Su) (ρ:List Addr) (g:G) (hs:RS K ρ H ZY Y) (hg:RH K ρ H g) (p:post K W R (f ZY g) ρ H Q)
abbrev tE(f:Su->G->Out U):TE:=tR K W (RV K) f
abbrev tT(f:Su->G->Out Bool):TT:=tR K W Yc f
abbrev X8(f:Su->G->Out (List U)):TA:=tR K W (RVs K) f
inductive PB{α β V3 V2:Type}(R:List Addr->Hp->α->β->Prop)(R':List Addr->Hp->V3->V2->Prop)(ρ:List Addr)(H:Hp)(k:α->G->Out V3)(Q:V2->Hp->Prop)(v:β)(H1:Hp):Prop
 |mk (ZL:List Addr) (u:α) (g1:G) (s:ZI K ρ H ZL H1) (h:RH K ZL H1 g1) (r:R ZL H1 u v) (p:post K W R' (k u g1) ZL H1 Q)
inductive PC{α β:Type}(R:List Addr->Hp->α->β->Prop)(ρ:List Addr)(H:Hp)(k:α->G->Out Fl)(D:Ends)(v:β)(H1:Hp):Prop
 |mk (ZL:List Addr) (u:α) (g1:G) (s:ZI K ρ H ZL H1) (h:RH K ZL H1 g1) (r:R ZL H1 u v) (p:Jx K W (k u g1) ZL H1 D)
inductive Zk(f:Su->G->Out Fl)(D:Ends)(Y:L2.St)(H:Hp):Prop
 |mk (ZY:Su) (ρ:List Addr) (g:G) (hs:RS K ρ H ZY Y) (hg:RH K ρ H g) (p:Jx K W (f ZY g) ρ H D)
end
section
variable{W:XQ}{V3 V2:Type}{R:List Addr->Hp->α->β->Prop}{R':List Addr->Hp->V3->V2->Prop}
def post.from{o:Out α}{Q:β->Hp->Prop}(h:post K W R o ρ H Q)(s:ZI K ρ H ZN H'):post K W R o ZN H' Q:=by
 cases o with
 |ok u g=>exactλv b H2 a=>h v b H2 (s.trans a)
 |exc c fs g=>exactλv b H2 a=>h v b H2 (s.trans a)
 |ZV=>exact h
def Jx.from{o:Out Fl}{D:Ends}(h:Jx K W o ρ H D)(s:ZI K ρ H ZN H'):Jx K W o ZN H' D:=by
 cases o with
 |ok f g=>cases f<;>exactλv b H2 a=>h v b H2 (s.trans a)
 |exc c fs g=>exactλv b H2 a=>h v b H2 (s.trans a)
 |ZV=>exact h
def post.bind{o:Out α}{k:α->G->Out V3}{Q:V2->Hp->Prop}(h:post K W R' (o.bind k) ρ H Q):
  post K W R o ρ H (PB K W R R' ρ H k Q):=by
 cases o with
 |ok u g=>exactλv d H1 a h1 b=>⟨d,u,g,a,h1,b,post.from (o:=k u g) h a⟩
 |exc c fs g=>exact h
 |ZV=>exact h
def Jx.bind{o:Out α}{k:α->G->Out Fl}{D:Ends}(h:Jx K W (o.bind k) ρ H D):
  post K W R o ρ H (PC K W R ρ H k D):=by
 cases o with
 |ok u g=>exactλv d H1 a h1 b=>⟨d,u,g,a,h1,b,Jx.from (o:=k u g) h a⟩
 |exc c fs g=>exact h
 |ZV=>exact h
def post.mono{o:Out α}{Q Q':β->Hp->Prop}(h:post K W R o ρ H Q)(q:∀v H1,Q v H1->Q' v H1):post K W R o ρ H Q':=by
 cases o with
 |ok u g=>exactλv d H1 a h1 b=>q _ _ (h v d H1 a h1 b)
 |exc c fs g=>exact h
 |ZV=>exact h
def post.Y5{u:α}{v:β}{Q:β->Hp->Prop}(h:post K W R (.ok u g) ρ H Q)(a:RH K ρ H g)(r:R ρ H u v):Q v H:=h v ρ H .refl a r
def post.lift{o:Option α}{g:G}{Q:β->Hp->Prop}(h:post K W R (lift o g) ρ H Q):∃u,o=some u/\post K W R (.ok u g) ρ H Q:=by
 cases o with
 |none=>exact h.elim
 |some u=>exact⟨u,rfl,h⟩
end
def _root_.L2.PE.imp{t t':TE}(h:PE X e t)(q:∀Y H Q,t' Y H Q->t Y H Q):PE X e t':=λO s Y H Q I h'=>h O s Y H Q I (q Y H Q h')
def _root_.L2.PT.imp{t t':TT}(h:PT X e t)(q:∀Y H Q,t' Y H Q->t Y H Q):PT X e t':=λO s Y H Q I h'=>h O s Y H Q I (q Y H Q h')
def _root_.L2.PW.imp{t t':TT}(h:PW X e t)(q:∀Y H Q,t' Y H Q->t Y H Q):PW X e t':=λa O s Y H Q I h'=>h a O s Y H Q I (q Y H Q h')
def _root_.L2.PA.imp{e:List Expr}{t t':TA}(h:PA X e t)(q:∀Y H Q,t' Y H Q->t Y H Q):PA X e t':=λpos O s Y H Q I h'=>h pos O s Y H Q I (q Y H Q h')
def _root_.L2.PS.imp{e:Stmt}{t t':TS}(h:PS X e t)(q:∀D Y H,t' D Y H->t D Y H):PS X e t':=λO s Y H Q I h'=>h O s Y H Q I (q Q Y H h')
def _root_.L2.PSs.imp{e:List Stmt}{t t':TS}(h:PSs X e t)(q:∀D Y H,t' D Y H->t D Y H):PSs X e t':=λO s Y H Q I h'=>h O s Y H Q I (q Q Y H h')
def _root_.L2.PE.ZV{X:Cx}{e:Expr}{K:Hf}{W:XQ}{f:Su->G->Out U}(h:∀Y g,f Y g=.ZV):PE X e (tE K W f):=λO s Y H Q I ⟨a,ρ,g,_,_,p⟩=>by rw[h]at p;exact p.elim
def _root_.L2.PT.ZV{X:Cx}{e:Expr}{K:Hf}{W:XQ}{f:Su->G->Out Bool}(h:∀Y g,f Y g=.ZV):PT X e (tT K W f):=λO s Y H Q I ⟨a,ρ,g,_,_,p⟩=>by rw[h]at p;exact p.elim
def _root_.L2.PSs.ZV{X:Cx}{e:List Stmt}{K:Hf}{W:XQ}{f:Su->G->Out Fl}(h:∀Y g,f Y g=.ZV):PSs X e (Zk K W f):=λO s Y H Q I ⟨a,ρ,g,_,_,p⟩=>by rw[h]at p;exact p.elim
def _root_.L2.PS.ZV{X:Cx}{e:Stmt}{K:Hf}{W:XQ}{f:Su->G->Out Fl}(h:∀Y g,f Y g=.ZV):PS X e (Zk K W f):=λO s Y H Q I ⟨a,ρ,g,_,_,p⟩=>by rw[h]at p;exact p.elim
section
variable{W W':XQ}
def aT{b d:Type}{R:List Addr->Hp->α->β->Prop}{e:List Addr->Hp->b->d->Prop}{o:Out α}{k:α->G->Out b}{Q:d->Hp->Prop}(h:post K W e (o.YM.bind k) ρ H Q):
  post K W' R o ρ H (PB K W R e ρ H k Q):=by
 cases o with
 |ok u g=>exactλv i H1 a h1 f=>⟨i,u,g,a,h1,f,post.from (o:=k u g) h a⟩
 |exc c fs g=>exact h.elim
 |ZV=>exact h
end
section
def RV.flat{w:U}{x y:V}(c:RV K ρ H u x)(a:RV K ρ H w y)(e:Ai u w=some b):Dh x=true/\Dh y=true/\Iz x y=b:=by
 cases u<;>cases w<;>simp![Ai,Xc,reduceCtorEq]at e<;>(subst e;cases c;cases a;exact⟨rfl,rfl,rfl⟩)
def dz:∀{S ws:List U} {vs:List V} {b:Bool},RVs K ρ H S vs->RVs K ρ H ws vs->Ap S ws=some b->b=true
 |[],[],_,b,_,_,e=>by simpa[Ap]using e.symm
 |[],_::_,_,b,_,_,e=>by simp[Ap]at e
 |_::_,[],_,b,_,_,e=>by simp[Ap]at e
 |u::S,w::ws,_,b,h1,h2,e=>by
  let⟨v,r,rfl,j,i⟩:=h1;let⟨k,r',e',h,g⟩:=h2;cases e';simp![Ap]at e;cases a:Ai u w with
  |none=>simp[a]at e
  |some c=>
   cases f:Ap S ws with
   |none=>simp[a,f]at e
   |some d=>
    simp![a,f,Xc]at e;subst e;rw[dz i g f];have:c=true:=by
     cases u<;>cases w<;>simp![Ai,Xc,reduceCtorEq]at a<;>(subst a;cases j;cases h;try simp)
    simp[this]
def Jy:U->Bool
 |.ZK|.bl _|.int _|.str _=>true
 |_=>false
def lE{z:U}(e:Ai u z=some b):Jy u=true:=by
 cases u<;>first|rfl|(cases z<;>cases e)
def aco{a:U}(c:RV K ρ H u v)(b:RV K ρ H a v)(e:Jy u=true)(d:Jy a=true):u=a:=by
 cases u<;>first|(cases e;done)|(cases c;cases a<;>first|(cases d;done)|(cases b<;>rfl))
def mw{a z c:U}{h:Bool}(f:RV K ρ H u v)(d:RV K ρ H a v)(e:Ai u z=some b)(g:Ai a c=some h):u=a:=aco f d (lE e) (lE g)
def ly:∀{S f zs:List U} {vs:List V} {b b':Bool},RVs K ρ H S vs->RVs K ρ H f vs->Ap S zs=some b->Ap f zs=some b'->S=f
 |[],_,_,_,_,_,h1,h2,_,_=>by
  cases h1;have:=h2.length;simp at this;exact this.symm
 |_::_,_,[],_,_,_,_,_,e,_=>by simp[Ap]at e
 |u::S,[],_,_,_,_,h1,h2,_,_=>by
  let⟨v,r,rfl,_,_⟩:=h1;cases h2
 |u::S,j::f,z::zs,_,b,b',h1,h2,e,e'=>by
  let⟨v,r,rfl,n,m⟩:=h1;let⟨o,r',q,l,k⟩:=h2;cases q;simp![Ap]at e e';cases g:Ai u z with
  |none=>simp[g]at e
  |some c=>
   cases h:Ap S zs with
   |none=>simp[g,h]at e
   |some d=>
    cases a:Ai j z with
    |none=>simp[a]at e'
    |some c'=>
     cases i:Ap f zs with
     |none=>simp[a,i]at e'
     |some d'=>rw[mw n l g a,ly m k h i]
def dy{w:U}(e:IT u w=some b):(∃S ws,u=.ZW S/\w=.ZW ws/\Ap S ws=some b)\/Ai u w=some b:=by
 cases u<;>cases w<;>first|exact .inr e|exact .inl ⟨_,_,rfl,rfl,e⟩
end
section
variable{Y:L2.St}
def wV{w:U}{x y:V}{v h:Value}(g:RV K ρ H u x)(d:RV K ρ H w y)(f:RelV x v)(c:RelV y h)(e:Ai u w=some b):SeqAt.RcAt A s v h b:=by
 cases u with
 |ZK=>
  cases g;cases f;cases w<;>simp![Ai,Xc,reduceCtorEq]at e
  .subst e;cases d;cases c;exact SeqAt.RcAt.none_none
  .subst e;cases d;cases c;exact SeqAt.RcAt.none_bool _
  .subst e;cases d;let⟨t',rfl⟩:=c;exact SeqAt.RcAt.none_int _ _
  .subst e;cases d;let⟨t',rfl⟩:=c;exact SeqAt.RcAt.none_str _ _
 |bl a=>
  cases g;cases f;cases w<;>simp![Ai,Xc,reduceCtorEq]at e
  .subst e;cases d;cases c;exact SeqAt.RcAt.bool_none _
  .subst e;cases d;cases c;exact SeqAt.RcAt.bool_bool _ _
  .subst e;cases d;let⟨t',rfl⟩:=c;exact SeqAt.RcAt.bool_int _ _ _
  .subst e;cases d;let⟨t',rfl⟩:=c;exact SeqAt.RcAt.bool_str _ _ _
 |int a=>
  cases g;let⟨t,rfl⟩:=f;cases w<;>simp![Ai,Xc,reduceCtorEq]at e
  .subst e;cases d;cases c;exact SeqAt.RcAt.int_none _ _
  .subst e;cases d;cases c;exact SeqAt.RcAt.int_bool _ _ _
  .subst e;cases d;let⟨t',rfl⟩:=c;exact SeqAt.RcAt.int_int _ _ _ _
  .subst e;cases d;let⟨t',rfl⟩:=c;exact SeqAt.RcAt.int_str _ _ _ _
 |str a=>
  cases g;let⟨t,rfl⟩:=f;cases w<;>simp![Ai,Xc,reduceCtorEq]at e
  .subst e;cases d;cases c;exact SeqAt.RcAt.str_none _ _
  .subst e;cases d;cases c;exact SeqAt.RcAt.str_bool _ _ _
  .subst e;cases d;let⟨t',rfl⟩:=c;exact SeqAt.RcAt.str_int _ _ _ _
  .subst e;cases d;let⟨t',rfl⟩:=c;exact SeqAt.RcAt.str_str _ _ _ _
 |_=>simp[Ai]at e
def jN{K:Hf}{ρ:List Addr}:∀{S ws:List U} {xs ys:List V} {vs o:List Value} {b:Bool},RVs K ρ H S xs->RVs K ρ H ws ys->ZG xs vs->ZG ys o->Ap S ws=some b ->
  ∃e:Nat->Bool,vs.length=o.length/\(∀j (h1:j<vs.length) (h2:j<o.length),SeqAt.EqAt A s vs[j] o[j] (e j))/\(List.range vs.length).all e=b
 |[],[],_,_,_,_,b,h1,h2,g,a,e=>by
  cases h1;cases h2;cases g;cases a;simp![Ap,Xc]at e;subst e;exact⟨λ_=>true,rfl,λj h1=>absurd h1 #[3],rfl⟩
 |[],_::_,_,_,_,_,b,h1,h2,g,a,e=>by simp[Ap]at e
 |_::_,[],_,_,_,_,b,h1,h2,g,a,e=>by simp[Ap]at e
 |u::S,w::ws,_,_,_,_,b,h1,h2,g,a,e=>by
  let⟨x,xs,rfl,L,J⟩:=h1;let⟨y,ys,rfl,I,G⟩:=h2;cases g with
  |cons z g=>
  cases a with
  |cons t a=>
  simp![Ap]at e;cases k:Ai u w with
  |none=>simp[k]at e
  |some c=>
   cases r:Ap S ws with
   |none=>simp[k,r]at e
   |some d=>
    simp![k,r,Xc]at e;subst e;let⟨f,l,B,C⟩:=jN J G g a r;let⟨E,D,F⟩:=L.flat I k;refine⟨λj=>match j with|0=>c|j+1=>f j,by simp[l],λj h1 h2=>?_,?_⟩
    .cases j with
     |zero=>subst F;exact gX z t E D
     |succ j=>exact B j (by simpa using h1) (by simpa using h2)
    .subst C
     rw[Xb,Ol,Pd,List.all_map]
     rfl
def nJ{w:U}{x y:V}{v d:Value}(I:Z0 X O Y H s)(q:A.units<cLine)(k:RV X.K ρ H u x)(i:RV X.K ρ H w y)(h:RelV x v)(g:RelV y d)(e:IT u w=some b):SeqAt.RcAt A s v d b:=by
 by_cases m:∃S ws,u=.ZW S/\w=.ZW ws
 .obtain ⟨S,ws,rfl,rfl⟩:=m
  let⟨a,xs,rfl,h1,h2⟩:=k;let⟨a',ys,rfl,B,z⟩:=i;cases h;cases g;let⟨ZU,o,p,_⟩:=I.tuple h1.sq;let⟨c,n,p2,_⟩:=I.tuple B.sq;let⟨f,l,r,t⟩:=jN (A:=A.in1) (s:=s) h2 z o n e;have:=SeqAt.RcAt.tuples (A:=A) (s:=s) (l:=a) (b:=a') (items:=ZU.toArray) (items2:=c.toArray) (e:=f) p p2 q (λj h1 h2=>by simpa using r j (by simpa using h1) (by simpa using h2))
  have C:((List.range (min ZU.toArray.size c.toArray.size)).all f&&ZU.toArray.size==c.toArray.size)=b:=by simp[<-l,t]
  rw[C]at this;exact this
 .have e':Ai u w=some b:=by
   cases u<;>cases w<;>first|exact e|exact absurd ⟨_,_,rfl,rfl⟩ m
  exact wV k i h g e'
def ij{w:U}{x y:V}{v h:Value}(I:Z0 X O Y H s)(k:A.units<cLine)(g:RV X.K ρ H u x)(f:RV X.K ρ H w y)(d:RelV x v)(c:RelV y h)(e:IT u w=some b):SeqAt.EqAt A s v h b:=by
 by_cases i:∃S ws,u=.ZW S/\w=.ZW ws
 .have rc:=nJ I k g f d c e
  let⟨S,ws,rfl,rfl⟩:=i;let⟨a,xs,rfl,h1,h2⟩:=g;let⟨a',ys,rfl,m,l⟩:=f;cases d;cases c;by_cases j:a=a'
  .subst j
   obtain rfl:=I.UP h1.sq m.sq;have:=dz h2 l e;subst this;exact Oq _
  .exact SeqAt.EqAt.of_refs j rc
 .have e':Ai u w=some b:=by
   cases u<;>cases w<;>first|exact e|exact absurd ⟨_,_,rfl,rfl⟩ i
  let⟨o,n,p⟩:=g.flat f e';subst p;exact gX d c o n
def ud{w:U}{y:V}(I:Z0 X O Y H s)(d:RV X.K ρ H u y)(c:RV X.K ρ H w y)(e:IT u w=some b):b=true:=by
 rcases dy e with⟨S,ws,rfl,rfl,e⟩|e
 .obtain ⟨a,xs,rfl,i,h⟩:=d
  let⟨a',ys,q,g,f⟩:=c;cases q;obtain rfl:=I.UP i.sq g.sq;exact dz h f e
 .have:=dz (b:=b&&true) (RVs.one d) (RVs.one c) (by simp![Ap,e])
  simpa using this
def dO{ρ:List Addr}{q:U->U->Option Bool}(n:∀u w x y v m b,RV X.K ρ H u x->RV X.K ρ H w y->RelV x v->RelV y m->q u w=some b->SeqAt.EqAt A s v m b):∀{S ws:List U} {xs ys:List V} {ZU its':List Value} {b:Bool},RVs X.K ρ H S xs->RVs X.K ρ H ws ys->ZG xs ZU->ZG ys its'->IZ q S ws=some b ->
  ∃f:Nat->Bool,ZU.length=its'.length/\(∀j (h1:j<ZU.length) (h2:j<its'.length),SeqAt.EqAt A s ZU[j] its'[j] (f j))/\(List.range ZU.length).all f=b
 |[],[],_,_,_,_,b,h1,h2,g,a,e=>by
  cases h1;cases h2;cases g;cases a;simp![IZ,Xc]at e;subst e;exact⟨λ_=>true,rfl,λj h=>by simp at h,rfl⟩
 |[],_::_,_,_,_,_,_,_,_,_,_,e=>by simp[IZ]at e
 |_::_,[],_,_,_,_,_,_,_,_,_,e=>by simp[IZ]at e
 |u::S,w::ws,_,_,_,_,b,h1,h2,g,a,e=>by
  let⟨x,xs,rfl,D,C⟩:=h1;let⟨y,ys,rfl,B,z⟩:=h2;cases g with
  |cons p g=>
  cases a with
  |cons o a=>
  simp![IZ]at e;cases i:q u w with
  |none=>simp[i]at e
  |some c=>
   cases k:IZ q S ws with
   |none=>simp[i,k]at e
   |some d=>
    simp![i,k,Xc]at e;subst e;let⟨f,l,r,t⟩:=dO n C z g a k;refine⟨λj=>match j with|0=>c|j+1=>f j,by simp[l],λj h1 h2=>?_,?_⟩
    .cases j with
     |zero=>exact n u w x y _ _ c D B p o i
     |succ j=>exact r j (by simpa using h1) (by simpa using h2)
    .subst t
     rw[Xb,Ol,Pd,List.all_map]
     rfl
def lM{ρ:List Addr}{q:U->U->Option Bool}(g:∀u w y b,RV X.K ρ H u y->RV X.K ρ H w y->q u w=some b->b=true):∀{S ws:List U} {xs:List V} {b:Bool},RVs X.K ρ H S xs->RVs X.K ρ H ws xs->IZ q S ws=some b->b=true
 |[],[],_,b,_,_,e=>by simpa[IZ]using e.symm
 |[],_::_,_,_,_,_,e=>by simp[IZ]at e
 |_::_,[],_,_,_,_,e=>by simp[IZ]at e
 |u::S,w::ws,_,b,h1,h2,e=>by
  let⟨x,xs,rfl,k,j⟩:=h1;let⟨y,ys,z,i,h⟩:=h2;cases z;simp![IZ]at e;cases a:q u w with
  |none=>simp[a]at e
  |some c=>
   cases f:IZ q S ws with
   |none=>simp[a,f]at e
   |some d=>
    simp![a,f,Xc]at e;rw[<-e,g u w _ c k i a,lM g j h f]
    rfl
def zh{w:U}{x y:V}{v h:Value}(I:Z0 X O Y H s)(D:A.units+1<cLine)(o:RV X.K ρ H u x)(n:RV X.K ρ H w y)(m:RelV x v)(k:RelV y h)(e:CN u w=some b):SeqAt.EqAt A s v h b:=by
 by_cases p:∃S ws,u=.ZW S/\w=.ZW ws
 .obtain ⟨S,ws,rfl,rfl⟩:=p
  let⟨a,xs,rfl,h1,h2⟩:=o;let⟨a',ys,rfl,t,r⟩:=n;cases m;cases k;have e:IZ IT S ws=some b:=e;by_cases q:a=a'
  .subst q
   obtain rfl:=I.UP h1.sq t.sq;have:=lM (λu w y b g d i=>ud I g d i) h2 r e;subst this;exact Oq _
  .refine SeqAt.EqAt.of_refs q ?_
   let⟨ZU,g,C,_⟩:=I.tuple h1.sq;let⟨c,d,p2,_⟩:=I.tuple t.sq;let⟨f,l,E,F⟩:=dO (A:=A.in1) (s:=s) (λu w x y v h b g d i B z=>ij (A:=A.in1) I D g d i B z) h2 r g d e;have:=SeqAt.RcAt.tuples (A:=A) (s:=s) (l:=a) (b:=a') (items:=ZU.toArray) (items2:=c.toArray) (e:=f) C p2 (by lia) (λj h1 h2=>by simpa using E j (by simpa using h1) (by simpa using h2))
   have M:((List.range (min ZU.toArray.size c.toArray.size)).all f&&ZU.toArray.size==c.toArray.size)=b:=by simp[<-l,F]
   rw[M]at this;exact this
 .have e':Ai u w=some b:=by
   cases u<;>cases w<;>first|exact e|exact absurd ⟨_,_,rfl,rfl⟩ p
  let⟨J,G,L⟩:=o.flat n e';subst L;exact gX m k J G
end
section
variable{W:XQ}
inductive OpX(X:Cx)(f:U->U->G->Option Bool)(x y:V)(H:Hp)(Q:VK):Prop
 |mk (ρ:List Addr) (g:G) (u w:U) (b:Bool) (hg:RH X.K ρ H g) (r1:RV X.K ρ H u x) (r2:RV X.K ρ H w y) (e:f u w g=some b) (q:Q (.bl b) H)
def abf(i:X.A.units<cLine):OpR X (compareOp .Eq) (OpX X λu w _=>IT u w):=by
 intro O s Y H x y v u Q I d c ⟨ρ,g,a,w,b,j,h,f,e,q⟩;exact nJ I i h f d c e X.prog X.w X.xe _ ⟨.bl b,H,I,rfl,q⟩
def jP{x:U}{p:List U×List U}(e:Bd x y g=some p):∃n m,x=.ref n/\y=.ref m/\g[n]?=some (.Z5 p.1)/\g[m]?=some (.Z5 p.2):=by
 unfold Bd at e;split at e
 .split at e
  .split at e
   .split at e
    .rename_i h1 _ _ h2
     cases e;exact⟨_,_,rfl,rfl,h1,h2⟩
    .cases e
   .cases e
  .cases e
 .cases e
def xJ(K:X.A.units+2<cLine):OpR X (compareOp .Eq) (OpX X λu w g=>(Bd u w g).bind λp=>I8 p.1 p.2):=by
 intro O s Y H x y v u Q I C B ⟨ρ,g,a,w,b,k,E,D,hl,q⟩;let⟨p,hl,e⟩:=W5.mp hl;let⟨n,m,rfl,rfl,N,g2⟩:=jP hl;let⟨Z,vs,S,R,r⟩:=k.Z5 N;let⟨W,ws,P,J4,o⟩:=k.Z5 g2;let⟨U,rfl,z⟩:=E;rw[S]at z;cases z;let⟨T,rfl,z⟩:=D;rw[P]at z;cases z;cases C;cases B;let⟨ZU,d,h,_⟩:=I.list (.of R);let⟨i,c,p2,_⟩:=I.list (.of J4);unfold I8 at e;split at e
 case isFalse t=>
  cases e;refine SeqAt.eq_list_lengthsAt h.isList p2.isList ?_ (by lia) ⟨.bl false,H,I,rfl,q⟩
  rw[r.length,o.length,d.length,c.length]at t;simpa using t
 let⟨f,l,L,M⟩:=dO (A:=X.A.in1) (s:=s) (λu w x y v V b d c J G F=>zh (A:=X.A.in1) I (by exact K) d c J G F) r o d c e
 refine SeqAt.eq_listAt (e:=f) h.isList p2.isList (by simp[l]) (by lia) (λj h1 h2=>by simpa using L j (by simpa using h1) (by simpa using h2)) ?_
 refine⟨.bl b,H,I,?_,q⟩;rw[<-M];simp![XA]
 rfl
def cG{x:V}(h:RH K ρ H g)(b:RV K ρ H u x)(e:items u g=some S):∃a vs,x=.ref a/\(SqL K H a vs\/SqT K H a vs)/\RVs K ρ H S vs:=by
 cases u with
 |ZW xs=>let⟨a,vs,rfl,h1,h2⟩:=b;cases e;exact⟨a,vs,rfl,.inr h1.sq,h2⟩
 |Zx xs=>let⟨a,vs,rfl,h1,h2⟩:=b;cases e;exact⟨a,vs,rfl,.inl h1.sq,h2⟩
 |xn _ xs=>let⟨a,vs,rfl,h1,h2⟩:=b;cases e;exact⟨a,vs,rfl,.inr h1.sq,h2⟩
 |ref n=>
  let⟨a,rfl,c⟩:=b;simp![items]at e;cases eg:g[n]? with
  |none=>simp[eg]at e
  |some o=>
   cases o with
   |Z5 xs=>
    simp![eg,Xc]at e;subst e;let⟨a',vs,h1,h2,d⟩:=h.Z5 eg;rw[c]at h1;cases h1;exact⟨a,vs,rfl,.inl (.of h2),d⟩
   |ZF _=>simp[eg]at e
   |Zq _=>simp[eg]at e
   |dst _=>simp[eg]at e
   |ins _ _=>simp[eg]at e
 |_=>simp[items]at e
def uX{Y:L2.St}{w d:U}{y:V}{c j:Bool}(I:Z0 X O Y H s)(i:RV X.K ρ H w y)(h:RV X.K ρ H d y)(e:IT w u=some c)(b:IT d u=some j):c=j:=by
 have g:w=d:=by
  rcases dy e with⟨S,zs,rfl,rfl,e⟩|e
  .rcases dy b with⟨o,f,rfl,q,b⟩|b
   .cases q
    let⟨a,vs,rfl,n,m⟩:=i;let⟨a',p,q,l,k⟩:=h;cases q;obtain rfl:=I.UP n.sq l.sq;rw[ly m k e b]
   .cases d<;>simp[Ai]at b
  .rcases dy b with⟨o,f,rfl,rfl,b⟩|b
   .cases w<;>simp[Ai]at e
   .exact mw i h e b
 subst g;rw[e]at b;exact WQ b
def iV{a:Type}{e f:a->Bool}:∀{l:List a},(∀z∈l,e z=f z)->l.any e=l.any f
 |[],_=>rfl
 |x::l,h=>by rw[Ub,Ub,h x Wv,iV λz b=>h z (G9 _ b)]
def cB{ρ:List Addr}{H:Hp}{O:List (Addr×Obj)}{Y:L2.St}{s:Shared}{A:Around}{u:U}{x:V}{v:Value}(I:Z0 X O Y H s)(B:A.units<cLine)(t:RV X.K ρ H u x)(r:RelV x v):
  ∀{S:List U} {vs:List V} {ZU:List Value} {b:Bool},RVs X.K ρ H S vs->ZG vs ZU->IX u S=some b ->
   ∃e:Value->Bool,(∀y∈ZU,SeqAt.EqAt A s y v (e y))/\ZU.any e=b /\∀w y a c,RV X.K ρ H w y->RelV y a->a∈ZU->IT w u=some c->e a=c
 |[],_,_,b,h,q,e=>by
  cases h;cases q;simp![IX,Xc]at e;subst e;exact⟨λ_=>false,λy m=>by simp at m,rfl,λ_ _ _ _ _ _ n=>by simp at n⟩
 |w::S,_,_,b,h,q,e=>by
  let⟨y,ys,rfl,p,J⟩:=h;cases q with
  |cons k q=>
  rename_i a ZU;simp![IX]at e;cases i:IT w u with
  |none=>simp[i]at e
  |some c=>
   cases o:IX u S with
   |none=>simp[i,o]at e
   |some d=>
    simp![i,o,Xc]at e;subst e;let⟨f,F,G,C⟩:=cB I B t r J q o;have m:SeqAt.EqAt A s a v c:=ij I B p t k r i;have same:∀z∈ZU,(if z=a then c else f z)=f z:=λz l=>by
     by_cases g:z=a
     .subst g
      rw[Yn rfl];exact(C w y _ c p k l i).symm
     .rw [Yb g]
    refine⟨λz=>if z=a then c else f z,λz l=>?_,?_,λE D j c' h1 h2 n e'=>?_⟩
    .by_cases g:z=a
     .subst g;simpa using m
     .rcases Xq.mp l with h|h
      .exact absurd h g
      .simpa [g]using F z h
    .rw [Ub,iV same,G]
     simp
    .by_cases g:j=a
     .subst g
      obtain rfl:=h2.inj k;simpa using(uX I p h1 i e')
     .rcases Xq.mp n with h|h
      .exact absurd h g
      .simpa [g]using C E D j c' h1 h2 h e'
def zF(n:X.A.units+1<cLine):OpR X (compareOp .In) (OpX X λu w g=>(items w g).bind (IX u)):=by
 intro O s Y H x y v u Q I l o ⟨ρ,g,a,w,b,z,m,r,k,q⟩;let⟨S,k,e⟩:=W5.mp k;let⟨p,vs,rfl,c,rs⟩:=cG z r k;cases o;rcases c with c|c
 .obtain ⟨ZU,d,pl,t⟩:=I.list c
  let⟨f,i,j,_⟩:=cB (A:=X.A.in1) I (by exact n) m l rs d e
  exact SeqAt.in_listAt f pl.isList (λw h=>i w (by simpa using h)) ⟨.bl b,H,I,by rw[show ZU.toArray.any f=ZU.any f by simp,j];rfl,q⟩
 .obtain ⟨ZU,d,pl,t⟩:=I.tuple c
  let⟨f,i,j,_⟩:=cB (A:=X.A.in1) I (by exact n) m l rs d e
  exact SeqAt.in_tupleAt f pl (λw h=>i w (by simpa using h)) ⟨.bl b,H,I,by rw[show ZU.toArray.any f=ZU.any f by simp,j];rfl,q⟩
def wR(m:X.A.units+1<cLine):OpR X (compareOp .NotIn) (OpX X λu w g=>(items w g).bind λS=>(IX u S).map (!·)):=by
 intro O s Y H x y v u Q I k n ⟨ρ,g,a,w,D,t,l,o,C,q⟩;let⟨S,z,B⟩:=W5.mp C;let⟨b,e,rfl⟩:=X7.mp B;let⟨p,vs,rfl,c,rs⟩:=cG t o z;cases n;rcases c with c|c
 .obtain ⟨ZU,d,pl,r⟩:=I.list c
  let⟨f,i,j,_⟩:=cB (A:=X.A.in1) I (by exact m) l k rs d e
  exact SeqAt.notIn_listAt f pl.isList (λw h=>i w (by simpa using h)) ⟨.bl (!b),H,I,by rw[show ZU.toArray.any f=ZU.any f by simp,j];rfl,q⟩
 .obtain ⟨ZU,d,pl,r⟩:=I.tuple c
  let⟨f,i,j,_⟩:=cB (A:=X.A.in1) I (by exact m) l k rs d e
  exact SeqAt.notIn_tupleAt f pl (λw h=>i w (by simpa using h)) ⟨.bl (!b),H,I,by rw[show ZU.toArray.any f=ZU.any f by simp,j];rfl,q⟩
end
open PySem PySem.Spec PyProof.Rows L2 PySem.W
def dm{c a:Type}{M:Model}{h:Heap}{f:c->a->Sem (ForInStep a)}{g:a->c->a}(I:List c->a->Prop)(d:∀x r b,I (x::r) b->Looks M h (f x b) (.yield (g b x))/\I r (g b x)):∀(l:List c) (b:a),I l b->Looks M h (forIn l b f) (l.foldl g b)
 |[],b,_=>by rw[List.forIn_nil];exact .now
 |x::l,b,hi=>by
  rw[Pp];exact(d x l b hi).1.andThen (dm I d l _ (d x l b hi).2)
def AQ(b:List (Str×Value))(x:Str×Value):List (Str×Value):=if(b.lookup x.1).isNone=true then b++[x]else b
def aU{a:Type}{n:Str}:∀{b c:List (Str×a)},(b++c).lookup n=match b.lookup n with|some v=>some v|none=>c.lookup n
 |[],c=>rfl
 |(m,v)::b,c=>by
  rw[Qr,WW,WW];cases n==m with
  |true=>rfl
  |false=>exact aU
def iC{n:Str}{b:List (Str×Value)}{x:Str×Value}:(AQ b x).lookup n=(b++[x]).lookup n:=by
 unfold AQ;split
 .rfl
 .rename_i h
  rw[aU];cases e:b.lookup n with
  |some v=>rfl
  |none=>
   let⟨m,v⟩:=x;simp![WW,List.lookup_nil];cases q:n==m with
   |false=>rfl
   |true=>rw[eq_of_beq q]at e;rw[e]at h;exact absurd rfl h
def dk{n:Str}:∀{l b:List (Str×Value)},(l.foldl AQ b).lookup n=(b++l).lookup n
 |[],b=>by simp
 |x::l,b=>by
  rw[US,dk,aU,iC,<-aU,XU]
  rfl
def jL{a:Type}{n:Str}:∀{l:List (Str×a)},(l.map (·.1)).contains n=false->l.lookup n=none
 |[],_=>rfl
 |(m,v)::l,h=>by
  rw[Y2,List.contains_cons,Uo]at h;rw[WW,h.1];exact jL h.2
def fv{a:Type}{n:Str}:∀{l:List (Str×a)},(l.map (·.1)).contains n=true->(l.lookup n).isSome=true
 |[],h=>by cases h
 |(m,v)::l,h=>by
  rw[Y2,List.contains_cons,UC]at h;rw[WW];cases q:n==m with
  |true=>rfl
  |false=>
   rcases h with h|h
   .rw [q]at h;cases h
   .exact fv h
def cC{a:Type}:∀{ns:List Str} {S:List a},(ns.zip S).map (·.1)=ns.take S.length
 |[],_=>by simp
 |_::_,[]=>by simp
 |n::ns,u::S=>by simp[cC (ns:=ns) (S:=S)]
def qa{K:Frag}{M:Model}{ns ks:List Str}{S:List Value}{kw:List (Str×Value)}{c:Option (Array Value)}{kd:Str->Value}(X:K.In h)
  (J:fd.params.posonlyargs=[]) (I:fd.params.args.map (·.arg)=ns) (H:fd.params.vararg=none) (G:fd.params.kwonlyargs.map (·.arg)=ks) (F:fd.params.kwarg=none)
  (E:Looks M h (seqItems? fd.defaults) c) (k:(c.getD #[]).toList.length<=ns.length) (Y:S.length<=ns.length) (T:∀p∈kw,(ns.contains p.1||ks.contains p.1)=true) (D:Cv (ns.take S.length) (kw.map (·.1))=true)
  (A:∀n∈ns.take (ns.length-(c.getD #[]).toList.length),(ns.take S.length++kw.map (·.1)).contains n=true)
  (B:∀n∈ks,(ns.take S.length++kw.map (·.1)).contains n=false ->∃d,fd.kwdefaults=.ref d/\nsIn K d n=some (some (kd n))) :
  Looks M h (bindArgs fd ⟨S,kw⟩) ((ns++ks).filterMap λn=>((ns.zip S++(kw++((ns.drop (ns.length-(c.getD #[]).toList.length)).zip (c.getD #[]).toList++ks.map λn=>(n,kd n)))).lookup n).map (n,·)):=by
 unfold bindArgs;simp![J,I,H,G,F,Px,Ry,Option.isSome_none,Xh,Vn];have Q:∀(l:List (Str×Value)) (b:List (Str×Value)×List (Str×Value)),l.foldl (λb x=>(b.1++[x],b.2)) b=(b.1++l,b.2):=by
  intro l
  induction l with
  |nil=>intro b;simp
  |cons x l ih=>intro b;rw[US,ih];simp
 refine Looks.andThen (a:=(ns.zip S++kw,[])) ?l1 ?W
 case l1=>
  have:=Q kw (ns.zip S,[]);rw[<-this];refine dm (g:=λ(b:List (Str×Value)×List (Str×Value)) x=>(b.1++[x],b.2)) (λr b=>(∀p∈r,(ns.contains p.1||ks.contains p.1)=true)/\Cv (b.1.map (·.1)) (r.map (·.1))=true) ?_ kw _ ⟨T,by rw[cC];exact D⟩
  rintro x r b ⟨o,f⟩;rw[Y2,Cv,Z1,W3]at f;refine⟨?_,λp y=>o p (G9 _ y),by rw[T_];exact f.2⟩
  rw[Yn (o x Wv),jL f.1];exact .now
 refine E.andThen ?_;have C : ¬ S.length > ns.length:=by lia
 generalize Z:(c.getD #[]).toList=ds at *;have P:List.drop (ds.length-ns.length) ds=ds:=by rw[Nat.sub_eq_zero_of_le k,OB]
 simp![Vu C,QM,Xh,Vn,P];have O:List.filter (λn=>((ns.zip S++kw).lookup n).isNone) (ns.take (ns.length-ds.length))=[]:=by
  rw[RY];intro x w;have:=fv (l:=ns.zip S++kw) (n:=x) (by rw[T_,cC];exact A x w)
  cases q:(ns.zip S++kw).lookup x with
  |none=>rw[q]at this;cases this
  |some v=>simp
 simp![O,List.isEmpty_nil,Bool.not_true,Xh,Vn];have N:∀(l:List Str) (b:List (Str×Value)×List Str),l.foldl (λ(b:List (Str×Value)×List Str) n=>(AQ b.1 (n,kd n),b.2)) b=((l.map λn=>(n,kd n)).foldl AQ b.1,b.2):=by
  intro l
  induction l with
  |nil=>intro b;rfl
  |cons x l ih=>intro b;rw[US,ih];rfl
 refine Looks.andThen (a:=List.foldl AQ (ns.zip S++kw) ((ns.drop (ns.length-ds.length)).zip ds)) ?u ?V
 case u=>
  refine dm (g:=AQ) (λ_ _=>True) ?_ _ _ trivial;rintro x r b -;refine⟨?_,trivial⟩;unfold AQ;split
  .exact .now
  .exact .now
 refine Looks.andThen (a:=((ks.map λn=>(n,kd n)).foldl AQ (List.foldl AQ (ns.zip S++kw) ((ns.drop (ns.length-ds.length)).zip ds)),[])) ?t ?U
 case t=>
  have:=N ks (List.foldl AQ (ns.zip S++kw) ((ns.drop (ns.length-ds.length)).zip ds),[]);rw[<-this];refine dm (g:=λ(b:List (Str×Value)×List Str) n=>(AQ b.1 (n,kd n),b.2)) (λr b=>∀n∈r,(b.1.lookup n).isNone=true ->∃d,fd.kwdefaults=.ref d/\nsIn K d n=some (some (kd n))) ?_ ks _ ?_
  .intro x r b q
   refine⟨?_,λn j hi=>?_⟩
   .dsimp only [AQ]
    split
    .rename_i hi
     let⟨d,R,J4⟩:=q x Wv hi;rw[R];exact(looks_nsIn X J4).andThen .now
    .exact .now
   .refine q n (G9 _ j) ?_
    have:=iC (n:=n) (b:=b.1) (x:=(x,kd x));dsimp only at hi;rw[this,aU]at hi;cases e:b.1.lookup n with
    |none=>rfl
    |some v=>rw[e]at hi;cases hi
  .intro n j hi
   refine B n j ?_;dsimp only at hi;rw[dk,aU]at hi;cases e:(ns.zip S++kw).lookup n with
   |some v=>rw[e]at hi;cases hi
   |none=>
    rw[Bool.eq_false_iff];intro z;have:=fv (l:=ns.zip S++kw) (n:=n) (by rw[T_,cC];exact z)
    rw[e]at this;cases this
 simp![List.isEmpty_nil,Bool.not_true,Xh,Vn];have L:∀n,(List.foldl AQ (List.foldl AQ (ns.zip S++kw) ((ns.drop (ns.length-ds.length)).zip ds)) (ks.map λn=>(n,kd n))).lookup n=(ns.zip S++(kw++((ns.drop (ns.length-ds.length)).zip ds++ks.map λn=>(n,kd n)))).lookup n:=λn=>by
  rw[dk,aU,dk,<-aU];simp![XU]
 simp![L];exact .now
inductive F2{α β:Type}(R:α->β->Prop):List α->List β->Prop
 |nil:F2 R [] []
 |cons {a:α} {b:β} {l:List α} {m:List β}:R a b->F2 R l m->F2 R (a::l) (b::m)
section
variable{R:α->β->Prop}
def PR(R:α->β->Prop)(p:Str×α)(q:Str×β):Prop:=p.1=q.1/\R p.2 q.2
def F2.zip{l:List α}{m:List β}(h:F2 R l m):∀ns:List Str,F2 (PR R) (ns.zip l) (ns.zip m):=by
 induction h with
 |nil=>intro ns;cases ns<;>exact .nil
 |cons r _ ih=>
  intro ns;cases ns with
  |nil=>exact .nil
  |cons n ns=>exact .cons ⟨rfl,r⟩ (ih ns)
def F2.append{l b:List α}{m a:List β}(h:F2 R l m)(h':F2 R b a):F2 R (l++b) (m++a):=by
 induction h with
 |nil=>exact h'
 |cons r _ ih=>exact .cons r ih
def F2.lookup{l:List (Str×α)}{m:List (Str×β)}(h:F2 (PR R) l m)(n:Str):(l.lookup n=none/\m.lookup n=none) \/∃a b,l.lookup n=some a/\m.lookup n=some b/\R a b:=by
 induction h with
 |nil=>exact .inl ⟨rfl,rfl⟩
 |@cons a b l m r _ ih=>
  let⟨c,a⟩:=a;let⟨d,b⟩:=b;let⟨e,r⟩:=r;dsimp only at e r;subst e;rw[WW,WW];cases q:n==c with
  |true=>exact .inr ⟨a,b,rfl,rfl,r⟩
  |false=>exact ih
def F2.filterMap{f:Str->Option α}{c:Str->Option β}(h:∀n,(f n=none/\c n=none) \/∃a b,f n=some a/\c n=some b/\R a b):∀ns:List Str,F2 R (ns.filterMap f) (ns.filterMap c)
 |[]=>.nil
 |n::ns=>by
  rw[V0,V0];rcases h n with⟨a,b⟩|⟨x,y,a,b,r⟩
  .rw [a,b];exact F2.filterMap h ns
  .rw [a,b];exact .cons r (F2.filterMap h ns)
end
def cz{R:α->β->Prop}{ns ks kw:List Str}{dd:List (Str×α)}{d:List (Str×β)}{S b:List α}{c a:List β}(g:F2 (PR R) dd d)(f:F2 R S c)(e:F2 R b a):F2 R (place ns ks kw dd S b) (place ns ks kw d c a):=
 F2.filterMap (λn=>((f.zip ns).append ((e.zip kw).append g)).lookup n) _
def jg{a:Type}{f:Str->Option a}:∀{ps:List Str},(ps.filterMap f).length=ps.length->(ps.filterMap λn=>(f n).map (n,·))=ps.zip (ps.filterMap f)
 |[],_=>rfl
 |n::ps,h=>by
  rw[V0]at h ⊢;rw[V0];cases e:f n with
  |none=>
   rw[e]at h;have:=List.length_filterMap_le f ps;simp![Xb]at h;lia
  |some v=>
   rw[e]at h;simp![VO,Rn];rw[jg (by simpa using h)]
def fz{S:List U}:∀{l pre post:List U},S=pre++(l++post)->F2 (λp u=>pick S p=u) ((List.range' pre.length l.length).map Sum.inl) l
 |[],_,_,_=>.nil
 |x::l,pre,post,e=>by
  rw[Xb,List.range'_succ,Y2];refine .cons ?_ ?_
  .show S[pre.length]?.getD U.ZK=x
   rw[e,Qr,Wm (G8 _)];simp
  .have:=fz (l:=l) (pre:=pre++[x]) (post:=post) (S:=S) (by rw[e];simp)
   simpa using this
def fA{F:KF}{d:Nat}{kw:List Str}{a:List U}(f:S.length=d)(g:a.length=kw.length):perm (S++a) (BM F d kw)=place F.ns F.ks kw F.dd S a:=by
 have c:∀{l:List (Nat ⊕ U)} {m:List U},F2 (λp u=>pick (S++a) p=u) l m->l.map (pick (S++a))=m:=λ{l m} h=>by
  induction h with
  |nil=>rfl
  |cons r _ ih=>rw[Y2,r,ih]
 refine c (cz ?_ ?_ ?_)
 .have:∀l:List (Str×U),F2 (PR λp u=>pick (S++a) p=u) (l.map λp=>(p.1,Sum.inr p.2)) l:=by
   intro l
   induction l with
   |nil=>exact .nil
   |cons x l ih=>exact .cons ⟨rfl,rfl⟩ ih
  exact this _
 .have:=fz (S:=S++a) (l:=S) (pre:=[]) (post:=a) #[3]
  rw[f]at this;exact this
 .have:=fz (S:=S++a) (l:=a) (pre:=S) (post:=[]) #[3]
  rw[f,g]at this;exact this
def F2.vals{S:List Value}(h:ZG vs S):F2 RelV vs S:=by
 induction h with
 |nil=>exact .nil
 |cons r _ ih=>exact .cons r ih
def F2.toVals{S:List Value}(h:F2 RelV vs S):ZG vs S:=by
 induction h with
 |nil=>exact .nil
 |cons r _ ih=>exact .cons r ih
def F2.VE{K:Frag}{ρ:List Addr}{H:Hp}:∀{S:List U} {vs:List V},RVs K ρ H S vs->F2 (RV K ρ H) S vs
 |[],_,h=>by cases h;exact .nil
 |u::S,_,h=>by let⟨v,r,rfl,h1,h2⟩:=h;exact .cons h1 (F2.VE h2)
def F2.Td{K:Frag}(h:F2 (RV K ρ H) S vs):RVs K ρ H S vs:=by
 induction h with
 |nil=>rfl
 |cons r _ ih=>exact⟨_,_,rfl,r,ih⟩
structure Xs(K:Frag)(fd:FuncData)(F:KF)(nd:Nat)(Zs:List (Str×V))(dd:List (Str×Value)):Prop where
 h1:fd.params.posonlyargs=[]
 h2:fd.params.args.map (·.arg)=F.ns
 h3:fd.params.vararg=none
 h4:fd.params.kwonlyargs.map (·.arg)=F.ks
 h5:fd.params.kwarg=none
 ds:∃(XE:List Value) (kd:Str->Value),(∀(M:Model) (h:Heap),K.In h ->∃od:Option (Array Value),(od.getD #[]).toList=XE/\Looks M h (seqItems? fd.defaults) od)/\XE.length=nd/\nd<=F.ns.length /\
  (∀n∈F.ks,∃d,fd.kwdefaults=.ref d/\nsIn K d n=some (some (kd n)))/\dd=(F.ns.drop (F.ns.length-nd)).zip XE++F.ks.map λn=>(n,kd n)
 rel:F2 (PR RelV) Zs dd
 urel:F2 (PR λu v=>∀ρ H,RV K ρ H u v) F.dd Zs
def Xs.binds{K:Frag}{F:KF}{i d:Nat}{dd:List (Str×Value)}{kw:List Str}(a:Xs K fd F i Zs dd)(j:BD F i d kw=true)(y:F.ns++F.ks≠[]):
  VR K fd (F.ns++F.ks) kw (λS ws=>if S.length=d/\ws.length=kw.length then place F.ns F.ks kw dd S ws else[]) (λvs zs=>if vs.length=d/\zs.length=kw.length then place F.ns F.ks kw Zs vs zs else[]):=by
 refine⟨λs S ws X f=>?_,λ{vs S zs ws} h g=>?_⟩
 .split at f
  .rename_i v
   let⟨c,k⟩:=v;rw[Yn ⟨c,k⟩];simp![BD,Z1,XM,YN]at j;let⟨⟨⟨m,l⟩,s3⟩,s4⟩:=j;let⟨C,kd,Z7,l1,t,r,o⟩:=a.ds;have e:(kw.zip ws).map (·.1)=kw:=by rw[cC,k,Q9]
   intro M A E Q q;let⟨B,Kh,z⟩:=Z7 M s.heap X;have:=qa (M:=M) (S:=S) (kw:=kw.zip ws) (kd:=kd) X a.h1 a.h2 a.h3 a.h4 a.h5 z (by rw[Kh,l1];exact t) (by rw[c];exact m)
    (λp u=>by have:=l p.1 (by rw[<-e];exact List.mem_map_of_mem u);simpa using this) (by rw[c,e];exact s3) (λn b=>by rw[Kh,l1]at b;rw[c,e];exact s4 n b) (λn b _=>r n b)
   refine this.here ?_;rw[Kh,l1,<-o];rw[jg (by exact f)]
   exact q
  .exact absurd (QK.mp f.symm) y
 .have x:=h.length
  have w:=g.length;rw[x,w];split
  .exact (cz a.rel (.vals h) (.vals g)).toVals
  .exact .nil
open PySem PySem.Spec PyProof.Rows L2
section
def bF{a b:List Int}:(a.map (Sum.inl:Int->Key)=b.map Sum.inl)↔a=b:=
 ⟨λh=>(List.map_inj_right (λx y e=>Sum.inl.inj e)).mp h,λh=>by rw[h]⟩
def RD.val(k:List Int):∀{Z4:List (List Int×U)} {ws:List (List Key×V)},RD K ρ H Z4 ws->(A0 ws (k.map Sum.inl)).isSome=(A6 Z4 k).isSome
 |[],_,h=>by cases h;rfl
 |(k',u)::r,_,h=>by
  let⟨v,s,rfl,h1,h2⟩:=h;by_cases e:k'=k
  .rw [bP (bF.mpr e)]
   simp[A6,Ux,e]
  .rw [bR (λz=>e (bF.mp z)),RD.val k h2]
   simp[A6,Ux,e]
def RD.got(k:List Int){u:U}:∀{Z4:List (List Int×U)} {ws:List (List Key×V)},RD K ρ H Z4 ws->A6 Z4 k=some u ->∃v,A0 ws (k.map Sum.inl)=some v/\RV K ρ H u v
 |[],_,h,e=>by cases e
 |(k',a)::r,_,h,e=>by
  let⟨v,s,rfl,h1,h2⟩:=h;by_cases z:k'=k
  .rw [bP (bF.mpr z)]
   simp[A6,Ux,z]at e;subst e;exact⟨v,rfl,h1⟩
  .rw [bR (λy=>z (bF.mp y))]
   exact RD.got k h2 (by simpa[A6,Ux,z]using e)
def RD.at:∀{Z4:List (List Int×U)} {ws:List (List Key×V)} {i:Nat} {k:List Int} {u:U},RD K ρ H Z4 ws->Z4[i]?=some (k,u) ->∃v,ws[i]?=some (k.map Sum.inl,v)/\RV K ρ H u v
 |[],_,_,_,_,_,e=>by simp at e
 |(k',a)::r,_,0,k,u,h,e=>by
  let⟨v,s,rfl,h1,h2⟩:=h;simp at e;let⟨rfl,rfl⟩:=e;exact⟨v,by simp,h1⟩
 |(k',a)::r,_,i+1,k,u,h,e=>by
  let⟨v,s,rfl,h1,h2⟩:=h;let⟨x,c,b⟩:=RD.at (i:=i) h2 (by simpa using e)
  exact⟨x,by simpa using c,b⟩
def RD.any(k:List Int):∀{Z4:List (List Int×U)} {ws:List (List Key×V)},RD K ρ H Z4 ws->(ws.any λa=>decide (a.1=k.map Sum.inl))=Z4.any λa=>decide (a.1=k)
 |[],_,h=>by cases h;rfl
 |(k',u)::r,_,h=>by
  let⟨v,s,rfl,h1,h2⟩:=h;rw[Ub,Ub,RD.any k h2];congr 1;exact decide_eq_decide.mpr bF
def RD.len:∀{Z4:List (List Int×U)} {ws:List (List Key×V)},RD K ρ H Z4 ws->Z4.length=ws.length
 |[],_,h=>by cases h;rfl
 |(k',u)::r,_,h=>by
  let⟨v,s,rfl,h1,h2⟩:=h;simp[RD.len h2]
def RD.snoc{k:List Int}{u:U}{v:V}(q:RV K ρ H u v):∀{Z4:List (List Int×U)} {ws:List (List Key×V)},RD K ρ H Z4 ws->RD K ρ H (Z4++[(k,u)]) (ws++[(k.map Sum.inl,v)])
 |[],_,h=>by cases h;exact⟨v,[],rfl,q,rfl⟩
 |(k',a)::r,_,h=>by
  let⟨w,s,rfl,h1,h2⟩:=h;exact⟨w,_,rfl,h1,RD.snoc q h2⟩
def RD.Xe{k:List Int}{u:U}{v:V}(q:RV K ρ H u v):∀{Z4:List (List Int×U)} {ws:List (List Key×V)},RD K ρ H Z4 ws ->
  RD K ρ H (Z4.map λa=>if a.1=k then(a.1,u)else a) (ws.map λa=>if a.1=k.map Sum.inl then(a.1,v)else a)
 |[],_,h=>by cases h;rfl
 |(k',b)::r,_,h=>by
  let⟨w,s,rfl,h1,h2⟩:=h;rw[Y2,Y2];by_cases e:k'=k
  .rw [Yn e,Yn (bF.mpr e)];exact⟨v,_,rfl,q,RD.Xe q h2⟩
  .rw [Yb e,Yb (λz=>e (bF.mp z))];exact⟨w,_,rfl,h1,RD.Xe q h2⟩
def RD.put{k:List Int}(q:RV K ρ H u v){b:List (List Int×U)}{a:List (List Key×V)}(h:RD K ρ H b a):RD K ρ H (dput b k u) (putK a (k.map Sum.inl) v):=by
 unfold dput putK;rw[h.any k];split
 .exact h.Xe q
 .exact h.snoc q
def RK.len:∀{Z4:List (Str×U)} {ws:List (Key×V)},RK K ρ H Z4 ws->Z4.length=ws.length
 |[],_,h=>by cases h;rfl
 |(k',u)::r,_,h=>by
  let⟨v,s,rfl,h1,h2⟩:=h;simp[RK.len h2]
def RK.got(k:Str){u:U}:∀{Z4:List (Str×U)} {ws:List (Key×V)},RK K ρ H Z4 ws->Cj Z4 k=some u ->∃v,A0 ws (Sum.inr k)=some v/\RV K ρ H u v
 |[],_,h,e=>by cases e
 |(k',a)::r,_,h,e=>by
  let⟨v,s,rfl,h1,h2⟩:=h;by_cases z:k'=k
  .rw [bP (SO Sum.inr z)]
   simp[Cj,Ux,z]at e;subst e;exact⟨v,rfl,h1⟩
  .rw [bR (λy=>z (Ow y))]
   exact RK.got k h2 (by simpa[Cj,Ux,z]using e)
def RK.any(k:Str):∀{Z4:List (Str×U)} {ws:List (Key×V)},RK K ρ H Z4 ws->(ws.any λa=>decide (a.1=Sum.inr k))=Z4.any λa=>decide (a.1=k)
 |[],_,h=>by cases h;rfl
 |(k',u)::r,_,h=>by
  let⟨v,s,rfl,h1,h2⟩:=h;rw[Ub,Ub,RK.any k h2];congr 1;exact decide_eq_decide.mpr ⟨Ow,SO Sum.inr⟩
def RK.snoc{k:Str}{u:U}{v:V}(q:RV K ρ H u v):∀{Z4:List (Str×U)} {ws:List (Key×V)},RK K ρ H Z4 ws->RK K ρ H (Z4++[(k,u)]) (ws++[(Sum.inr k,v)])
 |[],_,h=>by cases h;exact⟨v,[],rfl,q,rfl⟩
 |(k',a)::r,_,h=>by
  let⟨w,s,rfl,h1,h2⟩:=h;exact⟨w,_,rfl,h1,RK.snoc q h2⟩
def RK.Xe{k:Str}{u:U}{v:V}(q:RV K ρ H u v):∀{Z4:List (Str×U)} {ws:List (Key×V)},RK K ρ H Z4 ws ->
  RK K ρ H (Z4.map λa=>if a.1=k then(a.1,u)else a) (ws.map λa=>if a.1=Sum.inr k then(a.1,v)else a)
 |[],_,h=>by cases h;rfl
 |(k',b)::r,_,h=>by
  let⟨w,s,rfl,h1,h2⟩:=h;rw[Y2,Y2];by_cases e:k'=k
  .rw [Yn e,Yn (SO Sum.inr e)];exact⟨v,_,rfl,q,RK.Xe q h2⟩
  .rw [Yb e,Yb (λz=>e (Ow z))];exact⟨w,_,rfl,h1,RK.Xe q h2⟩
def RK.put{k:Str}(q:RV K ρ H u v){b:List (Str×U)}{a:List (Key×V)}(h:RK K ρ H b a):RK K ρ H (Ej b k u) (putK a (Sum.inr k) v):=by
 unfold Ej putK;rw[h.any k];split
 .exact h.Xe q
 .exact h.snoc q
def aar{c:V}{b:List (Str×U)}(i:RH K ρ H g)(h:RV K ρ H y c)(e:IY y g=some b):∃n a ws,y=.ref n/\g[n]?=some (.dst b)/\ρ[n]?=some a/\c=.ref a/\H a=some (.dK ws)/\RK K ρ H b ws:=by
 cases y with
 |ref n=>
  simp![IY]at e;cases eg:g[n]? with
  |none=>rw[eg]at e;cases e
  |some ob=>
   cases ob with
   |dst k=>
    rw[eg]at e;cases e;let⟨a,ws,d,j,rk⟩:=i.dst eg;let⟨a',rfl,f⟩:=h;rw[d]at f;cases f;exact⟨n,_,ws,rfl,eg,d,rfl,j,rk⟩
   |_=>rw[eg]at e;cases e
 |_=>cases e
def cw:∀{S:List U} {ns:List Int} {vs:List V},intsOf S=some ns->RVs K ρ H S vs->vs=ns.map V.int
 |[],_,_,e,h=>by cases e;cases h;rfl
 |u::S,ns,vs,e,h=>by
  let⟨v,r,rfl,h1,h2⟩:=h;cases u with
  |int i=>
   simp![intsOf]at e;let⟨m,a,rfl⟩:=X7.mp e;cases h1;rw[cw a h2];rfl
  |_=>cases e
def iW:∀ns:List Int,intsOf (ns.map U.int)=some ns
 |[]=>rfl
 |n::ns=>by simp[intsOf,iW ns]
def gK{x:U}{k:List Int}(e:keyOf x=some k)(r:RV K ρ H x v):∃b,v=.ref b/\H b=some (.ZW ((k.map Sum.inl).map HM)):=by
 cases x with
 |ZW S=>
  let⟨a,vs,rfl,h1,h2⟩:=r;refine⟨a,rfl,?_⟩;rw[show H a=some (.ZW vs)from h1,cw e h2,TU]
  rfl
 |_=>cases e
def gO{K:Hf}{ρ:List Addr}{H:Hp}:∀{Z4:List (List Int×U)} {ws:List (List Key×V)},RD K ρ H Z4 ws->ws.map (·.1)=Z4.map λa=>a.1.map Sum.inl
 |[],ws,h=>by cases h;rfl
 |(k,u)::r,ws,⟨v,s,e,_,h⟩=>by subst e;rw[Y2,Y2,gO h]
def gJ{h:V}{j:List (List Int×U)}(i:RH K ρ H g)(k:RV K ρ H y h)(b:Yp y g=some j):∃a ws,h=.ref a/\Rd H a (.dT ws)/\RD K ρ H j ws:=by
 cases y with
 |ref n=>
  simp![Yp]at b;cases eg:g[n]? with
  |none=>rw[eg]at b;cases b
  |some ob=>
   let⟨a',rfl,c⟩:=k;cases ob with
   |ZF l=>
    rw[eg]at b;cases b;let⟨a,ws,e,f,d⟩:=i.ZF eg;rw[e]at c;cases c;exact⟨_,ws,rfl,.inl f,d⟩
   |Zq l=>
    rw[eg]at b;cases b;let⟨a,ob,ws,e,f,d⟩:=i.Zq eg;rw[e]at c;cases c;exact⟨_,ws,rfl,.inr ⟨ob,f⟩,d⟩
   |_=>rw[eg]at b;cases b
 |_=>cases b
def gj{x:U}{h f:V}{o:Option U}(m:RH K ρ H g)(l:RV K ρ H x h)(j:RV K ρ H y f)(e:AY x y g=some o):∃a c,f=.ref a/\DGet H a h c/\c.isSome=o.isSome /\∀u,o=some u ->∃v,c=some v/\RV K ρ H u v:=by
 unfold AY at e;cases d:Yp y g with
 |none=>rw[d]at e;cases e
 |some Z4=>
  rw[d]at e;let⟨k,q,rfl⟩:=X7.mp e;let⟨a,ws,rfl,p,i⟩:=gJ m j d;let⟨b,rfl,n⟩:=gK q l;exact⟨a,_,rfl,.inr ⟨ws,_,b,p,rfl,n,rfl⟩,i.val k,λu z=>i.got k z⟩
end
section
def aaV(d:X.A.units+1<cLine):OpR X (compareOp .In) (λy x H Q=>∃a o,x=.ref a/\DGet H a y o/\Q (.bl o.isSome) H):=by
 intro O s Y H y x v u Q I b c ⟨a,o,e,g,q⟩;subst e;obtain rfl:u=Value.ref a:=c;exact d_in d I g b λs3 f=>⟨.bl o.isSome,H,f,rfl,q⟩
def wq(d:X.A.units+1<cLine):OpR X (compareOp .NotIn) (λy x H Q=>∃a o,x=.ref a/\DGet H a y o/\Q (.bl (!o.isSome)) H):=by
 intro O s Y H y x v u Q I b c ⟨a,o,e,g,q⟩;subst e;obtain rfl:u=Value.ref a:=c;exact vk d I g b λs3 f=>⟨.bl (!o.isSome),H,f,rfl,q⟩
def gI{r c:R2}(h:OpR X f r)(h':OpR X f c):OpR X f (λx y H Q=>r x y H Q\/c x y H Q):=λO s Y H x y v u Q I b a q=>
 q.elim (λq=>h O s Y H x y v u Q I b a q) λq=>h' O s Y H x y v u Q I b a q
def abX{Y:L2.St}{b:Addr}{k:List Key}{r:Value}{E:Value->Shared->Prop}{Q:Unit->Shared->Prop}(m:X.A.units+1<cLine)(I:L2.Z0 X O Y H s)(e:H a=some (.dT Z4))(i:H b=some (.ZW (k.map HM)))(l:Z4.length<sizeLine)(j:RelV v r)
  (h:∀s',L2.Z0 X O Y (upd H a (.dT (putK Z4 k v))) s'->Q Unit.unit s'):wpAny (model X.prog X.w) X.A (dictSet a (.ref b) r) Q E s:=by
 let⟨z,n,xs,d,dd⟩:=ny I.ZJ e;refine wpAny_dictSet_heap (hsz:=by rw[<-Qx d];exact z) (by exact Nat.lt_of_succ_lt m) (b5 I.ZJ i) dd λh' u hs=>h _ ?_
 let⟨q,es,ep,f,h2,t,p,_,o⟩:=u;refine gv I (by rw[e];exact True.intro) hs ⟨q,f⟩ ⟨by have:=fq Z4 k v;lia,n,_,(d.put k i j).keeps λc ys g=>?_,q,es,ep,f,h2,t,p,o⟩
 rw[af (cg g e (λz=>nomatch z))];exact g
def GS:CU:=λo i v H Q=>∃a H',o=.ref a/\DPut H a i v H'/\Q H'
def set_dict(h:X.A.units+1<cLine):Cg X GS:=by
 intro O s Y H o i v f k u Q I c d b ⟨a,H',e,g,q⟩;subst e;obtain rfl:f=Value.ref a:=c;exact rl h I g d b λs4 j=>⟨H',j,q⟩
def vn{r d:CU}(h:Cg X r)(h':Cg X d):Cg X (λo i v H Q=>r o i v H Q\/d o i v H Q):=λO s Y H o i v e f u Q I b c a q=>
 q.elim (λq=>h O s Y H o i v e f u Q I b c a q) λq=>h' O s Y H o i v e f u Q I b c a q
end
def jR(m:Bool):∀(r:List Int) (a:Int),best m a r∈a::r
 |[],a=>by simp[best]
 |b::r,a=>by
  have:=jR m r (if m then(if b<a then b else a)else(if b > a then b else a))
  simp![best,US]at *;simp![Xq]at this ⊢;rcases this with h|h
  .rw [h];cases m<;>simp![V6,Xh,Vn]<;>split<;>simp
  .exact .inr (.inr h)
def kG:∀(r:List Int) (a:Int),∀x∈a::r,best true a r<=x
 |[],a,x,h=>by simp[best]at *;lia
 |b::r,a,x,h=>by
  have ih:=kG r (if b<a then b else a)
  simp![best,US,V6]at *;have h0:=ih _ (Wv);rcases Xq.mp h with rfl|h
  .exact QY h0 (by split<;>lia)
  .rcases Xq.mp h with rfl|h
   .exact QY h0 (by split<;>lia)
   .exact ih x (G9 _ h)
def kP:∀(r:List Int) (a:Int),∀x∈a::r,x<=best false a r
 |[],a,x,h=>by simp[best]at *;lia
 |b::r,a,x,h=>by
  have ih:=kP r (if b > a then b else a)
  simp![best,US,Xh,Vn]at *;have h0:=ih _ (Wv);rcases Xq.mp h with rfl|h
  .exact QY (by split<;>omega) h0
  .rcases Xq.mp h with rfl|h
   .exact QY (by split<;>omega) h0
   .exact ih x (G9 _ h)
def insI_perm(a:Int):∀r:List Int,(insI a r).Perm (a::r)
 |[]=>.refl _
 |b::r=>by
  simp![insI];split
  .exact .refl _
  .exact ((insI_perm a r).cons b).trans (.swap a b r)
def sortI_perm:∀r:List Int,(sortI r).Perm r
 |[]=>.refl _
 |a::r=>(insI_perm a _).trans ((sortI_perm r).cons a)
def xG{b:Int}(a:Int):∀{r:List Int},b<=a->(∀x∈r,b<=x) ->∀x∈insI a r,b<=x:=λ{r} h h' x c=>by
 rcases Xq.mp ((insI_perm a r).mem_iff.mp c)with rfl|z
 .exact h
 .exact h' x z
def kA(a:Int):∀{r:List Int},r.Pairwise (· <= ·)->(insI a r).Pairwise (· <= ·)
 |[],_=>by simp[insI]
 |b::r,h=>by
  let⟨h1,h2⟩:=Ur.mp h;simp![insI];split
  .rename_i c
   exact Ur.mpr ⟨λx d=>by rcases Xq.mp d with rfl|z;exact c;exact QY c (h1 x z),h⟩
  .exact Ur.mpr ⟨xG a (by lia) h1,kA a h2⟩
def jc:∀r:List Int,(sortI r).Pairwise (· <= ·)
 |[]=>.nil
 |a::r=>kA a (jc r)
def qH{a b:List Int}(c:a.Perm b)(e:a.Pairwise (· <= ·))(d:b.Pairwise (· <= ·)):a=b:=
 c.eq_of_pairwise (λx y _ _ h1 h2=>Ov h1 h2) e d
def dY:∀{ns:List Int} {S:List Value},ZG (ns.map V.int) S->IntsAre S ns
 |[],S,h=>by cases h;exact .nil
 |n::ns,S,h=>by
  cases h with
  |cons r t=>
   let⟨k,rfl⟩:=r;exact .cons n k (dY t)
def tL:∀{ns:List Int} {S:List Value},IntsAre S ns->ZG (ns.map V.int) S:=λh=>fN h
section
variable{E:Value->Shared->Prop}{l:Addr}{vs:List Value}
def minL(m:A.handled=none)(f:s.heap.IsList l vs.toArray)(hi:IntsAre vs ns)(n:0<ns.length)
  (h:∀h' M (t:Tok) tk,(∀b o,s.heap.get? b=some o->h'.get? b=some o)->M∈ns->(∀a,a∈ns->M<=a)->Q (.int M t) {s with heap:=h',toks:=tk}):wpAny (model prog w) A (call (.builtin "min") [.ref l]) Q E s:=by
 let⟨xs,e⟩:=hi.allInts.items;have d:ns=xs.toList.map (·.1):=by rw[<-hi.numsOf,<-nums_intItems,<-e]
 have c:0<xs.size:=by have h3:=n;rw[d,Zd,YW]at h3;exact h3
 rw[e]at f;refine min_intList m f c λv h' tk i hk=>?_;let⟨t,rfl⟩:=intItems_at i;let⟨h1,h2⟩:=argBest_lt (numAt xs) (xs.size-1);refine h _ _ t tk hk ?_ λa g=>?_
 .rw [d,numAt_eq];exact getD_mem (by rw[Zd,YW];omega)
 .rw [d]at g
  let⟨j,k,rfl⟩:=mem_getD g;rw[Zd,YW]at k;rw[<-numAt_eq];exact h2 j (by lia)
def maxL(m:A.handled=none)(f:s.heap.IsList l vs.toArray)(hi:IntsAre vs ns)(n:0<ns.length)
  (h:∀h' M (t:Tok) tk,(∀b o,s.heap.get? b=some o->h'.get? b=some o)->M∈ns->(∀a,a∈ns->a<=M)->Q (.int M t) {s with heap:=h',toks:=tk}):wpAny (model prog w) A (call (.builtin "max") [.ref l]) Q E s:=by
 let⟨xs,e⟩:=hi.allInts.items;have d:ns=xs.toList.map (·.1):=by rw[<-hi.numsOf,<-nums_intItems,<-e]
 have c:0<xs.size:=by have h3:=n;rw[d,Zd,YW]at h3;exact h3
 rw[e]at f;refine max_intList m f c λv h' tk i hk=>?_;let⟨t,rfl⟩:=intItems_at i;let⟨h1,h2⟩:=argBest_gt (numAt xs) (xs.size-1);refine h _ _ t tk hk ?_ λa g=>?_
 .rw [d,numAt_eq];exact getD_mem (by rw[Zd,YW];omega)
 .rw [d]at g
  let⟨j,k,rfl⟩:=mem_getD g;rw[Zd,YW]at k;rw[<-numAt_eq];exact h2 j ()
end
section
def Jz(m:Bool):List V->Hp->VK->Prop:=λxs H Q=>(∃i j,xs=[.int i,.int j]/\Q (.int (best m i [j])) H)\/(∃i j k,xs=[.int i,.int j,.int k]/\Q (.int (best m i [j,k])) H) \/
 ∃p i ns,xs=[.ref p]/\H p=some (.Z5 ((i::ns).map V.int))/\Q (.int (best m i ns)) H
def mf{m:Bool}{i M:Int}(b:M∈i::ns)(c:∀a,a∈i::ns->if m then M<=a else a<=M):M=best m i ns:=by
 have a:=c _ (jR m ns i);cases m with
 |true=>exact Ov (by simpa using a) (kG ns i M b)
 |false=>exact Ov (kP ns i M b) (by simpa using a)
def call_mn(b:X.calm=true):CallR X (.builtin "min") (Jz true):=by
 intro O s Y H xs S Q I r h;rcases h with⟨i,j,rfl,q⟩|⟨i,j,k,rfl,q⟩|⟨p,i,ns,rfl,hp,q⟩
 .exact rX b O s Y H _ S Q I r ⟨i,j,rfl,q⟩
 .cases r with
  |cons g r=>
   cases r with
   |cons f r=>
    cases r with
    |cons e r=>
     cases r;let⟨t,rfl⟩:=g;let⟨u,rfl⟩:=f;let⟨x,rfl⟩:=e;refine min_three_ints (I.ok.hd b) λh' tk a=>⟨_,H,I.kept a,?_,q⟩;simp![best,US,PN,V6];split<;>split<;>exact⟨_,rfl⟩
 .obtain ⟨u,rfl,c⟩:=vals1 r
  cases c;let⟨ZU,d,pl,l⟩:=I.list (SqL.of hp);exact minL (I.ok.hd b) pl.isList (dY d) (OJ _) λh' M t tk a h1 h2=>⟨.int M,H,I.kept a,⟨t,rfl⟩,by rw[mf (m:=true) h1 (by simpa using h2)];exact q⟩
def call_mx(b:X.calm=true):CallR X (.builtin "max") (Jz false):=by
 intro O s Y H xs S Q I r h;rcases h with⟨i,j,rfl,q⟩|⟨i,j,k,rfl,q⟩|⟨p,i,ns,rfl,hp,q⟩
 .exact sj b O s Y H _ S Q I r ⟨i,j,rfl,q⟩
 .cases r with
  |cons g r=>
   cases r with
   |cons f r=>
    cases r with
    |cons e r=>
     cases r;let⟨t,rfl⟩:=g;let⟨u,rfl⟩:=f;let⟨x,rfl⟩:=e;refine max_three_ints (I.ok.hd b) λh' tk a=>⟨_,H,I.kept a,?_,q⟩;simp![best,US,PN,Xh,Vn];split<;>split<;>exact⟨_,rfl⟩
 .obtain ⟨u,rfl,c⟩:=vals1 r
  cases c;let⟨ZU,d,pl,l⟩:=I.list (SqL.of hp);exact maxL (I.ok.hd b) pl.isList (dY d) (OJ _) λh' M t tk a h1 h2=>⟨.int M,H,I.kept a,⟨t,rfl⟩,by rw[mf (m:=false) h1 (by simpa using h2)];exact q⟩
def tj:CallR X (.builtin "sorted") (λxs H Q=>∃(p:Addr) (ns:List Int),xs=[.ref p]/\H p=some (.Z5 (ns.map V.int))/\ns.length<64 /\∀l,H l=none->Q (.ref l) (upd H l (.Z5 ((sortI ns).map V.int)))):=by
 intro O s Y H xs S Q I r ⟨p,ns,e,hp,hl,q⟩;subst e;let⟨u,rfl,d⟩:=vals1 r;cases d;let⟨ZU,f,pl,z⟩:=I.list (SqL.of hp);have hi:=dY f;refine sorted_ints pl.isList hi (by rw[hi.length];exact hl) λout a y t o=>?_
 let⟨c,j⟩:=sortedAll_at s.heap ZU out;have k:a=sortI ns:=qH (t.trans (sortI_perm ns).symm) o (jc ns);subst k;have g:H (s.heap.objs.size+1)=none:=I.ZJ.fresh (V8 _);refine⟨.ref (s.heap.objs.size+1),_,I.laid (t':=s.toks) (λ_ _=>sortedAll_old) (V8 _) (show ObjOk X.prog X.w _ _ _ (.Z5 ((sortI ns).map V.int))from⟨?_,out.toList,c,tL y,?_⟩),rfl,q _ g⟩
 .rw [Zd,(sortI_perm ns).length_eq]
  exact G6 (Rh hl) #[1]
 .exact j
end
section
def aaH(F:X.A.units+2<cLine):OpR X (compareOp .NotEq) (λx y H Q=>∃ρ S ws b,RV X.K ρ H (.ZW S) x/\RV X.K ρ H (.ZW ws) y/\IZ IT S ws=some b/\Q (.bl (!b)) H):=by
 intro O s Y H x y v u Q I i h ⟨ρ,S,ws,b,m,k,e,q⟩;let⟨a,xs,rfl,h1,h2⟩:=m;let⟨a',ys,rfl,C,B⟩:=k;cases i;cases h;let⟨ZU,g,r,_⟩:=I.tuple h1.sq;let⟨c,d,p2,_⟩:=I.tuple C.sq;let⟨f,l,t,z⟩:=dO (A:=X.A.in1) (s:=s) (λu w x y v E b g d p o n=>ij (A:=X.A.in1) I (show X.A.units+1<cLine by lia) g d p o n) h2 B g d e
 refine SeqAt.RcNeAt.tuples (A:=X.A) (s:=s) (l:=a) (b:=a') (items:=ZU.toArray) (items2:=c.toArray) (e:=f) r p2 (by lia) (λj h1 h2=>by simpa using t j (by simpa using h1) (by simpa using h2)) X.prog X.w X.xe _ ⟨.bl (!b),H,I,?_,q⟩
 have D:((List.range (min ZU.toArray.size c.toArray.size)).all f&&ZU.toArray.size==c.toArray.size)=b:=by simp[<-l,z]
 rw[D]
 rfl
end
section
variable{E:Value->Shared->Prop}
def ph{Q:Int->Shared->Prop}(h:Q A8 {s with toks:=s.toks+1}):wpAny (model prog w) A (pyHash .none) Q E s:=by
 unfold pyHash;refine ZB ?_;rw[cRoomFor,Yb (by exact G7)];refine ZP ?_
 refine ZB (Qb (OC s) F.slot_NoneType_hash.lookup ?_);show wpAny _ _ (if(some (Value.builtin "NoneType.__hash__")==some Value.none)=true then _ else _) Q E s
 rw[Yb (by rw[beq_builtin_none];exact G7)]
 refine ZB (Qb (OC s) F.slot_NoneType_hash.lookup ?_);show wpAny _ _ (callSpecialIfBoundUnlessNone? .none "__hash__" _ >>= _) Q E s;refine ZB (wpAny_callSpecialIfBoundUnlessNone?_slot (OC s) F.slot_NoneType_hash
  (U3 F.slot_NoneType_hash (OC s) F.entry_NoneType_hash
   (show wpAny _ _ (do ret (<- mkInt A8)) _ _ s from wpAny_ret_mkInt ?_) (F.args_NoneType_hash_1 _)))
 show wpAny _ _ (if(decide (-(2:Int) ^ 63<=A8)&&decide (A8<2 ^ 63))=true then _ else _) Q E _
 rw[Yn #[1]]
 exact ZP h
def oT{d:Addr}{o:Obj}{a:Array DictEntry}{ep}{Q:Option Value->Shared->Prop}(c:s.heap.get? d=some o)(g:o.data=.dict a ep)(f:∀e∈a.toList,e.hash≠A8)(h:Q none {s with toks:=s.toks+1}):wpAny (model prog w) A (dictGet d .none) Q E s:=by
 have pl:placesWithHash a.size (λi=>a[i]?.map (·.hash)) A8=[]:=by
  unfold placesWithHash;rw[RY];intro i _ z;have z:((a[i]?.map (·.hash))==some A8)=true:=z;cases e:a[i]? with
  |none=>rw[e]at z;simp at z
  |some x=>
   rw[e]at z;exact f x (Si.mpr (Array.mem_of_getElem? e)) (by simpa using z)
 unfold dictGet
 try with_reducible refine V7 ?_
 refine ZB (ph (ZB ?_));unfold dictFind
 try with_reducible refine V7 ?_
 refine ZB (QX (s:={s with toks:=s.toks+1}) c g ?_)
 dsimp only;rw[pl,Yn #[2]]
 unfold dictWalkPlain;exact ZP (ZP h)
def v8{d:Addr}{o:Obj}{es:Array DictEntry}{ep}(td:s.TypeIs (.ref d) "dict")(ho:s.heap.get? d=some o)(hd:o.data=.dict es ep)(hm:(d==sysModules)=false)(hh:∀e∈es.toList,e.hash≠A8)(h:Q (.bool false) {s with toks:=s.toks+1}):
  wpAny (model prog w) A (compareOp .In .none (.ref d)) Q E s:=by
 show wpAny _ _ (do return .bool (<- contains (.ref d) .none)) Q E s
 refine ZB ?_;unfold contains
 try with_reducible refine V7 ?_
 refine ZB (Qb td slot_dict_contains.lookup ?_);show wpAny _ _ (if(some (Value.builtin "dict.__contains__")==some Value.none)=true then _ else _) _ E s
 rw[Yb (by rw[beq_builtin_none];exact G7)]
 refine ZB (wpAny_callSpecialUnlessNone?_slot (name:=Str.ofString "__contains__") td slot_dict_contains
  (U3 slot_dict_contains td entry_dict_contains ?_ (args_dict_contains _ _)))
 show wpAny _ _ (dictGet d .none >>= _) _ _ s;refine ZB (oT ho hd hh ?_);show wpAny _ _ (Builtin.Dict.pendingKey? d .none >>= _) _ _ _;exact ZB (wpAny_pendingKey_other hm (ZP ⟨_,rfl,T1 (ZP h)⟩))
end
section
def aa5{x:U}(e:inD x y g=some b):(x=.ZK /\∃Z4,Yp y g=some Z4/\(∀k∈Z4.map (·.1),Ja k≠A8)/\b=false)\/(AY x y g).map Option.isSome=some b:=by
 cases x with
 |ZK=>
  let⟨Z4,a,e⟩:=W5.mp e;by_cases h:∀k∈Z4.map (·.1),Ja k≠A8
  .rw [Yn h]at e;exact .inl ⟨rfl,Z4,a,h,(WQ e).symm⟩
  .rw [Yb h]at e;cases e
 |_=>exact .inr e
def rInN:R2:=λy x H Q=>∃(a:Addr) (ws:List (List Key×V)) (ks:List (List Int)),y=.ZK/\x=.ref a/\Rd H a (.dT ws)/\ws.map (·.1)=ks.map (λk=>k.map Sum.inl)/\(∀k∈ks,Ja k≠A8)/\Q (.bl false) H
def ye:OpR X (compareOp .In) rInN:=by
 intro O s Y H y x v u Q I i j ⟨a,ws,ks,D,C,c,h,n,q⟩;subst D;subst C;obtain rfl:u=Value.ref a:=j;obtain rfl:v=Value.none:=i;let⟨h1,h2,ys,l,o,es,ep,g,t,r,f,p⟩:=(show ObjOk X.prog X.w H s.heap a (.dT ws)from c.ok I.ZJ);have A:ys.map (·.1)=ks.map (λk=>k.map (Sum.inl:Int->Key)):=by
  rw[<-h];clear h1 f p h q c
  induction l with
  |nil=>rfl
  |cons z _ ih=>rw[Y2,Y2,ih,z.1]
 refine v8 ⟨o,g,t.1⟩ g r h2 (λe d z=>?_) ⟨.bl false,H,I.tok _,rfl,q⟩;rw[f]at d;let⟨y,m,rfl⟩:=Wl.mp d;have b:y.1∈ys.map (·.1):=Wl.mpr ⟨y,m,rfl⟩;rw[A]at b;let⟨k,hk,B⟩:=Wl.mp b;refine n k hk (Eq.trans ?_ z);show reduceHash (Builtin.Tuple.tupleHashOf (k.map hashInt))=reduceHash (Builtin.Tuple.tupleHashOf (y.1.map (AJ X.prog X.w).hash));rw[<-B,TU];rfl
end
section
variable{W:XQ}{Y:L2.St}
inductive RprX(X:Cx)(xs:List V)(H:Hp)(Q:VK):Prop
 |mk (ρ:List Addr) (g:G) (u:U) (x:V) (d:List (List Int)) (e:xs=[x]) (hg:RH X.K ρ H g) (r:RV X.K ρ H u x) (er:FA u g=some d) (h1:(Ck d).showable=true) (h2:(Ck d).shown.length<=sizeLine) (q:Q (.str (Ck d).shown) H)
end
section
variable{W:XQ}{a b c:Expr}{a' b' c':E}
def one{R:List Addr->Hp->α->β->Prop}{f:Su->G->Out U}{k:Su->U->G->Out α}{Y:L2.St}{H:Hp}{Q:β->Hp->Prop}
  (e:tR X.K W R (λa g=>(f a g).bind λx g=>k a x g) Y H Q)
  (b:∀a ρ H g u x,RS X.K ρ H a Y->RH X.K ρ H g->RV X.K ρ H u x->post X.K W R (k a u g) ρ H Q->Q2 x H):tE X.K W f Y H Q2:=by
 let⟨a,ρ,g,hs,h,p⟩:=e;exact⟨a,ρ,g,hs,h,(post.bind p).mono λx H1 ⟨i,u,g1,s1,h1,c,d⟩=>b a i H1 g1 u x (hs.step s1) h1 c d⟩
def oneN{j:XQ}{R:List Addr->Hp->α->β->Prop}{f:Su->G->Out U}{k:Su->U->G->Out α}{Y:L2.St}{H:Hp}{Q:β->Hp->Prop}
  (e:tR X.K W R (λa g=>(f a g).YM.bind λx g=>k a x g) Y H Q)
  (b:∀a ρ H g u x,RS X.K ρ H a Y->RH X.K ρ H g->RV X.K ρ H u x->post X.K W R (k a u g) ρ H Q->Q2 x H):tE X.K j f Y H Q2:=by
 let⟨a,ρ,g,hs,h,p⟩:=e;exact⟨a,ρ,g,hs,h,(aT p).mono λx H1 ⟨i,u,g1,s1,h1,c,d⟩=>b a i H1 g1 u x (hs.step s1) h1 c d⟩
def two{R:List Addr->Hp->α->β->Prop}{f h:Su->G->Out U}{k:Su->U->U->G->Out α}{Y:L2.St}{H:Hp}{Q:β->Hp->Prop}{c:V->V->Hp->Prop}
  (j:tR X.K W R (λa g=>(f a g).bind λx g=>(h a g).bind λy g=>k a x y g) Y H Q)
  (b:∀a ρ H g u w x y,RS X.K ρ H a Y->RH X.K ρ H g->RV X.K ρ H u x->RV X.K ρ H w y->post X.K W R (k a u w g) ρ H Q->c x y H) :
  tE X.K W f Y H λx H1=>tE X.K W h Y H1 λy H2=>c x y H2:=by
 let⟨a,ρ,g,hs,l,p⟩:=j;refine⟨a,ρ,g,hs,l,(post.bind p).mono λx H1 ⟨n,u,g1,s1,h1,e,i⟩=>?_⟩;refine⟨a,n,g1,hs.step s1,h1,(post.bind i).mono λy H2 ⟨m,w,g2,s2,h2,d,p2⟩=>?_⟩;exact b a m H2 g2 u w x y ((hs.step s1).step s2) h2 (RV.step s2 _ _ e) d p2
def aad(d:X.N[i]?=some x)(a:Vis X.env.scope x)(c:(x==("__debug__" : Str))=false)(k:(x==("__classdict__" : Str))=false):PE X (.Name x pos) (tE X.K W (Jo C r (.L i))):=by
 refine(abw d a c k).imp ?_;rintro Y H Q ⟨j,ρ,g,hs,b,p⟩
 delta Jo at p;dsimp only at p
 cases e:j[i]? with
 |none=>simp[e]at p;exact p.elim
 |some o=>
  cases o with
  |none=>simp[e]at p;exact p.elim
  |some u=>
   simp![e]at p;let⟨v,h,f⟩:=hs.val i u e;exact⟨v,h,post.Y5 p b f⟩
def cP(h:PE X e (HQ v))(a:∀ρ H,RV X.K ρ H u v):PE X e (tE X.K W (Jo C r (.ZZ u))):=
 h.imp λY H Q ⟨c,ρ,g,hs,b,p⟩=>post.Y5 (u:=u) p b (a ρ H)
def cb{o:Operator}{c:R2}(l:OpR X (binaryOp o) c)
  (imp:∀u w z x y ρ (H:Hp) Q,RV X.K ρ H u x->RV X.K ρ H w y->IV op u w=some z->(∀v,RV X.K ρ H z v->Q v H)->c x y H Q)
  (d:∀u w x y ρ (H:Hp) g p Q,RH X.K ρ H g->RV X.K ρ H u x->RV X.K ρ H w y->Bd u w g=some p->post X.K W (RV X.K) (Br op u w g) ρ H Q->c x y H Q)
  (n:PE X a (tE X.K W (r.ev a'))) (m:PE X b (tE X.K W (r.ev b'))):PE X (.BinOp a o b pos) (tE X.K W (Jo C r (.ZT op a' b'))):=by
 refine(ac6 l n m).imp λY H Q k=>two k λs ρ H g u w x y hs h f c p=>?_;cases i:Bd u w g with
 |some q=>exact d u w x y ρ H g q Q h f c i p
 |none=>
  have p:post X.K W (RV X.K) (Br op u w g) ρ H Q:=p;unfold Br at p;rw[i]at p;let⟨z,e,p⟩:=post.lift p;exact imp u w z x y ρ H Q f c e λv j=>post.Y5 p h j
def cT(h:op ≠ .add){a:R2}(u w:U)(x y:V)(ρ:List Addr)(H:Hp)(g:G)(q:List U×List U)(Q:VK)(_:RH X.K ρ H g)(_:RV X.K ρ H u x)(_:RV X.K ρ H w y)(b:Bd u w g=some q)(p:post X.K W (RV X.K) (Br op u w g) ρ H Q):a x y H Q:=by
 unfold Br at p;rw[b]at p;cases op<;>first|exact absurd rfl h|exact p.elim
def gT{r c:R2}(h:OpR X f r)(h':OpR X f c):OpR X f λx y H Q=>r x y H Q\/c x y H Q:=λO s Y H x y v u Q I b a q=>q.elim (h O s Y H x y v u Q I b a) (h' O s Y H x y v u Q I b a)
def zX(u w:U)(x y:V)(ρ:List Addr)(H:Hp)(g:G)(q:List U×List U)(Q:VK)(a:RH X.K ρ H g)(h:RV X.K ρ H u x)(f:RV X.K ρ H w y)(b:Bd u w g=some q)(p:post X.K W (RV X.K) (Br .add u w g) ρ H Q):Gi x y H Q:=by
 unfold Br at p;rw[b]at p;dsimp only at p;split at p
 .rename_i i
  let⟨n,m,rfl,rfl,j,g2⟩:=jP b;let⟨A,vs,r,o,d⟩:=a.Z5 j;let⟨t,ws,k,J4,c⟩:=a.Z5 g2;let⟨v,rfl,z⟩:=h;rw[r]at z;cases z;let⟨s,rfl,z⟩:=f;rw[k]at z;cases z;refine⟨A,t,vs,ws,rfl,rfl,o,J4,by rw[<-d.length,<-c.length,U9];unfold Ac at i;lia,λl e=>?_⟩
  exact p (.ref l) _ _ (ZI.alloc e) (a.alloc e (d.append c)) ⟨l,rfl,by rw[<-a.len];simp⟩
 .exact p.elim
def bW{g:Int->Int->Int}{a:Int->Int->Prop}(h:∀u w z,IV op u w=some z ->∃i j,u=.int i/\w=.int j/\z=.int (g i j)/\a i j)(u w z:U)(x y:V)(ρ:List Addr)(H:Hp)(Q:VK)(c:RV K ρ H u x)(b:RV K ρ H w y)
  (e:IV op u w=some z) (q:∀v,RV K ρ H z v->Q v H):Ih a (λi j=>.int (g i j)) x y H Q:=by
 let⟨i,j,rfl,rfl,rfl,d⟩:=h u w z e;cases c;cases b;exact⟨i,j,rfl,rfl,d,q _ rfl⟩
def mQ{g:Int->Int->V}(h:OpR X f (Ii g)):OpR X f (Ih (λ_ _=>True) g):=λO s Y H x y v u Q I b a ⟨i,j,d,c,_,q⟩=>h O s Y H x y v u Q I b a ⟨i,j,d,c,q⟩
def log2_small(h:n<115792089237316195423570985008687907853269984665640564039457584007913129639936):n.log2<9000:=by
 by_cases a:n=0
 .subst a;decide
 .exact Ha ((Nat.log2_lt a).mpr (show n<2 ^ 256 from h)) #[1]
def wK:OpR X (binaryOp .FloorDiv) (Ih (λi j=>j≠0 /\ -Aj<j/\j<Aj) λi j=>.int (i.fdiv j)):=opI λi j _ _ _ _ _ a q=>
 floordiv_int a.1 q (.inl (PyProof.noPylong_of_log2 (log2_small (by have:=a.2;unfold Aj at this;omega))))
def xc:OpR X (binaryOp .Mult) (Ih (λi j=>CMul i j\/((-Aj<i/\i<Aj) /\ -Aj<j/\j<Aj)) λi j=>.int (i*j)):=opI λi j _ _ _ _ _ a q=>by
 rcases a with a|⟨⟨h1,h2⟩,h3,h4⟩
 .exact mul_int q a.ok
 .unfold Aj at h1 h2 h3 h4
  exact mul_int q (IntMulOk.of_bits (G6 (intBits_le (k:=256) (show i.natAbs<115792089237316195423570985008687907853269984665640564039457584007913129639936 by omega)) #[1]) (G6 (intBits_le (k:=256) (show j.natAbs<115792089237316195423570985008687907853269984665640564039457584007913129639936 by omega)) #[1]))
def bU{w z:U}(e:IV op u w=some z):∃i j,u=.int i/\w=.int j:=by
 cases u<;>first|(cases op<;>cases e<;>done)|skip
 cases w<;>first|(cases op<;>cases e<;>done)|skip
 exact⟨_,_,rfl,rfl⟩
def uI{o:Operator}(A:(op=.add/\o = .Add)\/(op=.sub/\o = .Sub)\/(op=.mul/\o = .Mult)\/(op=.fdiv/\o = .FloorDiv)\/(op=.mod/\o = .Mod)\/(op=.pow/\o = .Pow))
  (d:PE X a (tE X.K W (r.ev a'))) (c:PE X b (tE X.K W (r.ev b'))):PE X (.BinOp a o b pos) (tE X.K W (Jo C r (.ZT op a' b'))):=by
 rcases A with⟨rfl,rfl⟩|⟨rfl,rfl⟩|⟨rfl,rfl⟩|⟨rfl,rfl⟩|⟨rfl,rfl⟩|⟨rfl,rfl⟩
 .exact cb (gT (mQ gW) abC) (λu w z x y ρ H Q t k e q => .inl (bW (λu w z e=>by
   let⟨i,j,rfl,rfl⟩:=bU e;cases e;exact⟨_,_,rfl,rfl,rfl,trivial⟩) u w z x y ρ H Q t k e q)) (λu w x y ρ H g q Q D t k E p=>.inr (zX u w x y ρ H g q Q D t k E p)) d c
 .exact cb (mQ hY) (bW λu w z e=>by
   let⟨i,j,rfl,rfl⟩:=bU e;cases e
   exact⟨_,_,rfl,rfl,rfl,trivial⟩) (cT #[3]) d c
 .refine cb xc (bW λu w z e=>?_) (cT #[3]) d c
  let⟨i,j,rfl,rfl⟩:=bU e;simp![IV,IU,Pj,Xc]at e;let⟨h,rfl⟩:=e;refine⟨_,_,rfl,rfl,rfl,?_⟩;rw[UC,UC,Z1,Z1,Z1,Z1,Z1]at h;unfold CMul;rw[show((2:Int) ^ 64)=BY from rfl];rcases h with(⟨h1,h2⟩|⟨h1,h2⟩)|⟨⟨⟨h1,h2⟩,h3⟩,h4⟩
  .exact .inl (.inl ⟨He h1,He h2⟩)
  .exact .inl (.inr ⟨He h1,He h2⟩)
  .exact .inr ⟨⟨He h1,He h2⟩,He h3,He h4⟩
 .refine cb wK (bW λu w z e=>?_) (cT #[3]) d c
  let⟨i,j,rfl,rfl⟩:=bU e;simp![IV,IU]at e;refine⟨i,j,rfl,rfl,?_⟩;by_cases f:0<j
  .rw [Yn f]at e
   have B:i / j=i.fdiv j:=(Int.fdiv_eq_ediv_of_nonneg i (by lia)).symm
   by_cases h1:j<Aj
   .rw [Yn h1]at e
    rw[<-B];exact⟨(WQ e).symm,by lia,by unfold Aj;lia,h1⟩
   .rw [Yb h1]at e;cases e
  .rw [Yb f]at e
   by_cases h1:j=0
   .rw [Yn h1]at e;cases e
   .rw [Yb h1]at e
    by_cases h2 : -Aj<j
    .rw [Yn h2]at e
     exact⟨(WQ e).symm,h1,h2,by unfold Aj;omega⟩
    .rw [Yb h2]at e;cases e
 .refine cb vI (bW λu w z e=>?_) (cT #[3]) d c
  let⟨i,j,rfl,rfl⟩:=bU e;simp![IV,IU]at e;refine⟨i,j,rfl,rfl,?_⟩;by_cases f:0<j
  .rw [Yn f]at e
   have B:i % j=i.fmod j:=(Int.fmod_eq_emod_of_nonneg i ()).symm
   rw[<-B];exact⟨(WQ e).symm,by omega⟩
  .rw [Yb f]at e
   by_cases h1:j=0
   .rw [Yn h1]at e;cases e
   .rw [Yb h1]at e
    exact⟨(WQ e).symm,h1⟩
 .exact cb y0 (bW λu w z e=>by
   let⟨i,j,rfl,rfl⟩:=bU e;simp![IV,IU,Pj,Xc]at e;let⟨h,rfl⟩:=e;refine⟨_,_,rfl,rfl,rfl,?_⟩;unfold CPow
   omega) (cT #[3]) d c
def Bx(X:Cx)(op:Cp)(o:CmpOp):Prop:=∃a,OpR X (compareOp o) a /\∀ρ (H:Hp) g u w x y b Q,RH X.K ρ H g->RV X.K ρ H u x->RV X.K ρ H w y->Jb op u w g=some b->Q (V.bl b) H->a x y H Q
def dA{op:Cp}{o:CmpOp}{f:Int->Int->Bool}(d:OpR X (compareOp o) (Ii λi j=>.bl (f i j)))(h:∀u w g b,Jb op u w g=some b ->∃i j,u=.int i/\w=.int j/\b=f i j):Bx X op o:=
 ⟨_,d,λρ H g u w x y b Q k c a e q=>by
  let⟨i,j,rfl,rfl,rfl⟩:=h u w g b e;cases c;cases a;exact⟨i,j,rfl,rfl,q⟩⟩
def fW{x:V}(h:RV K ρ H u x):AH u=decide (x=.ZK):=by
 cases u with
 |ZW S=>let⟨a,vs,rfl,_⟩:=h;rfl
 |Zx S=>let⟨a,vs,rfl,_⟩:=h;rfl
 |ref S=>let⟨a,rfl,_⟩:=h;rfl
 |xn _ S=>let⟨a,vs,rfl,_⟩:=h;rfl
 |_=>cases h;rfl
def eS{f:Int->Int->Bool}{w:U}{b:Bool}(e:(match u,w with|.int i,.int j=>some (f i j)|_,_=>none)=some b):∃i j,u=.int i/\w=.int j/\b=f i j:=by
 cases u<;>first|(cases e;done)|skip
 cases w<;>first|(cases e;done)|skip
 exact⟨_,_,rfl,rfl,(WQ e).symm⟩
def qt{w:U}(h:Cy u w=true):(u=.ZK/\w=.ZK)\/(∃a b,u=.bl a/\w=.bl b)\/(∃a b,u=.int a/\w=.int b) \/∃a b,u=.str a/\w=.str b:=by
 cases u<;>cases w<;>first|(cases h;done)|exact .inl ⟨rfl,rfl⟩|exact .inr (.inl ⟨_,_,rfl,rfl⟩)|exact .inr (.inr (.inl ⟨_,_,rfl,rfl⟩))|exact .inr (.inr (.inr ⟨_,_,rfl,rfl⟩))
def ac4(s:X.A.units+2<cLine)(op:Cp)(o:CmpOp)(h:(op=.eq/\o = .Eq)\/(op=.ne/\o = .NotEq)\/(op=.lt/\o = .Lt)\/(op=.le/\o = .LtE)\/(op=.gt/\o = .Gt)\/(op=.ge/\o = .GtE)\/(op=.UZ/\o = .Is)\/(op=.UY/\o = .IsNot)\/(op=.Xn/\o = .In)\/(op=.VZ/\o = .NotIn)):Bx X op o:=by
 rcases h with⟨rfl,rfl⟩|⟨rfl,rfl⟩|⟨rfl,rfl⟩|⟨rfl,rfl⟩|⟨rfl,rfl⟩|⟨rfl,rfl⟩|⟨rfl,rfl⟩|⟨rfl,rfl⟩|⟨rfl,rfl⟩|⟨rfl,rfl⟩
 .refine ⟨_,gT (abf (by lia)) (xJ s),λρ H g u w x y b Q i f d e q=>?_⟩
  simp![Jb]at e;cases n:Bd u w g with
  |none=>
   rw[n]at e;exact .inl ⟨ρ,g,u,w,b,i,f,d,e,q⟩
  |some p=>rw[n]at e;exact .inr ⟨ρ,g,u,w,b,i,f,d,W5.mpr ⟨p,n,e⟩,q⟩
 .refine ⟨_,gT acV (aaH s),λρ H g u w x y b Q i f d e q=>?_⟩
  cases hs:Cy u w with
  |false=>
   simp![Jb,hs,Xh,Vn]at e;cases u<;>first|(cases e;done)|skip
   cases w<;>first|(cases e;done)|skip
   let⟨c,z,rfl⟩:=X7.mp e;exact .inr ⟨ρ,_,_,c,f,d,z,q⟩
  |true=>
  refine .inl ?_;rcases qt hs with⟨rfl,rfl⟩|⟨a,c,rfl,rfl⟩|⟨a,c,rfl,rfl⟩|⟨a,c,rfl,rfl⟩<;>simp![Jb,Cy,V6,Ai,VO,Xc]at e<;>subst e<;>cases f<;>cases d<;>refine⟨rfl,?_⟩<;>
   first|exact q|(rw[lI];exact q)|(rw[mL];exact q)|(rw[kX];exact q)|simpa using q
 .exact dA ab1 λu w g b e=>eS e
 .exact dA acm λu w g b e=>eS e
 .exact dA acI λu w g b e=>eS e
 .exact dA acj λu w g b e=>eS e
 .refine ⟨_,yX,λρ H g u w x y b Q i f d e q=>?_⟩
  cases w<;>simp![Jb,AH,V6,Xh,Vn,Xc,reduceCtorEq]at e
  cases d;subst e;refine⟨rfl,?_⟩;rw[<-fW f];cases u<;>exact q
 .refine ⟨_,vS,λρ H g u w x y b Q i f d e q=>?_⟩
  cases w<;>simp![Jb,AH,V6,Xh,Vn,Xc,reduceCtorEq]at e
  cases d;subst e;refine⟨rfl,?_⟩;rw[<-fW f];cases u<;>exact q
 .refine ⟨_,gI (zF (by lia)) (gI (aaV ()) ye),λρ H g u w x y b Q i f d e q=>?_⟩
  simp![Jb]at e;cases j:items w g with
  |none=>
   simp![j]at e;refine .inr ?_;rcases aa5 e with⟨rfl,Z4,v,hk,rfl⟩|e
   .obtain ⟨a,ws,rfl,t,d⟩:=gJ i d v
    cases f;exact .inr ⟨a,ws,Z4.map (·.1),rfl,rfl,t,by rw[gO d,TU];rfl,hk,q⟩
   let⟨o,m,rfl⟩:=X7.mp e;let⟨a,k,l,r,es,_⟩:=gj i f d m;exact .inl ⟨a,k,l,r,by rw[es];exact q⟩
  |some S=>simp![j]at e;exact .inl ⟨ρ,g,u,w,b,i,f,d,W5.mpr ⟨S,j,e⟩,q⟩
 .refine ⟨_,gI (wR ()) (wq ()),λρ H g u w x y b Q i f d e q=>?_⟩
  simp![Jb]at e;cases j:items w g with
  |none=>
   simp![j]at e;let⟨o,m,rfl⟩:=X7.mp e;let⟨a,k,l,r,es,_⟩:=gj i f d m;exact .inr ⟨a,k,l,r,by rw[es];exact q⟩
  |some S=>
   simp![j]at e;exact .inl ⟨ρ,g,u,w,b,i,f,d,W5.mpr ⟨S,j,e⟩,q⟩
def yz{op:Cp}{o:CmpOp}(c:Bx X op o)(j:behindInMarks o b=false)(m:PE X a (tE X.K W (r.ev a')))(l:PE X b (tE X.K W (r.ev b'))):PE X (.Compare a [o] [b] pos) (tE X.K W (Jo C r (.cmp op a' b'))):=by
 let⟨d,c,imp⟩:=c;refine(wg c m l j).imp λY H Q i=>two i λn ρ H g u w x y hs f h d p=>?_;cases e:Jb op u w g with
 |none=>simp![e]at p;exact p.elim
 |some k=>simp![e]at p;exact imp ρ H g u w x y k Q f h d e (post.Y5 p f rfl)
def aaL{op:Cp}{o:CmpOp}(h:Bx X op o)(m:behindInMarks o b=false)(q:PE X a (tE X.K W (r.ev a')))(n:PE X b (tE X.K W (r.ev b'))):PT X (.Compare a [o] [b] pos) (tT X.K W (λY g=>(Jo C r (.cmp op a' b') Y g).bind λx g=>lift (Jc x g) g)):=by
 let⟨i,h,imp⟩:=h;refine(uQ h q n m).imp λY H Q l=>?_;have s:tR X.K W Yc (λd g=>(r.ev a' d g).bind λx g=>(r.ev b' d g).bind λy g=>match Jb op x y g with|some c=>Out.ok c g|none=>.ZV) Y H Q:=by
  let⟨d,ρ,g,hs,f,p⟩:=l;refine⟨d,ρ,g,hs,f,?_⟩;have e:((Jo C r (.cmp op a' b') d g).bind λx g=>lift (Jc x g) g)=((r.ev a' d g).bind λx g=>(r.ev b' d g).bind λy g=>match Jb op x y g with|some c=>Out.ok c g|none=>.ZV):=by
   delta Jo;dsimp only
   cases r.ev a' d g with
   |ok x g1=>
    simp![Out.bind];cases r.ev b' d g1 with
    |ok y g2=>simp![Out.bind];cases Jb op x y g2<;>rfl
    |exc _ _ _=>rfl
    |ZV=>rfl
   |exc _ _ _=>rfl
   |ZV=>rfl
  have p2:=p
  change post X.K W Yc ((Jo C r (.cmp op a' b') d g).bind λx g=>lift (Jc x g) g) ρ H Q at p2
  rw[e]at p2;exact p2
 refine two s λd ρ H g u w x y hs f j i p=>?_;cases e:Jb op u w g with
 |none=>simp![e]at p;exact p.elim
 |some k=>simp![e]at p;exact imp ρ H g u w x y k _ f j i e ⟨k,rfl,post.Y5 p f rfl⟩
end
section
variable{W:XQ}{a b c:Expr}{a' b' c':E}{ZQ:List Expr}
def okE{Q:VK}(p:post X.K W (RV X.K) (.ok u g) ρ H Q)(a:RH X.K ρ H g)(r:RV X.K ρ H u v):Q v H:=post.Y5 p a r
def jJ{op i:Cp}{a j:R2}
  (d:∀ρ (H:Hp) g u w x y b Q,RH X.K ρ H g->RV X.K ρ H u x->RV X.K ρ H w y->Jb op u w g=some b->Q (V.bl b) H->a x y H Q)
  (c:∀ρ (H:Hp) g u w x y b Q,RH X.K ρ H g->RV X.K ρ H u x->RV X.K ρ H w y->Jb i u w g=some b->Q (V.bl b) H->j x y H Q) (Y:L2.St) (H:Hp) (Q:VK) (o:tE X.K W (Jo C r (.chain op i a' b' c')) Y H Q) :
  DG a j (tE X.K W (r.ev a')) (tE X.K W (r.ev b')) (tE X.K W (r.ev c')) Y H Q:=by
 refine two o λs ρ H g u w x y hs f m a p=>?_;cases e:Jb op u w g with
 |none=>simp![e]at p;exact p.elim
 |some k=>
  refine d ρ H g u w x y k _ f m a e ⟨k,rfl,?_⟩;cases k with
  |false=>simp![e]at p;exact bj (okE p f rfl)
  |true=>
   simp![e]at p;refine bp ?_;refine⟨s,ρ,g,hs,f,(post.bind p).mono λv H2 ⟨q,z,g2,s2,h2,l,p2⟩=>?_⟩;cases h:Jb i w z g2 with
   |none=>simp![h]at p2;exact p2.elim
   |some n=>simp![h]at p2;exact c q H2 g2 w z y v n Q h2 (RV.step s2 _ _ a) l h (okE p2 h2 rfl)
def tz{op g:Cp}{o o':CmpOp}(e:Bx X op o)(f:Bx X g o')(h:lastMarks [o,o'] [b,c]=false)(k:PE X a (tE X.K W (r.ev a')))(j:PE X b (tE X.K W (r.ev b')))(i:PE X c (tE X.K W (r.ev c'))):
  PE X (.Compare a [o,o'] [b,c] pos) (tE X.K W (Jo C r (.chain op g a' b' c'))):=by
 let⟨m,e,imp⟩:=e;let⟨l,f,d⟩:=f;exact(sQ e f k j i h).imp (jJ imp d)
def sZ{f:Su->G->Out U}(i:∀Y g u g',f Y g=.ok u g' ->∃c,u=.bl c)(Y:L2.St)(H:Hp)(Q:Bool->Hp->Prop)(e:tT X.K W (λY g=>(f Y g).bind λx g=>lift (Jc x g) g) Y H Q):tE X.K W f Y H (λx H1=>∃c,x=.bl c/\Q c H1):=by
 let⟨a,ρ,g,hs,h,p⟩:=e;refine⟨a,ρ,g,hs,h,?_⟩;have hk:=i a g
 change post X.K W Yc ((f a g).bind λx g=>lift (Jc x g) g) ρ H Q at p
 revert p hk;cases f a g with
 |ok u g1=>
  intro hk p;let⟨c,rfl⟩:=hk u g1 rfl;intro v j H1 b h1 d;cases d;exact⟨c,rfl,p c j H1 b h1 rfl⟩
 |exc c fs g1=>exactλ_ p=>p
 |ZV=>exactλ_ p=>p
def tB{op a:Cp}(Y:Su)(g:G)(u:U)(g':G)(h:Jo C r (.chain op a a' b' c') Y g=.ok u g'):∃c,u=.bl c:=by
 delta Jo at h;dsimp only at h
 revert h;cases r.ev a' Y g with
 |ok x g1=>
  simp![Out.bind];cases r.ev b' Y g1 with
  |ok y g2=>
   simp![Out.bind];cases Jb op x y g2 with
   |none=>intro h;cases h
   |some k=>
    cases k with
    |false=>intro h;cases h;exact⟨_,rfl⟩
    |true=>
     simp![];cases r.ev c' Y g2 with
     |ok z g3=>
      simp![Out.bind];cases Jb a y z g3 with
      |none=>intro h;cases h
      |some k=>intro h;cases h;exact⟨_,rfl⟩
     |exc _ _ _=>intro h;cases h
     |ZV=>intro h;cases h
  |exc _ _ _=>intro h;cases h
  |ZV=>intro h;cases h
 |exc _ _ _=>intro h;cases h
 |ZV=>intro h;cases h
def sH{op h:Cp}{o o':CmpOp}(e:Bx X op o)(f:Bx X h o')(j:lastMarks [o,o'] [b,c]=false)(m:PE X a (tE X.K W (r.ev a')))(l:PE X b (tE X.K W (r.ev b')))(k:PE X c (tE X.K W (r.ev c'))):
  PT X (.Compare a [o,o'] [b,c] pos) (tT X.K W (λY g=>(Jo C r (.chain op h a' b' c') Y g).bind λx g=>lift (Jc x g) g)):=by
 let⟨p,e,imp⟩:=e;let⟨n,f,d⟩:=f;exact(sL e f m l k j).imp λY H Q i=>jJ imp d Y H _ (sZ tB Y H Q i)
def abz(h:PE X a (tE X.K W (r.ev a')))(f:PE X (.BoolOp .And (b::ZQ) pos) (tE X.K W (r.ev b'))):PE X (.BoolOp .And (a::b::ZQ) pos) (tE X.K W (Jo C r (.and a' b'))):=by
 refine(aaE h f).imp λY H Q e=>one e λi ρ H g u x hs c d p=>?_;cases u with
 |bl k=>
  cases d;refine⟨k,rfl,?_⟩;cases k with
  |true=>exact bp ⟨i,ρ,g,hs,c,p⟩
  |false=>exact bj (okE p c rfl)
 |_=>exact p.elim
def acO(h:PE X a (tE X.K W (r.ev a')))(f:PE X (.BoolOp .Or (b::ZQ) pos) (tE X.K W (r.ev b'))):PE X (.BoolOp .Or (a::b::ZQ) pos) (tE X.K W (Jo C r (.or a' b'))):=by
 refine(ad6 h f).imp λY H Q e=>one e λi ρ H g u x hs c d p=>?_;cases u with
 |bl k=>
  cases d;refine⟨k,rfl,?_⟩;cases k with
  |true=>exact bp (okE p c rfl)
  |false=>exact bj ⟨i,ρ,g,hs,c,p⟩
 |_=>exact p.elim
def my{x:V}{k:Bool}(j:RH X.K ρ H g)(d:RV X.K ρ H u x)(e:Jc u g=some k):Dq X.K x H k:=by
 have c:∀{S:List U} {vs:List V},RVs X.K ρ H S vs->(!S.isEmpty) = !vs.isEmpty:=λ{S vs} h=>by
  cases S with
  |nil=>cases h;rfl
  |cons u S=>let⟨v,r,rfl,_⟩:=h;rfl
 cases u with
 |ZK=>cases d;cases e;rfl
 |bl b=>cases d;cases e;rfl
 |int i=>cases d;cases e;rfl
 |str s=>simp[Jc]at e
 |ZW S=>let⟨a,vs,rfl,h1,h2⟩:=d;cases e;exact .inr (.inl ⟨vs,h1.sq,c h2⟩)
 |Zx S=>let⟨a,vs,rfl,h1,h2⟩:=d;cases e;exact .inl ⟨vs,h1.sq,c h2⟩
 |ref n=>
  let⟨a,rfl,f⟩:=d;simp![Jc]at e;cases eg:g[n]? with
  |none=>simp[eg]at e
  |some o=>
   cases o with
   |Z5 xs=>
    simp![eg,Xc]at e;subst e;let⟨a',vs,h1,h2,l⟩:=j.Z5 eg;rw[f]at h1;cases h1;exact .inl ⟨vs,.of h2,c l⟩
   |ZF _=>simp[eg]at e
   |Zq _=>simp[eg]at e
   |dst _=>simp[eg]at e
   |ins _ _=>simp[eg]at e
 |xn _ _=>simp[Jc]at e
def yr(m:PE X a (tE X.K W (r.ev a'))):PE X (.UnaryOp .Not a pos) (tE X.K W (Jo C r (.not a'))):=by
 intro O s Y H Q I l;have n:tE X.K W (r.ev a') Y H (λx H1=>∃k,Dq X.K x H1 k/\Q (.bl (!k)) H1):=one l λw ρ H g u x hs d c p=>by
  cases e:Jc u g with
  |none=>simp![e]at p;exact p.elim
  |some k=>simp![e]at p;exact⟨k,my d c e,okE p d rfl⟩
 refine UnaryOp_ (thn (m O s Y H _ I n) ?_);rintro v h ⟨x,H1,q,c,k,f,j⟩;exact not_of (thn (mR O h Y H1 x v (λb H2=>Q (.bl (!b)) H2) q c ⟨k,f,j⟩) λb t ⟨H2,o,i⟩=>⟨.bl (!b),H2,o,rfl,i⟩)
def sN(ha:PE X a (tE X.K W (r.ev a')))(he:∀whole,isTrue a X.env whole=(do let v<-whole;standAt a.pos;holding [v] (truthy v))):PT X a (tT X.K W (λY g=>(r.ev a' Y g).bind λx g=>lift (Jc x g) g)):=by
 refine(ui ha he).imp λY H Q hp=>one (k:=λ_ x g=>lift (Jc x g) g) hp λZY ρ H g u x hs hg r1 p=>?_;let⟨k,e,p⟩:=post.lift p;exact⟨k,my hg r1 e,post.Y5 p hg rfl⟩
def yC(h:PT X a (tT X.K W (r.ts a')))(f:PW X (.BoolOp .And (b::ZQ) pos) (tT X.K W (r.ts b'))):PW X (.BoolOp .And (a::b::ZQ) pos) (tT X.K W (Jp r (.and a' b'))):=by
 refine(aaB h f).imp ?_;rintro Y H Q ⟨d,ρ,g,hs,e,p⟩;refine⟨d,ρ,g,hs,e,(post.bind (R:=Yc) p).mono λk H1 ⟨j,k',g1,s1,h1,i,c⟩=>?_⟩;subst i;cases k' with
 |true=>exact bp ⟨d,j,g1,hs.step s1,h1,c⟩
 |false=>exact bj (post.Y5 c h1 rfl)
def acg(h:PT X a (tT X.K W (r.ts a')))(f:PW X (.BoolOp .Or (b::ZQ) pos) (tT X.K W (r.ts b'))):PW X (.BoolOp .Or (a::b::ZQ) pos) (tT X.K W (Jp r (.or a' b'))):=by
 refine(adg h f).imp ?_;rintro Y H Q ⟨d,ρ,g,hs,e,p⟩;refine⟨d,ρ,g,hs,e,(post.bind (R:=Yc) p).mono λk H1 ⟨j,k',g1,s1,h1,i,c⟩=>?_⟩;subst i;cases k' with
 |true=>exact bp (post.Y5 c h1 rfl)
 |false=>exact bj ⟨d,j,g1,hs.step s1,h1,c⟩
def yP(d:PT X a (tT X.K W (r.ts a'))):PT X (.UnaryOp .Not a pos) (tT X.K W (Jp r (.not a'))):=by
 refine(zU d).imp ?_;rintro Y H Q ⟨f,ρ,g,hs,c,p⟩;refine⟨f,ρ,g,hs,c,(post.bind (R:=Yc) p).mono λk H1 ⟨h,k',g1,s1,h1,e,b⟩=>?_⟩;subst e;exact post.Y5 b h1 rfl
def nj:PA X [] (X8 X.K W (Ji r.ev [])):=bX.imp λY H Q ⟨b,ρ,g,hs,a,p⟩=>post.Y5 (R:=RVs X.K) (u:=[]) p a rfl
def lL(i:PE X a (tE X.K W (r.ev a')))(e:PA X es (X8 X.K W (Ji r.ev es')))(b:starEach (a::es) X.env=(false,eval a X.env)::starEach es X.env):PA X (a::es) (X8 X.K W (Ji r.ev (a'::es'))):=by
 refine(a6 i e b).imp λY H Q f=>one f λj ρ H g u x b h c p=>?_;refine⟨j,ρ,g,b,h,(post.bind p).mono λxs H1 ⟨k,S,g1,s1,h1,rs,d⟩=>?_⟩;exact post.Y5 (R:=RVs X.K) d h1 ⟨x,xs,rfl,RV.step s1 _ _ c,rs⟩
def szl(a:RVs X.K ρ H S vs)(h:S.length<=Ac):vs.length<=sizeLine:=by
 rw[<-a.length,U9];unfold Ac at h;lia
def yB{k:Nat}(h:PA X es (X8 X.K W (Ji r.ev es'))):PE X (.Tuple es k pos) (tE X.K W (Jo C r (.ZW es'))):=by
 refine(y2 h).imp ?_;rintro Y H Q ⟨e,ρ,g,hs,d,p⟩;refine⟨e,ρ,g,hs,d,(post.bind (R:=RVs X.K) p).mono λxs H1 ⟨f,S,g1,s1,h1,rs,a⟩=>?_⟩;by_cases c:S.length<=Ac
 .rw [Yn c]at a
  refine⟨szl rs c,λq b=>?_⟩;exact a _ f _ (ZI.fresh b) (h1.step_fresh b) ⟨q,xs,rfl,upd_same,RVs.step (ZI.fresh b) _ _ rs⟩
 .rw [Yb c]at a;exact a.elim
def aY{xs:List V}{Q:VK}(p:post X.K W (RV X.K) (alloc (.Z5 S) g) ρ H Q)(b:RH X.K ρ H g)(c:RVs X.K ρ H S xs)(q:Addr)(a:H q=none):Q (.ref q) (upd H q (.Z5 xs)):=by
 refine p (.ref q) (ρ++[q]) _ (ZI.alloc a) (b.alloc a c) ⟨q,rfl,?_⟩;rw[<-b.len];simp
def zP(h:PA X es (X8 X.K W (Ji r.ev es'))):PE X (.List es pos) (tE X.K W (Jo C r (.Z5 es'))):=by
 refine(aae h).imp ?_;rintro Y H Q ⟨e,ρ,g,hs,d,p⟩;refine⟨e,ρ,g,hs,d,(post.bind (R:=RVs X.K) p).mono λxs H1 ⟨f,S,g1,s1,h1,rs,a⟩=>?_⟩;by_cases b:S.length<=Ac
 .rw [Yn b]at a
  exact⟨szl rs b,λq c=>aY a h1 rs q c⟩
 .rw [Yb b]at a;exact a.elim
def xp{i:Int}(a:RVs X.K ρ H S vs)(e:Jd S i=some u):∃v,atI vs i=some v/\RV X.K ρ H u v:=by
 unfold Jd atI at e;unfold atI;rw[<-a.length];cases b:ixN S.length i with
 |none=>simp[b]at e
 |some j=>
  rw[b]at e;let⟨v,h1,h2⟩:=a.get (show S[j]?=some u from e);exact⟨v,h1,h2⟩
def yN(D:X.A.units+1<cLine)(s:PE X a (tE X.K W (r.ev a')))(F:PE X b (tE X.K W (r.ev b')))(B:DD b):PE X (.Subscript a b pos) (tE X.K W (Jo C r (.idx a' b'))):=by
 refine(ad4 ((ve.or yV).or (xo D)) s F B).imp λY H Q E=>two E λJ ρ H g u w x y B c m l p=>?_;cases w with
 |int i=>
  cases l;cases e:items u g with
  |none=>simp![e]at p;exact p.elim
  |some S=>
   simp![e]at p;let⟨z,j,p⟩:=post.lift p;let⟨q,vs,rfl,h,rs⟩:=cG c m e;let⟨v,ev,f⟩:=xp rs j;rcases h with h|h
   .exact .inl (.inl ⟨q,vs,i,v,rfl,rfl,h,ev,okE p c f⟩)
   .exact .inl (.inr ⟨q,vs,i,v,rfl,rfl,h,ev,okE p c f⟩)
 |ZW S=>
  let⟨z,j,p⟩:=post.lift p;let⟨o,t,d⟩:=W5.mp j;let⟨q,I,rfl,G,_,got⟩:=gj c l m t;let⟨v,rfl,f⟩:=got z d;exact .inr ⟨q,v,rfl,G,okE p c f⟩
 |str k=>
  let⟨z,j,p2⟩:=post.lift p;clear p;let⟨Z4,t,d⟩:=W5.mp j;let⟨n,q,ws,rfl,_,_,rfl,s,rk⟩:=aar c m t;let⟨v,ev,f⟩:=rk.got k d;cases l;exact .inr ⟨q,v,rfl,by rw[<-ev];exact DGet.k (k:=Sum.inr k) s,okE p2 c f⟩
 |_=>exact p.elim
def dj{K:Hf}{ρ:List Addr}{H:Hp}:∀ns:List Int,RVs K ρ H (ns.map U.int) (ns.map V.int)
 |[]=>rfl
 |n::ns=>⟨.int n,ns.map V.int,rfl,rfl,dj ns⟩
def se_bi{b:Bi}{f:Str}{c:Pos}{a:List V->Hp->VK->Prop}(h:PE X (.Call (.Name f c) (e::es) [] pos) (Iq a (X8 X.K W (Ji r.ev es'))))
  (imp:∀ρ H g S xs Q,RH X.K ρ H g->RVs X.K ρ H S xs->post X.K W (RV X.K) (Jg b S g) ρ H Q->a xs H Q):PE X (.Call (.Name f c) (e::es) [] pos) (tE X.K W (Jo C r (.bi b es'))):=by
 refine h.imp ?_;rintro Y H Q ⟨j,ρ,g,hs,i,p⟩;exact⟨j,ρ,g,hs,i,(post.bind (R:=RVs X.K) p).mono λxs H1 ⟨k,S,g1,s1,h1,rs,d⟩=>imp k H1 g1 S xs Q h1 rs d⟩
def imp_len(ρ:List Addr)(H:Hp)(g:G)(S:List U)(xs:List V)(Q:VK)(b:RH X.K ρ H g)(a:RVs X.K ρ H S xs)(p:post X.K W (RV X.K) (Jg .len S g) ρ H Q):
  ∃p ys,xs=[.ref p]/\(SqL X.K H p ys\/SqT X.K H p ys)/\Q (.int ys.length) H:=by
 match S,a with
 |[u],a=>
  let⟨x,r',rfl,d,e⟩:=a;cases e;simp![Jg,DM,C7]at p;cases e:items u g with
  |none=>simp![e]at p;exact p.elim
  |some zs=>
   simp![e]at p;let⟨q,vs,rfl,f,c⟩:=cG b d e;exact⟨q,vs,rfl,f,by rw[<-c.length];exact okE p b rfl⟩
 |[],_=>exact p.elim
 |_::_::_,_=>exact p.elim
def imp_abs(ρ:List Addr)(H:Hp)(g:G)(S:List U)(xs:List V)(Q:VK)(c:RH X.K ρ H g)(a:RVs X.K ρ H S xs)(p:post X.K W (RV X.K) (Jg .abs S g) ρ H Q):
  ∃i,xs=[.int i]/\Q (.int (if i<0 then -i else i)) H:=by
 match S,a with
 |[u],a=>
  let⟨x,r',rfl,b,e⟩:=a;cases e;cases u with
  |int i=>cases b;exact⟨i,rfl,okE p c rfl⟩
  |_=>exact p.elim
 |[],_=>exact p.elim
 |_::_::_,_=>exact p.elim
def jk{xs:List V}(j:RH X.K ρ H g)(b:RVs X.K ρ H S xs)(e:A9 S g=some ns):∃p,xs=[.ref p]/\H p=some (.Z5 (ns.map V.int)):=by
 match S,b with
 |[],_=>cases e
 |_::_::_,_=>unfold A9 at e;split at e<;>first|cases e|(rename_i h;cases h)
 |[u],b=>
  let⟨x,r',rfl,f,e'⟩:=b;cases e';cases u with
  |ref n=>
   simp![A9]at e;cases eg:g[n]? with
   |none=>rw[eg]at e;cases e
   |some ob=>
    cases ob with
    |Z5 S=>
     rw[eg]at e;let⟨a,vs,i,k,d⟩:=j.Z5 eg;let⟨a',rfl,c⟩:=f;rw[i]at c;cases c;exact⟨a,rfl,by rw[k,cw e d]⟩
    |_=>rw[eg]at e;cases e
  |_=>cases e
def imp_mm{b:Bi}{m:Bool}(j:∀S g,Jg b S g=Ce m S g)(ρ:List Addr)(H:Hp)(g:G)(S:List U)(xs:List V)(Q:VK)(d:RH X.K ρ H g)(h:RVs X.K ρ H S xs)(p:post X.K W (RV X.K) (Jg b S g) ρ H Q):Jz m xs H Q:=by
 rw[j]at p;unfold Ce at p;cases e:intsOf S with
 |some ns=>
  have ex:=cw e h;subst ex;simp![e]at p
  match ns,p with
  |[a,b],p=>exact .inl ⟨a,b,rfl,okE p d rfl⟩
  |[a,b,c],p=>exact .inr (.inl ⟨a,b,c,rfl,okE p d rfl⟩)
  |[],p=>exact p.elim
  |[_],p=>exact p.elim
  |_::_::_::_::_,p=>exact p.elim
 |none=>
  simp![e]at p;cases f:A9 S g with
  |none=>simp![f]at p;exact p.elim
  |some ns=>
   simp![f]at p;let⟨q,rfl,i⟩:=jk d h f;cases ns with
   |nil=>exact p.elim
   |cons a r=>exact .inr (.inr ⟨q,a,r,rfl,i,okE p d rfl⟩)
def wA:PE X (.Dict [] [] pos) (tE X.K W (Jo C r .Wi)):=by
 refine(sT).imp ?_;rintro Y H Q ⟨c,ρ,g,hs,b,p⟩ q a;refine p (.ref q) (ρ++[q]) _ (ZI.alloc a) (b.Te a ⟨[],rfl,rfl⟩) ⟨q,rfl,?_⟩;rw[<-b.len];simp
end
def gf(a:List Int):∀{r:List (List Int)} {x:List Int},x∈A5 a r↔x=a\/x∈r
 |[],x=>by simp[A5]
 |b::r,x=>by
  unfold A5;split
  .rename_i e;subst e;simp
  .split
   .simp
   .rw [Xq,gf a,Xq]
    constructor
    .rintro (h|h|h)
     .exact .inr (.inl h)
     .exact .inl h
     .exact .inr (.inr h)
    .rintro (h|h|h)
     .exact .inr (.inl h)
     .exact .inl h
     .exact .inr (.inr h)
def bH:∀{l:List (List Int)} {x:List Int},x∈Je l↔x∈l
 |[],x=>Y6
 |a::l,x=>by
  show x∈A5 a (Je l)↔_;rw[gf,bH,Xq]
def jU(a:List Int):∀{r:List (List Int)},r.Pairwise (λx y=>Ag x y=true)->(A5 a r).Pairwise λx y=>Ag x y=true
 |[],_=>by simp[A5]
 |b::r,h=>by
  let⟨h1,h2⟩:=Ur.mp h;unfold A5;split
  .exact h
  .rename_i f
   split
   .rename_i d
    refine Ur.mpr ⟨λx c=>?_,h⟩;rcases Xq.mp c with rfl|c
    .exact d
    .exact cU d (h1 x c)
   .rename_i d
    refine Ur.mpr ⟨λx c=>?_,jU a h2⟩;rcases(gf a).mp c with rfl|c
    .cases e:Ag b x with
     |true=>rfl
     |false=>exact absurd (cJ (by simpa using d) e) f
    .exact h1 x c
def bI:∀l:List (List Int),(Je l).Pairwise λx y=>Ag x y=true
 |[]=>.nil
 |a::l=>jU a (bI l)
def mG:∀{a:List (List Int)},a.Pairwise (λx y=>Ag x y=true)->a.Nodup:=λh=>h.imp λ{x y} hl e=>by rw[e,cK]at hl;cases hl
def y3{ks l:List (List Int)}(a:l.Nodup)(h:∀x,x∈l↔x∈ks):l.length=(Je ks).length:=
 ((PF a (mG (bI ks))).mpr λx=>(h x).trans bH.symm).length_eq
def lH(a:List Int):∀r:List (List Int),(A5 a r).length<=r.length+1
 |[]=>G8 _
 |b::r=>by
  unfold A5;split
  .exact V8 _
  .split
   .exact G8 _
   .rw [Xb,Xb];exact P8 (lH a r)
def ik:∀ks:List (List Int),(Je ks).length<=ks.length
 |[]=>G8 _
 |a::ks=>G6 (lH a (Je ks)) (P8 (ik ks))
def dX:∀{a b:List (List Int)},a.Pairwise (λx y=>Ag x y=true)->b.Pairwise (λx y=>Ag x y=true)->(∀x,x∈a↔x∈b)->a=b
 |[],[],_,_,_=>rfl
 |[],y::b,_,_,h=>absurd ((h y).mpr Wv) #[3]
 |x::a,[],_,_,h=>absurd ((h x).mp Wv) #[3]
 |x::a,y::b,u,t,h=>by
  let⟨g,A⟩:=Ur.mp u;let⟨f,w⟩:=Ur.mp t;have e:x=y:=by
   rcases Xq.mp ((h x).mp Wv)with e|k
   .exact e
   .rcases Xq.mp ((h y).mpr Wv)with e|j
    .exact e.symm
    .have:=cU (f x k) (g y j)
     rw[cK]at this;cases this
  subst e;have d:∀{l:List (List Int)},(∀z∈l,Ag x z=true)->x ∉ l:=λr o=>by have:=r x o;rw[cK]at this;cases this
  rw[dX A w λz=>?_];constructor
  .intro c
   rcases Xq.mp ((h z).mp (G9 _ c))with e|q
   .subst e;exact absurd c (d g)
   .exact q
  .intro c
   rcases Xq.mp ((h z).mpr (G9 _ c))with e|q
   .subst e;exact absurd c (d f)
   .exact q
section
def items_int{P:Program}{w:World}:∀{k:List Int} {S:List Value},ZG (k.map V.int) S->ItemsAre (intKind P w) k S
 |[],S,h=>by cases h;exact .nil
 |i::k,S,h=>by
  cases h with
  |cons r t=>
   let⟨u,rfl⟩:=r;exact .cons (intKind_is _ _ _ _) (items_int t)
def gQ{P:Program}{b:Addr}{k:List Int}(a:HOk P w H h)(e:H b=some (.ZW (k.map V.int))):IsT P w h k b:=by
 let⟨_,ZU,r,o,ho,d,n,c⟩:=a b _ e;exact⟨o,ZU.toArray,n,ho,d,c,items_int r⟩
def F9(H:Hp)(D:Y0):Prop:=∀d∈D,H d.2=some (.ZW (d.1.map V.int))/\d.1≠[]
def F0(X:Cx):List V->Hp->VK->Prop:=λxs H Q=>∃(p:Addr) (a:Y0),xs=[.ref p]/\H p=some (.Z5 (a.map λd=>V.ref d.2))/\F9 H a/\a.length<=300/\(∀d∈a,∀e∈a,Ja d.1=Ja e.1->d.1=e.1) /\
 ∀(Z6:Addr) (D:Y0),H Z6=none->(∀d∈D,d∈a)->(∀d∈a,∃e∈D,e.1=d.1)->(D.map (·.1)).Nodup->Q (.ref Z6) (upd H Z6 (.ext (SInv X.prog X.w Z6 D)))
def SInv.XT{P:Program}{Z6:Addr}{D:Y0}(b a:Heap)(i:SInv P w Z6 D b)(k:∀o,b.get? Z6=some o->a.get? Z6=some o):SInv P w Z6 D a:=
 let⟨o,es,ep,t,Z,ho,r⟩:=i;⟨o,es,ep,t,Z,k o ho,r⟩
def tD(B:X.calm=true)(z:X.A.units+3<cLine):CallR X (.type "set") (F0 X):=by
 intro O s Y H xs S Q I r ⟨p,c,e,hp,hT,hn,E,q⟩;subst e;let⟨u,rfl,y⟩:=vals1 r;cases y;let⟨ZU,m,pl,J⟩:=I.list (SqL.of hp);have f:ZU.length=c.length:=by rw[<-m.length,Zd]
 let key:Nat->List Int×Addr:=λi=>(c[i]?).getD ([],0)
 have hk:∀i,i<c.length->key i∈c/\c[i]?=some (key i):=λi hi=>by
  have e:c[i]?=some c[i]:=Xp hi;have l:key i=c[i]:=by show(c[i]?).getD _=_;rw[e];rfl
  rw[l];exact⟨TX hi,e⟩
 have D:∀d∈c,∃i,i<c.length/\d=key i:=λd hd=>by
  let⟨i,hi,e⟩:=Qu hd;exact⟨i,hi,by rw[<-e];have:=(hk i hi).2;rw[Xp hi]at this;exact WQ this⟩
 refine qY (key:=key) (I.ok.hd B) z pl.isList (λi v h=>?_) (λi hi=>?_) (λi j hi g e=>?_) (by rw[XA,f];exact hn) λh' tk k F=>?_
 .rw [List.getElem?_toArray]at h
  have hi:i<c.length:=by rw[<-f];exact(Yj.mp h).1
  let⟨G,n,l⟩:=m.get (i:=i) (x:=V.ref (key i).2) (by rw[Wy,(hk i hi).2];rfl)
  rw[h]at n;cases n;exact l
 .rw [XA,f]at hi
  exact gQ I.ZJ (hT _ (hk i hi).1).1
 .rw [XA,f]at hi g
  exact E _ (hk i hi).1 _ (hk j g).1 e
 .have C:ZU.toArray.size=c.length:=by rw[XA,f]
  rw [C] at k;refine ⟨.ref s.heap.objs.size,_,I.laid (t':=tk) F (G8 _) (show ObjOk X.prog X.w _ h' _ (.ext (SInv X.prog X.w s.heap.objs.size (dd key c.length))) from ⟨k,?_,λh1 h2 a b=>SInv.XT h1 h2 a b⟩),rfl,
   q _ (dd key c.length) (I.ZJ.fresh (G8 _)) (λd hd=>?_) (λd hd=>?_) (nT key _)⟩
  .obtain ⟨o,es,ep,t,Z,ho,_⟩:=k;exact⟨o,ho⟩
  .obtain ⟨j,g,e⟩:=cR key _ d hd
   rw[e];exact(hk j g).1
  .obtain ⟨i,hi,e⟩:=D d hd
   rw[e];exact mZ key _ i hi
def FU(X:Cx):List V->Hp->VK->Prop:=λxs H Q=>∃(Z6:Addr) (D:Y0),xs=[.ref Z6]/\H Z6=some (.ext (SInv X.prog X.w Z6 D))/\F9 H D/\D.length<100000 /\
 ∀(l:Addr) (a:Y0),H l=none->a.Perm D->B0 a->Q (.ref l) (upd H l (.Z5 (a.map λd=>V.ref d.2)))
def fM:∀D:Y0,ZG (D.map λd=>V.ref d.2) (refs D)
 |[]=>.nil
 |d::D=>.cons rfl (fM D)
def qF(z:X.calm=true)(y:X.A.units+2<cLine):CallR X (.builtin "sorted") (FU X):=by
 intro O s Y H xs S Q I r ⟨Z6,D,e,B,hT,hn,q⟩;subst e;let⟨u,rfl,m⟩:=vals1 r;cases m;let⟨⟨o,es,ep,t,Z,ho,P⟩,_,_⟩:=I.ZJ Z6 _ B;have j:es.size=D.length:=by rw[P.tb.len,P.len]
 refine iP (v3 P Z6) (I.ok.hd z) y ho (by lia) λvs J x=>?_
 have pm:(IK X.w Z6 ep es).Perm (D.map λd=>(Zn X.prog X.w d.1,Value.ref d.2)):=by
  refine(f9 X.w Z6 ep es).trans ?_;rw[P.tb.he];exact P.pm
 let⟨g,b,F⟩:=jO pm D rfl;have C:vs=refs g:=by
  apply List.ext_getElem?;intro i;rcases QR i vs.length with hi|hi
  .obtain ⟨e,a,E⟩:=x i vs[i] (Xp hi)
   rw[Xp hi,E];unfold refs;rw[F,Wy]at a;rw[Wy];cases k:g[i]? with
   |none=>rw[k]at a;cases a
   |some d=>rw[k]at a;cases a;rfl
  .rw [Qd hi,Qd]
   unfold refs;rw[Zd,b.length_eq];lia
 refine⟨g,C,λd hd=>?_,λh1 h' tk c f h n v p G=>?_⟩
 .have:=hT d (b.mem_iff.mp hd)
  exact⟨gQ I.ZJ this.1,this.2⟩
 .have l:Z0 X O Y H {s with heap:=h1,toks:=tk}:=I.kept v
  refine⟨.ref h1.objs.size,_,l.laid (t':=tk) p (G8 _) (show ObjOk X.prog X.w _ h' _ (.Z5 (f.map λd=>V.ref d.2))from⟨?_,refs f,c,fM f,G⟩),rfl,q _ f (l.ZJ.fresh (G8 _)) (h.trans b) n⟩;rw[Zd,(h.trans b).length_eq,U9];lia
end
section
def kO:∀{xs:List U} {ks:List (List Int)} {vs:List V},BH xs=some ks->RVs K ρ H xs vs ->∃D:Y0,vs=(D.map λd=>V.ref d.2)/\D.map (·.1)=ks /\∀d∈D,H d.2=some (.ZW (d.1.map V.int))
 |[],ks,vs,h,r=>by cases h;exact⟨[],r,rfl,λd f=>by cases f⟩
 |u::xs,ks,vs,h,⟨v,r,e,j,rs⟩=>by
  simp![BH]at h;cases g:keyOf u with
  |none=>rw[g]at h;cases h
  |some k=>
   rw[g]at h;cases i:BH xs with
   |none=>rw[i]at h;cases h
   |some o=>
    rw[i]at h;cases h;let⟨D,a,b,c⟩:=kO i rs;cases u with
    |ZW S=>
     let⟨p,ws,rfl,l,n⟩:=j;have hi:intsOf S=some k:=g;have m:ws=k.map V.int:=cw hi n;subst m;refine⟨(k,p)::D,by rw[e,a];rfl,by rw[Y2,b],λd f=>?_⟩
     rcases Xq.mp f with rfl|f
     .exact l
     .exact c d f
    |_=>cases g
end
section
variable{W:XQ}{a:Expr}{a':E}{p p2 SE:Pos}
def gi{K:Hf}{ρ:List Addr}{H:Hp}:∀{D:Y0},(∀d∈D,H d.2=some (.ZW (d.1.map V.int)))->RVs K ρ H ((D.map (·.1)).map tupI) (D.map λd=>V.ref d.2)
 |[],_=>rfl
 |d::D,h=>⟨_,_,rfl,⟨d.2,_,rfl,h d Wv,dj _⟩,gi λd a=>h d (G9 _ a)⟩
def sP(ρ:List Addr)(H:Hp)(g:G)(S:List U)(xs:List V)(Q:VK)(J:RH X.K ρ H g)(r:RVs X.K ρ H S xs)(q:post X.K W (RV X.K) (Jg .sset S g) ρ H Q):
  F0 X xs H λx H2=>FU X [x] H2 Q:=by
 match S,r with
 |[.ref n],r=>
  let⟨x,r',rfl,⟨b,rfl,P⟩,e⟩:=r;cases e;simp![Jg,Cu]at q;cases eg:g[n]? with
  |none=>simp![eg]at q;exact q.elim
  |some o=>
   cases o with
   |Z5 ys=>
    simp![eg]at q;cases B:BH ys with
    |none=>simp![B]at q;exact q.elim
    |some ks=>
     simp![B]at q;by_cases E:Jf ks
     .rw [Yn E]at q
      let⟨h1,L,T⟩:=E;let⟨b',vs,I,R,N⟩:=J.Z5 eg;rw[P]at I;cases I;let⟨M,Y,C,v⟩:=kO B N;subst Y;have j:∀d∈M,d.1∈ks:=λd a=>by rw[<-C];exact Wl.mpr ⟨d,a,rfl⟩
      refine⟨b,M,rfl,R,λd a=>⟨v d a,L _ (j d a)⟩,by rw[<-Zd (f:=λd:List Int×Addr=>d.1),C];exact h1,λd a e t=>T _ (j d a) _ (j e t),λZ6 D A p Va i=>?_⟩
      have Zo:∀d∈D,d.2≠Z6:=λd a z=>by have:=v d (p d a);rw[z,A]at this;cases this
      have k:∀d∈D,upd H Z6 (.ext (SInv X.prog X.w Z6 D)) d.2=some (.ZW (d.1.map V.int)):=λd a=>by rw[af (Zo d a)];exact v d (p d a)
      have mem:∀x,x∈D.map (·.1)↔x∈ks:=λx=>by
       constructor
       .intro m
        let⟨d,a,rfl⟩:=Wl.mp m;exact j d (p d a)
       .intro m
        rw[<-C]at m;let⟨d,a,rfl⟩:=Wl.mp m;let⟨e,t,Z⟩:=Va d a;exact Wl.mpr ⟨e,t,Z⟩
      have same:∀c:Y0,c.Perm D->B0 c->c.map (·.1)=Je ks:=λc h s=>by
       refine dX ?_ (bI ks) λx=>((h.map _).mem_iff.trans (mem x)).trans bH.symm;have nd:(c.map (·.1)).Nodup:=(h.map _).nodup_iff.mpr i;refine Ti.mpr ?_;have Ww:=Ti.mp nd;exact(s.and Ww).imp λ{x y} ⟨Kh,O⟩=>by
        cases hl:Ag x.1 y.1 with
        |true=>rfl
        |false=>exact absurd (cJ hl Kh) O
      refine⟨Z6,D,rfl,upd_same,λd a=>⟨k d a,L _ (j d (p d a))⟩,?_,λl c hl h s=>?_⟩
      .have:=(y3 (ks:=ks) i mem)
       have:=ik ks;rw[Zd]at *;lia
      .have e1:=same c h s
       have st:ZI X.K ρ H ρ (upd H Z6 (.ext (SInv X.prog X.w Z6 D))):=ZI.fresh A;have F:=q.from st;have WO:=J.step_fresh A (o:=.ext (SInv X.prog X.w Z6 D));rw[<-e1]at F;exact aY F WO (gi λd a=>k d (h.mem_iff.mp a)) l hl
     .rw [Yb E]at q;exact q.elim
   |_=>simp![eg]at q;exact q.elim
 |[],_=>exact q.elim
 |[.ZK],_=>exact q.elim
 |[.bl _],_=>exact q.elim
 |[.int _],_=>exact q.elim
 |[.str _],_=>exact q.elim
 |[.ZW _],_=>exact q.elim
 |[.Zx _],_=>exact q.elim
 |[.xn _ _],_=>exact q.elim
 |u::_::_,_=>cases u<;>exact q.elim
def wa(j:X.calm=true)(o:X.A.units+3<cLine)(f:Gl X "sorted")(t:X.mg "sorted" = none)(d:Gl X "set")(z:X.mg "set" = none)(u:PE X a (tE X.K W (r.ev a')))(c:starEach [a] X.env=(false,eval a X.env)::starEach [] X.env):
  PE X (.Call (.Name "sorted" p) [.Call (.Name "set" p2) [a] [] SE] [] pos) (tE X.K W (Jo C r (.bi .sset [a']))):=by
 have h1:=pe_callTy (p:=p2) (pos:=SE) (tD j o) d z #[2] (lL u nj c) #[1] #[1] c #[2]
 have h2:=pe_callB (p:=p) (pos:=pos) (qF j (by lia)) f t #[2] (a6 h1 bX) #[1] #[1]
 refine h2.imp ?_;rintro Y H Q ⟨w,ρ,g,c,f,q⟩;exact⟨w,ρ,g,c,f,(post.bind (R:=RVs X.K) q).mono λxs H1 ⟨y,S,g1,s1,h1,rs,k⟩=>sP y H1 g1 S xs Q h1 rs k⟩
end
open PySem PySem.Spec PyProof.Rows L2 PySem.W
section
def qO{o:Obj}{f:Array DictEntry}(r:A.handled=none){d it:Addr}(u:d≠it)(k:o.data=.dict f ep):
  Walks prog w A it [it,d] [it] f.size (λi v=>∃e,f[i]?=some e/\v=e.key) (λi h=>h.IsKeyIter it d i f.size ep/\h.get? d=some o) where
 sub:=λb c=>by simp at c;simp[c]
 frame:=λi h h' ⟨a,b⟩ hk=>⟨a.at λo e=>hk it #[3] o e,hk d #[3] o b⟩
 item:=λi s Q E hi ⟨a,b⟩ g=>by
  have j:f[i]?=some f[i]:=WB hi;refine lT a b k j λh' a' sb=>?_;exact g _ h' s.toks ⟨_,j,rfl⟩ ⟨a',(sb.2 d u).trans b⟩ λb o c e=>(sb.2 b λq=>c (by simp[q])).trans e
 done:=λs Q E ⟨a,b⟩ g=>l8 r a b k (QS (G8 _)) λh' t=>g h' s.toks λb o c e=>t b o (λq=>c (by simp[q])) e
 self:=λi s Q E ⟨a,_⟩ g=>wpAny_pyIter_keyiter a g
def tN{o:Obj}{f:Array DictEntry}{d:Addr}(j:(d==sysModules)=false)(b:o.ExactDict)(g:o.data=.dict f ep):
  KdlSrc prog w "dict" d d f.size (λi v=>∃e,f[i]?=some e/\v=e.key) (λh=>h.get? d=some o) where
 type:=λ_ a=>⟨o,a,b.1⟩
 there:=λ_ a=>⟨G5 a,G5 a⟩
 keep:=λ_ _ a hk=>hk d (.inl rfl) o a
 notList:=by decide
 notTuple:=by decide
 hint:=λ_ _ _ _ a c=>kdl_hint_dict ⟨o,a,b.1⟩ c
 iter:=λ_ s k a=>⟨_,_,(λ_ _ c=>md j a b g c),qO k (Hb (G5 a)) g,⟨⟨_,Hc _ rfl,rfl,rfl⟩,G4 _ a⟩⟩
end
section
variable{W:XQ}
def mh:∀k:List Int,(k.map (Sum.inl:Int->Key)).map HM=k.map V.int
 |[]=>rfl
 |i::k=>by rw[Y2,Y2,Y2,mh k];rfl
def DKs(H:Hp)(a:Addr)(ks:List (List Int)):Prop:=∃ws,Rd H a (.dT ws)/\ws.map (·.1)=ks.map λk=>k.map Sum.inl
def TupE(H:Hp)(D:Y0):Prop:=∀d∈D,H d.2=some (.ZW (d.1.map V.int))
def wM{P:Program}{ks:List (List Int)}(ok:HOk P w H h)(z:DKs H a ks):∃o es ep,ks.length<=sizeLine/\(a==sysModules)=false/\h.get? a=some o/\o.ExactDict/\o.data=.dict es ep/\es.size=ks.length /\
  ∀vs:List Value,vs.length=es.size->(∀(j:Nat) (v:Value),vs[j]?=some v ->∃e,es[j]?=some e/\v=e.key) ->∃D:Y0,vs=refs D/\D.map (·.1)=ks/\TupE H D:=by
 let⟨ws,u,r⟩:=z;let⟨h1,h2,o,es,ep,C,B,A,p,y⟩:=oe (u.ok ok);have n:ws.length=ks.length:=by rw[<-Zd (f:=(·.1)),r,Zd]
 refine⟨o,es,ep,by rw[<-n];exact h1,h2,C,B,A,by rw[p,n],λvs m hs=>?_⟩
 rw[p]at m;clear u h1 p;have c:∀(j:Nat) (v:Value),vs[j]?=some v ->∃b k,v=.ref b/\ks[j]?=some k/\H b=some (.ZW (k.map V.int)):=λj v e=>by
  let⟨Q,t,s⟩:=hs j v e;have J:j<ws.length:=by rw[<-m];exact(Yj.mp e).1
  obtain⟨⟨x,I⟩,G⟩:∃q,ws[j]?=some q:=⟨_,Xp J⟩;let⟨b,K,F,M,L⟩:=y j x I G;rw[t]at F;cases F;have l:(ws.map (·.1))[j]?=some x:=by rw[Wy,G];rfl
  rw[r,Wy]at l;cases E:ks[j]? with
  |none=>rw[E]at l;cases l
  |some k=>
   rw[E]at l;cases l;exact⟨b,k,s.trans M,rfl,by rw[<-mh];exact L⟩
 have g:vs.length=ks.length:=by rw[m,n]
 clear m hs y r n A B C
 induction vs generalizing ks with
 |nil=>
  cases ks with
  |nil=>exact⟨[],rfl,rfl,λd i=>nomatch i⟩
  |cons _ _=>cases g
 |cons v vs ih=>
  cases ks with
  |nil=>cases g
  |cons k ks=>
   let⟨b,k',rfl,t,s⟩:=c 0 v rfl;cases t;let⟨D,O,J4,N⟩:=ih (λj v e=>c (j+1) v e) (by simpa using g)
   refine⟨(k,b)::D,by rw[O];rfl,by rw[Y2,J4],λd i=>?_⟩
   rcases Xq.mp i with rfl|i
   .exact s
   .exact N d i
def DK(X:Cx):List V->Hp->VK->Prop:=λxs H Q=>∃(a:Addr) (ks:List (List Int)),xs=[.ref a]/\DKs H a ks/\ks.length<100000/\(∀k∈ks,k≠[]) /\
 ∀(l:Addr) (D:Y0),H l=none->(D.map (·.1)).Perm ks->B0 D->TupE H D->Q (.ref l) (upd H l (.Z5 (D.map λd=>V.ref d.2)))
def rH(x:X.calm=true)(t:X.A.units+2<cLine):CallR X (.builtin "sorted") (DK X):=by
 intro O s Y H xs S Q I r ⟨a,ks,e,z,hn,G,q⟩;subst e;let⟨u,rfl,k⟩:=vals1 r;cases k;let⟨o,es,ep,h1,h2,E,C,B,K,y⟩:=wM I.ZJ z;refine iP (tN h2 C B) (I.ok.hd x) t E (by lia) λvs v p=>?_
 let⟨D,F,J4,h⟩:=y vs v p;refine⟨D,F,λd hd=>⟨gQ I.ZJ (h d hd),G _ (by rw[<-J4];exact Wl.mpr ⟨d,hd,rfl⟩)⟩,λi h' tk c b g l n m J=>?_⟩
 have j:Z0 X O Y H {s with heap:=i,toks:=tk}:=I.kept n
 refine⟨.ref i.objs.size,_,j.laid (t':=tk) m (G8 _) (show ObjOk X.prog X.w _ h' _ (.Z5 (b.map λd=>V.ref d.2))from⟨?_,refs b,c,fM b,J⟩),rfl,q _ b (j.ZJ.fresh (G8 _)) (by rw[<-J4];exact g.map _) l λd hd=>h d (g.mem_iff.mp hd)⟩
 rw[Zd,g.length_eq,<-Zd (f:=(·.1)),J4];exact h1
def aat{x:V}{b:List (List Int×U)}(f:RH K ρ H g)(d:RV K ρ H u x)(e:Yp u g=some b):∃a,x=.ref a/\DKs H a (b.map (·.1)):=by
 let⟨a,ws,rfl,h,c⟩:=gJ f d e;exact⟨_,rfl,ws,h,by rw[gO c,TU];rfl⟩
def imp_list(ρ:List Addr)(H:Hp)(g:G)(S:List U)(xs:List V)(Q:VK)(b:RH X.K ρ H g)(a:RVs X.K ρ H S xs)(p:post X.K W (RV X.K) (Jg .list S g) ρ H Q):
  (∃p ys,xs=[.ref p]/\(SqL X.K H p ys\/SqT X.K H p ys) /\∀l,H l=none->Q (.ref l) (upd H l (.Z5 ys))):=by
 match S,a with
 |[u],a=>
  let⟨x,r',rfl,d,e⟩:=a;cases e;simp![Jg,C7]at p;cases e:items u g with
  |none=>
   simp![e]at p;exact p.elim
  |some zs=>
   simp![e]at p;let⟨q,vs,rfl,f,c⟩:=cG b d e;exact⟨q,vs,rfl,f,λl h=>aY p b c l h⟩
 |[],_=>exact p.elim
 |_::_::_,_=>exact p.elim
def imp_srt(ρ:List Addr)(H:Hp)(g:G)(S:List U)(xs:List V)(Q:VK)(f:RH X.K ρ H g)(d:RVs X.K ρ H S xs)(p:post X.K W (RV X.K) (Jg .Wk S g) ρ H Q):
  (∃(p:Addr) (ns:List Int),xs=[.ref p]/\H p=some (.Z5 (ns.map V.int))/\ns.length<64 /\∀l,H l=none->Q (.ref l) (upd H l (.Z5 ((sortI ns).map V.int))))\/DK X xs H Q:=by
 simp![Jg,Dp]at p;cases c:A9 S g with
 |none=>
  simp![c,DF]at p
  match S,d with
  |[u],d=>
   let⟨x,r',rfl,m,e⟩:=d;cases e;simp only at p;cases i:Yp u g with
   |none=>simp![i]at p;exact p.elim
   |some Z4=>
    simp![i]at p;by_cases hk:Z4.length<100000/\(Z4.map (·.1)).Nodup /\∀k∈Z4.map (·.1),k≠[]
    .rw [Yn hk]at p
     let⟨a,rfl,z⟩:=aat f m i;refine .inr ⟨a,_,rfl,z,by rw[Zd];exact hk.1,hk.2.2,λl D b j n c=>aY p f ?_ l b⟩
     have s:D.map (·.1)=Je (Z4.map (·.1)):=by
      refine dX ?_ (bI _) λx=>j.mem_iff.trans bH.symm;have nd:(D.map (·.1)).Nodup:=j.nodup_iff.mpr hk.2.1;refine Ti.mpr ?_;have t:=Ti.mp nd;exact(List.Pairwise.and n t).imp λ{x y} ⟨Kh,o⟩=>by
       cases b:Ag x.1 y.1 with
       |true=>rfl
       |false=>exact absurd (cJ b Kh) o
     rw[<-s];exact gi c
    .rw [Yb hk]at p;exact p.elim
  |[],_=>exact p.elim
  |_::_::_,_=>exact p.elim
 |some ns=>
  simp![c]at p;let⟨q,rfl,r⟩:=jk f d c;by_cases b:ns.length<64
  .rw [Yn b]at p
   exact .inl ⟨q,ns,rfl,r,b,λl h=>aY p f (dj _) l h⟩
  .rw [Yb b]at p;exact p.elim
def call_srtX(b:X.calm=true)(a:X.A.units+2<cLine):CallR X (.builtin "sorted") (λxs H Q=>(∃(p:Addr) (ns:List Int),xs=[.ref p]/\H p=some (.Z5 (ns.map V.int))/\ns.length<64 /\∀l,H l=none->Q (.ref l) (upd H l (.Z5 ((sortI ns).map V.int))))\/DK X xs H Q):=tj.or (rH b a)
end
open PySem PySem.Spec PyProof.Rows L2
section
variable{W:XQ}{p2:Pos}{a b c:Expr}{a' b' c':E}{lo hi:Option Expr}{lo' Yr:Option E}
abbrev CH(K:Hf)(W:XQ)(f:Su->G->Out (Option Int)):TO:=tR K W Yc f
def vg:PO X none (CH X.K W (Jj r.ev none)):=λO s Y H Q I ⟨b,ρ,g,hs,a,p⟩=>vt O s Y H Q I (post.Y5 (R:=Yc) p a rfl)
def wB(h:PE X e (tE X.K W (r.ev e'))):PO X (some e) (CH X.K W (Jj r.ev (some e'))):=λO s Y H Q I b=>by
 refine wJ h O s Y H Q I (one (k:=λ_ u g=>match u with|.int i=>Out.ok (some i) g|_=>.ZV) b λd ρ H g u x hs c a p=>?_)
 cases u with
 |int i=>cases a;exact⟨i,rfl,post.Y5 (R:=Yc) p c rfl⟩
 |_=>exact p.elim
def gE{l h:Option Int}(a:RVs X.K ρ H S vs):RVs X.K ρ H (Bh S l h) (BJ vs l h):=by
 unfold Bh BJ;rw[a.length];exact(a.drop _).take _
def zr(y:PE X a (tE X.K W (r.ev a')))(t:PO X lo (CH X.K W (Jj r.ev lo')))(v:PO X hi (CH X.K W (Jj r.ev Yr))):PE X (.Subscript a (.Slice lo hi none p2) pos) (tE X.K W (Jo C r (.Wj a' lo' Yr))):=by
 refine(uq (uM.or abq) y t v).imp ?_;rintro Y H Q ⟨i,ρ,g,hs,w,p⟩;refine⟨i,ρ,g,hs,w,(post.bind p).mono λx H1 ⟨D,u,g1,s1,h1,m,s⟩=>?_⟩;refine⟨i,D,g1,hs.step s1,h1,(post.bind (R:=Yc) s).mono λl H2 ⟨B,G,g2,s2,h2,A,p2⟩=>?_⟩;subst A;refine⟨i,B,g2,(hs.step s1).step s2,h2,(post.bind (R:=Yc) p2).mono λh H3 ⟨E,h',g3,s3,h3,z,b⟩=>?_⟩;subst z;have e:=RV.step s3 _ _ (RV.step s2 _ _ m);cases u with
 |ZW S=>
  let⟨q,vs,rfl,d,c⟩:=e;refine .inr ⟨q,vs,rfl,d.sq,?_⟩;simp![]at b;rw[c.length]at b;split at b
  .exact b.elim
  .rename_i f
   refine⟨f,λk hk=>?_⟩;exact b _ E _ (ZI.fresh hk) (h3.step_fresh hk) ⟨k,_,rfl,upd_same,RVs.step (ZI.fresh hk) _ _ (gE c)⟩
 |Zx S=>
  let⟨q,vs,rfl,d,c⟩:=e;exact .inl ⟨q,vs,rfl,d.sq,λk hk=>aY b h3 (gE c) k hk⟩
 |ref n=>
  let⟨q,rfl,f⟩:=e;simp![]at b;cases eg:g3[n]? with
  |none=>simp![eg]at b;exact b.elim
  |some o=>
   cases o with
   |Z5 S=>
    simp![eg]at b;let⟨F,vs,d,c,j⟩:=h3.Z5 eg;rw[f]at d;cases d;exact .inl ⟨q,vs,rfl,.of c,λk hk=>aY b h3 (gE j) k hk⟩
   |ZF _=>simp![eg]at b;exact b.elim
   |Zq _=>simp![eg]at b;exact b.elim
   |dst _=>simp![eg]at b;exact b.elim
   |ins _ _=>simp![eg]at b;exact b.elim
 |_=>exact b.elim
def zo{k:Nat}{N M:Pos}(Z:PE X a (tE X.K W (r.ev a'))):PE X (.Subscript a (.Slice none none (some (.UnaryOp .USub (.Constant (.int 1) k N) M)) p2) pos) (tE X.K W (Jo C r (.rev a'))):=by
 intro O s Y H Q I U;have XZ:tE X.K W (r.ev a') Y H (λx H1=>∃q vs,x=.ref q/\H1 q=some (.Z5 vs) /\∀k,H1 k=none->Q (.ref k) (upd H1 k (.Z5 vs.reverse))):=one U λZY ρ H g u x hs B d p=>by
  cases u with
  |ref n=>
   let⟨q,rfl,V⟩:=d;simp![]at p;cases eg:g[n]? with
   |none=>simp![eg]at p;exact p.elim
   |some o=>
    cases o with
    |Z5 S=>
     simp![eg]at p;let⟨q',vs,w,F,E⟩:=B.Z5 eg;rw[V]at w;cases w;exact⟨q,vs,rfl,F,λk hk=>aY p B E.reverse k hk⟩
    |ZF _=>simp![eg]at p;exact p.elim
    |Zq _=>simp![eg]at p;exact p.elim
    |dst _=>simp![eg]at p;exact p.elim
    |ins _ _=>simp![eg]at p;exact p.elim
  |_=>exact p.elim
 refine Subscript_ (thn (Z O s Y H _ I XZ) ?_);rintro v G ⟨x,H1,I1,d,L⟩;let⟨q,vs,rfl,R,f⟩:=L;cases d;refine wpAny_Slice ?_;rw[evalPart_none];refine ZP (ZP ?_);rw[evalPart_some];refine thn (adI zl m8 O G Y H1 (λx H2=>x=.int (-1)/\H2=H1) I1 ⟨1,rfl,rfl,rfl⟩) ?_;rintro D c ⟨z,H2,I2,J,ez,eh⟩;subst ez;subst eh;let⟨t,rfl⟩:=J;have j:L2.Z0 X O Y H2 {c with heap:=c.heap.push {cls:=.type "slice",data:=.fields #[.none,.none,.int (-1) t]}}:=I2.kept (t':=c.toks) λb ob q=>G4 _ q
 let⟨ZU,n,y,ho,P⟩:=j.Z5 R;have A:Heap.IsList (c.heap.push {cls:=.type "slice",data:=.fields #[.none,.none,.int (-1) t]}) q ZU.toArray:=⟨_,ho,rfl,n,rfl⟩;have hlen:=y.length;refine tail_any (ops:=[.ref q,.ref c.heap.objs.size]) (T:="list") A.typeIs slot_list_getitem.lookup ?_ (by with_unfolding_all rfl)
 refine wpAny_getItem_list_slice A (Heap.IsSliceOf.new ..) .none .none (.int (-1) t) #[3] ?_ (by rw[XA];omega)
 rw[PySem.W.krv_pick];have hf:=j.ZJ.fresh (G8 _);refine⟨.ref _,_,j.laid (t':=c.toks) (o:=.Z5 vs.reverse) (λb ob q=>G4 _ q) (G8 _) ?_,rfl,f _ hf⟩;exact⟨by rw[List.length_reverse];exact P,ZU.reverse,0,y.reverse,Hc _ rfl⟩
def cV{x:V}(f:RH X.K ρ H g)(e:RV X.K ρ H (.ref n) x)(h:g[n]?=some (.Z5 S)):∃q vs,x=.ref q/\ρ[n]?=some q/\H q=some (.Z5 vs)/\RVs X.K ρ H S vs:=by
 let⟨q,rfl,b⟩:=e;let⟨i,vs,a,d,c⟩:=f.Z5 h;rw[b]at a;cases a;exact⟨q,vs,rfl,b,d,c⟩
def gz{x:U}(e:Jh x g=some n):x=.ref n /\∃S,g[n]?=some (.Z5 S):=by
 cases x<;>simp![Jh,reduceCtorEq]at e
 rename_i m;cases eg:g[m]? with
 |none=>simp[eg]at e
 |some o=>
  cases o with
  |Z5 S=>simp![eg,Xc]at e;subst e;exact⟨rfl,S,eg⟩
  |ZF _=>simp[eg]at e
  |Zq _=>simp[eg]at e
  |dst _=>simp[eg]at e
  |ins _ _=>simp[eg]at e
def gY{o:Expr}{name:Str}{e:String}{i:V->List V->Hp->VK->Prop}{f:Nat->U->G->Out U}(c:Slot "list" name e)(L:typeOf (.builtin e)=pure (.type "method_descriptor"))(s:MtR X e i)
  (imp:∀ρ H g n q y v Q,RH X.K ρ H g->ρ[n]?=some q->RV X.K ρ H y v->post X.K W (RV X.K) (f n y g) ρ H Q->i (.ref q) [v] H Q)
  (t:PE X o (tE X.K W (r.ev o'))) (B:PE X a (tE X.K W (r.ev a'))) (J:attributeBase o name X.env (eval o X.env)=eval o X.env) (I:(apos.endLine==Y_.line)=true)
  (b:∀ es,starEach (a :: es) X.env=(false,eval a X.env) :: starEach es X.env):PE X (.Call (.Attribute o name apos) [a] [] Y_) (tE X.K W (λY g=>(r.ev o' Y g).bind λx g=>match Jh x g with
  |some n=>(r.ev a' Y g).bind λy g=>f n y g
  |none=>.ZV)):=by
 refine(acw (T:="list") Oc c L s t (a6 B bX (b _)) J (by rw[b];rfl) I (b _) rfl).imp ?_;rintro Y H Q ⟨j,ρ,g,b,A,p⟩
 refine⟨j,ρ,g,b,A,(post.bind p).mono λx H1 ⟨E,u,g1,s1,h1,m,d⟩=>?_⟩;cases h:Jh u g1 with
 |none=>simp![h]at d;exact d.elim
 |some n=>
  simp![h]at d;let⟨rfl,S,C⟩:=gz h;let⟨q,vs,rfl,z,k,M⟩:=cV h1 m C;refine⟨.inl ⟨rfl,vs,.of k⟩,j,E,g1,b.step s1,h1,(post.bind d).mono λy H2 ⟨D,w,g2,s2,h2,l,p2⟩=>?_⟩;exact imp D H2 g2 n q w y Q h2 (s2.ext _ _ z) l p2
def aI{q:Addr}(e:RH X.K ρ H g)(d:ρ[n]?=some q)(f:g[n]?=some (.Z5 S)):∃vs,H q=some (.Z5 vs)/\RVs X.K ρ H S vs:=by
 let⟨h,vs,a,c,b⟩:=e.Z5 f;rw[d]at a;cases a;exact⟨vs,c,b⟩
def yc{o:Expr}(i:PE X o (tE X.K W (r.ev o')))(k:PE X a (tE X.K W (r.ev a')))(m:attributeBase o "append" X.env (eval o X.env)=eval o X.env)(l:(apos.endLine==Y_.line)=true)
  (h:∀es,starEach (a::es) X.env=(false,eval a X.env)::starEach es X.env):PE X (.Call (.Attribute o "append" apos) [a] [] Y_) (tE X.K W (Jo C r (.app o' a'))):=by
 refine gY PySem.F.slot_list_append PySem.F.type_list_append jd (λρ H g n q y v Q e c f p=>?_) i k m l h;simp![Bo]at p;cases eg:g[n]? with
 |none=>simp![eg]at p;exact p.elim
 |some o=>
  cases o with
  |Z5 S=>
   simp![eg]at p;let⟨vs,b,d⟩:=aI e c eg;split at p
   .rename_i j
    exact⟨q,vs,v,rfl,rfl,b,by rw[<-d.length,U9];unfold Ac at j;lia,p _ ρ _ (ZI.write c b) (e.write c b (d.append (.one f))) rfl⟩
   .exact p.elim
  |ZF _=>simp![eg]at p;exact p.elim
  |Zq _=>simp![eg]at p;exact p.elim
  |dst _=>simp![eg]at p;exact p.elim
  |ins _ _=>simp![eg]at p;exact p.elim
def abF{o:Expr}(t:PE X o (tE X.K W (r.ev o')))(w:PE X a (tE X.K W (r.ev a')))(z:attributeBase o "extend" X.env (eval o X.env)=eval o X.env)(x:(apos.endLine==Y_.line)=true)
  (s:∀es,starEach (a::es) X.env=(false,eval a X.env)::starEach es X.env):PE X (.Call (.Attribute o "extend" apos) [a] [] Y_) (tE X.K W (Jo C r (.ext o' a'))):=by
 refine gY PySem.F.slot_list_extend PySem.F.type_list_extend rj (λρ H g n q y v Q d c k p=>?_) t w z x s;simp![BE]at p;cases e:Jh y g with
 |none=>simp![e]at p;exact p.elim
 |some m=>
  simp![e]at p;let⟨rfl,zs,i⟩:=gz e;let⟨l,ws,rfl,A,j,f⟩:=cV d k i;cases eg:g[n]? with
  |none=>simp![eg]at p;exact p.elim
  |some o=>
   cases o with
   |Z5 S=>
    simp![eg,i]at p;let⟨vs,b,h⟩:=aI d c eg;split at p
    .rename_i u
     exact⟨q,l,vs,ws,rfl,rfl,b,j,by rw[<-h.length,<-f.length,U9];unfold Ac at u;lia,p _ ρ _ (ZI.write c b) (d.write c b (h.append f)) rfl⟩
    .exact p.elim
   |ZF _=>simp![eg]at p;exact p.elim
   |Zq _=>simp![eg]at p;exact p.elim
   |dst _=>simp![eg]at p;exact p.elim
   |ins _ _=>simp![eg]at p;exact p.elim
def xQ{o:Expr}(l:PE X o (tE X.K W (r.ev o')))(s:attributeBase o "pop" X.env (eval o X.env)=eval o X.env)(m:(apos.endLine==Y_.line)=true):
  PE X (.Call (.Attribute o "pop" apos) [] [] Y_) (tE X.K W (Jo C r (.pop o'))):=by
 refine(xV (T:="list") Oc PySem.F.slot_list_pop PySem.F.type_list_pop zZ l s m).imp λY H Q k=>one k λt ρ H g u x hs f j p=>?_;cases e:Jh u g with
 |none=>simp![e]at p;exact p.elim
 |some n=>
  simp![e]at p;let⟨rfl,S,h⟩:=gz e;let⟨q,vs,rfl,c,a,b⟩:=cV f j h;refine⟨.inl ⟨rfl,vs,.of a⟩,?_⟩;simp![BI,h]at p;cases d:S[S.length-1]? with
  |none=>simp![d]at p;exact p.elim
  |some y=>
   simp![d]at p;let⟨v,ev,i⟩:=b.get d;exact⟨q,vs,v,rfl,rfl,a,by rw[<-b.length];exact ev,p _ ρ _ (ZI.write c a) (f.write c a b.dropLast) (RV.step (ZI.write c a) _ _ i)⟩
def ads{i:Int}(a:0<=i)(h:i.toNat<n):seqIndex? i n=some i.toNat:=by
 unfold seqIndex?;have h1 : ¬ i<0:=by lia
 have h2:(decide (0<=i)&&decide (i<n))=true:=by rw[Vt a,Vt (by lia)];rfl
 simp![h1,Vn,h2,V6]
def vJ{o:Expr}(A:PE X o (tE X.K W (r.ev o')))(B:PE X a (tE X.K W (r.ev a')))(G:attributeBase o "pop" X.env (eval o X.env)=eval o X.env)(E:(apos.endLine==Y_.line)=true)
  (z:∀es,starEach (a::es) X.env=(false,eval a X.env)::starEach es X.env):PE X (.Call (.Attribute o "pop" apos) [a] [] Y_) (tE X.K W (Jo C r (.VY o' a'))):=by
 refine gY PySem.F.slot_list_pop PySem.F.type_list_pop uH (λρ H g n q y v Q k d u p=>?_) A B G E z;unfold BQ at p;cases y with
 |int i=>
  cases eg:g[n]? with
  |none=>simp![eg]at p;exact p.elim
  |some o=>
   cases o with
   |Z5 S=>
    simp![eg]at p;by_cases hi:0<=i/\i<9223372036854775808
    .rw [Yn hi]at p
     let⟨vs,c,f⟩:=aI k d eg;cases j:S[i.toNat]? with
     |none=>simp![j]at p;exact p.elim
     |some y=>
      simp![j]at p;let⟨t,ev,w⟩:=f.get j;cases u;have D:i.toNat<vs.length:=(Yj.mp ev).1;refine⟨q,vs,i,i.toNat,t,rfl,rfl,c,QY #[1] hi.1,hi.2,?_,ev,p _ ρ _ (ZI.write d c) (k.write d c (by rw[TK,TK];exact(f.take _).append (f.drop _))) (RV.step (ZI.write d c) _ _ w)⟩
      exact ads hi.1 D
    .rw [Yb hi]at p;exact p.elim
   |ZF _=>simp![eg]at p;exact p.elim
   |Zq _=>simp![eg]at p;exact p.elim
   |dst _=>simp![eg]at p;exact p.elim
   |ins _ _=>simp![eg]at p;exact p.elim
 |_=>exact p.elim
end
section
variable(K:Hf)
inductive tG(t:Tg)(v:V)(Y:L2.St)(H:Hp)(Q:L2.St->Hp->Prop):Prop
 |mk (ZY:Su) (ρ:List Addr) (g:G) (u:U) (XX:Su) (hs:RS K ρ H ZY Y) (hg:RH K ρ H g) (r:RV K ρ H u v) (e:Ad t (Jk t u g) ZY=some XX) (q:∀ZR,RS K ρ H XX ZR->Q ZR H)
inductive Uj(is:List Nat)(vs:List V)(Y:L2.St)(H:Hp)(Q:L2.St->Hp->Prop):Prop
 |mk (ZY:Su) (ρ:List Addr) (S:List U) (XX:Su) (hs:RS K ρ H ZY Y) (r:RVs K ρ H S vs) (e:bindL is S ZY=some XX) (q:∀ZR,RS K ρ H XX ZR->Q ZR H)
def RI(ρ:List Addr)(H:Hp)(i:Iter)(c:It):Prop:=match i with
 |.Z5 n=>∃a,ρ[n]?=some a/\c=Itl K a
 |.ZF n=>∃a o ws,ρ[n]?=some a/\H a=some (.Zv o (.dT ws))/\c=Itd a o ws
 |.Xl n=>∃a,ρ[n]?=some a/\c=Ite K a
 |.zip n m=>∃a b,ρ[n]?=some a/\ρ[m]?=some b/\c=Itz K a b
 |.seq S=>∃a vs,(SqU K H a vs\/SqC K a vs)/\RVs K ρ H S vs/\c=Itt K a
 |.YG lo n=>c=Itr lo n
abbrev tI(W:XQ)(f:Su->G->Out Iter):TI:=tR K W (RI K) f
end
def RI.step{K:Hf}{ρ d:List Addr}{H f:Hp}{i:Iter}{e:It}(s:ZI K ρ H d f)(h:RI K ρ H i e):RI K d f i e:=by
 cases i with
 |Z5 n=>let⟨a,h1,h2⟩:=h;exact⟨a,s.ext _ _ h1,h2⟩
 |ZF n=>let⟨a,o,ws,h1,h2,c⟩:=h;exact⟨a,o,ws,s.ext _ _ h1,s.Zv _ _ _ h2,c⟩
 |Xl n=>let⟨a,h1,h2⟩:=h;exact⟨a,s.ext _ _ h1,h2⟩
 |zip n m=>let⟨a,b,h1,h2,c⟩:=h;exact⟨a,b,s.ext _ _ h1,s.ext _ _ h2,c⟩
 |seq S=>let⟨a,vs,h1,h2,c⟩:=h;exact⟨a,vs,h1.imp_left (s.ZW _ _),RVs.step s _ _ h2,c⟩
 |YG lo n=>exact h
section
variable{W:XQ}{p2:Pos}{a b c:Expr}{a' b' c':E}{t:Tg}
def jy{t:Tg}{Y a:Su}(h:Ad t u Y=some a):Ad t (Jk t u g) Y=some a:=by
 cases t with
 |nm i=>exact h
 |tp is=>
  cases u with
  |ref n=>simp[Ad]at h
  |_=>exact h
def GW(K:Hf)(n:Nat)(t:WE):TG:=λv Y H Q=>∃a xs,v=.ref a/\SqL K H a xs/\xs.length=n/\t xs Y H Q
def xr{k:Nat}{t:WE}(w:X.calm=true)(h:PGs X es t)
  (p:(assignEach es X.env).length=n) (z:(assignEach es X.env).findIdx? (·.1)=none):PG X (.Tuple es k pos) (GW X.K n t):=by
 intro O s Y H v u Q I r f;let⟨a,xs,y,l,q,f⟩:=f;subst y;cases r;let⟨ZU,g,⟨o,m,e,A,i,d⟩,C⟩:=I.list l;have x:s.heap.IsList a ZU.toArray:=⟨o,e,A,m,d⟩;rw[assign_Tuple];refine ZB (S_ ?_);unfold unpack;have c:(assignEach es X.env).length=ZU.toArray.size:=by simp[p,<-q,g.length]
 rw[c,z];refine ZB (V7 (PySem.W.kun_itemsOf (I.ok.hd w) x λh' j=>?_));have B:Z0 X O Y H {s with heap:=h'}:=I.kept (t':=s.toks) λb o e=>j b o (Hb (G5 e)) e
 exact h O _ Y H xs _ Q B (by simpa using g) f
def adu(d:X.N.Nodup)(hi:X.N[i]?=some x)(b:Loc X.env.scope x)(c:X.fn x=true\/X.env.scope.names.lookup x=some .local):PG X (.Name x pos) (tG X.K (.nm i)):=by
 intro O s Y H v u Q I a ⟨j,ρ,g,w,k,hs,h,f,e,q⟩;refine lR d hi b c O s Y H v u Q I a ?_;simp![Jk,Ad]at e;split at e
 .cases e;exact q _ (hs.set f)
 .cases e
def sgs_nil:PGs X [] (Uj X.K []):=by
 intro O s Y H vs S Q I a ⟨c,ρ,ws,d,hs,b,e,q⟩;refine wF O s Y H vs S Q I a ?_;cases ws with
 |nil=>cases b;cases e;exact⟨rfl,q _ hs⟩
 |cons _ _=>cases e
def sC{is:List Nat}(j:X.N.Nodup)(hi:X.N[i]?=some x)(f:Loc X.env.scope x)(g:X.fn x=true\/X.env.scope.names.lookup x=some .local)(h:PGs X ts (Uj X.K is)):PGs X (.Name x pos::ts) (Uj X.K (i::is)):=by
 intro O s Y H vs S Q I b ⟨m,ρ,ws,l,hs,k,e,q⟩;refine sS (lR j hi f g) h rfl O s Y H vs S Q I b ?_;cases ws with
 |nil=>cases e
 |cons w ws=>
  let⟨v,a,rfl,d,c⟩:=k;simp![bindL]at e;split at e
  .exact ⟨v,a,rfl,_,ρ,ws,l,hs.set d,c,e,q⟩
  .cases e
def fT:∀{is:List Nat} {S:List U} {Y ZR:Su},bindL is S Y=some ZR->S.length=is.length
 |[],[],_,_,_=>rfl
 |_::is,_::S,_,_,e=>by
  simp![bindL]at e;split at e
  .simp [fT e]
  .cases e
 |[],_::_,_,_,e=>by simp[bindL]at e
 |_::_,[],_,_,e=>by simp[bindL]at e
def adD{is:List Nat}{k:Nat}(j:X.calm=true)(h:PGs X ts (Uj X.K is))(i:(assignEach ts X.env).length=is.length)(l:(assignEach ts X.env).findIdx? (·.1)=none):PG X (.Tuple ts k pos) (tG X.K (.tp is)):=by
 intro O s Y H v u Q I f ⟨c,ρ,g,w,d,hs,r,m,e,q⟩;cases w with
 |ZW S=>
  refine zK j h i l O s Y H v u Q I f ?_;let⟨a,vs,rfl,h1,h2⟩:=m;have e':bindL is S c=some d:=e;exact⟨a,vs,rfl,h1.sq,by rw[<-h2.length];exact fT e',c,ρ,S,d,hs,h2,e',q⟩
 |ref n=>
  simp![Jk]at e;cases eg:g[n]? with
  |none=>simp[eg,Ad]at e
  |some o=>
   cases o with
   |Z5 xs=>
    refine xr j h i l O s Y H v u Q I f ?_;let⟨a,vs,p,t,h2⟩:=r.Z5 eg;let⟨a',rfl,b⟩:=m;rw[p]at b;cases b;have e':bindL is xs c=some d:=by simpa[eg,Ad]using e
    exact⟨a,vs,rfl,.of t,by rw[<-h2.length];exact fT e',c,ρ,xs,d,hs,h2,e',q⟩
   |_=>simp[eg,Ad]at e
 |_=>simp[Jk,Ad]at e
def abp{l:Expr}{m:E}(G:PE X l (tE X.K W (r.ev m))):PI X tg l (tI X.K W (λY g=>(r.ev m Y g).bind λu g=>match u with
  |.ZW xs=>Out.ok (Iter.seq xs) g
  |.xn _ xs=>Out.ok (Iter.seq xs) g
  |.ref n=>match g[n]? with
   |some (.Z5 _)=>.ok (.Z5 n) g
   |some (.ZF Z4)=>.ok (.ZF n) (g.set n (.Zq Z4))
   |some (.Zq _)=>.ok (.ZF n) g
   |_=>.ZV
  |_=>.ZV)):=by
 intro O s Y H R I F;have J:tE X.K W (r.ev m) Y H (λx H1=>(∃a,x=.ref a/\(∃xs,SqL X.K H1 a xs)/\R (Itl X.K a) H1)\/(∃a,x=.ref a/\(∃xs,SqT X.K H1 a xs)/\R (Itt X.K a) H1)\/(∃a ws,x=.ref a/\H1 a=some (.dT ws) /\∀o,R (Itd a o ws) (upd H1 a (.Zv o (.dT ws)))) \/∃a o ws,x=.ref a/\H1 a=some (.Zv o (.dT ws))/\R (Itd a o ws) H1):=by
  refine one (R:=RI X.K) F λN ρ H g u x hs j c p=>?_;cases u with
  |ZW S=>let⟨a,vs,rfl,h1,h2⟩:=c;exact .inr (.inl ⟨a,rfl,⟨vs,h1.sq⟩,post.Y5 (R:=RI X.K) p j ⟨a,vs,.inl h1,h2,rfl⟩⟩)
  |xn _ S=>let⟨a,vs,rfl,h1,h2⟩:=c;exact .inr (.inl ⟨a,rfl,⟨vs,h1.sq⟩,post.Y5 (R:=RI X.K) p j ⟨a,vs,.inr h1,h2,rfl⟩⟩)
  |ref n=>
   simp![]at p;cases eg:g[n]? with
   |none=>simp![eg]at p;exact p.elim
   |some o=>
    cases o with
    |Z5 S=>
     simp![eg]at p;let⟨q,vs,rfl,i,z,M⟩:=cV j c eg;exact .inl ⟨q,rfl,⟨vs,.of z⟩,post.Y5 (R:=RI X.K) p j ⟨q,i,rfl⟩⟩
    |ZF Z4=>
     simp![eg]at p;let⟨q,ws,i,d,y⟩:=j.ZF eg;let⟨C,rfl,k⟩:=c;rw[i]at k;cases k;refine .inr (.inr (.inl ⟨q,ws,rfl,d,λo=>?_⟩));exact p _ ρ _ (ZI.X2 i d trivial) (j.X2 i d trivial ⟨o,ws,rfl,y⟩) ⟨q,o,ws,i,upd_same,rfl⟩
    |Zq Z4=>
     simp![eg]at p;let⟨q,o,ws,i,d,y⟩:=j.Zq eg;let⟨C,rfl,k⟩:=c;rw[i]at k;cases k;exact .inr (.inr (.inr ⟨q,o,ws,rfl,d,post.Y5 (R:=RI X.K) p j ⟨q,o,ws,i,d,rfl⟩⟩))
    |dst _=>simp![eg]at p;exact p.elim
    |ins _ _=>simp![eg]at p;exact p.elim
  |_=>exact p.elim
 refine thn (G O s Y H _ I J) ?_;rintro v h ⟨x,H1,f,c,B⟩;rcases B with⟨a,e,⟨xs,t⟩,q⟩|⟨a,e,⟨xs,t⟩,q⟩|⟨a,ws,e,d,q⟩|⟨a,o,ws,e,d,q⟩
 .subst e
  cases c;let⟨ZU,A,p,D⟩:=f.list t;refine wpAny_pyIter_list p.isList ?_;refine⟨h.heap.objs.size,[h.heap.objs.size],_,_,H1,rfl,f.kept (t':=h.toks) λb o e=>G4 _ e,qS a _,⟨_,Hc _ rfl,rfl,rfl⟩,λb w=>?_,q⟩;have e:b=h.heap.objs.size:=by simpa using w
  subst e;exact f.T4 (G8 _) (f.ZJ.fresh (G8 _))
 .subst e
  cases c;let⟨ZU,A,p,D⟩:=f.tuple t;refine wpAny_pyIter_tuple (show h.heap.IsTuple a ZU.toArray from p) ?_;refine⟨h.heap.objs.size,[h.heap.objs.size],_,_,H1,rfl,f.kept (t':=h.toks) λb o e=>G4 _ e,qp a _,⟨_,Hc _ rfl,rfl,rfl⟩,λb w=>?_,q⟩;have e:b=h.heap.objs.size:=by simpa using w
  subst e;exact f.T4 (G8 _) (f.ZJ.fresh (G8 _))
 .subst e
  cases c;let⟨o,L⟩:=f.freeze d;exact nD L upd_same (q o)
 .subst e
  cases c;exact nD f d q
def PI.imp{a:Expr}{t t':TI}(h:PI X tg a t)(q:∀Y H Q,t' Y H Q->t Y H Q):PI X tg a t':=λO s Y H Q I h'=>h O s Y H Q I (q Y H Q h')
def vW{p:Pos}(c:Gl X "range")(f:X.mg "range" = none)(h:PE X a (tE X.K W (r.ev a')))(b:∀es,starEach (a::es) X.env=(false,eval a X.env)::starEach es X.env):
  PI X tg (.Call (.Name "range" p) [a] [] pos) (tI X.K W (Jl r (.X1 a'))):=by
 refine PI.imp (rL c f (a6 h bX (b _)) (b _)) λY H R e=>one (R:=RI X.K) e λk ρ H g u x b c d p=>?_;cases u with
 |int j=>
  cases d;simp![]at p;split at p
  .rename_i i
   exact⟨j,rfl,by lia,by lia,post.Y5 (R:=RI X.K) p c rfl⟩
  .exact p.elim
 |_=>exact p.elim
def uR{p:Pos}(d:Gl X "range")(l:X.mg "range" = none)(n:PE X a (tE X.K W (r.ev a')))(m:PE X b (tE X.K W (r.ev b')))(c:∀es,starEach (a::es) X.env=(false,eval a X.env)::starEach es X.env)
  (e:∀es,starEach (b::es) X.env=(false,eval b X.env)::starEach es X.env):PI X tg (.Call (.Name "range" p) [a,b] [] pos) (tI X.K W (Jl r (.Xm a' b'))):=by
 refine PI.imp (rV d l (a6 n (a6 m bX (e _)) (c _)) (by rw[c,e];rfl) (e _)) λY H R k=>two (R:=RI X.K) k λo ρ H g u w x y c d h f p=>?_
 cases u with
 |int i=>
  cases w with
  |int j=>
   cases h;cases f;simp![]at p;split at p
   .exact ⟨i,j,rfl,by omega,post.Y5 (R:=RI X.K) p d rfl⟩
   .exact p.elim
  |_=>exact p.elim
 |_=>cases w<;>exact p.elim
def lZ{q:It}(j:RH X.K ρ H g)(c:RI X.K ρ H it q)(e:next it i g=some none):q.stop i H:=by
 cases it with
 |Z5 n=>
  let⟨a,h1,rfl⟩:=c;simp![next]at e;cases eg:g[n]? with
  |none=>simp[eg]at e
  |some o=>
   cases o with
   |Z5 S=>
    simp![eg,Xc]at e;let⟨vs,f,d⟩:=aI j h1 eg;exact⟨vs,.of f,VV.mp (d.none_of e)⟩
   |ZF _=>simp[eg]at e
   |Zq _=>simp[eg]at e
   |dst _=>simp[eg]at e
   |ins _ _=>simp[eg]at e
 |ZF n=>
  let⟨a,o,ws,h1,h2,rfl⟩:=c;simp![next]at e;cases eg:g[n]? with
  |none=>simp[eg]at e
  |some ob=>
   cases ob with
   |Zq Z4=>
    let⟨a',o',t,r,s,u⟩:=j.Zq eg;rw[h1]at r;cases r;rw[h2]at s;cases s;simp![eg,Xc,QZ]at e;exact⟨h2,by rw[<-u.len];exact VV.mp e⟩
   |_=>simp[eg]at e
 |Xl n=>
  let⟨a,h1,rfl⟩:=c;simp![next]at e;cases eg:g[n]? with
  |none=>simp[eg]at e
  |some o=>
   cases o with
   |Z5 S=>
    simp![eg,Xc,QZ]at e;let⟨vs,f,d⟩:=aI j h1 eg;exact⟨vs,.of f,VV.mp (d.none_of e)⟩
   |_=>simp[eg]at e
 |zip n m=>
  let⟨a,b,h1,h2,rfl⟩:=c;simp![next]at e;cases eg:g[n]? with
  |none=>simp[eg]at e
  |some o=>
   cases o with
   |Z5 S=>
    cases k:g[m]? with
    |none=>simp[eg,k]at e
    |some o'=>
     cases o' with
     |Z5 w=>
      simp![eg,k,Xc]at e;let⟨vs,f,d⟩:=aI j h1 eg;let⟨v,p,l⟩:=aI j h2 k;refine⟨vs,v,.of f,.of p,?_⟩;cases ex:S[i]? with
      |none=>exact .inl (VV.mp (d.none_of ex))
      |some z=>
       rw[ex,Rk,QZ]at e;exact .inr (VV.mp (l.none_of e))
     |_=>simp[eg,k]at e
   |_=>simp[eg]at e
 |seq S=>
  let⟨a,vs,h1,h2,rfl⟩:=c;simp![next,Xc]at e;exact⟨vs,h1.elim SqU.sq SqC.sq,VV.mp (h2.none_of e)⟩
 |YG lo n=>
  cases c;simp![next,Xc]at e;split at e
  .cases e
  .rename_i h;exact Nat.le_of_not_lt h
def nO{J:It}(l:RH X.K ρ H g)(s:RI X.K ρ H it J)(e:next it i g=some (some u)):J.go i H /\∀x H',J.yld i H x H'->ZI X.K ρ H ρ H'/\RH X.K ρ H' g/\RV X.K ρ H' u x:=by
 have c:∀{x:V} {H':Hp},H'=H->RV X.K ρ H u x->ZI X.K ρ H ρ H'/\RH X.K ρ H' g/\RV X.K ρ H' u x:=λe r=>by subst e;exact⟨.refl,l,r⟩
 cases it with
 |Z5 n=>
  let⟨a,h1,rfl⟩:=s;simp![next]at e;cases eg:g[n]? with
  |none=>simp[eg]at e
  |some o=>
   cases o with
   |Z5 S=>
    simp![eg,Xc]at e;let⟨vs,f,t⟩:=aI l h1 eg;let⟨v,d,j⟩:=t.get e;refine⟨⟨vs,v,.of f,d⟩,λx H' ⟨h1,h2⟩=>c h1 ?_⟩;have:=h2 vs (.of f);rw[d]at this;cases this;exact j
   |ZF _=>simp[eg]at e
   |Zq _=>simp[eg]at e
   |dst _=>simp[eg]at e
   |ins _ _=>simp[eg]at e
 |ZF n=>
  let⟨a,o,ws,h1,h2,rfl⟩:=s;simp![next]at e;cases eg:g[n]? with
  |none=>simp[eg]at e
  |some ob=>
   cases ob with
   |Zq Z4=>
    let⟨a',o',R,E,Q,T⟩:=l.Zq eg;rw[h1]at E;cases E;rw[h2]at Q;cases Q;simp![eg,Xc]at e;let⟨⟨k,z⟩,C,B⟩:=X7.mp e;let⟨v,d,j⟩:=T.at C;refine⟨⟨h2,(Yj.mp d).1⟩,λx H' ⟨h3,b,k',q,ex,O,N⟩=>c h3 ?_⟩;rw[d]at O;cases O;subst ex;subst B;exact⟨b,k.map V.int,rfl,by rw[TU]at N;exact N,dj k⟩
   |_=>simp[eg]at e
 |Xl n=>
  let⟨a,h1,rfl⟩:=s;simp![next]at e;cases eg:g[n]? with
  |none=>simp[eg]at e
  |some o=>
   cases o with
   |Z5 S=>
    simp![eg,Xc]at e;let⟨w,C,B⟩:=X7.mp e;let⟨vs,f,t⟩:=aI l h1 eg;let⟨v,d,j⟩:=t.get C;refine⟨⟨vs,v,.of f,d⟩,λx H' ⟨p,q,hp,ex,I,all⟩=>?_⟩;have:=all vs (.of f);rw[d]at this;cases this;subst ex;subst I;subst B;have sp:ZI X.K ρ H ρ (upd H p (.ZW [.int i,v])):=ZI.fresh hp;exact⟨sp,l.step_fresh hp,p,[.int i,v],rfl,upd_same,.int i,[v],rfl,rfl,v,[],rfl,RV.step sp _ _ j,rfl⟩
   |_=>simp[eg]at e
 |zip n m=>
  let⟨a,b,h1,h2,rfl⟩:=s;simp![next]at e;cases eg:g[n]? with
  |none=>simp[eg]at e
  |some o=>
   cases o with
   |Z5 S=>
    cases F:g[m]? with
    |none=>simp[eg,F]at e
    |some o'=>
     cases o' with
     |Z5 XY=>
      simp![eg,F,Xc]at e;let⟨w,C,e⟩:=W5.mp e;let⟨Z,U,B⟩:=X7.mp e;let⟨vs,f,t⟩:=aI l h1 eg;let⟨P,y,G⟩:=aI l h2 F;let⟨v,d,j⟩:=t.get C;let⟨q,A,W⟩:=G.get U;refine⟨⟨vs,P,v,q,.of f,.of y,d,A⟩,λx H' ⟨p,z,Y,hp,ex,I,all,D⟩=>?_⟩;have M:=all vs (.of f);have L:=D P (.of y);rw[d]at M;cases M;rw[A]at L;cases L;subst ex;subst I;subst B;have sp:ZI X.K ρ H ρ (upd H p (.ZW [v,q])):=ZI.fresh hp;exact⟨sp,l.step_fresh hp,p,[v,q],rfl,upd_same,v,[q],rfl,RV.step sp _ _ j,q,[],rfl,RV.step sp _ _ W,rfl⟩
     |_=>simp[eg,F]at e
   |_=>simp[eg]at e
 |seq S=>
  let⟨a,vs,h1,h2,rfl⟩:=s;simp![next,Xc]at e;let⟨v,d,j⟩:=h2.get e;have E:SqT X.K H a vs:=h1.elim SqU.sq SqC.sq;refine⟨⟨vs,v,E,d⟩,λx H' ⟨h3,h4⟩=>c h3 ?_⟩;have:=h4 vs E;rw[d]at this;cases this;exact j
 |YG lo n=>
  cases s;simp![next,Xc]at e;split at e
  .rename_i h
   cases e;exact⟨h,λx H' ⟨h1,h2⟩=>c h1 h2⟩
  .cases e
variable{st:Stmt}{ZQ:List Stmt}{s':Z6}{ZC:List Z6}
def aag:PSs X [] (Zk X.K W (Js r [])):=wN.imp λD Y H ⟨b,ρ,g,hs,a,p⟩=>p Y ρ H .refl a hs
def wU(i:PS X st (Zk X.K W (Jr r s')))(b:PSs X ZQ (Zk X.K W (r.ex ZC))):PSs X (st::ZQ) (Zk X.K W (Js r (s'::ZC))):=by
 refine(tQ i b).imp λD Y H ⟨d,ρ,g,hs,h,p⟩=>⟨d,ρ,g,hs,h,?_⟩;revert p;simp![Js];cases Jr r s' d g with
 |ok f g1=>
  cases f with
  |nx a=>exactλp l j H2 e b k=>⟨a,j,g1,k,b,Jx.from (o:=r.ex ZC a g1) p e⟩
  |rt u=>exactλp=>p
  |bk a=>exactλp=>p
  |ct a=>exactλp=>p
 |exc c fs g1=>exactλp=>p
 |ZV=>exactλp=>p
def eZ{f:Su->G->Out U}{k:Su->U->G->Out Fl}{Y:L2.St}{H:Hp}{D:Ends}
  (e:Zk X.K W (λa g=>(f a g).bind λx g=>k a x g) D Y H)
  (b:∀a ρ H g u x,RS X.K ρ H a Y->RH X.K ρ H g->RV X.K ρ H u x->Jx X.K W (k a u g) ρ H D->Q2 x H):tE X.K W f Y H Q2:=by
 let⟨a,ρ,g,hs,h,p⟩:=e;exact⟨a,ρ,g,hs,h,(Jx.bind p).mono λx H1 ⟨i,u,g1,s1,h1,c,d⟩=>b a i H1 g1 u x (hs.step s1) h1 c d⟩
def zc(h:PE X e (tE X.K W (r.ev e'))):PS X (.Return (some e) pos) (Zk X.K W (Jr r (.ret e'))):=
 (yj h).imp λD Y H b=>eZ b λd ρ H g u x hs c a p=>p x ρ H .refl c a
def z0(h:PE X e (tE X.K W (r.ev e')))(a:swapsWith e none pos.line X.env=pure false):PS X (.Expr e pos) (Zk X.K W (Jr r (.exp e'))):=
 (u5 h a).imp λD Y H b=>eZ b λf ρ H g u x a c d p=>p _ ρ H .refl c a
def yW{a:Su}{Y:L2.St}{D:Ends}(f:RS X.K ρ H a Y)(c:RH X.K ρ H g)(d:RV X.K ρ H u v)(p:Jx X.K W (match Ad t (Jk t u g) a with|some ZR=>Out.ok (.nx ZR) g|none=>.ZV) ρ H D):tG X.K t v Y H D.nx:=by
 cases e:Ad t (Jk t u g) a with
 |none=>simp![e]at p;exact p.elim
 |some h=>simp![e]at p;exact⟨a,ρ,g,u,h,f,c,d,e,λZR b=>p ZR ρ H .refl c b⟩
def mj(h:PE X e (tE X.K W (r.ev e')))(b:PG X tg (tG X.K t))(a:swapsWithSole [tg] e pos.line X.env=pure false)(d:swappedStores [tg] e X.env=pure none)(i:(assignEach [tg] X.env).map (·.2)=[assign tg X.env]):
  PS X (.Assign [tg] e pos) (Zk X.K W (Jr r (.set t e'))):=
 (mH h b a d i).imp λD Y H f=>eZ f λj ρ H g u x a b c p=>yW a b c p
def aa3{a:Pos}(m:X.N.Nodup)(hi:X.N[i]?=some x)(f:Loc X.env.scope x)(l:X.fn x=true\/X.env.scope.names.lookup x=some .local)(h:PE X e (tE X.K W (r.ev e')))(b:swapsWith e (some (.Name x a)) pos.line X.env=pure false):
  PS X (.Assign [.Name x a] e pos) (Zk X.K W (Jr r (.set (.nm i) e'))):=
 (yx m hi f h b l).imp λD Y H j=>eZ j λn ρ H g u x b k d p=>by
  simp![Jk,Ad]at p;by_cases c:i<n.length
  .rw [Yn c]at p;exact p _ ρ H .refl k (b.set d)
  .rw [Yb c]at p;exact p.elim
def abj{y:Str}{e d f:Pos}{kt k2 WY}(z:X.calm=true)(C:X.N.Nodup)(hi:X.N[i]?=some x)(s:X.N[j]?=some y)(G:i≠j)
  (o:X.env.scope.names.lookup x=some .local) (n:X.env.scope.names.lookup y=some .local) (B:PE X a (tE X.K W (r.ev a'))) (A:PE X b (tE X.K W (r.ev b'))) (c:∀es,starEach (a::es) X.env=(false,eval a X.env)::starEach es X.env) (I:∀es,starEach (b::es) X.env=(false,eval b X.env)::starEach es X.env)
  (q:swappedStores [.Tuple [.Name x e,.Name y d] kt f] (.Tuple [a,b] k2 WY) X.env=pure (some [x,y])) :
  PS X (.Assign [.Tuple [.Name x e,.Name y d] kt f] (.Tuple [a,b] k2 WY) pos) (Zk X.K W (Jr r (.par i j a' b'))):=by
 refine(aaR z C hi s G o n (a6 B (a6 A bX (I _)) (c _)) q rfl).imp ?_;rintro D Y H ⟨h,ρ,g,hs,t,p⟩;refine⟨h,ρ,g,hs,t,(Jx.bind p).mono λv H1 ⟨F,u,g1,s1,h1,l,m⟩=>?_⟩;refine⟨h,F,g1,hs.step s1,h1,(Jx.bind m).mono λw H2 ⟨E,u2,g2,s2,h2,k,p2⟩=>?_⟩;split at p2
 .exact ⟨v,w,rfl,p2 _ E H2 .refl h2 ((((hs.step s1).step s2).set (RV.step s2 _ _ l)).set k)⟩
 .exact p2.elim
def yJ{o i:Expr}{i':E}{W7:Pos}(hu:X.A.units+1<cLine)(h:PE X e (tE X.K W (r.ev e')))(ho:PE X o (tE X.K W (r.ev o')))(hi:PE X i (tE X.K W (r.ev i')))(hs:swapsWithSole [.Subscript o i W7] e pos.line X.env=pure false)(hw:swappedStores [.Subscript o i W7] e X.env=pure none)
  (ha:∀ v,assign (.Subscript o i W7) X.env v=(do
   let ov<-holding [v] (eval o X.env)
   let iv<-holding [v,ov] (eval i X.env)
   standAt W7
   holding [v,ov,iv] (setItem ov iv v)
   release [v,ov,iv] [])):PS X (.Assign [.Subscript o i W7] e pos) (Zk X.K W (Jr r (.sub o' i' e'))):=by
 refine(mH h (zm ho hi (vn set_list (set_dict hu)) ha) hs hw rfl).imp ?_;rintro D Y H ⟨ZY,ρ,g,hs,hg,p⟩;refine⟨ZY,ρ,g,hs,hg,(Jx.bind p).mono λv H1 ⟨ZL,u,g1,s1,h1,r1,p1⟩=>?_⟩;refine⟨ZY,ZL,g1,hs.step s1,h1,(Jx.bind p1).mono λw H2 ⟨Zu,u2,g2,s2,h2,r2,p2⟩=>?_⟩;refine⟨ZY,Zu,g2,(hs.step s1).step s2,h2,(Jx.bind p2).mono λz H3 ⟨U_,u3,g3,s3,h3,r3,p3⟩=>?_⟩;cases u2 with
 |ref n=>
  cases u3 with
  |int k=>
   cases r3;simp![subAt,Ed]at p3;cases eg:g3[n]? with
   |none=>simp![eg]at p3;exact p3.elim
   |some ob=>
    cases ob with
    |Z5 S=>
     simp![eg]at p3;let⟨q,vs,rfl,hn,t2,t3⟩:=cV h3 (RV.step s3 _ _ r2) eg;cases ej:ixN S.length k with
     |none=>simp![ej]at p3;exact p3.elim
     |some j=>
      simp![ej]at p3;have rv:=RV.step s3 _ _ (RV.step s2 _ _ r1);exact .inl ⟨q,vs,k,j,rfl,rfl,t2,by rw[<-t3.length];exact ej,p3 _ U_ _ (ZI.write hn t2) (h3.write hn t2 (t3.set rv j)) ((((hs.step s1).step s2).step s3).step (ZI.write hn t2))⟩
    |ZF _=>simp![eg]at p3;exact p3.elim
    |Zq _=>simp![eg]at p3;exact p3.elim
    |dst _=>simp![eg]at p3;exact p3.elim
    |ins _ _=>simp![eg]at p3;exact p3.elim
  |ZW S=>
   simp![subAt,Er]at p3;cases eg:g3[n]? with
   |none=>simp![eg]at p3;exact p3.elim
   |some ob=>
    cases ob with
    |ZF Z4=>
     simp![eg]at p3;cases ek:intsOf S with
     |none=>simp![ek]at p3;exact p3.elim
     |some k=>
      simp![ek]at p3;by_cases hl:Z4.length<Ac
      .rw [Yn hl]at p3
       let⟨q,ws,hn,ha,rd⟩:=h3.ZF eg;let⟨q',rfl,Ze⟩:=RV.step s3 _ _ r2;rw[hn]at Ze;cases Ze;let⟨b,rfl,hb⟩:=gK (x:=.ZW S) (k:=k) ek r3;have rv:=RV.step s3 _ _ (RV.step s2 _ _ r1);refine .inr ⟨q,_,rfl,DPut.t ha hb ?_,p3 _ U_ _ (ZI.X2 hn ha trivial) (h3.X2 hn ha trivial ⟨_,rfl,rd.put rv⟩) ((((hs.step s1).step s2).step s3).step (ZI.X2 hn ha trivial))⟩;rw[<-rd.len,U9];unfold Ac at hl;lia
      .rw [Yb hl]at p3;exact p3.elim
    |Z5 _=>simp![eg]at p3;exact p3.elim
    |Zq _=>simp![eg]at p3;exact p3.elim
    |dst _=>simp![eg]at p3;exact p3.elim
    |ins _ _=>simp![eg]at p3;exact p3.elim
  |str k=>
   simp![subAt,Gm]at p3;cases eg:g3[n]? with
   |none=>simp![eg]at p3;exact p3.elim
   |some ob=>
    cases ob with
    |dst Z4=>
     simp![eg]at p3;by_cases hl:Z4.length<Ac
     .rw [Yn hl]at p3
      let⟨q,ws,hn,ha,rk⟩:=h3.dst eg;let⟨q',rfl,Ze⟩:=RV.step s3 _ _ r2;rw[hn]at Ze;cases Ze;cases r3;have rv:=RV.step s3 _ _ (RV.step s2 _ _ r1);refine .inr ⟨q,_,rfl,DPut.k (k:=Sum.inr k) ha ?_,p3 _ U_ _ (ZI.X2 hn ha trivial) (h3.X2 hn ha trivial ⟨_,rfl,rk.put rv⟩) ((((hs.step s1).step s2).step s3).step (ZI.X2 hn ha trivial))⟩;rw[<-rk.len,U9];unfold Ac at hl;lia
     .rw [Yb hl]at p3;exact p3.elim
    |_=>simp![eg]at p3;exact p3.elim
  |_=>exact False.elim p3
 |_=>exact False.elim p3
def aca{as e:List Stmt}{a h:List Z6}(j:PT X c (tT X.K W (r.ts c')))(m:PSs X as (Zk X.K W (r.ex a)))(l:PSs X e (Zk X.K W (r.ex h))):PS X (.If c as e pos) (Zk X.K W (Jr r (.Zp c' a h))):=by
 refine(ab7 j m l).imp ?_;rintro D Y H ⟨b,ρ,g,hs,i,p⟩;refine⟨b,ρ,g,hs,i,(Jx.bind (R:=Yc) p).mono λk H1 ⟨f,k',g1,s1,h1,n,d⟩=>?_⟩;subst n;cases k' with
 |true=>exact bp ⟨b,f,g1,hs.step s1,h1,d⟩
 |false=>exact bj ⟨b,f,g1,hs.step s1,h1,d⟩
def nC{o:Out Fl}{k:Su->G->Out Fl}{D:Ends}{N:L2.St->Hp->Prop}
  (p:Jx X.K W (o.bind λf g=>match f with|.nx ZR=>k ZR g|.ct ZR=>k ZR g|.bk ZR=>.ok (.nx ZR) g|.rt u=>.ok (.rt u) g) ρ H D)
  (b:∀a d Y ZN H',ZI X.K ρ H ZN H'->RH X.K ZN H' d->RS X.K ZN H' a Y->Jx X.K W (k a d) ZN H' D->N Y H'):Jx X.K W o ρ H {D with nx:=N,ct:=N,bk:=D.nx}:=by
 cases o with
 |ok f g=>
  cases f with
  |nx a=>exactλY ZN H' s h hs=>b a g Y ZN H' s h hs (Jx.from (o:=k a g) p s)
  |ct a=>exactλY ZN H' s h hs=>b a g Y ZN H' s h hs (Jx.from (o:=k a g) p s)
  |bk a=>exact p
  |rt u=>exact p
 |exc c fs g=>exact p
 |ZV=>exact p
def abH{B:List Stmt}{a:List Z6}{n:Nat}(z:PassesOwn (model X.prog X.w) X.A X.env X.xe)(L:∀n,PT X c (tT X.K W ((Jw C n).ts c')))(M:∀n,PSs X B (Zk X.K W ((Jw C n).ex a))):
  PS X (.While c B [] pos) (Zk X.K W (Jr (Jw C n) (.Vr c' a))):=by
 intro O s Y H D I G;have o:∀m Y H,Zk X.K W ((Jw C m).wh c' a) D Y H ->∃l,m=l+1:=λm Y H ⟨q,ρ,g,_,_,p⟩=>by
  cases m with
  |zero=>exact p.elim
  |succ l=>exact⟨l,rfl⟩
 refine wpAny_While (codeAny_whileLoop (λn s'=>∃ZR H',L2.Z0 X O ZR H' s'/\Zk X.K W ((Jw C n).wh c' a) D ZR H') ?_ n ⟨Y,H,I,G⟩);rintro n e ⟨d,H1,S,u⟩;let⟨m,rfl⟩:=o n d H1 u;let⟨q,ρ,g,hs,J,p⟩:=u;refine Rw z (thn (L m O e d H1 (λb H2=>if b=true then Zk X.K W ((Jw C m).ex a) {D with nx:=λZR H'=>Zk X.K W ((Jw C m).wh c' a) D ZR H',ct:=λZR H'=>Zk X.K W ((Jw C m).wh c' a) D ZR H',bk:=D.nx} d H2 else D.nx d H2) S ?_) λb x ⟨H2,F,i⟩=>?_)
 .refine ⟨q,ρ,g,hs,J,(Jx.bind (R:=Yc) p).mono λk H1 ⟨E,k',g1,e,h1,N,y⟩=>?_⟩
  subst N;cases k' with
  |true=>exact bp ⟨q,E,g1,hs.step e,h1,nC (k:=λZR g=>(Jw C m).wh c' a ZR g) y λQ g2 Y ZN H' x h2 P p2=>⟨Q,ZN,g2,P,h2,p2⟩⟩
  |false=>exact bj (y _ E _ .refl h1 (hs.step e))
 .cases b with
  |true=>
   rw[Yn rfl]at i;rw[Yn rfl];refine Rw z (thn (M m O x d H2 _ F i) λf s3 h=>?_);cases f with
   |next=>
    let⟨r,H3,t,j⟩:=h;exact⟨m,Rj _,r,H3,t,j⟩
   |cont=>
    let⟨r,H3,t,j⟩:=h;exact⟨m,Rj _,r,H3,t,j⟩
   |brk=>exact h
   |ret v=>exact h
  |false=>
   rw[Yb G7]at i;rw[Yb G7];exact Om ⟨d,H2,F,i⟩
end
section
variable{YH:List Addr}{H0:Hp}{D:Addr}{Kh o2:HO}
def ZI.VC(s:ZI K YH H0 ρ H)(f:H0 D=none)(c:H D=some Kh)(b:By Kh):ZI K YH H0 ρ (upd H D o2) where
 ext:=s.ext
 new:=s.new
 X3:=λa o h d=>by rw[af (aE h f)];exact s.X3 a o h d
 live:=λa h=>by
  by_cases e:a=D
  .subst e;rw[upd_same];simp
  .rw [af e];exact s.live a h
 ZW:=λa xs h=>aQ (s.ZW a xs h) (.inr ⟨_,c,b⟩)
 Zx:=λa xs h=>aS (s.Zx a xs h) (.inr ⟨_,c,b⟩)
 Zv:=λa ob u h=>by rw[af (cg (s.Zv a ob u h) c (by rintro rfl;exact b))];exact s.Zv a ob u h
def RV.VC(b:H D=some Kh)(a:By Kh)(h:RV K ρ H u v):RV K ρ (upd H D o2) u v:=RV.mono (λ_ _ e=>e) (λ_ _ h=>aQ h (.inr ⟨_,b,a⟩)) (λ_ _ h=>aS h (.inr ⟨_,b,a⟩)) u v h
def RVs.VC(b:H D=some Kh)(a:By Kh){u:List U}{v:List V}(h:RVs K ρ H u v):RVs K ρ (upd H D o2) u v:=RVs.mono (λ_ _ e=>e) (λ_ _ h=>aQ h (.inr ⟨_,b,a⟩)) (λ_ _ h=>aS h (.inr ⟨_,b,a⟩)) u v h
def RH.VC(h:RH K ρ H g)(c:H D=some Kh)(b:By Kh)(f:D ∉ ρ):RH K ρ (upd H D o2) g where
 len:=h.len
 inj:=h.inj
 obj:=λn a o h1 h2=>by
  have q:=h.obj n a o h1 h2;have d:a≠D:=λe=>f (e ▸ Tf.mpr ⟨n,h1⟩);let⟨ho,e,r⟩:=q;exact⟨ho,by rw[af d];exact e,r.mono (λ_ _ e=>e) (λ_ _ h=>aQ h (.inr ⟨_,c,b⟩)) (λ_ _ h=>aS h (.inr ⟨_,c,b⟩))⟩
def RH.named{p:Z9}(h:RH K ρ H g)(w:H D=some Kh)(v:D ∉ ρ)(r:RHO K ρ H p Kh):RH K (ρ++[D]) H (g++[p]):=by
 have t:∀(n:Nat) (a:Addr),ρ[n]?=some a->(ρ++[D])[n]?=some a:=λn a e=>by rw[X0 (Yj.mp e).1];exact e
 have c:∀k b,(ρ++[D])[k]?=some b->(k<ρ.length/\ρ[k]?=some b)\/(k=ρ.length/\b=D):=λk b e=>by
  by_cases hk:k<ρ.length
  .rw [X0 hk]at e;exact .inl ⟨hk,e⟩
  .rw [Wm ()]at e
   cases hd:k-ρ.length with
   |zero=>rw[hd]at e;exact .inr ⟨by omega,by simpa using e.symm⟩
   |succ m=>rw[hd]at e;simp at e
 have l:∀k:Nat,ρ[k]? ≠ some D:=λk e=>v (Tf.mpr ⟨k,e⟩);refine⟨by simp[h.len],λi j a h1 h2=>?_,λn a o h1 h2=>?_⟩
 .rcases c i a h1 with⟨_,f⟩|⟨f,s⟩
  .rcases c j a h2 with⟨_,d⟩|⟨d,u⟩
   .exact h.inj i j a f d
   .subst u;exact absurd f (l i)
  .rcases c j a h2 with⟨_,d⟩|⟨d,u⟩
   .subst s;exact absurd d (l j)
   .lia
 .rcases c n a h1 with⟨hl,f⟩|⟨f,s⟩
  .rw [X0 (by rw[<-h.len];exact hl)]at h2
   have q:=h.obj n a o f h2;let⟨ho,e,r'⟩:=q;exact⟨ho,e,r'.mono t (λ_ _ h=>h) (λ_ _ h=>h)⟩
  .subst s
   rw[Wm (by rw[<-h.len];lia),<-h.len,f]at h2
   have d:o=p:=by simpa using h2.symm
   subst d;exact⟨_,w,r.mono t (λ_ _ h=>h) (λ_ _ h=>h)⟩
def ZI.named(s:ZI K YH H0 ρ H)(b:H0 D=none):ZI K YH H0 (ρ++[D]) H where
 ext:=λn a h=>by have:=s.ext n a h;rw[X0 (Yj.mp this).1];exact this
 new:=λn a h=>by
  by_cases hk:n<ρ.length
  .rw [X0 hk]at h;exact s.new n a h
  .rw [Wm ()]at h
   cases hd:n-ρ.length with
   |zero=>
    rw[hd]at h;have e:a=D:=by simpa using h.symm
    subst e;exact .inr b
   |succ m=>rw[hd]at h;simp at h
 X3:=s.X3
 live:=s.live
 ZW:=s.ZW
 Zx:=s.Zx
 Zv:=s.Zv
def fG(s:ZI K ρ H ZN H')(a:D ∉ ρ)(c:H D=some Kh):D ∉ ZN:=λb=>by
 let⟨n,e⟩:=Tf.mp b;rcases s.new n D e with q|q
 .exact a (Tf.mpr ⟨n,q⟩)
 .rw [c]at q;cases q
def RS.unbind{t:Tg}{b l:Su}{Y:L2.St}(m:AX t b=true)(d:Ad t u b=some l)(h:RS K ρ H l Y):RS K ρ H b Y:=by
 have one:∀(i:Nat) (w:U) (a:Su),(match a[i]? with|some none=>true|_=>false)=true ->∀(j:Nat) (z:U),a[j]?=some (some z)->(a.set i (some w))[j]?=some (some z):=λi w a hi j z e=>by
  by_cases g:j=i
  .subst g;rw[e]at hi;cases hi
  .rw [VJ (Ne.symm g)];exact e
 cases t with
 |nm i=>
  simp![Ad]at d;split at d
  .cases d
   exact⟨by have:=h.len;simpa using this,λj z e=>h.val j z (one i u b m j z e)⟩
  .cases d
 |tp is=>
  cases u with
  |ZW S=>
   have p:bindL is S b=some l:=d;have all:∀(is:List Nat) (S:List U) (a f:Su),(∀i∈is,∀z,b[i]? ≠ some (some z))->(∀(j:Nat) (z:U),b[j]?=some (some z)->a[j]?=some (some z))->bindL is S a=some f->f.length=a.length /\∀(j:Nat) (z:U),b[j]?=some (some z)->f[j]?=some (some z):=λis=>by
    induction is with
    |nil=>
     intro S a f _ c e;cases S with
     |nil=>cases e;exact⟨rfl,c⟩
     |cons _ _=>cases e
    |cons i is ih=>
     intro S a f hi c e;cases S with
     |nil=>cases e
     |cons w S=>
      simp![bindL]at e;split at e
      .obtain ⟨h1,h2⟩:=ih S _ f (λk hk=>hi k (G9 _ hk)) (λj z n=>by
        have g:j≠i:=λq=>hi i Wv z (q ▸ n);rw[VJ (Ne.symm g)];exact c j z n) e
       exact⟨by rw[h1];simp,h2⟩
      .cases e
   have hi:∀i∈is,∀z,b[i]? ≠ some (some z):=λi o z e=>by
    have:=YN.mp m i o;rw[e]at this;cases this
   let⟨h1,h2⟩:=all is S b l hi (λ_ _ e=>e) p;exact⟨by rw[<-h1];exact h.len,λj z e=>h.val j z (h2 j z e)⟩
  |_=>simp[Ad]at d
def dR{o:Out α}{k:α->G->Out β}{b:β}(h:o.bindB k=.ok b g'):∃a c,o=.ok a c/\k a c=.ok b g':=by
 cases o with
 |ok a c=>exact⟨a,c,rfl,h⟩
 |exc _ _ _=>cases h
 |ZV=>cases h
end
section
abbrev Tc(ifs:List Expr)(env:Env):Sem Bool:=forIn ifs true λc r=>if r=true then do let ok<-isTrue c env (eval c env);pure (ForInStep.yield ok)else pure (ForInStep.yield r)
def jr{env:Env}{M:Model}{A:Around}{E:Value->Shared->Prop}{Q:Bool->Shared->Prop}{s:Shared}(h:Q false s):∀ifs:List Expr,wpAny M A (forIn ifs false λc r=>if r=true then do let ok<-isTrue c env (eval c env);pure (ForInStep.yield ok)else pure (ForInStep.yield r)) Q E s
 |[]=>ZP h
 |c::cs=>by
  simp![Pp,Xh,Vn];exact ZB (ZP (jr h cs))
def PTs(X:Cx)(a:List Expr)(f:Su->G->Out Bool):Prop:=
 ∀(O:List (Addr×Obj)) (s:Shared) (Y:L2.St) (H:Hp) (Q:Bool->Hp->Prop),L2.Z0 X O Y H s->tT X.K Ym f Y H Q->wpAny (model X.prog X.w) X.A (Tc a X.env) (TP X O Y Q) X.xe s
where Ym:XQ:=λ_ _ _=>False
def wH:PTs X [] (Az r.ts []):=λO s Y H Q I ⟨b,ρ,g,hs,a,p⟩=>ZP ⟨H,I,post.Y5 (R:=Yc) p a rfl⟩
def tX{c:Expr}{f:E}{d:List Expr}{a:List E}(l:PT X c (tT X.K PTs.Ym (r.ts f)))(o:PTs X d (Az r.ts a)):PTs X (c::d) (Az r.ts (f::a)):=by
 intro O s Y H Q I ⟨h,ρ,g,hs,j,p⟩;unfold Tc;simp![Pp,V6];refine ZB (ZB (thn (l O s Y H (λk H1=>if k=true then tT X.K PTs.Ym (Az r.ts a) Y H1 Q else Q false H1) I ⟨h,ρ,g,hs,j,(post.bind (R:=Yc) p).mono λk H1 ⟨n,k',g1,s1,h1,m,e⟩=>?_⟩) λk s1 ⟨H1,i,b⟩=>?_))
 .subst m
  cases k' with
  |true=>exact bp ⟨h,n,g1,hs.step s1,h1,e⟩
  |false=>exact bj (post.Y5 (R:=Yc) e h1 rfl)
 .cases k with
  |true=>rw[Yn rfl]at b;exact ZP (o O s1 Y H1 Q i b)
  |false=>rw[Yb G7]at b;exact ZP (jr ⟨H1,i,b⟩ d)
structure Mon(K:Hf)(ρ:List Addr)(H:Hp)(ZN:List Addr)(H':Hp):Prop where
 ext:∀(n:Nat) (a:Addr),ρ[n]?=some a->ZN[n]?=some a
 ZW:∀a xs,SqU K H a xs->SqU K H' a xs
 Zx:∀a xs,SqF K H a xs->SqF K H' a xs
 Zv:∀a o u,H a=some (.Zv o u)->H' a=some (.Zv o u)
def ZI.mon(s:ZI K ρ H ZN H'):Mon K ρ H ZN H':=⟨s.ext,s.ZW,s.Zx,s.Zv⟩
def Mon.trans{d:List Addr}{c:Hp}(a:Mon K ρ H ZN H')(b:Mon K ZN H' d c):Mon K ρ H d c:=⟨λn x h=>b.ext n x (a.ext n x h),λx xs h=>b.ZW x xs (a.ZW x xs h),λx xs h=>b.Zx x xs (a.Zx x xs h),λx o u h=>b.Zv x o u (a.Zv x o u h)⟩
def RI.mon{i:Iter}{d:It}(s:Mon K ρ H ZN H')(h:RI K ρ H i d):RI K ZN H' i d:=by
 cases i with
 |Z5 n=>let⟨a,h1,h2⟩:=h;exact⟨a,s.ext _ _ h1,h2⟩
 |ZF n=>let⟨a,o,ws,h1,h2,c⟩:=h;exact⟨a,o,ws,s.ext _ _ h1,s.Zv _ _ _ h2,c⟩
 |Xl n=>let⟨a,h1,h2⟩:=h;exact⟨a,s.ext _ _ h1,h2⟩
 |zip n m=>let⟨a,b,h1,h2,c⟩:=h;exact⟨a,b,s.ext _ _ h1,s.ext _ _ h2,c⟩
 |seq S=>let⟨a,vs,h1,h2,c⟩:=h;exact⟨a,vs,h1.imp_left (s.ZW _ _),RVs.mono s.ext s.ZW s.Zx _ _ h2,c⟩
 |YG lo n=>exact h
def Bv(X:Cx)(C:Nat->List U->G->Out U):List Comprehension->List (Tg×E×List E)->Prop
 |[],[]=>True
 |g::r,(t,Zt,cs)::r'=>g.is_async=0/\PG X g.target (tG X.K t)/\(∀n,PTs X g.ifs (Az (Jw C n).ts cs))/\(∀n,PI X g.target g.iter (tI X.K PTs.Ym (Jl (Jw C n) Zt)))/\(∀x,foldedSetIterable g.iter X.env x=pure x)/\Bv X C r r'
 |_,_=>False
set_option genInjectivity false in
inductive CK where|Z5 (elt:Expr)|ZF (k v:Expr)
noncomputable def CK.exp(c:CK)(gens:List Comprehension)(scope:Scope)(pos:Pos):Expr:=match c with
 |.Z5 elt=>.ListComp elt gens scope pos
 |.ZF k v=>.DictComp k v gens scope pos
noncomputable def CK.emit(c:CK)(ZS:Value)(env:Env):Sem Unit:=match c with
 |.Z5 elt=>(do let _<-call (.builtin "list.append") [ZS,<-eval elt env])
 | .ZF k v=>(do
   let kv<-eval k env
   let vv<-holding [kv] (eval v env)
   match ZS with
   |.ref d=>do
    standAt {k.pos with endLine:=v.pos.endLine,endCol:=v.pos.endCol}
    holding [kv,vv] (dictSet d kv vv)
   |_=>unsupported "internal:dictcomp")
noncomputable def CK.new(c:CK):Sem Value:=match c with
 |.Z5 _=>newList []
 |.ZF _ _=>newDict
noncomputable def CK.obj(c:CK):Obj:=match c with
 |.Z5 _=>{cls:=.type "list",dict:=none,data:=.seq ([]:List Value).toArray}
 |.ZF _ _=>{cls:=.type "dict",data:=.dict #[]}
noncomputable def CK.Wt(c:CK):HO:=match c with
 |.Z5 _=>.Z5 []
 |.ZF _ _=>.dT []
noncomputable def CK.ho(K:Hf)(ρ:List Addr)(H:Hp)(c:CK)(a:List U)(o:HO):Prop:=match c with
 |.Z5 _=>∃vs,o=.Z5 vs/\RVs K ρ H a vs
 |.ZF _ _=>∃Z4 ws,o=.dT ws/\dfold a []=some Z4/\RD K ρ H Z4 ws
def CK.ho.mut{c:CK}{o:HO}(h:CK.ho K ρ H c ZS o):By o:=by
 cases c with
 |Z5 e=>let⟨vs,rfl,_⟩:=h;trivial
 |ZF k v=>let⟨_,ws,rfl,_⟩:=h;trivial
def CK.ho.mono{K:Hf}{ρ l:List Addr}{H b:Hp}{c:CK}{j:List U}{o:HO}(h:CK.ho K ρ H c j o)(i:∀(n:Nat) (a:Addr),ρ[n]?=some a->l[n]?=some a)(f:∀a xs,SqU K H a xs->SqU K b a xs)(g:∀a xs,SqF K H a xs->SqF K b a xs):CK.ho K l b c j o:=by
 cases c with
 |Z5 e=>let⟨vs,e,r⟩:=h;exact⟨vs,e,RVs.mono i f g _ _ r⟩
 |ZF k v=>let⟨Z4,ws,e,d,r⟩:=h;exact⟨Z4,ws,e,d,RD.mono i f g _ _ r⟩
def CK.ho.step{c:CK}{o:HO}(s:ZI K ρ H ZN H')(h:CK.ho K ρ H c ZS o):CK.ho K ZN H' c ZS o:=h.mono s.ext s.ZW s.Zx
def CK.ho0{c:CK}:CK.ho K ρ H c [] c.Wt:=by
 cases c with
 |Z5 e=>exact⟨[],rfl,rfl⟩
 |ZF k v=>exact⟨[],[],rfl,rfl,rfl⟩
def CK.R3{M:Model}{E:Value->Shared->Prop}{c:CK}(h:Q (.ref s.heap.objs.size) {s with heap:=s.heap.push c.obj}):wpAny M A c.new Q E s:=by
 cases c with
 |Z5 e=>exact Uk h
 |ZF k v=>exact Uk h
def CK.R1{P:Program}(c:CK)(h:Heap)(a:sysModules<h.objs.size):ObjOk P w H (h.push c.obj) h.objs.size c.Wt:=by
 cases c with
 |Z5 e=>exact⟨RN _,[],0,.nil,Hc _ rfl⟩
 |ZF k v=>exact jY h a
inductive RR(X:Cx)(c:CK)(D:Addr)(O:List (Addr×Obj))(YH:List Addr)(H0:Hp)(Ws:List Addr)(Hs:Hp)(ZY:Su)(S:List U)(g':G)(r:Result)(s':Shared):Prop
 |mk (f:∃f,r=.ok f) (ZR:L2.St) (H':Hp) (ZN:List Addr) (YI:HO) (I:L2.Z0 X O ZR H' s') (sp:ZI X.K YH H0 ZN H') (hg:RH X.K ZN H' g') (hs:RS X.K ZN H' ZY ZR) (hD:H' D=some YI) (hn:D ∉ ZN) (rv:CK.ho X.K ZN H' c S YI) (mo:Mon X.K Ws Hs ZN H')
def oY{c:CK}{k:Nat}{g:Comprehension}{it ZS:Value}(hk:gens[k]?=some g)(ha:g.is_async=0):
  compTurn (c.exp gens scope pos) k it ZS env=(do
   standAt g.iter.pos
   match<-pyNext it with
   |none=>pure (.done .next)
   |some v=>
    letOwnedTupleGo g.target it v
    assign g.target env v
    let ok<-Tc g.ifs env
    if ok then
     match gens[k+1]? with
     |some g'=>
      let x<-eval g'.iter env
      standAt g'.iter.pos
      let x<-if g'.is_async != 0 then foldedIterable g'.iter x else foldedSetIterable g'.iter env x
      let _<-runOwn (.compStart (c.exp gens scope pos) (k+1) (<- holding [x] (if g'.is_async != 0 then asyncIter x else pyIter x)) ZS env) env
     |none=>c.emit ZS env
    again (.compLoop (c.exp gens scope pos) k it ZS env)):=by
 cases c with
 |Z5 elt=>unfold compTurn;simp![CK.exp,hk,ha];rfl
 |ZF kx vx=>unfold compTurn;simp![CK.exp,hk,ha];rfl
end
section
variable{R:Result->Shared->Prop}
def iD{c:CK}{k:Nat}{g:Comprehension}{it ZS:Value}(hk:gens[k]?=some g)(ha:g.is_async=0)
  (h0:codeAny (model prog w) A (.compLoop (c.exp gens scope pos) k it ZS env) R s)
  (h:wpAny (model prog w) A (pyIter it) (λZt s'=>codeAny (model prog w) A (.compLoop (c.exp gens scope pos) k Zt ZS env) R s')
   (notedBy (model prog w) A env λx s'=>R (.error x) s') s) :
  codeAny (model prog w) A (.compStart (c.exp gens scope pos) k it ZS env) R s:=by
 refine Ot ?_;have key:(model prog w).den (.compStart (c.exp gens scope pos) k it ZS env)=(compStart (c.exp gens scope pos) k it ZS env).onRaise (λx=>do noteFrame x env;standAt theWindowsPlace):=by cases c<;>rfl
 have ku:A.under (.compStart (c.exp gens scope pos) k it ZS env)=A:=by cases c<;>rfl
 rw[key,ku];refine wpAny_notedAt ?_;unfold compStart;have hc:(clausesOf (c.exp gens scope pos))[k]?=some g:=by cases c<;>exact hk
 simp![hc,ha,Option.elim];show wpAny _ _ (ask >>= _) _ _ s;refine ZB (SF (wpAny_ite ?_));split
 .first
   |exact ZB (ZP (ZP (And.intro rfl h0)))
   |exact ZP (And.intro rfl h0)
 .first
   |exact ZB (RP (ZB (S_ (ZB (Q4 h (λZt s' h'=>ZP (And.intro rfl h')) λ_ _ x=>x)))))
   |(refine ZB (RP ?_);show wpAny _ _ (standAt g.iter.pos >>= _) _ _ s;exact ZB (S_ (ZB (Q4 h (λZt s' h'=>ZP (And.intro rfl h')) λ_ _ x=>x))))
end
section
def noE{t:Sem α}{Q:α->Shared->Prop}{E:Value->Shared->Prop}(a:X.xe=λ_ _=>False)(h:wpAny (model X.prog X.w) X.A t Q X.xe s):wpAny (model X.prog X.w) X.A t Q E s:=
 Q4 h (λ_ _ q=>q) λe s' z=>by rw[a]at z;exact z.elim
def C9(X:Cx)(C:Nat->List U->G->Out U)(c:CK)(f:E):Prop:=
 ∀(n:Nat) (O:List (Addr×Obj)) (s:Shared) (d:Su) (Y:L2.St) (H:Hp) (ρ:List Addr) (b:G) (ZS:List U) (o:HO) (v:U) (g2:G) (D:Addr),(Jw C n).ev f d b=.ok v g2->ZS.length<Ac->L2.Z0 X O Y H s->RS X.K ρ H d Y->RH X.K ρ H b->H D=some o->D ∉ ρ->CK.ho X.K ρ H c ZS o ->
  wpAny (model X.prog X.w) X.A (c.emit (.ref D) X.env) (λ_ e=>∃a H1 o2,L2.Z0 X O Y (upd H1 D o2) e/\ZI X.K ρ H a H1/\RH X.K a H1 g2/\H1 D=some o/\CK.ho X.K a (upd H1 D o2) c (ZS++[v]) o2) X.xe s
def jX{b:Expr}(y:∀n,PE X b (tE X.K PTs.Ym ((Jw C n).ev Zl))):C9 X C (.Z5 b) Zl:=by
 intro n O s t Y H ρ m ZS o v g2 D r j I hs k l i ⟨vs,p,g⟩;subst p;refine ZB (thn (y n O s Y H (λx H1=>∃a,ZI X.K ρ H a H1/\RH X.K a H1 g2/\RV X.K a H1 v x) I ⟨t,ρ,m,hs,k,by rw[r];exactλv a H1 c h1 d=>⟨a,c,h1,d⟩⟩) ?_);rintro u c ⟨x,H1,A,d,a,e,w,h⟩
 have f:H1 D=some (.Z5 vs):=e.X3 D _ l i;refine ZB (thn (jd O c Y H1 (.ref D) [x] (.ref D) [u] (λ_ H2=>H2=upd H1 D (.Z5 (vs++[x]))) A rfl (.cons d .nil) ⟨D,vs,x,rfl,rfl,f,by rw[<-g.length,U9];unfold Ac at j;omega,rfl⟩) ?_);rintro u2 E ⟨B,H2,z,F,q⟩
 subst q;exact ZP ⟨a,H1,_,z,e,w,f,_,rfl,((RVs.step e _ _ g).append (.one h)).VC f trivial⟩
def jM:∀{xs ys:List U} {a Z4:List (List Int×U)},dfold xs a=some Z4->dfold (xs++ys) a=dfold ys Z4
 |[],_,_,_,e=>by cases e;rfl
 |x::xs,ys,a,Z4,e=>by
  simp![Qr,dfold]at e ⊢;let⟨b,h1,h2⟩:=W5.mp e;rw[h1];exact jM h2
def ur{a:List (List Int×U)}{k:List Int}:(dput a k u).length<=a.length+1:=by
 unfold dput;split<;>simp
def rf{b a:List (List Int×U)}{x:U}(e:CB b x=some a):a.length<=b.length+1:=by
 unfold CB at e;split at e
 .obtain ⟨ks,_,rfl⟩:=X7.mp e;exact ur
 .cases e
def jH:∀{xs:List U} {a Z4:List (List Int×U)},dfold xs a=some Z4->Z4.length<=a.length+xs.length
 |[],_,_,e=>by cases e;simp
 |x::xs,a,Z4,e=>by
  simp![dfold]at e;let⟨b,h1,h2⟩:=W5.mp e;have:=rf h1;have:=jH h2;simp![Xb];lia
def uh{J B:Expr}{p m:E}(V:X.A.units+1<cLine)(hk:∀n,PE X J (tE X.K PTs.Ym ((Jw C n).ev p)))(U:∀n,PE X B (tE X.K PTs.Ym ((Jw C n).ev m))):C9 X C (.ZF J B) (.pair p m):=by
 intro n O s f Y H ρ z ZS o v g2 D N Z I hs hg hD W ⟨Z4,ws,eo,M,G⟩;subst eo;cases n with
 |zero=>cases N
 |succ n=>
  have a:(((Jw C n).ev p f z).bind λx g=>((Jw C n).ev m f g).bind λy g=>match keyOf x with|some _=>.ok (.ZW [x,y]) g|none=>.ZV)=Out.ok v g2:=N
  cases q:(Jw C n).ev p f z with
  |exc _ _ _=>rw[q]at a;cases a
  |ZV=>rw[q]at a;cases a
  |ok L ga=>
   rw[q]at a;cases ev:(Jw C n).ev m f ga with
   |exc _ _ _=>simp![Out.bind,ev]at a;cases a
   |ZV=>simp![Out.bind,ev]at a;cases a
   |ok F gb=>
    simp![Out.bind,ev]at a;cases d:keyOf L with
    |none=>rw[d]at a;cases a
    |some T=>
     rw[d]at a;cases a;refine ZB (thn (hk n O s Y H (λx H1=>∃c,ZI X.K ρ H c H1/\RH X.K c H1 ga/\RV X.K c H1 L x) I ⟨f,ρ,z,hs,hg,by rw[q];exactλv c H1 j h1 k=>⟨c,j,h1,k⟩⟩) ?_);rintro u j ⟨x,H1,I1,k,c,P,Yl,R⟩
     refine ZB (V7 (thn (U n O j Y H1 (λx H2=>∃l,ZI X.K c H1 l H2/\RH X.K l H2 g2/\RV X.K l H2 F x) I1 ⟨f,c,ga,hs.step P,Yl,by rw[ev];exactλv c H1 j h1 k=>⟨c,j,h1,k⟩⟩) ?_));rintro w s2 ⟨y,H2,I2,S,l,i,t,Q⟩
     let⟨b,rfl,hb⟩:=gK d (RV.step i _ _ R);obtain rfl:u=Value.ref b:=k;have sp:=P.trans i;have r:H2 D=some (.dT ws):=sp.X3 D _ hD W;refine ZB (S_ (V7 (abX V I2 r hb ?_ S λs3 I3=>⟨l,H2,_,I3,sp,t,r,dput Z4 T F,_,rfl,?_,?_⟩)))
     .have:=jH M;rw[<-G.len,U9];unfold Ac at Z;simp at this;lia
     .rw [jM M];simp![dfold,CB,d,VO,Rk]
     .exact RD.mono (λ_ _ e=>e) (λ_ _ h=>aQ h (.inr ⟨_,r,trivial⟩)) (λ_ _ h=>aS h (.inr ⟨_,r,trivial⟩)) _ _ ((G.mono sp.ext sp.ZW sp.Zx).put Q)
abbrev postC(c:Code)(R:Result->Shared->Prop)(N:Shared->Prop):PySem.Fin->Shared->Prop:=λfin s'=>match fin with|.done f=>R (.ok f) s'|.again c'=>c'=c/\N s'
inductive LpI(X:Cx)(f:Nat->Tg->List E->List (Tg×E×List E)->E->List U->Su->G->Out (List U))(t:Tg)(cs:List E)(ZC:List (Tg×E×List E))(Zl:E)(ZY:Su)(S:List U)(g':G)(O:List (Addr×Obj))(tn:Nat->Heap->Prop)(fp:List Addr)(Yk:Iter)(Z8:It)(YH:List Addr)(H0:Hp)(D:Addr)(c:CK)(Ws:List Addr)(Hs:Hp)(s:Shared):Prop
 |mk (i:Nat) (ZS:List U) (vs:HO) (Y:L2.St) (H:Hp) (ρ:List Addr) (g0:G) (eq:f i t cs ZC Zl ZS ZY g0=.ok S g') (I:L2.Z0 X O Y H s) (st:tn i s.heap) (hf:∀b∈fp,H b=none) (hs:RS X.K ρ H ZY Y) (XW:RH X.K ρ H g0) (ri:RI X.K ρ H Yk Z8) (sp:ZI X.K YH H0 ρ H) (hD:H D=some vs) (hn:D ∉ ρ) (rv:CK.ho X.K ρ H c ZS vs) (mo:Mon X.K Ws Hs ρ H)
def lP(hc:X.calm=true)(WN:X.xe=λ_ _=>False){c:CK}{Zl:E}{scope:Scope}{pos:Pos}{D:Addr}{k:Nat}{t:Tg}{YH Ws:List Addr}{H0 Hs:Hp}
  {it:Addr} {fp:List Addr} {tn:Nat->Heap->Prop} {Z8:It} {Yk:Iter} {O:List (Addr×Obj)} {ZY:Su} {S:List U} {g':G}
  (hk:gens[k]?=some gc) (ha:gc.is_async=0) (hg:PG X gc.target (tG X.K t)) (VB:∀n,PTs X gc.ifs (Az (Jw C n).ts cs)) (T:Turn X.prog X.w X.K gc.target Z8 fp it tn) (ZD:∀b∈fp,∀H':Hp,H' b=none->A3 X O H' b) (h0:H0 D=none)
  (inner:∀ (n:Nat) (W2:List (Addr×Obj)) (s:Shared) (ZM:Su) (Y:L2.St) (H:Hp) (ρ:List Addr) (g1:G) (ZS:List U) (vs:HO) (i:Nat) (N:Shared->Prop) (E:Value->Shared->Prop),
   (match ZC with
    |[]=>((Jw C n).ev Zl ZM g1).bindB λv g=>if ZS.length<Ac then(Jw C n).cm Yk (i+1) t cs ZC Zl (ZS++[v]) ZY g else .ZV
    |(t2,X9,Xu)::W9=>(Jl (Jw C n) X9 ZM g1).bindB λj g=>((Jw C n).cm j 0 t2 Xu W9 Zl ZS ZM g).bindB λYo g=>(Jw C n).cm Yk (i+1) t cs ZC Zl Yo ZY g)=.ok S g' ->
   L2.Z0 X W2 Y H s->RS X.K ρ H ZM Y->RH X.K ρ H g1->ZI X.K YH H0 ρ H->H D=some vs->D ∉ ρ->CK.ho X.K ρ H c ZS vs ->
   (∀s' ZR H' ZN g2 Yo VA,(Jw C n).cm Yk (i+1) t cs ZC Zl Yo ZY g2=.ok S g'->L2.Z0 X W2 ZR H' s'->RS X.K ZN H' ZM ZR->RH X.K ZN H' g2->ZI X.K YH H0 ZN H'->Mon X.K ρ H ZN H'->H' D=some VA->D ∉ ZN->CK.ho X.K ZN H' c Yo VA->N s') ->
   wpAny (model X.prog X.w) X.A (match gens[k+1]? with
     | some g'=>(do
      let x<-eval g'.iter X.env
      standAt g'.iter.pos
      if(g'.is_async != 0)=true then do
        let x<-foldedIterable g'.iter x
        let y<-holding [x] (if(g'.is_async != 0)=true then asyncIter x else pyIter x)
        let _<-runOwn (.compStart (c.exp gens scope pos) (k+1) y (.ref D) X.env) X.env
        again (.compLoop (c.exp gens scope pos) k (.ref it) (.ref D) X.env)
       else do
        let x<-foldedSetIterable g'.iter X.env x
        let y<-holding [x] (if(g'.is_async != 0)=true then asyncIter x else pyIter x)
        let _<-runOwn (.compStart (c.exp gens scope pos) (k+1) y (.ref D) X.env) X.env
        again (.compLoop (c.exp gens scope pos) k (.ref it) (.ref D) X.env))
     | none=>(do
      c.emit (.ref D) X.env
      again (.compLoop (c.exp gens scope pos) k (.ref it) (.ref D) X.env))) (postC (.compLoop (c.exp gens scope pos) k (.ref it) (.ref D) X.env) (RR X c D O YH H0 Ws Hs ZY S g') N) E s)
  (n:Nat) (s:Shared) (i:Nat) (ZS:List U) (vs:HO) (Y:L2.St) (H:Hp) (ρ:List Addr) (g0:G) (eq:(Jw C n).cm Yk i t cs ZC Zl ZS ZY g0=.ok S g') (I:L2.Z0 X O Y H s) (st:tn i s.heap) (hf:∀b∈fp,H b=none)
  (hs:RS X.K ρ H ZY Y) (XW:RH X.K ρ H g0) (ri:RI X.K ρ H Yk Z8) (sp:ZI X.K YH H0 ρ H) (hD:H D=some vs) (hn:D ∉ ρ) (rv:CK.ho X.K ρ H c ZS vs) (mo:Mon X.K Ws Hs ρ H) :
  codeAny (model X.prog X.w) X.A (.compLoop (c.exp gens scope pos) k (.ref it) (.ref D) X.env) (RR X c D O YH H0 Ws Hs ZY S g') s:=by
 refine codeAny_loop (by cases c<;>rfl) (λn s=>LpI X ((Jw C n).cm Yk) t cs ZC Zl ZY S g' O tn fp Yk Z8 YH H0 D c Ws Hs s) ?_ n ⟨i,ZS,vs,Y,H,ρ,g0,eq,I,st,hf,hs,XW,ri,sp,hD,hn,rv,mo⟩
 clear eq I st hf hs XW ri sp hD hn rv mo;rintro n s ⟨i,ZS,vs,Y,H,ρ,g0,eq,I,st,hf,hs,XW,ri,sp,hD,hn,rv,mo⟩;cases n with
 |zero=>cases eq
 |succ n=>
  have Xr:Jv (Jw C n) Yk i t cs ZC Zl ZS ZY g0=.ok S g':=eq;clear eq;simp![Jv]at Xr;have key:(model X.prog X.w).den (.compLoop (c.exp gens scope pos) k (.ref it) (.ref D) X.env)=(compTurn (c.exp gens scope pos) k (.ref it) (.ref D) X.env).onRaise (λx=>do noteFrame x X.env;theTreesLotGoes x):=by cases c<;>rfl
  have ku:X.A.under (.compLoop (c.exp gens scope pos) k (.ref it) (.ref D) X.env)=X.A:=by cases c<;>rfl
  rw[key,ku];refine wpAny_noted ?_;rw[oY hk ha];refine ZB (S_ (ZB ?_));have stat:∀{H':Hp},(∀b∈fp,H' b=none) ->∀b∈fp,A3 X O H' b:=λh b hb=>ZD b hb _ (h b hb);cases en:next Yk i g0 with
  |none=>simp![en]at Xr;cases Xr
  |some o=>
   cases o with
   |none=>
    simp![en]at Xr;cases Xr;refine thn (T.done X rfl rfl rfl hc i O s Y H _ I (stat hf) st (lZ XW ri en)) ?_;rintro r s1 ⟨hr,I1⟩;subst hr;exact ZP ⟨⟨_,rfl⟩,Y,H,ρ,vs,I1,sp,XW,hs,hD,hn,rv,mo⟩
   |some u=>
    simp![en]at Xr;let⟨go,yl⟩:=nO XW ri en;refine thn (T.item X rfl rfl rfl hc i O s Y H _ I (stat hf) st go) ?_;rintro r s1 ⟨u',hr,h4⟩;subst hr;refine ZB (thn h4 ?_);rintro _ s5 ⟨x,H5,I5,r5,y5,Wb,fr5⟩;let⟨WM,hgg5,rx⟩:=yl x H5 y5;replace hs:=hs.step WM;replace XW:=hgg5;replace ri:=ri.step WM;replace sp:=sp.trans WM;replace hD:=WM.X3 D _ hD hn;replace rv:=rv.step WM;replace mo:=mo.trans WM.mon;have I5':=I5.pinned (stat fr5) (T.obj _ _ Wb);split at Xr
    .rename_i Vm
     cases eb:Ad t u ZY with
     |none=>simp![eb]at Xr;cases Xr
     |some ZM=>
      simp![eb]at Xr;let⟨kk,g1,e1,e2⟩:=dR Xr;refine ZB (noE WN (thn (hg _ s5 Y H5 x u' (λZR H'=>H'=H5/\RS X.K ρ H5 ZM ZR) I5' r5 ⟨ZY,ρ,g0,u,ZM,hs,XW,rx,jy eb,λZR h=>⟨rfl,h⟩⟩) ?_));rintro _ s6 ⟨UO,H6,I6,eh,Uq⟩;subst eh;refine ZB (noE WN (thn (VB n _ s6 UO H6 (λk' H'=>k'=kk /\∃ZL,ZI X.K ρ H6 ZL H'/\RH X.K ZL H' g1) I6 ⟨ZM,ρ,g0,Uq,XW,by rw[e1];exactλv ZL H1 s1 h1 e=>⟨e.symm,ZL,s1,h1⟩⟩) ?_));rintro k' s7 ⟨H7,I7,ek,ZL,Zi,Yl⟩
      subst ek;have back:∀(s':Shared) (ZR:L2.St) (H':Hp) (ZN:List Addr) (g2:G) (Yo:List U) (VA:HO),(Jw C n).cm Yk (i+1) t cs ZC Zl Yo ZY g2=.ok S g'->L2.Z0 X (O++Cw fp s5.heap) ZR H' s'->RS X.K ZN H' ZM ZR->RH X.K ZN H' g2->ZI X.K YH H0 ZN H'->Mon X.K ZL H7 ZN H'->H' D=some VA->D ∉ ZN->CK.ho X.K ZN H' c Yo VA ->
        ∃m,m<n+1/\LpI X ((Jw C m).cm Yk) t cs ZC Zl ZY S g' O tn fp Yk Z8 YH H0 D c Ws Hs s':=λs' ZR H' ZN g2 Yo VA q1 q2 q3 q4 q5 q6 q7 q8 q9=>by
       refine⟨n,Rj _,i+1,Yo,VA,ZR,H',ZN,g2,q1,q2.T3,T.keep _ _ _ Wb λb hb o e=>(q2.pin (b,o) (VF _ (VF _ (dq hb e)))).1,λb hb=>?_,RS.unbind Vm eb q3,q4,(ri.step Zi).mon q6,q5,q7,q8,q9,(mo.trans Zi.mon).trans q6⟩;let⟨o,e,d⟩:=T.obj _ _ Wb b hb;exact(q2.pin (b,o) (VF _ (VF _ (dq hb e)))).2.1
      have hD7:H7 D=some vs:=Zi.X3 D _ hD hn;have hn7:D ∉ ZL:=fG Zi hn hD;have rv7:=rv.step Zi;cases k' with
      |false=>
       simp![Xh,Vn]at e2 ⊢;exact ZP ⟨rfl,back s7 UO H7 ZL g1 ZS vs e2 I7 (Uq.step Zi) Yl (sp.trans Zi) ⟨λ_ _ h=>h,λ_ _ h=>h,λ_ _ h=>h,λ_ _ _ h=>h⟩ hD7 hn7 rv7⟩
      |true=>
       simp![V6]at e2 ⊢;exact inner n _ s7 ZM UO H7 ZL g1 ZS vs i _ _ e2 I7 (Uq.step Zi) Yl (sp.trans Zi) hD7 hn7 rv7 back
    .cases Xr
def r6(hc:X.calm=true)(WN:X.xe=λ_ _=>False){c:CK}(hem:C9 X C c Zl){D:Addr}:
  ∀(ZQ:List Comprehension) (ZC:List (Tg×E×List E)) (k:Nat) (gc:Comprehension) (t:Tg) (cs:List E),gens[k]?=some gc->gens.drop (k+1)=ZQ->gc.is_async=0->PG X gc.target (tG X.K t) ->
   (∀n,PTs X gc.ifs (Az (Jw C n).ts cs))->Bv X C ZQ ZC ->
   ∀(n:Nat) (O:List (Addr×Obj)) (s:Shared) (it:Addr) (fp:List Addr) (tn:Nat->Heap->Prop) (Q:It) (Yk:Iter) (i:Nat) (ZS:List U) (vs:HO) (ZY:Su) (Y:L2.St) (H:Hp) (ρ YH:List Addr) (H0:Hp) (P:G) (S:List U) (g':G),
    Turn X.prog X.w X.K gc.target Q fp it tn->(Jw C n).cm Yk i t cs ZC Zl ZS ZY P=.ok S g'->L2.Z0 X O Y H s->tn i s.heap->(∀b∈fp,A3 X O H b)->RS X.K ρ H ZY Y->RH X.K ρ H P->RI X.K ρ H Yk Q ->
    ZI X.K YH H0 ρ H->H0 D=none->H D=some vs->D ∉ ρ->CK.ho X.K ρ H c ZS vs ->
    codeAny (model X.prog X.w) X.A (.compLoop (c.exp gens scope pos) k (.ref it) (.ref D) X.env) (RR X c D O YH H0 ρ H ZY S g') s:=by
 intro ZQ
 induction ZQ with
 |nil=>
  intro ZC k gc t cs hk TJ ha J VB u n O s it fp tn Q Yk i ZS vs ZY Y H ρ YH H0 P S g' T M I st W hs XW ri sp Z y o B;have Y7:gens[k+1]?=none:=by
   have:=SO List.length TJ;rw[VL]at this;exact VV.mpr (by simp at this;omega)
  cases ZC with
  |cons _ _=>exact False.elim u
  |nil=>
   refine lP hc WN hk ha J VB T (λb L H' h=>⟨h,(W b L).2⟩) Z ?_ n s i ZS vs Y H ρ P M I st (λb L=>(W b L).1) hs XW ri sp y o B ⟨λ_ _ h=>h,λ_ _ h=>h,λ_ _ h=>h,λ_ _ _ h=>h⟩;intro n W2 s ZM Y H ρ g1 ZS vs i N E M I hs J sp y o B a;let⟨v,g2,e1,e2⟩:=dR M;rw[Y7];split at e2
   .rename_i hl
    refine ZB (noE WN (thn (hem n W2 s ZM Y H ρ g1 ZS vs v g2 D e1 hl I hs J y o B) ?_));rintro _ s2 ⟨g,H1,o2,I2,d,Yl,F,rv2⟩;have YL:D ∉ g:=fG d o y;have hm:=B.mut;refine ZP ⟨rfl,?_⟩;refine a s2 Y _ g g2 (ZS++[v]) o2 e2 I2 ?_ (Yl.VC F hm YL) ((sp.trans d).VC Z F hm) (d.mon.trans ⟨λ_ _ h=>h,λ_ _ h=>aQ h (.inr ⟨_,F,hm⟩),λ_ _ h=>aS h (.inr ⟨_,F,hm⟩),λ_ _ _ h=>by rw[af (cg h F (by rintro rfl;exact hm))];exact h⟩) upd_same YL rv2
    exact⟨hs.len,λj z e=>let⟨w,w1,w2⟩:=(hs.step d).val j z e;⟨w,w1,w2.VC F hm⟩⟩
   .cases e2
 |cons gn ZQ ih=>
  intro ZC k gc t cs hk TJ ha J VB u n O s it fp tn Q Yk i ZS vs ZY Y H ρ YH H0 P S g' T M I st W hs XW ri sp Z y o B;have Y7:gens[k+1]?=some gn:=by
   have:=SO (λl=>l[0]?) TJ;simpa[PM]using this
  have R0:gens.drop (k+1+1)=ZQ:=by
   rw[<-QV,TJ];rfl
  cases ZC with
  |nil=>exact False.elim u
  |cons q2 W9=>
   let⟨t2,X9,Xu⟩:=q2;let⟨a2,pg2,R,pi2,RZ,V⟩:=u;refine lP hc WN hk ha J VB T (λb L H' h=>⟨h,(W b L).2⟩) Z ?_ n s i ZS vs Y H ρ P M I st (λb L=>(W b L).1) hs XW ri sp y o B ⟨λ_ _ h=>h,λ_ _ h=>h,λ_ _ h=>h,λ_ _ _ h=>h⟩;intro n W2 s ZM Y H ρ g1 ZS vs i N E M I hs J sp y o B a;let⟨j,g3,e1,e2⟩:=dR M;let⟨Yo,g4,e3,e4⟩:=dR e2;rw[Y7];refine ZB (noE WN (thn (pi2 n W2 s Y H (λQ H1=>∃g,ZI X.K ρ H g H1/\RH X.K g H1 g3/\RI X.K g H1 j Q) I ⟨ZM,ρ,g1,hs,J,by rw[e1];exactλv g H1 s1 h1 r1=>⟨g,s1,h1,r1⟩⟩) λv s1 h1=>ZB (S_ ?_)))
   rw[a2];rw[Yb #[1]]
   refine ZB (Oz (RZ v) (ZB (V7 ?_)));rw[Yb #[1]]
   refine noE WN (thn h1 λVk s2 h2=>?_);let⟨ita,fp2,tn2,J2,H2,e,I2,T2,Zy,f2,g,d,Yl,Wr⟩:=h2;subst e;have F:H2 D=some vs:=d.X3 D _ y o;have YL:D ∉ g:=fG d o y;have loop:=ih W9 (k+1) gn t2 Xu Y7 R0 a2 pg2 R V n W2 s2 ita fp2 tn2 J2 j 0 ZS vs ZM Y H2 g YH H0 g3 Yo g4 T2 e3 I2 Zy f2 (hs.step d) Yl Wr (sp.trans d) Z F YL (B.step d);refine ZB (wpAny_runOwn (Rz (iD Y7 a2 loop (T2.self _ 0 s2 _ _ Zy loop)) λr s3 hr=>?_));let⟨⟨f,rfl⟩,ZR,H',ZN,YI,I3,sp3,U8,YJ,hD3,WS,rv3,mo3⟩:=hr;exact ZP ⟨rfl,a s3 ZR H' ZN g4 Yo YI e4 I3 YJ U8 sp3 (d.mon.trans mo3) hD3 WS rv3⟩
end
def JA(cells:List (Str×Addr)):List (Str×NameKind)->List (Str×Addr)->List (Str×Addr)
 |[],ZS=>ZS
 |(x,k)::r,ZS=>if k==.free then(match cells.lookup x with|some c=>JA cells r ((x,c)::ZS)|none=>JA cells r ZS)else JA cells r ZS
def fI{scope:Scope}(h:∀x∈scope.names,x.2=.free ->∃c,env.cells.lookup x.1=some c):closureFor scope env=pure (JA env.cells scope.names []):=by
 have all:∀(names:List (Str×NameKind)) (ZS:List (Str×Addr)),(∀x∈names,x.2=.free ->∃c,env.cells.lookup x.1=some c) ->
   (forIn names ZS λ(x:Str×NameKind) (cs:List (Str×Addr))=>match x with|(name,kind)=>if(kind==NameKind.free)=true then do let c<-cellOf env name;pure (ForInStep.yield ((name,c)::cs))else pure (ForInStep.yield cs):Sem (List (Str×Addr)))=pure (JA env.cells names ZS):=λnames=>by
  induction names with
  |nil=>intro ZS _;rfl
  |cons p r ih=>
   intro ZS hp;let⟨x,k⟩:=p;simp![Pp,JA];by_cases hk:k=.free
   .subst hk
    let⟨c,hc⟩:=hp (x,.free) Wv rfl;have hco:cellOf env x=pure c:=by unfold cellOf;simp only at hc;rw[hc]
    simp![Qs,V6,hco,hc];exact ih _ λy hy=>hp y (G9 _ hy)
   .have hb:(k==NameKind.free)=false:=by simpa using hk
    simp![hb,Xh,Vn];exact ih _ λy hy=>hp y (G9 _ hy)
 unfold closureFor;show((forIn scope.names [] λ(x:Str×NameKind) (cs:List (Str×Addr))=>match x with|(name,kind)=>if(kind==NameKind.free)=true then do let c<-cellOf env name;pure (ForInStep.yield ((name,c)::cs))else pure (ForInStep.yield cs):Sem (List (Str×Addr))) >>= λs=>pure s)=_
 rw[all scope.names [] h]
 rfl
def bD{cells:List (Str×Addr)}:∀(names:List (Str×NameKind)) (ZS:List (Str×Addr)),(∀x c,ZS.lookup x=some c->cells.lookup x=some c) ->∀x c,(JA cells names ZS).lookup x=some c->cells.lookup x=some c
 |[],_,h=>h
 |(y,k)::r,ZS,h=>by
  unfold JA;split
  .split
   .rename_i c b
    refine bD r _ λx d e=>?_;rw[WW]at e;split at e
    .rename_i a
     cases e;rw[eq_of_beq a];exact b
    .exact h x d e
   .exact bD r _ h
  .exact bD r _ h
def dW{cells:List (Str×Addr)}{x:Str}:∀(names:List (Str×NameKind)) (ZS:List (Str×Addr)),(ZS.lookup x).isSome=true->((JA cells names ZS).lookup x).isSome=true
 |[],_,h=>h
 |(y,k)::r,ZS,h=>by
  unfold JA;split
  .split
   .refine dW r _ ?_
    rw[WW];split
    .rfl
    .exact h
   .exact dW r _ h
  .exact dW r _ h
def cN{cells:List (Str×Addr)}{x:Str}{c:Addr}(a:cells.lookup x=some c):∀(names:List (Str×NameKind)) (ZS:List (Str×Addr)),(x,NameKind.free)∈names->((JA cells names ZS).lookup x).isSome=true
 |(y,k)::r,ZS,h=>by
  unfold JA;rcases Xq.mp h with e|h
  .cases e
   simp![Qs,V6,a];exact dW r _ #[3]
  .split
   .split
    .exact cN a r _ h
    .exact cN a r _ h
   .exact cN a r _ h
def b9:∀(names:List (Str×NameKind)) (n:Nat) (ZS:List (Str×Addr)),cellsFrom n names ZS=cellsFrom n names []++ZS
 |[],_,_=>rfl
 |(x,k)::r,n,ZS=>by
  unfold cellsFrom;split
  .rw [b9 r (n+1) ((x,n)::ZS),b9 r (n+1) [(x,n)],XU];rfl
  .exact b9 r n ZS
def a9{x:Str}{c:Addr}:∀(names:List (Str×NameKind)) (n:Nat),(x,c)∈cellsFrom n names []->(x,NameKind.cell)∈names/\n<=c
 |[],_,h=>nomatch h
 |(y,k)::r,n,h=>by
  unfold cellsFrom at h;split at h
  .rename_i hk
   rw[b9,Wu]at h;rcases h with h|h
   .exact ⟨.tail _ (a9 r _ h).1,P4 (a9 r _ h).2⟩
   .cases WC.mp h;rw[eq_of_beq hk];exact⟨.head _,G8 _⟩
  .exact ⟨.tail _ (a9 r _ h).1,(a9 r _ h).2⟩
def c9{c:Addr}(h:(cellsFrom n names cl).lookup x=some c):(cellsFrom n names []).lookup x=some c\/((cellsFrom n names []).lookup x=none/\cl.lookup x=some c):=by
 rw[b9,List.lookup_append]at h;cases e:(cellsFrom n names []).lookup x with
 |some d=>rw[e]at h;exact .inl h
 |none=>rw[e]at h;exact .inr ⟨rfl,h⟩
def yA{c:Addr}(h:cl.lookup x=some c)(a:(x,NameKind.cell) ∉ names):(cellsFrom n names cl).lookup x=some c:=by
 rw[b9,List.lookup_append];cases e:(cellsFrom n names []).lookup x with
 |some d=>exact absurd (a9 _ _ (V4 e)).1 a
 |none=>exact h
def gR{c:Addr}(h:(cellsFrom n names (JA cells names [])).lookup x=some c):cells.lookup x=some c\/n<=c:=by
 rcases c9 h with z|⟨_,z⟩
 .exact .inr (a9 _ _ (V4 z)).2
 .exact .inl (bD names [] (λx c h=>by cases h) x c z)
def nB(h:Heap)(names:List (Str×NameKind))(o:Obj):CellsOk (pushCells (h.push o) names) (h.objs.size+1) (cellsFrom (h.objs.size+1) names []):=by
 have:=cellsFrom_ok names (h.push o) (h.objs.size+1) [] ⟨λ_ _ a=>(nomatch a),List.Pairwise.nil⟩ (by rw[RL];exact G8 _)
 rwa[RL]at this
def sG{M:Model}{E:Value->Shared->Prop}{d:Addr}{qual:Str}{Q:Env->Shared->Prop}
  (h:Q {scope,locals:=s.heap.objs.size,globals:=d,cells:=cellsFrom (s.heap.objs.size+1) scope.names cl,qual:=qual,func:=none,code:=env.code,frame:=env.frame,builtins:=env.builtins} {s with heap:=pushCells (s.heap.push {cls:=.type "dict",data:=.dict #[]}) scope.names}) :
  wpAny M A (newFunctionEnv scope d cl [] qual none .none (some env)) Q E s:=by
 simp![newFunctionEnv,Option.isSome_some,V6];refine ZB (wpAny_alloc ?_);refine ZB (wpAny_layCells _ (λname a cells=>by cases c:a==NameKind.cell<;>simp[c]) _ _ _ _ ?_)
 rw[show({s with heap:=s.heap.push {cls:=.type "dict",data:=.dict #[]}}:Shared).heap.objs.size=s.heap.objs.size+1 from RL ..]
 exact ZB (ZP (ZP h))
def Af(X:Cx)(O:List (Addr×Obj))(scope:Scope)(a:Shared)(d:Hp)(b:List Addr)(c:List Str):Cx:=
 {X with env:=compEnvC scope (cellsFrom (a.heap.objs.size+1) scope.names (JA X.env.cells scope.names [])) a.heap.objs.size X.env,N:=c,Zf:=a,UW:=d,outer:=X.stack,stack:=X.stack,ex:=b,fn:=λx=>scope.names.lookup x==some .cell,pn:=X.pn++O,xe:=λ_ _=>False}
section
variable{s3 s4:Shared}{Y:L2.St}{H3:Hp}{own fr:List Str}
structure Wq(X:Cx)(scope:Scope)(own fr:List Str)(Zr:List Nat):Prop where
 kind:scope.kind=.function
 names:∀x∈scope.names,x.2=.local->scope.names.lookup x.1=some .local
 cells:∀x∈scope.names,x.2=.cell->scope.names.lookup x.1=some .cell
 frees:∀x∈scope.names,x.2=.free->X.env.kindOf x.1=some .cell
 loc:∀x∈own,scope.names.lookup x=some .local\/scope.names.lookup x=some .cell
 nd:(own++fr).Nodup
 frs:∀x∈fr,scope.names.lookup x=some .free
 ix:Zr.length=fr.length /\∀(j:Nat) (x:Str) (i:Nat),fr[j]?=some x->Zr[j]?=some i->X.N[i]?=some x
def fg{a:Type}{x:Str}{k:a}:∀{l:List (Str×a)},l.lookup x=some k->(x,k)∈l
 |[],h=>by cases h
 |(y,z)::r,h=>by
  rw[WW]at h;split at h
  .rename_i b;cases h;rw[eq_of_beq b];exact Wv
  .exact G9 _ (fg h)
def dh{env:Env}{x:Str}:∀{names:List (Str×NameKind)},(names.map λ(n,k)=>if(k==NameKind.free&&env.scope.kind==.function&&env.kindOf n==some .cell)then(n,NameKind.cell)else(n,k)).lookup x =
  (names.lookup x).map λk=>if(k==NameKind.free&&env.scope.kind==.function&&env.kindOf x==some .cell)then NameKind.cell else k
 |[]=>rfl
 |(n,k)::r=>by
  have ih:=@dh env x r;rw[Y2,WW (as:=r)];show List.lookup x ((if(k==NameKind.free&&env.scope.kind==.function&&env.kindOf n==some .cell)=true then(n,NameKind.cell)else(n,k))::_)=_
  cases b:x==n with
  |true=>
   obtain rfl:=eq_of_beq b;by_cases a:(k==NameKind.free&&env.scope.kind==.function&&env.kindOf x==some .cell)=true
   .rw [Yn a,WW,b]
    simp![VO];rw[Yn a]
   .rw [Yb a,WW,b]
    simp![VO];rw[Yb a]
  |false=>
   by_cases a:(k==NameKind.free&&env.scope.kind==.function&&env.kindOf n==some .cell)=true
   .rw [Yn a,WW,b];exact ih
   .rw [Yb a,WW,b];exact ih
def wx(Z6:Wq X scope own fr Zr)(I:L2.Z0 X O Y H3 s3)(j:∀b∈fp,A3 X O H3 b)(t:∀b∈fp,b<s3.heap.objs.size):(Af X O scope s3 H3 fp (own++fr)).Ok:=by
 have sub:=bD (cells:=X.env.cells) scope.names [] (λx c h=>by cases h)
 have C:(Af X O scope s3 H3 fp (own++fr)).env.scope.kind=.function:=Z6.kind;have g:∀x c,X.env.cells.lookup x=some c->c<s3.heap.objs.size:=λx c h=>let⟨_,_,ho,_⟩:=I.cell x c h;G5 ho
 have w:=nB s3.heap scope.names {cls:=.type "dict",data:=.dict #[]};refine⟨I.ok.mod,C,I.ok.glob,I.ok.blt,G8 _,λx y c h1 h2=>?_,λx d=>?_,λx c h1 h2=>?_,I.ok.hd,I.ok.frames,.inl rfl,λb a=>⟨Hb (t b a),λx c h=>?_⟩,λb o e=>I.bs b o e,G6 I.ok.WH I.sz,λb o e a=>?_,λb a r=>?_,I.stack,I.SU⟩
 .have Xd:∀{z},(cellsFrom (s3.heap.objs.size+1) scope.names []).lookup z=some c->s3.heap.objs.size<c:=λh=>(a9 _ _ (V4 h)).2
  rcases c9 h1 with z|⟨_,z⟩<;>rcases c9 h2 with f|⟨_,f⟩
  .exact name_of_addr w.apart (V4 z) (V4 f)
  .exact absurd (QP (Xd z) (g _ _ (sub _ _ f))) (RE _)
  .exact absurd (QP (Xd f) (g _ _ (sub _ _ z))) (RE _)
  .exact I.ok.inj x y c (sub x c z) (sub y c f)
 .
  have B:(Af X O scope s3 H3 fp (own++fr)).env.kindOf x=(scope.names.lookup x).map λk=>if(k==NameKind.free&&X.env.scope.kind==.function&&X.env.kindOf x==some .cell)then NameKind.cell else k:=dh
  rw[B]at d;cases hl:scope.names.lookup x with
  |none=>rw[hl]at d;rcases d with h|h<;>cases h
  |some k=>
   rw[hl]at d;have hm:=fg hl;refine RG.mp (RQ _ _ _ ?_);cases k with
   |free=>
    let⟨c,u⟩:=I.ok.has x (.inl (Z6.frees _ hm rfl));exact .inr (cN u scope.names [] hm)
   |cell=>exact .inl hl
   |«local»=>rcases d with h|h<;>simp at h
   |globalExplicit=>rcases d with h|h<;>simp at h
   |globalImplicit=>rcases d with h|h<;>simp at h
 .have A:scope.names.lookup x=some .cell:=eq_of_beq h1
  rcases c9 h2 with z|⟨z,_⟩
  .exact P4 (a9 _ _ (V4 z)).2
  .have:=RQ scope.names (s3.heap.objs.size+1) [] (.inl A)
   rw[z]at this;cases this
 .rcases gR h with z|z
  .exact (j b a).2.2.2.2.1 x c z
  .exact Qo (Ha (RA (t b a)) z)
 .rcases (j b a).2.2.2.1 with z|z
  .exact I.ok.YM b o e z
  .exact absurd (Ha (show b<X.base.objs.size from G5 e) (G6 I.ok.WH z)) (RE _)
 .rcases Xq.mp (I.UT b r)with z|z
  .exact (j b a).2.1 z
  .exact (j b a).2.2.1 z
def getD_none{o:Option (Option α)}{v:α}(h:o.getD none=some v):o=some (some v):=by
 cases o with
 |none=>cases h
 |some w=>cases h;rfl
def sV(Z6:Wq X scope own fr Zr)(I:L2.Z0 X O Y H3 s3)(G:∀b∈fp,A3 X O H3 b)(K:∀b∈fp,b<s3.heap.objs.size){f:Heap}{tk:Nat}{w:Str->Option Value}(M:f.Ns s3.heap.objs.size w)(kept:∀b o,s3.heap.get? b=some o->f.get? b=some o)(J:∀x c,(x,c)∈cellsFrom (s3.heap.objs.size+1) scope.names [] ->∃v,f.IsCell c v):
  L2.Z0 (Af X O scope s3 H3 fp (own++fr)) [] (List.replicate own.length none++Zr.map λj=>(Y[j]?).getD none) H3 {s3 with heap:=f,toks:=tk}:=by
 have sub:=bD (cells:=X.env.cells) scope.names [] (λx c h=>by cases h)
 refine⟨wx Z6 I G K,rfl,I.bare,Un.kept kept,⟨w,M,λi x v H a S=>?_⟩,λx c h=>?_,I.ZJ.fresh (G8 _),λx c h=>(gR h).elim (I.W4 x c) λz=>I.ZJ.fresh (P4 z),λp E=>?_,I.ZJ.kept kept,?_⟩
 .
  have r:(own++fr)[i]?=some x:=H;by_cases hi:i<own.length
  .rw [X0 (by simpa using hi),RM,Yn hi]at a
   cases a
  .rw [Wm (by simpa using hi),Qc,Wy]at a
   rw[Wm (by lia)]at r
   cases l:Zr[i-own.length]? with
   |none=>rw[l]at a;cases a
   |some k=>
    rw[l]at a;have N:=getD_none (WQ a);have hN:=Z6.ix.2 _ x k r l;have t:=Z6.frs x (W8 r);have hm:=fg t;have s:=Z6.frees _ hm rfl;let⟨m,R,F⟩:=I.loc;let⟨u,B,lk⟩:=F k x v hN N (.inr (.inl s));refine⟨u,B,?_⟩;rcases lk with⟨hk,_⟩|⟨_,c,y,Q⟩
    .rw [s]at hk;cases hk
    .have P:(Af X O scope s3 H3 fp (own++fr)).env.kindOf x=some .cell:=by
      have:=@dh X.env x scope.names;show List.lookup x _=_;refine this.trans ?_;rw[t];have hk:=I.ok.kind;simp[hk,s]
     let⟨c',A⟩:=RG.mp (cN y scope.names [] hm);have:=sub x c' A;rw[y]at this;cases this;let⟨o,ho,g⟩:=Q;exact .inr ⟨.inl P,c,yA A (λz=>by have:=Z6.cells _ z rfl;rw[t]at this;cases this),o,kept c o ho,g⟩
 .rcases c9 h with z|⟨_,z⟩
  .exact J x c (V4 z)
  .obtain ⟨v,o,ho,g⟩:=I.cell x c (sub x c z)
   exact⟨v,o,kept c o ho,g⟩
 .have L:p∈X.pn++O:=by
   have:p∈(X.pn++O)++[]:=E;simpa using this
  let⟨e,n,D,C,d⟩:=I.pin p L;refine⟨kept _ _ e,n,Hb (G5 e),λz=>?_,d⟩;rcases Xq.mp (I.UT p.1 z)with q|q
  .exact D q
  .exact C q
 .show (List.replicate own.length none++Zr.map λj=>(Y[j]?).getD none).length=(own++fr).length
  simp[Z6.ix.1]
def u6{b:Su}(h:RS K ρ H b Y):RS K ρ H (List.replicate n none++Zr.map λj=>(b[j]?).getD none) (List.replicate n none++Zr.map λj=>(Y[j]?).getD none):=by
 refine⟨by simp,λi u e=>?_⟩
 by_cases hi:i<n
 .rw [X0 (by simpa using hi),RM,Yn hi]at e
  cases e
 .rw [Wm (by simpa using hi),Qc,Wy]at e
  rw[Wm (by simpa using hi),Qc,Wy]
  cases a:Zr[i-n]? with
  |none=>rw[a]at e;cases e
  |some k=>
   rw[a]at e;let⟨v,d,c⟩:=h.val k u (getD_none (WQ e));exact⟨v,by simp[d],c⟩
end
section
variable{own fr:List Str}
def fH(hc:X.calm=true)(Z6:Wq X scope own fr Zr){t:Tg}{c:CK}{n:Nat}(ha:gc.is_async=0)
  (F:∀ O s3 H3 fp,PG (Af X O scope s3 H3 fp (own++fr)) gc.target (tG X.K t)/\(∀ n,PTs (Af X O scope s3 H3 fp (own++fr)) gc.ifs (Az (Jw C n).ts cs))/\Bv (Af X O scope s3 H3 fp (own++fr)) C ZQ ZC /\
   C9 (Af X O scope s3 H3 fp (own++fr)) C c Zl)
  {O:List (Addr×Obj)} {a:Shared} {Y:L2.St} {u:Hp} {H:List Addr} {g1:G} {ZY:Su} {it:Addr} {fp:List Addr} {V:Nat->Heap->Prop} {Z8:It} {iI:Iter} {S:List U} {g2:G} {E:Value->Shared->Prop} {P:Value->Addr->Result->Shared->Prop}
  (I2:L2.Z0 X O Y u a) (T:Turn X.prog X.w X.K gc.target Z8 fp it V) (Zy:V 0 a.heap) (f2:∀b∈fp,A3 X O u b) (hs:RS X.K H u ZY Y) (Yl:RH X.K H u g1) (Wr:RI X.K H u iI Z8)
  (Vz:(Jw C n).cm iI 0 t cs ZC Zl [] (List.replicate own.length none++Zr.map λj=>(ZY[j]?).getD none) g1=.ok S g2)
  (fin:∀ (D R:Addr) (s':Shared) (H':Hp) (ZN:List Addr) (W:HO) (m:Str->Option Value) (f:Flow),L2.Z0 X O Y H' s'->ZI X.K H u ZN H'->RH X.K ZN H' g2->u D=none->H' D=some W->D ∉ ZN->CK.ho X.K ZN H' c S W->s'.heap.Ns R m->R≠X.env.locals->(∀ x c,X.env.cells.lookup x=some c->c≠R) ->
   (∀(Q:Shared) (Xj:L2.St) (XF:Hp) (h':Heap),L2.Z0 X O Xj XF Q->(∀b,H' b=none->b<s'.heap.objs.size->XF b=none)->Heap.SameBut R Q.heap h'->L2.Z0 X O Xj XF {Q with heap:=h'})->P (.ref D) R (.ok f) s') :
  wpAny (model X.prog X.w) X.A c.new (λZS M => wpAny (model X.prog X.w) X.A (newFunctionEnv scope X.env.globals (JA X.env.cells scope.names []) [] X.env.qual none .none (some X.env)) (λSD L =>
    codeAny (model X.prog X.w) X.A (.compStart (c.exp (gc::ZQ) scope pos) 0 (.ref it) ZS {SD with scope:=relabel scope X.env}) (P ZS SD.locals) L) E M) E a:=by
 refine CK.R3 (sG ?_);dsimp only;have N:=nB (a.heap.push c.obj) scope.names {cls:=.type "dict",data:=.dict #[]};have SA:=(Heap.Ns.new (a.heap.push c.obj) (.type "dict")).keeps (pushCells_keeps scope.names _);have kept:∀b o,(a.heap.push c.obj).get? b=some o->(pushCells ((a.heap.push c.obj).push {cls:=.type "dict",data:=.dict #[]}) scope.names).get? b=some o:=λb o e=>pushCells_keeps _ _ b o (G4 _ e);generalize pushCells ((a.heap.push c.obj).push {cls:=.type "dict",data:=.dict #[]}) scope.names=Sz at N SA kept ⊢;have I:u a.heap.objs.size=none:=I2.ZJ.fresh (G8 _);have B:L2.Z0 X O Y (upd u a.heap.objs.size c.Wt) {a with heap:=a.heap.push c.obj}:=I2.laid (t':=a.toks) (λb ob q=>G4 _ q) (G8 _) (c.R1 _ I2.Xd)
 have below:∀b∈fp,b<a.heap.objs.size:=λb d=>let⟨o,e,_⟩:=T.obj _ _ Zy b d;G5 e
 have y:∀b∈fp,A3 X O (upd u a.heap.objs.size c.Wt) b:=λb d=>⟨by rw[af (Hb (below b d))];exact(f2 b d).1,(f2 b d).2⟩
 have hsz:(a.heap.push c.obj).objs.size=a.heap.objs.size+1:=RL _ _;have X_:∀b∈fp,b<(a.heap.push c.obj).objs.size:=λb d=>by rw[hsz];exact RA (below b d)
 have I4:=sV (tk:=a.toks) Z6 B y X_ SA kept λx c h=>⟨_,(N.empty x c h).1⟩;let⟨pg,pts,go,Ta⟩:=F O {a with heap:=a.heap.push c.obj} (upd u a.heap.objs.size c.Wt) fp
 have RW:∀b o,a.heap.get? b=some o->Sz.get? b=some o:=λb o e=>kept b o (G4 _ e);have YT:V 0 Sz:=T.keep _ _ _ Zy λb _ o e=>RW b o e;have hn:a.heap.objs.size ∉ H:=λhm=>by
  let⟨k,e⟩:=Tf.mp hm;let⟨o,ho⟩:=Yl.there e;rw[I]at ho;cases ho
 have sub:=bD (cells:=X.env.cells) scope.names [] (λx c h=>by cases h)
 have f4:∀b∈fp,A3 (Af X O scope {a with heap:=a.heap.push c.obj} (upd u a.heap.objs.size c.Wt) fp (own++fr)) [] (upd u a.heap.objs.size c.Wt) b:=λb d=>by
  refine⟨(y b d).1,Hb (X_ b d),λz=>?_,.inl d,λx c h=>(gR h).elim ((y b d).2.2.2.2.1 x c) λz=>Qo (Ha (RA (X_ b d)) z),λp hp=>(y b d).2.2.2.2.2 p ?_⟩
  .rcases Xq.mp (B.UT b z)with q|q
   .exact (y b d).2.1 q
   .exact (y b d).2.2.1 q
  .have:p∈(X.pn++O)++[]:=hp
   simpa using this
 have loop:=r6 (X:=Af X O scope {a with heap:=a.heap.push c.obj} (upd u a.heap.objs.size c.Wt) fp (own++fr)) (C:=C) hc rfl Ta (c:=c) (gens:=gc::ZQ) (scope:=scope) (pos:=pos) (D:=a.heap.objs.size) ZQ ZC 0 gc t cs rfl rfl ha pg pts go n [] _ it fp V Z8 iI 0 [] c.Wt _ _ _ H H u g1 S g2 T Vz I4 YT f4 (u6 (hs.step (ZI.fresh I))) (Yl.step_fresh I) (Wr.step (ZI.fresh I)) (ZI.fresh I) I upd_same hn CK.ho0
 refine Rz (iD (k:=0) (g:=gc) rfl ha loop (T.self _ 0 _ _ _ YT loop)) λr s' hr=>?_;let⟨⟨f,rfl⟩,ZR,H',ZN,W,J,Z,hg5,hs5,hD5,hn5,rv5,_⟩:=hr;have chk:∀b∈fp,(b∈X.ex\/X.Zf.heap.objs.size<=b)/\b≠X.env.locals/\(∀x c,X.env.cells.lookup x=some c->c≠b) /\∀p∈X.pn++O,p.1≠b:=λb d=>⟨(y b d).2.2.2.1,(y b d).2.1,(y b d).2.2.2.2.1,(y b d).2.2.2.2.2⟩;have I6:L2.Z0 X O Y H' s':=B.So (ch:=fp) J.os J.base J.ZJ J.bare chk;let⟨m',Vx,_⟩:=J.loc;refine fin a.heap.objs.size _ s' H' ZN W m' f I6 Z hg5 I hD5 hn5 rv5 Vx (Qo B.lt) (λx c h=>by let⟨v,o,ho,hd⟩:=B.cell x c h;exact Hb (G5 ho)) λQ Xj XF h' I7 hH XN=>?_
 have hCn:XF (a.heap.push c.obj).objs.size=none:=hH _ J.free J.lt;refine I7.turned (t':=Q.toks) (it:=(a.heap.push c.obj).objs.size) (λb o d e=>(XN.2 b d).trans e) hCn ?_ (.inr ?_) (λx c h=>?_) λp hp=>?_
 .exact Qo B.lt
 .exact B.sz
 .obtain ⟨v,o,ho,hd⟩:=B.cell x c h
  exact Hb (G5 ho)
 .exact Hb (G5 (B.pin p hp).1)
def vM(y:X.calm=true)(Z6:Wq X scope own fr Zr){t:Tg}{l:Expr}{n:Nat}(z:gc.is_async=0)
  (hi:PI X gc.target gc.iter (tI X.K PTs.Ym (Jl (Jw C n) Zt))) (U:∀x,foldedSetIterable gc.iter X.env x=pure x)
  (k:∀ O s3 H3 fp,PG (Af X O scope s3 H3 fp (own++fr)) gc.target (tG X.K t)/\(∀ n,PTs (Af X O scope s3 H3 fp (own++fr)) gc.ifs (Az (Jw C n).ts cs))/\Bv (Af X O scope s3 H3 fp (own++fr)) C ZQ ZC /\
   ∀n,PE (Af X O scope s3 H3 fp (own++fr)) l (tE X.K PTs.Ym ((Jw C n).ev Zl))) :
  PE X (.ListComp l (gc::ZQ) scope pos) (tE X.K PTs.Ym (Jo C (Jw C n) (.comp own.length Zr ((t,Zt,cs)::ZC) Zl))):=by
 intro O s Y H Q I ⟨o,ρ,g,hs,w,p⟩;rw[eval_ListComp];let⟨tg,iter,ifs,W⟩:=gc;obtain rfl:W=0:=z;refine QC (use:=none) rfl U (fI λx u hk=>I.ok.has x.1 (.inl (Z6.frees x u hk))) Z6.kind Z6.names ?_;refine thn (hi O s Y H _ I ⟨o,ρ,g,hs,w,post.bind p⟩) λv s1 h1=>thn h1 λVk s2 h2=>?_;let⟨it,fp,tn,Z8,H2,e,I2,T,F,B,ZL,r,A,G,L,N,i⟩:=h2;subst e;revert i;cases P:(Jw C n).cm r 0 t cs ZC Zl [] (List.replicate own.length none++Zr.map λj=>(o[j]?).getD none) A with
 |exc c fs g2=>intro i;exact False.elim i
 |ZV=>intro i;exact False.elim i
 |ok S g2=>
  intro i;simp![Out.bindB]at i;split at i
  .refine fH (c:=.Z5 l) y Z6 rfl (λO s3 H3 fp=>let⟨a,b,c,d⟩:=k O s3 H3 fp;⟨a,b,c,jX d⟩) I2 T F B (hs.step G) L N P λD Cc s' H' ZN YI m f I' U7 q U6 Z J ⟨vs,E,V⟩ R _ _ XT=>?_
   subst E;refine⟨m,R,λh' M=>?_⟩;refine⟨.ref D,H',XT s' Y H' h' I' (λ_ h _=>h) M,rfl,?_⟩;refine i (.ref D) (ZN++[D]) H' (U7.named U6) (q.named Z J ⟨_,rfl,V⟩) ⟨D,rfl,?_⟩;rw[<-q.len];simp
  .exact False.elim i
def vd(k v gens scope pos):eval (.DictComp k v gens scope pos) env=comprehension (.DictComp k v gens scope pos) scope env (firstIterPos gens pos) newDict (firstAsync gens) (firstIter gens env):=rfl
def ug(G:X.calm=true)(B:X.A.units+1<cLine)(Z6:Wq X scope own fr Zr){t:Tg}{q l:Expr}{r o:E}{n:Nat}(J:gc.is_async=0)
  (hi:PI X gc.target gc.iter (tI X.K PTs.Ym (Jl (Jw C n) Zt))) (Vw:∀x,foldedSetIterable gc.iter X.env x=pure x)
  (k:∀ O s3 H3 fp,PG (Af X O scope s3 H3 fp (own++fr)) gc.target (tG X.K t)/\(∀ n,PTs (Af X O scope s3 H3 fp (own++fr)) gc.ifs (Az (Jw C n).ts cs))/\Bv (Af X O scope s3 H3 fp (own++fr)) C ZQ ZC /\
   (∀n,PE (Af X O scope s3 H3 fp (own++fr)) q (tE X.K PTs.Ym ((Jw C n).ev r))) /\∀n,PE (Af X O scope s3 H3 fp (own++fr)) l (tE X.K PTs.Ym ((Jw C n).ev o))) :
  PE X (.DictComp q l (gc::ZQ) scope pos) (tE X.K PTs.Ym (Jo C (Jw C n) (.Wh own.length Zr ((t,Zt,cs)::ZC) r o))):=by
 intro O s Y H Q I ⟨u,ρ,g,hs,F,p⟩;rw[vd];let⟨tg,iter,ifs,Ui⟩:=gc;obtain rfl:Ui=0:=J;refine QC (use:=none) rfl Vw (fI λx z hk=>I.ok.has x.1 (.inl (Z6.frees x z hk))) Z6.kind Z6.names ?_;refine thn (hi O s Y H _ I ⟨u,ρ,g,hs,F,post.bind p⟩) λv s1 h1=>thn h1 λVk s2 h2=>?_;let⟨it,fp,tn,Z8,H2,e,I2,T,R,M,ZL,y,L,U,W,Wr,i⟩:=h2;subst e;revert i;cases Vz:(Jw C n).cm y 0 t cs ZC (.pair r o) [] (List.replicate own.length none++Zr.map λj=>(u[j]?).getD none) L with
 |exc c fs g2=>intro i;exact False.elim i
 |ZV=>intro i;exact False.elim i
 |ok S g2=>
  intro i;simp![Out.bindB]at i;refine fH (c:=.ZF q l) G Z6 rfl (λO s3 H3 fp=>let⟨a,b,c,d,e⟩:=k O s3 H3 fp;⟨a,b,c,uh (X:=Af X O scope s3 H3 fp (own++fr)) B d e⟩) I2 T R M (hs.step U) W Wr Vz ?_;rintro D Cc s' H' ZN YI m f I' U7 w U6 Uh V ⟨Z4,ws,N,P,VD⟩ Vx _ _ XT
  subst N;rw[P]at i;refine⟨m,Vx,λh' Z=>?_⟩;refine⟨.ref D,H',XT s' Y H' h' I' (λ_ h _=>h) Z,rfl,?_⟩;refine i (.ref D) (ZN++[D]) H' (U7.named U6) (w.named Uh V ⟨_,rfl,VD⟩) ⟨D,rfl,?_⟩;rw[<-w.len];simp
def bind_assoc{c:Type}(o:Out α)(k:α->G->Out β)(b:β->G->Out c):(o.bind k).bind b=o.bind λa g=>(k a g).bind b:=by
 cases o<;>rfl
def qd(hc:X.calm=true)(Z6:Wq X scope own fr Zr){t:Tg}{elt:Expr}{W7 py:Pos}{n:Nat}{y:Str}(ha:gc.is_async=0)
  (hi:PI X gc.target gc.iter (tI X.K PTs.Ym (Jl (Jw C n) Zt))) (Vw:∀x,foldedSetIterable gc.iter X.env x=pure x)
  (inner:∀ O s3 H3 fp,PG (Af X O scope s3 H3 fp (own++fr)) gc.target (tG X.K t)/\(∀ n,PTs (Af X O scope s3 H3 fp (own++fr)) gc.ifs (Az (Jw C n).ts cs))/\Bv (Af X O scope s3 H3 fp (own++fr)) C ZQ ZC /\
   ∀n,PE (Af X O scope s3 H3 fp (own++fr)) elt (tE X.K PTs.Ym ((Jw C n).ev Zl)))
  (hN:X.N.Nodup) (hiy:X.N[i]?=some y) (hy:X.env.scope.names.lookup y=some .local) (Ug:swapsWith (.ListComp elt (gc::ZQ) scope pos) (some (.Name y py)) W7.line X.env=pure true) :
  PS X (.Assign [.Name y py] (.ListComp elt (gc::ZQ) scope pos) W7) (Zk X.K PTs.Ym (Jr (Jw C (n+1)) (.set (.nm i) (.comp own.length Zr ((t,Zt,cs)::ZC) Zl)))):=by
 intro O s Y H Dd I ⟨ZY,ρ,g,hs,hg,p⟩;have p':Jx X.K PTs.Ym ((Jl (Jw C n) Zt ZY g).bind λa g=>(((Jw C n).cm a 0 t cs ZC Zl [] (List.replicate own.length none++Zr.map λj=>(ZY[j]?).getD none) g).bindB λS g=>if S.length<=Ac then PI.alloc (.Z5 S) g else .ZV).bind λu g=>match Ad (.nm i) u ZY with|some ZR=>Out.ok (.nx ZR) g|none=>.ZV) ρ H Dd:=by
  have e:Jr (Jw C (n+1)) (.set (.nm i) (.comp own.length Zr ((t,Zt,cs)::ZC) Zl)) ZY g=_:=rfl;rw[<-bind_assoc];exact p
 rw[exec_Assign_Name_used _ _ _ _ Ug];refine ZB (S_ (ZB ?_));let⟨tg,iter,ifs,Ui⟩:=gc;obtain rfl:Ui=0:=ha;show wpAny _ _ (do let _<-comprehension (.ListComp elt (⟨tg,iter,ifs,0⟩::ZQ) scope pos) scope X.env _ (newList []) false (eval iter X.env) (some (assign (.Name y py) X.env))) _ _ s
 refine ZB (thn (QC (use:=some (assign (.Name y py) X.env)) (Q:=λ_ s'=>SP X O Dd .next s') rfl Vw (fI λx hx hk=>I.ok.has x.1 (.inl (Z6.frees x hx hk))) Z6.kind Z6.names ?_) λ_ s' hq=>ZP (ZP hq));refine thn (hi O s Y H _ I ⟨ZY,ρ,g,hs,hg,Jx.bind p'⟩) λv s1 h1=>thn h1 λVk s2 h2=>?_;let⟨it,fp,tn,Z8,H2,e,I2,T,Zy,f2,ZL,iI,g1,Zi,Yl,Wr,p1⟩:=h2;subst e;revert p1;cases Vz:(Jw C n).cm iI 0 t cs ZC Zl [] (List.replicate own.length none++Zr.map λj=>(ZY[j]?).getD none) g1 with
 |exc c fs g2=>intro p1;exact False.elim p1
 |ZV=>intro p1;exact False.elim p1
 |ok S g2=>
  intro p1;simp![Out.bindB]at p1;split at p1
  .refine fH (c:=.Z5 elt) hc Z6 rfl (λO s3 H3 fp=>let⟨a,b,c,d⟩:=inner O s3 H3 fp;⟨a,b,c,jX d⟩) I2 T Zy f2 (hs.step Zi) Yl Wr Vz λD Cc s' H' ZN YI m f I' U7 WO U6 Uh Ze ⟨vs,eo,VD⟩ Vx nl nc XT=>?_
   subst eo;show wpAny _ _ (assign (.Name y py) X.env (.ref D)) _ _ s';refine wpAny_assign_Name (jt (v:=.ref D) I' hN hiy (.inl hy) rfl (λs3 I3 ⟨a,XN,ha⟩=>?_) (.inr hy));have Zo:Cc≠a:=by
    rcases ha with rfl|ha
    .exact nl
    .exact Ne.symm (nc y a ha)
   refine⟨m,Vx.sameBut XN Zo,λh' YJ=>⟨_,H',XT s3 _ H' h' I3 (λ_ h _=>h) YJ,?_⟩⟩;simp![PI.alloc,Out.bind,Jk,Ad]at p1;by_cases hl:i<ZY.length
   .simp only [hl,V6]at p1
    refine p1 _ (ZN++[D]) H' (U7.named U6) (WO.named Uh Ze ⟨_,rfl,VD⟩) ((hs.step (Zi.trans (U7.named U6))).set (u:=.ref g2.length) (v:=.ref D) ?_);refine⟨D,rfl,?_⟩;rw[<-WO.len];simp
   .simp only [hl,Vn]at p1
    exact False.elim p1
  .exact False.elim p1
end
section
variable{W:XQ}
inductive DOk(X:Cx)(W:XQ)(r:Z7):List (Option Expr)->List Expr->List Str->List E->Prop
 |nil:DOk X W r [] [] [] []
 |cons {k a b ks e es kk e' es'}:PE X e (tE X.K W (r.ev e'))->DOk X W r ks es kk es'->DOk X W r (some (.Constant (.str k) a b)::ks) (e::es) (k::kk) (e'::es')
end
abbrev W0:XQ:=PTs.Ym
inductive FrI(X:Cx)(W:XQ)(it:Iter)(Z8:It)(D:Ends)(f:Su->G->Out Fl)(Y:L2.St)(H:Hp):Prop
 |mk (ZY:Su) (ρ:List Addr) (g:G) (hs:RS X.K ρ H ZY Y) (hg:RH X.K ρ H g) (ri:RI X.K ρ H it Z8) (p:Jx X.K W (f ZY g) ρ H D)
section
variable{W:XQ}{p2:Pos}{a b c:Expr}{a' b' c':E}{t:Tg}
def zy{a:Expr}{z:List Stmt}{e:List Z6}{n:Nat}(N:PassesOwn (model X.prog X.w) X.A X.env X.xe)(P:X.calm=true)(hi:PI X tg a (tI X.K W (Jl (Jw C n) Zt)))(d:PG X tg (tG X.K t))(Q:∀n,PSs X z (Zk X.K W ((Jw C n).ex e)))
  (c:∀x,foldedSetIterable a X.env x=pure x):PS X (.For tg a z [] pos) (Zk X.K W (Jr (Jw C n) (.for t Zt e))):=by
 have YO:PSs X z (λD Y H=>∃m,Zk X.K W ((Jw C m).ex e) D Y H):=λO s Y H D I ⟨m,h⟩=>Q m O s Y H D I h;refine(aak N P hi d YO c).imp ?_;rintro D Y H ⟨f,ρ,g,c,d,p⟩;refine⟨f,ρ,g,c,d,(Jx.bind (R:=RI X.K) p).mono λF H1 ⟨Z,it,g1,s1,h1,j,M⟩=>?_⟩;refine⟨λi m Y H=>FrI X W it F D ((Jw C m).fr t it i e) Y H,⟨n,f,Z,g1,c.step s1,h1,j,M⟩,?_⟩;rintro i m Y H ⟨f,ρ,g,c,d,j,p⟩;cases m with
 |zero=>exact p.elim
 |succ m=>
  have b:Jx X.K W (Ju (Jw C m) t it i e f g) ρ H D:=p;simp![Ju]at b;cases r:next it i g with
  |none=>simp![r]at b;exact b.elim
  |some o=>
   cases o with
   |none=>simp![r]at b;exact .inl ⟨lZ d j r,b _ ρ H .refl d c⟩
   |some u=>
    simp![r]at b;let⟨T,G⟩:=nO d j r;refine .inr ⟨T,λZR H'=>FrI X W it F D ((Jw C m).fr t it (i+1) e) ZR H',λZR H' q=>⟨m,Rj _,q⟩,λx H' y=>?_⟩;let⟨B,l,J⟩:=G x H' y;cases v:Ad t u f with
    |none=>simp![v]at b;exact b.elim
    |some E=>
     simp![v]at b;refine⟨f,ρ,g,u,E,c.step B,l,J,jy v,λXj V=>⟨m,E,ρ,g,V,l,?_⟩⟩;exact nC (k:=λZR g=>(Jw C m).fr t it (i+1) e ZR g) (Jx.from b B) λXi U Y ZN H' s3 S YJ L=>⟨Xi,ZN,U,YJ,S,(j.step B).step s3,L⟩
inductive U5(K:Hf)(Wf:XK->XQ)(J:List Fn)(d i np:Nat)(vs:List V)(H:Hp)(Q:VK)(E:XK):Prop
 |mk (fu:Nat) (ρ:List Addr) (g:G) (S:List U) (hg:RH K ρ H g) (r:RVs K ρ H S vs) (l:S.length=np) (p:post K (Wf E) (RV K) (Aa J fu d i S g) ρ H Q)
abbrev WL(K:Hf)(J:List Fn)(d i np:Nat):Sp:=U5 K (λ_=>W0) J d i np
def jz{J:List Fn}{fu:Nat}{np:Nat}{Q:VK}(a:∀F,J[i]?=some F->F.np=np){W:XQ}(p:post K W (RV K) (Aa J fu d i S g) ρ H Q):S.length=np:=by
 cases d with
 |zero=>exact p.elim
 |succ d=>
  simp![Aa]at p;cases e:J[i]? with
  |none=>simp![e]at p;exact p.elim
  |some F=>
   simp![e,BL]at p;split at p
   .rename_i h;rw[h,a F e]
   .exact p.elim
def uL{J:List Fn}{fu k:Nat}{f:Addr}{p:Pos}{Wf:XK->XQ}{E0:XK}(F:YQ X.prog X.w X.K X.mg X.base CX k f fd ps (U5 X.K Wf J d i ps.length))(e:AO CX X E0)(v:∀F,J[i]?=some F->F.np=ps.length)
  (h:Zc k X.A) (b:Gl X x) (j:X.mg x=some (.ref f)) (l:PySem.W.keepIn X.K (.ref f)=true) (m:Binds X.K fd ps []) (u:(x==("__debug__" : Str))=false) (n:PA X (a::es) (X8 X.K W0 (Ji r.ev es')))
  (s:starEach (a::es) X.env=(false,eval a X.env)::starEach es X.env) (t:(backTo pos (starEach es X.env)).any (·.1)=false) :
  PE X (.Call (.Name x p) (a::es) [] pos) (tE X.K (Wf E0) (Jo (Aa J fu d) r (.call i es'))):=by
 refine(xa F h b j l m .nil e n u s t).imp ?_;rintro Y H Q ⟨o,ρ,g,hs,b,p⟩;refine⟨o,ρ,g,hs,b,(aT (R:=RVs X.K) p).mono λvs H1 ⟨q,S,g1,s1,h1,rs,c⟩=>?_⟩;exact⟨fu,q,g1,S,h1,by rw[TR];exact rs,jz v c,c⟩
def uv{J:List Fn}{fu k:Nat}{f:Addr}{p:Pos}{Wf:XK->XQ}{E0:XK}(F:YQ X.prog X.w X.K X.mg X.base CX k f fd ps (U5 X.K Wf J d i ps.length))(c:AO CX X E0)(n:∀F,J[i]?=some F->F.np=ps.length)
  (e:Zc k X.A) (a:Gl X x) (h:X.mg x=some (.ref f)) (j:PySem.W.keepIn X.K (.ref f)=true) (l:Binds X.K fd ps []) (m:(x==("__debug__" : Str))=false) :
  PE X (.Call (.Name x p) [] [] pos) (tE X.K (Wf E0) (Jo (Aa J fu d) r (.call i []))):=by
 refine(sR F e a h j l .nil c m).imp ?_;rintro Y H Q ⟨o,ρ,g,hs,a,p⟩;have b:post X.K (Wf E0) (RV X.K) (Aa J fu d i [] g) ρ H Q:=p;exact⟨fu,ρ,g,[],a,rfl,jz n b,b⟩
end
structure S9(K:Hf)(C:Addr):Prop where
 ne:PySem.W.findIn K (.ref C) "__ne__" = some (some (.builtin "object.__ne__"))
 ob:PySem.W.mroIn K C (.type "object")=some true
 ci:(PySem.W.clsIn K C).isSome=true
 ty:PySem.W.typeIn K (.ref C)=some (.type "type")
 ca:PySem.W.findIn K (.ref C) "__class__" = some (some (.builtin "object.__class__"))
 sg:PySem.W.specialIn K (.builtin "object.__class__") "__get__" = some (some (.builtin "getset_descriptor.__get__"))
 tk:PySem.W.takesIn K (.builtin "object.__class__")=some true
def ixOf_get(h:AS N x=some i):N[i]?=some x:=by
 let⟨h1,h2,_⟩:=List.findIdx?_eq_some_iff_getElem.mp h;rw[Xp h1];exact SO some (eq_of_beq h2)
def aa1(h:Hh e=some x):∃p,e = .Name x p:=by
 cases e with
 |Name y p=>cases h;exact⟨p,rfl⟩
 |_=>cases h
def jA{c:Str×List Expr}(h:C8 e=some c):∃p q,e = .Call (.Name c.1 p) c.2 [] q:=by
 cases e with
 |Call f es kws q=>
  cases kws with
  |nil=>
   let⟨n,a,rfl⟩:=X7.mp h;let⟨p,rfl⟩:=aa1 a;exact⟨p,q,rfl⟩
  |cons _ _=>cases h
 |_=>cases h
def qT{a:Expr}(h:setArg es=some a):isStar a=false /\∃p pos,es=[.Call (.Name "set" p) [a] [] pos]:=by
 cases es with
 |nil=>cases h
 |cons e es=>cases es with
  |cons _ _=>cases h
  |nil=>
   let⟨c,g,h2⟩:=W5.mp h;clear h;let⟨p,q,rfl⟩:=jA g;let⟨n,f⟩:=c;have h:=h2;dsimp only at h;by_cases d:n = "set"
   .rw [Yn d]at h
    subst d;cases f with
    |nil=>cases h
    |cons b f=>cases f with
     |cons _ _=>cases h
     |nil=>
      cases hs:isStar b with
      |true=>
       have h:Hg (!isStar b) (some b)=some a:=h;rw[hs]at h;cases h
      |false=>
       have h:Hg (!isStar b) (some b)=some a:=h;rw[hs]at h;cases h;exact⟨hs,p,q,rfl⟩
   .rw [Yb d]at h;cases h
open PySem PySem.Spec PyProof.Rows L2 PySem.W
def aq{a:Expr}(h:isStar a=false)(b:List Expr):starEach (a::b) env=(false,eval a env)::starEach b env:=by
 cases a<;>first|rfl|cases h
def bz{env:Env}{pos:Pos}:∀{es:List Expr},es.any isStar=false->(backTo pos (starEach es env)).any (·.1)=false
 |[],_=>rfl
 |a::es,h=>by
  rw[Ub,Uo]at h;rw[aq h.1];show(false||(backTo pos (starEach es env)).any (·.1))=false;rw[bz h.2]
  rfl
section
def cI{env:Env}:∀{kws:List Keyword},kwOk kws=true->(backToKw pos (keywordEach kws env)).all (·.1.isSome)=true/\(backToKw pos (keywordEach kws env)).filterMap (·.1)=Ax kws/\(backToKw pos (keywordEach kws env)).any (·.1.isNone)=false
 |[],_=>⟨rfl,rfl,rfl⟩
 |⟨nm,e,kp⟩::kws,h=>by
  unfold kwOk at h;rw[Pd,Z1]at h;let⟨a,b,c⟩:=cI (env:=env) (kws:=kws) h.2;cases nm with
  |none=>cases h.1
  |some n=>
   refine⟨?_,?_,?_⟩
   .show (true&&_)=true
    rw[Pa];exact a
   .show n::_=n::_
    exact SO (n :: ·) b
   .show (false||_)=false
    rw[Qz];exact c
def eQ:∀{kws:List Keyword},kwOk kws=true->(Ax kws).length=kws.length
 |[],_=>rfl
 |⟨nm,e,kp⟩::kws,h=>by
  unfold kwOk at h;rw[Pd,Z1]at h;cases nm with
  |none=>cases h.1
  |some n=>
   show(Ax kws).length+1=kws.length+1;rw[eQ h.2]
def _root_.L2.PK.imp{t t':TA}(h:PK X kws t)(q:∀Y H Q,t' Y H Q->t Y H Q):PK X kws t':=λp O s Y H Q I a=>h p O s Y H Q I (q Y H Q a)
end
section
variable{k:Nat}{f:Addr}{ks:List Str}{sp:Sp}{E:XK}{p:Pos}{t tk:TA}{g:List Value->List Value->List Value}
def rQ(F:YQ X.prog X.w X.K X.mg X.base CX k f fd ps sp)(c:Zc k X.A)(j:Gl X x)(d:X.mg x=some (.ref f))(i:PySem.W.keepIn X.K (.ref f)=true)(l:VR X.K fd ps ks g gV)(b:AO CX X E)
  (B:PA X es t) (C:es=[] ->∀Y H Q,t Y H Q->Q [] H) (m:PK X kws tk) (o:(backToKw pos (keywordEach kws X.env)).all (·.1.isSome)=true) (n:(backToKw pos (keywordEach kws X.env)).filterMap (·.1)=ks)
  (r:(x==("__debug__" : Str))=false) (a:es.any isStar=false) (u:(backToKw pos (keywordEach kws X.env)).any (·.1.isNone)=false) :
  PE X (.Call (.Name x p) es kws pos) (Fw sp gV E t tk):=by
 cases es with
 |cons e es=>
  rw[Ub,Uo]at a;refine t9 F c j d i l b B m o n r (aq a.1 _) ?_;rw[aq a.1];show((false||(backTo pos (starEach es X.env)).any (·.1))||_)=false;rw[bz a.2,u]
  rfl
 |nil=>
  intro O s Y H Q I h;refine S8 (bV I j d ?_ r);refine Pk (h₀:=X.base) I.ok.mod.WI i o ?_ (by show(false||_)=false;rw[u];rfl)
  have q:=C rfl Y H _ h;refine thn (m pos O s Y H _ I q) λws D ⟨zs,H2,v,y,z⟩=>⟨v.Ys,?_⟩;rw[n];exact eA F c l b v .nil y z
end
section
variable{k:Nat}{f C:Addr}{ks:List Str}{sp:Sp}{E:XK}{m:Str}{p:Pos}{o:Expr}{t tk:TA}{g:List Value->List Value->List Value}
def jG{Y:L2.St}{Q:VK}{S a:List Value}{d:List V}(M:Mk X.K C f)(F:YQ X.prog X.w X.K X.mg X.base CX k f fd ps sp)(q:Zc (k+1) X.A)(l:VR X.K fd ps ks g gV)
  (p:AO CX X E) (I:Z0 X O Y H s) (r:ZG vs S) (m:ZG d a)
  (h:∀x dx,H x=none->H dx=none->dx≠x->sp (gV (.ref x::vs) d) (upd (upd H dx (.own x)) x (.ins C dx [])) (λv H2=>v=.ZK/\Q (.ref x) H2) E) :
  wpAny (model X.prog X.w) X.A (call (.ref C) S (ks.zip a)) (EP X O Y Q) X.xe s:=by
 have j:=h (s.heap.objs.size+1) s.heap.objs.size (I.ZJ.fresh (V8 _)) (I.ZJ.fresh (G8 _)) (Hb (Rj _));have c:=Z0.made (C:=C) I;have i:ZG (gV (.ref (s.heap.objs.size+1)::vs) d) (g (.ref (s.heap.objs.size+1)::S) a):=l.rel (.cons rfl r) m;have t:(g (.ref (s.heap.objs.size+1)::S) a).length=ps.length:=by rw[<-i.length];exact F.len _ _ _ _ j
 refine OF (tu (f:=f) I.Ys M.makes M.init (Ul.mp M.fn) (Rz (F.run _ X.stack _ _ ⟨.ref (s.heap.objs.size+1)::S,ks.zip a⟩ _ _ _ E (q.make C S (ks.zip a)) (c.Tz.make C S (ks.zip a)) (l.to _ _ a c.Ys t) i j) λr s' b=>?_));cases r with
 |error e=>exact p O Y _ _ e s' c b
 |ok fl=>
  cases fl with
  |ret u=>
   let⟨v,H',z,n,y,o⟩:=c.after b;subst y;exact⟨n,⟨.ref (s.heap.objs.size+1),H',z,rfl,o⟩⟩
  |next=>exact False.elim b
  |brk=>exact False.elim b
  |cont=>exact False.elim b
def GD(C:Addr)(sp:Sp)(a:List V->List V->List V)(E:XK)(t tk:TA):TE:=λY H Q=>t Y H λvs H1=>tk Y H1 λzs H2=>∀x dx,H2 x=none->H2 dx=none->dx≠x ->
 sp (a (.ref x::vs) zs) (upd (upd H2 dx (.own x)) x (.ins C dx [])) (λv H3=>v=.ZK/\Q (.ref x) H3) E
def rF(M:Mk X.K C f)(F:YQ X.prog X.w X.K X.mg X.base CX k f fd ps sp)(j:Zc (k+1) X.A)(B:Gl X x)(z:X.mg x=some (.ref C))(l:VR X.K fd ps ks g gV)(i:AO CX X E)
  (D:PA X es t) (J:es=[] ->∀Y H Q,t Y H Q->Q [] H) (m:PK X kws tk) (o:(backToKw pos (keywordEach kws X.env)).all (·.1.isSome)=true) (n:(backToKw pos (keywordEach kws X.env)).filterMap (·.1)=ks)
  (G:(x==("__debug__" : Str))=false) (b:es.any isStar=false) (u:(backToKw pos (keywordEach kws X.env)).any (·.1.isNone)=false) :
  PE X (.Call (.Name x p) es kws pos) (GD C sp gV E t tk):=by
 intro O s Y H Q I h;refine S8 (bV I B z ?_ G);cases es with
 |cons e es=>
  rw[Ub,Uo]at b;refine Pu (h₀:=X.base) I.ok.mod.WI M.kp o (thn (D pos O s Y H _ I h) λS y ⟨vs,H1,L,r,q⟩=>?_) ?_ (aq b.1 _)
  .refine thn (m pos O y Y H1 _ L q) λws v ⟨zs,H2,a,c,d⟩=>⟨a.Ys,?_⟩
   rw[n];exact jG M F j l i a r c d
  .rw [aq b.1]
   show((false||(backTo pos (starEach es X.env)).any (·.1))||_)=false;rw[bz b.2,u]
   rfl
 |nil=>
  have q:=J rfl Y H _ h;refine Pk (h₀:=X.base) I.ok.mod.WI M.kp o ?_ (by show(false||_)=false;rw[u];rfl)
  refine thn (m pos O s Y H _ I q) λws v ⟨zs,H2,a,c,d⟩=>⟨a.Ys,?_⟩;rw[n];exact jG M F j l i a .nil c d
def GC(X:Cx)(CX:XS)(k:Nat)(m:Str)(ks:List Str)(E:XK)(b:TE)(t tk:TA):TE:=λY H Q=>b Y H λx H1=>∃(a C dx:Addr) (fs:List (Str×V)) (f:Addr) (fd:FuncData) (ps:List Str) (sp:Sp) (g:List Value->List Value->List Value) (gV:List V->List V->List V),
 x=.ref a/\H1 a=some (.ins C dx fs)/\fs.lookup m=none/\Yh X.K C/\UM X.K C m f/\YQ X.prog X.w X.K X.mg X.base CX k f fd ps sp/\VR X.K fd ps ks g gV/\t Y H1 λvs H2=>tk Y H2 λzs H3=>sp (gV (x::vs) zs) H3 Q E
def rO(he:PE X o ta)(hr:Zc k X.A)(hx:AO CX X E)(ha:PA X es t)(Wp:es=[] ->∀Y H Q,t Y H Q->Q [] H)(Za:PK X kws tk)(YA:(backToKw pos (keywordEach kws X.env)).all (·.1.isSome)=true)(YU:(backToKw pos (keywordEach kws X.env)).filterMap (·.1)=ks)
  (ZD:es.any isStar=false) (XB:(backToKw pos (keywordEach kws X.env)).any (·.1.isNone)=false)
  (ht:eval (.Call (.Attribute o m apos) es kws pos) X.env=(do
   let ov<-eval o X.env
   standAt apos.atName
   let(f,first)<-holding [ov] (getMethod ov m pl)
   callWith pos f first (backTo pos (starEach es X.env)) (backToKw pos (keywordEach kws X.env)))) :
  PE X (.Call (.Attribute o m apos) es kws pos) (GC X CX k m ks E ta t tk):=by
 intro O s Y H Q I h;refine PySem.W.methodCall_KW (pl:=pl) (thn (he O s Y H _ I h) λu s1 hz=>?_) ht;let⟨x,H1,I1,rx,a,C,dx,fs,f,fd,ps,sp,g,gV,ex,ea,l,c,hm,F,hb,q⟩:=hz;subst ex;obtain rfl:u=Value.ref a:=rx;refine pI I1 ea c hm l ?_;cases es with
 |cons e es=>
  rw[Ub,Uo]at ZD;refine Pu (first:=[.ref a]) (h₀:=X.base) I.ok.mod.WI hm.kp YA (thn (ha pos O s1 Y H1 _ I1 q) λS s2 ⟨vs,H2,I2,r,q2⟩=>?_) ?_ (aq ZD.1 _)
  .refine thn (Za pos O s2 Y H2 _ I2 q2) λws s3 ⟨zs,H3,I3,rz,q3⟩=>⟨I3.Ys,?_⟩
   rw[YU];exact eA (S:=.ref a::S) (vs:=.ref a::vs) F hr hb hx I3 (.cons rfl r) rz q3
  .rw [aq ZD.1]
   show((false||(backTo pos (starEach es X.env)).any (·.1))||_)=false;rw[bz ZD.2,XB]
   rfl
 |nil=>
  have q:=Wp rfl Y H1 _ q;refine Pk (first:=[.ref a]) (h₀:=X.base) I.ok.mod.WI hm.kp YA ?_ (by show(false||_)=false;rw[XB];rfl)
  refine thn (Za pos O s1 Y H1 _ I1 q) λws s3 ⟨zs,H3,I3,rz,q3⟩=>⟨I3.Ys,?_⟩;rw[YU];exact eA (S:=[.ref a]) (vs:=[.ref a]) F hr hb hx I3 (.cons rfl .nil) rz q3
end
section
variable{W:XQ}{p:Pos}{J:List Fn}{fu k nd:Nat}{m:Str}{f:Addr}{F:KF}{dd:List (Str×Value)}{Yx:List E}
def h9{K:Frag}(a:Xs K fd F nd Zs dd)(ρ:List Addr)(H:Hp):F2 (PR (RV K ρ H)) F.dd Zs:=by
 have:=a.urel;revert this;generalize F.dd=l1;generalize Zs=b;intro this
 induction this with
 |nil=>exact .nil
 |cons r _ ih=>exact .cons ⟨r.1,r.2 _ _⟩ ih
def ie{np:Nat}{K:Frag}{W:XQ}{Q:VK}(c:∀a,J[i]?=some a->a.np=np)(p:post K W (RV K) (Aa J fu d i S g) ρ H Q):S.length=np:=by
 cases d with
 |zero=>exact p.elim
 |succ d=>
  simp![Aa]at p;cases e:J[i]? with
  |none=>rw[e]at p;exact p.elim
  |some a=>
   rw[e]at p;simp![BL]at p;split at p
   .rename_i b;rw[b];exact c a e
   .exact p.elim
def rD{Wf:XK->XQ}{E0:XK}(P:YQ X.prog X.w X.K X.mg X.base CX k f fd (F.ns++F.ks) (U5 X.K Wf J d i (F.ns++F.ks).length))(z:AO CX X E0)(V:∀q,J[i]?=some q->q.np=(F.ns++F.ks).length)(o:Xs X.K fd F nd Zs dd)(M:F.ns++F.ks≠[])
  (T:BD F nd es'.length (Ax kws)=true) (l:kwOk kws=true) (W:es'.length=es.length) (Z:Yx.length=kws.length) (C:Zc k X.A) (a:Gl X x) (D:X.mg x=some (.ref f)) (E:keepIn X.K (.ref f)=true) (U:(x==("__debug__" : Str))=false)
  (I:PA X es (X8 X.K W0 (Ji r.ev es'))) (Ud:PK X kws (X8 X.K W0 (Ji r.ev Yx))) (O:es.any isStar=false) :
  PE X (.Call (.Name x p) es kws pos) (tE X.K (Wf E0) (Jo (Aa J fu d) r (.UX i es' Yx (BM F es'.length (Ax kws))))):=by
 let⟨y,v,t⟩:=cI (pos:=pos) (env:=X.env) l;refine(rQ P C a D E (o.binds T M) z I (λe Y H Q ⟨b,ρ,g,hs,a,p⟩=>by subst e;cases es' with|nil=>exact post.Y5 (R:=RVs X.K) (u:=[]) p a rfl|cons=>cases W) Ud y v U O t).imp ?_;rintro Y H Q ⟨b,ρ,g,hs,a,p⟩
 refine⟨b,ρ,g,hs,a,(aT (R:=RVs X.K) p).mono λvs H1 ⟨N,S,g1,s1,h1,rs,s⟩=>?_⟩;refine⟨b,N,g1,hs.step s1,h1,(aT (R:=RVs X.K) s).mono λzs H2 ⟨j,ws,g2,s2,h2,c,p2⟩=>?_⟩;split at p2
 .rename_i G
  let⟨h,L⟩:=G;have m:ws.length=(Ax kws).length:=by rw[L,Z,eQ l]
  have n:=RVs.step s2 _ _ rs;have B:vs.length=es'.length/\zs.length=(Ax kws).length:=⟨by rw[<-n.length];exact h,by rw[<-c.length];exact m⟩
  rw[fA h m]at p2;refine⟨fu,j,g2,_,h2,?_,ie V p2,p2⟩;dsimp only;rw[Yn B];exact(cz (h9 o j H2) (.VE n) (.VE c)).Td
 .exact p2.elim
def jn{x:U}{q:Nat×List (Nat×U)}(e:AK x g=some q):∃n,x=.ref n/\g[n]?=some (.ins q.1 q.2):=by
 unfold AK at e;split at e
 .split at e
  .rename_i h;cases e;exact⟨_,rfl,h⟩
  .cases e
 .cases e
def vV{C:Addr}{c:Nat}(M:Mk X.K C f)(hC:nsIn X.K mainGlobals (Aq c)=some (some (.ref C))){Wf:XK->XQ}{E0:XK}(Z9:YQ X.prog X.w X.K X.mg X.base CX k f fd (F.ns++F.ks) (U5 X.K Wf J d i (F.ns++F.ks).length))(hx:AO CX X E0)(XJ:∀L,J[i]?=some L->L.np=(F.ns++F.ks).length)(I:Xs X.K fd F nd Zs dd)(Zo:F.ns++F.ks≠[])
  (Yg:BD F nd (es'.length+1) (Ax kws)=true) (D:kwOk kws=true) (WR:es'.length=es.length) (Vv:Yx.length=kws.length) (hr:Zc (k+1) X.A) (h:Gl X x) (hm:X.mg x=some (.ref C)) (Y8:(x==("__debug__" : Str))=false)
  (q:PA X es (X8 X.K W0 (Ji r.ev es'))) (Ud:PK X kws (X8 X.K W0 (Ji r.ev Yx))) (ZD:es.any isStar=false) :
  PE X (.Call (.Name x p) es kws pos) (tE X.K (Wf E0) (Jo (Aa J fu d) r (.make c i es' Yx (BM F (es'.length+1) (Ax kws))))):=by
 let⟨Z,W,T⟩:=cI (pos:=pos) (env:=X.env) D;refine(rF M Z9 hr h hm (I.binds Yg Zo) hx q (λe Y H Q ⟨s,ρ,g,hs,h,p⟩=>by subst e;cases es' with|nil=>exact post.Y5 (R:=RVs X.K) (u:=[]) p h rfl|cons=>cases WR) Ud Z W Y8 ZD T).imp ?_;rintro Y H Q ⟨s,ρ,g,hs,h,p⟩
 refine⟨s,ρ,g,hs,h,(aT (R:=RVs X.K) p).mono λvs H1 ⟨ZL,S,g1,s1,h1,rs,P⟩=>?_⟩;refine⟨s,ZL,g1,hs.step s1,h1,(aT (R:=RVs X.K) P).mono λzs H2 ⟨m,ws,g2,s2,h2,t,p2⟩=>?_⟩;intro a dx q j b;split at p2
 .rename_i hc
  let⟨B,c2⟩:=hc;have E:ws.length=(Ax kws).length:=by rw[c2,Vv,eQ D]
  have l:(upd H2 dx (.own a)) a=none:=by rw[af (Ne.symm b)];exact q
  have st:ZI X.K m H2 (m++[a]) (upd (upd H2 dx (.own a)) a (.ins C dx [])):=(ZI.fresh j).trans (ZI.alloc l);have N:RH X.K (m++[a]) (upd (upd H2 dx (.own a)) a (.ins C dx [])) (g2++[.ins c []]):=(h2.step_fresh j).Te l ⟨C,dx,[],rfl,hC,rfl⟩;have G:=RVs.step st _ _ (RVs.step s2 _ _ rs);have n:=RVs.step st _ _ t;have y:RV X.K (m++[a]) (upd (upd H2 dx (.own a)) a (.ins C dx [])) (.ref g2.length) (.ref a):=⟨a,rfl,by rw[<-h2.len];simp⟩
  have hv:(V.ref a::vs).length=es'.length+1/\zs.length=(Ax kws).length:=⟨by rw[Xb,<-G.length,B],by rw[<-t.length];exact E⟩
  have e1:(U.ref g2.length::S).length=es'.length+1:=by rw[Xb,B]
  rw[show(U.ref g2.length::S++ws)=(U.ref g2.length::S)++ws from rfl,fA (S:=U.ref g2.length::S) e1 E]at p2;have z:post X.K (Wf E0) (RV X.K) (Aa J fu d i (place F.ns F.ks (Ax kws) F.dd (U.ref g2.length::S) ws) (g2++[.ins c []])) (m++[a]) (upd (upd H2 dx (.own a)) a (.ins C dx [])) (λv H3=>v=.ZK/\Q (.ref a) H3):=by
   refine(post.bind (R:=RV X.K) (p2.from st)).mono ?_;rintro v H3 ⟨U_,u,g3,s3,h3,O,o⟩;split at o
   .rename_i hu
    have e:=fW O;rw[hu]at e;exact⟨He e.symm,post.Y5 o h3 (RV.step s3 _ _ y)⟩
   .exact o.elim
  refine⟨fu,_,_,_,N,?_,ie XJ z,z⟩;dsimp only;rw[Yn hv];exact(cz (h9 I _ _) (F2.cons y (.VE G)) (.VE n)).Td
 .exact p2.elim
def MtOk(CX:XS)(Wf:XK->XQ)(X:Cx)(J:List Fn)(d k:Nat)(m:Str)(np:Nat)(kw:List Str)(b:List (Nat×Nat×List (Nat ⊕ U))):Prop:=∀c i pm,b.lookup c=some (i,pm) ->∃C f fd F nd Zs dd,nsIn X.K mainGlobals (Aq c)=some (some (.ref C))/\Yh X.K C/\UM X.K C m f/\Xs X.K fd F nd Zs dd/\F.ns++F.ks≠[] /\
 BD F nd (np+1) kw=true/\pm=BM F (np+1) kw/\YQ X.prog X.w X.K X.mg X.base CX k f fd (F.ns++F.ks) (U5 X.K Wf J d i (F.ns++F.ks).length) /\∀a,J[i]?=some a->a.np=(F.ns++F.ks).length
def w6{o:Expr}(ho:PE X o (tE X.K W0 (r.ev o')))(hj:j<Bn)(hm:Aq j=m){Wf:XK->XQ}{E0:XK}(hx:AO CX X E0)(hM:MtOk CX Wf X J d k m es'.length (Ax kws) tb)(Za:kwOk kws=true)(WR:es'.length=es.length)(Vv:Yx.length=kws.length)(hr:Zc k X.A)
  (ha:PA X es (X8 X.K W0 (Ji r.ev es'))) (Ud:PK X kws (X8 X.K W0 (Ji r.ev Yx))) (ZD:es.any isStar=false)
  (ht:eval (.Call (.Attribute o m apos) es kws pos) X.env=(do
   let ov<-eval o X.env
   standAt apos.atName
   let(f,first)<-holding [ov] (getMethod ov m pl)
   callWith pos f first (backTo pos (starEach es X.env)) (backToKw pos (keywordEach kws X.env)))) :
  PE X (.Call (.Attribute o m apos) es kws pos) (tE X.K (Wf E0) (Jo (Aa J fu d) r (.XG o' j tb es' Yx))):=by
 let⟨k1,k2,k3⟩:=cI (pos:=pos) (env:=X.env) Za;refine(rO ho hr hx ha (λe Y H Q ⟨ZY,ρ,g,hs,hg,p⟩=>by subst e;cases es' with|nil=>exact post.Y5 (R:=RVs X.K) (u:=[]) p hg rfl|cons=>cases WR) Ud k1 k2 ZD k3 ht).imp λY H Q hp=>oneN hp λZY ρ H g u x hs hg r1 p=>?_
 cases ei:AK u g with
 |none=>rw[ei]at p;exact p.elim
 |some q=>
  rw[ei]at p;simp![Rk]at p;let⟨n,rfl,eg⟩:=jn ei;let⟨a,C,dx,fs,c1,c2,c3,c4⟩:=hg.ins eg;let⟨a',rfl,z⟩:=r1;rw[c1]at z;cases z;unfold BS at p;rcases c4.look hj with⟨l1,l2⟩|⟨u,v,l1,_,_⟩
  .rw [l1]at p
   dsimp only at p;cases et:tb.lookup q.1 with
   |none=>rw[et]at p;exact p.elim
   |some ip=>
    let⟨i,pm⟩:=ip;rw[et]at p;dsimp only at p;let⟨C',f,fd,F,nd,Zs,dd,m1,m2,m3,KO,Zo,Yg,rfl,Z9,XJ⟩:=hM q.1 i pm et;rw[c3]at m1;cases m1;refine⟨a,C,dx,fs,f,fd,_,_,_,_,rfl,c2,by rw[<-hm];exact l2,m2,m3,Z9,KO.binds Yg Zo,ZY,ρ,g,hs,hg,(aT (R:=RVs X.K) p).mono λvs H1 ⟨ZL,S,g1,s1,h1,rs,p1⟩=>?_⟩
    refine⟨ZY,ZL,g1,hs.step s1,h1,(aT (R:=RVs X.K) p1).mono λzs H2 ⟨Zu,ws,g2,s2,h2,rz,p2⟩=>?_⟩;split at p2
    .rename_i hc
     let⟨c1',WK⟩:=hc;have WK:ws.length=(Ax kws).length:=by rw[WK,Vv,eQ Za]
     have V1:=RVs.step s2 _ _ rs;have rx:RV X.K Zu H2 (.ref n) (.ref a):=⟨a,rfl,s2.ext _ _ (s1.ext _ _ c1)⟩;have hv:(V.ref a::vs).length=es'.length+1/\zs.length=(Ax kws).length:=⟨by rw[Xb,<-V1.length,c1'],by rw[<-rz.length];exact WK⟩
     have e1:(U.ref n::S).length=es'.length+1:=by rw[Xb,c1']
     rw[show(U.ref n::S++ws)=(U.ref n::S)++ws from rfl,fA (S:=U.ref n::S) e1 WK]at p2;refine⟨fu,Zu,g2,_,h2,?_,ie XJ p2,p2⟩
     try dsimp only
     rw[Yn hv];exact(cz (h9 KO _ _) (F2.cons rx (.VE V1)) (.VE rz)).Td
    .exact p2.elim
  .rw [l1]at p;exact p.elim
def CY(K:Frag)(f:Str)(a:List Nat):Prop:=∀c,a.contains c=true ->∃C,nsIn K mainGlobals (Aq c)=some (some (.ref C))/\Yh K C/\NoAttr K C f
def aaq{h:List Nat}(A:PE X e (tE X.K W (r.ev e')))(D:attributeBase e m X.env (eval e X.env)=eval e X.env)(y:j<Bn)(t:Aq j=m)(E:CY X.K m h):PE X (.Attribute e m pos) (tE X.K W (Jo C r (.fld e' j h))):=by
 refine(aaU A D).imp λY H Q s=>one s λN ρ H g u x hs d k p=>?_;let⟨w,b,l⟩:=post.lift p;clear p;cases c:AK u g with
 |none=>rw[c]at b;cases b
 |some q=>
  rw[c]at b;simp![Rk,Cd]at b;split at b
  .rename_i B
   let⟨n,rfl,F⟩:=jn c;let⟨a,C,dx,fs,M,L,J,I⟩:=d.ins F;let⟨a',rfl,z⟩:=k;rw[M]at z;cases z;let⟨C',f,J4,G⟩:=E q.1 B;rw[J]at f;cases f;rcases I.look y with⟨l1,_⟩|⟨u,v,l1,o,i⟩
   .rw [l1]at b;cases b
   .rw [l1]at b;cases b
    exact⟨a,C,dx,fs,v,rfl,L,J4,G,by rw[<-t];exact o,post.Y5 l d i⟩
  .cases b
def va{o:Expr}{i:List Nat}{d:Pos}(I:PE X o (tE X.K W (r.ev o')))(N:PE X e (tE X.K W (r.ev e')))(f:swapsWith e (some (.Attribute o m d)) pos.line X.env=pure false)(L:j<Bn)(J:Aq j=m)(O:CY X.K m i):PS X (.Assign [.Attribute o m d] e pos) (Zk X.K W (Jr r (.fset o' j i e'))):=by
 refine(zA I N f).imp ?_;rintro D Y H ⟨B,ρ,g,f,M,p⟩;refine⟨B,ρ,g,f,M,(Jx.bind (R:=RV X.K) p).mono λy H1 ⟨S,u,g1,s1,h1,E,G⟩=>?_⟩;refine⟨B,S,g1,f.step s1,h1,(Jx.bind (R:=RV X.K) G).mono λx H2 ⟨q,w,g2,s2,h2,F,p2⟩=>?_⟩;have h:=RV.step s2 _ _ E;cases b:Bw w j i u g2 with
 |none=>rw[b]at p2;exact p2.elim
 |some g'=>
  rw[b]at p2;unfold Bw at b;split at b
  .split at b
   .rename_i n c fs P
    split at b
    .rename_i s
     cases b;let⟨a,C,dx,fs',l,k,A,v⟩:=h2.ins P;let⟨a',rfl,z⟩:=F;rw[l]at z;cases z;let⟨C',t,J4,Q⟩:=O c s.1;rw[A]at t;cases t;refine⟨a,C,dx,fs',rfl,k,J4,Q,by rw[<-v.length];exact s.2,?_⟩
     have st:ZI X.K q H2 q (upd H2 a (.ins C dx (AG m y fs'))):=ZI.X2 l k trivial;refine p2 Y q _ st (h2.X2 l k trivial ⟨C,dx,_,rfl,A,?_⟩) (((f.step s1).step s2).step st);rw[<-J];exact v.put L h
    .cases b
   .cases b
  .cases b
end
def wX(d:es.any isStar=false)(c:kwOk kws=true)(e:es.length+kws.length+1<30):methodCallForm (es.length+kws.length) (backTo pos (starEach es env)) (backToKw pos (keywordEach kws env))=true:=by
 unfold methodCallForm;let⟨a,_,_⟩:=cI (pos:=pos) (env:=env) c;have h1:(backTo pos (starEach es env)).all (!·.1)=true:=by
  have:=bz (env:=env) (pos:=pos) d;rw[List.any_eq_false]at this;rw[YN];intro x b;simpa using this x b
 rw[h1,a,Pa,Pa,XM];split<;>lia
def rC{o:Expr}{m:Str}{ap cp:Pos}(hb:∀w,attributeBase o m env w=w)(ZD:es.any isStar=false)(Za:kwOk kws=true)(hn:es.length+kws.length+1<30)(YF:(ap.endLine==cp.line)=true):
  eval (.Call (.Attribute o m ap) es kws cp) env=(do
   let ov<-eval o env
   standAt ap.atName
   let(f,first)<-holding [ov] (getMethod ov m (do return (<- importBound o env).getD true))
   callWith cp f first (backTo cp (starEach es env)) (backToKw cp (keywordEach kws env))):=by
 have hf:=wX (env:=env) (pos:=cp) ZD Za hn;show (do
  let ov<-attributeBase o m env (eval o env)
  standAt ap.atName
  methodCall o m ap cp env ov (es.length+kws.length) (backTo cp (starEach es env)) (backToKw cp (keywordEach kws env)))=_
 rw[hb];unfold methodCall calleeOf methodCallPos;rw[hf];simp![V6,YF,Bool.or_true,pure_bind]
def base_of{o:Expr}{m:Str}(h:Cs o=false)(w:Sem Value):attributeBase o m env w=w:=by
 cases o<;>first|rfl|cases h
open PySem PySem.Spec PyProof.Rows L2
structure Zm(T:Tab)(J:List Fn)(d:Nat)(X:Cx)(sc:Scope)(N:List Str):Prop where
 hF:∀(i:Nat) (x:Str),T.J[i]?=some x->(x==("__debug__" : Str))=false ->∃f fd ps,X.mg x=some (.ref f)/\PySem.W.keepIn X.K (.ref f)=true/\Binds X.K fd ps []/\YQ X.prog X.w X.K X.mg X.base Xz (2*d+2) f fd ps (WL X.K J d i ps.length) /\∀F,J[i]?=some F->F.np=ps.length
 cs:∀x u,T.cs.lookup x=some u ->∃v val,X.mg x=some val/\RelV v val /\∀ρ H,RV X.K ρ H u v
 bt:∀x∈T.bt,X.mg x=none
 hK:∀(y:Str) (i:Nat) (F:KF) (nd:Nat),T.kf.lookup y=some (i,F,nd) ->∃f fd Zs dd,X.mg y=some (.ref f)/\PySem.W.keepIn X.K (.ref f)=true/\Xs X.K fd F nd Zs dd/\F.ns++F.ks≠[]/\YQ X.prog X.w X.K X.mg X.base Xz (2*d+2) f fd (F.ns++F.ks) (WL X.K J d i (F.ns++F.ks).length) /\∀F',J[i]?=some F'->F'.np=(F.ns++F.ks).length
 hC:∀(y:Str) (c i:Nat) (F:KF) (nd:Nat),T.cl.lookup y=some (c,i,F,nd) ->∃C f fd Zs dd,X.mg y=some (.ref C)/\Mk X.K C f/\PySem.W.nsIn X.K mainGlobals (Aq c)=some (some (.ref C))/\Xs X.K fd F nd Zs dd/\F.ns++F.ks≠[]/\YQ X.prog X.w X.K X.mg X.base Xz (2*d+2) f fd (F.ns++F.ks) (WL X.K J d i (F.ns++F.ks).length) /\∀F',J[i]?=some F'->F'.np=(F.ns++F.ks).length
 hT:∀(m:Str) (l:List (Nat×Nat×KF×Nat)),T.mt.lookup m=some l ->∀c i F nd,(c,i,F,nd)∈l ->∃C f fd Zs dd,PySem.W.nsIn X.K mainGlobals (Aq c)=some (some (.ref C))/\Yh X.K C/\UM X.K C m f/\Xs X.K fd F nd Zs dd/\F.ns++F.ks≠[]/\YQ X.prog X.w X.K X.mg X.base Xz (2*d+2) f fd (F.ns++F.ks) (WL X.K J d i (F.ns++F.ks).length) /\∀F',J[i]?=some F'->F'.np=(F.ns++F.ks).length
 hA:(∀(f:Str) (cs:List Nat),T.fl.lookup f=some cs->CY X.K f cs) /\∀p∈T.ow,∃C,X.mg p.1=some (.ref C)/\PySem.W.nsIn X.K mainGlobals (Aq p.2)=some (some (.ref C))/\Yh X.K C/\S9 X.K C
 room:Zc (2*d+3) X.A
 hN:X.N=N
 W6:X.env.scope=sc
 nd:N.Nodup
 calm:X.calm=true
 xe:X.xe=λ_ _=>False
def Fu:Expr->Bool
 |.BoolOp ..=>true
 |_=>false
def Good(X:Cx)(C:Nat->List U->G->Out U)(e:Expr)(a:E):Prop:=
 (∀n,PE X e (tE X.K W0 ((Jw C n).ev a)))/\(∀n,PT X e (tT X.K W0 ((Jw C n).ts a)))/\(Fu e=true ->∀n,PW X e (tT X.K W0 ((Jw C n).ts a)))
section
variable{T:Tab}{J:List Fn}{fu:Nat}{sc:Scope}
def qN{r:α}{P:Prop}(h:(none:Option α)=some r):P:=by cases h
def qB{o:Option α}{f:α->Option β}{r:β}{P:Prop}(h:o.bind f=some r)(k:∀a,o=some a->f a=some r->P):P:=by
 cases o with
 |none=>cases h
 |some a=>exact k a rfl h
def qM{o:Option α}{f:α->β}{r:β}{P:Prop}(h:o.map f=some r)(k:∀a,o=some a->f a=r->P):P:=by
 cases o with
 |none=>cases h
 |some a=>exact k a rfl (WQ h)
def qI{c:Bool}{x:Option α}{r:α}{P:Prop}(h:Hg c x=some r)(k:c=true->x=some r->P):P:=by
 cases c with
 |false=>cases h
 |true=>exact k rfl h
def qE{c:Prop}[Decidable c]{x y:Option α}{r:α}{P:Prop}(h:(if c then x else y)=some r)(d:c->x=some r->P)(b:y=some r->P):P:=by
 by_cases a:c
 .rw [Yn a]at h;exact d a h
 .rw [Yb a]at h;exact b h
def bB{l:List α}(h:Bp l=true):l=[]:=by
 cases l with
 |nil=>rfl
 |cons _ _=>cases h
def gx{k:E->E}{r:E}{P:Prop}(h:CP ce k es=some r)(K:∀a a',es=[a]->ce a=some a'->k a'=r->P):P:=by
 cases es with
 |nil=>cases h
 |cons a es=>cases es with
  |nil=>exact qM h λa' h1 h2=>K a a' rfl h1 h2
  |cons _ _=>cases h
def vz{k:E->E->E}{r:E}{P:Prop}(h:Ee ce k es=some r)(K:∀a b a' b',es=[a,b]->ce a=some a'->ce b=some b'->k a' b'=r->P):P:=by
 cases es with
 |nil=>cases h
 |cons a es=>cases es with
  |nil=>cases h
  |cons b es=>cases es with
   |nil=>exact qB h λa' h1 h=>qM h λb' h2 c=>K a b a' b' rfl h1 h2 c
   |cons _ _=>cases h
def aH(h:(!b)=true):b=false:=by cases b with
 |false=>rfl
 |true=>cases h
def Good.plain(pe:∀n,PE X e (tE X.K W0 (Jo C (Jw C n) e')))(he:∀whole,isTrue e X.env whole=(do let v<-whole;standAt e.pos;holding [v] (truthy v)))
  (VB:∀r Y g,Jp r e' Y g=(r.ev e' Y g).bind λx g=>lift (Jc x g) g) (hb:Fu e=false):Good X C e e':=by
 have pe':∀n,PE X e (tE X.K W0 ((Jw C n).ev e')):=λn=>by
  cases n with
  |zero=>exact PE.ZV λ_ _=>rfl
  |succ n=>exact pe n
 refine⟨pe',λn=>?_,λh=>?_⟩
 .cases n with
  |zero=>exact PT.ZV λ_ _=>rfl
  |succ n=>
   have:((Jw C (n+1)).ts e')=λY g=>((Jw C n).ev e' Y g).bind λx g=>lift (Jc x g) g:=by funext Y g;exact VB _ _ _
   rw[this];exact sN (pe' n) he
 .rw [hb]at h;cases h
def a8{f:Expr->Option E}(d:∀e e',f e=some e'->Good X C e e'):∀{es:List Expr} {es':List E},es.any isStar=false->Ab (es.map f)=some es' ->∀n,PA X es (X8 X.K W0 (Ji (Jw C n).ev es'))
 |[],_,_,h=>λn=>by cases h;exact nj
 |a::es,es',hs,h=>λn=>by
  rw[Ub,Uo]at hs;rw[Y2]at h;cases c:f a with
  |none=>rw[c]at h;cases h
  |some a'=>
   rw[c]at h;simp![Ab]at h;cases b:Ab (es.map f)with
   |none=>rw[b]at h;cases h
   |some r'=>
    rw[b]at h;cases h;exact lL ((d a a' c).1 n) (a8 d hs.2 b n) (aq hs.1 _)
def eT{f:Expr->Option E}(i:∀e e',f e=some e'->Good X C e e'):∀{kws:List Keyword} {Yx:List E},Ab (kws.map λk=>f k.value)=some Yx ->∀n,PK X kws (X8 X.K W0 (Ji (Jw C n).ev Yx))
 |[],_,h=>λn=>by cases h;exact aai.imp λY H Q ⟨j,ρ,g,hs,b,p⟩=>post.Y5 (R:=RVs X.K) (u:=[]) p b rfl
 |⟨nm,a,kp⟩::kws,Yx,h=>λn=>by
  rw[Y2]at h;cases d:f a with
  |none=>rw[d]at h;cases h
  |some a'=>
   rw[d]at h;simp![Ab]at h;cases c:Ab (kws.map λk=>f k.value)with
   |none=>rw[c]at h;cases h
   |some r'=>
    rw[c]at h;cases h;refine(wZ ((i a a' d).1 n) (eT i c n)).imp λY H Q o=>one o λj ρ H g u x hs b l p=>?_;refine⟨j,ρ,g,hs,b,(post.bind p).mono λxs H1 ⟨q,S,g1,s1,h1,rs,m⟩=>?_⟩;exact post.Y5 (R:=RVs X.K) m h1 ⟨x,xs,rfl,RV.step s1 _ _ l,rs⟩
def xE{o:Operator}{o':Op}(h:Eo o=some o'):(o'=.add/\o = .Add)\/(o'=.sub/\o = .Sub)\/(o'=.mul/\o = .Mult)\/(o'=.fdiv/\o = .FloorDiv)\/(o'=.mod/\o = .Mod)\/(o'=.pow/\o = .Pow):=by
 cases o<;>simp![Eo,reduceCtorEq,Xc]at h<;>subst h<;>simp
def Zm.TH(a:Zm T J d X sc N):Zc (2*d+2) X.A:=⟨a.room.hd,by have:=a.room.dp;lia,by have:=a.room.un;lia,a.room.gd⟩
def Zm.units(a:Zm T J d X sc N):X.A.units+2<cLine:=by have:=a.room.units;lia
def bS(a:Zm T J d X sc N){o:CmpOp}{o':Cp}(h:CW o=some o'):Bx X o' o:=by
 refine ac4 a.units o' o ?_;cases o<;>simp![CW,reduceCtorEq,Xc]at h<;>subst h<;>simp
def kT{b:Expr}{o:CmpOp}(h:Df b=false):behindInMarks o b=false:=by
 cases b<;>first|rfl|cases h
def Zm.gl(a:Zm T J d X sc N)(h:sc.names.lookup x=some .globalImplicit):Gl X x:=by
 show X.env.scope.names.lookup x=_;rw[a.W6];exact h
def gq(h:CT x=true):(x==("__debug__" : Str))=false/\(x==("__classdict__" : Str))=false/\x ≠ "__name__":=by
 unfold CT at h;simp![Z1,W3]at h;exact⟨h.1.1,h.1.2,λe=>by have:=h.2;rw[e]at this;simp at this⟩
def qc{b:Expr}(h:Cq b=false):DD b:=by
 cases b<;>first|exactλ_ _=>rfl|cases h
section
variable{a:Expr}{a':E}{p:Pos}
def abD{b:Bi}{f:Str}(c:Hj f=some b)(o:X.calm=true)(u:X.A.units+64<cLine)(t:X.A.guards=some [])(g:Gl X f)(d:X.mg f=none)(j:PA X (a::es) (X8 X.K W0 (Ji r.ev es')))(k:(a::es).any isStar=false):
  PE X (.Call (.Name f p) (a::es) [] pos) (tE X.K W0 (Jo C r (.bi b es'))):=by
 rw[Ub,Uo]at k;have h1:=aq (env:=X.env) k.1 es;have h2:=bz (env:=X.env) (pos:=pos) k.2;unfold Hj at c;split at c
 .rename_i e;subst e;cases c;exact se_bi (pe_callB call_len_seq g d PySem.boot_len j #[1] #[1] h1 h2) imp_len
 split at c
 .rename_i e;subst e;cases c;exact se_bi (pe_callB call_abs g d #[2] j #[1] #[1] h1 h2) imp_abs
 split at c
 .rename_i e;subst e;cases c;exact se_bi (pe_callTy call_list_of g d #[2] j #[1] #[1] h1 h2) imp_list
 split at c
 .rename_i e;subst e;cases c;exact se_bi (pe_callB (call_mn o) g d PyProof.Rows.boot_min j #[1] #[1] h1 h2) (imp_mm λ_ _=>rfl)
 split at c
 .rename_i e;subst e;cases c;exact se_bi (pe_callB (call_mx o) g d PyProof.Rows.boot_max j #[1] #[1] h1 h2) (imp_mm λ_ _=>rfl)
 split at c
 .rename_i e;subst e;cases c;exact se_bi (pe_callB (call_srtX o (by lia)) g d #[2] j #[1] #[1] h1 h2) imp_srt
 cases c
end
def bJ{d c:Type}{f:d->Option c}:∀{l:List d} {r:List c},Ab (l.map f)=some r->r.length=l.length
 |[],_,h=>by cases h;rfl
 |a::l,r,h=>by
  rw[Y2]at h;cases e:f a with
  |none=>rw[e]at h;cases h
  |some b=>
   rw[e]at h;let⟨r',g,rfl⟩:=X7.mp h;simp[bJ g]
def ee{f:Str}(h:B3 f=true):Aq (Bt f)=f/\Bt f<Bn:=by
 unfold B3 at h;rw[Z1,XM,XM]at h;exact h
def j5(g:Zm T J d X sc N)(m:∀e j,ce e=some j->Good X (Aa J fu d) e j){f:Str}{j:E}(h:CF T sc ce f es kws=some j)(p pos:Pos):Good X (Aa J fu d) (.Call (.Name f p) es kws pos) j:=by
 refine qI h λx h=>qB h λes' w h=>qB h λYx l h=>?_;simp![Z1,W3,Ul]at x;let⟨⟨⟨G,k⟩,z⟩,y⟩:=x;let⟨h1,h2,H⟩:=gq G;have hl:=bJ w;cases a:T.kf.lookup f with
 |some q=>
  rw[a]at h;let⟨i,F,nd⟩:=q;refine qI h λb h=>?_;cases h;let⟨B,fd,Zs,dd,v,u,t,s,r,o⟩:=g.hK _ _ _ _ a;dsimp only at b ⊢;rw[<-hl]at b ⊢;exact .plain (λn=>rD r cW o t s b y hl (bJ l) g.TH (g.gl z) v u h1 (a8 m k w n) (eT m l n) k) (λ_=>rfl) (λ_ _ _=>rfl) rfl
 |none=>
  rw[a]at h;refine qB h λq D h=>qI h λb h=>?_;let⟨c,i,F,nd⟩:=q;cases h;let⟨C,B,fd,Zs,dd,v,u,t,s,r,o,A⟩:=g.hC _ _ _ _ _ D;dsimp only at b ⊢;rw[<-hl]at b ⊢;exact .plain (λn=>vV u t o cW A s r b y hl (bJ l) g.room (g.gl z) v h1 (a8 m k w n) (eT m l n) k) (λ_=>rfl) (λ_ _ _=>rfl) rfl
def iJ{i g:Type}{f:Nat×i->Nat×g}(j:∀e,(f e).1=e.1){c:Nat}{b:g}:∀{l:List (Nat×i)},(l.map f).lookup c=some b ->∃a,(c,a)∈l/\b=(f (c,a)).2
 |[],h=>by cases h
 |(d,a)::l,h=>by
  rw[Y2,show f (d,a)=((f (d,a)).1,(f (d,a)).2)from rfl,WW,j]at h;cases q:c==d with
  |true=>
   rw[q]at h;cases h;cases eq_of_beq q;exact⟨a,Wv,rfl⟩
  |false=>
   rw[q]at h;let⟨a',h1,h2⟩:=iJ j h;exact⟨a',G9 _ h1,h2⟩
def kL(q:Zm T J d X sc N)(x:∀e b,ce e=some b->Good X (Aa J fu d) e b){o:Expr}{t s:Pos}(Q:Cs o=false)(K:Good X (Aa J fu d) o o'){m:Str}{b:E}(h:DO T ce o' m t s es kws=some b):Good X (Aa J fu d) (.Call (.Attribute o m t) es kws s) b:=by
 refine qI h λr h=>qB h λes' y h=>qB h λYx w h=>qB h λl L h=>qI h λO h=>?_;simp![Z1,W3,XM]at r;let⟨⟨⟨⟨R,j⟩,u⟩,a⟩,P⟩:=r;let⟨h1,h2⟩:=ee R;cases h;have p:=bJ y;refine .plain (λn=>w6 (CX:=Xz) (Wf:=λ_=>W0) (E0:=λ_ _ _=>False) (k:=2*d+2) (K.1 n) h2 h1 cW (λc i pm g=>?_) u p (bJ w) q.TH (a8 x j y n) (eT x w n) j (rC (base_of Q) j u a P)) (λ_=>rfl) (λ_ _ _=>rfl) rfl;let⟨⟨S,F,nd⟩,v,M⟩:=iJ (f:=λe:Nat×Nat×KF×Nat=>(e.1,e.2.1,BM e.2.2.1 (es.length+1) (Ax kws))) (λ_=>rfl) g;cases M;let⟨C,f,fd,Zs,dd,I,H,G,D,B,A,z⟩:=q.hT _ _ L _ _ _ _ v;refine⟨C,f,fd,F,nd,Zs,dd,I,H,G,D,B,?_,by rw[p],A,z⟩
 rw[p];exact YN.mp O _ v
def da{a:Expr}(h:[a].any isStar=false):isStar a=false:=by simpa using h
def fY(h:BW b sc x=true):L2.Loc sc x/\(b=false->sc.names.lookup x=some .local):=by
 unfold BW at h;simp![UC,Z1,Ul]at h;rcases h with h|⟨h1,h2⟩
 .exact ⟨.inl h,λ_=>h⟩
 .exact ⟨.inr h2,λe=>by rw[e]at h1;cases h1⟩
def dE(h:BX b sc N x=some i):N[i]?=some x/\BW b sc x=true:=by
 unfold BX at h;split at h
 .rename_i a;exact⟨ixOf_get h,a⟩
 .cases h
def uG(h:BX b sc N x=some i):N[i]?=some x/\L2.Loc sc x/\(b=false->sc.names.lookup x=some .local):=⟨(dE h).1,fY (dE h).2⟩
def Zm.Sy(a:Zm T J d X sc N)(h:L2.Loc sc x):L2.Loc X.env.scope x:=by rw[a.W6];exact h
def Zm.fnX(a:Zm T J d X sc N)(c:b=true ->∀x,X.fn x=true){x:Str}(h:b=false->sc.names.lookup x=some .local):X.fn x=true\/X.env.scope.names.lookup x=some .local:=by
 rw[a.W6];cases b with
 |true=>exact .inl (c rfl x)
 |false=>exact .inr (h rfl)
def Zm.Uc(a:Zm T J d X sc N):X.N.Nodup:=by rw[a.hN];exact a.nd
def Zm.own(a:Zm T J d X sc N):PassesOwn (model X.prog X.w) X.A X.env X.xe:=by rw[a.xe];exact PassesOwn.never
def je(f:Zm T J d X sc N){c:Scope}(g:∀x,BW b c x=true->L2.Loc X.env.scope x/\(X.fn x=true\/X.env.scope.names.lookup x=some .local)){t:Tg}(h:Bm b c N tg=some t):PG X tg (tG X.K t):=by
 unfold Bm at h;split at h
 .cases e:BX b c N ‹Str› with
  |none=>rw[e]at h;cases h
  |some i=>
   rw[e]at h;cases h;let⟨h1,h2⟩:=dE e;exact adu f.Uc (by rw[f.hN];exact h1) (g _ h2).1 (g _ h2).2
 .rename_i ts k p
  cases e:Ab (ts.map (B7 b c N))with
  |none=>rw[e]at h;cases h
  |some is=>
   rw[e]at h;cases h;have all:∀(ts:List Expr) (is:List Nat),Ab (ts.map (B7 b c N))=some is->PGs X ts (Uj X.K is)/\(assignEach ts X.env).length=is.length/\(assignEach ts X.env).findIdx? (·.1)=none:=λts=>by
    induction ts with
    |nil=>intro is e;cases e;exact⟨sgs_nil,rfl,rfl⟩
    |cons a ts ih=>
     intro is e;rw[Y2]at e;cases j:B7 b c N a with
     |none=>rw[j]at e;cases e
     |some i=>
      rw[j]at e;simp![Ab]at e;cases o:Ab (ts.map (B7 b c N))with
      |none=>rw[o]at e;cases e
      |some n=>
       rw[o]at e;cases e;let⟨m,p2,l⟩:=ih n o;cases a<;>simp![B7,reduceCtorEq]at j
       let⟨h1,h2⟩:=dE j;refine⟨sC f.Uc (by rw[f.hN];exact h1) (g _ h2).1 (g _ h2).2 m,?_,?_⟩
       .show (assignEach ts X.env).length+1=_
        rw[p2];rfl
       .show List.findIdx? (·.1) ((false,_)::assignEach ts X.env)=none
        rw[List.findIdx?_cons];simp[l]
   let⟨m,p2,l⟩:=all ts is e;exact adD f.calm m p2 l
 .cases h
def dG(a:Zm T J d X sc N)(c:b=true ->∀x,X.fn x=true){t:Tg}(h:Bm b sc N tg=some t):PG X tg (tG X.K t):=je a (λ_ z=>⟨a.Sy (fY z).1,a.fnX c (fY z).2⟩) h
def xi{a:Shared}{c:Hp}{b:List Str}(h:BW true scope x=true):L2.Loc (Af X O scope a c fp b).env.scope x/\((Af X O scope a c fp b).fn x=true\/(Af X O scope a c fp b).env.scope.names.lookup x=some .local):=by
 have e:(Af X O scope a c fp b).env.scope.names.lookup x=_:=dh;simp![BW,UC,Pa,Ul]at h;rcases h with h|h
 .rw [h]at e;exact⟨.inl e,.inr e⟩
 .rw [h]at e;exact⟨.inr e,.inl (Ul.mpr h)⟩
def w4(h:De e'=true):Jl r e'=(λY g=>(r.ev e' Y g).bind λu g=>match u with
  |.ZW xs=>Out.ok (Iter.seq xs) g
  |.xn _ xs=>Out.ok (Iter.seq xs) g
  |.ref n=>match g[n]? with
   |some (.Z5 _)=>.ok (.Z5 n) g
   |some (.ZF Z4)=>.ok (.ZF n) (g.set n (.Zq Z4))
   |some (.Zq _)=>.ok (.ZF n) g
   |_=>.ZV
  |_=>.ZV):=by
 cases e'<;>first|rfl|cases h
def uw(k:Zm T J d X sc N){f:Expr->Option E}(j:∀e e',f e=some e'->Good X (Aa J fu d) e e'){it:Expr}(h:DH T sc f it=some Zt):(∀n,PI X tg it (tI X.K W0 (Jl (Jw (Aa J fu d) n) Zt))) /\∀x,foldedSetIterable it X.env x=pure x:=by
 have val:Hi f it=some Zt->(∀n,PI X tg it (tI X.K W0 (Jl (Jw (Aa J fu d) n) Zt))) /\∀x,foldedSetIterable it X.env x=pure x:=λh=>qI h λhs h=>qB h λe' r h=>qI h λo h=>by
  cases h;have hs:=aH hs;exact⟨λn=>by rw[w4 o];exact abp ((j it Zt r).1 n),λx=>by cases it<;>first|rfl|cases hs⟩
 unfold DH at h;cases g:C8 it with
 |none=>rw[g]at h;exact val h
 |some c=>
  rw[g]at h;refine qE h (λl h=>?_) val;let⟨p,q,rfl⟩:=jA g;let⟨n,es⟩:=c;have l:n = "range":=l;subst l;refine qI h λg h=>?_;simp![Z1,W3,Ul]at g;let⟨⟨h1,h2⟩,i⟩:=g;have hm:=k.bt _ (Rq.mp h1);cases es with
  |nil=>cases h
  |cons a es=>
   cases es with
   |nil=>
    refine qM h λa' m e=>?_;subst e;exact⟨λn=>vW (k.gl h2) hm ((j _ _ m).1 n) (aq (da i)),λx=>rfl⟩
   |cons b es=>
    refine vz (show Ee f .Xm (a::b::es)=some Zt from h) λa b a' b' t m s e=>?_;cases t;subst e;rw[Ub,Uo]at i;exact⟨λn=>uR (k.gl h2) hm ((j _ _ m).1 n) ((j _ _ s).1 n) (aq i.1) (aq (da i.2)),λx=>rfl⟩
def bL(a:Zm T J d X sc N){f:Expr->Option E}(b:∀e e',f e=some e'->Good X (Aa J fu d) e e'){it:Expr}(h:C5 T sc f tg it=some Zt):(∀n,PI X tg it (tI X.K W0 (Jl (Jw (Aa J fu d) n) Zt))) /\∀x,foldedSetIterable it X.env x=pure x:=by
 exact uw a b h
def qr(h:env.scope=sc):relabel scope env=Bl scope sc:=by subst h;rfl
def Zm.comp(a:Zm T J d X sc N){b c:List Str}(f:(b++c).Nodup)(O:List (Addr×Obj))(e:Shared)(h:Hp)(g:List Addr):Zm T J d (Af X O scope e h g (b++c)) (Bl scope sc) (b++c):=
 ⟨a.hF,a.cs,a.bt,a.hK,a.hC,a.hT,a.hA,a.room,rfl,qr a.W6,f,a.calm,rfl⟩
def gF{f:Expr->Option E}(d:∀e e',f e=some e'->Good X C e e'):∀{es:List Expr} {es':List E},Ab (es.map f)=some es' ->∀n,PTs X es (Az (Jw C n).ts es')
 |[],_,h=>λn=>by cases h;exact wH
 |a::es,es',h=>λn=>by
  rw[Y2]at h;cases c:f a with
  |none=>rw[c]at h;cases h
  |some a'=>
   rw[c]at h;simp![Ab]at h;cases b:Ab (es.map f)with
   |none=>rw[b]at h;cases h
   |some r'=>
    rw[b]at h;cases h;exact tX ((d a a' c).2.1 n) (gF d b n)
def kR(c:Zm T J d X sc N){f:Expr->Option E}(i:∀e e',f e=some e'->Good X (Aa J fu d) e e'):∀{gs:List Comprehension} {a:List (Tg×E×List E)},DI T sc N f gs=some a->Bv X (Aa J fu d) gs a
 |[],_,h=>by cases h;trivial
 |g::gs,a,h=>qI h λl h=>qB h λt j h=>qB h λit b h=>qB h λcs m h=>qM h λr' k e=>by
  subst e;exact⟨eq_of_beq l,dG c (λe=>by cases e) j,gF i m,(bL c i b).1,(bL c i b).2,kR c i k⟩
def si(o:Zm T J d X sc N){a:List Str}(h:DA scope sc a (freeOf scope)=true)(q:Ab ((freeOf scope).map (AS N))=some Zr):Wq X scope a (freeOf scope) Zr:=by
 unfold DA at h;simp![Z1,Ul,YN,UC,bne_iff_ne,XM]at h;let⟨⟨⟨⟨⟨⟨h1,h2⟩,w⟩,v⟩,u⟩,t⟩,s⟩:=h;refine⟨h1,λx b c=>(h2 x b).resolve_left λz=>z c,λx b c=>(w x b).resolve_left λz=>z c,λx b c=>?_,u,t,s,?_⟩
 .show X.env.scope.names.lookup x.1=_
  rw[o.W6];exact(v x b).resolve_left λz=>z c
 .have all:∀(l:List Str) (r:List Nat),Ab (l.map (AS N))=some r->r.length=l.length /\∀(j:Nat) (x:Str) (i:Nat),l[j]?=some x->r[j]?=some i->N[i]?=some x:=λl=>by
   induction l with
   |nil=>intro r e;cases e;exact⟨rfl,λj x i e=>by simp at e⟩
   |cons y l ih=>
    intro r e;rw[Y2]at e;cases g:AS N y with
    |none=>rw[g]at e;cases e
    |some k=>
     rw[g]at e;simp![Ab]at e;cases f:Ab (l.map (AS N))with
     |none=>rw[f]at e;cases e
     |some r'=>
      rw[f]at e;cases e;let⟨p,p2⟩:=ih r' f;refine⟨by simp[p],λj x i n m=>?_⟩
      cases j with
      |zero=>simp at n m;subst n;subst m;exact ixOf_get g
      |succ j=>exact p2 j x i (by simpa using n) (by simpa using m)
  rw[o.hN];exact all _ _ q
def tO(a:Zm T J d X sc N)(h:FH T sc N x=some e'):Good X (Aa J fu d) (.Name x pos) e':=by
 refine qI h λg h=>qB h λk hk h=>?_;let⟨h1,h2,o⟩:=gq g;have L:(k=.local\/k=.cell\/k=.free)->(AS N x).map E.L=some e'->Good X (Aa J fu d) (.Name x pos) e':=λm h=>qM h λi j e=>by
  subst e;refine .plain (λn=>aad (by rw[a.hN];exact ixOf_get j) ?_ h1 h2) (λ_=>rfl) (λ_ _ _=>rfl) rfl
  show X.env.scope.names.lookup x=_\/_;rw[a.W6];rcases m with rfl|rfl|rfl
  .exact .inl hk
  .exact .inr (.inl hk)
  .exact .inr (.inr hk)
 cases k with
 |«local»=>exact L (.inl rfl) h
 |cell=>exact L (.inr (.inl rfl)) h
 |free=>exact L (.inr (.inr rfl)) h
 |globalImplicit=>
  refine qM h λu l e=>?_;subst e;let⟨v,val,f,c,b⟩:=a.cs x u l;exact .plain (λn=>cP (xq (a.gl hk) f c h1) b) (λ_=>rfl) (λ_ _ _=>rfl) rfl
 |globalExplicit=>exact qN h
def uN{v:Const}{k:Nat}(h:Gr v=some e'):Good X C (.Constant v k pos) e':=by
 cases v with
 |int i=>cases h;exact .plain (λn=>cP m8 λ_ _=>rfl) (λ_=>rfl) (λ_ _ _=>rfl) rfl
 |bool b=>cases h;exact .plain (λn=>cP acb λ_ _=>rfl) (λ_=>rfl) (λ_ _ _=>rfl) rfl
 |none=>cases h;exact .plain (λn=>cP zO λ_ _=>rfl) (λ_=>rfl) (λ_ _ _=>rfl) rfl
 |str s=>cases h;exact .plain (λn=>cP yh λ_ _=>rfl) (λ_=>rfl) (λ_ _ _=>rfl) rfl
 |_=>exact qN h
section
variable(ok:Zm T J d X sc N)(ih:∀e e',ce e=some e'->Good X (Aa J fu d) e e')
include ok in
def tF(c:∀e e',ce e=some e'->Good X (Aa J fu d) e e'){a b:Expr}{o:CmpOp}(h:FT ce a o b=some e'):Good X (Aa J fu d) (.Compare a [o] [b] pos) e':=by
 refine qI h λi h=>qB h λo' ho h=>qB h λa' g h=>qM h λb' f e=>?_;subst e;have hm:=kT (o:=o) (aH i);refine⟨λn=>?_,λn=>?_,λh=>by cases h⟩
 .cases n with
  |zero=>exact PE.ZV λ_ _=>rfl
  |succ n=>exact yz (C:=Aa J fu d) (bS ok ho) hm ((c _ _ g).1 n) ((c _ _ f).1 n)
 .cases n with
  |zero=>exact PT.ZV λ_ _=>rfl
  |succ n=>
   cases n with
   |zero=>exact PT.ZV λ_ _=>rfl
   |succ n=>exact aaL (C:=Aa J fu d) (bS ok ho) hm ((c _ _ g).1 n) ((c _ _ f).1 n)
include ok in
def sI(f:∀e e',ce e=some e'->Good X (Aa J fu d) e e'){a b c:Expr}{o q:CmpOp}(h:FN ce a o q b c=some e'):Good X (Aa J fu d) (.Compare a [o,q] [b,c] pos) e':=by
 refine qI h λl h=>qB h λo' ho h=>qB h λm g h=>qB h λa' k h=>qB h λb' j h=>qM h λc' i e=>?_;subst e;have hm:=kT (o:=q) (aH l);refine⟨λn=>?_,λn=>?_,λh=>by cases h⟩
 .cases n with
  |zero=>exact PE.ZV λ_ _=>rfl
  |succ n=>exact tz (C:=Aa J fu d) (bS ok ho) (bS ok g) hm ((f _ _ k).1 n) ((f _ _ j).1 n) ((f _ _ i).1 n)
 .cases n with
  |zero=>exact PT.ZV λ_ _=>rfl
  |succ n=>
   cases n with
   |zero=>exact PT.ZV λ_ _=>rfl
   |succ n=>exact sH (C:=Aa J fu d) (bS ok ho) (bS ok g) hm ((f _ _ k).1 n) ((f _ _ j).1 n) ((f _ _ i).1 n)
include ok in
def vP(j:∀e e',ce e=some e'->Good X (Aa J fu d) e e'){a:Expr}{f:List CmpOp}{g:List Expr}(h:F6 ce a f g=some e'):Good X (Aa J fu d) (.Compare a f g pos) e':=by
 cases f with
 |nil=>exact qN h
 |cons o f=>cases g with
  |nil=>exact qN h
  |cons b g=>cases f with
   |nil=>
    refine qI h λi h2=>?_;cases bB i;exact tF ok j h2
   |cons q f=>cases g with
    |nil=>exact qN h
    |cons c g=>
     refine qI h λi h2=>?_;rw[Z1]at i;cases bB i.1;cases bB i.2;exact sI ok j h2
def vY(c:∀e e',ce e=some e'->Good X (Aa J fu d) e e'){o:BoolOp}(h:Hl ce o es pos=some e'):Good X (Aa J fu d) (.BoolOp o es pos) e':=by
 cases es with
 |nil=>exact qN h
 |cons a es=>cases es with
  |nil=>
   let⟨k,g2,l⟩:=c _ _ h;have f:∀n,PW X (.BoolOp o [a] pos) (tT X.K W0 ((Jw (Aa J fu d) n).ts e')):=λn=>by
    cases o with
    |And=>exact vi (g2 n)
    |Or=>exact aaC (g2 n)
   exact⟨λn=>zk (k n),λn=>(f n).pt,λ_ n=>f n⟩
  |cons b ZQ=>cases o with
   |And=>
    refine qB h λa' i h=>qM h λb' g e=>?_;subst e;have f:∀n,PW X (.BoolOp .And (a::b::ZQ) pos) (tT X.K W0 ((Jw (Aa J fu d) n).ts (.and a' b'))):=λn=>by
     cases n with
     |zero=>exactλj O s Y H Q I ⟨_,_,_,_,_,p⟩=>p.elim
     |succ n=>exact yC ((c _ _ i).2.1 n) ((c _ _ g).2.2 rfl n)
    refine⟨λn=>?_,λn=>(f n).pt,λ_ n=>f n⟩;cases n with
    |zero=>exact PE.ZV λ_ _=>rfl
    |succ n=>exact abz (C:=Aa J fu d) ((c _ _ i).1 n) ((c _ _ g).1 n)
   |Or=>
    refine qB h λa' i h=>qM h λb' g e=>?_;subst e;have f:∀n,PW X (.BoolOp .Or (a::b::ZQ) pos) (tT X.K W0 ((Jw (Aa J fu d) n).ts (.or a' b'))):=λn=>by
     cases n with
     |zero=>exactλj O s Y H Q I ⟨_,_,_,_,_,p⟩=>p.elim
     |succ n=>exact acg ((c _ _ i).2.1 n) ((c _ _ g).2.2 rfl n)
    refine⟨λn=>?_,λn=>(f n).pt,λ_ n=>f n⟩;cases n with
    |zero=>exact PE.ZV λ_ _=>rfl
    |succ n=>exact acO (C:=Aa J fu d) ((c _ _ i).1 n) ((c _ _ g).1 n)
def yO(b:∀e e',ce e=some e'->Good X (Aa J fu d) e e'){o:UnaryOp}{a:Expr}(h:Hm ce o a=some e'):Good X (Aa J fu d) (.UnaryOp o a pos) e':=by
 cases o with
 |Not=>
  refine qM h λa' c e=>?_;subst e;refine⟨λn=>?_,λn=>?_,λh=>by cases h⟩
  .cases n with
   |zero=>exact PE.ZV λ_ _=>rfl
   |succ n=>exact yr (C:=Aa J fu d) ((b _ _ c).1 n)
  .cases n with
   |zero=>exact PT.ZV λ_ _=>rfl
   |succ n=>exact yP ((b _ _ c).2.1 n)
 |_=>exact qN h
def vX(h:Ga e=true):∃k p q,e = .UnaryOp .USub (.Constant (.int 1) k p) q:=by
 cases e with
 |UnaryOp o a q=>cases o with
  |USub=>cases a with
   |Constant v k p=>cases v with
    |int i=>cases eq_of_beq (show(i==1)=true from h);exact⟨k,p,q,rfl⟩
    |_=>cases h
   |_=>cases h
  |_=>cases h
 |_=>cases h
def l7{o:Option α}(h:Ey o=true):o=none:=by
 cases o with
 |none=>rfl
 |some _=>cases h
def lG(b:∀e e',ce e=some e'->Good X (Aa J fu d) e e'){lo:Option Expr}{a:Option E}(h:D8 ce lo=some a)(n:Nat):PO X lo (CH X.K W0 (Jj (Jw (Aa J fu d) n).ev a)):=by
 cases lo with
 |none=>cases h;exact vg
 |some l=>exact qM h λf c e=>by subst e;exact wB ((b _ _ c).1 n)
def vb(m:X.A.units+2<cLine)(c:∀e e',ce e=some e'->Good X (Aa J fu d) e e'){a s:Expr}(h:D6 ce a s=some e'):Good X (Aa J fu d) (.Subscript a s pos) e':=by
 unfold D6 at h;cases b:Cq s with
 |true=>
  rw[b]at h;cases s with
  |Slice lo hi st p=>cases st with
   |none=>
    refine qB h λa' f h=>qB h λl i h=>qM h λh' j e=>?_;subst e;exact .plain (λn=>zr ((c _ _ f).1 n) (lG c i n) (lG c j n)) (λ_=>rfl) (λ_ _ _=>rfl) rfl
   |some st=>
    refine qI h λg h=>qM h λa' f e=>?_;subst e;rw[Z1,Z1]at g;cases l7 g.1.1;cases l7 g.1.2;let⟨_,_,_,rfl⟩:=vX g.2;exact .plain (λn=>zo ((c _ _ f).1 n)) (λ_=>rfl) (λ_ _ _=>rfl) rfl
  |_=>exact qN h
 |false=>
  rw[b]at h;refine qB h λa' f h=>qM h λb' k e=>?_;subst e;exact .plain (λn=>yN () ((c _ _ f).1 n) ((c _ _ k).1 n) (qc b)) (λ_=>rfl) (λ_ _ _=>rfl) rfl
include ok in
def nk(i:∀e e',ce e=some e'->Good X (Aa J fu d) e e'){f:Str}{p:Pos}(m:sc.names.lookup f=some .globalImplicit)(j:X.mg f=none)(g:es.any isStar=false)(h:Hq ce f es=some e'):Good X (Aa J fu d) (.Call (.Name f p) es [] pos) e':=by
 refine qB h λb c h=>qI h λl h=>qM h λes' k e=>?_;subst e;cases es with
 |nil=>cases l
 |cons a es=>
  unfold FP at c;exact .plain (λn=>abD c ok.calm ok.room.units ok.room.gd (ok.gl m) j (a8 i g k n) g) (λ_=>rfl) (λ_ _ _=>rfl) rfl
include ok in
include ok in
def vj(c:∀e e',ce e=some e'->Good X (Aa J fu d) e e'){f:Str}{p:Pos}(j:sc.names.lookup f=some .globalImplicit)(i:X.mg f=none)(l:es.any isStar=false)(h:Dy T sc ce f es=some e'):Good X (Aa J fu d) (.Call (.Name f p) es [] pos) e':=by
 refine qE h (λm h=>?_) (nk ok c j i l);cases k:setArg es with
 |none=>rw[k]at h;exact nk ok c j i l h
 |some a=>
  rw[k]at h;refine qI h λb h=>qM h λa' o e=>?_;subst m;subst e;simp![Z1,Ul]at b;let⟨g,p2,q,rfl⟩:=qT k;exact .plain (λn=>wa ok.calm (by have:=ok.room.units;lia) (ok.gl j) i (ok.gl b.2) (ok.bt _ (Rq.mp b.1)) ((c _ _ o).1 n) (aq g _)) (λ_=>rfl) (λ_ _ _=>rfl) rfl
include ok in
def uZ(c:∀e e',ce e=some e'->Good X (Aa J fu d) e e'){f:Str}{p:Pos}(h:Hu T sc ce f es=some e'):Good X (Aa J fu d) (.Call (.Name f p) es [] pos) e':=by
 refine qI h λs h=>?_;simp![Z1,W3,Ul]at s;let⟨⟨u,g⟩,j⟩:=s;let⟨h1,h2,v⟩:=gq u;cases hi:AS T.J f with
 |some i=>
  rw[hi]at h;refine qM h λes' t e=>?_;subst e;let⟨w,fd,ps,r,q,o,m,l⟩:=ok.hF i f (ixOf_get hi) h1;refine .plain (λn=>?_) (λ_=>rfl) (λ_ _ _=>rfl) rfl;cases es with
  |nil=>cases t;exact uv m cW l ok.TH (ok.gl j) r q o h1
  |cons a es=>
   have k:=g;rw[Ub,Uo]at k;exact uL m cW l ok.TH (ok.gl j) r q o h1 (a8 c g t n) (aq k.1 _) (bz k.2)
 |none=>
  rw[hi]at h;cases b:T.bt.contains f with
  |true=>
   have h:(match T.bt.contains f with|true=>Dy T sc ce f es|false=>CF T sc ce f es [])=some e':=h
   rw[b]at h;exact vj ok c j (ok.bt f (Rq.mp b)) g h
  |false=>
   have h:(match T.bt.contains f with|true=>Dy T sc ce f es|false=>CF T sc ce f es [])=some e':=h
   rw[b]at h;exact j5 ok c h _ _
include ok in
def aah(k:∀e e',ce e=some e'->Good X (Aa J fu d) e e'){o:Expr}{m:Str}{r q:Pos}(j:Cs o=false)(c:Good X (Aa J fu d) o o')(p:(r.endLine==q.line)=true)(l:es.any isStar=false)(h:Hv T ce o' m r q es=some e'):Good X (Aa J fu d) (.Call (.Attribute o m r) es [] q) e':=by
 refine qE h (λf h=>?_) λh=>?_
 .subst f
  refine gx h λa a' i g e=>?_;subst i;subst e;exact .plain (λn=>yc (c.1 n) ((k _ _ g).1 n) (base_of j _) p (aq (da l))) (λ_=>rfl) (λ_ _ _=>rfl) rfl
 refine qE h (λf h=>?_) λh=>?_
 .subst f
  refine gx h λa a' i g e=>?_;subst i;subst e;exact .plain (λn=>abF (c.1 n) ((k _ _ g).1 n) (base_of j _) p (aq (da l))) (λ_=>rfl) (λ_ _ _=>rfl) rfl
 refine qE h (λf s=>?_) λh=>?_
 .subst f
  cases es with
  |nil=>
   cases s;exact .plain (λn=>xQ (c.1 n) (base_of j _) p) (λ_=>rfl) (λ_ _ _=>rfl) rfl
  |cons b es=>
   refine gx s λa a' i g e=>?_;rw[i]at l ⊢;subst e;exact .plain (λn=>vJ (c.1 n) ((k _ _ g).1 n) (base_of j _) p (aq (da l))) (λ_=>rfl) (λ_ _ _=>rfl) rfl
 exact kL ok k j c h
include ok in
def xA(a:∀e e',ce e=some e'->Good X (Aa J fu d) e e'){fn:Expr}(h:Hw T sc ce fn es kws pos=some e'):Good X (Aa J fu d) (.Call fn es kws pos) e':=by
 cases fn with
 |Name f p=>cases kws with
  |nil=>exact uZ ok a h
  |cons k kws=>exact j5 ok a h _ _
 |Attribute o m ap=>
  refine qI h λb h=>qB h λo' ho h=>?_;have b:=aH b;cases kws with
  |nil=>
   refine qI h λc h=>?_;rw[Z1]at c;exact aah ok a b (a _ _ ho) c.1 (aH c.2) h
  |cons k kws=>exact kL ok a b (a _ _ ho) h
 |_=>exact qN h
def wu(f:∀e e',ce e=some e'->Good X (Aa J fu d) e e'){a:List (Option Expr)}{vs:List Expr}(h:Hy ce a vs=some e'):Good X (Aa J fu d) (.Dict a vs pos) e':=by
 cases a with
 |nil=>
  refine qI h λb h=>?_;cases bB b;cases h;exact .plain (λn=>wA) (λ_=>rfl) (λ_ _ _=>rfl) rfl
 |cons c a=>
  exact qN h
include ok in
def gk(i:∀e e',ce e=some e'->Good X (Aa J fu d) e e'){j:Expr->Option E}{g:Comprehension}{q:List Nat×List (Tg×E×List E)}
  (a:∀{k:Cx},Zm T J d k (Bl scope sc) (ownOf (g::ZQ)++freeOf scope) ->∀e e',j e=some e'->Good k (Aa J fu d) e e') (h:Ec T sc ce N j g ZQ scope=some q) :
  ∃t Zt cs ZC Zr,q=(Zr,(t,Zt,cs)::ZC)/\Wq X scope (ownOf (g::ZQ)) (freeOf scope) Zr/\g.is_async=0/\(∀n,PI X g.target g.iter (tI X.K W0 (Jl (Jw (Aa J fu d) n) Zt)))/\(∀x,foldedSetIterable g.iter X.env x=pure x) /\
   ∀O s3 H3 fp,Zm T J d (Af X O scope s3 H3 fp (ownOf (g::ZQ)++freeOf scope)) (Bl scope sc) (ownOf (g::ZQ)++freeOf scope)/\PG (Af X O scope s3 H3 fp (ownOf (g::ZQ)++freeOf scope)) g.target (tG X.K t)/\(∀n,PTs (Af X O scope s3 H3 fp (ownOf (g::ZQ)++freeOf scope)) g.ifs (Az (Jw (Aa J fu d) n).ts cs)) /\
    Bv (Af X O scope s3 H3 fp (ownOf (g::ZQ)++freeOf scope)) (Aa J fu d) ZQ ZC:=by
 refine qI h λf h=>qB h λZt b h=>qB h λt l h=>qB h λcs m h=>qB h λZC p h=>qM h λZr o e=>?_;rw[Z1,Ul]at f;have Z6:=si ok f.1 o;refine⟨t,Zt,cs,ZC,Zr,e.symm,Z6,f.2,(bL ok i b).1,(bL ok i b).2,λO s3 H3 fp=>?_⟩;have c:=ok.comp (scope:=scope) Z6.nd O s3 H3 fp;exact⟨c,je c (λ_=>xi) l,gF (a c) m,kR c (a c) p⟩
end
def aF:∀(m:Nat) {X:Cx} {sc:Scope} {N:List Str} (ok:Zm T J d X sc N) (e:Expr) (e':E),Al T sc N m e=some e'->Good X (Aa J fu d) e e'
 |0,_,_,_,_,_,_,h=>by cases h
 |m+1,X,sc,N,ok,e,e',h=>by
  have ih:=aF m ok;cases e with
  |Name x p=>exact tO ok h
  |Constant v k p=>exact uN h
  |BinOp a o b p=>
   refine qB h λo' ho h=>qB h λa' i h=>qM h λb' B e=>?_;subst e;exact .plain (λn=>uI (xE ho) ((ih _ _ i).1 n) ((ih _ _ B).1 n)) (λ_=>rfl) (λ_ _ _=>rfl) rfl
  |Compare a os bs p=>exact vP ok ih h
  |BoolOp o es p=>exact vY ih h
  |UnaryOp o a p=>exact yO ih h
  |Tuple es k p=>
   refine qI h λhs h=>qM h λa' i e=>?_;subst e;exact .plain (λn=>yB (a8 ih (aH hs) i n)) (λ_=>rfl) (λ_ _ _=>rfl) rfl
  |List es p=>
   refine qI h λhs h=>qM h λa' i e=>?_;subst e;exact .plain (λn=>zP (a8 ih (aH hs) i n)) (λ_=>rfl) (λ_ _ _=>rfl) rfl
  |Subscript a s p=>exact vb ok.units ih h
  |Call fn es kws cp=>exact xA ok ih h
  |Attribute o f p=>
   refine qB h λcs C h=>qB h λo' ho h=>qI h λl h=>?_;cases h;rw[Z1]at l;let⟨y,w⟩:=ee l.1;exact .plain (λn=>aaq ((ih _ _ ho).1 n) (base_of (aH l.2) _) w y (ok.hA.1 _ _ C)) (λ_=>rfl) (λ_ _ _=>rfl) rfl
  |Dict keys vs p=>exact wu ih h
  |ListComp elt gs scope p=>cases gs with
   |nil=>exact qN h
   |cons g ZQ=>
    refine qB h λq j h=>qM h λZl A e=>?_;subst e;let⟨t,Zt,cs,ZC,Zr,rfl,Z6,h1,h2,r,c⟩:=gk (fu:=fu) ok ih (λu=>aF m u) j;exact .plain (λn=>vM ok.calm Z6 h1 (h2 n) r λO s3 H3 fp=>⟨(c O s3 H3 fp).2.1,(c O s3 H3 fp).2.2.1,(c O s3 H3 fp).2.2.2,(aF m (c O s3 H3 fp).1 _ _ A).1⟩) (λ_=>rfl) (λ_ _ _=>rfl) rfl
  |DictComp G D gs scope p=>cases gs with
   |nil=>exact qN h
   |cons g ZQ=>
    refine qB h λq j h=>qB h λk' hk h=>qM h λF z e=>?_;subst e;let⟨t,Zt,cs,ZC,Zr,rfl,Z6,h1,h2,r,c⟩:=gk (fu:=fu) ok ih (λu=>aF m u) j;exact .plain (λn=>ug ok.calm (by have:=ok.units;lia) Z6 h1 (h2 n) r λO s3 H3 fp=>⟨(c O s3 H3 fp).2.1,(c O s3 H3 fp).2.2.1,(c O s3 H3 fp).2.2.2,(aF m (c O s3 H3 fp).1 _ _ hk).1,(aF m (c O s3 H3 fp).1 _ _ z).1⟩) (λ_=>rfl) (λ_ _ _=>rfl) rfl
  |_=>exact qN h
def oZ(c:Zm T J d X sc N){a:Expr}{g:Comprehension}(h:Al T sc N (m+1) (.ListComp a (g::ZQ) scope pos)=some e'):
  ∃t Zt cs ZC Zl Zr,e'=.comp (ownOf (g::ZQ)).length Zr ((t,Zt,cs)::ZC) Zl/\Wq X scope (ownOf (g::ZQ)) (freeOf scope) Zr/\g.is_async=0/\(∀n,PI X g.target g.iter (tI X.K W0 (Jl (Jw (Aa J fu d) n) Zt)))/\(∀x,foldedSetIterable g.iter X.env x=pure x) /\
   ∀O s3 H3 fp,PG (Af X O scope s3 H3 fp (ownOf (g::ZQ)++freeOf scope)) g.target (tG X.K t)/\(∀n,PTs (Af X O scope s3 H3 fp (ownOf (g::ZQ)++freeOf scope)) g.ifs (Az (Jw (Aa J fu d) n).ts cs)) /\
    Bv (Af X O scope s3 H3 fp (ownOf (g::ZQ)++freeOf scope)) (Aa J fu d) ZQ ZC /\∀n,PE (Af X O scope s3 H3 fp (ownOf (g::ZQ)++freeOf scope)) a (tE X.K W0 ((Jw (Aa J fu d) n).ev Zl)):=by
 refine qB h λq f h=>qM h λZl i e=>?_;let⟨t,Zt,cs,ZC,Zr,rfl,Z6,h1,h2,j,b⟩:=gk (fu:=fu) c (aF m c) (λk=>aF m k) f;exact⟨t,Zt,cs,ZC,Zl,Zr,e.symm,Z6,h1,h2,j,λO s3 H3 fp=>⟨(b O s3 H3 fp).2.1,(b O s3 H3 fp).2.2.1,(b O s3 H3 fp).2.2.2,(aF m (b O s3 H3 fp).1 _ _ i).1⟩⟩
end
section
variable{T:Tab}{J:List Fn}{fu:Nat}{sc:Scope}
def iN{t:Option Expr}{l:Nat}(h:B5 e=false):swapsWith e t l env=pure false:=by
 cases e<;>first|rfl|cases h
def oB{t:Expr}{l:Nat}(h:B5 e=false):swapsWithSole [t] e l env=pure false:=by
 cases e<;>first|rfl|cases h
def iA{k:Nat}{p:Pos}{l:Nat}:swapsWithSole [.Tuple ts k p] e l env=pure false:=by
 cases e<;>rfl
def bT{f:Stmt->Option Z6}(e:∀s s',f s=some s' ->∀n,PS X s (Zk X.K W0 (Jr (Jw (Aa J fu d) n) s'))):∀{ss:List Stmt} {a:List Z6},Ab (ss.map f)=some a ->∀n,PSs X ss (Zk X.K W0 ((Jw (Aa J fu d) n).ex a))
 |[],_,h=>λn=>by
  cases h;cases n with
  |zero=>exact PSs.ZV λ_ _=>rfl
  |succ n=>exact aag (r:=Jw (Aa J fu d) n)
 |s::ss,a,h=>λn=>by
  rw[Y2]at h;cases c:f s with
  |none=>rw[c]at h;cases h
  |some s'=>
   rw[c]at h;simp![Ab]at h;cases b:Ab (ss.map f)with
   |none=>rw[b]at h;cases h
   |some r'=>
    rw[b]at h;cases h;cases n with
    |zero=>exact PSs.ZV λ_ _=>rfl
    |succ n=>exact wU (e s s' c n) (bT e b n)
def oR{c i:Pos}{a b:Expr}{d e:Nat}(g:foldedForSure 8 a=true)(f:foldedForSure 8 b=true):swappedStores [.Tuple ts d c] (.Tuple [a,b] e i) env=pure none:=by
 have h:[a,b].all (foldedForSure 8)=true:=by simp[g,f]
 unfold swappedStores;simp![h,V6];split
 .rfl
 .split
  .rfl
  .split<;>rfl
def pX{y:Str}{c e g w:Pos}{a b:Expr}{i o:Nat}(k:Zm T J d X sc N)(q:X.env.blockKind=.function)(h:CA sc x y c e a b=true):
  swappedStores [.Tuple [.Name x c,.Name y e] i g] (.Tuple [a,b] o w) X.env=pure (some [x,y]):=by
 unfold CA at h;simp![Z1,W3,Ul]at h;let⟨⟨⟨⟨⟨⟨⟨h1,h2⟩,v⟩,l⟩,u⟩,t⟩,s⟩,r⟩:=h;have n:X.env.kindOf x=some .local:=by show X.env.scope.names.lookup x=_;rw[k.W6];exact h1
 have m:X.env.kindOf y=some .local:=by show X.env.scope.names.lookup y=_;rw[k.W6];exact h2
 have nd:[x,y].eraseDups.length=2:=by
  have : ¬ (y==x)=true:=by intro z;rw[Ul]at z;subst z;simp at v
  simp[List.eraseDups_cons,this]
 have A:([.Tuple [.Name x c,.Name y e] i g]:List Expr)=[.Tuple [.Name x c,.Name y e] i g]:=rfl;unfold swappedStores;simp[q,n,m,l,nd,s,r];have j:∀z:Expr,isStar z=false -> ¬ ((match z with|.Starred value pos=>true|x=>false)=true):=λz p=>by cases z<;>first|exact G7|cases p
 rw[Yb (λz=>z.elim (j a u) (j b t))];have f:(Expr.Name x c).pos=c:=rfl;rw[f];simp![V0,List.filterMap_nil,n,m,l,true_and,and_self,V6];simp[nd]
def qi{o i:Expr}{W7:Pos}(h:Cq i=false)(v:Value):assign (.Subscript o i W7) env v=(do
   let ov<-holding [v] (eval o env)
   let iv<-holding [v,ov] (eval i env)
   standAt W7
   holding [v,ov,iv] (setItem ov iv v)
   release [v,ov,iv] []):=by
 cases i<;>first|rfl|cases h
def kQ{l:List α}{p:α×α}(h:DJ l=some p):l=[p.1,p.2]:=by
 cases l with
 |nil=>cases h
 |cons a l=>cases l with
  |nil=>cases h
  |cons b l=>cases l with
   |nil=>cases h;rfl
   |cons _ _=>cases h
def gU{x:Str×Pos}(h:Hz e=some x):e = .Name x.1 x.2:=by
 cases e with
 |Name y p=>cases h;rfl
 |_=>cases h
def xk{q:List Expr×Nat×Pos}(h:Gn e=some q):e = .Tuple q.1 q.2.1 q.2.2:=by
 cases e with
 |Tuple es k p=>cases h;rfl
 |_=>cases h
section
variable{cE:Expr->Option E}
def p0(b:Zm T J d X sc N)(B:X.env.blockKind=.function)(F:∀x,X.fn x=true)(g:∀e e',cE e=some e'->Good X (Aa J fu d) e e'){o:Nat}{l:Pos}{e:Expr}{r:Z6}(h:CZ T sc N cE ts o l e=some r)(n:Nat):PS X (.Assign [.Tuple ts o l] e pos) (Zk X.K W0 (Jr (Jw (Aa J fu d) n) r)):=by
 refine qB h λq A h=>qB h λt c h=>qB h λx z h=>qB h λy w h=>qB h λa D h=>?_;cases xk A;cases kQ c;rw[gU z,gU w]at h ⊢;rw[kQ D]at h ⊢;cases hp:CA sc x.1 y.1 x.2 y.2 a.1 a.2 with
 |true=>
  rw[hp]at h;refine qB h λi hi h=>qB h λj p h=>qB h λa' h1 h=>qM h λb' h2 e=>?_;subst e;have k:=hp;unfold CA at k;simp![Z1,W3,Ul]at k;let⟨⟨⟨⟨⟨⟨⟨v,p2⟩,m⟩,I⟩,u⟩,s⟩,H⟩,G⟩:=k;refine abj b.calm b.Uc (by rw[b.hN];exact ixOf_get hi) (by rw[b.hN];exact ixOf_get p) ?_ (by rw[b.W6];exact v) (by rw[b.W6];exact p2) ((g _ _ h1).1 n) ((g _ _ h2).1 n) (aq u) (aq s) (pX b B hp)
  intro E;subst E;have:=(ixOf_get hi).symm.trans (ixOf_get p);rw[WQ this]at m;simp at m
 |false=>
  rw[hp]at h;refine qI h λf h=>qB h λt c h=>qM h λe' C e=>?_;subst e;rw[Z1]at f;exact mj ((g _ _ C).1 n) (dG b (λ_=>F) c) iA (oR f.1 f.2) rfl
end
def rG(a:Zm T J d X sc N)(y:X.env.blockKind=.function)(A:∀x,X.fn x=true){x:Str}{c:Pos}{r:Z6}(h:Fx sc N (Al T sc N m) x c e=some r)(n:Nat):PS X (.Assign [.Name x c] e pos) (Zk X.K W0 (Jr (Jw (Aa J fu d) n) r)):=by
 refine qI h λf h=>qB h λi hi h=>qM h λe' o e=>?_;subst e;let⟨h1,h2,D⟩:=uG hi;have plain:B5 e=false->PS X (.Assign [.Name x c] e pos) (Zk X.K W0 (Jr (Jw (Aa J fu d) n) (.set (.nm i) e'))):=λf=>aa3 a.Uc (by rw[a.hN];exact h1) (a.Sy h2) (.inl (A _)) ((aF m a _ _ o).1 n) (iN f)
 cases e with
 |ListComp elt gs scope p=>cases gs with
  |nil=>cases f
  |cons g ZQ=>
   have q:ED sc x c scope p=true:=f;cases m with
   |zero=>cases o
   |succ m=>
    let⟨t,Zt,cs,ZC,Zl,Zr,rfl,C,z,j,B,b⟩:=oZ a o;unfold ED at q;rw[Z1,Z1,Ul,Ul]at q;let⟨⟨w,v⟩,u⟩:=q;have s:X.env.scope.names.lookup x=some .local:=by rw[a.W6];exact w
    have l:X.env.kindOf x=some .local:=s;cases n with
    |zero=>exact PS.ZV λ_ _=>rfl
    |succ n=>
     refine qd a.calm C z (j n) B b a.Uc (by rw[a.hN];exact h1) s ?_
     show(pure (X.env.blockKind==.function&&X.env.kindOf x==some .local&&c.line==p.line&&!(scope.names.any λ(n,k)=>n==x&&(k==.local||k==.cell))):Sem Bool)=pure true;rw[y,l,v,u];simp
 |_=>exact plain (aH f)
def pN(c:Zm T J d X sc N)(q:X.env.blockKind=.function)(l:∀x,X.fn x=true){t:Expr}{j:Z6}(h:Fs T sc N (Al T sc N m) t e=some j)(n:Nat):PS X (.Assign [t] e pos) (Zk X.K W0 (Jr (Jw (Aa J fu d) n) j)):=by
 have b:=aF (fu:=fu) m c;cases t with
 |Name x A=>exact rG c q l h n
 |Tuple ts k p=>
  cases a:C4 e with
  |true=>
   have h:(match C4 e with|true=>CZ T sc N (Al T sc N m) ts k p e|false=>(Bm true sc N (.Tuple ts k p)).bind λt=>(Al T sc N m e).map (Z6.set t))=some j:=h
   rw[a]at h;exact p0 c q l b h n
  |false=>
   have h:(match C4 e with|true=>CZ T sc N (Al T sc N m) ts k p e|false=>(Bm true sc N (.Tuple ts k p)).bind λt=>(Al T sc N m e).map (Z6.set t))=some j:=h
   rw[a]at h;refine qB h λt v h=>qM h λe' g y=>?_;subst y;refine mj ((b _ _ g).1 n) (dG c (λ_=>l) v) iA ?_ rfl;revert a;cases e<;>first|exactλ_=>rfl|exactλh2=>nomatch h2
 |Subscript o i p=>
  refine qI h λa h=>qB h λo' ho h=>qB h λB hi h=>qM h λe' g e=>?_;subst e;rw[Z1]at a;exact yJ (by have:=c.units;lia) ((b _ _ g).1 n) ((b _ _ ho).1 n) ((b _ _ hi).1 n) (oB (aH a.2)) rfl (qi (aH a.1))
 |Attribute o f p=>
  refine qB h λx u h=>qB h λcs z h=>qB h λo' ho h=>qB h λe' g h=>qI h λw h=>?_;cases h;cases gU u;let⟨s,r⟩:=ee w;exact va ((b _ _ ho).1 n) ((b _ _ g).1 n) (by unfold swapsWith;cases e<;>rfl) r s (c.hA.1 _ _ z)
 |_=>exact qN h
def kS(f:Zm T J d X sc N)(u:X.env.blockKind=.function)(s:∀x,X.fn x=true):∀m st q,BF T sc N m st=some q ->∀n,PS X st (Zk X.K W0 (Jr (Jw (Aa J fu d) n) q))
 |0,_,_,h=>by cases h
 |m+1,st,q,h=>λn=>by
  have ih:=kS f u s m;have g:=aF (fu:=fu) m f;cases st with
  |Return o p=>cases o with
   |none=>exact qN h
   |some e=>exact qM h λa' l e=>by subst e;exact zc ((g _ _ l).1 n)
  |Assign ts e p=>cases ts with
   |nil=>exact qN h
   |cons t r=>
    refine qI h λi h=>?_;cases bB i;exact pN f u s h n
  |Expr e p=>exact qI h λj h=>qM h λa' l e=>by subst e;exact z0 ((g _ _ l).1 n) (iN (aH j))
  |If c a b p=>exact qB h λc' j h=>qB h λa' l h=>qM h λb' k e=>by subst e;exact aca ((g _ _ j).2.1 n) (bT ih l n) (bT ih k n)
  |While c b o p=>
   refine qI h λi h=>qB h λc' j h=>qM h λb' k e=>?_;subst e;cases bB i;exact abH f.own (λn=>(g _ _ j).2.1 n) (λn=>bT ih k n)
  |For tg it b o p=>
   refine qI h λi h=>qB h λt v h=>qB h λZt hi h=>qM h λb' k e=>?_;subst e;cases bB i;exact zy f.own f.calm ((bL f g hi).1 n) (dG f (λ_=>s) v) (λn=>bT ih k n) (bL (fu:=fu) f g hi).2
  |Raise a b p=>cases h;exact PS.ZV λ_ _=>rfl
  |_=>exact qN h
end
set_option genInjectivity false in
structure FI where
 x:Str
 st:Stmt
 N:List Str
 ps:List Str
 cm:Option (Str×Str)
 kf:Option (KF×Nat)
structure S7(K:Hf)(x qual:Str)(st:Stmt)(f:Addr)(fd:FuncData):Prop where
 ex:∃(JV:Value) (od:Option Addr) (dV HM doc pm:Value) (an:Option Addr) (Yv ct:Value) (VQ:Array (Option Value)),
  fd=PySem.W.fnOf x qual (Co st) (Cr st) (Bk st) dV HM doc pm an Yv ct/\K.lookup f=some ⟨JV,od,.func fd,VQ⟩/\PySem.W.codeIn K Yv qual=true
 kp:PySem.W.keepIn K (.ref f)=true
noncomputable def FI.nm(fi:FI):Str:=match fi.cm with|none=>fi.x|some c=>c.2
noncomputable def FI.tn(fi:FI):Str:=if fi.cm.isSome||fi.kf.isSome then "__debug__" else fi.x
def FAt(K:Hf)(a:Str->Option Value)(fi:FI)(f:Addr):Prop:=match fi.cm with
 |none=>a fi.x=some (.ref f)
 |some c=>∃C,a c.1=some (.ref C)/\PySem.W.nsIn K mainGlobals c.1=some (some (.ref C))/\Yh K C/\UM K C c.2 f/\(c.2 = "__init__" -> Mk K C f)
structure FOk(T:Tab)(K:Hf)(mg:Str->Option Value)(fi:FI)(F:Fn):Prop where
 sc:TY fi.N fi.ps (Bk fi.st)
 np:F.np=fi.ps.length
 ns:F.ns=fi.N.length
 body:∃m,Ab ((Cr fi.st).map (BF T (Bk fi.st) fi.N m))=some F.body
 obj:∃f fd,FAt K mg fi f/\S7 K fi.nm fi.x fi.st f fd/\(fi.kf=none->Binds K fd fi.ps []) /\∀F nd,fi.kf=some (F,nd)->fi.ps=F.ns++F.ks/\F.ns++F.ks≠[] /\∃Zs dd,Xs K fd F nd Zs dd
def AllOk(T:Tab)(K:Hf)(a:Str->Option Value):List FI->List Fn->Prop
 |[],[]=>True
 |fi::r,F::s=>FOk T K a fi F/\AllOk T K a r s
 |_,_=>False
section
variable{T:Tab}{P:Program}
def AllOk.get:∀{a:List FI} {J:List Fn} {i:Nat} {fi:FI},AllOk T K mg a J->a[i]?=some fi ->∃F,J[i]?=some F/\FOk T K mg fi F
 |[],_,_,_,_,e=>by simp at e
 |_::_,[],_,_,h,_=>False.elim h
 |_::_,F::_,0,_,h,e=>by simp at e;subst e;exact⟨F,rfl,h.1⟩
 |_::r,_::s,i+1,fi,h,e=>by
  let⟨F,c,b⟩:=AllOk.get (i:=i) (fi:=fi) h.2 (by simpa using e)
  exact⟨F,by simpa using c,b⟩
structure Sw(T:Tab)(K:Hf)(mg:Str->Option Value)(YS:List FI)(J:List Fn):Prop where
 names:T.J=YS.map FI.tn
 all:AllOk T K mg YS J
 cs:∀x u,T.cs.lookup x=some u ->∃v val,mg x=some val/\RelV v val /\∀ρ H,RV K ρ H u v
 bt:∀x∈T.bt,mg x=none
 kfs:∀(y:Str) (i:Nat) (F:KF) (nd:Nat),T.kf.lookup y=some (i,F,nd) ->∃fi,YS[i]?=some fi/\fi.x=y/\fi.cm=none/\fi.kf=some (F,nd)
 cls:∀(y:Str) (c i:Nat) (F:KF) (nd:Nat),T.cl.lookup y=some (c,i,F,nd)->Aq c=y /\∃fi,YS[i]?=some fi/\fi.cm=some (y,("__init__" : Str))/\fi.kf=some (F,nd)
 mts:∀(m:Str) (l:List (Nat×Nat×KF×Nat)),T.mt.lookup m=some l ->∀c i F nd,(c,i,F,nd)∈l ->∃fi,YS[i]?=some fi/\fi.cm=some (Aq c,m)/\fi.kf=some (F,nd)
 fls:(∀(f:Str) (cs:List Nat),T.fl.lookup f=some cs->CY K f cs) /\∀p∈T.ow,∃C,mg p.1=some (.ref C)/\PySem.W.nsIn K mainGlobals (Aq p.2)=some (some (.ref C))/\Yh K C/\S9 K C
def ue(b:n=N.length)(h:RVs K ρ H S vs)(f:S.length<=N.length):RS K ρ H (S.map some++List.replicate (n-S.length) none) (L2.start N vs) where
 len:=by unfold L2.start;simp[h.length,b]
 val:=λi u e=>by
  subst b;unfold L2.start;by_cases hi:i<S.length
  .rw [X0 (by simpa using hi),Wy]at e
   rw[X0 (by rw[Zd,<-h.length];exact hi),Wy]
   cases a:S[i]? with
   |none=>rw[a]at e;cases e
   |some w=>
    rw[a]at e;cases e;let⟨v,d,c⟩:=h.get a;exact⟨v,by rw[d];rfl,c⟩
  .rw [Wm (by simpa using hi),RM]at e
   split at e<;>cases e
def xW(h:env.scope.kind=.function):env.blockKind=.function:=by
 unfold Env.blockKind;rw[h]
 rfl
def wC{W:XQ}{o:Out Fl}{Q:VK}(p:post K W (RV K) (o.bind λf g=>match f with|.rt u=>.ok u g|.nx _=>.ok .ZK g|_=>.ZV) ρ H Q):Jx K W o ρ H {nx:=λ_ H'=>Q .ZK H',rt:=Q}:=by
 revert p;cases o with
 |ok fl g1=>
  cases fl with
  |nx a=>exactλp Y ZN H' s h hs=>p .ZK ZN H' s h rfl
  |rt u=>exactλp=>p
  |bk a=>exactλp=>p.elim
  |ct a=>exactλp=>p.elim
 |exc c fs g1=>exactλp=>p
 |ZV=>exactλp=>p
def mY{X:List FI}{J:List Fn}(G:Sw T K mg X J):∀(d i:Nat) (fi:FI),X[i]?=some fi ->∀f fd,S7 K fi.nm fi.x fi.st f fd->YQ P w K mg base Xz (2*d+2) f fd fi.ps (WL K J d i fi.ps.length)
 |0,i,fi,_,f,fd,_=>⟨λvs H Q E ⟨_,ρ,g,S,_,_,_,p⟩=>p.elim,λA n s H args S vs Q E _ _ _ _ ⟨_,ρ,g,S,_,_,_,p⟩=>p.elim⟩
 |d+1,i,fi,hi,f,fd,F=>by
  let⟨Fi,ei,Z9⟩:=G.all.get hi;let⟨m,hb⟩:=Z9.body;have Yw:fi.ps.length<=fi.N.length:=by have:=SO List.length Z9.sc.pre;rw[Vi]at this;lia
  have b:∀j a,X[j]?=some a ->∃f fd,FAt K mg a f/\PySem.W.keepIn K (.ref f)=true/\(a.kf=none->Binds K fd a.ps [])/\(∀F nd,a.kf=some (F,nd)->a.ps=F.ns++F.ks/\F.ns++F.ks≠[] /\∃Zs dd,Xs K fd F nd Zs dd)/\YQ P w K mg base Xz (2*d+2) f fd a.ps (WL K J d j a.ps.length) /\∀F,J[j]?=some F->F.np=a.ps.length:=λj a q=>by
   let⟨Fj,ej',Oj⟩:=G.all.get q;let⟨f',r,m1,z,I,v⟩:=Oj.obj;exact⟨f',r,m1,z.kp,I,v,mY G d j a q f' r z,λL e=>by rw[ej']at e;cases e;exact Oj.np⟩
  have RU:∀j x,T.J[j]?=some x->(x==("__debug__" : Str))=false ->∃f fd a,FI.x a=x/\mg x=some (.ref f)/\PySem.W.keepIn K (.ref f)=true/\Binds K fd a.ps []/\YQ P w K mg base Xz (2*d+2) f fd a.ps (WL K J d j a.ps.length) /\∀F,J[j]?=some F->F.np=a.ps.length:=λj x o Y=>by
   rw[G.names,Wy]at o;cases q:X[j]? with
   |none=>rw[q]at o;cases o
   |some a=>
    rw[q]at o;have o:a.tn=x:=by simpa using o
    unfold FI.tn at o;let⟨f',r,m1,z,I,v,t,D⟩:=b j a q;cases u:a.cm with
    |some c=>rw[u]at o;subst o;cases Y
    |none=>
     cases hk:a.kf with
     |some c=>rw[u,hk]at o;subst o;cases Y
     |none=>
      rw[u,hk]at o;have o:a.x=x:=o;subst o;have U4:mg a.x=some (.ref f'):=by unfold FAt at m1;rw[u]at m1;exact m1
      exact⟨f',r,a,rfl,U4,z,I hk,t,D⟩
  have Z:∀(CX:XS) V A n s H E,Zc (2*d+3) (A.deeper (envOfC fi.x (Bk fi.st) s.heap.objs.size f V))->Zm T J d (Cf CX P w K mg base fi.N fi.x (Bk fi.st) f V A n s H E).VX (Bk fi.st) fi.N:=λCX V A n s H E hr=>by
   refine⟨λj x o Y=>?_,G.cs,G.bt,λy j F nd hy=>?_,λy c j F nd hy=>?_,λmm l M c j F nd Yu=>?_,G.fls,hr,rfl,rfl,Z9.sc.nd,rfl,rfl⟩
   .obtain ⟨f',r,a,_,a1,a2,a3,a4,a5⟩:=RU j x o Y
    exact⟨f',r,a.ps,a1,a2,a3,a4,a5⟩
   .obtain ⟨a,q,rfl,u,hk⟩:=G.kfs y j F nd hy
    let⟨f',r,m1,z,I,v,t,D⟩:=b j a q;let⟨B,U,Zs,dd,R⟩:=v F nd hk;have U4:mg a.x=some (.ref f'):=by unfold FAt at m1;rw[u]at m1;exact m1
    rw[B]at t;exact⟨f',r,Zs,dd,U4,z,R,U,t,λL e=>by rw[D L e,B]⟩
   .obtain ⟨hn,a,q,u,hk⟩:=G.cls y c j F nd hy
    let⟨f',r,m1,z,I,v,t,D⟩:=b j a q;let⟨B,U,Zs,dd,R⟩:=v F nd hk;unfold FAt at m1;rw[u]at m1;let⟨C,c1,c2,c3,c4,c5⟩:=m1;rw[B]at t;exact⟨C,f',r,Zs,dd,c1,c5 rfl,by rw[hn];exact c2,R,U,t,λL e=>by rw[D L e,B]⟩
   .obtain ⟨a,q,u,hk⟩:=G.mts mm l M c j F nd Yu
    let⟨f',r,m1,z,I,v,t,D⟩:=b j a q;let⟨B,U,Zs,dd,R⟩:=v F nd hk;unfold FAt at m1;rw[u]at m1;let⟨C,c1,c2,c3,c4,c5⟩:=m1;rw[B]at t;exact⟨C,f',r,Zs,dd,c2,c3,c4,R,U,t,λL e=>by rw[D L e,B]⟩
  have O:YQ P w K mg base Xz (2*(d+1)+2) f fd fi.ps (WL K J (d+1) i fi.ps.length):=by
   let⟨JV,od,dV,HM,doc,pm,an,V,ct,VQ,rfl,lk,W1⟩:=F.ex;refine ab8 (k:=2*d+3) lk W1 Z9.sc (λvs H Q E ⟨_,ρ,g,S,_,rs,M,_⟩=>by rw[<-rs.length];exact M) λA n s H vs Q E hr h=>?_
   let⟨fu,ρ,g,S,hg,rs,M,p⟩:=h;simp![Aa,ei,BL]at p;rw[Yn (by rw[M,Z9.np])]at p
   refine⟨Zk K W0 ((Jw (Aa J fu d) fu).ex Fi.body),PSs.VX ?_,_,ρ,g,ue Z9.ns rs (by lia),hg,wC p⟩
   exact bT (kS (Z Xz V A n s H E hr) (xW Z9.sc.kind) (λ_=>rfl) m) hb fu
  exact O
def zf{xs:List V}(b:Dw H)(h:SqL K H a xs):SqF K H a xs:=by
 rcases h with(h|h)|h
 .rcases b a with z|⟨o,ys,z⟩
  .rw [h]at z;cases z
  .rw [h]at z;cases z
 .exact .inl h
 .exact .inr h
def kN{ρ:List Addr}{H:Hp}:∀ns:List Int,RVs K ρ H (ns.map U.int) (ns.map V.int)
 |[]=>rfl
 |n::ns=>⟨.int n,ns.map V.int,rfl,rfl,kN ns⟩
def aaa{J:List Fn}{E:XK}(c:Dw H)(b:SqL K H a (ns.map V.int)){fu:Nat}(h:Aa J fu d i [.Zx (ns.map U.int)] []=.ok (.bl true) g'):
  WL K J d i 1 [.ref a] H (λv _=>v=.bl true) E:=by
 refine⟨fu,[],[],[.Zx (ns.map U.int)],⟨rfl,λi j a e=>by simp at e,λn a o e=>by simp at e⟩,⟨_,_,rfl,⟨a,_,rfl,zf c b,kN ns⟩,rfl⟩,rfl,?_⟩
 rw[h];exactλv ZN H' _ _ r=>r
end
open PySem PySem.Spec PyProof.Rows L2 PySem.W
def jQ{b c:Type}{f g:b->Option c}:∀{l:List b},(∀x∈l,f x=g x)->l.filterMap f=l.filterMap g
 |[],_=>rfl
 |a::l,h=>by rw[V0,V0,h a (.head _),jQ λx d=>h x (.tail _ d)]
def qy:∀{ps:List Str} {S:List α},ps.Nodup->S.length=ps.length->(ps.filterMap λn=>((ps.zip S).lookup n).map (n,·))=ps.zip S:=by
 intro ps
 induction ps with
 |nil=>intro S _ _;cases S<;>rfl
 |cons p ps ih=>
  intro S nd a;cases S with
  |nil=>simp at a
  |cons u S=>
   have c:p ∉ ps:=(Rx.mp nd).1;rw[V0];simp![Rn,WW,Qs,VO];congr 1;refine(jQ λx b=>?_).trans (ih (Rx.mp nd).2 (by simpa using a))
   have:(x==p)=false:=by
    rw[Rg];rintro rfl;exact c b
   simp![this]
def lr{b:Type}:∀{ps:List Str} {S:List b},S.length=ps.length ->∀x∈ps,((ps.zip S).lookup x).isNone=false
 |[],_,_,x,a=>by simp at a
 |p::ps,[],hl,_,_=>by simp at hl
 |p::ps,u::S,hl,x,a=>by
  simp![Rn,WW];cases e:x==p with
  |true=>rfl
  |false=>
   rcases Xq.mp a with rfl|h
   .simp at e
   .exact lr (by simpa using hl) x h
def pK{S:List Value}(k:fd.params.posonlyargs=[])(j:fd.params.args.map (·.arg)=ps)(i:fd.params.vararg=none)(h:fd.params.kwonlyargs=[])(g:fd.params.kwarg=none)
  (f:fd.defaults=.none) (b:ps.Nodup) (a:S.length=ps.length):bindArgs fd ⟨S,[]⟩=pure (ps.zip S):=by
 unfold bindArgs;have e:(List.filter (λn=>((ps.zip S).lookup n).isNone) ps)=[]:=by
  rw[RY];intro x c;rw[lr a x c];decide
 have l:=qy b a;have hs:seqItems? Value.none=pure none:=rfl;have d : ¬ S.length > ps.length:=by lia
 simp![k,j,i,h,g,f,Px,Ry,TR,List.forIn_nil,pure_bind,hs,P7,List.length_nil,Nat.zero_sub,List.drop_nil,OK,Q9,e,List.drop_length,List.zip_nil_right,List.isEmpty_nil,Bool.not_true,Xh,Vn,Vu d,QM,l]
def lO{b:Addr}{o:Obj}:∀{l:List Obj} {n:Nat},(B9 n l).lookup b=some o->n<=b/\l[b-n]?=some o/\o.data ≠ .freed
 |[],_,e=>by cases e
 |x::l,n,e=>by
  have ZQ:(B9 (n+1) l).lookup b=some o->n<=b/\(x::l)[b-n]?=some o/\o.data ≠ .freed:=λe=>by
   let⟨h1,h2,c⟩:=lO e;let⟨k,rfl⟩:=Nat.exists_eq_add_of_le h1;rw[Od]at h2;refine⟨G6 (V8 n) h1,?_,c⟩;rw[show n+1+k-n=k+1 by lia,Oe]
   exact h2
  unfold B9 at e;split at e
  .exact ZQ e
  .rename_i a
   rw[WW]at e;split at e
   .rename_i z
    cases e;have:=eq_of_beq z;subst this;exact⟨G8 _,by rw[Nat.sub_self];rfl,a⟩
   .exact ZQ e
def u9(h:Heap):(A4 h).In h:=λb o e=>by
 let⟨_,h2,a⟩:=lO e;rw[OK,Vl]at h2;unfold Heap.get?;rw[h2];split
 .rename_i q;cases q;exact absurd rfl a
 .rfl
def uc{i:Scope}(h:DE N ps i=true):TY N ps i:=by
 simp![DE,Z1,W3,XM,YN,UC]at h;let⟨⟨⟨⟨⟨⟨a,b⟩,c⟩,d⟩,e⟩,f⟩,g⟩:=h;exact⟨a,b,c,d,e,f,g⟩
def BZ(fd:FuncData)(b:List Stmt):Stmt:=.FunctionDef fd.name fd.params b [] none [] fd.scope none fd.name ⟨0,0,0,0⟩
def lK{v:Value}(h:EG v=true):v=.none:=by cases v<;>first|rfl|cases h
def JB:U->V
 |.int i=>.int i
 |.bl b=>.bl b
 |.str s=>.str s
 |_=>.ZK
def mq{K:Frag}{a:Value}(h:Ep u a=true):RelV (JB u) a /\∀ρ H,RV K ρ H u (JB u):=by
 cases u with
 |int i=>cases a with
  |int j _=>cases He h;exact⟨⟨_,rfl⟩,λ_ _=>rfl⟩
  |_=>cases h
 |ZK=>cases lK h;exact⟨rfl,λ_ _=>rfl⟩
 |bl b=>cases a with
  |bool c=>cases eq_of_beq h;exact⟨rfl,λ_ _=>rfl⟩
  |_=>cases h
 |str s=>cases a with
  |str t _=>cases He h;exact⟨⟨_,rfl⟩,λ_ _=>rfl⟩
  |_=>cases h
 |_=>cases h
def kU{K:Frag}:∀{S:List U} {e:List Value},CD S e=true->ZG (S.map JB) e /\∀ρ H,RVs K ρ H S (S.map JB)
 |[],[],_=>⟨.nil,λ_ _=>rfl⟩
 |[],_::_,h=>by cases h
 |_::_,[],h=>by cases h
 |u::S,v::vs,h=>by
  rw[CD,Z1]at h;let⟨a,b⟩:=mq (K:=K) h.1;let⟨c,d⟩:=kU (K:=K) h.2;exact⟨.cons a c,λρ H=>⟨_,_,rfl,b ρ H,d ρ H⟩⟩
def wj{K:Frag}{f:Value}(h:HC K u f=true):∃v,RelV v f /\∀ρ H,RV K ρ H u v:=by
 cases u with
 |xn c S=>cases f with
  |ref a=>
   have h:EA K S (.ref a)=true:=h;simp![EA]at h;cases ho:K.lookup a with
   |none=>rw[ho]at h;cases h
   |some o=>
    rw[ho]at h;have h:(decide (o.cls=.type "tuple")&&HB S o.data)=true:=h;rw[Z1,XM]at h;let⟨cl,r,d,k⟩:=o;let⟨h1,h⟩:=h;cases(show cl=.type "tuple" from h1);cases d with
    |seq ZU n=>
     have h:(decide (ZU.size<=1000)&&CD S ZU.toList)=true:=h;rw[Z1,XM]at h;let⟨j,g⟩:=kU (K:=K) h.2;exact⟨.ref _,rfl,λρ H=>⟨_,_,rfl,⟨_,ZU,n,ho,rfl,rfl,G6 h.1 #[1],j⟩,g ρ H⟩⟩
    |_=>cases h
  |_=>cases h
 |_=>cases h
def lQ{K:Frag}{c:Value}(e:Ds K u c=true):∃v,RelV v c /\∀ρ H,RV K ρ H u v:=by
 unfold Ds at e;rw[UC]at e;rcases e with e|e
 .obtain ⟨a,b⟩:=mq (K:=K) e;exact⟨_,a,b⟩
 .exact wj e
def lS{K:Frag}:∀{ns:List Str} {dd:List (Str×U)} {e:List Value},dd.map (·.1)=ns->Dm K (dd.map (·.2)) e=true ->∃Zs,F2 (PR RelV) Zs (ns.zip e)/\F2 (PR λu v=>∀ρ H,RV K ρ H u v) dd Zs
 |_,[],[],h,_=>by subst h;exact⟨[],.nil,.nil⟩
 |_,[],_::_,_,h=>by cases h
 |_,_::_,[],_,h=>by cases h
 |_,(n,u)::dd,v::vs,h,q=>by
  subst h;rw[Y2,Dm,Z1]at q;let⟨w,a,b⟩:=lQ q.1;let⟨Zs,c,d⟩:=lS (dd:=dd) rfl q.2;exact⟨(n,w)::Zs,.cons ⟨rfl,a⟩ c,.cons ⟨rfl,b⟩ d⟩
def adN{K:Frag}{v:Value}{d:List Value}(h:EC K v=some d)(M:Model)(c:Heap)(X:K.In c):∃a:Option (Array Value),(a.getD #[]).toList=d/\Looks M c (seqItems? v) a:=by
 unfold EC at h;split at h
 .cases h;exact⟨none,rfl,.of_pure rfl⟩
 .split at h
  .rename_i ZU _ _ ho
   cases h;exact⟨some ZU,rfl,λA Q E s k q=>Ox (k _ _ (X _ _ ho)) rfl q⟩
  .cases h
 .cases h
def acq{K:Frag}{v:Value}{n:Str}{u:Value}(h:BK K v n=some u):∃d,v=.ref d/\nsIn K d n=some (some u):=by
 unfold BK at h;split at h
 .split at h
  .rename_i q;cases h;exact⟨_,rfl,q⟩
  .cases h
 .cases h
def kI{f e:Type}:∀{l d:List f} {m c:List e},l.length=m.length->(l++d).zip (m++c)=l.zip m++d.zip c
 |[],_,[],_,_=>rfl
 |[],_,_::_,_,h=>by simp at h
 |_::_,_,[],_,h=>by simp at h
 |a::l,d,b::m,c,h=>by simp[kI (l:=l) (m:=m) (by simpa using h)]
def adi{K:Frag}{F:KF}{d:Nat}(h:HD K fd F d=true):∃Zs dd,Xs K fd F d Zs dd:=by
 simp![HD,Z1,XM,Rl,PU,YN]at h;let⟨⟨⟨⟨⟨⟨⟨⟨o,p2⟩,m⟩,k⟩,j⟩,i⟩,g⟩,f⟩,b⟩:=h;split at b
 .rename_i t s
  rw[Z1,XM]at b;let⟨l1,q⟩:=b;let⟨Zs,c,r⟩:=lS (K:=K) f q;refine⟨Zs,_,o,p2,m,k,j,⟨t,λn=>(BK K fd.kwdefaults n).getD .none,λM h X=>adN s M h X,l1,i,λn p=>?_,rfl⟩,?_,r⟩
  .have:=g n p
   cases e:BK K fd.kwdefaults n with
   |none=>rw[e]at this;cases this
   |some u=>exact acq (by show _=some (Option.getD _ _);rw[e];rfl)
  .rw [kI (by rw[VL,l1];omega)]at c
   have:F.ks.zip (F.ks.map λn=>(BK K fd.kwdefaults n).getD .none)=F.ks.map λn=>(n,(BK K fd.kwdefaults n).getD .none):=by
    generalize F.ks=l
    induction l with
    |nil=>rfl
    |cons a l ih=>simp[ih]
   rw[this]at c;exact c
 .cases b
def adH{K:Frag}(X:K.In h)(G:h.Ns mainGlobals mg)(e:HE K (x,u)=true):∃v c,mg x=some c/\RelV v c /\∀ρ H,RV K ρ H u v:=by
 unfold HE at e;split at e
 .rename_i c d
  have f:mg x=some c:=mg_of X G d;let⟨v,a,b⟩:=lQ e;exact⟨v,c,f,a,b⟩
 .cases e
def ic{K:Frag}{C:Addr}(h:CJ K C=true):Yh K C:=by
 simp![CJ,Z1,Ul]at h;let⟨⟨⟨a,b⟩,c⟩,d⟩:=h;exact⟨a,b,c,d⟩
def B8(T:Tab)(K:Frag)(i:Inf):Option Fn:=mkF T (i,BO K i)
def sW{T:Tab}{i:Inf}{o:Option (Scope×List Stmt)}{F:Fn}(h:mkF T (i,o)=some F):∃r,o=some r/\(Ab (r.2.map (BF T r.1 i.N 60))).map (λb'=>(⟨i.ps.length,i.N.length,b'⟩:Fn))=some F:=by
 cases o with
 |none=>cases h
 |some r=>exact⟨r,rfl,h⟩
def mv{K:Frag}(X:K.In h)(G:h.Ns mainGlobals mg){i:Inf}{fi:FI}(k:fi.x=i.x)(l:fi.cm=i.cm)(e:DU K i=some a):FAt K mg fi a:=by
 unfold FAt;rw[l,k];unfold DU at e;split at e
 .rename_i b
  try rw[b]
  split at e
  .rename_i h1;cases e;exact mg_of X G h1
  .cases e
 .rename_i c b
  try rw[b]
  split at e
  .rename_i C h1
   split at e
   .rename_i a' h2
    split at e
    .rename_i d
     cases e;simp![Z1,UC,W3,UG]at d;let⟨⟨⟨o,f⟩,n⟩,m⟩:=d;refine⟨C,mg_of X G h1,h1,ic o,⟨h2,f,n⟩,λhi=>?_⟩;rcases m with z|⟨j,g⟩
     .exact absurd hi z
     .rw [hi]at h2;exact⟨j,h2,f,g⟩
    .cases e
   .cases e
  .cases e
def Plain(K:Frag)(a:Str->Option Value)(i:Inf)(fi:FI):Prop:=
 i.kf=none ->
 i.cm=none ->∀f fd,a fi.x=some (.ref f)->S7 K fi.nm fi.x fi.st f fd ->∀S:List Value,S.length=i.ps.length->bindArgs fd ⟨S,[]⟩=pure (i.ps.zip S)
def v5{T:Tab}{K:Frag}{i:Inf}{F:Fn}(X:K.In h)(G:h.Ns mainGlobals mg)(e:B8 T K i=some F):
  ∃fi:FI,fi.x=i.x/\fi.ps=i.ps/\fi.cm=i.cm /\
  fi.kf=i.kf /\
  FOk T K mg fi F/\Plain K mg i fi:=by
 unfold B8 at e;let⟨r,c,e⟩:=sW e;unfold BO at c;split at c
 .rename_i a h1
  split at c
  .rename_i JV E fd v h2
   split at c
   .rename_i b I
    split at c
    .rename_i p
     cases c;simp![Z1]at p;let⟨⟨⟨⟨t,W⟩,j⟩,V⟩,U⟩:=p;have sc:=uc W;simp![FY,Z1,XM,Ul,Rl]at t;let⟨⟨⟨⟨Q,J4⟩,P⟩,O⟩,M⟩:=t;let⟨b',Z,rfl⟩:=X7.mp e;have Wo:i.ps.Nodup:=by rw[<-sc.pre];exact sc.nd.sublist (Qi _ _)
     have m:fd=fnOf i.nm i.x (Co (BZ fd b)) (Cr (BZ fd b)) (Bk (BZ fd b)) fd.defaults fd.kwdefaults fd.doc fd.pyModule fd.annotations fd.code fd.closureTuple:=by
      let⟨n,q,pa,bo,w,gl,cl,de,kw,dc,pm,Y,cd,R,bu⟩:=fd;simp![BZ,Co,Cr,Bk]at *;subst Q;subst J4;subst P;subst O;subst M;subst I
      rfl
     have u:i.kf=none ->∀S:List Value,S.length=i.ps.length->bindArgs fd ⟨S,[]⟩=pure (i.ps.zip S):=λd S k=>by
      unfold Ei at j;rw[d]at j;simp![FV,Z1,XM,Rl,PU]at j;let⟨⟨⟨⟨⟨C,p2⟩,B⟩,A⟩,z⟩,y⟩:=j;exact pK C p2 B A z (lK y) Wo k
     have XI:(⟨i.x,BZ fd b,i.N,i.ps,i.cm,i.kf⟩:FI).nm=i.nm:=rfl;refine⟨⟨i.x,BZ fd b,i.N,i.ps,i.cm,i.kf⟩,rfl,rfl,rfl,rfl,⟨sc,rfl,rfl,⟨60,Z⟩,a,fd,mv X G rfl rfl h1,⟨⟨JV,E,fd.defaults,fd.kwdefaults,fd.doc,fd.pyModule,fd.annotations,fd.code,fd.closureTuple,v,by rw[XI];exact m,h2,V⟩,U⟩,λd=>.all λS k=>u d S k,λF nd d=>?_⟩,λd o f XH l J S k=>?_⟩
     .have d:i.kf=some (F,nd):=d
      unfold Ei at j;rw[d]at j;simp![Z1,XM,W3,List.isEmpty_eq_false_iff]at j;let⟨⟨s,g2⟩,L⟩:=j;exact⟨s,by rw[<-s];exact g2,adi L⟩
     .have g:FAt K mg ⟨i.x,BZ fd b,i.N,i.ps,i.cm,i.kf⟩ a:=mv X G rfl rfl h1
      unfold FAt at g;dsimp only at g;rw[o]at g;have l:mg i.x=some (.ref f):=l;rw[show mg i.x=some (.ref a)from g]at l;cases l;let⟨H,D,dV,HM,doc,pm,Y,Yv,R,VQ,_,lk,_⟩:=J.ex;rw[h2]at lk;cases lk;exact u d S k
    .cases c
   .cases c
  .cases c
 .cases c
def adC{K:Frag}{f:Str}{a:List Nat}(h:HF K (f,a)=true):CY K f a:=λc b=>by
 have:=YN.mp h c (Rq.mp b);dsimp only at this;split at this
 .rename_i C h1
  rw[Z1,Ul]at this;exact⟨C,h1,ic this.1,this.2⟩
 .cases this
def ack{K:Frag}(X:K.In h)(G:h.Ns mainGlobals mg){p:Str×Nat}(e:HH K p=true):∃C,mg p.1=some (.ref C)/\nsIn K mainGlobals (Aq p.2)=some (some (.ref C))/\Yh K C/\S9 K C:=by
 unfold HH at e;split at e
 .rename_i C a
  simp![Z1,XM,HG,Ul]at e;let⟨⟨j,i⟩,⟨⟨⟨⟨⟨⟨Kh,o2⟩,g⟩,f⟩,d⟩,c⟩,b⟩⟩:=e;exact⟨C,mg_of X G a,by rw[j];exact a,ic i,⟨Kh,o2,g,f,d,c,b⟩⟩
 .cases e
noncomputable def Inf.tn(i:Inf):Str:=if i.cm.isSome||i.kf.isSome then "__debug__" else i.x
def allFrom(T:Tab)(K:Frag)(is:List Inf):Option (List Fn):=if HJ T K&&T.cs.all (HE K)&&T.fl.all (HF K)&&is.all (λi=>i.cm.all λc=>B3 c.1)&&T.ow.all (HH K)then Ab (is.map (B8 T K))else none
def kE{T:Tab}{K:Frag}{h:Heap}{f:Str->Option Value}(X:K.In h)(G:h.Ns mainGlobals f):∀{is:List Inf} {J:List Fn},Ab (is.map (B8 T K))=some J ->
  ∃d:List FI,d.map FI.tn=is.map Inf.tn/\AllOk T K f d J /\∀(j:Nat) (i:Inf),is[j]?=some i ->∃fi,d[j]?=some fi/\fi.x=i.x/\fi.ps=i.ps/\fi.cm=i.cm /\
   fi.kf=i.kf /\
   Plain K f i fi
 |[],J,e=>by cases e;exact⟨[],rfl,trivial,λj i h=>by simp at h⟩
 |i::is,J,e=>by
  rw[Y2]at e;cases q:B8 T K i with
  |none=>rw[q]at e;cases e
  |some F=>
   rw[q]at e;let⟨r,e',rfl⟩:=X7.mp e;let⟨d,a,b,c⟩:=kE X G e';let⟨fi,m,p,l,g,o,n⟩:=v5 X G q;refine⟨fi::d,by simp[a,FI.tn,Inf.tn,m,l,g],⟨o,b⟩,λj k h=>?_⟩
   cases j with
   |zero=>simp at h;subst h;exact⟨fi,rfl,m,p,l,g,n⟩
   |succ j=>exact c j k (by simpa using h)
def mem_zipIdx'{p:Inf×Nat}(h:p∈is.zipIdx):is[p.2]?=some p.1:=by
 let⟨i,k⟩:=p;have:=List.mem_zipIdx h;simp![T9,OK]at this;exact Yj.mpr ⟨by omega,this.2.2.symm⟩
def Fv(T:Tab)(is:List Inf)(J:List Fn)(h:Heap):Prop:=∃K:Frag,K.In h/\allFrom T K is=some J
def rJ{T:Tab}{ms:List Str}{J:List Fn}{K:Frag}(E:T.J=is.map Inf.tn)(H:T.kf=Dz is)(M:T.cl=Dv is)(Q:T.mt=Dj is ms)(X:K.In h)(e:allFrom T K is=some J)(G:h.Ns mainGlobals mg):
  ∃z:List FI,Sw T K mg z J /\∀(j:Nat) (i:Inf),is[j]?=some i ->∃fi,z[j]?=some fi/\fi.x=i.x/\fi.ps=i.ps/\fi.cm=i.cm /\
   fi.kf=i.kf /\
   Plain K mg i fi:=by
 unfold allFrom at e;split at e
 .rename_i r
  simp![Z1]at r;let⟨⟨⟨⟨r,P⟩,N⟩,O⟩,A⟩:=r;unfold HJ at r;let⟨z,a,b,c⟩:=kE X G e;have nm:∀i∈is,∀cm,i.cm=some cm->Aq (Bt cm.1)=cm.1:=λi hi cm I=>by
   have:=YN.mp O i hi;rw[I]at this;exact(ee this).1
  refine⟨z,⟨E.trans a.symm,b,λx u h=>adH X G (YN.mp P (x,u) (Pe h)),λx D=>?_,λy i F nd o=>?_,λy cc i F nd o=>?_,λm l C cc i F nd L=>?_,⟨λf cs h=>adC (YN.mp N (f,cs) (Pe h)),λp g=>ack X G (YN.mp A p g)⟩⟩,c⟩
  .have:=YN.mp r x D
   cases q:nsIn K mainGlobals x with
   |none=>rw[q]at this;cases this
   |some v=>
    cases v with
    |some v=>rw[q]at this;cases this
    |none=>exact mg_none_of X G q
  .rw [H]at o
   let⟨p,g,d⟩:=Rm.mp (Pe o);split at d
   .rename_i k h1 h2
    cases d;let⟨fi,w,B,_,t,s,_⟩:=c _ _ (mem_zipIdx' g);exact⟨fi,w,B,t.trans h1,s.trans h2⟩
   .cases d
  .rw [M]at o
   let⟨p,g,d⟩:=Rm.mp (Pe o);split at d
   .rename_i cm k h1 h2
    split at d
    .rename_i hi
     cases d;have n:=mem_zipIdx' g;let⟨fi,w,B,_,t,s,_⟩:=c _ _ n;refine⟨nm _ (W8 n) _ h1,fi,w,?_,s.trans h2⟩;rw[t,h1,<-hi]
    .cases d
   .cases d
  .rw [Q]at C
   let⟨R,S,d⟩:=Wl.mp (Pe C);cases d;let⟨p,g,d⟩:=Rm.mp L;split at d
   .rename_i cm k h1 h2
    split at d
    .rename_i hi
     cases d;have n:=mem_zipIdx' g;let⟨fi,w,B,_,t,s,_⟩:=c _ _ n;refine⟨fi,w,?_,s.trans h2⟩;rw[t,h1,nm _ (W8 n) _ h1,<-hi]
    .cases d
   .cases d
 .cases e
def abL{l:OpenLaw}{q:Program}{loose:List Str}{XP:(Str->Option Value)->Heap->Prop}{y:DefRec}{T:Tab}{ms:List Str}{J:List Fn}
  (L:l.most=some 63) (t:y.params.defaults=[]) (I:Zc (2*d+2) callerA) (XI:T.J=is.map Inf.tn) (M:T.kf=Dz is) (Xy:T.cl=Dv is) (Ua:T.mt=Dj is ms) (hi:is[i]?=some ⟨y.name,N,[x],none,none⟩)
  (S6:∀ns:List Int,ns.length<=63 ->∃fu g',Aa J fu d i [.Zx (ns.map U.int)] []=.ok (.bl true) g') :
  WalkO q loose XP (λ_ h=>Fv T is J h) l.row.toRowW y [] (λf vs=>PySem.call f vs):=by
 refine Att.attach_call L t λw Zf Zz mg mb C o pm cd doc a vs ns G Z_ ho hd W1 r Tw j c O=>?_;let⟨K,F,V⟩:=Z_;let⟨YS,PG,Q⟩:=rJ XI M Xy Ua F V G.T.g;let⟨B,D,Z,Y,W,e6,X⟩:=Q i _ hi;let⟨Fi,ei,Z9⟩:=PG.all.get D;let⟨f,fd,m1,A,m3⟩:=Z9.obj;unfold FAt at m1;rw[W]at m1;have E:mg B.x=some (.ref f):=m1;have m1:=E;rw[Z,r]at m1;cases m1;refine tH (CX:=Xz) (k:=2*d+2) (x:=x) (fd:=fd) (sp:=WL K J d i 1) F G.T.g G.T.b G.T.builtins G.T.nolimit O Tw j (G6 c #[1]) I (λbase kb nb=>?_) (λs u=>?_) (λH S R=>?_) λH e s' z=>z
 .have:=mY (P:=l.prog) (w:=w) (base:=base) PG d i B D C fd A
  rw[Y]at this;exact this
 .exact .of_eq (X rfl rfl C fd E A [u] rfl)
 .obtain ⟨fu,g',e⟩:=S6 ns c
  exact aaa S R e
open PySem PySem.Spec PyProof.Rows L2 PySem.W PySem.Calls
noncomputable section
def wW(p:Program)(w:World)(N:Nat):openEnds treeTable p w N=endsF p w N:=by
 unfold openEnds fencedOpening topFrom endsF HK;rw[Fast.te10274390034422433532,Fast.te14364793385576792824,Fast.te1435165496053646825,Fast.te14289696077712309145,Fast.te14082659384304107361]
 rfl
def BA(p:Program):DefRec:=match p.main.body.getD (p.main.body.length-1) (.Pass ⟨0,0,0,0⟩)with
 |.FunctionDef n a b _ _ _ sc _ _ ps=>⟨n,a,b,sc,ps⟩
 |_=>⟨"",Co (.Pass ⟨0,0,0,0⟩),[],Bk (.Pass ⟨0,0,0,0⟩),⟨0,0,0,0⟩⟩
def zV{c:Type}{o:Option α}{f:α->β}{g:α->c}{a:β}{b:c}(h:o.map (λs=>(f s,g s))=some (a,b)):o.map f=some a:=by
 cases o with
 |none=>cases h
 |some s=>cases h;rfl
def yw{c:Type}{o:Option α}{f:α->β}{g:α->c}{a:β}{b:c}(h:o.map (λs=>(f s,g s))=some (a,b)):o.map g=some b:=by
 cases o with
 |none=>cases h
 |some s=>cases h;rfl
def lX{d c:Type}{f:d->Option c}:∀{l m:List d} {a b:List c},Ab (l.map f)=some a->Ab (m.map f)=some b->Ab ((l++m).map f)=some (a++b)
 |[],m,a,b,h1,h2=>by cases h1;exact h2
 |x::l,m,a,b,h1,h2=>by
  rw[Y2]at h1;rw[Qr,Y2];cases e:f x with
  |none=>rw[e]at h1;cases h1
  |some y=>
   rw[e]at h1;cases hl:Ab (l.map f)with
   |none=>simp![Ab,hl]at h1;cases h1
   |some ys=>
    have ih:=lX hl h2;simp![Ab,hl]at h1;simp![Ab,ih];cases h1
    rfl
def fV{f:α->Option β}{l:List α}{m:List β}{k c:Nat}(b:Ab ((l.take k).map f)=some (m.take k))(a:Ab (((l.drop k).take c).map f)=some ((m.drop k).take c)):Ab ((l.take (k+c)).map f)=some (m.take (k+c)):=by
 rw[Pc,Pc];exact lX b a
def uf{o:Option Shared}{k c:Nat}(a:o.map (λs=>(is.take k).map (BO (A4 s.heap)))=some (rs.take k))(b:o.map (λs=>((is.drop k).take c).map (BO (A4 s.heap)))=some ((rs.drop k).take c)):o.map (λs=>(is.take (k+c)).map (BO (A4 s.heap)))=some (rs.take (k+c)):=by
 cases o with
 |none=>cases a
 |some s=>
  simp![VO,Xc]at a b ⊢;rw[Pc,Pc,T_,a,b]
def abI{o:Option Shared}{f:Shared->β}{b:β}{T:Tab}{J:List Fn}{k:Nat}(a:o.map (λs=>D9 T (A4 s.heap) is)=some true)(d:o.map f=some b)
  (c:o.map (λs=>(is.take k).map (BO (A4 s.heap)))=some (rs.take k)) (h:Ab (((is.zip rs).take k).map (mkF T))=some (J.take k)) (e:is.length<=k) (j:J.length<=k) (g:rs.length<=k):o.map (λs=>(f s,allFrom T (A4 s.heap) is))=some (b,some J):=by
 rw[UK (G6 (List.length_zip ▸ Nat.min_le_left _ _) e),UK j]at h;rw[UK e,UK g]at c;cases o with
 |none=>cases a
 |some s=>
  simp![VO,Xc,QA]at a d c ⊢;refine⟨d,?_⟩;unfold allFrom;unfold D9 at a;rw[Yn a,<-h];congr 1;rw[<-c];generalize is=l
  induction l with
  |nil=>rfl
  |cons i l ih=>rw[Y2,Y2,Rn,Y2,ih,B8]
def aaP{l:OpenLaw}{T:Tab}{ms:List Str}{J:List Fn}{loose C:List Str}{N:Nat}
  (a:Fast.tw9446332074065402090 l=true)
  (m:∀w,(endsF l.prog w N).map (λs=>(Fast.tw4187177175401517315 (lastOf l.prog) loose (importedModules l.prog.main.body) (λ_=>true) true s,allFrom T (A4 s.heap) is))=some (openGood (lastOf l.prog) loose,some J))
  (u:defOf (lastOf l.prog) l.name=some (BA l.prog,[])) (t:l.prog.theDef l.name=some ((BA l.prog).params,(BA l.prog).body,(BA l.prog).scope)) (p:kwWritten? (BA l.prog).params.kwonlyargs (BA l.prog).params.kw_defaults=some [])
  (o:(BA l.prog).params.defaults=[])
  (ok:(chainsOk (lastOf l.prog)&&opensWell l.prog&&(frees l.row.toRowW&&l.row.within.isEmpty))=true) (n:l.prog.bare) (g:l.row.toRowW.promised)
  (k:l.most=some 63) (j:Zc (2*d+2) callerA) (y:T.J=is.map Inf.tn) (b:T.kf=Dz is) (v:T.cl=Dv is) (z:T.mt=Dj is ms) (hi:is[i]?=some ⟨(BA l.prog).name,C,[x],none,none⟩)
  (A:∀ns:List Int,ns.length<=63 ->∃fu g',Aa J fu d i [.Zx (ns.map U.int)] []=.ok (.bl true) g'):l.Holds:=by
 have sd:l.wellSaid=true:=by rw[Fast.te9446332074065402090];exact a
 refine holds_law sd λB=>?_;refine holds_open (r:=l.row) (q:=lastOf l.prog) (loose:=loose) (Xt:=λ_=>true) (XP:=λ_ _=>True) (Yf:=λs=>allFrom T (A4 s.heap) is) (Ya:=λ_=>some J) (YP:=λ_ h=>Fv T is J h) (N:=N) (d:=BA l.prog) (kwd:=[]) ?_
  (λw s e=>⟨A4 s.heap,u9 _,e⟩) (λw h h' ⟨K,f,c⟩ b=>⟨K,f.keeps b,c⟩) (λ_ _=>trivial) (λ_ _ _ _ _=>trivial) u t p (λs _=>recFacts_nil rfl) (by simp[OpenLaw.row]) B ok n g (abL k o j y b v z hi A)
 intro w;have:=m w;rw[<-wW,<-Fast.te4187177175401517315]at this;exact this
end
end
end PI
section
open PySem PySem.W PyProof.Rows
def ZE.all(w:World):(PI.endsF PySem.Challenge.rw_braemantle_k29_whole_no_crack.prog w 20000).map (λs=>(Fast.tw4187177175401517315 (PI.lastOf PySem.Challenge.rw_braemantle_k29_whole_no_crack.prog) ZE.loose (PySem.importedModules #[0]) (λ_=>true) true s,PI.allFrom ZE.T (PI.A4 s.heap) ZE.Bf))=some (openGood (PI.lastOf PySem.Challenge.rw_braemantle_k29_whole_no_crack.prog) ZE.loose,some ZE.J):=PI.abI (k:=40) (PI.yw (ZE.SW w)) (PI.zV (ZE.SW w)) (PI.uf (k:=26) (c:=14) (ZE.chk1 w) (ZE.chk2 w)) (PI.fV (k:=37) (c:=3) (PI.fV (k:=27) (c:=10) (PI.fV (k:=16) (c:=11) (ZE.part0) ZE.part1) ZE.part2) ZE.part3) #[1] #[1] #[1]
end
variable{W:PI.XQ}{Wf:L2.XK->PI.XQ}
namespace PI
noncomputable section
noncomputable def Out.le{a:Type}(o o':Out a):Prop:=o=.ZV\/o=o'
def Out.le.rfl{o:Out α}:o.le o:=.inr (Eq.refl _)
def Out.le.bot{o:Out α}:(Out.ZV:Out α).le o:=.inl (Eq.refl _)
def Out.le.trans{a b c:Out α}(h:a.le b)(k:b.le c):a.le c:=by
 rcases h with rfl|rfl
 .exact .bot
 .exact k
def ag{o o':Out α}{k b:α->G->Out β}(h:o.le o')(d:∀a g,(k a g).le (b a g)):(o.bind k).le (o'.bind b):=by
 rcases h with rfl|rfl
 .exact .bot
 .cases o with
  |ok a g=>exact d a g
  |exc c fs g=>exact .rfl
  |ZV=>exact .bot
def aW{o o':Out α}{k b:α->G->Out β}(h:o.le o')(d:∀a g,(k a g).le (b a g)):(o.bindB k).le (o'.bindB b):=by
 rcases h with rfl|rfl
 .exact .bot
 .cases o with
  |ok a g=>exact d a g
  |exc c fs g=>exact .rfl
  |ZV=>exact .bot
def aG{o o':Out α}(h:o.le o'):o.YM.le o'.YM:=by
 rcases h with rfl|rfl
 .exact .bot
 .exact .rfl
def xb{o o':Out U}{c:Nat}{xs:List (Option U)}{Y:Su}(h:o.le o'):(Eh o j c xs Y).le (Eh o' j c xs Y):=by
 rcases h with rfl|rfl
 .exact .bot
 .exact .rfl
abbrev CC:=Nat->List U->G->Out U
structure Z7.le(r r':Z7):Prop where
 ev:∀e Y g,(r.ev e Y g).le (r'.ev e Y g)
 ts:∀e Y g,(r.ts e Y g).le (r'.ts e Y g)
 ex:∀e Y g,(r.ex e Y g).le (r'.ex e Y g)
 wh:∀e b Y g,(r.wh e b Y g).le (r'.wh e b Y g)
 fr:∀t it i b Y g,(r.fr t it i b Y g).le (r'.fr t it i b Y g)
 cm:∀it i t cs ZQ elt ZS Y g,(r.cm it i t cs ZQ elt ZS Y g).le (r'.cm it i t cs ZQ elt ZS Y g)
section
variable{C C':CC}{r':Z7}
def aJ{f a:E->Su->G->Out U}(h:∀e Y g,(f e Y g).le (a e Y g)):∀es Y g,(Ji f es Y g).le (Ji a es Y g)
 |[],_,_=>.rfl
 |e::es,Y,g=>ag (h e Y g) λ_ _=>ag (aJ h es _ _) λ_ _=>.rfl
def nv{f a:E->Su->G->Out U}(h:∀e Y g,(f e Y g).le (a e Y g)):∀e Y g,(Jj f e Y g).le (Jj a e Y g)
 |none,_,_=>.rfl
 |some e,Y,g=>ag (h e Y g) λ_ _=>.rfl
def eC{f a:E->Su->G->Out Bool}(h:∀e Y g,(f e Y g).le (a e Y g)):∀es Y g,(Az f es Y g).le (Az a es Y g)
 |[],_,_=>.rfl
 |e::es,Y,g=>ag (h e Y g) λk _=>by
  cases k
  .exact .rfl
  .exact eC h es _ _
local macro_rules|`(tactic|sleep 8)=>do
 let a<-("Out.le.rfl Out.le.bot Z7.le.ev Z7.le.ts Z7.le.ex Z7.le.wh Z7.le.fr Z7.le.cm aJ nv eC ag aW".splitOn " ").toArray.mapM fun s=>`(tactic|apply $(Lean.mkIdent s.toName))
 `(tactic|(repeat first $[|$a:tactic]*|assumption|intro _|split))
def b7(h:r.le r')(e:E)(Y:Su)(g:G):(Jl r e Y g).le (Jl r' e Y g):=by
 cases e<;>(delta Jl;dsimp only)<;>sleep 8
def r9{C C':CC}(a:∀f S g,(C f S g).le (C' f S g)){op:Cp}{x:U}{g:G}:(B6 C op tb x y g).le (B6 C' op tb x y g):=by
 cases op with
 |eq=>
  simp![B6];cases Ci tb x y g with
  |none=>exact .rfl
  |some p=>exact ag (a _ _ _) λ_ _=>.rfl
 |ne=>
  simp![B6];cases Ci tb x y g with
  |none=>exact .rfl
  |some p=>exact ag (a _ _ _) λ_ _=>.rfl
 |Xn=>
  simp![B6];cases Jn y g with
  |none=>exact .rfl
  |some w=>
   dsimp only;split
   .cases Ci tb w x g with
    |none=>exact .rfl
    |some p=>exact ag (a _ _ _) λ_ _=>.rfl
   .exact .rfl
 |_=>exact .rfl
def gN(d:∀f S g,(C f S g).le (C' f S g))(h:r.le r')(e:E)(Y:Su)(g:G):(Jo C r e Y g).le (Jo C' r' e Y g):=by
 cases e with
 |call f es=>exact ag (aG (aJ h.ev _ _ _)) λS g=>d f S g
 |oeq op tb a b=>exact ag (h.ev _ _ _) λx g=>ag (h.ev _ _ _) λy g=>r9 d
 |UX f es ks pm=>
  refine ag (aG (aJ h.ev _ _ _)) λS g=>ag (aG (aJ h.ev _ _ _)) λws g=>?_;split
  .exact d _ _ _
  .exact .rfl
 |make c f es ks pm=>
  refine ag (aG (aJ h.ev _ _ _)) λS g=>ag (aG (aJ h.ev _ _ _)) λws g=>?_;split
  .exact ag (d _ _ _) λu g=>.rfl
  .exact .rfl
 |XG a j tb es ks=>
  refine ag (aG (h.ev _ _ _)) λx g=>?_;split
  .refine ag (aG (aJ h.ev _ _ _)) λS g=>ag (aG (aJ h.ev _ _ _)) λws g=>?_
   split
   .exact d _ _ _
   .exact .rfl
  .exact .rfl
 |comp own fr gs elt=>
  cases gs with
  |nil=>exact .rfl
  |cons t ZQ=>
   let⟨t,it,cs⟩:=t;exact ag (b7 h _ _ _) λi g=>aW (h.cm _ _ _ _ _ _ _ _ _) λ_ _=>.rfl
 |Wh own fr gs k v=>
  cases gs with
  |nil=>exact .rfl
  |cons t ZQ=>
   let⟨t,it,cs⟩:=t;exact ag (b7 h _ _ _) λi g=>aW (h.cm _ _ _ _ _ _ _ _ _) λ_ _=>.rfl
 |dgt o k x=>
  refine ag (h.ev _ _ _) λx g=>?_;split
  .exact ag (h.ev _ _ _) λ_ g=>ag (h.ev _ _ _) λ_ g=>.rfl
  .exact .rfl
 |_=>delta Jo;dsimp only;sleep 8
def gM(h:r.le r')(e:E)(Y:Su)(g:G):(Jp r e Y g).le (Jp r' e Y g):=by
 cases e<;>(delta Jp;dsimp only)<;>sleep 8
def mX(h:r.le r')(s:Z6)(Y:Su)(g:G):(Jr r s Y g).le (Jr r' s Y g):=by
 cases s with
 |«for» t it b=>exact ag (b7 h _ _ _) λi g=>h.fr _ _ _ _ _ _
 |VX b=>exact aG (h.ex _ _ _)
 |ifx c a b=>exact ag (aG (h.ts _ _ _)) λk g=>by cases k<;>exact h.ex _ _ _
 |SY t it b=>exact ag (aG (b7 h _ _ _)) λi g=>h.fr _ _ _ _ _ _
 |raise c es=>exact ag (aG (aJ h.ev _ _ _)) λS g=>.rfl
 |SX j f es c xs=>exact xb (h.ev _ _ _)
 |_=>delta Jr;dsimp only;sleep 8
def hX(h:r.le r')(a:List Z6)(Y:Su)(g:G):(Js r a Y g).le (Js r' a Y g):=by
 cases a with
 |nil=>exact .rfl
 |cons s ZQ=>exact ag (mX h _ _ _) λf g=>by cases f<;>sleep 8
def hV(h:r.le r')(c:E)(b:List Z6)(Y:Su)(g:G):(Jt r c b Y g).le (Jt r' c b Y g):=by
 unfold Jt;sleep 8
def gS(h:r.le r')(t:Tg)(it:Iter)(i:Nat)(b:List Z6)(Y:Su)(g:G):(Ju r t it i b Y g).le (Ju r' t it i b Y g):=by
 unfold Ju;sleep 8
def hZ(h:r.le r')(it:Iter)(i:Nat)(t:Tg)(c:List E)(b:List (Tg×E×List E))(a:E)(d:List U)(Y:Su)(g:G):(Jv r it i t c b a d Y g).le (Jv r' it i t c b a d Y g):=by
 unfold Jv;split
 .sleep 8
 .sleep 8
 .split
  .split
   .sleep 8
   .refine aW (eC h.ts _ _ _) λk g=>?_
    split
    .cases b with
     |nil=>exact aW (h.ev _ _ _) λv g=>by sleep 8
     |cons t b=>
      let⟨e,X9,f⟩:=t;exact aW (b7 h _ _ _) λj g=>aW (h.cm _ _ _ _ _ _ _ _ _) λ_ _=>h.cm _ _ _ _ _ _ _ _ _
    .sleep 8
  .sleep 8
def av(a:∀f S g,(C f S g).le (C' f S g)):∀{m n:Nat},m<=n->(Jw C m).le (Jw C' n)
 |0,n,_=>⟨λ_ _ _=>.bot,λ_ _ _=>.bot,λ_ _ _=>.bot,λ_ _ _ _=>.bot,λ_ _ _ _ _ _=>.bot,λ_ _ _ _ _ _ _ _ _=>.bot⟩
 |m+1,0,h=>absurd h (by lia)
 |m+1,n+1,h=>by
  have ih:=av a (m:=m) (n:=n) (by lia)
  exact⟨gN a ih,gM ih,hX ih,hV ih,gS ih,hZ ih⟩
def xt(a:∀f S g,(C f S g).le (C' f S g))(h:m<=n)(F:Fn)(S:List U)(g:G):(BL m C F S g).le (BL n C' F S g):=by
 unfold BL;split
 .exact ag ((av a h).ex _ _ _) λf g=>.rfl
 .exact .rfl
def fP{J:List Fn}{m n:Nat}(h:m<=n):∀(d f:Nat) (S:List U) (g:G),(Aa J m d f S g).le (Aa J n d f S g)
 |0,_,_,_=>.rfl
 |d+1,f,S,g=>by
  simp![Aa];split
  .exact xt (fP h d) h _ _ _
  .exact .rfl
end
abbrev XP:=Nat->List U->G->Prop
def holds{b:Type}(o:Out b)(X:XP)(Q:b->G->Prop):Prop:=match o with
 |.ok a g=>Q a g
 |.exc c fs g=>X c fs g
 |.ZV=>False
def wp{a:Type}(f:Nat->Out a)(X:XP)(Q:a->G->Prop):Prop:=∃n,holds (f n) X Q
def As{a:Type}(f:Nat->Out a):Prop:=∀m n,m<=n->(f m).le (f n)
section
variable{f f':Nat->Out α}{k k':Nat->α->G->Out β}{X:XP}{Q:α->G->Prop}{R:β->G->Prop}
def dJ{o o':Out α}(h:o.le o')(q:holds o X Q):holds o' X Q:=by
 rcases h with rfl|rfl
 .exact q.elim
 .exact q
def fE{o:Out α}{k:α->G->Out β}:holds (o.bind k) X R↔holds o X λa g=>holds (k a g) X R:=by cases o<;>exact Y6
def iM{o:Out α}{k:α->G->Out β}:holds (o.bindB k) X R↔holds o (λ_ _ _=>False) λa g=>holds (k a g) X R:=by cases o<;>exact Y6
def fB{o:Out α}{Q':α->G->Prop}(h:∀a g,Q a g->Q' a g)(q:holds o X Q):holds o X Q':=by
 cases o with
 |ok a g=>exact h a g q
 |exc c fs g=>exact q
 |ZV=>exact q
def wp_mono{Q':α->G->Prop}(q:wp f X Q)(h:∀a g,Q a g->Q' a g):wp f X Q':=let⟨n,z⟩:=q;⟨n,fB h z⟩
def aa{o:Out α}:wp (λ_=>o) X Q↔holds o X Q:=⟨λ⟨_,h⟩=>h,λh=>⟨0,h⟩⟩
def wp_bind(d:As f)(b:∀a g,As λn=>k n a g):wp (λn=>(f n).bind (k n)) X R↔wp f X λa g=>wp (λn=>k n a g) X R:=by
 constructor
 .rintro ⟨n,h⟩
  rw[fE]at h;exact⟨n,fB (λa g q=>⟨n,q⟩) h⟩
 .rintro ⟨n,h⟩
  cases e:f n with
  |ok a g=>
   rw[e]at h;let⟨m,h⟩:=h;refine⟨max n m,?_⟩;rw[fE];have h1:f (max n m)=.ok a g:=by
    rcases d n (max n m) (Nat.le_max_left _ _)with z|z
    .rw [e]at z;cases z
    .rw [<-z,e]
   rw[h1];show holds (k (max n m) a g) X R;exact dJ (b a g m (max n m) (Nat.le_max_right _ _)) h
  |exc c fs g=>rw[e]at h;exact⟨n,by rw[fE,e];exact h⟩
  |ZV=>rw[e]at h;exact h.elim
def aA(d:As f)(b:∀a g,As λn=>k n a g):wp (λn=>(f n).bindB (k n)) X R↔wp f (λ_ _ _=>False) λa g=>wp (λn=>k n a g) X R:=by
 constructor
 .rintro ⟨n,h⟩
  rw[iM]at h;exact⟨n,fB (λa g q=>⟨n,q⟩) h⟩
 .rintro ⟨n,h⟩
  cases e:f n with
  |ok a g=>
   rw[e]at h;let⟨m,h⟩:=h;refine⟨max n m,?_⟩;rw[iM];have h1:f (max n m)=.ok a g:=by
    rcases d n (max n m) (Nat.le_max_left _ _)with z|z
    .rw [e]at z;cases z
    .rw [<-z,e]
   rw[h1];show holds (k (max n m) a g) X R;exact dJ (b a g m (max n m) (Nat.le_max_right _ _)) h
  |exc c fs g=>rw[e]at h;exact h.elim
  |ZV=>rw[e]at h;exact h.elim
def b8(h:∀n,∃m,(f n).le (f' m))(h':∀n,∃m,(f' n).le (f m)):wp f X Q↔wp f' X Q:=
 ⟨λ⟨n,q⟩=>let⟨m,z⟩:=h n;⟨m,dJ z q⟩,λ⟨n,q⟩=>let⟨m,z⟩:=h' n;⟨m,dJ z q⟩⟩
end
section
variable(J:List Fn)(d:Nat)
abbrev cA(n:Nat):CC:=Aa J n d
abbrev lv(n:Nat):Z7:=Jw (Aa J n d) n
def JC(f:Nat)(S:List U)(g:G)(X:XP)(Q:U->G->Prop):Prop:=wp (λn=>Aa J n d f S g) X Q
def JD(e:E)(Y:Su)(g:G)(X:XP)(Q:U->G->Prop):Prop:=wp (λn=>(lv J d n).ev e Y g) X Q
def JE(e:E)(Y:Su)(g:G)(X:XP)(Q:Bool->G->Prop):Prop:=wp (λn=>(lv J d n).ts e Y g) X Q
def Ao(a:List E)(Y:Su)(g:G)(X:XP)(Q:List U->G->Prop):Prop:=wp (λn=>Ji (lv J d n).ev a Y g) X Q
def JF(e:Option E)(Y:Su)(g:G)(X:XP)(Q:Option Int->G->Prop):Prop:=wp (λn=>Jj (lv J d n).ev e Y g) X Q
def JG(a:List E)(Y:Su)(g:G)(X:XP)(Q:Bool->G->Prop):Prop:=wp (λn=>Az (lv J d n).ts a Y g) X Q
def JH(e:E)(Y:Su)(g:G)(X:XP)(Q:Iter->G->Prop):Prop:=wp (λn=>Jl (lv J d n) e Y g) X Q
def JI(s:Z6)(Y:Su)(g:G)(X:XP)(Q:Fl->G->Prop):Prop:=wp (λn=>Jr (lv J d n) s Y g) X Q
def wpS(a:List Z6)(Y:Su)(g:G)(X:XP)(Q:Fl->G->Prop):Prop:=wp (λn=>(lv J d n).ex a Y g) X Q
def JJ(c:E)(b:List Z6)(Y:Su)(g:G)(X:XP)(Q:Fl->G->Prop):Prop:=wp (λn=>(lv J d n).wh c b Y g) X Q
def JK(t:Tg)(it:Iter)(i:Nat)(b:List Z6)(Y:Su)(g:G)(X:XP)(Q:Fl->G->Prop):Prop:=wp (λn=>(lv J d n).fr t it i b Y g) X Q
def JL(it:Iter)(i:Nat)(t:Tg)(b:List E)(e:List (Tg×E×List E))(a:E)(c:List U)(Y:Su)(g:G)(X:XP)(Q:List U->G->Prop):Prop:=wp (λn=>(lv J d n).cm it i t b e a c Y g) X Q
end
section
variable{J:List Fn}{X:XP}{Y:Su}
def bg(h:m<=n)(f:Nat)(S:List U)(g:G):(cA J d m f S g).le (cA J d n f S g):=fP h d f S g
def aK(h:m<=n):(lv J d m).le (lv J d n):=av (bg h) h
def mC(f:Nat)(S:List U)(g:G):As λn=>Aa J n d f S g:=λ_ _ h=>fP h d f S g
def mE(e:E)(Y:Su)(g:G):As λn=>(lv J d n).ev e Y g:=λ_ _ h=>(aK h).ev _ _ _
def mT(e:E)(Y:Su)(g:G):As λn=>(lv J d n).ts e Y g:=λ_ _ h=>(aK h).ts _ _ _
def mEs(e:List E)(Y:Su)(g:G):As λn=>Ji (lv J d n).ev e Y g:=λ_ _ h=>aJ (aK h).ev _ _ _
def mO(e:Option E)(Y:Su)(g:G):As λn=>Jj (lv J d n).ev e Y g:=λ_ _ h=>nv (aK h).ev _ _ _
def mA(e:List E)(Y:Su)(g:G):As λn=>Az (lv J d n).ts e Y g:=λ_ _ h=>eC (aK h).ts _ _ _
def mI(e:E)(Y:Su)(g:G):As λn=>Jl (lv J d n) e Y g:=λ_ _ h=>b7 (aK h) _ _ _
def m1(e:Z6)(Y:Su)(g:G):As λn=>Jr (lv J d n) e Y g:=λ_ _ h=>mX (aK h) _ _ _
def mS(e:List Z6)(Y:Su)(g:G):As λn=>(lv J d n).ex e Y g:=λ_ _ h=>(aK h).ex _ _ _
def mW(e:E)(b:List Z6)(Y:Su)(g:G):As λn=>(lv J d n).wh e b Y g:=λ_ _ h=>(aK h).wh _ _ _ _
def mF(t:Tg)(it:Iter)(i:Nat)(b:List Z6)(Y:Su)(g:G):As λn=>(lv J d n).fr t it i b Y g:=λ_ _ h=>(aK h).fr _ _ _ _ _ _
def mM(it:Iter)(i:Nat)(t:Tg)(b:List E)(e:List (Tg×E×List E))(a:E)(c:List U)(Y:Su)(g:G):As λn=>(lv J d n).cm it i t b e a c Y g:=λ_ _ h=>(aK h).cm _ _ _ _ _ _ _ _ _
def mK(o:Out α):As λ_=>o:=λ_ _ _=>.rfl
def mB{f:Nat->Out α}{k:Nat->α->G->Out β}(h:As f)(b:∀a g,As λn=>k n a g):As λn=>(f n).bind (k n):=λm n z=>ag (h m n z) λa g=>b a g m n z
def mBB{f:Nat->Out α}{k:Nat->α->G->Out β}(h:As f)(b:∀a g,As λn=>k n a g):As λn=>(f n).bindB (k n):=λm n z=>aW (h m n z) λa g=>b a g m n z
def aj{e:E}{Q:U->G->Prop}:JD J d e Y g X Q↔wp (λn=>Jo (cA J d n) (lv J d n) e Y g) X Q:=
 b8 (λn=>match n with
  |0=>⟨0,.bot⟩
  |n+1=>⟨n+1,gN (C:=cA J d (n+1)) (λ_ _ _=>.rfl) (av (λ_ _ _=>.rfl) (V8 n)) e Y g⟩) λn=>⟨n+1,gN (C:=cA J d n) (C':=cA J d (n+1)) (bg (V8 n)) (av (bg (V8 n)) (G8 n)) e Y g⟩
def eI{e:E}{Q:Bool->G->Prop}:JE J d e Y g X Q↔wp (λn=>Jp (lv J d n) e Y g) X Q:=
 b8 (λn=>match n with
  |0=>⟨0,.bot⟩
  |n+1=>⟨n+1,gM (av (λ_ _ _=>.rfl) (V8 n)) e Y g⟩) λn=>⟨n+1,gM (av (bg (V8 n)) (G8 n)) e Y g⟩
def nu{e:List Z6}{Q:Fl->G->Prop}:wpS J d e Y g X Q↔wp (λn=>Js (lv J d n) e Y g) X Q:=
 b8 (λn=>match n with
  |0=>⟨0,.bot⟩
  |n+1=>⟨n+1,hX (av (λ_ _ _=>.rfl) (V8 n)) e Y g⟩) λn=>⟨n+1,hX (av (bg (V8 n)) (G8 n)) e Y g⟩
def yU{b:List Z6}{Q:Fl->G->Prop}:JJ J d c b Y g X Q↔wp (λn=>Jt (lv J d n) c b Y g) X Q:=
 b8 (λn=>match n with
  |0=>⟨0,.bot⟩
  |n+1=>⟨n+1,hV (av (λ_ _ _=>.rfl) (V8 n)) c b Y g⟩) λn=>⟨n+1,hV (av (bg (V8 n)) (G8 n)) c b Y g⟩
def zd{t:Tg}{b:List Z6}{Q:Fl->G->Prop}:JK J d t it i b Y g X Q↔wp (λn=>Ju (lv J d n) t it i b Y g) X Q:=
 b8 (λn=>match n with
  |0=>⟨0,.bot⟩
  |n+1=>⟨n+1,gS (av (λ_ _ _=>.rfl) (V8 n)) t it i b Y g⟩) λn=>⟨n+1,gS (av (bg (V8 n)) (G8 n)) t it i b Y g⟩
def yY{t:Tg}{a:List (Tg×E×List E)}{Q:List U->G->Prop}:JL J d it i t cs a elt ZS Y g X Q↔wp (λn=>Jv (lv J d n) it i t cs a elt ZS Y g) X Q:=
 b8 (λn=>match n with
  |0=>⟨0,.bot⟩
  |n+1=>⟨n+1,hZ (av (λ_ _ _=>.rfl) (V8 n)) it i t cs a elt ZS Y g⟩) λn=>⟨n+1,hZ (av (bg (V8 n)) (G8 n)) it i t cs a elt ZS Y g⟩
end
local macro_rules|`(tactic|sleep 9)=>do
 let a<-("mE mT mEs mO mA mI mS mC mW mF mM mK mB mBB".splitOn " ").toArray.mapM fun s=>`(tactic|apply $(Lean.mkIdent s.toName))
 `(tactic|(intros;repeat first $[|$a:tactic]*|intro _))
def wp_congr{f:Nat->Out α}{X:XP}{Q Q':α->G->Prop}(h:∀a g,Q a g↔Q' a g):wp f X Q↔wp f X Q':=⟨λq=>wp_mono q λa g=>(h a g).1,λq=>wp_mono q λa g=>(h a g).2⟩
inductive Lk{α:Sort u}(a:α):Type
 |mk:Lk a
@[reducible] def lk{b:Sort u}(a:b):Lk a:=.mk
def JM{b:Type}(o:Option b){Q:b->Prop}(_:Lk Q):Prop:=match o with
 |some a=>Q a
 |none=>False
def JN(k:Bool){A B:Prop}(_:Lk A)(_:Lk B):Prop:=match k with
 |true=>A
 |false=>B
def JO(f:Fl){A:Su->Prop}{B:Fl->Prop}(_:Lk A)(_:Lk B):Prop:=match f with
 |.nx Y=>A Y
 |f=>B f
def JP(f:Fl){A:Su->Prop}{B:Fl->Prop}(_:Lk A)(_:Lk B):Prop:=match f with
 |.nx Y=>A Y
 |.ct Y=>A Y
 |.bk Y=>B (.nx Y)
 |.rt u=>B (.rt u)
def JQ(f:Fl){Q:U->Prop}(_:Lk Q):Prop:=match f with
 |.rt u=>Q u
 |.nx _=>Q .ZK
 |_=>False
def gu{a:α}{Q:α->Prop}:JM (some a) (lk Q)=Q a:=propext Y6
def oj{A B:Prop}:JN true (lk A) (lk B)=A:=propext Y6
def bh_f{A B:Prop}:JN false (lk A) (lk B)=B:=propext Y6
def ab{k:Bool}{A B:Prop}(h:k=true->A)(h':k=false->B):JN k (lk A) (lk B):=by cases k;exact h' rfl;exact h rfl
def cf{k:Bool}{A B:Prop}:(if k=true then A else B)↔JN k (lk A) (lk B):=by cases k<;>simp[JN]
def abP{Y:Su}{A:Su->Prop}{B:Fl->Prop}:JP (.nx Y) (lk A) (lk B)=A Y:=propext Y6
def ad5{A:Su->Prop}{B:Fl->Prop}:JP (.rt u) (lk A) (lk B)=B (.rt u):=propext Y6
def abM{Q:U->Prop}:JQ (.rt u) (lk Q)=Q u:=propext Y6
def aN{o:Option α}{Q:α->Prop}:(∃a,o=some a/\Q a)↔JM o (lk Q):=by
 cases o with
 |none=>exact⟨λ⟨_,e,_⟩=>(by cases e),λh=>h.elim⟩
 |some a=>exact⟨λ⟨_,e,h⟩=>(by cases e;exact h),λh=>⟨a,rfl,h⟩⟩
def hk{a:Type}(o:Out a)(X:XP){Q:a->G->Prop}(_:Lk Q):Prop:=holds o X Q
def adO{a:α}{X:XP}{Q:α->G->Prop}:hk (.ok a g) X (lk Q)=Q a g:=propext Y6
section
variable{J:List Fn}{X:XP}{Y:Su}
def JR(J:List Fn)(d f:Nat)(S:List U)(g:G)(X:XP){Q:U->G->Prop}(_:Lk Q):Prop:=JC J d f S g X Q
def JS(J:List Fn)(d:Nat)(it:Iter)(i:Nat)(t:Tg)(b:List E)(e:List (Tg×E×List E))(a:E)(c:List U)(Y:Su)(g:G)(X:XP){Q:List U->G->Prop}(_:Lk Q):Prop:=JL J d it i t b e a c Y g X Q
def JT(J:List Fn)(d:Nat)(t:Tg)(it:Iter)(i:Nat)(b:List Z6)(Y:Su)(g:G)(X:XP){Q:Fl->G->Prop}(_:Lk Q):Prop:=JK J d t it i b Y g X Q
def JU(J:List Fn)(d:Nat)(c:E)(b:List Z6)(Y:Su)(g:G)(X:XP){Q:Fl->G->Prop}(_:Lk Q):Prop:=JJ J d c b Y g X Q
def CQ(x:U)(l h:Option Int)(g:G):Out U:=match x with
  |.ZW xs=>if HT.sIx xs.length 0 l=0/\HT.sIx xs.length xs.length h=xs.length then .ZV else .ok (.ZW (Bh xs l h)) g
  |.Zx xs=>alloc (.Z5 (Bh xs l h)) g
  |.ref n=>match g[n]? with
   |some (.Z5 xs)=>alloc (.Z5 (Bh xs l h)) g
   |_=>.ZV
  |_=>.ZV
def Bg(n:Nat):Bool:=@decide (n<=Ac) (Classical.propDecidable _)
def j9(h:n<=16777000):Bg n=true:=by unfold Bg;exact @decide_eq_true _ (Classical.propDecidable _) h
def jD:Bg n=true↔n<=Ac:=by unfold Bg;exact @decide_eq_true_iff _ (Classical.propDecidable _)
def CG(x:U)(g:G):Option (List U):=match x with
 |.ref n=>match g[n]? with
  |some (.Z5 xs)=>some xs
  |_=>none
 |_=>none
def qb{o:Option α}{Q:α->G->Prop}:holds (lift o g) X Q ↔ ∃a,o=some a/\Q a g:=by
 cases o with
 |none=>exact⟨λh=>h.elim,λ⟨_,e,_⟩=>by cases e⟩
 |some a=>exact⟨λh=>⟨a,rfl,h⟩,λ⟨b,e,h⟩=>by cases e;exact h⟩
def cL{o:Option α}{Q:α->G->Prop}:holds (lift o g) X Q↔JM o (lk λa=>Q a g):=by cases o<;>exact Y6
def kY{o:Option Bool}{Q:U->G->Prop}:holds (match o with|some c=>Out.ok (U.bl c) g|none=>.ZV) X Q↔JM o (lk λc=>Q (.bl c) g):=by cases o<;>exact Y6
def dU{o:Option α}{Q Q':α->Prop}(h:∀a,Q a↔Q' a):JM o (lk Q)↔JM o (lk Q'):=by
 cases o with
 |none=>exact Y6
 |some a=>exact h a
def optN{o:Option Nat}{f:Nat->Nat->Out α}{Q:α->G->Prop}:wp (λn=>match o with|some k=>f n k|none=>.ZV) X Q↔JM o (lk λk=>wp (λn=>f n k) X Q):=by
 cases o with
 |none=>exact aa
 |some a=>exact Y6
def nR{Q:U->G->Prop}:holds (if n<=Ac then Out.ok u g' else .ZV) X Q↔JN (Bg n) (lk (Q u g')) (lk False):=by
 rw[<-cf];by_cases h:n<=Ac
 .rw [Yn h,Yn (jD.mpr h)];exact Y6
 .rw [Yb h,Yb (λz=>h (jD.mp z))];exact Y6
def ob(op:Op)(x y:U)(g:G)(X:XP){Q:U->G->Prop}(_:Lk Q):Prop:=holds (Br op x y g) X Q
def ob_i{i:Int}{X:XP}{Q:U->G->Prop}:ob op (.int i) y g X (lk Q)=JM (IV op (.int i) y) (lk λz=>Q z g):=propext (by
 unfold ob;refine Iff.trans (?_:_↔holds (lift (IV op (.int i) y) g) X Q) cL;exact Y6)
def xX{a:List U}{X:XP}{Q:U->G->Prop}(d:g[n]?=some (.Z5 xs))(c:g[m]?=some (.Z5 a))(b:xs.length+a.length<=Ac)(h:Q (.ref g.length) (g++[.Z5 (xs++a)])):ob .add (.ref n) (.ref m) g X (lk Q):=by
 unfold ob Br Bd;simp![d,c];rw[Yn b];exact h
section
variable{Q:U->G->Prop}
def adZ:JD J d (.L i) Y g X Q↔JM Y[i]? (lk λo=>JM o (lk λu=>Q u g)):=by
 rw[aj];delta Jo;simp![aa];cases Y[i]? with
 |none=>exact Y6
 |some o=>cases o<;>exact Y6
def nI:JD J d (.ZZ u) Y g X Q↔Q u g:=by rw[aj];delta Jo;simp![aa];rfl
def nP{a b:E}:JD J d (.ZT op a b) Y g X Q↔JD J d a Y g X λx g=>JD J d b Y g X λy g=>ob op x y g X (lk Q):=by
 rw[aj];delta Jo;dsimp only;refine(wp_bind (by sleep 9) (by sleep 9)).trans (wp_congr λ_ _=>?_);refine(wp_bind (by sleep 9) (by sleep 9)).trans (wp_congr λ_ _=>?_);exact aa
def adA{a:E}{b:List Nat}:JD J d (.fld a j b) Y g X Q↔JD J d a Y g X λx g=>JM ((AK x g).bind (Cd j b)) <| lk λz=>Q z g:=by
 rw[aj];delta Jo;dsimp only;refine(wp_bind (by sleep 9) (by sleep 9)).trans (wp_congr λ_ _=>?_);exact aa.trans cL
abbrev nX:XP:=λ_ _ _=>False
def fQ{o:Out α}{k:α->G->Out β}:o.YM.bind k=o.bindB k:=by cases o<;>rfl
def zB{c f:Nat}{a ks:List E}:JD J d (.make c f a ks pm) Y g X Q↔Ao J d a Y g nX λS g=>Ao J d ks Y g nX λws g=>S.length=a.length/\ws.length=ks.length/\JR J d f (perm (.ref g.length::S++ws) pm) (g++[.ins c []]) X (lk λu g'=>AH u=true/\Q (.ref g.length) g'):=by
 rw[aj];delta Jo;dsimp only;simp![fQ];have e:∀(S ws:List U) (g:G),As λn=>if S.length=a.length/\ws.length=ks.length then(Aa J n d f (perm (.ref g.length::S++ws) pm) (g++[.ins c []])).bind λu g'=>if AH u then Out.ok (U.ref g.length) g' else .ZV else .ZV:=λS ws g=>by
  split
  .exact mB (mC _ _ _) λ_ _=>mK _
  .exact mK _
 refine(aA (mEs _ _ _) λS g=>mBB (mEs _ _ _) λws g=>e S ws g).trans (wp_congr λS g=>?_);refine(aA (mEs _ _ _) λws g=>e S ws g).trans (wp_congr λws g=>?_);split
 .rename_i h
  refine Iff.trans ((wp_bind (k:=λ_ u g'=>if AH u=true then Out.ok (U.ref (List.length g)) g' else Out.ZV) (mC _ _ _) λ_ _=>mK _).trans (wp_congr λu g'=>aa.trans ?_)) ⟨λq=>⟨h.1,h.2,q⟩,λq=>q.2.2⟩
  split
  .rename_i b;exact⟨λq=>⟨b,q⟩,λq=>q.2⟩
  .rename_i b;exact⟨λq=>q.elim,λq=>(b q.1).elim⟩
 .rename_i h;exact⟨λ⟨_,q⟩=>q.elim,λq=>(h ⟨q.1,q.2.1⟩).elim⟩
def abh{a:E}{b ks:List E}:JD J d (.XG a j tb b ks) Y g X Q↔JD J d a Y g nX λx g=>JM ((AK x g).bind (BS j tb)) <| lk λp=>Ao J d b Y g nX λS g=>Ao J d ks Y g nX λws g=>S.length=b.length/\ws.length=ks.length/\JR J d p.1 (perm (x::S++ws) p.2) g X (lk Q):=by
 rw[aj];delta Jo;dsimp only;simp![fQ];have c:∀(x:U) (p:Nat×List (Nat ⊕ U)) (S ws:List U) (g:G),As λn=>if S.length=b.length/\ws.length=ks.length then Aa J n d p.1 (perm (x::S++ws) p.2) g else .ZV:=λx p S ws g=>by
  split
  .exact mC _ _ _
  .exact mK _
 have e:∀(x:U) (g:G) (o:Option (Nat×List (Nat ⊕ U))),As λn=>match o with
   |some p=>(Ji (lv J d n).ev b Y g).bindB λS g=>(Ji (lv J d n).ev ks Y g).bindB λws g=>if S.length=b.length/\ws.length=ks.length then Aa J n d p.1 (perm (x::S++ws) p.2) g else .ZV
   |none=>.ZV:=λx g o=>by
  cases o with
  |none=>exact mK _
  |some p=>exact mBB (mEs _ _ _) λS g=>mBB (mEs _ _ _) λws g=>c x p S ws g
 refine(aA (mE _ _ _) λx g=>e x g _).trans (wp_congr λx g=>?_);cases(AK x g).bind (BS j tb)with
 |none=>exact aa
 |some p=>
  refine(aA (mEs _ _ _) λS g=>mBB (mEs _ _ _) λws g=>c x p S ws g).trans (wp_congr λS g=>?_);refine(aA (mEs _ _ _) λws g=>c x p S ws g).trans (wp_congr λws g=>?_);split
  .rename_i h;exact⟨λq=>⟨h.1,h.2,q⟩,λq=>q.2.2⟩
  .rename_i h;exact⟨λ⟨_,q⟩=>q.elim,λq=>(h ⟨q.1,q.2.1⟩).elim⟩
def acE{op:Cp}{a b:E}:JD J d (.cmp op a b) Y g X Q↔JD J d a Y g X λx g=>JD J d b Y g X λy g=>JM (Jb op x y g) <| lk λz=>Q (.bl z) g:=by
 rw[aj];delta Jo;dsimp only;refine(wp_bind (by sleep 9) (by sleep 9)).trans (wp_congr λ_ _=>?_);refine(wp_bind (by sleep 9) (by sleep 9)).trans (wp_congr λ_ _=>?_);exact aa.trans kY
def vf{op e:Cp}{a b:E}:JD J d (.chain op e a b c) Y g X Q↔JD J d a Y g X λx g=>JD J d b Y g X λy g=>JM (Jb op x y g) <| lk λz=>JN z (lk (JD J d c Y g X λw g=>JM (Jb e y w g) <| lk λz=>Q (.bl z) g)) (lk (Q (.bl false) g)):=by
 rw[aj];delta Jo;dsimp only;refine(wp_bind (by sleep 9) (by intro x g;refine mB (mE _ _ _) λy g=>?_;generalize Jb op x y g=o;cases o with|none=>exact mK _|some z=>cases z;exact mK _;exact mB (mE _ _ _) λ_ _=>mK _)).trans (wp_congr λx g=>?_)
 refine(wp_bind (by sleep 9) (by intro y g;generalize Jb op x y g=o;cases o with|none=>exact mK _|some z=>cases z;exact mK _;exact mB (mE _ _ _) λ_ _=>mK _)).trans (wp_congr λy g=>?_)
 generalize Jb op x y g=o;cases o with
 |none=>exact aa
 |some z=>
  cases z
  .exact aa
  .exact (wp_bind (by sleep 9) (by sleep 9)).trans (wp_congr λ_ _=>aa.trans kY)
def acX{a b:E}:JD J d (.and a b) Y g X Q↔JD J d a Y g X λx g=>JM (match x with|.bl z=>some z|_=>none) <| lk λz=>JN z (lk (JD J d b Y g X Q)) (lk (Q (.bl false) g)):=by
 rw[aj];delta Jo;dsimp only;refine(wp_bind (by sleep 9) (by intro x g;cases x with|bl b=>cases b;exact mK _;exact mE _ _ _|_=>exact mK _)).trans (wp_congr λx g=>?_)
 cases x with
 |bl z=>cases z;exact aa;exact Y6
 |_=>exact aa
def nZ{a:List E}:JD J d (.ZW a) Y g X Q↔Ao J d a Y g X λS g=>JN (Bg S.length) (lk (Q (.ZW S) g)) (lk False):=by
 rw[aj];delta Jo;dsimp only;exact(wp_bind (by sleep 9) (by sleep 9)).trans (wp_congr λx g=>aa.trans nR)
def adp{a:List E}:JD J d (.Z5 a) Y g X Q↔Ao J d a Y g X λS g=>JN (Bg S.length) (lk (Q (.ref g.length) (g++[.Z5 S]))) (lk False):=by
 rw[aj];delta Jo;dsimp only;exact(wp_bind (by sleep 9) (by sleep 9)).trans (wp_congr λx g=>aa.trans nR)
def nU{a b:E}:JD J d (.idx a b) Y g X Q↔JD J d a Y g X λx g=>JD J d b Y g X λy g=>match y with|.ZW S=>JM ((AY (.ZW S) x g).bind id) <| lk λz=>Q z g|.str k=>JM ((IY x g).bind λZ4=>Cj Z4 k) <| lk λz=>Q z g|y=>JM (match y with|.int i=>some i|_=>none) <| lk λi=>JM (items x g) <| lk λxs=>JM (Jd xs i) <| lk λz=>Q z g:=by
 rw[aj];delta Jo;dsimp only;refine(wp_bind (by sleep 9) (by sleep 9)).trans (wp_congr λx g=>(wp_bind (by sleep 9) (by sleep 9)).trans (wp_congr λy g=>aa.trans ?_))
 cases y with
 |int i=>
  show holds (match items x g with|some xs=>lift (Jd xs i) g|none=>.ZV) X Q↔JM (items x g) (lk λxs=>JM (Jd xs i) (lk λz=>Q z g))
  cases items x g with
  |none=>exact Y6
  |some xs=>exact cL
 |ZW S=>exact cL
 |str k=>exact cL
 |_=>exact Y6
def acx{a:E}{lo hi:Option E}:JD J d (.Wj a lo hi) Y g X Q↔JD J d a Y g X λx g=>JF J d lo Y g X λl g=>JF J d hi Y g X λh g=>hk (CQ x l h g) X (lk Q):=by
 rw[aj];delta Jo;dsimp only;refine(wp_bind (by sleep 9) (by sleep 9)).trans (wp_congr λ_ _=>?_);refine(wp_bind (by sleep 9) (by sleep 9)).trans (wp_congr λ_ _=>?_);refine(wp_bind (by sleep 9) (by sleep 9)).trans (wp_congr λ_ _=>?_);exact aa
def adz{a:E}:JD J d (.rev a) Y g X Q↔JD J d a Y g X λx g=>JM (CG x g) <| lk λxs=>Q (.ref g.length) (g++[.Z5 xs.reverse]):=by
 rw[aj];delta Jo;dsimp only;refine(wp_bind (by sleep 9) (by sleep 9)).trans (wp_congr λx g=>aa.trans ?_)
 cases x with
 |ref n=>
  dsimp only[CG];cases g[n]? with
  |none=>exact Y6
  |some o=>cases o<;>exact Y6
 |_=>exact Y6
def aaY{f:Nat}{a:List E}:JD J d (.call f a) Y g X Q↔Ao J d a Y g nX λS g=>JR J d f S g X (lk Q):=by
 rw[aj];delta Jo;dsimp only;simp![fQ];exact aA (mEs _ _ _) λ_ _=>mC _ _ _
def e_bi{b:Bi}{a:List E}:JD J d (.bi b a) Y g X Q↔Ao J d a Y g X λS g=>hk (Jg b S g) X (lk Q):=by
 rw[aj];delta Jo;dsimp only;exact(wp_bind (by sleep 9) (by sleep 9)).trans (wp_congr λx g=>aa)
def xO:JD J d .Wi Y g X Q↔Q (.ref g.length) (g++[.ZF []]):=by
 rw[aj];delta Jo;dsimp only;exact aa
def mN{o:Option Nat}{f:Nat->Nat->Out α}(h:∀k,As λn=>f n k):As λn=>(match o with|some k=>f n k|none=>.ZV:Out α):=by
 cases o with
 |none=>exact mK _
 |some k=>exact h k
def acv{o v:E}:JD J d (.app o v) Y g X Q↔JD J d o Y g X λx g=>JM (Jh x g) <| lk λk=>JD J d v Y g X λy g=>hk (Bo k y g) X (lk Q):=by
 rw[aj];delta Jo;dsimp only;refine(wp_bind (by sleep 9) (by intro x g;exact mN λk=>mB (mE _ _ _) λ_ _=>mK _)).trans (wp_congr λx g=>optN.trans (dU λk=>?_))
 refine(wp_bind (by sleep 9) (by sleep 9)).trans (wp_congr λ_ _=>?_);exact aa
def yS{o v:E}:JD J d (.VY o v) Y g X Q↔JD J d o Y g X λx g=>JM (Jh x g) <| lk λk=>JD J d v Y g X λy g=>hk (BQ k y g) X (lk Q):=by
 rw[aj];delta Jo;dsimp only;refine(wp_bind (by sleep 9) (by intro x g;exact mN λk=>mB (mE _ _ _) λ_ _=>mK _)).trans (wp_congr λx g=>optN.trans (dU λk=>?_))
 refine(wp_bind (by sleep 9) (by sleep 9)).trans (wp_congr λ_ _=>?_);exact aa
def acW{o v:E}:JD J d (.ext o v) Y g X Q↔JD J d o Y g X λx g=>JM (Jh x g) <| lk λk=>JD J d v Y g X λy g=>hk (BE k y g) X (lk Q):=by
 rw[aj];delta Jo;dsimp only;refine(wp_bind (by sleep 9) (by intro x g;exact mN λk=>mB (mE _ _ _) λ_ _=>mK _)).trans (wp_congr λx g=>optN.trans (dU λk=>?_))
 refine(wp_bind (by sleep 9) (by sleep 9)).trans (wp_congr λ_ _=>?_);exact aa
def acH{o:E}:JD J d (.pop o) Y g X Q↔JD J d o Y g X λx g=>JM (Jh x g) <| lk λk=>hk (BI k g) X (lk Q):=by
 rw[aj];delta Jo;dsimp only;exact(wp_bind (by sleep 9) (by intro x g;exact mN λk=>mK _)).trans (wp_congr λx g=>optN.trans (dU λk=>aa))
def aaM{a:Nat}{b:List Nat}{t:Tg}{it:E}{c:List (Tg×E×List E)}{k v:E}:JD J d (.Wh a b ((t,it,cs)::c) k v) Y g X Q ↔
  JH J d it Y g X λi g=>JS J d i 0 t cs c (.pair k v) [] (List.replicate a none++b.map λj=>(Y[j]?).getD none) g (λ_ _ _=>False) (lk λS g=>JM (dfold S []) <| lk λZ4=>Q (.ref g.length) (g++[.ZF Z4])):=by
 rw[aj];delta Jo;dsimp only;refine(wp_bind (by sleep 9) (by sleep 9)).trans (wp_congr λx g=>(aA (by sleep 9) (by sleep 9)).trans (wp_congr λS g=>aa.trans ?_))
 cases dfold S []<;>exact Y6
def zq{k v:E}:JD J d (.pair k v) Y g X Q↔JD J d k Y g X λx g=>JD J d v Y g X λy g=>JM (keyOf x) <| lk λ_=>Q (.ZW [x,y]) g:=by
 rw[aj];delta Jo;dsimp only;refine(wp_bind (by sleep 9) (by sleep 9)).trans (wp_congr λx g=>(wp_bind (by sleep 9) (by sleep 9)).trans (wp_congr λy g=>aa.trans ?_))
 cases keyOf x<;>exact Y6
def yi{a:Nat}{b:List Nat}{t:Tg}{it:E}{c:List (Tg×E×List E)}:JD J d (.comp a b ((t,it,cs)::c) elt) Y g X Q ↔
  JH J d it Y g X λi g=>JS J d i 0 t cs c elt [] (List.replicate a none++b.map λj=>(Y[j]?).getD none) g (λ_ _ _=>False) (lk λS g=>S.length<=Ac/\Q (.ref g.length) (g++[.Z5 S])):=by
 rw[aj];delta Jo;dsimp only;refine(wp_bind (by sleep 9) (by sleep 9)).trans (wp_congr λx g=>(aA (by sleep 9) (by sleep 9)).trans (wp_congr λS g=>aa.trans ?_))
 split
 .rename_i h;exact⟨λq=>⟨h,q⟩,λq=>q.2⟩
 .rename_i h;exact⟨λq=>q.elim,λq=>h q.1⟩
end
def ya{Q:List U->G->Prop}:Ao J d [] Y g X Q↔Q [] g:=by unfold Ao;simp![Ji,aa];rfl
def lu{e:E}{a:List E}{Q:List U->G->Prop}:Ao J d (e::a) Y g X Q↔JD J d e Y g X λu g=>Ao J d a Y g X λS g=>Q (u::S) g:=by
 unfold Ao;simp![Ji];refine(wp_bind (by sleep 9) (by sleep 9)).trans (wp_congr λ_ _=>?_);refine(wp_bind (by sleep 9) (by sleep 9)).trans (wp_congr λ_ _=>?_);exact aa
def yp{Q:Option Int->G->Prop}:JF J d none Y g X Q↔Q none g:=by unfold JF;simp![Jj,aa];rfl
def x8{e:E}{Q:Option Int->G->Prop}:JF J d (some e) Y g X Q↔JD J d e Y g X λu g=>∃i,u=.int i/\Q (some i) g:=by
 unfold JF;simp![Jj];refine(wp_bind (by sleep 9) (by sleep 9)).trans (wp_congr λx g=>aa.trans ?_)
 cases x with
 |int a=>exact⟨λh=>⟨a,rfl,h⟩,λ⟨b,e,h⟩=>by cases e;exact h⟩
 |_=>exact⟨λh=>h.elim,λ⟨_,e,_⟩=>by cases e⟩
section
variable{Q:Bool->G->Prop}
def ac5{a b:E}:JE J d (.and a b) Y g X Q↔JE J d a Y g X λk g=>if k then JE J d b Y g X Q else Q false g:=by
 rw[eI];delta Jp;dsimp only;refine(wp_bind (by sleep 9) (by intro k g;cases k;exact mK _;exact mT _ _ _)).trans (wp_congr λx g=>?_)
 cases x
 .exact aa
 .exact Y6
theorem T_or{a b:E}:JE J d (.or a b) Y g X Q↔JE J d a Y g X λk g=>if k then Q true g else JE J d b Y g X Q:=by
 rw[eI];delta Jp;dsimp only;refine(wp_bind (by sleep 9) (by intro k g;cases k;exact mT _ _ _;exact mK _)).trans (wp_congr λx g=>?_)
 cases x
 .exact Y6
 .exact aa
def adS{a:E}:JE J d (.not a) Y g X Q↔JE J d a Y g X λk g=>Q (!k) g:=by
 rw[eI];delta Jp;dsimp only;refine(wp_bind (by sleep 9) (by sleep 9)).trans (wp_congr λ_ _=>?_);exact aa
def plainT:E->Bool
 |.and _ _=>false|.or _ _=>false|.not _=>false|.ite _ _ _=>false|_=>true
theorem T_e{e:E}(h:plainT e=true):JE J d e Y g X Q↔JD J d e Y g X λx g=>∃c,Jc x g=some c/\Q c g:=by
 rw[eI];have:(λn=>Jp (lv J d n) e Y g)=λn=>((lv J d n).ev e Y g).bind λx g=>lift (Jc x g) g:=by
  funext n;cases e<;>first|rfl|cases h
 rw[this];refine(wp_bind (by sleep 9) (by sleep 9)).trans (wp_congr λ_ _=>?_);exact aa.trans qb
def nL:JG J d [] Y g X Q↔Q true g:=by unfold JG;simp![Az,aa];rfl
def yu:JG J d (c::cs) Y g X Q↔JE J d c Y g X λk g=>if k then JG J d cs Y g X Q else Q false g:=by
 unfold JG;simp![Az];refine(wp_bind (by sleep 9) (by intro k g;cases k;exact mK _;exact mA _ _ _)).trans (wp_congr λx g=>?_)
 cases x
 .exact aa
 .exact Y6
end
section
variable{Q:Iter->G->Prop}
def yf{a:E}:JH J d (.X1 a) Y g X Q↔JD J d a Y g X λu g=>∃j,u=.int j/\(-1000000<j/\j<1000000)/\Q (.YG 0 j.toNat) g:=by
 unfold JH;delta Jl;dsimp only;refine(wp_bind (by sleep 9) (by sleep 9)).trans (wp_congr λx g=>aa.trans ?_)
 cases x with
 |int a=>
  simp![];split
  .rename_i h;exact⟨λq=>⟨a,rfl,h,q⟩,λ⟨b,e,_,q⟩=>by cases e;exact q⟩
  .rename_i h;exact⟨λq=>q.elim,λ⟨b,e,h',q⟩=>by cases e;exact h h'⟩
 |_=>exact⟨λh=>h.elim,λ⟨_,e,_⟩=>by cases e⟩
def zp{a b:E}:JH J d (.Xm a b) Y g X Q↔JD J d a Y g X λu g=>JD J d b Y g X λw g=>∃i j,u=.int i/\w=.int j/\(-1000000<i/\i<1000000 /\ -1000000<j/\j<1000000)/\Q (.YG i (j-i).toNat) g:=by
 unfold JH;delta Jl;dsimp only;refine(wp_bind (by sleep 9) (by sleep 9)).trans (wp_congr λx g=>(wp_bind (by sleep 9) (by sleep 9)).trans (wp_congr λy g=>aa.trans ?_))
 cases x with
 |int a=>
  cases y with
  |int b=>
   simp![];split
   .rename_i h;exact⟨λq=>⟨a,b,rfl,rfl,h,q⟩,λ⟨_,_,e,e',_,q⟩=>by cases e;cases e';exact q⟩
   .rename_i h;exact⟨λq=>q.elim,λ⟨_,_,e,e',h',q⟩=>by cases e;cases e';exact h h'⟩
  |_=>exact⟨λh=>h.elim,λ⟨_,_,_,e,_⟩=>by cases e⟩
 |_=>exact⟨λh=>h.elim,λ⟨_,_,e,_⟩=>by cases e⟩
theorem I_e{e:E}(h:De e=true):JH J d e Y g X Q ↔ JD J d e Y g X λu g=>holds (match u with
  |.ZW xs=>.ok (.seq xs) g
  |.xn _ xs=>.ok (.seq xs) g
  |.ref n=>match g[n]? with
   |some (.Z5 _)=>.ok (.Z5 n) g
   |some (.ZF Z4)=>.ok (.ZF n) (g.set n (.Zq Z4))
   |some (.Zq _)=>.ok (.ZF n) g
   |_=>.ZV
  |_=>.ZV) X Q:=by
 unfold JH;have:(λn=>Jl (lv J d n) e Y g)=λn=>((lv J d n).ev e Y g).bind λu g=>match u with
  |.ZW xs=>.ok (.seq xs) g
  |.xn _ xs=>.ok (.seq xs) g
  |.ref n=>match g[n]? with
   |some (.Z5 _)=>.ok (.Z5 n) g
   |some (.ZF Z4)=>.ok (.ZF n) (g.set n (.Zq Z4))
   |some (.Zq _)=>.ok (.ZF n) g
   |_=>.ZV
  |_=>.ZV:=by
  funext n;cases e<;>first|rfl|cases h
 rw[this];refine(wp_bind (by sleep 9) (by sleep 9)).trans (wp_congr λ_ _=>?_);exact aa
end
section
variable{Q:Fl->G->Prop}
def acJ:wpS J d [] Y g X Q↔Q (.nx Y) g:=by rw[nu];simp![Js,aa];rfl
def abb{s:Z6}{a:List Z6}:wpS J d (s::a) Y g X Q↔JI J d s Y g X λf g=>match f with|.nx ZR=>wpS J d a ZR g X Q|f=>Q f g:=by
 rw[nu];simp![Js];refine(wp_bind (by exact m1 _ _ _) (by intro f g;cases f;exact mS _ _ _;exact mK _;exact mK _;exact mK _)).trans (wp_congr λx g=>?_)
 cases x<;>first|exact Y6|exact aa
def acz{e:E}:JI J d (.ret e) Y g X Q↔JD J d e Y g X λu g=>Q (.rt u) g:=by
 unfold JI;delta Jr;dsimp only;exact(wp_bind (by sleep 9) (by sleep 9)).trans (wp_congr λx g=>aa)
def acu{t:Tg}{e:E}:JI J d (.set t e) Y g X Q↔JD J d e Y g X λu g=>∃ZR,Ad t (Jk t u g) Y=some ZR/\Q (.nx ZR) g:=by
 unfold JI;delta Jr;dsimp only;refine(wp_bind (by sleep 9) (by sleep 9)).trans (wp_congr λx g=>aa.trans ?_)
 cases Ad t (Jk t x g) Y with
 |none=>exact⟨λh=>h.elim,λ⟨_,e,_⟩=>by cases e⟩
 |some a=>exact⟨λh=>⟨a,rfl,h⟩,λ⟨b,e,h⟩=>by cases e;exact h⟩
def adT{a b:E}:JI J d (.par i j a b) Y g X Q↔JD J d a Y g X λu g=>JD J d b Y g X λw g=>(i<Y.length/\j<Y.length)/\Q (.nx ((Y.set i (some u)).set j (some w))) g:=by
 unfold JI;delta Jr;dsimp only;refine(wp_bind (by sleep 9) (by sleep 9)).trans (wp_congr λx g=>(wp_bind (by sleep 9) (by sleep 9)).trans (wp_congr λy g=>aa.trans ?_))
 split
 .rename_i h;exact⟨λq=>⟨h,q⟩,λq=>q.2⟩
 .rename_i h;exact⟨λq=>q.elim,λq=>h q.1⟩
def aa4{a e:E}{c:List Nat}:JI J d (.fset a j c e) Y g X Q↔JD J d e Y g X λu g=>JD J d a Y g X λx g=>∃g',Bw x j c u g=some g'/\Q (.nx Y) g':=by
 unfold JI;delta Jr;dsimp only;refine(wp_bind (by sleep 9) (by sleep 9)).trans (wp_congr λu g=>(wp_bind (by sleep 9) (by sleep 9)).trans (wp_congr λx g=>aa.trans ?_))
 cases Bw x j c u g with
 |none=>exact⟨λh=>h.elim,λ⟨_,e,_⟩=>by cases e⟩
 |some a=>exact⟨λh=>⟨a,rfl,h⟩,λ⟨b,e,h⟩=>by cases e;exact h⟩
def ab5{o i e:E}:JI J d (.sub o i e) Y g X Q↔JD J d e Y g X λu g=>JD J d o Y g X λx g=>JD J d i Y g X λy g=>holds (subAt x y u Y g) X Q:=by
 unfold JI;delta Jr;dsimp only;refine(wp_bind (by sleep 9) (by sleep 9)).trans (wp_congr λ_ _=>?_);refine(wp_bind (by sleep 9) (by sleep 9)).trans (wp_congr λ_ _=>?_);refine(wp_bind (by sleep 9) (by sleep 9)).trans (wp_congr λ_ _=>?_);exact aa
def acR{e:E}:JI J d (.exp e) Y g X Q↔JD J d e Y g X λ_ g=>Q (.nx Y) g:=by
 unfold JI;delta Jr;dsimp only;exact(wp_bind (by sleep 9) (by sleep 9)).trans (wp_congr λx g=>aa)
def adL{a b:List Z6}:JI J d (.Zp c a b) Y g X Q↔JE J d c Y g X λk g=>if k then wpS J d a Y g X Q else wpS J d b Y g X Q:=by
 unfold JI;delta Jr;dsimp only;refine(wp_bind (by sleep 9) (by intro k g;cases k;exact mS _ _ _;exact mS _ _ _)).trans (wp_congr λx g=>?_)
 cases x<;>exact Y6
def acA{t:Tg}{it:E}{b:List Z6}:JI J d (.for t it b) Y g X Q↔JH J d it Y g X λi g=>JK J d t i 0 b Y g X Q:=by
 unfold JI;delta Jr;dsimp only;exact wp_bind (by sleep 9) (by sleep 9)
def aac{b:List Z6}:JJ J d c b Y g X Q↔JE J d c Y g X λk g=>if k then wpS J d b Y g X λf g=>(match f with
  |.nx ZR=>JJ J d c b ZR g X Q
  |.ct ZR=>JJ J d c b ZR g X Q
  |.bk ZR=>Q (.nx ZR) g
  |.rt u=>Q (.rt u) g)else Q (.nx Y) g:=by
 rw[yU];simp![Jt];refine(wp_bind (mT _ _ _) λk g=>by cases k;exact mK _;refine mB (mS _ _ _) λf g=>?_;cases f;exact mW _ _ _ _;exact mK _;exact mK _;exact mW _ _ _ _).trans (wp_congr λx g=>?_)
 cases x
 .exact aa
 .simp only [V6]
  refine(wp_bind (by sleep 9) (by intro f g;cases f;exact mW _ _ _ _;exact mK _;exact mK _;exact mW _ _ _ _)).trans (wp_congr λf g=>?_)
  cases f<;>first|exact Y6|exact aa
def hE{t:Tg}{b:List Z6}:JK J d t it i b Y g X Q ↔ ∃o,next it i g=some o/\match o with
  |none=>Q (.nx Y) g
  |some u=>∃a,Ad t u Y=some a/\wpS J d b a g X λf g=>match f with
   |.nx ZR=>JK J d t it (i+1) b ZR g X Q
   |.ct ZR=>JK J d t it (i+1) b ZR g X Q
   |.bk ZR=>Q (.nx ZR) g
   |.rt u=>Q (.rt u) g:=by
 rw[zd];simp![Ju];cases next it i g with
 |none=>simp![aa];exact⟨λh=>h.elim,λ⟨_,e,_⟩=>by cases e⟩
 |some o=>
  cases o with
  |none=>simp![aa];exact⟨λh=>⟨none,rfl,h⟩,λ⟨o,e,h⟩=>by cases e;exact h⟩
  |some u=>
   simp![];cases c:Ad t u Y with
   |none=>simp![aa];exact⟨λh=>h.elim,λ⟨_,e,h⟩=>by cases e;let⟨_,e,_⟩:=h;rw[c]at e;cases e⟩
   |some a=>
    simp![];refine(wp_bind (by sleep 9) (by intro f g;cases f;exact mF _ _ _ _ _ _;exact mK _;exact mK _;exact mF _ _ _ _ _ _)).trans ?_
    refine Iff.trans (wp_congr (Q':=λf g=>match f with
       |.nx ZR=>JK J d t it (i+1) b ZR g X Q
       |.ct ZR=>JK J d t it (i+1) b ZR g X Q
       |.bk ZR=>Q (.nx ZR) g
       |.rt u=>Q (.rt u) g) λf g=>?_) ?_
    .cases f<;>first|exact Y6|exact aa
    exact⟨λh=>⟨some u,rfl,a,c,h⟩,λ⟨o,e,h⟩=>by cases e;let⟨j,e,h⟩:=h;rw[c]at e;cases e;exact h⟩
end
def a7{t:Tg}{c:List (Tg×E×List E)}{Q:List U->G->Prop}:JL J d it i t cs c elt ZS Y g X Q ↔ ∃o,next it i g=some o/\match o with
  |none=>Q ZS g
  |some u=>AX t Y=true /\∃a,Ad t u Y=some a/\JG J d cs a g (λ_ _ _=>False) λk g=>if k then
    match c with
    |[]=>JD J d elt a g (λ_ _ _=>False) λv g=>ZS.length<Ac/\JL J d it (i+1) t cs c elt (ZS++[v]) Y g X Q
    |(t2,X9,Xu)::W9=>JH J d X9 a g (λ_ _ _=>False) λj g=>JL J d j 0 t2 Xu W9 elt ZS a g (λ_ _ _=>False) λy g=>JL J d it (i+1) t cs c elt y Y g X Q
   else JL J d it (i+1) t cs c elt ZS Y g X Q:=by
 rw[yY];simp![Jv];cases next it i g with
 |none=>simp![aa];exact⟨λh=>h.elim,λ⟨_,e,_⟩=>by cases e⟩
 |some o=>
  cases o with
  |none=>simp![aa];exact⟨λh=>⟨none,rfl,h⟩,λ⟨o,e,h⟩=>by cases e;exact h⟩
  |some u=>
   simp![];by_cases w:AX t Y=true
   .simp only [w,V6]
    cases r:Ad t u Y with
    |none=>simp![aa];exact⟨λh=>h.elim,λ⟨_,e,h⟩=>by cases e;let⟨_,_,e,_⟩:=h;rw[r]at e;cases e⟩
    |some a=>
     simp![];refine Iff.trans ?_ ⟨λh=>⟨some u,rfl,trivial,a,r,h⟩,λ⟨o,e,h⟩=>by cases e;let⟨_,z,e,h⟩:=h;rw[r]at e;cases e;exact h⟩
     cases c with
     |nil=>
      refine(aA (by sleep 9) (by intro k g;cases k;exact mM _ _ _ _ _ _ _ _ _;refine mBB (mE _ _ _) λv g=>?_;by_cases h:ZS.length<Ac;simp![h,V6];exact mM _ _ _ _ _ _ _ _ _;simp![h,Vn];exact mK _)).trans (wp_congr λk g=>?_)
      cases k
      .exact Y6
      .refine Iff.trans (aA (by sleep 9) (by intro v g;by_cases h:ZS.length<Ac;simp![h,V6];exact mM _ _ _ _ _ _ _ _ _;simp![h,Vn];exact mK _)) (wp_congr λv g=>?_)
       by_cases h:ZS.length<Ac
       .simp only [h,V6];exact⟨λq=>⟨trivial,q⟩,λq=>q.2⟩
       .simp only [h,Vn];exact⟨λ⟨_,q⟩=>q.elim,λq=>q.1.elim⟩
     |cons t2 W9=>
      let⟨t2,X9,Xu⟩:=t2;refine(aA (by sleep 9) (by intro k g;cases k;exact mM _ _ _ _ _ _ _ _ _;exact mBB (mI _ _ _) λ_ _=>mBB (mM _ _ _ _ _ _ _ _ _) λ_ _=>mM _ _ _ _ _ _ _ _ _)).trans (wp_congr λk g=>?_)
      cases k
      .exact Y6
      .refine Iff.trans (aA (by sleep 9) (by sleep 9)) (wp_congr λj g=>?_)
       exact aA (by sleep 9) (by sleep 9)
   .have f:AX t Y=false:=by cases h:AX t Y;rfl;exact absurd h w
    simp![f];exact⟨λ⟨_,h⟩=>h.elim,λ⟨_,e,h⟩=>by cases e;exact absurd h.1 #[3]⟩
def aas{f:Nat}{F:Fn}{Q:U->G->Prop}(b:J[f]?=some F)(a:S.length=F.np):JC J (d+1) f S g X Q↔wpS J d F.body (S.map some++List.replicate (F.ns-S.length) none) g X λc g=>match c with
  |.rt u=>Q u g
  |.nx _=>Q .ZK g
  |_=>False:=by
 unfold JC;simp![Aa,b,BL,a,V6];refine(wp_bind (f:=λn=>(lv J d n).ex F.body (S.map some++List.replicate (F.ns-F.np) none) g) (mS _ _ _) (by sleep 9)).trans (wp_congr λx g=>aa.trans ?_)
 cases x<;>exact Y6
def vF{f:Nat}{Q:U->G->Prop}(h:JC J d f S g (λ_ _ _=>False) Q):∃fu u g',Aa J fu d f S g=.ok u g'/\Q u g':=by
 let⟨n,h⟩:=h;have h:holds (Aa J n d f S g) (λ_ _ _=>False) Q:=h;revert h;cases e:Aa J n d f S g with
 |ok u g'=>exactλh=>⟨n,u,g',e,h⟩
 |exc c fs g=>exactλh=>h.elim
 |ZV=>exactλh=>h.elim
end
section
variable{J:List Fn}{X:XP}{Y ZR:Su}
def aaw{b:List Z6}{Q:Fl->G->Prop}:JI J d (.Vr c b) Y g X Q↔JU J d c b Y g X (lk Q):=Y6
def yv{t:Tg}{it:E}{b:List Z6}{Q:Fl->G->Prop}:JI J d (.for t it b) Y g X Q↔JH J d it Y g X λi g=>JT J d t i 0 b Y g X (lk Q):=acA
def yH{e:E}{Q:Option Int->G->Prop}:JF J d (some e) Y g X Q↔JD J d e Y g X λu g=>JM (match u with|.int i=>some i|_=>none) <| lk λi=>Q (some i) g:=x8.trans (wp_congr λx g=>by
 cases x with
 |int z=>exact⟨λ⟨_,e,h⟩=>(by cases e;exact h),λh=>⟨z,rfl,h⟩⟩
 |_=>exact⟨λ⟨_,e,h⟩=>(by cases e),λh=>h.elim⟩)
section
variable{Q:U->G->Prop}
def xD{a e:E}{b:List Nat}{Q:Fl->G->Prop}:JI J d (.fset a j b e) Y g X Q↔JD J d e Y g X λu g=>JD J d a Y g X λx g=>JM (Bw x j b u g) <| lk λg'=>Q (.nx Y) g':=by simp![aa4,aN]
end
section
variable{Q:Bool->G->Prop}
def abQ{a b:E}:JE J d (.and a b) Y g X Q↔JE J d a Y g X λk g=>JN k (lk (JE J d b Y g X Q)) (lk (Q false g)):=ac5.trans (wp_congr λk g=>cf)
def t_or{a b:E}:JE J d (.or a b) Y g X Q↔JE J d a Y g X λk g=>JN k (lk (Q true g)) (lk (JE J d b Y g X Q)):=T_or.trans (wp_congr λk g=>cf)
def t_e{e:E}(h:plainT e=true):JE J d e Y g X Q↔JD J d e Y g X λx g=>JM (Jc x g) <| lk λc=>Q c g:=(T_e h).trans (wp_congr λx g=>aN)
def yG:JG J d (c::cs) Y g X Q↔JE J d c Y g X λk g=>JN k (lk (JG J d cs Y g X Q)) (lk (Q false g)):=yu.trans (wp_congr λk g=>cf)
end
section
variable{Q:Iter->G->Prop}
def Ak(j:Int):Bool:=@decide (-1000000<j/\j<1000000) (Classical.propDecidable _)
def aM{j:Int}(h : -1000000<j)(h':j<1000000):Ak j=true:=by unfold Ak;exact @decide_eq_true _ (Classical.propDecidable _) ⟨h,h'⟩
def aaS{a:E}:JH J d (.X1 a) Y g X Q↔JD J d a Y g X λu g=>JM (match u with|.int i=>some i|_=>none) <| lk λj=>JN (Ak j) (lk (Q (.YG 0 j.toNat) g)) (lk False):=yf.trans (wp_congr λu g=>by
 cases u with
 |int i=>
  show _↔JN (Ak i) (lk _) (lk _);by_cases h : -1000000<i/\i<1000000
  .rw [show Ak i=true by unfold Ak;exact @decide_eq_true _ (Classical.propDecidable _) h]
   exact⟨λ⟨_,e,_,q⟩=>(by cases e;exact q),λq=>⟨i,rfl,h,q⟩⟩
  .rw [show Ak i=false by unfold Ak;exact @decide_eq_false _ (Classical.propDecidable _) h]
   exact⟨λ⟨_,e,q,_⟩=>(by cases e;exact h q),λq=>q.elim⟩
 |_=>exact⟨λ⟨_,e,h⟩=>(by cases e),λh=>h.elim⟩)
def abG{a b:E}:JH J d (.Xm a b) Y g X Q↔JD J d a Y g X λu g=>JD J d b Y g X λw g=>JM (match u with|.int i=>some i|_=>none) <| lk λi=>JM (match w with|.int i=>some i|_=>none) <| lk λj=>JN (Ak i&&Ak j) (lk (Q (.YG i (j-i).toNat) g)) (lk False):=zp.trans (wp_congr λu g=>wp_congr λw g=>by
 cases u with
 |int i=>
  cases w with
  |int j=>
   show _↔JN (Ak i&&Ak j) (lk _) (lk _);by_cases h:(Ak i&&Ak j)=true
   .rw [h]
    have h':=h;simp![Ak,Z1,XM]at h';exact⟨λ⟨_,_,e,e',_,q⟩=>(by cases e;cases e';exact q),λq=>⟨i,j,rfl,rfl,⟨h'.1.1,h'.1.2,h'.2.1,h'.2.2⟩,q⟩⟩
   .rw [Bool.not_eq_true]at h
    rw[h];exact⟨λ⟨_,_,e,e',q,_⟩=>by cases e;cases e';simp[Ak,q]at h,λq=>q.elim⟩
  |_=>exact⟨λ⟨_,_,e,e',h⟩=>(by cases e'),λh=>h.elim⟩
 |_=>exact⟨λ⟨_,_,e,h⟩=>(by cases e),λh=>h.elim⟩)
def CO(u:U)(g:G):Option (Iter×G):=match u with
 |.ZW xs=>some (.seq xs,g)
 |.xn _ xs=>some (.seq xs,g)
 |.ref n=>match g[n]? with
  |some (.Z5 _)=>some (.Z5 n,g)
  |some (.ZF Z4)=>some (.ZF n,g.set n (.Zq Z4))
  |some (.Zq _)=>some (.ZF n,g)
  |_=>none
 |_=>none
def i_e{e:E}(h:De e=true):JH J d e Y g X Q↔JD J d e Y g X λu g=>JM (CO u g) <| lk λp=>Q p.1 p.2:=(I_e h).trans (wp_congr λu g=>by
 cases u with
 |ref n=>
  simp![CO];cases g[n]? with
  |none=>exact Y6
  |some o=>cases o<;>exact Y6
 |_=>exact Y6)
end
section
variable{Q:Fl->G->Prop}
def xP{s:Z6}{a:List Z6}:wpS J d (s::a) Y g X Q↔JI J d s Y g X λf g=>JO f (lk (λZR=>wpS J d a ZR g X Q)) (lk λf=>Q f g):=abb.trans (wp_congr λf g=>by cases f<;>exact Y6)
def aaD{t:Tg}{e:E}:JI J d (.set t e) Y g X Q↔JD J d e Y g X λu g=>JM (Ad t (Jk t u g) Y) <| lk λZR=>Q (.nx ZR) g:=acu.trans (wp_congr λx g=>aN)
def zt{a b:E}:JI J d (.par i j a b) Y g X Q↔JD J d a Y g X λu g=>JD J d b Y g X λw g=>JN (decide (i<Y.length)&&decide (j<Y.length)) (lk (Q (.nx ((Y.set i (some u)).set j (some w))) g)) (lk False):=adT.trans (wp_congr λx g=>wp_congr λy g=>by
 by_cases h:i<Y.length<;>by_cases k:j<Y.length<;>simp[h,k,JN])
def ym{o i e:E}:JI J d (.sub o i e) Y g X Q↔JD J d e Y g X λu g=>JD J d o Y g X λx g=>JD J d i Y g X λy g=>hk (subAt x y u Y g) X (lk Q):=ab5
def xU{a b:List Z6}:JI J d (.Zp c a b) Y g X Q↔JE J d c Y g X λk g=>JN k (lk (wpS J d a Y g X Q)) (lk (wpS J d b Y g X Q)):=adL.trans (wp_congr λk g=>cf)
def yt{b:List Z6}:JJ J d c b Y g X Q↔JE J d c Y g X λk g=>JN k (lk (wpS J d b Y g X λf g=>JP f (lk (λZR=>JJ J d c b ZR g X Q)) (lk λf=>Q f g))) (lk (Q (.nx Y) g)):=aac.trans (wp_congr λk g=>cf.trans (by
 cases k
 .exact Y6
 .exact wp_congr λf g=>by cases f<;>exact Y6))
def xS{f:Nat}{F:Fn}{Q:U->G->Prop}(b:J[f]?=some F)(a:S.length=F.np):JC J (d+1) f S g X Q↔wpS J d F.body (S.map some++List.replicate (F.ns-S.length) none) g X λc g=>JQ c <| lk λu=>Q u g:=(aas b a).trans (wp_congr λf g=>by cases f<;>exact Y6)
def c8{t:Tg}{it:Iter}{b:List Z6}(S:List U)(a:Nat->Su->G->Prop)
  (c:∀k Y g,a k Y g->next it k g=some S[k]?)
  (j:∀k u Y g,S[k]?=some u->a k Y g->JM (Ad t u Y) (lk λm=>wpS J d b m g X λf g=>JP f (lk (λZR=>a (k+1) ZR g)) (lk λf=>Q f g)))
  (l:∀Y g,a S.length Y g->Q (.nx Y) g):∀(n i:Nat) (Y:Su) (g:G),i+n=S.length->a i Y g->JK J d t it i b Y g X Q
 |0,i,Y,g,e,h=>by
  have e:i=S.length:=by lia
  subst e;rw[hE];exact⟨none,by rw[c _ _ _ h];simp,l _ _ h⟩
 |n+1,i,Y,g,e,h=>by
  have hi:i<S.length:=by lia
  rw[hE];let⟨m,o,w⟩:=aN.2 (j i S[i] Y g (Xp hi) h);refine⟨some S[i],by rw[c _ _ _ h,Xp hi],m,o,wp_mono w λf g q=>?_⟩
  cases f with
  |nx ZR=>exact c8 S a c j l n (i+1) ZR g (by lia) q
  |ct ZR=>exact c8 S a c j l n (i+1) ZR g () q
  |bk ZR=>exact q
  |rt u=>exact q
def nQ{b:List Z6}(e:Nat->Su->G->Prop)
  (i:∀n Y g,e n Y g->JE J d c Y g X λk g=>JN k (lk (wpS J d b Y g X λf g=>JP f (lk (λZR=>∃m,m<n/\e m ZR g)) (lk λf=>Q f g))) (lk (Q (.nx Y) g))):∀(n:Nat) (Y:Su) (g:G),e n Y g->JJ J d c b Y g X Q:=by
 intro n
 induction n using Nat.strongRecOn with
 |_ n ih=>
  intro Y g h;rw[yt];refine wp_mono (i n Y g h) λk g q=>?_;cases k
  .exact q
  .refine wp_mono q λf g q=>?_
   cases f with
   |nx ZR=>let⟨m,a,q⟩:=q;exact ih m a _ _ q
   |ct ZR=>let⟨m,a,q⟩:=q;exact ih m a _ _ q
   |bk ZR=>exact q
   |rt u=>exact q
end
def JV{b:Type}(o:Option b){A:Prop}{Q:b->Prop}(_:Lk A)(_:Lk Q):Prop:=match o with
 |none=>A
 |some a=>Q a
def oc_n{A:Prop}{Q:α->Prop}:JV none (lk A) (lk Q)=A:=propext Y6
def oc_s{a:α}{A:Prop}{Q:α->Prop}:JV (some a) (lk A) (lk Q)=Q a:=propext Y6
def bf{t:Tg}{b:List Z6}{Q:Fl->G->Prop}:JT J d t (.seq xs) i b Y g X (lk Q)↔JV xs[i]? (lk (Q (.nx Y) g)) (lk λu=>JM (Ad t u Y) (lk λc=>wpS J d b c g X λf g=>JP f (lk λZR=>JT J d t (.seq xs) (i+1) b ZR g X (lk Q)) (lk λf=>Q f g))):=by
 refine Iff.trans hE ?_;constructor
 .rintro ⟨o,e,h⟩
  cases e;cases a:xs[i]? with
  |none=>rw[a]at h;exact h
  |some u=>
   rw[a]at h;let⟨c,j,h⟩:=h;refine aN.1 ⟨c,j,wp_mono h λf g q=>?_⟩;cases f<;>exact q
 .intro h
  refine⟨xs[i]?,rfl,?_⟩;cases a:xs[i]? with
  |none=>rw[a]at h;exact h
  |some u=>
   rw[a]at h;let⟨c,j,h⟩:=aN.2 h;refine⟨c,j,wp_mono h λf g q=>?_⟩;cases f<;>exact q
end
def AM(f:E->Su->Option U):List E->Su->Option (List U)
 |[],_=>some []
 |e::es,Y=>match f e Y with
  |some u=>match AM f es Y with
   |some S=>some (u::S)
   |none=>none
  |none=>none
def BC(x y:Option U):Option U:=match x with
 |some (.int i)=>match y with
  |some (.int j)=>some (.int (i+j))
  |_=>none
 |_=>none
def BN(x y:Option U):Option U:=match x with
 |some (.int i)=>match y with
  |some (.int j)=>some (.int (i-j))
  |_=>none
 |_=>none
def tupP(x:Option (List U)):Option U:=match x with
 |some S=>match Nat.ble S.length 1000 with
  |true=>some (.ZW S)
  |false=>none
 |none=>none
def JW(x:Option U)(k:Int):Option U:=match x with
 |some (.ZW xs)=>Jd xs k
 |_=>none
def Dx(o:Option (Option U)):Option U:=match o with
 |some o=>o
 |none=>none
def JX:Nat->E->Su->Option U
 |0,_,_=>none
 |n+1,e,Y=>match e with
  |.L i=>Dx Y[i]?
  |.ZZ u=>some u
  |.ZW es=>tupP (AM (JX n) es Y)
  |.ZT .add a b=>BC (JX n a Y) (JX n b Y)
  |.ZT .sub a b=>BN (JX n a Y) (JX n b Y)
  |.idx a (.ZZ (.int k))=>JW (JX n a Y) k
  |_=>none
section
variable{J:List Fn}{X:XP}{Y:Su}
def pEs{f:E->Su->Option U}(a:∀e u (Q:U->G->Prop),f e Y=some u->(JD J d e Y g X Q↔Q u g)):∀(es:List E) (S:List U) (Q:List U->G->Prop),AM f es Y=some S->(Ao J d es Y g X Q↔Q S g)
 |[],S,Q,h=>by cases h;exact ya
 |e::es,S,Q,h=>by
  cases he:f e Y with
  |none=>simp![AM,he]at h;cases h
  |some u=>
   cases hs:AM f es Y with
   |none=>simp![AM,he,hs]at h;cases h
   |some b=>
    simp![AM,he,hs]at h;cases h;exact lu.trans ((a e u _ he).trans (pEs a es b _ hs))
def nV{f:Option U->Option U->Option U}{a b:E}{x y:Option U}{u:U}{Q:U->G->Prop}(h:∀u (Q:U->G->Prop),x=some u->(JD J d a Y g X Q↔Q u g))(e:∀u (Q:U->G->Prop),y=some u->(JD J d b Y g X Q↔Q u g))(c:f x y=some u)(k:∀u,f x y=some u ->∃i j,x=some (.int i)/\y=some (.int j)/\IV op (.int i) (.int j)=some u):JD J d (.ZT op a b) Y g X Q↔Q u g:=by
 let⟨i,j,n,m,l⟩:=k u c;refine nP.trans ((h _ _ n).trans ((e _ _ m).trans ?_));rw[ob_i,l,gu]
def pE:∀(n:Nat) (e:E) (u:U) (Q:U->G->Prop),JX n e Y=some u->(JD J d e Y g X Q↔Q u g)
 |0,_,_,_,h=>by cases h
 |n+1,e,u,Q,h=>by
  have ih:=pE n;cases e with
  |L i=>
   have h:Dx Y[i]?=some u:=h;refine adZ.trans ?_;cases hs:Y[i]? with
   |none=>rw[hs]at h;cases h
   |some o=>rw[hs]at h;have h:o=some u:=h;subst h;exact Y6
  |ZZ v=>cases(show some v=some u from h);exact nI
  |ZW es=>
   have h:tupP (AM (JX n) es Y)=some u:=h;cases hs:AM (JX n) es Y with
   |none=>rw[hs]at h;cases h
   |some S=>
    rw[hs]at h;simp![tupP]at h;cases c:Nat.ble S.length 1000 with
    |true=>
     rw[c]at h;cases h;refine nZ.trans ((pEs (λe u Q h=>ih e u Q h) es S _ hs).trans ?_);rw[j9 (by have:=Nat.le_of_ble_eq_true c;lia),oj]
    |false=>rw[c]at h;cases h
  |ZT op a b=>
   cases op with
   |add=>
    have h:BC (JX n a Y) (JX n b Y)=some u:=h;refine nV (f:=BC) (λu Q h=>ih a u Q h) (λu Q h=>ih b u Q h) h λu h=>?_;unfold BC at h;split at h
    .split at h
     .cases h;exact⟨_,_,‹_›,‹_›,rfl⟩
     .cases h
    .cases h
   |sub=>
    have h:BN (JX n a Y) (JX n b Y)=some u:=h;refine nV (f:=BN) (λu Q h=>ih a u Q h) (λu Q h=>ih b u Q h) h λu h=>?_;unfold BN at h;split at h
    .split at h
     .cases h;exact⟨_,_,‹_›,‹_›,rfl⟩
     .cases h
    .cases h
   |_=>exact nomatch (show none=some u from h)
  |idx a b=>
   cases b with
   |ZZ v=>
    cases v with
    |int k=>
     have h:JW (JX n a Y) k=some u:=h;cases j:JX n a Y with
     |none=>rw[j]at h;cases h
     |some x=>
      rw[j]at h;refine nU.trans ((ih a x _ j).trans (nI.trans ?_));cases x with
      |ZW xs=>
       have h:Jd xs k=some u:=h;show JM (Jd xs k) (lk _)↔_;rw[h,gu]
      |_=>cases h
    |_=>exact nomatch (show none=some u from h)
   |_=>exact nomatch (show none=some u from h)
  |_=>exact nomatch (show none=some u from h)
def JY(J:List Fn)(d:Nat)(e:E)(Y:Su)(g:G)(X:XP)(Q:U->G->Prop):Prop:=JD J d e Y g X Q
def JZ(J:List Fn)(d:Nat)(a:List E)(Y:Su)(g:G)(X:XP)(Q:List U->G->Prop):Prop:=Ao J d a Y g X Q
def p_E{e:E}{Q:U->G->Prop}:JD J d e Y g X Q=JV (JX 8 e Y) (lk (JY J d e Y g X Q)) (lk λu=>Q u g):=propext (by
 cases h:JX 8 e Y with
 |none=>exact Y6
 |some u=>exact pE 8 e u Q h)
def p_Es{a:List E}{Q:List U->G->Prop}:Ao J d a Y g X Q=JV (AM (JX 8) a Y) (lk (JZ J d a Y g X Q)) (lk λS=>Q S g):=propext (by
 cases h:AM (JX 8) a Y with
 |none=>exact Y6
 |some S=>exact pEs (λe u Q h=>pE 8 e u Q h) a S Q h)
def vN{a:Nat}{b:List Nat}{t:Tg}{it:E}{c:List (Tg×E×List E)}{k v:E}{Q:U->G->Prop}:JY J d (.Wh a b ((t,it,cs)::c) k v) Y g X Q↔JH J d it Y g X λi g=>JS J d i 0 t cs c (.pair k v) [] (List.replicate a none++b.map λj=>(Y[j]?).getD none) g (λ_ _ _=>False) (lk λS g=>JM (dfold S []) <| lk λZ4=>Q (.ref g.length) (g++[.ZF Z4])):=aaM
def vO{k v:E}{Q:U->G->Prop}:JY J d (.pair k v) Y g X Q↔JD J d k Y g X λx g=>JD J d v Y g X λy g=>JM (keyOf x) <| lk λ_=>Q (.ZW [x,y]) g:=zq
def vE{a:Nat}{b:List Nat}{t:Tg}{it:E}{c:List (Tg×E×List E)}{Q:U->G->Prop}:JY J d (.comp a b ((t,it,cs)::c) elt) Y g X Q↔JH J d it Y g X λi g=>JS J d i 0 t cs c elt [] (List.replicate a none++b.map λj=>(Y[j]?).getD none) g (λ_ _ _=>False) (lk λS g=>S.length<=Ac/\Q (.ref g.length) (g++[.Z5 S])):=yi
def xm{Q:U->G->Prop}:JY J d .Wi Y g X Q↔Q (.ref g.length) (g++[.ZF []]):=xO
end
section
variable{Y:Su}
def acU{f:E->Su->Option U}:AM f [] Y=some []:=rfl
def zi{f:E->Su->Option U}{e:E}{a:List E}:AM f (e::a) Y=match f e Y with
  |some u=>match AM f a Y with
   |some S=>some (u::S)
   |none=>none
  |none=>none:=rfl
def acY:JX (n+1) (.L i) Y=Dx Y[i]?:=rfl
def acp:JX (n+1) (.ZZ u) Y=some u:=rfl
def acF{a:List E}:JX (n+1) (.ZW a) Y=tupP (AM (JX n) a Y):=rfl
def adM{a b:E}:JX (n+1) (.ZT .add a b) Y=BC (JX n a Y) (JX n b Y):=rfl
def ab0{a b:E}:JX (n+1) (.ZT .sub a b) Y=BN (JX n a Y) (JX n b Y):=rfl
def adE{a:E}{k:Int}:JX (n+1) (.idx a (.ZZ (.int k))) Y=JW (JX n a Y) k:=rfl
def yE{o:Option U}:Dx (some o)=o:=rfl
def aam{a:U}:tupP (some [a])=some (.ZW [a]):=rfl
def aa8{a b:U}:tupP (some [a,b])=some (.ZW [a,b]):=rfl
def zS{a b c:U}:tupP (some [a,b,c])=some (.ZW [a,b,c]):=rfl
def zg{a b c d:U}:tupP (some [a,b,c,d])=some (.ZW [a,b,c,d]):=rfl
def abg{a b c d e:U}:tupP (some [a,b,c,d,e])=some (.ZW [a,b,c,d,e]):=rfl
def zT{a b c d e f:U}:tupP (some [a,b,c,d,e,f])=some (.ZW [a,b,c,d,e,f]):=rfl
def xK{a b c d e f g:U}:tupP (some [a,b,c,d,e,f,g])=some (.ZW [a,b,c,d,e,f,g]):=rfl
def aaG{a b c d e f g h:U}:tupP (some [a,b,c,d,e,f,g,h])=some (.ZW [a,b,c,d,e,f,g,h]):=rfl
def aaO:tupP none=none:=rfl
def aan{i j:Int}:BC (some (.int i)) (some (.int j))=some (.int (i+j)):=rfl
def abn{i j:Int}:BN (some (.int i)) (some (.int j))=some (.int (i-j)):=rfl
def abv{y:Option U}:BC none y=none:=rfl
def y6{y:Option U}:BN none y=none:=rfl
def aaA{i:Int}:BC (some (.int i)) none=none:=rfl
def zu{i:Int}:BN (some (.int i)) none=none:=rfl
def zb{y:Option U}:BC (some (.ref i)) y=none:=rfl
def adm{k:Int}:JW (some (.ZW xs)) k=Jd xs k:=rfl
def ace{k:Int}:JW (some (.ref n)) k=none:=rfl
def adh{k:Int}:JW (some (.Zx xs)) k=none:=rfl
def ac8{c:Nat}{k:Int}:JW (some (.xn c xs)) k=none:=rfl
def ac0{k:Int}:JW none k=none:=rfl
def acT{a b:E}:JX (n+1) (.ZT .mul a b) Y=none:=rfl
def ze{a b:E}:JX (n+1) (.ZT .fdiv a b) Y=none:=rfl
def adq{a b:E}:JX (n+1) (.ZT .mod a b) Y=none:=rfl
def acK{a b:E}:JX (n+1) (.ZT .pow a b) Y=none:=rfl
def acC{o:Cp}{a b:E}:JX (n+1) (.cmp o a b) Y=none:=rfl
def xI{o q:Cp}{a b:E}:JX (n+1) (.chain o q a b c) Y=none:=rfl
def adF{a b:E}:JX (n+1) (.and a b) Y=none:=rfl
def q_or{a b:E}:JX (n+1) (.or a b) Y=none:=rfl
def adf{a:E}:JX (n+1) (.not a) Y=none:=rfl
def acD{a:E}:JX (n+1) (.neg a) Y=none:=rfl
def ac9{a b:E}:JX (n+1) (.ite c a b) Y=none:=rfl
def acL{a:List E}:JX (n+1) (.Z5 a) Y=none:=rfl
def abO{a:E}{lo hi:Option E}:JX (n+1) (.Wj a lo hi) Y=none:=rfl
def acN{a:E}:JX (n+1) (.rev a) Y=none:=rfl
def yn{f:Nat}{a:List E}:JX (n+1) (.call f a) Y=none:=rfl
def acd{a:E}{b:List Nat}:JX (n+1) (.fld a j b) Y=none:=rfl
def vT{f:Nat}{a ks:List E}:JX (n+1) (.UX f a ks pm) Y=none:=rfl
def xR{c f:Nat}{a ks:List E}:JX (n+1) (.make c f a ks pm) Y=none:=rfl
def acM{op:Cp}{a b:E}:JX (n+1) (.oeq op tb a b) Y=none:=rfl
def abE{a:E}{b ks:List E}:JX (n+1) (.XG a j tb b ks) Y=none:=rfl
def abc{c:Bool}{a:E}:JX (n+1) (.S1 c a) Y=none:=rfl
def q_bi{b:Bi}{a:List E}:JX (n+1) (.bi b a) Y=none:=rfl
def adl{a:E}{t:Ty}:JX (n+1) (.isi a t) Y=none:=rfl
def adK{o v:E}:JX (n+1) (.app o v) Y=none:=rfl
def x5{o v:E}:JX (n+1) (.VY o v) Y=none:=rfl
def adB{o v:E}:JX (n+1) (.ext o v) Y=none:=rfl
def abZ{o:E}:JX (n+1) (.pop o) Y=none:=rfl
def yT  : JX (n+1) .Wi Y=none:=rfl
def xY{a:List Nat}{gs:List (Tg×E×List E)}{e:E}:JX (n+1) (.comp m a gs e) Y=none:=rfl
def yq{ks:List PySem.Str}{a:List E}:JX (n+1) (.S0 ks a) Y=none:=rfl
def abY{o k x:E}:JX (n+1) (.dgt o k x) Y=none:=rfl
def xZ{k v:E}:JX (n+1) (.pair k v) Y=none:=rfl
def abm{a:List Nat}{gs:List (Tg×E×List E)}{k v:E}:JX (n+1) (.Wh m a gs k v) Y=none:=rfl
def ada{a:E}:JX (n+1) (.idx a (.L i)) Y=none:=rfl
def ady{a:E}{f:Nat}{b:List E}:JX (n+1) (.idx a (.call f b)) Y=none:=rfl
def ac7{a:E}{b:List E}:JX (n+1) (.idx a (.ZW b)) Y=none:=rfl
def adt{a b:E}{o:Op}:JX (n+1) (.idx a (.ZT o b c)) Y=none:=rfl
def adY{a:E}{s:PySem.Str}:JX (n+1) (.idx a (.ZZ (.str s))) Y=none:=rfl
def ad0{a b:E}:JX (n+1) (.idx a (.idx b c)) Y=none:=rfl
def adU{a b:E}:JX (n+1) (.idx a (.neg b)) Y=none:=rfl
end
section
variable{J:List Fn}{X:XP}{Y:Su}{Q:U->G->Prop}{QF:Fl->G->Prop}{QB:Bool->G->Prop}{QI:Iter->G->Prop}{QL:List U->G->Prop}{QO:Option Int->G->Prop}{cp:Cp}{cq:Cp}{a:E}{b:E}{e:E}{it:E}{o:E}{v:E}{k:Nat}{f:Nat}{cc:Nat}{cs:List Nat}{es:List E}{ks:List E}{p:Nat×List (Nat ⊕ U)}{x:U}{w:U}{ws:List U}{lo:Option E}{hi:Option E}{l:Option Int}{h:Option Int}{t:Tg}{ty:Ty}{z:Bool}{n:Int}{s:Z6}{ss:List Z6}{A:List Z6}{B:List Z6}{ao:Op}{st:Su}{bb:Bi}{X9:Iter}{pq:Iter×G}{g2:G}{nn:Nat}{ces:List E}{os:Option U}
def KV{b:Type}(g:G)(Q:b->G->Prop)(a:b):Prop:=Q a g
theorem KV_a{Q:α->G->Prop}{a:α}:KV g Q a=Q a g:=propext Y6
def k_E  : JD J d e Y g X Q=JV (JX 8 e Y) (lk (JY J d e Y g X Q)) (lk (KV g Q)):=p_E
def k_Es  : Ao J d es Y g X QL=JV (AM (JX 8) es Y) (lk (JZ J d es Y g X QL)) (lk (KV g QL)):=p_Es
def KB(g:G)(Q:U->G->Prop)(z:Bool):Prop:=Q (.bl z) g
theorem KB_a  : KB g Q z=(Q (.bl z) g):=propext Y6
def Kl2(u:U)(a:List U->G->Prop)(S:List U)(g:G):Prop:=a (u::S) g
def acS  : Kl2 u QL S g=(QL (u::S) g):=propext Y6
def Kl1(J:List Fn)(d:Nat)(a:List E)(Y:Su)(X:XP)(b:List U->G->Prop)(u:U)(g:G):Prop:=Ao J d a Y g X (Kl2 u b)
def acZ  : Kl1 J d es Y X QL u g=(Ao J d es Y g X (Kl2 u QL)):=propext Y6
def xC  : JZ J d (e::es) Y g X QL↔JD J d e Y g X (Kl1 J d es Y X QL):=lu
def DL(op:Op)(x:U)(X:XP)(Q:U->G->Prop)(y:U)(g:G):Prop:=ob op x y g X (lk Q)
def xB  : DL op x X Q y g=(ob op x y g X (lk Q)):=propext Y6
def FJ(J:List Fn)(d:Nat)(op:Op)(b:E)(Y:Su)(X:XP)(Q:U->G->Prop)(x:U)(g:G):Prop:=JD J d b Y g X (DL op x X Q)
def wy  : FJ J d op b Y X Q x g=(JD J d b Y g X (DL op x X Q)):=propext Y6
def acy  : JY J d (.ZT op a b) Y g X Q↔JD J d a Y g X (FJ J d op b Y X Q):=nP
def ob_k{i:Int}{X:XP}{Q:U->G->Prop}:ob op (.int i) y g X (lk Q)=JM (IV op (.int i) y) (lk (KV g Q)):=ob_i
def Cz(a:Cp)(x:U)(Q:U->G->Prop)(y:U)(g:G):Prop:=JM (Jb a x y g) (lk (KB g Q))
def wD  : Cz cp x Q y g=(JM (Jb cp x y g) (lk (KB g Q))):=propext Y6
def Fz(J:List Fn)(d:Nat)(a:Cp)(b:E)(Y:Su)(X:XP)(Q:U->G->Prop)(x:U)(g:G):Prop:=JD J d b Y g X (Cz a x Q)
def vD  : Fz J d cp b Y X Q x g=(JD J d b Y g X (Cz cp x Q)):=propext Y6
def ab4  : JY J d (.cmp cp a b) Y g X Q↔JD J d a Y g X (Fz J d cp b Y X Q):=acE
def Eg(J:List Fn)(d:Nat)(a:Cp)(y:U)(c:E)(Y:Su)(g:G)(X:XP)(Q:U->G->Prop)(z:Bool):Prop:=JN z (lk (JD J d c Y g X (Cz a y Q))) (lk (Q (.bl false) g))
def aap  : Eg J d cq y c Y g X Q z=(JN z (lk (JD J d c Y g X (Cz cq y Q))) (lk (Q (.bl false) g))):=propext Y6
def EB(J:List Fn)(d:Nat)(b:Cp)(a:Cp)(x:U)(c:E)(Y:Su)(X:XP)(Q:U->G->Prop)(y:U)(g:G):Prop:=JM (Jb b x y g) (lk (Eg J d a y c Y g X Q))
def zE  : EB J d cp cq x c Y X Q y g=(JM (Jb cp x y g) (lk (Eg J d cq y c Y g X Q))):=propext Y6
def Kch1(J:List Fn)(d:Nat)(e:Cp)(a:Cp)(b:E)(c:E)(Y:Su)(X:XP)(Q:U->G->Prop)(x:U)(g:G):Prop:=JD J d b Y g X (EB J d e a x c Y X Q)
def aa2  : Kch1 J d cp cq b c Y X Q x g=(JD J d b Y g X (EB J d cp cq x c Y X Q)):=propext Y6
def vc  : JY J d (.chain cp cq a b c) Y g X Q↔JD J d a Y g X (Kch1 J d cp cq b c Y X Q):=vf
def F8(J:List Fn)(d:Nat)(b:E)(Y:Su)(X:XP)(Q:U->G->Prop)(x:U)(g:G):Prop:=JM (match x with|.bl z=>some z|_=>none) <| lk λz=>JN z (lk (JD J d b Y g X Q)) (lk (Q (.bl false) g))
def zj{J:List Fn}{b:E}{Y:Su}{X:XP}{Q:U->G->Prop}{z:Bool}:F8 J d b Y X Q (.bl z) g=JN z (lk (JD J d b Y g X Q)) (lk (Q (.bl false) g)):=propext Y6
def adb  : JY J d (.and a b) Y g X Q↔JD J d a Y g X (F8 J d b Y X Q):=acX
def Ge(Q:U->G->Prop)(S:List U)(g:G):Prop:=JN (Bg S.length) (lk (Q (.ZW S) g)) (lk False)
def yg  : Ge Q S g=(JN (Bg S.length) (lk (Q (.ZW S) g)) (lk False)):=propext Y6
def adQ  : JY J d (.ZW es) Y g X Q↔Ao J d es Y g X (Ge Q):=nZ
def Klst(Q:U->G->Prop)(S:List U)(g:G):Prop:=JN (Bg S.length) (lk (Q (.ref g.length) (g++[.Z5 S]))) (lk False)
def yI  : Klst Q S g=(JN (Bg S.length) (lk (Q (.ref g.length) (g++[.Z5 S]))) (lk False)):=propext Y6
def acf  : JY J d (.Z5 es) Y g X Q↔Ao J d es Y g X (Klst Q):=adp
def Kix3(i:Int)(g:G)(Q:U->G->Prop)(xs:List U):Prop:=JM (Jd xs i) (lk (KV g Q))
def zY{i:Int}{Q:U->G->Prop}:Kix3 i g Q xs=JM (Jd xs i) (lk (KV g Q)):=propext Y6
def Ex(x:U)(Q:U->G->Prop)(y:U)(g:G):Prop:=match y with|.ZW S=>JM ((AY (.ZW S) x g).bind id) <| lk λz=>Q z g|.str k=>JM ((IY x g).bind λZ4=>Cj Z4 k) <| lk λz=>Q z g|y=>JM (match y with|.int i=>some i|_=>none) <| lk λi=>JM (items x g) <| lk λxs=>JM (Jd xs i) <| lk λz=>Q z g
def abK{x:U}{Q:U->G->Prop}{i:Int}:Ex x Q (.int i) g=JM (items x g) (lk (Kix3 i g Q)):=propext Y6
def Kix1(J:List Fn)(d:Nat)(b:E)(Y:Su)(X:XP)(Q:U->G->Prop)(x:U)(g:G):Prop:=JD J d b Y g X (Ex x Q)
def aao  : Kix1 J d b Y X Q x g=(JD J d b Y g X (Ex x Q)):=propext Y6
def adn  : JY J d (.idx a b) Y g X Q↔JD J d a Y g X (Kix1 J d b Y X Q):=nU
def DZ(x:U)(l:Option Int)(X:XP)(Q:U->G->Prop)(h:Option Int)(g:G):Prop:=hk (CQ x l h g) X (lk Q)
def aaK  : DZ x l X Q h g=(hk (CQ x l h g) X (lk Q)):=propext Y6
def Et(J:List Fn)(d:Nat)(x:U)(hi:Option E)(Y:Su)(X:XP)(Q:U->G->Prop)(l:Option Int)(g:G):Prop:=JF J d hi Y g X (DZ x l X Q)
def aaT  : Et J d x hi Y X Q l g=(JF J d hi Y g X (DZ x l X Q)):=propext Y6
def Gh(J:List Fn)(d:Nat)(lo:Option E)(hi:Option E)(Y:Su)(X:XP)(Q:U->G->Prop)(x:U)(g:G):Prop:=JF J d lo Y g X (Et J d x hi Y X Q)
def zL  : Gh J d lo hi Y X Q x g=(JF J d lo Y g X (Et J d x hi Y X Q)):=propext Y6
def ado  : JY J d (.Wj a lo hi) Y g X Q↔JD J d a Y g X (Gh J d lo hi Y X Q):=acx
def DN(g:G)(Q:U->G->Prop)(xs:List U):Prop:=Q (.ref g.length) (g++[.Z5 xs.reverse])
def w8{Q:U->G->Prop}:DN g Q xs=Q (.ref g.length) (g++[.Z5 xs.reverse]):=propext Y6
def Gq(Q:U->G->Prop)(x:U)(g:G):Prop:=JM (CG x g) (lk (DN g Q))
def aav  : Gq Q x g=(JM (CG x g) (lk (DN g Q))):=propext Y6
def abU  : JY J d (.rev a) Y g X Q↔JD J d a Y g X (Gq Q):=adz
def Fy(J:List Fn)(d:Nat)(f:Nat)(X:XP)(Q:U->G->Prop)(S:List U)(g:G):Prop:=JR J d f S g X (lk Q)
def vA  : Fy J d f X Q S g=(JR J d f S g X (lk Q)):=propext Y6
def zD  : JY J d (.call f es) Y g X Q↔Ao J d es Y g nX (Fy J d f X Q):=aaY
def Kfld(j:Nat)(a:List Nat)(Q:U->G->Prop)(x:U)(g:G):Prop:=JM ((AK x g).bind (Cd j a)) (lk (KV g Q))
def abA  : Kfld j cs Q x g=(JM ((AK x g).bind (Cd j cs)) (lk (KV g Q))):=propext Y6
def adw  : JY J d (.fld a j cs) Y g X Q↔JD J d a Y g X (Kfld j cs Q):=adA
def Ez(a:Nat)(Q:U->G->Prop)(u:U)(g:G):Prop:=AH u=true/\Q (.ref a) g
def abo  : Ez nn Q u g=(AH u=true/\Q (.ref nn) g):=propext Y6
def DR(J:List Fn)(d:Nat)(e:Nat)(f:Nat)(S:List U)(c:List E)(ks:List E)(b:List (Nat ⊕ U))(X:XP)(Q:U->G->Prop)(a:List U)(g:G):Prop:=S.length=c.length/\a.length=ks.length/\JR J d f (perm (.ref g.length::S++a) b) (g++[.ins e []]) X (lk (Ez g.length Q))
def zw  : DR J d cc f S es ks pm X Q ws g=(S.length=es.length/\ws.length=ks.length/\JR J d f (perm (.ref g.length::S++ws) pm) (g++[.ins cc []]) X (lk (Ez g.length Q))):=propext Y6
def Kmk1(J:List Fn)(d:Nat)(c:Nat)(f:Nat)(b:List E)(ks:List E)(a:List (Nat ⊕ U))(Y:Su)(X:XP)(Q:U->G->Prop)(S:List U)(g:G):Prop:=Ao J d ks Y g nX (DR J d c f S b ks a X Q)
def abr  : Kmk1 J d cc f es ks pm Y X Q S g=(Ao J d ks Y g nX (DR J d cc f S es ks pm X Q)):=propext Y6
def aaF  : JY J d (.make cc f es ks pm) Y g X Q↔Ao J d es Y g nX (Kmk1 J d cc f es ks pm Y X Q):=zB
def DT(J:List Fn)(d:Nat)(x:U)(p:Nat×List (Nat ⊕ U))(S:List U)(b:List E)(ks:List E)(X:XP)(Q:U->G->Prop)(a:List U)(g:G):Prop:=S.length=b.length/\a.length=ks.length/\JR J d p.1 (perm (x::S++a) p.2) g X (lk Q)
def zW  : DT J d x p S es ks X Q ws g=(S.length=es.length/\ws.length=ks.length/\JR J d p.1 (perm (x::S++ws) p.2) g X (lk Q)):=propext Y6
def D3(J:List Fn)(d:Nat)(x:U)(p:Nat×List (Nat ⊕ U))(a:List E)(ks:List E)(Y:Su)(X:XP)(Q:U->G->Prop)(S:List U)(g:G):Prop:=Ao J d ks Y g nX (DT J d x p S a ks X Q)
def abi  : D3 J d x p es ks Y X Q S g=(Ao J d ks Y g nX (DT J d x p S es ks X Q)):=propext Y6
def Es(J:List Fn)(d:Nat)(x:U)(a:List E)(ks:List E)(Y:Su)(g:G)(X:XP)(Q:U->G->Prop)(p:Nat×List (Nat ⊕ U)):Prop:=Ao J d a Y g nX (D3 J d x p a ks Y X Q)
def aaX  : Es J d x es ks Y g X Q p=(Ao J d es Y g nX (D3 J d x p es ks Y X Q)):=propext Y6
def Kmt1(J:List Fn)(d:Nat)(j:Nat)(a:List (Nat×Nat×List (Nat ⊕ U)))(b:List E)(ks:List E)(Y:Su)(X:XP)(Q:U->G->Prop)(x:U)(g:G):Prop:=JM ((AK x g).bind (BS j a)) (lk (Es J d x b ks Y g X Q))
def abk  : Kmt1 J d j tb es ks Y X Q x g=(JM ((AK x g).bind (BS j tb)) (lk (Es J d x es ks Y g X Q))):=propext Y6
def z6  : JY J d (.XG a j tb es ks) Y g X Q↔JD J d a Y g nX (Kmt1 J d j tb es ks Y X Q):=abh
def Em(g:G)(X:XP)(Q:U->G->Prop)(k:Nat):Prop:=hk (BI k g) X (lk Q)
def aaI  : Em g X Q k=(hk (BI k g) X (lk Q)):=propext Y6
def F7(X:XP)(Q:U->G->Prop)(x:U)(g:G):Prop:=JM (Jh x g) (lk (Em g X Q))
def yd  : F7 X Q x g=(JM (Jh x g) (lk (Em g X Q))):=propext Y6
def acQ  : JY J d (.pop o) Y g X Q↔JD J d o Y g X (F7 X Q):=acH
def En(k:Nat)(X:XP)(Q:U->G->Prop)(y:U)(g:G):Prop:=hk (Bo k y g) X (lk Q)
def yF  : En k X Q y g=(hk (Bo k y g) X (lk Q)):=propext Y6
def DX(J:List Fn)(d:Nat)(v:E)(Y:Su)(g:G)(X:XP)(Q:U->G->Prop)(k:Nat):Prop:=JD J d v Y g X (En k X Q)
def yo  : DX J d v Y g X Q k=(JD J d v Y g X (En k X Q)):=propext Y6
def Gd(J:List Fn)(d:Nat)(v:E)(Y:Su)(X:XP)(Q:U->G->Prop)(x:U)(g:G):Prop:=JM (Jh x g) (lk (DX J d v Y g X Q))
def zI  : Gd J d v Y X Q x g=(JM (Jh x g) (lk (DX J d v Y g X Q))):=propext Y6
def abS  : JY J d (.app o v) Y g X Q↔JD J d o Y g X (Gd J d v Y X Q):=acv
def D4(k:Nat)(X:XP)(Q:U->G->Prop)(y:U)(g:G):Prop:=hk (BE k y g) X (lk Q)
def y7  : D4 k X Q y g=(hk (BE k y g) X (lk Q)):=propext Y6
def DQ(J:List Fn)(d:Nat)(v:E)(Y:Su)(g:G)(X:XP)(Q:U->G->Prop)(k:Nat):Prop:=JD J d v Y g X (D4 k X Q)
def aaQ  : DQ J d v Y g X Q k=(JD J d v Y g X (D4 k X Q)):=propext Y6
def F3(J:List Fn)(d:Nat)(v:E)(Y:Su)(X:XP)(Q:U->G->Prop)(x:U)(g:G):Prop:=JM (Jh x g) (lk (DQ J d v Y g X Q))
def yM  : F3 J d v Y X Q x g=(JM (Jh x g) (lk (DQ J d v Y g X Q))):=propext Y6
def acP  : JY J d (.ext o v) Y g X Q↔JD J d o Y g X (F3 J d v Y X Q):=acW
def D7(k:Nat)(X:XP)(Q:U->G->Prop)(y:U)(g:G):Prop:=hk (BQ k y g) X (lk Q)
def z8  : D7 k X Q y g=(hk (BQ k y g) X (lk Q)):=propext Y6
def El(J:List Fn)(d:Nat)(v:E)(Y:Su)(g:G)(X:XP)(Q:U->G->Prop)(k:Nat):Prop:=JD J d v Y g X (D7 k X Q)
def xN  : El J d v Y g X Q k=(JD J d v Y g X (D7 k X Q)):=propext Y6
def F5(J:List Fn)(d:Nat)(v:E)(Y:Su)(X:XP)(Q:U->G->Prop)(x:U)(g:G):Prop:=JM (Jh x g) (lk (El J d v Y g X Q))
def yK  : F5 J d v Y X Q x g=(JM (Jh x g) (lk (El J d v Y g X Q))):=propext Y6
def aau  : JY J d (.VY o v) Y g X Q↔JD J d o Y g X (F5 J d v Y X Q):=yS
def Kbi(a:Bi)(X:XP)(Q:U->G->Prop)(S:List U)(g:G):Prop:=hk (Jg a S g) X (lk Q)
def adW  : Kbi bb X Q S g=(hk (Jg bb S g) X (lk Q)):=propext Y6
def k_bi  : JY J d (.bi bb es) Y g X Q↔Ao J d es Y g X (Kbi bb X Q):=e_bi
def Ko(Q:Option Int->G->Prop)(x:U)(g:G):Prop:=JM (match x with|.int i=>some i|_=>none) <| lk λi=>Q (some i) g
theorem Ko_a{Q:Option Int->G->Prop}{i:Int}:Ko Q (.int i) g=Q (some i) g:=propext Y6
def xu  : JF J d (some e) Y g X QO↔JD J d e Y g X (Ko QO):=yH
def Ktr(a:Bool->G->Prop)(x:U)(g:G):Prop:=JM (Jc x g) (lk (KV g a))
def adx  : Ktr QB x g=(JM (Jc x g) (lk (KV g QB))):=propext Y6
def Kta(J:List Fn)(d:Nat)(b:E)(Y:Su)(X:XP)(a:Bool->G->Prop)(z:Bool)(g:G):Prop:=JN z (lk (JE J d b Y g X a)) (lk (a false g))
def ad3  : Kta J d b Y X QB z g=(JN z (lk (JE J d b Y g X QB)) (lk (QB false g))):=propext Y6
def Kto(J:List Fn)(d:Nat)(b:E)(Y:Su)(X:XP)(a:Bool->G->Prop)(z:Bool)(g:G):Prop:=JN z (lk (a true g)) (lk (JE J d b Y g X a))
def ab2  : Kto J d b Y X QB z g=(JN z (lk (QB true g)) (lk (JE J d b Y g X QB))):=propext Y6
def Ktn(a:Bool->G->Prop)(z:Bool)(g:G):Prop:=a (!z) g
def adG  : Ktn QB z g=(QB (!z) g):=propext Y6
def zG  : JE J d (.and a b) Y g X QB↔JE J d a Y g X (Kta J d b Y X QB):=abQ
def adk  : JE J d (.or a b) Y g X QB↔JE J d a Y g X (Kto J d b Y X QB):=t_or
def abx  : JE J d (.not a) Y g X QB↔JE J d a Y g X (Ktn QB):=adS
def yD  : JE J d (.L i) Y g X QB↔JD J d (.L i) Y g X (Ktr QB):=t_e rfl
def z9  : JE J d (.cmp cp a b) Y g X QB↔JD J d (.cmp cp a b) Y g X (Ktr QB):=t_e rfl
def xh  : JE J d (.call f es) Y g X QB↔JD J d (.call f es) Y g X (Ktr QB):=t_e rfl
def Kac(J:List Fn)(d:Nat)(b:List E)(Y:Su)(X:XP)(a:Bool->G->Prop)(z:Bool)(g:G):Prop:=JN z (lk (JG J d b Y g X a)) (lk (a false g))
def ab9  : Kac J d es Y X QB z g=(JN z (lk (JG J d es Y g X QB)) (lk (QB false g))):=propext Y6
def xg  : JG J d (c::es) Y g X QB↔JE J d c Y g X (Kac J d es Y X QB):=yG
def Krg1(Q:Iter->G->Prop)(x:U)(g:G):Prop:=JM (match x with|.int i=>some i|_=>none) <| lk λj=>JN (Ak j) (lk (Q (.YG 0 j.toNat) g)) (lk False)
def aal{Q:Iter->G->Prop}{j:Int}:Krg1 Q (.int j) g=JN (Ak j) (lk (Q (.YG 0 j.toNat) g)) (lk False):=propext Y6
def w9  : JH J d (.X1 a) Y g X QI↔JD J d a Y g X (Krg1 QI):=aaS
def DV(u:U)(Q:Iter->G->Prop)(w:U)(g:G):Prop:=JM (match u with|.int i=>some i|_=>none) <| lk λi=>JM (match w with|.int i=>some i|_=>none) <| lk λj=>JN (Ak i&&Ak j) (lk (Q (.YG i (j-i).toNat) g)) (lk False)
def xT{Q:Iter->G->Prop}{i j:Int}:DV (.int i) Q (.int j) g=JN (Ak i&&Ak j) (lk (Q (.YG i (j-i).toNat) g)) (lk False):=propext Y6
def Gc(J:List Fn)(d:Nat)(b:E)(Y:Su)(X:XP)(a:Iter->G->Prop)(u:U)(g:G):Prop:=JD J d b Y g X (DV u a)
def yQ  : Gc J d b Y X QI u g=(JD J d b Y g X (DV u QI)):=propext Y6
def wb  : JH J d (.Xm a b) Y g X QI↔JD J d a Y g X (Gc J d b Y X QI):=abG
def Ef(Q:Iter->G->Prop)(p:Iter×G):Prop:=Q p.1 p.2
def x6{Q:Iter->G->Prop}{i:Iter}:Ef Q (i,g)=Q i g:=propext Y6
def Kit(a:Iter->G->Prop)(u:U)(g:G):Prop:=JM (CO u g) (lk (Ef a))
def acr  : Kit QI u g=(JM (CO u g) (lk (Ef QI))):=propext Y6
def aaJ  : JH J d (.L i) Y g X QI↔JD J d (.L i) Y g X (Kit QI):=i_e rfl
def wk  : JH J d (.call f es) Y g X QI↔JD J d (.call f es) Y g X (Kit QI):=i_e rfl
def ab3  : JH J d (.bi bb es) Y g X QI↔JD J d (.bi bb es) Y g X (Kit QI):=i_e rfl
def yZ  : JH J d (.idx a b) Y g X QI↔JD J d (.idx a b) Y g X (Kit QI):=i_e rfl
def xv  : JH J d (.XG a j tb es ks) Y g X QI↔JD J d (.XG a j tb es ks) Y g X (Kit QI):=i_e rfl
def yy  : JH J d (.ZW es) Y g X QI↔JD J d (.ZW es) Y g X (Kit QI):=i_e rfl
def aaW  : JH J d (.Z5 es) Y g X QI↔JD J d (.Z5 es) Y g X (Kit QI):=i_e rfl
def Ek(J:List Fn)(d:Nat)(a:List Z6)(X:XP)(Q:Fl->G->Prop)(f:Fl)(g:G):Prop:=JO f (lk (λZR=>wpS J d a ZR g X Q)) (lk λf=>Q f g)
def wm  : Ek J d ss X QF (.nx Y) g=(wpS J d ss Y g X QF):=propext Y6
def u0  : Ek J d ss X QF (.rt u) g=(QF (.rt u) g):=propext Y6
def uU  : wpS J d (s::ss) Y g X QF↔JI J d s Y g X (Ek J d ss X QF):=xP
def F1(a:Fl->G->Prop)(u:U)(g:G):Prop:=a (.rt u) g
def abJ  : F1 QF u g=(QF (.rt u) g):=propext Y6
def yb  : JI J d (.ret e) Y g X QF↔JD J d e Y g X (F1 QF):=acz
def Ew(g:G)(a:Fl->G->Prop)(st:Su):Prop:=a (.nx st) g
def zx  : Ew g QF st=(QF (.nx st) g):=propext Y6
def Kst(t:Tg)(Y:Su)(a:Fl->G->Prop)(u:U)(g:G):Prop:=JM (Ad t (Jk t u g) Y) (lk (Ew g a))
def acG  : Kst t Y QF u g=(JM (Ad t (Jk t u g) Y) (lk (Ew g QF))):=propext Y6
def abu  : JI J d (.set t e) Y g X QF↔JD J d e Y g X (Kst t Y QF):=aaD
def EH(i:Nat)(j:Nat)(u:U)(Y:Su)(a:Fl->G->Prop)(w:U)(g:G):Prop:=JN (decide (i<Y.length)&&decide (j<Y.length)) (lk (a (.nx ((Y.set i (some u)).set j (some w))) g)) (lk False)
def yL  : EH i j u Y QF w g=(JN (decide (i<Y.length)&&decide (j<Y.length)) (lk (QF (.nx ((Y.set i (some u)).set j (some w))) g)) (lk False)):=propext Y6
def Kpa1(J:List Fn)(d:Nat)(i:Nat)(j:Nat)(b:E)(Y:Su)(X:XP)(a:Fl->G->Prop)(u:U)(g:G):Prop:=JD J d b Y g X (EH i j u Y a)
def aab  : Kpa1 J d i j b Y X QF u g=(JD J d b Y g X (EH i j u Y QF)):=propext Y6
def yk  : JI J d (.par i j a b) Y g X QF↔JD J d a Y g X (Kpa1 J d i j b Y X QF):=zt
def Eb(u:U)(x:U)(Y:Su)(X:XP)(a:Fl->G->Prop)(y:U)(g:G):Prop:=hk (subAt x y u Y g) X (lk a)
def yR  : Eb u x Y X QF y g=(hk (subAt x y u Y g) X (lk QF)):=propext Y6
def EE(J:List Fn)(d:Nat)(u:U)(b:E)(Y:Su)(X:XP)(a:Fl->G->Prop)(x:U)(g:G):Prop:=JD J d b Y g X (Eb u x Y X a)
def aa7  : EE J d u b Y X QF x g=(JD J d b Y g X (Eb u x Y X QF)):=propext Y6
def Ksb1(J:List Fn)(d:Nat)(o:E)(b:E)(Y:Su)(X:XP)(a:Fl->G->Prop)(u:U)(g:G):Prop:=JD J d o Y g X (EE J d u b Y X a)
def zR  : Ksb1 J d o b Y X QF u g=(JD J d o Y g X (EE J d u b Y X QF)):=propext Y6
def aa6  : JI J d (.sub o b e) Y g X QF↔JD J d e Y g X (Ksb1 J d o b Y X QF):=ym
def Kxp(Y:Su)(a:Fl->G->Prop)(u:U)(g:G):Prop:=a (.nx Y) g
def abT  : Kxp Y QF u g=(QF (.nx Y) g):=propext Y6
def abe  : JI J d (.exp e) Y g X QF↔JD J d e Y g X (Kxp Y QF):=acR
def Kif(J:List Fn)(d:Nat)(A:List Z6)(B:List Z6)(Y:Su)(X:XP)(a:Fl->G->Prop)(z:Bool)(g:G):Prop:=JN z (lk (wpS J d A Y g X a)) (lk (wpS J d B Y g X a))
def adR  : Kif J d A B Y X QF z g=(JN z (lk (wpS J d A Y g X QF)) (lk (wpS J d B Y g X QF))):=propext Y6
def aaz  : JI J d (.Zp c A B) Y g X QF↔JE J d c Y g X (Kif J d A B Y X QF):=xU
def Kfor(J:List Fn)(d:Nat)(t:Tg)(A:List Z6)(Y:Su)(X:XP)(b:Fl->G->Prop)(a:Iter)(g:G):Prop:=JT J d t a 0 A Y g X (lk b)
def zH  : Kfor J d t A Y X QF X9 g=(JT J d t X9 0 A Y g X (lk QF)):=propext Y6
def zJ  : JI J d (.for t it A) Y g X QF↔JH J d it Y g X (Kfor J d t A Y X QF):=yv
def D5(Y:Su)(b:Fl->G->Prop)(a:G):Prop:=b (.nx Y) a
def z7  : D5 Y QF g2=(QF (.nx Y) g2):=propext Y6
def Eu(u:U)(j:Nat)(a:List Nat)(Y:Su)(b:Fl->G->Prop)(x:U)(g:G):Prop:=JM (Bw x j a u g) (lk (D5 Y b))
def z5  : Eu u j cs Y QF x g=(JM (Bw x j cs u g) (lk (D5 Y QF))):=propext Y6
def Gs(J:List Fn)(d:Nat)(a:E)(j:Nat)(b:List Nat)(Y:Su)(X:XP)(c:Fl->G->Prop)(u:U)(g:G):Prop:=JD J d a Y g X (Eu u j b Y c)
def zQ  : Gs J d a j cs Y X QF u g=(JD J d a Y g X (Eu u j cs Y QF)):=propext Y6
def vC  : JI J d (.fset a j cs e) Y g X QF↔JD J d e Y g X (Gs J d a j cs Y X QF):=xD
def Kfn(Q:U->G->Prop)(f:Fl)(g:G):Prop:=JQ f (lk λu=>Q u g)
def zv{Q:U->G->Prop}:Kfn Q (.rt u) g=Q u g:=propext Y6
def y9{Q:U->G->Prop}{Y:Su}:Kfn Q (.nx Y) g=Q .ZK g:=propext Y6
def ae{J:List Fn}{X:XP}{f:Nat}{F:Fn}{Q:U->G->Prop}(b:J[f]?=some F)(a:S.length=F.np)(h:wpS J d F.body (S.map some++List.replicate (F.ns-S.length) none) g X (Kfn Q)):JC J (d+1) f S g X Q:=(xS b a).2 h
end
def bE(h:i<xs.length):Jd xs (i:Int)=xs[i]?:=by
 unfold Jd L2.atI L2.ixN;rw[Yn (by lia),Yn (by lia)]
 simp
def ml{i:Int}(a:0<=i)(h:i<xs.length):Jd xs i=xs[i.toNat]?:=by
 have:=bE (xs:=xs) (i:=i.toNat) ()
 rwa[Int.toNat_of_nonneg a]at this
def ad1{x:U}:Jd (x::xs) 0=some x:=bE (i:=0) #[3]
def abR{x:U}:Jd (x::y::xs) 1=some y:=bE (i:=1) #[3]
def ach{x z:U}:Jd (x::y::z::xs) 2=some z:=bE (i:=2) #[3]
def abW{x z a:U}:Jd (x::y::z::a::xs) 3=some a:=bE (i:=3) #[3]
def acB{x z a b:U}:Jd (x::y::z::a::b::xs) 4=some b:=bE (i:=4) #[3]
def adj{x z a b c:U}:Jd (x::y::z::a::b::c::xs) 5=some c:=bE (i:=5) #[3]
def small(i:Int):Prop:=-BY<i/\i<BY
def j4{i:Int}(h : -18446744073709551616<i)(h':i<18446744073709551616):small i:=⟨h,h'⟩
def aL{i:Int}(h:(decide (-18446744073709551616<i)&&decide (i<18446744073709551616))=true):small i:=by simp at h;exact h
section
variable{i j:Int}
def gW:IV .add (.int i) (.int j)=some (.int (i+j)):=rfl
def hY:IV .sub (.int i) (.int j)=some (.int (i-j)):=rfl
def y4(h:0<j):IV .mod (.int i) (.int j)=some (.int (i % j)):=by simp![IV,IU,Yn h]
def we(h:0<j)(h':j<Aj):IV .fdiv (.int i) (.int j)=some (.int (i / j)):=by simp![IV,IU,Yn h,Yn h']
def wo(h:small i):IV .mul (.int i) (.int j)=some (.int (i*j)):=by
 let⟨h1,h2⟩:=h;simp[IV,IU,h1,h2]
def xF(h:small j):IV .mul (.int i) (.int j)=some (.int (i*j)):=by
 let⟨h1,h2⟩:=h;simp[IV,IU,h1,h2]
def adX:Jb .eq (.int i) (.int j) g=some (decide (i=j)):=by
 simp![Jb,IT,Ai];congr 1
def ab6{a:Bool}:Jb .eq (.bl a) (.bl b) g=some (a==b):=rfl
def adJ{a b:PySem.Str}:Jb .eq (.str a) (.str b) g=some (a==b):=rfl
def nG{a:List U}:Jb .eq (.ZW xs) (.ZW a) g=Ap xs a:=rfl
def m7{a:List U}:Ap (.int i::xs) (.int j::a)=(Ap xs a).map λc=>decide (i=j)&&c:=by
 simp![Ap,Ai];cases Ap xs a with
 |none=>rfl
 |some c=>simp![VO];congr 1
def kn:Ap [] []=some true:=rfl
def ac1:Jb .ne (.int i) (.int j) g=some (!decide (i=j)):=by simp![Jb,Cy,V6,Ai,VO];congr 1
def cisN{x:U}:Jb .UZ x .ZK g=some (AH x):=rfl
def abV{x:U}:Jb .UY x .ZK g=some (!AH x):=rfl
def cin{x:U}:Jb .Xn x y g=match items y g with|some ys=>IX x ys|none=>inD x y g:=rfl
def nS:inD (.ZW S) y g=(AY (.ZW S) y g).map Option.isSome:=rfl
def cnin{x:U}:Jb .VZ x y g=match items y g with|some ys=>(IX x ys).map (!·)|none=>(AY x y g).map λo=>!o.isSome:=rfl
def clt:Jb .lt (.int i) (.int j) g=some (decide (i<j)):=rfl
def cle:Jb .le (.int i) (.int j) g=some (decide (i<=j)):=rfl
def cgt:Jb .gt (.int i) (.int j) g=some (decide (j<i)):=rfl
def cge:Jb .ge (.int i) (.int j) g=some (decide (j<=i)):=rfl
end
section
variable{J:List Fn}{X:XP}{Y:Su}
def eW{it:Iter}{t:Tg}{x:List E}{m:E}{Q:List U->G->Prop}{o:Type}(a:List o)(b:o->U)(c:o->Bool)(e:o->U)(f:G->Prop)
  (r:∀k g,f g->next it k g=some (a.map b)[k]?)
  (u:∀y,y∈a->AX t Y=true/\JM (Ad t (b y) Y) (lk λs=>∀g,f g->JG J d x s g (λ_ _ _=>False) λk g=>k=c y/\JN (c y) (lk (JD J d m s g (λ_ _ _=>False) λv g=>v=e y/\f g)) (lk (f g)))) :
  ∀(n i:Nat) (ZS:List U) (g:G),i+n=a.length->ZS.length+n<Ac->f g->(∀g,f g->Q (ZS++((a.drop i).filter c).map e) g)->JL J d it i t x [] m ZS Y g X Q
 |0,i,ZS,g,C,_,h,p=>by
  rw[a7];refine⟨none,by rw[r _ _ h];simp;lia,?_⟩
  have:=p g h;rw[Um ()]at this
  simpa using this
 |n+1,i,ZS,g,C,hl,h,p=>by
  have hi:i<a.length:=by lia
  have w:a.drop i=a[i]::a.drop (i+1):=Vy hi;let⟨A,D⟩:=u a[i] (TX hi);let⟨s,B,z⟩:=aN.2 D;rw[a7];refine⟨some (b a[i]),by rw[r _ _ h];simp[hi],A,s,B,wp_mono (z g h) λk g q=>?_⟩
  let⟨rfl,q⟩:=q;by_cases j:c a[i]=true
  .rw [Yn j]
   rw[j]at q;refine wp_mono q λv g ⟨ev,l⟩=>⟨by lia,?_⟩
   subst ev;refine eW a b c e f r u n (i+1) _ g (by lia) (by simp;lia) l λg l=>?_
   have:=p g l;rw[w,List.filter_cons_of_pos j]at this;simpa using this
  .rw [Yb j]
   rw[Bool.not_eq_true]at j;rw[j]at q;refine eW a b c e f r u n (i+1) _ g () (by lia) q λg l=>?_
   have:=p g l;rw[w,List.filter_cons_of_neg (by simp[j])]at this
   exact this
def ba{t:Tg}{Q:List U->G->Prop}(f:List α)(a:α->U)(c:α->Bool)(e:α->U)(b:G->Prop)(i:List U)
  (p:(f.filter c).map e=i)
  (m:∀k g,b g->next it k g=some (f.map a)[k]?)
  (j:∀y,y∈f->AX t Y=true/\JM (Ad t (a y) Y) (lk λh=>∀g,b g->JG J d cs h g (λ_ _ _=>False) λk g=>k=c y/\JN (c y) (lk (JD J d elt h g (λ_ _ _=>False) λv g=>v=e y/\b g)) (lk (b g))))
  (n:f.length<16777000) (q:b g) (l:∀g,b g->Q i g):JL J d it 0 t cs [] elt [] Y g X Q:=
 eW f a c e b m j f.length 0 [] g (T9 _) (by simpa[Ac]using n) q λg o=>by
  have:=l g o;rw[<-p]at this;simpa using this
def ig{C:E}{t r:Tg}{x:Iter}{w A:List E}{D:List (Tg×E×List E)}{e:E}{Q:List U->G->Prop}{l:Type}(a:List l)(b:l->U)(f:l->List U)(c:G->Prop)(B:Nat)
  (o:∀k g,c g->next x k g=some (a.map b)[k]?) (v:∀y,y∈a->(f y).length<=B)
  (s:∀y,y∈a->AX t Y=true/\JM (Ad t (b y) Y) (lk λj=>∀g ZS,c g->ZS.length+B<16777000->JG J d w j g (λ_ _ _=>False) λk g=>k=true/\JH J d C j g (λ_ _ _=>False) λF g=>JL J d F 0 r A D e ZS j g (λ_ _ _=>False) λz g=>z=ZS++f y/\c g)) :
  ∀(n i:Nat) (ZS:List U) (g:G),i+n=a.length->ZS.length+n*B+B<16777000->c g->(∀g,c g->Q (ZS++(a.drop i).flatMap f) g)->JL J d x i t w ((r,C,A)::D) e ZS Y g X Q
 |0,i,ZS,g,N,_,h,m=>by
  rw[a7];refine⟨none,by rw[o _ _ h];simp;lia,?_⟩
  have:=m g h;rw[Um ()]at this
  simpa using this
 |n+1,i,ZS,g,N,hl,h,m=>by
  have hi:i<a.length:=by lia
  have K:a.drop i=a[i]::a.drop (i+1):=Vy hi;let⟨I,O⟩:=s a[i] (TX hi);let⟨j,L,H⟩:=aN.2 O;have u:(n+1)*B=n*B+B:=Nat.succ_mul n B;have M:=v a[i] (TX hi);rw[a7];refine⟨some (b a[i]),by rw[o _ _ h];simp[hi],I,j,L,wp_mono (H g ZS h (by lia)) λk g q=>?_⟩
  let⟨rfl,q⟩:=q;rw[Yn rfl];refine wp_mono q λF g q=>wp_mono q λz g q=>?_;let⟨rfl,p⟩:=q;refine ig a b f c B o v s n (i+1) _ g (by lia) (by simp![YB];lia) p λg p=>?_
  have:=m g p;rw[K,VG]at this;simpa using this
def aba{t:Tg}{Q:List U->G->Prop}(f:List α)(a:α->U)(c:α->Bool)(e:α->U)(b:G->Prop)(h:List U)
  (m:∀k g,b g->next it k g=some (f.map a)[k]?)
  (j:∀y,y∈f->AX t Y=true/\JM (Ad t (a y) Y) (lk λi=>∀g,b g->JG J d cs i g (λ_ _ _=>False) λk g=>k=c y/\JN (c y) (lk (JD J d elt i g (λ_ _ _=>False) λv g=>v=e y/\b g)) (lk (b g))))
  (n:h.length+f.length<16777000) (p:b g) (l:∀g,b g->Q (h++(f.filter c).map e) g):JL J d it 0 t cs [] elt h Y g X Q:=
 eW f a c e b m j f.length 0 h g (T9 _) (by simpa[Ac]using n) p λg o=>by simpa using l g o
def be{t:Tg}{b:List Z6}{Q:Fl->G->Prop}(S:List U)(a:Nat->Su->G->Prop)
  (h:∀k Y g,a k Y g->next it k g=some S[k]?) (i:a 0 Y g)
  (c:∀k u Y g,S[k]?=some u->a k Y g->JM (Ad t u Y) (lk λj=>wpS J d b j g X λf g=>JP f (lk (λZR=>a (k+1) ZR g)) (lk λf=>Q f g)))
  (e:∀Y g,a S.length Y g->Q (.nx Y) g):JK J d t it 0 b Y g X Q:=c8 S a h c e S.length 0 Y g (T9 _) i
end
def ke{l:List α}:(l.filter λ_=>true)=l:=List.filter_eq_self.mpr #[3]
abbrev Bc(g:G)(xs:List U)(Q:U->G->Prop):Prop:=∀gs n,g.length<=n->(g++gs)[n]?=some (.Z5 xs)->Q (.ref n) (g++gs)
inductive Dt where
 |ZK|bl (b:Bool)|int (i:Int)|str (s:PySem.Str)|ZW (ds:List Dt)|Z5 (ds:List Dt)
mutual
def Rep(g:G):Dt->U->Prop
 |.ZK,u=>u=.ZK
 |.bl b,u=>u=.bl b
 |.int i,u=>u=.int i
 |.str s,u=>u=.str s
 |.ZW ds,u=>∃S,u=.ZW S/\Reps g ds S
 |.Z5 ds,u=>∃n S,u=.ref n/\g[n]?=some (.Z5 S)/\Reps g ds S
def Reps(g:G):List Dt->List U->Prop
 |[],S=>S=[]
 |d::ds,S=>∃v vs,S=v::vs/\Rep g d v/\Reps g ds vs
end
noncomputable def Dt.ok:Nat->Dt->Prop
 |0,_=>False
 |n+1,.ZW ds=>ds.length<1000000 /\∀D∈ds,D.ok n
 |n+1,.Z5 ds=>ds.length<1000000 /\∀D∈ds,D.ok n
 |_+1,_=>True
def Reps.length{g:G}:∀{ds:List Dt} {S:List U},Reps g ds S->S.length=ds.length
 |[],_,h=>by cases h;rfl
 |_::ds,_,h=>by let⟨v,vs,rfl,_,h2⟩:=h;simp[Reps.length h2]
def Reps.get{g:G}:∀{ds:List Dt} {S:List U} {i:Nat} {D:Dt},Reps g ds S->ds[i]?=some D ->∃v,S[i]?=some v/\Rep g D v
 |[],_,_,_,_,e=>by simp at e
 |x::ds,_,0,D,h,e=>by
  let⟨v,vs,rfl,h1,_⟩:=h;simp at e;subst e;exact⟨v,by simp,h1⟩
 |x::ds,_,i+1,D,h,e=>by
  let⟨v,vs,rfl,_,h2⟩:=h;let⟨w,b,a⟩:=Reps.get (i:=i) (D:=D) h2 (by simpa using e)
  exact⟨w,by simpa using b,a⟩
structure Plan where
 w:Int
 d:Int
 s:Int
abbrev Pt:=Int×Int
abbrev Zj(P:Plan):U:=.ZW [.int P.w,.int P.d,.int P.s]
abbrev uP(p:Pt):U:=.ZW [.int p.1,.int p.2]
structure Plan.ok(P:Plan):Prop where
 w:P.w=1\/P.w=2\/P.w=3
 d:P.d=1\/P.d=2\/P.d=3
 s:P.s=2\/P.s=4\/P.s=8
def Plan.ok.sw{P:Plan}(h:P.ok):small P.w:=by rcases h.w with e|e|e<;>rw[e]<;>exact aL #[1]
def Plan.ok.sd{P:Plan}(h:P.ok):small P.d:=by rcases h.d with e|e|e<;>rw[e]<;>exact aL #[1]
def Plan.ok.ss{P:Plan}(h:P.ok):small P.s:=by rcases h.s with e|e|e<;>rw[e]<;>exact aL #[1]
def Plan.ok.s0{P:Plan}(h:P.ok):0<P.s:=by rcases h.s with e|e|e<;>rw[e]<;>decide
def Plan.ok.sb{P:Plan}(h:P.ok):P.s<Aj:=by rcases h.s with e|e|e<;>rw[e]<;>decide
def Plan.ok.ws{P:Plan}(h:P.ok):2<=P.w*P.s/\P.w*P.s<=24:=by rcases h.w with e|e|e<;>rcases h.s with f|f|f<;>rw[e,f]<;>decide
def Plan.ok.ds{P:Plan}(h:P.ok):2<=P.d*P.s/\P.d*P.s<=24:=by rcases h.d with e|e|e<;>rcases h.s with f|f|f<;>rw[e,f]<;>decide
def AA(P:Plan)(p:Pt):Bool:=decide (0<=p.1)&&decide (p.1<=P.w*P.s)&&decide (0<=p.2)&&decide (p.2<=P.d*P.s)
def Au(P:Plan)(p:Pt):Bool:=decide (p.1 % P.s=0)&&decide (p.2 % P.s=0)
def J0(n:Int):List Int:=(List.range n.toNat).map λ(i:Nat)=>(i:Int)
def aC(n:Int):(J0 n).length=n.toNat:=by simp[J0]
def gm{n i:Int}:i∈J0 n↔0<=i/\i<n:=by
 simp![J0,Wl,TQ];exact⟨λ⟨k,h,e⟩=>by lia,λ⟨h,k⟩=>⟨i.toNat,by lia,by lia⟩⟩
def bQ{j:Int}{k:Nat}:next (.YG 0 j.toNat) k g=some ((J0 j).map U.int)[k]?:=by
 simp![next,J0];by_cases h:k<j.toNat
 .simp [h]
 .simp [h]
def az{k:Nat}(h:g[n]?=some (.Z5 xs)):next (.Z5 n) k g=some xs[k]?:=by
 simp![next,h]
def tf{k:Nat}:next (.seq xs) k g=some xs[k]?:=rfl
def AI(P:Plan):List Pt:=(J0 (P.w*P.s+1)).flatMap λx=>(J0 (P.d*P.s+1)).map λy=>(x,y)
def Av(P:Plan):List Pt:=(AI P).filter λp=>!Au P p
def ft{P:Plan}{p:Pt}:p∈AI P↔AA P p=true:=by
 let⟨x,y⟩:=p;simp![AI,WT,Wl,gm,AA,Z1,XM];constructor
 .rintro ⟨a,h1,b,h2,e⟩
  cases e;omega
 .intro h
  exact⟨x,by omega,y,by omega,rfl⟩
def bO{c d:Type}{f:c->List d}{B:Nat}:∀{l:List c},(∀a∈l,(f a).length<=B)->(l.flatMap f).length<=l.length*B
 |[],_=>by simp
 |a::l,h=>by
  rw[VG,YB,Xb,Nat.succ_mul];have h1:=h a #[3]
  have h2:=bO (f:=f) (B:=B) (l:=l) λb g=>h b (by simp[g])
  lia
def fk{P:Plan}(h:P.ok):(AI P).length<=625:=by
 have h1:=h.ws;have h2:=h.ds;have:=bO (f:=λx=>(J0 (P.d*P.s+1)).map λy=>((x,y):Pt)) (B:=25) (l:=J0 (P.w*P.s+1)) λa _=>by simp[aC];lia
 have b:(J0 (P.w*P.s+1)).length<=25:=by rw[aC];lia
 have c:(J0 (P.w*P.s+1)).length*25<=25*25:=Nat.mul_le_mul_right _ b;unfold AI;lia
def ai{o:Z9}(h:g[n]?=some o):(g++gs)[n]?=some o:=by
 rw[X0 (Yj.mp h).1];exact h
def ah{o:Z9}:(g++[o])[g.length]?=some o:=by simp
def cH{Q:U->G->Prop}(h:Bc g xs Q)(a:xs.length<=16777000):xs.length<=16777000/\Q (.ref (g++gs).length) (g++gs++[.Z5 xs]):=by
 refine⟨a,?_⟩;have:=h (gs++[.Z5 xs]) (g++gs).length #[3] (by rw[<-XU];exact ah)
 rw[<-XU]at this;exact this
def EF(xs:List Int)(lo hi:Option Int):List Int:=(xs.drop (HT.sIx xs.length 0 lo)).take (HT.sIx xs.length xs.length hi-HT.sIx xs.length 0 lo)
def wc(ns:List Int)(l h:Option Int):Bh (ns.map U.int) l h=(EF ns l h).map U.int:=by
 unfold Bh EF;rw[Zd,<-List.map_drop,<-List.map_take]
abbrev Bz(c:Nat)(at_ Wn:Int):Z9:=.Z5 [.ref c,.int at_,.int Wn]
def Bag(g:G):Prop:=∃(xs:List Int) (a b:Int),g[1]?=some (.Z5 (xs.map .int))/\g[2]?=some (Bz 1 a b)
structure Fr(g g':G):Prop where
 YX:Bag g'
 len:g.length<=g'.length
 get:∀(k:Nat) (o:Z9),3<=k->g[k]?=some o->g'[k]?=some o
def Bag.app(h:Bag g):Bag (g++gs):=let⟨xs,a,s,h1,h2⟩:=h;⟨xs,a,s,ai h1,ai h2⟩
def Bag.len(h:Bag g):3<=g.length:=by let⟨xs,a,s,h1,h2⟩:=h;exact(Yj.mp h2).1
def Fr.app{g gs:G}(h:Bag g):Fr g (g++gs):=⟨h.app,by simp,λk o _ e=>ai e⟩
def Fr.refl(h:Bag g):Fr g g:=⟨h,G8 _,λk o _ e=>e⟩
def Fr.trans{a b c:G}(h:Fr a b)(k:Fr b c):Fr a c:=⟨k.YX,G6 h.len k.len,λi o hi e=>k.get i o hi (h.get i o hi e)⟩
def Di(xs:List Int)(at_:Int):Int:=if h:0<xs.length then xs.getD (at_ % xs.length).toNat 0 else 0
def hU{xs:List Int}{at_:Int}(h:0<xs.length):0<=at_ % (xs.length:Int)/\at_ % (xs.length:Int)<xs.length:=⟨Pl _ (by lia),QG _ (by lia)⟩
def sF{xs:List Int}{at_:Int}(h:0<xs.length):Jd (xs.map U.int) (at_ % xs.length)=some (.int (Di xs at_)):=by
 let⟨h1,h2⟩:=hU (at_:=at_) h;rw[ml h1 (by simpa using h2)]
 have:(at_ % (xs.length:Int)).toNat<xs.length:=by lia
 simp[Di,h,Xp this,List.getD]
def wO{xs:List Int}{at_:Int}(h:0<xs.length):L2.ixN xs.length (at_ % xs.length)=some (at_ % xs.length).toNat:=by
 let⟨h1,h2⟩:=hU (at_:=at_) h;unfold L2.ixN;rw[Yn h1,Yn h2]
def J1(p:Pt):Dt:=.ZW [.int p.1,.int p.2]
def jV:IV .pow (.int 10) (.int 18)=some (.int 1000000000000000000):=by simp[IV,IU]
def fO{k:Int}{Y:Su}(h:g[n]?=some (.Z5 xs))(b:0<=k)(a:k<xs.length):subAt (.ref n) (.int k) u Y g=.ok (.nx Y) (g.set n (.Z5 (xs.set k.toNat u))):=by
 simp![subAt,Ed,h];unfold L2.ixN;rw[Yn b,Yn a]
def dw(h:g[n]?=some (.Z5 xs))(a:xs.length<16777000):Bo n y g=.ok .ZK (g.set n (.Z5 (xs++[y]))):=by
 simp![Bo,h];rw[Yn (by simpa[Ac]using a)]
def qe(a:xs.length<16777000):Bo g.length y (g++[.Z5 xs])=.ok .ZK (g++[.Z5 (xs++[y])]):=by
 rw[dw ah a];simp
def aB{o o':Z9}(h:g[n]?=some o):(g.set n o')[n]?=some o':=SM (Yj.mp h).1
def Fr.set1(h:Bag g)(xs:List Int):Fr g (g.set 1 (.Z5 (xs.map U.int))):=by
 let⟨ys,a,s,h1,h2⟩:=h;refine⟨⟨xs,a,s,aB h1,by rw[VJ #[1]];exact h2⟩,by simp,λk o hk e=>by rw[VJ (by lia)];exact e⟩
def Fr.S5(h:Bag g)(d c:Int):Fr g (g.set 2 (Bz 1 d c)):=by
 let⟨ys,a,s,h1,h2⟩:=h;refine⟨⟨ys,d,c,by rw[VJ #[1]];exact h1,aB h2⟩,by simp,λk o hk e=>by rw[VJ (by lia)];exact e⟩
def stride(p:Pt):Int:=if p.1 % 4=0/\p.2 % 4=0 then 4 else if p.1 % 2=0/\p.2 % 2=0 then 2 else 1
def cD(p:Pt):(stride p=4/\p.1 % 4=0/\p.2 % 4=0)\/(stride p=2/\p.1 % 2=0/\p.2 % 2=0)\/stride p=1:=by
 unfold stride;by_cases h:p.1 % 4=0/\p.2 % 4=0
 .rw [Yn h];exact .inl ⟨rfl,h⟩
 .rw [Yb h]
  by_cases k:p.1 % 2=0/\p.2 % 2=0
  .rw [Yn k];exact .inr (.inl ⟨rfl,k⟩)
  .rw [Yb k];exact .inr (.inr rfl)
def cv(p:Pt):0<stride p/\stride p<=4:=by rcases cD p with⟨e,_⟩|⟨e,_⟩|e<;>rw[e]<;>decide
def iB(p:Pt):small (stride p):=by rcases cD p with⟨e,_⟩|⟨e,_⟩|e<;>rw[e]<;>exact aL #[1]
def dI(p:Pt):stride p<Aj:=by rcases cD p with⟨e,_⟩|⟨e,_⟩|e<;>rw[e]<;>decide
def jF(p:Pt):2*stride p<Aj:=by rcases cD p with⟨e,_⟩|⟨e,_⟩|e<;>rw[e]<;>decide
def BR(p:Pt):Bool:=decide (p.1 / stride p % 2=1)&&decide (p.2 / stride p % 2=1)
abbrev Pr:=Pt×Pt
def lying(p:Pt):Pr:=((p.1-stride p,p.2),(p.1+stride p,p.2))
def upright(p:Pt):Pr:=((p.1,p.2-stride p),(p.1,p.2+stride p))
def rising(p:Pt):Pr:=((p.1-stride p,p.2-stride p),(p.1+stride p,p.2+stride p))
def falling(p:Pt):Pr:=((p.1-stride p,p.2+stride p),(p.1+stride p,p.2-stride p))
def BV(p:Pt):Pr×Pr:=if p.1 / stride p % 2=1 then(lying p,upright p)else(upright p,lying p)
def Ca(p:Pt):Prop:=((p.1-stride p) / (2*stride p)+(p.2-stride p) / (2*stride p)) % 2=0
instance(p:Pt):Decidable (Ca p):=by unfold Ca;infer_instance
def BP(p:Pt):Pr×Pr:=if Ca p then(rising p,falling p)else(falling p,rising p)
def AB(p:Pt):Pr×Pr:=if BR p=true then BP p else BV p
abbrev u2(q:Pr):U:=.ZW [uP q.1,uP q.2]
abbrev u4(q:Pr×Pr):U:=.ZW [u2 q.1,u2 q.2]
def qD{p:Pt}(h:BR p=true):(p.1-stride p+p.2-stride p) / (2*stride p) % 2=0↔Ca p:=by
 have a:2*stride p ∣ p.1-stride p:=by
  simp![BR,Z1,XM]at h;have h:=h.1;rcases cD p with⟨e,f⟩|⟨e,f⟩|e<;>rw[e]at h ⊢<;>omega
 unfold Ca;rw[show p.1-stride p+p.2-stride p=(p.1-stride p)+(p.2-stride p)from Int.add_sub_assoc ..,Int.add_ediv_of_dvd_left a]
def J3(P:Plan)(p:Pt):List Pt:=[(AB p).2.1,(AB p).2.2].filter λq=>AA P q&&!Au P q
def cj(P:Plan)(p:Pt):(J3 P p).length<=2:=Rt _ _
def bw{P:Plan}{p:Pt}:p∈Av P↔AA P p=true/\Au P p=false:=by
 unfold Av;rw[Rv,ft];simp
def Dl:List Plan:=[1,2,3].flatMap λw=>[1,2,3].flatMap λd=>[2,4,8].map λs=>⟨w,d,s⟩
def dB{P:Plan}(h:P.ok):P∈Dl:=by
 have e:∀{x a b c:Int},x=a\/x=b\/x=c->x∈[a,b,c]:=λh=>by simpa using h
 exact WT.mpr ⟨P.w,e h.w,WT.mpr ⟨P.d,e h.d,Wl.mpr ⟨P.s,e h.s,rfl⟩⟩⟩
def eB{Q:U->G->Prop}{p q:List U}{a b c d:Z9}{i j n:Nat}(h:∀gs n i j,(g++gs)[n]?=some (.Z5 [.ref i,.ref j])->(g++gs)[i]?=some (.Z5 p)->(g++gs)[j]?=some (.Z5 q)->Q (.ref n) (g++gs))(hi:[a,b,c,d][i]?=some (.Z5 p))(u:[a,b,c,d][j]?=some (.Z5 q))(r:n=g.length+i)(t:m=g.length+j):
  Q (.ref (g++[a]++[b]++[c]++[d]).length) (g++[a]++[b]++[c]++[d]++[.Z5 [.ref n,.ref m]]):=by
 subst r t;have f:∀(k:Nat) (o:Z9),[a,b,c,d][k]?=some o->(g++([a,b,c,d]++[.Z5 [.ref (g.length+i),.ref (g.length+j)]]))[g.length+k]?=some o:=λk o e=>by
  rw[Wm (by lia),Od]
  exact ai e
 have:=h ([a,b,c,d]++[.Z5 [.ref (g.length+i),.ref (g.length+j)]]) (g++[a]++[b]++[c]++[d]).length (g.length+i) (g.length+j) #[3] (f i _ hi) (f j _ u)
 simpa using this
def aci{k i:Int}:IX (.int k) (.int i::xs)=(IX (.int k) xs).map λc=>decide (i=k)||c:=by
 simp![IX,IT,Ai];cases IX (.int k) xs with
 |none=>rfl
 |some c=>simp![VO];congr 1
def ls{x:U}:IX x []=some false:=rfl
def J4(q:Pr):Dt:=.ZW [J1 q.1,J1 q.2]
def k7{l:List α}{f:α->U}{i:Int}(b:0<=i)(h:i<l.length):∃a∈l,Jd (l.map f) i=some (f a):=by
 have hi:i.toNat<l.length:=by omega
 refine⟨l[i.toNat],TX hi,?_⟩;rw[ml b (by simpa using h)]
 simp[hi]
def ltP(p q:Pt):Prop:=p.1<q.1\/(p.1=q.1/\p.2<q.2)
instance(p q:Pt):Decidable (ltP p q):=by unfold ltP;infer_instance
def se{p q:Pt}(h:ltP p q)(k:ltP q p):False:=by unfold ltP at h k;lia
def xf{p:Pt}(h:ltP p p):False:=se h h
def iZ(n:Int):(J0 n).Pairwise (· < ·):=by
 unfold J0;rw[Ti];exact List.Pairwise.imp (λh=>by lia) (Oi (n:=n.toNat))
def oz(P:Plan):(AI P).Pairwise ltP:=by
 unfold AI;rw[List.pairwise_flatMap];refine⟨λx _=>?_,?_⟩
 .rw [Ti]
  exact(iZ _).imp λh=>.inr ⟨rfl,h⟩
 .refine (iZ _).imp λ{x y} h p hp q a=>?_
  let⟨_,_,rfl⟩:=Wl.mp hp;let⟨_,_,rfl⟩:=Wl.mp a;exact .inl h
def nK{p:Pt}:∀{l:List Pt},IX (uP p) (l.map uP)=some (decide (p∈l))
 |[]=>by simp[ls]
 |q::l=>by
  have:IT (uP q) (uP p)=some (decide (q=p)):=by
   simp![IT,m7,kn,VO,OE];congr 1;rw[Qa];simp![Z1,XM,Prod.ext_iff]
  simp![Y2,IX,this,nK (l:=l),Xq];congr 1;rw[Qa];simp![UC,XM];exact or_congr eq_comm Y6
structure ZH where
 ax:Int
 ay:Int
 bx:Int
 bY:Int
 cx:Int
 cy:Int
deriving DecidableEq
abbrev uT(t:ZH):U:=.ZW [.int t.ax,.int t.ay,.int t.bx,.int t.bY,.int t.cx,.int t.cy]
def J5(o:Option Pt):U:=match o with
 |none=>.ZK
 |some p=>uP p
def AU(i j s:Int):List ZH:=if(i+j) % 2=0 then[⟨i*s,j*s,i*s+s,j*s+s,i*s+s,j*s⟩,⟨i*s+s,j*s+s,i*s,j*s,i*s,j*s+s⟩]
 else[⟨i*s+s,j*s,i*s,j*s+s,i*s+s,j*s+s⟩,⟨i*s,j*s+s,i*s+s,j*s,i*s,j*s⟩]
def du(i j s:Int):(AU i j s).length=2:=by unfold AU;split<;>rfl
def J6(P:Plan):List ZH:=(J0 P.w).flatMap λi=>(J0 P.d).flatMap λj=>AU i j P.s
def An(t:ZH):Option Pt:=if(t.ax+t.bx) % 2=1\/(t.ay+t.bY) % 2=1 then none else some ((t.ax+t.bx) / 2,(t.ay+t.bY) / 2)
def BG(t:ZH)(m:Pt):List ZH:=[⟨t.ax,t.ay,t.cx,t.cy,m.1,m.2⟩,⟨t.cx,t.cy,t.bx,t.bY,m.1,m.2⟩]
def J7(t:ZH):List ZH:=match An t with
 |none=>[]
 |some m=>BG t m
def cu{t:ZH}{m:Pt}(h:An t=some m):J7 t=BG t m:=by unfold J7;rw[h]
def oQ{t:ZH}(h:An t=none):J7 t=[]:=by unfold J7;rw[h]
def Aw:Nat->ZH->List ZH
 |0,t=>[t]
 |n+1,t=>t::(J7 t).flatMap (Aw n)
def Ay:Nat->ZH->Bool
 |0,t=>(J7 t).isEmpty
 |n+1,t=>(J7 t).all (Ay n)
def AL(t:ZH):List ZH:=Aw 7 t
def br{c d:Type}{f g:c->List d}:∀{l:List c},(∀x∈l,f x=g x)->l.flatMap f=l.flatMap g
 |[],_=>rfl
 |a::l,h=>by rw[VG,VG,h a #[3],br λx j=>h x (by simp[j])]
def iY:∀(n:Nat) (t:ZH),Ay n t=true->Aw (n+1) t=Aw n t
 |0,t,h=>by
  have:J7 t=[]:=Rl.mp h;simp[Aw,this]
 |n+1,t,h=>by
  have h':=YN.mp h;show t::(J7 t).flatMap (Aw (n+1))=t::(J7 t).flatMap (Aw n);rw[br λx a=>iY n x (h' x a)]
def jh:∀(n:Nat) (t:ZH),Ay n t=true->Ay (n+1) t=true
 |0,t,h=>by
  have:J7 t=[]:=Rl.mp h;simp[Ay,this]
 |n+1,t,h=>YN.mpr λx a=>jh n x (YN.mp h x a)
def fJ{t x:ZH}(h:Ay 7 t=true)(a:x∈J7 t):Ay 6 x=true:=YN.mp h x a
def t5{t:ZH}(h:Ay 7 t=true):AL t=t::(J7 t).flatMap AL:=by
 show t::(J7 t).flatMap (Aw 6)=_;rw[br λx a=>(iY 6 x (fJ h a)).symm]
 rfl
def sk(t:ZH):0<(AL t).length:=by show 0<(t::_).length;simp
def Am(P:Plan):List ZH:=(J6 P).flatMap AL
def iQ:(Dl.all λP=>(J6 P).all (Ay 7)&&decide (((Am P).length:Int)=P.w*P.d*(4*P.s*P.s-2))&&decide ((Am P).length<=2286))=true:=by decide +kernel
def aV{P:Plan}(h:P.ok){t:ZH}(a:t∈J6 P):Ay 7 t=true:=by
 have:=YN.mp iQ P (dB h);simp![Z1,YN]at this;exact this.1.1 t a
def iU{P:Plan}(h:P.ok):((Am P).length:Int)=P.w*P.d*(4*P.s*P.s-2)/\(Am P).length<=2286:=by
 have:=YN.mp iQ P (dB h);simp![Z1,XM]at this;exact⟨this.1.2,this.2⟩
def qm{P:Plan}(h:P.ok):(J6 P).length<=18:=by
 have a:∀i,((J0 P.d).flatMap λj=>AU i j P.s).length<=6:=λi=>by
  have:=bO (f:=λj=>AU i j P.s) (B:=2) (l:=J0 P.d) λj _=>OH (du i j P.s);have h2:(J0 P.d).length<=3:=by rw[aC];rcases h.d with e|e|e<;>rw[e]<;>decide
  lia
 have:=bO (f:=λi=>(J0 P.d).flatMap λj=>AU i j P.s) (B:=6) (l:=J0 P.w) λi _=>a i;have h2:(J0 P.w).length<=3:=by rw[aC];rcases h.w with e|e|e<;>rw[e]<;>decide
 unfold J6;lia
def jf(h:g[n]?=some (.Z5 (xs++[y]))):BI n g=.ok y (g.set n (.Z5 xs)):=by
 simp![BI,h];simp
def jE{a:List U}(h:g[n]?=some (.Z5 xs))(k:g[m]?=some (.Z5 a))(b:xs.length+a.length<16777000):BE n (.ref m) g=.ok .ZK (g.set n (.Z5 (xs++a))):=by
 simp![BE,Jh,h,k];rw[Yn (by simpa[Ac]using b)]
def slc4{t:ZH}:CQ (uT t) none (some 4) g=.ok (.ZW [.int t.ax,.int t.ay,.int t.bx,.int t.bY]) g:=rfl
def dT(t:ZH):Dt:=.ZW [.int t.ax,.int t.ay,.int t.bx,.int t.bY,.int t.cx,.int t.cy]
def jT{c d:Type}{f:c->List d}:∀{l:List c},(∀x∈l,0<(f x).length)->l.length<=(l.flatMap f).length
 |[],_=>by simp
 |a::l,h=>by
  rw[VG,YB,Xb];have h1:=h a #[3]
  have h2:=jT (l:=l) λx g=>h x (by simp[g])
  lia
def di{b c:Type}{f:b->List c}:∀{l:List b},(l.reverse.flatMap f).length=(l.flatMap f).length
 |[]=>rfl
 |a::l=>by
  rw[Qj,Qw,YB,di,VG,YB];simp;lia
def u7{l:List α}{a:α}:(l++[a]).isEmpty=false:=by cases l<;>rfl
def jZ{B:G}{a b:Z9}:(g++a::(B++b::gs))[g.length]?=some a:=by simp
def dQ{B:G}{a b:Z9}:(g++a::(B++b::gs))[g.length+1+B.length]?=some b:=by
 rw[Wm (by lia),show g.length+1+B.length-g.length=B.length+1 by lia,Oe,Wm (by lia)]
 simp
def kH{B:G}{a b c:Z9}:(g++a::(B++b::gs)).set g.length c=g++c::(B++b::gs):=by simp
def ky{B:G}{a b c:Z9}:(g++a::(B++b::gs)).set (g.length+1+B.length) c=g++a::(B++c::gs):=by
 rw[Qf _ _ (),show g.length+1+B.length-g.length=B.length+1 by omega,List.set_cons_succ,Qf _ _ ()]
 simp
def gp{B c:G}{a b:Z9}:g++a::(B++b::gs)++c=g++a::(B++b::(gs++c)):=by simp
noncomputable def Xd(i:Int):Prop:=-Aj<i/\i<Aj
def lU{i j:Int}(h:Xd i)(k:Xd j):IV .mul (.int i) (.int j)=some (.int (i*j)):=by
 let⟨h1,h2⟩:=h;let⟨b,a⟩:=k;simp[IV,IU,h1,h2,b,a]
def mid(i:Int):Prop:=-10000000000000000000000000000<i/\i<10000000000000000000000000000
def mid.Xd{i:Int}(h:mid i):Xd i:=by unfold mid at h;unfold PI.Xd Aj;omega
def fX:∀(n:Nat) (t:ZH),t∈Aw n t
 |0,t=>by simp[Aw]
 |n+1,t=>by simp[Aw]
def jK:∀(n:Nat) (r t x:ZH),Ay n r=true->t∈Aw n r->x∈J7 t->x∈Aw n r
 |0,r,t,x,hd,b,a=>by
  have d:J7 r=[]:=Rl.mp hd;have:t=r:=by simpa[Aw]using b
  subst this;rw[d]at a;cases a
 |n+1,r,t,x,hd,b,a=>by
  rcases Xq.mp b with rfl|h
  .exact G9 _ (WT.mpr ⟨x,a,fX n x⟩)
  .obtain ⟨y,c,e⟩:=WT.mp h
   exact G9 _ (WT.mpr ⟨y,c,jK n y t x (YN.mp hd y c) e a⟩)
def fm{P:Plan}(d:P.ok){t x:ZH}(c:t∈Am P)(b:x∈J7 t):x∈Am P:=by
 let⟨r,a,h⟩:=WT.mp c;exact WT.mpr ⟨r,a,jK 7 r t x (aV d a) h b⟩
def bK{P:Plan}{t:ZH}(a:t∈J6 P):t∈Am P:=WT.mpr ⟨t,a,fX 7 t⟩
def Du(t:ZH):Bool:=[t.ax,t.ay,t.bx,t.bY,t.cx,t.cy].all λi=>decide (0<=i)&&decide (i<32)
structure NT where
 a:Nat
 b:Nat
 c:Nat
 d:Nat
 e:Nat
 f:Nat
def toT(t:NT):ZH:=⟨t.a,t.b,t.c,t.d,t.e,t.f⟩
def Ct(t:NT):List NT:=match Nat.beq ((t.a+t.c) % 2) 0&&Nat.beq ((t.b+t.d) % 2) 0 with
 |true=>[⟨t.a,t.b,t.e,t.f,(t.a+t.c) / 2,(t.b+t.d) / 2⟩,⟨t.e,t.f,t.c,t.d,(t.a+t.c) / 2,(t.b+t.d) / 2⟩]
 |false=>[]
def pP(t:NT):(Ct t).map toT=J7 (toT t):=by
 unfold Ct J7 An toT;simp![];cases e:Nat.beq ((t.a+t.c) % 2) 0&&Nat.beq ((t.b+t.d) % 2) 0 with
 |true=>
  simp![Z1,Nat.beq_eq]at e;rw[Yb (by lia)]
  simp![BG,Y2,Px,Po,ZH.mk.injEq,and_true,true_and];lia
 |false=>
  have : ¬ ((t.a+t.c) % 2=0/\(t.b+t.d) % 2=0):=λq=>by simp[Nat.beq_eq,q.1,q.2]at e
  rw[Yn (by lia)]
  rfl
def Dc:Nat->NT->List NT
 |0,t=>[t]
 |n+1,t=>t::(Ct t).flatMap (Dc n)
def jC:∀(n:Nat) (t:NT),(Dc n t).map toT=Aw n (toT t)
 |0,t=>rfl
 |n+1,t=>by
  show toT t::((Ct t).flatMap (Dc n)).map toT=_;rw[Of,Aw,<-pP,List.flatMap_map];congr 1;exact br λx _=>jC n x
def J8(x y z v:Nat):Bool:=Nat.ble x v||(Nat.ble y v||Nat.ble z v)
def J9(x y z v:Nat):Bool:=Nat.ble v x||(Nat.ble v y||Nat.ble v z)
def C6(P:Plan):List NT:=(J6 P).map λt=>⟨t.ax.toNat,t.ay.toNat,t.bx.toNat,t.bY.toNat,t.cx.toNat,t.cy.toNat⟩
def qk:(Dl.all λP=>decide ((C6 P).map toT=J6 P))=true:=by decide +kernel
def qV{P:Plan}(h:P.ok):(C6 P).map toT=J6 P:=by
 have:=YN.mp qk P (dB h);simpa using this
def C0(P:Plan):List NT:=(C6 P).flatMap (Dc 7)
def pL{P:Plan}(h:P.ok):(C0 P).map toT=Am P:=by
 unfold C0 Am;rw[<-qV h,Of,List.flatMap_map];exact br λx _=>jC 7 x
def qW{P:Plan}(h:P.ok){c:NT->Bool}(d:(C0 P).all c=true){t:ZH}(a:t∈Am P):∃n,t=toT n/\c n=true:=by
 rw[<-pL h]at a;let⟨n,b,rfl⟩:=Wl.mp a;exact⟨n,rfl,YN.mp d n b⟩
def inL{P:Plan}{p:Pt}:AA P p=true↔0<=p.1/\p.1<=P.w*P.s/\0<=p.2/\p.2<=P.d*P.s:=by
 simp![AA,Z1,XM,and_assoc]
def jo{a:List (List Int×U)}{k:List Int}{Y:Su}(h:g[n]?=some (.ZF a))(c:intsOf S=some k)(b:a.length<16777000):subAt (.ref n) (.ZW S) u Y g=.ok (.nx Y) (g.set n (.ZF (dput a k u))):=by
 simp![subAt,Er,h,c];rw[Yn (by simpa[Ac]using b)]
def Bs(a b:Int):List Int:=(List.range (b-a).toNat).map λ(i:Nat)=>a+(i:Int)
def dH{a b i:Int}:i∈Bs a b↔a<=i/\i<b:=by
 simp![Bs,Wl,TQ];exact⟨λ⟨k,h,e⟩=>by omega,λ⟨h,k⟩=>⟨(i-a).toNat,by omega,by lia⟩⟩
def jl{a b:Int}{k:Nat}:next (.YG a (b-a).toNat) k g=some ((Bs a b).map U.int)[k]?:=by
 simp![next,Bs];by_cases h:k<(b-a).toNat
 .simp [h]
 .simp [h]
abbrev FZ(t:ZH):Int:=best true t.ax [t.bx,t.cx]
abbrev Gb(t:ZH):Int:=best true t.ay [t.bY,t.cy]
abbrev Gk(t:ZH):Int:=best false t.ax [t.bx,t.cx]
abbrev Sv(t:ZH):Int:=best false t.ay [t.bY,t.cy]
def GF(t:ZH)(p:Pt):Bool:=decide (FZ t<=p.1)&&decide (p.1<=Gk t)&&(decide (Gb t<=p.2)&&decide (p.2<=Sv t))
def DP(ax ay bx a:Int)(p:Pt):Int:=(bx-ax)*(p.2-ay)-(a-ay)*(p.1-ax)
abbrev tu1(t:ZH)(p:Pt):Int:=DP t.ax t.ay t.bx t.bY p
abbrev tu2(t:ZH)(p:Pt):Int:=DP t.bx t.bY t.cx t.cy p
abbrev tu3(t:ZH)(p:Pt):Int:=DP t.cx t.cy t.ax t.ay p
def Gx(t:ZH)(p:Pt):Bool:=GF t p&&(decide (0<=best true (tu1 t p) [tu2 t p,tu3 t p])||decide (best false (tu1 t p) [tu2 t p,tu3 t p]<=0))
def Ka(t:ZH):List Pt:=(Bs (FZ t) (Gk t+1)).flatMap λx=>((Bs (Gb t) (Sv t+1)).filter λy=>Gx t (x,y)).map λy=>(x,y)
def Kb(a b c:Pt):Int:=(b.1-a.1)*(c.2-a.2)-(c.1-a.1)*(b.2-a.2)
def Kc(t:ZH):Pt:=(t.ax,t.ay)
def Kd(t:ZH):Pt:=(t.bx,t.bY)
def Ke(t:ZH):Pt:=(t.cx,t.cy)
def AD(t:ZH):Int:=if Kb (Kc t) (Kd t) (Ke t)<0 then -1 else 1
def Dg(t:ZH)(p:Pt):List Int:=[AD t*Kb p (Kd t) (Ke t),AD t*Kb (Kc t) p (Ke t),AD t*Kb (Kc t) (Kd t) p]
def rA{a b c x:Int}:x<=best true a [b,c]↔x<=a/\x<=b/\x<=c:=by
 simp![best,US,PN,V6];split<;>split<;>omega
def Kf(t:ZH):Prop:=(-100<=t.ax/\t.ax<=100)/\(-100<=t.ay/\t.ay<=100)/\(-100<=t.bx/\t.bx<=100)/\(-100<=t.bY/\t.bY<=100)/\(-100<=t.cx/\t.cx<=100)/\(-100<=t.cy/\t.cy<=100)
def AN:Int:=1000000000000000000000000000000000000
def AE(p:Pt):Prop:=(-AN<=p.1/\p.1<=AN)/\(-AN<=p.2/\p.2<=AN)
def eU{a b:Int}(ha : -AN<=a/\a<=AN)(hb : -AN<=b/\b<=AN): -Aj<a-b/\a-b<Aj:=by
 unfold AN at ha hb;unfold Aj;omega
def Kf.pA{t:ZH}(h:Kf t):AE (Kc t):=by let⟨a,b,c,d,e,f⟩:=h;unfold AE Kc AN;simp![];omega
def Kf.pB{t:ZH}(h:Kf t):AE (Kd t):=by let⟨a,b,c,d,e,f⟩:=h;unfold AE Kd AN;simp![];omega
def Kf.pC{t:ZH}(h:Kf t):AE (Ke t):=by let⟨a,b,c,d,e,f⟩:=h;unfold AE Ke AN;simp![];omega
def vU:(Dl.all λP=>(Am P).all Du)=true:=by decide +kernel
def pF{P:Plan}(h:P.ok){t:ZH}(a:t∈Am P):Du t=true:=YN.mp (YN.mp vU P (dB h)) t a
def ua{t:ZH}(h:Du t=true):Kf t:=by
 simp![Du,Pd,List.all_nil,OE,Z1,XM]at h;unfold Kf;omega
section
variable{J:List Fn}{Y:Su}{X:XP}
def lA{it:Iter}{t:Tg}{c:E}{Q:List U->G->Prop}(S:List U)(Pr:U->Prop)(a:G->Prop)
  (j:∀k g,a g->next it k g=some S[k]?)
  (r:∀u,u∈S->AX t Y=true/\JM (Ad t u Y) (lk λo=>∀g,a g->JD J d c o g (λ_ _ _=>False) λv g=>Pr v/\a g)) :
  ∀(n i:Nat) (ZS:List U) (g:G),i+n=S.length->ZS.length+n<Ac->a g->(∀vs g,vs.length=n->(∀v∈vs,Pr v)->a g->Q (ZS++vs) g)->JL J d it i t [] [] c ZS Y g X Q
 |0,i,ZS,g,F,_,h,f=>by
  rw[a7];refine⟨none,by rw[j _ _ h];simp;lia,?_⟩
  have:=f [] g rfl #[3] h
  simpa using this
 |n+1,i,ZS,g,F,hl,h,f=>by
  have hi:i<S.length:=by lia
  let⟨B,H⟩:=r S[i] (TX hi);let⟨o,C,y⟩:=aN.2 H;rw[a7];refine⟨some S[i],by rw[j _ _ h];simp[hi],B,o,C,nL.2 ?_⟩
  rw[Yn rfl];refine wp_mono (y g h) λv g ⟨ev,A⟩=>⟨by lia,?_⟩
  refine lA S Pr a j r n (i+1) _ g (by lia) (by simp;lia) A λvs g h1 h2 D=>?_
  have:=f (v::vs) g (by simp[h1]) (λx w=>by rcases Xq.mp w with rfl|z;exact ev;exact h2 x z) D
  simpa using this
def x9{t:Tg}{Q:List U->G->Prop}{g:G}(S:List U)(Pr:U->Prop)(a:G->Prop)
  (e:∀k g,a g->next it k g=some S[k]?)
  (b:∀u,u∈S->AX t Y=true/\JM (Ad t u Y) (lk λj=>∀g,a g->JD J d elt j g (λ_ _ _=>False) λv g=>Pr v/\a g))
  (f:S.length<16777000) (i:a g) (c:∀vs g,vs.length=S.length->(∀v∈vs,Pr v)->a g->Q vs g):JL J d it 0 t [] [] elt [] Y g X Q:=
 lA S Pr a e b S.length 0 [] g (T9 _) (by simpa[Ac]using f) i λvs g h1 h2 h=>by simpa using c vs g h1 h2 h
def eR{it:Iter}{t:Tg}{y:List E}{c:E}{Q:List U->G->Prop}(S:List U)(Pr:U->Prop)(a:G->Prop)
  (j:∀k g,a g->next it k g=some S[k]?)
  (r:∀u,u∈S->AX t Y=true/\JM (Ad t u Y) (lk λo=>∀g,a g->JG J d y o g (λ_ _ _=>False) λk g=>a g/\(k=true->JD J d c o g (λ_ _ _=>False) λv g=>Pr v/\a g))) :
  ∀(n i:Nat) (ZS:List U) (g:G),i+n=S.length->ZS.length+n<Ac->a g->(∀vs g,vs.length<=n->(∀v∈vs,Pr v)->a g->Q (ZS++vs) g)->JL J d it i t y [] c ZS Y g X Q
 |0,i,ZS,g,K,_,h,f=>by
  rw[a7];refine⟨none,by rw[j _ _ h];simp;omega,?_⟩
  have:=f [] g (G8 _) #[3] h
  simpa using this
 |n+1,i,ZS,g,K,hl,h,f=>by
  have hi:i<S.length:=by omega
  let⟨H,L⟩:=r S[i] (TX hi);let⟨o,I,D⟩:=aN.2 L;rw[a7];refine⟨some S[i],by rw[j _ _ h];simp[hi],H,o,I,wp_mono (D g h) λk g q=>?_⟩
  let⟨B,A⟩:=q;cases k with
  |true=>
   rw[Yn rfl];refine wp_mono (A rfl) λv g ⟨ev,F⟩=>⟨by omega,?_⟩
   refine eR S Pr a j r n (i+1) _ g () (by simp;omega) F λvs g h1 h2 w=>?_
   have:=f (v::vs) g (by simp;lia) (λx C=>by rcases Xq.mp C with rfl|z;exact ev;exact h2 x z) w
   simpa using this
  |false=>
   rw[Yb #[3]]
   exact eR S Pr a j r n (i+1) _ g () (by lia) B λvs g h1 h2 w=>f vs g (by lia) h2 w
end
def AZ(p:Pt):List Int:=[p.1,p.2]
def dD{p q:Pt}(h:AZ p=AZ q):p=q:=by
 let⟨a,b⟩:=p;let⟨c,d⟩:=q;simpa[AZ]using h
def hJ{a b:Int}:intsOf [.int a,.int b]=some (AZ (a,b)):=rfl
def Kg{a:Type}(key:a->List Int)(f:a->U)(b:List a):List (List Int×U):=b.map λq=>(key q,f q)
def m9{c:Type}{key:c->List Int}(hi:∀a b,key a=key b->a=b){f:c->U}{a:c}:∀{ps:List c},a∈ps->A6 (Kg key f ps) (key a)=some (f a)
 |[],h=>nomatch h
 |b::r,h=>by
  unfold A6 Kg;rw[Y2,Ux];by_cases e:key b=key a
  .have:=hi _ _ e;subst this;simp
  .have h':a∈r:=by
    rcases Xq.mp h with z|z
    .subst z;exact absurd rfl e
    .exact z
   have ih:=m9 hi (f:=f) h';unfold A6 Kg at ih;simp![e,Qq];exact ih
def su[DecidableEq α]{key:α->List Int}(hi:∀a b,key a=key b->a=b){f:α->U}{a:α}{v:U}{c:List α}(h:a ∉ c):dput (Kg key f c) (key a) v=Kg key (λq=>if q=a then v else f q) (c++[a]):=by
 unfold dput;rw[Yb]
 .unfold Kg
  rw[T_];congr 1
  .refine List.map_congr_left λq d=>?_
   show(key q,f q)=(key q,if q=a then v else f q)
   rw[Yb (λe=>h (by rw[<-e];exact d))]
  .simp
 .intro g
  simp![Kg,List.any_map,Qt,Function.comp,XM]at g;let⟨q,d,e⟩:=g;exact h (by rw[<-hi _ _ e];exact d)
def uA[DecidableEq α]{key:α->List Int}(hi:∀a b,key a=key b->a=b){f:α->U}{a:α}{v:U}{c:List α}(h:a∈c):dput (Kg key f c) (key a) v=Kg key (λq=>if q=a then v else f q) c:=by
 unfold dput;rw[Yn]
 .unfold Kg
  rw[TU];refine List.map_congr_left λq d=>?_;simp![Function.comp];by_cases e:q=a
  .subst e;simp
  .rw [Yb (λz=>e (hi _ _ z)),Yb e]
 .simp only [Kg,List.any_map,Qt,Function.comp,XM]
  exact⟨a,h,rfl⟩
def t8{b k:Nat}{key:α->List Int}{f:α->U}{a:List α}(h:g[b]?=some (.Zq (Kg key f a))):next (.ZF b) k g=some (a.map λp=>U.ZW ((key p).map .int))[k]?:=by
 simp![next,h,Kg,Wy];cases a[k]?<;>rfl
def uu{a:List (List Int×U)}{k:List Int}(h:Yp u g=some a)(b:intsOf S=some k):AY (.ZW S) u g=some (A6 a k):=by
 simp![AY,h,keyOf,b,VO]
def FF(a b:Pt):Prop:=a.1*b.2<b.1*a.2
instance{a b:Pt}:Decidable (FF a b):=by unfold FF;infer_instance
structure Low(a:Pt):Prop where
 pos:0<a.2
 cop:Nat.gcd a.1.natAbs a.2.natAbs=1
def Kh(ax ay bx c b a:Nat):Bool:=Nat.ble (c*b+bx*ay+ax*a) (bx*a+c*ax+ay*b)
def l1(ax ay bx c b a:Nat):Bool:=Nat.ble (bx*a+c*ax+ay*b) (c*b+bx*ay+ax*a)
def Bu(t:NT)(x y:Nat):Bool:=J8 t.a t.c t.e x&&(J9 t.a t.c t.e x&&(J8 t.b t.d t.f y&&(J9 t.b t.d t.f y&&((Kh t.a t.b t.c t.d x y&&(Kh t.c t.d t.e t.f x y&&Kh t.e t.f t.a t.b x y))||(l1 t.a t.b t.c t.d x y&&(l1 t.c t.d t.e t.f x y&&l1 t.e t.f t.a t.b x y))))))
def Ki:List (Nat×Nat):=(List.range 9).flatMap λx=>(List.range 9).map λy=>(x,y)
def Kj(t:NT):Bool:=Nat.ble t.a 8&&(Nat.ble t.b 8&&(Nat.ble t.c 8&&(Nat.ble t.d 8&&(Nat.ble t.e 8&&Nat.ble t.f 8))))
def Kk(t:NT):Bool:=Kj t&&(Nat.ble ((Ki.filter λz=>Bu t z.1 z.2).length) 63&&(match Ct t with
 | [p,q]=>Kj p && (Kj q && (Bu p p.e p.f && (Bu q p.e p.f && Ki.all λz=>match Bu p z.1 z.2 with
  | true=>Bu t z.1 z.2 && (match Bu q z.1 z.2 with
   |true=>Kh p.e p.f t.e t.f z.1 z.2&&l1 p.e p.f t.e t.f z.1 z.2
   |false=>true)
  |false=>match Bu q z.1 z.2 with
   |true=>Bu t z.1 z.2
   |false=>match Bu t z.1 z.2 with
    |true=>false
    |false=>true)))
 |_=>true))
def Ah:List Plan:=[⟨1,1,2⟩,⟨1,1,4⟩,⟨2,1,2⟩,⟨1,2,2⟩,⟨2,2,2⟩,⟨1,1,4⟩,⟨3,1,2⟩,⟨1,3,2⟩,⟨2,1,4⟩,⟨1,2,4⟩,⟨3,2,2⟩,⟨1,1,8⟩]
set_option maxRecDepth 1000000 in
def vm:(Ah.all λP=>(C0 P).all Kk)=true:=by decide +kernel
def Kl(P:Plan):Bool:=decide (((J6 P).map λt=>(if Kb (Kc t) (Kd t) (Ke t)<0 then -Kb (Kc t) (Kd t) (Ke t)else Kb (Kc t) (Kd t) (Ke t))).sum=2*P.w*P.d*P.s*P.s) &&
 ((List.range ((P.w*P.s).toNat+1)).all λx=>(List.range ((P.d*P.s).toNat+1)).all λy=>(C6 P).any λt=>Bu t x y)
def uK:(Ah.all Kl)=true:=by decide +kernel
def wY:((Ki.map λz=>Ja [(z.1:Int),(z.2:Int)]).Nodup):=by decide +kernel
def mi{g i:Type}{f:g->i}:∀{l:List g},(l.map f).Nodup ->∀{a b:g},a∈l->b∈l->f a=f b->a=b
 |[],_,_,_,h,_,_=>by cases h
 |x::l,hn,a,b,d,c,e=>by
  rw[Y2,Rx]at hn;rcases Xq.mp d with rfl|d
  .rcases Xq.mp c with rfl|c
   .rfl
   .exact absurd (Wl.mpr ⟨b,c,e.symm⟩) hn.1
  .rcases Xq.mp c with j|c
   .exact absurd (Wl.mpr ⟨a,d,by rw[e,j]⟩) hn.1
   .exact mi hn.2 d c e
def kyP(p:Pt):List Int:=[p.1,p.2]
def d7{p q:Pt}(h:kyP p=kyP q):p=q:=by
 simp![kyP,Po,and_true]at h;exact OI h.1 h.2
def Km(z:Nat×Nat):Pt:=((z.1:Int),(z.2:Int))
def sv{x y:Nat}:(x,y)∈Ki↔x<=8/\y<=8:=by
 unfold Ki;simp![WT,Wl,TQ,QA];constructor
 .rintro ⟨a,d,b,c,rfl,rfl⟩;lia
 .intro h;exact⟨x,by lia,y,by lia,rfl,rfl⟩
def wQ{p q:Pt}(d:∃z∈Ki,p=Km z)(c:∃z∈Ki,q=Km z)(e:Ja (kyP p)=Ja (kyP q)):p=q:=by
 let⟨z,a,rfl⟩:=d;let⟨y,b,rfl⟩:=c;rw[mi wY a b e]
structure Half14(t one two:ZH)(m:Pt):Prop where
 near1:Kf one
 near2:Kf two
 same:Je ((Ka one++Ka two).map kyP)=(Ka t).map kyP
 ok:Jf ((Ka one++Ka two).map kyP)
 line:∀p∈Ka one,p∈Ka two->Kb m (Ke t) p=0
 mid1:m∈Ka one
 mid2:m∈Ka two
def AW(t:ZH):Int:=if Kb (Kc t) (Kd t) (Ke t)<0 then -Kb (Kc t) (Kd t) (Ke t)else Kb (Kc t) (Kd t) (Ke t)
def rN{t:ZH}{m:Pt}(a:An t=some m):2*AW ⟨t.ax,t.ay,t.cx,t.cy,m.1,m.2⟩=AW t/\2*AW ⟨t.cx,t.cy,t.bx,t.bY,m.1,m.2⟩=AW t:=by
 unfold An at a;split at a
 .cases a
 .rename_i b
  cases a;have h1:2*((t.ax+t.bx) / 2)=t.ax+t.bx:=by lia
  have h2:2*((t.ay+t.bY) / 2)=t.ay+t.bY:=by lia
  unfold AW Kb Kc Kd Ke;simp![];generalize(t.ax+t.bx) / 2=u at h1;generalize(t.ay+t.bY) / 2=v at h2;have d:2*((t.cx-t.ax)*(v-t.ay)-(u-t.ax)*(t.cy-t.ay)) = -((t.bx-t.ax)*(t.cy-t.ay)-(t.cx-t.ax)*(t.bY-t.ay)):=by grind
  have c:2*((t.bx-t.cx)*(v-t.cy)-(u-t.cx)*(t.bY-t.cy)) = -((t.bx-t.ax)*(t.cy-t.ay)-(t.cx-t.ax)*(t.bY-t.ay)):=by grind
  constructor
  .split<;>split<;>lia
  .split<;>split<;>lia
def abd{P:Plan}(h:P∈Ah):((J6 P).map AW).sum=2*P.w*P.d*P.s*P.s:=by
 have:=YN.mp uK P h;unfold Kl at this;rw[Z1,XM]at this;exact this.1
def k9:∀l:List Pt,BH (l.map uP)=some (l.map kyP)
 |[]=>rfl
 |p::l=>by
  have e:keyOf (uP p)=some (kyP p):=rfl;rw[Y2];simp![BH,e,k9 l]
  rfl
def nh(l:List Pt):(l.map kyP).map tupI=l.map uP:=by rw[TU];rfl
def vq{l m:List Pt}(c:g[n]?=some (.Z5 (l.map uP)))(b:Jf (l.map kyP))(a:Je (l.map kyP)=m.map kyP):Cu [.ref n] g=.ok (.ref g.length) (g++[.Z5 (m.map uP)]):=by
 unfold Cu;simp![c,k9];rw[Yn b,a,nh]
 rfl
def nW:∀l:List Pt,IZ CN (l.map uP) (l.map uP)=some true
 |[]=>rfl
 |p::l=>by
  have e:CN (uP p) (uP p)=some true:=by simp[CN,IZ,IT,Ai]
  rw[Y2];simp![IZ,e,nW l]
  rfl
def qs_P(l:List Pt):I8 (l.map uP) (l.map uP)=some true:=by unfold I8;rw[Yn rfl];exact nW l
def ade{a:List U}(c:g[n]?=some (.Z5 xs))(b:g[m]?=some (.Z5 a)):Jb .eq (.ref n) (.ref m) g=I8 xs a:=by
 simp![Jb,Bd,c,b]
def map_inj{c e:Type}{f:c->e}(d:∀a b,f a=f b->a=b):∀{l m:List c},l.map f=m.map f->l=m
 |[],[],_=>rfl
 |[],_::_,h=>by cases h
 |_::_,[],h=>by cases h
 |a::l,b::m,h=>by
  rw[Y2,Y2,Po]at h;rw[d a b h.1,map_inj d h.2]
def CI(a:Pt):List Pt->List Pt
 |[]=>[a]
 |b::r=>if a=b then b::r else if Ag (kyP a) (kyP b)=true then a::b::r else b::CI a r
def Kn:List Pt->List Pt
 |[]=>[]
 |a::r=>CI a (Kn r)
def me(a:Pt):∀r:List Pt,A5 (kyP a) (r.map kyP)=(CI a r).map kyP
 |[]=>rfl
 |b::r=>by
  rw[Y2];unfold A5 CI;by_cases h:a=b
  .rw [Yn h,Yn (by rw[h]),Y2]
  .rw [Yb h,Yb λe=>h (d7 e)]
   split
   .rfl
   .rw [me a r];rfl
def aZ:∀l:List Pt,Je (l.map kyP)=(Kn l).map kyP
 |[]=>rfl
 |a::l=>by
  show A5 (kyP a) (Je (l.map kyP))=_;rw[aZ l,me];rfl
def eP{p:Pt}{l:List Pt}:kyP p∈l.map kyP↔p∈l:=
 ⟨λh=>let⟨q,a,e⟩:=Wl.mp h;by rw[<-d7 e];exact a,λh=>Wl.mpr ⟨p,h,rfl⟩⟩
def aR{p:Pt}{l:List Pt}:p∈Kn l↔p∈l:=by
 rw[<-eP,<-aZ,bH,eP]
def qA{f:α->β}{l:List α}(h:(l.map f).Nodup):l.Nodup:=(Ti.mp h).imp λ{a b} n e=>n (by rw[e])
def aby{l:List Pt}(h:l.Nodup):(l.map kyP).Nodup:=Ti.mpr (h.imp λ{a b} n e=>n (d7 e))
def l0(l:List Pt):(Kn l).Nodup:=qA (f:=kyP) (by rw[<-aZ];exact mG (bI _))
def xw(l:List Pt):(Kn l).length<=l.length:=by
 have:=ik (l.map kyP);rw[aZ,Zd,Zd]at this;exact this
def fU{l m:List Pt}(h:∀p,p∈l↔p∈m):Kn l=Kn m:=by
 apply map_inj (λa b=>d7);rw[<-aZ,<-aZ];refine dX (bI _) (bI _) λx=>?_;rw[bH,bH];constructor
 .intro c;let⟨p,d,rfl⟩:=Wl.mp c;exact eP.mpr ((h p).mp d)
 .intro c;let⟨p,d,rfl⟩:=Wl.mp c;exact eP.mpr ((h p).mpr d)
def iu{P:Plan}(h:P∈Ah):P.w*P.s<=8/\P.d*P.s<=8/\(Av P).length<=77:=by
 have:(Ah.all λP=>decide (P.w*P.s<=8)&&(decide (P.d*P.s<=8)&&Nat.ble (Av P).length 77))=true:=by decide +kernel
 have:=YN.mp this P h;rw[Z1,Z1,XM,XM,Nat.ble_eq]at this;exact this
def gr{P:Plan}(h:P∈Ah){p:Pt}(d:AA P p=true):∃z∈Ki,p=Km z:=by
 have m:=iu h;have a:=inL.mp d;let⟨x,c⟩:=Og a.1;let⟨y,b⟩:=Og a.2.2.1;exact⟨(x,y),sv.mpr (),OI c b⟩
def Cuts(P:Plan)(l:List Pt):Prop:=∀p∈l,p∈Av P
def Cuts.len{P:Plan}(h:P∈Ah){l:List Pt}(b:Cuts P l)(a:l.Nodup):l.length<=77:=G6 (a.length_le_of_subset b) (iu h).2.2
def Cuts.Wk{P:Plan}{l:List Pt}(b:Cuts P l):Cuts P (Kn l):=λp a=>b p (aR.mp a)
def abN{P:Plan}(h:P∈Ah){l:List Pt}(g:l.length<=300)(c:Cuts P l):Jf (l.map kyP):=by
 refine⟨by rw[Zd];exact g,λk hk=>?_,λa j b i e=>?_⟩
 .obtain ⟨p,_,rfl⟩:=Wl.mp hk
  exactλz=>nomatch z
 .obtain ⟨p,f,rfl⟩:=Wl.mp j
  let⟨q,d,rfl⟩:=Wl.mp i;rw[wQ (gr h (bw.mp (c p f)).1) (gr h (bw.mp (c q d)).1) e]
abbrev DS(ks:List Pt):List (List Int×U):=Kg AZ (λ_=>U.bl true) ks
def Kq(ks:List Pt)(a:Pt):List Pt:=if a∈ks then ks else ks++[a]
def gH{ks:List Pt}{a:Pt}:dput (DS ks) (AZ a) (.bl true)=DS (Kq ks a):=by
 unfold Kq;split
 .rename_i h
  rw[uA (λa b=>dD) h];congr 1;funext q;split<;>rfl
 .rename_i h
  rw[su (λa b=>dD) h];congr 1;funext q;split<;>rfl
def bG{ks:List Pt}{a p:Pt}:p∈Kq ks a↔p=a\/p∈ks:=by
 unfold Kq;split
 .rename_i h
  exact⟨.inr,λz=>z.elim (λe=>by rw[e];exact h) id⟩
 .rw [Wu,WC];exact Or.comm
def gZ{ks:List Pt}{a:Pt}(h:ks.Nodup):(Kq ks a).Nodup:=by
 unfold Kq;split
 .exact h
 .rename_i n
  refine PZ.mpr ⟨h,Ob _ a,λx c y b e=>?_⟩;rw[WC]at b;exact n (by rw[<-b,<-e];exact c)
def gG{ks:List Pt}{a:Pt}:(A6 (DS ks) (AZ a)).isSome=decide (a∈ks):=by
 by_cases h:a∈ks
 .rw [m9 (key:=AZ) (λa b=>dD) h,Vt h];rfl
 .rw [Vu h]
  unfold A6 DS Kg;rw[QN,Bool.eq_false_iff];intro z;let⟨e,c⟩:=RG.mp z;have h1:=PQ c;have h2:=List.find?_some c;let⟨q,d,rfl⟩:=Wl.mp h1;rw[XM]at h2;exact h (by rw[<-dD h2];exact d)
def d5(ks:List Pt):(DS ks).map (·.1)=ks.map kyP:=by unfold DS Kg;rw[TU];rfl
def kD:∀{l ks:List Pt},(ks++l).Nodup->dfold (l.map λp=>.ZW [uP p,.bl true]) (DS ks)=some (DS (ks++l))
 |[],ks,_=>by rw[TR];rfl
 |a::l,ks,h=>by
  have b:a ∉ ks:=λz=>by
   have:=(PZ.mp h).2.2 a z a Wv;exact this rfl
  have e:CB (DS ks) (.ZW [uP a,.bl true])=some (DS (ks++[a])):=by
   show(keyOf (uP a)).map (λk=>dput (DS ks) k (.bl true))=_;rw[show keyOf (uP a)=some (AZ a)from rfl,VO,gH];unfold Kq;rw[Yb b]
  rw[Y2];simp![dfold,e,Rk];rw[kD (by rw[XU];exact h),XU]
  rfl
section
variable{ks:List Pt}{p:Pt}
def SetAt(g:G)(n:Nat)(ks:List Pt):Prop:=g[n]?=some (.ZF (DS ks))\/g[n]?=some (.Zq (DS ks))
def SetAt.app(h:SetAt g n ks):SetAt (g++gs) n ks:=h.imp ai ai
def SetAt.items(h:SetAt g n ks):items (.ref n) g=none:=by rcases h with h|h<;>simp![PI.items,h]
def SetAt.Yp(h:SetAt g n ks):Yp (.ref n) g=some (DS ks):=by rcases h with h|h<;>simp![PI.Yp,h]
def SetAt.look(h:SetAt g n ks):AY (uP p) (.ref n) g=some (A6 (DS ks) (AZ p)):=uu h.Yp hJ
def aaN(h:SetAt g n ks):Jb .VZ (uP p) (.ref n) g=some (!decide (p∈ks)):=by
 rw[cnin,h.items];simp![h.look,VO,gG]
def iq(h:SetAt g n ks):Jb .Xn (uP p) (.ref n) g=some (decide (p∈ks)):=by
 rw[cin,h.items];simp![nS,h.look,VO,gG]
def l9(h:SetAt g n ks)(a:ks.Nodup)(b:ks.length<100000):Dp [.ref n] g=.ok (.ref g.length) (g++[.Z5 ((Kn ks).map uP)]):=by
 unfold Dp;have e:A9 [.ref n] g=none:=by rcases h with h|h<;>simp![A9,h]
 simp![e,DF,h.Yp];rw[Yn ⟨by unfold DS Kg;rw[Zd];exact b,by rw[d5];exact aby a,λk hk=>by rw[d5]at hk;let⟨p,_,rfl⟩:=Wl.mp hk;exactλz=>nomatch z⟩,d5,aZ,nh]
 rfl
def uy{P:Plan}{l:List Pt}(c:P∈Ah)(h:g[n]?=some (.Z5 (l.map uP)))(a:l.length<=300)(b:Cuts P l):Cu [.ref n] g=.ok (.ref g.length) (g++[.Z5 ((Kn l).map uP)]):=vq h (abN c a b) (aZ l)
def tq{i:Int}(h:g[n]?=some (.Z5 xs))(b:0<=i)(c:i<1000000)(a:xs[i.toNat]?=some u):BQ n (.int i) g=.ok u (g.set n (.Z5 (xs.eraseIdx i.toNat))):=by
 unfold BQ;simp![h];rw[Yn ⟨b,by lia⟩]
 simp![a]
end
def qZ{f:α->β}{l:List α}{k:Nat}:(l.eraseIdx k).map f=(l.map f).eraseIdx k:=by simp[TK,List.map_take,List.map_drop]
def Bb(P:Plan)(l:List Pt)(p:Pt):List Pt:=(J3 P p).filter λq=>!decide (q∈l)
def AV(P:Plan)(l:List Pt):List Pt->Option (Pt×Pt)
 |[]=>none
 |p::r=>match Bb P l p with
  |[]=>AV P l r
  |q::_=>some (p,q)
def fw{P:Plan}{l:List Pt}:∀{s:List Pt},(∀p∈s,Bb P l p=[])->AV P l s=none
 |[],_=>rfl
 |p::s,h=>by
  rw[AV,h p Wv];exact fw λq a=>h q (G9 _ a)
def i4{P:Plan}{l:List Pt}{p q:Pt}{r:List Pt}(b:Bb P l p=q::r):∀{s:List Pt} {k:Nat},s[k]?=some p->(∀p∈s.take k,Bb P l p=[])->AV P l s=some (p,q)
 |[],_,e,_=>by cases e
 |a::s,0,e,_=>by cases e;rw[AV,b]
 |a::s,k+1,e,h=>by
  rw[List.take_succ_cons]at h;rw[AV,h a Wv];exact i4 b (s:=s) e λp c=>h p (G9 _ c)
def rK{P:Plan}{l m:List Pt}(h:∀p,p∈l↔p∈m)(p:Pt):Bb P l p=Bb P m p:=by
 unfold Bb;congr 1;funext q;simp![h q]
def iX{P:Plan}{l m:List Pt}(h:∀p,p∈l↔p∈m):∀s:List Pt,AV P l s=AV P m s
 |[]=>rfl
 |p::s=>by rw[AV,AV,rK h,iX h s]
def Kr:Option (Pt×Pt)->U
 |none=>.ZK
 |some (p,q)=>.ZW [uP p,uP q]
def pk{P:Plan}{p q:Pt}(h:q∈J3 P p):q∈Av P:=by
 unfold J3 at h;have:=(Rv.mp h).2;rw[Z1,W3]at this;exact bw.mpr this
def Old(g g':G):Prop:=∃gs,g'=g++gs
section
variable{g'':G}{o:Z9}
def Old.refl:Old g g:=⟨[],(TR g).symm⟩
def Old.app:Old g (g++gs):=⟨gs,rfl⟩
def Old.more(h:Old g g'):Old g (g'++gs):=by let⟨a,rfl⟩:=h;exact⟨a++gs,XU ..⟩
def Old.trans(h:Old g g')(k:Old g' g''):Old g g'':=by let⟨a,rfl⟩:=k;exact h.more
def Old.len(h:Old g g'):g.length<=g'.length:=by let⟨a,rfl⟩:=h;simp
def Old.get(h:Old g g')(e:g[n]?=some o):g'[n]?=some o:=by let⟨a,rfl⟩:=h;exact ai e
def Old.set(h:Old g g')(b:g.length<=n):Old g (g'.set n o):=by let⟨a,rfl⟩:=h;exact⟨a.set (n-g.length) o,Qf n o b⟩
def Old.fr(h:Old g g')(b:Bag g):Fr g g':=by let⟨a,rfl⟩:=h;exact Fr.app b
def Old.setAt{ks:List Pt}(h:Old g g')(s:SetAt g n ks):SetAt g' n ks:=by let⟨a,rfl⟩:=h;exact s.app
def aw{o':Z9}(h:n≠m)(e:g[m]?=some o):(g.set n o')[m]?=some o:=by rw[VJ h];exact e
end
def eJ{Pr:Pt->Prop}:∀{vs:List U},(∀v∈vs,∃p,v=uP p/\Pr p) ->∃ps:List Pt,vs=ps.map uP /\∀p∈ps,Pr p
 |[],_=>⟨[],rfl,λp a=>nomatch a⟩
 |v::vs,h=>by
  let⟨p,rfl,a⟩:=h v Wv;let⟨ps,rfl,d⟩:=eJ (vs:=vs) λw b=>h w (G9 _ b);exact⟨p::ps,rfl,λq c=>by rcases Xq.mp c with rfl|z;exact a;exact d q z⟩
inductive Xo(P:Plan)(l:List Pt):Pt->Prop
 |base {p:Pt}:p∈l->Xo P l p
 |step {p q:Pt}:Xo P l p->q∈J3 P p->Xo P l q
section
variable{P:Plan}{l ks:List Pt}{p q:Pt}
def Xo.cut(a:Cuts P l)(h:Xo P l p):p∈Av P:=by
 induction h with
 |base h=>exact a _ h
 |step _ h _=>exact pk h
def Ba(P:Plan)(l:List Pt):List Pt:=open Classical in Kn ((Av P).filter λq=>decide (Xo P l q))
open Classical in
def fD(a:Cuts P l):q∈Ba P l↔Xo P l q:=by
 unfold Ba;rw[aR,Rv,XM];exact⟨λh=>h.2,λh=>⟨h.cut a,h⟩⟩
open Classical in
def iL:Cuts P (Ba P l):=λp a=>by
 unfold Ba at a;rw[aR,Rv]at a;exact a.1
def rM:(Ba P l).Nodup:=l0 _
def vG(l:List Pt):Kn (Kn l)=Kn l:=fU λp=>aR
def sA(a:Cuts P l)(h:∀q,q∈ks↔Xo P l q):Kn ks=Ba P l:=by
 rw[fU (l:=ks) (m:=Ba P l) λq=>(h q).trans (fD a).symm];unfold Ba;rw[vG]
def aay(c:∀p∈l,p∈ks)(b:∀p∈ks,∀q∈J3 P p,q∈ks)(h:Xo P l q):q∈ks:=by
 induction h with
 |base h=>exact c _ h
 |step _ a ih=>exact b _ ih _ a
def wd(b:ks.Nodup)(h:p ∉ ks):(ks++[p]).Nodup:=by
 have:=gZ (a:=p) b;unfold Kq at this;rwa[Yb h]at this
def wz(h:p ∉ ks):(Kq ks p).length=ks.length+1:=by unfold Kq;rw[Yb h];simp
end
inductive S4(P:Plan)(l:List Pt):Pt->Prop
 |base {p:Pt}:p ∉ l->S4 P l p
 |step {p q:Pt}:q∈J3 P p->S4 P l q->S4 P l p
def Clo(P:Plan)(l:List Pt):Prop:=∀p∈l,∀q∈J3 P p,q∈l
section
variable{P:Plan}{l m:List Pt}{p q:Pt}
def qG(a:Cuts P l):Clo P (Ba P l):=λp c q b=>(fD a).mpr (.step ((fD a).mp c) b)
def rT(h:Clo P l):AV P l (Kn l)=none:=fw λp b=>RY.mpr λq a=>by simp[h p (aR.mp b) q a]
def Clo.app(h:Clo P l)(k:Clo P m):Clo P (l++m):=λp b q a=>by
 rcases Wu.mp b with z|z
 .exact Wu.mpr (.inl (h p z q a))
 .exact Wu.mpr (.inr (k p z q a))
def Cuts.app(h:Cuts P l)(k:Cuts P m):Cuts P (l++m):=λp a=>(Wu.mp a).elim (h p) (k p)
end
def A7(Z6:List Pt)(t:ZH):Bool:=match An t with
 |none=>false
 |some m=>decide (m∈Z6)
def Ks(Z6:List Pt):Nat->ZH->List ZH
 |0,t=>[t]
 |n+1,t=>if A7 Z6 t=true then(J7 t).flatMap (Ks Z6 n)else[t]
def Kt(Z6:List Pt)(t:ZH):List ZH:=Ks Z6 7 t
def Ku(P:Plan)(Z6:List Pt):List ZH:=(J6 P).flatMap (Kt Z6)
section
variable{Z6:List Pt}{t x:ZH}{P:Plan}{m p:Pt}
def dZ(h:An t=none):A7 Z6 t=false:=by unfold A7;rw[h]
def aX(h:An t=some m):A7 Z6 t=decide (m∈Z6):=by unfold A7;rw[h]
def iy(h:Ay 0 t=true):A7 Z6 t=false:=by
 have a:J7 t=[]:=Rl.mp h;cases e:An t with
 |none=>exact dZ e
 |some m=>rw[cu e]at a;cases a
def ki:∀(n:Nat) (t:ZH),Ay n t=true->Ks Z6 (n+1) t=Ks Z6 n t
 |0,t,h=>by show(if A7 Z6 t=true then _ else _)=_;rw[iy h];rfl
 |n+1,t,h=>by
  have h':=YN.mp h;rw[Ks,Ks,br λx a=>ki n x (h' x a)]
def hG(h:Ay 7 t=true):Kt Z6 t=if A7 Z6 t=true then(J7 t).flatMap (Kt Z6)else[t]:=by
 show Ks Z6 7 t=_;rw[Ks,br λx a=>(ki 6 x (fJ h a)).symm]
 rfl
def b6{Pr:ZH->List ZH->Prop}(a:∀t,A7 Z6 t=false->Pr t [t])(j:∀t m,t∈Am P->An t=some m->m∈Z6 ->∀d c,Pr ⟨t.ax,t.ay,t.cx,t.cy,m.1,m.2⟩ d->Pr ⟨t.cx,t.cy,t.bx,t.bY,m.1,m.2⟩ c->Pr t (d++c))(i:P.ok):
  ∀(n:Nat) (t:ZH),t∈Am P->Ay n t=true->Pr t (Ks Z6 n t)
 |0,t,_,h=>a t (iy h)
 |n+1,t,g,h=>by
  rw[Ks];cases e:An t with
  |none=>rw[Yb (by rw[dZ e];decide)];exact a t (dZ e)
  |some m=>
   by_cases b:m∈Z6
   .rw [Yn (by rw[aX e];exact Vt b)]
    have h':=YN.mp h;have hs:∀x∈J7 t,Pr x (Ks Z6 n x):=λx f=>b6 a j i n x (fm i g f) (h' x f);rw[cu e]at hs ⊢;rw[BG,VG,VG,List.flatMap_nil,TR];exact j t m g e b _ _ (hs _ (by simp[BG])) (hs _ (by simp[BG]))
   .have z:A7 Z6 t=false:=by rw[aX e];exact Vu b
    rw[Yb (by rw[z];decide)];exact a t z
def mV:∀(n:Nat) (t:ZH),x∈Ks Z6 n t->x∈Aw n t
 |0,t,h=>h
 |n+1,t,h=>by
  rw[Ks]at h;split at h
  .obtain ⟨y,a,z⟩:=WT.mp h
   exact G9 _ (WT.mpr ⟨y,a,mV n y z⟩)
  .rw [WC.mp h];exact fX _ _
def dS(h:x∈Ku P Z6):x∈Am P:=by
 let⟨r,a,z⟩:=WT.mp h;exact WT.mpr ⟨r,a,mV 7 r z⟩
def mU:∀(n:Nat) (t:ZH),(Ks Z6 n t).length<=(Aw n t).length
 |0,t=>G8 _
 |n+1,t=>by
  rw[Ks];split
  .show _<=(t::(J7 t).flatMap (Aw n)).length
   have:∀l:List ZH,(l.flatMap (Ks Z6 n)).length<=(l.flatMap (Aw n)).length:=λl=>by
    induction l with
    |nil=>exact G8 _
    |cons a l ih=>rw[VG,VG,YB,YB];have:=mU n a;lia
   have:=this (J7 t);rw[Xb];lia
  .show 1<=(t::_).length;simp
def sJ(b:P.ok):(Ku P Z6).length<=2286:=by
 have:∀l:List ZH,(l.flatMap (Kt Z6)).length<=(l.flatMap AL).length:=λl=>by
  induction l with
  |nil=>exact G8 _
  |cons a l ih=>rw[VG,VG,YB,YB];have:=mU (Z6:=Z6) 7 a;show(Ks Z6 7 a).length+_<=(Aw 7 a).length+_;lia
 exact G6 (this _) (iU b).2
def Kv(t:ZH):List Pt:=[Kc t,Kd t,Ke t]
def tW{Pr:ZH->Prop}(h:∀r∈J6 P,∀x∈Ks Z6 7 r,Pr x):∀x∈Ku P Z6,Pr x:=λx a=>by
 let⟨r,b,z⟩:=WT.mp a;exact h r b x z
def uJ(e:P.ok):∀x∈Ku P Z6,A7 Z6 x=false:=tW λr d=>b6 (Pr:=λ_ l=>∀x∈l,A7 Z6 x=false) (λt z x c=>by rw[WC.mp c];exact z) (λt m _ _ _ l1 f a b x c=>(Wu.mp c).elim (a x) (b x)) e 7 r (bK d) (aV e d)
def qv(i:P.ok)(f:t∈J6 P):∀x∈Ks Z6 7 t,∀p∈Kv x,p∈Kv t\/p∈Z6:=b6 (Pr:=λt l=>∀x∈l,∀p∈Kv x,p∈Kv t\/p∈Z6) (λt z x d p c=>by rw[WC.mp d]at c;exact .inl c) (λt m _ _ g l1 j a b x d p c=>by
 have q:=(Wu.mp d).imp (λh=>a x h p c) λh=>b x h p c;simp![Kv,Kc,Kd,Ke,Xq,Q_,or_false]at q ⊢;rcases q with(q|q)|(q|q)
 .rcases q with e|e|e
  .exact .inl (.inl e)
  .exact .inl (.inr (.inr e))
  .exact .inr (e ▸ g)
 .exact .inr q
 .rcases q with e|e|e
  .exact .inl (.inr (.inr e))
  .exact .inl (.inr (.inl e))
  .exact .inr (e ▸ g)
 .exact .inr q) i 7 t (bK f) (aV i f)
def j6(j:P.ok){n:Nat}(h:t∈Am P)(i:Ay n t=true):∀p∈Kv t,∃x∈Ks Z6 n t,p∈Kv x:=b6 (Pr:=λt l=>∀p∈Kv t,∃x∈l,p∈Kv x) (λt _ p c=>⟨t,by simp,c⟩) (λt m _ _ _ l1 g a b p c=>by
 have f:p=Kc t\/p=Ke t ->∃x∈l1++g,p∈Kv x:=λe=>by
  let⟨x,d,z⟩:=a p (by rcases e with e|e<;>simp[Kv,Kc,Kd,Ke,e])
  exact⟨x,Ra _ d,z⟩
 simp![Kv,Xq,Q_,or_false]at c;rcases c with e|e|e
 .exact f (.inl e)
 .obtain ⟨x,d,z⟩:=b p (by simp[Kv,Kc,Kd,Ke,e])
  exact⟨x,VF _ d,z⟩
 .exact f (.inr e)) j n t h i
def Kw(P:Plan)(t:ZH):Bool:=match An t with
 |none=>true
 |some m=>(J7 t).all λh=>match An h with
  |none=>true
  |some k=>decide (m∈J3 P k)
def xl:(Ah.all λP=>(Am P).all (Kw P))=true:=by decide +kernel
def uo(e:P∈Ah)(b:t∈Am P){k:Pt}(c:An t=some m)(a:x∈J7 t)(d:An x=some k):m∈J3 P k:=by
 have:=YN.mp (YN.mp xl P e) t b;unfold Kw at this;rw[c]at this;have:=YN.mp this x a;rw[d]at this;exact He this
def jS(j:P∈Ah)(c:P.ok)(l:Clo P Z6):∀(n:Nat) (t:ZH),t∈Am P->Ay n t=true->x∈Aw n t ->∀m,An x=some m->m∈Z6->(∃k,An t=some k/\k∈Z6) /\∃y∈Ks Z6 n t,m∈Kv y
 |0,t,b,hd,d,m,e,hm=>by
  have:x=t:=by simpa[Aw]using d
  subst this;have:=iy (Z6:=Z6) hd;rw[aX e,Vt hm]at this;cases this
 |n+1,t,b,hd,d,m,e,hm=>by
  have o:=YN.mp hd;rcases Xq.mp d with rfl|h
  .refine ⟨⟨m,e,hm⟩,?_⟩
   have f:(⟨x.ax,x.ay,x.cx,x.cy,m.1,m.2⟩:ZH)∈J7 x:=by rw[cu e];simp[BG]
   let⟨y,a,z⟩:=j6 (Z6:=Z6) c (fm c b f) (o _ f) m (by simp[Kv,Ke])
   refine⟨y,?_,z⟩;rw[Ks,Yn (by rw[aX e];exact Vt hm)]
   exact WT.mpr ⟨_,f,a⟩
  .obtain ⟨y,a,u⟩:=WT.mp h
   let⟨⟨k,s,hk⟩,z,p,r⟩:=jS j c l n y (fm c b a) (o y a) u m e hm;cases g:An t with
   |none=>rw[oQ g]at a;cases a
   |some q=>
    have i:q∈Z6:=l k hk q (uo j b g a s);refine⟨⟨q,rfl,i⟩,z,?_,r⟩;rw[Ks,Yn (by rw[aX g];exact Vt i)]
    exact WT.mpr ⟨y,a,p⟩
def Gj(P:Plan)(p:Pt):Bool:=if Au P p=true then(J6 P).any λt=>decide (p∈Kv t)else(Am P).any λt=>An t==some p
def vZ:(Ah.all λP=>(AI P).all (Gj P)&&(J6 P).all λt=>(Kv t).all λp=>AA P p&&Au P p)=true:=by decide +kernel
def tw(f:P∈Ah)(b:P.ok)(l:Cuts P Z6)(n:Clo P Z6):(∃x∈Ku P Z6,p∈Kv x)↔AA P p=true/\(Au P p=true\/p∈Z6):=by
 have e:=YN.mp vZ P f;rw[Z1]at e;constructor
 .rintro ⟨x,d,k⟩
  let⟨r,a,z⟩:=WT.mp d;rcases qv b a x z p k with q|q
  .have:=YN.mp (YN.mp e.2 r a) p q
   rw[Z1]at this;exact⟨this.1,.inl this.2⟩
  .exact ⟨(bw.mp (l p q)).1,.inr q⟩
 .rintro ⟨hi,h⟩
  have hs:=YN.mp e.1 p (ft.mpr hi);unfold Gj at hs;split at hs
  .obtain ⟨r,a,z⟩:=Qt.mp hs
   let⟨x,d,y⟩:=j6 (Z6:=Z6) b (bK a) (aV b a) p (He z);exact⟨x,WT.mpr ⟨r,a,d⟩,y⟩
  .rename_i g
   have m:p∈Z6:=h.resolve_left g;let⟨t,j,z⟩:=Qt.mp hs;let⟨r,a,q⟩:=WT.mp j;let⟨_,y,i,c⟩:=jS f b n 7 r (bK a) (aV b a) q p (by simpa using z) m
   exact⟨y,WT.mpr ⟨r,a,i⟩,c⟩
def v7(d:P.ok):∀(n:Nat) (t:ZH),t∈Am P->Ay n t=true->((Ks Z6 n t).map AW).sum=AW t:=b6 (Pr:=λt l=>(l.map AW).sum=AW t) (λt _=>by simp) (λt m _ c _ l1 e a b=>by
 let⟨g,f⟩:=rN c;rw[T_,List.sum_append,a,b];lia) d
def kK{f:ZH->List ZH}{w:ZH->Int}:∀{l:List ZH},(∀x∈l,((f x).map w).sum=w x)->((l.flatMap f).map w).sum=(l.map w).sum
 |[],_=>rfl
 |a::l,h=>by rw[VG,T_,List.sum_append,Y2,List.sum_cons,h a #[3],kK λx c=>h x (by simp[c])]
def sh(c:P∈Ah)(b:P.ok):((Ku P Z6).map AW).sum=2*P.w*P.d*P.s*P.s:=by
 rw[<-abd c];exact kK λr a=>v7 b 7 r (bK a) (aV b a)
def Bq(u v p:Pt):Bool:=!(decide (p=u)||(decide (p=v)||!decide (Kb u v p=0)))&&(!(decide (p.1<best true u.1 [v.1])||decide (best false u.1 [v.1]<p.1))&&(decide (best true u.2 [v.2]<=p.2)&&decide (p.2<=best false u.2 [v.2])))
def Gp(u v:Pt):List Pt:=(Bs (best true u.1 [v.1]) (best false u.1 [v.1]+1)).flatMap λx=>(Bs (best true u.2 [v.2]) (best false u.2 [v.2]+1)).map λy=>(x,y)
def tZ{u v p:Pt}(h:Bq u v p=true):p∈Gp u v:=by
 unfold Bq at h;simp![Z1,W3,Uo,XM,UG]at h;exact WT.mpr ⟨p.1,dH.mpr ⟨by omega,by omega⟩,Wl.mpr ⟨p.2,dH.mpr ⟨by omega,by omega⟩,rfl⟩⟩
def Dr(P:Plan)(m:Pt):Nat->Pt->Bool
 |0,p=>decide (p=m)
 |n+1,p=>decide (p=m)||(J3 P p).any (Dr P m n)
def lV(a:Clo P Z6):∀(n:Nat) (p:Pt),p∈Z6->Dr P m n p=true->m∈Z6
 |0,p,hp,h=>by rw[<-He (show decide (p=m)=true from h)];exact hp
 |n+1,p,hp,h=>by
  rw[Dr,UC]at h;rcases h with h|h
  .rw [<-He h];exact hp
  .obtain ⟨q,b,z⟩:=Qt.mp h
   exact lV a n q (a p hp q b) z
def Dk(P:Plan)(t:ZH)(u v:Pt):Bool:=(Gp u v).all λp=>!Bq u v p||(!Au P p&&match An t with
 |none=>false
 |some m=>Dr P m 6 p)
def sE:(Ah.all λP=>(Am P).all λt=>Dk P t (Kc t) (Kd t)&&(Dk P t (Kd t) (Ke t)&&Dk P t (Ke t) (Kc t)))=true:=by decide +kernel
def gw{u v:Pt}(f:Clo P Z6)(d:Dk P t u v=true)(b:A7 Z6 t=false)(a:Au P p=true\/p∈Z6)(c:Bq u v p=true):False:=by
 have:=YN.mp d p (tZ c);rw[c,Bool.not_true,Qz,Z1,W3]at this;rcases a with a|a
 .rw [a]at this;cases this.1
 .cases e:An t with
  |none=>rw[e]at this;cases this.2
  |some m=>
   rw[e]at this;have:=lV f 6 p a this.2;rw[aX e,Vt this]at b;cases b
def qj(g:P∈Ah)(f:P.ok)(c:Clo P Z6)(d:x∈Ku P Z6){u v:Pt}(a:(u,v)∈[(Kc x,Kd x),(Kd x,Ke x),(Ke x,Kc x)])(b:Au P p=true\/p∈Z6):Bq u v p=false:=by
 have hs:=YN.mp (YN.mp sE P g) x (dS d);simp![Z1]at hs;have hm:=uJ f x d;cases e:Bq u v p with
 |false=>rfl
 |true=>
  exfalso;simp![Xq,QA,Q_,or_false]at a;rcases a with⟨rfl,rfl⟩|⟨rfl,rfl⟩|⟨rfl,rfl⟩
  .exact gw c hs.1 hm b e
  .exact gw c hs.2.1 hm b e
  .exact gw c hs.2.2 hm b e
def rY:(Ah.all λP=>(Am P).all λt=>!decide (Kb (Kc t) (Kd t) (Ke t)=0))=true:=by decide +kernel
def sO(b:P∈Ah)(a:t∈Am P):Kb (Kc t) (Kd t) (Ke t)≠0:=by
 have:=YN.mp (YN.mp rY P b) t a;simpa using this
def Kx(k:Int)(t:ZH):ZH:=⟨t.ax*k,t.ay*k,t.bx*k,t.bY*k,t.cx*k,t.cy*k⟩
def AF(t:ZH)(p:Pt):Bool:=decide (0<best true (AD (Kx 4 t)*Kb p (Kd (Kx 4 t)) (Ke (Kx 4 t))) [AD (Kx 4 t)*Kb (Kc (Kx 4 t)) p (Ke (Kx 4 t)),AD (Kx 4 t)*Kb (Kc (Kx 4 t)) (Kd (Kx 4 t)) p])
def sX{a b c m p:Pt}(e:2*m.1=a.1+b.1)(d:2*m.2=a.2+b.2):
  2*Kb p c m=Kb a p c-Kb p b c/\2*Kb a p m = - Kb a b p/\Kb a c p = - Kb a p c/\2*Kb p b m = - Kb a b p/\2*Kb c p m=Kb p b c-Kb a p c/\Kb c b p = - Kb p b c/\2*Kb a c m = - Kb a b c/\2*Kb c b m = - Kb a b c/\Kb a b c=Kb p b c+Kb a p c+Kb a b p:=by
 unfold Kb;refine⟨?_,?_,?_,?_,?_,?_,?_,?_,?_⟩<;>grind
def qK{a b c m p:Pt}(h:2*m.1=a.1+b.1)(g:2*m.2=a.2+b.2)(w:Kb p c m≠0){s e d:Int}(f:s=if Kb a b c<0 then -1 else 1)(j:e=if Kb a c m<0 then -1 else 1)(i:d=if Kb c b m<0 then -1 else 1):
  ((0<s*Kb p b c/\0<s*Kb a p c/\0<s*Kb a b p)↔(0<e*Kb p c m/\0<e*Kb a p m/\0<e*Kb a c p)\/(0<d*Kb p b m/\0<d*Kb c p m/\0<d*Kb c b p)) /\
  ¬ ((0<e*Kb p c m/\0<e*Kb a p m/\0<e*Kb a c p)/\(0<d*Kb p b m/\0<d*Kb c p m/\0<d*Kb c b p)):=by
 let⟨v,u,t,r,q,o,n,l,k⟩:=sX (c:=c) (p:=p) h g;generalize Kb p b c=A at *;generalize Kb a p c=B at *;generalize Kb a b p=C at *;generalize Kb a b c=D at *;generalize Kb p c m=I at *;generalize Kb a p m=G at *;generalize Kb a c p=E at *;generalize Kb p b m=H at *;generalize Kb c p m=F at *;generalize Kb c b p=z at *;generalize Kb a c m=y at *;generalize Kb c b m=x at *;clear h g;split at f<;>split at j<;>split at i<;>subst f<;>subst j<;>subst i<;>(constructor<;>omega)
def gy{T:ZH}{p:Pt}:decide (0<best true (AD T*Kb p (Kd T) (Ke T)) [AD T*Kb (Kc T) p (Ke T),AD T*Kb (Kc T) (Kd T) p])=true↔0<AD T*Kb p (Kd T) (Ke T)/\0<AD T*Kb (Kc T) p (Ke T)/\0<AD T*Kb (Kc T) (Kd T) p:=by
 rw[XM];exact rA (x:=1)
def Gg(t:ZH):Bool:=match An t with
 |none=>true
 |some m=>!decide ((t.cx,t.cy)=m)&&(decide (t.cy=m.2)||(decide (t.cx=m.1)||(decide (t.cx-m.1=t.cy-m.2)||decide (t.cx-m.1=m.2-t.cy))))
def vp:(Ah.all λP=>(Am P).all Gg)=true:=by decide +kernel
def aa9(g:P∈Ah)(d:t∈Am P)(f:An t=some m)(i j:Int):Kb (4*i+1,4*j+2) (t.cx*4,t.cy*4) (m.1*4,m.2*4)≠0:=by
 have h:=YN.mp (YN.mp vp P g) t d;unfold Gg at h;rw[f]at h;let⟨u,v⟩:=m;simp![Z1,UC,W3,UG,XM,QA]at h;let⟨l,h⟩:=h;unfold Kb;simp![];generalize t.cx=x at *;generalize t.cy=y at *;have two:∀{a b c:Int},a=b*c->b≠0->c≠0->a≠0:=λe h k=>e ▸ Int.mul_ne_zero h k;rcases h with rfl|rfl|h|h
 .exact two (b:=4*(x-u)) (c:=4*y-(4*j+2)) (by grind) (by lia) (by lia)
 .exact two (b:=4*(v-y)) (c:=4*x-(4*i+1)) (by grind) (by lia) (by lia)
 .obtain rfl:x=u+(y-v):=by lia
  exact two (b:=4*(y-v)) (c:=4*v-(4*j+2)-4*u+(4*i+1)) (by grind) (by lia) (by lia)
 .obtain rfl:x=u+(v-y):=by lia
  exact two (b:=4*(v-y)) (c:=4*v-(4*j+2)+4*u-(4*i+1)) (by grind) (by lia) (by lia)
def uB(f:P∈Ah)(e:t∈Am P)(d:An t=some m)(i j:Int):
  (AF t (4*i+1,4*j+2)=true↔AF ⟨t.ax,t.ay,t.cx,t.cy,m.1,m.2⟩ (4*i+1,4*j+2)=true\/AF ⟨t.cx,t.cy,t.bx,t.bY,m.1,m.2⟩ (4*i+1,4*j+2)=true) /\ ¬ (AF ⟨t.ax,t.ay,t.cx,t.cy,m.1,m.2⟩ (4*i+1,4*j+2)=true/\AF ⟨t.cx,t.cy,t.bx,t.bY,m.1,m.2⟩ (4*i+1,4*j+2)=true):=by
 have g:=aa9 f e d i j;have h:2*m.1=t.ax+t.bx/\2*m.2=t.ay+t.bY:=by
  unfold An at d;split at d
  .cases d
  .cases d;simp![];lia
 unfold AF;rw[gy,gy,gy];exact qK (a:=(t.ax*4,t.ay*4)) (b:=(t.bx*4,t.bY*4)) (c:=(t.cx*4,t.cy*4)) (m:=(m.1*4,m.2*4)) (by simp![];lia) (by simp![];lia) g rfl rfl rfl
def aa0(f:P∈Ah)(e:P.ok)(i j:Int):∀(n:Nat) (t:ZH),t∈Am P->Ay n t=true->((Ks Z6 n t).filter λx=>AF x (4*i+1,4*j+2)).length=if AF t (4*i+1,4*j+2)=true then 1 else 0:=b6 (Pr:=λt l=>(l.filter λx=>AF x (4*i+1,4*j+2)).length=if AF t (4*i+1,4*j+2)=true then 1 else 0) (λt _=>by rw[List.filter_cons];split<;>rfl) (λt m c d _ l1 g a b=>by
 let⟨k,h⟩:=uB f c d i j;rw[List.filter_append,YB,a,b];split<;>split<;>split<;>simp_all) e
def i9{f:ZH->List ZH}{q:ZH->Bool}:∀{l:List ZH},(∀x∈l,((f x).filter q).length=if q x=true then 1 else 0)->((l.flatMap f).filter q).length=(l.filter q).length
 |[],_=>rfl
 |a::l,h=>by
  rw[VG,List.filter_append,YB,h a #[3],i9 λx c=>h x (by simp[c]),List.filter_cons]
  split
  .rw [Xb];lia
  .lia
def uj:(Ah.all λP=>(J0 (P.w*P.s)).all λi=>(J0 (P.d*P.s)).all λj=>decide (((J6 P).filter λx=>AF x (4*i+1,4*j+2)).length=1))=true:=by decide +kernel
def tS(c:P∈Ah)(b:P.ok){i j:Int}(hi:0<=i/\i<P.w*P.s)(e:0<=j/\j<P.d*P.s):((Ku P Z6).filter λx=>AF x (4*i+1,4*j+2)).length=1:=by
 unfold Ku;rw[i9 (f:=Kt Z6) λr a=>aa0 c b i j 7 r (bK a) (aV b a)];exact He (YN.mp (YN.mp (YN.mp uj P c) i (gm.mpr hi)) j (gm.mpr e))
def s8:(Ki.all λz=>!decide (Ja [(z.1:Int),(z.2:Int)]=A8))=true:=by decide +kernel
def pT(d:P∈Ah)(c:Cuts P Z6)(h:SetAt g n Z6):Jb .Xn .ZK (.ref n) g=some false:=by
 rw[cin,h.items];show((Yp (.ref n) g).bind _)=_;rw[h.Yp,Rk,Yn];rw[d5];intro k hk;let⟨p,b,rfl⟩:=Wl.mp hk;let⟨z,a,rfl⟩:=gr d (bw.mp (c p b)).1;have:=YN.mp s8 z a;rw[W3,UG]at this;exact this
def mr:∀{l:List Pt},l.Pairwise ltP->Kn l=l
 |[],_=>rfl
 |a::l,h=>by
  rw[Kn,mr h.of_cons];cases l with
  |nil=>rfl
  |cons b r=>
   have c:ltP a b:=(Ur.mp h).1 b #[3]
   have d:Ag (kyP a) (kyP b)=true:=by
    show(if a.1=b.1 then(if a.2=b.2 then false else decide (a.2<b.2))else decide (a.1<b.1))=true
    rcases c with z|z
    .rw [Yb (by lia)];exact Vt z
    .rw [Yn z.1,Yb (by lia)];exact Vt z.2
   rw[CI,Yb (λe=>xf (e ▸ c)),Yn d]
def ad2(d:P∈Ah)(c:P.ok)(b:t∈Am P):Kf (Kx 4 t):=by
 let⟨n,rfl,a⟩:=qW c (YN.mp vm P d) b;unfold Kk at a;rw[Z1]at a;have:=a.1;simp![Kj,Z1,Nat.ble_eq]at this;unfold Kf Kx toT;simp![];omega
end
end
end PI
variable{P:PI.Plan}{p q:PI.Pt}{ks l:List PI.Pt}
namespace ZE
noncomputable section
open PI
section
variable{X:XP}{Q:U->G->Prop}
def jB(e:P.ok)(h:Q (.bl (AA P p)) g):JC J (d+1) 0 [Zj P,uP p] g X Q:=by
 have h1:=e.ss;simp? only[Fg]
 simp?[*];simp![AA]at h;refine ab (λa=>?_) λa=>by simp?[*];simpa[a]using h
 simp?[*];refine ab (λb=>?_) λb=>?_
 .simp? [*]
  refine ab (λc=>?_) λc=>by simp?[*];simpa[a,b,c]using h
  simp?[*];simpa[a,b,c]using h
 .simp? [*];simpa[a,b]using h
def oJ(b:P.ok)(a:AA P p=true)(h:Q .ZK g):JC J (d+2) 1 [Zj P,uP p] g X Q:=by
 simp? only[EX]
 simp?;refine jB b ?_;simp?;simp![a];simp?;exact h
def iK(b:P.ok)(c:AA P p=true)(h:Q (.bl (Au P p)) g):JC J (d+3) 2 [Zj P,uP p] g X Q:=by
 have h0:=b.s0;simp? only[E7]
 simp?;refine oJ b c ?_;simp?[*];simp![Au]at h;refine ab (λa=>?_) λa=>by simp?[*];simpa[a]using h
 simp?[*];simpa[a]using h
def i7(c:P.ok)(a:AA P p=true)(b:Au P p=false)(h:Q .ZK g):JC J (d+4) 3 [Zj P,uP p] g X Q:=by
 simp? only[Fb]
 simp?;refine iK c a ?_;simp?[b];exact h
def fZ(h:Q (.int (stride p)) g):JC J (d+1) 4 [uP p] g X Q:=by
 simp? only[Fo]
 simp?[bf];unfold stride at h
 (repeat' (refine ab (λ_=>?_) (λ_=>?_)<;>(try simp?[bf, *])))
 all_goals simp_all
def pd(h:Q (.bl (BR p)) g):JC J (d+2) 5 [uP p] g X Q:=by
 have s0:=(cv p).1;have sb:=dI p;simp? only[E6]
 simp?;refine fZ ?_;simp?[s0,sb];unfold BR at h
 (repeat' (refine ab (λ_=>?_) (λ_=>?_)<;>(try simp?[bf, *])))
 all_goals simp_all
def oK(h:Q (u4 (BV p)) g):JC J (d+2) 6 [uP p] g X Q:=by
 have s0:=(cv p).1;have sb:=dI p;simp? only[EY]
 simp?;refine fZ ?_;simp?[s0,sb];unfold BV lying upright at h
 (repeat' (refine ab (λ_=>?_) (λ_=>?_)<;>(try simp?[bf, *])))
 all_goals simp_all
def ox(h:Q (u4 (BP p)) g):JC J (d+2) 7 [uP p] g X Q:=by
 have s0:=(cv p).1;have a:0<2*stride p:=by lia
 have sb:=jF p;have ss:=iB p;simp? only[EN]
 simp?;refine fZ ?_;simp?[s0,a,sb,ss];unfold BP Ca rising falling at h
 (repeat' (refine ab (λ_=>?_) (λ_=>?_)<;>(try simp?[bf, *])))
 all_goals simp_all
def wt(h:Q (u4 (AB p)) g):JC J (d+3) 8 [uP p] g X Q:=by
 simp? only[Fq]
 simp?;refine pd ?_;simp?;unfold AB at h;refine ab (λk=>?_) λk=>?_
 .rw [Yn k]at h
  simp?;refine ox ?_;simp?;exact h
 .rw [Yb (by simp[k])]at h
  simp?;refine oK ?_;simp?;exact h
def rR(c:P.ok)(j:AA P p=true)(o:Au P p=false)(h:Bc g ((J3 P p).map uP) Q):JC J (d+5) 9 [Zj P,uP p] g X Q:=by
 simp? only[Fe]
 simp?;refine i7 c j o ?_;simp?;refine wt ?_;simp?;refine ba [(AB p).2.1,(AB p).2.2] uP (λq=>AA P q&&!Au P q) uP (λg'=>g'=g) ((J3 P p).map uP) rfl (λk g' e=>tf) (λq r=>?_) #[3] rfl ?_
 .simp?
  rintro g' rfl;refine jB c ?_;simp?;refine ab (λa=>?_) λa=>?_
  .simp?
   refine iK c a ?_;simp?[a];refine ab (λf=>?_) λf=>?_<;>simp?[a,f]
  .simp? [a,QM]
 .rintro g' rfl
  have hl:=cj P p;exact⟨by rw[Zd];lia,h _ _ (G8 _) ah⟩
def i6(A:P∈Ah)(z:P.ok)(c:g[n]?=some (.Z5 (l.map uP)))(y:l.length<=300)(j:Cuts P l)(h:∀(g':G) (m:Nat),Old g g'->g.length<=m->g'[m]?=some (.ZF (DS (Kn l)))->Q (.ref m) g'):JC J (d+5) 10 [Zj P,.ref n] g X Q:=by
 simp? only[Fd]
 simp?[c];refine be (l.map uP) (λk Y g'=>g'=g /\∃o,Y=[some (Zj P),some (.ref n),o]) (λk Y g' a=>by rw[a.1];exact az c) ⟨rfl,_,rfl⟩ (λk u Y g' hk a=>?_) (λY g' a=>?_)
 .obtain ⟨rfl,o,rfl⟩:=a
  simp![Wy,X7]at hk;let⟨p,f,rfl⟩:=hk;let⟨t,w⟩:=bw.mp (j p (W8 f));simp?;refine i7 z t w ?_;simp?;exact⟨_,rfl⟩
 .obtain ⟨rfl,o,rfl⟩:=a
  have r:(g'++[Z9.Z5 ((Kn l).map uP)])[g'.length]?=some (.Z5 ((Kn l).map uP)):=ah;simp?[uy A c y j,r];refine ba (Kn l) uP (λ_=>true) (λp=>.ZW [uP p,.bl true]) (λg2=>g2=g'++[Z9.Z5 ((Kn l).map uP)]) ((Kn l).map λp=>.ZW [uP p,.bl true]) (by rw[ke]) (λk g2 e=>by rw[e];exact az r) (λp f=>?_) (by have:=xw l;lia) rfl ?_
  .simp?
   rintro g2 rfl;simp?[keyOf,intsOf]
  .rintro g2 rfl
   have f1:=kD (l:=Kn l) (ks:=[]) (l0 l);rw[Ry]at f1;simp?[show dfold ((Kn l).map λp=>.ZW [uP p,.bl true]) []=some (DS (Kn l))from f1];exact h _ _ Old.app.more #[3] ah
def rg(l:P.ok)(j:p∈Av P)(c:SetAt g m ks)(h:Bc g ((Bb P ks p).map uP) Q):JC J (d+6) 11 [Zj P,.ref m,uP p] g X Q:=by
 let⟨f,i⟩:=bw.mp j;simp? only[Ff]
 simp?;refine rR l f i λgs n s e=>?_;simp?[e];refine ba (J3 P p) uP (λq=>!decide (q∈ks)) uP (λg'=>g'=g++gs) ((Bb P ks p).map uP) rfl (λk g' e'=>by rw[e'];exact az e) (λq r=>?_) (by have:=cj P p;lia) rfl ?_
 .have dl:=(c.app (gs:=gs)).look (p:=q)
  have o:=gG (ks:=ks) (a:=q);have hi:=(c.app (gs:=gs)).items;simp![items]at hi;simp?;rintro g' rfl;simp?[hi,dl,o];refine ab (λb=>?_) λb=>?_<;>simp?[b]
 .rintro g' rfl
  have hl:=cj P p;have:=Rt (λq=>!decide (q∈ks)) (J3 P p);exact cH h (by rw[Zd];unfold Bb;lia)
def vB(C:P∈Ah)(w:P.ok)(A:g[n]?=some (.Z5 (l.map uP)))(B:l.length<=300)(v:Cuts P l)(h:∀g',Old g g'->Q (Kr (AV P l (Kn l))) g'):JC J (d+8) 12 [Zj P,.ref n] g X Q:=by
 have hs:∀s,AV P l s=AV P (Kn l) s:=iX λp=>aR.symm;rw[hs]at h;simp? only[Fp]
 simp?;refine i6 C w A B v λE m Kh y x=>?_;simp?[x];refine be ((Kn l).map uP) (λk Y g'=>∃o2 j,Old g g'/\g'[m]?=some (.Zq (DS (Kn l)))/\(∀p∈(Kn l).take k,Bb P (Kn l) p=[])/\Y=[some (Zj P),some (.ref n),some (.ref m),o2,j]) (λk Y g' c=>?_) ⟨_,_,Kh.set y,aB x,λp a=>by simp at a,rfl⟩ (λk u Y g' hk c=>?_) (λY g' c=>?_)
 .obtain ⟨_,_,_,e,_⟩:=c
  exact t8 e
 .obtain ⟨o2,j,ho,e,b,rfl⟩:=c
  simp![Wy,X7]at hk;let⟨p,a,rfl⟩:=hk;have o:p∈Av P:=v.Wk p (W8 a);simp?;refine rg w o (.inr e) λgs D F i=>?_;cases f:Bb P (Kn l) p with
  |nil=>
   rw[f]at i;simp?[i,List.isEmpty_nil];refine⟨_,_,ho.more,ai e,λq t=>?_,rfl⟩;rw[Qn,a]at t;rcases Wu.mp t with z|z
   .exact b q z
   .simp at z;rw[z];exact f
  |cons q r=>
   rw[f]at i;simp?[i,List.isEmpty_cons];have:=h _ (ho.more (gs:=gs));rw[i4 f a b]at this;exact this
 .obtain ⟨o2,j,ho,e,b,rfl⟩:=c
  simp?;have:=h _ ho;rw[Zd]at b;rw[fw λp a=>b p (by rw[Q9];exact a)]at this
  exact this
def oH{i j s:Int}(c:small s)(h:Bc g ((AU i j s).map uT) Q):JC J (d+1) 13 [.int i,.int j,.int s] g X Q:=by
 simp? only[EO]
 simp?[c];unfold AU at h;refine ab (λb=>?_) λb=>?_
 .have a:(i+j) % 2=0:=by simpa using b
  simp?[c];rw[Yn a]at h;exact h _ _ (G8 _) ah
 .have a : ¬ (i+j) % 2=0:=by simpa using b
  simp?[c];rw[Yb a]at h;exact h _ _ (G8 _) ah
def vH(c:P.ok)(h:Bc g ((J6 P).map uT) Q):JC J (d+2) 14 [Zj P] g X Q:=by
 have o:=c.ss;have hl:=qm c;have A:(J0 P.w).length<=3:=by rw[aC];rcases c.w with e|e|e<;>rw[e]<;>decide
 have C:(J0 P.d).length<=3:=by rw[aC];rcases c.d with e|e|e<;>rw[e]<;>decide
 have u:Ak P.w=true:=by rcases c.w with e|e|e<;>rw[e]<;>exact aM #[1] #[1]
 have r:Ak P.d=true:=by rcases c.d with e|e|e<;>rw[e]<;>exact aM #[1] #[1]
 have a:∀i,((J0 P.d).flatMap λj=>(AU i j P.s).map uT).length<=6:=λi=>by
  have:=bO (f:=λj=>(AU i j P.s).map uT) (B:=2) (l:=J0 P.d) λj _=>by rw[Zd,du];lia
  lia
 simp? only[Ft]
 simp?[u];refine ig (J0 P.w) U.int (λi=>(J0 P.d).flatMap λj=>(AU i j P.s).map uT) (λg'=>∃gs,g'=g++gs) 8 (λk g' _=>bQ) (λi _=>G6 (a i) #[1]) (λi hi=>?_) _ 0 _ _ (T9 _) (by simp![List.length_nil];lia) ⟨[],by simp⟩ ?_
 .simp? [r]
  rintro g' ZS ⟨gs,rfl⟩ z;refine ig (J0 P.d) U.int (λj=>(AU i j P.s).map uT) (λg'=>∃gs,g'=g++gs) 2 (λk g' _=>bQ) (λj _=>by rw[Zd,du];lia) (λj F=>?_) _ 0 _ _ (T9 _) (by lia) ⟨gs,rfl⟩ ?_
  .simp?
   rintro g' ZS ⟨gs,rfl⟩ z;refine oH o λy n E e=>?_;simp?[e];refine aba (AU i j P.s) uT (λ_=>true) uT (λg'=>g'=g++gs++y) ZS (λk g' e'=>by rw[e',az e]) (λt D=>?_) (by rw[du];lia) rfl ?_
   .simp?
    rintro g' rfl;trivial
   .rintro g' rfl
    exact⟨by rw[ke],_,XU ..⟩
  .rintro g' ⟨gs,rfl⟩
   exact⟨rfl,_,rfl⟩
 .rintro g' ⟨gs,rfl⟩
  have e:([]++List.flatMap (λi=>List.flatMap (λj=>(AU i j P.s).map uT) (J0 P.d)) (List.drop 0 (J0 P.w)))=(J6 P).map uT:=by
   simp[J6,Of]
  rw[e];exact cH h (by rw[Zd];lia)
def km{t:ZH}(h:Q (J5 (An t)) g):JC J (d+1) 15 [uT t] g X Q:=by
 have f:(2:Int)<Aj:=by decide
 simp? only[Fk]
 simp?[slc4];unfold An at h;refine ab (λe=>?_) λe=>?_
 .have b:(t.ax+t.bx) % 2=1:=by simpa using e
  rw[Yn (.inl b)]at h;simp?;exact h
 .have b : ¬ (t.ax+t.bx) % 2=1:=by simpa using e
  simp?;refine ab (λc=>?_) λc=>?_
  .have a:(t.ay+t.bY) % 2=1:=by simpa using c
   rw[Yn (.inr a)]at h;simp?;exact h
  .have a : ¬ (t.ay+t.bY) % 2=1:=by simpa using c
   rw[Yb (by lia)]at h
   simp?[f];exact h
def sm{t:ZH}{m:Pt}(a:An t=some m)(h:Bc g ((J7 t).map uT) Q):JC J (d+2) 16 [uT t] g X Q:=by
 rw[cu a]at h;simp? only[Fm]
 simp?;refine km ?_;rw[a];simp?[J5];exact h _ _ (G8 _) ah
def MeshAt(g:G)(n:Nat)(P:Plan)(Z6:List Pt):Prop:=∃k,g[n]?=some (.ins 220000973 [(232289904,Zj P),(31096353005,.ref k)])/\SetAt g k Z6/\3<=k
def MeshAt.old{Z6:List Pt}(h:MeshAt g n P Z6)(o:Old g g'):MeshAt g' n P Z6:=by
 let⟨k,h1,h2,a⟩:=h;exact⟨k,o.get h1,o.setAt h2,a⟩
def MeshAt.fr{Z6:List Pt}(h:MeshAt g n P Z6)(f:Fr g g')(b:3<=n):MeshAt g' n P Z6:=by
 let⟨k,h1,h2,a⟩:=h;exact⟨k,f.get _ _ b h1,h2.imp (f.get _ _ a) (f.get _ _ a),a⟩
def ou(i:P∈Ah)(f:P.ok)(a:g[n]?=some (.Z5 (l.map uP)))(c:l.length<=300)(e:Cuts P l)(r:Clo P l)(w:3<=g.length)(h:∀g',Old g g'->MeshAt g' g.length P (Kn l)->Q .ZK g'):JC J (d+9) 17 [.ref g.length,Zj P,.ref n] (g++[.ins 220000973 []]) X Q:=by
 simp? only[EL]
 simp?;refine vB i f (ai a) c e λb Kh=>?_;rw[rT r];have k:=Kh.get (ah (g:=g) (o:=.ins 220000973 []));have u:=Kh.get (ai (gs:=[.ins 220000973 []]) a);have l1:=Kh.len;have v:g.length<b.length:=by rw[YB,Xb,List.length_nil]at l1;lia
 have nn:n<g.length:=(Yj.mp a).1;simp?[Kr,AH,k];have t:(b.set g.length (Z9.ins 220000973 [(232289904,Zj P)]))[g.length]?=some (.ins 220000973 [(232289904,Zj P)]):=aB k;have p:Old g b:=Old.app.trans Kh;refine i6 i f (aw (Qo nn) u) c e λg2 m o2 q s=>?_;have j:=o2.get t;rw[QD]at q;simp?[j];refine h _ (((p.set (G8 _)).trans o2).set (G8 _)) ⟨m,aB j,.inl (aw (by lia) s),by lia⟩
def ff{Z6:List Pt}(R:P∈Ah)(D:P.ok)(B:MeshAt g n P Z6)(N:Cuts P Z6)(h:Bc g ((Ku P Z6).map uT) Q):JC J (d+3) 18 [.ref n] g X Q:=by
 have hl:=(iU D).2;have M:∀t∈J6 P,Ay 7 t=true:=λt f=>aV D f;let⟨k,K,Zg,_⟩:=B;simp? only[EK]
 simp?[ai K];refine vH D λa nr hn e=>?_;simp?[e];have H:((J6 P).flatMap AL).length<16770000:=(by show(Am P).length<_;lia)
 refine nQ (λm Y g'=>∃(T W:List ZH) (gs:G) (o:Option U),T++W.reverse.flatMap (Kt Z6)=Ku P Z6/\T.length+(W.flatMap AL).length<=((J6 P).flatMap AL).length/\(W.flatMap AL).length=m/\(∀t∈W,Ay 7 t=true)/\g'=(g ++ .Z5 (T.map uT)::(a ++ .Z5 (W.map uT)::gs))/\Y=[some (.ref n),some (.ref (g).length),some (.ref ((g).length+1+(List.length a))),o]) ?_ ((J6 P).reverse.flatMap AL).length _ _ ⟨[],(J6 P).reverse,[],none,by simp[Ku],by rw[di];simp,rfl,λt f=>M t (UI.mp f),by simp,by simp;lia⟩
 rintro m Y g' ⟨T,W,gs,o,hT,O,B,w,rfl,rfl⟩;rcases List.eq_nil_or_concat W with Wp|⟨W',t,rfl⟩
 .subst Wp
  have C:T=Ku P Z6:=by simpa using hT
  have g2:(g ++ .Z5 (T.map uT)::(a ++ .Z5 []::gs))[(g).length+1+(List.length a)]?=some (.Z5 []):=dQ;simp?[g2,List.isEmpty_nil,List.length_nil,Int.natCast_zero];rw[C];refine h _ _ (G8 _) jZ
 .have f:Ay 7 t=true:=w t #[3]
  have E:T++(Kt Z6 t++W'.reverse.flatMap (Kt Z6))=Ku P Z6:=by
   rw[<-hT];simp
  have UE:(W'.flatMap AL).length+(1+((J7 t).flatMap AL).length)=m:=by
   rw[<-B];simp![List.concat_eq_append,Qw,VG,List.flatMap_nil,TR,YB,t5 f,Xb];lia
  have F:W'.length<=(W'.flatMap AL).length:=jT λx _=>sk x;have L:(W'.concat t).map uT=W'.map uT++[uT t]:=by simp
  have g2:(g ++ .Z5 (T.map uT)::(a ++ .Z5 (W'.map uT++[uT t])::gs))[(g).length+1+(List.length a)]?=some (.Z5 (W'.map uT++[uT t])):=dQ;have y:(g ++ .Z5 (T.map uT)::(a ++ .Z5 (W'.map uT)::gs))[(g).length]?=some (.Z5 (T.map uT)):=jZ;have pop:BI ((g).length+1+(List.length a)) (g ++ .Z5 (T.map uT)::(a ++ .Z5 (W'.map uT++[uT t])::gs))=.ok (uT t) (g ++ .Z5 (T.map uT)::(a ++ .Z5 (W'.map uT)::gs)):=by
   rw[jf g2,ky]
  have V:(g ++ .Z5 (T.map uT)::(a ++ .Z5 (W'.map uT)::gs))[(g).length+1+(List.length a)]?=some (.Z5 (W'.map uT)):=dQ;have A:(g ++ .Z5 (T.map uT)::(a ++ .Z5 (W'.map uT)::gs))[n]?=some (.ins 220000973 [(232289904,Zj P),(31096353005,.ref k)]):=ai K;have z:SetAt (g ++ .Z5 (T.map uT)::(a ++ .Z5 (W'.map uT)::gs)) k Z6:=Zg.app;rw[L];simp?[g2,u7,pop];refine km ?_;cases r:An t with
  |none=>
   have app:Bo (g).length (uT t) (g ++ .Z5 (T.map uT)::(a ++ .Z5 (W'.map uT)::gs))=.ok .ZK (g ++ .Z5 ((T++[t]).map uT)::(a ++ .Z5 (W'.map uT)::gs)):=by
    rw[dw y (by rw[Zd];lia),kH];simp
   simp?[J5,A,↓pT R N z,y,app];exact⟨(W'.flatMap AL).length,by lia,T++[t],W',gs,_,by rw[<-E,hG f,dZ r];simp,by rw[YB,Xb,List.length_nil];lia,rfl,λx c=>w x (by simp[c]),rfl,rfl⟩
  |some q=>
   by_cases u:q∈Z6
   .simp? [J5,A,↓iq z,Vt u,V]
    refine sm r λj n2 Yi I=>?_;rw[gp]at I ⊢;simp?[I];rw[gp];have S:(g ++ .Z5 ((T).map uT)::(a ++ .Z5 (W'.map uT)::(gs++j++[.Z5 ((J7 t).map uT).reverse])))[(g).length+1+(List.length a)]?=some (.Z5 (W'.map uT)):=dQ;have Z:(g ++ .Z5 ((T).map uT)::(a ++ .Z5 (W'.map uT)::(gs++j++[.Z5 ((J7 t).map uT).reverse])))[(List.length (g ++ .Z5 ((T).map uT)::(a ++ .Z5 (W'.map uT)::(gs++j))))]?=some (.Z5 ((J7 t).map uT).reverse):=by
     rw[<-gp];exact ah
    have hh:(J7 t).length<=2:=by rw[cu r];simp[BG]
    have ext:BE ((g).length+1+(List.length a)) (.ref (List.length (g ++ .Z5 ((T).map uT)::(a ++ .Z5 (W'.map uT)::(gs++j))))) (g ++ .Z5 ((T).map uT)::(a ++ .Z5 (W'.map uT)::(gs++j++[.Z5 ((J7 t).map uT).reverse])))=.ok .ZK (g ++ .Z5 ((T).map uT)::(a ++ .Z5 ((W'++(J7 t).reverse).map uT)::(gs++j++[.Z5 ((J7 t).map uT).reverse]))):=by
     rw[jE S Z (by rw[Zd,List.length_reverse,Zd];lia),ky]
     simp
    simp?[ext];refine⟨((W'++(J7 t).reverse).flatMap AL).length,?_,T,W'++(J7 t).reverse,_,_,?_,?_,rfl,λx c=>?_,rfl,rfl⟩
    .rw [Qw,YB,di];lia
    .rw [<-E,hG f,aX r,Vt u];simp
    .rw [Qw,YB,di];lia
    .rcases Wu.mp c with c|c
     .exact w x (by simp[c])
     .exact jh 6 x (fJ f (UI.mp c))
   .have app:Bo (g).length (uT t) (g ++ .Z5 (T.map uT)::(a ++ .Z5 (W'.map uT)::gs))=.ok .ZK (g ++ .Z5 ((T++[t]).map uT)::(a ++ .Z5 (W'.map uT)::gs)):=by
     rw[dw y (by rw[Zd];omega),kH];simp
    simp?[J5,A,↓iq z,Vu u,y,app];exact⟨(W'.flatMap AL).length,by omega,T++[t],W',gs,_,by rw[<-E,hG f,aX r,Vu u];simp,by rw[YB,Xb,List.length_nil];omega,rfl,λx c=>w x (by simp[c]),rfl,rfl⟩
def qo(ns:List Int)(h:∀zs:List Int,Q (.ref 2) [.Z5 (zs.map U.int),.Z5 (zs.map U.int),Bz 1 0 7]):JC J (d+1) 19 [.Zx (ns.map U.int)] [] X Q:=by
 simp? only[E9]
 simp?[CQ];have a:Bh (ns.map U.int) none (some 63)=(EF ns none (some 63)).map U.int:=wc ns _ _;simp?[a,Bz];exact h _
def aP{m:Int}(N:Bag g)(j:0<m)(S:m<1000000000000)(h:∀(r:Int) (g':G),0<=r->r<m->Fr g g'->Q (.int r) g'):JC J (d+1) 20 [.ref 2,.int m] g X Q:=by
 let⟨xs,at_,C,h1,h2⟩:=N;have l1:1<g.length:=(Yj.mp h1).1;have R:2<g.length:=(Yj.mp h2).1;have c:m<Aj:=by unfold Aj;lia
 have o:(2147483647:Int)<Aj:=by decide
 have k:(64:Int)<Aj:=by decide
 have K:small 48271:=aL #[1]
 have I:small 9973:=aL #[1]
 have s3:small 31:=aL #[1]
 have s4:small 69621:=aL #[1]
 simp? only[E5]
 simp?[h1,h2,Bz];have P:∀a:Int,0<=a -> ¬ 1000000000000000000<=a->wpS J d [(.Zp (.cmp .ge (.L 4) (.ZT .pow (.ZZ (.int 10)) (.ZZ (.int 18)))) [(.sub (.L 2) (.ZT .mod (.L 3) (.bi .len [(.L 2)])) (.ZT .fdiv (.L 4) (.L 1))),(.ret (.ZT .mod (.L 4) (.L 1)))] []),(.sub (.L 0) (.ZZ (.int 1)) (.ZT .add (.L 3) (.ZZ (.int 1)))),(.sub (.L 0) (.ZZ (.int 2)) (.ZT .mod (.ZT .add (.ZT .add (.ZT .add (.ZT .mul (.idx (.L 0) (.ZZ (.int 2))) (.ZZ (.int 48271))) (.ZT .mul (.L 4) (.ZZ (.int 9973)))) (.ZT .mul (.L 3) (.ZZ (.int 31)))) (.ZZ (.int 11))) (.ZZ (.int 2147483647)))),(.ret (.ZT .mod (.ZT .fdiv (.ZT .mod (.ZT .mul (.idx (.L 0) (.ZZ (.int 2))) (.ZZ (.int 69621))) (.ZZ (.int 2147483629))) (.ZZ (.int 64))) (.L 1)))] [some (.ref 2),some (.int m),some (.ref 1),some (.int at_),some (.int a)] g X λw g=>JQ w (lk λu=>Q u g):=λa A y=>by
  have F:=aB (o':=Bz 1 (at_+1) C) h2;have t:=aB (o':=Bz 1 (at_+1) ((C*48271+a*9973+at_*31+11) % 2147483647)) F;have O : ¬ a<0:=by lia
  simp?[h1,h2,jV,O,y,fO h2 (show(0:Int)<=1 by decide) #[3],K,I,s3,s4,j,c,o,k,show(1:Int).toNat=1 from rfl,F]
  simp?[fO F (show(0:Int)<=2 by decide) #[3],K,I,s3,s4,j,c,o,k,show(2:Int).toNat=2 from rfl,t]
  exact h _ _ (Pl _ (by lia)) (QG _ j) ((Fr.S5 ⟨xs,at_,C,h1,h2⟩ _ _).trans (Fr.S5 (Fr.S5 ⟨xs,at_,C,h1,h2⟩ _ _).YX _ _))
 have B:∀a:Int,0<xs.length->1000000000000000000<=a->wpS J d [(.Zp (.cmp .ge (.L 4) (.ZT .pow (.ZZ (.int 10)) (.ZZ (.int 18)))) [(.sub (.L 2) (.ZT .mod (.L 3) (.bi .len [(.L 2)])) (.ZT .fdiv (.L 4) (.L 1))),(.ret (.ZT .mod (.L 4) (.L 1)))] []),(.sub (.L 0) (.ZZ (.int 1)) (.ZT .add (.L 3) (.ZZ (.int 1)))),(.sub (.L 0) (.ZZ (.int 2)) (.ZT .mod (.ZT .add (.ZT .add (.ZT .add (.ZT .mul (.idx (.L 0) (.ZZ (.int 2))) (.ZZ (.int 48271))) (.ZT .mul (.L 4) (.ZZ (.int 9973)))) (.ZT .mul (.L 3) (.ZZ (.int 31)))) (.ZZ (.int 11))) (.ZZ (.int 2147483647)))),(.ret (.ZT .mod (.ZT .fdiv (.ZT .mod (.ZT .mul (.idx (.L 0) (.ZZ (.int 2))) (.ZZ (.int 69621))) (.ZZ (.int 2147483629))) (.ZZ (.int 64))) (.L 1)))] [some (.ref 2),some (.int m),some (.ref 1),some (.int at_),some (.int a)] g X λw g=>JQ w (lk λu=>Q u g):=λa A y=>by
  have ce:=wO (at_:=at_) A;have cl:(0:Int)<xs.length:=by lia
  let⟨m1,M⟩:=hU (at_:=at_) A;simp?[h1,h2,jV,y,Zd,cl,j,c,fO h1 m1 (by simpa using M),<-List.map_set]
  exact h _ _ (Pl _ (by lia)) (QG _ j) (Fr.set1 ⟨xs,at_,C,h1,h2⟩ _)
 have H:∀a:Int,(1000000000000000000<=a->0<xs.length)->0<=a->wpS J d [(.Zp (.cmp .ge (.L 4) (.ZT .pow (.ZZ (.int 10)) (.ZZ (.int 18)))) [(.sub (.L 2) (.ZT .mod (.L 3) (.bi .len [(.L 2)])) (.ZT .fdiv (.L 4) (.L 1))),(.ret (.ZT .mod (.L 4) (.L 1)))] []),(.sub (.L 0) (.ZZ (.int 1)) (.ZT .add (.L 3) (.ZZ (.int 1)))),(.sub (.L 0) (.ZZ (.int 2)) (.ZT .mod (.ZT .add (.ZT .add (.ZT .add (.ZT .mul (.idx (.L 0) (.ZZ (.int 2))) (.ZZ (.int 48271))) (.ZT .mul (.L 4) (.ZZ (.int 9973)))) (.ZT .mul (.L 3) (.ZZ (.int 31)))) (.ZZ (.int 11))) (.ZZ (.int 2147483647)))),(.ret (.ZT .mod (.ZT .fdiv (.ZT .mod (.ZT .mul (.idx (.L 0) (.ZZ (.int 2))) (.ZZ (.int 69621))) (.ZZ (.int 2147483629))) (.ZZ (.int 64))) (.L 1)))] [some (.ref 2),some (.int m),some (.ref 1),some (.int at_),some (.int a)] g X λw g=>JQ w (lk λu=>Q u g):=λa A y=>by
  by_cases E:1000000000000000000<=a
  .exact B a (A E) E
  .exact P a y E
 refine ab (λf=>?_) λf=>?_
 .have f:0<xs.length:=by simpa using f
  have cl:(0:Int)<xs.length:=by lia
  simp?[h1,Zd,cl,sF f];refine ab (λD=>?_) λD=>?_
  .have z:=H (1-Di xs at_) (λ_=>f) (by simp![XM]at D;lia)
   simp?[OL]at z ⊢;exact z
  .have z:=H (Di xs at_) (λ_=>f) (by simp![UG]at D;lia)
   simp?[OL]at z ⊢;exact z
 .have z:=H 0 (λz=>absurd z #[1]) #[1]
  simp?[OL]at z ⊢;exact z
def BU:List Plan:=[⟨1,1,2⟩,⟨1,1,4⟩,⟨2,1,2⟩,⟨1,2,2⟩,⟨2,2,2⟩,⟨1,1,4⟩,⟨3,1,2⟩,⟨1,3,2⟩,⟨2,1,4⟩,⟨1,2,4⟩,⟨3,2,2⟩,⟨1,1,8⟩]
def vR(h:P∈BU):P.ok:=by
 simp![BU,Xq,Q_,or_false]at h;rcases h with rfl|rfl|rfl|rfl|rfl|rfl|rfl|rfl|rfl|rfl|rfl|rfl<;>exact⟨by simp,by simp,by simp⟩
def oP(a:Bag g)(h:∀(P:Plan) (g':G),P∈BU->Fr g g'->Q (Zj P) g'):JC J (d+2) 21 [.ref 2] g X Q:=by
 simp? only[E8]
 simp?;refine xX (ai ah) ah #[1] ?_
 simp?;refine aP a.app.app.app #[1] #[1] λr c y w k=>?_
 have u:=k.get _ _ (by have:=a.len;simp![YB,Xb,List.length_nil];lia) ah
 let⟨P,t,o⟩:=k7 (l:=BU) (f:=Zj) y (by exact w)
 have j:c[(g++[Z9.Z5 ((BU.take 6).map Zj)]++[Z9.Z5 ((BU.drop 6).map Zj)]).length]?=some (.Z5 (BU.map Zj)):=u;have fr:Fr g c:=by
  refine Fr.trans ?_ k;rw[XU,XU];exact Fr.app a
 revert j;simp![YB,Xb,List.length_nil];intro j;simp?[j,o,YB];exact h P c t fr
def iz(c:P.ok)(h:Bc g ((AI P).map uP) Q):JC J (d+1) 22 [Zj P] g X Q:=by
 have h0:=c.s0;have h1:=c.ss;have hw:=c.ws;have hd:=c.ds;have q:Ak (P.w*P.s+1)=true:=aM (by lia) (by lia)
 have p:Ak (P.d*P.s+1)=true:=aM () ()
 have hl:=fk c;simp? only[ET]
 simp?[*];refine c8 ((J0 (P.w*P.s+1)).map U.int) (λk Y g'=>(∃Kh o2,Y=[some (Zj P),some (.ref g.length),Kh,o2])/\g'=g++[.Z5 ((((J0 (P.w*P.s+1)).take k).flatMap λx=>(J0 (P.d*P.s+1)).map λy=>((x,y):Pt)).map uP)]) (λk Y g' _=>bQ) (λk u Y g' hk b=>?_) (λY g' b=>?_) _ 0 _ _ (T9 _) ⟨⟨none,none,rfl⟩,rfl⟩
 .obtain ⟨⟨Kh,o2,rfl⟩,rfl⟩:=b
  simp![Wy,X7]at hk;let⟨x,n,rfl⟩:=hk;simp?[*];refine c8 ((J0 (P.d*P.s+1)).map U.int) (λj Y g'=>(∃o2,Y=[some (Zj P),some (.ref g.length),some (.int x),o2])/\g'=g++[.Z5 (((((J0 (P.w*P.s+1)).take k).flatMap λx=>(J0 (P.d*P.s+1)).map λy=>((x,y):Pt))++(((J0 (P.d*P.s+1)).take j).map λy=>((x,y):Pt))).map uP)]) (λk Y g' _=>bQ) (λj u Y g' i b=>?_) (λY g' b=>?_) _ 0 _ _ (T9 _) ⟨⟨o2,rfl⟩,by simp⟩
  .obtain ⟨⟨o2,rfl⟩,rfl⟩:=b
   simp![Wy,X7]at i;let⟨y,m,rfl⟩:=i;have t:=List.length_take_le k (J0 (P.w*P.s+1));have e:((((J0 (P.w*P.s+1)).take k).flatMap λx=>(J0 (P.d*P.s+1)).map λy=>((x,y):Pt))++(((J0 (P.d*P.s+1)).take j).map λy=>((x,y):Pt))).length<=700:=by
    have a1:=bO (f:=λx=>(J0 (P.d*P.s+1)).map λy=>((x,y):Pt)) (B:=25) (l:=(J0 (P.w*P.s+1)).take k) λa _=>by simp[aC];lia
    have o:((J0 (P.w*P.s+1)).take k).length<=25:=by rw[Vi,aC];lia
    have r:=Nat.mul_le_mul_right 25 o;rw[YB,Zd,Vi,aC];lia
   simp?[ah,qe (show(List.map uP ((((J0 (P.w*P.s+1)).take k).flatMap λx=>(J0 (P.d*P.s+1)).map λy=>((x,y):Pt))++(((J0 (P.d*P.s+1)).take j).map λy=>((x,y):Pt)))).length<16777000 by rw[Zd];lia)]
   refine⟨⟨_,rfl⟩,?_⟩;rw[Qn,m];simp
  .obtain ⟨⟨o2,rfl⟩,rfl⟩:=b
   simp?;refine⟨⟨_,_,rfl⟩,?_⟩;rw[Qn,n];simp
 .obtain ⟨⟨Kh,o2,rfl⟩,rfl⟩:=b
  simp?;refine h _ _ (G8 _) ?_;simp[AI]
def fh(b:P.ok)(h:Q (.bl (Au P p)) g):JC J (d+1) 23 [Zj P,uP p] g X Q:=by
 have h0:=b.s0;simp? only[ES]
 simp?[*];simp![Au]at h;refine ab (λa=>?_) λa=>by simp?[*];simpa[a]using h
 simp?[*];simpa[a]using h
def oV(a:P.ok)(h:Bc g ((Av P).map uP) Q):JC J (d+2) 24 [Zj P] g X Q:=by
 have hl:=fk a;simp? only[E3]
 simp?;refine iz a λgs n i c=>?_;simp?[*];refine ba (AI P) uP (λp=>!Au P p) uP (λg'=>g'=g++gs) ((Av P).map uP) rfl (λk g' e=>by rw[e,az c]) (λp f=>?_) (by lia) rfl ?_
 .simp?
  rintro g' rfl;refine fh a ?_;simp?;refine ab (λb=>?_) λb=>?_<;>simp?[*]
 .rintro g' rfl
  have hf:=Rt (λp=>!Au P p) (AI P);exact cH h (by rw[Zd];unfold Av;lia)
def qz(a:P.ok)(h:Q (.bl (AA P p)) g):JC J (d+1) 25 [Zj P,uP p] g X Q:=by
 have h1:=a.ss;simp? only[Fh]
 simp?[h1];unfold AA at h
 (repeat' (refine ab (λ_=>?_) (λ_=>?_)<;>(try simp?[bf, *])))
 all_goals simp_all
def iG(h:Q (.int (stride p)) g):JC J (d+1) 26 [uP p] g X Q:=by
 simp? only[E4]
 simp?;unfold stride at h
 (repeat' (refine ab (λ_=>?_) (λ_=>?_)<;>(try simp?[bf, *])))
 all_goals simp_all
def oG(h:Q (.bl (BR p)) g):JC J (d+2) 27 [uP p] g X Q:=by
 have s0:=(cv p).1;have sb:=dI p;simp? only[ER]
 simp?;refine iG ?_;simp?[s0,sb];unfold BR at h
 (repeat' (refine ab (λ_=>?_) (λ_=>?_)<;>(try simp?[bf, *])))
 all_goals simp_all
def oE(h:∀gs n i j,(g++gs)[n]?=some (.Z5 [.ref i,.ref j])->(g++gs)[i]?=some (.Z5 [uP (AB p).1.1,uP (AB p).1.2])->(g++gs)[j]?=some (.Z5 [uP (AB p).2.1,uP (AB p).2.2])->Q (.ref n) (g++gs)):JC J (d+3) 28 [uP p] g X Q:=by
 have s0:=(cv p).1;have f:0<2*stride p:=by omega
 have sb:=jF p;have k:=dI p;have ss:=iB p;simp? only[EV]
 simp?;refine iG ?_;simp?[s0,f,sb,k,ss];refine oG ?_;simp?[s0,f,sb,k,ss];refine ab (λc=>?_) λc=>?_
 .have ev:=qD c
  simp?[s0,f,sb,k,ss];refine ab (λo=>?_) λo=>?_
  .have a:=ev.mp (by simpa using o)
   simp?[s0,f,sb,k,ss];exact eB (i:=2) (j:=3) h (by simp[AB,c,BP,a,rising]) (by simp[AB,c,BP,a,falling]) #[3] #[3]
  .have a:=mt ev.mpr (by simpa using o)
   simp?[s0,f,sb,k,ss];exact eB (i:=3) (j:=2) h (by simp[AB,c,BP,a,falling]) (by simp[AB,c,BP,a,rising]) #[3] #[3]
 .simp? [s0,f,sb,k,ss]
  refine ab (λo=>?_) λo=>?_
  .have a:p.1 / stride p % 2=1:=by simpa using o
   simp?[s0,f,sb,k,ss];exact eB (i:=0) (j:=1) h (by simp[AB,c,BV,a,lying]) (by simp[AB,c,BV,a,upright]) #[3] #[3]
  .have a : ¬ p.1 / stride p % 2=1:=by simpa using o
   simp?[s0,f,sb,k,ss];exact eB (i:=1) (j:=0) h (by simp[AB,c,BV,a,upright]) (by simp[AB,c,BV,a,lying]) #[3] #[3]
def pY(f:P.ok)(h:Bc g ((J3 P p).map uP) Q):JC J (d+4) 29 [Zj P,uP p] g X Q:=by
 simp? only[Fc]
 simp?;refine oE λgs n i j t r o=>?_;simp?[t,r,o];refine ba [(AB p).2.1,(AB p).2.2] uP (λq=>AA P q&&!Au P q) uP (λg'=>g'=g++gs) ((J3 P p).map uP) rfl (λk g' e=>by rw[e];exact az o) (λq u=>?_) #[3] rfl ?_
 .simp?
  rintro g' rfl;refine qz f ?_;simp?;refine ab (λa=>?_) λa=>?_
  .simp?
   refine fh f ?_;simp?[a];refine ab (λc=>?_) λc=>?_<;>simp?[a,c]
  .simp? [a,QM]
 .rintro g' rfl
  have hl:=cj P p;exact cH h (by rw[Zd];omega)
def oI(K:P∈Ah)(T:P.ok)(R:g[n]?=some (.Z5 (l.map uP)))(S:l.length<=700)(D:Cuts P l)
  (h:∀(g':G) (m:Nat),Old g g'->g.length<=m->g'[m]?=some (.Z5 ((Ba P l).map uP))->Q (.ref m) g'):JC J (d+5) 30 [Zj P,.ref n] g X Q:=by
 simp? only[EU]
 simp?[ai R];refine nQ (λm Y g'=>∃(ks W:List Pt) (o:Option U),Old g g'/\g'[g.length]?=some (.ZF (DS ks))/\g'[g.length+1]?=some (.Z5 (W.map uP))/\ks.Nodup/\(∀p∈ks,Xo P l p)/\(∀p∈W,Xo P l p)/\(∀p∈l,p∈ks\/p∈W)/\(∀p∈ks,∀q∈J3 P p,q∈ks\/q∈W)/\W.length<=700+2*ks.length/\3*(77-ks.length)+W.length=m/\Y=[some (Zj P),some (.ref n),some (.ref g.length),some (.ref (g.length+1)),o]) ?_ (3*(77-0)+l.length) _ _ ⟨[],l,none,Old.app.more,by simp[Kg],by simp,.nil,(λp c=>nomatch c),(λp c=>.base c),(λp c=>.inr c),(λp c=>nomatch c),by simpa using S,rfl,by simp⟩
 rintro m Y g' ⟨ks,W,o,ho,M,k,nd,t,w,E,hC,hw,hm,rfl⟩;have hk:Cuts P ks:=λp c=>(t p c).cut D;have I:=hk.len K nd;rcases List.eq_nil_or_concat W with Wp|⟨W',p,rfl⟩
 .subst Wp
  have same:Kn ks=Ba P l:=sA D λq=>⟨t q,aay (λp c=>(E p c).resolve_right λz=>nomatch z) λp c q a=>(hC p c q a).resolve_right λz=>nomatch z⟩;simp?[k,List.length_nil,Int.natCast_zero,l9 (.inl M) nd (by lia)]
  rw[same];exact h _ _ ho.more (ho.len) ah
 .have O:(W'.concat p).map uP=W'.map uP++[uP p]:=by simp
  rw[O]at k;have lw:(W'.concat p).length=W'.length+1:=by simp
  have j:Xo P l p:=w p #[3]
  have C:p∈Av P:=j.cut D;have mem:∀q,q∈W'.concat p↔q∈W'\/q=p:=λq=>by simp
  have pop:=jf k;have o2:Old g (g'.set (g.length+1) (.Z5 (W'.map uP))):=ho.set (by lia)
  have u:(g'.set (g.length+1) (.Z5 (W'.map uP)))[g.length]?=some (.ZF (DS ks)):=aw (by lia) M
  have L:(g'.set (g.length+1) (.Z5 (W'.map uP)))[g.length+1]?=some (.Z5 (W'.map uP)):=aB k;have Ww:=aaN (p:=p) (.inl u);have A:(0:Int)<((W'.map uP).length+1:Nat):=by lia
  simp?[k,YB,A,pop,↓Ww];refine ab (λf=>?_) λf=>?_
  .replace f:p ∉ ks:=by simpa using f
   have Y7:ks.length+1<=77:=by
    have:=Cuts.len K (l:=ks++[p]) (λq a=>by rcases Wu.mp a with z|z;exact hk q z;rw[WC.mp z];exact C) (wd nd f)
    simpa using this
   have sb:∀Y,subAt (.ref g.length) (uP p) (.bl true) Y (g'.set (g.length+1) (.Z5 (W'.map uP)))=.ok (.nx Y) ((g'.set (g.length+1) (.Z5 (W'.map uP))).set g.length (.ZF (DS (Kq ks p)))):=λY=>by
    rw[jo u hJ (by unfold DS Kg;rw[Zd];lia),show AZ (p.1,p.2)=AZ p from rfl,gH]
   simp?[sb];generalize H:(g'.set (g.length+1) (.Z5 (W'.map uP))).set g.length (.ZF (DS (Kq ks p)))=g3;have N:Old g g3:=by rw[<-H];exact o2.set (G8 _)
   have Z:g3[g.length]?=some (.ZF (DS (Kq ks p))):=by rw[<-H];exact aB u
   have F:g3[g.length+1]?=some (.Z5 (W'.map uP)):=by rw[<-H];exact aw (by lia) L
   simp?[F];refine pY T λgs n3 WS V=>?_;have Yw:=cj P p;have ext:=jE (ai (gs:=gs) F) V (by rw[Zd,Zd];lia)
   simp?[ext];have la:=wz f;refine⟨_,?_,Kq ks p,W'++J3 P p,_,(N.more).set (by lia),aw (by lia) (ai Z),?_,gZ nd,λq a=>?_,λq a=>?_,λq a=>?_,λr B q a=>?_,?_,rfl,rfl⟩
   .rw [YB];lia
   .rw [T_];exact aB (ai F)
   .rcases bG.mp a with rfl|z
    .exact j
    .exact t q z
   .rcases Wu.mp a with z|z
    .exact w q ((mem q).mpr (.inl z))
    .exact .step j z
   .rcases E q a with z|z
    .exact .inl (bG.mpr (.inr z))
    .rcases (mem q).mp z with z|z
     .exact .inr (Wu.mpr (.inl z))
     .exact .inl (bG.mpr (.inl z))
   .rcases bG.mp B with rfl|z
    .exact .inr (Wu.mpr (.inr a))
    .rcases hC r z q a with y|y
     .exact .inl (bG.mpr (.inr y))
     .rcases (mem q).mp y with y|y
      .exact .inr (Wu.mpr (.inl y))
      .exact .inl (bG.mpr (.inl y))
   .rw [YB];lia
  .replace f:p∈ks:=by simpa using f
   simp?;refine⟨_,?_,ks,W',_,o2,u,L,nd,t,λq a=>w q ((mem q).mpr (.inl a)),λq a=>?_,λr B q a=>?_,by lia,rfl,rfl⟩
   .lia
   .rcases E q a with z|z
    .exact .inl z
    .rcases (mem q).mp z with z|z
     .exact .inr z
     .exact .inl (by rw[z];exact f)
   .rcases hC r B q a with z|z
    .exact .inl z
    .rcases (mem q).mp z with z|z
     .exact .inr z
     .exact .inl (by rw[z];exact f)
def oM(O:P∈Ah)(hP:P.ok)(H:Bag g)(h:∀(g':G) (m:Nat) (l:List Pt),Fr g g'->g.length<=m->g'[m]?=some (.Z5 (l.map uP))->Cuts P l->l.length<=77->Q (.ref m) g'):JC J (d+3) 31 [.ref 2,Zj P] g X Q:=by
 have I:=(iu O).2.2;have N:0<(Av P).length:=by
  have:(Ah.all λP=>Nat.blt 0 (Av P).length)=true:=by decide +kernel
  exact Nat.blt_eq.mp (YN.mp this P O)
 have self:Cuts P (Av P):=λp o=>o;simp? only[E1]
 simp?;refine oV hP λgs n1 V e1=>?_;have A:3<=n1:=G6 H.len V;simp?;refine aP H.app #[1] #[1] λr g2 M L y=>?_
 have B:Fr g g2:=(Fr.app H).trans y;have w:=y.get _ _ A e1;have F:g.length<=g2.length:=B.len;have pick:∀(m:Int),0<m->m<1000 ->∀(c:Int->Bool) (R:G),Fr g2 R->True:=λ_ _ _ _ _ _=>trivial;simp?;refine ab (λk1=>?_) λk1=>?_
 .simp?
  exact h _ _ [] (B.trans (Fr.app y.YX)) F ah (λp o=>nomatch o) #[3]
 simp?;refine ab (λk2=>?_) λk2=>?_
 .simp?
  exact h _ _ _ B V w self I
 simp?;refine ab (λk3=>?_) λk3=>?_
 .simp? [w]
  refine eR ((Av P).map uP) (λv=>∃p,v=uP p/\p∈Av P) (λg'=>Fr g2 g') (λk g' f=>az (f.get _ _ A w)) (λu t=>?_) ((Av P).map uP).length 0 [] _ (T9 _) (by rw[Zd];unfold Ac;simp;lia) (Fr.refl y.YX) λvs g' l1 C a=>?_
  .obtain ⟨p,o,rfl⟩:=Wl.mp t
   simp?;intro g' a;refine aP a.YX #[1] #[1] λr g4 M L j=>?_
   simp?;refine ab (λD=>?_) λD=>?_
   .simp?
    exact⟨a.trans j,λ_=>⟨⟨p,rfl,o⟩,a.trans j⟩⟩
   .simp?
    exact⟨a.trans j,λz=>by cases z⟩
  .obtain ⟨ps,rfl,E⟩:=eJ C
   rw[Zd,Zd]at l1;refine⟨by rw[Ry,Zd];lia,?_⟩
   rw[Ry];exact h _ _ ps ((B.trans a).trans (Fr.app a.YX)) (G6 F a.len) ah E (by lia)
 simp?;refine ab (λD=>?_) λD=>?_
 .simp? [w]
  refine eR ((Av P).map uP) (λv=>∃p,v=uP p/\p∈Av P) (λg'=>Fr g2 g') (λk g' f=>az (f.get _ _ A w)) (λu t=>?_) ((Av P).map uP).length 0 [] _ (T9 _) (by rw[Zd];unfold Ac;simp;omega) (Fr.refl y.YX) λvs g' l1 C a=>?_
  .obtain ⟨p,o,rfl⟩:=Wl.mp t
   simp?;intro g' a;refine aP a.YX #[1] #[1] λr g4 M L j=>?_
   simp?;refine ab (λD=>?_) λD=>?_
   .simp?
    exact⟨a.trans j,λ_=>⟨⟨p,rfl,o⟩,a.trans j⟩⟩
   .simp?
    exact⟨a.trans j,λz=>by cases z⟩
  .obtain ⟨ps,rfl,E⟩:=eJ C
   rw[Zd,Zd]at l1;refine⟨by rw[Ry,Zd];omega,?_⟩
   rw[Ry];exact h _ _ ps ((B.trans a).trans (Fr.app a.YX)) (G6 F a.len) ah E ()
 simp?;refine aP y.YX #[1] #[1] λK R s0 s1 a=>?_
 have e3:=a.get _ _ A w;have Z:Ak (1+K)=true:=aM (by lia) (by lia)
 simp?[Z];refine x9 ((J0 (1+K)).map U.int) (λv=>∃p,v=uP p/\p∈Av P) (λg'=>Fr g2 g') (λk g' f=>bQ) (λu t=>?_) (by rw[Zd,aC];lia) a λvs g' l1 C j=>?_
 .obtain ⟨kk,hk,rfl⟩:=Wl.mp t
  simp?;intro g' j;have T:=j.get _ _ A w;simp?[T,Zd];refine aP j.YX (by lia) () λr5 g5 Y W S=>?_
  let⟨p,o,t⟩:=k7 (f:=uP) Y W;simp?[S.get _ _ A T,t];exact⟨⟨p,rfl,o⟩,j.trans S⟩
 .obtain ⟨ps,rfl,E⟩:=eJ C
  rw[Zd,Zd,aC]at l1;refine⟨by rw[Zd];lia,?_⟩
  exact h _ _ ps ((B.trans j).trans (Fr.app j.YX)) (G6 F j.len) ah E (by lia)
def oW(b:P∈Ah)(f:P.ok)(i:Bag g)(h:∀(g':G) (m:Nat) (l:List Pt),Fr g g'->g.length<=m->g'[m]?=some (.Z5 (l.map uP))->Cuts P l->Clo P l->l.length<=77->Q (.ref m) g'):JC J (d+6) 32 [.ref 2,Zj P] g X Q:=by
 simp? only[E2]
 simp?;refine oM b f i λq m l c o k e p=>?_;simp?;refine oI b f k (by lia) e λg2 n o2 a j=>?_
 simp?;exact h _ _ (Ba P l) (c.trans (o2.fr c.YX)) (G6 c.len a) j iL (qG e) (iL.len b rM)
def qw(h:i<l.length):(l[i]::l.eraseIdx i).Perm l:=by
 rw[TK];refine P_.symm.trans ?_;rw[<-Vy h,WD]
def oN(A:Bag g)(z:g[n]?=some (.Z5 (l.map uP)))(O:3<=n)(N:l.length<=1000)(h:∀(g':G) (m:Nat) (w:List Pt),Fr g g'->g.length<=m->g'[m]?=some (.Z5 (w.map uP))->w.Perm l->Q (.ref m) g'):JC J (d+2) 33 [.ref 2,.ref n] g X Q:=by
 have P:=A.len;simp? only[EZ]
 have D:Ak ((l.map uP).length:Int)=true:=aM (by lia) (by rw[Zd];lia)
 simp?[ai z,ai (ai z),D];refine be ((J0 ((l.map uP).length:Int)).map U.int) (λk Y g'=>∃(T W:List Pt) (o:Option U),Fr g g'/\g'[g.length]?=some (.Z5 (T.map uP))/\g'[g.length+1]?=some (.Z5 (W.map uP))/\T.length=k/\(T++W).Perm l/\Y=[some (.ref 2),some (.ref n),some (.ref g.length),some (.ref (g.length+1)),o]) (λk Y g' f=>bQ) ⟨[],l,none,by exact Old.fr Old.app.more A,by simp,by simp,rfl,by simp,by first|rfl|simp⟩ (λk u Y g' hk f=>?_) (λY g' f=>?_)
 .obtain ⟨T,W,o,i,j,v,p,c,rfl⟩:=f
  have b:=c.length_eq;rw[YB]at b;have K:k<l.length:=by
   have:=(Yj.mp hk).1;rw[Zd,aC,Zd]at this;simpa using this
  simp![Wy,X7]at hk;let⟨M,_,rfl⟩:=hk;simp?[j,v,Zd];refine aP i.YX (by lia) (by lia) λr g2 E L t=>?_
  have F:=t.get _ _ (by lia) j
  have C:=t.get _ _ (by lia) v
  have x:r.toNat<W.length:=by lia
  have pp:=tq C E (by lia) (u:=uP W[r.toNat]) (by rw[Wy,Xp x];rfl)
  have B:(g2.set (g.length+1) (.Z5 ((W.map uP).eraseIdx r.toNat)))[g.length]?=some (.Z5 (T.map uP)):=aw (by lia) F
  have ap:=dw (y:=uP W[r.toNat]) B (by rw[Zd];lia)
  simp?[pp,ap];refine⟨T++[W[r.toNat]],W.eraseIdx r.toNat,_,?_,?_,?_,by simp[p],?_,rfl⟩
  .have q:=i.trans t
   refine⟨?_,?_,λk o hk e=>?_⟩
   .obtain ⟨xs,a,s,I,H⟩:=q.YX
    exact⟨xs,a,s,aw (by lia) (aw (by lia) I),aw (by lia) (aw (by lia) H)⟩
   .rw [QD,QD];exact q.len
   .have K:=(Yj.mp e).1
    exact aw (by lia) (aw (by lia) (q.get k o hk e))
  .rw [aB B];simp
  .rw [aw (by lia) (aB C)];rw[qZ]
  .rw [XU]
   exact((qw x).append_left T).trans c
 .obtain ⟨T,W,o,i,j,v,p,c,rfl⟩:=f
  simp?;rw[Zd,aC,Zd]at p;have b:=c.length_eq;rw[YB]at b;have:W=[]:=QK.mp (by lia)
  subst this;exact h _ _ T i (G8 _) j (by simpa using c)
def fc{t:ZH}(h:Bc g ([Kc t,Kd t,Ke t].map uP) Q):JC J (d+1) 34 [uT t] g X Q:=by
 simp? only[EJ]
 simp?;exact h _ _ (G8 _) ah
def bq{a b c:Pt}(e:AE a)(i:AE b)(f:AE c)(h:Q (.int (Kb a b c)) g):JC J (d+1) 35 [uP a,uP b,uP c] g X Q:=by
 have m1:IV .mul (.int (b.1-a.1)) (.int (c.2-a.2))=some (.int ((b.1-a.1)*(c.2-a.2))):=lU (eU i.1 e.1) (eU f.2 e.2);have j:IV .mul (.int (c.1-a.1)) (.int (b.2-a.2))=some (.int ((c.1-a.1)*(b.2-a.2))):=lU (eU f.1 e.1) (eU i.2 e.2);simp? only[EW]
 simp?[m1,j];exact h
def oS{t:ZH}(a:Kf (Kx 4 t))(o:AE p)(h:Bc g ((Dg (Kx 4 t) p).map U.int) Q):JC J (d+2) 36 [uT t,.int p.1,.int p.2,.int 4] g X Q:=by
 have w:small 4:=aL #[1]
 simp? only[Cn]
 simp?;refine fc λr A C y=>?_;simp?[y];refine ba [Kc t,Kd t,Ke t] uP (λ_=>true) (λq=>uP (q.1*4,q.2*4)) (λg'=>g'=g++r) ([Kc (Kx 4 t),Kd (Kx 4 t),Ke (Kx 4 t)].map uP) rfl (λk g' e=>by rw[e,az y]) (λq B=>?_) #[3] rfl ?_
 .simp? [w]
  rintro g' rfl;simp?[w]
 .rintro g' rfl
  refine⟨by simp,?_⟩
  simp?[ah];refine bq a.pA a.pB a.pC ?_;have c:∀s:Int,s=AD (Kx 4 t)->wpS J (d+1) (Cn.body.drop 4) [some (uT t),some (.int p.1),some (.int p.2),some (.int 4),some (uP (Kc (Kx 4 t))),some (uP (Kd (Kx 4 t))),some (uP (Ke (Kx 4 t))),some (uP p),some (.int s),none,none] (g++r++[.Z5 ([Kc (Kx 4 t),Kd (Kx 4 t),Ke (Kx 4 t)].map uP)]) X λf g=>JQ f (lk λu=>Q u g):=λs hs=>by
   have ss:small s:=by rw[hs];unfold AD;split<;>exact aL #[1]
   simp![Cn,List.drop_succ_cons,OB];simp?;refine bq o a.pB a.pC ?_;simp?[ss];refine bq a.pA o a.pC ?_;simp?[ss];refine bq a.pA a.pB o ?_;simp?[ss];subst hs;have z:=(cH (gs:=r++[.Z5 ([Kc (Kx 4 t),Kd (Kx 4 t),Ke (Kx 4 t)].map uP)]) h (by simp[Dg])).2
   rw[<-XU]at z;exact z
  simp![Cn,List.drop_succ_cons,OB]at c;simp?;refine ab (λj=>?_) λj=>?_
  .have z:=c (-1) (by unfold AD;rw[Yn (by simpa using j)])
   simp?[OL]at z ⊢;exact z
  .have z:=c 1 (by unfold AD;rw[Yb (by simpa using j)])
   simp?[OL]at z ⊢;exact z
def nF:Jb .eq (uP p) (uP q) g=some (decide (p=q)):=by
 let⟨a,b⟩:=p;let⟨c,e⟩:=q;rw[nG];simp![Ap,Ai,OE,QA,Bool.decide_and,Xc]
 rfl
def mm2{m:Bool}{a b:Int}:Ce m [.int a,.int b] g=.ok (.int (best m a [b])) g:=rfl
def oy{a b:Pt}(n:AE a)(m:AE b)(l:AE p)(h:Q (.bl (Bq a b p)) g):JC J (d+2) 37 [uP a,uP b,uP p] g X Q:=by
 unfold Bq at h;simp? only[EM]
 simp?[↓nF];refine ab (λk=>?_) λk=>?_
 .rw [k]at h
  simp?;exact h
 rw[k]at h;simp?[↓nF];refine ab (λj=>?_) λj=>?_
 .rw [j]at h
  simp?;exact h
 rw[j]at h;simp?;refine bq n m l ?_;simp?;refine ab (λi=>?_) λi=>?_
 .rw [i]at h
  simp?;exact h
 rw[i]at h;simp?[mm2];refine ab (λf=>?_) λf=>?_
 .rw [f]at h
  simp?;exact h
 rw[f]at h;simp?[mm2];refine ab (λe=>?_) λe=>?_
 .rw [e]at h
  simp?;exact h
 rw[e]at h;simp?[mm2];refine ab (λc=>?_) λc=>?_
 .rw [c]at h
  simp?[mm2];exact h
 rw[c]at h;simp?;exact h
def fe{a b:Pt}{Z6:List Pt}(ha : -100<=a.1/\a.1<=100 /\ -100<=a.2/\a.2<=100)(hb : -100<=b.1/\b.1<=100 /\ -100<=b.2/\b.2<=100)(q:SetAt g n Z6)(r:∀p∈Z6,Bq a b p=false)(h:Q (.bl true) g):JC J (d+3) 38 [uP a,uP b,.ref n] g X Q:=by
 have s:(-100<=best true a.1 [b.1]/\best true a.1 [b.1]<=100)/\(-100<=best false a.1 [b.1]/\best false a.1 [b.1]<=100)/\(-100<=best true a.2 [b.2]/\best true a.2 [b.2]<=100)/\(-100<=best false a.2 [b.2]/\best false a.2 [b.2]<=100):=by
  simp![best,US,PN,V6,Xh,Vn];refine⟨?_,?_,?_,?_⟩<;>split<;>omega
 have na:AE a:=by unfold AE AN;omega
 have nb:AE b:=by unfold AE AN;omega
 have o:Ak (best true a.1 [b.1])=true:=aM () ()
 have m:Ak (best false a.1 [b.1]+1)=true:=aM () ()
 have l:Ak (best true a.2 [b.2])=true:=aM () ()
 have j:Ak (best false a.2 [b.2]+1)=true:=aM () ()
 simp? only[EI]
 simp?[mm2,o,m];refine be ((Bs (best true a.1 [b.1]) (best false a.1 [b.1]+1)).map U.int) (λk Y g'=>g'=g /\∃Kh o2,Y=[some (uP a),some (uP b),some (.ref n),Kh,o2]) (λk Y g' _=>jl) ⟨rfl,_,_,rfl⟩ (λk u Y g' hk c=>?_) (λY g' c=>?_)
 .obtain ⟨rfl,Kh,o2,rfl⟩:=c
  simp![Wy,X7]at hk;let⟨x,i,rfl⟩:=hk;have i:=dH.mp (W8 i);simp?[mm2,l,j];refine be ((Bs (best true a.2 [b.2]) (best false a.2 [b.2]+1)).map U.int) (λk Y g2=>g2=g' /\∃o2,Y=[some (uP a),some (uP b),some (.ref n),some (.int x),o2]) (λk Y g2 _=>jl) ⟨rfl,_,rfl⟩ (λk u Y g2 hk c=>?_) (λY g2 c=>?_)
  .obtain ⟨rfl,o2,rfl⟩:=c
   simp![Wy,X7]at hk;let⟨y,f,rfl⟩:=hk;have f:=dH.mp (W8 f);simp?[↓iq (p:=(x,y)) q];refine ab (λe=>?_) λe=>?_
   .simp?
    refine oy (p:=(x,y)) na nb (by unfold AE AN;simp![];omega) ?_
    rw[r _ (He e)];simp?;exact⟨_,rfl⟩
   .simp?
    exact⟨_,rfl⟩
  .obtain ⟨rfl,o2,rfl⟩:=c
   simp?;exact⟨_,_,rfl⟩
 .obtain ⟨rfl,Kh,o2,rfl⟩:=c
  simp?;exact h
def KpD(m:Nat)(g g':G):Prop:=g.length<=g'.length /\∀k o,k≠m->g[k]?=some o->g'[k]?=some o
def KpD.old{a:G}(h:KpD m g g')(o:Old g' a):KpD m g a:=⟨G6 h.1 o.len,λk x hk e=>o.get (h.2 k x hk e)⟩
def KpD.set{m:Nat}{g g':G}{x:Z9}(h:KpD m g g'):KpD m g (g'.set m x):=⟨by rw[QD];exact h.1,λk y hk e=>aw (Ne.symm hk) (h.2 k y hk e)⟩
def KpD.YX(h:KpD m g g')(e:3<=m)(b:Bag g):Bag g':=by
 let⟨xs,a,s,d,c⟩:=b;exact⟨xs,a,s,h.2 _ _ () d,h.2 _ _ () c⟩
def law_ok(ns:List Int):JC J (d+12) 39 [.Zx (ns.map U.int)] [] X λu _=>u=.bl true:=by
 simp? only[FC]
 simp?;refine qo ns λzs=>?_;have hb:Bag [.Z5 (zs.map U.int),.Z5 (zs.map U.int),Bz 1 0 7]:=⟨zs,0,7,rfl,rfl⟩;revert hb;generalize([.Z5 (zs.map U.int),.Z5 (zs.map U.int),Bz 1 0 7]:G)=g0;intro hb;simp?;refine oP hb λP g1 f f1=>?_;have a:=vR f;have f:P∈Ah:=f;simp?;refine oW f a f1.YX λg2 m l f2 lm e2 hc hC hl=>?_;have h1:=f1.YX.len;simp?;refine oN f2.YX e2 (by lia) (by lia) λV m3 l3 f3 lm3 e3 T8=>?_
 have c3:Cuts P l3:=λp g=>hc p (T8.mem_iff.mp g);have C3:Clo P l3:=λp g q hq=>T8.mem_iff.mpr (hC p (T8.mem_iff.mp g) q hq);have hS:∀p,p∈Kn l3↔p∈l:=λp=>aR.trans T8.mem_iff;have cS:Cuts P (Kn l3):=c3.Wk;have CS:Clo P (Kn l3):=λp g q hq=>aR.mpr (C3 p (aR.mp g) q hq);have h3:=f3.YX.len;have e3s:=f3.get _ _ (by lia) e2
 simp?;refine ou f a e3 (by rw[T8.length_eq];lia) c3 C3 h3 λT o4 hm4=>?_
 have e4:=o4.get e3s;generalize Kn l3=Z6 at *;let⟨k,Y7,Zg,Yy⟩:=id hm4;simp?[AH,ai Y7];refine ff f a (hm4.old Old.app) cS λgs n hn en=>?_;simp?[en];have lg4:V.length<T.length:=(Yj.mp Y7).1;have kg4:k<T.length:=by rcases Zg with z|z<;>exact(Yj.mp z).1
 have b4:Bag T:=(o4.fr f3.YX).YX;have M:∀t∈Ku P Z6,Kf t:=λt y=>ua (pF a (dS y));have hlm:=sJ (Z6:=Z6) a;have h3g:3<=T.length:=b4.len;obtain⟨ds,Xf⟩:∃ds,ds=T.length:=⟨_,rfl⟩;obtain⟨N,E⟩:∃N,N=T++[Z9.ZF []]++gs:=⟨_,rfl⟩;have eD:N[ds]?=some (.ZF (DS [])):=by rw[E,Xf];exact ai ah
 have oA:Old T N:=by rw[E];exact Old.app.more
 rw[<-E]at en ⊢;have hn:ds<n:=by rw[Xf];rw[YB,Xb,List.length_nil]at hn;lia
 rw[<-Xf];have lD:ds<N.length:=(Yj.mp eD).1;refine be ((Ku P Z6).map uT) (λj Y g'=>KpD ds N g' /\∃(ks:List Pt) (Z W U2 U1 I:Option U),g'[ds]?=some (.ZF (DS ks))/\ks.length<=3*j/\ks.Nodup/\(∀p,p∈ks ↔ ∃x∈(Ku P Z6).take j,p∈Kv x)/\Y=[some (.Zx (ns.map U.int)),some (.ref 2),some (Zj P),some (.ref m),some (.ref V.length),some (.ref ds),some (.int (((Ku P Z6).take j).map AW).sum),some (.bl true),Z,W,U2,U1,I,none,none,none,none]) (λj Y g' c=>az (c.1.2 _ _ (by lia) en)) ⟨⟨G8 _,λ_ _ _ e=>e⟩,[],_,_,_,_,_,eD,G8 _,.nil,λp=>by simp,rfl⟩ (λj u Y g' hj c=>?_) (λY g' c=>?_)
 .obtain ⟨B,ks,Z,W,U2,U1,I,ed,lk,nd,hm,rfl⟩:=c
  simp![Wy,X7]at hj;let⟨t,y,rfl⟩:=hj;have T7:=W8 y;have hjl:j<(Ku P Z6).length:=(Yj.mp y).1;have L:=M t T7;simp?;refine fc λVs n1 YL e1=>?_;simp?[e1];refine bq L.pA L.pB L.pC ?_;simp?;obtain⟨A,D⟩:∃A,A=g'++Vs:=⟨_,rfl⟩;rw[<-D];have kB:KpD ds N (A++[Z9.Z5 ((Kv t).map uP)]):=B.old (by rw[D];exact Old.app.more)
  have edB:(A++[Z9.Z5 ((Kv t).map uP)])[ds]?=some (.ZF (DS ks)):=by rw[D];exact ai (ai ed)
  have eL:(A++[Z9.Z5 ((Kv t).map uP)])[A.length]?=some (.Z5 ((Kv t).map uP)):=ah;have lB:ds<A.length:=by have:=B.1;rw[D,YB];lia
  simp?[show(A++[Z9.Z5 [uP (Kc t),uP (Kd t),uP (Ke t)]])[A.length]?=some (.Z5 ((Kv t).map uP))from eL];refine be ((Kv t).map uP) (λi Y g2=>KpD ds N g2/\g2[A.length]?=some (.Z5 ((Kv t).map uP)) /\∃(K:List Pt) (I:Option U),g2[ds]?=some (.ZF (DS K))/\K.length<=3*j+i/\K.Nodup/\(∀p,p∈K↔p∈ks\/p∈(Kv t).take i)/\Y=[some (.Zx (ns.map U.int)),some (.ref 2),some (Zj P),some (.ref m),some (.ref V.length),some (.ref ds),some (.int ((((Ku P Z6).take j).map AW).sum+AW t)),some (.bl true),some (uT t),some (uP (Kc t)),some (uP (Kd t)),some (uP (Ke t)),I,none,none,none,none]) (λi Y g2 c=>az c.2.1) ⟨kB,eL,ks,_,edB,lk,nd,λp=>by simp,rfl⟩ (λi u Y g2 hi c=>?_) (λY g2 c=>?_)
  .obtain ⟨Q,eL2,K,I,H,lk2,Ww,YE,rfl⟩:=c
   simp![Wy,X7]at hi;let⟨p,g,rfl⟩:=hi;have hi3:i<3:=(Yj.mp g).1;have sb:∀Y,subAt (.ref ds) (uP p) (.bl true) Y g2=.ok (.nx Y) (g2.set ds (.ZF (DS (Kq K p)))):=λY=>by
    rw[jo H hJ (by unfold DS Kg;rw[Zd];lia)]
    rw[show AZ (p.1,p.2)=AZ p from rfl,gH]
   simp?[sb];refine⟨Q.set,aw (by lia) eL2,Kq K p,_,aB H,?_,gZ Ww,λq=>?_,rfl⟩
   .unfold Kq;split
    .lia
    .rw [YB,Xb,List.length_nil];lia
   .rw [bG,YE,Qn,g];simp[or_comm,or_assoc,or_left_comm]
  .obtain ⟨Q,eL2,K,I,H,lk2,Ww,YE,rfl⟩:=c
   simp?;have c3':((Kv t).map uP).length=3:=rfl;rw[c3']at lk2 YE;refine⟨Q,K,some (uT t),some (uP (Kc t)),some (uP (Kd t)),some (uP (Ke t)),I,H,by lia,Ww,λp=>?_,?_⟩
   .rw [YE,hm,show(Kv t).take 3=Kv t from rfl,Qn,y]
    simp![Option.toList_some,Wu,WC];constructor
    .rintro (⟨x,hx,z⟩|z)
     .exact ⟨x,.inl hx,z⟩
     .exact ⟨t,.inr rfl,z⟩
    .rintro ⟨x,hx|rfl,z⟩
     .exact .inl ⟨x,hx,z⟩
     .exact .inr z
   .rw [Qn,y];simp
 .obtain ⟨B,ks,Z,W,U2,U1,I,ed,lk,nd,hm,rfl⟩:=c
  rw[Zd]at lk hm;simp![Zd,Q9]at hm ⊢;rw[sh f a];have hk3':V.length≠ds:=by lia
  have s1:g'[V.length]?=some (.ins 220000973 [(232289904,Zj P),(31096353005,.ref k)]):=B.2 _ _ hk3' (oA.get Y7);have mA:MeshAt g' V.length P Z6:=⟨k,s1,(oA.setAt Zg).imp (B.2 _ _ (by lia)) (B.2 _ _ ()),Yy⟩
  have bA:Bag g':=B.YX (by lia) (oA.fr b4).YX
  have eM:g'[m]?=some (.Z5 (l.map uP)):=B.2 _ _ (by have:=(Yj.mp e4).1;lia) (oA.get e4)
  have sd:SetAt g' ds ks:=.inl ed;have YU:∀p,p∈ks↔AA P p=true/\(Au P p=true\/p∈Z6):=λp=>(hm p).trans (tw f a cS CS);clear B ed hm E eD oA lD en;simp?[s1];refine ff f a mA cS λgs5 n5 hn5 e5=>?_;simp?[e5];obtain⟨gC,R⟩:∃gC,gC=g'++gs5:=⟨_,rfl⟩;have oC:Old g' gC:=by rw[R];exact Old.app
  rw[<-R]at e5 ⊢;refine be ((Ku P Z6).map uT) (λj Y g2=>Old gC g2 /\∃(Z W U2 U1:Option U),Y=[some (.Zx (ns.map U.int)),some (.ref 2),some (Zj P),some (.ref m),some (.ref V.length),some (.ref ds),some (.int (2*P.w*P.d*P.s*P.s)),some (.bl true),Z,W,U2,U1,I,none,none,none,none]) (λj Y g2 c=>az (c.1.get e5)) ⟨Old.refl,_,_,_,_,rfl⟩ (λj u Y g2 hj c=>?_) (λY g2 c=>?_)
  .obtain ⟨og,Z,W,U2,U1,rfl⟩:=c
   simp![Wy,X7]at hj;let⟨t,y,rfl⟩:=hj;have T7:=W8 y;have L:=M t T7;have og':=oC.trans og;have WG:=sO f (dS T7);have bt:∀{u v:Pt},(u,v)∈[(Kc t,Kd t),(Kd t,Ke t),(Ke t,Kc t)] ->∀p∈ks,Bq u v p=false:=λh p g=>qj f a CS T7 h ((YU p).mp g).2;let⟨n1,n2,n3,n4,n5',n6⟩:=id L;have pA : -100<=(Kc t).1/\(Kc t).1<=100 /\ -100<=(Kc t).2/\(Kc t).2<=100:=⟨n1.1,n1.2,n2⟩;have pB : -100<=(Kd t).1/\(Kd t).1<=100 /\ -100<=(Kd t).2/\(Kd t).2<=100:=⟨n3.1,n3.2,n4⟩;have pC : -100<=(Ke t).1/\(Ke t).1<=100 /\ -100<=(Ke t).2/\(Ke t).2<=100:=⟨n5'.1,n5'.2,n6⟩;simp?;refine fc λVs n1 YL e1=>?_;have O:SetAt (g2++Vs) ds ks:=(og'.setAt sd).app;simp?[e1];refine bq L.pA L.pB L.pC ?_;simp?[Vu WG];refine fe pA pB O (bt #[3]) ?_
   simp?;refine fe pB pC O (bt #[3]) ?_
   simp?;refine fe pC pA O (bt #[3]) ?_
   simp?;exact⟨og.more,_,_,_,_,rfl⟩
  let⟨og,o8',o9',o10',o11',rfl⟩:=c;have U0:=oC.trans og;have sw:=a.sw;have sd':=a.sd;have ss:=a.ss;have ws:=a.ws;have dd:=a.ds;have bC:Bag g2:=(U0.fr bA).YX;have sp2:=U0.setAt sd;have s2:=U0.get s1;have mB:=mA.old U0;have eM2:=U0.get eM;clear oC og U0 e5 R sd s1 mA eM;simp?[sw,sd',ss];refine aP bC (by lia) (by lia) λr g5 r0 r1 f5=>?_
  have sr:small r:=j4 (by lia) (by lia)
  simp?[sr,ss];refine aP f5.YX (by lia) (by lia) λr' g6 r0' r1' f6=>?_
  have sr':small r':=j4 (by lia) (by lia)
  have T6:=f5.trans f6;have dN:3<=ds:=by lia
  have sp6:SetAt g6 ds ks:=sp2.imp (T6.get _ _ dN) (T6.get _ _ dN);have s6:=T6.get _ _ h3 s2;have m6:=mB.fr T6 h3;have eM6:=T6.get _ _ (by lia) eM2
  simp?[sr',s6];refine ff f a m6 cS λgs7 n7 hn7 e7=>?_;simp?[e7];refine ba (Ku P Z6) uT (λt=>AF t (4*r+1,4*r'+2)) uT (λS=>Old (g6++gs7) S) (((Ku P Z6).filter λt=>AF t (4*r+1,4*r'+2)).map uT) rfl (λk S o=>az (o.get e7)) (λt y=>?_) (by lia) Old.refl ?_
  .simp?
   intro S o7;refine oS (t:=t) (p:=(4*r+1,4*r'+2)) (ad2 f a (dS y)) ?_ λgs8 n8 hn8 e8=>?_
   .unfold AE AN;simp![];lia
   have li:A9 [.ref n8] (S++gs8)=some (Dg (Kx 4 t) (4*r+1,4*r'+2)):=by
    simp![A9,e8];exact iW _
   simp![Dg]at li;simp?[Ce,intsOf,li];have e9:AF t (4*r+1,4*r'+2)=decide (0<best true (AD (Kx 4 t)*Kb (4*r+1,4*r'+2) (Kd (Kx 4 t)) (Ke (Kx 4 t))) [AD (Kx 4 t)*Kb (Kc (Kx 4 t)) (4*r+1,4*r'+2) (Ke (Kx 4 t)),AD (Kx 4 t)*Kb (Kc (Kx 4 t)) (Kd (Kx 4 t)) (4*r+1,4*r'+2)]):=rfl;rw[<-e9];refine ab (λC=>?_) λC=>?_
   .simp? [C]
    exact o7.more
   .simp? [C]
    exact o7.more
  intro S o7;have o67:Old g6 S:=Old.app.trans o7;have m1:=tS (Z6:=Z6) f a ⟨r0,r1⟩ ⟨r0',r1'⟩;have fl:=Rt (λt=>AF t (4*r+1,4*r'+2)) (Ku P Z6);refine⟨by rw[Zd];lia,?_⟩
  have eM8:=(o67.more (gs:=[Z9.Z5 (((Ku P Z6).filter λt=>AF t (4*r+1,4*r'+2)).map uT)])).get eM6;have sp8:=(o67.more (gs:=[Z9.Z5 (((Ku P Z6).filter λt=>AF t (4*r+1,4*r'+2)).map uT)])).setAt sp6;simp?[ah,Zd,m1];generalize S++[Z9.Z5 (((Ku P Z6).filter λt=>AF t (4*r+1,4*r'+2)).map uT)]=g8 at *;refine iz a λF n9 hn9 e9=>?_;simp?[e9];have pl:=fk a;refine ba (AI P) uP (λp=>Au P p||decide (p∈l)) uP (λg9=>g9=g8++F) (((AI P).filter λp=>Au P p||decide (p∈l)).map uP) rfl (λk g9 e=>by rw[e];exact az e9) (λp g=>?_) (by lia) rfl ?_
  .simp?
   rintro g9 rfl;refine fh a ?_;simp?;refine ab (λC=>?_) λC=>?_
   .simp? [C,Bool.true_or]
   .simp? [C,ai eM8,nK,Qz]
    refine ab (λk2=>?_) λk2=>?_
    .simp? [C,k2,Qz]
    .simp? [C,k2,Qz]
  rintro g9 rfl;have fl2:=Rt (λp=>Au P p||decide (p∈l)) (AI P);refine⟨by rw[Zd];lia,?_⟩
  have due:Kn ks=(AI P).filter λp=>Au P p||decide (p∈l):=by
   rw[<-mr ((oz P).filter λp=>Au P p||decide (p∈l))];refine fU λp=>?_;rw[YU,Rv,ft,UC,XM,hS]
  have sp9:SetAt (g8++F++[Z9.Z5 (((AI P).filter λp=>Au P p||decide (p∈l)).map uP)]) ds ks:=sp8.app.app;rw[<-due]at sp9 ⊢;simp?[↓l9 sp9 nd (by lia),show decide (((1:Nat):Int)=1)=true from rfl]
  have e10:(g8++F++[Z9.Z5 ((Kn ks).map uP)])[(g8++F).length]?=some (.Z5 ((Kn ks).map uP)):=ah;simp?[↓ade ah (ai e10),qs_P]
end
def run(ns:List Int)(h:ns.length<=63):∃fu g',Aa J fu 40 39 [.Zx (ns.map U.int)] []=.ok (.bl true) g':=by
 let⟨fu,u,g',e,q⟩:=vF (law_ok (d:=28) (X:=λ_ _ _=>False) ns);subst q;exact⟨fu,g',e⟩
end
end ZE
open PySem PySem.W PyProof.Rows
theorem PySem.Challenge.cw_braemantle_k29_whole_no_crack_holds : PySem.Challenge.rw_braemantle_k29_whole_no_crack.Holds := by
 refine PI.aaP (l:=PySem.Challenge.rw_braemantle_k29_whole_no_crack) (T:=ZE.T) (ms:=ZE.ms) (is:=ZE.Bf) (J:=ZE.J) (loose:=ZE.loose) (d:=40) (i:=39) (N:=20000) (x:="_law_script") (by kernel_rfl) ZE.all (by kernel_rfl) (by kernel_rfl) (by kernel_rfl) (by kernel_rfl) (by kernel_rfl) ⟨rfl,rfl,rfl,rfl,rfl,by decide +kernel⟩ ?hw rfl ⟨rfl,by decide,by decide,rfl⟩ rfl rfl rfl rfl rfl ZE.run
 case hw=>w_witness2
