import PyProof.Rows.All
import KE.KDictOf
import KE.KDictSum
import KE.KEqDict
import KE.KFromBytes
import KE.KIsAll
import KE.KRevSl
import KE.KSortTup
import KE.KUnpack
import PySem.Challenge.RW_braemantle_k34_good_deeds
set_option Elab.async false
set_option linter.all false
set_option maxRecDepth 100000
set_option maxHeartbeats 0
set_option hygiene false
set_option bootstrap.genMatcherCode false
set_option genSizeOf false
set_option genSizeOfSpec false
set_option compiler.extract_closed false
set_option backward.eqns.nonrecursive false
abbrev K0(p q:Prop):Prop:=p->q
abbrev KA(a:Prop)(r:Prop->Prop)(q:Prop):Prop:=a->r q
abbrev KE{α:Sort _}(r:α->Prop->Prop)(q:Prop):Prop:=∀x,r x q
class Cur(n:Nat)(p:Prop)(r:outParam (Prop->Prop)):Prop where c:∀{q:Prop},r q->p->q
instance{p:Prop}:Cur 0 p (K0 p):=⟨id⟩
instance{n:Nat}{a b:Prop}{r:Prop->Prop}[i:Cur n b r]:Cur (n+1) (a∧b) (KA a r):=⟨fun f h=>i.c (f h.1) h.2⟩
instance{n:Nat}{α:Sort _}{p:α->Prop}{r:α->Prop->Prop}[i:∀x,Cur n (p x) (r x)]:Cur (n+1) (∃x,p x) (KE r):=⟨fun f ⟨x,h⟩=>(i x).c (f x) h⟩
open Lean in
def r_p:Nat->Syntax->MacroM (TSyntax `rcasesPat)
 |0,_=>Macro.throwUnsupported
 |n+1,x=>do
  if x.isOfKind `Lean.Parser.Term.anonymousCtor then
   let q<-x[1].getSepArgs.mapM fun y=>do let z<-r_p n y;`(Parser.Tactic.rcasesPatLo|$z:rcasesPat)
   `(rcasesPat|⟨$q,*⟩)
  else if x.isIdent then `(rcasesPat|$(⟨x⟩):ident) else if x.isOfKind `Lean.Parser.Term.hole then `(rcasesPat|_) else Macro.throwUnsupported
open Lean in
local macro_rules|`(tactic|let $p:term:=$e)=>do
 if p.raw.isIdent then Macro.throwUnsupported
 let q<-r_p 9 p;`(tactic|obtain $q:rcasesPat:=$e)
open Lean in
def r_k(q:Syntax):Option (NumLit×Array (TSyntax `rintroPat)):=
 let a:=q[1].getSepArgs
 if q.isOfKind `Lean.Parser.Tactic.rcasesPat.tuple&&a.size>1&&a.all (fun x=>x[0][0].getArgs.size==1&&x[1].getArgs.isEmpty) then some (Syntax.mkNumLit (toString (a.size-1)),a.map fun x=>⟨mkNode `Lean.Parser.Tactic.rintroPat.one #[x[0][0][0]]⟩) else none
open Lean in
local macro_rules|`(tactic|rintro $ps*)=>do
 let o<-ps.mapM fun p=>do
  let q:=p.raw[0]
  if q.isOfKind `Lean.Parser.Tactic.rcasesPat.one&&q[0].getId != `rfl then return <-`(tactic|intro $(⟨q[0]⟩):ident)
  let r<-`(tactic|(intro h_;rcases h_ with $(⟨q⟩):rcasesPat))
  match r_k q with
  |some (n,k)=>`(tactic|first|(refine Cur.c (n:=$n) ?_;rintro $k*)|$r:tactic)
  |none=>if p.raw.isOfKind `Lean.Parser.Tactic.rintroPat.one then return r else Macro.throwUnsupported
 `(tactic|($[$o];*))
open Lean in
local macro_rules|`(tactic|obtain $q:rcasesPatMed:=$e:term)=>do
 let q:=q.raw[0][0]
 let r<-`(tactic|rcases $e:term with $(⟨q⟩):rcasesPat)
 match r_k q with
 |some (n,k)=>do
  let c<-if e.raw.isIdent then `(tactic|clear $(⟨e⟩):ident) else `(tactic|skip)
  `(tactic|first|(refine Cur.c (n:=$n) ?_ $e;$c:tactic;rintro $k*)|$r:tactic)
 |none=>return r
local macro_rules|`(tactic|simp! [$xs,*] $[$l:location]?)=>`(tactic|simp only [$xs,*] $[$l]?)
local macro_rules | `(tactic| simp? [$xs,*] $[$l:location]?) => do
  let a ← ("kX kB j6 dy fc nD cZ lO mX lx l9 nA nz gj gi gL il gx gC nF k_E nB nv mf lI gH gz gv mv nG hU gf kZ jn kq kD gT jD lV mP nH lK jv mZ jr my kO lG jz lW jc jZ iF kP kA mH jX km jd m8 gM iH lB gG j3 j5 lT kj iN j9 jh ko jP iY ka jF iU kJ iS kQ kI ly ki iG jo lA iy jV jL la lZ ni iJ lS nj gD lH lP lL kU ik mr jO jm iq i0 gm iO gA lN gR kE gI kN jY gW gy iP iQ jU jG hJ gF hV i6 lR jW gr jT kK gQ gJ hX iD kR jK mU jl jR iM jk jx je js ie lU j0 mz iT ju iE iC iL jq gK kH jQ nh jC ng l0 lM lE lX lj j2 iK jf ic jN iV jJ jw hY jB kc jg iz kL ig jt kr lD lJ kY mQ l7 m9 j1 lr mV lg gh lz nC kT lY lQ lC ls iR mR jb ij jy nq m7 mi ma k8 j7 jS kG k7 ja ky me mq k9 mD lF mG mw".splitOn " ").toArray.mapM λs => `(Lean.Parser.Tactic.simpLemma| ↓$(Lean.mkIdent s.toName):ident)
  let b ← ("perm pick AO Option.bind_some BD BB A8 Ce List.lookup_cons List.lookup_nil Nat.reduceBEq List.contains_cons List.contains_nil BE List.getElem?_nil List.getElem?_cons_zero List.getElem?_cons_succ List.length_cons List.length_nil List.set_cons_zero List.set_cons_succ List.map_cons List.map_nil List.replicate_succ List.replicate_zero List.cons_append List.nil_append Nat.zero_add Nat.reduceAdd Nat.reduceSub Nat.reduceLT Nat.reduceLeDiff Nat.reduceEqDiff Nat.lt_add_left_iff_pos Jn Ah bindL if_true if_false ite_true ite_false and_true true_and Option.getD_some eX eU t7 rq qV rR u5 uv uD vb sM qm uW vw uj cin vk vg r8 Bool.or_false Bool.or_true Bool.true_or Bool.false_or clt cle cgt cge Gp Jd items B8 Br Jk AE lift Jj C5 DK Cr alloc AF fY Ag uy va uZ uA uS uY AI CB Option.map_some Int.reduceLT Int.reduceLE Int.reduceNeg Int.reduceEq decide_true decide_false Bool.not_true Bool.not_false Bool.and_true Bool.true_and Bool.and_self decide_eq_true_eq eq_self".splitOn " ").toArray.mapM λs => `(Lean.Parser.Tactic.simpLemma| $(Lean.mkIdent s.toName):ident)
  let a := a ++ b
  `(tactic| simp only [$[$a:simpLemma],*, $xs,*] $[$l]?)
local macro_rules|`(tactic|simp? only [$x:ident])=>`(tactic|(refine ag (by rfl) (by rfl) ?_;simp only [$x:ident]))|`(tactic|simp?)=>`(tactic|simp? [eq_self])
open Lean in
local macro_rules|`($m:declModifiers def $i:declId $s:optDeclSig $v:declVal)=>do
 unless m.raw.getArgs.all (·.isNone) do Macro.throwUnsupported
 let r<-(if (match i.raw[0].getId with|.str _ n=>(n.toList.headD 'A').isLower&&!("dig place kwOk isStar strKeys ownOf freeOf mkF endsF lastOf fns ms loose upd frs gNil rNe rAdd start sIx ixN atI rPop putK items intsOf keyOf dput dfold qs neT hkL best insI sortI tupI bindL pick perm subAt rIxD post tyName allFrom holds wp wpS hk ob plainT tupP small stride ltP dT mid l1".splitOn ).contains n|_=>false) then let z:TSyntax `Lean.Parser.Command.declSig:=⟨mkNode `Lean.Parser.Command.declSig #[s.raw[0],s.raw[1][0]]⟩;`(command|theorem $i:declId $z:declSig $v:declVal) else `(command|noncomputable def $i:declId $s:optDeclSig $v:declVal));return r.raw.rewriteBottomUp (·.setInfo .none)
open Lean in
local macro_rules|`($m:declModifiers abbrev $i:declId $s:optDeclSig $v:declVal)=>do
 unless m.raw.getArgs.all (·.isNone) do Macro.throwUnsupported
 `(command|noncomputable abbrev $i:declId $s:optDeclSig $v:declVal)
open Lean in
local macro_rules|`(fun $xs* => $b)=>do
 let rec h:Nat->Syntax->Bool
  |0,_=>true
  |n+1,x=>x.isOfKind `Lean.Parser.Term.syntheticHole||x.getArgs.any (h n)
 if xs.all (!·.raw.isOfKind `Lean.Parser.Term.anonymousCtor)||h 99 b then Macro.throwUnsupported
 let q<-xs.mapM fun x=>do let z<-r_p 9 x;`(rintroPat|$z:rcasesPat)
 `(by rintro $q*;exact $b)
open Lean in
local macro_rules|`(#[$n:num])=>match n.getNat with|0=>`(PySem.Challenge.rw_braemantle_k34_good_deeds.prog.main.body)|1=>`(by decide)|2=>`(by rfl)|3=>`(by simp)|_=>Macro.throwUnsupported
local macro_rules|`(())=>`(by omega)
def b_F{P:Prop}(h:false=true):P:=absurd h Bool.false_ne_true
def n_F{α:Type}{a:α}{P:Prop}(h:(none:Option α)=some a):P:=nomatch h
local macro_rules|`(tactic|cases $h:ident)=>`(tactic|first|exact n_F $h|exact b_F $h|cases ($h))
def Yh:=@List.getElem?_eq_some_iff
def Yj:=@List.length_map
def Yk:=@Bool.and_eq_true
def Ym:=@Option.map_eq_some_iff
def Yp:=@Iff.rfl
def YG:=@List.mem_cons
def YJ:=@Option.some.injEq
def Y0:=@List.getElem?_map
def Y3:=@List.map_cons
def Xb:=@List.getElem?_set_ne
def Xf:=@List.getElem?_append_right
def Xg:=@if_pos
def Xh:=@decide_eq_true_eq
def Xp:=@if_neg
def Xs:=@List.length_append
def Xy:=@List.not_mem_nil
def Xz:=@List.size_toArray
def XD:=@List.getElem?_append_left
def XG:=@List.mem_of_getElem?
def XH:=@List.all_eq_true
def XI:=@List.length_cons
def XM:=@List.mem_singleton
def XN:=@List.lookup_cons
def XZ:=@Bool.false_eq_true
def X0:=@List.append_assoc
def X9:=@Option.some.inj
def Wa:=@List.mem_map
def Wj:=@decide_eq_false
def Wl:=@List.nodup_cons
def Wo:=@Option.map_some
def Wq:=@List.any_cons
def Wr:=@Option.bind_eq_some_iff
def Wt:=@List.mem_cons_self
def Wv:=@beq_iff_eq
def Ww:=@List.getElem?_eq_getElem
def WL:=@Bool.not_eq_true'
def WQ:=@List.mem_append_right
def WV:=@List.mem_iff_getElem?
def W5:=@List.find?_cons
def W6:=@List.getElem?_eq_none_iff
def Va:=@Array.length_toList
def Vj:=@PySem.mem_of_lookup
def Vk:=@Bool.or_eq_false_iff
def Vl:=@List.length_take
def Vm:=@List.mem_append
def Vo:=@List.foldl_cons
def Vu:=@List.filterMap_cons
def Vy:=@if_true
def Vz:=@List.mem_flatMap
def VC:=@if_false
def VD:=@or_false
def VJ:=@Nat.le_succ
def VM:=@Nat.zero_add
def VQ:=@List.take_succ
def VU:=@List.take_length
def V0:=@PySem.wpAny_newObj_type
def V2:=@congrArg
def Ua:=@List.getElem?_set_self
def Ue:=@beq_eq_false_iff_ne
def Um:=@List.length_singleton
def Up:=@PySem.wpAny_standAt
def Ur:=@List.length_nil
def Ut:=@Bool.or_eq_true
def UK:=@Option.bind_some
def US:=@PyProof.Rows.callWith_type1
def UW:=@List.map_map
def U0:=@List.take_of_length_le
def U9:=@List.flatMap_cons
def U_:=@List.contains_iff_mem
def Ta:=@Nat.lt_irrefl
def Tb:=@PySem.sizeLine_eq
def Tc:=@PySem.wpAny_typeNameOfWhole_keyiter
def Tf:=@Nat.mul_le_mul_right
def Ti:=@PySem.wpAny_truthy_bool
def Tu:=@List.reverse_cons
def Tv:=@List.getElem?_cons_succ
def TX:=@PySem.F.slot_dict_keyiterator_next
def T3:=@PySem.wpAny_holding
def T8:=@List.isEmpty_iff
def Sa:=@List.getElem_mem
def Sb:=@decide_eq_true
def Sd:=@PySem.wpAny_passesOwn
def Se:=@List.append_nil
def Sf:=@PySem.wpAny_dictEntries
def Sg:=@Option.isSome_iff_exists
def Sh:=@PySem.wpAny_typeNameOf_keyiter
def Si:=@PySem.wpAny_comprehension_free
def Sj:=@Nat.lt_succ_self
def Sk:=@List.getElem?_replicate
def Sl:=@beq_self_eq_true
def Sm:=@List.cons_append
def Sn:=@List.foldl_nil
def So:=@Nat.ne_of_gt
def Sq:=@List.mem_filterMap
def Sr:=@PySem.wpAny_Call_Name_kw
def Ss:=@PySem.W.cellsFrom_some
def Sv:=@PySem.tupleKind_room_in1
def Sw:=@Option.map_eq_none_iff
def Sx:=@List.nil_append
def Sy:=@List.map_append
def Sz:=@PySem.W.kia_one
def SA:=@List.length_replicate
def SD:=@List.length_filter_le
def SE:=@PySem.Heap.size_push
def SF:=@PySem.codeAny_mono
def SG:=@List.map_nil
def SH:=@List.isEmpty_nil
def SI:=@List.drop_eq_getElem_cons
def SJ:=@List.map_congr_left
def SK:=@PySem.Paired.length
def SM:=@List.all_cons
def SN:=@List.forIn_cons
def SO:=@List.zip_cons_cons
def SQ:=@Nat.zero_le
def SR:=@PySem.wpAny_callSpecial?_slot
def SS:=@PySem.F.plainAttrs_list
def SU:=@Nat.add_sub_cancel_left
def SV:=@List.mem_range
def SW:=@Nat.le_of_lt
def SX:=@PySem.Calls.callWith_builtin
def SY:=@List.filter_eq_nil_iff
def S0:=@List.pairwise_map
def S1:=@List.drop_eq_nil_of_le
def S2:=@Nat.succ_mul
def S3:=@PyProof.Rows.slot_tuple_getitem
def S4:=@PySem.Heap.get?_update_self
def S5:=@Array.getElem?_toList
def S6:=@PySem.F.slot_dict_get
def S7:=@List.set_append_right
def S8:=@PySem.wpAny_mono
def S9:=@List.length_drop
def S_:=@PySem.wpAny_call_entry
def Ra:=@Option.getD_none
def Rb:=@PySem.F.args_dict_keyiterator_next_1
def Rc:=@Bool.not_eq_true
def Rf:=@List.map_flatMap
def Rg:=@Bool.not_true
def Rh:=@Bool.true_and
def Ri:=@PySem.mem_of_lookup
def Rj:=@List.mem_append_left
def Rk:=@Array.mem_toList_iff
def Rl:=@PySem.F.entry_dict_keyiterator_next
def Rm:=@Option.ite_none_right_eq_some
def Rn:=@List.mem_filter
def Ro:=@Bool.eq_iff_iff
def Rp:=@PySem.W.plainGet_of
def Rq:=@PySem.Heap.SameBut.update
def Rr:=@List.length_reverse
def Rt:=@List.flatMap_append
def Ru:=@Int.le_trans
def Rv:=@PySem.Calls.Name_function_global
def Rw:=@PyProof.Rows.assignInOrder_cons
def Rx:=@PySem.Calls.spliced_cons
def Ry:=@not_or
def Rz:=@List.contains_cons
def RA:=@List.pairwise_cons
def RB:=@Int.emod_lt_of_pos
def RE:=@Nat.lt_of_le_of_lt
def RG:=@Option.isNone_iff_eq_none
def RJ:=@Sum.inr.inj
def RL:=@PySem.wpAny_assign_Name
def RM:=@Option.isSome_map
def RN:=@Nat.le_of_succ_le
def RP:=@Nat.lt_succ_of_lt
def RQ:=@List.nodup_append
def RU:=@Int.le_refl
def RW:=@Function.comp_def
def RX:=@List.foldl_append
def RY:=@List.take_add
def RZ:=@PySem.F.args_dict_get_3
def R0:=@decide_eq_false_iff_not
def R4:=@Int.eq_ofNat_of_zero_le
def R5:=@PySem.F.entry_dict_get
def R6:=@List.range_succ_eq_map
def R7:=@PySem.wpAny_execs_nil
def R8:=@List.of_mem_zip
def R9:=@List.length_set
def R_:=@PySem.SeqAt.EqAt.same
def Qa:=@PySem.wpAny_dictEpoch
def Qb:=@PySem.wpAny_specialOf
def Qc:=@Int.le_antisymm
def Qd:=@List.find?_some
def Qe:=@Int.emod_nonneg
def Qf:=@Bool.false_and
def Qg:=@List.nodup_nil
def Qh:=@List.forIn_nil
def Qi:=@Bool.false_or
def Qj:=@Prod.mk.injEq
def Qk:=@Bool.and_true
def Ql:=@PySem.call_meets
def Qm:=@Nat.le_of_eq
def Qn:=@Nat.lt_trans
def Qo:=@Nat.sub_zero
def Qp:=@Nat.lt_or_ge
def Hv:=@PySem.Heap.get?_push_of_some
def Hw:=@PySem.Heap.lt_size
def Hx:=@Nat.le_trans
def Hy:=@Bool.false_ne_true
def Hz:=@Nat.le_refl
def HA:=@List.mem_cons_of_mem
def HB:=@Nat.lt_of_lt_of_le
def HC:=@Nat.ne_of_lt
def HD:=@PySem.Heap.get?_push_size
def HE:=@of_decide_eq_true
abbrev HF:=PySem.W.Frag
def ZB:=@PySem.wpAny_bind
def ZP:=@PySem.wpAny_pure
set_option bootstrap.genMatcherCode false
variable{K:HF}{ρ ZT ch fp:List PySem.Addr}{pos pos' p apos Zf:PySem.Pos}{a:PySem.Addr}{b:Bool}{e tg o:PySem.Expr}{x:PySem.Str}{P prog:PySem.Program}{w:PySem.World}{h h' base:PySem.Heap}{α β:Type}{J:List (PySem.Addr×PySem.Obj)}{s:PySem.Shared}{t' i j n m d ep x1 hN gN dN ZS ZR hc:Nat}{N ps ks:List PySem.Str}{Z8:PySem.Model}{A:PySem.Around}{ZQ gens:List PySem.Comprehension}{D:List (List Int×PySem.Addr)}{f:PySem.Value->PySem.Value->PySem.Sem PySem.Value}{st:PyProof.Rows.SortSt}{es elts ts:List PySem.Expr}{pl:PySem.Sem Bool}{κ:PyProof.Rows.SortKind}{ZY:List PySem.Value}{kw dd:List (PySem.Str×PySem.Value)}{env:PySem.Env}{mg:PySem.Str->Option PySem.Value}{fd:PySem.FuncData}{kws:List PySem.Keyword}{scope:PySem.Scope}{keys:List (Option PySem.Expr)}{a₀:Array PyProof.Rows.Keyed}{rk:PyProof.Rows.Keyed->Nat}{gc:PySem.Comprehension}{cells cl:List (PySem.Str×PySem.Addr)}{names:List (PySem.Str×PySem.NameKind)}{Zw:List Nat}{rs:List (Option (PySem.Scope×List PySem.Stmt))}{ed tr:Int}
namespace Att
end Att
namespace HT
end HT
namespace L2
end L2
namespace ZG
end ZG
namespace PI
end PI
namespace PI
noncomputable section
open PySem
noncomputable section
inductive U where
 |ZN|bl (b:Bool)|int (i:Int)|str (s:Str)|Z1 (xs:List U)|Zm (xs:List U)|ref (n:Nat)|xn (c:Nat) (fs:List U)
inductive Op where|add|sub|mul|fdiv|mod|pow
inductive Cp where|eq|ne|lt|le|gt|ge|Xe|Wi|Wh|nin
inductive Bi where|len|abs|list|mn|mx|Vh|sum|tupl|cat|sset|Vg|rpr|int
set_option genInjectivity false in
inductive Ty where|Wg|We|Vf|Ve|VI|own (c:Nat)
set_option genInjectivity false in
inductive Tg where|nm (i:Nat)|tp (is:List Nat)
set_option genInjectivity false in
inductive E where
 |L (i:Nat)|Z3 (u:U)
 |ZW (op:Op) (a b:E)|cmp (op:Cp) (a b:E)|chain (op YV:Cp) (a b c:E)
 |and (a b:E)|or (a b:E)|not (a:E)|neg (a:E)
 |Z1 (es:List E)|S (es:List E)
 |idx (a b:E)|XU (a:E) (lo hi:Option E)|rev (a:E)
 |call (f:Nat) (es:List E)
 |fld (a:E) (j:Nat) (cs:List Nat)|make (c f:Nat) (es ks:List E) (pm:List (Nat ⊕ U))|Zg (a:E) (j:Nat) (tb:List (Nat×Nat×List (Nat ⊕ U))) (es ks:List E)|Wd (c:Bool) (o:E)
 |bi (b:Bi) (es:List E)
 |YR (a:E) (t:Ty)
 |app (o v:E)|ext (o v:E)|pop (o:E)
 |YM (a:E)|Yn (a b:E)|YY (a:E)|zip (a b:E)|XT
 |comp (own:Nat) (fr:List Nat) (gs:List (Tg×E×List E)) (elt:E)
 |Wc (ks:List Str) (es:List E)|Xd (o k x:E)|pair (k v:E)|X6 (own:Nat) (fr:List Nat) (gs:List (Tg×E×List E)) (k v:E)
set_option genInjectivity false in
inductive Z5 where
 |ret (e:E)|set (t:Tg) (e:E)|par (i j:Nat) (a b:E)
 |sub (o i e:E)
 |exp (e:E)|ZE (c:E) (a b:List Z5)|VH (c:E) (b:List Z5)|for (t:Tg) (it:E) (b:List Z5)
 |never|fset (a:E) (j:Nat) (cs:List Nat) (e:E)
 |VG (b:List Z5)
def HG(u:U):Option Int:=match u with
 |.int i=>some i
 |_=>none
structure Fn where
 np:Nat
 ns:Nat
 body:List Z5
end
open PySem PySem.Spec PyProof.Rows L2
section
variable{VF:List Addr}{H H' Zd:Hp}{g:G}
def dig:Nat->Nat->List Nat
 |0,_=>[]
 |f+1,n=>if n=0 then[]else n % 128::dig f (n / 128)
def Ba:Nat:=128 ^ 64
def As(n:Nat):Str:=⟨(dig 64 n).toArray⟩
end
open PySem PySem.Spec PyProof.Rows L2 PySem.W
def Cs(names:List Str):List Str->Bool
 |[]=>true
 |k::r=>!names.contains k&&Cs (names++[k]) r
def place{a:Type}(ns c kw:List Str)(dd:List (Str×a))(O b:List a):List a:=(ns++c).filterMap λn=>(ns.zip O++(kw.zip b++dd)).lookup n
set_option genInjectivity false in
structure KF where
 ns:List Str
 ks:List Str
 dd:List (Str×U)
def Cf(F:KF)(a:Nat)(kw:List Str):List (Nat ⊕ U):=place F.ns F.ks kw (F.dd.map λp=>(p.1,.inr p.2)) ((List.range' 0 a).map .inl) ((List.range' a kw.length).map .inl)
def BX(F:KF)(b a:Nat)(kw:List Str):Bool:=decide (a<=F.ns.length)&&kw.all (λk=>F.ns.contains k||F.ks.contains k)&&Cs (F.ns.take a) kw&&(F.ns.take (F.ns.length-b)).all λn=>(F.ns.take a++kw).contains n
def AM(kws:List Keyword):List Str:=kws.filterMap (·.arg)
def kwOk(kws:List Keyword):Bool:=kws.all (·.arg.isSome)
open PySem PySem.Spec PyProof.Rows L2
section
def Fb:Expr->Bool
 |.Subscript _ (.Constant (.str _) _ _) _=>true
 |_=>false
def DL(it:Expr)(s:Z5):Z5:=match Fb it with
 |true=>.VG [s]
 |false=>s
end
set_option genInjectivity false in
structure Tab where
 M:List Str
 cs:List (Str×U)
 bt:List Str
 kf:List (Str×Nat×KF×Nat)
 cl:List (Str×Nat×Nat×KF×Nat)
 mt:List (Str×List (Nat×Nat×KF×Nat))
 fl:List (Str×List Nat)
 ow:List (Str×Nat)
 oq:List Str
def AV(N:List Str)(x:Str):Option Nat:=N.findIdx? (· == x)
def Ei:Operator->Option Op
 |.Add=>some .add|.Sub=>some .sub|.Mult=>some .mul|.FloorDiv=>some .fdiv|.Mod=>some .mod|.Pow=>some .pow|_=>none
def CN:CmpOp->Option Cp
 |.Eq=>some .eq|.NotEq=>some .ne|.Lt=>some .lt|.LtE=>some .le|.Gt=>some .gt|.GtE=>some .ge|.Is=>some .Xe|.IsNot=>some .Wi|.In=>some .Wh|.NotIn=>some .nin
def isStar:Expr->Bool
 |.Starred ..=>true
 |_=>false
def CW:Expr->Bool
 |.Set ..=>true
 |_=>false
def BM:Expr->Bool
 |.ListComp ..=>true|.SetComp ..=>true|.DictComp ..=>true|_=>false
def strKeys:List (Option Expr)->Option (List Str)
 |[]=>some []
 |some (.Constant (.str s) _ _)::r=>(strKeys r).map (s :: ·)
 |_=>none
def Cj:Expr->Bool
 |.Call _ es _ _=>es.isEmpty
 |_=>false
def BZ:Expr->Bool
 |.Tuple ..=>true|_=>false
def Cm:Expr->Bool
 |.Slice ..=>true|_=>false
def Dz(x:Str):Option Ty:=if x = "int" then some .Wg else if x = "bool" then some .We else if x = "str" then some .Vf else if x = "tuple" then some .Ve else if x = "list" then some .VI else none
def CM(x:Str):Bool:=!(x==("__debug__" : Str))&&!(x==("__classdict__" : Str))&&!(x==("__name__" : Str))
def Af{b:Type}:List (Option b)->Option (List b)
 |[]=>some []
 |none::_=>none
 |some a::r=>(Af r).map (a :: ·)
def CT:E->Bool
 |.YM _=>false|.Yn _ _=>false|.YY _=>false|.zip _ _=>false|_=>true
def BR(b:Bool)(a:Scope)(x:Str):Bool:=a.names.lookup x==some .local||(b&&a.names.lookup x==some .cell)
def BP(b:Bool)(a:Scope)(N:List Str)(x:Str):Option Nat:=if BR b a x then AV N x else none
def B1(b:Bool)(a:Scope)(N:List Str)(e:Expr):Option Nat:=match e with
 |.Name x _=>BP b a N x
 |_=>none
def Bg(b:Bool)(a:Scope)(N:List Str):Expr->Option Tg
 |.Name x _=>(BP b a N x).map .nm
 |.Tuple ts _ _=>(Af (ts.map (B1 b a N))).map .tp
 |_=>none
def HH{a:Type}(c:Bool)(x:Option a):Option a:=match c with
 |true=>x
 |false=>none
def HI(e:Expr):Option Str:=match e with
 |.Name x _=>some x
 |_=>none
def Cq(e:Expr):Option (Str×List Expr):=match e with
 |.Call f es kws _=>match kws with
  |[]=>(HI f).map λn=>(n,es)
  |_::_=>none
 |_=>none
def CF(c:Expr->Option E)(k:E->E)(b:List Expr):Option E:=match b with
 |[]=>none
 |a::b=>match b with
  |[]=>(c a).map k
  |_::_=>none
def CI(d:Expr->Option E)(k:E->E->E)(c:List Expr):Option E:=match c with
 |[]=>none
 |a::c=>match c with
  |[]=>none
  |b::c=>match c with
   |[]=>(d a).bind λa'=>(d b).map (k a')
   |_::_=>none
def AX{a:Type}(l:List a):Bool:=match l with
 |[]=>true
 |_::_=>false
def Hk(f:Expr->Option E)(a:List Expr):Option E:=match a with
 |[]=>none
 |_::r=>match AX r with
  |true=>CF f .YM a
  |false=>CI f .Yn a
def HJ(f:Expr->Option E)(e:Expr):Option E:=HH (!CW e) ((f e).bind λe'=>HH (CT e') (some e'))
def C7(T:Tab)(a:Scope)(f:Expr->Option E)(e:Expr):Option E:=match Cq e with
 |some c=>if c.1 = "range" then HH (T.bt.contains c.1&&(a.names.lookup c.1==some .globalImplicit)&&!c.2.any isStar) (Hk f c.2)else HJ f e
 |none=>HJ f e
def Cn(T:Tab)(a:Scope)(f:Expr->Option E)(b e:Expr):Option E:=match Cq e with
 |some c=>if c.1 = "enumerate" then HH (T.bt.contains c.1&&(a.names.lookup c.1==some .globalImplicit)&&!c.2.any isStar&&BZ b) (CF f .YY c.2)else if c.1 = "zip" then HH (T.bt.contains c.1&&(a.names.lookup c.1==some .globalImplicit)&&!c.2.any isStar&&BZ b) (CI f .zip c.2)else C7 T a f e
 |none=>C7 T a f e
def Be(scope a:Scope):Scope:={scope with names:=scope.names.map λ(n,k)=>if(k==.free&&a.kind==.function&&a.names.lookup n==some .cell)then(n,.cell)else(n,k)}
def GR:Expr->List Str
 |.Name x _=>[x]
 |.Tuple ts _ _=>ts.filterMap fun|.Name x _=>some x|_=>none
 |_=>[]
def ownOf(gs:List Comprehension):List Str:=(gs.map λg=>GR g.target).flatten
def freeOf(scope:Scope):List Str:=(scope.names.filter λx=>x.2==.free).map (·.1)
def DC(scope c:Scope)(a b:List Str):Bool:=
 (scope.kind==.function)&&(scope.names.all λx=>x.2 != .local||scope.names.lookup x.1==some .local)&&(scope.names.all λx=>x.2 != .cell||scope.names.lookup x.1==some .cell)&&(scope.names.all λx=>x.2 != .free||c.names.lookup x.1==some .cell)
  && (a.all λx=>scope.names.lookup x==some .local||scope.names.lookup x==some .cell)&&decide ((a++b).Nodup)&&(b.all λx=>scope.names.lookup x==some .free)
def DM(T:Tab)(a:Scope)(N:List Str)(f:Expr->Option E):List Comprehension->Option (List (Tg×E×List E))
 |[]=>some []
 |g::r=>HH (g.is_async==0) ((Bg false a N g.target).bind λt=>(Cn T a f g.target g.iter).bind λit=>(Af (g.ifs.map f)).bind λcs=>(DM T a N f r).map λr'=>(t,it,cs)::r')
def A5(f:Str):Nat:=f.cps.toList.foldr (λd n=>d+128*n) 0
def BL(f:Str):Bool:=decide (As (A5 f)=f)&&decide (A5 f<Ba)
def Cz(T:Tab)(c:Scope)(b:Expr->Option E)(f:Str)(a:List Expr)(kws:List Keyword):Option E:=HH (CM f&&!a.any isStar&&(c.names.lookup f==some .globalImplicit)&&kwOk kws)
  ((Af (a.map b)).bind λZF=>(Af (kws.map λk=>b k.value)).bind λYq=>match T.kf.lookup f with
   |some _=>none
   |none=>(T.cl.lookup f).bind λq=>HH (BX q.2.2.1 q.2.2.2 (a.length+1) (AM kws)) (some (.make q.1 q.2.1 ZF Yq (Cf q.2.2.1 (a.length+1) (AM kws)))))
def DJ(T:Tab)(b:Expr->Option E)(o':E)(m:Str)(d c:Pos)(a:List Expr)(kws:List Keyword):Option E:=HH (BL m&&!a.any isStar&&kwOk kws&&decide (a.length+kws.length+1<30)&&(d.endLine==c.line))
  ((Af (a.map b)).bind λZF=>(Af (kws.map λk=>b k.value)).bind λYq=>(T.mt.lookup m).bind λl =>
   HH (l.all (λe=>BX e.2.2.1 e.2.2.2 (a.length+1) (AM kws))) (some (.Zg o' (A5 m) (l.map λe=>(e.1,e.2.1,Cf e.2.2.1 (a.length+1) (AM kws))) ZF Yq)))
def Fz(f:Str)(n:Nat)(a:Str->Option Bi):Option Bi:=
 a f
def HK(f:Str):Option Bi:=
 if f = "len" then some .len else
 if f = "abs" then some .abs else
 if f = "list" then some .list else
 if f = "min" then some .mn else
 if f = "max" then some .mx else
 if f = "sorted" then some .Vh else
 if f = "dict" then some .Vg else
 none
def FF(T:Tab)(a:Scope)(N:List Str)(x:Str):Option E:=HH (CM x) ((a.names.lookup x).bind λk=>match k with
 |.local=>(AV N x).map .L
 |.cell=>(AV N x).map .L
 |.free=>(AV N x).map .L
 |.globalImplicit=>(T.cs.lookup x).map .Z3
 |_=>none)
def GF(v:Const):Option E:=match v with
 |.int i=>some (.Z3 (.int i))
 |.bool b=>some (.Z3 (.bl b))
 |.none=>some (.Z3 .ZN)
 |.str s=>some (.Z3 (.str s))
 |_=>none
section
variable(T:Tab)(sc:Scope)(ce:Expr->Option E)
def HL(o:Operator)(a b:Expr):Option E:=(Ei o).bind λo'=>(ce a).bind λa'=>(ce b).map (.ZW o' a')
def FJ(a:Expr)(o:CmpOp)(b:Expr):Option E:=HH (!CW b) ((CN o).bind λo'=>(ce a).bind λa'=>(ce b).map (.cmp o' a'))
def FO(a:Expr)(o q:CmpOp)(b c:Expr):Option E:=HH (!CW c) ((CN o).bind λo'=>(CN q).bind λd=>(ce a).bind λa'=>(ce b).bind λb'=>(ce c).map (.chain o' d a' b'))
def Ga(a:Expr)(e:List CmpOp)(d:List Expr):Option E:=match e with
 |[]=>none
 |o::e=>match d with
  |[]=>none
  |b::d=>match e with
   |[]=>HH (AX d) (FJ ce a o b)
   |q::e=>match d with
    |[]=>none
    |c::d=>HH (AX e&&AX d) (FO ce a o q b c)
def FV(o:BoolOp)(c:List Expr)(pos:Pos):Option E:=match c with
 |[]=>none
 |a::c=>match c with
  |[]=>ce a
  |b::ZQ=>match o with
   |.And=>(ce a).bind λa'=>(ce (.BoolOp .And (b::ZQ) pos)).map (.and a')
   |.Or=>(ce a).bind λa'=>(ce (.BoolOp .Or (b::ZQ) pos)).map (.or a')
def HM(o:UnaryOp)(a:Expr):Option E:=match o with
 |.Not=>(ce a).map .not
 |.USub=>(ce a).map .neg
 |_=>none
def Gc(k:List E->E)(a:List Expr):Option E:=HH (!a.any isStar) ((Af (a.map ce)).map k)
def Gy(e:Expr):Bool:=match e with
 |.UnaryOp o a _=>match o with
  |.USub=>match a with
   |.Constant v _ _=>match v with
    |.int i=>i==1
    |_=>false
   |_=>false
  |_=>false
 |_=>false
def El(a:Option Expr):Option (Option E):=match a with
 |none=>some none
 |some l=>(ce l).map some
def Ec{a:Type}(o:Option a):Bool:=match o with
 |none=>true
 |some _=>false
def HN(a s:Expr):Option E:=match s with
 |.Slice lo hi st _=>match st with
  |none=>(ce a).bind λa'=>(El ce lo).bind λb=>(El ce hi).map (.XU a' b)
  |some st=>HH (Ec lo&&Ec hi&&Gy st) ((ce a).map .rev)
 |_=>none
def DV(a s:Expr):Option E:=match Cm s with
 |true=>HN ce a s
 |false=>(ce a).bind λa'=>(ce s).map (.idx a')
def He(a t:Expr):Option E:=(HI t).bind λtn=>(Dz tn).bind λt=>(ce a).bind λa'=>HH (T.bt.contains tn&&(sc.names.lookup tn==some .globalImplicit)) (some (.YR a' t))
def Hd(a t:Expr):Option E:=(HI t).bind λ_=>He T sc ce a t
def GK(b:List Expr):Option E:=match b with
 |[]=>none
 |a::b=>match b with
  |[]=>none
  |t::b=>HH (AX b) (Hd T sc ce a t)
def HP(f:Str)(a:List Expr):Option E:=(Fz f a.length HK).bind λb=>HH (!AX a) ((Af (a.map ce)).map (.bi b))
def Dg(T:Tab)(c:Scope)(b:Expr->Option E)(f:Str)(a:List Expr):Option E:=
 if f = "isinstance" then GK T c b a else
 HP b f a
def GN(f:Str)(a:List Expr):Option E:=HH (CM f&&!a.any isStar&&(sc.names.lookup f==some .globalImplicit)) (match AV T.M f with
 |some i=>(Af (a.map ce)).map (.call i)
 |none=>match T.bt.contains f with
  |true=>Dg T sc ce f a
  |false=>Cz T sc ce f a [])
def HQ(o':E)(m:Str)(c b:Pos)(a:List Expr):Option E:=
 if m = "append" then CF ce (.app o') a else
 if m = "extend" then CF ce (.ext o') a else
 if m = "pop" then(match a with
  |[]=>some (.pop o')
  |_::_=>none)else
 if m = "clear" then HH (AX a) (some (.Wd true o'))else
 if m = "get" then CI ce (.Xd o') a else
 DJ T ce o' m c b a []
def G9(o:Expr)(m:Str)(c b:Pos)(a:List Expr)(kws:List Keyword):Option E:=HH (!Cj o) ((ce o).bind λo'=>match kws with
 |[]=>HH (c.endLine==b.line&&!a.any isStar) (HQ T ce o' m c b a)
 |k::kws=>DJ T ce o' m c b a (k::kws))
def Gn(fn:Expr)(a:List Expr)(kws:List Keyword)(b:Pos):Option E:=match fn with
 |.Name f _=>match kws with
  |[]=>GN T sc ce f a
  |k::kws=>Cz T sc ce f a (k::kws)
 |.Attribute o m ap=>G9 T ce o m ap b a kws
 |_=>none
def HR(o:Expr)(f:Str):Option E:=(T.fl.lookup f).bind λcs=>(ce o).bind λo'=>HH (BL f&&!Cj o) (some (.fld o' (A5 f) cs))
def Gs(c:Expr->Option E)(a:List (Option Expr))(vs:List Expr):Option E:=match a with
 |[]=>HH (AX vs) (some .XT)
 |b::a=>(strKeys (b::a)).bind λks=>(Af (vs.map c)).bind λZF=>HH (ks.length==vs.length&&decide (ks.length<=15)&&decide ks.Nodup) (some (.Wc ks ZF))
def Eb(N:List Str)(b:Expr->Option E)(g:Comprehension)(a:List Comprehension)(scope:Scope):Option (List Nat×List (Tg×E×List E)):=
 HH (DC scope sc (ownOf (g :: a)) (freeOf scope) && (g.is_async == 0)) ((Cn T sc ce g.target g.iter).bind λZv=>(Bg true scope (ownOf (g :: a)++freeOf scope) g.target).bind λt=>(Af (g.ifs.map b)).bind λcs =>
  (DM T (Be scope sc) (ownOf (g::a)++freeOf scope) b a).bind λZD=>(Af ((freeOf scope).map (AV N))).map λZw=>(Zw,(t,Zv,cs)::ZD))
end
def Ao(T:Tab)(c:Scope)(N:List Str):Nat->Expr->Option E
 |0,_=>none
 |n+1,e=>match e with
  |.Name x _=>FF T c N x
  |.Constant v _ _=>GF v
  |.BinOp a o b _=>HL (Ao T c N n) o a b
  |.Compare a os bs _=>Ga (Ao T c N n) a os bs
  |.BoolOp o es pos=>FV (Ao T c N n) o es pos
  |.UnaryOp o a _=>HM (Ao T c N n) o a
  |.Tuple es _ _=>Gc (Ao T c N n) .Z1 es
  |.List es _=>Gc (Ao T c N n) .S es
  |.Subscript a s _=>DV (Ao T c N n) a s
  |.Call fn es kws cp=>Gn T c (Ao T c N n) fn es kws cp
  |.Attribute o f _=>HR T (Ao T c N n) o f
  |.Dict keys vs _=>Gs (Ao T c N n) keys vs
  |.ListComp elt gs scope _=>match gs with
   |[]=>none
   |g::ZQ=>(Eb T c (Ao T c N n) N (Ao T (Be scope c) (ownOf (g::ZQ)++freeOf scope) n) g ZQ scope).bind λq=>(Ao T (Be scope c) (ownOf (g::ZQ)++freeOf scope) n elt).map (.comp (ownOf (g::ZQ)).length q.1 q.2)
  |.DictComp h d gs scope _=>match gs with
   |[]=>none
   |g::ZQ=>(Eb T c (Ao T c N n) N (Ao T (Be scope c) (ownOf (g::ZQ)++freeOf scope) n) g ZQ scope).bind λq=>
    (Ao T (Be scope c) (ownOf (g::ZQ)++freeOf scope) n h).bind λk'=>(Ao T (Be scope c) (ownOf (g::ZQ)++freeOf scope) n d).map (.X6 (ownOf (g::ZQ)).length q.1 q.2 k')
  |_=>none
def Cu(c:Scope)(x y:Str)(e d:Pos)(a b:Expr):Bool:=
 (c.names.lookup x==some .local)&&(c.names.lookup y==some .local)&&!(x==y)&&(d.line==e.line)&&!isStar a&&!isStar b&&!(foldedForSure 8 a&&foldedForSure 8 b)&&!(constantsAlone 8 a&&constantsAlone 8 b)
def CD(a:Scope)(x:Str)(b:Pos)(scope:Scope)(p:Pos):Bool:=(a.names.lookup x==some .local)&&(b.line==p.line)&&!(scope.names.any λ(n,k)=>n==x&&(k==.local||k==.cell))
def DI{c:Type}(l:List c):Option (c×c):=match l with
 |[]=>none
 |a::l=>match l with
  |[]=>none
  |b::l=>match l with
   |[]=>some (a,b)
   |_::_=>none
def HS(e:Expr):Option (Str×Pos):=match e with
 |.Name x p=>some (x,p)
 |_=>none
def Gf(e:Expr):Option (List Expr×Nat×Pos):=match e with
 |.Tuple es k p=>some (es,k,p)
 |_=>none
def CS(T:Tab)(d:Scope)(N:List Str)(b:Expr->Option E)(c:List Expr)(g:Nat)(f:Pos)(e:Expr):Option Z5:=
 (Gf e).bind λq=>(DI c).bind λt=>(HS t.1).bind λx=>(HS t.2).bind λy=>(DI q.1).bind λa=>match Cu d x.1 y.1 x.2 y.2 a.1 a.2 with
  |true=>(AV N x.1).bind λi=>(AV N y.1).bind λj=>(b a.1).bind λa'=>(b a.2).map (.par i j a')
  |false=>HH (foldedForSure 8 a.1&&foldedForSure 8 a.2) ((Bg true d N (.Tuple c g f)).bind λt=>(b e).map (.set t))
def HU(e:Expr):Option (Scope×Pos):=match e with
 |.ListComp _ gs scope p=>match gs with
  |[]=>none
  |_::_=>some (scope,p)
 |.DictComp _ _ gs scope p=>match gs with
  |[]=>none
  |_::_=>some (scope,p)
 |_=>none
def Fv(a:Scope)(N:List Str)(c:Expr->Option E)(x:Str)(b:Pos)(e:Expr):Option Z5:=HH (match HU e with
 |some q=>CD a x b q.1 q.2
 |none=>!BM e) ((BP true a N x).bind λi=>(c e).map (.set (.nm i)))
def G0(T:Tab)(a:Expr->Option E)(o:Expr)(f:Str)(e:Expr):Option Z5:=(HS o).bind λ_=>(T.fl.lookup f).bind λcs=>(a o).bind λo'=>(a e).bind λe'=>HH (BL f) (some (.fset o' (A5 f) cs e'))
def Fh(T:Tab)(b:Scope)(N:List Str)(a:Expr->Option E)(t e:Expr):Option Z5:=match t with
 |.Name x c=>Fv b N a x c e
 |.Tuple ts k p=>match BZ e with
  |true=>CS T b N a ts k p e
  |false=>(Bg true b N (.Tuple ts k p)).bind λt=>(a e).map (.set t)
 |.Subscript o i _=>HH (!Cm i&&!BM e) ((a o).bind λo'=>(a i).bind λd=>(a e).map (.sub o' d))
 |.Attribute o f _=>G0 T a o f e
 |_=>none
def HV(e:E):Option Nat:=match e with
 |.L i=>some i
 |_=>none
def HW(e:E):Option Int:=match e with
 |.Z3 u=>HG u
 |_=>none
def Hq(a:Operator):Option Op:=match a with
 |.Add=>some .add
 |.Sub=>some .sub
 |_=>none
def Fo(T:Tab)(a:Expr->Option E)(t:Expr)(b:Operator)(e:Expr):Option Z5:=match t with
 |.Attribute o f _=>(Hq b).bind λp=>match p with
  |.add=>(HS o).bind λ_=>(T.fl.lookup f).bind λcs=>(a o).bind λo'=>(HV o').bind λi=>(a e).bind λe'=>(HW e').bind λk=>HH (BL f) (some (.fset (.L i) (A5 f) cs (.ZW .add (.fld (.L i) (A5 f) cs) (.Z3 (.int k)))))
  |_=>none
 |_=>none
def DO:Expr->Bool
 |.Call (.Attribute _ m _) _ _ _=>m == "update"
 |_=>false
def Bp(T:Tab)(d:Scope)(N:List Str):Nat->Stmt->Option Z5
 |0,_=>none
 |n+1,st=>match st with
  |.Return o _=>match o with
   |none=>none
   |some e=>(Ao T d N n e).map .ret
  |.Assign ts e _=>match ts with
   |[]=>none
   |t::r=>HH (AX r) (Fh T d N (Ao T d N n) t e)
  |.AugAssign t op e _=>Fo T (Ao T d N n) t op e
  |.Expr e _=>match DO e with
   |true=>some .never
   |false=>HH (!BM e) ((Ao T d N n e).map .exp)
  |.If c a b _=>(Ao T d N n c).bind λc'=>(Af (a.map (Bp T d N n))).bind λa'=>(Af (b.map (Bp T d N n))).map (.ZE c' a')
  |.While c b o _=>HH (AX o) ((Ao T d N n c).bind λc'=>(Af (b.map (Bp T d N n))).map (.VH c'))
  |.For tg it b o _=>HH (AX o) ((Bg true d N tg).bind λt=>(Cn T d (Ao T d N n) tg it).bind λZv=>(Af (b.map (Bp T d N n))).map λb'=>DL it (.for t Zv b'))
  |.Try b g o f _=>match g with
   |[]=>none
   |_::_=>HH (AX o&&AX f) ((Af (b.map (Bp T d N n))).map λb'=>.ZE (.Z3 (.bl true)) b' [])
  |.Raise _ _ _=>some .never
  |_=>none
open PySem PySem.Spec PyProof.Rows L2 PySem.W
def B2:Nat->List Obj->Frag
 |_,[]=>[]
 |n,o::r=>match o.data with
  |.freed=>B2 (n+1) r
  |_=>(n,o)::B2 (n+1) r
def AU(h:Heap):Frag:=B2 0 h.objs.toList
set_option genInjectivity false in
structure Inf where
 x:Str
 N:List Str
 ps:List Str
 cm:Option (Str×Str)
 kf:Option (KF×Nat)
def DF(N ps:List Str)(a:Scope):Bool:=
 decide (a.kind=.function)&&!a.isCoroutine&&!a.isGenerator&&decide N.Nodup&&decide (N.take ps.length=ps)&&ps.all (λx=>decide (a.names.lookup x=some .local)||decide (a.names.lookup x=some .cell))&&a.names.all λy=>decide (y.2 ≠ .free)
def FG(ps:List Str)(p:Arguments):Bool:=p.posonlyargs.isEmpty&&decide (p.args.map (·.arg)=ps)&&p.vararg.isNone&&p.kwonlyargs.isEmpty&&p.kwarg.isNone
def D0:Value->Bool
 |.none=>true
 |_=>false
def Ef(u:U)(v:Value):Bool:=match u with
 |.int i=>match v with
  |.int j _=>decide (i=j)
  |_=>false
 |.ZN=>D0 v
 |.bl b=>match v with
  |.bool c=>b==c
  |_=>false
 |.str s=>match v with
  |.str t _=>decide (s=t)
  |_=>false
 |_=>false
def Cv:List U->List Value->Bool
 |[],[]=>true
 |u::O,v::vs=>Ef u v&&Cv O vs
 |_,_=>false
def Gi(O:List U)(d:Data):Bool:=match d with
 |.seq ZY _=>decide (ZY.size<=1000)&&Cv O ZY.toList
 |_=>false
def Ea(K:Frag)(O:List U)(v:Value):Bool:=match v with
 |.ref a=>match K.lookup a with
  |some o=>decide (o.cls=.type "tuple")&&Gi O o.data
  |none=>false
 |_=>false
def HX(K:Frag)(u:U)(v:Value):Bool:=match u with
 |.xn _ O=>Ea K O v
 |_=>false
def Dk(K:Frag)(u:U)(v:Value):Bool:=Ef u v||HX K u v
def C8(K:Frag):List U->List Value->Bool
 |[],[]=>true
 |u::O,v::vs=>Dk K u v&&C8 K O vs
 |_,_=>false
def DW(K:Frag):Value->Option (List Value)
 |.none=>some []
 |.ref a=>match K.lookup a with
  |some ⟨_,_,.seq ZY _,_⟩=>some ZY.toList
  |_=>none
 |_=>none
def BI(K:Frag)(v:Value)(n:Str):Option Value:=match v with
 |.ref d=>match nsIn K d n with
  |some (some v)=>some v
  |_=>none
 |_=>none
def HY(K:Frag)(fd:FuncData)(F:KF)(a:Nat):Bool:=fd.params.posonlyargs.isEmpty&&decide (fd.params.args.map (·.arg)=F.ns)&&fd.params.vararg.isNone&&decide (fd.params.kwonlyargs.map (·.arg)=F.ks)&&fd.params.kwarg.isNone&&decide (a<=F.ns.length) &&
 (F.ks.all λn=>(BI K fd.kwdefaults n).isSome)&&decide (F.dd.map (·.1)=F.ns.drop (F.ns.length-a)++F.ks)&&match DW K fd.defaults with
  |some b=>decide (b.length=a)&&C8 K (F.dd.map (·.2)) (b++F.ks.map λn=>(BI K fd.kwdefaults n).getD .none)
  |none=>false
def HZ(K:Frag)(c:Str×U):Bool:=match nsIn K mainGlobals c.1 with
 |some (some val)=>Dk K c.2 val
 |_=>false
def FN(x q:Str)(fd:FuncData):Bool:=decide (fd.name=x)&&decide (fd.qualname=q)&&(fd.globals==mainGlobals)&&fd.closure.isEmpty&&(fd.builtins==builtinsNs)
def Ep(K:Frag)(i:Inf)(fd:FuncData):Bool:=match i.kf with
 |none=>FG i.ps fd.params&&D0 fd.defaults
 |some (F,nd)=>decide (i.ps=F.ns++F.ks)&&!i.ps.isEmpty&&HY K fd F nd
def CH(K:Frag)(C:Addr):Bool:=plainGet K C Str.empty&&hasDictIn K C&&plainOver K C&&(findIn K (.ref C) "__setattr__" == some (some (.builtin "object.__setattr__")))
def DT(K:Frag)(i:Inf):Option Addr:=match i.cm with
 |none=>match nsIn K mainGlobals i.x with
  |some (some (.ref a))=>some a
  |_=>none
 |some c=>match nsIn K mainGlobals c.1 with
  |some (some (.ref C))=>match findIn K (.ref C) c.2 with
   |some (some (.ref a))=>if CH K C&&isFn K (.ref a)&&keepIn K (.ref a)&&(!decide (c.2 = "__init__")||(makesIn K C&&keepIn K (.ref C)))then some a else none
   |_=>none
  |_=>none
noncomputable def Inf.nm(i:Inf):Str:=match i.cm with|none=>i.x|some c=>c.2
def Bw(K:Frag)(i:Inf):Option (Scope×List Stmt):=match DT K i with
 |some a=>match K.lookup a with
  |some ⟨_,_,.func fd,_⟩=>match fd.body with
   |.stmts b=>if FN i.nm i.x fd&&DF i.N i.ps fd.scope&&Ep K i fd&&codeIn K fd.code i.x&&keepIn K (.ref a)then some (fd.scope,b)else none
   |_=>none
  |_=>none
 |none=>none
def mkF(T:Tab)(q:Inf×Option (Scope×List Stmt)):Option Fn:=match q.2 with
 |some r=>(Af (r.2.map (Bp T r.1 q.1.N 60))).map λb'=>⟨q.1.ps.length,q.1.N.length,b'⟩
 |none=>none
def H8(K:Frag)(e:Str×List Nat):Bool:=e.2.all λc=>match nsIn K mainGlobals (As c)with
 |some (some (.ref C))=>CH K C&&(findIn K (.ref C) e.1==some none)
 |_=>false
def Gg(K:Frag)(C:Addr):Bool:=(findIn K (.ref C) "__ne__" == some (some (.builtin "object.__ne__")))&&(mroIn K C (.type "object")==some true)&&(clsIn K C).isSome&&(typeIn K (.ref C)==some (.type "type"))&&(findIn K (.ref C) "__class__" == some (some (.builtin "object.__class__"))) &&
 (specialIn K (.builtin "object.__class__") "__get__" == some (some (.builtin "getset_descriptor.__get__")))&&(takesIn K (.builtin "object.__class__")==some true)
def H9(K:Frag)(p:Str×Nat):Bool:=match nsIn K mainGlobals p.1 with
 |some (some (.ref C))=>decide (As p.2=p.1)&&CH K C&&Gg K C
 |_=>false
def Dm(is:List Inf):List (Str×Nat×KF×Nat):=is.zipIdx.filterMap λp=>match p.1.cm,p.1.kf with
 |none,some k=>some (p.1.x,p.2,k.1,k.2)
 |_,_=>none
def Dj(is:List Inf):List (Str×Nat×Nat×KF×Nat):=is.zipIdx.filterMap λp=>match p.1.cm,p.1.kf with
 |some c,some k=>if c.2 = "__init__" then some (c.1,A5 c.1,p.2,k.1,k.2)else none
 |_,_=>none
def Ia(is:List Inf)(m:Str):List (Nat×Nat×KF×Nat):=is.zipIdx.filterMap λp=>match p.1.cm,p.1.kf with
 |some c,some k=>if c.2=m then some (A5 c.1,p.2,k.1,k.2)else none
 |_,_=>none
def Dc(is:List Inf)(ms:List Str):List (Str×List (Nat×Nat×KF×Nat)):=ms.map λm=>(m,Ia is m)
def Ib(T:Tab)(K:Frag):Bool:=T.bt.all (λx=>(nsIn K mainGlobals x).any Option.isNone)
open PySem PySem.Spec PyProof.Rows L2 PySem.W PySem.Calls
noncomputable section
def Gr(p:Program)(w:World)(N:Nat)(Zc : Shared):Option Shared:=
 match Zc.heap.isNs mainGlobals&&Zc.gens.size==0 with
 |true=>(Fast.tw14082659384304107361 Fast.tw14364793385576792824 p w Zc.heap.objs.size (Zc.heap.nsMap mainGlobals "__annotations__") N Zc (topStub p)).bind λa=>match staticsOk (importedModules p.main.body) Zc.heap a.heap&&namesBound p a.heap&&gensDone a && laidKept Zc.heap a.heap with
   |true=>some a
   |false=>none
 |false=>none
def endsF(p:Program)(w:World)(N:Nat):Option Shared:=
 ((Fast.tw10274390034422433532 Fast.tw14364793385576792824 (opening p) w N (Fast.tw1435165496053646825 (opening p)).1 (Fast.tw1435165496053646825 (opening p)).2).bind (Fast.tw14289696077712309145 p)).bind (Gr p w N)
def lastOf(p:Program):Program:={p with main:={p.main with body:=p.main.body.drop (p.main.body.length-1)}}
def Eg(T:Tab)(K:Frag)(is:List Inf):Bool:=Ib T K&&T.cs.all (HZ K)&&T.fl.all (H8 K)&&is.all (λi=>i.cm.all λc=>BL c.1)&&T.ow.all (H9 K)
def Ak(b:List Stmt)(n:Nat):Option (Scope×List Stmt):=match b[n]? with
 |some (.FunctionDef _ _ b _ _ _ sc _ _ _)=>some (sc,b)
 |_=>none
def AJ(b:List Stmt)(n m:Nat):Option (Scope×List Stmt):=match b[n]? with
 |some (.ClassDef _ _ _ b _ _ _ _ _ _ _)=>Ak b m
 |_=>none
end
end
end PI
section
namespace ZG
open PI
def EZ:Fn:=⟨1,1,[(.ret (.and (.YR (.L 0) .Wg) (.not (.YR (.L 0) .We))))]⟩
def E8:Fn:=⟨2,7,[(.set (.tp [2,3,4]) (.L 0)),(.set (.tp [5,6]) (.L 1)),(.ret (.and (.chain .le .le (.Z3 (.int 0)) (.L 5) (.ZW .mul (.L 2) (.L 4))) (.chain .le .le (.Z3 (.int 0)) (.L 6) (.ZW .mul (.L 3) (.L 4)))))]⟩
def EG:Fn:=⟨2,2,[(.ZE (.not (.call 1 [.L 0,.L 1])) [.never] [])]⟩
def GQ:Fn:=⟨1,4,[(.set (.tp [1,2,3]) (.L 0)),(.ret (.comp 2 [2,3] [((.nm 0),(.YM (.ZW .add (.ZW .mul (.L 1) (.L 3)) (.Z3 (.int 1)))),[]),((.nm 1),(.YM (.ZW .add (.ZW .mul (.L 2) (.L 3)) (.Z3 (.int 1)))),[])] (.Z1 [.L 0,.L 1])))]⟩
def Ey:Fn:=⟨3,7,[(.par 3 4 (.ZW .mul (.L 0) (.L 2)) (.ZW .mul (.L 1) (.L 2))),(.par 5 6 (.ZW .add (.L 3) (.L 2)) (.ZW .add (.L 4) (.L 2))),(.ZE (.cmp .eq (.ZW .mod (.ZW .add (.L 0) (.L 1)) (.Z3 (.int 2))) (.Z3 (.int 0))) [(.ret (.S [(.Z1 [.L 3,.L 4,.L 5,.L 6,.L 5,.L 4]),(.Z1 [.L 5,.L 6,.L 3,.L 4,.L 3,.L 6])]))] []),(.ret (.S [(.Z1 [.L 5,.L 4,.L 3,.L 6,.L 5,.L 6]),(.Z1 [.L 3,.L 6,.L 5,.L 4,.L 3,.L 4])]))]⟩
def Fp:Fn:=⟨1,4,[(.set (.tp [1,2,3]) (.L 0)),(.ret (.comp 3 [2,3] [((.nm 0),(.YM (.L 1)),[]),((.nm 1),(.YM (.L 3)),[]),((.nm 2),(.call 4 [.L 0,.L 1,.L 4]),[])] (.L 2)))]⟩
def Fe:Fn:=⟨1,5,[(.set (.tp [1,2,3,4]) (.XU (.L 0) none (some (.Z3 (.int 4))))),(.ZE (.or (.cmp .eq (.ZW .mod (.ZW .add (.L 1) (.L 3)) (.Z3 (.int 2))) (.Z3 (.int 1))) (.cmp .eq (.ZW .mod (.ZW .add (.L 2) (.L 4)) (.Z3 (.int 2))) (.Z3 (.int 1)))) [(.ret (.Z3 .ZN))] []),(.ret (.Z1 [(.ZW .fdiv (.ZW .add (.L 1) (.L 3)) (.Z3 (.int 2))),(.ZW .fdiv (.ZW .add (.L 2) (.L 4)) (.Z3 (.int 2)))]))]⟩
def Fc:Fn:=⟨1,10,[(.set (.nm 1) (.call 6 [.L 0])),(.ZE (.cmp .Xe (.L 1) (.Z3 .ZN)) [.never] []),(.set (.tp [2,3]) (.L 1)),(.set (.tp [4,5,6,7,8,9]) (.L 0)),(.ret (.S [(.Z1 [.L 4,.L 5,.L 8,.L 9,.L 2,.L 3]),(.Z1 [.L 8,.L 9,.L 6,.L 7,.L 2,.L 3])]))]⟩
def Fx:Fn:=⟨1,4,[(.set (.nm 1) (.S [])),(.set (.nm 2) (.rev (.L 0))),(.VH (.L 2) [(.set (.nm 3) (.pop (.L 2))),(.exp (.app (.L 1) (.L 3))),(.ZE (.cmp .Wi (.call 6 [.L 3]) (.Z3 .ZN)) [(.exp (.ext (.L 2) (.rev (.call 7 [.L 3]))))] [])]),(.ret (.L 1))]⟩
def E9:Fn:=⟨1,1,[(.ret (.call 8 [(.call 5 [.L 0])]))]⟩
def Ft:Fn:=⟨5,7,[(.set (.tp [5,6]) (.L 4)),(.ret (.ZW .sub (.ZW .mul (.ZW .sub (.L 2) (.L 0)) (.ZW .sub (.L 6) (.L 1))) (.ZW .mul (.ZW .sub (.L 3) (.L 1)) (.ZW .sub (.L 5) (.L 0)))))]⟩
def FC:Fn:=⟨1,7,[(.set (.tp [1,2,3,4,5,6]) (.L 0)),(.ret (.Z1 [(.bi .mn [.L 1,.L 3,.L 5]),(.bi .mn [.L 2,.L 4,.L 6]),(.bi .mx [.L 1,.L 3,.L 5]),(.bi .mx [.L 2,.L 4,.L 6])]))]⟩
def Ff:Fn:=⟨2,8,[(.set (.tp [2,3,4,5]) (.call 11 [.L 0])),(.set (.tp [6,7]) (.L 1)),(.ret (.and (.chain .le .le (.L 2) (.L 6) (.L 4)) (.chain .le .le (.L 3) (.L 7) (.L 5))))]⟩
def Fd:Fn:=⟨2,9,[(.set (.tp [2,3,4,5,6,7]) (.L 0)),(.set (.nm 8) (.S [(.call 10 [.L 2,.L 3,.L 4,.L 5,.L 1]),(.call 10 [.L 4,.L 5,.L 6,.L 7,.L 1]),(.call 10 [.L 6,.L 7,.L 2,.L 3,.L 1])])),(.ret (.and (.call 12 [.L 0,.L 1]) (.or (.cmp .ge (.bi .mn [.L 8]) (.Z3 (.int 0))) (.cmp .le (.bi .mx [.L 8]) (.Z3 (.int 0))))))]⟩
def Fk:Fn:=⟨1,5,[(.set (.tp [1,2,3,4]) (.call 11 [.L 0])),(.ret (.comp 2 [4,2,0] [((.nm 0),(.Yn (.L 1) (.ZW .add (.L 3) (.Z3 (.int 1)))),[]),((.nm 1),(.Yn (.L 3) (.ZW .add (.L 2) (.Z3 (.int 1)))),[(.call 13 [.L 4,(.Z1 [.L 0,.L 1])])])] (.Z1 [.L 0,.L 1])))]⟩
def Fm:Fn:=⟨2,3,[(.ZE (.cmp .eq (.L 1) (.Z3 (.int 0))) [.never] []),(.set (.nm 2) (.call 16 [(.bi .abs [.L 0]),(.bi .abs [.L 1])])),(.ZE (.cmp .lt (.L 1) (.Z3 (.int 0))) [(.set (.nm 2) (.neg (.L 2)))] []),(.ret (.Z1 [(.ZW .fdiv (.L 0) (.L 2)),(.ZW .fdiv (.L 1) (.L 2))]))]⟩
def Fg:Fn:=⟨2,2,[(.VH (.cmp .ne (.L 1) (.Z3 (.int 0))) [(.par 0 1 (.L 1) (.ZW .mod (.L 0) (.L 1)))]),(.ret (.L 0))]⟩
def Ew:Fn:=⟨2,2,[(.ZE (.or (.not (.call 0 [.L 1])) (.or (.cmp .lt (.L 1) (.neg (.Z3 (.int 1000)))) (.cmp .gt (.L 1) (.Z3 (.int 1000))))) [.never] [])]⟩
def ET:Fn:=⟨2,2,[(.ZE (.cmp .ne (.bi .len [.L 0]) (.L 1)) [.never] [])]⟩
def EN:Fn:=⟨2,10,[(.set (.tp [2,3,4]) (.L 0)),(.exp (.call 18 [.L 1,(.ZW .add (.ZW .mul (.L 3) (.L 4)) (.Z3 (.int 1)))])),(.for (.nm 5) (.L 1) [(.exp (.call 18 [.L 5,(.ZW .add (.ZW .mul (.L 2) (.L 4)) (.Z3 (.int 1)))]))]),(.set (.nm 6) .XT),(.for (.tp [7,5]) (.YY (.L 1)) [(.for (.tp [8,9]) (.YY (.L 5)) [(.exp (.call 17 [(.Z1 [.L 8,.L 7]),.L 9])),(.sub (.L 6) (.Z1 [.L 8,.L 7]) (.L 9))])]),(.ret (.L 6))]⟩
def E5:Fn:=⟨2,6,[(.set (.tp [2,3]) (.bi .Vh [(.S [(.idx (.L 0) (.Z3 (.int 0))),(.idx (.L 1) (.Z3 (.int 0)))])])),(.set (.tp [4,5]) (.bi .Vh [(.S [(.idx (.L 0) (.Z3 (.int 1))),(.idx (.L 1) (.Z3 (.int 1)))])])),(.ret (.comp 2 [4,5] [((.nm 0),(.Yn (.L 2) (.ZW .add (.L 3) (.Z3 (.int 1)))),[]),((.nm 1),(.Yn (.L 2) (.ZW .add (.L 3) (.Z3 (.int 1)))),[])] (.Z1 [.L 0,.L 1])))]⟩
def E7:Fn:=⟨2,5,[(.set (.nm 2) (.S [])),(.for (.nm 3) (.L 0) [(.set (.nm 4) (.comp 1 [3] [((.nm 0),.L 1,[(.call 13 [.L 1,.L 0])])] (.L 0))),(.ZE (.L 4) [(.exp (.app (.L 2) (.L 3))),(.ZE (.cmp .Wi (.call 6 [.L 3]) (.Z3 .ZN)) [(.exp (.ext (.L 2) (.call 21 [(.call 7 [.L 3]),.L 4])))] [])] [])]),(.ret (.L 2))]⟩
def Fq:Fn:=⟨2,14,[(.set (.tp [2,3,4,5,6,7]) (.L 0)),(.set (.tp [8,9,10]) (.L 1)),(.set (.nm 11) (.ZW .sub (.ZW .mul (.ZW .sub (.L 4) (.L 2)) (.ZW .sub (.L 7) (.L 3))) (.ZW .mul (.ZW .sub (.L 5) (.L 3)) (.ZW .sub (.L 6) (.L 2))))),(.set (.nm 12) (.ZW .sub (.ZW .mul (.ZW .sub (.L 9) (.L 8)) (.ZW .sub (.L 7) (.L 3))) (.ZW .mul (.ZW .sub (.L 10) (.L 8)) (.ZW .sub (.L 5) (.L 3))))),(.set (.nm 13) (.ZW .sub (.ZW .mul (.ZW .sub (.L 10) (.L 8)) (.ZW .sub (.L 4) (.L 2))) (.ZW .mul (.ZW .sub (.L 9) (.L 8)) (.ZW .sub (.L 6) (.L 2))))),(.ret (.Z1 [.L 12,.L 13,(.ZW .sub (.ZW .sub (.ZW .mul (.L 8) (.L 11)) (.ZW .mul (.L 12) (.L 2))) (.ZW .mul (.L 13) (.L 3))),.L 11]))]⟩
def Es:Fn:=⟨3,3,[(.ZE (.cmp .Xe (.L 2) (.Z3 .ZN)) [(.fset (.L 0) 509789213455080 [211529932] (.X6 1 [] [((.nm 0),(.call 3 [.L 1]),[])] (.L 0) (.Z3 (.int 0))))] [(.fset (.L 0) 509789213455080 [211529932] (.call 19 [.L 1,.L 2]))]),(.fset (.L 0) 232289904 [211529932] (.L 1)),(.fset (.L 0) 487627477906021 [211529932] (.Z3 (.int 0))),(.fset (.L 0) 31083624820 [211529932] (.Z3 (.int 0))),(.fset (.L 0) 31083802852 [211529932] .XT),(.fset (.L 0) 213628900 [211529932] (.S [])),(.fset (.L 0) 3500095911797 [211529932] (.S [])),(.fset (.L 0) 243020007 [211529932] (.X6 1 [] [((.nm 0),(.call 9 [.L 1]),[])] (.L 0) (.Z3 .ZN)))]⟩
def Ex:Fn:=⟨2,2,[(.exp (.call 2 [(.fld (.L 0) 232289904 [211529932]),.L 1])),(.ret (.idx (.fld (.L 0) 509789213455080 [211529932]) (.L 1)))]⟩
def EM:Fn:=⟨1,4,[(.set (.tp [1,2,3]) (.fld (.L 0) 232289904 [211529932])),(.ret (.comp 1 [0,3,1] [((.nm 0),(.YM (.ZW .add (.ZW .mul (.L 2) (.L 3)) (.Z3 (.int 1)))),[])] (.comp 1 [1,0] [((.nm 0),(.YM (.ZW .add (.ZW .mul (.L 3) (.L 2)) (.Z3 (.int 1)))),[])] (.idx (.fld (.L 1) 509789213455080 [211529932]) (.Z1 [.L 0,.L 2])))))]⟩
def EH:Fn:=⟨2,2,[(.exp (.call 2 [(.fld (.L 0) 232289904 [211529932]),.L 1])),(.ret (.Xd (.fld (.L 0) 31083802852 [211529932]) (.L 1) (.Z3 (.int 0))))]⟩
def E3:Fn:=⟨3,3,[(.ret (.Zg (.L 0) 245002853 [(211529932,28,[.inl 0,.inl 1])] [(.S [(.Z1 [.L 1,.L 2])])] []))]⟩
def ER:Fn:=⟨2,5,[(.fset (.L 0) 31083624820 [211529932] (.ZW .add (.fld (.L 0) 31083624820 [211529932]) (.Z3 (.int 1)))),(.set (.nm 2) .XT),(.for (.tp [3,4]) (.L 1) [(.exp (.call 2 [(.fld (.L 0) 232289904 [211529932]),.L 3])),(.exp (.call 17 [.L 3,.L 4])),(.sub (.L 2) (.L 3) (.L 4))]),(.ret (.Zg (.L 0) 1913313 [(211529932,32,[.inl 0,.inl 1])] [.L 2] []))]⟩
def EV:Fn:=⟨4,7,[(.fset (.L 0) 31083624820 [211529932] (.ZW .add (.fld (.L 0) 31083624820 [211529932]) (.Z3 (.int 1)))),(.exp (.call 2 [(.fld (.L 0) 232289904 [211529932]),.L 1])),(.exp (.call 2 [(.fld (.L 0) 232289904 [211529932]),.L 2])),(.set (.nm 4) .XT),(.for (.nm 5) (.call 20 [.L 1,.L 2]) [(.set (.nm 6) (.ZW .add (.idx (.fld (.L 0) 509789213455080 [211529932]) (.L 5)) (.L 3))),(.exp (.call 17 [.L 5,.L 6])),(.sub (.L 4) (.L 5) (.L 6))]),(.ret (.Zg (.L 0) 1913313 [(211529932,32,[.inl 0,.inl 1])] [.L 4] []))]⟩
def GP:Fn:=⟨1,2,[(.fset (.L 0) 31083624820 [211529932] (.ZW .add (.fld (.L 0) 31083624820 [211529932]) (.Z3 (.int 1)))),(.ZE (.not (.fld (.L 0) 213628900 [211529932])) [.never] []),(.set (.nm 1) (.pop (.fld (.L 0) 213628900 [211529932]))),(.exp (.app (.fld (.L 0) 3500095911797 [211529932]) (.L 1))),(.ret (.Zg (.L 0) 213759207 [(211529932,33,[.inl 0,.inl 1])] [(.idx (.L 1) (.Z3 (.int 0)))] []))]⟩
def GO:Fn:=⟨1,2,[(.fset (.L 0) 31083624820 [211529932] (.ZW .add (.fld (.L 0) 31083624820 [211529932]) (.Z3 (.int 1)))),(.ZE (.not (.fld (.L 0) 3500095911797 [211529932])) [.never] []),(.set (.nm 1) (.pop (.fld (.L 0) 3500095911797 [211529932]))),(.exp (.app (.fld (.L 0) 213628900 [211529932]) (.L 1))),(.ret (.Zg (.L 0) 213759207 [(211529932,33,[.inl 0,.inl 1])] [(.idx (.L 1) (.Z3 (.int 1)))] []))]⟩
def EX:Fn:=⟨2,3,[(.set (.nm 2) (.X6 1 [0] [((.nm 0),.L 1,[])] (.L 0) (.idx (.fld (.L 1) 509789213455080 [211529932]) (.L 0)))),(.exp (.app (.fld (.L 0) 213628900 [211529932]) (.Z1 [.L 2,.L 1]))),(.exp (.Wd true (.fld (.L 0) 3500095911797 [211529932]))),(.ret (.Zg (.L 0) 213759207 [(211529932,33,[.inl 0,.inl 1])] [.L 1] []))]⟩
def EW:Fn:=⟨2,7,[(.fset (.L 0) 487627477906021 [211529932] (.ZW .add (.fld (.L 0) 487627477906021 [211529932]) (.Z3 (.int 1)))),(.set (.nm 2) (.comp 1 [1,0] [((.nm 0),.L 1,[(.cmp .ne (.idx (.L 1) (.L 0)) (.idx (.fld (.L 2) 509789213455080 [211529932]) (.L 0)))])] (.L 0))),(.set (.nm 3) (.call 21 [(.call 5 [(.fld (.L 0) 232289904 [211529932])]),.L 2])),(.set (.nm 4) (.comp 1 [0] [((.nm 0),.L 3,[])] (.Zg (.L 1) 1847527 [(211529932,38,[.inl 0,.inl 1])] [.L 0] []))),(.for (.nm 5) (.L 2) [(.sub (.fld (.L 0) 509789213455080 [211529932]) (.L 5) (.idx (.L 1) (.L 5))),(.sub (.fld (.L 0) 31083802852 [211529932]) (.L 5) (.fld (.L 0) 487627477906021 [211529932]))]),(.for (.nm 6) (.L 3) [(.sub (.fld (.L 0) 243020007 [211529932]) (.L 6) (.Z3 .ZN))]),(.ret (.comp 2 [0] [((.tp [0,1]),(.zip (.L 3) (.L 4)),[(.cmp .ne (.Zg (.L 2) 1847527 [(211529932,38,[.inl 0,.inl 1])] [.L 0] []) (.L 1))])] (.L 0)))]⟩
def EB:Fn:=⟨2,2,[(.ret (.cmp .Wh (.L 1) (.fld (.L 0) 243020007 [211529932])))]⟩
def Er:Fn:=⟨2,2,[(.ZE (.not (.Zg (.L 0) 31121471339 [(211529932,34,[.inl 0,.inl 1])] [.L 1] [])) [.never] [])]⟩
def EE:Fn:=⟨2,8,[(.exp (.Zg (.L 0) 1970067245619097943106220782 [(211529932,35,[.inl 0,.inl 1])] [.L 1] [])),(.set (.tp [2,3,4,5,6,7]) (.L 1)),(.ret (.comp 1 [0] [((.nm 0),(.Z1 [(.Z1 [.L 2,.L 3]),(.Z1 [.L 4,.L 5]),(.Z1 [.L 6,.L 7])]),[])] (.idx (.fld (.L 1) 509789213455080 [211529932]) (.L 0))))]⟩
def ES:Fn:=⟨2,2,[(.ret (.call 22 [.L 1,(.Zg (.L 0) 31089882344 [(211529932,36,[.inl 0,.inl 1])] [.L 1] [])]))]⟩
def EY:Fn:=⟨2,2,[(.exp (.Zg (.L 0) 1970067245619097943106220782 [(211529932,35,[.inl 0,.inl 1])] [.L 1] [])),(.ZE (.cmp .Xe (.idx (.fld (.L 0) 243020007 [211529932]) (.L 1)) (.Z3 .ZN)) [(.sub (.fld (.L 0) 243020007 [211529932]) (.L 1) (.Zg (.L 0) 56743007633339122 [(211529932,39,[.inl 0,.inl 1])] [.L 1] []))] []),(.ret (.idx (.fld (.L 0) 243020007 [211529932]) (.L 1)))]⟩
def Et:Fn:=⟨2,11,[(.set (.tp [2,3,4,5]) (.Zg (.L 0) 244872806 [(211529932,37,[.inl 0,.inl 1])] [.L 1] [])),(.set (.tp [6,7]) (.Z1 [(.neg (.Z3 (.int 1))),.Z3 .ZN])),(.for (.tp [8,9]) (.call 14 [.L 1]) [(.set (.nm 10) (.bi .abs [(.ZW .sub (.ZW .mul (.idx (.fld (.L 0) 509789213455080 [211529932]) (.Z1 [.L 8,.L 9])) (.L 5)) (.ZW .add (.ZW .add (.ZW .mul (.L 2) (.L 8)) (.ZW .mul (.L 3) (.L 9))) (.L 4)))])),(.ZE (.cmp .gt (.L 10) (.L 6)) [(.par 6 7 (.L 10) (.Z1 [.L 8,.L 9]))] [])]),(.ret (.Z1 [(.call 15 [.L 6,(.bi .abs [.L 5])]),.L 7]))]⟩
def EC:Fn:=⟨1,1,[(.ret (.and (.YR (.L 0) .Wg) (.not (.YR (.L 0) .We))))]⟩
def EO:Fn:=⟨2,3,[(.ZE (.cmp .Xe (.L 1) (.Z3 .ZN)) [(.ret (.cmp .Xe (.L 0) (.Z3 .ZN)))] []),(.ZE (.YR (.L 1) .We) [(.ret (.and (.YR (.L 0) .We) (.cmp .eq (.L 0) (.L 1))))] []),(.ZE (.YR (.L 1) .Wg) [(.ret (.and (.call 40 [.L 0]) (.cmp .eq (.L 0) (.L 1))))] []),(.ZE (.YR (.L 1) .Vf) [(.ret (.and (.YR (.L 0) .Vf) (.cmp .eq (.L 0) (.L 1))))] []),(.ZE (.and (.YR (.L 1) .Ve) (.not (.YR (.L 0) .Ve))) [(.ret (.Z3 (.bl false)))] []),(.ZE (.and (.YR (.L 1) .VI) (.not (.YR (.L 0) .VI))) [(.ret (.Z3 (.bl false)))] []),(.ZE (.cmp .ne (.bi .len [.L 0]) (.bi .len [.L 1])) [(.ret (.Z3 (.bl false)))] []),(.for (.nm 2) (.YM (.bi .len [.L 1])) [(.ZE (.not (.call 41 [(.idx (.L 0) (.L 2)),(.idx (.L 1) (.L 2))])) [(.ret (.Z3 (.bl false)))] [])]),(.ret (.Z3 (.bl true)))]⟩
def E2:Fn:=⟨1,1,[(.ret (.S [(.bi .list [(.XU (.L 0) none (some (.Z3 (.int 63))))]),(.Z3 (.int 0)),(.Z3 (.int 7))]))]⟩
def EJ:Fn:=⟨2,5,[(.set (.nm 2) (.idx (.L 0) (.Z3 (.int 0)))),(.set (.nm 3) (.idx (.L 0) (.Z3 (.int 1)))),(.set (.nm 4) (.Z3 (.int 0))),(.ZE (.cmp .gt (.bi .len [.L 2]) (.Z3 (.int 0))) [(.set (.nm 4) (.idx (.L 2) (.ZW .mod (.L 3) (.bi .len [.L 2]))))] []),(.ZE (.cmp .lt (.L 4) (.Z3 (.int 0))) [(.set (.nm 4) (.ZW .sub (.Z3 (.int 1)) (.L 4)))] []),(.ZE (.cmp .ge (.L 4) (.ZW .pow (.Z3 (.int 10)) (.Z3 (.int 18)))) [(.sub (.L 2) (.ZW .mod (.L 3) (.bi .len [.L 2])) (.ZW .fdiv (.L 4) (.L 1))),(.ret (.ZW .mod (.L 4) (.L 1)))] []),(.sub (.L 0) (.Z3 (.int 1)) (.ZW .add (.L 3) (.Z3 (.int 1)))),(.sub (.L 0) (.Z3 (.int 2)) (.ZW .mod (.ZW .add (.ZW .add (.ZW .add (.ZW .mul (.idx (.L 0) (.Z3 (.int 2))) (.Z3 (.int 48271))) (.ZW .mul (.L 4) (.Z3 (.int 9973)))) (.ZW .mul (.L 3) (.Z3 (.int 31)))) (.Z3 (.int 11))) (.Z3 (.int 2147483647)))),(.ret (.ZW .mod (.ZW .fdiv (.ZW .mod (.ZW .mul (.idx (.L 0) (.Z3 (.int 2))) (.Z3 (.int 69621))) (.Z3 (.int 2147483629))) (.Z3 (.int 64))) (.L 1)))]⟩
def EA:Fn:=⟨1,4,[(.set (.nm 1) (.S [])),(.for (.nm 2) (.YM (.ZW .add (.ZW .mul (.idx (.L 0) (.Z3 (.int 0))) (.idx (.L 0) (.Z3 (.int 2)))) (.Z3 (.int 1)))) [(.for (.nm 3) (.YM (.ZW .add (.ZW .mul (.idx (.L 0) (.Z3 (.int 1))) (.idx (.L 0) (.Z3 (.int 2)))) (.Z3 (.int 1)))) [(.exp (.app (.L 1) (.Z1 [.L 2,.L 3])))])]),(.ret (.L 1))]⟩
def E6:Fn:=⟨2,2,[(.ret (.and (.chain .le .le (.Z3 (.int 0)) (.idx (.L 1) (.Z3 (.int 0))) (.ZW .mul (.idx (.L 0) (.Z3 (.int 0))) (.idx (.L 0) (.Z3 (.int 2))))) (.chain .le .le (.Z3 (.int 0)) (.idx (.L 1) (.Z3 (.int 1))) (.ZW .mul (.idx (.L 0) (.Z3 (.int 1))) (.idx (.L 0) (.Z3 (.int 2)))))))]⟩
def EU:Fn:=⟨2,2,[(.ZE (.cmp .eq (.L 1) (.Z3 (.int 0))) [(.ret (.idx (.S [(.Z3 (.int 0)),(.Z3 (.int 0)),(.Z3 (.int 0)),(.Z3 (.int 0)),(.Z3 (.int 0)),(.Z3 (.int 7)),(.ZW .sub (.Z3 (.int 0)) (.Z3 (.int 5)))]) (.call 43 [.L 0,(.Z3 (.int 7))])))] []),(.ZE (.cmp .eq (.L 1) (.Z3 (.int 1))) [(.ret (.ZW .sub (.call 43 [.L 0,(.Z3 (.int 7))]) (.Z3 (.int 3))))] []),(.ZE (.cmp .eq (.L 1) (.Z3 (.int 2))) [(.ret (.ZW .sub (.call 43 [.L 0,(.Z3 (.int 2001))]) (.Z3 (.int 1000))))] []),(.ZE (.cmp .eq (.L 1) (.Z3 (.int 3))) [(.ret (.ZW .sub (.ZW .mul (.call 43 [.L 0,(.Z3 (.int 2))]) (.Z3 (.int 2000))) (.Z3 (.int 1000))))] []),(.ret (.Z3 (.int 0)))]⟩
def Eu:Fn:=⟨2,7,[(.set (.nm 2) (.call 43 [.L 0,(.Z3 (.int 6))])),(.set (.nm 3) (.ZW .sub (.call 43 [.L 0,(.Z3 (.int 41))]) (.Z3 (.int 20)))),(.set (.nm 4) (.ZW .sub (.call 43 [.L 0,(.Z3 (.int 41))]) (.Z3 (.int 20)))),(.set (.nm 5) .XT),(.for (.nm 6) (.call 44 [.L 1]) [(.sub (.L 5) (.L 6) (.call 46 [.L 0,.L 2])),(.ZE (.cmp .eq (.L 2) (.Z3 (.int 5))) [(.sub (.L 5) (.L 6) (.ZW .add (.ZW .add (.ZW .mul (.L 3) (.idx (.L 6) (.Z3 (.int 0)))) (.ZW .mul (.L 4) (.idx (.L 6) (.Z3 (.int 1))))) (.idx (.S [(.Z3 (.int 0)),(.Z3 (.int 0)),(.Z3 (.int 0)),(.Z3 (.int 1))]) (.call 43 [.L 0,(.Z3 (.int 4))]))))] [])]),(.ret (.L 5))]⟩
def EL:Fn:=⟨2,4,[(.set (.nm 2) (.S [])),(.for (.nm 3) (.YM (.ZW .add (.ZW .mul (.idx (.L 0) (.Z3 (.int 1))) (.idx (.L 0) (.Z3 (.int 2)))) (.Z3 (.int 1)))) [(.exp (.app (.L 2) (.comp 1 [1,3] [((.nm 0),(.YM (.ZW .add (.ZW .mul (.idx (.L 0) (.Z3 (.int 0))) (.idx (.L 0) (.Z3 (.int 2)))) (.Z3 (.int 1)))),[])] (.idx (.L 1) (.Z1 [.L 0,.L 2])))))]),(.ret (.L 2))]⟩
def EF:Fn:=⟨1,2,[(.set (.nm 1) (.S [(.Z1 [(.Z3 (.int 1)),(.Z3 (.int 1)),(.Z3 (.int 2))]),(.Z1 [(.Z3 (.int 1)),(.Z3 (.int 1)),(.Z3 (.int 4))]),(.Z1 [(.Z3 (.int 2)),(.Z3 (.int 1)),(.Z3 (.int 2))]),(.Z1 [(.Z3 (.int 1)),(.Z3 (.int 2)),(.Z3 (.int 2))]),(.Z1 [(.Z3 (.int 2)),(.Z3 (.int 2)),(.Z3 (.int 2))]),(.Z1 [(.Z3 (.int 1)),(.Z3 (.int 1)),(.Z3 (.int 4))]),(.Z1 [(.Z3 (.int 1)),(.Z3 (.int 3)),(.Z3 (.int 2))])])),(.ret (.idx (.L 1) (.call 43 [.L 0,(.Z3 (.int 7))])))]⟩
def ED:Fn:=⟨2,2,[(.ret (.Z1 [(.call 43 [.L 0,(.ZW .add (.ZW .mul (.idx (.L 1) (.Z3 (.int 0))) (.idx (.L 1) (.Z3 (.int 2)))) (.Z3 (.int 1)))]),(.call 43 [.L 0,(.ZW .add (.ZW .mul (.idx (.L 1) (.Z3 (.int 1))) (.idx (.L 1) (.Z3 (.int 2)))) (.Z3 (.int 1)))])]))]⟩
def EK:Fn:=⟨3,9,[(.set (.nm 3) (.call 43 [.L 0,(.Z3 (.int 11))])),(.set (.nm 4) (.call 43 [.L 0,(.Z3 (.int 5))])),(.ZE (.cmp .gt (.L 3) (.Z3 (.int 8))) [(.ret (.Z1 [(.Z3 (.str (PySem.Str.ofString "redo"))),.S []]))] []),(.ZE (.cmp .gt (.L 3) (.Z3 (.int 5))) [(.ret (.Z1 [(.Z3 (.str (PySem.Str.ofString "undo"))),.S []]))] []),(.ZE (.cmp .gt (.L 3) (.Z3 (.int 3))) [(.set (.nm 5) (.idx (.S [(.Z3 (.int 1)),(.ZW .sub (.Z3 (.int 0)) (.Z3 (.int 1))),(.Z3 (.int 5)),(.Z3 (.int 0)),(.Z3 (.int 700)),(.ZW .sub (.Z3 (.int 0)) (.Z3 (.int 1300)))]) (.call 43 [.L 0,(.Z3 (.int 6))]))),(.ret (.Z1 [(.Z3 (.str (PySem.Str.ofString "lift"))),(.S [(.Z1 [(.call 50 [.L 0,.L 1]),.L 5]),(.Z1 [(.call 50 [.L 0,.L 1]),.L 5])])]))] []),(.set (.nm 6) (.Z3 (.str (PySem.Str.ofString "put")))),(.set (.nm 7) (.Z3 (.int 1))),(.ZE (.cmp .lt (.L 3) (.Z3 (.int 2))) [(.set (.nm 6) (.Z3 (.str (PySem.Str.ofString "edit")))),(.set (.nm 7) (.call 43 [.L 0,(.Z3 (.int 5))]))] []),(.set (.nm 8) (.comp 1 [0,1,4] [((.nm 0),(.YM (.L 7)),[])] (.Z1 [(.call 50 [.L 1,.L 2]),(.call 46 [.L 1,.L 3])]))),(.ZE (.and (.cmp .gt (.L 7) (.Z3 (.int 1))) (.cmp .eq (.call 43 [.L 0,(.Z3 (.int 3))]) (.Z3 (.int 0)))) [(.sub (.L 8) (.neg (.Z3 (.int 1))) (.Z1 [(.idx (.idx (.L 8) (.Z3 (.int 0))) (.Z3 (.int 0))),(.idx (.idx (.L 8) (.neg (.Z3 (.int 1)))) (.Z3 (.int 1)))]))] []),(.ZE (.and (.cmp .gt (.L 7) (.Z3 (.int 1))) (.cmp .eq (.call 43 [.L 0,(.Z3 (.int 3))]) (.Z3 (.int 0)))) [(.sub (.L 8) (.neg (.Z3 (.int 1))) (.Z1 [(.idx (.idx (.L 8) (.Z3 (.int 0))) (.Z3 (.int 0))),(.idx (.L 2) (.idx (.idx (.L 8) (.Z3 (.int 0))) (.Z3 (.int 0))))]))] []),(.ret (.Z1 [.L 6,.L 8]))]⟩
def EI:Fn:=⟨1,3,[(.set (.nm 1) .XT),(.for (.nm 2) (.L 0) [(.sub (.L 1) (.L 2) (.Z3 (.int 0)))]),(.ret (.Wc [(PySem.Str.ofString "heights"),(PySem.Str.ofString "edition"),(PySem.Str.ofString "tries"),(PySem.Str.ofString "made"),(PySem.Str.ofString "done"),(PySem.Str.ofString "undone")] [(.bi .Vg [.L 0]),(.Z3 (.int 0)),(.Z3 (.int 0)),.L 1,.S [],.S []]))]⟩
def E1:Fn:=⟨4,7,[(.set (.nm 4) (.S [])),(.for (.nm 5) (.Yn (.bi .mn [(.idx (.L 1) (.Z3 (.int 0))),(.idx (.L 2) (.Z3 (.int 0)))]) (.ZW .add (.bi .mx [(.idx (.L 1) (.Z3 (.int 0))),(.idx (.L 2) (.Z3 (.int 0)))]) (.Z3 (.int 1)))) [(.for (.nm 6) (.Yn (.bi .mn [(.idx (.L 1) (.Z3 (.int 1))),(.idx (.L 2) (.Z3 (.int 1)))]) (.ZW .add (.bi .mx [(.idx (.L 1) (.Z3 (.int 1))),(.idx (.L 2) (.Z3 (.int 1)))]) (.Z3 (.int 1)))) [(.exp (.app (.L 4) (.Z1 [(.Z1 [.L 5,.L 6]),(.ZW .add (.idx (.idx (.L 0) (.Z3 (.str (PySem.Str.ofString "heights")))) (.Z1 [.L 5,.L 6])) (.L 3))])))])]),(.ret (.L 4))]⟩
def DB:Fn:=⟨3,8,[(.set (.tp [3,4]) (.L 2)),(.ZE (.and (.cmp .eq (.L 3) (.Z3 (.str (PySem.Str.ofString "undo")))) (.cmp .eq (.bi .len [(.idx (.L 1) (.Z3 (.str (PySem.Str.ofString "done"))))]) (.Z3 (.int 0)))) [(.ret (.Z1 [(.Z3 (.str (PySem.Str.ofString "left"))),(.Z3 (.bl true)),(.Z3 (.bl false))]))] []),(.ZE (.and (.cmp .eq (.L 3) (.Z3 (.str (PySem.Str.ofString "redo")))) (.cmp .eq (.bi .len [(.idx (.L 1) (.Z3 (.str (PySem.Str.ofString "undone"))))]) (.Z3 (.int 0)))) [(.ret (.Z1 [(.Z3 (.str (PySem.Str.ofString "left"))),(.Z3 (.bl true)),(.Z3 (.bl false))]))] []),(.ZE (.cmp .eq (.L 3) (.Z3 (.str (PySem.Str.ofString "lift")))) [(.for (.tp [5,6]) (.L 4) [(.ZE (.not (.call 45 [.L 0,.L 5])) [(.ret (.Z1 [(.Z3 (.str (PySem.Str.ofString "place"))),.L 5]))] [])]),(.set (.nm 4) (.call 53 [.L 1,(.idx (.idx (.L 4) (.Z3 (.int 0))) (.Z3 (.int 0))),(.idx (.idx (.L 4) (.Z3 (.int 1))) (.Z3 (.int 0))),(.idx (.idx (.L 4) (.Z3 (.int 0))) (.Z3 (.int 1)))]))] []),(.for (.tp [5,7]) (.L 4) [(.ZE (.not (.call 45 [.L 0,.L 5])) [(.ret (.Z1 [(.Z3 (.str (PySem.Str.ofString "place"))),.L 5]))] []),(.ZE (.or (.not (.call 40 [.L 7])) (.cmp .gt (.bi .abs [.L 7]) (.Z3 (.int 1000)))) [(.ret (.Z1 [(.Z3 (.str (PySem.Str.ofString "high"))),.L 5,.L 7]))] [])]),(.ret (.Z3 .ZN))]⟩
def Cg:Fn:=⟨3,10,[(.sub (.L 1) (.Z3 (.str (PySem.Str.ofString "tries"))) (.ZW .add (.idx (.L 1) (.Z3 (.str (PySem.Str.ofString "tries")))) (.Z3 (.int 1)))),(.set (.nm 3) (.call 54 [.L 0,.L 1,.L 2])),(.ZE (.cmp .Wi (.L 3) (.Z3 .ZN)) [(.ret (.L 3))] []),(.set (.tp [4,5]) (.L 2)),(.set (.nm 6) (.idx (.L 1) (.Z3 (.str (PySem.Str.ofString "heights"))))),(.set (.nm 7) (.bi .Vg [.L 6])),(.ZE (.cmp .eq (.L 4) (.Z3 (.str (PySem.Str.ofString "undo")))) [(.exp (.app (.idx (.L 1) (.Z3 (.str (PySem.Str.ofString "undone")))) (.L 7))),.never] [(.ZE (.cmp .eq (.L 4) (.Z3 (.str (PySem.Str.ofString "redo")))) [(.exp (.app (.idx (.L 1) (.Z3 (.str (PySem.Str.ofString "done")))) (.L 7))),.never] [(.ZE (.cmp .eq (.L 4) (.Z3 (.str (PySem.Str.ofString "lift")))) [(.set (.nm 5) (.call 53 [.L 1,(.idx (.idx (.L 5) (.Z3 (.int 0))) (.Z3 (.int 0))),(.idx (.idx (.L 5) (.Z3 (.int 1))) (.Z3 (.int 0))),(.idx (.idx (.L 5) (.Z3 (.int 0))) (.Z3 (.int 1)))]))] []),(.for (.tp [8,9]) (.L 5) [(.sub (.L 6) (.L 8) (.L 9))]),(.exp (.app (.idx (.L 1) (.Z3 (.str (PySem.Str.ofString "done")))) (.L 7))),(.sub (.L 1) (.Z3 (.str (PySem.Str.ofString "undone"))) (.S []))])]),(.sub (.L 1) (.Z3 (.str (PySem.Str.ofString "edition"))) (.ZW .add (.idx (.L 1) (.Z3 (.str (PySem.Str.ofString "edition")))) (.Z3 (.int 1)))),(.for (.nm 8) (.L 7) [(.ZE (.cmp .ne (.idx (.L 7) (.L 8)) (.idx (.L 6) (.L 8))) [(.sub (.idx (.L 1) (.Z3 (.str (PySem.Str.ofString "made")))) (.L 8) (.idx (.L 1) (.Z3 (.str (PySem.Str.ofString "edition")))))] [])]),(.ret (.Z3 .ZN))]⟩
def CQ:Fn:=⟨2,4,[(.set (.tp [2,3]) (.L 1)),(.ZE (.cmp .eq (.L 2) (.Z3 (.str (PySem.Str.ofString "undo")))) [(.ret (.Zg (.L 0) 234436469 [(211529932,30,[.inl 0])] [] []))] []),(.ZE (.cmp .eq (.L 2) (.Z3 (.str (PySem.Str.ofString "redo")))) [(.ret (.Zg (.L 0) 234435314 [(211529932,31,[.inl 0])] [] []))] []),(.ZE (.cmp .eq (.L 2) (.Z3 (.str (PySem.Str.ofString "put")))) [(.ret (.Zg (.L 0) 1915632 [(211529932,27,[.inl 0,.inl 1,.inl 2])] [(.idx (.idx (.L 3) (.Z3 (.int 0))) (.Z3 (.int 0))),(.idx (.idx (.L 3) (.Z3 (.int 0))) (.Z3 (.int 1)))] []))] []),(.ZE (.cmp .eq (.L 2) (.Z3 (.str (PySem.Str.ofString "edit")))) [(.ret (.Zg (.L 0) 245002853 [(211529932,28,[.inl 0,.inl 1])] [.L 3] []))] []),(.ZE (.cmp .eq (.idx (.idx (.L 3) (.Z3 (.int 0))) (.Z3 (.int 1))) (.Z3 (.int 1))) [(.ret (.Zg (.L 0) 244954348 [(211529932,29,[.inl 0,.inl 1,.inl 2,(.inr (.int 1))])] [(.idx (.idx (.L 3) (.Z3 (.int 0))) (.Z3 (.int 0))),(.idx (.idx (.L 3) (.Z3 (.int 1))) (.Z3 (.int 0)))] []))] []),(.ret (.Zg (.L 0) 244954348 [(211529932,29,[.inl 0,.inl 1,.inl 2,.inl 3])] [(.idx (.idx (.L 3) (.Z3 (.int 0))) (.Z3 (.int 0))),(.idx (.idx (.L 3) (.Z3 (.int 1))) (.Z3 (.int 0)))] [(.idx (.idx (.L 3) (.Z3 (.int 0))) (.Z3 (.int 1)))]))]⟩
def E4:Fn:=⟨2,4,[(.set (.nm 2) (.Z3 .ZN)),(.ZE (.Z3 (.bl true)) [(.set (.nm 2) (.call 56 [.L 0,.L 1]))] []),(.ret (.L 2))]⟩
def Ez:Fn:=⟨3,5,[(.set (.nm 3) (.and (.call 41 [(.Zg (.L 0) 243136498 [(211529932,25,[.inl 0])] [] []),(.call 48 [.L 1,(.idx (.L 2) (.Z3 (.str (PySem.Str.ofString "heights"))))])]) (.call 41 [(.fld (.L 0) 232289904 [211529932]),.L 1]))),(.set (.nm 3) (.and (.L 3) (.and (.call 41 [(.fld (.L 0) 487627477906021 [211529932]),(.idx (.L 2) (.Z3 (.str (PySem.Str.ofString "edition"))))]) (.call 41 [(.fld (.L 0) 31083624820 [211529932]),(.idx (.L 2) (.Z3 (.str (PySem.Str.ofString "tries"))))])))),(.VG [(.for (.nm 4) (.idx (.L 2) (.Z3 (.str (PySem.Str.ofString "made")))) [(.set (.nm 3) (.and (.L 3) (.call 41 [(.Zg (.L 0) 27321414899 [(211529932,26,[.inl 0,.inl 1])] [.L 4] []),(.idx (.idx (.L 2) (.Z3 (.str (PySem.Str.ofString "made")))) (.L 4))]))),(.set (.nm 3) (.and (.L 3) (.call 41 [(.Zg (.L 0) 4013864678120 [(211529932,24,[.inl 0,.inl 1])] [.L 4] []),(.idx (.idx (.L 2) (.Z3 (.str (PySem.Str.ofString "heights")))) (.L 4))])))])]),(.ret (.L 3))]⟩
def Ct:Fn:=⟨1,11,[(.set (.nm 1) (.call 42 [.L 0])),(.set (.nm 2) (.call 49 [.L 1])),(.set (.nm 3) (.call 47 [.L 1,.L 2])),(.set (.nm 4) (.make 211529932 23 [.L 2,(.call 48 [.L 2,.L 3])] [] [.inl 0,.inl 1,.inl 2])),(.set (.nm 5) (.call 52 [.L 3])),(.set (.nm 6) (.Z3 (.bl true))),(.for (.nm 7) (.YM (.Z3 (.int 6))) [(.set (.nm 8) (.call 51 [.L 1,.L 2,(.idx (.L 5) (.Z3 (.str (PySem.Str.ofString "heights"))))])),(.ZE (.cmp .Wh (.idx (.L 8) (.Z3 (.int 0))) (.S [(.Z3 (.str (PySem.Str.ofString "undo"))),(.Z3 (.str (PySem.Str.ofString "redo")))])) [(.set (.nm 8) (.Z1 [(.Z3 (.str (PySem.Str.ofString "put"))),(.S [(.Z1 [(.call 50 [.L 1,.L 2]),(.ZW .sub (.call 43 [.L 1,(.Z3 (.int 2001))]) (.Z3 (.int 1000)))])])]))] []),(.ZE (.cmp .Xe (.call 54 [.L 2,.L 5,.L 8]) (.Z3 .ZN)) [(.set (.nm 9) (.bi .list [(.idx (.L 8) (.Z3 (.int 1)))])),(.set (.nm 10) (.call 57 [.L 4,(.Z1 [(.idx (.L 8) (.Z3 (.int 0))),.L 9])])),(.exp (.call 55 [.L 2,.L 5,.L 8])),(.set (.nm 6) (.and (.L 6) (.and (.YR (.L 10) .VI) (.cmp .eq (.L 9) (.idx (.L 8) (.Z3 (.int 1))))))),(.exp (.app (.L 9) (.Z3 .ZN))),(.set (.nm 6) (.and (.L 6) (.call 58 [.L 4,.L 2,.L 5])))] [])]),(.ret (.L 6))]⟩
def M:List Fn:=[EZ,E8,EG,GQ,Ey,Fp,Fe,Fc,Fx,E9,Ft,FC,Ff,Fd,Fk,Fm,Fg,Ew,ET,EN,E5,E7,Fq,Es,Ex,EM,EH,E3,ER,EV,GP,GO,EX,EW,EB,Er,EE,ES,EY,Et,EC,EO,E2,EJ,EA,E6,EU,Eu,EL,EF,ED,EK,EI,E1,DB,Cg,CQ,E4,Ez,Ct]
end ZG
end
section
namespace ZG
noncomputable section
open PySem PI L2
def AQ:List Inf:=[⟨"is_whole",["thing"],["thing"],none,none⟩,⟨"in_land",["plan","at","wide","deep","side","x","y"],["plan","at"],none,none⟩,⟨"need_place",["plan","at"],["plan","at"],none,none⟩,⟨"places",["plan","wide","deep","side"],["plan"],none,none⟩,⟨"block_roots",["i","j","side","x","y","right","top"],["i","j","side"],none,none⟩,⟨"roots",["plan","wide","deep","side"],["plan"],none,none⟩,⟨"middle",["shape","ax","ay","bx","by"],["shape"],none,none⟩,⟨"halved",["shape","place","x","y","ax","ay","bx","by","cx","cy"],["shape"],none,none⟩,⟨"kin",["starts","told","waiting","shape"],["starts"],none,none⟩,⟨"shapes",["plan"],["plan"],none,none⟩,⟨"turn",["ax","ay","bx","by","at","x","y"],["ax","ay","bx","by","at"],none,none⟩,⟨"box",["shape","ax","ay","bx","by","cx","cy"],["shape"],none,none⟩,⟨"in_box",["shape","at","left","low","right","high","x","y"],["shape","at"],none,none⟩,⟨"covers",["shape","at","ax","ay","bx","by","cx","cy","turns"],["shape","at"],none,none⟩,⟨"under",["shape","left","low","right","high"],["shape"],none,none⟩,⟨"share",["over","under","divisor"],["over","under"],none,none⟩,⟨"common",["one","other"],["one","other"],none,none⟩,⟨"need_height",["at","high"],["at","high"],none,none⟩,⟨"need_size",["things","size"],["things","size"],none,none⟩,⟨"read_rows",["plan","rows","wide","deep","side","row","heights","y","x","high"],["plan","rows"],none,none⟩,⟨"between",["one","other","left","right","low","top"],["one","other"],none,none⟩,⟨"touched",["starts","changed","told","shape","found"],["starts","changed"],none,none⟩,⟨"plane",["shape","highs","ax","ay","bx","by","cx","cy","start","first","second","whole","rise","climb"],["shape","highs"],none,none⟩,⟨"Land.__init__",["self","plan","rows"],["self","plan","rows"],some ("Land","__init__"),some (⟨["self","plan","rows"],[],[("rows",.ZN)]⟩,1)⟩,⟨"Land.height",["self","at"],["self","at"],some ("Land","height"),some (⟨["self","at"],[],[]⟩,0)⟩,⟨"Land.rows",["self","wide","deep","side"],["self"],some ("Land","rows"),some (⟨["self"],[],[]⟩,0)⟩,⟨"Land.since",["self","at"],["self","at"],some ("Land","since"),some (⟨["self","at"],[],[]⟩,0)⟩,⟨"Land.put",["self","at","high"],["self","at","high"],some ("Land","put"),some (⟨["self","at","high"],[],[]⟩,0)⟩,⟨"Land.edit",["self","changes","news","at","high"],["self","changes"],some ("Land","edit"),some (⟨["self","changes"],[],[]⟩,0)⟩,⟨"Land.lift",["self","one","other","by","news","at","high"],["self","one","other","by"],some ("Land","lift"),some (⟨["self","one","other"],["by"],[("by",(.int 1))]⟩,0)⟩,⟨"Land.undo",["self","deed"],["self"],some ("Land","undo"),some (⟨["self"],[],[]⟩,0)⟩,⟨"Land.redo",["self","deed"],["self"],some ("Land","redo"),some (⟨["self"],[],[]⟩,0)⟩,⟨"Land.act",["self","news","olds"],["self","news"],some ("Land","act"),some (⟨["self","news"],[],[]⟩,0)⟩,⟨"Land.give",["self","highs","changed","near","before","at","shape"],["self","highs"],some ("Land","give"),some (⟨["self","highs"],[],[]⟩,0)⟩,⟨"Land.knows",["self","shape"],["self","shape"],some ("Land","knows"),some (⟨["self","shape"],[],[]⟩,0)⟩,⟨"Land.need_triangle",["self","shape"],["self","shape"],some ("Land","need_triangle"),some (⟨["self","shape"],[],[]⟩,0)⟩,⟨"Land.highs",["self","shape","ax","ay","bx","by","cx","cy"],["self","shape"],some ("Land","highs"),some (⟨["self","shape"],[],[]⟩,0)⟩,⟨"Land.flat",["self","shape"],["self","shape"],some ("Land","flat"),some (⟨["self","shape"],[],[]⟩,0)⟩,⟨"Land.gap",["self","shape"],["self","shape"],some ("Land","gap"),some (⟨["self","shape"],[],[]⟩,0)⟩,⟨"Land.reckoned",["self","shape","rise","climb","base","whole","greatest","where","x","y","distance"],["self","shape"],some ("Land","reckoned"),some (⟨["self","shape"],[],[]⟩,0)⟩,⟨"_law_whole",["_law_found"],["_law_found"],none,none⟩,⟨"_law_same",["_law_found","_law_due","_law_k"],["_law_found","_law_due"],none,none⟩,⟨"_law_bag",["_law_script"],["_law_script"],none,none⟩,⟨"_law_draw",["_law_bag_here","_law_many","_law_cells","_law_at","_law_cell"],["_law_bag_here","_law_many"],none,none⟩,⟨"_law_places",["_law_plan","_law_found","_law_x","_law_y"],["_law_plan"],none,none⟩,⟨"_law_in",["_law_plan","_law_at"],["_law_plan","_law_at"],none,none⟩,⟨"_law_high",["_law_bag_here","_law_kind"],["_law_bag_here","_law_kind"],none,none⟩,⟨"_law_heights",["_law_bag_here","_law_plan","_law_kind","_law_across","_law_along","_law_found","_law_at"],["_law_bag_here","_law_plan"],none,none⟩,⟨"_law_rows",["_law_plan","_law_heights_here","_law_found","_law_y"],["_law_plan","_law_heights_here"],none,none⟩,⟨"_law_small",["_law_bag_here","_law_menu"],["_law_bag_here"],none,none⟩,⟨"_law_place",["_law_bag_here","_law_plan"],["_law_bag_here","_law_plan"],none,none⟩,⟨"_law_deed",["_law_bag_here","_law_plan","_law_heights_here","_law_kind","_law_style","_law_more","_law_word","_law_many","_law_changes"],["_law_bag_here","_law_plan","_law_heights_here"],none,none⟩,⟨"_law_model",["_law_heights_here","_law_made","_law_at"],["_law_heights_here"],none,none⟩,⟨"_law_box",["_law_model_here","_law_one","_law_other","_law_more","_law_found","_law_x","_law_y"],["_law_model_here","_law_one","_law_other","_law_more"],none,none⟩,⟨"_law_wrong",["_law_plan","_law_model_here","_law_deed_here","_law_word","_law_changes","_law_at","_law_more","_law_high_here"],["_law_plan","_law_model_here","_law_deed_here"],none,none⟩,⟨"_law_apply",["_law_plan","_law_model_here","_law_deed_here","_law_wrong_here","_law_word","_law_changes","_law_heights_here","_law_before","_law_at","_law_high_here"],["_law_plan","_law_model_here","_law_deed_here"],none,none⟩,⟨"_law_call",["_law_land","_law_deed_here","_law_word","_law_changes"],["_law_land","_law_deed_here"],none,none⟩,⟨"_law_do",["_law_land","_law_deed_here","_law_told","e"],["_law_land","_law_deed_here"],none,none⟩,⟨"_law_stands",["_law_land","_law_plan","_law_model_here","_law_good","_law_at"],["_law_land","_law_plan","_law_model_here"],none,none⟩,⟨"law",["_law_script","_law_bag_here","_law_plan","_law_heights_here","_law_land","_law_model_here","_law_good","_law_k","_law_deed_here","_law_handed","_law_told"],["_law_script"],none,none⟩]
def ms:List Str:=["__init__","act","edit","flat","gap","give","height","highs","knows","lift","need_triangle","put","reckoned","redo","rows","since","undo"]
def T:Tab:=⟨(["is_whole","in_land","need_place","places","block_roots","roots","middle","halved","kin","shapes","turn","box","in_box","covers","under","share","common","need_height","need_size","read_rows","between","touched","plane","__debug__","__debug__","__debug__","__debug__","__debug__","__debug__","__debug__","__debug__","__debug__","__debug__","__debug__","__debug__","__debug__","__debug__","__debug__","__debug__","__debug__","_law_whole","_law_same","_law_bag","_law_draw","_law_places","_law_in","_law_high","_law_heights","_law_rows","_law_small","_law_place","_law_deed","_law_model","_law_box","_law_wrong","_law_apply","_law_call","_law_do","_law_stands","law"].map Str.ofString),[("HIGH",(.int 1000))],["abs","bool","dict","enumerate","int","isinstance","len","list","max","min","range","sorted","str","tuple","zip"],Dm AQ,Dj AQ,Dc AQ ms,[("plan",[211529932]),("edition",[211529932]),("tries",[211529932]),("dates",[211529932]),("done",[211529932]),("undone",[211529932]),("gaps",[211529932]),("heights",[211529932]),("update",[211529932]),("at",[211529932]),("high",[211529932])],[("Land",211529932)],["_law_land"]⟩
def loose:List Str:=(["_wall","LandError","LookError","NoShare","BadSize","BadHeight","NoHalf","NoPlace","NoTriangle","NothingLeft","is_whole","in_land","need_place","places","block_roots","roots","middle","halved","kin","shapes","turn","box","in_box","covers","under","share","common","HIGH","need_height","need_size","read_rows","between","touched","plane","Land","_law_whole","_law_same","_law_bag","_law_draw","_law_places","_law_in","_law_high","_law_heights","_law_rows","_law_small","_law_place","_law_deed","_law_model","_law_box","_law_wrong","_law_apply","_law_call","_law_do","_law_stands"].map Str.ofString)
end
end ZG
end
section
open PySem PySem.W PyProof.Rows
noncomputable def ZG.Xc:List (Option (Scope×List Stmt)):=[PI.Ak #[0] 12,PI.Ak #[0] 13,PI.Ak #[0] 14,PI.Ak #[0] 15,PI.Ak #[0] 17,PI.Ak #[0] 18,PI.Ak #[0] 19,PI.Ak #[0] 20,PI.Ak #[0] 21,PI.Ak #[0] 22,PI.Ak #[0] 23,PI.Ak #[0] 24,PI.Ak #[0] 25,PI.Ak #[0] 26,PI.Ak #[0] 27,PI.Ak #[0] 29,PI.Ak #[0] 30,PI.Ak #[0] 33,PI.Ak #[0] 34,PI.Ak #[0] 35,PI.Ak #[0] 36,PI.Ak #[0] 37,PI.Ak #[0] 38,PI.AJ #[0] 39 0,PI.AJ #[0] 39 2,PI.AJ #[0] 39 3,PI.AJ #[0] 39 4,PI.AJ #[0] 39 5,PI.AJ #[0] 39 6,PI.AJ #[0] 39 7,PI.AJ #[0] 39 8,PI.AJ #[0] 39 9,PI.AJ #[0] 39 10,PI.AJ #[0] 39 11,PI.AJ #[0] 39 12,PI.AJ #[0] 39 13,PI.AJ #[0] 39 14,PI.AJ #[0] 39 15,PI.AJ #[0] 39 16,PI.AJ #[0] 39 17,PI.Ak #[0] 41,PI.Ak #[0] 42,PI.Ak #[0] 43,PI.Ak #[0] 44,PI.Ak #[0] 45,PI.Ak #[0] 46,PI.Ak #[0] 47,PI.Ak #[0] 48,PI.Ak #[0] 49,PI.Ak #[0] 50,PI.Ak #[0] 51,PI.Ak #[0] 52,PI.Ak #[0] 53,PI.Ak #[0] 54,PI.Ak #[0] 55,PI.Ak #[0] 56,PI.Ak #[0] 57,PI.Ak #[0] 58,PI.Ak #[0] 59,PI.Ak #[0] 60]
def ZG.T1(w:World):(PI.endsF PySem.Challenge.rw_braemantle_k34_good_deeds.prog w 20000).map (λs=>(Fast.tw4187177175401517315 (PI.lastOf PySem.Challenge.rw_braemantle_k34_good_deeds.prog) ZG.loose (PySem.importedModules #[0]) (λ_=>true) true s,PI.Eg ZG.T (PI.AU s.heap) ZG.AQ))=some (openGood (PI.lastOf PySem.Challenge.rw_braemantle_k34_good_deeds.prog) ZG.loose,true):=by kernel_rfl
def ZG.chk1(w:World):(PI.endsF PySem.Challenge.rw_braemantle_k34_good_deeds.prog w 20000).map (λs=>(ZG.AQ.take 26).map (PI.Bw (PI.AU s.heap)))=some (ZG.Xc.take 26):=by kernel_rfl
def ZG.chk2(w:World):(PI.endsF PySem.Challenge.rw_braemantle_k34_good_deeds.prog w 20000).map (λs=>((ZG.AQ.drop 26).take 26).map (PI.Bw (PI.AU s.heap)))=some ((ZG.Xc.drop 26).take 26):=by kernel_rfl
def ZG.chk3(w:World):(PI.endsF PySem.Challenge.rw_braemantle_k34_good_deeds.prog w 20000).map (λs=>((ZG.AQ.drop 52).take 8).map (PI.Bw (PI.AU s.heap)))=some ((ZG.Xc.drop 52).take 8):=by kernel_rfl
def ZG.part0:PI.Af (((ZG.AQ.zip ZG.Xc).take 19).map (PI.mkF ZG.T))=some (ZG.M.take 19):=by kernel_rfl
def ZG.part1:PI.Af ((((ZG.AQ.zip ZG.Xc).drop 19).take 11).map (PI.mkF ZG.T))=some ((ZG.M.drop 19).take 11):=by kernel_rfl
def ZG.part2:PI.Af ((((ZG.AQ.zip ZG.Xc).drop 30).take 11).map (PI.mkF ZG.T))=some ((ZG.M.drop 30).take 11):=by kernel_rfl
def ZG.part3:PI.Af ((((ZG.AQ.zip ZG.Xc).drop 41).take 8).map (PI.mkF ZG.T))=some ((ZG.M.drop 41).take 8):=by kernel_rfl
def ZG.part4:PI.Af ((((ZG.AQ.zip ZG.Xc).drop 49).take 5).map (PI.mkF ZG.T))=some ((ZG.M.drop 49).take 5):=by kernel_rfl
def ZG.part5:PI.Af ((((ZG.AQ.zip ZG.Xc).drop 54).take 4).map (PI.mkF ZG.T))=some ((ZG.M.drop 54).take 4):=by kernel_rfl
def ZG.part6:PI.Af ((((ZG.AQ.zip ZG.Xc).drop 58).take 2).map (PI.mkF ZG.T))=some ((ZG.M.drop 58).take 2):=by kernel_rfl
end
variable{c e' o' elt Zh Zv:PI.E}{xs O ZX:List PI.U}{u:PI.U}{tb:List (Nat×Nat×List (Nat ⊕ PI.U))}{op:PI.Op}{Z4:List (List Int×PI.U)}{pm:List (Nat ⊕ PI.U)}{ZF cs:List PI.E}{is:List PI.Inf}{ZD gs:List (PI.Tg×PI.E×List PI.E)}{YF:List PI.Z5}{ce:PySem.Expr->Option PI.E}
namespace L2
open PySem PySem.Spec PyProof.Rows
abbrev Key:=Sum Int Str
def B5:Key->Value->Bool
 |.inl k,v=>Value.isInt k v
 |.inr x,v=>Value.isStrOf x v
def Ic(w:World):Key->Int
 |.inl k=>hashInt k
 |.inr x=>hashStr w x
def a8:∀{k:Key} {v:Value},B5 k v=true->(∃i t,k=Sum.inl i/\v=Value.int i t)\/(∃x t,k=Sum.inr x/\v=Value.str x t)
 |.inl i,v,h=>by
  let⟨t,e⟩:=Value.isInt_shape (k:=i) (v:=v) h;exact .inl ⟨i,t,rfl,e⟩
 |.inr x,v,h=>by
  let⟨t,e⟩:=Value.isStrOf_shape (x:=x) (v:=v) h;exact .inr ⟨x,t,rfl,e⟩
def xl(i:Int)(t:Tok):B5 (.inl i) (.int i t)=true:=by simp[B5,Value.isInt]
def w6(x:Str)(t:Tok):B5 (.inr x) (.str x t)=true:=by simp[B5,Value.isStrOf]
def acK(a b:Int):decide ((Sum.inl a:Key)=Sum.inl b)=(a==b):=by
 by_cases e:a=b
 .subst e;simp
 .have h : ¬ (Sum.inl a:Key)=Sum.inl b:=λq=>e (Sum.inl.inj q)
  rw[Wj h];exact(Ue.mpr e).symm
def aa4(a b:Str):decide ((Sum.inr a:Key)=Sum.inr b)=decide (a=b):=by
 by_cases e:a=b
 .subst e;simp
 .have h : ¬ (Sum.inr a:Key)=Sum.inr b:=λq=>e (RJ q)
  rw[Wj h,Wj e]
def acy(a:Int)(b:Str):decide ((Sum.inl a:Key)=Sum.inr b)=false:=Wj (λq=>nomatch q)
def abT(a:Str)(b:Int):decide ((Sum.inr a:Key)=Sum.inl b)=false:=Wj (λq=>nomatch q)
def Az(prog:Program)(w:World):PySem.KeyKind prog w Key where
 is:=B5
 hash:=Ic w
 inj:=λv a b ha hb=>by
  rcases a8 ha with⟨i,t,rfl,rfl⟩|⟨x,t,rfl,rfl⟩
  .rcases a8 hb with⟨j,u,rfl,e⟩|⟨y,u,rfl,e⟩
   .injection e with e1 _;rw[e1]
   .exact nomatch e
  .rcases a8 hb with⟨j,u,rfl,e⟩|⟨y,u,rfl,e⟩
   .exact nomatch e
   .injection e with e1 _;rw[e1]
 byValue:=λk v h=>by
  rcases a8 h with⟨i,t,rfl,rfl⟩|⟨x,t,rfl,rfl⟩<;>rfl
 pyHash:=λhv h=>by
  rcases a8 hv with⟨i,t,rfl,rfl⟩|⟨x,t,rfl,rfl⟩
  .exact wpAny_pyHash_int h
  .exact wpAny_pyHash_str h
 eqBool:=λhu hv h=>by
  rcases a8 hu with⟨i,t,rfl,rfl⟩|⟨x,t,rfl,rfl⟩
  .rcases a8 hv with⟨j,u,rfl,rfl⟩|⟨y,u,rfl,rfl⟩
   .rw [acK]at h;exact wpAny_eqBool_int h
   .rw [acy]at h;exact SeqAt.EqAt.int_str i t y u _ _ _ _ h
  .rcases a8 hv with⟨j,u,rfl,rfl⟩|⟨y,u,rfl,rfl⟩
   .rw [abT]at h;exact SeqAt.EqAt.str_int x t j u _ _ _ _ h
   .rw [aa4]at h;exact wpAny_eqBool_str h
 «strs»:=λk x t v h=>by
  rcases a8 h with⟨i,u,rfl,e⟩|⟨y,u,rfl,e⟩
  .exact nomatch e
  .injection e with e1 _
   subst e1;cases v<;>rfl
def we(prog:Program)(w:World)(i:Int)(t:Tok):(Az prog w).is (.inl i) (.int i t)=true:=xl i t
def v8(prog:Program)(w:World)(x:Str)(t:Tok):(Az prog w).is (.inr x) (.str x t)=true:=w6 x t
end L2
namespace L2
open PySem PySem.Spec PyProof.Rows
inductive V where
 |ZN|bl (b:Bool)|int (i:Int)|str (x:Str)|XR (b:Array UInt8)|VE (b:UInt64)|ref (a:Addr)|ty (n:String)
 deriving DecidableEq
def RelV:V->Value->Prop
 |.ZN,u=>u=Value.none
 |.bl b,u=>u=Value.bool b
 |.int i,u=>∃t,u=Value.int i t
 |.str x,u=>∃t,u=Value.str x t
 |.XR b,u=>∃t,u=Value.bytes b t
 |.VE b,u=>∃t,u=Value.float b t
 |.ref a,u=>u=Value.ref a
 |.ty n,u=>u=Value.type n
abbrev ZH:List V->List Value->Prop:=Paired RelV
def ZH.length{xs:List V}{O:List Value}(r:ZH xs O):xs.length=O.length:=SK r
def ZH.get:∀{xs:List V} {O:List Value} {i:Nat} {x:V},ZH xs O->xs[i]?=some x ->∃u,O[i]?=some u/\RelV x u
 |_,_,_,_,.nil,e=>by simp at e
 |_,_,0,_,.cons r _,e=>by simp at e;subst e;exact⟨_,rfl,r⟩
 |_,_,i+1,x,.cons _ t,e=>by
  let⟨u,h1,h2⟩:=ZH.get (i:=i) (x:=x) t (by simpa using e)
  exact⟨u,by simpa using h1,h2⟩
def ZH.set{x:V}{u:Value}(r:RelV x u):∀{xs:List V} {O:List Value} (i:Nat),ZH xs O->ZH (xs.set i x) (O.set i u)
 |_,_,_,.nil=>.nil
 |_,_,0,.cons _ t=>.cons r t
 |_,_,i+1,.cons q t=>.cons q (ZH.set r i t)
def ZH.append:∀{xs ys:List V} {O ws:List Value},ZH xs O->ZH ys ws->ZH (xs++ys) (O++ws)
 |_,_,_,_,.nil,s=>s
 |_,_,_,_,.cons r t,s=>.cons r (ZH.append t s)
def ZH.take:∀{xs:List V} {O:List Value} (n:Nat),ZH xs O->ZH (xs.take n) (O.take n)
 |_,_,0,_=>.nil
 |_,_,_+1,.nil=>.nil
 |_,_,n+1,.cons r t=>.cons r (ZH.take n t)
def ZH.drop:∀{xs:List V} {O:List Value} (n:Nat),ZH xs O->ZH (xs.drop n) (O.drop n)
 |_,_,0,r=>r
 |_,_,_+1,.nil=>.nil
 |_,_,n+1,.cons _ t=>ZH.drop n t
def RelO:Option V->Option Value->Prop
 |some v,some u=>RelV v u
 |none,none=>True
 |_,_=>False
def KV{a:Type}:List (a×V)->List (a×Value)->Prop:=Paired λ(p:a×V) (q:a×Value)=>p.1=q.1/\RelV p.2 q.2
def Ie:Key->V
 |.inl i=>.int i
 |.inr x=>.str x
set_option genInjectivity false in
inductive HO where
 |S (xs:List V)
 |Z1 (xs:List V)
 |dK (Z4:List (Key×V))|dT (Z4:List (List Key×V))
 |set (Z5:Int->Bool) (n:Nat)
 |ins (C dx:Addr) (fs:List (Str×V))
 |own (x:Addr)
 |xd (fs:List (Str×V))
 |met (f x:Addr)
 |Y7 (lo hi:Int)
 |Zs (o:Obj) (u:HO)
 |Wb (ps:Array Value)
 |ext (φ:Heap->Prop)
abbrev Hp:=Addr->Option HO
def upd(H:Hp)(a:Addr)(o:HO):Hp:=λb=>if b=a then some o else H b
def upd_same{H:Hp}{o:HO}:upd H a o a=some o:=by unfold upd;rw[Xg rfl]
def af{H:Hp}{b:Addr}{o:HO}(h:b≠a):upd H a o b=H b:=by unfold upd;rw[Xp h]
def cQ{H:Hp}{b:Addr}{o u:HO}(h:H a=some o)(h':H b=some u)(d:o≠u):a≠b:=by
 intro e;subst e;rw[h]at h';exact d (X9 h')
def aN{H:Hp}{b:Addr}{o:HO}(h:H a=some o)(h':H b=none):a≠b:=by
 intro e;subst e;rw[h]at h';cases h'
section
variable(P:Program)(w:World)
def ObjOk(H:Hp)(h:Heap)(a:Addr):HO->Prop
 |.S xs=>xs.length<=sizeLine /\∃(ZY:List Value) (n:Nat),ZH xs ZY/\h.get? a=some {cls:=.type "list",data:=.seq ZY.toArray n}
 |.Z1 xs=>xs.length<=sizeLine /\∃ZY:List Value,ZH xs ZY/\IsTup h a ZY.toArray
 |.dK Z4=>Z4.length<=sizeLine/\(a==sysModules)=false /\∃vs,KV Z4 vs/\h.DictOf (Az P w) a vs
 |.dT Z4=>Z4.length<=sizeLine/\(a==sysModules)=false /\∃xs:List (List Key×Addr×Value),
   Paired (λ(p:List Key×V) (q:List Key×Addr×Value)=>p.1=q.1/\H q.2.1=some (.Z1 (p.1.map Ie))/\RelV p.2 q.2.2) Z4 xs /\
   ∃o es ep,h.get? a=some o/\o.ExactDict/\o.data=.dict es ep/\es.toList=xs.map (entryOfKey (tupleKind (Az P w)))/\(xs.map (·.1)).Nodup
 |.set Z5 n=>h.SetOf (intKind P w) a Z5 n
 |.ins C dx fs=>H dx=some (.own a)/\fs.length<=1000/\dx≠a/\h.get? a=some (PySem.W.instObj C dx) /\
   ∃mA,h.Ns1 dx mA/\(∀f,RelO (fs.lookup f) (mA f))/\PySem.Within mA (fs.map (·.1))
 |.own _=>∃o,h.get? a=some o
 |.xd fs=>∃mA,h.Ns1 a mA /\∀f,RelO (fs.lookup f) (mA f)
 |.Y7 lo hi=>∃t u v,h.get? a=some {cls:=.type "range",data:=.fields #[.int lo t,.int hi u,.int 1 v]}
 |.Zs o u=>h.get? a=some o/\ObjOk H h a u
 |.Wb ps=>h.get? a=some {cls:=.none,data:=.fields ps}
 |.met f x=>h.get? a=some (PySem.W.methodObj (.ref f) (.ref x))
 |.ext c=>c h/\(∃o,h.get? a=some o) /\∀h1 h2:Heap,c h1->(∀o,h1.get? a=some o->h2.get? a=some o)->c h2
def HOk(H:Hp)(h:Heap):Prop:=∀a o,H a=some o->ObjOk P w H h a o
end
section
variable{H H':Hp}{o:HO}
def ObjOk.lt(x:ObjOk P w H h a o):a<h.objs.size:=by
 cases o with
 |S xs=>let⟨_,_,_,_,e⟩:=x;exact Hw e
 |Z1 xs=>let⟨_,_,_,p⟩:=x;exact p.lt
 |dK Z4=>let⟨_,_,_,_,o,_,_,e,_⟩:=x;exact Hw e
 |dT Z4=>let⟨_,_,_,_,o,_,_,e,_⟩:=x;exact Hw e
 |set Z5 n=>let⟨o,_,_,_,e,_⟩:=x;exact Hw e
 |ins C dx fs=>let⟨_,_,_,e,_⟩:=x;exact Hw e
 |own y=>let⟨_,e⟩:=x;exact Hw e
 |xd fs=>let⟨_,⟨_,_,_,e,_⟩,_⟩:=x;exact Hw e
 |Y7 lo hi=>let⟨_,_,_,e⟩:=x;exact Hw e
 |Zs ob u=>let⟨e,_⟩:=x;exact Hw e
 |Wb ps=>exact Hw (show h.get? a=some _ from x)
 |met f y=>exact Hw (show h.get? a=some _ from x)
 |ext b=>let⟨_,⟨_,e⟩,_⟩:=x;exact Hw e
def Paired.Ul{d c:Type}{F G:d->c->Prop}:∀{TZ : List d} {TY : List c},Paired F TZ TY -> (∀a b,F a b->G a b)->Paired G TZ TY
 |_,_,.nil,_=>.nil
 |_,_,.cons r t,f=>.cons (f _ _ r) (Paired.Ul t f)
def ObjOk.Yz(x:ObjOk P w H h a o)(k:∀b u,(b=a\/H b=some (.own a))->h.get? b=some u->h'.get? b=some u)
  (l:∀b,H b=some (.own a)->H' b=some (.own a)) (j:∀b xs,H b=some (.Z1 xs)->H' b=some (.Z1 xs)):ObjOk P w H' h' a o:=by
 induction o with
 |S xs=>let⟨z,ZY,n,r,e⟩:=x;exact⟨z,ZY,n,r,k _ _ (.inl rfl) e⟩
 |Z1 xs=>let⟨z,ZY,r,ob,e,c⟩:=x;exact⟨z,ZY,r,ob,k _ _ (.inl rfl) e,c⟩
 |dK Z4=>let⟨z,y,vs,r,ob,es,ep,e,c⟩:=x;exact⟨z,y,vs,r,ob,es,ep,k _ _ (.inl rfl) e,c⟩
 |dT Z4=>
  let⟨z,y,xs,r,ob,es,ep,e,c⟩:=x;exact⟨z,y,xs,Paired.Ul r λp q z=>⟨z.1,j _ _ z.2.1,z.2.2⟩,ob,es,ep,k _ _ (.inl rfl) e,c⟩
 |set Z5 n=>let⟨ob,es,ep,t,e,c⟩:=x;exact⟨ob,es,ep,t,k _ _ (.inl rfl) e,c⟩
 |ins C dx fs=>
  let⟨d,z,i,e,mA,⟨g,es,ep,m,c⟩,r⟩:=x;exact⟨l _ d,z,i,k _ _ (.inl rfl) e,mA,⟨g,es,ep,k _ _ (.inr d) m,c⟩,r⟩
 |own y=>let⟨ob,e⟩:=x;exact⟨ob,k _ _ (.inl rfl) e⟩
 |xd fs=>let⟨mA,⟨g,es,ep,e,c⟩,r⟩:=x;exact⟨mA,⟨g,es,ep,k _ _ (.inl rfl) e,c⟩,r⟩
 |Y7 lo hi=>let⟨t,u,v,e⟩:=x;exact⟨t,u,v,k _ _ (.inl rfl) e⟩
 |Zs ob u ih=>let⟨e,q⟩:=x;exact⟨k _ _ (.inl rfl) e,ih q⟩
 |Wb ps=>
  have e:h.get? a=some {cls:=.none,data:=.fields ps}:=x;show h'.get? a=some {cls:=.none,data:=.fields ps};exact k a _ (.inl rfl) e
 |met f y=>
  have e:h.get? a=some (PySem.W.methodObj (.ref f) (.ref y)):=x;show h'.get? a=some (PySem.W.methodObj (.ref f) (.ref y));exact k a _ (.inl rfl) e
 |ext s=>let⟨p,⟨o,e⟩,st⟩:=x;exact⟨st _ _ p λo q=>k _ _ (.inl rfl) q,⟨o,k _ _ (.inl rfl) e⟩,st⟩
def HOk.lt(x:HOk P w H h)(e:H a=some o):a<h.objs.size:=(x a o e).lt
def HOk.fresh(x:HOk P w H h)(e:h.objs.size<=a):H a=none:=by
 cases q:H a with
 |none=>rfl
 |some u=>exact absurd (HB (x.lt q) e) (Ta _)
def HOk.kept(x:HOk P w H h)(k:∀b u,h.get? b=some u->h'.get? b=some u):HOk P w H h':=λa o e=>
 (x a o e).Yz (λb u _ q=>k b u q) (λ_ q=>q) λ_ _ q=>q
def HOk.laid(x:HOk P w H h)(k:∀b u,h.get? b=some u->h'.get? b=some u)(i:h.objs.size<=a)(d:ObjOk P w (upd H a o) h' a o):HOk P w (upd H a o) h':=λb u e=>by
 have f:=x.fresh i;by_cases g:b=a
 .subst g;rw[upd_same]at e;cases e;exact d
 .rw [af g]at e
  exact(x b u e).Yz (λc v _ q=>k c v q) (λc q=>by rw[af (aN q f)];exact q) λc xs q=>by rw[af (aN q f)];exact q
end
def Rd(H:Hp)(a:Addr)(u:HO):Prop:=H a=some u \/∃o,H a=some (.Zs o u)
def Rd.ok{H:Hp}{u:HO}(r:Rd H a u)(x:HOk P w H h):ObjOk P w H h a u:=by
 rcases r with r|⟨o,r⟩
 .exact x a u r
 .obtain ⟨_,q⟩:=x a _ r
  exact q
def Mut:Option HO->Prop
 |some (.S _)=>True
 |some (.dK _)=>True
 |some (.dT _)=>True
 |some (.set _ _)=>True
 |some (.ins _ _ _)=>True
 |some (.ext _)=>True
 |_=>False
section
variable{H:Hp}{x e:Addr}{o':HO}
def HOk.write(n:HOk P w H h)(d:Mut (H x))(l:e=x\/H e=some (.own x))(k:∀b u,b≠e->h.get? b=some u->h'.get? b=some u)(p:∃u,h'.get? e=some u)
  (i:ObjOk P w (upd H x o') h' x o'):HOk P w (upd H x o') h':=λb u q=>by
 have m:∀c y,H c=some (.own y)->c≠x:=λc y r z=>by subst z;rw[r]at d;exact d
 have a:∀c xs,H c=some (.Z1 xs)->c≠x:=λc xs r z=>by subst z;rw[r]at d;exact d
 by_cases f:b=x
 .subst f;rw[upd_same]at q;cases q;exact i
 .rw [af f]at q
  by_cases g:b=e
  .have j:H b=some (.own x):=by
    rcases l with z|z
    .exact absurd (g.trans z) f
    .rw [g];exact z
   rw[q]at j;cases j;let⟨v,o⟩:=p;exact⟨v,by rw[g];exact o⟩
  .refine (n b u q).Yz (λc v hc r=>k c v ?_ r) (λc r=>by rw[af (m c b r)];exact r) λc xs r=>by rw[af (a c xs r)];exact r
   rcases hc with rfl|hc
   .exact g
   .rintro rfl
    rcases l with z|z
    .exact m c b hc z
    .rw [hc]at z;cases z;exact f rfl
end
structure Un(fs ex:List Addr)(H H':Hp)(h h':Heap):Prop where
 keep:∀b o,h.get? b=some o->H b=none->b ∉ fs->b ∉ ex->h'.get? b=some o
 slot:∀b o,h.get? b=some o->H b=none->b∈fs->b ∉ ex ->∃sl,h'.get? b=some {o with slots:=sl}
 free:∀b o,h.get? b=some o->H b=none->b ∉ ex->H' b=none
 there:∀b o,h.get? b=some o->b ∉ ex ->∃o',h'.get? b=some o'
 WU:∀b xs,H b=some (.Z1 xs)->H' b=some (.Z1 xs)
 XB:∀b o u,H b=some (.Zs o u)->H' b=some (.Zs o u)
 WT:∀b ps,H b=some (.Wb ps) ->∃more,H' b=some (.Wb (ps++more))
section
variable{fs WS ex ex':List Addr}{H H1 H2:Hp}{h1 h2:Heap}{x e:Addr}{o:HO}
def Un.any(u:Un fs ex H H1 h h1){b:Addr}{a:Obj}(q:h.get? b=some a)(n:H b=none)(c:b ∉ ex):∃e,h1.get? b=some {a with slots:=e}:=by
 by_cases d:b∈fs
 .exact u.slot b a q n d c
 .exact ⟨a.slots,u.keep b a q n d c⟩
def Un.kept(k:∀b u,h.get? b=some u->h'.get? b=some u):Un fs ex H H h h':=
 ⟨λb ob q _ _ _=>k b ob q,λb ob q _ _ _=>⟨ob.slots,k b ob q⟩,λ_ _ _ n _=>n,λb ob q _=>⟨ob,k b ob q⟩,λ_ _ q=>q,λ_ _ _ q=>q,λ_ ps q=>⟨#[],by rw[q];simp⟩⟩
def Un.refl:Un fs ex H H h h:=Un.kept λ_ _ q=>q
def Un.laid(k:∀b u,h.get? b=some u->h'.get? b=some u)(hp:h.objs.size<=a)(hn:H a=none):Un fs ex H (upd H a o) h h' where
 keep:=λb u q _ _ _=>k b u q
 slot:=λb u q _ _ _=>⟨u.slots,k b u q⟩
 free:=λb u q n _=>by rw[af (HC (HB (Hw q) hp))];exact n
 there:=λb u q _=>⟨u,k b u q⟩
 WU:=λb xs q=>by rw[af (aN q hn)];exact q
 XB:=λb u xs q=>by rw[af (aN q hn)];exact q
 WT:=λb ps q=>⟨#[],by rw[af (aN q hn),q];simp⟩
def Un.write(a:Mut (H x))(j:e=x\/H e=some (.own x))(k:∀b u,b≠e->h.get? b=some u->h'.get? b=some u)(t:∃u,h'.get? e=some u):Un fs ex H (upd H x o) h h':=by
 have d:∀b,H b=none->b≠x:=λb n z=>by subst z;rw[n]at a;exact a
 have f:∀b,H b=none->b≠e:=λb n z=>by
  subst z;rcases j with r|r
  .exact d b n r
  .rw [n]at r;cases r
 have c:∀b u,H b=some u -> ¬ Mut (some u)->b≠x:=λb u q nm z=>by subst z;rw[q]at a;exact nm a
 refine ⟨λb u q n _ _=>k b u (f b n) q,λb u q n _ _=>⟨u.slots,k b u (f b n) q⟩,λb u q n _=>by rw [af (d b n)];exact n,λb u q _ => ?_,
  λb xs q=>by rw[af (c b _ q λz=>z)];exact q,λb u xs q=>by rw[af (c b _ q λz=>z)];exact q,λb ps q=>⟨#[],by rw[af (c b _ q λz=>z),q];simp⟩⟩
 by_cases g:b=e
 .subst g;exact t
 .exact ⟨u,k b u g q⟩
end
def Ig(h:Heap)(H:Hp):List Addr:=(List.range h.objs.size).filter λa=>(H a).isSome
def Bz(h:Heap)(H:Hp):Heap:=PySem.W.hideAll h (Ig h H)
def xu(h:Heap)(H:Hp):(Bz h H).objs.size=h.objs.size:=PySem.W.hideAll_size _ _
def yq{H:Hp}{b:Addr}{o:Obj}(e:h.get? b=some o)(n:H b=none):(Bz h H).get? b=some o:=
 PySem.W.hideAll_get _ e λa=>by
  have q:(H b).isSome=true:=(Rn.mp a).2;rw[n]at q;simp at q
def aan{H:Hp}{b:Addr}{o:Obj}(e:(Bz h H).get? b=some o):h.get? b=some o/\H b=none:=by
 have e':h.get? b=some o:=PySem.W.of_hideAll (Ig h H) e;refine⟨e',?_⟩;cases q:H b with
 |none=>rfl
 |some x=>
  have a:b∈Ig h H:=Rn.mpr ⟨SV.mpr (Hw e'),by simp[q]⟩
  have z:(Bz h H).get? b=none:=PySem.W.hideAll_none (Ig h H) a;rw[z]at e;cases e
end L2
variable{H H':L2.Hp}{v y:L2.V}{vs:List L2.V}{gV:List L2.V->List L2.V->List L2.V}{Zl:List (PySem.Str×L2.V)}{Q2:L2.V->L2.Hp->Prop}
namespace L2
variable{u:Value}{Q:Unit->Shared->Prop}
open PySem PySem.Spec PyProof.Rows
structure Mod(K:HF)(mg:Str->Option Value)(base:Heap):Prop where
 kin:K.In base
 glob:base.Ns mainGlobals mg
 blt:∃mb,base.Ns builtinsNs mb /\∀x:Str,x ≠ "__name__" -> mb x=bootBuiltins x
 nolimit:base.NoLimit
set_option genInjectivity false in
structure Cx where
 prog:Program
 w:World
 K:HF
 mg:Str->Option Value
 base:Heap
 A:Around
 N:List Str
 Zc : Shared
 Vd : Hp
 env:Env
 outer:List Env
 stack:List Env
 ex:List Addr
 fn:Str->Bool
 calm:Bool
 pn:List (Addr×Obj)
 xe:Value->Shared->Prop
def frs(l:List Env):List Addr:=l.filterMap (·.frame)
abbrev Cx.fs(X:Cx):List Addr:=frs X.outer
def Vis(a:Scope)(x:Str):Prop:=a.names.lookup x=some .local\/a.names.lookup x=some .cell\/a.names.lookup x=some .free
def Loc(a:Scope)(x:Str):Prop:=a.names.lookup x=some .local\/a.names.lookup x=some .cell
def Look(env:Env)(h:Heap)(m:Str->Option Value)(x:Str)(u:Value):Prop:=
 (env.kindOf x=some .local/\m x=some u)\/((env.kindOf x=some .cell\/env.kindOf x=some .free) /\∃c,env.cells.lookup x=some c/\h.IsCell c (some u))
structure Cx.Ok(X:Cx):Prop where
 mod:Mod X.K X.mg X.base
 kind:X.env.scope.kind=.function
 glob:X.env.globals=mainGlobals
 blt:X.env.builtins=builtinsNs
 above:X.Zc.heap.objs.size<=X.env.locals
 inj:∀x y c,X.env.cells.lookup x=some c->X.env.cells.lookup y=some c->x=y
 has:∀x,(X.env.kindOf x=some .cell\/X.env.kindOf x=some .free) ->∃c,X.env.cells.lookup x=some c
 Vc:∀x c,X.fn x=true->X.env.cells.lookup x=some c->X.Zc.heap.objs.size<=c
 hd:X.calm=true->X.A.handled=none
 frames:X.A.frames=some X.stack
 stk:X.stack=X.outer\/(X.stack=X.env::X.outer/\X.env.frame=some X.env.locals)
 exf:∀b∈X.ex,b≠X.env.locals /\∀x c,X.env.cells.lookup x=some c->c≠b
 bs:∀b o,X.base.get? b=some o->X.Zc.heap.get? b=some o/\X.Vd b=none
 WR:X.base.objs.size<=X.Zc.heap.objs.size
 Yw:∀b o,X.base.get? b=some o->b ∉ X.ex
 Uy:∀b∈X.ex,b ∉ X.fs
 XO:X.Zc.heap.FunFrames X.base X.outer
 V_:∀b∈X.fs,X.Vd b=none
structure Z2(X:Cx)(J:List (Addr×Obj))(Y:List (Option V))(H:Hp)(s:Shared):Prop where
 ok:X.Ok
 os:s.os=X.Zc.os
 bare:AllBare s.gens
 base:Un X.fs X.ex X.Vd H X.Zc.heap s.heap
 loc:∃m,s.heap.Ns X.env.locals m /\∀(i:Nat) (x:Str) (v:V),X.N[i]?=some x->Y[i]?=some (some v)->Vis X.env.scope x ->∃u,RelV v u/\Look X.env s.heap m x u
 cell:∀x c,X.env.cells.lookup x=some c ->∃v,s.heap.IsCell c v
 free:H X.env.locals=none
 XA:∀x c,X.env.cells.lookup x=some c->H c=none
 pin:∀p∈X.pn++J,s.heap.get? p.1=some p.2/\H p.1=none/\p.1≠X.env.locals/\p.1 ∉ X.fs /\∀v,p.2.data ≠ .cell v
 ZL:HOk X.prog X.w H s.heap
 len:Y.length=X.N.length
section
variable{X:Cx}{Y:List (Option V)}
def Cx.Ok.nofr(a:X.Ok){b:Addr}{o:Obj}(e:X.base.get? b=some o):b ∉ X.fs:=λc=>by
 have:=(a.XO.mem c).1;rw[e]at this;cases this
def Z2.bs(I:Z2 X J Y H s):∀b o,X.base.get? b=some o->s.heap.get? b=some o/\H b=none:=λb o e=>
 ⟨I.base.keep b o (I.ok.bs b o e).1 (I.ok.bs b o e).2 (I.ok.nofr e) (I.ok.Yw b o e),I.base.free b o (I.ok.bs b o e).1 (I.ok.bs b o e).2 (I.ok.Yw b o e)⟩
def Z2.bk(I:Z2 X J Y H s):∀b o,X.base.get? b=some o->s.heap.get? b=some o:=λb o e=>(I.bs b o e).1
def Z2.mod(I:Z2 X J Y H s):Mod X.K X.mg X.base:=I.ok.mod
def Z2.YU(I:Z2 X J Y H s):X.K.In s.heap:=I.ok.mod.kin.keeps I.bk
def Z2.lt(I:Z2 X J Y H s):X.env.locals<s.heap.objs.size:=let⟨_,a,_⟩:=I.loc;a.lt
def Z2.sz(I:Z2 X J Y H s):X.Zc.heap.objs.size<=s.heap.objs.size:=Hx I.ok.above (SW I.lt)
def Z2.nofs(I:Z2 X J Y H s)(h:s.heap.objs.size<=a):a ∉ X.fs:=λb=>by
 let⟨_,o,ho,_⟩:=I.ok.XO.mem b;exact absurd (HB (Hw ho) (Hx I.sz h)) (Ta _)
def Z2.V9(I:Z2 X J Y H s):∀x c,X.env.cells.lookup x=some c->c≠X.env.locals:=λx c e z=>by
 let⟨v,o,ho,a⟩:=I.cell x c e;let⟨m,⟨o',es,ep,b,d,_⟩,_⟩:=I.loc;rw[z,b]at ho;cases ho;rw[d]at a;cases a
def Z2.XO(I:Z2 X J Y H s):s.heap.FunFrames X.base X.outer:=by
 have all:∀(l:List Env),(∀b∈frs l,b∈X.fs)->X.Zc.heap.FunFrames X.base l->s.heap.FunFrames X.base l:=by
  intro l
  induction l with
  |nil=>intro _ _;trivial
  |cons env r ih=>
   intro f i;let⟨hk,⟨Z7,o,a,h,ho,j⟩,g⟩:=i;have d:Z7∈X.fs:=f Z7 (by unfold frs;rw[Vu,a];exact Wt)
   let⟨k,e⟩:=I.base.slot Z7 o ho (I.ok.V_ Z7 d) d λz=>I.ok.Uy Z7 z d;exact⟨hk,⟨Z7,_,a,h,e,j⟩,ih (λb c=>f b (by unfold frs;rw[Vu,a];exact HA _ c)) g⟩
 exact all X.outer (λ_ c=>c) I.ok.XO
def Z2.stack(I:Z2 X J Y H s):s.heap.FunFrames X.base X.stack:=by
 rcases I.ok.stk with e|⟨e,hf⟩
 .rw [e];exact I.XO
 .rw [e]
  let⟨m,a,_⟩:=I.loc;refine .cons (by rw[I.ok.kind];decide) hf a ?_ I.XO
  exact Heap.get?_none_of_le (Hx I.ok.WR I.ok.above)
def Z2.Vb(I:Z2 X J Y H s):∀b∈frs X.stack,b∈X.env.locals::X.fs:=λb a=>by
 rcases I.ok.stk with e|⟨e,hf⟩
 .rw [e]at a;exact HA _ a
 .rw [e]at a
  unfold frs at a;rw[Vu,hf]at a;exact a
def Z2.TV(I:Z2 X J Y H s):∀b∈frs X.stack,H b=none:=λb a=>by
 rcases YG.mp (I.Vb b a)with e|a
 .rw [e];exact I.free
 .obtain ⟨_,o,ho,_⟩:=I.ok.XO.mem a
  exact I.base.free b o ho (I.ok.V_ b a) λz=>I.ok.Uy b z a
def Z2.step{g':Array GenState}{d':Drawn}{ch:List Addr}(I:Z2 X J Y H s)
  (B:∀b∈ch,(b∈X.ex\/X.Zc.heap.objs.size<=b)/\b≠X.env.locals/\(∀x c,X.env.cells.lookup x=some c->c≠b) /\∀p∈X.pn++J,p.1≠b)
  (keep:∀b o,b≠X.env.locals->b ∉ X.fs->b ∉ ch->s.heap.get? b=some o->H b=none->h'.get? b=some o)
  (slot:∀b o,b≠X.env.locals->b∈X.fs->b ∉ ch->s.heap.get? b=some o->H b=none ->∃E,h'.get? b=some {o with slots:=E}) (free:∀b o,b ∉ ch->s.heap.get? b=some o->H b=none->H' b=none)
  (there:∀b o,b ∉ ch->s.heap.get? b=some o ->∃o',h'.get? b=some o')
  (WU:∀b xs,H b=some (.Z1 xs)->H' b=some (.Z1 xs)) (XB:∀b o u,H b=some (.Zs o u)->H' b=some (.Zs o u)) (WT:∀b ps,H b=some (.Wb ps) ->∃y,H' b=some (.Wb (ps++y)))
  (ns:∀m,s.heap.Ns X.env.locals m->h'.Ns X.env.locals m) (Q:HOk X.prog X.w H' h') (O:AllBare g') :
  Z2 X J Y H' {s with heap:=h',gens:=g',drawn:=d',toks:=t'}:=by
 have t:∀b o,X.Zc.heap.get? b=some o->b≠X.env.locals:=λb o e=>HC (HB (Hw e) I.ok.above);have g:∀b o,X.Zc.heap.get? b=some o->b ∉ X.ex->b ∉ ch:=λb o e a j=>by
  rcases(B b j).1 with z|z
  .exact a z
  .exact absurd (HB (Hw e) z) (Ta _)
 have f:∀x c,X.env.cells.lookup x=some c ->∀v,s.heap.IsCell c v->h'.IsCell c v:=λx c e v ⟨o,ho,hd⟩=>by
  have C:c ∉ ch:=λz=>(B c z).2.2.1 x c e rfl;by_cases hc:c∈X.fs
  .obtain ⟨E,q⟩:=slot c o (I.V9 x c e) hc C ho (I.XA x c e)
   exact⟨_,q,hd⟩
  .exact ⟨o,keep c o (I.V9 x c e) hc C ho (I.XA x c e),hd⟩
 refine⟨I.ok,I.os,O,⟨λb o e n j a=>?_,λb o e n j a=>?_,λb o e n a=>?_,λb o e a=>?_,λb xs e=>WU b xs (I.base.WU b xs e),λb o xs e=>XB b o xs (I.base.XB b o xs e),λb ps e=>?_⟩,?_,λx c e=>?_,?_,λx c e=>?_,λp K=>?_,Q,I.len⟩
 .exact keep b o (t b o e) j (g b o e a) (I.base.keep b o e n j a) (I.base.free b o e n a)
 .obtain ⟨E,h⟩:=I.base.slot b o e n j a
  let⟨D,A⟩:=slot b _ (t b o e) j (g b o e a) h (I.base.free b o e n a);exact⟨D,A⟩
 .obtain ⟨o',h⟩:=I.base.there b o e a
  exact free b o' (g b o e a) h (I.base.free b o e n a)
 .obtain ⟨o',h⟩:=I.base.there b o e a
  exact there b o' (g b o e a) h
 .obtain ⟨m1,h⟩:=I.base.WT b ps e
  let⟨L,A⟩:=WT b _ h;exact⟨m1++L,by rw[A,Array.append_assoc]⟩
 .obtain ⟨m,M,N⟩:=I.loc
  refine⟨m,ns m M,λi x v h A P=>?_⟩;let⟨u,r,l⟩:=N i x v h A P;refine⟨u,r,?_⟩;rcases l with l|⟨k,c,e,z⟩
  .exact .inl l
  .exact .inr ⟨k,c,e,f x c e _ z⟩
 .obtain ⟨v,z⟩:=I.cell x c e
  exact⟨v,f x c e v z⟩
 .obtain ⟨m,⟨o,_,_,ho,_⟩,_⟩:=I.loc
  exact free _ o (λz=>(B _ z).2.1 rfl) ho I.free
 .obtain ⟨v,o,ho,hd⟩:=I.cell x c e
  exact free c o (λz=>(B c z).2.2.1 x c e rfl) ho (I.XA x c e)
 .obtain ⟨e,n,G,F,d⟩:=I.pin p K
  have C:p.1 ∉ ch:=λz=>(B p.1 z).2.2.2 p K rfl;exact⟨keep p.1 p.2 G F C e n,free p.1 p.2 C e n,G,F,d⟩
def Z2.un(I:Z2 X J Y H s)(u:Un X.fs [] H H' s.heap h')(g:HOk X.prog X.w H' h'):Z2 X J Y H' {s with heap:=h',toks:=t'}:=by
 let⟨m,⟨o,es,ep,ho,r⟩,_⟩:=id I.loc;let⟨k,f⟩:=u.any ho I.free #[3]
 exact I.step (g':=s.gens) (d':=s.drawn) (ch:=[]) (λ_ z=>nomatch z) (λb o _ a _ e n=>u.keep b o e n a #[3]) (λb o _ a _ e n=>u.slot b o e n a #[3]) (λb o _ e n=>u.free b o e n #[3]) (λb o _ e=>u.there b o e #[3]) u.WU u.XB u.WT (λt d=>by
  let⟨o',ZF,j,c,r'⟩:=d;rw[ho]at c;cases c;exact⟨_,ZF,j,f,r'⟩) g I.bare
def Z2.call{g':Array GenState}{d':Drawn}{ch:List Addr}(I:Z2 X J Y H s)(u:Un (frs X.stack) ch H H' s.heap h')(j:HOk X.prog X.w H' h')(h:AllBare g')
  (f:∀b∈ch,(b∈X.ex\/X.Zc.heap.objs.size<=b)/\b≠X.env.locals/\(∀x c,X.env.cells.lookup x=some c->c≠b) /\∀p∈X.pn++J,p.1≠b) :
  Z2 X J Y H' {s with heap:=h',gens:=g',drawn:=d',toks:=t'}:=by
 let⟨m,⟨o,es,ep,ho,r⟩,_⟩:=id I.loc;let⟨l,a⟩:=u.any ho I.free λz=>(f _ z).2.1 rfl
 exact I.step (ch:=ch) f (λb o a i hc e n=>u.keep b o e n (λz=>(YG.mp (I.Vb b z)).elim a i) hc) (λb o _ _ hc e n=>u.any e n hc) (λb o hc e n=>u.free b o e n hc) (λb o hc e=>u.there b o e hc) u.WU u.XB u.WT (λq g=>by
  let⟨o',ZF,k,d,r'⟩:=g;rw[ho]at d;cases d;exact⟨_,ZF,k,a,r'⟩) j h
def Z2.turned{it:Addr}(I:Z2 X J Y H s)(k:∀b o,b≠it->s.heap.get? b=some o->h'.get? b=some o)(f:H it=none)(a:it≠X.env.locals)
  (y:it∈X.ex\/X.Zc.heap.objs.size<=it) (w:∀x c,X.env.cells.lookup x=some c->c≠it) (t:∀p∈X.pn++J,p.1≠it):Z2 X J Y H {s with heap:=h',toks:=t'}:=by
 have d:∀b u,H b=some u->b≠it:=λb u e z=>by rw[z,f]at e;cases e
 refine I.step (g':=s.gens) (d':=s.drawn) (ch:=[it]) (λb j=>?_) (λb o _ _ hc e _=>k b o (λz=>hc (by simp[z])) e) (λb o _ _ hc e _=>⟨o.slots,k b o (λz=>hc (by simp[z])) e⟩) (λ_ _ _ _ n=>n)
  (λb o hc e=>⟨o,k b o (λz=>hc (by simp[z])) e⟩) (λ_ _ e=>e) (λ_ _ _ e=>e) (λb ps e=>⟨#[],by rw[e];simp⟩) (λm g=>?_) (λb u e=>?_) I.bare
 .have e:b=it:=by simpa using j
  subst e;exact⟨y,a,w,t⟩
 .obtain ⟨o,es,ep,ho,r⟩:=g
  exact⟨o,es,ep,k _ o (Ne.symm a) ho,r⟩
 .refine (I.ZL b u e).Yz (λc v hc q=>k c v ?_ q) (λ_ q=>q) λ_ _ q=>q
  rcases hc with z|z
  .rw [z];exact d b u e
  .exact d c _ z
def Z2.tok(I:Z2 X J Y H s)(t:Nat):Z2 X J Y H {s with toks:=t}:=I.un (h':=s.heap) (t':=t) Un.refl I.ZL
def Z2.kept{t':Nat}(I:Z2 X J Y H s)(k:∀b u,s.heap.get? b=some u->h'.get? b=some u):Z2 X J Y H {s with heap:=h',toks:=t'}:=I.un (Un.kept k) (I.ZL.kept k)
def Z2.laid{a:Addr}{o:HO}{t':Nat}(I:Z2 X J Y H s)(k:∀b u,s.heap.get? b=some u->h'.get? b=some u)(d:s.heap.objs.size<=a)(c:ObjOk X.prog X.w (upd H a o) h' a o):
  Z2 X J Y (upd H a o) {s with heap:=h',toks:=t'}:=I.un (Un.laid k d (I.ZL.fresh d)) (I.ZL.laid k d c)
def Z2.write{x e:Addr}{o:HO}{t':Nat}(I:Z2 X J Y H s)(c:Mut (H x))(d:e=x\/H e=some (.own x))(k:∀b u,b≠e->s.heap.get? b=some u->h'.get? b=some u)(f:∃u,h'.get? e=some u)
  (a:ObjOk X.prog X.w (upd H x o) h' x o):Z2 X J Y (upd H x o) {s with heap:=h',toks:=t'}:=I.un (Un.write c d k f) (I.ZL.write c d k f a)
def Z2.TU{a:List (Addr×Obj)}(I:Z2 X J Y H s)(h:∀p∈a,s.heap.get? p.1=some p.2/\H p.1=none/\p.1≠X.env.locals/\p.1 ∉ X.fs /\∀v,p.2.data ≠ .cell v):Z2 X a Y H s:=
 ⟨I.ok,I.os,I.bare,I.base,I.loc,I.cell,I.free,I.XA,λp b=>(Vm.mp b).elim (λz=>I.pin p (Rj _ z)) (h p),I.ZL,I.len⟩
def qL(c:N.Nodup)(a:N[i]?=some x)(b:N[j]?=some x):i=j:=by
 let⟨h1,e⟩:=Yh.mp a;let⟨h2,d⟩:=Yh.mp b;exact(List.getElem_inj c).mp (e.trans d.symm)
def fP{E:Value->Shared->Prop}(I:Z2 X J Y H s)(hN:X.N.Nodup)(K:X.N[i]?=some x)(t:Loc X.env.scope x)(r:RelV v u)
  (h:∀s',Z2 X J (Y.set i (some v)) H s'->(∃a,Heap.SameBut a s.heap s'.heap/\(a=X.env.locals\/X.env.cells.lookup x=some a))->Q Unit.unit s') (hf:X.fn x=true\/X.env.scope.names.lookup x=some .local:=by first|exact .inl rfl|exact .inr rfl|assumption):wpAny Z8 A (storeName X.env x u) Q E s:=by
 let⟨m,V,hl⟩:=id I.loc;have Uk:(X.env.scope.kind==.class||(X.env.scope.kind==.module&&X.env.locals != X.env.globals))=false:=by rw[I.ok.kind];rfl
 have TR:i<Y.length:=by rw[I.len];exact(Yh.mp K).1
 have V9:=I.V9;have g:∀{a:Addr} {h':Heap},(∃o,s.heap.get? a=some o/\H a=none)->Heap.SameBut a s.heap h'->HOk X.prog X.w H h':=λ{a h'} ha f b ob e=>by
  let⟨_,_,Ux⟩:=ha;refine(I.ZL b ob e).Yz (λc M hc q=>(f.2 c ?_).trans q) (λ_ q=>q) λ_ _ q=>q;rintro rfl;rcases hc with rfl|hc
  .rw [Ux]at e;cases e
  .rw [Ux]at hc;cases hc
 rcases t with hk|hk
 .refine wpAny_storeName_local hk V (λh' Zy f=>?_) Uk
  let⟨oL,_,_,U,_⟩:=id V;refine h _ ⟨I.ok,I.os,I.bare,⟨λb o e n D t=>?_,λb o e n D t=>?_,I.base.free,λb o e t=>?_,I.base.WU,I.base.XB,I.base.WT⟩,⟨_,Zy,λj y v' l B W=>?_⟩,λy c e=>?_,I.free,I.XA,λp T=>?_,g ⟨oL,U,I.free⟩ f,by simpa using I.len⟩ ⟨_,f,.inl rfl⟩
  .exact (f.2 b (HC (HB (Hw e) I.ok.above))).trans (I.base.keep b o e n D t)
  .obtain ⟨R,l⟩:=I.base.slot b o e n D t
   exact⟨R,(f.2 b (HC (HB (Hw e) I.ok.above))).trans l⟩
  .obtain ⟨o',l⟩:=I.base.there b o e t
   exact⟨o',(f.2 b (HC (HB (Hw e) I.ok.above))).trans l⟩
  .by_cases C:j=i
   .subst C
    rw[K]at l;cases l;rw[Ua TR]at B;cases B;exact⟨u,r,.inl ⟨hk,by simp⟩⟩
   .rw [Xb (Ne.symm C)]at B
    let⟨P,r',q⟩:=hl j y v' l B W;refine⟨P,r',?_⟩;rcases q with⟨k,e⟩|⟨k,c,e,z⟩
    .refine .inl ⟨k,?_⟩
     have:y≠x:=λe=>C (qL hN l (e ▸ K));simp[this,e]
    .exact .inr ⟨k,c,e,z.sameBut f (V9 y c e)⟩
  .obtain ⟨M,z⟩:=I.cell y c e
   exact⟨M,z.sameBut f (V9 y c e)⟩
  .obtain ⟨e,n,O,S,d⟩:=I.pin p T
   exact⟨(f.2 p.1 O).trans e,n,O,S,d⟩
 .have Z:X.fn x=true:=by
   rcases hf with z|z
   .exact z
   .rw [z]at hk;cases hk
  let⟨c,hc⟩:=I.ok.has x (.inl hk);let⟨M,z⟩:=I.cell x c hc;refine wpAny_storeName_cell I.ok.kind hk hc z (λh' U8 f=>?_);let⟨JY,G,F⟩:=id z;refine h {s with heap:=h'} ⟨I.ok,I.os,I.bare,⟨λb o e n D t=>?_,λb o e n D t=>?_,I.base.free,λb o e t=>?_,I.base.WU,I.base.XB,I.base.WT⟩,⟨m,V.sameBut f (Ne.symm (V9 x c hc)),λj y v' l B W=>?_⟩,λy c' e=>?_,I.free,I.XA,λp T=>?_,g ⟨JY,G,I.XA x c hc⟩ f,by simpa using I.len⟩ ⟨c,f,.inr hc⟩
  .exact (f.2 b (HC (HB (Hw e) (I.ok.Vc x c Z hc)))).trans (I.base.keep b o e n D t)
  .obtain ⟨R,l⟩:=I.base.slot b o e n D t
   exact⟨R,(f.2 b (HC (HB (Hw e) (I.ok.Vc x c Z hc)))).trans l⟩
  .obtain ⟨o',l⟩:=I.base.there b o e t
   exact⟨o',(f.2 b (HC (HB (Hw e) (I.ok.Vc x c Z hc)))).trans l⟩
  .by_cases C:j=i
   .subst C
    rw[K]at l;cases l;rw[Ua TR]at B;cases B;exact⟨u,r,.inr ⟨.inl hk,c,hc,U8⟩⟩
   .rw [Xb (Ne.symm C)]at B
    let⟨P,r',q⟩:=hl j y v' l B W;refine⟨P,r',?_⟩;rcases q with q|⟨k,c',e,z'⟩
    .exact .inl q
    .refine .inr ⟨k,c',e,z'.sameBut f ?_⟩
     rintro rfl;exact C (qL hN l (I.ok.inj _ _ _ e hc ▸ K))
  .by_cases L:c'=c
   .subst L;exact⟨_,U8⟩
   .obtain ⟨w2,z2⟩:=I.cell y c' e
    exact⟨w2,z2.sameBut f L⟩
  .obtain ⟨e,n,O,S,d⟩:=I.pin p T
   refine⟨(f.2 p.1 ?_).trans e,n,O,S,d⟩;intro q;rw[q,G]at e;have q':JY=p.2:=X9 e;exact d M (by rw[<-q'];exact F)
def eD{E:Value->Shared->Prop}(I:Z2 X J Y H s)(d:X.N.Nodup)(b:X.N[i]?=some x)(a:Loc X.env.scope x)(r:RelV v u)
  (h:∀s',Z2 X J (Y.set i (some v)) H s'->Q Unit.unit s') (c:X.fn x=true\/X.env.scope.names.lookup x=some .local:=by first|exact .inl rfl|exact .inr rfl|assumption):wpAny Z8 A (storeName X.env x u) Q E s:=
 fP I d b a r (λs' e _=>h s' e) c
def Z2.Uj{a:Shared}{ch:List Addr}(I:Z2 X J Y H s)(d:a.os=s.os)(u:Un (frs X.stack) ch H H' s.heap a.heap)(g:HOk X.prog X.w H' a.heap)(f:AllBare a.gens)
  (h:∀b∈ch,(b∈X.ex\/X.Zc.heap.objs.size<=b)/\b≠X.env.locals/\(∀x c,X.env.cells.lookup x=some c->c≠b) /\∀p∈X.pn++J,p.1≠b):Z2 X J Y H' a:=by
 let⟨h',g',d',t',o'⟩:=a;have e:o'=s.os:=d;subst e;exact I.call (g':=g') (t':=t') (d':=d') u g f h
end
abbrev XK:=Value->Option Addr->Hp->Prop
abbrev St:=List (Option V)
abbrev VK:=V->Hp->Prop
abbrev TE:=St->Hp->VK->Prop
abbrev TT:=St->Hp->(Bool->Hp->Prop)->Prop
abbrev TA:=St->Hp->(List V->Hp->Prop)->Prop
set_option genInjectivity false in
structure Ends where
 nx:St->Hp->Prop
 rt:VK
 bk:St->Hp->Prop:=λ_ _=>False
 ct:St->Hp->Prop:=λ_ _=>False
abbrev TS:=Ends->St->Hp->Prop
inductive EP(X:Cx)(J:List (Addr×Obj))(Y:St)(Q:VK)(u:Value)(s':Shared):Prop
 |mk:∀v H',Z2 X J Y H' s'->RelV v u->Q v H'->EP X J Y Q u s'
inductive TP(X:Cx)(J:List (Addr×Obj))(Y:St)(Q:Bool->Hp->Prop)(b:Bool)(s':Shared):Prop
 |mk:∀H',Z2 X J Y H' s'->Q b H'->TP X J Y Q b s'
inductive AP(X:Cx)(J:List (Addr×Obj))(Y:St)(Q:List V->Hp->Prop)(O:List Value)(s':Shared):Prop
 |mk:∀vs H',Z2 X J Y H' s'->ZH vs O->Q vs H'->AP X J Y Q O s'
def SP(X:Cx)(J:List (Addr×Obj))(D:Ends)(f:Flow)(a:Shared):Prop:=
 match f with
 |.next=>∃ZU H',Z2 X J ZU H' a/\D.nx ZU H'
 |.brk=>∃ZU H',Z2 X J ZU H' a/\D.bk ZU H'
 |.cont=>∃ZU H',Z2 X J ZU H' a/\D.ct ZU H'
 |.ret u=>∃v ZU H',Z2 X J ZU H' a/\RelV v u/\D.rt v H'
def PE(X:Cx)(e:Expr)(t:TE):Prop:=
 ∀(J:List (Addr×Obj)) (s:Shared) (Y:St) (H:Hp) (Q:VK),Z2 X J Y H s->t Y H Q->wpAny (model X.prog X.w) X.A (eval e X.env) (EP X J Y Q) X.xe s
def PT(X:Cx)(e:Expr)(t:TT):Prop:=
 ∀(J:List (Addr×Obj)) (s:Shared) (Y:St) (H:Hp) (Q:Bool->Hp->Prop),Z2 X J Y H s->t Y H Q->wpAny (model X.prog X.w) X.A (isTrue e X.env (eval e X.env)) (TP X J Y Q) X.xe s
def PW(X:Cx)(e:Expr)(t:TT):Prop:=
 ∀(whole:Sem Value) (J:List (Addr×Obj)) (s:Shared) (Y:St) (H:Hp) (Q:Bool->Hp->Prop),Z2 X J Y H s->t Y H Q->wpAny (model X.prog X.w) X.A (isTrue e X.env whole) (TP X J Y Q) X.xe s
def PW.pt{X:Cx}{t:TT}(h:PW X e t):PT X e t:=h _
def PA(X:Cx)(a:List Expr)(t:TA):Prop:=
 ∀(pos:Pos) (J:List (Addr×Obj)) (s:Shared) (Y:St) (H:Hp) (Q:List V->Hp->Prop),Z2 X J Y H s->t Y H Q->wpAny (model X.prog X.w) X.A (spliced (backTo pos (starEach a X.env))) (AP X J Y Q) X.xe s
def PS(X:Cx)(a:Stmt)(t:TS):Prop:=
 ∀(J:List (Addr×Obj)) (s:Shared) (Y:St) (H:Hp) (D:Ends),Z2 X J Y H s->t D Y H->wpAny (model X.prog X.w) X.A (exec a X.env) (SP X J D) X.xe s
def PSs(X:Cx)(a:List Stmt)(t:TS):Prop:=
 ∀(J:List (Addr×Obj)) (s:Shared) (Y:St) (H:Hp) (D:Ends),Z2 X J Y H s->t D Y H->wpAny (model X.prog X.w) X.A (execs a X.env) (SP X J D) X.xe s
def thn{t:Sem α}{Q Q':α->Shared->Prop}{E:Value->Shared->Prop}{s:Shared}(h:wpAny Z8 A t Q E s)(b:∀a s,Q a s->Q' a s):wpAny Z8 A t Q' E s:=S8 h b λ_ _ x=>x
end L2
variable{X:L2.Cx}{ta te:L2.TE}
namespace L2
open PySem PySem.Spec PyProof.Rows
section
def Ih(i:Nat):TE:=λY H Q=>∃v,Y[i]?=some (some v)/\Q v H
def Ii(v:V):TE:=λ_ H Q=>Q v H
def abx(k:X.N[i]?=some x)(f:Vis X.env.scope x)(b:(x==("__debug__" : Str))=false:=by decide)(n:(x==("__classdict__" : Str))=false:=by decide):PE X (.Name x pos) (Ih i):=by
 intro J s Y H Q I h;let⟨v,e,h⟩:=h;let⟨m,g,j⟩:=I.loc;let⟨u,r,l⟩:=j i x v k e f;have a:EP X J Y Q u s:=⟨v,H,I,r,h⟩;rcases l with⟨hk,hm⟩|⟨hk,c,hc,d⟩
 .exact wpAny_Name (wpAny_loadName_local I.ok.kind hk g hm a) b
 .rcases hk with hk|hk
  .exact wpAny_Name (wpAny_loadName_cell I.ok.kind hk hc d a) b
  .exact wpAny_Name (wpAny_loadName_free I.ok.kind hk hc d a n) b
def tS{i j pos}:PE X (.Constant (.int i) j pos) (Ii (.int i)):=λ_ _ _ H _ I h=>wpAny_Constant_int ⟨.int i,H,I.tok _,⟨_,rfl⟩,h⟩
def ade{b j pos}:PE X (.Constant (.bool b) j pos) (Ii (.bl b)):=λ_ _ _ H _ I h=>Constant_bool ⟨.bl b,H,I,rfl,h⟩
def ab3{j pos}:PE X (.Constant .none j pos) (Ii .ZN):=λ_ _ _ H _ I h=>Constant_none ⟨.ZN,H,I,rfl,h⟩
def tP{x j pos}:PE X (.Constant (.str x) j pos) (Ii (.str x)):=λ_ _ _ H _ I h=>Calls.Constant_str ⟨.str x,H,I.tok _,⟨_,rfl⟩,h⟩
def Gl(X:Cx)(x:Str):Prop:=X.env.kindOf x=some .globalImplicit
def eN{E:Value->Shared->Prop}{Y:St}{u:Value}{Q:Value->Shared->Prop}(I:Z2 X J Y H s)(b:Gl X x)(a:X.mg x=some u)(h:Q u s)
  (c:(x==("__debug__" : Str))=false:=by decide):wpAny (model X.prog X.w) X.A (eval (.Name x pos) X.env) Q E s:=
 Rv I.ok.kind b (Calls.loadGlobal_global (by rw[I.ok.glob];exact I.mod.glob.keeps I.bk) a h) c
def bP{E:Value->Shared->Prop}{Y:St}{u:Value}{Q:Value->Shared->Prop}(I:Z2 X J Y H s)(d:Gl X x)(c:X.mg x=none)(a:bootBuiltins x=some u)(h:Q u s)
  (b:x ≠ "__name__":=by decide) (e:(x==("__debug__" : Str))=false:=by decide):wpAny (model X.prog X.w) X.A (eval (.Name x pos) X.env) Q E s:=by
 let⟨f,h1,h2⟩:=I.mod.blt;exact Rv I.ok.kind d (Calls.loadGlobal_builtin (by rw[I.ok.glob];exact I.mod.glob.keeps I.bk) c (by rw[I.ok.blt];exact h1.keeps I.bk) ((h2 x b).trans a) h) e
def zD{u:Value}(b:Gl X x)(a:X.mg x=some u)(r:RelV v u)(c:(x==("__debug__" : Str))=false:=by decide):PE X (.Name x pos) (Ii v):=
 λ_ _ _ H _ I h=>eN I b a ⟨v,H,I,r,h⟩ c
def y4{u:Value}(d:Gl X x)(c:X.mg x=none)(a:bootBuiltins x=some u)(r:RelV v u)(b:x ≠ "__name__":=by decide)(e:(x==("__debug__" : Str))=false:=by decide):PE X (.Name x pos) (Ii v):=
 λ_ _ _ H _ I h=>bP I d c a ⟨v,H,I,r,h⟩ b e
variable{a b:Expr}{tb:TE}
variable{tA tB':TT}{ZQ:List Expr}
def Ij(t u:TT):TT:=λY H Q=>t Y H λc H1=>if c=true then u Y H1 Q else Q false H1
def Ik(t u:TT):TT:=λY H Q=>t Y H λc H1=>if c=true then Q true H1 else u Y H1 Q
def Il(t:TT):TT:=λY H Q=>t Y H λc H1=>Q (!c) H1
def yV(b:PT X a tA):PW X (.BoolOp .And [a] pos) tA:=by
 intro d J s Y H Q I h;refine isTrue_and (thn (b J s Y H Q I h) λc f e=>?_);cases c with
 |true=>exact isTrue_and_nil e
 |false=>exact e
def acP(b:PT X a tA):PW X (.BoolOp .Or [a] pos) tA:=by
 intro d J s Y H Q I h;refine isTrue_or (thn (b J s Y H Q I h) λc f e=>?_);cases c with
 |false=>exact isTrue_or_nil e
 |true=>exact e
def abj(j:PT X a tA)(i:PW X (.BoolOp .And (b::ZQ) pos) tB'):PW X (.BoolOp .And (a::b::ZQ) pos) (Ij tA tB'):=by
 intro f J s Y H Q I h;refine isTrue_and (thn (j J s Y H _ I h) ?_);rintro c g ⟨H1,e,d⟩;cases c with
 |true=>exact i f J g Y H1 Q e d
 |false=>exact⟨H1,e,d⟩
def ads(j:PT X a tA)(i:PW X (.BoolOp .Or (b::ZQ) pos) tB'):PW X (.BoolOp .Or (a::b::ZQ) pos) (Ik tA tB'):=by
 intro f J s Y H Q I h;refine isTrue_or (thn (j J s Y H _ I h) ?_);rintro c g ⟨H1,e,d⟩;cases c with
 |true=>exact⟨H1,e,d⟩
 |false=>exact i f J g Y H1 Q e d
def acC(b:PT X a tA):PT X (.UnaryOp .Not a pos) (Il tA):=by
 intro J s Y H Q I h;exact isTrue_not (thn (b J s Y H (λc H1=>Q (!c) H1) I h) λ_ _ ⟨H1,d,q⟩=>⟨H1,d,q⟩)
def Hf(b a:TE):TE:=λY H Q=>b Y H λx H1=>∃c,x=.bl c/\if c=true then a Y H1 Q else Q (.bl false) H1
def Im(b a:TE):TE:=λY H Q=>b Y H λx H1=>∃c,x=.bl c/\if c=true then Q (.bl true) H1 else a Y H1 Q
def abG{op}{t:TE}(h:PE X a t):PE X (.BoolOp op [a] pos) t:=λJ s Y H Q I b=>BoolOp_one (h J s Y H Q I b)
def aaI(j:PE X a ta)(i:PE X (.BoolOp .And (b::ZQ) pos) tb):PE X (.BoolOp .And (a::b::ZQ) pos) (Hf ta tb):=by
 intro J s Y H Q I h;refine BoolOp_and (thn (j J s Y H _ I h) ?_);rintro v f ⟨x,H1,e,g,d⟩;let⟨c,rfl,d⟩:=d;cases g;refine Ti ?_;cases c with
 |true=>exact i J f Y H1 Q e d
 |false=>exact⟨.bl false,H1,e,rfl,d⟩
def adN(j:PE X a ta)(i:PE X (.BoolOp .Or (b::ZQ) pos) tb):PE X (.BoolOp .Or (a::b::ZQ) pos) (Im ta tb):=by
 intro J s Y H Q I h;refine BoolOp_or (thn (j J s Y H _ I h) ?_);rintro v f ⟨x,H1,e,g,d⟩;let⟨c,rfl,d⟩:=d;cases g;refine Ti ?_;cases c with
 |false=>exact i J f Y H1 Q e d
 |true=>exact⟨.bl true,H1,e,rfl,d⟩
end
end L2
namespace L2
variable{u:Value}{Y:St}
open PySem PySem.Spec PyProof.Rows
def SqL(K:HF)(H:Hp)(a:Addr)(xs:List V):Prop:=
 Rd H a (.S xs) \/
  ∃(o:Obj) (ZY:Array Value) (n:Nat),K.lookup a=some o/\o.cls=.type "list" /\ o.dict=none/\o.data=.seq ZY n/\ZY.size<=sizeLine/\ZH xs ZY.toList
def SqT(K:HF)(H:Hp)(a:Addr)(xs:List V):Prop:=
 Rd H a (.Z1 xs) \/
  ∃(o:Obj) (ZY:Array Value) (n:Nat),K.lookup a=some o/\o.cls=.type "tuple" /\ o.data=.seq ZY n/\ZY.size<=sizeLine/\ZH xs ZY.toList
def Io:Value->Option V
 |.none=>some .ZN
 |.bool b=>some (.bl b)
 |.int i _=>some (.int i)
 |.str x _=>some (.str x)
 |.bytes b _=>some (.XR b)
 |.float b _=>some (.VE b)
 |.ref a=>some (.ref a)
 |.type n=>some (.ty n)
 |_=>none
def RelV.abs{x:V}(r:RelV x u):Io u=some x:=by
 cases x with
 |ZN=>cases r;rfl
 |bl _=>cases r;rfl
 |int _=>let⟨t,rfl⟩:=r;rfl
 |str _=>let⟨t,rfl⟩:=r;rfl
 |XR _=>let⟨t,rfl⟩:=r;rfl
 |VE _=>let⟨t,rfl⟩:=r;rfl
 |ref _=>cases r;rfl
 |ty _=>cases r;rfl
def RelV.inj{x y:V}{u:Value}(r:RelV x u)(q:RelV y u):x=y:=X9 (r.abs.symm.trans q.abs)
def ZH.inj:∀{xs ys:List V} {O:List Value},ZH xs O->ZH ys O->xs=ys
 |_,_,_,.nil,.nil=>rfl
 |_,_,_,.cons r t,.cons r' t'=>by rw[r.inj r',ZH.inj t t']
section
variable{xs ys:List V}
def SqL.of(h:H a=some (.S xs)):SqL K H a xs:=.inl (.inl h)
def SqT.of(h:H a=some (.Z1 xs)):SqT K H a xs:=.inl (.inl h)
def Z2.list(I:Z2 X J Y H s)(h:SqL X.K H a xs):∃ZY:List Value,ZH xs ZY/\PlainL s.heap a ZY.toArray/\xs.length<=sizeLine:=by
 rcases h with h|⟨o,ZY,n,hk,hc,hd,b,c,r⟩
 .obtain ⟨z,ZY,n,r,e⟩:=h.ok I.ZL
  exact⟨ZY,r,⟨_,n,e,rfl,rfl,rfl⟩,z⟩
 .refine ⟨ZY.toList,r,⟨o,n,I.YU a o hk,hc,hd,by simpa using b⟩,?_⟩
  have e:=r.length;simp![Va]at e;lia
def Z2.tuple(I:Z2 X J Y H s)(h:SqT X.K H a xs):∃ZY:List Value,ZH xs ZY/\IsTup s.heap a ZY.toArray/\xs.length<=sizeLine:=by
 rcases h with h|⟨o,ZY,n,hk,hc,b,c,r⟩
 .obtain ⟨z,ZY,r,p⟩:=h.ok I.ZL
  exact⟨ZY,r,p,z⟩
 .refine ⟨ZY.toList,r,⟨o,I.YU a o hk,hc,n,by simpa using b⟩,?_⟩
  have e:=r.length;simp![Va]at e;omega
def Z2.Uw(I:Z2 X J Y H s)(h:SqL X.K H a xs)(h':SqL X.K H a ys):xs=ys:=by
 let⟨ZY,r,⟨o,n,e,_,_,d⟩,_⟩:=I.list h;let⟨b,r',⟨o',g,e',_,_,c⟩,_⟩:=I.list h';rw[e]at e';cases e';rw[d]at c;injection c with f _
 have:ZY=b:=by simpa using V2 Array.toList f
 subst this;exact r.inj r'
def Z2.U7(I:Z2 X J Y H s)(h:SqT X.K H a xs)(h':SqT X.K H a ys):xs=ys:=by
 let⟨ZY,r,⟨o,e,_,n,d⟩,_⟩:=I.tuple h;let⟨b,r',⟨o',e',_,g,c⟩,_⟩:=I.tuple h';rw[e]at e';cases e';rw[d]at c;injection c with f _
 have:ZY=b:=by simpa using V2 Array.toList f
 subst this;exact r.inj r'
end
abbrev Cx.W_(X:Cx)(E:Value->Shared->Prop):Cx:={X with xe:=E}
abbrev Cx.nox(X:Cx):Cx:=X.W_ λ_ _=>False
def Cx.Ok.W_{X:Cx}(a:X.Ok)(E:Value->Shared->Prop):(X.W_ E).Ok:=
 ⟨a.mod,a.kind,a.glob,a.blt,a.above,a.inj,a.has,a.Vc,a.hd,a.frames,a.stk,a.exf,a.bs,a.WR,a.Yw,a.Uy,a.XO,a.V_⟩
def Cx.Ok.Wu{E:Value->Shared->Prop}(a:(X.W_ E).Ok):X.Ok:=
 ⟨a.mod,a.kind,a.glob,a.blt,a.above,a.inj,a.has,a.Vc,a.hd,a.frames,a.stk,a.exf,a.bs,a.WR,a.Yw,a.Uy,a.XO,a.V_⟩
section
variable{E:Value->Shared->Prop}
def Z2.W_(I:Z2 X J Y H s)(E:Value->Shared->Prop):Z2 (X.W_ E) J Y H s:=⟨I.ok.W_ E,I.os,I.bare,I.base,I.loc,I.cell,I.free,I.XA,I.pin,I.ZL,I.len⟩
def Z2.Wu(I:Z2 (X.W_ E) J Y H s):Z2 X J Y H s:=⟨I.ok.Wu,I.os,I.bare,I.base,I.loc,I.cell,I.free,I.XA,I.pin,I.ZL,I.len⟩
def SP.Wu{D:Ends}{f:Flow}{a:Shared}(h:SP (X.W_ E) J D f a):SP X J D f a:=by
 cases f with
 |next=>let⟨ZU,H',I,q⟩:=h;exact⟨ZU,H',I.Wu,q⟩
 |brk=>let⟨ZU,H',I,q⟩:=h;exact⟨ZU,H',I.Wu,q⟩
 |cont=>let⟨ZU,H',I,q⟩:=h;exact⟨ZU,H',I.Wu,q⟩
 |ret u=>let⟨v,ZU,H',I,r,q⟩:=h;exact⟨v,ZU,H',I.Wu,r,q⟩
def PSs.nox{a:List Stmt}{t:TS}(h:PSs X.nox a t):PSs X a t:=λJ s Y H D I b=>
 S8 (h J s Y H D (I.W_ _) b) (λ_ _ q=>q.Wu) λ_ _ z=>False.elim z
end
section
variable{st:Stmt}{ZQ:List Stmt}{t u:TS}
def Hr:TS:=λD Y H=>D.nx Y H
def Ip(t u:TS):TS:=λD Y H=>t {D with nx:=u D} Y H
def rT:PSs X [] Hr:=λ_ _ Y H _ I h=>R7 ⟨Y,H,I,h⟩
def yM(c:PS X st t)(b:PSs X ZQ u):PSs X (st::ZQ) (Ip t u):=by
 intro J s Y H D I h;refine wpAny_execs_cons (thn (c J s Y H {D with nx:=u D} I h) λf a q=>?_)
 cases f with
 |next=>
  let⟨ZU,H',d,q⟩:=q;exact b J a ZU H' D d q
 |ret v=>exact q
 |brk=>exact q
 |cont=>exact q
def Z2.quiet(I:Z2 X J Y H s):interactive X.env=false:=by simp[interactive,I.ok.kind]
def Hl(a:TE):TS:=λD Y H=>a Y H λ_ H1=>D.nx Y H1
def zb(c:PE X e te)(b:swapsWith e none pos.line X.env=pure false:=by rfl):PS X (.Expr e pos) (Hl te):=by
 intro J s Y H D I h;exact wpAny_Expr_any (thn (c J s Y H _ I h) λv f ⟨x,H1,d,g,a⟩=>⟨Y,H1,d,a⟩) I.quiet b
def Iq(a:TE):TS:=λD Y H=>a Y H D.rt
def abr(c:PE X e te):PS X (.Return (some e) pos) (Iq te):=by
 intro J s Y H D I h;exact wpAny_Return_some (thn (c J s Y H _ I h) λv f ⟨x,H1,d,a,b⟩=>⟨x,Y,H1,d,a,b⟩)
def Ir(c:TT)(t u:TS):TS:=λD Y H=>c Y H λb H1=>if b=true then t D Y H1 else u D Y H1
def adk{c:Expr}{a b:List Stmt}{e:TT}(j:PT X c e)(l:PSs X a t)(k:PSs X b u):PS X (.If c a b pos) (Ir e t u):=by
 intro J s Y H D I h;refine wpAny_If (thn (j J s Y H _ I h) ?_);rintro d f ⟨H1,i,g⟩;cases d with
 |true=>exact l J f Y H1 D i g
 |false=>exact k J f Y H1 D i g
end
abbrev TG:=V->St->Hp->(St->Hp->Prop)->Prop
abbrev WO:=List V->St->Hp->(St->Hp->Prop)->Prop
def PG(X:Cx)(a:Expr)(t:TG):Prop:=
 ∀(J:List (Addr×Obj)) (s:Shared) (Y:St) (H:Hp) (v:V) (u:Value) (Q:St->Hp->Prop),Z2 X J Y H s->RelV v u->t v Y H Q ->
  wpAny (model X.prog X.w) X.A (assign a X.env u) (λ_ s'=>∃ZU H',Z2 X J ZU H' s'/\Q ZU H') X.xe s
def PGs(X:Cx)(a:List Expr)(t:WO):Prop:=
 ∀(J:List (Addr×Obj)) (s:Shared) (Y:St) (H:Hp) (vs:List V) (O:List Value) (Q:St->Hp->Prop),Z2 X J Y H s->ZH vs O->t vs Y H Q ->
  wpAny (model X.prog X.w) X.A (assignInOrder ((assignEach a X.env).map (·.2)) O) (λ_ s'=>∃ZU H',Z2 X J ZU H' s'/\Q ZU H') X.xe s
abbrev CG:=V->V->V->Hp->(Hp->Prop)->Prop
def Ca(X:Cx)(t:CG):Prop:=
 ∀(J:List (Addr×Obj)) (s:Shared) (Y:St) (H:Hp) (o i v:V) (a b u:Value) (Q:Hp->Prop),Z2 X J Y H s->RelV o a->RelV i b->RelV v u->t o i v H Q ->
  wpAny (model X.prog X.w) X.A (setItem a b u) (λ_ s'=>∃H',Z2 X J Y H' s'/\Q H') X.xe s
section
def FL(i:Nat):TG:=λv Y H Q=>Q (Y.set i (some v)) H
def qP(d:X.N.Nodup)(b:X.N[i]?=some x)(a:Loc X.env.scope x)(c:X.fn x=true\/X.env.scope.names.lookup x=some .local:=by first|exact .inl rfl|exact .inr rfl|assumption):PG X (.Name x pos) (FL i):=by
 intro J s Y H v u Q I r h;exact RL (eD I d b a r (λs' e=>⟨_,H,e,h⟩) c)
def gNil:WO:=λvs Y H Q=>vs=[]/\Q Y H
def Hn(t:TG)(u:WO):WO:=λvs Y H Q=>∃v r,vs=v::r/\t v Y H λZU H'=>u r ZU H' Q
def zV:PGs X [] gNil:=by
 intro J s Y H vs O Q I r h;let⟨e,h⟩:=h;subst e;cases r;exact assignInOrder_nil ⟨Y,H,I,h⟩
def yC{t:TG}{u:WO}(f:PG X e t)(d:PGs X es u)
  (c:(assignEach (e::es) X.env).map (·.2)=assign e X.env::(assignEach es X.env).map (·.2):=by rfl):PGs X (e::es) (Hn t u):=by
 intro J s Y H vs O Q I r h;let⟨v,k,g,h⟩:=h;subst g;cases r with
 |cons r rr=>
  rw[c];refine Rw (thn (f J s Y H _ _ _ I r h) ?_);rintro _ a ⟨i,H1,j,b⟩;exact d J a i H1 _ _ Q j rr b
def Iu(K:HF)(n:Nat)(t:WO):TG:=λv Y H Q=>∃a xs,v=.ref a/\SqT K H a xs/\xs.length=n/\t xs Y H Q
def acN{k:Nat}{t:WO}(m:X.calm=true)(h:PGs X es t)
  (j:(assignEach es X.env).length=n:=by rfl) (q:(assignEach es X.env).findIdx? (·.1)=none:=by rfl):PG X (.Tuple es k pos) (Iu X.K n t):=by
 intro J s Y H v u Q I r c;let⟨a,xs,p,i,l,c⟩:=c;subst p;cases r;let⟨ZY,d,g,x⟩:=I.tuple i;refine assign_Tuple_tuple (I.ok.hd m) g (by simp[j,<-l,d.length]) q λh' f=>?_
 have w:Z2 X J Y H {s with heap:=h'}:=I.kept (t':=s.toks) λb o e=>f b o (HC (Hw e)) e
 exact h J _ Y H xs _ Q w (by simpa using d) c
def Iv(a b:TE)(t:CG):TG:=λv Y H Q=>a Y H λo H1=>b Y H1 λi H2=>t o i v H2 λH3=>Q Y H3
def aaZ{i:Expr}{to ti:TE}{t:CG}(ho:PE X o to)(hi:PE X i ti)(hs:Ca X t)
  (ha:∀ v,assign (.Subscript o i pos) X.env v=(do
   let ov<-holding [v] (eval o X.env)
   let iv<-holding [v,ov] (eval i X.env)
   standAt pos
   holding [v,ov,iv] (setItem ov iv v)
   release [v,ov,iv] []):=by intro _;rfl):PG X (.Subscript o i pos) (Iv to ti t):=by
 intro J s Y H v u Q I r h;rw[ha];refine ZB (T3 (thn (ho J s Y H _ I h) ?_));rintro ov s1 ⟨x,H1,I1,r1,q1⟩;refine ZB (T3 (thn (hi J s1 Y H1 _ I1 q1) ?_));rintro iv s2 ⟨y,H2,I2,r2,q2⟩;refine ZB (Up (ZB (T3 (thn (hs J s2 Y H2 x y v ov iv u _ I2 r1 r2 r q2) ?_))));rintro _ s3 ⟨H3,I3,q3⟩;exact wpAny_release ⟨Y,H3,I3,q3⟩
def Iw(a:TE)(g:TG):TS:=λD Y H=>a Y H λx H1=>g x Y H1 D.nx
def uf{g:TG}(j:PE X e te)(i:PG X tg g)(f:swapsWithSole [tg] e pos.line X.env=pure false:=by rfl)(d:swappedStores [tg] e X.env=pure none:=by rfl)
  (h1:(assignEach [tg] X.env).map (·.2)=[assign tg X.env]:=by rfl):PS X (.Assign [tg] e pos) (Iw te g):=by
 intro J s Y H D I h;refine wpAny_Assign_stores (thn (j J s Y H _ I h) λv a ⟨x,H1,k,b,c⟩=>?_) f d;rw[h1];exact thn (i J a Y H1 x v _ k b c) λ_ l q=>q
def ab0(k:X.N.Nodup)(f:X.N[i]?=some x)(c:Loc X.env.scope x)(j:PE X e te)(d:swapsWith e (some (.Name x pos')) pos.line X.env=pure false:=by rfl)(g:X.fn x=true\/X.env.scope.names.lookup x=some .local:=by first|exact .inl rfl|exact .inr rfl|assumption):
  PS X (.Assign [.Name x pos'] e pos) (Iw te (FL i)):=by
 intro J s Y H D I h;refine wpAny_Assign_Name (thn (j J s Y H _ I h) λv o ⟨y,H1,m,a,b⟩=>?_) d;exact eD m k f c a (λn l=>⟨_,H1,l,b⟩) g
def Iy(i j:Nat)(a:TA):TS:=λD Y H=>a Y H λvs H1=>∃v w,vs=[v,w]/\D.nx ((Y.set i (some v)).set j (some w)) H1
def acu{y:Str}{a b:Expr}{ta:TA}{px py pt:Pos}{kt k2 W9}(hc:X.calm=true)(hN:X.N.Nodup)(hi:X.N[i]?=some x)(hj:X.N[j]?=some y)(U6:i≠j)
  (hx:X.env.scope.names.lookup x=some .local) (hy:X.env.scope.names.lookup y=some .local) (ha:PA X [a,b] ta)
  (hw:swappedStores [.Tuple [.Name x px,.Name y py] kt pt] (.Tuple [a,b] k2 W9) X.env=pure (some [x,y]))
  (hs:swapsWithSole [.Tuple [.Name x px,.Name y py] kt pt] (.Tuple [a,b] k2 W9) pos.line X.env=pure false:=by rfl) :
  PS X (.Assign [.Tuple [.Name x px,.Name y py] kt pt] (.Tuple [a,b] k2 W9) pos) (Iy i j ta):=by
 intro J s Y H D I h;rw[exec_Assign_arm];refine ZB (Up ?_);rw[hs];refine ZB (ZP ?_);rw[Xp #[1]]
 refine ZB (Tuple_ (thn (ha _ J s Y H _ I h) ?_));rintro O s1 ⟨vs,H1,I1,r1,q1⟩;let⟨v,w,e1,q1⟩:=q1;subst e1;obtain⟨u1,u2,rfl,rv,Y6⟩:∃u1 u2,O=[u1,u2]/\RelV v u1/\RelV w u2:=by
  cases r1 with
  |cons p q=>
   cases q with
   |cons p' q'=>
    cases q';exact⟨_,_,rfl,p,p'⟩
 refine V0 ?_ (by show 2<=sizeLine;decide)
 have I2:Z2 X J Y H1 {s1 with heap:=s1.heap.push {cls:=.type "tuple",data:=.seq [u1,u2].toArray}}:=I1.kept (t':=s1.toks) λb o e=>Hv _ e
 rw[hw];refine ZB (ZP ?_);show wpAny (model X.prog X.w) X.A (do rule "assign.swapped-stores";let items<-unpackItems (.ref s1.heap.objs.size) 2 none;assignInOrder [λv=>bindName X.env y v,λv=>bindName X.env x v] items.reverse;pure Flow.next) _ _ _
 refine ZB (wpAny_rule (ZB (unpackItems_tuple (items:=#[u1,u2]) (I.ok.hd hc) (IsTup.new s1.heap _) λh' hx'=>?_)));have I3:=I2.kept (h':=h') (t':=s1.toks) λb o e=>hx' b o (HC (Hw e)) e;show wpAny _ _ (assignInOrder [λv=>bindName X.env y v,λv=>bindName X.env x v] [u2,u1] >>= λ_=>pure Flow.next) _ _ _;refine ZB (Rw (wpAny_bindName (eD I3 hN hj (.inl hy) Y6 (λs2 I4=>?_) (.inr hy))));refine Rw (wpAny_bindName (eD I4 hN hi (.inl hx) rv (λs3 I5=>assignInOrder_nil (ZP ?_)) (.inr hx)));rw[List.set_comm _ _ (Ne.symm U6)]at I5;exact⟨_,H1,I5,q1⟩
end
set_option genInjectivity false in
structure It where
 go:Nat->Hp->Prop
 yld:Nat->Hp->V->Hp->Prop
 stop:Nat->Hp->Prop
def AH(X:Cx)(J:List (Addr×Obj))(H:Hp)(b:Addr):Prop:=
 H b=none/\b≠X.env.locals/\b ∉ X.fs/\(b∈X.ex\/X.Zc.heap.objs.size<=b)/\(∀x c,X.env.cells.lookup x=some c->c≠b) /\∀p∈X.pn++J,p.1≠b
def Z2.VB{b:Addr}(I:Z2 X J Y H s)(a:s.heap.objs.size<=b)(f:H' b=none):AH X J H' b:=by
 refine⟨f,So (HB I.lt a),I.nofs a,.inr (Hx I.sz a),λx c e z=>?_,λp d z=>?_⟩
 .obtain ⟨v,q⟩:=I.cell x c e
  exact absurd (HB q.lt (by rw[z];exact a)) (Ta _)
 .exact absurd (HB (Hw (I.pin p d).1) (by rw[z];exact a)) (Ta _)
structure Turn(P:Program)(w:World)(K:HF)(tg:Expr)(Z9:It)(fp:List Addr)(it:Addr)(tn:Nat->Heap->Prop):Prop where
 mem:it∈fp
 obj:∀i h,tn i h ->∀b∈fp,∃o,h.get? b=some o /\∀v,o.data ≠ .cell v
 keep:∀i h h',tn i h->(∀b∈fp,∀o,h.get? b=some o->h'.get? b=some o)->tn i h'
 item:∀(X:Cx),X.prog=P->X.w=w->X.K=K->X.calm=true ->∀(i:Nat) (J:List (Addr×Obj)) (s:Shared) (Y:St) (H:Hp) (E:Value->Shared->Prop),Z2 X J Y H s->(∀b∈fp,AH X J H b)->tn i s.heap->Z9.go i H ->
  wpAny (model P w) X.A (pyNext (.ref it)) (λr s1 => ∃ u,r=some u /\
   wpAny (model P w) X.A (letOwnedTupleGo tg (.ref it) u) (λ_ s2=>∃x H',Z2 X J Y H' s2/\RelV x u/\Z9.yld i H x H'/\tn (i+1) s2.heap /\∀b∈fp,H' b=none) E s1) E s
 done:∀(X:Cx),X.prog=P->X.w=w->X.K=K->X.calm=true ->∀(i:Nat) (J:List (Addr×Obj)) (s:Shared) (Y:St) (H:Hp) (E:Value->Shared->Prop),Z2 X J Y H s->(∀b∈fp,AH X J H b)->tn i s.heap->Z9.stop i H ->
  wpAny (model P w) X.A (pyNext (.ref it)) (λr s1=>r=none/\Z2 X J Y H s1) E s
 self:∀(A:Around) (i:Nat) (s:Shared) (Q:Value->Shared->Prop) (E:Value->Shared->Prop),tn i s.heap->Q (.ref it) s->wpAny (model P w) A (pyIter (.ref it)) Q E s
abbrev TI:=St->Hp->(It->Hp->Prop)->Prop
def PIE(X:Cx)(J:List (Addr×Obj))(Y:St)(c:Expr)(R:It->Hp->Prop)(d:Value)(a:Shared):Prop:=
 ∃(it:Addr) (fp:List Addr) (tn:Nat->Heap->Prop) (Z9:It) (H':Hp),d=.ref it/\Z2 X J Y H' a/\Turn X.prog X.w X.K c Z9 fp it tn/\tn 0 a.heap/\(∀b∈fp,AH X J H' b)/\R Z9 H'
def PI(X:Cx)(c a:Expr)(b:TI):Prop:=
 ∀(J:List (Addr×Obj)) (s:Shared) (Y:St) (H:Hp) (R:It->Hp->Prop),Z2 X J Y H s->b Y H R ->
  wpAny (model X.prog X.w) X.A (eval a X.env) (λv d=>wpAny (model X.prog X.w) X.A (pyIter v) (PIE X J Y c R) X.xe d) X.xe s
def e9{E:Value->Shared->Prop}{it:Addr}{o:Obj}{n:String}{vs:Array Value}{Q:Unit->Shared->Prop}(b:s.heap.get? it=some o)(e:o.cls=.type n)(d:o.data=.fields vs)
    (c:["enumerate","zip","dict_itemiterator","dict_reverseitemiterator","odict_iterator","itertools.zip_longest","itertools.pairwise"].contains n=false) (a:Q Unit.unit s):wpAny Z8 A (letOwnedTupleGo tg (.ref it) u) Q E s:=by
  unfold letOwnedTupleGo;cases tg<;>first
    |exact ZP a
    | (cases u <;> first
        |exact ZP a
        | (refine ZB (wpAny_load b ?_)
           rw[e,d];show wpAny Z8 A (if(["enumerate","zip","dict_itemiterator","dict_reverseitemiterator","odict_iterator","itertools.zip_longest","itertools.pairwise"].contains n&&vs[0]? == some (rawInt _))=true then _ else _) Q E s
           rw[Xp (by intro h;rw[c,Qf]at h;cases h)]
           exact ZP a))
def Itl(K:HF)(a:Addr):It:=
 ⟨λi H=>∃xs x,SqL K H a xs/\xs[i]?=some x,λi H x H'=>H'=H /\∀xs,SqL K H a xs->xs[i]?=some x,λi H=>∃xs,SqL K H a xs/\xs.length<=i⟩
def Itt(K:HF)(a:Addr):It:=
 ⟨λi H=>∃xs x,SqT K H a xs/\xs[i]?=some x,λi H x H'=>H'=H /\∀xs,SqT K H a xs->xs[i]?=some x,λi H=>∃xs,SqT K H a xs/\xs.length<=i⟩
def Itr(a:Int)(n:Nat):It:=⟨λi _=>i<n,λi H x H'=>H'=H/\x=.int (a+i),λi _=>n<=i⟩
def xh(a it:Addr):Turn P w K tg (Itl K a) [it] it (λi h=>h.IsListIter it a i) where
 mem:=by simp
 obj:=λi h st b hb=>by
  have e:b=it:=by simpa using hb
  subst e;let⟨o,e,c,d⟩:=st;exact⟨o,e,λv z=>by rw[d]at z;cases z⟩
 keep:=λi h h' st k=>st.at λo e=>k it #[3] o e
 item:=by
  intro X hP hw hK hc i J s Y H E I hf st hg;subst hP hw hK;let⟨xs,x,hq,hx⟩:=hg;let⟨ZY,rv,p,hz⟩:=I.list hq;let⟨u,hu,ru⟩:=rv.get hx;let⟨f0,f1,f2,f3,f4,f5⟩:=hf it #[3]
  refine wpAny_pyNext_list_item st p.isList (x:=u) (by simpa using hu) λh' Zb sb=>?_
  have I1:Z2 X J Y H {s with heap:=h'}:=I.turned (t':=s.toks) (λb o hb e=>(sb.2 b hb).trans e) f0 f1 f3 f4 f5
  let⟨o,e,c,d⟩:=id Zb;exact⟨u,rfl,e9 (s:={s with heap:=h'}) e c d #[1] ⟨x,H,I1,ru,⟨rfl,λys hy=>by rw[I.Uw hy hq];exact hx⟩,Zb,λb hb=>(hf b hb).1⟩⟩
 done:=by
  intro X hP hw hK hc i J s Y H E I hf st hg;subst hP hw hK;let⟨xs,hq,hx⟩:=hg;let⟨ZY,rv,p,hz⟩:=I.list hq;let⟨f0,f1,f2,f3,f4,f5⟩:=hf it #[3]
  have hl:=rv.length;exact wpAny_pyNext_list_end (I.ok.hd hc) st p.isList (by simp;lia) λh' eb=>⟨rfl,I.turned (t':=s.toks) (λb o hb e=>eb b o hb e) f0 f1 f3 f4 f5⟩
 self:=λ_ _ _ _ _ st h=>wpAny_pyIter_listiter st h
def wt(a it:Addr):Turn P w K tg (Itt K a) [it] it (λi h=>h.IsTupleIter it a i) where
 mem:=by simp
 obj:=λi h st b hb=>by
  have e:b=it:=by simpa using hb
  subst e;let⟨o,e,c,d⟩:=st;exact⟨o,e,λv z=>by rw[d]at z;cases z⟩
 keep:=λi h h' st k=>st.at λo e=>k it #[3] o e
 item:=by
  intro X hP hw hK hc i J s Y H E I hf st hg;subst hP hw hK;let⟨xs,x,hq,hx⟩:=hg;let⟨ZY,rv,p,hz⟩:=I.tuple hq;let⟨u,hu,ru⟩:=rv.get hx;let⟨f0,f1,f2,f3,f4,f5⟩:=hf it #[3]
  refine wpAny_pyNext_tuple_item st (show s.heap.IsTuple a ZY.toArray from p) (x:=u) (by simpa using hu) λh' Zb sb=>?_
  have I1:Z2 X J Y H {s with heap:=h'}:=I.turned (t':=s.toks) (λb o hb e=>(sb.2 b hb).trans e) f0 f1 f3 f4 f5
  let⟨o,e,c,d⟩:=id Zb;exact⟨u,rfl,e9 (s:={s with heap:=h'}) e c d #[1] ⟨x,H,I1,ru,⟨rfl,λys hy=>by rw[I.U7 hy hq];exact hx⟩,Zb,λb hb=>(hf b hb).1⟩⟩
 done:=by
  intro X hP hw hK hc i J s Y H E I hf st hg;subst hP hw hK;let⟨xs,hq,hx⟩:=hg;let⟨ZY,rv,p,hz⟩:=I.tuple hq;let⟨f0,f1,f2,f3,f4,f5⟩:=hf it #[3]
  have hl:=rv.length;exact wpAny_pyNext_tuple_end (I.ok.hd hc) st (show s.heap.IsTuple a ZY.toArray from p) (by simp;omega) λh' eb=>⟨rfl,I.turned (t':=s.toks) (λb o hb e=>eb b o hb e) f0 f1 f3 f4 f5⟩
 self:=λ_ _ _ _ _ st h=>wpAny_pyIter_tupleiter st h
def wF(it:Addr)(lo:Int)(n:Nat):Turn P w K tg (Itr lo n) [it] it (λi h=>IsRangeIter h it (lo+(i:Nat)*1) ((n:Int)-(i:Nat)) 1) where
 mem:=by simp
 obj:=λi h st b hb=>by
  have e:b=it:=by simpa using hb
  subst e
  exact ⟨_,st,λv z=>by
   have z':Data.fields _=Data.cell v:=z;cases z'⟩
 keep:=λi h h' st k=>k it #[3] _ st
 item:=by
  intro X hP hw hK hc i J s Y H E I hf st hg;subst hP hw hK;let⟨f0,f1,f2,f3,f4,f5⟩:=hf it #[3]
  have W:=Walks.range (prog:=X.prog) (w:=X.w) (I.ok.hd hc) it lo 1 n;refine W.item i s _ _ hg st λv h' tk hv Zb kk=>?_;let⟨t,rfl⟩:=hv;have I1:Z2 X J Y H {s with heap:=h',toks:=tk}:=I.turned (λb o hb e=>kk b o (by simpa using hb) e) f0 f1 f3 f4 f5
  refine⟨_,rfl,e9 (s:={s with heap:=h',toks:=tk}) (n:="range_iterator") Zb rfl rfl #[1] ⟨.int (lo+i),H,I1,⟨t,?_⟩,⟨rfl,rfl⟩,Zb,λb hb=>(hf b hb).1⟩⟩
  rw[Int.mul_one]
 done:=by
  intro X hP hw hK hc i J s Y H E I hf st hg;subst hP hw hK;let⟨f0,f1,f2,f3,f4,f5⟩:=hf it #[3]
  exact wpAny_pyNext_range_end (I.ok.hd hc) st (by have:n<=i:=hg;lia) λh' eb=>⟨rfl,I.turned (t':=s.toks) (λb o hb e=>eb b o hb e) f0 f1 f3 f4 f5⟩
 self:=λ_ _ _ _ _ st h=>wpAny_pyIter_rangeiter st h
end L2
namespace L2
open PySem PySem.Spec PyProof.Rows
section
def pU{Y:St}{R:It->Hp->Prop}{E:Value->Shared->Prop}{a c:Int}{t u v:Tok}{tk:Nat}(I:Z2 X J Y H s)(h1 : -(2 ^ 62)<=a)(j:a<2 ^ 62)(h3 : -(2 ^ 62)<=c)(g:c<2 ^ 62)
  (q:R (Itr a (c-a).toNat) H):wpAny (model X.prog X.w) X.A (pyIter (.ref s.heap.objs.size)) (PIE X J Y tg R) E {s with heap:=s.heap.push {cls:=.type "range",data:=.fields #[.int a t,.int c u,.int 1 v]},toks:=tk}:=by
 refine wpAny_pyIter_range (IsRange.new ..) (small_one h1 j h3 g) ?_;have d:Z2 X J Y H {s with heap:=s.heap.push {cls:=.type "range",data:=.fields #[.int a t,.int c u,.int 1 v]},toks:=tk}:=I.kept λb o e=>Hv _ e
 refine⟨(s.heap.push {cls:=.type "range",data:=.fields #[.int a t,.int c u,.int 1 v]}).objs.size,[(s.heap.push {cls:=.type "range",data:=.fields #[.int a t,.int c u,.int 1 v]}).objs.size],_,_,H,rfl,
  d.kept (t':=tk) λb o e=>Hv _ e,wF _ a (c-a).toNat,?_,λb f=>?_,q⟩
 .have r:a+((0:Nat):Int)*1=a:=by simp
  have k:(((c-a).toNat:Nat):Int)-((0:Nat):Int)=Builtin.Range.rangeSize a c 1:=by rw[rangeSize_one];split<;>lia
  show IsRangeIter _ _ (a+((0:Nat):Int)*1) ((((c-a).toNat:Nat):Int)-((0:Nat):Int)) 1;rw[r,k];exact HD _ rfl
 .have e:b=(s.heap.push {cls:=.type "range",data:=.fields #[.int a t,.int c u,.int 1 v]}).objs.size:=by simpa using f
  subst e;exact d.VB (Hz _) (d.ZL.fresh (Hz _))
def Hi(a:TA):TI:=λY H R=>a Y H λvs H1=>∃j:Int,vs=[.int j] /\ -(2 ^ 62)<=j/\j<2 ^ 62/\R (Itr 0 j.toNat) H1
def Ho(a:TA):TI:=λY H R=>a Y H λvs H1=>∃i j:Int,vs=[.int i,.int j]/\(-(2 ^ 62)<=i/\i<2 ^ 62 /\ -(2 ^ 62)<=j/\j<2 ^ 62)/\R (Itr i (j-i).toNat) H1
def xA{a:Expr}{c:TA}(k:Gl X "range")(i:X.mg "range" = none)(l:PA X [a] c)(g:starEach [a] X.env=[(false,eval a X.env)]:=by rfl):PI X tg (.Call (.Name "range" p) [a] [] pos) (Hi c):=by
 intro J s Y H R I h;refine Call_ (bP I k i boot_range (US (thn (l pos J s Y H _ I h) λO n ⟨vs,H1,m,d,b⟩=>?_) g rfl));let⟨j,e,b,f,q⟩:=b;subst e;cases d with
 |cons r rr=>
  cases rr;let⟨t,rfl⟩:=r;exact call_range_1 (pU m (by lia) (by lia) b f (by simpa using q))
def xy{a b:Expr}{d:TA}(u:Gl X "range")(o:X.mg "range" = none)(v:PA X [a,b] d)(n:starEach [a,b] X.env=[(false,eval a X.env),(false,eval b X.env)]:=by rfl)(f:starEach [b] X.env=[(false,eval b X.env)]:=by rfl):
  PI X tg (.Call (.Name "range" p) [a,b] [] pos) (Ho d):=by
 intro J s Y H R I h;refine Call_ (bP I u o boot_range (US (thn (v pos J s Y H _ I h) λO x ⟨vs,H1,w,g,c⟩=>?_) (by rw[n,f]) (by rw[f];rfl)))
 let⟨i,j,e,⟨c,m,l,k⟩,q⟩:=c;subst e;cases g with
 |cons r rr=>
  cases rr with
  |cons r' rr=>
   cases rr;let⟨t,rfl⟩:=r;let⟨t',rfl⟩:=r';exact call_range_2 (pU w c m l k q)
def Iz(b:TI)(g:TG)(c:TS):TS:=λD Y H=>b Y H λZ9 H1=>∃W:Nat->Nat->St->Hp->Prop,(∃m,W 0 m Y H1) /\∀i m Y H,W i m Y H ->
 (Z9.stop i H/\D.nx Y H)\/(Z9.go i H /\∃N:St->Hp->Prop,(∀ZU H',N ZU H' ->∃a,a<m/\W (i+1) a ZU H') /\∀x H',Z9.yld i H x H'->g x Y H' λd H2=>c {D with nx:=N,ct:=N,bk:=D.nx} d H2)
def Co(a:List Addr)(h:Heap):List (Addr×Obj):=a.filterMap λb=>(h.get? b).map λo=>(b,o)
def dJ{b:Addr}{o:Obj}(a:b∈fp)(e:h.get? b=some o):(b,o)∈Co fp h:=Sq.mpr ⟨b,a,by rw[e];rfl⟩
def xt{p:Addr×Obj}(a:p∈Co fp h):p.1∈fp/\h.get? p.1=some p.2:=by
 let⟨b,c,e⟩:=Sq.mp a;cases q:h.get? b with
 |none=>rw[q]at e;cases e
 |some o=>
  rw[q]at e;have e':(b,o)=p:=X9 e;subst e';exact⟨c,q⟩
def Z2.pinned{Y:St}{a:List Addr}(I:Z2 X J Y H s)(h:∀b∈a,AH X J H b)(g:∀b∈a,∃o,s.heap.get? b=some o /\∀v,o.data ≠ .cell v):Z2 X (J++Co a s.heap) Y H s:=
 I.TU λp f=>(Vm.mp f).elim (λz=>I.pin p (WQ _ z)) λz=>by
  let⟨c,e⟩:=xt z;let⟨k,j,i,_⟩:=h p.1 c;let⟨o,e',d⟩:=g p.1 c;rw[e]at e';cases e';exact⟨e,k,j,i,d⟩
def Z2.Uv{pl:List (Addr×Obj)}{Y:St}(I:Z2 X (J++pl) Y H s):Z2 X J Y H s:=I.TU λp a=>I.pin p (WQ _ (Rj _ a))
def abk{c:Expr}{y:List Stmt}{O:TI}{g:TG}{P:TS}(C:PassesOwn (model X.prog X.w) X.A X.env X.xe)(R:X.calm=true)(hi:PI X tg c O)(hg:PG X tg g)(j:PSs X y P)
  (hs:∀x,foldedSetIterable c X.env x=pure x:=by intro _;rfl):PS X (.For tg c y [] pos) (Iz O g P):=by
 intro J s Y H D I h;refine wpAny_For (thn (hi J s Y H _ I h) λv s1 h1=>thn h1 λV8 s2 h2=>?_) hs;let⟨it,fp,tn,Z9,H2,e,I2,T,Yl,S,W,⟨m0,w0⟩,turn⟩:=h2;subst e;have a:∀{H':Hp},(∀b∈fp,H' b=none) ->∀b∈fp,AH X J H' b:=λhn b j=>⟨hn b j,(S b j).2⟩;refine codeAny_forLoop_any (λn s'=>∃i ZU H',Z2 X J ZU H' s'/\tn i s'.heap/\(∀b∈fp,H' b=none)/\W i n ZU H') ?_ m0 ⟨0,Y,H2,I2,Yl,λb j=>(S b j).1,w0⟩;rintro n s3 ⟨i,F,H3,U,z,E,w3⟩;rcases turn i n F H3 w3 with⟨stop,qn⟩|⟨go,N,hN,step⟩
 .refine Sd C (thn (T.done X rfl rfl rfl R i J s3 F H3 X.xe U (a E) z stop) λr s4 ⟨K,I4⟩=>?_)
  subst K;exact R7 ⟨F,H3,I4,qn⟩
 .refine Sd C (thn (T.item X rfl rfl rfl R i J s3 F H3 X.xe U (a E) z go) λr s4 ⟨u,K,h4⟩=>?_)
  subst K;refine Sd C (thn h4 ?_);rintro _ Q ⟨x,V,I5,r5,Z,L,U5⟩;have M:=I5.pinned (a U5) (T.obj _ _ L);refine Sd C (thn (hg _ Q F V x u _ M r5 (step x V Z)) ?_);rintro _ s6 ⟨U4,H6,I6,q6⟩;refine Sd C (thn (j _ s6 U4 H6 _ I6 q6) λf G t=>?_);have k:∀{l:St} {q:Hp},Z2 X (J++Co fp Q.heap) l q G->N l q ->∃m,m<n /\∃i ZU H',Z2 X J ZU H' G/\tn i G.heap/\(∀b∈fp,H' b=none)/\W i m ZU H':=λ{l q} p B=>by
   let⟨m',hm,w7⟩:=hN l q B;refine⟨m',hm,i+1,l,q,p.Uv,T.keep _ _ _ L λb j o e=>(p.pin (b,o) (WQ _ (WQ _ (dJ j e)))).1,λb j=>?_,w7⟩;let⟨o,e,d⟩:=T.obj _ _ L b j;exact(p.pin (b,o) (WQ _ (WQ _ (dJ j e)))).2.1
  cases f with
  |next=>let⟨l,q,p,B⟩:=t;exact k p B
  |cont=>let⟨l,q,p,B⟩:=t;exact k p B
  |brk=>let⟨l,q,p,t⟩:=t;exact⟨l,q,p.Uv,t⟩
  |ret v=>let⟨x7,l,q,p,r7,t⟩:=t;exact⟨x7,l,q,p.Uv,r7,t⟩
end
end L2
namespace L2
open PySem PySem.Spec PyProof.Rows
abbrev R2:=V->V->Hp->VK->Prop
def OpR(X:Cx)(f:Value->Value->Sem Value)(r:R2):Prop:=
 ∀(J:List (Addr×Obj)) (s:Shared) (Y:St) (H:Hp) (x y:V) (v u:Value) (Q:VK),Z2 X J Y H s->RelV x v->RelV y u->r x y H Q ->
  wpAny (model X.prog X.w) X.A (f v u) (EP X J Y Q) X.xe s
def UnR(X:Cx)(f:Value->Sem Value)(r:V->Hp->VK->Prop):Prop:=
 ∀(J:List (Addr×Obj)) (s:Shared) (Y:St) (H:Hp) (x:V) (v:Value) (Q:VK),Z2 X J Y H s->RelV x v->r x H Q ->
  wpAny (model X.prog X.w) X.A (f v) (EP X J Y Q) X.xe s
def CallR(X:Cx)(f:Value)(r:List V->Hp->VK->Prop):Prop:=
 ∀(J:List (Addr×Obj)) (s:Shared) (Y:St) (H:Hp) (xs:List V) (O:List Value) (Q:VK),Z2 X J Y H s->ZH xs O->r xs H Q ->
  wpAny (model X.prog X.w) X.A (call f O) (EP X J Y Q) X.xe s
def TruR(X:Cx)(r:V->Hp->(Bool->Hp->Prop)->Prop):Prop:=
 ∀(J:List (Addr×Obj)) (s:Shared) (Y:St) (H:Hp) (x:V) (v:Value) (Q:Bool->Hp->Prop),Z2 X J Y H s->RelV x v->r x H Q ->
  wpAny (model X.prog X.w) X.A (truthy v) (TP X J Y Q) X.xe s
def IA(r:R2)(b a:TE):TE:=λY H Q=>b Y H λx H1=>a Y H1 λy H2=>r x y H2 Q
def IB(r:V->Hp->VK->Prop)(a:TE):TE:=λY H Q=>a Y H λx H1=>r x H1 Q
def IC(C:Int->Int->Prop)(g:Int->Int->V):R2:=λx y H Q=>∃i j,x=.int i/\y=.int j/\C i j/\Q (g i j) H
def ID(g:Int->Int->V):R2:=λx y H Q=>∃i j,x=.int i/\y=.int j/\Q (g i j) H
def IE(g:Int->V):V->Hp->VK->Prop:=λx H Q=>∃i,x=.int i/\Q (g i) H
section
variable{a b c:Expr}{tb tc:TE}
def nt(m:PE X a ta)(l:PE X b tb){Y:St}{R:V->V->Hp->Prop}(I:Z2 X J Y H s)
  (h:ta Y H λx H1=>tb Y H1 λy H2=>R x y H2) {Q:Value->Shared->Prop} {f:Value->Value->Sem Value}
  (k:∀v u d x y H2,Z2 X J Y H2 d->RelV x v->RelV y u->R x y H2->wpAny (model X.prog X.w) X.A (f v u) Q X.xe d) :
  wpAny (model X.prog X.w) X.A (eval a X.env) (λv n=>wpAny (model X.prog X.w) X.A (eval b X.env) (λu c=>wpAny (model X.prog X.w) X.A (f v u) Q X.xe c) X.xe n) X.xe s:=by
 refine thn (m J s Y H _ I h) ?_;rintro v e ⟨x,H1,p,g,j⟩;refine thn (l J e Y H1 _ p j) ?_;rintro u d ⟨y,H2,o,r2,i⟩;exact k v u d x y H2 o g r2 i
def acW{c:Operator}{r:R2}(g:OpR X (binaryOp c) r)(j:PE X a ta)(i:PE X b tb):PE X (.BinOp a c b pos) (IA r ta tb):=by
 intro J s Y H Q I h;exact wpAny_BinOp (nt j i I h λv u d x y H2 k f e q=>g J d Y H2 x y v u Q k f e q)
def ur{b:UnaryOp}{r:V->Hp->VK->Prop}(f:UnR X (unaryOp b) r)(g:PE X a ta):PE X (.UnaryOp b a pos) (IB r ta):=by
 intro J s Y H Q I h;exact UnaryOp_ (thn (g J s Y H _ I h) λv c ⟨x,H1,i,d,e⟩=>f J c Y H1 x v Q i d e)
def opI{C:Int->Int->Prop}{g:Int->Int->Int}
  (a:∀(i j:Int) (t u:Tok) (s:Shared) (Q:Value->Shared->Prop) (E:Value->Shared->Prop),C i j->Q (.int (g i j) s.toks) {s with toks:=s.toks+1}->wpAny (model X.prog X.w) X.A (f (.int i t) (.int j u)) Q E s) :
  OpR X f (IC C λi j=>.int (g i j)):=by
 intro J s Y H x y v u Q I c b h;let⟨i,j,rfl,rfl,hc,q⟩:=h;let⟨t,rfl⟩:=c;let⟨t',rfl⟩:=b;exact a i j t t' s _ _ hc ⟨.int (g i j),H,I.tok _,⟨_,rfl⟩,q⟩
def vt{g:Int->Int->Int}
  (a:∀(i j:Int) (t u:Tok) (s:Shared) (Q:Value->Shared->Prop) (E:Value->Shared->Prop),Q (.int (g i j) s.toks) {s with toks:=s.toks+1}->wpAny (model X.prog X.w) X.A (f (.int i t) (.int j u)) Q E s) :
  OpR X f (ID λi j=>.int (g i j)):=by
 intro J s Y H x y v u Q I c b h;let⟨i,j,rfl,rfl,q⟩:=h;let⟨t,rfl⟩:=c;let⟨t',rfl⟩:=b;exact a i j t t' s _ _ ⟨.int (g i j),H,I.tok _,⟨_,rfl⟩,q⟩
def fb{g:Int->Int->Bool}
  (a:∀(i j:Int) (t u:Tok) (s:Shared) (Q:Value->Shared->Prop) (E:Value->Shared->Prop),Q (.bool (g i j)) s->wpAny (model X.prog X.w) X.A (f (.int i t) (.int j u)) Q E s) :
  OpR X f (ID λi j=>.bl (g i j)):=by
 intro J s Y H x y v u Q I c b h;let⟨i,j,rfl,rfl,q⟩:=h;let⟨t,rfl⟩:=c;let⟨t',rfl⟩:=b;exact a i j t t' s _ _ ⟨.bl (g i j),H,I,rfl,q⟩
def FY(i j:Int):Prop:=0<=j/\j<=1000000/\i.natAbs<2 ^ 64
def CMul(i j:Int):Prop:=(-(2 ^ 64)<i/\i<2 ^ 64)\/(-(2 ^ 64)<j/\j<2 ^ 64)
def CMul.ok{i j:Int}(h:CMul i j):IntMulOk i j:=by
 rcases h with⟨h1,h2⟩|⟨h1,h2⟩
 .exact .of_left (intBits_le_64 h1 h2)
 .exact .of_right (intBits_le_64 h1 h2)
def eX:OpR X (binaryOp .Add) (ID λi j=>.int (i+j)):=vt λ_ _ _ _ _ _ _ q=>add_int q
def eU:OpR X (binaryOp .Sub) (ID λi j=>.int (i-j)):=vt λ_ _ _ _ _ _ _ q=>sub_int q
def zw:OpR X (binaryOp .Mod) (IC (λ_ j=>j≠0) λi j=>.int (i.fmod j)):=opI λ_ _ _ _ _ _ _ hc q=>mod_int' hc q
def abz:OpR X (binaryOp .Pow) (IC FY λi j=>.int (i ^ j.toNat)):=opI λ_ _ _ _ _ _ _ hc q=>pow_int_small hc.1 hc.2.1 hc.2.2 q
def unI{f:Value->Sem Value}{g:Int->Int}
  (a:∀(i:Int) (t:Tok) (s:Shared) (Q:Value->Shared->Prop) (E:Value->Shared->Prop),Q (.int (g i) s.toks) {s with toks:=s.toks+1}->wpAny (model X.prog X.w) X.A (f (.int i t)) Q E s) :
  UnR X f (IE λi=>.int (g i)):=by
 intro J s Y H x v Q I b h;let⟨i,rfl,q⟩:=h;let⟨t,rfl⟩:=b;exact a i t s _ _ ⟨.int (g i),H,I.tok _,⟨_,rfl⟩,q⟩
def sm:UnR X (unaryOp .USub) (IE λi=>.int (-i)):=unI λ_ _ _ _ _ q=>neg_int q
end
def IF:V->V->Bool
 |.ZN,.ZN=>true|.ZN,.int _=>true|.int _,.ZN=>true|.ZN,.bl _=>true|.bl _,.ZN=>true|.ZN,.str _=>true|.str _,.ZN=>true
 |.int _,.int _=>true|.bl _,.bl _=>true|.str _,.str _=>true|.XR _,.XR _=>true
 |.int _,.str _=>true|.str _,.int _=>true|.bl _,.str _=>true|.str _,.bl _=>true
 |_,_=>false
def rNe:R2:=λx y H Q=>IF x y=true/\Q (.bl (!decide (x=y))) H
def rl{i j:Int}:decide (V.int i=V.int j)=(i==j):=by
 rw[Ro];simp
def tD{i j:Bool}:decide (V.bl i=V.bl j)=(i==j):=by
 rw[Ro];simp
def rE{i j:Str}:decide (V.str i=V.str j)=(i==j):=by
 rw[Ro];simp
def zW{i j:Array UInt8}:decide (V.XR i=V.XR j)=(i.toList==j.toList):=by
 rw[Ro];cases i;cases j;simp
section
variable{a b c:Expr}{tb tc:TE}
def aD{Y:St}{Q:VK}{k k':Bool}(I:Z2 X J Y H s)(q:Q (.bl k) H)(e:k=k'):EP X J Y Q (.bool k') s:=by
 subst e;exact⟨.bl k,H,I,rfl,q⟩
def acZ:OpR X (compareOp .NotEq) rNe:=by
 intro J s Y H x y v u Q I d a h;let⟨c,q⟩:=h;cases x with
 |ZN=>
  cases d;cases y with
  |ZN=>cases a;exact PySem.EqNone.ne_none_none (aD I q #[3])
  |bl j=>cases a;exact PySem.EqNone.ne_none_bool (aD I q #[3])
  |int j=>let⟨t',rfl⟩:=a;exact PySem.EqNone.ne_none_int (aD I q #[3])
  |str j=>let⟨t',rfl⟩:=a;exact PySem.EqNone.ne_none_str (aD I q #[3])
  |_=>exact absurd (show false=true from c) Hy
 |bl i=>
  cases d;cases y with
  |ZN=>cases a;exact PySem.EqNone.ne_bool_none (aD I q #[3])
  |bl j=>cases a;exact ne_bool (aD I q (V2 not tD))
  |str j=>let⟨t',rfl⟩:=a;exact PySem.EqMixed.ne_bool_str (aD I q #[3])
  |_=>exact absurd (show false=true from c) Hy
 |int i=>
  let⟨t,rfl⟩:=d;cases y with
  |ZN=>cases a;exact PySem.EqNone.ne_int_none (aD I q #[3])
  |int j=>let⟨t',rfl⟩:=a;exact ne_int (aD I q (V2 not rl))
  |str j=>let⟨t',rfl⟩:=a;exact PySem.EqMixed.ne_int_str (aD I q #[3])
  |_=>exact absurd (show false=true from c) Hy
 |str i=>
  let⟨t,rfl⟩:=d;cases y with
  |ZN=>cases a;exact PySem.EqNone.ne_str_none (aD I q #[3])
  |bl j=>cases a;exact PySem.EqMixed.ne_str_bool (aD I q #[3])
  |int j=>let⟨t',rfl⟩:=a;exact PySem.EqMixed.ne_str_int (aD I q #[3])
  |str j=>let⟨t',rfl⟩:=a;exact ne_str (aD I q (V2 not rE))
  |_=>exact absurd (show false=true from c) Hy
 |XR i=>
  let⟨t,rfl⟩:=d;cases y with
  |XR j=>let⟨t',rfl⟩:=a;exact PySem.W.ne_bytes (aD I q (V2 not zW))
  |_=>exact absurd (show false=true from c) Hy
 |_=>cases y<;>exact absurd (show false=true from c) Hy
def acV:OpR X (compareOp .Lt) (ID λi j=>.bl (decide (i<j))):=fb λ_ _ _ _ _ _ _ q=>lt_int q
def adO:OpR X (compareOp .LtE) (ID λi j=>.bl (decide (i<=j))):=fb λ_ _ _ _ _ _ _ q=>le_int q
def adI:OpR X (compareOp .Gt) (ID λi j=>.bl (decide (j<i))):=fb λ_ _ _ _ _ _ _ q=>gt_int q
def adi:OpR X (compareOp .GtE) (ID λi j=>.bl (decide (j<=i))):=fb λ_ _ _ _ _ _ _ q=>ge_int q
def abA:OpR X (compareOp .Is) (λx y H Q=>y=.ZN/\Q (.bl (decide (x=.ZN))) H):=by
 intro J s Y H x y v u Q I a b h;let⟨rfl,q⟩:=h;cases b;refine is_none_gen (aD I q ?_);cases x<;>first
  |(cases a;rfl)
  |(let⟨t,rfl⟩:=a;rfl)
def aay:OpR X (compareOp .IsNot) (λx y H Q=>y=.ZN/\Q (.bl (!decide (x=.ZN))) H):=by
 intro J s Y H x y v u Q I a b h;let⟨rfl,q⟩:=h;cases b;refine isnot_none_gen (aD I q ?_);cases x<;>first
  |(cases a;rfl)
  |(let⟨t,rfl⟩:=a;rfl)
def aaf{c:CmpOp}{r:R2}(g:OpR X (compareOp c) r)(k:PE X a ta)(j:PE X b tb)(i:behindInMarks c b=false):PE X (.Compare a [c] [b] pos) (IA r ta tb):=by
 intro J s Y H Q I h;exact wpAny_Compare1 (nt k j I h λv u d x y H2 l f e q=>g J d Y H2 x y v u Q l f e q) i
def FP(t:TE):TT:=λY H Q=>t Y H λx H'=>∃k,x=.bl k/\Q k H'
def aah{d:CmpOp}{r:R2}(o:OpR X (compareOp d) r)(t:PE X a ta)(q:PE X b tb)(p:behindInMarks d b=false):PT X (.Compare a [d] [b] pos) (FP (IA r ta tb)):=by
 intro J s Y H Q I h;refine wpAny_isTrue_Compare1 (thn (t J s Y H _ I h) λv g ⟨x,H1,B,j,n⟩=>thn (q J g Y H1 _ B n) λu f ⟨y,H2,A,r2,m⟩ =>
  thn (o J f Y H2 x y v u _ A j r2 m) λc s3 ⟨z,H3,w,i,k,e,l⟩=>?_) p
 subst e;cases i;exact Ti ⟨H3,w,l⟩
def DH(r e:R2)(d c b:TE):TE:=λY H Q=>d Y H λx H1=>c Y H1 λy H2=>r x y H2 λz H3=>∃k,z=.bl k /\
 (if k=true then b Y H3 λa f=>e y a f Q else Q (.bl false) H3)
def yd{f g:CmpOp}{r i:R2}(D:OpR X (compareOp f) r)(L:OpR X (compareOp g) i)(K:PE X a ta)(G:PE X b tb)(F:PE X c tc)
  (E:lastMarks [f,g] [b,c]=false:=by with_unfolding_all rfl):PE X (.Compare a [f,g] [b,c] pos) (DH r i ta tb tc):=by
 intro J s Y H Q I h;refine Compare_chain (thn (K J s Y H _ I h) λv p ⟨x,H1,O,w,C⟩=>chain_link (thn (G J p Y H1 _ O C) λu o ⟨y,H2,N,r2,B⟩ =>
  thn (D J o Y H2 x y v u _ N w r2 B) λd s3 ⟨z,H3,l,t,k,e,j⟩=>?_)) E
 subst e;cases t;refine Ti ?_;cases k with
 |false=>exact ite_ff ⟨.bl false,H3,l,rfl,j⟩
 |true=>exact ite_tt (chain_last (thn (F J s3 Y H3 _ l j) λn s4 ⟨m,P,M,q,A⟩=>L J s4 Y P y m u n Q M r2 q A))
def xN{f g:CmpOp}{r i:R2}(G:OpR X (compareOp f) r)(P:OpR X (compareOp g) i)(N:PE X a ta)(M:PE X b tb)(L:PE X c tc)
  (K:lastMarks [f,g] [b,c]=false:=by with_unfolding_all rfl):PT X (.Compare a [f,g] [b,c] pos) (FP (DH r i ta tb tc)):=by
 intro J s Y H Q I h;refine isTrue_chain (thn (N J s Y H _ I h) λv p ⟨x,H1,U,A,E⟩=>test_link (thn (M J p Y H1 _ U E) λu o ⟨y,H2,T,r2,D⟩ =>
  thn (G J o Y H2 x y v u _ T A r2 D) λd s3 ⟨z,H3,l,w,k,e,j⟩=>?_)) K
 subst e;cases w;refine Ti ?_;cases k with
 |false=>
  let⟨k',e',F⟩:=j;cases e';exact ite_ff ⟨H3,l,F⟩
 |true=>
  refine ite_tt (test_last (thn (L J s3 Y H3 _ l j) λn s4 ⟨m,W,S,t,C⟩=>thn (P J s4 Y W y m u n _ S r2 t C) ?_));rintro d' s5 ⟨Z,V,R,q,k2,O,B⟩;subst O;cases q;exact Ti ⟨V,R,B⟩
def DA(K:HF)(x:V)(H:Hp)(k:Bool):Prop:=
 match x with
 |.ZN=>k=false
 |.bl b=>k=b
 |.int i=>k=(i != 0)
 |.str y=>y.length<=sizeLine/\k=((y.length:Int) != 0)
 |.XR y=>y.size<=sizeLine/\k=((y.size:Int) != 0)
 |.ref p=>(∃xs,SqL K H p xs/\k = !xs.isEmpty)\/(∃xs,SqT K H p xs/\k = !xs.isEmpty) \/∃Z4,H p=some (.dK Z4)/\k = !Z4.isEmpty
 |_=>False
def wm{a:Type}{Z4:List (a×V)}{vs:List (a×Value)}(r:KV Z4 vs):(!vs.isEmpty) = !Z4.isEmpty:=by
 cases r<;>rfl
def oz{xs:List V}(r:ZH xs ZY):(!ZY.toArray.isEmpty) = !xs.isEmpty:=by
 cases r<;>simp
def dq:(sizeLine:Nat)<2 ^ 63:=by rw[Tb];decide
def tB:TruR X (λx H Q=>∃k,DA X.K x H k/\Q k H):=by
 intro J s Y H x v Q I a h;let⟨k,e,q⟩:=h;have l:=dq;have j:sizeLine=16777216:=Tb;cases x with
 |ZN=>
  cases a;have e':k=false:=e;subst e';exact truthy_none ⟨H,I,q⟩
 |bl b=>
  cases a;have e':k=b:=e;subst e';exact Ti ⟨H,I,q⟩
 |int i=>
  let⟨t,rfl⟩:=a;have e':k=(i != 0):=e;subst e';exact PySem.P.truthy_int ⟨H,I,q⟩
 |str y=>
  let⟨t,rfl⟩:=a;obtain⟨f,e'⟩:y.length<=sizeLine/\k=((y.length:Int) != 0):=e;subst e';exact PySem.P.truthy_str (by lia) ⟨H,I.tok _,q⟩
 |XR y=>
  let⟨t,rfl⟩:=a;obtain⟨f,e'⟩:y.size<=sizeLine/\k=((y.size:Int) != 0):=e;subst e';exact PySem.W.truthy_bytes (by lia) ⟨H,I.tok _,q⟩
 |ref p=>
  cases a;have e':(∃xs,SqL X.K H p xs/\k = !xs.isEmpty)\/(∃xs,SqT X.K H p xs/\k = !xs.isEmpty) \/∃Z4,H p=some (.dK Z4)/\k = !Z4.isEmpty:=e;rcases e' with⟨xs,c,e'⟩|⟨xs,c,e'⟩|⟨Z4,c,e'⟩
  .subst e'
   let⟨ZY,r,pl,d⟩:=I.list c;have hlen:=r.length;exact wpAny_truthy_list pl.isList (by simp![Xz];lia) ⟨H,I.tok _,by rw[oz r];exact q⟩
  .subst e'
   let⟨ZY,r,pl,d⟩:=I.tuple c;have hlen:=r.length;exact truthy_tuple pl (by simp![Xz];omega) ⟨H,I.tok _,by rw[oz r];exact q⟩
  .subst e'
   obtain⟨d,g,vs,r,m⟩:Z4.length<=sizeLine/\(p==sysModules)=false /\∃vs,KV Z4 vs/\s.heap.DictOf (Az X.prog X.w) p vs:=I.ZL p _ c;have hlen:Z4.length=vs.length:=SK r;exact wpAny_truthy_dict g m (by lia) ⟨H,I.tok _,by rw[wm r];exact q⟩
 |_=>exact(show False from e).elim
def xY(ha:PE X a ta)(he:∀whole,isTrue a X.env whole=(do let v<-whole;standAt a.pos;holding [v] (truthy v))):
  PT X a (λY H Q=>ta Y H λx H'=>∃k,DA X.K x H' k/\Q k H'):=by
 intro J s Y H Q I h;exact isTrue_plain (thn (ha J s Y H _ I h) λv s1 ⟨x,H1,I1,r1,q1⟩=>tB J s1 Y H1 x v Q I1 r1 q1) (he _)
def vals1{x:V}{O:List Value}(r:ZH [x] O):∃u,O=[u]/\RelV x u:=by
 cases r with
 |cons a r2=>cases r2;exact⟨_,rfl,a⟩
def vals2{x:V}{O:List Value}(r:ZH [x,y] O):∃u a,O=[u,a]/\RelV x u/\RelV y a:=by
 cases r with
 |cons d r2=>
  cases r2 with
  |cons c b=>cases b;exact⟨_,_,rfl,d,c⟩
def call_abs:CallR X (.builtin "abs") (λxs H Q=>∃i,xs=[.int i]/\Q (.int (if i<0 then -i else i)) H):=by
 intro J s Y H xs O Q I r h;let⟨i,rfl,q⟩:=h;let⟨u,rfl,t,rfl⟩:=vals1 r;exact call_abs_int λu tk=>⟨.int (if i<0 then -i else i),H,I.tok _,⟨_,rfl⟩,q⟩
def xM(b:X.calm=true):CallR X (.builtin "max") (λxs H Q=>∃i j,xs=[.int i,.int j]/\Q (.int (if j > i then j else i)) H):=by
 intro J s Y H xs O Q I r h;let⟨i,j,rfl,q⟩:=h;let⟨u,c,rfl,⟨t,rfl⟩,⟨t',rfl⟩⟩:=vals2 r;refine max_two_ints (I.ok.hd b) λh' tk k=>⟨_,H,I.kept k,?_,q⟩;by_cases a:j > i
 .rw [Xg a,Xg a];exact⟨_,rfl⟩
 .rw [Xp a,Xp a];exact⟨_,rfl⟩
def xw(b:X.calm=true):CallR X (.builtin "min") (λxs H Q=>∃i j,xs=[.int i,.int j]/\Q (.int (if j<i then j else i)) H):=by
 intro J s Y H xs O Q I r h;let⟨i,j,rfl,q⟩:=h;let⟨u,c,rfl,⟨t,rfl⟩,⟨t',rfl⟩⟩:=vals2 r;refine min_two_ints (I.ok.hd b) λh' tk k=>⟨_,H,I.kept k,?_,q⟩;by_cases a:j<i
 .rw [Xg a,Xg a];exact⟨_,rfl⟩
 .rw [Xp a,Xp a];exact⟨_,rfl⟩
end
end L2
namespace L2
open PySem PySem.Spec PyProof.Rows
structure V6(h:Heap)(x dx C:Addr)(mA:Str->Option Value):Prop where
 obj:h.get? x=some (PySem.W.instObj C dx)
 ns:h.Ns1 dx mA
 ne:dx≠x
def w5{f:Addr}{d:Str->Option Value}(n:h.Ns1 f d):∃c,h.get? f=some c /\∀name,PySem.W.lookIn name c=some (d name):=by
 let⟨o,es,ep,ho,j,hk,_,i⟩:=n;refine⟨o,ho,λname=>?_⟩;have e:=i name;unfold nsFind findBy at e;rw[<-Array.find?_toList]at e;unfold PySem.W.lookIn;rw[j];dsimp only;split
 .rename_i y q
  rw[q]at e;exact V2 some e
 .rename_i q
  rw[q]at e;have a:es.toList.any (·.refKey)=false:=by
   rw[List.any_eq_false];intro y g;let⟨z,t,b⟩:=hk y (Rk.mp g);simp[DictEntry.refKey,b]
  have a' : ¬ es.toList.any (·.refKey)=true:=by rw[a];exact Hy
  rw[Xp a'];exact V2 some e
def V6.look{x c C:Addr}{b:Str->Option Value}(I:V6 h x c C b):∃a,PySem.W.InstAt h x (PySem.W.instObj C c) C (some a) /\∀name,PySem.W.lookIn name a=some (b name):=
 let⟨a,ho,d⟩:=w5 I.ns
 ⟨a,⟨I.obj,rfl,rfl,ho⟩,d⟩
section
variable{E:Value->Shared->Prop}{x dx C f:Addr}{mA:Str->Option Value}{name:Str}{v:Value}
def get_map{a:Bool}{Q:Value->Shared->Prop}(X:K.In s.heap)(I:V6 s.heap x dx C mA)(f:PySem.W.plainGet K C name=true)(e:PySem.W.hasDictIn K C=true)
  (g:PySem.W.findIn K (.ref C) name=some none) (c:mA name=some v) (b:PySem.W.handedIn v=true) (h:Q v {s with toks:=s.toks+1}) :
  wpAny (model prog w) A (getAttr (.ref x) name a) Q E s:=by
 let⟨i,Z9,d⟩:=I.look;exact PySem.W.get_value X Z9 (Rp f).1 (PySem.W.findObj_own e g rfl (by rw[d,c])) b h
def yF{Q:Value×List Value->Shared->Prop}(X:K.In s.heap)(I:V6 s.heap x dx C mA)(a:PySem.W.plainGet K C name=true)
  (g:PySem.W.findIn K (.ref C) name=some (some (.ref f))) (d:PySem.W.isFn K (.ref f)=true) (c:mA name=none) (h:Q (.ref f,[.ref x]) s) :
  wpAny (model prog w) A (getMethod (.ref x) name pl) Q E s:=by
 let⟨b,Z9,e⟩:=I.look;exact PySem.W.method_fn X Z9 (Rp a).1 (Rp a).2 g (Wv.mp d) (by show(PySem.W.lookIn name b).map (·.isSome)=some false;rw[e,c];rfl) h
def aab{ns:List Str}{Q:Unit->Shared->Prop}(X:K.In s.heap)(I:V6 s.heap x dx C mA)
  (u:PySem.W.findIn K (.ref C) "__setattr__" = some (some (.builtin "object.__setattr__"))) (z:PySem.W.plainOver K C=true) (t:PySem.W.takerIn K C name=some none) (B:PySem.W.hasDictIn K C=true)
  (o:PySem.Within mA ns) (hsz:ns.length<=sizeLine)
  (h:∀h',V6 h' x dx C (λy=>if y=name then some v else mA y)->Heap.SameBut dx s.heap h'->Q Unit.unit {s with heap:=h',toks:=s.toks+2}) :
  wpAny (model prog w) A (setAttr (.ref x) name v) Q E s:=by
 let⟨H,Z9,L⟩:=I.look;refine PySem.W.set_plain X Z9 u (PySem.W.osa_open (s:={s with toks:=s.toks+1}) (r:=none) X Z9 z t λb=>?_)
 let⟨M,hc,G⟩:=PySem.W.any_some B;have k:s.heap.get? x=some ⟨.ref C,some dx,.plain,#[]⟩:=I.obj;refine ZB (ZP (ZB (ZB (wpAny_loadPart k (ZB (PySem.W.Looks.here (s:={s with toks:=s.toks+1}) (PySem.W.looks_clsIn X hc) ?_))))))
 rw[G];refine ZP (a:=some dx) (ZB (ZP (ZB ?_)));refine wpAny_nsSet1 (s:={s with toks:=s.toks+1}) I.ns λh' j g=>?_
 let⟨J,D,F,c,d,f⟩:=j.count (PySem.Within.cons name v o);refine ZB (wpAny_lookBehind c (by rw[d];exact pastItsLine_dict (Hx f (by rw[XI];lia))) ?_)
 exact ZP (h _ ⟨(g.2 _ (Ne.symm I.ne)).trans I.obj,j,I.ne⟩ g)
def yk{R:Result->Shared->Prop}{vs:List Value}(X:K.In s.heap)(a:PySem.W.makesIn K C=true)
  (b:PySem.W.findIn K (.ref C) "__init__" = some (some (.ref f))) (c:PySem.W.typeIn K (.ref f)=some (.type "function"))
  (h:codeAny (model prog w) (A.under (.builtin "type.__call__" ⟨.ref C::vs,kw⟩)) (.call (.ref f) ⟨.ref (s.heap.objs.size+1)::vs,kw⟩) (PySem.W.InitBack (s.heap.objs.size+1) R)
   {s with heap:=(s.heap.push PySem.W.emptyDict).push (PySem.W.instObj C s.heap.objs.size)}) :
  codeAny (model prog w) A (.call (.ref C) ⟨vs,kw⟩) R s:=by
 let⟨e,g,d,t,os⟩:=s;exact PySem.W.make_core (PySem.W.makes_of X a) (PySem.W.looks_findIn X b) (λself=>PySem.W.bind_fn X self c) (.inl rfl) h
end
def AG(f:Str)(v:V):List (Str×V)->List (Str×V)
 |[]=>[(f,v)]
 |(g,x)::r=>if g=f then(g,v)::r else(g,x)::AG f v r
def nW(f g:Str)(v:V):∀fs:List (Str×V),(AG f v fs).lookup g=if g=f then some v else fs.lookup g
 |[]=>by
  show List.lookup g [(f,v)]=_;by_cases h:g=f
  .have a:(g==f)=true:=Wv.mpr h
   simp![List.lookup,a,Xg h]
  .have a:(g==f)=false:=Ue.mpr h
   simp![List.lookup,a,Xp h]
 |(k,x)::r=>by
  have ih:=nW f g v r;rw[show AG f v ((k,x)::r)=(if k=f then(k,v)::r else(k,x)::AG f v r)from rfl]
  by_cases hk:k=f
  .rw [Xg hk]
   by_cases h:g=k
   .have a:(g==k)=true:=Wv.mpr h
    simp![List.lookup,a,Xg (h.trans hk)]
   .have a:(g==k)=false:=Ue.mpr h
    simp![List.lookup,a,Xp (λe:g=f=>h (e.trans hk.symm))]
  .rw [Xp hk]
   by_cases h:g=k
   .have a:(g==k)=true:=Wv.mpr h
    simp![List.lookup,a,Xp (λe:g=f=>hk (h.symm.trans e))]
   .have a:(g==k)=false:=Ue.mpr h
    simp![List.lookup,a];exact ih
def fM(f:Str)(v:V):∀fs:List (Str×V),f∈(AG f v fs).map (·.1) /\∀g,g∈fs.map (·.1)->g∈(AG f v fs).map (·.1)
 |[]=>⟨by simp[AG],λg h=>by simp at h⟩
 |(k,x)::r=>by
  let⟨b,a⟩:=fM f v r;rw[show AG f v ((k,x)::r)=(if k=f then(k,v)::r else(k,x)::AG f v r)from rfl]
  by_cases hk:k=f
  .rw [Xg hk]
   subst hk;exact⟨by simp,λg h=>by simpa using h⟩
  .rw [Xp hk]
   refine⟨?_,λg h=>?_⟩
   .rw [Y3]
    exact HA _ b
   .rw [Y3]at h ⊢
    rcases YG.mp h with e|e
    .exact YG.mpr (.inl e)
    .exact HA _ (a g e)
def nS(f:Str)(v:V):∀fs:List (Str×V),(AG f v fs).length<=fs.length+1
 |[]=>by simp[AG]
 |(k,x)::r=>by
  have ih:=nS f v r;rw[show AG f v ((k,x)::r)=(if k=f then(k,v)::r else(k,x)::AG f v r)from rfl]
  by_cases hk:k=f
  .rw [Xg hk,XI,XI];lia
  .rw [Xp hk,XI,XI];lia
def RelO.some_of{o:Option Value}(r:RelO (some v) o):∃u,o=some u/\RelV v u:=by
 cases o with
 |none=>exact(show False from r).elim
 |some u=>exact⟨u,rfl,r⟩
def RelO.none_of{o:Option Value}(r:RelO none o):o=none:=by
 cases o with
 |none=>rfl
 |some u=>exact(show False from r).elim
def xq{u:Value}(r:RelV v u):PySem.W.handedIn u=true:=by
 cases v with
 |ZN=>cases(show u=Value.none from r);rfl
 |bl b=>cases(show u=Value.bool b from r);rfl
 |int i=>let⟨t,e⟩:=(show∃t,u=Value.int i t from r);cases e;rfl
 |str x=>let⟨t,e⟩:=(show∃t,u=Value.str x t from r);cases e;rfl
 |XR b=>let⟨t,e⟩:=(show∃t,u=Value.bytes b t from r);cases e;rfl
 |VE b=>let⟨t,e⟩:=(show∃t,u=Value.float b t from r);cases e;rfl
 |ref a=>cases(show u=Value.ref a from r);rfl
 |ty n=>cases(show u=Value.type n from r);rfl
section
variable{C dx:Addr}{fs WS:List (Str×V)}
def gO(c:HOk P w H h)(e:H a=some (.ins C dx fs)):∃mA,V6 h a dx C mA/\(∀f,RelO (fs.lookup f) (mA f))/\PySem.Within mA (fs.map (·.1))/\fs.length<=1000/\H dx=some (.own a):=by
 let⟨d,z,b,ob,mA,n,r,q⟩:=(show ObjOk P w H h a (.ins C dx fs)from c a _ e);exact⟨mA,⟨ob,n,b⟩,r,q,z,d⟩
end
structure Yy(K:HF)(C:Addr):Prop where
 pg:PySem.W.plainGet K C Str.empty=true
 hd:PySem.W.hasDictIn K C=true
 po:PySem.W.plainOver K C=true
 sa:PySem.W.findIn K (.ref C) "__setattr__" = some (some (.builtin "object.__setattr__"))
def Yy.get{C:Addr}(c:Yy K C)(f:Str):PySem.W.plainGet K C f=true:=c.pg
def NoAttr(K:HF)(C:Addr)(f:Str):Prop:=PySem.W.findIn K (.ref C) f=some none
def NoAttr.TB{C:Addr}{f:Str}(n:NoAttr K C f):PySem.W.takerIn K C f=some none:=by
 unfold PySem.W.takerIn;rw[show PySem.W.findIn K (.ref C) f=some none from n]
 rfl
structure Con(K:HF)(C:Addr)(f:Str)(v:V)(u:Value):Prop where
 at_:PySem.W.findIn K (.ref C) f=some (some u)
 rel:RelV v u
 get:PySem.W.specialIn K u "__get__" = some none
 cp:PySem.W.copiedNames.contains f=false
structure U3(K:HF)(C:Addr)(m:Str)(f:Addr):Prop where
 at_:PySem.W.findIn K (.ref C) m=some (some (.ref f))
 fn:PySem.W.isFn K (.ref f)=true
 kp:PySem.W.keepIn K (.ref f)=true
section
variable{Y:St}{C dx:Addr}{fs:List (Str×V)}{f:Str}{E:Value->Shared->Prop}
def oj{Q:Value->Shared->Prop}(I:Z2 X J Y H s)(e:H a=some (.ins C dx fs))(c:Yy X.K C)(n:NoAttr X.K C f)(l:fs.lookup f=some v)
  (h:∀u s',Z2 X J Y H s'->RelV v u->Q u s'):wpAny (model X.prog X.w) A (getAttr (.ref a) f b) Q E s:=by
 let⟨mA,Z6,r,_,_,_⟩:=gO I.ZL e;let⟨u,g,d⟩:=RelO.some_of (v:=v) (o:=mA f) (by rw[<-l];exact r f)
 exact get_map I.YU Z6 (c.get f) c.hd n g (xq d) (h u _ (I.tok _) d)
def wB{m:Str}{g:Addr}{Q:Value×List Value->Shared->Prop}(I:Z2 X J Y H s)(e:H a=some (.ins C dx fs))(c:Yy X.K C)(k:U3 X.K C m g)(l:fs.lookup m=none)
  (h:Q (.ref g,[.ref a]) s):wpAny (model X.prog X.w) A (getMethod (.ref a) m pl) Q E s:=by
 let⟨mA,Z6,r,_,_,_⟩:=gO I.ZL e;have b:mA m=none:=RelO.none_of (by rw[<-l];exact r m)
 exact yF I.YU Z6 (c.get m) k.at_ k.fn b h
def oC{u:Value}{Q:Unit->Shared->Prop}(I:Z2 X J Y H s)(e:H a=some (.ins C dx fs))(c:Yy X.K C)(n:NoAttr X.K C f)(p:fs.length<1000)(j:RelV y u)
  (h:∀s',Z2 X J Y (upd H a (.ins C dx (AG f y fs))) s'->Q Unit.unit s'):wpAny (model X.prog X.w) A (setAttr (.ref a) f u) Q E s:=by
 let⟨mA,Z6,r,i,_,ho⟩:=gO I.ZL e;have k:(fs.map (·.1)).length<=sizeLine:=by rw[Yj,Tb];lia
 refine aab I.YU Z6 c.sa c.po n.TB c.hd i k λh' d sb=>h _ ?_;have hd:∃o,h'.get? dx=some o:=let⟨o,_,_,e',_⟩:=d.ns;⟨o,e'⟩
 refine I.write (x:=a) (e:=dx) (by rw[e];exact True.intro) (.inr ho) (λb q m z=>(sb.2 b m).trans z) hd ?_
 refine⟨by rw[af Z6.ne];exact ho,?_,Z6.ne,d.obj,_,d.ns,λg=>?_,λg l=>?_⟩
 .have:=nS f y fs;lia
 .show RelO ((AG f y fs).lookup g) (if g=f then some u else mA g)
  rw[nW];by_cases q:g=f
  .rw [Xg q,Xg q];exact j
  .rw [Xp q,Xp q];exact r g
 .by_cases q:g=f
  .rw [q];exact(fM f y fs).1
  .refine (fM f y fs).2 g (i g λz=>l ?_)
   show(if g=f then some u else mA g)=none
   rw[Xp q];exact z
def Z2.made(I:Z2 X J Y H s):Z2 X J Y (upd (upd H s.heap.objs.size (.own (s.heap.objs.size+1))) (s.heap.objs.size+1) (.ins C s.heap.objs.size []))
  {s with heap:=(s.heap.push PySem.W.emptyDict).push (PySem.W.instObj C s.heap.objs.size)}:=by
 have d:(s.heap.push PySem.W.emptyDict).get? s.heap.objs.size=some PySem.W.emptyDict:=HD s.heap rfl;have k:((s.heap.push PySem.W.emptyDict).push (PySem.W.instObj C s.heap.objs.size)).get? (s.heap.objs.size+1)=some (PySem.W.instObj C s.heap.objs.size):=by
  have:=HD (s.heap.push PySem.W.emptyDict) (o:=PySem.W.instObj C s.heap.objs.size) rfl;rwa[SE]at this
 have j:(s.heap.push PySem.W.emptyDict).Ns s.heap.objs.size (λ_=>none):=⟨PySem.W.emptyDict,#[],_,d,rfl,(λe g=>absurd g #[3]),λ_=>rfl⟩
 have r:=I.laid (a:=s.heap.objs.size) (o:=.own (s.heap.objs.size+1)) (h':=s.heap.push PySem.W.emptyDict) (t':=s.toks) (λb u q=>Hv _ q) (Hz _) ⟨_,d⟩;refine r.laid (a:=s.heap.objs.size+1) (o:=.ins C s.heap.objs.size []) (t':=s.toks) (λb u q=>Hv _ q) (Qm (SE _ _)) ?_;have c:s.heap.objs.size≠s.heap.objs.size+1:=HC (Sj _);refine⟨by rw[af c,upd_same],SQ _,c,k,λ_=>none,(Heap.Ns1.of_empty j).at λo q=>Hv _ q,λ_=>True.intro,λy f=>absurd rfl f⟩
def zf{f:Str}{Q:Value->Shared->Prop}(a:attributeBase e f env (eval e env)=eval e env)
  (h:wpAny (model prog w) A (eval e env) (λo b=>wpAny (model prog w) A (getAttr o f true) Q E b) E s):wpAny (model prog w) A (eval (.Attribute e f pos) env) Q E s:=
 Attribute_any_ h (by rw[arm_eval_Attribute,a])
end
def IG(K:HF)(b:TE)(f:Str):TE:=λY H Q=>b Y H λx H1=>∃a C dx fs v,x=.ref a/\H1 a=some (.ins C dx fs)/\Yy K C/\NoAttr K C f/\fs.lookup f=some v/\Q v H1
def IH(K:HF)(c b:TE)(f:Str):TS:=λD Y H=>b Y H λy H1=>c Y H1 λx H2=>∃a C dx fs,x=.ref a/\H2 a=some (.ins C dx fs)/\Yy K C/\NoAttr K C f/\fs.length<1000 /\
 D.nx Y (upd H2 a (.ins C dx (AG f y fs)))
def Gk(X:Cx)(b:Operator)(a:V->V->Hp->VK->Prop):Prop:=
 ∀(J:List (Addr×Obj)) (s:Shared) (Y:St) (H:Hp) (x y:V) (u v:Value) (Q:VK),Z2 X J Y H s->RelV x u->RelV y v->a x y H Q->wpAny (model X.prog X.w) X.A (inplaceOp b u v) (EP X J Y Q) X.xe s
def GW(K:HF)(d c:TE)(e:V->V->Hp->VK->Prop)(f:Str):TS:=λD Y H=>d Y H λx H1=>∃a C dx fs v,x=.ref a/\H1 a=some (.ins C dx fs)/\Yy K C/\NoAttr K C f/\fs.lookup f=some v /\
 c Y H1 λy H2=>e v y H2 λz H3=>∃b WS,H3 a=some (.ins C b WS)/\WS.length<1000/\D.nx Y (upd H3 a (.ins C b (AG f z WS)))
section
variable{value:Expr}{f:Str}{tpos:Pos}{tv:TE}
def aaQ(g:PE X e ta)(i:attributeBase e f X.env (eval e X.env)=eval e X.env):PE X (.Attribute e f pos) (IG X.K ta f):=by
 intro J s Y H Q I h;refine zf i (thn (g J s Y H _ I h) ?_);rintro u r ⟨x,H1,m,b,a,C,dx,fs,v,ex,j,c,n,l,q⟩;subst ex;obtain rfl:u=Value.ref a:=b;exact oj m j c n l λo p k d=>⟨v,H1,k,d,q⟩
def aa2(m:PE X o ta)(j:PE X value tv)(k:swapsWith value (some (.Attribute o f pos')) pos.line X.env=pure false):PS X (.Assign [.Attribute o f pos'] value pos) (IH X.K ta tv f):=by
 intro J s Y H D I h;refine plainObj_wpAny_Assign_Attribute (thn (j J s Y H _ I h) λu b ⟨y,H1,v,d,q⟩=>thn (m J b Y H1 _ v q) λi w ⟨x,H2,t,e,a,C,dx,fs,ex,p,c,n,l,g⟩=>?_) k;subst ex;obtain rfl:i=Value.ref a:=e;exact oC t p c n l d λs3 r=>⟨Y,_,r,g⟩
def xv{g:Operator}{e:V->V->Hp->VK->Prop}(F:PE X o ta)(E:PE X value tv)(b:Gk X g e):PS X (.AugAssign (.Attribute o f tpos) g value pos) (GW X.K ta tv e f):=by
 intro J s Y H D I h;refine wpAny_AugAssign_AttributeAny (thn (F J s Y H _ I h) ?_);rintro A T ⟨x,H1,Q,p,a,C,dx,fs,v,ex,G,c,n,l,q⟩;subst ex;obtain rfl:A=Value.ref a:=p;refine oj Q G c n l λu j P r=>thn (E J j Y H1 _ P q) λi s3 ⟨y,H2,O,m,w⟩=>thn (b J s3 Y H2 v y u i _ O r m w) ?_;rintro R s4 ⟨z,H3,N,k,L,WS,d,B,t⟩;exact oC N d c n B k λS M=>⟨Y,_,M,t⟩
def rAdd:V->V->Hp->VK->Prop:=λx y H Q=>∃i j,x=.int i/\y=.int j/\Q (.int (i+j)) H
def abq:Gk X .Add rAdd:=by
 rintro J s Y H x y u v Q I b a ⟨i,j,rfl,rfl,q⟩;let⟨t,rfl⟩:=(show∃t,u=Value.int i t from b);let⟨t',rfl⟩:=(show∃t',v=Value.int j t' from a);exact PyProof.Rows.iadd_int ⟨.int (i+j),H,I.tok _,⟨_,rfl⟩,q⟩
end
section
variable{Y:St}{E:Value->Shared->Prop}{Q:Value->Shared->Prop}{c:Value}
inductive Xx(K:HF)(H:Hp):V->Value->Prop where
 |ZN:Xx K H .ZN (.type "NoneType")
 |bl (x:Bool):Xx K H (.bl x) (.type "bool")
 |int (i:Int):Xx K H (.int i) (.type "int")
 |str (x:Str):Xx K H (.str x) (.type "str")
 |VE (x:UInt64):Xx K H (.VE x) (.type "float")
 |S {a:Addr} {xs:List V} (e:H a=some (.S xs)):Xx K H (.ref a) (.type "list")
 |Zs {a:Addr} {o:Obj} {xs:List V} (e:H a=some (.Zs o (.S xs))):Xx K H (.ref a) (.type "list")
 |Z1 {a:Addr} {xs:List V} (e:H a=some (.Z1 xs)):Xx K H (.ref a) (.type "tuple")
 |dK {a:Addr} {Z4:List (Key×V)} (e:H a=some (.dK Z4)):Xx K H (.ref a) (.type "dict")
 |dT {a:Addr} {Z4:List (List Key×V)} (e:H a=some (.dT Z4)):Xx K H (.ref a) (.type "dict")
 |ins {a C dx:Addr} {fs:List (Str×V)} (e:H a=some (.ins C dx fs)) (cl:Yy K C) (ha:PySem.W.findIn K (.ref C) "__class__" = some (some (.builtin "object.__class__")))
   (hn:PySem.W.specialIn K (.builtin "object.__class__") "__get__" = some (some (.builtin "getset_descriptor.__get__"))) (htk:PySem.W.takesIn K (.builtin "object.__class__")=some true)
   (hm:PySem.W.mroIn K C (.type "object")=some true):Xx K H (.ref a) (.ref C)
end
end L2
namespace L2
open PySem PySem.Spec PyProof.Rows
structure Za(k:Nat)(A:Around):Prop where
 hd:A.handled=none
 dp:A.depth+3*k+5<recursionLimit
 un:A.units+16*k+200<cLine
 gd:A.guards=some []
def Za.deeper{k:Nat}{A:Around}(r:Za (k+1) A)(env:Env):Za k (A.deeper env):=
 ⟨r.hd,by have:=r.dp;show A.depth+1+3*k+5<_;lia,by have:=r.un;show A.units+3+16*k+200<_;lia,r.gd⟩
def wC{C:Addr}{O:List Value}:(A.under (.builtin "type.__call__" ⟨.ref C::O,kw⟩)).depth=A.depth+1:=by
 first|rfl|simp[Around.under,Code.weight,Code.isCreation,Code.isGuard,Code.isCaller,Code.frames,Code.isFrame,guardIds]
def wJ{C:Addr}{O:List Value}:(A.under (.builtin "type.__call__" ⟨.ref C::O,kw⟩)).units=A.units+1:=by
 first|rfl|simp[Around.under,Code.cUnits,Code.frames,Code.isFrame]
def Za.make{k:Nat}(r:Za (k+1) A)(C:Addr)(O:List Value)(kw:List (Str×Value)):Za k (A.under (.builtin "type.__call__" ⟨.ref C::O,kw⟩)):=
 ⟨r.hd,by have:=r.dp;rw[wC];lia,by have:=r.un;rw[wJ];lia,(show A.guards=_ from r.gd)⟩
def Za.depth{k:Nat}{A:Around}(r:Za k A):A.depth<recursionLimit:=by have:=r.dp;lia
def Za.units{k:Nat}{A:Around}(r:Za k A):A.units+64<cLine:=by have:=r.un;lia
def Eo:TA:=λ_ H Q=>Q [] H
def FK(b:TE)(a:TA):TA:=λY H Q=>b Y H λx H1=>a Y H1 λxs H2=>Q (x::xs) H2
section
variable{t:TA}
def bq:PA X [] Eo:=λ_ _ _ _ H Q I h=>Calls.spliced_nil ⟨[],H,I,.nil,h⟩
def aO(i:PE X e te)(g:PA X es t)(f:starEach (e::es) X.env=(false,eval e X.env)::starEach es X.env:=by rfl):PA X (e::es) (FK te t):=by
 intro pos J s Y H Q I h;rw[f];show wpAny _ _ (spliced ((false,eval e X.env)::backTo pos (starEach es X.env))) _ _ s;refine Rx (thn (i J s Y H _ I h) ?_);rintro u a ⟨x,H1,k,b,d⟩;exact thn (g pos J a Y H1 _ k d) λO l ⟨xs,H2,j,r2,c⟩=>⟨x::xs,H2,j,.cons b r2,c⟩
def II(t:TA):TE:=λY H Q=>t Y H λxs H1=>xs.length<=sizeLine /\∀p,H1 p=none->Q (.ref p) (upd H1 p (.Z1 xs))
def IJ(t:TA):TE:=λY H Q=>t Y H λxs H1=>xs.length<=sizeLine /\∀p,H1 p=none->Q (.ref p) (upd H1 p (.S xs))
def abU{x1}(h:PA X es t):PE X (.Tuple es x1 pos) (II t):=by
 intro J s Y H Q I d;refine wpAny_Tuple_spliced (thn (h pos J s Y H _ I d) λO a ⟨xs,H1,c,r,z,q⟩=>⟨by rw[<-r.length];exact z,?_⟩)
 have f:H1 a.heap.objs.size=none:=c.ZL.fresh (Hz _);refine⟨.ref a.heap.objs.size,upd H1 a.heap.objs.size (.Z1 xs),c.laid (t':=a.toks) (λb u e=>Hv _ e) (Hz _) ?_,rfl,q _ f⟩;exact⟨z,O,r,⟨_,HD _ rfl,rfl,_,rfl⟩⟩
def aaN(h:PA X es t):PE X (.List es pos) (IJ t):=by
 intro J s Y H Q I d;refine wpAny_List_spliced (thn (h pos J s Y H _ I d) λO a ⟨xs,H1,c,r,z,q⟩=>⟨by rw[<-r.length];exact z,?_⟩)
 have f:H1 a.heap.objs.size=none:=c.ZL.fresh (Hz _);refine⟨.ref a.heap.objs.size,upd H1 a.heap.objs.size (.S xs),c.laid (t':=a.toks) (λb u e=>Hv _ e) (Hz _) ?_,rfl,q _ f⟩;exact⟨z,O,0,r,HD _ rfl⟩
end
abbrev Sp:=List V->Hp->VK->XK->Prop
abbrev X4:=List Env->Hp->Shared->XK->Value->Shared->Prop
structure V5(P:Program)(w:World)(K:HF)(mg:Str->Option Value)(base:Heap)(A:Around)(outer:List Env)(s:Shared)(H:Hp):Prop where
 frames:A.frames=some outer
 mod:Mod K mg base
 bs:∀b o,base.get? b=some o->s.heap.get? b=some o/\H b=none
 WR:base.objs.size<=s.heap.objs.size
 XO:s.heap.FunFrames base outer
 V_:∀b∈frs outer,H b=none
 ZL:HOk P w H s.heap
 bare:AllBare s.gens
def CE(outer:List Env)(P:Program)(w:World)(H:Hp)(s:Shared)(Q:VK)(u:Value)(a:Shared):Prop:=
 ∃v H',a.os=s.os/\AllBare a.gens/\Un (frs outer) [] H H' s.heap a.heap/\HOk P w H' a.heap/\RelV v u/\Q v H'
def CR(CX:X4)(outer:List Env)(P:Program)(w:World)(H:Hp)(s:Shared)(Q:VK)(E:XK)(r:Result)(a:Shared):Prop:=
 match r with
 |.ok (.ret u)=>CE outer P w H s Q u a
 |.ok _=>False
 |.error e=>CX outer H s E e a
structure YL(P:Program)(w:World)(K:HF)(mg:Str->Option Value)(base:Heap)(CX:X4)(k:Nat)(f:Addr)(fd:FuncData)(ps:List Str)(sp:Sp):Prop where
 len:∀vs H Q E,sp vs H Q E->vs.length=ps.length
 run:∀(A:Around) (outer:List Env) (s:Shared) (H:Hp) (args:Args) (O:List Value) (vs:List V) (Q:VK) (E:XK),Za k A->V5 P w K mg base A outer s H->BindsTo s fd args (ps.zip O)->ZH vs O->sp vs H Q E ->
  codeAny (model P w) A (.call (.ref f) args) (CR CX outer P w H s Q E) s
def V5.make{outer:List Env}(e:V5 P w K mg base A outer s H)(C:Addr)(O:List Value)(kw:List (Str×Value)):
  V5 P w K mg base (A.under (.builtin "type.__call__" ⟨.ref C::O,kw⟩)) outer s H:=⟨by first|exact e.frames|(simpa[Around.under,Code.envs,Code.isFrame,pushEnvs]using e.frames),e.mod,e.bs,e.WR,e.XO,e.V_,e.ZL,e.bare⟩
section
variable{Y:St}{s':Shared}
def Z2.Ui(I:Z2 X J Y H s):V5 X.prog X.w X.K X.mg X.base X.A X.stack s H:=
 ⟨I.ok.frames,I.ok.mod,I.bs,Hx I.ok.WR I.sz,I.stack,I.TV,I.ZL,I.bare⟩
def Z2.after{Q:VK}{u:Value}(I:Z2 X J Y H s)(h:CE X.stack X.prog X.w H s Q u s'):EP X J Y Q u s':=by
 let⟨v,H',os,a,un,j,r,q⟩:=h;let⟨f,g,d,t,c⟩:=s';obtain rfl:c=s.os:=os;exact⟨v,H',I.call (h':=f) (g':=g) (d':=d) (t':=t) (ch:=[]) un j a (λb z=>absurd z #[3]),r,q⟩
end
def FR(sp:Sp)(a:List V)(E:XK)(t:TA):TE:=λY H Q=>t Y H λvs H1=>sp (vs++a) H1 Q E
def Binds(K:HF)(fd:FuncData)(ps:List Str)(a:List Value):Prop:=
 ∀(s:Shared) (O:List Value),K.In s.heap->(O++a).length=ps.length->BindsTo s fd ⟨O,[]⟩ (ps.zip (O++a))
def Binds.all(h:∀O:List Value,O.length=ps.length->bindArgs fd ⟨O,[]⟩=pure (ps.zip O)):Binds K fd ps []:=λs O _ a=>by
 rw[Se]at a ⊢;exact .of_eq (h O a)
def A4(CX:X4)(X:Cx)(E:XK):Prop:=∀(J:List (Addr×Obj)) (Y:St) (H:Hp) (s:Shared) (e:Value) (s':Shared),Z2 X J Y H s->CX X.stack H s E e s'->X.xe e s'
section
variable{CX:X4}{k:Nat}{f C:Addr}{sp:Sp}{W8:List V}{ds:List Value}{E:XK}{m:Str}{t:TA}
def sI{Y:St}{Q:VK}{O:List Value}(F:YL X.prog X.w X.K X.mg X.base CX k f fd ps sp)(c:Za k X.A)(i:Binds X.K fd ps ds)(g:ZH W8 ds)(b:A4 CX X E)
  (I:Z2 X J Y H s) (r:ZH vs O) (h:sp (vs++W8) H Q E):wpAny (model X.prog X.w) X.A (call (.ref f) O) (EP X J Y Q) X.xe s:=by
 have r2:ZH (vs++W8) (O++ds):=r.append g;have d:(O++ds).length=ps.length:=by rw[<-r2.length];exact F.len _ _ _ _ h
 refine wpAny_call (SF (F.run X.A X.stack s H ⟨O,[]⟩ (O++ds) (vs++W8) Q E c I.Ui (i s O I.YU d) r2 h) λr s' a=>?_);cases r with
 |error e=>exact b J Y H s e s' I a
 |ok fl=>
  cases fl with
  |ret u=>exact I.after a
  |next=>exact False.elim a
  |brk=>exact False.elim a
  |cont=>exact False.elim a
def zo(F:YL X.prog X.w X.K X.mg X.base CX k f fd ps sp)(c:Za k X.A)(i:Gl X x)(d:X.mg x=some (.ref f))(g:PySem.W.keepIn X.K (.ref f)=true)(m:Binds X.K fd ps ds)(l:ZH W8 ds)(b:A4 CX X E)
  (n:PA X (e::es) t) (o:(x==("__debug__" : Str))=false:=by decide) (j:starEach (e::es) X.env=(false,eval e X.env)::starEach es X.env:=by rfl) (u:(backTo pos (starEach es X.env)).any (·.1)=false:=by rfl) :
  PE X (.Call (.Name x p) (e::es) [] pos) (FR sp W8 E t):=by
 intro J s Y H Q I h;refine Sr (eN I i d ?_ o);refine PySem.W.callWith_K (h₀:=X.base) I.ok.mod.kin g (thn (n pos J s Y H _ I h) λO v ⟨vs,H1,a,r,q⟩=>⟨a.YU,?_⟩) j u;exact sI F c m l b a r q
def x5(F:YL X.prog X.w X.K X.mg X.base CX k f fd ps sp)(b:Za k X.A)(e:Gl X x)(c:X.mg x=some (.ref f))(d:PySem.W.keepIn X.K (.ref f)=true)(i:Binds X.K fd ps ds)(g:ZH W8 ds)(a:A4 CX X E)
  (j:(x==("__debug__" : Str))=false:=by decide):PE X (.Call (.Name x p) [] [] pos) (FR sp W8 E Eo):=by
 intro J s Y H Q I h;refine Sr (eN I e c ?_ j);exact PySem.W.callWith_K0 I.YU d (sI (O:=[]) F b i g a I .nil h)
structure Mk(K:HF)(C f:Addr):Prop where
 makes:PySem.W.makesIn K C=true
 init:PySem.W.findIn K (.ref C) "__init__" = some (some (.ref f))
 fn:PySem.W.isFn K (.ref f)=true
 kp:PySem.W.keepIn K (.ref C)=true
end
def PK(X:Cx)(kws:List Keyword)(t:TA):Prop:=
 ∀(pos:Pos) (J:List (Addr×Obj)) (s:Shared) (Y:St) (H:Hp) (Q:List V->Hp->Prop),Z2 X J Y H s->t Y H Q->wpAny (model X.prog X.w) X.A (evalAll ((backToKw pos (keywordEach kws X.env)).map (·.2))) (AP X J Y Q) X.xe s
section
variable{CX:X4}{k:Nat}{f C:Addr}{sp:Sp}{E:XK}{m:Str}{kpos:Pos}{t tk:TA}{nm:Option Str}
def abI:PK X [] Eo:=λ_ _ _ _ H Q I h=>wpAny_evalAll_nil ⟨[],H,I,.nil,h⟩
def zX(ha:PE X e te)(hr:PK X kws t):PK X (⟨nm,e,kpos⟩::kws) (FK te t):=by
 intro pos J s Y H Q I h;show wpAny _ _ (evalAll ((do let v<-eval e X.env;standAt pos;pure v)::(backToKw pos (keywordEach kws X.env)).map (·.2))) _ _ s
 refine wpAny_evalAll_cons (ZB (thn (ha J s Y H _ I h) λu s1 ⟨x,H1,I1,r1,q1⟩=>ZB (Up (ZP ?_))));exact thn (hr pos J s1 Y H1 _ I1 q1) λO s2 ⟨xs,H2,I2,r2,q2⟩=>⟨x::xs,H2,I2,.cons r1 r2,q2⟩
structure U2(K:HF)(fd:FuncData)(ps ks:List Str)(g:List Value->List Value->List Value)(gV:List V->List V->List V):Prop where
 to:∀(s:Shared) (O ws:List Value),K.In s.heap->(g O ws).length=ps.length->BindsTo s fd ⟨O,ks.zip ws⟩ (ps.zip (g O ws))
 rel:∀{vs:List V} {O:List Value} {zs:List V} {ws:List Value},ZH vs O->ZH zs ws->ZH (gV vs zs) (g O ws)
variable{g:List Value->List Value->List Value}
def r9{Y:St}{Q:VK}{O a:List Value}{c:List V}(F:YL X.prog X.w X.K X.mg X.base CX k f fd ps sp)(l:Za k X.A)(d:U2 X.K fd ps ks g gV)(j:A4 CX X E)
  (I:Z2 X J Y H s) (r:ZH vs O) (i:ZH c a) (h:sp (gV vs c) H Q E):wpAny (model X.prog X.w) X.A (call (.ref f) O (ks.zip a)) (EP X J Y Q) X.xe s:=by
 have r2:=d.rel r i;have m:(g O a).length=ps.length:=by rw[<-r2.length];exact F.len _ _ _ _ h
 refine wpAny_call (SF (F.run X.A X.stack s H ⟨O,ks.zip a⟩ (g O a) (gV vs c) Q E l I.Ui (d.to s O a I.YU m) r2 h) λr s' b=>?_);cases r with
 |error e=>exact j J Y H s e s' I b
 |ok fl=>
  cases fl with
  |ret u=>exact I.after b
  |next=>exact False.elim b
  |brk=>exact False.elim b
  |cont=>exact False.elim b
end
structure Uu(N P:List Str)(sc:Scope):Prop where
 kind:sc.kind=.function
 co:sc.isCoroutine=false
 gen:sc.isGenerator=false
 nd:N.Nodup
 pre:N.take P.length=P
 par:∀x∈P,sc.names.lookup x=some .local\/sc.names.lookup x=some .cell
 Tz:∀y∈sc.names,y.2 ≠ .free
def oZ{b:Str->Option NameKind}{x:Str}:∀{a:List (Str×Value)} {m:Str->Option Value},(∀v,(x,v) ∉ a)->bindL b a m x=m x
 |[],_,_=>rfl
 |(n,v)::r,m,h=>by
  unfold bindL;rw[oZ λw c=>h w (HA _ c)];split
  .have:x≠n:=by rintro rfl;exact h v Wt
   simp[this]
  .rfl
def oV{b:Str->Option NameKind}{x:Str}:∀{a:List (Str×Value)} {m:Str->Option Value},(∀v,(x,v) ∉ a)->bindC b a m x=m x
 |[],_,_=>rfl
 |(n,v)::r,m,h=>by
  unfold bindC;rw[oV λw c=>h w (HA _ c)];split
  .rfl
  .have:x≠n:=by rintro rfl;exact h v Wt
   simp[this]
def oY{a:Str->Option NameKind}{x:Str}{v:Value}:∀{P:List Str} {vs:List Value} {i:Nat} {m:Str->Option Value},P.Nodup->P[i]?=some x->vs[i]?=some v->a x=some .local ->
  bindL a (P.zip vs) m x=some v
 |[],_,_,_,_,h,_,_=>by simp at h
 |_::_,[],_,_,_,_,h,_=>by simp at h
 |p::P,w::vs,0,m,nd,h1,h2,hk=>by
  simp at h1 h2;subst h1;subst h2;show bindL a ((p,w)::P.zip vs) m p=_;unfold bindL;rw[oZ λv b=>(Wl.mp nd).1 (R8 b).1,Xg hk];simp
 |p::P,w::vs,i+1,m,nd,h1,h2,hk=>by
  show bindL a ((p,w)::P.zip vs) m x=_;unfold bindL;exact oY (i:=i) (Wl.mp nd).2 (by simpa using h1) (by simpa using h2) hk
def oW{a:Str->Option NameKind}{x:Str}{v:Value}:∀{P:List Str} {vs:List Value} {i:Nat} {m:Str->Option Value},P.Nodup->P[i]?=some x->vs[i]?=some v->a x≠some .local ->
  bindC a (P.zip vs) m x=some v
 |[],_,_,_,_,h,_,_=>by simp at h
 |_::_,[],_,_,_,_,h,_=>by simp at h
 |p::P,w::vs,0,m,nd,h1,h2,hk=>by
  simp at h1 h2;subst h1;subst h2;show bindC a ((p,w)::P.zip vs) m p=_;unfold bindC;rw[oV λv b=>(Wl.mp nd).1 (R8 b).1,Xp hk];simp
 |p::P,w::vs,i+1,m,nd,h1,h2,hk=>by
  show bindC a ((p,w)::P.zip vs) m x=_;unfold bindC;exact oW (i:=i) (Wl.mp nd).2 (by simpa using h1) (by simpa using h2) hk
def start(N:List Str)(vs:List V):St:=vs.map some++List.replicate (N.length-vs.length) none
def B9(CX:X4)(P:Program)(w:World)(K:HF)(mg:Str->Option Value)(base:Heap)(N:List Str)(qual:Str)(scope:Scope)(f:Addr)(cd:Value)(A:Around)(outer:List Env)(s:Shared)(H:Hp)(E:XK):Cx where
 prog:=P
 w:=w
 K:=K
 mg:=mg
 base:=base
 A:=A.deeper (envOfC qual scope s.heap.objs.size f cd)
 N:=N
 Zc:=s
 Vd:=H
 env:=envOfC qual scope s.heap.objs.size f cd
 outer:=outer
 stack:=envOfC qual scope s.heap.objs.size f cd::outer
 ex:=[]
 calm:=true
 fn:=λ_=>true
 pn:=[]
 xe:=λe s'=>wpAny (model P w) (A.deeper (envOfC qual scope s.heap.objs.size f cd)) (leaving (envOfC qual scope s.heap.objs.size f cd) e) (λ_ WN=>CX outer H s E e WN) (λe' WN=>CX outer H s E e' WN) s'
def qG{a:Scope}(h:a.names.lookup x=some .cell):∃c,(cellsFrom n a.names []).lookup x=some c:=by
 have q:=Ss a.names n [] (.inl h);exact Sg.mp q
def xE{CX:X4}{qual:Str}{f:Addr}{t:Value}{outer:List Env}{C:Shared}{E:XK}{O:List Value}
  (Z5:Uu N ps scope) (G:A.handled=none) (d:V5 P w K mg base A outer s H) (J:vs.length=ps.length) (r:ZH vs O)
  (x:InCallC s s.heap.objs.size (bindL (envOfC qual scope s.heap.objs.size f t).kindOf (ps.zip O) λ_=>none) (cellsFrom (s.heap.objs.size+1) scope.names []) (bindC (envOfC qual scope s.heap.objs.size f t).kindOf (ps.zip O) λ_=>none) C) :
  Z2 (B9 CX P w K mg base N qual scope f t A outer s H E) [] (start N vs) H C:=by
 have M:ps.length<=N.length:=by have:=V2 List.length Z5.pre;rw[Vl]at this;lia
 let⟨h1,tk,rfl,hk⟩:=x.done;have B:∀b:Addr,b ∉ (B9 CX P w K mg base N qual scope f t A outer s H E).ex:=λb z=>absurd (show b∈([]:List Addr)from z) #[3]
 refine ⟨⟨d.mod,Z5.kind,rfl,rfl,Hz _,λy z c h1 h2 => ?_,λy g => ?_,λy c _ h => ?_,λ_=>G,Around.frames_deeper d.frames,.inr ⟨rfl,rfl⟩,λb z=>absurd z (B b),d.bs,d.WR,λb _ _=>B b,λb z=>absurd z (B b),d.XO,d.V_⟩,
  rfl,d.bare,Un.kept hk,⟨_,x.toInCall.ns,λi y v h1 h2 L=>?_⟩,λy c h=>⟨_,x.cell y c h⟩,d.ZL.fresh (Hz _),λy c h=>?_,λp o=>absurd (show p∈([]:List (Addr×Obj))from o) #[3],d.ZL.kept hk,?_⟩
 .exact name_of_addr x.apart (Vj h1) (Vj h2)
 .have g:scope.names.lookup y=some .cell\/scope.names.lookup y=some .free:=g
  rcases g with g|g
  .exact qG g
  .exact absurd rfl (Z5.Tz _ (Vj g))
 .exact SW (x.above y c (Vj h))
 .have hi:i<vs.length:=by
   unfold start at h2;by_cases hi:i<vs.length
   .exact hi
   .rw [Xf (by simpa using hi)]at h2
    rw[Sk]at h2;split at h2<;>cases h2
  have I:vs[i]?=some v:=by
   unfold start at h2;rw[XD (by simpa using hi),Y0]at h2
   cases e:vs[i]? with
   |none=>rw[e]at h2;cases h2
   |some a=>rw[e]at h2;cases h2;rfl
  let⟨u,D,F⟩:=r.get I;have o:ps[i]?=some y:=by
   rw[<-Z5.pre,List.getElem?_take_of_lt (by lia)];exact h1
  have j:ps.Nodup:=by rw[<-Z5.pre];exact Z5.nd.sublist (List.take_sublist _ _)
  refine⟨u,F,?_⟩;rcases Z5.par y (XG o)with k|k
  .exact .inl ⟨k,oY j o D k⟩
  .obtain ⟨c,e⟩:=qG (n:=s.heap.objs.size+1) k
   refine .inr ⟨.inl k,c,e,?_⟩;have q:=x.cell y c e;rw[oW j o D (by show scope.names.lookup y≠_;rw[k];decide)]at q
   exact q
 .exact d.ZL.fresh (SW (x.above y c (Vj h)))
 .unfold start
  show _=N.length;rw[Xs,Yj,SA];lia
def adn{CX:X4}{k:Nat}{f:Addr}{name qual:Str}{a:Arguments}{c:List Stmt}{scope:Scope}{D J l C d ct JY:Value}{F L:Option Addr}
  {V4:Array (Option Value)} {N ps:List Str} {sp:Sp} (lk:K.lookup f=some ⟨JY,L,.func (PySem.W.fnOf name qual a c scope D J l C F d ct),V4⟩) (Z:PySem.W.codeIn K d qual=true) (Z5:Uu N ps scope)
  (len:∀vs H Q E,sp vs H Q E->vs.length=ps.length)
  (Tx:∀ (A:Around) (outer:List Env) (s:Shared) (H:Hp) (vs:List V) (Q:VK) (E:XK),Za k (A.deeper (envOfC qual scope s.heap.objs.size f d))->sp vs H Q E ->
   ∃t,PSs (B9 CX P w K mg base N qual scope f d A outer s H E) c t/\t {nx:=λ_ H'=>Q .ZN H',rt:=Q} (start N vs) H) :
  YL P w K mg base CX (k+1) f (PySem.W.fnOf name qual a c scope D J l C F d ct) ps sp:=by
 refine⟨len,λA outer s H args O vs Q E z j X r h=>?_⟩;have T:=len _ _ _ _ h;have G:K.In s.heap:=j.mod.kin.keeps λb o e=>(j.bs b o e).1;have p:s.heap.NoLimit:=j.mod.nolimit.keeps λb o e=>(j.bs b o e).1;have Uh:∀y∈ps.zip O,scope.names.lookup y.1=some .local\/(scope.names.lookup y.1=some .cell/\((cellsFrom (s.heap.objs.size+1) scope.names []).lookup y.1).isSome=true):=λ⟨n,v⟩ M=>by
  rcases Z5.par n (R8 M).1 with q|q
  .exact .inl q
  .exact .inr ⟨q,Ss _ _ _ (.inl q)⟩
 refine codeAny_call_function z.depth (G _ _ lk) rfl Z5.co Z5.gen rfl (PySem.W.codeRec_of G Z) (X _ _ _ _ ?_);refine wpAny_newFunctionEnv_cells Z5.kind Uh λenv U B x=>?_;subst U;refine⟨p.keeps x.toInCall.keep,codeAny_func ?_⟩;let⟨t,R,S⟩:=Tx A outer s H vs Q E (z.deeper _) h;have I:Z2 (B9 CX P w K mg base N qual scope f d A outer s H E) [] (start N vs) H B:=xE Z5 z.hd j T r x;refine S8 (R [] B (start N vs) H _ I S) (λY s' g=>?_) λe s' g=>g;have i:∀{ZU:St} {H':Hp} {v:V} {u:Value},Z2 (B9 CX P w K mg base N qual scope f d A outer s H E) [] ZU H' s'->RelV v u->Q v H'->CE outer P w H s Q u s':=
  λ{ZU H' v u} Z9 m q=>⟨v,H',Z9.os,Z9.bare,Z9.base,Z9.ZL,m,q⟩
 cases Y with
 |ret u=>
  let⟨v,ZU,H',Z9,m,q⟩:=g;exact i Z9 m q
 |next=>
  let⟨ZU,H',Z9,q⟩:=g;exact i (v:=V.ZN) (u:=Value.none) Z9 rfl q
 |brk=>
  let⟨_,_,_,q⟩:=g;exact False.elim q
 |cont=>
  let⟨_,_,_,q⟩:=g;exact False.elim q
end L2
variable{CX:L2.X4}
namespace L2
open PySem PySem.Spec PyProof.Rows
section
variable{t:TA}{id T:String}{r:List V->Hp->VK->Prop}
def IK(r:List V->Hp->VK->Prop)(t:TA):TE:=λY H Q=>t Y H λvs H1=>r vs H1 Q
def pe_callB(j:CallR X (.builtin id) r)(i:Gl X x)(g:X.mg x=none)(d:bootBuiltins x=some (.builtin id))(k:PA X (e::es) t)(f:x ≠ "__name__":=by decide)(l:(x==("__debug__" : Str))=false:=by decide)
  (he:starEach (e::es) X.env=(false,eval e X.env)::starEach es X.env:=by rfl) (m:(backTo pos (starEach es X.env)).any (·.1)=false:=by rfl):PE X (.Call (.Name x p) (e::es) [] pos) (IK r t):=by
 intro J s Y H Q I h;refine Sr (bP I i g d ?_ f l);exact PyProof.Rows.callWith_builtin1 (thn (k pos J s Y H _ I h) λO a ⟨vs,H1,n,b,c⟩=>j J a Y H1 vs O Q n b c) he m
def pe_callTy(j:CallR X (.type T) r)(i:Gl X x)(g:X.mg x=none)(d:bootBuiltins x=some (.type T))(k:PA X (e::es) t)(f:x ≠ "__name__":=by decide)(l:(x==("__debug__" : Str))=false:=by decide)
  (he:starEach (e::es) X.env=(false,eval e X.env)::starEach es X.env:=by rfl) (m:(backTo pos (starEach es X.env)).any (·.1)=false:=by rfl):PE X (.Call (.Name x p) (e::es) [] pos) (IK r t):=by
 intro J s Y H Q I h;refine Sr (bP I i g d ?_ f l);exact US (thn (k pos J s Y H _ I h) λO a ⟨vs,H1,n,b,c⟩=>j J a Y H1 vs O Q n b c) he m
end
end L2
namespace HT
open PySem PyProof.Rows
section
variable{E:Value->Shared->Prop}
def sIx(n d:Nat):Option Int->Nat
 |none=>d
 |some v=>if v<0 then(v+(n:Int)).toNat else min v.toNat n
def aaP(n d:Nat)(b:d<=n)(o:Option Int):sIx n d o<=n:=by
 cases o with
 |none=>exact b
 |some v=>
  show(if v<0 then(v+(n:Int)).toNat else min v.toNat n)<=n
  by_cases a:v<0
  .rw [Xg a];lia
  .rw [Xp a];exact Nat.min_le_right _ _
def rL(v:Int)(n d:Nat):(if v<0 then max (v+(n:Int)) 0 else min v (n:Int))=((sIx n d (some v):Nat):Int):=by
 show(if v<0 then max (v+(n:Int)) 0 else min v (n:Int))=(((if v<0 then(v+(n:Int)).toNat else min v.toNat n):Nat):Int)
 by_cases a:v<0
 .simp only [Xg a];lia
 .simp only [Xp a];lia
def wy(a b:Option Int)(n:Nat):Builtin.Slice.sliceAdjust a b 1 (n:Int)=(((sIx n 0 a:Nat):Int),((sIx n n b:Nat):Int)):=by
 have h1 : ¬ ((1:Int)<0):=by lia
 unfold Builtin.Slice.sliceAdjust;simp![h1,VC];refine Prod.ext ?_ ?_
 .cases a with
  |none=>rfl
  |some v=>exact rL v n 0
 .cases b with
  |none=>rfl
  |some v=>exact rL v n n
def wM(i j:Nat):Builtin.Slice.slicePlaces (i:Int) (j:Int) 1=j-i:=by
 unfold Builtin.Slice.slicePlaces;have h1:(1:Int) > 0:=by lia
 simp![h1,Vy,Int.ediv_one];split<;>lia
def oK{v:Value}{o:Option Int}{Q:Option Int->Shared->Prop}(p:IsPart v o)(h:Q o s):wpAny (model prog w) A (Builtin.Slice.slicePartIndex v) Q E s:=by
 cases p with
 |none=>exact slicePart_none h
 |int i t=>exact slicePart_int h
def vz{k:Addr}{f d:Value}{a c:Option Int}{Q:Int×Int×Nat->Shared->Prop}(r:s.heap.IsSliceOf k f d .none)(pl:IsPart f a)(o:IsPart d c)
  (h:Q (((sIx n 0 a:Nat):Int),1,sIx n n c-sIx n 0 a) s):wpAny (model prog w) A (Builtin.Slice.sliceApplied (.ref k) (pure (n:Int))) Q E s:=by
 let⟨os,j,t,g⟩:=id r;unfold Builtin.Slice.sliceApplied Builtin.Slice.sliceFields;refine ZB (ZB (wpAny_field j g (x:=f) rfl (ZB (wpAny_field j g (x:=d) rfl (ZB (wpAny_field j g (x:=.none) rfl (ZP ?_)))))));refine ZB (slicePart_none ?_);show wpAny _ _ (if((1:Int)==0)=true then _ else _) _ _ s
 rw[Xp #[1]]
 refine ZB (oK pl (ZB (oK o (ZB (ZP ?_)))));show wpAny _ _ (match Builtin.Slice.sliceAdjust a c 1 (n:Int)with|(a,c)=>pure (a,(1:Int),Builtin.Slice.slicePlaces a c 1)) _ _ s
 rw[wy a c n];show wpAny _ _ (pure (((sIx n 0 a:Nat):Int),(1:Int),Builtin.Slice.slicePlaces ((sIx n 0 a:Nat):Int) ((sIx n n c:Nat):Int) 1)) _ _ s;rw[wM];exact ZP h
def x4(xs:Array Value)(i k:Nat):((List.range k).filterMap λ(m:Nat)=>xs[((i:Int)+(m:Int)*1).toNat]?).toArray=((xs.toList.drop i).take k).toArray:=by
 have e:(λ(m:Nat)=>xs[((i:Int)+(m:Int)*1).toNat]?)=λm=>xs[i+m]?:=by
  funext m;have:((i:Int)+(m:Int)*1).toNat=i+m:=by lia
  rw[this]
 rw[e];have:=pick_run xs i k;rw[List.filterMap_map]at this;have a:((λx=>xs[x]?) ∘ λx=>i+x)=λm=>xs[i+m]?:=rfl;rw[a]at this;rw[this]
def getItem_tuple_cut{t g:Addr}{items:Array Value}{o k:Value}{a c:Option Int}{Q:Value->Shared->Prop}(d:IsTup s.heap t items)(r:s.heap.IsSliceOf g o k .none)(pl:IsPart o a)(u:IsPart k c)
  (hw : ¬ (sIx items.size 0 a=0/\sIx items.size items.size c=items.size))
  (h:Q (.ref s.heap.objs.size) {s with heap:=s.heap.push {cls:=.type "tuple",data:=.seq ((items.toList.drop (sIx items.size 0 a)).take (sIx items.size items.size c-sIx items.size 0 a)).toArray}})
  (hsz:items.size<=sizeLine):wpAny (model prog w) A (getItem (.ref t) (.ref g)) Q E s:=by
 have f:sizeOk (.seq ((items.toList.drop (sIx items.size 0 a)).take (sIx items.size items.size c-sIx items.size 0 a)).toArray):=by
  show((items.toList.drop (sIx items.size 0 a)).take (sIx items.size items.size c-sIx items.size 0 a)).toArray.size<=sizeLine;rw[Xz,Vl,S9,Va];omega
 have F:sIx items.size items.size c<=items.size:=aaP _ _ (Hz _) c;let⟨os,B,y,G⟩:=id r;have j:s.TypeIs (.ref g) "slice":=⟨os,B,y⟩;unfold getItem
 try with_reducible refine T3 ?_
 first|refine ZB (ZP ?_)|skip
 refine ZB (wpAny_sequenceKey d.typeIs #[1] ?_)
 refine ZB (SR (name:=Str.ofString "__getitem__") d.typeIs S3
  (S_ S3 d.typeIs entry_tuple_getitem ?_ (args_tuple_getitem _ _)))
 show wpAny _ _ (Builtin.Tuple.tupleItemsOf (.ref t) >>= _) _ _ s;refine ZB (tupleItemsOf_ d ?_);refine ZB (wpAny_typeOf j ?_);rw[Xg #[1]]
 refine ZB (vz r pl u ?_);have z : ¬ ((((sIx items.size 0 a:Nat):Int)==0&&(1:Int)==1&&(sIx items.size items.size c-sIx items.size 0 a)==items.size)=true):=by
  intro q;rw[Yk,Yk]at q;have D:((sIx items.size 0 a:Nat):Int)=0:=eq_of_beq q.1.1;have C:sIx items.size items.size c-sIx items.size 0 a=items.size:=eq_of_beq q.2;exact hw ⟨by lia,by omega⟩
 show wpAny _ _ (if(((sIx items.size 0 a:Nat):Int)==0&&(1:Int)==1&&(sIx items.size items.size c-sIx items.size 0 a)==items.size)=true then _ else _) _ _ s
 rw[Xp z,x4]
 first
  |exact ZB (m:=Builtin.Tuple.tupleExact _) (V0 (ZP ⟨_,rfl,ZP h⟩) f)
  |exact ZB (m:=Builtin.Tuple.tupleExact _) (V0 (ZB (ZP (ZP ⟨_,rfl,ZP h⟩))) f)
  |exact ZB (ZB (m:=Builtin.Tuple.tupleExact _) (V0 (ZP (ZP ⟨_,rfl,ZP h⟩)) f))
  |exact ZB (ZB (m:=Builtin.Tuple.tupleExact _) (V0 (ZP ⟨_,rfl,ZP h⟩) f))
end
end HT
namespace L2
open PySem PySem.Spec PyProof.Rows
abbrev TO:=St->Hp->(Option Int->Hp->Prop)->Prop
def PO(X:Cx)(e:Option Expr)(t:TO):Prop:=
 ∀(J:List (Addr×Obj)) (s:Shared) (Y:St) (H:Hp) (Q:Option Int->Hp->Prop),Z2 X J Y H s->t Y H Q ->
  wpAny (model X.prog X.w) X.A (evalPart e X.env) (λu s'=>∃o H',Z2 X J Y H' s'/\IsPart u o/\Q o H') X.xe s
def GS:TO:=λ_ H Q=>Q none H
def G6(t:TE):TO:=λY H Q=>t Y H λx H1=>∃i,x=.int i/\Q (some i) H1
section
variable{lo hi:Option Expr}{tl th:TO}{p2:Pos}
def y9:PO X none GS:=by
 intro J s Y H Q I h;rw[evalPart_none];exact ZP ⟨none,H,I,.none,h⟩
def aat(h:PE X e te):PO X (some e) (G6 te):=by
 intro J s Y H Q I c;rw[evalPart_some];refine thn (h J s Y H _ I c) ?_;rintro u f ⟨x,H1,d,a,b⟩;let⟨i,rfl,q⟩:=b;let⟨t,rfl⟩:=a;exact⟨some i,H1,d,.int i t,q⟩
def SlR(X:Cx)(r:V->Option Int->Option Int->Hp->VK->Prop):Prop:=
 ∀(J:List (Addr×Obj)) (s:Shared) (Y:St) (H:Hp) (x:V) (v b a:Value) (lo hi:Option Int) (c:Addr) (Q:VK),Z2 X J Y H s->RelV x v->s.heap.IsSliceOf c b a .none->IsPart b lo->IsPart a hi->r x lo hi H Q ->
  ∃T id,typeLookup (.type T) "__getitem__" = pure (some (.builtin id))/\s.TypeIs v T/\wpAny (model X.prog X.w) X.A (getItem v (.ref c)) (EP X J Y Q) X.xe s
def SlR.or{r e:V->Option Int->Option Int->Hp->VK->Prop}(h:SlR X r)(h':SlR X e):SlR X (λx lo hi H Q=>r x lo hi H Q\/e x lo hi H Q):=by
 intro J s Y H x v b a lo hi c Q I d g pl f q;rcases q with q|q
 .exact h J s Y H x v b a lo hi c Q I d g pl f q
 .exact h' J s Y H x v b a lo hi c Q I d g pl f q
def IL(r:V->Option Int->Option Int->Hp->VK->Prop)(c:TE)(a b:TO):TE:=λY H Q=>c Y H λx H1=>a Y H1 λl H2=>b Y H2 λu H3=>r x l u H3 Q
def yO{r:V->Option Int->Option Int->Hp->VK->Prop}(z:SlR X r)(D:PE X e te)(B:PO X lo tl)(t:PO X hi th):PE X (.Subscript e (.Slice lo hi none p2) pos) (IL r te tl th):=by
 intro J s Y H Q I h;refine Subscript_ (thn (D J s Y H _ I h) ?_);rintro v f ⟨x,H1,L,g,o⟩;refine wpAny_Slice (thn (B J f Y H1 _ L o) λc d ⟨l,H2,K,pl,k⟩=>thn (t J d Y H2 _ K k) ?_);rintro a s3 ⟨u,H3,G,pu,j⟩;rw[evalPart_none];refine ZP ?_;have F:Z2 X J Y H3 {s3 with heap:=s3.heap.push {cls:=.type "slice",data:=.fields #[c,a,.none]}}:=G.kept (t':=s3.toks) λb ob q=>Hv _ q
 let⟨T,id,E,y,C⟩:=z J {s3 with heap:=s3.heap.push {cls:=.type "slice",data:=.fields #[c,a,.none]}} Y H3 x v c a l u s3.heap.objs.size Q F g (Heap.IsSliceOf.new ..) pl pu j
 show wpAny (model X.prog X.w) X.A (subscriptTail e (.Slice lo hi none p2) v (.ref s3.heap.objs.size)) (EP X J Y Q) X.xe {s3 with heap:=s3.heap.push {cls:=.type "slice",data:=.fields #[c,a,.none]}}
 exact tail_any (ops:=[.ref s3.heap.objs.size,v]) y E C (by with_unfolding_all rfl)
def BH(xs:List V)(a b:Option Int):List V:=(xs.drop (HT.sIx xs.length 0 a)).take (HT.sIx xs.length xs.length b-HT.sIx xs.length 0 a)
def nT(xs:List V)(a b:Option Int):(BH xs a b).length<=xs.length:=by
 unfold BH;rw[Vl,S9];lia
def IM(K:HF):V->Option Int->Option Int->Hp->VK->Prop:=λx lo hi H Q=>∃a xs,x=.ref a/\SqT K H a xs /\
 ¬ (HT.sIx xs.length 0 lo=0/\HT.sIx xs.length xs.length hi=xs.length) /\∀p,H p=none->Q (.ref p) (upd H p (.Z1 (BH xs lo hi)))
def aa5:SlR X (IM X.K):=by
 intro J s Y H x v m l lo hi n Q I f k pl g h;let⟨a,xs,rfl,i,j,q⟩:=h;cases f;let⟨ZY,r,e,d⟩:=I.tuple i;have c:ZY.toArray.size=xs.length:=by rw[Xz];exact r.length.symm
 refine⟨"tuple",_,PyProof.Rows.slot_tuple_getitem.lookup,e.typeIs,?_⟩;refine HT.getItem_tuple_cut e k pl g (by rw[c];exact j) ?_ (by rw[c];exact d)
 rw[c];refine⟨.ref s.heap.objs.size,_,I.laid (t':=s.toks) (o:=.Z1 (BH xs lo hi)) (λb ob q=>Hv _ q) (Hz _) ?_,rfl,q _ (I.ZL.fresh (Hz _))⟩;exact⟨Hx (nT xs lo hi) d,_,(r.drop (HT.sIx xs.length 0 lo)).take (HT.sIx xs.length xs.length hi-HT.sIx xs.length 0 lo),IsTup.new _ _⟩
end
end L2
namespace L2
open PySem PySem.Spec PyProof.Rows
def ixN(n:Nat)(i:Int):Option Nat:=if 0<=i then(if i<n then some i.toNat else none)else if -(n:Int)<=i then some (i+n).toNat else none
def atI{a:Type}(xs:List a)(i:Int):Option a:=(ixN xs.length i).bind λj=>xs[j]?
def rm{i:Int}(h:ixN n i=some j):seqIndex? i n=some j/\j<n /\ -(n:Int)<=i/\i<n:=by
 unfold ixN at h;by_cases a:0<=i
 .rw [Xg a]at h
  by_cases h1:i<n
  .rw [Xg h1]at h
   have e:i.toNat=j:=X9 h;exact⟨by rw[seqIndex_of a h1,e],by lia,by lia,h1⟩
  .rw [Xp h1]at h;cases h
 .rw [Xp a]at h
  by_cases h1 : -(n:Int)<=i
  .rw [Xg h1]at h
   have e:(i+n).toNat=j:=X9 h;exact⟨by rw[seqIndex_neg (by lia) h1,e],by lia,h1,by lia⟩
  .rw [Xp h1]at h;cases h
def se{xs:List α}{i:Int}{v:α}(h:atI xs i=some v):∃j,seqIndex? i xs.length=some j/\xs[j]?=some v/\j<xs.length /\ -(xs.length:Int)<=i/\i<xs.length:=by
 unfold atI at h;cases e:ixN xs.length i with
 |none=>rw[e]at h;cases h
 |some j=>
  rw[e]at h;let⟨h1,h2,b,a⟩:=rm e;exact⟨j,h1,h,h2,b,a⟩
def DE(b:Expr):Prop:=∀o i,subscripted b false o i=operate [o,i] (getItem o i)
def IxR(X:Cx)(r:R2):Prop:=
 ∀(value slice:Expr) (J:List (Addr×Obj)) (s:Shared) (Y:St) (H:Hp) (x y:V) (v u:Value) (Q:VK),Z2 X J Y H s->RelV x v->RelV y u->r x y H Q ->
  subscripted slice false v u=operate [v,u] (getItem v u)->wpAny (model X.prog X.w) X.A (subscriptTail value slice v u) (EP X J Y Q) X.xe s
def MtR(X:Cx)(a:String)(r:V->List V->Hp->VK->Prop):Prop:=
 ∀(J:List (Addr×Obj)) (s:Shared) (Y:St) (H:Hp) (x:V) (xs:List V) (v:Value) (O:List Value) (Q:VK),Z2 X J Y H s->RelV x v->ZH xs O->r x xs H Q ->
  wpAny (model X.prog X.w) X.A (call (.builtin a) (v::O)) (EP X J Y Q) X.xe s
section
variable{a b:Expr}{tb:TE}
def IxR.or{r c:R2}(h:IxR X r)(h':IxR X c):IxR X (λx y H Q=>r x y H Q\/c x y H Q):=by
 intro value slice J s Y H x y v u Q I b a q d;rcases q with q|q
 .exact h value slice J s Y H x y v u Q I b a q d
 .exact h' value slice J s Y H x y v u Q I b a q d
def adz{r:R2}(g:IxR X r)(j:PE X a ta)(i:PE X b tb)(f:DE b):PE X (.Subscript a b pos) (IA r ta tb):=by
 intro J s Y H Q I h;exact Subscript_ (nt j i I h λv u c x y H2 k e d q=>g a b J c Y H2 x y v u Q k e d q (f _ _))
def IP(K:HF):R2:=λx y H Q=>∃p xs i v,x=.ref p/\y=.int i/\SqL K H p xs/\atI xs i=some v/\Q v H
def IQ(K:HF):R2:=λx y H Q=>∃p xs i v,x=.ref p/\y=.int i/\SqT K H p xs/\atI xs i=some v/\Q v H
def aaG:IxR X (IP X.K):=by
 intro value slice J s Y H x y v u Q I g f h c;let⟨p,xs,i,z,rfl,rfl,k,m,q⟩:=h;cases g;let⟨t,rfl⟩:=f;let⟨ZY,r,pl,B⟩:=I.list k;let⟨j,h1,h2,D,o,n⟩:=se m;let⟨w,e,A⟩:=r.get h2;have l:=r.length;have C:=dq;have a:EP X J Y Q w s:=⟨z,H,I,A,q⟩;by_cases d:0<=i
 .have b:i.toNat=j:=by
   rw[seqIndex_of d n]at h1;exact X9 h1
  exact item_listR pl.isList d (by lia) (by rw[b];simpa using e) a c
 .have b:(i+(ZY.toArray.size:Int)).toNat=j:=by
   rw[seqIndex_neg (by lia) o]at h1
   rw[Xz,<-l];exact X9 h1
  exact subscriptTail_builtinR (x:=w) pl.isList.typeIs slot_list_getitem.lookup
   (wpAny_getItem_list_neg (Q:=λr s'=>r=w/\EP X J Y Q r s') pl.isList () (by rw[Xz]<;>lia) (by lia) (by rw[b];simpa using e) ⟨rfl,a⟩) c
def acm:IxR X (IQ X.K):=by
 intro value slice J s Y H x y v u Q I c b h d;let⟨p,xs,i,z,rfl,rfl,e,g,q⟩:=h;cases c;let⟨t,rfl⟩:=b;let⟨ZY,r,pl,m⟩:=I.tuple e;let⟨j,h1,h2,B,A,o⟩:=se g;let⟨w,k,l⟩:=r.get h2;have f:=r.length;have n:=dq;have a:EP X J Y Q w s:=⟨z,H,I,l,q⟩;exact subscriptTail_builtinR (x:=w) pl.typeIs slot_tuple_getitem.lookup
  (getItem_tuple (j:=j) (Q:=λr s'=>r=w/\EP X J Y Q r s') pl (by lia) (by lia) (by rw[Xz,<-f];exact h1) (by simpa using k) ⟨rfl,a⟩) d
def wk(a:List Value)(n j:Nat)(u:Value):Obj.mapSeq (·.setIfInBounds j u) {cls:=.type "list",data:=.seq a.toArray n}={cls:=.type "list",data:=.seq (a.set j u).toArray n}:=by
 simp[Obj.mapSeq]
def Z2.S{J:List (Addr×Obj)}{Y:St}{H:Hp}{s:Shared}{p:Addr}{xs:List V}(I:Z2 X J Y H s)(h:H p=some (.S xs)):
  ∃(ZY:List Value) (n:Nat),ZH xs ZY/\s.heap.get? p=some {cls:=.type "list",data:=.seq ZY.toArray n}/\xs.length<=sizeLine:=by
 let⟨z,ZY,n,r,e⟩:=I.ZL p _ h;exact⟨ZY,n,r,e,z⟩
def Z2.Tw{Y:St}{p:Addr}{xs ys:List V}{its':List Value}{a:Nat}{f:Obj->Obj}(I:Z2 X J Y H s)(h:H p=some (.S xs))
  (g:s.heap.get? p=some {cls:=.type "list",data:=.seq ZY.toArray n}) (c:f {cls:=.type "list",data:=.seq ZY.toArray n}={cls:=.type "list",data:=.seq its'.toArray a}) (r:ZH ys its') (d:ys.length<=sizeLine) (t:Nat) :
  Z2 X J Y (upd H p (.S ys)) {s with heap:=s.heap.update p f,toks:=t}:=by
 have e:(s.heap.update p f).get? p=some {cls:=.type "list",data:=.seq its'.toArray a}:=by
  rw[S4 f g (by rw[c]<;>rfl),c]
 refine I.write (x:=p) (e:=p) (by rw[h];trivial) (.inl rfl) (λb u i q=>(Heap.get?_update_other _ _ (Ne.symm i)).trans q) ⟨_,e⟩ ?_
 exact⟨d,its',a,r,e⟩
def Hh:V->V->V->Hp->(Hp->Prop)->Prop:=λo i v H Q=>∃p xs k j,o=.ref p/\i=.int k/\H p=some (.S xs)/\ixN xs.length k=some j/\Q (upd H p (.S (xs.set j v)))
def set_list:Ca X Hh:=by
 intro J s Y H o i v y z u Q I l m g h;let⟨p,xs,k,j,rfl,rfl,b,x,q⟩:=h;cases l;let⟨t,rfl⟩:=m;let⟨ZY,n,r,ho,w⟩:=I.S b;let⟨h1,h2,d,c⟩:=rm x;have a:=r.length;have A:=dq;have f:Z2 X J Y (upd H p (.S (xs.set j v))) {s with heap:=s.heap.update p (Obj.mapSeq (·.setIfInBounds j u))}:=
  I.Tw b ho (wk ZY n j u) (r.set g j) (by rw[R9];exact w) s.toks
 by_cases e:0<=k
 .have hk:k.toNat=j:=by
   rw[seqIndex_of e c]at h1;exact X9 h1
  exact PySem.W.ki_setAt ho e (by lia) (by rw[Xz,<-a];exact c) (by rw[hk];exact⟨_,f,q⟩)
 .have hk:(k+(ZY.toArray.size:Int)).toNat=j:=by
   rw[seqIndex_neg (by lia) d]at h1
   rw[Xz,<-a];exact X9 h1
  exact PySem.W.ki_setBack ho () (by rw[Xz,<-a];exact d) (by lia) (by rw[hk];exact⟨_,f,q⟩)
def vO(a b:Option Int)(n:Nat):(sliceBounds a b none n).1=((HT.sIx n 0 a:Nat):Int)/\(sliceBounds a b none n).2.1=((HT.sIx n n b:Nat):Int)/\(sliceBounds a b none n).2.2=1:=by
 refine⟨?_,?_,rfl⟩
 .cases a with
  |none=>simp[sliceBounds,HT.sIx]
  |some i=>
   simp![sliceBounds,HT.sIx,Ra,show(1:Int) > 0 by decide,Vy]
   by_cases h:i<0
   .simp only [h,Vy]<;>lia
   .simp only [h,VC]<;>lia
 .cases b with
  |none=>simp[sliceBounds,HT.sIx]
  |some i=>
   simp![sliceBounds,HT.sIx,Ra,show(1:Int) > 0 by decide,Vy]
   by_cases h:i<0
   .simp only [h,Vy]<;>omega
   .simp only [h,VC]<;>omega
def vK(a:List Value)(b c:Option Int):slicePick a.toArray b c none=((a.drop (HT.sIx a.length 0 b)).take (HT.sIx a.length a.length c-HT.sIx a.length 0 b)).toArray:=by
 let⟨h1,h2,d⟩:=vO b c a.toArray.size;unfold slicePick;rw[h1,h2,d];simp![sliceRange_one,pick_run,Xz]<;>rfl
def IS(K:HF):V->Option Int->Option Int->Hp->VK->Prop:=λx lo hi H Q=>∃a xs,x=.ref a/\SqL K H a xs /\∀p,H p=none->Q (.ref p) (upd H p (.S (BH xs lo hi)))
def zQ:SlR X (IS X.K):=by
 intro J s Y H x v u t lo hi w Q I d k pl f h;let⟨a,xs,rfl,j,q⟩:=h;cases d;let⟨ZY,r,c,g⟩:=I.list j;have hlen:=r.length;refine⟨"list",_,slot_list_getitem.lookup,c.isList.typeIs,?_⟩;refine wpAny_getItem_list_slice c.isList k pl f .none #[3] ?_ (by rw[Xz]<;>lia)
 rw[vK,<-hlen];refine⟨.ref s.heap.objs.size,_,I.laid (t':=s.toks) (o:=.S (BH xs lo hi)) (λb ob q=>Hv _ q) (Hz _) ?_,rfl,q _ (I.ZL.fresh (Hz _))⟩;exact⟨Hx (nT xs lo hi) g,_,0,(r.drop (HT.sIx xs.length 0 lo)).take (HT.sIx xs.length xs.length hi-HT.sIx xs.length 0 lo),HD _ rfl⟩
def C4:V->Bool
 |.ZN=>true
 |.bl _=>true
 |.int _=>true
 |.str _=>true
 |_=>false
def IT:V->V->Bool
 |.ZN,.ZN=>true
 |.bl a,.bl b=>a==b
 |.bl a,.int b=>(if a then 1 else 0)==b
 |.int a,.bl b=>a==(if b then 1 else 0)
 |.int a,.int b=>a==b
 |.str a,.str b=>a==b
 |_,_=>false
def iB{x:V}{u v:Value}(d:RelV y u)(c:RelV x v)(f:C4 y=true)(e:C4 x=true):SeqAt.EqAt A s u v (IT y x):=by
 cases y with
 |ZN=>
  cases d;cases x with
  |ZN=>cases c;exact R_ _
  |bl b=>cases c;exact SeqAt.EqAt.none_bool b
  |int b=>let⟨t,rfl⟩:=c;exact SeqAt.EqAt.none_int b t
  |str b=>let⟨t,rfl⟩:=c;exact SeqAt.EqAt.none_str b t
  |_=>exact absurd (show false=true from e) Hy
 |bl a=>
  cases d;cases x with
  |ZN=>cases c;exact SeqAt.EqAt.bool_none a
  |bl b=>cases c;exact SeqAt.EqAt.bool_bool a b
  |int b=>let⟨t,rfl⟩:=c;exact SeqAt.EqAt.bool_int a b t
  |str b=>let⟨t,rfl⟩:=c;exact SeqAt.EqAt.bool_str a b t
  |_=>exact absurd (show false=true from e) Hy
 |int a=>
  let⟨t',rfl⟩:=d;cases x with
  |ZN=>cases c;exact SeqAt.EqAt.int_none a t'
  |bl b=>cases c;exact SeqAt.EqAt.int_bool a t' b
  |int b=>let⟨t,rfl⟩:=c;exact SeqAt.EqAt.int_int a t' b t
  |str b=>let⟨t,rfl⟩:=c;exact SeqAt.EqAt.int_str a t' b t
  |_=>exact absurd (show false=true from e) Hy
 |str a=>
  let⟨t',rfl⟩:=d;cases x with
  |ZN=>cases c;exact SeqAt.EqAt.str_none a t'
  |bl b=>cases c;exact SeqAt.EqAt.str_bool a t' b
  |int b=>let⟨t,rfl⟩:=c;exact SeqAt.EqAt.str_int a t' b t
  |str b=>let⟨t,rfl⟩:=c;exact SeqAt.EqAt.str_str a t' b t
  |_=>exact absurd (show false=true from e) Hy
 |_=>exact absurd (show false=true from f) Hy
def call_len_seq:CallR X (.builtin "len") (λxs H Q=>∃p ys,xs=[.ref p]/\(SqL X.K H p ys\/SqT X.K H p ys)/\Q (.int ys.length) H):=by
 intro J s Y H xs O Q I r h;let⟨p,ys,rfl,a,q⟩:=h;let⟨u,rfl,b⟩:=vals1 r;cases b;have d:=dq;rcases a with a|a
 .obtain ⟨ZY,r',pl,c⟩:=I.list a
  have hlen:=r'.length;exact Calls.call_len_list pl.isList (by simp![Xz]<;>lia) ⟨.int ys.length,H,I.tok _,⟨s.toks+1,by rw[Xz,hlen]⟩,q⟩
 .obtain ⟨ZY,r',pl,c⟩:=I.tuple a
  have hlen:=r'.length;exact len_tuple pl (by simp![Xz]<;>omega) ⟨.int ys.length,H,I.tok _,⟨s.toks+1,by rw[Xz,hlen]⟩,q⟩
def CallR.or{f:Value}{r a:List V->Hp->VK->Prop}(h:CallR X f r)(h':CallR X f a):CallR X f (λxs H Q=>r xs H Q\/a xs H Q):=by
 intro J s Y H xs O Q I rs q;rcases q with q|q
 .exact h J s Y H xs O Q I rs q
 .exact h' J s Y H xs O Q I rs q
def call_list_of:CallR X (.type "list") (λxs H Q=>∃p ys,xs=[.ref p]/\(SqL X.K H p ys\/SqT X.K H p ys) /\∀l,H l=none->Q (.ref l) (upd H l (.S ys))):=by
 intro J s Y H xs O Q I r h;let⟨p,ys,rfl,c,q⟩:=h;let⟨u,rfl,g⟩:=vals1 r;cases g;have d:∀(ZY:List Value),ZH ys ZY->ys.length<=sizeLine ->∀(h':Heap) (c':Nat),(∀b o',s.heap.get? b=some o'->h'.get? b=some o') ->
   h'.get? s.heap.objs.size=some {cls:=.type "list",dict:=none,data:=.seq ZY.toArray c',slots:=#[]}->EP X J Y Q (.ref s.heap.objs.size) {s with heap:=h'}:=λZY r' a h' c' kp e=>
  ⟨.ref s.heap.objs.size,_,I.laid (t':=s.toks) kp (Hz _) (show ObjOk X.prog X.w _ h' _ (.S ys)from⟨a,ZY,c',r',e⟩),rfl,q _ (I.ZL.fresh (Hz _))⟩
 rcases c with c|c
 .obtain ⟨ZY,r',pl,a⟩:=I.list c
  have hlen:=r'.length;let⟨o,ho,hc,n,f⟩:=pl.isList;exact call_list_seq p (.inl rfl) ho hc f (λh' c' kp e=>d ZY r' a h' c' kp e) (by simp![Xz]<;>omega)
 .obtain ⟨ZY,r',pl,a⟩:=I.tuple c
  have hlen:=r'.length;let⟨o,ho,hc,n,f⟩:=pl;exact call_list_seq p (.inr rfl) ho hc f (λh' c' kp e=>d ZY r' a h' c' kp e) (by simp![Xz]<;>omega)
def IU(K:HF)(T:String)(x:V)(H:Hp):Prop:=match x with
 |.str _=>T = "str"
 |.int _=>T = "int"
 |.ref p=>(T = "list" /\∃xs,SqL K H p xs)\/(T = "tuple" /\∃o,K.lookup p=some o/\o.cls=.type "tuple" /\ o.dict=none) \/
   (T = "dict" /\ ((∃Z4,H p=some (.dK Z4)) \/∃Z4,H p=some (.dT Z4)))\/(T = "set" /\∃Z5 n,H p=some (.set Z5 n))
 |_=>False
def tq{Y:St}{T:String}{x:V}{v:Value}(I:Z2 X J Y H s)(r:RelV x v)(b:IU X.K T x H):
  s.TypeIs v T /\∀a,v=.ref a ->∃f,s.heap.get? a=some f/\f.dict=none:=by
 cases x with
 |str z=>
  let⟨t,rfl⟩:=r;cases(show T = "str" from b);exact⟨typeIs_str s z t,λ_ e=>nomatch e⟩
 |int i=>
  let⟨t,rfl⟩:=r;cases(show T = "int" from b);exact⟨typeIs_int s i t,λ_ e=>nomatch e⟩
 |ref p=>
  cases r;rcases b with⟨rfl,xs,g⟩|⟨rfl,o,hk,hc,hd⟩|⟨rfl,hk⟩|⟨rfl,Z5,n,hk⟩
  .obtain ⟨ZY,_,pl,_⟩:=I.list g
   refine⟨pl.isList.typeIs,λa e=>?_⟩;cases e;let⟨o,n,e,c,hd,_⟩:=pl;exact⟨o,e,hd⟩
  .refine ⟨⟨o,I.YU p o hk,hc⟩,λa e=>?_⟩
   cases e;exact⟨o,I.YU _ o hk,hd⟩
  .have z:∃o,s.heap.get? p=some o/\o.ExactDict:=by
    rcases hk with⟨Z4,hk⟩|⟨Z4,hk⟩
    .obtain ⟨_,_,_,_,o,_,_,e,ex,_⟩:=I.ZL p _ hk
     exact⟨o,e,ex⟩
    .obtain ⟨_,_,_,_,o,_,_,e,ex,_⟩:=I.ZL p _ hk
     exact⟨o,e,ex⟩
   let⟨o,e,ex⟩:=z;refine⟨⟨o,e,ex.1⟩,λa d=>?_⟩;cases d;exact⟨o,e,ex.2.1⟩
  .obtain ⟨o,_,_,_,e,ex,_⟩:=I.ZL p _ hk
   refine⟨⟨o,e,ex.1⟩,λa d=>?_⟩;cases d;exact⟨o,e,ex.2.1⟩
 |_=>exact False.elim b
def IV(K:HF)(T:String)(r:V->List V->Hp->VK->Prop)(a:TE):TE:=λY H Q=>a Y H λx H1=>IU K T x H1/\r x [] H1 Q
def IW(K:HF)(T:String)(r:V->List V->Hp->VK->Prop)(a:TE)(t:TA):TE:=λY H Q=>a Y H λx H1=>IU K T x H1/\t Y H1 λxs H2=>r x xs H2 Q
variable{to:TE}{t:TA}{name:Str}{T id:String}{r:V->List V->Hp->VK->Prop}
def sH(f:PlainAttrs T)(a:Slot T name id)(l:typeOf (.builtin id)=pure (.type "method_descriptor"))(i:MtR X id r)(g:PE X o to)
  (j:attributeBase o name X.env (eval o X.env)=eval o X.env:=by rfl) (k:(apos.endLine==Zf.line)=true:=by rfl):PE X (.Call (.Attribute o name apos) [] [] Zf) (IV X.K T r to):=by
 intro J s Y H Q I h;refine wpAny_Call_method0_late j k (thn (g J s Y H _ I h) ?_);rintro v d ⟨x,H1,c,b,ty,e⟩;let⟨h1,h2⟩:=tq c b ty;exact⟨T,id,f,a,l,h1,h2,SX rfl (PySem.evalArgs_none (i J d Y H1 x [] v [] Q c b .nil e))⟩
def adJ(k:PlainAttrs T)(a:Slot T name id)(w:typeOf (.builtin id)=pure (.type "method_descriptor"))(n:MtR X id r)(m:PE X o to)(p:PA X (e::es) t)
  (q:attributeBase o name X.env (eval o X.env)=eval o X.env:=by rfl)
  (b:((backTo Zf (starEach (e :: es) X.env)).all (λx => !x.1) && (backToKw Zf (keywordEach [] X.env)).all (λx=>x.1.isSome)
   && decide ((e::es).length+([]:List Keyword).length+(if([]:List Keyword).isEmpty then 0 else 1)<30))=true:=by rfl)
  (u:(apos.endLine==Zf.line)=true:=by rfl) (l:starEach (e::es) X.env=(false,eval e X.env)::starEach es X.env:=by rfl) (y:(backTo Zf (starEach es X.env)).any (·.1)=false:=by rfl) :
  PE X (.Call (.Attribute o name apos) (e::es) [] Zf) (IW X.K T r to t):=by
 intro J s Y H Q I h;refine wpAny_Call_method_late q b u rfl (thn (m J s Y H _ I h) ?_);rintro v g ⟨x,H1,d,c,ty,j⟩;let⟨h1,h2⟩:=tq d c ty;refine⟨T,id,k,a,w,h1,h2,?_⟩;have hA:=p Zf J g Y H1 _ d j;rw[l]at hA ⊢;refine SX (by show(false||(backTo Zf (starEach es X.env)).any (·.1))=false;rw[y]<;>rfl) (Calls.evalArgs_plain ?_)
 exact thn hA λO f ⟨vs,H2,z,r2,i⟩=>n J f Y H2 x vs v O Q z c r2 i
end
end L2
namespace L2
open PySem PySem.Spec PyProof.Rows
def MtM(X:Cx)(a:String)(r:V->List V->Hp->VK->Prop):Prop:=
 ∀(J:List (Addr×Obj)) (s:Shared) (Y:St) (H:Hp) (x:V) (xs:List V) (v:Value) (O:List Value) (Q:VK),Z2 X J Y H s->RelV x v->ZH xs O->r x xs H Q ->
  wpAny (model X.prog X.w) X.A (call (.builtin a) (v::O)) (EP X J Y Q) X.xe s
def ZH.one:∀{x:V} {O:List Value},ZH [x] O ->∃u,O=[u]/\RelV x u
 |_,_,.cons r .nil=>⟨_,rfl,r⟩
def ZH.zero:∀{O:List Value},ZH [] O->O=[]
 |_,.nil=>rfl
def ZH.dropLast{xs:List V}{O:List Value}(h:ZH xs O):ZH xs.dropLast O.dropLast:=by
 induction h with
 |nil=>exact .nil
 |cons r t ih=>
  cases t with
  |nil=>exact .nil
  |cons q t'=>exact .cons r ih
def ZH.reverse{xs:List V}{O:List Value}(h:ZH xs O):ZH xs.reverse O.reverse:=by
 induction h with
 |nil=>exact .nil
 |cons r t ih=>rw[Tu,Tu];exact ZH.append ih (.cons r .nil)
def wK(l:List α):l.eraseIdx (l.length-1)=l.dropLast:=by
 induction l with
 |nil=>rfl
 |cons a r ih=>
  cases r with
  |nil=>rfl
  |cons b r=>
   have e:(a::b::r).length-1=((b::r).length-1)+1:=by
    have h1:(a::b::r).length=r.length+2:=rfl;have h2:(b::r).length=r.length+1:=rfl;lia
   rw[e,List.eraseIdx_cons_succ,ih]
   all_goals rfl
section
variable{Y:St}{l b:Addr}{xs ys zs:List V}
def Z2.Us{its':List Value}{f:Array Value->Array Value}(I:Z2 X J Y H s)(h:H l=some (.S xs))
  (e:s.heap.get? l=some {cls:=.type "list",data:=.seq ZY.toArray n}) (d:f ZY.toArray=its'.toArray) (b:ZH ys its') (a:ys.length<=sizeLine) :
  Z2 X J Y (upd H l (.S ys)) {s with heap:=s.heap.update l (Obj.mapSeq f),toks:=t'}:=by
 have q:=PySem.IsL.update e f;rw[d]at q;refine I.write (x:=l) (e:=l) (by rw[h];exact trivial) (.inl rfl) (λb' u g c=>(Heap.get?_update_other s.heap (Obj.mapSeq f) (Ne.symm g)).trans c) ⟨_,q⟩ ?_
 exact⟨a,its',_,b,q⟩
def Z2.lnew(I:Z2 X J Y H s)(b:ZH ys ZY)(a:ys.length<=sizeLine):
  Z2 X J Y (upd H s.heap.objs.size (.S ys)) {s with heap:=s.heap.push {cls:=.type "list",data:=.seq ZY.toArray},toks:=t'}:=
 I.laid (λ_ _ q=>Hv _ q) (Hz _) ⟨a,ZY,0,b,HD _ rfl⟩
def Z2.fresh(I:Z2 X J Y H s):H s.heap.objs.size=none:=I.ZL.fresh (Hz _)
def Z2.V1(I:Z2 X J Y H s)(a:H l=some (.S xs)):xs.length<=sizeLine /\∃(ZY:List Value) (n:Nat),ZH xs ZY/\xs.length=ZY.length/\s.heap.get? l=some {cls:=.type "list",data:=.seq ZY.toArray n}:=by
 let⟨z,ZY,n,r,e⟩:=I.ZL l _ a;exact⟨z,ZY,n,r,r.length,e⟩
def yS(h:n<=sizeLine):Builtin.List.listTooLong n=false:=by
 unfold Builtin.List.listTooLong;exact Wj (by lia)
end
section
def GV:V->List V->Hp->VK->Prop:=λx vs H Q=>∃l xs y,x=.ref l/\vs=[y]/\H l=some (.S xs)/\xs.length<sizeLine/\Q .ZN (upd H l (.S (xs++[y])))
def pC:MtM X "list.append" GV:=by
 intro J s Y H x vs v O Q I c d h;let⟨l,xs,y,rfl,rfl,a,g,q⟩:=h;cases c;let⟨u,rfl,f⟩:=d.one;let⟨z,ZY,n,r,j,e⟩:=I.V1 a;refine Ql F.slot_list_append ⟨_,e,rfl⟩ F.entry_list_append (F.args_list_append_2 _ _) (PySem.list_append l ZY.toArray n u (by rw[Xz];lia)) ⟨e,?_⟩
 refine⟨.ZN,_,I.Us (its':=ZY++[u]) a e #[3] (r.append (.cons f .nil)) ?_,rfl,q⟩
 rw[Xs,Um];lia
def GU:V->List V->Hp->VK->Prop:=λx vs H Q=>∃l b xs zs,x=.ref l/\vs=[.ref b]/\H l=some (.S xs)/\H b=some (.S zs)/\xs.length+zs.length<=sizeLine/\Q .ZN (upd H l (.S (xs++zs)))
def wY:MtM X "list.extend" GU:=by
 intro J s Y H x vs v O Q I f g h;let⟨l,b,xs,zs,rfl,rfl,d,t,B,q⟩:=h;cases f;let⟨u,rfl,j⟩:=g.one;cases j;let⟨z,ZY,n,r,C,e⟩:=I.V1 d;let⟨A,a,k,r2,o,w⟩:=I.V1 t;have c:ZY.toArray.size+a.toArray.size<=sizeLine:=by rw[Xz,Xz];lia
 have y : ¬ (!ZY.toArray.isEmpty&&Builtin.List.listTooLong (ZY.toArray.size+a.toArray.size))=true:=by
  rw[yS c,Bool.and_false];exact Hy
 refine Ql F.slot_list_extend ⟨_,e,rfl⟩ F.entry_list_extend (F.args_list_extend_2 _ _)
  (AutoSeq1.list_extend_list_list_0 l ZY.toArray n b a.toArray k y (by rw[Xz];lia) (by lia)) ⟨e,w,?_⟩
 refine⟨.ZN,_,I.Us (its':=ZY++a) d e #[3] (r.append r2) ?_,rfl,q⟩
 rw[Xs];lia
def rPop:V->List V->Hp->VK->Prop:=λx vs H Q=>∃l xs y,x=.ref l/\vs=[]/\H l=some (.S xs)/\xs[xs.length-1]?=some y/\Q y (upd H l (.S xs.dropLast))
def acL:MtM X "list.pop" rPop:=by
 intro J s Y H x vs v O Q I c d h;let⟨l,xs,y,rfl,rfl,b,g,q⟩:=h;cases c;have k:=d.zero;subst k;let⟨z,ZY,n,r,j,e⟩:=I.V1 b;let⟨u,i,f⟩:=r.get g;have a:ZY.toArray[ZY.toArray.size-1]?=some u:=by
  show ZY.toArray[ZY.length-1]?=some u;rw[<-S5,<-j];exact i
 refine Ql F.slot_list_pop ⟨_,e,rfl⟩ F.entry_list_pop (F.args_list_pop_1 _) (MeetsSeq.list_pop_last l ZY.toArray n u a (by rw[Xz];lia)) ⟨e,?_⟩
 refine⟨y,_,I.Us (its':=ZY.dropLast) b e ?_ r.dropLast ?_,f,q⟩
 .show ZY.toArray.eraseIdxIfInBounds (ZY.toArray.size-1)=ZY.dropLast.toArray
  rw[Xz,List.eraseIdxIfInBounds_toArray,wK]
 .rw [List.length_dropLast]
  omega
def G2:V->List V->Hp->VK->Prop:=λx vs H Q=>∃l xs,x=.ref l/\vs=[]/\H l=some (.S xs)/\Q .ZN (upd H l (.S []))
def xR:MtM X "list.clear" G2:=by
 intro J s Y H x vs v O Q I b c h;let⟨l,xs,rfl,rfl,a,q⟩:=h;cases b;have d:=c.zero;subst d;let⟨z,ZY,n,r,f,e⟩:=I.V1 a;refine Ql F.slot_list_clear ⟨_,e,rfl⟩ F.entry_list_clear (F.args_list_clear_1 _) (AutoSeq1.list_clear_list_0 l ZY.toArray n (by rw[Xz];omega)) ⟨e,?_⟩
 exact⟨.ZN,_,I.Us (its':=[]) (ys:=[]) a e rfl .nil (SQ _),rfl,q⟩
def GA:R2:=λx y H Q=>∃l b xs zs,x=.ref l/\y=.ref b/\H l=some (.S xs)/\H b=some (.S zs)/\xs.length+zs.length<=sizeLine /\∀p,H p=none->Q (.ref p) (upd H p (.S (xs++zs)))
def abn:OpR X (binaryOp .Add) GA:=by
 intro J s Y H x y v u Q I d c h;let⟨l,b,xs,zs,rfl,rfl,g,i,p,q⟩:=h;cases d;cases c;let⟨z,ZY,n,r,t,e⟩:=I.V1 g;let⟨m,a,o,r2,f,k⟩:=I.V1 i;refine PySem.P.add_list e k ?_ (by rw[Xz,Xz];omega)
 have j:ZY.toArray++a.toArray=(ZY++a).toArray:=by simp
 rw[j];exact⟨.ref _,_,I.lnew (t':=s.toks) (r.append r2) (by rw[Xs];omega),rfl,q _ I.fresh⟩
end
end L2
namespace Att
open PySem PySem.W PySem.Calls PyProof.Rows
def vD{P:Params}:∀(ns:List Int) (vs:List Value),WellAll P h vs (ns.map WData.int)->IntsAre vs ns:=by
 intro ns
 induction ns with
 |nil=>
  intro vs w;rw[SG]at w;cases w;exact .nil
 |cons n ns ih=>
  intro vs w;rw[Y3]at w;cases w with
  |cons a b=>
   cases a;exact .cons _ _ (ih _ b)
def wX{l:OpenLaw}(u:l.most=some n){P:Params}{args:List WData}{c:List Value}
  (j:l.row.toRowW.claim.pre args=true) (A:WellAll P h c args) :
  ∃a vs ns,c=[Value.ref a]/\args=[WData.list (ns.map WData.int)]/\h.get? a=some {cls:=.type "list",data:=.seq vs.toArray}/\IntsAre vs ns/\ns.length<=n:=by
 have y:WShape.hasAll [] args [.list .int]=true:=(pre_splitW j).1;have hc:l.pre.holds [] {args:=args}=true:=(pre_splitW j).2;let⟨d,r,rfl,h1,h2⟩:=hasAllW_cons y;obtain rfl:=hasAllW_nil h2;let⟨xs,rfl,w⟩:=hasW_list h1;let⟨ns,rfl⟩:=items_int w;have f:ns.length<=n:=by
  unfold OpenLaw.pre at hc;have g:(WTm.not (.lt (.lit (.int (n:Int))) (.len (.arg 0)))).holds [] {args:=[.list (ns.map .int)]}=true:=by
   have g:=(holds_andW hc).1;rw[u]at g;exact g
  have h5:=condW_of g (w_not (w_lt w_lit (w_len_list (w_arg rfl))));rw[Yj]at h5;refine Nat.le_of_not_lt λq=>?_;have t:(n:Int)<((ns.length:Nat):Int):=by omega
  first
   |(rw[Sb t]at h5;exact absurd h5 #[1])
   |(simp at h5;omega)
 cases A with
 |cons o k=>
  cases k;cases o with
  |list ho z=>exact⟨_,_,ns,rfl,rfl,ho,vD ns _ z,f⟩
def xD(l:OpenLaw)(args:List WData):l.row.toRowW.claim.post args (.bool true) args=true:=
 postW_of (r:=l.row.toRowW) (X:=(true==true))
  (show WShape.has [] (.bool true) .bool=true by first|rfl|decide|simp[WShape.has,WShape.arms,WShape.armsAll])
  (show(WTm.eq .res (.lit (.bool true))).value [] {args:=args,res:=some (.bool true),after:=args}=some (.bool (true==true))from w_eq_bool (w_res rfl) w_lit) rfl
def attach_call{l:OpenLaw}{q:Program}{loose:List Str}{XP:(Str->Option Value)->Heap->Prop}{YP:World->Heap->Prop}{d:DefRec}
  (E:l.most=some n) (z:d.params.defaults=[])
  (call:∀ (w:World) (Zc Zt : Shared) (mg u:Str->Option Value) (k:Addr) (o:Obj) (pm t g:Value) (a:Addr) (vs:List Value) (ns:List Int),
   Ground q loose [] XP w Zc mg u Zt.heap->YP w Zt.heap ->
   Zt.heap.get? k=some o->o.data=.func (docDef d.name d.params d.body d.scope pm t g)->Zt.heap.CodeRec t d.name->mg d.name=some (.ref k) ->
   Zt.heap.get? a=some {cls:=.type "list",data:=.seq vs.toArray}->IntsAre vs ns->ns.length<=n->Zt.gens = #[] ->
   codeAny (model l.prog w) callerA (.call (.ref k) ⟨[.ref a],[]⟩) (λr s'=>r=.ok (.ret (.bool true))/\OldK Zt.heap s'.heap/\s'.os=Zt.os/\AllBare s'.gens) Zt) :
  WalkO q loose XP YP l.row.toRowW d [] (λf vs=>PySem.call f vs):=by
 intro w Zc Zt mg u G N k o pm t g M Ie ho J O B y I args vals S P A C R H;obtain rfl:M=.none:=Dflts.none B z;obtain rfl:Ie=.none:=Dflts.noKw B;let⟨a,vs,ns,rfl,rfl,Q,c,j⟩:=wX E P R;refine enter_call (SF (call w Zc Zt mg u k o pm t g a vs ns G N ho (fd_plain J) O y Q c j I) λr s' D=>?_);let⟨rfl,h2,L,K⟩:=D;exact⟨.inl ⟨.bool true,.bool true,[],rfl,λ_=>rfl,.bool true,xD l _,λ_=>⟨List.Pairwise.nil,λ_ F=>(nomatch F)⟩⟩,h2,L,K⟩
end Att
namespace L2
open PySem PySem.Spec PyProof.Rows
def fJ:∀{vs:List Value} {ns:List Int},IntsAre vs ns->ZH (ns.map V.int) vs
 |_,_,.nil=>.nil
 |_,_,.cons n t h=>.cons ⟨t,rfl⟩ (fJ h)
def Dy(H:Hp):Prop:=∀b,H b=none \/∃o xs,H b=some (.Zs o (.S xs))
def xQ{E:Str->Option Value}{k:Nat}{L:Addr}{x:Str}{sp:Sp}{Zt : Shared}{vs:List Value}{ns:List Int}
  (X:K.In Zt.heap) (W:Zt.heap.Ns mainGlobals mg) (c:Zt.heap.Ns builtinsNs E) (I:∀x:Str,x ≠ "__name__" -> E x=bootBuiltins x) (A:Zt.heap.NoLimit) (hg:Zt.gens = #[])
  (D:Zt.heap.get? a=some {cls:=.type "list",data:=.seq vs.toArray}) (O:IntsAre vs ns) (N:ns.length<=sizeLine) (hr:Za k callerA)
  (F:∀base:Heap,K.In base->base.Ns mainGlobals mg->YL P w K mg base CX k L fd [x] sp) (Tt:∀(s:Shared) (u:Value),BindsTo s fd ⟨[u],[]⟩ [(x,u)])
  (G:∀H:Hp,Dy H->SqL K H a (ns.map V.int)->sp [.ref a] H (λv _=>v=.bl true) λ_ _ _=>False)
  (J:∀H e s',CX [] H Zt (λ_ _ _=>False) e s'->False) :
  codeAny (model P w) callerA (.call (.ref L) ⟨[.ref a],[]⟩) (λr s'=>r=.ok (.ret (.bool true))/\OldK Zt.heap s'.heap/\s'.os=Zt.os/\AllBare s'.gens) Zt:=by
 have M:=fJ O;have t:=O.length;have g:∀H:Hp,Dy H->SqL K H a (ns.map V.int)->HOk P w H Zt.heap->(∀b,H b≠none->b=a)->(H a≠none->K.lookup a=none) ->
   codeAny (model P w) callerA (.call (.ref L) ⟨[.ref a],[]⟩) (λr s'=>r=.ok (.ret (.bool true))/\OldK Zt.heap s'.heap/\s'.os=Zt.os/\AllBare s'.gens) Zt:=by
  intro H Q hS U R hK;have base_of:∀{b:Addr} {o:Obj},Zt.heap.get? b=some o->H b=none->(Bz Zt.heap H).get? b=some o:=λe n=>yq e n;have U1:∀{b:Addr} {o:Obj} {es:Array DictEntry} {ep:Nat},Zt.heap.get? b=some o->o.data=.dict es ep->H b=none:=λ{b o es ep} e d=>by
   cases q:H b with
   |none=>rfl
   |some u=>
    have e':b=a:=R b (by rw[q];simp)
    subst e';rw[D]at e;cases e;have d':Data.seq vs.toArray _=Data.dict es ep:=d;cases d'
  have f:∀{b:Addr} {m:Str->Option Value},Zt.heap.Ns b m->(Bz Zt.heap H).Ns b m:=λ{b m} ⟨o,es,ep,e,d,r⟩=>⟨o,es,ep,base_of e (U1 e d),d,r⟩
  have B:K.In (Bz Zt.heap H):=λb o e=>base_of (X b o e) (by
   cases q:H b with
   |none=>rfl
   |some u=>
    have e':b=a:=R b (by rw[q];simp)
    subst e'
    rw[hK (by rw[q];simp)]at e;cases e)
  have hM:Mod K mg (Bz Zt.heap H):=⟨B,f W,⟨E,f c,I⟩,let⟨mc,h1,h2⟩:=A;⟨mc,f h1,h2⟩⟩
  have e0:V5 P w K mg (Bz Zt.heap H) callerA [] Zt H:=⟨rfl,hM,λb o e=>aan e,Qm (xu _ _),trivial,λb c=>absurd (show b∈([]:List Addr)from c) #[3],U,.of_eq hg⟩
  refine SF ((F _ B (f W)).run callerA [] Zt H ⟨[.ref a],[]⟩ [.ref a] [.ref a] _ _ hr e0 (Tt Zt (.ref a)) (.cons rfl .nil) (G H Q hS)) λr s' h=>?_;cases r with
  |error e=>exact(J H e s' h).elim
  |ok fl=>
   cases fl with
   |next=>exact False.elim h
   |brk=>exact False.elim h
   |cont=>exact False.elim h
   |ret u=>
    let⟨v,H',os,C,un,y,r',q⟩:=h;have Z:v=.bl true:=q;subst Z;obtain rfl:u=Value.bool true:=r';refine⟨rfl,OldK.of_keep λb o e=>?_,os,C⟩;cases q:H b with
    |none=>exact un.keep b o e q (by intro z;exact absurd (show b∈([]:List Addr)from z) #[3]) #[3]
    |some u=>
     rcases Q b with z|⟨ob,xs,z⟩
     .rw [q]at z;cases z
     .have Y:=un.XB b ob _ z
      let⟨T,_⟩:=U b _ z;let⟨e2,_⟩:=y b _ Y;rw[e]at T;cases T;exact e2
 cases hk:K.lookup a with
 |some o=>
  have e:=X a o hk;rw[D]at e;cases e;refine g (λ_=>none) (λ_=>.inl rfl) (.inr ⟨_,vs.toArray,_,hk,rfl,rfl,rfl,by rw[Xz,t];exact N,by simpa using M⟩) (λb u z=>by have j:(none:Option HO)=some u:=z;cases j) (λb z=>absurd rfl z) λz=>absurd rfl z
 |none=>
  refine g (λb=>if b=a then some (.Zs {cls:=.type "list",data:=.seq vs.toArray} (.S (ns.map V.int)))else none) (λb=>?_) (.inl (.inr ⟨{cls:=.type "list",data:=.seq vs.toArray},Xg rfl⟩)) (λb u z=>?_) (λb z=>?_) λ_=>hk
  .by_cases c:b=a
   .exact .inr ⟨_,_,Xg c⟩
   .exact .inl (Xp c)
  .by_cases c:b=a
   .have j:=(Xg c).symm.trans z
    cases j;subst c;exact⟨D,by rw[Yj];exact N,vs,_,M,D⟩
   .have j:=(Xp c).symm.trans z
    cases j
  .by_cases c:b=a
   .exact c
   .exact absurd (Xp c) z
end L2
namespace L2
open PySem PySem.Spec PyProof.Rows
def Ci(s:Stmt):Arguments:=match s with
 |.FunctionDef _ a _ _ _ _ _ _ _ _=>a
 |_=>{posonlyargs:=[],args:=[],vararg:=none,kwonlyargs:=[],kw_defaults:=[],kwarg:=none,defaults:=[]}
def Ck(s:Stmt):List Stmt:=match s with
 |.FunctionDef _ _ b _ _ _ _ _ _ _=>b
 |_=>[]
def Bf(s:Stmt):Scope:=match s with
 |.FunctionDef _ _ _ _ _ _ sc _ _ _=>sc
 |_=>{kind:=.function,names:=[],isGenerator:=false,isCoroutine:=false}
abbrev XJ:X4:=λ_ _ _ _ _ _=>False
abbrev E0:XK:=λ_ _ _=>False
def eZ:A4 XJ X E0:=λ_ _ _ _ _ _ _ h=>h.elim
structure Fun(K:HF)(x qual:Str)(st:Stmt)(f:Addr)(fd:FuncData):Prop where
 ex:∃(JY:Value) (od:Option Addr) (Ie doc pm:Value) (an:Option Addr) (YI ct:Value) (V4:Array (Option Value)),
  fd=PySem.W.fnOf x qual (Ci st) (Ck st) (Bf st) .none Ie doc pm an YI ct/\K.lookup f=some ⟨JY,od,.func fd,V4⟩/\PySem.W.codeIn K YI qual=true
 kp:PySem.W.keepIn K (.ref f)=true
def bB{A B:Prop}(h:B):if false=true then A else B:=by
 rw[Xp Hy];exact h
def bC{A B:Prop}(h:A):if true=true then A else B:=by
 rw[Xg rfl];exact h
end L2
namespace L2
open PySem PySem.Spec PyProof.Rows
section
variable{κ:Type}[DecidableEq κ]
def AK(Z4:List (κ×V))(k:κ):Option V:=(Z4.find? λa=>decide (a.1=k)).map (·.2)
def putK(Z4:List (κ×V))(k:κ)(v:V):List (κ×V):=
 if(Z4.any λa=>decide (a.1=k))=true then Z4.map (λa=>if a.1=k then(a.1,v)else a)else Z4++[(k,v)]
def cu{p:κ×V}{r:List (κ×V)}{k:κ}(e:p.1=k):AK (p::r) k=some p.2:=by simp[AK,W5,e]
def cB{p:κ×V}{r:List (κ×V)}{k:κ}(e : ¬ p.1=k):AK (p::r) k=AK r k:=by simp[AK,W5,e]
def f9(k:κ):∀Z4:List (κ×V),(Z4.any λa=>decide (a.1=k))=(AK Z4 k).isSome
 |[]=>rfl
 |p::r=>by
  rw[Wq];by_cases e:p.1=k
  .simp only [cu e,Sb e,Bool.true_or,Option.isSome_some]
  .rw [cB e,Wj e,Qi];exact f9 k r
def dD(Z4:List (κ×V))(k:κ)(v:V):(putK Z4 k v).length<=Z4.length+1:=by
 unfold putK;split
 .rw [Yj];lia
 .rw [Xs,XI,Ur];lia
def yE{Z4:List (κ×V)}{k:κ}(v:V)(h:AK Z4 k=none):putK Z4 k v=Z4++[(k,v)]:=by
 unfold putK;rw[f9,h];exact Xp #[1]
def RelO.UY{o:Option V}{u:Option Value}(r:RelO o u):o.isSome=u.isSome:=by
 cases o with
 |none=>cases u with
  |none=>rfl
  |some _=>exact(show False from r).elim
 |some _=>cases u with
  |none=>exact(show False from r).elim
  |some _=>rfl
def RelO.getD{o:Option V}{u:Option Value}{d:V}{d':Value}(r:RelO o u)(a:RelV d d'):RelV (o.getD d) (u.getD d'):=by
 cases o with
 |none=>cases u with
  |none=>exact a
  |some _=>exact(show False from r).elim
 |some _=>cases u with
  |none=>exact(show False from r).elim
  |some _=>exact r
def KV.val{Z4:List (κ×V)}{vs:List (κ×Value)}(r:KV Z4 vs)(k:κ):RelO (AK Z4 k) (valueAt vs k):=by
 unfold KV at r
 induction r with
 |nil=>exact True.intro
 |@cons p q ps qs h t ih=>
  let⟨h1,h2⟩:=h;by_cases e:p.1=k
  .have e':q.1=k:=h1.symm.trans e
   have b:valueAt (q::qs) k=some q.2:=by simp[valueAt,W5,e']
   rw[cu e,b];exact h2
  .have e' : ¬ q.1=k:=λz=>e (h1.trans z)
   have b:valueAt (q::qs) k=valueAt qs k:=by simp[valueAt,W5,e']
   rw[cB e,b];exact ih
def KV.any{Z4:List (κ×V)}{vs:List (κ×Value)}(r:KV Z4 vs)(k:κ):(Z4.any λa=>decide (a.1=k))=vs.any λa=>decide (a.1=k):=by
 unfold KV at r
 induction r with
 |nil=>rfl
 |cons h t ih=>rw[Wq,Wq,ih,h.1]
def KV.Xv{Z4:List (κ×V)}{vs:List (κ×Value)}(r:KV Z4 vs)(k:κ){u:Value}(b:RelV y u):
  KV (Z4.map λa=>if a.1=k then(a.1,y)else a) (vs.map λa=>if a.1=k then(a.1,u)else a):=by
 unfold KV at r ⊢
 induction r with
 |nil=>exact .nil
 |@cons p q ps qs h t ih=>
  rw[Y3,Y3];refine .cons ?_ ih;let⟨h1,h2⟩:=h;by_cases e:p.1=k
  .rw [Xg e,Xg (h1.symm.trans e)];exact⟨h1,b⟩
  .rw [Xp e,Xp (λz=>e (h1.trans z))];exact⟨h1,h2⟩
def KV.put{Z4:List (κ×V)}{vs:List (κ×Value)}(r:KV Z4 vs)(k:κ){u:Value}(a:RelV y u):KV (putK Z4 k y) (stored vs k u):=by
 unfold putK stored;rw[r.any k];by_cases e:(vs.any λb=>decide (b.1=k))=true
 .rw [Xg e,Xg e];exact r.Xv k a
 .rw [Xp e,Xp e];exact Paired.snoc r ⟨rfl,a⟩
def KV.length{Z4:List (κ×V)}{vs:List (κ×Value)}(r:KV Z4 vs):Z4.length=vs.length:=SK r
end
def bS{k:Key}{u:Value}(r:RelV (Ie k) u):(Az P w).is k u=true:=by
 cases k with
 |inl i=>let⟨t,e⟩:=(show∃t,u=Value.int i t from r);subst e;exact we P w i t
 |inr x=>let⟨t,e⟩:=(show∃t,u=Value.str x t from r);subst e;exact v8 P w x t
def pb{P:Program}{w:World}:∀{ks:List Key} {O:List Value},ZH (ks.map Ie) O->ItemsAre (Az P w) ks O
 |[],_,r=>by rw[SG]at r;cases r;exact .nil
 |k::ks,_,r=>by
  rw[Y3]at r;cases r with
  |cons h t=>exact .cons (bS h) (pb t)
abbrev KT(H:Hp):List (List Key×V)->List (List Key×Addr×Value)->Prop:=Paired λp q=>p.1=q.1/\H q.2.1=some (.Z1 (p.1.map Ie))/\RelV p.2 q.2.2
def KT.val{Z4:List (List Key×V)}{xs:List (List Key×Addr×Value)}(r:KT H Z4 xs)(k:List Key):RelO (AK Z4 k) ((atKey xs k).map (·.2)):=by
 induction r with
 |nil=>exact True.intro
 |@cons p q ps qs h t ih=>
  let⟨h1,_,h2⟩:=h;by_cases e:p.1=k
  .have e':q.1=k:=h1.symm.trans e
   have b:atKey (q::qs) k=some q.2:=by simp[atKey,W5,e']
   rw[cu e,b];exact h2
  .have e' : ¬ q.1=k:=λz=>e (h1.trans z)
   have b:atKey (q::qs) k=atKey qs k:=by simp[atKey,W5,e']
   rw[cB e,b];exact ih
def KT.Xv{Z4:List (List Key×V)}{xs:List (List Key×Addr×Value)}(r:KT H Z4 xs)(k:List Key){u:Value}(b:RelV y u):
  KT H (Z4.map λa=>if a.1=k then(a.1,y)else a) (xs.map (putAt k u)):=by
 induction r with
 |nil=>exact .nil
 |@cons p q ps qs h t ih=>
  rw[Y3,Y3];refine .cons ?_ ih;let⟨h1,h2,c⟩:=h;unfold putAt;by_cases e:p.1=k
  .rw [Xg e,Xg (h1.symm.trans e)];exact⟨h1,h2,b⟩
  .rw [Xp e,Xp (λz=>e (h1.trans z))];exact⟨h1,h2,c⟩
def KT.put{Z4:List (List Key×V)}{xs:List (List Key×Addr×Value)}(r:KT H Z4 xs)(k:List Key){b:Addr}{u:Value}(d:H b=some (.Z1 (k.map Ie)))(a:RelV y u):
  KT H (putK Z4 k y) (storedH xs k b u):=by
 have e:(Z4.any λc=>decide (c.1=k))=(atKey xs k).isSome:=by
  rw[f9,(r.val k).UY,RM]
 unfold putK storedH;rw[e];by_cases q:(atKey xs k).isSome=true
 .rw [Xg q,Xg q];exact r.Xv k a
 .rw [Xp q,Xp q];exact Paired.snoc r ⟨rfl,d,a⟩
def KT.keeps{Z4:List (List Key×V)}{xs:List (List Key×Addr×Value)}(r:KT H Z4 xs)(a:∀b ys,H b=some (.Z1 ys)->H' b=some (.Z1 ys)):KT H' Z4 xs:=
 Paired.Ul r λ_ _ z=>⟨z.1,a _ _ z.2.1,z.2.2⟩
section
def uH{u:HO}(ok:HOk P w H h)(e:Rd H a u):ObjOk P w H h a u:=e.ok ok
def bT{Z4:List (Key×V)}(b:HOk P w H h)(e:Rd H a (.dK Z4)):Z4.length<=sizeLine/\(a==sysModules)=false /\∃vs,KV Z4 vs/\h.DictOf (Az P w) a vs:=
 show ObjOk P w H h a (.dK Z4)from uH b e
def vh{Z4:List (Key×V)}(b:HOk P w H h)(e:H a=some (.dK Z4)):Z4.length<=sizeLine/\(a==sysModules)=false /\∃vs,KV Z4 vs/\h.DictOf (Az P w) a vs:=bT b (.inl e)
def bO{b:List Key}(c:HOk P w H h)(e:H a=some (.Z1 (b.map Ie))):(tupleKind (Az P w)).is h b a:=by
 let⟨_,ZY,r,o,h1,h2,n,d⟩:=(show ObjOk P w H h a (.Z1 (b.map Ie))from c a _ e);exact⟨o,ZY.toArray,n,h1,h2,d,by simpa using pb r⟩
def bU{Z4:List (List Key×V)}(c:HOk P w H h)(e:Rd H a (.dT Z4)):Z4.length<=sizeLine/\(a==sysModules)=false /\
  ∃xs,KT H Z4 xs/\h.DictOfH (tupleKind (Az P w)) a xs:=by
 let⟨z,y,xs,r,o,es,ep,h1,h2,i,g,f⟩:=(show ObjOk P w H h a (.dT Z4)from uH c e);refine⟨z,y,xs,r,o,es,ep,h1,h2,i,g,λx b=>?_,f⟩;have all:∀{l:List (List Key×V)} {m:List (List Key×Addr×Value)},KT H l m ->∀x∈m,(tupleKind (Az P w)).is h x.1 x.2.1:=by
  intro l m q
  induction q with
  |nil=>intro x b;exact nomatch b
  |@cons p q ps qs d t ih=>
   intro x b;rcases YG.mp b with e|b
   .subst e
    exact bO c (by rw[<-d.1];exact d.2.1)
   .exact ih x b
 exact all r x b
def ux{Z4:List (List Key×V)}(b:HOk P w H h)(e:H a=some (.dT Z4)):Z4.length<=sizeLine/\(a==sysModules)=false /\
  ∃xs,KT H Z4 xs/\h.DictOfH (tupleKind (Az P w)) a xs:=bU b (.inl e)
end
def DGet(H:Hp)(a:Addr)(y:V)(r:Option V):Prop:=
 (∃Z4 k,Rd H a (.dK Z4)/\y=Ie k/\r=AK Z4 k) \/∃Z4 k b,Rd H a (.dT Z4)/\y=.ref b/\H b=some (.Z1 (k.map Ie))/\r=AK Z4 k
def DPut(H:Hp)(a:Addr)(y v:V)(H':Hp):Prop:=
 (∃Z4 k,H a=some (.dK Z4)/\y=Ie k/\Z4.length<sizeLine/\H'=upd H a (.dK (putK Z4 k v))) \/
 ∃Z4 k b,H a=some (.dT Z4)/\y=.ref b/\H b=some (.Z1 (k.map Ie))/\Z4.length<sizeLine/\H'=upd H a (.dT (putK Z4 k v))
def DGet.k{H:Hp}{a:Addr}{Z4:List (Key×V)}{k:Key}(e:H a=some (.dK Z4)):DGet H a (Ie k) (AK Z4 k):=.inl ⟨Z4,k,.inl e,rfl,rfl⟩
def DPut.k{H:Hp}{a:Addr}{Z4:List (Key×V)}{k:Key}{v:V}(e:H a=some (.dK Z4))(b:Z4.length<sizeLine):DPut H a (Ie k) v (upd H a (.dK (putK Z4 k v))):=.inl ⟨Z4,k,e,rfl,b,rfl⟩
def DPut.t{b:Addr}{Z4:List (List Key×V)}{k:List Key}(e:H a=some (.dT Z4))(d:H b=some (.Z1 (k.map Ie)))(c:Z4.length<sizeLine):
  DPut H a (.ref b) v (upd H a (.dT (putK Z4 k v))):=.inr ⟨Z4,k,b,e,rfl,d,c,rfl⟩
section
variable{Y:St}{u r:Value}{o:Option V}{E:Value->Shared->Prop}
def Z2.Yv(I:Z2 X J Y H s):sysModules<s.heap.objs.size:=by
 have h:mainGlobals<s.heap.objs.size:=(I.mod.glob.keeps I.bk).lt;exact Qn #[1] h
def w8{Q:Value->Shared->Prop}(q:A.units+1<cLine)(I:Z2 X J Y H s)(g:DGet H a y (some v))(n:RelV y u)(h:∀d s',Z2 X J Y H s'->RelV v d->Q d s'):
  wpAny (model X.prog X.w) A (getItem (.ref a) u) Q E s:=by
 rcases g with⟨Z4,k,e,j,l⟩|⟨Z4,k,b,e,j,x,l⟩
 .subst j
  let⟨z,t,vs,c,dd⟩:=bT I.ZL e;let⟨d,f,m⟩:=RelO.some_of (v:=v) (o:=valueAt vs k) (by rw[l];exact c.val k)
  exact wpAny_getItem_of (bS n) dd.mapOf f (h d _ (I.tok _) m)
 .subst j
  cases(show u=Value.ref b from n);let⟨z,t,xs,c,dd⟩:=bU I.ZL e;let⟨d,f,m⟩:=RelO.some_of (v:=v) (o:=(atKey xs k).map (·.2)) (by rw[l];exact c.val k)
  let⟨p,r,i⟩:=Ym.mp f;refine wpAny_getItem_heap (Sv q) (bO I.ZL x) dd r ?_;rw[i];exact h d _ (I.tok _) m
def d_in{Q:Value->Shared->Prop}(j:A.units+1<cLine)(I:Z2 X J Y H s)(g:DGet H a y o)(i:RelV y u)(h:∀s',Z2 X J Y H s'->Q (.bool o.isSome) s'):
  wpAny (model X.prog X.w) A (compareOp .In u (.ref a)) Q E s:=by
 rcases g with⟨Z4,k,e,f,l⟩|⟨Z4,k,b,e,f,m,l⟩
 .subst f
  let⟨z,d,vs,c,dd⟩:=bT I.ZL e;refine wpAny_in_of (bS i) d dd.mapOf ?_;rw[<-(c.val k).UY,<-l];exact h _ (I.tok _)
 .subst f
  cases(show u=Value.ref b from i);let⟨z,d,xs,c,dd⟩:=bU I.ZL e;refine wpAny_in_heap (Sv j) (bO I.ZL m) d dd ?_;have q:=(c.val k).UY;rw[RM]at q;rw[<-q,<-l];exact h _ (I.tok _)
def zF{Q:Value->Shared->Prop}(j:A.units+1<cLine)(I:Z2 X J Y H s)(g:DGet H a y o)(i:RelV y u)(h:∀s',Z2 X J Y H s'->Q (.bool (!o.isSome)) s'):
  wpAny (model X.prog X.w) A (compareOp .NotIn u (.ref a)) Q E s:=by
 rcases g with⟨Z4,k,e,f,l⟩|⟨Z4,k,b,e,f,m,l⟩
 .subst f
  let⟨z,d,vs,c,dd⟩:=bT I.ZL e;refine wpAny_notIn_of (bS i) d dd.mapOf ?_;rw[<-(c.val k).UY,<-l];exact h _ (I.tok _)
 .subst f
  cases(show u=Value.ref b from i);let⟨z,d,xs,c,dd⟩:=bU I.ZL e;refine wpAny_notIn_heap (Sv j) (bO I.ZL m) d dd ?_;have q:=(c.val k).UY;rw[RM]at q;rw[<-q,<-l];exact h _ (I.tok _)
def eP{c:HO}(I:Z2 X J Y H s)(f:Mut (H a))(g:Heap.SameBut a s.heap h')(h:∃q,h'.get? a=some q)(d:ObjOk X.prog X.w (upd H a c) h' a c):
  Z2 X J Y (upd H a c) {s with heap:=h',toks:=t'}:=
 I.write (x:=a) (e:=a) f (.inl rfl) (λb q i z=>(g.2 b i).trans z) h d
def uh{Z4:List (Key×V)}{vs:List (Key×Value)}(z:Z4.length<=sizeLine)(c:(a==sysModules)=false)(b:KV Z4 vs)(dd:h'.DictOf (Az P w) a vs):
  ObjOk P w H' h' a (.dK Z4):=⟨z,c,vs,b,dd⟩
def xK{Q:Unit->Shared->Prop}(F:A.units+1<cLine)(I:Z2 X J Y H s)(g:DPut H a y v H')(x:RelV y u)(B:RelV v r)(h:∀s',Z2 X J Y H' s'->Q Unit.unit s'):
  wpAny (model X.prog X.w) A (setItem (.ref a) u r) Q E s:=by
 rcases g with⟨Z4,k,e,p,l,t⟩|⟨Z4,k,b,e,p,D,l,t⟩
 .subst p t
  let⟨z,o,vs,d,dd⟩:=vh I.ZL e;have j:vs.length<=sizeLine:=by rw[<-d.length];exact z
  have n:(putK Z4 k v).length<=sizeLine:=by have:=dD Z4 k v;lia
  refine wpAny_setItem_pairs (hsz:=j) (bS x) dd λh' i m=>h _ ?_;have G:∃q,h'.get? a=some q:=let⟨q,_,_,f,_⟩:=i;⟨q,f⟩
  exact eP I (by rw[e];exact True.intro) m G (uh n o (d.put k B) i)
 .subst p t
  cases(show u=Value.ref b from x);let⟨z,o,xs,d,dd⟩:=ux I.ZL e;have j:xs.length<=sizeLine:=by rw[<-SK d];exact z
  have n:(putK Z4 k v).length<=sizeLine:=by have:=dD Z4 k v;lia
  refine wpAny_setItem_heap (hsz:=j) (Sv F) (bO I.ZL D) dd λh' i m=>h _ ?_;let⟨q,es,ep,f,h2,M,L,_,K⟩:=i;refine eP I (by rw[e];exact True.intro) m ⟨q,f⟩ ⟨n,o,_,(d.put k D B).keeps λc ys C=>?_,q,es,ep,f,h2,M,L,K⟩
  rw[af (cQ C e (λz=>nomatch z))];exact C
end
end L2
namespace L2
open PySem PySem.Spec PyProof.Rows
def yB(h:Heap)(a:sysModules<h.objs.size):ObjOk P w H (h.push {cls:=.type "dict",data:=.dict #[]}) h.objs.size (.dK []):=
 ⟨SQ _,Ue.mpr (Ne.symm (HC a)),[],.nil,Heap.DictOf.new h⟩
def qH(h:Heap)(a:sysModules<h.objs.size):ObjOk P w H (h.push {cls:=.type "dict",data:=.dict #[]}) h.objs.size (.dT []):=
 ⟨SQ _,Ue.mpr (Ne.symm (HC a)),[],.nil,_,#[],0,HD _ rfl,⟨rfl,rfl,rfl⟩,rfl,rfl,Qg⟩
def GZ:TE:=λ_ H Q=>∀p,H p=none->Q (.ref p) (upd H p (.dT []))
section
def yc:PE X (.Dict [] [] pos) GZ:=λJ s Y H Q I h=>
 wpAny_Dict_empty ⟨.ref s.heap.objs.size,_,I.laid (a:=s.heap.objs.size) (o:=.dT []) (t':=s.toks) (λ_ _ q=>Hv _ q) (Hz _) (qH s.heap I.Yv),rfl,h _ (I.ZL.fresh (Hz _))⟩
end
def CU:List (TE×TE)->St->Hp->(List (V×V)->Hp->Prop)->Prop
 |[],_,H,Q=>Q [] H
 |(tk,tv)::r,Y,H,Q=>tk Y H λx H1=>tv Y H1 λy H2=>CU r Y H2 λps H3=>Q ((x,y)::ps) H3
abbrev VV:List (V×V)->List (Value×Value)->Prop:=Paired λp q=>RelV p.1 q.1/\RelV p.2 q.2
def PPs(X:Cx)(pos:Pos)(b:List (Option Expr))(a:List Expr)(c:List (TE×TE)):Prop:=
 ∀(J:List (Addr×Obj)) (s:Shared) (Y:St) (H:Hp) (Q:List (V×V)->Hp->Prop),Z2 X J Y H s->CU c Y H Q ->
  wpAny (model X.prog X.w) X.A (evalPairs (pairTrees b a X.env pos)) (λvs s'=>∃ps H',Z2 X J Y H' s'/\VV ps vs/\Q ps H') X.xe s
def zv:PPs X pos [] [] []:=λJ s Y H Q I h=>pairTrees_nil_walk ⟨[],H,I,.nil,h⟩
def yA{k v:Expr}{b:List (Option Expr)}{vs:List Expr}{tk a:TE}{c:List (TE×TE)}(o:PE X k tk)(m:PE X v a)(n:PPs X pos b vs c):
  PPs X pos (some k::b) (v::vs) ((tk,a)::c):=λJ s Y H Q I h=>
 pairTrees_cons_walk (thn (o J s Y H _ I h) λu e ⟨x,H1,r,g,l⟩=>thn (m J e Y H1 _ r l) λt d ⟨y,H2,q,f,j⟩ =>
  thn (n J d Y H2 _ q j) λws s3 ⟨ps,H3,p,rel,i⟩=>⟨(x,y)::ps,H3,p,.cons ⟨g,f⟩ rel,i⟩)
def BC(Z4 a:List (Key×V)):List (Key×V):=a.foldl (λZX b=>putK ZX b.1 b.2) Z4
def KV.merge:∀{a:List (Key×V)} {rs:List (Key×Value)} {Z4:List (Key×V)} {vs:List (Key×Value)},KV a rs->KV Z4 vs->KV (BC Z4 a) (merged vs rs):=by
 intro a rs Z4 vs r;unfold KV at r
 induction r generalizing Z4 vs with
 |nil=>intro q;exact q
 |@cons p q ps qs h t ih=>
  intro b;have e:KV (putK Z4 p.1 p.2) (stored vs q.1 q.2):=by
   have:=b.put p.1 h.2;rw[<-h.1];exact this
  exact ih e
def nK:∀(a Z4:List (Key×V)),(BC Z4 a).length<=Z4.length+a.length
 |[],Z4=>by show Z4.length<=Z4.length+0;lia
 |p::r,Z4=>by
  have h1:=nK r (putK Z4 p.1 p.2);have h2:=dD Z4 p.1 p.2;show(BC (putK Z4 p.1 p.2) r).length<=_;rw[XI];lia
def oG{P:Program}{w:World}:∀{Z4:List (Key×V)} {ws:List (Value×Value)},VV (Z4.map λd=>(Ie d.1,d.2)) ws ->∃rs,Carries (Az P w) ws rs/\KV Z4 rs
 |[],_,r=>by rw[SG]at r;cases r;exact⟨[],True.intro,.nil⟩
 |p::Z4,_,r=>by
  rw[Y3]at r;cases r with
  |@cons a b as bs h t=>
   let⟨rs,c,q⟩:=oG (P:=P) (w:=w) t;let⟨f,e⟩:=b;exact⟨(p.1,e)::rs,⟨bS h.1,rfl,c⟩,.cons ⟨rfl,h.2⟩ q⟩
def Hj(b:List (TE×TE)):TE:=λY H Q=>∀p,H p=none->CU b Y (upd H p (.dK [])) λps H2=>H2 p=some (.dK []) /\∃Z4:List (Key×V),ps=Z4.map (λa=>(Ie a.1,a.2))/\Z4.length<=15/\Q (.ref p) (upd H2 p (.dK (BC [] Z4)))
def yW{d:List Expr}{j:List (TE×TE)}(h:PPs X pos keys d j)(K:keys.all (·.isSome)=true)(D:keys.length=d.length)(G:keys≠[])
  (f:keys.length<=15):PE X (.Dict keys d pos) (Hj j):=by
 intro J s Y H Q I q;have C:=I.ZL.fresh (Hz s.heap.objs.size);have L:=I.laid (a:=s.heap.objs.size) (o:=.dK []) (h':=s.heap.push {cls:=.type "dict",data:=.dict #[]}) (t':=s.toks) (λ_ _ q=>Hv _ q) (Hz _) (yB s.heap I.Yv);refine wpAny_Dict_walk (knd:=Az X.prog X.w) K D G f (thn (h J _ Y _ _ L (q _ C)) ?_);rintro ws M ⟨ps,H2,k,rel,e,Z4,ep,lk,u⟩;subst ep;let⟨rs,c,rk⟩:=oG (P:=X.prog) (w:=X.w) rel;let⟨z,F,r,t,dd⟩:=vh k.ZL e;cases t;refine⟨rs,c,dd,λh' g A=>⟨.ref s.heap.objs.size,_,?_,rfl,u⟩⟩;have y:(BC [] Z4).length<=sizeLine:=by
  have h1:=nK Z4 [];rw[Ur]at h1;rw[Tb];lia
 have E:∃q,h'.get? s.heap.objs.size=some q:=let⟨q,_,_,B,_⟩:=g;⟨q,B⟩
 exact eP k (by rw[e];exact True.intro) A E (uh y F (rk.merge .nil) g)
structure M1(X:Cx)(o:Expr)(m:Str)(apos:Pos)(e:Expr)(Zf:Pos):Prop where
 base:attributeBase o m X.env (eval o X.env)=eval o X.env
 few:((backTo Zf (starEach [e] X.env)).all (λx => !x.1) && (backToKw Zf (keywordEach [] X.env)).all (λx=>x.1.isSome)
  && decide (([e]:List Expr).length+([]:List Keyword).length+(if([]:List Keyword).isEmpty then 0 else 1)<30))=true
 line:(apos.endLine==Zf.line)=true
 trees:backTo Zf (starEach [e] X.env)=[(false,eval e X.env)]
structure M2(X:Cx)(o:Expr)(m:Str)(apos:Pos)(e f:Expr)(Zf:Pos):Prop where
 base:attributeBase o m X.env (eval o X.env)=eval o X.env
 few:((backTo Zf (starEach [e,f] X.env)).all (λx => !x.1) && (backToKw Zf (keywordEach [] X.env)).all (λx=>x.1.isSome)
  && decide (([e,f]:List Expr).length+([]:List Keyword).length+(if([]:List Keyword).isEmpty then 0 else 1)<30))=true
 line:(apos.endLine==Zf.line)=true
 trees:backTo Zf (starEach [e,f] X.env)=[(false,eval e X.env),(false,eval f X.env)]
def IsD(H:Hp)(a:Addr):Prop:=(∃Z4,Rd H a (.dK Z4)) \/∃Z4,Rd H a (.dT Z4)
def abB{Y:St}(I:Z2 X J Y H s)(d:IsD H a):
  s.TypeIs (.ref a) "dict" /\ (∀b,Value.ref a=.ref b ->∃c,s.heap.get? b=some c/\c.dict=none)/\(a==sysModules)=false:=by
 rcases d with⟨Z4,e⟩|⟨Z4,e⟩
 .obtain ⟨_,f,vs,_,dd⟩:=bT I.ZL e
  refine⟨dd.typeIs,λb q=>?_,f⟩;cases q;let⟨c,_,_,h1,h2,_⟩:=dd;exact⟨c,h1,h2.2.1⟩
 .obtain ⟨_,f,xs,_,dd⟩:=bU I.ZL e
  refine⟨dd.typeIs,λb q=>?_,f⟩;cases q;let⟨c,_,_,h1,h2,_⟩:=dd;exact⟨c,h1,h2.2.1⟩
section
variable{Y:St}{d:V}{u r:Value}{o:Option V}{E:Value->Shared->Prop}
def aca{Q:Value->Shared->Prop}(p:A.units+1<cLine)(I:Z2 X J Y H s)(g:DGet H a y o)(m:RelV y u)(n:RelV d r)(h:∀j s',Z2 X J Y H s'->RelV (o.getD d) j->Q j s'):
  wpAny (model X.prog X.w) A (call (.builtin "dict.get") [.ref a,u,r]) Q E s:=by
 rcases g with⟨Z4,k,e,i,l⟩|⟨Z4,k,b,e,i,q,l⟩
 .subst i
  let⟨z,f,vs,c,dd⟩:=bT I.ZL e;refine call_meetsIn S6 dd.typeIs R5 (RZ _ _ _) (meets_dict_get_default (Az X.prog X.w) a (bS m) f r) ⟨_,dd.mapOf,h _ _ (I.tok _) ?_⟩;rw[l];exact(c.val k).getD n
 .subst i
  cases(show u=Value.ref b from m);let⟨z,f,xs,c,dd⟩:=bU I.ZL e;refine call_meetsIn S6 dd.typeIs R5 (RZ _ _ _) (meetsH_dict_get_default (tupleKind (Az X.prog X.w)) a b f r) ⟨Sv p,k,xs,bO I.ZL q,dd,h _ _ (I.tok _) ?_⟩;rw[l];exact(c.val k).getD n
end
def GY(d b c:TE):TE:=λY H Q=>d Y H λx H1=>∃a,x=.ref a/\IsD H1 a/\b Y H1 λy H2=>c Y H2 λz H3=>∃o,DGet H3 a y o/\Q (o.getD z) H3
section
variable{f:Expr}{td ty tx:TE}
def yu(t:X.A.units+1<cLine)(v:PE X o td)(B:PE X e ty)(w:PE X f tx)(m:M2 X o "get" apos e f Zf):PE X (.Call (.Attribute o "get" apos) [e,f] [] Zf) (GY td ty tx):=by
 intro J s Y H Q I h;refine wpAny_Call_method m.base m.few m.line PySem.F.plainAttrs_dict S6 PySem.F.type_dict_get (thn (v J s Y H _ I h) ?_);rintro u j ⟨x,H1,b,n,a,ex,d,r⟩;subst ex;obtain rfl:u=Value.ref a:=n;let ⟨c,t2,_⟩:=abB b d;refine ⟨c,t2,?_⟩;rw [m.trees];refine SX rfl (Calls.evalArgs_plain (Rx (thn (B J j Y H1 _ b r) λM i ⟨y,H2,G,l,q⟩ =>
  Rx (thn (w J i Y H2 _ G q) λN s3 ⟨z,H3,E,k,L,g,p⟩=>Calls.spliced_nil ?_))))
 exact aca t E g l k λK s4 D C=>⟨_,H3,D,C,p⟩
end
end L2
namespace PI
noncomputable section
variable{es:Array (Int×Value)}{o:Obj}{hi:Nat}
open PySem
open PySem PyProof.Rows
def FU:List Int->List Int->Bool
 |[],[]=>false
 |[],_::_=>true
 |_::_,[]=>false
 |a::r,b::q=>if a=b then FU r q else decide (a<b)
abbrev KyB:=List (List Int×Addr)
open PySem PyProof.Rows PySem.W
open PySem
noncomputable section
set_option genInjectivity false in
inductive Z6 where
 |S (xs:List U)|ZV (Z4:List (List Int×U))|Zu (Z4:List (List Int×U))|dst (Z4:List (Str×U))|ins (c:Nat) (fs:List (Nat×U))
abbrev G:=List Z6
abbrev Su:=List (Option U)
inductive Out(α:Type) where
 |ok (a:α) (g:G)|exc (c:Nat) (fs:List U) (g:G)|ZZ
noncomputable def Out.bind{d b:Type}(o:Out d)(k:d->G->Out b):Out b:=match o with
 |.ok a g=>k a g
 |.exc c fs g=>.exc c fs g
 |.ZZ=>.ZZ
noncomputable def Out.Yw{b:Type}(o:Out b):Out b:=match o with
 |.ok a g=>.ok a g
 |_=>.ZZ
noncomputable def Out.bindB{c b:Type}(o:Out c)(k:c->G->Out b):Out b:=match o with
 |.ok a g=>k a g
 |_=>.ZZ
set_option genInjectivity false in
inductive Fl where|nx (Y:Su)|rt (u:U)|bk (Y:Su)|ct (Y:Su)
set_option genInjectivity false in
inductive Iter where|S (id:Nat)|ZV (id:Nat)|YY (id:Nat)|zip (id VA:Nat)|seq (xs:List U)|Y7 (lo:Int) (n:Nat)
def Aq(x y:U):Option Bool:=match x with
 |.ZN=>match y with
  |.ZN=>some true
  |.bl _=>some false
  |.int _=>some false
  |.str _=>some false
  |_=>none
 |.bl a=>match y with
  |.ZN=>some false
  |.bl b=>some (a==b)
  |.int b=>some ((if a then 1 else 0)==b)
  |.str _=>some false
  |_=>none
 |.int a=>match y with
  |.ZN=>some false
  |.bl b=>some (a==(if b then 1 else 0))
  |.int b=>some (a==b)
  |.str _=>some false
  |_=>none
 |.str a=>match y with
  |.ZN=>some false
  |.bl _=>some false
  |.int _=>some false
  |.str b=>some (a==b)
  |_=>none
 |_=>none
def Av:List U->List U->Option Bool
 |[],[]=>some true
 |x::xs,y::ys=>match Aq x y with
  |none=>none
  |some b=>match Av xs ys with
   |none=>none
   |some c=>some (b&&c)
 |_,_=>none
def IX:U->U->Option Bool
 |.Z1 xs,.Z1 ys=>Av xs ys
 |x,y=>Aq x y
def Cw:U->U->Bool
 |.int _,.int _=>true
 |.bl _,.bl _=>true
 |.str _,.str _=>true
 |.ZN,.ZN=>true
 |_,_=>false
def BO:Int:=18446744073709551616
def Au:Int:=115792089237316195423570985008687907853269984665640564039457584007913129639936
def IY(a:Op)(i j:Int):Option U:=match a with
 |.add=>some (.int (i+j))
 |.sub=>some (.int (i-j))
 |.mul=>if(decide (-BO<i)&&decide (i<BO))||(decide (-BO<j)&&decide (j<BO))||(decide (-Au<i)&&decide (i<Au)&&decide (-Au<j)&&decide (j<Au))then some (.int (i*j))else none
 |.fdiv=>if 0<j then(if j<Au then some (.int (i / j))else none)
   else if j=0 then none else if -Au<j then some (.int (i.fdiv j))else none
 |.mod=>if 0<j then some (.int (i % j))else if j=0 then none else some (.int (i.fmod j))
 |.pow=>if 0<=j/\j<=1000/\i.natAbs<1000000 then some (.int (i ^ j.toNat))else none
def IZ(a:Op)(x y:U):Option U:=match x with
 |.int i=>match y with
  |.int j=>IY a i j
  |_=>none
 |_=>none
def Gp:Op->U->U->Option U
 |.add,.int a,.int b=>some (.int (a+b))
 |.sub,.int a,.int b=>some (.int (a-b))
 |_,_,_=>none
def I8(x:U):List U->Option Bool
 |[]=>some false
 |y::ys=>match IX y x with
  |none=>none
  |some b=>match I8 x ys with
   |none=>none
   |some c=>some (b||c)
def items(u:U)(g:G):Option (List U):=match u with
 |.Z1 xs=>some xs
 |.Zm xs=>some xs
 |.xn _ xs=>some xs
 |.ref n=>match g[n]? with
  |some (.S xs)=>some xs
  |_=>none
 |_=>none
def AE:U->Bool
 |.ZN=>true
 |_=>false
def intsOf:List U->Option (List Int)
 |[]=>some []
 |.int i::r=>(intsOf r).map (i :: ·)
 |_::_=>none
def keyOf(u:U):Option (List Int):=match u with
 |.Z1 O=>intsOf O
 |_=>none
def Am(Z4:List (List Int×U))(k:List Int):Option U:=(Z4.find? λa=>decide (a.1=k)).map (·.2)
def dput(Z4:List (List Int×U))(k:List Int)(v:U):List (List Int×U):=
 if(Z4.any λa=>decide (a.1=k))=true then Z4.map (λa=>if a.1=k then(a.1,v)else a)else Z4++[(k,v)]
def BG(Z4:List (List Int×U))(x:U):Option (List (List Int×U)):=match x with
 |.Z1 [k,u]=>(keyOf k).map λks=>dput Z4 ks u
 |_=>none
def dfold:List U->List (List Int×U)->Option (List (List Int×U))
 |[],Z4=>some Z4
 |x::r,Z4=>(BG Z4 x).bind λk=>dfold r k
def A1(Z4:List (Str×U))(k:Str):Option U:=(Z4.find? λa=>decide (a.1=k)).map (·.2)
def BS(Z4:List (Str×U))(k:Str)(v:U):List (Str×U):=
 if(Z4.any λa=>decide (a.1=k))=true then Z4.map (λa=>if a.1=k then(a.1,v)else a)else Z4++[(k,v)]
def I9(y:U)(g:G):Option (List (Str×U)):=match y with
 |.ref n=>match g[n]? with
  |some (.dst Z4)=>some Z4
  |_=>none
 |_=>none
def Ja(y:U)(g:G):Option (List (List Int×U)):=match y with
 |.ref n=>match g[n]? with
  |some (.ZV Z4)=>some Z4
  |some (.Zu Z4)=>some Z4
  |_=>none
 |_=>none
def Al(x y:U)(g:G):Option (Option U):=match Ja y g with
 |some Z4=>(keyOf x).map (Am Z4)
 |none=>none
def A2(x y:U)(g:G):Option (List U×List U):=match x with
 |.ref n=>match y with
  |.ref m=>match g[n]? with
   |some (.S xs)=>match g[m]? with
    |some (.S ys)=>some (xs,ys)
    |_=>none
   |_=>none
  |_=>none
 |_=>none
def qs(q:U->U->Option Bool):List U->List U->Option Bool
 |[],[]=>some true
 |x::xs,y::ys=>match q x y with
  |none=>none
  |some b=>match qs q xs ys with
   |none=>none
   |some c=>some (b&&c)
 |_,_=>none
def CL:U->U->Option Bool
 |.Z1 xs,.Z1 ys=>qs IX xs ys
 |x,y=>Aq x y
def Jb(xs ys:List U):Option Bool:=if xs.length=ys.length then qs CL xs ys else some false
def neT(x y:U):Option Bool:=match x with
 |.Z1 xs=>match y with
  |.Z1 ys=>(qs IX xs ys).map (!·)
  |_=>none
 |_=>none
def hkL(k:List Int):Int:=reduceHash (Builtin.Tuple.tupleHashOf (k.map hashInt))
def Jc(a:Cp)(x y:U)(g:G):Option Bool:=match a with
 |.eq=>match A2 x y g with
  |some p=>Jb p.1 p.2
  |none=>IX x y
 |.ne=>if Cw x y then(Aq x y).map (!·)else neT x y
 |.lt=>match x,y with|.int i,.int j=>some (decide (i<j))|_,_=>none
 |.le=>match x,y with|.int i,.int j=>some (decide (i<=j))|_,_=>none
 |.gt=>match x,y with|.int i,.int j=>some (decide (j<i))|_,_=>none
 |.ge=>match x,y with|.int i,.int j=>some (decide (j<=i))|_,_=>none
 |.Xe=>if AE y then some (AE x)else none
 |.Wi=>if AE y then some (!AE x)else none
 |.Wh=>match items y g with|some ys=>I8 x ys|none=>(Al x y g).map Option.isSome
 |.nin=>match items y g with|some ys=>(I8 x ys).map (!·)|none=>(Al x y g).map λo=>!o.isSome
def Jd(u:U)(g:G):Option Bool:=match u with
 |.ZN=>some false
 |.bl b=>some b
 |.int i=>some (i != 0)
 |.Z1 xs=>some (!xs.isEmpty)
 |.Zm xs=>some (!xs.isEmpty)
 |.ref n=>match g[n]? with
  |some (.S xs)=>some (!xs.isEmpty)
  |_=>none
 |_=>none
def Je(xs:List U)(i:Int):Option U:=L2.atI xs i
noncomputable def lift{b:Type}(o:Option b)(g:G):Out b:=match o with
 |some a=>.ok a g
 |none=>.ZZ
noncomputable def alloc(o:Z6)(g:G):Out U:=.ok (.ref g.length) (g++[o])
def Ag:Nat:=16777000
def Bj(a:Op)(x y:U)(g:G):Out U:=match A2 x y g with
 |some p=>match a with
  |.add=>if p.1.length+p.2.length<=Ag then alloc (.S (p.1++p.2)) g else .ZZ
  |_=>.ZZ
 |none=>lift (IZ a x y) g
def AO(x:U)(g:G):Option (Nat×List (Nat×U)):=match x with
 |.ref n=>match g[n]? with
  |some (.ins c fs)=>some (c,fs)
  |_=>none
 |_=>none
def Ce(j:Nat)(u:U):List (Nat×U)->List (Nat×U)
 |[]=>[(j,u)]
 |(i,x)::r=>if i=j then(i,u)::r else(i,x)::Ce j u r
def BD(j:Nat)(cs:List Nat)(p:Nat×List (Nat×U)):Option U:=if cs.contains p.1 then p.2.lookup j else none
def A8(x:U)(j:Nat)(cs:List Nat)(u:U)(g:G):Option G:=match x with
 |.ref n=>match g[n]? with
  |some (.ins c fs)=>if cs.contains c/\fs.length<1000 then some (g.set n (.ins c (Ce j u fs)))else none
  |_=>none
 |_=>none
def BB(j:Nat)(a:List (Nat×Nat×List (Nat ⊕ U)))(p:Nat×List (Nat×U)):Option (Nat×List (Nat ⊕ U)):=match p.2.lookup j with
 |none=>a.lookup p.1
 |some _=>none
def CB(t:Ty):Option Bool:=match t with|.VI=>some true|_=>some false
def AI(t:Ty)(u:U)(g:G):Option Bool:=match u with
 |.ZN=>some false
 |.bl _=>match t with|.Wg=>some true|.We=>some true|.own _=>none|_=>some false
 |.int _=>match t with|.Wg=>some true|.own _=>none|_=>some false
 |.str _=>match t with|.Vf=>some true|.own _=>none|_=>some false
 |.Z1 _=>match t with|.Ve=>some true|.own _=>none|_=>some false
 |.ref n=>match g[n]? with
  |some (.S _)=>CB t
  |some (.ins c _)=>match t with|.own c'=>if c=c' then some true else none|_=>none
  |_=>none
 |_=>none
def Bc(xs:List U)(a b:Option Int):List U:=(xs.drop (HT.sIx xs.length 0 a)).take (HT.sIx xs.length xs.length b-HT.sIx xs.length 0 a)
def best(m:Bool)(a:Int)(r:List Int):Int:=r.foldl (λx y=>if m then(if y<x then y else x)else(if y > x then y else x)) a
def insI(a:Int):List Int->List Int
 |[]=>[a]
 |b::r=>if a<=b then a::b::r else b::insI a r
def sortI:List Int->List Int
 |[]=>[]
 |a::r=>insI a (sortI r)
def C5(O:List U)(g:G):Out U:=match O with
 |[u]=>match items u g with
  |some xs=>.ok (.int xs.length) g
  |none=>.ZZ
 |_=>.ZZ
def DK(O:List U)(g:G):Out U:=match O with
 |[u]=>match u with
  |.int i=>.ok (.int (if i<0 then -i else i)) g
  |_=>.ZZ
 |_=>.ZZ
def tupI(k:List Int):U:=.Z1 (k.map .int)
def Cr(O:List U)(g:G):Out U:=match O with
 |[u]=>match items u g with
  |some xs=>alloc (.S xs) g
  |none=>.ZZ
 |_=>.ZZ
def A3(O:List U)(g:G):Option (List Int):=match O with
 |[.ref n]=>match g[n]? with
  |some (.S xs)=>intsOf xs
  |_=>none
 |_=>none
def BA(m:Bool)(O:List U)(g:G):Out U:=match intsOf O with
 |some ns=>match ns with
  |[a,b]=>.ok (.int (best m a [b])) g
  |[a,b,c]=>.ok (.int (best m a [b,c])) g
  |_=>.ZZ
 |none=>match A3 O g with
  |some ns=>match ns with
   |a::r=>.ok (.int (best m a r)) g
   |[]=>.ZZ
  |none=>.ZZ
def G8(O:List U)(g:G):Out U:=match A3 O g with
 |some ns=>.ok (.int ns.sum) g
 |none=>.ZZ
def Hg(O:List U)(g:G):Out U:=match O with
 |[u]=>match u with
  |.Z1 xs=>.ok (.Z1 xs) g
  |.xn c xs=>.ok (.xn c xs) g
  |.ref n=>match g[n]? with
   |some (.S xs)=>.ok (.Z1 xs) g
   |_=>.ZZ
  |_=>.ZZ
 |_=>.ZZ
def FE(g:G):List U->Option (List U)
 |[]=>some []
 |.ref n::r=>match g[n]? with
  |some (.S xs)=>(FE g r).map (xs ++ ·)
  |_=>none
 |_::_=>none
def Ha(O:List U)(g:G):Out U:=match O with
 |[.ref n,.ref m]=>match g[n]? with
  |some (.S (x::xs))=>match g[m]? with
   |some (.S [])=>match FE g (x::xs)with
    |some zs=>if zs.length<=Ag then alloc (.S zs) g else .ZZ
    |none=>.ZZ
   |_=>.ZZ
  |_=>.ZZ
 |_=>.ZZ
def Fy:List U->Option (List (List Int))
 |[]=>some []
 |u::r=>match keyOf u with
  |none=>none
  |some k=>match Fy r with
   |none=>none
   |some ks=>some (k::ks)
def Jf(a:List Int):List (List Int)->List (List Int)
 |[]=>[a]
 |b::r=>if a=b then b::r else if FU a b=true then a::b::r else b::Jf a r
def Jg:List (List Int)->List (List Int)
 |[]=>[]
 |a::r=>Jf a (Jg r)
def Jh(c:List (List Int)):Prop:=c.length<=300/\(∀k∈c,k≠[]) /\∀a∈c,∀b∈c,hkL a=hkL b->a=b
def Ji(O:List U)(g:G):Out U:=match Fy O with
 |some ks=>open Classical in if Jh ks then alloc (.S ((Jg ks).map tupI)) g else .ZZ
 |none=>.ZZ
def G1(O:List U)(g:G):Out U:=match O with
 |[u]=>match u with
  |.ref n=>match g[n]? with
   |some (.S xs)=>Ji xs g
   |_=>.ZZ
  |_=>.ZZ
 |_=>.ZZ
def CY(O:List U)(g:G):Out U:=match A3 O g with
 |some ns=>if ns.length<64 then alloc (.S ((sortI ns).map U.int)) g else .ZZ
 |none=>.ZZ
def CZ(O:List U)(g:G):Out U:=match O with
 |[u]=>match Ja u g with
  |some Z4=>open Classical in if Z4≠[] /\∀a∈Z4.map (·.1),∀b∈Z4.map (·.1),hkL a=hkL b->a=b then alloc (.ZV Z4) g else .ZZ
  |none=>.ZZ
 |_=>.ZZ
def Gu(u:U)(g:G):Option PySem.PyData:=
 none
def G7(O:List U)(g:G):Out U:=match O with
 |[u]=>match Gu u g with
  |some d=>open Classical in if d.showable=true/\d.shown.length<=PySem.sizeLine then .ok (.str d.shown) g else .ZZ
  |none=>.ZZ
 |_=>.ZZ
def Hm(O:List U)(g:G):Out U:=match O with
 |[u]=>match u with
  |.bl b=>.ok (.int (if b then 1 else 0)) g
  |_=>.ZZ
 |_=>.ZZ
def Jj(b:Bi)(O:List U)(g:G):Out U:=match b with
 |.len=>C5 O g
 |.abs=>DK O g
 |.list=>Cr O g
 |.mn=>BA true O g
 |.mx=>BA false O g
 |.Vh=>CY O g
 |.sum=>G8 O g
 |.tupl=>Hg O g
 |.cat=>Ha O g
 |.sset=>G1 O g
 |.Vg=>CZ O g
 |.rpr=>G7 O g
 |.int=>Hm O g
def Jk(x:U)(g:G):Option Nat:=match x with
 |.ref n=>match g[n]? with
  |some (.S _)=>some n
  |_=>none
 |_=>none
def A9(n:Nat)(y:U)(g:G):Out U:=match g[n]? with
 |some (.S xs)=>if xs.length<Ag then .ok .ZN (g.set n (.S (xs++[y])))else .ZZ
 |_=>.ZZ
def Bq(n:Nat)(y:U)(g:G):Out U:=match Jk y g with
 |some m=>match g[n]?,g[m]? with
  |some (.S xs),some (.S ys)=>if xs.length+ys.length<Ag then .ok .ZN (g.set n (.S (xs++ys)))else .ZZ
  |_,_=>.ZZ
 |none=>.ZZ
def BE(c:Bool)(n:Nat)(g:G):Out U:=match g[n]? with
 |some (.S xs)=>.ok .ZN (g.set n (.S (match c with|true=>[]|false=>xs.reverse)))
 |_=>.ZZ
def Bn(n:Nat)(g:G):Out U:=match g[n]? with
 |some (.S xs)=>match xs[xs.length-1]? with
  |some y=>.ok y (g.set n (.S xs.dropLast))
  |none=>.ZZ
 |_=>.ZZ
def Jl(f:E->Su->G->Out U):List E->Su->G->Out (List U)
 |[],_,g=>.ok [] g
 |e::es,Y,g=>(f e Y g).bind λu g=>(Jl f es Y g).bind λO g=>.ok (u::O) g
def Jm(f:E->Su->G->Out U):Option E->Su->G->Out (Option Int)
 |none,_,g=>.ok none g
 |some e,Y,g=>(f e Y g).bind λu g=>match u with
  |.int i=>.ok (some i) g
  |_=>.ZZ
noncomputable def next(it:Iter)(i:Nat)(g:G):Option (Option U):=match it with
 |.S id=>match g[id]? with
  |some (.S xs)=>some xs[i]?
  |_=>none
 |.ZV id=>match g[id]? with
  |some (.Zu Z4)=>some ((Z4[i]?).map λa=>.Z1 (a.1.map .int))
  |_=>none
 |.YY id=>match g[id]? with
  |some (.S xs)=>some ((xs[i]?).map λu=>.Z1 [.int i,u])
  |_=>none
 |.zip id b=>match g[id]? with
  |some (.S xs)=>match g[b]? with
   |some (.S ys)=>some ((xs[i]?).bind λu=>(ys[i]?).map λw=>.Z1 [u,w])
   |_=>none
  |_=>none
 |.seq xs=>some xs[i]?
 |.Y7 lo n=>some (if i<n then some (.int (lo+i))else none)
def bindL:List Nat->List U->Su->Option Su
 |[],[],Y=>some Y
 |i::is,u::O,Y=>if i<Y.length then bindL is O (Y.set i (some u))else none
 |_,_,_=>none
def AF(t:Tg)(Y:Su):Bool:=match t with
 |.nm i=>match Y[i]? with|some none=>true|_=>false
 |.tp is=>is.all λi=>match Y[i]? with|some none=>true|_=>false
def Ah(t:Tg)(u:U)(Y:Su):Option Su:=match t with
 |.nm i=>if i<Y.length then some (Y.set i (some u))else none
 |.tp is=>match u with
  |.Z1 O=>bindL is O Y
  |_=>none
def Jn(t:Tg)(u:U)(g:G):U:=match t with
 |.nm _=>u
 |.tp _=>match u with
  |.ref n=>match g[n]? with
   |some (.S xs)=>.Z1 xs
   |_=>u
  |_=>u
def pick(O:List U)(p:Nat ⊕ U):U:=match p with
 |.inl i=>O[i]?.getD .ZN
 |.inr u=>u
def perm(O:List U)(a:List (Nat ⊕ U)):List U:=a.map (pick O)
set_option genInjectivity false in
structure Z7 where
 ev:E->Su->G->Out U
 ts:E->Su->G->Out Bool
 ex:List Z5->Su->G->Out Fl
 wh:E->List Z5->Su->G->Out Fl
 fr:Tg->Iter->Nat->List Z5->Su->G->Out Fl
 cm:Iter->Nat->Tg->List E->List (Tg×E×List E)->E->List U->Su->G->Out (List U)
def Jo(r:Z7)(e:E)(Y:Su)(g:G):Out Iter:=match e with
 |.YM a=>(r.ev a Y g).bind λu g=>match u with
  |.int j=>if -1000000<j/\j<1000000 then .ok (.Y7 0 j.toNat) g else .ZZ
  |_=>.ZZ
 |.Yn a b=>(r.ev a Y g).bind λu g=>(r.ev b Y g).bind λw g=>match u,w with
  |.int i,.int j=>if -1000000<i/\i<1000000 /\ -1000000<j/\j<1000000 then .ok (.Y7 i (j-i).toNat) g else .ZZ
  |_,_=>.ZZ
 |.YY a=>(r.ev a Y g).bind λu g=>match Jk u g with
  |some n=>.ok (.YY n) g
  |none=>.ZZ
 |.zip a b=>(r.ev a Y g).bind λu g=>(r.ev b Y g).bind λw g=>match Jk u g with
  |some n=>match Jk w g with
   |some m=>.ok (.zip n m) g
   |none=>.ZZ
  |none=>.ZZ
 |e=>(r.ev e Y g).bind λu g=>match u with
  |.Z1 xs=>.ok (.seq xs) g
  |.xn _ xs=>.ok (.seq xs) g
  |.ref n=>match g[n]? with
   |some (.S _)=>.ok (.S n) g
   |some (.ZV Z4)=>.ok (.ZV n) (g.set n (.Zu Z4))
   |some (.Zu _)=>.ok (.ZV n) g
   |_=>.ZZ
  |_=>.ZZ
def Jp(C:Nat->List U->G->Out U)(r:Z7)(e:E)(Y:Su)(g:G):Out U:=match e with
 |.L i=>match Y[i]? with
  |some (some u)=>.ok u g
  |_=>.ZZ
 |.Z3 u=>.ok u g
 |.ZW op a b=>(r.ev a Y g).bind λx g=>(r.ev b Y g).bind λy g=>Bj op x y g
 |.cmp op a b=>(r.ev a Y g).bind λx g=>(r.ev b Y g).bind λy g=>match Jc op x y g with
  |some c=>.ok (.bl c) g
  |none=>.ZZ
 |.chain op YV a b c=>(r.ev a Y g).bind λx g=>(r.ev b Y g).bind λy g=>match Jc op x y g with
  |some true=>(r.ev c Y g).bind λz g=>match Jc YV y z g with
   |some c=>.ok (.bl c) g
   |none=>.ZZ
  |some false=>.ok (.bl false) g
  |none=>.ZZ
 |.and a b=>(r.ev a Y g).bind λx g=>match x with
  |.bl true=>r.ev b Y g
  |.bl false=>.ok (.bl false) g
  |_=>.ZZ
 |.or a b=>(r.ev a Y g).bind λx g=>match x with
  |.bl true=>.ok (.bl true) g
  |.bl false=>r.ev b Y g
  |_=>.ZZ
 |.not a=>(r.ev a Y g).bind λx g=>match Jd x g with
  |some c=>.ok (.bl (!c)) g
  |none=>.ZZ
 |.neg a=>(r.ev a Y g).bind λx g=>match x with
  |.int i=>.ok (.int (-i)) g
  |_=>.ZZ
 |.Z1 es=>(Jl r.ev es Y g).bind λO g=>if O.length<=Ag then .ok (.Z1 O) g else .ZZ
 |.S es=>(Jl r.ev es Y g).bind λO g=>if O.length<=Ag then alloc (.S O) g else .ZZ
 |.idx a b=>(r.ev a Y g).bind λx g=>(r.ev b Y g).bind λy g=>match y with
  |.int i=>match items x g with
   |some xs=>lift (Je xs i) g
   |none=>.ZZ
  |.Z1 _=>lift ((Al y x g).bind id) g
  |.str k=>lift ((I9 x g).bind λZ4=>A1 Z4 k) g
  |_=>.ZZ
 |.XU a lo hi=>(r.ev a Y g).bind λx g=>(Jm r.ev lo Y g).bind λl g=>(Jm r.ev hi Y g).bind λh g=>match x with
  |.Z1 xs=>if HT.sIx xs.length 0 l=0/\HT.sIx xs.length xs.length h=xs.length then .ZZ else .ok (.Z1 (Bc xs l h)) g
  |.Zm xs=>alloc (.S (Bc xs l h)) g
  |.ref n=>match g[n]? with
   |some (.S xs)=>alloc (.S (Bc xs l h)) g
   |_=>.ZZ
  |_=>.ZZ
 |.rev a=>(r.ev a Y g).bind λx g=>match x with
  |.ref n=>match g[n]? with
   |some (.S xs)=>alloc (.S xs.reverse) g
   |_=>.ZZ
  |_=>.ZZ
 |.call f es=>(Jl r.ev es Y g).Yw.bind λO g=>C f O g
 |.fld a j cs=>(r.ev a Y g).bind λx g=>lift ((AO x g).bind (BD j cs)) g
 |.make c f es ks pm=>(Jl r.ev es Y g).Yw.bind λO g=>(Jl r.ev ks Y g).Yw.bind λws g=>if O.length=es.length/\ws.length=ks.length then
   (C f (perm (.ref g.length::O++ws) pm) (g++[.ins c []])).bind λu g'=>if AE u then .ok (.ref g.length) g' else .ZZ else .ZZ
 |.Zg a j tb es ks=>(r.ev a Y g).Yw.bind λx g=>match(AO x g).bind (BB j tb)with
  |some p=>(Jl r.ev es Y g).Yw.bind λO g=>(Jl r.ev ks Y g).Yw.bind λws g=>if O.length=es.length/\ws.length=ks.length then C p.1 (perm (x::O++ws) p.2) g else .ZZ
  |none=>.ZZ
 |.Wd c o=>(r.ev o Y g).bind λx g=>match Jk x g with
  |some n=>BE c n g
  |none=>.ZZ
 |.bi b es=>(Jl r.ev es Y g).bind λO g=>Jj b O g
 |.YR a t=>(r.ev a Y g).bind λx g=>match AI t x g with
  |some c=>.ok (.bl c) g
  |none=>.ZZ
 |.app o v=>(r.ev o Y g).bind λx g=>match Jk x g with
  |some n=>(r.ev v Y g).bind λy g=>A9 n y g
  |none=>.ZZ
 |.ext o v=>(r.ev o Y g).bind λx g=>match Jk x g with
  |some n=>(r.ev v Y g).bind λy g=>Bq n y g
  |none=>.ZZ
 |.pop o=>(r.ev o Y g).bind λx g=>match Jk x g with
  |some n=>Bn n g
  |none=>.ZZ
 |.YM _=>.ZZ
 |.Yn _ _=>.ZZ
 |.YY _=>.ZZ
 |.zip _ _=>.ZZ
 |.XT=>alloc (.ZV []) g
 |.comp own fr gs elt=>match gs with
  |[]=>.ZZ
  |(t,it,cs)::ZQ=>(Jo r it Y g).bind λi g=>
    (r.cm i 0 t cs ZQ elt [] (List.replicate own none++fr.map λj=>(Y[j]?).getD none) g).bindB λO g=>
     if O.length<=Ag then alloc (.S O) g else .ZZ
 |.Wc ks es=>(Jl r.ev es Y g).bind λO g=>alloc (.dst (ks.zip O)) g
 |.Xd o k x=>(r.ev o Y g).bind λd g=>match Ja d g with
  |some _=>(r.ev k Y g).bind λy g=>(r.ev x Y g).bind λz g=>match Al y d g with
   |some w=>.ok (w.getD z) g
   |none=>.ZZ
  |none=>.ZZ
 |.pair k v=>(r.ev k Y g).bind λx g=>(r.ev v Y g).bind λy g=>match keyOf x with
  |some _=>.ok (.Z1 [x,y]) g
  |none=>.ZZ
 |.X6 own fr gs k v=>match gs with
  |[]=>.ZZ
  |(t,it,cs)::ZQ=>(Jo r it Y g).bind λi g=>
    (r.cm i 0 t cs ZQ (.pair k v) [] (List.replicate own none++fr.map λj=>(Y[j]?).getD none) g).bindB λO g=>match dfold O []with
     |some Z4=>alloc (.ZV Z4) g
     |none=>.ZZ
def Jq(r:Z7)(e:E)(Y:Su)(g:G):Out Bool:=match e with
 |.and a b=>(r.ts a Y g).bind λc g=>if c then r.ts b Y g else .ok false g
 |.or a b=>(r.ts a Y g).bind λc g=>if c then .ok true g else r.ts b Y g
 |.not a=>(r.ts a Y g).bind λc g=>.ok (!c) g
 |e=>(r.ev e Y g).bind λx g=>lift (Jd x g) g
def Dx(n:Nat)(k:Int)(u:U)(Y:Su)(g:G):Out Fl:=match g[n]? with
 |some (.S xs)=>match L2.ixN xs.length k with
  |some j=>.ok (.nx Y) (g.set n (.S (xs.set j u)))
  |none=>.ZZ
 |_=>.ZZ
def Ed(n:Nat)(O:List U)(u:U)(Y:Su)(g:G):Out Fl:=match g[n]? with
 |some (.ZV Z4)=>match intsOf O with
  |some k=>if Z4.length<Ag then .ok (.nx Y) (g.set n (.ZV (dput Z4 k u)))else .ZZ
  |none=>.ZZ
 |_=>.ZZ
def Ek(n:Nat)(k:Str)(u:U)(Y:Su)(g:G):Out Fl:=match g[n]? with
 |some (.dst Z4)=>if Z4.length<Ag then .ok (.nx Y) (g.set n (.dst (BS Z4 k u)))else .ZZ
 |_=>.ZZ
def subAt(x y u:U)(Y:Su)(g:G):Out Fl:=match x with
 |.ref n=>match y with
  |.int k=>Dx n k u Y g
  |.Z1 O=>Ed n O u Y g
  |.str k=>Ek n k u Y g
  |_=>.ZZ
 |_=>.ZZ
def BF(o:Option Z6):Bool:=match o with
 |some (.ZV _)=>true
 |_=>false
def BQ(o:Option Z6):Bool:=match o with
 |some (.Zu _)=>true
 |_=>false
def Bh(g g':G):G:=match(List.range g.length).find? λn=>BF g[n]? && BQ g'[n]? with
 |some n=>match g'[n]? with
  |some (.Zu Z4)=>g'.set n (.ZV Z4)
  |_=>g'
 |none=>g'
noncomputable def Out.Ws(o:Out Fl)(g:G):Out Fl:=match o with
 |.ok f g'=>match f with
  |.nx Y=>.ok (.nx Y) (Bh g g')
  |f=>.ok f g'
 |o=>o
def Jr(r:Z7)(s:Z5)(Y:Su)(g:G):Out Fl:=match s with
 |.ret e=>(r.ev e Y g).bind λu g=>.ok (.rt u) g
 |.set t e=>(r.ev e Y g).bind λu g=>match Ah t (Jn t u g) Y with
   |some ZU=>.ok (.nx ZU) g
   |none=>.ZZ
 |.par i j a b=>(r.ev a Y g).bind λu g=>(r.ev b Y g).bind λw g=>
    if i<Y.length/\j<Y.length then .ok (.nx ((Y.set i (some u)).set j (some w))) g else .ZZ
 |.sub o i e=>(r.ev e Y g).bind λu g=>(r.ev o Y g).bind λx g=>(r.ev i Y g).bind λy g=>subAt x y u Y g
 |.exp e=>(r.ev e Y g).bind λ_ g=>.ok (.nx Y) g
 |.ZE c a b=>(r.ts c Y g).bind λk g=>if k then r.ex a Y g else r.ex b Y g
 |.VH c b=>r.wh c b Y g
 |.for t it b=>(Jo r it Y g).bind λi g=>r.fr t i 0 b Y g
 |.never=>.ZZ
 |.fset a j cs e=>(r.ev e Y g).bind λu g=>(r.ev a Y g).bind λx g=>match A8 x j cs u g with
  |some g'=>.ok (.nx Y) g'
  |none=>.ZZ
 |.VG b=>(r.ex b Y g).Ws g
def Js(r:Z7)(a:List Z5)(Y:Su)(g:G):Out Fl:=match a with
 |[]=>.ok (.nx Y) g
 |s::ZQ=>(Jr r s Y g).bind λf g=>match f with
  |.nx ZU=>r.ex ZQ ZU g
  |f=>.ok f g
def Jt(r:Z7)(c:E)(b:List Z5)(Y:Su)(g:G):Out Fl:=
 (r.ts c Y g).bind λk g=>if k then(r.ex b Y g).bind λf g=>match f with
  |.nx ZU=>r.wh c b ZU g
  |.ct ZU=>r.wh c b ZU g
  |.bk ZU=>.ok (.nx ZU) g
  |.rt u=>.ok (.rt u) g
 else .ok (.nx Y) g
def Ju(r:Z7)(t:Tg)(it:Iter)(i:Nat)(b:List Z5)(Y:Su)(g:G):Out Fl:=match next it i g with
 |none=>.ZZ
 |some none=>.ok (.nx Y) g
 |some (some u)=>match Ah t u Y with
  |none=>.ZZ
  |some a=>(r.ex b a g).bind λf g=>match f with
   |.nx ZU=>r.fr t it (i+1) b ZU g
   |.ct ZU=>r.fr t it (i+1) b ZU g
   |.bk ZU=>.ok (.nx ZU) g
   |.rt u=>.ok (.rt u) g
def Ay(f:E->Su->G->Out Bool):List E->Su->G->Out Bool
 |[],_,g=>.ok true g
 |c::cs,Y,g=>(f c Y g).bind λk g=>if k then Ay f cs Y g else .ok false g
def Jv(r:Z7)(it:Iter)(i:Nat)(t:Tg)(cs:List E)(c:List (Tg×E×List E))(a:E)(b:List U)(Y:Su)(g:G):Out (List U):=match next it i g with
 |none=>.ZZ
 |some none=>.ok b g
 |some (some u)=>if AF t Y then match Ah t u Y with
  |none=>.ZZ
  |some d=>(Ay r.ts cs d g).bindB λk g=>if k then
    match c with
    |[]=>(r.ev a d g).bindB λv g=>if b.length<Ag then r.cm it (i+1) t cs c a (b++[v]) Y g else .ZZ
    |(t2,YO,Yx)::f=>(Jo r YO d g).bindB λj g=>(r.cm j 0 t2 Yx f a b d g).bindB λe g=>r.cm it (i+1) t cs c a e Y g
   else r.cm it (i+1) t cs c a b Y g
  else .ZZ
def Jw(C:Nat->List U->G->Out U):Nat->Z7
 |0=>⟨λ_ _ _=>.ZZ,λ_ _ _=>.ZZ,λ_ _ _=>.ZZ,λ_ _ _ _=>.ZZ,λ_ _ _ _ _ _=>.ZZ,λ_ _ _ _ _ _ _ _ _=>.ZZ⟩
 |n+1=>let r:=Jw C n
  ⟨Jp C r,Jq r,Js r,Jt r,Ju r,Jv r⟩
def BJ(fu:Nat)(C:Nat->List U->G->Out U)(F:Fn)(O:List U)(g:G):Out U:=
 if O.length=F.np then
  ((Jw C fu).ex F.body (O.map some++List.replicate (F.ns-O.length) none) g).bind λf g=>match f with
   |.rt u=>.ok u g
   |.nx _=>.ok .ZN g
   |_=>.ZZ
 else .ZZ
def Ab(M:List Fn)(fu:Nat):Nat->Nat->List U->G->Out U
 |0=>λ_ _ _=>.ZZ
 |d+1=>λf O g=>match M[f]? with
  |some F=>BJ fu (Ab M fu d) F O g
  |none=>.ZZ
end
end
end PI
variable{g g':PI.G}{C:Nat->List PI.U->PI.G->PI.Out PI.U}{r:PI.Z7}{it:PI.Iter}{Q:PI.U->PI.G->Prop}{B:PI.Fl->Prop}{Z0:PI.Su}{QF:PI.Fl->PI.G->Prop}
namespace L2
open PySem PySem.Spec PyProof.Rows
section
variable{E:Value->Shared->Prop}
def aaw{d:Addr}{o:Obj}{f:Array DictEntry}{Q:Value->Shared->Prop}(j:(d==sysModules)=false)(a:s.heap.get? d=some o)(g:o.ExactDict)(c:o.data=.dict f ep)
  (h:Q (.ref s.heap.objs.size) {s with heap:=s.heap.push {cls:=.type "dict_keyiterator",data:=.fields #[.ref d,.int 0 0,.int f.size 0,.int ep 0]}}):wpAny (model prog w) A (pyIter (.ref d)) Q E s:=by
 have t:s.TypeIs (.ref d) "dict":=⟨o,a,g.1⟩;refine wpAny_pyIter_slot t F.slot_dict_iter (S_ F.slot_dict_iter t F.entry_dict_iter ?_ (F.args_dict_iter_1 _));unfold Builtin.«dict.__iter__»;refine ZB ?_;unfold Builtin.Dict.dictSlotNone;refine ZB (wpAny_notOrdered_dict t ?_);show wpAny _ _ (pure (Value.ref d)) _ _ s;refine ZP ?_;show wpAny _ _ (Builtin.Dict.showsAll d >>= _) _ _ s;unfold Builtin.Dict.showsAll;rw[j,Xp Hy];refine ZB (ZP (ZB (Sf a c (ZB (Qa a c ?_)))));exact ZB (V0 (ZP ⟨_,rfl,"dict_keyiterator",_,⟨_,HD _ rfl,rfl⟩,F.slot_dict_keyiterator_next.lookup,by simpa[rawInt]using h⟩))
def aaC{it d:Addr}{g:Obj}{c:Array DictEntry}{e:DictEntry}{Q:Option Value->Shared->Prop}(a:s.heap.IsKeyIter it d i c.size ep)(k:s.heap.get? d=some g)(r:g.data=.dict c ep)(j:c[i]?=some e)
  (h:∀h',h'.IsKeyIter it d (i+1) c.size ep->Heap.SameBut it s.heap h'->Q (some e.key) {s with heap:=h'}):wpAny (model prog w) A (pyNext (.ref it)) Q E s:=by
 let⟨o,ho,hc,f⟩:=id a;let⟨u,t⟩:=Array.getElem?_eq_some_iff.mp j;unfold pyNext;refine ZB (wpAny_attempt (SR (name:=Str.ofString "__next__") a.typeIs TX (S_ TX a.typeIs Rl ?_ (Rb _))));refine ZB (ZP ?_);refine ZB ?_;refine ZB ?_
 (first|refine ZB (Tc a.typeIs (ZP ?_))|refine ZB (Sh a.typeIs (ZP ?_)))
 refine ZB (wpAny_fieldsOf ho f ?_);rw[show Builtin.Dict_items.ownsTuple "dict_keyiterator" = false from by decide];rw[Xp Hy]
 show wpAny _ _ (if(Value.ref d==Value.none)=true then _ else _) _ _ s;rw[Xp (show ¬ ((Value.ref d==Value.none)=true)from Hy)]
 refine ZB (ZP (ZB (Sf k r ?_)));rw[Xp #[3]];refine ZB (ZP (ZB (Qa k r ?_)));rw[Xp #[3]];refine ZP ?_
 dsimp only;rw[Xp (show ¬ ((i:Int)<0)from by lia),Int.toNat_natCast,j];refine ZB ?_
 (first|refine ZB (Tc a.typeIs (ZP ?_))|refine ZB (Sh a.typeIs (ZP ?_)))
 refine ZB (wpAny_isOneOf_keyiter a.typeIs ?_);show wpAny _ _ (setField (.ref it) 1 (rawInt ((i:Int)+1)) >>= _) _ _ s;refine ZB (wpAny_setField ho f #[3] ?_)
 have n:(s.heap.update it (Obj.mapFields (·.setIfInBounds 1 (rawInt ((i:Int)+1))))).IsKeyIter it d (i+1) c.size ep:=⟨_,S4 _ ho (Obj.isFreed_of_fields (Obj.data_mapFields f _)),(Obj.cls_mapFields ..).trans hc,by rw[Obj.data_mapFields f];simp[rawInt]⟩
 refine ZB (T3 (ZB (wpAny_isOneOf_keyiter (s:={s with heap:=s.heap.update it (Obj.mapFields (·.setIfInBounds 1 (rawInt ((i:Int)+1))))}) n.typeIs ?_)));show wpAny _ _ (pure e.key) _ _ _
 exact ZP (ZP ⟨_,rfl,ZP (h _ n (Rq ..))⟩)
def aar{it d:Addr}{g:Obj}{f:Array DictEntry}{Q:Option Value->Shared->Prop}(u:A.handled=none)(c:s.heap.IsKeyIter it d i f.size ep)(k:s.heap.get? d=some g)(r:g.data=.dict f ep)(t:f[i]?=none)
  (h:∀h',Heap.ExtBut it s.heap h'->Q none {s with heap:=h'}):wpAny (model prog w) A (pyNext (.ref it)) Q E s:=by
 let⟨o,ho,hc,j⟩:=id c;unfold pyNext;refine ZB (wpAny_attempt (SR (name:=Str.ofString "__next__") c.typeIs TX (S_ TX c.typeIs Rl ?_ (Rb _))));refine ZB (ZP ?_);refine ZB ?_;refine ZB ?_
 (first|refine ZB (Tc c.typeIs (ZP ?_))|refine ZB (Sh c.typeIs (ZP ?_)))
 refine ZB (wpAny_fieldsOf ho j ?_);rw[show Builtin.Dict_items.ownsTuple "dict_keyiterator" = false from by decide];rw[Xp Hy]
 show wpAny _ _ (if(Value.ref d==Value.none)=true then _ else _) _ _ s;rw[Xp (show ¬ ((Value.ref d==Value.none)=true)from Hy)]
 refine ZB (ZP (ZB (Sf k r ?_)));rw[Xp #[3]];refine ZB (ZP (ZB (Qa k r ?_)));rw[Xp #[3]];refine ZP ?_
 dsimp only;rw[Xp (show ¬ ((i:Int)<0)from by lia),Int.toNat_natCast,t];refine ZB ?_
 (first|refine ZB (Tc c.typeIs (ZP ?_))|refine ZB (Sh c.typeIs (ZP ?_)))
 show wpAny _ _ (setField (.ref it) 0 .none >>= _) _ _ s;refine ZB (wpAny_setField ho j #[3] ?_);show wpAny _ _ (newExc (.type "StopIteration") [] >>= _) _ _ _
 refine ZB ?_;delta newExc newTuple;try dsimp only;refine ZB (V0 ?_ (by size_fits))
 refine ZB (m:=firstArgMember _ _) (wpAny_of_eq (a:=Value.none) (by first|rfl|(simp![firstArgMember];rfl)) (V0 ?_ (by size_fits)));delta raiseNew;try dsimp only
 refine ZB (wpAny_handled ?_);rw[show A.in1.handled=none from u];refine ZB (ZP (wpAny_throw ?_));exact ZB (wpAny_isInstance (T:="StopIteration") (b:=true) ⟨_,HD _ rfl,rfl⟩ isSubtype_stop (ZP (h _ (((Rq ..).extBut.push _).push _))))
end
def Itd(a:Addr)(o:Obj)(Z4:List (List Key×V)):It:=
 ⟨λi H=>H a=some (.Zs o (.dT Z4))/\i<Z4.length,λi H x H'=>H'=H /\∃b k v,x=.ref b/\Z4[i]?=some (k,v)/\H b=some (.Z1 (k.map Ie)),λi H=>H a=some (.Zs o (.dT Z4))/\Z4.length<=i⟩
def dtAt{Z4:List (List Key×V)}(z:ObjOk P w H h a (.dT Z4)):Z4.length<=sizeLine/\(a==sysModules)=false /\∃o es ep,h.get? a=some o/\o.ExactDict/\o.data=.dict es ep/\es.size=Z4.length /\
  ∀(i:Nat) (k:List Key) (v:V),Z4[i]?=some (k,v) ->∃(b:Addr) (e:DictEntry),es[i]?=some e/\e.key=.ref b/\H b=some (.Z1 (k.map Ie)):=by
 let⟨d,n,xs,c,o,es,ep,ho,m,t,f,_⟩:=z;have s:es.size=xs.length:=by rw[<-Va,f,Yj]
 refine⟨d,n,o,es,ep,ho,m,t,by rw[s,SK c],λi k v hk=>?_⟩
 have key:∀{Z4:List (List Key×V)} {xs:List (List Key×Addr×Value)},Paired (λ(p:List Key×V) (q:List Key×Addr×Value)=>p.1=q.1/\H q.2.1=some (.Z1 (p.1.map Ie))/\RelV p.2 q.2.2) Z4 xs ->∀(i:Nat) (k:List Key) (v:V),Z4[i]?=some (k,v) ->∃q:List Key×Addr×Value,xs[i]?=some q/\H q.2.1=some (.Z1 (k.map Ie)):=by
  intro Z4 xs c
  induction c with
  |nil=>intro i k v z;simp at z
  |cons h1 _ ih=>
   intro i k v z;cases i with
   |zero=>simp at z;subst z;exact⟨_,by simp,h1.2.1⟩
   |succ j=>let⟨q,l,g⟩:=ih j k v (by simpa using z);exact⟨q,by simpa using l,g⟩
 let⟨q,r,u⟩:=key c i k v hk;refine⟨q.2.1,entryOfKey (tupleKind (Az P w)) q,?_,rfl,u⟩;rw[<-S5,f,Y0,r];rfl
def l8{o:Obj}{Z4:List (List Key×V)}(f:HOk P w H h)(e:H a=some (.Zs o (.dT Z4))):h.get? a=some o/\o.ExactDict/\(a==sysModules)=false /\∃es ep,o.data=.dict es ep/\es.size=Z4.length /\
  ∀(i:Nat) (k:List Key) (v:V),Z4[i]?=some (k,v) ->∃(b:Addr) (c:DictEntry),es[i]?=some c/\c.key=.ref b/\H b=some (.Z1 (k.map Ie)):=by
 let⟨ho,z⟩:=f a _ e;let⟨_,g,o',es,ep,d,r⟩:=dtAt z;rw[ho]at d;cases d;exact⟨ho,r.1,g,es,ep,r.2⟩
def wZ(a it:Addr)(o:Obj)(Z4:List (List Key×V)):
  Turn P w K tg (Itd a o Z4) [it] it (λi h=>∃es ep,o.data=.dict es ep/\h.IsKeyIter it a i es.size ep) where
 mem:=by simp
 obj:=λi h st b f=>by
  have e:b=it:=by simpa using f
  let⟨_,_,_,q,U,_,d⟩:=st;subst e;exact⟨q,U,λv z=>by rw[d]at z;cases z⟩
 keep:=λi h h' ⟨es,ep,hd,st⟩ k=>⟨es,ep,hd,st.at λo e=>k it #[3] o e⟩
 item:=by
  intro X A t B hc i J s Y H E I r ⟨es,ep,hd,st⟩ ⟨M,N⟩;subst A t B;let⟨ho,O,_,ZF,W,j,Q,hk⟩:=l8 I.ZL M;rw[hd]at j;cases j;obtain⟨⟨k,v⟩,g⟩:∃p,Z4[i]?=some p:=⟨_,Ww N⟩;let⟨b,S,y,u,f⟩:=hk i k v g;let⟨L,G,R,F,D,C⟩:=r it #[3]
  refine aaC st ho hd y λh' Zb sb=>?_;have Z:Z2 X J Y H {s with heap:=h'}:=I.turned (t':=s.toks) (λb o f e=>(sb.2 b f).trans e) L G F D C
  let⟨q,e,c,d⟩:=id Zb;refine⟨S.key,rfl,e9 (s:={s with heap:=h'}) e c d #[1] ⟨.ref b,H,Z,?_,⟨rfl,b,k,v,rfl,g,f⟩,⟨es,ep,hd,Zb⟩,λb f=>(r b f).1⟩⟩
  rw[u];rfl
 done:=by
  intro X A t B hc i J s Y H E I r ⟨es,ep,hd,st⟩ ⟨M,N⟩;subst A t B;let⟨ho,O,_,ZF,W,j,Q,hk⟩:=l8 I.ZL M;rw[hd]at j;cases j;let⟨L,G,R,F,D,C⟩:=r it #[3]
  exact aar (I.ok.hd hc) st ho hd (Array.getElem?_eq_none (by lia)) λh' T=>⟨rfl,I.turned (t':=s.toks) (λb o f e=>T b o f e) L G F D C⟩
 self:=λ_ _ _ _ _ ⟨_,_,_,st⟩ h=>wpAny_pyIter_keyiter st h
def rIxD:R2:=λx y H Q=>∃a v,x=.ref a/\DGet H a y (some v)/\Q v H
def aaV{Y:St}{o:Option V}(I:Z2 X J Y H s)(g:DGet H a y o):s.TypeIs (.ref a) "dict":=by
 rcases g with⟨Z4,k,e,q⟩|⟨Z4,k,b,e,q⟩
 .exact let⟨_,_,_,_,dd⟩:=bT I.ZL e;dd.typeIs
 .exact let⟨_,_,_,_,dd⟩:=bU I.ZL e;dd.typeIs
def zR(f:X.A.units+1<cLine):IxR X rIxD:=by
 intro value slice J s Y H x y v u Q I d c ⟨a,z,e,g,q⟩ h;subst e;obtain rfl:v=Value.ref a:=d;have hT:=aaV I g;have b:wpAny (model X.prog X.w) X.A (subscripted slice false (.ref a) u) (λr s3=>wpAny (model X.prog X.w) X.A (letTemporaryGo value (.ref a) r >>= λ_=>pure r) (EP X J Y Q) X.xe s3) X.xe s:=by
  rw[h];exact wpAny_operating (w8 f I g c λk s3 j i=>ZB (wpAny_letTemporaryGo (ZP ⟨z,H,j,i,q⟩)))
 unfold subscriptTail;refine ZB ?_;rw[getitemInPython_of_ne hT.not_modules];refine ZB (Qb hT PySem.F.slot_dict_getitem.lookup ?_)
 (first|exact ZP (ZB b)|exact ZB (ZP (ZB b))|exact ZB b)
def Z2.freeze{Y:St}{Z4:List (List Key×V)}(I:Z2 X J Y H s)(e:H a=some (.dT Z4)):∃o,Z2 X J Y (upd H a (.Zs o (.dT Z4))) s:=by
 let⟨z,g,xs,d,o,es,ep,ho,f,h,i,nd⟩:=I.ZL a _ e;refine⟨o,I.write (x:=a) (e:=a) (h':=s.heap) (t':=s.toks) (by rw[e];trivial) (.inl rfl) (λ_ _ _ q=>q) ⟨o,ho⟩ ⟨ho,z,g,xs,KT.keeps (H:=H) d λc ys b=>?_,o,es,ep,ho,f,h,i,nd⟩⟩
 rw[af (cQ b e (λz=>nomatch z))];exact b
def uX{Y:St}{o:Obj}{Z4:List (List Key×V)}{R:It->Hp->Prop}{E:Value->Shared->Prop}(I:Z2 X J Y H s)(e:H a=some (.Zs o (.dT Z4)))(q:R (Itd a o Z4) H):
  wpAny (model X.prog X.w) X.A (pyIter (.ref a)) (PIE X J Y tg R) E s:=by
 let⟨ho,d,f,es,ep,c,h,hk⟩:=l8 I.ZL e;refine aaw f ho d c ⟨s.heap.objs.size,[s.heap.objs.size],_,_,H,rfl,I.kept (t':=s.toks) λb o e=>Hv _ e,wZ a _ o Z4,⟨es,ep,c,_,HD _ rfl,rfl,rfl⟩,λb g=>?_,q⟩;have e:b=s.heap.objs.size:=by simpa using g
 subst e;exact I.VB (Hz _) (I.ZL.fresh (Hz _))
def Ite(K:HF)(a:Addr):It:=
 ⟨λi H=>∃xs x,SqL K H a xs/\xs[i]?=some x,λi H x H'=>∃p v,H p=none/\x=.ref p/\H'=upd H p (.Z1 [.int i,v]) /\∀xs,SqL K H a xs->xs[i]?=some v,λi H=>∃xs,SqL K H a xs/\xs.length<=i⟩
def Z2.Ts{Y:St}{e it:Addr}(I:Z2 X J Y H s)(g:∀b o,b≠e->b≠it->s.heap.get? b=some o->h'.get? b=some o)(F:AH X J H e)(E:AH X J H it)
  (A:∃o,h'.get? e=some o) (y:∃o,h'.get? it=some o) (t:ObjOk X.prog X.w (upd H s.heap.objs.size (.Z1 vs)) h' s.heap.objs.size (.Z1 vs)):Z2 X J Y (upd H s.heap.objs.size (.Z1 vs)) {s with heap:=h',toks:=t'}:=by
 have fresh:H s.heap.objs.size=none:=I.ZL.fresh (Hz _);have a:∀b o,H b=some o->b≠s.heap.objs.size:=λb o q z=>by subst z;rw[fresh]at q;cases q
 have D:∀b o,H b=some o->b≠e/\b≠it:=λb o q=>⟨λz=>(by subst z;rw[F.1]at q;cases q),λz=>(by subst z;rw[E.1]at q;cases q)⟩
 refine I.Uj (ch:=[e,it]) rfl ⟨λb o q _ _ d=>?_,λb o q _ _ d=>?_,λb o q n _=>?_,λb o q _=>?_,λb xs q=>?_,λb o u q=>?_,λb ps q=>?_⟩ (λb u q=>?_) I.bare λb f=>?_
 .exact g b o (λz=>d (by simp[z])) (λz=>d (by simp[z])) q
 .exact ⟨o.slots,g b o (λz=>d (by simp[z])) (λz=>d (by simp[z])) q⟩
 .rw [af (HC (Hw q))];exact n
 .by_cases C:b=e
  .subst C;exact A
  .by_cases B:b=it
   .subst B;exact y
   .exact ⟨o,g b o C B q⟩
 .rw [af (a b _ q)];exact q
 .rw [af (a b _ q)];exact q
 .exact ⟨#[],by rw[af (a b _ q),Array.append_empty];exact q⟩
 .by_cases z:b=s.heap.objs.size
  .subst z;rw[upd_same]at q;cases q;exact t
  .rw [af z]at q
   refine(I.ZL b u q).Yz (λc v hc r=>?_) (λc r=>by rw[af (a c _ r)];exact r) λc xs r=>by rw[af (a c _ r)];exact r
   have k:∃o,H c=some o:=by rcases hc with rfl|hc<;>exact⟨_,by assumption⟩
   let⟨o,k⟩:=k;exact g c v (D c o k).1 (D c o k).2 r
 .have j:AH X J H b:=by
   rcases YG.mp f with rfl|f
   .exact F
   .rcases YG.mp f with rfl|f
    .exact E
    .cases f
  exact⟨j.2.2.2.1,j.2.1,j.2.2.2.2.1,j.2.2.2.2.2⟩
def xB{S:Pos}(a e it:Addr)(t:e≠it):
  Turn P w K (.Tuple elts x1 S) (Ite K a) [e,it] e (λi h=>(∃c,IsEnum h e it i c)/\h.IsListIter it a i) where
 mem:=by simp
 obj:=λi h st b g=>by
  let⟨⟨c,f⟩,o,hi,_,d⟩:=st;rcases YG.mp g with rfl|g
  .exact ⟨_,f,λv z=>by cases z⟩
  .obtain rfl:b=it:=by simpa using g
   exact⟨o,hi,λv z=>by rw[d]at z;cases z⟩
 keep:=λi h h' ⟨⟨c,f⟩,hi⟩ k=>⟨⟨c,k e #[3] _ f⟩,hi.at λo q=>k it #[3] o q⟩
 item:=by
  intro X M D N hc i J s Y H E I r ⟨⟨c,f⟩,hi⟩ ⟨xs,x,A,C⟩;subst M D N;let⟨ZY,B,p,U⟩:=I.list A;let⟨u,W,T⟩:=B.get C;have fe:=r e #[3]
  have fi:=r it #[3]
  refine wpAny_pyNext_enum_item f hi p.isList (x:=u) (by simpa using W) t λh' ho VZ hT Z hk=>⟨_,rfl,?_⟩
  have R:e<s.heap.objs.size:=Hw f;have G:it<s.heap.objs.size:=let⟨_,q,_⟩:=hi;Hw q
  refine wpAny_letOwnedTupleGo_enum ho λh2 y Y9=>?_;have O:Heap.SameBut e h' h2:=Y9;have L:h2.get? s.heap.objs.size=some {cls:=.type "tuple",data:=.seq #[.int i s.toks,u]}:=(O.2 _ (So R)).trans hT;have j:h2.IsListIter it a (i+1):=VZ.at λo q=>(O.2 it (Ne.symm t)).trans q;have F:∀b o,b≠e->b≠it->s.heap.get? b=some o->h2.get? b=some o:=λb o Q b2 q=>(O.2 b Q).trans (hk b o Q b2 q);have I2:Z2 X J Y (upd H s.heap.objs.size (.Z1 [.int i,x])) {s with heap:=h2,toks:=s.toks+1}:=I.Ts F fe fi ⟨_,y⟩ (let⟨o,q,_⟩:=j;⟨o,q⟩) ⟨(by show 2<=sizeLine;decide),[.int i s.toks,u],.cons ⟨_,rfl⟩ (.cons T .nil),⟨_,L,rfl,_,rfl⟩⟩
  refine⟨.ref s.heap.objs.size,_,I2,rfl,⟨s.heap.objs.size,x,I.ZL.fresh (Hz _),rfl,rfl,λys V=>by rw[I.Uw V A];exact C⟩,⟨⟨u,by simpa using y⟩,j⟩,λb g=>?_⟩
  have UX:b<s.heap.objs.size:=by
   rcases YG.mp g with rfl|g
   .exact R
   .obtain rfl:b=it:=by simpa using g
    exact G
  rw[af (HC UX)];exact(r b g).1
 done:=by
  intro X M D N hc i J s Y H E I r ⟨⟨c,f⟩,hi⟩ ⟨xs,A,C⟩;subst M D N;let⟨ZY,B,p,U⟩:=I.list A;let⟨f0,f1,f2,f3,f4,f5⟩:=r it #[3]
  have hl:=B.length;exact wpAny_pyNext_enum_end (I.ok.hd hc) f hi p.isList (by simp;omega) λh' eb=>⟨rfl,I.turned (t':=s.toks) (λb o g e=>eb b o g e) f0 f1 f3 f4 f5⟩
 self:=λ_ _ _ _ _ ⟨⟨_,f⟩,_⟩ h=>wpAny_pyIter_enum f h
def Hb(K:HF)(b:TA):TI:=λY H R=>b Y H λvs H1=>∃a,vs=[.ref a]/\(∃xs,SqL K H1 a xs)/\R (Ite K a) H1
def zK{l:Expr}{g:TA}{o:Pos}(B:Gl X "enumerate")(A:X.mg "enumerate" = none)(C:PA X [l] g)(y:starEach [l] X.env=[(false,eval l X.env)]):PI X (.Tuple elts x1 o) (.Call (.Name "enumerate" p) [l] [] pos) (Hb X.K g):=by
 intro J s Y H R I h;refine Call_ (bP I B A boot_enumerate (US (thn (C pos J s Y H _ I h) λO c ⟨vs,H1,d,t,u⟩=>?_) y rfl));let⟨a,rfl,⟨xs,z⟩,q⟩:=u;cases t with
 |cons r rr=>
  cases rr;cases r;let⟨ZY,E,pl,F⟩:=d.list z;refine call_enumerate_list pl.isList λh' j D w hk=>wpAny_pyIter_enum j ?_;refine⟨c.heap.objs.size+1,[c.heap.objs.size+1,c.heap.objs.size],_,_,H1,rfl,d.kept (t':=c.toks) hk,xB a _ _ #[3],⟨⟨_,j⟩,D⟩,λb f=>?_,q⟩
  have k:c.heap.objs.size<=b:=by
   rcases YG.mp f with rfl|f
   .exact VJ _
   .obtain rfl:b=c.heap.objs.size:=by simpa using f
    exact Hz _
  exact d.VB k (d.ZL.fresh k)
end L2
namespace L2
open PySem PySem.Spec PyProof.Rows
def Itz(K:HF)(a b:Addr):It:=
 ⟨λi H => ∃ xs ys x y,SqL K H a xs/\SqL K H b ys/\xs[i]? = some x/\ys[i]? = some y,λi H x H' => ∃ p v w,H p=none/\x=.ref p/\H'=upd H p (.Z1 [v,w])/\(∀ xs,SqL K H a xs->xs[i]? = some v) /\ ∀ ys,SqL K H b ys->ys[i]? = some w,
  λi H=>∃xs ys,SqL K H a xs/\SqL K H b ys/\(xs.length<=i\/ys.length<=i)⟩
def Z2.Tr{Y:St}{ch:List Addr}(I:Z2 X J Y H s)(d:∀b o,b ∉ ch->s.heap.get? b=some o->h'.get? b=some o)(a:∀b∈ch,AH X J H b):Z2 X J Y H {s with heap:=h',toks:=t'}:=by
 have g:∀b u,H b=some u->b ∉ ch:=λb u e z=>by rw[(a b z).1]at e;cases e
 refine I.step (g':=s.gens) (d':=s.drawn) (ch:=ch) (λb f=>?_) (λb o _ _ a e _=>d b o a e) (λb o _ _ a e _=>⟨o.slots,d b o a e⟩) (λ_ _ _ _ n=>n)
  (λb o a e=>⟨o,d b o a e⟩) (λ_ _ e=>e) (λ_ _ _ e=>e) (λb ps e=>⟨#[],by rw[e];simp⟩) (λm j=>?_) (λb u e=>?_) I.bare
 .exact ⟨(a b f).2.2.2.1,(a b f).2.1,(a b f).2.2.2.2.1,(a b f).2.2.2.2.2⟩
 .obtain ⟨o,es,ep,ho,r⟩:=j
  exact⟨o,es,ep,d _ o (λz=>(a _ z).2.1 rfl) ho,r⟩
 .refine (I.ZL b u e).Yz (λc v a q=>d c v ?_ q) (λ_ q=>q) λ_ _ q=>q
  rcases a with z|z
  .rw [z];exact g b u e
  .exact g c _ z
def Z2.Tq{Y:St}{ch:List Addr}(I:Z2 X J Y H s)(f:∀b o,b ∉ ch->s.heap.get? b=some o->h'.get? b=some o)(d:∀b∈ch,AH X J H b)
  (A:∀b∈ch,∃o,h'.get? b=some o) (k:ObjOk X.prog X.w (upd H s.heap.objs.size (.Z1 vs)) h' s.heap.objs.size (.Z1 vs)):Z2 X J Y (upd H s.heap.objs.size (.Z1 vs)) {s with heap:=h',toks:=t'}:=by
 have fresh:H s.heap.objs.size=none:=I.ZL.fresh (Hz _);have a:∀b o,H b=some o->b≠s.heap.objs.size:=λb o q z=>by subst z;rw[fresh]at q;cases q
 have y:∀b o,H b=some o->b ∉ ch:=λb o q z=>by rw[(d b z).1]at q;cases q
 refine I.Uj (ch:=ch) rfl ⟨λb o q _ _ j=>f b o j q,λb o q _ _ j=>⟨o.slots,f b o j q⟩,λb o q n _=>?_,λb o q _=>?_,λb xs q=>?_,λb o u q=>?_,λb ps q=>?_⟩ (λb u q=>?_) I.bare λb g=>?_
 .rw [af (HC (Hw q))];exact n
 .by_cases z:b∈ch
  .exact A b z
  .exact ⟨o,f b o z q⟩
 .rw [af (a b _ q)];exact q
 .rw [af (a b _ q)];exact q
 .exact ⟨#[],by rw[af (a b _ q),Array.append_empty];exact q⟩
 .by_cases z:b=s.heap.objs.size
  .subst z;rw[upd_same]at q;cases q;exact k
  .rw [af z]at q
   refine(I.ZL b u q).Yz (λc v d r=>?_) (λc r=>by rw[af (a c _ r)];exact r) λc xs r=>by rw[af (a c _ r)];exact r
   have t:∃o,H c=some o:=by rcases d with rfl|d<;>exact⟨_,by assumption⟩
   let⟨o,t⟩:=t;exact f c v (y c o t) r
 .exact ⟨(d b g).2.2.2.1,(d b g).2.1,(d b g).2.2.2.2.1,(d b g).2.2.2.2.2⟩
structure ZA(z TI TO i1 i2:Addr):Prop where
 TIz:TI≠z
 TOz:TO≠z
 i1z:i1≠z
 i2z:i2≠z
 TITO:TI≠TO
 TIi1:TI≠i1
 TIi2:TI≠i2
 TOi1:TO≠i1
 TOi2:TO≠i2
 i12:i1≠i2
def bg{c:Addr}{i:Array Value}{o:Obj}{T:String}(p:PlainL h a i)(d:h.get? c=some o)(b:o.cls=.type T)(f:T ≠ "list"):a≠c:=λe=>by
 subst e;let⟨o',n,g,c',_⟩:=p;rw[d]at g;cases g;rw[b]at c';cases c';exact f rfl
def qh{b z j d g f:Addr}{u v:Value}{xs ys:Array Value}(D:ZA z j d g f)(k:IsZip h z j d .none)(o:IsPair h d u v)(B:h.IsListIter g a i)(A:h.IsListIter f b i)(p:PlainL h a xs)(c:PlainL h b ys):ZipApart z j d g f a b:=by
 let⟨Ks,t,y,_⟩:=B;let⟨o2,r,w,_⟩:=A;exact⟨D.TIz,D.TOz,D.i1z,D.i2z,D.TITO,D.TIi1,D.TIi2,D.TOi1,D.TOi2,D.i12,bg p k rfl #[1],bg p o rfl #[1],bg p t y #[1],bg p r w #[1],bg c k rfl #[1],bg c o rfl #[1],bg c t y #[1],bg c r w #[1]⟩
def x8{tp:Pos}(a b z B A g f:Addr)(D:ZA z B A g f):
  Turn P w K (.Tuple elts x1 tp) (Itz K a b) [z,B,A,g,f] z (λi h=>IsZip h z B A .none/\IsPair h B (.ref g) (.ref f)/\(∃u v,IsPair h A u v)/\h.IsListIter g a i/\h.IsListIter f b i) where
 mem:=by simp
 obj:=λi h ⟨d,r,⟨u,v,j⟩,⟨Ks,e1,_,d1⟩,⟨o2,e2,_,J7⟩⟩ c hc=>by
  simp![YG,Xy,VD]at hc;rcases hc with rfl|rfl|rfl|rfl|rfl
  .exact ⟨_,d,λv z=>by cases z⟩
  .exact ⟨_,r,λv z=>by cases z⟩
  .exact ⟨_,j,λv z=>by cases z⟩
  .exact ⟨_,e1,λv z=>by rw[d1]at z;cases z⟩
  .exact ⟨_,e2,λv z=>by rw[J7]at z;cases z⟩
 keep:=λi h h' ⟨d,r,⟨u,v,j⟩,h1,h2⟩ k=>⟨k z #[3] _ d,k B #[3] _ r,⟨u,v,k A #[3] _ j⟩,h1.at λo q=>k g #[3] o q,h2.at λo q=>k f #[3] o q⟩
 item:=by
  intro X hP hw hK hc i J s Y H E I S ⟨d,r,⟨u,v,j⟩,h1,h2⟩ ⟨xs,ys,x,y,Q,O,hx,R⟩;subst hP hw hK;let⟨ZY,U,p,_⟩:=I.list Q;let⟨Z,Y6,C,_⟩:=I.list O;let⟨T,hu1,W⟩:=U.get hx;let⟨u2,hu2,V⟩:=Y6.get R;have DD:=qh D d j h1 h2 p C;refine wpAny_pyNext_zip_item DD d r j h1 h2 p.isList C.isList (x:=T) (y:=u2) (by simpa using hu1) (by simpa using hu2) λh' hz' hO' Yi Xr hT hsz hk=>⟨_,rfl,?_⟩
  have zs:z<s.heap.objs.size:=Hw d;refine wpAny_letOwnedTupleGo_zip hz' λt F WK=>?_;have G:Heap.SameBut z h' t:=WK;have up:∀c o,c≠z->h'.get? c=some o->t.get? c=some o:=λc o hc q=>(G.2 c hc).trans q;have L:∀c o,c ∉ [z,A,g,f]->s.heap.get? c=some o->t.get? c=some o:=λc o hc q=>by
   simp![YG,Xy,VD,Ry]at hc;exact up c o hc.1 (hk c o hc.1 hc.2.1 hc.2.2.1 hc.2.2.2 q)
  have M:=up _ _ D.TOz hO';have UU:t.IsListIter g a (i+1):=Yi.at λo q=>up _ o D.i1z q;have N:t.IsListIter f b (i+1):=Xr.at λo q=>up _ o D.i2z q;have hI3:IsPair t B (.ref g) (.ref f):=L _ _ (by simp[D.TIz,D.TITO,D.TIi1,D.TIi2]) r
  have hT3:IsPair t s.heap.objs.size T u2:=up _ _ (So zs) hT;have lt:∀c∈[z,B,A,g,f],c<s.heap.objs.size:=λc hc=>by
   simp![YG,Xy,VD]at hc;rcases hc with rfl|rfl|rfl|rfl|rfl
   .exact zs
   .exact Hw r
   .exact Hw j
   .exact let⟨_,q,_⟩:=h1;Hw q
   .exact let⟨_,q,_⟩:=h2;Hw q
  have I2:Z2 X J Y (upd H s.heap.objs.size (.Z1 [x,y])) { s with heap:=t,toks:=s.toks }:=I.Tq L (λc hc=>S c (by simp! [YG,Xy,VD] at hc ⊢;rcases hc with h | h | h | h <;> simp [h])) (λc hc=>by
   simp![YG,Xy,VD]at hc;rcases hc with rfl|rfl|rfl|rfl
   .exact ⟨_,F⟩
   .exact ⟨_,M⟩
   .exact let⟨o,q,_⟩:=UU;⟨o,q⟩
   .exact let⟨o,q,_⟩:=N;⟨o,q⟩) ⟨(by show 2<=sizeLine;decide),[T,u2],.cons W (.cons V .nil),⟨_,hT3,rfl,_,rfl⟩⟩
  refine⟨.ref s.heap.objs.size,_,I2,rfl,⟨s.heap.objs.size,x,y,I.ZL.fresh (Hz _),rfl,rfl,λzs R=>by rw[I.Uw R Q];exact hx,λzs d=>by rw[I.Uw d O];exact R⟩,⟨F,hI3,⟨_,_,M⟩,UU,N⟩,λc hc=>?_⟩
  rw[af (HC (lt c hc))];exact(S c hc).1
 done:=by
  intro X hP hw hK hc i J s Y H E I S ⟨d,r,⟨u,v,j⟩,h1,h2⟩ ⟨xs,ys,Q,O,hl⟩;subst hP hw hK;let⟨ZY,U,p,_⟩:=I.list Q;let⟨Z,Y6,C,_⟩:=I.list O;have DD:=qh D d j h1 h2 p C;have l1:=U.length;have l2:=Y6.length;refine wpAny_pyNext_zip_end (I.ok.hd hc) DD d r j h1 h2 p.isList C.isList (hl.imp (λh=>by simp;lia) λh=>by simp;lia) λh' hk=>⟨rfl,I.Tr (t':=s.toks) (ch:=[z,B,A,g,f]) (λc o hc e=>?_) S⟩
  simp![YG,Xy,VD,Ry]at hc;exact hk c o hc.1 hc.2.2.1 hc.2.2.2.1 hc.2.2.2.2 e
 self:=λ_ _ _ _ _ ⟨d,_⟩ h=>wpAny_pyIter_zip d h
def Jx(K:HF)(c:TA):TI:=λY H R=>c Y H λvs H1=>∃a b,vs=[.ref a,.ref b]/\(∃xs,SqL K H1 a xs)/\(∃ys,SqL K H1 b ys)/\R (Itz K a b) H1
def acf{l m:Expr}{j:TA}{o:Pos}(B:Gl X "zip")(A:X.mg "zip" = none)(C:PA X [l,m] j)(y:∀es,starEach (l::es) X.env=(false,eval l X.env)::starEach es X.env)(D:starEach [m] X.env=[(false,eval m X.env)]):PI X (.Tuple elts x1 o) (.Call (.Name "zip" p) [l,m] [] pos) (Jx X.K j):=by
 intro J s Y H R I h;refine Call_ (bP I B A boot_zip (US (thn (C pos J s Y H _ I h) λO d ⟨vs,H1,e,t,u⟩=>?_) (y _) (by rw[D];rfl)))
 let⟨a,b,rfl,⟨xs,z⟩,⟨ys,E⟩,q⟩:=u;cases t with
 |cons r rr=>
  cases rr with
  |cons r' rr=>
   cases rr;cases r;cases r';let⟨ZY,F,pl,G⟩:=e.list z;let⟨v,L,f,w⟩:=e.list E;refine call_zip_2 pl.isList f.isList λh' k i g h1 h2 x hk=>wpAny_pyIter_zip k ?_;refine⟨d.heap.objs.size+4,[d.heap.objs.size+4,d.heap.objs.size+2,d.heap.objs.size+3,d.heap.objs.size,d.heap.objs.size+1],_,_,H1,rfl,e.kept (t':=d.toks) hk,x8 a b _ _ _ _ _ ⟨by simp,by simp,by simp,by simp,by simp,by simp,by simp,by simp,by simp,by simp⟩,⟨k,i,⟨_,_,g⟩,h1,h2⟩,λc hc=>?_,q⟩
   have n:d.heap.objs.size<=c:=by
    simp![YG,Xy,VD]at hc;rcases hc with h|h|h|h|h<;>subst h<;>simp
   exact e.VB n (e.ZL.fresh n)
end L2
namespace PI
noncomputable section
variable{xs:List V}{o:HO}{p:Addr}{D:Ends}
open PySem PySem.Spec PyProof.Rows L2
def SqF(K:HF)(H:Hp)(a:Addr)(xs:List V):Prop:=
 (∃o,H a=some (.Zs o (.S xs))) \/
  ∃(o:Obj) (ZY:Array Value) (n:Nat),K.lookup a=some o/\o.cls=.type "list" /\ o.dict=none/\o.data=.seq ZY n/\ZY.size<=sizeLine/\ZH xs ZY.toList
def SqF.sq(h:SqF K H a xs):SqL K H a xs:=by
 rcases h with h|h
 .exact .inl (.inr h)
 .exact .inr h
def SqU(_:HF)(H:Hp)(a:Addr)(xs:List V):Prop:=H a=some (.Z1 xs)
def SqU.sq(h:SqU K H a xs):SqT K H a xs:=.of h
def SqC(K:HF)(a:Addr)(xs:List V):Prop:=
 ∃(o:Obj) (ZY:Array Value) (n:Nat),K.lookup a=some o/\o.cls=.type "tuple" /\ o.data=.seq ZY n/\ZY.size<=sizeLine/\ZH xs ZY.toList
def SqC.sq(h:SqC K a xs):SqT K H a xs:=.inr h
inductive RT(Z5:Addr->List V->Prop)(R:List V->Prop)(v:V):Prop
 |mk (a:Addr) (vs:List V) (e:v=.ref a) (s:Z5 a vs) (r:R vs)
inductive RC{α:Type}(p:α->Prop)(q:List α->Prop)(vs:List α):Prop
 |mk (v:α) (r:List α) (e:vs=v::r) (h:p v) (t:q r)
mutual
def RV(K:HF)(ρ:List Addr)(H:Hp):U->V->Prop
 |.ZN,v=>v=.ZN
 |.bl b,v=>v=.bl b
 |.int i,v=>v=.int i
 |.str s,v=>v=.str s
 |.Z1 O,v=>RT (SqU K H) (RVs K ρ H O) v
 |.Zm O,v=>RT (SqF K H) (RVs K ρ H O) v
 |.ref n,v=>∃a,v=.ref a/\ρ[n]?=some a
 |.xn _ O,v=>RT (SqC K) (RVs K ρ H O) v
def RVs(K:HF)(ρ:List Addr)(H:Hp):List U->List V->Prop
 |[],vs=>vs=[]
 |u::O,vs=>RC (RV K ρ H u) (RVs K ρ H O) vs
end
structure ZI(K:HF)(ρ:List Addr)(H:Hp)(ZT:List Addr)(H':Hp):Prop where
 ext:∀(n:Nat) (a:Addr),ρ[n]?=some a->ZT[n]?=some a
 new:∀(n:Nat) (a:Addr),ZT[n]?=some a->ρ[n]?=some a\/H a=none
 Yu:∀a o,H a=some o->a ∉ ρ->H' a=some o
 live:∀a,H a≠none->H' a≠none
 Z1:∀a xs,SqU K H a xs->SqU K H' a xs
 Zm:∀a xs,SqF K H a xs->SqF K H' a xs
 Zs:∀a o u,H a=some (.Zs o u)->H' a=some (.Zs o u)
section
variable{VF:List Addr}{Zd:Hp}
def ZI.refl:ZI K ρ H ρ H:=⟨λ_ _ h=>h,λ_ _ h=>.inl h,λ_ _ h _=>h,λ_ h=>h,λ_ _ h=>h,λ_ _ h=>h,λ_ _ _ h=>h⟩
def ZI.trans(a:ZI K ρ H ZT H')(b:ZI K ZT H' VF Zd):ZI K ρ H VF Zd where
 ext:=λn x h=>b.ext n x (a.ext n x h)
 new:=λn x h=>by
  rcases b.new n x h with q|q
  .exact a.new n x q
  .refine .inr ?_
   cases e:H x with
   |none=>rfl
   |some o=>exact absurd q (a.live x (by rw[e];simp))
 Yu:=λx o h hn=>b.Yu x o (a.Yu x o h hn) λhx=>by
  let⟨n,Zy⟩:=WV.mp hx;rcases a.new n x Zy with q|q
  .exact hn (WV.mpr ⟨n,q⟩)
  .rw [q]at h;cases h
 live:=λx h=>b.live x (a.live x h)
 Z1:=λx xs h=>b.Z1 x xs (a.Z1 x xs h)
 Zm:=λx xs h=>b.Zm x xs (a.Zm x xs h)
 Zs:=λx o u h=>b.Zs x o u (a.Zs x o u h)
mutual
def RV.mono(d:∀(n:Nat) (a:Addr),ρ[n]?=some a->ZT[n]?=some a)(b:∀a xs,SqU K H a xs->SqU K H' a xs)(c:∀a xs,SqF K H a xs->SqF K H' a xs):∀(u:U) (v:V),RV K ρ H u v->RV K ZT H' u v
 |.ZN,_,h=>h
 |.bl _,_,h=>h
 |.int _,_,h=>h
 |.str _,_,h=>h
 |.Z1 O,v,h=>by
  let⟨a,vs,e,h1,h2⟩:=h;exact⟨a,vs,e,b _ _ h1,RVs.mono d b c O vs h2⟩
 |.Zm O,v,h=>by
  let⟨a,vs,e,h1,h2⟩:=h;exact⟨a,vs,e,c _ _ h1,RVs.mono d b c O vs h2⟩
 |.ref n,v,h=>by
  let⟨a,e,h1⟩:=h;exact⟨a,e,d _ _ h1⟩
 |.xn _ O,v,h=>by
  let⟨a,vs,e,h1,h2⟩:=h;exact⟨a,vs,e,h1,RVs.mono d b c O vs h2⟩
def RVs.mono(d:∀(n:Nat) (a:Addr),ρ[n]?=some a->ZT[n]?=some a)(b:∀a xs,SqU K H a xs->SqU K H' a xs)(c:∀a xs,SqF K H a xs->SqF K H' a xs):∀(O:List U) (vs:List V),RVs K ρ H O vs->RVs K ZT H' O vs
 |[],_,h=>h
 |u::O,vs,h=>by
  let⟨v,r,e,h1,h2⟩:=h;exact⟨v,r,e,RV.mono d b c u v h1,RVs.mono d b c O r h2⟩
end
def RV.step(s:ZI K ρ H ZT H')(u:U)(v:V)(h:RV K ρ H u v):RV K ZT H' u v:=RV.mono s.ext s.Z1 s.Zm u v h
def RVs.step(s:ZI K ρ H ZT H')(O:List U)(vs:List V)(h:RVs K ρ H O vs):RVs K ZT H' O vs:=RVs.mono s.ext s.Z1 s.Zm O vs h
def RVs.length:∀{O:List U} {vs:List V},RVs K ρ H O vs->O.length=vs.length
 |[],_,h=>by cases h;rfl
 |_::O,_,h=>by
  let⟨v,r,rfl,_,h2⟩:=h;simp[RVs.length h2]
def RVs.get:∀{O:List U} {vs:List V} {i:Nat} {u:U},RVs K ρ H O vs->O[i]?=some u ->∃v,vs[i]?=some v/\RV K ρ H u v
 |[],_,_,_,_,e=>by simp at e
 |x::O,_,0,u,h,e=>by
  let⟨v,r,rfl,h1,_⟩:=h;simp at e;subst e;exact⟨v,by simp,h1⟩
 |x::O,_,i+1,u,h,e=>by
  let⟨v,r,rfl,_,h2⟩:=h;let⟨w,b,a⟩:=RVs.get (i:=i) (u:=u) h2 (by simpa using e)
  exact⟨w,by simpa using b,a⟩
def RVs.none_of(h:RVs K ρ H O vs)(e:O[i]?=none):vs[i]?=none:=by
 have h1:=h.length;have h2:O.length<=i:=W6.mp e;exact W6.mpr (by lia)
def RVs.append:∀{O ws:List U} {vs xs:List V},RVs K ρ H O vs->RVs K ρ H ws xs->RVs K ρ H (O++ws) (vs++xs)
 |[],_,_,_,h,q=>by cases h;exact q
 |u::O,_,_,_,h,q=>by
  let⟨v,r,rfl,h1,h2⟩:=h;exact⟨v,r++_,rfl,h1,RVs.append h2 q⟩
def RVs.one(h:RV K ρ H u v):RVs K ρ H [u] [v]:=⟨v,[],rfl,h,rfl⟩
def RVs.drop:∀{O:List U} {vs:List V} (n:Nat),RVs K ρ H O vs->RVs K ρ H (O.drop n) (vs.drop n)
 |_,_,0,h=>h
 |[],_,_+1,h=>by cases h;rfl
 |u::O,_,n+1,h=>by
  let⟨v,r,rfl,h1,h2⟩:=h;exact RVs.drop n h2
def RVs.take:∀{O:List U} {vs:List V} (n:Nat),RVs K ρ H O vs->RVs K ρ H (O.take n) (vs.take n)
 |_,_,0,h=>by simp[RVs]
 |[],_,_+1,h=>by cases h;rfl
 |u::O,_,n+1,h=>by
  let⟨v,r,rfl,h1,h2⟩:=h;exact⟨v,r.take n,rfl,h1,RVs.take n h2⟩
def RVs.set{u:U}{v:V}(q:RV K ρ H u v):∀{O:List U} {vs:List V} (i:Nat),RVs K ρ H O vs->RVs K ρ H (O.set i u) (vs.set i v)
 |[],_,_,h=>by cases h;rfl
 |x::O,_,0,h=>by
  let⟨w,r,rfl,_,h2⟩:=h;exact⟨v,r,rfl,q,h2⟩
 |x::O,_,i+1,h=>by
  let⟨w,r,rfl,h1,h2⟩:=h;exact⟨w,r.set i v,rfl,h1,RVs.set q i h2⟩
def RVs.reverse:∀{O:List U} {vs:List V},RVs K ρ H O vs->RVs K ρ H O.reverse vs.reverse
 |[],_,h=>by cases h;rfl
 |u::O,_,h=>by
  let⟨v,r,rfl,h1,h2⟩:=h;rw[Tu,Tu];exact RVs.append (RVs.reverse h2) (.one h1)
def RVs.dropLast{O:List U}{vs:List V}(h:RVs K ρ H O vs):RVs K ρ H O.dropLast vs.dropLast:=by
 rw[List.dropLast_eq_take,List.dropLast_eq_take,h.length];exact h.take _
def RD(K:HF)(ρ:List Addr)(H:Hp):List (List Int×U)->List (List Key×V)->Prop
 |[],ws=>ws=[]
 |(k,u)::r,ws=>∃v s,ws=(k.map Sum.inl,v)::s/\RV K ρ H u v/\RD K ρ H r s
def RD.mono(d:∀(n:Nat) (a:Addr),ρ[n]?=some a->ZT[n]?=some a)(b:∀a xs,SqU K H a xs->SqU K H' a xs)(c:∀a xs,SqF K H a xs->SqF K H' a xs):∀(O:List (List Int×U)) (vs:List (List Key×V)),RD K ρ H O vs->RD K ZT H' O vs
 |[],_,h=>h
 |(k,u)::O,vs,h=>by
  let⟨v,r,e,h1,h2⟩:=h;exact⟨v,r,e,RV.mono d b c u v h1,RD.mono d b c O r h2⟩
def RK(K:HF)(ρ:List Addr)(H:Hp):List (Str×U)->List (Key×V)->Prop
 |[],ws=>ws=[]
 |(k,u)::r,ws=>∃v s,ws=(Sum.inr k,v)::s/\RV K ρ H u v/\RK K ρ H r s
def RK.mono(d:∀(n:Nat) (a:Addr),ρ[n]?=some a->ZT[n]?=some a)(b:∀a xs,SqU K H a xs->SqU K H' a xs)(c:∀a xs,SqF K H a xs->SqF K H' a xs):∀(O:List (Str×U)) (vs:List (Key×V)),RK K ρ H O vs->RK K ZT H' O vs
 |[],_,h=>h
 |(k,u)::O,vs,h=>by
  let⟨v,r,e,h1,h2⟩:=h;exact⟨v,r,e,RV.mono d b c u v h1,RK.mono d b c O r h2⟩
def qQ:∀(f a b:Nat),a<128 ^ f->b<128 ^ f->dig f a=dig f b->a=b
 |0,a,b,h1,h2,_=>by simp at h1 h2;lia
 |f+1,a,b,h1,h2,e=>by
  rw[Nat.pow_succ]at h1 h2;simp![dig]at e;split at e
  .split at e
   .lia
   .cases e
  .split at e
   .cases e
   .have d:a % 128=b % 128:=(List.cons.inj e).1
    have c:=qQ f (a / 128) (b / 128) (by lia) (by lia) (List.cons.inj e).2
    lia
def ug{a b:Nat}(d:a<Ba)(c:b<Ba)(e:As a=As b):a=b:=qQ 64 a b d c (by have:=V2 (λs:Str=>s.cps.toList) e;simpa[As]using this)
def RF(K:HF)(ρ:List Addr)(H:Hp):List (Nat×U)->List (Str×V)->Prop
 |[],ws=>ws=[]
 |(j,u)::r,ws=>∃v s,ws=(As j,v)::s/\j<Ba/\RV K ρ H u v/\RF K ρ H r s
def RF.mono(d:∀(n:Nat) (a:Addr),ρ[n]?=some a->ZT[n]?=some a)(b:∀a xs,SqU K H a xs->SqU K H' a xs)(c:∀a xs,SqF K H a xs->SqF K H' a xs):∀(O:List (Nat×U)) (vs:List (Str×V)),RF K ρ H O vs->RF K ZT H' O vs
 |[],_,h=>h
 |(k,u)::O,vs,h=>by
  let⟨v,r,e,f,h1,h2⟩:=h;exact⟨v,r,e,f,RV.mono d b c u v h1,RF.mono d b c O r h2⟩
def RF.look{j:Nat}(a:j<Ba):∀{O:List (Nat×U)} {vs:List (Str×V)},RF K ρ H O vs->(O.lookup j=none/\vs.lookup (As j)=none) \/∃u v,O.lookup j=some u/\vs.lookup (As j)=some v/\RV K ρ H u v
 |[],_,h=>by cases h;exact .inl ⟨rfl,rfl⟩
 |(i,u)::O,_,h=>by
  let⟨v,r,rfl,b,h1,h2⟩:=h;rw[XN,XN];by_cases e:j=i
  .subst e
   rw[Sl,Sl];exact .inr ⟨u,v,rfl,rfl,h1⟩
  .have d:(j==i)=false:=beq_false_of_ne e
   have c:(As j==As i)=false:=beq_false_of_ne λz=>e (ug a b z);rw[d,c];exact RF.look a h2
def RF.put{j:Nat}{u:U}{v:V}(b:j<Ba)(a:RV K ρ H u v):∀{O:List (Nat×U)} {vs:List (Str×V)},RF K ρ H O vs->RF K ρ H (Ce j u O) (AG (As j) v vs)
 |[],_,h=>by cases h;exact⟨v,[],rfl,b,a,rfl⟩
 |(i,x)::O,_,h=>by
  let⟨w,r,rfl,c,h1,h2⟩:=h;unfold Ce AG;by_cases e:i=j
  .subst e
   rw[Xg rfl,Xg rfl];exact⟨v,r,rfl,c,a,h2⟩
  .rw [Xp e,Xp λz=>e (ug c b z)]
   exact⟨w,_,rfl,c,h1,RF.put b a h2⟩
def RF.length:∀{O:List (Nat×U)} {vs:List (Str×V)},RF K ρ H O vs->O.length=vs.length
 |[],_,h=>by cases h;rfl
 |(i,x)::O,_,h=>by
  let⟨w,r,rfl,a,h1,h2⟩:=h;simp[RF.length h2]
def RHO(K:HF)(ρ:List Addr)(H:Hp):Z6->HO->Prop
 |.S O,o=>∃vs,o=.S vs/\RVs K ρ H O vs
 |.ZV Z4,o=>∃ws,o=.dT ws/\RD K ρ H Z4 ws
 |.Zu Z4,o=>∃ob ws,o=.Zs ob (.dT ws)/\RD K ρ H Z4 ws
 |.dst Z4,o=>∃ws,o=.dK ws/\RK K ρ H Z4 ws
 |.ins c O,o=>∃C dx vs,o=.ins C dx vs/\PySem.W.nsIn K mainGlobals (As c)=some (some (.ref C))/\RF K ρ H O vs
def RO(K:HF)(ρ:List Addr)(H:Hp)(a:Addr)(o:Z6):Prop:=∃ho,H a=some ho/\RHO K ρ H o ho
def RHO.mono(f:∀(n:Nat) (a:Addr),ρ[n]?=some a->ZT[n]?=some a)(b:∀a xs,SqU K H a xs->SqU K H' a xs)(d:∀a xs,SqF K H a xs->SqF K H' a xs){o:Z6}{g:HO}(h:RHO K ρ H o g):RHO K ZT H' o g:=by
 cases o with
 |S O=>let⟨vs,e,r⟩:=h;exact⟨vs,e,RVs.mono f b d _ _ r⟩
 |ZV Z4=>let⟨ws,e,r⟩:=h;exact⟨ws,e,RD.mono f b d _ _ r⟩
 |Zu Z4=>let⟨ob,ws,e,r⟩:=h;exact⟨ob,ws,e,RD.mono f b d _ _ r⟩
 |dst Z4=>let⟨ws,e,r⟩:=h;exact⟨ws,e,RK.mono f b d _ _ r⟩
 |ins c O=>let⟨C,dx,vs,e,i,r⟩:=h;exact⟨C,dx,vs,e,i,RF.mono f b d _ _ r⟩
def RHO.step(s:ZI K ρ H ZT H'){o:Z6}{a:HO}(h:RHO K ρ H o a):RHO K ZT H' o a:=h.mono s.ext s.Z1 s.Zm
def RO.step(s:ZI K ρ H ZT H'){a:Addr}{o:Z6}(e:∀b,H a=some b->H' a=some b)(h:RO K ρ H a o):RO K ZT H' a o:=
 let⟨b,c,r⟩:=h;⟨b,e b c,r.step s⟩
structure RH(K:HF)(ρ:List Addr)(H:Hp)(g:G):Prop where
 len:ρ.length=g.length
 inj:∀(i j:Nat) (a:Addr),ρ[i]?=some a->ρ[j]?=some a->i=j
 obj:∀(n:Nat) (a:Addr) (o:Z6),ρ[n]?=some a->g[n]?=some o->RO K ρ H a o
def RH.at(h:RH K ρ H g){o:Z6}(e:g[n]?=some o):∃a,ρ[n]?=some a/\RO K ρ H a o:=by
 have c:n<g.length:=(Yh.mp e).1;have b:n<ρ.length:=by rw[h.len];exact c
 exact⟨ρ[n],Ww b,h.obj n ρ[n] _ (Ww b) e⟩
def RH.S(h:RH K ρ H g){n:Nat}{O:List U}(e:g[n]?=some (.S O)):∃a vs,ρ[n]?=some a/\H a=some (.S vs)/\RVs K ρ H O vs:=by
 let⟨a,h1,ho,h2,vs,rfl,b⟩:=h.at e;exact⟨a,vs,h1,h2,b⟩
def RH.ZV(h:RH K ρ H g){n:Nat}{Z4:List (List Int×U)}(e:g[n]?=some (.ZV Z4)):∃a ws,ρ[n]?=some a/\H a=some (.dT ws)/\RD K ρ H Z4 ws:=by
 let⟨a,h1,ho,h2,vs,rfl,b⟩:=h.at e;exact⟨a,vs,h1,h2,b⟩
def RH.Zu(h:RH K ρ H g){n:Nat}{Z4:List (List Int×U)}(e:g[n]?=some (.Zu Z4)):∃a b ws,ρ[n]?=some a/\H a=some (.Zs b (.dT ws))/\RD K ρ H Z4 ws:=by
 let⟨a,h1,ho,h2,b,vs,rfl,c⟩:=h.at e;exact⟨a,b,vs,h1,h2,c⟩
def RH.dst(h:RH K ρ H g){n:Nat}{Z4:List (Str×U)}(e:g[n]?=some (.dst Z4)):∃a ws,ρ[n]?=some a/\H a=some (.dK ws)/\RK K ρ H Z4 ws:=by
 let⟨a,h1,ho,h2,vs,rfl,b⟩:=h.at e;exact⟨a,vs,h1,h2,b⟩
def RH.ins(h:RH K ρ H g){n c:Nat}{b:List (Nat×U)}(e:g[n]?=some (.ins c b)):∃a C dx vs,ρ[n]?=some a/\H a=some (.ins C dx vs)/\PySem.W.nsIn K mainGlobals (As c)=some (some (.ref C))/\RF K ρ H b vs:=by
 let⟨a,h1,ho,h2,C,dx,vs,rfl,f,d⟩:=h.at e;exact⟨a,C,dx,vs,h1,h2,f,d⟩
def RH.there(h:RH K ρ H g)(e:ρ[n]?=some a):∃o,H a=some o:=by
 have b:n<ρ.length:=(Yh.mp e).1;have c:n<g.length:=by rw[<-h.len];exact b
 let⟨ho,h1,_⟩:=h.obj n a g[n] e (Ww c);exact⟨ho,h1⟩
def rp(h:SqU K H a xs)(b:a≠p):SqU K (upd H p o) a xs:=by
 unfold SqU;rw[af b];exact h
def zM(h:SqF K H a xs)(b:a≠p):SqF K (upd H p o) a xs:=by
 rcases h with⟨ob,h⟩|h
 .exact .inl ⟨ob,by rw[af b];exact h⟩
 .exact .inr h
def Bu:HO->Prop
 |.S _=>True
 |.dT _=>True
 |.dK _=>True
 |.ins _ _ _=>True
 |_=>False
def ba(h:SqU K H a xs)(c:H p=none \/∃b,H p=some b/\Bu b):SqU K (upd H p o) a xs:=
 rp h (by rintro rfl;rcases c with z|⟨ys,z,m⟩<;>· unfold SqU at h;rw[h]at z;cases z;try exact m)
def bc(h:SqF K H a xs)(c:H p=none \/∃b,H p=some b/\Bu b):SqF K (upd H p o) a xs:=by
 rcases h with⟨ob,h⟩|h
 .exact zM (.inl ⟨ob,h⟩) (by rintro rfl;rcases c with z|⟨ys,z,m⟩<;>· rw[h]at z;cases z;try exact m)
 .exact .inr h
def ZI.fresh(hp:H p=none):ZI K ρ H ρ (upd H p o) where
 ext:=λ_ _ h=>h
 new:=λ_ _ h=>.inl h
 Yu:=λa u h _=>by rw[af (aN h hp)];exact h
 live:=λa h=>by
  by_cases e:a=p
  .subst e;rw[upd_same];simp
  .rw [af e];exact h
 Z1:=λa xs h=>ba h (.inl hp)
 Zm:=λa xs h=>bc h (.inl hp)
 Zs:=λa ob u h=>by rw[af (aN h hp)];exact h
def RH.step_fresh(h:RH K ρ H g)(hp:H p=none):RH K ρ (upd H p o) g where
 len:=h.len
 inj:=h.inj
 obj:=λn a ob h1 h2=>(h.obj n a ob h1 h2).step (ZI.fresh hp) λho e=>by rw[af (aN e hp)];exact e
def ZI.alloc{ho:HO}(hp:H p=none):ZI K ρ H (ρ++[p]) (upd H p ho) where
 ext:=λn a h=>by rw[XD (Yh.mp h).1];exact h
 new:=λn a h=>by
  by_cases hn:n<ρ.length
  .rw [XD hn]at h;exact .inl h
  .rw [Xf (by lia)]at h
   have:a=p:=by
    cases hk:n-ρ.length with
    |zero=>rw[hk]at h;simpa using h.symm
    |succ k=>rw[hk]at h;simp at h
   subst this;exact .inr hp
 Yu:=λa u h _=>by rw[af (aN h hp)];exact h
 live:=(ZI.fresh (K:=K) (ρ:=ρ) hp).live
 Z1:=λa xs h=>ba h (.inl hp)
 Zm:=λa xs h=>bc h (.inl hp)
 Zs:=λa ob u h=>by rw[af (aN h hp)];exact h
def RH.Uq{ob:Z6}{ho:HO}(h:RH K ρ H g)(hp:H p=none)(r:RHO K ρ H ob ho):RH K (ρ++[p]) (upd H p ho) (g++[ob]) where
 len:=by simp[h.len]
 inj:=λi j a h1 h2=>by
  have key:∀k b,(ρ++[p])[k]?=some b->(k<ρ.length/\ρ[k]?=some b)\/(k=ρ.length/\b=p):=λk b e=>by
   by_cases hk:k<ρ.length
   .rw [XD hk]at e;exact .inl ⟨hk,e⟩
   .rw [Xf ()]at e
    cases hd:k-ρ.length with
    |zero=>rw[hd]at e;exact .inr ⟨by lia,by simpa using e.symm⟩
    |succ m=>rw[hd]at e;simp at e
  have noP:∀k,ρ[k]? ≠ some p:=λk e=>by
   let⟨o,ho⟩:=h.there e;rw[hp]at ho;cases ho
  rcases key i a h1 with⟨_,e1⟩|⟨e1,Y_⟩
  .rcases key j a h2 with⟨_,e2⟩|⟨e2,WJ⟩
   .exact h.inj i j a e1 e2
   .subst WJ;exact absurd e1 (noP i)
  .rcases key j a h2 with⟨_,e2⟩|⟨e2,WJ⟩
   .subst Y_;exact absurd e2 (noP j)
   .lia
 obj:=λn a o h1 h2=>by
  by_cases hn:n<ρ.length
  .rw [XD hn]at h1
   rw[XD (by rw[<-h.len];exact hn)]at h2
   exact(h.obj n a o h1 h2).step (ZI.alloc hp) λho e=>by rw[af (aN e hp)];exact e
  .have hl:=h.len
   rw[Xf (by lia)]at h1
   rw[Xf (by lia)]at h2
   rw[<-hl]at h2;cases hd:n-ρ.length with
   |zero=>
    rw[hd]at h1 h2;have e1:a=p:=by simpa using h1.symm
    have e2:o=ob:=by simpa using h2.symm
    subst e1;subst e2;exact⟨ho,upd_same,r.step (ZI.alloc hp)⟩
   |succ m=>rw[hd]at h1;simp at h1
def RH.alloc(h:RH K ρ H g)(a:H p=none)(r:RVs K ρ H O vs):RH K (ρ++[p]) (upd H p (.S vs)) (g++[.S O]):=h.Uq a ⟨vs,rfl,r⟩
def ZI.Yt{x y:HO}(hn:ρ[n]?=some a)(ha:H a=some x)(hm:Bu x):ZI K ρ H ρ (upd H a y) where
 ext:=λ_ _ h=>h
 new:=λ_ _ h=>.inl h
 Yu:=λb u h hb=>by
  have:b≠a:=λe=>hb (e ▸ WV.mpr ⟨n,hn⟩);rw[af this];exact h
 live:=λb h=>by
  by_cases e:b=a
  .subst e;rw[upd_same];simp
  .rw [af e];exact h
 Z1:=λb zs h=>ba h (.inr ⟨_,ha,hm⟩)
 Zm:=λb zs h=>bc h (.inr ⟨_,ha,hm⟩)
 Zs:=λb ob u h=>by rw[af (cQ h ha (by rintro rfl;exact hm))];exact h
def ZI.write{ys:List V}(b:ρ[n]?=some a)(c:H a=some (.S xs)):ZI K ρ H ρ (upd H a (.S ys)):=ZI.Yt b c trivial
def RH.Yt{n:Nat}{a:Addr}{x y:HO}{ob:Z6}(h:RH K ρ H g)(hn:ρ[n]?=some a)(ha:H a=some x)(hm:Bu x)(r:RHO K ρ H ob y):RH K ρ (upd H a y) (g.set n ob) where
 len:=by simp[h.len]
 inj:=h.inj
 obj:=λm b o h1 h2=>by
  by_cases e:m=n
  .subst e
   rw[hn]at h1;cases h1;rw[Ua (by rw[<-h.len];exact(Yh.mp hn).1)]at h2
   cases h2;exact⟨y,upd_same,r.step (ZI.Yt hn ha hm)⟩
  .rw [Xb (Ne.symm e)]at h2
   have ne:b≠a:=λz=>e (h.inj m n a (z ▸ h1) hn);exact(h.obj m b o h1 h2).step (ZI.Yt hn ha hm) λho e1=>by rw[af ne];exact e1
def RH.write{ys:List V}(h:RH K ρ H g)(b:ρ[n]?=some a)(c:H a=some (.S xs))(r:RVs K ρ H O ys):RH K ρ (upd H a (.S ys)) (g.set n (.S O)):=h.Yt b c trivial ⟨ys,rfl,r⟩
structure RS(K:HF)(ρ:List Addr)(H:Hp)(Z0:Su)(Y:L2.St):Prop where
 len:Z0.length=Y.length
 val:∀(i:Nat) (u:U),Z0[i]?=some (some u) ->∃v,Y[i]?=some (some v)/\RV K ρ H u v
def RS.step{a:Su}{Y:L2.St}(h:RS K ρ H a Y)(s:ZI K ρ H ZT H'):RS K ZT H' a Y:=
 ⟨h.len,λi u e=>let⟨v,b,r⟩:=h.val i u e;⟨v,b,RV.step s _ _ r⟩⟩
def RS.set{Z0:Su}{Y:L2.St}{i:Nat}{u:U}{v:V}(h:RS K ρ H Z0 Y)(r:RV K ρ H u v):RS K ρ H (Z0.set i (some u)) (Y.set i (some v)) where
 len:=by simp[h.len]
 val:=λj w e=>by
  by_cases hj:j=i
  .subst hj
   have hl:j<Z0.length:=by
    have:=(Yh.mp e).1;simpa using this
   rw[Ua hl]at e;cases e;exact⟨v,by rw[Ua (by rw[<-h.len];exact hl)],r⟩
  .rw [Xb (Ne.symm hj)]at e
   let⟨x,e1,e2⟩:=h.val j w e;exact⟨x,by rw[Xb (Ne.symm hj)];exact e1,e2⟩
end
abbrev XQ:=Nat->List V->Hp->Prop
section
variable(K:HF)(W:XQ)
def post{b a:Type}(R:List Addr->Hp->b->a->Prop)(o:Out b)(ρ:List Addr)(H:Hp)(Q:a->Hp->Prop):Prop:=match o with
 |.ok u g=>∀v ZT H',ZI K ρ H ZT H'->RH K ZT H' g->R ZT H' u v->Q v H'
 |.exc c fs g=>∀vs ZT H',ZI K ρ H ZT H'->RH K ZT H' g->RVs K ZT H' fs vs->W c vs H'
 |.ZZ=>False
def Jy(o:Out Fl)(ρ:List Addr)(H:Hp)(D:Ends):Prop:=match o with
 |.ok (.nx Z0) g=>∀Y ZT H',ZI K ρ H ZT H'->RH K ZT H' g->RS K ZT H' Z0 Y->D.nx Y H'
 |.ok (.bk Z0) g=>∀Y ZT H',ZI K ρ H ZT H'->RH K ZT H' g->RS K ZT H' Z0 Y->D.bk Y H'
 |.ok (.ct Z0) g=>∀Y ZT H',ZI K ρ H ZT H'->RH K ZT H' g->RS K ZT H' Z0 Y->D.ct Y H'
 |.ok (.rt u) g=>∀v ZT H',ZI K ρ H ZT H'->RH K ZT H' g->RV K ZT H' u v->D.rt v H'
 |.exc c fs g=>∀vs ZT H',ZI K ρ H ZT H'->RH K ZT H' g->RVs K ZT H' fs vs->W c vs H'
 |.ZZ=>False
abbrev Ys{α:Type}:List Addr->Hp->α->α->Prop:=λ_ _ a b=>a=b
inductive tR{α β:Type}(R:List Addr->Hp->α->β->Prop)(f:Su->G->Out α)(Y:L2.St)(H:Hp)(Q:β->Hp->Prop):Prop
 |mk (Z0:Su) (ρ:List Addr) (g:G) (hs:RS K ρ H Z0 Y) (hg:RH K ρ H g) (p:post K W R (f Z0 g) ρ H Q)
abbrev tE(f:Su->G->Out U):TE:=tR K W (RV K) f
abbrev tT(f:Su->G->Out Bool):TT:=tR K W Ys f
abbrev Yg(f:Su->G->Out (List U)):TA:=tR K W (RVs K) f
inductive PB{α β Wn Wm:Type}(R:List Addr->Hp->α->β->Prop)(R':List Addr->Hp->Wn->Wm->Prop)(ρ:List Addr)(H:Hp)(k:α->G->Out Wn)(Q:Wm->Hp->Prop)(v:β)(H1:Hp):Prop
 |mk (ZM:List Addr) (u:α) (g1:G) (s:ZI K ρ H ZM H1) (h:RH K ZM H1 g1) (r:R ZM H1 u v) (p:post K W R' (k u g1) ZM H1 Q)
inductive PC{α β:Type}(R:List Addr->Hp->α->β->Prop)(ρ:List Addr)(H:Hp)(k:α->G->Out Fl)(D:Ends)(v:β)(H1:Hp):Prop
 |mk (ZM:List Addr) (u:α) (g1:G) (s:ZI K ρ H ZM H1) (h:RH K ZM H1 g1) (r:R ZM H1 u v) (p:Jy K W (k u g1) ZM H1 D)
inductive Zq(f:Su->G->Out Fl)(D:Ends)(Y:L2.St)(H:Hp):Prop
 |mk (Z0:Su) (ρ:List Addr) (g:G) (hs:RS K ρ H Z0 Y) (hg:RH K ρ H g) (p:Jy K W (f Z0 g) ρ H D)
end
section
variable{W:XQ}{Wn Wm:Type}{R:List Addr->Hp->α->β->Prop}{R':List Addr->Hp->Wn->Wm->Prop}
def post.from{o:Out α}{Q:β->Hp->Prop}(h:post K W R o ρ H Q)(s:ZI K ρ H ZT H'):post K W R o ZT H' Q:=by
 cases o with
 |ok u g=>exactλv b H2 a=>h v b H2 (s.trans a)
 |exc c fs g=>exactλv b H2 a=>h v b H2 (s.trans a)
 |ZZ=>exact h
def Jy.from{o:Out Fl}(h:Jy K W o ρ H D)(s:ZI K ρ H ZT H'):Jy K W o ZT H' D:=by
 cases o with
 |ok f g=>cases f<;>exactλv b H2 a=>h v b H2 (s.trans a)
 |exc c fs g=>exactλv b H2 a=>h v b H2 (s.trans a)
 |ZZ=>exact h
def post.bind{o:Out α}{k:α->G->Out Wn}{Q:Wm->Hp->Prop}(h:post K W R' (o.bind k) ρ H Q):
  post K W R o ρ H (PB K W R R' ρ H k Q):=by
 cases o with
 |ok u g=>exactλv d H1 a h1 b=>⟨d,u,g,a,h1,b,post.from (o:=k u g) h a⟩
 |exc c fs g=>exact h
 |ZZ=>exact h
def Jy.bind{o:Out α}{k:α->G->Out Fl}{D:Ends}(h:Jy K W (o.bind k) ρ H D):
  post K W R o ρ H (PC K W R ρ H k D):=by
 cases o with
 |ok u g=>exactλv d H1 a h1 b=>⟨d,u,g,a,h1,b,Jy.from (o:=k u g) h a⟩
 |exc c fs g=>exact h
 |ZZ=>exact h
def post.mono{o:Out α}{Q Q':β->Hp->Prop}(h:post K W R o ρ H Q)(q:∀v H1,Q v H1->Q' v H1):post K W R o ρ H Q':=by
 cases o with
 |ok u g=>exactλv d H1 a h1 b=>q _ _ (h v d H1 a h1 b)
 |exc c fs g=>exact h
 |ZZ=>exact h
def post.Ze{u:α}{v:β}{Q:β->Hp->Prop}(h:post K W R (.ok u g) ρ H Q)(a:RH K ρ H g)(r:R ρ H u v):Q v H:=h v ρ H .refl a r
def post.lift{o:Option α}{g:G}{Q:β->Hp->Prop}(h:post K W R (lift o g) ρ H Q):∃u,o=some u/\post K W R (.ok u g) ρ H Q:=by
 cases o with
 |none=>exact h.elim
 |some u=>exact⟨u,rfl,h⟩
end
def _root_.L2.PE.imp{t t':TE}(h:PE X e t)(q:∀Y H Q,t' Y H Q->t Y H Q):PE X e t':=λJ s Y H Q I h'=>h J s Y H Q I (q Y H Q h')
def _root_.L2.PT.imp{t t':TT}(h:PT X e t)(q:∀Y H Q,t' Y H Q->t Y H Q):PT X e t':=λJ s Y H Q I h'=>h J s Y H Q I (q Y H Q h')
def _root_.L2.PW.imp{t t':TT}(h:PW X e t)(q:∀Y H Q,t' Y H Q->t Y H Q):PW X e t':=λa J s Y H Q I h'=>h a J s Y H Q I (q Y H Q h')
def _root_.L2.PA.imp{e:List Expr}{t t':TA}(h:PA X e t)(q:∀Y H Q,t' Y H Q->t Y H Q):PA X e t':=λpos J s Y H Q I h'=>h pos J s Y H Q I (q Y H Q h')
variable{W:XQ}{f:Su->G->Out Fl}{w:U}{x:V}{v v':Value}{q:U->U->Option Bool}{n:Str}
def _root_.L2.PS.imp{e:Stmt}{t t':TS}(h:PS X e t)(q:∀D Y H,t' D Y H->t D Y H):PS X e t':=λJ s Y H Q I h'=>h J s Y H Q I (q Q Y H h')
def _root_.L2.PSs.imp{e:List Stmt}{t t':TS}(h:PSs X e t)(q:∀D Y H,t' D Y H->t D Y H):PSs X e t':=λJ s Y H Q I h'=>h J s Y H Q I (q Q Y H h')
def _root_.L2.PE.ZZ{X:Cx}{e:Expr}{K:HF}{W:XQ}{f:Su->G->Out U}(h:∀Y g,f Y g=.ZZ):PE X e (tE K W f):=λJ s Y H Q I ⟨Z0,ρ,g,_,_,p⟩=>by rw[h]at p;exact p.elim
def _root_.L2.PT.ZZ{X:Cx}{e:Expr}{K:HF}{W:XQ}{f:Su->G->Out Bool}(h:∀Y g,f Y g=.ZZ):PT X e (tT K W f):=λJ s Y H Q I ⟨Z0,ρ,g,_,_,p⟩=>by rw[h]at p;exact p.elim
def _root_.L2.PSs.ZZ{X:Cx}{e:List Stmt}{K:HF}{W:XQ}{f:Su->G->Out Fl}(h:∀Y g,f Y g=.ZZ):PSs X e (Zq K W f):=λJ s Y H Q I ⟨Z0,ρ,g,_,_,p⟩=>by rw[h]at p;exact p.elim
def _root_.L2.PS.ZZ{X:Cx}{e:Stmt}{K:HF}{W:XQ}{f:Su->G->Out Fl}(h:∀Y g,f Y g=.ZZ):PS X e (Zq K W f):=λJ s Y H Q I ⟨Z0,ρ,g,_,_,p⟩=>by rw[h]at p;exact p.elim
section
variable{W':XQ}
def bZ{b d:Type}{R:List Addr->Hp->α->β->Prop}{e:List Addr->Hp->b->d->Prop}{o:Out α}{k:α->G->Out b}{Q:d->Hp->Prop}(h:post K W e (o.Yw.bind k) ρ H Q):
  post K W' R o ρ H (PB K W R e ρ H k Q):=by
 cases o with
 |ok u g=>exactλv i H1 a h1 f=>⟨i,u,g,a,h1,f,post.from (o:=k u g) h a⟩
 |exc c fs g=>exact h.elim
 |ZZ=>exact h
end
section
def RV.flat(c:RV K ρ H u x)(a:RV K ρ H w y)(e:Aq u w=some b):C4 x=true/\C4 y=true/\IT x y=b:=by
 cases u<;>cases w<;>simp![Aq,YJ,reduceCtorEq]at e<;>(subst e;cases c;cases a;exact⟨rfl,rfl,rfl⟩)
def dQ:∀{O ws:List U} {vs:List V} {b:Bool},RVs K ρ H O vs->RVs K ρ H ws vs->Av O ws=some b->b=true
 |[],[],_,b,_,_,e=>by simpa[Av]using e.symm
 |[],_::_,_,b,_,_,e=>by simp[Av]at e
 |_::_,[],_,b,_,_,e=>by simp[Av]at e
 |u::O,w::ws,_,b,h1,h2,e=>by
  let⟨v,r,rfl,j,i⟩:=h1;let⟨v',r',e',h,g⟩:=h2;cases e';simp![Av]at e;cases a:Aq u w with
  |none=>simp[a]at e
  |some c=>
   cases f:Av O ws with
   |none=>simp[a,f]at e
   |some d=>
    simp![a,f,YJ]at e;subst e;rw[dQ i g f];have:c=true:=by
     cases u<;>cases w<;>simp![Aq,YJ,reduceCtorEq]at a<;>(subst a;cases j;cases h;try simp)
    simp[this]
def Jz:U->Bool
 |.ZN|.bl _|.int _|.str _=>true
 |_=>false
def rj{z:U}(e:Aq u z=some b):Jz u=true:=by
 cases u<;>first|rfl|(cases z<;>cases e)
def adu{a:U}{v:V}(c:RV K ρ H u v)(b:RV K ρ H a v)(e:Jz u=true)(d:Jz a=true):u=a:=by
 cases u<;>first|(cases e;done)|(cases c;cases a<;>first|(cases d;done)|(cases b<;>rfl))
def sR{a z c:U}{v:V}{h:Bool}(f:RV K ρ H u v)(d:RV K ρ H a v)(e:Aq u z=some b)(g:Aq a c=some h):u=a:=adu f d (rj e) (rj g)
def sh:∀{O f zs:List U} {vs:List V} {b b':Bool},RVs K ρ H O vs->RVs K ρ H f vs->Av O zs=some b->Av f zs=some b'->O=f
 |[],_,_,_,_,_,h1,h2,_,_=>by
  cases h1;have:=h2.length;simp at this;exact this.symm
 |_::_,_,[],_,_,_,_,_,e,_=>by simp[Av]at e
 |u::O,[],_,_,_,_,h1,h2,_,_=>by
  let⟨v,r,rfl,_,_⟩:=h1;cases h2
 |u::O,j::f,z::zs,_,b,b',h1,h2,e,e'=>by
  let⟨v,r,rfl,n,m⟩:=h1;let⟨v',r',q,l,k⟩:=h2;cases q;simp![Av]at e e';cases g:Aq u z with
  |none=>simp[g]at e
  |some c=>
   cases h:Av O zs with
   |none=>simp[g,h]at e
   |some d=>
    cases a:Aq j z with
    |none=>simp[a]at e'
    |some c'=>
     cases i:Av f zs with
     |none=>simp[a,i]at e'
     |some d'=>rw[sR n l g a,sh m k h i]
def dX(e:IX u w=some b):(∃O ws,u=.Z1 O/\w=.Z1 ws/\Av O ws=some b)\/Aq u w=some b:=by
 cases u<;>cases w<;>first|exact .inr e|exact .inl ⟨_,_,rfl,rfl,e⟩
end
section
variable{Y:L2.St}
def yY(g:RV K ρ H u x)(d:RV K ρ H w y)(f:RelV x v)(c:RelV y v')(e:Aq u w=some b):SeqAt.RcAt A s v v' b:=by
 cases u with
 |ZN=>
  cases g;cases f;cases w<;>simp![Aq,YJ,reduceCtorEq]at e
  .subst e;cases d;cases c;exact SeqAt.RcAt.none_none
  .subst e;cases d;cases c;exact SeqAt.RcAt.none_bool _
  .subst e;cases d;let⟨t',rfl⟩:=c;exact SeqAt.RcAt.none_int _ _
  .subst e;cases d;let⟨t',rfl⟩:=c;exact SeqAt.RcAt.none_str _ _
 |bl a=>
  cases g;cases f;cases w<;>simp![Aq,YJ,reduceCtorEq]at e
  .subst e;cases d;cases c;exact SeqAt.RcAt.bool_none _
  .subst e;cases d;cases c;exact SeqAt.RcAt.bool_bool _ _
  .subst e;cases d;let⟨t',rfl⟩:=c;exact SeqAt.RcAt.bool_int _ _ _
  .subst e;cases d;let⟨t',rfl⟩:=c;exact SeqAt.RcAt.bool_str _ _ _
 |int a=>
  cases g;let⟨t,rfl⟩:=f;cases w<;>simp![Aq,YJ,reduceCtorEq]at e
  .subst e;cases d;cases c;exact SeqAt.RcAt.int_none _ _
  .subst e;cases d;cases c;exact SeqAt.RcAt.int_bool _ _ _
  .subst e;cases d;let⟨t',rfl⟩:=c;exact SeqAt.RcAt.int_int _ _ _ _
  .subst e;cases d;let⟨t',rfl⟩:=c;exact SeqAt.RcAt.int_str _ _ _ _
 |str a=>
  cases g;let⟨t,rfl⟩:=f;cases w<;>simp![Aq,YJ,reduceCtorEq]at e
  .subst e;cases d;cases c;exact SeqAt.RcAt.str_none _ _
  .subst e;cases d;cases c;exact SeqAt.RcAt.str_bool _ _ _
  .subst e;cases d;let⟨t',rfl⟩:=c;exact SeqAt.RcAt.str_int _ _ _ _
  .subst e;cases d;let⟨t',rfl⟩:=c;exact SeqAt.RcAt.str_str _ _ _ _
 |_=>simp[Aq]at e
def pH{K:HF}{ρ:List Addr}:∀{O ws:List U} {xs ys:List V} {vs o:List Value} {b:Bool},RVs K ρ H O xs->RVs K ρ H ws ys->ZH xs vs->ZH ys o->Av O ws=some b ->
  ∃e:Nat->Bool,vs.length=o.length/\(∀j (h1:j<vs.length) (h2:j<o.length),SeqAt.EqAt A s vs[j] o[j] (e j))/\(List.range vs.length).all e=b
 |[],[],_,_,_,_,b,h1,h2,g,a,e=>by
  cases h1;cases h2;cases g;cases a;simp![Av,YJ]at e;subst e;exact⟨λ_=>true,rfl,λj h1=>absurd h1 #[3],rfl⟩
 |[],_::_,_,_,_,_,b,h1,h2,g,a,e=>by simp[Av]at e
 |_::_,[],_,_,_,_,b,h1,h2,g,a,e=>by simp[Av]at e
 |u::O,w::ws,_,_,_,_,b,h1,h2,g,a,e=>by
  let⟨x,xs,rfl,L,J⟩:=h1;let⟨y,ys,rfl,I,G⟩:=h2;cases g with
  |cons z g=>
  cases a with
  |cons t a=>
  simp![Av]at e;cases k:Aq u w with
  |none=>simp[k]at e
  |some c=>
   cases r:Av O ws with
   |none=>simp[k,r]at e
   |some d=>
    simp![k,r,YJ]at e;subst e;let⟨f,l,B,C⟩:=pH J G g a r;let⟨E,D,F⟩:=L.flat I k;refine⟨λj=>match j with|0=>c|j+1=>f j,by simp[l],λj h1 h2=>?_,?_⟩
    .cases j with
     |zero=>subst F;exact iB z t E D
     |succ j=>exact B j (by simpa using h1) (by simpa using h2)
    .subst C
     rw[XI,R6,SM,List.all_map]
     rfl
def u9(I:Z2 X J Y H s)(p:A.units<cLine)(i:RV X.K ρ H u x)(h:RV X.K ρ H w y)(g:RelV x v)(d:RelV y v')(e:IX u w=some b):SeqAt.RcAt A s v v' b:=by
 by_cases k:∃O ws,u=.Z1 O/\w=.Z1 ws
 .obtain ⟨O,ws,rfl,rfl⟩:=k
  let⟨a,xs,rfl,h1,h2⟩:=i;let⟨a',ys,rfl,z,t⟩:=h;cases g;cases d;let⟨ZY,n,o,_⟩:=I.tuple h1.sq;let⟨c,m,p2,_⟩:=I.tuple z.sq;let⟨f,l,q,r⟩:=pH (A:=A.in1) (s:=s) h2 t n m e;have:=SeqAt.RcAt.tuples (A:=A) (s:=s) (l:=a) (b:=a') (items:=ZY.toArray) (items2:=c.toArray) (e:=f) o p2 p (λj h1 h2=>by simpa using q j (by simpa using h1) (by simpa using h2))
  have B:((List.range (min ZY.toArray.size c.toArray.size)).all f&&ZY.toArray.size==c.toArray.size)=b:=by simp[<-l,r]
  rw[B]at this;exact this
 .have e':Aq u w=some b:=by
   cases u<;>cases w<;>first|exact e|exact absurd ⟨_,_,rfl,rfl⟩ k
  exact yY i h g d e'
def mL(I:Z2 X J Y H s)(j:A.units<cLine)(g:RV X.K ρ H u x)(f:RV X.K ρ H w y)(d:RelV x v)(c:RelV y v')(e:IX u w=some b):SeqAt.EqAt A s v v' b:=by
 by_cases h:∃O ws,u=.Z1 O/\w=.Z1 ws
 .have rc:=u9 I j g f d c e
  let⟨O,ws,rfl,rfl⟩:=h;let⟨a,xs,rfl,h1,h2⟩:=g;let⟨a',ys,rfl,l,k⟩:=f;cases d;cases c;by_cases i:a=a'
  .subst i
   obtain rfl:=I.U7 h1.sq l.sq;have:=dQ h2 k e;subst this;exact R_ _
  .exact SeqAt.EqAt.of_refs i rc
 .have e':Aq u w=some b:=by
   cases u<;>cases w<;>first|exact e|exact absurd ⟨_,_,rfl,rfl⟩ h
  let⟨n,m,o⟩:=g.flat f e';subst o;exact iB d c n m
def yD(I:Z2 X J Y H s)(d:RV X.K ρ H u y)(c:RV X.K ρ H w y)(e:IX u w=some b):b=true:=by
 rcases dX e with⟨O,ws,rfl,rfl,e⟩|e
 .obtain ⟨a,xs,rfl,h,t2⟩:=d
  let⟨a',ys,q,g,f⟩:=c;cases q;obtain rfl:=I.U7 h.sq g.sq;exact dQ t2 f e
 .have:=dQ (b:=b&&true) (RVs.one d) (RVs.one c) (by simp![Av,e])
  simpa using this
def d7{ρ:List Addr}{q:U->U->Option Bool}(m:∀u w x y v v' b,RV X.K ρ H u x->RV X.K ρ H w y->RelV x v->RelV y v'->q u w=some b->SeqAt.EqAt A s v v' b):∀{O ws:List U} {xs ys:List V} {ZY its':List Value} {b:Bool},RVs X.K ρ H O xs->RVs X.K ρ H ws ys->ZH xs ZY->ZH ys its'->qs q O ws=some b ->
  ∃f:Nat->Bool,ZY.length=its'.length/\(∀j (h1:j<ZY.length) (h2:j<its'.length),SeqAt.EqAt A s ZY[j] its'[j] (f j))/\(List.range ZY.length).all f=b
 |[],[],_,_,_,_,b,h1,h2,g,a,e=>by
  cases h1;cases h2;cases g;cases a;simp![qs,YJ]at e;subst e;exact⟨λ_=>true,rfl,λj h=>by simp at h,rfl⟩
 |[],_::_,_,_,_,_,_,_,_,_,_,e=>by simp[qs]at e
 |_::_,[],_,_,_,_,_,_,_,_,_,e=>by simp[qs]at e
 |u::O,w::ws,_,_,_,_,b,h1,h2,g,a,e=>by
  let⟨x,xs,rfl,C,B⟩:=h1;let⟨y,ys,rfl,z,t⟩:=h2;cases g with
  |cons o g=>
  cases a with
  |cons n a=>
  simp![qs]at e;cases i:q u w with
  |none=>simp[i]at e
  |some c=>
   cases k:qs q O ws with
   |none=>simp[i,k]at e
   |some d=>
    simp![i,k,YJ]at e;subst e;let⟨f,l,p,r⟩:=d7 m B t g a k;refine⟨λj=>match j with|0=>c|j+1=>f j,by simp[l],λj h1 h2=>?_,?_⟩
    .cases j with
     |zero=>exact m u w x y _ _ c C z o n i
     |succ j=>exact p j (by simpa using h1) (by simpa using h2)
    .subst r
     rw[XI,R6,SM,List.all_map]
     rfl
def rB{ρ:List Addr}{q:U->U->Option Bool}(g:∀u w y b,RV X.K ρ H u y->RV X.K ρ H w y->q u w=some b->b=true):∀{O ws:List U} {xs:List V} {b:Bool},RVs X.K ρ H O xs->RVs X.K ρ H ws xs->qs q O ws=some b->b=true
 |[],[],_,b,_,_,e=>by simpa[qs]using e.symm
 |[],_::_,_,_,_,_,e=>by simp[qs]at e
 |_::_,[],_,_,_,_,e=>by simp[qs]at e
 |u::O,w::ws,_,b,h1,h2,e=>by
  let⟨x,xs,rfl,k,j⟩:=h1;let⟨y,ys,z,i,h⟩:=h2;cases z;simp![qs]at e;cases a:q u w with
  |none=>simp[a]at e
  |some c=>
   cases f:qs q O ws with
   |none=>simp[a,f]at e
   |some d=>
    simp![a,f,YJ]at e;rw[<-e,g u w _ c k i a,rB g j h f]
    rfl
def aaX(I:Z2 X J Y H s)(C:A.units+1<cLine)(n:RV X.K ρ H u x)(m:RV X.K ρ H w y)(k:RelV x v)(i:RelV y v')(e:CL u w=some b):SeqAt.EqAt A s v v' b:=by
 by_cases o:∃O ws,u=.Z1 O/\w=.Z1 ws
 .obtain ⟨O,ws,rfl,rfl⟩:=o
  let⟨a,xs,rfl,h1,h2⟩:=n;let⟨a',ys,rfl,r,q⟩:=m;cases k;cases i;have e:qs IX O ws=some b:=e;by_cases p:a=a'
  .subst p
   obtain rfl:=I.U7 h1.sq r.sq;have:=rB (λu w y b g d h=>yD I g d h) h2 q e;subst this;exact R_ _
  .refine SeqAt.EqAt.of_refs p ?_
   let⟨ZY,g,B,_⟩:=I.tuple h1.sq;let⟨c,d,p2,_⟩:=I.tuple r.sq;let⟨f,l,D,E⟩:=d7 (A:=A.in1) (s:=s) (λu w x y v v' b g d h z t=>mL (A:=A.in1) I C g d h z t) h2 q g d e;have:=SeqAt.RcAt.tuples (A:=A) (s:=s) (l:=a) (b:=a') (items:=ZY.toArray) (items2:=c.toArray) (e:=f) B p2 (by lia) (λj h1 h2=>by simpa using D j (by simpa using h1) (by simpa using h2))
   have M:((List.range (min ZY.toArray.size c.toArray.size)).all f&&ZY.toArray.size==c.toArray.size)=b:=by simp[<-l,E]
   rw[M]at this;exact this
 .have e':Aq u w=some b:=by
   cases u<;>cases w<;>first|exact e|exact absurd ⟨_,_,rfl,rfl⟩ o
  let⟨G,F,L⟩:=n.flat m e';subst L;exact iB k i G F
end
section
inductive OpX(X:Cx)(f:U->U->G->Option Bool)(x y:V)(H:Hp)(Q:VK):Prop
 |mk (ρ:List Addr) (g:G) (u w:U) (b:Bool) (hg:RH X.K ρ H g) (r1:RV X.K ρ H u x) (r2:RV X.K ρ H w y) (e:f u w g=some b) (q:Q (.bl b) H)
def abJ(h:X.A.units<cLine):OpR X (compareOp .Eq) (OpX X λu w _=>IX u w):=by
 intro J s Y H x y v u Q I d c ⟨ρ,g,a,w,b,i,f,r2,e,q⟩;exact u9 I h f r2 d c e X.prog X.w X.xe _ ⟨.bl b,H,I,rfl,q⟩
def qy{x y:U}{p:List U×List U}(e:A2 x y g=some p):∃n m,x=.ref n/\y=.ref m/\g[n]?=some (.S p.1)/\g[m]?=some (.S p.2):=by
 unfold A2 at e;split at e
 .split at e
  .split at e
   .split at e
    .rename_i h1 _ _ h2
     cases e;exact⟨_,_,rfl,rfl,h1,h2⟩
    .cases e
   .cases e
  .cases e
 .cases e
def acd(K:X.A.units+2<cLine):OpR X (compareOp .Eq) (OpX X λu w g=>(A2 u w g).bind λp=>Jb p.1 p.2):=by
 intro J s Y H x y v u Q I C B ⟨ρ,g,a,w,b,o,D,r2,h,q⟩;let⟨p,h,e⟩:=Wr.mp h;let⟨n,m,rfl,rfl,g1,g2⟩:=qy h;let⟨V,vs,P,O,t⟩:=o.S g1;let⟨U,ws,N,J7,r⟩:=o.S g2;let⟨T,rfl,z⟩:=D;rw[P]at z;cases z;let⟨R,rfl,z⟩:=r2;rw[N]at z;cases z;cases C;cases B;let⟨ZY,d,i,_⟩:=I.list (.of O);let⟨k,c,p2,_⟩:=I.list (.of J7);unfold Jb at e;split at e
 case isFalse ZC=>
  cases e;refine SeqAt.eq_list_lengthsAt i.isList p2.isList ?_ (by lia) ⟨.bl false,H,I,rfl,q⟩
  rw[t.length,r.length,d.length,c.length]at ZC;simpa using ZC
 let⟨f,l,L,M⟩:=d7 (A:=X.A.in1) (s:=s) (λu w x y v v' b d c G F E=>aaX (A:=X.A.in1) I (by exact K) d c G F E) t r d c e
 refine SeqAt.eq_listAt (e:=f) i.isList p2.isList (by simp[l]) (by lia) (λj h1 h2=>by simpa using L j (by simpa using h1) (by simpa using h2)) ?_
 refine⟨.bl b,H,I,?_,q⟩;rw[<-M];simp![Xz]
 rfl
def cV(h:RH K ρ H g)(b:RV K ρ H u x)(e:items u g=some O):∃a vs,x=.ref a/\(SqL K H a vs\/SqT K H a vs)/\RVs K ρ H O vs:=by
 cases u with
 |Z1 xs=>let⟨a,vs,rfl,h1,h2⟩:=b;cases e;exact⟨a,vs,rfl,.inr h1.sq,h2⟩
 |Zm xs=>let⟨a,vs,rfl,h1,h2⟩:=b;cases e;exact⟨a,vs,rfl,.inl h1.sq,h2⟩
 |xn _ xs=>let⟨a,vs,rfl,h1,h2⟩:=b;cases e;exact⟨a,vs,rfl,.inr h1.sq,h2⟩
 |ref n=>
  let⟨a,rfl,c⟩:=b;simp![items]at e;cases eg:g[n]? with
  |none=>simp[eg]at e
  |some o=>
   cases o with
   |S xs=>
    simp![eg,YJ]at e;subst e;let⟨a',vs,h1,h2,d⟩:=h.S eg;rw[c]at h1;cases h1;exact⟨a,vs,rfl,.inl (.of h2),d⟩
   |ZV _=>simp[eg]at e
   |Zu _=>simp[eg]at e
   |dst _=>simp[eg]at e
   |ins _ _=>simp[eg]at e
 |_=>simp[items]at e
def zy{Y:L2.St}{d:U}{c j:Bool}(I:Z2 X J Y H s)(i:RV X.K ρ H w y)(h:RV X.K ρ H d y)(e:IX w u=some c)(b:IX d u=some j):c=j:=by
 have g:w=d:=by
  rcases dX e with⟨O,zs,rfl,rfl,e⟩|e
  .rcases dX b with⟨n,f,rfl,q,b⟩|b
   .cases q
    let⟨a,vs,rfl,m,t2⟩:=i;let⟨a',o,q,l,k⟩:=h;cases q;obtain rfl:=I.U7 m.sq l.sq;rw[sh t2 k e b]
   .cases d<;>simp[Aq]at b
  .rcases dX b with⟨n,f,rfl,rfl,b⟩|b
   .cases w<;>simp[Aq]at e
   .exact sR i h e b
 subst g;rw[e]at b;exact X9 b
def oi{a:Type}{e f:a->Bool}:∀{l:List a},(∀z∈l,e z=f z)->l.any e=l.any f
 |[],_=>rfl
 |x::l,h=>by rw[Wq,Wq,h x Wt,oi λz b=>h z (HA _ b)]
def cU{ρ:List Addr}{H:Hp}{J:List (Addr×Obj)}{Y:L2.St}{s:Shared}{A:Around}{u:U}{x:V}{v:Value}(I:Z2 X J Y H s)(B:A.units<cLine)(t:RV X.K ρ H u x)(r:RelV x v):
  ∀{O:List U} {vs:List V} {ZY:List Value} {b:Bool},RVs X.K ρ H O vs->ZH vs ZY->I8 u O=some b ->
   ∃e:Value->Bool,(∀y∈ZY,SeqAt.EqAt A s y v (e y))/\ZY.any e=b /\∀w y vy c,RV X.K ρ H w y->RelV y vy->vy∈ZY->IX w u=some c->e vy=c
 |[],_,_,b,h,q,e=>by
  cases h;cases q;simp![I8,YJ]at e;subst e;exact⟨λ_=>false,λy m=>by simp at m,rfl,λ_ _ _ _ _ _ n=>by simp at n⟩
 |w::O,_,_,b,h,q,e=>by
  let⟨y,ys,rfl,p,G⟩:=h;cases q with
  |cons k q=>
  rename_i vy ZY;simp![I8]at e;cases g:IX w u with
  |none=>simp[g]at e
  |some c=>
   cases o:I8 u O with
   |none=>simp[g,o]at e
   |some d=>
    simp![g,o,YJ]at e;subst e;let⟨f,E,F,hc⟩:=cU I B t r G q o;have m:SeqAt.EqAt A s vy v c:=mL I B p t k r g;have j:∀z∈ZY,(if z=vy then c else f z)=f z:=λz l=>by
     by_cases a:z=vy
     .subst a
      rw[Xg rfl];exact(hc w y _ c p k l g).symm
     .rw [Xp a]
    refine⟨λz=>if z=vy then c else f z,λz l=>?_,?_,λD C i c' h1 h2 n e'=>?_⟩
    .by_cases a:z=vy
     .subst a;simpa using m
     .rcases YG.mp l with h|h
      .exact absurd h a
      .simpa [a]using E z h
    .rw [Wq,oi j,F]
     simp
    .by_cases a:i=vy
     .subst a
      obtain rfl:=h2.inj k;simpa using(zy I p h1 g e')
     .rcases YG.mp n with h|h
      .exact absurd h a
      .simpa [a]using hc D C i c' h1 h2 h e'
def abK(n:X.A.units+1<cLine):OpR X (compareOp .In) (OpX X λu w g=>(items w g).bind (I8 u)):=by
 intro J s Y H x y v u Q I l o ⟨ρ,g,a,w,b,t,m,r2,k,q⟩;let⟨O,k,e⟩:=Wr.mp k;let⟨p,vs,rfl,c,rs⟩:=cV t r2 k;cases o;rcases c with c|c
 .obtain ⟨ZY,d,pl,r⟩:=I.list c
  let⟨f,i,j,_⟩:=cU (A:=X.A.in1) I (by exact n) m l rs d e
  exact SeqAt.in_listAt f pl.isList (λw h=>i w (by simpa using h)) ⟨.bl b,H,I,by rw[show ZY.toArray.any f=ZY.any f by simp,j];rfl,q⟩
 .obtain ⟨ZY,d,pl,r⟩:=I.tuple c
  let⟨f,i,j,_⟩:=cU (A:=X.A.in1) I (by exact n) m l rs d e
  exact SeqAt.in_tupleAt f pl (λw h=>i w (by simpa using h)) ⟨.bl b,H,I,by rw[show ZY.toArray.any f=ZY.any f by simp,j];rfl,q⟩
def aai(m:X.A.units+1<cLine):OpR X (compareOp .NotIn) (OpX X λu w g=>(items w g).bind λO=>(I8 u O).map (!·)):=by
 intro J s Y H x y v u Q I k n ⟨ρ,g,a,w,C,r,l,r2,B,q⟩;let⟨O,t,z⟩:=Wr.mp B;let⟨b,e,rfl⟩:=Ym.mp z;let⟨p,vs,rfl,c,rs⟩:=cV r r2 t;cases n;rcases c with c|c
 .obtain ⟨ZY,d,pl,o⟩:=I.list c
  let⟨f,i,j,_⟩:=cU (A:=X.A.in1) I (by exact m) l k rs d e
  exact SeqAt.notIn_listAt f pl.isList (λw h=>i w (by simpa using h)) ⟨.bl (!b),H,I,by rw[show ZY.toArray.any f=ZY.any f by simp,j];rfl,q⟩
 .obtain ⟨ZY,d,pl,o⟩:=I.tuple c
  let⟨f,i,j,_⟩:=cU (A:=X.A.in1) I (by exact m) l k rs d e
  exact SeqAt.notIn_tupleAt f pl (λw h=>i w (by simpa using h)) ⟨.bl (!b),H,I,by rw[show ZY.toArray.any f=ZY.any f by simp,j];rfl,q⟩
end
open PySem PySem.Spec PyProof.Rows L2 PySem.W
def dE{c a:Type}{Z8:Model}{h:Heap}{f:c->a->Sem (ForInStep a)}{g:a->c->a}(I:List c->a->Prop)(d:∀x r b,I (x::r) b->Looks Z8 h (f x b) (.yield (g b x))/\I r (g b x)):∀(l:List c) (b:a),I l b->Looks Z8 h (forIn l b f) (l.foldl g b)
 |[],b,_=>by rw[Qh];exact .now
 |x::l,b,hi=>by
  rw[SN];exact(d x l b hi).1.andThen (dE I d l _ (d x l b hi).2)
def AS(b:List (Str×Value))(x:Str×Value):List (Str×Value):=if(b.lookup x.1).isNone=true then b++[x]else b
def bf{a:Type}{n:Str}:∀{b c:List (Str×a)},(b++c).lookup n=match b.lookup n with|some v=>some v|none=>c.lookup n
 |[],c=>rfl
 |(m,v)::b,c=>by
  rw[Sm,XN,XN];cases n==m with
  |true=>rfl
  |false=>exact bf
def nQ{b:List (Str×Value)}{x:Str×Value}:(AS b x).lookup n=(b++[x]).lookup n:=by
 unfold AS;split
 .rfl
 .rename_i h
  rw[bf];cases e:b.lookup n with
  |some v=>rfl
  |none=>
   let⟨m,v⟩:=x;simp![XN,List.lookup_nil];cases q:n==m with
   |false=>rfl
   |true=>rw[eq_of_beq q]at e;rw[e]at h;exact absurd rfl h
def dC{n:Str}:∀{l b:List (Str×Value)},(l.foldl AS b).lookup n=(b++l).lookup n
 |[],b=>by simp
 |x::l,b=>by
  rw[Vo,dC,bf,nQ,<-bf,X0]
  rfl
def oP{a:Type}{n:Str}:∀{l:List (Str×a)},(l.map (·.1)).contains n=false->l.lookup n=none
 |[],_=>rfl
 |(m,v)::l,h=>by
  rw[Y3,Rz,Vk]at h;rw[XN,h.1];exact oP h.2
def fw{a:Type}{n:Str}:∀{l:List (Str×a)},(l.map (·.1)).contains n=true->(l.lookup n).isSome=true
 |[],h=>by cases h
 |(m,v)::l,h=>by
  rw[Y3,Rz,Ut]at h;rw[XN];cases q:n==m with
  |true=>rfl
  |false=>
   rcases h with h|h
   .rw [q]at h;cases h
   .exact fw h
def cW{a:Type}:∀{ns:List Str} {O:List a},(ns.zip O).map (·.1)=ns.take O.length
 |[],_=>by simp
 |_::_,[]=>by simp
 |n::ns,u::O=>by simp[cW (ns:=ns) (O:=O)]
def wu{K:Frag}{ns c:List Str}{O:List Value}{kw:List (Str×Value)}{f:Option (Array Value)}{kd:Str->Value}(X:K.In h)
  (L:fd.params.posonlyargs=[]) (J:fd.params.args.map (·.arg)=ns) (I:fd.params.vararg=none) (H:fd.params.kwonlyargs.map (·.arg)=c) (G:fd.params.kwarg=none)
  (F:Looks Z8 h (seqItems? fd.defaults) f) (o:(f.getD #[]).toList.length<=ns.length) (Y:O.length<=ns.length) (T:∀p∈kw,(ns.contains p.1||c.contains p.1)=true) (E:Cs (ns.take O.length) (kw.map (·.1))=true)
  (B:∀n∈ns.take (ns.length-(f.getD #[]).toList.length),(ns.take O.length++kw.map (·.1)).contains n=true)
  (C:∀n∈c,(ns.take O.length++kw.map (·.1)).contains n=false ->∃d,fd.kwdefaults=.ref d/\nsIn K d n=some (some (kd n))) :
  Looks Z8 h (bindArgs fd ⟨O,kw⟩) ((ns++c).filterMap λn=>((ns.zip O++(kw++((ns.drop (ns.length-(f.getD #[]).toList.length)).zip (f.getD #[]).toList++c.map λn=>(n,kd n)))).lookup n).map (n,·)):=by
 unfold bindArgs;simp![L,J,I,H,G,SG,Sx,Option.isSome_none,XZ,VC];have R:∀(l:List (Str×Value)) (b:List (Str×Value)×List (Str×Value)),l.foldl (λb x=>(b.1++[x],b.2)) b=(b.1++l,b.2):=by
  intro l
  induction l with
  |nil=>intro b;simp
  |cons x l ih=>intro b;rw[Vo,ih];simp
 refine Looks.andThen (a:=(ns.zip O++kw,[])) ?l1 ?W
 case l1=>
  have:=R kw (ns.zip O,[]);rw[<-this];refine dE (g:=λ(b:List (Str×Value)×List (Str×Value)) x=>(b.1++[x],b.2)) (λr b=>(∀p∈r,(ns.contains p.1||c.contains p.1)=true)/\Cs (b.1.map (·.1)) (r.map (·.1))=true) ?_ kw _ ⟨T,by rw[cW];exact E⟩
  rintro x r b ⟨t,j⟩;rw[Y3,Cs,Yk,WL]at j;refine⟨?_,λp A=>t p (HA _ A),by rw[Sy];exact j.2⟩
  rw[Xg (t x Wt),oP j.1];exact .now
 refine F.andThen ?_;have D : ¬ O.length > ns.length:=by lia
 generalize Z:(f.getD #[]).toList=ds at *;have Q:List.drop (ds.length-ns.length) ds=ds:=by rw[Nat.sub_eq_zero_of_le o,List.drop_zero]
 simp![Wj D,Qf,XZ,VC,Q];have P:List.filter (λn=>((ns.zip O++kw).lookup n).isNone) (ns.take (ns.length-ds.length))=[]:=by
  rw[SY];intro x y;have:=fw (l:=ns.zip O++kw) (n:=x) (by rw[Sy,cW];exact B x y)
  cases q:(ns.zip O++kw).lookup x with
  |none=>rw[q]at this;cases this
  |some v=>simp
 simp![P,SH,Rg,XZ,VC];have N:∀(l:List Str) (b:List (Str×Value)×List Str),l.foldl (λ(b:List (Str×Value)×List Str) n=>(AS b.1 (n,kd n),b.2)) b=((l.map λn=>(n,kd n)).foldl AS b.1,b.2):=by
  intro l
  induction l with
  |nil=>intro b;rfl
  |cons x l ih=>intro b;rw[Vo,ih];rfl
 refine Looks.andThen (a:=List.foldl AS (ns.zip O++kw) ((ns.drop (ns.length-ds.length)).zip ds)) ?w ?V
 case w=>
  refine dE (g:=AS) (λ_ _=>True) ?_ _ _ trivial;rintro x r b -;refine⟨?_,trivial⟩;unfold AS;split
  .exact .now
  .exact .now
 refine Looks.andThen (a:=((c.map λn=>(n,kd n)).foldl AS (List.foldl AS (ns.zip O++kw) ((ns.drop (ns.length-ds.length)).zip ds)),[])) ?u ?U
 case u=>
  have:=N c (List.foldl AS (ns.zip O++kw) ((ns.drop (ns.length-ds.length)).zip ds),[]);rw[<-this];refine dE (g:=λ(b:List (Str×Value)×List Str) n=>(AS b.1 (n,kd n),b.2)) (λr b=>∀n∈r,(b.1.lookup n).isNone=true ->∃d,fd.kwdefaults=.ref d/\nsIn K d n=some (some (kd n))) ?_ c _ ?_
  .intro x r b q
   refine⟨?_,λn k hi=>?_⟩
   .dsimp only [AS]
    split
    .rename_i hi
     let⟨d,S,J7⟩:=q x Wt hi;rw[S];exact(looks_nsIn X J7).andThen .now
    .exact .now
   .refine q n (HA _ k) ?_
    have:=nQ (n:=n) (b:=b.1) (x:=(x,kd x));dsimp only at hi;rw[this,bf]at hi;cases e:b.1.lookup n with
    |none=>rfl
    |some v=>rw[e]at hi;cases hi
  .intro n k hi
   refine C n k ?_;dsimp only at hi;rw[dC,bf]at hi;cases e:(ns.zip O++kw).lookup n with
   |some v=>rw[e]at hi;cases hi
   |none=>
    rw[Bool.eq_false_iff];intro z;have:=fw (l:=ns.zip O++kw) (n:=n) (by rw[Sy,cW];exact z)
    rw[e]at this;cases this
 simp![SH,Rg,XZ,VC];have M:∀n,(List.foldl AS (List.foldl AS (ns.zip O++kw) ((ns.drop (ns.length-ds.length)).zip ds)) (c.map λn=>(n,kd n))).lookup n=(ns.zip O++(kw++((ns.drop (ns.length-ds.length)).zip ds++c.map λn=>(n,kd n)))).lookup n:=λn=>by
  rw[dC,bf,dC,<-bf];simp![X0]
 simp![M];exact .now
inductive F2{α β:Type}(R:α->β->Prop):List α->List β->Prop
 |nil:F2 R [] []
 |cons {a:α} {b:β} {l:List α} {m:List β}:R a b->F2 R l m->F2 R (a::l) (b::m)
section
variable{R:α->β->Prop}
def PR(R:α->β->Prop)(p:Str×α)(q:Str×β):Prop:=p.1=q.1/\R p.2 q.2
def F2.zip{l:List α}{m:List β}(h:F2 R l m):∀ns:List Str,F2 (PR R) (ns.zip l) (ns.zip m):=by
 induction h with
 |nil=>intro ns;cases ns<;>exact .nil
 |cons r _ ih=>
  intro ns;cases ns with
  |nil=>exact .nil
  |cons n ns=>exact .cons ⟨rfl,r⟩ (ih ns)
def F2.append{l b:List α}{m a:List β}(h:F2 R l m)(h':F2 R b a):F2 R (l++b) (m++a):=by
 induction h with
 |nil=>exact h'
 |cons r _ ih=>exact .cons r ih
def F2.lookup{l:List (Str×α)}{m:List (Str×β)}(h:F2 (PR R) l m)(n:Str):(l.lookup n=none/\m.lookup n=none) \/∃a b,l.lookup n=some a/\m.lookup n=some b/\R a b:=by
 induction h with
 |nil=>exact .inl ⟨rfl,rfl⟩
 |@cons a b l m r _ ih=>
  let⟨c,a⟩:=a;let⟨d,b⟩:=b;let⟨e,r⟩:=r;dsimp only at e r;subst e;rw[XN,XN];cases q:n==c with
  |true=>exact .inr ⟨a,b,rfl,rfl,r⟩
  |false=>exact ih
def F2.filterMap{f:Str->Option α}{c:Str->Option β}(h:∀n,(f n=none/\c n=none) \/∃a b,f n=some a/\c n=some b/\R a b):∀ns:List Str,F2 R (ns.filterMap f) (ns.filterMap c)
 |[]=>.nil
 |n::ns=>by
  rw[Vu,Vu];rcases h n with⟨a,b⟩|⟨x,y,a,b,r⟩
  .rw [a,b];exact F2.filterMap h ns
  .rw [a,b];exact .cons r (F2.filterMap h ns)
end
variable{kw:List Str}{f:Value->Value->Sem Value}{v vy:V}{y:U}{Q:Value->Shared->Prop}{w:World}{m:Bool}{a':E}{r2:R2}{YV:Cp}{oo:Obj}
def dU{R:α->β->Prop}{ns:List Str}{dd:List (Str×α)}{d:List (Str×β)}{O b:List α}{c a:List β}(g:F2 (PR R) dd d)(f:F2 R O c)(e:F2 R b a):F2 R (place ns ks kw dd O b) (place ns ks kw d c a):=
 F2.filterMap (λn=>((f.zip ns).append ((e.zip kw).append g)).lookup n) _
def pJ{a:Type}{f:Str->Option a}:∀{ps:List Str},(ps.filterMap f).length=ps.length->(ps.filterMap λn=>(f n).map (n,·))=ps.zip (ps.filterMap f)
 |[],_=>rfl
 |n::ps,h=>by
  rw[Vu]at h ⊢;rw[Vu];cases e:f n with
  |none=>
   rw[e]at h;have:=List.length_filterMap_le f ps;simp![XI]at h;lia
  |some v=>
   rw[e]at h;simp![Wo,SO];rw[pJ (by simpa using h)]
def fB{O:List U}:∀{l pre post:List U},O=pre++(l++post)->F2 (λp u=>pick O p=u) ((List.range' pre.length l.length).map Sum.inl) l
 |[],_,_,_=>.nil
 |x::l,pre,post,e=>by
  rw[XI,List.range'_succ,Y3];refine .cons ?_ ?_
  .show O[pre.length]?.getD U.ZN=x
   rw[e,Sm,Xf (Hz _)];simp
  .have:=fB (l:=l) (pre:=pre++[x]) (post:=post) (O:=O) (by rw[e];simp)
   simpa using this
def oO{F:KF}{d:Nat}{a:List U}(f:O.length=d)(g:a.length=kw.length):perm (O++a) (Cf F d kw)=place F.ns F.ks kw F.dd O a:=by
 have c:∀{l:List (Nat ⊕ U)} {m:List U},F2 (λp u=>pick (O++a) p=u) l m->l.map (pick (O++a))=m:=λ{l m} h=>by
  induction h with
  |nil=>rfl
  |cons r _ ih=>rw[Y3,r,ih]
 refine c (dU ?_ ?_ ?_)
 .have:∀l:List (Str×U),F2 (PR λp u=>pick (O++a) p=u) (l.map λp=>(p.1,Sum.inr p.2)) l:=by
   intro l
   induction l with
   |nil=>exact .nil
   |cons x l ih=>exact .cons ⟨rfl,rfl⟩ ih
  exact this _
 .have:=fB (O:=O++a) (l:=O) (pre:=[]) (post:=a) #[3]
  rw[f]at this;exact this
 .have:=fB (O:=O++a) (l:=a) (pre:=O) (post:=[]) #[3]
  rw[f,g]at this;exact this
def F2.vals{O:List Value}(h:ZH vs O):F2 RelV vs O:=by
 induction h with
 |nil=>exact .nil
 |cons r _ ih=>exact .cons r ih
def F2.toVals{O:List Value}(h:F2 RelV vs O):ZH vs O:=by
 induction h with
 |nil=>exact .nil
 |cons r _ ih=>exact .cons r ih
def F2.UT{K:Frag}{ρ:List Addr}{H:Hp}:∀{O:List U} {vs:List V},RVs K ρ H O vs->F2 (RV K ρ H) O vs
 |[],_,h=>by cases h;exact .nil
 |u::O,_,h=>by let⟨v,r,rfl,h1,h2⟩:=h;exact .cons h1 (F2.UT h2)
def F2.TQ{K:Frag}(h:F2 (RV K ρ H) O vs):RVs K ρ H O vs:=by
 induction h with
 |nil=>rfl
 |cons r _ ih=>exact⟨_,_,rfl,r,ih⟩
structure Xq(K:Frag)(fd:FuncData)(F:KF)(nd:Nat)(Zl:List (Str×V))(dd:List (Str×Value)):Prop where
 h1:fd.params.posonlyargs=[]
 h2:fd.params.args.map (·.arg)=F.ns
 h3:fd.params.vararg=none
 h4:fd.params.kwonlyargs.map (·.arg)=F.ks
 h5:fd.params.kwarg=none
 ds:∃(XS:List Value) (kd:Str->Value),(∀(Z8:Model) (h:Heap),K.In h ->∃od:Option (Array Value),(od.getD #[]).toList=XS/\Looks Z8 h (seqItems? fd.defaults) od)/\XS.length=nd/\nd<=F.ns.length /\
  (∀n∈F.ks,∃d,fd.kwdefaults=.ref d/\nsIn K d n=some (some (kd n)))/\dd=(F.ns.drop (F.ns.length-nd)).zip XS++F.ks.map λn=>(n,kd n)
 rel:F2 (PR RelV) Zl dd
 urel:F2 (PR λu v=>∀ρ H,RV K ρ H u v) F.dd Zl
def Xq.binds{K:Frag}{F:KF}{h d:Nat}(a:Xq K fd F h Zl dd)(i:BX F h d kw=true)(w:F.ns++F.ks≠[]):
  U2 K fd (F.ns++F.ks) kw (λO ws=>if O.length=d/\ws.length=kw.length then place F.ns F.ks kw dd O ws else[]) (λvs zs=>if vs.length=d/\zs.length=kw.length then place F.ns F.ks kw Zl vs zs else[]):=by
 refine⟨λs O ws X f=>?_,λ{vs O zs ws} g r2=>?_⟩
 .split at f
  .rename_i hc
   let⟨c,j⟩:=hc;rw[Xg ⟨c,j⟩];simp![BX,Yk,Xh,XH]at i;let⟨⟨⟨l,k⟩,s3⟩,s4⟩:=i;let⟨z,kd,Z7,l1,r,o,m⟩:=a.ds;have e:(kw.zip ws).map (·.1)=kw:=by rw[cW,j,VU]
   intro Z8 A E Q q;let⟨y,Ks,x⟩:=Z7 Z8 s.heap X;have:=wu (Z8:=Z8) (O:=O) (kw:=kw.zip ws) (kd:=kd) X a.h1 a.h2 a.h3 a.h4 a.h5 x (by rw[Ks,l1];exact r) (by rw[c];exact l)
    (λp t=>by have:=k p.1 (by rw[<-e];exact List.mem_map_of_mem t);simpa using this) (by rw[c,e];exact s3) (λn b=>by rw[Ks,l1]at b;rw[c,e];exact s4 n b) (λn b _=>o n b)
   refine this.here ?_;rw[Ks,l1,<-m];rw[pJ (by exact f)]
   exact q
  .exact absurd (List.length_eq_zero_iff.mp f.symm) w
 .have v:=g.length
  have u:=r2.length;rw[v,u];split
  .exact (dU a.rel (.vals g) (.vals r2)).toVals
  .exact .nil
open PySem PySem.Spec PyProof.Rows L2
section
def bL{a b:List Int}:(a.map (Sum.inl:Int->Key)=b.map Sum.inl)↔a=b:=
 ⟨λh=>(List.map_inj_right (λx y e=>Sum.inl.inj e)).mp h,λh=>by rw[h]⟩
def RD.val(k:List Int):∀{Z4:List (List Int×U)} {ws:List (List Key×V)},RD K ρ H Z4 ws->(AK ws (k.map Sum.inl)).isSome=(Am Z4 k).isSome
 |[],_,h=>by cases h;rfl
 |(k',u)::r,_,h=>by
  let⟨v,s,rfl,h1,h2⟩:=h;by_cases e:k'=k
  .rw [cu (bL.mpr e)]
   simp[Am,W5,e]
  .rw [cB (λz=>e (bL.mp z)),RD.val k h2]
   simp[Am,W5,e]
def RD.got(k:List Int){u:U}:∀{Z4:List (List Int×U)} {ws:List (List Key×V)},RD K ρ H Z4 ws->Am Z4 k=some u ->∃v,AK ws (k.map Sum.inl)=some v/\RV K ρ H u v
 |[],_,h,e=>by cases e
 |(k',a)::r,_,h,e=>by
  let⟨v,s,rfl,h1,h2⟩:=h;by_cases z:k'=k
  .rw [cu (bL.mpr z)]
   simp[Am,W5,z]at e;subst e;exact⟨v,rfl,h1⟩
  .rw [cB (λy=>z (bL.mp y))]
   exact RD.got k h2 (by simpa[Am,W5,z]using e)
def RD.at:∀{Z4:List (List Int×U)} {ws:List (List Key×V)} {i:Nat} {k:List Int} {u:U},RD K ρ H Z4 ws->Z4[i]?=some (k,u) ->∃v,ws[i]?=some (k.map Sum.inl,v)/\RV K ρ H u v
 |[],_,_,_,_,_,e=>by simp at e
 |(k',a)::r,_,0,k,u,h,e=>by
  let⟨v,s,rfl,h1,h2⟩:=h;simp at e;let⟨rfl,rfl⟩:=e;exact⟨v,by simp,h1⟩
 |(k',a)::r,_,i+1,k,u,h,e=>by
  let⟨v,s,rfl,h1,h2⟩:=h;let⟨x,c,b⟩:=RD.at (i:=i) h2 (by simpa using e)
  exact⟨x,by simpa using c,b⟩
def RD.any(k:List Int):∀{Z4:List (List Int×U)} {ws:List (List Key×V)},RD K ρ H Z4 ws->(ws.any λa=>decide (a.1=k.map Sum.inl))=Z4.any λa=>decide (a.1=k)
 |[],_,h=>by cases h;rfl
 |(k',u)::r,_,h=>by
  let⟨v,s,rfl,h1,h2⟩:=h;rw[Wq,Wq,RD.any k h2];congr 1;exact decide_eq_decide.mpr bL
def RD.len:∀{Z4:List (List Int×U)} {ws:List (List Key×V)},RD K ρ H Z4 ws->Z4.length=ws.length
 |[],_,h=>by cases h;rfl
 |(k',u)::r,_,h=>by
  let⟨v,s,rfl,h1,h2⟩:=h;simp[RD.len h2]
def RD.snoc{k:List Int}{u:U}{v:V}(q:RV K ρ H u v):∀{Z4:List (List Int×U)} {ws:List (List Key×V)},RD K ρ H Z4 ws->RD K ρ H (Z4++[(k,u)]) (ws++[(k.map Sum.inl,v)])
 |[],_,h=>by cases h;exact⟨v,[],rfl,q,rfl⟩
 |(k',a)::r,_,h=>by
  let⟨w,s,rfl,h1,h2⟩:=h;exact⟨w,_,rfl,h1,RD.snoc q h2⟩
def RD.Xv{k:List Int}{u:U}{v:V}(q:RV K ρ H u v):∀{Z4:List (List Int×U)} {ws:List (List Key×V)},RD K ρ H Z4 ws ->
  RD K ρ H (Z4.map λa=>if a.1=k then(a.1,u)else a) (ws.map λa=>if a.1=k.map Sum.inl then(a.1,v)else a)
 |[],_,h=>by cases h;rfl
 |(k',b)::r,_,h=>by
  let⟨w,s,rfl,h1,h2⟩:=h;rw[Y3,Y3];by_cases e:k'=k
  .rw [Xg e,Xg (bL.mpr e)];exact⟨v,_,rfl,q,RD.Xv q h2⟩
  .rw [Xp e,Xp (λz=>e (bL.mp z))];exact⟨w,_,rfl,h1,RD.Xv q h2⟩
def RD.put{k:List Int}(q:RV K ρ H u v){a:List (List Key×V)}(h:RD K ρ H Z4 a):RD K ρ H (dput Z4 k u) (putK a (k.map Sum.inl) v):=by
 unfold dput putK;rw[h.any k];split
 .exact h.Xv q
 .exact h.snoc q
def RK.len:∀{Z4:List (Str×U)} {ws:List (Key×V)},RK K ρ H Z4 ws->Z4.length=ws.length
 |[],_,h=>by cases h;rfl
 |(k',u)::r,_,h=>by
  let⟨v,s,rfl,h1,h2⟩:=h;simp[RK.len h2]
def RK.got(k:Str){u:U}:∀{Z4:List (Str×U)} {ws:List (Key×V)},RK K ρ H Z4 ws->A1 Z4 k=some u ->∃v,AK ws (Sum.inr k)=some v/\RV K ρ H u v
 |[],_,h,e=>by cases e
 |(k',a)::r,_,h,e=>by
  let⟨v,s,rfl,h1,h2⟩:=h;by_cases z:k'=k
  .rw [cu (V2 Sum.inr z)]
   simp[A1,W5,z]at e;subst e;exact⟨v,rfl,h1⟩
  .rw [cB (λy=>z (RJ y))]
   exact RK.got k h2 (by simpa[A1,W5,z]using e)
def RK.any(k:Str):∀{Z4:List (Str×U)} {ws:List (Key×V)},RK K ρ H Z4 ws->(ws.any λa=>decide (a.1=Sum.inr k))=Z4.any λa=>decide (a.1=k)
 |[],_,h=>by cases h;rfl
 |(k',u)::r,_,h=>by
  let⟨v,s,rfl,h1,h2⟩:=h;rw[Wq,Wq,RK.any k h2];congr 1;exact decide_eq_decide.mpr ⟨RJ,V2 Sum.inr⟩
def RK.snoc{k:Str}{u:U}{v:V}(q:RV K ρ H u v):∀{Z4:List (Str×U)} {ws:List (Key×V)},RK K ρ H Z4 ws->RK K ρ H (Z4++[(k,u)]) (ws++[(Sum.inr k,v)])
 |[],_,h=>by cases h;exact⟨v,[],rfl,q,rfl⟩
 |(k',a)::r,_,h=>by
  let⟨w,s,rfl,h1,h2⟩:=h;exact⟨w,_,rfl,h1,RK.snoc q h2⟩
def RK.Xv{k:Str}{u:U}{v:V}(q:RV K ρ H u v):∀{Z4:List (Str×U)} {ws:List (Key×V)},RK K ρ H Z4 ws ->
  RK K ρ H (Z4.map λa=>if a.1=k then(a.1,u)else a) (ws.map λa=>if a.1=Sum.inr k then(a.1,v)else a)
 |[],_,h=>by cases h;rfl
 |(k',b)::r,_,h=>by
  let⟨w,s,rfl,h1,h2⟩:=h;rw[Y3,Y3];by_cases e:k'=k
  .rw [Xg e,Xg (V2 Sum.inr e)];exact⟨v,_,rfl,q,RK.Xv q h2⟩
  .rw [Xp e,Xp (λz=>e (RJ z))];exact⟨w,_,rfl,h1,RK.Xv q h2⟩
def RK.put{k:Str}(q:RV K ρ H u v){Z4:List (Str×U)}{a:List (Key×V)}(h:RK K ρ H Z4 a):RK K ρ H (BS Z4 k u) (putK a (Sum.inr k) v):=by
 unfold BS putK;rw[h.any k];split
 .exact h.Xv q
 .exact h.snoc q
def abD{Z4:List (Str×U)}(f:RH K ρ H g)(d:RV K ρ H y vy)(e:I9 y g=some Z4):∃n a ws,y=.ref n/\g[n]?=some (.dst Z4)/\ρ[n]?=some a/\vy=.ref a/\H a=some (.dK ws)/\RK K ρ H Z4 ws:=by
 cases y with
 |ref n=>
  simp![I9]at e;cases eg:g[n]? with
  |none=>rw[eg]at e;cases e
  |some ob=>
   cases ob with
   |dst i=>
    rw[eg]at e;cases e;let⟨a,ws,b,h,rk⟩:=f.dst eg;let⟨a',rfl,c⟩:=d;rw[b]at c;cases c;exact⟨n,_,ws,rfl,eg,b,rfl,h,rk⟩
   |_=>rw[eg]at e;cases e
 |_=>cases e
def dW:∀{O:List U} {ns:List Int} {vs:List V},intsOf O=some ns->RVs K ρ H O vs->vs=ns.map V.int
 |[],_,_,e,h=>by cases e;cases h;rfl
 |u::O,ns,vs,e,h=>by
  let⟨v,r,rfl,h1,h2⟩:=h;cases u with
  |int i=>
   simp![intsOf]at e;let⟨m,a,rfl⟩:=Ym.mp e;cases h1;rw[dW a h2];rfl
  |_=>cases e
def ji{x:U}{k:List Int}(e:keyOf x=some k)(r:RV K ρ H x v):∃b,v=.ref b/\H b=some (.Z1 ((k.map Sum.inl).map Ie)):=by
 cases x with
 |Z1 O=>
  let⟨a,vs,rfl,h1,h2⟩:=r;refine⟨a,rfl,?_⟩;rw[show H a=some (.Z1 vs)from h1,dW e h2,UW]
  rfl
 |_=>cases e
def sk{K:HF}{ρ:List Addr}{H:Hp}:∀{Z4:List (List Int×U)} {ws:List (List Key×V)},RD K ρ H Z4 ws->ws.map (·.1)=Z4.map λa=>a.1.map Sum.inl
 |[],ws,h=>by cases h;rfl
 |(k,u)::r,ws,⟨v,s,e,_,h⟩=>by subst e;rw[Y3,Y3,sk h]
def ue(h:RH K ρ H g)(i:RV K ρ H y vy)(b:Ja y g=some Z4):∃a ws,vy=.ref a/\Rd H a (.dT ws)/\RD K ρ H Z4 ws:=by
 cases y with
 |ref n=>
  simp![Ja]at b;cases eg:g[n]? with
  |none=>rw[eg]at b;cases b
  |some ob=>
   let⟨a',rfl,c⟩:=i;cases ob with
   |ZV j=>
    rw[eg]at b;cases b;let⟨a,ws,e,f,d⟩:=h.ZV eg;rw[e]at c;cases c;exact⟨_,ws,rfl,.inl f,d⟩
   |Zu j=>
    rw[eg]at b;cases b;let⟨a,ob,ws,e,f,d⟩:=h.Zu eg;rw[e]at c;cases c;exact⟨_,ws,rfl,.inr ⟨ob,f⟩,d⟩
   |_=>rw[eg]at b;cases b
 |_=>cases b
def eA{x:U}{d:V}{o:Option U}(j:RH K ρ H g)(i:RV K ρ H x d)(h:RV K ρ H y vy)(e:Al x y g=some o):∃a c,vy=.ref a/\DGet H a d c/\c.isSome=o.isSome /\∀u,o=some u ->∃v,c=some v/\RV K ρ H u v:=by
 unfold Al at e;cases ed:Ja y g with
 |none=>rw[ed]at e;cases e
 |some Z4=>
  rw[ed]at e;let⟨k,n,rfl⟩:=Ym.mp e;let⟨a,ws,rfl,m,f⟩:=ue j h ed;let⟨b,rfl,l⟩:=ji n i;exact⟨a,_,rfl,.inr ⟨ws,_,b,m,rfl,l,rfl⟩,f.val k,λu z=>f.got k z⟩
end
section
def aci(d:X.A.units+1<cLine):OpR X (compareOp .In) (λy x H Q=>∃a o,x=.ref a/\DGet H a y o/\Q (.bl o.isSome) H):=by
 intro J s Y H y x v u Q I b c ⟨a,o,e,g,q⟩;subst e;obtain rfl:u=Value.ref a:=c;exact d_in d I g b λs3 f=>⟨.bl o.isSome,H,f,rfl,q⟩
def zG(d:X.A.units+1<cLine):OpR X (compareOp .NotIn) (λy x H Q=>∃a o,x=.ref a/\DGet H a y o/\Q (.bl (!o.isSome)) H):=by
 intro J s Y H y x v u Q I b c ⟨a,o,e,g,q⟩;subst e;obtain rfl:u=Value.ref a:=c;exact zF d I g b λs3 f=>⟨.bl (!o.isSome),H,f,rfl,q⟩
def sD{r c:R2}(h:OpR X f r)(h':OpR X f c):OpR X f (λx y H Q=>r x y H Q\/c x y H Q):=λJ s Y H x y v u Q I b a q=>
 q.elim (λq=>h J s Y H x y v u Q I b a q) λq=>h' J s Y H x y v u Q I b a q
def adg{Y:L2.St}{b:Addr}{Z4:List (List Key×V)}{k:List Key}{r:Value}{E:Value->Shared->Prop}{Q:Unit->Shared->Prop}(m:X.A.units+1<cLine)(I:L2.Z2 X J Y H s)(e:H a=some (.dT Z4))(i:H b=some (.Z1 (k.map Ie)))(l:Z4.length<sizeLine)(j:RelV v r)
  (h:∀s',L2.Z2 X J Y (upd H a (.dT (putK Z4 k v))) s'->Q Unit.unit s'):wpAny (model X.prog X.w) X.A (dictSet a (.ref b) r) Q E s:=by
 let⟨z,o,xs,d,dd⟩:=ux I.ZL e;refine wpAny_dictSet_heap (hsz:=by rw[<-SK d];exact z) (by exact Nat.lt_of_succ_lt m) (bO I.ZL i) dd λh' x n=>h _ ?_
 let⟨q,es,ep,f,h2,u,t,_,p⟩:=x;refine eP I (by rw[e];exact True.intro) n ⟨q,f⟩ ⟨by have:=dD Z4 k v;lia,o,_,(d.put k i j).keeps λc ys g=>?_,q,es,ep,f,h2,u,t,p⟩
 rw[af (cQ g e (λz=>nomatch z))];exact g
def Hu:CG:=λo i v H Q=>∃a H',o=.ref a/\DPut H a i v H'/\Q H'
def set_dict(h:X.A.units+1<cLine):Ca X Hu:=by
 intro J s Y H o i v f k u Q I c d b ⟨a,H',e,g,q⟩;subst e;obtain rfl:f=Value.ref a:=c;exact xK h I g d b λs4 j=>⟨H',j,q⟩
def zx{r d:CG}(h:Ca X r)(h':Ca X d):Ca X (λo i v H Q=>r o i v H Q\/d o i v H Q):=λJ s Y H o i v e f u Q I b c a q=>
 q.elim (λq=>h J s Y H o i v e f u Q I b c a q) λq=>h' J s Y H o i v e f u Q I b c a q
end
def pW(m:Bool):∀(r:List Int) (a:Int),best m a r∈a::r
 |[],a=>by simp[best]
 |b::r,a=>by
  have:=pW m r (if m then(if b<a then b else a)else(if b > a then b else a))
  simp![best,Vo]at *;simp![YG]at this ⊢;rcases this with h|h
  .rw [h];cases m<;>simp![Vy,XZ,VC]<;>split<;>simp
  .exact .inr (.inr h)
def qc:∀(r:List Int) (a:Int),∀x∈a::r,best true a r<=x
 |[],a,x,h=>by simp[best]at *;lia
 |b::r,a,x,h=>by
  have ih:=qc r (if b<a then b else a)
  simp![best,Vo,Vy]at *;have h0:=ih _ (Wt);rcases YG.mp h with rfl|h
  .exact Ru h0 (by split<;>lia)
  .rcases YG.mp h with rfl|h
   .exact Ru h0 (by split<;>lia)
   .exact ih x (HA _ h)
def qa:∀(r:List Int) (a:Int),∀x∈a::r,x<=best false a r
 |[],a,x,h=>by simp[best]at *;lia
 |b::r,a,x,h=>by
  have ih:=qa r (if b > a then b else a)
  simp![best,Vo,XZ,VC]at *;have h0:=ih _ (Wt);rcases YG.mp h with rfl|h
  .exact Ru (by split<;>omega) h0
  .rcases YG.mp h with rfl|h
   .exact Ru (by split<;>omega) h0
   .exact ih x (HA _ h)
def insI_perm(a:Int):∀r:List Int,(insI a r).Perm (a::r)
 |[]=>.refl _
 |b::r=>by
  simp![insI];split
  .exact .refl _
  .exact ((insI_perm a r).cons b).trans (.swap a b r)
def sortI_perm:∀r:List Int,(sortI r).Perm r
 |[]=>.refl _
 |a::r=>(insI_perm a _).trans ((sortI_perm r).cons a)
def aaA{b:Int}(a:Int):∀{r:List Int},b<=a->(∀x∈r,b<=x) ->∀x∈insI a r,b<=x:=λ{r} h h' x c=>by
 rcases YG.mp ((insI_perm a r).mem_iff.mp c)with rfl|z
 .exact h
 .exact h' x z
def qC(a:Int):∀{r:List Int},r.Pairwise (· <= ·)->(insI a r).Pairwise (· <= ·)
 |[],_=>by simp[insI]
 |b::r,h=>by
  let⟨h1,h2⟩:=RA.mp h;simp![insI];split
  .rename_i c
   exact RA.mpr ⟨λx d=>by rcases YG.mp d with rfl|z;exact c;exact Ru c (h1 x z),h⟩
  .exact RA.mpr ⟨aaA a (by lia) h1,qC a h2⟩
def pI:∀r:List Int,(sortI r).Pairwise (· <= ·)
 |[]=>.nil
 |a::r=>qC a (pI r)
def xk{a b:List Int}(c:a.Perm b)(e:a.Pairwise (· <= ·))(d:b.Pairwise (· <= ·)):a=b:=
 c.eq_of_pairwise (λx y _ _ h1 h2=>Qc h1 h2) e d
def d8:∀{ns:List Int} {O:List Value},ZH (ns.map V.int) O->IntsAre O ns
 |[],O,h=>by cases h;exact .nil
 |n::ns,O,h=>by
  cases h with
  |cons r t=>
   let⟨k,rfl⟩:=r;exact .cons n k (d8 t)
def yR:∀{ns:List Int} {O:List Value},IntsAre O ns->ZH (ns.map V.int) O:=λh=>fJ h
section
variable{E:Value->Shared->Prop}{l:Addr}{vs:List Value}{ns:List Int}
def minL(n:A.handled=none)(f:s.heap.IsList l vs.toArray)(g:IntsAre vs ns)(p:0<ns.length)
  (h:∀h' Z8 (t:Tok) tk,(∀b o,s.heap.get? b=some o->h'.get? b=some o)->Z8∈ns->(∀a,a∈ns->Z8<=a)->Q (.int Z8 t) {s with heap:=h',toks:=tk}):wpAny (model prog w) A (call (.builtin "min") [.ref l]) Q E s:=by
 let⟨xs,e⟩:=g.allInts.items;have d:ns=xs.toList.map (·.1):=by rw[<-g.numsOf,<-nums_intItems,<-e]
 have c:0<xs.size:=by have h3:=p;rw[d,Yj,Va]at h3;exact h3
 rw[e]at f;refine min_intList n f c λv h' tk k hk=>?_;let⟨t,rfl⟩:=intItems_at k;let⟨h1,h2⟩:=argBest_lt (numAt xs) (xs.size-1);refine h _ _ t tk hk ?_ λa i=>?_
 .rw [d,numAt_eq];exact getD_mem (by rw[Yj,Va];omega)
 .rw [d]at i
  let⟨j,m,rfl⟩:=mem_getD i;rw[Yj,Va]at m;rw[<-numAt_eq];exact h2 j (by lia)
def maxL(n:A.handled=none)(f:s.heap.IsList l vs.toArray)(g:IntsAre vs ns)(p:0<ns.length)
  (h:∀h' Z8 (t:Tok) tk,(∀b o,s.heap.get? b=some o->h'.get? b=some o)->Z8∈ns->(∀a,a∈ns->a<=Z8)->Q (.int Z8 t) {s with heap:=h',toks:=tk}):wpAny (model prog w) A (call (.builtin "max") [.ref l]) Q E s:=by
 let⟨xs,e⟩:=g.allInts.items;have d:ns=xs.toList.map (·.1):=by rw[<-g.numsOf,<-nums_intItems,<-e]
 have c:0<xs.size:=by have h3:=p;rw[d,Yj,Va]at h3;exact h3
 rw[e]at f;refine max_intList n f c λv h' tk k hk=>?_;let⟨t,rfl⟩:=intItems_at k;let⟨h1,h2⟩:=argBest_gt (numAt xs) (xs.size-1);refine h _ _ t tk hk ?_ λa i=>?_
 .rw [d,numAt_eq];exact getD_mem (by rw[Yj,Va];omega)
 .rw [d]at i
  let⟨j,m,rfl⟩:=mem_getD i;rw[Yj,Va]at m;rw[<-numAt_eq];exact h2 j ()
end
section
def JA(m:Bool):List V->Hp->VK->Prop:=λxs H Q=>(∃i j,xs=[.int i,.int j]/\Q (.int (best m i [j])) H)\/(∃i j k,xs=[.int i,.int j,.int k]/\Q (.int (best m i [j,k])) H) \/
 ∃p i ns,xs=[.ref p]/\H p=some (.S ((i::ns).map V.int))/\Q (.int (best m i ns)) H
def q0{i Z8:Int}{ns:List Int}(b:Z8∈i::ns)(c:∀a,a∈i::ns->if m then Z8<=a else a<=Z8):Z8=best m i ns:=by
 have a:=c _ (pW m ns i);cases m with
 |true=>exact Qc (by simpa using a) (qc ns i Z8 b)
 |false=>exact Qc (qa ns i Z8 b) (by simpa using a)
def call_mn(b:X.calm=true):CallR X (.builtin "min") (JA true):=by
 intro J s Y H xs O Q I r h;rcases h with⟨i,j,rfl,q⟩|⟨i,j,k,rfl,q⟩|⟨p,i,ns,rfl,g,q⟩
 .exact xw b J s Y H _ O Q I r ⟨i,j,rfl,q⟩
 .cases r with
  |cons f r=>
   cases r with
   |cons r2 r=>
    cases r with
    |cons e r=>
     cases r;let⟨t,rfl⟩:=f;let⟨u,rfl⟩:=r2;let⟨x,rfl⟩:=e;refine min_three_ints (I.ok.hd b) λh' tk a=>⟨_,H,I.kept a,?_,q⟩;simp![best,Vo,Sn,Vy];split<;>split<;>exact⟨_,rfl⟩
 .obtain ⟨u,rfl,c⟩:=vals1 r
  cases c;let⟨ZY,d,pl,l⟩:=I.list (SqL.of g);exact minL (I.ok.hd b) pl.isList (d8 d) (Nat.succ_pos _) λh' Z8 t tk a h1 h2=>⟨.int Z8,H,I.kept a,⟨t,rfl⟩,by rw[q0 (m:=true) h1 (by simpa using h2)];exact q⟩
def call_mx(b:X.calm=true):CallR X (.builtin "max") (JA false):=by
 intro J s Y H xs O Q I r h;rcases h with⟨i,j,rfl,q⟩|⟨i,j,k,rfl,q⟩|⟨p,i,ns,rfl,g,q⟩
 .exact xM b J s Y H _ O Q I r ⟨i,j,rfl,q⟩
 .cases r with
  |cons f r=>
   cases r with
   |cons r2 r=>
    cases r with
    |cons e r=>
     cases r;let⟨t,rfl⟩:=f;let⟨u,rfl⟩:=r2;let⟨x,rfl⟩:=e;refine max_three_ints (I.ok.hd b) λh' tk a=>⟨_,H,I.kept a,?_,q⟩;simp![best,Vo,Sn,XZ,VC];split<;>split<;>exact⟨_,rfl⟩
 .obtain ⟨u,rfl,c⟩:=vals1 r
  cases c;let⟨ZY,d,pl,l⟩:=I.list (SqL.of g);exact maxL (I.ok.hd b) pl.isList (d8 d) (Nat.succ_pos _) λh' Z8 t tk a h1 h2=>⟨.int Z8,H,I.kept a,⟨t,rfl⟩,by rw[q0 (m:=false) h1 (by simpa using h2)];exact q⟩
def x9:CallR X (.builtin "sorted") (λxs H Q=>∃(p:Addr) (ns:List Int),xs=[.ref p]/\H p=some (.S (ns.map V.int))/\ns.length<64 /\∀l,H l=none->Q (.ref l) (upd H l (.S ((sortI ns).map V.int)))):=by
 intro J s Y H xs O Q I r ⟨p,ns,e,j,d,q⟩;subst e;let⟨u,rfl,f⟩:=vals1 r;cases f;let⟨ZY,g,pl,B⟩:=I.list (SqL.of j);have hi:=d8 g;refine sorted_ints pl.isList hi (by rw[hi.length];exact d) λout a A z y=>?_
 let⟨c,o⟩:=sortedAll_at s.heap ZY out;have t:a=sortI ns:=xk (z.trans (sortI_perm ns).symm) y (pI ns);subst t;have k:H (s.heap.objs.size+1)=none:=I.ZL.fresh (VJ _);refine⟨.ref (s.heap.objs.size+1),_,I.laid (t':=s.toks) (λ_ _=>sortedAll_old) (VJ _) (show ObjOk X.prog X.w _ _ _ (.S ((sortI ns).map V.int))from⟨?_,out.toList,c,yR A,?_⟩),rfl,q _ k⟩
 .rw [Yj,(sortI_perm ns).length_eq]
  exact Hx (SW d) #[1]
 .exact o
end
section
def acn(D:X.A.units+2<cLine):OpR X (compareOp .NotEq) (λx y H Q=>∃ρ O ws b,RV X.K ρ H (.Z1 O) x/\RV X.K ρ H (.Z1 ws) y/\qs IX O ws=some b/\Q (.bl (!b)) H):=by
 intro J s Y H x y v u Q I i h ⟨ρ,O,ws,b,k,r2,e,q⟩;let⟨a,xs,rfl,h1,h2⟩:=k;let⟨a',ys,rfl,B,z⟩:=r2;cases i;cases h;let⟨ZY,g,p,_⟩:=I.tuple h1.sq;let⟨c,d,p2,_⟩:=I.tuple B.sq;let⟨f,l,r,t⟩:=d7 (A:=X.A.in1) (s:=s) (λu w x y v v' b g d o n m=>mL (A:=X.A.in1) I (show X.A.units+1<cLine by lia) g d o n m) h2 z g d e
 refine SeqAt.RcNeAt.tuples (A:=X.A) (s:=s) (l:=a) (b:=a') (items:=ZY.toArray) (items2:=c.toArray) (e:=f) p p2 (by lia) (λj h1 h2=>by simpa using r j (by simpa using h1) (by simpa using h2)) X.prog X.w X.xe _ ⟨.bl (!b),H,I,?_,q⟩
 have C:((List.range (min ZY.toArray.size c.toArray.size)).all f&&ZY.toArray.size==c.toArray.size)=b:=by simp[<-l,t]
 rw[C]
 rfl
end
section
variable{Y:L2.St}
inductive RprX(X:Cx)(xs:List V)(H:Hp)(Q:VK):Prop
 |mk (ρ:List Addr) (g:G) (u:U) (x:V) (d:PyData) (e:xs=[x]) (hg:RH X.K ρ H g) (r:RV X.K ρ H u x) (er:Gu u g=some d) (h1:d.showable=true) (h2:d.shown.length<=sizeLine) (q:Q (.str d.shown) H)
end
section
variable{a b c:Expr}{b' c':E}
def one{R:List Addr->Hp->α->β->Prop}{f:Su->G->Out U}{k:Su->U->G->Out α}{Y:L2.St}{H:Hp}{Q:β->Hp->Prop}
  (e:tR X.K W R (λZ0 g=>(f Z0 g).bind λx g=>k Z0 x g) Y H Q)
  (a:∀Z0 ρ H g u x,RS X.K ρ H Z0 Y->RH X.K ρ H g->RV X.K ρ H u x->post X.K W R (k Z0 u g) ρ H Q->Q2 x H):tE X.K W f Y H Q2:=by
 let⟨Z0,ρ,g,b,h,p⟩:=e;exact⟨Z0,ρ,g,b,h,(post.bind p).mono λx H1 ⟨i,u,g1,s1,h1,c,d⟩=>a Z0 i H1 g1 u x (b.step s1) h1 c d⟩
def oneN{j:XQ}{R:List Addr->Hp->α->β->Prop}{f:Su->G->Out U}{k:Su->U->G->Out α}{Y:L2.St}{H:Hp}{Q:β->Hp->Prop}
  (e:tR X.K W R (λZ0 g=>(f Z0 g).Yw.bind λx g=>k Z0 x g) Y H Q)
  (a:∀Z0 ρ H g u x,RS X.K ρ H Z0 Y->RH X.K ρ H g->RV X.K ρ H u x->post X.K W R (k Z0 u g) ρ H Q->Q2 x H):tE X.K j f Y H Q2:=by
 let⟨Z0,ρ,g,b,h,p⟩:=e;exact⟨Z0,ρ,g,b,h,(bZ p).mono λx H1 ⟨i,u,g1,s1,h1,c,d⟩=>a Z0 i H1 g1 u x (b.step s1) h1 c d⟩
def two{R:List Addr->Hp->α->β->Prop}{f h:Su->G->Out U}{k:Su->U->U->G->Out α}{Y:L2.St}{H:Hp}{Q:β->Hp->Prop}{c:V->V->Hp->Prop}
  (i:tR X.K W R (λZ0 g=>(f Z0 g).bind λx g=>(h Z0 g).bind λy g=>k Z0 x y g) Y H Q)
  (a:∀Z0 ρ H g u w x y,RS X.K ρ H Z0 Y->RH X.K ρ H g->RV X.K ρ H u x->RV X.K ρ H w y->post X.K W R (k Z0 u w g) ρ H Q->c x y H) :
  tE X.K W f Y H λx H1=>tE X.K W h Y H1 λy H2=>c x y H2:=by
 let⟨Z0,ρ,g,b,j,p⟩:=i;refine⟨Z0,ρ,g,b,j,(post.bind p).mono λx H1 ⟨m,u,g1,s1,h1,d,e⟩=>?_⟩;refine⟨Z0,m,g1,b.step s1,h1,(post.bind e).mono λy H2 ⟨l,w,g2,s2,h2,r2,p2⟩=>?_⟩;exact a Z0 l H2 g2 u w x y ((b.step s1).step s2) h2 (RV.step s2 _ _ d) r2 p2
def acz{x:Str}(f:X.N[i]?=some x)(a:Vis X.env.scope x)(d:(x==("__debug__" : Str))=false)(k:(x==("__classdict__" : Str))=false):PE X (.Name x pos) (tE X.K W (Jp C r (.L i))):=by
 refine(abx f a d k).imp ?_;rintro Y H Q ⟨Z0,ρ,g,b,c,p⟩
 delta Jp at p;dsimp only at p
 cases e:Z0[i]? with
 |none=>simp[e]at p;exact p.elim
 |some o=>
  cases o with
  |none=>simp[e]at p;exact p.elim
  |some u=>
   rw[e]at p;dsimp only at p;let⟨v,j,h⟩:=b.val i u e;exact⟨v,j,post.Ze p c h⟩
def dv(h:PE X e (Ii v))(a:∀ρ H,RV X.K ρ H u v):PE X e (tE X.K W (Jp C r (.Z3 u))):=
 h.imp λY H Q ⟨Z0,ρ,g,c,b,p⟩=>post.Ze (u:=u) p b (a ρ H)
def cK{o:Operator}(k:OpR X (binaryOp o) r2)
  (imp:∀u w z x y ρ (H:Hp) Q,RV X.K ρ H u x->RV X.K ρ H w y->IZ op u w=some z->(∀v,RV X.K ρ H z v->Q v H)->r2 x y H Q)
  (c:∀u w x y ρ (H:Hp) g p Q,RH X.K ρ H g->RV X.K ρ H u x->RV X.K ρ H w y->A2 u w g=some p->post X.K W (RV X.K) (Bj op u w g) ρ H Q->r2 x y H Q)
  (m:PE X a (tE X.K W (r.ev a'))) (l:PE X b (tE X.K W (r.ev b'))):PE X (.BinOp a o b pos) (tE X.K W (Jp C r (.ZW op a' b'))):=by
 refine(acW k m l).imp λY H Q j=>two j λZ0 ρ H g u w x y n f d r2 p=>?_;cases h:A2 u w g with
 |some q=>exact c u w x y ρ H g q Q f d r2 h p
 |none=>
  have p:post X.K W (RV X.K) (Bj op u w g) ρ H Q:=p;unfold Bj at p;rw[h]at p;let⟨z,e,p⟩:=post.lift p;exact imp u w z x y ρ H Q d r2 e λv i=>post.Ze p f i
def du(h:op ≠ .add)(u w:U)(x y:V)(ρ:List Addr)(H:Hp)(g:G)(q:List U×List U)(Q:VK)(_:RH X.K ρ H g)(_:RV X.K ρ H u x)(_:RV X.K ρ H w y)(a:A2 u w g=some q)(p:post X.K W (RV X.K) (Bj op u w g) ρ H Q):r2 x y H Q:=by
 unfold Bj at p;rw[a]at p;cases op<;>first|exact absurd rfl h|exact p.elim
def kh{r c:R2}(h:OpR X f r)(h':OpR X f c):OpR X f λx y H Q=>r x y H Q\/c x y H Q:=λJ s Y H x y v u Q I b a q=>q.elim (h J s Y H x y v u Q I b a) (h' J s Y H x y v u Q I b a)
def aaU(u w:U)(x y:V)(ρ:List Addr)(H:Hp)(g:G)(q:List U×List U)(Q:VK)(b:RH X.K ρ H g)(h:RV X.K ρ H u x)(f:RV X.K ρ H w y)(c:A2 u w g=some q)(p:post X.K W (RV X.K) (Bj .add u w g) ρ H Q):GA x y H Q:=by
 unfold Bj at p;rw[c]at p;dsimp only at p;split at p
 .rename_i i
  let⟨n,m,rfl,rfl,g1,g2⟩:=qy c;let⟨v,vs,o,k,e⟩:=b.S g1;let⟨s,ws,j,J7,d⟩:=b.S g2;let⟨t,rfl,z⟩:=h;rw[o]at z;cases z;let⟨r,rfl,z⟩:=f;rw[j]at z;cases z;refine⟨v,s,vs,ws,rfl,rfl,k,J7,by rw[<-e.length,<-d.length,Tb];unfold Ag at i;lia,λl a=>?_⟩
  exact p (.ref l) _ _ (ZI.alloc a) (b.alloc a (e.append d)) ⟨l,rfl,by rw[<-b.len];simp⟩
 .exact p.elim
def cF{g:Int->Int->Int}{a:Int->Int->Prop}(h:∀u w z,IZ op u w=some z ->∃i j,u=.int i/\w=.int j/\z=.int (g i j)/\a i j)(u w z:U)(x y:V)(ρ:List Addr)(H:Hp)(Q:VK)(c:RV K ρ H u x)(b:RV K ρ H w y)
  (e:IZ op u w=some z) (q:∀v,RV K ρ H z v->Q v H):IC a (λi j=>.int (g i j)) x y H Q:=by
 let⟨i,j,rfl,rfl,rfl,hc⟩:=h u w z e;cases c;cases b;exact⟨i,j,rfl,rfl,hc,q _ rfl⟩
def tm{g:Int->Int->V}(h:OpR X f (ID g)):OpR X f (IC (λ_ _=>True) g):=λJ s Y H x y v u Q I b a ⟨i,j,d,c,_,q⟩=>h J s Y H x y v u Q I b a ⟨i,j,d,c,q⟩
def log2_small{n:Nat}(h:n<115792089237316195423570985008687907853269984665640564039457584007913129639936):n.log2<9000:=by
 by_cases a:n=0
 .subst a;decide
 .exact HB ((Nat.log2_lt a).mpr (show n<2 ^ 256 from h)) #[1]
def aao:OpR X (binaryOp .FloorDiv) (IC (λi j=>j≠0 /\ -Au<j/\j<Au) λi j=>.int (i.fdiv j)):=opI λi j _ _ _ _ _ hc q=>
 floordiv_int hc.1 q (.inl (PyProof.noPylong_of_log2 (log2_small (by have:=hc.2;unfold Au at this;omega))))
def zY:OpR X (binaryOp .Mult) (IC (λi j=>CMul i j\/((-Au<i/\i<Au) /\ -Au<j/\j<Au)) λi j=>.int (i*j)):=opI λi j _ _ _ _ _ hc q=>by
 rcases hc with hc|⟨⟨h1,h2⟩,h3,h4⟩
 .exact mul_int q hc.ok
 .unfold Au at h1 h2 h3 h4
  exact mul_int q (IntMulOk.of_bits (Hx (intBits_le (k:=256) (show i.natAbs<115792089237316195423570985008687907853269984665640564039457584007913129639936 by omega)) #[1]) (Hx (intBits_le (k:=256) (show j.natAbs<115792089237316195423570985008687907853269984665640564039457584007913129639936 by omega)) #[1]))
def cD{w z:U}(e:IZ op u w=some z):∃i j,u=.int i/\w=.int j:=by
 cases u<;>first|(cases op<;>cases e<;>done)|skip
 cases w<;>first|(cases op<;>cases e<;>done)|skip
 exact⟨_,_,rfl,rfl⟩
def x3{o:Operator}(t:(op=.add/\o = .Add)\/(op=.sub/\o = .Sub)\/(op=.mul/\o = .Mult)\/(op=.fdiv/\o = .FloorDiv)\/(op=.mod/\o = .Mod)\/(op=.pow/\o = .Pow))
  (d:PE X a (tE X.K W (r.ev a'))) (c:PE X b (tE X.K W (r.ev b'))):PE X (.BinOp a o b pos) (tE X.K W (Jp C r (.ZW op a' b'))):=by
 rcases t with⟨rfl,rfl⟩|⟨rfl,rfl⟩|⟨rfl,rfl⟩|⟨rfl,rfl⟩|⟨rfl,rfl⟩|⟨rfl,rfl⟩
 .exact cK (kh (tm eX) abn) (λu w z x y ρ H Q k r2 e q => .inl (cF (λu w z e=>by
   let⟨i,j,rfl,rfl⟩:=cD e;cases e;exact⟨_,_,rfl,rfl,rfl,trivial⟩) u w z x y ρ H Q k r2 e q)) (λu w x y ρ H g q Q B k r2 D p=>.inr (aaU u w x y ρ H g q Q B k r2 D p)) d c
 .exact cK (tm eU) (cF λu w z e=>by
   let⟨i,j,rfl,rfl⟩:=cD e;cases e
   exact⟨_,_,rfl,rfl,rfl,trivial⟩) (du #[3]) d c
 .refine cK zY (cF λu w z e=>?_) (du #[3]) d c
  let⟨i,j,rfl,rfl⟩:=cD e;simp![IZ,IY,Rm,YJ]at e;let⟨h,rfl⟩:=e;refine⟨_,_,rfl,rfl,rfl,?_⟩;rw[Ut,Ut,Yk,Yk,Yk,Yk,Yk]at h;unfold CMul;rw[show((2:Int) ^ 64)=BO from rfl];rcases h with(⟨h1,h2⟩|⟨h1,h2⟩)|⟨⟨⟨h1,h2⟩,h3⟩,h4⟩
  .exact .inl (.inl ⟨HE h1,HE h2⟩)
  .exact .inl (.inr ⟨HE h1,HE h2⟩)
  .exact .inr ⟨⟨HE h1,HE h2⟩,HE h3,HE h4⟩
 .refine cK aao (cF λu w z e=>?_) (du #[3]) d c
  let⟨i,j,rfl,rfl⟩:=cD e;simp![IZ,IY]at e;refine⟨i,j,rfl,rfl,?_⟩;by_cases f:0<j
  .rw [Xg f]at e
   have A:i / j=i.fdiv j:=(Int.fdiv_eq_ediv_of_nonneg i (by lia)).symm
   by_cases h1:j<Au
   .rw [Xg h1]at e
    rw[<-A];exact⟨(X9 e).symm,by lia,by unfold Au;lia,h1⟩
   .rw [Xp h1]at e;cases e
  .rw [Xp f]at e
   by_cases h1:j=0
   .rw [Xg h1]at e;cases e
   .rw [Xp h1]at e
    by_cases h2 : -Au<j
    .rw [Xg h2]at e
     exact⟨(X9 e).symm,h1,h2,by unfold Au;omega⟩
    .rw [Xp h2]at e;cases e
 .refine cK zw (cF λu w z e=>?_) (du #[3]) d c
  let⟨i,j,rfl,rfl⟩:=cD e;simp![IZ,IY]at e;refine⟨i,j,rfl,rfl,?_⟩;by_cases f:0<j
  .rw [Xg f]at e
   have A:i % j=i.fmod j:=(Int.fmod_eq_emod_of_nonneg i ()).symm
   rw[<-A];exact⟨(X9 e).symm,by omega⟩
  .rw [Xp f]at e
   by_cases h1:j=0
   .rw [Xg h1]at e;cases e
   .rw [Xp h1]at e
    exact⟨(X9 e).symm,h1⟩
 .exact cK abz (cF λu w z e=>by
   let⟨i,j,rfl,rfl⟩:=cD e;simp![IZ,IY,Rm,YJ]at e;let⟨h,rfl⟩:=e;refine⟨_,_,rfl,rfl,rfl,?_⟩;unfold FY
   omega) (du #[3]) d c
def aba(e:PE X a (tE X.K W (r.ev a'))):PE X (.UnaryOp .USub a pos) (tE X.K W (Jp C r (.neg a'))):=by
 refine(ur sm e).imp λY H Q c=>one c λZ0 ρ H g u x f d b p=>?_;cases u<;>simp![]at p<;>first|exact p.elim|skip
 cases b;exact⟨_,rfl,post.Ze p d rfl⟩
def Bo(X:Cx)(a:Cp)(o:CmpOp):Prop:=∃r2,OpR X (compareOp o) r2 /\∀ρ (H:Hp) g u w x y b Q,RH X.K ρ H g->RV X.K ρ H u x->RV X.K ρ H w y->Jc a u w g=some b->Q (V.bl b) H->r2 x y H Q
def dR{a:Cp}{o:CmpOp}{f:Int->Int->Bool}(d:OpR X (compareOp o) (ID λi j=>.bl (f i j)))(h:∀u w g b,Jc a u w g=some b ->∃i j,u=.int i/\w=.int j/\b=f i j):Bo X a o:=
 ⟨_,d,λρ H g u w x y b Q k c r2 e q=>by
  let⟨i,j,rfl,rfl,rfl⟩:=h u w g b e;cases c;cases r2;exact⟨i,j,rfl,rfl,q⟩⟩
def fQ(h:RV K ρ H u x):AE u=decide (x=.ZN):=by
 cases u with
 |Z1 O=>let⟨a,vs,rfl,_⟩:=h;rfl
 |Zm O=>let⟨a,vs,rfl,_⟩:=h;rfl
 |ref O=>let⟨a,rfl,_⟩:=h;rfl
 |xn _ O=>let⟨a,vs,rfl,_⟩:=h;rfl
 |_=>cases h;rfl
def eY{f:Int->Int->Bool}{w:U}{b:Bool}(e:(match u,w with|.int i,.int j=>some (f i j)|_,_=>none)=some b):∃i j,u=.int i/\w=.int j/\b=f i j:=by
 cases u<;>first|(cases e;done)|skip
 cases w<;>first|(cases e;done)|skip
 exact⟨_,_,rfl,rfl,(X9 e).symm⟩
def wN{w:U}(h:Cw u w=true):(u=.ZN/\w=.ZN)\/(∃a b,u=.bl a/\w=.bl b)\/(∃a b,u=.int a/\w=.int b) \/∃a b,u=.str a/\w=.str b:=by
 cases u<;>cases w<;>first|(cases h;done)|exact .inl ⟨rfl,rfl⟩|exact .inr (.inl ⟨_,_,rfl,rfl⟩)|exact .inr (.inr (.inl ⟨_,_,rfl,rfl⟩))|exact .inr (.inr (.inr ⟨_,_,rfl,rfl⟩))
def adK(s:X.A.units+2<cLine)(f:Cp)(o:CmpOp)(h:(f=.eq/\o = .Eq)\/(f=.ne/\o = .NotEq)\/(f=.lt/\o = .Lt)\/(f=.le/\o = .LtE)\/(f=.gt/\o = .Gt)\/(f=.ge/\o = .GtE)\/(f=.Xe/\o = .Is)\/(f=.Wi/\o = .IsNot)\/(f=.Wh/\o = .In)\/(f=.nin/\o = .NotIn)):Bo X f o:=by
 rcases h with⟨rfl,rfl⟩|⟨rfl,rfl⟩|⟨rfl,rfl⟩|⟨rfl,rfl⟩|⟨rfl,rfl⟩|⟨rfl,rfl⟩|⟨rfl,rfl⟩|⟨rfl,rfl⟩|⟨rfl,rfl⟩|⟨rfl,rfl⟩
 .refine ⟨_,kh (abJ (by lia)) (acd s),λρ H g u w x y b Q i d r2 e q=>?_⟩
  simp![Jc]at e;cases n:A2 u w g with
  |none=>
   rw[n]at e;exact .inl ⟨ρ,g,u,w,b,i,d,r2,e,q⟩
  |some p=>rw[n]at e;exact .inr ⟨ρ,g,u,w,b,i,d,r2,Wr.mpr ⟨p,n,e⟩,q⟩
 .refine ⟨_,kh acZ (acn s),λρ H g u w x y b Q i d r2 e q=>?_⟩
  cases t:Cw u w with
  |false=>
   simp![Jc,t,XZ,VC]at e;cases u<;>first|(cases e;done)|skip
   cases w<;>first|(cases e;done)|skip
   let⟨c,v,rfl⟩:=Ym.mp e;exact .inr ⟨ρ,_,_,c,d,r2,v,q⟩
  |true=>
  refine .inl ?_;rcases wN t with⟨rfl,rfl⟩|⟨a,c,rfl,rfl⟩|⟨a,c,rfl,rfl⟩|⟨a,c,rfl,rfl⟩<;>simp![Jc,Cw,Vy,Aq,Wo,YJ]at e<;>subst e<;>cases d<;>cases r2<;>refine⟨rfl,?_⟩<;>
   first|exact q|(rw[rl];exact q)|(rw[tD];exact q)|(rw[rE];exact q)|simpa using q
 .exact dR acV λu w g b e=>eY e
 .exact dR adO λu w g b e=>eY e
 .exact dR adI λu w g b e=>eY e
 .exact dR adi λu w g b e=>eY e
 .refine ⟨_,abA,λρ H g u w x y b Q i d r2 e q=>?_⟩
  cases w<;>simp![Jc,AE,Vy,XZ,VC,YJ,reduceCtorEq]at e
  cases r2;subst e;refine⟨rfl,?_⟩;rw[<-fQ d];cases u<;>exact q
 .refine ⟨_,aay,λρ H g u w x y b Q i d r2 e q=>?_⟩
  cases w<;>simp![Jc,AE,Vy,XZ,VC,YJ,reduceCtorEq]at e
  cases r2;subst e;refine⟨rfl,?_⟩;rw[<-fQ d];cases u<;>exact q
 .refine ⟨_,sD (abK (by lia)) (aci ()),λρ H g u w x y b Q i d r2 e q=>?_⟩
  simp![Jc]at e;cases j:items w g with
  |none=>
   rw[j]at e;dsimp only at e;let⟨o,m,rfl⟩:=Ym.mp e;let⟨a,k,l,r,es,_⟩:=eA i d r2 m;exact .inr ⟨a,k,l,r,by rw[es];exact q⟩
  |some O=>rw[j]at e;dsimp only at e;exact .inl ⟨ρ,g,u,w,b,i,d,r2,Wr.mpr ⟨O,j,e⟩,q⟩
 .refine ⟨_,sD (aai ()) (zG ()),λρ H g u w x y b Q i d r2 e q=>?_⟩
  simp![Jc]at e;cases j:items w g with
  |none=>
   rw[j]at e;dsimp only at e;let⟨o,m,rfl⟩:=Ym.mp e;let⟨a,k,l,r,es,_⟩:=eA i d r2 m;exact .inr ⟨a,k,l,r,by rw[es];exact q⟩
  |some O=>
   rw[j]at e;dsimp only at e;exact .inl ⟨ρ,g,u,w,b,i,d,r2,Wr.mpr ⟨O,j,e⟩,q⟩
def acs{c:Cp}{o:CmpOp}(d:Bo X c o)(j:behindInMarks o b=false)(m:PE X a (tE X.K W (r.ev a')))(l:PE X b (tE X.K W (r.ev b'))):PE X (.Compare a [o] [b] pos) (tE X.K W (Jp C r (.cmp c a' b'))):=by
 let⟨r2,d,imp⟩:=d;refine(aaf d m l j).imp λY H Q i=>two i λZ0 ρ H g u w x y n f h r2 p=>?_;cases e:Jc c u w g with
 |none=>rw[e]at p;exact p.elim
 |some k=>rw[e]at p;dsimp only at p;exact imp ρ H g u w x y k Q f h r2 e (post.Ze p f rfl)
def ab4{d:Cp}{o:CmpOp}(h:Bo X d o)(m:behindInMarks o b=false)(q:PE X a (tE X.K W (r.ev a')))(n:PE X b (tE X.K W (r.ev b'))):PT X (.Compare a [o] [b] pos) (tT X.K W (λY g=>(Jp C r (.cmp d a' b') Y g).bind λx g=>lift (Jd x g) g)):=by
 let⟨r2,h,imp⟩:=h;refine(aah h q n m).imp λY H Q l=>?_;have s:tR X.K W Ys (λZ0 g=>(r.ev a' Z0 g).bind λx g=>(r.ev b' Z0 g).bind λy g=>match Jc d x y g with|some c=>Out.ok c g|none=>.ZZ) Y H Q:=by
  let⟨Z0,ρ,g,i,f,p⟩:=l;refine⟨Z0,ρ,g,i,f,?_⟩;have e:((Jp C r (.cmp d a' b') Z0 g).bind λx g=>lift (Jd x g) g)=((r.ev a' Z0 g).bind λx g=>(r.ev b' Z0 g).bind λy g=>match Jc d x y g with|some c=>Out.ok c g|none=>.ZZ):=by
   delta Jp;dsimp only
   cases r.ev a' Z0 g with
   |ok x g1=>
    simp![Out.bind];cases r.ev b' Z0 g1 with
    |ok y g2=>simp![Out.bind];cases Jc d x y g2<;>rfl
    |exc _ _ _=>rfl
    |ZZ=>rfl
   |exc _ _ _=>rfl
   |ZZ=>rfl
  have p2:=p
  change post X.K W Ys ((Jp C r (.cmp d a' b') Z0 g).bind λx g=>lift (Jd x g) g) ρ H Q at p2
  rw[e]at p2;exact p2
 refine two s λZ0 ρ H g u w x y i f j r2 p=>?_;cases e:Jc d u w g with
 |none=>rw[e]at p;exact p.elim
 |some k=>rw[e]at p;dsimp only at p;exact imp ρ H g u w x y k _ f j r2 e ⟨k,rfl,post.Ze p f rfl⟩
end
section
variable{a b c:Expr}{b' c':E}{ZQ:List Expr}
def okE{Q:VK}(p:post X.K W (RV X.K) (.ok u g) ρ H Q)(a:RH X.K ρ H g)(r:RV X.K ρ H u v):Q v H:=post.Ze p a r
def pN{c:Cp}{i:R2}
  (d:∀ρ (H:Hp) g u w x y b Q,RH X.K ρ H g->RV X.K ρ H u x->RV X.K ρ H w y->Jc c u w g=some b->Q (V.bl b) H->r2 x y H Q)
  (a:∀ρ (H:Hp) g u w x y b Q,RH X.K ρ H g->RV X.K ρ H u x->RV X.K ρ H w y->Jc YV u w g=some b->Q (V.bl b) H->i x y H Q) (Y:L2.St) (H:Hp) (Q:VK) (o:tE X.K W (Jp C r (.chain c YV a' b' c')) Y H Q) :
  DH r2 i (tE X.K W (r.ev a')) (tE X.K W (r.ev b')) (tE X.K W (r.ev c')) Y H Q:=by
 refine two o λZ0 ρ H g u w x y n f l r2 p=>?_;cases e:Jc c u w g with
 |none=>rw[e]at p;exact p.elim
 |some k=>
  refine d ρ H g u w x y k _ f l r2 e ⟨k,rfl,?_⟩;cases k with
  |false=>rw[e]at p;dsimp only at p;exact bB (okE p f rfl)
  |true=>
   rw[e]at p;dsimp only at p;refine bC ?_;refine⟨Z0,ρ,g,n,f,(post.bind p).mono λv H2 ⟨q,z,g2,s2,h2,j,p2⟩=>?_⟩;cases h:Jc YV w z g2 with
   |none=>rw[h]at p2;exact p2.elim
   |some m=>rw[h]at p2;dsimp only at p2;exact a q H2 g2 w z y v m Q h2 (RV.step s2 _ _ r2) j h (okE p2 h2 rfl)
def yI{g:Cp}{o o':CmpOp}(e:Bo X g o)(f:Bo X YV o')(h:lastMarks [o,o'] [b,c]=false)(k:PE X a (tE X.K W (r.ev a')))(j:PE X b (tE X.K W (r.ev b')))(i:PE X c (tE X.K W (r.ev c'))):
  PE X (.Compare a [o,o'] [b,c] pos) (tE X.K W (Jp C r (.chain g YV a' b' c'))):=by
 let⟨r2,e,imp⟩:=e;let⟨l,f,d⟩:=f;exact(yd e f k j i h).imp (pN imp d)
def yf{f:Su->G->Out U}(i:∀Y g u g',f Y g=.ok u g' ->∃c,u=.bl c)(Y:L2.St)(H:Hp)(Q:Bool->Hp->Prop)(e:tT X.K W (λY g=>(f Y g).bind λx g=>lift (Jd x g) g) Y H Q):tE X.K W f Y H (λx H1=>∃c,x=.bl c/\Q c H1):=by
 let⟨Z0,ρ,g,d,h,p⟩:=e;refine⟨Z0,ρ,g,d,h,?_⟩;have hk:=i Z0 g
 change post X.K W Ys ((f Z0 g).bind λx g=>lift (Jd x g) g) ρ H Q at p
 revert p hk;cases f Z0 g with
 |ok u g1=>
  intro hk p;let⟨c,rfl⟩:=hk u g1 rfl;intro v j H1 a h1 b;cases b;exact⟨c,rfl,p c j H1 a h1 rfl⟩
 |exc c fs g1=>exactλ_ p=>p
 |ZZ=>exactλ_ p=>p
def x6{a:Cp}(Y:Su)(g:G)(u:U)(g':G)(h:Jp C r (.chain a YV a' b' c') Y g=.ok u g'):∃c,u=.bl c:=by
 delta Jp at h;dsimp only at h
 revert h;cases r.ev a' Y g with
 |ok x g1=>
  simp![Out.bind];cases r.ev b' Y g1 with
  |ok y g2=>
   simp![Out.bind];cases Jc a x y g2 with
   |none=>intro h;cases h
   |some k=>
    cases k with
    |false=>intro h;cases h;exact⟨_,rfl⟩
    |true=>
     simp![];cases r.ev c' Y g2 with
     |ok z g3=>
      simp![Out.bind];cases Jc YV y z g3 with
      |none=>intro h;cases h
      |some k=>intro h;cases h;exact⟨_,rfl⟩
     |exc _ _ _=>intro h;cases h
     |ZZ=>intro h;cases h
  |exc _ _ _=>intro h;cases h
  |ZZ=>intro h;cases h
 |exc _ _ _=>intro h;cases h
 |ZZ=>intro h;cases h
def yL{h:Cp}{o o':CmpOp}(e:Bo X h o)(f:Bo X YV o')(j:lastMarks [o,o'] [b,c]=false)(m:PE X a (tE X.K W (r.ev a')))(l:PE X b (tE X.K W (r.ev b')))(k:PE X c (tE X.K W (r.ev c'))):
  PT X (.Compare a [o,o'] [b,c] pos) (tT X.K W (λY g=>(Jp C r (.chain h YV a' b' c') Y g).bind λx g=>lift (Jd x g) g)):=by
 let⟨r2,e,imp⟩:=e;let⟨n,f,d⟩:=f;exact(xN e f m l k j).imp λY H Q i=>pN imp d Y H _ (yf x6 Y H Q i)
def aaO(i:PE X a (tE X.K W (r.ev a')))(h:PE X (.BoolOp .And (b::ZQ) pos) (tE X.K W (r.ev b'))):PE X (.BoolOp .And (a::b::ZQ) pos) (tE X.K W (Jp C r (.and a' b'))):=by
 refine(aaI i h).imp λY H Q f=>one f λZ0 ρ H g u x e c d p=>?_;cases u with
 |bl k=>
  cases d;refine⟨k,rfl,?_⟩;cases k with
  |true=>exact bC ⟨Z0,ρ,g,e,c,p⟩
  |false=>exact bB (okE p c rfl)
 |_=>exact p.elim
def adM(i:PE X a (tE X.K W (r.ev a')))(h:PE X (.BoolOp .Or (b::ZQ) pos) (tE X.K W (r.ev b'))):PE X (.BoolOp .Or (a::b::ZQ) pos) (tE X.K W (Jp C r (.or a' b'))):=by
 refine(adN i h).imp λY H Q f=>one f λZ0 ρ H g u x e c d p=>?_;cases u with
 |bl k=>
  cases d;refine⟨k,rfl,?_⟩;cases k with
  |true=>exact bC (okE p c rfl)
  |false=>exact bB ⟨Z0,ρ,g,e,c,p⟩
 |_=>exact p.elim
def tF{k:Bool}(j:RH X.K ρ H g)(d:RV X.K ρ H u x)(e:Jd u g=some k):DA X.K x H k:=by
 have c:∀{O:List U} {vs:List V},RVs X.K ρ H O vs->(!O.isEmpty) = !vs.isEmpty:=λ{O vs} h=>by
  cases O with
  |nil=>cases h;rfl
  |cons u O=>let⟨v,r,rfl,_⟩:=h;rfl
 cases u with
 |ZN=>cases d;cases e;rfl
 |bl b=>cases d;cases e;rfl
 |int i=>cases d;cases e;rfl
 |str s=>simp[Jd]at e
 |Z1 O=>let⟨a,vs,rfl,h1,h2⟩:=d;cases e;exact .inr (.inl ⟨vs,h1.sq,c h2⟩)
 |Zm O=>let⟨a,vs,rfl,h1,h2⟩:=d;cases e;exact .inl ⟨vs,h1.sq,c h2⟩
 |ref n=>
  let⟨a,rfl,f⟩:=d;simp![Jd]at e;cases eg:g[n]? with
  |none=>simp[eg]at e
  |some o=>
   cases o with
   |S xs=>
    simp![eg,YJ]at e;subst e;let⟨a',vs,h1,h2,l⟩:=j.S eg;rw[f]at h1;cases h1;exact .inl ⟨vs,.of h2,c l⟩
   |ZV _=>simp[eg]at e
   |Zu _=>simp[eg]at e
   |dst _=>simp[eg]at e
   |ins _ _=>simp[eg]at e
 |xn _ _=>simp[Jd]at e
def acp(l:PE X a (tE X.K W (r.ev a'))):PE X (.UnaryOp .Not a pos) (tE X.K W (Jp C r (.not a'))):=by
 intro J s Y H Q I j;have m:tE X.K W (r.ev a') Y H (λx H1=>∃k,DA X.K x H1 k/\Q (.bl (!k)) H1):=one j λZ0 ρ H g u x t d c p=>by
  cases e:Jd u g with
  |none=>rw[e]at p;exact p.elim
  |some k=>rw[e]at p;dsimp only at p;exact⟨k,tF d c e,okE p d rfl⟩
 refine UnaryOp_ (thn (l J s Y H _ I m) ?_);rintro v f ⟨x,H1,o,c,k,tr,i⟩;exact not_of (thn (tB J f Y H1 x v (λb H2=>Q (.bl (!b)) H2) o c ⟨k,tr,i⟩) λb q ⟨H2,n,h⟩=>⟨.bl (!b),H2,n,rfl,h⟩)
def xW(ha:PE X a (tE X.K W (r.ev a')))(he:∀whole,isTrue a X.env whole=(do let v<-whole;standAt a.pos;holding [v] (truthy v))):PT X a (tT X.K W (λY g=>(r.ev a' Y g).bind λx g=>lift (Jd x g) g)):=by
 refine(xY ha he).imp λY H Q hp=>one (k:=λ_ x g=>lift (Jd x g) g) hp λZ0 ρ H g u x hs hg r1 p=>?_;let⟨k,e,p⟩:=post.lift p;exact⟨k,tF hg r1 e,post.Ze p hg rfl⟩
def abt(h:PT X a (tT X.K W (r.ts a')))(f:PW X (.BoolOp .And (b::ZQ) pos) (tT X.K W (r.ts b'))):PW X (.BoolOp .And (a::b::ZQ) pos) (tT X.K W (Jq r (.and a' b'))):=by
 refine(abj h f).imp ?_;rintro Y H Q ⟨Z0,ρ,g,d,e,p⟩;refine⟨Z0,ρ,g,d,e,(post.bind (R:=Ys) p).mono λk H1 ⟨j,k',g1,s1,h1,i,c⟩=>?_⟩;subst i;cases k' with
 |true=>exact bC ⟨Z0,j,g1,d.step s1,h1,c⟩
 |false=>exact bB (post.Ze c h1 rfl)
def ac7(h:PT X a (tT X.K W (r.ts a')))(f:PW X (.BoolOp .Or (b::ZQ) pos) (tT X.K W (r.ts b'))):PW X (.BoolOp .Or (a::b::ZQ) pos) (tT X.K W (Jq r (.or a' b'))):=by
 refine(ads h f).imp ?_;rintro Y H Q ⟨Z0,ρ,g,d,e,p⟩;refine⟨Z0,ρ,g,d,e,(post.bind (R:=Ys) p).mono λk H1 ⟨j,k',g1,s1,h1,i,c⟩=>?_⟩;subst i;cases k' with
 |true=>exact bC (post.Ze c h1 rfl)
 |false=>exact bB ⟨Z0,j,g1,d.step s1,h1,c⟩
def ack(e:PT X a (tT X.K W (r.ts a'))):PT X (.UnaryOp .Not a pos) (tT X.K W (Jq r (.not a'))):=by
 refine(acC e).imp ?_;rintro Y H Q ⟨Z0,ρ,g,c,d,p⟩;refine⟨Z0,ρ,g,c,d,(post.bind (R:=Ys) p).mono λk H1 ⟨h,k',g1,s1,h1,f,b⟩=>?_⟩;subst f;exact post.Ze b h1 rfl
def abY:PA X [] (Yg X.K W (Jl r.ev [])):=bq.imp λY H Q ⟨Z0,ρ,g,b,a,p⟩=>post.Ze (R:=RVs X.K) (u:=[]) p a rfl
def aaq(i:PE X a (tE X.K W (r.ev a')))(e:PA X es (Yg X.K W (Jl r.ev ZF)))(b:starEach (a::es) X.env=(false,eval a X.env)::starEach es X.env):PA X (a::es) (Yg X.K W (Jl r.ev (a'::ZF))):=by
 refine(aO i e b).imp λY H Q f=>one f λZ0 ρ H g u x b h c p=>?_;refine⟨Z0,ρ,g,b,h,(post.bind p).mono λxs H1 ⟨j,O,g1,s1,h1,rs,d⟩=>?_⟩;exact post.Ze (R:=RVs X.K) d h1 ⟨x,xs,rfl,RV.step s1 _ _ c,rs⟩
def szl(a:RVs X.K ρ H O vs)(h:O.length<=Ag):vs.length<=sizeLine:=by
 rw[<-a.length,Tb];unfold Ag at h;lia
def acA{k:Nat}(h:PA X es (Yg X.K W (Jl r.ev ZF))):PE X (.Tuple es k pos) (tE X.K W (Jp C r (.Z1 ZF))):=by
 refine(abU h).imp ?_;rintro Y H Q ⟨Z0,ρ,g,d,e,p⟩;refine⟨Z0,ρ,g,d,e,(post.bind (R:=RVs X.K) p).mono λxs H1 ⟨f,O,g1,s1,h1,rs,a⟩=>?_⟩;by_cases c:O.length<=Ag
 .rw [Xg c]at a
  refine⟨szl rs c,λq b=>?_⟩;exact a _ f _ (ZI.fresh b) (h1.step_fresh b) ⟨q,xs,rfl,upd_same,RVs.step (ZI.fresh b) _ _ rs⟩
 .rw [Xp c]at a;exact a.elim
def cv{Q:VK}(p:post X.K W (RV X.K) (alloc (.S O) g) ρ H Q)(b:RH X.K ρ H g)(c:RVs X.K ρ H O xs)(q:Addr)(a:H q=none):Q (.ref q) (upd H q (.S xs)):=by
 refine p (.ref q) (ρ++[q]) _ (ZI.alloc a) (b.alloc a c) ⟨q,rfl,?_⟩;rw[<-b.len];simp
def acr(h:PA X es (Yg X.K W (Jl r.ev ZF))):PE X (.List es pos) (tE X.K W (Jp C r (.S ZF))):=by
 refine(aaN h).imp ?_;rintro Y H Q ⟨Z0,ρ,g,c,e,p⟩;refine⟨Z0,ρ,g,c,e,(post.bind (R:=RVs X.K) p).mono λxs H1 ⟨f,O,g1,s1,h1,rs,a⟩=>?_⟩;by_cases b:O.length<=Ag
 .rw [Xg b]at a
  exact⟨szl rs b,λq d=>cv a h1 rs q d⟩
 .rw [Xp b]at a;exact a.elim
def zc{i:Int}(a:RVs X.K ρ H O vs)(e:Je O i=some u):∃v,atI vs i=some v/\RV X.K ρ H u v:=by
 unfold Je atI at e;unfold atI;rw[<-a.length];cases b:ixN O.length i with
 |none=>simp[b]at e
 |some j=>
  rw[b]at e;let⟨v,h1,h2⟩:=a.get (show O[j]?=some u from e);exact⟨v,h1,h2⟩
def abW(B:X.A.units+1<cLine)(m:PE X a (tE X.K W (r.ev a')))(E:PE X b (tE X.K W (r.ev b')))(t:DE b):PE X (.Subscript a b pos) (tE X.K W (Jp C r (.idx a' b'))):=by
 refine(adz ((aaG.or acm).or (zR B)) m E t).imp λY H Q D=>two D λZ0 ρ H g u w x y t c l r2 p=>?_;cases w with
 |int i=>
  cases r2;cases e:items u g with
  |none=>rw[e]at p;exact p.elim
  |some O=>
   rw[e]at p;dsimp only at p;let⟨z,j,p⟩:=post.lift p;let⟨q,vs,rfl,h,rs⟩:=cV c l e;let⟨v,ev,f⟩:=zc rs j;rcases h with h|h
   .exact .inl (.inl ⟨q,vs,i,v,rfl,rfl,h,ev,okE p c f⟩)
   .exact .inl (.inr ⟨q,vs,i,v,rfl,rfl,h,ev,okE p c f⟩)
 |Z1 O=>
  let⟨z,j,p⟩:=post.lift p;let⟨o,s,d⟩:=Wr.mp j;let⟨q,G,rfl,F,_,got⟩:=eA c r2 l s;let⟨v,rfl,f⟩:=got z d;exact .inr ⟨q,v,rfl,F,okE p c f⟩
 |str k=>
  let⟨z,j,p2⟩:=post.lift p;clear p;let⟨Z4,s,d⟩:=Wr.mp j;let⟨n,q,ws,rfl,_,_,rfl,m,rk⟩:=abD c l s;let⟨v,ev,f⟩:=rk.got k d;cases r2;exact .inr ⟨q,v,rfl,by rw[<-ev];exact DGet.k (k:=Sum.inr k) m,okE p2 c f⟩
 |_=>exact p.elim
def fo{K:HF}{ρ:List Addr}{H:Hp}:∀ns:List Int,RVs K ρ H (ns.map U.int) (ns.map V.int)
 |[]=>rfl
 |n::ns=>⟨.int n,ns.map V.int,rfl,rfl,fo ns⟩
def se_bi{b:Bi}{f:Str}{c:Pos}{a:List V->Hp->VK->Prop}(h:PE X (.Call (.Name f c) (e::es) [] pos) (IK a (Yg X.K W (Jl r.ev ZF))))
  (imp:∀ρ H g O xs Q,RH X.K ρ H g->RVs X.K ρ H O xs->post X.K W (RV X.K) (Jj b O g) ρ H Q->a xs H Q):PE X (.Call (.Name f c) (e::es) [] pos) (tE X.K W (Jp C r (.bi b ZF))):=by
 refine h.imp ?_;rintro Y H Q ⟨Z0,ρ,g,i,j,p⟩;exact⟨Z0,ρ,g,i,j,(post.bind (R:=RVs X.K) p).mono λxs H1 ⟨k,O,g1,s1,h1,rs,d⟩=>imp k H1 g1 O xs Q h1 rs d⟩
def imp_len(ρ:List Addr)(H:Hp)(g:G)(O:List U)(xs:List V)(Q:VK)(b:RH X.K ρ H g)(a:RVs X.K ρ H O xs)(p:post X.K W (RV X.K) (Jj .len O g) ρ H Q):
  ∃p ys,xs=[.ref p]/\(SqL X.K H p ys\/SqT X.K H p ys)/\Q (.int ys.length) H:=by
 match O,a with
 |[u],a=>
  let⟨x,r',rfl,d,e⟩:=a;cases e;simp![Jj,C5,Cr]at p;cases e:items u g with
  |none=>rw[e]at p;exact p.elim
  |some zs=>
   rw[e]at p;dsimp only at p;let⟨q,vs,rfl,f,c⟩:=cV b d e;exact⟨q,vs,rfl,f,by rw[<-c.length];exact okE p b rfl⟩
 |[],_=>exact p.elim
 |_::_::_,_=>exact p.elim
def imp_abs(ρ:List Addr)(H:Hp)(g:G)(O:List U)(xs:List V)(Q:VK)(c:RH X.K ρ H g)(a:RVs X.K ρ H O xs)(p:post X.K W (RV X.K) (Jj .abs O g) ρ H Q):
  ∃i,xs=[.int i]/\Q (.int (if i<0 then -i else i)) H:=by
 match O,a with
 |[u],a=>
  let⟨x,r',rfl,b,e⟩:=a;cases e;cases u with
  |int i=>cases b;exact⟨i,rfl,okE p c rfl⟩
  |_=>exact p.elim
 |[],_=>exact p.elim
 |_::_::_,_=>exact p.elim
def pM{ns:List Int}(j:RH X.K ρ H g)(b:RVs X.K ρ H O xs)(e:A3 O g=some ns):∃p,xs=[.ref p]/\H p=some (.S (ns.map V.int)):=by
 match O,b with
 |[],_=>cases e
 |_::_::_,_=>unfold A3 at e;split at e<;>first|cases e|(rename_i h;cases h)
 |[u],b=>
  let⟨x,r',rfl,f,e'⟩:=b;cases e';cases u with
  |ref n=>
   simp![A3]at e;cases eg:g[n]? with
   |none=>rw[eg]at e;cases e
   |some ob=>
    cases ob with
    |S O=>
     rw[eg]at e;let⟨a,vs,i,k,d⟩:=j.S eg;let⟨a',rfl,c⟩:=f;rw[i]at c;cases c;exact⟨a,rfl,by rw[k,dW e d]⟩
    |_=>rw[eg]at e;cases e
  |_=>cases e
def imp_mm{b:Bi}(j:∀O g,Jj b O g=BA m O g)(ρ:List Addr)(H:Hp)(g:G)(O:List U)(xs:List V)(Q:VK)(d:RH X.K ρ H g)(h:RVs X.K ρ H O xs)(p:post X.K W (RV X.K) (Jj b O g) ρ H Q):JA m xs H Q:=by
 rw[j]at p;unfold BA at p;cases e:intsOf O with
 |some ns=>
  have ex:=dW e h;subst ex;rw[e]at p;dsimp only at p
  match ns,p with
  |[a,b],p=>exact .inl ⟨a,b,rfl,okE p d rfl⟩
  |[a,b,c],p=>exact .inr (.inl ⟨a,b,c,rfl,okE p d rfl⟩)
  |[],p=>exact p.elim
  |[_],p=>exact p.elim
  |_::_::_::_::_,p=>exact p.elim
 |none=>
  rw[e]at p;dsimp only at p;cases f:A3 O g with
  |none=>rw[f]at p;exact p.elim
  |some ns=>
   rw[f]at p;dsimp only at p;let⟨q,rfl,i⟩:=pM d h f;cases ns with
   |nil=>exact p.elim
   |cons a r=>exact .inr (.inr ⟨q,a,r,rfl,i,okE p d rfl⟩)
def zC:PE X (.Dict [] [] pos) (tE X.K W (Jp C r .XT)):=by
 refine(yc).imp ?_;rintro Y H Q ⟨Z0,ρ,g,c,b,p⟩ q a;refine p (.ref q) (ρ++[q]) _ (ZI.alloc a) (b.Uq a ⟨[],rfl,rfl⟩) ⟨q,rfl,?_⟩;rw[<-b.len];simp
end
open PySem PySem.Spec PyProof.Rows L2 PySem.W
section
def imp_list(ρ:List Addr)(H:Hp)(g:G)(O:List U)(xs:List V)(Q:VK)(b:RH X.K ρ H g)(a:RVs X.K ρ H O xs)(p:post X.K W (RV X.K) (Jj .list O g) ρ H Q):
  (∃p ys,xs=[.ref p]/\(SqL X.K H p ys\/SqT X.K H p ys) /\∀l,H l=none->Q (.ref l) (upd H l (.S ys))):=by
 match O,a with
 |[u],a=>
  let⟨x,r',rfl,d,e⟩:=a;cases e;simp![Jj,Cr]at p;cases e:items u g with
  |none=>
   rw[e]at p;exact p.elim
  |some zs=>
   rw[e]at p;dsimp only at p;let⟨q,vs,rfl,f,c⟩:=cV b d e;exact⟨q,vs,rfl,f,λl h=>cv p b c l h⟩
 |[],_=>exact p.elim
 |_::_::_,_=>exact p.elim
def imp_srt(ρ:List Addr)(H:Hp)(g:G)(O:List U)(xs:List V)(Q:VK)(c:RH X.K ρ H g)(d:RVs X.K ρ H O xs)(p:post X.K W (RV X.K) (Jj .Vh O g) ρ H Q):
  ∃(p:Addr) (ns:List Int),xs=[.ref p]/\H p=some (.S (ns.map V.int))/\ns.length<64 /\∀l,H l=none->Q (.ref l) (upd H l (.S ((sortI ns).map V.int))):=by
 simp![Jj,CY]at p;cases b:A3 O g with
 |none=>rw[b]at p;exact p.elim
 |some ns=>
  rw[b]at p;dsimp only at p;let⟨q,rfl,e⟩:=pM c d b;by_cases a:ns.length<64
  .rw [Xg a]at p
   exact⟨q,ns,rfl,e,a,λl h=>cv p c (fo _) l h⟩
  .rw [Xp a]at p;exact p.elim
def call_srtX(b:X.calm=true)(a:X.A.units+2<cLine):CallR X (.builtin "sorted") (λxs H Q=>∃(p:Addr) (ns:List Int),xs=[.ref p]/\H p=some (.S (ns.map V.int))/\ns.length<64 /\∀l,H l=none->Q (.ref l) (upd H l (.S ((sortI ns).map V.int)))):=x9
end
section
variable{E:Value->Shared->Prop}
def xX{id:String}{o:Addr}{es:Array DictEntry}{Q:Array DictEntry->Shared->Prop}(ho:s.heap.get? o=some oo)(hd:oo.data=.dict es ep)
  (hk:∀e∈es,∃b,e.key=.ref b/\s.TypeIs (.ref b) "tuple") (hh:∀e∈es,¬ (es.filter (·.hash==e.hash)).size > 1) (h:Q es s):wpAny (model prog w) A (Builtin.Dict.entriesForEmpty id o) Q E s:=by
 unfold Builtin.Dict.entriesForEmpty;refine ZB (Sf ho hd (ZB ?_));rw [<-Array.forIn_toList];have all:∀ l:List DictEntry,(∀ e∈l,e∈es)->wpAny (model prog w) A (forIn l PUnit.unit λe (_:PUnit)=>(do
   let q<-Builtin.Dict.quietEq e.key
   if(!q)=true then
    if(es.filter (·.hash==e.hash)).size > 1 then(do let _<-(unsupported s!"{id}:keys-of-equal-hash" : Sem PUnit);pure (ForInStep.yield PUnit.unit))else pure (ForInStep.yield PUnit.unit)
   else pure (ForInStep.yield PUnit.unit):Sem (ForInStep PUnit))) (λ_ s'=>wpAny (model prog w) A (pure es) Q E s') E s:=λl=>by
  induction l with
  |nil=>intro _;rw[Qh];exact ZP (ZP h)
  |cons e l ih=>
   intro hl;let⟨b,hb,ht⟩:=hk e (hl e (.head _));rw[SN,hb];refine ZB (ZB ?_);show wpAny _ _ (specialOf (.ref b) "__eq__" >>= _) _ _ _;refine ZB (Qb ht F.slot_tuple_eq.lookup (ZP ?_));rw[Xg #[1],Xp (hh e (hl e (.head _)))]
   exact ZP (ih λx hx=>hl x (.tail _ hx))
 exact all es.toList λe he=>Rk.mp he
def xJ{C:String}{d o:Addr}{k:Obj}{a:Array DictEntry}{j:Nat}{Q:Unit->Shared->Prop}(G:d≠o)(c:(o==sysModules)=false)(y:s.heap.get? d=some k)(B:k.data=.dict #[] j)
  (r:s.heap.get? o=some oo) (u:oo.data=.dict a ep) (t:∀e∈a,∃b,e.key=.ref b/\s.TypeIs (.ref b) "tuple") (D:∀e∈a,¬ (a.filter (·.hash==e.hash)).size > 1) (H:a.size<=sizeLine) (f:0<a.size)
  (h:Q Unit.unit {s with heap:=s.heap.update d (Obj.mapDictKeys λ_=>a)}):wpAny (model prog w) A (Builtin.Dict.mergeDict C d o) Q E s:=by
 have g:(decide (a.size<=8)&&a.all λe=>(keyPart e.key).isSome)=false:=by
  rw[Bool.and_eq_false_iff]
  right
  rw[<-Rc,Array.all_eq_true];intro z;let⟨b,F,_⟩:=t a[0] (Array.getElem_mem f);have:=z 0 f;rw[F]at this;cases this
 unfold Builtin.Dict.mergeDict;rw[Xp (by simpa using G)]
 unfold Builtin.Dict.showsAll;rw[Xp (by rw[c];exact Hy)]
 refine ZB (ZP (ZB (Sf r u ?_)));dsimp only;rw[g,Xg #[2]]
 refine ZB (Sf y B ?_);rw[Xg #[2]]
 refine ZB (xX r u t D ?_);rw[Xg (by simp![WL,Array.isEmpty_eq_false_iff];rintro rfl;exact absurd f (Ta _))]
 exact ZB (wpAny_updateDictKeysTo y B (ZP h) (by lia))
def yN{o:Addr}{a:Array DictEntry}(c:(o==sysModules)=false)
  (d:s.heap.get? o=some oo) (k:oo.ExactDict) (z:oo.data=.dict a ep) (t:∀e∈a,∃b,e.key=.ref b/\s.TypeIs (.ref b) "tuple") (u:∀e∈a,¬ (a.filter (·.hash==e.hash)).size > 1) (r:a.size<=sizeLine) (B:0<a.size)
  (h:Q (.ref s.heap.objs.size) {s with heap:=(s.heap.push {cls:=.type "dict",data:=.dict #[]}).update s.heap.objs.size (Obj.mapDictKeys λ_=>a)}):wpAny (model prog w) A (call (.type "dict") [.ref o]) Q E s:=by
 refine callType_codes (Q₁:=λobj f=>obj=.ref s.heap.objs.size/\f = {s with heap:=s.heap.push {cls:=.type "dict",data:=.dict #[]}}) F.kt_called_dict (F.kt_typeCall_dict_1 _) F.entry_dict_init (kt_code_dict_new _ ⟨rfl,rfl⟩) ?_
 rintro obj f ⟨rfl,rfl⟩;have j:(s.heap.push {cls:=.type "dict",data:=.dict #[]}).get? s.heap.objs.size=some {cls:=.type "dict",data:=.dict #[]}:=HD _ rfl;have tn:({s with heap:=s.heap.push {cls:=.type "dict",data:=.dict #[]}}:Shared).TypeIs (.ref s.heap.objs.size) "dict":=⟨_,j,rfl⟩
 have g:(s.heap.push {cls:=.type "dict",data:=.dict #[]}).get? o=some oo:=Hv _ d;have to:({s with heap:=s.heap.push {cls:=.type "dict",data:=.dict #[]}}:Shared).TypeIs (.ref o) "dict":=⟨_,g,k.1⟩
 refine⟨tn,F.args_dict_init_2 _ _,?_⟩;unfold Builtin.«dict.__init__»;refine ZB ?_;unfold Builtin.Dict.selfAndRest;refine ZB (wpAny_notOrdered_dict tn ?_);show wpAny _ _ (pure (s.heap.objs.size,[Value.ref o])) _ _ _;refine ZP ?_;show wpAny _ _ (Builtin.Dict.updateFrom "dict.__init__" s.heap.objs.size (.ref o) [] .none) _ _ _;unfold Builtin.Dict.updateFrom;refine ZB (wpAny_typeOf to ?_);rw[Xp #[1]]
 refine ZB ?_;unfold Builtin.Dict.merge;refine ZB ?_;unfold Builtin.Dict.readDirectly;refine ZB (wpAny_isInstance to isSubtype_dict_dict ?_);simp![Rg,XZ,VC];refine ZB (Qb to F.slot_dict_iter.lookup (ZP ?_));simp![Sl,Vy];refine ZB (ZP ?_);refine xJ (So (Hw d)) c j rfl g z (λe y=>?_) u r B ?_
 .obtain ⟨b,G,ob,D,C⟩:=t e y
  exact⟨b,G,ob,Hv _ D,C⟩
 .show wpAny _ _ (Builtin.Dict.addKeywords s.heap.objs.size [] >>= _) _ _ _
  exact ZB (ZP (ZP ⟨rfl,h⟩))
end
variable{o:Expr}{ys:List (List Key×Addr×Value)}{p2 p:Pos}{n:Nat}{rr:V->List V->Hp->VK->Prop}{Z9:It}{is:List Nat}
def uN:∀{l:List DictEntry} (_:(l.map (·.hash)).Nodup) (h:Int),(l.filter (·.hash==h)).length<=1
 |[],_,_=>SQ _
 |e::l,nd,h=>by
  rw[Y3,Wl]at nd;rw[List.filter_cons];split
  .rename_i z
   have:l.filter (·.hash==h)=[]:=SY.mpr λx a y=>nd.1 (by rw[eq_of_beq z,<-eq_of_beq y];exact Wa.mpr ⟨x,a,rfl⟩)
   rw[this];exact Hz _
  .exact uN nd.2 h
def wR{l:Addr}{o:HO}(c:H l=none){a:List (List Key×V)}(b:Paired (λ(p:List Key×V) (q:List Key×Addr×Value)=>p.1=q.1/\H q.2.1=some (.Z1 (p.1.map Ie))/\RelV p.2 q.2.2) a ys):
  Paired (λ(p:List Key×V) (q:List Key×Addr×Value)=>p.1=q.1/\upd H l o q.2.1=some (.Z1 (p.1.map Ie))/\RelV p.2 q.2.2) a ys:=by
 induction b with
 |nil=>exact .nil
 |cons z _ ih=>exact .cons ⟨z.1,by rw[af (λe=>by have:=z.2.1;rw[e,c]at this;cases this)];exact z.2.1,z.2.2⟩ ih
section
def F1(X:Cx):List V->Hp->VK->Prop:=λxs H Q=>∃(a:Addr) (ws:List (List Key×V)) (ks:List (List Int)),xs=[.ref a]/\Rd H a (.dT ws)/\ws.map (·.1)=ks.map (λk=>k.map Sum.inl)/\ks≠[]/\(∀a∈ks,∀b∈ks,hkL a=hkL b->a=b) /\∀l,H l=none->Q (.ref l) (upd H l (.dT ws))
def call_dct:CallR X (.type "dict") (F1 X):=by
 intro J s Y H xs O Q I r ⟨a,ws,ks,e,t,j,ZC,L,q⟩;subst e;let⟨u,rfl,F⟩:=vals1 r;cases F;let⟨h1,h2,ys,A,o,es,ep,P,N,M,g,d⟩:=(show ObjOk X.prog X.w H s.heap a (.dT ws)from t.ok I.ZL);have C:ys.map (·.1)=ks.map (λk=>k.map (Sum.inl:Int->Key)):=by
  rw[<-j];clear h1 g d j q t
  induction A with
  |nil=>rfl
  |cons z _ ih=>rw[Y3,Y3,ih,z.1]
 have Z1:∀y∈ys,∃xs,H y.2.1=some (.Z1 xs):=by
  clear h1 g d j q t C
  induction A with
  |nil=>exactλy c=>nomatch c
  |cons z _ ih=>
   intro y c;rcases YG.mp c with rfl|c
   .exact ⟨_,z.2.1⟩
   .exact ih y c
 have E:es.toList.map (·.hash)=ks.map hkL:=by
  rw[g,UW];have:((λe:DictEntry=>e.hash) ∘ entryOfKey (tupleKind (Az X.prog X.w)))=(λk=>(tupleKind (Az X.prog X.w)).hash k) ∘ (λy:List Key×Addr×Value=>y.1):=rfl;rw[this,<-UW,C,UW];refine SJ λk _=>?_;show reduceHash (Builtin.Tuple.tupleHashOf ((k.map Sum.inl).map (Az X.prog X.w).hash))=reduceHash (Builtin.Tuple.tupleHashOf (k.map hashInt));rw[UW];rfl
 have nd:(es.toList.map (·.hash)).Nodup:=by
  rw[E];rw[C]at d;exact S0.mpr ((S0.mp d).imp_of_mem λ{x y} K c z e=>z (by rw[L x K y c e]))
 have G:es.size=ks.length:=by rw[<-Va,<-Yj (f:=(·.hash)),E,Yj]
 have T:ks.length=ws.length:=by rw[<-Yj (f:=(·.1)) (as:=ws),j,Yj]
 have S:0<es.size:=by rw[G];exact List.length_pos_iff.mpr ZC
 have fresh:=I.ZL.fresh (Hz s.heap.objs.size);refine yN h2 P N M (λe D=>?_) (λe D=>?_) (by lia) S ?_
 .have:e∈ys.map (entryOfKey (tupleKind (Az X.prog X.w))):=by rw[<-g];exact Rk.mpr D
  let⟨y,c,rfl⟩:=Wa.mp this;let⟨zs,B⟩:=Z1 y c;let⟨_,ZY,_,ob,Ks,o2,_⟩:=(show ObjOk X.prog X.w H s.heap y.2.1 (.Z1 zs)from I.ZL _ _ B);exact⟨y.2.1,rfl,ob,Ks,o2⟩
 .rw [<-Va,Array.toList_filter]
  exact Nat.not_lt.mpr (uN nd e.hash)
 .have R:(s.heap.push {cls:=.type "dict",data:=.dict #[]}).get? s.heap.objs.size=some {cls:=.type "dict",data:=.dict #[]}:=HD _ rfl
  refine⟨.ref s.heap.objs.size,_,I.laid (t':=s.toks) (o:=.dT ws) (λb ob e=>?_) (Hz _) ?_,rfl,q _ fresh⟩
  .exact ((Rq _ _ _).2 b (HC (Hw e))).trans (Hv _ e)
  .refine ⟨h1,Ue.mpr (Ne.symm (HC I.Yv)),ys,?_,_,es,_,S4 _ R (Obj.isFreed_of_dict (Obj.data_mapDictKeys rfl _)),Obj.ExactDict.mapDictKeys ⟨rfl,rfl,rfl⟩ _,Obj.data_mapDictKeys rfl _,g,d⟩
   exact wR fresh A
def imp_dct(ρ:List Addr)(H:Hp)(g:G)(O:List U)(xs:List V)(Q:VK)(d:RH X.K ρ H g)(c:RVs X.K ρ H O xs)(p:post X.K W (RV X.K) (Jj .Vg O g) ρ H Q):F1 X xs H Q:=by
 match O,c with
 |[u],c=>
  let⟨x,r',rfl,i,e⟩:=c;cases e;simp![Jj,CZ]at p;cases ed:Ja u g with
  |none=>rw[ed]at p;exact p.elim
  |some Z4=>
   rw[ed]at p;dsimp only at p;by_cases hk:Z4≠[] /\∀a∈Z4.map (·.1),∀b∈Z4.map (·.1),hkL a=hkL b->a=b
   .rw [Xg hk]at p
    let⟨a,ws,rfl,h,r2⟩:=ue d i ed;refine⟨a,ws,Z4.map (·.1),rfl,h,by rw[sk r2,UW];rfl,by simpa using hk.1,hk.2,λl f=>?_⟩
    refine p (.ref l) (ρ++[l]) _ (ZI.alloc f) (d.Uq f ⟨ws,rfl,r2⟩) ⟨l,rfl,?_⟩;rw[<-d.len];simp
   .rw [Xp hk]at p;exact p.elim
 |[],_=>exact p.elim
 |_::_::_,_=>exact p.elim
end
open PySem PySem.Spec PyProof.Rows L2
section
variable{a b c:Expr}{b' c':E}{lo hi:Option Expr}{lo' VZ:Option E}
abbrev CJ(K:HF)(W:XQ)(f:Su->G->Out (Option Int)):TO:=tR K W Ys f
def zZ:PO X none (CJ X.K W (Jm r.ev none)):=λJ s Y H Q I ⟨Z0,ρ,g,b,a,p⟩=>y9 J s Y H Q I (post.Ze (R:=Ys) p a rfl)
def aad(h:PE X e (tE X.K W (r.ev e'))):PO X (some e) (CJ X.K W (Jm r.ev (some e'))):=λJ s Y H Q I b=>by
 refine aat h J s Y H Q I (one (k:=λ_ u g=>match u with|.int i=>Out.ok (some i) g|_=>.ZZ) b λZ0 ρ H g u x d c a p=>?_)
 cases u with
 |int i=>cases a;exact⟨i,rfl,post.Ze (R:=Ys) p c rfl⟩
 |_=>exact p.elim
def gX{l h:Option Int}(a:RVs X.K ρ H O vs):RVs X.K ρ H (Bc O l h) (BH vs l h):=by
 unfold Bc BH;rw[a.length];exact(a.drop _).take _
def ab9(w:PE X a (tE X.K W (r.ev a')))(s:PO X lo (CJ X.K W (Jm r.ev lo')))(t:PO X hi (CJ X.K W (Jm r.ev VZ))):PE X (.Subscript a (.Slice lo hi none p2) pos) (tE X.K W (Jp C r (.XU a' lo' VZ))):=by
 refine(yO (zQ.or aa5) w s t).imp ?_;rintro Y H Q ⟨Z0,ρ,g,e,v,p⟩;refine⟨Z0,ρ,g,e,v,(post.bind p).mono λx H1 ⟨B,u,g1,s1,h1,j,m⟩=>?_⟩;refine⟨Z0,B,g1,e.step s1,h1,(post.bind (R:=Ys) m).mono λl H2 ⟨A,F,g2,s2,h2,z,p2⟩=>?_⟩;subst z;refine⟨Z0,A,g2,(e.step s1).step s2,h2,(post.bind (R:=Ys) p2).mono λh H3 ⟨D,h',g3,s3,h3,y,b⟩=>?_⟩;subst y;have d:=RV.step s3 _ _ (RV.step s2 _ _ j);cases u with
 |Z1 O=>
  let⟨q,vs,rfl,c,t2⟩:=d;refine .inr ⟨q,vs,rfl,c.sq,?_⟩;simp![]at b;rw[t2.length]at b;split at b
  .exact b.elim
  .rename_i f
   refine⟨f,λk hk=>?_⟩;exact b _ D _ (ZI.fresh hk) (h3.step_fresh hk) ⟨k,_,rfl,upd_same,RVs.step (ZI.fresh hk) _ _ (gX t2)⟩
 |Zm O=>
  let⟨q,vs,rfl,c,t2⟩:=d;exact .inl ⟨q,vs,rfl,c.sq,λk hk=>cv b h3 (gX t2) k hk⟩
 |ref n=>
  let⟨q,rfl,f⟩:=d;simp![]at b;cases eg:g3[n]? with
  |none=>rw[eg]at b;exact b.elim
  |some o=>
   cases o with
   |S O=>
    rw[eg]at b;dsimp only at b;let⟨E,vs,c,t2,i⟩:=h3.S eg;rw[f]at c;cases c;exact .inl ⟨q,vs,rfl,.of t2,λk hk=>cv b h3 (gX i) k hk⟩
   |ZV _=>rw[eg]at b;exact b.elim
   |Zu _=>rw[eg]at b;exact b.elim
   |dst _=>rw[eg]at b;exact b.elim
   |ins _ _=>rw[eg]at b;exact b.elim
 |_=>exact b.elim
def aa3{k:Nat}{N M:Pos}(Z:PE X a (tE X.K W (r.ev a'))):PE X (.Subscript a (.Slice none none (some (.UnaryOp .USub (.Constant (.int 1) k N) M)) p2) pos) (tE X.K W (Jp C r (.rev a'))):=by
 intro J s Y H Q I U;have X3:tE X.K W (r.ev a') Y H (λx H1=>∃q vs,x=.ref q/\H1 q=some (.S vs) /\∀k,H1 k=none->Q (.ref k) (upd H1 k (.S vs.reverse))):=one U λZ0 ρ H g u x hs B d p=>by
  cases u with
  |ref n=>
   let⟨q,rfl,V⟩:=d;simp![]at p;cases eg:g[n]? with
   |none=>rw[eg]at p;exact p.elim
   |some o=>
    cases o with
    |S O=>
     rw[eg]at p;dsimp only at p;let⟨q',vs,w,t2,E⟩:=B.S eg;rw[V]at w;cases w;exact⟨q,vs,rfl,t2,λk hk=>cv p B E.reverse k hk⟩
    |ZV _=>rw[eg]at p;exact p.elim
    |Zu _=>rw[eg]at p;exact p.elim
    |dst _=>rw[eg]at p;exact p.elim
    |ins _ _=>rw[eg]at p;exact p.elim
  |_=>exact p.elim
 refine Subscript_ (thn (Z J s Y H _ I X3) ?_);rintro v F ⟨x,H1,I1,d,L⟩;let⟨q,vs,rfl,R,f⟩:=L;cases d;refine wpAny_Slice ?_;rw[evalPart_none];refine ZP (ZP ?_);rw[evalPart_some];refine thn (ur sm tS J F Y H1 (λx H2=>x=.int (-1)/\H2=H1) I1 ⟨1,rfl,rfl,rfl⟩) ?_;rintro D c ⟨z,H2,I2,G,ez,eh⟩;subst ez;subst eh;let⟨t,rfl⟩:=G;have j:L2.Z2 X J Y H2 {c with heap:=c.heap.push {cls:=.type "slice",data:=.fields #[.none,.none,.int (-1) t]}}:=I2.kept (t':=c.toks) λb ob q=>Hv _ q
 let⟨ZY,n,y,ho,P⟩:=j.S R;have A:Heap.IsList (c.heap.push {cls:=.type "slice",data:=.fields #[.none,.none,.int (-1) t]}) q ZY.toArray:=⟨_,ho,rfl,n,rfl⟩;have hlen:=y.length;refine tail_any (ops:=[.ref q,.ref c.heap.objs.size]) (T:="list") A.typeIs slot_list_getitem.lookup ?_ (by with_unfolding_all rfl)
 refine wpAny_getItem_list_slice A (Heap.IsSliceOf.new ..) .none .none (.int (-1) t) #[3] ?_ (by rw[Xz];omega)
 rw[PySem.W.krv_pick];have hf:=j.ZL.fresh (Hz _);refine⟨.ref _,_,j.laid (t':=c.toks) (o:=.S vs.reverse) (λb ob q=>Hv _ q) (Hz _) ?_,rfl,f _ hf⟩;exact⟨by rw[Rr];exact P,ZY.reverse,0,y.reverse,HD _ rfl⟩
def tyName:Ty->String
 |.Wg=>"int"|.We=>"bool"|.Vf=>"str"|.Ve=>"tuple"|.VI=>"list"|.own _=>"?"
noncomputable def Ty.isB(t:Ty):Bool:=match t with|.own _=>false|_=>true
def abc{t:Ty}{k:Bool}{Y:L2.St}{v:Value}{Q:VK}(I:L2.Z2 X J Y H s)(y:RH X.K ρ H g)(f:RV X.K ρ H u x)(d:RelV x v)
  (c:t.isB=true) (e:AI t u g=some k) (q:Q (.bl k) H):wpAny (model X.prog X.w) X.A (call (.builtin "isinstance") [v,.type (tyName t)]) (EP X J Y Q) X.xe s:=by
 have a:∀tk,EP X J Y Q (.bool k) {s with toks:=tk}:=λtk=>⟨.bl k,H,I.tok tk,rfl,q⟩
 have j:∀{p:Addr} {O:List U} {vs:List V},SqT X.K H p vs->AI t (.Z1 O) g=some k->wpAny (model X.prog X.w) X.A (call (.builtin "isinstance") [.ref p,.type (tyName t)]) (EP X J Y Q) X.xe s:=λ{p O vs} h e=>by
  let⟨ZY,_,⟨o,h1,h2,_⟩,_⟩:=I.tuple h;cases t<;>first|(cases c;done)|(simp![AI,YJ,reduceCtorEq]at e;subst e;exact Sz PySem.W.kitx_tuple I.YU ⟨o,h1,h2⟩ rfl (λz=>nomatch z) a)
 have l:∀{p:Addr} {vs:List V},SqL X.K H p vs->CB t=some k->wpAny (model X.prog X.w) X.A (call (.builtin "isinstance") [.ref p,.type (tyName t)]) (EP X J Y Q) X.xe s:=λ{p vs} h e=>by
  let⟨ZY,_,⟨o,n,h1,h2,_⟩,_⟩:=I.list h;cases t<;>first|(cases c;done)|(simp![CB,YJ,reduceCtorEq]at e;subst e;exact Sz PySem.W.kitx_list I.YU ⟨o,h1,h2⟩ rfl (λz=>nomatch z) a)
 cases u with
 |ZN=>cases f;cases d;cases t<;>first|(cases c;done)|(simp![AI,YJ,reduceCtorEq]at e;subst e;exact Sz PySem.W.kitx_none I.YU True.intro rfl (λz=>nomatch z) a)
 |bl b=>cases f;cases d;cases t<;>first|(cases c;done)|(simp![AI,YJ,reduceCtorEq]at e;subst e;exact Sz PySem.W.kitx_bool I.YU True.intro rfl (λz=>nomatch z) a)
 |int i=>cases f;let⟨tk,rfl⟩:=d;cases t<;>first|(cases c;done)|(simp![AI,YJ,reduceCtorEq]at e;subst e;exact Sz PySem.W.kitx_int I.YU True.intro rfl (λz=>nomatch z) a)
 |str z=>cases f;let⟨tk,rfl⟩:=d;cases t<;>first|(cases c;done)|(simp![AI,YJ,reduceCtorEq]at e;subst e;exact Sz PySem.W.kitx_str I.YU True.intro rfl (λz=>nomatch z) a)
 |Z1 O=>let⟨p,vs,rfl,h1,h2⟩:=f;cases d;exact j h1.sq e
 |Zm O=>simp[AI]at e
 |ref n=>
  let⟨p,rfl,r⟩:=f;cases d;simp![AI]at e;cases eg:g[n]? with
  |none=>rw[eg]at e;dsimp only at e;cases e
  |some o=>
   cases o with
   |S O=>
    rw[eg]at e;dsimp only at e;let⟨C,vs,m,t2,B⟩:=y.S eg;rw[r]at m;cases m;exact l (.of t2) e
   |ZV _=>rw[eg]at e;dsimp only at e;cases e
   |Zu _=>rw[eg]at e;dsimp only at e;cases e
   |dst _=>rw[eg]at e;dsimp only at e;cases e
   |ins _ _=>rw[eg]at e;dsimp only at e;cases t<;>first|(cases c;done)|cases e
 |xn _ _=>simp[AI]at e
def acM{t:Ty}{c:Str}{A:Pos}(G:t.isB=true)(P:c=Str.ofString (tyName t))(w:Gl X c)(M:X.mg c=none)(N:bootBuiltins c=some (.type (tyName t)))(D:c ≠ "__name__")(L:(c==("__debug__" : Str))=false)
  (d:Gl X "isinstance") (E:X.mg "isinstance" = none) (F:PE X a (tE X.K W (r.ev a'))) (o:∀es,starEach (a::es) X.env=(false,eval a X.env)::starEach es X.env) :
  PE X (.Call (.Name "isinstance" A) [a,.Name c p2] [] pos) (tE X.K W (Jp C r (.YR a' t))):=by
 have hc:CallR X (.builtin "isinstance") (λxs H Q=>∃x ρ g u k,xs=[x,.ty (tyName t)]/\RH X.K ρ H g/\RV X.K ρ H u x/\AI t u g=some k/\Q (.bl k) H):=by
  intro J s Y H xs O Q I rs ⟨x,ρ,g,u,k,e,d,j,f,q⟩;subst e;cases rs with
  |cons z rs=>
   cases rs with
   |cons y rs=>
    cases rs;cases y;exact abc I d j z G f q
 refine(pe_callB hc d E #[2] (aO F (aO (y4 (v:=.ty (tyName t)) w M N rfl D L) bq rfl) (o _)) #[1] #[1] (o _) rfl).imp λY H Q B=>?_
 refine one B λZ0 ρ H g u x o d j p=>?_;cases f:AI t u g with
 |none=>rw[f]at p;exact p.elim
 |some k=>rw[f]at p;dsimp only at p;exact⟨x,ρ,g,u,k,rfl,d,j,f,okE p d rfl⟩
def be(e:RH X.K ρ H g)(d:RV X.K ρ H (.ref n) x)(f:g[n]?=some (.S O)):∃q vs,x=.ref q/\ρ[n]?=some q/\H q=some (.S vs)/\RVs X.K ρ H O vs:=by
 let⟨q,rfl,b⟩:=d;let⟨h,vs,a,t2,c⟩:=e.S f;rw[b]at a;cases a;exact⟨q,vs,rfl,b,t2,c⟩
def bK{x:U}(e:Jk x g=some n):x=.ref n /\∃O,g[n]?=some (.S O):=by
 cases x<;>simp![Jk,reduceCtorEq]at e
 rename_i m;cases eg:g[m]? with
 |none=>simp[eg]at e
 |some o=>
  cases o with
  |S O=>simp![eg,YJ]at e;subst e;exact⟨rfl,O,eg⟩
  |ZV _=>simp[eg]at e
  |Zu _=>simp[eg]at e
  |dst _=>simp[eg]at e
  |ins _ _=>simp[eg]at e
def sV{name:Str}{e:String}{f:Nat->U->G->Out U}(c:Slot "list" name e)(D:typeOf (.builtin e)=pure (.type "method_descriptor"))(j:MtR X e rr)
  (imp:∀ρ H g n q y v Q,RH X.K ρ H g->ρ[n]?=some q->RV X.K ρ H y v->post X.K W (RV X.K) (f n y g) ρ H Q->rr (.ref q) [v] H Q)
  (k:PE X o (tE X.K W (r.ev o'))) (s:PE X a (tE X.K W (r.ev a'))) (B:attributeBase o name X.env (eval o X.env)=eval o X.env) (C:(apos.endLine==Zf.line)=true)
  (b:∀ es,starEach (a :: es) X.env=(false,eval a X.env) :: starEach es X.env):PE X (.Call (.Attribute o name apos) [a] [] Zf) (tE X.K W (λY g=>(r.ev o' Y g).bind λx g=>match Jk x g with
  |some n=>(r.ev a' Y g).bind λy g=>f n y g
  |none=>.ZZ)):=by
 refine(adJ (T:="list") SS c D j k (aO s bq (b _)) B (by rw[b];rfl) C (b _) rfl).imp ?_;rintro Y H Q ⟨Z0,ρ,g,b,m,p⟩
 refine⟨Z0,ρ,g,b,m,(post.bind p).mono λx H1 ⟨A,u,g1,s1,h1,i,d⟩=>?_⟩;cases h:Jk u g1 with
 |none=>rw[h]at d;exact d.elim
 |some n=>
  rw[h]at d;dsimp only at d;let⟨rfl,O,t⟩:=bK h;let⟨q,vs,rfl,l,t2,E⟩:=be h1 i t;refine⟨.inl ⟨rfl,vs,.of t2⟩,Z0,A,g1,b.step s1,h1,(post.bind d).mono λy H2 ⟨z,w,g2,s2,h2,r2,p2⟩=>?_⟩;exact imp z H2 g2 n q w y Q h2 (s2.ext _ _ l) r2 p2
def aZ{q:Addr}(d:RH X.K ρ H g)(c:ρ[n]?=some q)(e:g[n]?=some (.S O)):∃vs,H q=some (.S vs)/\RVs X.K ρ H O vs:=by
 let⟨f,vs,a,t2,b⟩:=d.S e;rw[c]at a;cases a;exact⟨vs,t2,b⟩
def abm(h:PE X o (tE X.K W (r.ev o')))(j:PE X a (tE X.K W (r.ev a')))(k:attributeBase o "append" X.env (eval o X.env)=eval o X.env)(l:(apos.endLine==Zf.line)=true)
  (f:∀es,starEach (a::es) X.env=(false,eval a X.env)::starEach es X.env):PE X (.Call (.Attribute o "append" apos) [a] [] Zf) (tE X.K W (Jp C r (.app o' a'))):=by
 refine sV PySem.F.slot_list_append PySem.F.type_list_append pC (λρ H g n q y v Q d b e p=>?_) h j k l f;simp![A9]at p;cases eg:g[n]? with
 |none=>rw[eg]at p;exact p.elim
 |some o=>
  cases o with
  |S O=>
   rw[eg]at p;dsimp only at p;let⟨vs,t2,c⟩:=aZ d b eg;split at p
   .rename_i i
    exact⟨q,vs,v,rfl,rfl,t2,by rw[<-c.length,Tb];unfold Ag at i;lia,p _ ρ _ (ZI.write b t2) (d.write b t2 (c.append (.one e))) rfl⟩
   .exact p.elim
  |ZV _=>rw[eg]at p;exact p.elim
  |Zu _=>rw[eg]at p;exact p.elim
  |dst _=>rw[eg]at p;exact p.elim
  |ins _ _=>rw[eg]at p;exact p.elim
def acR(s:PE X o (tE X.K W (r.ev o')))(u:PE X a (tE X.K W (r.ev a')))(w:attributeBase o "extend" X.env (eval o X.env)=eval o X.env)(x:(apos.endLine==Zf.line)=true)
  (l:∀es,starEach (a::es) X.env=(false,eval a X.env)::starEach es X.env):PE X (.Call (.Attribute o "extend" apos) [a] [] Zf) (tE X.K W (Jp C r (.ext o' a'))):=by
 refine sV PySem.F.slot_list_extend PySem.F.type_list_extend wY (λρ H g n q y v Q c b j p=>?_) s u w x l;simp![Bq]at p;cases d:Jk y g with
 |none=>rw[d]at p;exact p.elim
 |some m=>
  rw[d]at p;dsimp only at p;let⟨rfl,zs,h⟩:=bK d;let⟨k,ws,rfl,z,i,e⟩:=be c j h;cases eg:g[n]? with
  |none=>rw[eg]at p;exact p.elim
  |some o=>
   cases o with
   |S O=>
    simp![eg,h]at p;let⟨vs,t2,f⟩:=aZ c b eg;split at p
    .rename_i t
     exact⟨q,k,vs,ws,rfl,rfl,t2,i,by rw[<-f.length,<-e.length,Tb];unfold Ag at t;lia,p _ ρ _ (ZI.write b t2) (c.write b t2 (f.append e)) rfl⟩
    .exact p.elim
   |ZV _=>rw[eg]at p;exact p.elim
   |Zu _=>rw[eg]at p;exact p.elim
   |dst _=>rw[eg]at p;exact p.elim
   |ins _ _=>rw[eg]at p;exact p.elim
def abi(k:PE X o (tE X.K W (r.ev o')))(l:attributeBase o "pop" X.env (eval o X.env)=eval o X.env)(m:(apos.endLine==Zf.line)=true):
  PE X (.Call (.Attribute o "pop" apos) [] [] Zf) (tE X.K W (Jp C r (.pop o'))):=by
 refine(sH (T:="list") SS PySem.F.slot_list_pop PySem.F.type_list_pop acL k l m).imp λY H Q j=>one j λZ0 ρ H g u x s e i p=>?_;cases d:Jk u g with
 |none=>rw[d]at p;exact p.elim
 |some n=>
  rw[d]at p;dsimp only at p;let⟨rfl,O,f⟩:=bK d;let⟨q,vs,rfl,b,t2,a⟩:=be e i f;refine⟨.inl ⟨rfl,vs,.of t2⟩,?_⟩;simp![Bn,f]at p;cases c:O[O.length-1]? with
  |none=>rw[c]at p;exact p.elim
  |some y=>
   rw[c]at p;dsimp only at p;let⟨v,ev,h⟩:=a.get c;exact⟨q,vs,v,rfl,rfl,t2,by rw[<-a.length];exact ev,p _ ρ _ (ZI.write b t2) (e.write b t2 a.dropLast) (RV.step (ZI.write b t2) _ _ h)⟩
def ace(f:RH X.K ρ H g)(i:RV X.K ρ H u x)(e:Ja u g=some Z4):∃a,x=.ref a/\IsD H a:=by
 cases u with
 |ref n=>
  simp![Ja]at e;cases eg:g[n]? with
  |none=>rw[eg]at e;cases e
  |some ob=>
   let⟨a',rfl,b⟩:=i;cases ob with
   |ZV j=>let⟨a,ws,c,d,h⟩:=f.ZV eg;rw[c]at b;cases b;exact⟨_,rfl,.inr ⟨ws,.inl d⟩⟩
   |Zu j=>let⟨a,ob,ws,c,d,h⟩:=f.Zu eg;rw[c]at b;cases b;exact⟨_,rfl,.inr ⟨ws,.inr ⟨ob,d⟩⟩⟩
   |_=>rw[eg]at e;cases e
 |_=>cases e
def acx{k x:Expr}{k' h:E}(B:X.A.units+1<cLine)(D:PE X o (tE X.K W (r.ev o')))(F:PE X k (tE X.K W (r.ev k')))(t:PE X x (tE X.K W (r.ev h)))(N:attributeBase o "get" X.env (eval o X.env)=eval o X.env)(O:(apos.endLine==Zf.line)=true)
  (b:∀es,starEach (k::es) X.env=(false,eval k X.env)::starEach es X.env) (l:∀es,starEach (x::es) X.env=(false,eval x X.env)::starEach es X.env):PE X (.Call (.Attribute o "get" apos) [k,x] [] Zf) (tE X.K W (Jp C r (.Xd o' k' h))):=by
 refine(yu B D F t ⟨N,by rw[b,l];rfl,O,by rw[b,l];rfl⟩).imp ?_;rintro Y H Q ⟨Z0,ρ,g,b,G,p⟩
 refine⟨Z0,ρ,g,b,G,(post.bind p).mono λx H1 ⟨M,u,g1,s1,h1,i,d⟩=>?_⟩;cases ed:Ja u g1 with
 |none=>rw[ed]at d;exact d.elim
 |some Z4=>
  rw[ed]at d;dsimp only at d;let⟨a,rfl,e⟩:=ace h1 i ed;refine⟨a,rfl,e,Z0,M,g1,b.step s1,h1,(post.bind d).mono λy H2 ⟨L,w,g2,s2,h2,r2,p2⟩=>⟨Z0,L,g2,(b.step s1).step s2,h2,(post.bind p2).mono λz H3 ⟨P,q,g3,s3,h3,s,c⟩=>?_⟩⟩;cases f:Al w u g3 with
  |none=>rw[f]at c;exact c.elim
  |some oo=>
   rw[f]at c;dsimp only at c;let⟨a',j,I,J,es,got⟩:=eA h3 (RV.step s3 _ _ r2) (RV.step (s2.trans s3) _ _ i) f;cases I;refine⟨j,J,?_⟩;cases oo with
   |none=>
    cases j with
    |none=>exact okE c h3 s
    |some _=>cases es
   |some m=>
    let⟨v,rfl,n⟩:=got m rfl;exact okE c h3 n
def aa1(h:PE X o (tE X.K W (r.ev o')))(i:attributeBase o "clear" X.env (eval o X.env)=eval o X.env)(j:(apos.endLine==Zf.line)=true):
  PE X (.Call (.Attribute o "clear" apos) [] [] Zf) (tE X.K W (Jp C r (.Wd true o'))):=by
 refine(sH (T:="list") SS PySem.F.slot_list_clear PySem.F.type_list_clear xR h i j).imp λY H Q f=>one f λZ0 ρ H g u x l c e p=>?_;cases a:Jk u g with
 |none=>rw[a]at p;exact p.elim
 |some n=>
  rw[a]at p;dsimp only at p;let⟨rfl,O,d⟩:=bK a;let⟨q,vs,rfl,b,t2,k⟩:=be c e d;refine⟨.inl ⟨rfl,vs,.of t2⟩,?_⟩;simp![BE,d]at p;exact⟨q,vs,rfl,rfl,t2,p _ ρ _ (ZI.write b t2) (c.write b t2 rfl) rfl⟩
end
section
variable(K:HF)
inductive tG(t:Tg)(v:V)(Y:L2.St)(H:Hp)(Q:L2.St->Hp->Prop):Prop
 |mk (Z0:Su) (ρ:List Addr) (g:G) (u:U) (Ye:Su) (hs:RS K ρ H Z0 Y) (hg:RH K ρ H g) (r:RV K ρ H u v) (e:Ah t (Jn t u g) Z0=some Ye) (q:∀ZU,RS K ρ H Ye ZU->Q ZU H)
inductive UR(is:List Nat)(vs:List V)(Y:L2.St)(H:Hp)(Q:L2.St->Hp->Prop):Prop
 |mk (Z0:Su) (ρ:List Addr) (O:List U) (Ye:Su) (hs:RS K ρ H Z0 Y) (r:RVs K ρ H O vs) (e:bindL is O Z0=some Ye) (q:∀ZU,RS K ρ H Ye ZU->Q ZU H)
def RI(ρ:List Addr)(H:Hp)(i:Iter)(c:It):Prop:=match i with
 |.S n=>∃a,ρ[n]?=some a/\c=Itl K a
 |.ZV n=>∃a o ws,ρ[n]?=some a/\H a=some (.Zs o (.dT ws))/\c=Itd a o ws
 |.YY n=>∃a,ρ[n]?=some a/\c=Ite K a
 |.zip n m=>∃a b,ρ[n]?=some a/\ρ[m]?=some b/\c=Itz K a b
 |.seq O=>∃a vs,(SqU K H a vs\/SqC K a vs)/\RVs K ρ H O vs/\c=Itt K a
 |.Y7 lo n=>c=Itr lo n
abbrev tI(W:XQ)(f:Su->G->Out Iter):TI:=tR K W (RI K) f
end
def RI.step{K:HF}{ρ d:List Addr}{H H':Hp}{i:Iter}{e:It}(s:ZI K ρ H d H')(h:RI K ρ H i e):RI K d H' i e:=by
 cases i with
 |S n=>let⟨a,h1,h2⟩:=h;exact⟨a,s.ext _ _ h1,h2⟩
 |ZV n=>let⟨a,o,ws,h1,h2,c⟩:=h;exact⟨a,o,ws,s.ext _ _ h1,s.Zs _ _ _ h2,c⟩
 |YY n=>let⟨a,h1,h2⟩:=h;exact⟨a,s.ext _ _ h1,h2⟩
 |zip n m=>let⟨a,b,h1,h2,c⟩:=h;exact⟨a,b,s.ext _ _ h1,s.ext _ _ h2,c⟩
 |seq O=>let⟨a,vs,h1,h2,c⟩:=h;exact⟨a,vs,h1.imp_left (s.Z1 _ _),RVs.step s _ _ h2,c⟩
 |Y7 lo n=>exact h
section
variable{a b c:Expr}{b' c':E}{t:Tg}
def oQ{t:Tg}{Y a:Su}(h:Ah t u Y=some a):Ah t (Jn t u g) Y=some a:=by
 cases t with
 |nm i=>exact h
 |tp is=>
  cases u with
  |ref n=>simp[Ah]at h
  |_=>exact h
def Hc(K:HF)(n:Nat)(t:WO):TG:=λv Y H Q=>∃a xs,v=.ref a/\SqL K H a xs/\xs.length=n/\t xs Y H Q
def zi{k:Nat}{t:WO}(w:X.calm=true)(h:PGs X es t)
  (p:(assignEach es X.env).length=n) (z:(assignEach es X.env).findIdx? (·.1)=none):PG X (.Tuple es k pos) (Hc X.K n t):=by
 intro J s Y H v u Q I r f;let⟨a,xs,y,l,q,f⟩:=f;subst y;cases r;let⟨ZY,g,⟨o,m,e,A,i,d⟩,C⟩:=I.list l;have x:s.heap.IsList a ZY.toArray:=⟨o,e,A,m,d⟩;rw[assign_Tuple];refine ZB (Up ?_);unfold unpack;have c:(assignEach es X.env).length=ZY.toArray.size:=by simp[p,<-q,g.length]
 rw[c,z];refine ZB (T3 (PySem.W.kun_itemsOf (I.ok.hd w) x λh' j=>?_));have B:Z2 X J Y H {s with heap:=h'}:=I.kept (t':=s.toks) λb o e=>j b o (HC (Hw e)) e
 exact h J _ Y H xs _ Q B (by simpa using g) f
def acX{x:Str}(h:X.N.Nodup)(d:X.N[i]?=some x)(b:Loc X.env.scope x)(f:X.fn x=true\/X.env.scope.names.lookup x=some .local):PG X (.Name x pos) (tG X.K (.nm i)):=by
 intro J s Y H v u Q I a ⟨Z0,ρ,g,w,l,c,k,j,e,q⟩;refine qP h d b f J s Y H v u Q I a ?_;simp![Jn,Ah]at e;split at e
 .cases e;exact q _ (c.set j)
 .cases e
def sgs_nil:PGs X [] (UR X.K []):=by
 intro J s Y H vs O Q I a ⟨Z0,ρ,ws,d,b,c,e,q⟩;refine zV J s Y H vs O Q I a ?_;cases ws with
 |nil=>cases c;cases e;exact⟨rfl,q _ b⟩
 |cons _ _=>cases e
def yi{x:Str}(k:X.N.Nodup)(g:X.N[i]?=some x)(d:Loc X.env.scope x)(j:X.fn x=true\/X.env.scope.names.lookup x=some .local)(h:PGs X ts (UR X.K is)):PGs X (.Name x pos::ts) (UR X.K (i::is)):=by
 intro J s Y H vs O Q I b ⟨Z0,ρ,ws,l,f,m,e,q⟩;refine yC (qP k g d j) h rfl J s Y H vs O Q I b ?_;cases ws with
 |nil=>cases e
 |cons w ws=>
  let⟨v,a,rfl,c,r2⟩:=m;simp![bindL]at e;split at e
  .exact ⟨v,a,rfl,_,ρ,ws,l,f.set c,r2,e,q⟩
  .cases e
def fH:∀{is:List Nat} {O:List U} {Y ZU:Su},bindL is O Y=some ZU->O.length=is.length
 |[],[],_,_,_=>rfl
 |_::is,_::O,_,_,e=>by
  simp![bindL]at e;split at e
  .simp [fH e]
  .cases e
 |[],_::_,_,_,e=>by simp[bindL]at e
 |_::_,[],_,_,e=>by simp[bindL]at e
def adE{k:Nat}(j:X.calm=true)(h:PGs X ts (UR X.K is))(i:(assignEach ts X.env).length=is.length)(l:(assignEach ts X.env).findIdx? (·.1)=none):PG X (.Tuple ts k pos) (tG X.K (.tp is)):=by
 intro J s Y H v u Q I d ⟨Z0,ρ,g,w,c,f,r,m,e,q⟩;cases w with
 |Z1 O=>
  refine acN j h i l J s Y H v u Q I d ?_;let⟨a,vs,rfl,h1,h2⟩:=m;have e':bindL is O Z0=some c:=e;exact⟨a,vs,rfl,h1.sq,by rw[<-h2.length];exact fH e',Z0,ρ,O,c,f,h2,e',q⟩
 |ref n=>
  simp![Jn]at e;cases eg:g[n]? with
  |none=>simp[eg,Ah]at e
  |some o=>
   cases o with
   |S xs=>
    refine zi j h i l J s Y H v u Q I d ?_;let⟨a,vs,p,t,h2⟩:=r.S eg;let⟨a',rfl,b⟩:=m;rw[p]at b;cases b;have e':bindL is xs Z0=some c:=by simpa[eg,Ah]using e
    exact⟨a,vs,rfl,.of t,by rw[<-h2.length];exact fH e',Z0,ρ,xs,c,f,h2,e',q⟩
   |_=>simp[eg,Ah]at e
 |_=>simp[Jn,Ah]at e
def abg{l:Expr}{m:E}(F:PE X l (tE X.K W (r.ev m))):PI X tg l (tI X.K W (λY g=>(r.ev m Y g).bind λu g=>match u with
  |.Z1 xs=>Out.ok (Iter.seq xs) g
  |.xn _ xs=>Out.ok (Iter.seq xs) g
  |.ref n=>match g[n]? with
   |some (.S _)=>.ok (.S n) g
   |some (.ZV Z4)=>.ok (.ZV n) (g.set n (.Zu Z4))
   |some (.Zu _)=>.ok (.ZV n) g
   |_=>.ZZ
  |_=>.ZZ)):=by
 intro J s Y H R I D;have G:tE X.K W (r.ev m) Y H (λx H1=>(∃a,x=.ref a/\(∃xs,SqL X.K H1 a xs)/\R (Itl X.K a) H1)\/(∃a,x=.ref a/\(∃xs,SqT X.K H1 a xs)/\R (Itt X.K a) H1)\/(∃a ws,x=.ref a/\H1 a=some (.dT ws) /\∀o,R (Itd a o ws) (upd H1 a (.Zs o (.dT ws)))) \/∃a o ws,x=.ref a/\H1 a=some (.Zs o (.dT ws))/\R (Itd a o ws) H1):=by
  refine one (R:=RI X.K) D λZ0 ρ H g u x N j c p=>?_;cases u with
  |Z1 O=>let⟨a,vs,rfl,h1,h2⟩:=c;exact .inr (.inl ⟨a,rfl,⟨vs,h1.sq⟩,post.Ze (R:=RI X.K) p j ⟨a,vs,.inl h1,h2,rfl⟩⟩)
  |xn _ O=>let⟨a,vs,rfl,h1,h2⟩:=c;exact .inr (.inl ⟨a,rfl,⟨vs,h1.sq⟩,post.Ze (R:=RI X.K) p j ⟨a,vs,.inr h1,h2,rfl⟩⟩)
  |ref n=>
   simp![]at p;cases eg:g[n]? with
   |none=>rw[eg]at p;exact p.elim
   |some o=>
    cases o with
    |S O=>
     rw[eg]at p;dsimp only at p;let⟨q,vs,rfl,i,t2,M⟩:=be j c eg;exact .inl ⟨q,rfl,⟨vs,.of t2⟩,post.Ze (R:=RI X.K) p j ⟨q,i,rfl⟩⟩
    |ZV Z4=>
     rw[eg]at p;dsimp only at p;let⟨q,ws,i,d,y⟩:=j.ZV eg;let⟨B,rfl,k⟩:=c;rw[i]at k;cases k;refine .inr (.inr (.inl ⟨q,ws,rfl,d,λo=>?_⟩));exact p _ ρ _ (ZI.Yt i d trivial) (j.Yt i d trivial ⟨o,ws,rfl,y⟩) ⟨q,o,ws,i,upd_same,rfl⟩
    |Zu Z4=>
     rw[eg]at p;dsimp only at p;let⟨q,o,ws,i,d,y⟩:=j.Zu eg;let⟨B,rfl,k⟩:=c;rw[i]at k;cases k;exact .inr (.inr (.inr ⟨q,o,ws,rfl,d,post.Ze (R:=RI X.K) p j ⟨q,o,ws,i,d,rfl⟩⟩))
    |dst _=>rw[eg]at p;exact p.elim
    |ins _ _=>rw[eg]at p;exact p.elim
  |_=>exact p.elim
 refine thn (F J s Y H _ I G) ?_;rintro v h ⟨x,H1,f,c,A⟩;rcases A with⟨a,e,⟨xs,t⟩,q⟩|⟨a,e,⟨xs,t⟩,q⟩|⟨a,ws,e,d,q⟩|⟨a,o,ws,e,d,q⟩
 .subst e
  cases c;let⟨ZY,z,p,C⟩:=f.list t;refine wpAny_pyIter_list p.isList ?_;refine⟨h.heap.objs.size,[h.heap.objs.size],_,_,H1,rfl,f.kept (t':=h.toks) λb o e=>Hv _ e,xh a _,⟨_,HD _ rfl,rfl,rfl⟩,λb w=>?_,q⟩;have e:b=h.heap.objs.size:=by simpa using w
  subst e;exact f.VB (Hz _) (f.ZL.fresh (Hz _))
 .subst e
  cases c;let⟨ZY,z,p,C⟩:=f.tuple t;refine wpAny_pyIter_tuple (show h.heap.IsTuple a ZY.toArray from p) ?_;refine⟨h.heap.objs.size,[h.heap.objs.size],_,_,H1,rfl,f.kept (t':=h.toks) λb o e=>Hv _ e,wt a _,⟨_,HD _ rfl,rfl,rfl⟩,λb w=>?_,q⟩;have e:b=h.heap.objs.size:=by simpa using w
  subst e;exact f.VB (Hz _) (f.ZL.fresh (Hz _))
 .subst e
  cases c;let⟨o,L⟩:=f.freeze d;exact uX L upd_same (q o)
 .subst e
  cases c;exact uX f d q
def PI.imp{a:Expr}{t t':TI}(h:PI X tg a t)(q:∀Y H Q,t' Y H Q->t Y H Q):PI X tg a t':=λJ s Y H Q I h'=>h J s Y H Q I (q Y H Q h')
def aaW{e:Pos}(b:Gl X "enumerate")(j:X.mg "enumerate" = none)(k:PE X a (tE X.K W (r.ev a')))(c:∀es,starEach (a::es) X.env=(false,eval a X.env)::starEach es X.env):
  PI X (.Tuple elts x1 e) (.Call (.Name "enumerate" p) [a] [] pos) (tI X.K W (Jo r (.YY a'))):=by
 refine PI.imp (zK b j (aO k bq (c _)) (c _)) λY H R h=>one (R:=RI X.K) h λZ0 ρ H g u x c b f p=>?_;cases d:Jk u g with
 |none=>rw[d]at p;exact p.elim
 |some n=>
  rw[d]at p;dsimp only at p;let⟨rfl,O,l⟩:=bK d;let⟨q,vs,rfl,i,t2,m⟩:=be b f l;exact⟨q,rfl,⟨vs,.of t2⟩,post.Ze (R:=RI X.K) p b ⟨q,i,rfl⟩⟩
def ab6{j:Pos}(c:Gl X "zip")(t:X.mg "zip" = none)(z:PE X a (tE X.K W (r.ev a')))(v:PE X b (tE X.K W (r.ev b')))(e:∀es,starEach (a::es) X.env=(false,eval a X.env)::starEach es X.env)(i:∀es,starEach (b::es) X.env=(false,eval b X.env)::starEach es X.env):
  PI X (.Tuple elts x1 j) (.Call (.Name "zip" p) [a,b] [] pos) (tI X.K W (Jo r (.zip a' b'))):=by
 refine PI.imp (acf c t (aO z (aO v bq (i _)) (e _)) e (i _)) λY H R o=>two (R:=RI X.K) o λZ0 ρ H g u w x y e c l r2 p=>?_;cases d:Jk u g with
 |none=>rw[d]at p;exact p.elim
 |some n=>
  cases f:Jk w g with
  |none=>simp![d,f]at p;exact p.elim
  |some m=>
   simp![d,f]at p;let⟨rfl,O,A⟩:=bK d;let⟨rfl,G,D⟩:=bK f;let⟨q,vs,rfl,s,t2,F⟩:=be c l A;let⟨h,C,rfl,B,E,k⟩:=be c r2 D;exact⟨q,h,rfl,⟨vs,.of t2⟩,⟨C,.of E⟩,post.Ze (R:=RI X.K) p c ⟨q,h,s,B,rfl⟩⟩
def zm(c:Gl X "range")(f:X.mg "range" = none)(h:PE X a (tE X.K W (r.ev a')))(b:∀es,starEach (a::es) X.env=(false,eval a X.env)::starEach es X.env):
  PI X tg (.Call (.Name "range" p) [a] [] pos) (tI X.K W (Jo r (.YM a'))):=by
 refine PI.imp (xA c f (aO h bq (b _)) (b _)) λY H R e=>one (R:=RI X.K) e λZ0 ρ H g u x b c d p=>?_;cases u with
 |int j=>
  cases d;simp![]at p;split at p
  .rename_i i
   exact⟨j,rfl,by lia,by lia,post.Ze (R:=RI X.K) p c rfl⟩
  .exact p.elim
 |_=>exact p.elim
def aam(d:Gl X "range")(k:X.mg "range" = none)(m:PE X a (tE X.K W (r.ev a')))(l:PE X b (tE X.K W (r.ev b')))(c:∀es,starEach (a::es) X.env=(false,eval a X.env)::starEach es X.env)
  (e:∀es,starEach (b::es) X.env=(false,eval b X.env)::starEach es X.env):PI X tg (.Call (.Name "range" p) [a,b] [] pos) (tI X.K W (Jo r (.Yn a' b'))):=by
 refine PI.imp (xy d k (aO m (aO l bq (e _)) (c _)) (by rw[c,e];rfl) (e _)) λY H R h=>two (R:=RI X.K) h λZ0 ρ H g u w x y c d f r2 p=>?_
 cases u with
 |int i=>
  cases w with
  |int j=>
   cases f;cases r2;simp![]at p;split at p
   .exact ⟨i,j,rfl,by omega,post.Ze (R:=RI X.K) p d rfl⟩
   .exact p.elim
  |_=>exact p.elim
 |_=>cases w<;>exact p.elim
def qW(f:RH X.K ρ H g)(c:RI X.K ρ H it Z9)(e:next it i g=some none):Z9.stop i H:=by
 cases it with
 |S n=>
  let⟨a,h1,rfl⟩:=c;simp![next]at e;cases eg:g[n]? with
  |none=>simp[eg]at e
  |some o=>
   cases o with
   |S O=>
    simp![eg,YJ]at e;let⟨vs,t2,d⟩:=aZ f h1 eg;exact⟨vs,.of t2,W6.mp (d.none_of e)⟩
   |ZV _=>simp[eg]at e
   |Zu _=>simp[eg]at e
   |dst _=>simp[eg]at e
   |ins _ _=>simp[eg]at e
 |ZV n=>
  let⟨a,o,ws,h1,h2,rfl⟩:=c;simp![next]at e;cases eg:g[n]? with
  |none=>simp[eg]at e
  |some ob=>
   cases ob with
   |Zu Z4=>
    let⟨a',o',q,l,p,r⟩:=f.Zu eg;rw[h1]at l;cases l;rw[h2]at p;cases p;simp![eg,YJ,Sw]at e;exact⟨h2,by rw[<-r.len];exact W6.mp e⟩
   |_=>simp[eg]at e
 |YY n=>
  let⟨a,h1,rfl⟩:=c;simp![next]at e;cases eg:g[n]? with
  |none=>simp[eg]at e
  |some o=>
   cases o with
   |S O=>
    simp![eg,YJ,Sw]at e;let⟨vs,t2,d⟩:=aZ f h1 eg;exact⟨vs,.of t2,W6.mp (d.none_of e)⟩
   |_=>simp[eg]at e
 |zip n m=>
  let⟨a,b,h1,h2,rfl⟩:=c;simp![next]at e;cases eg:g[n]? with
  |none=>simp[eg]at e
  |some o=>
   cases o with
   |S O=>
    cases j:g[m]? with
    |none=>simp[eg,j]at e
    |some o'=>
     cases o' with
     |S u=>
      simp![eg,j,YJ]at e;let⟨vs,t2,d⟩:=aZ f h1 eg;let⟨s,t,k⟩:=aZ f h2 j;refine⟨vs,s,.of t2,.of t,?_⟩;cases ex:O[i]? with
      |none=>exact .inl (W6.mp (d.none_of ex))
      |some z=>
       rw[ex,UK,Sw]at e;exact .inr (W6.mp (k.none_of e))
     |_=>simp[eg,j]at e
   |_=>simp[eg]at e
 |seq O=>
  let⟨a,vs,h1,h2,rfl⟩:=c;simp![next,YJ]at e;exact⟨vs,h1.elim SqU.sq SqC.sq,W6.mp (h2.none_of e)⟩
 |Y7 lo n=>
  cases c;simp![next,YJ]at e;split at e
  .cases e
  .rename_i h;exact Nat.le_of_not_lt h
def uL(j:RH X.K ρ H g)(l:RI X.K ρ H it Z9)(e:next it i g=some (some u)):Z9.go i H /\∀x H',Z9.yld i H x H'->ZI X.K ρ H ρ H'/\RH X.K ρ H' g/\RV X.K ρ H' u x:=by
 have c:∀{x:V} {H':Hp},H'=H->RV X.K ρ H u x->ZI X.K ρ H ρ H'/\RH X.K ρ H' g/\RV X.K ρ H' u x:=λe r=>by subst e;exact⟨.refl,j,r⟩
 cases it with
 |S n=>
  let⟨a,h1,rfl⟩:=l;simp![next]at e;cases eg:g[n]? with
  |none=>simp[eg]at e
  |some o=>
   cases o with
   |S O=>
    simp![eg,YJ]at e;let⟨vs,t2,q⟩:=aZ j h1 eg;let⟨v,d,f⟩:=q.get e;refine⟨⟨vs,v,.of t2,d⟩,λx H' ⟨h1,h2⟩=>c h1 ?_⟩;have:=h2 vs (.of t2);rw[d]at this;cases this;exact f
   |ZV _=>simp[eg]at e
   |Zu _=>simp[eg]at e
   |dst _=>simp[eg]at e
   |ins _ _=>simp[eg]at e
 |ZV n=>
  let⟨a,o,ws,h1,h2,rfl⟩:=l;simp![next]at e;cases eg:g[n]? with
  |none=>simp[eg]at e
  |some ob=>
   cases ob with
   |Zu Z4=>
    let⟨a',o',Q,C,N,R⟩:=j.Zu eg;rw[h1]at C;cases C;rw[h2]at N;cases N;simp![eg,YJ]at e;let⟨⟨k,z⟩,A,y⟩:=Ym.mp e;let⟨v,d,f⟩:=R.at A;refine⟨⟨h2,(Yh.mp d).1⟩,λx H' ⟨h3,b,k',v',ex,L,J⟩=>c h3 ?_⟩;rw[d]at L;cases L;subst ex;subst y;exact⟨b,k.map V.int,rfl,by rw[UW]at J;exact J,fo k⟩
   |_=>simp[eg]at e
 |YY n=>
  let⟨a,h1,rfl⟩:=l;simp![next]at e;cases eg:g[n]? with
  |none=>simp[eg]at e
  |some o=>
   cases o with
   |S O=>
    simp![eg,YJ]at e;let⟨w,A,y⟩:=Ym.mp e;let⟨vs,t2,q⟩:=aZ j h1 eg;let⟨v,d,f⟩:=q.get A;refine⟨⟨vs,v,.of t2,d⟩,λx H' ⟨p,v',s,ex,F,all⟩=>?_⟩;have:=all vs (.of t2);rw[d]at this;cases this;subst ex;subst F;subst y;have sp:ZI X.K ρ H ρ (upd H p (.Z1 [.int i,v])):=ZI.fresh s;exact⟨sp,j.step_fresh s,p,[.int i,v],rfl,upd_same,.int i,[v],rfl,rfl,v,[],rfl,RV.step sp _ _ f,rfl⟩
   |_=>simp[eg]at e
 |zip n m=>
  let⟨a,b,h1,h2,rfl⟩:=l;simp![next]at e;cases eg:g[n]? with
  |none=>simp[eg]at e
  |some o=>
   cases o with
   |S O=>
    cases D:g[m]? with
    |none=>simp[eg,D]at e
    |some o'=>
     cases o' with
     |S Z=>
      simp![eg,D,YJ]at e;let⟨w,A,e⟩:=Wr.mp e;let⟨Y,T,y⟩:=Ym.mp e;let⟨vs,t2,q⟩:=aZ j h1 eg;let⟨M,P,E⟩:=aZ j h2 D;let⟨v,d,f⟩:=q.get A;let⟨v',t,U⟩:=E.get T;refine⟨⟨vs,M,v,v',.of t2,.of P,d,t⟩,λx H' ⟨p,z,W,s,ex,F,all,B⟩=>?_⟩;have I:=all vs (.of t2);have G:=B M (.of P);rw[d]at I;cases I;rw[t]at G;cases G;subst ex;subst F;subst y;have sp:ZI X.K ρ H ρ (upd H p (.Z1 [v,v'])):=ZI.fresh s;exact⟨sp,j.step_fresh s,p,[v,v'],rfl,upd_same,v,[v'],rfl,RV.step sp _ _ f,v',[],rfl,RV.step sp _ _ U,rfl⟩
     |_=>simp[eg,D]at e
   |_=>simp[eg]at e
 |seq O=>
  let⟨a,vs,h1,h2,rfl⟩:=l;simp![next,YJ]at e;let⟨v,d,f⟩:=h2.get e;have C:SqT X.K H a vs:=h1.elim SqU.sq SqC.sq;refine⟨⟨vs,v,C,d⟩,λx H' ⟨h3,h4⟩=>c h3 ?_⟩;have:=h4 vs C;rw[d]at this;cases this;exact f
 |Y7 lo n=>
  cases l;simp![next,YJ]at e;split at e
  .rename_i h
   cases e;exact⟨h,λx H' ⟨h1,h2⟩=>c h1 h2⟩
  .cases e
variable{st:Stmt}{ZQ:List Stmt}{s':Z5}{ZD:List Z5}
def acg:PSs X [] (Zq X.K W (Js r [])):=rT.imp λD Y H ⟨Z0,ρ,g,a,b,p⟩=>p Y ρ H .refl b a
def zh(i:PS X st (Zq X.K W (Jr r s')))(b:PSs X ZQ (Zq X.K W (r.ex ZD))):PSs X (st::ZQ) (Zq X.K W (Js r (s'::ZD))):=by
 refine(yM i b).imp λD Y H ⟨Z0,ρ,g,e,h,p⟩=>⟨Z0,ρ,g,e,h,?_⟩;revert p;simp![Js];cases Jr r s' Z0 g with
 |ok f g1=>
  cases f with
  |nx a=>exactλp l j H2 d b k=>⟨a,j,g1,k,b,Jy.from (o:=r.ex ZD a g1) p d⟩
  |rt u=>exactλp=>p
  |bk a=>exactλp=>p
  |ct a=>exactλp=>p
 |exc c fs g1=>exactλp=>p
 |ZZ=>exactλp=>p
def ff{f:Su->G->Out U}{k:Su->U->G->Out Fl}{Y:L2.St}{H:Hp}
  (e:Zq X.K W (λZ0 g=>(f Z0 g).bind λx g=>k Z0 x g) D Y H)
  (a:∀Z0 ρ H g u x,RS X.K ρ H Z0 Y->RH X.K ρ H g->RV X.K ρ H u x->Jy X.K W (k Z0 u g) ρ H D->Q2 x H):tE X.K W f Y H Q2:=by
 let⟨Z0,ρ,g,b,h,p⟩:=e;exact⟨Z0,ρ,g,b,h,(Jy.bind p).mono λx H1 ⟨i,u,g1,s1,h1,c,d⟩=>a Z0 i H1 g1 u x (b.step s1) h1 c d⟩
def ab1(h:PE X e (tE X.K W (r.ev e'))):PS X (.Return (some e) pos) (Zq X.K W (Jr r (.ret e'))):=
 (abr h).imp λD Y H b=>ff b λZ0 ρ H g u x d c a p=>p x ρ H .refl c a
def aaS(h:PE X e (tE X.K W (r.ev e')))(a:swapsWith e none pos.line X.env=pure false):PS X (.Expr e pos) (Zq X.K W (Jr r (.exp e'))):=
 (zb h a).imp λD Y H b=>ff b λZ0 ρ H g u x a c d p=>p _ ρ H .refl c a
def abH{Y:L2.St}(d:RS X.K ρ H Z0 Y)(b:RH X.K ρ H g)(c:RV X.K ρ H u v)(p:Jy X.K W (match Ah t (Jn t u g) Z0 with|some ZU=>Out.ok (.nx ZU) g|none=>.ZZ) ρ H D):tG X.K t v Y H D.nx:=by
 cases e:Ah t (Jn t u g) Z0 with
 |none=>rw[e]at p;exact p.elim
 |some f=>rw[e]at p;dsimp only at p;exact⟨Z0,ρ,g,u,f,d,b,c,e,λZU a=>p ZU ρ H .refl b a⟩
def su(h:PE X e (tE X.K W (r.ev e')))(b:PG X tg (tG X.K t))(a:swapsWithSole [tg] e pos.line X.env=pure false)(d:swappedStores [tg] e X.env=pure none)(i:(assignEach [tg] X.env).map (·.2)=[assign tg X.env]):
  PS X (.Assign [tg] e pos) (Zq X.K W (Jr r (.set t e'))):=
 (uf h b a d i).imp λD Y H f=>ff f λZ0 ρ H g u x a b c p=>abH a b c p
def aaL{x:Str}(m:X.N.Nodup)(j:X.N[i]?=some x)(d:Loc X.env.scope x)(l:X.fn x=true\/X.env.scope.names.lookup x=some .local)(h:PE X e (tE X.K W (r.ev e')))(a:swapsWith e (some (.Name x pos')) pos.line X.env=pure false):
  PS X (.Assign [.Name x pos'] e pos) (Zq X.K W (Jr r (.set (.nm i) e'))):=
 (ab0 m j d h a l).imp λD Y H f=>ff f λZ0 ρ H g u x a k c p=>by
  simp![Jn,Ah]at p;by_cases b:i<Z0.length
  .rw [Xg b]at p;exact p _ ρ H .refl k (a.set c)
  .rw [Xp b]at p;exact p.elim
def aaH{x y:Str}{f e h:Pos}{kt k2 W9}(z:X.calm=true)(C:X.N.Nodup)(s:X.N[i]?=some x)(q:X.N[j]?=some y)(I:i≠j)
  (n:X.env.scope.names.lookup x=some .local) (m:X.env.scope.names.lookup y=some .local) (B:PE X a (tE X.K W (r.ev a'))) (A:PE X b (tE X.K W (r.ev b'))) (c:∀es,starEach (a::es) X.env=(false,eval a X.env)::starEach es X.env) (G:∀es,starEach (b::es) X.env=(false,eval b X.env)::starEach es X.env)
  (o:swappedStores [.Tuple [.Name x f,.Name y e] kt h] (.Tuple [a,b] k2 W9) X.env=pure (some [x,y])) :
  PS X (.Assign [.Tuple [.Name x f,.Name y e] kt h] (.Tuple [a,b] k2 W9) pos) (Zq X.K W (Jr r (.par i j a' b'))):=by
 refine(acu z C s q I n m (aO B (aO A bq (G _)) (c _)) o rfl).imp ?_;rintro D Y H ⟨Z0,ρ,g,d,t,p⟩;refine⟨Z0,ρ,g,d,t,(Jy.bind p).mono λv H1 ⟨F,u,g1,s1,h1,k,l⟩=>?_⟩;refine⟨Z0,F,g1,d.step s1,h1,(Jy.bind l).mono λw H2 ⟨E,u2,g2,s2,h2,r2,p2⟩=>?_⟩;split at p2
 .exact ⟨v,w,rfl,p2 _ E H2 .refl h2 ((((d.step s1).step s2).set (RV.step s2 _ _ k)).set r2)⟩
 .exact p2.elim
def aaM{i:Expr}{i':E}{Yd:Pos}(hu:X.A.units+1<cLine)(h:PE X e (tE X.K W (r.ev e')))(ho:PE X o (tE X.K W (r.ev o')))(hi:PE X i (tE X.K W (r.ev i')))(hs:swapsWithSole [.Subscript o i Yd] e pos.line X.env=pure false)(hw:swappedStores [.Subscript o i Yd] e X.env=pure none)
  (ha:∀ v,assign (.Subscript o i Yd) X.env v=(do
   let ov<-holding [v] (eval o X.env)
   let iv<-holding [v,ov] (eval i X.env)
   standAt Yd
   holding [v,ov,iv] (setItem ov iv v)
   release [v,ov,iv] [])):PS X (.Assign [.Subscript o i Yd] e pos) (Zq X.K W (Jr r (.sub o' i' e'))):=by
 refine(uf h (aaZ ho hi (zx set_list (set_dict hu)) ha) hs hw rfl).imp ?_;rintro D Y H ⟨Z0,ρ,g,hs,hg,p⟩;refine⟨Z0,ρ,g,hs,hg,(Jy.bind p).mono λv H1 ⟨ZM,u,g1,s1,h1,r1,p1⟩=>?_⟩;refine⟨Z0,ZM,g1,hs.step s1,h1,(Jy.bind p1).mono λw H2 ⟨Zr,u2,g2,s2,h2,r2,p2⟩=>?_⟩;refine⟨Z0,Zr,g2,(hs.step s1).step s2,h2,(Jy.bind p2).mono λz H3 ⟨VY,u3,g3,s3,h3,r3,p3⟩=>?_⟩;cases u2 with
 |ref n=>
  cases u3 with
  |int k=>
   cases r3;simp![subAt,Dx]at p3;cases eg:g3[n]? with
   |none=>rw[eg]at p3;exact p3.elim
   |some ob=>
    cases ob with
    |S O=>
     rw[eg]at p3;dsimp only at p3;let⟨q,vs,rfl,hn,t2,t3⟩:=be h3 (RV.step s3 _ _ r2) eg;cases ej:ixN O.length k with
     |none=>rw[ej]at p3;exact p3.elim
     |some j=>
      rw[ej]at p3;dsimp only at p3;have rv:=RV.step s3 _ _ (RV.step s2 _ _ r1);exact .inl ⟨q,vs,k,j,rfl,rfl,t2,by rw[<-t3.length];exact ej,p3 _ VY _ (ZI.write hn t2) (h3.write hn t2 (t3.set rv j)) ((((hs.step s1).step s2).step s3).step (ZI.write hn t2))⟩
    |ZV _=>rw[eg]at p3;exact p3.elim
    |Zu _=>rw[eg]at p3;exact p3.elim
    |dst _=>rw[eg]at p3;exact p3.elim
    |ins _ _=>rw[eg]at p3;exact p3.elim
  |Z1 O=>
   simp![subAt,Ed]at p3;cases eg:g3[n]? with
   |none=>rw[eg]at p3;exact p3.elim
   |some ob=>
    cases ob with
    |ZV Z4=>
     rw[eg]at p3;dsimp only at p3;cases ek:intsOf O with
     |none=>rw[ek]at p3;exact p3.elim
     |some k=>
      rw[ek]at p3;dsimp only at p3;by_cases hl:Z4.length<Ag
      .rw [Xg hl]at p3
       let⟨q,ws,hn,ha,rd⟩:=h3.ZV eg;let⟨q',rfl,Zy⟩:=RV.step s3 _ _ r2;rw[hn]at Zy;cases Zy;let⟨b,rfl,hb⟩:=ji (x:=.Z1 O) (k:=k) ek r3;have rv:=RV.step s3 _ _ (RV.step s2 _ _ r1);refine .inr ⟨q,_,rfl,DPut.t ha hb ?_,p3 _ VY _ (ZI.Yt hn ha trivial) (h3.Yt hn ha trivial ⟨_,rfl,rd.put rv⟩) ((((hs.step s1).step s2).step s3).step (ZI.Yt hn ha trivial))⟩;rw[<-rd.len,Tb];unfold Ag at hl;lia
      .rw [Xp hl]at p3;exact p3.elim
    |S _=>rw[eg]at p3;exact p3.elim
    |Zu _=>rw[eg]at p3;exact p3.elim
    |dst _=>rw[eg]at p3;exact p3.elim
    |ins _ _=>rw[eg]at p3;exact p3.elim
  |str k=>
   simp![subAt,Ek]at p3;cases eg:g3[n]? with
   |none=>rw[eg]at p3;exact p3.elim
   |some ob=>
    cases ob with
    |dst Z4=>
     rw[eg]at p3;dsimp only at p3;by_cases hl:Z4.length<Ag
     .rw [Xg hl]at p3
      let⟨q,ws,hn,ha,rk⟩:=h3.dst eg;let⟨q',rfl,Zy⟩:=RV.step s3 _ _ r2;rw[hn]at Zy;cases Zy;cases r3;have rv:=RV.step s3 _ _ (RV.step s2 _ _ r1);refine .inr ⟨q,_,rfl,DPut.k (k:=Sum.inr k) ha ?_,p3 _ VY _ (ZI.Yt hn ha trivial) (h3.Yt hn ha trivial ⟨_,rfl,rk.put rv⟩) ((((hs.step s1).step s2).step s3).step (ZI.Yt hn ha trivial))⟩;rw[<-rk.len,Tb];unfold Ag at hl;lia
     .rw [Xp hl]at p3;exact p3.elim
    |_=>rw[eg]at p3;exact p3.elim
  |_=>exact False.elim p3
 |_=>exact False.elim p3
def adB{as e:List Stmt}{a:List Z5}(i:PT X c (tT X.K W (r.ts c')))(l:PSs X as (Zq X.K W (r.ex a)))(j:PSs X e (Zq X.K W (r.ex YF))):PS X (.If c as e pos) (Zq X.K W (Jr r (.ZE c' a YF))):=by
 refine(adk i l j).imp ?_;rintro D Y H ⟨Z0,ρ,g,b,h,p⟩;refine⟨Z0,ρ,g,b,h,(Jy.bind (R:=Ys) p).mono λk H1 ⟨f,k',g1,s1,h1,m,d⟩=>?_⟩;subst m;cases k' with
 |true=>exact bC ⟨Z0,f,g1,b.step s1,h1,d⟩
 |false=>exact bB ⟨Z0,f,g1,b.step s1,h1,d⟩
def uV{o:Out Fl}{k:Su->G->Out Fl}{N:L2.St->Hp->Prop}
  (p:Jy X.K W (o.bind λf g=>match f with|.nx ZU=>k ZU g|.ct ZU=>k ZU g|.bk ZU=>.ok (.nx ZU) g|.rt u=>.ok (.rt u) g) ρ H D)
  (d:∀a g1 Y ZT H',ZI X.K ρ H ZT H'->RH X.K ZT H' g1->RS X.K ZT H' a Y->Jy X.K W (k a g1) ZT H' D->N Y H'):Jy X.K W o ρ H {D with nx:=N,ct:=N,bk:=D.nx}:=by
 cases o with
 |ok f g=>
  cases f with
  |nx a=>exactλY ZT H' s h b=>d a g Y ZT H' s h b (Jy.from (o:=k a g) p s)
  |ct a=>exactλY ZT H' s h b=>d a g Y ZT H' s h b (Jy.from (o:=k a g) p s)
  |bk a=>exact p
  |rt u=>exact p
 |exc c fs g=>exact p
 |ZZ=>exact p
def aco{z:List Stmt}{n:Nat}(y:PassesOwn (model X.prog X.w) X.A X.env X.xe)(L:∀n,PT X c (tT X.K W ((Jw C n).ts c')))(M:∀n,PSs X z (Zq X.K W ((Jw C n).ex YF))):
  PS X (.While c z [] pos) (Zq X.K W (Jr (Jw C n) (.VH c' YF))):=by
 intro J s Y H D I F;have l:∀m Y H,Zq X.K W ((Jw C m).wh c' YF) D Y H ->∃j,m=j+1:=λm Y H ⟨Z0,ρ,g,_,_,p⟩=>by
  cases m with
  |zero=>exact p.elim
  |succ j=>exact⟨j,rfl⟩
 refine wpAny_While (codeAny_whileLoop (λn s'=>∃ZU H',L2.Z2 X J ZU H' s'/\Zq X.K W ((Jw C n).wh c' YF) D ZU H') ?_ n ⟨Y,H,I,F⟩);rintro n d ⟨a,H1,Q,t⟩;let⟨m,rfl⟩:=l n a H1 t;let⟨Z0,ρ,g,o,G,p⟩:=t;refine Sd y (thn (L m J d a H1 (λb H2=>if b=true then Zq X.K W ((Jw C m).ex YF) {D with nx:=λZU H'=>Zq X.K W ((Jw C m).wh c' YF) D ZU H',ct:=λZU H'=>Zq X.K W ((Jw C m).wh c' YF) D ZU H',bk:=D.nx} a H2 else D.nx a H2) Q ?_) λb u ⟨H2,E,h⟩=>?_)
 .refine ⟨Z0,ρ,g,o,G,(Jy.bind (R:=Ys) p).mono λk H1 ⟨B,k',g1,d,h1,N,x⟩=>?_⟩
  subst N;cases k' with
  |true=>exact bC ⟨Z0,B,g1,o.step d,h1,uV (k:=λZU g=>(Jw C m).wh c' YF ZU g) x λO g2 Y ZT H' u h2 P p2=>⟨O,ZT,g2,P,h2,p2⟩⟩
  |false=>exact bB (x _ B _ .refl h1 (o.step d))
 .cases b with
  |true=>
   rw[Xg rfl]at h;rw[Xg rfl];refine Sd y (thn (M m J u a H2 _ E h) λf s3 e=>?_);cases f with
   |next=>
    let⟨q,H3,r,i⟩:=e;exact⟨m,Sj _,q,H3,r,i⟩
   |cont=>
    let⟨q,H3,r,i⟩:=e;exact⟨m,Sj _,q,H3,r,i⟩
   |brk=>exact e
   |ret v=>exact e
  |false=>
   rw[Xp Hy]at h;rw[Xp Hy];exact R7 ⟨a,H2,E,h⟩
end
section
variable{YS:List Addr}{H0:Hp}{D:Addr}{Ks o2:HO}
def ZI.W4(s:ZI K YS H0 ρ H)(h0:H0 D=none)(hD:H D=some Ks)(hm:Bu Ks):ZI K YS H0 ρ (upd H D o2) where
 ext:=s.ext
 new:=s.new
 Yu:=λa o h hn=>by rw[af (aN h h0)];exact s.Yu a o h hn
 live:=λa h=>by
  by_cases e:a=D
  .subst e;rw[upd_same];simp
  .rw [af e];exact s.live a h
 Z1:=λa xs h=>ba (s.Z1 a xs h) (.inr ⟨_,hD,hm⟩)
 Zm:=λa xs h=>bc (s.Zm a xs h) (.inr ⟨_,hD,hm⟩)
 Zs:=λa ob u h=>by rw[af (cQ (s.Zs a ob u h) hD (by rintro rfl;exact hm))];exact s.Zs a ob u h
def RV.W4(b:H D=some Ks)(a:Bu Ks)(h:RV K ρ H u v):RV K ρ (upd H D o2) u v:=RV.mono (λ_ _ e=>e) (λ_ _ h=>ba h (.inr ⟨_,b,a⟩)) (λ_ _ h=>bc h (.inr ⟨_,b,a⟩)) u v h
def RVs.W4(b:H D=some Ks)(a:Bu Ks){u:List U}{v:List V}(h:RVs K ρ H u v):RVs K ρ (upd H D o2) u v:=RVs.mono (λ_ _ e=>e) (λ_ _ h=>ba h (.inr ⟨_,b,a⟩)) (λ_ _ h=>bc h (.inr ⟨_,b,a⟩)) u v h
def RH.W4(h:RH K ρ H g)(hD:H D=some Ks)(hm:Bu Ks)(hn:D ∉ ρ):RH K ρ (upd H D o2) g where
 len:=h.len
 inj:=h.inj
 obj:=λn a o h1 h2=>by
  have q:=h.obj n a o h1 h2;have ne:a≠D:=λe=>hn (e ▸ WV.mpr ⟨n,h1⟩);let⟨ho,e,r⟩:=q;exact⟨ho,by rw[af ne];exact e,r.mono (λ_ _ e=>e) (λ_ _ h=>ba h (.inr ⟨_,hD,hm⟩)) (λ_ _ h=>bc h (.inr ⟨_,hD,hm⟩))⟩
def RH.named{p:Z6}(h:RH K ρ H g)(w:H D=some Ks)(u:D ∉ ρ)(r:RHO K ρ H p Ks):RH K (ρ++[D]) H (g++[p]):=by
 have up:∀(n:Nat) (a:Addr),ρ[n]?=some a->(ρ++[D])[n]?=some a:=λn a e=>by rw[XD (Yh.mp e).1];exact e
 have c:∀k b,(ρ++[D])[k]?=some b->(k<ρ.length/\ρ[k]?=some b)\/(k=ρ.length/\b=D):=λk b e=>by
  by_cases hk:k<ρ.length
  .rw [XD hk]at e;exact .inl ⟨hk,e⟩
  .rw [Xf ()]at e
   cases hd:k-ρ.length with
   |zero=>rw[hd]at e;exact .inr ⟨by omega,by simpa using e.symm⟩
   |succ m=>rw[hd]at e;simp at e
 have l:∀k:Nat,ρ[k]? ≠ some D:=λk e=>u (WV.mpr ⟨k,e⟩);refine⟨by simp[h.len],λi j a h1 h2=>?_,λn a o h1 h2=>?_⟩
 .rcases c i a h1 with⟨_,f⟩|⟨f,s⟩
  .rcases c j a h2 with⟨_,d⟩|⟨d,t⟩
   .exact h.inj i j a f d
   .subst t;exact absurd f (l i)
  .rcases c j a h2 with⟨_,d⟩|⟨d,t⟩
   .subst s;exact absurd d (l j)
   .lia
 .rcases c n a h1 with⟨v,f⟩|⟨f,s⟩
  .rw [XD (by rw[<-h.len];exact v)]at h2
   have q:=h.obj n a o f h2;let⟨ho,e,r'⟩:=q;exact⟨ho,e,r'.mono up (λ_ _ h=>h) (λ_ _ h=>h)⟩
  .subst s
   rw[Xf (by rw[<-h.len];lia),<-h.len,f]at h2
   have d:o=p:=by simpa using h2.symm
   subst d;exact⟨_,w,r.mono up (λ_ _ h=>h) (λ_ _ h=>h)⟩
def ZI.named(s:ZI K YS H0 ρ H)(h0:H0 D=none):ZI K YS H0 (ρ++[D]) H where
 ext:=λn a h=>by have:=s.ext n a h;rw[XD (Yh.mp this).1];exact this
 new:=λn a h=>by
  by_cases hk:n<ρ.length
  .rw [XD hk]at h;exact s.new n a h
  .rw [Xf ()]at h
   cases hd:n-ρ.length with
   |zero=>
    rw[hd]at h;have e:a=D:=by simpa using h.symm
    subst e;exact .inr h0
   |succ m=>rw[hd]at h;simp at h
 Yu:=s.Yu
 live:=s.live
 Z1:=s.Z1
 Zm:=s.Zm
 Zs:=s.Zs
def dF(s:ZI K ρ H ZT H')(a:D ∉ ρ)(c:H D=some Ks):D ∉ ZT:=λb=>by
 let⟨n,e⟩:=WV.mp b;rcases s.new n D e with q|q
 .exact a (WV.mpr ⟨n,q⟩)
 .rw [c]at q;cases q
def RS.unbind{t:Tg}{g:Su}{Y:L2.St}(l:AF t Z0=true)(c:Ah t u Z0=some g)(h:RS K ρ H g Y):RS K ρ H Z0 Y:=by
 have one:∀(i:Nat) (w:U) (a:Su),(match a[i]? with|some none=>true|_=>false)=true ->∀(j:Nat) (z:U),a[j]?=some (some z)->(a.set i (some w))[j]?=some (some z):=λi w a hi j z e=>by
  by_cases f:j=i
  .subst f;rw[e]at hi;cases hi
  .rw [Xb (Ne.symm f)];exact e
 cases t with
 |nm i=>
  simp![Ah]at c;split at c
  .cases c
   exact⟨by have:=h.len;simpa using this,λj z e=>h.val j z (one i u Z0 l j z e)⟩
  .cases c
 |tp is=>
  cases u with
  |Z1 O=>
   have o:bindL is O Z0=some g:=c;have all:∀(is:List Nat) (O:List U) (a d:Su),(∀i∈is,∀z,Z0[i]? ≠ some (some z))->(∀(j:Nat) (z:U),Z0[j]?=some (some z)->a[j]?=some (some z))->bindL is O a=some d->d.length=a.length /\∀(j:Nat) (z:U),Z0[j]?=some (some z)->d[j]?=some (some z):=λis=>by
    induction is with
    |nil=>
     intro O a d _ b e;cases O with
     |nil=>cases e;exact⟨rfl,b⟩
     |cons _ _=>cases e
    |cons i is ih=>
     intro O a d hi b e;cases O with
     |nil=>cases e
     |cons w O=>
      simp![bindL]at e;split at e
      .obtain ⟨h1,h2⟩:=ih O _ d (λk hk=>hi k (HA _ hk)) (λj z m=>by
        have f:j≠i:=λq=>hi i Wt z (q ▸ m);rw[Xb (Ne.symm f)];exact b j z m) e
       exact⟨by rw[h1];simp,h2⟩
      .cases e
   have hi:∀i∈is,∀z,Z0[i]? ≠ some (some z):=λi n z e=>by
    have:=XH.mp l i n;rw[e]at this;cases this
   let⟨h1,h2⟩:=all is O Z0 g hi (λ_ _ e=>e) o;exact⟨by rw[<-h1];exact h.len,λj z e=>h.val j z (h2 j z e)⟩
  |_=>simp[Ah]at c
def eB{o:Out α}{k:α->G->Out β}{b:β}(h:o.bindB k=.ok b g'):∃a g1,o=.ok a g1/\k a g1=.ok b g':=by
 cases o with
 |ok a g1=>exact⟨a,g1,rfl,h⟩
 |exc _ _ _=>cases h
 |ZZ=>cases h
end
section
abbrev Uc(ifs:List Expr)(env:Env):Sem Bool:=forIn ifs true λc r=>if r=true then do let ok<-isTrue c env (eval c env);pure (ForInStep.yield ok)else pure (ForInStep.yield r)
def pK{env:Env}{Z8:Model}{A:Around}{E:Value->Shared->Prop}{Q:Bool->Shared->Prop}{s:Shared}(h:Q false s):∀ifs:List Expr,wpAny Z8 A (forIn ifs false λc r=>if r=true then do let ok<-isTrue c env (eval c env);pure (ForInStep.yield ok)else pure (ForInStep.yield r)) Q E s
 |[]=>ZP h
 |c::cs=>by
  simp![SN,XZ,VC];exact ZB (ZP (pK h cs))
def PTs(X:Cx)(a:List Expr)(f:Su->G->Out Bool):Prop:=
 ∀(J:List (Addr×Obj)) (s:Shared) (Y:L2.St) (H:Hp) (Q:Bool->Hp->Prop),L2.Z2 X J Y H s->tT X.K YX f Y H Q->wpAny (model X.prog X.w) X.A (Uc a X.env) (TP X J Y Q) X.xe s
where YX:XQ:=λ_ _ _=>False
def zU:PTs X [] (Ay r.ts []):=λJ s Y H Q I ⟨Z0,ρ,g,b,a,p⟩=>ZP ⟨H,I,post.Ze (R:=Ys) p a rfl⟩
def yP{c:Expr}{f:E}{cs:List Expr}{a:List E}(j:PT X c (tT X.K PTs.YX (r.ts f)))(m:PTs X cs (Ay r.ts a)):PTs X (c::cs) (Ay r.ts (f::a)):=by
 intro J s Y H Q I ⟨Z0,ρ,g,e,i,p⟩;unfold Uc;simp![SN,Vy];refine ZB (ZB (thn (j J s Y H (λk H1=>if k=true then tT X.K PTs.YX (Ay r.ts a) Y H1 Q else Q false H1) I ⟨Z0,ρ,g,e,i,(post.bind (R:=Ys) p).mono λk H1 ⟨n,k',g1,s1,h1,l,d⟩=>?_⟩) λk s1 ⟨H1,h,b⟩=>?_))
 .subst l
  cases k' with
  |true=>exact bC ⟨Z0,n,g1,e.step s1,h1,d⟩
  |false=>exact bB (post.Ze (R:=Ys) d h1 rfl)
 .cases k with
  |true=>rw[Xg rfl]at b;exact ZP (m J s1 Y H1 Q h b)
  |false=>rw[Xp Hy]at b;exact ZP (pK ⟨H1,h,b⟩ cs)
structure Mon(K:HF)(ρ:List Addr)(H:Hp)(ZT:List Addr)(H':Hp):Prop where
 ext:∀(n:Nat) (a:Addr),ρ[n]?=some a->ZT[n]?=some a
 Z1:∀a xs,SqU K H a xs->SqU K H' a xs
 Zm:∀a xs,SqF K H a xs->SqF K H' a xs
 Zs:∀a o u,H a=some (.Zs o u)->H' a=some (.Zs o u)
def ZI.mon(s:ZI K ρ H ZT H'):Mon K ρ H ZT H':=⟨s.ext,s.Z1,s.Zm,s.Zs⟩
def Mon.trans{d:List Addr}{c:Hp}(a:Mon K ρ H ZT H')(b:Mon K ZT H' d c):Mon K ρ H d c:=⟨λn x h=>b.ext n x (a.ext n x h),λx xs h=>b.Z1 x xs (a.Z1 x xs h),λx xs h=>b.Zm x xs (a.Zm x xs h),λx o u h=>b.Zs x o u (a.Zs x o u h)⟩
def RI.mon{i:Iter}(s:Mon K ρ H ZT H')(h:RI K ρ H i Z9):RI K ZT H' i Z9:=by
 cases i with
 |S n=>let⟨a,h1,h2⟩:=h;exact⟨a,s.ext _ _ h1,h2⟩
 |ZV n=>let⟨a,o,ws,h1,h2,c⟩:=h;exact⟨a,o,ws,s.ext _ _ h1,s.Zs _ _ _ h2,c⟩
 |YY n=>let⟨a,h1,h2⟩:=h;exact⟨a,s.ext _ _ h1,h2⟩
 |zip n m=>let⟨a,b,h1,h2,c⟩:=h;exact⟨a,b,s.ext _ _ h1,s.ext _ _ h2,c⟩
 |seq O=>let⟨a,vs,h1,h2,c⟩:=h;exact⟨a,vs,h1.imp_left (s.Z1 _ _),RVs.mono s.ext s.Z1 s.Zm _ _ h2,c⟩
 |Y7 lo n=>exact h
def A7(X:Cx)(C:Nat->List U->G->Out U):List Comprehension->List (Tg×E×List E)->Prop
 |[],[]=>True
 |g::r,(t,Zv,cs)::r'=>g.is_async=0/\PG X g.target (tG X.K t)/\(∀n,PTs X g.ifs (Ay (Jw C n).ts cs))/\(∀n,PI X g.target g.iter (tI X.K PTs.YX (Jo (Jw C n) Zv)))/\(∀x,foldedSetIterable g.iter X.env x=pure x)/\A7 X C r r'
 |_,_=>False
set_option genInjectivity false in
inductive CK where|S (elt:Expr)|ZV (k v:Expr)
noncomputable def CK.exp(c:CK)(gens:List Comprehension)(scope:Scope)(pos:Pos):Expr:=match c with
 |.S elt=>.ListComp elt gens scope pos
 |.ZV k v=>.DictComp k v gens scope pos
noncomputable def CK.emit(c:CK)(ZX:Value)(env:Env):Sem Unit:=match c with
 |.S elt=>(do let _<-call (.builtin "list.append") [ZX,<-eval elt env])
 | .ZV k v=>(do
   let kv<-eval k env
   let vv<-holding [kv] (eval v env)
   match ZX with
   |.ref d=>do
    standAt {k.pos with endLine:=v.pos.endLine,endCol:=v.pos.endCol}
    holding [kv,vv] (dictSet d kv vv)
   |_=>unsupported "internal:dictcomp")
noncomputable def CK.new(c:CK):Sem Value:=match c with
 |.S _=>newList []
 |.ZV _ _=>newDict
noncomputable def CK.obj(c:CK):Obj:=match c with
 |.S _=>{cls:=.type "list",dict:=none,data:=.seq ([]:List Value).toArray}
 |.ZV _ _=>{cls:=.type "dict",data:=.dict #[]}
noncomputable def CK.WI(c:CK):HO:=match c with
 |.S _=>.S []
 |.ZV _ _=>.dT []
noncomputable def CK.ho(K:HF)(ρ:List Addr)(H:Hp)(c:CK)(a:List U)(o:HO):Prop:=match c with
 |.S _=>∃vs,o=.S vs/\RVs K ρ H a vs
 |.ZV _ _=>∃Z4 ws,o=.dT ws/\dfold a []=some Z4/\RD K ρ H Z4 ws
def CK.ho.mut{c:CK}{o:HO}(h:CK.ho K ρ H c ZX o):Bu o:=by
 cases c with
 |S e=>let⟨vs,rfl,_⟩:=h;trivial
 |ZV k v=>let⟨_,ws,rfl,_⟩:=h;trivial
def CK.ho.mono{K:HF}{ρ j:List Addr}{H H':Hp}{c:CK}{i:List U}{o:HO}(h:CK.ho K ρ H c i o)(g:∀(n:Nat) (a:Addr),ρ[n]?=some a->j[n]?=some a)(b:∀a xs,SqU K H a xs->SqU K H' a xs)(f:∀a xs,SqF K H a xs->SqF K H' a xs):CK.ho K j H' c i o:=by
 cases c with
 |S e=>let⟨vs,e,r⟩:=h;exact⟨vs,e,RVs.mono g b f _ _ r⟩
 |ZV k v=>let⟨Z4,ws,e,d,r⟩:=h;exact⟨Z4,ws,e,d,RD.mono g b f _ _ r⟩
def CK.ho.step{c:CK}{o:HO}(s:ZI K ρ H ZT H')(h:CK.ho K ρ H c ZX o):CK.ho K ZT H' c ZX o:=h.mono s.ext s.Z1 s.Zm
def CK.ho0{c:CK}:CK.ho K ρ H c [] c.WI:=by
 cases c with
 |S e=>exact⟨[],rfl,rfl⟩
 |ZV k v=>exact⟨[],[],rfl,rfl,rfl⟩
def CK.Tp{E:Value->Shared->Prop}{c:CK}(h:Q (.ref s.heap.objs.size) {s with heap:=s.heap.push c.obj}):wpAny Z8 A c.new Q E s:=by
 cases c with
 |S e=>exact V0 h
 |ZV k v=>exact V0 h
def CK.To(c:CK)(h:Heap)(a:sysModules<h.objs.size):ObjOk P w H (h.push c.obj) h.objs.size c.WI:=by
 cases c with
 |S e=>exact⟨SQ _,[],0,.nil,HD _ rfl⟩
 |ZV k v=>exact qH h a
inductive RR(X:Cx)(c:CK)(D:Addr)(J:List (Addr×Obj))(YS:List Addr)(H0:Hp)(WH:List Addr)(Hs:Hp)(Z0:Su)(O:List U)(g':G)(r:Result)(s':Shared):Prop
 |mk (f:∃f,r=.ok f) (ZU:L2.St) (H':Hp) (ZT:List Addr) (Y5:HO) (I:L2.Z2 X J ZU H' s') (sp:ZI X.K YS H0 ZT H') (hg:RH X.K ZT H' g') (hs:RS X.K ZT H' Z0 ZU) (hD:H' D=some Y5) (hn:D ∉ ZT) (rv:CK.ho X.K ZT H' c O Y5) (mo:Mon X.K WH Hs ZT H')
def wc{c:CK}{k:Nat}{g:Comprehension}{it ZX:Value}(hk:gens[k]?=some g)(ha:g.is_async=0):
  compTurn (c.exp gens scope pos) k it ZX env=(do
   standAt g.iter.pos
   match<-pyNext it with
   |none=>pure (.done .next)
   |some v=>
    letOwnedTupleGo g.target it v
    assign g.target env v
    let ok<-Uc g.ifs env
    if ok then
     match gens[k+1]? with
     |some g'=>
      let x<-eval g'.iter env
      standAt g'.iter.pos
      let x<-if g'.is_async != 0 then foldedIterable g'.iter x else foldedSetIterable g'.iter env x
      let _<-runOwn (.compStart (c.exp gens scope pos) (k+1) (<- holding [x] (if g'.is_async != 0 then asyncIter x else pyIter x)) ZX env) env
     |none=>c.emit ZX env
    again (.compLoop (c.exp gens scope pos) k it ZX env)):=by
 cases c with
 |S elt=>unfold compTurn;simp![CK.exp,hk,ha];rfl
 |ZV kx vx=>unfold compTurn;simp![CK.exp,hk,ha];rfl
end
section
variable{R:Result->Shared->Prop}
def nR{c:CK}{k:Nat}{g:Comprehension}{it ZX:Value}(hk:gens[k]?=some g)(ha:g.is_async=0)
  (h0:codeAny (model prog w) A (.compLoop (c.exp gens scope pos) k it ZX env) R s)
  (h:wpAny (model prog w) A (pyIter it) (λZv s'=>codeAny (model prog w) A (.compLoop (c.exp gens scope pos) k Zv ZX env) R s')
   (notedBy (model prog w) A env λx s'=>R (.error x) s') s) :
  codeAny (model prog w) A (.compStart (c.exp gens scope pos) k it ZX env) R s:=by
 refine codeAny_of_tree ?_;have key:(model prog w).den (.compStart (c.exp gens scope pos) k it ZX env)=(compStart (c.exp gens scope pos) k it ZX env).onRaise (λx=>do noteFrame x env;standAt theWindowsPlace):=by cases c<;>rfl
 have ku:A.under (.compStart (c.exp gens scope pos) k it ZX env)=A:=by cases c<;>rfl
 rw[key,ku];refine wpAny_notedAt ?_;unfold compStart;have hc:(clausesOf (c.exp gens scope pos))[k]?=some g:=by cases c<;>exact hk
 simp![hc,ha,Option.elim];show wpAny _ _ (ask >>= _) _ _ s;refine ZB (wpAny_askSetting (wpAny_ite ?_));split
 .first
   |exact ZB (ZP (ZP (And.intro rfl h0)))
   |exact ZP (And.intro rfl h0)
 .first
   |exact ZB (wpAny_rule (ZB (Up (ZB (S8 h (λZv s' h'=>ZP (And.intro rfl h')) λ_ _ x=>x)))))
   |(refine ZB (wpAny_rule ?_);show wpAny _ _ (standAt g.iter.pos >>= _) _ _ s;exact ZB (Up (ZB (S8 h (λZv s' h'=>ZP (And.intro rfl h')) λ_ _ x=>x))))
end
section
def noE{t:Sem α}{Q:α->Shared->Prop}{E:Value->Shared->Prop}(a:X.xe=λ_ _=>False)(h:wpAny (model X.prog X.w) X.A t Q X.xe s):wpAny (model X.prog X.w) X.A t Q E s:=
 S8 h (λ_ _ q=>q) λe s' z=>by rw[a]at z;exact z.elim
def CV(X:Cx)(C:Nat->List U->G->Out U)(c:CK)(e:E):Prop:=
 ∀(n:Nat) (J:List (Addr×Obj)) (s:Shared) (b:Su) (Y:L2.St) (H:Hp) (ρ:List Addr) (g1:G) (ZX:List U) (o:HO) (v:U) (g2:G) (D:Addr),(Jw C n).ev e b g1=.ok v g2->ZX.length<Ag->L2.Z2 X J Y H s->RS X.K ρ H b Y->RH X.K ρ H g1->H D=some o->D ∉ ρ->CK.ho X.K ρ H c ZX o ->
  wpAny (model X.prog X.w) X.A (c.emit (.ref D) X.env) (λ_ d=>∃a H1 o2,L2.Z2 X J Y (upd H1 D o2) d/\ZI X.K ρ H a H1/\RH X.K a H1 g2/\H1 D=some o/\CK.ho X.K a (upd H1 D o2) c (ZX++[v]) o2) X.xe s
def pV{b:Expr}(y:∀n,PE X b (tE X.K PTs.YX ((Jw C n).ev Zh))):CV X C (.S b) Zh:=by
 intro n J s t Y H ρ g1 ZX o v g2 D r k I i l m j ⟨vs,p,g⟩;subst p;refine ZB (thn (y n J s Y H (λx H1=>∃a,ZI X.K ρ H a H1/\RH X.K a H1 g2/\RV X.K a H1 v x) I ⟨t,ρ,g1,i,l,by rw[r];exactλv a H1 c h1 d=>⟨a,c,h1,d⟩⟩) ?_);rintro u c ⟨x,H1,A,d,a,e,w,h⟩
 have f:H1 D=some (.S vs):=e.Yu D _ m j;refine ZB (thn (pC J c Y H1 (.ref D) [x] (.ref D) [u] (λ_ H2=>H2=upd H1 D (.S (vs++[x]))) A rfl (.cons d .nil) ⟨D,vs,x,rfl,rfl,f,by rw[<-g.length,Tb];unfold Ag at k;omega,rfl⟩) ?_);rintro u2 E ⟨B,H2,z,r2,q⟩
 subst q;exact ZP ⟨a,H1,_,z,e,w,f,_,rfl,((RVs.step e _ _ g).append (.one h)).W4 f trivial⟩
def pL:∀{xs ys:List U} {a Z4:List (List Int×U)},dfold xs a=some Z4->dfold (xs++ys) a=dfold ys Z4
 |[],_,_,_,e=>by cases e;rfl
 |x::xs,ys,a,Z4,e=>by
  simp![Sm,dfold]at e ⊢;let⟨b,h1,h2⟩:=Wr.mp e;rw[h1];exact pL h2
def ya{k:List Int}:(dput Z4 k u).length<=Z4.length+1:=by
 unfold dput;split<;>simp
def xH{a:List (List Int×U)}{x:U}(e:BG Z4 x=some a):a.length<=Z4.length+1:=by
 unfold BG at e;split at e
 .obtain ⟨ks,_,rfl⟩:=Ym.mp e;exact ya
 .cases e
def pv:∀{xs:List U} {a Z4:List (List Int×U)},dfold xs a=some Z4->Z4.length<=a.length+xs.length
 |[],_,_,e=>by cases e;simp
 |x::xs,a,Z4,e=>by
  simp![dfold]at e;let⟨b,h1,h2⟩:=Wr.mp e;have:=xH h1;have:=pv h2;simp![XI];lia
def qk{B r:Expr}{k' p:E}(R:X.A.units+1<cLine)(U:∀n,PE X B (tE X.K PTs.YX ((Jw C n).ev k')))(Q:∀n,PE X r (tE X.K PTs.YX ((Jw C n).ev p))):CV X C (.ZV B r) (.pair k' p):=by
 intro n J s i Y H ρ g1 ZX o v g2 D L T I G V Z S ⟨Z4,ws,eo,ed,z⟩;subst eo;cases n with
 |zero=>cases L
 |succ n=>
  have a:(((Jw C n).ev k' i g1).bind λx g=>((Jw C n).ev p i g).bind λy g=>match keyOf x with|some _=>.ok (.Z1 [x,y]) g|none=>.ZZ)=Out.ok v g2:=L
  cases q:(Jw C n).ev k' i g1 with
  |exc _ _ _=>rw[q]at a;cases a
  |ZZ=>rw[q]at a;cases a
  |ok F ga=>
   rw[q]at a;cases ev:(Jw C n).ev p i ga with
   |exc _ _ _=>simp![Out.bind,ev]at a;cases a
   |ZZ=>simp![Out.bind,ev]at a;cases a
   |ok t gb=>
    simp![Out.bind,ev]at a;cases f:keyOf F with
    |none=>rw[f]at a;cases a
    |some P=>
     rw[f]at a;cases a;refine ZB (thn (U n J s Y H (λx H1=>∃c,ZI X.K ρ H c H1/\RH X.K c H1 ga/\RV X.K c H1 F x) I ⟨i,ρ,g1,G,V,by rw[q];exactλv c H1 k h1 l=>⟨c,k,h1,l⟩⟩) ?_);rintro u k ⟨x,H1,I1,l,c,M,Y8,O⟩
     refine ZB (T3 (thn (Q n J k Y H1 (λx H2=>∃m,ZI X.K c H1 m H2/\RH X.K m H2 g2/\RV X.K m H2 t x) I1 ⟨i,c,ga,G.step M,Y8,by rw[ev];exactλv c H1 k h1 l=>⟨c,k,h1,l⟩⟩) ?_));rintro w s2 ⟨y,H2,I2,r2,m,j,UQ,N⟩
     let⟨b,rfl,W⟩:=ji f (RV.step j _ _ O);obtain rfl:u=Value.ref b:=l;have sp:=M.trans j;have d:H2 D=some (.dT ws):=sp.Yu D _ Z S;refine ZB (Up (T3 (adg R I2 d W ?_ r2 λs3 I3=>⟨m,H2,_,I3,sp,UQ,d,dput Z4 P t,_,rfl,?_,?_⟩)))
     .have:=pv ed;rw[<-z.len,Tb];unfold Ag at T;simp at this;lia
     .rw [pL ed];simp![dfold,BG,f,Wo,UK]
     .exact RD.mono (λ_ _ e=>e) (λ_ _ h=>ba h (.inr ⟨_,d,trivial⟩)) (λ_ _ h=>bc h (.inr ⟨_,d,trivial⟩)) _ _ ((z.mono sp.ext sp.Z1 sp.Zm).put N)
abbrev postC(c:Code)(R:Result->Shared->Prop)(N:Shared->Prop):PySem.Fin->Shared->Prop:=λfin s'=>match fin with|.done f=>R (.ok f) s'|.again c'=>c'=c/\N s'
inductive LpI(X:Cx)(f:Nat->Tg->List E->List (Tg×E×List E)->E->List U->Su->G->Out (List U))(t:Tg)(cs:List E)(ZD:List (Tg×E×List E))(Zh:E)(Z0:Su)(O:List U)(g':G)(J:List (Addr×Obj))(tn:Nat->Heap->Prop)(fp:List Addr)(YC:Iter)(Z9:It)(YS:List Addr)(H0:Hp)(D:Addr)(c:CK)(WH:List Addr)(Hs:Hp)(s:Shared):Prop
 |mk (i:Nat) (ZX:List U) (vs:HO) (Y:L2.St) (H:Hp) (ρ:List Addr) (g0:G) (eq:f i t cs ZD Zh ZX Z0 g0=.ok O g') (I:L2.Z2 X J Y H s) (st:tn i s.heap) (hf:∀b∈fp,H b=none) (hs:RS X.K ρ H Z0 Y) (Yr:RH X.K ρ H g0) (ri:RI X.K ρ H YC Z9) (sp:ZI X.K YS H0 ρ H) (hD:H D=some vs) (hn:D ∉ ρ) (rv:CK.ho X.K ρ H c ZX vs) (mo:Mon X.K WH Hs ρ H)
def rN(hc:X.calm=true)(W3:X.xe=λ_ _=>False){c:CK}{Zh:E}{scope:Scope}{pos:Pos}{D:Addr}{k:Nat}{t:Tg}{YS WH:List Addr}{H0 Hs:Hp}
  {it:Addr} {fp:List Addr} {tn:Nat->Heap->Prop} {Z9:It} {YC:Iter} {J:List (Addr×Obj)} {Z0:Su} {O:List U} {g':G}
  (hk:gens[k]?=some gc) (ha:gc.is_async=0) (hg:PG X gc.target (tG X.K t)) (YH:∀n,PTs X gc.ifs (Ay (Jw C n).ts cs)) (T:Turn X.prog X.w X.K gc.target Z9 fp it tn) (Zx:∀b∈fp,∀H':Hp,H' b=none->AH X J H' b) (h0:H0 D=none)
  (inner:∀ (n:Nat) (X5:List (Addr×Obj)) (s:Shared) (ZO:Su) (Y:L2.St) (H:Hp) (ρ:List Addr) (g1:G) (ZX:List U) (vs:HO) (i:Nat) (N:Shared->Prop) (E:Value->Shared->Prop),
   (match ZD with
    |[]=>((Jw C n).ev Zh ZO g1).bindB λv g=>if ZX.length<Ag then(Jw C n).cm YC (i+1) t cs ZD Zh (ZX++[v]) Z0 g else .ZZ
    |(t2,YO,Yx)::Xu=>(Jo (Jw C n) YO ZO g1).bindB λj g=>((Jw C n).cm j 0 t2 Yx Xu Zh ZX ZO g).bindB λYD g=>(Jw C n).cm YC (i+1) t cs ZD Zh YD Z0 g)=.ok O g' ->
   L2.Z2 X X5 Y H s->RS X.K ρ H ZO Y->RH X.K ρ H g1->ZI X.K YS H0 ρ H->H D=some vs->D ∉ ρ->CK.ho X.K ρ H c ZX vs ->
   (∀s' ZU H' ZT g2 YD VW,(Jw C n).cm YC (i+1) t cs ZD Zh YD Z0 g2=.ok O g'->L2.Z2 X X5 ZU H' s'->RS X.K ZT H' ZO ZU->RH X.K ZT H' g2->ZI X.K YS H0 ZT H'->Mon X.K ρ H ZT H'->H' D=some VW->D ∉ ZT->CK.ho X.K ZT H' c YD VW->N s') ->
   wpAny (model X.prog X.w) X.A (match gens[k+1]? with
     | some g'=>(do
      let x<-eval g'.iter X.env
      standAt g'.iter.pos
      if(g'.is_async != 0)=true then do
        let x<-foldedIterable g'.iter x
        let y<-holding [x] (if(g'.is_async != 0)=true then asyncIter x else pyIter x)
        let _<-runOwn (.compStart (c.exp gens scope pos) (k+1) y (.ref D) X.env) X.env
        again (.compLoop (c.exp gens scope pos) k (.ref it) (.ref D) X.env)
       else do
        let x<-foldedSetIterable g'.iter X.env x
        let y<-holding [x] (if(g'.is_async != 0)=true then asyncIter x else pyIter x)
        let _<-runOwn (.compStart (c.exp gens scope pos) (k+1) y (.ref D) X.env) X.env
        again (.compLoop (c.exp gens scope pos) k (.ref it) (.ref D) X.env))
     | none=>(do
      c.emit (.ref D) X.env
      again (.compLoop (c.exp gens scope pos) k (.ref it) (.ref D) X.env))) (postC (.compLoop (c.exp gens scope pos) k (.ref it) (.ref D) X.env) (RR X c D J YS H0 WH Hs Z0 O g') N) E s)
  (n:Nat) (s:Shared) (i:Nat) (ZX:List U) (vs:HO) (Y:L2.St) (H:Hp) (ρ:List Addr) (g0:G) (eq:(Jw C n).cm YC i t cs ZD Zh ZX Z0 g0=.ok O g') (I:L2.Z2 X J Y H s) (st:tn i s.heap) (hf:∀b∈fp,H b=none)
  (hs:RS X.K ρ H Z0 Y) (Yr:RH X.K ρ H g0) (ri:RI X.K ρ H YC Z9) (sp:ZI X.K YS H0 ρ H) (hD:H D=some vs) (hn:D ∉ ρ) (rv:CK.ho X.K ρ H c ZX vs) (mo:Mon X.K WH Hs ρ H) :
  codeAny (model X.prog X.w) X.A (.compLoop (c.exp gens scope pos) k (.ref it) (.ref D) X.env) (RR X c D J YS H0 WH Hs Z0 O g') s:=by
 refine codeAny_loop (by cases c<;>rfl) (λn s=>LpI X ((Jw C n).cm YC) t cs ZD Zh Z0 O g' J tn fp YC Z9 YS H0 D c WH Hs s) ?_ n ⟨i,ZX,vs,Y,H,ρ,g0,eq,I,st,hf,hs,Yr,ri,sp,hD,hn,rv,mo⟩
 clear eq I st hf hs Yr ri sp hD hn rv mo;rintro n s ⟨i,ZX,vs,Y,H,ρ,g0,eq,I,st,hf,hs,Yr,ri,sp,hD,hn,rv,mo⟩;cases n with
 |zero=>cases eq
 |succ n=>
  have XF:Jv (Jw C n) YC i t cs ZD Zh ZX Z0 g0=.ok O g':=eq;clear eq;simp![Jv]at XF;have key:(model X.prog X.w).den (.compLoop (c.exp gens scope pos) k (.ref it) (.ref D) X.env)=(compTurn (c.exp gens scope pos) k (.ref it) (.ref D) X.env).onRaise (λx=>do noteFrame x X.env;theTreesLotGoes x):=by cases c<;>rfl
  have ku:X.A.under (.compLoop (c.exp gens scope pos) k (.ref it) (.ref D) X.env)=X.A:=by cases c<;>rfl
  rw[key,ku];refine wpAny_noted ?_;rw[wc hk ha];refine ZB (Up (ZB ?_));have stat:∀{H':Hp},(∀b∈fp,H' b=none) ->∀b∈fp,AH X J H' b:=λh b hb=>Zx b hb _ (h b hb);cases en:next YC i g0 with
  |none=>rw[en]at XF;dsimp only at XF;cases XF
  |some o=>
   cases o with
   |none=>
    rw[en]at XF;dsimp only at XF;cases XF;refine thn (T.done X rfl rfl rfl hc i J s Y H _ I (stat hf) st (qW Yr ri en)) ?_;rintro r s1 ⟨hr,I1⟩;subst hr;exact ZP ⟨⟨_,rfl⟩,Y,H,ρ,vs,I1,sp,Yr,hs,hD,hn,rv,mo⟩
   |some u=>
    rw[en]at XF;dsimp only at XF;let⟨go,yl⟩:=uL Yr ri en;refine thn (T.item X rfl rfl rfl hc i J s Y H _ I (stat hf) st go) ?_;rintro r s1 ⟨u',hr,h4⟩;subst hr;refine ZB (thn h4 ?_);rintro _ s5 ⟨x,H5,I5,r5,y5,V7,U5⟩;let⟨W2,hgg5,rx⟩:=yl x H5 y5;replace hs:=hs.step W2;replace Yr:=hgg5;replace ri:=ri.step W2;replace sp:=sp.trans W2;replace hD:=W2.Yu D _ hD hn;replace rv:=rv.step W2;replace mo:=mo.trans W2.mon;have I5':=I5.pinned (stat U5) (T.obj _ _ V7);split at XF
    .rename_i Ux
     cases eb:Ah t u Z0 with
     |none=>rw[eb]at XF;dsimp only at XF;cases XF
     |some ZO=>
      rw[eb]at XF;dsimp only at XF;let⟨kk,g1,e1,e2⟩:=eB XF;refine ZB (noE W3 (thn (hg _ s5 Y H5 x u' (λZU H'=>H'=H5/\RS X.K ρ H5 ZO ZU) I5' r5 ⟨Z0,ρ,g0,u,ZO,hs,Yr,rx,oQ eb,λZU h=>⟨rfl,h⟩⟩) ?_));rintro _ s6 ⟨U4,H6,I6,eh,hs6⟩;subst eh;refine ZB (noE W3 (thn (YH n _ s6 U4 H6 (λk' H'=>k'=kk /\∃ZM,ZI X.K ρ H6 ZM H'/\RH X.K ZM H' g1) I6 ⟨ZO,ρ,g0,hs6,Yr,by rw[e1];exactλv ZM H1 s1 h1 e=>⟨e.symm,ZM,s1,h1⟩⟩) ?_));rintro k' s7 ⟨H7,I7,ek,ZM,Zj,Y8⟩
      subst ek;have back:∀(s':Shared) (ZU:L2.St) (H':Hp) (ZT:List Addr) (g2:G) (YD:List U) (VW:HO),(Jw C n).cm YC (i+1) t cs ZD Zh YD Z0 g2=.ok O g'->L2.Z2 X (J++Co fp s5.heap) ZU H' s'->RS X.K ZT H' ZO ZU->RH X.K ZT H' g2->ZI X.K YS H0 ZT H'->Mon X.K ZM H7 ZT H'->H' D=some VW->D ∉ ZT->CK.ho X.K ZT H' c YD VW ->
        ∃m,m<n+1/\LpI X ((Jw C m).cm YC) t cs ZD Zh Z0 O g' J tn fp YC Z9 YS H0 D c WH Hs s':=λs' ZU H' ZT g2 YD VW q1 q2 q3 q4 q5 q6 q7 q8 q9=>by
       refine⟨n,Sj _,i+1,YD,VW,ZU,H',ZT,g2,q1,q2.Uv,T.keep _ _ _ V7 λb hb o e=>(q2.pin (b,o) (WQ _ (WQ _ (dJ hb e)))).1,λb hb=>?_,RS.unbind Ux eb q3,q4,(ri.step Zj).mon q6,q5,q7,q8,q9,(mo.trans Zj.mon).trans q6⟩;let⟨o,e,d⟩:=T.obj _ _ V7 b hb;exact(q2.pin (b,o) (WQ _ (WQ _ (dJ hb e)))).2.1
      have hD7:H7 D=some vs:=Zj.Yu D _ hD hn;have hn7:D ∉ ZM:=dF Zj hn hD;have rv7:=rv.step Zj;cases k' with
      |false=>
       simp![XZ,VC]at e2 ⊢;exact ZP ⟨rfl,back s7 U4 H7 ZM g1 ZX vs e2 I7 (hs6.step Zj) Y8 (sp.trans Zj) ⟨λ_ _ h=>h,λ_ _ h=>h,λ_ _ h=>h,λ_ _ _ h=>h⟩ hD7 hn7 rv7⟩
      |true=>
       simp![Vy]at e2 ⊢;exact inner n _ s7 ZO U4 H7 ZM g1 ZX vs i _ _ e2 I7 (hs6.step Zj) Y8 (sp.trans Zj) hD7 hn7 rv7 back
    .cases XF
def xb(hc:X.calm=true)(W3:X.xe=λ_ _=>False){c:CK}(hem:CV X C c Zh){D:Addr}:
  ∀(ZQ:List Comprehension) (ZD:List (Tg×E×List E)) (k:Nat) (gc:Comprehension) (t:Tg) (cs:List E),gens[k]?=some gc->gens.drop (k+1)=ZQ->gc.is_async=0->PG X gc.target (tG X.K t) ->
   (∀n,PTs X gc.ifs (Ay (Jw C n).ts cs))->A7 X C ZQ ZD ->
   ∀(n:Nat) (J:List (Addr×Obj)) (s:Shared) (it:Addr) (fp:List Addr) (tn:Nat->Heap->Prop) (Z9:It) (YC:Iter) (i:Nat) (ZX:List U) (vs:HO) (Z0:Su) (Y:L2.St) (H:Hp) (ρ YS:List Addr) (H0:Hp) (R:G) (O:List U) (g':G),
    Turn X.prog X.w X.K gc.target Z9 fp it tn->(Jw C n).cm YC i t cs ZD Zh ZX Z0 R=.ok O g'->L2.Z2 X J Y H s->tn i s.heap->(∀b∈fp,AH X J H b)->RS X.K ρ H Z0 Y->RH X.K ρ H R->RI X.K ρ H YC Z9 ->
    ZI X.K YS H0 ρ H->H0 D=none->H D=some vs->D ∉ ρ->CK.ho X.K ρ H c ZX vs ->
    codeAny (model X.prog X.w) X.A (.compLoop (c.exp gens scope pos) k (.ref it) (.ref D) X.env) (RR X c D J YS H0 ρ H Z0 O g') s:=by
 intro ZQ
 induction ZQ with
 |nil=>
  intro ZD k gc t cs hk Uo ha M YH y n J s it fp tn Z9 YC i ZX vs Z0 Y H ρ YS H0 R O g' T Q I st W g Yr ri sp Z B u F;have UP:gens[k+1]?=none:=by
   have:=V2 List.length Uo;rw[S9]at this;exact W6.mpr (by simp at this;omega)
  cases ZD with
  |cons _ _=>exact False.elim y
  |nil=>
   refine rN hc W3 hk ha M YH T (λb P H' h=>⟨h,(W b P).2⟩) Z ?_ n s i ZX vs Y H ρ R Q I st (λb P=>(W b P).1) g Yr ri sp B u F ⟨λ_ _ h=>h,λ_ _ h=>h,λ_ _ h=>h,λ_ _ _ h=>h⟩;intro n X5 s ZO Y H ρ g1 ZX vs i N E Q I g M sp B u F back;let⟨v,g2,e1,e2⟩:=eB Q;rw[UP];split at e2
   .rename_i hl
    refine ZB (noE W3 (thn (hem n X5 s ZO Y H ρ g1 ZX vs v g2 D e1 hl I g M B u F) ?_));rintro _ s2 ⟨d,H1,o2,I2,a,Y8,L,rv2⟩;have o:D ∉ d:=dF a u B;have hm:=F.mut;refine ZP ⟨rfl,?_⟩;refine back s2 Y _ d g2 (ZX++[v]) o2 e2 I2 ?_ (Y8.W4 L hm o) ((sp.trans a).W4 Z L hm) (a.mon.trans ⟨λ_ _ h=>h,λ_ _ h=>ba h (.inr ⟨_,L,hm⟩),λ_ _ h=>bc h (.inr ⟨_,L,hm⟩),λ_ _ _ h=>by rw[af (cQ h L (by rintro rfl;exact hm))];exact h⟩) upd_same o rv2
    exact⟨g.len,λj z e=>let⟨w,w1,w2⟩:=(g.step a).val j z e;⟨w,w1,w2.W4 L hm⟩⟩
   .cases e2
 |cons gn ZQ ih=>
  intro ZD k gc t cs hk Uo ha M YH y n J s it fp tn Z9 YC i ZX vs Z0 Y H ρ YS H0 R O g' T Q I st W g Yr ri sp Z B u F;have UP:gens[k+1]?=some gn:=by
   have:=V2 (λl=>l[0]?) Uo;simpa[List.getElem?_drop]using this
  have Tn:gens.drop (k+1+1)=ZQ:=by
   rw[<-List.drop_drop,Uo];rfl
  cases ZD with
  |nil=>exact False.elim y
  |cons q2 Xu=>
   let⟨t2,YO,Yx⟩:=q2;let⟨a2,pg2,S,pi2,Tj,V⟩:=y;refine rN hc W3 hk ha M YH T (λb P H' h=>⟨h,(W b P).2⟩) Z ?_ n s i ZX vs Y H ρ R Q I st (λb P=>(W b P).1) g Yr ri sp B u F ⟨λ_ _ h=>h,λ_ _ h=>h,λ_ _ h=>h,λ_ _ _ h=>h⟩;intro n X5 s ZO Y H ρ g1 ZX vs i N E Q I g M sp B u F back;let⟨j,g3,e1,e2⟩:=eB Q;let⟨YD,g4,e3,e4⟩:=eB e2;rw[UP];refine ZB (noE W3 (thn (pi2 n X5 s Y H (λZ9 H1=>∃d,ZI X.K ρ H d H1/\RH X.K d H1 g3/\RI X.K d H1 j Z9) I ⟨ZO,ρ,g1,g,M,by rw[e1];exactλv d H1 s1 h1 r1=>⟨d,s1,h1,r1⟩⟩) λv s1 h1=>ZB (Up ?_)))
   rw[a2];rw[Xp #[1]]
   refine ZB (wpAny_of_eq (Tj v) (ZB (T3 ?_)));rw[Xp #[1]]
   refine noE W3 (thn h1 λV8 s2 h2=>?_);let⟨ita,fp2,tn2,J2,H2,e,I2,T2,Yl,f2,d,a,Y8,Xn⟩:=h2;subst e;have L:H2 D=some vs:=a.Yu D _ B u;have o:D ∉ d:=dF a u B;have loop:=ih Xu (k+1) gn t2 Yx UP Tn a2 pg2 S V n X5 s2 ita fp2 tn2 J2 j 0 ZX vs ZO Y H2 d YS H0 g3 YD g4 T2 e3 I2 Yl f2 (g.step a) Y8 Xn (sp.trans a) Z L o (F.step a);refine ZB (wpAny_runOwn (SF (nR UP a2 loop (T2.self _ 0 s2 _ _ Yl loop)) λr s3 hr=>?_));let⟨⟨f,rfl⟩,ZU,H',ZT,Y5,I3,sp3,hg3,WK,hD3,hn3,rv3,mo3⟩:=hr;exact ZP ⟨rfl,back s3 ZU H' ZT g4 YD Y5 e4 I3 WK hg3 sp3 (a.mon.trans mo3) hD3 hn3 rv3⟩
end
variable{x y:Str}{c:Addr}{elt:Expr}{zs:Nat->Array Value}{st:Stmt}{Wf:XK->XQ}
def JB(cells:List (Str×Addr)):List (Str×NameKind)->List (Str×Addr)->List (Str×Addr)
 |[],ZX=>ZX
 |(x,k)::r,ZX=>if k==.free then(match cells.lookup x with|some c=>JB cells r ((x,c)::ZX)|none=>JB cells r ZX)else JB cells r ZX
def dG{scope:Scope}(h:∀x∈scope.names,x.2=.free ->∃c,env.cells.lookup x.1=some c):closureFor scope env=pure (JB env.cells scope.names []):=by
 have all:∀(names:List (Str×NameKind)) (ZX:List (Str×Addr)),(∀x∈names,x.2=.free ->∃c,env.cells.lookup x.1=some c) ->
   (forIn names ZX λ(x:Str×NameKind) (cs:List (Str×Addr))=>match x with|(name,kind)=>if(kind==NameKind.free)=true then do let c<-cellOf env name;pure (ForInStep.yield ((name,c)::cs))else pure (ForInStep.yield cs):Sem (List (Str×Addr)))=pure (JB env.cells names ZX):=λnames=>by
  induction names with
  |nil=>intro ZX _;rfl
  |cons p r ih=>
   intro ZX hp;let⟨x,k⟩:=p;simp![SN,JB];by_cases hk:k=.free
   .subst hk
    let⟨c,hc⟩:=hp (x,.free) Wt rfl;have hco:cellOf env x=pure c:=by unfold cellOf;simp only at hc;rw[hc]
    simp![Sl,Vy,hco,hc];exact ih _ λy hy=>hp y (HA _ hy)
   .have hb:(k==NameKind.free)=false:=by simpa using hk
    simp![hb,XZ,VC];exact ih _ λy hy=>hp y (HA _ hy)
 unfold closureFor;show((forIn scope.names [] λ(x:Str×NameKind) (cs:List (Str×Addr))=>match x with|(name,kind)=>if(kind==NameKind.free)=true then do let c<-cellOf env name;pure (ForInStep.yield ((name,c)::cs))else pure (ForInStep.yield cs):Sem (List (Str×Addr))) >>= λs=>pure s)=_
 rw[all scope.names [] h]
 rfl
def bJ{cells:List (Str×Addr)}:∀(names:List (Str×NameKind)) (ZX:List (Str×Addr)),(∀x c,ZX.lookup x=some c->cells.lookup x=some c) ->∀x c,(JB cells names ZX).lookup x=some c->cells.lookup x=some c
 |[],_,h=>h
 |(y,k)::r,ZX,h=>by
  unfold JB;split
  .split
   .rename_i c hc
    refine bJ r _ λx d e=>?_;rw[XN]at e;split at e
    .rename_i a
     cases e;rw[eq_of_beq a];exact hc
    .exact h x d e
   .exact bJ r _ h
  .exact bJ r _ h
def ee{cells:List (Str×Addr)}{x:Str}:∀(names:List (Str×NameKind)) (ZX:List (Str×Addr)),(ZX.lookup x).isSome=true->((JB cells names ZX).lookup x).isSome=true
 |[],_,h=>h
 |(y,k)::r,ZX,h=>by
  unfold JB;split
  .split
   .refine ee r _ ?_
    rw[XN];split
    .rfl
    .exact h
   .exact ee r _ h
  .exact ee r _ h
def dh{cells:List (Str×Addr)}{x:Str}{c:Addr}(a:cells.lookup x=some c):∀(names:List (Str×NameKind)) (ZX:List (Str×Addr)),(x,NameKind.free)∈names->((JB cells names ZX).lookup x).isSome=true
 |(y,k)::r,ZX,h=>by
  unfold JB;rcases YG.mp h with e|h
  .cases e
   simp![Sl,Vy,a];exact ee r _ #[3]
  .split
   .split
    .exact dh a r _ h
    .exact dh a r _ h
   .exact dh a r _ h
def cI:∀(names:List (Str×NameKind)) (n:Nat) (ZX:List (Str×Addr)),cellsFrom n names ZX=cellsFrom n names []++ZX
 |[],_,_=>rfl
 |(x,k)::r,n,ZX=>by
  unfold cellsFrom;split
  .rw [cI r (n+1) ((x,n)::ZX),cI r (n+1) [(x,n)],X0];rfl
  .exact cI r n ZX
def br{x:Str}{c:Addr}:∀(names:List (Str×NameKind)) (n:Nat),(x,c)∈cellsFrom n names []->(x,NameKind.cell)∈names/\n<=c
 |[],_,h=>nomatch h
 |(y,k)::r,n,h=>by
  unfold cellsFrom at h;split at h
  .rename_i hk
   rw[cI,Vm]at h;rcases h with h|h
   .exact ⟨.tail _ (br r _ h).1,RN (br r _ h).2⟩
   .cases XM.mp h;rw[eq_of_beq hk];exact⟨.head _,Hz _⟩
  .exact ⟨.tail _ (br r _ h).1,(br r _ h).2⟩
def dz(h:(cellsFrom n names cl).lookup x=some c):(cellsFrom n names []).lookup x=some c\/((cellsFrom n names []).lookup x=none/\cl.lookup x=some c):=by
 rw[cI,List.lookup_append]at h;cases e:(cellsFrom n names []).lookup x with
 |some d=>rw[e]at h;exact .inl h
 |none=>rw[e]at h;exact .inr ⟨rfl,h⟩
def acJ(h:cl.lookup x=some c)(a:(x,NameKind.cell) ∉ names):(cellsFrom n names cl).lookup x=some c:=by
 rw[cI,List.lookup_append];cases e:(cellsFrom n names []).lookup x with
 |some d=>exact absurd (br _ _ (Vj e)).1 a
 |none=>exact h
def jE(h:(cellsFrom n names (JB cells names [])).lookup x=some c):cells.lookup x=some c\/n<=c:=by
 rcases dz h with z|⟨_,z⟩
 .exact .inr (br _ _ (Vj z)).2
 .exact .inl (bJ names [] (λx c h=>by cases h) x c z)
def uU(h:Heap)(names:List (Str×NameKind))(o:Obj):CellsOk (pushCells (h.push o) names) (h.objs.size+1) (cellsFrom (h.objs.size+1) names []):=by
 have:=cellsFrom_ok names (h.push o) (h.objs.size+1) [] ⟨λ_ _ a=>(nomatch a),List.Pairwise.nil⟩ (by rw[SE];exact Hz _)
 rwa[SE]at this
def yv{E:Value->Shared->Prop}{d:Addr}{qual:Str}{Q:Env->Shared->Prop}
  (h:Q {scope,locals:=s.heap.objs.size,globals:=d,cells:=cellsFrom (s.heap.objs.size+1) scope.names cl,qual:=qual,func:=none,code:=env.code,frame:=env.frame,builtins:=env.builtins} {s with heap:=pushCells (s.heap.push {cls:=.type "dict",data:=.dict #[]}) scope.names}) :
  wpAny Z8 A (newFunctionEnv scope d cl [] qual none .none (some env)) Q E s:=by
 simp![newFunctionEnv,Option.isSome_some,Vy];refine ZB (wpAny_alloc ?_);refine ZB (wpAny_layCells _ (λname a cells=>by cases c:a==NameKind.cell<;>simp[c]) _ _ _ _ ?_)
 rw[show({s with heap:=s.heap.push {cls:=.type "dict",data:=.dict #[]}}:Shared).heap.objs.size=s.heap.objs.size+1 from SE ..]
 exact ZB (ZP (ZP h))
def Ai(X:Cx)(J:List (Addr×Obj))(scope:Scope)(a:Shared)(d:Hp)(b:List Addr)(c:List Str):Cx:=
 {X with env:=compEnvC scope (cellsFrom (a.heap.objs.size+1) scope.names (JB X.env.cells scope.names [])) a.heap.objs.size X.env,N:=c,Zc:=a,Vd:=d,outer:=X.stack,stack:=X.stack,ex:=b,fn:=λx=>scope.names.lookup x==some .cell,pn:=X.pn++J,xe:=λ_ _=>False}
section
variable{s3 s4:Shared}{Y:L2.St}{H3:Hp}{own fr:List Str}
structure Xm(X:Cx)(scope:Scope)(own fr:List Str)(Zw:List Nat):Prop where
 kind:scope.kind=.function
 names:∀x∈scope.names,x.2=.local->scope.names.lookup x.1=some .local
 cells:∀x∈scope.names,x.2=.cell->scope.names.lookup x.1=some .cell
 frees:∀x∈scope.names,x.2=.free->X.env.kindOf x.1=some .cell
 loc:∀x∈own,scope.names.lookup x=some .local\/scope.names.lookup x=some .cell
 nd:(own++fr).Nodup
 frs:∀x∈fr,scope.names.lookup x=some .free
 ix:Zw.length=fr.length /\∀(j:Nat) (x:Str) (i:Nat),fr[j]?=some x->Zw[j]?=some i->X.N[i]?=some x
def fg{a:Type}{x:Str}{k:a}:∀{l:List (Str×a)},l.lookup x=some k->(x,k)∈l
 |[],h=>by cases h
 |(y,z)::r,h=>by
  rw[XN]at h;split at h
  .rename_i b;cases h;rw[eq_of_beq b];exact Wt
  .exact HA _ (fg h)
def dA{env:Env}{x:Str}:∀{names:List (Str×NameKind)},(names.map λ(n,k)=>if(k==NameKind.free&&env.scope.kind==.function&&env.kindOf n==some .cell)then(n,NameKind.cell)else(n,k)).lookup x =
  (names.lookup x).map λk=>if(k==NameKind.free&&env.scope.kind==.function&&env.kindOf x==some .cell)then NameKind.cell else k
 |[]=>rfl
 |(n,k)::r=>by
  have ih:=@dA env x r;rw[Y3,XN (as:=r)];show List.lookup x ((if(k==NameKind.free&&env.scope.kind==.function&&env.kindOf n==some .cell)=true then(n,NameKind.cell)else(n,k))::_)=_
  cases a:x==n with
  |true=>
   obtain rfl:=eq_of_beq a;by_cases hc:(k==NameKind.free&&env.scope.kind==.function&&env.kindOf x==some .cell)=true
   .rw [Xg hc,XN,a]
    simp![Wo];rw[Xg hc]
   .rw [Xp hc,XN,a]
    simp![Wo];rw[Xp hc]
  |false=>
   by_cases hc:(k==NameKind.free&&env.scope.kind==.function&&env.kindOf n==some .cell)=true
   .rw [Xg hc,XN,a];exact ih
   .rw [Xp hc,XN,a];exact ih
def zp(Z5:Xm X scope own fr Zw)(I:L2.Z2 X J Y H3 s3)(j:∀b∈fp,AH X J H3 b)(u:∀b∈fp,b<s3.heap.objs.size):(Ai X J scope s3 H3 fp (own++fr)).Ok:=by
 have sub:=bJ (cells:=X.env.cells) scope.names [] (λx c h=>by cases h)
 have B:(Ai X J scope s3 H3 fp (own++fr)).env.scope.kind=.function:=Z5.kind;have low:∀x c,X.env.cells.lookup x=some c->c<s3.heap.objs.size:=λx c h=>let⟨_,_,ho,_⟩:=I.cell x c h;Hw ho
 have w:=uU s3.heap scope.names {cls:=.type "dict",data:=.dict #[]};refine⟨I.ok.mod,B,I.ok.glob,I.ok.blt,Hz _,λx y c h1 h2=>?_,λx d=>?_,λx c h1 h2=>?_,I.ok.hd,I.ok.frames,.inl rfl,λb a=>⟨HC (u b a),λx c h=>?_⟩,λb o e=>I.bs b o e,Hx I.ok.WR I.sz,λb o e a=>?_,λb a t=>?_,I.stack,I.TV⟩
 .have Yv:∀{z},(cellsFrom (s3.heap.objs.size+1) scope.names []).lookup z=some c->s3.heap.objs.size<c:=λh=>(br _ _ (Vj h)).2
  rcases dz h1 with z|⟨_,z⟩<;>rcases dz h2 with f|⟨_,f⟩
  .exact name_of_addr w.apart (Vj z) (Vj f)
  .exact absurd (Qn (Yv z) (low _ _ (sub _ _ f))) (Ta _)
  .exact absurd (Qn (Yv f) (low _ _ (sub _ _ z))) (Ta _)
  .exact I.ok.inj x y c (sub x c z) (sub y c f)
 .
  have r:(Ai X J scope s3 H3 fp (own++fr)).env.kindOf x=(scope.names.lookup x).map λk=>if(k==NameKind.free&&X.env.scope.kind==.function&&X.env.kindOf x==some .cell)then NameKind.cell else k:=dA
  rw[r]at d;cases g:scope.names.lookup x with
  |none=>rw[g]at d;rcases d with h|h<;>cases h
  |some k=>
   rw[g]at d;have hm:=fg g;refine Sg.mp (Ss _ _ _ ?_);cases k with
   |free=>
    let⟨c,hc⟩:=I.ok.has x (.inl (Z5.frees _ hm rfl));exact .inr (dh hc scope.names [] hm)
   |cell=>exact .inl g
   |«local»=>rcases d with h|h<;>simp at h
   |globalExplicit=>rcases d with h|h<;>simp at h
   |globalImplicit=>rcases d with h|h<;>simp at h
 .have A:scope.names.lookup x=some .cell:=eq_of_beq h1
  rcases dz h2 with z|⟨z,_⟩
  .exact RN (br _ _ (Vj z)).2
  .have:=Ss scope.names (s3.heap.objs.size+1) [] (.inl A)
   rw[z]at this;cases this
 .rcases jE h with z|z
  .exact (j b a).2.2.2.2.1 x c z
  .exact So (HB (RP (u b a)) z)
 .rcases (j b a).2.2.2.1 with z|z
  .exact I.ok.Yw b o e z
  .exact absurd (HB (show b<X.base.objs.size from Hw e) (Hx I.ok.WR z)) (Ta _)
 .rcases YG.mp (I.Vb b t)with z|z
  .exact (j b a).2.1 z
  .exact (j b a).2.2.1 z
def getD_none{o:Option (Option α)}{v:α}(h:o.getD none=some v):o=some (some v):=by
 cases o with
 |none=>cases h
 |some w=>cases h;rfl
def xV(Z5:Xm X scope own fr Zw)(I:L2.Z2 X J Y H3 s3)(F:∀b∈fp,AH X J H3 b)(N:∀b∈fp,b<s3.heap.objs.size){f:Heap}{tk:Nat}{w:Str->Option Value}(H:f.Ns s3.heap.objs.size w)(kept:∀b o,s3.heap.get? b=some o->f.get? b=some o)(L:∀x c,(x,c)∈cellsFrom (s3.heap.objs.size+1) scope.names [] ->∃v,f.IsCell c v):
  L2.Z2 (Ai X J scope s3 H3 fp (own++fr)) [] (List.replicate own.length none++Zw.map λj=>(Y[j]?).getD none) H3 {s3 with heap:=f,toks:=tk}:=by
 have sub:=bJ (cells:=X.env.cells) scope.names [] (λx c h=>by cases h)
 refine⟨zp Z5 I F N,rfl,I.bare,Un.kept kept,⟨w,H,λi x v G a R=>?_⟩,λx c h=>?_,I.ZL.fresh (Hz _),λx c h=>(jE h).elim (I.XA x c) λz=>I.ZL.fresh (RN z),λp D=>?_,I.ZL.kept kept,?_⟩
 .
  have r:(own++fr)[i]?=some x:=G;by_cases hi:i<own.length
  .rw [XD (by simpa using hi),Sk,Xg hi]at a
   cases a
  .rw [Xf (by simpa using hi),SA,Y0]at a
   rw[Xf (by lia)]at r
   cases l:Zw[i-own.length]? with
   |none=>rw[l]at a;cases a
   |some k=>
    rw[l]at a;have M:=getD_none (X9 a);have hN:=Z5.ix.2 _ x k r l;have t:=Z5.frs x (XG r);have hm:=fg t;have s:=Z5.frees _ hm rfl;let⟨m,Q,E⟩:=I.loc;let⟨u,A,lk⟩:=E k x v hN M (.inr (.inl s));refine⟨u,A,?_⟩;rcases lk with⟨hk,_⟩|⟨_,c,hc,P⟩
    .rw [s]at hk;cases hk
    .have O:(Ai X J scope s3 H3 fp (own++fr)).env.kindOf x=some .cell:=by
      have:=@dA X.env x scope.names;show List.lookup x _=_;refine this.trans ?_;rw[t];have hk:=I.ok.kind;simp[hk,s]
     let⟨c',y⟩:=Sg.mp (dh hc scope.names [] hm);have:=sub x c' y;rw[hc]at this;cases this;let⟨o,ho,g⟩:=P;exact .inr ⟨.inl O,c,acJ y (λz=>by have:=Z5.cells _ z rfl;rw[t]at this;cases this),o,kept c o ho,g⟩
 .rcases dz h with z|⟨_,z⟩
  .exact L x c (Vj z)
  .obtain ⟨v,o,ho,g⟩:=I.cell x c (sub x c z)
   exact⟨v,o,kept c o ho,g⟩
 .have K:p∈X.pn++J:=by
   have:p∈(X.pn++J)++[]:=D;simpa using this
  let⟨e,n,C,B,d⟩:=I.pin p K;refine⟨kept _ _ e,n,HC (Hw e),λz=>?_,d⟩;rcases YG.mp (I.Vb p.1 z)with q|q
  .exact C q
  .exact B q
 .show (List.replicate own.length none++Zw.map λj=>(Y[j]?).getD none).length=(own++fr).length
  simp[Z5.ix.1]
def aaa(h:RS K ρ H Z0 Y):RS K ρ H (List.replicate n none++Zw.map λj=>(Z0[j]?).getD none) (List.replicate n none++Zw.map λj=>(Y[j]?).getD none):=by
 refine⟨by simp,λi u e=>?_⟩
 by_cases hi:i<n
 .rw [XD (by simpa using hi),Sk,Xg hi]at e
  cases e
 .rw [Xf (by simpa using hi),SA,Y0]at e
  rw[Xf (by simpa using hi),SA,Y0]
  cases a:Zw[i-n]? with
  |none=>rw[a]at e;cases e
  |some k=>
   rw[a]at e;let⟨v,c,b⟩:=h.val k u (getD_none (X9 e));exact⟨v,by simp[c],b⟩
end
section
variable{own fr:List Str}
def dI(hc:X.calm=true)(Z5:Xm X scope own fr Zw){t:Tg}{c:CK}{n:Nat}(ha:gc.is_async=0)
  (H:∀ J s3 H3 fp,PG (Ai X J scope s3 H3 fp (own++fr)) gc.target (tG X.K t)/\(∀ n,PTs (Ai X J scope s3 H3 fp (own++fr)) gc.ifs (Ay (Jw C n).ts cs))/\A7 (Ai X J scope s3 H3 fp (own++fr)) C ZQ ZD /\
   CV (Ai X J scope s3 H3 fp (own++fr)) C c Zh)
  {J:List (Addr×Obj)} {a:Shared} {Y:L2.St} {u:Hp} {I:List Addr} {g1:G} {Z0:Su} {it:Addr} {fp:List Addr} {Z:Nat->Heap->Prop} {Z9:It} {iI:Iter} {O:List U} {g2:G} {E:Value->Shared->Prop} {P:Value->Addr->Result->Shared->Prop}
  (I2:L2.Z2 X J Y u a) (T:Turn X.prog X.w X.K gc.target Z9 fp it Z) (Yl:Z 0 a.heap) (f2:∀b∈fp,AH X J u b) (hs:RS X.K I u Z0 Y) (Y8:RH X.K I u g1) (Xn:RI X.K I u iI Z9)
  (WG:(Jw C n).cm iI 0 t cs ZD Zh [] (List.replicate own.length none++Zw.map λj=>(Z0[j]?).getD none) g1=.ok O g2)
  (fin:∀ (D W:Addr) (s':Shared) (H':Hp) (ZT:List Addr) (Y5:HO) (m:Str->Option Value) (f:Flow),L2.Z2 X J Y H' s'->ZI X.K I u ZT H'->RH X.K ZT H' g2->u D=none->H' D=some Y5->D ∉ ZT->CK.ho X.K ZT H' c O Y5->s'.heap.Ns W m->W≠X.env.locals->(∀ x c,X.env.cells.lookup x=some c->c≠W) ->
   (∀(V:Shared) (YE:L2.St) (Zd:Hp) (h':Heap),L2.Z2 X J YE Zd V->(∀b,H' b=none->b<s'.heap.objs.size->Zd b=none)->Heap.SameBut W V.heap h'->L2.Z2 X J YE Zd {V with heap:=h'})->P (.ref D) W (.ok f) s') :
  wpAny (model X.prog X.w) X.A c.new (λZX Q => wpAny (model X.prog X.w) X.A (newFunctionEnv scope X.env.globals (JB X.env.cells scope.names []) [] X.env.qual none .none (some X.env)) (λTN N =>
    codeAny (model X.prog X.w) X.A (.compStart (c.exp (gc::ZQ) scope pos) 0 (.ref it) ZX {TN with scope:=relabel scope X.env}) (P ZX TN.locals) N) E Q) E a:=by
 refine CK.Tp (yv ?_);dsimp only;have S:=uU (a.heap.push c.obj) scope.names {cls:=.type "dict",data:=.dict #[]};have TM:=(Heap.Ns.new (a.heap.push c.obj) (.type "dict")).keeps (pushCells_keeps scope.names _);have kept:∀b o,(a.heap.push c.obj).get? b=some o->(pushCells ((a.heap.push c.obj).push {cls:=.type "dict",data:=.dict #[]}) scope.names).get? b=some o:=λb o e=>pushCells_keeps _ _ b o (Hv _ e);generalize pushCells ((a.heap.push c.obj).push {cls:=.type "dict",data:=.dict #[]}) scope.names=TL at S TM kept ⊢;have L:u a.heap.objs.size=none:=I2.ZL.fresh (Hz _);have F:L2.Z2 X J Y (upd u a.heap.objs.size c.WI) {a with heap:=a.heap.push c.obj}:=I2.laid (t':=a.toks) (λb ob q=>Hv _ q) (Hz _) (c.To _ I2.Yv)
 have y:∀b∈fp,b<a.heap.objs.size:=λb d=>let⟨o,e,_⟩:=T.obj _ _ Yl b d;Hw e
 have B:∀b∈fp,AH X J (upd u a.heap.objs.size c.WI) b:=λb d=>⟨by rw[af (HC (y b d))];exact(f2 b d).1,(f2 b d).2⟩
 have hsz:(a.heap.push c.obj).objs.size=a.heap.objs.size+1:=SE _ _;have W1:∀b∈fp,b<(a.heap.push c.obj).objs.size:=λb d=>by rw[hsz];exact RP (y b d)
 have I4:=xV (tk:=a.toks) Z5 F B W1 TM kept λx c h=>⟨_,(S.empty x c h).1⟩;let⟨pg,pts,go,Ub⟩:=H J {a with heap:=a.heap.push c.obj} (upd u a.heap.objs.size c.WI) fp
 have Te:∀b o,a.heap.get? b=some o->TL.get? b=some o:=λb o e=>kept b o (Hv _ e);have R:Z 0 TL:=T.keep _ _ _ Yl λb _ o e=>Te b o e;have hn:a.heap.objs.size ∉ I:=λhm=>by
  let⟨k,e⟩:=WV.mp hm;let⟨o,ho⟩:=Y8.there e;rw[L]at ho;cases ho
 have sub:=bJ (cells:=X.env.cells) scope.names [] (λx c h=>by cases h)
 have f4:∀b∈fp,AH (Ai X J scope {a with heap:=a.heap.push c.obj} (upd u a.heap.objs.size c.WI) fp (own++fr)) [] (upd u a.heap.objs.size c.WI) b:=λb d=>by
  refine⟨(B b d).1,HC (W1 b d),λz=>?_,.inl d,λx c h=>(jE h).elim ((B b d).2.2.2.2.1 x c) λz=>So (HB (RP (W1 b d)) z),λp hp=>(B b d).2.2.2.2.2 p ?_⟩
  .rcases YG.mp (F.Vb b z)with q|q
   .exact (B b d).2.1 q
   .exact (B b d).2.2.1 q
  .have:p∈(X.pn++J)++[]:=hp
   simpa using this
 have loop:=xb (X:=Ai X J scope {a with heap:=a.heap.push c.obj} (upd u a.heap.objs.size c.WI) fp (own++fr)) (C:=C) hc rfl Ub (c:=c) (gens:=gc::ZQ) (scope:=scope) (pos:=pos) (D:=a.heap.objs.size) ZQ ZD 0 gc t cs rfl rfl ha pg pts go n [] _ it fp Z Z9 iI 0 [] c.WI _ _ _ I I u g1 O g2 T WG I4 R f4 (aaa (hs.step (ZI.fresh L))) (Y8.step_fresh L) (Xn.step (ZI.fresh L)) (ZI.fresh L) L upd_same hn CK.ho0
 refine SF (nR (k:=0) (g:=gc) rfl ha loop (T.self _ 0 _ _ _ R loop)) λr s' hr=>?_;let⟨⟨f,rfl⟩,ZU,H',ZT,Y5,M,sp5,Vx,hs5,hD5,hn5,rv5,_⟩:=hr;have chk:∀b∈fp,(b∈X.ex\/X.Zc.heap.objs.size<=b)/\b≠X.env.locals/\(∀x c,X.env.cells.lookup x=some c->c≠b) /\∀p∈X.pn++J,p.1≠b:=λb d=>⟨(B b d).2.2.2.1,(B b d).2.1,(B b d).2.2.2.2.1,(B b d).2.2.2.2.2⟩;have I6:L2.Z2 X J Y H' s':=F.Uj (ch:=fp) M.os M.base M.ZL M.bare chk;let⟨m',WE,_⟩:=M.loc;refine fin a.heap.objs.size _ s' H' ZT Y5 m' f I6 sp5 Vx L hD5 hn5 rv5 WE (So F.lt) (λx c h=>by let⟨v,o,ho,hd⟩:=F.cell x c h;exact HC (Hw ho)) λV YE Zd h' I7 hH Xo=>?_
 have hCn:Zd (a.heap.push c.obj).objs.size=none:=hH _ M.free M.lt;refine I7.turned (t':=V.toks) (it:=(a.heap.push c.obj).objs.size) (λb o d e=>(Xo.2 b d).trans e) hCn ?_ (.inr ?_) (λx c h=>?_) λp hp=>?_
 .exact So F.lt
 .exact F.sz
 .obtain ⟨v,o,ho,hd⟩:=F.cell x c h
  exact HC (Hw ho)
 .exact HC (Hw (F.pin p hp).1)
def y2(y:X.calm=true)(Z5:Xm X scope own fr Zw){t:Tg}{n:Nat}(z:gc.is_async=0)
  (u:PI X gc.target gc.iter (tI X.K PTs.YX (Jo (Jw C n) Zv))) (P:∀x,foldedSetIterable gc.iter X.env x=pure x)
  (k:∀ J s3 H3 fp,PG (Ai X J scope s3 H3 fp (own++fr)) gc.target (tG X.K t)/\(∀ n,PTs (Ai X J scope s3 H3 fp (own++fr)) gc.ifs (Ay (Jw C n).ts cs))/\A7 (Ai X J scope s3 H3 fp (own++fr)) C ZQ ZD /\
   ∀n,PE (Ai X J scope s3 H3 fp (own++fr)) elt (tE X.K PTs.YX ((Jw C n).ev Zh))) :
  PE X (.ListComp elt (gc::ZQ) scope pos) (tE X.K PTs.YX (Jp C (Jw C n) (.comp own.length Zw ((t,Zv,cs)::ZD) Zh))):=by
 intro J s Y H Q I ⟨Z0,ρ,g,l,w,p⟩;rw[eval_ListComp];let⟨tg,iter,ifs,VT⟩:=gc;obtain rfl:VT=0:=z;refine Si (use:=none) rfl P (dG λx r hk=>I.ok.has x.1 (.inl (Z5.frees x r hk))) Z5.kind Z5.names ?_;refine thn (u J s Y H _ I ⟨Z0,ρ,g,l,w,post.bind p⟩) λv s1 h1=>thn h1 λV8 s2 h2=>?_;let⟨it,fp,tn,Z9,H2,e,I2,T,G,A,ZM,q,g1,F,L,N,i⟩:=h2;subst e;revert i;cases R:(Jw C n).cm q 0 t cs ZD Zh [] (List.replicate own.length none++Zw.map λj=>(Z0[j]?).getD none) g1 with
 |exc c fs g2=>intro i;exact False.elim i
 |ZZ=>intro i;exact False.elim i
 |ok O g2=>
  intro i;simp![Out.bindB]at i;split at i
  .refine dI (c:=.S elt) y Z5 rfl (λJ s3 H3 fp=>let⟨a,b,c,d⟩:=k J s3 H3 fp;⟨a,b,c,pV d⟩) I2 T G A (l.step F) L N R λD Cc s' H' ZT Y5 m f I' V o W VS E ⟨vs,B,Z⟩ U _ _ Yz=>?_
   subst B;refine⟨m,U,λh' M=>?_⟩;refine⟨.ref D,H',Yz s' Y H' h' I' (λ_ h _=>h) M,rfl,?_⟩;refine i (.ref D) (ZT++[D]) H' (V.named W) (o.named VS E ⟨_,rfl,Z⟩) ⟨D,rfl,?_⟩;rw[<-o.len];simp
  .exact False.elim i
def aaj(k v gens scope pos):eval (.DictComp k v gens scope pos) env=comprehension (.DictComp k v gens scope pos) scope env (firstIterPos gens pos) newDict (firstAsync gens) (firstIter gens env):=rfl
def yK(G:X.calm=true)(z:X.A.units+1<cLine)(Z5:Xm X scope own fr Zw){t:Tg}{q l:Expr}{k' o:E}{n:Nat}(L:gc.is_async=0)
  (B:PI X gc.target gc.iter (tI X.K PTs.YX (Jo (Jw C n) Zv))) (Z:∀x,foldedSetIterable gc.iter X.env x=pure x)
  (k:∀ J s3 H3 fp,PG (Ai X J scope s3 H3 fp (own++fr)) gc.target (tG X.K t)/\(∀ n,PTs (Ai X J scope s3 H3 fp (own++fr)) gc.ifs (Ay (Jw C n).ts cs))/\A7 (Ai X J scope s3 H3 fp (own++fr)) C ZQ ZD /\
   (∀n,PE (Ai X J scope s3 H3 fp (own++fr)) q (tE X.K PTs.YX ((Jw C n).ev k'))) /\∀n,PE (Ai X J scope s3 H3 fp (own++fr)) l (tE X.K PTs.YX ((Jw C n).ev o))) :
  PE X (.DictComp q l (gc::ZQ) scope pos) (tE X.K PTs.YX (Jp C (Jw C n) (.X6 own.length Zw ((t,Zv,cs)::ZD) k' o))):=by
 intro J s Y H Q I ⟨Z0,ρ,g,r,F,p⟩;rw[aaj];let⟨tg,iter,ifs,VT⟩:=gc;obtain rfl:VT=0:=L;refine Si (use:=none) rfl Z (dG λx y hk=>I.ok.has x.1 (.inl (Z5.frees x y hk))) Z5.kind Z5.names ?_;refine thn (B J s Y H _ I ⟨Z0,ρ,g,r,F,post.bind p⟩) λv s1 h1=>thn h1 λV8 s2 h2=>?_;let⟨it,fp,tn,Z9,H2,e,I2,T,S,M,ZM,w,g1,R,U,W,i⟩:=h2;subst e;revert i;cases WG:(Jw C n).cm w 0 t cs ZD (.pair k' o) [] (List.replicate own.length none++Zw.map λj=>(Z0[j]?).getD none) g1 with
 |exc c fs g2=>intro i;exact False.elim i
 |ZZ=>intro i;exact False.elim i
 |ok O g2=>
  intro i;simp![Out.bindB]at i;refine dI (c:=.ZV q l) G Z5 rfl (λJ s3 H3 fp=>let⟨a,b,c,d,e⟩:=k J s3 H3 fp;⟨a,b,c,qk (X:=Ai X J scope s3 H3 fp (own++fr)) z d e⟩) I2 T S M (r.step R) U W WG ?_;rintro D Cc s' H' ZT Y5 m f I' WD u WC VS P ⟨Z4,ws,N,ed,W7⟩ WE _ _ Yz
  subst N;rw[ed]at i;refine⟨m,WE,λh' V=>?_⟩;refine⟨.ref D,H',Yz s' Y H' h' I' (λ_ h _=>h) V,rfl,?_⟩;refine i (.ref D) (ZT++[D]) H' (WD.named WC) (u.named VS P ⟨_,rfl,W7⟩) ⟨D,rfl,?_⟩;rw[<-u.len];simp
def bind_assoc{b:Type}(o:Out α)(k:α->G->Out β)(k':β->G->Out b):(o.bind k).bind k'=o.bind λa g=>(k a g).bind k':=by
 cases o<;>rfl
def wU(hc:X.calm=true)(Z5:Xm X scope own fr Zw){t:Tg}{Yd py:Pos}{n:Nat}(ha:gc.is_async=0)
  (hi:PI X gc.target gc.iter (tI X.K PTs.YX (Jo (Jw C n) Zv))) (Xl:∀x,foldedSetIterable gc.iter X.env x=pure x)
  (inner:∀ J s3 H3 fp,PG (Ai X J scope s3 H3 fp (own++fr)) gc.target (tG X.K t)/\(∀ n,PTs (Ai X J scope s3 H3 fp (own++fr)) gc.ifs (Ay (Jw C n).ts cs))/\A7 (Ai X J scope s3 H3 fp (own++fr)) C ZQ ZD /\
   ∀n,PE (Ai X J scope s3 H3 fp (own++fr)) elt (tE X.K PTs.YX ((Jw C n).ev Zh)))
  (hN:X.N.Nodup) (hiy:X.N[i]?=some y) (hy:X.env.scope.names.lookup y=some .local) (Xk:swapsWith (.ListComp elt (gc::ZQ) scope pos) (some (.Name y py)) Yd.line X.env=pure true) :
  PS X (.Assign [.Name y py] (.ListComp elt (gc::ZQ) scope pos) Yd) (Zq X.K PTs.YX (Jr (Jw C (n+1)) (.set (.nm i) (.comp own.length Zw ((t,Zv,cs)::ZD) Zh)))):=by
 intro J s Y H Dd I ⟨Z0,ρ,g,hs,hg,p⟩;have p':Jy X.K PTs.YX ((Jo (Jw C n) Zv Z0 g).bind λa g=>(((Jw C n).cm a 0 t cs ZD Zh [] (List.replicate own.length none++Zw.map λj=>(Z0[j]?).getD none) g).bindB λO g=>if O.length<=Ag then PI.alloc (.S O) g else .ZZ).bind λu g=>match Ah (.nm i) u Z0 with|some ZU=>Out.ok (.nx ZU) g|none=>.ZZ) ρ H Dd:=by
  have e:Jr (Jw C (n+1)) (.set (.nm i) (.comp own.length Zw ((t,Zv,cs)::ZD) Zh)) Z0 g=_:=rfl;rw[<-bind_assoc];exact p
 rw[exec_Assign_Name_used _ _ _ _ Xk];refine ZB (Up (ZB ?_));let⟨tg,iter,ifs,VT⟩:=gc;obtain rfl:VT=0:=ha;show wpAny _ _ (do let _<-comprehension (.ListComp elt (⟨tg,iter,ifs,0⟩::ZQ) scope pos) scope X.env _ (newList []) false (eval iter X.env) (some (assign (.Name y py) X.env))) _ _ s
 refine ZB (thn (Si (use:=some (assign (.Name y py) X.env)) (Q:=λ_ s'=>SP X J Dd .next s') rfl Xl (dG λx hx hk=>I.ok.has x.1 (.inl (Z5.frees x hx hk))) Z5.kind Z5.names ?_) λ_ s' hq=>ZP (ZP hq));refine thn (hi J s Y H _ I ⟨Z0,ρ,g,hs,hg,Jy.bind p'⟩) λv s1 h1=>thn h1 λV8 s2 h2=>?_;let⟨it,fp,tn,Z9,H2,e,I2,T,Yl,f2,ZM,iI,g1,Zj,Y8,Xn,p1⟩:=h2;subst e;revert p1;cases WG:(Jw C n).cm iI 0 t cs ZD Zh [] (List.replicate own.length none++Zw.map λj=>(Z0[j]?).getD none) g1 with
 |exc c fs g2=>intro p1;exact False.elim p1
 |ZZ=>intro p1;exact False.elim p1
 |ok O g2=>
  intro p1;simp![Out.bindB]at p1;split at p1
  .refine dI (c:=.S elt) hc Z5 rfl (λJ s3 H3 fp=>let⟨a,b,c,d⟩:=inner J s3 H3 fp;⟨a,b,c,pV d⟩) I2 T Yl f2 (hs.step Zj) Y8 Xn WG λD Cc s' H' ZT Y5 m f I' WD YW WC VS Zy ⟨vs,eo,W7⟩ WE nl nc Yz=>?_
   subst eo;show wpAny _ _ (assign (.Name y py) X.env (.ref D)) _ _ s';refine RL (fP (v:=.ref D) I' hN hiy (.inl hy) rfl (λs3 I3 ⟨a,Xo,ha⟩=>?_) (.inr hy));have ZC:Cc≠a:=by
    rcases ha with rfl|ha
    .exact nl
    .exact Ne.symm (nc y a ha)
   refine⟨m,WE.sameBut Xo ZC,λh' WK=>⟨_,H',Yz s3 _ H' h' I3 (λ_ h _=>h) WK,?_⟩⟩;simp![PI.alloc,Out.bind,Jn,Ah]at p1;by_cases hl:i<Z0.length
   .simp only [hl,Vy]at p1
    refine p1 _ (ZT++[D]) H' (WD.named WC) (YW.named VS Zy ⟨_,rfl,W7⟩) ((hs.step (Zj.trans (WD.named WC))).set (u:=.ref g2.length) (v:=.ref D) ?_);refine⟨D,rfl,?_⟩;rw[<-YW.len];simp
   .simp only [hl,VC]at p1
    exact False.elim p1
  .exact False.elim p1
def wI(hc:X.calm=true)(hu:X.A.units+1<cLine)(Z5:Xm X scope own fr Zw){t:Tg}{kx vx:Expr}{k' v':E}{Yd py:Pos}{n:Nat}(ha:gc.is_async=0)
  (hi:PI X gc.target gc.iter (tI X.K PTs.YX (Jo (Jw C n) Zv))) (Xl:∀x,foldedSetIterable gc.iter X.env x=pure x)
  (inner:∀ J s3 H3 fp,PG (Ai X J scope s3 H3 fp (own++fr)) gc.target (tG X.K t)/\(∀ n,PTs (Ai X J scope s3 H3 fp (own++fr)) gc.ifs (Ay (Jw C n).ts cs))/\A7 (Ai X J scope s3 H3 fp (own++fr)) C ZQ ZD /\
   (∀n,PE (Ai X J scope s3 H3 fp (own++fr)) kx (tE X.K PTs.YX ((Jw C n).ev k'))) /\∀n,PE (Ai X J scope s3 H3 fp (own++fr)) vx (tE X.K PTs.YX ((Jw C n).ev v')))
  (hN:X.N.Nodup) (hiy:X.N[i]?=some y) (hy:X.env.scope.names.lookup y=some .local) (Xk:swapsWith (.DictComp kx vx (gc::ZQ) scope pos) (some (.Name y py)) Yd.line X.env=pure true) :
  PS X (.Assign [.Name y py] (.DictComp kx vx (gc::ZQ) scope pos) Yd) (Zq X.K PTs.YX (Jr (Jw C (n+1)) (.set (.nm i) (.X6 own.length Zw ((t,Zv,cs)::ZD) k' v')))):=by
 intro J s Y H Dd I ⟨Z0,ρ,g,hs,hg,p⟩;have p':Jy X.K PTs.YX ((Jo (Jw C n) Zv Z0 g).bind λa g=>(((Jw C n).cm a 0 t cs ZD (.pair k' v') [] (List.replicate own.length none++Zw.map λj=>(Z0[j]?).getD none) g).bindB λO g=>match dfold O []with|some Z4=>PI.alloc (.ZV Z4) g|none=>.ZZ).bind λu g=>match Ah (.nm i) u Z0 with|some ZU=>Out.ok (.nx ZU) g|none=>.ZZ) ρ H Dd:=by
  have e:Jr (Jw C (n+1)) (.set (.nm i) (.X6 own.length Zw ((t,Zv,cs)::ZD) k' v')) Z0 g=_:=rfl;rw[<-bind_assoc];exact p
 rw[exec_Assign_Name_used _ _ _ _ Xk];refine ZB (Up (ZB ?_));let⟨tg,iter,ifs,VT⟩:=gc;obtain rfl:VT=0:=ha;show wpAny _ _ (do let _<-comprehension (.DictComp kx vx (⟨tg,iter,ifs,0⟩::ZQ) scope pos) scope X.env _ newDict false (eval iter X.env) (some (assign (.Name y py) X.env))) _ _ s
 refine ZB (thn (Si (use:=some (assign (.Name y py) X.env)) (Q:=λ_ s'=>SP X J Dd .next s') rfl Xl (dG λx hx hk=>I.ok.has x.1 (.inl (Z5.frees x hx hk))) Z5.kind Z5.names ?_) λ_ s' hq=>ZP (ZP hq));refine thn (hi J s Y H _ I ⟨Z0,ρ,g,hs,hg,Jy.bind p'⟩) λv s1 h1=>thn h1 λV8 s2 h2=>?_;let⟨it,fp,tn,Z9,H2,e,I2,T,Yl,f2,ZM,iI,g1,Zj,Y8,Xn,p1⟩:=h2;subst e;revert p1;cases WG:(Jw C n).cm iI 0 t cs ZD (.pair k' v') [] (List.replicate own.length none++Zw.map λj=>(Z0[j]?).getD none) g1 with
 |exc c fs g2=>intro p1;exact False.elim p1
 |ZZ=>intro p1;exact False.elim p1
 |ok O g2=>
  intro p1;simp![Out.bindB]at p1;refine dI (c:=.ZV kx vx) hc Z5 rfl (λJ s3 H3 fp=>let⟨a,b,c,d,e⟩:=inner J s3 H3 fp;⟨a,b,c,qk (X:=Ai X J scope s3 H3 fp (own++fr)) hu d e⟩) I2 T Yl f2 (hs.step Zj) Y8 Xn WG ?_;rintro D Cc s' H' ZT Y5 m f I' WD YW WC VS Zy ⟨Z4,ws,eo,ed,W7⟩ WE nl nc Yz
  subst eo;rw[ed]at p1;show wpAny _ _ (assign (.Name y py) X.env (.ref D)) _ _ s';refine RL (fP (v:=.ref D) I' hN hiy (.inl hy) rfl (λs3 I3 ⟨a,Xo,ha⟩=>?_) (.inr hy));have ZC:Cc≠a:=by
   rcases ha with rfl|ha
   .exact nl
   .exact Ne.symm (nc y a ha)
  refine⟨m,WE.sameBut Xo ZC,λh' WK=>⟨_,H',Yz s3 _ H' h' I3 (λ_ h _=>h) WK,?_⟩⟩;simp![PI.alloc,Out.bind,Jn,Ah]at p1;by_cases hl:i<Z0.length
  .simp only [hl,Vy]at p1
   refine p1 _ (ZT++[D]) H' (WD.named WC) (YW.named VS Zy ⟨_,rfl,W7⟩) ((hs.step (Zj.trans (WD.named WC))).set (u:=.ref g2.length) (v:=.ref D) ?_);refine⟨D,rfl,?_⟩;rw[<-YW.len];simp
  .simp only [hl,VC]at p1
   exact False.elim p1
end
section
inductive Vw(X:Cx)(W:XQ)(r:Z7):List (Option Expr)->List Expr->List Str->List E->Prop
 |nil:Vw X W r [] [] [] []
 |cons {k a b ks e es kk e' ZF}:PE X e (tE X.K W (r.ev e'))->Vw X W r ks es kk ZF->Vw X W r (some (.Constant (.str k) a b)::ks) (e::es) (k::kk) (e'::ZF)
def JC(K:HF)(W:XQ)(r:Z7):List Str->List E->List (TE×TE)
 |k::a,e'::ZF=>(Ii (.str k),tE K W (r.ev e'))::JC K W r a ZF
 |_,_=>[]
def y3(h:Vw X W r keys es ks ZF):PPs X pos keys es (JC X.K W r ks ZF)/\keys.all (·.isSome)=true/\keys.length=es.length/\ks.length=keys.length/\ZF.length=ks.length:=by
 induction h with
 |nil=>exact⟨zv,rfl,rfl,rfl,rfl⟩
 |cons h1 _ ih=>
  let⟨a,b,c,d,f⟩:=ih;exact⟨yA tP h1 a,by simpa using b,by simp[c],by simp[d],by simp[f]⟩
def pA{K:HF}{Y:L2.St}{d:Su}:∀(ks:List Str) (ZF:List E) (ρ:List Addr) (H:Hp) (g:G) (P:List V->Hp->Prop) (Q:List (V×V)->Hp->Prop),ZF.length=ks.length->RS K ρ H d Y->RH K ρ H g->post K W (RVs K) (Jl r.ev ZF d g) ρ H P ->
  (∀vs H2,vs.length=ks.length->P vs H2->Q ((ks.zip vs).map λp=>(V.str p.1,p.2)) H2)->CU (JC K W r ks ZF) Y H Q
 |[],[],ρ,H,g,P,Q,_,b,c,p,q=>q [] H rfl (p.Ze c rfl)
 |k::ks,e'::ZF,ρ,H,g,P,Q,a,b,c,p,q=>by
  refine⟨d,ρ,g,b,c,(post.bind p).mono λy H2 ⟨j,u,g1,s1,h1,e,f⟩=>?_⟩;refine pA ks ZF j H2 g1 (λvs H3=>P (y::vs) H3) _ (by simpa using a) (b.step s1) h1 ((post.bind (R:=RVs K) f).mono λvs H3 ⟨l,O,g2,s2,h2,rs,p2⟩=>p2.Ze h2 ⟨y,vs,rfl,RV.step s2 _ _ e,rs⟩) λvs H3 h i=>?_
  exact q (y::vs) H3 (by simp[h]) i
 |[],_::_,_,_,_,_,_,a,_,_,_,_=>by simp at a
 |_::_,[],_,_,_,_,_,a,_,_,_,_=>by simp at a
def yJ{Z4:List (Key×V)}{k:Key}(h:k ∉ Z4.map (·.1)):AK Z4 k=none:=by
 unfold AK;rw[Sw,List.find?_eq_none];intro p a z;exact h (Wa.mpr ⟨p,a,HE z⟩)
def pQ:∀(a ZX:List (Key×V)),((ZX++a).map (·.1)).Nodup->BC ZX a=ZX++a
 |[],ZX,_=>by simp[BC]
 |p::r,ZX,h=>by
  have b:p.1 ∉ ZX.map (·.1):=λz=>by
   rw[Sy,Y3,RQ]at h;exact h.2.2 _ z _ Wt rfl
  show BC (putK ZX p.1 p.2) r=_;rw[yE _ (yJ b),pQ r _ (by simpa using h)]
  simp
def tY{K:HF}{ρ:List Addr}{H:Hp}:∀(ks:List Str) {O:List U} {vs:List V},RVs K ρ H O vs->RK K ρ H (ks.zip O) ((ks.zip vs).map λp=>(Sum.inr p.1,p.2))
 |[],_,_,_=>by simp[RK]
 |k::ks,[],_,h=>by cases h;simp[RK]
 |k::ks,u::O,_,h=>by
  let⟨v,r,rfl,h1,h2⟩:=h;exact⟨v,_,rfl,h1,tY ks h2⟩
def zO(h:Vw X W r keys es ks ZF)(B:keys≠[])(m:keys.length<=15)(l:ks.Nodup):PE X (.Dict keys es pos) (tE X.K W (Jp C r (.Wc ks ZF))):=by
 let⟨v,F,y,x,D⟩:=y3 (pos:=pos) h;refine(yW v F y B m).imp ?_;rintro Y H Q ⟨Z0,ρ,g,A,s,p⟩;intro q j;have d:ZI X.K ρ H ρ (upd H q (.dK [])):=ZI.fresh j;have i:q ∉ ρ:=λz=>by
  let⟨n,e⟩:=WV.mp z;let⟨o,ho⟩:=s.there e;rw[j]at ho;cases ho
 refine pA ks ZF ρ _ g (λvs H2=>H2 q=some (.dK [])/\Q (.ref q) (upd H2 q (.dK ((ks.zip vs).map λp=>(Sum.inr p.1,p.2))))) _ D (A.step d) (s.step_fresh j) ?_ λvs H2 G ⟨E,u⟩=>⟨E,(ks.zip vs).map (λp=>(Sum.inr p.1,p.2)),?_,?_,?_⟩
 .have f:post X.K W (RV X.K) ((Jl r.ev ZF Z0 g).bind λO g=>PI.alloc (.dst (ks.zip O)) g) ρ H Q:=p
  revert f;cases Jl r.ev ZF Z0 g with
  |ZZ=>exactλf=>f
  |exc c fs g1=>exactλf vs ZT H' s' h' rs=>f vs ZT H' (d.trans s') h' rs
  |ok O g1=>
   intro f vs ZT H' s' h' rs;have k:H' q=some (.dK []):=s'.Yu q _ upd_same i;have t:q ∉ ZT:=dF s' i upd_same;refine⟨k,f (.ref q) (ZT++[q]) _ (((d.trans s').W4 j k trivial).named j) ((h'.W4 k trivial t).named upd_same t ⟨_,rfl,tY ks (rs.W4 k trivial)⟩) ⟨q,rfl,?_⟩⟩;rw[<-h'.len];simp
 .rw [UW];rfl
 .rw [Yj,List.length_zip];lia
 .rw [pQ _ [] ?_,Sx]
  .exact u
  .rw [Sx,UW]
   have e:(ks.zip vs).map ((λw:Key×V=>w.1) ∘ λp=>(Sum.inr p.1,p.2))=ks.map Sum.inr:=by
    have z:(ks.zip vs).map Prod.fst=ks:=by rw[List.map_fst_zip];lia
    conv=>rhs;rw[<-z]
    rw[UW];rfl
   rw[e];exact List.Pairwise.map _ (λa b h z=>h (RJ z)) l
end
abbrev W0:XQ:=PTs.YX
inductive FrI(X:Cx)(W:XQ)(it:Iter)(Z9:It)(D:Ends)(f:Su->G->Out Fl)(Y:L2.St)(H:Hp):Prop
 |mk (Z0:Su) (ρ:List Addr) (g:G) (hs:RS X.K ρ H Z0 Y) (hg:RH X.K ρ H g) (ri:RI X.K ρ H it Z9) (p:Jy X.K W (f Z0 g) ρ H D)
section
variable{a b c:Expr}{b' c':E}{t:Tg}
def acI{a:Expr}{r:List Stmt}{n:Nat}(L:PassesOwn (model X.prog X.w) X.A X.env X.xe)(N:X.calm=true)(M:PI X tg a (tI X.K W (Jo (Jw C n) Zv)))(d:PG X tg (tG X.K t))(O:∀n,PSs X r (Zq X.K W ((Jw C n).ex YF)))
  (c:∀x,foldedSetIterable a X.env x=pure x):PS X (.For tg a r [] pos) (Zq X.K W (Jr (Jw C n) (.for t Zv YF))):=by
 have V:PSs X r (λD Y H=>∃m,Zq X.K W ((Jw C m).ex YF) D Y H):=λJ s Y H D I ⟨m,h⟩=>O m J s Y H D I h;refine(abk L N M d V c).imp ?_;rintro D Y H ⟨Z0,ρ,g,c,d,p⟩;refine⟨Z0,ρ,g,c,d,(Jy.bind (R:=RI X.K) p).mono λZ9 H1 ⟨S,it,g1,s1,h1,e,G⟩=>?_⟩;refine⟨λi m Y H=>FrI X W it Z9 D ((Jw C m).fr t it i YF) Y H,⟨n,Z0,S,g1,c.step s1,h1,e,G⟩,?_⟩;rintro i m Y H ⟨Z0,ρ,g,c,d,e,p⟩;cases m with
 |zero=>exact p.elim
 |succ m=>
  have b:Jy X.K W (Ju (Jw C m) t it i YF Z0 g) ρ H D:=p;simp![Ju]at b;cases j:next it i g with
  |none=>rw[j]at b;exact b.elim
  |some o=>
   cases o with
   |none=>rw[j]at b;dsimp only at b;exact .inl ⟨qW d e j,b _ ρ H .refl d c⟩
   |some u=>
    rw[j]at b;dsimp only at b;let⟨Q,B⟩:=uL d e j;refine .inr ⟨Q,λZU H'=>FrI X W it Z9 D ((Jw C m).fr t it (i+1) YF) ZU H',λZU H' q=>⟨m,Sj _,q⟩,λx H' y=>?_⟩;let⟨v,f,E⟩:=B x H' y;cases l:Ah t u Z0 with
    |none=>rw[l]at b;exact b.elim
    |some z=>
     rw[l]at b;dsimp only at b;refine⟨Z0,ρ,g,u,z,c.step v,f,E,oQ l,λYE T=>⟨m,z,ρ,g,T,f,?_⟩⟩;exact uV (k:=λZU g=>(Jw C m).fr t it (i+1) YF ZU g) (Jy.from b v) λU g3 Y ZT H' s3 P Z F=>⟨U,ZT,g3,Z,P,(e.step v).step s3,F⟩
def Z2.Ws{A:List (Addr×Obj)}{Y y:L2.St}{r:Shared}{a:Addr}{w f:List (List Key×V)}{o:Obj}(I:L2.Z2 X J Y H s)(e:H a=some (.dT w))(d:L2.Z2 X A y H' r)(l:H' a=some (.Zs o (.dT f))):L2.Z2 X A y (upd H' a (.dT f)) r:=by
 have j:∀b u,H' b=some u->(∀v,u ≠ .Zs o v)->b≠a:=λb u h k z=>by rw[z,l]at h;cases h;exact k _ rfl
 have g:∀b,H' b=none->upd H' a (.dT f) b=none:=λb h=>by rw[af (by rintro rfl;rw[l]at h;cases h)];exact h
 have t:∀b c,H' b=some (.own c)->upd H' a (.dT f) b=some (.own c):=λb c h=>by rw[af (j b _ h λ_ z=>nomatch z)];exact h
 have i:∀b xs,H' b=some (.Z1 xs)->upd H' a (.dT f) b=some (.Z1 xs):=λb xs h=>by rw[af (j b _ h λ_ z=>nomatch z)];exact h
 refine⟨d.ok,d.os,d.bare,⟨d.base.keep,d.base.slot,λb ob G n E=>g _ (d.base.free b ob G n E),d.base.there,λb xs q=>i _ _ (d.base.WU b xs q),λb ob u q=>?_,λb ps q=>?_⟩,d.loc,d.cell,g _ d.free,λx c q=>g _ (d.XA x c q),λp F=>let⟨D,C,B⟩:=d.pin p F;⟨D,g _ C,B⟩,λb u q=>?_,d.len⟩
 .have h1:=I.base.XB b ob u q
  rw[af (by rintro rfl;rw[e]at h1;cases h1)]
  exact d.base.XB b ob u q
 .obtain ⟨m,h⟩:=d.base.WT b ps q
  exact⟨m,by rw[af (j b _ h λ_ z=>nomatch z)];exact h⟩
 .by_cases c:b=a
  .subst c
   rw[upd_same]at q;cases q;exact(d.ZL b _ l).2.Yz (λ_ _ _ z=>z) (λb h=>t _ _ h) i
  .rw [af c]at q
   exact(d.ZL b u q).Yz (λ_ _ _ z=>z) (λb h=>t _ _ h) i
def Th(H H' b:Hp):Prop:=b=H' \/∃a w o ws,H a=some (.dT w)/\H' a=some (.Zs o (.dT ws))/\b=upd H' a (.dT ws)
def aal{Y:L2.St}(I:RH K ρ H g)(d:ZI K ρ H ZT H')(j:RH K ZT H' g')(t:RS K ZT H' Z0 Y):∃Zd,Th H H' Zd/\ZI K ρ H ZT Zd/\RH K ZT Zd (Bh g g')/\RS K ZT Zd Z0 Y:=by
 have k:∃Zd,Th H H' Zd/\ZI K ρ H ZT Zd/\RH K ZT Zd g'/\RS K ZT Zd Z0 Y:=⟨H',.inl rfl,d,j,t⟩;cases A:(List.range g.length).find? λn=>BF g[n]? && BQ g'[n]? with
 |none=>
  have y:Bh g g'=g':=by simp![Bh,A]
  rw[y];exact k
 |some n=>
  have hf:=Qd A;cases B:g[n]? with
  |none=>simp[B,BF]at hf
  |some o=>
   cases o with
   |ZV G=>
    cases l:g'[n]? with
    |none=>simp[l,BQ]at hf
    |some o'=>
     cases o' with
     |Zu Z4=>
      let⟨a,w,x,E,_⟩:=I.ZV B;let⟨a',ob,ws,p,f,F⟩:=j.Zu l;rw[d.ext _ _ x]at p;cases p;have p:=d.ext _ _ x;have y:Bh g g'=g'.set n (.ZV Z4):=by simp![Bh,A,l]
      rw[y];have neT:∀b xs,SqU K H' b xs->b≠a:=λb xs h z=>by unfold SqU at h;rw[z,f]at h;cases h
      have e:∀b xs,SqF K H' b xs->SqF K (upd H' a (.dT ws)) b xs:=λb xs h=>by
       rcases h with⟨o,h⟩|h
       .exact .inl ⟨o,by rw[af (by rintro rfl;rw[f]at h;cases h)];exact h⟩
       .exact .inr h
      have q:∀b xs,SqU K H' b xs->SqU K (upd H' a (.dT ws)) b xs:=λb xs h=>rp h (neT b xs h);have C:∀(n:Nat) (a:Addr),ZT[n]?=some a->ZT[n]?=some a:=λ_ _ h=>h;refine⟨_,.inr ⟨a,w,ob,ws,E,f,rfl⟩,⟨d.ext,d.new,λb u h D=>?_,λb h=>?_,λb xs h=>q _ _ (d.Z1 _ _ h),λb xs h=>e _ _ (d.Zm _ _ h),λb o u h=>?_⟩,⟨by simp[j.len],j.inj,λm b o h1 h2=>?_⟩,⟨t.len,λi u h=>?_⟩⟩
      .rw [af (by rintro rfl;exact D (WV.mpr ⟨n,x⟩))];exact d.Yu b u h D
      .by_cases c:b=a
       .subst c;rw[upd_same];simp
       .rw [af c];exact d.live b h
      .rw [af (by rintro rfl;rw[E]at h;cases h)];exact d.Zs b o u h
      .by_cases c:m=n
       .subst c
        rw[p]at h1;cases h1;rw[Ua (Yh.mp l).1]at h2;cases h2;exact⟨_,upd_same,RHO.mono C q e (show RHO K ZT H' (.ZV Z4) (.dT ws)from⟨ws,rfl,F⟩)⟩
       .rw [Xb (Ne.symm c)]at h2
        let⟨ho,s,r⟩:=j.obj m b o h1 h2;exact⟨ho,by rw[af (show b≠a fromλz=>c (j.inj m n a (by rw[<-z];exact h1) p))];exact s,r.mono C q e⟩
      .obtain ⟨v,s,r⟩:=t.val i u h
       exact⟨v,s,RV.mono C q e u v r⟩
     |_=>simp[l,BQ]at hf
   |_=>simp[B,BF]at hf
def aa7{f:Su->G->Out Fl}(h:PS X st (Zq X.K W f)):PS X st (Zq X.K W λY g=>(f Y g).Ws g):=by
 intro J s Y H D I ⟨Z0,ρ,g,j,i,p⟩;refine thn (h J s Y H {D with nx:=λZU H'=>∃Zd,Th H H' Zd/\D.nx ZU Zd} I ⟨Z0,ρ,g,j,i,?_⟩) λe r q=>?_
 .revert p
  cases f Z0 g with
  |ok e g1=>
   cases e with
   |nx u=>
    intro p n ZT H' st m d;let⟨Zd,t,Zb,c,b⟩:=aal i st m d;exact⟨Zd,t,p n ZT Zd Zb c b⟩
   |_=>exactλp=>p
  |_=>exactλp=>p
 .cases e with
  |next=>
   let⟨ZU,H',Z9,Zd,t,q⟩:=q;rcases t with rfl|⟨a,w,o,ws,l,k,rfl⟩
   .exact ⟨ZU,_,Z9,q⟩
   .exact ⟨ZU,_,Z2.Ws I l Z9 k,q⟩
  |_=>exact q
def ab2{a:Z5}(h:∀n,PS X st (Zq X.K W (Jr (Jw C n) a))):∀n,PS X st (Zq X.K W (Jr (Jw C n) (.VG [a])))
 |0=>(h 0).imp λD Y H ⟨_,_,_,_,_,p⟩=>p.elim
 | n+1=>(aa7 (h n)).imp λD Y H ⟨Z0,ρ,g,c,d,p⟩=>⟨Z0,ρ,g,c,d,by
   have e:(Jw C (n+1)).ex [a] Z0 g=(Jr (Jw C n) a Z0 g).bind λf g=>match f with|.nx ZU=>(Jw C n).ex [] ZU g|f=>.ok f g:=rfl
   have b:Jy X.K W (((Jw C (n+1)).ex [a] Z0 g).Ws g) ρ H D:=p;rw[e]at b;revert b;cases Jr (Jw C n) a Z0 g with
   |ok f g1=>
    cases f with
    |nx i=>
     intro b;cases n with
     |zero=>exact b.elim
     |succ n=>exact b
    |_=>exactλp=>p
   |_=>exactλp=>p⟩
def yw{it:Expr}{a:Z5}(h:∀n,PS X st (Zq X.K W (Jr (Jw C n) a)))(n:Nat):PS X st (Zq X.K W (Jr (Jw C n) (DL it a))):=by
 unfold DL;cases Fb it with
 |true=>exact ab2 h n
 |false=>exact h n
def aaF{k:ExceptHandler}{b:List ExceptHandler}{h:List Stmt}(i:X.xe=λ_ _=>False)(c:PSs X h (Zq X.K W ((Jw C n).ex YF))):PS X (.Try h (k::b) [] [] pos) (Zq X.K W (Jr (Jw C n) (.ZE (.Z3 (.bl true)) YF []))):=by
 intro J s Y H D I ⟨Z0,ρ,g,b,j,p⟩
 match n,p,c with
 |0,p,_=>exact p.elim
 |1,p,_=>exact p.elim
 |n+2,p,c=>
  rw[arm_exec_Try];refine ZB (Up (wpAny_tryStmt_except ?_));refine S8 (c J s Y H D I ⟨Z0,ρ,g,b,j,p⟩) (λf d q=>?_) (λe d q=>by rw[i]at q;exact q.elim)
  cases f with
  |next=>let⟨a,m,l,z⟩:=q;exact rT J d a m D l z
  |_=>exact q
inductive UO(K:HF)(Wf:XK->XQ)(M:List Fn)(d i np:Nat)(vs:List V)(H:Hp)(Q:VK)(E:XK):Prop
 |mk (fu:Nat) (ρ:List Addr) (g:G) (O:List U) (hg:RH K ρ H g) (r:RVs K ρ H O vs) (l:O.length=np) (p:post K (Wf E) (RV K) (Ab M fu d i O g) ρ H Q)
abbrev WZ(K:HF)(M:List Fn)(d i np:Nat):Sp:=UO K (λ_=>W0) M d i np
def oT{M:List Fn}{fu:Nat}{np:Nat}{Q:VK}(a:∀F,M[i]?=some F->F.np=np)(p:post K W (RV K) (Ab M fu d i O g) ρ H Q):O.length=np:=by
 cases d with
 |zero=>exact p.elim
 |succ d=>
  simp![Ab]at p;cases e:M[i]? with
  |none=>rw[e]at p;exact p.elim
  |some F=>
   simp![e,BJ]at p;split at p
   .rename_i h;rw[h,a F e]
   .exact p.elim
def zN{M:List Fn}{fu k:Nat}{f:Addr}{E0:XK}(F:YL X.prog X.w X.K X.mg X.base CX k f fd ps (UO X.K Wf M d i ps.length))(e:A4 CX X E0)(v:∀F,M[i]?=some F->F.np=ps.length)
  (j:Za k X.A) (b:Gl X x) (l:X.mg x=some (.ref f)) (m:PySem.W.keepIn X.K (.ref f)=true) (n:Binds X.K fd ps []) (t:(x==("__debug__" : Str))=false) (o:PA X (a::es) (Yg X.K W0 (Jl r.ev ZF)))
  (q:starEach (a::es) X.env=(false,eval a X.env)::starEach es X.env) (u:(backTo pos (starEach es X.env)).any (·.1)=false) :
  PE X (.Call (.Name x p) (a::es) [] pos) (tE X.K (Wf E0) (Jp (Ab M fu d) r (.call i ZF))):=by
 refine(zo F j b l m n .nil e o t q u).imp ?_;rintro Y H Q ⟨Z0,ρ,g,h,b,p⟩;refine⟨Z0,ρ,g,h,b,(bZ (R:=RVs X.K) p).mono λvs H1 ⟨s,O,g1,s1,h1,rs,c⟩=>?_⟩;exact⟨fu,s,g1,O,h1,by rw[Se];exact rs,oT v c,c⟩
def xP{M:List Fn}{fu k:Nat}{f:Addr}{E0:XK}(F:YL X.prog X.w X.K X.mg X.base CX k f fd ps (UO X.K Wf M d i ps.length))(c:A4 CX X E0)(n:∀F,M[i]?=some F->F.np=ps.length)
  (e:Za k X.A) (a:Gl X x) (h:X.mg x=some (.ref f)) (j:PySem.W.keepIn X.K (.ref f)=true) (l:Binds X.K fd ps []) (m:(x==("__debug__" : Str))=false) :
  PE X (.Call (.Name x p) [] [] pos) (tE X.K (Wf E0) (Jp (Ab M fu d) r (.call i []))):=by
 refine(x5 F e a h j l .nil c m).imp ?_;rintro Y H Q ⟨Z0,ρ,g,o,a,p⟩;have b:post X.K (Wf E0) (RV X.K) (Ab M fu d i [] g) ρ H Q:=p;exact⟨fu,ρ,g,[],a,rfl,oT n b,b⟩
end
structure T_(K:HF)(C:Addr):Prop where
 ne:PySem.W.findIn K (.ref C) "__ne__" = some (some (.builtin "object.__ne__"))
 ob:PySem.W.mroIn K C (.type "object")=some true
 ci:(PySem.W.clsIn K C).isSome=true
 ty:PySem.W.typeIn K (.ref C)=some (.type "type")
 ca:PySem.W.findIn K (.ref C) "__class__" = some (some (.builtin "object.__class__"))
 sg:PySem.W.specialIn K (.builtin "object.__class__") "__get__" = some (some (.builtin "getset_descriptor.__get__"))
 tk:PySem.W.takesIn K (.builtin "object.__class__")=some true
variable{c fu kt:Nat}{a:Expr}{f:Expr->Option E}{g:List Value->List Value->List Value}{m:Str}{Q:VK}{q:List Nat×List (Tg×E×List E)}{cs:List Nat}{ap cp:Pos}{sc:Scope}{P:Prop}{Zb:Z5}
def ixOf_get(h:AV N x=some i):N[i]?=some x:=by
 let⟨h1,h2,_⟩:=List.findIdx?_eq_some_iff_getElem.mp h;rw[Ww h1];exact V2 some (eq_of_beq h2)
def sF(h:HI e=some x):∃p,e = .Name x p:=by
 cases e with
 |Name y p=>cases h;exact⟨p,rfl⟩
 |_=>cases h
def fR{c:Str×List Expr}(h:Cq e=some c):∃p q,e = .Call (.Name c.1 p) c.2 [] q:=by
 cases e with
 |Call f es kws q=>
  cases kws with
  |nil=>
   let⟨n,a,rfl⟩:=Ym.mp h;let⟨p,rfl⟩:=sF a;exact⟨p,q,rfl⟩
  |cons _ _=>cases h
 |_=>cases h
open PySem PySem.Spec PyProof.Rows L2 PySem.W
def star_ne(h:isStar a=false)(b:List Expr):starEach (a::b) env=(false,eval a env)::starEach b env:=by
 cases a<;>first|rfl|cases h
def cj{env:Env}{pos:Pos}:∀{es:List Expr},es.any isStar=false->(backTo pos (starEach es env)).any (·.1)=false
 |[],_=>rfl
 |a::es,h=>by
  rw[Wq,Vk]at h;rw[star_ne h.1];show(false||(backTo pos (starEach es env)).any (·.1))=false;rw[cj h.2]
  rfl
section
def eK{env:Env}:∀{kws:List Keyword},kwOk kws=true->(backToKw pos (keywordEach kws env)).all (·.1.isSome)=true/\(backToKw pos (keywordEach kws env)).filterMap (·.1)=AM kws/\(backToKw pos (keywordEach kws env)).any (·.1.isNone)=false
 |[],_=>⟨rfl,rfl,rfl⟩
 |⟨nm,e,kp⟩::kws,h=>by
  unfold kwOk at h;rw[SM,Yk]at h;let⟨a,b,c⟩:=eK (env:=env) (kws:=kws) h.2;cases nm with
  |none=>cases h.1
  |some n=>
   refine⟨?_,?_,?_⟩
   .show (true&&_)=true
    rw[Rh];exact a
   .show n::_=n::_
    exact V2 (n :: ·) b
   .show (false||_)=false
    rw[Qi];exact c
def jH:∀{kws:List Keyword},kwOk kws=true->(AM kws).length=kws.length
 |[],_=>rfl
 |⟨nm,e,kp⟩::kws,h=>by
  unfold kwOk at h;rw[SM,Yk]at h;cases nm with
  |none=>cases h.1
  |some n=>
   show(AM kws).length+1=kws.length+1;rw[jH h.2]
def _root_.L2.PK.imp{t t':TA}(h:PK X kws t)(q:∀Y H Q,t' Y H Q->t Y H Q):PK X kws t':=λp J s Y H Q I a=>h p J s Y H Q I (q Y H Q a)
end
section
variable{k:Nat}{f C:Addr}{sp:Sp}{E:XK}{t tk:TA}
def ph{Y:L2.St}{O a:List Value}{d:List V}(Z8:Mk X.K C f)(F:YL X.prog X.w X.K X.mg X.base CX k f fd ps sp)(p:Za (k+1) X.A)(j:U2 X.K fd ps ks g gV)
  (o:A4 CX X E) (I:Z2 X J Y H s) (r:ZH vs O) (l:ZH d a)
  (h:∀x dx,H x=none->H dx=none->dx≠x->sp (gV (.ref x::vs) d) (upd (upd H dx (.own x)) x (.ins C dx [])) (λv H2=>v=.ZN/\Q (.ref x) H2) E) :
  wpAny (model X.prog X.w) X.A (call (.ref C) O (ks.zip a)) (EP X J Y Q) X.xe s:=by
 have i:=h (s.heap.objs.size+1) s.heap.objs.size (I.ZL.fresh (VJ _)) (I.ZL.fresh (Hz _)) (HC (Sj _));have c:=Z2.made (C:=C) I;have r2:ZH (gV (.ref (s.heap.objs.size+1)::vs) d) (g (.ref (s.heap.objs.size+1)::O) a):=j.rel (.cons rfl r) l;have q:(g (.ref (s.heap.objs.size+1)::O) a).length=ps.length:=by rw[<-r2.length];exact F.len _ _ _ _ i
 refine wpAny_call (yk (f:=f) I.YU Z8.makes Z8.init (Wv.mp Z8.fn) (SF (F.run _ X.stack _ _ ⟨.ref (s.heap.objs.size+1)::O,ks.zip a⟩ _ _ _ E (p.make C O (ks.zip a)) (c.Ui.make C O (ks.zip a)) (j.to _ _ a c.YU q) r2 i) λr s' b=>?_));cases r with
 |error e=>exact o J Y _ _ e s' c b
 |ok fl=>
  cases fl with
  |ret u=>
   let⟨v,H',y,m,t,n⟩:=c.after b;subst t;exact⟨m,⟨.ref (s.heap.objs.size+1),H',y,rfl,n⟩⟩
  |next=>exact False.elim b
  |brk=>exact False.elim b
  |cont=>exact False.elim b
def G4(C:Addr)(sp:Sp)(a:List V->List V->List V)(E:XK)(t tk:TA):TE:=λY H Q=>t Y H λvs H1=>tk Y H1 λzs H2=>∀x dx,H2 x=none->H2 dx=none->dx≠x ->
 sp (a (.ref x::vs) zs) (upd (upd H2 dx (.own x)) x (.ins C dx [])) (λv H3=>v=.ZN/\Q (.ref x) H3) E
def xo(Z8:Mk X.K C f)(F:YL X.prog X.w X.K X.mg X.base CX k f fd ps sp)(j:Za (k+1) X.A)(B:Gl X x)(z:X.mg x=some (.ref C))(l:U2 X.K fd ps ks g gV)(i:A4 CX X E)
  (D:PA X es t) (L:es=[] ->∀Y H Q,t Y H Q->Q [] H) (n:PK X kws tk) (o:(backToKw pos (keywordEach kws X.env)).all (·.1.isSome)=true) (m:(backToKw pos (keywordEach kws X.env)).filterMap (·.1)=ks)
  (G:(x==("__debug__" : Str))=false) (b:es.any isStar=false) (u:(backToKw pos (keywordEach kws X.env)).any (·.1.isNone)=false) :
  PE X (.Call (.Name x p) es kws pos) (G4 C sp gV E t tk):=by
 intro J s Y H Q I h;refine Sr (eN I B z ?_ G);cases es with
 |cons e es=>
  rw[Wq,Vk]at b;refine PySem.W.callWith_KW (h₀:=X.base) I.ok.mod.kin Z8.kp o (thn (D pos J s Y H _ I h) λO y ⟨vs,H1,M,r,q⟩=>?_) ?_ (star_ne b.1 _)
  .refine thn (n pos J y Y H1 _ M q) λws v ⟨zs,H2,a,c,d⟩=>⟨a.YU,?_⟩
   rw[m];exact ph Z8 F j l i a r c d
  .rw [star_ne b.1]
   show((false||(backTo pos (starEach es X.env)).any (·.1))||_)=false;rw[cj b.2,u]
   rfl
 |nil=>
  have q:=L rfl Y H _ h;refine PySem.W.callWith_KW0 (h₀:=X.base) I.ok.mod.kin Z8.kp o ?_ (by show(false||_)=false;rw[u];rfl)
  refine thn (n pos J s Y H _ I q) λws v ⟨zs,H2,a,c,d⟩=>⟨a.YU,?_⟩;rw[m];exact ph Z8 F j l i a .nil c d
def GX(X:Cx)(CX:X4)(k:Nat)(m:Str)(c:List Str)(E:XK)(b:TE)(t tk:TA):TE:=λY H Q=>b Y H λx H1=>∃(a C dx:Addr) (fs:List (Str×V)) (f:Addr) (fd:FuncData) (ps:List Str) (sp:Sp) (g:List Value->List Value->List Value) (gV:List V->List V->List V),
 x=.ref a/\H1 a=some (.ins C dx fs)/\fs.lookup m=none/\Yy X.K C/\U3 X.K C m f/\YL X.prog X.w X.K X.mg X.base CX k f fd ps sp/\U2 X.K fd ps c g gV/\t Y H1 λvs H2=>tk Y H2 λzs H3=>sp (gV (x::vs) zs) H3 Q E
def wV(he:PE X o ta)(hr:Za k X.A)(hx:A4 CX X E)(ha:PA X es t)(UN:es=[] ->∀Y H Q,t Y H Q->Q [] H)(YN:PK X kws tk)(WM:(backToKw pos (keywordEach kws X.env)).all (·.1.isSome)=true)(Yc:(backToKw pos (keywordEach kws X.env)).filterMap (·.1)=ks)
  (Zx:es.any isStar=false) (V3:(backToKw pos (keywordEach kws X.env)).any (·.1.isNone)=false)
  (ht:eval (.Call (.Attribute o m apos) es kws pos) X.env=(do
   let ov<-eval o X.env
   standAt apos.atName
   let(f,first)<-holding [ov] (getMethod ov m pl)
   callWith pos f first (backTo pos (starEach es X.env)) (backToKw pos (keywordEach kws X.env)))) :
  PE X (.Call (.Attribute o m apos) es kws pos) (GX X CX k m ks E ta t tk):=by
 intro J s Y H Q I h;refine PySem.W.methodCall_KW (pl:=pl) (thn (he J s Y H _ I h) λu s1 hz=>?_) ht;let⟨x,H1,I1,rx,a,C,dx,fs,f,fd,ps,sp,g,gV,ex,ea,l,c,hm,F,hb,q⟩:=hz;subst ex;obtain rfl:u=Value.ref a:=rx;refine wB I1 ea c hm l ?_;cases es with
 |cons e es=>
  rw[Wq,Vk]at Zx;refine PySem.W.callWith_KW (first:=[.ref a]) (h₀:=X.base) I.ok.mod.kin hm.kp WM (thn (ha pos J s1 Y H1 _ I1 q) λO s2 ⟨vs,H2,I2,r,q2⟩=>?_) ?_ (star_ne Zx.1 _)
  .refine thn (YN pos J s2 Y H2 _ I2 q2) λws s3 ⟨zs,H3,I3,rz,q3⟩=>⟨I3.YU,?_⟩
   rw[Yc];exact r9 (O:=.ref a::O) (vs:=.ref a::vs) F hr hb hx I3 (.cons rfl r) rz q3
  .rw [star_ne Zx.1]
   show((false||(backTo pos (starEach es X.env)).any (·.1))||_)=false;rw[cj Zx.2,V3]
   rfl
 |nil=>
  have q:=UN rfl Y H1 _ q;refine PySem.W.callWith_KW0 (first:=[.ref a]) (h₀:=X.base) I.ok.mod.kin hm.kp WM ?_ (by show(false||_)=false;rw[V3];rfl)
  refine thn (YN pos J s1 Y H1 _ I1 q) λws s3 ⟨zs,H3,I3,rz,q3⟩=>⟨I3.YU,?_⟩;rw[Yc];exact r9 (O:=[.ref a]) (vs:=[.ref a]) F hr hb hx I3 (.cons rfl .nil) rz q3
end
section
variable{M:List Fn}{k nd:Nat}{f:Addr}{F:KF}{Yq:List E}
def tQ{K:Frag}(a:Xq K fd F nd Zl dd)(ρ:List Addr)(H:Hp):F2 (PR (RV K ρ H)) F.dd Zl:=by
 have:=a.urel;revert this;generalize F.dd=l1;generalize Zl=b;intro this
 induction this with
 |nil=>exact .nil
 |cons r _ ih=>exact .cons ⟨r.1,r.2 _ _⟩ ih
def vi{g:G}{np:Nat}{K:Frag}(c:∀a,M[i]?=some a->a.np=np)(p:post K W (RV K) (Ab M fu d i O g) ρ H Q):O.length=np:=by
 cases d with
 |zero=>exact p.elim
 |succ d=>
  simp![Ab]at p;cases e:M[i]? with
  |none=>rw[e]at p;exact p.elim
  |some a=>
   rw[e]at p;simp![BJ]at p;split at p
   .rename_i b;rw[b];exact c a e
   .exact p.elim
def fN{x:U}{g:G}{q:Nat×List (Nat×U)}(e:AO x g=some q):∃n,x=.ref n/\g[n]?=some (.ins q.1 q.2):=by
 unfold AO at e;split at e
 .split at e
  .rename_i h;cases e;exact⟨_,rfl,h⟩
  .cases e
 .cases e
def z8{C:Addr}(Z8:Mk X.K C f)(hC:nsIn X.K mainGlobals (As c)=some (some (.ref C))){E0:XK}(Z6:YL X.prog X.w X.K X.mg X.base CX k f fd (F.ns++F.ks) (UO X.K Wf M d i (F.ns++F.ks).length))(Z:A4 CX X E0)(Xj:∀J,M[i]?=some J->J.np=(F.ns++F.ks).length)(I:Xq X.K fd F nd Zl dd)(ZC:F.ns++F.ks≠[])
  (Xw:BX F nd (ZF.length+1) (AM kws)=true) (D:kwOk kws=true) (Wp:ZF.length=es.length) (WB:Yq.length=kws.length) (hr:Za (k+1) X.A) (b:Gl X x) (hm:X.mg x=some (.ref C)) (YQ:(x==("__debug__" : Str))=false)
  (s:PA X es (Yg X.K W0 (Jl r.ev ZF))) (q:PK X kws (Yg X.K W0 (Jl r.ev Yq))) (Zx:es.any isStar=false) :
  PE X (.Call (.Name x p) es kws pos) (tE X.K (Wf E0) (Jp (Ab M fu d) r (.make c i ZF Yq (Cf F (ZF.length+1) (AM kws))))):=by
 let⟨W,T,S⟩:=eK (pos:=pos) (env:=X.env) D;refine(xo Z8 Z6 hr b hm (I.binds Xw ZC) Z s (λe Y H Q ⟨Z0,ρ,g,o,b,p⟩=>by subst e;cases ZF with|nil=>exact post.Ze (R:=RVs X.K) (u:=[]) p b rfl|cons=>cases Wp) q W T YQ Zx S).imp ?_;rintro Y H Q ⟨Z0,ρ,g,o,b,p⟩
 refine⟨Z0,ρ,g,o,b,(bZ (R:=RVs X.K) p).mono λvs H1 ⟨ZM,O,g1,s1,h1,rs,P⟩=>?_⟩;refine⟨Z0,ZM,g1,o.step s1,h1,(bZ (R:=RVs X.K) P).mono λzs H2 ⟨l,ws,g2,s2,h2,t,p2⟩=>?_⟩;intro a dx s h Ud;split at p2
 .rename_i hc
  let⟨B,c2⟩:=hc;have E:ws.length=(AM kws).length:=by rw[c2,WB,jH D]
  have j:(upd H2 dx (.own a)) a=none:=by rw[af (Ne.symm Ud)];exact s
  have st:ZI X.K l H2 (l++[a]) (upd (upd H2 dx (.own a)) a (.ins C dx [])):=(ZI.fresh h).trans (ZI.alloc j);have L:RH X.K (l++[a]) (upd (upd H2 dx (.own a)) a (.ins C dx [])) (g2++[.ins c []]):=(h2.step_fresh h).Uq j ⟨C,dx,[],rfl,hC,rfl⟩;have G:=RVs.step st _ _ (RVs.step s2 _ _ rs);have m:=RVs.step st _ _ t;have y:RV X.K (l++[a]) (upd (upd H2 dx (.own a)) a (.ins C dx [])) (.ref g2.length) (.ref a):=⟨a,rfl,by rw[<-h2.len];simp⟩
  have hv:(V.ref a::vs).length=ZF.length+1/\zs.length=(AM kws).length:=⟨by rw[XI,<-G.length,B],by rw[<-t.length];exact E⟩
  have e1:(U.ref g2.length::O).length=ZF.length+1:=by rw[XI,B]
  rw[show(U.ref g2.length::O++ws)=(U.ref g2.length::O)++ws from rfl,oO (O:=U.ref g2.length::O) e1 E]at p2;have z:post X.K (Wf E0) (RV X.K) (Ab M fu d i (place F.ns F.ks (AM kws) F.dd (U.ref g2.length::O) ws) (g2++[.ins c []])) (l++[a]) (upd (upd H2 dx (.own a)) a (.ins C dx [])) (λv H3=>v=.ZN/\Q (.ref a) H3):=by
   refine(post.bind (R:=RV X.K) (p2.from st)).mono ?_;rintro v H3 ⟨VY,u,g3,s3,h3,N,n⟩;split at n
   .rename_i hu
    have e:=fQ N;rw[hu]at e;exact⟨HE e.symm,post.Ze n h3 (RV.step s3 _ _ y)⟩
   .exact n.elim
  refine⟨fu,_,_,_,L,?_,vi Xj z,z⟩;dsimp only;rw[Xg hv];exact(dU (tQ I _ _) (F2.cons y (.UT G)) (.UT m)).TQ
 .exact p2.elim
def MtOk(CX:X4)(Wf:XK->XQ)(X:Cx)(M:List Fn)(d k:Nat)(m:Str)(np:Nat)(kw:List Str)(b:List (Nat×Nat×List (Nat ⊕ U))):Prop:=∀c i pm,b.lookup c=some (i,pm) ->∃C f fd F nd Zl dd,nsIn X.K mainGlobals (As c)=some (some (.ref C))/\Yy X.K C/\U3 X.K C m f/\Xq X.K fd F nd Zl dd/\F.ns++F.ks≠[] /\
 BX F nd (np+1) kw=true/\pm=Cf F (np+1) kw/\YL X.prog X.w X.K X.mg X.base CX k f fd (F.ns++F.ks) (UO X.K Wf M d i (F.ns++F.ks).length) /\∀a,M[i]?=some a->a.np=(F.ns++F.ks).length
def zt(ho:PE X o (tE X.K W0 (r.ev o')))(hj:j<Ba)(hm:As j=m){E0:XK}(hx:A4 CX X E0)(hM:MtOk CX Wf X M d k m ZF.length (AM kws) tb)(YN:kwOk kws=true)(Wp:ZF.length=es.length)(WB:Yq.length=kws.length)(hr:Za k X.A)
  (ha:PA X es (Yg X.K W0 (Jl r.ev ZF))) (hka:PK X kws (Yg X.K W0 (Jl r.ev Yq))) (Zx:es.any isStar=false)
  (ht:eval (.Call (.Attribute o m apos) es kws pos) X.env=(do
   let ov<-eval o X.env
   standAt apos.atName
   let(f,first)<-holding [ov] (getMethod ov m pl)
   callWith pos f first (backTo pos (starEach es X.env)) (backToKw pos (keywordEach kws X.env)))) :
  PE X (.Call (.Attribute o m apos) es kws pos) (tE X.K (Wf E0) (Jp (Ab M fu d) r (.Zg o' j tb ZF Yq))):=by
 let⟨k1,k2,k3⟩:=eK (pos:=pos) (env:=X.env) YN;refine(wV ho hr hx ha (λe Y H Q ⟨Z0,ρ,g,hs,hg,p⟩=>by subst e;cases ZF with|nil=>exact post.Ze (R:=RVs X.K) (u:=[]) p hg rfl|cons=>cases Wp) hka k1 k2 Zx k3 ht).imp λY H Q hp=>oneN hp λZ0 ρ H g u x hs hg r1 p=>?_
 cases ei:AO u g with
 |none=>rw[ei]at p;exact p.elim
 |some q=>
  rw[ei]at p;simp![UK]at p;let⟨n,rfl,eg⟩:=fN ei;let⟨a,C,dx,fs,c1,c2,c3,c4⟩:=hg.ins eg;let⟨a',rfl,z⟩:=r1;rw[c1]at z;cases z;unfold BB at p;rcases c4.look hj with⟨l1,l2⟩|⟨u,v,l1,_,_⟩
  .rw [l1]at p
   dsimp only at p;cases et:tb.lookup q.1 with
   |none=>rw[et]at p;exact p.elim
   |some ip=>
    let⟨i,pm⟩:=ip;rw[et]at p;dsimp only at p;let⟨C',f,fd,F,nd,Zl,dd,m1,m2,m3,KO,ZC,Xw,rfl,Z6,Xj⟩:=hM q.1 i pm et;rw[c3]at m1;cases m1;refine⟨a,C,dx,fs,f,fd,_,_,_,_,rfl,c2,by rw[<-hm];exact l2,m2,m3,Z6,KO.binds Xw ZC,Z0,ρ,g,hs,hg,(bZ (R:=RVs X.K) p).mono λvs H1 ⟨ZM,O,g1,s1,h1,rs,p1⟩=>?_⟩
    refine⟨Z0,ZM,g1,hs.step s1,h1,(bZ (R:=RVs X.K) p1).mono λzs H2 ⟨Zr,ws,g2,s2,h2,rz,p2⟩=>?_⟩;split at p2
    .rename_i hc
     let⟨WY,Xi⟩:=hc;have Xi:ws.length=(AM kws).length:=by rw[Xi,WB,jH YN]
     have UM:=RVs.step s2 _ _ rs;have rx:RV X.K Zr H2 (.ref n) (.ref a):=⟨a,rfl,s2.ext _ _ (s1.ext _ _ c1)⟩;have hv:(V.ref a::vs).length=ZF.length+1/\zs.length=(AM kws).length:=⟨by rw[XI,<-UM.length,WY],by rw[<-rz.length];exact Xi⟩
     have e1:(U.ref n::O).length=ZF.length+1:=by rw[XI,WY]
     rw[show(U.ref n::O++ws)=(U.ref n::O)++ws from rfl,oO (O:=U.ref n::O) e1 Xi]at p2;refine⟨fu,Zr,g2,_,h2,?_,vi Xj p2,p2⟩
     try dsimp only
     rw[Xg hv];exact(dU (tQ KO _ _) (F2.cons rx (.UT UM)) (.UT rz)).TQ
    .exact p2.elim
  .rw [l1]at p;exact p.elim
def Cd(K:Frag)(f:Str)(cs:List Nat):Prop:=∀c,cs.contains c=true ->∃C,nsIn K mainGlobals (As c)=some (some (.ref C))/\Yy K C/\NoAttr K C f
def abX(y:PE X e (tE X.K W (r.ev e')))(A:attributeBase e m X.env (eval e X.env)=eval e X.env)(t:j<Ba)(s:As j=m)(B:Cd X.K m cs):PE X (.Attribute e m pos) (tE X.K W (Jp C r (.fld e' j cs))):=by
 refine(aaQ y A).imp λY H Q o=>one o λZ0 ρ H g u x L d i p=>?_;let⟨w,b,k⟩:=post.lift p;clear p;cases c:AO u g with
 |none=>rw[c]at b;cases b
 |some q=>
  rw[c]at b;simp![UK,BD]at b;split at b
  .rename_i hc
   let⟨n,rfl,D⟩:=fN c;let⟨a,C,dx,fs,J,I,G,F⟩:=d.ins D;let⟨a',rfl,z⟩:=i;rw[J]at z;cases z;let⟨C',f,J7,E⟩:=B q.1 hc;rw[G]at f;cases f;rcases F.look t with⟨l1,_⟩|⟨u,v,l1,l,h⟩
   .rw [l1]at b;cases b
   .rw [l1]at b;cases b
    exact⟨a,C,dx,fs,v,rfl,I,J7,E,by rw[<-s];exact l,post.Ze k d h⟩
  .cases b
def zI(B:PE X o (tE X.K W (r.ev o')))(I:PE X e (tE X.K W (r.ev e')))(d:swapsWith e (some (.Attribute o m pos')) pos.line X.env=pure false)(F:j<Ba)(E:As j=m)(J:Cd X.K m cs):PS X (.Assign [.Attribute o m pos'] e pos) (Zq X.K W (Jr r (.fset o' j cs e'))):=by
 refine(aa2 B I d).imp ?_;rintro D Y H ⟨Z0,ρ,g,d,G,p⟩;refine⟨Z0,ρ,g,d,G,(Jy.bind (R:=RV X.K) p).mono λy H1 ⟨N,u,g1,s1,h1,t,A⟩=>?_⟩;refine⟨Z0,N,g1,d.step s1,h1,(Jy.bind (R:=RV X.K) A).mono λx H2 ⟨k,w,g2,s2,h2,v,p2⟩=>?_⟩;have f:=RV.step s2 _ _ t;cases b:A8 w j cs u g2 with
 |none=>rw[b]at p2;exact p2.elim
 |some g'=>
  rw[b]at p2;unfold A8 at b;split at b
  .split at b
   .rename_i n c fs L
    split at b
    .rename_i hc
     cases b;let⟨a,C,dx,WS,i,h,s,q⟩:=h2.ins L;let⟨a',rfl,z⟩:=v;rw[i]at z;cases z;let⟨C',l,J7,M⟩:=J c hc.1;rw[s]at l;cases l;refine⟨a,C,dx,WS,rfl,h,J7,M,by rw[<-q.length];exact hc.2,?_⟩
     have st:ZI X.K k H2 k (upd H2 a (.ins C dx (AG m y WS))):=ZI.Yt i h trivial;refine p2 Y k _ st (h2.Yt i h trivial ⟨C,dx,_,rfl,s,?_⟩) (((d.step s1).step s2).step st);rw[<-E];exact q.put F f
    .cases b
   .cases b
  .cases b
def aac{J:Nat->List U->G->Out U}{k:Int}(ho:∀n,PE X o (tE X.K W ((Jw J n).ev (.L i))))(he:∀n,PE X e (tE X.K W ((Jw J n).ev (.Z3 (.int k)))))(N:j<Ba)(M:As j=m)(hF:Cd X.K m cs):∀n,PS X (.AugAssign (.Attribute o m pos') .Add e pos) (Zq X.K W (Jr (Jw J n) (.fset (.L i) j cs (.ZW .add (.fld (.L i) j cs) (.Z3 (.int k))))))
 |0=>PS.ZZ λ_ _=>rfl
 |1=>PS.ZZ λ_ _=>rfl
 |2=>PS.ZZ λ_ _=>rfl
 |n+3=>by
  refine(xv (ho 1) (he 1) abq).imp ?_;rintro D Y H ⟨Z0,ρ,g,s,hg,p⟩;refine⟨Z0,ρ,g,s,hg,?_⟩
  delta Jr at p;dsimp only[Jw]at p ⊢;delta Jp at p ⊢;dsimp only at p ⊢
  cases t:Z0[i]? with
  |none=>simp![t,Out.bind]at p;exact p.elim
  |some ou=>cases ou with
   |none=>simp![t,Out.bind]at p;exact p.elim
   |some u=>
    simp![t,Out.bind]at p ⊢;intro x ZM H1 r h1 T;cases A:AO u g with
    |none=>simp![A,Option.bind_none,lift]at p;exact p.elim
    |some q=>
     let⟨l,rfl,B⟩:=fN A;let⟨a,C,dx,fs,f,c2,F,c4⟩:=h1.ins B;let⟨a',rfl,z⟩:=T;rw[f]at z;cases z;simp![A,UK,BD]at p;by_cases hc:cs.contains q.1=true
     .simp only [hc,Vy]at p
      let⟨C',R,J7,d3⟩:=hF q.1 hc;rw[F]at R;cases R;rcases c4.look N with⟨l1,_⟩|⟨u,v,l1,l2,Z⟩
      .rw [l1]at p;exact p.elim
      .rw [l1]at p
       refine⟨a,C,dx,fs,v,rfl,c2,J7,d3,by rw[<-M];exact l2,Z0,ZM,g,s.step r,h1,?_⟩
       intro y h H2 c h2 S;let⟨a2,C2,b,d,Q,E,P,O⟩:=h2.ins B;rw[c.ext _ _ f]at Q;cases Q;cases u with
       |int w=>
        cases Z;obtain rfl:y=V.int k:=S;have l3:=l1;simp![lift,Bj,A2,IZ,IY,A8,B]at p;split at p
        .rename_i gg I
         split at I
         .rename_i VR
          cases I;rw[F]at P;cases P;refine⟨_,_,rfl,rfl,b,d,E,by rw[<-O.length];exact VR.2,?_⟩
          have st:ZI X.K h H2 h (upd H2 a (.ins C b (AG m (.int (w+k)) d))):=ZI.Yt (c.ext _ _ f) E trivial;refine p Y h _ ((r.trans c).trans st) (h2.Yt (c.ext _ _ f) E trivial ⟨C,b,_,rfl,F,?_⟩) (((s.step r).step c).step st);rw[<-M];exact O.put (u:=.int (w+k)) N (rfl:RV X.K h _ (.int (w+k)) (.int (w+k)))
         .cases I
        .exact p.elim
       |_=>exact p.elim
     .simp only [Xp hc,lift]at p;exact p.elim
end
def aae(c:es.any isStar=false)(d:kwOk kws=true)(e:es.length+kws.length+1<30):methodCallForm (es.length+kws.length) (backTo pos (starEach es env)) (backToKw pos (keywordEach kws env))=true:=by
 unfold methodCallForm;let⟨a,_,_⟩:=eK (pos:=pos) (env:=env) d;have h1:(backTo pos (starEach es env)).all (!·.1)=true:=by
  have:=cj (env:=env) (pos:=pos) c;rw[List.any_eq_false]at this;rw[XH];intro x b;simpa using this x b
 rw[h1,a,Rh,Rh,Xh];split<;>lia
def xi(hb:∀w,attributeBase o m env w=w)(Zx:es.any isStar=false)(YN:kwOk kws=true)(hn:es.length+kws.length+1<30)(Y2:(ap.endLine==cp.line)=true):
  eval (.Call (.Attribute o m ap) es kws cp) env=(do
   let ov<-eval o env
   standAt ap.atName
   let(f,first)<-holding [ov] (getMethod ov m (do return (<- importBound o env).getD true))
   callWith cp f first (backTo cp (starEach es env)) (backToKw cp (keywordEach kws env))):=by
 have hf:=aae (env:=env) (pos:=cp) Zx YN hn;show (do
  let ov<-attributeBase o m env (eval o env)
  standAt ap.atName
  methodCall o m ap cp env ov (es.length+kws.length) (backTo cp (starEach es env)) (backToKw cp (keywordEach kws env)))=_
 rw[hb];unfold methodCall calleeOf methodCallPos;rw[hf];simp![Vy,Y2,Bool.or_true,pure_bind]
def base_of(h:Cj o=false)(w:Sem Value):attributeBase o m env w=w:=by
 cases o with
 |Call f es ks p=>
  cases es with
  |nil=>cases h
  |cons _ _=>cases f<;>rfl
 |_=>rfl
open PySem PySem.Spec PyProof.Rows L2
structure Zk(T:Tab)(M:List Fn)(d:Nat)(X:Cx)(sc:Scope)(N:List Str):Prop where
 hF:∀(i:Nat) (x:Str),T.M[i]?=some x->(x==("__debug__" : Str))=false ->∃f fd ps,X.mg x=some (.ref f)/\PySem.W.keepIn X.K (.ref f)=true/\Binds X.K fd ps []/\YL X.prog X.w X.K X.mg X.base XJ (2*d+2) f fd ps (WZ X.K M d i ps.length) /\∀F,M[i]?=some F->F.np=ps.length
 cs:∀x u,T.cs.lookup x=some u ->∃v val,X.mg x=some val/\RelV v val /\∀ρ H,RV X.K ρ H u v
 bt:∀x∈T.bt,X.mg x=none
 hK:∀(y:Str) (i:Nat) (F:KF) (nd:Nat),T.kf.lookup y=some (i,F,nd) ->∃f fd Zl dd,X.mg y=some (.ref f)/\PySem.W.keepIn X.K (.ref f)=true/\Xq X.K fd F nd Zl dd/\F.ns++F.ks≠[]/\YL X.prog X.w X.K X.mg X.base XJ (2*d+2) f fd (F.ns++F.ks) (WZ X.K M d i (F.ns++F.ks).length) /\∀F',M[i]?=some F'->F'.np=(F.ns++F.ks).length
 hC:∀(y:Str) (c i:Nat) (F:KF) (nd:Nat),T.cl.lookup y=some (c,i,F,nd) ->∃C f fd Zl dd,X.mg y=some (.ref C)/\Mk X.K C f/\PySem.W.nsIn X.K mainGlobals (As c)=some (some (.ref C))/\Xq X.K fd F nd Zl dd/\F.ns++F.ks≠[]/\YL X.prog X.w X.K X.mg X.base XJ (2*d+2) f fd (F.ns++F.ks) (WZ X.K M d i (F.ns++F.ks).length) /\∀F',M[i]?=some F'->F'.np=(F.ns++F.ks).length
 hT:∀(m:Str) (l:List (Nat×Nat×KF×Nat)),T.mt.lookup m=some l ->∀c i F nd,(c,i,F,nd)∈l ->∃C f fd Zl dd,PySem.W.nsIn X.K mainGlobals (As c)=some (some (.ref C))/\Yy X.K C/\U3 X.K C m f/\Xq X.K fd F nd Zl dd/\F.ns++F.ks≠[]/\YL X.prog X.w X.K X.mg X.base XJ (2*d+2) f fd (F.ns++F.ks) (WZ X.K M d i (F.ns++F.ks).length) /\∀F',M[i]?=some F'->F'.np=(F.ns++F.ks).length
 hA:(∀(f:Str) (cs:List Nat),T.fl.lookup f=some cs->Cd X.K f cs) /\∀p∈T.ow,∃C,X.mg p.1=some (.ref C)/\PySem.W.nsIn X.K mainGlobals (As p.2)=some (some (.ref C))/\Yy X.K C/\T_ X.K C
 room:Za (2*d+3) X.A
 hN:X.N=N
 XE:X.env.scope=sc
 nd:N.Nodup
 calm:X.calm=true
 xe:X.xe=λ_ _=>False
def Fs:Expr->Bool
 |.BoolOp ..=>true
 |_=>false
def Good(X:Cx)(C:Nat->List U->G->Out U)(e:Expr)(a:E):Prop:=
 (∀n,PE X e (tE X.K W0 ((Jw C n).ev a)))/\(∀n,PT X e (tT X.K W0 ((Jw C n).ts a)))/\(Fs e=true ->∀n,PW X e (tT X.K W0 ((Jw C n).ts a)))
section
variable{T:Tab}{M:List Fn}
def qN{r:α}(h:(none:Option α)=some r):P:=by cases h
def qB{o:Option α}{f:α->Option β}{r:β}(h:o.bind f=some r)(k:∀a,o=some a->f a=some r->P):P:=by
 cases o with
 |none=>cases h
 |some a=>exact k a rfl h
def qM{o:Option α}{f:α->β}{r:β}(h:o.map f=some r)(k:∀a,o=some a->f a=r->P):P:=by
 cases o with
 |none=>cases h
 |some a=>exact k a rfl (X9 h)
def qI{c:Bool}{x:Option α}{r:α}(h:HH c x=some r)(k:c=true->x=some r->P):P:=by
 cases c with
 |false=>cases h
 |true=>exact k rfl h
def qE{c:Prop}[Decidable c]{x y:Option α}{r:α}(h:(if c then x else y)=some r)(b:c->x=some r->P)(a:y=some r->P):P:=by
 by_cases hc:c
 .rw [Xg hc]at h;exact b hc h
 .rw [Xp hc]at h;exact a h
def aX{l:List α}(h:AX l=true):l=[]:=by
 cases l with
 |nil=>rfl
 |cons _ _=>cases h
def gw{k:E->E}{r:E}(h:CF ce k es=some r)(K:∀a a',es=[a]->ce a=some a'->k a'=r->P):P:=by
 cases es with
 |nil=>cases h
 |cons a es=>cases es with
  |nil=>exact qM h λa' h1 h2=>K a a' rfl h1 h2
  |cons _ _=>cases h
def gp{k:E->E->E}{r:E}(h:CI ce k es=some r)(K:∀a b a' b',es=[a,b]->ce a=some a'->ce b=some b'->k a' b'=r->P):P:=by
 cases es with
 |nil=>cases h
 |cons a es=>cases es with
  |nil=>cases h
  |cons b es=>cases es with
   |nil=>exact qB h λa' h1 h=>qM h λb' h2 c=>K a b a' b' rfl h1 h2 c
   |cons _ _=>cases h
def aR(h:(!b)=true):b=false:=by cases b with
 |false=>rfl
 |true=>cases h
def Good.plain(pe:∀n,PE X e (tE X.K W0 (Jp C (Jw C n) e')))(he:∀whole,isTrue e X.env whole=(do let v<-whole;standAt e.pos;holding [v] (truthy v)))
  (YH:∀r Y g,Jq r e' Y g=(r.ev e' Y g).bind λx g=>lift (Jd x g) g) (hb:Fs e=false):Good X C e e':=by
 have pe':∀n,PE X e (tE X.K W0 ((Jw C n).ev e')):=λn=>by
  cases n with
  |zero=>exact PE.ZZ λ_ _=>rfl
  |succ n=>exact pe n
 refine⟨pe',λn=>?_,λh=>?_⟩
 .cases n with
  |zero=>exact PT.ZZ λ_ _=>rfl
  |succ n=>
   have:((Jw C (n+1)).ts e')=λY g=>((Jw C n).ev e' Y g).bind λx g=>lift (Jd x g) g:=by funext Y g;exact YH _ _ _
   rw[this];exact xW (pe' n) he
 .rw [hb]at h;cases h
def bQ{f:Expr->Option E}(g:∀e e',f e=some e'->Good X C e e'):∀{es:List Expr} {ZF:List E},es.any isStar=false->Af (es.map f)=some ZF ->∀n,PA X es (Yg X.K W0 (Jl (Jw C n).ev ZF))
 |[],_,_,h=>λn=>by cases h;exact abY
 |a::es,ZF,b,h=>λn=>by
  rw[Wq,Vk]at b;rw[Y3]at h;cases d:f a with
  |none=>rw[d]at h;cases h
  |some a'=>
   rw[d]at h;simp![Af]at h;cases c:Af (es.map f)with
   |none=>rw[c]at h;cases h
   |some r'=>
    rw[c]at h;cases h;exact aaq ((g a a' d).1 n) (bQ g b.2 c n) (star_ne b.1 _)
def jA{f:Expr->Option E}(i:∀e e',f e=some e'->Good X C e e'):∀{kws:List Keyword} {Yq:List E},Af (kws.map λk=>f k.value)=some Yq ->∀n,PK X kws (Yg X.K W0 (Jl (Jw C n).ev Yq))
 |[],_,h=>λn=>by cases h;exact abI.imp λY H Q ⟨Z0,ρ,g,j,b,p⟩=>post.Ze (R:=RVs X.K) (u:=[]) p b rfl
 |⟨nm,a,kp⟩::kws,Yq,h=>λn=>by
  rw[Y3]at h;cases d:f a with
  |none=>rw[d]at h;cases h
  |some a'=>
   rw[d]at h;simp![Af]at h;cases c:Af (kws.map λk=>f k.value)with
   |none=>rw[c]at h;cases h
   |some r'=>
    rw[c]at h;cases h;refine(zX ((i a a' d).1 n) (jA i c n)).imp λY H Q o=>one o λZ0 ρ H g u x j b l p=>?_;refine⟨Z0,ρ,g,j,b,(post.bind p).mono λxs H1 ⟨q,O,g1,s1,h1,rs,m⟩=>?_⟩;exact post.Ze (R:=RVs X.K) m h1 ⟨x,xs,rfl,RV.step s1 _ _ l,rs⟩
def zr{o:Operator}{o':Op}(h:Ei o=some o'):(o'=.add/\o = .Add)\/(o'=.sub/\o = .Sub)\/(o'=.mul/\o = .Mult)\/(o'=.fdiv/\o = .FloorDiv)\/(o'=.mod/\o = .Mod)\/(o'=.pow/\o = .Pow):=by
 cases o<;>simp![Ei,reduceCtorEq,YJ]at h<;>subst h<;>simp
def Zk.T9(a:Zk T M d X sc N):Za (2*d+2) X.A:=⟨a.room.hd,by have:=a.room.dp;lia,by have:=a.room.un;lia,a.room.gd⟩
def Zk.units(a:Zk T M d X sc N):X.A.units+2<cLine:=by have:=a.room.units;lia
def cC(a:Zk T M d X sc N){o:CmpOp}{o':Cp}(h:CN o=some o'):Bo X o' o:=by
 refine adK a.units o' o ?_;cases o<;>simp![CN,reduceCtorEq,YJ]at h<;>subst h<;>simp
def qi{b:Expr}{o:CmpOp}(h:CW b=false):behindInMarks o b=false:=by
 cases b<;>first|rfl|cases h
def Zk.gl(a:Zk T M d X sc N)(h:sc.names.lookup x=some .globalImplicit):Gl X x:=by
 show X.env.scope.names.lookup x=_;rw[a.XE];exact h
def gu(h:CM x=true):(x==("__debug__" : Str))=false/\(x==("__classdict__" : Str))=false/\x ≠ "__name__":=by
 unfold CM at h;simp![Yk,WL]at h;exact⟨h.1.1,h.1.2,λe=>by have:=h.2;rw[e]at this;simp at this⟩
def y8{t:Ty}(h:Dz x=some t):x=Str.ofString (tyName t)/\bootBuiltins x=some (.type (tyName t))/\x ≠ "__name__" /\ (x==("__debug__" : Str))=false:=by
 unfold Dz at h;split at h
 .rename_i e;cases h;subst e;exact⟨rfl,by rfl,by decide,by decide⟩
 split at h
 .rename_i e;cases h;subst e;exact⟨rfl,by rfl,by decide,by decide⟩
 split at h
 .rename_i e;cases h;subst e;exact⟨rfl,by rfl,by decide,by decide⟩
 split at h
 .rename_i e;cases h;subst e;exact⟨rfl,by rfl,by decide,by decide⟩
 split at h
 .rename_i e;cases h;subst e;exact⟨rfl,by rfl,by decide,by decide⟩
 .cases h
def wA{b:Expr}(h:Cm b=false):DE b:=by
 cases b<;>first|exactλ_ _=>rfl|cases h
section
def aaJ{b:Bi}{f:Str}(c:HK f=some b)(o:X.calm=true)(u:X.A.units+64<cLine)(t:X.A.guards=some [])(g:Gl X f)(d:X.mg f=none)(j:PA X (a::es) (Yg X.K W0 (Jl r.ev ZF)))(k:(a::es).any isStar=false):
  PE X (.Call (.Name f p) (a::es) [] pos) (tE X.K W0 (Jp C r (.bi b ZF))):=by
 rw[Wq,Vk]at k;have h1:=star_ne (env:=X.env) k.1 es;have h2:=cj (env:=X.env) (pos:=pos) k.2;unfold HK at c;split at c
 .rename_i e;subst e;cases c;exact se_bi (pe_callB call_len_seq g d PySem.boot_len j #[1] #[1] h1 h2) imp_len
 split at c
 .rename_i e;subst e;cases c;exact se_bi (pe_callB call_abs g d #[2] j #[1] #[1] h1 h2) imp_abs
 split at c
 .rename_i e;subst e;cases c;exact se_bi (pe_callTy call_list_of g d #[2] j #[1] #[1] h1 h2) imp_list
 split at c
 .rename_i e;subst e;cases c;exact se_bi (pe_callB (call_mn o) g d PyProof.Rows.boot_min j #[1] #[1] h1 h2) (imp_mm λ_ _=>rfl)
 split at c
 .rename_i e;subst e;cases c;exact se_bi (pe_callB (call_mx o) g d PyProof.Rows.boot_max j #[1] #[1] h1 h2) (imp_mm λ_ _=>rfl)
 split at c
 .rename_i e;subst e;cases c;exact se_bi (pe_callB (call_srtX o (by lia)) g d #[2] j #[1] #[1] h1 h2) imp_srt
 split at c
 .rename_i e;subst e;cases c;exact se_bi (pe_callTy call_dct g d #[2] j #[1] #[1] h1 h2) imp_dct
 cases c
end
def cT{d c:Type}{f:d->Option c}:∀{l:List d} {r:List c},Af (l.map f)=some r->r.length=l.length
 |[],_,h=>by cases h;rfl
 |a::l,r,h=>by
  rw[Y3]at h;cases e:f a with
  |none=>rw[e]at h;cases h
  |some b=>
   rw[e]at h;let⟨r',g,rfl⟩:=Ym.mp h;simp[cT g]
def c7{f:Str}(h:BL f=true):As (A5 f)=f/\A5 f<Ba:=by
 unfold BL at h;rw[Yk,Xh,Xh]at h;exact h
def qq(g:Zk T M d X sc N)(m:∀e b,ce e=some b->Good X (Ab M fu d) e b){f:Str}{b:E}(h:Cz T sc ce f es kws=some b)(p pos:Pos):Good X (Ab M fu d) (.Call (.Name f p) es kws pos) b:=by
 refine qI h λhc h=>qB h λZF o h=>qB h λYq r h=>?_;simp![Yk,WL,Wv]at hc;let⟨⟨⟨D,l⟩,A⟩,z⟩:=hc;let⟨h1,h2,G⟩:=gu D;have k:=cT o;cases a:T.kf.lookup f with
 |some q=>
  rw[a]at h;exact qN h
 |none=>
  rw[a]at h;refine qB h λq B h=>qI h λj h=>?_;let⟨c,i,F,nd⟩:=q;cases h;let⟨C,H,fd,Zl,dd,y,x,w,v,u,t,s⟩:=g.hC _ _ _ _ _ B;dsimp only at j ⊢;rw[<-k]at j ⊢;exact .plain (λn=>z8 x w t eZ s v u j z k (cT r) g.room (g.gl A) y h1 (bQ m l o n) (jA m r n) l) (λ_=>rfl) (λ_ _ _=>rfl) rfl
def n9{i g:Type}{f:Nat×i->Nat×g}(j:∀e,(f e).1=e.1){c:Nat}{b:g}:∀{l:List (Nat×i)},(l.map f).lookup c=some b ->∃a,(c,a)∈l/\b=(f (c,a)).2
 |[],h=>by cases h
 |(d,a)::l,h=>by
  rw[Y3,show f (d,a)=((f (d,a)).1,(f (d,a)).2)from rfl,XN,j]at h;cases q:c==d with
  |true=>
   rw[q]at h;cases h;cases eq_of_beq q;exact⟨a,Wt,rfl⟩
  |false=>
   rw[q]at h;let⟨a',h1,h2⟩:=n9 j h;exact⟨a',HA _ h1,h2⟩
def qF(q:Zk T M d X sc N)(r:∀e b,ce e=some b->Good X (Ab M fu d) e b)(O:Cj o=false)(G:Good X (Ab M fu d) o o'){b:E}(h:DJ T ce o' m ap cp es kws=some b):Good X (Ab M fu d) (.Call (.Attribute o m ap) es kws cp) b:=by
 refine qI h λhc h=>qB h λZF s h=>qB h λYq t h=>qB h λl H h=>qI h λK h=>?_;simp![Yk,WL,Xh]at hc;let⟨⟨⟨⟨L,j⟩,u⟩,a⟩,J⟩:=hc;let⟨h1,h2⟩:=c7 L;cases h;have p:=cT s;refine .plain (λn=>zt (CX:=XJ) (Wf:=λ_=>W0) (E0:=λ_ _ _=>False) (k:=2*d+2) (G.1 n) h2 h1 eZ (λc i pm g=>?_) u p (cT t) q.T9 (bQ r j s n) (jA r t n) j (xi (base_of O) j u a J)) (λ_=>rfl) (λ_ _ _=>rfl) rfl;let⟨⟨P,F,nd⟩,v,I⟩:=n9 (f:=λe:Nat×Nat×KF×Nat=>(e.1,e.2.1,Cf e.2.2.1 (es.length+1) (AM kws))) (λ_=>rfl) g;cases I;let⟨C,f,fd,Zl,dd,D,B,A,z,y,x,w⟩:=q.hT _ _ H _ _ _ _ v;refine⟨C,f,fd,F,nd,Zl,dd,D,B,A,z,y,?_,by rw[p],x,w⟩
 rw[p];exact XH.mp K _ v
def nU:∀{keys:List (Option Expr)} {ks:List Str},strKeys keys=some ks->ks.length=keys.length
 |[],_,e=>by cases e;rfl
 |k::r,ks,e=>by
  unfold strKeys at e;split at e
  .rename_i z;cases z
  .rename_i z;cases z
   let⟨m,a,rfl⟩:=Ym.mp e;simp[nU a]
  .cases e
def tz{f:Expr->Option E}(g:∀e e',f e=some e'->Good X (Ab M fu d) e e')(n:Nat):∀{keys:List (Option Expr)} {vs:List Expr} {ks:List Str} {ZF:List E},keys.length=vs.length->strKeys keys=some ks->Af (vs.map f)=some ZF->Vw X W0 (Jw (Ab M fu d) n) keys vs ks ZF
 |[],[],_,_,_,e,a=>by cases e;cases a;exact .nil
 |[],_::_,_,_,b,_,_=>by simp at b
 |_::_,[],_,_,b,_,_=>by simp at b
 |k::r,v::vs,ks,ZF,b,e,a=>by
  unfold strKeys at e;split at e
  .rename_i z;cases z
  .rename_i z;cases z
   let⟨m,i,rfl⟩:=Ym.mp e;rw[Y3]at a;cases c:f v with
   |none=>rw[c]at a;cases a
   |some v'=>
    rw[c]at a;let⟨j,h,rfl⟩:=Ym.mp (show(Af (vs.map f)).map (v' :: ·)=some ZF from a);exact .cons ((g _ _ c).1 n) (tz g n (by simpa using b) i h)
  .cases e
def bV(h:[a].any isStar=false):isStar a=false:=by simpa using h
def fW(h:BR b sc x=true):L2.Loc sc x/\(b=false->sc.names.lookup x=some .local):=by
 unfold BR at h;simp![Ut,Yk,Wv]at h;rcases h with h|⟨h1,h2⟩
 .exact ⟨.inl h,λ_=>h⟩
 .exact ⟨.inr h2,λe=>by rw[e]at h1;cases h1⟩
def eG(h:BP b sc N x=some i):N[i]?=some x/\BR b sc x=true:=by
 unfold BP at h;split at h
 .rename_i a;exact⟨ixOf_get h,a⟩
 .cases h
def ye(h:BP b sc N x=some i):N[i]?=some x/\L2.Loc sc x/\(b=false->sc.names.lookup x=some .local):=⟨(eG h).1,fW (eG h).2⟩
def Zk.TK(a:Zk T M d X sc N)(h:L2.Loc sc x):L2.Loc X.env.scope x:=by rw[a.XE];exact h
def Zk.fnX(a:Zk T M d X sc N)(c:b=true ->∀x,X.fn x=true){x:Str}(h:b=false->sc.names.lookup x=some .local):X.fn x=true\/X.env.scope.names.lookup x=some .local:=by
 rw[a.XE];cases b with
 |true=>exact .inl (c rfl x)
 |false=>exact .inr (h rfl)
def Zk.Vv(a:Zk T M d X sc N):X.N.Nodup:=by rw[a.hN];exact a.nd
def Zk.own(a:Zk T M d X sc N):PassesOwn (model X.prog X.w) X.A X.env X.xe:=by rw[a.xe];exact PassesOwn.never
def pG(f:Zk T M d X sc N){c:Scope}(g:∀x,BR b c x=true->L2.Loc X.env.scope x/\(X.fn x=true\/X.env.scope.names.lookup x=some .local)){t:Tg}(h:Bg b c N tg=some t):PG X tg (tG X.K t):=by
 unfold Bg at h;split at h
 .cases e:BP b c N ‹Str› with
  |none=>rw[e]at h;cases h
  |some i=>
   rw[e]at h;cases h;let⟨h1,h2⟩:=eG e;exact acX f.Vv (by rw[f.hN];exact h1) (g _ h2).1 (g _ h2).2
 .rename_i ts k p
  cases e:Af (ts.map (B1 b c N))with
  |none=>rw[e]at h;cases h
  |some is=>
   rw[e]at h;cases h;have all:∀(ts:List Expr) (is:List Nat),Af (ts.map (B1 b c N))=some is->PGs X ts (UR X.K is)/\(assignEach ts X.env).length=is.length/\(assignEach ts X.env).findIdx? (·.1)=none:=λts=>by
    induction ts with
    |nil=>intro is e;cases e;exact⟨sgs_nil,rfl,rfl⟩
    |cons a ts ih=>
     intro is e;rw[Y3]at e;cases j:B1 b c N a with
     |none=>rw[j]at e;cases e
     |some i=>
      rw[j]at e;simp![Af]at e;cases o:Af (ts.map (B1 b c N))with
      |none=>rw[o]at e;cases e
      |some n=>
       rw[o]at e;cases e;let⟨m,p2,l⟩:=ih n o;cases a<;>simp![B1,reduceCtorEq]at j
       let⟨h1,h2⟩:=eG j;refine⟨yi f.Vv (by rw[f.hN];exact h1) (g _ h2).1 (g _ h2).2 m,?_,?_⟩
       .show (assignEach ts X.env).length+1=_
        rw[p2];rfl
       .show List.findIdx? (·.1) ((false,_)::assignEach ts X.env)=none
        rw[List.findIdx?_cons];simp[l]
   let⟨m,p2,l⟩:=all ts is e;exact adE f.calm m p2 l
 .cases h
def eC(a:Zk T M d X sc N)(c:b=true ->∀x,X.fn x=true){t:Tg}(h:Bg b sc N tg=some t):PG X tg (tG X.K t):=pG a (λ_ z=>⟨a.TK (fW z).1,a.fnX c (fW z).2⟩) h
def aak{a:Shared}{c:Hp}{b:List Str}(h:BR true scope x=true):L2.Loc (Ai X J scope a c fp b).env.scope x/\((Ai X J scope a c fp b).fn x=true\/(Ai X J scope a c fp b).env.scope.names.lookup x=some .local):=by
 have e:(Ai X J scope a c fp b).env.scope.names.lookup x=_:=dA;simp![BR,Ut,Rh,Wv]at h;rcases h with h|h
 .rw [h]at e;exact⟨.inl e,.inr e⟩
 .rw [h]at e;exact⟨.inr e,.inl (Wv.mpr h)⟩
def aav(h:CT e'=true):Jo r e'=(λY g=>(r.ev e' Y g).bind λu g=>match u with
  |.Z1 xs=>Out.ok (Iter.seq xs) g
  |.xn _ xs=>Out.ok (Iter.seq xs) g
  |.ref n=>match g[n]? with
   |some (.S _)=>.ok (.S n) g
   |some (.ZV Z4)=>.ok (.ZV n) (g.set n (.Zu Z4))
   |some (.Zu _)=>.ok (.ZV n) g
   |_=>.ZZ
  |_=>.ZZ):=by
 cases e'<;>first|rfl|cases h
def qg(j:Zk T M d X sc N)(i:∀e e',f e=some e'->Good X (Ab M fu d) e e'){it:Expr}(h:C7 T sc f it=some Zv):(∀n,PI X tg it (tI X.K W0 (Jo (Jw (Ab M fu d) n) Zv))) /\∀x,foldedSetIterable it X.env x=pure x:=by
 have val:HJ f it=some Zv->(∀n,PI X tg it (tI X.K W0 (Jo (Jw (Ab M fu d) n) Zv))) /\∀x,foldedSetIterable it X.env x=pure x:=λh=>qI h λk h=>qB h λe' r h=>qI h λo h=>by
  cases h;have k:=aR k;exact⟨λn=>by rw[aav o];exact abg ((i it Zv r).1 n),λx=>by cases it<;>first|rfl|cases k⟩
 unfold C7 at h;cases hc:Cq it with
 |none=>rw[hc]at h;exact val h
 |some c=>
  rw[hc]at h;refine qE h (λl h=>?_) val;let⟨p,q,rfl⟩:=fR hc;let⟨n,es⟩:=c;have l:n = "range":=l;subst l;refine qI h λhc h=>?_;simp![Yk,WL,Wv]at hc;let⟨⟨h1,h2⟩,g⟩:=hc;have hm:=j.bt _ (U_.mp h1);cases es with
  |nil=>cases h
  |cons a es=>
   cases es with
   |nil=>
    refine qM h λa' m e=>?_;subst e;exact⟨λn=>zm (j.gl h2) hm ((i _ _ m).1 n) (star_ne (bV g)),λx=>rfl⟩
   |cons b es=>
    refine gp (show CI f .Yn (a::b::es)=some Zv from h) λa b a' b' t m s e=>?_;cases t;subst e;rw[Wq,Vk]at g;exact⟨λn=>aam (j.gl h2) hm ((i _ _ m).1 n) ((i _ _ s).1 n) (star_ne g.1) (star_ne (bV g.2)),λx=>rfl⟩
def cg(j:Zk T M d X sc N)(m:∀e e',f e=some e'->Good X (Ab M fu d) e e'){it:Expr}(h:Cn T sc f tg it=some Zv):(∀n,PI X tg it (tI X.K W0 (Jo (Jw (Ab M fu d) n) Zv))) /\∀x,foldedSetIterable it X.env x=pure x:=by
 unfold Cn at h;cases hc:Cq it with
 |none=>rw[hc]at h;exact qg j m h
 |some c=>
  rw[hc]at h;let⟨n,es⟩:=c;refine qE h (λg h=>?_) λh=>qE h (λg h=>?_) (qg j m)
  .obtain ⟨p,q,rfl⟩:=fR hc
   have g:n = "enumerate":=g;subst g;refine qI h λhc h=>gw h λa a' i o e=>?_;simp![Yk,WL,Wv]at hc;let⟨⟨⟨h1,h2⟩,l⟩,r⟩:=hc;have hm:=j.bt _ (U_.mp h1);have i:es=[a]:=i;subst i;subst e;cases tg with
   |Tuple ts k tp=>exact⟨λn=>aaW (j.gl h2) hm ((m _ _ o).1 n) (star_ne (bV l)),λx=>rfl⟩
   |_=>cases r
  .obtain ⟨p,q,rfl⟩:=fR hc
   have g:n = "zip":=g;subst g;refine qI h λhc h=>gp h λa b a' b' i o s e=>?_;simp![Yk,WL,Wv]at hc;let⟨⟨⟨h1,h2⟩,l⟩,r⟩:=hc;have hm:=j.bt _ (U_.mp h1);have i:es=[a,b]:=i;subst i;subst e;rw[Wq,Vk]at l;cases tg with
   |Tuple ts k tp=>exact⟨λn=>ab6 (j.gl h2) hm ((m _ _ o).1 n) ((m _ _ s).1 n) (star_ne l.1) (star_ne (bV l.2)),λx=>rfl⟩
   |_=>cases r
def wx(h:env.scope=sc):relabel scope env=Be scope sc:=by subst h;rfl
def Zk.comp(a:Zk T M d X sc N){b c:List Str}(f:(b++c).Nodup)(J:List (Addr×Obj))(e:Shared)(h:Hp)(g:List Addr):Zk T M d (Ai X J scope e h g (b++c)) (Be scope sc) (b++c):=
 ⟨a.hF,a.cs,a.bt,a.hK,a.hC,a.hT,a.hA,a.room,rfl,wx a.XE,f,a.calm,rfl⟩
def hG{f:Expr->Option E}(d:∀e e',f e=some e'->Good X C e e'):∀{es:List Expr} {ZF:List E},Af (es.map f)=some ZF ->∀n,PTs X es (Ay (Jw C n).ts ZF)
 |[],_,h=>λn=>by cases h;exact zU
 |a::es,ZF,h=>λn=>by
  rw[Y3]at h;cases c:f a with
  |none=>rw[c]at h;cases h
  |some a'=>
   rw[c]at h;simp![Af]at h;cases b:Af (es.map f)with
   |none=>rw[b]at h;cases h
   |some r'=>
    rw[b]at h;cases h;exact yP ((d a a' c).2.1 n) (hG d b n)
def qb(c:Zk T M d X sc N){f:Expr->Option E}(i:∀e e',f e=some e'->Good X (Ab M fu d) e e'):∀{gs:List Comprehension} {a:List (Tg×E×List E)},DM T sc N f gs=some a->A7 X (Ab M fu d) gs a
 |[],_,h=>by cases h;trivial
 |g::gs,a,h=>qI h λl h=>qB h λt j h=>qB h λit b h=>qB h λcs m h=>qM h λr' k e=>by
  subst e;exact⟨eq_of_beq l,eC c (λe=>by cases e) j,hG i m,(cg c i b).1,(cg c i b).2,qb c i k⟩
def xF(o:Zk T M d X sc N){a:List Str}(h:DC scope sc a (freeOf scope)=true)(q:Af ((freeOf scope).map (AV N))=some Zw):Xm X scope a (freeOf scope) Zw:=by
 unfold DC at h;simp![Yk,Wv,XH,Ut,bne_iff_ne,Xh]at h;let⟨⟨⟨⟨⟨⟨h1,h2⟩,w⟩,v⟩,u⟩,t⟩,s⟩:=h;refine⟨h1,λx b c=>(h2 x b).resolve_left λz=>z c,λx b c=>(w x b).resolve_left λz=>z c,λx b c=>?_,u,t,s,?_⟩
 .show X.env.scope.names.lookup x.1=_
  rw[o.XE];exact(v x b).resolve_left λz=>z c
 .have all:∀(l:List Str) (r:List Nat),Af (l.map (AV N))=some r->r.length=l.length /\∀(j:Nat) (x:Str) (i:Nat),l[j]?=some x->r[j]?=some i->N[i]?=some x:=λl=>by
   induction l with
   |nil=>intro r e;cases e;exact⟨rfl,λj x i e=>by simp at e⟩
   |cons y l ih=>
    intro r e;rw[Y3]at e;cases g:AV N y with
    |none=>rw[g]at e;cases e
    |some k=>
     rw[g]at e;simp![Af]at e;cases f:Af (l.map (AV N))with
     |none=>rw[f]at e;cases e
     |some r'=>
      rw[f]at e;cases e;let⟨p,p2⟩:=ih r' f;refine⟨by simp[p],λj x i n m=>?_⟩
      cases j with
      |zero=>simp at n m;subst n;subst m;exact ixOf_get g
      |succ j=>exact p2 j x i (by simpa using n) (by simpa using m)
  rw[o.hN];exact all _ _ q
def yx(a:Zk T M d X sc N)(h:FF T sc N x=some e'):Good X (Ab M fu d) (.Name x pos) e':=by
 refine qI h λg h=>qB h λk hk h=>?_;let⟨h1,h2,o⟩:=gu g;have L:(k=.local\/k=.cell\/k=.free)->(AV N x).map E.L=some e'->Good X (Ab M fu d) (.Name x pos) e':=λm h=>qM h λi j e=>by
  subst e;refine .plain (λn=>acz (by rw[a.hN];exact ixOf_get j) ?_ h1 h2) (λ_=>rfl) (λ_ _ _=>rfl) rfl
  show X.env.scope.names.lookup x=_\/_;rw[a.XE];rcases m with rfl|rfl|rfl
  .exact .inl hk
  .exact .inr (.inl hk)
  .exact .inr (.inr hk)
 cases k with
 |«local»=>exact L (.inl rfl) h
 |cell=>exact L (.inr (.inl rfl)) h
 |free=>exact L (.inr (.inr rfl)) h
 |globalImplicit=>
  refine qM h λu l e=>?_;subst e;let⟨v,val,f,c,b⟩:=a.cs x u l;exact .plain (λn=>dv (zD (a.gl hk) f c h1) b) (λ_=>rfl) (λ_ _ _=>rfl) rfl
 |globalExplicit=>exact qN h
def aaE{v:Const}{k:Nat}(h:GF v=some e'):Good X C (.Constant v k pos) e':=by
 cases v with
 |int i=>cases h;exact .plain (λn=>dv tS λ_ _=>rfl) (λ_=>rfl) (λ_ _ _=>rfl) rfl
 |bool b=>cases h;exact .plain (λn=>dv ade λ_ _=>rfl) (λ_=>rfl) (λ_ _ _=>rfl) rfl
 |none=>cases h;exact .plain (λn=>dv ab3 λ_ _=>rfl) (λ_=>rfl) (λ_ _ _=>rfl) rfl
 |str s=>cases h;exact .plain (λn=>dv tP λ_ _=>rfl) (λ_=>rfl) (λ_ _ _=>rfl) rfl
 |_=>exact qN h
section
variable(ok:Zk T M d X sc N)(ih:∀e e',ce e=some e'->Good X (Ab M fu d) e e')
include ok in
def yh(c:∀e e',ce e=some e'->Good X (Ab M fu d) e e'){b:Expr}{o:CmpOp}(h:FJ ce a o b=some e'):Good X (Ab M fu d) (.Compare a [o] [b] pos) e':=by
 refine qI h λUL h=>qB h λo' ho h=>qB h λa' g h=>qM h λb' f e=>?_;subst e;have hm:=qi (o:=o) (aR UL);refine⟨λn=>?_,λn=>?_,λh=>by cases h⟩
 .cases n with
  |zero=>exact PE.ZZ λ_ _=>rfl
  |succ n=>exact acs (C:=Ab M fu d) (cC ok ho) hm ((c _ _ g).1 n) ((c _ _ f).1 n)
 .cases n with
  |zero=>exact PT.ZZ λ_ _=>rfl
  |succ n=>
   cases n with
   |zero=>exact PT.ZZ λ_ _=>rfl
   |succ n=>exact ab4 (C:=Ab M fu d) (cC ok ho) hm ((c _ _ g).1 n) ((c _ _ f).1 n)
include ok in
def yQ(f:∀e e',ce e=some e'->Good X (Ab M fu d) e e'){b c:Expr}{o q:CmpOp}(h:FO ce a o q b c=some e'):Good X (Ab M fu d) (.Compare a [o,q] [b,c] pos) e':=by
 refine qI h λUL h=>qB h λo' ho h=>qB h λk g h=>qB h λa' j h=>qB h λb' i h=>qM h λc' hc e=>?_;subst e;have hm:=qi (o:=q) (aR UL);refine⟨λn=>?_,λn=>?_,λh=>by cases h⟩
 .cases n with
  |zero=>exact PE.ZZ λ_ _=>rfl
  |succ n=>exact yI (C:=Ab M fu d) (cC ok ho) (cC ok g) hm ((f _ _ j).1 n) ((f _ _ i).1 n) ((f _ _ hc).1 n)
 .cases n with
  |zero=>exact PT.ZZ λ_ _=>rfl
  |succ n=>
   cases n with
   |zero=>exact PT.ZZ λ_ _=>rfl
   |succ n=>exact yL (C:=Ab M fu d) (cC ok ho) (cC ok g) hm ((f _ _ j).1 n) ((f _ _ i).1 n) ((f _ _ hc).1 n)
include ok in
def zA(j:∀e e',ce e=some e'->Good X (Ab M fu d) e e'){f:List CmpOp}{g:List Expr}(h:Ga ce a f g=some e'):Good X (Ab M fu d) (.Compare a f g pos) e':=by
 cases f with
 |nil=>exact qN h
 |cons o f=>cases g with
  |nil=>exact qN h
  |cons b g=>cases f with
   |nil=>
    refine qI h λi h2=>?_;cases aX i;exact yh ok j h2
   |cons q f=>cases g with
    |nil=>exact qN h
    |cons c g=>
     refine qI h λi h2=>?_;rw[Yk]at i;cases aX i.1;cases aX i.2;exact yQ ok j h2
def aag(c:∀e e',ce e=some e'->Good X (Ab M fu d) e e'){o:BoolOp}(h:FV ce o es pos=some e'):Good X (Ab M fu d) (.BoolOp o es pos) e':=by
 cases es with
 |nil=>exact qN h
 |cons a es=>cases es with
  |nil=>
   let⟨g1,g2,g3⟩:=c _ _ h;have f:∀n,PW X (.BoolOp o [a] pos) (tT X.K W0 ((Jw (Ab M fu d) n).ts e')):=λn=>by
    cases o with
    |And=>exact yV (g2 n)
    |Or=>exact acP (g2 n)
   exact⟨λn=>abG (g1 n),λn=>(f n).pt,λ_ n=>f n⟩
  |cons b ZQ=>cases o with
   |And=>
    refine qB h λa' i h=>qM h λb' g e=>?_;subst e;have f:∀n,PW X (.BoolOp .And (a::b::ZQ) pos) (tT X.K W0 ((Jw (Ab M fu d) n).ts (.and a' b'))):=λn=>by
     cases n with
     |zero=>exactλj J s Y H Q I ⟨_,_,_,_,_,p⟩=>p.elim
     |succ n=>exact abt ((c _ _ i).2.1 n) ((c _ _ g).2.2 rfl n)
    refine⟨λn=>?_,λn=>(f n).pt,λ_ n=>f n⟩;cases n with
    |zero=>exact PE.ZZ λ_ _=>rfl
    |succ n=>exact aaO (C:=Ab M fu d) ((c _ _ i).1 n) ((c _ _ g).1 n)
   |Or=>
    refine qB h λa' i h=>qM h λb' g e=>?_;subst e;have f:∀n,PW X (.BoolOp .Or (a::b::ZQ) pos) (tT X.K W0 ((Jw (Ab M fu d) n).ts (.or a' b'))):=λn=>by
     cases n with
     |zero=>exactλj J s Y H Q I ⟨_,_,_,_,_,p⟩=>p.elim
     |succ n=>exact ac7 ((c _ _ i).2.1 n) ((c _ _ g).2.2 rfl n)
    refine⟨λn=>?_,λn=>(f n).pt,λ_ n=>f n⟩;cases n with
    |zero=>exact PE.ZZ λ_ _=>rfl
    |succ n=>exact adM (C:=Ab M fu d) ((c _ _ i).1 n) ((c _ _ g).1 n)
def abu(c:∀e e',ce e=some e'->Good X (Ab M fu d) e e'){o:UnaryOp}(h:HM ce o a=some e'):Good X (Ab M fu d) (.UnaryOp o a pos) e':=by
 cases o with
 |Not=>
  refine qM h λa' b e=>?_;subst e;refine⟨λn=>?_,λn=>?_,λh=>by cases h⟩
  .cases n with
   |zero=>exact PE.ZZ λ_ _=>rfl
   |succ n=>exact acp (C:=Ab M fu d) ((c _ _ b).1 n)
  .cases n with
   |zero=>exact PT.ZZ λ_ _=>rfl
   |succ n=>exact ack ((c _ _ b).2.1 n)
 |USub=>
  refine qM h λa' b e=>?_;subst e;exact .plain (λn=>aba ((c _ _ b).1 n)) (λ_=>rfl) (λ_ _ _=>rfl) rfl
 |_=>exact qN h
def aaD(h:Gy e=true):∃k p q,e = .UnaryOp .USub (.Constant (.int 1) k p) q:=by
 cases e with
 |UnaryOp o a q=>cases o with
  |USub=>cases a with
   |Constant v k p=>cases v with
    |int i=>cases eq_of_beq (show(i==1)=true from h);exact⟨k,p,q,rfl⟩
    |_=>cases h
   |_=>cases h
  |_=>cases h
 |_=>cases h
def rG{o:Option α}(h:Ec o=true):o=none:=by
 cases o with
 |none=>rfl
 |some _=>cases h
def sf(c:∀e e',ce e=some e'->Good X (Ab M fu d) e e'){a:Option Expr}{b:Option E}(h:El ce a=some b)(n:Nat):PO X a (CJ X.K W0 (Jm (Jw (Ab M fu d) n).ev b)):=by
 cases a with
 |none=>cases h;exact zZ
 |some l=>exact qM h λg f e=>by subst e;exact aad ((c _ _ f).1 n)
def aaB(l:X.A.units+2<cLine)(c:∀e e',ce e=some e'->Good X (Ab M fu d) e e'){s:Expr}(h:DV ce a s=some e'):Good X (Ab M fu d) (.Subscript a s pos) e':=by
 unfold DV at h;cases b:Cm s with
 |true=>
  rw[b]at h;cases s with
  |Slice lo hi st p=>cases st with
   |none=>
    refine qB h λa' f h=>qB h λk g h=>qM h λh' i e=>?_;subst e;exact .plain (λn=>ab9 ((c _ _ f).1 n) (sf c g n) (sf c i n)) (λ_=>rfl) (λ_ _ _=>rfl) rfl
   |some st=>
    refine qI h λhc h=>qM h λa' f e=>?_;subst e;rw[Yk,Yk]at hc;cases rG hc.1.1;cases rG hc.1.2;let⟨_,_,_,rfl⟩:=aaD hc.2;exact .plain (λn=>aa3 ((c _ _ f).1 n)) (λ_=>rfl) (λ_ _ _=>rfl) rfl
  |_=>exact qN h
 |false=>
  rw[b]at h;refine qB h λa' f h=>qM h λb' j e=>?_;subst e;exact .plain (λn=>abW () ((c _ _ f).1 n) ((c _ _ j).1 n) (wA b)) (λ_=>rfl) (λ_ _ _=>rfl) rfl
include ok in
def aa6(i:∀e e',ce e=some e'->Good X (Ab M fu d) e e'){f:Str}(m:sc.names.lookup f=some .globalImplicit)(j:X.mg f=none)(g:es.any isStar=false)(h:HP ce f es=some e'):Good X (Ab M fu d) (.Call (.Name f p) es [] pos) e':=by
 refine qB h λb c h=>qI h λl h=>qM h λZF k e=>?_;subst e;cases es with
 |nil=>cases l
 |cons a es=>
  unfold Fz at c;exact .plain (λn=>aaJ c ok.calm ok.room.units ok.room.gd (ok.gl m) j (bQ i g k n) g) (λ_=>rfl) (λ_ _ _=>rfl) rfl
include ok in
def aaz(l:∀e e',ce e=some e'->Good X (Ab M fu d) e e')(v:sc.names.lookup ("isinstance" : Str)=some .globalImplicit)(q:X.mg "isinstance" = none)(f:es.any isStar=false)(h:GK T sc ce es=some e'):Good X (Ab M fu d) (.Call (.Name "isinstance" p) es [] pos) e':=by
 cases es with
 |nil=>exact qN h
 |cons a es=>cases es with
  |nil=>exact qN h
  |cons t es=>
   refine qI h λr h1=>qB h1 λg m h2=>?_;cases aX r;refine qB h2 λtn o h=>qB h λty b h=>qB h λa' s h=>qI h λc u=>?_;let⟨p2,rfl⟩:=sF o;simp![Yk,Wv]at c;cases u;let⟨k,t2,j,i⟩:=y8 b;rw[Wq,Vk]at f;exact .plain (λn=>acM (by unfold Dz at b;revert b;(repeat' split)<;>(intro b;cases b)<;>rfl) k (ok.gl c.2) (ok.bt tn (U_.mp c.1)) t2 j i (ok.gl v) q ((l _ _ s).1 n) (star_ne f.1)) (λ_=>rfl) (λ_ _ _=>rfl) rfl
include ok in
def z6(a:∀e e',ce e=some e'->Good X (Ab M fu d) e e'){f:Str}(g:sc.names.lookup f=some .globalImplicit)(b:X.mg f=none)(c:es.any isStar=false)(h:Dg T sc ce f es=some e'):Good X (Ab M fu d) (.Call (.Name f p) es [] pos) e':=by
 refine qE h (λi h=>by subst i;exact aaz ok a g b c h) λh=>?_
 exact aa6 ok a g b c h
include ok in
def za(b:∀e e',ce e=some e'->Good X (Ab M fu d) e e'){f:Str}(h:GN T sc ce f es=some e'):Good X (Ab M fu d) (.Call (.Name f p) es [] pos) e':=by
 refine qI h λhc h=>?_;simp![Yk,WL,Wv]at hc;let⟨⟨t,c⟩,g⟩:=hc;let⟨h1,h2,u⟩:=gu t;cases hi:AV T.M f with
 |some i=>
  rw[hi]at h;refine qM h λZF s e=>?_;subst e;let⟨v,fd,ps,r,q,o,m,l⟩:=ok.hF i f (ixOf_get hi) h1;refine .plain (λn=>?_) (λ_=>rfl) (λ_ _ _=>rfl) rfl;cases es with
  |nil=>cases s;exact xP m eZ l ok.T9 (ok.gl g) r q o h1
  |cons a es=>
   have k:=c;rw[Wq,Vk]at k;exact zN m eZ l ok.T9 (ok.gl g) r q o h1 (bQ b c s n) (star_ne k.1 _) (cj k.2)
 |none=>
  rw[hi]at h;cases j:T.bt.contains f with
  |true=>
   have h:(match T.bt.contains f with|true=>Dg T sc ce f es|false=>Cz T sc ce f es [])=some e':=h
   rw[j]at h;exact z6 ok b g (ok.bt f (U_.mp j)) c h
  |false=>
   have h:(match T.bt.contains f with|true=>Dg T sc ce f es|false=>Cz T sc ce f es [])=some e':=h
   rw[j]at h;exact qq ok b h _ _
include ok in
def aby(i:∀e e',ce e=some e'->Good X (Ab M fu d) e e')(g:Cj o=false)(f:Good X (Ab M fu d) o o')(p:(ap.endLine==cp.line)=true)(l:es.any isStar=false)(h:HQ T ce o' m ap cp es=some e'):Good X (Ab M fu d) (.Call (.Attribute o m ap) es [] cp) e':=by
 refine qE h (λc h=>?_) λh=>?_
 .subst c
  refine gw h λa a' k j e=>?_;subst k;subst e;exact .plain (λn=>abm (f.1 n) ((i _ _ j).1 n) (base_of g _) p (star_ne (bV l))) (λ_=>rfl) (λ_ _ _=>rfl) rfl
 refine qE h (λc h=>?_) λh=>?_
 .subst c
  refine gw h λa a' k j e=>?_;subst k;subst e;exact .plain (λn=>acR (f.1 n) ((i _ _ j).1 n) (base_of g _) p (star_ne (bV l))) (λ_=>rfl) (λ_ _ _=>rfl) rfl
 refine qE h (λc q=>?_) λh=>?_
 .subst c
  cases es with
  |nil=>
   cases q;exact .plain (λn=>abi (f.1 n) (base_of g _) p) (λ_=>rfl) (λ_ _ _=>rfl) rfl
  |cons b es=>
   exact qN q
 refine qE h (λc h=>?_) λh=>?_
 .subst c
  refine qI h λr h=>?_;cases aX r;cases h;exact .plain (λn=>aa1 (f.1 n) (base_of g _) p) (λ_=>rfl) (λ_ _ _=>rfl) rfl
 refine qE h (λc h=>?_) λh=>?_
 .subst c
  refine gp h λa b a' b' k j s e=>?_;subst k;subst e;rw[Wq,Vk]at l;exact .plain (λn=>acx (by have:=ok.units;lia) (f.1 n) ((i _ _ j).1 n) ((i _ _ s).1 n) (base_of g _) p (star_ne l.1) (star_ne (bV l.2))) (λ_=>rfl) (λ_ _ _=>rfl) rfl
 exact qF ok i g f h
include ok in
def zz(a:∀e e',ce e=some e'->Good X (Ab M fu d) e e'){fn:Expr}(h:Gn T sc ce fn es kws pos=some e'):Good X (Ab M fu d) (.Call fn es kws pos) e':=by
 cases fn with
 |Name f p=>cases kws with
  |nil=>exact za ok a h
  |cons k kws=>exact qq ok a h _ _
 |Attribute o m ap=>
  refine qI h λb h=>qB h λo' ho h=>?_;have b:=aR b;cases kws with
  |nil=>
   refine qI h λhc h=>?_;rw[Yk]at hc;exact aby ok a b (a _ _ ho) hc.1 (aR hc.2) h
  |cons k kws=>exact qF ok a b (a _ _ ho) h
 |_=>exact qN h
def zS(c:∀e e',ce e=some e'->Good X (Ab M fu d) e e'){vs:List Expr}(h:Gs ce keys vs=some e'):Good X (Ab M fu d) (.Dict keys vs pos) e':=by
 cases keys with
 |nil=>
  refine qI h λf h=>?_;cases aX f;cases h;exact .plain (λn=>zC) (λ_=>rfl) (λ_ _ _=>rfl) rfl
 |cons i keys=>
  refine qB h λks b h=>qB h λZF g h=>qI h λhc h=>?_;simp![Yk,Wv,Xh]at hc;cases h;have a:=nU b;exact .plain (λn=>zO (tz c n (by rw[<-a];exact hc.1.1) b g) (λz=>nomatch z) (by rw[<-a];exact hc.1.2) hc.2) (λ_=>rfl) (λ_ _ _=>rfl) rfl
include ok in
def eI(f:∀e e',ce e=some e'->Good X (Ab M fu d) e e'){i:Expr->Option E}{g:Comprehension}
  (a:∀{j:Cx},Zk T M d j (Be scope sc) (ownOf (g::ZQ)++freeOf scope) ->∀e e',i e=some e'->Good j (Ab M fu d) e e') (h:Eb T sc ce N i g ZQ scope=some q) :
  ∃t Zv cs ZD Zw,q=(Zw,(t,Zv,cs)::ZD)/\Xm X scope (ownOf (g::ZQ)) (freeOf scope) Zw/\g.is_async=0/\(∀n,PI X g.target g.iter (tI X.K W0 (Jo (Jw (Ab M fu d) n) Zv)))/\(∀x,foldedSetIterable g.iter X.env x=pure x) /\
   ∀J s3 H3 fp,Zk T M d (Ai X J scope s3 H3 fp (ownOf (g::ZQ)++freeOf scope)) (Be scope sc) (ownOf (g::ZQ)++freeOf scope)/\PG (Ai X J scope s3 H3 fp (ownOf (g::ZQ)++freeOf scope)) g.target (tG X.K t)/\(∀n,PTs (Ai X J scope s3 H3 fp (ownOf (g::ZQ)++freeOf scope)) g.ifs (Ay (Jw (Ab M fu d) n).ts cs)) /\
    A7 (Ai X J scope s3 H3 fp (ownOf (g::ZQ)++freeOf scope)) (Ab M fu d) ZQ ZD:=by
 refine qI h λhc h=>qB h λZv b h=>qB h λt k h=>qB h λcs l h=>qB h λZD m h=>qM h λZw o e=>?_;rw[Yk,Wv]at hc;have Z5:=xF ok hc.1 o;refine⟨t,Zv,cs,ZD,Zw,e.symm,Z5,hc.2,(cg ok f b).1,(cg ok f b).2,λJ s3 H3 fp=>?_⟩;have c:=ok.comp (scope:=scope) Z5.nd J s3 H3 fp;exact⟨c,pG c (λ_=>aak) k,hG (a c) l,qb c (a c) m⟩
end
def aC:∀(m:Nat) {X:Cx} {sc:Scope} {N:List Str} (ok:Zk T M d X sc N) (e:Expr) (e':E),Ao T sc N m e=some e'->Good X (Ab M fu d) e e'
 |0,_,_,_,_,_,_,h=>by cases h
 |m+1,X,sc,N,ok,e,e',h=>by
  have ih:=aC m ok;cases e with
  |Name x p=>exact yx ok h
  |Constant v k p=>exact aaE h
  |BinOp a o b p=>
   refine qB h λo' ho h=>qB h λa' i h=>qM h λb' C e=>?_;subst e;exact .plain (λn=>x3 (zr ho) ((ih _ _ i).1 n) ((ih _ _ C).1 n)) (λ_=>rfl) (λ_ _ _=>rfl) rfl
  |Compare a os bs p=>exact zA ok ih h
  |BoolOp o es p=>exact aag ih h
  |UnaryOp o a p=>exact abu ih h
  |Tuple es k p=>
   refine qI h λj h=>qM h λa' i e=>?_;subst e;exact .plain (λn=>acA (bQ ih (aR j) i n)) (λ_=>rfl) (λ_ _ _=>rfl) rfl
  |List es p=>
   refine qI h λj h=>qM h λa' i e=>?_;subst e;exact .plain (λn=>acr (bQ ih (aR j) i n)) (λ_=>rfl) (λ_ _ _=>rfl) rfl
  |Subscript a s p=>exact aaB ok.units ih h
  |Call fn es kws cp=>exact zz ok ih h
  |Attribute o f p=>
   refine qB h λcs D h=>qB h λo' ho h=>qI h λr h=>?_;cases h;rw[Yk]at r;let⟨z,y⟩:=c7 r.1;exact .plain (λn=>abX ((ih _ _ ho).1 n) (base_of (aR r.2) _) y z (ok.hA.1 _ _ D)) (λ_=>rfl) (λ_ _ _=>rfl) rfl
  |Dict keys vs p=>exact zS ih h
  |ListComp elt gs scope p=>cases gs with
   |nil=>exact qN h
   |cons g ZQ=>
    refine qB h λq l h=>qM h λZh B e=>?_;subst e;let⟨t,Zv,cs,ZD,Zw,rfl,Z5,h1,h2,u,c⟩:=eI (fu:=fu) ok ih (λw=>aC m w) l;exact .plain (λn=>y2 ok.calm Z5 h1 (h2 n) u λJ s3 H3 fp=>⟨(c J s3 H3 fp).2.1,(c J s3 H3 fp).2.2.1,(c J s3 H3 fp).2.2.2,(aC m (c J s3 H3 fp).1 _ _ B).1⟩) (λ_=>rfl) (λ_ _ _=>rfl) rfl
  |DictComp G F gs scope p=>cases gs with
   |nil=>exact qN h
   |cons g ZQ=>
    refine qB h λq l h=>qB h λk' hk h=>qM h λv' A e=>?_;subst e;let⟨t,Zv,cs,ZD,Zw,rfl,Z5,h1,h2,u,c⟩:=eI (fu:=fu) ok ih (λw=>aC m w) l;exact .plain (λn=>yK ok.calm (by have:=ok.units;lia) Z5 h1 (h2 n) u λJ s3 H3 fp=>⟨(c J s3 H3 fp).2.1,(c J s3 H3 fp).2.2.1,(c J s3 H3 fp).2.2.2,(aC m (c J s3 H3 fp).1 _ _ hk).1,(aC m (c J s3 H3 fp).1 _ _ A).1⟩) (λ_=>rfl) (λ_ _ _=>rfl) rfl
  |_=>exact qN h
def vX(b:Zk T M d X sc N){m:Nat}{g:Comprehension}(h:Ao T sc N (m+1) (.ListComp elt (g::ZQ) scope pos)=some e'):
  ∃t Zv cs ZD Zh Zw,e'=.comp (ownOf (g::ZQ)).length Zw ((t,Zv,cs)::ZD) Zh/\Xm X scope (ownOf (g::ZQ)) (freeOf scope) Zw/\g.is_async=0/\(∀n,PI X g.target g.iter (tI X.K W0 (Jo (Jw (Ab M fu d) n) Zv)))/\(∀x,foldedSetIterable g.iter X.env x=pure x) /\
   ∀J s3 H3 fp,PG (Ai X J scope s3 H3 fp (ownOf (g::ZQ)++freeOf scope)) g.target (tG X.K t)/\(∀n,PTs (Ai X J scope s3 H3 fp (ownOf (g::ZQ)++freeOf scope)) g.ifs (Ay (Jw (Ab M fu d) n).ts cs)) /\
    A7 (Ai X J scope s3 H3 fp (ownOf (g::ZQ)++freeOf scope)) (Ab M fu d) ZQ ZD /\∀n,PE (Ai X J scope s3 H3 fp (ownOf (g::ZQ)++freeOf scope)) elt (tE X.K W0 ((Jw (Ab M fu d) n).ev Zh)):=by
 refine qB h λq c h=>qM h λZh f e=>?_;let⟨t,Zv,cs,ZD,Zw,rfl,Z5,h1,h2,i,a⟩:=eI (fu:=fu) b (aC m b) (λj=>aC m j) c;exact⟨t,Zv,cs,ZD,Zh,Zw,e.symm,Z5,h1,h2,i,λJ s3 H3 fp=>⟨(a J s3 H3 fp).2.1,(a J s3 H3 fp).2.2.1,(a J s3 H3 fp).2.2.2,(aC m (a J s3 H3 fp).1 _ _ f).1⟩⟩
def vN(c:Zk T M d X sc N){m:Nat}{f b:Expr}{g:Comprehension}(h:Ao T sc N (m+1) (.DictComp f b (g::ZQ) scope pos)=some e'):
  ∃t Zv cs ZD k' v' Zw,e'=.X6 (ownOf (g::ZQ)).length Zw ((t,Zv,cs)::ZD) k' v'/\Xm X scope (ownOf (g::ZQ)) (freeOf scope) Zw/\g.is_async=0/\(∀n,PI X g.target g.iter (tI X.K W0 (Jo (Jw (Ab M fu d) n) Zv)))/\(∀x,foldedSetIterable g.iter X.env x=pure x) /\
   ∀J s3 H3 fp,PG (Ai X J scope s3 H3 fp (ownOf (g::ZQ)++freeOf scope)) g.target (tG X.K t)/\(∀n,PTs (Ai X J scope s3 H3 fp (ownOf (g::ZQ)++freeOf scope)) g.ifs (Ay (Jw (Ab M fu d) n).ts cs)) /\
    A7 (Ai X J scope s3 H3 fp (ownOf (g::ZQ)++freeOf scope)) (Ab M fu d) ZQ ZD/\(∀n,PE (Ai X J scope s3 H3 fp (ownOf (g::ZQ)++freeOf scope)) f (tE X.K W0 ((Jw (Ab M fu d) n).ev k'))) /\∀n,PE (Ai X J scope s3 H3 fp (ownOf (g::ZQ)++freeOf scope)) b (tE X.K W0 ((Jw (Ab M fu d) n).ev v')):=by
 refine qB h λq j h=>qB h λk' hk h=>qM h λv' i e=>?_;let⟨t,Zv,cs,ZD,Zw,rfl,Z5,h1,h2,k,a⟩:=eI (fu:=fu) c (aC m c) (λl=>aC m l) j;exact⟨t,Zv,cs,ZD,k',v',Zw,e.symm,Z5,h1,h2,k,λJ s3 H3 fp=>⟨(a J s3 H3 fp).2.1,(a J s3 H3 fp).2.2.1,(a J s3 H3 fp).2.2.2,(aC m (a J s3 H3 fp).1 _ _ hk).1,(aC m (a J s3 H3 fp).1 _ _ i).1⟩⟩
end
section
variable{T:Tab}{M:List Fn}
def om{t:Option Expr}{l:Nat}(h:BM e=false):swapsWith e t l env=pure false:=by
 cases e<;>first|rfl|cases h
def vG{t:Expr}{l:Nat}(h:BM e=false):swapsWithSole [t] e l env=pure false:=by
 cases e<;>first|rfl|cases h
def nL{k:Nat}{l:Nat}:swapsWithSole [.Tuple ts k p] e l env=pure false:=by
 cases e<;>rfl
def bI{f:Stmt->Option Z5}(e:∀s s',f s=some s' ->∀n,PS X s (Zq X.K W0 (Jr (Jw (Ab M fu d) n) s'))):∀{ss:List Stmt} {a:List Z5},Af (ss.map f)=some a ->∀n,PSs X ss (Zq X.K W0 ((Jw (Ab M fu d) n).ex a))
 |[],_,h=>λn=>by
  cases h;cases n with
  |zero=>exact PSs.ZZ λ_ _=>rfl
  |succ n=>exact acg (r:=Jw (Ab M fu d) n)
 |s::ss,a,h=>λn=>by
  rw[Y3]at h;cases c:f s with
  |none=>rw[c]at h;cases h
  |some s'=>
   rw[c]at h;simp![Af]at h;cases b:Af (ss.map f)with
   |none=>rw[b]at h;cases h
   |some r'=>
    rw[b]at h;cases h;cases n with
    |zero=>exact PSs.ZZ λ_ _=>rfl
    |succ n=>exact zh (e s s' c n) (bI e b n)
def vV{c g:Pos}{b:Expr}{d:Nat}(f:foldedForSure 8 a=true)(e:foldedForSure 8 b=true):swappedStores [.Tuple ts kt c] (.Tuple [a,b] d g) env=pure none:=by
 have h:[a,b].all (foldedForSure 8)=true:=by simp[f,e]
 delta swappedStores;dsimp only;rw[if_pos h,ite_self,ite_self,ite_self]
def wo{c e g v:Pos}{b:Expr}{n:Nat}(j:Zk T M d X sc N)(p:X.env.blockKind=.function)(h:Cu sc x y c e a b=true):
  swappedStores [.Tuple [.Name x c,.Name y e] kt g] (.Tuple [a,b] n v) X.env=pure (some [x,y]):=by
 unfold Cu at h;simp![Yk,WL,Wv]at h;let⟨⟨⟨⟨⟨⟨⟨h1,h2⟩,u⟩,k⟩,t⟩,s⟩,r⟩,q⟩:=h;have m:X.env.kindOf x=some .local:=by show X.env.scope.names.lookup x=_;rw[j.XE];exact h1
 have l:X.env.kindOf y=some .local:=by show X.env.scope.names.lookup y=_;rw[j.XE];exact h2
 have nd:[x,y].eraseDups.length=2:=by
  have : ¬ (y==x)=true:=by intro z;rw[Wv]at z;subst z;simp at u
  simp[List.eraseDups_cons,this]
 have i:∀z:Expr,isStar z=false->¬((match z with|.Starred value pos=>true|x=>false)=true):=λz o=>by cases z<;>first|exact Hy|cases o
 have n:∀f:Expr->Option Str,f (.Name x c)=some x->f (.Name y e)=some y->List.filterMap f [.Name x c,.Name y e]=[x,y]:=λf a b=>by rw[List.filterMap_cons_some a,List.filterMap_cons_some b];rfl
 delta swappedStores;dsimp only;rw[n]
 .refine (Xp (by rw[p];exact Hy)).trans ((Xp λz=>?_).trans ((Xp (by rw[nd];exact Hy)).trans ((Xp ?_).trans ((Xp ?_).trans rfl))))
  .obtain ⟨w,hw,e⟩:=List.any_eq_true.mp z
   rcases List.mem_cons.mp hw with rfl|hw
   .exact i _ t e
   .rcases List.mem_cons.mp hw with rfl|hw
    .exact i _ s e
    .cases hw
  .show¬(foldedForSure 8 a&&(foldedForSure 8 b&&true))=true;rw[Bool.and_true,r];exact Hy
  .show¬(constantsAlone 8 a&&(constantsAlone 8 b&&true))=true;rw[Bool.and_true,q];exact Hy
 .exact if_pos (by rw[m];show (true&&(c.line==c.line))=true;rw[beq_self_eq_true];rfl)
 .exact if_pos (by rw[l];show (true&&(e.line==c.line))=true;rw[k,beq_self_eq_true];rfl)
def wj{i:Expr}{Yd:Pos}(h:Cm i=false)(v:Value):assign (.Subscript o i Yd) env v=(do
   let ov<-holding [v] (eval o env)
   let iv<-holding [v,ov] (eval i env)
   standAt Yd
   holding [v,ov,iv] (setItem ov iv v)
   release [v,ov,iv] []):=by
 cases i<;>first|rfl|cases h
def qK{l:List α}{p:α×α}(h:DI l=some p):l=[p.1,p.2]:=by
 cases l with
 |nil=>cases h
 |cons a l=>cases l with
  |nil=>cases h
  |cons b l=>cases l with
   |nil=>cases h;rfl
   |cons _ _=>cases h
def eS{x:Str×Pos}(h:HS e=some x):e = .Name x.1 x.2:=by
 cases e with
 |Name y p=>cases h;rfl
 |_=>cases h
def z7{q:List Expr×Nat×Pos}(h:Gf e=some q):e = .Tuple q.1 q.2.1 q.2.2:=by
 cases e with
 |Tuple es k p=>cases h;rfl
 |_=>cases h
section
variable{cE:Expr->Option E}
def wQ(b:Zk T M d X sc N)(A:X.env.blockKind=.function)(D:∀x,X.fn x=true)(k:∀e e',cE e=some e'->Good X (Ab M fu d) e e'){m:Pos}{e:Expr}(h:CS T sc N cE ts kt m e=some Zb)(n:Nat):PS X (.Assign [.Tuple ts kt m] e pos) (Zq X.K W0 (Jr (Jw (Ab M fu d) n) Zb)):=by
 refine qB h λq z h=>qB h λt f h=>qB h λx w h=>qB h λy v h=>qB h λa C h=>?_;cases z7 z;cases qK f;rw[eS w,eS v]at h ⊢;rw[qK C]at h ⊢;cases c:Cu sc x.1 y.1 x.2 y.2 a.1 a.2 with
 |true=>
  rw[c]at h;refine qB h λi hi h=>qB h λj p h=>qB h λa' h1 h=>qM h λb' h2 e=>?_;subst e;have l:=c;unfold Cu at l;simp![Yk,WL,Wv]at l;let⟨⟨⟨⟨⟨⟨⟨u,p2⟩,o⟩,H⟩,s⟩,r⟩,G⟩,F⟩:=l;refine aaH b.calm b.Vv (by rw[b.hN];exact ixOf_get hi) (by rw[b.hN];exact ixOf_get p) ?_ (by rw[b.XE];exact u) (by rw[b.XE];exact p2) ((k _ _ h1).1 n) ((k _ _ h2).1 n) (star_ne s) (star_ne r) (wo b A c)
  intro E;subst E;have:=(ixOf_get hi).symm.trans (ixOf_get p);rw[X9 this]at o;simp at o
 |false=>
  rw[c]at h;refine qI h λg h=>qB h λt f h=>qM h λe' B e=>?_;subst e;rw[Yk]at g;exact su ((k _ _ B).1 n) (eC b (λ_=>D) f) nL (vV g.1 g.2) rfl
end
def w9(a:Zk T M d X sc N)(z:X.env.blockKind=.function)(A:∀x,X.fn x=true){m:Nat}{x:Str}{c:Pos}(h:Fv sc N (Ao T sc N m) x c e=some Zb)(n:Nat):PS X (.Assign [.Name x c] e pos) (Zq X.K W0 (Jr (Jw (Ab M fu d) n) Zb)):=by
 refine qI h λhc h=>qB h λi hi h=>qM h λe' l e=>?_;subst e;let⟨h1,h2,D⟩:=ye hi;have plain:BM e=false->PS X (.Assign [.Name x c] e pos) (Zq X.K W0 (Jr (Jw (Ab M fu d) n) (.set (.nm i) e'))):=λhc=>aaL a.Vv (by rw[a.hN];exact h1) (a.TK h2) (.inl (A _)) ((aC m a _ _ l).1 n) (om hc)
 cases e with
 |ListComp elt gs scope p=>cases gs with
  |nil=>cases hc
  |cons g ZQ=>
   have j:CD sc x c scope p=true:=hc;cases m with
   |zero=>cases l
   |succ m=>
    let⟨t,Zv,cs,ZD,Zh,Zw,rfl,y,u,w,v,b⟩:=vX a l;unfold CD at j;rw[Yk,Yk,Wv,Wv]at j;let⟨⟨s,r⟩,q⟩:=j;have o:X.env.scope.names.lookup x=some .local:=by rw[a.XE];exact s
    have f:X.env.kindOf x=some .local:=o;cases n with
    |zero=>exact PS.ZZ λ_ _=>rfl
    |succ n=>
     refine wU a.calm y u (w n) v b a.Vv (by rw[a.hN];exact h1) o ?_
     show(pure (X.env.blockKind==.function&&X.env.kindOf x==some .local&&c.line==p.line&&!(scope.names.any λ(n,k)=>n==x&&(k==.local||k==.cell))):Sem Bool)=pure true;rw[z,f,r,q];simp
 |DictComp C B gs scope p=>cases gs with
  |nil=>cases hc
  |cons g ZQ=>
   have j:CD sc x c scope p=true:=hc;cases m with
   |zero=>cases l
   |succ m=>
    let⟨t,Zv,cs,ZD,k',v',Zw,rfl,y,u,w,v,b⟩:=vN a l;unfold CD at j;rw[Yk,Yk,Wv,Wv]at j;let⟨⟨s,r⟩,q⟩:=j;have o:X.env.scope.names.lookup x=some .local:=by rw[a.XE];exact s
    have f:X.env.kindOf x=some .local:=o;cases n with
    |zero=>exact PS.ZZ λ_ _=>rfl
    |succ n=>
     refine wI a.calm (by have:=a.units;lia) y u (w n) v b a.Vv (by rw[a.hN];exact h1) o ?_
     show(pure (X.env.blockKind==.function&&X.env.kindOf x==some .local&&c.line==p.line&&!(scope.names.any λ(n,k)=>n==x&&(k==.local||k==.cell))):Sem Bool)=pure true;rw[z,f,r,q];simp
 |_=>exact plain (aR hc)
def wq(b:Zk T M d X sc N)(j:X.env.blockKind=.function)(g:∀x,X.fn x=true){m:Nat}{t:Expr}(h:Fh T sc N (Ao T sc N m) t e=some Zb)(n:Nat):PS X (.Assign [t] e pos) (Zq X.K W0 (Jr (Jw (Ab M fu d) n) Zb)):=by
 have a:=aC (fu:=fu) m b;cases t with
 |Name x y=>exact w9 b j g h n
 |Tuple ts k p=>
  cases hc:BZ e with
  |true=>
   have h:(match BZ e with|true=>CS T sc N (Ao T sc N m) ts k p e|false=>(Bg true sc N (.Tuple ts k p)).bind λt=>(Ao T sc N m e).map (Z5.set t))=some Zb:=h
   rw[hc]at h;exact wQ b j g a h n
  |false=>
   have h:(match BZ e with|true=>CS T sc N (Ao T sc N m) ts k p e|false=>(Bg true sc N (.Tuple ts k p)).bind λt=>(Ao T sc N m e).map (Z5.set t))=some Zb:=h
   rw[hc]at h;refine qB h λt s h=>qM h λe' c v=>?_;subst v;refine su ((a _ _ c).1 n) (eC b (λ_=>g) s) nL ?_ rfl;revert hc;cases e<;>first|exactλ_=>rfl|exactλh2=>nomatch h2
 |Subscript o i p=>
  refine qI h λhc h=>qB h λo' ho h=>qB h λz hi h=>qM h λe' c e=>?_;subst e;rw[Yk]at hc;exact aaM (by have:=b.units;omega) ((a _ _ c).1 n) ((a _ _ ho).1 n) ((a _ _ hi).1 n) (vG (aR hc.2)) rfl (wj (aR hc.1))
 |Attribute o f p=>
  refine qB h λx r h=>qB h λcs w h=>qB h λo' ho h=>qB h λe' c h=>qI h λu h=>?_;cases h;cases eS r;let⟨q,l⟩:=c7 u;exact zI ((a _ _ ho).1 n) ((a _ _ c).1 n) (by unfold swapsWith;cases e<;>rfl) l q (b.hA.1 _ _ w)
 |_=>exact qN h
def wH(c:Zk T M d X sc N){m:Nat}{t:Expr}{a:Operator}(h:Fo T (Ao T sc N m) t a e=some Zb)(n:Nat):PS X (.AugAssign t a e pos) (Zq X.K W0 (Jr (Jw (Ab M fu d) n) Zb)):=by
 have g:=aC (fu:=fu) m c;cases t with
 |Attribute o f p=>
  refine qB h λq b h=>?_;cases a with
  |Add=>
   cases b;refine qB h λx s h=>qB h λcs y h=>qB h λo' ho h=>qB h λi hi h=>qB h λe' w h=>qB h λk hk h=>qI h λv h=>?_;cases h;cases eS s;let⟨r,l⟩:=c7 v;cases o' with
   |L j=>
    cases hi;cases e' with
    |Z3 u=>
     cases u with
     |int z=>
      cases hk;exact aac (λn=>(g _ _ ho).1 n) (λn=>(g _ _ w).1 n) l r (c.hA.1 _ _ y) n
     |_=>cases hk
    |_=>cases hk
   |_=>cases hi
  |Sub=>cases b;cases h
  |_=>cases b
 |_=>exact qN h
def qu(g:Zk T M d X sc N)(v:X.env.blockKind=.function)(q:∀x,X.fn x=true):∀m st Zb,Bp T sc N m st=some Zb ->∀n,PS X st (Zq X.K W0 (Jr (Jw (Ab M fu d) n) Zb))
 |0,_,_,h=>by cases h
 |m+1,st,Zb,h=>λn=>by
  have ih:=qu g v q m;have k:=aC (fu:=fu) m g;cases st with
  |Return o p=>cases o with
   |none=>exact qN h
   |some e=>exact qM h λa' l e=>by subst e;exact ab1 ((k _ _ l).1 n)
  |Assign ts e p=>cases ts with
   |nil=>exact qN h
   |cons t r=>
    refine qI h λi h=>?_;cases aX i;exact wq g v q h n
  |AugAssign t op e p=>exact wH g h n
  |Expr e p=>
   have h:(match DO e with|true=>some Z5.never|false=>HH (!BM e) ((Ao T sc N m e).map .exp))=some Zb:=h
   cases s:DO e with
   |true=>rw[s]at h;cases h;exact PS.ZZ λ_ _=>rfl
   |false=>rw[s]at h;exact qI h λhc h=>qM h λa' l e=>by subst e;exact aaS ((k _ _ l).1 n) (om (aR hc))
  |If c a b p=>exact qB h λc' hc h=>qB h λa' l h=>qM h λb' j e=>by subst e;exact adB ((k _ _ hc).2.1 n) (bI ih l n) (bI ih j n)
  |While c b o p=>
   refine qI h λi h=>qB h λc' hc h=>qM h λb' j e=>?_;subst e;cases aX i;exact aco g.own (λn=>(k _ _ hc).2.1 n) (λn=>bI ih j n)
  |For tg it b o p=>
   refine qI h λi h=>qB h λt w h=>qB h λZv hi h=>qM h λb' j e=>?_;subst e;cases aX i;exact yw (λn=>acI g.own g.calm ((cg g k hi).1 n) (eC g (λ_=>q) w) (λn=>bI ih j n) (cg (fu:=fu) g k hi).2) n
  |Try b u o f p=>
   cases u with
   |nil=>exact qN h
   |cons h0 u=>
    refine qI h λi h=>qM h λb' j e=>?_;subst e;rw[Yk]at i;cases aX i.1;cases aX i.2;exact aaF g.xe (bI ih j n)
  |Raise a b p=>cases h;exact PS.ZZ λ_ _=>rfl
  |_=>exact qN h
end
set_option genInjectivity false in
structure FI where
 x:Str
 st:Stmt
 N:List Str
 ps:List Str
 cm:Option (Str×Str)
 kf:Option (KF×Nat)
structure T7(K:HF)(x qual:Str)(st:Stmt)(f:Addr)(fd:FuncData):Prop where
 ex:∃(JY:Value) (od:Option Addr) (dV Ie doc pm:Value) (an:Option Addr) (YI ct:Value) (V4:Array (Option Value)),
  fd=PySem.W.fnOf x qual (Ci st) (Ck st) (Bf st) dV Ie doc pm an YI ct/\K.lookup f=some ⟨JY,od,.func fd,V4⟩/\PySem.W.codeIn K YI qual=true
 kp:PySem.W.keepIn K (.ref f)=true
variable{o:Option Shared}{a:Addr}{v:Value}{is:List Inf}
noncomputable def FI.nm(fi:FI):Str:=match fi.cm with|none=>fi.x|some c=>c.2
noncomputable def FI.tn(fi:FI):Str:=if fi.cm.isSome||fi.kf.isSome then "__debug__" else fi.x
def FAt(K:HF)(a:Str->Option Value)(fi:FI)(f:Addr):Prop:=match fi.cm with
 |none=>a fi.x=some (.ref f)
 |some c=>∃C,a c.1=some (.ref C)/\PySem.W.nsIn K mainGlobals c.1=some (some (.ref C))/\Yy K C/\U3 K C c.2 f/\(c.2 = "__init__" -> Mk K C f)
structure FOk(T:Tab)(K:HF)(mg:Str->Option Value)(fi:FI)(F:Fn):Prop where
 sc:Uu fi.N fi.ps (Bf fi.st)
 np:F.np=fi.ps.length
 ns:F.ns=fi.N.length
 body:∃m,Af ((Ck fi.st).map (Bp T (Bf fi.st) fi.N m))=some F.body
 obj:∃f fd,FAt K mg fi f/\T7 K fi.nm fi.x fi.st f fd/\(fi.kf=none->Binds K fd fi.ps []) /\∀F nd,fi.kf=some (F,nd)->fi.ps=F.ns++F.ks/\F.ns++F.ks≠[] /\∃Zl dd,Xq K fd F nd Zl dd
def AllOk(T:Tab)(K:HF)(a:Str->Option Value):List FI->List Fn->Prop
 |[],[]=>True
 |fi::r,F::s=>FOk T K a fi F/\AllOk T K a r s
 |_,_=>False
section
variable{T:Tab}{P:Program}
def AllOk.get:∀{a:List FI} {M:List Fn} {i:Nat} {fi:FI},AllOk T K mg a M->a[i]?=some fi ->∃F,M[i]?=some F/\FOk T K mg fi F
 |[],_,_,_,_,e=>by simp at e
 |_::_,[],_,_,h,_=>False.elim h
 |_::_,F::_,0,_,h,e=>by simp at e;subst e;exact⟨F,rfl,h.1⟩
 |_::r,_::s,i+1,fi,h,e=>by
  let⟨F,c,b⟩:=AllOk.get (i:=i) (fi:=fi) h.2 (by simpa using e)
  exact⟨F,by simpa using c,b⟩
structure TJ(T:Tab)(K:HF)(mg:Str->Option Value)(Y1:List FI)(M:List Fn):Prop where
 names:T.M=Y1.map FI.tn
 all:AllOk T K mg Y1 M
 cs:∀x u,T.cs.lookup x=some u ->∃v val,mg x=some val/\RelV v val /\∀ρ H,RV K ρ H u v
 bt:∀x∈T.bt,mg x=none
 kfs:∀(y:Str) (i:Nat) (F:KF) (nd:Nat),T.kf.lookup y=some (i,F,nd) ->∃fi,Y1[i]?=some fi/\fi.x=y/\fi.cm=none/\fi.kf=some (F,nd)
 cls:∀(y:Str) (c i:Nat) (F:KF) (nd:Nat),T.cl.lookup y=some (c,i,F,nd)->As c=y /\∃fi,Y1[i]?=some fi/\fi.cm=some (y,("__init__" : Str))/\fi.kf=some (F,nd)
 mts:∀(m:Str) (l:List (Nat×Nat×KF×Nat)),T.mt.lookup m=some l ->∀c i F nd,(c,i,F,nd)∈l ->∃fi,Y1[i]?=some fi/\fi.cm=some (As c,m)/\fi.kf=some (F,nd)
 fls:(∀(f:Str) (cs:List Nat),T.fl.lookup f=some cs->Cd K f cs) /\∀p∈T.ow,∃C,mg p.1=some (.ref C)/\PySem.W.nsIn K mainGlobals (As p.2)=some (some (.ref C))/\Yy K C/\T_ K C
def xZ(hn:n=N.length)(h:RVs K ρ H O vs)(hl:O.length<=N.length):RS K ρ H (O.map some++List.replicate (n-O.length) none) (L2.start N vs) where
 len:=by unfold L2.start;simp[h.length,hn]
 val:=λi u e=>by
  subst hn;unfold L2.start;by_cases hi:i<O.length
  .rw [XD (by simpa using hi),Y0]at e
   rw[XD (by rw[Yj,<-h.length];exact hi),Y0]
   cases eu:O[i]? with
   |none=>rw[eu]at e;cases e
   |some w=>
    rw[eu]at e;cases e;let⟨v,e1,e2⟩:=h.get eu;exact⟨v,by rw[e1];rfl,e2⟩
  .rw [Xf (by simpa using hi),Sk]at e
   split at e<;>cases e
def acv(h:env.scope.kind=.function):env.blockKind=.function:=by
 unfold Env.blockKind;rw[h]
 rfl
def zd{o:Out Fl}(p:post K W (RV K) (o.bind λf g=>match f with|.rt u=>.ok u g|.nx _=>.ok .ZN g|_=>.ZZ) ρ H Q):Jy K W o ρ H {nx:=λ_ H'=>Q .ZN H',rt:=Q}:=by
 revert p;cases o with
 |ok fl g1=>
  cases fl with
  |nx a=>exactλp Y ZT H' s h b=>p .ZN ZT H' s h rfl
  |rt u=>exactλp=>p
  |bk a=>exactλp=>p.elim
  |ct a=>exactλp=>p.elim
 |exc c fs g1=>exactλp=>p
 |ZZ=>exactλp=>p
def sr{X:List FI}{M:List Fn}(G:TJ T K mg X M):∀(d i:Nat) (fi:FI),X[i]?=some fi ->∀f fd,T7 K fi.nm fi.x fi.st f fd->YL P w K mg base XJ (2*d+2) f fd fi.ps (WZ K M d i fi.ps.length)
 |0,i,fi,_,f,fd,_=>⟨λvs H Q E ⟨_,ρ,g,O,_,_,_,p⟩=>p.elim,λA n s H args O vs Q E _ _ _ _ ⟨_,ρ,g,O,_,_,_,p⟩=>p.elim⟩
 |d+1,i,fi,hi,f,fd,F=>by
  let⟨Fi,ei,Z6⟩:=G.all.get hi;let⟨m,hb⟩:=Z6.body;have YK:fi.ps.length<=fi.N.length:=by have:=V2 List.length Z6.sc.pre;rw[Vl]at this;lia
  have b:∀j a,X[j]?=some a ->∃f fd,FAt K mg a f/\PySem.W.keepIn K (.ref f)=true/\(a.kf=none->Binds K fd a.ps [])/\(∀F nd,a.kf=some (F,nd)->a.ps=F.ns++F.ks/\F.ns++F.ks≠[] /\∃Zl dd,Xq K fd F nd Zl dd)/\YL P w K mg base XJ (2*d+2) f fd a.ps (WZ K M d j a.ps.length) /\∀F,M[j]?=some F->F.np=a.ps.length:=λj a q=>by
   let⟨Fj,ej',Oj⟩:=G.all.get q;let⟨f',r,m1,v,D,u⟩:=Oj.obj;exact⟨f',r,m1,v.kp,D,u,sr G d j a q f' r v,λI e=>by rw[ej']at e;cases e;exact Oj.np⟩
  have Td:∀j x,T.M[j]?=some x->(x==("__debug__" : Str))=false ->∃f fd a,FI.x a=x/\mg x=some (.ref f)/\PySem.W.keepIn K (.ref f)=true/\Binds K fd a.ps []/\YL P w K mg base XJ (2*d+2) f fd a.ps (WZ K M d j a.ps.length) /\∀F,M[j]?=some F->F.np=a.ps.length:=λj x o V=>by
   rw[G.names,Y0]at o;cases q:X[j]? with
   |none=>rw[q]at o;cases o
   |some a=>
    rw[q]at o;have o:a.tn=x:=by simpa using o
    unfold FI.tn at o;let⟨f',r,m1,v,D,u,t,B⟩:=b j a q;cases hc:a.cm with
    |some c=>rw[hc]at o;subst o;cases V
    |none=>
     cases hk:a.kf with
     |some c=>rw[hc,hk]at o;subst o;cases V
     |none=>
      rw[hc,hk]at o;have o:a.x=x:=o;subst o;have Vt:mg a.x=some (.ref f'):=by unfold FAt at m1;rw[hc]at m1;exact m1
      exact⟨f',r,a,rfl,Vt,v,D hk,t,B⟩
  have Y:∀(CX:X4) U A n s H E,Za (2*d+3) (A.deeper (envOfC fi.x (Bf fi.st) s.heap.objs.size f U))->Zk T M d (B9 CX P w K mg base fi.N fi.x (Bf fi.st) f U A n s H E).nox (Bf fi.st) fi.N:=λCX U A n s H E hr=>by
   refine⟨λj x o V=>?_,G.cs,G.bt,λy j F nd Z=>?_,λy c j F nd Z=>?_,λmm l J c j F nd WX=>?_,G.fls,hr,rfl,rfl,Z6.sc.nd,rfl,rfl⟩
   .obtain ⟨f',r,a,_,a1,a2,a3,a4,a5⟩:=Td j x o V
    exact⟨f',r,a.ps,a1,a2,a3,a4,a5⟩
   .obtain ⟨a,q,rfl,hc,hk⟩:=G.kfs y j F nd Z
    let⟨f',r,m1,v,D,u,t,B⟩:=b j a q;let⟨z,S,Zl,dd,R⟩:=u F nd hk;have Vt:mg a.x=some (.ref f'):=by unfold FAt at m1;rw[hc]at m1;exact m1
    rw[z]at t;exact⟨f',r,Zl,dd,Vt,v,R,S,t,λI e=>by rw[B I e,z]⟩
   .obtain ⟨hn,a,q,hc,hk⟩:=G.cls y c j F nd Z
    let⟨f',r,m1,v,D,u,t,B⟩:=b j a q;let⟨z,S,Zl,dd,R⟩:=u F nd hk;unfold FAt at m1;rw[hc]at m1;let⟨C,c1,c2,c3,c4,c5⟩:=m1;rw[z]at t;exact⟨C,f',r,Zl,dd,c1,c5 rfl,by rw[hn];exact c2,R,S,t,λI e=>by rw[B I e,z]⟩
   .obtain ⟨a,q,hc,hk⟩:=G.mts mm l J c j F nd WX
    let⟨f',r,m1,v,D,u,t,B⟩:=b j a q;let⟨z,S,Zl,dd,R⟩:=u F nd hk;unfold FAt at m1;rw[hc]at m1;let⟨C,c1,c2,c3,c4,c5⟩:=m1;rw[z]at t;exact⟨C,f',r,Zl,dd,c2,c3,c4,R,S,t,λI e=>by rw[B I e,z]⟩
  have L:YL P w K mg base XJ (2*(d+1)+2) f fd fi.ps (WZ K M (d+1) i fi.ps.length):=by
   let⟨JY,od,dV,Ie,doc,pm,an,U,ct,V4,rfl,lk,Xa⟩:=F.ex;refine adn (k:=2*d+3) lk Xa Z6.sc (λvs H Q E ⟨_,ρ,g,O,_,rs,J,_⟩=>by rw[<-rs.length];exact J) λA n s H vs Q E hr h=>?_
   let⟨fu,ρ,g,O,hg,rs,J,p⟩:=h;simp![Ab,ei,BJ]at p;rw[Xg (by rw[J,Z6.np])]at p
   refine⟨Zq K W0 ((Jw (Ab M fu d) fu).ex Fi.body),PSs.nox ?_,_,ρ,g,xZ Z6.ns rs (by lia),hg,zd p⟩
   exact bI (qu (Y XJ U A n s H E hr) (acv Z6.sc.kind) (λ_=>rfl) m) hb fu
  exact L
def abl(b:Dy H)(h:SqL K H a xs):SqF K H a xs:=by
 rcases h with(h|h)|h
 .rcases b a with z|⟨o,ys,z⟩
  .rw [h]at z;cases z
  .rw [h]at z;cases z
 .exact .inl h
 .exact .inr h
def qD{ρ:List Addr}{H:Hp}:∀ns:List Int,RVs K ρ H (ns.map U.int) (ns.map V.int)
 |[]=>rfl
 |n::ns=>⟨.int n,ns.map V.int,rfl,rfl,qD ns⟩
def acw{M:List Fn}{ns:List Int}{E:XK}(c:Dy H)(b:SqL K H a (ns.map V.int))(h:Ab M fu d i [.Zm (ns.map U.int)] []=.ok (.bl true) g'):
  WZ K M d i 1 [.ref a] H (λv _=>v=.bl true) E:=by
 refine⟨fu,[],[],[.Zm (ns.map U.int)],⟨rfl,λi j a e=>by simp at e,λn a o e=>by simp at e⟩,⟨_,_,rfl,⟨a,_,rfl,abl c b,qD ns⟩,rfl⟩,rfl,?_⟩
 rw[h];exactλv ZT H' _ _ r=>r
end
open PySem PySem.Spec PyProof.Rows L2 PySem.W
def pX{b c:Type}{f g:b->Option c}:∀{l:List b},(∀x∈l,f x=g x)->l.filterMap f=l.filterMap g
 |[],_=>rfl
 |a::l,h=>by rw[Vu,Vu,h a (.head _),pX λx d=>h x (.tail _ d)]
def wD:∀{ps:List Str} {O:List α},ps.Nodup->O.length=ps.length->(ps.filterMap λn=>((ps.zip O).lookup n).map (n,·))=ps.zip O:=by
 intro ps
 induction ps with
 |nil=>intro O _ _;cases O<;>rfl
 |cons p ps ih=>
  intro O nd a;cases O with
  |nil=>simp at a
  |cons u O=>
   have c:p ∉ ps:=(Wl.mp nd).1;rw[Vu];simp![SO,XN,Sl,Wo];congr 1;refine(pX λx b=>?_).trans (ih (Wl.mp nd).2 (by simpa using a))
   have:(x==p)=false:=by
    rw[Ue];rintro rfl;exact c b
   simp![this]
def rZ{c:Type}:∀{ps:List Str} {O:List c},O.length=ps.length ->∀x∈ps,((ps.zip O).lookup x).isNone=false
 |[],_,_,x,a=>by simp at a
 |p::ps,[],b,_,_=>by simp at b
 |p::ps,u::O,b,x,a=>by
  simp![SO,XN];cases e:x==p with
  |true=>rfl
  |false=>
   rcases YG.mp a with rfl|h
   .simp at e
   .exact rZ (by simpa using b) x h
def wz{O:List Value}(l:fd.params.posonlyargs=[])(k:fd.params.args.map (·.arg)=ps)(j:fd.params.vararg=none)(i:fd.params.kwonlyargs=[])(h:fd.params.kwarg=none)
  (g:fd.defaults=.none) (b:ps.Nodup) (a:O.length=ps.length):bindArgs fd ⟨O,[]⟩=pure (ps.zip O):=by
 unfold bindArgs;have e:(List.filter (λn=>((ps.zip O).lookup n).isNone) ps)=[]:=by
  rw[SY];intro x c;rw[rZ a x c];decide
 have m:=wD b a;have d:seqItems? Value.none=pure none:=rfl;have f : ¬ O.length > ps.length:=by lia
 simp![l,k,j,i,h,g,SG,Sx,Se,Qh,pure_bind,d,Ra,Ur,Nat.zero_sub,List.drop_nil,Qo,VU,e,List.drop_length,List.zip_nil_right,SH,Rg,XZ,VC,Wj f,Qf,m]
def qU{b:Addr}{o:Obj}:∀{l:List Obj} {n:Nat},(B2 n l).lookup b=some o->n<=b/\l[b-n]?=some o/\o.data ≠ .freed
 |[],_,e=>by cases e
 |x::l,n,e=>by
  have ZQ:(B2 (n+1) l).lookup b=some o->n<=b/\(x::l)[b-n]?=some o/\o.data ≠ .freed:=λe=>by
   let⟨h1,h2,c⟩:=qU e;let⟨k,rfl⟩:=Nat.exists_eq_add_of_le h1;rw[SU]at h2;refine⟨Hx (VJ n) h1,?_,c⟩;rw[show n+1+k-n=k+1 by lia,Tv]
   exact h2
  unfold B2 at e;split at e
  .exact ZQ e
  .rename_i a
   rw[XN]at e;split at e
   .rename_i z
    cases e;have:=eq_of_beq z;subst this;exact⟨Hz _,by rw[Nat.sub_self];rfl,a⟩
   .exact ZQ e
def aas(h:Heap):(AU h).In h:=λb o e=>by
 let⟨_,h2,a⟩:=qU e;rw[Qo,S5]at h2;unfold Heap.get?;rw[h2];split
 .rename_i q;cases q;exact absurd rfl a
 .rfl
def yo(h:DF N ps sc=true):Uu N ps sc:=by
 simp![DF,Yk,WL,Xh,XH,Ut]at h;let⟨⟨⟨⟨⟨⟨a,b⟩,c⟩,d⟩,e⟩,f⟩,g⟩:=h;exact⟨a,b,c,d,e,f,g⟩
def BW(fd:FuncData)(b:List Stmt):Stmt:=.FunctionDef fd.name fd.params b [] none [] fd.scope none fd.name ⟨0,0,0,0⟩
def rD(h:D0 v=true):v=.none:=by cases v<;>first|rfl|cases h
def JD:U->V
 |.int i=>.int i
 |.bl b=>.bl b
 |.str s=>.str s
 |_=>.ZN
def sO{K:Frag}{a:Value}(h:Ef u a=true):RelV (JD u) a /\∀ρ H,RV K ρ H u (JD u):=by
 cases u with
 |int i=>cases a with
  |int j _=>cases HE h;exact⟨⟨_,rfl⟩,λ_ _=>rfl⟩
  |_=>cases h
 |ZN=>cases rD h;exact⟨rfl,λ_ _=>rfl⟩
 |bl b=>cases a with
  |bool c=>cases eq_of_beq h;exact⟨rfl,λ_ _=>rfl⟩
  |_=>cases h
 |str s=>cases a with
  |str t _=>cases HE h;exact⟨⟨_,rfl⟩,λ_ _=>rfl⟩
  |_=>cases h
 |_=>cases h
def rg{K:Frag}:∀{O:List U} {e:List Value},Cv O e=true->ZH (O.map JD) e /\∀ρ H,RVs K ρ H O (O.map JD)
 |[],[],_=>⟨.nil,λ_ _=>rfl⟩
 |[],_::_,h=>by cases h
 |_::_,[],h=>by cases h
 |u::O,v::vs,h=>by
  rw[Cv,Yk]at h;let⟨a,b⟩:=sO (K:=K) h.1;let⟨c,d⟩:=rg (K:=K) h.2;exact⟨.cons a c,λρ H=>⟨_,_,rfl,b ρ H,d ρ H⟩⟩
def z9{K:Frag}{f:Value}(h:HX K u f=true):∃v,RelV v f /\∀ρ H,RV K ρ H u v:=by
 cases u with
 |xn c O=>cases f with
  |ref a=>
   have h:Ea K O (.ref a)=true:=h;simp![Ea]at h;cases ho:K.lookup a with
   |none=>rw[ho]at h;cases h
   |some o=>
    rw[ho]at h;have h:(decide (o.cls=.type "tuple")&&Gi O o.data)=true:=h;rw[Yk,Xh]at h;let⟨cl,r,d,k⟩:=o;let⟨h1,h⟩:=h;cases(show cl=.type "tuple" from h1);cases d with
    |seq ZY n=>
     have h:(decide (ZY.size<=1000)&&Cv O ZY.toList)=true:=h;rw[Yk,Xh]at h;let⟨j,g⟩:=rg (K:=K) h.2;exact⟨.ref _,rfl,λρ H=>⟨_,_,rfl,⟨_,ZY,n,ho,rfl,rfl,Hx h.1 #[1],j⟩,g ρ H⟩⟩
    |_=>cases h
  |_=>cases h
 |_=>cases h
def rX{K:Frag}{c:Value}(e:Dk K u c=true):∃v,RelV v c /\∀ρ H,RV K ρ H u v:=by
 unfold Dk at e;rw[Ut]at e;rcases e with e|e
 .obtain ⟨a,b⟩:=sO (K:=K) e;exact⟨_,a,b⟩
 .exact z9 e
def rK{K:Frag}:∀{ns:List Str} {dd:List (Str×U)} {e:List Value},dd.map (·.1)=ns->C8 K (dd.map (·.2)) e=true ->∃Zl,F2 (PR RelV) Zl (ns.zip e)/\F2 (PR λu v=>∀ρ H,RV K ρ H u v) dd Zl
 |_,[],[],h,_=>by subst h;exact⟨[],.nil,.nil⟩
 |_,[],_::_,_,h=>by cases h
 |_,_::_,[],_,h=>by cases h
 |_,(n,u)::dd,v::vs,h,q=>by
  subst h;rw[Y3,C8,Yk]at q;let⟨w,a,b⟩:=rX q.1;let⟨Zl,c,d⟩:=rK (dd:=dd) rfl q.2;exact⟨(n,w)::Zl,.cons ⟨rfl,a⟩ c,.cons ⟨rfl,b⟩ d⟩
def adR{K:Frag}{d:List Value}(h:DW K v=some d)(Z8:Model)(c:Heap)(X:K.In c):∃a:Option (Array Value),(a.getD #[]).toList=d/\Looks Z8 c (seqItems? v) a:=by
 unfold DW at h;split at h
 .cases h;exact⟨none,rfl,.of_pure rfl⟩
 .split at h
  .rename_i ZY _ _ ho
   cases h;exact⟨some ZY,rfl,λA Q E s k q=>wpAny_seqItems (k _ _ (X _ _ ho)) rfl q⟩
  .cases h
 .cases h
def adA{K:Frag}{n:Str}{u:Value}(h:BI K v n=some u):∃d,v=.ref d/\nsIn K d n=some (some u):=by
 unfold BI at h;split at h
 .split at h
  .rename_i q;cases h;exact⟨_,rfl,q⟩
  .cases h
 .cases h
def qf{f e:Type}:∀{l d:List f} {m c:List e},l.length=m.length->(l++d).zip (m++c)=l.zip m++d.zip c
 |[],_,[],_,_=>rfl
 |[],_,_::_,_,h=>by simp at h
 |_::_,_,[],_,h=>by simp at h
 |a::l,d,b::m,c,h=>by simp[qf (l:=l) (m:=m) (by simpa using h)]
def adP{K:Frag}{F:KF}{d:Nat}(h:HY K fd F d=true):∃Zl dd,Xq K fd F d Zl dd:=by
 simp![HY,Yk,Xh,T8,RG,XH]at h;let⟨⟨⟨⟨⟨⟨⟨⟨o,p2⟩,m⟩,k⟩,j⟩,i⟩,g⟩,f⟩,b⟩:=h;split at b
 .rename_i t s
  rw[Yk,Xh]at b;let⟨l1,q⟩:=b;let⟨Zl,c,r⟩:=rK (K:=K) f q;refine⟨Zl,_,o,p2,m,k,j,⟨t,λn=>(BI K fd.kwdefaults n).getD .none,λZ8 h X=>adR s Z8 h X,l1,i,λn p=>?_,rfl⟩,?_,r⟩
  .have:=g n p
   cases e:BI K fd.kwdefaults n with
   |none=>rw[e]at this;cases this
   |some u=>exact adA (by show _=some (Option.getD _ _);rw[e];rfl)
  .rw [qf (by rw[S9,l1];omega)]at c
   have:F.ks.zip (F.ks.map λn=>(BI K fd.kwdefaults n).getD .none)=F.ks.map λn=>(n,(BI K fd.kwdefaults n).getD .none):=by
    generalize F.ks=l
    induction l with
    |nil=>rfl
    |cons a l ih=>simp[ih]
   rw[this]at c;exact c
 .cases b
def mY{K:Frag}(X:K.In h)(G:h.Ns mainGlobals mg)(e:HZ K (x,u)=true):∃v c,mg x=some c/\RelV v c /\∀ρ H,RV K ρ H u v:=by
 unfold HZ at e;split at e
 .rename_i c d
  have f:mg x=some c:=mg_of X G d;let⟨v,a,b⟩:=rX e;exact⟨v,c,f,a,b⟩
 .cases e
def kg{K:Frag}{C:Addr}(h:CH K C=true):Yy K C:=by
 simp![CH,Yk,Wv]at h;let⟨⟨⟨a,b⟩,c⟩,d⟩:=h;exact⟨a,b,c,d⟩
def BY(T:Tab)(K:Frag)(i:Inf):Option Fn:=mkF T (i,Bw K i)
def yH{T:Tab}{i:Inf}{o:Option (Scope×List Stmt)}{F:Fn}(h:mkF T (i,o)=some F):∃r,o=some r/\(Af (r.2.map (Bp T r.1 i.N 60))).map (λb'=>(⟨i.ps.length,i.N.length,b'⟩:Fn))=some F:=by
 cases o with
 |none=>cases h
 |some r=>exact⟨r,rfl,h⟩
def tU{K:Frag}(X:K.In h)(G:h.Ns mainGlobals mg){i:Inf}{fi:FI}(k:fi.x=i.x)(l:fi.cm=i.cm)(e:DT K i=some a):FAt K mg fi a:=by
 unfold FAt;rw[l,k];unfold DT at e;split at e
 .rename_i b
  try rw[b]
  split at e
  .rename_i h1;cases e;exact mg_of X G h1
  .cases e
 .rename_i c b
  try rw[b]
  split at e
  .rename_i C h1
   split at e
   .rename_i a' h2
    split at e
    .rename_i d
     cases e;simp![Yk,Ut,WL,R0]at d;let⟨⟨⟨o,f⟩,n⟩,m⟩:=d;refine⟨C,mg_of X G h1,h1,kg o,⟨h2,f,n⟩,λhi=>?_⟩;rcases m with z|⟨j,g⟩
     .exact absurd hi z
     .rw [hi]at h2;exact⟨j,h2,f,g⟩
    .cases e
   .cases e
  .cases e
def Plain(K:Frag)(a:Str->Option Value)(i:Inf)(fi:FI):Prop:=
 i.kf=none ->
 i.cm=none ->∀f fd,a fi.x=some (.ref f)->T7 K fi.nm fi.x fi.st f fd ->∀O:List Value,O.length=i.ps.length->bindArgs fd ⟨O,[]⟩=pure (i.ps.zip O)
def zu{T:Tab}{K:Frag}{i:Inf}{F:Fn}(X:K.In h)(G:h.Ns mainGlobals mg)(e:BY T K i=some F):
  ∃fi:FI,fi.x=i.x/\fi.ps=i.ps/\fi.cm=i.cm /\
  fi.kf=i.kf /\
  FOk T K mg fi F/\Plain K mg i fi:=by
 unfold BY at e;let⟨r,c,e⟩:=yH e;unfold Bw at c;split at c
 .rename_i a h1
  split at c
  .rename_i JY D fd u h2
   split at c
   .rename_i b H
    split at c
    .rename_i hc
     cases c;simp![Yk]at hc;let⟨⟨⟨⟨s,U⟩,j⟩,S⟩,R⟩:=hc;have sc:=yo U;simp![FN,Yk,Xh,Wv,T8]at s;let⟨⟨⟨⟨P,J7⟩,M⟩,L⟩,J⟩:=s;let⟨b',W,rfl⟩:=Ym.mp e;have m:i.ps.Nodup:=by rw[<-sc.pre];exact sc.nd.sublist (List.take_sublist _ _)
     have o:fd=fnOf i.nm i.x (Ci (BW fd b)) (Ck (BW fd b)) (Bf (BW fd b)) fd.defaults fd.kwdefaults fd.doc fd.pyModule fd.annotations fd.code fd.closureTuple:=by
      let⟨n,q,Z,bo,v,gl,cl,de,kw,dc,pm,V,cd,Q,bu⟩:=fd;simp![BW,Ci,Ck,Bf]at *;subst P;subst J7;subst M;subst L;subst J;subst H
      rfl
     have t:i.kf=none ->∀O:List Value,O.length=i.ps.length->bindArgs fd ⟨O,[]⟩=pure (i.ps.zip O):=λd O k=>by
      unfold Ep at j;rw[d]at j;simp![FG,Yk,Xh,T8,RG]at j;let⟨⟨⟨⟨⟨B,p2⟩,A⟩,z⟩,y⟩,w⟩:=j;exact wz B p2 A z y (rD w) m k
     have Y:(⟨i.x,BW fd b,i.N,i.ps,i.cm,i.kf⟩:FI).nm=i.nm:=rfl;refine⟨⟨i.x,BW fd b,i.N,i.ps,i.cm,i.kf⟩,rfl,rfl,rfl,rfl,⟨sc,rfl,rfl,⟨60,W⟩,a,fd,tU X G rfl rfl h1,⟨⟨JY,D,fd.defaults,fd.kwdefaults,fd.doc,fd.pyModule,fd.annotations,fd.code,fd.closureTuple,u,by rw[Y];exact o,h2,S⟩,R⟩,λd=>.all λO k=>t d O k,λF nd d=>?_⟩,λd p f XY l I O k=>?_⟩
     .have d:i.kf=some (F,nd):=d
      unfold Ep at j;rw[d]at j;simp![Yk,Xh,WL,List.isEmpty_eq_false_iff]at j;let⟨⟨g1,g2⟩,g3⟩:=j;exact⟨g1,by rw[<-g1];exact g2,adP g3⟩
     .have g:FAt K mg ⟨i.x,BW fd b,i.N,i.ps,i.cm,i.kf⟩ a:=tU X G rfl rfl h1
      unfold FAt at g;dsimp only at g;rw[p]at g;have l:mg i.x=some (.ref f):=l;rw[show mg i.x=some (.ref a)from g]at l;cases l;let⟨E,C,dV,Ie,doc,pm,V,YI,Q,V4,_,lk,_⟩:=I.ex;rw[h2]at lk;cases lk;exact t d O k
    .cases c
   .cases c
  .cases c
 .cases c
def adb{K:Frag}{f:Str}(h:H8 K (f,cs)=true):Cd K f cs:=λc hc=>by
 have:=XH.mp h c (U_.mp hc);dsimp only at this;split at this
 .rename_i C h1
  rw[Yk,Wv]at this;exact⟨C,h1,kg this.1,this.2⟩
 .cases this
def adD{K:Frag}(X:K.In h)(G:h.Ns mainGlobals mg){p:Str×Nat}(e:H9 K p=true):∃C,mg p.1=some (.ref C)/\nsIn K mainGlobals (As p.2)=some (some (.ref C))/\Yy K C/\T_ K C:=by
 unfold H9 at e;split at e
 .rename_i C a
  simp![Yk,Xh,Gg,Wv]at e;let⟨⟨j,i⟩,⟨⟨⟨⟨⟨⟨Ks,o2⟩,g⟩,f⟩,d⟩,c⟩,b⟩⟩:=e;exact⟨C,mg_of X G a,by rw[j];exact a,kg i,⟨Ks,o2,g,f,d,c,b⟩⟩
 .cases e
noncomputable def Inf.tn(i:Inf):Str:=if i.cm.isSome||i.kf.isSome then "__debug__" else i.x
def allFrom(T:Tab)(K:Frag)(is:List Inf):Option (List Fn):=if Ib T K&&T.cs.all (HZ K)&&T.fl.all (H8 K)&&is.all (λi=>i.cm.all λc=>BL c.1)&&T.ow.all (H9 K)then Af (is.map (BY T K))else none
def qd{T:Tab}{K:Frag}{h:Heap}{f:Str->Option Value}(X:K.In h)(G:h.Ns mainGlobals f):∀{is:List Inf} {M:List Fn},Af (is.map (BY T K))=some M ->
  ∃d:List FI,d.map FI.tn=is.map Inf.tn/\AllOk T K f d M /\∀(j:Nat) (i:Inf),is[j]?=some i ->∃fi,d[j]?=some fi/\fi.x=i.x/\fi.ps=i.ps/\fi.cm=i.cm /\
   fi.kf=i.kf /\
   Plain K f i fi
 |[],M,e=>by cases e;exact⟨[],rfl,trivial,λj i h=>by simp at h⟩
 |i::is,M,e=>by
  rw[Y3]at e;cases q:BY T K i with
  |none=>rw[q]at e;cases e
  |some F=>
   rw[q]at e;let⟨r,e',rfl⟩:=Ym.mp e;let⟨d,a,b,c⟩:=qd X G e';let⟨fi,m,p,l,g,o,n⟩:=zu X G q;refine⟨fi::d,by simp[a,FI.tn,Inf.tn,m,l,g],⟨o,b⟩,λj k h=>?_⟩
   cases j with
   |zero=>simp at h;subst h;exact⟨fi,rfl,m,p,l,g,n⟩
   |succ j=>exact c j k (by simpa using h)
def mem_zipIdx'{p:Inf×Nat}(h:p∈is.zipIdx):is[p.2]?=some p.1:=by
 let⟨i,k⟩:=p;have:=List.mem_zipIdx h;simp![VM,Qo]at this;exact Yh.mpr ⟨by omega,this.2.2.symm⟩
def Fu(T:Tab)(is:List Inf)(M:List Fn)(h:Heap):Prop:=∃K:Frag,K.In h/\allFrom T K is=some M
def xI{T:Tab}{ms:List Str}{M:List Fn}{K:Frag}(E:T.M=is.map Inf.tn)(I:T.kf=Dm is)(L:T.cl=Dj is)(Q:T.mt=Dc is ms)
  (X:K.In h) (e:allFrom T K is=some M) (G:h.Ns mainGlobals mg) :
  ∃z:List FI,TJ T K mg z M /\∀(j:Nat) (i:Inf),is[j]?=some i ->∃fi,z[j]?=some fi/\fi.x=i.x/\fi.ps=i.ps/\fi.cm=i.cm /\
   fi.kf=i.kf /\
   Plain K mg i fi:=by
 unfold allFrom at e;split at e
 .rename_i r
  simp![Yk]at r;let⟨⟨⟨⟨r,J⟩,P⟩,N⟩,A⟩:=r;unfold Ib at r;let⟨z,a,b,c⟩:=qd X G e;have nm:∀i∈is,∀cm,i.cm=some cm->As (A5 cm.1)=cm.1:=λi hi cm hc=>by
   have:=XH.mp N i hi;rw[hc]at this;exact(c7 this).1
  refine⟨z,⟨E.trans a.symm,b,λx u h=>mY X G (XH.mp J (x,u) (Ri h)),λx D=>?_,λy i F nd o=>?_,λy cc i F nd o=>?_,λm l C cc i F nd O=>?_,⟨λf cs h=>adb (XH.mp P (f,cs) (Ri h)),λp g=>adD X G (XH.mp A p g)⟩⟩,c⟩
  .have:=XH.mp r x D
   cases q:nsIn K mainGlobals x with
   |none=>rw[q]at this;cases this
   |some v=>
    cases v with
    |some v=>rw[q]at this;cases this
    |none=>exact mg_none_of X G q
  .rw [I]at o
   let⟨p,g,d⟩:=Sq.mp (Ri o);split at d
   .rename_i k h1 h2
    cases d;let⟨fi,w,B,_,t,s,_⟩:=c _ _ (mem_zipIdx' g);exact⟨fi,w,B,t.trans h1,s.trans h2⟩
   .cases d
  .rw [L]at o
   let⟨p,g,d⟩:=Sq.mp (Ri o);split at d
   .rename_i cm k h1 h2
    split at d
    .rename_i hi
     cases d;have n:=mem_zipIdx' g;let⟨fi,w,B,_,t,s,_⟩:=c _ _ n;refine⟨nm _ (XG n) _ h1,fi,w,?_,s.trans h2⟩;rw[t,h1,<-hi]
    .cases d
   .cases d
  .rw [Q]at C
   let⟨R,H,d⟩:=Wa.mp (Ri C);cases d;let⟨p,g,d⟩:=Sq.mp O;split at d
   .rename_i cm k h1 h2
    split at d
    .rename_i hi
     cases d;have n:=mem_zipIdx' g;let⟨fi,w,B,_,t,s,_⟩:=c _ _ n;refine⟨fi,w,?_,s.trans h2⟩;rw[t,h1,nm _ (XG n) _ h1,<-hi]
    .cases d
   .cases d
 .cases e
def ada{l:OpenLaw}{q:Program}{loose:List Str}{XP:(Str->Option Value)->Heap->Prop}{y:DefRec}{T:Tab}{ms:List Str}{M:List Fn}
  (J:l.most=some 63) (t:y.params.defaults=[]) (I:Za (2*d+2) callerA) (X1:T.M=is.map Inf.tn) (L:T.kf=Dm is) (X2:T.cl=Dj is) (VX:T.mt=Dc is ms)
  (O:is[i]?=some ⟨y.name,N,[x],none,none⟩)
  (T6:∀ns:List Int,ns.length<=63 ->∃fu g',Ab M fu d i [.Zm (ns.map U.int)] []=.ok (.bl true) g') :
  WalkO q loose XP (λ_ h=>Fu T is M h) l.row.toRowW y [] (λf vs=>PySem.call f vs):=by
 refine Att.attach_call J t λw Zc Zt mg mb C o pm cd doc a vs ns G Z_ ho hd Xa r Ug j c Q=>?_;let⟨K,F,W⟩:=Z_;let⟨Y1,PG,R⟩:=xI X1 L X2 VX F W G.T.g;let⟨B,D,e2,Z,X,e6,Y⟩:=R i _ O;let⟨Fi,ei,Z6⟩:=PG.all.get D;let⟨f,fd,m1,A,m3⟩:=Z6.obj;unfold FAt at m1;rw[X]at m1;have E:mg B.x=some (.ref f):=m1;have m1:=E;rw[e2,r]at m1;cases m1;refine xQ (CX:=XJ) (k:=2*d+2) (x:=x) (fd:=fd) (sp:=WZ K M d i 1) F G.T.g G.T.b G.T.builtins G.T.nolimit Q Ug j (Hx c #[1]) I (λbase kb nb=>?_) (λs u=>?_) (λH V S=>?_) λH e s' z=>z
 .have:=sr (P:=l.prog) (w:=w) (base:=base) PG d i B D C fd A
  rw[Z]at this;exact this
 .exact .of_eq (Y rfl rfl C fd E A [u] rfl)
 .obtain ⟨fu,g',e⟩:=T6 ns c
  exact acw V S e
open PySem PySem.Spec PyProof.Rows L2 PySem.W PySem.Calls
noncomputable section
def zP(p:Program)(w:World)(N:Nat):openEnds treeTable p w N=endsF p w N:=by
 unfold openEnds fencedOpening topFrom endsF Gr;rw[Fast.te10274390034422433532,Fast.te14364793385576792824,Fast.te1435165496053646825,Fast.te14289696077712309145,Fast.te14082659384304107361]
 rfl
def Bx(p:Program):DefRec:=match p.main.body.getD (p.main.body.length-1) (.Pass ⟨0,0,0,0⟩)with
 |.FunctionDef n a b _ _ _ sc _ _ ps=>⟨n,a,b,sc,ps⟩
 |_=>⟨"",Ci (.Pass ⟨0,0,0,0⟩),[],Bf (.Pass ⟨0,0,0,0⟩),⟨0,0,0,0⟩⟩
def abR{c:Type}{o:Option α}{f:α->β}{g:α->c}{a:β}{b:c}(h:o.map (λs=>(f s,g s))=some (a,b)):o.map f=some a:=by
 cases o with
 |none=>cases h
 |some s=>cases h;rfl
def acG{c:Type}{o:Option α}{f:α->β}{g:α->c}{a:β}{b:c}(h:o.map (λs=>(f s,g s))=some (a,b)):o.map g=some b:=by
 cases o with
 |none=>cases h
 |some s=>cases h;rfl
def rV{e d:Type}{f:e->Option d}:∀{l m:List e} {a b:List d},Af (l.map f)=some a->Af (m.map f)=some b->Af ((l++m).map f)=some (a++b)
 |[],m,a,b,h1,h2=>by cases h1;exact h2
 |x::l,m,a,b,h1,h2=>by
  rw[Y3]at h1;rw[Sm,Y3];cases g:f x with
  |none=>rw[g]at h1;cases h1
  |some y=>
   rw[g]at h1;cases c:Af (l.map f)with
   |none=>simp![Af,c]at h1;cases h1
   |some ys=>
    have ih:=rV c h2;simp![Af,c]at h1;simp![Af,ih];cases h1
    rfl
def b9{f:α->Option β}{l:List α}{m:List β}{k:Nat}(b:Af ((l.take k).map f)=some (m.take k))(a:Af (((l.drop k).take c).map f)=some ((m.drop k).take c)):Af ((l.take (k+c)).map f)=some (m.take (k+c)):=by
 rw[RY,RY];exact rV b a
def pS{k:Nat}(a:o.map (λs=>(is.take k).map (Bw (AU s.heap)))=some (rs.take k))(b:o.map (λs=>((is.drop k).take c).map (Bw (AU s.heap)))=some ((rs.drop k).take c)):o.map (λs=>(is.take (k+c)).map (Bw (AU s.heap)))=some (rs.take (k+c)):=by
 cases o with
 |none=>cases a
 |some s=>
  simp![Wo,YJ]at a b ⊢;rw[RY,RY,Sy,a,b]
def aa8{f:Shared->β}{b:β}{T:Tab}{M:List Fn}{k:Nat}(a:o.map (λs=>Eg T (AU s.heap) is)=some true)(d:o.map f=some b)
  (c:o.map (λs=>(is.take k).map (Bw (AU s.heap)))=some (rs.take k)) (h:Af (((is.zip rs).take k).map (mkF T))=some (M.take k)) (e:is.length<=k) (j:M.length<=k) (g:rs.length<=k):o.map (λs=>(f s,allFrom T (AU s.heap) is))=some (b,some M):=by
 rw[U0 (Hx (List.length_zip ▸ Nat.min_le_left _ _) e),U0 j]at h;rw[U0 e,U0 g]at c;cases o with
 |none=>cases a
 |some s=>
  simp![Wo,YJ,Qj]at a d c ⊢;refine⟨d,?_⟩;unfold allFrom;unfold Eg at a;rw[Xg a,<-h];congr 1;rw[<-c];generalize is=l
  induction l with
  |nil=>rfl
  |cons i l ih=>rw[Y3,Y3,SO,Y3,ih,BY]
def abv{l:OpenLaw}{T:Tab}{ms:List Str}{M:List Fn}{loose D:List Str}{N:Nat}
  (a:Fast.tw9446332074065402090 l=true)
  (m:∀w,(endsF l.prog w N).map (λs=>(Fast.tw4187177175401517315 (lastOf l.prog) loose (importedModules l.prog.main.body) (λ_=>true) true s,allFrom T (AU s.heap) is))=some (openGood (lastOf l.prog) loose,some M))
  (v:defOf (lastOf l.prog) l.name=some (Bx l.prog,[])) (u:l.prog.theDef l.name=some ((Bx l.prog).params,(Bx l.prog).body,(Bx l.prog).scope)) (t:kwWritten? (Bx l.prog).params.kwonlyargs (Bx l.prog).params.kw_defaults=some [])
  (p:(Bx l.prog).params.defaults=[])
  (ok:(chainsOk (lastOf l.prog)&&opensWell l.prog&&(frees l.row.toRowW&&l.row.within.isEmpty))=true) (o:l.prog.bare) (g:l.row.toRowW.promised)
  (k:l.most=some 63) (j:Za (2*d+2) callerA) (z:T.M=is.map Inf.tn) (b:T.kf=Dm is) (y:T.cl=Dj is) (A:T.mt=Dc is ms)
  (n:is[i]?=some ⟨(Bx l.prog).name,D,[x],none,none⟩)
  (C:∀ns:List Int,ns.length<=63 ->∃fu g',Ab M fu d i [.Zm (ns.map U.int)] []=.ok (.bl true) g'):l.Holds:=by
 have sd:l.wellSaid=true:=by rw[Fast.te9446332074065402090];exact a
 refine holds_law sd λB=>?_;refine holds_open (r:=l.row) (q:=lastOf l.prog) (loose:=loose) (Xt:=λ_=>true) (XP:=λ_ _=>True) (Yf:=λs=>allFrom T (AU s.heap) is) (Ya:=λ_=>some M) (YP:=λ_ h=>Fu T is M h) (N:=N) (d:=Bx l.prog) (kwd:=[]) ?_
  (λw s e=>⟨AU s.heap,aas _,e⟩) (λw h h' ⟨K,f,c⟩ b=>⟨K,f.keeps b,c⟩) (λ_ _=>trivial) (λ_ _ _ _ _=>trivial) v u t (λs _=>recFacts_nil rfl) (by simp[OpenLaw.row]) B ok o g (ada k p j z b y A n C)
 intro w;have:=m w;rw[<-zP,<-Fast.te4187177175401517315]at this;exact this
end
end
end PI
section
open PySem PySem.W PyProof.Rows
def ZG.all(w:World):(PI.endsF PySem.Challenge.rw_braemantle_k34_good_deeds.prog w 20000).map (λs=>(Fast.tw4187177175401517315 (PI.lastOf PySem.Challenge.rw_braemantle_k34_good_deeds.prog) ZG.loose (PySem.importedModules #[0]) (λ_=>true) true s,PI.allFrom ZG.T (PI.AU s.heap) ZG.AQ))=some (openGood (PI.lastOf PySem.Challenge.rw_braemantle_k34_good_deeds.prog) ZG.loose,some ZG.M):=PI.aa8 (k:=60) (PI.acG (ZG.T1 w)) (PI.abR (ZG.T1 w)) (PI.pS (k:=52) (c:=8) (PI.pS (k:=26) (c:=26) (ZG.chk1 w) (ZG.chk2 w)) (ZG.chk3 w)) (PI.b9 (k:=58) (c:=2) (PI.b9 (k:=54) (c:=4) (PI.b9 (k:=49) (c:=5) (PI.b9 (k:=41) (c:=8) (PI.b9 (k:=30) (c:=11) (PI.b9 (k:=19) (c:=11) (ZG.part0) ZG.part1) ZG.part2) ZG.part3) ZG.part4) ZG.part5) ZG.part6) #[1] #[1] #[1]
end
variable{W:PI.XQ}{Wf:L2.XK->PI.XQ}
namespace PI
noncomputable section
variable{a e v:E}{b:List Z5}{f':E->Su->G->Out U}{Q:Fl->G->Prop}{Y:Su}{ZQ:List (Tg×E×List E)}{A:Su->Prop}{es:List E}
noncomputable def Out.le{a:Type}(o o':Out a):Prop:=o=.ZZ\/o=o'
def Out.le.rfl{o:Out α}:o.le o:=.inr (Eq.refl _)
def Out.le.bot{o:Out α}:(Out.ZZ:Out α).le o:=.inl (Eq.refl _)
def Out.le.trans{a b c:Out α}(h:a.le b)(k:b.le c):a.le c:=by
 rcases h with rfl|rfl
 .exact .bot
 .exact k
def az{o o':Out α}{k k':α->G->Out β}(h:o.le o')(b:∀a g,(k a g).le (k' a g)):(o.bind k).le (o'.bind k'):=by
 rcases h with rfl|rfl
 .exact .bot
 .cases o with
  |ok a g=>exact b a g
  |exc c fs g=>exact .rfl
  |ZZ=>exact .bot
def bp{o o':Out α}{k k':α->G->Out β}(h:o.le o')(b:∀a g,(k a g).le (k' a g)):(o.bindB k).le (o'.bindB k'):=by
 rcases h with rfl|rfl
 .exact .bot
 .cases o with
  |ok a g=>exact b a g
  |exc c fs g=>exact .rfl
  |ZZ=>exact .bot
def cG{o o':Out α}(h:o.le o'):o.Yw.le o'.Yw:=by
 rcases h with rfl|rfl
 .exact .bot
 .exact .rfl
def aap{o o':Out Fl}(h:o.le o'):(o.Ws g).le (o'.Ws g):=by
 rcases h with rfl|rfl
 .exact .bot
 .exact .rfl
abbrev CC:=Nat->List U->G->Out U
structure Z7.le(r r':Z7):Prop where
 ev:∀e Y g,(r.ev e Y g).le (r'.ev e Y g)
 ts:∀e Y g,(r.ts e Y g).le (r'.ts e Y g)
 ex:∀e Y g,(r.ex e Y g).le (r'.ex e Y g)
 wh:∀e b Y g,(r.wh e b Y g).le (r'.wh e b Y g)
 fr:∀t it i b Y g,(r.fr t it i b Y g).le (r'.fr t it i b Y g)
 cm:∀it i t cs ZQ elt ZX Y g,(r.cm it i t cs ZQ elt ZX Y g).le (r'.cm it i t cs ZQ elt ZX Y g)
section
variable{C C':CC}{r':Z7}
def bw{f a:E->Su->G->Out U}(h:∀e Y g,(f e Y g).le (a e Y g)):∀es Y g,(Jl f es Y g).le (Jl a es Y g)
 |[],_,_=>.rfl
 |e::es,Y,g=>az (h e Y g) λ_ _=>az (bw h es _ _) λ_ _=>.rfl
def sJ{f:E->Su->G->Out U}(h:∀e Y g,(f e Y g).le (f' e Y g)):∀e Y g,(Jm f e Y g).le (Jm f' e Y g)
 |none,_,_=>.rfl
 |some e,Y,g=>az (h e Y g) λ_ _=>.rfl
def eJ{f a:E->Su->G->Out Bool}(h:∀e Y g,(f e Y g).le (a e Y g)):∀es Y g,(Ay f es Y g).le (Ay a es Y g)
 |[],_,_=>.rfl
 |e::es,Y,g=>az (h e Y g) λk _=>by
  cases k
  .exact .rfl
  .exact eJ h es _ _
local macro_rules|`(tactic|sleep 8)=>do
 let a<-("Out.le.rfl Out.le.bot Z7.le.ev Z7.le.ts Z7.le.ex Z7.le.wh Z7.le.fr Z7.le.cm bw sJ eJ az bp".splitOn " ").toArray.mapM fun s=>`(tactic|apply $(Lean.mkIdent s.toName))
 `(tactic|(repeat first $[|$a:tactic]*|assumption|intro _|split))
def dm(h:r.le r')(e:E)(Y:Su)(g:G):(Jo r e Y g).le (Jo r' e Y g):=by
 cases e<;>(delta Jo;dsimp only)<;>sleep 8
def iW(b:∀f O g,(C f O g).le (C' f O g))(h:r.le r')(e:E)(Y:Su)(g:G):(Jp C r e Y g).le (Jp C' r' e Y g):=by
 cases e with
 |call f es=>exact az (cG (bw h.ev _ _ _)) λO g=>b f O g
 |make c f es ks pm=>
  refine az (cG (bw h.ev _ _ _)) λO g=>az (cG (bw h.ev _ _ _)) λws g=>?_;split
  .exact az (b _ _ _) λu g=>.rfl
  .exact .rfl
 |Zg a j tb es ks=>
  refine az (cG (h.ev _ _ _)) λx g=>?_;split
  .refine az (cG (bw h.ev _ _ _)) λO g=>az (cG (bw h.ev _ _ _)) λws g=>?_
   split
   .exact b _ _ _
   .exact .rfl
  .exact .rfl
 |comp own fr gs elt=>
  cases gs with
  |nil=>exact .rfl
  |cons t ZQ=>
   let⟨t,it,cs⟩:=t;exact az (dm h _ _ _) λi g=>bp (h.cm _ _ _ _ _ _ _ _ _) λ_ _=>.rfl
 |X6 own fr gs k v=>
  cases gs with
  |nil=>exact .rfl
  |cons t ZQ=>
   let⟨t,it,cs⟩:=t;exact az (dm h _ _ _) λi g=>bp (h.cm _ _ _ _ _ _ _ _ _) λ_ _=>.rfl
 |Xd o k x=>
  refine az (h.ev _ _ _) λx g=>?_;split
  .exact az (h.ev _ _ _) λ_ g=>az (h.ev _ _ _) λ_ g=>.rfl
  .exact .rfl
 |_=>delta Jp;dsimp only;sleep 8
def j4(h:r.le r')(e:E)(Y:Su)(g:G):(Jq r e Y g).le (Jq r' e Y g):=by
 cases e<;>(delta Jq;dsimp only)<;>sleep 8
def sx(h:r.le r')(s:Z5)(Y:Su)(g:G):(Jr r s Y g).le (Jr r' s Y g):=by
 cases s with
 |«for» t it b=>exact az (dm h _ _ _) λi g=>h.fr _ _ _ _ _ _
 |VG b=>exact aap (h.ex _ _ _)
 |_=>delta Jr;dsimp only;sleep 8
def ir(h:r.le r')(a:List Z5)(Y:Su)(g:G):(Js r a Y g).le (Js r' a Y g):=by
 cases a with
 |nil=>exact .rfl
 |cons s ZQ=>exact az (sx h _ _ _) λf g=>by cases f<;>sleep 8
def ke(h:r.le r')(c:E)(b:List Z5)(Y:Su)(g:G):(Jt r c b Y g).le (Jt r' c b Y g):=by
 unfold Jt;sleep 8
def jj(h:r.le r')(t:Tg)(it:Iter)(i:Nat)(b:List Z5)(Y:Su)(g:G):(Ju r t it i b Y g).le (Ju r' t it i b Y g):=by
 unfold Ju;sleep 8
def iZ(h:r.le r')(it:Iter)(i:Nat)(t:Tg)(cs:List E)(b:List (Tg×E×List E))(a:E)(c:List U)(Y:Su)(g:G):(Jv r it i t cs b a c Y g).le (Jv r' it i t cs b a c Y g):=by
 unfold Jv;split
 .sleep 8
 .sleep 8
 .split
  .split
   .sleep 8
   .refine bp (eJ h.ts _ _ _) λk g=>?_
    split
    .cases b with
     |nil=>exact bp (h.ev _ _ _) λv g=>by sleep 8
     |cons t b=>
      let⟨t2,YO,Yx⟩:=t;exact bp (dm h _ _ _) λj g=>bp (h.cm _ _ _ _ _ _ _ _ _) λ_ _=>h.cm _ _ _ _ _ _ _ _ _
    .sleep 8
  .sleep 8
def aH(a:∀f O g,(C f O g).le (C' f O g)):∀{m n:Nat},m<=n->(Jw C m).le (Jw C' n)
 |0,n,_=>⟨λ_ _ _=>.bot,λ_ _ _=>.bot,λ_ _ _=>.bot,λ_ _ _ _=>.bot,λ_ _ _ _ _ _=>.bot,λ_ _ _ _ _ _ _ _ _=>.bot⟩
 |m+1,0,h=>absurd h (by lia)
 |m+1,n+1,h=>by
  have ih:=aH a (m:=m) (n:=n) (by lia)
  exact⟨iW a ih,j4 ih,ir ih,ke ih,jj ih,iZ ih⟩
def zk(a:∀f O g,(C f O g).le (C' f O g))(h:m<=n)(F:Fn)(O:List U)(g:G):(BJ m C F O g).le (BJ n C' F O g):=by
 unfold BJ;split
 .exact az ((aH a h).ex _ _ _) λf g=>.rfl
 .exact .rfl
def fF{M:List Fn}{m n:Nat}(h:m<=n):∀(d f:Nat) (O:List U) (g:G),(Ab M m d f O g).le (Ab M n d f O g)
 |0,_,_,_=>.rfl
 |d+1,f,O,g=>by
  simp![Ab];split
  .exact zk (fF h d) h _ _ _
  .exact .rfl
end
abbrev XP:=Nat->List U->G->Prop
def holds{b:Type}(o:Out b)(X:XP)(Q:b->G->Prop):Prop:=match o with
 |.ok a g=>Q a g
 |.exc c fs g=>X c fs g
 |.ZZ=>False
def wp{a:Type}(f:Nat->Out a)(X:XP)(Q:a->G->Prop):Prop:=∃n,holds (f n) X Q
def Aw{a:Type}(f:Nat->Out a):Prop:=∀m n,m<=n->(f m).le (f n)
section
variable{f f':Nat->Out α}{k k':Nat->α->G->Out β}{X:XP}{Q:α->G->Prop}{R:β->G->Prop}
def eE{o o':Out α}(h:o.le o')(q:holds o X Q):holds o' X Q:=by
 rcases h with rfl|rfl
 .exact q.elim
 .exact q
def fz{o:Out α}{k:α->G->Out β}:holds (o.bind k) X R↔holds o X λa g=>holds (k a g) X R:=by cases o<;>exact Yp
def oa{o:Out α}{k:α->G->Out β}:holds (o.bindB k) X R↔holds o (λ_ _ _=>False) λa g=>holds (k a g) X R:=by cases o<;>exact Yp
def fA{o:Out α}{Q':α->G->Prop}(h:∀a g,Q a g->Q' a g)(q:holds o X Q):holds o X Q':=by
 cases o with
 |ok a g=>exact h a g q
 |exc c fs g=>exact q
 |ZZ=>exact q
def wp_mono{Q':α->G->Prop}(q:wp f X Q)(h:∀a g,Q a g->Q' a g):wp f X Q':=let⟨n,z⟩:=q;⟨n,fA h z⟩
def ae{o:Out α}:wp (λ_=>o) X Q↔holds o X Q:=⟨λ⟨_,h⟩=>h,λh=>⟨0,h⟩⟩
def wp_bind(d:Aw f)(b:∀a g,Aw λn=>k n a g):wp (λn=>(f n).bind (k n)) X R↔wp f X λa g=>wp (λn=>k n a g) X R:=by
 constructor
 .rintro ⟨n,h⟩
  rw[fz]at h;exact⟨n,fA (λa g q=>⟨n,q⟩) h⟩
 .rintro ⟨n,h⟩
  cases e:f n with
  |ok a g=>
   rw[e]at h;let⟨m,h⟩:=h;refine⟨max n m,?_⟩;rw[fz];have h1:f (max n m)=.ok a g:=by
    rcases d n (max n m) (Nat.le_max_left _ _)with z|z
    .rw [e]at z;cases z
    .rw [<-z,e]
   rw[h1];show holds (k (max n m) a g) X R;exact eE (b a g m (max n m) (Nat.le_max_right _ _)) h
  |exc c fs g=>rw[e]at h;exact⟨n,by rw[fz,e];exact h⟩
  |ZZ=>rw[e]at h;exact h.elim
def aL(d:Aw f)(b:∀a g,Aw λn=>k n a g):wp (λn=>(f n).bindB (k n)) X R↔wp f (λ_ _ _=>False) λa g=>wp (λn=>k n a g) X R:=by
 constructor
 .rintro ⟨n,h⟩
  rw[oa]at h;exact⟨n,fA (λa g q=>⟨n,q⟩) h⟩
 .rintro ⟨n,h⟩
  cases e:f n with
  |ok a g=>
   rw[e]at h;let⟨m,h⟩:=h;refine⟨max n m,?_⟩;rw[oa];have h1:f (max n m)=.ok a g:=by
    rcases d n (max n m) (Nat.le_max_left _ _)with z|z
    .rw [e]at z;cases z
    .rw [<-z,e]
   rw[h1];show holds (k (max n m) a g) X R;exact eE (b a g m (max n m) (Nat.le_max_right _ _)) h
  |exc c fs g=>rw[e]at h;exact h.elim
  |ZZ=>rw[e]at h;exact h.elim
def cL(h:∀n,∃m,(f n).le (f' m))(h':∀n,∃m,(f' n).le (f m)):wp f X Q↔wp f' X Q:=
 ⟨λ⟨n,q⟩=>let⟨m,z⟩:=h n;⟨m,eE z q⟩,λ⟨n,q⟩=>let⟨m,z⟩:=h' n;⟨m,eE z q⟩⟩
end
section
variable(M:List Fn)(d:Nat)
abbrev cA(n:Nat):CC:=Ab M n d
abbrev lv(n:Nat):Z7:=Jw (Ab M n d) n
def JE(f:Nat)(O:List U)(g:G)(X:XP)(Q:U->G->Prop):Prop:=wp (λn=>Ab M n d f O g) X Q
def JF(e:E)(Y:Su)(g:G)(X:XP)(Q:U->G->Prop):Prop:=wp (λn=>(lv M d n).ev e Y g) X Q
def JG(e:E)(Y:Su)(g:G)(X:XP)(Q:Bool->G->Prop):Prop:=wp (λn=>(lv M d n).ts e Y g) X Q
def Ap(a:List E)(Y:Su)(g:G)(X:XP)(Q:List U->G->Prop):Prop:=wp (λn=>Jl (lv M d n).ev a Y g) X Q
def JH(e:Option E)(Y:Su)(g:G)(X:XP)(Q:Option Int->G->Prop):Prop:=wp (λn=>Jm (lv M d n).ev e Y g) X Q
def JI(a:List E)(Y:Su)(g:G)(X:XP)(Q:Bool->G->Prop):Prop:=wp (λn=>Ay (lv M d n).ts a Y g) X Q
def JJ(e:E)(Y:Su)(g:G)(X:XP)(Q:Iter->G->Prop):Prop:=wp (λn=>Jo (lv M d n) e Y g) X Q
def JK(s:Z5)(Y:Su)(g:G)(X:XP)(Q:Fl->G->Prop):Prop:=wp (λn=>Jr (lv M d n) s Y g) X Q
def wpS(a:List Z5)(Y:Su)(g:G)(X:XP)(Q:Fl->G->Prop):Prop:=wp (λn=>(lv M d n).ex a Y g) X Q
def JL(c:E)(b:List Z5)(Y:Su)(g:G)(X:XP)(Q:Fl->G->Prop):Prop:=wp (λn=>(lv M d n).wh c b Y g) X Q
def JM(t:Tg)(it:Iter)(i:Nat)(b:List Z5)(Y:Su)(g:G)(X:XP)(Q:Fl->G->Prop):Prop:=wp (λn=>(lv M d n).fr t it i b Y g) X Q
def JN(it:Iter)(i:Nat)(t:Tg)(cs:List E)(c:List (Tg×E×List E))(a:E)(b:List U)(Y:Su)(g:G)(X:XP)(Q:List U->G->Prop):Prop:=wp (λn=>(lv M d n).cm it i t cs c a b Y g) X Q
end
section
variable{M:List Fn}{X:XP}
def bA(h:m<=n)(f:Nat)(O:List U)(g:G):(cA M d m f O g).le (cA M d n f O g):=fF h d f O g
def aY(h:m<=n):(lv M d m).le (lv M d n):=aH (bA h) h
def mC(f:Nat)(O:List U)(g:G):Aw λn=>Ab M n d f O g:=λ_ _ h=>fF h d f O g
def mE(e:E)(Y:Su)(g:G):Aw λn=>(lv M d n).ev e Y g:=λ_ _ h=>(aY h).ev _ _ _
def mT(e:E)(Y:Su)(g:G):Aw λn=>(lv M d n).ts e Y g:=λ_ _ h=>(aY h).ts _ _ _
def mEs(e:List E)(Y:Su)(g:G):Aw λn=>Jl (lv M d n).ev e Y g:=λ_ _ h=>bw (aY h).ev _ _ _
def mO(e:Option E)(Y:Su)(g:G):Aw λn=>Jm (lv M d n).ev e Y g:=λ_ _ h=>sJ (aY h).ev _ _ _
def mA(e:List E)(Y:Su)(g:G):Aw λn=>Ay (lv M d n).ts e Y g:=λ_ _ h=>eJ (aY h).ts _ _ _
def mI(e:E)(Y:Su)(g:G):Aw λn=>Jo (lv M d n) e Y g:=λ_ _ h=>dm (aY h) _ _ _
def m1(e:Z5)(Y:Su)(g:G):Aw λn=>Jr (lv M d n) e Y g:=λ_ _ h=>sx (aY h) _ _ _
def mS(e:List Z5)(Y:Su)(g:G):Aw λn=>(lv M d n).ex e Y g:=λ_ _ h=>(aY h).ex _ _ _
def mW(e:E)(b:List Z5)(Y:Su)(g:G):Aw λn=>(lv M d n).wh e b Y g:=λ_ _ h=>(aY h).wh _ _ _ _
def mF(t:Tg)(it:Iter)(i:Nat)(b:List Z5)(Y:Su)(g:G):Aw λn=>(lv M d n).fr t it i b Y g:=λ_ _ h=>(aY h).fr _ _ _ _ _ _
def mM(it:Iter)(i:Nat)(t:Tg)(cs:List E)(c:List (Tg×E×List E))(a:E)(b:List U)(Y:Su)(g:G):Aw λn=>(lv M d n).cm it i t cs c a b Y g:=λ_ _ h=>(aY h).cm _ _ _ _ _ _ _ _ _
def mK(o:Out α):Aw λ_=>o:=λ_ _ _=>.rfl
def mB{f:Nat->Out α}{k:Nat->α->G->Out β}(h:Aw f)(b:∀a g,Aw λn=>k n a g):Aw λn=>(f n).bind (k n):=λm n z=>az (h m n z) λa g=>b a g m n z
def mBB{f:Nat->Out α}{k:Nat->α->G->Out β}(h:Aw f)(b:∀a g,Aw λn=>k n a g):Aw λn=>(f n).bindB (k n):=λm n z=>bp (h m n z) λa g=>b a g m n z
def ak{Q:U->G->Prop}:JF M d e Y g X Q↔wp (λn=>Jp (cA M d n) (lv M d n) e Y g) X Q:=
 cL (λn=>match n with
  |0=>⟨0,.bot⟩
  |n+1=>⟨n+1,iW (C:=cA M d (n+1)) (λ_ _ _=>.rfl) (aH (λ_ _ _=>.rfl) (VJ n)) e Y g⟩) λn=>⟨n+1,iW (C:=cA M d n) (C':=cA M d (n+1)) (bA (VJ n)) (aH (bA (VJ n)) (Hz n)) e Y g⟩
def eR{Q:Bool->G->Prop}:JG M d e Y g X Q↔wp (λn=>Jq (lv M d n) e Y g) X Q:=
 cL (λn=>match n with
  |0=>⟨0,.bot⟩
  |n+1=>⟨n+1,j4 (aH (λ_ _ _=>.rfl) (VJ n)) e Y g⟩) λn=>⟨n+1,j4 (aH (bA (VJ n)) (Hz n)) e Y g⟩
def sP{e:List Z5}:wpS M d e Y g X Q↔wp (λn=>Js (lv M d n) e Y g) X Q:=
 cL (λn=>match n with
  |0=>⟨0,.bot⟩
  |n+1=>⟨n+1,ir (aH (λ_ _ _=>.rfl) (VJ n)) e Y g⟩) λn=>⟨n+1,ir (aH (bA (VJ n)) (Hz n)) e Y g⟩
def abF:JL M d c b Y g X Q↔wp (λn=>Jt (lv M d n) c b Y g) X Q:=
 cL (λn=>match n with
  |0=>⟨0,.bot⟩
  |n+1=>⟨n+1,ke (aH (λ_ _ _=>.rfl) (VJ n)) c b Y g⟩) λn=>⟨n+1,ke (aH (bA (VJ n)) (Hz n)) c b Y g⟩
def acj{t:Tg}:JM M d t it i b Y g X Q↔wp (λn=>Ju (lv M d n) t it i b Y g) X Q:=
 cL (λn=>match n with
  |0=>⟨0,.bot⟩
  |n+1=>⟨n+1,jj (aH (λ_ _ _=>.rfl) (VJ n)) t it i b Y g⟩) λn=>⟨n+1,jj (aH (bA (VJ n)) (Hz n)) t it i b Y g⟩
def aa0{t:Tg}{Q:List U->G->Prop}:JN M d it i t cs ZQ elt ZX Y g X Q↔wp (λn=>Jv (lv M d n) it i t cs ZQ elt ZX Y g) X Q:=
 cL (λn=>match n with
  |0=>⟨0,.bot⟩
  |n+1=>⟨n+1,iZ (aH (λ_ _ _=>.rfl) (VJ n)) it i t cs ZQ elt ZX Y g⟩) λn=>⟨n+1,iZ (aH (bA (VJ n)) (Hz n)) it i t cs ZQ elt ZX Y g⟩
end
local macro_rules|`(tactic|sleep 9)=>do
 let a<-("mE mT mEs mO mA mI mS mC mW mF mM mK mB mBB".splitOn " ").toArray.mapM fun s=>`(tactic|apply $(Lean.mkIdent s.toName))
 `(tactic|(intros;repeat first $[|$a:tactic]*|intro _))
def wp_congr{f:Nat->Out α}{X:XP}{Q Q':α->G->Prop}(h:∀a g,Q a g↔Q' a g):wp f X Q↔wp f X Q':=⟨λq=>wp_mono q λa g=>(h a g).1,λq=>wp_mono q λa g=>(h a g).2⟩
inductive Lk{α:Sort u}(a:α):Type
 |mk:Lk a
@[reducible] def lk{b:Sort u}(a:b):Lk a:=.mk
def JO{b:Type}(o:Option b){Q:b->Prop}(_:Lk Q):Prop:=match o with
 |some a=>Q a
 |none=>False
def JP(k:Bool){A B:Prop}(_:Lk A)(_:Lk B):Prop:=match k with
 |true=>A
 |false=>B
def JQ(f:Fl){A:Su->Prop}{B:Fl->Prop}(_:Lk A)(_:Lk B):Prop:=match f with
 |.nx Y=>A Y
 |f=>B f
def JR(f:Fl){A:Su->Prop}{B:Fl->Prop}(_:Lk A)(_:Lk B):Prop:=match f with
 |.nx Y=>A Y
 |.ct Y=>A Y
 |.bk Y=>B (.nx Y)
 |.rt u=>B (.rt u)
def JS(f:Fl){Q:U->Prop}(_:Lk Q):Prop:=match f with
 |.rt u=>Q u
 |.nx _=>Q .ZN
 |_=>False
def cZ{a:α}{Q:α->Prop}:JO (some a) (lk Q)=Q a:=propext Yp
def fc{A B:Prop}:JP true (lk A) (lk B)=A:=propext Yp
def nD{A B:Prop}:JP false (lk A) (lk B)=B:=propext Yp
def av{k:Bool}{A B:Prop}(h:k=true->A)(h':k=false->B):JP k (lk A) (lk B):=by cases k;exact h' rfl;exact h rfl
def cP{k:Bool}{A B:Prop}:(if k=true then A else B)↔JP k (lk A) (lk B):=by cases k<;>simp[JP]
def uJ:JQ (.nx Y) (lk A) (lk B)=A Y:=propext Yp
def u6:JQ (.rt u) (lk A) (lk B)=B (.rt u):=propext Yp
def vc:JQ (.bk Y) (lk A) (lk B)=B (.bk Y):=propext Yp
def uQ:JQ (.ct Y) (lk A) (lk B)=B (.ct Y):=propext Yp
def lO:JR (.nx Y) (lk A) (lk B)=A Y:=propext Yp
def mX:JR (.rt u) (lk A) (lk B)=B (.rt u):=propext Yp
def uB:JR (.bk Y) (lk A) (lk B)=B (.nx Y):=propext Yp
def vf:JR (.ct Y) (lk A) (lk B)=A Y:=propext Yp
def lx{Q:U->Prop}:JS (.rt u) (lk Q)=Q u:=propext Yp
def uk{Q:U->Prop}:JS (.nx Y) (lk Q)=Q .ZN:=propext Yp
def aG{o:Option α}{Q:α->Prop}:(∃a,o=some a/\Q a)↔JO o (lk Q):=by
 cases o with
 |none=>exact⟨λ⟨_,e,_⟩=>(by cases e),λh=>h.elim⟩
 |some a=>exact⟨λ⟨_,e,h⟩=>(by cases e;exact h),λh=>⟨a,rfl,h⟩⟩
def hk{a:Type}(o:Out a)(X:XP){Q:a->G->Prop}(_:Lk Q):Prop:=holds o X Q
def l9{a:α}{X:XP}{Q:α->G->Prop}:hk (.ok a g) X (lk Q)=Q a g:=propext Yp
def t9{c:Nat}{a:List U}{X:XP}{Q:α->G->Prop}:hk (.exc c a g) X (lk Q)=X c a g:=propext Yp
section
variable{M:List Fn}{X:XP}
def JT(M:List Fn)(d f:Nat)(O:List U)(g:G)(X:XP){Q:U->G->Prop}(_:Lk Q):Prop:=JE M d f O g X Q
def JU(M:List Fn)(d:Nat)(it:Iter)(i:Nat)(t:Tg)(cs:List E)(c:List (Tg×E×List E))(a:E)(b:List U)(Y:Su)(g:G)(X:XP){Q:List U->G->Prop}(_:Lk Q):Prop:=JN M d it i t cs c a b Y g X Q
def JV(M:List Fn)(d:Nat)(t:Tg)(it:Iter)(i:Nat)(b:List Z5)(Y:Su)(g:G)(X:XP){Q:Fl->G->Prop}(_:Lk Q):Prop:=JM M d t it i b Y g X Q
def JW(M:List Fn)(d:Nat)(c:E)(b:List Z5)(Y:Su)(g:G)(X:XP){Q:Fl->G->Prop}(_:Lk Q):Prop:=JL M d c b Y g X Q
def CP(x:U)(l h:Option Int)(g:G):Out U:=match x with
  |.Z1 xs=>if HT.sIx xs.length 0 l=0/\HT.sIx xs.length xs.length h=xs.length then .ZZ else .ok (.Z1 (Bc xs l h)) g
  |.Zm xs=>alloc (.S (Bc xs l h)) g
  |.ref n=>match g[n]? with
   |some (.S xs)=>alloc (.S (Bc xs l h)) g
   |_=>.ZZ
  |_=>.ZZ
def Bb(n:Nat):Bool:=@decide (n<=Ag) (Classical.propDecidable _)
def fY(h:n<=16777000):Bb n=true:=by unfold Bb;exact @decide_eq_true _ (Classical.propDecidable _) h
def oR:Bb n=true↔n<=Ag:=by unfold Bb;exact @decide_eq_true_iff _ (Classical.propDecidable _)
def B8(x:U)(g:G):Option (List U):=match x with
 |.ref n=>match g[n]? with
  |some (.S xs)=>some xs
  |_=>none
 |_=>none
def wG{o:Option α}{Q:α->G->Prop}:holds (lift o g) X Q ↔ ∃a,o=some a/\Q a g:=by
 cases o with
 |none=>exact⟨λh=>h.elim,λ⟨_,e,_⟩=>by cases e⟩
 |some a=>exact⟨λh=>⟨a,rfl,h⟩,λ⟨b,e,h⟩=>by cases e;exact h⟩
def dj{o:Option α}{Q:α->G->Prop}:holds (lift o g) X Q↔JO o (lk λa=>Q a g):=by cases o<;>exact Yp
def gY{o:Option Bool}{Q:U->G->Prop}:holds (match o with|some c=>Out.ok (U.bl c) g|none=>.ZZ) X Q↔JO o (lk λc=>Q (.bl c) g):=by cases o<;>exact Yp
def fT{o:Option α}{Q Q':α->Prop}(h:∀a,Q a↔Q' a):JO o (lk Q)↔JO o (lk Q'):=by
 cases o with
 |none=>exact Yp
 |some a=>exact h a
def optN{o:Option Nat}{f:Nat->Nat->Out α}{Q:α->G->Prop}:wp (λn=>match o with|some k=>f n k|none=>.ZZ) X Q↔JO o (lk λk=>wp (λn=>f n k) X Q):=by
 cases o with
 |none=>exact ae
 |some a=>exact Yp
def uz{Q:U->G->Prop}:holds (if n<=Ag then Out.ok u g' else .ZZ) X Q↔JP (Bb n) (lk (Q u g')) (lk False):=by
 rw[<-cP];by_cases h:n<=Ag
 .rw [Xg h,Xg (oR.mpr h)];exact Yp
 .rw [Xp h,Xp (λz=>h (oR.mp z))];exact Yp
def ob(a:Op)(x y:U)(g:G)(X:XP){Q:U->G->Prop}(_:Lk Q):Prop:=holds (Bj a x y g) X Q
def vo{i:Int}{y:U}{X:XP}{Q:U->G->Prop}:ob op (.int i) y g X (lk Q)=JO (IZ op (.int i) y) (lk λz=>Q z g):=propext (by
 unfold ob;refine Iff.trans (?_:_↔holds (lift (IZ op (.int i) y) g) X Q) dj;exact Yp)
section
variable{Q:U->G->Prop}
def uF:JF M d (.L i) Y g X Q↔JO Y[i]? (lk λo=>JO o (lk λu=>Q u g)):=by
 rw[ak];delta Jp;simp![ae];cases Y[i]? with
 |none=>exact Yp
 |some o=>cases o<;>exact Yp
def uE:JF M d (.Z3 u) Y g X Q↔Q u g:=by rw[ak];delta Jp;simp![ae];rfl
def uI{b:E}:JF M d (.ZW op a b) Y g X Q↔JF M d a Y g X λx g=>JF M d b Y g X λy g=>ob op x y g X (lk Q):=by
 rw[ak];delta Jp;dsimp only;refine(wp_bind (by sleep 9) (by sleep 9)).trans (wp_congr λ_ _=>?_);refine(wp_bind (by sleep 9) (by sleep 9)).trans (wp_congr λ_ _=>?_);exact ae
def adH{cs:List Nat}:JF M d (.fld a j cs) Y g X Q↔JF M d a Y g X λx g=>JO ((AO x g).bind (BD j cs)) <| lk λz=>Q z g:=by
 rw[ak];delta Jp;dsimp only;refine(wp_bind (by sleep 9) (by sleep 9)).trans (wp_congr λ_ _=>?_);exact ae.trans dj
def acH{c:Bool}:JF M d (.Wd c a) Y g X Q↔JF M d a Y g X λx g=>JO (Jk x g) <| lk λn=>hk (BE c n g) X (lk Q):=by
 rw[ak];delta Jp;dsimp only;refine(wp_bind (by sleep 9) (by sleep 9)).trans (wp_congr λx g=>ae.trans ?_)
 cases Jk x g<;>exact Yp
abbrev nX:XP:=λ_ _ _=>False
def fG{o:Out α}{k:α->G->Out β}:o.Yw.bind k=o.bindB k:=by cases o<;>rfl
def abM{c f:Nat}{a:List E}:JF M d (.make c f es a pm) Y g X Q↔Ap M d es Y g nX λO g=>Ap M d a Y g nX λws g=>O.length=es.length/\ws.length=a.length/\JT M d f (perm (.ref g.length::O++ws) pm) (g++[.ins c []]) X (lk λu g'=>AE u=true/\Q (.ref g.length) g'):=by
 rw[ak];delta Jp;dsimp only;simp![fG];have e:∀(O ws:List U) (g:G),Aw λn=>if O.length=es.length/\ws.length=a.length then(Ab M n d f (perm (.ref g.length::O++ws) pm) (g++[.ins c []])).bind λu g'=>if AE u then Out.ok (U.ref g.length) g' else .ZZ else .ZZ:=λO ws g=>by
  split
  .exact mB (mC _ _ _) λ_ _=>mK _
  .exact mK _
 refine(aL (mEs _ _ _) λO g=>mBB (mEs _ _ _) λws g=>e O ws g).trans (wp_congr λO g=>?_);refine(aL (mEs _ _ _) λws g=>e O ws g).trans (wp_congr λws g=>?_);split
 .rename_i h
  refine Iff.trans ((wp_bind (k:=λ_ u g'=>if AE u=true then Out.ok (U.ref (List.length g)) g' else Out.ZZ) (mC _ _ _) λ_ _=>mK _).trans (wp_congr λu g'=>ae.trans ?_)) ⟨λq=>⟨h.1,h.2,q⟩,λq=>q.2.2⟩
  split
  .rename_i b;exact⟨λq=>⟨b,q⟩,λq=>q.2⟩
  .rename_i b;exact⟨λq=>q.elim,λq=>(b q.1).elim⟩
 .rename_i h;exact⟨λ⟨_,q⟩=>q.elim,λq=>(h ⟨q.1,q.2.1⟩).elim⟩
def aaT{b:List E}:JF M d (.Zg a j tb es b) Y g X Q↔JF M d a Y g nX λx g=>JO ((AO x g).bind (BB j tb)) <| lk λp=>Ap M d es Y g nX λO g=>Ap M d b Y g nX λws g=>O.length=es.length/\ws.length=b.length/\JT M d p.1 (perm (x::O++ws) p.2) g X (lk Q):=by
 rw[ak];delta Jp;dsimp only;simp![fG];have e:∀(x:U) (p:Nat×List (Nat ⊕ U)) (O ws:List U) (g:G),Aw λn=>if O.length=es.length/\ws.length=b.length then Ab M n d p.1 (perm (x::O++ws) p.2) g else .ZZ:=λx p O ws g=>by
  split
  .exact mC _ _ _
  .exact mK _
 have c:∀(x:U) (g:G) (o:Option (Nat×List (Nat ⊕ U))),Aw λn=>match o with
   |some p=>(Jl (lv M d n).ev es Y g).bindB λO g=>(Jl (lv M d n).ev b Y g).bindB λws g=>if O.length=es.length/\ws.length=b.length then Ab M n d p.1 (perm (x::O++ws) p.2) g else .ZZ
   |none=>.ZZ:=λx g o=>by
  cases o with
  |none=>exact mK _
  |some p=>exact mBB (mEs _ _ _) λO g=>mBB (mEs _ _ _) λws g=>e x p O ws g
 refine(aL (mE _ _ _) λx g=>c x g _).trans (wp_congr λx g=>?_);cases(AO x g).bind (BB j tb)with
 |none=>exact ae
 |some p=>
  refine(aL (mEs _ _ _) λO g=>mBB (mEs _ _ _) λws g=>e x p O ws g).trans (wp_congr λO g=>?_);refine(aL (mEs _ _ _) λws g=>e x p O ws g).trans (wp_congr λws g=>?_);split
  .rename_i h;exact⟨λq=>⟨h.1,h.2,q⟩,λq=>q.2.2⟩
  .rename_i h;exact⟨λ⟨_,q⟩=>q.elim,λq=>(h ⟨q.1,q.2.1⟩).elim⟩
def adS{c:Cp}{b:E}:JF M d (.cmp c a b) Y g X Q↔JF M d a Y g X λx g=>JF M d b Y g X λy g=>JO (Jc c x y g) <| lk λz=>Q (.bl z) g:=by
 rw[ak];delta Jp;dsimp only;refine(wp_bind (by sleep 9) (by sleep 9)).trans (wp_congr λ_ _=>?_);refine(wp_bind (by sleep 9) (by sleep 9)).trans (wp_congr λ_ _=>?_);exact ae.trans gY
def y6{e f:Cp}{b:E}:JF M d (.chain e f a b c) Y g X Q↔JF M d a Y g X λx g=>JF M d b Y g X λy g=>JO (Jc e x y g) <| lk λz=>JP z (lk (JF M d c Y g X λw g=>JO (Jc f y w g) <| lk λz=>Q (.bl z) g)) (lk (Q (.bl false) g)):=by
 rw[ak];delta Jp;dsimp only;refine(wp_bind (by sleep 9) (by intro x g;refine mB (mE _ _ _) λy g=>?_;generalize Jc e x y g=o;cases o with|none=>exact mK _|some z=>cases z;exact mK _;exact mB (mE _ _ _) λ_ _=>mK _)).trans (wp_congr λx g=>?_)
 refine(wp_bind (by sleep 9) (by intro y g;generalize Jc e x y g=o;cases o with|none=>exact mK _|some z=>cases z;exact mK _;exact mB (mE _ _ _) λ_ _=>mK _)).trans (wp_congr λy g=>?_)
 generalize Jc e x y g=o;cases o with
 |none=>exact ae
 |some z=>
  cases z
  .exact ae
  .exact (wp_bind (by sleep 9) (by sleep 9)).trans (wp_congr λ_ _=>ae.trans gY)
def ac3{b:E}:JF M d (.and a b) Y g X Q↔JF M d a Y g X λx g=>JO (match x with|.bl z=>some z|_=>none) <| lk λz=>JP z (lk (JF M d b Y g X Q)) (lk (Q (.bl false) g)):=by
 rw[ak];delta Jp;dsimp only;refine(wp_bind (by sleep 9) (by intro x g;cases x with|bl b=>cases b;exact mK _;exact mE _ _ _|_=>exact mK _)).trans (wp_congr λx g=>?_)
 cases x with
 |bl z=>cases z;exact ae;exact Yp
 |_=>exact ae
def e_or{b:E}:JF M d (.or a b) Y g X Q↔JF M d a Y g X λx g=>JO (match x with|.bl z=>some z|_=>none) <| lk λz=>JP z (lk (Q (.bl true) g)) (lk (JF M d b Y g X Q)):=by
 rw[ak];delta Jp;dsimp only;refine(wp_bind (by sleep 9) (by intro x g;cases x with|bl b=>cases b;exact mE _ _ _;exact mK _|_=>exact mK _)).trans (wp_congr λx g=>?_)
 cases x with
 |bl z=>cases z;exact Yp;exact ae
 |_=>exact ae
def adw:JF M d (.not a) Y g X Q↔JF M d a Y g X λx g=>JO (Jd x g) <| lk λc=>Q (.bl !c) g:=by
 rw[ak];delta Jp;dsimp only;refine(wp_bind (by sleep 9) (by sleep 9)).trans (wp_congr λx g=>ae.trans ?_)
 cases Jd x g<;>exact Yp
def ac5:JF M d (.neg a) Y g X Q↔JF M d a Y g X λx g=>JO (match x with|.int i=>some i|_=>none) <| lk λi=>Q (.int (-i)) g:=by
 rw[ak];delta Jp;dsimp only;refine(wp_bind (by sleep 9) (by sleep 9)).trans (wp_congr λx g=>ae.trans ?_)
 cases x<;>exact Yp
def vd:JF M d (.Z1 es) Y g X Q↔Ap M d es Y g X λO g=>JP (Bb O.length) (lk (Q (.Z1 O) g)) (lk False):=by
 rw[ak];delta Jp;dsimp only;exact(wp_bind (by sleep 9) (by sleep 9)).trans (wp_congr λx g=>ae.trans uz)
def adq:JF M d (.S es) Y g X Q↔Ap M d es Y g X λO g=>JP (Bb O.length) (lk (Q (.ref g.length) (g++[.S O]))) (lk False):=by
 rw[ak];delta Jp;dsimp only;exact(wp_bind (by sleep 9) (by sleep 9)).trans (wp_congr λx g=>ae.trans uz)
def uw{b:E}:JF M d (.idx a b) Y g X Q↔JF M d a Y g X λx g=>JF M d b Y g X λy g=>match y with|.Z1 O=>JO ((Al (.Z1 O) x g).bind id) <| lk λz=>Q z g|.str k=>JO ((I9 x g).bind λZ4=>A1 Z4 k) <| lk λz=>Q z g|y=>JO (match y with|.int i=>some i|_=>none) <| lk λi=>JO (items x g) <| lk λxs=>JO (Je xs i) <| lk λz=>Q z g:=by
 rw[ak];delta Jp;dsimp only;refine(wp_bind (by sleep 9) (by sleep 9)).trans (wp_congr λx g=>(wp_bind (by sleep 9) (by sleep 9)).trans (wp_congr λy g=>ae.trans ?_))
 cases y with
 |int i=>
  show holds (match items x g with|some xs=>lift (Je xs i) g|none=>.ZZ) X Q↔JO (items x g) (lk λxs=>JO (Je xs i) (lk λz=>Q z g))
  cases items x g with
  |none=>exact Yp
  |some xs=>exact dj
 |Z1 O=>exact dj
 |str k=>exact dj
 |_=>exact Yp
def acS{b c:Option E}:JF M d (.XU a b c) Y g X Q↔JF M d a Y g X λx g=>JH M d b Y g X λl g=>JH M d c Y g X λh g=>hk (CP x l h g) X (lk Q):=by
 rw[ak];delta Jp;dsimp only;refine(wp_bind (by sleep 9) (by sleep 9)).trans (wp_congr λ_ _=>?_);refine(wp_bind (by sleep 9) (by sleep 9)).trans (wp_congr λ_ _=>?_);refine(wp_bind (by sleep 9) (by sleep 9)).trans (wp_congr λ_ _=>?_);exact ae
def adt:JF M d (.rev a) Y g X Q↔JF M d a Y g X λx g=>JO (B8 x g) <| lk λxs=>Q (.ref g.length) (g++[.S xs.reverse]):=by
 rw[ak];delta Jp;dsimp only;refine(wp_bind (by sleep 9) (by sleep 9)).trans (wp_congr λx g=>ae.trans ?_)
 cases x with
 |ref n=>
  dsimp only[B8];cases g[n]? with
  |none=>exact Yp
  |some o=>cases o<;>exact Yp
 |_=>exact Yp
def abO{f:Nat}:JF M d (.call f es) Y g X Q↔Ap M d es Y g nX λO g=>JT M d f O g X (lk Q):=by
 rw[ak];delta Jp;dsimp only;simp![fG];exact aL (mEs _ _ _) λ_ _=>mC _ _ _
def e_bi{b:Bi}:JF M d (.bi b es) Y g X Q↔Ap M d es Y g X λO g=>hk (Jj b O g) X (lk Q):=by
 rw[ak];delta Jp;dsimp only;exact(wp_bind (by sleep 9) (by sleep 9)).trans (wp_congr λx g=>ae)
def acF:JF M d .XT Y g X Q↔Q (.ref g.length) (g++[.ZV []]):=by
 rw[ak];delta Jp;dsimp only;exact ae
def acY{t:Ty}:JF M d (.YR a t) Y g X Q↔JF M d a Y g X λx g=>JO (AI t x g) <| lk λc=>Q (.bl c) g:=by
 rw[ak];delta Jp;dsimp only;exact(wp_bind (by sleep 9) (by sleep 9)).trans (wp_congr λx g=>ae.trans gY)
def mN{o:Option Nat}{f:Nat->Nat->Out α}(h:∀k,Aw λn=>f n k):Aw λn=>(match o with|some k=>f n k|none=>.ZZ:Out α):=by
 cases o with
 |none=>exact mK _
 |some k=>exact h k
def acT{o:E}:JF M d (.app o v) Y g X Q↔JF M d o Y g X λx g=>JO (Jk x g) <| lk λk=>JF M d v Y g X λy g=>hk (A9 k y g) X (lk Q):=by
 rw[ak];delta Jp;dsimp only;refine(wp_bind (by sleep 9) (by intro x g;exact mN λk=>mB (mE _ _ _) λ_ _=>mK _)).trans (wp_congr λx g=>optN.trans (fT λk=>?_))
 refine(wp_bind (by sleep 9) (by sleep 9)).trans (wp_congr λ_ _=>?_);exact ae
def adx{o:E}:JF M d (.ext o v) Y g X Q↔JF M d o Y g X λx g=>JO (Jk x g) <| lk λk=>JF M d v Y g X λy g=>hk (Bq k y g) X (lk Q):=by
 rw[ak];delta Jp;dsimp only;refine(wp_bind (by sleep 9) (by intro x g;exact mN λk=>mB (mE _ _ _) λ_ _=>mK _)).trans (wp_congr λx g=>optN.trans (fT λk=>?_))
 refine(wp_bind (by sleep 9) (by sleep 9)).trans (wp_congr λ_ _=>?_);exact ae
def adQ{o:E}:JF M d (.pop o) Y g X Q↔JF M d o Y g X λx g=>JO (Jk x g) <| lk λk=>hk (Bn k g) X (lk Q):=by
 rw[ak];delta Jp;dsimp only;exact(wp_bind (by sleep 9) (by intro x g;exact mN λk=>mK _)).trans (wp_congr λx g=>optN.trans (fT λk=>ae))
def abZ{a:Nat}{b:List Nat}{t:Tg}{it:E}{k:E}:JF M d (.X6 a b ((t,it,cs)::ZQ) k v) Y g X Q ↔
  JJ M d it Y g X λi g=>JU M d i 0 t cs ZQ (.pair k v) [] (List.replicate a none++b.map λj=>(Y[j]?).getD none) g (λ_ _ _=>False) (lk λO g=>JO (dfold O []) <| lk λZ4=>Q (.ref g.length) (g++[.ZV Z4])):=by
 rw[ak];delta Jp;dsimp only;refine(wp_bind (by sleep 9) (by sleep 9)).trans (wp_congr λx g=>(aL (by sleep 9) (by sleep 9)).trans (wp_congr λO g=>ae.trans ?_))
 cases dfold O []<;>exact Yp
def aaY{k:E}:JF M d (.pair k v) Y g X Q↔JF M d k Y g X λx g=>JF M d v Y g X λy g=>JO (keyOf x) <| lk λ_=>Q (.Z1 [x,y]) g:=by
 rw[ak];delta Jp;dsimp only;refine(wp_bind (by sleep 9) (by sleep 9)).trans (wp_congr λx g=>(wp_bind (by sleep 9) (by sleep 9)).trans (wp_congr λy g=>ae.trans ?_))
 cases keyOf x<;>exact Yp
def aaK{a:List PySem.Str}:JF M d (.Wc a es) Y g X Q↔Ap M d es Y g X λO g=>Q (.ref g.length) (g++[.dst (a.zip O)]):=by
 rw[ak];delta Jp;dsimp only;exact(wp_bind (by sleep 9) (by sleep 9)).trans (wp_congr λx g=>ae)
def adC{o k x:E}:JF M d (.Xd o k x) Y g X Q↔JF M d o Y g X λy g=>JO (Ja y g) <| lk λ_=>JF M d k Y g X λz g=>JF M d x Y g X λw g=>JO (Al z y g) <| lk λq=>Q (q.getD w) g:=by
 rw[ak];delta Jp;dsimp only;refine(wp_bind (by sleep 9) (by intro x g;cases Ja x g with|none=>exact mK _|some _=>exact mB (mE _ _ _) λ_ _=>mB (mE _ _ _) λ_ _=>mK _)).trans (wp_congr λy g=>?_)
 cases Ja y g with
 |none=>exact ae
 |some Z4=>
  refine(wp_bind (by sleep 9) (by sleep 9)).trans (wp_congr λz g=>(wp_bind (by sleep 9) (by sleep 9)).trans (wp_congr λw g=>ae.trans ?_))
  cases Al z y g<;>exact Yp
def acD{a:Nat}{b:List Nat}{t:Tg}{it:E}:JF M d (.comp a b ((t,it,cs)::ZQ) elt) Y g X Q ↔
  JJ M d it Y g X λi g=>JU M d i 0 t cs ZQ elt [] (List.replicate a none++b.map λj=>(Y[j]?).getD none) g (λ_ _ _=>False) (lk λO g=>O.length<=Ag/\Q (.ref g.length) (g++[.S O])):=by
 rw[ak];delta Jp;dsimp only;refine(wp_bind (by sleep 9) (by sleep 9)).trans (wp_congr λx g=>(aL (by sleep 9) (by sleep 9)).trans (wp_congr λO g=>ae.trans ?_))
 split
 .rename_i h;exact⟨λq=>⟨h,q⟩,λq=>q.2⟩
 .rename_i h;exact⟨λq=>q.elim,λq=>h q.1⟩
end
def sv{Q:List U->G->Prop}:Ap M d [] Y g X Q↔Q [] g:=by unfold Ap;simp![Jl,ae];rfl
def rP{Q:List U->G->Prop}:Ap M d (e::es) Y g X Q↔JF M d e Y g X λu g=>Ap M d es Y g X λO g=>Q (u::O) g:=by
 unfold Ap;simp![Jl];refine(wp_bind (by sleep 9) (by sleep 9)).trans (wp_congr λ_ _=>?_);refine(wp_bind (by sleep 9) (by sleep 9)).trans (wp_congr λ_ _=>?_);exact ae
def j6{Q:Option Int->G->Prop}:JH M d none Y g X Q↔Q none g:=by unfold JH;simp![Jm,ae];rfl
def aaR{Q:Option Int->G->Prop}:JH M d (some e) Y g X Q↔JF M d e Y g X λu g=>∃i,u=.int i/\Q (some i) g:=by
 unfold JH;simp![Jm];refine(wp_bind (by sleep 9) (by sleep 9)).trans (wp_congr λx g=>ae.trans ?_)
 cases x with
 |int a=>exact⟨λh=>⟨a,rfl,h⟩,λ⟨b,e,h⟩=>by cases e;exact h⟩
 |_=>exact⟨λh=>h.elim,λ⟨_,e,_⟩=>by cases e⟩
section
variable{Q:Bool->G->Prop}
def adv{b:E}:JG M d (.and a b) Y g X Q↔JG M d a Y g X λk g=>if k then JG M d b Y g X Q else Q false g:=by
 rw[eR];delta Jq;dsimp only;refine(wp_bind (by sleep 9) (by intro k g;cases k;exact mK _;exact mT _ _ _)).trans (wp_congr λx g=>?_)
 cases x
 .exact ae
 .exact Yp
theorem T_or{b:E}:JG M d (.or a b) Y g X Q↔JG M d a Y g X λk g=>if k then Q true g else JG M d b Y g X Q:=by
 rw[eR];delta Jq;dsimp only;refine(wp_bind (by sleep 9) (by intro k g;cases k;exact mT _ _ _;exact mK _)).trans (wp_congr λx g=>?_)
 cases x
 .exact Yp
 .exact ae
def ac2:JG M d (.not a) Y g X Q↔JG M d a Y g X λk g=>Q (!k) g:=by
 rw[eR];delta Jq;dsimp only;refine(wp_bind (by sleep 9) (by sleep 9)).trans (wp_congr λ_ _=>?_);exact ae
def plainT:E->Bool
 |.and _ _=>false|.or _ _=>false|.not _=>false|_=>true
theorem T_e(h:plainT e=true):JG M d e Y g X Q↔JF M d e Y g X λx g=>∃c,Jd x g=some c/\Q c g:=by
 rw[eR];have:(λn=>Jq (lv M d n) e Y g)=λn=>((lv M d n).ev e Y g).bind λx g=>lift (Jd x g) g:=by
  funext n;cases e<;>first|rfl|cases h
 rw[this];refine(wp_bind (by sleep 9) (by sleep 9)).trans (wp_congr λ_ _=>?_);exact ae.trans wG
def dy:JI M d [] Y g X Q↔Q true g:=by unfold JI;simp![Ay,ae];rfl
def ach:JI M d (c::cs) Y g X Q↔JG M d c Y g X λk g=>if k then JI M d cs Y g X Q else Q false g:=by
 unfold JI;simp![Ay];refine(wp_bind (by sleep 9) (by intro k g;cases k;exact mK _;exact mA _ _ _)).trans (wp_congr λx g=>?_)
 cases x
 .exact ae
 .exact Yp
end
section
variable{Q:Iter->G->Prop}
def abb:JJ M d (.YM a) Y g X Q↔JF M d a Y g X λu g=>∃j,u=.int j/\(-1000000<j/\j<1000000)/\Q (.Y7 0 j.toNat) g:=by
 unfold JJ;delta Jo;dsimp only;refine(wp_bind (by sleep 9) (by sleep 9)).trans (wp_congr λx g=>ae.trans ?_)
 cases x with
 |int a=>
  simp![];split
  .rename_i h;exact⟨λq=>⟨a,rfl,h,q⟩,λ⟨b,e,_,q⟩=>by cases e;exact q⟩
  .rename_i h;exact⟨λq=>q.elim,λ⟨b,e,h',q⟩=>by cases e;exact h h'⟩
 |_=>exact⟨λh=>h.elim,λ⟨_,e,_⟩=>by cases e⟩
def adp:JJ M d (.YY a) Y g X Q↔JF M d a Y g X λu g=>∃k,Jk u g=some k/\Q (.YY k) g:=by
 unfold JJ;delta Jo;dsimp only;refine(wp_bind (by sleep 9) (by sleep 9)).trans (wp_congr λx g=>ae.trans ?_)
 cases Jk x g with
 |none=>exact⟨λh=>h.elim,λ⟨_,e,_⟩=>(by cases e)⟩
 |some k=>exact⟨λq=>⟨k,rfl,q⟩,λ⟨_,e,q⟩=>(by cases e;exact q)⟩
def ado{b:E}:JJ M d (.zip a b) Y g X Q↔JF M d a Y g X λu g=>JF M d b Y g X λw g=>∃k,Jk u g=some k /\∃m,Jk w g=some m/\Q (.zip k m) g:=by
 unfold JJ;delta Jo;dsimp only;refine(wp_bind (by sleep 9) (by sleep 9)).trans (wp_congr λx g=>(wp_bind (by sleep 9) (by sleep 9)).trans (wp_congr λy g=>ae.trans ?_))
 cases Jk x g with
 |none=>exact⟨λh=>h.elim,λ⟨_,e,_⟩=>(by cases e)⟩
 |some k=>
  cases Jk y g with
  |none=>exact⟨λh=>h.elim,λ⟨_,_,_,e,_⟩=>(by cases e)⟩
  |some m=>exact⟨λq=>⟨k,rfl,m,rfl,q⟩,λ⟨_,e,_,e',q⟩=>(by cases e;cases e';exact q)⟩
def acB{b:E}:JJ M d (.Yn a b) Y g X Q↔JF M d a Y g X λu g=>JF M d b Y g X λw g=>∃i j,u=.int i/\w=.int j/\(-1000000<i/\i<1000000 /\ -1000000<j/\j<1000000)/\Q (.Y7 i (j-i).toNat) g:=by
 unfold JJ;delta Jo;dsimp only;refine(wp_bind (by sleep 9) (by sleep 9)).trans (wp_congr λx g=>(wp_bind (by sleep 9) (by sleep 9)).trans (wp_congr λy g=>ae.trans ?_))
 cases x with
 |int a=>
  cases y with
  |int b=>
   simp![];split
   .rename_i h;exact⟨λq=>⟨a,b,rfl,rfl,h,q⟩,λ⟨_,_,e,e',_,q⟩=>by cases e;cases e';exact q⟩
   .rename_i h;exact⟨λq=>q.elim,λ⟨_,_,e,e',h',q⟩=>by cases e;cases e';exact h h'⟩
  |_=>exact⟨λh=>h.elim,λ⟨_,_,_,e,_⟩=>by cases e⟩
 |_=>exact⟨λh=>h.elim,λ⟨_,_,e,_⟩=>by cases e⟩
theorem I_e(h:CT e=true):JJ M d e Y g X Q ↔ JF M d e Y g X λu g=>holds (match u with
  |.Z1 xs=>.ok (.seq xs) g
  |.xn _ xs=>.ok (.seq xs) g
  |.ref n=>match g[n]? with
   |some (.S _)=>.ok (.S n) g
   |some (.ZV Z4)=>.ok (.ZV n) (g.set n (.Zu Z4))
   |some (.Zu _)=>.ok (.ZV n) g
   |_=>.ZZ
  |_=>.ZZ) X Q:=by
 unfold JJ;have:(λn=>Jo (lv M d n) e Y g)=λn=>((lv M d n).ev e Y g).bind λu g=>match u with
  |.Z1 xs=>.ok (.seq xs) g
  |.xn _ xs=>.ok (.seq xs) g
  |.ref n=>match g[n]? with
   |some (.S _)=>.ok (.S n) g
   |some (.ZV Z4)=>.ok (.ZV n) (g.set n (.Zu Z4))
   |some (.Zu _)=>.ok (.ZV n) g
   |_=>.ZZ
  |_=>.ZZ:=by
  funext n;cases e<;>first|rfl|cases h
 rw[this];refine(wp_bind (by sleep 9) (by sleep 9)).trans (wp_congr λ_ _=>?_);exact ae
end
section
def kX:wpS M d [] Y g X Q↔Q (.nx Y) g:=by rw[sP];simp![Js,ae];rfl
def ab8{s:Z5}{a:List Z5}:wpS M d (s::a) Y g X Q↔JK M d s Y g X λf g=>match f with|.nx ZU=>wpS M d a ZU g X Q|f=>Q f g:=by
 rw[sP];simp![Js];refine(wp_bind (by exact m1 _ _ _) (by intro f g;cases f;exact mS _ _ _;exact mK _;exact mK _;exact mK _)).trans (wp_congr λx g=>?_)
 cases x<;>first|exact Yp|exact ae
def adl:JK M d (.ret e) Y g X Q↔JF M d e Y g X λu g=>Q (.rt u) g:=by
 unfold JK;delta Jr;dsimp only;exact(wp_bind (by sleep 9) (by sleep 9)).trans (wp_congr λx g=>ae)
def ac6{t:Tg}:JK M d (.set t e) Y g X Q↔JF M d e Y g X λu g=>∃ZU,Ah t (Jn t u g) Y=some ZU/\Q (.nx ZU) g:=by
 unfold JK;delta Jr;dsimp only;refine(wp_bind (by sleep 9) (by sleep 9)).trans (wp_congr λx g=>ae.trans ?_)
 cases Ah t (Jn t x g) Y with
 |none=>exact⟨λh=>h.elim,λ⟨_,e,_⟩=>by cases e⟩
 |some a=>exact⟨λh=>⟨a,rfl,h⟩,λ⟨b,e,h⟩=>by cases e;exact h⟩
def adG{b:E}:JK M d (.par i j a b) Y g X Q↔JF M d a Y g X λu g=>JF M d b Y g X λw g=>(i<Y.length/\j<Y.length)/\Q (.nx ((Y.set i (some u)).set j (some w))) g:=by
 unfold JK;delta Jr;dsimp only;refine(wp_bind (by sleep 9) (by sleep 9)).trans (wp_congr λx g=>(wp_bind (by sleep 9) (by sleep 9)).trans (wp_congr λy g=>ae.trans ?_))
 split
 .rename_i h;exact⟨λq=>⟨h,q⟩,λq=>q.2⟩
 .rename_i h;exact⟨λq=>q.elim,λq=>h q.1⟩
def abP{cs:List Nat}:JK M d (.fset a j cs e) Y g X Q↔JF M d e Y g X λu g=>JF M d a Y g X λx g=>∃g',A8 x j cs u g=some g'/\Q (.nx Y) g':=by
 unfold JK;delta Jr;dsimp only;refine(wp_bind (by sleep 9) (by sleep 9)).trans (wp_congr λu g=>(wp_bind (by sleep 9) (by sleep 9)).trans (wp_congr λx g=>ae.trans ?_))
 cases A8 x j cs u g with
 |none=>exact⟨λh=>h.elim,λ⟨_,e,_⟩=>by cases e⟩
 |some a=>exact⟨λh=>⟨a,rfl,h⟩,λ⟨b,e,h⟩=>by cases e;exact h⟩
def ac8{o i:E}:JK M d (.sub o i e) Y g X Q↔JF M d e Y g X λu g=>JF M d o Y g X λx g=>JF M d i Y g X λy g=>holds (subAt x y u Y g) X Q:=by
 unfold JK;delta Jr;dsimp only;refine(wp_bind (by sleep 9) (by sleep 9)).trans (wp_congr λ_ _=>?_);refine(wp_bind (by sleep 9) (by sleep 9)).trans (wp_congr λ_ _=>?_);refine(wp_bind (by sleep 9) (by sleep 9)).trans (wp_congr λ_ _=>?_);exact ae
def ac1:JK M d (.exp e) Y g X Q↔JF M d e Y g X λ_ g=>Q (.nx Y) g:=by
 unfold JK;delta Jr;dsimp only;exact(wp_bind (by sleep 9) (by sleep 9)).trans (wp_congr λx g=>ae)
def acU{a:List Z5}:JK M d (.ZE c a b) Y g X Q↔JG M d c Y g X λk g=>if k then wpS M d a Y g X Q else wpS M d b Y g X Q:=by
 unfold JK;delta Jr;dsimp only;refine(wp_bind (by sleep 9) (by intro k g;cases k;exact mS _ _ _;exact mS _ _ _)).trans (wp_congr λx g=>?_)
 cases x<;>exact Yp
def ac9{t:Tg}{it:E}:JK M d (.for t it b) Y g X Q↔JJ M d it Y g X λi g=>JM M d t i 0 b Y g X Q:=by
 unfold JK;delta Jr;dsimp only;exact wp_bind (by sleep 9) (by sleep 9)
def JX(g:G)(Q:Fl->G->Prop)(f:Fl)(g':G):Prop:=match f with
 |.nx Y=>Q (.nx Y) (Bh g g')
 |f=>Q f g'
def oE{o:Out Fl}:holds (o.Ws g) X Q↔holds o X (JX g Q):=by
 cases o with
 |ok f g'=>cases f<;>exact Yp
 |exc c fs g'=>exact Yp
 |ZZ=>exact Yp
def ady:JK M d (.VG b) Y g X Q↔wpS M d b Y g X (JX g Q):=⟨λ⟨n,h⟩=>⟨n,oE.1 h⟩,λ⟨n,h⟩=>⟨n,oE.2 h⟩⟩
def abp:JL M d c b Y g X Q↔JG M d c Y g X λk g=>if k then wpS M d b Y g X λf g=>(match f with
  |.nx ZU=>JL M d c b ZU g X Q
  |.ct ZU=>JL M d c b ZU g X Q
  |.bk ZU=>Q (.nx ZU) g
  |.rt u=>Q (.rt u) g)else Q (.nx Y) g:=by
 rw[abF];simp![Jt];refine(wp_bind (mT _ _ _) λk g=>by cases k;exact mK _;refine mB (mS _ _ _) λf g=>?_;cases f;exact mW _ _ _ _;exact mK _;exact mK _;exact mW _ _ _ _).trans (wp_congr λx g=>?_)
 cases x
 .exact ae
 .simp only [Vy]
  refine(wp_bind (by sleep 9) (by intro f g;cases f;exact mW _ _ _ _;exact mK _;exact mK _;exact mW _ _ _ _)).trans (wp_congr λf g=>?_)
  cases f<;>first|exact Yp|exact ae
def j8{t:Tg}:JM M d t it i b Y g X Q ↔ ∃o,next it i g=some o/\match o with
  |none=>Q (.nx Y) g
  |some u=>∃a,Ah t u Y=some a/\wpS M d b a g X λf g=>match f with
   |.nx ZU=>JM M d t it (i+1) b ZU g X Q
   |.ct ZU=>JM M d t it (i+1) b ZU g X Q
   |.bk ZU=>Q (.nx ZU) g
   |.rt u=>Q (.rt u) g:=by
 rw[acj];simp![Ju];cases next it i g with
 |none=>simp![ae];exact⟨λh=>h.elim,λ⟨_,e,_⟩=>by cases e⟩
 |some o=>
  cases o with
  |none=>simp![ae];exact⟨λh=>⟨none,rfl,h⟩,λ⟨o,e,h⟩=>by cases e;exact h⟩
  |some u=>
   simp![];cases c:Ah t u Y with
   |none=>simp![ae];exact⟨λh=>h.elim,λ⟨_,e,h⟩=>by cases e;let⟨_,e,_⟩:=h;rw[c]at e;cases e⟩
   |some a=>
    simp![];refine(wp_bind (by sleep 9) (by intro f g;cases f;exact mF _ _ _ _ _ _;exact mK _;exact mK _;exact mF _ _ _ _ _ _)).trans ?_
    refine Iff.trans (wp_congr (Q':=λf g=>match f with
       |.nx ZU=>JM M d t it (i+1) b ZU g X Q
       |.ct ZU=>JM M d t it (i+1) b ZU g X Q
       |.bk ZU=>Q (.nx ZU) g
       |.rt u=>Q (.rt u) g) λf g=>?_) ?_
    .cases f<;>first|exact Yp|exact ae
    exact⟨λh=>⟨some u,rfl,a,c,h⟩,λ⟨o,e,h⟩=>by cases e;let⟨j,e,h⟩:=h;rw[c]at e;cases e;exact h⟩
end
def aQ{t:Tg}{Q:List U->G->Prop}:JN M d it i t cs ZQ elt ZX Y g X Q ↔ ∃o,next it i g=some o/\match o with
  |none=>Q ZX g
  |some u=>AF t Y=true /\∃a,Ah t u Y=some a/\JI M d cs a g (λ_ _ _=>False) λk g=>if k then
    match ZQ with
    |[]=>JF M d elt a g (λ_ _ _=>False) λv g=>ZX.length<Ag/\JN M d it (i+1) t cs ZQ elt (ZX++[v]) Y g X Q
    |(t2,YO,Yx)::Xu=>JJ M d YO a g (λ_ _ _=>False) λj g=>JN M d j 0 t2 Yx Xu elt ZX a g (λ_ _ _=>False) λw g=>JN M d it (i+1) t cs ZQ elt w Y g X Q
   else JN M d it (i+1) t cs ZQ elt ZX Y g X Q:=by
 rw[aa0];simp![Jv];cases next it i g with
 |none=>simp![ae];exact⟨λh=>h.elim,λ⟨_,e,_⟩=>by cases e⟩
 |some o=>
  cases o with
  |none=>simp![ae];exact⟨λh=>⟨none,rfl,h⟩,λ⟨o,e,h⟩=>by cases e;exact h⟩
  |some u=>
   simp![];by_cases r:AF t Y=true
   .simp only [r,Vy]
    cases f:Ah t u Y with
    |none=>simp![ae];exact⟨λh=>h.elim,λ⟨_,e,h⟩=>by cases e;let⟨_,_,e,_⟩:=h;rw[f]at e;cases e⟩
    |some a=>
     simp![];refine Iff.trans ?_ ⟨λh=>⟨some u,rfl,trivial,a,f,h⟩,λ⟨o,e,h⟩=>by cases e;let⟨_,y,e,h⟩:=h;rw[f]at e;cases e;exact h⟩
     cases ZQ with
     |nil=>
      refine(aL (by sleep 9) (by intro k g;cases k;exact mM _ _ _ _ _ _ _ _ _;refine mBB (mE _ _ _) λv g=>?_;by_cases h:ZX.length<Ag;simp![h,Vy];exact mM _ _ _ _ _ _ _ _ _;simp![h,VC];exact mK _)).trans (wp_congr λk g=>?_)
      cases k
      .exact Yp
      .refine Iff.trans (aL (by sleep 9) (by intro v g;by_cases h:ZX.length<Ag;simp![h,Vy];exact mM _ _ _ _ _ _ _ _ _;simp![h,VC];exact mK _)) (wp_congr λv g=>?_)
       by_cases h:ZX.length<Ag
       .simp only [h,Vy];exact⟨λq=>⟨trivial,q⟩,λq=>q.2⟩
       .simp only [h,VC];exact⟨λ⟨_,q⟩=>q.elim,λq=>q.1.elim⟩
     |cons t2 Xu=>
      let⟨t2,YO,Yx⟩:=t2;refine(aL (by sleep 9) (by intro k g;cases k;exact mM _ _ _ _ _ _ _ _ _;exact mBB (mI _ _ _) λ_ _=>mBB (mM _ _ _ _ _ _ _ _ _) λ_ _=>mM _ _ _ _ _ _ _ _ _)).trans (wp_congr λk g=>?_)
      cases k
      .exact Yp
      .refine Iff.trans (aL (by sleep 9) (by sleep 9)) (wp_congr λj g=>?_)
       exact aL (by sleep 9) (by sleep 9)
   .have c:AF t Y=false:=by cases h:AF t Y;rfl;exact absurd h r
    simp![c];exact⟨λ⟨_,h⟩=>h.elim,λ⟨_,e,h⟩=>by cases e;exact absurd h.1 #[3]⟩
def abw{f:Nat}{F:Fn}{Q:U->G->Prop}(b:M[f]?=some F)(a:O.length=F.np):JE M (d+1) f O g X Q↔wpS M d F.body (O.map some++List.replicate (F.ns-O.length) none) g X λc g=>match c with
  |.rt u=>Q u g
  |.nx _=>Q .ZN g
  |_=>False:=by
 unfold JE;simp![Ab,b,BJ,a,Vy];refine(wp_bind (f:=λn=>(lv M d n).ex F.body (O.map some++List.replicate (F.ns-F.np) none) g) (mS _ _ _) (by sleep 9)).trans (wp_congr λx g=>ae.trans ?_)
 cases x<;>exact Yp
def zL{f:Nat}{Q:U->G->Prop}(h:JE M d f O g (λ_ _ _=>False) Q):∃fu u g',Ab M fu d f O g=.ok u g'/\Q u g':=by
 let⟨n,h⟩:=h;have h:holds (Ab M n d f O g) (λ_ _ _=>False) Q:=h;revert h;cases e:Ab M n d f O g with
 |ok u g'=>exactλh=>⟨n,u,g',e,h⟩
 |exc c fs g=>exactλh=>h.elim
 |ZZ=>exactλh=>h.elim
end
section
variable{M:List Fn}{X:XP}{ZU:Su}
def kB:JK M d (.VH c b) Y g X Q↔JW M d c b Y g X (lk Q):=Yp
def abe{t:Tg}{it:E}:JK M d (.for t it b) Y g X Q↔JJ M d it Y g X λi g=>JV M d t i 0 b Y g X (lk Q):=ac9
def ab7{Q:Option Int->G->Prop}:JH M d (some e) Y g X Q↔JF M d e Y g X λu g=>JO (match u with|.int i=>some i|_=>none) <| lk λi=>Q (some i) g:=aaR.trans (wp_congr λx g=>by
 cases x with
 |int z=>exact⟨λ⟨_,e,h⟩=>(by cases e;exact h),λh=>⟨z,rfl,h⟩⟩
 |_=>exact⟨λ⟨_,e,h⟩=>(by cases e),λh=>h.elim⟩)
section
variable{Q:U->G->Prop}
def z5{cs:List Nat}{Q:Fl->G->Prop}:JK M d (.fset a j cs e) Y g X Q↔JF M d e Y g X λu g=>JF M d a Y g X λx g=>JO (A8 x j cs u g) <| lk λg'=>Q (.nx Y) g':=by simp![abP,aG]
end
section
variable{Q:Bool->G->Prop}
def adf{b:E}:JG M d (.and a b) Y g X Q↔JG M d a Y g X λk g=>JP k (lk (JG M d b Y g X Q)) (lk (Q false g)):=adv.trans (wp_congr λk g=>cP)
def t_or{b:E}:JG M d (.or a b) Y g X Q↔JG M d a Y g X λk g=>JP k (lk (Q true g)) (lk (JG M d b Y g X Q)):=T_or.trans (wp_congr λk g=>cP)
def t_e(h:plainT e=true):JG M d e Y g X Q↔JF M d e Y g X λx g=>JO (Jd x g) <| lk λc=>Q c g:=(T_e h).trans (wp_congr λx g=>aG)
def acb:JI M d (c::cs) Y g X Q↔JG M d c Y g X λk g=>JP k (lk (JI M d cs Y g X Q)) (lk (Q false g)):=ach.trans (wp_congr λk g=>cP)
end
section
variable{Q:Iter->G->Prop}
def Aj(j:Int):Bool:=@decide (-1000000<j/\j<1000000) (Classical.propDecidable _)
def ar{j:Int}(h : -1000000<j)(h':j<1000000):Aj j=true:=by unfold Aj;exact @decide_eq_true _ (Classical.propDecidable _) ⟨h,h'⟩
def acO:JJ M d (.YM a) Y g X Q↔JF M d a Y g X λu g=>JO (match u with|.int i=>some i|_=>none) <| lk λj=>JP (Aj j) (lk (Q (.Y7 0 j.toNat) g)) (lk False):=abb.trans (wp_congr λu g=>by
 cases u with
 |int i=>
  show _↔JP (Aj i) (lk _) (lk _);by_cases h : -1000000<i/\i<1000000
  .rw [show Aj i=true by unfold Aj;exact @decide_eq_true _ (Classical.propDecidable _) h]
   exact⟨λ⟨_,e,_,q⟩=>(by cases e;exact q),λq=>⟨i,rfl,h,q⟩⟩
  .rw [show Aj i=false by unfold Aj;exact @decide_eq_false _ (Classical.propDecidable _) h]
   exact⟨λ⟨_,e,q,_⟩=>(by cases e;exact h q),λq=>q.elim⟩
 |_=>exact⟨λ⟨_,e,h⟩=>(by cases e),λh=>h.elim⟩)
def abS{b:E}:JJ M d (.Yn a b) Y g X Q↔JF M d a Y g X λu g=>JF M d b Y g X λw g=>JO (match u with|.int i=>some i|_=>none) <| lk λi=>JO (match w with|.int i=>some i|_=>none) <| lk λj=>JP (Aj i&&Aj j) (lk (Q (.Y7 i (j-i).toNat) g)) (lk False):=acB.trans (wp_congr λu g=>wp_congr λw g=>by
 cases u with
 |int i=>
  cases w with
  |int j=>
   show _↔JP (Aj i&&Aj j) (lk _) (lk _);by_cases h:(Aj i&&Aj j)=true
   .rw [h]
    have h':=h;simp![Aj,Yk,Xh]at h';exact⟨λ⟨_,_,e,e',_,q⟩=>(by cases e;cases e';exact q),λq=>⟨i,j,rfl,rfl,⟨h'.1.1,h'.1.2,h'.2.1,h'.2.2⟩,q⟩⟩
   .rw [Rc]at h
    rw[h];exact⟨λ⟨_,_,e,e',q,_⟩=>by cases e;cases e';simp[Aj,q]at h,λq=>q.elim⟩
  |_=>exact⟨λ⟨_,_,e,e',h⟩=>(by cases e'),λh=>h.elim⟩
 |_=>exact⟨λ⟨_,_,e,h⟩=>(by cases e),λh=>h.elim⟩)
def Br(u:U)(g:G):Option (Iter×G):=match u with
 |.Z1 xs=>some (.seq xs,g)
 |.xn _ xs=>some (.seq xs,g)
 |.ref n=>match g[n]? with
  |some (.S _)=>some (.S n,g)
  |some (.ZV Z4)=>some (.ZV n,g.set n (.Zu Z4))
  |some (.Zu _)=>some (.ZV n,g)
  |_=>none
 |_=>none
def i_e(h:CT e=true):JJ M d e Y g X Q↔JF M d e Y g X λu g=>JO (Br u g) <| lk λp=>Q p.1 p.2:=(I_e h).trans (wp_congr λu g=>by
 cases u with
 |ref n=>
  simp![Br];cases g[n]? with
  |none=>exact Yp
  |some o=>cases o<;>exact Yp
 |_=>exact Yp)
def adj{b:E}:JJ M d (.zip a b) Y g X Q↔JF M d a Y g X λu g=>JF M d b Y g X λw g=>JO (Jk u g) <| lk λk=>JO (Jk w g) <| lk λm=>Q (.zip k m) g:=by simp![ado,aG]
def adF:JJ M d (.YY a) Y g X Q↔JF M d a Y g X λu g=>JO (Jk u g) <| lk λk=>Q (.YY k) g:=by simp![adp,aG]
end
section
def iX{s:Z5}{a:List Z5}:wpS M d (s::a) Y g X Q↔JK M d s Y g X λf g=>JQ f (lk (λZU=>wpS M d a ZU g X Q)) (lk λf=>Q f g):=ab8.trans (wp_congr λf g=>by cases f<;>exact Yp)
def abQ{t:Tg}:JK M d (.set t e) Y g X Q↔JF M d e Y g X λu g=>JO (Ah t (Jn t u g) Y) <| lk λZU=>Q (.nx ZU) g:=ac6.trans (wp_congr λx g=>aG)
def abd{b:E}:JK M d (.par i j a b) Y g X Q↔JF M d a Y g X λu g=>JF M d b Y g X λw g=>JP (decide (i<Y.length)&&decide (j<Y.length)) (lk (Q (.nx ((Y.set i (some u)).set j (some w))) g)) (lk False):=adG.trans (wp_congr λx g=>wp_congr λy g=>by
 by_cases h:i<Y.length<;>by_cases k:j<Y.length<;>simp[h,k,JP])
def abf{o i:E}:JK M d (.sub o i e) Y g X Q↔JF M d e Y g X λu g=>JF M d o Y g X λx g=>JF M d i Y g X λy g=>hk (subAt x y u Y g) X (lk Q):=ac8
def ab5{a:List Z5}:JK M d (.ZE c a b) Y g X Q↔JG M d c Y g X λk g=>JP k (lk (wpS M d a Y g X Q)) (lk (wpS M d b Y g X Q)):=acU.trans (wp_congr λk g=>cP)
def acq:JL M d c b Y g X Q↔JG M d c Y g X λk g=>JP k (lk (wpS M d b Y g X λf g=>JR f (lk (λZU=>JL M d c b ZU g X Q)) (lk λf=>Q f g))) (lk (Q (.nx Y) g)):=abp.trans (wp_congr λk g=>cP.trans (by
 cases k
 .exact Yp
 .exact wp_congr λf g=>by cases f<;>exact Yp))
def so{f:Nat}{F:Fn}{Q:U->G->Prop}(b:M[f]?=some F)(a:O.length=F.np):JE M (d+1) f O g X Q↔wpS M d F.body (O.map some++List.replicate (F.ns-O.length) none) g X λc g=>JS c <| lk λu=>Q u g:=(abw b a).trans (wp_congr λf g=>by cases f<;>exact Yp)
def bz{t:Tg}{it:Iter}{b:List Z5}(O:List U)(a:Nat->Su->G->Prop)
  (c:∀k Y g,a k Y g->next it k g=some O[k]?)
  (j:∀k u Y g,O[k]?=some u->a k Y g->JO (Ah t u Y) (lk λm=>wpS M d b m g X λf g=>JR f (lk (λZU=>a (k+1) ZU g)) (lk λf=>Q f g)))
  (l:∀Y g,a O.length Y g->Q (.nx Y) g):∀(n i:Nat) (Y:Su) (g:G),i+n=O.length->a i Y g->JM M d t it i b Y g X Q
 |0,i,Y,g,e,h=>by
  have e:i=O.length:=by lia
  subst e;rw[j8];exact⟨none,by rw[c _ _ _ h];simp,l _ _ h⟩
 |n+1,i,Y,g,e,h=>by
  have hi:i<O.length:=by lia
  rw[j8];let⟨m,o,w⟩:=aG.2 (j i O[i] Y g (Ww hi) h);refine⟨some O[i],by rw[c _ _ _ h,Ww hi],m,o,wp_mono w λf g q=>?_⟩
  cases f with
  |nx ZU=>exact bz O a c j l n (i+1) ZU g (by lia) q
  |ct ZU=>exact bz O a c j l n (i+1) ZU g () q
  |bk ZU=>exact q
  |rt u=>exact q
def uo(e:Nat->Su->G->Prop)
  (i:∀n Y g,e n Y g->JG M d c Y g X λk g=>JP k (lk (wpS M d b Y g X λf g=>JR f (lk (λZU=>∃m,m<n/\e m ZU g)) (lk λf=>Q f g))) (lk (Q (.nx Y) g))):∀(n:Nat) (Y:Su) (g:G),e n Y g->JL M d c b Y g X Q:=by
 intro n
 induction n using Nat.strongRecOn with
 |_ n ih=>
  intro Y g h;rw[acq];refine wp_mono (i n Y g h) λk g q=>?_;cases k
  .exact q
  .refine wp_mono q λf g q=>?_
   cases f with
   |nx ZU=>let⟨m,a,q⟩:=q;exact ih m a _ _ q
   |ct ZU=>let⟨m,a,q⟩:=q;exact ih m a _ _ q
   |bk ZU=>exact q
   |rt u=>exact q
end
def JY{b:Type}(o:Option b){A:Prop}{Q:b->Prop}(_:Lk A)(_:Lk Q):Prop:=match o with
 |none=>A
 |some a=>Q a
def nA{A:Prop}{Q:α->Prop}:JY none (lk A) (lk Q)=A:=propext Yp
def nz{a:α}{A:Prop}{Q:α->Prop}:JY (some a) (lk A) (lk Q)=Q a:=propext Yp
def adh{t:Tg}:JV M d t (.seq xs) i b Y g X (lk Q)↔JY xs[i]? (lk (Q (.nx Y) g)) (lk λu=>JO (Ah t u Y) (lk λc=>wpS M d b c g X λf g=>JR f (lk λZU=>JV M d t (.seq xs) (i+1) b ZU g X (lk Q)) (lk λf=>Q f g))):=by
 refine Iff.trans j8 ?_;constructor
 .rintro ⟨o,e,h⟩
  cases e;cases a:xs[i]? with
  |none=>rw[a]at h;exact h
  |some u=>
   rw[a]at h;let⟨c,j,h⟩:=h;refine aG.1 ⟨c,j,wp_mono h λf g q=>?_⟩;cases f<;>exact q
 .intro h
  refine⟨xs[i]?,rfl,?_⟩;cases a:xs[i]? with
  |none=>rw[a]at h;exact h
  |some u=>
   rw[a]at h;let⟨c,j,h⟩:=aG.2 h;refine⟨c,j,wp_mono h λf g q=>?_⟩;cases f<;>exact q
end
variable{X:XP}{f:E->Su->Option U}{b it o:E}{x:U}{y:Option U}{Q:U->G->Prop}{i:Int}{hi:Option E}{QB:Bool->G->Prop}{QI:Iter->G->Prop}{z:Bool}{A:Prop}
def AR(f:E->Su->Option U):List E->Su->Option (List U)
 |[],_=>some []
 |e::es,Y=>match f e Y with
  |some u=>match AR f es Y with
   |some O=>some (u::O)
   |none=>none
  |none=>none
def Bv(x y:Option U):Option U:=match x with
 |some (.int i)=>match y with
  |some (.int j)=>some (.int (i+j))
  |_=>none
 |_=>none
def BK(x y:Option U):Option U:=match x with
 |some (.int i)=>match y with
  |some (.int j)=>some (.int (i-j))
  |_=>none
 |_=>none
def tupP(x:Option (List U)):Option U:=match x with
 |some O=>match Nat.ble O.length 1000 with
  |true=>some (.Z1 O)
  |false=>none
 |none=>none
def JZ(x:Option U)(k:Int):Option U:=match x with
 |some (.Z1 xs)=>Je xs k
 |_=>none
def Dl(o:Option (Option U)):Option U:=match o with
 |some o=>o
 |none=>none
def J0:Nat->E->Su->Option U
 |0,_,_=>none
 |n+1,e,Y=>match e with
  |.L i=>Dl Y[i]?
  |.Z3 u=>some u
  |.Z1 es=>tupP (AR (J0 n) es Y)
  |.ZW .add a b=>Bv (J0 n a Y) (J0 n b Y)
  |.ZW .sub a b=>BK (J0 n a Y) (J0 n b Y)
  |.idx a (.Z3 (.int k))=>JZ (J0 n a Y) k
  |_=>none
section
variable{M:List Fn}
def pEs{f:E->Su->Option U}(b:∀e u (Q:U->G->Prop),f e Y=some u->(JF M d e Y g X Q↔Q u g)):∀(es:List E) (O:List U) (Q:List U->G->Prop),AR f es Y=some O->(Ap M d es Y g X Q↔Q O g)
 |[],O,Q,h=>by cases h;exact sv
 |e::es,O,Q,h=>by
  cases he:f e Y with
  |none=>simp![AR,he]at h;cases h
  |some u=>
   cases a:AR f es Y with
   |none=>simp![AR,he,a]at h;cases h
   |some c=>
    simp![AR,he,a]at h;cases h;exact rP.trans ((b e u _ he).trans (pEs b es c _ a))
def uK{f:Option U->Option U->Option U}{x:Option U}{u:U}{Q:U->G->Prop}(h:∀u (Q:U->G->Prop),x=some u->(JF M d a Y g X Q↔Q u g))(e:∀u (Q:U->G->Prop),y=some u->(JF M d b Y g X Q↔Q u g))(c:f x y=some u)(k:∀u,f x y=some u ->∃i j,x=some (.int i)/\y=some (.int j)/\IZ op (.int i) (.int j)=some u):JF M d (.ZW op a b) Y g X Q↔Q u g:=by
 let⟨i,j,n,m,l⟩:=k u c;refine uI.trans ((h _ _ n).trans ((e _ _ m).trans ?_));rw[vo,l,cZ]
def pE:∀(n:Nat) (e:E) (u:U) (Q:U->G->Prop),J0 n e Y=some u->(JF M d e Y g X Q↔Q u g)
 |0,_,_,_,h=>by cases h
 |n+1,e,u,Q,h=>by
  have ih:=pE n;cases e with
  |L i=>
   have h:Dl Y[i]?=some u:=h;refine uF.trans ?_;cases c:Y[i]? with
   |none=>rw[c]at h;cases h
   |some o=>rw[c]at h;have h:o=some u:=h;subst h;exact Yp
  |Z3 v=>cases(show some v=some u from h);exact uE
  |Z1 es=>
   have h:tupP (AR (J0 n) es Y)=some u:=h;cases c:AR (J0 n) es Y with
   |none=>rw[c]at h;cases h
   |some O=>
    rw[c]at h;simp![tupP]at h;cases j:Nat.ble O.length 1000 with
    |true=>
     rw[j]at h;cases h;refine vd.trans ((pEs (λe u Q h=>ih e u Q h) es O _ c).trans ?_);rw[fY (by have:=Nat.le_of_ble_eq_true j;lia),fc]
    |false=>rw[j]at h;cases h
  |ZW op a b=>
   cases op with
   |add=>
    have h:Bv (J0 n a Y) (J0 n b Y)=some u:=h;refine uK (f:=Bv) (λu Q h=>ih a u Q h) (λu Q h=>ih b u Q h) h λu h=>?_;unfold Bv at h;split at h
    .split at h
     .cases h;exact⟨_,_,‹_›,‹_›,rfl⟩
     .cases h
    .cases h
   |sub=>
    have h:BK (J0 n a Y) (J0 n b Y)=some u:=h;refine uK (f:=BK) (λu Q h=>ih a u Q h) (λu Q h=>ih b u Q h) h λu h=>?_;unfold BK at h;split at h
    .split at h
     .cases h;exact⟨_,_,‹_›,‹_›,rfl⟩
     .cases h
    .cases h
   |_=>exact nomatch (show none=some u from h)
  |idx a b=>
   cases b with
   |Z3 v=>
    cases v with
    |int k=>
     have h:JZ (J0 n a Y) k=some u:=h;cases l:J0 n a Y with
     |none=>rw[l]at h;cases h
     |some x=>
      rw[l]at h;refine uw.trans ((ih a x _ l).trans (uE.trans ?_));cases x with
      |Z1 xs=>
       have h:Je xs k=some u:=h;show JO (Je xs k) (lk _)↔_;rw[h,cZ]
      |_=>cases h
    |_=>exact nomatch (show none=some u from h)
   |_=>exact nomatch (show none=some u from h)
  |_=>exact nomatch (show none=some u from h)
def J1(M:List Fn)(d:Nat)(e:E)(Y:Su)(g:G)(X:XP)(Q:U->G->Prop):Prop:=JF M d e Y g X Q
def J3(M:List Fn)(d:Nat)(a:List E)(Y:Su)(g:G)(X:XP)(Q:List U->G->Prop):Prop:=Ap M d a Y g X Q
def p_E:JF M d e Y g X Q=JY (J0 8 e Y) (lk (J1 M d e Y g X Q)) (lk λu=>Q u g):=propext (by
 cases h:J0 8 e Y with
 |none=>exact Yp
 |some u=>exact pE 8 e u Q h)
def p_Es{Q:List U->G->Prop}:Ap M d es Y g X Q=JY (AR (J0 8) es Y) (lk (J3 M d es Y g X Q)) (lk λO=>Q O g):=propext (by
 cases h:AR (J0 8) es Y with
 |none=>exact Yp
 |some O=>exact pEs (λe u Q h=>pE 8 e u Q h) es O Q h)
def gi{a:Nat}{b:List Nat}{t:Tg}{k:E}:J1 M d (.X6 a b ((t,it,cs)::ZQ) k v) Y g X Q↔JJ M d it Y g X λi g=>JU M d i 0 t cs ZQ (.pair k v) [] (List.replicate a none++b.map λj=>(Y[j]?).getD none) g (λ_ _ _=>False) (lk λO g=>JO (dfold O []) <| lk λZ4=>Q (.ref g.length) (g++[.ZV Z4])):=abZ
def gL{k:E}:J1 M d (.pair k v) Y g X Q↔JF M d k Y g X λx g=>JF M d v Y g X λy g=>JO (keyOf x) <| lk λ_=>Q (.Z1 [x,y]) g:=aaY
def il{k x:E}:J1 M d (.Xd o k x) Y g X Q↔JF M d o Y g X λy g=>JO (Ja y g) <| lk λ_=>JF M d k Y g X λz g=>JF M d x Y g X λw g=>JO (Al z y g) <| lk λq=>Q (q.getD w) g:=adC
def gj{a:Nat}{b:List Nat}{t:Tg}:J1 M d (.comp a b ((t,it,cs)::ZQ) elt) Y g X Q↔JJ M d it Y g X λi g=>JU M d i 0 t cs ZQ elt [] (List.replicate a none++b.map λj=>(Y[j]?).getD none) g (λ_ _ _=>False) (lk λO g=>O.length<=Ag/\Q (.ref g.length) (g++[.S O])):=acD
def gx{a:List PySem.Str}:J1 M d (.Wc a es) Y g X Q↔Ap M d es Y g X λO g=>Q (.ref g.length) (g++[.dst (a.zip O)]):=aaK
def gC:J1 M d .XT Y g X Q↔Q (.ref g.length) (g++[.ZV []]):=acF
def tH{i:Nat}:J1 M d (.L i) Y g X Q↔JO Y[i]? (lk λo=>JO o (lk λu=>Q u g)):=uF
end
section
def nh:AR f [] Y=some []:=rfl
def jC:AR f (e::es) Y=match f e Y with
  |some u=>match AR f es Y with
   |some O=>some (u::O)
   |none=>none
  |none=>none:=rfl
def ng{i:Nat}:J0 (n+1) (.L i) Y=Dl Y[i]?:=rfl
def l0:J0 (n+1) (.Z3 u) Y=some u:=rfl
def lM:J0 (n+1) (.Z1 es) Y=tupP (AR (J0 n) es Y):=rfl
def lE:J0 (n+1) (.ZW .add a b) Y=Bv (J0 n a Y) (J0 n b Y):=rfl
def lX:J0 (n+1) (.ZW .sub a b) Y=BK (J0 n a Y) (J0 n b Y):=rfl
def lj{k:Int}:J0 (n+1) (.idx a (.Z3 (.int k))) Y=JZ (J0 n a Y) k:=rfl
def j2{o:Option U}:Dl (some o)=o:=rfl
def iK{a:U}:tupP (some [a])=some (.Z1 [a]):=rfl
def jf{a b:U}:tupP (some [a,b])=some (.Z1 [a,b]):=rfl
def ic{a b c:U}:tupP (some [a,b,c])=some (.Z1 [a,b,c]):=rfl
def jN{a b c d:U}:tupP (some [a,b,c,d])=some (.Z1 [a,b,c,d]):=rfl
def iV{a b c d e:U}:tupP (some [a,b,c,d,e])=some (.Z1 [a,b,c,d,e]):=rfl
def jJ{a b c d e f:U}:tupP (some [a,b,c,d,e,f])=some (.Z1 [a,b,c,d,e,f]):=rfl
def jw{a b c d e f g:U}:tupP (some [a,b,c,d,e,f,g])=some (.Z1 [a,b,c,d,e,f,g]):=rfl
def hY{a b c d e f g h:U}:tupP (some [a,b,c,d,e,f,g,h])=some (.Z1 [a,b,c,d,e,f,g,h]):=rfl
def jB:tupP none=none:=rfl
def kc{j:Int}:Bv (some (.int i)) (some (.int j))=some (.int (i+j)):=rfl
def jg{j:Int}:BK (some (.int i)) (some (.int j))=some (.int (i-j)):=rfl
def iz:Bv none y=none:=rfl
def kL:BK none y=none:=rfl
def ig:Bv (some (.int i)) none=none:=rfl
def jt:BK (some (.int i)) none=none:=rfl
def kr{i:Nat}:Bv (some (.ref i)) y=none:=rfl
def lD{k:Int}:JZ (some (.Z1 xs)) k=Je xs k:=rfl
def lJ{k:Int}:JZ (some (.ref n)) k=none:=rfl
def kY{k:Int}:JZ (some (.Zm xs)) k=none:=rfl
def mQ{c:Nat}{k:Int}:JZ (some (.xn c xs)) k=none:=rfl
def l7{k:Int}:JZ none k=none:=rfl
def m9:J0 (n+1) (.ZW .mul a b) Y=none:=rfl
def j1:J0 (n+1) (.ZW .fdiv a b) Y=none:=rfl
def lr:J0 (n+1) (.ZW .mod a b) Y=none:=rfl
def mV:J0 (n+1) (.ZW .pow a b) Y=none:=rfl
def lg{o:Cp}:J0 (n+1) (.cmp o a b) Y=none:=rfl
def gh{o q:Cp}:J0 (n+1) (.chain o q a b c) Y=none:=rfl
def lz:J0 (n+1) (.and a b) Y=none:=rfl
def nC:J0 (n+1) (.or a b) Y=none:=rfl
def kT:J0 (n+1) (.not a) Y=none:=rfl
def lY:J0 (n+1) (.neg a) Y=none:=rfl
def lQ:J0 (n+1) (.S es) Y=none:=rfl
def lC{b:Option E}:J0 (n+1) (.XU a b hi) Y=none:=rfl
def ls:J0 (n+1) (.rev a) Y=none:=rfl
def iR{f:Nat}:J0 (n+1) (.call f es) Y=none:=rfl
def mR{cs:List Nat}:J0 (n+1) (.fld a j cs) Y=none:=rfl
def jb{c f:Nat}{a:List E}:J0 (n+1) (.make c f es a pm) Y=none:=rfl
def ij{b:List E}:J0 (n+1) (.Zg a j tb es b) Y=none:=rfl
def jy{c:Bool}:J0 (n+1) (.Wd c a) Y=none:=rfl
def nq{b:Bi}:J0 (n+1) (.bi b es) Y=none:=rfl
def m7{t:Ty}:J0 (n+1) (.YR a t) Y=none:=rfl
def mi:J0 (n+1) (.app o v) Y=none:=rfl
def ma:J0 (n+1) (.ext o v) Y=none:=rfl
def k8:J0 (n+1) (.pop o) Y=none:=rfl
def j7  : J0 (n+1) .XT Y=none:=rfl
def jS{a:List Nat}:J0 (n+1) (.comp m a gs e) Y=none:=rfl
def kG{a:List PySem.Str}:J0 (n+1) (.Wc a es) Y=none:=rfl
def k7{k x:E}:J0 (n+1) (.Xd o k x) Y=none:=rfl
def ja{k:E}:J0 (n+1) (.pair k v) Y=none:=rfl
def ky{a:List Nat}{k:E}:J0 (n+1) (.X6 m a gs k v) Y=none:=rfl
def me{i:Nat}:J0 (n+1) (.idx a (.L i)) Y=none:=rfl
def mq{f:Nat}:J0 (n+1) (.idx a (.call f es)) Y=none:=rfl
def k9:J0 (n+1) (.idx a (.Z1 es)) Y=none:=rfl
def mD{o:Op}:J0 (n+1) (.idx a (.ZW o b c)) Y=none:=rfl
def lF{s:PySem.Str}:J0 (n+1) (.idx a (.Z3 (.str s))) Y=none:=rfl
def mG:J0 (n+1) (.idx a (.idx b c)) Y=none:=rfl
def mw:J0 (n+1) (.idx a (.neg b)) Y=none:=rfl
end
section
variable{M:List Fn}{QL:List U->G->Prop}{QO:Option Int->G->Prop}{cp:Cp}{cq:Cp}{i:Nat}{k:Nat}{f:Nat}{cc:Nat}{cs:List Nat}{ks:List E}{p:Nat×List (Nat ⊕ U)}{y:U}{w:U}{ws:List U}{lo:Option E}{l:Option Int}{h:Option Int}{t:Tg}{ty:Ty}{n:Int}{s:Z5}{ss:List Z5}{A:List Z5}{B:List Z5}{ao:Op}{st:Su}{bb:Bi}{YO:Iter}{pq:Iter×G}{g2:G}{nn:Nat}{ces:List E}{os:Option U}
def KV{b:Type}(g:G)(Q:b->G->Prop)(a:b):Prop:=Q a g
def vn{Q:α->G->Prop}{a:α}:JO (some a) (lk (KV g Q))=Q a g:=propext Yp
theorem TH{Q:α->G->Prop}{a:α}{A:Prop}:JY (some a) (lk A) (lk (KV g Q))=Q a g:=propext Yp
def vq{Q:α->G->Prop}{A:Prop}:JY none (lk A) (lk (KV g Q))=A:=propext Yp
def nF{Q:α->G->Prop}{a:α}:KV g Q a=Q a g:=propext Yp
def k_E  : JF M d e Y g X Q=JY (J0 8 e Y) (lk (J1 M d e Y g X Q)) (lk (KV g Q)):=p_E
def nB  : Ap M d es Y g X QL=JY (AR (J0 8) es Y) (lk (J3 M d es Y g X QL)) (lk (KV g QL)):=p_Es
def KB(g:G)(Q:U->G->Prop)(z:Bool):Prop:=Q (.bl z) g
def vm  : JO (some z) (lk (KB g Q))=(Q (.bl z) g):=propext Yp
def nv  : KB g Q z=(Q (.bl z) g):=propext Yp
def Kl2(u:U)(a:List U->G->Prop)(O:List U)(g:G):Prop:=a (u::O) g
def mf  : Kl2 u QL O g=(QL (u::O) g):=propext Yp
def Kl1(M:List Fn)(d:Nat)(a:List E)(Y:Su)(X:XP)(b:List U->G->Prop)(u:U)(g:G):Prop:=Ap M d a Y g X (Kl2 u b)
def lI  : Kl1 M d es Y X QL u g=(Ap M d es Y g X (Kl2 u QL)):=propext Yp
def sj  : J3 M d [] Y g X QL↔QL [] g:=sv
def gH  : J3 M d (e::es) Y g X QL↔JF M d e Y g X (Kl1 M d es Y X QL):=rP
def DQ(a:Op)(x:U)(X:XP)(Q:U->G->Prop)(y:U)(g:G):Prop:=ob a x y g X (lk Q)
def gz  : DQ op x X Q y g=(ob op x y g X (lk Q)):=propext Yp
def FH(M:List Fn)(d:Nat)(a:Op)(b:E)(Y:Su)(X:XP)(Q:U->G->Prop)(x:U)(g:G):Prop:=JF M d b Y g X (DQ a x X Q)
def gv  : FH M d op b Y X Q x g=(JF M d b Y g X (DQ op x X Q)):=propext Yp
def mv  : J1 M d (.ZW op a b) Y g X Q↔JF M d a Y g X (FH M d op b Y X Q):=uI
def nG{i:Int}{y:U}:ob op (.int i) y g X (lk Q)=JO (IZ op (.int i) y) (lk (KV g Q)):=vo
def B3(a:Cp)(x:U)(Q:U->G->Prop)(y:U)(g:G):Prop:=JO (Jc a x y g) (lk (KB g Q))
def hU  : B3 cp x Q y g=(JO (Jc cp x y g) (lk (KB g Q))):=propext Yp
def Fw(M:List Fn)(d:Nat)(a:Cp)(b:E)(Y:Su)(X:XP)(Q:U->G->Prop)(x:U)(g:G):Prop:=JF M d b Y g X (B3 a x Q)
def gf  : Fw M d cp b Y X Q x g=(JF M d b Y g X (B3 cp x Q)):=propext Yp
def kZ  : J1 M d (.cmp cp a b) Y g X Q↔JF M d a Y g X (Fw M d cp b Y X Q):=adS
def Df(M:List Fn)(d:Nat)(a:Cp)(y:U)(c:E)(Y:Su)(g:G)(X:XP)(Q:U->G->Prop)(z:Bool):Prop:=JP z (lk (JF M d c Y g X (B3 a y Q))) (lk (Q (.bl false) g))
def sG  : JO (some z) (lk (Df M d cq y c Y g X Q))=(JP z (lk (JF M d c Y g X (B3 cq y Q))) (lk (Q (.bl false) g))):=propext Yp
def jn  : Df M d cq y c Y g X Q z=(JP z (lk (JF M d c Y g X (B3 cq y Q))) (lk (Q (.bl false) g))):=propext Yp
def DR(M:List Fn)(d:Nat)(b:Cp)(a:Cp)(x:U)(c:E)(Y:Su)(X:XP)(Q:U->G->Prop)(y:U)(g:G):Prop:=JO (Jc b x y g) (lk (Df M d a y c Y g X Q))
def kq  : DR M d cp cq x c Y X Q y g=(JO (Jc cp x y g) (lk (Df M d cq y c Y g X Q))):=propext Yp
def FW(M:List Fn)(d:Nat)(e:Cp)(a:Cp)(b:E)(c:E)(Y:Su)(X:XP)(Q:U->G->Prop)(x:U)(g:G):Prop:=JF M d b Y g X (DR M d e a x c Y X Q)
def kD  : FW M d cp cq b c Y X Q x g=(JF M d b Y g X (DR M d cp cq x c Y X Q)):=propext Yp
def gT  : J1 M d (.chain cp cq a b c) Y g X Q↔JF M d a Y g X (FW M d cp cq b c Y X Q):=y6
def Gz(M:List Fn)(d:Nat)(b:E)(Y:Su)(X:XP)(Q:U->G->Prop)(x:U)(g:G):Prop:=JO (match x with|.bl z=>some z|_=>none) <| lk λz=>JP z (lk (JF M d b Y g X Q)) (lk (Q (.bl false) g))
def jD{M:List Fn}:Gz M d b Y X Q (.bl z) g=JP z (lk (JF M d b Y g X Q)) (lk (Q (.bl false) g)):=propext Yp
def lV  : J1 M d (.and a b) Y g X Q↔JF M d a Y g X (Gz M d b Y X Q):=ac3
def Kor(M:List Fn)(d:Nat)(b:E)(Y:Su)(X:XP)(Q:U->G->Prop)(x:U)(g:G):Prop:=JO (match x with|.bl z=>some z|_=>none) <| lk λz=>JP z (lk (Q (.bl true) g)) (lk (JF M d b Y g X Q))
def mP{M:List Fn}:Kor M d b Y X Q (.bl z) g=JP z (lk (Q (.bl true) g)) (lk (JF M d b Y g X Q)):=propext Yp
def nH  : J1 M d (.or a b) Y g X Q↔JF M d a Y g X (Kor M d b Y X Q):=e_or
def Knt(g:G)(Q:U->G->Prop)(z:Bool):Prop:=Q (.bl !z) g
def u4  : JO (some z) (lk (Knt g Q))=(Q (.bl !z) g):=propext Yp
def lK  : Knt g Q z=(Q (.bl !z) g):=propext Yp
def F0(Q:U->G->Prop)(x:U)(g:G):Prop:=JO (Jd x g) (lk (Knt g Q))
def jv  : F0 Q x g=(JO (Jd x g) (lk (Knt g Q))):=propext Yp
def mZ  : J1 M d (.not a) Y g X Q↔JF M d a Y g X (F0 Q):=adw
def GJ(Q:U->G->Prop)(x:U)(g:G):Prop:=JO (match x with|.int i=>some i|_=>none) <| lk λi=>Q (.int (-i)) g
def jr{i:Int}:GJ Q (.int i) g=Q (.int (-i)) g:=propext Yp
def my  : J1 M d (.neg a) Y g X Q↔JF M d a Y g X (GJ Q):=ac5
def FZ(Q:U->G->Prop)(O:List U)(g:G):Prop:=JP (Bb O.length) (lk (Q (.Z1 O) g)) (lk False)
def kO  : FZ Q O g=(JP (Bb O.length) (lk (Q (.Z1 O) g)) (lk False)):=propext Yp
def lG  : J1 M d (.Z1 es) Y g X Q↔Ap M d es Y g X (FZ Q):=vd
def Gv(Q:U->G->Prop)(O:List U)(g:G):Prop:=JP (Bb O.length) (lk (Q (.ref g.length) (g++[.S O]))) (lk False)
def jz  : Gv Q O g=(JP (Bb O.length) (lk (Q (.ref g.length) (g++[.S O]))) (lk False)):=propext Yp
def lW  : J1 M d (.S es) Y g X Q↔Ap M d es Y g X (Gv Q):=adq
def DU(i:Int)(g:G)(Q:U->G->Prop)(xs:List U):Prop:=JO (Je xs i) (lk (KV g Q))
def sZ{i:Int}:JO (some xs) (lk (DU i g Q))=JO (Je xs i) (lk (KV g Q)):=propext Yp
def jc{i:Int}:DU i g Q xs=JO (Je xs i) (lk (KV g Q)):=propext Yp
def CO(x:U)(Q:U->G->Prop)(y:U)(g:G):Prop:=match y with|.Z1 O=>JO ((Al (.Z1 O) x g).bind id) <| lk λz=>Q z g|.str k=>JO ((I9 x g).bind λZ4=>A1 Z4 k) <| lk λz=>Q z g|y=>JO (match y with|.int i=>some i|_=>none) <| lk λi=>JO (items x g) <| lk λxs=>JO (Je xs i) <| lk λz=>Q z g
def jZ{i:Int}:CO x Q (.int i) g=JO (items x g) (lk (DU i g Q)):=propext Yp
def iF:CO x Q (.Z1 O) g=JO ((Al (.Z1 O) x g).bind id) (lk (KV g Q)):=propext Yp
def kP{k:PySem.Str}:CO x Q (.str k) g=JO ((I9 x g).bind λZ4=>A1 Z4 k) (lk (KV g Q)):=propext Yp
def F9(M:List Fn)(d:Nat)(b:E)(Y:Su)(X:XP)(Q:U->G->Prop)(x:U)(g:G):Prop:=JF M d b Y g X (CO x Q)
def kA  : F9 M d b Y X Q x g=(JF M d b Y g X (CO x Q)):=propext Yp
def mH  : J1 M d (.idx a b) Y g X Q↔JF M d a Y g X (F9 M d b Y X Q):=uw
def Em(x:U)(l:Option Int)(X:XP)(Q:U->G->Prop)(h:Option Int)(g:G):Prop:=hk (CP x l h g) X (lk Q)
def jX  : Em x l X Q h g=(hk (CP x l h g) X (lk Q)):=propext Yp
def D3(M:List Fn)(d:Nat)(x:U)(a:Option E)(Y:Su)(X:XP)(Q:U->G->Prop)(l:Option Int)(g:G):Prop:=JH M d a Y g X (Em x l X Q)
def km  : D3 M d x hi Y X Q l g=(JH M d hi Y g X (Em x l X Q)):=propext Yp
def Gx(M:List Fn)(d:Nat)(a:Option E)(b:Option E)(Y:Su)(X:XP)(Q:U->G->Prop)(x:U)(g:G):Prop:=JH M d a Y g X (D3 M d x b Y X Q)
def jd  : Gx M d lo hi Y X Q x g=(JH M d lo Y g X (D3 M d x hi Y X Q)):=propext Yp
def m8  : J1 M d (.XU a lo hi) Y g X Q↔JF M d a Y g X (Gx M d lo hi Y X Q):=acS
def C3(g:G)(Q:U->G->Prop)(xs:List U):Prop:=Q (.ref g.length) (g++[.S xs.reverse])
def rM:JO (some xs) (lk (C3 g Q))=Q (.ref g.length) (g++[.S xs.reverse]):=propext Yp
def gM:C3 g Q xs=Q (.ref g.length) (g++[.S xs.reverse]):=propext Yp
def F8(Q:U->G->Prop)(x:U)(g:G):Prop:=JO (B8 x g) (lk (C3 g Q))
def iH  : F8 Q x g=(JO (B8 x g) (lk (C3 g Q))):=propext Yp
def lB  : J1 M d (.rev a) Y g X Q↔JF M d a Y g X (F8 Q):=adt
def FD(M:List Fn)(d:Nat)(f:Nat)(X:XP)(Q:U->G->Prop)(O:List U)(g:G):Prop:=JT M d f O g X (lk Q)
def gG  : FD M d f X Q O g=(JT M d f O g X (lk Q)):=propext Yp
def j3  : J1 M d (.call f es) Y g X Q↔Ap M d es Y g nX (FD M d f X Q):=abO
def GB(j:Nat)(cs:List Nat)(Q:U->G->Prop)(x:U)(g:G):Prop:=JO ((AO x g).bind (BD j cs)) (lk (KV g Q))
def j5  : GB j cs Q x g=(JO ((AO x g).bind (BD j cs)) (lk (KV g Q))):=propext Yp
def lT  : J1 M d (.fld a j cs) Y g X Q↔JF M d a Y g X (GB j cs Q):=adH
def Ej(a:Nat)(Q:U->G->Prop)(u:U)(g:G):Prop:=AE u=true/\Q (.ref a) g
def kj  : Ej nn Q u g=(AE u=true/\Q (.ref nn) g):=propext Yp
def En(M:List Fn)(d:Nat)(h:Nat)(f:Nat)(O:List U)(e:List E)(c:List E)(b:List (Nat ⊕ U))(X:XP)(Q:U->G->Prop)(a:List U)(g:G):Prop:=O.length=e.length/\a.length=c.length/\JT M d f (perm (.ref g.length::O++a) b) (g++[.ins h []]) X (lk (Ej g.length Q))
def iN  : En M d cc f O es ks pm X Q ws g=(O.length=es.length/\ws.length=ks.length/\JT M d f (perm (.ref g.length::O++ws) pm) (g++[.ins cc []]) X (lk (Ej g.length Q))):=propext Yp
def Gh(M:List Fn)(d:Nat)(e:Nat)(f:Nat)(c:List E)(a:List E)(b:List (Nat ⊕ U))(Y:Su)(X:XP)(Q:U->G->Prop)(O:List U)(g:G):Prop:=Ap M d a Y g nX (En M d e f O c a b X Q)
def j9  : Gh M d cc f es ks pm Y X Q O g=(Ap M d ks Y g nX (En M d cc f O es ks pm X Q)):=propext Yp
def jh  : J1 M d (.make cc f es ks pm) Y g X Q↔Ap M d es Y g nX (Gh M d cc f es ks pm Y X Q):=abM
def D9(M:List Fn)(d:Nat)(x:U)(p:Nat×List (Nat ⊕ U))(O:List U)(c:List E)(b:List E)(X:XP)(Q:U->G->Prop)(a:List U)(g:G):Prop:=O.length=c.length/\a.length=b.length/\JT M d p.1 (perm (x::O++a) p.2) g X (lk Q)
def ko  : D9 M d x p O es ks X Q ws g=(O.length=es.length/\ws.length=ks.length/\JT M d p.1 (perm (x::O++ws) p.2) g X (lk Q)):=propext Yp
def Dh(M:List Fn)(d:Nat)(x:U)(p:Nat×List (Nat ⊕ U))(b:List E)(a:List E)(Y:Su)(X:XP)(Q:U->G->Prop)(O:List U)(g:G):Prop:=Ap M d a Y g nX (D9 M d x p O b a X Q)
def jP  : Dh M d x p es ks Y X Q O g=(Ap M d ks Y g nX (D9 M d x p O es ks X Q)):=propext Yp
def Dn(M:List Fn)(d:Nat)(x:U)(a:List E)(b:List E)(Y:Su)(g:G)(X:XP)(Q:U->G->Prop)(p:Nat×List (Nat ⊕ U)):Prop:=Ap M d a Y g nX (Dh M d x p a b Y X Q)
def tw  : JO (some p) (lk (Dn M d x es ks Y g X Q))=(Ap M d es Y g nX (Dh M d x p es ks Y X Q)):=propext Yp
def iY  : Dn M d x es ks Y g X Q p=(Ap M d es Y g nX (Dh M d x p es ks Y X Q)):=propext Yp
def Gm(M:List Fn)(d:Nat)(j:Nat)(a:List (Nat×Nat×List (Nat ⊕ U)))(c:List E)(b:List E)(Y:Su)(X:XP)(Q:U->G->Prop)(x:U)(g:G):Prop:=JO ((AO x g).bind (BB j a)) (lk (Dn M d x c b Y g X Q))
def ka  : Gm M d j tb es ks Y X Q x g=(JO ((AO x g).bind (BB j tb)) (lk (Dn M d x es ks Y g X Q))):=propext Yp
def jF  : J1 M d (.Zg a j tb es ks) Y g X Q↔JF M d a Y g nX (Gm M d j tb es ks Y X Q):=aaT
def Dw(z:Bool)(g:G)(X:XP)(Q:U->G->Prop)(k:Nat):Prop:=hk (BE z k g) X (lk Q)
def tL  : JO (some k) (lk (Dw z g X Q))=(hk (BE z k g) X (lk Q)):=propext Yp
def iU  : Dw z g X Q k=(hk (BE z k g) X (lk Q)):=propext Yp
def Gj(z:Bool)(X:XP)(Q:U->G->Prop)(x:U)(g:G):Prop:=JO (Jk x g) (lk (Dw z g X Q))
def kJ  : Gj z X Q x g=(JO (Jk x g) (lk (Dw z g X Q))):=propext Yp
def De(g:G)(X:XP)(Q:U->G->Prop)(k:Nat):Prop:=hk (Bn k g) X (lk Q)
def t6  : JO (some k) (lk (De g X Q))=(hk (Bn k g) X (lk Q)):=propext Yp
def iS  : De g X Q k=(hk (Bn k g) X (lk Q)):=propext Yp
def GC(X:XP)(Q:U->G->Prop)(x:U)(g:G):Prop:=JO (Jk x g) (lk (De g X Q))
def kQ  : GC X Q x g=(JO (Jk x g) (lk (De g X Q))):=propext Yp
def kI  : J1 M d (.Wd z o) Y g X Q↔JF M d o Y g X (Gj z X Q):=acH
def ly  : J1 M d (.pop o) Y g X Q↔JF M d o Y g X (GC X Q):=adQ
def Dq(k:Nat)(X:XP)(Q:U->G->Prop)(y:U)(g:G):Prop:=hk (A9 k y g) X (lk Q)
def ki  : Dq k X Q y g=(hk (A9 k y g) X (lk Q)):=propext Yp
def Di(M:List Fn)(d:Nat)(v:E)(Y:Su)(g:G)(X:XP)(Q:U->G->Prop)(k:Nat):Prop:=JF M d v Y g X (Dq k X Q)
def tN  : JO (some k) (lk (Di M d v Y g X Q))=(JF M d v Y g X (Dq k X Q)):=propext Yp
def iG  : Di M d v Y g X Q k=(JF M d v Y g X (Dq k X Q)):=propext Yp
def GH(M:List Fn)(d:Nat)(v:E)(Y:Su)(X:XP)(Q:U->G->Prop)(x:U)(g:G):Prop:=JO (Jk x g) (lk (Di M d v Y g X Q))
def jo  : GH M d v Y X Q x g=(JO (Jk x g) (lk (Di M d v Y g X Q))):=propext Yp
def lA  : J1 M d (.app o v) Y g X Q↔JF M d o Y g X (GH M d v Y X Q):=acT
def Ds(k:Nat)(X:XP)(Q:U->G->Prop)(y:U)(g:G):Prop:=hk (Bq k y g) X (lk Q)
def iy  : Ds k X Q y g=(hk (Bq k y g) X (lk Q)):=propext Yp
def Du(M:List Fn)(d:Nat)(v:E)(Y:Su)(g:G)(X:XP)(Q:U->G->Prop)(k:Nat):Prop:=JF M d v Y g X (Ds k X Q)
def t5  : JO (some k) (lk (Du M d v Y g X Q))=(JF M d v Y g X (Ds k X Q)):=propext Yp
def jV  : Du M d v Y g X Q k=(JF M d v Y g X (Ds k X Q)):=propext Yp
def GG(M:List Fn)(d:Nat)(v:E)(Y:Su)(X:XP)(Q:U->G->Prop)(x:U)(g:G):Prop:=JO (Jk x g) (lk (Du M d v Y g X Q))
def jL  : GG M d v Y X Q x g=(JO (Jk x g) (lk (Du M d v Y g X Q))):=propext Yp
def la  : J1 M d (.ext o v) Y g X Q↔JF M d o Y g X (GG M d v Y X Q):=adx
def Kbi(a:Bi)(X:XP)(Q:U->G->Prop)(O:List U)(g:G):Prop:=hk (Jj a O g) X (lk Q)
def lZ  : Kbi bb X Q O g=(hk (Jj bb O g) X (lk Q)):=propext Yp
def ni  : J1 M d (.bi bb es) Y g X Q↔Ap M d es Y g X (Kbi bb X Q):=e_bi
def Gw(a:Ty)(Q:U->G->Prop)(x:U)(g:G):Prop:=JO (AI a x g) (lk (KB g Q))
def iJ  : Gw ty Q x g=(JO (AI ty x g) (lk (KB g Q))):=propext Yp
def lS  : J1 M d (.YR a ty) Y g X Q↔JF M d a Y g X (Gw ty Q):=acY
def Ko(Q:Option Int->G->Prop)(x:U)(g:G):Prop:=JO (match x with|.int i=>some i|_=>none) <| lk λi=>Q (some i) g
def nj{Q:Option Int->G->Prop}{i:Int}:Ko Q (.int i) g=Q (some i) g:=propext Yp
def gD  : JH M d (some e) Y g X QO↔JF M d e Y g X (Ko QO):=ab7
def Ktr(a:Bool->G->Prop)(x:U)(g:G):Prop:=JO (Jd x g) (lk (KV g a))
def lH  : Ktr QB x g=(JO (Jd x g) (lk (KV g QB))):=propext Yp
def Kta(M:List Fn)(d:Nat)(b:E)(Y:Su)(X:XP)(a:Bool->G->Prop)(z:Bool)(g:G):Prop:=JP z (lk (JG M d b Y g X a)) (lk (a false g))
def lP  : Kta M d b Y X QB z g=(JP z (lk (JG M d b Y g X QB)) (lk (QB false g))):=propext Yp
def Kto(M:List Fn)(d:Nat)(b:E)(Y:Su)(X:XP)(a:Bool->G->Prop)(z:Bool)(g:G):Prop:=JP z (lk (a true g)) (lk (JG M d b Y g X a))
def lL  : Kto M d b Y X QB z g=(JP z (lk (QB true g)) (lk (JG M d b Y g X QB))):=propext Yp
def Ktn(a:Bool->G->Prop)(z:Bool)(g:G):Prop:=a (!z) g
def kU  : Ktn QB z g=(QB (!z) g):=propext Yp
def ik  : JG M d (.and a b) Y g X QB↔JG M d a Y g X (Kta M d b Y X QB):=adf
def mr  : JG M d (.or a b) Y g X QB↔JG M d a Y g X (Kto M d b Y X QB):=t_or
def jO  : JG M d (.not a) Y g X QB↔JG M d a Y g X (Ktn QB):=ac2
def jm  : JG M d (.L i) Y g X QB↔JF M d (.L i) Y g X (Ktr QB):=t_e rfl
def iq  : JG M d (.Z3 u) Y g X QB↔JF M d (.Z3 u) Y g X (Ktr QB):=t_e rfl
def i0  : JG M d (.cmp cp a b) Y g X QB↔JF M d (.cmp cp a b) Y g X (Ktr QB):=t_e rfl
def pO  : JG M d (.chain cp cq a b c) Y g X QB↔JF M d (.chain cp cq a b c) Y g X (Ktr QB):=t_e rfl
def gm  : JG M d (.call f es) Y g X QB↔JF M d (.call f es) Y g X (Ktr QB):=t_e rfl
def uM  : JG M d (.bi bb es) Y g X QB↔JF M d (.bi bb es) Y g X (Ktr QB):=t_e rfl
def iO  : JG M d (.YR a ty) Y g X QB↔JF M d (.YR a ty) Y g X (Ktr QB):=t_e rfl
def sE  : JG M d (.idx a b) Y g X QB↔JF M d (.idx a b) Y g X (Ktr QB):=t_e rfl
def tj  : JG M d (.ZW op a b) Y g X QB↔JF M d (.ZW op a b) Y g X (Ktr QB):=t_e rfl
def gA  : JG M d (.Zg a j tb es ks) Y g X QB↔JF M d (.Zg a j tb es ks) Y g X (Ktr QB):=t_e rfl
def tX  : JG M d (.fld a j cs) Y g X QB↔JF M d (.fld a j cs) Y g X (Ktr QB):=t_e rfl
def tO  : JG M d (.rev a) Y g X QB↔JF M d (.rev a) Y g X (Ktr QB):=t_e rfl
def sC  : JG M d (.XU a lo hi) Y g X QB↔JF M d (.XU a lo hi) Y g X (Ktr QB):=t_e rfl
def sQ  : JG M d (.Z1 es) Y g X QB↔JF M d (.Z1 es) Y g X (Ktr QB):=t_e rfl
def t8  : JG M d (.S es) Y g X QB↔JF M d (.S es) Y g X (Ktr QB):=t_e rfl
def tZ  : JG M d (.Xd o a b) Y g X QB↔JF M d (.Xd o a b) Y g X (Ktr QB):=t_e rfl
def rO{M:List Fn}{a:List Nat}:JG M d (.comp m a gs e) Y g X QB↔JF M d (.comp m a gs e) Y g X (Ktr QB):=t_e rfl
def Kac(M:List Fn)(d:Nat)(b:List E)(Y:Su)(X:XP)(a:Bool->G->Prop)(z:Bool)(g:G):Prop:=JP z (lk (JI M d b Y g X a)) (lk (a false g))
def lN  : Kac M d es Y X QB z g=(JP z (lk (JI M d es Y g X QB)) (lk (QB false g))):=propext Yp
def gR  : JI M d (c::es) Y g X QB↔JG M d c Y g X (Kac M d es Y X QB):=acb
def GL(Q:Iter->G->Prop)(x:U)(g:G):Prop:=JO (match x with|.int i=>some i|_=>none) <| lk λj=>JP (Aj j) (lk (Q (.Y7 0 j.toNat) g)) (lk False)
def kE{Q:Iter->G->Prop}{j:Int}:GL Q (.int j) g=JP (Aj j) (lk (Q (.Y7 0 j.toNat) g)) (lk False):=propext Yp
def gI  : JJ M d (.YM a) Y g X QI↔JF M d a Y g X (GL QI):=acO
def DX(u:U)(Q:Iter->G->Prop)(w:U)(g:G):Prop:=JO (match u with|.int i=>some i|_=>none) <| lk λi=>JO (match w with|.int i=>some i|_=>none) <| lk λj=>JP (Aj i&&Aj j) (lk (Q (.Y7 i (j-i).toNat) g)) (lk False)
def kN{Q:Iter->G->Prop}{i j:Int}:DX (.int i) Q (.int j) g=JP (Aj i&&Aj j) (lk (Q (.Y7 i (j-i).toNat) g)) (lk False):=propext Yp
def Gb(M:List Fn)(d:Nat)(b:E)(Y:Su)(X:XP)(a:Iter->G->Prop)(u:U)(g:G):Prop:=JF M d b Y g X (DX u a)
def jY  : Gb M d b Y X QI u g=(JF M d b Y g X (DX u QI)):=propext Yp
def gW  : JJ M d (.Yn a b) Y g X QI↔JF M d a Y g X (Gb M d b Y X QI):=abS
def CA(k:Nat)(g:G)(a:Iter->G->Prop)(j:Nat):Prop:=a (.zip k j) g
def qY  : JO (some j) (lk (CA k g QI))=(QI (.zip k j) g):=propext Yp
def hV  : CA k g QI j=(QI (.zip k j) g):=propext Yp
def C9(w:U)(g:G)(a:Iter->G->Prop)(k:Nat):Prop:=JO (Jk w g) (lk (CA k g a))
def rJ  : JO (some k) (lk (C9 w g QI))=(JO (Jk w g) (lk (CA k g QI))):=propext Yp
def gF  : C9 w g QI k=(JO (Jk w g) (lk (CA k g QI))):=propext Yp
def DN(u:U)(a:Iter->G->Prop)(w:U)(g:G):Prop:=JO (Jk u g) (lk (C9 w g a))
def hJ  : DN u QI w g=(JO (Jk u g) (lk (C9 w g QI))):=propext Yp
def Ge(M:List Fn)(d:Nat)(b:E)(Y:Su)(X:XP)(a:Iter->G->Prop)(u:U)(g:G):Prop:=JF M d b Y g X (DN u a)
def jG  : Ge M d b Y X QI u g=(JF M d b Y g X (DN u QI)):=propext Yp
def jU  : JJ M d (.zip a b) Y g X QI↔JF M d a Y g X (Ge M d b Y X QI):=adj
def C1(g:G)(a:Iter->G->Prop)(k:Nat):Prop:=a (.YY k) g
def qT  : JO (some k) (lk (C1 g QI))=(QI (.YY k) g):=propext Yp
def gy  : C1 g QI k=(QI (.YY k) g):=propext Yp
def Gq(a:Iter->G->Prop)(u:U)(g:G):Prop:=JO (Jk u g) (lk (C1 g a))
def iP  : Gq QI u g=(JO (Jk u g) (lk (C1 g QI))):=propext Yp
def iQ  : JJ M d (.YY a) Y g X QI↔JF M d a Y g X (Gq QI):=adF
def Dr(Q:Iter->G->Prop)(p:Iter×G):Prop:=Q p.1 p.2
def sy{Q:Iter->G->Prop}{i:Iter}:JO (some (i,g)) (lk (Dr Q))=Q i g:=propext Yp
def i6{Q:Iter->G->Prop}{i:Iter}:Dr Q (i,g)=Q i g:=propext Yp
def Kit(a:Iter->G->Prop)(u:U)(g:G):Prop:=JO (Br u g) (lk (Dr a))
def lR  : Kit QI u g=(JO (Br u g) (lk (Dr QI))):=propext Yp
def jW  : JJ M d (.L i) Y g X QI↔JF M d (.L i) Y g X (Kit QI):=i_e rfl
def gr  : JJ M d (.call f es) Y g X QI↔JF M d (.call f es) Y g X (Kit QI):=i_e rfl
def u7  : JJ M d (.bi bb es) Y g X QI↔JF M d (.bi bb es) Y g X (Kit QI):=i_e rfl
def jT  : JJ M d (.idx a b) Y g X QI↔JF M d (.idx a b) Y g X (Kit QI):=i_e rfl
def rH  : JJ M d (.Zg a j tb es ks) Y g X QI↔JF M d (.Zg a j tb es ks) Y g X (Kit QI):=i_e rfl
def tV  : JJ M d (.fld a j cs) Y g X QI↔JF M d (.fld a j cs) Y g X (Kit QI):=i_e rfl
def sN  : JJ M d (.rev a) Y g X QI↔JF M d (.rev a) Y g X (Kit QI):=i_e rfl
def tK  : JJ M d (.XU a lo hi) Y g X QI↔JF M d (.XU a lo hi) Y g X (Kit QI):=i_e rfl
def kK  : JJ M d (.Z1 es) Y g X QI↔JF M d (.Z1 es) Y g X (Kit QI):=i_e rfl
def ud  : JJ M d (.S es) Y g X QI↔JF M d (.S es) Y g X (Kit QI):=i_e rfl
def rY{M:List Fn}{a:List Nat}:JJ M d (.comp m a gs e) Y g X QI↔JF M d (.comp m a gs e) Y g X (Kit QI):=i_e rfl
def Cb(M:List Fn)(d:Nat)(a:List Z5)(X:XP)(Q:Fl->G->Prop)(f:Fl)(g:G):Prop:=JQ f (lk (λZU=>wpS M d a ZU g X Q)) (lk λf=>Q f g)
def gQ  : Cb M d ss X QF (.nx Y) g=(wpS M d ss Y g X QF):=propext Yp
def gJ  : Cb M d ss X QF (.rt u) g=(QF (.rt u) g):=propext Yp
def rQ  : Cb M d ss X QF (.bk Y) g=(QF (.bk Y) g):=propext Yp
def rA  : Cb M d ss X QF (.ct Y) g=(QF (.ct Y) g):=propext Yp
def hX  : wpS M d (s::ss) Y g X QF↔JK M d s Y g X (Cb M d ss X QF):=iX
def FX(a:Fl->G->Prop)(u:U)(g:G):Prop:=a (.rt u) g
def iD  : FX QF u g=(QF (.rt u) g):=propext Yp
def kR  : JK M d (.ret e) Y g X QF↔JF M d e Y g X (FX QF):=adl
def Dv(g:G)(b:Fl->G->Prop)(a:Su):Prop:=b (.nx a) g
def sL  : JO (some st) (lk (Dv g QF))=(QF (.nx st) g):=propext Yp
def jK  : Dv g QF st=(QF (.nx st) g):=propext Yp
def Kst(t:Tg)(Y:Su)(a:Fl->G->Prop)(u:U)(g:G):Prop:=JO (Ah t (Jn t u g) Y) (lk (Dv g a))
def mU  : Kst t Y QF u g=(JO (Ah t (Jn t u g) Y) (lk (Dv g QF))):=propext Yp
def jl  : JK M d (.set t e) Y g X QF↔JF M d e Y g X (Kst t Y QF):=abQ
def Eh(i:Nat)(j:Nat)(u:U)(Y:Su)(a:Fl->G->Prop)(w:U)(g:G):Prop:=JP (decide (i<Y.length)&&decide (j<Y.length)) (lk (a (.nx ((Y.set i (some u)).set j (some w))) g)) (lk False)
def jR  : Eh i j u Y QF w g=(JP (decide (i<Y.length)&&decide (j<Y.length)) (lk (QF (.nx ((Y.set i (some u)).set j (some w))) g)) (lk False)):=propext Yp
def Kpa1(M:List Fn)(d:Nat)(i:Nat)(j:Nat)(b:E)(Y:Su)(X:XP)(a:Fl->G->Prop)(u:U)(g:G):Prop:=JF M d b Y g X (Eh i j u Y a)
def iM  : Kpa1 M d i j b Y X QF u g=(JF M d b Y g X (Eh i j u Y QF)):=propext Yp
def jk  : JK M d (.par i j a b) Y g X QF↔JF M d a Y g X (Kpa1 M d i j b Y X QF):=abd
def DY(u:U)(x:U)(Y:Su)(X:XP)(a:Fl->G->Prop)(y:U)(g:G):Prop:=hk (subAt x y u Y g) X (lk a)
def jx  : DY u x Y X QF y g=(hk (subAt x y u Y g) X (lk QF)):=propext Yp
def DS(M:List Fn)(d:Nat)(u:U)(b:E)(Y:Su)(X:XP)(a:Fl->G->Prop)(x:U)(g:G):Prop:=JF M d b Y g X (DY u x Y X a)
def je  : DS M d u b Y X QF x g=(JF M d b Y g X (DY u x Y X QF)):=propext Yp
def Gd(M:List Fn)(d:Nat)(o:E)(b:E)(Y:Su)(X:XP)(a:Fl->G->Prop)(u:U)(g:G):Prop:=JF M d o Y g X (DS M d u b Y X a)
def js  : Gd M d o b Y X QF u g=(JF M d o Y g X (DS M d u b Y X QF)):=propext Yp
def ie  : JK M d (.sub o b e) Y g X QF↔JF M d e Y g X (Gd M d o b Y X QF):=abf
def Kxp(Y:Su)(a:Fl->G->Prop)(u:U)(g:G):Prop:=a (.nx Y) g
def lU  : Kxp Y QF u g=(QF (.nx Y) g):=propext Yp
def j0  : JK M d (.exp e) Y g X QF↔JF M d e Y g X (Kxp Y QF):=ac1
def Kif(M:List Fn)(d:Nat)(A:List Z5)(B:List Z5)(Y:Su)(X:XP)(a:Fl->G->Prop)(z:Bool)(g:G):Prop:=JP z (lk (wpS M d A Y g X a)) (lk (wpS M d B Y g X a))
def mz  : Kif M d A B Y X QF z g=(JP z (lk (wpS M d A Y g X QF)) (lk (wpS M d B Y g X QF))):=propext Yp
def iT  : JK M d (.ZE c A B) Y g X QF↔JG M d c Y g X (Kif M d A B Y X QF):=ab5
def GI(M:List Fn)(d:Nat)(t:Tg)(A:List Z5)(Y:Su)(X:XP)(b:Fl->G->Prop)(a:Iter)(g:G):Prop:=JV M d t a 0 A Y g X (lk b)
def ju  : GI M d t A Y X QF YO g=(JV M d t YO 0 A Y g X (lk QF)):=propext Yp
def iE  : JK M d (.for t it A) Y g X QF↔JJ M d it Y g X (GI M d t A Y X QF):=abe
def Dp(Y:Su)(b:Fl->G->Prop)(a:G):Prop:=b (.nx Y) a
def uc  : JO (some g2) (lk (Dp Y QF))=(QF (.nx Y) g2):=propext Yp
def iC  : Dp Y QF g2=(QF (.nx Y) g2):=propext Yp
def Ee(u:U)(j:Nat)(cs:List Nat)(Y:Su)(a:Fl->G->Prop)(x:U)(g:G):Prop:=JO (A8 x j cs u g) (lk (Dp Y a))
def iL  : Ee u j cs Y QF x g=(JO (A8 x j cs u g) (lk (Dp Y QF))):=propext Yp
def D8(M:List Fn)(d:Nat)(a:E)(j:Nat)(cs:List Nat)(Y:Su)(X:XP)(b:Fl->G->Prop)(u:U)(g:G):Prop:=JF M d a Y g X (Ee u j cs Y b)
def jq  : D8 M d a j cs Y X QF u g=(JF M d a Y g X (Ee u j cs Y QF)):=propext Yp
def gK  : JK M d (.fset a j cs e) Y g X QF↔JF M d e Y g X (D8 M d a j cs Y X QF):=z5
def Kfn(Q:U->G->Prop)(f:Fl)(g:G):Prop:=JS f (lk λu=>Q u g)
def kH:Kfn Q (.rt u) g=Q u g:=propext Yp
def jQ:Kfn Q (.nx Y) g=Q .ZN g:=propext Yp
def ag{M:List Fn}{f:Nat}{F:Fn}(b:M[f]?=some F)(a:O.length=F.np)(h:wpS M d F.body (O.map some++List.replicate (F.ns-O.length) none) g X (Kfn Q)):JE M (d+1) f O g X Q:=(so b a).2 h
end
variable{y:U}{a b o:Z6}{j at_:Int}{ys:List U}{it Z9:Iter}{Q:List U->G->Prop}{YO:E}{t2:Tg}{Yx:List E}{B gs:G}
def bM{i:Nat}(h:i<xs.length):Je xs (i:Int)=xs[i]?:=by
 unfold Je L2.atI L2.ixN;rw[Xg (by lia),Xg (by lia)]
 simp
def dt(a:0<=i)(h:i<xs.length):Je xs i=xs[i.toNat]?:=by
 have:=bM (xs:=xs) (i:=i.toNat) (by lia)
 rwa[Int.toNat_of_nonneg a]at this
def uy:Je (x::xs) 0=some x:=bM (i:=0) #[3]
def va:Je (x::y::xs) 1=some y:=bM (i:=1) #[3]
def uZ{z:U}:Je (x::y::z::xs) 2=some z:=bM (i:=2) #[3]
def uA{z a:U}:Je (x::y::z::a::xs) 3=some a:=bM (i:=3) #[3]
def uS{z a b:U}:Je (x::y::z::a::b::xs) 4=some b:=bM (i:=4) #[3]
def uY{z a b c:U}:Je (x::y::z::a::b::c::xs) 5=some c:=bM (i:=5) #[3]
def small(i:Int):Prop:=-BO<i/\i<BO
def aK(h : -18446744073709551616<i)(h':i<18446744073709551616):small i:=⟨h,h'⟩
def cb(h:(decide (-18446744073709551616<i)&&decide (i<18446744073709551616))=true):small i:=by simp at h;exact h
section
def eX:IZ .add (.int i) (.int j)=some (.int (i+j)):=rfl
def eU:IZ .sub (.int i) (.int j)=some (.int (i-j)):=rfl
def t7(h:0<j):IZ .mod (.int i) (.int j)=some (.int (i % j)):=by simp![IZ,IY,Xg h]
def rq(h:0<j)(h':j<Au):IZ .fdiv (.int i) (.int j)=some (.int (i / j)):=by simp![IZ,IY,Xg h,Xg h']
def qV(h:small i):IZ .mul (.int i) (.int j)=some (.int (i*j)):=by
 let⟨h1,h2⟩:=h;simp[IZ,IY,h1,h2]
def rR(h:small j):IZ .mul (.int i) (.int j)=some (.int (i*j)):=by
 let⟨h1,h2⟩:=h;simp[IZ,IY,h1,h2]
def u5:Jc .eq (.int i) (.int j) g=some (decide (i=j)):=by
 simp![Jc,IX,Aq];congr 1
def uv{a b:Bool}:Jc .eq (.bl a) (.bl b) g=some (a==b):=rfl
def uD{a b:PySem.Str}:Jc .eq (.str a) (.str b) g=some (a==b):=rfl
def vb:Jc .eq (.Z1 xs) (.Z1 ys) g=Av xs ys:=rfl
def sM:Av (.int i::xs) (.int j::ys)=(Av xs ys).map λc=>decide (i=j)&&c:=by
 simp![Av,Aq];cases Av xs ys with
 |none=>rfl
 |some c=>simp![Wo];congr 1
def qm:Av [] []=some true:=rfl
def uW:Jc .ne (.int i) (.int j) g=some (!decide (i=j)):=by simp![Jc,Cw,Vy,Aq,Wo];congr 1
def vw:Jc .Xe x .ZN g=some (AE x):=rfl
def uj:Jc .Wi x .ZN g=some (!AE x):=rfl
def cin:Jc .Wh x y g=match items y g with|some ys=>I8 x ys|none=>(Al x y g).map Option.isSome:=rfl
def vk:Jc .nin x y g=match items y g with|some ys=>(I8 x ys).map (!·)|none=>(Al x y g).map λo=>!o.isSome:=rfl
def clt:Jc .lt (.int i) (.int j) g=some (decide (i<j)):=rfl
def cle:Jc .le (.int i) (.int j) g=some (decide (i<=j)):=rfl
def cgt:Jc .gt (.int i) (.int j) g=some (decide (j<i)):=rfl
def cge:Jc .ge (.int i) (.int j) g=some (decide (j<=i)):=rfl
end
section
variable{M:List Fn}
def dw{it:Iter}{t:Tg}{cs:List E}{j:E}{Q:List U->G->Prop}{l:Type}(ys:List l)(a:l->U)(c:l->Bool)(e:l->U)(b:G->Prop)
  (o:∀k g,b g->next it k g=some (ys.map a)[k]?)
  (r:∀y,y∈ys->AF t Y=true/\JO (Ah t (a y) Y) (lk λp=>∀g,b g->JI M d cs p g (λ_ _ _=>False) λk g=>k=c y/\JP (c y) (lk (JF M d j p g (λ_ _ _=>False) λv g=>v=e y/\b g)) (lk (b g)))) :
  ∀(n i:Nat) (ZX:List U) (g:G),i+n=ys.length->ZX.length+n<Ag->b g->(∀g,b g->Q (ZX++((ys.drop i).filter c).map e) g)->JN M d it i t cs [] j ZX Y g X Q
 |0,i,ZX,g,z,_,h,m=>by
  rw[aQ];refine⟨none,by rw[o _ _ h];simp;lia,?_⟩
  have:=m g h;rw[S1 ()]at this
  simpa using this
 |n+1,i,ZX,g,z,B,h,m=>by
  have hi:i<ys.length:=by lia
  have s:ys.drop i=ys[i]::ys.drop (i+1):=SI hi;let⟨w,A⟩:=r ys[i] (Sa hi);let⟨p,x,u⟩:=aG.2 A;rw[aQ];refine⟨some (a ys[i]),by rw[o _ _ h];simp[hi],w,p,x,wp_mono (u g h) λk g q=>?_⟩
  let⟨rfl,q⟩:=q;by_cases hc:c ys[i]=true
  .rw [Xg hc]
   rw[hc]at q;refine wp_mono q λv g ⟨ev,f⟩=>⟨by lia,?_⟩
   subst ev;refine dw ys a c e b o r n (i+1) _ g (by lia) (by simp;lia) f λg f=>?_
   have:=m g f;rw[s,List.filter_cons_of_pos hc]at this;simpa using this
  .rw [Xp hc]
   rw[Rc]at hc;rw[hc]at q;refine dw ys a c e b o r n (i+1) _ g () (by lia) q λg f=>?_
   have:=m g f;rw[s,List.filter_cons_of_neg (by simp[hc])]at this
   exact this
def sX{it F:E}{t s:Tg}{C:Iter}{cs D:List E}{o:E}{Q:List U->G->Prop}{l p:Type}(ys:List l)(b:l->U)(c:l->List p)(r:p->U)(f:l->p->Bool)(e:l->p->U)(a:G->Prop)(B:Nat)
  (w:∀k g,a g->next C k g=some (ys.map b)[k]?)
  (x:∀ y,y∈ys->(c y).length<=B/\AF t Y=true/\JO (Ah t (b y) Y) (lk λj => ∀ g,a g->JI M d cs j g (λ_ _ _=>False) λk g=>k=true/\JJ M d F j g (λ_ _ _=>False) λI g=>a g/\(∀ k g,a g->next I k g=some ((c y).map r)[k]?) /\
   ∀z,z∈c y->AF s j=true/\JO (Ah s (r z) j) (lk λH=>∀g,a g->JI M d D H g (λ_ _ _=>False) λk g=>k=f y z/\JP (f y z) (lk (JF M d o H g (λ_ _ _=>False) λv g=>v=e y z/\a g)) (lk (a g))))) :
  ∀(n i:Nat) (ZX:List U) (g:G),i+n=ys.length->ZX.length+n*B+B<Ag->a g->(∀g,a g->Q (ZX++(ys.drop i).flatMap λy=>((c y).filter (f y)).map (e y)) g)->JN M d C i t cs [(s,F,D)] o ZX Y g X Q
 |0,i,ZX,g,P,_,h,u=>by
  rw[aQ];refine⟨none,by rw[w _ _ h];simp;lia,?_⟩
  have:=u g h;rw[S1 ()]at this
  simpa using this
 |n+1,i,ZX,g,P,V,h,u=>by
  have hi:i<ys.length:=by lia
  have L:ys.drop i=ys[i]::ys.drop (i+1):=SI hi;let⟨O,K,S⟩:=x ys[i] (Sa hi);let⟨j,N,J⟩:=aG.2 S;rw[aQ];refine⟨some (b ys[i]),by rw[w _ _ h];simp[hi],K,j,N,wp_mono (J g h) λk g q=>?_⟩
  let⟨rfl,q⟩:=q;rw[Xg rfl];refine wp_mono q ?_;rintro I g ⟨m,T,R⟩;have A:(n+1)*B=n*B+B:=S2 n B;refine dw (c ys[i]) r (f ys[i]) (e ys[i]) a T R (c ys[i]).length 0 ZX g (by lia) (by lia) m λg m=>?_
  refine sX (it:=it) ys b c r f e a B w x n (i+1) _ g (by lia) ?_ m λg m=>?_
  .have:(List.map (e ys[i]) (List.filter (f ys[i]) (c ys[i]))).length<=B:=by
    rw[Yj];exact Hx (SD _ _) O
   simp![List.drop_zero,Xs];lia
  .have:=u g m
   rw[L,U9]at this;simpa using this
def bR{t:Tg}(ys:List α)(a:α->U)(c:α->Bool)(e:α->U)(b:G->Prop)(h:List U)
  (o:(ys.filter c).map e=h)
  (l:∀k g,b g->next it k g=some (ys.map a)[k]?)
  (i:∀y,y∈ys->AF t Y=true/\JO (Ah t (a y) Y) (lk λf=>∀g,b g->JI M d cs f g (λ_ _ _=>False) λk g=>k=c y/\JP (c y) (lk (JF M d elt f g (λ_ _ _=>False) λv g=>v=e y/\b g)) (lk (b g))))
  (m:ys.length<16777000) (p:b g) (j:∀g,b g->Q h g):JN M d it 0 t cs [] elt [] Y g X Q:=
 dw ys a c e b l i ys.length 0 [] g (VM _) (by simpa[Ag]using m) p λg n=>by
  have:=j g n;rw[<-o]at this;simpa using this
def sA{t:Tg}(ys:List α)(b:α->U)(c:α->List β)(i:β->U)(f:α->β->Bool)(e:α->β->U)(a:G->Prop)(B:Nat)(j:List U)
  (r:(ys.flatMap λy=>((c y).filter (f y)).map (e y))=j)
  (o:∀k g,a g->next Z9 k g=some (ys.map b)[k]?)
  (m:∀ y,y∈ys->(c y).length<=B/\AF t Y=true/\JO (Ah t (b y) Y) (lk λh => ∀ g,a g->JI M d cs h g (λ_ _ _=>False) λk g=>k=true/\JJ M d YO h g (λ_ _ _=>False) λu g=>a g/\(∀ k g,a g->next u k g=some ((c y).map i)[k]?) /\
   ∀z,z∈c y->AF t2 h=true/\JO (Ah t2 (i z) h) (lk λl=>∀g,a g->JI M d Yx l g (λ_ _ _=>False) λk g=>k=f y z/\JP (f y z) (lk (JF M d elt l g (λ_ _ _=>False) λv g=>v=e y z/\a g)) (lk (a g)))))
  (p:ys.length*B+B<16777000) (s:a g) (n:∀g,a g->Q j g):JN M d Z9 0 t cs [(t2,YO,Yx)] elt [] Y g X Q:=
 sX (it:=.Z3 .ZN) ys b c i f e a B o m ys.length 0 [] g (VM _) (by simpa[Ag]using p) s λg q=>by
  have:=n g q;rw[<-r]at this;simpa using this
def mJ{x:E}{t p:Tg}{v:Iter}{cs w:List E}{A:List (Tg×E×List E)}{c:E}{Q:List U->G->Prop}{j:Type}(ys:List j)(a:j->U)(f:j->List U)(b:G->Prop)(B:Nat)
  (m:∀k g,b g->next v k g=some (ys.map a)[k]?) (u:∀y,y∈ys->(f y).length<=B)
  (r:∀y,y∈ys->AF t Y=true/\JO (Ah t (a y) Y) (lk λe=>∀g ZX,b g->ZX.length+B<16777000->JI M d cs e g (λ_ _ _=>False) λk g=>k=true/\JJ M d x e g (λ_ _ _=>False) λC g=>JN M d C 0 p w A c ZX e g (λ_ _ _=>False) λz g=>z=ZX++f y/\b g)) :
  ∀(n i:Nat) (ZX:List U) (g:G),i+n=ys.length->ZX.length+n*B+B<16777000->b g->(∀g,b g->Q (ZX++(ys.drop i).flatMap f) g)->JN M d v i t cs ((p,x,w)::A) c ZX Y g X Q
 |0,i,ZX,g,K,_,h,l=>by
  rw[aQ];refine⟨none,by rw[m _ _ h];simp;omega,?_⟩
  have:=l g h;rw[S1 ()]at this
  simpa using this
 |n+1,i,ZX,g,K,N,h,l=>by
  have hi:i<ys.length:=by omega
  have H:ys.drop i=ys[i]::ys.drop (i+1):=SI hi;let⟨F,L⟩:=r ys[i] (Sa hi);let⟨e,I,D⟩:=aG.2 L;have s:(n+1)*B=n*B+B:=S2 n B;have J:=u ys[i] (Sa hi);rw[aQ];refine⟨some (a ys[i]),by rw[m _ _ h];simp[hi],F,e,I,wp_mono (D g ZX h (by lia)) λk g q=>?_⟩
  let⟨rfl,q⟩:=q;rw[Xg rfl];refine wp_mono q λC g q=>wp_mono q λz g q=>?_;let⟨rfl,o⟩:=q;refine mJ ys a f b B m u r n (i+1) _ g (by lia) (by simp![Xs];lia) o λg o=>?_
  have:=l g o;rw[H,U9]at this;simpa using this
def abE{t:Tg}(ys:List α)(a:α->U)(c:α->Bool)(e:α->U)(b:G->Prop)(f:List U)
  (l:∀k g,b g->next it k g=some (ys.map a)[k]?)
  (i:∀y,y∈ys->AF t Y=true/\JO (Ah t (a y) Y) (lk λh=>∀g,b g->JI M d cs h g (λ_ _ _=>False) λk g=>k=c y/\JP (c y) (lk (JF M d elt h g (λ_ _ _=>False) λv g=>v=e y/\b g)) (lk (b g))))
  (m:f.length+ys.length<16777000) (o:b g) (j:∀g,b g->Q (f++(ys.filter c).map e) g):JN M d it 0 t cs [] elt f Y g X Q:=
 dw ys a c e b l i ys.length 0 f g (VM _) (by simpa[Ag]using m) o λg n=>by simpa using j g n
def aB{t:Tg}{b:List Z5}{Q:Fl->G->Prop}(O:List U)(a:Nat->Su->G->Prop)
  (h:∀k Y g,a k Y g->next it k g=some O[k]?) (i:a 0 Y g)
  (c:∀k u Y g,O[k]?=some u->a k Y g->JO (Ah t u Y) (lk λj=>wpS M d b j g X λf g=>JR f (lk (λZU=>a (k+1) ZU g)) (lk λf=>Q f g)))
  (e:∀Y g,a O.length Y g->Q (.nx Y) g):JM M d t it 0 b Y g X Q:=bz O a h c e O.length 0 Y g (VM _) i
end
def cw{l:List α}:(l.filter λ_=>true)=l:=List.filter_eq_self.mpr #[3]
abbrev Bt(g:G)(xs:List U)(Q:U->G->Prop):Prop:=∀gs n,g.length<=n->(g++gs)[n]?=some (.S xs)->Q (.ref n) (g++gs)
inductive Dt where
 |ZN|bl (b:Bool)|int (i:Int)|str (s:PySem.Str)|Z1 (ds:List Dt)|S (ds:List Dt)
mutual
def Rep(g:G):Dt->U->Prop
 |.ZN,u=>u=.ZN
 |.bl b,u=>u=.bl b
 |.int i,u=>u=.int i
 |.str s,u=>u=.str s
 |.Z1 ds,u=>∃O,u=.Z1 O/\Reps g ds O
 |.S ds,u=>∃n O,u=.ref n/\g[n]?=some (.S O)/\Reps g ds O
def Reps(g:G):List Dt->List U->Prop
 |[],O=>O=[]
 |d::ds,O=>∃v vs,O=v::vs/\Rep g d v/\Reps g ds vs
end
noncomputable def Dt.ok:Nat->Dt->Prop
 |0,_=>False
 |n+1,.Z1 ds=>ds.length<1000000 /\∀D∈ds,D.ok n
 |n+1,.S ds=>ds.length<1000000 /\∀D∈ds,D.ok n
 |_+1,_=>True
def Dt.TF{a:List Dt}:Dt.ok (n+1) (.Z1 a)↔a.length<1000000 /\∀D∈a,D.ok n:=by rw[Dt.ok]
def Dt.T5{a:List Dt}:Dt.ok (n+1) (.S a)↔a.length<1000000 /\∀D∈a,D.ok n:=by rw[Dt.ok]
def Reps.length{g:G}:∀{ds:List Dt} {O:List U},Reps g ds O->O.length=ds.length
 |[],_,h=>by cases h;rfl
 |_::ds,_,h=>by let⟨v,vs,rfl,_,h2⟩:=h;simp[Reps.length h2]
def Reps.get{g:G}:∀{ds:List Dt} {O:List U} {i:Nat} {D:Dt},Reps g ds O->ds[i]?=some D ->∃v,O[i]?=some v/\Rep g D v
 |[],_,_,_,_,e=>by simp at e
 |x::ds,_,0,D,h,e=>by
  let⟨v,vs,rfl,h1,_⟩:=h;simp at e;subst e;exact⟨v,by simp,h1⟩
 |x::ds,_,i+1,D,h,e=>by
  let⟨v,vs,rfl,_,h2⟩:=h;let⟨w,b,a⟩:=Reps.get (i:=i) (D:=D) h2 (by simpa using e)
  exact⟨w,by simpa using b,a⟩
structure Plan where
 w:Int
 d:Int
 s:Int
abbrev Pt:=Int×Int
abbrev Zp(P:Plan):U:=.Z1 [.int P.w,.int P.d,.int P.s]
abbrev uP(p:Pt):U:=.Z1 [.int p.1,.int p.2]
structure Plan.ok(P:Plan):Prop where
 w:P.w=1\/P.w=2\/P.w=3
 d:P.d=1\/P.d=2\/P.d=3
 s:P.s=2\/P.s=4\/P.s=8
def Plan.ok.sd{P:Plan}(h:P.ok):small P.d:=by rcases h.d with e|e|e<;>rw[e]<;>exact cb #[1]
def Plan.ok.ss{P:Plan}(h:P.ok):small P.s:=by rcases h.s with e|e|e<;>rw[e]<;>exact cb #[1]
def Plan.ok.s0{P:Plan}(h:P.ok):0<P.s:=by rcases h.s with e|e|e<;>rw[e]<;>decide
def Plan.ok.sb{P:Plan}(h:P.ok):P.s<Au:=by rcases h.s with e|e|e<;>rw[e]<;>decide
def Plan.ok.ws{P:Plan}(h:P.ok):2<=P.w*P.s/\P.w*P.s<=24:=by rcases h.w with e|e|e<;>rcases h.s with f|f|f<;>rw[e,f]<;>decide
def Plan.ok.ds{P:Plan}(h:P.ok):2<=P.d*P.s/\P.d*P.s<=24:=by rcases h.d with e|e|e<;>rcases h.s with f|f|f<;>rw[e,f]<;>decide
def Ae(P:Plan)(p:Pt):Bool:=decide (0<=p.1)&&decide (p.1<=P.w*P.s)&&decide (0<=p.2)&&decide (p.2<=P.d*P.s)
def J4(n:Int):List Int:=(List.range n.toNat).map λ(i:Nat)=>(i:Int)
def au(n:Int):(J4 n).length=n.toNat:=by simp[J4]
def eM{n:Int}:i∈J4 n↔0<=i/\i<n:=by
 simp![J4,Wa,SV];exact⟨λ⟨k,h,e⟩=>by lia,λ⟨h,k⟩=>⟨i.toNat,by lia,by lia⟩⟩
def aV{k:Nat}:next (.Y7 0 j.toNat) k g=some ((J4 j).map U.int)[k]?:=by
 simp![next,J4];by_cases h:k<j.toNat
 .simp [h]
 .simp [h]
def aF{k:Nat}(h:g[n]?=some (.S xs)):next (.S n) k g=some xs[k]?:=by
 simp![next,h]
def Ad(P:Plan):List Pt:=(J4 (P.w*P.s+1)).flatMap λx=>(J4 (P.d*P.s+1)).map λy=>(x,y)
def aI{P:Plan}{p:Pt}:p∈Ad P↔Ae P p=true:=by
 let⟨x,y⟩:=p;simp![Ad,Vz,Wa,eM,Ae,Yk,Xh];constructor
 .rintro ⟨a,h1,b,h2,e⟩
  cases e;omega
 .intro h
  exact⟨x,by omega,y,by omega,rfl⟩
def a9{c d:Type}{f:c->List d}{B:Nat}:∀{l:List c},(∀a∈l,(f a).length<=B)->(l.flatMap f).length<=l.length*B
 |[],_=>by simp
 |a::l,h=>by
  rw[U9,Xs,XI,S2];have h1:=h a #[3]
  have h2:=a9 (f:=f) (B:=B) (l:=l) λb g=>h b (by simp[g])
  lia
def bW{P:Plan}(h:P.ok):(Ad P).length<=625:=by
 have h1:=h.ws;have h2:=h.ds;have:=a9 (f:=λx=>(J4 (P.d*P.s+1)).map λy=>((x,y):Pt)) (B:=25) (l:=J4 (P.w*P.s+1)) λa _=>by simp[au];lia
 have b:(J4 (P.w*P.s+1)).length<=25:=by rw[au];lia
 have c:(J4 (P.w*P.s+1)).length*25<=25*25:=Tf _ b;unfold Ad;lia
def aa(h:g[n]?=some o):(g++gs)[n]?=some o:=by
 rw[XD (Yh.mp h).1];exact h
def ah:(g++[o])[g.length]?=some o:=by simp
def fZ{Q:U->G->Prop}(h:Bt g xs Q)(a:xs.length<=16777000):xs.length<=16777000/\Q (.ref (g++gs).length) (g++gs++[.S xs]):=by
 refine⟨a,?_⟩;have:=h (gs++[.S xs]) (g++gs).length #[3] (by rw[<-X0];exact ah)
 rw[<-X0]at this;exact this
def D1(xs:List Int)(a b:Option Int):List Int:=(xs.drop (HT.sIx xs.length 0 a)).take (HT.sIx xs.length xs.length b-HT.sIx xs.length 0 a)
def yZ(ns:List Int)(l h:Option Int):Bc (ns.map U.int) l h=(D1 ns l h).map U.int:=by
 unfold Bc D1;rw[Yj,<-List.map_drop,<-List.map_take]
abbrev Bs(c:Nat)(at_ WA:Int):Z6:=.S [.ref c,.int at_,.int WA]
def Bag(g:G):Prop:=∃(xs:List Int) (at_ a:Int),g[1]?=some (.S (xs.map .int))/\g[2]?=some (Bs 1 at_ a)
structure Fr(g g':G):Prop where
 Zo:Bag g'
 len:g.length<=g'.length
 get:∀(k:Nat) (o:Z6),3<=k->g[k]?=some o->g'[k]?=some o
def Bag.app(h:Bag g):Bag (g++gs):=let⟨xs,a,s,h1,h2⟩:=h;⟨xs,a,s,aa h1,aa h2⟩
def Bag.len(h:Bag g):3<=g.length:=by let⟨xs,a,s,h1,h2⟩:=h;exact(Yh.mp h2).1
def Fr.app{g gs:G}(h:Bag g):Fr g (g++gs):=⟨h.app,by simp,λk o _ e=>aa e⟩
def Fr.refl(h:Bag g):Fr g g:=⟨h,Hz _,λk o _ e=>e⟩
def Fr.trans{a b c:G}(h:Fr a b)(k:Fr b c):Fr a c:=⟨k.Zo,Hx h.len k.len,λi o hi e=>k.get i o hi (h.get i o hi e)⟩
def C0(xs:List Int)(at_:Int):Int:=if h:0<xs.length then xs.getD (at_ % xs.length).toNat 0 else 0
def iA{xs:List Int}(h:0<xs.length):0<=at_ % (xs.length:Int)/\at_ % (xs.length:Int)<xs.length:=⟨Qe _ (by lia),RB _ (by lia)⟩
def yG{xs:List Int}(h:0<xs.length):Je (xs.map U.int) (at_ % xs.length)=some (.int (C0 xs at_)):=by
 let⟨h1,h2⟩:=iA (at_:=at_) h;rw[dt h1 (by simpa using h2)]
 have:(at_ % (xs.length:Int)).toNat<xs.length:=by lia
 simp[C0,h,Ww this,List.getD]
def yU{xs:List Int}(h:0<xs.length):L2.ixN xs.length (at_ % xs.length)=some (at_ % xs.length).toNat:=by
 let⟨h1,h2⟩:=iA (at_:=at_) h;unfold L2.ixN;rw[Xg h1,Xg h2]
def bD{P:Plan}{p:Pt}(h:0<=p.1/\p.1<=P.w*P.s/\0<=p.2/\p.2<=P.d*P.s):Ae P p=true:=by
 simp![Ae,Yk,Xh];omega
def J6(p:Pt):Dt:=.Z1 [.int p.1,.int p.2]
def aP:Rep g (.int i) (.int i):=by simp![Rep]
def qv{b:Type}{g:G}{f:b->Dt}{e:b->U}(h:∀a,Rep g (f a) (e a)):∀l:List b,Reps g (l.map f) (l.map e)
 |[]=>by simp![SG,Reps]
 |a::l=>by simp![Y3,Reps];exact⟨_,_,rfl,h a,qv h l⟩
def cH:(Dt.int i).ok (n+1):=by simp[Dt.ok]
def qo:IZ .pow (.int 10) (.int 18)=some (.int 1000000000000000000):=by simp[IZ,IY]
def fE{k:Int}(h:g[n]?=some (.S xs))(b:0<=k)(a:k<xs.length):subAt (.ref n) (.int k) u Y g=.ok (.nx Y) (g.set n (.S (xs.set k.toNat u))):=by
 simp![subAt,Dx,h];unfold L2.ixN;rw[Xg b,Xg a]
def bj(h:g[n]?=some (.S xs))(a:xs.length<16777000):A9 n y g=.ok .ZN (g.set n (.S (xs++[y]))):=by
 simp![A9,h];rw[Xg (by simpa[Ag]using a)]
def ot(a:xs.length<16777000):A9 g.length y (g++[.S xs])=.ok .ZN (g++[.S (xs++[y])]):=by
 rw[bj ah a];simp
def aj{o':Z6}(h:g[n]?=some o):(g.set n o')[n]?=some o':=Ua (Yh.mp h).1
def Fr.set1(h:Bag g)(xs:List Int):Fr g (g.set 1 (.S (xs.map U.int))):=by
 let⟨ys,a,s,h1,h2⟩:=h;refine⟨⟨xs,a,s,aj h1,by rw[Xb #[1]];exact h2⟩,by simp,λk o hk e=>by rw[Xb (by lia)];exact e⟩
def Fr.T4(h:Bag g)(d c:Int):Fr g (g.set 2 (Bs 1 d c)):=by
 let⟨ys,a,s,h1,h2⟩:=h;refine⟨⟨ys,d,c,by rw[Xb #[1]];exact h1,aj h2⟩,by simp,λk o hk e=>by rw[Xb (by lia)];exact e⟩
def stride(p:Pt):Int:=if p.1 % 4=0/\p.2 % 4=0 then 4 else if p.1 % 2=0/\p.2 % 2=0 then 2 else 1
abbrev Pr:=Pt×Pt
def FQ(p:Pt):Prop:=((p.1-stride p) / (2*stride p)+(p.2-stride p) / (2*stride p)) % 2=0
instance(p:Pt):Decidable (FQ p):=by unfold FQ;infer_instance
abbrev u2(q:Pr):U:=.Z1 [uP q.1,uP q.2]
def C6:List Plan:=[1,2,3].flatMap λw=>[1,2,3].flatMap λd=>[2,4,8].map λs=>⟨w,d,s⟩
def dO{P:Plan}(h:P.ok):P∈C6:=by
 have e:∀{x a b c:Int},x=a\/x=b\/x=c->x∈[a,b,c]:=λh=>by simpa using h
 exact Vz.mpr ⟨P.w,e h.w,Vz.mpr ⟨P.d,e h.d,Wa.mpr ⟨P.s,e h.s,rfl⟩⟩⟩
def vg{k:Int}:I8 (.int k) (.int i::xs)=(I8 (.int k) xs).map λc=>decide (i=k)||c:=by
 simp![I8,IX,Aq];cases I8 (.int k) xs with
 |none=>rfl
 |some c=>simp![Wo];congr 1
def r8:I8 x []=some false:=rfl
def J7(q:Pr):Dt:=.Z1 [J6 q.1,J6 q.2]
def eL{l:List α}{f:α->U}(b:0<=i)(h:i<l.length):∃a∈l,Je (l.map f) i=some (f a):=by
 have hi:i.toNat<l.length:=by lia
 refine⟨l[i.toNat],Sa hi,?_⟩;rw[dt b (by simpa using h)]
 simp[hi]
def ltP(p q:Pt):Prop:=p.1<q.1\/(p.1=q.1/\p.2<q.2)
instance(p q:Pt):Decidable (ltP p q):=by unfold ltP;infer_instance
def xG{p q:Pt}(h:ltP p q)(k:ltP q p):False:=by unfold ltP at h k;lia
def rF{p:Pt}(h:ltP p p):False:=xG h h
def oH(n:Int):(J4 n).Pairwise (· < ·):=by
 unfold J4;rw[S0];exact List.Pairwise.imp (λh=>by lia) (List.pairwise_lt_range (n:=n.toNat))
def nJ(P:Plan):(Ad P).Pairwise ltP:=by
 unfold Ad;rw[List.pairwise_flatMap];refine⟨λx _=>?_,?_⟩
 .rw [S0]
  exact(oH _).imp λh=>.inr ⟨rfl,h⟩
 .refine (oH _).imp λ{x y} h p b q a=>?_
  let⟨_,_,rfl⟩:=Wa.mp b;let⟨_,_,rfl⟩:=Wa.mp a;exact .inl h
structure ZJ where
 ax:Int
 ay:Int
 bx:Int
 bY:Int
 cx:Int
 cy:Int
deriving DecidableEq
abbrev uT(t:ZJ):U:=.Z1 [.int t.ax,.int t.ay,.int t.bx,.int t.bY,.int t.cx,.int t.cy]
def J8(o:Option Pt):U:=match o with
 |none=>.ZN
 |some p=>uP p
def AW(i j s:Int):List ZJ:=if(i+j) % 2=0 then[⟨i*s,j*s,i*s+s,j*s+s,i*s+s,j*s⟩,⟨i*s+s,j*s+s,i*s,j*s,i*s,j*s+s⟩]
 else[⟨i*s+s,j*s,i*s,j*s+s,i*s+s,j*s+s⟩,⟨i*s,j*s+s,i*s+s,j*s,i*s,j*s⟩]
def dH(i j s:Int):(AW i j s).length=2:=by unfold AW;split<;>rfl
def Bl(P:Plan):List ZJ:=(J4 P.w).flatMap λi=>(J4 P.d).flatMap λj=>AW i j P.s
def Bk(t:ZJ):Option Pt:=if(t.ax+t.bx) % 2=1\/(t.ay+t.bY) % 2=1 then none else some ((t.ax+t.bx) / 2,(t.ay+t.bY) / 2)
def B7(t:ZJ)(m:Pt):List ZJ:=[⟨t.ax,t.ay,t.cx,t.cy,m.1,m.2⟩,⟨t.cx,t.cy,t.bx,t.bY,m.1,m.2⟩]
def Ar(t:ZJ):List ZJ:=match Bk t with
 |none=>[]
 |some m=>B7 t m
def cS{t:ZJ}{m:Pt}(h:Bk t=some m):Ar t=B7 t m:=by unfold Ar;rw[h]
def vP{t:ZJ}(h:Bk t=none):Ar t=[]:=by unfold Ar;rw[h]
def AY:Nat->ZJ->List ZJ
 |0,t=>[t]
 |n+1,t=>t::(Ar t).flatMap (AY n)
def AL:Nat->ZJ->Bool
 |0,t=>(Ar t).isEmpty
 |n+1,t=>(Ar t).all (AL n)
def AB(t:ZJ):List ZJ:=AY 7 t
def fq{c d:Type}{f g:c->List d}:∀{l:List c},(∀x∈l,f x=g x)->l.flatMap f=l.flatMap g
 |[],_=>rfl
 |a::l,h=>by rw[U9,U9,h a #[3],fq λx j=>h x (by simp[j])]
def og:∀(n:Nat) (t:ZJ),AL n t=true->AY (n+1) t=AY n t
 |0,t,h=>by
  have:Ar t=[]:=T8.mp h;simp[AY,this]
 |n+1,t,h=>by
  have h':=XH.mp h;show t::(Ar t).flatMap (AY (n+1))=t::(Ar t).flatMap (AY n);rw[fq λx a=>og n x (h' x a)]
def pD:∀(n:Nat) (t:ZJ),AL n t=true->AL (n+1) t=true
 |0,t,h=>by
  have:Ar t=[]:=T8.mp h;simp[AL,this]
 |n+1,t,h=>XH.mpr λx a=>pD n x (XH.mp h x a)
def pB{t x:ZJ}(h:AL 7 t=true)(a:x∈Ar t):AL 6 x=true:=XH.mp h x a
def pR{t:ZJ}(h:AL 7 t=true):AB t=t::(Ar t).flatMap AB:=by
 show t::(Ar t).flatMap (AY 6)=_;rw[fq λx a=>(og 6 x (pB h a)).symm]
 rfl
def xx(t:ZJ):0<(AB t).length:=by show 0<(t::_).length;simp
def J9(P:Plan):List ZJ:=(Bl P).flatMap AB
def oJ:(C6.all λP=>(Bl P).all (AL 7)&&decide (((J9 P).length:Int)=P.w*P.d*(4*P.s*P.s-2))&&decide ((J9 P).length<=2286))=true:=by decide +kernel
def fO{P:Plan}(h:P.ok){t:ZJ}(a:t∈Bl P):AL 7 t=true:=by
 have:=XH.mp oJ P (dO h);simp![Yk,XH]at this;exact this.1.1 t a
def fD{P:Plan}(h:P.ok):((J9 P).length:Int)=P.w*P.d*(4*P.s*P.s-2)/\(J9 P).length<=2286:=by
 have:=XH.mp oJ P (dO h);simp![Yk,Xh]at this;exact⟨this.1.2,this.2⟩
def oM{P:Plan}(h:P.ok):(Bl P).length<=18:=by
 have a:∀i,((J4 P.d).flatMap λj=>AW i j P.s).length<=6:=λi=>by
  have:=a9 (f:=λj=>AW i j P.s) (B:=2) (l:=J4 P.d) λj _=>Qm (dH i j P.s);have h2:(J4 P.d).length<=3:=by rw[au];rcases h.d with e|e|e<;>rw[e]<;>decide
  lia
 have:=a9 (f:=λi=>(J4 P.d).flatMap λj=>AW i j P.s) (B:=6) (l:=J4 P.w) λi _=>a i;have h2:(J4 P.w).length<=3:=by rw[au];rcases h.w with e|e|e<;>rw[e]<;>decide
 unfold Bl;lia
def xC(h:g[n]?=some (.S (xs++[y]))):Bn n g=.ok y (g.set n (.S xs)):=by
 simp![Bn,h];simp
def pj(h:g[n]?=some (.S xs))(k:g[m]?=some (.S ys))(a:xs.length+ys.length<16777000):Bq n (.ref m) g=.ok .ZN (g.set n (.S (xs++ys))):=by
 simp![Bq,Jk,h,k];rw[Xg (by simpa[Ag]using a)]
def slc4{t:ZJ}:CP (uT t) none (some 4) g=.ok (.Z1 [.int t.ax,.int t.ay,.int t.bx,.int t.bY]) g:=rfl
def dT(t:ZJ):Dt:=.Z1 [.int t.ax,.int t.ay,.int t.bx,.int t.bY,.int t.cx,.int t.cy]
def qx{c d:Type}{f:c->List d}:∀{l:List c},(∀x∈l,0<(f x).length)->l.length<=(l.flatMap f).length
 |[],_=>by simp
 |a::l,h=>by
  rw[U9,Xs,XI];have h1:=h a #[3]
  have h2:=qx (l:=l) λx g=>h x (by simp[g])
  lia
def nP{b c:Type}{f:b->List c}:∀{l:List b},(l.reverse.flatMap f).length=(l.flatMap f).length
 |[]=>rfl
 |a::l=>by
  rw[Tu,Rt,Xs,nP,U9,Xs];simp;lia
def zj{l:List α}{a:α}:(l++[a]).isEmpty=false:=by cases l<;>rfl
def pT:(g++a::(B++b::gs))[g.length]?=some a:=by simp
def dZ:(g++a::(B++b::gs))[g.length+1+B.length]?=some b:=by
 rw[Xf (by lia),show g.length+1+B.length-g.length=B.length+1 by lia,Tv,Xf (by lia)]
 simp
def yz{c:Z6}:(g++a::(B++b::gs)).set g.length c=g++c::(B++b::gs):=by simp
def qr{c:Z6}:(g++a::(B++b::gs)).set (g.length+1+B.length) c=g++a::(B++c::gs):=by
 rw[S7 _ _ (),show g.length+1+B.length-g.length=B.length+1 by omega,List.set_cons_succ,S7 _ _ ()]
 simp
def gZ{c:G}:g++a::(B++b::gs)++c=g++a::(B++b::(gs++c)):=by simp
def gS(i:Int):(if i<0 then -i else i)=(i.natAbs:Int):=by split<;>lia
noncomputable def Yv(i:Int):Prop:=-Au<i/\i<Au
def Ka(i j:Int):Int:=if 0<j then i / j else i.fdiv j
def tW(a:j≠0)(h:Yv j):IZ .fdiv (.int i) (.int j)=some (.int (Ka i j)):=by
 let⟨h1,h2⟩:=h;unfold Ka;simp![IZ,IY];by_cases h:0<j
 .simp [h,h2]
 .simp [h,a,h1]
def By(a b:Int):Int:=if b<0 then -(Nat.gcd a.natAbs b.natAbs:Int)else(Nat.gcd a.natAbs b.natAbs:Int)
def GD(a b:Int):Pt:=(Ka a (By a b),Ka b (By a b))
def acE{a b:Int}(c:b≠0):0<Nat.gcd a.natAbs b.natAbs/\Nat.gcd a.natAbs b.natAbs<=b.natAbs:=by
 have h:0<b.natAbs:=by lia
 exact⟨Nat.gcd_pos_of_pos_right _ h,Nat.le_of_dvd h (Nat.gcd_dvd_right _ _)⟩
def yX{a b:Int}(c:b≠0)(h:Yv b):By a b≠0/\Yv (By a b):=by
 let⟨h1,h2⟩:=acE (a:=a) c;let⟨e,d⟩:=h;unfold By Yv;split<;>lia
def mid(i:Int):Prop:=-10000000000000000000000000000<i/\i<10000000000000000000000000000
def mid.Yv{i:Int}(h:mid i):Yv i:=by unfold mid at h;unfold PI.Yv Au;omega
def pf:∀(n:Nat) (t:ZJ),t∈AY n t
 |0,t=>by simp[AY]
 |n+1,t=>by simp[AY]
def oU:∀(n:Nat) (r t x:ZJ),AL n r=true->t∈AY n r->x∈Ar t->x∈AY n r
 |0,r,t,x,hd,ht,a=>by
  have c:Ar r=[]:=T8.mp hd;have:t=r:=by simpa[AY]using ht
  subst this;rw[c]at a;cases a
 |n+1,r,t,x,hd,ht,a=>by
  rcases YG.mp ht with rfl|h
  .exact HA _ (Vz.mpr ⟨x,a,pf n x⟩)
  .obtain ⟨y,b,d⟩:=Vz.mp h
   exact HA _ (Vz.mpr ⟨y,b,oU n y t x (XH.mp hd y b) d a⟩)
def v7{P:Plan}(d:P.ok){t x:ZJ}(c:t∈J9 P)(b:x∈Ar t):x∈J9 P:=by
 let⟨r,a,h⟩:=Vz.mp c;exact Vz.mpr ⟨r,a,oU 7 r t x (fO d a) h b⟩
def vZ{P:Plan}{t:ZJ}(a:t∈Bl P):t∈J9 P:=Vz.mpr ⟨t,a,pf 7 t⟩
def BU(t:ZJ):Bool:=[t.ax,t.ay,t.bx,t.bY,t.cx,t.cy].all λi=>decide (0<=i)&&decide (i<32)
structure NT where
 a:Nat
 b:Nat
 c:Nat
 d:Nat
 e:Nat
 f:Nat
variable{v:U}{a b:Int}{P:Plan}{p:Pt}
def Kb(x y z v:Nat):Bool:=Nat.ble x v||(Nat.ble y v||Nat.ble z v)
def Kc(x y z v:Nat):Bool:=Nat.ble v x||(Nat.ble v y||Nat.ble v z)
def AD(t:ZJ):List Int:=[t.ax,t.ay,t.bx,t.bY,t.cx,t.cy]
def d0{t u:ZJ}(h:AD t=AD u):t=u:=by
 let⟨a,b,c,d,e,f⟩:=t;let⟨a',b',c',g,e',f'⟩:=u;simpa[AD]using h
def cM{t:ZJ}:intsOf [.int t.ax,.int t.ay,.int t.bx,.int t.bY,.int t.cx,.int t.cy]=some (AD t):=rfl
def fK{k:List Int}:(Am Z4 k).isSome=Z4.any λb=>decide (b.1=k):=by
 unfold Am
 induction Z4 with
 |nil=>rfl
 |cons a r ih=>
  rw[W5,Wq];cases decide (a.1=k)with
  |true=>rfl
  |false=>simpa using ih
def qO{k:List Int}:(dput Z4 k v).length<=Z4.length+1:=by
 unfold dput;split<;>simp
def aT{k:List Int}(h:g[n]?=some (.ZV Z4))(b:intsOf O=some k)(a:Z4.length<16777000):subAt (.ref n) (.Z1 O) u Y g=.ok (.nx Y) (g.set n (.ZV (dput Z4 k u))):=by
 simp![subAt,Ed,h,b];rw[Xg (by simpa[Ag]using a)]
def aE{k:List Int}(h:g[n]?=some (.ZV Z4))(a:intsOf O=some k):Al (.Z1 O) (.ref n) g=some (Am Z4 k):=by
 simp![Al,Ja,h,keyOf,a,Wo]
def Ax(a b:Int):List Int:=(List.range (b-a).toNat).map λ(i:Nat)=>a+(i:Int)
def aW(a b:Int):(Ax a b).length=(b-a).toNat:=by simp[Ax]
def qA:i∈Ax a b↔a<=i/\i<b:=by
 simp![Ax,Wa,SV];exact⟨λ⟨k,h,e⟩=>by omega,λ⟨h,k⟩=>⟨(i-a).toNat,by lia,by lia⟩⟩
def cf{k:Nat}:next (.Y7 a (b-a).toNat) k g=some ((Ax a b).map U.int)[k]?:=by
 simp![next,Ax];by_cases h:k<(b-a).toNat
 .simp [h]
 .simp [h]
abbrev Yb(t:ZJ):Int:=best true t.ax [t.bx,t.cx]
abbrev XX(t:ZJ):Int:=best true t.ay [t.bY,t.cy]
abbrev X_(t:ZJ):Int:=best false t.ax [t.bx,t.cx]
abbrev XW(t:ZJ):Int:=best false t.ay [t.bY,t.cy]
def Bm(t:ZJ)(p:Pt):Bool:=decide (Yb t<=p.1)&&decide (p.1<=X_ t)&&(decide (XX t<=p.2)&&decide (p.2<=XW t))
def B6(ax ay bx a:Int)(p:Pt):Int:=(bx-ax)*(p.2-ay)-(a-ay)*(p.1-ax)
abbrev Wz(t:ZJ)(p:Pt):Int:=B6 t.ax t.ay t.bx t.bY p
abbrev VP(t:ZJ)(p:Pt):Int:=B6 t.bx t.bY t.cx t.cy p
abbrev Wy(t:ZJ)(p:Pt):Int:=B6 t.cx t.cy t.ax t.ay p
def AN(t:ZJ)(p:Pt):Bool:=Bm t p&&(decide (0<=best true (Wz t p) [VP t p,Wy t p])||decide (best false (Wz t p) [VP t p,Wy t p]<=0))
def Ke(t:ZJ):List Pt:=(Ax (Yb t) (X_ t+1)).flatMap λx=>((Ax (XX t) (XW t+1)).filter λy=>AN t (x,y)).map λy=>(x,y)
def G5(a b c:Pt):Int:=(b.1-a.1)*(c.2-a.2)-(c.1-a.1)*(b.2-a.2)
def Kf(t:ZJ):Pt:=(t.ax,t.ay)
def Kg(t:ZJ):Pt:=(t.bx,t.bY)
def Kh(t:ZJ):Pt:=(t.cx,t.cy)
def bF{c x:Int}:x<=best true a [b,c]↔x<=a/\x<=b/\x<=c:=by
 simp![best,Vo,Sn,Vy];split<;>split<;>omega
def bE{c x:Int}:best false a [b,c]<=x↔a<=x/\b<=x/\c<=x:=by
 simp![best,Vo,Sn,XZ,VC];split<;>split<;>omega
def Ki(t:ZJ):Prop:=(-100<=t.ax/\t.ax<=100)/\(-100<=t.ay/\t.ay<=100)/\(-100<=t.bx/\t.bx<=100)/\(-100<=t.bY/\t.bY<=100)/\(-100<=t.cx/\t.cx<=100)/\(-100<=t.cy/\t.cy<=100)
def Ki.box{t:ZJ}(h:Ki t): -100<=Yb t/\X_ t<=100 /\ -100<=XX t/\XW t<=100:=by
 let⟨a,b,c,d,e,f⟩:=h;refine⟨bF.mpr (by lia),bE.mpr (by lia),bF.mpr (by lia),bE.mpr (by lia)⟩
def xa{t:ZJ}(h:Ki t):(Ke t).length<=201*201:=by
 let⟨g,e,d,c⟩:=h.box;have:=a9 (f:=λx=>((Ax (XX t) (XW t+1)).filter λy=>AN t (x,y)).map λy=>((x,y):Pt)) (B:=201) (l:=Ax (Yb t) (X_ t+1)) λx _=>by
  rw[Yj];have:=SD (λy=>AN t (x,y)) (Ax (XX t) (XW t+1));rw[aW]at this;lia
 have a:(Ax (Yb t) (X_ t+1)).length<=201:=by rw[aW];lia
 have b:(Ax (Yb t) (X_ t+1)).length*201<=201*201:=Tf _ a;unfold Ke;lia
def zH:(C6.all λP=>(J9 P).all BU)=true:=by decide +kernel
def fm(h:P.ok){t:ZJ}(a:t∈J9 P):BU t=true:=XH.mp (XH.mp zH P (dO h)) t a
def qt{t:ZJ}(h:BU t=true):Ki t:=by
 simp![BU,SM,List.all_nil,Qk,Yk,Xh]at h;unfold Ki;omega
section
variable{M:List Fn}
def rf{it:Iter}{t:Tg}{c:E}{Q:List U->G->Prop}(O:List U)(r:U->Prop)(a:G->Prop)
  (j:∀k g,a g->next it k g=some O[k]?)
  (w:∀u,u∈O->AF t Y=true/\JO (Ah t u Y) (lk λo=>∀g,a g->JF M d c o g (λ_ _ _=>False) λv g=>r v/\a g)) :
  ∀(n i:Nat) (ZX:List U) (g:G),i+n=O.length->ZX.length+n<Ag->a g->(∀vs g,vs.length=n->(∀v∈vs,r v)->a g->Q (ZX++vs) g)->JN M d it i t [] [] c ZX Y g X Q
 |0,i,ZX,g,H,_,h,f=>by
  rw[aQ];refine⟨none,by rw[j _ _ h];simp;lia,?_⟩
  have:=f [] g rfl #[3] h
  simpa using this
 |n+1,i,ZX,g,H,J,h,f=>by
  have hi:i<O.length:=by lia
  let⟨C,I⟩:=w O[i] (Sa hi);let⟨o,D,A⟩:=aG.2 I;rw[aQ];refine⟨some O[i],by rw[j _ _ h];simp[hi],C,o,D,dy.2 ?_⟩
  rw[Xg rfl];refine wp_mono (A g h) λv g ⟨ev,B⟩=>⟨by lia,?_⟩
  refine rf O r a j w n (i+1) _ g (by lia) (by simp;lia) B λvs g h1 h2 F=>?_
  have:=f (v::vs) g (by simp[h1]) (λx y=>by rcases YG.mp y with rfl|z;exact ev;exact h2 x z) F
  simpa using this
def abL{t:Tg}{g:G}(O:List U)(b:U->Prop)(a:G->Prop)
  (f:∀k g,a g->next it k g=some O[k]?)
  (c:∀u,u∈O->AF t Y=true/\JO (Ah t u Y) (lk λl=>∀g,a g->JF M d elt l g (λ_ _ _=>False) λv g=>b v/\a g))
  (h:O.length<16777000) (j:a g) (e:∀vs g,vs.length=O.length->(∀v∈vs,b v)->a g->Q vs g):JN M d it 0 t [] [] elt [] Y g X Q:=
 rf O b a f c O.length 0 [] g (VM _) (by simpa[Ag]using h) j λvs g h1 h2 i=>by simpa using e vs g h1 h2 i
def jI{it:Iter}{t:Tg}{cs:List E}{c:E}{Q:List U->G->Prop}(O:List U)(r:U->Prop)(a:G->Prop)
  (j:∀k g,a g->next it k g=some O[k]?)
  (w:∀u,u∈O->AF t Y=true/\JO (Ah t u Y) (lk λo=>∀g,a g->JI M d cs o g (λ_ _ _=>False) λk g=>a g/\(k=true->JF M d c o g (λ_ _ _=>False) λv g=>r v/\a g))) :
  ∀(n i:Nat) (ZX:List U) (g:G),i+n=O.length->ZX.length+n<Ag->a g->(∀vs g,vs.length<=n->(∀v∈vs,r v)->a g->Q (ZX++vs) g)->JN M d it i t cs [] c ZX Y g X Q
 |0,i,ZX,g,J,_,h,f=>by
  rw[aQ];refine⟨none,by rw[j _ _ h];simp;omega,?_⟩
  have:=f [] g (Hz _) #[3] h
  simpa using this
 |n+1,i,ZX,g,J,L,h,f=>by
  have hi:i<O.length:=by omega
  let⟨H,K⟩:=w O[i] (Sa hi);let⟨o,I,D⟩:=aG.2 K;rw[aQ];refine⟨some O[i],by rw[j _ _ h];simp[hi],H,o,I,wp_mono (D g h) λk g q=>?_⟩
  let⟨B,A⟩:=q;cases k with
  |true=>
   rw[Xg rfl];refine wp_mono (A rfl) λv g ⟨ev,F⟩=>⟨by omega,?_⟩
   refine jI O r a j w n (i+1) _ g () (by simp;omega) F λvs g h1 h2 y=>?_
   have:=f (v::vs) g (by simp;lia) (λx C=>by rcases YG.mp C with rfl|z;exact ev;exact h2 x z) y
   simpa using this
  |false=>
   rw[Xp #[3]]
   exact jI O r a j w n (i+1) _ g () (by lia) B λvs g h1 h2 y=>f vs g (by lia) h2 y
end
def qJ{k k':List Int}{v:U}:∀{Z4:List (List Int×U)},((Z4.map λb=>if b.1=k then(b.1,v)else b).find? λb=>decide (b.1=k'))=(Z4.find? λb=>decide (b.1=k')).map λb=>if b.1=k then(b.1,v)else b
 |[]=>rfl
 |a::r=>by
  have ih:=qJ (k:=k) (k':=k') (v:=v) (Z4:=r);rw[Y3,W5,W5];have e:decide ((if a.1=k then(a.1,v)else a).1=k')=decide (a.1=k'):=by split<;>rfl
  rw[e];cases decide (a.1=k')with
  |true=>rfl
  |false=>exact ih
def bG{k k':List Int}:Am (dput Z4 k v) k'=if k=k' then some v else Am Z4 k':=by
 by_cases h:(Z4.any λa=>decide (a.1=k))=true
 .unfold dput
  rw[Xg h];unfold Am;rw[qJ];have b:=fK (Z4:=Z4) (k:=k);rw[h]at b;unfold Am at b;cases hf:Z4.find? (λa=>decide (a.1=k'))with
  |none=>
   by_cases e:k=k'
   .subst e;rw[hf]at b;simp at b
   .rw [Xp e];rfl
  |some a=>
   have:=Qd hf;simp![Xh]at this;by_cases e:k=k'
   .subst e;simp[this]
   .have e' : ¬ k'=k:=λz=>e z.symm
    rw[Xp e];simp[this,e']
 .unfold dput
  rw[Xp h];unfold Am;rw[List.find?_append];by_cases e:k=k'
  .subst e
   have b:=fK (Z4:=Z4) (k:=k);rw[Rc]at h;rw[h]at b;have c:Z4.find? (λa=>decide (a.1=k))=none:=by
    unfold Am at b;cases hf:Z4.find? (λa=>decide (a.1=k))with
    |none=>rfl
    |some a=>rw[hf]at b;simp at b
   rw[c];simp
  .rw [Xp e]
   cases hf:Z4.find? (λa=>decide (a.1=k'))with
   |none=>simp[e]
   |some a=>simp
def oX{k:List Int}(h:(Am Z4 k).isSome=true):(dput Z4 k v).length=Z4.length:=by
 rw[fK]at h;unfold dput;rw[Xg h];simp
def Aa(p:Pt):List Int:=[p.1,p.2]
def aw{q:Pt}(h:Aa p=Aa q):p=q:=by
 let⟨a,b⟩:=p;let⟨c,d⟩:=q;simpa[Aa]using h
def aq:intsOf [.int a,.int b]=some (Aa (a,b)):=rfl
def Kj{a:Type}(key:a->List Int)(f:a->U)(ps:List a):List (List Int×U):=ps.map λq=>(key q,f q)
def aM{c:Type}{key:c->List Int}(d:∀a b,key a=key b->a=b){f:c->U}{a:c}:∀{ps:List c},a∈ps->Am (Kj key f ps) (key a)=some (f a)
 |[],h=>nomatch h
 |b::r,h=>by
  unfold Am Kj;rw[Y3,W5];by_cases e:key b=key a
  .have:=d _ _ e;subst this;simp
  .have h':a∈r:=by
    rcases YG.mp h with z|z
    .subst z;exact absurd rfl e
    .exact z
   have ih:=aM d (f:=f) h';unfold Am Kj at ih;simp![e,decide_false];exact ih
def cX[DecidableEq α]{key:α->List Int}(d:∀a b,key a=key b->a=b){f:α->U}{a:α}{ps:List α}(h:a ∉ ps):dput (Kj key f ps) (key a) v=Kj key (λq=>if q=a then v else f q) (ps++[a]):=by
 unfold dput;rw[Xp]
 .unfold Kj
  rw[Sy];congr 1
  .refine SJ λq c=>?_
   show(key q,f q)=(key q,if q=a then v else f q)
   rw[Xp (λe=>h (by rw[<-e];exact c))]
  .simp
 .intro hc
  simp![Kj,List.any_map,List.any_eq_true,Function.comp,Xh]at hc;let⟨q,c,e⟩:=hc;exact h (by rw[<-d _ _ e];exact c)
def d9[DecidableEq α]{key:α->List Int}(c:∀a b,key a=key b->a=b){f:α->U}{a:α}{ps:List α}(h:a∈ps):dput (Kj key f ps) (key a) v=Kj key (λq=>if q=a then v else f q) ps:=by
 unfold dput;rw[Xg]
 .unfold Kj
  rw[UW];refine SJ λq d=>?_;simp![Function.comp];by_cases e:q=a
  .subst e;simp
  .rw [Xp (λz=>e (c _ _ z)),Xp e]
 .simp only [Kj,List.any_map,List.any_eq_true,Function.comp,Xh]
  exact⟨a,h,rfl⟩
def pz{f:Type}(key:f->List Int)(e:f->U)(j:∀a,keyOf (e a)=some (key a))(v:U):∀(ts:List f) (Z4:List (List Int×U)),∃c,dfold (ts.map λt=>.Z1 [e t,v]) Z4=some c/\c.length<=Z4.length+ts.length /\∀k,Am c k=if k∈ts.map key then some v else Am Z4 k
 |[],Z4=>⟨Z4,rfl,by simp,λk=>by simp⟩
 |t::ts,Z4=>by
  let⟨c,h1,h2,o⟩:=pz key e j v ts (dput Z4 (key t) v);refine⟨c,?_,?_,λk=>?_⟩
  .rw [Y3]
   show(BG Z4 (.Z1 [e t,v])).bind _=_;simp![BG,j,Wo,UK];exact h1
  .have:=qO (Z4:=Z4) (k:=key t) (v:=v)
   rw[XI];lia
  .rw [o,bG]
   by_cases d:k∈ts.map key
   .rw [Xg d,Xg (by rw[Y3];exact HA _ d)]
   .rw [Xp d]
    by_cases g:key t=k
    .subst g;rw[Xg rfl,Xg #[3]]
    .rw [Xp g,Xp]
     rw[Y3,YG];exactλz=>z.elim (λz=>g z.symm) d
def Kk(xs:List U):List U:=(List.range xs.length).map λ(i:Nat)=>.Z1 [.int (i:Int),(xs[i]?).getD .ZN]
def gE{k:Nat}:(Kk xs)[k]?=(xs[k]?).map λu=>.Z1 [.int k,u]:=by
 unfold Kk;by_cases h:k<xs.length
 .simp [h]
 .simp [h]
def qS:(Kk xs).length=xs.length:=by simp[Kk]
def qw{a k:Nat}(h:g[a]?=some (.S xs)):next (.YY a) k g=some (Kk xs)[k]?:=by
 simp![next,h,gE]
def cY{a k:Nat}{key:α->List Int}{f:α->U}{ps:List α}(h:g[a]?=some (.Zu (Kj key f ps))):next (.ZV a) k g=some (ps.map λp=>U.Z1 ((key p).map .int))[k]?:=by
 simp![next,h,Kj,Y0];cases ps[k]?<;>rfl
def dS{k:List Int}(h:g[n]?=some (.Zu Z4))(a:intsOf O=some k):Al (.Z1 O) (.ref n) g=some (Am Z4 k):=by
 simp![Al,Ja,h,keyOf,a,Wo]
def pZ{k:List Int}(h:Ja u g=some Z4)(a:intsOf O=some k):Al (.Z1 O) u g=some (Am Z4 k):=by
 simp![Al,h,keyOf,a,Wo]
def AZ(t:ZJ):Int:=(t.bx-t.ax)*(t.cy-t.ay)-(t.bY-t.ay)*(t.cx-t.ax)
def DP(t:ZJ)(a b c:Int):Int:=(b-a)*(t.cy-t.ay)-(c-a)*(t.bY-t.ay)
def DG(t:ZJ)(a b c:Int):Int:=(c-a)*(t.bx-t.ax)-(b-a)*(t.cx-t.ax)
def FT(t:ZJ)(a b c:Int):Int:=a*AZ t-DP t a b c*t.ax-DG t a b c*t.ay
abbrev Ht:=Pt->Int
abbrev Vs(H:Ht)(t:ZJ):Int:=DP t (H (Kf t)) (H (Kg t)) (H (Kh t))
abbrev Vr(H:Ht)(t:ZJ):Int:=DG t (H (Kf t)) (H (Kg t)) (H (Kh t))
abbrev Vq(H:Ht)(t:ZJ):Int:=FT t (H (Kf t)) (H (Kg t)) (H (Kh t))
def Kl(H:Ht)(t:ZJ)(p:Pt):Int:=H p*AZ t-(Vs H t*p.1+Vr H t*p.2+Vq H t)
def A0(H:Ht)(t:ZJ)(p:Pt):Int:=((Kl H t p).natAbs:Int)
def AA(H:Ht)(t:ZJ)(a:Int×Option Pt)(p:Pt):Int×Option Pt:=if a.1<A0 H t p then(A0 H t p,some p)else a
def BN(H:Ht)(t:ZJ):Int×Option Pt:=(Ke t).foldl (AA H t) (-1,none)
def Km(H:Ht)(t:ZJ):Pt:=GD (BN H t).1 ((AZ t).natAbs:Int)
abbrev uG(H:Ht)(t:ZJ):U:=.Z1 [uP (Km H t),J8 (BN H t).2]
def FA(a b:Pt):Prop:=a.1*b.2<b.1*a.2
instance{a b:Pt}:Decidable (FA a b):=by unfold FA;infer_instance
def qj{H:Ht}{t:ZJ}:∀(l:List Pt) (a:Int×Option Pt),a.1<=(l.foldl (AA H t) a).1/\(∀p∈l,A0 H t p<=(l.foldl (AA H t) a).1)/\((l.foldl (AA H t) a).1=a.1 \/∃p∈l,(l.foldl (AA H t) a).1=A0 H t p)
 |[],a=>⟨RU _,(λp h=>nomatch h),.inl rfl⟩
 |q::l,a=>by
  let⟨h1,h2,d⟩:=qj (H:=H) (t:=t) l (AA H t a q);rw[Vo];by_cases c:a.1<A0 H t q
  .have e:AA H t a q=(A0 H t q,some q):=Xg c
   have f:(AA H t a q).1=A0 H t q:=by rw[e]
   refine⟨by lia,λp b=>?_,?_⟩
   .rcases YG.mp b with rfl|b
    .lia
    .exact h2 p b
   .rcases d with d|⟨p,b,d⟩
    .exact .inr ⟨q,by simp,by lia⟩
    .exact .inr ⟨p,by simp[b],d⟩
  .have e:AA H t a q=a:=Xp c
   have f:(AA H t a q).1=a.1:=by rw[e]
   refine⟨by lia,λp b=>?_,?_⟩
   .rcases YG.mp b with rfl|b
    .lia
    .exact h2 p b
   .rcases d with d|⟨p,b,d⟩
    .exact .inl (by lia)
    .exact .inr ⟨p,by simp[b],d⟩
def zE{H:Ht}{t:ZJ}(h:p∈Ke t):0<=(BN H t).1:=by
 have:=(qj (H:=H) (t:=t) (Ke t) (-1,none)).2.1 p h;unfold BN;have h2:0<=A0 H t p:=by unfold A0;lia
 lia
structure Low(a:Pt):Prop where
 pos:0<a.2
 cop:Nat.gcd a.1.natAbs a.2.natAbs=1
def G3(P:Plan):Plan:=⟨P.d,P.w,P.s⟩
def pF{t:ZJ}:p∈Ke t↔AN t p=true:=by
 let⟨x,y⟩:=p;unfold Ke;simp![Vz,qA,Wa,Rn,Qj];constructor
 .rintro ⟨a,d,b,⟨c,hc⟩,rfl,rfl⟩;exact hc
 .intro h
  have c:Bm t (x,y)=true:=by unfold AN at h;exact(Bool.and_eq_true_iff.mp h).1
  simp![Bm,Yk,Xh]at c;exact⟨x,by omega,y,⟨by omega,h⟩,rfl,rfl⟩
def Kn(P:Plan)(t:ZJ):Bool:=Ae P (Kf t)&&(Ae P (Kg t)&&Ae P (Kh t))
def Kq(t:ZJ):Bool:=decide (0<(AZ t).natAbs)&&decide ((AZ t).natAbs<=1000)
def ze:(C6.all λP=>(J9 P).all λt=>Kn P t&&Kq t)=true:=by decide +kernel
def eW(h:P.ok){t:ZJ}(a:t∈J9 P):Kn P t=true/\0<(AZ t).natAbs/\(AZ t).natAbs<=1000:=by
 have:=XH.mp (XH.mp ze P (dO h)) t a;simpa[Kq]using this
def aS:Ae P p=true↔0<=p.1/\p.1<=P.w*P.s/\0<=p.2/\p.2<=P.d*P.s:=by
 simp![Ae,Yk,Xh];lia
def gU{t:ZJ}(h:Kn P t=true):Ae P (Kf t)=true/\Ae P (Kg t)=true/\Ae P (Kh t)=true:=by simpa[Kn]using h
def yg{t:ZJ}(h:Kn P t=true)(g:p∈Ke t):Ae P p=true:=by
 let⟨h1,h2,e⟩:=gU h;rw[aS]at *;have f:Bm t p=true:=by have:=pF.mp g;unfold AN at this;exact(Bool.and_eq_true_iff.mp this).1
 simp![Bm,Yk,Xh]at f;let⟨⟨v,u⟩,r,q⟩:=f;have m1:0<=Yb t:=(bF (a:=t.ax) (b:=t.bx) (c:=t.cx) (x:=0)).mpr ⟨h1.1,h2.1,e.1⟩;have o:X_ t<=P.w*P.s:=(bE (a:=t.ax) (b:=t.bx) (c:=t.cx) (x:=P.w*P.s)).mpr ⟨h1.2.1,h2.2.1,e.2.1⟩;have n:0<=XX t:=(bF (a:=t.ay) (b:=t.bY) (c:=t.cy) (x:=0)).mpr ⟨h1.2.2.1,h2.2.2.1,e.2.2.1⟩;have m:XW t<=P.d*P.s:=(bE (a:=t.ay) (b:=t.bY) (c:=t.cy) (x:=P.d*P.s)).mpr ⟨h1.2.2.2,h2.2.2.2,e.2.2.2⟩;generalize Yb t=l at *;generalize X_ t=k at *;generalize XX t=j at *;generalize XW t=i at *;lia
def xj{t:ZJ}:Kf t∈Ke t:=by
 rw[pF];unfold AN Bm;have b:Wz t (Kf t)=0:=by simp![Wz,B6,Kf];grind
 have a:Wy t (Kf t)=0:=by simp![Wy,B6,Kf];grind
 rw[b,a];simp![Yk,Ut,Xh,bF,bE,Yb,X_,XX,XW,best,Vo,Sn,Vy,XZ,VC,Kf];omega
def B4:List Plan:=[⟨1,1,2⟩,⟨1,1,4⟩,⟨2,1,2⟩,⟨1,2,2⟩,⟨2,2,2⟩,⟨1,1,4⟩,⟨1,3,2⟩]
def yt(h:P∈B4):P.ok/\(G3 P).ok:=by
 simp![B4,YG,Xy,VD]at h;rcases h with rfl|rfl|rfl|rfl|rfl|rfl|rfl<;>exact⟨⟨by decide,by decide,by decide⟩,⟨by decide,by decide,by decide⟩⟩
def sS{A B:Nat}(d:a.natAbs<=A)(c:b.natAbs<=B):(a*b).natAbs<=A*B:=by
 rw[Int.natAbs_mul];exact Nat.mul_le_mul d c
def aa9{t:ZJ}(h:BU t=true):t.ax.natAbs<=31/\t.ay.natAbs<=31/\t.bx.natAbs<=31/\t.bY.natAbs<=31/\t.cx.natAbs<=31/\t.cy.natAbs<=31:=by
 simp![BU,SM,List.all_nil,Qk,Yk,Xh]at h;omega
def Kr(P:Plan)(H:Ht):Prop:=∀p,Ae P p=true -> -1000<=H p/\H p<=1000
def Ks(ax ay bx c b a:Nat):Bool:=Nat.ble (c*b+bx*ay+ax*a) (bx*a+c*ax+ay*b)
def l1(ax ay bx c b a:Nat):Bool:=Nat.ble (bx*a+c*ax+ay*b) (c*b+bx*ay+ax*a)
def Kt:List (Nat×Nat):=(List.range 9).flatMap λx=>(List.range 9).map λy=>(x,y)
set_option maxRecDepth 1000000 in
def zB:((Kt.map λz=>hkL [(z.1:Int),(z.2:Int)]).Nodup):=by decide +kernel
def tJ{i j:Type}{f:i->j}:∀{l:List i},(l.map f).Nodup ->∀{a b:i},a∈l->b∈l->f a=f b->a=b
 |[],_,_,_,h,_,_=>by cases h
 |x::l,d,a,b,g,c,e=>by
  rw[Y3,Wl]at d;rcases YG.mp g with rfl|g
  .rcases YG.mp c with rfl|c
   .rfl
   .exact absurd (Wa.mpr ⟨b,c,e.symm⟩) d.1
  .rcases YG.mp c with k|c
   .exact absurd (Wa.mpr ⟨a,g,by rw[e,k]⟩) d.1
   .exact tJ d.2 g c e
def Ku(p:Pt):List Int:=[p.1,p.2]
def Kv(z:Nat×Nat):Pt:=((z.1:Int),(z.2:Int))
def xU{x y:Nat}:(x,y)∈Kt↔x<=8/\y<=8:=by
 unfold Kt;simp![Vz,Wa,SV,Qj];constructor
 .rintro ⟨a,d,b,c,rfl,rfl⟩;lia
 .intro h;exact⟨x,by lia,y,by lia,rfl,rfl⟩
def zJ{q:Pt}(d:∃z∈Kt,p=Kv z)(c:∃z∈Kt,q=Kv z)(e:hkL (Ku p)=hkL (Ku q)):p=q:=by
 let⟨z,a,rfl⟩:=d;let⟨y,b,rfl⟩:=c;rw[tJ zB a b e]
structure Half14(t one two:ZJ)(m:Pt):Prop where
 near1:Ki one
 near2:Ki two
 same:Jg ((Ke one++Ke two).map Ku)=(Ke t).map Ku
 ok:Jh ((Ke one++Ke two).map Ku)
 line:∀p∈Ke one,p∈Ke two->G5 m (Kh t) p=0
 mid1:m∈Ke one
 mid2:m∈Ke two
section
variable{M:List Fn}
def uR{it:Iter}{t:Tg}{b:E}{Q:List U->G->Prop}(O:List U)(a:Nat->List U->G->Prop)
  (c:∀k ZX g,a k ZX g->next it k g=some O[k]?)
  (f:∀k u ZX,O[k]?=some u->AF t Y=true/\JO (Ah t u Y) (lk λe=>∀g,a k ZX g->JF M d b e g (λ_ _ _=>False) λv g=>a (k+1) (ZX++[v]) g))
  (o:O.length<16777000) (j:∀vs g,a O.length vs g->vs.length=O.length->Q vs g) :
  ∀(n i:Nat) (ZX:List U) (g:G),i+n=O.length->ZX.length=i->a i ZX g->JN M d it i t [] [] b ZX Y g X Q
 |0,i,ZX,g,s,l,h=>by
  rw[aQ];refine⟨none,by rw[c _ _ _ h];simp;omega,?_⟩
  obtain rfl:i=O.length:=by lia
  exact j ZX g h l
 |n+1,i,ZX,g,s,l,h=>by
  have hi:i<O.length:=by omega
  let⟨q,w⟩:=f i O[i] ZX (Ww hi);let⟨e,r,m⟩:=aG.2 w;rw[aQ];refine⟨some O[i],by rw[c _ _ _ h];simp[hi],q,e,r,dy.2 ?_⟩
  rw[Xg rfl];refine wp_mono (m g h) λv g p=>⟨by simp![Ag];lia,?_⟩
  exact uR O a c f o j n (i+1) _ g () (by simp;lia) p
def vp{t:Tg}{g:G}(O:List U)(a:Nat->List U->G->Prop)
  (e:∀k ZX g,a k ZX g->next it k g=some O[k]?)
  (b:∀k u ZX,O[k]?=some u->AF t Y=true/\JO (Ah t u Y) (lk λi=>∀g,a k ZX g->JF M d elt i g (λ_ _ _=>False) λv g=>a (k+1) (ZX++[v]) g))
  (f:O.length<16777000) (h:a 0 [] g) (c:∀vs g,a O.length vs g->vs.length=O.length->Q vs g):JN M d it 0 t [] [] elt [] Y g X Q:=
 uR O a e b f c O.length 0 [] g (VM _) rfl h
end
def adU(h:P.w*P.s<=8)(g:P.d*P.s<=8){q:Pt}(a:Ae P p=true)(f:Ae P q=true)(e:hkL (Aa p)=hkL (Aa q)):p=q:=by
 have at_:∀{p:Pt},Ae P p=true ->∃z∈Kt,p=Kv z:=λ{p} a=>by
  have:=aS.mp a;let⟨x,c⟩:=R4 (show 0<=p.1 by lia)
  let⟨y,b⟩:=R4 (show 0<=p.2 by lia)
  exact⟨(x,y),xU.mpr (),Prod.ext c b⟩
 exact zJ (at_ a) (at_ f) e
def jM{f:Pt->U}(n:P.w*P.s<=8)(l:P.d*P.s<=8)(o:Ad P≠[])(h:Ja (.ref m) g=some (Kj Aa f (Ad P))):CZ [.ref m] g=.ok (.ref g.length) (g++[.ZV (Kj Aa f (Ad P))]):=by
 have r:(Kj Aa f (Ad P)).map (·.1)=(Ad P).map Aa:=by unfold Kj;rw[UW];rfl
 simp![CZ,h];rw[Xg]
 .rfl
 .refine ⟨by unfold Kj;simpa using o,λa i b c e=>?_⟩
  rw[r]at i c;let⟨p,k,rfl⟩:=Wa.mp i;let⟨q,j,rfl⟩:=Wa.mp c;rw[adU n l (aI.mp k) (aI.mp j) e]
def DZ(P:Plan)(H:Ht)(y:Int):Dt:=.S ((J4 (P.w*P.s+1)).map λx=>.int (H (x,y)))
def Cy(P:Plan)(H:Ht):Dt:=.S ((J4 (P.d*P.s+1)).map (DZ P H))
def aax{H:Ht}(b:P.ok):(Cy P H).ok (n+3):=by
 have:=b.ws;have:=b.ds;unfold Cy DZ;rw[Dt.T5];refine⟨by rw[Yj,au];omega,λD a=>?_⟩
 let⟨y,_,rfl⟩:=Wa.mp a;rw[Dt.T5];refine⟨by rw[Yj,au];lia,λD a=>?_⟩
 let⟨x,_,rfl⟩:=Wa.mp a;exact cH
def qX{g:G}:∀{ds:List Dt} {O:List U},O.length=ds.length->(∀(i:Nat) (D:Dt) (u:U),ds[i]?=some D->O[i]?=some u->Rep g D u)->Reps g ds O
 |[],O,h,_=>by
  cases O with
  |nil=>simp![Reps]
  |cons _ _=>cases h
 |D::ds,O,h,k=>by
  cases O with
  |nil=>cases h
  |cons u O=>
   simp![Reps];exact⟨u,O,rfl,k 0 D u rfl rfl,qX (by simpa using h) λi D u h1 h2=>k (i+1) D u (by simpa using h1) (by simpa using h2)⟩
end
end PI
namespace ZG
noncomputable section
variable{P:Plan}{p a:Pt}{i b:Int}{ts:List ZJ}{gs:G}{c:Pt×Int}{o:Z6}{v B mk dn:Nat}{H D N:Ht}{ps:List Pt}{cs:List (Pt×Int)}{w:String}
open PI
section
variable{X:XP}
def wg(h:Q (.bl true) g):JE M (d+1) 0 [.int i] g X Q:=by
 simp? only[EZ];simp?;exact h
def xg(e:P.ok)(h:Q (.bl (Ae P p)) g):JE M (d+1) 1 [Zp P,uP p] g X Q:=by
 have h1:=e.ss;simp? only[E8]
 simp?[*];simp![Ae]at h;refine av (λa=>?_) λa=>by simp?[*];simpa[a]using h
 simp?[*];refine av (λb=>?_) λb=>?_
 .simp? [*]
  refine av (λc=>?_) λc=>by simp?[*];simpa[a,b,c]using h
  simp?[*];simpa[a,b,c]using h
 .simp? [*];simpa[a,b]using h
def cR(b:P.ok)(a:Ae P p=true)(h:Q .ZN g):JE M (d+2) 2 [Zp P,uP p] g X Q:=by
 simp? only[EG]
 simp?;refine xg b ?_;simp?;simp![a];simp?;exact h
def vJ{j s:Int}(c:small s)(h:Bt g ((AW i j s).map uT) Q):JE M (d+1) 4 [.int i,.int j,.int s] g X Q:=by
 simp? only[Ey]
 simp?[c];unfold AW at h;refine av (λb=>?_) λb=>?_
 .have a:(i+j) % 2=0:=by simpa using b
  simp?[c];rw[Xg a]at h;exact h _ _ (Hz _) ah
 .have a : ¬ (i+j) % 2=0:=by simpa using b
  simp?[c];rw[Xp a]at h;exact h _ _ (Hz _) ah
def rW(c:P.ok)(h:Bt g ((Bl P).map uT) Q):JE M (d+2) 5 [Zp P] g X Q:=by
 have r:=c.ss;have E:=oM c;have z:(J4 P.w).length<=3:=by rw[au];rcases c.w with e|e|e<;>rw[e]<;>decide
 have A:(J4 P.d).length<=3:=by rw[au];rcases c.d with e|e|e<;>rw[e]<;>decide
 have u:Aj P.w=true:=by rcases c.w with e|e|e<;>rw[e]<;>exact ar #[1] #[1]
 have r2:Aj P.d=true:=by rcases c.d with e|e|e<;>rw[e]<;>exact ar #[1] #[1]
 have a:∀i,((J4 P.d).flatMap λj=>(AW i j P.s).map uT).length<=6:=λi=>by
  have:=a9 (f:=λj=>(AW i j P.s).map uT) (B:=2) (l:=J4 P.d) λj _=>by rw[Yj,dH];lia
  lia
 simp? only[Fp]
 simp?[u];refine mJ (J4 P.w) U.int (λi=>(J4 P.d).flatMap λj=>(AW i j P.s).map uT) (λg'=>∃gs,g'=g++gs) 8 (λk g' _=>aV) (λi _=>Hx (a i) #[1]) (λi hi=>?_) _ 0 _ _ (VM _) (by simp![Ur];lia) ⟨[],by simp⟩ ?_
 .simp? [r2]
  rintro g' ZX ⟨gs,rfl⟩ o;refine mJ (J4 P.d) U.int (λj=>(AW i j P.s).map uT) (λg'=>∃gs,g'=g++gs) 2 (λk g' _=>aV) (λj _=>by rw[Yj,dH];lia) (λj F=>?_) _ 0 _ _ (VM _) (by lia) ⟨gs,rfl⟩ ?_
  .simp?
   rintro g' ZX ⟨gs,rfl⟩ o;refine vJ r λy n D e=>?_;simp?[e];refine abE (AW i j P.s) uT (λ_=>true) uT (λg'=>g'=g++gs++y) ZX (λk g' e'=>by rw[e',aF e]) (λt C=>?_) (by rw[dH];lia) rfl ?_
   .simp?
    rintro g' rfl;trivial
   .rintro g' rfl
    exact⟨by rw[cw],_,X0 ..⟩
  .rintro g' ⟨gs,rfl⟩
   exact⟨rfl,_,rfl⟩
 .rintro g' ⟨gs,rfl⟩
  have e:([]++List.flatMap (λi=>List.flatMap (λj=>(AW i j P.s).map uT) (J4 P.d)) (List.drop 0 (J4 P.w)))=(Bl P).map uT:=by
   simp[Bl,Rf]
  rw[e];exact fZ h (by rw[Yj];lia)
def fX{t:ZJ}(h:Q (J8 (Bk t)) g):JE M (d+1) 6 [uT t] g X Q:=by
 have f:(2:Int)<Au:=by decide
 simp? only[Fe]
 simp?[slc4];unfold Bk at h;refine av (λe=>?_) λe=>?_
 .have b:(t.ax+t.bx) % 2=1:=by simpa using e
  rw[Xg (.inl b)]at h;simp?;exact h
 .have b : ¬ (t.ax+t.bx) % 2=1:=by simpa using e
  simp?;refine av (λc=>?_) λc=>?_
  .have a:(t.ay+t.bY) % 2=1:=by simpa using c
   rw[Xg (.inr a)]at h;simp?;exact h
  .have a : ¬ (t.ay+t.bY) % 2=1:=by simpa using c
   rw[Xp (by lia)]at h
   simp?[f];exact h
def qp{t:ZJ}{m:Pt}(a:Bk t=some m)(h:Bt g ((Ar t).map uT) Q):JE M (d+2) 7 [uT t] g X Q:=by
 rw[cS a]at h;simp? only[Fc]
 simp?;refine fX ?_;rw[a];simp?[J8];exact h _ _ (Hz _) ah
def ac4{a:List ZJ}(e:g[n]?=some (.S (a.map uT)))(J:∀t∈a,AL 7 t=true)(I:(a.flatMap AB).length<16770000)(h:Bt g ((a.flatMap AB).map uT) Q):JE M (d+3) 8 [.ref n] g X Q:=by
 simp? only[Fx]
 simp?[aa e];obtain⟨B,D⟩:∃B:G,B=[]:=⟨_,rfl⟩;have C:(a.flatMap AB).length<16770000:=I;refine uo (λm Y g'=>∃(T W:List ZJ) (gs:G) (o:Option U),T++W.reverse.flatMap AB=a.flatMap AB/\(W.flatMap AB).length=m/\(∀t∈W,AL 7 t=true)/\g'=(g ++ .S (T.map uT)::(B ++ .S (W.map uT)::gs))/\Y=[some (.ref n),some (.ref (g).length),some (.ref ((g).length+1+(List.length B))),o]) ?_ (a.reverse.flatMap AB).length _ _ ⟨[],a.reverse,[],none,by simp,rfl,λt j=>J t (List.mem_reverse.mp j),by simp[D],by simp[D]⟩
 rintro m Y g' ⟨T,W,gs,o,hT,hm,u,rfl,rfl⟩;rcases List.eq_nil_or_concat W with N|⟨W',t,rfl⟩
 .subst N
  have w:T=a.flatMap AB:=by simpa using hT
  have g2:(g ++ .S (T.map uT)::(B ++ .S []::gs))[(g).length+1+(List.length B)]?=some (.S []):=dZ;simp?[g2,SH,Ur,Int.natCast_zero];rw[w];refine h _ _ (Hz _) pT
 .have j:AL 7 t=true:=u t #[3]
  have k:T++([t]++((Ar t).flatMap AB++W'.reverse.flatMap AB))=a.flatMap AB:=by
   rw[<-hT];simp[pR j]
  have H:(W'.flatMap AB).length+(1+((Ar t).flatMap AB).length)=m:=by
   rw[<-hm];simp![List.concat_eq_append,Rt,U9,List.flatMap_nil,Se,Xs,pR j,XI];lia
  have A:T.length+1<=(a.flatMap AB).length:=by rw[<-k];simp![Xs,XI,Ur];lia
  have z:W'.length<=(a.flatMap AB).length:=by
   have L:W'.reverse.length<=(W'.reverse.flatMap AB).length:=qx λx _=>xx x;rw[Rr]at L;rw[<-k];simp![Xs,XI,Ur];lia
  have F:(W'.concat t).map uT=W'.map uT++[uT t]:=by simp
  have g2:(g ++ .S (T.map uT)::(B ++ .S (W'.map uT++[uT t])::gs))[(g).length+1+(List.length B)]?=some (.S (W'.map uT++[uT t])):=dZ;have g3:(g ++ .S (T.map uT)::(B ++ .S (W'.map uT)::gs))[(g).length]?=some (.S (T.map uT)):=pT;have pop:Bn ((g).length+1+(List.length B)) (g ++ .S (T.map uT)::(B ++ .S (W'.map uT++[uT t])::gs))=.ok (uT t) (g ++ .S (T.map uT)::(B ++ .S (W'.map uT)::gs)):=by
   rw[xC g2,qr]
  have app:A9 (g).length (uT t) (g ++ .S (T.map uT)::(B ++ .S (W'.map uT)::gs))=.ok .ZN (g ++ .S ((T++[t]).map uT)::(B ++ .S (W'.map uT)::gs)):=by
   rw[bj g3 (by rw[Yj];lia),yz];simp
  have g4:(g ++ .S ((T++[t]).map uT)::(B ++ .S (W'.map uT)::gs))[(g).length+1+(List.length B)]?=some (.S (W'.map uT)):=dZ;have P:decide ((0:Int)<((W'.map uT).length+1:Nat))=true:=by simp;try omega
  have r:(0:Int)<((W'.map uT).length+1:Nat):=by lia
  rw[F];simp?[g2,zj,Xs,r,pop,g3,app];refine fX ?_;cases y:Bk t with
  |none=>
   simp?[J8,AE];exact⟨(W'.flatMap AB).length,by lia,T++[t],W',gs,_,by rw[<-k,vP y];simp,rfl,λx c=>u x (by simp[c]),rfl,rfl⟩
  |some q=>
   simp?[J8,AE,g4];refine qp y λf O V E=>?_;rw[gZ]at E ⊢;simp?[E];rw[gZ];have g5:(g ++ .S ((T++[t]).map uT)::(B ++ .S (W'.map uT)::(gs++f++[.S ((Ar t).map uT).reverse])))[(g).length+1+(List.length B)]?=some (.S (W'.map uT)):=dZ;have K:(g ++ .S ((T++[t]).map uT)::(B ++ .S (W'.map uT)::(gs++f++[.S ((Ar t).map uT).reverse])))[(List.length (g ++ .S ((T++[t]).map uT)::(B ++ .S (W'.map uT)::(gs++f))))]?=some (.S ((Ar t).map uT).reverse):=by
    rw[<-gZ];exact ah
   have R:(Ar t).length<=2:=by rw[cS y];simp[B7]
   have ext:Bq ((g).length+1+(List.length B)) (.ref (List.length (g ++ .S ((T++[t]).map uT)::(B ++ .S (W'.map uT)::(gs++f))))) (g ++ .S ((T++[t]).map uT)::(B ++ .S (W'.map uT)::(gs++f++[.S ((Ar t).map uT).reverse])))=.ok .ZN (g ++ .S ((T++[t]).map uT)::(B ++ .S ((W'++(Ar t).reverse).map uT)::(gs++f++[.S ((Ar t).map uT).reverse]))):=by
    rw[pj g5 K (by rw[Yj,Rr,Yj];lia),qr]
    simp
   simp?[ext];refine⟨((W'++(Ar t).reverse).flatMap AB).length,?_,T++[t],W'++(Ar t).reverse,_,_,?_,rfl,λx c=>?_,rfl,rfl⟩
   .rw [Rt,Xs,nP];lia
   .rw [<-k];simp
   .rcases Vm.mp c with c|c
    .exact u x (by simp[c])
    .exact pD 6 x (pB j (List.mem_reverse.mp c))
def yj(a:P.ok)(h:Bt g ((J9 P).map uT) Q):JE M (d+4) 9 [Zp P] g X Q:=by
 have r:=(fD a).2;simp? only[E9]
 simp?;refine rW a λgs n o e=>?_;simp?;refine ac4 e (λt f=>fO a f) (by show(J9 P).length<_;lia) λu k j c=>?_
 simp?;rw[X0]at c ⊢;exact h _ _ (Hx #[3] j) c
def kS{ax ay bx a:Int}(c:small (bx-ax))(b:small (a-ay))(h:Q (.int (B6 ax ay bx a p)) g):JE M (d+1) 10 [.int ax,.int ay,.int bx,.int a,uP p] g X Q:=by
 simp? only[Ft]
 simp?[c,b];exact h
def uq{t:ZJ}(h:Q (.Z1 [.int (Yb t),.int (XX t),.int (X_ t),.int (XW t)]) g):JE M (d+1) 11 [uT t] g X Q:=by
 simp? only[FC]
 simp?[BA,intsOf];exact h
def yn{t:ZJ}(h:Q (.bl (Bm t p)) g):JE M (d+2) 12 [uT t,uP p] g X Q:=by
 simp? only[Ff]
 simp?;refine uq ?_;simp?;simp![Bm]at h;refine av (λa=>?_) λa=>by simp?[*];simpa[a]using h
 simp?[*];refine av (λb=>?_) λb=>?_
 .simp? [*]
  refine av (λc=>?_) λc=>by simp?[*];simpa[a,b,c]using h
  simp?[*];simpa[a,b,c]using h
 .simp? [*];simpa[a,b]using h
def qz{t:ZJ}(e:Ki t)(h:∀gs,Q (.bl (AN t p)) (g++gs)):JE M (d+3) 13 [uT t,uP p] g X Q:=by
 let⟨m,l,k,j,i,f⟩:=e;simp? only[Fd]
 simp?;refine kS (aK () ()) (aK () ()) ?_
 simp?;refine kS (aK () ()) (aK (by lia) ()) ?_
 simp?;refine kS (aK () ()) (aK () ()) ?_
 simp?;refine yn ?_;unfold AN at h;have a:A3 [.ref g.length] (g++[.S [.int (Wz t p),.int (VP t p),.int (Wy t p)]])=some [Wz t p,VP t p,Wy t p]:=by
  simp![A3,ah];rfl
 cases c:Bm t p with
 |false=>
  simp?;rw[c]at h;exact h _
 |true=>
  rw[c]at h;simp![Wz,VP,Wy]at a h;simp?[BA,intsOf,a];refine av (λb=>?_) λb=>?_
  .simp? [*]
   simpa[b]using h [.S [.int (Wz t p),.int (VP t p),.int (Wy t p)]]
  .simp? [BA,intsOf,a]
   simpa[b]using h [.S [.int (Wz t p),.int (VP t p),.int (Wy t p)]]
def y7{t:ZJ}(b:Ki t)(h:Bt g ((Ke t).map uP) Q):JE M (d+4) 14 [uT t] g X Q:=by
 let⟨v,u,s,r⟩:=b.box;have q:=xa b;have m:Yb t<=100:=by let⟨a,_⟩:=b;have:=(bF (x:=Yb t)).mp (RU _);lia
 have l:XX t<=100:=by let⟨_,a,_⟩:=b;have:=(bF (x:=XX t)).mp (RU _);lia
 have j : -100<=X_ t:=by let⟨a,_⟩:=b;have:=(bE (x:=X_ t)).mp (RU _);lia
 have i : -100<=XW t:=by let⟨_,a,_⟩:=b;have:=(bE (x:=XW t)).mp (RU _);lia
 have f:Aj (Yb t)=true:=ar (by lia) (by lia)
 have r2:Aj (X_ t+1)=true:=ar (by lia) (by lia)
 have e:Aj (XX t)=true:=ar (by lia) (by lia)
 have c:Aj (XW t+1)=true:=ar (by lia) (by lia)
 simp? only[Fk]
 simp?;refine uq ?_;simp?[f,r2];refine sA (Ax (Yb t) (X_ t+1)) U.int (λ_=>Ax (XX t) (XW t+1)) U.int (λx y=>AN t (x,y)) (λx y=>uP (x,y)) (λg'=>∃gs,g'=g++gs) 201 ((Ke t).map uP) (by simp[Ke,Rf,RW]) (λk g' _=>cf) (λx o=>⟨by rw[aW];lia,?_⟩) (by rw[aW];lia) ⟨[],by simp⟩ ?_
 .simp? [e,c]
  rintro g' ⟨gs,rfl⟩;refine⟨⟨gs,rfl⟩,λk g' _=>cf,λy n=>?_⟩;rintro g' ⟨gs,rfl⟩;refine qz (p:=(x,y)) b λw=>?_;simp?;cases hc:AN t (x,y)with
  |true=>simp?;exact⟨_,X0 ..⟩
  |false=>simp?;exact⟨_,X0 ..⟩
 .rintro g' ⟨gs,rfl⟩
  refine fZ h ?_;rw[Yj];lia
def yy{a b:Nat}(h:Q (.int (Nat.gcd a b:Nat)) g):JE M (d+1) 16 [.int a,.int b] g X Q:=by
 simp? only[Fg]
 simp?;refine uo (λm Y g'=>g'=g /\∃x y:Nat,Nat.gcd x y=Nat.gcd a b/\y=m/\Y=[some (.int x),some (.int y)]) ?_ b _ _ ⟨rfl,a,b,rfl,rfl,rfl⟩;rintro m Y g' ⟨rfl,x,y,f,rfl,rfl⟩;simp?[Bool.not_not];refine av (λe=>?_) λe=>?_
 .have c:0<y:=by simp at e;lia
  have i:(0:Int)<y:=by lia
  simp?[i];refine⟨x % y,Nat.mod_lt _ c,y,x % y,?_,rfl,?_⟩
  .rw [<-f,Nat.gcd_comm y,<-Nat.gcd_rec,Nat.gcd_comm]
  .simp
 .have c:y=0:=by simp at e;lia
  subst c;simp?;rw[<-f]at h;simpa using h
def zT{a:Int}(i:b≠0)(l:Yv b)(h:Q (uP (GD a b)) g):JE M (d+2) 15 [.int a,.int b] g X Q:=by
 let⟨k,j⟩:=yX (a:=a) i l;simp? only[Fm]
 simp?[i,gS];refine yy ?_;simp?;refine av (λf=>?_) λf=>?_
 .have c:b<0:=by simpa using f
  have e:(-(Nat.gcd a.natAbs b.natAbs:Int))=By a b:=by unfold By;rw[Xg c]
  simp?[e,tW k j];exact h
 .have c : ¬ b<0:=by simpa using f
  have e:((Nat.gcd a.natAbs b.natAbs:Nat):Int)=By a b:=by unfold By;rw[Xp c]
  simp?[e,tW k j];exact h
def fh(h1 : -1000<=i)(a:i<=1000)(h:Q .ZN g):JE M (d+2) 17 [u,.int i] g X Q:=by
 simp? only[Ew]
 simp?;refine wg ?_;have c:decide (i < -1000)=false:=by simpa using h1
 have b:decide (1000<i)=false:=by simpa using a
 simp?[c,b];exact h
def oe{m:Int}(b:g[n]?=some (.S O))(a:m=O.length)(h:Q .ZN g):JE M (d+1) 18 [.ref n,.int m] g X Q:=by
 subst a;simp? only[ET]
 simp?[b];exact h
def RowsAt(g:G)(n:Nat)(P:Plan)(H:Ht):Prop:=∃ms:List Nat,g[n]?=some (.S (ms.map U.ref))/\ms.length=(P.d*P.s+1).toNat /\∀(y m:Nat),ms[y]?=some m->g[m]?=some (.S ((J4 (P.w*P.s+1)).map λx=>.int (H (x,(y:Int)))))
def An(P:Plan)(d a:Int)(b e f g c:Nat):Z6:=.ins 211529932 [(509789213455080,.ref b),(232289904,Zp P),(487627477906021,.int d),(31083624820,.int a),(31083802852,.ref e),(213628900,.ref f),(3500095911797,.ref g),(243020007,.ref c)]
structure XC(g:G)(v:Nat)(P:Plan)(H:Ht)(hN gN:Nat):Prop where
 ins:∃ed tr dN ZS ZR,g[v]?=some (An P ed tr hN dN ZS ZR gN)
 YH:∃hk,g[hN]?=some (.ZV hk) /\∀p,Ae P p=true->Am hk (Aa p)=some (.int (H p))
 gps:∃gk,g[gN]?=some (.ZV gk)/\gk.length<=5000/\(∀t∈J9 P,Am gk (AD t)=some .ZN \/∃H':Ht,Am gk (AD t)=some (uG H' t)) /\∀t,t ∉ J9 P->Am gk (AD t)=none
 ZC:hN≠gN
structure Kp(n:Nat)(g g':G):Prop where
 len:g.length<=g'.length
 get:∀(k:Nat) (o:Z6),k≠n->g[k]?=some o->g'[k]?=some o
def Kp.refl:Kp n g g:=⟨Hz _,λ_ _ _ e=>e⟩
def Kp.app:Kp n g (g++gs):=⟨by simp,λ_ _ _ e=>aa e⟩
def Kp.trans{a b c:G}(h:Kp n a b)(k:Kp n b c):Kp n a c:=⟨Hx h.len k.len,λi o hi e=>k.get i o hi (h.get i o hi e)⟩
def Kp.set{n:Nat}{g:G}{o:Z6}:Kp n g (g.set n o):=⟨by simp,λk o' hk e=>by rw[Xb (Ne.symm hk)];exact e⟩
def XC.lt(h:XC g v P H hN gN):v<g.length/\hN<g.length/\gN<g.length/\v≠gN:=by
 let⟨⟨ed,tr,dN,ZS,ZR,h1⟩,⟨hk,h2,d⟩,⟨e,a,c⟩,b⟩:=h;refine⟨(Yh.mp h1).1,(Yh.mp h2).1,(Yh.mp a).1,?_⟩;rintro rfl;rw[h1]at a;simp[An]at a
def Bag.kp{k:Nat}(h:Bag g)(q:Kp k g g')(b:3<=k):Bag g':=by
 let⟨xs,a,s,h1,h2⟩:=h;exact⟨xs,a,s,q.get _ _ () h1,q.get _ _ () h2⟩
def Fr.VO(h:Fr g g')(f:g.length<=m)(d:3<=m):Fr g (g'.set m o):=by
 let⟨⟨xs,a,s,c,b⟩,l,q⟩:=h;refine⟨⟨xs,a,s,by rw[Xb (by lia)];exact c,by rw[Xb (by lia)];exact b⟩,by simpa using l,λk o' hk e=>?_⟩
 have:k<g.length:=(Yh.mp e).1;rw[Xb (by lia)]
 exact q k o' hk e
def aU{a:Z6}:(g++a::gs)[g.length]?=some a:=by simp
def dY{a b:Z6}:(g++a::gs).set g.length b=g++b::gs:=by simp
def di{n:Int}{k:Nat}{x:Int}(h:(J4 n)[k]?=some x):x=k/\(k:Int)<n:=by
 have hk:k<(J4 n).length:=(Yh.mp h).1;rw[au]at hk;simp![J4,Y0,List.getElem?_range hk,Wo,YJ]at h;lia
def c9(h:Ja u g=some Z4):Ja u (g++gs)=some Z4:=by
 cases u with
 |ref n=>
  simp![Ja]at h ⊢;cases e:g[n]? with
  |none=>rw[e]at h;cases h
  |some o=>rw[aa e];rw[e]at h;exact h
 |_=>exact h
structure ZK(Z5:List Nat)(g g':G):Prop where
 len:g.length<=g'.length
 get:∀(k:Nat) (o:Z6),k ∉ Z5->g[k]?=some o->g'[k]?=some o
def ZK.app{Z5:List Nat}:ZK Z5 g (g++gs):=⟨by simp,λ_ _ _ e=>aa e⟩
def ZK.sub{Z5 T:List Nat}(q:ZK Z5 g g')(h:∀k∈Z5,k∈T):ZK T g g':=⟨q.len,λk o hk e=>q.get k o (λz=>hk (h k z)) e⟩
def ZK.refl{Z5:List Nat}:ZK Z5 g g:=⟨Hz _,λ_ _ _ e=>e⟩
def ZK.trans{Z5:List Nat}{a b c:G}(h:ZK Z5 a b)(k:ZK Z5 b c):ZK Z5 a c:=⟨Hx h.len k.len,λi o hi e=>k.get i o hi (h.get i o hi e)⟩
def ZK.set{Z5:List Nat}{n:Nat}{g:G}{o:Z6}(h:n∈Z5):ZK Z5 g (g.set n o):=⟨by simp,λk o' hk e=>by rw[Xb (λz:n=k=>hk (z ▸ h))];exact e⟩
def Kp.l{Z5:List Nat}(q:Kp n g g')(h:n∈Z5):ZK Z5 g g':=⟨q.len,λk o hk e=>q.get k o (λz=>hk (z ▸ h)) e⟩
def eQ(h:Ja (.ref n) g=some Z4):∃g',Br (.ref n) g=some (.ZV n,g')/\g'[n]?=some (.Zu Z4)/\Kp n g g':=by
 simp![Ja]at h;cases e:g[n]? with
 |none=>rw[e]at h;cases h
 |some o=>
  rw[e]at h;cases o with
  |ZV k=>cases h;exact⟨_,by simp![Br,e],aj e,Kp.set⟩
  |Zu k=>cases h;exact⟨_,by simp![Br,e],e,Kp.refl⟩
  |_=>cases h
def qZ{d:Type}[DecidableEq d]{key:d->List Int}{e:d->U}{f:d->U}(i:∀a b,key a=key b->a=b)(g:∀a,keyOf (e a)=some (key a)):∀(ts c:List d),(c++ts).Nodup->dfold (ts.map λt=>.Z1 [e t,f t]) (Kj key f c)=some (Kj key f (c++ts))
 |[],c,_=>by rw[Se];rfl
 |t::ts,c,h=>by
  have j:t ∉ c:=λz=>(RQ.mp h).2.2 t z t Wt rfl;rw[List.append_cons]at h ⊢;rw[<-qZ i g ts (c++[t]) h,Y3];show(BG _ (.Z1 [e t,f t])).bind _=_;simp![BG,g,Wo,UK];rw[cX i j,show(λq=>if q=t then f t else f q)=f from funext λq=>by split;(rename_i z;rw[z]);rfl]
abbrev Ac(H:Ht)(p:Pt):U:=.int (H p)
def ym:(λq=>if q=a then .int (H a)else Ac H q)=Ac H:=funext λq=>by split;(rename_i z;rw[z]);rfl
def oS(h:ps.Nodup)(n:a ∉ ps):(ps++[a]).Nodup:=RQ.mpr ⟨h,by simp,λx c y b=>by rw[XM.mp b];exactλz=>n (z ▸ c)⟩
structure Zz(g:G)(v:Nat)(P:Plan)(H D:Ht)(ed tr:Int)(hN dN ZS ZR gN B:Nat):Prop where
 ins:g[v]?=some (An P ed tr hN dN ZS ZR gN)
 YH:∃ps:List Pt,g[hN]?=some (.ZV (Kj Aa (Ac H) ps))/\ps.Nodup /\∀p,p∈ps↔Ae P p=true
 dts:∃dk,g[dN]?=some (.ZV dk)/\dk.length<=B /\∀p,Am dk (Aa p)=if D p=0 then none else some (.int (D p))
 gps:∃gk,g[gN]?=some (.ZV gk)/\gk.length<=5000/\(∀t∈J9 P,Am gk (AD t)=some .ZN \/∃H':Ht,Am gk (AD t)=some (uG H' t)) /\∀t,t ∉ J9 P->Am gk (AD t)=none
 ne:[v,hN,dN,ZS,ZR,gN].Nodup
section
def Zz.at(h:Zz g v P H D ed tr hN dN ZS ZR gN B):XC g v P H hN gN:=by
 let⟨h1,⟨ps,h2,_,f⟩,_,e,c⟩:=h;refine⟨⟨_,_,_,_,_,h1⟩,⟨_,h2,λp d=>aM (key:=Aa) (λa b=>aw) ((f p).mpr d)⟩,e,?_⟩;simp![Wl,YG,Xy,VD,Ry]at c;exact c.2.1.2.2.2
def Zz.up{Z5:List Nat}{a b:Int}(p:Zz g v P H D ed tr hN dN ZS ZR gN B)(q:ZK Z5 g g')(f:g'[v]?=some (An P a b hN dN ZS ZR gN))(e:hN ∉ Z5)(d:dN ∉ Z5)(c:gN ∉ Z5):Zz g' v P H D a b hN dN ZS ZR gN B:=by
 let⟨h1,⟨ps,h2,m⟩,⟨o,l,k⟩,⟨n,j,i⟩,h⟩:=p;exact⟨f,⟨ps,q.get _ _ e h2,m⟩,⟨o,q.get _ _ d l,k⟩,⟨n,q.get _ _ c j,i⟩,h⟩
def Zz.kp{Z5:List Nat}(a:Zz g v P H D ed tr hN dN ZS ZR gN B)(q:ZK Z5 g g')(e:v ∉ Z5)(d:hN ∉ Z5)(c:dN ∉ Z5)(b:gN ∉ Z5):Zz g' v P H D ed tr hN dN ZS ZR gN B:=a.up q (q.get _ _ e a.ins) d c b
def Zz.app{gs:G}(a:Zz g v P H D ed tr hN dN ZS ZR gN B):Zz (g++gs) v P H D ed tr hN dN ZS ZR gN B:=a.kp (Z5:=[]) ZK.app Xy Xy Xy Xy
def Zz.nl(c:Zz g v P H D ed tr hN dN ZS ZR gN B)(e:g[m]?=some (.S xs)):m≠hN/\m≠dN/\m≠gN/\m≠v:=by
 let⟨h1,⟨ps,h2,h⟩,⟨j,b,f⟩,⟨i,a,_⟩,d⟩:=c;refine⟨?_,?_,?_,?_⟩<;>rintro rfl
 .rw [e]at h2;cases h2
 .rw [e]at b;cases b
 .rw [e]at a;cases a
 .rw [e]at h1;cases h1
def Zz.gap(h:Zz g v P H D ed tr hN dN ZS ZR gN B)(A:XC g' v P H hN gN)(q:Kp gN g g'):Zz g' v P H D ed tr hN dN ZS ZR gN B:=by
 let⟨h1,⟨ps,h2,e⟩,⟨f,d,c⟩,_,b⟩:=h;have a:=b;simp![Wl,YG,Xy,VD,Ry]at a;exact⟨q.get _ _ a.1.2.2.2.2 h1,⟨ps,q.get _ _ a.2.1.2.2.2 h2,e⟩,⟨f,q.get _ _ a.2.2.1.2.2 d,c⟩,A.gps,b⟩
def Zz.lt(c:Zz g v P H D ed tr hN dN ZS ZR gN B):v<g.length/\hN<g.length/\dN<g.length/\gN<g.length:=by
 let⟨h1,⟨ps,h2,f⟩,⟨i,b,e⟩,⟨h,a,_⟩,d⟩:=c;exact⟨(Yh.mp h1).1,(Yh.mp h2).1,(Yh.mp b).1,(Yh.mp a).1⟩
end
def xp:(Ad P).Nodup:=List.Pairwise.imp (λ{a b} (h:ltP a b) (e:a=b)=>rF (p:=a) (by rw[<-e]at h;exact h)) (nJ P)
def abV(a:P.ok)(h:ps.Nodup)(k:∀p,p∈ps↔Ae P p=true):ps.length<=625:=by
 rw[((List.perm_ext_iff_of_nodup h xp).mpr λp=>by rw[k,aI]).length_eq]
 exact bW a
def Ov(N:Ht)(a:List Pt)(H:Ht):Ht:=λp=>if p∈a then N p else H p
def yT{l:List Pt}:(λq=>if q=p then .int (N p)else Ac (Ov N l H) q)=Ac (Ov N (l++[p]) H):=funext λq=>by
 unfold Ac Ov;by_cases e:q=p
 .subst e;simp
 .simp [e]
def Zz.UL{l:List Pt}(r:P.ok)(C:Zz g v P (Ov N l H) D ed tr hN dN ZS ZR gN B)(o:Ae P p=true):∃g',(∀Y,subAt (.ref hN) (.Z1 [.int p.1,.int p.2]) (.int (N p)) Y g=.ok (.nx Y) g')/\Zz g' v P (Ov N (l++[p]) H) D ed tr hN dN ZS ZR gN B/\Kp hN g g':=by
 let⟨h1,⟨ps,h2,j,d⟩,⟨A,y,w⟩,⟨z,u,t⟩,f⟩:=C;have c:=f;simp![Wl,YG,Xy,VD,Ry]at c;have k:Kp hN g (g.set hN (.ZV (Kj Aa (Ac (Ov N (l++[p]) H)) ps))):=Kp.set;refine⟨_,λY=>?_,⟨k.get _ _ c.1.1 h1,⟨ps,aj h2,j,d⟩,⟨A,k.get _ _ (Ne.symm c.2.1.1) y,w⟩,⟨z,k.get _ _ (Ne.symm c.2.1.2.2.2) u,t⟩,f⟩,k⟩;rw[aT h2 aq (by rw[Kj,Yj];exact RE (abV r j d) #[1]),d9 (λa b=>aw) ((d p).mpr o),yT]
def Zz.dset{e:Int}{l:List Pt}(E:Zz g v P H (Ov (λ_=>e) l D) ed tr hN dN ZS ZR gN B)(t:B<=20000)(r:e≠0):∃g',(∀Y,subAt (.ref dN) (.Z1 [.int p.1,.int p.2]) (.int e) Y g=.ok (.nx Y) g')/\Zz g' v P H (Ov (λ_=>e) (l++[p]) D) ed tr hN dN ZS ZR gN (B+1)/\Kp dN g g':=by
 let⟨h1,⟨ps,h2,y⟩,⟨C,o,j,d⟩,⟨A,w,u⟩,f⟩:=E;have a:=f;simp![Wl,YG,Xy,VD,Ry]at a;have k:Kp dN g (g.set dN (.ZV (dput C (Aa p) (.int e)))):=Kp.set;refine⟨_,λY=>aT o aq (RE (Hx j t) #[1]),⟨k.get _ _ a.1.2.1 h1,⟨ps,k.get _ _ a.2.1.1 h2,y⟩,⟨_,aj o,Hx qO (Nat.succ_le_succ j),λq=>?_⟩,⟨A,k.get _ _ (Ne.symm a.2.2.1.2.2) w,u⟩,f⟩,k⟩
 rw[bG,d q];by_cases c:p=q
 .subst c
  rw[Xg rfl,show Ov (λ_=>e) (l++[p]) D p=e by simp[Ov],Xp r]
 .rw [Xp (λz=>c (aw z)),show Ov (λ_=>e) (l++[p]) D q=Ov (λ_=>e) l D q by simp[Ov,Ne.symm c]]
def Zz.gset{t:ZJ}(E:Zz g v P H D ed tr hN dN ZS ZR gN B)(f:t∈J9 P):∃g',(∀Y,subAt (.ref gN) (uT t) .ZN Y g=.ok (.nx Y) g')/\Zz g' v P H D ed tr hN dN ZS ZR gN B/\Kp gN g g':=by
 let⟨h1,⟨ps,h2,y⟩,⟨C,w,u⟩,⟨z,r,o,a,F⟩,j⟩:=E;have d:=j;simp![Wl,YG,Xy,VD,Ry]at d;have k:Kp gN g (g.set gN (.ZV (dput z (AD t) .ZN))):=Kp.set;refine⟨_,λY=>aT r cM (RE o #[1]),⟨k.get _ _ d.1.2.2.2.2 h1,⟨ps,k.get _ _ d.2.1.2.2.2 h2,y⟩,⟨C,k.get _ _ d.2.2.1.2.2 w,u⟩,⟨_,aj r,?_,λs c=>?_,λs c=>?_⟩,j⟩,k⟩
 .rw [oX (by rcases a t f with e|⟨H',e⟩<;>rw[e]<;>rfl)];exact o
 .rw [bG]
  split
  .exact .inl rfl
  .exact a s c
 .rw [bG,Xp (λA=>c (by rw[<-d0 A];exact f))]
  exact F s c
def yr{k:Nat}{ys:List U}(b:g[n]?=some (.S xs))(a:g[m]?=some (.S ys)):next (.zip n m) k g=some (List.zipWith (λu w=>U.Z1 [u,w]) xs ys)[k]?:=by
 simp![next,b,a,List.getElem?_zipWith];cases xs[k]?<;>cases ys[k]?<;>rfl
def rC(p:Pt):keyOf (uP p)=some (Aa p):=rfl
def cO{k:Nat}{o':Z6}(h:n≠k)(e:g[k]?=some o'):(g.set n o)[k]?=some o':=by rw[Xb h];exact e
structure Lo(m:Nat)(g g':G):Prop where
 len:g.length<=g'.length
 get:∀(k:Nat) (o:Z6),k<m->g[k]?=some o->g'[k]?=some o
def ZK.lo{Z5:List Nat}(q:ZK Z5 g g')(h:∀k∈Z5,m<=k):Lo m g g':=⟨q.len,λk o hk e=>q.get k o (λz=>Nat.not_lt.mpr (h k z) hk) e⟩
def Bag.lo(b:Bag g)(q:Lo m g g')(h:3<=m):Bag g':=by
 let⟨xs,a,s,h1,h2⟩:=b;exact⟨xs,a,s,q.get _ _ (HB #[1] h) h1,q.get _ _ (HB #[1] h) h2⟩
def KD(Z5:List Nat)(g g':G):Prop:=∀k D,k ∉ Z5->Ja (.ref k) g=some D->Ja (.ref k) g'=some D
def ZK.kd{Z5:List Nat}(q:ZK Z5 g g'):KD Z5 g g':=λk D hk h=>by
 simp![Ja]at h ⊢;cases e:g[k]? with
 |none=>rw[e]at h;cases h
 |some o=>rw[q.get k o hk e];rw[e]at h;exact h
def KD.trans{Z5:List Nat}{a b c:G}(h:KD Z5 a b)(k:KD Z5 b c):KD Z5 a c:=λi D hi e=>k i D hi (h i D hi e)
def KD.sub{Z5 T:List Nat}(q:KD Z5 g g')(h:∀k∈Z5,k∈T):KD T g g':=λk D hk e=>q k D (λz=>hk (h k z)) e
def ui{Z5:List Nat}(h:Ja (.ref n) g=some Z4)(e:g'[n]?=some (.Zu Z4))(K:Kp n g g'):KD Z5 g g':=λk D _ h2=>by
 by_cases c:k=n
 .subst c
  rw[h]at h2;cases h2;simp![Ja,e]
 .exact (K.l (Z5:=[n]) #[3]).kd k D (by simp[c]) h2
def tf{k:Nat}{D:List (List Int×U)}(h:Ja (.ref k) g=some D)(e:g[m]?=some (.S xs)):k≠m:=by
 rintro rfl;simp![Ja,e]at h;cases h
def Dat(e:Int)(H H' D:Ht):Ht:=λp=>if H' p=H p then D p else e
def abN{e:Int}{a:List Pt}:Ov (λ_=>e) (a.filter λp=>!decide (N p=H p)) D=Dat e H (Ov N a H) D:=funext λp=>by
 unfold Ov Dat;by_cases c:p∈a<;>by_cases b:N p=H p<;>simp[c,b]
def Chg(H:Ht)(cs:List (Pt×Int)):Ht:=cs.foldl (λH c p=>if p=c.1 then c.2 else H p) H
def Kw(cs:List (Pt×Int)):List Pt:=cs.foldl (λks c=>if c.1∈ks then ks else ks++[c.1]) []
def cz:Chg H (cs++[c])=λp=>if p=c.1 then c.2 else Chg H cs p:=by simp[Chg,RX]
def fV:Kw (cs++[c])=if c.1∈Kw cs then Kw cs else Kw cs++[c.1]:=by unfold Kw;rw[RX];rfl
def snoc_ind{P:List α->Prop}(c:P [])(b:∀l a,P l->P (l++[a]))(l:List α):P l:=by
 have h:∀r:List α,P r.reverse:=λr=>by
  induction r with
  |nil=>exact c
  |cons a r ih=>rw[Tu];exact b _ _ ih
 have:=h l.reverse;rwa[List.reverse_reverse]at this
def cJ(cs:List (Pt×Int)):(Kw cs).Nodup/\(Kw cs).length<=cs.length /\∀p,p∈Kw cs ↔ ∃c∈cs,c.1=p:=by
 induction cs using snoc_ind with
 |c=>simp[Kw]
 |b cs c ih=>
  let⟨a,b,e⟩:=ih;rw[fV];by_cases m:c.1∈Kw cs
  .rw [Xg m]
   refine⟨a,by simp;omega,λp=>?_⟩
   rw[e];constructor
   .rintro ⟨x,d,rfl⟩;exact⟨x,by simp[d],rfl⟩
   .rintro ⟨x,d,rfl⟩
    rcases Vm.mp d with z|z
    .exact ⟨x,z,rfl⟩
    .rw [XM.mp z];exact(e _).mp m
  .rw [Xp m]
   refine⟨oS a m,by simp;omega,λp=>?_⟩
   simp![Vm,XM,e];constructor
   .rintro (⟨x,d,rfl⟩|rfl)
    .exact ⟨x,.inl d,rfl⟩
    .exact ⟨c,.inr rfl,rfl⟩
   .rintro ⟨x,d|d,rfl⟩
    .exact .inl ⟨x,d,rfl⟩
    .exact .inr (by rw[d])
def sT{Z:Ht}(cs:List (Pt×Int)):Ov (Chg Z cs) (Kw cs) H=Chg H cs:=by
 induction cs using snoc_ind with
 |c=>exact funext λp=>by simp[Ov,Kw,Chg]
 |b cs c ih=>
  rw[cz,cz,<-ih];funext p;have k:=(cJ (cs++[c])).2.2 p;have k':=(cJ cs).2.2 p;unfold Ov;by_cases e:p=c.1
  .rw [Xg (k.mpr ⟨c,by simp,e.symm⟩)]
   show(if p=c.1 then _ else _)=(if p=c.1 then _ else _)
   rw[Xg e,Xg e]
  .have:p∈Kw (cs++[c])↔p∈Kw cs:=by
    rw[k,k'];constructor
    .rintro ⟨x,a,rfl⟩
     rcases Vm.mp a with z|z
     .exact ⟨x,z,rfl⟩
     .exact absurd (by rw[XM.mp z]) e
    .rintro ⟨x,a,rfl⟩;exact⟨x,by simp[a],rfl⟩
   simp![this,Xp e]
def rn{cs:List (Pt×Int)}(h:∀c∈cs,-1000<=c.2/\c.2<=1000):∀p∈Kw cs,-1000<=Chg H cs p/\Chg H cs p<=1000:=by
 induction cs using snoc_ind with
 |c=>intro p a;simp[Kw]at a
 |b cs c ih=>
  intro p a;rw[cz];by_cases e:p=c.1
  .simp only [e,Vy];exact h c #[3]
  .simp only [e,VC]
   refine ih (λx d=>h x (by simp[d])) p ?_
   rw[fV]at a;split at a
   .exact a
   .simp [e]at a;exact a
def pP:dput (Kj Aa (Ac (Chg H cs)) (Kw cs)) (Aa p) (.int i)=Kj Aa (Ac (Chg H (cs++[(p,i)]))) (Kw (cs++[(p,i)])):=by
 have e:(λq=>if q=p then U.int i else Ac (Chg H cs) q)=Ac (Chg H (cs++[(p,i)])):=funext λq=>by
  rw[cz];unfold Ac;by_cases c:q=p<;>simp[c]
 rw[fV];by_cases m:p∈Kw cs
 .rw [Xg m,d9 (λa b=>aw) m,e]
 .rw [Xp m,cX (λa b=>aw) m,e]
abbrev BV(g:G)(v:Nat)(P:Plan)(H D:Ht)(ed tr:Int)(hN dN ZS ZR gN B:Nat)(ds:List U)(H':Ht)(Q:U->G->Prop):Prop:=∀(w:Nat) (xs:List U) (g':G) (oN nN:Nat),Zz g' v P H' (Dat (ed+1) H H' D) (ed+1) (tr+1) hN dN ZS ZR gN (B+625)->ZK [v,hN,dN,ZS,ZR,gN] g g'->KD [v,hN,dN,gN] g g'->g'[ZS]?=some (.S (ds++[.Z1 [.ref oN,.ref nN]]))->g'[ZR]?=some (.S [])->g.length<=w->g'[w]?=some (.S xs)->Q (.ref w) g'
def z0{a b:List (List Int×U)}(q:Kp n g g')(e:g[n]?=some (.ZV a))(h:g'[n]?=some (.Zu b)):Bh g g'=g'.set n (.ZV b):=by
 cases d:(List.range g.length).find? λn=>BF g[n]? && BQ g'[n]? with
 |none=>
  have:=List.find?_eq_none.mp d n (SV.mpr (Yh.mp e).1);simp[e,h,BF,BQ]at this
 |some m=>
  have hm:=Qd d;have:m=n:=by
   refine Classical.byContradiction λc=>?_;cases f:g[m]? with
   |none=>simp[f,BF]at hm
   |some o=>
    rw[f,q.get m o c f]at hm;cases o<;>simp[BF,BQ]at hm
  subst this;simp![Bh,d,h]
def abh{Y:Su}{Q:Fl->G->Prop}:JX g Q (.nx Y) g'=Q (.nx Y) (Bh g g'):=rfl
def eF{f a:Pt->U}{ps:List Pt}(h:∀p∈ps,f p=a p):Kj Aa f ps=Kj Aa a ps:=SJ λp b=>by rw[h p b]
def Zz.mono{a:Nat}(j:Zz g v P H D ed tr hN dN ZS ZR gN B)(h:B<=a):Zz g v P H D ed tr hN dN ZS ZR gN a:=by
 let⟨h1,h2,⟨i,f,e,d⟩,c,b⟩:=j;exact⟨h1,h2,⟨i,f,Hx e h,d⟩,c,b⟩
def v9(y:P.ok)(F:RowsAt g n P H)(G:Kr P H)(h:∀ps:List Pt,ps.Nodup->(∀p,p∈ps↔Ae P p=true)->Q (.ref g.length) (g++[.ZV (Kj Aa (Ac H) ps)])):JE M (d+3) 19 [Zp P,.ref n] g X Q:=by
 let⟨ms,r,I,C⟩:=F;have s1:=y.ss;have K:=y.ws;have J:=y.ds;simp? only[EN]
 simp?[s1];refine oe r (by rw[Yj];lia) ?_
 simp?[r];refine aB (ms.map U.ref) (λk Y g'=>g=g' /\∃o,Y=[some (Zp P),some (.ref n),some (.int P.w),some (.int P.d),some (.int P.s),o,none,none,none,none]) (λk Y g' c=>by rw[<-c.1];exact aF r) ⟨rfl,_,rfl⟩ (λk u Y g' hk c=>?_) (λY g' c=>?_)
 .obtain ⟨rfl,o,rfl⟩:=c
  simp![Y0,Ym]at hk;let⟨m,t,rfl⟩:=hk;simp?[s1];refine oe (C k m t) (by rw[Yj,au];lia) ?_
  simp?;exact⟨_,rfl⟩
 .obtain ⟨rfl,o,rfl⟩:=c
  simp?[aa r];refine aB (Kk (ms.map U.ref)) (λk Y g'=>∃(ps:List Pt) (Ks o2 i f:Option U),g'=g++[.ZV (Kj Aa (Ac H) ps)]/\ps.length<=k*25/\ps.Nodup/\(∀p:Pt,p∈ps↔0<=p.1/\p.1<=P.w*P.s/\0<=p.2/\p.2<k)/\Y=[some (Zp P),some (.ref n),some (.int P.w),some (.int P.d),some (.int P.s),Ks,some (.ref g.length),o2,i,f]) (λk Y g' c=>?_) ⟨[],_,_,_,_,rfl,by simp,Qg,λp=>by simp;try omega,rfl⟩ (λk u Y g' hk c=>?_) (λY g' c=>?_)
  .obtain ⟨ps,Ks,o2,i,f,rfl,_⟩:=c
   exact qw (aa r)
  .obtain ⟨ps,Ks,o2,i,f,rfl,q,l,e,rfl⟩:=c
   rw[gE]at hk;simp![Y0,Option.map_map,Ym,Function.comp]at hk;let⟨m,t,rfl⟩:=hk;have L:k<ms.length:=(Yh.mp t).1;have B:=C k m t;simp?[aa B];refine aB (Kk ((J4 (P.w*P.s+1)).map λx=>.int (H (x,(k:Int))))) (λj Y g'=>∃(ps:List Pt) (i f:Option U),g'=g++[.ZV (Kj Aa (Ac H) ps)]/\ps.length<=k*25+j/\ps.Nodup/\(∀p:Pt,p∈ps↔0<=p.1/\p.1<=P.w*P.s/\0<=p.2/\(p.2<k\/p.2=k/\p.1<j))/\Y=[some (Zp P),some (.ref n),some (.int P.w),some (.int P.d),some (.int P.s),some (.ref m),some (.ref g.length),some (.int k),i,f]) (λj Y g' c=>?_) ⟨ps,_,_,rfl,by lia,l,λp=>by rw[e];omega,rfl⟩ (λj u Y g' v c=>?_) (λY g' c=>?_)
   .obtain ⟨ps,i,f,rfl,_⟩:=c
    exact qw (aa B)
   .obtain ⟨ps,i,f,rfl,q,l,e,rfl⟩:=c
    rw[gE]at v;simp![Y0,Option.map_map,Ym,Function.comp]at v;let⟨x,E,rfl⟩:=v;let⟨rfl,D⟩:=di E;have A:=G ((j:Int),(k:Int)) (bD ⟨by lia,by lia,by lia,by lia⟩)
    simp?;refine fh A.1 A.2 ?_;have new:((j:Int),(k:Int)) ∉ ps:=λz=>by have:=(e _).mp z;simp only at this;lia
    have sb:∀Y,subAt (.ref g.length) (.Z1 [.int (j:Int),.int (k:Int)]) (.int (H ((j:Int),(k:Int)))) Y (g++[.ZV (Kj Aa (Ac H) ps)])=.ok (.nx Y) (g++[.ZV (Kj Aa (Ac H) (ps++[((j:Int),(k:Int))]))]):=λY=>by
     rw[aT ah aq (by simp![Kj,Yj];lia),cX (λa b=>aw) new,ym]
     simp
    simp?[sb];refine⟨_,_,_,rfl,by simp;lia,oS l new,λp=>?_,rfl⟩
    rw[Vm,XM,e,Prod.ext_iff];simp only;lia
   .obtain ⟨ps,i,f,rfl,q,l,e,rfl⟩:=c
    simp?;rw[qS,Yj,au]at q e;exact⟨ps,_,_,_,_,rfl,by lia,l,λp=>by rw[e];omega,rfl⟩
  .obtain ⟨ps,Ks,o2,i,f,rfl,q,l,e,rfl⟩:=c
   simp?;rw[qS,Yj]at q e;exact h ps l λp=>by rw[e,aS];omega
def Bd(a b:Pt):List Pt:=(Ax (min a.1 b.1) (max a.1 b.1+1)).flatMap λx=>(Ax (min a.2 b.2) (max a.2 b.2+1)).map λy=>(x,y)
def zg{a:Int}(e:g[n]?=some (.S [.int a,.int b])):CY [.ref n] g=.ok (.ref g.length) (g++[.S [.int (min a b),.int (max a b)]]):=by
 have:A3 [.ref n] g=some [a,b]:=by simp![A3,e];rfl
 unfold CY;rw[this];by_cases c:a<=b
 .rw [Int.min_eq_left c,Int.max_eq_right c]
  simp![sortI,insI,c,Vy]
  rfl
 .rw [Int.min_eq_right (by lia),Int.max_eq_left ()]
  simp![sortI,insI,c,VC]
  rfl
def aW{a:Int}:(Ax a b).length=(b-a).toNat:=by simp[Ax]
def qe{b:Pt}(d:0<=a.1/\a.1<=24/\0<=a.2/\a.2<=24)(c:0<=b.1/\b.1<=24/\0<=b.2/\b.2<=24):(Bd a b).length<=625:=by
 refine Hx (a9 (B:=25) λx _=>?_) (Tf 25 (m:=25) ?_)
 .rw [Yj,aW];lia
 .rw [aW];lia
def xc{b:Pt}(t:0<=a.1/\a.1<=24/\0<=a.2/\a.2<=24)(r:0<=b.1/\b.1<=24/\0<=b.2/\b.2<=24)(h:∀(gs:G) (n:Nat),g.length<=n->(g++gs)[n]?=some (.S ((Bd a b).map uP))->Q (.ref n) (g++gs)):JE M (d+1) 20 [uP a,uP b] g X Q:=by
 have j:Aj (min a.1 b.1)=true:=ar () ()
 have r2:Aj (max a.1 b.1+1)=true:=ar () ()
 have f:Aj (min a.2 b.2)=true:=ar () ()
 have c:Aj (max a.2 b.2+1)=true:=ar () ()
 have w:=qe t r;have l1:(Ax (min a.1 b.1) (max a.1 b.1+1)).length<=25:=by rw[aW];omega
 have o:(Ax (min a.2 b.2) (max a.2 b.2+1)).length<=25:=by rw[aW];omega
 simp? only[E5]
 simp?[zg ah,ah,j,r2];refine sA (Ax (min a.1 b.1) (max a.1 b.1+1)) U.int (λ_=>Ax (min a.2 b.2) (max a.2 b.2+1)) U.int (λ_ _=>true) (λx y=>uP (x,y)) (λg'=>∃gs,g'=g++gs) 25 ((Bd a b).map uP) (by simp[Bd,Rf,RW,cw]) (λk g' _=>cf) (λx u=>⟨o,?_⟩) (by lia) ⟨_,by simp![X0];rfl⟩ ?_
 .simp? [f,c]
  intro g' gs;exact⟨gs,λk g' _=>cf,λz _ g e=>e⟩
 .rintro g' ⟨gs,rfl⟩
  refine⟨by rw[Yj];lia,?_⟩
  simp?;rw[X0];exact h _ _ #[3] (by rw[<-X0];exact ah)
def oy{D:Nat}{f:List ZJ}(hP:P.ok)(l:ZJ->Prop)(hB:B<=600)(hB1:1<=B)(YH:∀t∈f,t∈J9 P/\l t)(hl:f.length<=5000)(YK:ps.length<=5000)(e1:g[n]?=some (.S (f.map uT)))(e2:g[m]?=some (.S (ps.map uP)))
  (I:∀(t:ZJ) (q:Pt),t∈J9 P->l t->Bk t=some q ->∀{g:G} {Q:U->G->Prop} {n m:Nat} {ps:List Pt},ps.length<=5000->g[n]?=some (.S ((Ar t).map uT))->g[m]?=some (.S (ps.map uP))->(∀(gs:G) (o:Nat) (O:List ZJ),(∀t∈O,t∈J9 P)->O.length+1<=B->(g++gs)[o]?=some (.S (O.map uT))->Q (.ref o) (g++gs))->JE M (D+3) 21 [.ref n,.ref m] g X Q)
  (h:∀(gs:G) (o:Nat) (O:List ZJ),(∀t∈O,t∈J9 P)->O.length<=f.length*B->(g++gs)[o]?=some (.S (O.map uT))->Q (.ref o) (g++gs)):JE M (D+4) 21 [.ref n,.ref m] g X Q:=by
 simp? only[E7]
 simp?[aa e1];refine aB (f.map uT) (λj Y g'=>∃(O:List ZJ) (gs:G) (Ks o2:Option U),(∀t∈O,t∈J9 P)/\O.length<=j*B/\g'=g ++ .S (O.map uT)::gs/\Y=[some (.ref n),some (.ref m),some (.ref g.length),Ks,o2]) (λj Y g' A=>?_) ⟨[],[],none,none,λt E=>(nomatch E),SQ _,by simp,rfl⟩ (λj u Y g' W A=>?_) (λY g' A=>?_)
 .obtain ⟨O,gs,Ks,o2,_,_,rfl,_⟩:=A
  exact aF (aa e1)
 .obtain ⟨O,gs,Ks,o2,s,V,rfl,rfl⟩:=A
  simp![Y0,Ym]at W;let⟨t,E,rfl⟩:=W;let⟨H,v⟩:=YH t (XG E);have hjl:j<f.length:=(Yh.mp E).1;have near:=qt (fm hP H);have hjB:j*B<=5000*600:=Nat.mul_le_mul (by lia) hB
  have WJ:=aa (gs:=.S (O.map uT)::gs) e2;simp?[WJ];refine bR ps uP (λp=>AN t p) uP (λg'=>∃b,g'=g ++ .S (O.map uT)::(gs++b)) ((ps.filter λp=>AN t p).map uP) rfl (λk g' ⟨b,e⟩=>by rw[e];exact aF (aa e2)) (λp hp=>?_) (by lia) ⟨[],by simp⟩ ?_
  .simp?
   rintro g' ⟨b,rfl⟩;refine qz (p:=p) near λc=>?_;simp?;cases hc:AN t p with
   |true=>simp?;exact⟨b++c,by simp⟩
   |false=>simp?;exact⟨b++c,by simp⟩
  .rintro g' ⟨b,rfl⟩
   have Z:(ps.filter λp=>AN t p).length<=5000:=Hx (SD ..) YK;refine⟨by rw[Yj];lia,?_⟩
   obtain⟨fs,R⟩:∃fs,fs=ps.filter λp=>AN t p:=⟨_,rfl⟩;rw[<-R]at Z ⊢;obtain⟨N,hN⟩:∃N,N=(g++Z6.S (O.map uT)::(gs++b)).length:=⟨_,rfl⟩;obtain⟨a,Yr⟩:∃a,a=gs++b++[Z6.S (fs.map uP)]:=⟨_,rfl⟩;have L:g++Z6.S (O.map uT)::(gs++b)++[Z6.S (fs.map uP)]=g++Z6.S (O.map uT)::a:=by rw[Yr];simp
   have ef:∀(ws:List ZJ) (r:G),(g++Z6.S (ws.map uT)::(a++r))[N]?=some (.S (fs.map uP)):=λws r=>by
    have:g++Z6.S (ws.map uT)::(a++r)=(g++Z6.S (ws.map uT)::(gs++b))++(Z6.S (fs.map uP)::r):=by rw[Yr];simp
    rw[this,hN,show(g++Z6.S (O.map uT)::(gs++b)).length=(g++Z6.S (ws.map uT)::(gs++b)).length by simp]
    exact aU
   rw[L,<-hN];have d:(g++Z6.S (O.map uT)::a)[N]?=some (.S (fs.map uP)):=by have:=ef O [];rw[Se]at this;exact this
   cases w:fs with
   |nil=>
    rw[w]at d;simp?[d,SH];exact⟨O,a,_,_,s,by rw[S2];lia,rfl,rfl⟩
   |cons p0 r0=>
    have C:=d;rw[w]at C;have app:A9 g.length (uT t) (g++Z6.S (O.map uT)::a)=.ok .ZN (g++Z6.S ((O++[t]).map uT)::a):=by
     rw[bj aU (by rw[Yj];lia),dY];simp
    simp?[C,List.isEmpty_cons,aU,app];refine fX ?_;cases Vp:Bk t with
    |none=>
     simp?[J8,AE];exact⟨O++[t],a,_,_,λx J=>(Vm.mp J).elim (s x) λz=>by rw[XM.mp z];exact H,by rw[S2,Xs,Um];lia,rfl,rfl⟩
    |some q=>
     simp?[J8,AE,aU];refine qp Vp λc n3 hn3 e3=>?_;have T:g++Z6.S ((O++[t]).map uT)::a++c=g++Z6.S ((O++[t]).map uT)::(a++c):=by simp
     rw[T]at e3 ⊢;simp?;refine I t q H v Vp (ps:=fs) Z e3 (ef (O++[t]) c) λF n4 i K hl4 e4=>?_;have y:g++Z6.S ((O++[t]).map uT)::(a++c)++F=g++Z6.S ((O++[t]).map uT)::(a++c++F):=by simp
     rw[y]at e4 ⊢;have ext:Bq g.length (.ref n4) (g++Z6.S ((O++[t]).map uT)::(a++c++F))=.ok .ZN (g++Z6.S ((O++[t]++i).map uT)::(a++c++F)):=by
      rw[pj aU e4 (by rw[Yj,Yj,Xs,Um];lia),dY];simp
     simp?[ext];exact⟨O++[t]++i,_,_,_,λx J=>(Vm.mp J).elim (λz=>(Vm.mp z).elim (s x) λz=>by rw[XM.mp z];exact H) (K x),by rw[S2,Xs,Xs,Um];lia,rfl,rfl⟩
 .obtain ⟨O,gs,Ks,o2,s,V,rfl,rfl⟩:=A
  simp?;rw[Yj]at V;exact h _ _ O s V aU
def pd(f:P.ok):∀(k:Nat) {g:G} {Q:U->G->Prop} {n m:Nat} {ts:List ZJ} {ps:List Pt},k<=7->(∀t∈ts,t∈J9 P/\AL k t=true)->ts.length<=5000->ps.length<=5000->g[n]?=some (.S (ts.map uT))->g[m]?=some (.S (ps.map uP)) ->
  (∀(gs:G) (a:Nat) (O:List ZJ),(∀t∈O,t∈J9 P)->O.length<=ts.length*(2 ^ (k+1)-1)->(g++gs)[a]?=some (.S (O.map uT))->Q (.ref a) (g++gs))->JE M (d+k+4) 21 [.ref n,.ref m] g X Q
 |0,g,Q,n,m,ts,ps,_,h1,h2,h3,r,o,h=>by
  refine oy (D:=d) (B:=1) f (λt=>AL 0 t=true) #[1] #[1] h1 h2 h3 r o (λt q _ j c=>?_) (by simpa using h)
  have:Ar t=[]:=T8.mp j;rw[cS c]at this;simp[B7]at this
 |k+1,g,Q,n,m,ts,ps,hk,h1,h2,h3,r,o,h=>by
  have H:2 ^ (k+2)<=2 ^ 8:=Nat.pow_le_pow_right #[1] (by lia)
  have E:2 ^ (k+2)=2*2 ^ (k+1):=by rw[Nat.pow_succ];lia
  have C:0<2 ^ (k+1):=Nat.pow_pos #[1]
  refine oy (D:=d+k+1) (B:=2 ^ (k+2)-1) f (λt=>AL (k+1) t=true) (by lia) (by lia) h1 h2 h3 r o (λt q z j c {g Q n m ps} F f1 f2 A=>?_) h
  refine pd f k (by lia) (λx u=>⟨v7 f z u,XH.mp j x u⟩) (by rw[cS c];simp[B7]) F f1 f2 λgs a O y w e=>A gs a O y ?_ e
  rw[cS c]at w;simp![B7,XI,Ur]at w;omega
structure SmT(t:ZJ):Prop where
 ax:small t.ax
 ay:small t.ay
 bax:small (t.bx-t.ax)
 bay:small (t.bY-t.ay)
 cax:small (t.cx-t.ax)
 cay:small (t.cy-t.ay)
def zl{t:ZJ}{a c:Int}(e:g[n]?=some (.S [.int a,.int b,.int c]))(f:small a)(s:SmT t)(h:Q (.Z1 [.int (DP t a b c),.int (DG t a b c),.int (FT t a b c),.int (AZ t)]) g):JE M (d+1) 22 [uT t,.ref n] g X Q:=by
 simp? only[Fq]
 simp?[e,f,s.ax,s.ay,s.bax,s.bay,s.cax,s.cay];exact h
def qR(t:ZJ):keyOf (uT t)=some (AD t):=rfl
def ix3{l m:G}{a:Z6}:(g++a::(l++m))[g.length+(l.length+j+1)]?=m[j]?:=by
 rw[Xf (by lia),SU,Tv,Xf (by lia),SU]
def vC(o:P.ok)(z:RowsAt g n P H)(B:Kr P H)(h:∀(gs:G) (hN dN ZS ZR gN:Nat),g.length<hN/\g.length<dN/\g.length<ZS/\g.length<ZR/\g.length<gN->Zz (g++gs) g.length P H (λ_=>0) 0 0 hN dN ZS ZR gN 0->(g++gs)[ZS]?=some (.S [])->(g++gs)[ZR]?=some (.S [])->Q .ZN (g++gs)):JE M (d+5) 23 [.ref g.length,Zp P,.ref n] (g++[.ins 211529932 []]) X Q:=by
 have l1:(g++[Z6.ins 211529932 []]).length=g.length+1:=by simp
 have b:∀(a:G) (ps:List Pt),ps.Nodup->(∀p,p∈ps↔Ae P p=true)->JT M (d+4) 9 [Zp P] (g++Z6.ins 211529932 [(509789213455080,.ref (g.length+(a.length+1))),(232289904,Zp P),(487627477906021,.int 0),(31083624820,.int 0),(31083802852,.ref (g.length+(a.length+1+1))),(213628900,.ref (g.length+(a.length+2+1))),(3500095911797,.ref (g.length+(a.length+3+1)))]::(a++[Z6.ZV (Kj Aa (Ac H) ps),Z6.ZV [],Z6.S [],Z6.S []])) X (lk (Kit λi v=>JU M (d+4) i 0 (Tg.nm 0) [] [] ((E.L 0).pair (E.Z3 U.ZN)) [] [none] v (λ_ _ _=>False) (lk λO f=>JO (dfold O []) (lk λZ4=>D8 M (d+4) (E.L 0) 243020007 [211529932] [some (U.ref g.length),some (Zp P),some (.ref n)] X (Cb M (d+4) [] X (Kfn Q)) (U.ref (List.length f)) (f++[Z6.ZV Z4]))))):=λa ps nd w=>by
  refine yj o λgs J N q=>?_;simp?[q];refine bR (J9 P) uT (λ_=>true) (λt=>.Z1 [uT t,.ZN]) (λg'=>g'=_) ((J9 P).map λt=>.Z1 [uT t,.ZN]) (by rw[cw]) (λk g' e=>by rw[e];exact aF q) (λt l=>?_) (by have:=(fD o).2;lia) rfl ?_
  .simp?
   rintro g' rfl;simp?[qR]
  .rintro g' rfl
   let⟨u,D,C,x⟩:=pz AD uT qR .ZN (J9 P) [];simp?[D,aU,dY,X0,Xs];have K:=(fD o).2;have c:(Z6.ZV (Kj Aa (Ac H) ps)::Z6.ZV []::Z6.S []::Z6.S []::(gs++[Z6.ZV u]))[gs.length+1+1+1+1]?=some (.ZV u):=by simp
   refine h _ (g.length+(a.length+0+1)) (g.length+(a.length+1+1)) (g.length+(a.length+2+1)) (g.length+(a.length+3+1)) (g.length+(a.length+(gs.length+1+1+1+1)+1)) (by lia) ⟨aU,⟨ps,ix3 (j:=0),nd,w⟩,⟨[],ix3 (j:=1),Hz _,λ_=>rfl⟩,⟨u,ix3.trans c,by simp at C;lia,λt l=>.inl ?_,λt l=>?_⟩,?_⟩ (ix3 (j:=2)) (ix3 (j:=3))
   .rw [x,Xg (Wa.mpr ⟨t,l,rfl⟩)]
   .rw [x,Xp]
    .rfl
    .intro r
     let⟨s,A,e⟩:=Wa.mp r;exact l (by rw[<-d0 e];exact A)
   .simp only [Wl,YG,Xy,VD,Ry,Qg,not_false_eq_true,and_true]
    lia
 simp? only[Es]
 let⟨ms,I,q,F⟩:=z;simp?;refine v9 o ⟨ms,aa I,q,λy m r=>aa (F y m r)⟩ B λps nd w=>?_;simp?[aU,dY,X0,l1,Xs];exact b [] ps nd w
def vM(c:P.ok)(b:Zz g v P H D ed tr hN dN ZS ZR gN B)(a:Ae P p=true)(h:Q (.int (H p)) g):JE M (d+3) 24 [.ref v,uP p] g X Q:=by
 have h1:=b.ins;let⟨hk,h2,e⟩:=b.at.YH;unfold An at h1;have f:Al (.Z1 [.int p.1,.int p.2]) (.ref hN) g=some (some (.int (H p))):=by rw[aE h2 aq,e p a]
 simp? only[Ex]
 simp?[h1];refine cR c a ?_;simp?[h1,f,id];exact h
def vY(b:P.ok)(B:XC g v P H hN gN)(h:∀(gs:G) (n:Nat),RowsAt (g++gs) n P H->Q (.ref n) (g++gs)):JE M (d+1) 25 [.ref v] g X Q:=by
 let⟨⟨ed,tr,dN,ZS,ZR,h1⟩,⟨hk,h2,t⟩,_,_⟩:=B;unfold An at h1;have s1:=b.ss;have D:=b.ws;have C:=b.ds;have i:Aj (P.w*P.s+1)=true:=ar (by lia) (by lia)
 have r2:Aj (P.d*P.s+1)=true:=ar (by lia) (by lia)
 simp? only[EM]
 simp?[h1,s1,r2];refine vp ((J4 (P.d*P.s+1)).map U.int) (λk ZX g'=>∃(ms:List Nat) (gs:G),g'=g++gs/\ZX=ms.map U.ref/\ms.length=k /\∀(y m:Nat),ms[y]?=some m->g'[m]?=some (.S ((J4 (P.w*P.s+1)).map λx=>.int (H (x,(y:Int)))))) (λk ZX g' _=>aV) (λk u ZX f=>?_) (by rw[Yj,au];omega) ⟨[],[],by simp,rfl,rfl,λy m e=>by simp at e⟩ (λvs g' r q=>?_)
 .simp only [Y0,Ym]at f
  let⟨y,l,rfl⟩:=f;let⟨rfl,j⟩:=di l;simp?;rintro g' ⟨ms,gs,rfl,rfl,a,hm⟩;simp?[aa h1,s1,i];refine bR (J4 (P.w*P.s+1)) U.int (λ_=>true) (λx=>.int (H (x,(k:Int)))) (λg'=>g'=g++gs) ((J4 (P.w*P.s+1)).map λx=>.int (H (x,(k:Int)))) (by rw[cw]) (λk g' _=>aV) (λx p=>?_) (by rw[au];omega) rfl ?_
  .have o:=eM.mp p
   have A:Al (.Z1 [.int x,.int (k:Int)]) (.ref hN) (g++gs)=some (some (.int (H (x,(k:Int))))):=by
    rw[aE (aa h2) aq,t (x,(k:Int)) (bD ⟨by lia,by lia,by lia,by lia⟩)]
   simp?;rintro g' rfl;simp?[aa h1,A,id]
  .rintro g' rfl
   refine⟨by rw[Yj,au];omega,?_⟩
   refine⟨ms++[(g++gs).length],gs++[.S ((J4 (P.w*P.s+1)).map λx=>.int (H (x,(k:Int))))],by simp,by simp,by simp[a],λy m e=>?_⟩
   rcases Qp y ms.length with c|c
   .rw [XD c]at e
    exact aa (hm y m e)
   .have z:y=ms.length:=by
     have:=(Yh.mp e).1;simp at this;lia
    subst z;rw[a];simp at e;subst e;simp
 .obtain ⟨ms,gs,rfl,rfl,a,hm⟩:=r
  rw[Yj,au]at a;refine⟨by rw[Yj];omega,?_⟩
  rw[X0];refine h _ _ ⟨ms,by rw[<-X0];exact ah,a,λy m e=>?_⟩
  rw[<-X0];exact aa (hm y m e)
def vR(k:P.ok)(i:Zz g v P H D ed tr hN dN ZS ZR gN B)(j:Ae P p=true)(h:Q (.int (D p)) g):JE M (d+3) 26 [.ref v,uP p] g X Q:=by
 have h1:=i.ins;let⟨l,b,_,a⟩:=i.dts;unfold An at h1;have f:Ja (.ref dN) g=some l:=by simp![Ja,b]
 have a:=a p;simp? only[EH]
 simp?[h1];refine cR k j ?_;by_cases c:D p=0
 .rw [Xg c]at a
  have e:Al (.Z1 [.int p.1,.int p.2]) (.ref dN) g=some none:=by rw[aE b aq];exact V2 some a
  simp?[h1,e,f,Ra];rw[c]at h;exact h
 .rw [Xp c]at a
  have e:Al (.Z1 [.int p.1,.int p.2]) (.ref dN) g=some (some (.int (D p))):=by rw[aE b aq];exact V2 some a
  simp?[h1,e,f,Option.getD_some];exact h
def vS{t:ZJ}(l:XC g v P H hN gN)(h:Q (.bl (decide (t∈J9 P))) g):JE M (d+1) 34 [.ref v,uT t] g X Q:=by
 let⟨⟨ed,tr,dN,ZS,ZR,h1⟩,⟨hk,h2,o⟩,⟨c,b,n,i,f⟩,m⟩:=l;unfold An at h1;have k:Al (uT t) (.ref gN) g=some (Am c (AD t)):=aE b cM;have j:(Am c (AD t)).isSome=decide (t∈J9 P):=by
  by_cases a:t∈J9 P
  .rcases i t a with e|⟨H',e⟩<;>rw[e]<;>simp[a]
  .rw [f t a];simp[a]
 simp? only[EB]
 simp?[h1,b,k,j];exact h
def nI{t:ZJ}(a:XC g v P H hN gN)(b:t∈J9 P)(h:Q .ZN g):JE M (d+2) 35 [.ref v,uT t] g X Q:=by
 let⟨ed,tr,dN,ZS,ZR,h1⟩:=a.ins;unfold An at h1;simp? only[Er]
 simp?[h1];refine vS a ?_;simp?[b];exact h
def vW{t:ZJ}(w:P.ok)(c:XC g v P H hN gN)(f:t∈J9 P)(h:Bt g [.int (H (Kf t)),.int (H (Kg t)),.int (H (Kh t))] Q):JE M (d+3) 36 [.ref v,uT t] g X Q:=by
 let⟨ed,tr,dN,ZS,ZR,h1⟩:=c.ins;let⟨hk,h2,y⟩:=c.YH;let⟨u,r,o⟩:=gU (eW w f).1;unfold An at h1;simp? only[EE]
 simp?[h1];refine nI c f ?_;simp?;refine bR [Kf t,Kg t,Kh t] uP (λ_=>true) (λa=>.int (H a)) (λg'=>g'=g) [.int (H (Kf t)),.int (H (Kg t)),.int (H (Kh t))] rfl (λk g' _=>rfl) (λa j=>?_) #[3] rfl ?_
 .have hi:Ae P a=true:=by
   simp![YG,Xy,VD]at j;rcases j with rfl|rfl|rfl
   .exact u
   .exact r
   .exact o
  have z:Al (.Z1 [.int a.1,.int a.2]) (.ref hN) g=some (some (.int (H a))):=by rw[aE h2 aq,y a hi]
  simp?;rintro g' rfl;simp?[h1,z,id]
 .rintro g' rfl
  have:=fZ (gs:=[]) h #[3]
  rw[Se]at this;exact this
def sm1{a:Int}(h:a.natAbs<=31):small a:=aK () ()
def sm2{a:Int}(h:a.natAbs<=31)(k:b.natAbs<=31):small (a-b):=aK () ()
def abC{t:ZJ}(h:BU t=true):SmT t:=by
 let⟨a,b,c,d,e,f⟩:=aa9 h;exact⟨sm1 a,sm1 b,sm2 c a,sm2 d b,sm2 e a,sm2 f b⟩
def wd{t:ZJ}(b:P.ok)(c:XC g v P H hN gN)(i:Kr P H)(a:t∈J9 P)(h:∀gs,Q (.Z1 [.int (Vs H t),.int (Vr H t),.int (Vq H t),.int (AZ t)]) (g++gs)):JE M (d+4) 37 [.ref v,uT t] g X Q:=by
 let⟨ed,tr,dN,ZS,ZR,h1⟩:=c.ins;let⟨f,k,j⟩:=gU (eW b a).1;have hA:=i _ f;unfold An at h1;simp? only[ES]
 simp?[h1];refine vW b c a λgs n l e=>?_;simp?;refine zl e (aK (by lia) ()) (abC (fm b a)) ?_
 simp?;exact h gs
def vF{t:ZJ}(a:P.ok)(q:XC g v P H hN gN)(w:Kr P H)(c:t∈J9 P)(h:∀gs,Q (uG H t) (g++gs)):JE M (d+5) 39 [.ref v,uT t] g X Q:=by
 let⟨ed,tr,dN,ZS,ZR,h1⟩:=q.ins;let⟨hk,h2,C⟩:=q.YH;have l:=(eW a c).1;have hw:=(eW a c).2;have K:=a.ws;have I:=a.ds;unfold An at h1;simp? only[Et]
 simp?[h1];refine wd a q w c λgs=>?_;simp?;refine y7 (qt (fm a c)) λo n G e=>?_;simp?[e];refine aB ((Ke t).map uP) (λk Y g'=>g'=g++gs++o /\∃(Ks o2 f:Option U),Y=[some (.ref v),some (uT t),some (.int (Vs H t)),some (.int (Vr H t)),some (.int (Vq H t)),some (.int (AZ t)),some (.int (((Ke t).take k).foldl (AA H t) (-1,none)).1),some (J8 (((Ke t).take k).foldl (AA H t) (-1,none)).2),Ks,o2,f]) (λk Y g' b=>by rw[b.1];exact aF e) ⟨rfl,_,_,_,rfl⟩ (λk u Y g' x b=>?_) (λY g' b=>?_)
 .obtain ⟨rfl,Ks,o2,f,rfl⟩:=b
  simp![Y0,Ym]at x;let⟨p,s,rfl⟩:=x;have r:=yg l (XG s);have J:=aS.mp r;have B:=w p r;have A:small (H p):=aK (by lia) (by lia)
  have z:small p.1:=aK () ()
  have y:small p.2:=aK () ()
  have g1:(g++gs++o)[v]?=_:=aa (aa h1);have E:Al (.Z1 [.int p.1,.int p.2]) (.ref hN) (g++gs++o)=some (some (.int (H p))):=by rw[aE (aa (aa h2)) aq,C p r]
  have F:(if H p*AZ t-(Vs H t*p.1+Vr H t*p.2+Vq H t)<0 then -(H p*AZ t-(Vs H t*p.1+Vr H t*p.2+Vq H t))else H p*AZ t-(Vs H t*p.1+Vr H t*p.2+Vq H t))=A0 H t p:=gS _
  have D:(Ke t).take (k+1)=(Ke t).take k++[p]:=by rw[VQ,s];rfl
  rw[D,RX];simp?[g1,E,id,A,z,y,F];refine av (λj=>?_) λj=>?_
  .have i:(((Ke t).take k).foldl (AA H t) (-1,none)).1<A0 H t p:=by simpa using j
   have m:[p].foldl (AA H t) (((Ke t).take k).foldl (AA H t) (-1,none))=(A0 H t p,some p):=Xg i;rw[m];simp?;exact⟨_,_,_,rfl⟩
  .have i : ¬ (((Ke t).take k).foldl (AA H t) (-1,none)).1<A0 H t p:=by simpa using j
   have m:[p].foldl (AA H t) (((Ke t).take k).foldl (AA H t) (-1,none))=((Ke t).take k).foldl (AA H t) (-1,none):=Xp i;rw[m];simp?;exact⟨_,_,_,rfl⟩
 .obtain ⟨rfl,Ks,o2,f,rfl⟩:=b
  rw[Yj,VU];simp?[gS];refine zT (by lia) (by unfold Yv Au;lia) ?_
  simp?;rw[X0];exact h _
def pk{H:Ht}{t:ZJ}:∀(l:List Pt) (a:Int×Option Pt),(a.1<0\/a.2.isSome=true)->(l.foldl (AA H t) a).1<0\/(l.foldl (AA H t) a).2.isSome=true
 |[],a,h=>h
 |q::l,a,h=>by
  rw[Vo];refine pk l _ ?_;unfold AA;split
  .exact .inr rfl
  .exact h
def neG{H':Ht}{t:ZJ}:∃b,Jc .ne (uG H t) (uG H' t) g=some b:=by
 have a:∀H:Ht,∃p,(BN H t).2=some p:=λH=>by
  have f:0<=(BN H t).1:=zE xj;rcases pk (H:=H) (t:=t) (Ke t) (-1,none) (.inl #[1])with z|z
  .change (BN H t).1<0 at z;lia
  .exact Sg.mp z
 let⟨p,d⟩:=a H;let⟨q,c⟩:=a H';unfold uG;rw[d,c];exact⟨_,rfl⟩
def oI{t:ZJ}(u:P.ok)(q:XC g v P H hN gN)(w:Kr P H)(f:t∈J9 P)(h:∀(H':Ht) (g':G),XC g' v P H hN gN->Kp gN g g'->Q (uG H' t) g'):JE M (d+6) 38 [.ref v,uT t] g X Q:=by
 have j:=q;let⟨⟨ed,tr,dN,ZS,ZR,h1⟩,⟨hk,h2,z⟩,⟨c,l,y,p,x⟩,o⟩:=q;unfold An at h1;simp? only[EY]
 simp?[h1];refine nI j f ?_;have a:=p t f;rcases a with e|⟨H',e⟩
 .have m:Al (uT t) (.ref gN) g=some (some .ZN):=by rw[aE l cM,e]
  simp?[h1,m,id];refine vF u j w f λgs=>?_;have r:=aa (gs:=gs) h1;have b:=aa (gs:=gs) l;have sb:∀Y,subAt (.ref gN) (uT t) (uG H t) Y (g++gs)=.ok (.nx Y) ((g++gs).set gN (.ZV (dput c (AD t) (uG H t)))):=λY=>aT b cM (by lia)
  have ne:=j.lt.2.2.2;have k:((g++gs).set gN (.ZV (dput c (AD t) (uG H t))))[v]?=(g++gs)[v]?:=Xb (Ne.symm ne);rw[r]at k;have n:((g++gs).set gN (.ZV (dput c (AD t) (uG H t))))[gN]?=some (.ZV (dput c (AD t) (uG H t))):=aj b;have A:Al (uT t) (.ref gN) ((g++gs).set gN (.ZV (dput c (AD t) (uG H t))))=some (some (uG H t)):=by rw[aE n cM,bG,Xg rfl]
  simp?[r,sb,k,A,id];refine h H _ ⟨⟨_,_,_,_,_,k⟩,⟨hk,?_,z⟩,⟨_,n,?_,λs a=>?_,λs a=>?_⟩,o⟩ (Kp.app.trans Kp.set)
  .rw [Xb (Ne.symm o)];exact aa h2
  .rw [oX (by rw[e];rfl)];exact y
  .rw [bG]
   by_cases i:AD t=AD s
   .have:=d0 i;subst this;rw[Xg rfl];exact .inr ⟨H,rfl⟩
   .rw [Xp i];exact p s a
  .rw [bG,Xp (λi=>a (by rw[<-d0 i];exact f))]
   exact x s a
 .have m:Al (uT t) (.ref gN) g=some (some (uG H' t)):=by rw[aE l cM,e]
  simp?[h1,m,id];exact h H' g j Kp.refl
def v5{f:List Pt}(K:P.ok)(Z7:Zz g v P H D ed tr hN dN ZS ZR gN B)(he:0<=ed)(hB:B<=10000)(hH:Kr P H)(hq:∀p∈f,Ae P p=true /\ -1000<=N p/\N p<=1000)(ql:f.length<=625)(hn:Ja (.ref n) g=some (Kj Aa (Ac N) f))(F:n ∉ [v,hN,dN,gN])
  (h:∀(m:Nat) (xs:List U) (g':G),Zz g' v P (Ov N f H) (Dat (ed+1) H (Ov N f H) D) (ed+1) tr hN dN ZS ZR gN (B+625)->ZK [v,hN,dN,gN,n] g g'->KD [v,hN,dN,gN] g g'->g.length<=m->g'[m]?=some (.S xs)->Q (.ref m) g'):JE M (d+12) 33 [.ref v,.ref n] g X Q:=by
 have ZC:=Z7.ne;simp![Wl,YG,Xy,VD,Ry]at ZC F;have h1:=Z7.ins;have vlt:=Z7.lt.1;have Zy:Ja (.ref n) (g.set v (An P (ed+1) tr hN dN ZS ZR gN))=some (Kj Aa (Ac N) f):=by
  simp![Ja]at hn ⊢;rw[Xb (Ne.symm F.1)];exact hn
 let⟨g2,hit,e2,k2⟩:=eQ Zy;have K2:ZK [v,hN,dN,gN,n] g g2:=(ZK.set #[3]).trans (k2.l #[3])
 have D2:KD [v,hN,dN,gN] g g2:=(ZK.set (Z5:=[v,hN,dN,gN]) #[3]).kd.trans (ui Zy e2 k2)
 have i2:=k2.get v _ (Ne.symm F.1) (aj h1);have L2:=Z7.up (Z5:=[v,n]) ((ZK.set #[3]).trans (k2.l #[3])) i2 (by simp[Ne.symm ZC.1.1,Ne.symm F.2.1]) (by simp[Ne.symm ZC.1.2.1,Ne.symm F.2.2.1]) (by simp[Ne.symm ZC.1.2.2.2.2,Ne.symm F.2.2.2])
 have hd2:=L2.at.YH;let⟨hk2,hd2,UH⟩:=hd2;unfold An at h1 hit i2;simp? only[EW]
 simp?[h1,↓hit];obtain⟨cs,Zn⟩:∃cs,cs=f.filter λp=>!decide (N p=H p):=⟨_,rfl⟩;have cin:∀p∈cs,p∈f:=λp r=>by rw[Zn]at r;exact(Rn.mp r).1
 have cl:cs.length<=625:=by rw[Zn];exact Hx (SD ..) ql
 refine bR f uP (λp=>!decide (N p=H p)) uP (λg'=>g'=g2) (cs.map uP) (by rw[Zn]) (λk g' e=>by rw[e];exact cY e2) (λp r=>?_) (by lia) rfl ?_
 .have dl1:Al (.Z1 [.int p.1,.int p.2]) (.ref n) g2=some (some (.int (N p))):=by rw[dS e2 aq,aM (key:=Aa) (λa b=>aw) r]
  have VN:Al (.Z1 [.int p.1,.int p.2]) (.ref hN) g2=some (some (.int (H p))):=by rw[aE hd2 aq,UH p (hq p r).1]
  simp?;rintro g' rfl;simp?[i2,dl1,VN,id];by_cases hc:N p=H p
  .simp? [hc]
  .simp? [hc]
 rintro g' rfl;refine⟨by rw[Yj];lia,?_⟩
 simp?[aa i2];refine rW K λZ n3 _ e3=>?_;have YK:=oM K;simp?;refine pd (d:=d) K 7 #[1] (λt C=>⟨vZ C,fO K C⟩) (by lia) (by lia) e3 (aa ah) λX8 n4 O hu Wk e4=>?_
 have hul2:O.length<=18*255:=Hx Wk (Tf _ YK);have c4:(g'++[Z6.S (cs.map uP)]++Z++X8)[g'.length]?=some (.S (cs.map uP)):=aa (aa ah);have K4:ZK [v,hN,dN,gN,n] g (g'++[Z6.S (cs.map uP)]++Z++X8):=K2.trans (ZK.app.trans (ZK.app.trans ZK.app));have D4:KD [v,hN,dN,gN] g (g'++[Z6.S (cs.map uP)]++Z++X8):=D2.trans (ZK.app.trans (ZK.app.trans ZK.app)).kd;have L4:Zz (g'++[Z6.S (cs.map uP)]++Z++X8) v P H D (ed+1) tr hN dN ZS ZR gN B:=L2.app.app.app;have n4':(g'++[Z6.S (cs.map uP)]++Z++X8)[n]?=_:=aa (aa (aa e2));have W:=L4.nl e4;have q5:=L4.nl c4;obtain⟨cN,hcN⟩:∃cN,cN=g'.length:=⟨_,rfl⟩;rw[<-hcN]at c4 q5 ⊢;generalize g'++[Z6.S (cs.map uP)]++Z++X8=g4 at *;simp?[e4];refine vp (O.map uT) (λk ZX g'=>Zz g' v P H D (ed+1) tr hN dN ZS ZR gN B/\ZK [gN] g4 g'/\ZX.length=k /\∀(i:Nat) (w:U),ZX[i]?=some w ->∃t∈J9 P,O[i]?=some t /\∃H',w=uG H' t) (λk ZX g' y=>aF (y.2.1.get _ _ (by simp[W]) e4)) (λk u ZX hk=>?_) (by rw[Yj];lia) ⟨L4,ZK.refl,rfl,λi w e=>by simp at e⟩ (λvs g' y hvl=>?_)
 .simp only [Y0,Ym]at hk
  let⟨t,C,rfl⟩:=hk;have YH:=hu t (XG C);simp?;rintro g' ⟨L5,V,hl,ha⟩;have i5:=L5.ins;unfold An at i5;simp?[i5];refine oI K L5.at hH YH λH' g6 A6 K6=>?_;refine⟨L5.gap A6 K6,V.trans (K6.l #[3]),by simp[hl],λi w e=>?_⟩
  rcases Qp i ZX.length with c|c
  .rw [XD c]at e
   exact ha i w e
  .rw [Xf c]at e
   have:i-ZX.length=0:=by have:=(Yh.mp e).1;simp at this;lia
   rw[this]at e;cases e;exact⟨t,YH,by rw[show i=k by lia];exact C,H',rfl⟩
 let⟨L5,V,_,ha⟩:=y;rw[Yj]at hvl;refine⟨by lia,?_⟩
 have e6:=aa (gs:=[Z6.S vs]) (V.get _ _ (by simp[W]) e4)
 have c6:=aa (gs:=[Z6.S vs]) (V.get _ _ (by simp[q5]) c4)
 have n6:=aa (gs:=[Z6.S vs]) (V.get _ _ (by simp[F]) n4')
 have b6:(g'++[Z6.S vs])[g'.length]?=_:=ah;have eO:Ov (λ_=>ed+1) [] D=D:=funext λp=>by simp[Ov]
 have L6:Zz (g'++[Z6.S vs]) v P (Ov N [] H) (Ov (λ_=>ed+1) [] D) (ed+1) tr hN dN ZS ZR gN B:=by rw[eO];exact L5.app
 have D6:KD [v,hN,dN,gN] g (g'++[Z6.S vs]):=D4.trans ((V.sub #[3]).trans ZK.app).kd
 have K6:ZK [v,hN,dN,gN,n] g (g'++[Z6.S vs]):=K4.trans ((V.sub #[3]).trans ZK.app)
 have q6:=L6.nl b6;obtain⟨bN,hbN⟩:∃bN,bN=g'.length:=⟨_,rfl⟩;rw[<-hbN]at b6 q6 ⊢;generalize g'++[Z6.S vs]=g6 at *;simp?[c6];refine aB (cs.map uP) (λj Y g'=>∃o,Zz g' v P (Ov N (cs.take j) H) (Ov (λ_=>ed+1) (cs.take j) D) (ed+1) tr hN dN ZS ZR gN (B+j)/\ZK [hN,dN] g6 g'/\Y=[some (.ref v),some (.ref n),some (.ref cN),some (.ref n4),some (.ref bN),o,none]) (λj Y g' ⟨_,_,q,_⟩=>aF (q.get _ _ (by simp[q5]) c6)) ⟨_,L6,ZK.refl,rfl⟩ (λj u Y g' hj y=>?_) (λY g' y=>?_)
 .simp only [Y0,Ym]at hj
  let⟨p,r,rfl⟩:=hj;let⟨o,L7,J,rfl⟩:=y;have WW:=cin p (XG r);have hjl:=(Yh.mp r).1;have et:cs.take (j+1)=cs.take j++[p]:=by rw[VQ,r];rfl
  have i7:=L7.ins;have dl:Al (.Z1 [.int p.1,.int p.2]) (.ref n) g'=some (some (.int (N p))):=by rw[dS (J.get _ _ (by simp[F]) n6) aq,aM (key:=Aa) (λa b=>aw) WW]
  let⟨g8,s8,L8,E⟩:=L7.UL K (hq p WW).1;have i8:=E.get _ _ ZC.1.1 i7;let⟨g9,s9,R,I⟩:=L8.dset (p:=p) (by lia) (by lia)
  unfold An at i7 i8;simp?[i7,dl,id,s8,i8,s9];rw[et];exact⟨_,R,J.trans ((E.l #[3]).trans (I.l #[3])),rfl⟩
 let⟨o,L7,J,rfl⟩:=y;rw[Yj,VU]at L7;have eOv:Ov N cs H=Ov N f H:=funext λp=>by
  unfold Ov;rw[Zn];by_cases c1:p∈f<;>by_cases c2:N p=H p<;>simp[c1,c2]
 rw[eOv]at L7;have D7:=D6.trans (J.sub (T:=[v,hN,dN,gN]) #[3]).kd
 have hH7:Kr P (Ov N f H):=λp r=>by
  unfold Ov;split
  .rename_i z;exact(hq p z).2
  .exact hH p r
 have e7:=J.get _ _ (by simp[W]) e6
 have b7:=J.get _ _ (by simp[q6]) b6
 simp?[e7];refine aB (O.map uT) (λj Y L=>∃o o',Zz L v P (Ov N f H) (Ov (λ_=>ed+1) cs D) (ed+1) tr hN dN ZS ZR gN (B+cs.length)/\ZK [gN] g' L/\Y=[some (.ref v),some (.ref n),some (.ref cN),some (.ref n4),some (.ref bN),o,o']) (λj Y L ⟨_,_,_,q,_⟩=>aF (q.get _ _ (by simp[W]) e7)) ⟨_,_,L7,ZK.refl,rfl⟩ (λj u Y L hj y=>?_) (λY L y=>?_)
 .simp only [Y0,Ym]at hj
  let⟨t,C,rfl⟩:=hj;let⟨o,o',L8,E,rfl⟩:=y;have i8:=L8.ins;let⟨g9,s9,R,I⟩:=L8.gset (hu t (XG C));unfold An at i8;simp?[i8,s9];exact⟨_,_,R,E.trans (I.l #[3]),rfl⟩
 let⟨o,o',L8,E,rfl⟩:=y;have e8:=E.get _ _ (by simp[W]) e7
 have b8:=E.get _ _ (by simp[q6]) b7
 simp?[e8,b8];refine jI (List.zipWith (λu w=>U.Z1 [u,w]) (O.map uT) vs) (λ_=>True) (λg3=>Zz g3 v P (Ov N f H) (Ov (λ_=>ed+1) cs D) (ed+1) tr hN dN ZS ZR gN (B+cs.length)/\ZK [gN] L g3) (λk g3 q=>yr (q.2.get _ _ (by simp[W]) e8) (q.2.get _ _ (by simp[q6]) b8)) (λu VL=>?_) _ 0 [] L (VM _) (by simp[Ag];lia) ⟨L8,ZK.refl⟩ (λws g3 UZ _ q=>?_)
 .obtain ⟨i,hi⟩:=WV.mp VL
  rw[List.getElem?_zipWith]at hi;cases hw:vs[i]? with
  |none=>cases h2:(List.map uT O)[i]?<;>rw[hw,h2]at hi<;>cases hi
  |some w=>
   let⟨t,C,hti,H',rfl⟩:=ha i w hw;rw[hw,Y0,hti]at hi;cases hi;simp?;refine⟨rfl,?_⟩;rintro g3 ⟨R,I⟩;have i9:=R.ins;unfold An at i9;simp?[i9];refine oI K R.at hH7 C λH2 g10 A10 UG=>?_;let⟨c,hc⟩:=neG (H:=H2) (H':=H') (t:=t) (g:=g10);have A:=And.intro (R.gap A10 UG) (I.trans (UG.l #[3]))
   simp?[hc];cases c with
   |true=>
    simp?;exact⟨A,λ_=>A⟩
   |false=>
    simp?;exact⟨A,λ_=>A⟩
 .rw [List.length_zipWith,Yj]at UZ
  refine⟨by rw[Sx];lia,?_⟩
  simp?;let⟨⟨a1,a2,⟨dk,a3,a4,a7⟩,a5,a6⟩,I⟩:=q;have UG:=(E.sub (T:=[v,hN,dN,gN]) #[3]).trans ((I.sub (T:=[v,hN,dN,gN]) #[3]).trans (ZK.app (gs:=[Z6.S ([]++ws)])))
  have l3:g.length<=g3.length:=by have:=K6.len;have:=J.len;have:=E.len;have:=I.len;lia
  rw[<-abN,<-Zn]at h;exact h _ _ _ (Zz.app ⟨a1,a2,⟨dk,a3,by lia,a7⟩,a5,a6⟩) (K6.trans ((J.sub #[3]).trans (UG.sub #[3]))) (D7.trans UG.kd) l3 ah
def oB{c:List Pt}{j:List U}(hP:P.ok)(T:Zz g v P H D ed tr hN dN ZS ZR gN B)(he:0<=ed)(hB:B<=10000)(hH:Kr P H)(Z:∀p∈c,Ae P p=true /\ -1000<=N p/\N p<=1000)(ql:c.length<=625)(nd:c.Nodup)(z:Ja (.ref n) g=some (Kj Aa (Ac N) c))(YB:g[ZS]?=some (.S j))(dl:j.length<=100)(YA:g[ZR]?=some (.S O))(r:n ∉ [v,hN,dN,gN])
  (h:∀(m:Nat) (xs:List U) (g':G) (oN:Nat),Zz g' v P (Ov N c H) (Dat (ed+1) H (Ov N c H) D) (ed+1) tr hN dN ZS ZR gN (B+625)->ZK [v,hN,dN,ZS,ZR,gN,n] g g'->KD [v,hN,dN,gN] g g'->g'[ZS]?=some (.S (j++[.Z1 [.ref oN,.ref n]]))->g'[ZR]?=some (.S [])->g.length<=m->g'[m]?=some (.S xs)->Q (.ref m) g'):JE M (d+13) 32 [.ref v,.ref n] g X Q:=by
 have ZC:=T.ne;simp![Wl,YG,Xy,VD,Ry]at ZC r;let⟨g2,J,L,t⟩:=eQ z;have nl:n≠ZS/\n≠ZR:=by
  constructor<;>rintro rfl
  .simp only [Ja,YB]at z;cases z
  .simp only [Ja,YA]at z;cases z
 have D2:KD [v,hN,dN,gN] g g2:=ui z L t;have h1:=T.ins;have C:=t.get v _ (Ne.symm r.1) h1;have w:=t.get _ _ (Ne.symm nl.1) YB;have o:=t.get _ _ (Ne.symm nl.2) YA;have L2:=T.kp (Z5:=[n]) (t.l #[3]) (by simp[Ne.symm r.1]) (by simp[Ne.symm r.2.1]) (by simp[Ne.symm r.2.2.1]) (by simp[Ne.symm r.2.2.2])
 let⟨hk2,K,UH⟩:=L2.at.YH;unfold An at C;simp? only[EX]
 simp?[↓J];refine bR c uP (λ_=>true) (λp=>.Z1 [uP p,Ac H p]) (λg'=>g'=g2) (c.map λp=>.Z1 [uP p,Ac H p]) (by rw[cw]) (λk g' e=>by rw[e];exact cY L) (λp hp=>?_) (by lia) rfl ?_
 .have VN:Al (.Z1 [.int p.1,.int p.2]) (.ref hN) g2=some (some (.int (H p))):=by rw[aE K aq,UH p (Z p hp).1]
  simp?;rintro g' rfl;simp?[C,VN,id,rC]
 rintro g' rfl;have df:dfold (c.map λp=>.Z1 [uP p,Ac H p]) []=some (Kj Aa (Ac H) c):=qZ (key:=Aa) (e:=uP) (f:=Ac H) (λa b=>aw) rC c [] nd;have u:=aa (gs:=[.ZV (Kj Aa (Ac H) c)]) w;have I:=aa (gs:=[.ZV (Kj Aa (Ac H) c)]) o;have ap:=bj (y:=.Z1 [.ref g'.length,.ref n]) u (by lia)
 have Vn:((g'++[Z6.ZV (Kj Aa (Ac H) c)]).set ZS (Z6.S (j++[U.Z1 [U.ref g'.length,U.ref n]])))[ZR]?=some (.S O):=cO ZC.2.2.2.1.1 I;have Y:((g'++[Z6.ZV (Kj Aa (Ac H) c)]).set ZS (Z6.S (j++[U.Z1 [U.ref g'.length,U.ref n]])))[v]?=_:=cO (Ne.symm ZC.1.2.2.1) (aa C);have W:(((g'++[Z6.ZV (Kj Aa (Ac H) c)]).set ZS (Z6.S (j++[U.Z1 [U.ref g'.length,U.ref n]]))).set ZR (.S []))[v]?=_:=cO (Ne.symm ZC.1.2.2.2.1) Y;simp?[df,aa C,u,ap,Y,Vn,W];obtain⟨g5,E⟩:∃g5,g5=((g'++[Z6.ZV (Kj Aa (Ac H) c)]).set ZS (Z6.S (j++[U.Z1 [U.ref g'.length,U.ref n]]))).set ZR (.S []):=⟨_,rfl⟩;rw[<-E]at W ⊢;have A:ZK [ZS,ZR] g' g5:=by rw[E];exact ZK.app.trans ((ZK.set #[3]).trans (ZK.set #[3]))
 have F:g5[ZR]?=some (.S []):=by rw[E];exact aj Vn
 have R:g5[ZS]?=some (.S (j++[.Z1 [.ref g'.length,.ref n]])):=by rw[E,Xb (Ne.symm ZC.2.2.2.1.1)];exact aj u
 have lt:=L2.lt;have dlt:=(Yh.mp w).1;have ult:=(Yh.mp o).1;have L5:=L2.kp A (by simp[ZC.1]) (by simp[ZC.2.1]) (by simp[ZC.2.2.1]) (by simp[Ne.symm ZC.2.2.2.1.2,Ne.symm ZC.2.2.2.2.1])
 have n5:=A.get _ _ (by simp[nl]) L
 have D5:KD [v,hN,dN,gN] g g5:=D2.trans λk D hk e=>by
  have a:=tf e w;have b:=tf e o;exact A.kd k D (by simp[a,b]) e
 refine v5 (d:=d) hP L5 he hB hH Z ql (by simp![Ja,n5]) (by simp[r]) λm xs g6 L6 V D6 lm em=>?_
 have l5:=A.len;have l2:=t.len;refine h m xs g6 g'.length L6 (((t.l #[3]).trans (A.sub #[3])).trans (V.sub #[3])) (D5.trans D6) (V.get _ _ ?_ R) (V.get _ _ ?_ F) (by lia) em
 .simp [Ne.symm ZC.1.2.2.1,Ne.symm ZC.2.1.2.1,Ne.symm ZC.2.2.1.1,ZC.2.2.2.1.2,Ne.symm nl.1]
 .simp [Ne.symm ZC.1.2.2.2.1,Ne.symm ZC.2.1.2.2.1,Ne.symm ZC.2.2.1.2.1,ZC.2.2.2.2.1,Ne.symm nl.2]
def nY{cs:List (Pt×Int)}{C:List U}(I:P.ok)(t:Zz g v P H D ed tr hN dN ZS ZR gN B)(he:0<=ed)(hB:B<=10000)(hH:Kr P H)(y:∀c∈cs,Ae P c.1=true /\ -1000<=c.2/\c.2<=1000)(W:cs.length<=625)(G:g[m]?=some (.S (cs.map λc=>.Z1 [uP c.1,.int c.2])))(YB:g[ZS]?=some (.S C))(dl:C.length<=100)(YA:g[ZR]?=some (.S O))
  (h:BV g v P H D ed tr hN dN ZS ZR gN B C (Chg H cs) Q):JE M (d+14) 28 [.ref v,.ref m] g X Q:=by
 have ZC:=t.ne;simp![Wl,YG,Xy,VD,Ry]at ZC;have h1:=t.ins;have q:=t.nl G;have a:ZK [v] g (g.set v (An P ed (tr+1) hN dN ZS ZR gN)):=ZK.set #[3]
 have j:(g.set v (An P ed (tr+1) hN dN ZS ZR gN))[v]?=_:=aj h1;have F:=t.up a j (by simp[Ne.symm ZC.1.1]) (by simp[Ne.symm ZC.1.2.1]) (by simp[Ne.symm ZC.1.2.2.2.2])
 have m1:=a.get _ _ (by simp[q]) G
 have L:=a.get _ _ (by simp[Ne.symm ZC.1.2.2.1]) YB
 have N:=a.get _ _ (by simp[Ne.symm ZC.1.2.2.2.1]) YA
 have f:(g.set v (An P ed (tr+1) hN dN ZS ZR gN)).length=g.length:=R9;have ks:=cJ cs;unfold An at h1;simp? only[ER]
 unfold An at m1 f j;simp?[h1,aa m1];obtain⟨g1,J⟩:∃g1,g1=g.set v (An P ed (tr+1) hN dN ZS ZR gN):=⟨_,rfl⟩;have R:=J;unfold An at R;rw[<-J]at F a L N;rw[<-R]at f m1 j ⊢;refine aB (cs.map λc=>.Z1 [uP c.1,.int c.2]) (λk Y g'=>∃Ks o2,g'=g1++[.ZV (Kj Aa (Ac (Chg H (cs.take k))) (Kw (cs.take k)))]/\Y=[some (.ref v),some (.ref m),some (.ref g1.length),Ks,o2]) (λk Y g' ⟨_,_,e,_⟩=>by rw[e];exact aF (aa m1)) ⟨_,_,by simp[Kj,Kw],rfl⟩ (λk u Y g' hk A=>?_) (λY g' A=>?_)
 .simp only [Y0,Ym]at hk
  let⟨⟨p,i⟩,r,rfl⟩:=hk;let⟨Ks,o2,rfl,rfl⟩:=A;have E:=y _ (XG r);have et:cs.take (k+1)=cs.take k++[(p,i)]:=by rw[VQ,r];rfl
  have kl:=(cJ (cs.take k)).2.1;have sb:∀Y,subAt (.ref g1.length) (.Z1 [.int p.1,.int p.2]) (.int i) Y (g1++[.ZV (Kj Aa (Ac (Chg H (cs.take k))) (Kw (cs.take k)))])=.ok (.nx Y) (g1++[.ZV (Kj Aa (Ac (Chg H (cs.take (k+1)))) (Kw (cs.take (k+1))))]):=λY=>by
   rw[aT ah aq (by simp![Kj,Yj];rw[Vl]at kl;lia),pP,et]
   simp
  simp?[aa j];refine cR I E.1 ?_;simp?;refine fh E.2.1 E.2.2 ?_;simp?[sb];exact⟨_,_,rfl⟩
 let⟨Ks,o2,rfl,rfl⟩:=A;rw[Yj,VU];have l1:=F.lt;have gl:∀p∈Kw cs,Ae P p=true /\ -1000<=Chg H cs p/\Chg H cs p<=1000:=λp r=>by
  let⟨c,hc,rfl⟩:=(ks.2.2 p).mp r;exact⟨(y c hc).1,rn (λc hc=>(y c hc).2) _ r⟩
 simp?[aa j];have nn:g1.length ∉ [v,hN,dN,gN]:=by simp[Ne.symm (HC l1.1),Ne.symm (HC l1.2.1),Ne.symm (HC l1.2.2.1),Ne.symm (HC l1.2.2.2)]
 refine oB (d:=d) I F.app he hB hH gl (Hx ks.2.1 W) ks.1 (by simp![Ja,ah]) (aa L) dl (aa N) nn λw xs g' oN T V D6 UD UC Z ew=>?_
 rw[sT]at T;refine h w xs g' oN g1.length T ⟨Hx (by simp[f]) V.len,λk o hk e=>?_⟩ (((a.sub #[3]).kd.trans ZK.app.kd).trans D6) UD UC (Hx (by simp[f]) Z) ew
 have K:=(Yh.mp e).1;refine V.get k o (λz=>?_) (aa (a.get k o (λz=>hk (by simp at z;simp[z])) e))
 have z:k∈[v,hN,dN,ZS,ZR,gN]++[g1.length]:=z;rcases Vm.mp z with z|z
 .exact hk z
 .rw [XM.mp z,f]at K;exact Ta _ K
def wL{a:List U}(r:P.ok)(f:Zz g v P H D ed tr hN dN ZS ZR gN B)(o:0<=ed)(u:B<=10000)(t:Kr P H)(k:Ae P p=true)(hi : -1000<=i/\i<=1000)(A:g[ZS]?=some (.S a))(z:a.length<=100)(C:g[ZR]?=some (.S O))
  (h:BV g v P H D ed tr hN dN ZS ZR gN B a (Chg H [(p,i)]) Q):JE M (d+15) 27 [.ref v,uP p,.int i] g X Q:=by
 have h1:=f.ins;unfold An at h1;simp? only[E3]
 simp?[h1];refine nY (d:=d) (cs:=[(p,i)]) r f.app o u t (λc hc=>by rw[XM.mp hc];exact⟨k,hi⟩) #[3] ah (aa A) z (aa C) λw xs g' oN nN G I J E F j y=>?_
 exact h w xs g' oN nN G (ZK.app.trans I) (ZK.app.kd.trans J) E F (by simp at j;lia) y
def Kx(H:Ht)(a b:Pt)(i:Int):List (Pt×Int):=(Bd a b).map λp=>(p,H p+i)
def nZ{a b:Pt}{i:Int}{H:Ht}{ds:List U}(t:P.ok)(N:Zz g v P H D ed tr hN dN ZS ZR gN B)(he:0<=ed)(hB:B<=10000)(hH:Kr P H)(ha:Ae P a=true)(hb:Ae P b=true)(A:∀c∈Kx H a b i,Ae P c.1=true /\ -1000<=c.2/\c.2<=1000)(YB:g[ZS]?=some (.S ds))(dl:ds.length<=100)(YA:g[ZR]?=some (.S O))
  (h:BV g v P H D ed tr hN dN ZS ZR gN B ds (Chg H (Kx H a b i)) Q):JE M (d+14) 29 [.ref v,uP a,uP b,.int i] g X Q:=by
 have ZC:=N.ne;simp![Wl,YG,Xy,VD,Ry]at ZC;have h1:=N.ins;have r:ZK [v] g (g.set v (An P ed (tr+1) hN dN ZS ZR gN)):=ZK.set #[3]
 have f:(g.set v (An P ed (tr+1) hN dN ZS ZR gN))[v]?=_:=aj h1;have y:=N.up r f (by simp[Ne.symm ZC.1.1]) (by simp[Ne.symm ZC.1.2.1]) (by simp[Ne.symm ZC.1.2.2.2.2])
 have T:=r.get _ _ (by simp[Ne.symm ZC.1.2.2.1]) YB
 have V:=r.get _ _ (by simp[Ne.symm ZC.1.2.2.2.1]) YA
 have Z:(g.set v (An P ed (tr+1) hN dN ZS ZR gN)).length=g.length:=R9;unfold An at h1;simp? only[EV]
 unfold An at Z f;simp?[h1,f];obtain⟨g1,Y8⟩:∃g1,g1=g.set v (An P ed (tr+1) hN dN ZS ZR gN):=⟨_,rfl⟩;have UE:=Y8;unfold An at UE;rw[<-Y8]at y r T V;rw[<-UE]at Z f ⊢;have ai:=aS.mp ha;have bi:=aS.mp hb;have Wx:=t.ws;have YT:=t.ds;refine cR t ha ?_;simp?[f];refine cR t hb ?_;simp?;refine xc (a:=a) (b:=b) () () λgs n hn E=>?_
 have bl:=qe (a:=a) (b:=b) () ()
 let⟨hk,I,UH⟩:=y.at.YH;obtain⟨cs,L⟩:∃cs,cs=Kx H a b i:=⟨_,rfl⟩;have cl:cs.length=(Bd a b).length:=by rw[L,Kx,Yj]
 rw[<-L]at h A;simp?[E];have F:(g1++[Z6.ZV []])[g1.length]?=some (.ZV (Kj Aa (Ac (Chg H (cs.take 0))) (Kw (cs.take 0)))):=ah;have nl:n≠g1.length:=by
  rintro rfl;rw[aa F]at E;cases E
 refine aB ((Bd a b).map uP) (λk Y g'=>∃Ks o2,g'=((g1++[Z6.ZV []])++gs).set g1.length (.ZV (Kj Aa (Ac (Chg H (cs.take k))) (Kw (cs.take k))))/\Y=[some (.ref v),some (uP a),some (uP b),some (.int i),some (.ref g1.length),Ks,o2]) (λk Y g' ⟨_,_,e,_⟩=>by rw[e];exact aF (cO (Ne.symm nl) E)) ⟨_,_,?_,rfl⟩ (λk u Y g' hk J=>?_) (λY g' J=>?_)
 .exact List.ext_getElem? λk=>by
   rw[List.getElem?_set];split
   .rename_i z
    subst z;rw[aa F,Xg #[3]]
   .rfl
 .simp only [Y0,Ym]at hk
  let⟨p,C,rfl⟩:=hk;let⟨Ks,o2,rfl,rfl⟩:=J;have hc:cs[k]?=some (p,H p+i):=by rw[L,Kx,Y0,C];rfl
  have R:=A _ (XG hc);have et:cs.take (k+1)=cs.take k++[(p,H p+i)]:=by rw[VQ,hc];rfl
  have kl:=(cJ (cs.take k)).2.1;have lt:=y.lt;have G:(((g1++[Z6.ZV []])++gs).set g1.length (.ZV (Kj Aa (Ac (Chg H (cs.take k))) (Kw (cs.take k)))))[v]?=_:=cO (Ne.symm (HC lt.1)) (aa (aa f));have h2:(((g1++[Z6.ZV []])++gs).set g1.length (.ZV (Kj Aa (Ac (Chg H (cs.take k))) (Kw (cs.take k)))))[hN]?=_:=cO (Ne.symm (HC lt.2.1)) (aa (aa I));have VN:Al (.Z1 [.int p.1,.int p.2]) (.ref hN) (((g1++[Z6.ZV []])++gs).set g1.length (.ZV (Kj Aa (Ac (Chg H (cs.take k))) (Kw (cs.take k)))))=some (some (.int (H p))):=by rw[aE h2 aq,UH p R.1]
  have sb:∀Y,subAt (.ref g1.length) (.Z1 [.int p.1,.int p.2]) (.int (H p+i)) Y (((g1++[Z6.ZV []])++gs).set g1.length (.ZV (Kj Aa (Ac (Chg H (cs.take k))) (Kw (cs.take k)))))=.ok (.nx Y) (((g1++[Z6.ZV []])++gs).set g1.length (.ZV (Kj Aa (Ac (Chg H (cs.take (k+1)))) (Kw (cs.take (k+1)))))):=λY=>by
   rw[aT (aj (aa F)) aq (by simp![Kj,Yj];rw[Vl]at kl;lia),pP,List.set_set,et]
  simp?[G,VN,id];refine fh R.2.1 R.2.2 ?_;simp?[sb];exact⟨_,_,rfl⟩
 let⟨Ks,o2,rfl,rfl⟩:=J;rw[show cs.take ((Bd a b).map uP).length=cs by rw[Yj,<-cl,VU]]
 have lt:=y.lt;have K:=(Yh.mp T).1;have ult:=(Yh.mp V).1;have ks:=cJ cs;obtain⟨g2,W⟩:∃g2,g2=((g1++[Z6.ZV []])++gs).set g1.length (.ZV (Kj Aa (Ac (Chg H cs)) (Kw cs))):=⟨_,rfl⟩;have e2:g2[g1.length]?=some (.ZV (Kj Aa (Ac (Chg H cs)) (Kw cs))):=by rw[W];exact aj (aa F)
 have j:ZK [g1.length] g1 g2:=by rw[W];exact(ZK.app.trans ZK.app).trans (ZK.set #[3])
 rw[<-W];have nn:g1.length ∉ [v,hN,dN,gN]:=by simp[Ne.symm (HC lt.1),Ne.symm (HC lt.2.1),Ne.symm (HC lt.2.2.1),Ne.symm (HC lt.2.2.2)]
 have L2:=y.kp j (by simp[HC lt.1]) (by simp[HC lt.2.1]) (by simp[HC lt.2.2.1]) (by simp[HC lt.2.2.2])
 have nd:Ja (.ref g1.length) g2=some (Kj Aa (Ac (Chg H cs)) (Kw cs)):=by simp![Ja,e2]
 have G:=j.get _ _ (by simp[HC lt.1]) f
 have l2:=j.len;have gl:∀p∈Kw cs,Ae P p=true /\ -1000<=Chg H cs p/\Chg H cs p<=1000:=λp C=>by
  let⟨c,hc,rfl⟩:=(ks.2.2 p).mp C;exact⟨(A c hc).1,rn (λc hc=>(A c hc).2) _ C⟩
 simp?[G];refine oB (d:=d) t L2 he hB hH gl (by have:=ks.2.1;lia) ks.1 nd (j.get _ _ (by simp[HC K]) T) dl (j.get _ _ (by simp[HC ult]) V) nn λw xs g' oN L6 K6 D6 UD UC lw ew=>?_
 rw[sT]at L6;have D2:KD [v,hN,dN,gN] g1 g2:=λk D hk e=>by
  refine j.kd k D ?_ e;simp![XM];rintro rfl;simp![Ja,List.getElem?_eq_none (Hz g1.length)]at e;cases e
 refine h w xs g' oN g1.length L6 ⟨Hx (by lia) K6.len,λk o hk e=>?_⟩ (((r.sub #[3]).kd.trans D2).trans D6) UD UC (by lia) ew
 have WB:=(Yh.mp e).1;have kn:k≠g1.length:=by lia
 refine K6.get k o (λz=>?_) (j.get k o (by simp[kn]) (r.get k o (λz=>hk (by simp at z;simp[z])) e))
 have z:k∈[v,hN,dN,ZS,ZR,gN]++[g1.length]:=z;rcases Vm.mp z with z|z
 .exact hk z
 .exact kn (XM.mp z)
def fk(h:Q (.bl true) g):JE M (d+1) 40 [.int i] g X Q:=by
 simp? only[EC]
 simp?;exact h
def bX(n:Nat):∀(D:Dt) (u v:U) (Q:U->G->Prop),D.ok n->Rep g D u->Rep g D v->Q (.bl true) g->JE M (d+n+1) 41 [u,v] g X Q:=by
 induction n with
 |zero=>intro D u v Q E;exact E.elim
 |succ n ih=>
  intro D u v Q E r j h;refine(so (d:=d+(n+1)) #[2] #[2]).2 ?_
  simp![EO];have list:∀(ds:List Dt) (O vs:List U),(∀D∈ds,D.ok n)->Reps g ds O->Reps g ds vs->items u g=some O->items v g=some vs ->∀N:Fl->G->Prop,(∀Y,N (.nx Y) g)->JM M (d+(n+1)) (.nm 2) (.Y7 0 (vs.length:Int).toNat) 0 [.ZE (.not (.call 41 [.idx (.L 0) (.L 2),.idx (.L 1) (.L 2)])) [.ret (.Z3 (.bl false))] []] [some u,some v,none] g X N:=λds O vs C c f W V N H=>by
   refine bz ((J4 (vs.length:Int)).map U.int) (λk Y g'=>g'=g /\∃o,Y=[some u,some v,o]) (λk Y g' _=>aV) (λk w Y g' hk I=>?_) (λY g' I=>by rw[I.1];exact H Y) _ 0 _ _ (VM _) ⟨rfl,none,rfl⟩
   let⟨rfl,o,rfl⟩:=I;simp![Y0,Ym]at hk;let⟨i,hi,rfl⟩:=hk;have VZ:=eM.mp (XG hi);have y:=c.length;have t:=f.length;have J:ds[i.toNat]?=some ds[i.toNat]:=Ww ()
   let⟨a,ea,T⟩:=c.get J;let⟨b,Z,R⟩:=f.get J;have P:Je O i=some a:=by rw[dt VZ.1 (by lia),ea]
   have Kc:Je vs i=some b:=by rw[dt VZ.1 (by lia),Z]
   simp![↓kX,↓kB,↓j6,↓dy,↓fc,↓nD,↓cZ,↓uJ,↓u6,↓vc,↓uQ,↓lO,↓mX,↓uB,↓vf,↓lx,↓uk,↓l9,↓t9,↓nA,↓nz,↓gj,↓gi,↓gL,↓il,↓gx,↓gC,↓tH,↓vn,↓TH,↓vq,↓nF,↓k_E,↓nB,↓vm,↓nv,↓mf,↓lI,↓sj,↓gH,↓gz,↓gv,↓mv,↓nG,↓hU,↓gf,↓kZ,↓sG,↓jn,↓kq,↓kD,↓gT,↓jD,↓lV,↓mP,↓nH,↓u4,↓lK,↓jv,↓mZ,↓jr,↓my,↓kO,↓lG,↓jz,↓lW,↓sZ,↓jc,↓jZ,↓iF,↓kP,↓kA,↓mH,↓jX,↓km,↓jd,↓m8,↓rM,↓gM,↓iH,↓lB,↓gG,↓j3,↓j5,↓lT,↓kj,↓iN,↓j9,↓jh,↓ko,↓jP,↓tw,↓iY,↓ka,↓jF,↓tL,↓iU,↓kJ,↓t6,↓iS,↓kQ,↓kI,↓ly,↓ki,↓tN,↓iG,↓jo,↓lA,↓iy,↓t5,↓jV,↓jL,↓la,↓lZ,↓ni,↓iJ,↓lS,↓nj,↓gD,↓lH,↓lP,↓lL,↓kU,↓ik,↓mr,↓jO,↓jm,↓iq,↓i0,↓pO,↓gm,↓uM,↓iO,↓sE,↓tj,↓gA,↓tX,↓tO,↓sC,↓sQ,↓t8,↓tZ,↓rO,↓lN,↓gR,↓kE,↓gI,↓kN,↓jY,↓gW,↓qT,↓gy,↓iP,↓iQ,↓jU,↓jG,↓hJ,↓rJ,↓gF,↓qY,↓hV,↓sy,↓i6,↓lR,↓jW,↓gr,↓u7,↓jT,↓rH,↓tV,↓sN,↓tK,↓kK,↓ud,↓rY,↓gQ,↓gJ,↓rQ,↓rA,↓hX,↓iD,↓kR,↓sL,↓jK,↓mU,↓jl,↓jR,↓iM,↓jk,↓jx,↓je,↓js,↓ie,↓lU,↓j0,↓mz,↓iT,↓ju,↓iE,↓uc,↓iC,↓iL,↓jq,↓gK,↓kH,↓jQ,↓nh,↓jC,↓ng,↓l0,↓lM,↓lE,↓lX,↓lj,↓j2,↓iK,↓jf,↓ic,↓jN,↓iV,↓jJ,↓jw,↓hY,↓jB,↓kc,↓jg,↓iz,↓kL,↓ig,↓jt,↓kr,↓lD,↓lJ,↓kY,↓mQ,↓l7,↓m9,↓j1,↓lr,↓mV,↓lg,↓gh,↓lz,↓nC,↓kT,↓lY,↓lQ,↓lC,↓ls,↓iR,↓mR,↓jb,↓ij,↓jy,↓nq,↓m7,↓mi,↓ma,↓k8,↓j7,↓jS,↓kG,↓k7,↓ja,↓ky,↓me,↓mq,↓k9,↓mD,↓lF,↓mG,↓mw,perm,pick,AO,UK,BD,BB,A8,Ce,XN,List.lookup_nil,Nat.reduceBEq,Rz,List.contains_nil,BE,List.getElem?_cons_zero,Tv,XI,Ur,List.set_cons_zero,List.set_cons_succ,Y3,SG,List.replicate_succ,List.replicate_zero,Sm,Sx,VM,Nat.reduceAdd,Nat.reduceSub,Nat.reduceLT,Nat.reduceLeDiff,Nat.reduceEqDiff,Nat.lt_add_left_iff_pos,Jn,Ah,bindL,Vy,VC,ite_true,ite_false,and_true,true_and,Option.getD_some,eX,eU,t7,rq,qV,rR,u5,uv,uD,vb,sM,qm,uW,vw,uj,cin,vk,vg,r8,Bool.or_false,Bool.or_true,Bool.true_or,Qi,clt,cle,cgt,cge,Gp,Jd,B8,Br,Jk,AE,lift,Jj,C5,DK,Cr,alloc,AF,fY,Ag,uy,va,uZ,uA,uS,uY,AI,CB,Wo,Int.reduceLT,Int.reduceLE,Int.reduceNeg,Int.reduceEq,decide_true,decide_false,Rg,Bool.not_false,Qk,Rh,Bool.and_self,Xh,eq_self,W,V,P,Kc];refine ih _ a b _ (C _ (XG J)) T R ?_;simp?;exact⟨_,rfl⟩
  cases D with
  |ZN=>cases r;cases j;simp?;exact h
  |bl b=>cases r;cases j;simp?;cases b<;>exact h
  |int i=>
   cases r;cases j;simp?;refine fk (d:=d+n) ?_;simp?;simpa using h
  |str s=>cases r;cases j;simp?;simpa using h
  |Z1 ds=>
   let⟨O,rfl,c⟩:=r;let⟨vs,rfl,f⟩:=j;have y:=c.length;have t:=f.length;let⟨z,C⟩:=Dt.TF.mp E;have K:(O.length:Int)=vs.length:=by lia
   have F:Aj (vs.length:Int)=true:=ar (by lia) (by lia)
   simp?[K,F];refine list ds O vs C c f rfl rfl _ λY=>?_;simp?;exact h
  |S ds=>
   let⟨n1,O,rfl,B,c⟩:=r;let⟨n2,vs,rfl,A,f⟩:=j;have y:=c.length;have t:=f.length;let⟨z,C⟩:=Dt.T5.mp E;have K:(O.length:Int)=vs.length:=by omega
   have F:Aj (vs.length:Int)=true:=ar () ()
   simp?[K,F,B,A];refine list ds O vs C c f (by simp![items,B]) (by simp![items,A]) _ λY=>?_
   simp?;exact h
def wO(ns:List Int)(h:∀zs:List Int,Q (.ref 2) [.S (zs.map U.int),.S (zs.map U.int),Bs 1 0 7]):JE M (d+1) 42 [.Zm (ns.map U.int)] [] X Q:=by
 simp? only[E2]
 simp?[CP];have a:Bc (ns.map U.int) none (some 63)=(D1 ns none (some 63)).map U.int:=yZ ns _ _;simp?[a,Bs];exact h _
def aA{m:Int}(O:Bag g)(j:0<m)(N:m<1000000000000)(h:∀(r:Int) (g':G),0<=r->r<m->Fr g g'->Q (.int r) g'):JE M (d+1) 43 [.ref 2,.int m] g X Q:=by
 let⟨xs,at_,C,h1,h2⟩:=O;have l1:1<g.length:=(Yh.mp h1).1;have S:2<g.length:=(Yh.mp h2).1;have c:m<Au:=by unfold Au;lia
 have o:(2147483647:Int)<Au:=by decide
 have k:(64:Int)<Au:=by decide
 have J:small 48271:=cb #[1]
 have I:small 9973:=cb #[1]
 have s3:small 31:=cb #[1]
 have s4:small 69621:=cb #[1]
 simp? only[EJ]
 simp?[h1,h2,Bs];have R:∀a:Int,0<=a -> ¬ 1000000000000000000<=a->wpS M d [(.ZE (.cmp .ge (.L 4) (.ZW .pow (.Z3 (.int 10)) (.Z3 (.int 18)))) [(.sub (.L 2) (.ZW .mod (.L 3) (.bi .len [(.L 2)])) (.ZW .fdiv (.L 4) (.L 1))),(.ret (.ZW .mod (.L 4) (.L 1)))] []),(.sub (.L 0) (.Z3 (.int 1)) (.ZW .add (.L 3) (.Z3 (.int 1)))),(.sub (.L 0) (.Z3 (.int 2)) (.ZW .mod (.ZW .add (.ZW .add (.ZW .add (.ZW .mul (.idx (.L 0) (.Z3 (.int 2))) (.Z3 (.int 48271))) (.ZW .mul (.L 4) (.Z3 (.int 9973)))) (.ZW .mul (.L 3) (.Z3 (.int 31)))) (.Z3 (.int 11))) (.Z3 (.int 2147483647)))),(.ret (.ZW .mod (.ZW .fdiv (.ZW .mod (.ZW .mul (.idx (.L 0) (.Z3 (.int 2))) (.Z3 (.int 69621))) (.Z3 (.int 2147483629))) (.Z3 (.int 64))) (.L 1)))] [some (.ref 2),some (.int m),some (.ref 1),some (.int at_),some (.int a)] g X λw g=>JS w (lk λu=>Q u g):=λa A y=>by
  have F:=aj (o':=Bs 1 (at_+1) C) h2;have t:=aj (o':=Bs 1 (at_+1) ((C*48271+a*9973+at_*31+11) % 2147483647)) F;have P : ¬ a<0:=by lia
  simp?[h1,h2,qo,P,y,fE h2 (show(0:Int)<=1 by decide) #[3],J,I,s3,s4,j,c,o,k,show(1:Int).toNat=1 from rfl,F]
  simp?[fE F (show(0:Int)<=2 by decide) #[3],J,I,s3,s4,j,c,o,k,show(2:Int).toNat=2 from rfl,t]
  exact h _ _ (Qe _ (by lia)) (RB _ j) ((Fr.T4 ⟨xs,at_,C,h1,h2⟩ _ _).trans (Fr.T4 (Fr.T4 ⟨xs,at_,C,h1,h2⟩ _ _).Zo _ _))
 have B:∀a:Int,0<xs.length->1000000000000000000<=a->wpS M d [(.ZE (.cmp .ge (.L 4) (.ZW .pow (.Z3 (.int 10)) (.Z3 (.int 18)))) [(.sub (.L 2) (.ZW .mod (.L 3) (.bi .len [(.L 2)])) (.ZW .fdiv (.L 4) (.L 1))),(.ret (.ZW .mod (.L 4) (.L 1)))] []),(.sub (.L 0) (.Z3 (.int 1)) (.ZW .add (.L 3) (.Z3 (.int 1)))),(.sub (.L 0) (.Z3 (.int 2)) (.ZW .mod (.ZW .add (.ZW .add (.ZW .add (.ZW .mul (.idx (.L 0) (.Z3 (.int 2))) (.Z3 (.int 48271))) (.ZW .mul (.L 4) (.Z3 (.int 9973)))) (.ZW .mul (.L 3) (.Z3 (.int 31)))) (.Z3 (.int 11))) (.Z3 (.int 2147483647)))),(.ret (.ZW .mod (.ZW .fdiv (.ZW .mod (.ZW .mul (.idx (.L 0) (.Z3 (.int 2))) (.Z3 (.int 69621))) (.Z3 (.int 2147483629))) (.Z3 (.int 64))) (.L 1)))] [some (.ref 2),some (.int m),some (.ref 1),some (.int at_),some (.int a)] g X λw g=>JS w (lk λu=>Q u g):=λa A y=>by
  have ce:=yU (at_:=at_) A;have cl:(0:Int)<xs.length:=by lia
  let⟨m1,K⟩:=iA (at_:=at_) A;simp?[h1,h2,qo,y,Yj,cl,j,c,fE h1 m1 (by simpa using K),<-List.map_set]
  exact h _ _ (Qe _ (by lia)) (RB _ j) (Fr.set1 ⟨xs,at_,C,h1,h2⟩ _)
 have H:∀a:Int,(1000000000000000000<=a->0<xs.length)->0<=a->wpS M d [(.ZE (.cmp .ge (.L 4) (.ZW .pow (.Z3 (.int 10)) (.Z3 (.int 18)))) [(.sub (.L 2) (.ZW .mod (.L 3) (.bi .len [(.L 2)])) (.ZW .fdiv (.L 4) (.L 1))),(.ret (.ZW .mod (.L 4) (.L 1)))] []),(.sub (.L 0) (.Z3 (.int 1)) (.ZW .add (.L 3) (.Z3 (.int 1)))),(.sub (.L 0) (.Z3 (.int 2)) (.ZW .mod (.ZW .add (.ZW .add (.ZW .add (.ZW .mul (.idx (.L 0) (.Z3 (.int 2))) (.Z3 (.int 48271))) (.ZW .mul (.L 4) (.Z3 (.int 9973)))) (.ZW .mul (.L 3) (.Z3 (.int 31)))) (.Z3 (.int 11))) (.Z3 (.int 2147483647)))),(.ret (.ZW .mod (.ZW .fdiv (.ZW .mod (.ZW .mul (.idx (.L 0) (.Z3 (.int 2))) (.Z3 (.int 69621))) (.Z3 (.int 2147483629))) (.Z3 (.int 64))) (.L 1)))] [some (.ref 2),some (.int m),some (.ref 1),some (.int at_),some (.int a)] g X λw g=>JS w (lk λu=>Q u g):=λa A y=>by
  by_cases E:1000000000000000000<=a
  .exact B a (A E) E
  .exact R a y E
 refine av (λf=>?_) λf=>?_
 .have f:0<xs.length:=by simpa using f
  have cl:(0:Int)<xs.length:=by lia
  simp?[h1,Yj,cl,yG f];refine av (λD=>?_) λD=>?_
  .have z:=H (1-C0 xs at_) (λ_=>f) (by simp![Xh]at D;lia)
   simp?[eq_self]at z ⊢;exact z
  .have z:=H (C0 xs at_) (λ_=>f) (by simp![R0]at D;lia)
   simp?[eq_self]at z ⊢;exact z
 .have z:=H 0 (λz=>absurd z #[1]) #[1]
  simp?[eq_self]at z ⊢;exact z
def vL(c:P.ok)(h:Bt g ((Ad P).map uP) Q):JE M (d+1) 44 [Zp P] g X Q:=by
 have h0:=c.s0;have h1:=c.ss;have hw:=c.ws;have hd:=c.ds;have p:Aj (P.w*P.s+1)=true:=ar (by lia) (by lia)
 have r2:Aj (P.d*P.s+1)=true:=ar (by lia) (by lia)
 have q:=bW c;simp? only[EA]
 simp?[*];refine bz ((J4 (P.w*P.s+1)).map U.int) (λk Y g'=>(∃Ks o2,Y=[some (Zp P),some (.ref g.length),Ks,o2])/\g'=g++[.S ((((J4 (P.w*P.s+1)).take k).flatMap λx=>(J4 (P.d*P.s+1)).map λy=>((x,y):Pt)).map uP)]) (λk Y g' _=>aV) (λk u Y g' hk b=>?_) (λY g' b=>?_) _ 0 _ _ (VM _) ⟨⟨none,none,rfl⟩,rfl⟩
 .obtain ⟨⟨Ks,o2,rfl⟩,rfl⟩:=b
  simp![Y0,Ym]at hk;let⟨x,n,rfl⟩:=hk;simp?[*];refine bz ((J4 (P.d*P.s+1)).map U.int) (λj Y g'=>(∃o2,Y=[some (Zp P),some (.ref g.length),some (.int x),o2])/\g'=g++[.S (((((J4 (P.w*P.s+1)).take k).flatMap λx=>(J4 (P.d*P.s+1)).map λy=>((x,y):Pt))++(((J4 (P.d*P.s+1)).take j).map λy=>((x,y):Pt))).map uP)]) (λk Y g' _=>aV) (λj u Y g' i b=>?_) (λY g' b=>?_) _ 0 _ _ (VM _) ⟨⟨o2,rfl⟩,by simp⟩
  .obtain ⟨⟨o2,rfl⟩,rfl⟩:=b
   simp![Y0,Ym]at i;let⟨y,m,rfl⟩:=i;have t:=List.length_take_le k (J4 (P.w*P.s+1));have e:((((J4 (P.w*P.s+1)).take k).flatMap λx=>(J4 (P.d*P.s+1)).map λy=>((x,y):Pt))++(((J4 (P.d*P.s+1)).take j).map λy=>((x,y):Pt))).length<=700:=by
    have a1:=a9 (f:=λx=>(J4 (P.d*P.s+1)).map λy=>((x,y):Pt)) (B:=25) (l:=(J4 (P.w*P.s+1)).take k) λa _=>by simp[au];lia
    have o:((J4 (P.w*P.s+1)).take k).length<=25:=by rw[Vl,au];lia
    have r:=Tf 25 o;rw[Xs,Yj,Vl,au];lia
   simp?[ah,ot (show(List.map uP ((((J4 (P.w*P.s+1)).take k).flatMap λx=>(J4 (P.d*P.s+1)).map λy=>((x,y):Pt))++(((J4 (P.d*P.s+1)).take j).map λy=>((x,y):Pt)))).length<16777000 by rw[Yj];lia)]
   refine⟨⟨_,rfl⟩,?_⟩;rw[VQ,m];simp
  .obtain ⟨⟨o2,rfl⟩,rfl⟩:=b
   simp?;refine⟨⟨_,_,rfl⟩,?_⟩;rw[VQ,n];simp
 .obtain ⟨⟨Ks,o2,rfl⟩,rfl⟩:=b
  simp?;refine h _ _ (Hz _) ?_;simp[Ad]
def fI(a:P.ok)(h:Q (.bl (Ae P p)) g):JE M (d+1) 45 [Zp P,uP p] g X Q:=by
 have h1:=a.ss;simp? only[E6]
 simp?[h1];unfold Ae at h
 (repeat' (refine av (λ_=>?_) (λ_=>?_)<;>(try simp?[adh, *])))
 all_goals simp_all
def n8{k:Int}(c:Bag g)(h:∀(v:Int) (g':G),-1000<=v->v<=1000->Fr g g'->Q (.int v) g'):JE M (d+2) 46 [.ref 2,.int k] g X Q:=by
 simp? only[EU];simp?
 refine av (λA=>?_) λA=>?_
 .simp?
  refine aA c.app #[1] #[1] λr g1 o j a=>?_
  have D:g1[g.length]?=some (.S (([0,0,0,0,0,7,-5]:List Int).map U.int)):=a.get _ _ (by have:=c.len;lia) ah
  let⟨v,B,C⟩:=eL (l:=([0,0,0,0,0,7,-5]:List Int)) (f:=U.int) o (by exact j)
  have t : -1000<=v/\v<=1000:=by
   simp![YG,Xy,VD]at B;lia
  have E:Je [U.int 0,U.int 0,U.int 0,U.int 0,U.int 0,U.int 7,U.int (-5)] r=some (.int v):=C;simp?[D,E];exact h v g1 t.1 t.2 (Fr.trans (Fr.app c) a)
 .simp?
  refine av (λz=>?_) λz=>?_
  .simp?
   refine aA c #[1] #[1] λr g1 o j a=>?_
   simp?;exact h _ g1 (by lia) (by lia) a
  .simp?
   refine av (λy=>?_) λy=>?_
   .simp?
    refine aA c #[1] #[1] λr g1 o j a=>?_
    simp?;exact h _ g1 (by lia) (by lia) a
   .simp?
    refine av (λw=>?_) λw=>?_
    .simp?
     refine aA c #[1] #[1] λr g1 o j a=>?_
     have u:small 2000:=⟨by decide,by decide⟩
     simp?[u];exact h (r*2000-1000) g1 (by lia) (by lia) a
    .simp?
     exact h 0 g #[1] #[1] (Fr.refl c)
def ox{k:Nat}(h:(Ad P)[k]?=some p):p ∉ (Ad P).take k:=by
 intro d;have c:=nJ P;let⟨hk,e⟩:=Yh.mp h;let⟨j,f,b⟩:=List.mem_iff_getElem.mp d;rw[List.getElem_take]at b;have a:j<k:=by rw[Vl]at f;lia
 have:=List.pairwise_iff_getElem.mp c j k (by lia) hk a
 rw[b,e]at this;exact rF this
def vH(I:P.ok)(hb:Bag g)(h:∀(H:Ht) (m:Nat) (g':G),Kr P H->Fr g g'->g.length<=m->g'[m]?=some (.ZV (Kj Aa (λp=>.int (H p)) (Ad P)))->Q (.ref m) g'):JE M (d+3) 47 [.ref 2,Zp P] g X Q:=by
 have hl:=bW I;have Wx:=I.ws;have YT:=I.ds;simp? only[Eu]
 simp?;refine aA hb #[1] #[1] λkd g1 k0 k1 f1=>?_
 simp?;refine aA f1.Zo #[1] #[1] λN g2 a0 a1 f2=>?_
 simp?;refine aA f2.Zo #[1] #[1] λL g3 b0 b1 f3=>?_
 have O:Fr g g3:=(f1.trans f2).trans f3;have T:=O.len;have b3:=hb.len;simp?;refine vL I λgs n hn e=>?_;have F4:Fr g (g3++[Z6.ZV []]++gs):=(O.trans (Fr.app O.Zo)).trans (Fr.app O.Zo.app);have Zy:g3.length<n:=by simp at hn;lia
 simp?[e];refine aB ((Ad P).map uP) (λk Y g'=>∃(H:Ht) (o:Option U),Fr g g'/\g'[n]?=some (.S ((Ad P).map uP))/\g'[g3.length]?=some (.ZV (Kj Aa (λp=>.int (H p)) ((Ad P).take k)))/\(∀p,-1000<=H p/\H p<=1000)/\Y=[some (.ref 2),some (Zp P),some (.int kd),some (.int (N-20)),some (.int (L-20)),some (.ref g3.length),o]) (λk Y g' C=>?_) ⟨λ_=>0,none,F4,e,?_,λ_=>(by decide:(-1000:Int)<=0/\(0:Int)<=1000),rfl⟩ (λk u Y g' hk C=>?_) (λY g' C=>?_)
 .obtain ⟨H,o,_,e,_⟩:=C
  exact aF e
 .exact aa (by simp[Kj])
 .obtain ⟨H,o,fr,el,ed,J,rfl⟩:=C
  simp![Y0,Ym]at hk;let⟨p,F,rfl⟩:=hk;have YK:=aS.mp (aI.mp (XG F));have WB:k<(Ad P).length:=(Yh.mp F).1;have new:=ox F;have et:(Ad P).take (k+1)=(Ad P).take k++[p]:=by rw[VQ,F];rfl
  simp?;refine n8 fr.Zo λv g5 v0 v1 W=>?_;have j:=W.get _ _ (by lia) ed
  have D:=W.get _ _ (by lia) el
  have ln:(Kj Aa (λp=>U.int (H p)) ((Ad P).take k)).length<16777000:=by simp![Kj,Yj,Vl];lia
  have sb:∀Y,subAt (.ref g3.length) (.Z1 [.int p.1,.int p.2]) (.int v) Y g5=.ok (.nx Y) (g5.set g3.length (.ZV (Kj Aa (λq=>.int (if q=p then v else H q)) ((Ad P).take (k+1))))):=λY=>by
   rw[aT j aq ln,et,cX (λa b=>aw) new];congr 4;funext q;split<;>rfl
  have U5:=fr.trans W;have t:Fr g (g5.set g3.length (.ZV (Kj Aa (λq=>.int (if q=p then v else H q)) ((Ad P).take (k+1))))):=Fr.VO U5 T (by lia)
  have H6:∀q,-1000<=(if q=p then v else H q)/\(if q=p then v else H q)<=1000:=λq=>by
   split
   .exact ⟨v0,v1⟩
   .exact J q
  simp?[sb];refine av (λc5=>?_) λc5=>?_
  .have z1:small (N-20):=aK (by lia) (by lia)
   have z2:small (L-20):=aK (by lia) (by lia)
   simp?[z1,z2];generalize UB:List.set g5 g3.length (Z6.ZV (Kj Aa (λq=>.int (if q=p then v else H q)) ((Ad P).take (k+1))))=g6 at t
   have ed6:g6[g3.length]?=some (Z6.ZV (Kj Aa (λq=>.int (if q=p then v else H q)) ((Ad P).take (k+1)))):=by rw[<-UB];exact aj j
   have el6:g6[n]?=some (.S ((Ad P).map uP)):=by rw[<-UB,Xb (by lia)];exact D
   refine aA t.Zo.app #[1] #[1] λr V r0 r1 K=>?_
   have e7:V[g6.length]?=some (.S (([0,0,0,1]:List Int).map U.int)):=K.get _ _ (by have:=t.len;lia) ah
   let⟨w,hw,hu⟩:=eL (l:=([0,0,0,1]:List Int)) (f:=U.int) r0 (by exact r1)
   have hr:0<=w/\w<=1:=by
    simp![YG,Xy,VD]at hw;lia
   have VL:Je [U.int 0,U.int 0,U.int 0,U.int 1] r=some (.int w):=hu;have E:=K.get _ _ (by lia) (aa (gs:=[.S [.int 0,.int 0,.int 0,.int 1]]) ed6)
   have Z:=K.get _ _ (by lia) (aa (gs:=[.S [.int 0,.int 0,.int 0,.int 1]]) el6)
   have R:(Kj Aa (λq=>U.int (if q=p then v else H q)) ((Ad P).take (k+1))).length<16777000:=by simp![Kj,Yj,Vl];lia
   obtain⟨v',z⟩:∃v',v'=(N-20)*p.1+(L-20)*p.2+w:=⟨_,rfl⟩;have bv : -1000<=v'/\v'<=1000:=by
    have q1:=sS (a:=N-20) (b:=p.1) (A:=20) (B:=24) (by lia) (by lia)
    have q2:=sS (a:=L-20) (b:=p.2) (A:=20) (B:=24) (by lia) (by lia)
    omega
   have y:∀Y,subAt (.ref g3.length) (.Z1 [.int p.1,.int p.2]) (.int v') Y V=.ok (.nx Y) (V.set g3.length (.ZV (Kj Aa (λq=>.int (if q=p then v' else H q)) ((Ad P).take (k+1))))):=λY=>by
    rw[aT E aq R,d9 (λa b=>aw) (by rw[et];simp)]
    congr 4;funext q;by_cases c:q=p<;>simp[c]
   rw[z]at y;simp?[e7,VL,y];rw[<-z];refine⟨_,_,Fr.VO ((t.trans (Fr.app t.Zo)).trans K) T (by lia),?_,aj E,λq=>?_,rfl⟩
   .rw [Xb (by lia)];exact Z
   .split
    .exact bv
    .exact J q
  .simp?
   refine⟨_,_,t,?_,aj j,H6,rfl⟩;rw[Xb ()];exact D
 .obtain ⟨H,o,fr,el,ed,J,rfl⟩:=C
  simp?;rw[Yj,VU]at ed;exact h H _ g' (λp _=>J p) fr T ed
def nV(t:P.ok)(I:Ja u g=some Z4)(J:∀p,Ae P p=true->Am Z4 (Aa p)=some (.int (H p)))(h:∀(gs:G) (n:Nat),RowsAt (g++gs) n P H->Q (.ref n) (g++gs)):JE M (d+1) 48 [Zp P,u] g X Q:=by
 have s1:=t.ss;have V:=t.ws;have T:=t.ds;have B:Aj (P.w*P.s+1)=true:=ar () ()
 have r2:Aj (P.d*P.s+1)=true:=ar () ()
 simp? only[EL]
 simp?[s1,r2];refine aB ((J4 (P.d*P.s+1)).map U.int) (λk Y g'=>∃(ms:List Nat) (gs:G) (o:Option U),g'=g ++ .S (ms.map U.ref)::gs/\ms.length=k/\(∀(y m:Nat),ms[y]?=some m->g.length<m/\g'[m]?=some (.S ((J4 (P.w*P.s+1)).map λx=>.int (H (x,(y:Int))))))/\Y=[some (Zp P),some u,some (.ref g.length),o]) (λk Y g' _=>aV) ⟨[],[],_,rfl,rfl,λy m e=>by simp at e,rfl⟩ (λk O Y g' A z=>?_) (λY g' z=>?_)
 .obtain ⟨ms,gs,o,rfl,a,r,rfl⟩:=z
  simp![Y0,Ym]at A;let⟨y,D,rfl⟩:=A;let⟨rfl,C⟩:=di D;simp?[aU,s1,B];refine bR (J4 (P.w*P.s+1)) U.int (λ_=>true) (λx=>.int (H (x,(k:Int)))) (λg'=>g'=g ++ .S (ms.map U.ref)::gs) ((J4 (P.w*P.s+1)).map λx=>.int (H (x,(k:Int)))) (by rw[cw]) (λk g' _=>aV) (λx F=>?_) (by rw[au];lia) rfl ?_
  .have E:=eM.mp F
   have N:Al (.Z1 [.int x,.int (k:Int)]) u (g ++ .S (ms.map U.ref)::gs)=some (some (.int (H (x,(k:Int))))):=by
    rw[pZ (c9 I) aq,J (x,(k:Int)) (bD ⟨by lia,by lia,by lia,by lia⟩)]
   simp?;rintro g' rfl;simp?[N,id]
  .rintro g' rfl
   have ap:A9 g.length (.ref (g++Z6.S (ms.map U.ref)::gs).length) (g++Z6.S (ms.map U.ref)::gs++[.S ((J4 (P.w*P.s+1)).map λx=>.int (H (x,(k:Int))))])=.ok .ZN (g ++ .S ((ms++[(g++Z6.S (ms.map U.ref)::gs).length]).map U.ref)::(gs++[.S ((J4 (P.w*P.s+1)).map λx=>.int (H (x,(k:Int))))])):=by
    rw[bj (xs:=ms.map U.ref) #[3] (by rw[Yj];lia)]
    simp
   refine⟨by rw[Yj,au];lia,?_⟩
   simp?[ap];refine⟨_,_,_,rfl,by simp[a],λy m e=>?_,rfl⟩
   rcases Qp y ms.length with c|c
   .rw [XD c]at e
    let⟨m1,f⟩:=r y m e;refine⟨m1,?_⟩;have R:m<(g++Z6.S (ms.map U.ref)::gs).length:=(Yh.mp f).1;rw[Xf (by lia)]at f ⊢
    obtain⟨j,K⟩:∃j,m-g.length=j+1:=⟨m-g.length-1,by lia⟩
    rw[K,Tv]at f ⊢;exact aa f
   .have L:y=ms.length:=by
     have:=(Yh.mp e).1;simp at this;lia
    subst L;rw[a];simp at e;subst e;refine⟨by lia,?_⟩
    rw[show g++Z6.S ((ms++[(g++Z6.S (ms.map U.ref)::gs).length]).map U.ref)::(gs++[Z6.S ((J4 (P.w*P.s+1)).map λx=>.int (H (x,(k:Int))))])=(g++Z6.S ((ms++[(g++Z6.S (ms.map U.ref)::gs).length]).map U.ref)::gs)++[Z6.S ((J4 (P.w*P.s+1)).map λx=>.int (H (x,(k:Int))))]by simp]
    rw[Xf #[3]]
    simp
 .obtain ⟨ms,gs,o,rfl,a,r,rfl⟩:=z
  simp?;rw[Yj,au]at a;refine h _ _ ⟨ms,aU,a,λy m e=>(r y m e).2⟩
def vT(a:Bag g)(h:∀(P:Plan) (g':G),P∈B4->Fr g g'->Q (Zp P) g'):JE M (d+2) 49 [.ref 2] g X Q:=by
 simp? only[EF]
 simp?;refine aA a.app #[1] #[1] λr g1 u t c=>?_
 have o:g1[g.length]?=some (.S (B4.map Zp)):=c.get _ _ (by have:=a.len;omega) ah
 let⟨P,k,j⟩:=eL (l:=B4) (f:=Zp) u (by exact t)
 simp?[o,j];exact h P g1 k (Fr.trans (Fr.app a) c)
def dB(a:P.ok)(c:Bag g)(h:∀(q:Pt) (g':G),Ae P q=true->Fr g g'->Q (uP q) g'):JE M (d+2) 50 [.ref 2,Zp P] g X Q:=by
 have h0:=a.s0;have s1:=a.ss;have m:=a.ws;have l:=a.ds;simp? only[ED]
 simp?[s1];refine aA c (by lia) (by lia) λx g1 i k b=>?_
 simp?[s1];refine aA b.Zo (by lia) (by lia) λy g2 f j e=>?_
 simp?;exact h (x,y) g2 (bD ⟨i,by simp![];lia,f,by simp![];lia⟩) (b.trans e)
def Ky(d c f a:Nat)(e b:Int):List (PySem.Str×U):=[(PySem.Str.ofString "heights",.ref d),(PySem.Str.ofString "edition",.int e),(PySem.Str.ofString "tries",.int b),(PySem.Str.ofString "made",.ref c),(PySem.Str.ofString "done",.ref f),(PySem.Str.ofString "undone",.ref a)]
def aJ{a:Nat}(h:g[n]?=some (.dst (Ky hc mk dn a ed tr))):((I9 (.ref n) g).bind λZ4=>A1 Z4 (PySem.Str.ofString "heights"))=some (.ref hc)/\((I9 (.ref n) g).bind λZ4=>A1 Z4 (PySem.Str.ofString "edition"))=some (.int ed)/\((I9 (.ref n) g).bind λZ4=>A1 Z4 (PySem.Str.ofString "tries"))=some (.int tr)/\((I9 (.ref n) g).bind λZ4=>A1 Z4 (PySem.Str.ofString "made"))=some (.ref mk)/\((I9 (.ref n) g).bind λZ4=>A1 Z4 (PySem.Str.ofString "done"))=some (.ref dn)/\((I9 (.ref n) g).bind λZ4=>A1 Z4 (PySem.Str.ofString "undone"))=some (.ref a):=by
 simp![I9,h,UK];exact⟨rfl,rfl,rfl,rfl,rfl,rfl⟩
def wW{a:Nat}:BS (Ky hc mk dn a ed tr) (PySem.Str.ofString "tries") (.int i)=Ky hc mk dn a ed i:=by rfl
def wa{a:Nat}:BS (Ky hc mk dn a ed tr) (PySem.Str.ofString "edition") (.int i)=Ky hc mk dn a i tr:=by rfl
def oA{a:Nat}:BS (Ky hc mk dn a ed tr) (PySem.Str.ofString "undone") (.ref m)=Ky hc mk dn m ed tr:=by rfl
def rS{b:Pt}(d:Ae P a=true)(c:Ae P b=true)(h:p∈Bd a b):Ae P p=true:=by
 have a1:=aS.mp d;have g:=aS.mp c;simp![Bd,Vz,Wa,qA]at h;let⟨x,f,y,e,rfl⟩:=h;exact bD ⟨by simp only;lia,by simp only;lia,by simp only;omega,by simp only;lia⟩
abbrev uC(c:Pt×Int):U:=.Z1 [uP c.1,.int c.2]
def mn2{a:Int}:BA true [.int a,.int b] g=.ok (.int (min a b)) g:=by
 have:best true a [b]=min a b:=by simp![best,Vo,Sn,Vy,VC,XZ];split<;>lia
 rw[<-this]
 rfl
def mx2{a:Int}:BA false [.int a,.int b] g=.ok (.int (max a b)) g:=by
 have:best false a [b]=max a b:=by simp![best,Vo,Sn,Vy,VC,XZ];split<;>lia
 rw[<-this]
 rfl
def oF{b:Pt}{I:Nat}(D:P.ok)(Z8:g[n]?=some (.dst (Ky hc mk dn I ed tr)))(e1:Ja (.ref hc) g=some Z4)(Z:∀p,Ae P p=true->Am Z4 (Aa p)=some (.int (H p)))(C:Ae P a=true)(A:Ae P b=true)
  (h:∀(gs:G) (m:Nat),g.length<=m->(g++gs)[m]?=some (.S ((Kx H a b i).map uC))->Q (.ref m) (g++gs)):JE M (d+1) 53 [.ref n,uP a,uP b,.int i] g X Q:=by
 have a1:=aS.mp C;have b1:=aS.mp A;have Wx:=D.ws;have YT:=D.ds;have L:Aj (min a.1 b.1)=true:=ar () ()
 have r2:Aj (max a.1 b.1+1)=true:=ar () ()
 have K:Aj (min a.2 b.2)=true:=ar () ()
 have J:Aj (max a.2 b.2+1)=true:=ar () ()
 obtain⟨xs,o⟩:∃xs,xs=Ax (min a.1 b.1) (max a.1 b.1+1):=⟨_,rfl⟩;obtain⟨ys,c⟩:∃ys,ys=Ax (min a.2 b.2) (max a.2 b.2+1):=⟨_,rfl⟩;have l1:xs.length<=25:=by rw[o,aW];omega
 have R:ys.length<=25:=by rw[c,aW];lia
 have bx:Bd a b=xs.flatMap λx=>ys.map λy=>(x,y):=by rw[o,c];rfl
 have O:∀{k:Nat} {g:G},next (.Y7 (min a.1 b.1) (max a.1 b.1+1-min a.1 b.1).toNat) k g=some (xs.map U.int)[k]?:=by rw[o];exact cf
 have N:∀{k:Nat} {g:G},next (.Y7 (min a.2 b.2) (max a.2 b.2+1-min a.2 b.2).toNat) k g=some (ys.map U.int)[k]?:=by rw[c];exact cf
 obtain⟨f,s⟩:∃f:Int->List (Pt×Int),f=λx=>ys.map λy=>((x,y),H (x,y)+i):=⟨_,rfl⟩;have E:∀x,(f x).length<=25:=λx=>by rw[s,Yj];exact R
 have t:Kx H a b i=xs.flatMap f:=by rw[Kx,bx,s];simp[Rf,RW]
 simp? only[E1]
 simp?[mn2,mx2,L,r2];refine bz (xs.map U.int) (λk Y g'=>(∃Ks o2,Y=[some (.ref n),some (uP a),some (uP b),some (.int i),some (.ref g.length),Ks,o2])/\g'=g++[.S (((xs.take k).flatMap f).map uC)]) (λk Y g' _=>O) (λk u Y g' hk q=>?_) (λY g' q=>?_) _ 0 _ _ (VM _) ⟨⟨none,none,rfl⟩,rfl⟩
 .obtain ⟨⟨Ks,o2,rfl⟩,rfl⟩:=q
  simp![Y0,Ym]at hk;let⟨x,w,rfl⟩:=hk;have F:x∈xs:=XG w;simp?[mn2,mx2,K,J];refine bz (ys.map U.int) (λj Y g'=>(∃o2,Y=[some (.ref n),some (uP a),some (uP b),some (.int i),some (.ref g.length),some (.int x),o2])/\g'=g++[.S ((((xs.take k).flatMap f)++(f x).take j).map uC)]) (λk Y g' _=>N) (λj u Y g' z q=>?_) (λY g' q=>?_) _ 0 _ _ (VM _) ⟨⟨o2,rfl⟩,by simp⟩
  .obtain ⟨⟨o2,rfl⟩,rfl⟩:=q
   simp![Y0,Ym]at z;let⟨y,v,rfl⟩:=z;have T:Ae P (x,y)=true:=rS C A (by rw[bx];exact Vz.mpr ⟨x,F,Wa.mpr ⟨y,XG v,rfl⟩⟩)
   have r:((((xs.take k).flatMap f)++(f x).take j).map uC).length<16777000:=by
    have c1:=a9 (f:=f) (B:=25) (l:=xs.take k) λx _=>E x;have c2:(xs.take k).length<=25:=by rw[Vl];lia
    have c3:=Tf 25 c2;have c4:=E x;rw[Yj,Xs,Vl];lia
   have M1:=aJ (aa (gs:=[.S ((((xs.take k).flatMap f)++(f x).take j).map uC)]) Z8);have dl:Al (.Z1 [.int x,.int y]) (.ref hc) (g++[.S ((((xs.take k).flatMap f)++(f x).take j).map uC)])=some (some (.int (H (x,y)))):=by
    have e:=c9 (gs:=[.S ((((xs.take k).flatMap f)++(f x).take j).map uC)]) e1;rw[pZ e aq,Z _ T]
   simp?[ah,M1.1,dl,id,ot r];refine⟨⟨_,rfl⟩,?_⟩;have V:(f x)[j]?=some ((x,y),H (x,y)+i):=by rw[s];simp[v]
   rw[VQ,V];simp
  .obtain ⟨⟨o2,rfl⟩,rfl⟩:=q
   simp?;refine⟨⟨_,_,rfl⟩,?_⟩;have W:(f x).take (ys.map U.int).length=f x:=U0 (by rw[Yj,s,Yj];exact Hz _)
   rw[VQ,w,W];simp
 .obtain ⟨⟨Ks,o2,rfl⟩,rfl⟩:=q
  simp?;refine h _ _ (Hz _) ?_;rw[t];simp[U0]
abbrev sW(w:String):U:=.str (PySem.Str.ofString w)
def gq:(PySem.Str.ofString "put" == PySem.Str.ofString "undo")=false/\(PySem.Str.ofString "put" == PySem.Str.ofString "redo")=false/\(PySem.Str.ofString "put" == PySem.Str.ofString "lift")=false:=⟨by decide,by decide,by decide⟩
def bH:(PySem.Str.ofString "edit" == PySem.Str.ofString "undo")=false/\(PySem.Str.ofString "edit" == PySem.Str.ofString "redo")=false/\(PySem.Str.ofString "edit" == PySem.Str.ofString "lift")=false/\(PySem.Str.ofString "edit" == PySem.Str.ofString "put")=false:=⟨by decide,by decide,by decide,by decide⟩
def fU:(PySem.Str.ofString "lift" == PySem.Str.ofString "undo")=false/\(PySem.Str.ofString "lift" == PySem.Str.ofString "redo")=false/\(PySem.Str.ofString "lift" == PySem.Str.ofString "put")=false/\(PySem.Str.ofString "lift" == PySem.Str.ofString "edit")=false:=⟨by decide,by decide,by decide,by decide⟩
def Kz(P:Plan)(c:Pt×Int):Prop:=Ae P c.1=true /\ -1000<=c.2/\c.2<=1000
def nO{cs:List (Pt×Int)}(o:w = "put" \/ w = "edit")(t:P.ok)(l:g[m]?=some (.S (cs.map uC)))(s:∀c∈cs,Kz P c)
  (h:Q .ZN g):JE M (d+2) 54 [Zp P,.ref n,.Z1 [sW w,.ref m]] g X Q:=by
 have f:(PySem.Str.ofString w==PySem.Str.ofString "undo")=false/\(PySem.Str.ofString w==PySem.Str.ofString "redo")=false/\(PySem.Str.ofString w==PySem.Str.ofString "lift")=false:=by
  rcases o with rfl|rfl
  .exact gq
  .exact ⟨bH.1,bH.2.1,bH.2.2.1⟩
 simp? only[DB]
 simp?[f.1,f.2.1,f.2.2,l];refine aB (cs.map uC) (λk Y g'=>g'=g /\∃e b a,Y=[some (Zp P),some (.ref n),some (.Z1 [sW w,.ref m]),some (sW w),some (.ref m),e,b,a]) (λk Y g' q=>by rw[q.1];exact aF l) ⟨rfl,_,_,_,rfl⟩ (λk u Y g' hk j=>?_) (λY g' j=>?_)
 .obtain ⟨rfl,e,b,a,rfl⟩:=j
  simp![Y0,Ym]at hk;let⟨⟨p,i⟩,r,rfl⟩:=hk;have ok:=s _ (XG r);simp?;refine fI (p:=p) t ?_;rw[ok.1];simp?;refine fk ?_;have v:decide (1000<if i<0 then -i else i)=false:=by
   have:=ok.2;simp only at this;refine Wj ?_;split<;>lia
  simp?[v];exact⟨_,_,_,rfl⟩
 .obtain ⟨rfl,e,b,a,rfl⟩:=j
  simp?;exact h
def nM{F:Nat}{i:Int}{a b:Pt}{H:Ht}(y:P.ok)(Z8:g[n]?=some (.dst (Ky hc mk dn F ed tr)))(R:Ja (.ref hc) g=some Z4)(N:∀p,Ae P p=true->Am Z4 (Aa p)=some (.int (H p)))(x:Ae P a=true)(w:Ae P b=true)(v:g[m]?=some (.S [uC (a,i),uC (b,i)]))
  (B:∀gs:G,(∀c∈Kx H a b i,Kz P c)->Q .ZN (g++gs)) (A:∀(gs:G) (O:List U),(∃c∈Kx H a b i,¬Kz P c)->Q (.Z1 O) (g++gs)):JE M (d+2) 54 [Zp P,.ref n,.Z1 [sW "lift",.ref m]] g X Q:=by
 have I:(PySem.Str.ofString "lift" == PySem.Str.ofString "lift")=true:=by decide
 have D:=fU;simp? only[DB]
 simp?[D.1,D.2.1,I,v];refine aB [uC (a,i),uC (b,i)] (λk Y g'=>g'=g /\∃l h f,Y=[some (Zp P),some (.ref n),some (.Z1 [sW "lift",.ref m]),some (sW "lift"),some (.ref m),l,h,f]) (λk Y g' q=>by rw[q.1];exact aF v) ⟨rfl,_,_,_,rfl⟩ (λk u Y g' hk o=>?_) (λY g' o=>?_)
 .obtain ⟨rfl,l,h,f,rfl⟩:=o
  obtain⟨p,s,rfl⟩:∃p,Ae P p=true/\u=uC (p,i):=by
   have:=XG hk;simp![YG,Xy,VD]at this;rcases this with rfl|rfl
   .exact ⟨a,x,rfl⟩
   .exact ⟨b,w,rfl⟩
  simp?;refine fI (p:=p) y ?_;rw[s];simp?;exact⟨_,_,_,rfl⟩
 let⟨rfl,l,h,f,rfl⟩:=o;simp?[v];refine oF y Z8 R N x w λgs J _ E=>?_;simp?[E];refine aB ((Kx H a b i).map uC) (λk Y g2=>g2=g'++gs/\(∀c∈(Kx H a b i).take k,Kz P c) /\∃l h f,Y=[some (Zp P),some (.ref n),some (.Z1 [sW "lift",.ref m]),some (sW "lift"),some (.ref J),l,h,f]) (λk Y g2 q=>by rw[q.1];exact aF E) ⟨rfl,by simp,_,_,_,rfl⟩ (λk u Y g2 hk o=>?_) (λY g2 o=>?_)
 .obtain ⟨rfl,C,l,h,f,rfl⟩:=o
  simp![Y0,Ym]at hk;let⟨⟨p,j⟩,s,rfl⟩:=hk;have r:Ae P p=true:=by
   let⟨q,K,e⟩:=Wa.mp (XG s);cases e;exact rS x w K
  have L:(Kx H a b i).take (k+1)=(Kx H a b i).take k++[(p,j)]:=by rw[VQ,s];rfl
  simp?;refine fI (p:=p) y ?_;rw[r];simp?;refine fk ?_;cases t:decide (1000<if j<0 then -j else j)with
  |true=>
   simp?[t];refine A _ _ ⟨_,XG s,λz=>?_⟩;have B:=z.2;have A:=HE t;simp only at B;split at A<;>lia
  |false=>
   simp?[t];refine⟨?_,_,_,_,rfl⟩;rw[L];intro c hc;rcases Vm.mp hc with z|z
   .exact C c z
   .rw [XM.mp z]
    have:=of_decide_eq_false t;refine⟨r,?_⟩;simp only;split at this<;>omega
 .obtain ⟨rfl,C,l,h,f,rfl⟩:=o
  simp?;refine B gs ?_;rwa[Yj,VU]at C
def yp{l:List α}(h:2<=l.length):∃a m b,l=a::(m++[b]):=by
 cases l with
 |nil=>simp at h
 |cons a t=>
  cases e:t.reverse with
  |nil=>rw[List.reverse_eq_nil_iff.mp e]at h;simp at h
  |cons b r=>exact⟨a,r.reverse,b,by rw[<-List.reverse_reverse t,e,Tu]⟩
def mY{vs:List U}(h:∀v∈vs,∃c,v=uC c/\Kz P c):∃cs:List (Pt×Int),vs=cs.map uC /\∀c∈cs,Kz P c:=by
 induction vs with
 |nil=>exact⟨[],rfl,λc hc=>nomatch hc⟩
 |cons v vs ih=>
  let⟨c,rfl,hc⟩:=h v #[3]
  let⟨cs,rfl,f⟩:=ih λv d=>h v (by simp[d])
  exact⟨c::cs,rfl,λx a=>(YG.mp a).elim (λz=>z ▸ hc) (f x)⟩
def xT:Je (xs++[u]) (-1)=some u:=by
 have e:L2.ixN (xs++[u]).length (-1)=some xs.length:=by
  unfold L2.ixN;rw[Xs,Um,Xp (by lia),Xg (by lia)]
  congr 1;lia
 unfold Je L2.atI;rw[e];simp
def xS{w:U}(e:g[n]?=some (.S (xs++[w])))(Y:Su):subAt (.ref n) (.int (-1)) u Y g=.ok (.nx Y) (g.set n (.S (xs++[u]))):=by
 have ex:L2.ixN (xs++[w]).length (-1)=some xs.length:=by
  unfold L2.ixN;rw[Xs,Um,Xp (),Xg ()]
  congr 1;omega
 simp![subAt,Dx,e,ex];rw[S7 _ _ (Hz _),Nat.sub_self]
 rfl
def wb(hP:P.ok)(hb:Bag g)(h3:3<=hc)(hd:g[hc]?=some (.ZV Z4))(hk:∀p,Ae P p=true->Am Z4 (Aa p)=some (.int (H p)))(hH:Kr P H)
  (hu:∀(g':G) (w:String) (m:Nat),w = "undo" \/ w = "redo" -> Fr g g'->Q (.Z1 [sW w,.ref m]) g')
  (hl:∀(g':G) (m:Nat) (a b:Pt) (i:Int),Ae P a=true->Ae P b=true->Fr g g'->g.length<=m->g'[m]?=some (.S [uC (a,i),uC (b,i)])->Q (.Z1 [sW "lift",.ref m]) g')
  (K:∀(g':G) (m:Nat) (w:String) (cs:List (Pt×Int)),w = "put" /\ cs.length=1\/w = "edit" /\ cs.length<=4->(∀c∈cs,Kz P c)->Fr g g'->g.length<=m->g'[m]?=some (.S (cs.map uC))->Q (.Z1 [sW w,.ref m]) g'):JE M (d+4) 51 [.ref 2,Zp P,.ref hc] g X Q:=by
 simp? only[EK]
 simp?;refine aA hb (by lia) (by lia) λj g1 a1 b1 f1=>?_
 simp?;refine aA f1.Zo (by lia) (by lia) λTC g2 a2 b2 A=>?_
 have A:=f1.trans A;by_cases F:8<j
 .have W:decide (8<j)=true:=Sb F
  simp?[F,W];exact hu _ "redo" _ (.inr rfl) (A.trans (Fr.app A.Zo))
 have W:decide (8<j)=false:=Wj F;by_cases T:5<j
 .have UA:decide (5<j)=true:=Sb T
  simp?[F,W,T,UA];exact hu _ "undo" _ (.inl rfl) (A.trans (Fr.app A.Zo))
 have UA:decide (5<j)=false:=Wj T;by_cases c3:3<j
 .have C:decide (3<j)=true:=Sb c3
  simp?[F,W,T,UA,c3,C];refine aA A.Zo.app #[1] #[1] λr g3 r0 r1 N=>?_
  have e3:g3[g2.length]?=some (.S (([1,-1,5,0,700,-1300]:List Int).map U.int)):=N.get _ _ (by have:=A.Zo.len;lia) ah
  let⟨i,hi,hu1⟩:=eL (l:=([1,-1,5,0,700,-1300]:List Int)) (f:=U.int) r0 (by exact r1)
  have VL:Je [U.int 1,U.int (-1),U.int 5,U.int 0,U.int 700,U.int (-1300)] r=some (.int i):=hu1;have F3:=(A.trans (Fr.app A.Zo)).trans N;simp?[e3,VL];refine dB hP F3.Zo λa g4 ha D=>?_;simp?;refine dB hP D.Zo λb g5 hb B=>?_;simp?;have J:=(F3.trans D).trans B;exact hl _ _ a b i ha hb (J.trans (Fr.app J.Zo)) J.len ah
 have C:decide (3<j)=false:=Wj c3;have item:∀(k:Int) (g':G) (R:U->G->Prop),Fr g2 g'->(∀c g2',Kz P c->Fr g2 g2'->R (uC c) g2')->JF M (d+3) (.Z1 [(.call 50 [(.L 1),(.L 2)]),(.call 46 [(.L 1),(.L 3)])]) [some (.int k),some (.ref 2),some (Zp P),some (.int TC)] g' (λ_ _ _=>False) R:=λk g' R f hR=>by
  simp?;refine dB hP f.Zo λq g5 hq B=>?_;simp?;refine n8 B.Zo λv g6 v0 v1 f6=>?_;simp?;exact hR (q,v) g6 ⟨hq,v0,v1⟩ ((f.trans B).trans f6)
 have list:∀(n:Int) (g3:G) (Y:Su) (R:List U->G->Prop),0<=n->n<=4->Fr g2 g3->Y=[none,some (.ref 2),some (Zp P),some (.int TC)]->(∀(cs:List (Pt×Int)) (g4:G),cs.length=n.toNat->(∀c∈cs,Kz P c)->Fr g2 g4->R (cs.map uC) g4)->JN M (d+3) (.Y7 0 n.toNat) 0 (.nm 0) [] [] (.Z1 [(.call 50 [(.L 1),(.L 2)]),(.call 46 [(.L 1),(.L 3)])]) [] Y g3 (λ_ _ _=>False) R:=λn g3 Y R n0 n1 N es hR=>by
  subst es;refine abL ((J4 n).map U.int) (λv=>∃c,v=uC c/\Kz P c) (λg'=>Fr g2 g') (λk g' _=>aV) (λu hu=>⟨rfl,?_⟩) (by rw[Yj,au];lia) N λvs g4 l1 l2 D=>?_
  .obtain ⟨x,_,rfl⟩:=Wa.mp hu
   refine aG.1 ⟨_,rfl,λg' f=>item x g' _ f λc g5 hc B=>⟨⟨c,rfl,hc⟩,B⟩⟩
  .obtain ⟨cs,rfl,ok⟩:=mY l2
   rw[Yj,Yj,au]at l1;exact hR cs g4 l1 ok D
 by_cases c2:j<2
 .have Xi:decide (j<2)=true:=Sb c2
  simp?[F,W,T,UA,c3,C,c2,Xi];refine aA A.Zo #[1] #[1] λy g3 m0 m1 N=>?_
  have hr:Aj y=true:=ar (by lia) (by lia)
  simp?[hr];refine list y g3 _ _ m0 (by lia) N rfl λcs g4 X2 ok D=>?_
  have t:Fr g g4:=A.trans D;have b4:=t.Zo.len;refine⟨by rw[Yj];lia,?_⟩
  by_cases V:1<y
  .have I:decide (1<y)=true:=Sb V
   let⟨o,mid,cl,rfl⟩:=yp (l:=cs) (by lia)
   have Uz:=ok o #[3]
   have u0:∀c:Pt×Int,Je (uC o::(mid++[c]).map uC) 0=some (uC o):=λc=>by rw[dt #[1] (by simp;lia)];rfl
   have um:∀c:Pt×Int,uC o::(mid++[c]).map uC=(o::mid).map uC++[uC c]:=λc=>by simp
   have u1:∀c:Pt×Int,Je (uC o::(mid++[c]).map uC) (-1)=some (uC c):=λc=>by rw[um];exact xT
   have E:∀c,Kz P c ->∀x∈o::(mid++[c]),Kz P x:=λc hc x hx=>by
    rcases YG.mp hx with z|z
    .exact z ▸ Uz
    .rcases Vm.mp z with z|z
     .exact ok x (by simp[z])
     .rw [XM.mp z];exact hc
   have ll:∀c:Pt×Int,(o::(mid++[c])).length<=4:=λc=>by
    have:=X2;simp![XI,Xs,Ur]at this ⊢;lia
   have sb:∀(g':G) (c x:Pt×Int) (Y:Su),g'[g4.length]?=some (.S (uC o::(mid++[c]).map uC))->subAt (.ref g4.length) (.int (-1)) (.Z1 [.Z1 [.int x.1.1,.int x.1.2],.int x.2]) Y g'=.ok (.nx Y) (g'.set g4.length (.S (uC o::(mid++[x]).map uC))):=λg' c x Y e=>by
    rw[um]at e;rw[xS e,um]
   have dk:∀g':G,Fr g g'->Al (.Z1 [.int o.1.1,.int o.1.2]) (.ref hc) g'=some (some (.int (H o.1))):=λg' f=>by rw[aE (f.get _ _ h3 hd) aq,hk _ Uz.1]
   have okh:Kz P (o.1,H o.1):=⟨Uz.1,hH _ Uz.1⟩;simp?[V,I];refine aA t.Zo.app #[1] #[1] λr g5 _ _ B=>?_
   have e5:g5[g4.length]?=some (.S (uC o::(mid++[cl]).map uC)):=B.get _ _ (by lia) ah
   have J:=(t.trans (Fr.app t.Zo)).trans B;simp?;refine av (λk1=>?_) λk1=>?_
   .have okn:Kz P (o.1,cl.2):=⟨Uz.1,(ok cl #[3]).2⟩
    simp?[e5,u0,u1,sb _ _ (o.1,cl.2) _ e5,V,I];generalize UB:List.set g5 g4.length (.S (uC o::(mid++[(o.1,cl.2)]).map uC))=g6;have Z:Fr g g6:=UB ▸ Fr.VO J t.len b4;have O:g6[g4.length]?=some (.S (uC o::(mid++[(o.1,cl.2)]).map uC)):=UB ▸ aj e5;refine aA Z.Zo #[1] #[1] λr2 g7 _ _ f7=>?_
    have e7:=f7.get _ _ (by lia) O
    have F7:=Z.trans f7;simp?;refine av (λk2=>?_) λk2=>?_
    .simp? [e7,u0,u1,dk _ F7,id,sb _ _ (o.1,H o.1) _ e7]
     exact K _ _ "edit" _ (.inr ⟨rfl,ll _⟩) (E _ okh) (Fr.VO F7 t.len b4) t.len (aj e7)
    .simp?
     exact K _ _ "edit" _ (.inr ⟨rfl,ll _⟩) (E _ okn) F7 t.len e7
   .simp? [V,I]
    refine aA J.Zo #[1] #[1] λr2 g6 _ _ f6=>?_
    have O:=f6.get _ _ () e5
    have Z:=J.trans f6;simp?;refine av (λk2=>?_) λk2=>?_
    .simp? [O,u0,u1,dk _ Z,id,sb _ _ (o.1,H o.1) _ O]
     exact K _ _ "edit" _ (.inr ⟨rfl,ll _⟩) (E _ okh) (Fr.VO Z t.len b4) t.len (aj O)
    .simp?
     exact K _ _ "edit" _ (.inr ⟨rfl,ll cl⟩) ok Z t.len O
  .have I:decide (1<y)=false:=Wj V
   simp?[V,I];exact K _ _ "edit" _ (.inr ⟨rfl,by lia⟩) ok (t.trans (Fr.app t.Zo)) t.len ah
 .have Xi:decide (j<2)=false:=Wj c2
  have hr:Aj 1=true:=ar (by lia) (by lia)
  simp?[F,W,T,UA,c3,C,c2,Xi,hr];refine list 1 g2 _ _ #[1] #[1] (Fr.refl A.Zo) rfl λcs g4 X2 ok D=>?_
  have t:Fr g g4:=A.trans D;refine⟨by rw[Yj];lia,?_⟩
  have I:decide ((1:Int)<1)=false:=Wj #[1]
  simp?[I];exact K _ _ "put" _ (.inl ⟨rfl,X2⟩) ok (t.trans (Fr.app t.Zo)) t.len ah
def Kp.VO(h:Kp n g g')(a:g.length<=j):Kp n g (g'.set j o):=⟨by simpa using h.len,λk o' hk e=>by
 have:k<g.length:=(Yh.mp e).1
 rw[Xb (by lia)];exact h.get k o' hk e⟩
def Kp.more(h:Kp n g g'):Kp n g (g'++gs):=h.trans Kp.app
def vU(j:P.ok)(y:P.w*P.s<=8/\P.d*P.s<=8)(i:g[m]?=some (.ZV (Kj Aa (Ac H) (Ad P))))
  (h:∀(g':G) (n hc mk dn un:Nat),Kp m g g'->g'[n]?=some (.dst (Ky hc mk dn un 0 0))->g'[hc]?=some (.ZV (Kj Aa (Ac H) (Ad P)))->g'[mk]?=some (.ZV (Kj Aa (Ac λ_=>0) (Ad P)))->g'[dn]?=some (.S [])->g'[un]?=some (.S [])->g.length<=mk->mk<hc->hc<dn->dn<un->un<n->Q (.ref n) g'):JE M (d+1) 52 [.ref m] g X Q:=by
 have E:=bW j;have I:=j.ws;have F:=j.ds;have z:m<g.length:=(Yh.mp i).1;have B:Ad P≠[]:=λe=>by have:(0,0)∈Ad P:=aI.mpr (bD ⟨by decide,by simp only;lia,by decide,by simp only;lia⟩);rw[e]at this;cases this
 simp? only[EI]
 simp?[aa i];refine aB ((Ad P).map uP) (λk Y g'=>∃o,Kp m g g'/\g'[m]?=some (.Zu (Kj Aa (Ac H) (Ad P)))/\g'[g.length]?=some (.ZV (Kj Aa (Ac λ_=>0) ((Ad P).take k)))/\Y=[some (.ref m),some (.ref g.length),o]) (λk Y g' f=>?_) ⟨none,Kp.app.trans Kp.set,aj (aa i),?_,rfl⟩ (λk u Y g' hk f=>?_) (λY g' f=>?_)
 .obtain ⟨o,_,e,_⟩:=f
  exact cY e
 .rw [Xb (by lia)];simp[Kj]
 .obtain ⟨o,kp,l,c,rfl⟩:=f
  simp![Y0,Ym]at hk;let⟨p,x,rfl⟩:=hk;have new:=ox x;have C:(Ad P).take (k+1)=(Ad P).take k++[p]:=by rw[VQ,x];rfl
  have A:(Kj Aa (Ac λ_=>0) ((Ad P).take k)).length<16777000:=by simp![Kj,Yj,Vl];lia
  have sb:∀Y,subAt (.ref g.length) (.Z1 [.int p.1,.int p.2]) (.int 0) Y g'=.ok (.nx Y) (g'.set g.length (.ZV (Kj Aa (Ac λ_=>0) ((Ad P).take (k+1))))):=λY=>by
   rw[aT c aq A,C,cX (λa b=>aw) new];congr 4;funext q;split<;>rfl
  simp?[sb];refine⟨_,kp.VO (Hz _),?_,aj c,rfl⟩;rw[Xb (by lia)];exact l
 .obtain ⟨o,kp,l,c,rfl⟩:=f
  rw[Yj,VU]at c;have D:Ja (.ref m) g'=some (Kj Aa (Ac H) (Ad P)):=by simp![Ja,l]
  have gl:g.length<g'.length:=(Yh.mp c).1;simp?[jM y.1 y.2 B D];have v:(g'++[Z6.ZV (Kj Aa (Ac H) (Ad P))]).length=g'.length+1:=by simp
  have t:(g'++[Z6.ZV (Kj Aa (Ac H) (Ad P))]++[Z6.S []]).length=g'.length+2:=by simp
  have r:(g'++[Z6.ZV (Kj Aa (Ac H) (Ad P))]++[Z6.S []]++[Z6.S []]).length=g'.length+3:=by simp
  rw[v,t,r];refine h _ (g'.length+3) g'.length g.length (g'.length+1) (g'.length+2) kp.more.more.more.more ?_ ?_ ?_ ?_ ?_ (Hz _) gl (by lia) (by lia) (by lia)
  .rw [<-r];exact ah
  .exact aa (aa (aa ah))
  .exact aa (aa (aa (aa c)))
  .rw [<-v];exact aa (aa ah)
  .rw [<-t];exact aa ah
def eT{c:List Z5}{Q:Fl->G->Prop}(P:Su->G->Prop)(b:∀Y g,P Y g->wpS M d c Y g X Q):∀(a:List Z5) (Y:Su) (g:G),wpS M d a Y g X (λf g=>∃ZU,f=.nx ZU/\P ZU g)->wpS M d (a++c) Y g X Q
 |[],Y,g,h=>by
  simp![↓kX,↓kB,↓j6,↓dy,↓fc,↓nD,↓cZ,↓uJ,↓u6,↓vc,↓uQ,↓lO,↓mX,↓uB,↓vf,↓lx,↓uk,↓l9,↓t9,↓nA,↓nz,↓gj,↓gi,↓gL,↓il,↓gx,↓gC,↓tH,↓vn,↓TH,↓vq,↓nF,↓k_E,↓nB,↓vm,↓nv,↓mf,↓lI,↓sj,↓gH,↓gz,↓gv,↓mv,↓nG,↓hU,↓gf,↓kZ,↓sG,↓jn,↓kq,↓kD,↓gT,↓jD,↓lV,↓mP,↓nH,↓u4,↓lK,↓jv,↓mZ,↓jr,↓my,↓kO,↓lG,↓jz,↓lW,↓sZ,↓jc,↓jZ,↓iF,↓kP,↓kA,↓mH,↓jX,↓km,↓jd,↓m8,↓rM,↓gM,↓iH,↓lB,↓gG,↓j3,↓j5,↓lT,↓kj,↓iN,↓j9,↓jh,↓ko,↓jP,↓tw,↓iY,↓ka,↓jF,↓tL,↓iU,↓kJ,↓t6,↓iS,↓kQ,↓kI,↓ly,↓ki,↓tN,↓iG,↓jo,↓lA,↓iy,↓t5,↓jV,↓jL,↓la,↓lZ,↓ni,↓iJ,↓lS,↓nj,↓gD,↓lH,↓lP,↓lL,↓kU,↓ik,↓mr,↓jO,↓jm,↓iq,↓i0,↓pO,↓gm,↓uM,↓iO,↓sE,↓tj,↓gA,↓tX,↓tO,↓sC,↓sQ,↓t8,↓tZ,↓rO,↓lN,↓gR,↓kE,↓gI,↓kN,↓jY,↓gW,↓qT,↓gy,↓iP,↓iQ,↓jU,↓jG,↓hJ,↓rJ,↓gF,↓qY,↓hV,↓sy,↓i6,↓lR,↓jW,↓gr,↓u7,↓jT,↓rH,↓tV,↓sN,↓tK,↓kK,↓ud,↓rY,↓gQ,↓gJ,↓rQ,↓rA,↓hX,↓iD,↓kR,↓sL,↓jK,↓mU,↓jl,↓jR,↓iM,↓jk,↓jx,↓je,↓js,↓ie,↓lU,↓j0,↓mz,↓iT,↓ju,↓iE,↓uc,↓iC,↓iL,↓jq,↓gK,↓kH,↓jQ,↓nh,↓jC,↓ng,↓l0,↓lM,↓lE,↓lX,↓lj,↓j2,↓iK,↓jf,↓ic,↓jN,↓iV,↓jJ,↓jw,↓hY,↓jB,↓kc,↓jg,↓iz,↓kL,↓ig,↓jt,↓kr,↓lD,↓lJ,↓kY,↓mQ,↓l7,↓m9,↓j1,↓lr,↓mV,↓lg,↓gh,↓lz,↓nC,↓kT,↓lY,↓lQ,↓lC,↓ls,↓iR,↓mR,↓jb,↓ij,↓jy,↓nq,↓m7,↓mi,↓ma,↓k8,↓j7,↓jS,↓kG,↓k7,↓ja,↓ky,↓me,↓mq,↓k9,↓mD,↓lF,↓mG,↓mw]at h;let⟨_,e,h⟩:=h;cases e;exact b _ _ h
 |s::a,Y,g,h=>by
  rw[Sm,iX];rw[iX]at h;refine wp_mono h λf g q=>?_;cases f with
  |nx ZU=>exact eT P b a ZU g q
  |_=>let⟨_,e,_⟩:=q;cases e
def xO{k:Nat}(h:cs[k]?=some c):Chg H (cs.take (k+1))=λp=>if p=c.1 then c.2 else Chg H (cs.take k) p:=by
 rw[VQ,h];exact cz
def ZK.out{Z5:List Nat}{b:Nat}(q:ZK (b::Z5) g g')(h:g.length<=b):ZK Z5 g g':=⟨q.len,λk o hk e=>q.get k o (λz=>(YG.mp z).elim (λz=>by
 have:=(Yh.mp e).1;lia) hk) e⟩
section
variable{un:Nat}
structure Yo(g:G)(n hc mk dn un:Nat)(P:Plan)(H D:Ht)(ed tr:Int)(k:Nat):Prop where
 md:g[n]?=some (.dst (Ky hc mk dn un ed tr))
 ht:g[hc]?=some (.ZV (Kj Aa (Ac H) (Ad P)))
 X7:g[mk]?=some (.ZV (Kj Aa (Ac D) (Ad P)))
 dn:∃ds,g[dn]?=some (.S ds)/\ds.length<=k
 ne:hc≠mk
def Yo.up{Z5:List Nat}{k:Nat}(Z8:Yo g n hc mk dn un P H D ed tr k)(q:ZK Z5 g g')(h:∀j∈[n,hc,mk,dn],j ∉ Z5):Yo g' n hc mk dn un P H D ed tr k:=by
 let⟨ds,e,l⟩:=Z8.dn;exact⟨q.get _ _ (h _ #[3]) Z8.md,q.get _ _ (h _ #[3]) Z8.ht,q.get _ _ (h _ #[3]) Z8.X7,⟨ds,q.get _ _ (h _ #[3]) e,l⟩,Z8.ne⟩
def eV{k:PySem.Str}{a:List (PySem.Str×U)}(e:g[n]?=some (.dst (Ky hc mk dn un ed tr)))(h:BS (Ky hc mk dn un ed tr) k u=a)(Y:Su):subAt (.ref n) (.str k) u Y g=.ok (.nx Y) (g.set n (.dst a)):=by
 have l:(Ky hc mk dn un ed tr).length<Ag:=by show 6<Ag;decide
 simp![subAt,Ek,e];rw[Xg l,h]
def sY{a:Nat}{q:Pt}(d:P.ok)(e:g[a]?=some (.ZV (Kj Aa (Ac N) (Ad P))))(c:Ae P q=true)(Y:Su):subAt (.ref a) (.Z1 [.int q.1,.int q.2]) (.int i) Y g=.ok (.nx Y) (g.set a (.ZV (Kj Aa (Ac λp=>if p=q then i else N p) (Ad P)))):=by
 have f:=bW d;rw[aT e aq (by simp![Kj,Yj];lia),d9 (λa b=>aw) (aI.mpr c)]
 congr 4;funext p;simp![Ac];split<;>rfl
def si{B A y w t r o f a:Option U}(F:P.ok)(C:g[m]?=some (.S (cs.map uC)))(e:g[hc]?=some (.ZV (Kj Aa (Ac H) (Ad P))))(I:∀c∈cs,Kz P c)
  (h:∀(g':G) (f a:Option U),ZK [hc] g g'->g'[hc]?=some (.ZV (Kj Aa (Ac (Chg H cs)) (Ad P)))->QF (.nx [B,A,y,w,t,r,some (.ref hc),o,f,a]) g'):JM M d (.tp [8,9]) (.S m) 0 [(.sub (.L 6) (.L 8) (.L 9))] [B,A,y,w,t,r,some (.ref hc),o,f,a] g X QF:=by
 have E:m≠hc:=λz=>by rw[z,e]at C;cases C
 refine aB (cs.map uC) (λk Y g'=>∃f a,ZK [hc] g g'/\g'[hc]?=some (.ZV (Kj Aa (Ac (Chg H (cs.take k))) (Ad P)))/\Y=[B,A,y,w,t,r,some (.ref hc),o,f,a]) (λk Y g' j=>?_) ⟨_,_,ZK.refl,e,rfl⟩ (λk u Y g' hk j=>?_) (λY g' j=>?_)
 .obtain ⟨_,_,q,_⟩:=j
  exact aF (q.get _ _ (by simp[E]) C)
 .obtain ⟨f,a,q,e',rfl⟩:=j
  simp![Y0,Ym]at hk;let⟨⟨p,i⟩,D,rfl⟩:=hk;simp?[sY (i:=i) F e' (I _ (XG D)).1];exact⟨_,_,q.trans (ZK.set #[3]),by rw[xO D];exact aj e',rfl⟩
 .obtain ⟨f,a,q,e',rfl⟩:=j
  rw[Yj,VU]at e';exact h _ _ _ q e'
def yb{k b:Nat}{Q O L K f J:Option U}(S:P.ok)(he:0<=ed/\ed<=1000)(Z8:Yo g n hc mk dn un P N D ed tr k)(w:g[b]?=some (.ZV (Kj Aa (Ac H) (Ad P))))(o:b≠hc/\b≠mk)
  (h:∀g':G,Yo g' n hc mk dn un P N (Dat (ed+1) H N D) (ed+1) tr k->ZK [b,n,mk] g g'->QF (.rt .ZN) g') :
  wpS M (d+1) (Cg.body.drop 7) [some (Zp P),some (.ref n),Q,O,L,K,some (.ref hc),some (.ref b),f,J] g X QF:=by
 have hl:=bW S;unfold Cg;simp![List.drop];have sb:=eV Z8.md (wa (i:=ed+1));have mm:=(aJ Z8.md).2.1;have nn:n≠b/\n≠hc/\n≠mk/\n≠dn:=by
  let⟨ds,e,_⟩:=Z8.dn;refine⟨?_,?_,?_,?_⟩<;>rintro rfl
  .rw [Z8.md]at w;cases w
  .have:=Z8.ht;rw[Z8.md]at this;cases this
  .have:=Z8.X7;rw[Z8.md]at this;cases this
  .rw [Z8.md]at e;cases e
 have dd:dn≠b/\dn≠hc/\dn≠mk:=by
  let⟨ds,e,_⟩:=Z8.dn;refine⟨?_,?_,?_⟩<;>rintro rfl
  .rw [e]at w;cases w
  .have:=Z8.ht;rw[e]at this;cases this
  .have:=Z8.X7;rw[e]at this;cases this
 have B:ZK [n] g (g.set n (.dst (Ky hc mk dn un (ed+1) tr))):=ZK.set #[3]
 have M1:(g.set n (.dst (Ky hc mk dn un (ed+1) tr)))[n]?=some (.dst (Ky hc mk dn un (ed+1) tr)):=aj Z8.md;generalize g.set n (.dst (Ky hc mk dn un (ed+1) tr))=g1 at sb B M1;have F:=B.get b _ (by simp[Ne.symm nn.1]) w
 let⟨g2,E,V,C⟩:=eQ (n:=b) (g:=g1) (Z4:=Kj Aa (Ac H) (Ad P)) (by simp![Ja,F])
 simp?[mm,sb,↓E];have A:ZK [b,n] g g2:=(B.sub #[3]).trans (C.l #[3])
 refine aB ((Ad P).map uP) (λj Y g'=>∃f,ZK [mk] g2 g'/\g'[mk]?=some (.ZV (Kj Aa (Ac (Ov (Dat (ed+1) H N D) ((Ad P).take j) D)) (Ad P)))/\Y=[some (Zp P),some (.ref n),Q,O,L,K,some (.ref hc),some (.ref b),f,J]) (λk Y g' r=>?_) ⟨_,ZK.refl,?_,rfl⟩ (λj u Y g' hk r=>?_) (λY g' r=>?_)
 .obtain ⟨_,q,_⟩:=r
  exact cY (q.get _ _ (by simp[o.2]) V)
 .rw [A.get mk _ (by simp[Ne.symm o.2,Ne.symm nn.2.2.1]) Z8.X7]
  exact V2 (λz=>some (Z6.ZV z)) (eF λp _=>by simp[Ov])
 .obtain ⟨f,q,t,rfl⟩:=r
  simp![Y0,Ym]at hk;let⟨p,R,rfl⟩:=hk;have I:=XG R;have Z:=aJ (q.get n _ (by simp[nn.2.2.1]) (C.get n _ nn.1 M1))
  have W:Al (.Z1 [.int p.1,.int p.2]) (.ref b) g'=some (some (.int (H p))):=by rw[dS (q.get _ _ (by simp[o.2]) V) aq,aM (key:=Aa) (λa b=>aw) I]
  have J7:Al (.Z1 [.int p.1,.int p.2]) (.ref hc) g'=some (some (.int (N p))):=by rw[aE (q.get hc _ (by simp[Z8.ne]) (A.get hc _ (by simp[Ne.symm o.1,Ne.symm nn.2.1]) Z8.ht)) aq,aM (key:=Aa) (λa b=>aw) I]
  have T:(Ad P).take (j+1)=(Ad P).take j++[p]:=by rw[VQ,R];rfl
  by_cases c:H p=N p
  .have c':decide (H p=N p)=true:=Sb c
   simp?[W,J7,id,c,c'];refine⟨_,q,?_,rfl⟩;rw[t,T];refine V2 (λz=>some (Z6.ZV z)) (eF λx _=>?_);by_cases z:x=p
   .subst z;simp[Ov,Dat,c]
   .simp [Ov,z]
  .have c':decide (H p=N p)=false:=Wj c
   simp?[W,J7,id,c,c',Z.2.1,Z.2.2.2.1,sY (i:=ed+1) S t (aI.mp I)];refine⟨_,q.trans (ZK.set #[3]),?_,rfl⟩
   rw[aj t,T];refine V2 (λz=>some (Z6.ZV z)) (eF λx _=>?_);by_cases z:x=p
   .subst z;simp[Ov,Dat,Ne.symm c]
   .simp [Ov,z]
 .obtain ⟨f,q,t,rfl⟩:=r
  simp?;have y:ZK [b,n,mk] g g':=(A.sub #[3]).trans (q.sub #[3])
  refine h g' ⟨q.get n _ (by simp[nn.2.2.1]) (C.get n _ nn.1 M1),y.get hc _ (by simp[Ne.symm o.1,Ne.symm nn.2.1,Z8.ne]) Z8.ht,?_,?_,Z8.ne⟩ y
  .rw [t]
   refine V2 (λz=>some (Z6.ZV z)) (eF λx hx=>?_);rw[Yj,VU];simp[Ov,hx]
  .obtain ⟨ds,e,l⟩:=Z8.dn
   exact⟨ds,y.get dn _ (by simp[dd.1,Ne.symm nn.2.2.2,dd.2.2]) e,l⟩
def vQ{k:Nat}(y:P.ok)(W:P.w*P.s<=8/\P.d*P.s<=8)(Z8:Yo g n hc mk dn un P H D ed tr k)(hk:k<=100)(he:0<=ed/\ed<=1000)(Z:∀c∈cs,Kz P c)
  (dk:(w = "put" \/ w = "edit")/\g[m]?=some (.S (cs.map uC))\/w = "lift" /\∃a b i,Ae P a=true/\Ae P b=true/\g[m]?=some (.S [uC (a,i),uC (b,i)])/\cs=Kx H a b i)
  (h:∀(g':G) (YZ:Nat),Yo g' n hc mk dn YZ P (Chg H cs) (Dat (ed+1) H (Chg H cs) D) (ed+1) (tr+1) (k+1)->ZK [n,hc,mk,dn] g g'->Q .ZN g'):JE M (d+3) 55 [Zp P,.ref n,.Z1 [sW w,.ref m]] g X Q:=by
 have Wx:=y.ws;have YT:=y.ds;have h0:Ad P≠[]:=λe=>by have:(0,0)∈Ad P:=aI.mpr (bD ⟨by decide,by simp only;lia,by decide,by simp only;lia⟩);rw[e]at this;cases this
 have sb:=eV Z8.md (wW (i:=tr+1));have f:ZK [n] g (g.set n (.dst (Ky hc mk dn un ed (tr+1)))):=ZK.set #[3]
 have m1:(g.set n (.dst (Ky hc mk dn un ed (tr+1))))[n]?=some (.dst (Ky hc mk dn un ed (tr+1))):=aj Z8.md;generalize g.set n (.dst (Ky hc mk dn un ed (tr+1)))=g1 at sb f m1;have nn:∀k o,g[k]?=some o->(∀kv,o ≠ .dst kv)->k ∉ [n]:=λk o e ne z=>by
  rw[XM.mp z,Z8.md]at e;cases e;exact ne _ rfl
 let⟨ds,t,dl⟩:=Z8.dn;have M1:Yo g1 n hc mk dn un P H D ed (tr+1) k:=⟨m1,f.get _ _ (nn _ _ Z8.ht nofun) Z8.ht,f.get _ _ (nn _ _ Z8.X7 nofun) Z8.X7,⟨ds,f.get _ _ (nn _ _ t nofun) t,dl⟩,Z8.ne⟩;have F:=f.get _ _ (nn _ _ t nofun) t;have n1:n≠hc:=λz=>nn _ _ Z8.ht nofun (by simp[z])
 have n2:n≠mk:=λz=>nn _ _ Z8.X7 nofun (by simp[z])
 have n3:n≠dn:=λz=>nn _ _ t nofun (by simp[z])
 have n4:dn≠hc:=λz=>by rw[z,Z8.ht]at t;cases t
 have n5:dn≠mk:=λz=>by rw[z,Z8.X7]at t;cases t
 have E:∀(g2 g6:G),ZK [] g1 g2->ZK [hc] (g2++[.ZV (Kj Aa (Ac H) (Ad P))]) g6->g6[hc]?=some (.ZV (Kj Aa (Ac (Chg H cs)) (Ad P))) ->
   g6[dn]?=some (.S ds)/\g6[n]?=some (.dst (Ky hc mk dn un ed (tr+1))) /\∀j,j=(g6.set dn (.S (ds++[.ref g2.length]))++[.S []])->j[n]?=some (.dst (Ky hc mk dn un ed (tr+1))) /\
   ∀YZ,Yo (j.set n (.dst (Ky hc mk dn YZ ed (tr+1)))) n hc mk dn YZ P (Chg H cs) D ed (tr+1) (k+1)/\(j.set n (.dst (Ky hc mk dn YZ ed (tr+1))))[g2.length]?=some (.ZV (Kj Aa (Ac H) (Ad P)))/\ZK [n,hc,dn] g (j.set n (.dst (Ky hc mk dn YZ ed (tr+1)))):=λg2 g6 N u I=>by
  have A:ZK [hc] g1 g6:=((N.sub #[3]).trans ZK.app).trans u
  have a1:=A.get dn _ (by simp[n4]) F
  have a2:=A.get n _ (by simp[n1]) m1
  refine⟨a1,a2,?_⟩;rintro j rfl;have hl:hc<g2.length:=HB (Yh.mp M1.ht).1 N.len;have dl':dn<g2.length:=HB (Yh.mp F).1 N.len;have nl':n<g2.length:=HB (Yh.mp m1).1 N.len;have L:ZK [dn] g6 (g6.set dn (.S (ds++[.ref g2.length]))++[.S []]):=(ZK.set #[3]).trans ZK.app
  have C:=L.get n _ (by simp[n3]) a2
  have a4:(g6.set dn (.S (ds++[.ref g2.length]))++[.S []])[dn]?=some (.S (ds++[.ref g2.length])):=aa (aj a1);generalize(g6.set dn (.S (ds++[.ref g2.length]))++[Z6.S []])=j at *;refine⟨C,λYZ=>?_⟩;have K:ZK [n] j (j.set n (.dst (Ky hc mk dn YZ ed (tr+1)))):=ZK.set #[3]
  have a5:(j.set n (.dst (Ky hc mk dn YZ ed (tr+1))))[n]?=some (.dst (Ky hc mk dn YZ ed (tr+1))):=aj C;have q:=(A.sub (T:=[hc,dn,n]) #[3]).trans ((L.sub #[3]).trans (K.sub #[3]))
  refine⟨⟨a5,K.get _ _ (by simp[Ne.symm n1]) (L.get _ _ (by simp[Ne.symm n4]) I),q.get mk _ (by simp[Ne.symm Z8.ne,Ne.symm n5,Ne.symm n2]) M1.X7,⟨_,K.get _ _ (by simp[Ne.symm n3]) a4,by simp;lia⟩,Z8.ne⟩,?_,(f.sub #[3]).trans (q.sub #[3])⟩
  exact K.get _ _ (by simp;lia) (L.get _ _ (by simp;lia) (u.get _ _ (by simp;lia) ah))
 refine ag #[2] #[2] ?_
 refine eT (λY g5=>∃(b YZ:Nat) (o5 V R:Option U),Yo g5 n hc mk dn YZ P (Chg H cs) D ed (tr+1) (k+1)/\g5[b]?=some (.ZV (Kj Aa (Ac H) (Ad P)))/\g.length<=b/\ZK [n,hc,dn] g g5/\Y=[some (Zp P),some (.ref n),some (.Z1 [sW w,.ref m]),some .ZN,some (sW w),o5,some (.ref hc),some (.ref b),V,R]) (λY g5 hR=>?_) (Cg.body.take 7) _ _ ?_
 .obtain ⟨b,YZ,o5,V,R,M5,eb,Kb,q5,rfl⟩:=hR
  have lh:=(Yh.mp Z8.ht).1;have lm:=(Yh.mp Z8.X7).1;exact yb y he M5 eb ⟨by lia,by lia⟩ λg' M6 u=>h g' YZ M6 (ZK.out (b:=b) ((q5.sub #[3]).trans (u.sub #[3])) Kb)
 unfold Cg;simp![List.take];have mm:=(aJ Z8.md).2.2.1;have mh:=(aJ m1).1;have lu:∀{k:Nat},k<=100->k<16777000:=λh=>by lia
 rcases dk with⟨hw,em⟩|⟨rfl,a,b,i,ha,hb,em,rfl⟩
 .have B:(PySem.Str.ofString w==PySem.Str.ofString "undo")=false/\(PySem.Str.ofString w==PySem.Str.ofString "redo")=false/\(PySem.Str.ofString w==PySem.Str.ofString "lift")=false:=by
   rcases hw with rfl|rfl
   .exact gq
   .exact ⟨bH.1,bH.2.1,bH.2.2.1⟩
  have J:=f.get _ _ (nn _ _ em nofun) em;simp?[mm,sb];refine nO hw y J Z ?_;have r:=aa (gs:=[.ZV (Kj Aa (Ac H) (Ad P))]) J;simp?[B.1,B.2.1,B.2.2,mh,jM W.1 W.2 h0 (show Ja (.ref hc) g1=some (Kj Aa (Ac H) (Ad P))by simp![Ja,M1.ht]),r]
  refine si y r (aa M1.ht) Z λg6 V R u I=>?_;let⟨a1,a2,f2⟩:=E g1 g6 ZK.refl u I;let⟨C,f3⟩:=f2 _ rfl;simp?[(aJ a2).2.2.2.2.1,a1,bj a1 (lu (Hx dl hk)),eV C oA];let⟨b1,b2,b3⟩:=f3 (g6.set dn (.S (ds++[.ref g1.length]))).length;exact⟨_,rfl,_,_,_,_,_,b1,b2,f.len,b3,rfl⟩
 .have sl:(PySem.Str.ofString "lift" == PySem.Str.ofString "lift")=true:=by decide
  have B:=fU;have J:=f.get _ _ (nn _ _ em nofun) em;have e1:Ja (.ref hc) g1=some (Kj Aa (Ac H) (Ad P)):=by simp![Ja,M1.ht]
  have e2:∀p,Ae P p=true->Am (Kj Aa (Ac H) (Ad P)) (Aa p)=some (.int (H p)):=λp hp=>aM (key:=Aa) (λa b=>aw) (aI.mpr hp);simp?[mm,sb];refine nM y m1 e1 e2 ha hb J (λgs _=>?_) λgs O ⟨c,hc1,VR⟩=>absurd (Z c hc1) VR;have r:=aa (gs:=[.ZV (Kj Aa (Ac H) (Ad P))]) (aa (gs:=gs) J);simp?[B.1,B.2.1,sl,(aJ (aa (gs:=gs) m1)).1,jM W.1 W.2 h0 (c9 (gs:=gs) e1),r];have M2:(g1++gs++[.ZV (Kj Aa (Ac H) (Ad P))])[n]?=some (.dst (Ky hc mk dn un ed (tr+1))):=aa (aa m1);refine oF y M2 (c9 (c9 e1)) e2 ha hb λZi m2 _ Vi=>?_;simp?[Vi];refine si y Vi (aa (aa (aa M1.ht))) Z λg6 V R u I=>?_;let⟨a1,a2,f2⟩:=E (g1++gs) g6 ZK.app ((ZK.app (gs:=Zi)).trans u) I;let⟨C,f3⟩:=f2 _ rfl;simp?[(aJ a2).2.2.2.2.1,a1,bj a1 (lu (Hx dl hk)),eV C oA];let⟨b1,b2,b3⟩:=f3 (g6.set dn (.S (ds++[.ref (g1++gs).length]))).length;exact⟨_,rfl,_,_,_,_,_,b1,b2,Hx f.len #[3],b3,rfl⟩
end
section
variable{ds:List U}
def vE(k:P.ok)(c:Zz g v P H D ed tr hN dN ZS ZR gN B)(j:0<=ed)(n:B<=10000)(l:Kr P H)(b:Kz P (p,i))(f:g[m]?=some (.S [uC (p,i)]))(q:g[ZS]?=some (.S ds))(o:ds.length<=100)(r:g[ZR]?=some (.S O))
  (h:BV g v P H D ed tr hN dN ZS ZR gN B ds (Chg H [(p,i)]) Q):JE M (d+16) 56 [.ref v,.Z1 [sW "put",.ref m]] g X Q:=by
 have h1:=c.ins;unfold An at h1;have e:(PySem.Str.ofString "put" == PySem.Str.ofString "put")=true:=by decide
 have a:=gq;simp? only[CQ]
 simp?[a.1,a.2.1,e,f,h1];exact wL (d:=d) k c j n l b.1 b.2 q o r h
def vB{cs:List (Pt×Int)}(l:P.ok)(e:Zz g v P H D ed tr hN dN ZS ZR gN B)(j:0<=ed)(o:B<=10000)(n:Kr P H)(k:∀c∈cs,Kz P c)(i:cs.length<=625)(b:g[m]?=some (.S (cs.map uC)))(q:g[ZS]?=some (.S ds))(p:ds.length<=100)(r:g[ZR]?=some (.S O))
  (h:BV g v P H D ed tr hN dN ZS ZR gN B ds (Chg H cs) Q):JE M (d+16) 56 [.ref v,.Z1 [sW "edit",.ref m]] g X Q:=by
 have h1:=e.ins;unfold An at h1;have f:(PySem.Str.ofString "edit" == PySem.Str.ofString "edit")=true:=by decide
 have a:=bH;simp? only[CQ]
 simp?[a.1,a.2.1,a.2.2.2,f,b,h1];exact nY (d:=d+1) l e j o n k i b q p r h
def vA{a b:Pt}{i:Int}(q:P.ok)(k:Zz g v P H D ed tr hN dN ZS ZR gN B)(l:0<=ed)(s:B<=10000)(r:Kr P H)(p:Ae P a=true)(o:Ae P b=true)(n:∀c∈Kx H a b i,Kz P c)(j:g[m]?=some (.S [uC (a,i),uC (b,i)]))(u:g[ZS]?=some (.S ds))(t:ds.length<=100)(w:g[ZR]?=some (.S O))
  (h:BV g v P H D ed tr hN dN ZS ZR gN B ds (Chg H (Kx H a b i)) Q):JE M (d+16) 56 [.ref v,.Z1 [sW "lift",.ref m]] g X Q:=by
 have h1:=k.ins;unfold An at h1;have f:=fU;simp? only[CQ]
 simp?[f.1,f.2.1,f.2.2.1,f.2.2.2,j,h1];by_cases e:i=1
 .subst e
  simp?[j,h1];exact nZ (d:=d+1) q k l s r p o n u t w h
 .have e':decide (i=1)=false:=Wj e
  simp?[e,e',j,h1];exact nZ (d:=d+1) q k l s r p o n u t w h
end
def xf{R:Nat->G->Prop}(a:∀{X:XP} {Q:U->G->Prop},(∀w g',R w g'->Q (.ref w) g')->JE M (d+16) 56 [.ref v,u] g X Q)(h:∀w g',R w g'->Q (.ref w) g'):JE M (d+17) 57 [.ref v,u] g X Q:=by
 simp? only[E4]
 simp?;refine a λw g' r=>?_;simp?;exact h w g' r
def KA(P:Plan):Dt:=.Z1 [.int P.w,.int P.d,.int P.s]
def tM:Rep g (KA P) (Zp P):=by
 simp![KA,Rep];refine⟨_,rfl,?_⟩;simp![Reps];exact⟨_,_,rfl,aP,_,_,rfl,aP,_,_,rfl,aP,rfl⟩
def ac0:(KA P).ok (n+2):=by
 unfold KA;rw[Dt.TF];refine⟨by simp,λD h=>?_⟩
 simp at h;rcases h with rfl|rfl|rfl<;>exact cH
def pY(h:RowsAt g n P H):Rep g (Cy P H) (.ref n):=by
 let⟨ms,e,d,c⟩:=h;simp![Cy,Rep];refine⟨n,_,rfl,e,qX (by rw[Yj,Yj,au,d]) λi D u h1 h2=>?_⟩
 simp![Y0,Ym]at h1 h2;let⟨y,a,rfl⟩:=h1;let⟨m,b,rfl⟩:=h2;let⟨rfl,_⟩:=di a;simp![DZ,Rep];exact⟨m,_,rfl,c i m b,qv (λ_=>aP) _⟩
def RowsAt.app(h:RowsAt g n P H):RowsAt (g++gs) n P H:=by
 let⟨ms,d,c,b⟩:=h;exact⟨ms,aa d,c,λy m a=>aa (b y m a)⟩
def vI{v V:Nat}(j:P.ok)(K:Zz g v P H D ed tr hN dN ZS ZR gN B)(N:∀k∈[v,hN,dN,gN],k≠mk)(Z8:g[n]?=some (.dst (Ky hc mk dn V ed tr)))(O:g[hc]?=some (.ZV (Kj Aa (Ac H) (Ad P))))(e2:g[mk]?=some (.ZV (Kj Aa (Ac D) (Ad P))))(Z:n≠mk)(W:hc≠mk)
  (h:∀g':G,Kp mk g g'->g'[mk]?=some (.ZV (Kj Aa (Ac D) (Ad P)))->Q (.bl true) g'):JE M (d+6) 58 [.ref v,Zp P,.ref n] g X Q:=by
 have h1:=K.ins;unfold An at h1;simp? only[Ez]
 simp?[h1];refine vY j K.at λc m1 R1=>?_;have M1:=aa (gs:=c) Z8;have a1:Ja (.ref hc) (g++c)=some (Kj Aa (Ac H) (Ad P)):=by simp![Ja,aa O]
 simp?[(aJ M1).1];refine nV j a1 (λp C=>aM (key:=Aa) (λa b=>aw) (aI.mpr C)) λf m2 R2=>?_;simp?;refine bX 3 (Cy P H) _ _ _ (aax j) (pY R1.app) (pY R2) ?_;have M2:=aa (gs:=f) M1;have L2:=(K.app (gs:=c)).app (gs:=f);have J:=aa (gs:=f) (aa (gs:=c) O);have w:=aa (gs:=f) (aa (gs:=c) e2);have y:=aa (gs:=f) (aa (gs:=c) h1);have A:Kp mk g (g++c++f):=Kp.app.trans Kp.app;generalize g++c++f=g2 at *;simp?[y];refine bX 2 (KA P) _ _ _ ac0 tM tM ?_;simp?[y,(aJ M2).2.1];refine bX 1 (.int ed) _ _ _ cH aP aP ?_;simp?[y,(aJ M2).2.2.1];refine bX 1 (.int tr) _ _ _ cH aP aP ?_;let⟨g3,E,F,k3⟩:=eQ (n:=mk) (g:=g2) (Z4:=Kj Aa (Ac D) (Ad P)) (by simp![Ja,w])
 simp?;refine ady.mpr ?_;simp?[(aJ M2).2.2.2.1,↓E];refine aB ((Ad P).map uP) (λk Y g'=>Kp mk g2 g'/\g'[mk]?=some (.Zu (Kj Aa (Ac D) (Ad P))) /\∃o,Y=[some (.ref v),some (Zp P),some (.ref n),some (.bl true),o]) (λk Y g' r=>cY r.2.1) ⟨k3,F,_,rfl⟩ (λk u Y g' hk r=>?_) (λY g' r=>?_)
 .obtain ⟨kp,t,o,rfl⟩:=r
  simp![Y0,Ym]at hk;let⟨p,C,rfl⟩:=hk;have L:=XG C;have R:=aI.mp L;have nm:∀k∈[v,hN,dN,gN],k ∉ [mk]:=λk hk z=>N k hk (XM.mp z);have U:=L2.kp (Z5:=[mk]) (kp.l #[3]) (nm _ #[3]) (nm _ #[3]) (nm _ #[3]) (nm _ #[3])
  have T:=aJ (kp.get n _ Z M2);have S:=kp.get v _ (N v #[3]) y
  have I:=kp.get hc _ W J;have d1:Al (.Z1 [.int p.1,.int p.2]) (.ref mk) g'=some (some (.int (D p))):=by rw[dS t aq,aM (key:=Aa) (λa b=>aw) L]
  have J7:Al (.Z1 [.int p.1,.int p.2]) (.ref hc) g'=some (some (.int (H p))):=by rw[aE I aq,aM (key:=Aa) (λa b=>aw) L]
  simp?[S];refine vR j U R ?_;simp?[T.2.2.2.1,d1,id];refine bX 1 (.int (D p)) _ _ _ cH aP aP ?_;simp?[S];refine vM j U R ?_;simp?[T.1,J7,id];refine bX 1 (.int (H p)) _ _ _ cH aP aP ?_;simp?;exact⟨kp,t,_,rfl⟩
 .obtain ⟨kp,t,o,rfl⟩:=r
  simp?[abh,z0 kp w t];exact h _ (A.trans (kp.trans Kp.set)) (aj t)
def ve:∀l:List (Pt×Int),qs CL (l.map uC) (l.map uC)=some true
 |[]=>rfl
 |c::l=>by
  have:CL (uC c) (uC c)=some true:=by simp[CL,qs,IX,Av,Aq]
  simp![Y3,qs,this,ve l,Bool.and_self]
def adL{q:Nat}{l:List (Pt×Int)}(b:g[q]?=some (.S (l.map uC)))(a:g[m]?=some (.S (l.map uC))):Jc .eq (.ref q) (.ref m) g=some true:=by
 have:Jb (l.map uC) (l.map uC)=some true:=by unfold Jb;rw[Xg rfl];exact ve l
 first|simp![Jc,A2,b,a,c,this]|simp![Jc,A2,b,a,this]
def abo{cs:List (Pt×Int)}(g:Kr P H)(h:∀c∈cs,Kz P c):Kr P (Chg H cs):=by
 induction cs using snoc_ind with
 |c=>exact g
 |b cs c ih=>
  intro p f;rw[cz];have a:=h c #[3]
  have b:=ih (λx d=>h x (by simp[d])) p f
  dsimp only;split
  .exact a.2
  .exact b
def Kd(P:Plan)(H:Ht)(w:String)(l cs:List (Pt×Int)):Prop:=l.length<=4/\((w = "put" /\ l.length=1\/w = "edit")/\(∀c∈l,Kz P c)/\cs=l\/w = "lift" /\∃a b i,Ae P a=true/\Ae P b=true/\l=[(a,i),(b,i)]/\cs=Kx H a b i)
structure Y4(g:G)(P:Plan)(v n hc mk dn un hN dN ZS ZR gN b:Nat)(H D:Ht)(ed tr:Int)(k:Nat):Prop where
 Zo:Bag g
 land:Zz g v P H D ed tr hN dN ZS ZR gN (625*k)
 ld:∃ds,g[ZS]?=some (.S ds)/\ds.length<=k
 lu:∃O,g[ZR]?=some (.S O)
 md:Yo g n hc mk dn un P H D ed tr k
 hi:Kr P H
 ed:0<=ed/\ed<=k
 lo:∀a∈[v,hN,dN,ZS,ZR,gN],3<=a/\a<b
 up:∀a∈[n,hc,mk,dn],b<=a
section
variable{un b k:Nat}{l:List (Pt×Int)}
def Y4.kp{g':G}{Z5:List Nat}(I:Y4 g P v n hc mk dn un hN dN ZS ZR gN b H D ed tr k)(q:ZK Z5 g g')(c:Bag g')(h:∀j∈[v,hN,dN,ZS,ZR,gN,n,hc,mk,dn],j ∉ Z5):Y4 g' P v n hc mk dn un hN dN ZS ZR gN b H D ed tr k:=by
 let⟨ds,f,l1⟩:=I.ld;let⟨O,d⟩:=I.lu;exact⟨c,I.land.kp q (h _ #[3]) (h _ #[3]) (h _ #[3]) (h _ #[3]),⟨ds,q.get _ _ (h _ #[3]) f,l1⟩,⟨O,q.get _ _ (h _ #[3]) d⟩,I.md.up q λj a=>h j (by simp at a ⊢;lia),I.hi,I.ed,I.lo,I.up⟩
def Y4.app{gs:G}(I:Y4 g P v n hc mk dn un hN dN ZS ZR gN b H D ed tr k):Y4 (g++gs) P v n hc mk dn un hN dN ZS ZR gN b H D ed tr k:=I.kp (Z5:=[]) ZK.app I.Zo.app λ_ _=>Xy
def Y4.fr(I:Y4 g P v n hc mk dn un hN dN ZS ZR gN b H D ed tr k)(f:Fr g g'):Y4 g' P v n hc mk dn un hN dN ZS ZR gN b H D ed tr k:=by
 refine I.kp (Z5:=[0,1,2]) ⟨f.len,λj o a e=>f.get j o (by simp at a;lia) e⟩ f.Zo λj a z=>?_
 have l1:=I.lo;have c:=I.up;have d:=l1 v #[3]
 have:3<=j:=by
  simp![YG,Xy,VD,forall_eq_or_imp,forall_eq]at l1 c a;lia
 simp at z;lia
def Y4.more(I:Y4 g P v n hc mk dn un hN dN ZS ZR gN b H D ed tr k):Y4 g P v n hc mk dn un hN dN ZS ZR gN b H D ed tr (k+1):=by
 let⟨ds,f,l1⟩:=I.ld;let⟨m1,e,d,⟨es,c,h⟩,a⟩:=I.md;have:=I.ed;exact⟨I.Zo,I.land.mono (by lia),⟨ds,f,by lia⟩,I.lu,⟨m1,e,d,⟨es,c,by lia⟩,a⟩,I.hi,by lia,I.lo,I.up⟩
def acQ{t:List U}(A:P.ok)(I:Zz g v P H D ed tr hN dN ZS ZR gN B)(y:0<=ed)(E:B<=10000)(C:Kr P H)(N:Kd P H w l cs)(G:∀c∈cs,Kz P c)(u:g[m]?=some (.S (l.map uC)))(J:g[ZS]?=some (.S t))(F:t.length<=100)(K:g[ZR]?=some (.S O))
  (h:BV g v P H D ed tr hN dN ZS ZR gN B t (Chg H cs) Q):JE M (d+17) 57 [.ref v,.Z1 [sW w,.ref m]] g X Q:=by
 refine xf (R:=λw g'=>∃(xs:List U) (oN nN:Nat),Zz g' v P (Chg H cs) (Dat (ed+1) H (Chg H cs) D) (ed+1) (tr+1) hN dN ZS ZR gN (B+625)/\ZK [v,hN,dN,ZS,ZR,gN] g g'/\KD [v,hN,dN,gN] g g'/\g'[ZS]?=some (.S (t++[.Z1 [.ref oN,.ref nN]]))/\g'[ZR]?=some (.S [])/\g.length<=w/\g'[w]?=some (.S xs)) (λ{X Q} z=>?_) λw g' ⟨xs,oN,nN,a1,a2,r,o,k,j,f⟩=>h w xs g' oN nN a1 a2 r o k j f;obtain⟨W,⟨L,Y,rfl⟩|⟨rfl,a,b,i,V,T,rfl,rfl⟩⟩:=N
 .rcases L with⟨rfl,l1⟩|rfl
  .obtain ⟨⟨q,i⟩,rfl⟩:∃c,cs=[c]:=List.length_eq_one_iff.mp l1
   exact vE A I y E C (G _ #[3]) u J F K λw xs g' oN nN a1 a2 r o k j f=>z w g' ⟨xs,oN,nN,a1,a2,r,o,k,j,f⟩
  .exact vB A I y E C G (by lia) u J F K λw xs g' oN nN a1 a2 r o k j f=>z w g' ⟨xs,oN,nN,a1,a2,r,o,k,j,f⟩
 .exact vA A I y E C V T G u J F K λw xs g' oN nN a1 a2 r o k j f=>z w g' ⟨xs,oN,nN,a1,a2,r,o,k,j,f⟩
def xr(f:P.ok)(Z8:Yo g n hc mk dn un P H D ed tr k)(r:Kd P H w l cs)(e:g[m]?=some (.S (l.map uC)))(h:∀gs:G,(∀c∈cs,Kz P c)->Q .ZN (g++gs))(u:∀(gs:G) (O:List U),Q (.Z1 O) (g++gs)):JE M (d+2) 54 [Zp P,.ref n,.Z1 [sW w,.ref m]] g X Q:=by
 obtain⟨v,⟨o,j,rfl⟩|⟨rfl,a,b,i,t,s,rfl,rfl⟩⟩:=r
 .exact nO (o.imp_left And.left) f e j (by simpa using h [] j)
 .exact nM f Z8.md (by simp![Ja,Z8.ht]) (λp q=>aM (key:=Aa) (λa b=>aw) (aI.mpr q)) t s e h λgs O _=>u gs O
def B0:List Z5:=match(Ct.body.drop 6).head? with
 |some (.for _ _ b)=>b
 |_=>[]
def mj{c:Bool}(h:I8 (sW w) [sW "undo",sW "redo"]=some c):Jc .Wh (sW w) (.ref g.length) (g++[.S [sW "undo",sW "redo"]])=some c:=by
 simp![Jc,items,ah,h]
def vj(h:Kd P H w l cs):I8 (sW w) [sW "undo",sW "redo"]=some false:=by
 obtain⟨_,⟨⟨rfl,_⟩|rfl,_⟩|⟨rfl,_⟩⟩:=h<;>decide
def zq{z y u E C j:Option U}(A:P.ok)(I:Y4 g P v n hc mk dn un hN dN ZS ZR gN b H D ed tr k):wpS M (d+19) (B0.take 2) [z,some (.ref 2),some (Zp P),y,some (.ref v),some (.ref n),some (.bl true),u,E,C,j] g X λf g'=>∃ZU,f=.nx ZU /\∃(w:String) (m:Nat) (l cs:List (Pt×Int)),Fr g g'/\g.length<=m/\Kd P H w l cs/\g'[m]?=some (.S (l.map uC))/\ZU=[z,some (.ref 2),some (Zp P),y,some (.ref v),some (.ref n),some (.bl true),u,some (.Z1 [sW w,.ref m]),C,j]:=by
 have N:3<=hc:=by have:=I.up hc #[3];have:=I.lo v #[3];lia
 unfold B0 Ct;simp![List.drop,List.head?,List.take];simp?[(aJ I.md.md).1];refine wb A I.Zo N I.md.ht (λp J=>aM (key:=Aa) (λa b=>aw) (aI.mpr J)) I.hi (λg' w m o f=>?_) (λg' m a b i L K f t e=>?_) λg' m w cs o ok f t e=>?_
 .have F:I8 (sW w) [sW "undo",sW "redo"]=some true:=by rcases o with rfl|rfl<;>decide
  simp?[mj F];refine dB A f.Zo.app λq g2 G B=>?_;simp?;refine aA B.Zo #[1] #[1] λr g3 R Q O=>?_
  simp?;have f4:=(((f.trans (Fr.app f.Zo)).trans B).trans O);have ok:∀c∈[(q,r-1000)],Kz P c:=λc hc=>by rw[XM.mp hc];exact⟨G,by simp only;lia,by simp only;lia⟩
  exact⟨_,rfl,"put",g3.length,[(q,r-1000)],_,f4.trans (Fr.app f4.Zo),f4.len,⟨by simp,.inl ⟨.inl ⟨rfl,rfl⟩,ok,rfl⟩⟩,ah,rfl⟩
 .have kd:Kd P H "lift" [(a,i),(b,i)] (Kx H a b i):=⟨by simp,.inr ⟨rfl,a,b,i,L,K,rfl,rfl⟩⟩
  simp?[mj (vj kd)];exact⟨_,rfl,_,m,_,_,f.trans (Fr.app f.Zo),t,kd,aa e,rfl⟩
 .have kd:Kd P H w cs cs:=by
   refine⟨?_,.inl ⟨?_,ok,rfl⟩⟩
   .rcases o with⟨_,h⟩|⟨_,h⟩<;>lia
   .exact o.imp_right And.left
  simp?[mj (vj kd)];exact⟨_,rfl,_,m,_,_,f.trans (Fr.app f.Zo),t,kd,aa e,rfl⟩
def Y4.ns(I:Y4 g P v n hc mk dn un hN dN ZS ZR gN b H D ed tr k):∀j∈[n,hc,mk,dn],j ∉ [v,hN,dN,ZS,ZR,gN]:=λj a z=>by have:=I.lo j z;have:=I.up j a;lia
def Y4.nk(I:Y4 g P v n hc mk dn un hN dN ZS ZR gN b H D ed tr k):∀j∈[v,hN,dN,ZS,ZR,gN],j≠mk:=λj a z=>I.ns mk #[3] (z ▸ a)
def adT(h:j∈[v,hN,dN,ZS,ZR,gN]):j∈[v,hN,dN,ZS,ZR,gN,n,hc,mk,dn]:=Rj [n,hc,mk,dn] h
def adm(h:j∈[n,hc,mk,dn]):j∈[v,hN,dN,ZS,ZR,gN,n,hc,mk,dn]:=WQ [v,hN,dN,ZS,ZR,gN] h
section
variable{g1 g2 g3 g4 g5 g6:G}{ds:List U}{YZ q oN nN:Nat}
def Y4.back(I:Y4 g1 P v n hc mk dn un hN dN ZS ZR gN b H D ed tr k)(a:∀j∈[v,hN,dN,ZS,ZR,gN,n,hc,mk,dn],j ∉ [q])(t:Zz g3 v P (Chg H cs) (Dat (ed+1) H (Chg H cs) D) (ed+1) (tr+1) hN dN ZS ZR gN (625*k+625))(o:ZK [n,hc,mk,dn] g3 g4)
  (r:Yo g4 n hc mk dn YZ P (Chg H cs) (Dat (ed+1) H (Chg H cs) D) (ed+1) (tr+1) (k+1)) (g:ZK [q] g4 g5):Zz g5 v P (Chg H cs) (Dat (ed+1) H (Chg H cs) D) (ed+1) (tr+1) hN dN ZS ZR gN (625*(k+1))/\Yo g5 n hc mk dn YZ P (Chg H cs) (Dat (ed+1) H (Chg H cs) D) (ed+1) (tr+1) (k+1)/\n≠mk:=by
 have c:∀j∈[v,hN,dN,ZS,ZR,gN],j ∉ [n,hc,mk,dn]:=λj d z=>I.ns j z d;have f:=r.up g λj d=>a j (adm d);exact⟨((t.kp o (c _ #[3]) (c _ #[3]) (c _ #[3]) (c _ #[3])).kp g (a _ #[3]) (a _ #[3]) (a _ #[3]) (a _ #[3])).mono (by lia),f,λz=>by have:=f.md;rw[z,f.X7]at this;cases this⟩
def Y4.next(I:Y4 g1 P v n hc mk dn un hN dN ZS ZR gN b H D ed tr k)(J:∀j∈[v,hN,dN,ZS,ZR,gN,n,hc,mk,dn],j ∉ [q])(Q:3<=q)(W:∀c∈cs,Kz P c)(K:ZK [v,hN,dN,ZS,ZR,gN] (g1++g2) g3)(L3:Zz g3 v P (Chg H cs) (Dat (ed+1) H (Chg H cs) D) (ed+1) (tr+1) hN dN ZS ZR gN (625*k+625))(V:g3[ZS]?=some (.S (ds++[.Z1 [.ref oN,.ref nN]])))(dl:ds.length<=k)(U:g3[ZR]?=some (.S []))(u:ZK [n,hc,mk,dn] g3 g4)
  (Y:Yo g4 n hc mk dn YZ P (Chg H cs) (Dat (ed+1) H (Chg H cs) D) (ed+1) (tr+1) (k+1)) (t:ZK [q] g4 g5) (r:Kp mk g5 g6) (R:g6[mk]?=some (.ZV (Kj Aa (Ac (Dat (ed+1) H (Chg H cs) D)) (Ad P)))):Y4 g6 P v n hc mk dn YZ hN dN ZS ZR gN b (Chg H cs) (Dat (ed+1) H (Chg H cs) D) (ed+1) (tr+1) (k+1):=by
 let⟨Z,f,N⟩:=I.back J L3 u Y t;have L:∀j∈[v,hN,dN,ZS,ZR,gN],j ∉ [n,hc,mk,dn]:=λj a z=>I.ns j z a;have O:=I.ed;have M:dn≠mk:=λz=>by let⟨_,e,_⟩:=f.dn;rw[z,f.X7]at e;cases e
 let⟨es,T,y⟩:=f.dn;have X:Yo g6 n hc mk dn YZ P (Chg H cs) (Dat (ed+1) H (Chg H cs) D) (ed+1) (tr+1) (k+1):=⟨r.get _ _ N f.md,r.get _ _ f.ne f.ht,R,⟨es,r.get _ _ M T,y⟩,f.ne⟩;have d:ZK [mk] g5 g6:=r.l #[3]
 have nk:∀j∈[v,hN,dN,ZS,ZR,gN],j ∉ [mk]:=λj a z=>I.nk j a (XM.mp z);have to:∀(j:Nat) (o:Z6),j∈[v,hN,dN,ZS,ZR,gN]->g3[j]?=some o->g6[j]?=some o:=λj o a e=>d.get j o (nk j a) (t.get j o (J j (adT a)) (u.get j o (L j a) e));have v3:=I.lo v #[3]
 have w:Lo 3 g1 g6:=by
  have G:∀j∈[n,hc,mk,dn],3<=j:=λj a=>by have:=I.up j a;lia
  have F:=(ZK.app (Z5:=[]) (g:=g1) (gs:=g2)).lo (m:=3) #[3]
  have E:=K.lo (m:=3) λj a=>(I.lo j a).1;have C:=u.lo G;have B:=t.lo (m:=3) λj a=>by rw[XM.mp a];exact Q
  have A:=d.lo (m:=3) λj a=>by rw[XM.mp a];exact G mk #[3]
  exact⟨Hx F.len (Hx E.len (Hx C.len (Hx B.len A.len))),λj o a e=>A.get j o a (B.get j o a (C.get j o a (E.get j o a (F.get j o a e))))⟩
 exact⟨Bag.lo I.Zo w (Hz _),Z.kp d (nk v #[3]) (nk hN #[3]) (nk dN #[3]) (nk gN #[3]),⟨_,to _ _ #[3] V,by rw[Xs,Um];lia⟩,⟨_,to _ _ #[3] U⟩,X,abo I.hi W,by lia,I.lo,I.up⟩
end
def aau{Z Y W R C:Option U}(y:P.ok)(h8:P.w*P.s<=8/\P.d*P.s<=8)(I:Y4 g P v n hc mk dn un hN dN ZS ZR gN b H D ed tr k)(hk:k<=10)(F:∀a∈[v,hN,dN,ZS,ZR,gN,n,hc,mk,dn],a<m)(kd:Kd P H w l cs)(em:g[m]?=some (.S (l.map uC))):wpS M (d+19) ((B0.drop 2).take 1) [Z,some (.ref 2),some (Zp P),Y,some (.ref v),some (.ref n),some (.bl true),W,some (.Z1 [sW w,.ref m]),R,C] g X λf g'=>∃ZU,f=.nx ZU /\∃(YZ:Nat) (H' D':Ht) (UJ UI:Int) (o8 o9 R:Option U),Y4 g' P v n hc mk dn YZ hN dN ZS ZR gN b H' D' UJ UI (k+1)/\ZU=[Z,some (.ref 2),some (Zp P),Y,some (.ref v),some (.ref n),some (.bl true),W,o8,o9,R]:=by
 unfold B0 Ct;simp![List.drop,List.head?,List.take];simp?;refine xr y I.md kd em (λgs N=>?_) λgs O=>?_
 .have Q:=aa (gs:=gs) em
  have c:=I.app (gs:=gs);generalize g++gs=g1 at *;have ml:m<g1.length:=(Yh.mp Q).1;have lo:=c.lo;have up:=c.up;let⟨ds,L,K⟩:=c.ld;let⟨O,B⟩:=c.lu;have t:=c.ed;have gt:∀x,m<=x->x ∉ [v,hN,dN,ZS,ZR,gN,n,hc,mk,dn]:=λx h z=>by have:=F x z;lia
  have nl:∀x,m<=x->x ∉ [v,hN,dN,ZS,ZR,gN]:=λx h z=>gt x h (by simp at z ⊢;lia)
  have E:∀x,m<=x->x ∉ [n,hc,mk,dn]:=λx h z=>gt x h (by simp at z ⊢;lia)
  have ns:∀j∈[n,hc,mk,dn],j ∉ [v,hN,dN,ZS,ZR,gN]:=λj o z=>by have:=lo j z;have:=up j o;lia
  have nr:∀j∈[v,hN,dN,ZS,ZR,gN],j ∉ [n,hc,mk,dn]:=λj o z=>ns j z o;have Jb:∀j∈[v,hN,dN,ZS,ZR,gN,n,hc,mk,dn],j ∉ [g1.length]:=λj o z=>by have:=F j o;simp at z;lia
  simp?[Q];refine acQ y c.land.app t.1 (by lia) c.hi kd N ah (aa L) (by lia) (aa B) λw' xs g3 oN nN L3 u _ e3 e4 lw ew=>?_
  have M3:=(c.md.up (Z5:=[]) (ZK.app (gs:=[.S (l.map uC)])) #[3]).up u ns
  have T:=u.get m _ (nl m (Hz _)) (aa Q);have eq3:=u.get g1.length _ (nl _ (SW ml)) ah;have dk:(w = "put" \/ w = "edit")/\g3[m]?=some (.S (cs.map uC))\/w = "lift" /\∃a b i,Ae P a=true/\Ae P b=true/\g3[m]?=some (.S [uC (a,i),uC (b,i)])/\cs=Kx H a b i:=by
   obtain⟨_,⟨hw,_,rfl⟩|⟨rfl,a,b,i,ha,hb,rfl,rfl⟩⟩:=kd
   .exact .inl ⟨hw.imp_left And.left,T⟩
   .exact .inr ⟨rfl,a,b,i,ha,hb,T,rfl⟩
  simp?;refine vQ y h8 M3 (by lia) ⟨t.1,by lia⟩ N dk λg4 YZ M4 r=>?_
  have J:=r.get m _ (E m (Hz _)) T;have eq4:=r.get g1.length _ (E _ (SW ml)) eq3;have G:=r.get w' _ (E _ (by simp at lw;lia)) ew
  have ll:(l.map uC).length<16777000:=by have:=kd.1;rw[Yj];lia
  simp?[G,adL eq4 J,eq4,bj eq4 ll];have V:ZK [g1.length] g4 (g4.set g1.length (.S (l.map uC++[.ZN]))):=ZK.set #[3]
  generalize g4.set g1.length (.S (l.map uC++[.ZN]))=g5 at *;let⟨L5,A,n2⟩:=c.back Jb L3 r M4 V;refine vI y L5 (λj o=>(c.nk j (by simp at o ⊢;lia))) A.md A.ht A.X7 n2 A.ne λg6 k6 e6=>?_
  simp?;exact⟨_,rfl,YZ,_,_,_,_,_,_,_,c.next Jb (by have:=F v #[3];have:=(lo v #[3]).1;lia) N u L3 e3 K e4 r M4 V k6 e6,rfl⟩
 .simp?
  exact⟨_,rfl,_,_,_,_,_,_,_,_,I.app.more,rfl⟩
end
def law_ok(ns:List Int):JE M (d+20) 59 [.Zm (ns.map U.int)] [] X λu _=>u=.bl true:=by
 simp? only[Ct]
 simp?;refine wO ns λzs=>?_;have N:Bag [.S (zs.map U.int),.S (zs.map U.int),Bs 1 0 7]:=⟨zs,0,7,rfl,rfl⟩;revert N;generalize([.S (zs.map U.int),.S (zs.map U.int),Bs 1 0 7]:G)=g0;intro N;simp?;refine vT N λP g1 K f1=>?_;have r:=(yt K).1;have h8:P.w*P.s<=8/\P.d*P.s<=8:=by
  simp![B4,YG,Xy,VD]at K;rcases K with rfl|rfl|rfl|rfl|rfl|rfl|rfl<;>decide
 simp?;refine vH r f1.Zo λH m g2 hH f2 hm1 t=>?_;have L:∀p,Ae P p=true->Am (Kj Aa (λp=>U.int (H p)) (Ad P)) (Aa p)=some (.int (H p)):=λp hp=>aM (key:=Aa) (λa b=>aw) (aI.mpr hp);have b2:=f2.Zo.len;simp?;refine nV r (by simp![Ja,t]) L λo n3 R3=>?_
 simp?;refine vC r R3 hH λX8 hN dN ZS ZR gN E V g T=>?_;simp?;refine vU r h8 (aa (aa t)) λg5 n hc mk dn un F M5 c5 Z d5 _ lm l1 l2 l3 l4=>?_;have lt:=V.lt;have t1:=(Yh.mp g).1;have t2:=(Yh.mp T).1;have m2:m<g2.length:=(Yh.mp t).1;have v2:(g2++o).length=g2.length+o.length:=Xs;have b1:=f1.Zo.len;have nm:∀j∈[(g2++o).length,hN,dN,ZS,ZR,gN],j ∉ [m]:=λj hj z=>by
  simp![YG,Xy,VD]at hj z;lia
 have W:Y4 g5 P (g2++o).length n hc mk dn un hN dN ZS ZR gN (g2++o++X8).length H (λ_=>0) 0 0 0:=by
  have q:=F.l (Z5:=[m]) #[3]
  refine⟨Bag.kp f2.Zo.app.app F (by lia),V.kp q (nm _ #[3]) (nm _ #[3]) (nm _ #[3]) (nm _ #[3]),⟨[],q.get _ _ (nm _ #[3]) g,Hz _⟩,⟨[],q.get _ _ (nm _ #[3]) T⟩,⟨M5,c5,Z,⟨[],d5,Hz _⟩,by lia⟩,hH,by lia,λa c=>?_,λa c=>?_⟩
  .simp only [YG,Xy,VD]at c
   lia
  .simp only [YG,Xy,VD]at c
   lia
 generalize(g2++o++X8).length=B at W;generalize(g2++o).length=v at W ⊢;clear F M5 c5 Z d5 V g T E lt t1 t2 nm lm v2 R3;have r6:Aj 6=true:=ar (by lia) (by lia)
 simp?[r6];refine aB ((J4 6).map U.int) (λk Y g'=>∃(un:Nat) (H D:Ht) (ed tr:Int) (C A y R:Option U),Y4 g' P v n hc mk dn un hN dN ZS ZR gN B H D ed tr k/\Y=[some (.Zm (ns.map U.int)),some (.ref 2),some (Zp P),some (.ref m),some (.ref v),some (.ref n),some (.bl true),C,A,y,R]) (λk Y g' _=>aV) ⟨_,_,_,_,_,_,_,_,_,W,rfl⟩ (λk u Y g' hk Q=>?_) (λY g' Q=>?_)
 .obtain ⟨un,H,D,ed,tr,C,A,y,R,I,rfl⟩:=Q
  simp![Y0,Ym]at hk;let⟨x,hx,rfl⟩:=hk;let⟨rfl,hx2⟩:=di hx;refine aG.1 ⟨_,rfl,?_⟩;refine eT _ (λY g2 O=>?_) (B0.take 2) _ _ (zq r I);let⟨w,m',l,cs,f,J,kd,em,rfl⟩:=O;have all:∀a∈[v,hN,dN,ZS,ZR,gN,n,hc,mk,dn],a<g'.length:=λa c=>by
   have Z7:=I.land.lt;let⟨_,e1,_⟩:=I.ld;let⟨_,t⟩:=I.lu;let⟨_,e3,_⟩:=I.md.dn;have a1:=(Yh.mp e1).1;have a2:=(Yh.mp t).1;have a3:=(Yh.mp e3).1;have a4:=(Yh.mp I.md.md).1;have a5:=(Yh.mp I.md.ht).1;have a6:=(Yh.mp I.md.X7).1;simp![YG,Xy,VD]at c;rcases c with rfl|rfl|rfl|rfl|rfl|rfl|rfl|rfl|rfl|rfl<;>omega
  refine eT _ (λY g3 O=>?_) ((B0.drop 2).take 1) _ _ (aau r h8 (I.fr f) (by lia) (λa c=>HB (all a c) J) kd em)
  let⟨YZ,H',D',UJ,UI,p8,p9,p10,I',rfl⟩:=O;simp?;exact⟨_,_,_,_,_,_,_,_,_,I',rfl⟩
 .obtain ⟨un,H,D,ed,tr,C,A,y,R,I,rfl⟩:=Q
  simp?
end
def run(ns:List Int)(h:ns.length<=63):∃fu g',Ab M fu 40 59 [.Zm (ns.map U.int)] []=.ok (.bl true) g':=by
 let⟨fu,u,g',e,q⟩:=zL (law_ok (d:=20) (X:=λ_ _ _=>False) ns);subst q;exact⟨fu,g',e⟩
end
end ZG
open PySem PySem.W PyProof.Rows
theorem PySem.Challenge.cw_braemantle_k34_good_deeds_holds : PySem.Challenge.rw_braemantle_k34_good_deeds.Holds := by
 refine PI.abv (l:=PySem.Challenge.rw_braemantle_k34_good_deeds) (T:=ZG.T) (ms:=ZG.ms) (is:=ZG.AQ) (M:=ZG.M) (loose:=ZG.loose) (d:=40) (i:=59) (N:=20000) (x:="_law_script") (by kernel_rfl) ZG.all (by kernel_rfl) (by kernel_rfl) (by kernel_rfl) (by kernel_rfl) (by kernel_rfl) ⟨rfl,rfl,rfl,rfl,rfl,by decide +kernel⟩ ?hw rfl ⟨rfl,by decide,by decide,rfl⟩ rfl rfl rfl rfl rfl ZG.run
 case hw=>w_witness2
