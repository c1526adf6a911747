import PyProof.Rows.All
import Wide.All
import OpenK.AllK
import Wide.FinOn
import PyProof.EqAt
import PyProof.EqKinds
import PyProof.TupleCall
import KE.BitLaws
import Open.SpecLaws
import KE.OsHead
import KE.OsGo
import KE.KDictList
import KE.KDictOf
import PyProof.NeData
import KE.KNest
import PyProof.Draws
import PyProof.ZipIter
import KE.KLam
import KE.KMinKey
import KE.KSortedM
import PySem.Challenge.RW_twolists_s01_answers
set_option Elab.async false
set_option linter.all false
set_option maxRecDepth 100000
set_option maxHeartbeats 4000000
set_option hygiene false
open PySem.W (FnAt Frag WRecords codeIn emptyDict envX findIn fnOf handedIn hasDictIn instObj isFn keepIn kla_fn lookIn makesIn methodObj nsIn plainGet plainOver tabIn takerIn)
open Vbnlak (Answer Call LIMIT RECORDS RELS Rel TOLD TOLDEVER across bit choices compMask conceptOf coreRecs coreTold deepest fits join keyOk letter lineOf lines numbers others parts points possible recordMask relsOf sideOf single spots spotsOf standing stands sureness textOf toldMask translated ways world)
open VbnlakNeutral (asked1 counted natural whole32)
open List (Perm Sublist filter filterMap map replicate take zipWith)
open PyFlat (calls played)
def aq:=@if_neg
def ay:=@if_pos
def aI:=@PySem.wpAny_bind
def aJ:=@List.length_map
def aL:=@Ne.symm
def bp:=@Nat.le_refl
def bq:=@Nat.le_trans
def br:=@PySem.wpAny_pure
def bE:=@List.mem_cons
def bP:=@List.map_map
def bZ:=@Option.some.inj
def cw:=@List.mem_map
def cB:=@List.length_cons
def cC:=@PySem.Heap.get?_push_of_some
def cG:=@List.getElem?_map
def cI:=@PySem.Heap.lt_size
def cK:=@List.mem_append
def cN:=@List.mem_of_getElem?
def cY:=@List.map_cons
def dc:=@List.length_append
def dM:=@List.getElem?_eq_some_iff
def eB:=@Int.toNat_natCast
def eM:=@Bool.false_ne_true
def eN:=@decide_eq_false
def eT:=@List.take_length
def eY:=@List.map_append
def eZ:=@PySem.Heap.get?_push_size
def fv:=@congrArg
def fP:=@List.size_toArray
def f7:=@Bool.and_eq_true
def f_:=@List.all_eq_true
def gb:=@Nat.ne_of_lt
def gc:=@Option.map_eq_some_iff
def gl:=@List.length_take
def gr:=@List.mem_cons_of_mem
def gu:=@List.mem_map_of_mem
def gD:=@List.filterMap_cons
def gN:=@PySem.boot_len
def gO:=@beq_eq_false_iff_ne
def g_:=@decide_eq_true
def im:=@List.mem_cons_self
def io:=@PySem.mem_of_lookup
def iG:=@List.map_congr_left
def iH:=@Nat.lt_of_lt_of_le
def iU:=@List.mem_filter
def i5:=@List.any_eq_true
def i6:=@List.append_nil
def jm:=@List.mem_range
def jz:=@List.append_assoc
def jA:=@List.foldl_cons
def jB:=@List.nodup_cons
def jC:=@Nat.add_le_add
def jU:=@List.getElem?_eq_getElem
def jV:=@Nat.le_of_lt
def kr:=@Bool.eq_iff_iff
def kt:=@List.filter_cons
def ku:=@List.mem_singleton
def kz:=@PySem.F.plainAttrs_list
def kC:=@PySem.Heap.size_push
def kD:=@PySem.wpAny_mono
def k_:=@List.any_cons
def lP:=@of_decide_eq_true
def mh:=@List.getElem?_append_left
def mn:=@Nat.zero_le
def mr:=@PySem.Paired.length
def m9:=@List.all_cons
def m_:=@List.contains_iff_mem
def ng:=@List.foldl_append
def nh:=@List.length_filter_le
def nI:=@if_true
def oj:=@Bool.false_or
def om:=@Bool.not_eq_true'
def oy:=@List.flatMap_cons
def oz:=@List.getElem?_append_right
def oA:=@List.mem_append_right
def oB:=@List.not_mem_nil
def oE:=@Nat.lt_irrefl
def oF:=@Nat.lt_of_le_of_lt
def oH:=@PySem.wpAny_call_entry
def oJ:=@PySem.wpAny_field
def pq:=@if_false
def pE:=@or_false
def pP:=@Bool.true_and
def pZ:=@List.mem_of_mem_drop
def p6:=@List.nil_append
def p7:=@List.nodup_append
def qa:=@PySem.F.slot_list_append
def qb:=@PySem.wpAny_Call_Name_kw
def qP:=@Classical.byContradiction
def qV:=@List.all_map
def qW:=@List.find?_cons
def qX:=@List.getD_eq_getElem?_getD
def qY:=@List.length_drop
def q_:=@PySem.F.slot_dict_keyiterator_next
def ra:=@PySem.F.type_list_append
def rb:=@PySem.Heap.SameBut.update
def sO:=@List.any_eq_false
def sP:=@List.drop_length
def sQ:=@List.getElem?_of_mem
def sR:=@List.lookup_cons
def sV:=@PySem.wpAny_seqItems
def sW:=@PySem.wpAny_truthy_bool
def sX:=@beq_iff_eq
def uB:=@Bool.false_and
def uO:=@List.find?_eq_none
def uP:=@List.flatMap_append
def uQ:=@List.getElem?_eq_none
def uS:=@List.length_range
def uU:=@List.mem_flatMap
def uV:=@List.range_succ_eq_map
def uX:=@Nat.mul_le_mul
def uY:=@Nat.ne_of_gt
def uZ:=@Nat.sub_self
def u5:=@PySem.F.slot_list_extend
def u6:=@PySem.wpAny_callSpecial?_slot
def u7:=@PySem.wpAny_typeNameOfWhole_keyiter
def u9:=@PySem.wpAny_typeNameOf_keyiter
def vf:=@decide_eq_true_eq
def xw:=@Bool.and_assoc
def xx:=@Bool.not_eq_false'
def xG:=@List.all_append
def xH:=@List.cons_append
def xI:=@List.contains_cons
def xJ:=@List.filter_append
def xK:=@List.getElem?_cons_zero
def xQ:=@Nat.le_of_ble_eq_true
def xR:=@Nat.lt_succ_of_lt
def yf:=@PyProof.Rows.callWith_type1
def yg:=@PySem.Calls.spliced_cons
def yh:=@PySem.codeAny_mono
def yi:=@PySem.wpAny_passesOwn
def zy:=@not_or
def zZ:=@Array.length_toList
def z_:=@Bool.false_eq_true
def Ae:=@Function.comp_def
def An:=@List.any_map
def Ao:=@Nat.le_of_eq
def Ap:=@Nat.lt_succ_self
def Aq:=@Nat.mul_le_mul_right
def Av:=@PySem.Calls.spliced_nil
def Aw:=@PySem.F.plain_max_loop
def Ax:=@PySem.F.type_list_extend
def Ay:=@PySem.Obj.data_mapFields
def Az:=@PySem.wpAny_holding
def AA:=@PySem.wpAny_letGo
def AB:=@PySem.wpAny_newObj_type
def AC:=@PySem.wpAny_setField
def Dd:=@Bool.and_eq_false_iff
def Ds:=@List.contains_eq_mem
def Dt:=@List.drop_eq_getElem_cons
def Du:=@List.filterMap_append
def Dv:=@List.filter_map
def Dx:=@List.getElem?_take_of_lt
def Dy:=@List.isEmpty_map
def Dz:=@List.length_eq_zero_iff
def DA:=@List.length_filterMap_le
def DB:=@List.map_flatMap
def DC:=@List.map_nil
def DD:=@List.mem_of_find?_eq_some
def DE:=@List.pairwise_map
def DG:=@Nat.le_add_right
def DH:=@Nat.min_eq_left
def DI:=@Nat.not_lt_zero
def DJ:=@Nat.succ_mul
def DK:=@Nat.zero_add
def ET:=@PySem.W.callWith_K
def EU:=@PySem.W.mg_of
def EV:=@PySem.Walks.list
def EW:=@PySem.sizeLine_eq
def EX:=@PySem.tupleKind_room_in1
def EY:=@PySem.wpAny_dictEntries
def EZ:=@PySem.wpAny_dictEpoch
def E1:=@PySem.wpAny_setField_rec
def Jp:=@Array.getElem?_toList
def Jq:=@Bool.and_false
def KQ:=@List.drop_drop
def KR:=@List.filterMap_map
def KS:=@List.filter_congr
def KU:=@List.filter_eq_self
def KW:=@List.find?_some
def KY:=@List.forIn_nil
def KZ:=@List.length_nil
def K0:=@List.map_take
def K1:=@List.mem_append_left
def K2:=@List.mem_of_mem_head?
def K3:=@List.of_mem_zip
def K4:=@List.pairwise_cons
def K6:=@List.perm_append_singleton
def K8:=@List.range_succ
def K9:=@List.take_of_length_le
def K_:=@List.take_succ
def K':=@List.zipWith_cons_cons
def Lf:=@Nat.eq_of_testBit_eq
def Lg:=@Nat.le_of_succ_le
def Lh:=@Nat.not_lt
def LB:=@Option.bind_some
def LC:=@PySem.F.args_dict_keyiterator_next_1
def LD:=@PySem.F.entry_dict_keyiterator_next
def LG:=@PySem.F.plainAttrs_dict
def LH:=@PySem.F.slot_dict_values
def LI:=@PySem.F.slot_tuple_iterator_next
def LJ:=@PySem.F.slot_zip_next
def LK:=@PySem.PassesOwn.never
def LL:=@PySem.Value.type.inj
def LM:=@PySem.codeAny_builtin
def LN:=@PySem.plainId_quiet
def LO:=@PySem.pushCells_keeps
def LP:=@PySem.wpAny_Call_method
def LQ:=@PySem.wpAny_attempt
def LR:=@PySem.wpAny_execs_nil
def LS:=@PySem.wpAny_fieldsOf
def LU:=@PySem.wpAny_isOneOf_keyiter
def LV:=@PySem.wpAny_pyIter_list
def LW:=@PySem.wpAny_pyIter_zip
def LX:=@PySem.wpAny_tryCatch
def MU:=@decide_eq_true_iff
def Tx:=@Array.getElem?_eq_getElem
def Tz:=@Bool.and_true
def TB:=@Bool.not_eq_false
def UW:=@List.all_eq_false
def UX:=@List.any_append
def UY:=@List.dropLast_concat_getLast
def UZ:=@List.drop_succ_cons
def U1:=@List.flatMap_map
def U2:=@List.flatMap_nil
def U4:=@List.forIn_cons
def U6:=@List.getElem?_range
def U8:=@List.getElem?_set_ne
def U9:=@List.getElem?_set_self
def U_:=@List.map_drop
def U':=@List.mem_filterMap
def Va:=@List.takeWhile_cons
def Vb:=@List.take_append_drop
def Vc:=@List.take_succ_cons
def Vd:=@List.zip_cons_cons
def Vn:=@Nat.add_le_add_left
def Vo:=@Nat.min_eq_right
def Vp:=@Nat.pow_le_pow_right
def Vq:=@Option.isSome_map
def Vs:=@PySem.Around.under_plainId
def Vt:=@PySem.Calls.callWith_builtin
def Vu:=@PySem.Calls.evalArgs_plain
def Vv:=@PySem.F.slot_dict_getitem
def Vw:=@PySem.Heap.get?_update_self
def Vx:=@PySem.Obj.cls_mapFields
def Vy:=@PySem.Obj.isFreed_of_fields
def Vz:=@PySem.W.callWith_K0
def VA:=@PySem.W.methodCall_KW
def VB:=@PySem.W.plainGet_of
def X6:=@decide_eq_decide
def agb:=@List.append_cancel_left_eq
def agc:=@List.find?_eq_some_iff_getElem
def agd:=@List.getElem?_cons_succ
def age:=@List.getElem?_eq_none_iff
def agf:=@List.getLast?_cons_cons
def aie:=@Nat.add_sub_cancel_left
def aif:=@Option.isSome_iff_exists
def aih:=@PySem.F.slot_dict_delitem
def aii:=@PySem.F.slot_dict_update
def aij:=@PySem.W.length_le_weightAllW
local macro_rules
|`(4.77)=>`(by unfold Vbnlak.within;rw[g_ (by omega),g_ (by omega)];rfl)
|`(4.76)=>`(aI (m:=Builtin.SmallTypes.ownedTupleIsFree (.ref (m+4))) ?_)
|`(4.75)=>`(AQ I 1.99 hs he (AR (bq (Ye kvs k) z) hd (dH.drop k) jY))
|`(4.74)=>`(fun y H3 e s=>⟨_,s _ _ q.2,?_,kb hD (q.1.trans s),?_⟩)
|`(4.73)=>`(fun c hc=>by refine⟨?_,?_,?_⟩<;>(show @Ne Nat _ _;omega))
|`(4.72)=>`(a0 (hb ae s1 σ H1 _ I1 q1) fun u s2 ⟨y,H2,I2,r2,q2⟩=>?_)
|`(4.71)=>`(Sublist.append (Sublist.refl _) (List.sublist_cons_self _ _))
|`(4.70)=>`(⟨s5 _ _ ax,aG.of (s5 _ _ (by rw[au nq];exact c3 _ _ a1))⟩)
|`(4.69)=>`({s with heap:=h1.push (seqObj "list" its.toArray 0),toks:=tk})
|`(4.68)=>`(kla_fn "<lambda>" qual params body scope cl pm (.ref c') ir)
|`(4.67)=>`(af (af H1 nm (.ah (((l.drop b).take k).map nV))) z2 `Ù)
|`(4.66)=>`(fun c z=>by obtain⟨x,e⟩:=hc c z;exact I.ok.vc x c (oZ x) e)
|`(4.65)=>`(fun _ _ _ _ ⟨dx,nd,h1,h2⟩ s=>⟨dx,nd,s _ _ h1,s _ _ h2⟩)
|`(4.64)=>`(nV (sureness (('_' s cx.number d.number:Nat):Int).toNat))
|`(4.63)=>`(fun c q=>by rw[au (zx c _ q (fun _ _ z=>nomatch z))];exact q)
|`(4.62)=>`(bJ (cO (aP (qE K true) (aa 1) (tC (.ref a.oW)))) 1.50 (bL))
|`(4.61)=>`(aI (m:=field (.ref (m+4)) 3) (oJ hz rfl (x:=.ref (m+2)) rfl ?_))
|`(4.60)=>`(EV (prog:=X.prog) (w:=X.w) (A:=X.A.in1) `_E It l Pa `Ġ)
|`(4.59)=>`((aw s.left).flatMap fun c=>(aw `Ð).map fun d=>((F c d:Nat):Int))
|`(4.58)=>`(A.deeper (envX 0.6 scope s.heap.objs.size f (.ref c') bv))
|`(4.57)=>`(aI (m:=field (.ref (m+4)) 2) (oJ hz rfl (x:=.bool false) rfl ?_))
|`(4.56)=>`(af H (ρ c) (.dK (gV (aB ds fun d=>nV `Ď) (kN d) (nV m))))
|`(4.55)=>`(dC (pv 0) T.bU T.Lb Dk `Ý (Ma T.Df) .nil bf (ao (bw) (aA)))
|`(4.54)=>`(((aw s.left).take i).flatMap fun c=>(aw `Ð).map fun d=>nV `Ď)
|`(4.53)=>`(⟨[],[(1.0 "key",.ref f),(1.0 "default",.int dflt td)]⟩)
|`(4.52)=>`(match s'.heap.get? p.2 with|some o=>some (HO.aN o U0)|none=>none)
|`(4.51)=>`(fun v=>match v with|.int z=>some (nV (sureness z.toNat))|_=>none)
|`(4.50)=>`(if k=true then tc σ H3 fun w' H4=>r' y w' H4 Q else Q (.bl false) H3)
|`(4.49)=>`(te σ H fun x H1=>tl σ H1 fun l H2=>th σ H2 fun u H3=>r x l u H3 Q)
|`(4.48)=>`(B0 m7 e7 (by rw[aJ];exact bq (jC lt (show _<=16 by omega)) `Æ) ?_)
local macro_rules
|`(4.47)=>`(jP (fL (dC (pv 0) T.bU T.xL qR `Ý (yl T.uE) .nil bf `Ă)))
|`(4.46)=>`((I.aO b u e).km (fun c v hc q=>k c v ?_ q) (fun _ q=>q) fun _ _ q=>q)
|`(4.45)=>`((if(0:Nat)=0 then kf n else kf m)>(if(1:Nat)=0 then kf n else kf m))
|`(4.44)=>`(zK (ds:=[]) (dvs:=[]) (E:=E0) F hr hb .nil hx I1 r (by rw[i6];exact q))
|`(4.43)=>`(fun xs H Q=>∃a kvs,xs=[V.ref a]/\H a=some `Þ/\Q (.int `Ö) H)
|`(4.42)=>`(match k with|.inl z=>some (nV (uq 3.63 (cq `ñ z.toNat)))|_=>none)
|`(4.41)=>`(I.turned (t':=s.toks) (fun b o hb e=>(sb.2 b hb).trans e) f0 f1 f3 f4 f5)
|`(4.40)=>`(bJ (cO (aP we (bo K (aa 0) "depth") (aa 2))) (aK (tC (.bl false))) (bL))
|`(4.39)=>`(((aw s.left).take i).flatMap fun c=>(aw `Ð).map fun d=>nV ('_' s c d))
|`(4.38)=>`(bJ (ji (tB (bj a.aQ "has_concept" iT [] E0 (aa 0) `Ą))) 1.50 (bL))
|`(4.37)=>`(ai (aa 2) (ai (aP jf (bo K (aa 0) "needs") (bo K (aa 1) "needed")) (ap)))
|`(4.36)=>`(findIn K (.ref C) "__setattr__"=some (some (.builtin "object.__setattr__")))
|`(4.35)=>`([some (.ref c.p),some (.int key),some (.int x),some (.int y),some (.int m)])
|`(4.34)=>`(VA (pl:=pl) (a0 '1' fun u s1 ⟨x,H1,I1,rx,a,dx,fs,ex,ea,l,q⟩=>?_) ht)
|`(4.33)=>`(by show(if x.whole=true then none else some (nV `Ó))=_;rw[ew,e'];rfl)
|`(4.32)=>`(⟨by rw[aJ];exact z,AE.toList,c',hv,by rw[Array.toArray_toList];exact qo⟩)
|`(4.31)=>`(a0 2.67 fun us s1 ⟨vs,H1,I1,r1,q1⟩=>hc ae s1 σ H1 vs us Q I1 r1 q1)
|`(4.30)=>`(.builtin "max.loop" ⟨[.ref It,.ref q,.ref S],[(1.0 "default",dv)]⟩)
|`(4.29)=>`(fun t ht=>⟨up _ (h.told t ht).1,up _ (h.told t ht).2.1,(h.told t ht).2.2⟩)
|`(4.28)=>`(⟨M.hm _ _ (h.eK x hx).1,M.hm _ _ (h.eK x hx).2.1,M.hm _ _ (h.eK x hx).2.2⟩)
|`(4.27)=>`(bH sF [] E0 (ai (aa 1) (ai (dI (aa 4) (aa 2)) (ai (dI (aa 4) (aa 5)) (ap)))))
|`(4.26)=>`(aM (bN (ao (dC `Ò T.jo T.Vi J8 `Ý (VX T.JA) .nil bf `ă) (aA))))
|`(4.25)=>`(∀(pm ir:Value)(c':Addr)(u:Value),bindArgs (1.53) ⟨[u],[]⟩=pure [(x,u)])
|`(4.24)=>`(h r _ (fun b o e nb=>?_) QQ (by rw[da nr];exact er) ⟨Cz,?_,Tn,By.imp id ?_⟩)
|`(4.23)=>`(aF (aM (dC `Ò T.jo T.Vk J_ `Ý (VZ T.JD) .nil bf (ao (pv 1) (ao (fg fj (bw)) (aA))))))
|`(4.22)=>`(⟨.ref p,rfl,⟨⟨fo,s1 _ _ (cJ jK (nS _ _ jK)),rN⟩,?_,fun q hq=>?_⟩,?_⟩)
|`(4.21)=>`(∀(s:Shared)(us:`Ì),us.length=`_z->BindsTo s fd ⟨us,[]⟩ (ps.zip us))
|`(4.20)=>`(bv.map fun q=>some ((fun y:Str=>if y="ground" then V.ref g else V.ref pr) q.1))
|`(4.19)=>`(Mc ha hb I h fun v u s2 x y H2 I2 rx ry q=>ho ae s2 σ H2 x y v u Q I2 rx ry q)
|`(4.18)=>`(fun c o hb q=>(sb.2 c ';').trans (hk c o ';' ';' ';' ';' q))
local macro_rules
|`(4.17)=>`(∀(i:Nat)(x:V)(H' bM:Hp),i<`Ã->ag H H'->J.l6 i H' x bM->xs[i]? =some x/\bM=H')
|`(4.16)=>`(cr.Wk tY AM kk (by rw[rD];intro z;cases z) fun r H5 s5 Fh fr ⟨υ,e5⟩ nr nS=>?_)
|`(4.15)=>`(⟨fun i m σ H=>m=`Ã-i/\i<=`Ã/\Pv i σ H,⟨`Ã,`Õ,mn _,h0⟩,?_⟩)
|`(4.14)=>`(Rec.mk k (Vbnlak.sorted (ins.map Int.toNat)) (Vbnlak.sorted (outs.map Int.toNat)))
|`(4.13)=>`(bO (jP (fL (dC (pv 0) T.bU T.xL qR `Ý (yl T.uE) .nil bf `ă))) ')' (bS))
|`(4.12)=>`(fun x hx=>⟨fun c hc=>up c ((h.aU x hx).1 c hc),fun c hc=>up c ((h.aU x hx).2 c hc)⟩)
|`(4.11)=>`(bj a.cU "refusal" (kZ a) [] E0 0.57 (ai (aa 1) (ai (eG 0.5 (tC (.int 5))) (ap))))
|`(4.10)=>`(⟨_,_,_,_,_,_,_,rfl,EV (A:=X.A.in1) `_E _ a cQ `Ġ,st,afv hb,fun h' tk hk=>?_⟩)
|`(3.99)=>`(fun b hb=>⟨(hf b hb).2.2.2.1,(hf b hb).2.1,(hf b hb).2.2.2.2.1,(hf b hb).2.2.2.2.2⟩)
|`(3.98)=>`(∀D H',H D=none->ag H H'->H' D=some (.ah (kvs.filterMap fun p=>f p.1 p.2))->Q (.ref D) H')
|`(3.97)=>`(∀v u s2 x y H2,az X ae σ H2 s2->bA x v->bA y u->R x y H2->wpAny `Î X.A (f v u) Q X.xe s2)
|`(3.96)=>`(fun v bY=>wpAny `Î X.A (eval b X.am) (fun u ie=>wpAny `Î X.A (f v u) Q X.xe ie) X.xe bY)
|`(3.95)=>`(a0 (h pos ae s σ H _ I hq) fun us s1 ⟨xs,H1,I1,r,z,q⟩=>⟨by rw[<-r.length];exact z,?_⟩)
|`(3.94)=>`(bO (df QZ (gz Fd rfl T.gF gN (ao `Ò (aA))) `Ò (db _)) (aF (aM (b_ tQ (pv 2) (bw)))) (bS))
|`(3.93)=>`(ai (aa 1) (ai (uv (t6 K) (aa 0) (pK (aa 1)) (pK (aa 2))) (ai (aP (zJ K) (aa 4) (bI (ap))) (ap))))
|`(3.92)=>`(aK (aP (R9 K true) (bo K (aa 0) "name") (fY (dF K (aa 1)) (aH 3) (ig) (bo K (aa 3) "name") [3])))
|`(3.91)=>`(fun y H1=>aa 0 [some (.ref p)] H1 (Hg K ("ground":Str) y ({nx:=fun _ H'=>Q .aX H',rt:=Q}:gB) [some (.ref p)]))
|`(3.90)=>`(fun i=>((TM.mk (100*s) 0 [] rows)[i]?).bind fun x=>if x.whole=true then none else some (nV `Ó))
|`(3.89)=>`(((∃kvs,H1 d=some `ė/\R (qT d o kvs) H1)\/∃kvs,H1 d=some (.aN o (.dT kvs))/\R (KN d o kvs) H1))
|`(3.88)=>`((o.cls=.none/\o.data=.fields #[])\/((o.cls=.type "list"\/o.cls=.type "tuple")/\∃vs,o.data=.seq vs))
|`(3.87)=>`(aI (m:=firstArgMember _ _) (wpAny_of_eq (a:=Value.none) (by first|rfl|(simp only[firstArgMember];rfl)) ?_))
|`(3.86)=>`(⟨fun⟨u,hu,e⟩=>⟨u,hu,by rw[<-hk,e];simp⟩,fun⟨u,hu,e⟩=>⟨u,hu,by have:=eq_of_beq e;omega⟩⟩)
|`(3.85)=>`(⟨⟨xs,xs[i],q,by simp[cz]⟩,Pv (i+1),fun aS H' p'=>⟨`Ã-(i+1),`Å,rfl,cz,p'⟩,fun x H' y=>?_⟩)
|`(3.84)=>`(⟨fun b o e n hb hx=>?_,fun b o e n hb hx=>?_,I.base.free,fun b o e hx=>?_,I.base.oa,I.base.jI,I.base.mW⟩)
|`(3.83)=>`(c5<|zc Aj hr T.Aj T.JZ (ao (pv 1) (ao (d_ hu (pv 4) (pv 2) `Ú) (ao (d_ hu (pv 4) (pv 5) `Ú) (aA)))))
|`(3.82)=>`(bJ (xm (cO (aP t5 (aa 4) `ā)) (cO (aP we (aa 4) (tC (.int (31)))))) (aK (eG 0.5 (tC (.int 4)))) (bL))
|`(3.81)=>`(cT.pure h hc (((s1.trans S9).trans (ag.new iA)).trans (ag.new hr)) (((s1.trans S9).trans (ag.new iA)).free hr) ?_)
|`(3.80)=>`(iN rfl ⟨hT,fun y=>if y="ground" then .ref g else .ref pr,fun p hp=>?_,fun qp f c' fd H2 hf iW olds hL F hb=>?_⟩)
|`(3.79)=>`((fun i H'=>i<=`Ã/\ag H H'/\∃ys,H' D=some (.ah ys)/\`ø=i/\∀(j:Nat)(y:V),ys[j]? =some y->R j y (bh H' D)))
|`(3.78)=>`(⟨fun b o e n fc hx=>?_,fun b o e n fc hx=>?_,fun b o e n hx=>?_,un.there,fun b xs e=>?_,fun b o u e=>?_,fun b ps e=>?_⟩)
local macro_rules
|`(3.77)=>`(⟨ok.mod,ok.kind,ok.mz,ok.yp,ok.above,ok.inj,ok.has,ok.vc,ok.hd,ok.frames,ok.IN,ok.FF,ok.bs,ok.kF,ok.Cc,ok.AZ,ok.kM,ok.rG⟩)
|`(3.76)=>`(a0 (hi ae s σ H _ I h) fun iv s1 ⟨y,H1,I1,ry,q1⟩=>a0 (ho ae s1 σ H1 _ I1 q1) fun u s2 ⟨x,H2,I2,rx,a,ov,ex,g,q2⟩=>?_)
|`(3.75)=>`(if((spotsOf s x).all fun y=>y.contains d)=true then(2:Int)else if((spotsOf s x).any fun y=>y.contains d)=true then 1 else 0)
|`(3.74)=>`(⟨v,ba cs H',I.Mj os ?_ (Pf rS fun c z=>by obtain⟨o,e,_⟩:=fz c z;exact⟨o,e⟩) fu (ch:=[]) (fun b z=>nomatch z),rv,q⟩)
|`(3.73)=>`(t ⟨fun aS H'=>oN H H' (D.nx aS),fun v H'=>oN H H' (D.rt v),fun aS H'=>oN H H' (D.bk aS),fun aS H'=>oN H H' (D.ct aS)⟩ σ H)
|`(3.72)=>`(∀D H' ys,H D=none->ag H H'->H' D=some (.ah ys)->ys.length=`Ã->(∀(i:Nat)(y:V),ys[i]? =some y->R i y (bh H' D))->Q (.ref D) H')
|`(3.71)=>`(aI (u6 (name:=Str.ofString "__next__") cE.typeIs LI (oH LI cE.typeIs F.entry_tuple_iterator_next ?_ (F.args_tuple_iterator_next_1 _))))
|`(3.70)=>`((∀x∈xs,∃(ot:Obj)(n:Nat)(its:`Ì),K.lookup x.2.1=some ot/\ot.cls=.type "tuple"/\ot.data=.seq its.toArray n/\bx (x.1.map kV) its))
|`(3.69)=>`(parent {number:=base+(`Ã+1),name:=b.2.1,chain:=(base+(`Ã+1))::(5.9).drop ((5.9).length-b.1),whole:=b.2.2}==some (base+`Ã))
|`(3.68)=>`(FW (n:=`Ö) Pv h0 (fun i σ H hi q=>⟨hl i σ H (jV hi) q,hi⟩) (fun σ H q=>⟨hl _ σ H (bp _) q,bp _⟩) (fun i x σ H H' hi q y=>?_) hd)
|`(3.67)=>`(BQ kvs.length (fun i=>(kvs[i]?).bind fun p=>f p.1 p.2) hn (fun i H' hi s=>⟨s _ _ eQ,hi⟩) (fun H' s=>⟨s _ _ eQ,bp _⟩) (fun i x H' bM hi s y R1 R0 h1 h0=>?_) (fun D H' hD s e=>hd D H' hD s ?_))
|`(3.66)=>`(⟨fun aS H'=>H' d=some (.aN od u)/\D.nx aS (af H' d u),fun v H'=>H' d=some (.aN od u)/\D.rt v (af H' d u),fun aS H'=>H' d=some (.aN od u)/\D.bk aS (af H' d u),fun aS H'=>H' d=some (.aN od u)/\D.ct aS (af H' d u)⟩)
|`(3.65)=>`(cR (pv 0) T.bU T.xO ox `Ý (yn T.uG) .nil bf)
|`(3.64)=>`(a0 (ha pos ae s σ H _ I h) fun us s1 ⟨vs,H1,I1,r1,q1⟩=>?_)
|`(3.63)=>`(aT (Vbnlak.cells s) (jH (c.rc x.key).1 (c.rc x.key).2)&&&sr (((choices s.told).filter (stands s s.records)).map (wd s s.records)))
|`(3.62)=>`(eG (rU fun i=>.int (-i)) (tC (.int 2)))
|`(3.61)=>`([.int (1+((((cv s i).map fun d=>sureness (Vbnlak.exact s cx.number d.number)).map nV).length:Nat)),.int (match((cv s i).filter fun d=>sureness (Vbnlak.exact s cx.number d.number)==2).find? fun d=>((cv s i).filter fun d=>sureness (Vbnlak.exact s cx.number d.number)==2).all fun e=>decide (e.chain.length<=d.chain.length)with|some d=>(d.number:Int)|none=>-1)])
|`(3.60)=>`(⟨c,s,x,rfl,hc,fun H1 s1=>?_⟩)
|`(3.59)=>`(k b o (fun z=>hc (by simp[z])) e)
|`(3.58)=>`([e,.Lambda params body scope nO])
|`(3.57)=>`(fun v H2=>v=.aX/\Q (.ref x) H2)
|`(3.56)=>`(.dK (aB cX fun x=>.ref (ρ x)))
|`(3.55)=>`(⟨aS,_,I2.mX e (I.Cd hd mu),q⟩)
|`(3.54)=>`(if f x=true then 2^`Û else 0)
|`(3.53)=>`(I1.ql (bp _) (I1.aO.fresh (bp _)))
|`(3.52)=>`((∀bM,f x=none->ag H' bM->R0 bM))
|`(3.51)=>`(fun i x H' hx s R1 R0 h1 h0=>?_)
|`(3.50)=>`(told.Pairwise fun x y=>x.key<y.key)
|`(3.49)=>`(hs.2 b (gb (iH (cI e) I.ok.above)))
|`(3.48)=>`(eJ (.inl (ht.row c hc)) (fU hd) ?_)
local macro_rules
|`(3.47)=>`(lG (.ref pt) (.ref pc) (.ref pd))
|`(3.46)=>`(fun vs H Q E q=>(h vs H Q E q).1)
|`(3.45)=>`(fun i x H' hx s1 R1 R0 h1 h0=>?_)
|`(3.44)=>`(TM.mk (100*s) 0 [] (rows.take i))
|`(3.43)=>`(PJ hl.isList fun ie e2 st cQ=>?_)
|`(3.42)=>`(⟨rfl,rfl,rfl,by decide+kernel,rfl,?_,?_⟩)
|`(3.41)=>`([.inl (bit r:Int),.inl (bit s:Int)])
|`(3.40)=>`(BZ (aG.of (bB iz q1)) (aG.of ax) ?_)
|`(3.39)=>`(rI Jr fun i j=>.int (i*2^j.toNat))
|`(3.38)=>`(.ins a.dN dx (iu `ğ (.int n)))
|`(3.37)=>`(j2 K 2 (eV (aH 4) (eV (aH 5) (j1))))
|`(3.36)=>`(by show ba _ _ _=_;rw[da z];exact e)
|`(3.35)=>`(.Call (.Name "zip" p) [e,e2] [] pos)
|`(3.34)=>`(s.told.filter fun u=>(u.key:Int) !=(k:Int))
|`(3.33)=>`(fun c u q z=>by rw[hn c z]at q;cases q)
|`(3.32)=>`(((ns.drop i).foldl (lM kf) b).getD d)
|`(3.31)=>`(fun m i h h' st k=>st.at fun o e=>k o e)
|`(3.30)=>`((∀y bM,f x=some y->ag H' bM->R1 y bM))
|`(3.29)=>`(bj a.dN "next_row" lY [] E0 (aa 1) ap)
|`(3.28)=>`((spotsOf s x).any fun y=>y.contains c)
|`(3.27)=>`((spotsOf s x).all fun y=>y.contains c)
|`(3.26)=>`(∀vs H Q E,sp vs H Q E->`õ=`_z)
|`(3.25)=>`((∀H',Nx H'->∃m',m'<m/\W (i+1) m' H'))
|`(3.24)=>`(⟨oi,e,fun v z=>by rw[dd]at z;cases z⟩)
|`(3.23)=>`(s.records.filter fun u=>(u.key:Int) !=(k:Int))
|`(3.22)=>`(pY xs ys fun H=>bF K H a xs/\bF K H b ys)
|`(3.21)=>`(bj a.cU "entry_list" fN [] E0 0.57 ap)
|`(3.20)=>`(hs.2 b (gb (iH (cI e) (I.ok.vc x c oZ hc))))
|`(3.19)=>`(∀p∈bv,σ[ix p.1]? =some (some (val p.1)))
|`(3.18)=>`(aK (bI (ai (eG 0.5 (tC (.int 3))) (ap))))
local macro_rules
|`(3.17)=>`([nV (f&&&g),nV (f^^^(f&&&g)),nV (g^^^(f&&&g))])
|`(3.16)=>`((∀c∈l,H (ρ c)=some (.ah ((ch c).map nV))))
|`(3.15)=>`(.ah ((ch c).map nV))
|`(3.14)=>`(bj a.aQ "has_concept" iT [] E0 (aa 0) `Ĉ)
|`(3.13)=>`(starEach [e,e2] X.am=9.9::starEach [e2] X.am)
|`(3.12)=>`(.ins a.gm dx (bi (1.0 "text") (.ref pt) []))
|`(3.11)=>`(tj CX P w K mg base N qual scope f dk A bK s H E)
|`(3.10)=>`(cR `Ò T.jo T.DF xz `Ý (E' T.Ab) .nil bf)
|`(2.99)=>`(af H2 rd (cb a dr q (n+1+1+u.length+1+v.length)))
|`(2.98)=>`(bh (af (af H3 eO (.own x)) x (.ins a.gm eO [])) x)
|`(2.97)=>`(fun i h h' st k=>st.at fun oi e=>k it (by simp) oi e)
|`(2.96)=>`(A.deeper (envOfC qual (gQ st) s.heap.objs.size f dk))
|`(2.95)=>`([.bl (parts r).1,.bl (parts r).2.1,.bl (parts r).2.2])
|`(2.94)=>`(.dK (aB (kept++c::ks.drop (i+1)) fun x=>.ref (ρ x)))
|`(2.93)=>`(.ins a.cU dx (gG (nV mf) (nV ma) (.ref pu) (.ref pf)))
|`(2.92)=>`(bj a.aQ "side_chains" gj [] E0 (aa 0) (ai `ā (ap)))
|`(2.91)=>`(n+1+1+u.length+1+v.length)
|`(2.90)=>`(Obj.mapSeq fun _=>#[Value.int n tv,Value.int (kf n) t2])
|`(2.89)=>`(⟨c,s,rd,A,dr,q,l,n+1,tail,key,by rw[fB],ca,b0,2.58⟩)
|`(2.88)=>`([some (.ref q),some (.ref x),some (.ref rd),some (.ref A),v4,v5])
|`(2.87)=>`(zs nd (cR (pv 1) T.iV T.Lc Dl `Ý (Mb T.Dg) .nil bf))
|`(2.86)=>`(.ah [.int (aB (kH.map Rec.key) fun x=>V.ref (c.rR x)).length])
|`(2.85)=>`(qf fun x _=>by cases x.contains o.c<;>cases x.contains o.d<;>rfl)
|`(2.84)=>`(({nx:=fun _ H'=>Q .aX H',rt:=Q}:gB))
|`(2.83)=>`(⟨.bl _,H,I.kept fun b o eo=>hk b o (fun kR=>?_) (cC _ eo),?_,q⟩)
|`(2.82)=>`(∀(s:Shared)(H:Hp)(C:Addr)(cl:`ö)(fp:List Addr),PG 2.53 tg g)
|`(2.81)=>`(pY (kvs.map fun p=>kV p.1) ys fun H=>H a=some `ė/\aG K H b ys)
|`(2.80)=>`(∀(s:Shared)(H:Hp)(C:Addr)(cl:`ö)(fp:List Addr),PE 2.53 jp te)
|`(2.79)=>`(ai (bj a.cU "entry_list" fN [] E0 (bo K (aa 0) "recorded") ap) (ap))
|`(2.78)=>`(∀(s:Shared)(H:Hp)(C:Addr)(cl:`ö)(fp:List Addr),Au 2.53 ifs tt)
local macro_rules
|`(2.77)=>`(BP==NameKind.free&&sc.kind==.function&&sc.names.lookup n==some .cell)
|`(2.76)=>`(⟨hm _ _ (h.eK x hx).1,hm _ _ (h.eK x hx).2.1,hm _ _ (h.eK x hx).2.2⟩)
|`(2.75)=>`(⟨_,Vw _ ho (Vy (Ay hd _)),(Vx ..).trans hc,by rw[Ay hd];simp[rawInt]⟩)
|`(2.74)=>`(I.turned (t':=s.toks) (fun b ob hb e=>(sb.2 b hb).trans e) f0 f1 f3 f4 f5)
|`(2.73)=>`(k7 (s.told.map gp) (ub (aw s.left) (aw `Ð) (dP s.left) (dP `Ð)))
|`(2.72)=>`((ins.take j).foldl (fun F c=>n8 outs c (mL ins c F)) (ka (rl.take i) F))
|`(2.71)=>`(⟨rfl,I.turned (t':=s.toks) (fun b o hb e=>eb b o hb e) f0 f1 f3 f4 f5⟩)
|`(2.70)=>`(∀D H',H D=none->ag H H'->H' D=some (.ah (xs.filterMap f))->Q (.ref D) H')
|`(2.69)=>`(⟨rfl,I.turned (t':=s.toks) (fun b ob hb e=>eb b ob hb e) f0 f1 f3 f4 f5⟩)
|`(2.68)=>`(s.heap.push {cls:=.type "range",data:=.fields #[.int lo t,.int hi u,.int 1 v]})
|`(2.67)=>`(ha pos ae s σ H _ I h)
|`(2.66)=>`(h.Qn (H':=H') fun b o e nb=>off b o e (fun z=>nb (by rw[z];simp)) fun z=>nb (by rw[z];simp))
|`(2.65)=>`(kla_fn "<lambda>" 0.6 params body scope bv ((X.mg "__name__").getD .none) (.ref c') ir)
|`(2.64)=>`(Call_ (si I hg hm Mi (yf (a0 (ha pos ae s σ H _ I h) fun us s1 ⟨vs,H1,I1,r1,q1⟩=>?_) hs eW)))
|`(2.63)=>`(∀p∈bv,X.am.cells.lookup p.1=some p.2/\X.am.scope.names.lookup p.1=some .cell/\X.N[ix p.1]? =some p.1)
|`(2.62)=>`(backToKw pos (keywordEach [⟨some "key",.Lambda params body scope nO,GP⟩,⟨some "default",d,GQ⟩] X.am))
|`(2.61)=>`(bJ (tB (bj a.aQ "has_too_many_choices" fW [] E0 (aa 0) ap)) (aK (bI (ai (eG (rU fun i=>.int (-i)) (tC (.int 1))) (ap)))) (bL))
|`(2.60)=>`(Vbnlak.exact s cx.number d.number)
|`(2.59)=>`(∀b∈ch,(b∈X.ex\/X.h_.heap.objs.size<=b)/\b≠X.am.locals/\(∀x c,X.am.cells.lookup x=some c->c≠b)/\∀p∈X.pn++ae,p.1≠b)
|`(2.58)=>`(fin H5 c (n+1) _ _ _ _ (fun _ _ z=>z) ca fB dq rfl (lq wf tx _) hd2)
|`(2.57)=>`(tB (bj a.aQ "has_too_many_choices" fW [] E0 (aa 0) ap))
|`(2.56)=>`(aB l fun c=>.ref (ρ c))
|`(2.55)=>`(h r _ _ (fun b o e nb=>bB hr (off b o e (fun z=>nb (by rw[z];simp[Cm.N,Cm.M])) fun z=>nb (by rw[z];simp[Cm.N,Cm.M]))) (new.aD (ag.new hr)) ⟨rfl,rfl⟩ ?_ ax)
|`(2.54)=>`((J.go i H/\∃N:St->Hp->Prop,(∀aS H',N aS H'->∃m',m'<m/\W (i+1) m' aS H')/\∀x H',J.l6 i H x H'->g x σ H' fun bC H2=>tb {D with nx:=N,ct:=N,bk:=D.nx} bC H2))
|`(2.53)=>`(X.i7 s H scope (compEnvC scope cl C X.am) fp)
|`(2.52)=>`(.dK (aB (numbers s) fun c=>nV (cq (Vbnlak.cells s) c)))
|`(2.51)=>`(⟨_,fun _ _ z=>z,?_⟩)
|`(2.50)=>`(l++[{c:=c,d:=d,r:=r}])
|`(2.49)=>`(aB us fun _=>.bl true)
|`(2.48)=>`(.ins C dx (bi f y fs))
local macro_rules
|`(2.47)=>`(show u=`ä b from ry)
|`(2.46)=>`(if k=k then 0.41 else _)
|`(2.45)=>`(fun b z=>absurd z (sn b))
|`(2.44)=>`(behindInMarks op b=false)
|`(2.43)=>`(.ah ((dw.map Told.key).map nV))
|`(2.42)=>`(.Compare a [op] [b] pos)
|`(2.41)=>`(vs.toArray.toList.map jx)
|`(2.40)=>`(gw 0.42 (gg cs aw rl))
|`(2.39)=>`(fun v H'=>Q v (ba cs H'))
|`(2.38)=>`(fun i k v σ H' hk z=>?_)
|`(2.37)=>`(compMask (f i k) (f k j))
|`(2.36)=>`(compMask (F c e) (F e d))
|`(2.35)=>`(([0,1]:List Int).map V.int)
|`(2.34)=>`(.Attribute e "values" fQ)
|`(2.33)=>`(3.3 cs.length (ix cs G))
|`(2.32)=>`(z0 X.N X.am.scope scope own)
|`(2.31)=>`(by rw[au (aR q hn)];exact q)
|`(2.30)=>`(cs.map fun c=>j_ cs F [c])
|`(2.29)=>`(iL X.am.cells scope.names [])
|`(2.28)=>`(Builtin.Dict_items.ownsTuple)
|`(2.27)=>`(eV (aH 3) (eV (aH 4) (j1)))
|`(2.26)=>`(d_ hu (pv 0) (pv 1) `Ú)
|`(2.25)=>`((base+k)::above.drop 0.45)
|`(2.24)=>`(PassesOwn `Î X.A X.am X.xe)
|`(2.23)=>`((∀x∈ws,x.2.length<=10000))
|`(2.22)=>`(.Call (.Name x p) [] [] pos)
|`(2.21)=>`(gf (ext s o.c) (ext s o.d) o.r)
|`(2.20)=>`(oH q_ cE.typeIs LD ?_ (LC _))
|`(2.19)=>`(if c∈l then ρ c else τ c)
|`(2.18)=>`(by rw[pm.length_eq,cB];omega)
local macro_rules
|`(2.17)=>`(.ah ((kH.map Rec.key).map nV))
|`(2.16)=>`(dB (show(3:Nat)≠4 by decide))
|`(2.15)=>`(.dK (aB sd fun i=>.ref (ck i)))
|`(2.14)=>`(aK (tC (.bl false)))
|`(2.13)=>`(xs.map fun x=>((`Ó:Nat):Int))
|`(2.12)=>`(kvs.any fun kv=>decide (kv.1=k))
|`(2.11)=>`(bI (ai (dh (gW K) `Ĉ) (ap)))
|`(2.10)=>`((iD ds es).map (jG (rm l ch e_)))
|`(1.99)=>`(by rw[e];exact True.intro)
|`(1.98)=>`(absurd (show false=true from fx) eM)
|`(1.97)=>`((choices told).filter (stands s aU))
|`(1.96)=>`(af H s.heap.objs.size (.bb [x,y]))
|`(1.95)=>`(TM.mk (100*s) 0 [] rows)
|`(1.94)=>`(s.told.any fun u=>(u.key:Int)==key)
|`(1.93)=>`(qk _ 16 _ fun y _=>by rw[aJ];omega)
|`(1.92)=>`(gz iI rfl T.gF gN (ao (pv 0) (aA)))
|`(1.91)=>`((deepest s.left x,deepest s.right x))
|`(1.90)=>`(backToKw pos (keywordEach [] X.am))
|`(1.89)=>`(j2 K 2 (eV (aH 2) (eV (aH 3) (j1))))
|`(1.88)=>`(qL s (jg c.rc `á) (s.told.map gp))
|`(1.87)=>`(fun z=>tY (by rw[<-z];simp[Cm.N,Cm.M]))
|`(1.86)=>`((xs.map fun n:Nat=>PyData.int (n:Int)))
|`(1.85)=>`(V->Option Int->Option Int->Hp->VK->Prop)
|`(1.84)=>`(s.records.any fun u=>(u.key:Int)==key)
|`(1.83)=>`(cu fun i j=>.int (Builtin.bitXor i j))
|`(1.82)=>`(.dK (aB (aw `Ð) fun c=>.ref (υ c)))
|`(1.81)=>`(∀b u,h.get? b=some u->h'.get? b=some u)
|`(1.80)=>`(∀H1 H2 b x,R H1 b x->ag H1 H2->R H2 b x)
|`(1.79)=>`(.aN od (.dK (aB cs fun c=>.ref (ρ c))))
|`(1.78)=>`(o _ _ q fun c hc=>dG q (h.row c hc) `ć)
local macro_rules
|`(1.77)=>`(bN (ao (gz iI rfl T.gF gN `Ă) (aA)))
|`(1.76)=>`(decide (`Ó<100)==decide (y.number<100))
|`(1.75)=>`(⟨fun z=>(nomatch z),fun z=>absurd rfl z⟩)
|`(1.74)=>`(.ins a.aQ dx (bi "checklists" (.ref bn) []))
|`(1.73)=>`(.ins a.aQ dx (bi "told" (.ref L1) [1.54]))
|`(1.72)=>`(s.heap.push {cls:=.type "dict",data:=.dict #[]})
|`(1.71)=>`(fun w hw=>BX rx fx r fs w (by simpa using hw))
|`(1.70)=>`(if(Value.ref d==Value.none)=true then _ else _)
|`(1.69)=>`(.ah ([.int dw.length]++(dw.map Told.key).map nV))
|`(1.68)=>`(.dK (aB (kept++ks.drop (i+1)) fun x=>.ref (ρ x)))
|`(1.67)=>`(.ah (acc.map V.int++[.int (eI.map V.int).length]))
|`(1.66)=>`(A.under (.builtin "type.__call__" ⟨.ref C::us,kw⟩))
|`(1.65)=>`(a0 (ha ae s σ H _ I h) fun v s1 ⟨x,H1,I1,r1,q1⟩=>?_)
|`(1.64)=>`(zs nd (cR (pv 0) T.bU T.xO ox `Ý (yn T.uG) .nil bf))
|`(1.63)=>`(.dK (aB (c.fK.filter fun x=>x !=k) fun x=>.ref (c.rT x)))
|`(1.62)=>`(.dK (aB (c.fD.filter fun x=>x !=k) fun x=>.ref (c.rR x)))
|`(1.61)=>`(bj a.aQ "side_chains" gj [] E0 (aa 0) (ai (tC (.int 0)) (ap)))
|`(1.60)=>`(gw (aT (cells s) fun _=>true) ((jF s aU []).map (aT (cells s))))
|`(1.59)=>`(if j=i then x else c.ck j)
|`(1.58)=>`(.ins a.aQ dx (bi "recorded" (.ref Lw) [1.54,("told",.ref L1)]))
|`(1.57)=>`(.ah ([.int dw.length]++(dw.map Told.key).map nV++[.int kH.length]))
|`(1.56)=>`(af (af H f (.dK [])) r (.ah ((sk.map fun k:Nat=>(k:Int)).map V.int)))
|`(1.55)=>`(s2.heap.push {cls:=.type "list_iterator",data:=.fields #[.ref l,.int 0 0]})
|`(1.54)=>`(("checklists",.ref bn))
|`(1.53)=>`(kla_fn "<lambda>" (X.am.qual++"<lambda>") params body scope bv pm (.ref c') ir)
|`(1.52)=>`(∀i x σ H,xs[i]? =some x->Pv i σ H->g x σ H fun bC H2=>tb {D with nx:=Pv (i+1),ct:=Pv (i+1),bk:=D.nx} bC H2)
|`(1.51)=>`(eG (rU fun i=>.int (-i)) (tC (.int 1)))
|`(1.50)=>`(aK (bI (ai (eG (rU fun i=>.int (-i)) (tC (.int 1))) (ap))))
|`(1.49)=>`(bj a.dN "next_number" bG [] E0 (aa 1) ap)
|`(1.48)=>`(VbnlakNeutral.step)
local macro_rules
|`(1.47)=>`(pm.mem_iff.mp hu)
|`(1.46)=>`(b=t1\/b=t2\/b=t3)
|`(1.45)=>`(ao (pv 2) `_0)
|`(1.44)=>`(ai (aa 2) `_O)
|`(1.43)=>`(fun H1 s1=>?_)
|`(1.42)=>`(fun _ _ z=>z)
|`(1.41)=>`(List V->Hp->VK->Prop)
|`(1.40)=>`(Array (Option Value))
|`(1.39)=>`(CY rfl rfl rfl rfl)
|`(1.38)=>`(AC ho hd `Ç ?_)
|`(1.37)=>`(s.heap.push emptyDict)
|`(1.36)=>`(Vbnlak.sorted)
|`(1.35)=>`(.bb [.int (i:Nat),x])
|`(1.34)=>`(⟨_,eZ _ rfl,rfl,rfl⟩)
|`(1.33)=>`(if x=c then r else jk x)
|`(1.32)=>`(Value->Value->Sem Value)
|`(1.31)=>`(bo K (aa 0) "extents")
|`(1.30)=>`(af H rd (cb a dr q m))
|`(1.29)=>`(fun i x σ H' rQ z=>?_)
|`(1.28)=>`(cV (fun e1=>?_) fun e1=>?_)
|`(1.27)=>`(af H4 D (.ah (acc++[y])))
|`(1.26)=>`(eJ (.inl ht.tab) (fU hc) ?_)
|`(1.25)=>`((l.drop b).takeWhile letter)
|`(1.24)=>`([V.int ((i:Nat):Int),V.ref b])
|`(1.23)=>`(⟨c,s,rfl,bW.dW,fC.does bW⟩)
|`(1.22)=>`([c.p,c.bn,c.uT,c.fT,c.uR,c.fR])
|`(1.21)=>`(.ah ((cs.drop (i+1)).map nV))
|`(1.20)=>`(Value.int (kf n) t2)
|`(1.19)=>`(⟨c,s,x0,rfl,bD.dW,eX.does bD⟩)
|`(1.18)=>`(kvs.map fun p=>kV p.1)
local macro_rules
|`(1.17)=>`(⟨o,e,fun v z=>by rw[d]at z;cases z⟩)
|`(1.16)=>`(bo K (aa 0) "recorded")
|`(1.15)=>`((base+k)::above.drop (above.length-x.1))
|`(1.14)=>`(.ah (dw.map fun x=>V.ref (c.rT x.key)))
|`(1.13)=>`(.aN od (.dK (aB l fun c=>.ref (τ c))))
|`(1.12)=>`(⟨[],trivial,fun a m=>absurd m `Ç⟩)
|`(1.11)=>`(∀x,foldedSetIterable iter X.am x=pure x)
|`(1.10)=>`(aB (dw.map Told.key) fun x=>V.ref (c.rT x))
|`(0.99)=>`(fits x y&&(standing s).any fun l=>fe l y)
|`(0.98)=>`(envX qual scope s.heap.objs.size f (.ref c') cl)
|`(0.97)=>`(fnOf x qual (vg st) (dO st) (gQ st) .none kV doc pm an dk ct)
|`(0.96)=>`(.dK (aB (c.sd++[i]) fun j=>.ref (if j=i then x else c.ck j)))
|`(0.95)=>`(List Nat×List Nat)
|`(0.94)=>`(cellsFrom (s3.heap.objs.size+1) scope.names (iL X.am.cells scope.names []))
|`(0.93)=>`(af (af H1 e1 (.bb [.ref f,.ref g])) c.uR (.dK (aB (c.fZ++[k]) fun _=>.bl true)))
|`(0.92)=>`(af (af H1 e1 (.bb [.int x',.int y',.int m'])) c.uT (.dK (aB (c.gk++[k]) fun _=>.bl true)))
|`(0.91)=>`(.ins a.aQ c.dx (bi (Str.ofString "ground") (.ref g) (cW (.ref c.bn) (.ref c.pT) (.ref c.pR) (.ref c.pg))))
|`(0.90)=>`(⟨c,s,rd,A,dr,q,l,n+1,tail,by rw[fB],ca,b0,fin H5 c (n+1) _ _ _ _ (fun _ _ z=>z) ca fB dq rfl (lq wf tx _) b0⟩)
|`(0.89)=>`(uA s.heap o1 o2)
|`(0.88)=>`(List (Str×Nat))
|`(0.87)=>`(H a=some `Þ)
|`(0.86)=>`(tC (.int (1)))
|`(0.85)=>`(tC (.bl true))
|`(0.84)=>`(aF (aM (pv 3)))
|`(0.83)=>`(∀a∈A,oh h A a)
|`(0.82)=>`({s with heap:=h'})
|`(0.81)=>`(s2.heap.objs.size)
|`(0.80)=>`(fun z=>by cases z)
|`(0.79)=>`(X.A.units+1<cLine)
|`(0.78)=>`(without x.1 d.1)
local macro_rules
|`(0.77)=>`(by walk_at "b3")
|`(0.76)=>`(af H2 D `Ù)
|`(0.75)=>`(o.data=.dict es ep)
|`(0.74)=>`(by rw[e];exact q)
|`(0.73)=>`(cj K x qual st f fd)
|`(0.72)=>`(vC k (sub.subset hk))
|`(0.71)=>`(Option Int->Hp->Prop)
|`(0.70)=>`(ho ae s σ H _ I h)
|`(0.69)=>`(fun b hb=>(hf b hb).1)
|`(0.68)=>`((∀b∈fp,H' b=none))
|`(0.67)=>`(by rw[gh z];exact n)
|`(0.66)=>`(((i:Nat):Int))
|`(0.65)=>`(V->List V->Hp->VK->Prop)
|`(0.64)=>`(bo K (aa 0) "in_force")
|`(0.63)=>`(s1 _ _ (cJ z1 (nS _ _ z1)))
|`(0.62)=>`(iD (du s.left) (du `Ð))
|`(0.61)=>`(eF (fun e3=>?_) fun e3=>?_)
|`(0.60)=>`(cT.num h hc (ag.refl H) hr)
|`(0.59)=>`(gw 0.42 (gg cs ns rl))
|`(0.58)=>`(bo K (aa 0) "checklists")
|`(0.57)=>`(bo K (aa 0) "told")
|`(0.56)=>`(by rw[gh (ne b _ e)];exact e)
|`(0.55)=>`(Str.ofString "__next__")
|`(0.54)=>`(([1,2,4,8,16]:List Int).map V.int)
|`(0.53)=>`(∀σ H,Pv xs.length σ H->D.nx σ H)
|`(0.52)=>`(gw 0.42 (gg cs ns (cX.map rec)))
|`(0.51)=>`(nV (ju cs ws c ((d:Nat):Int).toNat))
|`(0.50)=>`(bj a.aQ "worlds" fX [] E0 (aa 0) ap)
|`(0.49)=>`(cu fun i j=>.int (Builtin.bitOr i j))
|`(0.48)=>`(envOfC qual scope s.heap.objs.size f cd)
local macro_rules
|`(0.47)=>`(f9 X.prog X.w X.K X.mg X.base gY k f fd ps sp)
|`(0.46)=>`(.ListComp jp [⟨tg,iter,ifs,0⟩] scope pos)
|`(0.45)=>`(above.length-r.1)
|`(0.44)=>`(notedBy (model prog w) A am fun e s'=>R (.error e) s')
|`(0.43)=>`(fun z=>nb (by rw[z];simp[Cm.N,Cm.M]))
|`(0.42)=>`(aT cs fun _=>true)
|`(0.41)=>`((ins.map Int.toNat,outs.map Int.toNat))
|`(0.40)=>`(Str×Addr)
|`(0.39)=>`(cR (bz (pv 0) rfl) T.jo T.xP qS (hm hr) (yo T.uH) .nil bf)
|`(0.38)=>`(.dK (aB (aw (TM.mk (100*s) 0 [] rows)) fun c=>.ref (ρ c)))
|`(0.37)=>`(fF (zg nd) (fF (zg nd) (lS)))
|`(0.36)=>`(.dK (aB (c.fK++[k]) fun x=>.ref (if x=k then e1 else c.rT x)))
|`(0.35)=>`(.dK (aB (c.fD++[k]) fun x=>.ref (if x=k then e1 else c.rR x)))
|`(0.34)=>`(TM.mk (100*i) 0 [] rows)
|`(0.33)=>`(Addr×Obj)
|`(0.32)=>`(.ins a.aQ dx (bi "ground" (.ref g) [("checklists",.ref bn),("told",.ref L1),("recorded",.ref Lw)]))
|`(0.31)=>`(bO (fL (cR (pv 0) T.bU T.xN ow (hm hr) (ym T.uF) .nil bf)) (aF (aM (bN (ao (fg fj (bw)) (aA))))) (bS))
|`(0.30)=>`(x.chain.length)
|`(0.29)=>`(PyVbnlak.shape)
|`(0.28)=>`(A.handled=none)
|`(0.27)=>`(uW X.am.scope x)
|`(0.26)=>`(ba `ą H')
|`(0.25)=>`(lQ rfl 0.37)
|`(0.24)=>`(s3.heap.objs.size)
|`(0.23)=>`(by simpa using h1)
|`(0.22)=>`(List (Str×Value))
|`(0.21)=>`(fun v q=>nomatch q)
|`(0.20)=>`(Unit->Shared->Prop)
|`(0.19)=>`((∀u∈vs,mq A u))
|`(0.18)=>`(af H d (.aN od u))
local macro_rules
|`(0.17)=>`(aV (bI (ap)) (aH 2))
|`(0.16)=>`(cs.drop (i+1))
|`(0.15)=>`(bo K (aa 0) "ground")
|`(0.14)=>`(ao (pv 0) (aA))
|`(0.13)=>`(X.i7 s3 H3 scope ce fp)
|`(0.12)=>`(cV (fun e2=>?_) fun e2=>?_)
|`(0.11)=>`(⟨rd,q,dr,l,_,x0,rfl,hO,bW.q,e0,?_⟩)
|`(0.10)=>`(X.fn x=true\/X.am.scope.names.lookup x=some .local)
|`(9.9)=>`((false,eval e X.am))
|`(9.8)=>`(aK (bI (ai (eG (rU fun i=>.int (-i)) (tC (.int 2))) (ap))))
|`(9.7)=>`(dC (pv 0) T.bU T.qZ l_ (hm hr) (rh T.pV) .nil bf (ao (bw) (aA)))
|`(9.6)=>`(.aN od (.dK (aB (numbers s) fun c=>nV (cq (Vbnlak.cells s) c))))
|`(9.5)=>`(by with_unfolding_all rfl)
|`(9.4)=>`(fun y hy=>?_)
|`(9.3)=>`(St->Hp->Prop)
|`(9.2)=>`(j7 (dO n_))
|`(9.1)=>`(j7 (dO n9))
|`(9.0)=>`(s.told.length)
|`(8.9)=>`(by rw[bP];rfl)
|`(8.8)=>`(.Name x pos)
|`(8.7)=>`(PySem.W.CodeHd)
|`(8.6)=>`(aF (aM (nX)))
|`(8.5)=>`(`ó `ë)
|`(8.4)=>`(i4 X.K fd ps ds)
|`(8.3)=>`(s.records.length)
|`(8.2)=>`(fun _ _=>False)
|`(8.1)=>`(.bb (k.map kV))
|`(8.0)=>`(cT.num h hc s1 hr)
|`(7.9)=>`(aF (aM (fg fj (bw))))
|`(7.8)=>`(Vbnlak.comp r s)
local macro_rules
|`(7.7)=>`(.Tuple kK kk jy)
|`(7.6)=>`(V->V->Hp->VK->Prop)
|`(7.5)=>`((`_l).trans s3)
|`(7.4)=>`((depth,name,whole))
|`(7.3)=>`(stands s aU)
|`(7.2)=>`(h.Ns mainGlobals mg)
|`(7.1)=>`(by cases r<;>decide)
|`(7.0)=>`(X.h_.heap.objs.size)
|`(6.9)=>`(show i=0\/i=1 by omega)
|`(6.8)=>`(u7 cE.typeIs (br ?_))
|`(6.7)=>`(aI (u9 cE.typeIs (br ?_)))
|`(6.6)=>`(eF (fun e2=>?_) fun e2=>?_)
|`(6.5)=>`(ha ae s σ H _ I h)
|`(6.4)=>`(.ah (cX.map fun x=>V.ref (ρ x)))
|`(6.3)=>`(fun _=>dB (show(4:Nat)≠1 by decide))
|`(6.2)=>`(fun _ _=>dB (show(4:Nat)≠2 by decide))
|`(6.1)=>`(fun _ _ _=>dB (show(4:Nat)≠3 by decide))
|`(6.0)=>`(f9 X.prog X.w X.K X.mg X.base CX k f fd ps sp)
|`(5.9)=>`((base+xs.length)::above.drop (above.length-r.1))
|`(5.8)=>`(o.ExactDict)
|`(5.7)=>`(Option Addr)
|`(5.6)=>`(nomatch z)
|`(5.5)=>`(ag.new hr)
|`(5.4)=>`(aK (aa 1))
|`(5.3)=>`(h'.objs.size)
|`(5.2)=>`(sg (dO mN))
|`(5.1)=>`(.ref `Í)
|`(5.0)=>`(fun b o e=>?_)
|`(4.9)=>`(fC.move (n+1))
|`(4.8)=>`(bW.move (n+1))
local macro_rules
|`(4.7)=>`(tableOf n f)
|`(4.6)=>`(.builtin id)
|`(4.5)=>`(mk base 0 [] rs)
|`(4.4)=>`([.ref p,.ref q])
|`(4.3)=>`([.ref a,.ref b])
|`(4.2)=>`(X.N[i]? =some x)
|`(4.1)=>`(by simp[Cm.M])
|`(4.0)=>`(a==sysModules)
|`(3.9)=>`(`Ã<=sizeLine)
|`(3.8)=>`(cS ch c++cS ch d)
|`(3.7)=>`(List (κ×Value))
|`(3.6)=>`(aF (aM (pv 1)))
|`(3.5)=>`(Nat->St->Hp->Prop)
|`(3.4)=>`(.ah (cs.map nV))
|`(3.3)=>`(Vbnlak.tableOf)
|`(3.2)=>`(TM.ff [] (lines w))
|`(3.1)=>`(List (Str×NameKind))
|`(3.0)=>`(cu fun i j=>.int (i-j))
|`(2.9)=>`(lE (bF.of ax) rfl (fA ?_))
|`(2.8)=>`(List (List aW×Addr×Value))
|`(2.7)=>`(dS K a t H c s rd A dr q l n)
|`(2.6)=>`(ao (pv 3) (ao (pv 4) (aA)))
|`(2.5)=>`(TM.after (100*s) 0 [] (rows.take i))
|`(2.4)=>`(s.heap.objs.size+1)
|`(2.3)=>`(aV (bj a.dN "next_number" bG [] E0 (aa 1) ap) (aH 2))
|`(2.2)=>`(scope.names)
|`(2.1)=>`(fun p hp=>?_)
|`(2.0)=>`(Or.inr rfl)
|`(1.9)=>`(ba [d,Pt] H)
|`(1.8)=>`(ba (c.N t) H)
local macro_rules
|`(1.7)=>`(.bb [x,y])
|`(1.6)=>`(d7 X.prog X.w)
|`(1.5)=>`(ag.refl H)
|`(1.4)=>`(List (List aW×V))
|`(1.3)=>`(zs nd (bN (aA)))
|`(1.2)=>`(tupleKind (d7 P w))
|`(1.1)=>`(ai (aa 3) `ε)
|`(1.0)=>`(Str.ofString)
|`(0.9)=>`(.dK (aB ks fun x=>.ref (ρ x)))
|`(0.8)=>`(.Call (.Name x p) (e::es) [] pos)
|`(0.7)=>`(fun _=>dB (show(4:Nat)≠0 by decide))
|`(0.6)=>`(X.am.qual++"<lambda>")
|`(0.5)=>`(rU fun i=>.int (-i))
|`(0.4)=>`(`_m hq)
|`(0.3)=>`(Value.bool)
|`(0.2)=>`(l.map nV)
|`(0.1)=>`(⟨t,rfl⟩)
|`(0.0)=>`(some (nV c))
|`('~')=>`(h.objs.size)
|`('}')=>`(gL•bG K a)
|`('|')=>`(aK (aa 2))
|`('{')=>`([V.int (-1)])
|`('`')=>`(l.map V.int)
|`('_')=>`(Vbnlak.exact)
|`('^')=>`(bN (aA))
|`(']')=>`(.ah (as.map V.ref))
|`('[')=>`(by simpa using h)
|`('U')=>`(ao (pv 5) (aA))
|`('K')=>`(ai (aa 0) (ap))
|`('@')=>`(aF (aM (pv 2)))
local macro_rules
|`('?')=>`(I.aO.fresh (bp _))
|`('>')=>`(k _ _ (.inl rfl) e)
|`('=')=>`(VbnlakNeutral.shown)
|`('<')=>`(.dK (aB l fun c=>.ref (ρ c)))
|`(';')=>`(fun q'=>hb (by simp[q']))
|`(':')=>`(ns.length)
|`('9')=>`(PE X a ta)
|`('8')=>`(show false=true from p)
|`('7')=>`(vs++dvs)
|`('6')=>`(Array Value)
|`('5')=>`(model P w)
|`('4')=>`(Vbnlak.within)
|`('3')=>`(PA X (e::es) t)
|`('2')=>`(ai (aa 5) (ap))
|`('1')=>`(he ae s σ H _ I h)
|`('0')=>`(fun i x σ H' hx z=>?_)
|`('/')=>`(List (List Nat×List Nat))
|`('.')=>`(ao (pv 4) (aA))
|`('-')=>`(backTo pos (starEach es X.am))
|`(',')=>`(absurd (show false=true from hs) eM)
|`('+')=>`(.dK (aB (aw s.left) fun c=>.ref (τ c)))
|`('*')=>`(by rw[z];simp[Cm.N,Cm.M])
|`(')')=>`(aF (aM (bN (ao (fg fj (bw)) (aA)))))
|`('(')=>`(aG K H p xs)
|`('&')=>`(V->Hp->Prop)
|`('%')=>`(fun b hb=>?_)
|`('$')=>`((bZ hx).symm)
|`('#')=>`(bI (ap))
|`('!')=>`(Value.int)
|`(`Ω)=>`(gG v0 v1 v2 v3)
local macro_rules
|`(`Ψ)=>`(absurd h `Æ)
|`(`Φ)=>`(dF K (aa 1))
|`(`Ξ)=>`(Array DictEntry)
|`(`Λ)=>`(.inl rfl)
|`(`Θ)=>`(List (aW×Value))
|`(`Δ)=>`(Bool.noConfusion)
|`(`Γ)=>`(cu fun i j=>.int (i+j))
|`(`ω)=>`(zs nd (cR (pv 1) T.iV T.kx gC (hm hr) (kE T.jS) .nil bf))
|`(`ψ)=>`(starEach (e::es) X.am=(false,eval e X.am)::starEach es X.am)
|`(`χ)=>`(cs.getD i 0)
|`(`π)=>`(eh (pv 1))
|`(`ο)=>`(Or.inl rfl)
|`(`ξ)=>`(room.aD `Æ)
|`(`ν)=>`(conceptOf s z)
|`(`μ)=>`(pre.move (n+1))
|`(`ι)=>`(ns.map V.int)
|`(`θ)=>`([.ref c.p,.ref rd])
|`(`η)=>`(["comparison","reader"])
|`(`ζ)=>`(Nat->List Nat×List Nat)
|`(`ε)=>`(ai (aa 4) (ap))
|`(`δ)=>`(by rw[au pre.nA];exact eA)
|`(`_9)=>`(ia s i (TM.mk (100*i) 0 [] rows))
|`(`_8)=>`(cu fun i j=>.int (Builtin.bitAnd i j))
|`(`_7)=>`(hc.aD s1)
|`(`_6)=>`(["self"])
|`(`_5)=>`(.ref D)
|`(`_4)=>`(cA σ vs)
|`(`_3)=>`(by simp;omega)
|`(`_2)=>`(List (Int×Int))
|`(`_1)=>`(by walk_at "b1")
local macro_rules
|`(`_0)=>`(ao (pv 3) (aA))
|`(`_Z)=>`(List (Nat×Nat×Nat))
|`(`_Y)=>`(aw s.left++aw s.right)
|`(`_X)=>`(List One)
|`(`_W)=>`(List Env)
|`(`_V)=>`(cv s i)
|`(`_U)=>`(c5<|j')
|`(`_T)=>`(numbers s)
|`(`_S)=>`(X.iJ=true)
|`(`_R)=>`(Vbnlak.all)
|`(`_Q)=>`(X.am.locals)
|`(`_P)=>`(some (.ref t))
|`(`_O)=>`(ai (aa 3) (ap))
|`(`_N)=>`(Builtin.bitAnd)
|`(`_M)=>`(relsOf m)
|`(`_L)=>`(.ref a)
|`(`_K)=>`(.fi #[])
|`(`_J)=>`(List TM.bX)
|`(`_I)=>`(rows.length)
|`(`_H)=>`(c5<|zg nd)
|`(`_G)=>`(List (κ×V))
|`(`_F)=>`(Told.key)
|`(`_E)=>`(I.ok.hd hc)
|`(`_D)=>`(by simpa using e)
|`(`_C)=>`(by simpa using hb)
|`(`_B)=>`(.ah (acc.map V.int))
|`(`_A)=>`(.int i)
|`(`_z)=>`(ps.length)
|`(`_y)=>`(fresh H H')
|`(`_x)=>`(⟨rfl,rfl⟩)
local macro_rules
|`(`_w)=>`(Bool->Hp->Prop)
|`(`_v)=>`(EP X ae σ Q)
|`(`_u)=>`((x==("__debug__":Str))=false)
|`(`_t)=>`(aw `Ð)
|`(`_s)=>`(.ref it)
|`(`_r)=>`(dJ P w H h)
|`(`_q)=>`(acc.length)
|`(`_p)=>`(.aN o U0)
|`(`_o)=>`(⟨_,rfl⟩)
|`(`_n)=>`(fun x hx=>?_)
|`(`_m)=>`(False.elim)
|`(`_l)=>`(s1.trans s2)
|`(`_k)=>`(.ins C dx fs)
|`(`_j)=>`(eF (fun e=>?_) fun e=>?_)
|`(`_i)=>`(Hp->Prop)
|`(`_h)=>`(List Expr)
|`(`_g)=>`(aw s.left)
|`(`_f)=>`(Str×V)
|`(`_e)=>`(.ref C)
|`(`_d)=>`(as.length)
|`(`_c)=>`(vs.toArray)
|`(`_b)=>`(ag.refl _)
|`(`_a)=>`(cells s)
|`(`Ġ)=>`(its.toArray)
|`(`ğ)=>`(.ref q)
|`(`Ğ)=>`(s.heap.objs.size+1)
|`(`ĝ)=>`(by show @Ne Nat _ _;omega)
|`(`Ĝ)=>`(by decide)
|`(`ě)=>`(FuncData)
|`(`Ě)=>`(List Nat->Bool)
local macro_rules
|`(`ę)=>`(bh H p)
|`(`Ę)=>`(tC (.int 0))
|`(`ė)=>`(.aN o (.dK kvs))
|`(`Ė)=>`(eZ _ rfl)
|`(`ĕ)=>`(some (.ref f))
|`(`Ĕ)=>`(Nat->List Nat)
|`(`ē)=>`(by decide+kernel)
|`(`Ē)=>`(.ah xs)
|`(`đ)=>`(fb I q (by simp))
|`(`Đ)=>`(aw s.left++aw s.right)
|`(`ď)=>`(iq (by with_unfolding_all rfl))
|`(`Ď)=>`(F c d)
|`(`č)=>`(List Told)
|`(`Č)=>`(some (.ref q))
|`(`ċ)=>`(List α)
|`(`Ċ)=>`([.ref p])
|`(`ĉ)=>`(Vbnlak.step)
|`(`Ĉ)=>`(ai (aa 2) (ap))
|`(`ć)=>`(by intro z;cases z)
|`(`Ć)=>`(ag H H')
|`(`ą)=>`(c.N t)
|`(`Ą)=>`(ai (aa 1) (ap))
|`(`ă)=>`(ao (pv 1) (aA))
|`(`Ă)=>`(ao (pv 2) (aA))
|`(`ā)=>`(tC (.int 1))
|`(`Ā)=>`(cV (fun e=>?_) fun e=>?_)
|`(`ÿ)=>`(List Rec)
|`(`þ)=>`(Str->Option Value)
|`(`ý)=>`(aY 94)
|`(`ü)=>`(.dK [])
local macro_rules
|`(`û)=>`(List bX)
|`(`ú)=>`(by walk_at "b2")
|`(`ù)=>`(as.map V.ref)
|`(`ø)=>`(ys.length)
|`(`ö)=>`(List (Str×Addr))
|`(`õ)=>`(vs.length)
|`(`ô)=>`(List Str)
|`(`ó)=>`(List.range)
|`(`ò)=>`(model prog w)
|`(`ñ)=>`(Vbnlak.cells s)
|`(`ð)=>`(List Addr)
|`(`ï)=>`(cW v0 v1 v2 v3)
|`(`î)=>`(some (.ref p))
|`(`í)=>`(zg nd)
|`(`ì)=>`(List (List Nat))
|`(`ë)=>`(cs.length)
|`(`ê)=>`(s1.heap.objs.size)
|`(`é)=>`(fun σ H' z=>?_)
|`(`è)=>`(List Concept)
|`(`ç)=>`(rs.length)
|`(`æ)=>`(.ref f)
|`(`å)=>`(It->Hp->Prop)
|`(`ä)=>`(Value.ref)
|`(`ã)=>`(cb a dr q (n+1))
|`(`â)=>`(List (aW×V))
|`(`á)=>`(s.records)
|`(`à)=>`(.ref r)
|`(`ß)=>`(aZ a t H c s)
|`(`Þ)=>`(.dK kvs)
|`(`Ý)=>`(hm hr)
local macro_rules
|`(`Ü)=>`(.ref p)
|`(`Û)=>`(l.length)
|`(`Ú)=>`(fun _ _=>rfl)
|`(`Ù)=>`(.ah [])
|`(`Ø)=>`(Nat->Addr)
|`(`Ö)=>`(kvs.length)
|`(`Õ)=>`(by simp)
|`(`Ô)=>`(Program)
|`(`Ó)=>`(x.number)
|`(`Ò)=>`(bz (pv 0) rfl)
|`(`Ñ)=>`(Value->Shared->Prop)
|`(`Ð)=>`(s.right)
|`(`Ï)=>`(List (Addr×Obj))
|`(`Î)=>`(model X.prog X.w)
|`(`Í)=>`(s.heap.objs.size)
|`(`Ì)=>`(List Value)
|`(`Ë)=>`(az X ae σ H s)
|`(`Ê)=>`(List Int)
|`(`É)=>`(Nat->Nat->Nat)
|`(`È)=>`(by omega)
|`(`Ç)=>`(by simp)
|`(`Æ)=>`(by decide)
|`(`Å)=>`(by omega)
|`(`Ä)=>`(Txt K mg a)
|`(`Ã)=>`(xs.length)
|`(`Â)=>`(by assumption)
|`(`Á)=>`(⟨rfl,?_⟩)
|`(`À)=>`(List Nat)
local macro_rules
|`(tactic|show `_aa)=>`(tactic|(have ca:=`μ;have dq:af H' rd `ã A=some `_B:=`δ;generalize af H' rd `ã=H5 at ca dq⊢))
|`(tactic|show `_ab)=>`(tactic|(intro X hP hw hK hc i ae s σ H E I hf st hg;subst hP hw hK))
|`(tactic|show `_ac)=>`(tactic|(obtain⟨e0,b0⟩:=dQ eQ;symm;refine 0.11;have bD:=4.8;have eX:=4.9;generalize af _ rd `ã=H1 at bD eX⊢))
|`(tactic|show `_ad)=>`(tactic|(injection h with h;injection h with h1 h2;subst h1 h2))
|`(tactic|show `_ae)=>`(tactic|(refine aI (LS ho hd ?_);have vI:2.28 "dict_keyiterator"=false:=`Ĝ;simp only[vI,z_,pq];show wpAny _ _ 1.70 _ _ s;rw[aq (show¬((Value.ref d==Value.none)=true)from eM)]))
|`(tactic|show `_af)=>`(tactic|(intro ae s σ H Q I h))
|`(tactic|show `_ag)=>`(tactic|(show `_ab;obtain⟨hd,hi⟩:=hg;obtain⟨f0,f1,f2,f3,f4,f5⟩:=hf it `Ç;obtain⟨hs,iY,hx,jq,jZ,vs,dX,hsz,kv,hm⟩:=I.rH hd;obtain⟨rfl,rfl⟩:=tp gH dX))
|`(tactic|show `_ah)=>`(tactic|(intro ae s σ H x y v u Q I rx ry h))
|`(tactic|show `_ai)=>`(tactic|(have ev:(aB cX fun x=>V.ref (ρ x)).map (·.2)=cX.map fun x=>V.ref (ρ x):=8.9;rw[ev];have s2:ag (ba (bv.map (·.2)) H') (af (ba (bv.map (·.2)) H') l 6.4):=ag.new hl;have iQ:af (ba (bv.map (·.2)) H') l 6.4 l=some 6.4:=ax;generalize af (ba (bv.map (·.2)) H') l 6.4=H3 at s2 iQ⊢;have S3:=Pj.trans s2))
|`(tactic|show `_aj)=>`(tactic|(refine aI (oJ hz rfl (x:=.none) rfl (br ?_));simp only[nI];refine aI (wpAny_rule (aI (oJ hz rfl (x:=.ref (m+3)) rfl ?_)));refine aI (E1 hz `Ç fun g1 z1 b1=>aI ?_);replace z1:IsZip g1 (m+4) (m+2) (m+3) .ellipsis:=z1;simp only[List.zipIdx_cons,List.zipIdx_nil,U4,KY]))
|`(tactic|show `_ak)=>`(tactic|(obtain⟨f0,f1,f2,f3,f4,f5⟩:=hf it `Ç))
|`(tactic|show `_al)=>`(tactic|(obtain⟨ol,Ph,_,nl,Ga⟩:=id ht;unfold Builtin.SmallTypes.nextOf;refine 3.71;refine aI (m:=field `_s 0) (oJ ho hd (x:=.ref t) rfl ?_);show wpAny _ _ (if(`ä t==Value.none)=true then _ else _) _ _ s;rw[aq (show¬((Value.ref t==Value.none)=true)from eM)]))
|`(tactic|show `_am)=>`(tactic|(rintro vs H Q E ⟨c,s,rd,A,dr,q,l,n,tl,x0,rfl,bW,eQ,fC⟩;refine `Á))
|`(tactic|show `_an)=>`(tactic|(symm;refine fA ?_;symm;refine lD ?_))
|`(tactic|show `_ao)=>`(tactic|(rintro vs H Q E ⟨c,s,rd,A,dr,q,l,n,tl,rfl,bW,eQ,fC⟩;refine `Á))
|`(tactic|show `_ap)=>`(tactic|(intro x hx;have:=o8 x hx;revert this;generalize x.contains o.c=a;generalize x.contains o.d=b;cases a<;>cases b<;>simp[BU,h]))
|`(tactic|show `_aq)=>`(tactic|(rintro vs H Q E ⟨c,s,rfl,hc,h⟩;refine `Á))
|`(tactic|show `_ar)=>`(tactic|(symm;intro r hr))
|`(tactic|show `_as)=>`(tactic|(have hl:`Ö=`õ:=mr kv;refine⟨hm.dictOf.typeIs,hm.dictOf.mapOf.noDict,?_⟩;have I2:az X ae σ H1 {s1 with heap:=s1.heap.push {cls:=.type "dict_values",data:=.fields #[.ref d]}}:=I1.kept (t':=s1.toks) fun b ob q=>cC _ q))
|`(tactic|show `_at)=>`(tactic|(obtain⟨e0,b0⟩:=dQ iZ))
local macro_rules
|`(tactic|show `_au)=>`(tactic|(subst ex;obtain rfl:u=`ä a:=rx))
|`(tactic|show `_av)=>`(tactic|(have c_:=cr.aD s2;have dE:=c_.obj))
|`(tactic|show `_aw)=>`(tactic|(rw[show its.toArray.any (kL x)=its.any (kL x) by simp,AF r fs];exact q))
|`(tactic|show `_ax)=>`(tactic|(have z2:WData.weightAll ds<=1048576:=z;obtain⟨A,h1,h2⟩:=E8 ds _ mB p fun d hd=>bq (Ts hd) z2;have k:∀b∈A,b∈a::A:=fun b hb=>gr _ hb;refine⟨a::A,im ..,'%'⟩;rcases bE.mp hb with e|m))
|`(tactic|show `_ay)=>`(tactic|(simp only[Vbnlak.step]))
|`(tactic|show `_az)=>`(tactic|(have cr:=`_7;have bD:=cr.obj))
|`(tactic|show `_aA)=>`(tactic|(ext;have hO:=bW.rd;show `_ac;have hc:=bD.dW.obj;symm))
|`(tactic|show `_aB)=>`(tactic|(symm;obtain⟨f0,hd2⟩:=dQ b0))
|`(tactic|show `_aC)=>`(tactic|(obtain⟨a1,a2,a3,a4,a5,b2,b3,b4,b5,c3,c4,c5,d4,d5,e5⟩:=tO hc.nd))
|`(tactic|show `_aD)=>`(tactic|(simp only[dD,Vbnlak.step,ay (show LIMIT<ways s.told from e),VbnlakNeutral.shown]at h;show `_ar))
|`(tactic|show `_aE)=>`(tactic|(have qw:ag 1.9 (bh H2 d):=fun b o e=>cJ (jb b o e) fun z=>(iP e).1 (by rw[z];simp);have AJ:∀c∈bv.map (·.2),H c=none:=fun c hc=>by obtain⟨p,hp,rfl⟩:=cw.mp hc;exact qp p hp))
|`(tactic|show `_aF)=>`(tactic|(have s2:ag H1 (af H1 m `Ù):=ag.new hm;show `_av;have vj:af H1 m `Ù m=some `Ù:=ax;generalize af H1 m `Ù=H2 at s2 c_ dE vj⊢;symm;refine c_.vd (i:=0) `È fun r0 H3 s3 c3 _=>?_))
|`(tactic|show `_aG)=>`(tactic|(rw[show bi f v ((k,x)::r)=(if k=f then(k,v)::r else(k,x)::bi f v r)from rfl];by_cases hk:k=f))
|`(tactic|show `_aH)=>`(tactic|(ext;have hp:=hc.obj))
|`(tactic|show `_aI)=>`(tactic|(have kJ:=(xx _).mp e3;simp only[aq (show¬possible s s.told s.records=false by rw[kJ];decide),VbnlakNeutral.shown]at h;have kO:=hc.aD S4;have ph:=kO.obj;have Pr:=hw.aD wm s4))
|`(tactic|show `_aJ)=>`(tactic|(obtain⟨e1,hd2⟩:=dQ b0;symm;refine⟨rd,q,dr,l,_,x1,rfl,nG,bD.q,e1,?_⟩;have dE:=bD.move (n+2);have jb:=eX.move (n+2);generalize af _ rd (cb a dr q (n+2))=H2 at dE jb⊢))
|`(tactic|show `_aK)=>`(tactic|(simp only[aq (show¬LIMIT<ways s.told from e2)]at h;symm;refine⟨c,s,rfl,c_,`Å,fun q H3 s3 hq=>?_⟩;have hw:=hq.aD wm qm;have gx:=c_.aD s3;obtain⟨as,q1,q2⟩:=Jh hw))
|`(tactic|show `_aL)=>`(tactic|(intro ae s σ H D I h))
|`(tactic|show `_aM)=>`(tactic|(obtain⟨t,rfl⟩:=rx))
|`(tactic|show `_aN)=>`(tactic|(intro ae s σ H x vs v us Q I rx rv h;obtain⟨l,b,xs,zs,rfl,rfl,hH,hB,hz,q⟩:=h;cases rx;obtain⟨u,rfl,ru⟩:=rv.one;cases ru;obtain⟨z,its,n,r,hl,e⟩:=I.zp hH))
local macro_rules
|`(tactic|show `_aO)=>`(tactic|(have nP:∀{c e f:Nat},c∈[e,f]->c=e\/c=f:=fun h=>'[';refine 4.57;refine 4.61;refine aI (sV gS rfl ?_);refine 4.76;unfold Builtin.SmallTypes.ownedTupleIsFree))
|`(tactic|show `_aP)=>`(tactic|(obtain⟨cE,gH⟩:=st;obtain⟨o,ho,hc,hd⟩:=id cE;unfold Builtin.SmallTypes.nextOf;refine aI (u6 (name:=0.55) cE.typeIs q_ 2.20);refine aI (br (aI (aI ?_)))))
|`(tactic|show `_aQ)=>`(tactic|(rw[cB,uV,gD,KR];have:=ih;simp only[xK,LB,gD];cases f p.1 p.2<;>simpa [Ae]using this))
|`(tactic|show `_aR)=>`(tactic|(simp only[Cm.M,bE,oB,pE]at hb;obtain⟨p1,q1,_⟩:=h.t1;obtain⟨p2,q2,_⟩:=h.t2;obtain⟨p3,q3,_⟩:=h.t3;rcases hb with rfl|rfl|rfl|rfl|rfl|rfl|rfl|rfl|rfl))
|`(tactic|show `_aS)=>`(tactic|(obtain⟨fo,jK,rN⟩:=hL.fn;obtain⟨Cy,tz,_⟩:=id hT;obtain⟨Cz,vw,Tn,By⟩:=id iW;have zu:d≠Pt:=dG hd tz `ć;have hd2:H2 d=some 0.9:=olds _ _ hd zu))
|`(tactic|show `_aT)=>`(tactic|(obtain⟨v,rfl,rfl⟩:=z))
|`(tactic|show `_aU)=>`(tactic|(simp only[newExc,newTuple];refine aI (AB ?_ (by size_fits));refine 3.87;refine AB ?_ (by size_fits);simp only[raiseNew];refine aI (wpAny_handled ?_)))
|`(tactic|show `_aV)=>`(tactic|(have M:=2.66;obtain⟨a1,a2,a3,a4,a5,b2,b3,b4,b5,c3,c4,c5,d4,d5,e5⟩:=tO h.nd))
|`(tactic|show `_aW)=>`(tactic|(obtain⟨v3,rfl,kk,rD,em⟩:=z;refine⟨r0,o,_,aaB s3 lC,rD,?_⟩;have lk:(aB (`_g) fun c=>V.ref (τ c)).length=(`_g).length:=eU;rw[lk,eT,YQ]at em))
|`(tactic|show `_aX)=>`(tactic|(have I1:az X ae σ H {s with heap:=h',toks:=zU}:=I.turned (fun b o hb e=>i_ b o (`_C) e) f0 f1 f3 f4 f5;have qo:=i_ S _ (by simpa using aL OS) hS))
|`(tactic|show `_aY)=>`(tactic|(have e9:af H' r0 '+' m=_:=(au vX).trans em;generalize af H' r0 '+'=H9 at S9 e9⊢;symm;intro l1 iA;refine iN rfl ?_;refine kT ax (bB iA e9) ?_ ?_))
|`(tactic|show `_aZ)=>`(tactic|(show `_ag;obtain⟨⟨k,v⟩,tG⟩:∃p,kvs[i]? =some p:=⟨kvs[i],jU hi⟩;obtain⟨u,hu,ru⟩:=ı kv tG;have hl:`Ö=`õ:=mr kv;rw[hl]at st))
|`(tactic|show `_ba)=>`(tactic|(show `_ab;obtain⟨hz,gS,⟨x0,y0,i9⟩,h1,h2⟩:=st))
|`(tactic|show `_bb)=>`(tactic|(refine 2.9;symm;refine fA ?_;symm;refine lD `Á;symm))
|`(tactic|show `_bc)=>`(tactic|(have nb:b≠x:=aR e hx;rw[lB nb,au nb];exact bB fJ e))
|`(tactic|show `_bd)=>`(tactic|(obtain⟨j,h1,h2,h3,h4,h5⟩:=VR he;obtain⟨w,ew,mM⟩:=r.get h2;have hl:=r.length;have hn:=GW;have fin:EP X ae σ Q w s:=⟨z,H,I,mM,q⟩))
|`(tactic|show `_be)=>`(tactic|(have I1:az X ae σ H {s with heap:=h'}:=2.74;obtain⟨oi,e,c,dd⟩:=id jR))
|`(tactic|show `_bf)=>`(tactic|(intro ae s σ H R I h;refine a0 (hl ae s σ H _ I h) fun v s1 ⟨x,H1,I1,r1,q1⟩=>?_;obtain⟨a,e,⟨xs,hq⟩,q⟩:=q1;subst e;cases r1))
|`(tactic|show `_bg)=>`(tactic|(simp only[dD,Vbnlak.step,e',VbnlakNeutral.shown]at h;show `_ar;exact 8.0))
|`(tactic|show `_bh)=>`(tactic|(intro l0 iz;refine 3.40;rw[q2,Jg hc];have s4:ag H3 (af H3 l0 `Ù):=ag.new iz;generalize af H3 l0 `Ù=H4 at s4⊢;have S4:=(7.5).trans s4))
local macro_rules
|`(tactic|show `_bi)=>`(tactic|(show `_ah;obtain⟨a,b,xs,rfl,rfl,ha,hb,q⟩:=h;cases rx;cases ry;obtain⟨its,rv,pl,_⟩:=I.list ha;obtain⟨j6,t_,v9,_⟩:=I.list hb))
|`(tactic|show `_bj)=>`(tactic|(obtain⟨o',_,e2,e3⟩:=fz b z;rw[e2]at e;cases e))
|`(tactic|show `_bk)=>`(tactic|(intro z;simp only[bE,oB,pE]at z;rcases z with z|z))
|`(tactic|show `_bl)=>`(tactic|(rw[cG]at hk;obtain⟨x,hx,e9⟩:=gc.mp hk;cases e9;have hX:x∈aw s.left:=cN hx;have cQ:s.left≠[]:=fun z=>by rw[z]at hX;cases hX))
|`(tactic|show `_bm)=>`(tactic|(simp only[ay (show possible s s.told s.records=false from(om _).mp e3),VbnlakNeutral.shown]at h;show `_ar;exact cT.num h hc S4 hr))
|`(tactic|show `_bn)=>`(tactic|(refine aI (br ?_);refine aI (EY gH qr ?_);rw[aq (by rw[hsz];simp)];refine aI (br ?_);refine aI (EZ gH qr ?_);rw[aq (by simp)]))
|`(tactic|show `_bo)=>`(tactic|(show `_ae;refine aI (br (aI (EY gH qr ?_)));rw[aq (by simp)];refine aI (br (aI (EZ gH qr ?_)));rw[aq (by simp)];refine br ?_))
|`(tactic|show `_bp)=>`(tactic|(obtain⟨its,rv,hl,_⟩:=I.list hs;rw[bx.Ia r]))
|`(tactic|show `_bq)=>`(tactic|(intro m hm;show `_aF;obtain⟨τ,d1,d2⟩:=c3.ex;have tY:=(iP d1).1;have lC:H3 r0=some '+':=(iP d1).2;have S3:=s2.trans s3))
|`(tactic|show `_br)=>`(tactic|(intro value slice ae s σ H x y v u Q I rx ry h hs;obtain⟨p,xs,i,z,rfl,rfl,hq,he,q⟩:=h;cases rx;obtain⟨t,rfl⟩:=ry))
|`(tactic|show `_bs)=>`(tactic|(show `_ab;obtain⟨hd,hi⟩:=hg;show `_ak;obtain⟨hs,iY,hx,jq,jZ,dX,hsz,M8⟩:=I.OE hd;obtain⟨rfl,rfl⟩:=tp gH dX))
|`(tactic|show `_bt)=>`(tactic|(rcases cK.mp hx with hx|hx))
|`(tactic|show `_bu)=>`(tactic|(have e:b=it:=`_C;subst e;obtain⟨oi,e,c,dd⟩:=st;exact 3.24))
|`(tactic|show `_bv)=>`(tactic|(intro ae s σ H vs us Q I r h))
|`(tactic|show `_bw)=>`(tactic|(rcases(6.9)with rfl|rfl))
|`(tactic|show `_bx)=>`(tactic|(obtain⟨o,e,c,d⟩:=st;exact 1.17))
|`(tactic|show `_by)=>`(tactic|(obtain⟨a,rfl⟩:=vS el;show `_ad))
|`(tactic|show `_bz)=>`(tactic|(rw[ay (by omega)]at h;symm;exact h))
|`(tactic|show `_bA)=>`(tactic|(intro ae s σ H xs us Q I r h;obtain⟨a,kvs,rfl,ha,q⟩:=h))
|`(tactic|show `_bB)=>`(tactic|(rw[ay e]at h;symm;exact h))
local macro_rules
|`(tactic|show `_bC)=>`(tactic|(rw[cG]at hx;obtain⟨k,hk,rfl⟩:=gc.mp hx))
|`(tactic|show `_bD)=>`(tactic|(have W:=4.60;refine LM PySem.F.entry_max_loop ?_;rw[Vs Aw _];refine aI (m:=seqItems? (.ref S)) (sV hS rfl ?_)))
|`(tactic|show `_bE)=>`(tactic|(symm;refine `Á;refine oT ?_;symm))
|`(tactic|show `_bF)=>`(tactic|(simp only[ay (show LIMIT<ways s.told from e2),VbnlakNeutral.shown]at h;show `_ar;exact cT.num h hc (`_l) hr))
|`(tactic|show `_bG)=>`(tactic|(subst ey;cases(2.47);obtain⟨z,hd,xs,dH,dd⟩:=yu I.aO e))
|`(tactic|show `_bH)=>`(tactic|(symm;refine `Ā))
|`(tactic|show `_bI)=>`(tactic|(subst o9;rw[oz (bp _),uZ]at ex;have:r=x:=bZ ex;subst this))
|`(tactic|show `_bJ)=>`(tactic|(obtain⟨as,z1,z2,_⟩:=hw;have Jk:=(eP z1).2;symm;intro l2' Bn;refine BZ (aG.of (bB Bn Jk)) (aG.of ax) ?_))
|`(tactic|show `_bK)=>`(tactic|(obtain⟨o,e1,e2⟩:=h0 c z;have e3:=un.jI c o U0 (by rw[uc z];exact e1);exact⟨o,e3,e2,(rS c _ e3).1⟩))
|`(tactic|show `_bL)=>`(tactic|(refine lE (s.iE hq) rfl (fA ?_);symm;refine fA ?_;show `_an;symm;refine⟨m,rfl,mm,fun pl H1 s1 e2=>?_⟩))
|`(tactic|show `_bM)=>`(tactic|(obtain⟨o',e1⟩:=I.base.there b o e hx))
|`(tactic|show `_bN)=>`(tactic|(ext;symm;intro f hf;have s0:ag H (af H f `Ù):=ag.new hf))
|`(tactic|show `_bO)=>`(tactic|(have s3:ag H2 (af H2 l0 `Ù):=ag.new iz;generalize af H2 l0 `Ù=H3 at s3⊢;have S3:=7.5;symm;refine 6.6))
|`(tactic|show `_bP)=>`(tactic|(rw[h.x]at hb;rcases bE.mp hb with rfl|hb))
|`(tactic|show `_bQ)=>`(tactic|(obtain⟨its,rv,pl,_⟩:=I.list hl;have hlen:=rv.length;rw[aJ]at hlen;obtain⟨f0,f1,f2,f3,f4,f5⟩:=fI))
|`(tactic|show `_bR)=>`(tactic|(have mD:i<`Û:=`Å;have hx:l[i]? =some l[i]:=jU mD;rw[afi hx]at e;symm;refine tM hp rfl (Qu hx) ?_;symm))
|`(tactic|show `_bS)=>`(tactic|(obtain⟨h1,e1⟩:=dM.mp a;obtain⟨h2,e2⟩:=dM.mp b;exact(List.getElem_inj hN).mp (e1.trans e2.symm)))
|`(tactic|show `_bT)=>`(tactic|(rcases g with⟨kvs,k,e,ey,l⟩|⟨kvs,k,b,e,ey,eb,l⟩))
|`(tactic|show `_bU)=>`(tactic|(obtain⟨oc,od,kV,doc,pm,an,dk,ct,kW,rfl,lk,j3⟩:=F.ex))
|`(tactic|show `_bV)=>`(tactic|(have sY:∀c∈cs,7.0<=c:=4.66;have ne:∀c u,H c=some u->c∉cs:=3.33;have aO:=Pg (H0:=H0) I.aO h0 hn))
local macro_rules
|`(tactic|show `_bW)=>`(tactic|(obtain⟨oo,n,ho,cD,_⟩:=pl;obtain⟨oi,Pe,OZ,_⟩:=cE;rw[e,Pe]at ho;cases ho;rw[OZ]at cD;simp at cD))
|`(tactic|show `_bX)=>`(tactic|(obtain⟨u',hu,ru⟩:=rv.get hx;have e':its[i]? =some u:=`_D;rw[hu]at e';cases e';exact⟨x,hx,ru⟩))
|`(tactic|show `_bY)=>`(tactic|(intro ae s σ H R I h))
|`(tactic|show `_bZ)=>`(tactic|(refine⟨dd.typeIs,fun b q=>?_,hd⟩;cases q;obtain⟨ob,_,_,h1,h2,_⟩:=dd;exact⟨ob,h1,h2.2.1⟩))
|`(tactic|show `_ca)=>`(tactic|(show `_af;refine qb (BR I hg hm ?_ hJ)))
|`(tactic|show `_cb)=>`(tactic|(obtain⟨as,h1,h2,h3⟩:=h))
|`(tactic|show `_cc)=>`(tactic|(have hy:scope.names.lookup y=some .cell\/scope.names.lookup y=some .free:=hy;rcases hy with hy|hy))
|`(tactic|show `_cd)=>`(tactic|(obtain⟨u,rfl,rx⟩:=zW r;cases rx;obtain⟨hs,z,vs,ep,kv,hm⟩:=MY I ha;have hl:`Ö=`õ:=mr kv))
|`(tactic|show `_ce)=>`(tactic|(obtain⟨H2,I3,k⟩:=I.C9 I2 q))
|`(tactic|show `_cf)=>`(tactic|(rw[ay e3]at e;refine 2.51;symm;refine⟨`Û-(i+1),`Å,i+1,rfl,rfl,rfl,mD,?_⟩;rw[e,cB];omega))
|`(tactic|show `_cg)=>`(tactic|(walk_at "s1";walk_at "s1"))
|`(tactic|show `_ch)=>`(tactic|(obtain⟨xs,x,hq,hx⟩:=hg;obtain⟨its,rv,p,hz⟩:=I.list hq;obtain⟨u,hu,ru⟩:=rv.get hx))
|`(tactic|show `_ci)=>`(tactic|(obtain⟨t,rfl⟩:=r))
|`(tactic|show `_cj)=>`(tactic|(obtain⟨z,hd,vs,dH,dd⟩:=qh I.aO e))
|`(tactic|show `_ck)=>`(tactic|(rcases bE.mp 1.47 with rfl|hu))
|`(tactic|show `_cl)=>`(tactic|(have K7:=kk.trans (s5.trans S7);have m7:=S7 _ _ (s5 _ _ em);have r7:=S7 _ _ (s5 _ _ rD);symm))
|`(tactic|show `_cm)=>`(tactic|(have hl:`õ=`_z:=F.len _ _ _ _ h;have iQ:(us++[]).length=`_z:=by rw[i6,<-r.length];exact hl))
|`(tactic|show `_cn)=>`(tactic|(obtain⟨pN,H3,I3,n3⟩:=q3;obtain⟨m',hm,w3⟩:=hN pN H3 n3;exact⟨m',hm,pN,H3,I3,w3⟩))
|`(tactic|show `_co)=>`(tactic|(symm;refine 3.48;symm;refine 1.26;symm;refine nR (ht.row c hc) (by rw[eU];exact kl `È) ?_))
|`(tactic|show `_cp)=>`(tactic|(rintro vs H Q E ⟨c,s,key,rfl,hc,h⟩;refine `Á))
local macro_rules|`($f•$s)=>`($f P w K mg base a $s)
section
namespace L2
open PySem PySem.Spec PyProof.Rows
abbrev aW:=Sum Int Str
def r_:aW->Value->Bool
 |.inl k,v=>Value.isInt k v
 |.inr x,v=>Value.isStrOf x v
def aog(w:World):aW->Int
 |.inl k=>hashInt k
 |.inr x=>hashStr w x
def pz:∀{k:aW}{v:Value},r_ k v=true->(∃i t,k=Sum.inl i/\v='!' i t)\/(∃x t,k=Sum.inr x/\v=Value.str x t)
 |.inl i,v,h=>by
  obtain⟨t,e⟩:=Value.isInt_shape (k:=i) (v:=v) h;exact .inl ⟨i,t,rfl,e⟩
 |.inr x,v,h=>by
  obtain⟨t,e⟩:=Value.isStrOf_shape (x:=x) (v:=v) h;exact .inr ⟨x,t,rfl,e⟩
def İ(i:Int)(t:Tok):r_ (.inl i) (.int i t)=true:=by simp[r_,Value.isInt]
def aoh(x:Str)(t:Tok):r_ (.inr x) (.str x t)=true:=by simp[r_,Value.isStrOf]
def aoi(a b:Int):decide ((Sum.inl a:aW)=Sum.inl b)=(a==b):=by
 by_cases e:a=b
 .subst e;simp
 .have h:¬(Sum.inl a:aW)=Sum.inl b:=fun q=>e (Sum.inl.inj q);rw[eN h];exact(gO.mpr e).symm
def aol(a b:Str):decide ((Sum.inr a:aW)=Sum.inr b)=decide (a=b):=by
 by_cases e:a=b
 .subst e;simp
 .have h:¬(Sum.inr a:aW)=Sum.inr b:=fun q=>e (Sum.inr.inj q);rw[eN h,eN e]
def aoj(a:Int)(b:Str):decide ((Sum.inl a:aW)=Sum.inr b)=false:=eN (fun q=>nomatch q)
def aok(a:Str)(b:Int):decide ((Sum.inr a:aW)=Sum.inl b)=false:=eN (fun q=>nomatch q)
def d7(prog:`Ô)(w:World):PySem.KeyKind prog w aW where
 is:=r_
 hash:=aog w
 inj:=fun v a b ha hb=>by
  rcases pz ha with⟨i,t,rfl,rfl⟩|⟨x,t,rfl,rfl⟩
  .rcases pz hb with⟨j,u,rfl,e⟩|⟨y,u,rfl,e⟩
   .injection e with e1 _;rw[e1]
   .exact nomatch e
  .rcases pz hb with⟨j,u,rfl,e⟩|⟨y,u,rfl,e⟩
   .exact nomatch e
   .injection e with e1 _;rw[e1]
 byValue:=fun k v h=>by
  rcases pz h with⟨i,t,rfl,rfl⟩|⟨x,t,rfl,rfl⟩<;>rfl
 pyHash:=fun hv h=>by
  rcases pz hv with⟨i,t,rfl,rfl⟩|⟨x,t,rfl,rfl⟩
  .exact wpAny_pyHash_int h
  .exact wpAny_pyHash_str h
 eqBool:=fun hu hv h=>by
  rcases pz hu with⟨i,t,rfl,rfl⟩|⟨x,t,rfl,rfl⟩
  .rcases pz hv with⟨j,u,rfl,rfl⟩|⟨y,u,rfl,rfl⟩
   .rw[aoi]at h;exact wpAny_eqBool_int h
   .rw[aoj]at h;exact SeqAt.EqAt.int_str i t y u _ _ _ _ h
  .rcases pz hv with⟨j,u,rfl,rfl⟩|⟨y,u,rfl,rfl⟩
   .rw[aok]at h;exact SeqAt.EqAt.str_int x t j u _ _ _ _ h
   .rw[aol]at h;exact wpAny_eqBool_str h
 «strs»:=fun k x t v h=>by
  rcases pz h with⟨i,u,rfl,e⟩|⟨y,u,rfl,e⟩
  .exact nomatch e
  .injection e with e1 _
   subst e1;cases v<;>rfl
def aoM(prog:`Ô)(w:World)(i:Int)(t:Tok):(d7 prog w).is (.inl i) (.int i t)=true:=İ i t
def aoN(prog:`Ô)(w:World)(x:Str)(t:Tok):(d7 prog w).is (.inr x) (.str x t)=true:=aoh x t
inductive V where
 |aX|bl (b:Bool)|int (i:Int)|str (x:Str)|jn (b:Array UInt8)|FU (b:UInt64)|ref (a:Addr)|ty (n:String)
 deriving DecidableEq
def bA:V->Value->Prop
 |.aX,u=>u=Value.none
 |.bl b,u=>u=0.3 b
 |.int i,u=>∃t,u='!' i t
 |.str x,u=>∃t,u=Value.str x t
 |.jn b,u=>∃t,u=Value.bytes b t
 |.FU b,u=>∃t,u=Value.float b t
 |.ref a,u=>u=`ä a
 |.ty n,u=>u=Value.type n
abbrev bx:List V->List Value->Prop:=Paired bA
def bx.length{xs:List V}{us:`Ì}(r:bx xs us):`Ã=us.length:=mr r
def bx.get:∀{xs:List V}{us:`Ì}{i:Nat}{x:V},bx xs us->xs[i]? =some x->∃u,us[i]? =some u/\bA x u
 |_,_,_,_,.nil,e=>by simp at e
 |_,_,0,_,.cons r _,e=>by simp at e;subst e;exact⟨_,rfl,r⟩
 |_,_,i+1,x,.cons _ t,e=>by
  obtain⟨u,h1,h2⟩:=bx.get (i:=i) (x:=x) t (`_D);exact⟨u,0.23,h2⟩
def bx.append:∀{xs ys:List V}{us ws:`Ì},bx xs us->bx ys ws->bx (xs++ys) (us++ws)
 |_,_,_,_,.nil,s=>s
 |_,_,_,_,.cons r t,s=>.cons r (bx.append t s)
def bx.take:∀{xs:List V}{us:`Ì}(n:Nat),bx xs us->bx (xs.take n) (us.take n)
 |_,_,0,_=>.nil
 |_,_,_+1,.nil=>.nil
 |_,_,n+1,.cons r t=>.cons r (bx.take n t)
def bx.drop:∀{xs:List V}{us:`Ì}(n:Nat),bx xs us->bx (xs.drop n) (us.drop n)
 |_,_,0,r=>r
 |_,_,_+1,.nil=>.nil
 |_,_,n+1,.cons _ t=>bx.drop n t
def bx.tP:∀{xs:List V}{us:`Ì}{i:Nat},bx xs us->xs[i]? =none->us[i]? =none:=fun{xs us i} r e=>by
 have h1:=r.length;have h2:`Ã<=i:=age.mp e;exact age.mpr `È
def jE:Option V->Option Value->Prop
 |some v,some u=>bA v u
 |none,none=>True
 |_,_=>False
def KV{κ:Type}:List (κ×V)->List (κ×Value)->Prop:=Paired fun(p:κ×V)(q:κ×Value)=>p.1=q.1/\bA p.2 q.2
def kV:aW->V
 |.inl i=>.int i
 |.inr x=>.str x
inductive HO where
 |ah (xs:List V)
 |bb (xs:List V)
 |dK (kvs:List (aW×V))|dT (kvs:List (List aW×V))
 |set (S:Int->Bool) (n:Nat)
 |ins (C dx:Addr) (fs:List (Str×V))
 |own (x:Addr)
 |xd (fs:List (Str×V))
 |Qk (f x:Addr)
 |Sh (lo hi:Int)
 |aN (o:Obj) (u:HO)
 |fi (ps:Array Value)
 |ext (φ:Heap->Prop)
abbrev Hp:=Addr->Option HO
def af(H:Hp)(a:Addr)(o:HO):Hp:=fun b=>if b=a then some o else H b
def ax{H:Hp}{a:Addr}{o:HO}:af H a o a=some o:=by unfold af;rw[ay rfl]
def au{H:Hp}{a b:Addr}{o:HO}(h:b≠a):af H a o b=H b:=by unfold af;rw[aq h]
def jj{H:Hp}{a:Addr}{o u:HO}:af (af H a o) a u=af H a u:=by
 funext b;unfold af;split<;>rfl
def dG{H:Hp}{a b:Addr}{o u:HO}(h:H a=some o)(h':H b=some u)(d:o≠u):a≠b:=by
 intro e;subst e;rw[h]at h';exact d (bZ h')
def aR{H:Hp}{a b:Addr}{o:HO}(h:H a=some o)(h':H b=none):a≠b:=by
 intro e;subst e;rw[h]at h';cases h'
section
variable(P:Program)(w:World)
def fG(H:Hp)(h:Heap)(a:Addr):HO->Prop
 |.ah xs=>`Ã<=sizeLine/\∃(its:`Ì)(n:Nat),bx xs its/\h.get? a=some {cls:=.type "list",data:=.seq its.toArray n}
 |.bb xs=>`Ã<=sizeLine/\∃its:List Value,bx xs its/\IsTup h a `Ġ
 |.dK kvs=>`Ö<=sizeLine/\4.0=false/\∃vs,KV kvs vs/\h.DictOf (d7 P w) a vs
 |.dT kvs=>`Ö<=sizeLine/\4.0=false/\∃xs:List (List aW×Addr×Value),
  Paired (fun(p:List aW×V)(q:List aW×Addr×Value)=>p.1=q.1/\H q.2.1=some (.bb (p.1.map kV))/\bA p.2 q.2.2) kvs xs/\
  ∃o es ep,h.get? a=some o/\5.8/\o.data=.dict es ep/\es.toList=xs.map (entryOfKey (1.2))/\(xs.map (·.1)).Nodup
 |.set S n=>h.SetOf (intKind P w) a S n
 |.ins C dx fs=>H dx=some (.own a)/\fs.length<=1000/\dx≠a/\h.get? a=some (instObj C dx)/\
  ∃mA,h.Ns1 dx mA/\(∀f,jE (fs.lookup f) (mA f))/\PySem.Within mA (fs.map (·.1))
 |.own _=>∃o,h.get? a=some o
 |.xd fs=>∃mA,h.Ns1 a mA/\∀f,jE (fs.lookup f) (mA f)
 |.Sh lo hi=>∃t u v,h.get? a=some {cls:=.type "range",data:=.fields #[.int lo t,.int hi u,.int 1 v]}
 |.aN o u=>h.get? a=some o/\fG H h a u
 |.fi ps=>h.get? a=some {cls:=.none,data:=.fields ps}
 |.Qk f x=>h.get? a=some (methodObj `æ (.ref x))
 |.ext φ=>φ h/\(∃o,h.get? a=some o)/\∀h1 h2:Heap,φ h1->(∀o,h1.get? a=some o->h2.get? a=some o)->φ h2
def dJ(H:Hp)(h:Heap):Prop:=∀a o,H a=some o->fG P w H h a o
end
section
variable{P:Program}{w:World}{H H':Hp}{h h':Heap}{a:Addr}{o:HO}
def fG.lt(x:fG P w H h a o):a<'~':=by
 cases o with
 |ah xs=>obtain⟨_,_,_,_,e⟩:=x;exact cI e
 |bb xs=>obtain⟨_,_,_,p⟩:=x;exact p.lt
 |dK kvs=>obtain⟨_,_,_,_,o,_,_,e,_⟩:=x;exact cI e
 |dT kvs=>obtain⟨_,_,_,_,o,_,_,e,_⟩:=x;exact cI e
 |set S n=>obtain⟨o,_,_,_,e,_⟩:=x;exact cI e
 |ins C dx fs=>obtain⟨_,_,_,e,_⟩:=x;exact cI e
 |own y=>obtain⟨_,e⟩:=x;exact cI e
 |xd fs=>obtain⟨_,⟨_,_,_,e,_⟩,_⟩:=x;exact cI e
 |Sh lo hi=>obtain⟨_,_,_,e⟩:=x;exact cI e
 |aN ob u=>obtain⟨e,_⟩:=x;exact cI e
 |fi ps=>exact cI (show h.get? a=some _ from x)
 |Qk f y=>exact cI (show h.get? a=some _ from x)
 |ext φ=>obtain⟨_,⟨_,e⟩,_⟩:=x;exact cI e
def Paired.Qc{α β:Type}{F G:α->β->Prop}:∀{l₁:`ċ}{l₂:List β},Paired F l₁ l₂->(∀a b,F a b->G a b)->Paired G l₁ l₂
 |_,_,.nil,_=>.nil
 |_,_,.cons r t,f=>.cons (f _ _ r) (Paired.Qc t f)
def fG.km(x:fG P w H h a o)(k:∀b u,(b=a\/H b=some (.own a))->h.get? b=some u->h'.get? b=some u)
 (ho:∀b,H b=some (.own a)->H' b=some (.own a)) (ht:∀b xs,H b=some (.bb xs)->H' b=some (.bb xs)):fG P w H' h' a o:=by
 induction o with
 |ah xs=>obtain⟨z,its,n,r,e⟩:=x;exact⟨z,its,n,r,'>'⟩
 |bb xs=>obtain⟨z,its,r,ob,e,c⟩:=x;exact⟨z,its,r,ob,'>',c⟩
 |dK kvs=>obtain⟨z,y,vs,r,ob,es,ep,e,c⟩:=x;exact⟨z,y,vs,r,ob,es,ep,'>',c⟩
 |dT kvs=>
  obtain⟨z,y,xs,r,ob,es,ep,e,c⟩:=x;exact⟨z,y,xs,Paired.Qc r fun p q z=>⟨z.1,ht _ _ z.2.1,z.2.2⟩,ob,es,ep,'>',c⟩
 |set S n=>obtain⟨ob,es,ep,t,e,c⟩:=x;exact⟨ob,es,ep,t,'>',c⟩
 |ins C dx fs=>
  obtain⟨d,z,ne,e,mA,⟨od,es,ep,e2,c⟩,r⟩:=x;exact⟨ho _ d,z,ne,'>',mA,⟨od,es,ep,k _ _ (.inr d) e2,c⟩,r⟩
 |own y=>obtain⟨ob,e⟩:=x;exact⟨ob,'>'⟩
 |xd fs=>obtain⟨mA,⟨od,es,ep,e,c⟩,r⟩:=x;exact⟨mA,⟨od,es,ep,'>',c⟩,r⟩
 |Sh lo hi=>obtain⟨t,u,v,e⟩:=x;exact⟨t,u,v,'>'⟩
 |aN ob u ih=>obtain⟨e,q⟩:=x;exact⟨'>',ih q⟩
 |fi ps=>
  have e:h.get? a=some {cls:=.none,data:=.fields ps}:=x;show h'.get? a=some {cls:=.none,data:=.fields ps};exact k a _ `Λ e
 |Qk f y=>
  have e:h.get? a=some (methodObj `æ (.ref y)):=x;show h'.get? a=some (methodObj `æ (.ref y));exact k a _ `Λ e
 |ext φ=>obtain⟨p,⟨o,e⟩,st⟩:=x;exact⟨st _ _ p fun o q=>k _ _ `Λ q,⟨o,'>'⟩,st⟩
def dJ.lt(x:`_r)(e:H a=some o):a<'~':=(x a o e).lt
def dJ.fresh(x:`_r)(e:'~'<=a):H a=none:=by
 cases q:H a with
 |none=>rfl
 |some u=>exact absurd (iH (x.lt q) e) (oE _)
def dJ.kept(x:`_r)(k:1.81):dJ P w H h':=fun a o e=>
 (x a o e).km (fun b u _ q=>k b u q) (fun _ q=>q) fun _ _ q=>q
def dJ.jM(x:`_r)(k:1.81)(hp:'~'<=a)(new:fG P w (af H a o) h' a o):dJ P w (af H a o) h':=fun b u e=>by
 have hn:=x.fresh hp;by_cases hb:b=a
 .subst hb;rw[ax]at e;cases e;exact new
 .rw[au hb]at e;exact(x b u e).km (fun c v _ q=>k c v q) (fun c q=>2.31) fun c xs q=>by rw[au (aR q hn)];exact q
end
def Rd(H:Hp)(a:Addr)(u:HO):Prop:=H a=some u\/∃o,H a=some (.aN o u)
def Rd.ok{P:`Ô}{w:World}{H:Hp}{h:Heap}{a:Addr}{u:HO}(r:Rd H a u)(x:`_r):fG P w H h a u:=by
 rcases r with r|⟨o,r⟩
 .exact x a u r
 .obtain⟨_,q⟩:=x a _ r;exact q
def oC:Option HO->Prop
 |some (.ah _)=>True
 |some (.dK _)=>True
 |some (.dT _)=>True
 |some (.set _ _)=>True
 |some (.ins _ _ _)=>True
 |some (.ext _)=>True
 |_=>False
section
variable{P:Program}{w:World}{H:Hp}{h h':Heap}{x e:Addr}{o':HO}
def dJ.sJ(ok:`_r)(mu:oC (H x))(he:e=x\/H e=some (.own x))(k:∀b u,b≠e->h.get? b=some u->h'.get? b=some u)(yS:∃u,h'.get? e=some u)
 (new:fG P w (af H x o') h' x o'):dJ P w (af H x o') h':=fun b u q=>by
 have aaD:∀c y,H c=some (.own y)->c≠x:=fun c y r z=>by subst z;rw[r]at mu;exact mu
 have aqb:∀c xs,H c=some (.bb xs)->c≠x:=fun c xs r z=>by subst z;rw[r]at mu;exact mu
 by_cases hb:b=x
 .subst hb;rw[ax]at q;cases q;exact new
 .rw[au hb]at q;by_cases vy:b=e
  .have q':H b=some (.own x):=by
    rcases he with z|z
    .exact absurd (vy.trans z) hb
    .rw[vy];exact z
   rw[q]at q';cases q';obtain⟨v,hv⟩:=yS;exact⟨v,by rw[vy];exact hv⟩
  .refine(ok b u q).km (fun c v hc r=>k c v ?_ r) (fun c r=>by rw[au (aaD c b r)];exact r) fun c xs r=>by rw[au (aqb c xs r)];exact r
   rcases hc with rfl|hc
   .exact vy
   .rintro rfl;rcases he with z|z
    .exact aaD c b hc z
    .rw[hc]at z;cases z;exact hb rfl
end
structure Un(fs ex:List Addr)(H H':Hp)(h h':Heap):Prop where
 keep:∀b o,h.get? b=some o->H b=none->b∉fs->b∉ex->h'.get? b=some o
 kj:∀b o,h.get? b=some o->H b=none->b∈fs->b∉ex->∃sl,h'.get? b=some {o with slots:=sl}
 free:∀b o,h.get? b=some o->H b=none->b∉ex->H' b=none
 there:∀b o,h.get? b=some o->b∉ex->∃o',h'.get? b=some o'
 oa:∀b xs,H b=some (.bb xs)->H' b=some (.bb xs)
 jI:∀b o u,H b=some (.aN o u)->H' b=some (.aN o u)
 mW:∀b ps,H b=some (.fi ps)->∃more,H' b=some (.fi (ps++more))
section
variable{fs lF ex YE:List Addr}{H H1 H2:Hp}{h h1 h2 h':Heap}{a x e:Addr}{o:HO}
def Un.any(u:Un fs ex H H1 h h1){b:Addr}{ob:Obj}(q:h.get? b=some ob)(n:H b=none)(hx:b∉ex):∃sl,h1.get? b=some {ob with slots:=sl}:=by
 by_cases hb:b∈fs
 .exact u.kj b ob q n hb hx
 .exact⟨ob.slots,u.keep b ob q n hb hx⟩
def Un.kept(k:1.81):Un fs ex H H h h':=
 ⟨fun b ob q _ _ _=>k b ob q,fun b ob q _ _ _=>⟨ob.slots,k b ob q⟩,fun _ _ _ n _=>n,fun b ob q _=>⟨ob,k b ob q⟩,fun _ _ q=>q,fun _ _ _ q=>q,fun _ ps q=>⟨#[],by rw[q];simp⟩⟩
def Un.refl:Un fs ex H H h h:=Un.kept fun _ _ q=>q
def Un.jM(k:1.81)(hp:'~'<=a)(hn:H a=none):Un fs ex H (af H a o) h h' where
 keep:=fun b u q _ _ _=>k b u q
 kj:=fun b u q _ _ _=>⟨u.slots,k b u q⟩
 free:=fun b u q n _=>by rw[au (gb (iH (cI q) hp))];exact n
 there:=fun b u q _=>⟨u,k b u q⟩
 oa:=fun b xs q=>2.31
 jI:=fun b u xs q=>2.31
 mW:=fun b ps q=>⟨#[],by rw[au (aR q hn),q];simp⟩
def Un.sJ(mu:oC (H x))(he:e=x\/H e=some (.own x))(k:∀b u,b≠e->h.get? b=some u->h'.get? b=some u)(yS:∃u,h'.get? e=some u):Un fs ex H (af H x o) h h':=by
 have hx:∀b,H b=none->b≠x:=fun b n z=>by subst z;rw[n]at mu;exact mu
 have hb:∀b,H b=none->b≠e:=fun b n z=>by
  subst z;rcases he with r|r
  .exact hx b n r
  .rw[n]at r;cases r
 have hm:∀b u,H b=some u->¬oC (some u)->b≠x:=fun b u q nm z=>by subst z;rw[q]at mu;exact nm mu
 refine⟨fun b u q n _ _=>k b u (hb b n) q,fun b u q n _ _=>⟨u.slots,k b u (hb b n) q⟩,fun b u q n _=>by rw[au (hx b n)];exact n,fun b u q _=>?_,
  fun b xs q=>by rw[au (hm b _ q fun z=>z)];exact q,fun b u xs q=>by rw[au (hm b _ q fun z=>z)];exact q,fun b ps q=>⟨#[],by rw[au (hm b _ q fun z=>z),q];simp⟩⟩
 by_cases vy:b=e
 .subst vy;exact yS
 .exact⟨u,k b u vy q⟩
end
def IX(h:Heap)(H:Hp):List Addr:=(`ó '~').filter fun a=>(H a).isSome
def o0(h:Heap)(H:Hp):Heap:=PySem.W.hideAll h (IX h H)
def alI(h:Heap)(H:Hp):(o0 h H).objs.size='~':=PySem.W.hideAll_size _ _
def alH{h:Heap}{H:Hp}{b:Addr}{o:Obj}(e:h.get? b=some o)(n:H b=none):(o0 h H).get? b=some o:=
 PySem.W.hideAll_get _ e fun hm=>by
  have q:(H b).isSome=true:=(iU.mp hm).2;rw[n]at q;simp at q
def aqe{h:Heap}{H:Hp}{b:Addr}{o:Obj}(e:(o0 h H).get? b=some o):h.get? b=some o/\H b=none:=by
 have e':h.get? b=some o:=PySem.W.of_hideAll (IX h H) e;refine⟨e',?_⟩;cases q:H b with
 |none=>rfl
 |some x=>
  have hm:b∈IX h H:=iU.mpr ⟨jm.mpr (cI e'),by simp[q]⟩;have z:(o0 h H).get? b=none:=PySem.W.hideAll_none (IX h H) hm;rw[z]at e;cases e
structure Mod(K:Frag)(mg:Str->Option Value)(base:Heap):Prop where
 vR:K.In base
 mz:base.Ns mainGlobals mg
 yp:∃mb,base.Ns builtinsNs mb/\∀x:Str,x≠"__name__"->mb x=bootBuiltins x
 nolimit:base.NoLimit
structure Cx where
 prog:Program
 w:World
 K:Frag
 mg:Str->Option Value
 base:Heap
 A:Around
 N:List Str
 h_:Shared
 sM:Hp
 am:Env
 bK:List Env
 stack:List Env
 ex:List Addr
 fn:Str->Bool
 iJ:Bool
 pn:List 0.33
 xe:Value->Shared->Prop
def nB(l:`_W):List Addr:=l.filterMap (·.frame)
abbrev Cx.fs(X:Cx):List Addr:=nB X.bK
def yk(sc:Scope)(x:Str):Prop:=sc.names.lookup x=some .local\/sc.names.lookup x=some .cell\/sc.names.lookup x=some .free
def uW(sc:Scope)(x:Str):Prop:=sc.names.lookup x=some .local\/sc.names.lookup x=some .cell
def agg(am:Env)(h:Heap)(m:`þ)(x:Str)(u:Value):Prop:=
 (am.kindOf x=some .local/\m x=some u)\/((am.kindOf x=some .cell\/am.kindOf x=some .free)/\∃c,am.cells.lookup x=some c/\h.IsCell c (some u))
structure Cx.Ok(X:Cx):Prop where
 mod:Mod X.K X.mg X.base
 kind:X.am.scope.kind=.function
 mz:X.am.globals=mainGlobals
 yp:X.am.builtins=builtinsNs
 above:7.0<=`_Q
 inj:∀x y c,X.am.cells.lookup x=some c->X.am.cells.lookup y=some c->x=y
 has:∀x,(X.am.kindOf x=some .cell\/X.am.kindOf x=some .free)->∃c,X.am.cells.lookup x=some c
 vc:∀x c,X.fn x=true->X.am.cells.lookup x=some c->7.0<=c
 hd:X.iJ=true->X.A.handled=none
 frames:X.A.frames=some X.stack
 IN:X.stack=X.bK\/(X.stack=X.am::X.bK/\X.am.frame=some `_Q)
 FF:∀b∈X.ex,b≠`_Q/\∀x c,X.am.cells.lookup x=some c->c≠b
 bs:∀b o,X.base.get? b=some o->X.h_.heap.get? b=some o/\X.sM b=none
 kF:X.base.objs.size<=7.0
 Cc:∀b o,X.base.get? b=some o->b∉X.ex
 AZ:∀b∈X.ex,b∉X.fs
 kM:X.h_.heap.FunFrames X.base X.bK
 rG:∀b∈X.fs,X.sM b=none
structure az(X:Cx)(ae:List (Addr×Obj))(σ:List (Option V))(H:Hp)(s:Shared):Prop where
 ok:X.Ok
 os:s.os=X.h_.os
 fu:AllBare s.gens
 base:Un X.fs X.ex X.sM H X.h_.heap s.heap
 iS:∃m,s.heap.Ns X.am.locals m/\∀(i:Nat)(x:Str)(v:V),X.N[i]? =some x->σ[i]? =some (some v)->yk X.am.scope x->∃u,bA v u/\agg X.am s.heap m x u
 cell:∀x c,X.am.cells.lookup x=some c->∃v,s.heap.IsCell c v
 free:H `_Q=none
 i8:∀x c,X.am.cells.lookup x=some c->H c=none
 pin:∀p∈X.pn++ae,s.heap.get? p.1=some p.2/\H p.1=none/\p.1≠`_Q/\p.1∉X.fs/\∀v,p.2.data≠.cell v
 aO:dJ X.prog X.w H s.heap
 len:σ.length=X.N.length
section
variable{X:Cx}{ae:List (Addr×Obj)}{σ:List (Option V)}{H H':Hp}{s:Shared}{h':Heap}
def Cx.Ok.QO(ok:X.Ok){b:Addr}{o:Obj}(e:X.base.get? b=some o):b∉X.fs:=fun hb=>by
 have:=(ok.kM.mem hb).1;rw[e]at this;cases this
def az.bs(I:`Ë):∀b o,X.base.get? b=some o->s.heap.get? b=some o/\H b=none:=fun b o e=>
 ⟨I.base.keep b o (I.ok.bs b o e).1 (I.ok.bs b o e).2 (I.ok.QO e) (I.ok.Cc b o e),I.base.free b o (I.ok.bs b o e).1 (I.ok.bs b o e).2 (I.ok.Cc b o e)⟩
def az.bk(I:`Ë):∀b o,X.base.get? b=some o->s.heap.get? b=some o:=fun b o e=>(I.bs b o e).1
def az.mod(I:`Ë):Mod X.K X.mg X.base:=I.ok.mod
def az.hZ(I:`Ë):X.K.In s.heap:=I.ok.mod.vR.keeps I.bk
def az.fr(I:`Ë):∃m,Fr X.base X.am.locals s.heap m:=
 let⟨m,hn,_⟩:=I.iS
 ⟨m,hn,I.bk,bq I.ok.kF I.ok.above⟩
def az.lt(I:`Ë):`_Q<`Í:=let⟨_,hn,_⟩:=I.iS;hn.lt
def az.sz(I:`Ë):7.0<=`Í:=bq I.ok.above (jV I.lt)
def az.aqa(I:`Ë){a:Addr}(h:`Í<=a):a∉X.fs:=fun hb=>by
 obtain⟨_,o,ho,_⟩:=I.ok.kM.mem hb;exact absurd (iH (cI ho) (bq I.sz h)) (oE _)
def az.rp(I:`Ë):∀x c,X.am.cells.lookup x=some c->c≠`_Q:=fun x c e z=>by
 obtain⟨v,o,ho,hd⟩:=I.cell x c e;obtain⟨m,⟨o',es,ep,lI,mC,_⟩,_⟩:=I.iS;rw[z,lI]at ho;cases ho;rw[mC]at hd;cases hd
def az.kM(I:`Ë):s.heap.FunFrames X.base X.bK:=by
 have all:∀(l:`_W),(∀b∈nB l,b∈X.fs)->X.h_.heap.FunFrames X.base l->s.heap.FunFrames X.base l:=by
  intro l
  induction l with
  |nil=>intro _ _;trivial
  |cons am r ih=>
   intro hs hl;obtain⟨hk,⟨L,o,hf,hn,ho,hd⟩,hr⟩:=hl;have hL:L∈X.fs:=hs L (by unfold nB;rw[gD,hf];exact im);obtain⟨sl,e⟩:=I.base.kj L o ho (I.ok.rG L hL) hL fun z=>I.ok.AZ L z hL;exact⟨hk,⟨L,_,hf,hn,e,hd⟩,ih (fun b hb=>hs b (by unfold nB;rw[gD,hf];exact gr _ hb)) hr⟩
 exact all X.bK (fun _ hb=>hb) I.ok.kM
def az.stack(I:`Ë):s.heap.FunFrames X.base X.stack:=by
 rcases I.ok.IN with e|⟨e,hf⟩
 .rw[e];exact I.kM
 .rw[e];obtain⟨m,hn,_⟩:=I.iS;refine .cons (by rw[I.ok.kind];decide) hf hn ?_ I.kM;exact Heap.get?_none_of_le (bq I.ok.kF I.ok.above)
def az.CW(I:`Ë):∀b∈nB X.stack,b∈`_Q::X.fs:=fun b hb=>by
 rcases I.ok.IN with e|⟨e,hf⟩
 .rw[e]at hb;exact gr _ hb
 .rw[e]at hb;unfold nB at hb;rw[gD,hf]at hb;exact hb
def az.IP(I:`Ë):∀b∈nB X.stack,H b=none:=fun b hb=>by
 rcases bE.mp (I.CW b hb)with e|hb
 .rw[e];exact I.free
 .obtain⟨_,o,ho,_⟩:=I.ok.kM.mem hb;exact I.base.free b o ho (I.ok.rG b hb) fun z=>I.ok.AZ b z hb
def az.step{g':Array GenState}{t':Nat}{d':Drawn}{ch:`ð}(I:`Ë)
 (iX:2.59)
 (keep:∀b o,b≠`_Q->b∉X.fs->b∉ch->s.heap.get? b=some o->H b=none->h'.get? b=some o)
 (kj:∀b o,b≠`_Q->b∈X.fs->b∉ch->s.heap.get? b=some o->H b=none->∃sl,h'.get? b=some {o with slots:=sl}) (free:∀b o,b∉ch->s.heap.get? b=some o->H b=none->H' b=none)
 (there:∀b o,b∉ch->s.heap.get? b=some o->∃o',h'.get? b=some o')
 (oa:∀b xs,H b=some (.bb xs)->H' b=some (.bb xs)) (jI:∀b o u,H b=some (.aN o u)->H' b=some (.aN o u)) (mW:∀b ps,H b=some (.fi ps)->∃more,H' b=some (.fi (ps++more)))
 (ns:∀m,s.heap.Ns X.am.locals m->h'.Ns X.am.locals m) (aO:dJ X.prog X.w H' h') (hg:AllBare g'):
 az X ae σ H' {s with heap:=h',gens:=g',drawn:=d',toks:=t'}:=by
 have neL:∀b o,X.h_.heap.get? b=some o->b≠`_Q:=fun b o e=>gb (iH (cI e) I.ok.above);have Hq:∀b o,X.h_.heap.get? b=some o->b∉X.ex->b∉ch:=fun b o e hx hb=>by
  rcases(iX b hb).1 with z|z
  .exact hx z
  .exact absurd (iH (cI e) z) (oE _)
 have Wh:∀x c,X.am.cells.lookup x=some c->∀v,s.heap.IsCell c v->h'.IsCell c v:=fun x c e v ⟨o,ho,hd⟩=>by
  have Ca:c∉ch:=fun z=>(iX c z).2.2.1 x c e rfl;by_cases hc:c∈X.fs
  .obtain⟨sl,q⟩:=kj c o (I.rp x c e) hc Ca ho (I.i8 x c e);exact⟨_,q,hd⟩
  .exact⟨o,keep c o (I.rp x c e) hc Ca ho (I.i8 x c e),hd⟩
 refine⟨I.ok,I.os,hg,⟨fun b o e n hb hx=>?_,fun b o e n hb hx=>?_,fun b o e n hx=>?_,fun b o e hx=>?_,fun b xs e=>oa b xs (I.base.oa b xs e),fun b o xs e=>jI b o xs (I.base.jI b o xs e),fun b ps e=>?_⟩,?_,fun x c e=>?_,?_,fun x c e=>?_,2.1,aO,I.len⟩
 .exact keep b o (neL b o e) hb (Hq b o e hx) (I.base.keep b o e n hb hx) (I.base.free b o e n hx)
 .obtain⟨sl,e1⟩:=I.base.kj b o e n hb hx;obtain⟨sl',e2⟩:=kj b _ (neL b o e) hb (Hq b o e hx) e1 (I.base.free b o e n hx);exact⟨sl',e2⟩
 .show `_bM;exact free b o' (Hq b o e hx) e1 (I.base.free b o e n hx)
 .show `_bM;exact there b o' (Hq b o e hx) e1
 .obtain⟨m1,e1⟩:=I.base.mW b ps e;obtain⟨m2,e2⟩:=mW b _ e1;exact⟨m1++m2,by rw[e2,Array.append_assoc]⟩
 .obtain⟨m,hn,hl⟩:=I.iS;refine⟨m,ns m hn,fun i x v e1 e2 e3=>?_⟩;obtain⟨u,r,l⟩:=hl i x v e1 e2 e3;refine⟨u,r,?_⟩;rcases l with l|⟨k,c,e,z⟩
  .exact .inl l
  .exact .inr ⟨k,c,e,Wh x c e _ z⟩
 .obtain⟨v,z⟩:=I.cell x c e;exact⟨v,Wh x c e v z⟩
 .obtain⟨m,⟨o,_,_,ho,_⟩,_⟩:=I.iS;exact free _ o (fun z=>(iX _ z).2.1 rfl) ho I.free
 .obtain⟨v,o,ho,hd⟩:=I.cell x c e;exact free c o (fun z=>(iX c z).2.2.1 x c e rfl) ho (I.i8 x c e)
 .obtain⟨e,n,ne,nf,d⟩:=I.pin p hp;have Ca:p.1∉ch:=fun z=>(iX p.1 z).2.2.2 p hp rfl;exact⟨keep p.1 p.2 ne nf Ca e n,free p.1 p.2 Ca e n,ne,nf,d⟩
def az.un{t':Nat}(I:`Ë)(u:Un X.fs [] H H' s.heap h')(aO:dJ X.prog X.w H' h'):az X ae σ H' {s with heap:=h',toks:=t'}:=by
 obtain⟨m,⟨o,es,ep,ho,r⟩,_⟩:=id I.iS;obtain⟨sl,hL⟩:=u.any ho I.free `Ç;exact I.step (g':=s.gens) (d':=s.drawn) (ch:=[]) (fun _ z=>nomatch z) (fun b o _ hb _ e n=>u.keep b o e n hb `Ç) (fun b o _ hb _ e n=>u.kj b o e n hb `Ç) (fun b o _ e n=>u.free b o e n `Ç) (fun b o _ e=>u.there b o e `Ç) u.oa u.jI u.mW (fun m' hm=>by
  obtain⟨o',jq,jZ,lI,r'⟩:=hm;rw[ho]at lI;cases lI;exact⟨_,jq,jZ,hL,r'⟩) aO I.fu
def az.call{g':Array GenState}{t':Nat}{d':Drawn}{ch:`ð}(I:`Ë)(u:Un (nB X.stack) ch H H' s.heap h')(aO:dJ X.prog X.w H' h')(hg:AllBare g')
 (iX:2.59):
 az X ae σ H' {s with heap:=h',gens:=g',drawn:=d',toks:=t'}:=by
 obtain⟨m,⟨o,es,ep,ho,r⟩,_⟩:=id I.iS;obtain⟨sl,hL⟩:=u.any ho I.free fun z=>(iX _ z).2.1 rfl;exact I.step (ch:=ch) iX (fun b o hL hb hc e n=>u.keep b o e n (fun z=>(bE.mp (I.CW b z)).elim hL hb) hc) (fun b o _ _ hc e n=>u.any e n hc) (fun b o hc e n=>u.free b o e n hc) (fun b o hc e=>u.there b o e hc) u.oa u.jI u.mW (fun m' hm=>by
  obtain⟨o',jq,jZ,lI,r'⟩:=hm;rw[ho]at lI;cases lI;exact⟨_,jq,jZ,hL,r'⟩) aO hg
def az.turned{t':Nat}{it:Addr}(I:`Ë)(k:∀b o,b≠it->s.heap.get? b=some o->h'.get? b=some o)(hn:H it=none)(hL:it≠`_Q)
 (h1:it∈X.ex\/7.0<=it) (h2:∀x c,X.am.cells.lookup x=some c->c≠it) (h3:∀p∈X.pn++ae,p.1≠it):az X ae σ H {s with heap:=h',toks:=t'}:=by
 have tN:∀b u,H b=some u->b≠it:=fun b u e z=>by rw[z,hn]at e;cases e
 refine I.step (g':=s.gens) (d':=s.drawn) (ch:=[it]) ('%') (fun b o _ _ hc e _=>3.59) (fun b o _ _ hc e _=>⟨o.slots,3.59⟩) (fun _ _ _ _ n=>n)
  (fun b o hc e=>⟨o,3.59⟩) (fun _ _ e=>e) (fun _ _ _ e=>e) (fun b ps e=>⟨#[],by rw[e];simp⟩) (fun m hm=>?_) (fun b u e=>?_) I.fu
 .have e:b=it:=`_C;subst e;exact⟨h1,hL,h2,h3⟩
 .obtain⟨o,es,ep,ho,r⟩:=hm;exact⟨o,es,ep,k _ o (aL hL) ho,r⟩
 .refine 4.46;rcases hc with z|z
  .rw[z];exact tN b u e
  .exact tN c _ z
def az.ii(I:`Ë)(t:Nat):az X ae σ H {s with toks:=t}:=I.un (h':=s.heap) (t':=t) Un.refl I.aO
def az.kept{t':Nat}(I:`Ë)(k:∀b u,s.heap.get? b=some u->h'.get? b=some u):az X ae σ H {s with heap:=h',toks:=t'}:=I.un (Un.kept k) (I.aO.kept k)
def az.jM{a:Addr}{o:HO}{t':Nat}(I:`Ë)(k:∀b u,s.heap.get? b=some u->h'.get? b=some u)(hp:`Í<=a)(new:fG X.prog X.w (af H a o) h' a o):
 az X ae σ (af H a o) {s with heap:=h',toks:=t'}:=I.un (Un.jM k hp (I.aO.fresh hp)) (I.aO.jM k hp new)
def az.sJ{x e:Addr}{o:HO}{t':Nat}(I:`Ë)(mu:oC (H x))(he:e=x\/H e=some (.own x))(k:∀b u,b≠e->s.heap.get? b=some u->h'.get? b=some u)(yS:∃u,h'.get? e=some u)
 (new:fG X.prog X.w (af H x o) h' x o):az X ae σ (af H x o) {s with heap:=h',toks:=t'}:=I.un (Un.sJ mu he k yS) (I.aO.sJ mu he k yS new)
def az.au0{aS:List (Option V)}(I:`Ë)(hl:aS.length=σ.length)(w:∀(i:Nat) v,aS[i]? =some (some v)->σ[i]? =some (some v)):az X ae aS H s:=
 ⟨I.ok,I.os,I.fu,I.base,let⟨m,hn,iZ⟩:=I.iS;⟨m,hn,fun i x v e1 e2 e3=>iZ i x v e1 (w i v e2) e3⟩,I.cell,I.free,I.i8,I.pin,I.aO,hl.trans I.len⟩
def az.HC{pF:`Ï}(I:`Ë)(h:∀p∈pF,s.heap.get? p.1=some p.2/\H p.1=none/\p.1≠`_Q/\p.1∉X.fs/\∀v,p.2.data≠.cell v):az X pF σ H s:=
 ⟨I.ok,I.os,I.fu,I.base,I.iS,I.cell,I.free,I.i8,fun p hp=>(cK.mp hp).elim (fun z=>I.pin p (K1 _ z)) (h p),I.aO,I.len⟩
def QN{N:`ô}(hN:N.Nodup){i j:Nat}{x:Str}(a:N[i]? =some x)(b:N[j]? =some x):i=j:=by
 show `_bS
def adw{M:Model}{A:Around}{E:`Ñ}{i:Nat}{x:Str}{v:V}{u:Value}{Q:0.20}(I:`Ë)(hN:X.N.Nodup)(hi:4.2)(hx:0.27)(r:bA v u)
 (h:∀s',az X ae (σ.set i (some v)) H s'->(∃a,Heap.SameBut a s.heap s'.heap/\(a=`_Q\/X.am.cells.lookup x=some a))->Q () s') (hf:0.10:=by first|exact .inl rfl|exact .inr rfl|assumption):wpAny M A (storeName X.am x u) Q E s:=by
 obtain⟨m,hn,hl⟩:=id I.iS;have alA:(X.am.scope.kind==.class||(X.am.scope.kind==.module&&`_Q !=X.am.globals))=false:=by rw[I.ok.kind];rfl
 have Zx:i<σ.length:=by rw[I.len];exact(dM.mp hi).1
 have rp:=I.rp;have afq:∀{a:Addr}{h':Heap},(∃o,s.heap.get? a=some o/\H a=none)->Heap.SameBut a s.heap h'->dJ X.prog X.w H h':=fun{a h'} ha hs b ob e=>by
  obtain⟨_,_,yV⟩:=ha;refine(I.aO b ob e).km (fun c w' hc q=>(hs.2 c ?_).trans q) (fun _ q=>q) fun _ _ q=>q;rintro rfl;rcases hc with rfl|hc
  .rw[yV]at e;cases e
  .rw[yV]at hc;cases hc
 rcases hx with hk|hk
 .refine wpAny_storeName_local hk hn (fun h' Bp hs=>?_) alA;obtain⟨oL,_,_,Bs,_⟩:=id hn;refine h _ ⟨I.ok,I.os,I.fu,3.84,⟨_,Bp,fun j y v' e1 e2 e3=>?_⟩,fun y c e=>?_,I.free,I.i8,2.1,afq ⟨oL,Bs,I.free⟩ hs,by simpa using I.len⟩ ⟨_,hs,.inl rfl⟩
  .exact(3.49).trans (I.base.keep b o e n hb hx)
  .obtain⟨sl,e1⟩:=I.base.kj b o e n hb hx;exact⟨sl,(3.49).trans e1⟩
  .show `_bM;exact⟨o',(3.49).trans e1⟩
  .by_cases hj:j=i
   .subst hj;rw[hi]at e1;cases e1;rw[U9 Zx]at e2;cases e2;exact⟨u,r,.inl ⟨hk,`Õ⟩⟩
   .rw[U8 (aL hj)]at e2;obtain⟨u',r',q⟩:=hl j y v' e1 e2 e3;refine⟨u',r',?_⟩;rcases q with⟨k,e⟩|⟨k,c,e,z⟩
    .refine .inl ⟨k,?_⟩;have:y≠x:=fun e=>hj (QN hN e1 (e▸hi));simp[this,e]
    .exact .inr ⟨k,c,e,z.sameBut hs (rp y c e)⟩
  .obtain⟨w',z⟩:=I.cell y c e;exact⟨w',z.sameBut hs (rp y c e)⟩
  .obtain⟨e,n,ne,nf,d⟩:=I.pin p hp;exact⟨(hs.2 p.1 ne).trans e,n,ne,nf,d⟩
 .have oZ:X.fn x=true:=by
   rcases hf with z|z
   .exact z
   .rw[z]at hk;cases hk
  obtain⟨c,hc⟩:=I.ok.has x (.inl hk);obtain⟨w',z⟩:=I.cell x c hc;refine wpAny_storeName_cell I.ok.kind hk hc z (fun h' gn hs=>?_);obtain⟨oc,vH,Pc⟩:=id z;refine h {s with heap:=h'} ⟨I.ok,I.os,I.fu,3.84,⟨m,hn.sameBut hs (aL (rp x c hc)),fun j y v' e1 e2 e3=>?_⟩,fun y c' e=>?_,I.free,I.i8,2.1,afq ⟨oc,vH,I.i8 x c hc⟩ hs,by simpa using I.len⟩ ⟨c,hs,.inr hc⟩
  .exact(3.20).trans (I.base.keep b o e n hb hx)
  .obtain⟨sl,e1⟩:=I.base.kj b o e n hb hx;exact⟨sl,(3.20).trans e1⟩
  .show `_bM;exact⟨o',(3.20).trans e1⟩
  .by_cases hj:j=i
   .subst hj;rw[hi]at e1;cases e1;rw[U9 Zx]at e2;cases e2;exact⟨u,r,.inr ⟨.inl hk,c,hc,gn⟩⟩
   .rw[U8 (aL hj)]at e2;obtain⟨u',r',q⟩:=hl j y v' e1 e2 e3;refine⟨u',r',?_⟩;rcases q with q|⟨k,c',e,z'⟩
    .exact .inl q
    .refine .inr ⟨k,c',e,z'.sameBut hs ?_⟩;rintro rfl;exact hj (QN hN e1 (I.ok.inj _ _ _ e hc▸hi))
  .by_cases Ba:c'=c
   .subst Ba;exact⟨_,gn⟩
   .obtain⟨w2,z2⟩:=I.cell y c' e;exact⟨w2,z2.sameBut hs Ba⟩
  .obtain⟨e,n,ne,nf,d⟩:=I.pin p hp;refine⟨(hs.2 p.1 ?_).trans e,n,ne,nf,d⟩;intro q;rw[q,vH]at e;have q':oc=p.2:=bZ e;exact d w' (by rw[<-q'];exact Pc)
def SU{M:Model}{A:Around}{E:`Ñ}{i:Nat}{x:Str}{v:V}{u:Value}{Q:0.20}(I:`Ë)(hN:X.N.Nodup)(hi:4.2)(hx:0.27)(r:bA v u)
 (h:∀s',az X ae (σ.set i (some v)) H s'->Q () s') (hf:0.10:=by first|exact .inl rfl|exact .inr rfl|assumption):wpAny M A (storeName X.am x u) Q E s:=
 adw I hN hi hx r (fun s' I' _=>h s' I') hf
def az.Mj{s':Shared}{ch:`ð}(I:`Ë)(ho:s'.os=s.os)(u:Un (nB X.stack) ch H H' s.heap s'.heap)(aO:dJ X.prog X.w H' s'.heap)(hg:AllBare s'.gens)
 (iX:2.59):az X ae σ H' s':=by
 obtain⟨h',g',d',t',o'⟩:=s';have e:o'=s.os:=ho;subst e;exact I.call (g':=g') (t':=t') (d':=d') u aO hg iX
end
abbrev XK:=Value->Option Addr->Hp->Prop
abbrev St:=List (Option V)
abbrev VK:='&'
abbrev TE:=St->Hp->VK->Prop
abbrev TT:=St->Hp->(`_w)->Prop
abbrev TA:=St->Hp->(List V->Hp->Prop)->Prop
structure gB where
 nx:St->Hp->Prop
 rt:VK
 bk:St->Hp->Prop:=fun _ _=>False
 ct:St->Hp->Prop:=fun _ _=>False
abbrev TS:=gB->St->Hp->Prop
def EP(X:Cx)(ae:`Ï)(σ:St)(Q:VK)(u:Value)(s':Shared):Prop:=∃v H',az X ae σ H' s'/\bA v u/\Q v H'
def TP(X:Cx)(ae:`Ï)(σ:St)(Q:`_w)(b:Bool)(s':Shared):Prop:=∃H',az X ae σ H' s'/\Q b H'
def AP(X:Cx)(ae:`Ï)(σ:St)(Q:List V->Hp->Prop)(us:`Ì)(s':Shared):Prop:=∃vs H',az X ae σ H' s'/\bx vs us/\Q vs H'
def SP(X:Cx)(ae:`Ï)(D:gB)(f:Flow)(s':Shared):Prop:=
 match f with
 |.next=>∃aS H',az X ae aS H' s'/\D.nx aS H'
 |.brk=>∃aS H',az X ae aS H' s'/\D.bk aS H'
 |.cont=>∃aS H',az X ae aS H' s'/\D.ct aS H'
 |.ret u=>∃v aS H',az X ae aS H' s'/\bA v u/\D.rt v H'
def PE(X:Cx)(e:Expr)(t:TE):Prop:=
 ∀(ae:`Ï)(s:Shared)(σ:St)(H:Hp)(Q:VK),az X ae σ H s->t σ H Q->wpAny `Î X.A (eval e X.am) `_v X.xe s
def PT(X:Cx)(e:Expr)(t:TT):Prop:=
 ∀(ae:`Ï)(s:Shared)(σ:St)(H:Hp)(Q:`_w),az X ae σ H s->t σ H Q->wpAny `Î X.A (isTrue e X.am (eval e X.am)) (TP X ae σ Q) X.xe s
def PW(X:Cx)(e:Expr)(t:TT):Prop:=
 ∀(whole:Sem Value)(ae:`Ï)(s:Shared)(σ:St)(H:Hp)(Q:`_w),az X ae σ H s->t σ H Q->wpAny `Î X.A (isTrue e X.am whole) (TP X ae σ Q) X.xe s
def PW.pt{X:Cx}{e:Expr}{t:TT}(h:PW X e t):PT X e t:=h _
def PA(X:Cx)(es:`_h)(t:TA):Prop:=
 ∀(pos:Pos)(ae:`Ï)(s:Shared)(σ:St)(H:Hp)(Q:List V->Hp->Prop),az X ae σ H s->t σ H Q->wpAny `Î X.A (spliced ('-')) (AP X ae σ Q) X.xe s
def PS(X:Cx)(st:Stmt)(t:TS):Prop:=
 ∀(ae:`Ï)(s:Shared)(σ:St)(H:Hp)(D:gB),az X ae σ H s->t D σ H->wpAny `Î X.A (exec st X.am) (SP X ae D) X.xe s
def jD(X:Cx)(st:List Stmt)(t:TS):Prop:=
 ∀(ae:`Ï)(s:Shared)(σ:St)(H:Hp)(D:gB),az X ae σ H s->t D σ H->wpAny `Î X.A (execs st X.am) (SP X ae D) X.xe s
def a0{α:Type}{t:Sem α}{Q Q':α->Shared->Prop}{M:Model}{A:Around}{E:`Ñ}{s:Shared}(h:wpAny M A t Q E s)(hQ:∀a s,Q a s->Q' a s):wpAny M A t Q' E s:=kD h hQ fun _ _ x=>x
section
variable{X:Cx}
def bin{a b:Expr}{ta tb:TE}(ha:'9')(hb:PE X b tb){ae:`Ï}{s:Shared}{σ:St}{H:Hp}{R:V->V->Hp->Prop}(I:`Ë)(h:ta σ H fun x H1=>tb σ H1 fun y H2=>R x y H2)
 {α:Type} {Q:α->Shared->Prop} {f:Value->Value->Sem α}
 (hf:3.97):
 wpAny `Î X.A (eval a X.am) 3.96 X.xe s:=by
 refine 1.65;refine 4.72;exact hf v u s2 x y H2 I2 r1 r2 q2
def aa(i:Nat):TE:=fun σ H Q=>∃v,σ[i]? =some (some v)/\Q v H
def tC(v:V):TE:=fun _ H Q=>Q v H
def asn{i:Nat}{x:Str}{pos:Pos}(hN:4.2)(hv:yk X.am.scope x)(hd:`_u:=by decide)(j3:(x==("__classdict__":Str))=false:=by decide):PE X 8.8 (aa i):=by
 show `_af;obtain⟨v,e,h⟩:=h;obtain⟨m,hn,hl⟩:=I.iS;obtain⟨u,r,l⟩:=hl i x v hN e hv;have fin:EP X ae σ Q u s:=⟨v,H,I,r,h⟩;rcases l with⟨hk,hm⟩|⟨hk,c,hc,qp⟩
 .exact wpAny_Name (wpAny_loadName_local I.ok.kind hk hn hm fin) hd
 .rcases hk with hk|hk
  .exact wpAny_Name (wpAny_loadName_cell I.ok.kind hk hc qp fin) hd
  .exact wpAny_Name (wpAny_loadName_free I.ok.kind hk hc qp fin j3) hd
def bw{i j pos}:PE X (.Constant `_A j pos) (tC `_A):=fun _ _ _ H _ I h=>wpAny_Constant_int ⟨.int i,H,I.ii _,`_o,h⟩
def nX{b j pos}:PE X (.Constant (.bool b) j pos) (tC (.bl b)):=fun _ _ _ H _ I h=>Constant_bool ⟨.bl b,H,I,rfl,h⟩
def vZ{j pos}:PE X (.Constant .none j pos) (tC .aX):=fun _ _ _ H _ I h=>Constant_none ⟨.aX,H,I,rfl,h⟩
def Gl(X:Cx)(x:Str):Prop:=X.am.kindOf x=some .globalImplicit
def BR{E:`Ñ}{ae:`Ï}{s:Shared}{σ:St}{H:Hp}{x:Str}{u:Value}{pos:Pos}{Q:`Ñ}(I:`Ë)(hg:Gl X x)(hm:X.mg x=some u)(h:Q u s)
 (hd:`_u:=by decide):wpAny `Î X.A (eval 8.8 X.am) Q E s:=
 Calls.Name_function_global I.ok.kind hg (Calls.loadGlobal_global (by rw[I.ok.mz];exact I.mod.mz.keeps I.bk) hm h) hd
def si{E:`Ñ}{ae:`Ï}{s:Shared}{σ:St}{H:Hp}{x:Str}{u:Value}{pos:Pos}{Q:`Ñ}(I:`Ë)(hg:Gl X x)(hm:X.mg x=none)(hv:bootBuiltins x=some u)(h:Q u s)
 (hn:x≠"__name__":=by decide) (hd:`_u:=by decide):wpAny `Î X.A (eval 8.8 X.am) Q E s:=by
 obtain⟨mb,h1,h2⟩:=I.mod.yp;exact Calls.Name_function_global I.ok.kind hg (Calls.loadGlobal_builtin (by rw[I.ok.mz];exact I.mod.mz.keeps I.bk) hm (by rw[I.ok.yp];exact h1.keeps I.bk) ((h2 x hn).trans hv) h) hd
def mH{x:Str}{v:V}{u:Value}{pos:Pos}(hg:Gl X x)(hm:X.mg x=some u)(r:bA v u)(hd:`_u:=by decide):PE X 8.8 (tC v):=
 fun _ _ _ H _ I h=>BR I hg hm ⟨v,H,I,r,h⟩ hd
variable{a b:Expr}{ta tb:TE}{pos:Pos}
def PC(X:Cx)(op:CmpOp)(a b:Expr)(t:TE):Prop:=
 ∀(ae:`Ï)(s:Shared)(σ:St)(H:Hp)(Q:VK),az X ae σ H s->t σ H Q->
  wpAny `Î X.A (eval a X.am) (fun v bY=>wpAny `Î X.A (eval b X.am) (fun u ie=>wpAny `Î X.A (compareOp op v u) `_v X.xe ie) X.xe bY) X.xe s
def tB(t:TE):TT:=fun σ H Q=>t σ H fun x H1=>∃c,x=.bl c/\Q c H1
def ase{op:CmpOp}{t:TE}(h:PC X op a b t)(h1:2.44:=by first|exact ap_ _ `Æ `Æ|rfl):PE X 2.42 t:=fun ae s σ H Q I hw=>wpAny_Compare1 (h ae s σ H Q I hw) h1
def tV{op:CmpOp}{t:TE}(h:PC X op a b t)(h1:2.44:=by first|exact ap_ _ `Æ `Æ|rfl):PT X 2.42 (tB t):=by
 intro ae s σ H Q I hw;refine wpAny_isTrue_Compare1 (a0 (h ae s σ H _ I hw) fun v s1 h1=>a0 h1 fun u s2 h2=>a0 h2 fun c s3 ⟨x,H1,I1,r1,q1⟩=>?_) h1;obtain⟨d,rfl,q⟩:=q1;cases r1;exact sW ⟨H1,I1,q⟩
def fL{e:Expr}{t:TE}(h:PE X e t)(he:∀whole,isTrue e X.am whole=(do let v<-whole;standAt e.pos;holding [v] (truthy v)):=by intro _;rfl):PT X e (tB t):=by
 intro ae s σ H Q I hw;refine isTrue_plain (a0 (h ae s σ H _ I hw) fun v s1 ⟨x,H1,I1,r1,q1⟩=>?_) (he _);obtain⟨d,rfl,q⟩:=q1;cases r1;exact sW ⟨H1,I1,q⟩
variable{tA IR:TT}{gJ:List Expr}
def xj(t u:TT):TT:=fun σ H Q=>t σ H fun c H1=>if c=true then u σ H1 Q else Q false H1
def xm(t u:TT):TT:=fun σ H Q=>t σ H fun c H1=>if c=true then Q true H1 else u σ H1 Q
def ji(t:TT):TT:=fun σ H Q=>t σ H fun c H1=>Q (!c) H1
def CD(ha:PT X a tA):PW X (.BoolOp .And [a] pos) tA:=by
 intro wh ae s σ H Q I h;refine isTrue_and (a0 (ha ae s σ H Q I h) fun c s1 e=>?_);cases c with
 |true=>exact isTrue_and_nil e
 |false=>exact e
def HY(ha:PT X a tA):PW X (.BoolOp .Or [a] pos) tA:=by
 intro wh ae s σ H Q I h;refine isTrue_or (a0 (ha ae s σ H Q I h) fun c s1 e=>?_);cases c with
 |false=>exact isTrue_or_nil e
 |true=>exact e
def CB(ha:PT X a tA)(hb:PW X (.BoolOp .And (b::gJ) pos) IR):PW X (.BoolOp .And (a::b::gJ) pos) (xj tA IR):=by
 intro wh ae s σ H Q I h;refine isTrue_and (a0 6.5 fun c s1 ⟨H1,I1,q1⟩=>?_);cases c with
 |true=>exact hb wh ae s1 σ H1 Q I1 q1
 |false=>exact⟨H1,I1,q1⟩
def HX(ha:PT X a tA)(hb:PW X (.BoolOp .Or (b::gJ) pos) IR):PW X (.BoolOp .Or (a::b::gJ) pos) (xm tA IR):=by
 intro wh ae s σ H Q I h;refine isTrue_or (a0 6.5 fun c s1 ⟨H1,I1,q1⟩=>?_);cases c with
 |true=>exact⟨H1,I1,q1⟩
 |false=>exact hb wh ae s1 σ H1 Q I1 q1
def jP(ha:PT X a tA):PT X (.UnaryOp .Not a pos) (ji tA):=by
 show `_af;exact isTrue_not (ha ae s σ H (fun c H1=>Q (!c) H1) I h)
def SY(ta tb:TE):TE:=fun σ H Q=>ta σ H fun x H1=>∃c,x=.bl c/\if c=true then tb σ H1 Q else Q (.bl false) H1
def Td(ta tb:TE):TE:=fun σ H Q=>ta σ H fun x H1=>∃c,x=.bl c/\if c=true then Q (.bl true) H1 else tb σ H1 Q
def aaU{op}{t:TE}(h:PE X a t):PE X (.BoolOp op [a] pos) t:=fun ae s σ H Q I hw=>BoolOp_one (h ae s σ H Q I hw)
def asa(ha:'9')(hb:PE X (.BoolOp .And (b::gJ) pos) tb):PE X (.BoolOp .And (a::b::gJ) pos) (SY ta tb):=by
 show `_af;refine BoolOp_and (1.65);obtain⟨c,rfl,q1⟩:=q1;cases r1;refine sW ?_;cases c with
 |true=>exact hb ae s1 σ H1 Q I1 q1
 |false=>exact⟨.bl false,H1,I1,rfl,q1⟩
def asl(ha:'9')(hb:PE X (.BoolOp .Or (b::gJ) pos) tb):PE X (.BoolOp .Or (a::b::gJ) pos) (Td ta tb):=by
 show `_af;refine BoolOp_or (1.65);obtain⟨c,rfl,q1⟩:=q1;cases r1;refine sW ?_;cases c with
 |false=>exact hb ae s1 σ H1 Q I1 q1
 |true=>exact⟨.bl true,H1,I1,rfl,q1⟩
def IT(t:TT)(ta tb:TE):TE:=fun σ H Q=>t σ H fun c H1=>if c=true then ta σ H1 Q else tb σ H1 Q
def aaR{c:Expr}(hc:PT X c tA)(ha:'9')(hb:PE X b tb):PE X (.IfExp c a b pos) (IT tA ta tb):=by
 show `_af;refine wpAny_IfExp (a0 (hc ae s σ H _ I h) fun d s1 ⟨H1,I1,q1⟩=>?_);cases d with
 |true=>exact ha ae s1 σ H1 Q I1 q1
 |false=>exact hb ae s1 σ H1 Q I1 q1
end
def aG(K:Frag)(H:Hp)(a:Addr)(xs:List V):Prop:=
 Rd H a `Ē\/
  ∃(o:Obj)(its:'6')(n:Nat),K.lookup a=some o/\o.cls=.type "list"/\o.dict=none/\o.data=.seq its n/\its.size<=sizeLine/\bx xs its.toList
def bF(K:Frag)(H:Hp)(a:Addr)(xs:List V):Prop:=
 Rd H a (.bb xs)\/
  ∃(o:Obj)(its:'6')(n:Nat),K.lookup a=some o/\o.cls=.type "tuple"/\o.data=.seq its n/\its.size<=sizeLine/\bx xs its.toList
def ail:Value->Option V
 |.none=>some .aX
 |.bool b=>some (.bl b)
 |.int i _=>some `_A
 |.str x _=>some (.str x)
 |.bytes b _=>some (.jn b)
 |.float b _=>some (.FU b)
 |.ref a=>some `_L
 |.type n=>some (.ty n)
 |_=>none
def bA.VG{x:V}{u:Value}(r:bA x u):ail u=some x:=by
 cases x with
 |aX=>cases r;rfl
 |bl _=>cases r;rfl
 |int _=>obtain⟨t,rfl⟩:=r;rfl
 |str _=>obtain⟨t,rfl⟩:=r;rfl
 |jn _=>obtain⟨t,rfl⟩:=r;rfl
 |FU _=>obtain⟨t,rfl⟩:=r;rfl
 |ref _=>cases r;rfl
 |ty _=>cases r;rfl
def bA.inj{x y:V}{u:Value}(r:bA x u)(q:bA y u):x=y:=bZ (r.VG.symm.trans q.VG)
def bx.inj:∀{xs ys:List V}{us:`Ì},bx xs us->bx ys us->xs=ys
 |_,_,_,.nil,.nil=>rfl
 |_,_,_,.cons r t,.cons r' t'=>by rw[r.inj r',bx.inj t t']
section
variable{X:Cx}{ae:List (Addr×Obj)}{σ:St}{H:Hp}{s:Shared}{a:Addr}{xs ys:List V}
def aG.of{K:Frag}(h:H a=some `Ē):aG K H a xs:=.inl (.inl h)
def bF.of{K:Frag}(h:H a=some (.bb xs)):bF K H a xs:=.inl (.inl h)
def az.list(I:`Ë)(h:aG X.K H a xs):∃its:List Value,bx xs its/\PlainL s.heap a `Ġ/\`Ã<=sizeLine:=by
 rcases h with h|⟨o,its,n,hk,hc,hd,hs,hz,r⟩
 .obtain⟨z,its,n,r,e⟩:=h.ok I.aO;exact⟨its,r,⟨_,n,e,rfl,rfl,rfl⟩,z⟩
 .refine⟨its.toList,r,⟨o,n,I.hZ a o hk,hc,hd,by simpa using hs⟩,?_⟩;have e:=r.length;simp only[zZ]at e;omega
def az.tuple(I:`Ë)(h:bF X.K H a xs):∃its:List Value,bx xs its/\IsTup s.heap a `Ġ/\`Ã<=sizeLine:=by
 rcases h with h|⟨o,its,n,hk,hc,hs,hz,r⟩
 .obtain⟨z,its,r,p⟩:=h.ok I.aO;exact⟨its,r,p,z⟩
 .refine⟨its.toList,r,⟨o,I.hZ a o hk,hc,n,by simpa using hs⟩,?_⟩;have e:=r.length;simp only[zZ]at e;omega
def az.GX(I:`Ë)(h:aG X.K H a xs)(h':aG X.K H a ys):xs=ys:=by
 obtain⟨its,r,⟨o,n,e,_,_,d⟩,_⟩:=I.list h;obtain⟨its',r',⟨o',n',e',_,_,d'⟩,_⟩:=I.list h';rw[e]at e';cases e';rw[d]at d';injection d' with d1 _
 have:its=its':=by simpa using fv Array.toList d1
 subst this;exact r.inj r'
def az.auG(I:`Ë)(h:bF X.K H a xs)(h':bF X.K H a ys):xs=ys:=by
 obtain⟨its,r,⟨o,e,_,n,d⟩,_⟩:=I.tuple h;obtain⟨its',r',⟨o',e',_,n',d'⟩,_⟩:=I.tuple h';rw[e]at e';cases e';rw[d]at d';injection d' with d1 _
 have:its=its':=by simpa using fv Array.toList d1
 subst this;exact r.inj r'
end
abbrev Cx.qK(X:Cx)(E:`Ñ):Cx:={X with xe:=E}
abbrev Cx.Cg(X:Cx):Cx:=X.qK fun _ _=>False
def Cx.Ok.qK{X:Cx}(ok:X.Ok)(E:`Ñ):(X.qK E).Ok:=
 3.77
def Cx.Ok.uy{X:Cx}{E:`Ñ}(ok:(X.qK E).Ok):X.Ok:=
 3.77
section
variable{X:Cx}{ae:List (Addr×Obj)}{σ:St}{H:Hp}{s:Shared}{E:Value->Shared->Prop}
def az.qK(I:`Ë)(E:`Ñ):az (X.qK E) ae σ H s:=⟨I.ok.qK E,I.os,I.fu,I.base,I.iS,I.cell,I.free,I.i8,I.pin,I.aO,I.len⟩
def az.uy(I:az (X.qK E) ae σ H s):az X ae σ H s:=⟨I.ok.uy,I.os,I.fu,I.base,I.iS,I.cell,I.free,I.i8,I.pin,I.aO,I.len⟩
def SP.uy{D:gB}{f:Flow}{s':Shared}(h:SP (X.qK E) ae D f s'):SP X ae D f s':=by
 cases f with
 |next=>obtain⟨aS,H',I,q⟩:=h;exact⟨aS,H',I.uy,q⟩
 |brk=>obtain⟨aS,H',I,q⟩:=h;exact⟨aS,H',I.uy,q⟩
 |cont=>obtain⟨aS,H',I,q⟩:=h;exact⟨aS,H',I.uy,q⟩
 |ret u=>obtain⟨v,aS,H',I,r,q⟩:=h;exact⟨v,aS,H',I.uy,r,q⟩
def jD.Cg{st:List Stmt}{t:TS}(h:jD X.Cg st t):jD X st t:=fun ae s σ H D I hw=>
 kD (h ae s σ H D (I.qK _) hw) (fun _ _ q=>q.uy) fun _ _ z=>`_m z
end
section
variable{X:Cx}{st:Stmt}{gJ:List Stmt}{t u:TS}{e:Expr}{te:TE}{pos:Pos}
def bL:TS:=fun D σ H=>D.nx σ H
def aC(t u:TS):TS:=fun D σ H=>t {D with nx:=u D} σ H
def bS:jD X [] bL:=fun _ _ σ H _ I h=>LR ⟨σ,H,I,h⟩
def aE(h1:PS X st t)(h2:jD X gJ u):jD X (st::gJ) (aC t u):=by
 show `_aL;refine wpAny_execs_cons (a0 (h1 ae s σ H {D with nx:=u D} I h) fun f s1 q=>?_);cases f with
 |next=>
  obtain⟨aS,H',I',q⟩:=q;exact h2 ae s1 aS H' D I' q
 |ret v=>exact q
 |brk=>exact q
 |cont=>exact q
def aF(h1:PS X st t):jD X [st] t:=by
 show `_aL;refine wpAny_execs_cons (a0 (h1 ae s σ H D I h) fun f s1 q=>?_);cases f with
 |next=>exact LR q
 |ret v=>exact q
 |brk=>exact q
 |cont=>exact q
def az.quiet{ae:`Ï}{σ:St}{H:Hp}{s:Shared}(I:`Ë):interactive X.am=false:=by simp[interactive,I.ok.kind]
def eL(te:TE):TS:=fun D σ H=>te σ H fun _ H1=>D.nx σ H1
def fh(he:PE X e te)(hs:swapsWith e none pos.line X.am=pure false:=by rfl):PS X (.Expr e pos) (eL te):=by
 show `_aL;exact wpAny_Expr_any (a0 '1' fun v s1 ⟨x,H1,I1,r1,q1⟩=>⟨σ,H1,I1,q1⟩) I.quiet hs
def aK(te:TE):TS:=fun D σ H=>te σ H D.rt
def aM(he:PE X e te):PS X (.Return (some e) pos) (aK te):=by
 show `_aL;exact wpAny_Return_some (a0 '1' fun v s1 ⟨x,H1,I1,r1,q1⟩=>⟨x,σ,H1,I1,r1,q1⟩)
def bJ(c:TT)(t u:TS):TS:=fun D σ H=>c σ H fun b H1=>if b=true then t D σ H1 else u D σ H1
def bO{c:Expr}{a b:List Stmt}{tc:TT}(hc:PT X c tc)(ha:jD X a t)(hb:jD X b u):PS X (.If c a b pos) (bJ tc t u):=by
 show `_aL;refine wpAny_If (a0 (hc ae s σ H _ I h) fun d s1 ⟨H1,I1,q1⟩=>?_);cases d with
 |true=>exact ha ae s1 σ H1 D I1 q1
 |false=>exact hb ae s1 σ H1 D I1 q1
end
abbrev TG:=V->St->Hp->(9.3)->Prop
abbrev rf:=List V->St->Hp->(9.3)->Prop
def PG(X:Cx)(target:Expr)(t:TG):Prop:=
 ∀(ae:`Ï)(s:Shared)(σ:St)(H:Hp)(v:V)(u:Value)(Q:9.3),az X ae σ H s->bA v u->t v σ H Q->
  wpAny `Î X.A (assign target X.am u) (fun _ s'=>∃aS H',az X ae aS H' s'/\Q aS H') X.xe s
def ES(X:Cx)(ts:`_h)(t:rf):Prop:=
 ∀(ae:`Ï)(s:Shared)(σ:St)(H:Hp)(vs:List V)(us:`Ì)(Q:9.3),az X ae σ H s->bx vs us->t vs σ H Q->
  wpAny `Î X.A (assignInOrder ((assignEach ts X.am).map (·.2)) us) (fun _ s'=>∃aS H',az X ae aS H' s'/\Q aS H') X.xe s
abbrev yj:=7.6
def Vr(X:Cx)(op:Operator)(t:yj):Prop:=
 ∀(ae:`Ï)(s:Shared)(σ:St)(H:Hp)(x y:V)(v u:Value)(Q:VK),az X ae σ H s->bA x v->bA y u->t x y H Q->
  wpAny `Î X.A (inplaceOp op v u) `_v X.xe s
section
variable{X:Cx}{pos:Pos}
def aH(i:Nat):TG:=fun v σ H Q=>Q (σ.set i (some v)) H
def ss{i:Nat}{x:Str}(hN:X.N.Nodup)(hi:4.2)(hx:0.27)(hf:0.10:=by first|exact .inl rfl|exact .inr rfl|assumption):PG X 8.8 (aH i):=by
 intro ae s σ H v u Q I r h;exact wpAny_assign_Name (SU I hN hi hx r (fun s' I'=>⟨_,H,I',h⟩) hf)
def j1:rf:=fun vs σ H Q=>vs=[]/\Q σ H
def eV(t:TG)(u:rf):rf:=fun vs σ H Q=>∃v r,vs=v::r/\t v σ H fun aS H'=>u r aS H' Q
def lS:ES X [] j1:=by
 show `_bv;obtain⟨e,h⟩:=h;subst e;cases r;exact assignInOrder_nil ⟨σ,H,I,h⟩
def fF{e:Expr}{es:`_h}{t:TG}{u:rf}(h1:PG X e t)(h2:ES X es u)
 (hs:(assignEach (e::es) X.am).map (·.2)=assign e X.am::(assignEach es X.am).map (·.2):=by rfl):ES X (e::es) (eV t u):=by
 show `_bv;obtain⟨v,vr,e1,h⟩:=h;subst e1;cases r with
 |cons r rr=>
  rw[hs];refine assignInOrder_cons (a0 (h1 ae s σ H _ _ _ I r h) fun _ s1 ⟨zY,H1,I1,q1⟩=>?_);exact h2 ae s1 zY H1 _ _ Q I1 rr q1
def j2(K:Frag)(n:Nat)(t:rf):TG:=fun v σ H Q=>∃a xs,v=.ref a/\bF K H a xs/\`Ã=n/\t xs σ H Q
def lQ{es:`_h}{k:Nat}{t:rf}{n:Nat}(hc:`_S)(h:ES X es t)
 (hn:(assignEach es X.am).length=n:=by rfl) (iC:(assignEach es X.am).findIdx? (·.1)=none:=by rfl):PG X (.Tuple es k pos) (j2 X.K n t):=by
 intro ae s σ H v u Q I r hw;obtain⟨a,xs,e1,hq,hl,hw⟩:=hw;subst e1;cases r;obtain⟨its,rv,ht,hz⟩:=I.tuple hq;refine assign_Tuple_tuple `_E ht (by simp[hn,<-hl,rv.length]) iC fun h' hx=>?_;have I1:az X ae σ H {s with heap:=h'}:=I.kept (t':=s.toks) fun b o e=>hx b o (gb (cI e)) e;exact h ae _ σ H xs _ Q I1 (by simpa using rv) hw
def aV(te:TE)(g:TG):TS:=fun D σ H=>te σ H fun x H1=>g x σ H1 D.nx
def mI{i:Nat}{x:Str}{e:Expr}{te:TE}{kX:Pos}(hN:X.N.Nodup)(hi:4.2)(hx:0.27)(he:PE X e te)(hs:swapsWith e (some (.Name x kX)) pos.line X.am=pure false:=by rfl)(hf:0.10:=by first|exact .inl rfl|exact .inr rfl|assumption):
 PS X (.Assign [.Name x kX] e pos) (aV te (aH i)):=by
 show `_aL;refine wpAny_Assign_Name (a0 '1' fun v s1 ⟨y,H1,I1,r1,q1⟩=>?_) hs;exact SU I1 hN hi hx r1 (fun s2 I2=>⟨_,H1,I2,q1⟩) hf
def IQ(i:Nat)(te:TE)(ti:yj):TS:=fun D σ H=>∃x,σ[i]? =some (some x)/\te σ H fun y H1=>ti x y H1 fun z H2=>D.nx (σ.set i (some z)) H2
def abc{i:Nat}{x:Str}{e:Expr}{te:TE}{op:Operator}{ti:yj}{kX:Pos}(hN:X.N.Nodup)(hi:4.2)(hx:0.27)(he:PE X e te)(ho:Vr X op ti)(hf:0.10:=by first|exact .inl rfl|exact .inr rfl|assumption):
 PS X (.AugAssign (.Name x kX) op e pos) (IQ i te ti):=by
 show `_aL;obtain⟨v,e1,h⟩:=h;obtain⟨m,hn,hl⟩:=I.iS;have vis:yk X.am.scope x:=by rcases hx with k|k;exact .inl k;exact .inr (.inl k)
 obtain⟨u,r,l⟩:=hl i x v hi e1 vis;refine wpAny_AugAssign_Name ?_;have go:wpAny `Î X.A (eval e X.am) (fun w ie=>wpAny `Î X.A (inplaceOp op u w) (fun r ut=>wpAny `Î X.A (storeName X.am x r) (fun _=>SP X ae D .next) X.xe ut) X.xe ie) X.xe s:=by
  refine a0 '1' fun w s1 ⟨y,H1,I1,r1,q1⟩=>?_;refine a0 (ho ae s1 σ H1 v y u w _ I1 r r1 q1) fun z s2 ⟨zv,H2,I2,r2,q2⟩=>?_;exact SU I2 hN hi hx r2 (fun s3 I3=>⟨_,H2,I3,q2⟩) hf
 rcases l with⟨hk,hm⟩|⟨hk,c,hc,qp⟩
 .exact wpAny_loadName_local I.ok.kind hk hn hm go
 .rcases hk with hk|hk
  .exact wpAny_loadName_cell I.ok.kind hk hc qp go
  .rcases hx with k|k
   .have:X.am.scope.names.lookup x=some .free:=hk;rw[k]at this;cases this
   .have:X.am.scope.names.lookup x=some .free:=hk;rw[k]at this;cases this
def GG(f:Int->Int->Int):yj:=fun x y H Q=>∃i j,x=.int i/\y=.int j/\Q (.int (f i j)) H
def Z7:Vr X .Add (GG fun i j=>i+j):=by
 intro ae s σ H x y v u Q I r1 r2 h;obtain⟨i,j,e1,e2,q⟩:=h;subst e1;subst e2;obtain⟨t,rfl⟩:=r1;obtain⟨t',rfl⟩:=r2;exact iadd_int ⟨.int _,H,I.ii _,`_o,q⟩
end
section
variable{X:Cx}{pos:Pos}
def zQ(c:TT)(tb:TS):TS:=fun D σ H=>∃W:Nat->St->Hp->Prop,(∃m,W m σ H)/\∀m σ H,W m σ H->
 c σ H fun b H1=>if b=true then∃N:St->Hp->Prop,(∀aS H',N aS H'->∃m',m'<m/\W m' aS H')/\tb {D with nx:=N,ct:=N,bk:=D.nx} σ H1 else D.nx σ H1
def abW{c:Expr}{body:List Stmt}{tc:TT}{tb:TS}(hp:2.24)(hc:PT X c tc)(hb:jD X body tb):PS X (.While c body [] pos) (zQ tc tb):=by
 show `_aL;obtain⟨W,⟨m0,w0⟩,turn⟩:=h;refine wpAny_While (codeAny_whileLoop (fun n s'=>∃aS H',az X ae aS H' s'/\W n aS H') ?_ m0 ⟨σ,H,I,w0⟩);rintro n s1 ⟨zY,H1,I1,w1⟩;refine yi hp (a0 (hc ae s1 zY H1 _ I1 (turn n zY H1 w1)) fun b s2 ⟨H2,I2,q2⟩=>?_);cases b with
 |true=>
  obtain⟨N,hN,q2⟩:=q2;rw[ay rfl];refine yi hp (a0 (hb ae s2 zY H2 _ I2 q2) fun f s3 q3=>?_);cases f with
  |next=>
   show `_cn
  |cont=>
   show `_cn
  |brk=>exact q3
  |ret v=>exact q3
 |false=>
  rw[aq eM];exact LR ⟨zY,H2,I2,q2⟩
end
structure It where
 go:Nat->Hp->Prop
 l6:Nat->Hp->V->Hp->Prop
 stop:Nat->Hp->Prop
def jT(X:Cx)(ae:`Ï)(H:Hp)(b:Addr):Prop:=
 H b=none/\b≠`_Q/\b∉X.fs/\(b∈X.ex\/7.0<=b)/\(∀x c,X.am.cells.lookup x=some c->c≠b)/\∀p∈X.pn++ae,p.1≠b
def az.ql{X:Cx}{ae:`Ï}{σ:St}{H H':Hp}{s:Shared}{b:Addr}(I:`Ë)(hb:`Í<=b)(hn:H' b=none):jT X ae H' b:=by
 refine⟨hn,uY (iH I.lt hb),I.aqa hb,.inr (bq I.sz hb),fun x c e z=>?_,fun p hp z=>?_⟩
 .obtain⟨v,q⟩:=I.cell x c e;exact absurd (iH q.lt (by rw[z];exact hb)) (oE _)
 .exact absurd (iH (cI (I.pin p hp).1) (by rw[z];exact hb)) (oE _)
structure oP(P:Program)(w:World)(K:Frag)(tg:Expr)(J:It)(fp:List Addr)(it:Addr)(tn:Nat->Heap->Prop):Prop where
 mem:it∈fp
 obj:∀i h,tn i h->∀b∈fp,∃o,h.get? b=some o/\∀v,o.data≠.cell v
 keep:∀i h h',tn i h->(∀b∈fp,∀o,h.get? b=some o->h'.get? b=some o)->tn i h'
 item:∀(X:Cx),X.prog=P->X.w=w->X.K=K->X.iJ=true->∀(i:Nat)(ae:`Ï)(s:Shared)(σ:St)(H:Hp)(E:`Ñ),az X ae σ H s->(∀b∈fp,jT X ae H b)->tn i s.heap->J.go i H->
  wpAny '5' X.A (pyNext `_s) (fun r s1=>∃u,r=some u/\
   wpAny '5' X.A (letOwnedTupleGo tg `_s u) (fun _ s2=>∃x H',az X ae σ H' s2/\bA x u/\J.l6 i H x H'/\tn (i+1) s2.heap/\∀b∈fp,H' b=none) E s1) E s
 done:∀(X:Cx),X.prog=P->X.w=w->X.K=K->X.iJ=true->∀(i:Nat)(ae:`Ï)(s:Shared)(σ:St)(H:Hp)(E:`Ñ),az X ae σ H s->(∀b∈fp,jT X ae H b)->tn i s.heap->J.stop i H->
  wpAny '5' X.A (pyNext `_s) (fun r s1=>r=none/\az X ae σ H s1) E s
 self:∀(A:Around)(i:Nat)(s:Shared)(Q:`Ñ)(E:`Ñ),tn i s.heap->Q `_s s->wpAny '5' A (pyIter `_s) Q E s
abbrev TI:=St->Hp->(`å)->Prop
def As(X:Cx)(ae:`Ï)(σ:St)(tg:Expr)(R:`å)(PK:Value)(s2:Shared):Prop:=
 ∃(it:Addr)(fp:`ð)(tn:Nat->Heap->Prop)(J:It)(H':Hp),PK=.ref it/\az X ae σ H' s2/\oP X.prog X.w X.K tg J fp it tn/\tn 0 s2.heap/\(∀b∈fp,jT X ae H' b)/\R J H'
def PI(X:Cx)(tg iter:Expr)(wi:TI):Prop:=
 ∀(ae:`Ï)(s:Shared)(σ:St)(H:Hp)(R:`å),az X ae σ H s->wi σ H R->
  wpAny `Î X.A (eval iter X.am) (fun v s1=>wpAny `Î X.A (pyIter v) (As X ae σ tg R) X.xe s1) X.xe s
def yP{M:Model}{A:Around}{E:`Ñ}{s:Shared}{tg:Expr}{it:Addr}{u:Value}{o:Obj}{n:String}{vs:'6'}{Q:0.20}(ho:s.heap.get? it=some o)(hc:o.cls=.type n)(hd:o.data=.fields vs)
 (hn:["enumerate","zip","dict_itemiterator","dict_reverseitemiterator","odict_iterator","itertools.zip_longest","itertools.pairwise"].contains n=false) (hQ:Q () s):wpAny M A (letOwnedTupleGo tg `_s u) Q E s:=by
 unfold letOwnedTupleGo;cases tg<;>first
  |exact br hQ
  |(cases u<;>first
   |exact br hQ
   |(
    refine aI (wpAny_load ho ?_);rw[hc,hd];show wpAny M A (if(["enumerate","zip","dict_itemiterator","dict_reverseitemiterator","odict_iterator","itertools.zip_longest","itertools.pairwise"].contains n&&vs[0]? ==some (rawInt _))=true then _ else _) Q E s;rw[aq (by intro h;rw[hn,uB]at h;cases h)];exact br hQ))
def pX(K:Frag)(a:Addr):It:=
 ⟨fun i H=>∃xs x,aG K H a xs/\xs[i]? =some x,fun i H x H'=>H'=H/\∀xs,aG K H a xs->xs[i]? =some x,fun i H=>∃xs,aG K H a xs/\`Ã<=i⟩
def qU(K:Frag)(a:Addr):It:=
 ⟨fun i H=>∃xs x,bF K H a xs/\xs[i]? =some x,fun i H x H'=>H'=H/\∀xs,bF K H a xs->xs[i]? =some x,fun i H=>∃xs,bF K H a xs/\`Ã<=i⟩
def uK(lo:Int)(n:Nat):It:=⟨fun i _=>i<n,fun i H x H'=>H'=H/\x=.int (lo+i),fun i _=>n<=i⟩
def auL{P:`Ô}{w:World}{K:Frag}{tg:Expr}(a it:Addr):oP P w K tg (pX K a) [it] it (fun i h=>h.IsListIter it a i) where
 mem:=`Õ
 obj:=fun i h st b hb=>by
  have e:b=it:=`_C;subst e;show `_bx
 keep:=fun i h h' st k=>st.at fun o e=>k it (by simp) o e
 item:=by
  show `_ab;show `_ch;show `_ak;refine wpAny_pyNext_list_item st p.isList (x:=u) (by simpa using hu) fun h' jR sb=>?_;have I1:az X ae σ H {s with heap:=h'}:=4.41;obtain⟨o,e,c,d⟩:=id jR;exact⟨u,rfl,yP (s:=0.82) e c d `Æ ⟨x,H,I1,ru,⟨rfl,fun ys hy=>by rw[I.GX hy hq];exact hx⟩,jR,0.69⟩⟩
 done:=by
  show `_ab;obtain⟨xs,hq,hx⟩:=hg;obtain⟨its,rv,p,hz⟩:=I.list hq;show `_ak;have hl:=rv.length;exact wpAny_pyNext_list_end `_E st p.isList (`_3) fun h' eb=>2.71
 self:=fun _ _ _ _ _ st h=>wpAny_pyIter_listiter st h
def auO{P:`Ô}{w:World}{K:Frag}{tg:Expr}(a it:Addr):oP P w K tg (qU K a) [it] it (fun i h=>h.IsTupleIter it a i) where
 mem:=`Õ
 obj:=fun i h st b hb=>by
  have e:b=it:=`_C;subst e;show `_bx
 keep:=fun i h h' st k=>st.at fun o e=>k it (by simp) o e
 item:=by
  show `_ab;obtain⟨xs,x,hq,hx⟩:=hg;obtain⟨its,rv,p,hz⟩:=I.tuple hq;obtain⟨u,hu,ru⟩:=rv.get hx;show `_ak;refine wpAny_pyNext_tuple_item st (show s.heap.IsTuple a `Ġ from p) (x:=u) (by simpa using hu) fun h' jR sb=>?_;have I1:az X ae σ H {s with heap:=h'}:=4.41;obtain⟨o,e,c,d⟩:=id jR;exact⟨u,rfl,yP (s:=0.82) e c d `Æ ⟨x,H,I1,ru,⟨rfl,fun ys hy=>by rw[I.auG hy hq];exact hx⟩,jR,0.69⟩⟩
 done:=by
  show `_ab;obtain⟨xs,hq,hx⟩:=hg;obtain⟨its,rv,p,hz⟩:=I.tuple hq;show `_ak;have hl:=rv.length;exact wpAny_pyNext_tuple_end `_E st (show s.heap.IsTuple a `Ġ from p) (`_3) fun h' eb=>2.71
 self:=fun _ _ _ _ _ st h=>wpAny_pyIter_tupleiter st h
def auM{P:`Ô}{w:World}{K:Frag}{tg:Expr}(it:Addr)(lo:Int)(n:Nat):oP P w K tg (uK lo n) [it] it (fun i h=>IsRangeIter h it (lo+(i:Nat)*1) ((n:Int)-(i:Nat)) 1) where
 mem:=`Õ
 obj:=fun i h st b hb=>by
  have e:b=it:=`_C;subst e;exact⟨_,st,fun v z=>by
   have z':Data.fields _=Data.cell v:=z;cases z'⟩
 keep:=fun i h h' st k=>k it `Ç _ st
 item:=by
  show `_ab;show `_ak;have W:=Walks.range (prog:=X.prog) (w:=X.w) `_E it lo 1 n;refine W.item i s _ _ hg st fun v h' tk hv jR kk=>?_;obtain⟨t,rfl⟩:=hv;have I1:az X ae σ H {s with heap:=h',toks:=tk}:=I.turned (fun b o hb e=>kk b o (`_C) e) f0 f1 f3 f4 f5;refine⟨_,rfl,yP (s:={s with heap:=h',toks:=tk}) (n:="range_iterator") jR rfl rfl `Æ ⟨.int (lo+i),H,I1,⟨t,?_⟩,`_x,jR,0.69⟩⟩;rw[Int.mul_one]
 done:=by
  show `_ab;show `_ak;exact wpAny_pyNext_range_end `_E st (by have:n<=i:=hg;omega) fun h' eb=>2.71
 self:=fun _ _ _ _ _ st h=>wpAny_pyIter_rangeiter st h
section
variable{X:Cx}{tg:Expr}
def dF(K:Frag)(tl:TE):TI:=fun σ H R=>tl σ H fun x H1=>∃a,x=.ref a/\(∃xs,aG K H1 a xs)/\R (pX K a) H1
def vQ(K:Frag)(tl:TE):TI:=fun σ H R=>tl σ H fun x H1=>∃a,x=.ref a/\(∃xs,bF K H1 a xs)/\R (qU K a) H1
def eh{l:Expr}{tl:TE}(hl:PE X l tl):PI X tg l (dF X.K tl):=by
 show `_bf;obtain⟨its,rv,p,hz⟩:=I1.list hq;refine LV p.isList ?_;refine⟨`ê,[`ê],_,_,H1,rfl,I1.kept (t':=s1.toks) fun b o e=>cC _ e,auL a _,1.34,'%',q⟩;have e:b=`ê:=`_C;subst e;exact 3.53
def Cv{l:Expr}{tl:TE}(hl:PE X l tl):PI X tg l (vQ X.K tl):=by
 show `_bf;obtain⟨its,rv,p,hz⟩:=I1.tuple hq;refine wpAny_pyIter_tuple (show s1.heap.IsTuple a `Ġ from p) ?_;refine⟨`ê,[`ê],_,_,H1,rfl,I1.kept (t':=s1.toks) fun b o e=>cC _ e,auO a _,1.34,'%',q⟩;have e:b=`ê:=`_C;subst e;exact 3.53
def asL{ae:`Ï}{σ:St}{H:Hp}{s:Shared}{R:`å}{E:`Ñ}{lo hi:Int}{t u v:Tok}{tk:Nat}(I:`Ë)(h1:-(2^62)<=lo)(h2:lo<2^62)(h3:-(2^62)<=hi)(h4:hi<2^62)
 (q:R (uK lo (hi-lo).toNat) H):wpAny `Î X.A (pyIter 5.1) (As X ae σ tg R) E {s with heap:=s.heap.push {cls:=.type "range",data:=.fields #[.int lo t,.int hi u,.int 1 v]},toks:=tk}:=by
 refine wpAny_pyIter_range (IsRange.new ..) (small_one h1 h2 h3 h4) ?_;have I1:az X ae σ H {s with heap:=s.heap.push {cls:=.type "range",data:=.fields #[.int lo t,.int hi u,.int 1 v]},toks:=tk}:=I.kept fun b o e=>cC _ e;refine⟨(2.68).objs.size,[(2.68).objs.size],_,_,H,rfl,
  I1.kept (t':=tk) fun b o e=>cC _ e,auM _ lo (hi-lo).toNat,?_,fun b hb=>?_,q⟩
 .have e1:lo+((0:Nat):Int)*1=lo:=`Õ;have e2:(((hi-lo).toNat:Nat):Int)-((0:Nat):Int)=Builtin.Range.rangeSize lo hi 1:=by rw[rangeSize_one];split<;>omega
  show IsRangeIter _ _ (lo+((0:Nat):Int)*1) ((((hi-lo).toNat:Nat):Int)-((0:Nat):Int)) 1;rw[e1,e2];exact `Ė
 .have e:b=(2.68).objs.size:=`_C;subst e;exact 3.53
def GA(ta:TA):TI:=fun σ H R=>ta σ H fun vs H1=>∃j:Int,vs=[.int j]/\-(2^62)<=j/\j<2^62/\R (uK 0 j.toNat) H1
def aaW{a:Expr}{ta:TA}{p pos:Pos}(hg:Gl X "range")(hm:X.mg "range"=none)(ha:PA X [a] ta)(hs:starEach [a] X.am=[(false,eval a X.am)]:=by rfl):PI X tg (.Call (.Name "range" p) [a] [] pos) (GA ta):=by
 show `_bY;refine Call_ (si I hg hm boot_range (yf 3.64 hs rfl));obtain⟨j,e,q1,q2,q⟩:=q1;subst e;cases r1 with
 |cons r rr=>
  cases rr;show `_ci;exact call_range_1 (asL I1 `È `È q1 q2 (by simpa using q))
def dj(wi:TI)(g:TG)(tb:TS):TS:=fun D σ H=>wi σ H fun J H1=>∃W:Nat->Nat->St->Hp->Prop,(∃m,W 0 m σ H1)/\∀i m σ H,W i m σ H->
 (J.stop i H/\D.nx σ H)\/2.54
def Cw(fp:`ð)(h:Heap):List 0.33:=fp.filterMap fun b=>(h.get? b).map fun o=>(b,o)
def Qj{fp:`ð}{h:Heap}{b:Addr}{o:Obj}(hb:b∈fp)(e:h.get? b=some o):(b,o)∈Cw fp h:=U'.mpr ⟨b,hb,by rw[e];rfl⟩
def aqf{fp:`ð}{h:Heap}{p:Addr×Obj}(hp:p∈Cw fp h):p.1∈fp/\h.get? p.1=some p.2:=by
 obtain⟨b,hb,e⟩:=U'.mp hp;cases q:h.get? b with
 |none=>rw[q]at e;cases e
 |some o=>
  rw[q]at e;have e':(b,o)=p:=bZ e;subst e';exact⟨hb,q⟩
def az.aaZ{ae:`Ï}{σ:St}{H:Hp}{s:Shared}{fp:`ð}(I:`Ë)(hf:∀b∈fp,jT X ae H b)(ho:∀b∈fp,∃o,s.heap.get? b=some o/\∀v,o.data≠.cell v):az X (ae++Cw fp s.heap) σ H s:=
 I.HC fun p hp=>(cK.mp hp).elim (fun z=>I.pin p (oA _ z)) fun z=>by
  obtain⟨hb,e⟩:=aqf z;obtain⟨f0,f1,f2,_⟩:=hf p.1 hb;obtain⟨o,e',d⟩:=ho p.1 hb;rw[e]at e';cases e';exact⟨e,f0,f1,f2,d⟩
def az.Ja{ae pl:`Ï}{σ:St}{H:Hp}{s:Shared}(I:az X (ae++pl) σ H s):az X ae σ H s:=I.HC fun p hp=>I.pin p (oA _ (K1 _ hp))
def abo{iter:Expr}{body:List Stmt}{wi:TI}{g:TG}{tb:TS}{pos:Pos}(hp:2.24)(hc:`_S)(hi:PI X tg iter wi)(hg:PG X tg g)(hb:jD X body tb)
 (hs:1.11:=by intro _;rfl):PS X (.For tg iter body [] pos) (dj wi g tb):=by
 show `_aL;refine wpAny_For (a0 (hi ae s σ H _ I h) fun v s1 h1=>a0 h1 fun PK s2 h2=>?_) hs;obtain⟨it,fp,tn,J,H2,e,I2,T,IL,f2,W,⟨m0,w0⟩,turn⟩:=h2;subst e;have xh:∀{H':Hp},0.68->∀b∈fp,jT X ae H' b:=fun hn b hb=>⟨hn b hb,(f2 b hb).2⟩;refine codeAny_forLoop_any (fun n s'=>∃i aS H',az X ae aS H' s'/\tn i s'.heap/\0.68/\W i n aS H') ?_ m0 ⟨0,σ,H2,I2,IL,fun b hb=>(f2 b hb).1,w0⟩;rintro n s3 ⟨i,pN,H3,I3,IM,YV,w3⟩;rcases turn i n pN H3 w3 with⟨stop,qn⟩|⟨go,N,hN,step⟩
 .refine yi hp (a0 (T.done X rfl rfl rfl hc i ae s3 pN H3 X.xe I3 (xh YV) IM stop) fun r s4 ⟨hr,I4⟩=>?_);subst hr;exact LR ⟨pN,H3,I4,qn⟩
 .refine yi hp (a0 (T.item X rfl rfl rfl hc i ae s3 pN H3 X.xe I3 (xh YV) IM go) fun r s4 ⟨u,hr,h4⟩=>?_);subst hr;refine yi hp (a0 h4 fun _ s5 ⟨x,H5,I5,r5,y5,zN,fr5⟩=>?_);have I5':=I5.aaZ (xh fr5) (T.obj _ _ zN);refine yi hp (a0 (hg _ s5 pN H5 x u _ I5' r5 (step x H5 y5)) fun _ s6 ⟨σ6,H6,I6,q6⟩=>?_);refine yi hp (a0 (hb _ s6 σ6 H6 _ I6 q6) fun f s7 q7=>?_);have again:∀{pO:St}{H7:Hp},az X (ae++Cw fp s5.heap) pO H7 s7->N pO H7->∃m,m<n/\∃i aS H',az X ae aS H' s7/\tn i s7.heap/\0.68/\W i m aS H':=fun{pO H7} I7 n7=>by
   obtain⟨m',hm,w7⟩:=hN pO H7 n7;refine⟨m',hm,i+1,pO,H7,I7.Ja,T.keep _ _ _ zN fun b hb o e=>(I7.pin (b,o) (oA _ (oA _ (Qj hb e)))).1,'%',w7⟩;obtain⟨o,e,d⟩:=T.obj _ _ zN b hb;exact(I7.pin (b,o) (oA _ (oA _ (Qj hb e)))).2.1
  cases f with
  |next=>obtain⟨pO,H7,I7,n7⟩:=q7;exact again I7 n7
  |cont=>obtain⟨pO,H7,I7,n7⟩:=q7;exact again I7 n7
  |brk=>obtain⟨pO,H7,I7,q7⟩:=q7;exact⟨pO,H7,I7.Ja,q7⟩
  |ret v=>obtain⟨x7,pO,H7,I7,r7,q7⟩:=q7;exact⟨x7,pO,H7,I7.Ja,r7,q7⟩
end
def ale{K:Frag}{a:Addr}{xs:List V}{g:TG}{tb:TS}{D:gB}{σ:St}{H:Hp}(Pv:3.5)(h0:Pv 0 σ H)(hl:∀i σ H,i<=`Ã->Pv i σ H->aG K H a xs)
 (hs:1.52) (hd:0.53):
 ∃W:Nat->Nat->St->Hp->Prop,(∃m,W 0 m σ H)/\∀i m σ H,W i m σ H->
  ((pX K a).stop i H/\D.nx σ H)\/((pX K a).go i H/\∃N:St->Hp->Prop,(∀aS H',N aS H'->∃m',m'<m/\W (i+1) m' aS H')/\∀x H',(pX K a).l6 i H x H'->g x σ H' fun bC H2=>tb {D with nx:=N,ct:=N,bk:=D.nx} bC H2):=by
 refine 4.15;rintro i m σ H ⟨rfl,hi,p⟩;have q:=hl i σ H hi p;by_cases cz:i<`Ã
 .refine .inr 3.85;obtain⟨e,y⟩:=y;subst e;exact hs i x σ _ (y xs q) p
 .have e:i=`Ã:=`Å;subst e;exact .inl ⟨⟨xs,q,bp _⟩,hd σ H p⟩
def alf{K:Frag}{a:Addr}{xs:List V}{g:TG}{tb:TS}{D:gB}{σ:St}{H:Hp}(Pv:3.5)(h0:Pv 0 σ H)(hl:∀i σ H,i<=`Ã->Pv i σ H->bF K H a xs)
 (hs:1.52) (hd:0.53):
 ∃W:Nat->Nat->St->Hp->Prop,(∃m,W 0 m σ H)/\∀i m σ H,W i m σ H->
  ((qU K a).stop i H/\D.nx σ H)\/((qU K a).go i H/\∃N:St->Hp->Prop,(∀aS H',N aS H'->∃m',m'<m/\W (i+1) m' aS H')/\∀x H',(qU K a).l6 i H x H'->g x σ H' fun bC H2=>tb {D with nx:=N,ct:=N,bk:=D.nx} bC H2):=by
 refine 4.15;rintro i m σ H ⟨rfl,hi,p⟩;have q:=hl i σ H hi p;by_cases cz:i<`Ã
 .refine .inr 3.85;obtain⟨e,y⟩:=y;subst e;exact hs i x σ _ (y xs q) p
 .have e:i=`Ã:=`Å;subst e;exact .inl ⟨⟨xs,q,bp _⟩,hd σ H p⟩
abbrev R2:=7.6
def fq(X:Cx)(f:1.32)(r:R2):Prop:=
 ∀(ae:`Ï)(s:Shared)(σ:St)(H:Hp)(x y:V)(v u:Value)(Q:VK),az X ae σ H s->bA x v->bA y u->r x y H Q->
  wpAny `Î X.A (f v u) `_v X.xe s
def L0(X:Cx)(f:Value->Sem Value)(r:V->Hp->VK->Prop):Prop:=
 ∀(ae:`Ï)(s:Shared)(σ:St)(H:Hp)(x:V)(v:Value)(Q:VK),az X ae σ H s->bA x v->r x H Q->
  wpAny `Î X.A (f v) `_v X.xe s
def l9(X:Cx)(f:Value)(r:1.41):Prop:=
 ∀(ae:`Ï)(s:Shared)(σ:St)(H:Hp)(xs:List V)(us:`Ì)(Q:VK),az X ae σ H s->bx xs us->r xs H Q->
  wpAny `Î X.A (call f us) `_v X.xe s
def aik(X:Cx)(r:V->Hp->(`_w)->Prop):Prop:=
 ∀(ae:`Ï)(s:Shared)(σ:St)(H:Hp)(x:V)(v:Value)(Q:`_w),az X ae σ H s->bA x v->r x H Q->
  wpAny `Î X.A (truthy v) (TP X ae σ Q) X.xe s
def aP(r:R2)(ta tb:TE):TE:=fun σ H Q=>ta σ H fun x H1=>tb σ H1 fun y H2=>r x y H2 Q
def eG(r:V->Hp->VK->Prop)(ta:TE):TE:=fun σ H Q=>ta σ H fun x H1=>r x H1 Q
def rI(C:Int->Int->Prop)(g:Int->Int->V):R2:=fun x y H Q=>∃i j,x=.int i/\y=.int j/\C i j/\Q (g i j) H
def cu(g:Int->Int->V):R2:=fun x y H Q=>∃i j,x=.int i/\y=.int j/\Q (g i j) H
def rU(g:Int->V):V->Hp->VK->Prop:=fun x H Q=>∃i,x=.int i/\Q (g i) H
section
variable{X:Cx}{a b c:Expr}{ta tb tc:TE}{pos:Pos}
def Mc(ha:'9')(hb:PE X b tb){ae:`Ï}{s:Shared}{σ:St}{H:Hp}{R:V->V->Hp->Prop}(I:`Ë)
 (h:ta σ H fun x H1=>tb σ H1 fun y H2=>R x y H2) {Q:`Ñ} {f:1.32}
 (hf:3.97):
 wpAny `Î X.A (eval a X.am) 3.96 X.xe s:=by
 refine 1.65;refine 4.72;exact hf v u s2 x y H2 I2 r1 r2 q2
def b_{op:Operator}{r:R2}(ho:fq X (binaryOp op) r)(ha:'9')(hb:PE X b tb):PE X (.BinOp a op b pos) (aP r ta tb):=by
 show `_af;exact wpAny_BinOp 4.19
def fg{op:UnaryOp}{r:V->Hp->VK->Prop}(ho:L0 X (unaryOp op) r)(ha:'9'):PE X (.UnaryOp op a pos) (eG r ta):=by
 show `_af;exact UnaryOp_ (a0 6.5 fun v s1 ⟨x,H1,I1,r1,q1⟩=>ho ae s1 σ H1 x v Q I1 r1 q1)
def QY{f:1.32}{C:Int->Int->Prop}{g:Int->Int->Int}
 (rule:∀(i j:Int)(t u:Tok)(s:Shared)(Q:`Ñ)(E:`Ñ),C i j->Q (.int (g i j) s.toks) {s with toks:=s.toks+1}->wpAny `Î X.A (f (.int i t) (.int j u)) Q E s):
 fq X f (rI C fun i j=>.int (g i j)):=by
 show `_ah;obtain⟨i,j,rfl,rfl,hc,q⟩:=h;show `_aM;obtain⟨t',rfl⟩:=ry;exact rule i j t t' s _ _ hc ⟨.int (g i j),H,I.ii _,`_o,q⟩
def Ci{f:1.32}{g:Int->Int->Int}
 (rule:∀(i j:Int)(t u:Tok)(s:Shared)(Q:`Ñ)(E:`Ñ),Q (.int (g i j) s.toks) {s with toks:=s.toks+1}->wpAny `Î X.A (f (.int i t) (.int j u)) Q E s):
 fq X f (cu fun i j=>.int (g i j)):=by
 show `_ah;obtain⟨i,j,rfl,rfl,q⟩:=h;show `_aM;obtain⟨t',rfl⟩:=ry;exact rule i j t t' s _ _ ⟨.int (g i j),H,I.ii _,`_o,q⟩
def Hz{f:1.32}{g:Int->Int->Bool}
 (rule:∀(i j:Int)(t u:Tok)(s:Shared)(Q:`Ñ)(E:`Ñ),Q (.bool (g i j)) s->wpAny `Î X.A (f (.int i t) (.int j u)) Q E s):
 fq X f (cu fun i j=>.bl (g i j)):=by
 show `_ah;obtain⟨i,j,rfl,rfl,q⟩:=h;show `_aM;obtain⟨t',rfl⟩:=ry;exact rule i j t t' s _ _ ⟨.bl (g i j),H,I,rfl,q⟩
def Jr(i j:Int):Prop:=0<=j/\j<=1000000/\i.natAbs<2^64
def Aa(i j:Int):Prop:=(-(2^64)<i/\i<2^64)\/(-(2^64)<j/\j<2^64)
def Aa.ok{i j:Int}(h:Aa i j):IntMulOk i j:=by
 rcases h with⟨h1,h2⟩|⟨h1,h2⟩
 .exact .of_left (intBits_le_64 h1 h2)
 .exact .of_right (intBits_le_64 h1 h2)
def auS(k:Nat):(0:Int)<=2^k:=by
 rw[two_pow_cast];exact Int.natCast_nonneg _
def pD:fq X (binaryOp .Add) `Γ:=Ci fun _ _ _ _ _ _ _ q=>add_int q
def tQ:fq X (binaryOp .Sub) 3.0:=Ci fun _ _ _ _ _ _ _ q=>sub_int q
def aaH:fq X (binaryOp .Mult) (rI Aa fun i j=>.int (i*j)):=QY fun _ _ _ _ _ _ _ hc q=>mul_int q hc.ok
def aaJ:fq X (binaryOp .LShift) 3.39:=QY fun _ _ _ _ _ _ _ hc q=>lshift_int_small hc.1 hc.2.1 hc.2.2 q
def ar4:fq X (binaryOp .RShift) (rI (fun _ j=>0<=j) fun i j=>.int (i/2^j.toNat)):=QY fun i j _ _ _ _ _ hc q=>
 rshift_int hc (by rw[Int.fdiv_eq_ediv_of_nonneg i (auS _)];exact q)
def mG:fq X (binaryOp .BitAnd) `_8:=Ci fun _ _ _ _ _ _ _ q=>and_int q
def Cn:fq X (binaryOp .BitOr) 0.49:=Ci fun _ _ _ _ _ _ _ q=>or_int q
def Q3:fq X (binaryOp .BitXor) 1.83:=Ci fun _ _ _ _ _ _ _ q=>xor_int q
def unI{f:Value->Sem Value}{g:Int->Int}
 (rule:∀(i:Int)(t:Tok)(s:Shared)(Q:`Ñ)(E:`Ñ),Q (.int (g i) s.toks) {s with toks:=s.toks+1}->wpAny `Î X.A (f (.int i t)) Q E s):
 L0 X f (rU fun i=>.int (g i)):=by
 intro ae s σ H x v Q I rx h;obtain⟨i,rfl,q⟩:=h;show `_aM;exact rule i t s _ _ ⟨.int (g i),H,I.ii _,`_o,q⟩
def fj:L0 X (unaryOp .USub) 0.5:=unI fun _ _ _ _ _ q=>neg_int q
end
def ac3:V->V->Bool
 |.aX,.aX=>true|.aX,.int _=>true|.int _,.aX=>true|.aX,.bl _=>true|.bl _,.aX=>true|.aX,.str _=>true|.str _,.aX=>true
 |.int _,.int _=>true|.bl _,.bl _=>true|.str _,.str _=>true|.jn _,.jn _=>true
 |.int _,.str _=>true|.str _,.int _=>true|.bl _,.str _=>true|.str _,.bl _=>true
 |_,_=>false
def i0:R2:=fun x y H Q=>ac3 x y=true/\Q (.bl (decide (x=y))) H
def CH:R2:=fun x y H Q=>ac3 x y=true/\Q (.bl (!decide (x=y))) H
def X4{i j:Int}:decide (V.int i=V.int j)=(i==j):=by
 rw[kr];simp
def X2{i j:Bool}:decide (V.bl i=V.bl j)=(i==j):=by
 rw[kr];simp
def X5{i j:Str}:decide (V.str i=V.str j)=(i==j):=by
 rw[kr];simp
def X3{i j:Array UInt8}:decide (V.jn i=V.jn j)=(i.toList==j.toList):=by
 rw[kr];cases i;cases j;simp
section
variable{X:Cx}{a b c:Expr}{ta tb tc:TE}{pos:Pos}
def fb{ae:`Ï}{σ:St}{H:Hp}{s:Shared}{Q:VK}{k k':Bool}(I:`Ë)(q:Q (.bl k) H)(e:k=k'):EP X ae σ Q (.bool k') s:=by
 subst e;exact⟨.bl k,H,I,rfl,q⟩
def jv:fq X (compareOp .Eq) i0:=by
 show `_ah;obtain⟨hs,q⟩:=h;cases x with
 |aX=>
  cases rx;cases y with
  |aX=>cases ry;exact PySem.EqNone.eq_none_none `đ
  |bl j=>cases ry;exact PySem.EqNone.eq_none_bool `đ
  |int j=>obtain⟨t',rfl⟩:=ry;exact PySem.EqNone.eq_none_int `đ
  |str j=>obtain⟨t',rfl⟩:=ry;exact PySem.EqNone.eq_none_str `đ
  |_=>exact ','
 |bl i=>
  cases rx;cases y with
  |aX=>cases ry;exact PySem.EqNone.eq_bool_none `đ
  |bl j=>cases ry;exact eq_bool (fb I q X2)
  |str j=>obtain⟨t',rfl⟩:=ry;exact PySem.EqMixed.eq_bool_str `đ
  |_=>exact ','
 |int i=>
  show `_aM;cases y with
  |aX=>cases ry;exact PySem.EqNone.eq_int_none `đ
  |int j=>obtain⟨t',rfl⟩:=ry;exact eq_int (fb I q X4)
  |str j=>obtain⟨t',rfl⟩:=ry;exact PySem.EqMixed.eq_int_str `đ
  |_=>exact ','
 |str i=>
  show `_aM;cases y with
  |aX=>cases ry;exact PySem.EqNone.eq_str_none `đ
  |bl j=>cases ry;exact PySem.EqMixed.eq_str_bool `đ
  |int j=>obtain⟨t',rfl⟩:=ry;exact PySem.EqMixed.eq_str_int `đ
  |str j=>obtain⟨t',rfl⟩:=ry;exact eq_str (fb I q X5)
  |_=>exact ','
 |jn i=>
  show `_aM;cases y with
  |jn j=>obtain⟨t',rfl⟩:=ry;exact PySem.W.eq_bytes (fb I q X3)
  |_=>exact ','
 |_=>cases y<;>exact ','
def Q0:fq X (compareOp .NotEq) CH:=by
 show `_ah;obtain⟨hs,q⟩:=h;cases x with
 |aX=>
  cases rx;cases y with
  |aX=>cases ry;exact PySem.EqNone.ne_none_none `đ
  |bl j=>cases ry;exact PySem.EqNone.ne_none_bool `đ
  |int j=>obtain⟨t',rfl⟩:=ry;exact PySem.EqNone.ne_none_int `đ
  |str j=>obtain⟨t',rfl⟩:=ry;exact PySem.EqNone.ne_none_str `đ
  |_=>exact ','
 |bl i=>
  cases rx;cases y with
  |aX=>cases ry;exact PySem.EqNone.ne_bool_none `đ
  |bl j=>cases ry;exact ne_bool (fb I q (fv not X2))
  |str j=>obtain⟨t',rfl⟩:=ry;exact PySem.EqMixed.ne_bool_str `đ
  |_=>exact ','
 |int i=>
  show `_aM;cases y with
  |aX=>cases ry;exact PySem.EqNone.ne_int_none `đ
  |int j=>obtain⟨t',rfl⟩:=ry;exact ne_int (fb I q (fv not X4))
  |str j=>obtain⟨t',rfl⟩:=ry;exact PySem.EqMixed.ne_int_str `đ
  |_=>exact ','
 |str i=>
  show `_aM;cases y with
  |aX=>cases ry;exact PySem.EqNone.ne_str_none `đ
  |bl j=>cases ry;exact PySem.EqMixed.ne_str_bool `đ
  |int j=>obtain⟨t',rfl⟩:=ry;exact PySem.EqMixed.ne_str_int `đ
  |str j=>obtain⟨t',rfl⟩:=ry;exact ne_str (fb I q (fv not X5))
  |_=>exact ','
 |jn i=>
  show `_aM;cases y with
  |jn j=>obtain⟨t',rfl⟩:=ry;exact PySem.W.ne_bytes (fb I q (fv not X3))
  |_=>exact ','
 |_=>cases y<;>exact ','
def vY:fq X (compareOp .Lt) (cu fun i j=>.bl (decide (i<j))):=Hz fun _ _ _ _ _ _ _ q=>lt_int q
def zC:fq X (compareOp .LtE) (cu fun i j=>.bl (decide (i<=j))):=Hz fun _ _ _ _ _ _ _ q=>le_int q
def Ck:fq X (compareOp .Gt) (cu fun i j=>.bl (decide (j<i))):=Hz fun _ _ _ _ _ _ _ q=>gt_int q
def QZ:fq X (compareOp .GtE) (cu fun i j=>.bl (decide (j<=i))):=Hz fun _ _ _ _ _ _ _ q=>ge_int q
def ar1:fq X (compareOp .Is) (fun x y H Q=>y=.aX/\Q (.bl (decide (x=.aX))) H):=by
 show `_ah;obtain⟨rfl,q⟩:=h;cases ry;refine is_none_gen (fb I q ?_);cases x<;>first
  |(cases rx;rfl)
  |(obtain⟨t,rfl⟩:=rx;rfl)
def aaI:fq X (compareOp .IsNot) (fun x y H Q=>y=.aX/\Q (.bl (!decide (x=.aX))) H):=by
 show `_ah;obtain⟨rfl,q⟩:=h;cases ry;refine isnot_none_gen (fb I q ?_);cases x<;>first
  |(cases rx;rfl)
  |(obtain⟨t,rfl⟩:=rx;rfl)
def db(b:Expr){op:CmpOp}(h:op≠.In:=by decide)(h2:op≠.NotIn:=by decide):behindInMarks op b=false:=by
 have e1:(op==CmpOp.In)=false:=by cases op<;>first|rfl|exact absurd rfl h
 have e2:(op==CmpOp.NotIn)=false:=by cases op<;>first|rfl|exact absurd rfl h2
 cases b<;>simp[behindInMarks,e1,e2]
def tS{op:CmpOp}{r:R2}(ho:fq X (compareOp op) r)(ha:'9')(hb:PE X b tb)(hm:2.44):PE X 2.42 (aP r ta tb):=by
 show `_af;exact wpAny_Compare1 4.19 hm
def cO(t:TE):TT:=fun σ H Q=>t σ H fun x H'=>∃k,x=.bl k/\Q k H'
def df{op:CmpOp}{r:R2}(ho:fq X (compareOp op) r)(ha:'9')(hb:PE X b tb)(hm:2.44):PT X 2.42 (cO (aP r ta tb)):=by
 show `_af;refine wpAny_isTrue_Compare1 (a0 6.5 fun v s1 ⟨x,H1,I1,r1,q1⟩=>a0 (hb ae s1 σ H1 _ I1 q1) fun u s2 ⟨y,H2,I2,r2,q2⟩=>
  a0 (ho ae s2 σ H2 x y v u _ I2 r1 r2 q2) fun c s3 ⟨z,H3,I3,r3,k,e,q3⟩=>?_) hm
 subst e;cases r3;exact sW ⟨H3,I3,q3⟩
def CZ(r r':R2)(ta tb tc:TE):TE:=fun σ H Q=>ta σ H fun x H1=>tb σ H1 fun y H2=>r x y H2 fun z H3=>∃k,z=.bl k/\
 4.50
def Q_{op QX:CmpOp}{r r':R2}(ho:fq X (compareOp op) r)(lI:fq X (compareOp QX) r')(ha:'9')(hb:PE X b tb)(hc:PE X c tc)
 (hm:lastMarks [op,QX] [b,c]=false:=by with_unfolding_all rfl):PE X (.Compare a [op,QX] [b,c] pos) (CZ r r' ta tb tc):=by
 show `_af;refine Compare_chain (a0 6.5 fun v s1 ⟨x,H1,I1,r1,q1⟩=>chain_link (a0 (hb ae s1 σ H1 _ I1 q1) fun u s2 ⟨y,H2,I2,r2,q2⟩=>
  a0 (ho ae s2 σ H2 x y v u _ I2 r1 r2 q2) fun d s3 ⟨z,H3,I3,r3,k,e,q3⟩=>?_)) hm
 subst e;cases r3;refine sW ?_;cases k with
 |false=>exact ite_ff ⟨.bl false,H3,I3,rfl,q3⟩
 |true=>exact ite_tt (chain_last (a0 (hc ae s3 σ H3 _ I3 q3) fun w' s4 ⟨z',H4,I4,r4,q4⟩=>lI ae s4 σ H4 y z' u w' Q I4 r2 r4 q4))
def E4(K:Frag)(x:V)(H:Hp)(k:Bool):Prop:=
 match x with
 |.aX=>k=false
 |.bl b=>k=b
 |.int i=>k=(i !=0)
 |.str y=>y.length<=sizeLine/\k=((y.length:Int) !=0)
 |.jn y=>y.size<=sizeLine/\k=((y.size:Int) !=0)
 |.ref p=>(∃xs,aG K H p xs/\k=!xs.isEmpty)\/(∃xs,bF K H p xs/\k=!xs.isEmpty)\/∃kvs,H p=some `Þ/\k=!kvs.isEmpty
 |_=>False
def amh{κ:Type}{kvs:`_G}{vs:3.7}(r:KV kvs vs):(!vs.isEmpty)=!kvs.isEmpty:=by
 cases r<;>rfl
def Z_{xs:List V}{its:`Ì}(r:bx xs its):(!its.toArray.isEmpty)=!xs.isEmpty:=by
 cases r<;>simp
def GW:(sizeLine:Nat)<2^63:=by rw[EW];decide
def auE:aik X (fun x H Q=>∃k,E4 X.K x H k/\Q k H):=by
 intro ae s σ H x v Q I rx h;obtain⟨k,e,q⟩:=h;have hl:=GW;have hs:sizeLine=16777216:=EW;cases x with
 |aX=>
  cases rx;have e':k=false:=e;subst e';exact truthy_none ⟨H,I,q⟩
 |bl b=>
  cases rx;have e':k=b:=e;subst e';exact sW ⟨H,I,q⟩
 |int i=>
  show `_aM;have e':k=(i !=0):=e;subst e';exact PySem.P.truthy_int ⟨H,I,q⟩
 |str y=>
  show `_aM;obtain⟨hy,e'⟩:y.length<=sizeLine/\k=((y.length:Int) !=0):=e;subst e';exact PySem.P.truthy_str `È ⟨H,I.ii _,q⟩
 |jn y=>
  show `_aM;obtain⟨hy,e'⟩:y.size<=sizeLine/\k=((y.size:Int) !=0):=e;subst e';exact PySem.W.truthy_bytes `È ⟨H,I.ii _,q⟩
 |ref p=>
  cases rx;have e':(∃xs,aG X.K H p xs/\k=!xs.isEmpty)\/(∃xs,bF X.K H p xs/\k=!xs.isEmpty)\/∃kvs,H p=some `Þ/\k=!kvs.isEmpty:=e;rcases e' with⟨xs,hx,e'⟩|⟨xs,hx,e'⟩|⟨kvs,hx,e'⟩
  .subst e';obtain⟨its,r,pl,hz⟩:=I.list hx;have hlen:=r.length;exact wpAny_truthy_list pl.isList (by simp only[fP];omega) ⟨H,I.ii _,by rw[Z_ r];exact q⟩
  .subst e';obtain⟨its,r,pl,hz⟩:=I.tuple hx;have hlen:=r.length;exact truthy_tuple pl (by simp only[fP];omega) ⟨H,I.ii _,by rw[Z_ r];exact q⟩
  .subst e';obtain⟨hz,hS,vs,r,m⟩:`Ö<=sizeLine/\(p==sysModules)=false/\∃vs,KV kvs vs/\s.heap.DictOf 1.6 p vs:=I.aO p _ hx;have hlen:`Ö=`õ:=mr r;exact wpAny_truthy_dict hS m `È ⟨H,I.ii _,by rw[amh r];exact q⟩
 |_=>exact(show False from e).elim
def RX(ha:'9')(he:∀whole,isTrue a X.am whole=(do let v<-whole;standAt a.pos;holding [v] (truthy v))):
 PT X a (fun σ H Q=>ta σ H fun x H'=>∃k,E4 X.K x H' k/\Q k H'):=by
 show `_af;exact isTrue_plain (a0 6.5 fun v s1 ⟨x,H1,I1,r1,q1⟩=>auE ae s1 σ H1 x v Q I1 r1 q1) (he _)
def zW{x:V}{us:`Ì}(r:bx [x] us):∃u,us=[u]/\bA x u:=by
 cases r with
 |cons r1 r2=>cases r2;exact⟨_,rfl,r1⟩
end
structure u4(h:Heap)(x dx C:Addr)(mA:Str->Option Value):Prop where
 obj:h.get? x=some (instObj C dx)
 ns:h.Ns1 dx mA
 ne:dx≠x
def aoz{h:Heap}{dx:Addr}{mA:`þ}(n:h.Ns1 dx mA):∃od,h.get? dx=some od/\∀name,lookIn name od=some (mA name):=by
 obtain⟨o,es,ep,ho,hd,hk,_,hm⟩:=n;refine⟨o,ho,fun name=>?_⟩;have e:=hm name;unfold nsFind findBy at e;rw[<-Array.find?_toList]at e;unfold lookIn;rw[hd];dsimp only;split
 .rename_i y q
  rw[q]at e;exact fv some e
 .rename_i q
  rw[q]at e;have a:es.toList.any (·.refKey)=false:=by
   rw[sO];intro y hy;obtain⟨z,t,Bl⟩:=hk y (Array.mem_toList_iff.mp hy);simp[DictEntry.refKey,Bl]
  have a':¬es.toList.any (·.refKey)=true:=by rw[a];exact eM
  rw[aq a'];exact fv some e
def u4.pA{h:Heap}{x dx C:Addr}{mA:`þ}(I:u4 h x dx C mA):∃od,PySem.W.InstAt h x (instObj C dx) C (some od)/\∀name,lookIn name od=some (mA name):=
 let⟨od,ho,hl⟩:=aoz I.ns
 ⟨od,⟨I.obj,rfl,rfl,ho⟩,hl⟩
section
variable{prog:Program}{w:World}{A:Around}{E:Value->Shared->Prop}{s:Shared}{K:Frag}{x dx C f:Addr}{mA:Str->Option Value}{name:Str}{v:Value}
def ali{expr:Bool}{Q:`Ñ}(X:K.In s.heap)(I:u4 s.heap x dx C mA)(hg:plainGet K C name=true)(hh:hasDictIn K C=true)
 (ha:findIn K `_e name=some none) (hv:mA name=some v) (rW:handedIn v=true) (h:Q v {s with toks:=s.toks+1}):
 wpAny `ò A (getAttr (.ref x) name expr) Q E s:=by
 obtain⟨od,J,hl⟩:=I.pA;exact PySem.W.get_value X J (VB hg).1 (PySem.W.findObj_own hh ha rfl (by rw[hl,hv])) rW h
def alj{pl:Sem Bool}{Q:Value×List Value->Shared->Prop}(X:K.In s.heap)(I:u4 s.heap x dx C mA)(hg:plainGet K C name=true)
 (hf:findIn K `_e name=some (`ĕ)) (ht:isFn K `æ=true) (hv:mA name=none) (h:Q (.ref f,[.ref x]) s):
 wpAny `ò A (getMethod (.ref x) name pl) Q E s:=by
 obtain⟨od,J,hl⟩:=I.pA;exact PySem.W.method_fn X J (VB hg).1 (VB hg).2 hf (sX.mp ht) (by show(lookIn name od).map (·.isSome)=some false;rw[hl,hv];rfl) h
def atZ{ns:`ô}{Q:0.20}(X:K.In s.heap)(I:u4 s.heap x dx C mA)
 (hs:4.36) (hp:plainOver K C=true) (ht:takerIn K C name=some none) (hh:hasDictIn K C=true)
 (hw:PySem.Within mA ns) (hsz:':'<=sizeLine)
 (h:∀h',u4 h' x dx C (fun y=>if y=name then some v else mA y)->Heap.SameBut dx s.heap h'->Q () {s with heap:=h',toks:=s.toks+2}):
 wpAny `ò A (setAttr (.ref x) name v) Q E s:=by
 obtain⟨od,J,hl⟩:=I.pA;refine PySem.W.set_plain X J hs (PySem.W.osa_open (s:={s with toks:=s.toks+1}) (r:=none) X J hp ht fun b=>?_);obtain⟨cd,hc,mC⟩:=PySem.W.any_some hh;have hx:s.heap.get? x=some ⟨.ref C,some dx,.plain,#[]⟩:=I.obj;refine aI (br (aI (aI (wpAny_loadPart hx (aI (PySem.W.Looks.here (s:={s with toks:=s.toks+1}) (PySem.W.looks_clsIn X hc) ?_))))));rw[mC];refine br (a:=some dx) (aI (br (aI ?_)));refine wpAny_nsSet1 (s:={s with toks:=s.toks+1}) I.ns fun h' Bq ZN=>?_;obtain⟨oD,esD,epD,hoD,hdD,hcD⟩:=Bq.count (PySem.Within.cons name v hw);refine aI (wpAny_lookBehind hoD (by rw[hdD];exact pastItsLine_dict (bq hcD (by rw[cB];omega))) ?_);exact br (h _ ⟨(ZN.2 _ (aL I.ne)).trans I.obj,Bq,I.ne⟩ ZN)
def aoE{R:Result->Shared->Prop}{vs:`Ì}{kw:0.22}(X:K.In s.heap)(hm:makesIn K C=true)
 (hi:findIn K `_e "__init__"=some (`ĕ)) (hf:PySem.W.typeIn K `æ=some (.type "function"))
 (h:codeAny `ò (A.under (.builtin "type.__call__" ⟨.ref C::vs,kw⟩)) (.call `æ ⟨.ref `Ğ::vs,kw⟩) (PySem.W.InitBack `Ğ R)
  {s with heap:=(s.heap.push emptyDict).push (instObj C s.heap.objs.size)}):
 codeAny `ò A (.call `_e ⟨vs,kw⟩) R s:=by
 obtain⟨hh,g,d,t,os⟩:=s;exact PySem.W.make_core (PySem.W.makes_of X hm) (PySem.W.looks_findIn X hi) (fun self=>PySem.W.bind_fn X self hf) `Λ h
end
def bi(f:Str)(v:V):List `_f->List `_f
 |[]=>[(f,v)]
 |(g,x)::r=>if g=f then(g,v)::r else(g,x)::bi f v r
def ņ(f g:Str)(v:V):∀fs:List `_f,(bi f v fs).lookup g=if g=f then some v else fs.lookup g
 |[]=>by
  show List.lookup g [(f,v)]=_;by_cases h:g=f
  .have hb:(g==f)=true:=sX.mpr h;simp only[List.lookup,hb,ay h]
  .have hb:(g==f)=false:=gO.mpr h;simp only[List.lookup,hb,aq h]
 |(k,x)::r=>by
  have ih:=ņ f g v r;show `_aG
  .rw[ay hk];by_cases h:g=k
   .have hb:(g==k)=true:=sX.mpr h;simp only[List.lookup,hb,ay (h.trans hk)]
   .have hb:(g==k)=false:=gO.mpr h;simp only[List.lookup,hb,aq (fun e:g=f=>h (e.trans hk.symm))]
  .rw[aq hk];by_cases h:g=k
   .have hb:(g==k)=true:=sX.mpr h;simp only[List.lookup,hb,aq (fun e:g=f=>hk (h.symm.trans e))]
   .have hb:(g==k)=false:=gO.mpr h;simp only[List.lookup,hb];exact ih
def PU(f:Str)(v:V):∀fs:List `_f,f∈(bi f v fs).map (·.1)/\∀g,g∈fs.map (·.1)->g∈(bi f v fs).map (·.1)
 |[]=>⟨by simp[bi],fun g h=>by simp at h⟩
 |(k,x)::r=>by
  obtain⟨i1,i2⟩:=PU f v r;show `_aG
  .rw[ay hk];subst hk;exact⟨`Õ,fun g h=>'['⟩
  .rw[aq hk];refine⟨?_,fun g h=>?_⟩
   .rw[cY];exact gr _ i1
   .rw[cY]at h⊢;rcases bE.mp h with e|e
    .exact bE.mpr (.inl e)
    .exact gr _ (i2 g e)
def ļ(f:Str)(v:V):∀fs:List `_f,(bi f v fs).length<=fs.length+1
 |[]=>by simp[bi]
 |(k,x)::r=>by
  have ih:=ļ f v r;show `_aG
  .rw[ay hk,cB,cB];omega
  .rw[aq hk,cB,cB];omega
def jE.Io{v:V}{o:Option Value}(r:jE (some v) o):∃u,o=some u/\bA v u:=by
 cases o with
 |none=>exact(show False from r).elim
 |some u=>exact⟨u,rfl,r⟩
def jE.tP{o:Option Value}(r:jE none o):o=none:=by
 cases o with
 |none=>rfl
 |some u=>exact(show False from r).elim
def alo{v:V}{u:Value}(r:bA v u):handedIn u=true:=by
 cases v with
 |aX=>cases(show u=Value.none from r);rfl
 |bl b=>cases(show u=0.3 b from r);rfl
 |int i=>obtain⟨t,e⟩:=(show∃t,u='!' i t from r);cases e;rfl
 |str x=>obtain⟨t,e⟩:=(show∃t,u=Value.str x t from r);cases e;rfl
 |jn b=>obtain⟨t,e⟩:=(show∃t,u=Value.bytes b t from r);cases e;rfl
 |FU b=>obtain⟨t,e⟩:=(show∃t,u=Value.float b t from r);cases e;rfl
 |ref a=>cases(show u=`ä a from r);rfl
 |ty n=>cases(show u=Value.type n from r);rfl
section
variable{P:Program}{w:World}{H H':Hp}{h h':Heap}{a C dx:Addr}{fs lF:List (Str×V)}
def PB(aO:`_r)(e:H a=some `_k):∃mA,u4 h a dx C mA/\(∀f,jE (fs.lookup f) (mA f))/\PySem.Within mA (fs.map (·.1))/\fs.length<=1000/\H dx=some (.own a):=by
 obtain⟨d,z,ne,ob,mA,n,r,q⟩:=(show fG P w H h a `_k from aO a _ e);exact⟨mA,⟨ob,n,ne⟩,r,q,z,d⟩
end
structure f8(K:Frag)(C:Addr):Prop where
 pg:plainGet K C Str.empty=true
 hd:hasDictIn K C=true
 po:plainOver K C=true
 sa:findIn K `_e "__setattr__"=some (some (.builtin "object.__setattr__"))
def f8.get{K:Frag}{C:Addr}(c:f8 K C)(f:Str):plainGet K C f=true:=c.pg
def eE(K:Frag)(C:Addr)(f:Str):Prop:=findIn K `_e f=some none
def eE.auw{K:Frag}{C:Addr}{f:Str}(n:eE K C f):takerIn K C f=some none:=by
 unfold takerIn;rw[show findIn K (.ref C) f=some none from n];rfl
structure cZ(K:Frag)(C:Addr)(m:Str)(f:Addr):Prop where
 at_:findIn K `_e m=some (`ĕ)
 fn:isFn K `æ=true
 kp:keepIn K `æ=true
section
variable{X:Cx}{ae:List (Addr×Obj)}{σ:St}{H:Hp}{s:Shared}{a C dx:Addr}{fs:List (Str×V)}{f:Str}{v:V}{A:Around}{E:Value->Shared->Prop}
def Y1{b:Bool}{Q:`Ñ}(I:`Ë)(e:H a=some `_k)(c:f8 X.K C)(n:eE X.K C f)(l:fs.lookup f=some v)
 (h:∀u s',az X ae σ H s'->bA v u->Q u s'):wpAny `Î A (getAttr `_L f b) Q E s:=by
 obtain⟨mA,O,r,_,_,_⟩:=PB I.aO e;obtain⟨u,hu,ru⟩:=jE.Io (v:=v) (o:=mA f) (by rw[<-l];exact r f);exact ali I.hZ O (c.get f) c.hd n hu (alo ru) (h u _ (I.ii _) ru)
def OH{m:Str}{g:Addr}{pl:Sem Bool}{Q:Value×List Value->Shared->Prop}(I:`Ë)(e:H a=some `_k)(c:f8 X.K C)(k:cZ X.K C m g)(l:fs.lookup m=none)
 (h:Q (.ref g,[.ref a]) s):wpAny `Î A (getMethod `_L m pl) Q E s:=by
 obtain⟨mA,O,r,_,_,_⟩:=PB I.aO e;have hn:mA m=none:=jE.tP (by rw[<-l];exact r m);exact alj I.hZ O (c.get m) k.at_ k.fn hn h
def ac4{y:V}{u:Value}{Q:0.20}(I:`Ë)(e:H a=some `_k)(c:f8 X.K C)(n:eE X.K C f)(hl:fs.length<1000)(ry:bA y u)
 (h:∀s',az X ae σ (af H a 2.48) s'->Q () s'):wpAny `Î A (setAttr `_L f u) Q E s:=by
 obtain⟨mA,O,r,wi,_,ho⟩:=PB I.aO e;have hz:(fs.map (·.1)).length<=sizeLine:=by rw[aJ,EW];omega
 refine atZ I.hZ O c.sa c.po n.auw c.hd wi hz fun h' O' sb=>h _ ?_;have hd:∃o,h'.get? dx=some o:=let⟨o,_,_,e',_⟩:=O'.ns;⟨o,e'⟩;refine I.sJ (x:=a) (e:=dx) 1.99 (.inr ho) (fun b q hb z=>(sb.2 b hb).trans z) hd ?_;refine⟨by rw[au O.ne];exact ho,?_,O.ne,O'.obj,_,O'.ns,fun g=>?_,fun g hg=>?_⟩
 .have:=ļ f y fs;omega
 .show jE ((bi f y fs).lookup g) (if g=f then some u else mA g);rw[ņ];by_cases q:g=f
  .rw[ay q,ay q];exact ry
  .rw[aq q,aq q];exact r g
 .by_cases q:g=f
  .rw[q];exact(PU f y fs).1
  .refine(PU f y fs).2 g (wi g fun z=>hg ?_);show(if g=f then some u else mA g)=none;rw[aq q];exact z
def az.made(I:`Ë):az X ae σ (af (af H s.heap.objs.size (.own `Ğ)) `Ğ (.ins C s.heap.objs.size []))
 {s with heap:=(s.heap.push emptyDict).push (instObj C s.heap.objs.size)}:=by
 have e1:(1.37).get? `Í=some emptyDict:=eZ s.heap rfl;have e2:((1.37).push (instObj C `Í)).get? `Ğ=some (instObj C `Í):=by
  have:=eZ (1.37) (o:=instObj C `Í) rfl;rwa[kC]at this
 have e3:(1.37).Ns s.heap.objs.size (fun _=>none):=⟨emptyDict,#[],_,e1,rfl,(fun e he=>absurd he `Ç),fun _=>rfl⟩;have I1:=I.jM (a:=`Í) (o:=.own `Ğ) (h':=1.37) (t':=s.toks) (fun b u q=>cC _ q) (bp _) ⟨_,e1⟩;refine I1.jM (a:=2.4) (o:=.ins C s.heap.objs.size []) (t':=s.toks) (fun b u q=>cC _ q) (Ao (kC _ _)) ?_;have ne:`Í≠`Í+1:=gb (Ap _);refine⟨by rw[au ne,ax],mn _,ne,e2,fun _=>none,(Heap.Ns1.of_empty e3).at fun o q=>cC _ q,fun _=>True.intro,fun y hy=>absurd rfl hy⟩
def aiz{prog:`Ô}{w:World}{am:Env}{e:Expr}{f:Str}{pos:Pos}{s:Shared}{Q:`Ñ}(hb:attributeBase e f am (eval e am)=eval e am)
 (h:wpAny `ò A (eval e am) (fun o bY=>wpAny `ò A (getAttr o f true) Q E bY) E s):wpAny `ò A (eval (.Attribute e f pos) am) Q E s:=
 Attribute_any_ h (by rw[arm_eval_Attribute,hb])
end
def bo(K:Frag)(ta:TE)(f:Str):TE:=fun σ H Q=>ta σ H fun x H1=>∃a C dx fs v,x=.ref a/\H1 a=some `_k/\f8 K C/\eE K C f/\fs.lookup f=some v/\Q v H1
def gA(K:Frag)(ta tv:TE)(f:Str):TS:=fun D σ H=>tv σ H fun y H1=>ta σ H1 fun x H2=>∃a C dx fs,x=.ref a/\H2 a=some `_k/\f8 K C/\eE K C f/\fs.length<1000/\
 D.nx σ (af H2 a 2.48)
def UT(X:Cx)(op:Operator)(rd:7.6):Prop:=
 ∀(ae:`Ï)(s:Shared)(σ:St)(H:Hp)(x y:V)(u v:Value)(Q:VK),az X ae σ H s->bA x u->bA y v->rd x y H Q->wpAny `Î X.A (inplaceOp op u v) `_v X.xe s
def Ih(K:Frag)(ta tv:TE)(rd:7.6)(f:Str):TS:=fun D σ H=>ta σ H fun x H1=>∃a C dx fs v,x=.ref a/\H1 a=some `_k/\f8 K C/\eE K C f/\fs.lookup f=some v/\
 tv σ H1 fun y H2=>rd v y H2 fun z H3=>∃eO lF,H3 a=some (.ins C eO lF)/\lF.length<1000/\D.nx σ (af H3 a (.ins C eO (bi f z lF)))
section
variable{X:Cx}{o e value:Expr}{f:Str}{pos kX jy:Pos}{ta tv:TE}
def bz(he:PE X e ta)(hb:attributeBase e f X.am (eval e X.am)=eval e X.am):PE X (.Attribute e f pos) (bo X.K ta f):=by
 show `_af;refine aiz hb (a0 '1' fun u s1 ⟨x,H1,I1,rx,a,C,dx,fs,v,ex,ea,c,n,l,q⟩=>?_);show `_au;exact Y1 I1 ea c n l fun u' s2 I2 ru=>⟨v,H1,I2,ru,q⟩
def gU(ha:PE X o ta)(hv:PE X value tv)(hs:swapsWith value (some (.Attribute o f kX)) pos.line X.am=pure false):PS X (.Assign [.Attribute o f kX] value pos) (gA X.K ta tv f):=by
 show `_aL;refine plainObj_wpAny_Assign_Attribute (a0 (hv ae s σ H _ I h) fun u s1 ⟨y,H1,I1,ry,q⟩=>a0 (ha ae s1 σ H1 _ I1 q) fun ov s2 ⟨x,H2,I2,rx,a,C,dx,fs,ex,ea,c,n,l,q2⟩=>?_) hs;subst ex;obtain rfl:ov=`ä a:=rx;exact ac4 I2 ea c n l ry fun s3 I3=>⟨σ,_,I3,q2⟩
def abn{op:Operator}{rd:7.6}(ha:PE X o ta)(hv:PE X value tv)(hop:UT X op rd):PS X (.AugAssign (.Attribute o f jy) op value pos) (Ih X.K ta tv rd f):=by
 show `_aL;refine wpAny_AugAssign_AttributeAny (a0 6.5 fun ov s1 ⟨x,H1,I1,rx,a,C,dx,fs,v,ex,ea,c,n,l,q⟩=>?_);subst ex;obtain rfl:ov=`ä a:=rx;refine Y1 I1 ea c n l fun u s2 I2 ru=>a0 (hv ae s2 σ H1 _ I2 q) fun w3 s3 ⟨y,H2,I3,ry,q3⟩=>a0 (hop ae s3 σ H2 v y u w3 _ I3 ru ry q3) fun w4 s4 ⟨z,H3,I4,rz,eO,lF,ea',l',q4⟩=>?_;exact ac4 I4 ea' c n l' rz fun s5 I5=>⟨σ,_,I5,q4⟩
def HZ:V->V->Hp->VK->Prop:=fun x y H Q=>∃i j,x=.int i/\y=.int j/\Q (.int (i+j)) H
def Z3:UT X .Add HZ:=by
 rintro ae s σ H x y u v Q I rx ry ⟨i,j,rfl,rfl,q⟩;obtain⟨t,rfl⟩:=(show∃t,u='!' i t from rx);obtain⟨t',rfl⟩:=(show∃t',v='!' j t' from ry);exact PyProof.Rows.iadd_int ⟨.int (i+j),H,I.ii _,`_o,q⟩
def av7{pl:Sem Bool}{m:Str}{fQ:Pos}{args:`_h}{ae:`Ï}{s:Shared}{σ:St}{H:Hp}{Q:`Ñ}{te:TE}(he:PE X e te)(I:`Ë)
 (h:te σ H fun x H1=>∃a C dx fs g,x=.ref a/\H1 a=some `_k/\f8 X.K C/\cZ X.K C m g/\fs.lookup m=none/\
  ∀s1,az X ae σ H1 s1->wpAny `Î X.A (callWith pos (.ref g) [.ref a] (backTo pos (starEach args X.am)) 1.90) Q X.xe s1)
 (ht:eval (.Call (.Attribute e m fQ) args [] pos) X.am=(do
  let ov<-eval e X.am
  standAt fQ.atName
  let(f,first)<-holding [ov] (getMethod ov m pl)
  callWith pos f first (backTo pos (starEach args X.am)) 1.90)):
 wpAny `Î X.A (eval (.Call (.Attribute e m fQ) args [] pos) X.am) Q X.xe s:=by
 refine VA (pl:=pl) (a0 '1' fun u s1 ⟨x,H1,I1,rx,a,C,dx,fs,g,ex,ea,c,k,l,q⟩=>?_) ht;show `_au;exact OH I1 ea c k l (q s1 I1)
end
structure cH(k:Nat)(A:Around):Prop where
 hd:A.handled=none
 dp:A.depth+3*k+5<recursionLimit
 un:A.units+16*k+200<cLine
def cH.aD{j k:Nat}{A:Around}(r:cH k A)(h:j<=k):cH j A:=⟨r.hd,by have:=r.dp;omega,by have:=r.un;omega⟩
def cH.deeper{k:Nat}{A:Around}(r:cH (k+1) A)(am:Env):cH k (A.deeper am):=
 ⟨r.hd,by have:=r.dp;show A.depth+1+3*k+5<_;omega,by have:=r.un;show A.units+3+16*k+200<_;omega⟩
def cH.in1{k:Nat}{A:Around}(r:cH (k+1) A):cH k A.in1:=
 ⟨r.hd,by have:=r.dp;show A.depth+3*k+5<_;omega,by have:=r.un;show A.units+1+16*k+200<_;omega⟩
def aoD{A:Around}{C:Addr}{us:`Ì}{kw:0.22}:(1.66).depth=A.depth+1:=by
 first|rfl|simp[Around.under,Code.weight,Code.isCreation,Code.isGuard,Code.isCaller,Code.frames,Code.isFrame,guardIds]
def aoF{A:Around}{C:Addr}{us:`Ì}{kw:0.22}:(1.66).units=A.units+1:=by
 first|rfl|simp[Around.under,Code.cUnits,Code.frames,Code.isFrame]
def cH.Qb{k:Nat}{A:Around}(r:cH (k+1) A)(C:Addr)(us:`Ì)(kw:0.22):cH k (1.66):=
 ⟨r.hd,by have:=r.dp;rw[aoD];omega,by have:=r.un;rw[aoF];omega⟩
def cH.depth{k:Nat}{A:Around}(r:cH k A):A.depth<recursionLimit:=by have:=r.dp;omega
def cH.units{k:Nat}{A:Around}(r:cH k A):A.units+64<cLine:=by have:=r.un;omega
def cH.zV{k:Nat}{A:Around}(r:cH k A):A.units<cLine:=by have:=r.un;omega
def ap:TA:=fun _ H Q=>Q [] H
def ai(ta:TE)(tr:TA):TA:=fun σ H Q=>ta σ H fun x H1=>tr σ H1 fun xs H2=>Q (x::xs) H2
section
variable{X:Cx}{e:Expr}{es:List Expr}{te:TE}{t:TA}{pos:Pos}
def aA:PA X [] ap:=fun _ _ _ _ H Q I h=>Av ⟨[],H,I,.nil,h⟩
def ao(ha:PE X e te)(hr:PA X es t)(hs:`ψ:=by rfl):PA X (e::es) (ai te t):=by
 intro pos ae s σ H Q I h;rw[hs];show wpAny _ _ (spliced (9.9::backTo pos (starEach es X.am))) _ _ s;refine yg (a0 6.5 fun u s1 ⟨x,H1,I1,r1,q1⟩=>?_);exact a0 (hr pos ae s1 σ H1 _ I1 q1) fun us s2 ⟨xs,H2,I2,r2,q2⟩=>⟨x::xs,H2,I2,.cons r1 r2,q2⟩
def xn(t:TA):TE:=fun σ H Q=>t σ H fun xs H1=>`Ã<=sizeLine/\∀p,H1 p=none->Q `Ü (af H1 p (.bb xs))
def bI(t:TA):TE:=fun σ H Q=>t σ H fun xs H1=>`Ã<=sizeLine/\∀p,H1 p=none->Q `Ü (af H1 p `Ē)
def Cs{x1}(h:PA X es t):PE X (.Tuple es x1 pos) (xn t):=by
 intro ae s σ H Q I hq;refine wpAny_Tuple_spliced 3.95;have hf:H1 `ê=none:=I1.aO.fresh (bp _);refine⟨.ref `ê,af H1 s1.heap.objs.size (.bb xs),I1.jM (t':=s1.toks) (fun b u e=>cC _ e) (bp _) ?_,rfl,q _ hf⟩;exact⟨z,us,r,⟨_,`Ė,rfl,_,rfl⟩⟩
def bN(h:PA X es t):PE X (.List es pos) (bI t):=by
 intro ae s σ H Q I hq;refine wpAny_List_spliced 3.95;have hf:H1 `ê=none:=I1.aO.fresh (bp _);refine⟨.ref `ê,af H1 s1.heap.objs.size `Ē,I1.jM (t':=s1.toks) (fun b u e=>cC _ e) (bp _) ?_,rfl,q _ hf⟩;exact⟨z,us,0,r,`Ė⟩
end
abbrev Sp:=List V->Hp->VK->XK->Prop
abbrev pQ:=List Env->Hp->Shared->XK->Value->Shared->Prop
structure qQ(P:Program)(w:World)(K:Frag)(mg:Str->Option Value)(base:Heap)(A:Around)(bK:List Env)(s:Shared)(H:Hp):Prop where
 frames:A.frames=some bK
 mod:Mod K mg base
 bs:∀b o,base.get? b=some o->s.heap.get? b=some o/\H b=none
 kF:base.objs.size<=`Í
 kM:s.heap.FunFrames base bK
 rG:∀b∈nB bK,H b=none
 aO:dJ P w H s.heap
 fu:AllBare s.gens
def CE(bK:`_W)(P:`Ô)(w:World)(H:Hp)(s:Shared)(Q:VK)(u:Value)(s':Shared):Prop:=
 ∃v H',s'.os=s.os/\AllBare s'.gens/\Un (nB bK) [] H H' s.heap s'.heap/\dJ P w H' s'.heap/\bA v u/\Q v H'
def CR(CX:pQ)(bK:`_W)(P:`Ô)(w:World)(H:Hp)(s:Shared)(Q:VK)(E:XK)(r:Result)(s':Shared):Prop:=
 match r with
 |.ok (.ret u)=>CE bK P w H s Q u s'
 |.ok _=>False
 |.error e=>CX bK H s E e s'
structure f9(P:Program)(w:World)(K:Frag)(mg:Str->Option Value)(base:Heap)(CX:pQ)(k:Nat)(f:Addr)(fd:FuncData)(ps:List Str)(sp:Sp):Prop where
 len:∀vs H Q E,sp vs H Q E->`õ=`_z
 CK:∀(A:Around)(bK:`_W)(s:Shared)(H:Hp)(args:Args)(us:`Ì)(vs:List V)(Q:VK)(E:XK),cH k A->qQ P w K mg base A bK s H->BindsTo s fd args (ps.zip us)->bx vs us->sp vs H Q E->
  codeAny '5' A (.call `æ args) (CR CX bK P w H s Q E) s
def qQ.Qb{P:`Ô}{w:World}{K:Frag}{mg:`þ}{base:Heap}{A:Around}{bK:`_W}{s:Shared}{H:Hp}(e:qQ P w K mg base A bK s H)(C:Addr)(us:`Ì)(kw:0.22):
 qQ P w K mg base (1.66) bK s H:=⟨by first|exact e.frames|(simpa [Around.under,Code.envs,Code.isFrame,pushEnvs]using e.frames),e.mod,e.bs,e.kF,e.kM,e.rG,e.aO,e.fu⟩
section
variable{X:Cx}{ae:List (Addr×Obj)}{σ:St}{H:Hp}{s s':Shared}
def az.Yx(I:`Ë):qQ X.prog X.w X.K X.mg X.base X.A X.stack s H:=
 ⟨I.ok.frames,I.ok.mod,I.bs,bq I.ok.kF I.sz,I.stack,I.IP,I.aO,I.fu⟩
def az.after{Q:VK}{u:Value}(I:`Ë)(h:CE X.stack X.prog X.w H s Q u s'):EP X ae σ Q u s':=by
 obtain⟨v,H',os,fu,un,aO,r,q⟩:=h;obtain⟨hh,g,d,t,os'⟩:=s';obtain rfl:os'=s.os:=os;exact⟨v,H',I.call (h':=hh) (g':=g) (d':=d) (t':=t) (ch:=[]) un aO fu (fun b z=>absurd z `Ç),r,q⟩
end
def bH(sp:Sp)(dvs:List V)(E:XK)(t:TA):TE:=fun σ H Q=>t σ H fun vs H1=>sp '7' H1 Q E
def bj(C:Addr)(m:Str)(sp:Sp)(dvs:List V)(E:XK)(ta:TE)(t:TA):TE:=fun σ H Q=>ta σ H fun x H1=>∃a dx fs,x=.ref a/\H1 a=some `_k/\fs.lookup m=none/\
 t σ H1 fun vs H2=>sp (x::'7') H2 Q E
def jh(C:Addr)(sp:Sp)(dvs:List V)(E:XK)(t:TA):TE:=fun σ H Q=>t σ H fun vs H1=>∀x dx,H1 x=none->H1 dx=none->dx≠x->
 sp (.ref x::'7') (af (af H1 dx (.own x)) x (.ins C dx [])) 3.57 E
def i4(K:Frag)(fd:`ě)(ps:`ô)(ds:`Ì):Prop:=
 ∀(s:Shared)(us:`Ì),K.In s.heap->(us++ds).length=`_z->BindsTo s fd ⟨us,[]⟩ (ps.zip (us++ds))
def i4.all{K:Frag}{fd:`ě}{ps:`ô}(h:∀us:List Value,us.length=`_z->bindArgs fd ⟨us,[]⟩=pure (ps.zip us)):i4 K fd ps []:=fun s us _ hl=>by
 rw[i6]at hl⊢;exact .of_eq (h us hl)
def oG(CX:pQ)(X:Cx)(E:XK):Prop:=∀(ae:`Ï)(σ:St)(H:Hp)(s:Shared)(e:Value)(s':Shared),az X ae σ H s->CX X.stack H s E e s'->X.xe e s'
section
variable{X:Cx}{CX:pQ}{k:Nat}{f C:Addr}{fd:FuncData}{ps:List Str}{sp:Sp}{dvs:List V}{ds:List Value}{E:XK}{x m:Str}{p pos fQ:Pos}{e o:Expr}{es:List Expr}{ta:TE}{t:TA}
def zK{ae:`Ï}{σ:St}{H:Hp}{s:Shared}{Q:VK}{us:`Ì}{vs:List V}(F:6.0)(hr:cH k X.A)(hb:8.4)(hd:bx dvs ds)(hx:oG CX X E)
 (I:`Ë) (r:bx vs us) (h:sp '7' H Q E):wpAny `Î X.A (call `æ us) `_v X.xe s:=by
 have r2:bx '7' (us++ds):=r.append hd;have hl:(us++ds).length=`_z:=by rw[<-r2.length];exact F.len _ _ _ _ h
 refine wpAny_call (yh (F.CK X.A X.stack s H ⟨us,[]⟩ (us++ds) '7' Q E hr I.Yx (hb s us I.hZ hl) r2 h) fun r s' hq=>?_);cases r with
 |error e=>exact hx ae σ H s e s' I hq
 |ok fl=>
  cases fl with
  |ret u=>exact I.after hq
  |next=>exact 0.4
  |brk=>exact 0.4
  |cont=>exact 0.4
def Q8(F:6.0)(hr:cH k X.A)(hg:Gl X x)(hm:X.mg x=some `æ)(hk:keepIn X.K `æ=true)(hb:8.4)(hd:bx dvs ds)(hx:oG CX X E)
 (ha:'3') (hJ:`_u:=by decide) (he:`ψ:=by rfl) (eW:('-').any (·.1)=false:=by rfl):
 PE X 0.8 (bH sp dvs E t):=by
 show `_ca;refine ET (h₀:=X.base) I.ok.mod.vR hk (a0 2.67 fun us s1 ⟨vs,H1,I1,r,q⟩=>⟨I1.hZ,?_⟩) he eW;exact zK F hr hb hd hx I1 r q
def asb(F:6.0)(hr:cH k X.A)(hg:Gl X x)(hm:X.mg x=some `æ)(hk:keepIn X.K `æ=true)(hb:8.4)(hd:bx dvs ds)(hx:oG CX X E)
 (hJ:`_u:=by decide):PE X 2.22 (bH sp dvs E ap):=by
 show `_ca;exact Vz I.hZ hk (zK (us:=[]) F hr hb hd hx I .nil h)
def dC{pl:Sem Bool}(he:PE X o ta)(c:f8 X.K C)(hm:cZ X.K C m f)(F:6.0)(hr:cH k X.A)(hb:8.4)(hd:bx dvs ds)(hx:oG CX X E)(ha:'3')
 (iC:`ψ:=by rfl) (eW:('-').any (·.1)=false:=by rfl)
 (ht:eval (.Call (.Attribute o m fQ) (e::es) [] pos) X.am=(do
  let ov<-eval o X.am
  standAt fQ.atName
  let(f,first)<-holding [ov] (getMethod ov m pl)
  callWith pos f first (backTo pos (starEach (e::es) X.am)) 1.90):=by rfl):
 PE X (.Call (.Attribute o m fQ) (e::es) [] pos) (bj C m sp dvs E ta t):=by
 show `_af;refine 4.34;show `_au;refine OH I1 ea c hm l ?_;refine ET (first:=[.ref a]) (h₀:=X.base) I.ok.mod.vR hm.kp (a0 (ha pos ae s1 σ H1 _ I1 q) fun us s2 ⟨vs,H2,I2,r,q2⟩=>⟨I2.hZ,?_⟩) iC eW;exact zK (us:=.ref a::us) (vs:=.ref a::vs) F hr hb hd hx I2 (.cons rfl r) q2
def cR{pl:Sem Bool}(he:PE X o ta)(c:f8 X.K C)(hm:cZ X.K C m f)(F:6.0)(hr:cH k X.A)(hb:8.4)(hd:bx dvs ds)(hx:oG CX X E)
 (ht:eval (.Call (.Attribute o m fQ) [] [] pos) X.am=(do
  let ov<-eval o X.am
  standAt fQ.atName
  let(f,first)<-holding [ov] (getMethod ov m pl)
  callWith pos f first (backTo pos (starEach [] X.am)) 1.90):=by rfl):
 PE X (.Call (.Attribute o m fQ) [] [] pos) (bj C m sp dvs E ta ap):=by
 show `_af;refine 4.34;show `_au;refine OH I1 ea c hm l ?_;exact Vz (first:=[.ref a]) I1.hZ hm.kp (zK (us:=[.ref a]) (vs:=[.ref a]) F hr hb hd hx I1 (.cons rfl .nil) q)
structure Mk(K:Frag)(C f:Addr):Prop where
 aoG:makesIn K C=true
 ame:findIn K `_e "__init__"=some (`ĕ)
 fn:isFn K `æ=true
 kp:keepIn K `_e=true
def acb{ae:`Ï}{σ:St}{H:Hp}{s:Shared}{Q:VK}{us:`Ì}{vs:List V}(M:Mk X.K C f)(F:6.0)(hr:cH (k+1) X.A)(hb:8.4)(hd:bx dvs ds)
 (hx:oG CX X E) (I:`Ë) (r:bx vs us)
 (h:∀x dx,H x=none->H dx=none->dx≠x->sp (.ref x::'7') (af (af H dx (.own x)) x (.ins C dx [])) 3.57 E):
 wpAny `Î X.A (call `_e us) `_v X.xe s:=by
 have hq:=h `Ğ s.heap.objs.size (I.aO.fresh (Nat.le_succ _)) ('?') (gb (Ap _));have I2:=az.made (C:=C) I;have r2:bx (V.ref `Ğ::'7') (`ä `Ğ::(us++ds)):=.cons rfl (r.append hd);have hl:(`ä `Ğ::us++ds).length=`_z:=by
  have e:=r2.length;rw[F.len _ _ _ _ hq]at e;exact e.symm
 refine wpAny_call (aoE (f:=f) I.hZ M.aoG M.ame (sX.mp M.fn) (yh (F.CK _ X.stack _ _ ⟨`ä `Ğ::us,[]⟩ (`ä `Ğ::(us++ds)) _ _ E (hr.Qb C us [])
  (I2.Yx.Qb C us []) (hb _ (`ä `Ğ::us) I2.hZ hl) r2 hq) fun r s' jr=>?_))
 cases r with
 |error e=>exact hx ae σ _ _ e s' I2 jr
 |ok fl=>
  cases fl with
  |ret u=>
   obtain⟨v,H',I3,rv,ev,q3⟩:=I2.after jr;subst ev;exact⟨rv,⟨V.ref `Ğ,H',I3,rfl,q3⟩⟩
  |next=>exact `_m jr
  |brk=>exact `_m jr
  |cont=>exact `_m jr
def aaS(M:Mk X.K C f)(F:6.0)(hr:cH (k+1) X.A)(hg:Gl X x)(hm:X.mg x=some `_e)(hb:8.4)(hd:bx dvs ds)(hx:oG CX X E)
 (ha:'3') (hJ:`_u:=by decide) (he:`ψ:=by rfl) (eW:('-').any (·.1)=false:=by rfl):
 PE X 0.8 (jh C sp dvs E t):=by
 show `_ca;refine ET (h₀:=X.base) I.ok.mod.vR M.kp (a0 2.67 fun us s1 ⟨vs,H1,I1,r,q⟩=>⟨I1.hZ,?_⟩) he eW;exact acb M F hr hb hd hx I1 r q
def aaT(M:Mk X.K C f)(F:6.0)(hr:cH (k+1) X.A)(hg:Gl X x)(hm:X.mg x=some `_e)(hb:8.4)(hd:bx dvs ds)(hx:oG CX X E)
 (hJ:`_u:=by decide):PE X 2.22 (jh C sp dvs E ap):=by
 show `_ca;exact Vz I.hZ M.kp (acb (us:=[]) M F hr hb hd hx I .nil h)
end
structure pW(N P:List Str)(sc:Scope):Prop where
 kind:sc.kind=.function
 co:sc.isCoroutine=false
 gen:sc.isGenerator=false
 nd:N.Nodup
 pre:N.take P.length=P
 Co:∀x∈P,sc.names.lookup x=some .local\/sc.names.lookup x=some .cell
 ap':∀y∈sc.names,y.2≠.free
def V5{kindOf:Str->Option NameKind}{x:Str}:∀{vb:0.22}{m:`þ},(∀v,(x,v)∉vb)->bindL kindOf vb m x=m x
 |[],_,_=>rfl
 |(n,v)::r,m,h=>by
  unfold bindL;rw[V5 fun w hw=>h w (gr _ hw)];split
  .have:x≠n:=by rintro rfl;exact h v im
   simp[this]
  .rfl
def V3{kindOf:Str->Option NameKind}{x:Str}:∀{vb:0.22}{m:`þ},(∀v,(x,v)∉vb)->bindC kindOf vb m x=m x
 |[],_,_=>rfl
 |(n,v)::r,m,h=>by
  unfold bindC;rw[V3 fun w hw=>h w (gr _ hw)];split
  .rfl
  .have:x≠n:=by rintro rfl;exact h v im
   simp[this]
def V4{kindOf:Str->Option NameKind}{x:Str}{v:Value}:∀{P:`ô}{vs:`Ì}{i:Nat}{m:`þ},P.Nodup->P[i]? =some x->vs[i]? =some v->kindOf x=some .local->
 bindL kindOf (P.zip vs) m x=some v
 |[],_,_,_,_,h,_,_=>by simp at h
 |_::_,[],_,_,_,_,h,_=>by simp at h
 |p::P,w::vs,0,m,nd,h1,h2,hk=>by
  simp at h1 h2;subst h1;subst h2;show bindL kindOf ((p,w)::P.zip vs) m p=_;unfold bindL;rw[V5 fun v hv=>(jB.mp nd).1 (K3 hv).1,ay hk];simp
 |p::P,w::vs,i+1,m,nd,h1,h2,hk=>by
  show bindL kindOf ((p,w)::P.zip vs) m x=_;unfold bindL;exact V4 (i:=i) (jB.mp nd).2 (0.23) (by simpa using h2) hk
def V2{kindOf:Str->Option NameKind}{x:Str}{v:Value}:∀{P:`ô}{vs:`Ì}{i:Nat}{m:`þ},P.Nodup->P[i]? =some x->vs[i]? =some v->kindOf x≠some .local->
 bindC kindOf (P.zip vs) m x=some v
 |[],_,_,_,_,h,_,_=>by simp at h
 |_::_,[],_,_,_,_,h,_=>by simp at h
 |p::P,w::vs,0,m,nd,h1,h2,hk=>by
  simp at h1 h2;subst h1;subst h2;show bindC kindOf ((p,w)::P.zip vs) m p=_;unfold bindC;rw[V3 fun v hv=>(jB.mp nd).1 (K3 hv).1,aq hk];simp
 |p::P,w::vs,i+1,m,nd,h1,h2,hk=>by
  show bindC kindOf ((p,w)::P.zip vs) m x=_;unfold bindC;exact V2 (i:=i) (jB.mp nd).2 (0.23) (by simpa using h2) hk
def start(N:`ô)(vs:List V):St:=vs.map some++replicate (N.length-`õ) none
def tj(CX:pQ)(P:`Ô)(w:World)(K:Frag)(mg:`þ)(base:Heap)(N:`ô)(qual:Str)(scope:Scope)(f:Addr)(cd:Value)(A:Around)(bK:`_W)(s:Shared)(H:Hp)(E:XK):Cx where
 prog:=P
 w:=w
 K:=K
 mg:=mg
 base:=base
 A:=A.deeper (0.48)
 N:=N
 h_:=s
 sM:=H
 am:=0.48
 bK:=bK
 stack:=envOfC qual scope s.heap.objs.size f cd::bK
 ex:=[]
 iJ:=true
 fn:=fun _=>true
 pn:=[]
 xe:=fun e s'=>wpAny '5' (A.deeper (0.48)) (leaving (0.48) e) (fun _ Sj=>CX bK H s E e Sj) (fun e' Sj=>CX bK H s E e' Sj) s'
def Wi{sc:Scope}{n:Nat}{x:Str}(h:sc.names.lookup x=some .cell):∃c,(cellsFrom n sc.names []).lookup x=some c:=by
 have q:=PySem.W.cellsFrom_some sc.names n [] (.inl h);exact aif.mp q
def amg{CX:pQ}{P:`Ô}{w:World}{K:Frag}{mg:`þ}{base:Heap}{N ps:`ô}{qual:Str}{scope:Scope}{f:Addr}{cd:Value}{A:Around}{bK:`_W}{s s1:Shared}{H:Hp}{E:XK}{us:`Ì}{vs:List V}
 (S:pW N ps scope) (hd:0.28) (e0:qQ P w K mg base A bK s H) (hl:`õ=`_z) (r:bx vs us)
 (x:InCallC s s.heap.objs.size (bindL (0.48).kindOf (ps.zip us) fun _=>none) (cellsFrom `Ğ scope.names []) (bindC (0.48).kindOf (ps.zip us) fun _=>none) s1):
 az (tj CX P w K mg base N qual scope f cd A bK s H E) [] (start N vs) H s1:=by
 have eW:`_z<=N.length:=by have:=fv List.length S.pre;rw[gl]at this;omega
 obtain⟨h1,tk,rfl,hk⟩:=x.done;have sn:∀b:Addr,b∉(tj CX P w K mg base N qual scope f cd A bK s H E).ex:=fun b z=>absurd (show b∈([]:List Addr)from z) `Ç;refine⟨⟨e0.mod,S.kind,rfl,rfl,bp _,fun y z c h1 h2=>?_,9.4,fun y c _ h=>?_,fun _=>hd,Around.frames_deeper e0.frames,.inr `_x,2.45,e0.bs,e0.kF,fun b _ _=>sn b,2.45,e0.kM,e0.rG⟩,
  rfl,e0.fu,Un.kept hk,⟨_,x.toInCall.ns,fun i y v h1 h2 h3=>?_⟩,fun y c h=>⟨_,x.cell y c h⟩,e0.aO.fresh (bp _),fun y c h=>?_,fun p hp=>absurd (show p∈([]:List 0.33)from hp) `Ç,e0.aO.kept hk,?_⟩
 .exact name_of_addr x.apart (io h1) (io h2)
 .show `_cc
  .exact Wi hy
  .exact absurd rfl (S.ap' _ (io hy))
 .exact jV (x.above y c (io h))
 .have hi:i<`õ:=by
   unfold start at h2;by_cases hi:i<`õ
   .exact hi
   .rw[oz (by simpa using hi)]at h2;rw[List.getElem?_replicate]at h2;split at h2<;>cases h2
  have ha:vs[i]? =some v:=by
   unfold start at h2;rw[mh (by simpa using hi),cG]at h2;cases e:vs[i]? with
   |none=>rw[e]at h2;cases h2
   |some a=>rw[e]at h2;cases h2;rfl
  obtain⟨u,hu,rv⟩:=r.get ha;have hp:ps[i]? =some y:=by
   rw[<-S.pre,Dx (by omega)];exact h1
  have zu:ps.Nodup:=by rw[<-S.pre];exact S.nd.sublist (List.take_sublist _ _)
  refine⟨u,rv,?_⟩;rcases S.Co y (cN hp)with k|k
  .exact .inl ⟨k,V4 zu hp hu k⟩
  .obtain⟨c,e⟩:=Wi (n:=2.4) k;refine .inr ⟨.inl k,c,e,?_⟩;have q:=x.cell y c e;rw[V2 zu hp hu (by show scope.names.lookup y≠_;rw[k];decide)]at q;exact q
 .exact e0.aO.fresh (jV (x.above y c (io h)))
 .unfold start;show _=N.length;rw[dc,aJ,List.length_replicate];omega
def YS{CX:pQ}{P:`Ô}{w:World}{K:Frag}{mg:`þ}{base:Heap}{k:Nat}{f:Addr}{name qual:Str}{params:Arguments}{body:List Stmt}{scope:Scope}{dV kV doc pm dk ct oc:Value}{an od:5.7}
 {kW:1.40} {N ps:`ô} {sp:Sp} (lk:K.lookup f=some ⟨oc,od,.func (fnOf name qual params body scope dV kV doc pm an dk ct),kW⟩) (j3:codeIn K dk qual=true) (S:pW N ps scope)
 (len:3.26)
 (oX:∀(A:Around)(bK:`_W)(s:Shared)(H:Hp)(vs:List V)(Q:VK)(E:XK),cH k (A.deeper (envOfC qual scope s.heap.objs.size f dk))->sp vs H Q E->
  ∃t,jD 3.11 body t/\t {nx:=fun _ H'=>Q .aX H',rt:=Q} (start N vs) H):
 f9 P w K mg base CX (k+1) f (fnOf name qual params body scope dV kV doc pm an dk ct) ps sp:=by
 refine⟨len,fun A bK s H args us vs Q E hr e0 hb r qy=>?_⟩;have hl:=len _ _ _ _ qy;have KX:K.In s.heap:=e0.mod.vR.keeps fun b o e=>(e0.bs b o e).1;have P7:s.heap.NoLimit:=e0.mod.nolimit.keeps fun b o e=>(e0.bs b o e).1;have alK:∀y∈ps.zip us,scope.names.lookup y.1=some .local\/(scope.names.lookup y.1=some .cell/\((cellsFrom `Ğ scope.names []).lookup y.1).isSome=true):=fun⟨n,v⟩ hy=>by
  rcases S.Co n (K3 hy).1 with q|q
  .exact .inl q
  .exact .inr ⟨q,PySem.W.cellsFrom_some _ _ _ (.inl q)⟩
 refine codeAny_call_function hr.depth (KX _ _ lk) rfl S.co S.gen rfl (PySem.W.codeRec_of KX j3) (hb _ _ _ _ ?_);refine wpAny_newFunctionEnv_cells S.kind alK fun am he s1 x=>?_;subst he;refine⟨P7.keeps x.toInCall.keep,codeAny_func ?_⟩;obtain⟨t,ht,hq⟩:=oX A bK s H vs Q E (hr.deeper _) qy;have I:az 3.11 [] (start N vs) H s1:=amg S hr.hd e0 hl r x;refine kD (ht [] s1 (start N vs) H _ I hq) (fun fl s' hs=>?_) fun e s' hs=>hs;have fin:∀{aS:St}{H':Hp}{v:V}{u:Value},az 3.11 [] aS H' s'->bA v u->Q v H'->CE bK P w H s Q u s':=
  fun{aS H' v u} J rv q=>⟨v,H',J.os,J.fu,J.base,J.aO,rv,q⟩
 cases fl with
 |ret u=>
  obtain⟨v,aS,H',J,rv,q⟩:=hs;exact fin J rv q
 |next=>
  obtain⟨aS,H',J,q⟩:=hs;exact fin (v:=V.aX) (u:=Value.none) J rfl q
 |brk=>
  obtain⟨_,_,_,q⟩:=hs;exact `_m q
 |cont=>
  obtain⟨_,_,_,q⟩:=hs;exact `_m q
section
variable{X:Cx}{x:Str}{p pos:Pos}{e:Expr}{es:List Expr}{t:TA}{id T:String}{r:List V->Hp->VK->Prop}
def dh(r:1.41)(t:TA):TE:=fun σ H Q=>t σ H fun vs H1=>r vs H1 Q
def gz(hc:l9 X 4.6 r)(hg:Gl X x)(hm:X.mg x=none)(hv:bootBuiltins x=some 4.6)(ha:'3')(hn:x≠"__name__":=by decide)(hJ:`_u:=by decide)
 (he:`ψ:=by rfl) (eW:('-').any (·.1)=false:=by rfl):PE X 0.8 (dh r t):=by
 show `_af;refine qb (si I hg hm hv ?_ hn hJ);exact PyProof.Rows.callWith_builtin1 4.31 he eW
def Q9(hc:l9 X (.type T) r)(hg:Gl X x)(hm:X.mg x=none)(hv:bootBuiltins x=some (.type T))(ha:'3')(hn:x≠"__name__":=by decide)(hJ:`_u:=by decide)
 (he:`ψ:=by rfl) (eW:('-').any (·.1)=false:=by rfl):PE X 0.8 (dh r t):=by
 show `_af;refine qb (si I hg hm hv ?_ hn hJ);exact yf 4.31 he eW
end
end L2
namespace HT
open PySem PyProof.Rows
section
variable{prog:Program}{w:World}{A:Around}{E:Value->Shared->Prop}{s:Shared}
def jQ(n d:Nat):Option Int->Nat
 |none=>d
 |some v=>if v<0 then(v+(n:Int)).toNat else min v.toNat n
def as3(n d:Nat):jQ n d none=d:=rfl
def CL(n d k:Nat):jQ n d (some (k:Int))=min k n:=by
 show(if(k:Int)<0 then((k:Int)+(n:Int)).toNat else min (k:Int).toNat n)=min k n;rw[aq (by omega),eB]
end
end HT
namespace L2
open PySem PySem.Spec PyProof.Rows
abbrev TO:=St->Hp->(0.71)->Prop
def PO(X:Cx)(e:Option Expr)(t:TO):Prop:=
 ∀(ae:`Ï)(s:Shared)(σ:St)(H:Hp)(Q:0.71),az X ae σ H s->t σ H Q->
  wpAny `Î X.A (evalPart e X.am) (fun u s'=>∃o H',az X ae σ H' s'/\IsPart u o/\Q o H') X.xe s
def C6:TO:=fun _ H Q=>Q none H
def pK(t:TE):TO:=fun σ H Q=>t σ H fun x H1=>∃i,x=.int i/\Q (some i) H1
section
variable{X:Cx}{e:Expr}{te:TE}{lo hi:Option Expr}{tl th:TO}{pos p2:Pos}
def Rf:PO X none C6:=by
 show `_af;rw[evalPart_none];exact br ⟨none,H,I,.none,h⟩
def wa(h:PE X e te):PO X (some e) (pK te):=by
 intro ae s σ H Q I hw;rw[evalPart_some];refine a0 (h ae s σ H _ I hw) fun u s1 ⟨x,H1,I1,r1,q1⟩=>?_;obtain⟨i,rfl,q⟩:=q1;obtain⟨t,rfl⟩:=r1;exact⟨some i,H1,I1,.int i t,q⟩
def VC(X:Cx)(r:1.85):Prop:=
 ∀(ae:`Ï)(s:Shared)(σ:St)(H:Hp)(x:V)(v vl vu:Value)(lo hi:Option Int)(sl:Addr)(Q:VK),az X ae σ H s->bA x v->s.heap.IsSliceOf sl vl vu .none->IsPart vl lo->IsPart vu hi->r x lo hi H Q->
  ∃T id,typeLookup (.type T) "__getitem__"=pure (some 4.6)/\s.TypeIs v T/\wpAny `Î X.A (getItem v (.ref sl)) `_v X.xe s
def uv(r:1.85)(te:TE)(tl th:TO):TE:=fun σ H Q=>4.49
def Cr{r:1.85}(hr:VC X r)(he:PE X e te)(hl:PO X lo tl)(hu:PO X hi th):PE X (.Subscript e (.Slice lo hi none p2) pos) (uv r te tl th):=by
 show `_af;refine Subscript_ (a0 '1' fun v s1 ⟨x,H1,I1,r1,q1⟩=>?_);refine wpAny_Slice (a0 (hl ae s1 σ H1 _ I1 q1) fun vl s2 ⟨l,H2,I2,pl,q2⟩=>a0 (hu ae s2 σ H2 _ I2 q2) fun vu s3 ⟨u,H3,I3,pu,q3⟩=>?_);rw[evalPart_none];refine br ?_;have I4:az X ae σ H3 {s3 with heap:=s3.heap.push {cls:=.type "slice",data:=.fields #[vl,vu,.none]}}:=I3.kept (t':=s3.toks) fun b ob q=>cC _ q;obtain⟨T,id,hT,ht,hg⟩:=hr ae {s3 with heap:=s3.heap.push {cls:=.type "slice",data:=.fields #[vl,vu,.none]}} σ H3 x v vl vu l u s3.heap.objs.size Q I4 r1 (Heap.IsSliceOf.new ..) pl pu q3;show wpAny `Î X.A (subscriptTail e (.Slice lo hi none p2) v (.ref 0.24)) `_v X.xe {s3 with heap:=s3.heap.push {cls:=.type "slice",data:=.fields #[vl,vu,.none]}};exact tail_any (ops:=[.ref 0.24,v]) ht hT hg 9.5
def nv(xs:List V)(lo hi:Option Int):List V:=(xs.drop (HT.jQ xs.length 0 lo)).take (HT.jQ xs.length xs.length hi-HT.jQ xs.length 0 lo)
def ajG(xs:List V)(lo hi:Option Int):(nv xs lo hi).length<=`Ã:=by
 unfold nv;rw[gl,qY];omega
end
def tK(n:Nat)(i:Int):Option Nat:=if 0<=i then(if i<n then some i.toNat else none)else if -(n:Int)<=i then some (i+n).toNat else none
def qc{α:Type}(xs:`ċ)(i:Int):Option α:=(tK xs.length i).bind fun j=>xs[j]?
def ami{n:Nat}{i:Int}{j:Nat}(h:tK n i=some j):seqIndex? i n=some j/\j<n/\-(n:Int)<=i/\i<n:=by
 unfold tK at h;by_cases h0:0<=i
 .rw[ay h0]at h;by_cases h1:i<n
  .rw[ay h1]at h;have e:i.toNat=j:=bZ h;exact⟨by rw[seqIndex_of h0 h1,e],`Å,`Å,h1⟩
  .rw[aq h1]at h;cases h
 .rw[aq h0]at h;by_cases h1:-(n:Int)<=i
  .rw[ay h1]at h;have e:(i+n).toNat=j:=bZ h;exact⟨by rw[seqIndex_neg (by omega) h1,e],`Å,h1,`Å⟩
  .rw[aq h1]at h;cases h
def VR{α:Type}{xs:`ċ}{i:Int}{v:α}(h:qc xs i=some v):∃j,seqIndex? i `Ã=some j/\xs[j]? =some v/\j<`Ã/\-(`Ã:Int)<=i/\i<`Ã:=by
 unfold qc at h;cases e:tK xs.length i with
 |none=>rw[e]at h;cases h
 |some j=>
  rw[e]at h;obtain⟨h1,h2,h3,h4⟩:=ami e;exact⟨j,h1,h,h2,h3,h4⟩
def VS{α:Type}{xs:`ċ}{j:Nat}{v:α}(h:xs[j]? =some v):qc xs (j:Int)=some v:=by
 have hj:j<`Ã:=(dM.mp h).1;have e:tK xs.length (j:Int)=some j:=by
  unfold tK;rw[ay (by omega),ay (by omega)];simp
 unfold qc;rw[e];exact h
def aiy{α:Type}(xs:`ċ)(v:α):qc (xs++[v]) (-1)=some v:=by
 have hl:(xs++[v]).length=`Ã+1:=`Õ;have e:tK (xs++[v]).length (-1)=some `Ã:=by
  unfold tK;rw[hl,aq (by decide),ay (by omega)];congr 1;omega
 unfold qc;rw[e];show(xs++[v])[`Ã]? =some v;simp
def aig(b:Expr):Prop:=∀o i,subscripted b false o i=operate [o,i] (getItem o i)
def KO(X:Cx)(r:R2):Prop:=
 ∀(value slice:Expr)(ae:`Ï)(s:Shared)(σ:St)(H:Hp)(x y:V)(v u:Value)(Q:VK),az X ae σ H s->bA x v->bA y u->r x y H Q->
  subscripted slice false v u=operate [v,u] (getItem v u)->wpAny `Î X.A (subscriptTail value slice v u) `_v X.xe s
def MtR(X:Cx)(id:String)(r:0.65):Prop:=
 ∀(ae:`Ï)(s:Shared)(σ:St)(H:Hp)(x:V)(xs:List V)(v:Value)(us:`Ì)(Q:VK),az X ae σ H s->bA x v->bx xs us->r x xs H Q->
  wpAny `Î X.A (call 4.6 (v::us)) `_v X.xe s
section
variable{X:Cx}{a b:Expr}{ta tb:TE}{pos:Pos}
def nY{r:R2}(hr:KO X r)(ha:'9')(hb:PE X b tb)(hs:aig b):PE X (.Subscript a b pos) (aP r ta tb):=by
 show `_af;exact Subscript_ (Mc ha hb I h fun v u s2 x y H2 I2 rx ry q=>hr a b ae s2 σ H2 x y v u Q I2 rx ry q (hs _ _))
def n4(K:Frag):R2:=fun x y H Q=>∃p xs i v,x=.ref p/\y=.int i/\aG K H p xs/\qc xs i=some v/\Q v H
def zH(K:Frag):R2:=fun x y H Q=>∃p xs i v,x=.ref p/\y=.int i/\bF K H p xs/\qc xs i=some v/\Q v H
def rZ:KO X (n4 X.K):=by
 show `_br;obtain⟨its,r,pl,hz⟩:=I.list hq;show `_bd;by_cases h0:0<=i
 .have hj:i.toNat=j:=by
   rw[seqIndex_of h0 h5]at h1;exact bZ h1
  exact item_listR pl.isList h0 `È (by rw[hj];simpa using ew) fin hs
 .have hj:(i+(its.toArray.size:Int)).toNat=j:=by
   rw[seqIndex_neg (by omega) h4]at h1;rw[fP,<-hl];exact bZ h1
  exact subscriptTail_builtinR (x:=w) pl.isList.typeIs slot_list_getitem.lookup
   (wpAny_getItem_list_neg (Q:=fun r s'=>r=w/\EP X ae σ Q r s') pl.isList `È (by rw[fP]<;>omega) `È (by rw[hj];simpa using ew) ⟨rfl,fin⟩) hs
def PL:KO X (zH X.K):=by
 show `_br;obtain⟨its,r,pl,hz⟩:=I.tuple hq;show `_bd;exact subscriptTail_builtinR (x:=w) pl.typeIs slot_tuple_getitem.lookup
  (getItem_tuple (j:=j) (Q:=fun r s'=>r=w/\EP X ae σ Q r s') pl `È `È (by rw[fP,<-hl];exact h1) (by simpa using ew) ⟨rfl,fin⟩) hs
def auf(lo hi:Option Int)(n:Nat):(sliceBounds lo hi none n).1=((HT.jQ n 0 lo:Nat):Int)/\(sliceBounds lo hi none n).2.1=((HT.jQ n n hi:Nat):Int)/\(sliceBounds lo hi none n).2.2=1:=by
 refine⟨?_,?_,rfl⟩
 .cases lo with
  |none=>simp[sliceBounds,HT.jQ]
  |some i=>
   simp only[sliceBounds,HT.jQ,Option.getD_none,show(1:Int)>0 by decide,nI];by_cases h:i<0
   .simp only[h,nI]<;>omega
   .simp only[h,pq]<;>omega
 .cases hi with
  |none=>simp[sliceBounds,HT.jQ]
  |some i=>
   simp only[sliceBounds,HT.jQ,Option.getD_none,show(1:Int)>0 by decide,nI];by_cases h:i<0
   .simp only[h,nI]<;>omega
   .simp only[h,pq]<;>omega
def aue(its:`Ì)(lo hi:Option Int):slicePick its.toArray lo hi none=((its.drop (HT.jQ its.length 0 lo)).take (HT.jQ its.length its.length hi-HT.jQ its.length 0 lo)).toArray:=by
 obtain⟨h1,h2,h3⟩:=auf lo hi its.toArray.size;unfold slicePick;rw[h1,h2,h3];simp only[sliceRange_one,pick_run,fP]<;>rfl
def t6(K:Frag):V->Option Int->Option Int->Hp->VK->Prop:=fun x lo hi H Q=>∃a xs,x=.ref a/\aG K H a xs/\∀p,H p=none->Q `Ü (af H p (.ah (nv xs lo hi)))
def CQ:VC X (t6 X.K):=by
 intro ae s σ H x v vl vu lo hi sl Q I rx hs pl pu h;obtain⟨a,xs,rfl,hx,q⟩:=h;cases rx;obtain⟨its,r,ht,hz⟩:=I.list hx;have hlen:=r.length;refine⟨"list",_,slot_list_getitem.lookup,ht.isList.typeIs,?_⟩;refine wpAny_getItem_list_slice ht.isList hs pl pu .none `Ç ?_ (by rw[fP]<;>omega);rw[aue,<-hlen];refine⟨.ref `Í,_,I.jM (t':=s.toks) (o:=.ah (nv xs lo hi)) (fun b ob q=>cC _ q) (bp _) ?_,rfl,q _ ('?')⟩;exact⟨bq (ajG xs lo hi) hz,_,0,(r.drop (HT.jQ xs.length 0 lo)).take (HT.jQ xs.length xs.length hi-HT.jQ xs.length 0 lo),`Ė⟩
def rF:V->Bool
 |.aX=>true
 |.bl _=>true
 |.int _=>true
 |.str _=>true
 |_=>false
def rC:V->V->Bool
 |.aX,.aX=>true
 |.bl a,.bl b=>a==b
 |.bl a,.int b=>(if a then 1 else 0)==b
 |.int a,.bl b=>a==(if b then 1 else 0)
 |.int a,.int b=>a==b
 |.str a,.str b=>a==b
 |_,_=>false
def akY{A:Around}{s:Shared}{y x:V}{u v:Value}(ry:bA y u)(rx:bA x v)(fy:rF y=true)(fx:rF x=true):SeqAt.EqAt A s u v (rC y x):=by
 cases y with
 |aX=>
  cases ry;cases x with
  |aX=>cases rx;exact SeqAt.EqAt.same _
  |bl b=>cases rx;exact SeqAt.EqAt.none_bool b
  |int b=>obtain⟨t,rfl⟩:=rx;exact SeqAt.EqAt.none_int b t
  |str b=>obtain⟨t,rfl⟩:=rx;exact SeqAt.EqAt.none_str b t
  |_=>exact 1.98
 |bl a=>
  cases ry;cases x with
  |aX=>cases rx;exact SeqAt.EqAt.bool_none a
  |bl b=>cases rx;exact SeqAt.EqAt.bool_bool a b
  |int b=>obtain⟨t,rfl⟩:=rx;exact SeqAt.EqAt.bool_int a b t
  |str b=>obtain⟨t,rfl⟩:=rx;exact SeqAt.EqAt.bool_str a b t
  |_=>exact 1.98
 |int a=>
  obtain⟨t',rfl⟩:=ry;cases x with
  |aX=>cases rx;exact SeqAt.EqAt.int_none a t'
  |bl b=>cases rx;exact SeqAt.EqAt.int_bool a t' b
  |int b=>obtain⟨t,rfl⟩:=rx;exact SeqAt.EqAt.int_int a t' b t
  |str b=>obtain⟨t,rfl⟩:=rx;exact SeqAt.EqAt.int_str a t' b t
  |_=>exact 1.98
 |str a=>
  obtain⟨t',rfl⟩:=ry;cases x with
  |aX=>cases rx;exact SeqAt.EqAt.str_none a t'
  |bl b=>cases rx;exact SeqAt.EqAt.str_bool a t' b
  |int b=>obtain⟨t,rfl⟩:=rx;exact SeqAt.EqAt.str_int a t' b t
  |str b=>obtain⟨t,rfl⟩:=rx;exact SeqAt.EqAt.str_str a t' b t
  |_=>exact 1.98
 |_=>exact absurd (show false=true from fy) eM
def kL(x:V)(u:Value):Bool:=match u with
 |.none=>rC .aX x
 |.bool b=>rC (.bl b) x
 |.int i _=>rC `_A x
 |.str z _=>rC (.str z) x
 |_=>false
def Yz{x y:V}{u:Value}(r:bA y u)(f:rF y=true):kL x u=rC y x:=by
 cases y with
 |aX=>cases r;rfl
 |bl b=>cases r;rfl
 |int i=>obtain⟨t,rfl⟩:=r;rfl
 |str z=>obtain⟨t,rfl⟩:=r;rfl
 |_=>exact absurd (show false=true from f) eM
def AF{x:V}:∀{xs:List V}{us:`Ì},bx xs us->xs.all rF=true->us.any (kL x)=xs.any fun y=>rC y x
 |_,_,.nil,_=>rfl
 |y::xs,u::us,.cons r t,f=>by
  rw[m9,f7]at f;rw[k_,k_,Yz r f.1,AF t f.2]
def BX{A:Around}{s:Shared}{x:V}{v:Value}(rx:bA x v)(fx:rF x=true):∀{xs:List V}{us:`Ì},bx xs us->xs.all rF=true->∀u∈us,SeqAt.EqAt A s u v (kL x u)
 |_,_,.nil,_=>fun u hu=>by cases hu
 |y::xs,u::us,.cons r t,f=>fun u' hu=>by
  rw[m9,f7]at f;rcases bE.mp hu with rfl|hu
  .rw[Yz r f.1];exact akY r rx f.1 fx
  .exact BX rx fx t f.2 u' hu
def GD(x:V)(xs:List V):Bool:=xs.any fun y=>rC y x
def qE(K:Frag)(neg:Bool):R2:=fun x y H Q=>∃p xs,y=.ref p/\(aG K H p xs\/bF K H p xs)/\rF x=true/\xs.all rF=true/\Q (.bl (if neg then !GD x xs else GD x xs)) H
def aaG:fq X (compareOp .In) (qE X.K false):=by
 show `_ah;obtain⟨p,xs,rfl,hq,fx,fs,q⟩:=h;cases ry;rcases hq with hq|hq
 .obtain⟨its,r,pl,hz⟩:=I.list hq;refine SeqAt.in_listAt (kL x) pl.isList 1.71 ⟨.bl _,H,I,rfl,?_⟩;show `_aw
 .obtain⟨its,r,pl,hz⟩:=I.tuple hq;refine SeqAt.in_tupleAt (kL x) pl 1.71 ⟨.bl _,H,I,rfl,?_⟩;show `_aw
def Q2:fq X (compareOp .NotIn) (qE X.K true):=by
 show `_ah;obtain⟨p,xs,rfl,hq,fx,fs,q⟩:=h;cases ry;rcases hq with hq|hq
 .obtain⟨its,r,pl,hz⟩:=I.list hq;refine SeqAt.notIn_listAt (kL x) pl.isList 1.71 ⟨.bl _,H,I,rfl,?_⟩;show `_aw
 .obtain⟨its,r,pl,hz⟩:=I.tuple hq;refine SeqAt.notIn_tupleAt (kL x) pl 1.71 ⟨.bl _,H,I,rfl,?_⟩;show `_aw
def iI:l9 X (.builtin "len") (fun xs H Q=>∃p ys,xs=`Ċ/\(aG X.K H p ys\/bF X.K H p ys)/\Q (.int `ø) H):=by
 intro ae s σ H xs us Q I r h;obtain⟨p,ys,rfl,hq,q⟩:=h;obtain⟨u,rfl,rx⟩:=zW r;cases rx;have hn:=GW;rcases hq with hq|hq
 .obtain⟨its,r',pl,hz⟩:=I.list hq;have hlen:=r'.length;exact Calls.call_len_list pl.isList (by simp only[fP]<;>omega) ⟨.int `ø,H,I.ii _,⟨s.toks+1,by rw[fP,hlen]⟩,q⟩
 .obtain⟨its,r',pl,hz⟩:=I.tuple hq;have hlen:=r'.length;exact len_tuple pl (by simp only[fP]<;>omega) ⟨.int `ø,H,I.ii _,⟨s.toks+1,by rw[fP,hlen]⟩,q⟩
def Tp(K:Frag)(T:String)(x:V)(H:Hp):Prop:=match x with
 |.str _=>T="str"
 |.int _=>T="int"
 |.ref p=>(T="list"/\∃xs,aG K H p xs)\/(T="tuple"/\∃o,K.lookup p=some o/\o.cls=.type "tuple"/\o.dict=none)\/
  (T="dict"/\((∃kvs,H p=some `Þ)\/∃kvs,H p=some (.dT kvs)))\/(T="set"/\∃S n,H p=some (.set S n))
 |_=>False
def auU{ae:`Ï}{σ:St}{H:Hp}{s:Shared}{T:String}{x:V}{v:Value}(I:`Ë)(r:bA x v)(ty:Tp X.K T x H):
 s.TypeIs v T/\∀a,v=.ref a->∃ob,s.heap.get? a=some ob/\ob.dict=none:=by
 cases x with
 |str z=>
  show `_ci;cases(show T="str" from ty);exact⟨typeIs_str s z t,fun _ e=>nomatch e⟩
 |int i=>
  show `_ci;cases(show T="int" from ty);exact⟨typeIs_int s i t,fun _ e=>nomatch e⟩
 |ref p=>
  cases r;rcases ty with⟨rfl,xs,hq⟩|⟨rfl,o,hk,hc,hd⟩|⟨rfl,hk⟩|⟨rfl,S,n,hk⟩
  .obtain⟨its,_,pl,_⟩:=I.list hq;refine⟨pl.isList.typeIs,fun a e=>?_⟩;cases e;obtain⟨o,n,e,c,hd,_⟩:=pl;exact⟨o,e,hd⟩
  .refine⟨⟨o,I.hZ p o hk,hc⟩,fun a e=>?_⟩;cases e;exact⟨o,I.hZ _ o hk,hd⟩
  .have z:∃o,s.heap.get? p=some o/\5.8:=by
    rcases hk with⟨kvs,hk⟩|⟨kvs,hk⟩
    .obtain⟨_,_,_,_,o,_,_,e,ex,_⟩:=I.aO p _ hk;exact⟨o,e,ex⟩
    .obtain⟨_,_,_,_,o,_,_,e,ex,_⟩:=I.aO p _ hk;exact⟨o,e,ex⟩
   obtain⟨o,e,ex⟩:=z;refine⟨⟨o,e,ex.1⟩,fun a e2=>?_⟩;cases e2;exact⟨o,e,ex.2.1⟩
  .obtain⟨o,_,_,_,e,ex,_⟩:=I.aO p _ hk;refine⟨⟨o,e,ex.1⟩,fun a e2=>?_⟩;cases e2;exact⟨o,e,ex.2.1⟩
 |_=>exact `_m ty
def i3(K:Frag)(T:String)(r:0.65)(to:TE)(t:TA):TE:=fun σ H Q=>to σ H fun x H1=>Tp K T x H1/\t σ H1 fun xs H2=>r x xs H2 Q
variable{o e:Expr}{es:List Expr}{to:TE}{t:TA}{name:Str}{fQ gd:Pos}{T id:String}{r:V->List V->Hp->VK->Prop}
def j9(pa:PlainAttrs T)(kj:Slot T name id)(hty:typeOf 4.6=pure (.type "method_descriptor"))(hm:MtR X id r)(ho:PE X o to)(ha:'3')
 (A9:attributeBase o name X.am (eval o X.am)=eval o X.am:=by rfl)
 (alE:((backTo gd (starEach (e::es) X.am)).all (fun x=>!x.1)&&(backToKw gd (keywordEach [] X.am)).all (fun x=>x.1.isSome)
  &&decide ((e::es).length+([]:List Keyword).length+(if([]:List Keyword).isEmpty then 0 else 1)<30))=true:=by rfl)
 (Bo:(fQ.endLine==gd.line)=true:=by rfl) (hs:`ψ:=by rfl) (alX:(backTo gd (starEach es X.am)).any (·.1)=false:=by rfl):
 PE X (.Call (.Attribute o name fQ) (e::es) [] gd) (i3 X.K T r to t):=by
 show `_af;refine wpAny_Call_method_late A9 alE Bo rfl (a0 0.70 fun v s1 ⟨x,H1,I1,r1,ty,q1⟩=>?_);obtain⟨h1,h2⟩:=auU I1 r1 ty;refine⟨T,id,pa,kj,hty,h1,h2,?_⟩;have hA:=ha gd ae s1 σ H1 _ I1 q1;rw[hs]at hA⊢;refine Vt (by show(false||(backTo gd (starEach es X.am)).any (·.1))=false;rw[alX]<;>rfl) (Vu ?_);exact a0 hA fun us s2 ⟨vs,H2,I2,r2,q2⟩=>hm ae s2 σ H2 x vs v us Q I2 r1 r2 q2
end
def Ld(X:Cx)(id:String)(r:0.65):Prop:=
 ∀(ae:`Ï)(s:Shared)(σ:St)(H:Hp)(x:V)(xs:List V)(v:Value)(us:`Ì)(Q:VK),az X ae σ H s->bA x v->bx xs us->r x xs H Q->
  wpAny `Î X.A (call 4.6 (v::us)) `_v X.xe s
def bx.one:∀{x:V}{us:`Ì},bx [x] us->∃u,us=[u]/\bA x u
 |_,_,.cons r .nil=>⟨_,rfl,r⟩
section
variable{X:Cx}{ae:List (Addr×Obj)}{σ:St}{H:Hp}{s:Shared}{l b:Addr}{xs ys zs:List V}
def az.Qa{its its':`Ì}{n:Nat}{f:Array Value->Array Value}{t':Nat}(I:`Ë)(hH:H l=some `Ē)
 (e:s.heap.get? l=some {cls:=.type "list",data:=.seq its.toArray n}) (hf:f `Ġ=its'.toArray) (hv:bx ys its') (hz:`ø<=sizeLine):
 az X ae σ (af H l (.ah ys)) {s with heap:=s.heap.update l (Obj.mapSeq f),toks:=t'}:=by
 have q:=PySem.IsL.update e f;rw[hf]at q;refine I.sJ (x:=l) (e:=l) (by rw[hH];exact trivial) `Λ (fun b' u hb hu=>(Heap.get?_update_other s.heap (Obj.mapSeq f) (aL hb)).trans hu) ⟨_,q⟩ ?_;exact⟨hz,its',_,hv,q⟩
def az.aox{its:`Ì}{t':Nat}(I:`Ë)(hv:bx ys its)(hz:`ø<=sizeLine):
 az X ae σ (af H s.heap.objs.size (.ah ys)) {s with heap:=s.heap.push {cls:=.type "list",data:=.seq its.toArray},toks:=t'}:=
 I.jM (fun _ _ q=>cC _ q) (bp _) ⟨hz,its,0,hv,`Ė⟩
def az.fresh(I:`Ë):H `Í=none:='?'
def az.zp(I:`Ë)(hH:H l=some `Ē):`Ã<=sizeLine/\∃(its:`Ì)(n:Nat),bx xs its/\`Ã=its.length/\s.heap.get? l=some {cls:=.type "list",data:=.seq its.toArray n}:=by
 obtain⟨z,its,n,r,e⟩:=I.aO l _ hH;exact⟨z,its,n,r,r.length,e⟩
def aaA{n:Nat}(h:n<=sizeLine):Builtin.List.listTooLong n=false:=by
 unfold Builtin.List.listTooLong;exact eN `È
end
section
variable{X:Cx}
def mK:V->List V->Hp->VK->Prop:=fun x vs H Q=>∃l xs y,x=.ref l/\vs=[y]/\H l=some `Ē/\`Ã<sizeLine/\Q .aX (af H l (.ah (xs++[y])))
def qB:Ld X "list.append" mK:=by
 intro ae s σ H x vs v us Q I rx rv h;obtain⟨l,xs,y,rfl,rfl,hH,hz,q⟩:=h;cases rx;obtain⟨u,rfl,ru⟩:=rv.one;obtain⟨z,its,n,r,hl,e⟩:=I.zp hH;refine call_meets qa ⟨_,e,rfl⟩ F.entry_list_append (F.args_list_append_2 _ _) (PySem.list_append l its.toArray n u (by rw[fP];omega)) ⟨e,?_⟩;refine⟨.aX,_,I.Qa (its':=its++[u]) hH e `Ç (r.append (.cons ru .nil)) ?_,rfl,q⟩;rw[dc,List.length_singleton];omega
def tZ:V->List V->Hp->VK->Prop:=fun x vs H Q=>∃l b xs zs,x=.ref l/\vs=[.ref b]/\H l=some `Ē/\H b=some (.ah zs)/\`Ã+zs.length<=sizeLine/\Q .aX (af H l (.ah (xs++zs)))
def BY:Ld X "list.extend" tZ:=by
 show `_aN;obtain⟨z2,j6,n2,r2,iQ,e2⟩:=I.zp hB;have hsz:its.toArray.size+j6.toArray.size<=sizeLine:=by rw[fP,fP];omega
 have alQ:¬(!its.toArray.isEmpty&&Builtin.List.listTooLong (its.toArray.size+j6.toArray.size))=true:=by
  rw[aaA hsz,Jq];exact eM
 refine call_meets u5 ⟨_,e,rfl⟩ F.entry_list_extend (F.args_list_extend_2 _ _)
  (AutoSeq1.list_extend_list_list_0 l its.toArray n b j6.toArray n2 alQ (by rw[fP];omega) `È) ⟨e,e2,?_⟩
 refine⟨.aX,_,I.Qa (its':=its++j6) hH e `Ç (r.append r2) ?_,rfl,q⟩;rw[dc];omega
def jf:R2:=fun x y H Q=>∃l b xs zs,x=.ref l/\y=.ref b/\H l=some `Ē/\H b=some (.ah zs)/\`Ã+zs.length<=sizeLine/\∀p,H p=none->Q `Ü (af H p (.ah (xs++zs)))
def kU:fq X (binaryOp .Add) jf:=by
 show `_ah;obtain⟨l,b,xs,zs,rfl,rfl,hH,hB,hz,q⟩:=h;cases rx;cases ry;obtain⟨z,its,n,r,hl,e⟩:=I.zp hH;obtain⟨z2,j6,n2,r2,iQ,e2⟩:=I.zp hB;refine PySem.P.add_list e e2 ?_ (by rw[fP,fP];omega);have ea:`Ġ++j6.toArray=(its++j6).toArray:=`Õ;rw[ea];exact⟨.ref _,_,I.aox (t':=s.toks) (r.append r2) (by rw[dc];omega),rfl,q _ I.fresh⟩
end
section
variable{prog:Program}{w:World}{A:Around}{E:Value->Shared->Prop}{s:Shared}
set_option maxRecDepth 100000 in
end
def bx.ints:∀{ns:`Ê}{us:`Ì},bx `ι us->IntsAre us ns
 |[],us,h=>by
  rw[DC]at h;cases h;exact IntsAre.nil
 |n::ns,us,h=>by
  rw[cY]at h;cases h with
  |cons r t=>
   obtain⟨k,rfl⟩:=r;exact IntsAre.cons n k (bx.ints t)
def afD:∀{us:`Ì}{ns:`Ê},IntsAre us ns->bx `ι us
 |_,_,.nil=>by rw[DC];exact Paired.nil
 |_,_,.cons n t h=>by rw[cY];exact Paired.cons (show bA (V.int n) ('!' n t)from 0.1) (afD h)
def bx.Mh:∀{bs:List Bool}{us:`Ì},bx (bs.map V.bl) us->us=bs.map 0.3
 |[],us,h=>by
  rw[DC]at h;cases h;rfl
 |b::bs,us,h=>by
  rw[cY]at h;cases h with
  |cons r t=>
   cases r;rw[bx.Mh t,cY]
def bx.Ia{a:Addr}{us:`Ì}(r:bx [V.ref a] us):us=[`ä a]:=by
 cases r with
 |cons r t=>
  cases t;cases r;rfl
section
variable{prog:Program}{w:World}{A:Around}{E:Value->Shared->Prop}{s:Shared}{l:Addr}{its:List Value}{ns:List Int}{Q:Value->Shared->Prop}
def auo(hh:0.28)(hl:s.heap.IsList l `Ġ)(hi:IntsAre its ns)
 (h:∀h' tk t',(∀b o,s.heap.get? b=some o->h'.get? b=some o)->Q (.int ns.sum t') {s with heap:=h',toks:=tk}):wpAny `ò A (call (.builtin "sum") [.ref l]) Q E s:=by
 obtain⟨xs,e⟩:=hi.allInts.items;have hn:numsOf (intItems xs).toList=ns:=by rw[<-e];exact hi.numsOf
 rw[nums_intItems]at hn;rw[e]at hl;refine PySem.sum_intListG hh hl fun h' tk t' hk=>?_;have:=h h' tk t' hk;rw[preSum_eq,K9 (by simp),hn];exact this
end
section
variable{X:Cx}
def H_(K:Frag):List V->Hp->VK->Prop:=fun vs H Q=>∃(a:Addr)(ns:`Ê),vs=[V.ref a]/\aG K H a `ι/\Q (.int ns.sum) H
def Ww(hc:`_S):l9 X (.builtin "sum") (H_ X.K):=by
 show `_bv;obtain⟨a,ns,rfl,hs,q⟩:=h;show `_bp;exact auo `_E hl.isList rv.ints fun h' tk t' hk=>⟨.int _,H,I.kept hk,`_o,q⟩
def aug{n:Nat}(h:n<64):n<=sizeLine:=by rw[EW];omega
end
def PJ{prog:`Ô}{w:World}{A:Around}{E:`Ñ}{s:Shared}{l:Addr}{items:'6'}{Q:`Ñ}(hl:s.heap.IsList l items)
 (h:∀ie:Shared,ie={s with heap:=s.heap.push {cls:=.type "list_iterator",data:=.fields #[.ref l,.int 0 0]}}->
  (ie.heap.IsListIter s.heap.objs.size l 0/\ie.heap.IsList l items)->l≠`Í->Q 5.1 ie):wpAny `ò A (pyIter (.ref l)) Q E s:=by
 have cz:l<`Í:=by obtain⟨_,e,_⟩:=hl;exact cI e
 exact LV hl (h _ rfl ⟨1.34,hl.push _⟩ (gb cz))
def afv{prog:`Ô}{w:World}{A:Around}{bs:List Bool}{its:`Ì}(e:its=bs.map 0.3):
 TruthOf prog w A (fun i v=>its.toArray[i]? =some v) (fun i=>bs.getD i false):=fun i v s Q E hv hq=>by
 have rW:its[i]? =some v:=by simpa using hv
 rw[e,cG]at rW;obtain⟨b,hb,rfl⟩:=gc.mp rW;have hg:bs.getD i false=b:=by rw[qX,hb]<;>rfl
 have jr:Q (bs.getD i false) s:=hq;rw[hg]at jr;exact sW jr
def L8:∀bs:List Bool,(`ó bs.length).any (fun i=>bs.getD i false)=bs.any id
 |[]=>rfl
 |b::bs=>by
  rw[cB,uV,k_,An,k_,<-L8 bs]
  all_goals rfl
def VL:∀bs:List Bool,(`ó bs.length).all (fun i=>bs.getD i false)=bs.all id
 |[]=>rfl
 |b::bs=>by
  rw[cB,uV,m9,qV,m9,<-VL bs]
  all_goals rfl
section
variable{X:Cx}
def R5(K:Frag):List V->Hp->VK->Prop:=fun vs H Q=>∃(a:Addr)(bs:List Bool),vs=[V.ref a]/\aG K H a (bs.map V.bl)/\Q (.bl (bs.any id)) H
def RZ(K:Frag):List V->Hp->VK->Prop:=fun vs H Q=>∃(a:Addr)(bs:List Bool),vs=[V.ref a]/\aG K H a (bs.map V.bl)/\Q (.bl (bs.all id)) H
def ajz(hc:`_S):l9 X (.builtin "any") (R5 X.K):=by
 show `_bv;obtain⟨a,bs,rfl,hs,q⟩:=h;show `_bp;have hb:=rv.Mh;refine call_any_walk 3.43;subst e2;refine 4.10;refine 2.83
 .rcases bE.mp kR with e1|kR
  .exact absurd (e1▸cI eo) (oE _)
  .cases kR
 .show 0.3 _=0.3 _;rw[<-L8,hb,fP,aJ]
def ajy(hc:`_S):l9 X (.builtin "all") (RZ X.K):=by
 show `_bv;obtain⟨a,bs,rfl,hs,q⟩:=h;show `_bp;have hb:=rv.Mh;refine call_all_walk 3.43;subst e2;refine 4.10;refine 2.83
 .rcases bE.mp kR with e1|kR
  .exact absurd (e1▸cI eo) (oE _)
  .cases kR
 .show 0.3 _=0.3 _;rw[<-VL,hb,fP,aJ]
end
mutual
inductive Dp (K:Frag)(H:Hp):V->PyData->Prop
 |aX:Dp K H .aX .none
 |bl (b:Bool):Dp K H (.bl b) (.bool b)
 |int (i:Int):Dp K H (.int i) (.int i)
 |str (x:Str):Dp K H (.str x) (.str x)
 |ah {a:Addr} {xs:List V} {ds:List PyData}:aG K H a xs->sK K H xs ds->Dp K H (.ref a) (.list ds)
 |bb {a:Addr} {xs:List V} {ds:List PyData}:bF K H a xs->sK K H xs ds->Dp K H (.ref a) (.tuple ds)
inductive sK (K:Frag)(H:Hp):List V->List PyData->Prop
 |nil:sK K H [] []
 |cons {v:V} {vs:List V} {d:PyData} {ds:List PyData}:Dp K H v d->sK K H vs ds->sK K H (v::vs) (d::ds)
end
section
variable{X:Cx}{ae:List (Addr×Obj)}{σ:St}{H:Hp}{s:Shared}
mutual
def Dp.t7(I:`Ë):∀(d:PyData)(v:V)(u:Value),Dp X.K H v d->bA v u->∃as,Reads s.heap u d as
 |.none,_,_,h,r=>by
  cases h;cases r;exact⟨_,Reads.none⟩
 |.bool b,_,_,h,r=>by
  cases h;cases r;exact⟨_,Reads.bool b⟩
 |.int i,_,_,h,r=>by
  cases h;show `_ci;exact⟨_,Reads.int i t⟩
 |.str x,_,_,h,r=>by
  cases h;show `_ci;exact⟨_,Reads.str x t⟩
 |.list ds,_,_,h,r=>by
  cases h with
  |ah hs ha=>
   cases r;obtain⟨its,rv,⟨o,n,ho,hc,_,hd⟩,_⟩:=I.list hs;obtain⟨as,hr⟩:=Dp.wk I ds _ its ha rv;exact⟨_,Reads.list ho hc hd hr⟩
 |.tuple ds,_,_,h,r=>by
  cases h with
  |bb hs ha=>
   cases r;obtain⟨its,rv,⟨o,ho,hc,n,hd⟩,_⟩:=I.tuple hs;obtain⟨as,hr⟩:=Dp.wk I ds _ its ha rv;exact⟨_,Reads.tuple ho hc hd hr⟩
 |.dict _,_,_,h,_=>by cases h
def Dp.wk(I:`Ë):∀(ds:List PyData)(vs:List V)(us:`Ì),sK X.K H vs ds->bx vs us->∃as,ReadsAll s.heap us ds as
 |[],_,_,h,r=>by
  cases h;cases r;exact⟨_,ReadsAll.nil⟩
 |d::ds,_,_,h,r=>by
  cases h with
  |cons h1 h2=>
   cases r with
   |cons r1 r2=>
    obtain⟨as,q1⟩:=Dp.t7 I d _ _ h1 r1;obtain⟨bs,q2⟩:=Dp.wk I ds _ _ h2 r2;exact⟨_,ReadsAll.cons q1 q2⟩
end
end
section
variable{X:Cx}
def zJ(K:Frag):R2:=fun x y H Q=>∃d e,Dp K H x d/\Dp K H y e/\SeqAt.shaped d=true/\SeqAt.shaped e=true/\Q (.bl (!PyData.eqv d e)) H
def Q1(hu:X.A.units+64<cLine):fq X (compareOp .NotEq) (zJ X.K):=by
 show `_ah;obtain⟨d,e,hd,he,sd,se,q⟩:=h;obtain⟨as,r1⟩:=Dp.t7 I d x v hd rx;obtain⟨bs,r2⟩:=Dp.t7 I e y u he ry;exact SeqAt.compareNe_shaped r1 r2 sd se hu ⟨.bl _,H,I,rfl,q⟩
end
abbrev TC(h:Heap)(c:Addr)(v:Option Value):Prop:=h.IsCell c v
def asV(scope sc:Scope):Scope:=
 {scope with names:=scope.names.map fun(n,k)=>if(k==.free&&sc.kind==.function&&sc.names.lookup n==some .cell)then(n,.cell)else(n,k)}
def iL(cells:`ö):List (Str×NameKind)->List 0.40->List 0.40
 |[],acc=>acc
 |(n,k)::r,acc=>if k==.free then iL cells r ((n,(cells.lookup n).getD 0)::acc)else iL cells r acc
def Wq(am:Env)(f:Str×NameKind->List 0.40->Sem (ForInStep (`ö)))
 (hf:∀n k c,f (n,k) c=if k==.free then(do let a<-cellOf am n;pure (.yield ((n,a)::c)))else pure (.yield c)):
 ∀(names:3.1)(acc:`ö),(∀y∈names,y.2=.free->∃c,am.cells.lookup y.1=some c)->forIn names acc f=pure (iL am.cells names acc)
 |[],acc,_=>by rw[KY];rfl
 |(n,k)::r,acc,h=>by
  rw[U4,hf];have ih:=fun acc=>Wq am f hf r acc fun y hy=>h y (gr _ hy);unfold iL;by_cases hk:(k==NameKind.free)=true
  .rw[ay hk,ay hk];obtain⟨c,hc⟩:=h (n,k) im (by simpa using hk);have e:cellOf am n=pure c:=by unfold cellOf;rw[hc]
   rw[e];have e2:(am.cells.lookup n).getD 0=c:=by rw[hc];rfl
   rw[e2];exact ih _
  .rw[aq hk,aq hk];exact ih _
def ajn{scope:Scope}{am:Env}(h:∀y∈2.2,y.2=.free->∃c,am.cells.lookup y.1=some c):closureFor scope am=pure (iL am.cells scope.names []):=by
 simp only[closureFor];rw[Wq am _ (fun n k c=>rfl) scope.names [] h];rfl
def Qi{α:Type}:∀{l:List (Str×α)}{n:Str}{c:α},(n,c)∈l->∃c',l.lookup n=some c'
 |(k,v)::r,n,c,h=>by
  rw[sR];cases hb:n==k with
  |true=>exact `_o
  |false=>
   rcases bE.mp h with e|h
   .cases e;simp at hb
   .exact Qi h
def Fj{cells:`ö}:∀{names:3.1}{acc:`ö}{n:Str}{c:Addr},(n,c)∈iL cells names acc->(n,c)∈acc\/((n,.free)∈names/\c=(cells.lookup n).getD 0)
 |[],_,_,_,h=>.inl h
 |(m,k)::r,acc,n,c,h=>by
  unfold iL at h;split at h
  .rename_i hk
   have hk:k=.free:=by simpa using hk
   rcases Fj h with h|⟨h1,h2⟩
   .rcases bE.mp h with e|h
    .cases e;exact .inr ⟨hk▸im,rfl⟩
    .exact .inl h
   .exact .inr ⟨gr _ h1,h2⟩
  .rcases Fj h with h|⟨h1,h2⟩
   .exact .inl h
   .exact .inr ⟨gr _ h1,h2⟩
def Mt{cells:`ö}:∀{names:3.1}{acc:`ö}{p:Str×Addr},p∈acc->p∈iL cells names acc
 |[],_,_,h=>h
 |(m,k)::r,acc,p,h=>by
  unfold iL;split
  .exact Mt (gr _ h)
  .exact Mt h
def Mu{cells:`ö}:∀{names:3.1}{acc:`ö}{n:Str},(n,.free)∈names->(n,(cells.lookup n).getD 0)∈iL cells names acc
 |(m,k)::r,acc,n,h=>by
  unfold iL;rcases bE.mp h with e|h
  .cases e;exact Mt im
  .split
   .exact Mu h
   .exact Mu h
def AK:∀{names:3.1}{h:Heap}{acc:`ö}{x:Str}{c:Addr},(x,c)∈cellsFrom h.objs.size names acc->
 (x,c)∈acc\/((x,.cell)∈names/\'~'<=c/\TC (pushCells h names) c none)
 |[],_,_,_,_,h=>.inl h
 |(n,k)::r,h,acc,x,c,hm=>by
  unfold cellsFrom at hm;unfold pushCells;split at hm
  .rename_i hk
   rw[ay hk];have hk:k=.cell:=by simpa using hk
   rw[<-kC h {cls:=.type "cell",data:=.cell none}]at hm;rcases AK hm with hm|⟨h1,h2,h3⟩
   .rcases bE.mp hm with e|hm
    .cases e;exact .inr ⟨hk▸im,bp _,_,LO r _ _ _ (`Ė),rfl⟩
    .exact .inl hm
   .rw[kC]at h2;exact .inr ⟨gr _ h1,Lg h2,h3⟩
  .rename_i hk
   rw[aq hk];rcases AK hm with hm|⟨h1,h2,h3⟩
   .exact .inl hm
   .exact .inr ⟨gr _ h1,h2,h3⟩
def Fe:∀{names:3.1}{n:Nat}{acc:`ö}{p:Str×Addr},p∈acc->p∈cellsFrom n names acc
 |[],_,_,_,h=>h
 |(m,k)::r,n,acc,p,h=>by
  unfold cellsFrom;split
  .exact Fe (gr _ h)
  .exact Fe h
def Mo:∀{names:3.1}{n:Nat}{acc:`ö}{x:Str},(x,.cell)∈names->∃c,(x,c)∈cellsFrom n names acc
 |(m,k)::r,n,acc,x,h=>by
  unfold cellsFrom;rcases bE.mp h with e|h
  .cases e;exact⟨n,Fe im⟩
  .split
   .exact Mo h
   .exact Mo h
def Mp:∀{names:3.1}{h:Heap}{acc:`ö}{x y:Str}{c:Addr},(∀p∈acc,p.2<'~')->(∀x y c,(x,c)∈acc->(y,c)∈acc->x=y)->
 (x,c)∈cellsFrom h.objs.size names acc->(y,c)∈cellsFrom h.objs.size names acc->x=y
 |[],_,_,_,_,_,_,hi,h1,h2=>hi _ _ _ h1 h2
 |(n,k)::r,h,acc,x,y,c,hl,hi,h1,h2=>by
  unfold cellsFrom at h1 h2;split at h1
  .rename_i hk
   rw[ay hk]at h2;rw[<-kC h {cls:=.type "cell",data:=.cell none}]at h1 h2;refine Mp (h:=h.push _) (2.1) (fun x y c a b=>?_) h1 h2
   .rw[kC];rcases bE.mp hp with rfl|hp
    .exact Ap _
    .exact xR (hl p hp)
   .rcases bE.mp a with e|a<;>rcases bE.mp b with e'|b
    .cases e;cases e';rfl
    .cases e;exact absurd (hl _ b) (oE _)
    .cases e';exact absurd (hl _ a) (oE _)
    .exact hi _ _ _ a b
  .rename_i hk
   rw[aq hk]at h2;exact Mp hl hi h1 h2
def ap7{M:Model}{A:Around}{E:`Ñ}{s:Shared}{scope:Scope}{globals:Addr}{closure:`ö}{qual:Str}{func:5.7}{code:Value}{VO:Env}{builtins:Addr}{Q:Env->Shared->Prop}
 (h:Q (newEnv scope s.heap.objs.size globals (cellsFrom `Ğ scope.names closure) qual func code (some VO) builtins)
  {s with heap:=pushCells (s.heap.push {cls:=.type "dict",data:=.dict #[]}) scope.names}):
 wpAny M A (newFunctionEnv scope globals closure [] qual func code (some VO) builtins) Q E s:=by
 simp only[newFunctionEnv,Option.isSome_some,nI];refine aI (wpAny_alloc ?_);refine aI (wpAny_layCells _ (fun n k c=>rfl) scope.names closure _ _ ?_);rw[show({s with heap:=s.heap.push {cls:=.type "dict",data:=.dict #[]}}:Shared).heap.objs.size=s.heap.objs.size+1 from kC ..];rw[KY];exact aI (br (br h))
def P'{sc:Scope}:∀{names:3.1}{x:Str}{k:NameKind},
 (names.map fun(n,k)=>if(k==NameKind.free&&sc.kind==.function&&sc.names.lookup n==some .cell)then(n,NameKind.cell)else(n,k)).lookup x=some k->
 ∃k',names.lookup x=some k'/\(k=k'\/(k'=.free/\k=.cell))
 |[],_,_,h=>by simp at h
 |(n,BP)::r,x,k,h=>by
  have ih:=@P' sc r x k;have h':List.lookup x ((if 2.77=true then(n,NameKind.cell)else(n,BP))::(r.map _))=some k:=h;cases hx:x==n with
  |true=>
   simp only[sR,hx];by_cases hc:2.77=true
   .rw[ay hc]at h';simp only[sR,hx]at h';cases h';simp only[f7,sX]at hc;exact⟨BP,rfl,.inr ⟨hc.1.1,rfl⟩⟩
   .rw[aq hc]at h';simp only[sR,hx]at h';cases h';exact⟨_,rfl,.inl rfl⟩
  |false=>
   simp only[sR,hx];by_cases hc:2.77=true
   .rw[ay hc]at h';simp only[sR,hx]at h';exact ih h'
   .rw[aq hc]at h';simp only[sR,hx]at h';exact ih h'
structure z0(N:List Str)(sc scope:Scope)(own:List (Str×Nat)):Prop where
 kind:scope.kind=.function
 Tq:∀y∈2.2,scope.names.lookup y.1=some y.2
 ix:∀p∈own,N[p.2]? =some p.1
 free:∀y∈2.2,y.2=.free->sc.names.lookup y.1=some .cell\/sc.names.lookup y.1=some .free
 own:∀y∈2.2,y.2=.local\/y.2=.cell->y.1∈own.map (·.1)\/y.1∉N
def cA(σ:St):List Nat->St
 |[]=>σ
 |v::vs=>(cA σ vs).set v none
def Tt(σ:St):∀vs:List Nat,(cA σ vs).length=σ.length
 |[]=>rfl
 |v::vs=>by unfold cA;rw[List.length_set,Tt σ vs]
def wipe_some{σ:St}{i:Nat}{x:V}:∀{vs:`À},(cA σ vs)[i]? =some (some x)->σ[i]? =some (some x)/\i∉vs
 |[],h=>⟨h,`Õ⟩
 |v::vs,h=>by
  unfold cA at h;by_cases hi:v=i
  .subst hi;by_cases hv:v<(cA σ vs).length
   .rw[U9 hv]at h;cases h
   .rw[uQ (by simpa using hv)]at h;cases h
  .rw[U8 hi]at h;obtain⟨h1,h2⟩:=wipe_some h;exact⟨h1,by simp only[bE,zy];exact⟨fun e=>hi e.symm,h2⟩⟩
abbrev Cx.i7(X:Cx)(s:Shared)(H:Hp)(scope:Scope)(fH:Env)(fp:`ð):Cx:={X with h_:=s,sM:=H,am:=fH,bK:=X.stack,ex:=fp,fn:=fun x=>scope.names.lookup x==some .cell,pn:=[],xe:=fun _ _=>False}
section
variable{X:Cx}{ae:List (Addr×Obj)}{σ:St}{H:Hp}{s:Shared}
def ajb{scope:Scope}{own:0.88}{fp:`ð}(I:`Ë)(ok:2.32)(hN:X.N.Nodup)(yT:∀b∈fp,jT X ae H b/\b<`Í):
 az (X.i7 s H scope (compEnvC scope (cellsFrom `Ğ scope.names (2.29)) s.heap.objs.size X.am) fp) [] (cA σ (own.map (·.2))) H {s with heap:=pushCells (s.heap.push {cls:=.type "dict",data:=.dict #[]}) scope.names}:=by
 have yV:∀y∈2.2,y.2=.free->∃c,X.am.cells.lookup y.1=some c:=fun y hy e=>by
  rcases ok.free y hy e with k|k
  .exact I.ok.has _ (.inl k)
  .exact I.ok.has _ (.inr k)
 generalize Bb:compEnvC scope (cellsFrom `Ğ scope.names (2.29)) s.heap.objs.size X.am=fH;have kp:∀b o,s.heap.get? b=some o->(pushCells (1.72) 2.2).get? b=some o:=fun b o e=>LO _ _ _ _ (cC _ e);have hL:fH.locals=`Í:=by rw[<-Bb];rfl
 have cD:fH.cells=cellsFrom `Ğ scope.names (2.29):=by rw[<-Bb];rfl
 have Po:fH.scope=asV scope X.am.scope:=by rw[<-Bb];rfl
 rw[<-kC s.heap {cls:=.type "dict",data:=.dict #[]}]at cD;have cm:∀{y c},(y,c)∈iL X.am.cells scope.names []->X.am.cells.lookup y=some c/\c<`Í:=fun{y c} hm=>by
  rcases Fj hm with hm|⟨h1,rfl⟩
  .cases hm
  .obtain⟨c,hc⟩:=yV _ h1 rfl;rw[hc];obtain⟨w,z⟩:=I.cell _ _ hc;exact⟨rfl,z.lt⟩
 have mem:∀{y c},fH.cells.lookup y=some c->(X.am.cells.lookup y=some c/\c<`Í)\/(`Í+1<=c/\TC (pushCells (1.72) 2.2) c none):=fun{y c} e=>by
  rw[cD]at e;rcases AK (io e)with hm|⟨_,h2,h3⟩
  .exact .inl (cm hm)
  .rw[kC]at h2;exact .inr ⟨h2,h3⟩
 have pA:∀{y},scope.names.lookup y=some .free->∃c,fH.cells.lookup y=some c/\X.am.cells.lookup y=some c:=fun{y} hl=>by
  have hy:(y,NameKind.free)∈2.2:=io hl;obtain⟨c',e'⟩:=Qi (Fe (names:=2.2) (n:=(1.72).objs.size) (Mu (cells:=X.am.cells) (acc:=[]) hy));rw[<-cD]at e';refine⟨c',e',?_⟩;rw[cD]at e';rcases AK (io e')with hm|⟨h1,_,_⟩
  .exact(cm hm).1
  .have:=ok.Tq _ h1;rw[hl]at this;cases this
 have okB:(X.i7 s H scope fH fp).Ok:=by
  refine⟨I.ok.mod,by show fH.scope.kind=_;rw[Po];exact ok.kind,by show fH.globals=_;rw[<-Bb];exact I.ok.mz,by show fH.builtins=_;rw[<-Bb];exact I.ok.yp,by show `Í<=fH.locals;rw[hL];exact bp _,
   fun y z c e1 e2=>?_,fun y hy=>?_,fun y c z e=>?_,I.ok.hd,I.ok.frames,.inl rfl,fun b hb=>⟨?_,fun y c e z=>?_⟩,I.bs,bq I.ok.kF I.sz,fun b o e hb=>?_,fun b hb z=>?_,I.stack,I.IP⟩
  .have e1:fH.cells.lookup y=some c:=e1;have e2:fH.cells.lookup z=some c:=e2;rw[cD]at e1 e2;refine Mp (2.1) (fun y z c a b=>I.ok.inj y z c (cm a).1 (cm b).1) (io e1) (io e2);rw[kC];exact xR (cm (y:=p.1) (c:=p.2) hp).2
  .show∃c,fH.cells.lookup y=some c;have key:∀k,fH.kindOf y=some k->(k=.cell\/k=.free)->∃c,fH.cells.lookup y=some c:=fun k hk i_=>by
    unfold Env.kindOf at hk;rw[Po]at hk;obtain⟨k',e,r⟩:=P' hk;have:k'=.cell\/k'=.free:=by
     rcases r with rfl|⟨rfl,_⟩
     .exact i_
     .exact .inr rfl
    rcases this with rfl|rfl
    .obtain⟨c,hm⟩:=Mo (n:=(1.72).objs.size) (acc:=2.29) (io e);obtain⟨c',e'⟩:=Qi hm;exact⟨c',by rw[cD];exact e'⟩
    .obtain⟨c,h1,_⟩:=pA e;exact⟨c,h1⟩
   rcases hy with hy|hy
   .exact key _ hy `Λ
   .exact key _ hy (.inr rfl)
  .have z:(scope.names.lookup y==some NameKind.cell)=true:=z;have z:scope.names.lookup y=some .cell:=by simpa using z
   have e:fH.cells.lookup y=some c:=e;rw[cD]at e;rcases AK (io e)with hm|⟨_,h2,_⟩
   .rcases Fj hm with hm|⟨h1,_⟩
    .cases hm
    .have q:=ok.Tq _ h1;rw[z]at q;cases q
   .rw[kC]at h2;exact Lg h2
  .show b≠fH.locals;rw[hL];exact gb (yT b hb).2
  .have e:fH.cells.lookup y=some c:=e;rcases mem e with⟨h1,_⟩|⟨h1,_⟩
   .exact(yT b hb).1.2.2.2.2.1 y c h1 z
   .have h2:`Í+1<=b:=by rw[<-z];exact h1
    exact absurd (iH (yT b hb).2 (Lg h2)) (oE _)
  .rcases(yT b hb).1.2.2.2.1 with z|z
   .exact I.ok.Cc b o e z
   .exact absurd (iH (cI e) (bq I.ok.kF z)) (oE _)
  .rcases bE.mp (I.CW b z)with z|z
   .exact(yT b hb).1.2.1 z
   .exact(yT b hb).1.2.2.1 z
 refine⟨okB,rfl,I.fu,Un.kept kp,⟨fun _=>none,?_,fun i y av e1 e2 e3=>?_⟩,fun y c e=>?_,?_,fun y c e=>?_,2.1,I.aO.kept kp,by rw[Tt];exact I.len⟩
 .show Heap.Ns _ fH.locals _;rw[hL];exact Heap.Ns.keeps (Heap.Ns.new ..) fun b o e=>LO _ _ _ _ e
 .obtain⟨e2,cQ⟩:=wipe_some e2;have yU:scope.names.lookup y=some .free/\(fH.kindOf y=some .cell\/fH.kindOf y=some .free):=by
   have key:∀k,fH.scope.names.lookup y=some k->k=.local\/k=.cell\/k=.free->scope.names.lookup y=some .free/\(fH.kindOf y=some .cell\/fH.kindOf y=some .free):=fun k hk i_=>by
    have o_:=hk;rw[Po]at hk;obtain⟨k',e,r⟩:=P' hk;have no:¬(k'=.local\/k'=.cell):=fun hh=>by
     rcases ok.own _ (io e) hh with e'|e'
     .obtain⟨p,hp,Gq⟩:=cw.mp e';have e3:=ok.ix p hp;have:p.1=y:=Gq;rw[this]at e3;exact cQ (cw.mpr ⟨p,hp,QN hN e3 e1⟩)
     .exact e' (cN e1)
    rcases r with rfl|⟨rfl,rfl⟩
    .rcases i_ with rfl|rfl|rfl
     .exact absurd `Λ no
     .exact absurd (.inr rfl) no
     .exact⟨e,.inr o_⟩
    .exact⟨e,.inl o_⟩
   have e3:yk fH.scope y:=e3;rcases e3 with e3|e3|e3
   .exact key _ e3 `Λ
   .exact key _ e3 (.inr `Λ)
   .exact key _ e3 (.inr (.inr rfl))
  obtain⟨m,hn,hl⟩:=I.iS;have al8:yk X.am.scope y:=(ok.free _ (io yU.1) rfl).elim (fun k=>.inr (.inl k)) (fun k=>.inr (.inr k));obtain⟨w,r,q⟩:=hl i y av e1 e2 al8;refine⟨w,r,.inr ⟨yU.2,?_⟩⟩;obtain⟨c,h1,h2⟩:=pA yU.1;rcases q with⟨k,_⟩|⟨_,c',e',z⟩
  .have k:X.am.scope.names.lookup y=some .local:=k;rcases ok.free _ (io yU.1) rfl with k'|k'<;>rw[show X.am.scope.names.lookup y=_ from k']at k<;>cases k
  .rw[h2]at e';cases e';exact⟨c,h1,z.keeps kp⟩
 .have e:fH.cells.lookup y=some c:=e;rcases mem e with⟨h1,_⟩|⟨_,z⟩
  .obtain⟨w,z⟩:=I.cell y c h1;exact⟨w,z.keeps kp⟩
  .exact⟨_,z⟩
 .show H fH.locals=none;rw[hL];exact '?'
 .have e:fH.cells.lookup y=some c:=e;rcases mem e with⟨h1,_⟩|⟨h1,_⟩
  .exact I.i8 y c h1
  .exact I.aO.fresh (Lg h1)
 .exact absurd (show p∈([]:List 0.33)++[]from hp) `Ç
def air{E:`Ñ}{D:Addr}{xs:List V}{y:V}{v:Value}{Q:`Ñ}(I:`Ë)(hD:H D=some `Ē)(hz:`Ã<sizeLine)(r:bA y v)
 (h:∀s',az X ae σ (af H D (.ah (xs++[y]))) s'->Q .none s'):wpAny `Î X.A (call (.builtin "list.append") [.ref D,v]) Q E s:=by
 obtain⟨hz',its,n,ri,e⟩:=I.aO D _ hD;have hl:=ri.length;refine append_at (hsz:=by rw[fP];omega) e fun h' sb lI=>?_;refine h {s with heap:=h'} (I.sJ (t':=s.toks) (by rw[hD];trivial) `Λ (fun b u hb q=>(sb.2 b hb).trans q) ⟨_,lI⟩ ⟨by rw[dc];exact hz,its++[v],n+1,ri.append (.cons r .nil),?_⟩);rw[lI];simp
def Au(X:Cx)(ifs:`_h)(t:TT):Prop:=
 ∀(ae:`Ï)(s:Shared)(σ:St)(H:Hp)(Q:`_w),az X ae σ H s->t σ H Q->
  wpAny `Î X.A (forIn ifs true fun c r=>if r=true then do let ok<-isTrue c X.am (eval c X.am);pure (ForInStep.yield ok)else pure (ForInStep.yield r)) (TP X ae σ Q) X.xe s
def ig:TT:=fun _ H Q=>Q true H
def j':Au X [] ig:=fun _ _ _ H _ I h=>wpAny_tests_nil ⟨H,I,h⟩
def zG{c:Expr}{t:TT}(h:PT X c t):Au X [c] t:=fun ae s σ H Q I hw=>wpAny_tests_one (h ae s σ H Q I hw)
end
def zT{α:Type}{t:Sem α}{Q Q':α->Shared->Prop}{M:Model}{A:Around}{E:`Ñ}{s:Shared}(h:wpAny M A t Q 8.2 s)(hQ:∀a s,Q a s->Q' a s):wpAny M A t Q' E s:=kD h hQ fun _ _ z=>`_m z
def ajr{prog:`Ô}{w:World}{A:Around}{R:Result->Shared->Prop}{s:Shared}{jp target iter:Expr}{ifs:`_h}{scope:Scope}{pos:Pos}{it acc:Value}{am:Env}(I:Nat->Shared->Prop)
 (turn:∀n s,I n s->wpAny `ò A (pyNext it) (fun r bY=>match r with
  |none=>R (.ok .next) bY
  |some v=>wpAny `ò A (letOwnedTupleGo target it v) (fun _ ady=>wpAny `ò A (assign target am v) (fun _ ie=>
   wpAny `ò A (forIn ifs true fun c r=>if r=true then do let ok<-isTrue c am (eval c am);pure (ForInStep.yield ok)else pure (ForInStep.yield r)) (fun ok ut=>
    if ok=true then wpAny `ò A (eval jp am) (fun x adz=>
     wpAny `ò A (call (.builtin "list.append") [acc,x]) (fun _ adA=>∃m,m<n/\I m adA) 0.44 adz) 0.44 ut
    else∃m,m<n/\I m ut) 0.44 ie) 0.44 ady) 0.44 bY) 0.44 s)
 (n:Nat) (h:I n s):
 codeAny `ò A (.compLoop (.ListComp jp [⟨target,iter,ifs,0⟩] scope pos) 0 it acc am) R s:=by
 refine codeAny_loop rfl I (fun n s hI=>?_) n h;show wpAny _ A ((compTurn (.ListComp jp [⟨target,iter,ifs,0⟩] scope pos) 0 it acc am).onRaise (fun x=>do noteFrame x am;theTreesLotGoes x)) _ _ s;refine wpAny_noted ?_;rw[compTurn_list];refine aI (wpAny_standAt (aI (kD (turn n s hI) (fun r bY Gy=>?_) fun _ _ h'=>h')));cases r with
 |none=>exact br Gy
 |some v=>
  refine aI (kD Gy (fun _ ady al'=>?_) fun _ _ h'=>h');refine aI (kD al' (fun _ ie BE=>aI (kD BE (fun ok ut Gz=>?_) fun _ _ h'=>h')) fun _ _ h'=>h');cases ok with
  |false=>exact br ⟨rfl,Gz⟩
  |true=>
   exact aI (aI (kD Gz (fun x adz ama=>aI (kD ama (fun _ adA amb=>br (br ⟨rfl,amb⟩)) fun _ _ h'=>h')) fun _ _ h'=>h'))
section
variable{X:Cx}
def fY(wi:TI)(g:TG)(tt:TT)(te:TE)(vs:`À):TE:=fun σ H Q=>wi σ H fun J H1=>∀D,H1 D=none->∃W:Nat->Nat->Hp->Prop,(∃m,W 0 m (af H1 D `Ù))/\∀i m H,W i m H->
 (J.stop i H/\Q `_5 H)\/(J.go i H/\∃Nx:Hp->Prop,3.25/\∀x H',J.l6 i H x H'->g x `_4 H' fun bC H2=>cA bC vs=cA σ vs/\tt bC H2 fun b H3=>
  if b=true then te bC H3 fun y H4=>∃acc,H4 D=some (.ah acc)/\`_q<sizeLine/\Nx 1.27 else Nx H3)
def Ķ{ae:`Ï}{s:Shared}{σ:St}{H:Hp}{Q:VK}{jp tg iter:Expr}{ifs:`_h}{scope:Scope}{own:0.88}{pos kX:Pos}{wi:TI}{g:TG}{tt:TT}{te:TE}{use:Option (Value->Sem Unit)}{Qf:`Ñ}
 (hc:`_S) (hN:X.N.Nodup) (I:`Ë) (hi:PI X tg iter wi) (ok:2.32)
 (hg:2.82) (ht:2.78)
 (he:2.80) (hs:1.11)
 (h:fY wi g tt te (own.map (·.2)) σ H Q)
 (hRR:∀D C s' m H',az X ae σ H' s'->Q `_5 H'->s'.heap.Ns C m->jT X ae H' C->compPost `Î X.A X.xe use Qf `_5 C (.ok .next) s'):
 wpAny `Î X.A (comprehension 0.46 scope X.am kX (newList []) false (eval iter X.am) use) Qf X.xe s:=by
 have yV:∀y∈2.2,y.2=.free->∃c,X.am.cells.lookup y.1=some c:=fun y hy e=>by
  rcases ok.free y hy e with k|k
  .exact I.ok.has _ (.inl k)
  .exact I.ok.has _ (.inr k)
 refine wpAny_comprehension_free (use:=use) rfl hs (ajn yV) ok.kind (fun y hy e=>by rw[ok.Tq y hy,e])
  (a0 (hi ae s σ H _ I h) fun xv s1 hx=>a0 hx fun PK s2 h2=>?_)
 obtain⟨it,fp,tn,J,H2,e,I2,T,IL,f2,q⟩:=h2;subst e;refine AB (ap7 ?_) (by show 0<=sizeLine;decide);generalize hD:0.81=D;have hDn:H2 D=none:=I2.aO.fresh (Ao hD);obtain⟨W,⟨m0,w0⟩,turn⟩:=q D hDn;generalize Bx:({s2 with heap:=s2.heap.push {cls:=.type "list",data:=.seq ([]:List Value).toArray}}:Shared)=s3;have I3:az X ae σ 0.76 s3:=by
  rw[<-Bx];refine I2.jM (t':=s2.toks) (fun b o e=>cC _ e) (Ao hD) ⟨mn _,[],0,.nil,?_⟩;rw[<-hD];exact `Ė
 have h3:s3.heap=s2.heap.push {cls:=.type "list",data:=.seq ([]:List Value).toArray}:=by rw[<-Bx]
 have sz:∀b∈fp,b<0.81:=fun b hb=>by
  obtain⟨o,e,_⟩:=T.obj _ _ IL b hb;exact cI e
 have f3:∀b∈fp,jT X ae 0.76 b/\b<0.24:=fun b hb=>by
  have cz:=sz b hb;refine⟨⟨?_,(f2 b hb).2⟩,by rw[h3,kC];exact xR cz⟩;rw[au (by rw[<-hD];exact gb cz)];exact(f2 b hb).1
 have IM:tn 0 s3.heap:=T.keep _ _ _ IL fun b _ o e=>by rw[h3];exact cC _ e
 have I4:=ajb I3 ok hN f3;have pg:=hg s3 0.76 s3.heap.objs.size 0.94 fp;have pt:=ht s3 0.76 s3.heap.objs.size 0.94 fp;have pe:=he s3 0.76 s3.heap.objs.size 0.94 fp;show codeAny _ _ (.compStart 0.46 0 `_s `_5 (compEnvC scope 0.94 s3.heap.objs.size X.am)) (compPost `Î X.A X.xe use Qf `_5 0.24) {s3 with heap:=pushCells (s3.heap.push {cls:=.type "dict",data:=.dict #[]}) scope.names};have nfp:∀b∈fp,0.76 b=none:=fun b hb=>(f3 b hb).1.1;generalize vz:compEnvC scope 0.94 s3.heap.objs.size X.am=ce at I4 pg pt pe⊢;have cL:ce.locals=0.24:=by subst vz;rfl
 generalize hH3:af H2 D `Ù=H3 at I3 I4 pg pt pe w0 nfp f3;generalize hs4:({s3 with heap:=pushCells (s3.heap.push {cls:=.type "dict",data:=.dict #[]}) scope.names}:Shared)=s4 at I4⊢;have st4:tn 0 s4.heap:=T.keep _ _ _ IM fun b _ o e=>by rw[<-hs4];exact LO _ _ _ _ (cC _ e)
 have xh:∀{aS:St}{H':Hp}{s':Shared},az 0.13 [] aS H' s'->0.68->∀b∈fp,jT 0.13 [] H' b:=fun{aS H' s'} I' hn b hb=>
  ⟨hn b hb,(I'.ok.FF b hb).1,I'.ok.AZ b hb,.inl hb,fun x c e=>(I'.ok.FF b hb).2 x c e,fun p hp=>absurd (show p∈([]:List 0.33)++[]from hp) `Ç⟩
 have loop:codeAny `Î X.A (.compLoop 0.46 0 `_s `_5 ce) (compPost `Î X.A X.xe use Qf `_5 0.24) s4:=by
  refine ajr (fun n s'=>∃i H',az 0.13 [] (cA σ (own.map (·.2))) H' s'/\tn i s'.heap/\0.68/\W i n H') ?_ m0 ⟨0,H3,I4,st4,nfp,w0⟩;rintro n s5 ⟨i,H5,I5,zN,n5,w5⟩;rcases turn i n H5 w5 with⟨stop,qq⟩|⟨go,Nx,hNx,step⟩
  .have td:=T.done 0.13 rfl rfl rfl hc i [] s5 _ H5 8.2 I5 (xh I5 n5) zN stop;refine zT td fun r s6 ⟨hr,I6⟩=>?_;subst hr;have I7:az X ae σ H5 s6:=I3.Mj (ch:=fp) I6.os I6.base I6.aO I6.fu fun b hb=>⟨(f3 b hb).1.2.2.2.1,(f3 b hb).1.2.1,(f3 b hb).1.2.2.2.2.1,(f3 b hb).1.2.2.2.2.2⟩;have nC:H5 0.24=none:=by
    have z:H5 ce.locals=none:=I6.free;rw[cL]at z;exact z
   obtain⟨m,hn,_⟩:=I6.iS;have hn:s6.heap.Ns ce.locals m:=hn;rw[cL]at hn;exact hRR D s3.heap.objs.size s6 m H5 I7 qq hn (I3.ql (bp _) nC)
  .have ti:=T.item 0.13 rfl rfl rfl hc i [] s5 _ H5 8.2 I5 (xh I5 n5) zN go;refine zT ti fun r s6 ⟨u,hr,h6⟩=>?_;subst hr;refine zT h6 fun _ s7 ⟨x,H7,I7,r7,y7,SQ,n7⟩=>?_;have I7':=I7.aaZ (xh I7 n7) (T.obj _ _ SQ);refine zT (pg _ s7 _ H7 x u _ I7' r7 (step x H7 y7)) fun _ s8 ⟨Jo,H8,I8,ZS,q8⟩=>?_;refine zT (pt _ s8 Jo H8 _ I8 q8) fun b s9 ⟨H9,I9,q9⟩=>?_;have fin:∀{s':Shared}{H':Hp},az 0.13 ([]++Cw fp s7.heap) Jo H' s'->Nx H'->∃m,m<n/\∃i H',az 0.13 [] (cA σ (own.map (·.2))) H' s'/\tn i s'.heap/\0.68/\W i m H':=fun{s' H'} I' nx=>by
    obtain⟨m',hm,w'⟩:=hNx H' nx;have aaY:∀b∈fp,∀o,s7.heap.get? b=some o->s'.heap.get? b=some o/\H' b=none:=fun b hb o e=>
     let z:=I'.pin (b,o) (oA _ (oA _ (Qj hb e)))
     ⟨z.1,z.2.1⟩
    have hl:(cA σ (own.map (·.2))).length=Jo.length:=by rw[<-ZS,Tt]
    refine⟨m',hm,i+1,H',(I'.Ja (ae:=[])).au0 hl (fun j v e=>?_),T.keep _ _ _ SQ fun b hb o e=>(aaY b hb o e).1,'%',w'⟩
    .rw[<-ZS]at e;exact(wipe_some e).1
    .obtain⟨o,e,_⟩:=T.obj _ _ SQ b hb;exact(aaY b hb o e).2
   cases b with
   |false=>
    simp only[z_,pq]at q9⊢;exact fin I9 q9
   |true=>
    simp only[nI]at q9⊢;refine zT (pe _ s9 Jo H9 _ I9 q9) fun z s10 ⟨yv,H10,I10,r10,acc,alk,al_,nx⟩=>?_;exact air (X:=X.i7 s3 H3 scope ce fp) I10 alk al_ r10 fun s11 I11=>fin I11 nx
 exact codeAny_compStart_list loop (T.self X.A 0 _ _ _ st4 loop)
def jO{jp tg iter:Expr}{ifs:`_h}{scope:Scope}{own:0.88}{pos:Pos}{wi:TI}{g:TG}{tt:TT}{te:TE}(hc:`_S)(hN:X.N.Nodup)(hi:PI X tg iter wi)(ok:2.32)
 (hg:2.82) (ht:2.78)
 (he:2.80) (hs:1.11:=by intro _;rfl):
 PE X 0.46 (fY wi g tt te (own.map (·.2))):=by
 show `_af;rw[eval_ListComp];refine Ķ hc hN I hi ok hg ht he hs h fun D C s' m H' I' q hn f=>⟨m,hn,fun nD sb=>?_⟩;obtain⟨f0,f1,f2,f3,f4,f5⟩:=f;exact⟨.ref D,H',I'.turned (t':=s'.toks) (fun b o hb e=>(sb.2 b hb).trans e) f0 f1 f3 f4 f5,rfl,q⟩
def CA{i:Nat}{y:Str}{py:Pos}{jp tg iter:Expr}{ifs:`_h}{scope:Scope}{own:0.88}{pos adr:Pos}{wi:TI}{g:TG}{tt:TT}{te:TE}(hc:`_S)(hN:X.N.Nodup)(hy:X.N[i]? =some y)(ZV:X.am.scope.names.lookup y=some .local)
 (hsw:swapsWith 0.46 (some (.Name y py)) adr.line X.am=pure true) (hi:PI X tg iter wi) (ok:2.32)
 (hg:2.82) (ht:2.78)
 (he:2.80) (hs:1.11:=by intro _;rfl):
 PS X (.Assign [.Name y py] 0.46 adr) (aV (fY wi g tt te (own.map (·.2))) (aH i)):=by
 show `_aL;rw[exec_Assign_Name_used _ _ _ _ hsw];refine aI (wpAny_standAt (aI ?_));show wpAny _ X.A (do let _<-comprehension (.ListComp jp [⟨tg,iter,ifs,0⟩] scope pos) scope X.am (firstIterPos [⟨tg,iter,ifs,0⟩] pos) (newList []) false (eval iter X.am) (some (assign (.Name y py) X.am))) _ _ s;have h:fY wi g tt te (own.map (·.2)) σ H (fun x H1=>aH i x σ H1 D.nx):=h;refine aI (a0 (Ķ (Qf:=fun _ s'=>SP X ae D .next s') hc hN I hi ok hg ht he hs h fun L C s' m H' I' q hn f=>?_) fun _ s' hq=>br (br hq));show wpAny _ _ (assign (.Name y py) X.am (.ref L)) _ _ _;refine wpAny_assign_Name (adw (v:=V.ref L) I' hN hy (.inl ZV) rfl (fun s2 I2 ⟨a,sb,ha⟩=>?_) (.inr ZV));obtain⟨f0,f1,f2,f3,f4,f5⟩:=f;have haC:C≠a:=by
  rcases ha with z|z
  .rw[z];exact f1
  .exact fun e=>f4 y a z e.symm
 refine⟨m,hn.sameBut sb haC,fun h3 sb3=>?_⟩;exact⟨_,H',I2.turned (t':=s2.toks) (fun b o hb e=>(sb3.2 b hb).trans e) f0 f1 f3 f4 f5,q⟩
def CY{jp:Expr}{gs:List Comprehension}{scope:Scope}{pos py:Pos}{y:Str}{l:Nat}{am:Env}(hk:am.scope.kind=.function)(hy:am.scope.names.lookup y=some .local)(hl:(py.line==pos.line)=true)
 (ha:(scope.names.any fun(n,k)=>n==y&&(k==.local||k==.cell))=false):swapsWith (.ListComp jp gs scope pos) (some (.Name y py)) l am=pure true:=by
 have ky:am.kindOf y=some .local:=hy;have hb:am.blockKind=.function:=by unfold Env.blockKind;rw[hk];rfl
 unfold swapsWith;simp only[hb,ky,ha,Expr.pos,hl];rfl
end
def Wa(N:`ô)(sc scope:Scope)(own:0.88):Bool:=
 (match scope.kind with|.function=>true|_=>false)&&(scope.names.all fun y=>decide (scope.names.lookup y.1=some y.2))&&(own.all fun p=>decide (N[p.2]? =some p.1))&&
  (scope.names.all fun y=>match y.2 with
   |.free=>(match sc.names.lookup y.1 with|some .cell=>true|some .free=>true|_=>false)
   |.local=>decide (y.1∈own.map (·.1))||decide (y.1∉N)
   |.cell=>decide (y.1∈own.map (·.1))||decide (y.1∉N)
   |_=>true)
def iq{N:`ô}{sc scope:Scope}{own:0.88}(h:Wa N sc scope own=true):z0 N sc scope own:=by
 unfold Wa at h;simp only[f7,f_,vf]at h;obtain⟨⟨⟨h1,h2⟩,h3⟩,h4⟩:=h;refine⟨?_,h2,h3,fun y hy e=>?_,fun y hy e=>?_⟩
 .split at h1
  .assumption
  .cases h1
 .have q:=h4 y hy;simp only[e]at q;split at q<;>first|exact .inl `Â|exact .inr `Â|cases q
 .have q:=h4 y hy;rcases e with e|e<;>(simp only[e,Bool.or_eq_true,vf]at q;exact q)
section
variable{κ:Type}[DecidableEq κ]
def f6(kvs:`_G)(k:κ):Option V:=(kvs.find? fun kv=>decide (kv.1=k)).map (·.2)
def gV(kvs:`_G)(k:κ)(v:V):List (κ×V):=
 if 2.12=true then kvs.map (fun kv=>if kv.1=k then(kv.1,v)else kv)else kvs++[(k,v)]
def qi(kvs:`_G)(k:κ):List (κ×V):=kvs.filter fun kv=>decide (kv.1≠k)
def Jd{p:κ×V}{r:`_G}{k:κ}(e:p.1=k):f6 (p::r) k=some p.2:=by simp[f6,qW,e]
def Jc{p:κ×V}{r:`_G}{k:κ}(e:¬p.1=k):f6 (p::r) k=f6 r k:=by simp[f6,qW,e]
def Jb(k:κ):∀kvs:List (κ×V),2.12=(f6 kvs k).isSome
 |[]=>rfl
 |p::r=>by
  rw[k_];by_cases e:p.1=k
  .simp only[Jd e,g_ e,Bool.true_or,Option.isSome_some]
  .rw[Jc e,eN e,oj];exact Jb k r
def Ľ(kvs:`_G)(k:κ)(v:V):(gV kvs k v).length<=`Ö+1:=by
 unfold gV;split
 .rw[aJ];omega
 .rw[dc,cB,KZ];omega
def asI{kvs:`_G}{k:κ}(v:V)(h:f6 kvs k=none):gV kvs k v=kvs++[(k,v)]:=by
 unfold gV;rw[Jb,h];exact aq `Æ
def jE.zd{o:Option V}{u:Option Value}(r:jE o u):o.isSome=u.isSome:=by
 cases o with
 |none=>cases u with
  |none=>rfl
  |some _=>exact(show False from r).elim
 |some _=>cases u with
  |none=>exact(show False from r).elim
  |some _=>rfl
def KV.val{kvs:`_G}{vs:3.7}(r:KV kvs vs)(k:κ):jE (f6 kvs k) (valueAt vs k):=by
 unfold KV at r
 induction r with
 |nil=>exact True.intro
 |@cons p q ps qs h t ih=>
  obtain⟨h1,h2⟩:=h;by_cases e:p.1=k
  .have e':q.1=k:=h1.symm.trans e;have b:valueAt (q::qs) k=some q.2:=by simp[valueAt,qW,e']
   rw[Jd e,b];exact h2
  .have e':¬q.1=k:=fun z=>e (h1.trans z);have b:valueAt (q::qs) k=valueAt qs k:=by simp[valueAt,qW,e']
   rw[Jc e,b];exact ih
def KV.any{kvs:`_G}{vs:3.7}(r:KV kvs vs)(k:κ):2.12=vs.any fun kv=>decide (kv.1=k):=by
 unfold KV at r
 induction r with
 |nil=>rfl
 |cons h t ih=>rw[k_,k_,ih,h.1]
def KV.Sg{kvs:`_G}{vs:3.7}(r:KV kvs vs)(k:κ){y:V}{u:Value}(ry:bA y u):
 KV (kvs.map fun kv=>if kv.1=k then(kv.1,y)else kv) (vs.map fun kv=>if kv.1=k then(kv.1,u)else kv):=by
 unfold KV at r⊢
 induction r with
 |nil=>exact .nil
 |@cons p q ps qs h t ih=>
  rw[cY,cY];refine .cons ?_ ih;obtain⟨h1,h2⟩:=h;by_cases e:p.1=k
  .rw[ay e,ay (h1.symm.trans e)];exact⟨h1,ry⟩
  .rw[aq e,aq (fun z=>e (h1.trans z))];exact⟨h1,h2⟩
def KV.kY{kvs:`_G}{vs:3.7}(r:KV kvs vs)(k:κ){y:V}{u:Value}(ry:bA y u):KV (gV kvs k y) (stored vs k u):=by
 unfold gV stored;rw[r.any k];by_cases e:(vs.any fun kv=>decide (kv.1=k))=true
 .rw[ay e,ay e];exact r.Sg k ry
 .rw[aq e,aq e];exact Paired.snoc r ⟨rfl,ry⟩
def KV.drop{kvs:`_G}{vs:3.7}(r:KV kvs vs)(k:κ):KV (qi kvs k) (without vs k):=by
 unfold KV at r⊢;unfold qi without
 induction r with
 |nil=>exact .nil
 |@cons p q ps qs h t ih=>
  obtain⟨h1,h2⟩:=h;rw[kt,kt];by_cases e:p.1=k
  .have a:¬decide (p.1≠k)=true:=by simp[e]
   have b:¬decide (q.1≠k)=true:=by simp[h1.symm.trans e]
   rw[aq a,aq b];exact ih
  .have e':¬q.1=k:=fun z=>e (h1.trans z);have a:decide (p.1≠k)=true:=by simp[e]
   have b:decide (q.1≠k)=true:=by simp[e']
   rw[ay a,ay b];exact .cons ⟨h1,h2⟩ ih
def KV.keys{kvs:`_G}{vs:3.7}(r:KV kvs vs):kvs.map (·.1)=vs.map (·.1):=by
 unfold KV at r
 induction r with
 |nil=>rfl
 |cons h t ih=>rw[cY,cY,ih,h.1]
def KV.length{kvs:`_G}{vs:3.7}(r:KV kvs vs):`Ö=`õ:=mr r
def Ye(kvs:`_G)(k:κ):(qi kvs k).length<=`Ö:=nh _ _
end
def tL{P:`Ô}{w:World}{k:aW}{u:Value}(r:bA (kV k) u):(d7 P w).is k u=true:=by
 cases k with
 |inl i=>obtain⟨t,e⟩:=(show∃t,u='!' i t from r);subst e;exact aoM P w i t
 |inr x=>obtain⟨t,e⟩:=(show∃t,u=Value.str x t from r);subst e;exact aoN P w x t
def PH{P:`Ô}{w:World}:∀{ks:List aW}{us:`Ì},bx (ks.map kV) us->ItemsAre (d7 P w) ks us
 |[],_,r=>by rw[DC]at r;cases r;exact .nil
 |k::ks,_,r=>by
  rw[cY]at r;cases r with
  |cons h t=>exact .cons (tL h) (PH t)
abbrev KT(H:Hp):List (List aW×V)->List (List aW×Addr×Value)->Prop:=Paired fun p q=>p.1=q.1/\H q.2.1=some (.bb (p.1.map kV))/\bA p.2 q.2.2
def KT.val{H:Hp}{kvs:1.4}{xs:2.8}(r:KT H kvs xs)(k:List aW):jE (f6 kvs k) ((atKey xs k).map (·.2)):=by
 induction r with
 |nil=>exact True.intro
 |@cons p q ps qs h t ih=>
  obtain⟨h1,_,h2⟩:=h;by_cases e:p.1=k
  .have e':q.1=k:=h1.symm.trans e;have b:atKey (q::qs) k=some q.2:=by simp[atKey,qW,e']
   rw[Jd e,b];exact h2
  .have e':¬q.1=k:=fun z=>e (h1.trans z);have b:atKey (q::qs) k=atKey qs k:=by simp[atKey,qW,e']
   rw[Jc e,b];exact ih
def KT.Sg{H:Hp}{kvs:1.4}{xs:2.8}(r:KT H kvs xs)(k:List aW){y:V}{u:Value}(ry:bA y u):
 KT H (kvs.map fun kv=>if kv.1=k then(kv.1,y)else kv) (xs.map (putAt k u)):=by
 induction r with
 |nil=>exact .nil
 |@cons p q ps qs h t ih=>
  rw[cY,cY];refine .cons ?_ ih;obtain⟨h1,h2,h3⟩:=h;unfold putAt;by_cases e:p.1=k
  .rw[ay e,ay (h1.symm.trans e)];exact⟨h1,h2,ry⟩
  .rw[aq e,aq (fun z=>e (h1.trans z))];exact⟨h1,h2,h3⟩
def KT.kY{H:Hp}{kvs:1.4}{xs:2.8}(r:KT H kvs xs)(k:List aW){b:Addr}{y:V}{u:Value}(hb:H b=some 8.1)(ry:bA y u):
 KT H (gV kvs k y) (storedH xs k b u):=by
 have e:2.12=(atKey xs k).isSome:=by
  rw[Jb,(r.val k).zd,Vq]
 unfold gV storedH;rw[e];by_cases q:(atKey xs k).isSome=true
 .rw[ay q,ay q];exact r.Sg k ry
 .rw[aq q,aq q];exact Paired.snoc r ⟨rfl,hb,ry⟩
def KT.keeps{H H':Hp}{kvs:1.4}{xs:2.8}(r:KT H kvs xs)(ht:∀b ys,H b=some (.bb ys)->H' b=some (.bb ys)):KT H' kvs xs:=
 Paired.Qc r fun _ _ z=>⟨z.1,ht _ _ z.2.1,z.2.2⟩
section
variable{P:Program}{w:World}{H:Hp}{h:Heap}{a:Addr}
def ab3{u:HO}(ok:`_r)(e:Rd H a u):fG P w H h a u:=e.ok ok
def qh{kvs:`â}(ok:`_r)(e:Rd H a `Þ):`Ö<=sizeLine/\4.0=false/\∃vs,KV kvs vs/\h.DictOf (d7 P w) a vs:=
 show fG P w H h a `Þ from ab3 ok e
def Fv{kvs:`â}(ok:`_r)(e:0.87):`Ö<=sizeLine/\4.0=false/\∃vs,KV kvs vs/\h.DictOf (d7 P w) a vs:=qh ok (.inl e)
def zj{ks:List aW}(ok:`_r)(e:H a=some (.bb (ks.map kV))):(1.2).is h ks a:=by
 obtain⟨_,its,r,o,h1,h2,n,h3⟩:=(show fG P w H h a (.bb (ks.map kV))from ok a _ e);exact⟨o,`Ġ,n,h1,h2,h3,by simpa using PH r⟩
def yu{kvs:1.4}(ok:`_r)(e:Rd H a (.dT kvs)):`Ö<=sizeLine/\4.0=false/\
 ∃xs,KT H kvs xs/\h.DictOfH (1.2) a xs:=by
 obtain⟨z,y,xs,r,o,es,ep,h1,h2,h3,h4,h5⟩:=(show fG P w H h a (.dT kvs)from ab3 ok e);refine⟨z,y,xs,r,o,es,ep,h1,h2,h3,h4,`_n,h5⟩;have all:∀{l:1.4}{m:2.8},KT H l m->∀x∈m,(1.2).is h x.1 x.2.1:=by
  intro l m q
  induction q with
  |nil=>intro x hx;exact nomatch hx
  |@cons p q ps qs hq t ih=>
   intro x hx;rcases bE.mp hx with e|hx
   .subst e;exact zj ok (by rw[<-hq.1];exact hq.2.1)
   .exact ih x hx
 exact all r x hx
def aj3{kvs:1.4}(ok:`_r)(e:H a=some (.dT kvs)):`Ö<=sizeLine/\4.0=false/\
 ∃xs,KT H kvs xs/\h.DictOfH (1.2) a xs:=yu ok (.inl e)
end
def pU(H:Hp)(a:Addr)(y:V)(r:Option V):Prop:=
 (∃kvs k,Rd H a `Þ/\y=kV k/\r=f6 kvs k)\/∃kvs k b,Rd H a (.dT kvs)/\y=.ref b/\H b=some 8.1/\r=f6 kvs k
def Js(H:Hp)(a:Addr)(y v:V)(H':Hp):Prop:=
 (∃kvs k,H a=some `Þ/\y=kV k/\`Ö<sizeLine/\H'=af H a (.dK (gV kvs k v)))\/
 ∃kvs k b,H a=some (.dT kvs)/\y=.ref b/\H b=some 8.1/\`Ö<sizeLine/\H'=af H a (.dT (gV kvs k v))
section
variable{X:Cx}{ae:List (Addr×Obj)}{σ:St}{H:Hp}{s:Shared}{a:Addr}{y v:V}{u r:Value}{o:Option V}{A:Around}{E:Value->Shared->Prop}
def az.sY(I:`Ë):sysModules<`Í:=by
 have h:mainGlobals<`Í:=(I.mod.mz.keeps I.bk).lt;exact Nat.lt_trans `Æ h
def ajN{Q:`Ñ}(hu:A.units+1<cLine)(I:`Ë)(g:pU H a y (some v))(ry:bA y u)(h:∀w' s',az X ae σ H s'->bA v w'->Q w' s'):
 wpAny `Î A (getItem `_L u) Q E s:=by
 show `_bT
 .subst ey;show `_cj;obtain⟨w',hw,mM⟩:=jE.Io (v:=v) (o:=valueAt vs k) (by rw[l];exact dH.val k);exact wpAny_getItem_of (tL ry) dd.mapOf hw (h w' _ (I.ii _) mM)
 .show `_bG;obtain⟨w',hw,mM⟩:=jE.Io (v:=v) (o:=(atKey xs k).map (·.2)) (by rw[l];exact dH.val k);obtain⟨p,hp,dE⟩:=gc.mp hw;refine wpAny_getItem_heap (EX hu) (zj I.aO eb) dd hp ?_;rw[dE];exact h w' _ (I.ii _) mM
def ajO{Q:`Ñ}(hu:A.units+1<cLine)(I:`Ë)(g:pU H a y o)(ry:bA y u)(h:∀s',az X ae σ H s'->Q (.bool o.isSome) s'):
 wpAny `Î A (compareOp .In u `_L) Q E s:=by
 show `_bT
 .subst ey;show `_cj;refine wpAny_in_of (tL ry) hd dd.mapOf ?_;rw[<-(dH.val k).zd,<-l];exact h _ (I.ii _)
 .show `_bG;refine wpAny_in_heap (EX hu) (zj I.aO eb) hd dd ?_;have q:=(dH.val k).zd;rw[Vq]at q;rw[<-q,<-l];exact h _ (I.ii _)
def ajQ{Q:`Ñ}(hu:A.units+1<cLine)(I:`Ë)(g:pU H a y o)(ry:bA y u)(h:∀s',az X ae σ H s'->Q (.bool (!o.isSome)) s'):
 wpAny `Î A (compareOp .NotIn u `_L) Q E s:=by
 show `_bT
 .subst ey;show `_cj;refine wpAny_notIn_of (tL ry) hd dd.mapOf ?_;rw[<-(dH.val k).zd,<-l];exact h _ (I.ii _)
 .show `_bG;refine wpAny_notIn_heap (EX hu) (zj I.aO eb) hd dd ?_;have q:=(dH.val k).zd;rw[Vq]at q;rw[<-q,<-l];exact h _ (I.ii _)
def AQ{h':Heap}{t':Nat}{ob:HO}(I:`Ë)(mu:oC (H a))(hs:Heap.SameBut a s.heap h')(he:∃q,h'.get? a=some q)(new:fG X.prog X.w (af H a ob) h' a ob):
 az X ae σ (af H a ob) {s with heap:=h',toks:=t'}:=
 I.sJ (x:=a) (e:=a) mu `Λ (fun b q hb z=>(hs.2 b hb).trans z) he new
def AR{P:`Ô}{w:World}{H':Hp}{h':Heap}{kvs:`â}{vs:`Θ}(z:`Ö<=sizeLine)(hd:4.0=false)(dH:KV kvs vs)(dd:h'.DictOf (d7 P w) a vs):
 fG P w H' h' a `Þ:=⟨z,hd,vs,dH,dd⟩
def ajS{H':Hp}{Q:0.20}(hu:A.units+1<cLine)(I:`Ë)(g:Js H a y v H')(ry:bA y u)(rv:bA v r)(h:∀s',az X ae σ H' s'->Q () s'):
 wpAny `Î A (setItem `_L u r) Q E s:=by
 rcases g with⟨kvs,k,e,ey,l,eH⟩|⟨kvs,k,b,e,ey,eb,l,eH⟩
 .subst ey eH;obtain⟨z,hd,vs,dH,dd⟩:=Fv I.aO e;have hz:`õ<=sizeLine:=by rw[<-dH.length];exact z
  have hl:(gV kvs k v).length<=sizeLine:=by have:=Ľ kvs k v;omega
  refine wpAny_setItem_pairs (hsz:=hz) (tL ry) dd fun h' jY hs=>h _ ?_;have he:∃q,h'.get? a=some q:=let⟨q,_,_,hq,_⟩:=jY;⟨q,hq⟩;exact AQ I 1.99 hs he (AR hl hd (dH.kY k rv) jY)
 .subst ey eH;cases(2.47);obtain⟨z,hd,xs,dH,dd⟩:=aj3 I.aO e;have hz:`Ã<=sizeLine:=by rw[<-mr dH];exact z
  have hl:(gV kvs k v).length<=sizeLine:=by have:=Ľ kvs k v;omega
  refine wpAny_setItem_heap (hsz:=hz) (EX hu) (zj I.aO eb) dd fun h' jY hs=>h _ ?_;obtain⟨q,es,ep,hq,h2,h3,h4,_,h5⟩:=jY;refine AQ I 1.99 hs ⟨q,hq⟩ ⟨hl,hd,_,(dH.kY k eb rv).keeps fun c ys ec=>?_,q,es,ep,hq,h2,h3,h4,h5⟩;rw[au (dG ec e (fun z=>nomatch z))];exact ec
end
section
variable{X:Cx}{ae:List (Addr×Obj)}{σ:St}{H:Hp}{s:Shared}{a:Addr}{kvs:List (aW×V)}{k:aW}{u:Value}{A:Around}{E:Value->Shared->Prop}
def avw{Q:0.20}(I:`Ë)(e:0.87)(ry:bA (kV k) u)(l:(f6 kvs k).isSome=true)(h:∀s',az X ae σ (af H a (.dK (qi kvs k))) s'->Q () s'):
 wpAny `Î A (delItem `_L u) Q E s:=by
 obtain⟨z,hd,vs,dH,dd⟩:=Fv I.aO e;refine wpAny_delItem_slot dd.typeIs `Æ aih
  (call_meetsIn aih dd.typeIs PySem.F.entry_dict_delitem (PySem.F.args_dict_delitem_2 _ _) (meets_dict_delitem_pairs 1.6 a (tL ry)) ⟨vs,dd,by rw[<-dH.length];exact z,by rw[<-(dH.val k).zd];exact l,fun h' jY hs=>h _ ?_⟩)
 have he:∃q,h'.get? a=some q:=let⟨q,_,_,hq,_⟩:=jY;⟨q,hq⟩;exact 4.75
def ajR{v:V}{more:`Ì}{Q:`Ñ}(I:`Ë)(e:0.87)(ry:bA (kV k) u)(l:f6 kvs k=some v)(hm:more=[]\/∃x,more=[x])
 (h:∀w' s',az X ae σ (af H a (.dK (qi kvs k))) s'->bA v w'->Q w' s'):wpAny `Î A (call (.builtin "dict.pop") (.ref a::u::more)) Q E s:=by
 obtain⟨z,hd,vs,dH,dd⟩:=Fv I.aO e;obtain⟨w',hw,mM⟩:=jE.Io (v:=v) (o:=valueAt vs k) (by rw[<-l];exact dH.val k);have hp:(keyPart u).isSome=true:=by
  cases k with
  |inl i=>obtain⟨t,q⟩:=(show∃t,u='!' i t from ry);subst q;rfl
  |inr x=>obtain⟨t,q⟩:=(show∃t,u=Value.str x t from ry);subst q;rfl
 have ha:argsOk "dict.pop" ⟨.ref a::u::more,[]⟩:=by
  rcases hm with q|⟨x,q⟩
  .subst q;exact PySem.F.args_dict_pop_2 _ _
  .subst q;exact PySem.F.args_dict_pop_3 _ _ _
 refine call_meetsIn PySem.F.slot_dict_pop dd.typeIs PySem.F.entry_dict_pop ha (meets_dict_pop_there 1.6 a (tL ry) more hm hp)
  ⟨vs,w',dd,by rw[<-dH.length];exact z,hw,fun h' jY hs=>h w' _ ?_ mM⟩
 have he:∃q,h'.get? a=some q:=let⟨q,_,_,hq,_⟩:=jY;⟨q,hq⟩;exact 4.75
def ajP{Q:`Ñ}(I:`Ë)(e:Rd H a `Þ)(h:∀t s',az X ae σ H s'->Q (.int kvs.length t) s'):wpAny `Î A (call (.builtin "len") [.ref a]) Q E s:=by
 show `_cj;refine call_len_dict hd dd (by rw[<-dH.length];rw[EW]at z;omega) ?_;rw[<-dH.length];exact h _ _ (I.ii _)
end
def DL(i:Expr):Prop:=∀ov iv,subscripted i false ov iv=operate [ov,iv] (getItem ov iv)
def SV{prog:`Ô}{w:World}{A:Around}{E:`Ñ}{s:Shared}{am:Env}{value slice:Expr}{pos:Pos}{T id:String}{Q:`Ñ}
 (hl:typeLookup (.type T) "__getitem__"=pure (some 4.6)) (hs:DL slice)
 (h:wpAny `ò A (eval value am) (fun o bY=>wpAny `ò A (eval slice am) (fun i ie=>ie.TypeIs o T/\wpAny `ò A (getItem o i) Q E ie) E bY) E s):
 wpAny `ò A (eval (.Subscript value slice pos) am) Q E s:=by
 refine Subscript_ (kD h (fun o bY Gy=>kD Gy (fun i ie BE=>?_) fun _ _ x=>x) fun _ _ x=>x);obtain⟨hT,BE⟩:=BE;unfold subscriptTail;refine aI ?_;rw[getitemInPython_of_ne hT.not_modules];refine aI (wpAny_specialOf hT hl ?_);have fin:wpAny `ò A (subscripted slice false o i) (fun r ut=>wpAny `ò A (letTemporaryGo value o r>>=fun _=>pure r) Q E ut) E ie:=by
  rw[hs o i];exact wpAny_operating (kD BE (fun r ut Gz=>aI (wpAny_letTemporaryGo (br Gz))) fun _ _ x=>x)
 first
  |exact br (aI fin)
  |exact aI (br (aI fin))
  |exact aI fin
def ajY{X:Cx}{ae:`Ï}{σ:St}{H:Hp}{s:Shared}{a:Addr}{y:V}{o:Option V}(I:`Ë)(g:pU H a y o):s.TypeIs `_L "dict":=by
 rcases g with⟨kvs,k,e,_,_⟩|⟨kvs,k,b,e,_,_,_⟩
 .obtain⟨_,_,vs,_,dd⟩:=qh I.aO e;exact dd.typeIs
 .obtain⟨_,_,xs,_,dd⟩:=yu I.aO e;exact dd.typeIs
def dI(td ty:TE):TE:=fun σ H Q=>td σ H fun x H1=>ty σ H1 fun y H2=>∃a v,x=.ref a/\pU H2 a y (some v)/\Q v H2
def uu(ty td:TE):TE:=fun σ H Q=>ty σ H fun y H1=>td σ H1 fun x H2=>∃a o,x=.ref a/\pU H2 a y o/\Q (.bl o.isSome) H2
def C0(ty td:TE):TE:=fun σ H Q=>ty σ H fun y H1=>td σ H1 fun x H2=>∃a o,x=.ref a/\pU H2 a y o/\Q (.bl (!o.isSome)) H2
def lV(td ty tv:TE):TS:=fun D σ H=>tv σ H fun v H1=>td σ H1 fun x H2=>ty σ H2 fun y H3=>∃a H4,x=.ref a/\Js H3 a y v H4/\D.nx σ H4
section
variable{X:Cx}{o i e value:Expr}{pos kX jy:Pos}{td ty tv:TE}
def d_(hu:0.79)(ho:PE X o td)(hi:PE X i ty)(hs:DL i):PE X (.Subscript o i pos) (dI td ty):=by
 show `_af;refine SV Vv.lookup hs (a0 0.70 fun u s1 ⟨x,H1,I1,rx,q1⟩=>a0 (hi ae s1 σ H1 _ I1 q1) fun iv s2 ⟨y,H2,I2,ry,a,v,ex,g,q2⟩=>?_);show `_au;exact⟨ajY I2 g,ajN hu I2 g ry fun w' s3 I3 mM=>⟨v,H2,I3,mM,q2⟩⟩
def zF(hu:0.79)(hi:PE X i ty)(ho:PE X o td):PC X .In i o (uu ty td):=by
 show `_af;refine 3.76;show `_au;exact ajO hu I2 g ry fun s3 I3=>⟨.bl ov.isSome,H2,I3,rfl,q2⟩
def Q6(hu:0.79)(hi:PE X i ty)(ho:PE X o td):PC X .NotIn i o (C0 ty td):=by
 show `_af;refine 3.76;show `_au;exact ajQ hu I2 g ry fun s3 I3=>⟨.bl (!ov.isSome),H2,I3,rfl,q2⟩
def n0(hu:0.79)(ho:PE X o td)(hi:PE X i ty)(hv:PE X value tv)(hs:swapsWith value (some (.Subscript o i kX)) pos.line X.am=pure false):
 PS X (.Assign [.Subscript o i kX] value pos) (lV td ty tv):=by
 show `_aL;refine wpAny_Assign_Subscript (a0 (hv ae s σ H _ I h) fun r s1 ⟨v,H1,I1,rv,q1⟩=>a0 (ho ae s1 σ H1 _ I1 q1) fun u s2 ⟨x,H2,I2,rx,q2⟩=>a0 (hi ae s2 σ H2 _ I2 q2) fun iv s3 ⟨y,H3,I3,ry,a,H4,ex,g,q3⟩=>?_) hs;show `_au;exact ajS hu I3 g ry rv fun s4 I4=>⟨σ,H4,I4,q3⟩
end
def ajZ{P:`Ô}{w:World}{H:Hp}(h:Heap)(hb:sysModules<'~'):fG P w H (h.push {cls:=.type "dict",data:=.dict #[]}) h.objs.size `ü:=
 ⟨mn _,gO.mpr (aL (gb hb)),[],.nil,Heap.DictOf.new h⟩
def qJ:TE:=fun _ H Q=>∀p,H p=none->Q `Ü (af H p `ü)
section
variable{X:Cx}{pos:Pos}
def tT:PE X (.Dict [] [] pos) qJ:=fun ae s σ H Q I h=>
 wpAny_Dict_empty ⟨.ref `Í,_,I.jM (a:=`Í) (o:=.dK []) (t':=s.toks) (fun _ _ q=>cC _ q) (bp _) (ajZ s.heap I.sY),rfl,h _ ('?')⟩
end
structure M1(X:Cx)(o:Expr)(m:Str)(fQ:Pos)(e:Expr)(gd:Pos):Prop where
 base:attributeBase o m X.am (eval o X.am)=eval o X.am
 oU:((backTo gd (starEach [e] X.am)).all (fun x=>!x.1)&&(backToKw gd (keywordEach [] X.am)).all (fun x=>x.1.isSome)
  &&decide (([e]:List Expr).length+([]:List Keyword).length+(if([]:List Keyword).isEmpty then 0 else 1)<30))=true
 line:(fQ.endLine==gd.line)=true
 aft:backTo gd (starEach [e] X.am)=[9.9]
def xE(H:Hp)(a:Addr):Prop:=(∃kvs,Rd H a `Þ)\/∃kvs,Rd H a (.dT kvs)
def Z8{X:Cx}{ae:`Ï}{σ:St}{H:Hp}{s:Shared}{a:Addr}(I:`Ë)(d:xE H a):
 s.TypeIs `_L "dict"/\(∀b,`ä a=.ref b->∃ob,s.heap.get? b=some ob/\ob.dict=none)/\4.0=false:=by
 rcases d with⟨kvs,e⟩|⟨kvs,e⟩
 .obtain⟨_,hd,vs,_,dd⟩:=qh I.aO e;show `_bZ
 .obtain⟨_,hd,xs,_,dd⟩:=yu I.aO e;show `_bZ
def IS(td ty:TE):TE:=fun σ H Q=>td σ H fun x H1=>∃a,x=.ref a/\xE H1 a/\ty σ H1 fun y H2=>∃kvs k v,H2 a=some `Þ/\y=kV k/\f6 kvs k=some v/\Q v (af H2 a (.dK (qi kvs k)))
section
variable{X:Cx}{o e f:Expr}{fQ gd:Pos}{td ty tx:TE}
def aaQ(ho:PE X o td)(he:PE X e ty)(m:M1 X o "pop" fQ e gd):PE X (.Call (.Attribute o "pop" fQ) [e] [] gd) (IS td ty):=by
 show `_af;refine LP m.base m.oU m.line LG PySem.F.slot_dict_pop PySem.F.type_dict_pop (a0 0.70 fun u s1 ⟨x,H1,I1,rx,a,ex,d,q1⟩=>?_);show `_au;obtain⟨t1,t2,_⟩:=Z8 I1 d;refine⟨t1,t2,?_⟩;rw[m.aft];refine Vt rfl (Vu (yg (a0 (he ae s1 σ H1 _ I1 q1) fun iv s2 ⟨y,H2,I2,ry,kvs,k,v,ea,ey,l,q2⟩=>Av ?_)));subst ey;exact ajR I2 ea ry l `Λ fun w' s3 I3 mM=>⟨v,_,I3,mM,q2⟩
end
section
variable{X:Cx}{ae:List (Addr×Obj)}{σ:St}{H:Hp}{s:Shared}{h':Heap}
def az.afz{t':Nat}{ch:`ð}(I:`Ë)(k:∀b o,b∉ch->s.heap.get? b=some o->h'.get? b=some o)(hf:∀b∈ch,jT X ae H b):az X ae σ H {s with heap:=h',toks:=t'}:=by
 have tN:∀b u,H b=some u->b∉ch:=fun b u e z=>by
  have q:=(hf b z).1;rw[q]at e;cases e
 refine I.step (g':=s.gens) (d':=s.drawn) (ch:=ch) 3.99 (fun b o _ _ hc e _=>k b o hc e) (fun b o _ _ hc e _=>⟨o.slots,k b o hc e⟩)
  (fun _ _ _ _ n=>n) (fun b o hc e=>⟨o,k b o hc e⟩) (fun _ _ e=>e) (fun _ _ _ e=>e) (fun b ps e=>⟨#[],by rw[e];simp⟩) (fun m hm=>?_) (fun b u e=>?_) I.fu
 .obtain⟨o,es,ep,ho,r⟩:=hm;exact⟨o,es,ep,k _ o (fun z=>(hf _ z).2.1 rfl) ho,r⟩
 .refine 4.46;rcases hc with z|z
  .rw[z];exact tN b u e
  .exact tN c _ z
def az.To{t':Nat}{ch:`ð}{T:Addr}{ob:HO}(I:`Ë)(k:∀b o,b∉ch->s.heap.get? b=some o->h'.get? b=some o)(hf:∀b∈ch,jT X ae H b)(hT:`Í<=T)
 (new:fG X.prog X.w (af H T ob) h' T ob):az X ae σ (af H T ob) {s with heap:=h',toks:=t'}:=by
 have hn:H T=none:=I.aO.fresh hT;have tN:∀b u,H b=some u->b∉ch:=fun b u e z=>by
  have q:=(hf b z).1;rw[q]at e;cases e
 refine I.step (g':=s.gens) (d':=s.drawn) (ch:=ch) 3.99 (fun b o _ _ hc e _=>k b o hc e) (fun b o _ _ hc e _=>⟨o.slots,k b o hc e⟩)
  (fun b o _ e n=>?_) (fun b o hc e=>⟨o,k b o hc e⟩) (fun b xs e=>?_) (fun b o u e=>?_) (fun b ps e=>⟨#[],?_⟩) (fun m hm=>?_) (fun b u e=>?_) I.fu
 .rw[au (gb (iH (cI e) hT))];exact n
 .rw[au (aR e hn)];exact e
 .rw[au (aR e hn)];exact e
 .rw[au (aR e hn),e];simp
 .obtain⟨o,es,ep,ho,r⟩:=hm;exact⟨o,es,ep,k _ o (fun z=>(hf _ z).2.1 rfl) ho,r⟩
 .by_cases hb:b=T
  .subst hb;rw[ax]at e;cases e;exact new
  .rw[au hb]at e;refine(I.aO b u e).km (fun c v hc q=>k c v ?_ q) (fun c q=>2.31) fun c xs q=>by rw[au (aR q hn)];exact q
   rcases hc with z|z
   .rw[z];exact tN b u e
   .exact tN c _ z
def az.P9{d:Addr}{u:HO}(I:`Ë)(h:H d=some u)(mu:oC (some u)):∃od,az X ae σ 0.18 s:=by
 have x:=I.aO d u h;have ex:∃od,s.heap.get? d=some od:=by
  cases u with
  |ah xs=>obtain⟨_,_,_,_,e⟩:=x;exact⟨_,e⟩
  |dK kvs=>obtain⟨_,_,_,_,o,_,_,e,_⟩:=x;exact⟨o,e⟩
  |dT kvs=>obtain⟨_,_,_,_,o,_,_,e,_⟩:=x;exact⟨o,e⟩
  |set S n=>obtain⟨o,_,_,_,e,_⟩:=x;exact⟨o,e⟩
  |ins C dx fs=>obtain⟨_,_,_,e,_⟩:=x;exact⟨_,e⟩
  |ext φ=>obtain⟨_,⟨_,e⟩,_⟩:=x;exact⟨_,e⟩
  |_=>exact `_m mu
 obtain⟨od,e⟩:=ex;have new:fG X.prog X.w 0.18 s.heap d (.aN od u):=by
  refine⟨e,x.km (fun b v _ q=>q) (fun b q=>?_) fun b xs q=>?_⟩
  .rw[au (fun z=>by rw[z,h]at q;cases q;exact mu)];exact q
  .rw[au (fun z=>by rw[z,h]at q;cases q;exact mu)];exact q
 exact⟨od,I.sJ (x:=d) (e:=d) (t':=s.toks) (h':=s.heap) (by rw[h];exact mu) `Λ (fun b v _ q=>q) ⟨od,e⟩ new⟩
def az.Cd{d:Addr}{u:HO}(I:`Ë)(h:H d=some u)(mu:oC (some u)):∀o' u',X.sM d≠some (.aN o' u'):=fun o' u' e=>by
 have q:=I.base.jI d o' u' e;rw[h]at q;cases q;exact mu
def az.mX{d:Addr}{od:Obj}{u:HO}(I:`Ë)(h:H d=some (.aN od u))(hn:∀o' u',X.sM d≠some (.aN o' u')):az X ae σ (af H d u) s:=by
 have zx:∀b o,H b=some o->(∀o' u',o≠.aN o' u')->b≠d:=fun b o e cQ z=>by
  rw[z,h]at e;cases e;exact cQ _ _ rfl
 have neN:∀b,H b=none->b≠d:=fun b e z=>by rw[z,h]at e;cases e
 refine⟨I.ok,I.os,I.fu,⟨I.base.keep,I.base.kj,fun b o e n hx=>?_,I.base.there,fun b xs e=>?_,fun b o x e=>?_,fun b ps e=>?_⟩,I.iS,I.cell,?_,fun x c e=>?_,2.1,5.0,I.len⟩
 .rw[au (neN b (I.base.free b o e n hx))];exact I.base.free b o e n hx
 .have q:=I.base.oa b xs e;rw[au (zx b _ q (fun _ _ z=>nomatch z))];exact q
 .have q:=I.base.jI b o x e;rw[au (fun z=>by rw[z]at e;exact hn _ _ e)];exact q
 .obtain⟨m,q⟩:=I.base.mW b ps e;exact⟨m,by rw[au (zx b _ q (fun _ _ z=>nomatch z))];exact q⟩
 .rw[au (neN _ I.free)];exact I.free
 .rw[au (neN c (I.i8 x c e))];exact I.i8 x c e
 .obtain⟨e,n,r⟩:=I.pin p hp;exact⟨e,by rw[au (neN _ n)];exact n,r⟩
 .by_cases hb:b=d
  .rw[hb,ax]at e;cases e;rw[hb];obtain⟨_,x⟩:=I.aO d _ h;exact x.km (fun c v _ q=>q) 4.63 fun c xs q=>by rw[au (zx c _ q (fun _ _ z=>nomatch z))];exact q
  .rw[au hb]at e;exact(I.aO b o e).km (fun c v _ q=>q) 4.63 fun c xs q=>by rw[au (zx c _ q (fun _ _ z=>nomatch z))];exact q
end
def sI(t:TS):TS:=fun D σ H=>∃d u,H d=some u/\oC (some u)/\∀od,t 3.66 σ 0.18
def C4(t:TE):TE:=fun σ H Q=>∃d u,H d=some u/\oC (some u)/\∀od,t σ 0.18 fun v H'=>H' d=some (.aN od u)/\Q v (af H' d u)
section
variable{X:Cx}
def wc{st:Stmt}{t:TS}(h:PS X st t):PS X st (sI t):=by
 intro ae s σ H D I hw;obtain⟨d,u,hd,mu,hw⟩:=hw;obtain⟨od,I1⟩:=I.P9 hd mu;refine a0 (h ae s σ _ _ I1 (hw od)) fun f s1 q=>?_;cases f with
 |next=>obtain⟨aS,H',I2,e,q⟩:=q;exact 3.55
 |brk=>obtain⟨aS,H',I2,e,q⟩:=q;exact 3.55
 |cont=>obtain⟨aS,H',I2,e,q⟩:=q;exact 3.55
 |ret v=>obtain⟨x,aS,H',I2,r,e,q⟩:=q;exact⟨x,aS,_,I2.mX e (I.Cd hd mu),r,q⟩
def Ra{e:Expr}{t:TE}(h:PE X e t):PE X e (C4 t):=by
 intro ae s σ H Q I hw;obtain⟨d,u,hd,mu,hw⟩:=hw;obtain⟨od,I1⟩:=I.P9 hd mu;refine a0 (h ae s σ _ _ I1 (hw od)) fun v s1 ⟨x,H1,I2,r,e2,q⟩=>?_;exact⟨x,_,I2.mX e2 (I.Cd hd mu),r,q⟩
def HB{tg:Expr}{ae:`Ï}{σ:St}{H:Hp}{s:Shared}{R:`å}{J:It}{tn:Nat->Heap->Prop}{tk:Nat}(I:`Ë)(o:Obj)
 (T:oP X.prog X.w X.K tg J [`Í] s.heap.objs.size tn) (st:tn 0 (s.heap.push o)) (q:R J H):As X ae σ tg R 5.1 {s with heap:=s.heap.push o,toks:=tk}:=by
 refine⟨`Í,[`Í],tn,J,H,rfl,I.kept fun b ob e=>cC _ e,T,st,'%',q⟩;have e:b=`Í:=`_C;subst e;exact I.ql (bp _) ('?')
end
section
variable{prog:Program}{w:World}{A:Around}{E:Value->Shared->Prop}{s:Shared}
def GK{d:Addr}{o:Obj}{es:`Ξ}{ep:Nat}{Q:`Ñ}(hd:(d==sysModules)=false)(ho:s.heap.get? d=some o)(hc:5.8)(Zm:0.75)
 (hQ:Q 5.1 {s with heap:=s.heap.push {cls:=.type "dict_keyiterator",data:=.fields #[.ref d,.int 0 0,.int es.size 0,.int ep 0]}}):
 wpAny `ò A (pyIter (.ref d)) Q E s:=by
 have hT:s.TypeIs (.ref d) "dict":=⟨o,ho,hc.1⟩;refine wpAny_pyIter_slot hT F.slot_dict_iter (oH F.slot_dict_iter hT F.entry_dict_iter ?_ (F.args_dict_iter_1 _));unfold Builtin.«dict.__iter__»;refine aI ?_;unfold Builtin.Dict.dictSlotNone;refine aI (wpAny_notOrdered_dict hT ?_);show wpAny _ _ (pure (`ä d)) _ _ s;refine br ?_;show wpAny _ _ (Builtin.Dict.showsAll d>>=_) _ _ s;unfold Builtin.Dict.showsAll;rw[aq (by rw[hd];exact eM)];refine aI (br ?_);refine aI (EY ho Zm ?_);refine aI (EZ ho Zm ?_);refine aI (AB (br ⟨_,rfl,"dict_keyiterator",_,⟨_,`Ė,rfl⟩,q_.lookup,?_⟩));simpa [rawInt]using hQ
def ap8{it d:Addr}{i n ep:Nat}{od:Obj}{es:`Ξ}{en:DictEntry}{Q:Option Value->Shared->Prop}(cE:s.heap.IsKeyIter it d i n ep)(gH:s.heap.get? d=some od)(qr:od.data=.dict es ep)
 (hsz:es.size=n) (hx:es[i]? =some en) (hQ:∀h',h'.IsKeyIter it d (i+1) n ep->Heap.SameBut it s.heap h'->Q (some en.key) {s with heap:=h'}):wpAny `ò A (pyNext `_s) Q E s:=by
 obtain⟨o,ho,hc,hd⟩:=id cE;unfold pyNext;refine aI (LQ (u6 (name:=0.55) cE.typeIs q_
  2.20))
 refine aI (br ?_);refine aI ?_;refine aI ?_
 first|refine aI 6.8|refine 6.7
 show `_ae;show `_bn;refine br ?_;obtain⟨Gh,O1⟩:=Array.getElem?_eq_some_iff.mp hx;simp only[show¬((i:Int)<0)from by omega,pq,eB,Tx Gh];refine aI ?_
 first|refine aI 6.8|refine 6.7
 refine aI (LU cE.typeIs ?_);show wpAny _ _ (setField `_s 1 (rawInt ((i:Int)+1))>>=_) _ _ s;refine aI 1.38;have vF:(s.heap.update it (Obj.mapFields (·.setIfInBounds 1 (rawInt ((i:Int)+1))))).IsKeyIter it d (i+1) n ep:=
  2.75
 refine aI (Az ?_);refine aI (LU (s:={s with heap:=s.heap.update it (Obj.mapFields (·.setIfInBounds 1 (rawInt ((i:Int)+1))))}) vF.typeIs ?_);show wpAny _ _ (pure es[i].key) _ _ _;rw[O1];exact br (br ⟨_,rfl,br (hQ _ vF (rb ..))⟩)
def aay{it d:Addr}{i n ep:Nat}{od:Obj}{es:`Ξ}{Q:Option Value->Shared->Prop}(hh:0.28)(cE:s.heap.IsKeyIter it d i n ep)(gH:s.heap.get? d=some od)(qr:od.data=.dict es ep)
 (hsz:es.size=n) (Bh:n<=i) (hQ:∀h',Heap.ExtBut it s.heap h'->Q none {s with heap:=h'}):wpAny `ò A (pyNext `_s) Q E s:=by
 obtain⟨o,ho,hc,hd⟩:=id cE;unfold pyNext;refine aI (LQ (u6 (name:=0.55) cE.typeIs q_
  2.20))
 refine aI (br ?_);refine aI ?_;refine aI ?_
 first|refine aI 6.8|refine 6.7
 show `_ae;show `_bn;refine br ?_;have alG:es.size<=i:=by rw[hsz];exact Bh
 simp only[show¬((i:Int)<0)from by omega,pq,eB,Array.getElem?_eq_none alG];refine aI ?_
 first|refine aI 6.8|refine 6.7
 show wpAny _ _ (setField `_s 0 .none>>=_) _ _ s;refine aI 1.38;show wpAny _ _ (newExc (.type "StopIteration") []>>=_) _ _ _;refine aI ?_;show `_aU;rw[show A.in1.handled=none from hh];refine aI (br (wpAny_throw ?_));refine aI (wpAny_isInstance (T:="StopIteration") (b:=true) ⟨_,`Ė,rfl⟩ isSubtype_stop ?_);exact br (hQ _ (((rb ..).extBut.push _).push _))
end
def ı{κ:Type}{kvs:`_G}{vs:3.7}(h:KV kvs vs):∀{i:Nat}{k:κ}{v:V},kvs[i]? =some (k,v)->∃u,vs[i]? =some (k,u)/\bA v u:=by
 unfold KV at h
 induction h with
 |nil=>intro i k v e;simp at e
 |@cons a b l₁ l₂ r t ih=>
  intro i k v e;cases i with
  |zero=>
   simp only[xK,Option.some.injEq]at e;subst e;refine⟨b.2,?_,r.2⟩;simp only[xK];exact fv some (Prod.ext r.1.symm rfl)
  |succ j=>
   simp only[agd]at e⊢;exact ih e
def ar8{α β:Type}{G:α->β->Prop}{l₁:`ċ}{l₂:List β}(h:Paired G l₁ l₂):∀{i:Nat}{a:α},l₁[i]? =some a->∃b,l₂[i]? =some b/\G a b:=by
 induction h with
 |nil=>intro i a e;simp at e
 |@cons a b l₁ l₂ r t ih=>
  intro i a' e;cases i with
  |zero=>
   simp only[xK,Option.some.injEq]at e;subst e;exact⟨b,rfl,r⟩
  |succ j=>
   simp only[agd]at e⊢;exact ih e
def ab8{k:aW}{u:Value}(h:r_ k u=true):bA (kV k) u:=by
 rcases pz h with⟨i,t,rfl,rfl⟩|⟨x,t,rfl,rfl⟩
 .exact 0.1
 .exact 0.1
section
variable{X:Cx}{ae:List (Addr×Obj)}{σ:St}{H:Hp}{s:Shared}{d:Addr}{o:Obj}
def az.rH{kvs:`â}(I:`Ë)(h:H d=some `ė):
 (d==sysModules)=false/\s.heap.get? d=some o/\5.8/\∃(es:`Ξ)(ep:Nat)(vs:`Θ),o.data=.dict es ep/\es.size=`Ö/\KV kvs vs/\s.heap.DictAt 1.6 d vs ep:=by
 obtain⟨hd,z,hs,vs,kv,o',es,ep,ho,hx,dX,r⟩:=I.aO d _ h;rw[hd]at ho;cases ho;refine⟨hs,hd,hx,es,ep,vs,dX,?_,kv,o,es,hd,hx,dX,r⟩;have l1:=r.2.1.length;have l2:`Ö=`õ:=mr kv;rw[zZ]at l1;omega
def az.OE{kvs:1.4}(I:`Ë)(h:H d=some (.aN o (.dT kvs))):
 (d==sysModules)=false/\s.heap.get? d=some o/\5.8/\∃(es:`Ξ)(ep:Nat),o.data=.dict es ep/\es.size=`Ö/\
  ∀(i:Nat)(k:List aW)(v:V),kvs[i]? =some (k,v)->∃(en:DictEntry)(q:Addr),es[i]? =some en/\en.key=.ref q/\H q=some 8.1:=by
 obtain⟨hd,z,hs,xs,pr,o',es,ep,ho,hx,dX,he,_⟩:=I.aO d _ h;rw[hd]at ho;cases ho;refine⟨hs,hd,hx,es,ep,dX,?_,fun i k v e=>?_⟩
 .have l1:es.size=`Ã:=size_of_entries he;have l2:`Ö=`Ã:=mr pr;omega
 .obtain⟨b,hb,e1,e2,_⟩:=ar8 pr e;have q:=entry_at he i;rw[hb]at q;exact⟨_,b.2.1,q,rfl,e2⟩
end
def qT(d:Addr)(o:Obj)(kvs:`â):It:=
 ⟨fun i H=>H d=some `ė/\i<`Ö,fun i H x H'=>H'=H/\∃k v,kvs[i]? =some (k,v)/\x=kV k,fun i H=>H d=some `ė/\`Ö<=i⟩
def KN(d:Addr)(o:Obj)(kvs:1.4):It:=
 ⟨fun i H=>H d=some (.aN o (.dT kvs))/\i<`Ö,fun i H x H'=>H'=H/\∃(k:List aW)(v:V)(q:Addr),kvs[i]? =some (k,v)/\x=.ref q/\H q=some 8.1,fun i H=>H d=some (.aN o (.dT kvs))/\`Ö<=i⟩
def xF(d:Addr)(o:Obj)(kvs:`â):It:=
 ⟨fun i H=>H d=some `ė/\i<`Ö,fun i H x H'=>H'=H/\∃k,kvs[i]? =some (k,x),fun i H=>H d=some `ė/\`Ö<=i⟩
def tp{o:Obj}{es jq:`Ξ}{ep jZ:Nat}(h:0.75)(h':o.data=.dict jq jZ):jq=es/\jZ=ep:=by
 rw[h]at h';cases h';exact `_x
section
variable{P:Program}{w:World}{K:Frag}{tg:Expr}{d:Addr}{o:Obj}{es:Array DictEntry}{ep:Nat}
def afy{kvs:`â}(it:Addr)(gH:0.75):oP P w K tg (qT d o kvs) [it] it (fun i h=>h.IsKeyIter it d i kvs.length ep) where
 mem:=`Õ
 obj:=fun i h st b hb=>by
  show `_bu
 keep:=2.97
 item:=by
  show `_aZ;refine wpAny_pyNext_dict_item st hm hu fun key h' Bl jR sb=>?_;show `_be;refine⟨key,rfl,yP (s:=0.82) e c dd `Æ ⟨kV k,H,I1,ab8 (show r_ k key=true from Bl),⟨rfl,k,v,tG,rfl⟩,?_,0.69⟩⟩;show h'.IsKeyIter it d (i+1) kvs.length _;rw[hl];exact jR
 done:=by
  show `_ag;exact aay `_E st iY dX hsz hi fun h' eb=>2.69
 self:=fun A i s Q E st h=>wpAny_pyIter_keyiter st h
def auK{kvs:1.4}(it:Addr)(gH:0.75):oP P w K tg (KN d o kvs) [it] it (fun i h=>h.IsKeyIter it d i kvs.length ep) where
 mem:=`Õ
 obj:=fun i h st b hb=>by
  show `_bu
 keep:=2.97
 item:=by
  show `_bs;obtain⟨⟨k,v⟩,tG⟩:∃p,kvs[i]? =some p:=⟨kvs[i],jU hi⟩;obtain⟨en,q,O1,Bl,hq⟩:=M8 i k v tG;refine ap8 st iY dX hsz O1 fun h' jR sb=>?_;show `_be;exact⟨en.key,rfl,yP (s:=0.82) e c dd `Æ ⟨.ref q,H,I1,Bl,⟨rfl,k,v,q,tG,rfl,hq⟩,jR,0.69⟩⟩
 done:=by
  show `_bs;exact aay `_E st iY dX hsz hi fun h' eb=>2.69
 self:=fun A i s Q E st h=>by
  refine wpAny_pyIter_slot st.typeIs F.slot_dict_keyiterator_iter (oH F.slot_dict_keyiterator_iter st.typeIs F.entry_dict_keyiterator_iter ?_ (F.args_dict_keyiterator_iter_1 _));show wpAny _ _ (ret `_s) _ _ s;exact br ⟨_,rfl,"dict_keyiterator",_,st.typeIs,q_.lookup,h⟩
def auP{kvs:`â}(it:Addr)(gH:0.75):oP P w K tg (xF d o kvs) [it] it (fun i h=>h.IsValIter it d i kvs.length ep) where
 mem:=`Õ
 obj:=fun i h st b hb=>by
  show `_bu
 keep:=2.97
 item:=by
  show `_aZ;refine wpAny_pyNext_values_item st hm hu fun h' jR sb=>?_;show `_be;refine⟨u,rfl,yP (s:=0.82) e c dd `Æ ⟨v,H,I1,ru,⟨rfl,k,tG⟩,?_,0.69⟩⟩;show h'.IsValIter it d (i+1) kvs.length _;rw[hl];exact jR
 done:=by
  show `_ag;have hl:`Ö=`õ:=mr kv;rw[hl]at st;exact wpAny_pyNext_values_end `_E st hm (uQ `È) fun h' eb=>2.69
 self:=fun A i s Q E st h=>wpAny_pyIter_valiter st h
end
def vP(td:TE):TI:=fun σ H R=>td σ H fun x H1=>∃d o,x=.ref d/\3.89
def BG(td:TE):TI:=fun σ H R=>td σ H fun x H1=>∃d o kvs,x=.ref d/\H1 d=some `ė/\R (xF d o kvs) H1
section
variable{X:Cx}{tg e:Expr}{td:TE}{fQ gd:Pos}
def Cu(he:PE X e td):PI X tg e (vP td):=by
 show `_bY;refine a0 '1' fun u s1 ⟨x,H1,I1,rx,d,o,ex,q⟩=>?_;subst ex;obtain rfl:u=`ä d:=rx;rcases q with⟨kvs,hd,q⟩|⟨kvs,hd,q⟩
 .obtain⟨hs,iY,hx,es,ep,vs,dX,hsz,kv,hm⟩:=I1.rH hd;refine GK hs iY hx dX (HB (tk:=s1.toks) I1 _ (afy _ dX) ⟨_,`Ė,rfl,?_⟩ q);rw[hsz]<;>rfl
 .obtain⟨hs,iY,hx,es,ep,dX,hsz,M8⟩:=I1.OE hd;refine GK hs iY hx dX (HB (tk:=s1.toks) I1 _ (auK _ dX) ⟨_,`Ė,rfl,?_⟩ q);rw[hsz]<;>rfl
def Rc(he:PE X e td)(A9:attributeBase e "values" X.am (eval e X.am)=eval e X.am:=by rfl)(Bo:(fQ.endLine==gd.line)=true:=by rfl):PI X tg (.Call 2.34 [] [] gd) (BG td):=by
 show `_bY;refine LP (T:="dict") (id:="dict.values") A9 rfl Bo LG LH F.type_dict_values (a0 '1' fun u s1 ⟨x,H1,I1,rx,d,o,kvs,ex,hd,q⟩=>?_);subst ex;obtain rfl:u=`ä d:=rx;obtain⟨hs,iY,hx,es,ep,vs,dX,hsz,kv,hm⟩:=I1.rH hd;show `_as;have fin:wpAny `Î X.A (pyIter (.ref `ê)) (As X ae σ tg R) X.xe {s1 with heap:=s1.heap.push {cls:=.type "dict_values",data:=.fields #[.ref d]}}:=by
  refine wpAny_pyIter_values (d:=d) (knd:=d7 X.prog X.w) 1.34 (hm.push _) (HB (tk:=s1.toks) I2 _ (auP _ dX) ⟨_,`Ė,rfl,?_⟩ q);rw[hl]<;>rfl
 show wpAny _ _ (callWith gd (.builtin "dict.values") [.ref d] [] []) _ X.xe s1;exact method_meetsIn LH F.entry_dict_values rfl (PySem.evalArgs_none ⟨rfl,hm.dictOf.typeIs,F.args_dict_values_1 _,_,meets_dict_values 1.6 d hs,⟨vs,hm.dictOf⟩,fin⟩)
end
def Al(K:Frag)(a:Addr):It:=
 ⟨fun i H=>∃(xs:List V)(x:V),aG K H a xs/\xs[i]? =some x,fun i H v H'=>∃T x,v=.ref T/\H T=none/\H'=af H T 1.35/\∀xs,aG K H a xs->xs[i]? =some x,fun i H=>∃xs:List V,aG K H a xs/\`Ã<=i⟩
def auJ{P:`Ô}{w:World}{K:Frag}{kK:`_h}{kk:Nat}{jy:Pos}(a e it:Addr):
 oP P w K 7.7 (Al K a) [e,it] e (fun i h=>(∃old,IsEnum h e it 0.66 old)/\h.IsListIter it a i/\e≠it) where
 mem:=`Õ
 obj:=fun i h st b hb=>by
  obtain⟨⟨old,he⟩,⟨o,ho,hc,hd⟩,_⟩:=st;have e':b=e\/b=it:=`_C;rcases e' with z|z
  .rw[z];exact⟨_,he,0.21⟩
  .rw[z];exact⟨o,ho,fun v q=>by rw[hd]at q;cases q⟩
 keep:=fun i h h' st k=>let⟨⟨old,he⟩,hi,cQ⟩:=st;⟨⟨old,k e `Ç _ he⟩,hi.at fun o q=>k it (by simp) o q,cQ⟩
 item:=by
  show `_ab;obtain⟨⟨old,he⟩,cE,cQ⟩:=st;show `_ch;have Zq:e<`Í:=cI he;have mD:it<`Í:=by obtain⟨_,q,_⟩:=cE;exact cI q
  refine wpAny_pyNext_enum_item he cE p.isList (x:=u) (by simpa using hu) cQ fun h' ho vF hT hsz hk=>?_;refine⟨_,rfl,wpAny_letOwnedTupleGo_enum (s:={s with heap:=h',toks:=s.toks+1}) ho fun nD he' sb=>?_⟩;have iW:nD.get? `Í=some {cls:=.type "tuple",data:=.seq #[.int i s.toks,u]}:=(sb.2 _ (uY Zq)).trans hT;have new:fG X.prog X.w (af H s.heap.objs.size 1.35) nD s.heap.objs.size 1.35:=
   ⟨by show 2<=sizeLine;decide,[.int i s.toks,u],.cons `_o (.cons ru .nil),⟨_,iW,rfl,_,rfl⟩⟩
  have I1:az X ae σ (af H s.heap.objs.size 1.35) {s with heap:=nD,toks:=s.toks+1}:=
   I.To (ch:=[e,it]) (fun b ob hb q=>(sb.2 b (fun z=>hb (by simp[z]))).trans (hk b ob (fun z=>hb (by simp[z])) (fun z=>hb (by simp[z])) q)) hf (bp _) new
  refine⟨.ref `Í,_,I1,rfl,⟨_,x,rfl,'?',rfl,fun ys hy=>by rw[I.GX hy hq];exact hx⟩,⟨⟨u,?_⟩,vF.at fun o q=>(sb.2 it (aL cQ)).trans q,cQ⟩,'%'⟩
  .have e1:((i+1:Nat):Int)=(i:Int)+1:=`Å;rw[e1];exact he'
  .have fc:b<`Í:=by
    have e':b=e\/b=it:=`_C;rcases e' with z|z
    .rw[z];exact Zq
    .rw[z];exact mD
   rw[au (gb fc)];exact(hf b hb).1
 done:=by
  show `_ab;obtain⟨⟨old,he⟩,cE,cQ⟩:=st;obtain⟨xs,hq,hx⟩:=hg;obtain⟨its,rv,p,hz⟩:=I.list hq;show `_ak;have hl:=rv.length;exact wpAny_pyNext_enum_end `_E he cE p.isList (`_3) fun h' eb=>⟨rfl,I.turned (t':=s.toks) (fun b o hb q=>eb b o hb q) f0 f1 f3 f4 f5⟩
 self:=fun A i s Q E st h=>let⟨⟨_,he⟩,_⟩:=st;wpAny_pyIter_enum he h
def vO(K:Frag)(ta:TA):TI:=fun σ H R=>ta σ H fun vs H1=>∃a xs,vs=[.ref a]/\aG K H1 a xs/\R (Al K a) H1
def Ct{X:Cx}{e:Expr}{ta:TA}{p pos jy:Pos}{kK:`_h}{kk:Nat}(hg:Gl X "enumerate")(hm:X.mg "enumerate"=none)(ha:PA X [e] ta)(hs:starEach [e] X.am=[9.9]:=by rfl):
 PI X 7.7 (.Call (.Name "enumerate" p) [e] [] pos) (vO X.K ta):=by
 show `_bY;refine Call_ (si I hg hm boot_enumerate (yf 3.64 hs rfl));obtain⟨a,xs,ex,hq,q⟩:=q1;subst ex;cases r1 with
 |cons r rr=>
  cases rr;cases r;obtain⟨its,rv,p',hz⟩:=I1.list hq;refine call_enumerate_list p'.isList fun h' he cE hsz hk=>wpAny_pyIter_enum he ?_;have I2:az X ae σ H1 {s1 with heap:=h'}:=I1.kept (t':=s1.toks) hk;refine⟨`ê+1,[`ê+1,`ê],_,_,H1,rfl,I2,auJ a (`ê+1) `ê,⟨⟨.none,he⟩,cE,Nat.succ_ne_self _⟩,'%',q⟩;have e':b=`ê+1\/b=`ê:=`_C;have pb:`ê<=b:=by
   rcases e' with z|z
   .rw[z];exact DG _ _
   .rw[z];exact bp _
  exact I1.ql pb (I1.aO.fresh pb)
def Mi:bootBuiltins "zip"=some (.type "zip"):=`ē
def Am(K:Frag)(a b:Addr):It:=
 ⟨fun i H=>∃(xs ys:List V)(x y:V),aG K H a xs/\aG K H b ys/\xs[i]? =some x/\ys[i]? =some y,
  fun i H v H'=>∃T x y,v=.ref T/\H T=none/\H'=af H T 1.7/\(∀xs,aG K H a xs->xs[i]? =some x)/\∀ys,aG K H b ys->ys[i]? =some y,
  fun i H=>∃xs ys:List V,aG K H a xs/\aG K H b ys/\(`Ã<=i\/`ø<=i)⟩
def auQ{P:`Ô}{w:World}{K:Frag}{kK:`_h}{kk:Nat}{jy:Pos}{a b z TI TO i1 i2:Addr}(D:ZipApart z TI TO i1 i2 a b):
 oP P w K 7.7 (Am K a b) [z,TI,TO,i1,i2] z (fun i h=>IsZip h z TI TO .none/\IsPair h TI (.ref i1) (.ref i2)/\(∃x y,IsPair h TO x y)/\h.IsListIter i1 a i/\h.IsListIter i2 b i) where
 mem:=`Õ
 obj:=fun i h st c hc=>by
  obtain⟨hz,gS,⟨x,y,i9⟩,⟨o1,e1,_,d1⟩,⟨o2,e2,_,d2⟩⟩:=st;have e':c=z\/c=TI\/c=TO\/c=i1\/c=i2:=by simpa using hc
  rcases e' with q|q|q|q|q
  .rw[q];exact⟨_,hz,0.21⟩
  .rw[q];exact⟨_,gS,0.21⟩
  .rw[q];exact⟨_,i9,0.21⟩
  .rw[q];exact⟨o1,e1,fun v q=>by rw[d1]at q;cases q⟩
  .rw[q];exact⟨o2,e2,fun v q=>by rw[d2]at q;cases q⟩
 keep:=fun i h h' st k=>by
  obtain⟨hz,gS,⟨x,y,i9⟩,h1,h2⟩:=st;exact⟨k z `Ç _ hz,k TI `Ç _ gS,⟨x,y,k TO `Ç _ i9⟩,h1.at fun o q=>k i1 (by simp) o q,h2.at fun o q=>k i2 (by simp) o q⟩
 item:=by
  show `_ba;obtain⟨xs,ys,x,y,pi,qx,hx,hy⟩:=hg;obtain⟨its,rv,p,_⟩:=I.list pi;obtain⟨j6,t_,p2,_⟩:=I.list qx;obtain⟨u,hu,ru⟩:=rv.get hx;obtain⟨u2,hu2,ru2⟩:=t_.get hy;have BD:z<`Í:=cI hz;refine wpAny_pyNext_zip_item D hz gS i9 h1 h2 p.isList p2.isList (x:=u) (y:=u2) (by simpa using hu) (by simpa using hu2) fun h' z' LY FX h2' hT hsz hk=>?_;refine⟨_,rfl,wpAny_letOwnedTupleGo_zip (s:=0.82) z' fun nD Tw sb=>?_⟩;have iW:nD.get? `Í=some {cls:=.type "tuple",data:=.seq #[u,u2]}:=(sb.2 _ (uY BD)).trans hT;have new:fG X.prog X.w 1.96 nD s.heap.objs.size 1.7:=
   ⟨by show 2<=sizeLine;decide,[u,u2],.cons ru (.cons ru2 .nil),⟨_,iW,rfl,_,rfl⟩⟩
  have I1:az X ae σ 1.96 {s with heap:=nD}:=
   I.To (t':=s.toks) (ch:=[z,TI,TO,i1,i2]) 4.18 hf (bp _) new
  refine⟨.ref `Í,_,I1,rfl,⟨_,x,y,rfl,'?',rfl,fun l hl=>by rw[I.GX hl pi];exact hx,fun l hl=>by rw[I.GX hl qx];exact hy⟩,⟨Tw,?_,⟨u,u2,?_⟩,?_,?_⟩,fun c nE=>?_⟩
  .exact(sb.2 _ D.TIz).trans (hk _ _ D.TIz D.TITO D.TIi1 D.TIi2 gS)
  .exact(sb.2 _ D.TOz).trans LY
  .exact FX.at fun o q=>(sb.2 _ D.i1z).trans q
  .exact h2'.at fun o q=>(sb.2 _ D.i2z).trans q
  .have cz:c<`Í:=by
    have e':c=z\/c=TI\/c=TO\/c=i1\/c=i2:=by simpa using nE
    rcases e' with q|q|q|q|q
    .rw[q];exact BD
    .rw[q];exact cI gS
    .rw[q];exact cI i9
    .rw[q];obtain⟨_,e1,_⟩:=h1;exact cI e1
    .rw[q];obtain⟨_,e2,_⟩:=h2;exact cI e2
   rw[au (gb cz)];exact(hf c nE).1
 done:=by
  show `_ba;obtain⟨xs,ys,pi,qx,alD⟩:=hg;obtain⟨its,rv,p,_⟩:=I.list pi;obtain⟨j6,t_,p2,_⟩:=I.list qx;have l1:=rv.length;have l2:=t_.length;have he:its.toArray[i]? =none\/j6.toArray[i]? =none:=by
   rcases alD with q|q
   .exact .inl (`_3)
   .exact .inr (`_3)
  exact wpAny_pyNext_zip_end `_E D hz gS i9 h1 h2 p.isList p2.isList he fun h' hk=>⟨rfl,I.afz (t':=s.toks) (ch:=[z,TI,TO,i1,i2]) (fun c o hb q=>
   hk c o ';' ';' ';' ';' q) hf⟩
 self:=fun A i s Q E st h=>LW st.1 h
def Px(K:Frag)(ta:TA):TI:=fun σ H R=>ta σ H fun vs H1=>∃a b xs ys,vs=4.3/\aG K H1 a xs/\aG K H1 b ys/\R (Am K a b) H1
def aso{X:Cx}{e e2:Expr}{ta:TA}{p pos jy:Pos}{kK:`_h}{kk:Nat}(hg:Gl X "zip")(hm:X.mg "zip"=none)(ha:PA X [e,e2] ta)
 (hs:3.13:=by rfl) (eW:(backTo pos (starEach [e2] X.am)).any (·.1)=false:=by rfl):
 PI X 7.7 3.35 (Px X.K ta):=by
 show `_bY;refine 2.64;obtain⟨a,b,xs,ys,ex,pi,qx,q⟩:=q1;subst ex;cases r1 with
 |cons r rr=>
  cases rr with
  |cons r' rr=>
   cases rr;cases r;cases r';obtain⟨its,rv,p1,_⟩:=I1.list pi;obtain⟨j6,t_,p2,_⟩:=I1.list qx;have la:a<`ê:=p1.lt;have lb:b<`ê:=p2.lt;refine call_zip_2 p1.isList p2.isList fun h' hz gS i9 h1 h2 hsz hk=>LW hz ?_;have I2:az X ae σ H1 {s1 with heap:=h'}:=I1.kept (t':=s1.toks) hk;refine⟨`ê+4,[`ê+4,`ê+2,`ê+3,`ê,`ê+1],_,_,H1,rfl,I2,auQ (PySem.W.ktu_apart s1.heap.objs.size a b la lb),⟨hz,gS,⟨_,_,i9⟩,h1,h2⟩,fun c nE=>?_,q⟩;have e':c=`ê+4\/c=`ê+2\/c=`ê+3\/c=`ê\/c=`ê+1:=by simpa using nE
   have pb:`ê<=c:=by
    rcases e' with z|z|z|z|z
    .rw[z];exact DG _ _
    .rw[z];exact DG _ _
    .rw[z];exact DG _ _
    .rw[z];exact bp _
    .rw[z];exact DG _ _
   exact I1.ql pb (I1.aO.fresh pb)
end L2
section
end
section
namespace TL
open PySem PySem.Builtin PySem.Builtin.Str PySem.StrLaws
end TL
end
namespace L2
open PySem PySem.Spec PyProof.Rows
section
variable{X:Cx}
end
end L2
namespace Att
open PySem PySem.W PySem.Calls PyProof.Rows
section
variable{prog:Program}{w:World}{A:Around}{E:Value->Shared->Prop}{s:Shared}{K:Frag}
end
end Att
namespace L2
open PySem PySem.Spec PyProof.Rows
def dA(s:Stmt)(j:Nat):Stmt:=match s with
 |.ClassDef _ _ _ body _ _ _ _ _ _ _=>body.getD j (.Pass ⟨0,0,0,0⟩)
 |_=>.Pass ⟨0,0,0,0⟩
def vg(s:Stmt):Arguments:=match s with
 |.FunctionDef _ a _ _ _ _ _ _ _ _=>a
 |_=>{posonlyargs:=[],args:=[],vararg:=none,kwonlyargs:=[],kw_defaults:=[],kwarg:=none,defaults:=[]}
def dO(s:Stmt):List Stmt:=match s with
 |.FunctionDef _ _ b _ _ _ _ _ _ _=>b
 |_=>[]
def gQ(s:Stmt):Scope:=match s with
 |.FunctionDef _ _ _ _ _ _ sc _ _ _=>sc
 |_=>{kind:=.function,names:=[],isGenerator:=false,isCoroutine:=false}
abbrev gY:pQ:=fun _ _ _ _ _ _=>False
abbrev E0:XK:=fun _ _ _=>False
def bf{X:Cx}:oG gY X E0:=fun _ _ _ _ _ _ _ h=>h.elim
structure cj(K:Frag)(x qual:Str)(st:Stmt)(f:Addr)(fd:FuncData):Prop where
 ex:∃(oc:Value)(od:5.7)(kV doc pm:Value)(an:5.7)(dk ct:Value)(kW:1.40),
  fd=fnOf x qual (vg st) (dO st) (gQ st) .none kV doc pm an dk ct/\K.lookup f=some ⟨oc,od,.func fd,kW⟩/\codeIn K dk qual=true
 kp:keepIn K `æ=true
section
variable{P:Program}{w:World}{K:Frag}{mg:Str->Option Value}{base:Heap}
def cj.ok{x qual:Str}{st:Stmt}{f:Addr}{fd:`ě}{N ps:`ô}{k:Nat}{sp:Sp}(F:0.73)(S:pW N ps (gQ st))(len:3.26)
 (oX:∀(dk:Value)(A:Around)(bK:`_W)(s:Shared)(H:Hp)(vs:List V)(Q:VK)(E:XK),cH k (2.96)->sp vs H Q E->
  ∃t,jD (tj gY P w K mg base N qual (gQ st) f dk A bK s H E).Cg (dO st) t/\t {nx:=fun _ H'=>Q .aX H',rt:=Q} (start N vs) H):f9 P w K mg base gY (k+1) f fd ps sp:=by
 show `_bU;refine YS lk j3 S len fun A bK s H vs Q E hr qy=>?_;obtain⟨t,h,q⟩:=oX dk A bK s H vs Q E hr qy;exact⟨t,h.Cg,q⟩
def cj.vb{x qual:Str}{st:Stmt}{f:Addr}{fd:`ě}{ps:`ô}(F:0.73)
 (h:∀(kV doc pm:Value)(an:5.7)(dk ct:Value)(us:`Ì),us.length=`_z->bindArgs 0.97 ⟨us,[]⟩=pure (ps.zip us)):i4 K fd ps []:=by
 show `_bU;exact .all (h kV doc pm an dk ct)
def YX{x qual:Str}{st:Stmt}{f:Addr}{oc:Value}{od an:5.7}{kW:1.40}{kV doc pm dk ct:Value}(l:K.lookup f=some ⟨oc,od,.func 0.97,kW⟩)
 (c:codeIn K dk qual=true) (k:keepIn K `æ=true):cj K x qual st f 0.97:=⟨⟨oc,od,kV,doc,pm,an,dk,ct,kW,rfl,l,c⟩,k⟩
end
def ZQ{A:Around}{k:Nat}(hr:cH k A):A.units+1<cLine:=oF (Vn (by decide:1<=64) _) hr.units
def kl{n:Nat}(h:n<=1000):n<sizeLine:=oF h `Æ
section
variable{X:Cx}
def pv(i:Nat){x:Str}{pos:Pos}(hN:4.2:=by rfl)(hv:yk X.am.scope x:=by first|exact Or.inl rfl|exact Or.inr `ο|exact Or.inr 2.0)(hd:`_u:=by decide)
 (j3:(x==("__classdict__":Str))=false:=by decide):PE X 8.8 (aa i):=asn hN hv hd j3
def Fd:l9 X (.builtin "len") (4.43):=by
 show `_bA;obtain⟨u,rfl,ru⟩:=zW r;cases ru;exact ajP I (.inl ha) fun t s' I'=>⟨.int `Ö,H,I',0.1,q⟩
end
def nJ{A B:Prop}(h:B):if false=true then A else B:=by
 rw[aq eM];exact h
def rY{A B:Prop}(h:A):if true=true then A else B:=by
 rw[ay rfl];exact h
def ag(H H':Hp):Prop:=∀b o,H b=some o->H' b=some o
def ag.refl(H:Hp):ag H H:=fun _ _ h=>h
def ag.trans{H H1 H2:Hp}(a:ag H H1)(b:ag H1 H2):ag H H2:=fun c o h=>b c o (a c o h)
def ag.free{H H':Hp}(e:`Ć){l:Addr}(h:H' l=Option.none):H l=Option.none:=by
 cases q:H l with
 |none=>rfl
 |some o=>
  rw[e l o q]at h;cases h
def ag.seq{K:Frag}{H H':Hp}{a:Addr}{xs:List V}(e:`Ć)(h:aG K H a xs):aG K H' a xs:=by
 rcases h with(h|⟨o,h⟩)|h
 .exact .inl (.inl (e _ _ h))
 .exact .inl (.inr ⟨o,e _ _ h⟩)
 .exact .inr h
def aat{α:Type}{l:`ċ}(hN:l.Nodup){i j:Nat}{x:α}(a:l[i]? =some x)(b:l[j]? =some x):i=j:=by
 show `_bS
end L2
end
section
section
namespace L2
open PySem PySem.Spec PyProof.Rows
open PySem.W (WData Codec OpenSpec Well WellAll ReadsW ReadsAllW)
mutual
inductive Dw (K:Frag)(H:Hp):V->WData->Prop
 |aX:Dw K H .aX .none
 |bl (b:Bool):Dw K H (.bl b) (.bool b)
 |int (i:Int):Dw K H (.int i) (.int i)
 |str (x:Str):Dw K H (.str x) (.str x)
 |jn (b:Array UInt8):Dw K H (.jn b) (.bytes b.toList)
 |ah {a:Addr} {xs:List V} {ds:List WData}:aG K H a xs->ou K H xs ds->Dw K H (.ref a) (.list ds)
 |bb {a:Addr} {xs:List V} {ds:List WData}:bF K H a xs->ou K H xs ds->Dw K H (.ref a) (.tuple ds)
inductive ou (K:Frag)(H:Hp):List V->List WData->Prop
 |nil:ou K H [] []
 |cons {v:V} {vs:List V} {d:WData} {ds:List WData}:Dw K H v d->ou K H vs ds->ou K H (v::vs) (d::ds)
end
def aj4{K:Frag}{H:Hp}:∀ns:List Int,ou K H `ι (ns.map WData.int)
 |[]=>.nil
 |n::r=>.cons (.int n) (aj4 r)
def amf{K:Frag}{H:Hp}:∀(ns:`Ê)(xs:List V),ou K H xs (ns.map WData.int)->xs=ns.map V.int
 |[],xs,h=>by
  cases h;rfl
 |n::r,xs,h=>by
  cases h with
  |cons h1 h2=>
   cases h1;rw[amf r _ h2]<;>rfl
section
variable{P:Program}{w:World}{K:Frag}{H:Hp}{h:Heap}{R:WRecords}{cl:Str->Option Addr}
def auj{a:Addr}{xs:List V}(aO:`_r)(KX:K.In h)(q:aG K H a xs):∃(its:`Ì)(o:Obj)(n:Nat),bx xs its/\h.get? a=some o/\o.cls=.type "list"/\o.data=.seq its.toArray n:=by
 rcases q with q|⟨o,its,n,e,hc,_,hd,_,hv⟩
 .obtain⟨_,its,n,hv,e⟩:=(show fG P w H h a `Ē from q.ok aO);exact⟨its,_,n,hv,e,rfl,rfl⟩
 .exact⟨its.toList,o,n,hv,KX _ _ e,hc,by simp[hd]⟩
def auk{a:Addr}{xs:List V}(aO:`_r)(KX:K.In h)(q:bF K H a xs):∃(its:`Ì)(o:Obj)(n:Nat),bx xs its/\h.get? a=some o/\o.cls=.type "tuple"/\o.data=.seq its.toArray n:=by
 rcases q with q|⟨o,its,n,e,hc,hd,_,hv⟩
 .obtain⟨_,its,hv,o,e,hc,n,hd⟩:=(show fG P w H h a (.bb xs)from q.ok aO);exact⟨its,o,n,hv,e,hc,hd⟩
 .exact⟨its.toList,o,n,hv,KX _ _ e,hc,by simp[hd]⟩
mutual
def Dw.t7(aO:`_r)(KX:K.In h):∀(d:WData)(v:V)(u:Value),Dw K H v d->bA v u->∃as,ReadsW R cl h u d as
 |.none,_,_,x,r=>by
  cases x;cases r;exact⟨_,ReadsW.none⟩
 |.bool b,_,_,x,r=>by
  cases x;cases r;exact⟨_,ReadsW.bool b⟩
 |.int i,_,_,x,r=>by
  cases x;show `_ci;exact⟨_,ReadsW.int i t⟩
 |.str s,_,_,x,r=>by
  cases x;show `_ci;exact⟨_,ReadsW.str s t⟩
 |.bytes b,_,_,x,r=>by
  cases x;show `_ci;exact⟨_,ReadsW.bytes _ t⟩
 |.list ds,_,_,x,r=>by
  cases x with
  |ah hs ha=>
   cases r;obtain⟨its,o,n,rv,ho,hc,hd⟩:=auj aO KX hs;obtain⟨as,hr⟩:=Dw.wk aO KX ds _ its ha rv;exact⟨_,ReadsW.list ho hc hd hr⟩
 |.tuple ds,_,_,x,r=>by
  cases x with
  |bb hs ha=>
   cases r;obtain⟨its,o,n,rv,ho,hc,hd⟩:=auk aO KX hs;obtain⟨as,hr⟩:=Dw.wk aO KX ds _ its ha rv;exact⟨_,ReadsW.tuple ho hc hd hr⟩
 |.float _,_,_,x,_=>by cases x
 |.dict _,_,_,x,_=>by cases x
 |.bytearray _,_,_,x,_=>by cases x
 |.set _,_,_,x,_=>by cases x
 |.frozenset _,_,_,x,_=>by cases x
 |.obj _ _,_,_,x,_=>by cases x
def Dw.wk(aO:`_r)(KX:K.In h):∀(ds:List WData)(vs:List V)(us:`Ì),ou K H vs ds->bx vs us->∃as,ReadsAllW R cl h us ds as
 |[],_,_,x,r=>by
  cases x;cases r;exact⟨_,ReadsAllW.nil⟩
 |d::ds,_,_,x,r=>by
  cases x with
  |cons h1 h2=>
   cases r with
   |cons r1 r2=>
    obtain⟨as,q1⟩:=Dw.t7 aO KX d _ _ h1 r1;obtain⟨bs,q2⟩:=Dw.wk aO KX ds _ _ h2 r2;exact⟨_,ReadsAllW.cons q1 q2⟩
end
end
mutual
def lU:WData->Bool
 |.none=>true
 |.bool _=>true
 |.int _=>true
 |.str _=>true
 |.bytes _=>true
 |.list xs=>nZ xs
 |.tuple xs=>nZ xs
 |_=>false
def nZ:List WData->Bool
 |[]=>true
 |x::r=>lU x&&nZ r
end
def aa0{α:Type}{f:α->WData}(h:∀a,lU (f a)=true):∀l:List α,nZ (l.map f)=true
 |[]=>rfl
 |x::r=>by
  show(lU (f x)&&nZ (r.map f))=true;rw[h x,aa0 h r]<;>rfl
def tU:∀(c:Codec)(a:c.denote),lU (c.enc a)=true
 |.unit,_=>rfl
 |.bool,_=>rfl
 |.int _ _,_=>rfl
 |.nat _ _,_=>rfl
 |.u8,_=>rfl
 |.bytes _ _,_=>rfl
 |.text _ _ _ _,_=>rfl
 |.list _ _ c,a=>aa0 (fun x=>tU c x) a
 |.pair c d,a=>by
  show(lU (c.enc a.1)&&(lU (d.enc a.2)&&true))=true;rw[tU c a.1,tU d a.2]<;>rfl
 |.triple c d e,a=>by
  show(lU (c.enc a.1)&&(lU (d.enc a.2.1)&&(lU (e.enc a.2.2)&&true)))=true;rw[tU c a.1,tU d a.2.1,tU e a.2.2]<;>rfl
 |.option c,none=>rfl
 |.option c,some x=>tU c x
def aa1:∀(cs:List Codec)(a:Codec.denoteAll cs),nZ (Codec.encAll cs a)=true
 |[],_=>rfl
 |c::cs,a=>by
  show(lU (c.enc a.1)&&nZ (Codec.encAll cs a.2))=true;rw[tU c a.1,aa1 cs a.2]<;>rfl
def Ts:∀{xs:List WData}{d:WData},d∈xs->d.weight<=WData.weightAll xs
 |[],d,h=>absurd h `Ç
 |x::r,d,h=>by
  show d.weight<=x.weight+1+WData.weightAll r;rcases bE.mp h with e|m
  .rw[e];omega
  .have z:=Ts m;omega
def jx:Value->V
 |.none=>.aX
 |.bool b=>.bl b
 |.int i _=>.int i
 |.str x _=>.str x
 |.bytes b _=>.jn b
 |.ref a=>.ref a
 |_=>.aX
def mq(A:`ð):Value->Prop
 |.none=>True
 |.bool _=>True
 |.int _ _=>True
 |.str _ _=>True
 |.bytes _ _=>True
 |.ref a=>a∈A
 |_=>False
def mq.aD{A B:`ð}(h:∀a∈A,a∈B):∀{u:Value},mq A u->mq B u:=fun{u} x=>by
 cases u with
 |ref a=>exact h a x
 |none=>trivial
 |bool b=>trivial
 |int i t=>trivial
 |str s t=>trivial
 |bytes b t=>trivial
 |_=>exact `_m x
def asW{A:`ð}{u:Value}(x:mq A u):bA (jx u) u:=by
 cases u with
 |ref a=>rfl
 |none=>rfl
 |bool b=>rfl
 |int i t=>exact 0.1
 |str s t=>exact 0.1
 |bytes b t=>exact 0.1
 |_=>exact `_m x
def zX{A:`ð}:∀{vs:`Ì},0.19->bx (vs.map jx) vs
 |[],_=>.nil
 |u::r,h=>.cons (asW (h u (im ..))) (zX fun x hx=>h x (gr _ hx))
def oh(h:Heap)(A:`ð)(a:Addr):Prop:=∃vs:List Value,`õ<=sizeLine/\0.19/\
 (h.get? a=some {cls:=.type "list",data:=.seq `_c}\/h.get? a=some {cls:=.type "tuple",data:=.seq `_c})
def oh.aD{h:Heap}{A B:`ð}{a:Addr}(k:∀a∈A,a∈B)(x:oh h A a):oh h B a:=by
 obtain⟨vs,h1,h2,h3⟩:=x;exact⟨vs,h1,fun u hu=>(h2 u hu).aD k,h3⟩
def Jf{P:Params}{h:Heap}:∀{vs:`Ì}{ds:List WData},WellAll P h vs ds->`õ=ds.length
 |_,_,.nil=>rfl
 |_,_,.cons _ b=>by
  show _+1=_+1;rw[Jf b]
def afF{P:Params}{h:Heap}{v:Value}{ds:List WData}(x:Well P h v (.list ds)):∃(a:Addr)(vs:`Ì),v=.ref a/\h.get? a=some {cls:=.type "list",data:=.seq `_c}/\WellAll P h vs ds:=by
 cases x with
 |list ho mB=>exact⟨_,_,rfl,ho,mB⟩
def afG{P:Params}{h:Heap}{v:Value}{ds:List WData}(x:Well P h v (.tuple ds)):∃(a:Addr)(vs:`Ì),v=.ref a/\h.get? a=some {cls:=.type "tuple",data:=.seq `_c}/\WellAll P h vs ds:=by
 cases x with
 |tuple ho mB=>exact⟨_,_,rfl,ho,mB⟩
def afE{P:Params}{h:Heap}{us:`Ì}{d:WData}{ds:List WData}(x:WellAll P h us (d::ds)):∃(v:Value)(vs:`Ì),us=v::vs/\Well P h v d/\WellAll P h vs ds:=by
 cases x with
 |cons a b=>exact⟨_,_,rfl,a,b⟩
def Ł{n:Nat}(h:n<=1048576):n<=sizeLine:=bq h `Æ
section
variable{P:Params}{h:Heap}
mutual
def ais:∀(d:WData)(v:Value),Well P h v d->lU d=true->d.weight<=1048576->∃A:List Addr,mq A v/\∀a∈A,oh h A a
 |.none,_,x,_,_=>by
  cases x;exact 1.12
 |.bool b,_,x,_,_=>by
  cases x;exact 1.12
 |.int i,_,x,_,_=>by
  cases x;exact 1.12
 |.str s,_,x,_,_=>by
  cases x;exact 1.12
 |.bytes b,_,x,_,_=>by
  cases x;exact 1.12
 |.list ds,_,x,p,z=>by
  obtain⟨a,vs,rfl,ho,mB⟩:=afF x;show `_ax
  .rw[e];exact⟨vs,Ł (by rw[Jf mB];exact bq (aij ds) z2),fun u hu=>(h1 u hu).aD k,.inl ho⟩
  .exact(h2 b m).aD k
 |.tuple ds,_,x,p,z=>by
  obtain⟨a,vs,rfl,ho,mB⟩:=afG x;show `_ax
  .rw[e];exact⟨vs,Ł (by rw[Jf mB];exact bq (aij ds) z2),fun u hu=>(h1 u hu).aD k,.inr ho⟩
  .exact(h2 b m).aD k
 |.float _,_,_,p,_=>`Δ '8'
 |.dict _,_,_,p,_=>`Δ '8'
 |.bytearray _,_,_,p,_=>`Δ '8'
 |.set _,_,_,p,_=>`Δ '8'
 |.frozenset _,_,_,p,_=>`Δ '8'
 |.obj _ _,_,_,p,_=>`Δ '8'
def E8:∀(ds:List WData)(vs:`Ì),WellAll P h vs ds->nZ ds=true->(∀d∈ds,d.weight<=1048576)->∃A:List Addr,0.19/\∀a∈A,oh h A a
 |[],_,x,_,_=>by
  cases x;exact⟨[],fun u m=>absurd m `Ç,fun a m=>absurd m `Ç⟩
 |d::ds,_,x,p,z=>by
  obtain⟨v,vs,rfl,x1,x2⟩:=afE x;have q:lU d=true/\nZ ds=true:=Bool.and_eq_true_iff.mp p;obtain⟨A,a1,a2⟩:=ais d v x1 q.1 (z d (im ..));obtain⟨B,b1,b2⟩:=E8 ds vs x2 q.2 fun e he=>z e (gr _ he);have Ħ:∀b∈A,b∈A++B:=fun b hb=>cK.mpr (.inl hb);have ħ:∀b∈B,b∈A++B:=fun b hb=>cK.mpr (.inr hb);refine⟨A++B,fun u hu=>?_,'%'⟩
  .rcases bE.mp hu with e|m
   .rw[e];exact a1.aD Ħ
   .exact(b1 u m).aD ħ
  .rcases cK.mp hb with m|m
   .exact(a2 b m).aD Ħ
   .exact(b2 b m).aD ħ
end
end
def Gi(o:Obj):Option HO:=match o.data with
 |.seq vs _=>if(o.cls==Value.type "list")=true then some (.aN o (.ah (vs.toList.map jx)))else some (.aN o (.bb (vs.toList.map jx)))
 |_=>none
def lx(K:Frag)(h:Heap)(A:`ð):Hp:=fun b=>if b∈A then(if(K.lookup b).isNone=true then(h.get? b).bind Gi else none)else none
def ZE(vs:`Ì):Gi {cls:=.type "list",data:=.seq `_c}=some (.aN {cls:=.type "list",data:=.seq `_c} (.ah (vs.map jx))):=by
 show(if(Value.type "list"==Value.type "list")=true then some (HO.aN {cls:=.type "list",data:=.seq `_c} (.ah 2.41))else some (HO.aN {cls:=.type "list",data:=.seq `_c} (.bb 2.41)))=_;rw[ay (beq_self_eq_true _)]
def ZF(vs:`Ì):Gi {cls:=.type "tuple",data:=.seq `_c}=some (.aN {cls:=.type "tuple",data:=.seq `_c} (.bb (vs.map jx))):=by
 show(if(Value.type "tuple"==Value.type "list")=true then some (HO.aN {cls:=.type "tuple",data:=.seq `_c} (.ah 2.41))else some (HO.aN {cls:=.type "tuple",data:=.seq `_c} (.bb 2.41)))=_;rw[aq (by decide)]
section
variable{P:Program}{w:World}{K:Frag}{h:Heap}{A:List Addr}
def E9{b:Addr}{o:Obj}(hb:b∈A)(hk:K.lookup b=none)(e:h.get? b=some o):lx K h A b=Gi o:=by
 unfold lx;rw[ay hb,hk,ay (show(none:Option Obj).isNone=true from rfl),e]<;>rfl
def aqd{b:Addr}{u:HO}(q:lx K h A b=some u):b∈A/\K.lookup b=none:=by
 unfold lx at q;by_cases hb:b∈A
 .rw[ay hb]at q;cases hk:K.lookup b with
  |none=>exact⟨hb,rfl⟩
  |some o=>
   rw[hk,aq (by simp)]at q;cases q
 .rw[aq hb]at q;cases q
def VN(ar:0.83){b:Addr}{u:HO}(q:lx K h A b=some u):K.lookup b=none/\∃vs:List Value,`õ<=sizeLine/\0.19/\
 (
  (h.get? b=some {cls:=.type "list",data:=.seq `_c}/\u=.aN {cls:=.type "list",data:=.seq `_c} (.ah (vs.map jx)))\/
  (h.get? b=some {cls:=.type "tuple",data:=.seq `_c}/\u=.aN {cls:=.type "tuple",data:=.seq `_c} (.bb (vs.map jx)))):=by
 obtain⟨hb,hk⟩:=aqd q;obtain⟨vs,h1,h2,h3⟩:=ar b hb;refine⟨hk,vs,h1,h2,?_⟩;rcases h3 with e|e
 .rw[E9 hb hk e,ZE]at q;exact .inl ⟨e,(bZ q).symm⟩
 .rw[E9 hb hk e,ZF]at q;exact .inr ⟨e,(bZ q).symm⟩
def ait(ar:0.83):dJ P w (lx K h A) h:=fun b u q=>by
 obtain⟨_,vs,h1,h2,⟨e,rfl⟩|⟨e,rfl⟩⟩:=VN ar q
 .exact⟨e,by rw[aJ];exact h1,vs,_,zX h2,e⟩
 .exact⟨e,by rw[aJ];exact h1,vs,zX h2,_,e,rfl,_,rfl⟩
def Il{c c':Value}{vs us:`Ì}(e:(some {cls:=c,data:=.seq `_c}:Option Obj)=some {cls:=c',data:=.seq us.toArray}):c=c'/\vs=us:=by
 have e1:=bZ e;have e2:c=c':=fv Obj.cls e1;have e3:Data.seq `_c=Data.seq us.toArray:=fv Obj.data e1;injection e3 with e4
 refine⟨e2,?_⟩;have e5:=fv Array.toList e4;simpa using e5
def aiu(KX:K.In h)(ar:0.83){a:Addr}{vs:`Ì}(ha:a∈A)(e:h.get? a=some {cls:=.type "list",data:=.seq `_c}):0.19/\aG K (lx K h A) a (vs.map jx):=by
 obtain⟨us,h1,h2,h3⟩:=ar a ha;have hu:us=vs:=by
  rcases h3 with q|q
  .rw[e]at q;exact(Il q).2.symm
  .rw[e]at q;exact absurd (LL (Il q).1) `Æ
 subst hu;refine⟨h2,?_⟩;cases hk:K.lookup a with
 |none=>exact .inl (.inr ⟨_,by rw[E9 ha hk e,ZE]⟩)
 |some o=>
  have e2:=KX a o hk;rw[e]at e2;obtain rfl:=bZ e2;exact .inr ⟨_,us.toArray,_,hk,rfl,rfl,rfl,by rw[fP];exact h1,by simpa using zX h2⟩
def aiv(KX:K.In h)(ar:0.83){a:Addr}{vs:`Ì}(ha:a∈A)(e:h.get? a=some {cls:=.type "tuple",data:=.seq `_c}):0.19/\bF K (lx K h A) a (vs.map jx):=by
 obtain⟨us,h1,h2,h3⟩:=ar a ha;have hu:us=vs:=by
  rcases h3 with q|q
  .rw[e]at q;exact absurd (LL (Il q).1) `Æ
  .rw[e]at q;exact(Il q).2.symm
 subst hu;refine⟨h2,?_⟩;cases hk:K.lookup a with
 |none=>exact .inl (.inr ⟨_,by rw[E9 ha hk e,ZF]⟩)
 |some o=>
  have e2:=KX a o hk;rw[e]at e2;obtain rfl:=bZ e2;exact .inr ⟨_,us.toArray,_,hk,rfl,rfl,by rw[fP];exact h1,by simpa using zX h2⟩
mutual
def aj5{Pm:Params}(KX:K.In h)(ar:0.83):∀(d:WData)(v:Value),Well Pm h v d->lU d=true->mq A v->Dw K (lx K h A) (jx v) d
 |.none,_,x,_,_=>by
  cases x;exact .aX
 |.bool b,_,x,_,_=>by
  cases x;exact .bl b
 |.int i,_,x,_,_=>by
  cases x;exact .int i
 |.str s,_,x,_,_=>by
  cases x;exact .str s
 |.bytes b,_,x,_,_=>by
  cases x;have z:=Dw.jn (K:=K) (H:=lx K h A) b.toArray;exact z
 |.list ds,_,x,p,hu=>by
  obtain⟨a,vs,rfl,ho,mB⟩:=afF x;obtain⟨h2,hs⟩:=aiu KX ar hu ho;exact .ah hs (Fy KX ar ds _ mB p h2)
 |.tuple ds,_,x,p,hu=>by
  obtain⟨a,vs,rfl,ho,mB⟩:=afG x;obtain⟨h2,hs⟩:=aiv KX ar hu ho;exact .bb hs (Fy KX ar ds _ mB p h2)
 |.float _,_,_,p,_=>`Δ '8'
 |.dict _,_,_,p,_=>`Δ '8'
 |.bytearray _,_,_,p,_=>`Δ '8'
 |.set _,_,_,p,_=>`Δ '8'
 |.frozenset _,_,_,p,_=>`Δ '8'
 |.obj _ _,_,_,p,_=>`Δ '8'
def Fy{Pm:Params}(KX:K.In h)(ar:0.83):∀(ds:List WData)(vs:`Ì),WellAll Pm h vs ds->nZ ds=true->0.19->ou K (lx K h A) (vs.map jx) ds
 |[],_,x,_,_=>by
  cases x;exact .nil
 |d::ds,_,x,p,hu=>by
  obtain⟨v,vs,rfl,x1,x2⟩:=afE x;have q:lU d=true/\nZ ds=true:=Bool.and_eq_true_iff.mp p;exact .cons (aj5 KX ar d v x1 q.1 (hu _ (im ..))) (Fy KX ar ds vs x2 q.2 fun u m=>hu u (gr _ m))
end
end
def aon{ds:List WData}(h:WData.layableAll ds=true):∀d∈ds,d.weight<=1048576:=fun d hd=>
 (PySem.W.layableW_iff.mp (f_.mp h d hd)).2.2
def Yv:∀(cs:List Codec)(a:Codec.denoteAll cs),(Codec.encAll cs a).length=`ë
 |[],_=>rfl
 |c::cs,a=>by
  show(Codec.encAll cs a.2).length+1=`ë+1;rw[Yv cs a.2]
end L2
end
end
section
namespace L2
open PySem PySem.Spec PyProof.Rows
abbrev t5:R2:=cu fun i j=>.bl (decide (i<j))
abbrev zI:R2:=cu fun i j=>.bl (decide (i<=j))
abbrev we:R2:=cu fun i j=>.bl (decide (j<i))
abbrev R8:R2:=cu fun i j=>.bl (decide (j<=i))
def ab2:R2:=fun x y H Q=>y=.aX/\Q (.bl (decide (x=.aX))) H
def R_:R2:=fun x y H Q=>y=.aX/\Q (.bl (!decide (x=.aX))) H
def IV(K:Frag)(ta:TE):TT:=fun σ H Q=>ta σ H fun x H'=>∃k,E4 K x H' k/\Q k H'
def gW(K:Frag):List V->Hp->VK->Prop:=fun xs H Q=>∃p ys,xs=`Ċ/\(aG K H p ys\/bF K H p ys)/\Q (.int `ø) H
def CG:List V->Hp->VK->Prop:=4.43
def Pq{A:Around}{k:Nat}(hr:cH k A):A.units+64<cLine:=hr.units
def al7{A:Around}{k:Nat}(hr:cH k A):A.units+65<cLine:=by have:=hr.un;omega
section
variable{X:Cx}
def de{x:Str}{i:Int}{pos:Pos}(hg:Gl X x)(h:∃t,X.mg x=some (.int i t))(hd:`_u:=by decide):PE X 8.8 (tC `_A):=by
 obtain⟨t,h⟩:=h;exact mH hg h 0.1 hd
def adC(P:`Ô)(w:World)(K:Frag)(mg:`þ)(base:Heap)(A:Around)(tn:TE)(t:TA):TE:=fun σ H Q=>tn σ H fun v H1=>∃(f:Addr)(fd:`ě)(ps:`ô)(sp:Sp)(k:Nat),v=.ref f/\
 f9 P w K mg base gY k f fd ps sp/\cH k A/\keepIn K `æ=true/\i4 K fd ps []/\t σ H1 fun vs H2=>sp vs H2 Q E0
def asd{x:Str}{p pos:Pos}{e:Expr}{es:`_h}{tn:TE}{t:TA}(hx:oG gY X E0)(hn:PE X (.Name x p) tn)(ha:'3')
 (he:`ψ:=by rfl) (eW:('-').any (·.1)=false:=by rfl):
 PE X 0.8 (adC X.prog X.w X.K X.mg X.base X.A tn t):=by
 show `_af;refine qb (a0 (hn ae s σ H _ I h) fun u s0 ⟨v,H0,I0,r0,f,fd,ps,sp,k,ev,F,hr,hk,hb,q0⟩=>?_);subst ev;obtain rfl:u=`ä f:=r0;refine ET (h₀:=X.base) I0.ok.mod.vR hk (a0 (ha pos ae s0 σ H0 _ I0 q0) fun us s1 ⟨vs,H1,I1,r,q⟩=>⟨I1.hZ,?_⟩) he eW;exact 4.44
def PF:∀{kvs:`â}{vs:`Θ}{its:`Ì}{P:`Ô}{w:World},KV kvs vs->its.length=`õ->(∀(j:Nat)(v:Value),its[j]? =some v->∃k x,vs[j]? =some (k,x)/\(d7 P w).is k v=true)->bx 1.18 its
 |[],_,its,_,_,r,hl,h=>by
  cases r;cases its with
  |nil=>exact .nil
  |cons a b=>simp at hl
 |p::kvs,_,its,P,w,r,hl,h=>by
  cases r with
  |@cons _ q _ qs h1 t=>
   cases its with
   |nil=>simp at hl
   |cons a b=>
    refine .cons ?_ (PF (P:=P) (w:=w) t (by simpa using hl) fun j v e=>?_)
    .obtain⟨k,x,e1,e2⟩:=h 0 a rfl;have qj:q=(k,x):=bZ e1;subst qj;have hk:p.1=k:=h1.1;show bA (kV p.1) a;rw[hk];rcases pz (show r_ k a=true from e2)with⟨i,t,rfl,e⟩|⟨i,t,rfl,e⟩
     .rw[e];exact 0.1
     .rw[e];exact 0.1
    .obtain⟨k,x,e1,e2⟩:=h (j+1) v e;exact⟨k,x,e1,e2⟩
def Ģ:∀{kvs:`â}{vs:`Θ}{its:`Ì},KV kvs vs->its.length=`õ->(∀(j:Nat)(v:Value),its[j]? =some v->∃k,vs[j]? =some (k,v))->bx (kvs.map (·.2)) its
 |[],_,its,r,hl,h=>by
  cases r;cases its with
  |nil=>exact .nil
  |cons a b=>simp at hl
 |p::kvs,_,its,r,hl,h=>by
  cases r with
  |@cons _ q _ qs h1 t=>
   cases its with
   |nil=>simp at hl
   |cons a b=>
    refine .cons ?_ (Ģ t (by simpa using hl) fun j v e=>?_)
    .obtain⟨k,e1⟩:=h 0 a rfl;have qj:q=(k,a):=bZ e1;subst qj;exact h1.2
    .obtain⟨k,e1⟩:=h (j+1) v e;exact⟨k,e1⟩
def MY{ae:`Ï}{σ:St}{H:Hp}{s:Shared}{a:Addr}{kvs:`â}(I:`Ë)(h:Rd H a `Þ):4.0=false/\`Ö<=sizeLine/\∃(vs:`Θ)(ep:Nat),KV kvs vs/\s.heap.DictAt 1.6 a vs ep:=by
 obtain⟨z,hs,vs,kv,o',es,ep,ho,hx,dX,r⟩:=qh I.aO h;exact⟨hs,z,vs,ep,kv,o',es,ho,hx,dX,r⟩
def wg:List V->Hp->VK->Prop:=fun xs H Q=>∃a kvs,xs=[V.ref a]/\Rd H a `Þ/\∀l,H l=none->Q (.ref l) (af H l (.ah 1.18))
def AI(hc:`_S):l9 X (.type "list") wg:=by
 show `_bA;show `_cd;refine PySem.W.kdl_call (PySem.W.kdl_dict hs) `_E hm `È fun h' tk AE c' hk qo tD=>?_;have hv:=PF kv (its:=AE.toList) (P:=X.prog) (w:=X.w) (by rw[zZ];exact tD.1) fun j v e=>tD.2 j v (by rw[<-Jp];exact e);exact⟨.ref `Í,_,I.jM (t':=tk) hk (bp _) (show fG X.prog X.w _ h' _ (.ah 1.18)from 4.32),rfl,q _ ('?')⟩
def xk(td:TE):TE:=fun σ H Q=>td σ H fun x H1=>∃a kvs,x=.ref a/\Rd H1 a `Þ/\∀l,H1 l=none->Q (.ref l) (af H1 l (.ah (kvs.map (·.2))))
def Cq{e:Expr}{td:TE}{p pos fQ gd:Pos}(hc:`_S)(hg:Gl X "list")(hm:X.mg "list"=none)(he:PE X e td)(A9:attributeBase e "values" X.am (eval e X.am)=eval e X.am:=by rfl)(Bo:(fQ.endLine==gd.line)=true:=by rfl)
 (iC:starEach [.Call 2.34 [] [] gd] X.am=[(false,eval (.Call 2.34 [] [] gd) X.am)]:=by rfl):
 PE X (.Call (.Name "list" p) [.Call 2.34 [] [] gd] [] pos) (xk td):=by
 show `_af;refine qb (si I hg hm (u:=.type "list") (`ē) ?_);refine yf ?_ iC rfl;rw[iC];refine yg ?_;refine LP (T:="dict") (id:="dict.values") A9 rfl Bo LG LH F.type_dict_values (a0 '1' fun u s1 ⟨x,H1,I1,rx,d,kvs,ex,hd,q⟩=>?_);subst ex;obtain rfl:u=`ä d:=rx;obtain⟨hs,z,vs,ep,kv,hm⟩:=MY I1 hd;show `_as;have fin:wpAny `Î X.A (call (.type "list") [.ref `ê]) `_v X.xe {s1 with heap:=s1.heap.push {cls:=.type "dict_values",data:=.fields #[.ref d]}}:=by
  refine PySem.W.kdl_call (PySem.W.kdl_values (knd:=d7 X.prog X.w) (kvs:=vs) (ep:=ep) (d:=d)) `_E ⟨1.34,hm.push _⟩ `È fun h' tk AE c' hk qo tD=>?_;have hv:=Ģ kv (its:=AE.toList) (by rw[zZ];exact tD.1) fun j v e=>tD.2 j v (by rw[<-Jp];exact e);exact⟨.ref _,_,I2.jM (t':=tk) hk (bp _) (show fG X.prog X.w _ h' _ (.ah (kvs.map (·.2)))from 4.32),rfl,q _ (I2.aO.fresh (bp _))⟩
 show wpAny _ _ (callWith gd (.builtin "dict.values") [.ref d] [] []) _ X.xe s1;exact method_meetsIn LH F.entry_dict_values rfl (PySem.evalArgs_none ⟨rfl,hm.dictOf.typeIs,F.args_dict_values_1 _,_,meets_dict_values 1.6 d hs,⟨vs,hm.dictOf⟩,Av fin⟩)
def R9(K:Frag)(neg:Bool):R2:=fun x y H Q=>∃d ds,Dp K H x d/\Dp K H y (.list ds)/\SeqAt.shaped d=true/\SeqAt.shaped (.list ds)=true/\Q (.bl (if neg then !(ds.any fun e=>PyData.eqv e d)else ds.any fun e=>PyData.eqv e d)) H
def ar3(hu:X.A.units+65<cLine):fq X (compareOp .NotIn) (R9 X.K true):=by
 show `_ah;obtain⟨d,ds,hd,he,sd,se,q⟩:=h;obtain⟨as,r1⟩:=Dp.t7 I d x v hd rx;obtain⟨bs,r2⟩:=Dp.t7 I (.list ds) y u he ry;exact SeqAt.notIn_list_reads r2 r1 (SeqAt.canLay_of_shaped se) (SeqAt.canLay_of_shaped sd) (room_in_shaped sd hu) ⟨.bl _,H,I,rfl,q⟩
def S0(w:World)(P:`Ô)(K:Frag)(td ty:TE):TE:=fun σ H Q=>td σ H fun x H1=>ty σ H1 fun y H2=>∃(a b:Addr)(k:List aW)(v:V),x=.ref a/\y=.ref b/\H2 b=some 8.1/\
 (∃(o:Obj)(es:`Ξ)(ep:Nat)(xs:2.8)(p:Addr×Value),K.lookup a=some o/\5.8/\o.data=.dict es ep/\es.toList=xs.map (entryOfKey (1.2))/\
  3.70/\(xs.map (·.1)).Nodup/\atKey xs k=some p/\bA v p.2)/\Q v H2
def ash{o i:Expr}{pos:Pos}{td ty:TE}(hu:0.79)(ho:PE X o td)(hi:PE X i ty)(hs:DL i):PE X (.Subscript o i pos) (S0 X.w X.prog X.K td ty):=by
 show `_af;refine SV Vv.lookup hs (a0 0.70 fun u s1 ⟨x,H1,I1,rx,q1⟩=>a0 (hi ae s1 σ H1 _ I1 q1) fun iv s2 ⟨y,H2,I2,ry,a,b,k,v,ex,ey,eb,g,q2⟩=>?_);subst ex ey;obtain rfl:u=`ä a:=rx;obtain rfl:iv=`ä b:=ry;obtain⟨ob,es,ep,xs,p,lk,ed,hd,he,hx,nd,ak,rv⟩:=g;have lI:=I2.hZ a ob lk;have hm:s2.heap.DictOfH (tupleKind 1.6) a xs:=by
  refine⟨ob,es,ep,lI,ed,hd,he,fun x hxm=>?_,nd⟩;obtain⟨ot,n,its,l1,l2,l3,l4⟩:=hx x hxm;exact⟨ot,`Ġ,n,I2.hZ _ _ l1,l2,l3,by simpa using PH l4⟩
 exact⟨hm.typeIs,wpAny_getItem_heap (EX hu) (zj I2.aO eb) hm ak ⟨v,H2,I2.ii _,rv,q2⟩⟩
end
def FW{J:It}{n:Nat}{g:TG}{tb:TS}{D:gB}{σ:St}{H:Hp}(Pv:3.5)(h0:Pv 0 σ H)(rP:∀i σ H,i<n->Pv i σ H->J.go i H)(iC:∀σ H,Pv n σ H->J.stop n H)
 (hs:∀i x σ H H',i<n->Pv i σ H->J.l6 i H x H'->g x σ H' fun bC H2=>tb {D with nx:=Pv (i+1),ct:=Pv (i+1),bk:=D.nx} bC H2) (hd:∀σ H,Pv n σ H->D.nx σ H):
 ∃W:Nat->Nat->St->Hp->Prop,(∃m,W 0 m σ H)/\∀i m σ H,W i m σ H->
  (J.stop i H/\D.nx σ H)\/2.54:=by
 refine⟨fun i m σ H=>m=n-i/\i<=n/\Pv i σ H,⟨n,`Õ,mn _,h0⟩,?_⟩;rintro i m σ H ⟨rfl,hi,p⟩;by_cases cz:i<n
 .exact .inr ⟨rP i σ H cz p,Pv (i+1),fun aS H' p'=>⟨n-(i+1),`Å,rfl,cz,p'⟩,fun x H' y=>hs i x σ H H' cz p y⟩
 .have e:i=n:=`Å;subst e;exact .inl ⟨iC σ H p,hd σ H p⟩
def GS{J:It}{n:Nat}{g:TG}{tt:TT}{te:TE}{vs:`À}{σ:St}{H1:Hp}{D:Addr}{Qd:`_i}(Pv:Nat->Hp->Prop)(h0:Pv 0 (af H1 D `Ù))(rP:∀i H,i<n->Pv i H->J.go i H)(iC:∀H,Pv n H->J.stop n H)
 (hs:∀i x H H',i<n->Pv i H->J.l6 i H x H'->g x `_4 H' fun bC H2=>cA bC vs=cA σ vs/\tt bC H2 fun b H3=>
  if b=true then te bC H3 fun y H4=>∃acc,H4 D=some (.ah acc)/\`_q<sizeLine/\Pv (i+1) 1.27 else Pv (i+1) H3) (hd:∀H,Pv n H->Qd H):
 ∃W:Nat->Nat->Hp->Prop,(∃m,W 0 m (af H1 D `Ù))/\∀i m H,W i m H->
  (J.stop i H/\Qd H)\/(J.go i H/\∃Nx:Hp->Prop,3.25/\∀x H',J.l6 i H x H'->g x `_4 H' fun bC H2=>cA bC vs=cA σ vs/\tt bC H2 fun b H3=>
   if b=true then te bC H3 fun y H4=>∃acc,H4 D=some (.ah acc)/\`_q<sizeLine/\Nx 1.27 else Nx H3):=by
 refine⟨fun i m H=>m=n-i/\i<=n/\Pv i H,⟨n,`Õ,mn _,h0⟩,?_⟩;rintro i m H ⟨rfl,hi,p⟩;by_cases cz:i<n
 .exact .inr ⟨rP i H cz p,Pv (i+1),fun H' p'=>⟨n-(i+1),`Å,rfl,cz,p'⟩,fun x H' y=>hs i x H H' cz p y⟩
 .have e:i=n:=`Å;subst e;exact .inl ⟨iC H p,hd H p⟩
def ag.new{H:Hp}{p:Addr}{o:HO}(h:H p=none):ag H (af H p o):=fun b ob e=>by
 rw[au (aR e h)];exact e
def ag.set{H H':Hp}{p:Addr}{o:HO}(s:`Ć)(h:H p=none):ag H (af H' p o):=fun b ob e=>by
 rw[au (aR e h)];exact s b ob e
def ag.mX{H H':Hp}{d:Addr}{u:HO}{od:Obj}(h:H d=some u)(s:ag 0.18 H'):ag H (af H' d u):=fun b o e=>by
 by_cases hb:b=d
 .subst hb;rw[ax];exact h.symm.trans e
 .rw[au hb];exact s b o (by rw[au hb];exact e)
section
variable{X:Cx}
def adD(t u:TE):TE:=fun σ H Q=>t σ H Q\/u σ H Q
def asg{e:Expr}{t u:TE}(h:PE X e t)(h':PE X e u):PE X e (adD t u):=fun ae s σ H Q I q=>q.elim (h ae s σ H Q I) (h' ae s σ H Q I)
def CF:List V->Hp->VK->Prop:=fun xs H Q=>∃a kvs,xs=[V.ref a]/\Rd H a `Þ/\∀p,H p=none->Q `Ü (af H p `Þ)
def Ml(hc:`_S):l9 X (.type "dict") CF:=by
 show `_bA;obtain⟨u,rfl,rx⟩:=zW r;cases rx;obtain⟨z,hs,vs,kv,dd⟩:=qh I.aO ha;have hl:`Ö=`õ:=mr kv;refine kt_call_dict hs dd `È fun h' jY sb=>?_;have hk:∀b ob,s.heap.get? b=some ob->h'.get? b=some ob:=fun b ob e=>sb.extBut b ob (gb (cI e)) (cC _ e);exact⟨.ref `Í,_,I.jM (t':=s.toks) hk (bp _) (AR z (gO.mpr (aL (gb I.sY))) kv jY),rfl,q _ ('?')⟩
def SZ(td te:TE):TE:=fun σ H Q=>td σ H fun x H1=>∃a,x=.ref a/\xE H1 a/\te σ H1 fun y H2=>∃b kvs mo,y=.ref b/\a≠b/\H2 a=some `Þ/\Rd H2 b (.dK mo)/\`Ö+mo.length<=sizeLine/\((kvs++mo).map (·.1)).Nodup/\
 Q .aX (af H2 a (.dK (kvs++mo)))
def PV:∀{a:`â}{b:`Θ}{c:`â}{d:`Θ},KV a b->KV c d->KV (a++c) (b++d)
 |_,_,_,_,.nil,r=>r
 |_,_,_,_,.cons h t,r=>.cons h (PV t r)
def asf{o e:Expr}{fQ gd:Pos}{td ty:TE}(ho:PE X o td)(he:PE X e ty)(m:M1 X o "update" fQ e gd):PE X (.Call (.Attribute o "update" fQ) [e] [] gd) (SZ td ty):=by
 show `_af;refine LP m.base m.oU m.line LG aii PySem.F.type_dict_update (a0 0.70 fun u s1 ⟨x,H1,I1,rx,a,ex,d,q1⟩=>?_);show `_au;obtain⟨t1,t2,_⟩:=Z8 I1 d;refine⟨t1,t2,?_⟩;rw[m.aft];refine Vt rfl (Vu (yg (a0 (he ae s1 σ H1 _ I1 q1) fun iv s2 ⟨y,H2,I2,ry,b,kvs,mo,ey,jJ,ea,eb,hz,nd,q2⟩=>Av ?_)));subst ey;obtain rfl:iv=`ä b:=ry;obtain⟨z,hd,vs,dH,dd⟩:=Fv I2.aO ea;obtain⟨z2,hd2,ws,Sd,dd2⟩:=qh I2.aO eb;refine call_meetsIn aii dd.typeIs PySem.F.entry_dict_update (PySem.F.args_dict_update_2 _ _) (meets_dict_update 1.6 a b jJ hd2)
  ⟨vs,ws,dd,dd2,by rw[<-dH.length,<-Sd.length];exact hz,fun h' jY _ sb=>?_⟩
 have hn:((vs++ws).map (·.1)).Nodup:=by
  have e1:=KV.keys (PV dH Sd);rw[<-e1];exact nd
 rw[merged_append_of_fresh vs ws hn]at jY;have he:∃q,h'.get? a=some q:=let⟨q,_,_,hq,_⟩:=jY;⟨q,hq⟩;exact⟨.aX,_,AQ (t':=s2.toks) I2 (by rw[ea];exact True.intro) sb he (AR (by rw[dc];exact hz) hd (PV dH Sd) jY),rfl,q2⟩
def R7(K:Frag):V->List V->Hp->VK->Prop:=fun x vs H Q=>∃l b xs zs,x=.ref l/\vs=[.ref b]/\H l=some `Ē/\H b=some (.bb zs)/\`Ã+zs.length<=sizeLine/\Q .aX (af H l (.ah (xs++zs)))
def auF{prog:`Ô}{w:World}{A:Around}{ns:`Ê}{its:`Ì}(e:IntsAre its ns):
 TruthOf prog w A (fun i v=>its.toArray[i]? =some v) (fun i=>(ns.map fun n=>n !=0).getD i false):=fun i v s Q E hv hq=>by
 have rW:its[i]? =some v:=by simpa using hv
 have key:∀{its:`Ì}{ns:`Ê}(i:Nat),IntsAre its ns->its[i]? =some v->∃n t,v=.int n t/\ns[i]? =some n:=by
  intro its ns i e
  induction e generalizing i with
  |nil=>intro h;simp at h
  |cons n t h ih=>
   intro hh;cases i with
   |zero=>simp at hh;exact⟨n,t,hh.symm,rfl⟩
   |succ j=>simp at hh;obtain⟨m,u,e1,e2⟩:=ih j hh;exact⟨m,u,e1,by simpa using e2⟩
 obtain⟨n,t,rfl,hn⟩:=key i e rW;have hg:(ns.map fun n=>n !=0).getD i false=(n !=0):=by rw[qX,cG,hn]<;>rfl
 have jr:Q ((ns.map fun n=>n !=0).getD i false) s:=hq;rw[hg]at jr;exact truthy_int jr
def R6(K:Frag):List V->Hp->VK->Prop:=fun vs H Q=>∃(a:Addr)(ns:`Ê),vs=[V.ref a]/\aG K H a `ι/\Q (.bl (ns.any fun n=>n !=0)) H
def ajA(hc:`_S):l9 X (.builtin "any") (R6 X.K):=by
 show `_bv;obtain⟨a,ns,rfl,hs,q⟩:=h;show `_bp;have hi:=rv.ints;refine call_any_walk 3.43;subst e2;refine⟨_,_,_,_,_,_,_,rfl,EV (A:=X.A.in1) `_E _ a cQ `Ġ,st,auF hi,fun h' tk hk=>?_⟩;refine 2.83
 .rcases bE.mp kR with e1|kR
  .exact absurd (e1▸cI eo) (oE _)
  .cases kR
 .show 0.3 _=0.3 _;have e1:=L8 (ns.map fun n=>n !=0);rw[aJ,An]at e1;rw[fP,hi.length];exact fv 0.3 e1
def qD(K:Frag)(neg:Bool):R2:=fun x y H Q=>∃a b xs,x=.ref a/\y=.ref b/\aG K H a xs/\aG K H b []/\Q (.bl (if neg then !xs.isEmpty else xs.isEmpty)) H
def Cj(hu:X.A.units<cLine):fq X (compareOp .Eq) (qD X.K false):=by
 show `_bi;cases t_;have hl:=rv.length;cases xs with
 |nil=>
  cases rv;exact PySem.SeqAt.eq_listAt (e:=fun _=>true) pl.isList v9.isList rfl hu (fun j h1=>absurd h1 `Ç) ⟨.bl true,H,I,rfl,q⟩
 |cons x xs=>exact PySem.SeqAt.eq_list_lengthsAt pl.isList v9.isList (by simp;intro e;rw[e]at hl;simp at hl) hu ⟨.bl false,H,I,rfl,q⟩
def ar2(hu:X.A.units<cLine):fq X (compareOp .NotEq) (qD X.K true):=by
 show `_bi;cases t_;have hl:=rv.length;cases xs with
 |nil=>
  cases rv;exact PySem.SeqAt.RcNeAt.lists (e:=fun _=>true) pl.isList v9.isList rfl hu (fun j h1=>absurd h1 `Ç) _ _ _ _ ⟨.bl false,H,I,rfl,q⟩
 |cons x xs=>exact PySem.SeqAt.RcNeAt.lists_lengths pl.isList v9.isList (by simp;intro e;rw[e]at hl;simp at hl) hu _ _ _ _ ⟨.bl true,H,I,rfl,q⟩
def S_(w:World)(P:`Ô)(K:Frag)(td ty:TE):TE:=fun σ H Q=>td σ H fun x H1=>ty σ H1 fun y H2=>∃(a:Addr)(i:Int)(v:V),x=.ref a/\y=.int i/\
 (∃(o:Obj)(vs:`Θ)(u:Value),K.lookup a=some o/\(∀h:Heap,h.get? a=some o->h.DictOf (d7 P w) a vs)/\valueAt vs (.inl i)=some u/\bA v u)/\Q v H2
def asi{o i:Expr}{pos:Pos}{td ty:TE}(hu:0.79)(ho:PE X o td)(hi:PE X i ty)(hs:DL i):PE X (.Subscript o i pos) (S_ X.w X.prog X.K td ty):=by
 show `_af;refine SV Vv.lookup hs (a0 0.70 fun u s1 ⟨x,H1,I1,rx,q1⟩=>a0 (hi ae s1 σ H1 _ I1 q1) fun iv s2 ⟨y,H2,I2,ry,a,n,v,ex,ey,g,q2⟩=>?_);subst ex ey;obtain rfl:u=`ä a:=rx;obtain⟨ob,vs,w',lk,dd,hv,rv⟩:=g;have hm:=dd s2.heap (I2.hZ a ob lk);have ry':bA (kV (.inl n)) iv:=ry;exact⟨hm.typeIs,wpAny_getItem_of (tL ry') hm.mapOf hv ⟨v,H2,I2.ii _,rv,q2⟩⟩
def aoW:Ld X "list.extend" (R7 X.K):=by
 show `_aN;obtain⟨z2,j6,r2,o2,e2,c2,n2,d2⟩:=I.aO b _ hB;have iQ:=r2.length;refine oH u5 ⟨_,e,rfl⟩ F.entry_list_extend ?_ (F.args_list_extend_2 _ _);show wpAny _ _ (Builtin.List.listExtendWith (.ref l) (.ref b) .none) _ _ s;unfold Builtin.List.listExtendWith;refine aI (wpAny_typeOf (T:="tuple") ⟨o2,e2,c2⟩ ?_);have ht:(Value.type "tuple"==Value.type "tuple")=true:=by rfl
 rw[ay (by rw[ht];simp)];refine aI (listItems_at e2 d2 (aI (listItems_at e rfl ?_)));have hsz:its.toArray.size+j6.toArray.size<=sizeLine:=by rw[fP,fP];omega
 rw[aq (by rw[aaA hsz,Jq];exact eM)];refine aI (listUpdate_at e rfl ?_ (by rw[fP];omega) (by rw[Array.size_append];omega));refine aI (br (br ⟨_,rfl,?_⟩));refine⟨.aX,_,I.Qa (t':=s.toks) (its':=its++j6) hH e `Ç (r.append r2) ?_,rfl,q⟩;rw[dc];omega
def ajq{prog:`Ô}{w:World}{A:Around}{E:`Ñ}{s:Shared}{T:String}{r d:Addr}{n:Nat}{P:Nat->Value->Prop}{OK:Heap->Prop}{Q:List Value->Shared->Prop}
 (S:PySem.W.KdlSrc prog w T r d n P OK) (hh:0.28) (aO:OK s.heap) (hn:n<=sizeLine)
 (h:∀(h':Heap)(tk:Nat)(vs:`Ì),(∀b o,s.heap.get? b=some o->h'.get? b=some o)->`Í<=5.3->`õ=n->(∀(j:Nat)(v:Value),vs[j]? =some v->P j v)->Q vs {s with heap:=h',toks:=tk}):wpAny `ò A (collect `à) Q E s:=by
 have cz:=S.there _ aO;unfold collect;refine aI (wpAny_runValue (LM entry_proto_collect' ?_));show wpAny _ _ (newList []>>=fun l=>again (.builtin "list.__iadd__" ⟨[l,.ref r],[]⟩)) _ _ s;refine aI (wpAny_newList (br ⟨Code.quiet_builtin _ (`ē),LM entry_list_iadd' ?_⟩));have hS:(s.heap.push {cls:=.type "list",data:=.seq #[]}).get? `Í=some {cls:=.type "list",data:=.seq #[]}:=`Ė;rw[Vs (by decide+kernel)];show wpAny _ _ (Builtin.List.listExtendWith 5.1 `à 5.1) _ _ _;refine PySem.W.kdl_extend (R:=fun r s'=>match r with|.ok (.ret v)=>wpAny `ò A (match v with|.ref a=>(do let o<-load a;match o.data with|.seq xs _=>pure xs.toList|_=>unsupported "internal:collect")|_=>unsupported "internal:collect") Q E s'|.ok _=>False|.error e=>E e s') (A:=A) (s:={s with heap:=s.heap.push {cls:=.type "list",data:=.seq #[]}}) S hh (S.keep _ _ aO fun b _ o e=>cC _ e) s.heap.objs.size (uY cz.1) (uY cz.2) 5.1 0 hS (fun h' tk acc c hk qo tD=>?_) hn;refine aI (wpAny_load qo ?_);exact br (h h' tk acc.toList (fun b o e=>hk b o (gb (cI e)) (cC _ e)) (jV (cI qo)) (by rw[zZ];exact tD.1) fun j v e=>tD.2 j v (by rw[<-Jp];exact e))
def R':List V->Hp->VK->Prop:=fun vs H Q=>∃(a:Addr)(kvs:`â)(ns:`Ê),vs=[V.ref a]/\Rd H a `Þ/\kvs.map (fun p=>kV p.1)=ns.map V.int/\':'<64/\
 ∀(mF:`Ê)(p:Addr),mF.Perm ns->mF.Pairwise (·<=·)->H p=none->Q `Ü (af H p (.ah (mF.map V.int)))
def ajB(hc:`_S):l9 X (.builtin "sorted") R':=by
 intro ae s σ H xs us Q I r h;obtain⟨a,kvs,ns,rfl,ha,Gg,Y3,q⟩:=h;show `_cd;have hln:`Ö=':':=by have:=fv List.length Gg;simpa using this
 refine Calls.call_function_entry kind_sorted plain_sorted entry_sorted (args_sorted1 _) ?_;unfold Builtin.«sorted»;refine aI (m:=checkCount "sorted" 1 1 _) (br ?_);refine aI (ajq (PySem.W.kdl_dict hs) `_E hm `È fun h1 tk its jL hsz iA ZR=>?_);have hv:=PF kv (its:=its) (P:=X.prog) (w:=X.w) iA ZR;rw[Gg]at hv;have hi:=hv.ints;refine aI (wpAny_newList ?_);have Bs:(h1.push (seqObj "list" its.toArray 0)).get? h1.objs.size=some (seqObj "list" its.toArray 0):=`Ė;refine aI (Az (oH (s:=4.69) slot_list_sort ⟨_,Bs,rfl⟩ entry_list_sort (list_sort_tree (s:=4.69) Bs hi (by rw[hi.length];exact Y3) fun out mF a1 a2 a3=>⟨_,rfl,?_⟩) (args_list_sort _)));refine br ⟨_,rfl,?_⟩;obtain⟨e,he⟩:=sortedHeap_at (out:=out) Bs;have hlen:(mF.map V.int).length<=sizeLine:=by rw[aJ,a2.length_eq];exact aug Y3
 refine⟨.ref h1.objs.size,af H h1.objs.size (.ah (mF.map V.int)),I.jM (t':=tk) (fun b ob e2=>?_) hsz ⟨hlen,out.toList,e,afD a1,he⟩,rfl,q mF _ a2 a3 (I.aO.fresh hsz)⟩;have e3:=jL b ob e2;have cz:=cI e3;rw[sortedHeap_old (gb cz) (by rw[size_push'];exact xR cz)];exact cC _ e3
def adB(P:`Ô)(w:World)(K:Frag)(mg:`þ)(base:Heap)(A:Around)(tn:TE)(t:TA):TE:=fun σ H Q=>tn σ H fun v H1=>∃(f:Addr)(o:Obj)(u:HO)(fd:`ě)(ps:`ô)(sp:Sp)(k:Nat),v=.ref f/\
 H1 f=some (.aN o u)/\o.data=.func fd/\f9 P w K mg base gY k f fd ps sp/\cH k A/\i4 K fd ps []/\t σ H1 fun vs H2=>H2 f=some (.aN o u)/\sp vs H2 Q E0
def asc{x:Str}{p pos:Pos}{e:Expr}{es:`_h}{tn:TE}{t:TA}(hx:oG gY X E0)(hn:PE X (.Name x p) tn)(ha:'3')
 (he:`ψ:=by rfl) (eW:('-').any (·.1)=false:=by rfl):
 PE X 0.8 (adB X.prog X.w X.K X.mg X.base X.A tn t):=by
 show `_af;refine qb (a0 (hn ae s σ H _ I h) fun u s0 ⟨v,H0,I0,r0,f,o,uo,fd,ps,sp,k,ev,hf,hd,F,hr,hb,q0⟩=>?_);subst ev;obtain rfl:u=`ä f:=r0;have fn:∀{H1:Hp}{s1:Shared},az X ae σ H1 s1->H1 f=some (.aN o uo)->FnAt f s1.heap:=fun I1 e=>by
  have e':=(I1.aO f _ e).1;obtain⟨oc,od,dt,sl⟩:=o;cases hd;exact⟨oc,od,fd,sl,e'⟩
 refine PySem.W.callWith_F (fn I0 hf) (a0 (ha pos ae s0 σ H0 _ I0 q0) fun us s1 ⟨vs,H1,I1,r,hf1,q⟩=>⟨fn I1 hf1,?_⟩) he eW;exact 4.44
end
section
variable{P:Program}{w:World}{A:Around}{E:Value->Shared->Prop}{s:Shared}{m d1 d2 n i:Nat}{P1 P2:Nat->Value->Prop}{S1 S2:Nat->Heap->Prop}{a b:Value}
def au7(D1:Draws P w A m [m,d1] n P1 S1)(D2:Draws P w A (m+1) [m+1,d2] n P2 S2)(l1:d1<m)(l2:d2<m)(hi:i<n)
 (hz:IsZip s.heap (m+4) (m+2) (m+3) .none) (gS:IsPair s.heap (m+2) (.ref m) (.ref (m+1))) (i9:IsPair s.heap (m+3) a b) (t1:S1 i s.heap) (t2:S2 i s.heap) {Q:`Ñ}
 (hQ:∀x y h' tk,P1 i x->P2 i y->IsZip h' (m+4) (m+2) (m+3) (rawInt `Í)->IsPair h' (m+3) x y->S1 (i+1) h'->S2 (i+1) h'->IsPair h' s.heap.objs.size x y->
  (∀c o,c≠m+4->c≠m+3->c≠m->c≠m+1->s.heap.get? c=some o->h'.get? c=some o)->Q 5.1 {s with heap:=h',toks:=tk}):
 wpAny '5' A (Builtin.«zip.__next__» ⟨[.ref (m+4)],[]⟩) (fun fin s'=>∃v,fin=.done (.ret v)/\Q v s') E s:=by
 have ne1:∀c,c=m\/c=d1->c≠m+4/\c≠m+3/\c≠m+1:=4.73;have ne2:∀c,c=m+1\/c=d2->c≠m+4/\c≠m+3/\c≠m:=4.73;show `_aO;show `_aj;have u1:S1 i g1:=D1.frame i _ _ t1 fun c hc o e=>b1.extBut c o (ne1 c (nP hc)).1 e;have u2:S2 i g1:=D2.frame i _ _ t2 fun c hc o e=>b1.extBut c o (ne2 c (nP hc)).1 e;refine aI (aI (wpAny_onRaise (aI (m:=Builtin.SmallTypes.nextOf (.ref m)) (D1.item i {s with heap:=g1} _ _ hi u1 fun x g2 tk2 px v1 b2=>br ?_))));have VD:IsPair g2 (m+3) a b:=b2.extBut _ _ `ĝ (b1.extBut _ _ `ĝ i9);refine aI (sV VD rfl ?_);refine aI (wpAny_updateSeq_pair VD fun g3 LZ b3=>?_);replace LZ:IsPair g3 (m+3) x b:=LZ;have w2:S2 i g3:=D2.frame i _ _ u2 fun c hc o e=>b3.extBut c o (ne2 c (nP hc)).2.1 (b2.extBut c o (ne2 c (nP hc)).2.2 e);refine aI (AA (br ?_));refine aI (aI (wpAny_onRaise (aI (m:=Builtin.SmallTypes.nextOf (.ref (m+1))) (D2.item i {s with heap:=g3,toks:=tk2} _ _ hi w2 fun y g4 tk4 py v2 b4=>br ?_))));have VE:IsPair g4 (m+3) x b:=b4.extBut _ _ `ĝ LZ;refine aI (sV VE rfl ?_);refine aI (wpAny_updateSeq_pair VE fun g5 E3 b5=>?_);replace E3:IsPair g5 (m+3) x y:=E3;refine aI (AA (br (br (aI (sV E3 rfl (aI (wpAny_newTuple ?_)))))));have sz:g5.objs.size=`Í:=by rw[b5.1,b4.1,b3.1,b2.1,b1.1]
 have z5:IsZip g5 (m+4) (m+2) (m+3) .ellipsis:=b5.extBut _ _ `ĝ (b4.extBut _ _ `ĝ (b3.extBut _ _ `ĝ (b2.extBut _ _ `ĝ z1)));have k5:∀c o,c≠m+4->c≠m+3->c≠m->c≠m+1->s.heap.get? c=some o->g5.get? c=some o:=fun c o c1 c2 c3 c4 e=>
  b5.extBut _ _ c2 (b4.extBut _ _ c4 (b3.extBut _ _ c2 (b2.extBut _ _ c3 (b1.extBut _ _ c1 e))))
 have x1:S1 (i+1) g5:=D1.frame _ _ _ v1 fun c hc o e=>b5.extBut c o (ne1 c (nP hc)).2.1 (b4.extBut c o (ne1 c (nP hc)).2.2 (b3.extBut c o (ne1 c (nP hc)).2.1 e));have x2:S2 (i+1) g5:=D2.frame _ _ _ v2 fun c hc o e=>b5.extBut c o (ne2 c (nP hc)).2.1 e;have zl:m+4<g5.objs.size:=cI z5;refine aI (m:=Builtin.SmallTypes.ownedTupleHandOut (.ref (m+4)) (.ref g5.objs.size)) ?_;unfold Builtin.SmallTypes.ownedTupleHandOut;have z6:IsZip (g5.push {cls:=.type "tuple",data:=.seq #[x,y]}) (m+4) (m+2) (m+3) .ellipsis:=cC _ z5;refine aI (E1 z6 `Ç fun g7 z7 b7=>?_);replace z7:IsZip g7 (m+4) (m+2) (m+3) (rawInt g5.objs.size):=z7;refine E1 z7 `Ç fun g8 z8 b8=>br ⟨_,rfl,?_⟩;replace z8:IsZip g8 (m+4) (m+2) (m+3) (rawInt g5.objs.size):=z8;have up:∀c o,c≠m+4->g5.get? c=some o->g8.get? c=some o:=fun c o c1 e=>b8.extBut _ _ c1 (b7.extBut _ _ c1 (cC _ e));have T8:IsPair g8 g5.objs.size x y:=b8.extBut _ _ (uY zl) (b7.extBut _ _ (uY zl) (`Ė));show Q (.ref g5.objs.size) _;rw[sz]at z8 T8⊢;exact hQ x y g8 tk4 px py z8 (up _ _ `ĝ E3) (D1.frame _ _ _ x1 fun c hc o e=>up c o (ne1 c (nP hc)).1 e) (D2.frame _ _ _ x2 fun c hc o e=>up c o (ne2 c (nP hc)).1 e) T8
  fun c o c1 c2 c3 c4 e=>up c o c1 (k5 c o c1 c2 c3 c4 e)
def au6(D1:Draws P w A m [m,d1] n P1 S1)(l1:d1<m)(hz:IsZip s.heap (m+4) (m+2) (m+3) .none)(gS:IsPair s.heap (m+2) (.ref m) (.ref (m+1)))(t1:S1 n s.heap){Q:Fin->Shared->Prop}
 (hE:∀h' e,(∀c o,c≠m+4->c≠m->s.heap.get? c=some o->h'.get? c=some o)->(∃o,h'.get? e=some o/\o.cls=.type "StopIteration")->E (.ref e) {s with heap:=h'}):
 wpAny '5' A (Builtin.«zip.__next__» ⟨[.ref (m+4)],[]⟩) Q E s:=by
 show `_aO;show `_aj;have u1:S1 n g1:=D1.frame n _ _ t1 fun c hc o e=>b1.extBut c o (by show @Ne Nat _ _;rcases nP hc with q|q<;>omega) e;refine aI (aI (wpAny_onRaise (aI (m:=Builtin.SmallTypes.nextOf (.ref m)) (D1.done {s with heap:=g1} _ _ u1 fun g2 e b2 he=>?_))));obtain⟨oe,Pd,vz⟩:=he;have z2:IsZip g2 (m+4) (m+2) (m+3) .ellipsis:=b2 _ _ `ĝ z1;have hez:e≠m+4:=fun q=>by subst q;rw[z2]at Pd;cases Pd;simp at vz
 exact E1 z2 `Ç fun g3 _ b3=>hE g3 e (fun c o c1 c3 q=>b3.extBut _ _ c1 (b2 _ _ c3 (b1.extBut _ _ c1 q))) ⟨oe,b3.extBut _ _ hez Pd,vz⟩
def adv{it:Addr}{h0:Heap}{Q:Fin->Shared->Prop}(hh:0.28)(hE:∀h' e,Heap.ExtBut it h0 h'->(∃o,h'.get? e=some o/\o.cls=.type "StopIteration")->E (.ref e) {s with heap:=h'})(hx:Heap.ExtBut it h0 s.heap):
 wpAny '5' A (do raiseNew (<-newExc (.type "StopIteration") []):Sem Fin) Q E s:=by
 show wpAny _ _ (newExc (.type "StopIteration") []>>=fun e=>raiseNew e) _ _ _;refine aI ?_;show `_aU;rw[hh];refine aI (br (wpAny_throw ?_));exact hE _ _ ((hx.push _).push _) ⟨_,`Ė,rfl⟩
def aj1(hh:0.28)(it t:Addr)(cQ:t≠it)(items:'6'):
 Draws P w A it [it,t] items.size (fun i v=>items[i]? =some v) (fun i h=>h.IsTupleIter it t i/\h.IsTuple t items) where
 live:=fun _ _ st=>let⟨o,ho,_⟩:=st.1;⟨o,ho⟩
 frame:=fun _ _ _ st hk=>⟨st.1.at fun o e=>hk it (by simp) o e,st.2.at fun o e=>hk t (by simp) o e⟩
 item:=fun i s Q E hi st hQ=>by
  obtain⟨cE,ht⟩:=st;obtain⟨o,ho,hc,hd⟩:=id cE;show `_al;refine aI (m:=field `_s 1) (oJ ho hd (x:=.int i 0) rfl ?_);refine aI (m:=seqItems? (.ref t)) (sV Ph Ga ?_);have hx:items[i]? =some items[i]:=by simp[hi]
  simp only[eB,hx];refine aI (AC ho hd `Ç (br ⟨_,rfl,br (hQ _ _ s.toks hx ⟨?_,ht.extBut (rb ..).extBut cQ⟩ (rb ..))⟩));exact 2.75
 done:=fun s Q E st hE=>by
  obtain⟨cE,ht⟩:=st;obtain⟨o,ho,hc,hd⟩:=id cE;show `_al;refine aI (m:=field `_s 1) (oJ ho hd (x:=.int items.size 0) rfl ?_);refine aI (m:=seqItems? (.ref t)) (sV Ph Ga ?_);have hx:items[items.size]? =none:=`Õ;simp only[eB,hx];refine aI (wpAny_rule (aI 1.38));exact adv (A:=A.in1) hh hE (rb ..).extBut
def aj0(hh:0.28)(it d:Addr)(cQ:d≠it)(od:Obj)(es:`Ξ)(ep:Nat)(qr:od.data=.dict es ep):
 Draws P w A it [it,d] es.size (fun i v=>∃en,es[i]? =some en/\v=en.key) (fun i h=>h.IsKeyIter it d i es.size ep/\h.get? d=some od) where
 live:=fun _ _ st=>let⟨o,ho,_⟩:=st.1;⟨o,ho⟩
 frame:=fun _ _ _ st hk=>⟨st.1.at fun o e=>hk it (by simp) o e,hk d `Ç od st.2⟩
 item:=fun i s Q E hi st hQ=>by
  show `_aP
  first|refine aI 6.8|refine 6.7
  show `_bo;simp only[show¬((i:Int)<0)from by omega,pq,eB,Tx hi];refine aI ?_
  first|refine aI 6.8|refine 6.7
  refine aI (LU cE.typeIs ?_);refine aI (m:=setField `_s 1 (rawInt ((i:Int)+1))) 1.38;have vF:(s.heap.update it (Obj.mapFields (·.setIfInBounds 1 (rawInt ((i:Int)+1))))).IsKeyIter it d (i+1) es.size ep:=
   2.75
  refine aI (Az (aI (LU (s:={s with heap:=s.heap.update it (Obj.mapFields (·.setIfInBounds 1 (rawInt ((i:Int)+1))))}) vF.typeIs ?_)));show wpAny _ _ (pure es[i].key) _ _ _;exact br (br ⟨_,rfl,br (hQ _ _ s.toks ⟨_,Tx hi,rfl⟩ ⟨vF,(rb ..).extBut d od cQ gH⟩ (rb ..))⟩)
 done:=fun s Q E st hE=>by
  show `_aP
  first|refine aI 6.8|refine 6.7
  show `_bo;simp only[show¬((es.size:Int)<0)from by omega,pq,eB,Array.getElem?_eq_none (bp es.size)];refine aI ?_
  first|refine aI 6.8|refine 6.7
  refine aI (m:=setField `_s 0 .none) 1.38;exact adv (A:=A.in1) hh hE (rb ..).extBut
end
structure ZK(P:Program)(w:World)(K:Frag)(a:Addr)(xs:List V)(C:Hp->Prop)(it:Nat->Nat->Heap->Prop):Prop where
 keep:∀m i h h',it m i h->(∀o,h.get? m=some o->h'.get? m=some o)->it m i h'
 obj:∀m i h,it m i h->∃o,h.get? m=some o/\∀v,o.data≠.cell v
 tF:∀(X:Cx),X.prog=P->X.w=w->X.K=K->∀ae σ H s,az X ae σ H s->C H->a<`Í/\∃(oI:Obj)(Pv:Nat->Value->Prop)(St:Nat->Nat->Heap->Prop),
  (∀(A:Around)(E:`Ñ)(s':Shared)(Q:`Ñ),(∀o,s.heap.get? a=some o->s'.heap.get? a=some o)->Q (.ref s'.heap.objs.size) {s' with heap:=s'.heap.push oI}->wpAny '5' A (pyIter `_L) Q E s')/\
  (∀(h:Heap) m,h.get? m=some oI->it m 0 h)/\(oI.isFreed=false)/\
  (∀m (A:Around),a≠m->A.handled=none->Draws P w A m [m,a] xs.length Pv (St m))/\(∀m i (h:Heap),it m i h->(∀o,s.heap.get? a=some o->h.get? a=some o)->St m i h)/\(∀m i (h:Heap),St m i h->it m i h)/\
  ∀i u,Pv i u->∃x,xs[i]? =some x/\bA x u
def afO{P:`Ô}{w:World}{K:Frag}{a:Addr}{xs:List V}{C:`_i}(hC:∀H,C H->bF K H a xs):ZK P w K a xs C (fun m i h=>h.IsTupleIter m a i) where
 keep:=3.31
 obj:=fun m i h st=>by
  show `_bx
 tF:=by
  intro X hP hw hK ae σ H s I c;subst hP hw hK;obtain⟨its,rv,p,_⟩:=I.tuple (hC H c);have hl:=rv.length;have pt:s.heap.IsTuple a `Ġ:=p;refine⟨p.lt,_,fun i v=>its.toArray[i]? =some v,fun m i h=>h.IsTupleIter m a i/\h.IsTuple a `Ġ,fun A E s' Q k q=>wpAny_pyIter_tuple (pt.at k) q,fun h m e=>⟨_,e,rfl,rfl⟩,rfl,
   fun m A cQ hh=>?_,fun m i h st k=>⟨st,pt.at k⟩,fun m i h st=>st.1,fun i u e=>?_⟩
  .have:=aj1 (P:=X.prog) (w:=X.w) hh m a cQ `Ġ;rwa[fP,<-hl]at this
  .obtain⟨x,hx⟩:∃x,xs[i]? =some x:=by
    cases q:xs[i]? with
    |some x=>exact⟨x,rfl⟩
    |none=>have:=rv.tP q;simp at e;rw[this]at e;cases e
   show `_bX
def au9{P:`Ô}{w:World}{K:Frag}{a:Addr}{xs:List V}{C:`_i}(hC:∀H,C H->aG K H a xs):ZK P w K a xs C (fun m i h=>h.IsListIter m a i) where
 keep:=3.31
 obj:=fun m i h st=>by
  show `_bx
 tF:=by
  intro X hP hw hK ae σ H s I c;subst hP hw hK;obtain⟨its,rv,p,_⟩:=I.list (hC H c);have hl:=rv.length;have pt:s.heap.IsList a `Ġ:=p.isList;refine⟨p.lt,_,fun i v=>its.toArray[i]? =some v,fun m i h=>h.IsListIter m a i/\h.IsList a `Ġ,fun A E s' Q k q=>LV (pt.at k) q,fun h m e=>⟨_,e,rfl,rfl⟩,rfl,
   fun m A cQ hh=>?_,fun m i h st k=>⟨st,pt.at k⟩,fun m i h st=>st.1,fun i u e=>?_⟩
  .have:=Draws.list (prog:=X.prog) (w:=X.w) hh m a cQ `Ġ;rwa[fP,<-hl]at this
  .obtain⟨x,hx⟩:∃x,xs[i]? =some x:=by
    cases q:xs[i]? with
    |some x=>exact⟨x,rfl⟩
    |none=>have:=rv.tP q;simp at e;rw[this]at e;cases e
   show `_bX
def au8{P:`Ô}{w:World}{K:Frag}{a:Addr}{od:Obj}{kvs:`â}{es:`Ξ}{ep:Nat}(dX:od.data=.dict es ep)(hsz:es.size=`Ö){C:`_i}(hC:∀H,C H->H a=some (.aN od `Þ)):
 ZK P w K a 1.18 C (fun m i h=>h.IsKeyIter m a i es.size ep) where
 keep:=3.31
 obj:=fun m i h st=>by
  show `_bx
 tF:=by
  intro X hP hw hK ae σ H s I c;subst hP hw hK;obtain⟨hs,iY,hx,jq,jZ,vs,alB,avI,kv,hm⟩:=I.rH (hC H c);obtain⟨rfl,rfl⟩:=tp dX alB;refine⟨cI iY,{cls:=.type "dict_keyiterator",data:=.fields #[.ref a,.int 0 0,.int jq.size 0,.int jZ 0]},fun i v=>∃en,jq[i]? =some en/\v=en.key,fun m i h=>h.IsKeyIter m a i jq.size jZ/\h.get? a=some od,
   fun A E s' Q k q=>GK hs (k _ iY) hx dX q,fun h m e=>⟨_,e,rfl,rfl⟩,rfl,fun m A cQ hh=>?_,fun m i h st k=>⟨st,k _ iY⟩,fun m i h st=>st.1,fun i u e=>?_⟩
  .have e1:(kvs.map fun p=>kV p.1).length=jq.size:=by rw[aJ,hsz]
   rw[e1];exact aj0 (P:=X.prog) (w:=X.w) hh m a cQ od jq jZ dX
  .obtain⟨en,he,rfl⟩:=e;obtain⟨o2,es2,g2,_,d2,_,pr,_⟩:=hm;rw[iY]at g2;cases g2;obtain⟨rfl,_⟩:=tp dX d2;have key:∀(l:List DictEntry)(vs:`Θ)(kvs:`â)(i:Nat),Pairs 1.6 l vs->KV kvs vs->l[i]? =some en->∃x,(kvs.map fun p=>kV p.1)[i]? =some x/\bA x en.key:=by
    intro l vs kvs i pr
    induction pr generalizing i kvs with
    |nil=>intro _ h;simp at h
    |cons h1 h2 t ih=>
     intro kv h;cases kv with
     |cons r rt=>
      cases i with
      |zero=>
       simp at h;subst h;refine⟨_,rfl,?_⟩;have q:=ab8 h1;rw[<-r.1]at q;exact q
      |succ j=>simp at h⊢;simpa using ih _ j rt h
   exact key _ _ _ i pr kv (by rw[Jp];exact he)
def pY(xs ys:List V)(C:`_i):It:=
 ⟨fun i H=>C H/\i<`Ã,fun i H v H'=>∃T x y,v=.ref T/\H T=none/\H'=af H T 1.7/\xs[i]? =some x/\ys[i]? =some y,fun i H=>C H/\i=`Ã⟩
def auR{P:`Ô}{w:World}{K:Frag}{kK:`_h}{kk:Nat}{jy:Pos}{a b:Addr}{xs ys:List V}{C:`_i}{GI GJ:Nat->Nat->Heap->Prop}{m:Nat}(Z1:ZK P w K a xs C GI)(Z2:ZK P w K b ys C GJ)(jJ:`Ã=`ø)(la:@LT.lt Nat _ a m)(lb:@LT.lt Nat _ b m):
 oP P w K 7.7 (pY xs ys C) [m+4,m+2,m+3,m,m+1] (m+4) (fun i h=>IsZip h (m+4) (m+2) (m+3) .none/\IsPair h (m+2) (.ref m) (.ref (m+1))/\(∃x y,IsPair h (m+3) x y)/\GI m i h/\GJ (m+1) i h) where
 mem:=`Õ
 obj:=fun i h st c hc=>by
  obtain⟨hz,gS,⟨x,y,i9⟩,h1,h2⟩:=st;have e':c=m+4\/c=m+2\/c=m+3\/c=m\/c=m+1:=by simpa using hc
  rcases e' with q|q|q|q|q
  .rw[q];exact⟨_,hz,0.21⟩
  .rw[q];exact⟨_,gS,0.21⟩
  .rw[q];exact⟨_,i9,0.21⟩
  .rw[q];exact Z1.obj _ _ _ h1
  .rw[q];exact Z2.obj _ _ _ h2
 keep:=fun i h h' st k=>by
  obtain⟨hz,gS,⟨x,y,i9⟩,h1,h2⟩:=st;exact⟨k _ `Ç _ hz,k _ `Ç _ gS,⟨x,y,k _ `Ç _ i9⟩,Z1.keep _ _ _ _ h1 fun o q=>k _ `Ç o q,Z2.keep _ _ _ _ h2 fun o q=>k _ `Ç o q⟩
 item:=by
  show `_ba;obtain⟨c,hi⟩:=hg;obtain⟨_,oI,P1,S1,_,_,_,D1,t1,u1,r1⟩:=Z1.tF X rfl rfl rfl ae σ H s I c;obtain⟨_,oI2,P2,S2,_,_,_,D2,t2,u2,r2⟩:=Z2.tF X rfl rfl rfl ae σ H s I c;have BD:m+4<`Í:=cI hz;have hT:s.TypeIs (.ref (m+4)) "zip":=⟨_,hz,rfl⟩;have hh:=I.ok.hd hc;have TF:=D2 (m+1) X.A.in1 `ĝ hh;rw[<-jJ]at TF;unfold pyNext;refine aI (LQ (u6 (name:=0.55) hT LJ (oH LJ hT F.entry_zip_next
   (au7 (D1 m X.A.in1 `ĝ hh) TF la lb hi hz gS i9 (t1 _ _ _ h1 fun o e=>e) (t2 _ _ _ h2 fun o e=>e) fun u v h' tk px py z' LY v1 v2 A6 hk=>br ?_) (F.args_zip_next_1 _))))
  obtain⟨x,hx,rx⟩:=r1 i u px;obtain⟨y,hy,ry⟩:=r2 i v py;refine⟨_,rfl,wpAny_letOwnedTupleGo_zip (s:={s with heap:=h',toks:=tk}) z' fun nD Tw sb=>?_⟩;have iW:nD.get? `Í=some {cls:=.type "tuple",data:=.seq #[u,v]}:=(sb.2 _ (uY BD)).trans A6;have new:fG X.prog X.w 1.96 nD s.heap.objs.size 1.7:=⟨by show 2<=sizeLine;decide,[u,v],.cons rx (.cons ry .nil),⟨_,iW,rfl,_,rfl⟩⟩;have I1:az X ae σ 1.96 {s with heap:=nD,toks:=tk}:=
   I.To (t':=tk) (ch:=[m+4,m+2,m+3,m,m+1]) 4.18 hf (bp _) new
  refine⟨.ref `Í,_,I1,rfl,⟨_,x,y,rfl,'?',rfl,hx,hy⟩,⟨Tw,?_,⟨u,v,?_⟩,?_,?_⟩,fun c nE=>?_⟩
  .exact(sb.2 _ `ĝ).trans (hk _ _ `ĝ `ĝ `ĝ `ĝ gS)
  .exact(sb.2 _ `ĝ).trans LY
  .exact Z1.keep _ _ _ _ (u1 _ _ _ v1) fun o q=>(sb.2 _ `ĝ).trans q
  .exact Z2.keep _ _ _ _ (u2 _ _ _ v2) fun o q=>(sb.2 _ `ĝ).trans q
  .have cz:c<`Í:=by
    have e':c=m+4\/c=m+2\/c=m+3\/c=m\/c=m+1:=by simpa using nE
    rcases e' with q|q|q|q|q<;>(rw[q];show @LT.lt Nat _ _ _;have:@LT.lt Nat _ (m+4) s.heap.objs.size:=BD;omega)
   rw[au (gb cz)];exact(hf c nE).1
 done:=by
  show `_ba;obtain⟨c,rfl⟩:=hg;obtain⟨_,oI,P1,S1,_,_,_,D1,t1,u1,r1⟩:=Z1.tF X rfl rfl rfl ae σ H s I c;have hT:s.TypeIs (.ref (m+4)) "zip":=⟨_,hz,rfl⟩;have hh:=I.ok.hd hc;unfold pyNext;refine aI (LQ (u6 (name:=0.55) hT LJ (oH LJ hT F.entry_zip_next
   (au6 (D1 m X.A.in1 `ĝ hh) la hz gS (t1 _ _ _ h1 fun o e=>e) fun h' e hk he=>?_) (F.args_zip_next_1 _))))
  obtain⟨o,ho,cD⟩:=he;refine aI (wpAny_isInstance (T:="StopIteration") (b:=true) ⟨o,ho,cD⟩ isSubtype_stop (br `Á));exact I.afz (t':=s.toks) (ch:=[m+4,m+2,m+3,m,m+1]) (fun c o hb q=>hk c o ';' ';' q) hf
 self:=fun A i s Q E st h=>LW st.1 h
section
variable{prog:Program}{w:World}
abbrev Jl(h:Heap)(o1 o2:Obj):Heap:=((h.push o1).push o2).push {cls:=.type "tuple",data:=.seq #[.ref '~',.ref (h.push o1).objs.size]}
abbrev Jm(h:Heap)(o1 o2:Obj):Heap:=(Jl h o1 o2).push {cls:=.type "tuple",data:=.seq #[.none,.none]}
abbrev uA(h:Heap)(o1 o2:Obj):Heap:=(Jm h o1 o2).push {cls:=.type "zip",data:=.fields #[.none,.bool false,.bool false,.ref ((h.push o1).push o2).objs.size,.ref (Jl h o1 o2).objs.size]}
def aoL(a b:Addr)(o1 o2:Obj):
 MeetsIn prog w (Builtin.«zip.__new__» ⟨[.type "zip",.ref a,.ref b],[]⟩) (fun _ R s=>
  (∀(A:Around)(E:`Ñ)(Q:`Ñ),Q 5.1 {s with heap:=s.heap.push o1}->wpAny `ò A (pyIter `_L) Q E s)/\
  (∀(A:Around)(E:`Ñ)(Q:`Ñ),Q (.ref (s.heap.push o1).objs.size) {s with heap:=(s.heap.push o1).push o2}->wpAny `ò A (pyIter (.ref b)) Q E {s with heap:=s.heap.push o1})/\
  R (.ok (.ret (.ref (Jm s.heap o1 o2).objs.size))) {s with heap:=uA s.heap o1 o2}):=
 .of_wp fun A R s ⟨i1,i2,h⟩=>by
  obtain⟨hp,g,d,tk,os⟩:=s;have avH:=sub_zip;have I1:=@i1;have I2:=@i2
  wp_walk using I1 _ _ _,I2 _ _ _
  exact⟨_,rfl,h⟩
end
section
variable{X:Cx}
def afN{ae:`Ï}{σ:St}{H:Hp}{s:Shared}{kK:`_h}{kk:Nat}{jy:Pos}{a b:Addr}{xs ys:List V}{C:`_i}{GI GJ:Nat->Nat->Heap->Prop}{R:`å}
 (I:`Ë) (Z1:ZK X.prog X.w X.K a xs C GI) (Z2:ZK X.prog X.w X.K b ys C GJ) (jJ:`Ã=`ø) (c:C H) (q:R (pY xs ys C) H):
 wpAny `Î X.A (call (.type "zip") 4.3) (fun v s1=>wpAny `Î X.A (pyIter v) (As X ae σ 7.7 R) X.xe s1) X.xe s:=by
 obtain⟨la,o1,P1,S1,i1,g1,al1,_⟩:=Z1.tF X rfl rfl rfl ae σ H s I c;obtain⟨lb,o2,P2,S2,i2,g2,al2,_⟩:=Z2.tF X rfl rfl rfl ae σ H s I c;refine callType_newIn F.called_zip `Æ (F.typeCall_zip_2 _ _) (F.newCall_zip_2 _ _) (fun obj=>F.args_object_init_3 obj _ _) F.entry_zip_new (aoL a b o1 o2)
  ⟨fun A E Q k=>i1 A E s Q (fun o e=>e) k,fun A E Q k=>i2 A E {s with heap:=s.heap.push o1} Q (fun o e=>cC _ e) k,?_⟩
 have z1:(s.heap.push o1).objs.size=`Í+1:=kC ..;have z2:((s.heap.push o1).push o2).objs.size=`Í+2:=by rw[kC,z1]
 have z3:(Jl s.heap o1 o2).objs.size=`Í+3:=by rw[kC,z2]
 have z4:(Jm s.heap o1 o2).objs.size=`Í+4:=by rw[kC,z3]
 have e5:(0.89).get? (Jm s.heap o1 o2).objs.size=some _:=`Ė;have e4:(0.89).get? (Jl s.heap o1 o2).objs.size=some _:=cC _ (`Ė);have e3:(0.89).get? ((s.heap.push o1).push o2).objs.size=some _:=cC _ (cC _ (`Ė));have e2:(0.89).get? (s.heap.push o1).objs.size=some o2:=cC _ (cC _ (cC _ (eZ _ al2)));have e1:(0.89).get? `Í=some o1:=cC _ (cC _ (cC _ (cC _ (eZ _ al1))));show _/\_;rw[z2,z3,z4]at e5;rw[z1,z2]at e3;rw[z3]at e4;rw[z1]at e2;rw[z4];have hk:∀c o,s.heap.get? c=some o->(0.89).get? c=some o:=fun c o x=>cC _ (cC _ (cC _ (cC _ (cC _ x))));refine⟨⟨_,e5,rfl⟩,LW e5 ?_⟩;have I2:az X ae σ H {s with heap:=uA s.heap o1 o2}:=I.kept (t':=s.toks) hk;refine⟨`Í+4,[`Í+4,`Í+2,`Í+3,`Í,2.4],_,_,H,rfl,I2,auR Z1 Z2 jJ la lb,⟨e5,e3,⟨_,_,e4⟩,g1 _ _ e1,g2 _ _ e2⟩,fun c nE=>?_,q⟩;have e':c=`Í+4\/c=`Í+2\/c=`Í+3\/c=`Í\/c=`Í+1:=by simpa using nE
 have pb:`Í<=c:=by rcases e' with z|z|z|z|z<;>(rw[z];show @LE.le Nat _ _ _;omega)
 exact I.ql pb (I.aO.fresh pb)
def Py(K:Frag)(ta:TA):TI:=fun σ H R=>ta σ H fun vs H1=>∃a b xs ys,vs=4.3/\bF K H1 a xs/\bF K H1 b ys/\`Ã=`ø/\R 3.22 H1
def GB(K:Frag)(ta:TA):TI:=fun σ H R=>ta σ H fun vs H1=>∃a b o kvs ys,vs=4.3/\H1 a=some `ė/\aG K H1 b ys/\`Ö=`ø/\R 2.81 H1
def asq{e e2:Expr}{ta:TA}{p pos jy:Pos}{kK:`_h}{kk:Nat}(hg:Gl X "zip")(hm:X.mg "zip"=none)(ha:PA X [e,e2] ta)
 (hs:3.13:=by rfl) (eW:(backTo pos (starEach [e2] X.am)).any (·.1)=false:=by rfl):PI X 7.7 3.35 (Py X.K ta):=by
 show `_bY;refine 2.64;obtain⟨a,b,xs,ys,ex,pi,qx,jJ,q⟩:=q1;subst ex;cases r1 with
 |cons r rr=>
  cases rr with
  |cons r' rr=>
   cases rr;cases r;cases r';exact afN I1 (afO fun H h=>h.1) (afO fun H h=>h.2) jJ ⟨pi,qx⟩ q
def aaX{e e2:Expr}{ta:TA}{p pos jy:Pos}{kK:`_h}{kk:Nat}(hg:Gl X "zip")(hm:X.mg "zip"=none)(ha:PA X [e,e2] ta)
 (hs:3.13:=by rfl) (eW:(backTo pos (starEach [e2] X.am)).any (·.1)=false:=by rfl):PI X 7.7 3.35 (GB X.K ta):=by
 show `_bY;refine 2.64;obtain⟨a,b,o,kvs,ys,ex,pi,qx,jJ,q⟩:=q1;subst ex;obtain⟨_,_,_,es,ep,_,dX,hsz,_⟩:=I1.rH pi;cases r1 with
 |cons r rr=>
  cases rr with
  |cons r' rr=>
   cases rr;cases r;cases r';exact afN I1 (au8 dX hsz fun H h=>h.1) (au9 fun H h=>h.2) (by rw[aJ];exact jJ) ⟨pi,qx⟩ q
end
section
variable{X:Cx}{tg e:Expr}{td:TE}
def oN(H H':Hp)(q:`_i):Prop:=∃d o u,(∀o' u',H d≠some (.aN o' u'))/\H' d=some (.aN o u)/\q (af H' d u)
def IU(t:TS):TS:=fun D σ H=>3.73
def Te(t:TE):TE:=fun σ H Q=>t σ H fun v H'=>oN H H' (Q v)
def az.C9{ae:`Ï}{σ aS:St}{H H':Hp}{s s':Shared}{q:`_i}(I:`Ë)(I':az X ae aS H' s')(h:oN H H' q):∃H2,az X ae aS H2 s'/\q H2:=by
 obtain⟨d,o,u,hn,e,k⟩:=h;exact⟨_,I'.mX e fun o' u' z=>hn o' u' (I.base.jI d o' u' z),k⟩
def abR{st:Stmt}{t:TS}(h:PS X st t):PS X st (IU t):=by
 intro ae s σ H D I hw;refine a0 (h ae s σ _ _ I hw) fun f s1 q=>?_;cases f with
 |next=>obtain⟨aS,H',I2,q⟩:=q;show `_ce;exact⟨aS,H2,I3,k⟩
 |brk=>obtain⟨aS,H',I2,q⟩:=q;show `_ce;exact⟨aS,H2,I3,k⟩
 |cont=>obtain⟨aS,H',I2,q⟩:=q;show `_ce;exact⟨aS,H2,I3,k⟩
 |ret v=>obtain⟨x,aS,H',I2,r,q⟩:=q;show `_ce;exact⟨x,aS,H2,I3,r,k⟩
def asm{t:TE}(h:PE X e t):PE X e (Te t):=by
 intro ae s σ H Q I hw;refine a0 (h ae s σ _ _ I hw) fun v s1 ⟨x,H1,I2,r,q⟩=>?_;show `_ce;exact⟨x,H2,I3,r,k⟩
def BF(td:TE):TI:=fun σ H R=>td σ H fun x H1=>∃d kvs,x=.ref d/\H1 d=some `Þ/\∀o,R (qT d o kvs) (af H1 d `ė)
def Rb(he:PE X e td):PI X tg e (BF td):=by
 show `_bY;refine a0 '1' fun u s1 ⟨x,H1,I1,rx,d,kvs,ex,hd,q⟩=>?_;subst ex;obtain rfl:u=`ä d:=rx;obtain⟨o,I2⟩:=I1.P9 hd trivial;obtain⟨hs,iY,hx,es,ep,vs,dX,hsz,kv,hm⟩:=I2.rH ax;refine GK hs iY hx dX (HB (tk:=s1.toks) I2 _ (afy _ dX) ⟨_,`Ė,rfl,?_⟩ (q o));rw[hsz]<;>rfl
end
abbrev U0:HO:=.ext fun _=>True
def ba(cs:`ð)(H:Hp):Hp:=fun b=>if b∈cs then none else H b
def lW(cs:`ð)(H0 H:Hp):Hp:=fun b=>if b∈cs then H0 b else H b
section
variable{cs:List Addr}{H H0:Hp}{b:Addr}
def vE(h:b∈cs):ba cs H b=none:=by unfold ba;rw[ay h]
def da(h:b∉cs):ba cs H b=H b:=by unfold ba;rw[aq h]
def uc(h:b∈cs):lW cs H0 H b=H0 b:=by unfold lW;rw[ay h]
def gh(h:b∉cs):lW cs H0 H b=H b:=by unfold lW;rw[aq h]
def iP{o:HO}(h:ba cs H b=some o):b∉cs/\H b=some o:=by
 by_cases e:b∈cs
 .rw[vE e]at h;cases h
 .rw[da e]at h;exact⟨e,h⟩
variable{P:Program}{w:World}{h:Heap}
def Pf(x:`_r)(hc:∀c∈cs,∃o,H c=some `_p):dJ P w (ba cs H) h:=fun b o e=>by
 obtain⟨hb,e⟩:=iP e;refine(x b o e).km (fun c v _ q=>q) (fun c q=>?_) fun c xs q=>?_
 .rw[da fun z=>?_]
  .exact q
  .obtain⟨o,e⟩:=hc c z;rw[e]at q;cases q
 .rw[da fun z=>?_]
  .exact q
  .obtain⟨o,e⟩:=hc c z;rw[e]at q;cases q
def I_{a:Addr}{o:Obj}(e:h.get? a=some o):fG P w H h a `_p:=⟨e,trivial,⟨o,e⟩,fun _ _ _ _=>trivial⟩
def Pg(x:`_r)(hc:∀c∈cs,∃o,H0 c=some `_p/\h.get? c=some o)(hn:∀c∈cs,H c=none):dJ P w (lW cs H0 H) h:=fun b o e=>by
 by_cases hb:b∈cs
 .rw[uc hb]at e;obtain⟨o',e1,e2⟩:=hc b hb;rw[e1]at e;cases e;exact I_ e2
 .rw[gh hb]at e;have ne:∀c u,H c=some u->c∉cs:=3.33;exact(x b o e).km (fun c v _ q=>q) (fun c q=>by rw[gh (ne c _ q)];exact q) fun c xs q=>by rw[gh (ne c _ q)];exact q
end
section
variable{X:Cx}
def asZ{k:Nat}{f:Addr}{fd:`ě}{ps:`ô}{sp:Sp}{ae:`Ï}{σ:St}{H H0:Hp}{s:Shared}{Q:VK}{us:`Ì}{vs:List V}(F:0.47)(hr:cH k X.A)(hb:i4 X.K fd ps [])
 (I:`Ë) (r:bx vs us) (cs:`ð) (oZ:∀x,X.fn x=true) (hc:∀c∈cs,∃x,X.am.cells.lookup x=some c) (h0:∀c∈cs,∃o,H0 c=some `_p/\s.heap.get? c=some o)
 (h:sp vs (lW cs H0 H) 2.39 E0):wpAny `Î X.A (call `æ us) `_v X.xe s:=by
 have hn:∀c∈cs,H c=none:=fun c z=>by obtain⟨x,e⟩:=hc c z;exact I.i8 x c e
 show `_bV;have e0:qQ X.prog X.w X.K X.mg X.base X.A X.stack s (lW cs H0 H):=⟨I.ok.frames,I.ok.mod,5.0,bq I.ok.kF I.sz,I.stack,fun b fc=>?_,aO,I.fu⟩
 .show `_cm
  have bt:=hb s us I.hZ iQ;rw[i6]at bt;refine wpAny_call (yh (F.CK X.A X.stack s _ ⟨us,[]⟩ us vs 2.39 E0 hr e0 bt r h) fun r s' hq=>?_);cases r with
  |error e=>exact 0.4
  |ok fl=>
   cases fl with
   |ret u=>
    obtain⟨v,H',os,fu,un,rS,rv,q⟩:=hq;have fz:∀c∈cs,∃o,H' c=some `_p/\s.heap.get? c=some o/\s'.heap.get? c=some o:=fun c z=>by
     show `_bK
    refine 3.74;refine 3.78
    .by_cases z:b∈cs
     .show `_bj;exact e3
     .exact un.keep b o e 0.67 fc hx
    .by_cases z:b∈cs
     .show `_bj;exact⟨o.slots,e3⟩
     .exact un.kj b o e 0.67 fc hx
    .by_cases z:b∈cs
     .exact vE z
     .rw[da z];exact un.free b o e 0.67 hx
    .rw[da (ne b _ e)];exact un.oa b xs 0.56
    .rw[da (ne b _ e)];exact un.jI b o u 0.56
    .obtain⟨m,q⟩:=un.mW b ps 0.56;exact⟨m,by rw[da (ne b _ e)];exact q⟩
   |next=>exact 0.4
   |brk=>exact 0.4
   |cont=>exact 0.4
 .obtain⟨e1,e2⟩:=I.bs b o e;refine⟨e1,?_⟩;rw[gh fun z=>?_]
  .exact e2
  .exact absurd (iH (cI e) I.ok.kF) (Lh.mpr (sY b z))
 .rw[gh fun z=>?_]
  .exact I.IP b fc
  .obtain⟨x,e⟩:=hc b z;rcases bE.mp (I.CW b fc)with e2|e2
   .exact I.rp x b e e2
   .obtain⟨_,o,ho,_⟩:=I.ok.kM.mem e2;exact absurd (cI ho) (Lh.mpr (sY b z))
end
def oQ(P:`Ô)(w:World)(K:Frag)(mg:`þ)(base:Heap)(N:`ô)(qual:Str)(scope:Scope)(f c':Addr)(cl:`ö)(A:Around)(bK:`_W)(s:Shared)(H:Hp):Cx where
 prog:=P
 w:=w
 K:=K
 mg:=mg
 base:=base
 A:=A.deeper 0.98
 N:=N
 h_:=s
 sM:=H
 am:=envX qual scope s.heap.objs.size f (.ref c') cl
 bK:=bK
 stack:=envX qual scope s.heap.objs.size f (.ref c') cl::bK
 ex:=[]
 iJ:=true
 fn:=fun _=>false
 pn:=[]
 xe:=fun e s'=>wpAny '5' (A.deeper 0.98) (leaving 0.98 e) 8.2 8.2 s'
structure KP(x:Str)(ys:List Str)(sc:Scope):Prop where
 kind:sc.kind=.function
 co:sc.isCoroutine=false
 gen:sc.isGenerator=false
 aaz:∀y∈sc.names,y.2≠.cell
 Co:sc.names.lookup x=some .local
 fre:∀y,sc.names.lookup y=some .free->y∈ys
 iS:∀y,sc.names.lookup y=some .local->y=x
structure UV(H:Hp)(f c':Addr)(fd:FuncData)(qual:Str)(cl:List (Str×Addr))(val:Str->V):Prop where
 fn:∃fo,H f=some (.aN fo U0)/\fo.data=.func fd
 code:∃(oc:Obj)(vs:'6')(t:Tok),H c'=some (.aN oc U0)/\oc.data=.fields vs/\vs[1]? =some (.str qual t)
 cell:∀p∈cl,∃(o:Obj)(u:Value),H p.2=some `_p/\o.data=.cell (some u)/\bA (val p.1) u
def ac9(f c':Addr)(fd:`ě)(qual:Str)(cl:`ö)(val:Str->V)(tb:TE):Sp:=fun vs H Q _=>∃v,vs=[v]/\UV H f c' fd qual cl val/\tb (some v::cl.map fun p=>some (val p.1)) (ba (cl.map (·.2)) H) (fun v H'=>Q v (lW (cl.map (·.2)) H H'))
def Ň{p:Str×Addr}:∀{cl:`ö},p∈cl->∃c,cl.lookup p.1=some c
 |[],h=>by cases h
 |q::cl,h=>by
  rw[sR];cases e:p.1==q.1 with
  |true=>exact⟨q.2,rfl⟩
  |false=>
   rcases bE.mp h with z|z
   .subst z;simp at e
   .exact Ň z
def P_{p:Str×Addr}:∀{cl:`ö},(cl.map (·.1)).Nodup->p∈cl->cl.lookup p.1=some p.2
 |[],_,h=>by cases h
 |q::cl,nd,h=>by
  rw[sR];rcases bE.mp h with z|z
  .subst z;simp
  .have:(p.1==q.1)=false:=by
    rw[gO];intro e;have hm:p.1∈cl.map (·.1):=gu z;rw[e]at hm;exact(jB.mp nd).1 hm
   rw[this];exact P_ (jB.mp nd).2 z
def ĵ{P:`Ô}{w:World}{K:Frag}{mg:`þ}{base:Heap}{k:Nat}{f c':Addr}{params:Arguments}{body:Expr}{scope:Scope}{qual x:Str}{cl:`ö}{pm ir:Value}{val:Str->V}{tb:TE}
 (S:KP x (cl.map (·.1)) scope) (j4:(x::cl.map (·.1)).Nodup) (Bk:cl.Pairwise fun p q=>p.2≠q.2)
 (oX:∀(A:Around)(bK:`_W)(s:Shared)(H:Hp),cH k (A.deeper 0.98)->PE (oQ P w K mg base (x::cl.map (·.1)) qual scope f c' cl A bK s H) body tb):
 f9 P w K mg base gY (k+1) f 4.68 [x] (ac9 f c' 4.68 qual cl val tb):=by
 refine⟨fun vs H Q E h=>by obtain⟨v,rfl,_⟩:=h;rfl,fun A bK s H args us vs Q E hr e0 hb r qy=>?_⟩;obtain⟨v,rfl,L,hq⟩:=qy;obtain⟨fo,hf,rN⟩:=L.fn;obtain⟨oc,ovs,t,gn,Pc,alV⟩:=L.code;obtain⟨u,rfl,ru⟩:=zW r;have P7:s.heap.NoLimit:=e0.mod.nolimit.keeps fun b o e=>(e0.bs b o e).1;have fz:∀c∈cl.map (·.2),∃o,H c=some `_p/\s.heap.get? c=some o:=fun c hc=>by
  obtain⟨p,hp,rfl⟩:=cw.mp hc;obtain⟨o,_,e,_⟩:=L.cell p hp;exact⟨o,e,(e0.aO _ _ e).1⟩
 have ZH:dJ P w (ba (cl.map (·.2)) H) s.heap:=Pf e0.aO fun c hc=>by obtain⟨o,e,_⟩:=fz c hc;exact⟨o,e⟩
 have kQ:∀b,H b=none->ba (cl.map (·.2)) H b=none:=fun b e=>by
  by_cases z:b∈cl.map (·.2)
  .exact vE z
  .rw[da z];exact e
 refine PySem.W.kla_callFunE hr.depth (e0.aO f _ hf).1 rN S.co S.gen rfl ⟨c',oc,ovs,t,rfl,(e0.aO c' _ gn).1,Pc,alV⟩ (hb _ _ _ _ ?_);refine wpAny_newFunctionEnv S.aaz (9.4) (fun h1 tH hsb=>?_) S.kind
 .have:y=(x,u):=by simpa using hy
  subst this;exact S.Co
 have jL:∀b o,s.heap.get? b=some o->h1.get? b=some o:=fun b o e=>hsb.extBut b o (gb (cI e)) (cC _ e);refine⟨P7.keeps jL,?_⟩;show codeAny _ _ (.expr body 0.98) _ _;have alP:∀y,y≠x->¬scope.names.lookup y=some .local:=fun y hy e=>hy (S.iS y e);have pA:∀y c,cl.lookup y=some c->(y,c)∈cl:=fun y c e=>io e;have inj:∀y z c,cl.lookup y=some c->cl.lookup z=some c->y=z:=fun y z c e1 e2=>by
  exact name_of_addr Bk (pA y c e1) (pA z c e2)
 have cellOf:∀p∈cl,∃u,h1.IsCell p.2 (some u)/\bA (val p.1) u:=fun p hp=>by
  obtain⟨o,u,e,hd,rv⟩:=L.cell p hp;exact⟨u,⟨o,jL _ _ (e0.aO _ _ e).1,hd⟩,rv⟩
 have I:az (oQ P w K mg base (x::cl.map (·.1)) qual scope f c' cl A bK s (ba (cl.map (·.2)) H)) [] (some v::cl.map fun p=>some (val p.1)) (ba (cl.map (·.2)) H) {s with heap:=h1,toks:=s.toks+[(x,u)].length}:=by
  have sn:∀b:Addr,b∉(oQ P w K mg base (x::cl.map (·.1)) qual scope f c' cl A bK s (ba (cl.map (·.2)) H)).ex:=fun b z=>absurd (show b∈([]:List Addr)from z) `Ç;refine⟨⟨e0.mod,S.kind,rfl,rfl,bp _,inj,9.4,fun y c z=>5.6,fun _=>hr.hd,Around.frames_deeper e0.frames,.inr `_x,2.45,fun b o e=>⟨(e0.bs b o e).1,kQ b (e0.bs b o e).2⟩,e0.kF,fun b _ _=>sn b,2.45,e0.kM,fun b fc=>kQ b (e0.rG b fc)⟩,
   rfl,e0.fu,Un.kept jL,⟨_,tH,fun i y v' g1 g2 g3=>?_⟩,fun y c e=>?_,ZH.fresh (bp _),fun y c e=>vE (gu (pA y c e)),fun p hp=>absurd (show p∈([]:List 0.33)from hp) `Ç,ZH.kept jL,by simp[oQ]⟩
  .show `_cc
   .exact absurd rfl (S.aaz _ (io hy))
   .have hm:=S.fre y hy;obtain⟨p,hp,rfl⟩:=cw.mp hm;show∃c,cl.lookup p.1=some c;exact Ň hp
  .cases i with
   |zero=>
    have e1:x=y:=bZ g1;have e2:v=v':=bZ (bZ g2);subst e1 e2;exact⟨u,ru,.inl ⟨S.Co,by show List.lookup x [(x,u)]=some u;simp⟩⟩
   |succ j=>
    have yO:(cl.map (·.1))[j]? =some y:=g1;have OG:(cl.map fun p=>some (val p.1))[j]? =some (some v'):=g2;rw[cG]at yO OG;obtain⟨p,hp,rfl⟩:=gc.mp yO;rw[hp]at OG;have e2:val p.1=v':=bZ (bZ OG);subst e2;have mp:=cN hp;obtain⟨u',hu,rv⟩:=cellOf p mp;have lk:=P_ (jB.mp j4).2 mp;refine⟨u',rv,.inr ⟨?_,p.2,lk,hu⟩⟩;have hnx:p.1≠x:=fun z=>(jB.mp j4).1 (by rw[<-z];exact gu mp);rcases g3 with g3|g3|g3
    .exact absurd g3 (alP p.1 hnx)
    .exact .inl g3
    .exact .inr g3
  .obtain⟨u',hu,_⟩:=cellOf (y,c) (pA y c e);exact⟨_,hu⟩
 refine PySem.W.kla_codeExpr (kD (oX A bK s (ba (cl.map (·.2)) H) (hr.deeper _) [] _ _ _ _ I hq) (fun u' s' hs=>?_) fun e s' hs=>kD hs (fun _ _ z=>z.elim) fun _ _ z=>z.elim);obtain⟨v',H',J,rv,q⟩:=hs;have un:=J.base;have Bp:∀c∈cl.map (·.2),H' c=none:=fun c hc=>by
  obtain⟨p,hp,rfl⟩:=cw.mp hc;exact J.i8 p.1 p.2 (P_ (jB.mp j4).2 hp)
 have QO:∀c∈cl.map (·.2),c∉nB bK:=fun c hc fc=>by
  obtain⟨o,e,_⟩:=fz c hc;rw[e0.rG c fc]at e;cases e
 have fz':∀c∈cl.map (·.2),∃o,H c=some `_p/\s.heap.get? c=some o/\s'.heap.get? c=some o:=fun c hc=>by
  obtain⟨o,e1,e2⟩:=fz c hc;exact⟨o,e1,e2,un.keep c o e2 (vE hc) (QO c hc) (by simp[oQ])⟩
 have ne:∀b o,(∀o',o≠.aN o' U0)->H b=some o->b∉cl.map (·.2):=fun b o cQ e z=>by
  obtain⟨o',e',_⟩:=fz b z;rw[e']at e;cases e;exact cQ _ rfl
 refine⟨v',lW (cl.map (·.2)) H H',J.os,J.fu,⟨fun b o e n fc hx=>?_,fun b o e n fc hx=>?_,fun b o e n hx=>?_,fun b o e hx=>un.there b o e (by simp[oQ]),fun b xs e=>?_,fun b o u e=>?_,fun b ps e=>?_⟩,Pg J.aO (fun c hc=>by obtain⟨o,e1,_,e3⟩:=fz' c hc;exact⟨o,e1,e3⟩) Bp,rv,q⟩
 .exact un.keep b o e (kQ b n) fc (by simp[oQ])
 .exact un.kj b o e (kQ b n) fc (by simp[oQ])
 .by_cases z:b∈cl.map (·.2)
  .obtain⟨o',e',_⟩:=fz b z;rw[e']at n;cases n
  .rw[gh z];exact un.free b o e (kQ b n) (by simp[oQ])
 .have z:=ne b _ (fun o' q=>by cases q) e;rw[gh z];exact un.oa b xs 3.36
 .by_cases z:b∈cl.map (·.2)
  .rw[uc z];exact e
  .rw[gh z];exact un.jI b o u 3.36
 .have z:=ne b _ (fun o' q=>by cases q) e;obtain⟨m,q⟩:=un.mW b ps 3.36;exact⟨m,by rw[gh z];exact q⟩
def l7(mg:`þ)(base:Heap):Prop:=∃bm o,mg "__builtins__"=some (.ref bm)/\bm≠builtinsNs/\bm≠mainGlobals/\base.get? bm=some o/\o.cls=.type "module"/\o.dict=some builtinsNs/\o.data=.plain
def dU(H:Hp)(P:Addr)(pos:Pos)(qual:Str):Prop:=∃ps:Array Value,H P=some (.fi ps)/\TriplesOk ps.toList/\
 (codeAmong pos ps.toList=none\/∃(c':Addr)(oc:Obj)(vs:'6')(t:Tok),codeAmong pos ps.toList=some (.ref c')/\H c'=some (.aN oc U0)/\oc.data=.fields vs/\vs[1]? =some (.str qual t))
def afu{c:Value}{i j:Int}{t u:Tok}:∀(l:`Ì),TriplesOk l->TriplesOk (l++[.int i t,.int j u,c])
 |[],_=>trivial
 |.int _ _::.int _ _::_::gJ,h=>afu gJ h
section
variable{X:Cx}
def Ĵ{ae:`Ï}{σ:St}{H:Hp}{s:Shared}{Pt c:Addr}{params:Arguments}{body:Expr}{scope:Scope}{pos:Pos}{bv:`ö}{Q:`Ñ}(I:`Ë)
 (Bd:defaultsOf params X.am=([],[])) (cD:closureFor scope X.am=pure bv) (nF:X.am.code=.ref c) (C:8.7 X.base c Pt) (B:l7 X.mg X.base) (hT:dU H Pt pos 0.6)
 (h:∀(f c':Addr)(pm ir:Value)(H':Hp)(s':Shared),H f=none->az X ae σ H' s'->dU H' Pt pos 0.6->(∀b o,H b=some o->b≠Pt->H' b=some o)->
  (∃fo,H' f=some (.aN fo U0)/\fo.data=.func (1.53))->
  (∃(oc:Obj)(vs:'6')(t:Tok),H' c'=some (.aN oc U0)/\oc.data=.fields vs/\vs[1]? =some (.str 0.6 t))->
  (∀b o,s.heap.get? b=some o->H b=none->H' b=none/\s'.heap.get? b=some o)->Q `æ s'):wpAny `Î X.A (eval (.Lambda params body scope pos) X.am) Q X.xe s:=by
 obtain⟨ps,hP,ht,iC⟩:=hT;obtain⟨bm,ob,b1,b2,b3,b4,b5,b6,b7⟩:=B;have Y_:s.heap.get? Pt=some (PySem.W.tabObj ps):=I.aO Pt _ hP;have vW:∀b,H b=none->b≠Pt:=fun b e z=>by rw[z,hP]at e;cases e
 have Zu:=I.ok.mod.mz.keeps I.bk;have hgP:mainGlobals≠Pt:=by
  obtain⟨o,_,_,ho,_⟩:=I.ok.mod.mz;exact vW _ (I.bs _ _ ho).2
 have Zg:s.heap.BuiltinsAt X.mg Pt:=⟨bm,ob,b1,b2,b3,vW _ (I.bs _ _ b4).2,I.bk _ _ b4,b5,b6,b7⟩;have C':=C.keeps I.bk;refine PySem.W.kla_eval Bd ?_;rcases iC with ZB|⟨c',oc,vs,t,hf,gn,hd,hv⟩
 .refine PySem.W.kla_makeFunction (mg:=X.mg) cD I.ok.mz Zu nF C' Y_ ht ZB hgP Zg fun c' ir h' tk hx Bh cz al3 ZP=>?_;obtain⟨c2,oc,vs,t,e2,vH,hd,hv⟩:=al3;cases e2;generalize AW:PySem.W.kla_obj "<lambda>" 0.6 params body scope bv ((X.mg "__name__").getD .none) c' ir=fo;have jK:fo.data=.func 2.65:=by rw[<-AW]
  have O3:fo.isFreed=false:=by rw[<-AW];rfl
  have hsz:`Í<=5.3:=bq Bh (jV cz);have Hf:H 5.3=none:=I.aO.fresh hsz;have Hc:H c'=none:=I.aO.fresh Bh;have ncf:c'≠5.3:=gb cz;have nPc:Pt≠c':=fun e=>by rw[<-e,hP]at Hc;cases Hc
  have nPf:Pt≠5.3:=fun e=>by rw[<-e,hP]at Hf;cases Hf
  let H':Hp:=af (af (af H Pt (.fi (ps++#[rawInt pos.line,rawInt pos.col,.ref c']))) c' (.aN oc U0)) h'.objs.size (.aN fo U0)
  have Gc:H' 5.3=some (.aN fo U0):=ax;have gn:H' c'=some (.aN oc U0):=by show af _ _ _ _=_;rw[au ncf,ax]
  have OT:H' Pt=some (.fi (ps++#[rawInt pos.line,rawInt pos.col,.ref c'])):=by show af _ _ _ _=_;rw[au nPf,au nPc,ax]
  have old:∀b,b≠Pt->b≠c'->b≠5.3->H' b=H b:=fun b h1 h2 h3=>by show af _ _ _ _=_;rw[au h3,au h2,au h1]
  have olds:∀b o,H b=some o->b≠Pt->H' b=some o:=fun b o e hb=>by rw[old b hb (aR e Hc) (aR e Hf)];exact e
  have keep:∀b o,b≠Pt->s.heap.get? b=some o->(h'.push fo).get? b=some o:=fun b o hb e=>cC _ (hx b o hb e);have Ce:∀b o,s.heap.get? b=some o->H b=none->H' b=none:=fun b o e n=>by
   have Gh:=cI e;rw[old b (vW b n) (gb (iH Gh Bh)) (gb (iH Gh hsz))];exact n
  have I':az X ae σ H' {s with heap:=h'.push fo,toks:=tk}:=by
   refine I.step (g':=s.gens) (d':=s.drawn) (ch:=[]) (fun _ z=>nomatch z) (fun b o _ _ _ e n=>keep b o (vW b n) e) (fun b o _ _ _ e n=>⟨o.slots,keep b o (vW b n) e⟩) (fun b o _ e n=>Ce b o e n) (fun b o _ e=>?_) (fun b xs e=>olds b _ e fun z=>?_) (fun b o u e=>olds b _ e fun z=>?_) (fun b qs e=>?_) (fun m hm=>?_) (5.0) I.fu
   .by_cases hb:b=Pt
    .rw[hb];exact⟨_,cC _ ZP⟩
    .exact⟨o,keep b o hb e⟩
   .rw[z,hP]at e;cases e
   .rw[z,hP]at e;cases e
   .by_cases hb:b=Pt
    .rw[hb,hP]at e;cases e;exact⟨_,by rw[hb];exact OT⟩
    .exact⟨#[],by rw[olds b _ e hb];simp⟩
   .obtain⟨o,es,ep,ho,r⟩:=hm;exact⟨o,es,ep,keep _ o (vW _ I.free) ho,r⟩
   .by_cases h3:b=5.3
    .rw[h3,Gc]at e;cases e;rw[h3];exact I_ (eZ _ O3)
    .by_cases h2:b=c'
     .rw[h2,gn]at e;cases e;rw[h2];exact I_ (cC _ vH)
     .by_cases h1:b=Pt
      .rw[h1,OT]at e;cases e;rw[h1];exact cC _ ZP
      .rw[old b h1 h2 h3]at e;refine(I.aO b o e).km (fun c v hc q=>keep c v ?_ q) (fun c q=>olds c _ q fun z=>?_) fun c xs q=>olds c _ q fun z=>?_
       .rcases hc with rfl|hc
        .exact h1
        .intro z;rw[z,hP]at hc;cases hc
       .rw[z,hP]at q;cases q
       .rw[z,hP]at q;cases q
  refine h h'.objs.size c' _ ir H' _ Hf I' ⟨_,OT,?_,.inr ⟨c',oc,vs,t,?_,gn,hd,hv⟩⟩ olds ⟨fo,Gc,jK⟩ ⟨oc,vs,t,gn,hd,hv⟩ fun b o e n=>⟨Ce b o e n,keep b o (vW b n) e⟩
  .rw[Array.toList_append];exact afu _ ht
  .rw[Array.toList_append];exact codeAmong_snoc _ ht ZB
 .refine PySem.W.kla_makeFunctionHit (mg:=X.mg) cD I.ok.mz Zu nF C' Y_ ht hf Zg fun ir h' tk hk hsz=>?_;generalize AW:(Obj.mk (.type "function") none (.func 2.65) #[])=fo;have jK:fo.data=.func 2.65:=by rw[<-AW]
  have O3:fo.isFreed=false:=by rw[<-AW];rfl
  have Hf:H 5.3=none:=I.aO.fresh hsz;have I':az X ae σ (af H h'.objs.size (.aN fo U0)) {s with heap:=h'.push fo,toks:=tk}:=I.jM (t':=tk) (fun b o e=>cC _ (hk b o e)) hsz (I_ (eZ _ O3));have olds:∀b o,H b=some o->af H h'.objs.size (.aN fo U0) b=some o:=fun b o e=>by rw[au (aR e Hf)];exact e
  refine h h'.objs.size c' _ ir _ _ Hf I' ⟨ps,olds _ _ hP,ht,.inr ⟨c',oc,vs,t,hf,olds _ _ gn,hd,hv⟩⟩ (fun b o e _=>olds b o e) ⟨fo,ax,jK⟩ ⟨oc,vs,t,olds _ _ gn,hd,hv⟩ fun b o e n=>⟨?_,cC _ (hk b o e)⟩;rw[au (gb (iH (cI e) hsz))];exact n
end
section
variable{X:Cx}
def Wj{ae:`Ï}{σ:St}{H:Hp}{s:Shared}(I:`Ë){bv:`ö}{val:Str->V}{ix:Str->Nat}
 (iy:2.63) (hv:3.19):
 ∀p∈bv,∃(o:Obj)(u:Value),s.heap.get? p.2=some o/\o.data=.cell (some u)/\bA (val p.1) u:=fun p hp=>by
 obtain⟨h1,h2,h3⟩:=iy p hp;obtain⟨m,hn,hl⟩:=I.iS;obtain⟨u,rv,hk⟩:=hl (ix p.1) p.1 (val p.1) h3 (hv p hp) (.inr (.inl h2));rcases hk with⟨z,_⟩|⟨_,c,e,o,ho,hd⟩
 .have z:X.am.scope.names.lookup p.1=some .local:=z;rw[h2]at z;cases z
 .rw[h1]at e;cases e;exact⟨o,u,ho,hd,rv⟩
def auq(P:`Ô)(w:World)(K:Frag)(mg:`þ)(base:Heap)(k:Nat)(Ip:Sp)(te:TE)(Pt:Addr)(pos:Pos)(qual x:Str)(bv:`ö)(ix:Str->Nat)(tb:TE):TE:=fun σ H Q=>te σ H fun v1 H1=>
 dU H1 Pt pos qual/\∃val:Str->V,(3.19)/\((∀p∈bv,H1 p.2=none)->∀(f c':Addr)(fd:`ě)(H2:Hp),H1 f=none->dU H2 Pt pos qual->(∀b o,H1 b=some o->b≠Pt->H2 b=some o)->UV H2 f c' fd qual bv val->
  f9 P w K mg base gY (k+1) f fd [x] (ac9 f c' fd qual bv val tb)->i4 K fd [x] []->Ip [v1,.ref f] H2 (fun v H'=>Q v (ba (bv.map (·.2)) H')) E0)
def aaP{g x:Str}{e:Expr}{params:Arguments}{body:Expr}{scope:Scope}{nO p pos:Pos}{f0 c Pt:Addr}{YH:`ě}{Cy:`ô}{Ip:Sp}{k0 k:Nat}{te tb:TE}{bv:`ö}{ix:Str->Nat}
 (F:f9 X.prog X.w X.K X.mg X.base gY k0 f0 YH Cy Ip) (hr:cH k0 X.A) (hn:PE X (.Name g p) (tC (.ref f0))) (hk:keepIn X.K (.ref f0)=true) (hb:i4 X.K YH Cy []) (he:PE X e te)
 (Bd:defaultsOf params X.am=([],[])) (cD:closureFor scope X.am=pure bv) (nF:X.am.code=.ref c) (C:8.7 X.base c Pt) (B:l7 X.mg X.base) (oZ:∀y,X.fn y=true)
 (S:KP x (bv.map (·.1)) scope) (j4:(x::bv.map (·.1)).Nodup) (Bk:bv.Pairwise fun p q=>p.2≠q.2) (iy:2.63)
 (A_:4.25)
 (oX:∀(f c':Addr)(A:Around)(bK:`_W)(s:Shared)(H:Hp),cH k 4.58->
  PE (oQ X.prog X.w X.K X.mg X.base (x::bv.map (·.1)) 0.6 scope f c' bv A bK s H) body tb)
 (hs:starEach 3.58 X.am=[9.9,(false,eval (.Lambda params body scope nO) X.am)]:=by rfl):
 PE X (.Call (.Name g p) 3.58 [] pos) (auq X.prog X.w X.K X.mg X.base k Ip te Pt nO 0.6 x bv ix tb):=by
 show `_af;refine qb (a0 (hn ae s σ H (fun v H'=>v=.ref f0/\H'=H) I `_x) fun u s0 ⟨v,H0,I0,r0,ev,eH⟩=>?_);subst ev eH;obtain rfl:u=`ä f0:=r0;have key:wpAny `Î X.A (spliced (backTo pos (starEach 3.58 X.am))) (fun us s1=>X.K.In s1.heap/\wpAny `Î X.A (call (.ref f0) ([]++us)) `_v X.xe s1) X.xe s0:=by
  rw[hs];show wpAny _ _ (spliced (9.9::(false,eval (.Lambda params body scope nO) X.am)::[])) _ _ s0;refine yg (a0 (he ae s0 σ _ _ I0 h) fun u1 s1 ⟨v1,H1,I1,r1,hT,val,hv,q1⟩=>?_);refine yg (Ĵ I1 Bd cD nF C B hT fun f c' pm ir H' s' hf I' A6 olds jK Bc hkp=>Av ⟨I'.hZ,?_⟩);have kn:=Wj I' iy hv;have AL:∀p∈bv,H' p.2=none:=fun p hp=>I'.i8 p.1 p.2 (iy p hp).1
  let xD:Hp:=fun b=>match s'.heap.get? b with|some o=>some `_p|none=>none
  have kR:∀c∈bv.map (·.2),∃p∈bv,p.2=c:=fun c hc=>by obtain⟨p,hp,e⟩:=cw.mp hc;exact⟨p,hp,e⟩
  refine asZ F hr hb I' (.cons r1 (.cons (show bA `æ `æ from rfl) .nil)) (bv.map (·.2)) (H0:=xD) oZ (fun c hc=>?_) (fun c hc=>?_) ?_
  .obtain⟨p,hp,rfl⟩:=kR c hc;exact⟨p.1,(iy p hp).1⟩
  .obtain⟨p,hp,rfl⟩:=kR c hc;obtain⟨o,u,ho,_⟩:=kn p hp;exact⟨o,by show 4.52=_;rw[ho],ho⟩
  have out:∀b o,H' b=some o->b∉bv.map (·.2):=fun b o e z=>by
   obtain⟨p,hp,rfl⟩:=kR b z;rw[AL p hp]at e;cases e
  have up:∀b o,H' b=some o->lW (bv.map (·.2)) xD H' b=some o:=fun b o e=>by rw[gh (out b o e)];exact e
  refine q1 (fun p hp=>I1.i8 p.1 p.2 (iy p hp).1) f c' (1.53) _ hf ?_ (fun b o e fc=>up b o (olds b o e fc)) ⟨?_,?_,2.1⟩ (ĵ S j4 Bk (oX f c')) ?_
  .obtain⟨ps,z1,z2,z3⟩:=A6;refine⟨ps,up _ _ z1,z2,z3.imp id ?_⟩;rintro⟨c2,oc,vs,t,y1,y2,y3⟩;exact⟨c2,oc,vs,t,y1,up _ _ y2,y3⟩
  .obtain⟨fo,z1,z2⟩:=jK;exact⟨fo,up _ _ z1,z2⟩
  .obtain⟨oc,vs,t,z1,z2⟩:=Bc;exact⟨oc,vs,t,up _ _ z1,z2⟩
  .obtain⟨o,u,ho,hd,rv⟩:=kn p hp;refine⟨o,u,?_,hd,rv⟩;rw[uc (gu hp)];show 4.52=_;rw[ho]
  .refine .all fun us hl=>?_
   match us,hl with
   |[u],_=>exact A_ pm ir c' u
 exact ET (h₀:=X.base) I0.ok.mod.vR hk key (by rw[hs];rfl) rfl
end
section
variable{X:Cx}
def as2{A:Around}{k:Nat}{f:Addr}{fd:`ě}{ps:`ô}{sp:Sp}{ae:`Ï}{σ:St}{H H0:Hp}{s:Shared}{Q:VK}{us:`Ì}{vs:List V}(F:0.47)(yU:A.frames=some X.stack)(hr:cH k A)(hb:i4 X.K fd ps [])
 (I:`Ë) (r:bx vs us) (cs:`ð) (oZ:∀x,X.fn x=true) (hc:∀c∈cs,∃x,X.am.cells.lookup x=some c) (h0:∀c∈cs,∃o,H0 c=some `_p/\s.heap.get? c=some o)
 (h:sp vs (lW cs H0 H) 2.39 E0):wpAny `Î A (call `æ us) `_v 8.2 s:=by
 have hn:∀c∈cs,H c=none:=fun c z=>by obtain⟨x,e⟩:=hc c z;exact I.i8 x c e
 show `_bV;have e0:qQ X.prog X.w X.K X.mg X.base A X.stack s (lW cs H0 H):=⟨yU,I.ok.mod,5.0,bq I.ok.kF I.sz,I.stack,fun b fc=>?_,aO,I.fu⟩
 .show `_cm
  have bt:=hb s us I.hZ iQ;rw[i6]at bt;refine wpAny_call (yh (F.CK A X.stack s _ ⟨us,[]⟩ us vs 2.39 E0 hr e0 bt r h) fun r s' hq=>?_);cases r with
  |error e=>exact 0.4
  |ok fl=>
   cases fl with
   |ret u=>
    obtain⟨v,H',os,fu,un,rS,rv,q⟩:=hq;have fz:∀c∈cs,∃o,H' c=some `_p/\s.heap.get? c=some o/\s'.heap.get? c=some o:=fun c z=>by
     show `_bK
    refine 3.74;refine 3.78
    .by_cases z:b∈cs
     .show `_bj;exact e3
     .exact un.keep b o e 0.67 fc hx
    .by_cases z:b∈cs
     .show `_bj;exact⟨o.slots,e3⟩
     .exact un.kj b o e 0.67 fc hx
    .by_cases z:b∈cs
     .exact vE z
     .rw[da z];exact un.free b o e 0.67 hx
    .rw[da (ne b _ e)];exact un.oa b xs 0.56
    .rw[da (ne b _ e)];exact un.jI b o u 0.56
    .obtain⟨m,q⟩:=un.mW b ps 0.56;exact⟨m,by rw[da (ne b _ e)];exact q⟩
   |next=>exact 0.4
   |brk=>exact 0.4
   |cont=>exact 0.4
 .obtain⟨e1,e2⟩:=I.bs b o e;refine⟨e1,?_⟩;rw[gh fun z=>?_]
  .exact e2
  .exact absurd (iH (cI e) I.ok.kF) (Lh.mpr (sY b z))
 .rw[gh fun z=>?_]
  .exact I.IP b fc
  .obtain⟨x,e⟩:=hc b z;rcases bE.mp (I.CW b fc)with e2|e2
   .exact I.rp x b e e2
   .obtain⟨_,o,ho,_⟩:=I.ok.kM.mem e2;exact absurd (cI ho) (Lh.mpr (sY b z))
def lM(kf:Int->Int)(b:Option Int)(n:Int):Option Int:=match b with
 |none=>some n
 |some m=>if kf m<kf n then some n else some m
def aiw(a v d:Value):argsOk "max" ⟨[a],[(1.0 "key",v),(1.0 "default",d)]⟩:=by unfold argsOk;kernel_rfl
def ai8(kf:Int->Int)(b:Option Int)(xs:'6'):Prop:=match b with
 |none=>xs=#[]
 |some m=>∃t u,xs=#[.int m t,.int (kf m) u]
def aoK{ae:`Ï}{σ:St}{H:Hp}{l It S q:Addr}{ns:`Ê}{dv:Value}{kf:Int->Int}{d:Int}{t0:Tok}(hc:`_S)(hd:dv=.int d t0)(hl:aG X.K H l `ι)(OS:It≠S)
 (fI:jT X ae H It) (fS:jT X ae H S)
 (turn:∀(pF:`Ï)(n:Int)(v:Value)(s:Shared),n∈ns->bA (.int n) v->az X pF σ H s->wpAny `Î X.A.in1 (call `ğ [v]) (EP X pF σ fun r H'=>r=.int (kf n)/\H'=H) 8.2 s):
 ∀(r i:Nat)(b:Option Int)(xs:'6')(c:Nat)(s:Shared),':'-i=r->i<=':'->az X ae σ H s->s.heap.IsListIter It l i->s.heap.get? S=some (seqObj "list" xs c)->ai8 kf b xs->
  codeAny `Î X.A 4.30
   (fun r s'=>match r with|.ok (.ret u)=>EP X ae σ (fun v H'=>v=.int 3.32/\H'=H) u s'|.ok _=>False|.error _=>False) s:=by
 have Br:(toString "max"++toString ".loop":String)="max.loop":=`Ĝ;intro r
 induction r with
 |zero=>
  intro i b xs c s hr hi I cE hS hb;have ei:i=':':=`Å;show `_bQ;have Pa:l≠It:=fun e=>by
   show `_bW
  show `_bD;refine aI (m:=tryCatch (pyNext (.ref It)) _) (LX (W.done _ _ _ ⟨by rw[fP,<-hlen,<-ei];exact cE,pl.isList⟩ fun h' zU i_=>?_));show `_aX;rw[ei,sP];cases b with
  |none=>
   have hx:xs=#[]:=hb;subst hx;subst hd;refine aI (wpAny_rule (br ?_));exact⟨.int d,H,I1,⟨t0,rfl⟩,rfl,rfl⟩
  |some m=>
   obtain⟨t,u,hx⟩:=(show∃t u,xs=#[.int m t,.int (kf m) u]from hb);subst hx;have s1:=rb h' S (Obj.mapSeq fun _=>(#[]:Array Value));refine aI (m:=updateSeq S (fun _=>#[])) (wpAny_updateSeq qo rfl (aI (AA (br ?_))));obtain⟨g0,g1,g2,g3,g4,g5⟩:=fS;have I2:az X ae σ H {s with heap:=h'.update S (Obj.mapSeq fun _=>(#[]:Array Value)),toks:=zU}:=I1.turned (t':=zU) (fun b o hb e=>(s1.2 b hb).trans e) g0 g1 g3 g4 g5;exact⟨.int m,H,I2,0.1,rfl,rfl⟩
 |succ r ih=>
  intro i b xs c s hr hi I cE hS hb;have cz:i<':':=`Å;show `_bQ;have Pa:l≠It:=fun e=>by
   show `_bW
  show `_bD;refine aI (m:=tryCatch (pyNext (.ref It)) _) (LX (W.item i _ _ _ (by rw[fP];omega) ⟨cE,pl.isList⟩ fun v h' zU hP al6 i_=>?_));have hv:its[i]? =some v:=by simpa using hP
  obtain⟨n,hn⟩:∃n,ns[i]? =some n:=⟨ns[i],jU cz⟩;obtain⟨v',rW,rvn⟩:=rv.get (i:=i) (x:=.int n) (by rw[cG,hn];rfl);rw[hv]at rW;cases rW;obtain⟨Hv,alU,vH,gH⟩:=id al6.1;show `_aX;obtain⟨g0,g1,g2,g3,g4,g5⟩:=fS;have I2:az X ((It,Hv)::(S,seqObj "list" xs c)::ae) σ H {s with heap:=h',toks:=zU}:=I1.HC fun p hp=>by
   rcases bE.mp hp with rfl|hp
   .exact⟨alU,f0,f1,f2,fun v z=>by rw[gH]at z;cases z⟩
   .rcases bE.mp hp with rfl|hp
    .exact⟨qo,g0,g1,g2,fun v z=>nomatch z⟩
    .exact I1.pin p (oA _ hp)
  refine aI (m:=tryCatch (holding [v] (call `ğ [v])) _) (LX (Az (kD (turn _ n v _ (cN hn) rvn I2) (fun x s2 he=>?_) fun _ _ hF=>hF.elim)));obtain⟨rx,Hx,I3,rvx,rfl,rfl⟩:=he;obtain⟨t2,rfl⟩:=rvx;obtain⟨tv,rfl⟩:=rvn;have pI:=(I3.pin (It,Hv) `Ç).1;have pS:=(I3.pin (S,seqObj "list" xs c) `Ç).1;have I4:az X ae σ Hx s2:=I3.HC fun p hp=>I3.pin p (by simp;exact .inr (.inr (.inr hp)));have alJ:s2.heap.IsListIter It l (i+1):=⟨Hv,pI,vH,gH⟩;have ed:ns.drop i=n::ns.drop (i+1):=by
   have vD:=dM.mp hn;rw[Dt vD.1,vD.2]
  have afC:∀(b':Option Int),b'=lM kf b n->3.32=(((ns.drop (i+1)).foldl (lM kf) b').getD d):=fun b' e=>by rw[ed,jA,e]
  have kY:∀(c2:Nat)(s3:Shared),s3.heap.get? S=some (seqObj "list" #[.int n tv,.int (kf n) t2] c2)->az X ae σ Hx s3->s3.heap.IsListIter It l (i+1)->lM kf b n=some n->
   codeAny `Î X.A 4.30
    (fun r s'=>match r with|.ok (.ret u)=>EP X ae σ (fun v H'=>v=.int 3.32/\H'=Hx) u s'|.ok _=>False|.error _=>False) s3:=fun c2 s3 hS3 I5 Gf e=>by
   rw[afC (some n) e.symm];exact ih (i+1) (some n) _ c2 s3 `È cz I5 Gf hS3 ⟨tv,t2,rfl⟩
  have s1:=rb s2.heap S 2.90;have c_:∃c2,(s2.heap.update S 2.90).get? S=some (seqObj "list" #[.int n tv,.int (kf n) t2] c2):=⟨_,get?_update_seq pS fun _=>#['!' n tv,1.20]⟩;obtain⟨c2,c_⟩:=c_;have I5:az X ae σ Hx {s2 with heap:=s2.heap.update S (Obj.mapSeq fun _=>#['!' n tv,1.20])}:=I4.turned (t':=s2.toks) (fun b o hb e=>(s1.2 b hb).trans e) g0 g1 g3 g4 g5;have Gf:(s2.heap.update S 2.90).IsListIter It l (i+1):=⟨Hv,(s1.2 It OS).trans pI,vH,gH⟩;cases b with
  |none=>
   have hx:xs=#[]:=hb;subst hx;refine aI (m:=updateSeq S (fun _=>#['!' n tv,1.20])) (wpAny_updateSeq pS rfl ?_);rw[Br];exact br ⟨LN Aw _,kY c2 _ c_ I5 Gf rfl⟩
  |some m=>
   obtain⟨t,u,hx⟩:=(show∃t u,xs=#[.int m t,.int (kf m) u]from hb);subst hx;refine aI (m:=tryCatch (holding ['!' n tv,1.20] (richCompare .Gt (.int (kf n) t2) (.int (kf m) u)>>=_)) _) (LX (Az (aI (CmpOf.ints_gt (prog:=X.prog) (w:=X.w) (A:=X.A.in1) (P:=fun i v=>∃t,v=.int (if i=0 then kf n else kf m) t) (fun i=>if i=0 then kf n else kf m) (fun i v h=>h) 0 1 _ _ _ _ _ ⟨t2,rfl⟩ ⟨u,rfl⟩ ?_))));refine aI (Az (sW (aI (AA (br ?_)))));by_cases Ge:kf m<kf n
   .have F_:decide 4.45=true:=by simpa using Ge
    rw[ay F_];refine aI (m:=updateSeq S (fun _=>#['!' n tv,1.20])) (wpAny_updateSeq pS rfl (aI (AA ?_)));rw[Br];exact br ⟨LN Aw _,kY c2 _ c_ I5 Gf (by show(if kf m<kf n then some n else some m)=_;rw[ay Ge])⟩
   .have F_:decide 4.45=false:=by simpa using Ge
    rw[aq (fun z=>by rw[show decide ((if(0:Nat)=0 then kf n else kf m)>(if(1:Nat)=0 then kf n else kf m))=true from z]at F_;cases F_)];refine aI (AA ?_);rw[Br];refine br ⟨LN Aw _,?_⟩;rw[afC (some m) (by show _=(if kf m<kf n then some n else some m);rw[aq Ge])];exact ih (i+1) (some m) _ c s2 `È cz I4 alJ pS ⟨t,u,rfl⟩
end
def Zw{cs:`ð}{H0 H:Hp}(h:∀c∈cs,H c=none):ba cs (lW cs H0 H)=H:=by
 funext b
 by_cases z:b∈cs
 .rw[vE z,h b z]
 .rw[da z,gh z]
section
variable{X:Cx}
def Ta(K:Frag)(te:TE)(dflt:Int)(Pt:Addr)(pos:Pos)(qual:Str)(bv:`ö)(ix:Str->Nat)(tb:TE):TE:=fun σ H Q=>te σ H fun v1 H1=>∃(l:Addr)(ns:`Ê)(val:Str->V)(kf:Int->Int),v1=.ref l/\l≠Pt/\H1 l=some (.ah `ι)/\dU H1 Pt pos qual/\
 (3.19)/\(∀H',(∀b o,H1 b=some o->b≠Pt->H' b=some o)->∀n∈ns,∀Q':VK,Q' (.int (kf n)) H'->tb (some (.int n)::bv.map fun p=>some (val p.1)) H' Q')/\
 ∀H',(∀b o,H1 b=some o->b≠Pt->H' b=some o)->dU H' Pt pos qual->Q (.int ((ns.foldl (lM kf) none).getD dflt)) H'
def asj{x:Str}{e d:Expr}{params:Arguments}{body:Expr}{scope:Scope}{nO p pos GP GQ:Pos}{c Pt:Addr}{k:Nat}{te tb:TE}{bv:`ö}{ix:Str->Nat}{dflt:Int}
 (hc:`_S) (hr:cH (k+2) X.A) (hg:Gl X "max") (hm:X.mg "max"=none) (he:PE X e te) (hdv:PE X d (tC (.int dflt)))
 (Bd:defaultsOf params X.am=([],[])) (cD:closureFor scope X.am=pure bv) (nF:X.am.code=.ref c) (C:8.7 X.base c Pt) (B:l7 X.mg X.base) (oZ:∀y,X.fn y=true)
 (S:KP x (bv.map (·.1)) scope) (j4:(x::bv.map (·.1)).Nodup) (Bk:bv.Pairwise fun p q=>p.2≠q.2) (iy:2.63)
 (A_:4.25)
 (oX:∀(f c':Addr)(A:Around)(bK:`_W)(s:Shared)(H:Hp),cH k 4.58->
  PE (oQ X.prog X.w X.K X.mg X.base (x::bv.map (·.1)) 0.6 scope f c' bv A bK s H) body tb)
 (hs:backTo pos (starEach [e] X.am)=9.9::backTo pos (starEach [] X.am):=by rfl) (eW:(backTo pos (starEach [e] X.am)).any (·.1)=false:=by rfl)
 (hkk:((2.62).filterMap (·.1))=[("key":Str),"default"]:=by rfl) (hka:(2.62).all (·.1.isSome)=true:=by rfl)
 (Gg:(2.62).any (·.1.isNone)=false:=by rfl):
 PE X (.Call (.Name "max" p) [e] [⟨some "key",.Lambda params body scope nO,GP⟩,⟨some "default",d,GQ⟩] pos) (Ta X.K te dflt Pt nO 0.6 bv ix tb):=by
 show `_af;refine qb (si I hg hm (u:=.builtin "max") (`ē) ?_);refine PyProof.Rows.callWith_kw ?_ hs eW hka Gg;rw[hs,hkk];refine yg (a0 (he ae s σ _ _ I h) fun u1 s1 ⟨v1,H1,I1,r1,l,ns,val,kf,ev,nlP,hl,hT,hv,hk,q⟩=>Av ?_);subst ev;obtain rfl:u1=`ä l:=r1;refine PyProof.Rows.kws_cons (Ĵ I1 Bd cD nF C B hT fun f c' pm ir H' s' hf I' A6 olds jK Bc hkp=>?_);refine PyProof.Rows.kws_cons (a0 (hdv ae s' σ H' (fun v H2=>v=.int dflt/\H2=H') I' `_x) fun ud s2 ⟨v2,H2,I2,r2,ev2,eH2⟩=>PyProof.Rows.kws_nil ?_);subst ev2 eH2;obtain⟨td,rfl⟩:=r2;have AL:∀{s3:Shared}{pF:`Ï},az X pF σ H2 s3->∀c∈bv.map (·.2),H2 c=none:=fun J c gn=>by obtain⟨p,hp,rfl⟩:=cw.mp gn;exact J.i8 p.1 p.2 (iy p hp).1
 have Zy:H2 l=some (.ah `ι):=olds _ _ hl nlP;have turn:∀(pF:`Ï)(n:Int)(v:Value)(s3:Shared),n∈ns->bA (.int n) v->az X pF σ H2 s3->wpAny `Î X.A.in1 (call `æ [v]) (EP X pF σ fun r H'=>r=.int (kf n)/\H'=H2) 8.2 s3:=fun pF n v s3 hn rv J=>by
  have kn:=Wj J iy hv
  let xD:Hp:=fun b=>match s3.heap.get? b with|some o=>some `_p|none=>none
  have hz:∀p∈bv,∀o,s3.heap.get? p.2=some o->xD p.2=some `_p:=fun p hp o e=>by
   show(match s3.heap.get? p.2 with|some o=>some (HO.aN o U0)|none=>none)=_;rw[e]
  have out:∀b o,H2 b=some o->b∉bv.map (·.2):=fun b o e z=>by rw[AL J b z]at e;cases e
  have up:∀b o,H2 b=some o->lW (bv.map (·.2)) xD H2 b=some o:=fun b o e=>by rw[gh (out b o e)];exact e
  refine as2 (fd:=1.53) (ĵ (val:=val) S j4 Bk (oX f c')) (show X.A.in1.frames=some X.stack from J.ok.frames) hr.in1 ?_ J (.cons rv .nil) (bv.map (·.2)) (H0:=xD) oZ (fun c gn=>?_) (fun c gn=>?_) ?_
  .refine .all fun us hl=>?_
   match us,hl with
   |[u],_=>exact A_ pm ir c' u
  .obtain⟨p,hp,rfl⟩:=cw.mp gn;exact⟨p.1,(iy p hp).1⟩
  .obtain⟨p,hp,rfl⟩:=cw.mp gn;obtain⟨o,u,ho,_⟩:=kn p hp;exact⟨o,hz p hp o ho,ho⟩
  .refine⟨.int n,rfl,⟨?_,?_,2.1⟩,?_⟩
   .obtain⟨fo,z1,z2⟩:=jK;exact⟨fo,up _ _ z1,z2⟩
   .obtain⟨oc,vs,t,z1,z2⟩:=Bc;exact⟨oc,vs,t,up _ _ z1,z2⟩
   .obtain⟨o,u,ho,hd,rv⟩:=kn p hp;exact⟨o,u,by rw[uc (gu hp)];exact hz p hp o ho,hd,rv⟩
   .rw[Zw (AL J)];exact hk H2 olds n hn _ ⟨rfl,Zw (AL J)⟩
 have Br:(toString "max"++toString ".loop":String)="max.loop":=`Ĝ;obtain⟨its,rvl,pl,_⟩:=I2.list (aG.of Zy);have vG:l<0.81:=pl.lt;refine kmk_tree PySem.F.kind_max PySem.F.plain_max PySem.F.entry_max (aiw _ _ _) ?_;refine aI (m:=Builtin.Builtins.bindParams "max" ["key","default"] 0 4.53) (wpAny_of_eq (show Builtin.Builtins.bindParams "max" ["key","default"] 0 4.53=pure [`ĕ,some (.int dflt td)]from rfl) ?_);refine aI (br (aI (LV pl.isList (aI (wpAny_newList ?_ (mn _))))));rw[Br];refine br ⟨LN Aw _,?_⟩;have hk3:∀b o,s2.heap.get? b=some o->((1.55).push (seqObj "list" #[] 0)).get? b=some o:=fun b o e=>cC _ (cC _ e);have I3:az X ae σ H2 {s2 with heap:=(s2.heap.push {cls:=.type "list_iterator",data:=.fields #[.ref l,.int 0 0]}).push (seqObj "list" #[] 0)}:=I2.kept (t':=s2.toks) hk3;have hsz:(1.55).objs.size=0.81+1:=size_push' ..;have fI:jT X ae H2 0.81:=I2.ql (bp _) (I2.aO.fresh (bp _));have fS:jT X ae H2 (1.55).objs.size:=I2.ql (by rw[hsz];exact Nat.le_succ _) (I2.aO.fresh (by rw[hsz];exact Nat.le_succ _));have nIS:0.81≠(1.55).objs.size:=by rw[hsz];exact gb (Ap _)
 have fin:=aoK (kf:=kf) (d:=dflt) (t0:=td) hc rfl (aG.of Zy) nIS fI fS turn ns.length 0 none #[] 0 {s2 with heap:=(s2.heap.push {cls:=.type "list_iterator",data:=.fields #[.ref l,.int 0 0]}).push (seqObj "list" #[] 0)} `Ç (mn _) I3 ⟨_,cC _ (`Ė),rfl,rfl⟩ (`Ė) rfl;refine yh fin fun r s4 Bw=>?_;cases r with
 |error e=>exact `_m Bw
 |ok fl=>
  cases fl with
  |ret u=>
   obtain⟨v,H4,I4,rv4,ev,eH⟩:=Bw;subst ev eH;exact⟨_,_,I4,rv4,q _ olds A6⟩
  |next=>exact `_m Bw
  |brk=>exact `_m Bw
  |cont=>exact `_m Bw
end
section
variable{K:Frag}{D:gB}{σ:St}{H:Hp}{Q:VK}
def Yo{t u:TS}(h:t {D with nx:=u D} σ H):aC t u D σ H:=h
def M5(h:D.nx σ H):bL D σ H:=h
def FC{te:TE}(h:te σ H D.rt):aK te D σ H:=h
def akg{te:TE}(h:te σ H fun _ H1=>D.nx σ H1):eL te D σ H:=h
def akt{c:TT}{t u:TS}(h:c σ H fun b H1=>if b=true then t D σ H1 else u D σ H1):bJ c t u D σ H:=h
def aj8{te:TE}{g:TG}(h:te σ H fun x H1=>g x σ H1 D.nx):aV te g D σ H:=h
def AU{i:Nat}{v:V}{R:9.3}(h:R (σ.set i (some v)) H):aH i v σ H R:=h
def lE{n:Nat}{t:rf}{p:Addr}{xs:List V}{R:9.3}(h:bF K H p xs)(hl:`Ã=n)(q:t xs σ H R):j2 K n t `Ü σ H R:=⟨p,xs,rfl,h,hl,q⟩
def lD{R:9.3}(h:R σ H):j1 [] σ H R:=⟨rfl,h⟩
def fA{t:TG}{u:rf}{v:V}{r:List V}{R:9.3}(h:t v σ H fun aS H'=>u r aS H' R):eV t u (v::r) σ H R:=⟨v,r,rfl,h⟩
def iN{i:Nat}{v:V}(e:σ[i]? =some (some v))(h:Q v H):aa i σ H Q:=⟨v,e,h⟩
def e_c{v:V}(h:Q v H):tC v σ H Q:=h
def Yn{r:R2}{ta tb:TE}(h:ta σ H fun x H1=>tb σ H1 fun y H2=>r x y H2 Q):aP r ta tb σ H Q:=h
def akP{r:V->Hp->VK->Prop}{ta:TE}(h:ta σ H fun x H1=>r x H1 Q):eG r ta σ H Q:=h
def apv{g:Int->Int->V}{i j:Int}(h:Q (g i j) H):cu g `_A (.int j) H Q:=⟨i,j,rfl,rfl,h⟩
def B8{C:Int->Int->Prop}{g:Int->Int->V}{i j:Int}(c:C i j)(h:Q (g i j) H):rI C g `_A (.int j) H Q:=⟨i,j,rfl,rfl,c,h⟩
def n_u{g:Int->V}{i:Int}(h:Q (g i) H):rU g `_A H Q:=⟨i,rfl,h⟩
def aps{i j:Int}(h:Q (.bl (decide (i=j))) H):i0 `_A (.int j) H Q:=⟨rfl,by
 have e:decide ((V.int i)=(V.int j))=decide (i=j):=by
  by_cases h:i=j
  .subst h;simp
  .rw[eN h,eN fun q=>h (V.int.inj q)]
 rw[e];exact h⟩
def apM{i j:Int}(h:Q (.bl (!decide (i=j))) H):CH `_A (.int j) H Q:=⟨rfl,by
 have e:decide ((V.int i)=(V.int j))=decide (i=j):=by
  by_cases h:i=j
  .subst h;simp
  .rw[eN h,eN fun q=>h (V.int.inj q)]
 rw[e];exact h⟩
def apA{x:V}(h:Q (.bl (decide (x=.aX))) H):ab2 x .aX H Q:=⟨rfl,h⟩
def apO{x:V}(h:Q (.bl (!decide (x=.aX))) H):R_ x .aX H Q:=⟨rfl,h⟩
def Qs(Q:`_w):VK:=fun x H'=>∃k,x=.bl k/\Q k H'
def akK{t:TE}{R:`_w}(h:t σ H (Qs R)):cO t σ H R:=h
def akJ{t:TE}{R:`_w}(h:t σ H (Qs R)):tB t σ H R:=h
def aao{R:`_w}{k:Bool}(h:R k H):Qs R (.bl k) H:=⟨k,rfl,h⟩
def akC{t:TT}{R:`_w}(h:t σ H fun c H1=>R (!c) H1):ji t σ H R:=h
def aj6{t u:TT}{R:`_w}(h:t σ H fun c H1=>if c=true then u σ H1 R else R false H1):xj t u σ H R:=h
def akD{t u:TT}{R:`_w}(h:t σ H fun c H1=>if c=true then R true H1 else u σ H1 R):xm t u σ H R:=h
def š(tb:TE)(σ:St)(Q:VK):VK:=fun x H1=>∃c,x=.bl c/\if c=true then tb σ H1 Q else Q (.bl false) H1
def ż(tb:TE)(σ:St)(Q:VK):VK:=fun x H1=>∃c,x=.bl c/\if c=true then Q (.bl true) H1 else tb σ H1 Q
def aj7{ta tb:TE}(h:ta σ H (š tb σ Q)):SY ta tb σ H Q:=h
def akE{ta tb:TE}(h:ta σ H (ż tb σ Q)):Td ta tb σ H Q:=h
def apg{tb:TE}{c:Bool}(h:if c=true then tb σ H Q else Q (.bl false) H):š tb σ Q (.bl c) H:=⟨c,rfl,h⟩
def apP{tb:TE}{c:Bool}(h:if c=true then Q (.bl true) H else tb σ H Q):ż tb σ Q (.bl c) H:=⟨c,rfl,h⟩
def aku{t:TT}{ta tb:TE}(h:t σ H fun c H1=>if c=true then ta σ H1 Q else tb σ H1 Q):IT t ta tb σ H Q:=h
def Ŧ(r':R2)(tc:TE)(σ:St)(y:V)(Q:VK):VK:=fun z H3=>∃k,z=.bl k/\4.50
def akb{r r':R2}{ta tb tc:TE}(h:ta σ H fun x H1=>tb σ H1 fun y H2=>r x y H2 (Ŧ r' tc σ y Q)):CZ r r' ta tb tc σ H Q:=h
def apn{r':R2}{tc:TE}{y:V}{k:Bool}(h:if k=true then tc σ H fun w' H4=>r' y w' H4 Q else Q (.bl false) H):Ŧ r' tc σ y Q (.bl k) H:=⟨k,rfl,h⟩
def Qt(K:Frag)(R:`_w):VK:=fun x H'=>∃k,E4 K x H' k/\R k H'
def akN{ta:TE}{R:`_w}(h:ta σ H (Qt K R)):IV K ta σ H R:=h
def apU{R:`_w}{p:Addr}{xs:List V}(hp:'(')(h:R (!xs.isEmpty) H):Qt K R `Ü H:=⟨_,.inl ⟨xs,hp,rfl⟩,h⟩
def aap{R:`_w}{i:Int}(h:R (i !=0) H):Qt K R `_A H:=⟨_,rfl,h⟩
def ū(K:Frag)(f:Str)(Q:VK):VK:=fun x H1=>∃a C dx fs v,x=.ref a/\H1 a=some `_k/\f8 K C/\eE K C f/\fs.lookup f=some v/\Q v H1
def Yk{ta:TE}{f:Str}(h:ta σ H (ū K f Q)):bo K ta f σ H Q:=h
def Qv{f:Str}{p C dx:Addr}{fs:List `_f}{v:V}(h1:H p=some `_k)(h2:f8 K C)(h3:eE K C f)(h4:fs.lookup f=some v)(q:Q v H):ū K f Q `Ü H:=⟨p,C,dx,fs,v,rfl,h1,h2,h3,h4,q⟩
def Hg(K:Frag)(f:Str)(y:V)(D:gB)(σ:St):VK:=fun x H2=>∃a C dx fs,x=.ref a/\H2 a=some `_k/\f8 K C/\eE K C f/\fs.length<1000/\D.nx σ (af H2 a 2.48)
def akH{ta tv:TE}{f:Str}(h:tv σ H fun y H1=>ta σ H1 (Hg K f y D σ)):gA K ta tv f D σ H:=h
def zq{f:Str}{y:V}{p C dx:Addr}{fs:List `_f}(h1:H p=some `_k)(h2:f8 K C)(h3:eE K C f)(h4:fs.length<1000)(q:D.nx σ (af H p 2.48)):Hg K f y D σ `Ü H:=⟨p,C,dx,fs,rfl,h1,h2,h3,h4,q⟩
def Ym{R:List V->Hp->Prop}(h:R [] H):ap σ H R:=h
def yw{ta:TE}{tr:TA}{R:List V->Hp->Prop}(h:ta σ H fun x H1=>tr σ H1 fun xs H2=>R (x::xs) H2):ai ta tr σ H R:=h
def ź(Q:VK):List V->Hp->Prop:=fun xs H1=>`Ã<=sizeLine/\∀p,H1 p=none->Q `Ü (af H1 p `Ē)
def aaa(Q:VK):List V->Hp->Prop:=fun xs H1=>`Ã<=sizeLine/\∀p,H1 p=none->Q `Ü (af H1 p (.bb xs))
def akz{t:TA}(h:t σ H (ź Q)):bI t σ H Q:=h
def akO{t:TA}(h:t σ H (aaa Q)):xn t σ H Q:=h
def apL{xs:List V}(hl:3.9)(q:∀p,H p=none->Q `Ü (af H p `Ē)):ź Q xs H:=⟨hl,q⟩
def apV{xs:List V}(hl:3.9)(q:∀p,H p=none->Q `Ü (af H p (.bb xs))):aaa Q xs H:=⟨hl,q⟩
def aka{r:1.41}{t:TA}(h:t σ H fun vs H1=>r vs H1 Q):dh r t σ H Q:=h
def apI{p:Addr}{xs:List V}(h:'(')(q:Q (.int `Ã) H):gW K `Ċ H Q:=⟨p,xs,rfl,.inl h,q⟩
def apH{p:Addr}{kvs:`â}(h:H p=some `Þ)(q:Q (.int `Ö) H):CG `Ċ H Q:=⟨p,kvs,rfl,h,q⟩
def aak{p:Addr}{xs:List V}{i:Int}{v:V}(h:'(')(e:qc xs i=some v)(q:Q v H):n4 K `Ü `_A H Q:=⟨p,xs,i,v,rfl,rfl,h,e,q⟩
def apB{p:Addr}{xs:List V}{i:Int}{v:V}(h:bF K H p xs)(e:qc xs i=some v)(q:Q v H):zH K `Ü `_A H Q:=⟨p,xs,i,v,rfl,rfl,h,e,q⟩
def akI{r:1.85}{te:TE}{tl th:TO}(h:4.49):uv r te tl th σ H Q:=h
def akB{R:0.71}(h:R none H):C6 σ H R:=h
def Ž(R:0.71):VK:=fun x H1=>∃i,x=.int i/\R (some i) H1
def akF{t:TE}{R:0.71}(h:t σ H (Ž R)):pK t σ H R:=h
def apQ{R:0.71}{i:Int}(h:R (some i) H):Ž R `_A H:=⟨i,rfl,h⟩
def aam{p:Addr}{xs:List V}{lo hi:Option Int}(h:'(')(q:∀p',H p'=none->Q (.ref p') (af H p' (.ah (nv xs lo hi)))):t6 K `Ü lo hi H Q:=⟨p,xs,rfl,h,q⟩
def kT{p q:Addr}{xs zs:List V}(h1:H p=some `Ē)(h2:H q=some (.ah zs))(hl:`Ã+zs.length<=sizeLine)(c:∀l,H l=none->Q (.ref l) (af H l (.ah (xs++zs)))):jf `Ü `ğ H Q:=⟨p,q,xs,zs,rfl,rfl,h1,h2,hl,c⟩
def apJ{p:Addr}{kvs:`â}(h:Rd H p `Þ)(q:∀l,H l=none->Q (.ref l) (af H l (.ah 1.18))):wg `Ċ H Q:=⟨p,kvs,rfl,h,q⟩
def Ź(Q:VK):VK:=fun x H1=>∃a kvs,x=.ref a/\Rd H1 a `Þ/\∀l,H1 l=none->Q (.ref l) (af H1 l (.ah (kvs.map (·.2))))
def aky{td:TE}(h:td σ H (Ź Q)):xk td σ H Q:=h
def apK{p:Addr}{kvs:`â}(h:Rd H p `Þ)(q:∀l,H l=none->Q (.ref l) (af H l (.ah (kvs.map (·.2))))):Ź Q `Ü H:=⟨p,kvs,rfl,h,q⟩
def akd(q:∀p,H p=none->Q `Ü (af H p `ü)):qJ σ H Q:=q
def ŧ(Q:VK)(x y:V)(H2:Hp):Prop:=∃a v,x=.ref a/\pU H2 a y (some v)/\Q v H2
def M4{td ty:TE}(h:td σ H fun x H1=>ty σ H1 fun y H2=>ŧ Q x y H2):dI td ty σ H Q:=h
def eJ{p:Addr}{kvs:`â}{k:Int}{v:V}(h:Rd H p `Þ)(e:f6 kvs (.inl k)=some v)(q:Q v H):ŧ Q `Ü (.int k) H:=⟨p,v,rfl,.inl ⟨kvs,.inl k,h,rfl,e.symm⟩,q⟩
def Ũ(Q:VK)(y x:V)(H2:Hp):Prop:=∃a o,x=.ref a/\pU H2 a y o/\Q (.bl o.isSome) H2
def ũ(Q:VK)(y x:V)(H2:Hp):Prop:=∃a o,x=.ref a/\pU H2 a y o/\Q (.bl (!o.isSome)) H2
def akc{ty td:TE}(h:ty σ H fun y H1=>td σ H1 fun x H2=>Ũ Q y x H2):uu ty td σ H Q:=h
def ake{ty td:TE}(h:ty σ H fun y H1=>td σ H1 fun x H2=>ũ Q y x H2):C0 ty td σ H Q:=h
def Hi{p:Addr}{kvs:`â}{k:Int}(h:Rd H p `Þ)(q:Q (.bl (f6 kvs (.inl k)).isSome) H):Ũ Q (.int k) `Ü H:=⟨p,_,rfl,.inl ⟨kvs,.inl k,h,rfl,rfl⟩,q⟩
def apq{p:Addr}{kvs:`â}{k:Int}(h:Rd H p `Þ)(q:Q (.bl (!(f6 kvs (.inl k)).isSome)) H):ũ Q (.int k) `Ü H:=⟨p,_,rfl,.inl ⟨kvs,.inl k,h,rfl,rfl⟩,q⟩
def Qp(D:gB)(σ:St)(v x y:V)(H3:Hp):Prop:=∃a H4,x=.ref a/\Js H3 a y v H4/\D.nx σ H4
def akf{td ty tv:TE}(h:tv σ H fun v H1=>td σ H1 fun x H2=>ty σ H2 fun y H3=>Qp D σ v x y H3):lV td ty tv D σ H:=h
def nR{p:Addr}{kvs:`â}{k:Int}{v:V}(h:H p=some `Þ)(hl:`Ö<sizeLine)(q:D.nx σ (af H p (.dK (gV kvs (.inl k) v)))):Qp D σ v `Ü (.int k) H:=⟨p,_,rfl,.inl ⟨kvs,.inl k,h,rfl,hl,rfl⟩,q⟩
def Yj{sp:Sp}{dvs:List V}{E:XK}{t:TA}(h:t σ H fun vs H1=>sp '7' H1 Q E):bH sp dvs E t σ H Q:=h
def Ż(C:Addr)(m:Str)(sp:Sp)(dvs:List V)(E:XK)(t:TA)(σ:St)(Q:VK):VK:=fun x H1=>∃a dx fs,x=.ref a/\H1 a=some `_k/\fs.lookup m=none/\t σ H1 fun vs H2=>sp (x::'7') H2 Q E
def akA{C:Addr}{m:Str}{sp:Sp}{dvs:List V}{E:XK}{ta:TE}{t:TA}(h:ta σ H (Ż C m sp dvs E t σ Q)):bj C m sp dvs E ta t σ H Q:=h
def Hm{C:Addr}{m:Str}{sp:Sp}{dvs:List V}{E:XK}{t:TA}{p dx:Addr}{fs:List `_f}(h:H p=some `_k)(hm:fs.lookup m=none)(q:t σ H fun vs H2=>sp (.ref p::'7') H2 Q E):Ż C m sp dvs E t σ Q `Ü H:=⟨p,dx,fs,rfl,h,hm,q⟩
def G'(C:Addr)(sp:Sp)(dvs:List V)(E:XK)(Q:VK):List V->Hp->Prop:=fun vs H1=>∀x dx,H1 x=none->H1 dx=none->dx≠x->
 sp (.ref x::'7') (af (af H1 dx (.own x)) x (.ins C dx [])) 3.57 E
def Yl{C:Addr}{sp:Sp}{dvs:List V}{E:XK}{t:TA}(h:t σ H (G' C sp dvs E Q)):jh C sp dvs E t σ H Q:=h
def ť(K:Frag)(T:String)(r:0.65)(t:TA)(σ:St)(Q:VK):VK:=fun x H1=>Tp K T x H1/\t σ H1 fun xs H2=>r x xs H2 Q
def aj'{T:String}{r:0.65}{to:TE}{t:TA}(h:to σ H (ť K T r t σ Q)):i3 K T r to t σ H Q:=h
def apm{r:0.65}{t:TA}{p:Addr}{xs:List V}(h:'(')(q:t σ H fun vs H2=>r `Ü vs H2 Q):ť K "list" r t σ Q `Ü H:=⟨.inl ⟨rfl,_,h⟩,q⟩
def qC{p:Addr}{xs:List V}{y:V}(h:H p=some `Ē)(hl:`Ã<sizeLine)(q:Q .aX (af H p (.ah (xs++[y])))):mK `Ü [y] H Q:=⟨p,xs,y,rfl,rfl,h,hl,q⟩
def B0{p b:Addr}{xs zs:List V}(h:H p=some `Ē)(h2:H b=some (.ah zs))(hl:`Ã+zs.length<=sizeLine)(q:Q .aX (af H p (.ah (xs++zs)))):tZ `Ü [.ref b] H Q:=⟨p,b,xs,zs,rfl,rfl,h,h2,hl,q⟩
def Ţ(i:Nat)(x:V)(ti:yj)(D:gB)(σ:St):VK:=fun y H1=>ti x y H1 fun z H2=>D.nx (σ.set i (some z)) H2
def aj9{i:Nat}{x:V}{te:TE}{ti:yj}(e:σ[i]? =some (some x))(h:te σ H (Ţ i x ti D σ)):IQ i te ti D σ H:=⟨x,e,h⟩
def apj{i:Nat}{f:Int->Int->Int}{a b:Int}(h:D.nx (σ.set i (some (.int (f a b)))) H):Ţ i (.int a) (GG f) D σ (.int b) H:=⟨a,b,rfl,rfl,h⟩
def cV{c:Prop}[Decidable c]{A B:Prop}(h1:c->A)(h2:¬c->B):if decide c=true then A else B:=by
 by_cases h:c
 .rw[ay (g_ h)];exact h1 h
 .rw[aq (by rw[eN h];exact eM)];exact h2 h
def FA{c:Prop}[Decidable c]{A B:Prop}(h1:¬c->A)(h2:c->B):if(!decide c)=true then A else B:=by
 by_cases h:c
 .rw[aq (by rw[g_ h];decide)];exact h2 h
 .rw[ay (by rw[eN h];decide)];exact h1 h
def eF{b:Bool}{A B:Prop}(h1:b=true->A)(h2:b=false->B):if b=true then A else B:=by
 cases b with
 |true=>rw[ay rfl];exact h1 rfl
 |false=>rw[aq eM];exact h2 rfl
def bB{p x:Addr}{o y:HO}(hp:H p=none)(hx:H x=some y):af H p o x=some y:=by rw[au (aR hx hp)];exact hx
end
section
variable{K:Frag}{D:gB}{σ:St}{H:Hp}{Q:VK}
def ů(K:Frag)(R:`å):VK:=fun x H1=>∃a,x=.ref a/\(∃xs,aG K H1 a xs)/\R (pX K a) H1
def ű(K:Frag)(R:`å):VK:=fun x H1=>∃a,x=.ref a/\(∃xs,bF K H1 a xs)/\R (qU K a) H1
def Ű(R:`å):List V->Hp->Prop:=fun vs H1=>∃j:Int,vs=[.int j]/\-(2^62)<=j/\j<2^62/\R (uK 0 j.toNat) H1
def Ŭ(K:Frag)(R:`å):List V->Hp->Prop:=fun vs H1=>∃a xs,vs=[.ref a]/\aG K H1 a xs/\R (Al K a) H1
def ų(K:Frag)(R:`å):List V->Hp->Prop:=fun vs H1=>∃a b xs ys,vs=4.3/\aG K H1 a xs/\aG K H1 b ys/\R (Am K a b) H1
def akm{tl:TE}{R:`å}(h:tl σ H (ů K R)):dF K tl σ H R:=h
def ako{tl:TE}{R:`å}(h:tl σ H (ű K R)):vQ K tl σ H R:=h
def akn{ta:TA}{R:`å}(h:ta σ H (Ű R)):GA ta σ H R:=h
def akj{ta:TA}{R:`å}(h:ta σ H (Ŭ K R)):vO K ta σ H R:=h
def akq{ta:TA}{R:`å}(h:ta σ H (ų K R)):Px K ta σ H R:=h
def sj{R:`å}{p:Addr}{xs:List V}(h:'(')(q:R (pX K p) H):ů K R `Ü H:=⟨p,rfl,⟨xs,h⟩,q⟩
def B_{R:`å}{p:Addr}{xs:List V}(h:bF K H p xs)(q:R (qU K p) H):ű K R `Ü H:=⟨p,rfl,⟨xs,h⟩,q⟩
def aah{R:`å}{j:Int}(h1:-(2^62)<=j)(h2:j<2^62)(q:R (uK 0 j.toNat) H):Ű R [.int j] H:=⟨j,rfl,h1,h2,q⟩
def apw{R:`å}{p:Addr}{xs:List V}(h:'(')(q:R (Al K p) H):Ŭ K R `Ċ H:=⟨p,xs,rfl,h,q⟩
def apx{R:`å}{p q:Addr}{xs ys:List V}(h1:'(')(h2:aG K H q ys)(c:R (Am K p q) H):ų K R 4.4 H:=⟨p,q,xs,ys,rfl,h1,h2,c⟩
def ŭ(R:`å):VK:=fun x H1=>∃d o,x=.ref d/\3.89
def akk{td:TE}{R:`å}(h:td σ H (ŭ R)):vP td σ H R:=h
def B9{R:`å}{d:Addr}{o:Obj}{kvs:`â}(h:H d=some `ė)(q:R (qT d o kvs) H):ŭ R (.ref d) H:=⟨d,o,rfl,.inl ⟨kvs,h,q⟩⟩
def vT(g:TG)(tb:TS)(D:gB)(σ:St):It->Hp->Prop:=fun J H1=>∃W:Nat->Nat->St->Hp->Prop,(∃m,W 0 m σ H1)/\∀i m σ H,W i m σ H->
 (J.stop i H/\D.nx σ H)\/2.54
def aki{wi:TI}{g:TG}{tb:TS}(h:wi σ H (vT g tb D σ)):dj wi g tb D σ H:=h
def fV{g:TG}{tb:TS}{p:Addr}{xs:List V}(Pv:3.5)(h0:Pv 0 σ H)(hl:∀i σ H,i<=`Ã->Pv i σ H->aG K H p xs)
 (hs:1.52) (hd:0.53):vT g tb D σ (pX K p) H:=ale Pv h0 hl hs hd
def aaf{g:TG}{tb:TS}{p:Addr}{xs:List V}(Pv:3.5)(h0:Pv 0 σ H)(hl:∀i σ H,i<=`Ã->Pv i σ H->bF K H p xs)
 (hs:1.52) (hd:0.53):vT g tb D σ (qU K p) H:=alf Pv h0 hl hs hd
def Hj{g:TG}{tb:TS}{p:Addr}{xs:List V}(Pv:3.5)(h0:Pv 0 σ H)(hl:∀i σ H,i<=`Ã->Pv i σ H->aG K H p xs)
 (hs:∀i x σ H T,xs[i]? =some x->Pv i σ H->H T=none->g (.ref T) σ (af H T 1.35) fun bC H2=>tb {D with nx:=Pv (i+1),ct:=Pv (i+1),bk:=D.nx} bC H2) (hd:0.53):vT g tb D σ (Al K p) H:=by
 refine FW (n:=`Ã) Pv h0 (fun i σ H hi q=>⟨xs,xs[i],hl i σ H (jV hi) q,by simp[hi]⟩) (fun σ H q=>⟨xs,hl _ σ H (bp _) q,bp _⟩) (fun i x σ H H' hi q y=>?_) hd;obtain⟨T,v,rfl,hT,rfl,hx⟩:=y;exact hs i v σ H T (hx xs (hl i σ H (jV hi) q)) q hT
def B6{g:TG}{tb:TS}{d:Addr}{o:Obj}{kvs:`â}(Pv:3.5)(h0:Pv 0 σ H)(hl:∀i σ H,i<=`Ö->Pv i σ H->H d=some `ė)
 (hs:∀i k v σ H,kvs[i]? =some (k,v)->Pv i σ H->g (kV k) σ H fun bC H2=>tb {D with nx:=Pv (i+1),ct:=Pv (i+1),bk:=D.nx} bC H2) (hd:∀σ H,Pv kvs.length σ H->D.nx σ H):vT g tb D σ (qT d o kvs) H:=by
 refine 3.68;obtain⟨rfl,k,v,e,rfl⟩:=y;exact hs i k v σ _ e q
def vU{t:TS}{d:Addr}{u:HO}(h:H d=some u)(m:oC (some u))(q:∀od,t 3.66 σ 0.18):sI t D σ H:=⟨d,u,h,m,q⟩
def QA{t:TE}{d:Addr}{u:HO}(h:H d=some u)(m:oC (some u))(q:∀od,t σ 0.18 fun v H'=>H' d=some (.aN od u)/\Q v (af H' d u)):C4 t σ H Q:=⟨d,u,h,m,q⟩
def nQ(g:TG)(tt:TT)(te:TE)(vs:`À)(σ:St)(Q:VK):It->Hp->Prop:=fun J H1=>∀D,H1 D=none->∃W:Nat->Nat->Hp->Prop,(∃m,W 0 m (af H1 D `Ù))/\∀i m H,W i m H->
 (J.stop i H/\Q `_5 H)\/(J.go i H/\∃Nx:Hp->Prop,3.25/\∀x H',J.l6 i H x H'->g x `_4 H' fun bC H2=>cA bC vs=cA σ vs/\tt bC H2 fun b H3=>
  if b=true then te bC H3 fun y H4=>∃acc,H4 D=some (.ah acc)/\`_q<sizeLine/\Nx 1.27 else Nx H3)
def akx{wi:TI}{g:TG}{tt:TT}{te:TE}{vs:`À}(h:wi σ H (nQ g tt te vs σ Q)):fY wi g tt te vs σ H Q:=h
def kb{H H':Hp}{D:Addr}{o:HO}(h:H D=none)(s:`Ć):ag H (af H' D o):=fun b ob e=>by
 rw[au (aR e h)];exact s b ob e
def PZ{g:TG}{tt:TT}{te:TE}{vs:`À}{J:It}{xs:List V}(f:V->Option V)(hn:3.9)(rP:∀i H',i<`Ã->ag H H'->J.go i H')(iC:∀H',ag H H'->J.stop xs.length H')
 (hy:4.17)
 (hs:∀(i:Nat)(x:V)(H':Hp),xs[i]? =some x->ag H H'->∀(R1:'&')(R0:`_i),3.30->3.52->
  g x `_4 H' fun bC H2=>cA bC vs=cA σ vs/\tt bC H2 fun b H3=>if b=true then te bC H3 R1 else R0 H3)
 (hd:2.70):nQ g tt te vs σ Q J H:=by
 intro D hD;refine GS (n:=`Ã) (fun i H'=>ag H H'/\H' D=some (.ah ((xs.take i).filterMap f))) ⟨kb hD 1.5,ax⟩ (fun i H' hi q=>rP i H' hi q.1) (fun H' q=>iC H' q.1) (fun i x H' bM hi q y=>?_) (fun H' q=>?_)
 .obtain⟨hx,rfl⟩:=hy i x H' bM hi q.1 y;have et:xs.take (i+1)=xs.take i++[x]:=by
   rw[K_,hx];rfl
  refine hs i x _ hx q.1 _ _ 4.74 (fun H3 e s=>⟨q.1.trans s,?_⟩)
  .refine oF (DA _ _) ?_;rw[gl];omega
  .rw[ax,et,Du,gD,e];rfl
  .rw[s _ _ q.2,et,Du,gD,e];simp
 .refine hd D H' hD q.1 ?_;rw[q.2,eT]
def B'{g:TG}{tt:TT}{te:TE}{vs:`À}{p:Addr}{xs:List V}(hp:'(')(hn:3.9)(f:V->Option V)
 (hs:∀(i:Nat)(x:V)(H':Hp),xs[i]? =some x->ag H H'->∀(R1:'&')(R0:`_i),3.30->3.52->
  g x `_4 H' fun bC H2=>cA bC vs=cA σ vs/\tt bC H2 fun b H3=>if b=true then te bC H3 R1 else R0 H3)
 (hd:2.70):nQ g tt te vs σ Q (pX K p) H:=
 PZ f hn (fun i H' hi s=>⟨xs,xs[i],s.seq hp,by simp[hi]⟩) (fun H' s=>⟨xs,s.seq hp,bp _⟩) (fun i x H' bM hi s y=>⟨y.2 xs (s.seq hp),y.1⟩) hs hd
def ag.iE{H H':Hp}{a:Addr}{xs:List V}(e:`Ć)(h:bF K H a xs):bF K H' a xs:=by
 rcases h with(h|⟨o,h⟩)|h
 .exact .inl (.inl (e _ _ h))
 .exact .inl (.inr ⟨o,e _ _ h⟩)
 .exact .inr h
def Qz{g:TG}{tt:TT}{te:TE}{vs:`À}{p:Addr}{xs:List V}(hp:bF K H p xs)(hn:3.9)(f:V->Option V)
 (hs:∀(i:Nat)(x:V)(H':Hp),xs[i]? =some x->ag H H'->∀(R1:'&')(R0:`_i),3.30->3.52->
  g x `_4 H' fun bC H2=>cA bC vs=cA σ vs/\tt bC H2 fun b H3=>if b=true then te bC H3 R1 else R0 H3)
 (hd:2.70):nQ g tt te vs σ Q (qU K p) H:=
 PZ f hn (fun i H' hi s=>⟨xs,xs[i],s.iE hp,by simp[hi]⟩) (fun H' s=>⟨xs,s.iE hp,bp _⟩) (fun i x H' bM hi s y=>⟨y.2 xs (s.iE hp),y.1⟩) hs hd
def aal{g:TG}{tt:TT}{te:TE}{vs:`À}{lo:Int}{n:Nat}(hn:n<=sizeLine)(f:V->Option V)
 (hs:∀i H',i<n->ag H H'->∀(R1:'&')(R0:`_i),(∀y bM,f (.int (lo+i))=some y->ag H' bM->R1 y bM)->(∀bM,f (.int (lo+i))=none->ag H' bM->R0 bM)->
  g (.int (lo+i)) `_4 H' fun bC H2=>cA bC vs=cA σ vs/\tt bC H2 fun b H3=>if b=true then te bC H3 R1 else R0 H3)
 (hd:∀D H',H D=none->ag H H'->H' D=some (.ah (((`ó n).map fun i:Nat=>V.int (lo+i)).filterMap f))->Q `_5 H'):nQ g tt te vs σ Q (uK lo n) H:=by
 refine PZ (xs:=(`ó n).map fun i:Nat=>V.int (lo+i)) f (by simpa using hn) (fun i H' hi s=>(show i<n by simpa using hi)) (fun H' s=>by simp[uK]) (fun i x H' bM hi s y=>?_) (fun i x H' hx s=>?_) hd
 .obtain⟨e,rfl⟩:=y;have vD:i<n:=by simpa using hi
  exact⟨by simp[vD],e⟩
 .have hi:i<n:=by
   have:=(dM.mp hx).1;simpa using this
  have ex:x=.int (lo+i):=by
   rw[cG,U6 hi]at hx;exact '$'
  subst ex;exact hs i H' hi s
def ţ(K:Frag)(f:Str)(tv:TE)(rd:7.6)(D:gB)(σ:St):VK:=fun x H1=>∃a C dx fs v,x=.ref a/\H1 a=some `_k/\f8 K C/\eE K C f/\fs.lookup f=some v/\
 tv σ H1 fun y H2=>rd v y H2 fun z H3=>∃eO lF,H3 a=some (.ins C eO lF)/\lF.length<1000/\D.nx σ (af H3 a (.ins C eO (bi f z lF)))
def aj_{f:Str}{ta tv:TE}{rd:7.6}(h:ta σ H (ţ K f tv rd D σ)):Ih K ta tv rd f D σ H:=h
def Ť(f:Str)(C p:Addr)(D:gB)(σ:St):VK:=fun z H3=>∃eO lF,H3 p=some (.ins C eO lF)/\lF.length<1000/\D.nx σ (af H3 p (.ins C eO (bi f z lF)))
def apk{f:Str}{tv:TE}{rd:7.6}{p C dx:Addr}{fs:List `_f}{v:V}(h1:H p=some `_k)(h2:f8 K C)(h3:eE K C f)(h4:fs.lookup f=some v)(q:tv σ H fun y H2=>rd v y H2 (Ť f C p D σ)):ţ K f tv rd D σ `Ü H:=⟨p,C,dx,fs,v,rfl,h1,h2,h3,h4,q⟩
def apl{f:Str}{C p dx:Addr}{fs:List `_f}{z:V}(h:H p=some `_k)(hl:fs.length<1000)(q:D.nx σ (af H p (.ins C dx (bi f z fs)))):Ť f C p D σ z H:=⟨dx,fs,h,hl,q⟩
def apS{i j:Int}(h:Q (.int (i+j)) H):HZ `_A (.int j) H Q:=⟨i,j,rfl,rfl,h⟩
def aan{p:Addr}{ns:`Ê}(h:aG K H p `ι)(q:Q (.int ns.sum) H):H_ K `Ċ H Q:=⟨p,ns,rfl,h,q⟩
def aph{p:Addr}{bs:List Bool}(h:aG K H p (bs.map V.bl))(q:Q (.bl (bs.any id)) H):R5 K `Ċ H Q:=⟨p,bs,rfl,h,q⟩
def apf{p:Addr}{bs:List Bool}(h:aG K H p (bs.map V.bl))(q:Q (.bl (bs.all id)) H):RZ K `Ċ H Q:=⟨p,bs,rfl,h,q⟩
def tM{p:Addr}{xs:List V}{j:Nat}{i:Int}{v:V}(h:'(')(ei:i=(j:Int))(e:xs[j]? =some v)(q:Q v H):n4 K `Ü `_A H Q:=aak h (by rw[ei];exact VS e) q
def j8{p:Addr}{xs:List V}{j:Nat}{i:Int}{v:V}(h:bF K H p xs)(ei:i=(j:Int))(e:xs[j]? =some v)(q:Q v H):zH K `Ü `_A H Q:=apB h (by rw[ei];exact VS e) q
def Pz{x:Int}:∀{ns:`Ê},GD (.int x) `ι=ns.contains x
 |[]=>rfl
 |n::ns=>by
  show(rC (.int n) (.int x)||GD (.int x) `ι)=_;rw[Pz (ns:=ns),xI];show((n==x)||_)=_;rw[Bool.beq_comm]
def OD:∀(ns:`Ê),(ns.map V.int).all rF=true
 |[]=>rfl
 |n::ns=>by rw[cY,m9,OD ns];rfl
def apz{p:Addr}{x:Int}{ns:`Ê}(h:aG K H p `ι)(q:Q (.bl (ns.contains x)) H):qE K false (.int x) `Ü H Q:=⟨p,_,rfl,.inl h,rfl,OD ns,by rw[Pz];exact q⟩
def QC{p:Addr}{x:Int}{ns:`Ê}(h:bF K H p `ι)(q:Q (.bl (!ns.contains x)) H):qE K true (.int x) `Ü H Q:=⟨p,_,rfl,.inr h,rfl,OD ns,by rw[Pz];exact q⟩
end
section
variable{K:Frag}{D:gB}{σ:St}{H:Hp}{Q:VK}
def bh(H:Hp)(D:Addr):Hp:=fun b=>if b=D then none else H b
def lB{D b:Addr}(h:b≠D):bh H D b=H b:=by unfold bh;rw[aq h]
def Fo{D:Addr}:bh H D D=none:=by unfold bh;rw[ay rfl]
def eS{D b:Addr}{o:HO}(h:bh H D b=some o):H b=some o/\b≠D:=by
 by_cases e:b=D
 .subst e;rw[Fo]at h;cases h
 .rw[lB e]at h;exact⟨h,e⟩
def cJ{D b:Addr}{o:HO}(h:H b=some o)(ne:b≠D):bh H D b=some o:=by rw[lB ne];exact h
def ve{D:Addr}:ag (bh H D) H:=fun b o h=>(eS h).1
def Fp{D:Addr}{o:HO}:ag (bh H D) (bh (af H D o) D):=fun b u h=>by
 obtain⟨h1,h2⟩:=eS h;rw[lB h2,au h2];exact h1
def Fn{H':Hp}{D:Addr}(s:`Ć):ag (bh H D) (bh H' D):=fun b u h=>by
 obtain⟨h1,h2⟩:=eS h;rw[lB h2];exact s _ _ h1
def aoo{g:TG}{te:TE}{vs:`À}{J:It}{xs:List V}(R:Nat->V->Hp->Prop)(aD:∀i y H1 H2,R i y H1->ag H1 H2->R i y H2)(hn:3.9)(rP:∀i H',i<`Ã->ag H H'->J.go i H')(iC:∀H',ag H H'->J.stop xs.length H')
 (hy:4.17)
 (hs:∀(i:Nat)(x:V)(H':Hp)(D:Addr),xs[i]? =some x->ag H H'->H D=none->H' D≠none->∀(R1:'&'),(∀y bM,ag H' bM->R i y (bh bM D)->R1 y bM)->
  g x `_4 H' fun bC H2=>cA bC vs=cA σ vs/\te bC H2 R1)
 (hd:3.72):nQ g ig te vs σ Q J H:=by
 intro D hD;refine GS (n:=`Ã) 3.79 ⟨mn _,kb hD 1.5,[],ax,rfl,fun j y e=>by simp at e⟩ (fun i H' hi q=>rP i H' hi q.2.1) (fun H' q=>iC H' q.2.1) (fun i x H' bM hi q y=>?_) (fun H' q=>?_)
 .obtain⟨_,s,ys,e1,e2,e3⟩:=q;obtain⟨hx,rfl⟩:=hy i x H' bM hi s y;have fin:=hs i x _ D hx s hD (by rw[e1];exact fun z=>nomatch z) (fun y H4=>∃acc,H4 D=some (.ah acc)/\`_q<sizeLine/\3.79 (i+1) 1.27) (fun y H4 s4 r=>⟨ys,s4 _ _ e1,`Å,`Å,kb hD (s.trans s4),ys++[y],ax,by simp[e2],fun j z ez=>?_⟩)
  .exact fin
  .by_cases hj:j<`ø
   .rw[mh hj]at ez;exact aD j z _ _ (aD j z _ _ (e3 j z ez) (Fn s4)) Fp
   .have o9:j=`ø:=by
     have:=(dM.mp ez).1;simp at this;omega
    subst o9;rw[oz (bp _),uZ]at ez;have:y=z:=bZ ez;subst this;rw[e2];exact aD i y _ _ r Fp
 .obtain⟨_,s,ys,e1,e2,e3⟩:=q;exact hd D H' ys hD s e1 e2 e3
def Hk{g:TG}{te:TE}{vs:`À}{p:Addr}{xs:List V}(hp:'(')(hn:3.9)(R:Nat->V->Hp->Prop)(aD:∀i y H1 H2,R i y H1->ag H1 H2->R i y H2)
 (hs:∀(i:Nat)(x:V)(H':Hp)(D:Addr),xs[i]? =some x->ag H H'->H D=none->H' D≠none->∀(R1:'&'),(∀y bM,ag H' bM->R i y (bh bM D)->R1 y bM)->
  g x `_4 H' fun bC H2=>cA bC vs=cA σ vs/\te bC H2 R1)
 (hd:3.72):nQ g ig te vs σ Q (pX K p) H:=
 aoo R aD hn (fun i H' hi s=>⟨xs,xs[i],s.seq hp,by simp[hi]⟩) (fun H' s=>⟨xs,s.seq hp,bp _⟩) (fun i x H' bM hi s y=>⟨y.2 xs (s.seq hp),y.1⟩) hs hd
def apG{g:TG}{te:TE}{vs:`À}{p q:Addr}{xs ys:List V}(hp:'(')(hq:aG K H q ys)(hn:3.9)(f:V->V->V)
 (hs:∀(i:Nat)(x y:V)(H':Hp)(T:Addr),xs[i]? =some x->ys[i]? =some y->ag H H'->H' T=none->∀(R1:'&'),(∀bM,ag (af H' T 1.7) bM->R1 (f x y) bM)->
  g (.ref T) `_4 (af H' T 1.7) fun bC H2=>cA bC vs=cA σ vs/\te bC H2 R1)
 (hd:∀D H',H D=none->ag H H'->H' D=some (.ah (zipWith f xs ys))->Q `_5 H'):nQ g ig te vs σ Q (Am K p q) H:=by
 intro D hD;refine GS (n:=min xs.length `ø) (fun i H'=>i<=min xs.length `ø/\ag H H'/\H' D=some (.ah (zipWith f (xs.take i) (ys.take i)))) ⟨mn _,kb hD 1.5,ax⟩ (fun i H' hi z=>?_) (fun H' z=>?_) (fun i x H' bM hi z y=>?_) (fun H' z=>?_)
 .have h1:i<`Ã:=`Å;have h2:i<`ø:=`Å;exact⟨xs,ys,xs[i],ys[i],z.2.1.seq hp,z.2.1.seq hq,by simp[h1],by simp[h2]⟩
 .exact⟨xs,ys,z.2.1.seq hp,z.2.1.seq hq,`Å⟩
 .obtain⟨_,s,e⟩:=z;obtain⟨T,u,v,rfl,hT,rfl,hx,hy⟩:=y;have hx:=hx xs (s.seq hp);have hy:=hy ys (s.seq hq);refine hs i u v H' T hx hy s hT _ (fun H4 s4=>⟨_,s4 _ _ (bB hT e),?_,`Å,kb hD ((s.trans (ag.new hT)).trans s4),?_⟩)
  .rw[List.length_zipWith,gl,gl];omega
  .rw[ax,K_,K_,hx,hy];have hl:(xs.take i).length=(ys.take i).length:=by rw[gl,gl];omega
   rw[List.zipWith_append hl];rfl
 .obtain⟨_,s,e⟩:=z;refine hd D H' hD s ?_;rw[e];congr 2;have e1:∀(xs ys:List V),zipWith f (xs.take (min xs.length `ø)) (ys.take (min xs.length `ø))=zipWith f xs ys:=by
   intro xs
   induction xs with
   |nil=>intro ys;simp
   |cons x xs ih=>
    intro ys;cases ys with
    |nil=>simp
    |cons y ys=>
     rw[cB,cB,Nat.succ_min_succ,Vc,Vc,K',K',ih]
  exact e1 xs ys
end
section
variable{K:Frag}{D:gB}{σ:St}{H:Hp}{Q:VK}{w:World}{P:Program}
def Dq(w:World)(P:`Ô)(K:Frag)(g:Addr)(k:List aW)(v:V):Prop:=
 ∃(o:Obj)(es:`Ξ)(ep:Nat)(xs:2.8)(p:Addr×Value),K.lookup g=some o/\5.8/\o.data=.dict es ep/\es.toList=xs.map (entryOfKey (1.2))/\
  3.70/\(xs.map (·.1)).Nodup/\atKey xs k=some p/\bA v p.2
def ŷ(w:World)(P:`Ô)(K:Frag)(Q:VK)(x y:V)(H2:Hp):Prop:=∃(a b:Addr)(k:List aW)(v:V),x=.ref a/\y=.ref b/\H2 b=some 8.1/\Dq w P K a k v/\Q v H2
def akv{td ty:TE}(h:td σ H fun x H1=>ty σ H1 fun y H2=>ŷ w P K Q x y H2):S0 w P K td ty σ H Q:=h
def apC{g p:Addr}{k:List aW}{v:V}(h1:H p=some 8.1)(h2:Dq w P K g k v)(q:Q v H):ŷ w P K Q (.ref g) `Ü H:=⟨g,p,k,v,rfl,rfl,h1,h2,q⟩
end
def oT{σ:St}{H:Hp}{te:TE}{R1:VK}{R0:`_i}(h:te σ H R1):ig σ H fun b H3=>if b=true then te σ H3 R1 else R0 H3:=by
 show if true=true then te σ H R1 else R0 H;rw[ay rfl];exact h
section
variable{K:Frag}{D:gB}{σ:St}{H:Hp}{Q:VK}{w:World}{P:Program}
def apo{p:Addr}{kvs:`â}(h:Rd H p `Þ)(q:∀l,H l=none->Q (.ref l) (af H l `Þ)):CF `Ċ H Q:=⟨p,kvs,rfl,h,q⟩
def apT{p:Addr}{kvs:`â}{ns:`Ê}(h:Rd H p `Þ)(e:kvs.map (fun p=>kV p.1)=ns.map V.int)(hl:':'<64)
 (q:∀(mF:`Ê)(p:Addr),mF.Perm ns->mF.Pairwise (·<=·)->H p=none->Q `Ü (af H p (.ah (mF.map V.int)))):R' `Ċ H Q:=⟨p,kvs,ns,rfl,h,e,hl,q⟩
def api{p:Addr}{ns:`Ê}(h:aG K H p `ι)(q:Q (.bl (ns.any fun n=>n !=0)) H):R6 K `Ċ H Q:=⟨p,ns,rfl,h,q⟩
def BZ{a b:Addr}{xs:List V}(h:aG K H a xs)(h2:aG K H b [])(q:Q (.bl xs.isEmpty) H):qD K false `_L (.ref b) H Q:=⟨a,b,xs,rfl,rfl,h,h2,q⟩
def apN{a b:Addr}{xs:List V}(h:aG K H a xs)(h2:aG K H b [])(q:Q (.bl (!xs.isEmpty)) H):qD K true `_L (.ref b) H Q:=⟨a,b,xs,rfl,rfl,h,h2,q⟩
def apt{p b:Addr}{xs zs:List V}(h:H p=some `Ē)(h2:H b=some (.bb zs))(hl:`Ã+zs.length<=sizeLine)(q:Q .aX (af H p (.ah (xs++zs)))):R7 K `Ü [.ref b] H Q:=⟨p,b,xs,zs,rfl,rfl,h,h2,hl,q⟩
def Dr(w:World)(P:`Ô)(K:Frag)(a:Addr)(i:Int)(v:V):Prop:=
 ∃(o:Obj)(vs:`Θ)(u:Value),K.lookup a=some o/\(∀h:Heap,h.get? a=some o->h.DictOf (d7 P w) a vs)/\valueAt vs (.inl i)=some u/\bA v u
def Ÿ(w:World)(P:`Ô)(K:Frag)(Q:VK)(x y:V)(H2:Hp):Prop:=∃(a:Addr)(i:Int)(v:V),x=.ref a/\y=.int i/\Dr w P K a i v/\Q v H2
def akw{td ty:TE}(h:td σ H fun x H1=>ty σ H1 fun y H2=>Ÿ w P K Q x y H2):S_ w P K td ty σ H Q:=h
def apD{g:Addr}{i:Int}{v:V}(h:Dr w P K g i v)(q:Q v H):Ÿ w P K Q (.ref g) `_A H:=⟨g,i,v,rfl,rfl,h,q⟩
def Ū(te:TE)(σ:St)(Q:VK):VK:=fun x H1=>∃a,x=.ref a/\xE H1 a/\te σ H1 fun y H2=>∃b kvs mo,y=.ref b/\a≠b/\H2 a=some `Þ/\Rd H2 b (.dK mo)/\`Ö+mo.length<=sizeLine/\((kvs++mo).map (·.1)).Nodup/\Q .aX (af H2 a (.dK (kvs++mo)))
def akh{td te:TE}(h:td σ H (Ū te σ Q)):SZ td te σ H Q:=h
def ž(ty:TE)(σ:St)(Q:VK):VK:=fun x H1=>∃a,x=.ref a/\xE H1 a/\ty σ H1 fun y H2=>∃kvs k v,H2 a=some `Þ/\y=kV k/\f6 kvs k=some v/\Q v (af H2 a (.dK (qi kvs k)))
def akG{td ty:TE}(h:td σ H (ž ty σ Q)):IS td ty σ H Q:=h
def Z9{a:Addr}{kvs:`â}(h:0.87):xE H a:=.inl ⟨kvs,.inl h⟩
def apR{a:Addr}{kvs:`â}{ty:TE}(h:0.87)(q:ty σ H fun y H2=>∃kvs k v,H2 a=some `Þ/\y=kV k/\f6 kvs k=some v/\Q v (af H2 a (.dK (qi kvs k)))):ž ty σ Q `_L H:=⟨a,rfl,Z9 h,q⟩
def apr{a:Addr}{kvs:`â}{te:TE}(h:0.87)(q:te σ H fun y H2=>∃b kvs mo,y=.ref b/\a≠b/\H2 a=some `Þ/\Rd H2 b (.dK mo)/\`Ö+mo.length<=sizeLine/\((kvs++mo).map (·.1)).Nodup/\Q .aX (af H2 a (.dK (kvs++mo)))):Ū te σ Q `_L H:=⟨a,rfl,Z9 h,q⟩
def ŵ(K:Frag)(R:`å):List V->Hp->Prop:=fun vs H1=>∃a b xs ys,vs=4.3/\bF K H1 a xs/\bF K H1 b ys/\`Ã=`ø/\R 3.22 H1
def Ŵ(K:Frag)(R:`å):List V->Hp->Prop:=fun vs H1=>∃a b o kvs ys,vs=4.3/\H1 a=some `ė/\aG K H1 b ys/\`Ö=`ø/\R 2.81 H1
def aks{ta:TA}{R:`å}(h:ta σ H (ŵ K R)):Py K ta σ H R:=h
def akr{ta:TA}{R:`å}(h:ta σ H (Ŵ K R)):GB K ta σ H R:=h
def apy{R:`å}{a b:Addr}{xs ys:List V}(h:bF K H a xs)(h2:bF K H b ys)(hl:`Ã=`ø)(q:R 3.22 H):ŵ K R 4.3 H:=⟨a,b,xs,ys,rfl,h,h2,hl,q⟩
def aai{R:`å}{a b:Addr}{o:Obj}{kvs:`â}{ys:List V}(h:H a=some `ė)(h2:aG K H b ys)(hl:`Ö=`ø)(q:R 2.81 H):Ŵ K R 4.3 H:=⟨a,b,o,kvs,ys,rfl,h,h2,hl,q⟩
def Ų(R:`å):VK:=fun x H1=>∃d o kvs,x=.ref d/\H1 d=some `ė/\R (xF d o kvs) H1
def akp{td:TE}{R:`å}(h:td σ H (Ų R)):BG td σ H R:=h
def Qx{R:`å}{d:Addr}{o:Obj}{kvs:`â}(h:H d=some `ė)(q:R (xF d o kvs) H):Ų R (.ref d) H:=⟨d,o,kvs,rfl,h,q⟩
def Ů(R:`å):VK:=fun x H1=>∃d kvs,x=.ref d/\H1 d=some `Þ/\∀o,R (qT d o kvs) (af H1 d `ė)
def akl{td:TE}{R:`å}(h:td σ H (Ů R)):BF td σ H R:=h
def Qw{R:`å}{d:Addr}{kvs:`â}(h:H d=some `Þ)(q:∀o,R (qT d o kvs) (af H d `ė)):Ů R (.ref d) H:=⟨d,kvs,rfl,h,q⟩
def akL{t:TS}(h:3.73):IU t D σ H:=h
def akM{t:TE}(h:t σ H fun v H'=>oN H H' (Q v)):Te t σ H Q:=h
def apu{g:TG}{tb:TS}{xs ys:List V}{C:`_i}(jJ:`Ã=`ø)(Pv:3.5)(h0:Pv 0 σ H)(hc:∀i σ H,i<=`Ã->Pv i σ H->C H)
 (hs:∀i x y σ H T,xs[i]? =some x->ys[i]? =some y->Pv i σ H->H T=none->g (.ref T) σ (af H T 1.7) fun bC H2=>tb {D with nx:=Pv (i+1),ct:=Pv (i+1),bk:=D.nx} bC H2) (hd:0.53):vT g tb D σ (pY xs ys C) H:=by
 refine FW (n:=`Ã) Pv h0 (fun i σ H hi z=>⟨hc i σ H (jV hi) z,hi⟩) (fun σ H z=>⟨hc _ σ H (bp _) z,rfl⟩) (fun i x σ H H' hi z y=>?_) hd;obtain⟨T,u,v,rfl,hT,rfl,hx,hy⟩:=y;exact hs i u v σ H T hx hy z hT
def aag{g:TG}{tb:TS}{d:Addr}{o:Obj}{kvs:`â}(Pv:3.5)(h0:Pv 0 σ H)(hl:∀i σ H,i<=`Ö->Pv i σ H->H d=some `ė)
 (hs:∀i k v σ H,kvs[i]? =some (k,v)->Pv i σ H->g v σ H fun bC H2=>tb {D with nx:=Pv (i+1),ct:=Pv (i+1),bk:=D.nx} bC H2) (hd:∀σ H,Pv kvs.length σ H->D.nx σ H):vT g tb D σ (xF d o kvs) H:=by
 refine 3.68;obtain⟨rfl,k,e⟩:=y;exact hs i k x σ _ e q
def BQ{g:TG}{tt:TT}{te:TE}{vs:`À}{J:It}(n:Nat)(f:Nat->Option V)(hn:n<=sizeLine)(rP:∀i H',i<n->ag H H'->J.go i H')(iC:∀H',ag H H'->J.stop n H')
 (hs:∀(i:Nat)(x:V)(H' bM:Hp),i<n->ag H H'->J.l6 i H' x bM->∀(R1:'&')(R0:`_i),(∀y H3,f i=some y->ag H' H3->R1 y H3)->(∀H3,f i=none->ag H' H3->R0 H3)->
  g x `_4 bM fun bC H2=>cA bC vs=cA σ vs/\tt bC H2 fun b H3=>if b=true then te bC H3 R1 else R0 H3)
 (hd:∀D H',H D=none->ag H H'->H' D=some (.ah ((`ó n).filterMap f))->Q `_5 H'):nQ g tt te vs σ Q J H:=by
 intro D hD;refine GS (n:=n) (fun i H'=>ag H H'/\H' D=some (.ah ((`ó i).filterMap f))) ⟨kb hD 1.5,ax⟩ (fun i H' hi q=>rP i H' hi q.1) (fun H' q=>iC H' q.1) (fun i x H' bM hi q y=>?_) (fun H' q=>hd D H' hD q.1 q.2);refine hs i x H' bM hi q.1 y _ _ 4.74 (fun H3 e s=>⟨q.1.trans s,?_⟩)
 .refine oF (DA _ _) ?_;rw[uS];omega
 .rw[ax,K8,Du,gD,e];rfl
 .rw[s _ _ q.2,K8,Du,gD,e];simp
def Qy{g:TG}{tt:TT}{te:TE}{vs:`À}{d:Addr}{o:Obj}{kvs:`â}(eQ:H d=some `ė)(hn:`Ö<=sizeLine)(f:aW->V->Option V)
 (hs:∀(i:Nat)(k:aW)(v:V)(H':Hp),kvs[i]? =some (k,v)->ag H H'->∀(R1:'&')(R0:`_i),(∀y H3,f k v=some y->ag H' H3->R1 y H3)->(∀H3,f k v=none->ag H' H3->R0 H3)->
  g (kV k) `_4 H' fun bC H2=>cA bC vs=cA σ vs/\tt bC H2 fun b H3=>if b=true then te bC H3 R1 else R0 H3)
 (hd:3.98):nQ g tt te vs σ Q (qT d o kvs) H:=by
 refine 3.67
 .obtain⟨rfl,k,v,e,rfl⟩:=y;exact hs i k v _ e s R1 R0 (fun y H3 q=>h1 y H3 0.74) fun H3 q=>h0 H3 0.74
 .rw[e];congr 2;clear e hd hs hn eQ
  induction kvs with
  |nil=>rfl
  |cons p r ih=>
   show `_aQ
def apF{g:TG}{tt:TT}{te:TE}{vs:`À}{d:Addr}{o:Obj}{kvs:`â}(eQ:H d=some `ė)(hn:`Ö<=sizeLine)(f:aW->V->Option V)
 (hs:∀(i:Nat)(k:aW)(v:V)(H':Hp),kvs[i]? =some (k,v)->ag H H'->∀(R1:'&')(R0:`_i),(∀y H3,f k v=some y->ag H' H3->R1 y H3)->(∀H3,f k v=none->ag H' H3->R0 H3)->
  g v `_4 H' fun bC H2=>cA bC vs=cA σ vs/\tt bC H2 fun b H3=>if b=true then te bC H3 R1 else R0 H3)
 (hd:3.98):nQ g tt te vs σ Q (xF d o kvs) H:=by
 refine 3.67
 .obtain⟨rfl,k,e⟩:=y;exact hs i k x _ e s R1 R0 (fun y H3 q=>h1 y H3 0.74) fun H3 q=>h0 H3 0.74
 .rw[e];congr 2;clear e hd hs hn eQ
  induction kvs with
  |nil=>rfl
  |cons p r ih=>
   show `_aQ
def apE{g:TG}{tt:TT}{te:TE}{vs:`À}{xs ys:List V}{C:`_i}(jJ:`Ã=`ø)(hn:3.9)(hC:∀H',ag H H'->C H')(f:V->V->Option V)
 (hs:∀(i:Nat)(x y:V)(H':Hp)(T:Addr),xs[i]? =some x->ys[i]? =some y->ag H H'->H' T=none->∀(R1:'&')(R0:`_i),(∀z H3,f x y=some z->ag (af H' T 1.7) H3->R1 z H3)->(∀H3,f x y=none->ag (af H' T 1.7) H3->R0 H3)->
  g (.ref T) `_4 (af H' T 1.7) fun bC H2=>cA bC vs=cA σ vs/\tt bC H2 fun b H3=>if b=true then te bC H3 R1 else R0 H3)
 (hd:∀D H',H D=none->ag H H'->H' D=some (.ah ((xs.zip ys).filterMap fun p=>f p.1 p.2))->Q `_5 H'):nQ g tt te vs σ Q (pY xs ys C) H:=by
 refine BQ xs.length (fun i=>((xs.zip ys)[i]?).bind fun p=>f p.1 p.2) hn (fun i H' hi s=>⟨hC H' s,hi⟩) (fun H' s=>⟨hC H' s,rfl⟩) (fun i x H' bM hi s y R1 R0 h1 h0=>?_) (fun D H' hD s e=>hd D H' hD s ?_)
 .obtain⟨T,u,v,rfl,hT,rfl,hx,hy⟩:=y;have e:(xs.zip ys)[i]? =some (u,v):=by rw[List.getElem?_zip_eq_some];exact⟨hx,hy⟩
  exact hs i u v H' T hx hy s hT R1 R0 (fun z H3 q s3=>h1 z H3 0.74 ((ag.new hT).trans s3)) fun H3 q s3=>h0 H3 0.74 ((ag.new hT).trans s3)
 .rw[e];congr 2;have hz:(xs.zip ys).length=`Ã:=by rw[List.length_zip,<-jJ,Nat.min_self]
  rw[<-hz];clear e hd hs hn hC jJ hz;generalize xs.zip ys=zs
  induction zs with
  |nil=>rfl
  |cons p r ih=>
   show `_aQ
end
open PySem.W (WData Codec OpenSpec Well WellAll ReadsW ReadsAllW CodeHd tabObj noTabs)
def oM(mg:`þ)(h:Heap)(x:Str)(t:Addr):Prop:=
 ∃(f:Addr)(o:Obj)(fd:`ě)(c:Addr),mg x=some `æ/\h.get? f=some o/\o.data=.func fd/\fd.code=.ref c/\CodeHd h c t/\h.get? t=some (tabObj #[])
section
variable{p:Program}{GY:List Str}{Ŕ:ExcName->Option Value}{mg mb:Str->Option Value}{h:Heap}
def Th{x:Str}(T:Top p GY Ŕ mg mb h)(hd:(recsOf p).any (fun d=>d.name==x)=true):∃t,oM mg h x t:=by
 obtain⟨d,hm,hn⟩:=i5.mp hd;have hn:d.name=x:=sX.mp hn;obtain⟨a,o,fd,c,P,h1,h2,h3,h4,h5,h6⟩:=T.tab d hm;exact⟨P,a,o,fd,c,hn▸h1,h2,h3,h4,CodeHd.of h5 h6,h6.2⟩
def ajc(T:Top p GY Ŕ mg mb h):l7 mg h:=by
 obtain⟨bm,ob,h1,h2,h3,h4,h5,h6⟩:=T.bmain;refine⟨bm,ob,h1,h2,fun z=>?_,h3,h4,h5,h6⟩;obtain⟨o,es,ep,e,d,_⟩:=T.g;rw[<-z,h3]at e;cases e;rw[h6]at d;cases d
end
def kq(H0:Hp)(t1 t2 t3:Addr):Hp:=af (af (af H0 t1 `_K) t2 `_K) t3 `_K
section
variable{H0:Hp}{t1 t2 t3:Addr}
def aut{b:Addr}(h1:b≠t1)(h2:b≠t2)(h3:b≠t3):kq H0 t1 t2 t3 b=H0 b:=by
 unfold kq;rw[au h3,au h2,au h1]
def aur(MC:t1≠t2)(MD:t1≠t3):kq H0 t1 t2 t3 t1=some `_K:=by
 unfold kq;rw[au MD,au MC,ax]
def aus(ME:t2≠t3):kq H0 t1 t2 t3 t2=some `_K:=by
 unfold kq;rw[au ME,ax]
def afg:kq H0 t1 t2 t3 t3=some `_K:=ax
def C7(b:Addr):(1.46/\kq H0 t1 t2 t3 b=some `_K)\/((b≠t1/\b≠t2/\b≠t3)/\kq H0 t1 t2 t3 b=H0 b):=by
 by_cases h3:b=t3
 .exact .inl ⟨.inr (.inr h3),by rw[h3];exact afg⟩
 .by_cases h2:b=t2
  .exact .inl ⟨.inr (.inl h2),by rw[h2];rw[h2]at h3;exact aus h3⟩
  .by_cases h1:b=t1
   .exact .inl ⟨.inl h1,by rw[h1];rw[h1]at h2 h3;exact aur h2 h3⟩
   .exact .inr ⟨⟨h1,h2,h3⟩,aut h1 h2 h3⟩
end
def auh{P:`Ô}{w:World}{K:Frag}{mg mb:`þ}{CX:pQ}{k:Nat}{fa:Addr}{fd:`ě}{ps:`ô}{sp:Sp}{bY:Shared}{pL:`Ì}{ds:List WData}{R:WRecords}{cl:Str->Option Addr}{d0:WData}{t1 t2 t3 c1 c2 c3:Addr}
 (KX:K.In bY.heap) (tH:bY.heap.Ns mainGlobals mg) (hb:bY.heap.Ns builtinsNs mb) (hbb:∀x:Str,x≠"__name__"->mb x=bootBuiltins x) (alN:bY.heap.NoLimit) (hg:bY.gens=#[])
 (QM:noTabs K=true) (BM:l7 mg bY.heap) (C1:CodeHd bY.heap c1 t1) (C2:CodeHd bY.heap c2 t2) (C3:CodeHd bY.heap c3 t3)
 (P1:bY.heap.get? t1=some (tabObj #[])) (P2:bY.heap.get? t2=some (tabObj #[])) (P3:bY.heap.get? t3=some (tabObj #[]))
 (Bz:WellAll w.params bY.heap pL ds) (eW:nZ ds=true) (hwt:∀d∈ds,d.weight<=1048576) (hr:cH k callerA)
 (F:∀base:Heap,K.In base->base.Ns mainGlobals mg->l7 mg base->(∀c t,CodeHd bY.heap c t->CodeHd base c t)->f9 P w K mg base CX k fa fd ps sp) (A_:4.21) (hlen:ds.length=`_z)
 (qy:∀(H0 H:Hp)(xs:List V),ag H0 H->H t1=some `_K->H t2=some `_K->H t3=some `_K->ou K H0 xs ds->sp xs H (fun v H'=>Dw K H' v d0) fun _ _ _=>False)
 (ON:∀H e s',CX [] H bY (fun _ _ _=>False) e s'->False):
 codeAny '5' callerA (.call (.ref fa) ⟨pL,[]⟩) (fun r s'=>∃u as,r=.ok (.ret u)/\ReadsW R cl s'.heap u d0 as/\OldK bY.heap s'.heap/\s'.os=bY.os/\AllBare s'.gens) bY:=by
 obtain⟨A,ho,ar⟩:=E8 ds pL Bz eW hwt;have ZG:dJ P w (lx K bY.heap A) bY.heap:=ait ar;have hS:=Fy KX ar ds pL Bz eW ho;have hV:=zX ho;have PD:∀b u,lx K bY.heap A b=some u->K.lookup b=none/\(∃o z,u=.aN o z)/\∃o vs,bY.heap.get? b=some o/\(o.cls=.type "list"\/o.cls=.type "tuple")/\o.data=.seq vs:=fun b u q=>by
  obtain⟨e,vs,_,_,⟨e2,e3⟩|⟨e2,e3⟩⟩:=VN ar q
  .exact⟨e,⟨_,_,e3⟩,_,_,e2,.inl rfl,rfl⟩
  .exact⟨e,⟨_,_,e3⟩,_,_,e2,.inr rfl,rfl⟩
 generalize lx K bY.heap A=H0 at ZG hS PD;have C8:∀b,1.46->bY.heap.get? b=some (tabObj #[])/\∃c,CodeHd bY.heap c b:=fun b z=>by
  rcases z with z|z|z
  .rw[z];exact⟨P1,c1,C1⟩
  .rw[z];exact⟨P2,c2,C2⟩
  .rw[z];exact⟨P3,c3,C3⟩
 have ap9:∀b u,H0 b=some u->¬1.46:=fun b u q z=>by
  obtain⟨_,_,o,vs,e,hc,_⟩:=PD b u q;rw[(C8 b z).1]at e;cases e;rcases hc with hc|hc<;>cases hc
 have sm:ag H0 (kq H0 t1 t2 t3):=fun b o e=>by
  rcases C7 (H0:=H0) (t1:=t1) (t2:=t2) (t3:=t3) b with⟨z,_⟩|⟨_,z⟩
  .exact absurd z (ap9 b o e)
  .rw[z];exact e
 have GH:∀b u,kq H0 t1 t2 t3 b=some u->K.lookup b=none/\((1.46/\u=.fi #[])\/∃o z,u=.aN o z)/\
  ∃o,bY.heap.get? b=some o/\3.88:=fun b u q=>by
  rcases C7 (H0:=H0) (t1:=t1) (t2:=t2) (t3:=t3) b with⟨z,z2⟩|⟨_,z⟩
  .rw[z2]at q;cases q;have e:=(C8 b z).1;refine⟨?_,.inl ⟨z,rfl⟩,_,e,.inl `_x⟩;cases hk:K.lookup b with
   |none=>rfl
   |some o=>
    have e2:=KX b o hk;rw[e]at e2;cases e2;have h2:=f_.mp QM _ (PySem.W.mem_of_lookupK hk);exact absurd (show false=true from h2) eM
  .rw[z]at q;obtain⟨e1,e2,o,vs,e3,e4,e5⟩:=PD b u q;exact⟨e1,.inr e2,o,e3,.inr ⟨e4,vs,e5⟩⟩
 have aO:dJ P w (kq H0 t1 t2 t3) bY.heap:=fun b u q=>by
  rcases C7 (H0:=H0) (t1:=t1) (t2:=t2) (t3:=t3) b with⟨z,z2⟩|⟨_,z⟩
  .rw[z2]at q;cases q;exact(C8 b z).1
  .rw[z]at q;exact(ZG b u q).km (fun _ _ _ e=>e) (fun c e=>sm _ _ e) fun c xs e=>sm _ _ e
 have iO:t1=t1\/t1=t2\/t1=t3:=.inl rfl;have at1:kq H0 t1 t2 t3 t1=some `_K:=by
  rcases C7 (H0:=H0) (t1:=t1) (t2:=t2) (t3:=t3) t1 with⟨_,z⟩|⟨z,_⟩
  .exact z
  .exact absurd rfl z.1
 have at2:kq H0 t1 t2 t3 t2=some `_K:=by
  rcases C7 (H0:=H0) (t1:=t1) (t2:=t2) (t3:=t3) t2 with⟨_,z⟩|⟨z,_⟩
  .exact z
  .exact absurd rfl z.2.1
 have at3:kq H0 t1 t2 t3 t3=some `_K:=afg;have Y':=qy H0 _ (pL.map jx) sm at1 at2 at3 hS;generalize kq H0 t1 t2 t3=H at GH aO Y';have QL:∀{b:Addr}{o:Obj},bY.heap.get? b=some o->¬3.88->H b=none:=fun{b o} e n=>by
  cases q:H b with
  |none=>rfl
  |some u=>
   obtain⟨_,_,o',e2,r⟩:=GH b u q;rw[e]at e2;cases e2;exact absurd r n
 have sn:∀{b:Addr}{o:Obj}{es:`Ξ}{ep:Nat},bY.heap.get? b=some o->o.data=.dict es ep->H b=none:=fun{b o es ep} e d=>QL e fun z=>by
  rw[d]at z;rcases z with⟨_,z⟩|⟨_,vs,z⟩<;>cases z
 have Fa:∀{b:Addr}{o:Obj},bY.heap.get? b=some o->H b=none->(o0 bY.heap H).get? b=some o:=fun e n=>alH e n;have Ht:∀{b:Addr}{m:`þ},bY.heap.Ns b m->(o0 bY.heap H).Ns b m:=fun{b m} ⟨o,es,ep,e,d,r⟩=>⟨o,es,ep,Fa e (sn e d),d,r⟩;have Ŷ:∀b o,K.lookup b=some o->H b=none:=fun b o e=>by
  cases q:H b with
  |none=>rfl
  |some u=>
   rw[(GH b u q).1]at e;cases e
 have Y8:K.In (o0 bY.heap H):=fun b o e=>Fa (KX b o e) (Ŷ b o e);have hBb:l7 mg (o0 bY.heap H):=by
  obtain⟨bm,o,h1,h2,h3,h4,h5,h6,h7⟩:=BM;refine⟨bm,o,h1,h2,h3,Fa h4 (QL h4 fun z=>?_),h5,h6,h7⟩;rw[h7]at z;rcases z with⟨_,z⟩|⟨_,vs,z⟩<;>cases z
 have hCb:∀c t,CodeHd bY.heap c t->CodeHd (o0 bY.heap H) c t:=fun c t x=>by
  obtain⟨o,vs,ak5,tf,ald,tg,inF,text,tt,e,hc,r⟩:=x;refine⟨o,vs,ak5,tf,ald,tg,inF,text,tt,Fa e (QL e fun z=>?_),hc,r⟩;rw[hc]at z;rcases z with⟨z,_⟩|⟨z|z,_⟩
  .cases z
  .exact absurd (LL z) `Æ
  .exact absurd (LL z) `Æ
 have hM:Mod K mg (o0 bY.heap H):=⟨Y8,Ht tH,⟨mb,Ht hb,hbb⟩,let⟨mc,h1,h2⟩:=alN;⟨mc,Ht h1,h2⟩⟩;have e0:qQ P w K mg (o0 bY.heap H) callerA [] bY H:=⟨rfl,hM,fun b o e=>aqe e,Ao (alI _ _),trivial,fun b hb=>absurd (show b∈([]:List Addr)from hb) `Ç,aO,.of_eq hg⟩;have hl:pL.length=`_z:=by rw[Jf Bz];exact hlen
 refine yh ((F _ Y8 (Ht tH) hBb hCb).CK callerA [] bY H ⟨pL,[]⟩ pL (pL.map jx) _ _ hr e0 (A_ bY pL hl) hV Y') fun r s' x=>?_;cases r with
 |error e=>exact(ON H e s' x).elim
 |ok fl=>
  cases fl with
  |next=>exact `_m x
  |brk=>exact `_m x
  |cont=>exact `_m x
  |ret u=>
   obtain⟨v,H',os,fu,un,rS,r',q⟩:=x;have į:∀b o,bY.heap.get? b=some o->H b=none->s'.heap.get? b=some o:=fun b o e q2=>un.keep b o e q2 (by intro z;exact absurd (show b∈([]:List Addr)from z) `Ç) `Ç;have Wg:∀b o,bY.heap.get? b=some o->s'.heap.get? b=some o\/(1.46/\o=tabObj #[]/\∃more,s'.heap.get? b=some (tabObj (#[]++more))):=fun b o e=>by
    cases q2:H b with
    |none=>exact .inl (į b o e q2)
    |some u2=>
     rcases(GH b u2 q2).2.1 with⟨z,rfl⟩|⟨ob,u3,rfl⟩
     .obtain⟨more,z2⟩:=un.mW b _ q2;have e3:=(C8 b z).1;rw[e]at e3;exact .inr ⟨z,bZ e3,more,rS b _ z2⟩
     .have z2:=un.jI b ob _ q2;obtain⟨e1,_⟩:=aO b _ q2;obtain⟨e2,_⟩:=rS b _ z2;rw[e]at e1;cases e1;exact .inl e2
   have KX':K.In s'.heap:=fun b o e=>į b o (KX b o e) (Ŷ b o e);obtain⟨as,hU⟩:=Dw.t7 (R:=R) (cl:=cl) rS KX' d0 v u q r';refine⟨u,as,rfl,hU,⟨5.0,5.0⟩,os,fu⟩
   .rcases Wg b o e with z|⟨z,rfl,more,e2⟩
    .exact .inl z
    .obtain⟨c,hc⟩:=(C8 b z).2;exact .inr (.inl ⟨(hc.tab e).isCodeTable,rfl,#[],more,rfl,e2⟩)
   .rcases Wg b o e with z|⟨z,rfl,more,e2⟩
    .exact⟨_,z⟩
    .exact⟨_,e2⟩
def axk{r:OpenSpec}{k:Nat}{q:`Ô}{GY:`ô}{XP:(`þ)->Heap->Prop}{YP:World->Heap->Prop}{d:DefRec}{K:Params->Frag}{CX:pQ}{ps:`ô}{n1 n2 n3:Str}{sp:Frag->Addr->Addr->Addr->Sp}
 (al9:r.wellSaid=true) (hdf:d.params.defaults=[]) (hlen:r.args.length=`_z) (hr:cH k callerA)
 (hY:∀(w:World)(h:Heap),YP w h->(K w.params).In h)
 (QM:∀w:World,noTabs (K w.params)=true)
 (b0:(recsOf q).any (fun d=>d.name==n1)=true) (hd2:(recsOf q).any (fun d=>d.name==n2)=true) (rM:(recsOf q).any (fun d=>d.name==n3)=true)
 (F:∀(w:World)(mg:`þ)(fa:Addr)(h:Heap)(t1 t2 t3:Addr),YP w h->(K w.params).In h->h.Ns mainGlobals mg->mg d.name=some (.ref fa)->oM mg h n1 t1->oM mg h n2 t2->oM mg h n3 t3->
  ∃fd:FuncData,(4.21)/\(t1≠t2/\t1≠t3/\t2≠t3)/\
   ∀base:Heap,(K w.params).In base->base.Ns mainGlobals mg->l7 mg base->(∀c t,CodeHd h c t->CodeHd base c t)->f9 r.prog w (K w.params) mg base CX k fa fd ps (sp (K w.params) t1 t2 t3))
 (qy:∀(K:Frag)(t1 t2 t3:Addr)(H0 H:Hp)(xs:List V)(a:Codec.denoteAll r.args),t1≠t2->t1≠t3->t2≠t3->ag H0 H->H t1=some `_K->H t2=some `_K->H t3=some `_K->Codec.withinAll r.args a=true->Codec.app r.args r.asked a=true->ou K H0 xs (Codec.encAll r.args a)->
  sp K t1 t2 t3 xs H (fun v H'=>Dw K H' v (r.ret.enc (Codec.app r.args r.f a))) fun _ _ _=>False)
 (ON:∀(H:Hp)(s:Shared)(e:Value)(s':Shared),CX [] H s (fun _ _ _=>False) e s'->False):
 PySem.W.WalkOS q GY XP YP r d [] (fun f vs=>PySem.call f vs):=by
 intro w h_ bY mg mb G Y fa o pm cd doc dV kV ho hd j3 hD hmg hg args pL as alZ alM hU Bz hlo;obtain⟨a,e1,e2⟩:=PySem.W.os_pre_some alZ;obtain⟨e3,ZT⟩:=Codec.encAll_of_decAll r.args args a e1;subst e3;have KX:=hY w _ Y;obtain⟨t1,T1⟩:=Th G.T b0;obtain⟨t2,T2⟩:=Th G.T hd2;obtain⟨t3,T3⟩:=Th G.T rM;obtain⟨fd,hb,⟨MC,MD,ME⟩,hF⟩:=F w mg fa _ t1 t2 t3 Y KX G.T.g hmg T1 T2 T3;obtain⟨_,_,_,c1,_,_,_,_,C1,P1⟩:=T1;obtain⟨_,_,_,c2,_,_,_,_,C2,P2⟩:=T2;obtain⟨_,_,_,c3,_,_,_,_,C3,P3⟩:=T3;refine PySem.W.enter_call (yh (auh (R:=[]) (cl:=classAt h_.heap) (d0:=r.ret.enc (Codec.app r.args r.f a)) KX G.T.g G.T.b G.T.builtins G.T.nolimit hg (QM w) (ajc G.T) C1 C2 C3 P1 P2 P3 Bz (aa1 _ _) (aon alM) hr hF hb (by rw[Yv];exact hlen)
  (fun H0 H xs hS h1 h2 h3 hD=>qy _ t1 t2 t3 H0 H xs a MC MD ME hS h1 h2 h3 ZT e2 hD) fun H e s'=>ON H bY e s') fun r' s' hq=>?_)
 obtain⟨u,E_,rfl,h1,h2,h3,h4⟩:=hq;exact⟨.inl ⟨u,_,E_,rfl,fun _=>rfl,h1,(OpenSpec.post_iff al9 ZT _ _).mpr rfl,fun z=>`Δ (show false=true from z)⟩,h2,h3,h4⟩
end L2
end
section
namespace TM
open Vbnlak
def Zc(p:Rel->Bool)(r:Rel):has (maskOf (RELS.filter p)) r=p r:=by
 unfold RELS;cases h1:p .equal<;>cases h2:p .within<;>cases h3:p .holds<;>cases h4:p .overlap<;>cases h5:p .apart<;>cases r<;>simp[filter,h1,h2,h3,h4,h5]<;>decide
def FS(p:Rel->Bool):maskOf (RELS.filter p)<32:=by
 unfold RELS;cases h1:p .equal<;>cases h2:p .within<;>cases h3:p .holds<;>cases h4:p .overlap<;>cases h5:p .apart<;>simp[filter,h1,h2,h3,h4,h5]<;>decide
def rL(a b:Nat)(r:Rel):has (meet a b) r=(has a r&&has b r):=Zc _ r
def alq(a b:Nat)(r:Rel):has (join a b) r=(has a r||has b r):=Zc _ r
def BV(a b:Nat):meet a b<32:=FS _
def ģ(a b:Nat):join a b<32:=FS _
def ő:∀{a b:Nat},a<32->b<32->(∀r,has a r=has b r)->a=b:=by
 have h:∀a:Fin 32,∀b:Fin 32,(RELS.all fun r=>has a.val r==has b.val r)=true->a=b:=`ē;intro a b ha hb e;have:=h ⟨a,ha⟩ ⟨b,hb⟩ (f_.mpr fun r _=>by rw[e r];exact beq_self_eq_true _);exact fv Fin.val this
def Le(a b:Nat):Prop:=∀r,has a r=true->has b r=true
def Le.rfl{a:Nat}:Le a a:=fun _ h=>h
def Le.trans{a b c:Nat}(h:Le a b)(k:Le b c):Le a c:=fun r q=>k r (h r q)
def Le.L7{a b:Nat}(ha:a<32)(hb:b<32)(h:Le a b)(k:Le b a):a=b:=
 ő ha hb fun r=>by
  cases e:has a r with
  |true=>exact(h r e).symm
  |false=>
   cases e':has b r with
   |true=>rw[k r e']at e;cases e
   |false=>rfl
def Zd:∀(l:`À)(m:Nat)(r:Rel),has (l.foldl join m) r=(has m r||l.any fun x=>has x r)
 |[],m,r=>by simp
 |x::l,m,r=>by rw[jA,Zd l,alq,k_,Bool.or_assoc]
def alx(r:Rel):has 0 r=false:=7.1
def GZ{m:Nat}{r:Rel}:r∈relsOf m↔has m r=true:=by
 unfold relsOf;rw[iU];exact⟨fun h=>h.2,fun h=>⟨7.1,h⟩⟩
def Zb(a b:Nat)(r:Rel):has (compMask a b) r=true↔∃x y,has a x=true/\has b y=true/\has (comp x y) r=true:=by
 unfold compMask;rw[Zd,alx,oj,i5];constructor
 .rintro⟨z,hz,h⟩;obtain⟨x,hx,hz⟩:=uU.mp hz;obtain⟨y,hy,rfl⟩:=cw.mp hz;exact⟨x,y,GZ.mp hx,GZ.mp hy,h⟩
 .rintro⟨x,y,hx,hy,h⟩;exact⟨_,uU.mpr ⟨x,GZ.mpr hx,cw.mpr ⟨y,GZ.mpr hy,_root_.rfl⟩⟩,h⟩
def Ws{a b c d:Nat}(h:Le a c)(k:Le b d):Le (compMask a b) (compMask c d):=fun r q=>by
 obtain⟨x,y,hx,hy,hr⟩:=(Zb a b r).mp q;exact(Zb c d r).mpr ⟨x,y,h x hx,k y hy,hr⟩
def va{n:Nat}{f:`É}{i j:Nat}(hi:i<n)(hj:j<n):at_ 4.7 i j=f i j:=by
 unfold at_ tableOf;simp[List.getD,hi,hj]
def IW{n:Nat}{f g:`É}(h:∀i j,i<n->j<n->f i j=g i j):tableOf n f=tableOf n g:=by
 unfold tableOf;refine iG fun i hi=>iG fun j hj=>h i j (jm.mp hi) (jm.mp hj)
def auu{n:Nat}{f g:`É}(h:tableOf n f=tableOf n g){i j:Nat}(hi:i<n)(hj:j<n):f i j=g i j:=by
 rw[<-va (f:=f) hi hj,h,va hi hj]
def lN(n:Nat)(f:`É)(i j:Nat):Nat:=(`ó n).foldl (fun m k=>meet m 2.37) (f i j)
def ap1(n:Nat)(t:Table):narrower n t=tableOf n (lN n (at_ t)):=rfl
def OV(g:Nat->Nat):∀(l:`À)(m:Nat)(r:Rel),has (l.foldl (fun m k=>meet m (g k)) m) r=(has m r&&l.all fun k=>has (g k) r)
 |[],m,r=>by simp
 |x::l,m,r=>by rw[jA,OV g l,rL,m9,xw]
def Qg(g:Nat->Nat):∀(l:`À)(m:Nat),m<32->l.foldl (fun m k=>meet m (g k)) m<32
 |[],m,h=>h
 |x::l,m,h=>Qg g l _ (BV _ _)
def A8{n:Nat}{f:`É}{i j:Nat}{r:Rel}:has (lN n f i j) r=true↔has (f i j) r=true/\∀k,k<n->has 2.37 r=true:=by
 unfold lN;rw[OV (fun k=>compMask (f i k) (f k j)),f7,f_];exact⟨fun⟨a,b⟩=>⟨a,fun k hk=>b k (jm.mpr hk)⟩,fun⟨a,b⟩=>⟨a,fun k hk=>b k (jm.mp hk)⟩⟩
def Ok(n:Nat)(f:`É):Prop:=∀i j,i<n->j<n->f i j<32
def fO(n:Nat)(f g:`É):Prop:=∀i j,i<n->j<n->Le (f i j) (g i j)
def fO.refl{n:Nat}{f:`É}:fO n f f:=fun _ _ _ _=>Le.rfl
def fO.trans{n:Nat}{f g h:`É}(a:fO n f g)(b:fO n g h):fO n f h:=fun i j hi hj=>(a i j hi hj).trans (b i j hi hj)
def aar{n:Nat}{f:`É}(h:Ok n f):Ok n (lN n f):=fun i j hi hj=>Qg _ _ _ (h i j hi hj)
def aaq{n:Nat}{f:`É}:fO n (lN n f) f:=fun i j _ _ r h=>(A8.mp h).1
def apX{n:Nat}{f g:`É}(h:fO n f g):fO n (lN n f) (lN n g):=fun i j hi hj r q=>by
 obtain⟨a,b⟩:=A8.mp q;exact A8.mpr ⟨h i j hi hj r a,fun k hk=>Ws (h i k hi hk) (h k j hk hj) r (b k hk)⟩
def nj(n:Nat)(f:`É):Prop:=∀i j k,i<n->j<n->k<n->Le (f i j) 2.37
def at9{n:Nat}{f:`É}(h:fO n f (lN n f)):nj n f:=fun i j k hi hj hk r q=>(A8.mp (h i j hi hj r q)).2 k hk
def aop{n:Nat}{f:`É}(h:nj n f):fO n f (lN n f):=fun i j hi hj r q=>A8.mpr ⟨q,fun k hk=>h i j k hi hj hk r q⟩
def wb(m:Nat):Nat:=(`_M).length
def asu(m:Nat):wb m<=5:=by
 unfold wb relsOf;exact bq (nh _ _) `Æ
def OC{α:Type}{p q:α->Bool}:∀(l:`ċ),(∀x∈l,p x=true->q x=true)->(l.filter p).length<=(l.filter q).length
 |[],_=>by simp
 |x::l,h=>by
  have ih:=OC l fun y hy=>h y (gr _ hy);rw[kt,kt];cases hp:p x with
  |true=>rw[ay _root_.rfl,ay (h x im hp)];simp;exact ih
  |false=>
   rw[aq (by simp)];split
   .exact Nat.le_succ_of_le ih
   .exact ih
def YL{α:Type}{p q:α->Bool}:∀(l:`ċ),(∀x∈l,p x=true->q x=true)->(∃x∈l,p x=false/\q x=true)->(l.filter p).length<(l.filter q).length
 |[],_,h=>by simp at h
 |x::l,h,⟨y,hy,h1,h2⟩=>by
  have hl:∀y∈l,p y=true->q y=true:=fun y hy=>h y (gr _ hy);rw[kt,kt];rcases bE.mp hy with rfl|hy
  .rw[aq (by simp[h1]),ay h2];exact Nat.lt_succ_of_le (OC l hl)
  .have ih:=YL l hl ⟨y,hy,h1,h2⟩;cases hp:p x with
   |true=>rw[ay _root_.rfl,ay (h x im hp)];simp;exact ih
   |false=>
    rw[aq (by simp)];split
    .exact xR ih
    .exact ih
def Rg{a b:Nat}(h:Le a b):wb a<=wb b:=OC _ fun r _ q=>h r q
def asv{a b:Nat}(ha:a<32)(hb:b<32)(h:Le a b)(ne:a≠b):wb a<wb b:=by
 have:∃r∈RELS,has a r=false/\has b r=true:=by
  refine qP fun hn=>ne (Le.L7 ha hb h fun r q=>?_);cases e:has a r with
  |true=>rfl
  |false=>exact absurd ⟨r,7.1,e,q⟩ hn
 exact YL _ (fun r _ q=>h r q) this
def pJ(g:Nat->Nat):Nat->Nat
 |0=>0
 |n+1=>pJ g n+g n
def xi{g h:Nat->Nat}:∀{n:Nat},(∀i,i<n->g i<=h i)->pJ g n<=pJ h n
 |0,_=>bp _
 |n+1,q=>jC (xi fun i hi=>q i (xR hi)) (q n (Ap n))
def SX{g h:Nat->Nat}:∀{n:Nat},(∀i,i<n->g i<=h i)->(∃i,i<n/\g i<h i)->pJ g n<pJ h n
 |0,_,⟨i,hi,_⟩=>absurd hi (DI i)
 |n+1,q,⟨i,hi,cz⟩=>by
  have q':∀i,i<n->g i<=h i:=fun i hi=>q i (xR hi);show pJ g n+g n<pJ h n+h n;rcases Nat.lt_succ_iff_lt_or_eq.mp hi with h1|rfl
  .have a:=SX q' ⟨i,h1,cz⟩;have b:=q n (Ap n);omega
  .have a:=xi q';omega
def SW(c:Nat):∀n,pJ (fun _=>c) n=c*n
 |0=>rfl
 |n+1=>by show pJ (fun _=>c) n+c=c*(n+1);rw[SW c n,Nat.mul_succ]
def mu(n:Nat)(f:`É):Nat:=pJ (fun i=>pJ (fun j=>wb (f i j)) n) n
def aoX{n:Nat}{f:`É}:mu n f<=5*n*n:=by
 unfold mu;refine bq (xi (h:=fun _=>5*n) fun i hi=>?_) (Ao (SW _ _));exact bq (xi (h:=fun _=>5) fun j hj=>asu _) (Ao (SW _ _))
def aoY{n:Nat}{f g:`É}(h:fO n f g):mu n f<=mu n g:=xi fun i hi=>xi fun j hj=>Rg (h i j hi hj)
def Ş{n:Nat}{f g:`É}(hf:Ok n f)(hg:Ok n g)(h:fO n f g)(ne:∃i j,i<n/\j<n/\f i j≠g i j):mu n f<mu n g:=by
 obtain⟨i,j,hi,hj,e⟩:=ne;refine SX (fun i hi=>xi fun j hj=>Rg (h i j hi hj)) ⟨i,hi,SX (fun j hj=>Rg (h i j hi hj)) ⟨j,hj,?_⟩⟩;exact asv (hf i j hi hj) (hg i j hi hj) (h i j hi hj) e
def Wp{n:Nat}:∀(k:Nat)(f:`É),Ok n f->mu n f<k->
 ∃g,closed n k 4.7=tableOf n g/\Ok n g/\fO n g f/\nj n g/\∀v,fO n v f->nj n v->fO n v g
 |0,f,_,h=>absurd h (DI _)
 |k+1,f,ok,h=>by
  have en:narrower n 4.7=tableOf n (lN n f):=by
   rw[ap1];refine IW fun i j hi hj=>?_;unfold lN;rw[va hi hj];have:∀(l:`À)(m:Nat),(∀k∈l,k<n)->l.foldl (fun m k=>meet m (compMask (at_ 4.7 i k) (at_ 4.7 k j))) m=l.foldl (fun m k=>meet m 2.37) m:=by
    intro l
    induction l with
    |nil=>intro m _;rfl
    |cons x l ih=>
     intro m hl;have hx:=hl x im;rw[jA,jA,va hi hx,va hx hj,ih _ fun k hk=>hl k (gr _ hk)]
   exact this _ _ fun k hk=>jm.mp hk
  unfold closed;show∃g,(if narrower n 4.7=tableOf n f then tableOf n f else closed n k (narrower n 4.7))=tableOf n g/\_;rw[en];by_cases e:tableOf n (lN n f)=tableOf n f
  .rw[ay e];refine⟨f,rfl,ok,fO.refl,at9 fun i j hi hj=>?_,fun v hv _=>hv⟩;rw[auu e hi hj];exact Le.rfl
  .rw[aq e];have ne:∃i j,i<n/\j<n/\lN n f i j≠f i j:=by
    refine qP fun hn=>e (IW fun i j hi hj=>?_);exact qP fun q=>hn ⟨i,j,hi,hj,q⟩
   have lt:=Ş (aar ok) ok aaq ne;obtain⟨g,e1,Hy,le,sh,aY⟩:=Wp k (lN n f) (aar ok) `È;exact⟨g,e1,Hy,le.trans aaq,sh,fun v hv hs=>aY v ((aop hs).trans (apX hv)) hs⟩
def ajo{n:Nat}(f:`É)(ok:Ok n f):∃g,closure n 4.7=tableOf n g/\Ok n g/\fO n g f/\nj n g/\∀v,fO n v f->nj n v->fO n v g:=
 Wp _ f ok (Nat.lt_succ_of_le aoX)
def ajp{n:Nat}{f u:`É}(ok:Ok n f)(oku:Ok n u)(hu:fO n u f)(sh:nj n u)(lo:∀v,Ok n v->fO n v f->nj n v->fO n v u):closure n 4.7=tableOf n u:=by
 obtain⟨g,e,Hy,le,shg,aY⟩:=ajo f ok;rw[e];exact IW fun i j hi hj=>Le.L7 (Hy i j hi hj) (oku i j hi hj) (lo g Hy le shg i j hi hj) (aY u hu sh i j hi hj)
end TM
end
section
namespace TM
open Vbnlak
def qI:List Text->Text->Text->List Text
 |ls,l,[]=>ls++[l]
 |ls,l,b::r=>if b=10 then qI (ls++[l]) [] r else qI ls (l++[b]) r
def zn:∀w,∃l ls,lines w=l::ls
 |[]=>⟨[],[],rfl⟩
 |b::r=>by
  unfold lines;split
  .exact⟨_,_,rfl⟩
  .obtain⟨l,ls,e⟩:=zn r;rw[e];exact⟨_,_,rfl⟩
def SN:∀(w:Text)(ls:List Text)(l:Text),qI ls l w=ls++(match lines w with|[]=>[l]|x::xs=>(l++x)::xs)
 |[],ls,l=>by simp[qI,lines]
 |b::r,ls,l=>by
  obtain⟨x,xs,e⟩:=zn r;unfold qI lines;by_cases h:b=10
  .rw[ay h,ay h,SN r,e];simp
  .rw[aq h,aq h,SN r,e];simp
def aui(w:Text):qI [] [] w=lines w:=by
 obtain⟨x,xs,e⟩:=zn w;rw[SN,e];simp
def amj(w:Text)(x:Text)(xs:List Text):joined (w::x::xs)=w++10::joined (x::xs):=rfl
def Ĥ:∀w,joined (lines w)=w
 |[]=>rfl
 |b::r=>by
  obtain⟨x,xs,e⟩:=zn r;have ih:=Ĥ r;unfold lines;by_cases h:b=10
  .rw[ay h,e,amj,<-e,ih,h];rfl
  .rw[aq h,e];rw[e]at ih;show joined ((b::x)::xs)=b::r;cases xs with
   |nil=>rw[<-ih];rfl
   |cons y ys=>rw[<-ih];rfl
abbrev bX:=Nat×Text×Bool
def V':∀(w:Text),w=replicate (w.length-(w.dropWhile fun b=>b==32).length) 32++w.dropWhile fun b=>b==32
 |[]=>rfl
 |b::r=>by
  have ih:=V' r;rw[List.dropWhile_cons];cases h:b==32 with
  |true=>
   have hb:b=32:=eq_of_beq h;have hl:(r.dropWhile fun b=>b==32).length<=r.length:=(List.dropWhile_sublist _).length_le;rw[ay rfl,show(b::r).length-(r.dropWhile fun b=>b==32).length=(r.length-(r.dropWhile fun b=>b==32).length)+1 by simp;omega,List.replicate_succ,xH,<-ih,hb]
  |false=>simp
def aow{w:Text}{d:Nat}{name:Text}{plus:Bool}(h:lineOf w=some (d,name,plus)):w=replicate d 32++name++(if plus=true then [32,43]else []):=by
 unfold lineOf at h;have hb:=V' w;generalize hr:(w.dropWhile fun b=>b==32)=gJ at h hb;have ht:=List.takeWhile_append_dropWhile (p:=letter) (l:=gJ);simp only[]at h;split at h
 .cases h
 .split at h
  .rename_i h2
   injection h with h
   injection h with h1 h3
   injection h3 with h3 h4
   subst h1 h3 h4;rw[h2,i6]at ht;rw[ht];simpa using hb
  .split at h
   .rename_i h2
    injection h with h
    injection h with h1 h3
    injection h3 with h3 h4
    subst h1 h3 h4;rw[h2]at ht;rw[ay rfl,jz,ht];exact hb
   .cases h
def room(rows:`û):Nat:=match rows.getLast? with
 |none=>0
 |some r=>r.1+1
def nU(rows:`û)(row:bX):Bool:=decide (`_I≠8)&&(decide (row.1<=room rows)&&!((rows.map fun r=>r.2.1).contains row.2.1))
def ff:List bX->List Text->List bX
 |acc,[]=>acc
 |acc,w::r=>match lineOf w with
  |none=>acc
  |some row=>if nU acc row=true then ff (acc++[row]) r else acc
def mk(base:Nat):Nat->List Nat->List bX->List Concept
 |_,_,[]=>[]
 |k,above,r::rs=>{number:=base+k,name:=r.2.1,chain:=(base+k)::above.drop 0.45,whole:=r.2.2}::mk base (k+1) (2.25) rs
def mE(base:Nat):∀(rs:`û)(k:Nat)(above:`À),(mk base k above rs).length=`ç
 |[],_,_=>rfl
 |r::rs,k,above=>by show(mk base (k+1) _ rs).length+1=`ç+1;rw[mE base rs]
def ab'(acc:`û)(r:bX):room (acc++[r])=r.1+1:=by
 unfold room;rw[List.getLast?_append];rfl
def P4(base:Nat):∀(ls:List Text)(acc:`û)(above:`À)(names:List Text),`_q<=8->above.length=room acc->(∀nm,names.contains nm=(acc.map fun r=>r.2.1).contains nm)->
 ∃rs,ff acc ls=acc++rs/\`ç<=ls.length/\(acc++rs).length<=8/\concepts base acc.length above names ls=if `ç<ls.length then .inl (`_q+`ç+1)else .inr (mk base acc.length above rs)
 |[],acc,above,names,h8,ha,hn=>⟨[],by simp[ff],bp _,by simpa using h8,by simp[concepts,mk]⟩
 |w::r,acc,above,names,h8,ha,hn=>by
  unfold ff concepts;cases e:lineOf w with
  |none=>exact⟨[],`Õ,`Õ,by simpa using h8,`Õ⟩
  |some row=>
   obtain⟨depth,name,whole⟩:=row;show∃rs,(if nU acc 7.4=true then ff (acc++[7.4]) r else acc)=acc++rs/\_;by_cases hb:MOST<=`_q\/above.length<depth\/names.contains name=true
   .have:¬nU acc 7.4=true:=by
     unfold nU;simp only[f7,vf,om];rintro⟨h1,h2,h3⟩;rcases hb with hb|hb|hb
     .have:(8:Nat)<=`_q:=hb;omega
     .rw[<-ha]at h2;omega
     .rw[hn,h3]at hb;cases hb
    rw[aq this];refine⟨[],`Õ,`Õ,by simpa using h8,?_⟩;simp only[KZ,cB,Nat.zero_lt_succ,nI,Nat.add_zero];rw[ay hb]
   .have hk:¬MOST<=`_q:=fun q=>hb (.inl q);have hd:¬above.length<depth:=fun q=>hb (.inr (.inl q));have hm:¬names.contains name=true:=fun q=>hb (.inr (.inr q));have i_:`_q<8:=by have:¬8<=`_q:=hk;omega
    have ok:nU acc 7.4=true:=by
     unfold nU;simp only[f7,vf,om];refine⟨`Å,by rw[<-ha];omega,?_⟩;rw[hn]at hm;simpa using hm
    rw[ay ok];have hl:((base+`_q)::above.drop (above.length-depth)).length=room (acc++[7.4]):=by
     rw[ab'];simp;omega
    obtain⟨rs,e1,l1,l8,e2⟩:=P4 base r (acc++[7.4]) ((base+`_q)::above.drop (above.length-depth)) (name::names) (`_3) hl (fun nm=>by
     have q:=hn nm;simp only[Ds,eY,cK,bE,cY,DC]at q⊢;rw[X6]at q⊢;rw[q];simp[or_comm])
    refine⟨7.4::rs,by rw[e1];simp,by simpa using l1,by simpa using l8,?_⟩;simp only[];rw[aq hb];have el:(acc++[7.4]).length=`_q+1:=`Õ;rw[el]at e2;rw[e2];by_cases cz:`ç<r.length
    .rw[ay cz];simp only[];rw[ay (by simpa using cz)];simp;omega
    .rw[aq cz];simp only[];rw[aq (by simpa using cz)];rfl
def jl:Nat->List bX->Prop
 |_,[]=>True
 |m,r::rs=>r.1<=m/\jl (r.1+1) rs
def P0:∀(ls:List Text)(acc:`û),∃rs,ff acc ls=acc++rs
 |[],acc=>⟨[],by simp[ff]⟩
 |w::r,acc=>by
  unfold ff;split
  .exact⟨[],`Õ⟩
  .rename_i row _
   split
   .obtain⟨rs,e⟩:=P0 r (acc++[row]);exact⟨row::rs,by rw[e];simp⟩
   .exact⟨[],`Õ⟩
def GU:∀(ls:List Text)(acc rs:`û),ff acc ls=acc++rs->jl (room acc) rs
 |[],acc,rs,h=>by
  have:rs=[]:=by simpa [ff]using h
  subst this
  trivial
 |w::r,acc,rs,h=>by
  unfold ff at h;split at h
  .have:rs=[]:='[';subst this
   trivial
  .rename_i row _
   split at h
   .rename_i ok
    cases rs with
    |nil=>trivial
    |cons x xs=>
     obtain⟨ys,e⟩:=P0 r (acc++[row]);rw[e,jz,agb]at h;injection h with h1 h2
     subst h1 h2;have ih:=GU r (acc++[row]) ys e;rw[ab']at ih;unfold nU at ok;simp only[f7,vf]at ok;exact⟨ok.2.1,ih⟩
   .have:rs=[]:='[';subst this
    trivial
def Ĺ:∀(ls:List Text)(acc rs:`û),ff acc ls=acc++rs->`ç=ls.length->ls.map lineOf=rs.map some
 |[],acc,rs,h,hl=>by
  have:rs=[]:=by simpa using hl
  subst this;rfl
 |w::r,acc,rs,h,hl=>by
  unfold ff at h;cases rs with
  |nil=>simp at hl
  |cons x xs=>
   split at h
   .simp at h
   .rename_i row e0
    split at h
    .have h':ff (acc++[row]) r=(acc++[x])++xs:=by rw[h];simp
     have hx:row=x:=by
      obtain⟨ys,e⟩:=P0 r (acc++[row]);rw[e,jz,jz,agb]at h';injection h'
     subst hx;rw[cY,cY,Ĺ r (acc++[row]) xs h' (by simpa using hl),e0]
    .simp at h
def afl(base:Nat):∀(rs:`û)(ls:List Text)(k:Nat)(above:`À),jl above.length rs->ls.map lineOf=rs.map some->(mk base k above rs).map lineText=ls
 |[],ls,k,above,_,h=>by
  have:ls=[]:='[';subst this;rfl
 |r::rs,[],_,_,_,h=>by simp at h
 |r::rs,w::ls,k,above,⟨d1,d2⟩,h=>by
  rw[cY,cY]at h;injection h with h1 h2
  show lineText _::(mk base (k+1) _ rs).map lineText=_;have hl:(2.25).length=r.1+1:=`_3;rw[afl base rs ls (k+1) _ (by rw[hl];exact d2) h2];have:=aow (d:=r.1) (name:=r.2.1) (plus:=r.2.2) h1;rw[this];unfold lineText;show(replicate ((2.25).length-1) 32++r.2.1++(if r.2.2=true then [32,43]else []))::ls=_;rw[hl];rfl
def auz{base:Nat}{w:Text}{rs:`û}(h:ff [] (lines w)=rs)(hl:`ç=(lines w).length):textOf (4.5)=w:=by
 have h':ff [] (lines w)=[]++rs:='[';unfold textOf;rw[afl base rs (lines w) 0 [] (GU _ _ _ h') (Ĺ _ _ _ h' hl),Ĥ]
def after(base:Nat):Nat->List Nat->List bX->List Nat
 |_,above,[]=>above
 |k,above,r::rs=>after base (k+1) (2.25) rs
def G9(base:Nat):∀(xs ys:`û)(k:Nat)(above:`À),mk base k above (xs++ys)=mk base k above xs++mk base (k+`Ã) (after base k above xs) ys
 |[],ys,k,above=>rfl
 |x::xs,ys,k,above=>by
  show _::mk base (k+1) _ (xs++ys)=_::(mk base (k+1) _ xs++_);rw[G9 base xs ys];have:k+1+`Ã=k+(x::xs).length:=`_3;rw[this];rfl
def VH(base:Nat):∀(xs:`û)(k:Nat)(above:`À),(∀a∈above,a<base+k)->∀a∈after base k above xs,a<base+(k+`Ã)
 |[],k,above,h=>h
 |x::xs,k,above,h=>by
  have ih:=VH base xs (k+1) (1.15) (fun a ha=>by
   rcases bE.mp ha with rfl|ha
   .omega
   .have:=h a (pZ ha);omega)
  intro a ha;have:=ih a ha;simp only[cB];omega
def aaO(base:Nat):∀(xs:`û)(k:Nat)(above:`À),(∀a∈above,a<base+k)->∀d∈mk base k above xs,∀x,base+(k+`Ã)<=x+1->¬parent d=some x
 |[],k,above,h=>by simp[mk]
 |x::xs,k,above,h=>by
  intro d hd y hy e;have mC:d=_\/d∈mk base (k+1) (1.15) xs:=bE.mp hd;rcases mC with rfl|hd
  .have:y∈above:=pZ (K2 e);have:=h y this;simp only[cB]at hy;omega
  .refine aaO base xs (k+1) _ (fun a ha=>?_) d hd y (by simp only[cB]at hy;omega) e;rcases bE.mp ha with rfl|ha
   .omega
   .have:=h a (pZ ha);omega
def aaN(base:Nat):∀(xs:`û)(k:Nat)(above:`À)(y:Nat),y<base+k->y∉above->∀d∈mk base k above xs,¬parent d=some y
 |[],k,above,y,_,_=>by simp[mk]
 |x::xs,k,above,y,hy,hn=>by
  intro d hd e;have mC:d=_\/d∈mk base (k+1) (1.15) xs:=bE.mp hd;rcases mC with rfl|hd
  .exact hn (pZ (K2 e))
  .refine aaN base xs (k+1) _ y `È (fun q=>?_) d hd e;rcases bE.mp q with rfl|q
   .omega
   .exact hn (pZ q)
def tR(rs:`û)(i:Nat):Bool:=match rs[i]?,rs[i+1]? with
 |some a,some b=>decide (a.1<b.1)
 |_,_=>false
def MV:∀(xs:`û)(r:bX)(ys:`û)(m:Nat),jl m (xs++r::ys)->∃m',jl m' (r::ys)/\m'=(if xs=[]then m else room xs)
 |[],r,ys,m,h=>⟨m,h,rfl⟩
 |x::xs,r,ys,m,h=>by
  obtain⟨m',a,b⟩:=MV xs r ys (x.1+1) h.2;refine⟨m',a,?_⟩;rw[aq (by simp),b];cases xs with
  |nil=>rfl
  |cons y ys=>
   rw[aq (by simp)];unfold room;simp[agf]
def L4(base:Nat):∀(xs:`û)(k:Nat)(above:`À),jl above.length xs->(after base k above xs).length=(if xs=[]then above.length else room xs)
 |[],k,above,_=>rfl
 |x::xs,k,above,⟨h1,h2⟩=>by
  have hl:(1.15).length=x.1+1:=`_3;have ih:=L4 base xs (k+1) (1.15) (by rw[hl];exact h2);rw[aq (by simp)];show(after base (k+1) _ xs).length=_;rw[ih,hl];cases xs with
  |nil=>rfl
  |cons y ys=>
   rw[aq (by simp)];unfold room;simp[agf]
def MW:∀(xs ys:`û)(m:Nat),jl m (xs++ys)->jl m xs
 |[],_,_,_=>trivial
 |x::xs,ys,m,h=>⟨h.1,MW xs ys _ h.2⟩
def ar'(base:Nat)(xs:`û)(r:bX)(ys:`û)(h:jl 0 (xs++r::ys)):
 ((mk base 0 [] (xs++r::ys)).any fun d=>parent d==some (base+`Ã))=tR (xs++r::ys) `Ã:=by
 have hA:∀a∈after base 0 [] xs,a<base+(0+`Ã):=VH base xs 0 [] `Ç;have Y4:(after base 0 [] xs).length=if xs=[]then 0 else room xs:=L4 base xs 0 [] (MW xs (r::ys) 0 h);obtain⟨m',hd,em⟩:=MV xs r ys 0 h;rw[<-em]at Y4;have hp:tR (xs++r::ys) `Ã=match ys with|[]=>false|b::_=>decide (r.1<b.1):=by
  unfold tR;have e1:(xs++r::ys)[`Ã]? =some r:=`Õ;have e2:(xs++r::ys)[`Ã+1]? =ys[0]? :=by rw[oz (by omega)];simp
  rw[e1,e2];cases ys<;>rfl
 rw[hp,G9,UX];have h0:((mk base 0 [] xs).any fun d=>parent d==some (base+`Ã))=false:=by
  rw[sO];intro d vA e;exact aaO base xs 0 [] `Ç d vA _ `È (eq_of_beq e)
 rw[h0,oj];generalize jJ:after base 0 [] xs=above at hA Y4;show((_::mk base (0+`Ã+1) ((base+(0+`Ã))::above.drop 0.45) ys).any _)=_;rw[k_];have h1:(parent {number:=base+(0+`Ã),name:=r.2.1,chain:=(base+(0+`Ã))::above.drop 0.45,whole:=r.2.2}==some (base+`Ã))=false:=by
  rw[gO];intro e;have:=hA _ (pZ (K2 e));omega
 rw[h1,oj,DK];rw[DK]at hA;have cD:(5.9).length=r.1+1:=by
  have:=hd.1;simp;omega
 cases ys with
 |nil=>rfl
 |cons b ys=>
  have hb:=hd.2.1;show((_::mk base (`Ã+1+1) ((base+(`Ã+1))::(5.9).drop ((5.9).length-b.1)) ys).any _)=decide (r.1<b.1);rw[k_];by_cases cz:r.1<b.1
  .rw[g_ cz];have:3.69=true:=by
    have e0:(5.9).length-b.1=0:=by rw[cD];omega
    rw[e0];unfold parent;simp
   rw[this,Bool.true_or]
  .rw[eN cz];have ZC:base+`Ã∉(5.9).drop ((5.9).length-b.1):=by
    intro q;rw[cD,show r.1+1-b.1=(r.1-b.1)+1 by omega,UZ]at q;have:=hA _ (pZ (pZ q));omega
   have h2:3.69=false:=by
    rw[gO];intro e;exact ZC (K2 e)
   rw[h2,oj,sO];intro d vA e;refine aaN base ys (`Ã+1+1) _ (base+`Ã) `È (fun q=>?_) d vA (eq_of_beq e);rcases bE.mp q with q|q
   .omega
   .exact ZC q
def ś(base:Nat)(xs:`û)(r:bX)(ys:`û):∃ch,(mk base 0 [] (xs++r::ys))[`Ã]? =some {number:=base+`Ã,name:=r.2.1,chain:=ch,whole:=r.2.2}:=by
 rw[G9,oz (by rw[mE];exact bp _),mE,uZ,DK];exact `_o
def j5(rs:`û)(i:Nat):Bool:=match rs[i]? with
 |some r=>r.2.2&&!tR rs i
 |none=>false
def SO{α:Type}{l:`ċ}{i:Nat}{x:α}(h:l[i]? =some x):∃xs ys,l=xs++x::ys/\`Ã=i:=by
 obtain⟨hi,e⟩:=dM.mp h;refine⟨l.take i,l.drop (i+1),?_,`_3⟩;rw[<-e,List.getElem_cons_drop,Vb]
def GC{base:Nat}{rs:`û}(h:jl 0 rs){i:Nat}{c:Concept}(hc:(4.5)[i]? =some c):(c.whole&&!((4.5).any fun d=>parent d==some c.number))=j5 rs i/\c.number=base+i:=by
 have hi:i<`ç:=by
  have:=(dM.mp hc).1;rw[mE]at this;exact this
 obtain⟨xs,ys,e,el⟩:=SO (jU hi);generalize hr:rs[i]=r at e;subst el;rw[e]at hc h⊢;obtain⟨ch,e1⟩:=ś base xs r ys;rw[e1]at hc;have gn:=bZ hc;subst gn;refine⟨?_,rfl⟩;show(r.2.2&&!_)=_;rw[ar' base xs r ys h];unfold j5;simp
def amc{base:Nat}{rs:`û}(h:jl 0 rs)(hn:∀i,i<`ç->j5 rs i=false):idle (4.5)=none:=by
 unfold idle;rw[uO];intro c hc;obtain⟨i,hi⟩:=sQ hc;have hl:i<`ç:=by
  have:=(dM.mp hi).1;rw[mE]at this;exact this
 rw[(GC h hi).1,hn i hl];simp
def amd{base:Nat}{rs:`û}(h:jl 0 rs){i:Nat}(hi:j5 rs i=true)(hn:∀j,j<i->j5 rs j=false):∃c,idle (4.5)=some c/\c.number=base+i:=by
 have hl:i<`ç:=by
  refine qP fun q=>?_;unfold j5 at hi;rw[uQ (by omega)]at hi;cases hi
 obtain⟨c,hc⟩:∃c,(4.5)[i]? =some c:=⟨_,jU (by rw[mE];exact hl)⟩;refine⟨c,?_,(GC h hc).2⟩;unfold idle;rw[agc];refine⟨by rw[(GC h hc).1,hi],i,(dM.mp hc).1,(dM.mp hc).2,fun j hj=>?_⟩;have O6:j<(4.5).length:=by rw[mE];omega
 have hj':(4.5)[j]? =some (4.5)[j]:=jU O6;rw[(GC h hj').1,hn j hj];rfl
end TM
end
section
namespace TL
open Vbnlak
def aT:List (`À)->(`Ě)->Nat
 |[],_=>0
 |c::r,f=>(f c).toNat+2*aT r f
def lz:∀(l:`ì)(f:`Ě)(i:Nat),(aT l f).testBit i=(l[i]?.any f)
 |[],f,i=>by simp[aT]
 |c::r,f,0=>by
  simp[aT,Nat.testBit_zero];cases f c<;>simp[Nat.add_mod]
 |c::r,f,i+1=>by
  rw[Nat.testBit_succ];have e:(aT (c::r) f)/2=aT r f:=by
   show((f c).toNat+2*aT r f)/2=aT r f;cases f c<;>simp[Bool.toNat]<;>omega
  rw[e,lz r f i];simp
def s_(l:`ì)(f g:`Ě):aT l f&&&aT l g=aT l fun x=>f x&&g x:=by
 apply Lf;intro i;rw[Nat.testBit_and,lz,lz,lz];cases l[i]? <;>simp
def yq(l:`ì)(f g:`Ě):aT l f^^^aT l g=aT l fun x=>f x^^g x:=by
 apply Lf;intro i;rw[Nat.testBit_xor,lz,lz,lz];cases l[i]? <;>simp
def Wc(l:`ì)(f g:`Ě):aT l f|||aT l g=aT l fun x=>f x||g x:=by
 apply Lf;intro i;rw[Nat.testBit_or,lz,lz,lz];cases l[i]? <;>simp
def qf{l:`ì}{f g:`Ě}(h:∀x∈l,f x=g x):aT l f=aT l g:=by
 induction l with
 |nil=>rfl
 |cons c r ih=>simp only[aT];rw[h c (by simp),ih fun x hx=>h x (by simp[hx])]
def ajd(l:`ì):aT l (fun _=>true)+1=2^`Û:=by
 induction l with
 |nil=>rfl
 |cons c r ih=>simp only[aT,cB,Nat.pow_succ];simp;omega
def AH(l:`ì)(f:`Ě):aT l f=0↔l.any f=false:=by
 induction l with
 |nil=>simp[aT]
 |cons c r ih=>
  simp only[aT,k_];cases f c with
  |true=>simp
  |false=>rw[oj,<-ih];simp[Bool.toNat];omega
def Wb(l:`ì)(f g:`Ě):aT l f=aT l g↔∀x∈l,f x=g x:=by
 constructor
 .intro h x hx;obtain⟨i,hi⟩:=sQ hx;have:=fv (fun n=>n.testBit i) h;simpa [lz,hi]using this
 .exact qf
abbrev WD:=Nat×List Nat
def jN(S:Nat)(ns:`À):Bool:=ns.all fun n=>(S&&&n) !=0
def without(S O:Nat):Nat:=S^^^(S&&&O)
def sx(f g:Nat)(r:Rel):List (Nat×Bool):=[(f&&&g,(parts r).1),(f^^^(f&&&g),(parts r).2.1),(g^^^(f&&&g),(parts r).2.2)]
def gf(f g:Nat)(r:Rel):WD:=(((sx f g r).filter fun p=>!p.2).foldl (fun b p=>b|||p.1) 0,((sx f g r).filter fun p=>p.2).map (·.1))
def gI(w d:WD):Option WD:=
 let S:=without w.1 d.1
 if jN S d.2=false then none else if S≠w.1/\jN S w.2=false then none else some (S,w.2++d.2)
def gw(whole:Nat)(aau:`À):List WD:=if jN whole aau=true then [(whole,aau)]else []
def lO(ws ds:List WD):List WD:=ws.flatMap fun w=>ds.filterMap (gI w)
def xc(ext:Nat->Nat)(ws:List WD)(told:`č):List WD:=told.foldl (fun ws t=>lO ws ((relsOf t.mask).map fun r=>gf (ext t.c) (ext t.d) r)) ws
def nW(o:One):List (`Ě):=
 (if(parts o.r).1 then [fun x=>x.contains o.c&&x.contains o.d]else [])++(if(parts o.r).2.1 then [fun x=>x.contains o.c&&!x.contains o.d]else [])++(if(parts o.r).2.2 then [fun x=>!x.contains o.c&&x.contains o.d]else [])
def jF(s:State)(aU:`ÿ)(l:`_X):List (`Ě):=(`_T).map (fun c x=>x.contains c)++aU.map (fun r x=>fits r x)++l.flatMap nW
def fe(l:`_X)(x:`À):Bool:=l.all fun o=>lets o x
def L9(s:State)(l:`_X)(p:`Ě):(world s l).any p=(cells s).any fun x=>fe l x&&p x:=by
 unfold world fe;rw[List.any_filter]
def BU(a b:Bool)(p:Bool×Bool×Bool):Bool:=match a,b with
 |true,true=>p.1
 |true,false=>p.2.1
 |false,true=>p.2.2
 |false,false=>true
def Ŀ(o:One)(x:`À):lets o x=BU (x.contains o.c) (x.contains o.d) (parts o.r):=rfl
def aaF(s:State)(l:`_X)(o:One)(ho:o∈l):(someIn (world s l) o.c o.d==parts o.r)=(nW o).all fun p=>(world s l).any p:=by
 have o8:∀x∈world s l,BU (x.contains o.c) (x.contains o.d) (parts o.r)=true:=by
  intro x hx;unfold world at hx;exact f_.mp (iU.mp hx).2 o ho
 generalize world s l=W at o8;unfold someIn nW;have h1:(parts o.r).1=false->(W.any fun x=>x.contains o.c&&x.contains o.d)=false:=fun h=>by
  rw[sO];show `_ap
 have h2:(parts o.r).2.1=false->(W.any fun x=>x.contains o.c&&!x.contains o.d)=false:=fun h=>by
  rw[sO];show `_ap
 have h3:(parts o.r).2.2=false->(W.any fun x=>!x.contains o.c&&x.contains o.d)=false:=fun h=>by
  rw[sO];show `_ap
 revert h1 h2 h3;generalize parts o.r=pr;rcases pr with⟨p,q,r⟩;cases p<;>cases q<;>cases r<;>simp only[nI,pq,z_,p6,i6,xH,m9,List.all_nil,Tz,reduceCtorEq,false_implies,true_implies]<;>
  (
   generalize(W.any fun x=>x.contains o.c&&x.contains o.d)=A;generalize(W.any fun x=>x.contains o.c&&!x.contains o.d)=B;generalize(W.any fun x=>!x.contains o.c&&x.contains o.d)=C;cases A<;>cases B<;>cases C<;>simp)
def CV(s:State)(aU:`ÿ)(l:`_X):stands s aU l=(jF s aU l).all fun p=>(cells s).any fun x=>fe l x&&p x:=by
 unfold stands jF;simp only[xG,qV,List.all_flatMap,Ae];have e:(l.all fun o=>someIn (world s l) o.c o.d==parts o.r)=l.all fun o=>(nW o).all fun p=>(cells s).any fun x=>fe l x&&p x:=by
  apply kr.mpr;rw[f_,f_];constructor
  .intro h o ho;have:=h o ho;rw[aaF s l o ho]at this;simpa only[L9]using this
  .intro h o ho;rw[aaF s l o ho];simpa only[L9]using h o ho
 rw[e];simp only[L9];rw[xw];congr 1;exact Bool.and_comm _ _
def Wo(t:Told):∀l:List Told,choices (l++[t])=(choices l).flatMap fun c=>(relsOf t.mask).map fun r=>c++[{c:=t.c,d:=t.d,r:=r}]
 |[]=>by simp[choices,List.flatMap_singleton',List.flatMap];induction relsOf t.mask<;>simp_all
 |u::l=>by
  simp only[xH,choices];rw[Wo t l];simp only[List.flatMap_assoc,DB,U1,bP,Ae,xH]
def Z0(l:`_X)(o:One)(x:`À):fe (l++[o]) x=(fe l x&&lets o x):=by simp[fe]
def VQ(s:State)(aU:`ÿ)(l:`_X)(o:One):jF s aU (l++[o])=jF s aU l++nW o:=by simp[jF]
def adu(s:State)(aU:`ÿ)(l:`_X)(o:One)(h:stands s aU (l++[o])=true):stands s aU l=true:=by
 rw[CV,VQ,xG,f7]at h;rw[CV,f_];intro p hp;have:=f_.mp h.1 p hp;rw[i5]at this⊢;obtain⟨x,hx,q⟩:=this;refine⟨x,hx,?_⟩;rw[Z0]at q;simp only[f7]at q⊢;exact⟨q.1.1,q.2⟩
def wd(s:State)(aU:`ÿ)(l:`_X):WD:=(aT `_a (fe l),(jF s aU l).map (aT `_a))
def ext(s:State)(c:Nat):Nat:=aT `_a fun x=>x.contains c
def Qe(cs:`ì)(f:`Ě)(ps:List (`Ě)):jN (aT cs f) (ps.map (aT cs))=ps.all fun p=>cs.any fun x=>f x&&p x:=by
 unfold jN;rw[qV];congr 1
 funext p
 simp only[Function.comp];rw[s_];cases e:cs.any fun x=>f x&&p x with
 |false=>rw[(AH _ _).mpr e];rfl
 |true=>
  have:aT cs (fun x=>f x&&p x)≠0:=fun h=>by rw[(AH _ _).mp h]at e;cases e
  simpa using this
def ajV(s:State)(o:One):(2.21).2=(nW o).map (aT `_a):=by
 unfold gf sx nW ext;rw[s_,yq,yq];have e1:aT `_a (fun x=>x.contains o.c^^(x.contains o.c&&x.contains o.d))=aT `_a fun x=>x.contains o.c&&!x.contains o.d:=2.85;have e2:aT `_a (fun x=>x.contains o.d^^(x.contains o.c&&x.contains o.d))=aT `_a fun x=>!x.contains o.c&&x.contains o.d:=2.85;rw[e1,e2];rcases parts o.r with⟨p,q,r⟩;cases p<;>cases q<;>cases r<;>rfl
def ajU(s:State)(l:`_X)(o:One):without (aT `_a (fe l)) (2.21).1=aT `_a (fe (l++[o])):=by
 have hb:(2.21).1=aT `_a fun x=>!lets o x:=by
  unfold gf sx ext;rw[s_,yq,yq];have e0:(0:Nat)=aT `_a fun _=>false:=((AH _ _).mpr `Ç).symm;have key:∀(f:`Ě),(∀x,f x=!lets o x)->aT `_a f=aT `_a fun x=>!lets o x:=fun f h=>qf fun x _=>h x;simp only[Ŀ];simp only[Ŀ]at key;generalize parts o.r=pr at key;rcases pr with⟨p,q,r⟩;rw[e0];cases p<;>cases q<;>cases r<;>simp only[filter,Bool.not_true,Bool.not_false,List.foldl,Wc]<;>
   exact 2.85
 unfold without;rw[hb,s_,yq];refine qf fun x _=>?_;rw[Z0];cases fe l x<;>cases lets o x<;>rfl
def aas(s:State)(aU:`ÿ)(l:`_X)(o:One)(h:stands s aU l=true):
 gI (wd s aU l) (2.21)=if stands s aU (l++[o])=true then some (wd s aU (l++[o]))else none:=by
 unfold gI wd;simp only[];rw[ajU,ajV,Qe,Qe];rw[CV]at h;rw[CV,VQ,xG];by_cases e:aT `_a (fe (l++[o]))=aT `_a (fe l)
 .have hw:∀x∈cells s,fe (l++[o]) x=fe l x:=(Wb _ _ _).mp e;have h':((jF s aU l).all fun p=>(cells s).any fun x=>fe (l++[o]) x&&p x)=true:=by
   rw[<-h];congr 1
   funext p
   rw[kr,i5,i5];constructor
   .rintro⟨x,hx,q⟩;exact⟨x,hx,by rw[<-hw x hx];exact q⟩
   .rintro⟨x,hx,q⟩;exact⟨x,hx,by rw[hw x hx];exact q⟩
  rw[h'];cases(nW o).all fun p=>(cells s).any fun x=>fe (l++[o]) x&&p x with
  |false=>simp
  |true=>simp[e,eY]
 .cases(nW o).all fun p=>(cells s).any fun x=>fe (l++[o]) x&&p x with
  |false=>simp
  |true=>
   cases(jF s aU l).all fun p=>(cells s).any fun x=>fe (l++[o]) x&&p x with
   |false=>simp[e]
   |true=>simp[eY]
def alb(s:State)(aU:`ÿ):gw (aT `_a fun _=>true) ((jF s aU []).map (aT `_a))=((choices []).filter 7.3).map (wd s aU):=by
 unfold gw;have e:aT `_a (fun _=>true)=aT `_a (fe []):=qf fun x _=>rfl;rw[e,Qe,<-CV];cases h:stands s aU []with
 |false=>simp[choices,h]
 |true=>simp[choices,h,wd]
def apY(s:State)(aU:`ÿ)(t:Told)(ls:List (`_X))(h:∀l∈ls,stands s aU l=true):
 lO (ls.map (wd s aU)) ((relsOf t.mask).map fun r=>gf (ext s t.c) (ext s t.d) r)=((ls.flatMap fun c=>(relsOf t.mask).map fun r=>c++[{c:=t.c,d:=t.d,r:=r}]).filter 7.3).map (wd s aU):=by
 induction ls with
 |nil=>rfl
 |cons l ls ih=>
  have ZY:=ih fun l hl=>h l (by simp[hl]);unfold lO at ZY⊢;rw[cY,oy,ZY,oy,xJ,eY];congr 1;have hl:=h l `Ç
  induction relsOf t.mask with
  |nil=>rfl
  |cons r rs ih2=>
   have e:=aas s aU l {c:=t.c,d:=t.d,r:=r} hl;simp only[cY,gD,kt];rw[e,ih2];by_cases hs:stands s aU (l++[{c:=t.c,d:=t.d,r:=r}])=true
   .simp[hs]
   .simp[hs]
def aun(s:State)(aU:`ÿ)(told:`č):
 xc (ext s) 1.60 told=(1.97).map (wd s aU):=by
 suffices H:∀n (told:`č),told.length=n->xc (ext s) 1.60 told=(1.97).map (wd s aU)from H _ told rfl
 intro n
 induction n with
 |zero=>
  intro told h;have:told=[]:=Dz.mp h;subst this;exact alb s aU
 |succ n ih=>
  intro told h;obtain⟨l,t,rfl⟩:∃l t,told=l++[t]:=by
   have cQ:told≠[]:=by intro e;subst e;simp at h
   exact⟨told.dropLast,told.getLast cQ,(UY cQ).symm⟩
  have hl:`Û=n:=by simp at h;exact h
  have e:xc (ext s) 1.60 (l++[t])=lO (xc (ext s) 1.60 l) ((relsOf t.mask).map fun r=>gf (ext s t.c) (ext s t.d) r):=by
   unfold xc;rw[ng];rfl
  rw[e,ih l hl,apY s aU t _ fun c hc=>(iU.mp hc).2,Wo];congr 1;clear e h hl ih
  induction choices l with
  |nil=>rfl
  |cons c cs ih=>
   rw[kt,oy,xJ];by_cases hs:stands s aU c=true
   .rw[ay hs,oy,xJ,ih]
   .rw[aq hs,ih];have:((relsOf t.mask).map fun r=>c++[{c:=t.c,d:=t.d,r:=r}]).filter 7.3=[]:=by
     rw[List.filter_eq_nil_iff];intro y hy;obtain⟨r,_,rfl⟩:=cw.mp hy;exact fun q=>hs (adu s aU c _ q)
    rw[this];rfl
def aa3(s:State)(aU:`ÿ)(told:`č):possible s told aU=!((1.97).map (wd s aU)).isEmpty:=by
 unfold possible;rw[Dy,kr,i5];constructor
 .rintro⟨x,hx,h⟩;have:x∈(choices told).filter 7.3:=iU.mpr ⟨hx,h⟩;cases e:(choices told).filter 7.3 with
  |nil=>rw[e]at this;cases this
  |cons=>rfl
 .intro h;cases e:(choices told).filter 7.3 with
  |nil=>rw[e]at h;cases h
  |cons x _=>
   have:x∈(choices told).filter 7.3:=by rw[e];simp
   exact⟨x,iU.mp this⟩
def ak3(s:State)(c d:Nat)(r:Rel):
 (((choices s.told).filter (stands s `á)).map (wd s `á)).any (fun w=>(gI w (gf (ext s c) (ext s d) r)).isSome)=(choices s.told).any fun l=>stands s s.records 2.50:=by
 rw[An]
 induction choices s.told with
 |nil=>rfl
 |cons l ls ih=>
  rw[kt,k_];by_cases hs:stands s s.records l=true
  .rw[ay hs,k_,ih];congr 1;have e:=aas s s.records l {c:=c,d:=d,r:=r} hs;simp only[Function.comp];rw[e];by_cases h2:stands s s.records 2.50=true
   .simp[h2]
   .simp[h2]
  .rw[aq hs,ih];have:stands s s.records 2.50=false:=by
    cases q:stands s s.records 2.50 with
    |false=>rfl
    |true=>exact absurd (adu _ _ _ _ q) hs
   rw[this,oj]
end TL
end
section
namespace TM
def au4(c:List (`Ê)):PyVbnlak.whole c=c:=by
 unfold PyVbnlak.whole;split<;>rfl
inductive jW:List (List Int)->List Int->List Int->Prop where
 |load (side:Int) (w t:List Int) (h1:w.length<=4096) (h2:∀z∈w,0<=z/\z<256):jW [[0,side],w] (0::side::(w.length:Int)::(w++t)) t
 |show(side:Int) (t:List Int):jW [[1,side]] (1::side::t) t
 |tell (key c d mask:Int) (t:List Int):jW [[2,key,c,d,mask]] (2::key::c::d::mask::t) t
 |withdraw (key:Int) (t:List Int):jW [[3,key]] (3::key::t) t
 |record (key:Int) (a b t:List Int) (h1:a.length<=16) (h2:b.length<=16):jW [[4,key],a,b] (4::key::(a.length:Int)::(a++(b.length:Int)::(b++t))) t
 |drop (key:Int) (t:List Int):jW [[5,key]] (5::key::t) t
 |quick (t:List Int):jW [[6]] (6::t) t
 |exact(c d:Int) (t:List Int):jW [[7,c,d]] (7::c::d::t) t
 |matrix (t:List Int):jW [[8]] (8::t) t
 |model (t:List Int):jW [[9]] (9::t) t
 |conflict (t:List Int):jW [[10]] (10::t) t
 |translate (c:Int) (t:List Int):jW [[11,c]] (11::c::t) t
 |placed (key:Int) (t:List Int):jW [[12,key]] (12::key::t) t
 |built (t:List Int):jW [[13]] (13::t) t
def Si{r x s:`Ê}(h:PyFlat.row r=some (x,s)):r=(x.length:Int)::(x++s):=by
 cases r with
 |nil=>cases h
 |cons n r=>
  simp only[PyFlat.row]at h;split at h
  .rename_i q
   injection h with h
   injection h with h1 h2
   subst h1 h2;rw[Vb];congr 1;simp;omega
  .cases h
def auv{r:`Ê}{n:Nat}(h:¬r.length<n):∃xs t,r=xs++t/\`Ã=n/\r.take n=xs/\r.drop n=t:=
 ⟨r.take n,r.drop n,(Vb n r).symm,`_3,rfl,rfl⟩
def vS{xs:`Ê}(h:`Ã=1):∃a,xs=[a]:=by
 match xs,h with
 |[a],_=>exact⟨a,rfl⟩
def aor{xs:`Ê}(h:`Ã=2):∃a b,xs=[a,b]:=by
 match xs,h with
 |[a,b],_=>exact⟨a,b,rfl⟩
def aos{xs:`Ê}(h:`Ã=4):∃a b c d,xs=[a,b,c,d]:=by
 match xs,h with
 |[a,b,c,d],_=>exact⟨a,b,c,d,rfl⟩
def ap2{z:Int}(h:natural z 8=true):0<=z/\z<256:=by
 unfold natural at h;simp at h;exact h
def at5{p:Int}{n k:Nat}(es:0.29 p=some (n,k)):(p=0/\n=1/\k=1)\/(p=1/\n=1/\k=0)\/(p=2/\n=4/\k=0)\/(p=3/\n=1/\k=0)\/(p=4/\n=1/\k=2)\/(p=5/\n=1/\k=0)\/(p=6/\n=0/\k=0)\/(p=7/\n=2/\k=0)\/(p=8/\n=0/\k=0)\/(p=9/\n=0/\k=0)\/(p=10/\n=0/\k=0)\/(p=11/\n=1/\k=0)\/(p=12/\n=1/\k=0)\/(p=13/\n=0/\k=0):=by
 unfold PyVbnlak.shape at es;by_cases h0:p=0
 .rw[ay h0]at es;injection es with es;injection es with a b;subst a b h0;simp
 rw[aq h0]at es;by_cases h1:p=1
 .rw[ay h1]at es;injection es with es;injection es with a b;subst a b h1;simp
 rw[aq h1]at es;by_cases h2:p=2
 .rw[ay h2]at es;injection es with es;injection es with a b;subst a b h2;simp
 rw[aq h2]at es;by_cases h3:p=3
 .rw[ay h3]at es;injection es with es;injection es with a b;subst a b h3;simp
 rw[aq h3]at es;by_cases h4:p=4
 .rw[ay h4]at es;injection es with es;injection es with a b;subst a b h4;simp
 rw[aq h4]at es;by_cases h5:p=5
 .rw[ay h5]at es;injection es with es;injection es with a b;subst a b h5;simp
 rw[aq h5]at es;by_cases h6:p=6
 .rw[ay h6]at es;injection es with es;injection es with a b;subst a b h6;simp
 rw[aq h6]at es;by_cases h7:p=7
 .rw[ay h7]at es;injection es with es;injection es with a b;subst a b h7;simp
 rw[aq h7]at es;by_cases h8:p=8
 .rw[ay h8]at es;injection es with es;injection es with a b;subst a b h8;simp
 rw[aq h8]at es;by_cases h9:p=9
 .rw[ay h9]at es;injection es with es;injection es with a b;subst a b h9;simp
 rw[aq h9]at es;by_cases OI:p=10
 .rw[ay OI]at es;injection es with es;injection es with a b;subst a b OI;simp
 rw[aq OI]at es;by_cases OJ:p=11
 .rw[ay OJ]at es;injection es with es;injection es with a b;subst a b OJ;simp
 rw[aq OJ]at es;by_cases OL:p=12
 .rw[ay OL]at es;injection es with es;injection es with a b;subst a b OL;simp
 rw[aq OL]at es;by_cases OM:p=13
 .rw[ay OM]at es;injection es with es;injection es with a b;subst a b OM;simp
 rw[aq OM]at es;cases es
def ajf{l:`Ê}{c:List (`Ê)}{t:`Ê}(h:PyFlat.call 0.29 l=some (c,t))(ha:asked1 c=true):jW c l t:=by
 cases l with
 |nil=>cases h
 |cons p r=>
  simp only[PyFlat.call]at h;cases es:0.29 p with
  |none=>rw[es]at h;cases h
  |some nk=>
   obtain⟨n,k⟩:=nk;rw[es]at h;simp only[]at h;split at h
   .cases h
   .rename_i hl
    obtain⟨xs,t',e,el,e1,e2⟩:=auv hl;rw[e1,e2]at h;subst e;have key:=at5 es;rcases key with⟨rfl,rfl,rfl⟩|⟨rfl,rfl,rfl⟩|⟨rfl,rfl,rfl⟩|⟨rfl,rfl,rfl⟩|⟨rfl,rfl,rfl⟩|⟨rfl,rfl,rfl⟩|⟨rfl,rfl,rfl⟩|⟨rfl,rfl,rfl⟩|⟨rfl,rfl,rfl⟩|⟨rfl,rfl,rfl⟩|⟨rfl,rfl,rfl⟩|⟨rfl,rfl,rfl⟩|⟨rfl,rfl,rfl⟩|⟨rfl,rfl,rfl⟩
    .obtain⟨a,rfl⟩:=vS el;unfold PyFlat.rows at h;cases er:PyFlat.row t' with
     |none=>rw[er]at h;cases h
     |some q=>
      obtain⟨x,s⟩:=q;rw[er]at h;simp only[PyFlat.rows]at h;injection h with h
      injection h with h1 h2
      subst h1 h2;have:=Si er;subst this;have vx:(whole32 a&&((x.all (fun(z:Int)=>natural z 8)&&decide (x.length<=4096))))=true:=ha;rw[f7,f7,f_,vf]at vx;exact .load a x s vx.2.2 fun z hz=>ap2 (vx.2.1 z hz)
    .show `_by;exact .show a t'
    .obtain⟨a,b,c,d,rfl⟩:=aos el;show `_ad;exact .tell a b c d t'
    .show `_by;exact .withdraw a t'
    .obtain⟨a,rfl⟩:=vS el;unfold PyFlat.rows at h;cases er:PyFlat.row t' with
     |none=>rw[er]at h;cases h
     |some q=>
      obtain⟨x,s⟩:=q;rw[er]at h;simp only[PyFlat.rows]at h;cases vk:PyFlat.row s with
      |none=>rw[vk]at h;cases h
      |some q=>
       obtain⟨y,u⟩:=q;rw[vk]at h;simp only[]at h;injection h with h
       injection h with h1 h2
       subst h1 h2;have q1:=Si er;have q2:=Si vk;subst q2;subst q1;have vx:(whole32 a&&((x.all (fun(z:Int)=>whole32 z)&&decide (x.length<=16))&&((y.all (fun(z:Int)=>whole32 z)&&decide (y.length<=16)))))=true:=ha;simp only[f7,vf]at vx;exact .record a x y u vx.2.1.2 vx.2.2.2
    .show `_by;exact .drop a t'
    .have:xs=[]:=by simpa using el
     subst this;show `_ad;exact .quick t'
    .obtain⟨a,b,rfl⟩:=aor el;show `_ad;exact .exact a b t'
    .have:xs=[]:=by simpa using el
     subst this;show `_ad;exact .matrix t'
    .have:xs=[]:=by simpa using el
     subst this;show `_ad;exact .model t'
    .have:xs=[]:=by simpa using el
     subst this;show `_ad;exact .conflict t'
    .show `_by;exact .translate a t'
    .show `_by;exact .placed a t'
    .have:xs=[]:=by simpa using el
     subst this;show `_ad;exact .built t'
inductive uN:List (List (List Int))->List Int->Prop where
 |nil:uN [] []
 |cons {c:List (List Int)} {l t:List Int} {cs:List (List (List Int))} (h:jW c l t) (r:uN cs t):uN (c::cs) l
def We:∀(f:Nat)(l:`Ê)(cs:List (List (`Ê))),calls 0.29 f l=some cs->(∀c∈cs,asked1 c=true)->uN cs l
 |f,[],cs,h,_=>by
  have:cs=[]:=by cases f<;>simpa [calls,eq_comm]using h
  subst this;exact .nil
 |0,p::r,cs,h,_=>by simp[calls]at h
 |f+1,p::r,cs,h,ha=>by
  simp only[calls]at h;cases ec:PyFlat.call 0.29 (p::r)with
  |none=>rw[ec]at h;cases h
  |some q=>
   obtain⟨c,t⟩:=q;rw[ec]at h;simp only[]at h;cases ed:calls 0.29 f t with
   |none=>rw[ed]at h;cases h
   |some ds=>
    rw[ed]at h;simp only[]at h;injection h with h
    subst h;exact .cons (ajf ec (ha c im)) (We f t ds ed fun c hc=>ha c (gr _ hc))
def aix{l:`Ê}(h:PyVbnlak.answers_asked l=true):∃cs,uN cs l/\`ë<=400/\PyVbnlak.answers l=PyFlat.told (played 1.48 VbnlakNeutral.start cs):=by
 unfold PyVbnlak.answers_asked at h;unfold PyVbnlak.answers;unfold PyVbnlak.calls at h⊢;cases e:calls 0.29 l.length l with
 |none=>rw[e]at h;cases h
 |some cs=>
  rw[e]at h;simp only[]at h⊢;have ew:cs.map PyVbnlak.whole=cs:=by
   have:PyVbnlak.whole=id:=funext au4;rw[this,List.map_id]
  rw[ew]at h⊢;rw[f7]at h;have h1:`ë<=400:=by
   have:=h.1;unfold PyFlat.atMost at this;exact lP this
  have h2:∀c∈cs,asked1 c=true:=by
   have:=h.2;unfold VbnlakNeutral.asked at this;rw[f7,f_]at this;exact this.1
  exact⟨cs,We _ _ _ e h2,h1,rfl⟩
end TM
end
namespace TL
open PySem PySem.Spec PyProof.Rows L2
open Vbnlak (Told Rec State Concept)
local macro_rules|`(tactic|walk_at "b0")=>`(tactic|exact fun _ _ _ _ _ _ _ _ us hl=>match us,hl with|[],_=>rfl)
local macro_rules|`(tactic|walk_at "b1")=>`(tactic|exact fun _ _ _ _ _ _ _ _ us hl=>match us,hl with|[_],_=>rfl)
local macro_rules|`(tactic|walk_at "b2")=>`(tactic|exact fun _ _ _ _ _ _ _ _ us hl=>match us,hl with|[_,_],_=>rfl)
local macro_rules|`(tactic|walk_at "b3")=>`(tactic|exact fun _ _ _ _ _ _ _ _ us hl=>match us,hl with|[_,_,_],_=>rfl)
local macro_rules|`(tactic|walk_at "b4")=>`(tactic|exact fun _ _ _ _ _ _ _ _ us hl=>match us,hl with|[_,_,_,_],_=>rfl)
local macro_rules|`(tactic|walk_at "b5")=>`(tactic|exact fun _ _ _ _ _ _ _ _ us hl=>match us,hl with|[_,_,_,_,_],_=>rfl)
local macro_rules|`(tactic|walk_at "b6")=>`(tactic|exact fun _ _ _ _ _ _ _ _ us hl=>match us,hl with|[_,_,_,_,_,_],_=>rfl)
local macro_rules|`(tactic|walk_at "b7")=>`(tactic|exact fun _ _ _ _ _ _ _ _ us hl=>match us,hl with|[_,_,_,_,_,_,_],_=>rfl)
local macro_rules|`(tactic|walk_at "bb")=>`(tactic|first|walk_at "b0"|walk_at "b1"|walk_at "b2"|walk_at "b3"|walk_at "b4"|walk_at "b5"|walk_at "b6"|walk_at "b7")
abbrev BA(st:Stmt)(ps:`ô):Prop:=∀(x qual:Str)(kV doc pm:Value)(an:5.7)(dk ct:Value)(us:`Ì),us.length=`_z->bindArgs 0.97 ⟨us,[]⟩=pure (ps.zip us)
theorem bd{st:Stmt}{ps:`ô}(h:BA st ps){K:Frag}{x qual:Str}{f:Addr}{fd:`ě}(F:0.73):i4 K fd ps []:=F.vb (h x qual)
theorem c5{p:Shared->Hp->Addr->List 0.40->List Addr->Prop}(h:∀{s H C cl fp},p s H C cl fp):∀s H C cl fp,p s H C cl fp:=fun _ _ _ _ _=>h
section
variable{X:Cx}{pos kX p:Pos}{x q m':Str}{e o:Expr}{es:List Expr}{te ta:TE}{t:TA}{k m:Nat}{f C:Addr}{fd:FuncData}{ps:List Str}{sp:Sp}{st:Stmt}
theorem zs(hN:X.N.Nodup){i:Nat}(he:PE X e te)(hi:4.2:=by rfl)(hx:0.27:=by exact Or.inl rfl)(hs:swapsWith e (some (.Name x kX)) pos.line X.am=pure false:=by rfl)(hf:0.10:=by first|exact .inl rfl|exact .inr rfl):
 PS X (.Assign [.Name x kX] e pos) (aV te (aH i)):=mI hN hi hx he hs hf
theorem zg(hN:X.N.Nodup){i:Nat}(hi:4.2:=by rfl)(hx:0.27:=by exact Or.inl rfl)(hf:0.10:=by first|exact .inl rfl|exact .inr rfl):PG X 8.8 (aH i):=ss hN hi hx hf
theorem zf{iter tg:Expr}{body:List Stmt}{wi:TI}{g:TG}{tb:TS}(hi:PI X tg iter wi)(hg:PG X tg g)(hb:jD X body tb)(hc:`_S:=by rfl)(hs:1.11:=by intro _;rfl)(hp:2.24:=by exact LK):PS X (.For tg iter body [] pos) (dj wi g tb):=abo hp hc hi hg hb hs
theorem zw{c:Expr}{body:List Stmt}{tc:TT}{tb:TS}(hc:PT X c tc)(hb:jD X body tb)(hp:2.24:=by exact LK):PS X (.While c body [] pos) (zQ tc tb):=abW hp hc hb
theorem zc(G:0.47)(hr:cH m X.A)(hm:X.mg x=some `æ)(F:cj X.K x q st f fd)(ha:'3')(hk:k<=m:=by decide)(hg:Gl X x:=by rfl)(hJ:`_u:=by decide)(he:`ψ:=by rfl)(eW:('-').any (·.1)=false:=by rfl)(hb:BA st ps:=by walk_at "bb"):
 PE X 0.8 (bH sp [] E0 t):=Q8 G (hr.aD hk) hg hm F.kp (bd hb F) .nil bf ha hJ he eW
theorem zc0(G:0.47)(hr:cH m X.A)(hm:X.mg x=some `æ)(F:cj X.K x q st f fd)(hk:k<=m:=by decide)(hg:Gl X x:=by rfl)(hJ:`_u:=by decide)(hb:BA st ps:=by walk_at "bb"):PE X 2.22 (bH sp [] E0 ap):=asb G (hr.aD hk) hg hm F.kp (bd hb F) .nil bf hJ
theorem zk(M:Mk X.K C f)(G:0.47)(hr:cH m X.A)(hm:X.mg x=some `_e){y:Str}(F:cj X.K y q st f fd)(ha:'3')(hk:k+1<=m:=by decide)(hg:Gl X x:=by rfl)(hJ:`_u:=by decide)(he:`ψ:=by rfl)(eW:('-').any (·.1)=false:=by rfl)(hb:BA st ps:=by walk_at "bb"):
 PE X 0.8 (jh C sp [] E0 t):=aaS M G (hr.aD hk) hg hm (bd hb F) .nil bf ha hJ he eW
theorem zk0(M:Mk X.K C f)(G:0.47)(hr:cH m X.A)(hm:X.mg x=some `_e){y:Str}(F:cj X.K y q st f fd)(hk:k+1<=m:=by decide)(hg:Gl X x:=by rfl)(hJ:`_u:=by decide)(hb:BA st ps:=by walk_at "bb"):PE X 2.22 (jh C sp [] E0 ap):=aaT M G (hr.aD hk) hg hm (bd hb F) .nil bf hJ
theorem zb{id:String}{r:1.41}(hc:l9 X 4.6 r)(hm:X.mg x=none)(ha:'3')(hv:bootBuiltins x=some 4.6:=by decide+kernel)(hg:Gl X x:=by rfl)(hn:x≠"__name__":=by decide)(hJ:`_u:=by decide)(he:`ψ:=by rfl)(eW:('-').any (·.1)=false:=by rfl):PE X 0.8 (dh r t):=gz hc hg hm hv ha hn hJ he eW
theorem zt{T:String}{r:1.41}(hc:l9 X (.type T) r)(hm:X.mg x=none)(ha:'3')(hv:bootBuiltins x=some (.type T):=by decide+kernel)(hg:Gl X x:=by rfl)(hn:x≠"__name__":=by decide)(hJ:`_u:=by decide)(he:`ψ:=by rfl)(eW:('-').any (·.1)=false:=by rfl):PE X 0.8 (dh r t):=Q9 hc hg hm hv ha hn hJ he eW
theorem hm{j:Nat}{A:Around}(r:cH k A)(h:j<=k:=by decide):cH j A:=r.aD h
end
local macro_rules|`(tactic|walk_at "sc")=>`(tactic|exact⟨rfl,rfl,rfl,by decide+kernel,rfl,by decide+kernel,by decide+kernel⟩)
def aY(i:Nat):Stmt:=PySem.Challenge.pw_twolists_s01_answers.main.body.getD i (.Pass ⟨0,0,0,0⟩)
abbrev as9:Stmt:=dA (aY 7) 0
abbrev as4:Stmt:=dA (aY 8) 0
abbrev atH:Stmt:=aY 9
abbrev ato:Stmt:=aY 10
abbrev ath:Stmt:=aY 11
abbrev ati:Stmt:=aY 12
abbrev atF:Stmt:=aY 13
abbrev atu:Stmt:=aY 14
abbrev att:Stmt:=aY 15
abbrev atm:Stmt:=aY 16
abbrev atN:Stmt:=aY 17
abbrev atc:Stmt:=aY 18
abbrev atn:Stmt:=aY 22
abbrev as8:Stmt:=dA (aY 23) 0
abbrev acJ:Stmt:=dA (aY 23) 1
abbrev acG:Stmt:=dA (aY 23) 2
abbrev acF:Stmt:=dA (aY 23) 3
abbrev acH:Stmt:=dA (aY 23) 4
abbrev acI:Stmt:=dA (aY 23) 5
abbrev atG:Stmt:=aY 35
abbrev atP:Stmt:=aY 36
abbrev atO:Stmt:=aY 37
abbrev atd:Stmt:=aY 38
abbrev ate:Stmt:=aY 39
abbrev ats:Stmt:=aY 40
abbrev atf:Stmt:=aY 41
abbrev atq:Stmt:=aY 43
abbrev atB:Stmt:=aY 44
abbrev atC:Stmt:=aY 45
abbrev as7:Stmt:=dA (aY 48) 0
abbrev acE:Stmt:=dA (aY 48) 1
abbrev acD:Stmt:=dA (aY 48) 2
abbrev atU:Stmt:=aY 49
abbrev atJ:Stmt:=aY 50
abbrev atA:Stmt:=aY 51
abbrev atj:Stmt:=aY 52
abbrev atk:Stmt:=aY 54
abbrev ata:Stmt:=aY 55
abbrev atr:Stmt:=aY 56
abbrev atK:Stmt:=aY 57
abbrev atM:Stmt:=aY 58
abbrev atL:Stmt:=aY 59
abbrev atz:Stmt:=aY 60
abbrev atw:Stmt:=aY 61
abbrev atE:Stmt:=aY 62
abbrev atQ:Stmt:=aY 68
abbrev atR:Stmt:=aY 69
abbrev mN:Stmt:=aY 70
abbrev as_:Stmt:=dA (aY 73) 0
abbrev as6:Stmt:=dA (aY 74) 0
abbrev atv:Stmt:=aY 75
abbrev atg:Stmt:=aY 76
abbrev atx:Stmt:=aY 77
abbrev atl:Stmt:=aY 78
abbrev aty:Stmt:=aY 79
abbrev ac2:Stmt:=aY 80
abbrev atb:Stmt:=aY 81
abbrev atp:Stmt:=aY 82
abbrev atD:Stmt:=aY 83
abbrev Ii:Stmt:=aY 84
abbrev n_:Stmt:=aY 85
abbrev n9:Stmt:=aY 86
abbrev ack:Stmt:=dA `ý 0
abbrev acw:Stmt:=dA `ý 1
abbrev acv:Stmt:=dA `ý 2
abbrev acl:Stmt:=dA `ý 3
abbrev ach:Stmt:=dA `ý 4
abbrev aci:Stmt:=dA `ý 5
abbrev acm:Stmt:=dA `ý 6
abbrev acu:Stmt:=dA `ý 7
abbrev acy:Stmt:=dA `ý 8
abbrev acx:Stmt:=dA `ý 9
abbrev acB:Stmt:=dA `ý 10
abbrev act:Stmt:=dA `ý 11
abbrev acs:Stmt:=dA `ý 12
abbrev acf:Stmt:=dA `ý 13
abbrev acA:Stmt:=dA `ý 14
abbrev acr:Stmt:=dA `ý 15
abbrev acj:Stmt:=dA `ý 16
abbrev acC:Stmt:=dA `ý 17
abbrev acn:Stmt:=dA `ý 18
abbrev acg:Stmt:=dA `ý 19
abbrev aco:Stmt:=dA `ý 20
abbrev acp:Stmt:=dA `ý 21
abbrev ace:Stmt:=dA `ý 22
abbrev acz:Stmt:=dA `ý 23
abbrev acq:Stmt:=dA `ý 24
abbrev acd:Stmt:=dA `ý 25
abbrev acL:Stmt:=dA (aY 96) 0
abbrev acK:Stmt:=dA (aY 96) 1
abbrev acM:Stmt:=dA (aY 96) 2
abbrev acN:Stmt:=dA (aY 96) 3
abbrev acS:Stmt:=aY 98
abbrev acY:Stmt:=aY 99
abbrev acZ:Stmt:=aY 100
abbrev ac1:Stmt:=aY 101
abbrev acX:Stmt:=aY 102
abbrev acQ:Stmt:=aY 103
abbrev acW:Stmt:=aY 104
abbrev acR:Stmt:=aY 105
abbrev acT:Stmt:=aY 106
abbrev acU:Stmt:=aY 107
abbrev acP:Stmt:=aY 108
abbrev ac0:Stmt:=aY 109
abbrev acV:Stmt:=aY 110
abbrev acO:Stmt:=aY 111
abbrev Sk:Stmt:=aY 113
structure aj where
 (FM FG On N3 NW NX Oj N9 N8 N1 Ou NR N2 FK NL NI NH NJ NK Om Ox Ow NS NT N7 NU N5 Of Og FJ NG NF OA Oo Oe NY NZ NP N6 Oq Ot Os Oc N' Oi Oy Oz Od FN FI N_ NV Oa N0 Ob Op NQ N4 Oh FP Ov Ol FH Ny Nw Nl Ni Nj Nm Nv NA Nz ND Nu Nt Ng NC Nr Nk NE Nn Nh No Np Nf NB Nq Nd FL NM NN NO yB yH yI yK yG yz yF yA yC yD yy yJ yE yx FO:Addr)
 (Xd Wy XQ Xu Xm Xn XN XA Xz Xs XW Xh Xt W9 W_ W6 W5 W7 W8 XO XY XX Xi Xj Xy Xk Xw XH XI W2 W4 W3 X1 XR XG Xp Xq Xf Xx XT XV XU XF XC XM XZ X0 Fq Xe W1 XB Xl XD Xr XE XS Xg Xv XJ Xo Ft Fs WI WU WT WJ WE WG WK WS WW WV WZ WR WQ WB WY WP WH W0 WL WC WM WN WA WX WO Wz Xa W' Xb Xc MK MQ MR MT MP MI MO MJ ML MM MH MS MN MG MF:`ě)
 (jX gm cU gP kG lA aQ dN mw vq vt oW vp:Addr)
abbrev bQ(K:Frag)(x:Str)(st:Stmt)(f:Addr)(fd:`ě):Prop:=cj K x x st f fd
structure Txt(K:Frag)(mg:Str->Option Value)(a:aj):Prop where
 Ud:cj K "__init__" "Row.__init__" as9 a.FM a.Xd
 avs:cZ K a.jX "__init__" a.FM
 Ju:cj K "__init__" "Checklist.__init__" as4 a.FG a.Wy
 avm:cZ K a.gm "__init__" a.FG
 UF:bQ K "split_lines" atH a.On a.XQ
 Kz:mg "split_lines"=some (.ref a.On)
 Us:bQ K "is_letter" ato a.N3 a.Xu
 Km:mg "is_letter"=some (.ref a.N3)
 Ul:bQ K "end_of_blanks" ath a.NW a.Xm
 Kg:mg "end_of_blanks"=some (.ref a.NW)
 Um:bQ K "end_of_letters" ati a.NX a.Xn
 Kh:mg "end_of_letters"=some (.ref a.NX)
 UE:bQ K "read_row" atF a.Oj a.XN
 Ky:mg "read_row"=some (.ref a.Oj)
 Ux:bQ K "may_follow" atu a.N9 a.XA
 Kr:mg "may_follow"=some (.ref a.N9)
 Uw:bQ K "leading_rows" att a.N8 a.Xz
 Kq:mg "leading_rows"=some (.ref a.N8)
 Ur:bQ K "has_part" atm a.N1 a.Xs
 Kl:mg "has_part"=some (.ref a.N1)
 UJ:bQ K "text_refusal" atN a.Ou a.XW
 KD:mg "text_refusal"=some (.ref a.Ou)
 Ug:bQ K "chains_of" atc a.NR a.Xh
 Kb:mg "chains_of"=some (.ref a.NR)
 JU:bQ K "is_key" atn a.N2 a.Xt
 xA:mg "is_key"=some (.ref a.N2)
 JC:cj K "__init__" "Ledger.__init__" as8 a.FK a.W9
 avq:cZ K a.cU "__init__" a.FK
 JD:cj K "refusal" "Ledger.refusal" acJ a.NL a.W_
 Vk:cZ K a.cU "refusal" a.NL
 JB:cj K "enter" "Ledger.enter" acG a.NI a.W6
 Vj:cZ K a.cU "enter" a.NI
 JA:cj K "end_force" "Ledger.end_force" acF a.NH a.W5
 Vi:cZ K a.cU "end_force" a.NH
 Ab:cj K "entries" "Ledger.entries" acH a.NJ a.W7
 DF:cZ K a.cU "entries" a.NJ
 uH:cj K "entry_list" "Ledger.entry_list" acI a.NK a.W8
 xP:cZ K a.cU "entry_list" a.NK
 Ad:bQ K "relations_in" atG a.Om a.XO
 mZ:mg "relations_in"=some (.ref a.Om)
 UL:bQ K "turn_relation" atP a.Ox a.XY
 KH:mg "turn_relation"=some (.ref a.Ox)
 UK:bQ K "turn_mask" atO a.Ow a.XX
 KG:mg "turn_mask"=some (.ref a.Ow)
 Uh:bQ K "compose" atd a.NS a.Xi
 Kc:mg "compose"=some (.ref a.NS)
 Ui:bQ K "compose_with_mask" ate a.NT a.Xj
 Kd:mg "compose_with_mask"=some (.ref a.NT)
 Uv:bQ K "lay_together" ats a.N7 a.Xy
 Kp:mg "lay_together"=some (.ref a.N7)
 Uj:bQ K "composition_rows" atf a.NU a.Xk
 Ke:mg "composition_rows"=some (.ref a.NU)
 Uu:bQ K "is_settled" atq a.N5 a.Xw
 Ko:mg "is_settled"=some (.ref a.N5)
 JY:bQ K "point_of" atB a.Of a.XH
 Ai:mg "point_of"=some (.ref a.Of)
 UC:bQ K "points_of" atC a.Og a.XI
 Kw:mg "points_of"=some (.ref a.Og)
 T':cj K "__init__" "Ground.__init__" as7 a.FJ a.W2
 avp:cZ K a.gP "__init__" a.FJ
 Jz:cj K "recorded_spots" "Ground.recorded_spots" acE a.NG a.W4
 Vh:cZ K a.gP "recorded_spots" a.NG
 Ua:cj K "pairs_of" "Ground.pairs_of" acD a.NF a.W3
 agx:cZ K a.gP "pairs_of" a.NF
 J2:bQ K "without_spots" atU a.OA a.X1
 xC:mg "without_spots"=some (.ref a.OA)
 UG:bQ K "spot_pairs" atJ a.Oo a.XR
 KA:mg "spot_pairs"=some (.ref a.Oo)
 UB:bQ K "numbers_above" atA a.Oe a.XG
 Kv:mg "numbers_above"=some (.ref a.Oe)
 Uo:bQ K "extents_of" atj a.NY a.Xp
 Ki:mg "extents_of"=some (.ref a.NY)
 Up:bQ K "first_mask" atk a.NZ a.Xq
 Kj:mg "first_mask"=some (.ref a.NZ)
 JF:bQ K "add_first_rows" ata a.NP a.Xf
 Ag:mg "add_first_rows"=some (.ref a.NP)
 JV:bQ K "keep_only" atr a.N6 a.Xx
 Ah:mg "keep_only"=some (.ref a.N6)
 Di:bQ K "take_away" atK a.Oq a.XT
 uJ:mg "take_away"=some (.ref a.Oq)
 UI:bQ K "take_told" atM a.Ot a.XV
 KC:mg "take_told"=some (.ref a.Ot)
 UH:bQ K "take_recorded" atL a.Os a.XU
 KB:mg "take_recorded"=some (.ref a.Os)
 UA:bQ K "narrowed_mask" atz a.Oc a.XF
 Ku:mg "narrowed_mask"=some (.ref a.Oc)
 Uy:bQ K "narrow_once" atw a.N' a.XC
 Ks:mg "narrow_once"=some (.ref a.N')
 UD:bQ K "quick_table" atE a.Oi a.XM
 Kx:mg "quick_table"=some (.ref a.Oi)
 UM:bQ K "verdict_of_mask" atQ a.Oy a.XZ
 KI:mg "verdict_of_mask"=some (.ref a.Oy)
 UN:bQ K "verdict_of_spots" atR a.Oz a.X0
 KJ:mg "verdict_of_spots"=some (.ref a.Oz)
 JX:bQ K "narrowest_sure" mN a.Od a.Fq
 Dm:mg "narrowest_sure"=some (.ref a.Od)
 JE:cj K "__init__" "World.__init__" as_ a.FN a.Xe
 avt:cZ K a.kG "__init__" a.FN
 Jy:cj K "__init__" "Demand.__init__" as6 a.FI a.W1
 avo:cZ K a.lA "__init__" a.FI
 Dh:bQ K "meets_all" atv a.N_ a.XB
 sL:mg "meets_all"=some (.ref a.N_)
 Uk:bQ K "count_choices" atg a.NV a.Xl
 Kf:mg "count_choices"=some (.ref a.NV)
 JW:bQ K "narrow_world" atx a.Oa a.XD
 xB:mg "narrow_world"=some (.ref a.Oa)
 Uq:bQ K "first_worlds" atl a.N0 a.Xr
 Kk:mg "first_worlds"=some (.ref a.N0)
 Uz:bQ K "narrow_worlds" aty a.Ob a.XE
 Kt:mg "narrow_worlds"=some (.ref a.Ob)
 xy:bQ K "standing_worlds" ac2 a.Op a.XS
 Ak:mg "standing_worlds"=some (.ref a.Op)
 Ue:bQ K "all_spots" atb a.NQ a.Xg
 Ka:mg "all_spots"=some (.ref a.NQ)
 Ut:bQ K "is_possible" atp a.N4 a.Xv
 Kn:mg "is_possible"=some (.ref a.N4)
 JZ:bQ K "possible_mask" atD a.Oh a.XJ
 Aj:mg "possible_mask"=some (.ref a.Oh)
 Ac:bQ K "entries_that_stay" Ii a.FP a.Xo
 UQ:mg "entries_that_stay"=some (.ref a.FP)
 J1:bQ K "told_that_stay" n_ a.Ov a.Ft
 Do:mg "told_that_stay"=some (.ref a.Ov)
 J0:bQ K "records_that_stay" n9 a.Ol a.Fs
 Dn:mg "records_that_stay"=some (.ref a.Ol)
 TR:cj K "__init__" "Comparison.__init__" ack a.FH a.WI
 avn:cZ K a.aQ "__init__" a.FH
 Df:cj K "side_list" "Comparison.side_list" acw a.Ny a.WU
 Lb:cZ K a.aQ "side_list" a.Ny
 pV:cj K "side_chains" "Comparison.side_chains" acv a.Nw a.WT
 qZ:cZ K a.aQ "side_chains" a.Nw
 Jw:cj K "lay_ground" "Comparison.lay_ground" acl a.Nl a.WJ
 Vf:cZ K a.aQ "lay_ground" a.Nl
 uE:cj K "has_concept" "Comparison.has_concept" ach a.Ni a.WE
 xL:cZ K a.aQ "has_concept" a.Ni
 Jv:cj K "has_concepts" "Comparison.has_concepts" aci a.Nj a.WG
 Ve:cZ K a.aQ "has_concepts" a.Nj
 TU:cj K "load" "Comparison.load" acm a.Nm a.WK
 agl:cZ K a.aQ "load" a.Nm
 T4:cj K "show" "Comparison.show" acu a.Nv a.WS
 ags:cZ K a.aQ "show" a.Nv
 T7:cj K "tell_refusal" "Comparison.tell_refusal" acy a.NA a.WW
 agu:cZ K a.aQ "tell_refusal" a.NA
 T5:cj K "tell" "Comparison.tell" acx a.Nz a.WV
 agt:cZ K a.aQ "tell" a.Nz
 T_:cj K "withdraw" "Comparison.withdraw" acB a.ND a.WZ
 agw:cZ K a.aQ "withdraw" a.ND
 T0:cj K "record_refusal" "Comparison.record_refusal" act a.Nu a.WR
 agr:cZ K a.aQ "record_refusal" a.Nu
 TZ:cj K "record" "Comparison.record" acs a.Nt a.WQ
 agq:cZ K a.aQ "record" a.Nt
 TN:cj K "drop" "Comparison.drop" acf a.Ng a.WB
 agj:cZ K a.aQ "drop" a.Ng
 Jx:cj K "whole_table" "Comparison.whole_table" acA a.NC a.WY
 Vg:cZ K a.aQ "whole_table" a.NC
 TY:cj K "quick" "Comparison.quick" acr a.Nr a.WP
 agp:cZ K a.aQ "quick" a.Nr
 uF:cj K "has_too_many_choices" "Comparison.has_too_many_choices" acj a.Nk a.WH
 xN:cZ K a.aQ "has_too_many_choices" a.Nk
 uG:cj K "worlds" "Comparison.worlds" acC a.NE a.W0
 xO:cZ K a.aQ "worlds" a.NE
 De:cj K "masks_to" "Comparison.masks_to" acn a.Nn a.WL
 La:cZ K a.aQ "masks_to" a.Nn
 TQ:cj K "exact" "Comparison.exact" acg a.Nh a.WC
 agk:cZ K a.aQ "exact" a.Nh
 TV:cj K "matrix" "Comparison.matrix" aco a.No a.WM
 agm:cZ K a.aQ "matrix" a.No
 TW:cj K "model" "Comparison.model" acp a.Np a.WN
 agn:cZ K a.aQ "model" a.Np
 TK:cj K "conflict" "Comparison.conflict" ace a.Nf a.WA
 agi:cZ K a.aQ "conflict" a.Nf
 T9:cj K "translation" "Comparison.translation" acz a.NB a.WX
 agv:cZ K a.aQ "translation" a.NB
 TX:cj K "placed" "Comparison.placed" acq a.Nq a.WO
 ago:cZ K a.aQ "placed" a.Nq
 TJ:cj K "built" "Comparison.built" acd a.Nd a.Wz
 agh:cZ K a.aQ "built" a.Nd
 Uc:cj K "__init__" "Reader.__init__" acL a.FL a.Xa
 avr:cZ K a.dN "__init__" a.FL
 Ub:cj K "at_end" "Reader.at_end" acK a.NM a.W'
 agy:cZ K a.dN "at_end" a.NM
 jS:cj K "next_number" "Reader.next_number" acM a.NN a.Xb
 kx:cZ K a.dN "next_number" a.NN
 Dg:cj K "next_row" "Reader.next_row" acN a.NO a.Xc
 Lc:cZ K a.dN "next_row" a.NO
 JK:bQ K "ask_load" acS a.yB a.MK
 avc:mg "ask_load"=some (.ref a.yB)
 JQ:bQ K "ask_show" acY a.yH a.MQ
 avi:mg "ask_show"=some (.ref a.yH)
 JR:bQ K "ask_tell" acZ a.yI a.MR
 avj:mg "ask_tell"=some (.ref a.yI)
 JT:bQ K "ask_withdraw" ac1 a.yK a.MT
 avl:mg "ask_withdraw"=some (.ref a.yK)
 JP:bQ K "ask_record" acX a.yG a.MP
 avh:mg "ask_record"=some (.ref a.yG)
 JI:bQ K "ask_drop" acQ a.yz a.MI
 ava:mg "ask_drop"=some (.ref a.yz)
 JO:bQ K "ask_quick" acW a.yF a.MO
 avg:mg "ask_quick"=some (.ref a.yF)
 JJ:bQ K "ask_exact" acR a.yA a.MJ
 avb:mg "ask_exact"=some (.ref a.yA)
 JL:bQ K "ask_matrix" acT a.yC a.ML
 avd:mg "ask_matrix"=some (.ref a.yC)
 JM:bQ K "ask_model" acU a.yD a.MM
 ave:mg "ask_model"=some (.ref a.yD)
 JH:bQ K "ask_conflict" acP a.yy a.MH
 au':mg "ask_conflict"=some (.ref a.yy)
 JS:bQ K "ask_translate" ac0 a.yJ a.MS
 avk:mg "ask_translate"=some (.ref a.yJ)
 JN:bQ K "ask_placed" acV a.yE a.MN
 avf:mg "ask_placed"=some (.ref a.yE)
 JG:bQ K "ask_built" acO a.yx a.MG
 au_:mg "ask_built"=some (.ref a.yx)
 Uf:bQ K "answers" Sk a.FO a.MF
 aga:mg "answers"=some (.ref a.FO)
 ajl:f8 K a.jX
 jX:mg "Row"=some (.ref a.jX)
 aoR:Mk K a.jX a.FM
 apa:eE K a.jX "depth"
 apb:eE K a.jX "name"
 apc:eE K a.jX "plus"
 ajj:f8 K a.gm
 gm:mg "Checklist"=some (.ref a.gm)
 ŗ:Mk K a.gm a.FG
 aoZ:eE K a.gm "chains"
 ao0:eE K a.gm "deepest"
 ao1:eE K a.gm "text"
 jo:f8 K a.cU
 cU:mg "Ledger"=some (.ref a.cU)
 ř:Mk K a.cU a.FK
 aae:eE K a.cU "in_force"
 ao7:eE K a.cU "most_in_all"
 ao8:eE K a.cU "most_in_force"
 ao9:eE K a.cU "used"
 Fi:f8 K a.gP
 gP:mg "Ground"=some (.ref a.gP)
 aoP:Mk K a.gP a.FJ
 ao4:eE K a.gP "extents"
 ao5:eE K a.gP "pairs"
 ao6:eE K a.gP "whole"
 ajm:f8 K a.kG
 kG:mg "World"=some (.ref a.kG)
 Ś:Mk K a.kG a.FN
 apd:eE K a.kG "needs"
 ape:eE K a.kG "spots"
 ajk:f8 K a.lA
 lA:mg "Demand"=some (.ref a.lA)
 Ř:Mk K a.lA a.FI
 ao2:eE K a.lA "barred"
 ao3:eE K a.lA "needed"
 bU:f8 K a.aQ
 aQ:mg "Comparison"=some (.ref a.aQ)
 aoO:Mk K a.aQ a.FH
 Hh:eE K a.aQ "checklists"
 aab:eE K a.aQ "ground"
 aac:eE K a.aQ "recorded"
 aad:eE K a.aQ "told"
 iV:f8 K a.dN
 dN:mg "Reader"=some (.ref a.dN)
 aoQ:Mk K a.dN a.FL
 ao_:eE K a.dN "numbers"
 ao':eE K a.dN "place"
 amR:∃t,mg "LINE_FEED"=some (.int (10) t)
 Ĩ:∃t,mg "BLANK"=some (.int (32) t)
 am7:∃t,mg "PLUS"=some (.int (43) t)
 amS:∃t,mg "LONGEST_NAME"=some (.int (20) t)
 am0:∃t,mg "MOST_LINES"=some (.int (8) t)
 anb:∃t,mg "SIDE_STEP"=some (.int (100) t)
 amQ:∃t,mg "LEAST_KEY"=some (.int (1) t)
 amM:∃t,mg "GREATEST_KEY"=some (.int (1000000000) t)
 PN:∃t,mg "EQUAL"=some (.int (1) t)
 ĭ:∃t,mg "WITHIN"=some (.int (2) t)
 Ī:∃t,mg "HOLDS"=some (.int (4) t)
 am6:∃t,mg "OVERLAP"=some (.int (8) t)
 PM:∃t,mg "APART"=some (.int (16) t)
 GN:∃t,mg "EQUAL_OR_WITHIN"=some (.int (3) t)
 ĩ:∃t,mg "EQUAL_OR_HOLDS"=some (.int (5) t)
 BJ:∃t,mg "ALL"=some (.int (31) t)
 PP:∃t,mg "IN_NONE"=some (.int (-1) t)
 PQ:∃t,mg "SURE"=some (.int (2) t)
 ī:∃t,mg "MAYBE"=some (.int (1) t)
 Ĭ:∃t,mg "NEVER"=some (.int (0) t)
 am5:∃t,mg "NO_CONCEPT"=some (.int (-1) t)
 am4:∃t,mg "MOST_TOLD_IN_FORCE"=some (.int (20) t)
 am3:∃t,mg "MOST_TOLD_IN_ALL"=some (.int (60) t)
 am2:∃t,mg "MOST_RECORDS_IN_FORCE"=some (.int (10) t)
 am1:∃t,mg "MOST_RECORDS_IN_ALL"=some (.int (30) t)
 amZ:∃t,mg "MOST_CHOICES"=some (.int (16) t)
 mw:mg "RELATIONS"=some (.ref a.mw)
 vq:mg "COMPOSED"=some (.ref a.vq)
 vt:mg "FILLED"=some (.ref a.vt)
 oW:mg "SIDES"=some (.ref a.oW)
 vp:mg "CALLS"=some (.ref a.vp)
 ai_:mg "all"=none
 V8:mg "any"=none
 Mg:mg "dict"=none
 AG:mg "enumerate"=none
 gF:mg "len"=none
 qe:mg "list"=none
 ai':mg "max"=none
 V9:mg "range"=none
 aja:mg "sorted"=none
 V_:mg "sum"=none
 Fc:mg "zip"=none
section
variable{P:Program}{w:World}{K:Frag}{mg:Str->Option Value}{base:Heap}{a:aj}{f:Addr}{fd:FuncData}
abbrev bc(n:Nat)(N:`ô)(t:TS)(sp:Sp):Prop:=∀vs H Q E,sp vs H Q E->`õ=n/\t {nx:=fun _ H'=>Q .aX H',rt:=Q} (start N vs) H
theorem bg{x qual:Str}{st:Stmt}{f:Addr}{fd:`ě}{N ps:`ô}{k:Nat}{sp:Sp}{t:TS}(F:0.73)(h:bc ps.length N t sp)
 (hb:∀{dk:Value}{A:Around}{bK:`_W}{s:Shared}{H:Hp}{E:XK},cH k (2.96)->N.Nodup->(2.96).units+1<cLine->jD (tj gY P w K mg base N qual (gQ st) f dk A bK s H E).Cg (dO st) t) (S:pW N ps (gQ st):=by walk_at "sc"):f9 P w K mg base gY (k+1) f fd ps sp:=
 F.ok S 3.46 fun dk A bK s H vs Q E hr q=>⟨t,hb hr S.nd (ZQ hr),(h vs H Q E q).2⟩
abbrev aa_:List Str:=["self","depth","name","plus"]
abbrev ahd:=aa_
abbrev aa6:List Str:=["self","side","text","rows"]
abbrev agA:=aa6.append ["number","row"]
abbrev abL:List Str:=["text"]
abbrev ah3:=abL.append ["lines","line","sign"]
abbrev abr:List Str:=["sign"]
abbrev ahH:=abr
abbrev abi:List Str:=["line"]
abbrev ahA:=abi.append ["place"]
abbrev abj:List Str:=["line","start"]
abbrev ahB:=abj.append ["place"]
abbrev abJ:List Str:=["line"]
abbrev ah0:=abJ.append ["depth","end","length","tail"]
abbrev aby:List Str:=["row","rows"]
abbrev ahN:=aby.append ["deepest","other"]
abbrev abx:List Str:=["lines"]
abbrev ahM:=abx.append ["rows","line","row"]
abbrev abp:List Str:=["rows","place"]
abbrev ahF:=abp
abbrev abQ:List Str:=["lines","rows"]
abbrev ah9:=abQ.append ["place","row"]
abbrev abd:List Str:=["side","rows"]
abbrev ahv:=abd.append ["chains","open_chain","place","row","number","above"]
abbrev abq:List Str:=["number"]
abbrev ahG:=abq
abbrev aa9:List Str:=["self","most_in_force","most_in_all"]
abbrev ag9:=aa9
abbrev RN:List Str:=["self","key","first_number"]
abbrev ag_:=RN
abbrev VZ:=@bd acJ RN 0.77
abbrev RK:List Str:=["self","key","entry"]
abbrev ag6:=RK
abbrev VY:=@bd acG RK 0.77
abbrev RJ:List Str:=["self","key"]
abbrev ag5:=RJ
abbrev VX:=@bd acF RJ `ú
abbrev RL:List Str:=`_6
abbrev ag7:=RL.append ["found","key"]
abbrev E':=@bd acH RL `_1
abbrev RM:List Str:=`_6
abbrev ag8:=RM
abbrev yo:=@bd acI RM `_1
abbrev abK:List Str:=["mask"]
abbrev ah2:=abK.append ["relation"]
abbrev abT:List Str:=["relation"]
abbrev aia:=abT
abbrev abS:List Str:=["mask"]
abbrev ah':=abS.append ["relation"]
abbrev abe:List Str:=["first","second"]
abbrev ahw:=abe
abbrev abf:List Str:=["first","mask"]
abbrev ahx:=abf.append ["found","second"]
abbrev abw:List Str:=["row","other_row"]
abbrev ahL:=abw.append ["mask","other_mask"]
abbrev abg:List Str:=[]
abbrev ahy:=abg.append ["rows","relation","own_row","mask","row"]
abbrev abu:List Str:=["table"]
abbrev ahJ:=abu.append ["row","mask"]
abbrev abF:List Str:=["table","numbers"]
abbrev ahW:=abF.append ["e","c"]
abbrev abG:List Str:=["table"]
abbrev ahX:=abG.append ["concepts","points","place","c","d"]
abbrev aa8:List Str:=["self","checklist","other_checklist"]
abbrev ag2:=aa8.append ["chains"]
abbrev RI:List Str:=["self","first","second"]
abbrev ag4:=RI.append ["spots","number"]
abbrev VW:=@bd acE RI 0.77
abbrev RH:List Str:=["self","spots"]
abbrev ag3:=RH.append ["place","pair"]
abbrev aiR:=@bd acD RH `ú
abbrev abX:List Str:=["spots","others"]
abbrev aid:=abX
abbrev abM:List Str:=["deepest","other_deepest"]
abbrev ah4:=abM.append ["pairs","c","d"]
abbrev abE:List Str:=["pair","chains"]
abbrev ahU:=abE.append ["numbers","deepest"]
abbrev abk:List Str:=["pairs","chains"]
abbrev ahC:=abk.append ["extents","number","place","pair"]
abbrev abl:List Str:=["own_chains","other_chains","c","d"]
abbrev ahD:=abl
abbrev aba:List Str:=["table","own_chains","other_chains","concepts"]
abbrev ahf:=aba.append ["c","row","d"]
abbrev abv:List Str:=["table","c","d","mask"]
abbrev ahK:=abv
abbrev abN:List Str:=["table","c","d","mask"]
abbrev ah6:=abN
abbrev abP:List Str:=["table","told"]
abbrev ah8:=abP.append ["c","d","mask"]
abbrev abO:List Str:=["table","records"]
abbrev ah7:=abO.append ["first","second","c","d"]
abbrev abD:List Str:=["table","concepts","compositions","c","d"]
abbrev ahS:=abD.append ["row","mask","e"]
abbrev abA:List Str:=["table","concepts","compositions"]
abbrev ahP:=abA.append ["changed","c","d","mask"]
abbrev abI:List Str:=["chains","other_chains","told","records"]
abbrev ahZ:=abI.append ["concepts","table","compositions","changed"]
abbrev abU:List Str:=["mask"]
abbrev aib:=abU
abbrev abV:List Str:=["spots","extent"]
abbrev aic:=abV.append ["inside"]
abbrev RT:List Str:=["chains","verdicts"]
abbrev ahT:=RT.append ["sure","number","verdict"]
theorem Ij:pW ahT RT (gQ mN):=by walk_at "sc"
abbrev aa':List Str:=["self","spots","needs"]
abbrev ahe:=aa'
abbrev aa7:List Str:=["self","first","second","relation"]
abbrev ag1:=aa7.append ["both","region","filled"]
abbrev abz:List Str:=["spots","needs"]
abbrev ahO:=abz.append ["need"]
abbrev abh:List Str:=["told"]
abbrev ahz:=abh.append ["product","c","d","mask"]
abbrev abB:List Str:=["world","demand"]
abbrev ahQ:=abB.append ["spots"]
abbrev abm:List Str:=["ground","records"]
abbrev ahE:=abm.append ["needs","first","second"]
abbrev abC:List Str:=["worlds","demands"]
abbrev ahR:=abC.append ["found","world","demand","narrowed"]
abbrev RV:List Str:=["ground","told","records"]
abbrev ah5:=RV.append ["worlds","c","d","mask","demands","relation"]
abbrev V1:=@bd ac2 RV 0.77
abbrev abb:List Str:=["worlds"]
abbrev ahg:=abb.append ["spots","world"]
abbrev abt:List Str:=["worlds","demand"]
abbrev ahI:=abt.append ["world"]
abbrev abH:List Str:=["worlds","first","second"]
abbrev ahY:=abH.append ["relation"]
abbrev HV:List Str:=["entries","is_conflict"]
abbrev Vm:=HV.append ["left","key","fewer"]
theorem CN:pW Vm HV (gQ Ii):=by walk_at "sc"
abbrev V0:=@bd Ii HV `ú
abbrev RW:List Str:=["ground","told","records"]
abbrev ah_:=RW
theorem atW:pW ah_ RW (gQ n_):=by walk_at "sc"
abbrev RU:List Str:=["ground","told","records"]
abbrev ah1:=RU
theorem atV:pW ah1 RU (gQ n9):=by walk_at "sc"
abbrev Ro:List Str:=`_6
abbrev agI:=Ro
abbrev aiE:=@bd ack Ro `_1
abbrev RA:List Str:=["self","side"]
abbrev agU:=RA
abbrev Ma:=@bd acw RA `ú
abbrev Rz:List Str:=["self","side"]
abbrev agT:=Rz
abbrev rh:=@bd acv Rz `ú
abbrev Rp:List Str:=`_6
abbrev agJ:=Rp
abbrev VU:=@bd acl Rp `_1
abbrev Rl:List Str:=["self","number"]
abbrev agF:=Rl.append ["side"]
abbrev yl:=@bd ach Rl `ú
abbrev Rm:List Str:=["self","numbers"]
abbrev agG:=Rm.append ["number"]
abbrev VT:=@bd aci Rm `ú
abbrev Rq:List Str:=["self","side","text"]
abbrev agK:=Rq.append ["lines","rows","refusal"]
abbrev aiF:=@bd acm Rq 0.77
abbrev Ry:List Str:=["self","side"]
abbrev agS:=Ry
abbrev aiM:=@bd acu Ry `ú
abbrev RC:List Str:=["self","key","c","d","mask"]
abbrev agW:=RC
abbrev aiO:=@bd acy RC (by walk_at "b5")
abbrev RB:List Str:=["self","key","c","d","mask"]
abbrev agV:=RB.append ["refusal"]
abbrev aiN:=@bd acx RB (by walk_at "b5")
abbrev RF:List Str:=["self","key"]
abbrev agZ:=RF
abbrev aiQ:=@bd acB RF `ú
abbrev Rx:List Str:=["self","key","first","second"]
abbrev agR:=Rx
abbrev aiL:=@bd act Rx (by walk_at "b4")
abbrev Rw:List Str:=["self","key","first","second"]
abbrev agQ:=Rw.append ["refusal"]
abbrev aiK:=@bd acs Rw (by walk_at "b4")
abbrev Rj:List Str:=["self","key"]
abbrev agD:=Rj
abbrev aiC:=@bd acf Rj `ú
abbrev RE:List Str:=`_6
abbrev agY:=RE
abbrev VV:=@bd acA RE `_1
abbrev Rv:List Str:=`_6
abbrev agP:=Rv.append ["table","masks","c","d"]
abbrev aiJ:=@bd acr Rv `_1
abbrev Rn:List Str:=`_6
abbrev agH:=Rn
abbrev ym:=@bd acj Rn `_1
abbrev RG:List Str:=`_6
abbrev ag0:=RG
abbrev yn:=@bd acC RG `_1
abbrev Rr:List Str:=["self","worlds","c","numbers"]
abbrev agL:=Rr.append ["extents","d"]
abbrev L':=@bd acn Rr (by walk_at "b4")
abbrev Rk:List Str:=["self","c","d"]
abbrev agE:=Rk
abbrev aiD:=@bd acg Rk 0.77
abbrev Rs:List Str:=`_6
abbrev agM:=Rs.append ["worlds","masks","c"]
abbrev aiG:=@bd aco Rs `_1
abbrev Rt:List Str:=`_6
abbrev agN:=Rt.append ["worlds","pairs","answer","pair"]
abbrev aiH:=@bd acp Rt `_1
abbrev Ri:List Str:=`_6
abbrev agC:=Ri.append ["told","records"]
abbrev aiB:=@bd ace Ri `_1
abbrev RD:List Str:=["self","c"]
abbrev agX:=RD.append ["worlds","chains","verdicts","mask"]
abbrev aiP:=@bd acz RD `ú
abbrev Ru:List Str:=["self","key"]
abbrev agO:=Ru.append ["records","worlds","spots","verdicts","extent"]
abbrev aiI:=@bd acq Ru `ú
abbrev Rh:List Str:=`_6
abbrev agB:=Rh.append ["table","points","answer","point"]
abbrev aiA:=@bd acd Rh `_1
abbrev RP:List Str:=["self","numbers"]
abbrev aha:=RP
abbrev aiT:=@bd acL RP `ú
abbrev RO:List Str:=`_6
abbrev ag':=RO
abbrev aiS:=@bd acK RO `_1
abbrev RQ:List Str:=`_6
abbrev ahb:=RQ.append ["number"]
abbrev kE:=@bd acM RQ `_1
abbrev RR:List Str:=`_6
abbrev ahc:=RR.append ["length","row"]
abbrev Mb:=@bd acN RR `_1
abbrev HJ:List Str:=`η
abbrev ahl:=HJ.append ["side","text"]
abbrev aiY:=@bd acS HJ `ú
abbrev HQ:List Str:=`η
abbrev ahr:=HQ.append ["side"]
abbrev ai4:=@bd acY HQ `ú
abbrev HR:List Str:=`η
abbrev ahs:=HR.append ["key","c","d","mask"]
abbrev ai5:=@bd acZ HR `ú
abbrev HU:List Str:=`η
abbrev ahu:=HU.append ["key"]
abbrev ai7:=@bd ac1 HU `ú
abbrev HP:List Str:=`η
abbrev ahq:=HP.append ["key","first","second"]
abbrev ai3:=@bd acX HP `ú
abbrev HH:List Str:=`η
abbrev ahj:=HH.append ["key"]
abbrev aiW:=@bd acQ HH `ú
abbrev HN:List Str:=`η
abbrev ahp:=HN
abbrev ai2:=@bd acW HN `ú
abbrev HI:List Str:=`η
abbrev ahk:=HI.append ["c","d"]
abbrev aiX:=@bd acR HI `ú
abbrev HK:List Str:=`η
abbrev ahm:=HK
abbrev aiZ:=@bd acT HK `ú
abbrev HL:List Str:=`η
abbrev ahn:=HL
abbrev ai0:=@bd acU HL `ú
abbrev HG:List Str:=`η
abbrev ahi:=HG
abbrev aiV:=@bd acP HG `ú
abbrev HS:List Str:=`η
abbrev aht:=HS.append ["c"]
abbrev ai6:=@bd ac0 HS `ú
abbrev HM:List Str:=`η
abbrev aho:=HM.append ["key"]
abbrev ai1:=@bd acV HM `ú
abbrev HF:List Str:=`η
abbrev ahh:=HF
abbrev aiU:=@bd acO HF `ú
abbrev RS:List Str:=["calls"]
abbrev Vl:=RS.append ["comparison","reader","answered","ask","answer"]
theorem zL:pW Vl RS (gQ Sk):=by walk_at "sc"
def lH(v0 v1 v2:V):List `_f:=[("depth",v0),("name",v1),("plus",v2)]
theorem av2(v0 v1 v2:V):(lH v0 v1 v2).lookup ("depth":Str)=some v0:=rfl
theorem aw8(v0 v1 v2 x:V):bi "depth" x (lH v0 v1 v2)=lH x v1 v2:=rfl
theorem av3(v0 v1 v2:V):(lH v0 v1 v2).lookup ("name":Str)=some v1:=rfl
theorem aw9(v0 v1 v2 x:V):bi "name" x (lH v0 v1 v2)=lH v0 x v2:=rfl
theorem av4(v0 v1 v2:V):(lH v0 v1 v2).lookup ("plus":Str)=some v2:=rfl
theorem aw_(v0 v1 v2 x:V):bi "plus" x (lH v0 v1 v2)=lH v0 v1 x:=rfl
theorem awc(v0 v1 v2:V):bi "plus" v2 (bi "name" v1 (bi "depth" v0 ([])))=lH v0 v1 v2:=rfl
def lG(v0 v1 v2:V):List `_f:=[("text",v0),("chains",v1),("deepest",v2)]
theorem avM(v0 v1 v2:V):(lG v0 v1 v2).lookup ("text":Str)=some v0:=rfl
theorem awS(v0 v1 v2 x:V):bi "text" x (lG v0 v1 v2)=lG x v1 v2:=rfl
theorem avK(v0 v1 v2:V):(lG v0 v1 v2).lookup ("chains":Str)=some v1:=rfl
theorem awQ(v0 v1 v2 x:V):bi "chains" x (lG v0 v1 v2)=lG v0 x v2:=rfl
theorem avL(v0 v1 v2:V):(lG v0 v1 v2).lookup ("deepest":Str)=some v2:=rfl
theorem awR(v0 v1 v2 x:V):bi "deepest" x (lG v0 v1 v2)=lG v0 v1 x:=rfl
theorem av8(v0 v1 v2:V):bi "deepest" v2 (bi "chains" v1 (bi "text" v0 ([])))=lG v0 v1 v2:=rfl
def gG(v0 v1 v2 v3:V):List `_f:=[("most_in_force",v0),("most_in_all",v1),("used",v2),("in_force",v3)]
theorem avY(v0 v1 v2 v3:V):(`Ω).lookup ("most_in_force":Str)=some v0:=rfl
theorem aw4(v0 v1 v2 v3 x:V):bi "most_in_force" x (`Ω)=gG x v1 v2 v3:=rfl
theorem avX(v0 v1 v2 v3:V):(`Ω).lookup ("most_in_all":Str)=some v1:=rfl
theorem aw3(v0 v1 v2 v3 x:V):bi "most_in_all" x (`Ω)=gG v0 x v2 v3:=rfl
theorem avZ(v0 v1 v2 v3:V):(`Ω).lookup ("used":Str)=some v2:=rfl
theorem aw5(v0 v1 v2 v3 x:V):bi "used" x (`Ω)=gG v0 v1 x v3:=rfl
theorem avW(v0 v1 v2 v3:V):(`Ω).lookup ("in_force":Str)=some v3:=rfl
theorem aw2(v0 v1 v2 v3 x:V):bi "in_force" x (`Ω)=gG v0 v1 v2 x:=rfl
theorem awa(v0 v1 v2 v3:V):bi "in_force" v3 (bi "used" v2 (bi "most_in_all" v1 (bi "most_in_force" v0 ([]))))=gG v0 v1 v2 v3:=rfl
theorem awM(v0 v1 v2 v3:V):(`Ω).lookup ("refusal":Str)=none:=rfl
theorem awJ(v0 v1 v2 v3:V):(`Ω).lookup ("enter":Str)=none:=rfl
theorem awI(v0 v1 v2 v3:V):(`Ω).lookup ("end_force":Str)=none:=rfl
theorem awK(v0 v1 v2 v3:V):(`Ω).lookup ("entries":Str)=none:=rfl
theorem awL(v0 v1 v2 v3:V):(`Ω).lookup ("entry_list":Str)=none:=rfl
def mv(v0 v1 v2:V):List `_f:=[("pairs",v0),("whole",v1),("extents",v2)]
theorem avU(v0 v1 v2:V):(mv v0 v1 v2).lookup ("pairs":Str)=some v0:=rfl
theorem aw0(v0 v1 v2 x:V):bi "pairs" x (mv v0 v1 v2)=mv x v1 v2:=rfl
theorem avV(v0 v1 v2:V):(mv v0 v1 v2).lookup ("whole":Str)=some v1:=rfl
theorem aw1(v0 v1 v2 x:V):bi "whole" x (mv v0 v1 v2)=mv v0 x v2:=rfl
theorem avT(v0 v1 v2:V):(mv v0 v1 v2).lookup ("extents":Str)=some v2:=rfl
theorem awZ(v0 v1 v2 x:V):bi "extents" x (mv v0 v1 v2)=mv v0 v1 x:=rfl
theorem av'(v0 v1 v2:V):bi "extents" v2 (bi "whole" v1 (bi "pairs" v0 ([])))=mv v0 v1 v2:=rfl
theorem awH(v0 v1 v2:V):(mv v0 v1 v2).lookup ("recorded_spots":Str)=none:=rfl
theorem awG(v0 v1 v2:V):(mv v0 v1 v2).lookup ("pairs_of":Str)=none:=rfl
def rK(v0 v1:V):List `_f:=[("spots",v0),("needs",v1)]
theorem av6(v0 v1:V):(rK v0 v1).lookup ("spots":Str)=some v0:=rfl
theorem axa(v0 v1 x:V):bi "spots" x (rK v0 v1)=rK x v1:=rfl
theorem av5(v0 v1:V):(rK v0 v1).lookup ("needs":Str)=some v1:=rfl
theorem aw'(v0 v1 x:V):bi "needs" x (rK v0 v1)=rK v0 x:=rfl
theorem awd(v0 v1:V):bi "needs" v1 (bi "spots" v0 ([]))=rK v0 v1:=rfl
def rJ(v0 v1:V):List `_f:=[("barred",v0),("needed",v1)]
theorem avR(v0 v1:V):(rJ v0 v1).lookup ("barred":Str)=some v0:=rfl
theorem awX(v0 v1 x:V):bi "barred" x (rJ v0 v1)=rJ x v1:=rfl
theorem avS(v0 v1:V):(rJ v0 v1).lookup ("needed":Str)=some v1:=rfl
theorem awY(v0 v1 x:V):bi "needed" x (rJ v0 v1)=rJ v0 x:=rfl
theorem av_(v0 v1:V):bi "needed" v1 (bi "barred" v0 ([]))=rJ v0 v1:=rfl
def cW(v0 v1 v2 v3:V):List `_f:=[("checklists",v0),("told",v1),("recorded",v2),("ground",v3)]
theorem avN(v0 v1 v2 v3:V):(`ï).lookup ("checklists":Str)=some v0:=rfl
theorem awT(v0 v1 v2 v3 x:V):bi "checklists" x (`ï)=cW x v1 v2 v3:=rfl
theorem avQ(v0 v1 v2 v3:V):(`ï).lookup ("told":Str)=some v1:=rfl
theorem awW(v0 v1 v2 v3 x:V):bi "told" x (`ï)=cW v0 x v2 v3:=rfl
theorem avP(v0 v1 v2 v3:V):(`ï).lookup ("recorded":Str)=some v2:=rfl
theorem awV(v0 v1 v2 v3 x:V):bi "recorded" x (`ï)=cW v0 v1 x v3:=rfl
theorem avO(v0 v1 v2 v3:V):(`ï).lookup ("ground":Str)=some v3:=rfl
theorem awU(v0 v1 v2 v3 x:V):bi "ground" x (`ï)=cW v0 v1 v2 x:=rfl
theorem av9(v0 v1 v2 v3:V):bi "ground" v3 (bi "recorded" v2 (bi "told" v1 (bi "checklists" v0 ([]))))=cW v0 v1 v2 v3:=rfl
theorem awz(v0 v1 v2 v3:V):(`ï).lookup ("side_list":Str)=none:=rfl
theorem awy(v0 v1 v2 v3:V):(`ï).lookup ("side_chains":Str)=none:=rfl
theorem awo(v0 v1 v2 v3:V):(`ï).lookup ("lay_ground":Str)=none:=rfl
theorem awl(v0 v1 v2 v3:V):(`ï).lookup ("has_concept":Str)=none:=rfl
theorem awm(v0 v1 v2 v3:V):(`ï).lookup ("has_concepts":Str)=none:=rfl
theorem awp(v0 v1 v2 v3:V):(`ï).lookup ("load":Str)=none:=rfl
theorem awx(v0 v1 v2 v3:V):(`ï).lookup ("show":Str)=none:=rfl
theorem awB(v0 v1 v2 v3:V):(`ï).lookup ("tell_refusal":Str)=none:=rfl
theorem awA(v0 v1 v2 v3:V):(`ï).lookup ("tell":Str)=none:=rfl
theorem awE(v0 v1 v2 v3:V):(`ï).lookup ("withdraw":Str)=none:=rfl
theorem aww(v0 v1 v2 v3:V):(`ï).lookup ("record_refusal":Str)=none:=rfl
theorem awv(v0 v1 v2 v3:V):(`ï).lookup ("record":Str)=none:=rfl
theorem awj(v0 v1 v2 v3:V):(`ï).lookup ("drop":Str)=none:=rfl
theorem awD(v0 v1 v2 v3:V):(`ï).lookup ("whole_table":Str)=none:=rfl
theorem awu(v0 v1 v2 v3:V):(`ï).lookup ("quick":Str)=none:=rfl
theorem awn(v0 v1 v2 v3:V):(`ï).lookup ("has_too_many_choices":Str)=none:=rfl
theorem awF(v0 v1 v2 v3:V):(`ï).lookup ("worlds":Str)=none:=rfl
theorem awq(v0 v1 v2 v3:V):(`ï).lookup ("masks_to":Str)=none:=rfl
theorem awk(v0 v1 v2 v3:V):(`ï).lookup ("exact":Str)=none:=rfl
theorem awr(v0 v1 v2 v3:V):(`ï).lookup ("matrix":Str)=none:=rfl
theorem aws(v0 v1 v2 v3:V):(`ï).lookup ("model":Str)=none:=rfl
theorem awi(v0 v1 v2 v3:V):(`ï).lookup ("conflict":Str)=none:=rfl
theorem awC(v0 v1 v2 v3:V):(`ï).lookup ("translation":Str)=none:=rfl
theorem awt(v0 v1 v2 v3:V):(`ï).lookup ("placed":Str)=none:=rfl
theorem awh(v0 v1 v2 v3:V):(`ï).lookup ("built":Str)=none:=rfl
def iu(v0 v1:V):List `_f:=[("numbers",v0),("place",v1)]
theorem av0(v0 v1:V):(iu v0 v1).lookup ("numbers":Str)=some v0:=rfl
theorem aw6(v0 v1 x:V):bi "numbers" x (iu v0 v1)=iu x v1:=rfl
theorem av1(v0 v1:V):(iu v0 v1).lookup ("place":Str)=some v1:=rfl
theorem aw7(v0 v1 x:V):bi "place" x (iu v0 v1)=iu v0 x:=rfl
theorem awb(v0 v1:V):bi "place" v1 (bi "numbers" v0 ([]))=iu v0 v1:=rfl
theorem awN(v0 v1:V):(iu v0 v1).lookup ("at_end":Str)=none:=rfl
theorem awO(v0 v1:V):(iu v0 v1).lookup ("next_number":Str)=none:=rfl
theorem awP(v0 v1:V):(iu v0 v1).lookup ("next_row":Str)=none:=rfl
end
abbrev a_(k:Nat)(f:aj->Addr)(d:aj->FuncData)(ps:`ô)(P:`Ô)(w:World)(K:Frag)(mg:`þ)(base:Heap)(a:aj)(sp:Sp):Prop:=f9 P w K mg base gY k (f a) (d a) ps sp
section
abbrev Eb:=a_ 1 aj.FM aj.Xd aa_
abbrev xS:=a_ 2 aj.FG aj.Wy aa6
abbrev EH:=a_ 1 aj.On aj.XQ abL
abbrev Er:=a_ 1 aj.N3 aj.Xu abr
abbrev Ej:=a_ 1 aj.NW aj.Xm abi
abbrev Ek:=a_ 2 aj.NX aj.Xn abj
abbrev EG:=a_ 3 aj.Oj aj.XN abJ
abbrev Ex:=a_ 1 aj.N9 aj.XA aby
abbrev Ew:=a_ 4 aj.N8 aj.Xz abx
abbrev Ep:=a_ 1 aj.N1 aj.Xs abp
abbrev EM:=a_ 2 aj.Ou aj.XW abQ
abbrev Ee:=a_ 1 aj.NR aj.Xh abd
abbrev ya:=a_ 1 aj.N2 aj.Xt abq
abbrev D_:=a_ 1 aj.FK aj.W9 aa9
abbrev x8:=a_ 1 aj.NL aj.W_ RN
abbrev xZ:=a_ 1 aj.NI aj.W6 RK
abbrev xY:=a_ 1 aj.NH aj.W5 RJ
abbrev sT:=a_ 1 aj.NJ aj.W7 RL
abbrev p9:=a_ 2 aj.NK aj.W8 RM
abbrev p_:=a_ 1 aj.Om aj.XO abK
abbrev EO:=a_ 1 aj.Ox aj.XY abT
abbrev EN:=a_ 2 aj.Ow aj.XX abS
abbrev Ef:=a_ 1 aj.NS aj.Xi abe
abbrev Eg:=a_ 2 aj.NT aj.Xj abf
abbrev Ev:=a_ 1 aj.N7 aj.Xy abw
abbrev Eh:=a_ 3 aj.NU aj.Xk abg
abbrev Et:=a_ 1 aj.N5 aj.Xw abu
abbrev EC:=a_ 1 aj.Of aj.XH abF
abbrev ED:=a_ 2 aj.Og aj.XI abG
abbrev D8:=a_ 3 aj.FJ aj.W2 aa8
abbrev xX:=a_ 2 aj.NG aj.W4 RI
abbrev D9:=a_ 1 aj.NF aj.W3 RH
abbrev ye:=a_ 1 aj.OA aj.X1 abX
abbrev EI:=a_ 1 aj.Oo aj.XR abM
abbrev EB:=a_ 1 aj.Oe aj.XG abE
abbrev Em:=a_ 2 aj.NY aj.Xp abk
abbrev En:=a_ 1 aj.NZ aj.Xq abl
abbrev Ec:=a_ 2 aj.NP aj.Xf aba
abbrev Eu:=a_ 1 aj.N6 aj.Xx abv
abbrev EJ:=a_ 1 aj.Oq aj.XT abN
abbrev EL:=a_ 3 aj.Ot aj.XV abP
abbrev EK:=a_ 2 aj.Os aj.XU abO
abbrev EA:=a_ 1 aj.Oc aj.XF abD
abbrev Ey:=a_ 2 aj.N' aj.XC abA
abbrev EF:=a_ 4 aj.Oi aj.XM abI
abbrev EQ:=a_ 1 aj.Oy aj.XZ abU
abbrev ER:=a_ 1 aj.Oz aj.X0 abV
abbrev Ly:=a_ 3 aj.Od aj.Fq RT
abbrev x_:=a_ 1 aj.FN aj.Xe aa'
abbrev xW:=a_ 1 aj.FI aj.W1 aa7
abbrev yb:=a_ 1 aj.N_ aj.XB abz
abbrev Ei:=a_ 2 aj.NV aj.Xl abh
abbrev yc:=a_ 3 aj.Oa aj.XD abB
abbrev Eo:=a_ 3 aj.N0 aj.Xr abm
abbrev Ez:=a_ 4 aj.Ob aj.XE abC
abbrev yd:=a_ 5 aj.Op aj.XS RV
abbrev Ed:=a_ 1 aj.NQ aj.Xg abb
abbrev Es:=a_ 4 aj.N4 aj.Xv abt
abbrev EE:=a_ 5 aj.Oh aj.XJ abH
abbrev El:=a_ 7 aj.FP aj.Xo HV
abbrev LA:=a_ 8 aj.Ov aj.Ft RW
abbrev Lz:=a_ 8 aj.Ol aj.Fs RU
abbrev DR:=a_ 6 aj.FH aj.WI Ro
abbrev xU:=a_ 4 aj.Ny aj.WU RA
abbrev ni:=a_ 5 aj.Nw aj.WT Rz
abbrev xT:=a_ 5 aj.Nl aj.WJ Rp
abbrev p8:=a_ 6 aj.Ni aj.WE Rl
abbrev DQ:=a_ 7 aj.Nj aj.WG Rm
abbrev DS:=a_ 6 aj.Nm aj.WK Rq
abbrev DZ:=a_ 1 aj.Nv aj.WS Ry
abbrev D5:=a_ 7 aj.NA aj.WW RC
abbrev D0:=a_ 8 aj.Nz aj.WV RB
abbrev D7:=a_ 2 aj.ND aj.WZ RF
abbrev DY:=a_ 8 aj.Nu aj.WR Rx
abbrev DX:=a_ 9 aj.Nt aj.WQ Rw
abbrev DO:=a_ 2 aj.Ng aj.WB Rj
abbrev xV:=a_ 6 aj.NC aj.WY RE
abbrev DW:=a_ 7 aj.Nr aj.WP Rv
abbrev lh:=a_ 3 aj.Nk aj.WH Rn
abbrev lj:=a_ 6 aj.NE aj.W0 RG
abbrev sS:=a_ 6 aj.Nn aj.WL Rr
abbrev DP:=a_ 7 aj.Nh aj.WC Rk
abbrev DT:=a_ 7 aj.No aj.WM Rs
abbrev DU:=a_ 7 aj.Np aj.WN Rt
abbrev DN:=a_ 9 aj.Nf aj.WA Ri
abbrev D6:=a_ 7 aj.NB aj.WX RD
abbrev DV:=a_ 7 aj.Nq aj.WO Ru
abbrev DM:=a_ 7 aj.Nd aj.Wz Rh
abbrev Ea:=a_ 1 aj.FL aj.Xa RP
abbrev D':=a_ 1 aj.NM aj.W' RO
abbrev gL:=a_ 1 aj.NN aj.Xb RQ
abbrev x9:=a_ 2 aj.NO aj.Xc RR
abbrev Ln:=a_ 7 aj.yB aj.MK HJ
abbrev Lu:=a_ 2 aj.yH aj.MQ HQ
abbrev Lv:=a_ 9 aj.yI aj.MR HR
abbrev Lx:=a_ 3 aj.yK aj.MT HU
abbrev Ls:=a_ 10 aj.yG aj.MP HP
abbrev Ll:=a_ 3 aj.yz aj.MI HH
abbrev Lr:=a_ 8 aj.yF aj.MO HN
abbrev Lm:=a_ 8 aj.yA aj.MJ HI
abbrev Lo:=a_ 8 aj.yC aj.ML HK
abbrev Lp:=a_ 8 aj.yD aj.MM HL
abbrev Lk:=a_ 10 aj.yy aj.MH HG
abbrev Lw:=a_ 8 aj.yJ aj.MS HS
abbrev Lq:=a_ 8 aj.yE aj.MN HM
abbrev Lj:=a_ 8 aj.yx aj.MG HF
abbrev Li:=a_ 11 aj.FO aj.MF RS
end
def aej(K:Frag):TS:=aC (gA K (aa 0) (aa 1) "depth") (aC (gA K (aa 0) (aa 2) "name") (gA K (aa 0) (aa 3) "plus"))
def adG(K:Frag)(wv:Sp):TS:=aC (gA K (aa 0) (aa 2) "text") (aC (gA K (aa 0) (bH wv [] E0 (ai (aa 1) `_O)) "chains") (gA K (aa 0) (C4 (fY (GB K (ai (bo K (aa 0) "chains") `_O)) 3.37 (ji (tB (bo K (aa 5) "plus"))) (aa 4) [4,5])) "deepest"))
def ae6(K:Frag):TS:=aC (aV '#' (aH 1)) (aC 0.17 (aC (dj (dF K (aa 0)) (aH 3) (bJ (cO (aP (i0) (aa 3) (tC (.int (10))))) (aC (eL (i3 K "list" mK (aa 1) `Ĉ)) 0.17) (eL (i3 K "list" mK (aa 2) `_O)))) (aC (eL (i3 K "list" mK (aa 1) `Ĉ)) 5.4)))
def aeN:TS:=aK (Td (CZ zI zI (tC (.int 65)) (aa 0) (tC (.int 90))) (CZ zI zI (tC (.int 97)) (aa 0) (tC (.int 122))))
def aeG(K:Frag):TS:=aC (aV `Ę (aH 1)) (aC (zQ (xj (cO (aP t5 (aa 1) (dh (gW K) 'K'))) (cO (aP (i0) (aP (n4 K) (aa 0) (aa 1)) (tC (.int (32)))))) (IQ 1 `ā (GG fun i j=>i+j))) 5.4)
def aeH(K:Frag)(wH:Sp):TS:=aC (aV (aa 1) (aH 2)) (aC (zQ (xj (cO (aP t5 (aa 2) (dh (gW K) 'K'))) (tB (bH wH [] E0 (ai (aP (n4 K) (aa 0) (aa 2)) (ap))))) (IQ 2 `ā (GG fun i j=>i+j))) '|')
def ae4(K:Frag)(a:aj)(wB wC uh:Sp):TS:=aC (aV (bH wB [] E0 'K') (aH 1)) (aC (aV (bH wC [] E0 (ai (aa 0) `Ą)) (aH 2)) (aC (aV (aP 3.0 (aa 2) (aa 1)) (aH 3)) (aC (bJ (xm (cO (aP t5 (aa 3) `ā)) (cO (aP we (aa 3) (tC (.int (20)))))) (aK (tC .aX)) (bL)) (aC (aV (uv (t6 K) (aa 0) (pK (aa 2)) (C6)) (aH 4)) (aC (bJ (xj (cO (aP (zJ K) (aa 4) '#')) (cO (aP (zJ K) (aa 4) (bI (ai (tC (.int (32))) (ai (tC (.int (43))) (ap))))))) (aK (tC .aX)) (bL)) (aK (jh a.jX uh [] E0 3.93)))))))
def aeT(K:Frag):TS:=aC (bJ (cO (aP (i0) (dh (gW K) `Ą) (tC (.int (8))))) 2.14 (bL)) (aC (aV (IT (IV K (aa 1)) (aP `Γ (bo K (aP (n4 K) (aa 1) 1.51) "depth") `ā) `Ę) (aH 2)) (aC 4.40 3.92))
def aeS(K:Frag)(wT wM:Sp):TS:=aC (aV '#' (aH 1)) (aC (dj (dF K (aa 0)) (aH 2) (aC (aV (bH wT [] E0 `Ĉ) (aH 3)) (aC (bJ (xm (cO (aP ab2 (aa 3) (tC .aX))) (ji (tB (bH wM [] E0 (ai (aa 3) `Ą))))) 5.4 (bL)) (eL (i3 K "list" mK (aa 1) `_O))))) 5.4)
def aeL(K:Frag):TS:=aK (SY (aP t5 (aP `Γ (aa 1) `ā) (dh (gW K) 'K')) (aP we (bo K (aP (n4 K) (aa 0) (aP `Γ (aa 1) `ā)) "depth") (bo K (aP (n4 K) (aa 0) (aa 1)) "depth")))
def afa(K:Frag)(wG:Sp):TS:=aC (bJ (cO (aP t5 (dh (gW K) `Ą) (dh (gW K) 'K'))) (aK (aP 3.0 (eG 0.5 (tC (.int 100))) (aP `Γ (dh (gW K) `Ą) `ā))) (bL)) (aC (dj (vO K `Ą) 1.89 (bJ (xj (tB (bo K (aa 3) "plus")) (ji (tB (bH wG [] E0 (ai (aa 1) `Ĉ))))) (aK (aP 3.0 (eG 0.5 (tC (.int 200))) (aP `Γ (aa 2) `ā))) (bL))) (aK `Ę))
def aeB(K:Frag):TS:=aC (aV (qJ) (aH 2)) (aC (aV '#' (aH 3)) (aC (dj (vO K `Ą) 3.37 (aC (aV (aP `Γ (aP (rI Aa fun i j=>.int (i*j)) (aa 0) (tC (.int (100)))) (aa 4)) (aH 6)) (aC (aV (uv (t6 K) (aa 3) (pK (aP 3.0 (dh (gW K) `_O) (bo K (aa 5) "depth"))) (C6)) (aH 7)) (aC (aV (aP jf (bI (ai (aa 6) (ap))) (aa 7)) (aH 3)) (lV (aa 2) (aa 6) (aa 3)))))) '|'))
def aeM:TS:=aK (CZ zI zI 0.86 (aa 0) (tC (.int (1000000000))))
def aed(K:Frag):TS:=aC (gA K (aa 0) (aa 1) "most_in_force") (aC (gA K (aa 0) (aa 2) "most_in_all") (aC (gA K (aa 0) (qJ) "used") (gA K (aa 0) (qJ) "in_force")))
def aee(K:Frag):TS:=aC (bJ (tB (uu (aa 1) (bo K (aa 0) "used"))) '|' (bL)) (aC (bJ (cO (aP R8 (dh CG (ai 0.64 (ap))) (bo K (aa 0) "most_in_force"))) (aK (aP 3.0 (aa 2) `ā)) (bL)) (aC (bJ (cO (aP R8 (dh CG (ai (bo K (aa 0) "used") (ap))) (bo K (aa 0) "most_in_all"))) (aK (aP 3.0 (aa 2) (tC (.int 2)))) (bL)) (aK `Ę)))
def aea(K:Frag):TS:=aC (lV (bo K (aa 0) "used") (aa 1) 0.85) (lV 0.64 (aa 1) (aa 2))
def ad'(K:Frag):TS:=aC (bJ (tB (C0 (aa 1) 0.64)) (aK 1.51) (bL)) (aC (eL (IS 0.64 (aa 1))) (aK `Ę))
def aeb(K:Frag):TS:=aC (aV (qJ) (aH 1)) (aC (dj (dF K (dh R' (ai 0.64 (ap)))) (aH 2) (lV (aa 1) (aa 2) (dI 0.64 (aa 2)))) 5.4)
def aec(a:aj)(iF:Sp):TS:=aK (xk (bj a.cU "entries" iF [] E0 (aa 0) ap))
def ae5(K:Frag)(a:aj):TS:=aK (fY (vQ K (tC (.ref a.mw))) (aH 1) (IV K (aP `_8 (aa 0) (aa 1))) (aa 1) [1])
def afc:TS:=aC (bJ (cO (aP (i0) (aa 0) (tC (.int (2))))) (aK (tC (.int (4)))) (bL)) (aC (bJ (cO (aP (i0) (aa 0) (tC (.int (4))))) (aK (tC (.int (2)))) (bL)) (aK (aa 0)))
def afb(K:Frag)(gK w_:Sp):TS:=aK (dh (H_ K) (ai (fY (dF K (bH gK [] E0 'K')) (aH 1) (ig) (bH w_ [] E0 `Ą) [1]) (ap)))
def aeC(K:Frag)(a:aj)(w:World)(P:`Ô):TS:=aC (bJ (cO (aP (i0) (aa 0) 0.86)) 5.4 (bL)) (aC (bJ (cO (aP (i0) (aa 1) 0.86)) (aK (aa 0)) (bL)) (aK (S0 w P K (tC (.ref a.vq)) (xn (ai (aa 0) `Ą)))))
def aeD(K:Frag)(gK ww:Sp):TS:=aC (aV `Ę (aH 2)) (aC (dj (dF K (bH gK [] E0 `Ą)) (aH 3) (aV (aP 0.49 (aa 2) (bH ww [] E0 (ai (aa 0) `_O))) (aH 2))) '|')
def aeR(K:Frag):TS:=aK (fY (Px K (ai (aa 0) `Ą)) 1.89 (ig) (aP 0.49 (aa 2) (aa 3)) [2,3])
def aeE(K:Frag)(a:aj)(wy wK:Sp):TS:=aC (aV (bI (ai (fY (GA (ai (aP `Γ (tC (.int (31))) `ā) (ap))) (aH 3) (ig) `Ę [3]) (ap))) (aH 0)) (aC (dj (vQ K (tC (.ref a.mw))) (aH 1) (aC (aV (fY (GA (ai (aP `Γ (tC (.int (31))) `ā) (ap))) (aH 3) (ig) (bH wy [] E0 (ai (aa 1) `_O)) [3]) (aH 2)) (aV (aP jf (aa 0) (fY (dF K (aa 0)) (aH 4) (ig) (bH wK [] E0 (ai (aa 4) `Ĉ)) [4])) (aH 0)))) (aK (aa 0)))
def aeP(K:Frag)(a:aj):TS:=aC (sI (dj (BG (aa 0)) (aH 1) (sI (dj (BG (aa 1)) (aH 2) (bJ (cO (aP (qE K true) (aa 2) (tC (.ref a.mw)))) 2.14 (bL)))))) (aK 0.85)
def ae0(K:Frag):TS:=aK (C4 (fY (vP (aa 0)) (aH 2) (tB (dh (R6 K) (ai (fY `Φ (aH 3) (ig) (aP `_8 (dI (dI (aa 0) (aa 3)) (aa 2)) (tC (.int (3)))) [3]) (ap)))) (aa 2) [2]))
def ae1(K:Frag)(ul:Sp):TS:=aC (aV (dh wg 'K') (aH 1)) (aC (aV (fY `Φ (aH 4) (ig) (bH ul [] E0 (ai (aa 0) (ai (bI `ε) (ap)))) [4]) (aH 2)) (aC (dj (vO K `Ą) (j2 K 2 2.27) (dj (dF K (uv (t6 K) (aa 1) (pK (aP `Γ (aa 3) `ā)) (C6))) (aH 5) (bJ (cO (aP (i0) (dI (dI (aa 0) (aa 4)) (aa 5)) (tC (.int (8))))) (eL (i3 K "list" mK (aa 2) (ai (bH ul [] E0 (ai (aa 0) (ai (bI (ai (aa 4) '2')) (ap)))) (ap)))) (bL)))) '|'))
def ad8(K:Frag)(wW wD:Sp):TS:=aC (gA K (aa 0) (bH wW [] E0 (ai (bo K (aa 1) "deepest") (ai (bo K (aa 2) "deepest") (ap)))) "pairs") (aC (gA K (aa 0) (aP 3.0 (aP 3.39 `ā (dh (gW K) (ai (bo K (aa 0) "pairs") (ap)))) `ā) "whole") (aC (aV (dh CF (ai (bo K (aa 1) "chains") (ap))) (aH 3)) (aC (eL (SZ (aa 3) (bo K (aa 2) "chains"))) (gA K (aa 0) (bH wD [] E0 (ai (bo K (aa 0) "pairs") `_O)) "extents"))))
def ad_(K:Frag)(mU:Sp):TS:=aC (aV (bo K (aa 0) "whole") (aH 3)) (aC (dj `Φ (aH 4) (aV (aP `_8 (aa 3) (dI 1.31 (aa 4))) (aH 3))) (aC (dj (dF K (aa 2)) (aH 4) (aV (bH mU [] E0 (ai (aa 3) (ai (dI 1.31 (aa 4)) (ap)))) (aH 3))) (aK (aa 3))))
def ad9(K:Frag):TS:=aK (fY (vO K (ai (bo K (aa 0) "pairs") (ap))) 1.89 (IV K (aP `_8 (aP (rI (fun _ j=>0<=j) fun i j=>.int (i/2^j.toNat)) (aa 1) (aa 2)) `ā)) (aa 3) [2,3])
def aff:TS:=aK (aP 1.83 (aa 0) (aP `_8 (aa 0) (aa 1)))
def ae7(K:Frag):TS:=aC 0.17 (aC (dj (dF K (aP jf (bI (ai (tC (.int (-1))) (ap))) (aa 0))) (aH 3) (dj (dF K (aP jf (bI (ai (tC (.int (-1))) (ap))) (aa 1))) (aH 4) (eL (i3 K "list" mK (aa 2) (ai (xn 1.1) (ap)))))) '|')
def aeZ(K:Frag):TS:=aC 0.17 (aC (dj (vQ K (aa 0)) (aH 3) (bJ (cO (aP (CH) (aa 3) (tC (.int (-1))))) (eL (i3 K "list" tZ (aa 2) (ai (dI (aa 1) (aa 3)) (ap)))) (bL))) '|')
def aeI(K:Frag)(wQ:Sp):TS:=aC (aV (qJ) (aH 2)) (aC (sI (dj (vP (aa 1)) (aH 3) (lV (aa 2) (aa 3) `Ę))) (aC (dj (vO K 'K') 3.37 (dj (dF K (bH wQ [] E0 (ai (aa 5) `Ą))) (aH 3) (lV (aa 2) (aa 3) (aP 0.49 (dI (aa 2) (aa 3)) (aP 3.39 `ā (aa 4)))))) '|'))
def aeJ(K:Frag):TS:=aC (bJ (tB (uu (aa 3) (aa 1))) (aK (tC (.int (31)))) (bL)) (aC (bJ (cO (aP (i0) (aa 2) (aa 3))) (aK 0.86) (bL)) (aC (bJ (cO (aP (qE K false) (aa 3) (dI (aa 0) (aa 2)))) (aK (tC (.int (3)))) (bL)) (aC (bJ (cO (aP (qE K false) (aa 2) (dI (aa 0) (aa 3)))) (aK (tC (.int (5)))) (bL)) (aK (tC (.int (16)))))))
def ael(K:Frag)(wE:Sp):TS:=sI (dj (vP (aa 1)) (aH 4) (aC (aV (qJ) (aH 5)) (aC (dj (dF K (aa 3)) (aH 6) (lV (aa 5) (aa 6) (bH wE [] E0 (ai (aa 1) (ai (aa 2) (ai (aa 4) (ai (aa 6) (ap)))))))) (lV (aa 0) (aa 4) (aa 5)))))
def aeQ:TS:=lV (dI (aa 0) (aa 1)) (aa 2) (aP `_8 (dI (dI (aa 0) (aa 1)) (aa 2)) (aa 3))
def ae9:TS:=lV (dI (aa 0) (aa 1)) (aa 2) (aP `_8 (dI (dI (aa 0) (aa 1)) (aa 2)) (aP 3.0 (tC (.int (31))) (aa 3)))
def ae'(K:Frag)(uj w9:Sp):TS:=dj `Φ (j2 K 3 (eV (aH 2) 2.27)) (aC (eL (bH uj [] E0 (ai (aa 0) (ai (aa 2) 1.1)))) (eL (bH uj [] E0 (ai (aa 0) (ai (aa 3) (ai (aa 2) (ai (bH w9 [] E0 `ε) (ap))))))))
def ae_(K:Frag)(sH:Sp):TS:=dj `Φ 1.89 (dj (dF K (aa 2)) (aH 4) (aC (dj (dF K (aa 2)) (aH 5) (eL (bH sH [] E0 (ai (aa 0) (ai (aa 4) (ai (aa 5) (ai (tC (.int (16))) (ap)))))))) (dj (dF K (aa 3)) (aH 5) (aC (eL (bH sH [] E0 (ai (aa 0) (ai (aa 4) (ai (aa 5) (ai (tC (.int (3))) (ap))))))) (eL (bH sH [] E0 (ai (aa 0) (ai (aa 5) (ai (aa 4) (ai (tC (.int (5))) (ap)))))))))))
def aeY(K:Frag):TS:=aC (aV (dI (aa 0) (aa 3)) (aH 5)) (aC (aV (dI (aa 5) (aa 4)) (aH 6)) (aC (dj `Φ (aH 7) (aV (aP `_8 (aa 6) (aP (n4 K) (aP (n4 K) (aa 2) (dI (aa 5) (aa 7))) (dI (dI (aa 0) (aa 7)) (aa 4)))) (aH 6))) (aK (aa 6))))
def aeV(K:Frag)(wP:Sp):TS:=aC (aV (tC (.bl false)) (aH 3)) (aC (dj `Φ (aH 4) (dj `Φ (aH 5) (aC (aV (bH wP [] E0 (ai (aa 0) (ai (aa 1) (ai (aa 2) (ai (aa 4) '2'))))) (aH 6)) (bJ (cO (aP (CH) (aa 6) (dI (dI (aa 0) (aa 4)) (aa 5)))) (aC (lV (dI (aa 0) (aa 4)) (aa 5) (aa 6)) (aV 0.85 (aH 3))) (bL))))) (aK (aa 3)))
def ae3(ui wY wX wz wN:Sp):TS:=aC (aV (aP jf (dh wg 'K') (dh wg `Ą)) (aH 4)) (aC (aV (qJ) (aH 5)) (aC (eL (bH ui [] E0 (ai (aa 5) (ai (aa 0) (ai (aa 1) `ε))))) (aC (eL (bH ui [] E0 (ai (aa 5) (ai (aa 1) (ai (aa 0) `ε))))) (aC (eL (bH wY [] E0 (ai (aa 5) `Ĉ))) (aC (eL (bH wX [] E0 (ai (aa 5) `_O))) (aC (aV (bH wz [] E0 ap) (aH 6)) (aC (aV 0.85 (aH 7)) (aC (zQ (tB (aa 7)) (aV (bH wN [] E0 (ai (aa 5) (ai (aa 4) (ai (aa 6) (ap))))) (aH 7))) (aK (aa 5))))))))))
def afd:TS:=aC (bJ (cO (aP (i0) (aP `_8 (aa 0) (tC (.int (3)))) (aa 0))) (aK (tC (.int (2)))) (bL)) (aC (bJ (cO (aP (i0) (aa 0) (tC (.int (16))))) (aK (tC (.int (0)))) (bL)) (aK 0.86))
def afe:TS:=aC (aV (aP `_8 (aa 0) (aa 1)) (aH 2)) (aC (bJ (cO (aP (i0) (aa 2) (aa 0))) (aK (tC (.int (2)))) (bL)) (aC (bJ (cO (aP (i0) (aa 2) `Ę)) (aK (tC (.int (0)))) (bL)) (aK 0.86)))
def aek(K:Frag):TS:=aC (gA K (aa 0) (aa 1) "spots") (gA K (aa 0) (aa 2) "needs")
def ad7(K:Frag)(a:aj)(w:World)(P:`Ô):TS:=aC (aV (aP `_8 (aa 1) (aa 2)) (aH 4)) (aC (gA K (aa 0) `Ę "barred") (aC (gA K (aa 0) '#' "needed") (dj (Py K (ai (xn (ai (aa 4) (ai (aP 1.83 (aa 1) (aa 4)) (ai (aP 1.83 (aa 2) (aa 4)) (ap))))) (ai (S_ w P K (tC (.ref a.vt)) (aa 3)) (ap)))) (j2 K 2 (eV (aH 5) (eV (aH 6) (j1)))) (bJ (tB (aa 6)) (eL (i3 K "list" mK (bo K (aa 0) "needed") '2')) (gA K (aa 0) (aP 0.49 (bo K (aa 0) "barred") (aa 5)) "barred")))))
def aeU(K:Frag):TS:=aC (dj `Φ (aH 2) (bJ (cO (aP (i0) (aP `_8 (aa 0) (aa 2)) `Ę)) 2.14 (bL))) (aK 0.85)
def aeF(K:Frag)(gK:Sp):TS:=aC (aV `ā (aH 1)) (aC (dj (dF K (aa 0)) (j2 K 3 (eV (aH 2) 2.27)) (aV (aP (rI Aa fun i j=>.int (i*j)) (aa 1) (dh (gW K) (ai (bH gK [] E0 `ε) (ap)))) (aH 1))) 5.4)
def aeW(K:Frag)(a:aj)(mU l5 lZ:Sp):TS:=aC (aV (bH mU [] E0 (ai (bo K (aa 0) "spots") (ai (bo K (aa 1) "barred") (ap)))) (aH 2)) (aC (bJ (ji (tB (bH l5 [] E0 (ai (aa 2) (ai (bo K (aa 1) "needed") (ap)))))) (aK (tC .aX)) (bL)) (aC (bJ (xj (cO (aP (CH) (aa 2) (bo K (aa 0) "spots"))) (ji (tB (bH l5 [] E0 (ai (aa 2) (ai (bo K (aa 0) "needs") (ap))))))) (aK (tC .aX)) (bL)) (aK (jh a.kG lZ [] E0 4.37))))
def aeK(K:Frag)(a:aj)(sD l5 lZ:Sp):TS:=aC (aV (xk 1.31) (aH 2)) (aC (dj `Φ (j2 K 2 2.27) (eL (i3 K "list" mK (aa 2) (ai (bj a.gP "recorded_spots" sD [] E0 (aa 0) 1.1) (ap))))) (aC (bJ (ji (tB (bH l5 [] E0 (ai (bo K (aa 0) "whole") `Ĉ)))) (aK '#') (bL)) (aK (bI (ai (jh a.kG lZ [] E0 (ai (bo K (aa 0) "whole") `Ĉ)) (ap))))))
def aeX(K:Frag)(mT:Sp):TS:=aC 0.17 (aC (dj (dF K (aa 0)) (aH 3) (dj `Φ (aH 4) (aC (aV (bH mT [] E0 1.1) (aH 5)) (bJ (cO (aP R_ (aa 5) (tC .aX))) (eL (i3 K "list" mK (aa 2) '2')) (bL))))) '|')
def ae8(K:Frag)(a:aj)(wF gK mP wO:Sp):TS:=aC (aV (bH wF [] E0 (ai (aa 0) `Ĉ)) (aH 3)) (aC (dj `Φ (j2 K 3 (eV (aH 4) (eV (aH 5) (eV (aH 6) (j1))))) (aC (aV (fY (dF K (bH gK [] E0 (ai (aa 6) (ap)))) (aH 8) (ig) (jh a.lA mP [] E0 (ai (dI 1.31 (aa 4)) (ai (dI 1.31 (aa 5)) (ai (aa 8) (ap))))) [8]) (aH 7)) (aV (bH wO [] E0 (ai (aa 3) (ai (aa 7) (ap)))) (aH 3)))) (aK (aa 3)))
def aem(K:Frag):TS:=aC (aV `Ę (aH 1)) (aC (dj (dF K (aa 0)) (aH 2) (aV (aP 0.49 (aa 1) (bo K (aa 2) "spots")) (aH 1))) 5.4)
def aeO(K:Frag)(mT:Sp):TS:=aC (dj (dF K (aa 0)) (aH 2) (bJ (cO (aP R_ (bH mT [] E0 (ai (aa 2) `Ą)) (tC .aX))) (aK 0.85) (bL))) 2.14
def ae2(K:Frag)(a:aj)(wI mP:Sp):TS:=aK (dh (H_ K) (ai (fY (vQ K (tC (.ref a.mw))) (aH 3) (tB (bH wI [] E0 (ai (aa 0) (ai (jh a.lA mP [] E0 (ai (aa 1) 1.44)) (ap))))) (aa 3) [3]) (ap)))
def Tg(K:Frag)(P:`Ô)(w:World)(mg:`þ)(base:Heap)(A:Around):TS:=aC (aV (dh CF 'K') (aH 2)) (aC (sI (dj (vP (aa 0)) (aH 3) (aC (aV (dh CF `Ĉ) (aH 4)) (aC (eL (IS (aa 4) (aa 3))) (bJ (tB (adB P w K mg base (A) (aa 1) `ε)) (aV (aa 4) (aH 2)) (bL)))))) '|')
def adO(K:Frag)(a:aj)(sE sA:Sp):TS:=aC (gA K (aa 0) (qJ) "checklists") (aC (gA K (aa 0) (jh a.cU sE [] E0 (ai (tC (.int (20))) (ai (tC (.int (60))) (ap)))) "told") (aC (gA K (aa 0) (jh a.cU sE [] E0 (ai (tC (.int (10))) (ai (tC (.int (30))) (ap)))) "recorded") (eL (bj a.aQ "lay_ground" sA [] E0 (aa 0) ap))))
def ad0(K:Frag)(a:aj)(mO:Sp):TS:=aC (bJ (tB (uu (aa 1) 0.58)) (aK (dI 0.58 (aa 1))) (bL)) (aK (jh a.gm mO [] E0 (ai (aa 1) (ai '#' (ai '#' (ap))))))
def adZ(K:Frag)(a:aj)(qH:Sp):TS:=aK (bo K (bj a.aQ "side_list" qH [] E0 (aa 0) `Ą) "chains")
def adP(K:Frag)(a:aj)(sC qH:Sp):TS:=gA K (aa 0) (jh a.gP sC [] E0 (ai (bj a.aQ "side_list" qH [] E0 (aa 0) (ai `Ę (ap))) (ai (bj a.aQ "side_list" qH [] E0 (aa 0) (ai `ā (ap))) (ap)))) "ground"
def adL(K:Frag)(a:aj)(gj:Sp):TS:=aK (dh (R5 K) (ai (fY (vQ K (tC (.ref a.oW))) (aH 2) (ig) (uu (aa 1) (bj a.aQ "side_chains" gj [] E0 (aa 0) `Ĉ)) [2]) (ap)))
def adM(K:Frag)(a:aj)(iT:Sp):TS:=aK (dh (RZ K) (ai (fY `Φ (aH 2) (ig) 3.14 [2]) (ap)))
def adQ(K:Frag)(a:aj)(wV wL wZ mO sA:Sp):TS:=aC 4.62 (aC (bJ (tB (uu (aa 1) 0.58)) 9.8 (bL)) (aC (aV (bH wV [] E0 `Ĉ) (aH 3)) (aC (aV (bH wL [] E0 `_O) (aH 4)) (aC (aV (bH wZ [] E0 1.1) (aH 5)) (aC (bJ (cO (aP t5 (aa 5) `Ę)) (aK (bI '2')) (bL)) (aC (lV 0.58 (aa 1) (jh a.gm mO [] E0 (ai (aa 1) (ai (aa 2) `ε)))) (aC (eL (bj a.aQ "lay_ground" sA [] E0 (aa 0) ap)) (aK (bI (ai (dh (gW K) `ε) (ap)))))))))))
def adY(K:Frag)(a:aj):TS:=aC 4.62 (aC (bJ (tB (C0 (aa 1) 0.58)) 9.8 (bL)) (aK (aP jf (bI (ai `Ę (ap))) (bo K (dI 0.58 (aa 1)) "text"))))
def ad2(K:Frag)(a:aj)(mS iT kZ:Sp):TS:=aC (bJ (ji (tB (bH mS [] E0 `Ą))) (aK 1.51) (bL)) (aC (bJ (ji (tB 3.14)) (aK 3.62) (bL)) (aC (bJ (xm (ji (tB (bj a.aQ "has_concept" iT [] E0 (aa 0) `_O))) (cO (aP (i0) (aa 3) (aa 2)))) (aK (eG 0.5 (tC (.int 3)))) (bL)) (aC 3.82 (aK (bj a.cU "refusal" kZ [] E0 0.57 (ai (aa 1) (ai (eG 0.5 (tC (.int 5))) (ap))))))))
def ad1(K:Frag)(a:aj)(IF mR:Sp):TS:=aC (aV (bj a.aQ "tell_refusal" IF [] E0 (aa 0) (ai (aa 1) (ai (aa 2) 1.1))) (aH 5)) (aC (bJ (cO (aP (i0) (aa 5) `Ę)) (eL (bj a.cU "enter" mR [] E0 0.57 (ai (aa 1) (ai (xn (ai (aa 2) 1.1)) (ap))))) (bL)) (aK (bI '2')))
def ad5(K:Frag)(a:aj)(mQ:Sp):TS:=aK (bI (ai (bj a.cU "end_force" mQ [] E0 0.57 `Ą) (ap)))
def adX(K:Frag)(a:aj)(mS CS kZ:Sp):TS:=aC (bJ (ji (tB (bH mS [] E0 `Ą))) (aK 1.51) (bL)) (aC (bJ (ji (tB (bj a.aQ "has_concepts" CS [] E0 (aa 0) `Ĉ))) (aK 3.62) (bL)) (aC (bJ (ji (tB (bj a.aQ "has_concepts" CS [] E0 (aa 0) `_O))) (aK (eG 0.5 (tC (.int 3)))) (bL)) (aK (bj a.cU "refusal" kZ [] E0 1.16 (ai (aa 1) (ai (eG 0.5 (tC (.int 4))) (ap)))))))
def adW(K:Frag)(a:aj)(IC mR:Sp):TS:=aC (aV (bj a.aQ "record_refusal" IC [] E0 (aa 0) (ai (aa 1) 1.44)) (aH 4)) (aC (bJ (cO (aP (i0) (aa 4) `Ę)) (eL (bj a.cU "enter" mR [] E0 1.16 (ai (aa 1) (ai (xn 1.44) (ap))))) (bL)) (aK (bI `ε)))
def adJ(K:Frag)(a:aj)(mQ:Sp):TS:=aK (bI (ai (bj a.cU "end_force" mQ [] E0 1.16 `Ą) (ap)))
def ad4(K:Frag)(a:aj)(wS gj fN:Sp):TS:=aK (bH wS [] E0 (ai 1.61 (ai 2.92 (ai 3.21 2.79))))
def adV(K:Frag)(a:aj)(sB gj:Sp):TS:=aC (aV (bj a.aQ "whole_table" sB [] E0 (aa 0) ap) (aH 1)) (aC 0.17 (aC (IU (dj (BF 1.61) (aH 3) (eL (i3 K "list" tZ (aa 2) (ai (Te (fY (BF 2.92) (aH 4) (ig) (dI (dI (aa 1) (aa 3)) (aa 4)) [4])) (ap)))))) (aK (aP jf 2.11 (aa 2)))))
def adN(K:Frag)(a:aj)(wA fN:Sp):TS:=aK (aP we (bH wA [] E0 (ai 3.21 (ap))) (tC (.int (16))))
def ad6(K:Frag)(a:aj)(pH fN:Sp):TS:=aK (bH pH [] E0 (ai 0.15 (ai 3.21 2.79)))
def adR(K:Frag)(sF:Sp):TS:=aC (aV (bo K 0.15 "extents") (aH 4)) (aK (adD (C4 (fY (vP (aa 3)) (aH 5) (ig) 4.27 [5])) (fY (dF K (aa 3)) (aH 5) (ig) 4.27 [5])))
def adK(a:aj)(iT fW lX fX:Sp):TS:=aC 4.38 (aC (bJ (ji (tB 3.14)) 9.8 (bL)) (aC (bJ 2.57 3.18 (bL)) (aK (bj a.aQ "masks_to" lX [] E0 (aa 0) (ai 0.50 (ai (aa 1) (ai (bI `Ĉ) (ap))))))))
def adS(K:Frag)(a:aj)(fW fX gj lX:Sp):TS:=aC 2.61 (aC (aV 0.50 (aH 1)) (aC 0.17 (aC (IU (dj (BF 1.61) (aH 3) (eL (i3 K "list" tZ (aa 2) (ai (bj a.aQ "masks_to" lX [] E0 (aa 0) (ai (aa 1) (ai (aa 3) (ai 2.92 (ap))))) (ap)))))) (aK (aP jf 2.11 (aa 2))))))
def adT(K:Frag)(a:aj)(fW fX II:Sp):TS:=aC 2.61 (aC (aV 0.50 (aH 1)) (aC (bJ (cO (aP (qD K false) (aa 1) '#')) 9.8 (bL)) (aC (aV (bj a.gP "pairs_of" II [] E0 0.15 (ai (bo K (aP (n4 K) (aa 1) `Ę) "spots") (ap))) (aH 2)) (aC (aV 2.11 (aH 3)) (aC (dj (dF K (aa 2)) (aH 4) (eL (i3 K "list" (R7 K) (aa 3) `ε))) (aK (aa 3)))))))
def adI(K:Frag)(a:aj)(fW fX w6 iF fN wU:Sp):TS:=aC 2.61 (aC (bJ (cO (aP (qD K true) 0.50 '#')) 9.8 (bL)) (aC (aV (bH w6 [] E0 (ai 0.15 (ai (bj a.cU "entries" iF [] E0 0.57 ap) 2.79))) (aH 1)) (aC (aV (bH wU [] E0 (ai 0.15 (ai (xk (aa 1)) (ai (bj a.cU "entries" iF [] E0 1.16 ap) (ap))))) (aH 2)) (aK (aP jf (aP jf (aP jf (bI (ai (dh CG `Ą) (ap))) (dh wg `Ą)) (bI (ai (dh CG `Ĉ) (ap)))) (dh wg `Ĉ))))))
def ad3(K:Frag)(a:aj)(iT fW fX gj lX um uk:Sp):TS:=aC 4.38 (aC (bJ 2.57 9.8 (bL)) (aC (aV 0.50 (aH 2)) (aC (bJ (cO (aP (qD K false) (aa 2) '#')) 3.18 (bL)) (aC (aV (bj a.aQ "side_chains" gj [] E0 (aa 0) (ai (IT (tB (uu (aa 1) 1.61)) `ā `Ę) (ap))) (aH 3)) (aC (aV (fY (dF K (bj a.aQ "masks_to" lX [] E0 (aa 0) (ai (aa 2) (ai (aa 1) `_O)))) (aH 5) (ig) (bH um [] E0 '2') [5]) (aH 4)) (aK (aP jf (bI (ai (aP `Γ `ā (dh (gW K) `ε)) (ai (bH uk [] E0 1.1) (ap)))) (aa 4))))))))
def adU(K:Frag)(a:aj)(iF fW fX sD wu xa:Sp):TS:=aC (aV (bj a.cU "entries" iF [] E0 1.16 ap) (aH 2)) (aC (bJ (tB (C0 (aa 1) (aa 2))) 1.50 (bL)) (aC (bJ 2.57 9.8 (bL)) (aC (aV 0.50 (aH 3)) (aC (bJ (cO (aP (qD K false) (aa 3) '#')) 3.18 (bL)) (aC (aV (aP `_8 (bj a.gP "recorded_spots" sD [] E0 0.15 (ai (aP (zH K) (dI (aa 2) (aa 1)) `Ę) (ai (aP (zH K) (dI (aa 2) (aa 1)) `ā) (ap)))) (bH wu [] E0 `_O)) (aH 4)) (aC (sI (aV (fY (BG (bo K 0.15 "extents")) (aH 6) (ig) (bH xa [] E0 (ai (aa 4) (ai (aa 6) (ap)))) [6]) (aH 5))) (aK (aP jf (bI (ai (dh (gW K) '2') (ap))) (aa 5)))))))))
def adH(K:Frag)(a:aj)(sB wJ wR:Sp):TS:=aC (aV (bj a.aQ "whole_table" sB [] E0 (aa 0) ap) (aH 1)) (aC (bJ (ji (tB (bH wJ [] E0 `Ą))) 1.50 (bL)) (aC (aV (bH wR [] E0 `Ą) (aH 2)) (aC (aV 2.11 (aH 3)) (aC (dj (dF K (aa 2)) (aH 4) (eL (i3 K "list" tZ (aa 3) (ai (aP jf (bI (ai (dh (gW K) `ε) (ap))) (aa 4)) (ap))))) (aK (aa 3))))))
def aeg(K:Frag):TS:=aC (gA K (aa 0) (aa 1) "numbers") (gA K (aa 0) `Ę "place")
def aef(K:Frag):TS:=aK (aP R8 (bo K (aa 0) "place") (dh (gW K) (ai (bo K (aa 0) "numbers") (ap))))
def aeh(K:Frag):TS:=aC (aV (aP (n4 K) (bo K (aa 0) "numbers") (bo K (aa 0) "place")) (aH 1)) (aC (Ih K (aa 0) `ā HZ "place") 5.4)
def aei(K:Frag)(a:aj)(bG:Sp):TS:=aC (aV (bj a.dN "next_number" bG [] E0 (aa 0) ap) (aH 1)) (aC (aV (uv (t6 K) (bo K (aa 0) "numbers") (pK (bo K (aa 0) "place")) (pK (aP `Γ (bo K (aa 0) "place") (aa 1)))) (aH 2)) (aC (Ih K (aa 0) (aa 1) HZ "place") '|'))
def aer(a:aj)(bG lY Iw:Sp):TS:=aC 2.3 (aC (aV 3.29 (aH 3)) (aK (bj a.aQ "load" Iw [] E0 (aa 0) 1.44)))
def aex(a:aj)(bG ID:Sp):TS:=aC 2.3 (aK (bj a.aQ "show" ID [] E0 (aa 0) `Ĉ))
def aey(a:aj)(bG IE:Sp):TS:=aC 2.3 (aC (aV 1.49 (aH 3)) (aC (aV 1.49 (aH 4)) (aC (aV 1.49 (aH 5)) (aK (bj a.aQ "tell" IE [] E0 (aa 0) (ai (aa 2) (ai (aa 3) (ai (aa 4) '2'))))))))
def aeA(a:aj)(bG IH:Sp):TS:=aC 2.3 (aK (bj a.aQ "withdraw" IH [] E0 (aa 0) `Ĉ))
def aew(a:aj)(bG lY IB:Sp):TS:=aC 2.3 (aC (aV 3.29 (aH 3)) (aC (aV 3.29 (aH 4)) (aK (bj a.aQ "record" IB [] E0 (aa 0) (ai (aa 2) 1.1)))))
def aep(a:aj)(bG Iu:Sp):TS:=aC 2.3 (aK (bj a.aQ "drop" Iu [] E0 (aa 0) `Ĉ))
def aev(a:aj)(IA:Sp):TS:=aK (bj a.aQ "quick" IA [] E0 (aa 0) ap)
def aeq(a:aj)(bG Iv:Sp):TS:=aC 2.3 (aC (aV 1.49 (aH 3)) (aK (bj a.aQ "exact" Iv [] E0 (aa 0) 1.44)))
def aes(a:aj)(Ix:Sp):TS:=aK (bj a.aQ "matrix" Ix [] E0 (aa 0) ap)
def aet(a:aj)(Iy:Sp):TS:=aK (bj a.aQ "model" Iy [] E0 (aa 0) ap)
def aeo(a:aj)(Ir:Sp):TS:=aK (bj a.aQ "conflict" Ir [] E0 (aa 0) ap)
def aez(a:aj)(bG IG:Sp):TS:=aC 2.3 (aK (bj a.aQ "translation" IG [] E0 (aa 0) `Ĉ))
def aeu(a:aj)(bG Iz:Sp):TS:=aC 2.3 (aK (bj a.aQ "placed" Iz [] E0 (aa 0) `Ĉ))
def aen(a:aj)(Iq:Sp):TS:=aK (bj a.aQ "built" Iq [] E0 (aa 0) ap)
def Tf(K:Frag)(a:aj)(P:`Ô)(w:World)(mg:`þ)(base:Heap)(A:Around)(ue ug uf bG:Sp):TS:=aC (aV (jh a.aQ ue [] E0 ap) (aH 1)) (aC (aV (jh a.dN ug [] E0 'K') (aH 2)) (aC (aV '#' (aH 3)) (aC (zQ (ji (tB (bj a.dN "at_end" uf [] E0 (aa 2) ap))) (aC (aV (aP (zH K) (tC (.ref a.vp)) (bj a.dN "next_number" bG [] E0 (aa 2) ap)) (aH 4)) (aC (aV (adC P w K mg base (A) (aa 4) (ai (aa 1) `Ĉ)) (aH 5)) (aC (eL (i3 K "list" mK (aa 3) (ai (dh (gW K) '2') (ap)))) (eL (i3 K "list" tZ (aa 3) '2')))))) (aK (aa 3)))))
section
variable{P:Program}{w:World}{K:Frag}{mg:Str->Option Value}{base:Heap}{a:aj}{sp:Sp}(T:Txt K mg a)
include T
end
section
variable{P:Program}{w:World}{K:Frag}{mg:Str->Option Value}{base:Heap}{a:aj}
section
variable{P:Program}{w:World}{K:Frag}{mg:Str->Option Value}{base:Heap}{a:aj}{sp:Sp}(T:Txt K mg a)
include T
local macro_rules|`(tactic|walk_at "b0")=>`(tactic|exact fun _ _ _ _ _ _ _ _ us hl=>match us,hl with|[],_=>rfl)
local macro_rules|`(tactic|walk_at "b1")=>`(tactic|exact fun _ _ _ _ _ _ _ _ us hl=>match us,hl with|[_],_=>rfl)
local macro_rules|`(tactic|walk_at "b2")=>`(tactic|exact fun _ _ _ _ _ _ _ _ us hl=>match us,hl with|[_,_],_=>rfl)
local macro_rules|`(tactic|walk_at "b3")=>`(tactic|exact fun _ _ _ _ _ _ _ _ us hl=>match us,hl with|[_,_,_],_=>rfl)
local macro_rules|`(tactic|walk_at "b4")=>`(tactic|exact fun _ _ _ _ _ _ _ _ us hl=>match us,hl with|[_,_,_,_],_=>rfl)
local macro_rules|`(tactic|walk_at "b5")=>`(tactic|exact fun _ _ _ _ _ _ _ _ us hl=>match us,hl with|[_,_,_,_,_],_=>rfl)
local macro_rules|`(tactic|walk_at "b6")=>`(tactic|exact fun _ _ _ _ _ _ _ _ us hl=>match us,hl with|[_,_,_,_,_,_],_=>rfl)
local macro_rules|`(tactic|walk_at "b7")=>`(tactic|exact fun _ _ _ _ _ _ _ _ us hl=>match us,hl with|[_,_,_,_,_,_,_],_=>rfl)
local macro_rules|`(tactic|walk_at "bb")=>`(tactic|first|walk_at "b0"|walk_at "b1"|walk_at "b2"|walk_at "b3"|walk_at "b4"|walk_at "b5"|walk_at "b6"|walk_at "b7")
local macro_rules|`(tactic|walk_at "sc")=>`(tactic|exact⟨rfl,rfl,rfl,by decide+kernel,rfl,by decide+kernel,by decide+kernel⟩)
theorem ana(h:bc 4 ahd (aej K) sp):Eb•sp:=bg T.Ud h fun hr nd hu=>
 aE (gU (pv 0) (pv 1) rfl) (aE (gU (pv 0) (pv 2) rfl) (aF (gU (pv 0) (pv 3) rfl)))
theorem an1{wB wC uh:Sp}(Kg:Ej•wB)(Kh:Ek•wC)(af':Eb•uh)(h:bc 1 ah0 (ae4 K a wB wC uh) sp):EG•sp:=bg T.UE h fun hr nd hu=>
 aE (zs nd (zc Kg hr T.Kg T.Ul 0.14)) (aE (zs nd (zc Kh hr T.Kh T.Um (ao (pv 0) `ă))) (aE (zs nd (b_ tQ (pv 2) (pv 1))) (aE (bO (PW.pt (HX (df vY (pv 3) (bw) (db _)) (HY (df Ck (pv 3) (de rfl T.amS) (db _))))) (aF (aM (vZ))) (bS)) (aE (zs nd (Cr CQ (pv 0) (wa (pv 2)) (Rf))) (aE (bO (PW.pt (CB (df (Q1 (Pq hr)) (pv 4) '^' (db _)) (CD (df (Q1 (Pq hr)) (pv 4) (bN (ao (de rfl T.Ĩ) (ao (de rfl T.am7) (aA)))) (db _))))) (aF (aM (vZ))) (bS)) (aF (aM (zk T.aoR af' hr T.jX T.Ud (ao (pv 1) (ao (Cr CQ (pv 0) (wa (pv 1)) (wa (pv 2))) (ao (tS (Q1 (Pq hr)) (pv 4) '^' (db _)) (aA))))))))))))
theorem amT(h:bc 2 ag5 (ad' K) sp):xY•sp:=bg T.JA h fun hr nd hu=>
 aE (bO (tV (Q6 hu (pv 1) `Ò)) 7.9 (bS)) (aE (fh (aaQ `Ò (pv 1) ⟨rfl,rfl,rfl,rfl⟩)) (aF (aM (bw))))
theorem an_{gK w_:Sp}(mZ:p_•gK)(KH:EO•w_)(h:bc 1 ah' (afb K gK w_) sp):EN•sp:=bg T.UK h fun hr nd hu=>
 aF (aM (zb (Ww rfl) T.V_ (ao (jO (own:=[("relation",1)]) rfl nd (eh (zc mZ hr T.mZ T.Ad 0.14)) `ď `_H `_U (c5<|zc KH hr T.KH T.UL `ă)) (aA))))
theorem anY{ul:Sp}(Ai:EC•ul)(h:bc 1 ahX (ae1 K ul) sp):ED•sp:=bg T.UC h fun hr nd hu=>
 aE (zs nd (zt (AI rfl) T.qe 0.14)) (aE (CA (i:=2) (own:=[("c",4)]) rfl nd rfl rfl 1.39 `π `ď `_H `_U (c5<|zc Ai hr T.Ai T.JY (ao (pv 0) (ao (bN '.') (aA))))) (aE (zf (Ct rfl T.AG `ă) 0.25 (aF (zf (eh (Cr CQ (pv 1) (wa (b_ pD (pv 3) (bw))) (Rf))) `í (aF (bO (df jv (d_ hu (d_ hu (pv 0) (pv 4) `Ú) (pv 5) `Ú) (de rfl T.am6) (db _)) (aF (fh (j9 kz qa ra qB (pv 2) (ao (zc Ai hr T.Ai T.JY (ao (pv 0) (ao (bN (ao (pv 4) 'U')) (aA)))) (aA))))) (bS)))))) '@'))
theorem anF{wQ:Sp}(Kv:EB•wQ)(h:bc 2 ahC (aeI K wQ) sp):Em•sp:=bg T.Uo h fun hr nd hu=>
 aE (zs nd (tT)) (aE (wc (zf (Cu (pv 1)) `í (aF (n0 hu (pv 2) (pv 3) (bw) rfl)))) (aE (zf (Ct rfl T.AG 0.14) 0.25 (aF (zf (eh (zc Kv hr T.Kv T.UB (ao (pv 5) `ă))) `í (aF (n0 hu (pv 2) (pv 3) (b_ Cn (d_ hu (pv 2) (pv 3) `Ú) (b_ aaJ (bw) (pv 4))) rfl))))) '@'))
theorem an7{sH:Sp}(uJ:EJ•sH)(h:bc 2 ah7 (ae_ K sH) sp):EK•sp:=bg T.UH h fun hr nd hu=>
 aF (zf `π 0.25 (aF (zf (eh (pv 2)) `í (aE (zf (eh (pv 2)) `í (aF (fh (zc uJ hr T.uJ T.Di (ao (pv 0) (ao (pv 4) (ao (pv 5) (ao (de rfl T.PM) (aA))))))))) (aF (zf (eh (pv 3)) `í (aE (fh (zc uJ hr T.uJ T.Di (ao (pv 0) (ao (pv 4) (ao (pv 5) (ao (de rfl T.GN) (aA))))))) (aF (fh (zc uJ hr T.uJ T.Di (ao (pv 0) (ao (pv 5) (ao (pv 4) (ao (de rfl T.ĩ) (aA)))))))))))))))
theorem anc(h:bc 3 ahe (aek K) sp):x_•sp:=bg T.JE h fun hr nd hu=>
 aE (gU (pv 0) (pv 1) rfl) (aF (gU (pv 0) (pv 2) rfl))
theorem anU{mT:Sp}(xB:yc•mT)(h:bc 2 ahR (aeX K mT) sp):Ez•sp:=bg T.Uz h fun hr nd hu=>
 aE 1.3 (aE (zf (eh (pv 0)) `í (aF (zf `π `í (aE (zs nd (zc xB hr T.xB T.JW 2.6)) (aF (bO (df aaI (pv 5) (vZ) (db _)) (aF (fh (j9 kz qa ra qB (pv 2) 'U'))) (bS))))))) '@')
theorem anE(h:∀vs H Q E,sp vs H Q E->`õ=2/\∀A,cH 6 A->Tg K P w mg base A {nx:=fun _ H'=>Q .aX H',rt:=Q} (start Vm vs) H):El•sp:=
 T.Ac.ok CN 3.46 fun dk A bK s H vs Q E hr q=>⟨Tg K P w mg base (A.deeper (envOfC "entries_that_stay" (gQ Ii) s.heap.objs.size a.FP dk)),
 aE (mI (i:=2) CN.nd rfl `ο (Q9 (Ml rfl) rfl T.Mg (`ē) 0.14)) (aE (wc (abo LK rfl (Cu (pv 0)) (ss (i:=3) CN.nd rfl `ο) (aE (mI (i:=4) CN.nd rfl `ο (Q9 (Ml rfl) rfl T.Mg (`ē) `Ă)) (aE (fh (aaQ (pv 4) (pv 3) ⟨rfl,rfl,rfl,rfl⟩)) (aF (bO (fL (asc bf (pv 1) '.')) (aF (mI (i:=2) CN.nd rfl `ο (pv 4))) (bS))))))) '@'),(h vs H Q E q).2 _ hr⟩
theorem amC(h:bc 2 agS (adY K a) sp):DZ•sp:=bg T.T4 h fun hr nd hu=>
 aE (bO (df Q2 (pv 1) (mH rfl T.oW rfl) 9.5) ')' (bS)) (aE (bO (tV (Q6 hu (pv 1) `Ò)) ')' (bS)) (aF (aM (b_ kU (bN (ao (bw) (aA))) (bz (d_ hu `Ò (pv 1) `Ú) rfl)))))
theorem amA{IC mR:Sp}(af1:DY•IC)(J9:xZ•mR)(h:bc 4 agQ (adW K a IC mR) sp):DX•sp:=bg T.TZ h fun hr nd hu=>
 aE (zs nd (dC (pv 0) T.bU T.agr af1 `Ý (aiL T.T0) .nil bf (ao (pv 1) 1.45))) (aE (bO (df jv (pv 4) (bw) (db _)) (aF (fh (dC `Ò T.jo T.Vj J9 `Ý (VY T.JB) .nil bf (ao (pv 1) (ao (Cs 1.45) (aA)))))) (bS)) (aF (aM (bN '.'))))
theorem amK{pH fN:Sp}(Ak:yd•pH)(qS:p9•fN)(h:bc 1 ag0 (ad6 K a pH fN) sp):lj•sp:=bg T.uG h fun hr nd hu=>
 aF (aM (zc Ak hr T.Ak T.xy (ao `Ò (ao 0.39 (ao 0.39 (aA))))))
theorem amH{iT fW fX gj lX um uk:Sp}(qR:p8•iT)(ow:lh•fW)(ox:lj•fX)(l_:ni•gj)(Af:sS•lX)(KI:EQ•um)(Dm:Ly•uk)(h:bc 2 agX (ad3 K a iT fW fX gj lX um uk) sp):D6•sp:=bg T.T9 h fun hr nd hu=>
 aE 4.13 (aE 0.31 (aE 1.64 (aE (bO (df (Cj hr.zV) (pv 2) '^' (db _)) ')' (bS)) (aE (zs nd (dC (pv 0) T.bU T.qZ l_ `Ý (rh T.pV) .nil bf (ao (aaR (tV (zF hu (pv 1) 9.7)) (bw) (bw)) (aA)))) (aE (CA (i:=4) (own:=[("mask",5)]) rfl nd rfl rfl 1.39 (eh (dC (pv 0) T.bU T.La Af `Ý (L' T.De) .nil bf (ao (pv 2) (ao (pv 1) `_0)))) `ď `_H `_U (c5<|zc KI hr T.KI T.UM 'U')) (aF (aM (b_ kU (bN (ao (b_ pD (bw) (gz iI rfl T.gF gN '.')) (ao (zc Dm hr T.Dm T.JX 2.6) (aA)))) (pv 4)))))))))
theorem anl{bG lY Iw:Sp}(gC:gL•bG)(Dl:x9•lY)(afV:DS•Iw)(h:bc 2 ahl (aer a bG lY Iw) sp):Ln•sp:=bg T.JK h fun hr nd hu=>
 aE `ω (aE 2.87 (aF (aM (dC (pv 0) T.bU T.agl afV `Ý (aiF T.TU) .nil bf 1.45))))
theorem anm{Ix:Sp}(afW:DT•Ix)(h:bc 2 ahm (aes a Ix) sp):Lo•sp:=bg T.JL h fun hr nd hu=>
 aF (aM (cR (pv 0) T.bU T.agm afW `Ý (aiG T.TV) .nil bf))
theorem anh{Iq:Sp}(afQ:DM•Iq)(h:bc 2 ahh (aen a Iq) sp):Lj•sp:=bg T.JG h fun hr nd hu=>
 aF (aM (cR (pv 0) T.bU T.agh afQ `Ý (aiA T.TJ) .nil bf))
end
section
variable{P:Program}{w:World}{K:Frag}{mg:Str->Option Value}{base:Heap}{a:aj}{sp:Sp}(T:Txt K mg a)
include T
local macro_rules|`(tactic|walk_at "b0")=>`(tactic|exact fun _ _ _ _ _ _ _ _ us hl=>match us,hl with|[],_=>rfl)
local macro_rules|`(tactic|walk_at "b1")=>`(tactic|exact fun _ _ _ _ _ _ _ _ us hl=>match us,hl with|[_],_=>rfl)
local macro_rules|`(tactic|walk_at "b2")=>`(tactic|exact fun _ _ _ _ _ _ _ _ us hl=>match us,hl with|[_,_],_=>rfl)
local macro_rules|`(tactic|walk_at "b3")=>`(tactic|exact fun _ _ _ _ _ _ _ _ us hl=>match us,hl with|[_,_,_],_=>rfl)
local macro_rules|`(tactic|walk_at "b4")=>`(tactic|exact fun _ _ _ _ _ _ _ _ us hl=>match us,hl with|[_,_,_,_],_=>rfl)
local macro_rules|`(tactic|walk_at "b5")=>`(tactic|exact fun _ _ _ _ _ _ _ _ us hl=>match us,hl with|[_,_,_,_,_],_=>rfl)
local macro_rules|`(tactic|walk_at "b6")=>`(tactic|exact fun _ _ _ _ _ _ _ _ us hl=>match us,hl with|[_,_,_,_,_,_],_=>rfl)
local macro_rules|`(tactic|walk_at "b7")=>`(tactic|exact fun _ _ _ _ _ _ _ _ us hl=>match us,hl with|[_,_,_,_,_,_,_],_=>rfl)
local macro_rules|`(tactic|walk_at "bb")=>`(tactic|first|walk_at "b0"|walk_at "b1"|walk_at "b2"|walk_at "b3"|walk_at "b4"|walk_at "b5"|walk_at "b6"|walk_at "b7")
local macro_rules|`(tactic|walk_at "sc")=>`(tactic|exact⟨rfl,rfl,rfl,by decide+kernel,rfl,by decide+kernel,by decide+kernel⟩)
theorem amk{wv:Sp}(Kb:Ee•wv)(h:bc 4 agA (adG K wv) sp):xS•sp:=bg T.Ju h fun hr nd hu=>
 aE (gU (pv 0) (pv 2) rfl) (aE (gU (pv 0) (zc Kb hr T.Kb T.Ug (ao (pv 1) `_0)) rfl) (aF (gU (pv 0) (Ra (jO (own:=[("number",4),("row",5)]) rfl nd (aaX rfl T.Fc (ao `Ò `_0)) `ď (c5<|lQ rfl 0.37) (c5<|zG (jP (fL (bz (pv 5) rfl)))) (c5<|pv 4))) rfl)))
theorem an9{wG:Sp}(Kl:Ep•wG)(h:bc 2 ah9 (afa K wG) sp):EM•sp:=bg T.UJ h fun hr nd hu=>
 aE (bO (df vY (gz iI rfl T.gF gN `ă) 1.92 (db _)) (aF (aM (b_ tQ (fg fj (bw)) (b_ pD (gz iI rfl T.gF gN `ă) (bw))))) (bS)) (aE (zf (Ct rfl T.AG `ă) 0.25 (aF (bO (PW.pt (CB (fL (bz (pv 3) rfl)) (CD (jP (fL (zc Kl hr T.Kl T.Ur (ao (pv 1) `Ă))))))) (aF (aM (b_ tQ (fg fj (bw)) (b_ pD (pv 2) (bw))))) (bS)))) (aF (aM (bw))))
theorem amV(h:bc 1 ag7 (aeb K) sp):sT•sp:=bg T.Ab h fun hr nd hu=>
 aE (zs nd (tT)) (aE (zf (eh (zb (ajB rfl) T.aja (ao `Ò (aA)))) `í (aF (n0 hu (pv 1) (pv 2) (d_ hu `Ò (pv 2) `Ú) rfl))) 3.6)
theorem anz{gK ww:Sp}(mZ:p_•gK)(Kc:Ef•ww)(h:bc 2 ahx (aeD K gK ww) sp):Eg•sp:=bg T.Ui h fun hr nd hu=>
 aE (zs nd (bw)) (aE (zf (eh (zc mZ hr T.mZ T.Ad `ă)) `í (aF (zs nd (b_ Cn (pv 2) (zc Kc hr T.Kc T.Uh (ao (pv 0) `_0)))))) '@')
theorem amN{wW wD:Sp}(KA:EI•wW)(Ki:Em•wD)(h:bc 3 ag2 (ad8 K wW wD) sp):D8•sp:=bg T.T' h fun hr nd hu=>
 aE (gU (pv 0) (zc KA hr T.KA T.UG (ao (bz (pv 1) rfl) (ao (bz (pv 2) rfl) (aA)))) rfl) (aE (gU (pv 0) (b_ tQ (b_ aaJ (bw) (gz iI rfl T.gF gN (ao `Ò (aA)))) (bw)) rfl) (aE (zs nd (zt (Ml rfl) T.Mg (ao (bz (pv 1) rfl) (aA)))) (aE (fh (asf (pv 3) (bz (pv 2) rfl) ⟨rfl,rfl,rfl,rfl⟩)) (aF (gU (pv 0) (zc Ki hr T.Ki T.Uo (ao `Ò `_0)) rfl)))))
theorem anW(h:bc 2 ahU (aeZ K) sp):EB•sp:=bg T.UB h fun hr nd hu=>
 aE 1.3 (aE (zf (Cv (pv 0)) `í (aF (bO (df Q0 (pv 3) (de rfl T.PP) (db _)) (aF (fh (j9 kz u5 Ax BY (pv 2) (ao (d_ hu (pv 1) (pv 3) `Ú) (aA))))) (bS)))) '@')
theorem an8{uj w9:Sp}(Ah:Eu•uj)(KG:EN•w9)(h:bc 2 ah8 (ae' K uj w9) sp):EL•sp:=bg T.UI h fun hr nd hu=>
 aF (zf `π (lQ rfl (fF `í 0.37)) (aE (fh (zc Ah hr T.Ah T.JV (ao (pv 0) (ao (pv 2) 2.6)))) (aF (fh (zc Ah hr T.Ah T.JV (ao (pv 0) (ao (pv 3) (ao (pv 2) (ao (zc KG hr T.KG T.UK '.') (aA))))))))))
theorem aob(h:bc 2 aic (afe) sp):ER•sp:=bg T.UN h fun hr nd hu=>
 aE (zs nd (b_ mG (pv 0) (pv 1))) (aE (bO (df jv (pv 2) (pv 0) (db _)) (aF (aM (de rfl T.PQ))) (bS)) (aE (bO (df jv (pv 2) (bw) (db _)) (aF (aM (de rfl T.Ĭ))) (bS)) (aF (aM (de rfl T.ī)))))
theorem anH{sD l5 lZ:Sp}(J7:xX•sD)(sL:yb•l5)(J':x_•lZ)(h:bc 2 ahE (aeK K a sD l5 lZ) sp):Eo•sp:=bg T.Uq h fun hr nd hu=>
 aE (zs nd (Cq rfl rfl T.qe `Ò)) (aE (zf `π 0.25 (aF (fh (j9 kz qa ra qB (pv 2) (ao (dC (pv 0) T.Fi T.Vh J7 `Ý (VW T.Jz) .nil bf 2.6) (aA)))))) (aE (bO (jP (fL (zc sL hr T.sL T.Dh (ao `Ò `Ă)))) (aF (aM '^')) (bS)) (aF (aM (bN (ao (zk T.Ś J' hr T.kG T.JE (ao `Ò `Ă)) (aA)))))))
theorem ams{sE sA:Sp}(UP:D_•sE)(J4:xT•sA)(h:bc 1 agI (adO K a sE sA) sp):DR•sp:=bg T.TR h fun hr nd hu=>
 aE (gU (pv 0) (tT) rfl) (aE (gU (pv 0) (zk T.ř UP hr T.cU T.JC (ao (de rfl T.am4) (ao (de rfl T.am3) (aA)))) rfl) (aE (gU (pv 0) (zk T.ř UP hr T.cU T.JC (ao (de rfl T.am2) (ao (de rfl T.am1) (aA)))) rfl) (aF (fh (cR (pv 0) T.bU T.Vf J4 `Ý (VU T.Jw) .nil bf)))))
theorem amq{iT:Sp}(qR:p8•iT)(h:bc 2 agG (adM K a iT) sp):DQ•sp:=bg T.Jv h fun hr nd hu=>
 aF (aM (zb (ajy rfl) T.ai_ (ao (jO (own:=[("number",2)]) rfl nd `π `ď `_H `_U (c5<|dC (pv 0) T.bU T.xL qR `Ý (yl T.uE) .nil bf `Ă)) (aA))))
theorem amB{mS CS kZ:Sp}(xA:ya•mS)(UO:DQ•CS)(J_:x8•kZ)(h:bc 4 agR (adX K a mS CS kZ) sp):DY•sp:=bg T.T0 h fun hr nd hu=>
 aE (bO (jP (fL (zc xA hr T.xA T.JU `ă))) 7.9 (bS)) (aE (bO (jP (fL (dC (pv 0) T.bU T.Ve UO `Ý (VT T.Jv) .nil bf `Ă))) 7.9 (bS)) (aE (bO (jP (fL (dC (pv 0) T.bU T.Ve UO `Ý (VT T.Jv) .nil bf `_0))) 7.9 (bS)) 4.23))
theorem amv{sF:Sp}(Aj:EE•sF)(h:bc 4 agL (adR K sF) sp):sS•sp:=bg T.De h fun hr nd hu=>
 aE (mI (i:=4) nd rfl 2.0 (bz `Ò rfl)) (aF (aM (asg (Ra (jO (own:=[("d",5)]) rfl nd (Cu (pv 3)) `ď `_H `_U 3.83)) (jO (own:=[("d",5)]) rfl nd (eh (pv 3)) `ď `_H `_U 3.83))))
theorem amy{iF fW fX sD wu xa:Sp}(xz:sT•iF)(ow:lh•fW)(ox:lj•fX)(J7:xX•sD)(Ka:Ed•wu)(KJ:ER•xa)(h:bc 2 agO (adU K a iF fW fX sD wu xa) sp):DV•sp:=bg T.TX h fun hr nd hu=>
 aE (zs nd 3.10) (aE (bO (tV (Q6 hu (pv 1) (pv 2))) ')' (bS)) (aE 0.31 (aE 1.64 (aE (bO (df (Cj hr.zV) (pv 3) '^' (db _)) ')' (bS)) (aE (mI (i:=4) nd rfl 2.0 (b_ mG (dC `Ò T.Fi T.Vh J7 `Ý (VW T.Jz) .nil bf (ao (nY PL (d_ hu (pv 2) (pv 1) `Ú) (bw) `Ú) (ao (nY PL (d_ hu (pv 2) (pv 1) `Ú) (bw) `Ú) (aA)))) (zc Ka hr T.Ka T.Ue `_0))) (aE (wc (CA (i:=5) (own:=[("extent",6)]) rfl nd rfl rfl 1.39 (Rc (bz `Ò rfl)) `ď `_H `_U (c5<|zc KJ hr T.KJ T.UN (ao (pv 4) (ao (pv 6) (aA)))))) (aF (aM (b_ kU (bN (ao (gz iI rfl T.gF gN 'U') (aA))) (pv 5))))))))))
theorem anv{bG IH:Sp}(gC:gL•bG)(af6:D7•IH)(h:bc 2 ahu (aeA a bG IH) sp):Lx•sp:=bg T.JT h fun hr nd hu=>
 aE `ω (aF (aM (dC (pv 0) T.bU T.agw af6 `Ý (aiQ T.T_) .nil bf `Ă)))
theorem ank{bG Iv:Sp}(gC:gL•bG)(afT:DP•Iv)(h:bc 2 ahk (aeq a bG Iv) sp):Lm•sp:=bg T.JJ h fun hr nd hu=>
 aE `ω (aE `ω (aF (aM (dC (pv 0) T.bU T.agk afT `Ý (aiD T.TQ) .nil bf 1.45))))
end
section
variable{P:Program}{w:World}{K:Frag}{mg:Str->Option Value}{base:Heap}{a:aj}{sp:Sp}(T:Txt K mg a)
include T
local macro_rules|`(tactic|walk_at "b0")=>`(tactic|exact fun _ _ _ _ _ _ _ _ us hl=>match us,hl with|[],_=>rfl)
local macro_rules|`(tactic|walk_at "b1")=>`(tactic|exact fun _ _ _ _ _ _ _ _ us hl=>match us,hl with|[_],_=>rfl)
local macro_rules|`(tactic|walk_at "b2")=>`(tactic|exact fun _ _ _ _ _ _ _ _ us hl=>match us,hl with|[_,_],_=>rfl)
local macro_rules|`(tactic|walk_at "b3")=>`(tactic|exact fun _ _ _ _ _ _ _ _ us hl=>match us,hl with|[_,_,_],_=>rfl)
local macro_rules|`(tactic|walk_at "b4")=>`(tactic|exact fun _ _ _ _ _ _ _ _ us hl=>match us,hl with|[_,_,_,_],_=>rfl)
local macro_rules|`(tactic|walk_at "b5")=>`(tactic|exact fun _ _ _ _ _ _ _ _ us hl=>match us,hl with|[_,_,_,_,_],_=>rfl)
local macro_rules|`(tactic|walk_at "b6")=>`(tactic|exact fun _ _ _ _ _ _ _ _ us hl=>match us,hl with|[_,_,_,_,_,_],_=>rfl)
local macro_rules|`(tactic|walk_at "b7")=>`(tactic|exact fun _ _ _ _ _ _ _ _ us hl=>match us,hl with|[_,_,_,_,_,_,_],_=>rfl)
local macro_rules|`(tactic|walk_at "bb")=>`(tactic|first|walk_at "b0"|walk_at "b1"|walk_at "b2"|walk_at "b3"|walk_at "b4"|walk_at "b5"|walk_at "b6"|walk_at "b7")
local macro_rules|`(tactic|walk_at "sc")=>`(tactic|exact⟨rfl,rfl,rfl,by decide+kernel,rfl,by decide+kernel,by decide+kernel⟩)
theorem an3(h:bc 1 ah3 (ae6 K) sp):EH•sp:=bg T.UF h fun hr nd hu=>
 aE 1.3 (aE 1.3 (aE (zf (eh (pv 0)) `í (aF (bO (df jv (pv 3) (de rfl T.amR) (db _)) (aE (fh (j9 kz qa ra qB (pv 1) `Ă)) (aF 1.3)) (aF (fh (j9 kz qa ra qB (pv 2) `_0)))))) (aE (fh (j9 kz qa ra qB (pv 1) `Ă)) 3.6)))
theorem anw(h:bc 2 ahv (aeB K) sp):Ee•sp:=bg T.Ug h fun hr nd hu=>
 aE (zs nd (tT)) (aE 1.3 (aE (zf (Ct rfl T.AG `ă) 0.25 (aE (zs nd (b_ pD (b_ aaH (pv 0) (de rfl T.anb)) (pv 4))) (aE (zs nd (Cr CQ (pv 3) (wa (b_ tQ (gz iI rfl T.gF gN `_0) (bz (pv 5) rfl))) (Rf))) (aE (zs nd (b_ kU (bN (ao (pv 6) (aA))) (pv 7))) (aF (n0 hu (pv 2) (pv 6) (pv 3) rfl)))))) '@'))
theorem amU(h:bc 3 ag6 (aea K) sp):xZ•sp:=bg T.JB h fun hr nd hu=>
 aE (n0 hu `Ò (pv 1) (nX) rfl) (aF (n0 hu `Ò (pv 1) (pv 2) rfl))
theorem an'(h:bc 1 aia (afc) sp):EO•sp:=bg T.UL h fun hr nd hu=>
 aE (bO (df jv (pv 0) (de rfl T.ĭ) (db _)) (aF (aM (de rfl T.Ī))) (bS)) (aE (bO (df jv (pv 0) (de rfl T.Ī) (db _)) (aF (aM (de rfl T.ĭ))) (bS)) (aF (aM (pv 0))))
theorem anM(h:bc 1 ahJ (aeP K a) sp):Et•sp:=bg T.Uu h fun hr nd hu=>
 aE (wc (zf (Rc (pv 0)) `í (aF (wc (zf (Rc (pv 1)) `í (aF (bO (df Q2 (pv 2) (mH rfl T.mw rfl) 9.5) 8.6 (bS)))))))) 8.6
theorem amO(h:bc 2 ag3 (ad9 K) sp):D9•sp:=bg T.Ua h fun hr nd hu=>
 aF (aM (jO (own:=[("place",2),("pair",3)]) rfl nd (Ct rfl T.AG (ao `Ò (aA))) `ď (c5<|lQ rfl 0.37) (c5<|zG (RX (b_ mG (b_ ar4 (pv 1) (pv 2)) (bw)) (fun _=>rfl))) (c5<|pv 3)))
theorem ane{wE:Sp}(Kj:En•wE)(h:bc 4 ahf (ael K wE) sp):Ec•sp:=bg T.JF h fun hr nd hu=>
 aF (wc (zf (Cu (pv 1)) `í (aE (zs nd (tT)) (aE (zf (eh (pv 3)) `í (aF (n0 hu (pv 5) (pv 6) (zc Kj hr T.Kj T.Up (ao (pv 1) (ao (pv 2) (ao (pv 4) (ao (pv 6) (aA)))))) rfl))) (aF (n0 hu (pv 0) (pv 4) (pv 5) rfl))))))
theorem an0{ui wY wX wz wN:Sp}(Ag:Ec•ui)(KC:EL•wY)(KB:EK•wX)(Ke:Eh•wz)(Ks:Ey•wN)(h:bc 4 ahZ (ae3 ui wY wX wz wN) sp):EF•sp:=bg T.UD h fun hr nd hu=>
 aE (zs nd (b_ kU (zt (AI rfl) T.qe 0.14) (zt (AI rfl) T.qe `ă))) (aE (zs nd (tT)) (aE (fh (zc Ag hr T.Ag T.JF (ao (pv 5) (ao (pv 0) (ao (pv 1) '.'))))) (aE (fh (zc Ag hr T.Ag T.JF (ao (pv 5) (ao (pv 1) (ao (pv 0) '.'))))) (aE (fh (zc KC hr T.KC T.UI (ao (pv 5) `Ă))) (aE (fh (zc KB hr T.KB T.UH (ao (pv 5) `_0))) (aE (zs nd (zc0 Ke hr T.Ke T.Uj)) (aE (zs nd (nX)) (aE (zw (fL (pv 7)) (aF (zs nd (zc Ks hr T.Ks T.Uy (ao (pv 5) (ao (pv 4) (ao (pv 6) (aA)))))))) (aF (aM (pv 5)))))))))))
theorem anT{mU l5 lZ:Sp}(xC:ye•mU)(sL:yb•l5)(J':x_•lZ)(h:bc 2 ahQ (aeW K a mU l5 lZ) sp):yc•sp:=bg T.JW h fun hr nd hu=>
 aE (zs nd (zc xC hr T.xC T.J2 (ao `Ò (ao (bz (pv 1) rfl) (aA))))) (aE (bO (jP (fL (zc sL hr T.sL T.Dh (ao (pv 2) (ao (bz (pv 1) rfl) (aA)))))) (aF (aM (vZ))) (bS)) (aE (bO (PW.pt (CB (df Q0 (pv 2) `Ò (db _)) (CD (jP (fL (zc sL hr T.sL T.Dh (ao (pv 2) (ao `Ò (aA))))))))) (aF (aM (vZ))) (bS)) (aF (aM (zk T.Ś J' hr T.kG T.JE (ao (pv 2) (ao (b_ kU `Ò (bz (pv 1) rfl)) (aA))))))))
theorem anZ{wI mP:Sp}(Kn:Es•wI)(J6:xW•mP)(h:bc 3 ahY (ae2 K a wI mP) sp):EE•sp:=bg T.JZ h fun hr nd hu=>
 aF (aM (zb (Ww rfl) T.V_ (ao (jO (own:=[("relation",3)]) rfl nd (Cv (mH rfl T.mw rfl)) `ď `_H (c5<|zG (fL (zc Kn hr T.Kn T.Ut (ao (pv 0) (ao (zk T.Ř J6 hr T.lA T.Jy (ao (pv 1) 1.45)) (aA)))))) (c5<|pv 3)) (aA))))
theorem amp{gj:Sp}(l_:ni•gj)(h:bc 2 agF (adL K a gj) sp):p8•sp:=bg T.uE h fun hr nd hu=>
 aF (aM (zb (ajz rfl) T.V8 (ao (jO (own:=[("side",2)]) rfl nd (Cv (mH rfl T.oW rfl)) `ď `_H `_U (c5<|ase (zF hu (pv 1) (dC (pv 0) T.bU T.qZ l_ `Ý (rh T.pV) .nil bf `Ă)))) (aA))))
theorem amJ{mQ:Sp}(J8:xY•mQ)(h:bc 2 agZ (ad5 K a mQ) sp):D7•sp:=bg T.T_ h fun hr nd hu=>
 aF 4.26
theorem amr{wA fN:Sp}(Kf:Ei•wA)(qS:p9•fN)(h:bc 1 agH (adN K a wA fN) sp):lh•sp:=bg T.uF h fun hr nd hu=>
 aF (aM (tS Ck (zc Kf hr T.Kf T.Uk (ao 0.39 (aA))) (de rfl T.amZ) (db _)))
theorem amx{fW fX II:Sp}(ow:lh•fW)(ox:lj•fX)(af8:D9•II)(h:bc 1 agN (adT K a fW fX II) sp):DU•sp:=bg T.TW h fun hr nd hu=>
 aE 0.31 (aE 1.64 (aE (bO (df (Cj hr.zV) (pv 1) '^' (db _)) ')' (bS)) (aE (zs nd (dC `Ò T.Fi T.agx af8 `Ý (aiR T.Ua) .nil bf (ao (bz (nY rZ (pv 1) (bw) `Ú) rfl) (aA)))) (aE (zs nd 1.77) (aE (zf (eh (pv 2)) `í (aF (fh (j9 kz u5 Ax aoW (pv 3) '.')))) 0.84)))))
theorem am9(h:bc 2 aha (aeg K) sp):Ea•sp:=bg T.Uc h fun hr nd hu=>
 aE (gU (pv 0) (pv 1) rfl) (aF (gU (pv 0) (bw) rfl))
theorem am'{bG:Sp}(gC:gL•bG)(h:bc 1 ahc (aei K a bG) sp):x9•sp:=bg T.Dg h fun hr nd hu=>
 aE (zs nd (cR (pv 0) T.iV T.kx gC `Ý (kE T.jS) .nil bf)) (aE (zs nd (Cr CQ `Ò (wa `Ò) (wa (b_ pD `Ò (pv 1))))) (aE (abn (pv 0) (pv 1) Z3) '@'))
theorem anj{bG Iu:Sp}(gC:gL•bG)(afS:DO•Iu)(h:bc 2 ahj (aep a bG Iu) sp):Ll•sp:=bg T.JI h fun hr nd hu=>
 aE `ω (aF (aM (dC (pv 0) T.bU T.agj afS `Ý (aiC T.TN) .nil bf `Ă)))
theorem anu{bG IG:Sp}(gC:gL•bG)(af5:D6•IG)(h:bc 2 aht (aez a bG IG) sp):Lw•sp:=bg T.JS h fun hr nd hu=>
 aE `ω (aF (aM (dC (pv 0) T.bU T.agv af5 `Ý (aiP T.T9) .nil bf `Ă)))
end
section
variable{P:Program}{w:World}{K:Frag}{mg:Str->Option Value}{base:Heap}{a:aj}{sp:Sp}(T:Txt K mg a)
include T
local macro_rules|`(tactic|walk_at "b0")=>`(tactic|exact fun _ _ _ _ _ _ _ _ us hl=>match us,hl with|[],_=>rfl)
local macro_rules|`(tactic|walk_at "b1")=>`(tactic|exact fun _ _ _ _ _ _ _ _ us hl=>match us,hl with|[_],_=>rfl)
local macro_rules|`(tactic|walk_at "b2")=>`(tactic|exact fun _ _ _ _ _ _ _ _ us hl=>match us,hl with|[_,_],_=>rfl)
local macro_rules|`(tactic|walk_at "b3")=>`(tactic|exact fun _ _ _ _ _ _ _ _ us hl=>match us,hl with|[_,_,_],_=>rfl)
local macro_rules|`(tactic|walk_at "b4")=>`(tactic|exact fun _ _ _ _ _ _ _ _ us hl=>match us,hl with|[_,_,_,_],_=>rfl)
local macro_rules|`(tactic|walk_at "b5")=>`(tactic|exact fun _ _ _ _ _ _ _ _ us hl=>match us,hl with|[_,_,_,_,_],_=>rfl)
local macro_rules|`(tactic|walk_at "b6")=>`(tactic|exact fun _ _ _ _ _ _ _ _ us hl=>match us,hl with|[_,_,_,_,_,_],_=>rfl)
local macro_rules|`(tactic|walk_at "b7")=>`(tactic|exact fun _ _ _ _ _ _ _ _ us hl=>match us,hl with|[_,_,_,_,_,_,_],_=>rfl)
local macro_rules|`(tactic|walk_at "bb")=>`(tactic|first|walk_at "b0"|walk_at "b1"|walk_at "b2"|walk_at "b3"|walk_at "b4"|walk_at "b5"|walk_at "b6"|walk_at "b7")
local macro_rules|`(tactic|walk_at "sc")=>`(tactic|exact⟨rfl,rfl,rfl,by decide+kernel,rfl,by decide+kernel,by decide+kernel⟩)
theorem anK(h:bc 1 ahH (aeN) sp):Er•sp:=bg T.Us h fun hr nd hu=>
 aF (aM (asl (Q_ zC zC (bw) (pv 0) (bw)) (aaU (Q_ zC zC (bw) (pv 0) (bw)))))
theorem anQ(h:bc 2 ahN (aeT K) sp):Ex•sp:=bg T.Ux h fun hr nd hu=>
 aE (bO (df jv (gz iI rfl T.gF gN `ă) (de rfl T.am0) (db _)) 8.6 (bS)) (aE (zs nd (aaR (RX (pv 1) (fun _=>rfl)) (b_ pD (bz (nY rZ (pv 1) (fg fj (bw)) `Ú) rfl) (bw)) (bw))) (aE (bO (df Ck `Ò (pv 2) (db _)) 8.6 (bS)) (aF (aM (tS (ar3 (al7 hr)) `Ò (jO (own:=[("other",3)]) rfl nd `π `ď `_H `_U (c5<|bz (pv 3) rfl)) 9.5)))))
theorem amX(h:bc 3 ag9 (aed K) sp):D_•sp:=bg T.JC h fun hr nd hu=>
 aE (gU (pv 0) (pv 1) rfl) (aE (gU (pv 0) (pv 2) rfl) (aE (gU (pv 0) (tT) rfl) (aF (gU (pv 0) (tT) rfl))))
theorem an2(h:bc 1 ah2 (ae5 K a) sp):p_•sp:=bg T.Ad h fun hr nd hu=>
 aF (aM (jO (own:=[("relation",1)]) rfl nd (Cv (mH rfl T.mw rfl)) `ď `_H (c5<|zG (RX (b_ mG (pv 0) (pv 1)) (fun _=>rfl))) (c5<|pv 1)))
theorem anA{wy wK:Sp}(Kd:Eg•wy)(Kp:Ev•wK)(h:bc 0 ahy (aeE K a wy wK) sp):Eh•sp:=bg T.Uj h fun hr nd hu=>
 aE (zs nd (bN (ao (jO (own:=[("mask",3)]) rfl nd (aaW rfl T.V9 (ao (b_ pD (de rfl T.BJ) (bw)) (aA))) `ď `_H `_U (c5<|bw)) (aA)))) (aE (zf (Cv (mH rfl T.mw rfl)) (ss (i:=1) nd rfl 2.0) (aE (mI (i:=2) nd rfl 2.0 (jO (own:=[("mask",3)]) rfl nd (aaW rfl T.V9 (ao (b_ pD (de rfl T.BJ) (bw)) (aA))) `ď `_H `_U (c5<|zc Kd hr T.Kd T.Ui (ao (pv 1) `_0)))) (aF (zs nd (b_ kU (pv 0) (jO (own:=[("row",4)]) rfl nd (eh (pv 0)) `ď `_H `_U (c5<|zc Kp hr T.Kp T.Uv (ao (pv 4) `Ă)))))))) (aF (aM (pv 0))))
theorem aoc(h:bc 2 aid (aff) sp):ye•sp:=bg T.J2 h fun hr nd hu=>
 aF (aM (b_ Q3 (pv 0) (b_ mG (pv 0) (pv 1))))
theorem anN(h:bc 4 ahK (aeQ) sp):Eu•sp:=bg T.JV h fun hr nd hu=>
 aF (n0 hu 2.26 (pv 2) (b_ mG (d_ hu 2.26 (pv 2) `Ú) (pv 3)) rfl)
theorem anS{wP:Sp}(Ku:EA•wP)(h:bc 3 ahP (aeV K wP) sp):Ey•sp:=bg T.Uy h fun hr nd hu=>
 aE (zs nd (nX)) (aE (zf `π `í (aF (zf `π `í (aE (zs nd (zc Ku hr T.Ku T.UA (ao (pv 0) (ao (pv 1) (ao (pv 2) (ao (pv 4) 'U')))))) (aF (bO (df Q0 (pv 6) (d_ hu (d_ hu (pv 0) (pv 4) `Ú) (pv 5) `Ú) (db _)) (aE (n0 hu (d_ hu (pv 0) (pv 4) `Ú) (pv 5) (pv 6) rfl) (aF (zs nd (nX)))) (bS))))))) 0.84)
theorem anR(h:bc 2 ahO (aeU K) sp):yb•sp:=bg T.Dh h fun hr nd hu=>
 aE (zf `π `í (aF (bO (df jv (b_ mG (pv 0) (pv 2)) (bw) (db _)) 8.6 (bS)))) 8.6
theorem an5{wF gK mP wO:Sp}(Kk:Eo•wF)(mZ:p_•gK)(J6:xW•mP)(Kt:Ez•wO)(h:bc 3 ah5 (ae8 K a wF gK mP wO) sp):yd•sp:=bg T.xy h fun hr nd hu=>
 aE (zs nd (zc Kk hr T.Kk T.Uq (ao (pv 0) `Ă))) (aE (zf `π (lQ rfl (fF (ss (i:=4) nd rfl 2.0) (fF (ss (i:=5) nd rfl 2.0) (fF `í (lS))))) (aE (CA (i:=7) (own:=[("relation",8)]) rfl nd rfl rfl 1.39 (eh (zc mZ hr T.mZ T.Ad (ao (pv 6) (aA)))) `ď `_H `_U (c5<|zk T.Ř J6 hr T.lA T.Jy (ao (d_ hu `Ò (pv 4) `Ú) (ao (d_ hu `Ò (pv 5) `Ú) (ao (pv 8) (aA)))))) (aF (zs nd (zc Kt hr T.Kt T.Uz (ao (pv 3) (ao (pv 7) (aA)))))))) 0.84)
theorem amt{sC qH:Sp}(af7:D8•sC)(Dk:xU•qH)(h:bc 1 agJ (adP K a sC qH) sp):xT•sp:=bg T.Jw h fun hr nd hu=>
 aF (gU (pv 0) (zk T.aoP af7 hr T.gP T.T' (ao 4.55 (ao 4.55 (aA)))) rfl)
theorem amF{IF mR:Sp}(af4:D5•IF)(J9:xZ•mR)(h:bc 5 agV (ad1 K a IF mR) sp):D0•sp:=bg T.T5 h fun hr nd hu=>
 aE (zs nd (dC (pv 0) T.bU T.agu af4 `Ý (aiO T.T7) .nil bf (ao (pv 1) (ao (pv 2) 2.6)))) (aE (bO (df jv (pv 5) (bw) (db _)) (aF (fh (dC `Ò T.jo T.Vj J9 `Ý (VY T.JB) .nil bf (ao (pv 1) (ao (Cs (ao (pv 2) 2.6)) (aA)))))) (bS)) (aF (aM (bN 'U'))))
theorem amz{sB gj:Sp}(J5:xV•sB)(l_:ni•gj)(h:bc 1 agP (adV K a sB gj) sp):DW•sp:=bg T.TY h fun hr nd hu=>
 aE (mI (i:=1) nd rfl 2.0 (cR (pv 0) T.bU T.Vg J5 `Ý (VV T.Jx) .nil bf)) (aE 1.3 (aE (abR (zf (Rb 9.7) (ss (i:=3) nd rfl 2.0) (aF (fh (j9 kz u5 Ax BY (pv 2) (ao (asm (jO (own:=[("d",4)]) rfl nd (Rb 9.7) `ď `_H `_U (c5<|d_ hu (d_ hu (pv 1) (pv 3) `Ú) (pv 4) `Ú))) (aA))))))) (aF (aM (b_ kU 1.77 (pv 2))))))
theorem amm{fW fX w6 iF fN wU:Sp}(ow:lh•fW)(ox:lj•fX)(Do:LA•w6)(xz:sT•iF)(qS:p9•fN)(Dn:Lz•wU)(h:bc 1 agC (adI K a fW fX w6 iF fN wU) sp):DN•sp:=bg T.TK h fun hr nd hu=>
 aE 0.31 (aE (bO (df (ar2 hr.zV) 3.65 '^' (db _)) ')' (bS)) (aE (zs nd (zc Do hr T.Do T.J1 (ao `Ò (ao 3.10 (ao 0.39 (aA)))))) (aE (zs nd (zc Dn hr T.Dn T.J0 (ao `Ò (ao (Cq rfl rfl T.qe (pv 1)) (ao 3.10 (aA)))))) (aF (aM (b_ kU (b_ kU (b_ kU (bN (ao (gz Fd rfl T.gF gN `ă) (aA))) (zt (AI rfl) T.qe `ă)) (bN (ao (gz Fd rfl T.gF gN `Ă) (aA)))) (zt (AI rfl) T.qe `Ă)))))))
theorem am_(h:bc 1 ahb (aeh K) sp):gL•sp:=bg T.jS h fun hr nd hu=>
 aE (zs nd (nY rZ `Ò `Ò `Ú)) (aE (abn (pv 0) (bw) Z3) 3.6)
theorem anq{bG lY IB:Sp}(gC:gL•bG)(Dl:x9•lY)(af0:DX•IB)(h:bc 2 ahq (aew a bG lY IB) sp):Ls•sp:=bg T.JP h fun hr nd hu=>
 aE `ω (aE 2.87 (aE 2.87 (aF (aM (dC (pv 0) T.bU T.agq af0 `Ý (aiK T.TZ) .nil bf (ao (pv 2) 2.6))))))
theorem ani{Ir:Sp}(afR:DN•Ir)(h:bc 2 ahi (aeo a Ir) sp):Lk•sp:=bg T.JH h fun hr nd hu=>
 aF (aM (cR (pv 0) T.bU T.agi afR `Ý (aiB T.TK) .nil bf))
end
section
variable{P:Program}{w:World}{K:Frag}{mg:Str->Option Value}{base:Heap}{a:aj}{sp:Sp}(T:Txt K mg a)
include T
local macro_rules|`(tactic|walk_at "b0")=>`(tactic|exact fun _ _ _ _ _ _ _ _ us hl=>match us,hl with|[],_=>rfl)
local macro_rules|`(tactic|walk_at "b1")=>`(tactic|exact fun _ _ _ _ _ _ _ _ us hl=>match us,hl with|[_],_=>rfl)
local macro_rules|`(tactic|walk_at "b2")=>`(tactic|exact fun _ _ _ _ _ _ _ _ us hl=>match us,hl with|[_,_],_=>rfl)
local macro_rules|`(tactic|walk_at "b3")=>`(tactic|exact fun _ _ _ _ _ _ _ _ us hl=>match us,hl with|[_,_,_],_=>rfl)
local macro_rules|`(tactic|walk_at "b4")=>`(tactic|exact fun _ _ _ _ _ _ _ _ us hl=>match us,hl with|[_,_,_,_],_=>rfl)
local macro_rules|`(tactic|walk_at "b5")=>`(tactic|exact fun _ _ _ _ _ _ _ _ us hl=>match us,hl with|[_,_,_,_,_],_=>rfl)
local macro_rules|`(tactic|walk_at "b6")=>`(tactic|exact fun _ _ _ _ _ _ _ _ us hl=>match us,hl with|[_,_,_,_,_,_],_=>rfl)
local macro_rules|`(tactic|walk_at "b7")=>`(tactic|exact fun _ _ _ _ _ _ _ _ us hl=>match us,hl with|[_,_,_,_,_,_,_],_=>rfl)
local macro_rules|`(tactic|walk_at "bb")=>`(tactic|first|walk_at "b0"|walk_at "b1"|walk_at "b2"|walk_at "b3"|walk_at "b4"|walk_at "b5"|walk_at "b6"|walk_at "b7")
local macro_rules|`(tactic|walk_at "sc")=>`(tactic|exact⟨rfl,rfl,rfl,by decide+kernel,rfl,by decide+kernel,by decide+kernel⟩)
theorem anC(h:bc 1 ahA (aeG K) sp):Ej•sp:=bg T.Ul h fun hr nd hu=>
 aE (zs nd (bw)) (aE (zw (PW.pt (CB (df vY (pv 1) 1.92 (db _)) (CD (df jv (nY rZ (pv 0) (pv 1) `Ú) (de rfl T.Ĩ) (db _))))) (aF (abc (i:=1) nd rfl `ο (bw) Z7))) 3.6)
theorem anP{wT wM:Sp}(Ky:EG•wT)(Kr:Ex•wM)(h:bc 1 ahM (aeS K wT wM) sp):Ew•sp:=bg T.Uw h fun hr nd hu=>
 aE 1.3 (aE (zf (eh (pv 0)) `í (aE (zs nd (zc Ky hr T.Ky T.UE `Ă)) (aE (bO (PW.pt (HX (df ar1 (pv 3) (vZ) (db _)) (HY (jP (fL (zc Kr hr T.Kr T.Ux (ao (pv 3) `ă))))))) 3.6 (bS)) (aF (fh (j9 kz qa ra qB (pv 1) `_0)))))) 3.6)
theorem amY(h:bc 3 ag_ (aee K) sp):x8•sp:=bg T.JD h fun hr nd hu=>
 aE (bO (tV (zF hu (pv 1) `Ò)) '@' (bS)) (aE 3.94 (aE 3.94 (aF (aM (bw)))))
theorem anx(h:bc 2 ahw (aeC K a w P) sp):Ef•sp:=bg T.Uh h fun hr nd hu=>
 aE (bO (df jv (pv 0) (de rfl T.PN) (db _)) 3.6 (bS)) (aE (bO (df jv (pv 1) (de rfl T.PN) (db _)) (aF (aM (pv 0))) (bS)) (aF (aM (ash hu (mH rfl T.vq rfl) (Cs (ao (pv 0) `ă)) `Ú))))
theorem anX(h:bc 2 ahW (ae0 K) sp):EC•sp:=bg T.JY h fun hr nd hu=>
 aF (aM (Ra (jO (own:=[("e",2)]) rfl nd (Cu (pv 0)) `ď (c5<|ss (i:=2) nd rfl 2.0) (c5<|zG (fL (zb (ajA rfl) T.V8 (ao (jO (own:=[("c",3)]) rfl nd `π `ď `_H `_U (c5<|b_ mG (d_ hu (d_ hu (pv 0) (pv 3) `Ú) (pv 2) `Ú) (de rfl T.GN))) (aA))))) (c5<|pv 2))))
theorem an4(h:bc 2 ah4 (ae7 K) sp):EI•sp:=bg T.UG h fun hr nd hu=>
 aE 1.3 (aE (zf (eh (b_ kU (bN (ao (de rfl T.PP) (aA))) (pv 0))) `í (aF (zf (eh (b_ kU (bN (ao (de rfl T.PP) (aA))) (pv 1))) `í (aF (fh (j9 kz qa ra qB (pv 2) (ao (Cs 2.6) (aA)))))))) '@')
theorem an6(h:bc 4 ah6 (ae9) sp):EJ•sp:=bg T.Di h fun hr nd hu=>
 aF (n0 hu 2.26 (pv 2) (b_ mG (d_ hu 2.26 (pv 2) `Ú) (b_ tQ (de rfl T.BJ) (pv 3))) rfl)
theorem aoa(h:bc 1 aib (afd) sp):EQ•sp:=bg T.UM h fun hr nd hu=>
 aE (bO (df jv (b_ mG (pv 0) (de rfl T.GN)) (pv 0) (db _)) (aF (aM (de rfl T.PQ))) (bS)) (aE (bO (df jv (pv 0) (de rfl T.PM) (db _)) (aF (aM (de rfl T.Ĭ))) (bS)) (aF (aM (de rfl T.ī))))
theorem anB{gK:Sp}(mZ:p_•gK)(h:bc 1 ahz (aeF K gK) sp):Ei•sp:=bg T.Uk h fun hr nd hu=>
 aE (zs nd (bw)) (aE (zf (eh (pv 0)) (lQ rfl (fF `í 0.37)) (aF (zs nd (b_ aaH (pv 1) (gz iI rfl T.gF gN (ao (zc mZ hr T.mZ T.Ad '.') (aA))))))) 3.6)
theorem anL{mT:Sp}(xB:yc•mT)(h:bc 2 ahI (aeO K mT) sp):Es•sp:=bg T.Ut h fun hr nd hu=>
 aE (zf (eh (pv 0)) `í (aF (bO (df aaI (zc xB hr T.xB T.JW (ao (pv 2) `ă)) (vZ) (db _)) 8.6 (bS)))) 8.6
theorem amD{qH:Sp}(Dk:xU•qH)(h:bc 2 agT (adZ K a qH) sp):ni•sp:=bg T.pV h fun hr nd hu=>
 aF (aM (bz (dC (pv 0) T.bU T.Lb Dk `Ý (Ma T.Df) .nil bf `ă) rfl))
theorem amG{mS iT kZ:Sp}(xA:ya•mS)(qR:p8•iT)(J_:x8•kZ)(h:bc 5 agW (ad2 K a mS iT kZ) sp):D5•sp:=bg T.T7 h fun hr nd hu=>
 aE (bO (jP (fL (zc xA hr T.xA T.JU `ă))) 7.9 (bS)) (aE (bO 4.47 7.9 (bS)) (aE (bO (PW.pt (HX (jP (fL (dC (pv 0) T.bU T.xL qR `Ý (yl T.uE) .nil bf `_0))) (HY (df jv (pv 3) (pv 2) (db _))))) 7.9 (bS)) (aE (bO (PW.pt (HX (df vY (pv 4) (bw) (db _)) (HY (df Ck (pv 4) (de rfl T.BJ) (db _))))) 7.9 (bS)) 4.23)))
theorem amI{wS gj fN:Sp}(Kx:EF•wS)(l_:ni•gj)(qS:p9•fN)(h:bc 1 agY (ad4 K a wS gj fN) sp):xV•sp:=bg T.Jx h fun hr nd hu=>
 aF (aM (zc Kx hr T.Kx T.UD (ao 9.7 (ao 9.7 (ao 0.39 (ao 0.39 (aA)))))))
theorem amw{fW fX gj lX:Sp}(ow:lh•fW)(ox:lj•fX)(l_:ni•gj)(Af:sS•lX)(h:bc 1 agM (adS K a fW fX gj lX) sp):DT•sp:=bg T.TV h fun hr nd hu=>
 aE 0.31 (aE 1.64 (aE 1.3 (aE (abR (zf (Rb 9.7) `í (aF (fh (j9 kz u5 Ax BY (pv 2) (ao (dC (pv 0) T.bU T.La Af `Ý (L' T.De) .nil bf (ao (pv 1) (ao (pv 3) (ao 9.7 (aA))))) (aA))))))) (aF (aM (b_ kU 1.77 (pv 2)))))))
theorem am8(h:bc 1 ag' (aef K) sp):D'•sp:=bg T.Ub h fun hr nd hu=>
 aF (aM (tS QZ `Ò (gz iI rfl T.gF gN (ao `Ò (aA))) (db _)))
theorem anr{bG ID:Sp}(gC:gL•bG)(af2:DZ•ID)(h:bc 2 ahr (aex a bG ID) sp):Lu•sp:=bg T.JQ h fun hr nd hu=>
 aE `ω (aF (aM (dC (pv 0) T.bU T.ags af2 `Ý (aiM T.T4) .nil bf `Ă)))
theorem anp{IA:Sp}(afZ:DW•IA)(h:bc 2 ahp (aev a IA) sp):Lr•sp:=bg T.JO h fun hr nd hu=>
 aF (aM (cR (pv 0) T.bU T.agp afZ `Ý (aiJ T.TY) .nil bf))
theorem ano{bG Iz:Sp}(gC:gL•bG)(afY:DV•Iz)(h:bc 2 aho (aeu a bG Iz) sp):Lq•sp:=bg T.JN h fun hr nd hu=>
 aE `ω (aF (aM (dC (pv 0) T.bU T.ago afY `Ý (aiI T.TX) .nil bf `Ă)))
end
section
variable{P:Program}{w:World}{K:Frag}{mg:Str->Option Value}{base:Heap}{a:aj}{sp:Sp}(T:Txt K mg a)
include T
local macro_rules|`(tactic|walk_at "b0")=>`(tactic|exact fun _ _ _ _ _ _ _ _ us hl=>match us,hl with|[],_=>rfl)
local macro_rules|`(tactic|walk_at "b1")=>`(tactic|exact fun _ _ _ _ _ _ _ _ us hl=>match us,hl with|[_],_=>rfl)
local macro_rules|`(tactic|walk_at "b2")=>`(tactic|exact fun _ _ _ _ _ _ _ _ us hl=>match us,hl with|[_,_],_=>rfl)
local macro_rules|`(tactic|walk_at "b3")=>`(tactic|exact fun _ _ _ _ _ _ _ _ us hl=>match us,hl with|[_,_,_],_=>rfl)
local macro_rules|`(tactic|walk_at "b4")=>`(tactic|exact fun _ _ _ _ _ _ _ _ us hl=>match us,hl with|[_,_,_,_],_=>rfl)
local macro_rules|`(tactic|walk_at "b5")=>`(tactic|exact fun _ _ _ _ _ _ _ _ us hl=>match us,hl with|[_,_,_,_,_],_=>rfl)
local macro_rules|`(tactic|walk_at "b6")=>`(tactic|exact fun _ _ _ _ _ _ _ _ us hl=>match us,hl with|[_,_,_,_,_,_],_=>rfl)
local macro_rules|`(tactic|walk_at "b7")=>`(tactic|exact fun _ _ _ _ _ _ _ _ us hl=>match us,hl with|[_,_,_,_,_,_,_],_=>rfl)
local macro_rules|`(tactic|walk_at "bb")=>`(tactic|first|walk_at "b0"|walk_at "b1"|walk_at "b2"|walk_at "b3"|walk_at "b4"|walk_at "b5"|walk_at "b6"|walk_at "b7")
local macro_rules|`(tactic|walk_at "sc")=>`(tactic|exact⟨rfl,rfl,rfl,by decide+kernel,rfl,by decide+kernel,by decide+kernel⟩)
theorem anD{wH:Sp}(Km:Er•wH)(h:bc 2 ahB (aeH K wH) sp):Ek•sp:=bg T.Um h fun hr nd hu=>
 aE (zs nd (pv 1)) (aE (zw (PW.pt (CB (df vY (pv 2) 1.92 (db _)) (CD (fL (zc Km hr T.Km T.Us (ao (nY rZ (pv 0) (pv 2) `Ú) (aA))))))) (aF (abc (i:=2) nd rfl `ο (bw) Z7))) '@')
theorem anI(h:bc 2 ahF (aeL K) sp):Ep•sp:=bg T.Ur h fun hr nd hu=>
 aF (aM (asa (tS vY (b_ pD (pv 1) (bw)) 1.92 (db _)) (aaU (tS Ck (bz (nY rZ (pv 0) (b_ pD (pv 1) (bw)) `Ú) rfl) (bz (nY rZ (pv 0) (pv 1) `Ú) rfl) (db _)))))
theorem anJ(h:bc 1 ahG (aeM) sp):ya•sp:=bg T.JU h fun hr nd hu=>
 aF (aM (Q_ zC zC (de rfl T.amQ) (pv 0) (de rfl T.amM)))
theorem amW{iF:Sp}(xz:sT•iF)(h:bc 1 ag8 (aec a iF) sp):p9•sp:=bg T.uH h fun hr nd hu=>
 aF (aM (Cq rfl rfl T.qe (cR (pv 0) T.jo T.DF xz `Ý (E' T.Ab) .nil bf)))
theorem anO(h:bc 2 ahL (aeR K) sp):Ev•sp:=bg T.Uv h fun hr nd hu=>
 aF (aM (jO (own:=[("mask",2),("other_mask",3)]) rfl nd (aso rfl T.Fc (ao (pv 0) `ă)) `ď (c5<|lQ rfl 0.37) `_U (c5<|b_ Cn (pv 2) (pv 3))))
theorem amP{mU:Sp}(xC:ye•mU)(h:bc 3 ag4 (ad_ K mU) sp):xX•sp:=bg T.Jz h fun hr nd hu=>
 aE (zs nd `Ò) (aE (zf `π `í (aF (zs nd (b_ mG (pv 3) (d_ hu `Ò (pv 4) `Ú))))) (aE (zf (eh (pv 2)) `í (aF (zs nd (zc xC hr T.xC T.J2 (ao (pv 3) (ao (d_ hu `Ò (pv 4) `Ú) (aA))))))) 0.84))
theorem anG(h:bc 4 ahD (aeJ K) sp):En•sp:=bg T.Up h fun hr nd hu=>
 aE (bO (tV (zF hu (pv 3) (pv 1))) (aF (aM (de rfl T.BJ))) (bS)) (aE (bO (df jv (pv 2) (pv 3) (db _)) (aF (aM (de rfl T.PN))) (bS)) (aE (bO (df aaG (pv 3) (d_ hu (pv 0) (pv 2) `Ú) 9.5) (aF (aM (de rfl T.GN))) (bS)) (aE (bO (df aaG (pv 2) (d_ hu (pv 0) (pv 3) `Ú) 9.5) (aF (aM (de rfl T.ĩ))) (bS)) (aF (aM (de rfl T.PM))))))
theorem anV(h:bc 5 ahS (aeY K) sp):EA•sp:=bg T.UA h fun hr nd hu=>
 aE (zs nd (d_ hu (pv 0) (pv 3) `Ú)) (aE (zs nd (d_ hu (pv 5) (pv 4) `Ú)) (aE (zf `π `í (aF (zs nd (b_ mG (pv 6) (nY rZ (nY rZ (pv 2) (d_ hu (pv 5) (pv 7) `Ú) `Ú) (d_ hu (d_ hu (pv 0) (pv 7) `Ú) (pv 4) `Ú) `Ú))))) (aF (aM (pv 6)))))
theorem amL(h:bc 4 ag1 (ad7 K a w P) sp):xW•sp:=bg T.Jy h fun hr nd hu=>
 aE (zs nd (b_ mG (pv 1) (pv 2))) (aE (gU (pv 0) (bw) rfl) (aE (gU (pv 0) '^' rfl) (aF (zf (asq rfl T.Fc (ao (Cs (ao (pv 4) (ao (b_ Q3 (pv 1) (pv 4)) (ao (b_ Q3 (pv 2) (pv 4)) (aA))))) (ao (asi hu (mH rfl T.vt rfl) (pv 3) `Ú) (aA)))) 0.25 (aF (bO (fL (pv 6)) (aF (fh (j9 kz qa ra qB `Ò 'U'))) (aF (gU (pv 0) (b_ Cn `Ò (pv 5)) rfl))))))))
theorem anf(h:bc 1 ahg (aem K) sp):Ed•sp:=bg T.Ue h fun hr nd hu=>
 aE (zs nd (bw)) (aE (zf (eh (pv 0)) `í (aF (zs nd (b_ Cn (pv 1) (bz (pv 2) rfl))))) 3.6)
theorem amE{mO:Sp}(J3:xS•mO)(h:bc 2 agU (ad0 K a mO) sp):xU•sp:=bg T.Df h fun hr nd hu=>
 aE (bO (tV (zF hu (pv 1) `Ò)) (aF (aM (d_ hu `Ò (pv 1) `Ú))) (bS)) (aF (aM (zk T.ŗ J3 hr T.gm T.Ju (ao (pv 1) (ao '^' (ao '^' (aA)))))))
theorem amu{wV wL wZ mO sA:Sp}(Kz:EH•wV)(Kq:Ew•wL)(KD:EM•wZ)(J3:xS•mO)(J4:xT•sA)(h:bc 3 agK (adQ K a wV wL wZ mO sA) sp):DS•sp:=bg T.TU h fun hr nd hu=>
 aE (bO (df Q2 (pv 1) (mH rfl T.oW rfl) 9.5) ')' (bS)) (aE (bO (tV (zF hu (pv 1) `Ò)) ')' (bS)) (aE (zs nd (zc Kz hr T.Kz T.UF `Ă)) (aE (zs nd (zc Kq hr T.Kq T.Uw `_0)) (aE (zs nd (zc KD hr T.KD T.UJ 2.6)) (aE (bO (df vY (pv 5) (bw) (db _)) (aF (aM (bN 'U'))) (bS)) (aE (n0 hu `Ò (pv 1) (zk T.ŗ J3 hr T.gm T.Ju (ao (pv 1) (ao (pv 2) '.'))) rfl) (aE (fh (cR (pv 0) T.bU T.Vf J4 `Ý (VU T.Jw) .nil bf)) (aF (aM (bN (ao (gz iI rfl T.gF gN '.') (aA))))))))))))
theorem amn{mQ:Sp}(J8:xY•mQ)(h:bc 2 agD (adJ K a mQ) sp):DO•sp:=bg T.TN h fun hr nd hu=>
 aF 4.26
theorem amo{iT fW lX fX:Sp}(qR:p8•iT)(ow:lh•fW)(Af:sS•lX)(ox:lj•fX)(h:bc 3 agE (adK a iT fW lX fX) sp):DP•sp:=bg T.TQ h fun hr nd hu=>
 aE 4.13 (aE (bO 4.47 ')' (bS)) (aE 0.31 (aF (aM (dC (pv 0) T.bU T.La Af `Ý (L' T.De) .nil bf (ao 3.65 (ao (pv 1) (ao (bN `Ă) (aA)))))))))
theorem aml{sB wJ wR:Sp}(J5:xV•sB)(Ko:Et•wJ)(Kw:ED•wR)(h:bc 1 agB (adH K a sB wJ wR) sp):DM•sp:=bg T.TJ h fun hr nd hu=>
 aE (zs nd (cR (pv 0) T.bU T.Vg J5 `Ý (VV T.Jx) .nil bf)) (aE (bO (jP (fL (zc Ko hr T.Ko T.Uu `ă))) ')' (bS)) (aE (zs nd (zc Kw hr T.Kw T.UC `ă)) (aE (zs nd 1.77) (aE (zf (eh (pv 2)) `í (aF (fh (j9 kz u5 Ax BY (pv 3) (ao (b_ kU (bN (ao (gz iI rfl T.gF gN '.') (aA))) (pv 4)) (aA)))))) 0.84))))
theorem ant{bG IE:Sp}(gC:gL•bG)(af3:D0•IE)(h:bc 2 ahs (aey a bG IE) sp):Lv•sp:=bg T.JR h fun hr nd hu=>
 aE `ω (aE `ω (aE `ω (aE `ω (aF (aM (dC (pv 0) T.bU T.agt af3 `Ý (aiN T.T5) .nil bf (ao (pv 2) (ao (pv 3) (ao (pv 4) 'U')))))))))
theorem ann{Iy:Sp}(afX:DU•Iy)(h:bc 2 ahn (aet a Iy) sp):Lp•sp:=bg T.JM h fun hr nd hu=>
 aF (aM (cR (pv 0) T.bU T.agn afX `Ý (aiH T.TW) .nil bf))
theorem ang{ue ug uf bG:Sp}(afU:DR•ue)(af_:Ea•ug)(af9:D'•uf)(gC:gL•bG)(h:∀vs H Q E,sp vs H Q E->`õ=1/\∀A,cH 10 A->Tf K a P w mg base A ue ug uf bG {nx:=fun _ H'=>Q .aX H',rt:=Q} (start Vl vs) H):Li•sp:=
 T.Uf.ok zL 3.46 fun dk A bK s H vs Q E hr q=>⟨Tf K a P w mg base (A.deeper (envOfC "answers" (gQ Sk) s.heap.objs.size a.FO dk)) ue ug uf bG,
 aE (mI (i:=1) zL.nd rfl `ο (aaT T.aoO afU (hr.aD `Æ) rfl T.aQ (aiE T.TR) .nil bf)) (aE (mI (i:=2) zL.nd rfl `ο (aaS T.aoQ af_ (hr.aD `Æ) rfl T.dN (aiT T.Uc) .nil bf 0.14)) (aE (mI (i:=3) zL.nd rfl `ο '^') (aE (abW LK (jP (fL (cR (pv 2) T.iV T.agy af9 (hr.aD `Æ) (aiS T.Ub) .nil bf))) (aE (mI (i:=4) zL.nd rfl `ο (nY PL (mH rfl T.vp rfl) (cR (pv 2) T.iV T.kx gC (hr.aD `Æ) (kE T.jS) .nil bf) `Ú)) (aE (mI (i:=5) zL.nd rfl `ο (asd bf (pv 4) (ao (pv 1) `Ă))) (aE (fh (j9 kz qa ra qB (pv 3) (ao (gz iI rfl T.gF gN 'U') (aA)))) (aF (fh (j9 kz u5 Ax BY (pv 3) 'U'))))))) 0.84))),(h vs H Q E q).2 _ hr⟩
end
end
end TL
local macro_rules|`(tactic|walk_at "hp")=>`(tactic|first
 |assumption
 |exact L2.ax
 |(refine' L2.bB ?bD ?dE;(case bD=>assumption);(case dE=>walk_at "hp")))
local macro_rules|`(tactic|walk_at "sq")=>`(tactic|first
 |assumption
 |(refine' L2.aG.of ?bD;(case bD=>walk_at "hp")))
local macro_rules|`(tactic|walk_at "rd")=>`(tactic|first
 |assumption
 |(refine Or.inl ?bD;(case bD=>walk_at "hp")))
local macro_rules|`(tactic|walk_at "s1")=>`(tactic|first
 |(with_reducible first|refine L2.Yo ?_|refine L2.aj8 ?_|refine L2.AU ?_)
 |((with_reducible refine' L2.iN ?k1 ?_);(case k1=>rfl))
 |(with_reducible first|refine L2.e_c ?_|refine L2.Yn ?_|refine L2.apv ?_|refine L2.akt ?_|refine L2.akK ?_|refine L2.aao ?_|refine L2.akJ ?_|refine L2.aps ?_|refine L2.apM ?_|refine L2.FC ?_|refine L2.M5 ?_|refine L2.avy ?_|refine L2.akg ?_|refine L2.aka ?_|refine L2.yw ?_|refine L2.Ym ?_|refine L2.Yj ?_|refine L2.akA ?_|refine L2.Yk ?_|refine L2.akH ?_|refine L2.aj' ?_|refine L2.M4 ?_|refine L2.akc ?_|refine L2.ake ?_|refine L2.akf ?_|refine L2.akz ?_|refine L2.akO ?_|refine L2.akd ?_|refine L2.Yl ?_|refine L2.akI ?_|refine L2.akB ?_|refine L2.akF ?_|refine L2.apQ ?_|refine L2.akC ?_|refine L2.aj6 ?_|refine L2.akD ?_|refine L2.aj7 ?_|refine L2.akE ?_|refine L2.apg ?_|refine L2.apP ?_|refine L2.avx ?_|refine L2.awf ?_|refine L2.aku ?_|refine L2.akb ?_|refine L2.apn ?_|refine L2.akN ?_|refine L2.akP ?_|refine L2.n_u ?_|refine L2.aky ?_|refine L2.apA ?_|refine L2.akv ?_|refine L2.aki ?_|refine L2.akx ?_|refine L2.akm ?_|refine L2.ako ?_|refine L2.akn ?_|refine L2.akj ?_|refine L2.akq ?_|refine L2.akk ?_|refine L2.aks ?_|refine L2.akr ?_|refine L2.akp ?_|refine L2.akl ?_|refine L2.akL ?_|refine L2.akM ?_|refine L2.akw ?_|refine L2.akh ?_|refine L2.akG ?_|refine L2.aj_ ?_|refine L2.apS ?_|refine L2.awg ?_|refine L2.apO ?_|refine L2.apj ?_)
 |((with_reducible refine' L2.aj9 ?k1 ?_);(case k1=>rfl))
 |((with_reducible refine' L2.Qv ?k1 ?k2 ?k3 ?k4 ?_);(case k1=>walk_at "hp");(case k2=>walk_at "cl");(case k3=>walk_at "na");(case k4=>with_unfolding_all rfl))
 |((with_reducible refine' L2.zq ?k1 ?k2 ?k3 ?k4 ?_);(case k1=>walk_at "hp");(case k2=>walk_at "cl");(case k3=>walk_at "na");(case k4=>exact xQ (by with_unfolding_all rfl)))
 |((with_reducible refine' L2.Hm ?k1 ?k2 ?_);(case k1=>walk_at "hp");(case k2=>with_unfolding_all rfl))
 |((with_reducible refine' L2.apk ?k1 ?k2 ?k3 ?k4 ?_);(case k1=>walk_at "hp");(case k2=>walk_at "cl");(case k3=>walk_at "na");(case k4=>with_unfolding_all rfl))
 |((with_reducible refine' L2.apl ?k1 ?k2 ?_);(case k1=>walk_at "hp");(case k2=>exact xQ (by with_unfolding_all rfl)))
 |((with_reducible refine' L2.apL ?k1 ?_);(case k1=>exact xQ (by with_unfolding_all rfl)))
 |((with_reducible refine' L2.apV ?k1 ?_);(case k1=>exact xQ (by with_unfolding_all rfl)))
 |((with_reducible refine' L2.sj ?k1 ?_);(case k1=>walk_at "sq"))
 |((with_reducible refine' L2.apw ?k1 ?_);(case k1=>walk_at "sq"))
 |((with_reducible refine' L2.apI ?k1 ?_);(case k1=>walk_at "sq"))
 |((with_reducible refine' L2.apH ?k1 ?_);(case k1=>walk_at "hp"))
 |((with_reducible refine' L2.apm ?k1 ?_);(case k1=>walk_at "sq"))
 |((with_reducible refine' L2.aam ?k1 ?_);(case k1=>walk_at "sq"))
 |((with_reducible refine' L2.apU ?k1 ?_);(case k1=>walk_at "sq"))
 |((with_reducible refine' L2.apR ?k1 ?_);(case k1=>walk_at "hp"))
 |((with_reducible refine' L2.apr ?k1 ?_);(case k1=>walk_at "hp"))
 |((with_reducible refine' L2.apo ?k1 ?_);(case k1=>walk_at "rd"))
 |((with_reducible refine' L2.apJ ?k1 ?_);(case k1=>walk_at "rd"))
 |((with_reducible refine' L2.apK ?k1 ?_);(case k1=>walk_at "rd"))
 |((with_reducible refine' L2.awe ?k1 ?_);(case k1=>walk_at "sq"))
 |((with_reducible refine' L2.Hi ?k1 ?_);(case k1=>walk_at "rd"))
 |((with_reducible refine' L2.apq ?k1 ?_);(case k1=>walk_at "rd")))
local macro_rules|`(tactic|walk_at "go")=>`(tactic|repeat(walk_at "s1"))
local macro_rules|`(tactic|walk_at "cl")=>`(tactic|first|exact TL.Txt.ajl (by assumption)|exact TL.Txt.ajj (by assumption)|exact TL.Txt.jo (by assumption)|exact TL.Txt.Fi (by assumption)|exact TL.Txt.ajm (by assumption)|exact TL.Txt.ajk (by assumption)|exact TL.Txt.bU (by assumption)|exact TL.Txt.iV (by assumption))
local macro_rules|`(tactic|walk_at "na")=>`(tactic|first|exact TL.Txt.apa (by assumption)|exact TL.Txt.apb (by assumption)|exact TL.Txt.apc (by assumption)|exact TL.Txt.aoZ (by assumption)|exact TL.Txt.ao0 (by assumption)|exact TL.Txt.ao1 (by assumption)|exact TL.Txt.aae (by assumption)|exact TL.Txt.ao7 (by assumption)|exact TL.Txt.ao8 (by assumption)|exact TL.Txt.ao9 (by assumption)|exact TL.Txt.ao4 (by assumption)|exact TL.Txt.ao5 (by assumption)|exact TL.Txt.ao6 (by assumption)|exact TL.Txt.apd (by assumption)|exact TL.Txt.ape (by assumption)|exact TL.Txt.ao2 (by assumption)|exact TL.Txt.ao3 (by assumption)|exact TL.Txt.Hh (by assumption)|exact TL.Txt.aab (by assumption)|exact TL.Txt.aac (by assumption)|exact TL.Txt.aad (by assumption)|exact TL.Txt.ao_ (by assumption)|exact TL.Txt.ao' (by assumption))
local macro_rules|`(tactic|symm)=>`(tactic|walk_at "go")
local macro_rules|`(tactic|ext)=>`(tactic|conv in L2.start _ _=>simp[L2.start])
namespace TL
open PySem PySem.Spec PyProof.Rows L2
open Vbnlak (Told Rec State Concept)
section
variable{P:Program}{w:World}{K:Frag}{mg:Str->Option Value}{base:Heap}{a:aj}
def auV{H:Hp}{p q:Addr}{o u:HO}(h:p≠q):af (af H p o) q u=af (af H q u) p o:=by
 funext b
 unfold af;by_cases h1:b=q
 .subst h1;rw[ay rfl,aq (aL h),ay rfl]
 .rw[aq h1];by_cases h2:b=p
  .rw[ay h2,ay h2]
  .rw[aq h2,aq h2,aq h1]
def ug(a:aj):Sp:=fun vs H Q _=>∃p q dx,vs=4.4/\H p=some (.ins a.dN dx [])/\Q .aX (af H p (.ins a.dN dx (iu `ğ (.int 0))))
def aqs(T:`Ä):Ea•ug a:=by
 refine am9 T ?_;rintro vs H Q E ⟨p,q,dx,rfl,hp,h⟩;refine `Á;unfold aeg;ext;symm;rw[jj];exact h
def uf(K:Frag)(a:aj):Sp:=fun vs H Q _=>∃(p q dx:Addr)(l:`Ê)(n:Int),vs=`Ċ/\H p=some 3.38/\aG K H q '`'/\Q (.bl (decide ((`Û:Int)<=n))) H
def aqr(T:`Ä):D'•uf K a:=by
 refine am8 T ?_;rintro vs H Q E ⟨p,q,dx,l,n,rfl,hp,hq,h⟩;refine `Á;unfold aef;ext;symm;rw[aJ];exact h
def bG(K:Frag)(a:aj):Sp:=fun vs H Q _=>∃(p q dx:Addr)(l:`Ê)(n:Nat)(z:Int),vs=`Ċ/\H p=some 3.38/\aG K H q '`'/\l[n]? =some z/\
 Q (.int z) (af H p (.ins a.dN dx (iu `ğ (.int (n+1:Nat)))))
def aqt(T:`Ä):gL•bG K a:=by
 refine am_ T ?_;rintro vs H Q E ⟨p,q,dx,l,n,z,rfl,hp,hq,hz,h⟩;refine `Á;unfold aeh;ext;symm;refine tM hq rfl (v:=.int z) (by rw[cG,hz];rfl) ?_;symm;exact h
def ajI{l:`Ê}{n k:Nat}:nv '`' (some (n:Int)) (some ((n:Int)+(k:Int)))=((l.drop n).take k).map V.int:=by
 unfold nv;rw[HT.CL,show(n:Int)+(k:Int)=((n+k:Nat):Int) by omega,HT.CL,aJ,<-U_,<-K0];congr 1;by_cases h:n<=`Û
 .rw[DH h];by_cases h2:n+k<=`Û
  .rw[DH h2,aie]
  .rw[Vo (by omega),K9 (by simp),K9 (by simp;omega)]
 .rw[Vo (show l.length<=n by omega),sP,List.drop_of_length_le (show l.length<=n by omega)];simp
def lY(K:Frag)(a:aj):Sp:=fun vs H Q _=>∃(p q dx:Addr)(l:`Ê)(n k:Nat),vs=`Ċ/\H p=some 3.38/\aG K H q '`'/\l[n]? =some (k:Int)/\
 ∀r,H r=none->Q `à (af (af H p (.ins a.dN dx (iu `ğ (.int (n+1+k:Nat))))) r (.ah (((l.drop (n+1)).take k).map V.int)))
def aqu(T:`Ä)(G:'}'):x9•lY K a:=by
 refine am' T G ?_;rintro vs H Q E ⟨p,q,dx,l,n,k,rfl,hp,hq,hz,h⟩;refine `Á;unfold aei;ext;symm;refine⟨p,q,dx,l,n,k,rfl,hp,hq,hz,?_⟩;have jr:aG K (af H p (.ins a.dN dx (iu `ğ (.int (n+1:Nat))))) q '`':=by
  rcases hq with(hq|⟨o,hq⟩)|hq
  .exact .inl (.inl (by rw[au (dG hq hp (by intro z;cases z))];exact hq))
  .exact .inl (.inr ⟨o,by rw[au (dG hq hp (by intro z;cases z))];exact hq⟩)
  .exact .inr hq
 show `_ar;rw[ajI];have Go:p≠r:=fun e=>by subst e;rw[ax]at hr;cases hr
 have hO:H r=none:=by rw[au (aL Go)]at hr;exact hr
 symm;have e:(iu `ğ (.int (((n+1:Nat):Int)+(k:Int))))=iu `ğ (.int ((n+1+k:Nat):Int)):=rfl;have h:=h r hO;rw[auV (aL Go),jj];exact h
abbrev nV(n:Nat):V:=.int (n:Int)
def Md{a b:Nat}(ha:a<32)(hb:b<32):`_N (a:Int) (b:Int)=((Vbnlak.meet a b:Nat):Int):=by
 have h:∀a:Fin 32,∀b:Fin 32,`_N ((a.val:Nat):Int) ((b.val:Nat):Int)=((Vbnlak.meet a.val b.val:Nat):Int):=`ē;exact h ⟨a,ha⟩ ⟨b,hb⟩
def V6{a b:Nat}(ha:a<32)(hb:b<32):Builtin.bitOr (a:Int) (b:Int)=((join a b:Nat):Int):=by
 have h:∀a:Fin 32,∀b:Fin 32,Builtin.bitOr ((a.val:Nat):Int) ((b.val:Nat):Int)=((join a.val b.val:Nat):Int):=`ē;exact h ⟨a,ha⟩ ⟨b,hb⟩
structure oq(w:World)(P:Program)(K:Frag)(a:aj):Prop where
 ak6:∀r:Rel,∃t,Dr w P K a.vt (bit r:Int) (.ref t)/\∀H,bF K H t 2.95
 dH:∀H,bF K H a.mw (0.54)
 Im:∀H,bF K H a.oW (2.35)
 comp:∀(r s:Rel),r≠.equal->s≠.equal->Dq w P K a.vq 3.41 (nV 7.8)
def xr(r:Int):Int:=if r=2 then 4 else if r=4 then 2 else r
def w_:Sp:=fun vs H Q _=>∃r:Int,vs=[.int r]/\Q (.int (xr r)) H
def arT(T:`Ä):EO•w_:=by
 refine an' T ?_;rintro vs H Q E ⟨r,rfl,h⟩;refine `Á;unfold afc;ext;unfold xr at h;show `_bH
 .show `_bB
 .rw[aq e]at h;show `_bH
  .show `_bB
  .rw[aq e]at h;symm;exact h
def w9:Sp:=fun vs H Q _=>∃m:Nat,vs=[nV m]/\m<32/\∀H',ag H H'->Q (nV (Vbnlak.turnedMask m)) H'
def auN{m:Nat}(h:m<32):((`_M).map fun r=>xr (bit r:Int)).sum=((Vbnlak.turnedMask m:Nat):Int):=by
 have h':∀m:Fin 32,((relsOf m.val).map fun r=>xr (bit r:Int)).sum=((Vbnlak.turnedMask m.val:Nat):Int):=`ē;exact h' ⟨m,h⟩
def oV{α β γ:Type}(g:α->β)(f:β->Option γ):∀l:List α,(l.map g).filterMap f=l.filterMap fun x=>f (g x)
 |[]=>rfl
 |x::l=>by rw[cY,gD,gD,oV g f l]
def lK:V->Int
 |.int i=>i
 |_=>0
def Se{x:V}{i:Nat}(hx:(0.54)[i]? =some x):∃r,RELS[i]? =some r/\x=nV (bit r):=by
 match i,hx with
 |0,hx=>exact⟨.equal,rfl,'$'⟩
 |1,hx=>exact⟨.within,rfl,'$'⟩
 |2,hx=>exact⟨.holds,rfl,'$'⟩
 |3,hx=>exact⟨.overlap,rfl,'$'⟩
 |4,hx=>exact⟨.apart,rfl,'$'⟩
 |n+5,hx=>simp at hx
def alp{m:Nat}(h:m<32)(r:Rel):(`_N (m:Int) ((bit r:Nat):Int) !=0)=Vbnlak.has m r:=by
 have h':∀m:Fin 32,(RELS.all fun r=>(`_N ((m.val:Nat):Int) ((bit r:Nat):Int) !=0)==Vbnlak.has m.val r)=true:=`ē;have:=f_.mp (h' ⟨m,h⟩) r (7.1);exact eq_of_beq this
abbrev bV(r:Rel):V:=nV (bit r)
def gK:Sp:=fun vs H Q _=>∃m:Nat,vs=[nV m]/\m<32/\∀p H',ag H H'->H' p=some (.ah ((`_M).map bV))->Q `Ü H'
def ab9:(0.54)=RELS.map bV:=rfl
def yL{α β:Type}(p:α->Bool)(f:α->β):∀l:List α,(l.filterMap fun x=>if p x=true then some (f x)else none)=(l.filter p).map f
 |[]=>rfl
 |x::l=>by
  rw[gD,kt,yL p f l];cases p x<;>rfl
def arC(T:`Ä)(C:oq w P K a):p_•gK:=by
 refine an2 T ?_;rintro vs H Q E ⟨m,rfl,hm,h⟩;refine `Á;unfold ae5;ext;symm;refine B_ (C.dH H) ?_;refine Qz (C.dH H) `Æ (fun v=>if(`_N (m:Int) (lK v) !=0)=true then some v else none) 3.51 (fun D H' hD s e=>h D H' s ?_)
 .obtain⟨r,hr,rfl⟩:=Se hx;symm;refine `Á;symm;refine aap ?_;refine `_j
  .symm;exact h1 _ _ (ay e) `_b
  .exact h0 _ (aq (by rw[show(Builtin.bitAnd (m:Int) (lK (nV (bit r))) !=0)=false from e];decide)) `_b
 .rw[e,ab9,oV];have e2:(RELS.filterMap fun r=>if(`_N (m:Int) (lK (bV r)) !=0)=true then some (bV r)else none)=(`_M).map bV:=by
   rw[yL (fun r=>Builtin.bitAnd (m:Int) (lK (bV r)) !=0) bV];congr 1;unfold relsOf;congr 1
   funext r
   exact alp hm r
  rw[e2]
def arS(T:`Ä)(G0:p_•gK)(G:EO•w_):EN•w9:=by
 refine an_ T `Â `Â ?_;rintro vs H Q E ⟨m,rfl,hm,h⟩;refine `Á;unfold afb;ext;symm;refine⟨m,rfl,hm,fun p H1 s1 e1=>?_⟩;symm;refine B' (aG.of e1) (by rw[aJ];exact bq (nh _ _) `Æ) (fun v=>some (.int (xr (lK v)))) 3.51 (fun D H' hD s e=>?_)
 .obtain⟨r,hr,rfl⟩:∃r:Rel,r∈relsOf m/\x=bV r:=by
   have:=cN hx;obtain⟨r,hr,e⟩:=cw.mp this;exact⟨r,hr,e.symm⟩
  symm;refine⟨rfl,oT ?_⟩;symm;exact⟨_,rfl,h1 _ _ rfl `_b⟩
 .symm;rw[List.filterMap_eq_map',bP]at e;have e2:((`_M).map ((fun v=>V.int (xr (lK v)))∘bV))=((`_M).map fun r=>xr (bit r:Int)).map V.int:=8.9;rw[e2]at e;refine aan (aG.of e) ?_;rw[auN hm];exact h _ (s1.trans s)
def ww:Sp:=fun vs H Q _=>∃r s:Rel,vs=[nV (bit r),nV (bit s)]/\∀H',ag H H'->Q (nV 7.8) H'
def Mf{r:Rel}:((bit r:Nat):Int)=1↔r=.equal:=7.1
def aqQ(T:`Ä)(C:oq w P K a):Ef•ww:=by
 refine anx T ?_;rintro vs H Q E ⟨r,s,rfl,h⟩;refine `Á;unfold aeC;ext;show `_bH
 .symm;rw[Mf]at e;subst e;exact h _ `_b
 .symm;refine 0.12
  .symm;rw[Mf]at e2;subst e2;have:=h _ `_b;cases r<;>exact this
  .symm;rw[Mf]at e e2;intro p hp;exact apC (k:=3.41) ax (C.comp r s e e2) (h _ (ag.new hp))
def MA(r:Rel)(m:Nat)(l:List Rel):Nat:=l.foldl (fun f s=>if Vbnlak.has m s=true then join f 7.8 else f) 0
def ajt(r s:Rel):Vbnlak.comp r s<32:=by cases r<;>cases s<;>decide
def ajJ{r:Rel}{m:Nat}(h:m<32):MA r m RELS=compMask (bit r) m:=by
 have h':∀m:Fin 32,(RELS.all fun r=>MA r m.val RELS==compMask (bit r) m.val)=true:=`ē;have:=f_.mp (h' ⟨m,h⟩) r (7.1);exact eq_of_beq this
def eR{α:Type}{l:`ċ}{i:Nat}{x:α}(h:l[i]? =some x):l.take (i+1)=l.take i++[x]:=by
 rw[K_,h];rfl
def wy:Sp:=fun vs H Q _=>∃(r:Rel)(m:Nat),vs=[nV (bit r),nV m]/\m<32/\∀H',ag H H'->Q (nV (compMask (bit r) m)) H'
def YT{α β:Type}(p:α->Bool)(g:β->α->β):∀(l:`ċ)(f:β),l.foldl (fun f x=>if p x=true then g f x else f) f=(l.filter p).foldl g f
 |[],f=>rfl
 |x::l,f=>by
  rw[jA,kt,YT p g l];cases p x<;>rfl
def rA(r:Rel)(l:List Rel):Nat:=l.foldl (fun f s=>join f 7.8) 0
def ajL(r:Rel)(l:List Rel):rA r l<32:=by
 unfold rA;have:∀(l:List Rel)(f:Nat),f<32->l.foldl (fun f s=>join f 7.8) f<32:=by
  intro l
  induction l with
  |nil=>exact fun f h=>h
  |cons x l ih=>intro f h;exact ih _ (TM.ģ _ _)
 exact this l 0 `Æ
def ajM(r s:Rel)(l:List Rel):rA r (l++[s])=join (rA r l) 7.8:=by
 unfold rA;rw[ng];rfl
def ajK{r:Rel}{m:Nat}(h:m<32):rA r (`_M)=compMask (bit r) m:=by
 rw[<-ajJ h];unfold rA MA relsOf;rw[YT (Vbnlak.has m) (fun f s=>join f (Vbnlak.comp r s))]
def aqR(T:`Ä)(G0:p_•gK)(G:Ef•ww):Eg•wy:=by
 refine anz T `Â `Â ?_;rintro vs H Q E ⟨r,m,rfl,hm,h⟩;refine `Á;unfold aeD;ext;symm;refine⟨m,rfl,hm,fun p H1 s1 e1=>?_⟩;symm;refine fV (xs:=(`_M).map bV) (fun i σ H'=>∃v,σ=[some (nV (bit r)),some (nV m),some (nV (rA r ((`_M).take i))),v]/\ag H1 H') ⟨none,rfl,ag.refl _⟩ (fun i σ H' _ q=>q.choose_spec.2.seq (aG.of e1)) (fun i x σ H' hx q=>?_) (fun σ H' q=>?_)
 .obtain⟨v,rfl,s⟩:=q;rw[cG]at hx;obtain⟨y,hy,rfl⟩:=gc.mp hx;symm;refine⟨r,y,rfl,fun H2 s2=>?_⟩;symm;rw[V6 (ajL _ _) (ajt _ _),<-ajM,<-eR hy];exact⟨_,rfl,s.trans s2⟩
 .obtain⟨v,rfl,s⟩:=q;symm;have e:rA r ((`_M).take ((`_M).map bV).length)=compMask (bit r) m:=by rw[aJ,eT];exact ajK hm
  rw[e];exact h _ (s1.trans s)
def afM:∀{xs ys:`À},(∀x∈xs,x<32)->(∀y∈ys,y<32)->zipWith (fun x y=>V.int (Builtin.bitOr (lK x) (lK y))) (xs.map nV) (ys.map nV)=(zipWith join xs ys).map nV
 |[],_,_,_=>by simp
 |x::xs,[],_,_=>by simp
 |x::xs,y::ys,hx,hy=>by
  rw[cY,cY,K',K',cY,afM (fun z h=>hx z (gr _ h)) fun z h=>hy z (gr _ h)];congr 1;show V.int (Builtin.bitOr (x:Int) (y:Int))=_;rw[V6 (hx x im) (hy y im)]
def wK(K:Frag):Sp:=fun vs H Q _=>∃(p q:Addr)(xs ys:`À),vs=4.4/\aG K H p (xs.map nV)/\aG K H q (ys.map nV)/\(∀x∈xs,x<32)/\(∀y∈ys,y<32)/\`Ã<=sizeLine/\
 ∀D H',H D=none->ag H H'->H' D=some (.ah ((zipWith join xs ys).map nV))->Q `_5 H'
def ara(T:`Ä):Ev•wK K:=by
 refine anO T ?_;rintro vs H Q E ⟨p,q,xs,ys,rfl,hp,hq,hx,hy,hl,h⟩;refine `Á;unfold aeR;ext;symm;refine apx hp hq ?_;refine apG hp hq (by rw[aJ];exact hl) (fun x y=>V.int (Builtin.bitOr (lK x) (lK y))) (fun i x y H' t ex ey s ht R1 h1=>?_) (fun D H' hD s e=>h D H' hD s (by rw[e,afM hx hy]));obtain⟨n,hn,rfl⟩:=cw.mp (cN ex);obtain⟨m,hm,rfl⟩:=cw.mp (cN ey);show `_bb;exact h1 _ `_b
def iM(i:Nat):List Nat:=(`ó 32).map fun j=>compMask i j
def Wr(i j:Nat):compMask i j<32:=by
 have:∀(l:`À)(m:Nat),m<32->l.foldl join m<32:=by
  intro l
  induction l with
  |nil=>exact fun m h=>h
  |cons x l ih=>exact fun m h=>ih _ (TM.ģ _ _)
 exact this _ 0 `Æ
def Wx{i:Nat}:∀x∈iM i,x<32:=fun x hx=>by
 obtain⟨j,_,rfl⟩:=cw.mp hx;exact Wr i j
def ajC{k i:Nat}(hk:k<5)(hi:i<2^k):zipWith join (iM i) (iM (2^k))=iM (2^k+i):=by
 have h:∀k:Fin 5,((`ó (2^k.val)).all fun i=>decide (zipWith join (iM i) (iM (2^k.val))=iM (2^k.val+i)))=true:=`ē;exact lP (f_.mp (h ⟨k,hk⟩) i (jm.mpr hi))
def mY(H:Hp)(n:Nat)(p:Addr):Prop:=∃as:List Addr,H p=some ']'/\`_d=n/\∀(i:Nat)(x:Addr),as[i]? =some x->H x=some (.ah ((iM i).map nV))
def mY.aD{H H':Hp}{n:Nat}{p:Addr}(c:mY H n p)(s:`Ć):mY H' n p:=by
 obtain⟨as,h1,h2,h3⟩:=c;exact⟨as,s _ _ h1,h2,fun i x e=>s _ _ (h3 i x e)⟩
def wz:Sp:=fun vs H Q _=>vs=[]/\∀p H',ag H H'->mY H' 32 p->Q `Ü H'
def ar7(r:Nat):(((`ó 32).map fun i:Nat=>V.int (0+i)).filterMap fun v=>some (nV (compMask r (lK v).toNat)))=(iM r).map nV:=by
 rw[oV];unfold iM;rw[bP,<-List.filterMap_eq_map];congr 1
 funext i
 show some (nV (compMask r (0+(i:Int)).toNat))=some (nV (compMask r i));rw[show((0:Int)+(i:Int)).toNat=i by omega]
def aqS(T:`Ä)(C:oq w P K a)(G1:Eg•wy)(G2:Ev•wK K):Eh•wz:=by
 refine anA T G1 G2 ?_;rintro vs H Q E ⟨rfl,h⟩;refine `Á;unfold aeE;ext;symm;refine aah `Æ `Æ ?_;refine aal `Æ (fun _=>some (nV 0)) (fun i H' hi s R1 R0 h1 h0=>?_) (fun D H1 hD s1 e1=>?_)
 .symm;refine⟨rfl,oT ?_⟩;symm;exact h1 _ _ rfl `_b
 .symm;intro p hp;symm;refine B_ (C.dH _) ?_;have c0:mY (af H1 p (.ah [.ref D])) 1 p:=⟨[D],ax,rfl,fun i x e=>by
   match i,e with
   |0,e=>
    have:D=x:=bZ e;subst this;exact bB hp (e1.trans (fv (fun l=>some (HO.ah l)) (`ē)))
   |i+1,e=>simp at e⟩
  refine aaf (xs:=0.54) (fun i σ H'=>∃v1 v2 p,σ=[`î,v1,v2,none,none]/\ag H H'/\mY H' (2^i) p) ⟨none,none,p,rfl,kb (s1.free hp) s1,c0⟩ (fun i σ H' _ _=>C.dH H') (fun i x σ H' hx q=>?_) (fun σ H' q=>?_)
  .obtain⟨v1,v2,p,rfl,s,c⟩:=q;obtain⟨y,hy,rfl⟩:=Se hx;have hi:i<5:=(dM.mp hx).1;have ey:bit y=2^i:=by
    match i,hi,hy with
    |0,_,hy=>cases(bZ hy);rfl
    |1,_,hy=>cases(bZ hy);rfl
    |2,_,hy=>cases(bZ hy);rfl
    |3,_,hy=>cases(bZ hy);rfl
    |4,_,hy=>cases(bZ hy);rfl
   symm;refine aah `Æ `Æ ?_;refine aal `Æ (fun v=>some (nV (compMask (bit y) (lK v).toNat))) (fun j H2 hj s2 R1 R0 h1 h0=>?_) (fun D2 H2 A4 s2 e2=>?_)
   .symm;refine⟨rfl,oT ?_⟩;symm;have hj:j<32:=hj;have ej:((0:Int)+(j:Int))=(j:Int):=`Å;rw[ej];refine⟨y,j,rfl,hj,fun H3 s3=>h1 _ _ ?_ s3⟩;show some (nV (compMask (bit y) ((0:Int)+(j:Int)).toNat))=_;rw[show((0:Int)+(j:Int)).toNat=j by omega]
   .have e2':=e2.trans (fv (fun l=>some (HO.ah l)) (ar7 (bit y)));obtain⟨as,FZ,yQ,F8⟩:=c.aD s2;symm;refine Hk (aG.of FZ) (by rw[aJ,yQ];exact jV (kl (bq (Vp `Æ (jV hi)) `Æ))) (fun i' y' H'=>∃b,y'=.ref b/\H' b=some (.ah ((zipWith join (iM i') (iM (2^i))).map nV))) (fun _ _ _ _ ⟨b,e,h⟩ s=>⟨b,e,s _ _ h⟩) (fun j x H3 D3 BB s3 hD3 alm R1 h1=>?_) (fun D3 H3 zs hD3 s3 e3 l3 r3=>?_)
    .obtain⟨b,hb,rfl⟩:∃b,as[j]? =some b/\x=.ref b:=by
      rw[cG]at BB;cases e:as[j]? with
      |none=>rw[e]at BB;cases BB
      |some b=>rw[e]at BB;exact⟨b,rfl,(bZ BB).symm⟩
     symm;refine `Á;symm;refine⟨b,D2,iM j,iM (bit y),rfl,aG.of (s3 _ _ (F8 j b hb)),aG.of (s3 _ _ e2'),Wx,Wx,by rw[show(iM j).length=32 from by unfold iM;simp];decide,fun D4 H4 OP s4 e4=>?_⟩;refine h1 _ _ s4 ⟨D4,rfl,cJ (by rw[e4,ey]) fun e=>?_⟩;subst e;exact alm OP
    .symm;refine kT (s3 _ _ FZ) e3 ?_ fun l hl=>?_
     .rw[l3,aJ,yQ];exact jV (kl (bq (jC (Vp `Æ (jV hi)) (Vp `Æ (jV hi))) `Æ))
     .symm;have Bx:=s2.trans s3;refine⟨_,_,l,rfl,kb ((s.trans Bx).free hl) (s.trans Bx),?_⟩;obtain⟨bs,Zh,lbs⟩:∃bs:List Addr,zs=bs.map V.ref/\∀(j:Nat)(b:Addr),bs[j]? =some b->H3 b=some (.ah ((zipWith join (iM j) (iM (2^i))).map nV)):=by
       refine⟨zs.map fun z=>match z with|.ref b=>b|_=>0,?_,fun j b hb=>?_⟩
       .rw[bP];refine List.ext_getElem? fun j=>?_;rw[cG];cases ez:zs[j]? with
        |none=>rfl
        |some z=>
         obtain⟨b,rfl,_⟩:=r3 j z ez;rfl
       .rw[cG]at hb;cases ez:zs[j]? with
        |none=>rw[ez]at hb;cases hb
        |some z=>
         rw[ez]at hb;obtain⟨b',rfl,fc⟩:=r3 j z ez;have:b'=b:=bZ hb;subst this;exact(eS fc).1
      have lb:bs.length=2^i:=by rw[<-yQ,<-aJ (f:=V.ref) (as:=as),<-l3,Zh,aJ]
      refine⟨as++bs,by rw[ax,Zh,eY],by rw[dc,yQ,lb,Nat.pow_succ,Nat.mul_two],fun j x hx=>?_⟩;by_cases hj:j<`_d
      .rw[mh hj]at hx;exact bB hl (s3 _ _ (F8 j x hx))
      .rw[oz (by omega)]at hx;have cz:=(dM.mp hx).1;refine bB hl ((lbs _ _ hx).trans ?_);rw[ajC hi (by omega),show 2^i+(j-as.length)=j by omega]
  .obtain⟨v1,v2,p,rfl,s,c⟩:=q;symm;exact h p H' s c
abbrev kN(n:Nat):aW:=Sum.inl (n:Int)
abbrev aB(l:`À)(g:Nat->V):List (aW×V):=l.map fun c=>(kN c,g c)
def GM{m n:Nat}(h:kN m=kN n):m=n:=by
 have:(m:Int)=(n:Int):=Sum.inl.inj h;omega
def AS(g:Nat->V)(k:Int):∀(l:`À),f6 (aB l g) (.inl k)=if(∃c∈l,(c:Int)=k)then some (g k.toNat)else none
 |[]=>by simp[f6]
 |c::l=>by
  show f6 ((kN c,g c)::aB l g) (.inl k)=_;by_cases h:(c:Int)=k
  .rw[Jd (fv Sum.inl h),ay ⟨c,im,h⟩];have:k.toNat=c:=`Å;rw[this]
  .rw[Jc (fun q=>h (Sum.inl.inj q)),AS g k l];by_cases h2:∃c∈l,(c:Int)=k
   .rw[ay h2,ay (by obtain⟨c,hc,e⟩:=h2;exact⟨c,gr _ hc,e⟩)]
   .rw[aq h2,aq (by
     rintro⟨d,hd,e⟩;rcases bE.mp hd with rfl|hd
     .exact h e
     .exact h2 ⟨d,hd,e⟩)]
def fU{g:Nat->V}{l:`À}{c:Nat}(h:c∈l):f6 (aB l g) (kN c)=some (g c):=by
 rw[AS,ay ⟨c,h,rfl⟩,eB]
def vh{g:Nat->V}{l:`À}{c:Nat}:(f6 (aB l g) (kN c)).isSome=decide (c∈l):=by
 rw[AS];by_cases h:c∈l
 .rw[ay ⟨c,h,rfl⟩,g_ h];rfl
 .rw[aq (by
   rintro⟨d,hd,e⟩;have:d=c:=`Å;subst this;exact h hd),eN h];rfl
def X'{g:Nat->V}{l:`À}{c:Nat}{v:V}(h:c∈l):gV (aB l g) (kN c) v=aB l fun d=>if d=c then v else g d:=by
 unfold gV;rw[ay (by rw[Jb,vh,g_ h])];rw[bP];refine iG fun d _=>?_;show(if kN d=kN c then(kN d,v)else(kN d,g d))=(kN d,if d=c then v else g d);by_cases e:d=c
 .subst e;rw[ay rfl,ay rfl]
 .rw[aq (fun q=>e (GM q)),aq e]
def tq{g:Nat->V}{l:`À}{c:Nat}{v:V}(h:c∉l)(hv:g c=v):gV (aB l g) (kN c) v=aB (l++[c]) g:=by
 have e:f6 (aB l g) (kN c)=none:=by
  have:=vh (g:=g) (l:=l) (c:=c);rw[eN h]at this;cases q:f6 (aB l g) (kN c)with
  |none=>rfl
  |some x=>rw[q]at this;cases this
 rw[asI v e];unfold aB;rw[eY,<-hv];rfl
def oS{g h:Nat->V}{l:`À}(e:∀c∈l,g c=h c):aB l g=aB l h:=iG fun c hc=>by rw[e c hc]
structure qN(H:Hp)(p:Addr)(l:List Nat)(ρ:Nat->Addr)(ch:Nat->List Nat):Prop where
 dict:Rd H p '<'
 row:∀c∈l,H (ρ c)=some 3.15
def Rd.same{H H':Hp}{p:Addr}{u:HO}(h:Rd H p u)(s:`Ć):Rd H' p u:=h.elim (fun h=>.inl (s _ _ h)) fun⟨o,h⟩=>.inr ⟨o,s _ _ h⟩
def qN.aD{H H':Hp}{p:Addr}{l:`À}{ρ:`Ø}{ch:`Ĕ}(c:qN H p l ρ ch)(s:`Ć):qN H' p l ρ ch:=⟨Rd.same c.dict s,fun x h=>s _ _ (c.row x h)⟩
def vn(other:`À)(ch:`Ĕ)(c d:Nat):Nat:=if d∈other then 31 else if c=d then 1 else if d∈ch c then 3 else if c∈ch d then 5 else 16
def YN(other:`À)(ch:`Ĕ)(c d:Nat):vn other ch c d<32:=by
 unfold vn
 repeat' split
 all_goals decide
def Ő(l:`À):l.map nV=(l.map fun n:Nat=>(n:Int)).map V.int:=8.9
def ajw{l:`À}{n:Nat}:(l.map fun n:Nat=>(n:Int)).contains (n:Int)=decide (n∈l):=by
 rw[Ds];congr 1;refine propext ⟨fun h=>?_,fun h=>cw.mpr ⟨n,h,rfl⟩⟩;obtain⟨m,hm,e⟩:=cw.mp h;have:m=n:=`Å;subst this;exact hm
def aaj{H:Hp}{Q:VK}{p:Addr}{x:Nat}{ns:`À}(h:aG K H p (ns.map nV))(q:Q (.bl (decide (x∈ns))) H):qE K false (nV x) `Ü H Q:=by
 rw[Ő]at h;exact apz h (by rw[ajw];exact q)
def wE:Sp:=fun vs H Q _=>∃(p q:Addr)(l m:`À)(ρ τ:`Ø)(ch e_:`Ĕ)(c d:Nat),vs=[.ref p,.ref q,nV c,nV d]/\qN H p l ρ ch/\qN H q m τ e_/\c∈l/\(d∈l\/d∈m)/\Q (nV (vn m ch c d)) H
def aq1(T:`Ä):En•wE:=by
 refine anG T ?_;rintro vs H Q E ⟨p,q,l,m,ρ,τ,ch,e_,c,d,rfl,hp,hq,hc,hd,h⟩;refine `Á;unfold aeJ;ext;unfold vn at h;symm;refine Hi hq.dict ?_;rw[vh];show `_bH
 .show `_bB
 .rw[aq e]at h;have hd:d∈l:=hd.resolve_right e;show `_bH
  .have e:c=d:=`Å;show `_bB
  .have e:¬c=d:=`Å;rw[aq e]at h;symm;refine eJ hp.dict (fU hc) ?_;refine aaj (aG.of (hp.row c hc)) ?_;show `_bH
   .show `_bB
   .rw[aq e]at h;symm;refine eJ hp.dict (fU hd) ?_;refine aaj (aG.of (hp.row d hd)) ?_;show `_bH
    .show `_bB
    .rw[aq e]at h;symm;exact h
structure cP(H:Hp)(t:Addr)(cs ds:List Nat)(ρ:Nat->Addr)(F:Nat->Nat->Nat):Prop where
 tab:H t=some (.dK (aB cs fun c=>.ref (ρ c)))
 row:∀c∈cs,H (ρ c)=some (.dK (aB ds fun d=>nV `Ď))
 inj:∀c∈cs,∀d∈cs,ρ c=ρ d->c=d
 ne:∀c∈cs,ρ c≠t
 ok:∀c∈cs,∀d∈ds,F c d<32
def fk(cs:`À)(ρ:`Ø)(H H':Hp):Prop:=∀b o,H b=some o->(∀c∈cs,b≠ρ c)->H' b=some o
def fk.refl{cs:`À}{ρ:`Ø}{H:Hp}:fk cs ρ H H:=fun _ _ h _=>h
def fk.trans{cs:`À}{ρ:`Ø}{H H1 H2:Hp}(a:fk cs ρ H H1)(b:fk cs ρ H1 H2):fk cs ρ H H2:=fun x o h n=>b x o (a x o h n) n
def fk.aqg{cs:`À}{ρ:`Ø}{H H':Hp}(s:`Ć):fk cs ρ H H':=fun b o h _=>s b o h
def cP.aD{H H':Hp}{t:Addr}{cs ds:`À}{ρ:`Ø}{F:`É}(h:cP H t cs ds ρ F)(s:`Ć):cP H' t cs ds ρ F:=⟨s _ _ h.tab,fun c hc=>s _ _ (h.row c hc),h.inj,h.ne,h.ok⟩
def cP.seq{H H':Hp}{t:Addr}{cs ds:`À}{ρ:`Ø}{F:`É}{p:Addr}{xs:List V}(h:cP H t cs ds ρ F)(o:fk cs ρ H H')(q:'('):aG K H' p xs:=by
 rcases q with(q|⟨u,q⟩)|q
 .exact .inl (.inl (1.78))
 .exact .inl (.inr ⟨u,1.78⟩)
 .exact .inr q
def cP.iE{H H':Hp}{t:Addr}{cs ds:`À}{ρ:`Ø}{F:`É}{p:Addr}{xs:List V}(h:cP H t cs ds ρ F)(o:fk cs ρ H H')(q:bF K H p xs):bF K H' p xs:=by
 rcases q with(q|⟨u,q⟩)|q
 .exact .inl (.inl (1.78))
 .exact .inl (.inr ⟨u,1.78⟩)
 .exact .inr q
def mJ(F:`É)(c d m:Nat):Nat->Nat->Nat:=fun x y=>if x=c/\y=d then m else F x y
def cP.kY{H:Hp}{t:Addr}{cs ds:`À}{ρ:`Ø}{F:`É}{c d m:Nat}(h:cP H t cs ds ρ F)(hc:c∈cs)(hd:d∈ds)(hm:m<32):
 cP 4.56 t cs ds ρ (mJ F c d m)/\fk cs ρ H 4.56:=by
 refine⟨⟨by rw[au (aL (h.ne c hc))];exact h.tab,`_n,h.inj,h.ne,fun x hx y hy=>?_⟩,fun b o e n=>by rw[au (n c hc)];exact e⟩
 .by_cases e:x=c
  .subst e;rw[ax,X' hd];congr 2;refine oS fun y _=>?_;unfold mJ;by_cases e:y=d
   .rw[ay e,ay ⟨rfl,e⟩]
   .rw[aq e,aq fun q=>e q.2]
  .rw[au fun q=>e (h.inj x hx c hc q),h.row x hx];congr 2;refine oS fun y _=>?_;unfold mJ;rw[aq fun q=>e q.1]
 .unfold mJ;split
  .exact hm
  .exact h.ok x hx y hy
def qz(F:`É)(c d m:Nat):Nat->Nat->Nat:=mJ F c d (Vbnlak.meet `Ď m)
def uj:Sp:=fun vs H Q _=>∃(t:Addr)(cs:`À)(ρ:`Ø)(F:`É)(c d m:Nat),vs=[.ref t,nV c,nV d,nV m]/\cP H t cs cs ρ F/\c∈cs/\d∈cs/\m<32/\`ë<=100/\
 ∀H',cP H' t cs cs ρ (qz F c d m)->fk cs ρ H H'->Q .aX H'
def eU{g:Nat->V}{l:`À}:(aB l g).length=`Û:=aJ ..
def aq_(T:`Ä):Eu•uj:=by
 refine anN T ?_;rintro vs H Q E ⟨t,cs,ρ,F,c,d,m,rfl,ht,hc,hd,hm,hl,h⟩;refine `Á;unfold aeQ;ext;symm;refine 1.26;show `_co;rw[Md (ht.ok c hc d hd) hm];obtain⟨h1,h2⟩:=ht.kY hc hd (TM.BV `Ď m);exact h _ h1 h2
def sH:Sp:=fun vs H Q _=>∃(t:Addr)(cs:`À)(ρ:`Ø)(F:`É)(c d m:Nat),vs=[.ref t,nV c,nV d,nV m]/\cP H t cs cs ρ F/\c∈cs/\d∈cs/\m<32/\`ë<=100/\
 ∀H',cP H' t cs cs ρ (qz F c d (31-m))->fk cs ρ H H'->Q .aX H'
def arJ(T:`Ä):EJ•sH:=by
 refine an6 T ?_;rintro vs H Q E ⟨t,cs,ρ,F,c,d,m,rfl,ht,hc,hd,hm,hl,h⟩;refine `Á;unfold ae9;ext;symm;refine 1.26;show `_co;have e:(31:Int)-(m:Int)=((31-m:Nat):Int):=`Å;rw[e,Md (ht.ok c hc d hd) (by omega)];obtain⟨h1,h2⟩:=ht.kY hc hd (TM.BV `Ď (31-m));exact h _ h1 h2
def jc{l:`À}{i:Nat}{x:V}(h:(l.map nV)[i]? =some x):∃n,l[i]? =some n/\x=nV n:=by
 rw[cG]at h;cases e:l[i]? with
 |none=>rw[e]at h;cases h
 |some n=>rw[e]at h;exact⟨n,rfl,(bZ h).symm⟩
def Qu{l:`À}{i n:Nat}(h:l[i]? =some n):(l.map nV)[i]? =some (nV n):=by rw[cG,h];rfl
def jd(l:`À)(F:`É)(c d:Nat):Nat:=l.foldl (fun m e=>Vbnlak.meet m 2.36) `Ď
def OW{l:`À}{F:`É}{c d:Nat}{r:Rel}:Vbnlak.has (jd l F c d) r=true↔Vbnlak.has `Ď r=true/\∀e∈l,Vbnlak.has 2.36 r=true:=by
 unfold jd;rw[TM.OV (fun e=>compMask (F c e) (F e d)),f7,f_]
def QD{l:`À}{F:`É}{c d:Nat}(h:F c d<32):jd l F c d<32:=TM.Qg _ _ _ h
def apW{l:`À}{F G:`É}{c d:Nat}(h0:F c d=G c d)(h1:∀e∈l,F c e=G c e)(h2:∀e∈l,F e d=G e d):jd l F c d=jd l G c d:=by
 unfold jd;rw[h0];have:∀(l:`À)(m:Nat),(∀e∈l,F c e=G c e)->(∀e∈l,F e d=G e d)->l.foldl (fun m e=>Vbnlak.meet m 2.36) m=l.foldl (fun m e=>Vbnlak.meet m (compMask (G c e) (G e d))) m:=by
  intro l
  induction l with
  |nil=>intros;rfl
  |cons x l ih=>
   intro m a b;rw[jA,jA,a x im,b x im,ih _ (fun e he=>a e (gr _ he)) fun e he=>b e (gr _ he)]
 exact this l _ h1 h2
def mY.get{H:Hp}{p:Addr}(c:mY H 32 p){i j:Nat}(hi:i<32)(hj:j<32):∃(as:`ð)(x:Addr),H p=some ']'/\(`ù)[i]? =some (.ref x)/\H x=some (.ah ((iM i).map nV))/\((iM i).map nV)[j]? =some (nV (compMask i j)):=by
 obtain⟨as,h1,h2,h3⟩:=c;have e:as[i]? =some as[i]:=jU `È;refine⟨as,as[i],h1,by rw[cG,e];rfl,h3 i _ e,Qu ?_⟩;unfold iM;rw[cG,U6 hj];rfl
def wP(K:Frag):Sp:=fun vs H Q _=>∃(t q p:Addr)(cs:`À)(ρ:`Ø)(F:`É)(c d:Nat),vs=[.ref t,.ref q,.ref p,nV c,nV d]/\cP H t cs cs ρ F/\aG K H q (cs.map nV)/\mY H 32 p/\c∈cs/\d∈cs/\Q (nV (jd cs F c d)) H
def arn(T:`Ä):EA•wP K:=by
 refine anV T ?_;rintro vs H Q E ⟨t,q,p,cs,ρ,F,c,d,rfl,ht,hq,hp,hc,hd,h⟩;refine `Á;unfold aeY;ext;symm;refine 1.26;symm;refine 3.48;symm;refine fV (xs:=cs.map nV) (fun i σ H'=>∃v,H'=H/\σ=[`_P,`Č,`î,0.0,some (nV d),some (.ref (ρ c)),some (nV (jd (cs.take i) F c d)),v]) ⟨none,rfl,rfl⟩ (fun i σ H' _ ⟨_,e,_⟩=>by rw[e];exact hq) '0' `é
 .show `_aT;obtain⟨e,he,rfl⟩:=jc hx;have Bf:e∈cs:=cN he;symm;refine eJ (.inl (ht.row c hc)) (fU Bf) ?_;obtain⟨as,y,g1,g2,g3,g4⟩:=hp.get (ht.ok c hc e Bf) (ht.ok e Bf d hd);refine tM (aG.of g1) rfl g2 ?_;symm;refine eJ (.inl ht.tab) (fU Bf) ?_;symm;refine eJ (.inl (ht.row e Bf)) (fU hd) ?_;refine tM (aG.of g3) rfl g4 ?_;symm;rw[Md (QD (ht.ok c hc d hd)) (Wr _ _)];have e2:jd (cs.take (i+1)) F c d=Vbnlak.meet (jd (cs.take i) F c d) 2.36:=by
   unfold jd;rw[eR he,ng];rfl
  rw[<-e2];exact⟨_,rfl,rfl⟩
 .show `_aT;symm;rw[aJ,eT];exact h
def ix(cs:`À)(F:`É)(i j:Nat):Nat:=F (`χ) (cs.getD j 0)
def getD_mem{cs:`À}{i:Nat}(h:i<`ë):cs.getD i 0∈cs:=by
 rw[qX,jU h];exact List.getElem_mem h
def vv{cs:`À}{i c:Nat}(h:cs[i]? =some c):cs.getD i 0=c:=by rw[qX,h];rfl
structure ml(cs:List Nat)(F0 F:Nat->Nat->Nat)(ch:Bool)(done:Nat->Nat->Prop):Prop where
 le:∀c∈cs,∀d∈cs,TM.Le `Ď (F0 c d)
 lo:∀v,TM.nj cs.length v->TM.fO cs.length v (ix cs F0)->TM.fO cs.length v (ix cs F)
 un:ch=false->(∀c∈cs,∀d∈cs,F c d=F0 c d)/\∀i j,i<`ë->j<`ë->done i j->jd cs F0 (`χ) (cs.getD j 0)=F0 (`χ) (cs.getD j 0)
 lt:ch=true->∃c∈cs,∃d∈cs,F c d≠F0 c d
def ml.km{cs:`À}{F0 F:`É}{ch:Bool}{done Fw:Nat->Nat->Prop}{i j c d:Nat}(h:ml cs F0 F ch done)(hi:cs[i]? =some c)(hj:cs[j]? =some d)(e:jd cs F c d=F c d)(hd:∀x y,Fw x y->done x y\/(x=i/\y=j)):ml cs F0 F ch Fw:=by
 refine⟨h.le,h.lo,fun q=>⟨(h.un q).1,fun x y hx hy Gx=>?_⟩,h.lt⟩;rcases hd x y Gx with z|⟨rfl,rfl⟩
 .exact(h.un q).2 x y hx hy z
 .have u:=(h.un q).1;have mc:c∈cs:=cN hi;have md:d∈cs:=cN hj;rw[vv hi,vv hj,<-u c mc d md,<-e];exact(apW (u c mc d md) (fun e he=>u c mc e he) fun e he=>u e he d md).symm
def ml.kY{cs:`À}{F0 F:`É}{ch:Bool}{done Fw:Nat->Nat->Prop}{c d:Nat}(h:ml cs F0 F ch done)(ok0:∀c∈cs,∀d∈cs,F0 c d<32)(ok:∀c∈cs,∀d∈cs,F c d<32)(mc:c∈cs)(md:d∈cs)(e:jd cs F c d≠F c d):ml cs F0 (mJ F c d (jd cs F c d)) true Fw:=by
 have ķ:TM.Le (jd cs F c d) `Ď:=fun r q=>(OW.mp q).1;refine⟨fun x hx y hy=>?_,fun v sh hv=>?_,fun q=>(nomatch q),fun _=>⟨c,mc,d,md,fun q=>e ?_⟩⟩
 .unfold mJ;split
  .rename_i z
   rw[z.1,z.2];exact ķ.trans (h.le c mc d md)
  .exact h.le x hx y hy
 .intro i j hi hj;have b:=h.lo v sh hv;show TM.Le (v i j) (mJ F c d (jd cs F c d) (`χ) (cs.getD j 0));unfold mJ;split
  .rename_i z
   intro r q;refine OW.mpr ⟨?_,`_n⟩
   .have:=b i j hi hj r q;unfold ix at this;rw[z.1,z.2]at this;exact this
   .obtain⟨k,hk⟩:=sQ hx;have O9:k<`ë:=(dM.mp hk).1;have q2:=sh i j k hi hj O9 r q;have b1:=b i k hi O9;have b2:=b k j O9 hj;unfold ix at b1 b2;rw[z.1,vv hk]at b1;rw[z.2,vv hk]at b2;exact TM.Ws b1 b2 r q2
  .exact b i j hi hj
 .unfold mJ at q;rw[ay ⟨rfl,rfl⟩]at q;have l2:=h.le c mc d md;rw[<-q]at l2;exact TM.Le.L7 (QD (ok c mc d md)) (ok c mc d md) ķ l2
def cP.comp{H H':Hp}{t p:Addr}{cs ds:`À}{ρ:`Ø}{F:`É}{n:Nat}(h:cP H t cs ds ρ F)(o:fk cs ρ H H')(q:mY H n p):mY H' n p:=by
 obtain⟨as,h1,h2,h3⟩:=q;exact⟨as,o _ _ h1 fun c hc=>dG h1 (h.row c hc) `ć,h2,fun i x e=>o _ _ (h3 i x e) fun c hc=>dG (h3 i x e) (h.row c hc) `ć⟩
def wN(K:Frag):Sp:=fun vs H Q _=>∃(t q p:Addr)(cs:`À)(ρ:`Ø)(F:`É),vs=[.ref t,.ref q,.ref p]/\cP H t cs cs ρ F/\aG K H q (cs.map nV)/\mY H 32 p/\`ë<=100/\
 ∀H' F' ch,cP H' t cs cs ρ F'->fk cs ρ H H'->ml cs F F' ch (fun _ _=>True)->Q (.bl ch) H'
def ark(T:`Ä)(G:EA•wP K):Ey•wN K:=by
 refine anS T G ?_;rintro vs H Q E ⟨t,q,p,cs,ρ,F0,rfl,ht,hq,hp,hl,h⟩;refine `Á;unfold aeV;ext;symm;refine fV (xs:=cs.map nV) (fun i σ H'=>∃ch v4 v5 v6 F,σ=[`_P,`Č,`î,some (.bl ch),v4,v5,v6]/\cP H' t cs cs ρ F/\fk cs ρ H H'/\ml cs F0 F ch (fun x _=>x<i)) ⟨false,none,none,none,F0,rfl,ht,fk.refl,fun _ _ _ _=>TM.Le.rfl,fun v _ h=>h,fun _=>⟨fun _ _ _ _=>rfl,fun i j _ _ z=>absurd z (DI _)⟩,fun z=>5.6⟩
  (fun i σ H' _ ⟨_,_,_,_,_,_,_,o,_⟩=>ht.seq o hq) '0' `é
 .obtain⟨ch,v4,v5,v6,F,rfl,cF,o1,n1⟩:=z;obtain⟨c,hc,rfl⟩:=jc hx;have mc:c∈cs:=cN hc;symm;refine sj (ht.seq o1 hq) ?_;refine fV (xs:=cs.map nV) (fun j σ H'=>∃ch v5 v6 F,σ=[`_P,`Č,`î,some (.bl ch),0.0,v5,v6]/\cP H' t cs cs ρ F/\fk cs ρ H H'/\ml cs F0 F ch (fun x y=>x<i\/(x=i/\y<j))) ⟨ch,v5,v6,F,rfl,cF,o1,n1.le,n1.lo,fun z=>⟨(n1.un z).1,fun x y hx hy Gx=>(n1.un z).2 x y hx hy (Gx.resolve_right fun q=>DI _ q.2)⟩,n1.lt⟩
   (fun i σ H' _ ⟨_,_,_,_,_,_,o,_⟩=>ht.seq o hq) (fun j x σ H' hx z=>?_) `é
  .obtain⟨ch,v5,v6,F,rfl,cF,o1,n1⟩:=z;obtain⟨d,hd,rfl⟩:=jc hx;have md:d∈cs:=cN hd;symm;refine⟨t,q,p,cs,ρ,F,c,d,rfl,cF,ht.seq o1 hq,ht.comp o1 hp,mc,md,?_⟩;symm;refine eJ (.inl cF.tab) (fU mc) ?_;symm;refine eJ (.inl (cF.row c mc)) (fU md) ?_;symm;refine FA (fun e=>?_) fun e=>?_
   .have e:jd cs F c d≠F c d:=fun q=>e (by rw[q]);symm;refine eJ (.inl cF.tab) (fU mc) ?_;symm;refine nR (cF.row c mc) (by rw[eU];exact kl `È) ?_;symm;obtain⟨h1,h2⟩:=cF.kY mc md (QD (l:=cs) (cF.ok c mc d md));exact⟨true,_,_,_,rfl,h1,o1.trans h2,n1.kY ht.ok cF.ok mc md e⟩
   .have e:jd cs F c d=F c d:=`Å;symm;exact⟨ch,_,_,F,rfl,cF,o1,n1.km hc hd e fun x y z=>by
     rcases z with z|⟨z1,z2⟩
     .exact .inl (.inl z)
     .by_cases z3:y<j
      .exact .inl (.inr ⟨z1,z3⟩)
      .exact .inr ⟨z1,`Å⟩⟩
  .obtain⟨ch,v5,v6,F,rfl,cF,o1,n1⟩:=z;refine⟨ch,_,_,_,F,rfl,cF,o1,n1.le,n1.lo,fun z=>⟨(n1.un z).1,fun x y hx hy Gx=>(n1.un z).2 x y hx hy ?_⟩,n1.lt⟩;by_cases z3:x<i
   .exact .inl z3
   .refine .inr ⟨`Å,?_⟩;rw[aJ];exact hy
 .obtain⟨ch,v4,v5,v6,F,rfl,cF,o1,n1⟩:=z;symm;exact h _ F ch cF o1 ⟨n1.le,n1.lo,fun z=>⟨(n1.un z).1,fun x y hx hy _=>(n1.un z).2 x y hx hy (by rw[aJ];exact hx)⟩,n1.lt⟩
def oO(K:Frag)(H:Hp)(p:Addr)(tl:`_Z):Prop:=∃xs,aG K H p xs/\`Ã=tl.length/\∀(i:Nat)(x:V),xs[i]? =some x->∃q c d m,tl[i]? =some (c,d,m)/\x=.ref q/\bF K H q [nV c,nV d,nV m]
def oK(K:Frag)(H:Hp)(p:Addr)(rl:'/'):Prop:=∃xs,aG K H p xs/\`Ã=rl.length/\∀(i:Nat)(x:V),xs[i]? =some x->∃q f s ins outs,rl[i]? =some (ins,outs)/\x=.ref q/\bF K H q [.ref f,.ref s]/\aG K H f (ins.map nV)/\aG K H s (outs.map nV)
def oO.aD{H H':Hp}{p:Addr}{tl:`_Z}(h:oO K H p tl)(s:`Ć):oO K H' p tl:=by
 obtain⟨xs,h1,h2,h3⟩:=h;refine⟨xs,s.seq h1,h2,fun i x e=>?_⟩;obtain⟨q,c,d,m,e1,e2,e3⟩:=h3 i x e;exact⟨q,c,d,m,e1,e2,s.iE e3⟩
def oK.aD{H H':Hp}{p:Addr}{rl:'/'}(h:oK K H p rl)(s:`Ć):oK K H' p rl:=by
 obtain⟨xs,h1,h2,h3⟩:=h;refine⟨xs,s.seq h1,h2,fun i x e=>?_⟩;obtain⟨q,f,g,ins,outs,e1,e2,e3,e4,e5⟩:=h3 i x e;exact⟨q,f,g,ins,outs,e1,e2,s.iE e3,s.seq e4,s.seq e5⟩
def xp(F:`É)(x:Nat×Nat×Nat):Nat->Nat->Nat:=qz (qz F x.1 x.2.1 x.2.2) x.2.1 x.1 (Vbnlak.turnedMask x.2.2)
def k7(tl:`_Z)(F:`É):Nat->Nat->Nat:=tl.foldl xp F
def auA{tl:`_Z}{F:`É}{i:Nat}{x:Nat×Nat×Nat}(h:tl[i]? =some x):k7 (tl.take (i+1)) F=xp (k7 (tl.take i) F) x:=by
 unfold k7;rw[eR h,ng];rfl
def aoH(l:List Rel):Vbnlak.maskOf l<32:=by
 have e:Vbnlak.maskOf l=Vbnlak.maskOf (RELS.filter fun r=>l.contains r):=by
  unfold Vbnlak.maskOf;congr 1;refine iG fun r hr=>?_;rw[show(filter (fun r=>l.contains r) RELS).contains r=l.contains r from by
   rw[Ds,Ds];congr 1;rw[iU];exact propext ⟨fun h=>by simpa using h.2,fun h=>⟨hr,'['⟩⟩]
 rw[e];exact TM.FS _
def wY(K:Frag):Sp:=fun vs H Q _=>∃(t p:Addr)(cs:`À)(ρ:`Ø)(F:`É)(tl:`_Z),vs=[.ref t,.ref p]/\cP H t cs cs ρ F/\oO K H p tl/\`ë<=100/\(∀x∈tl,x.1∈cs/\x.2.1∈cs/\x.2.2<32)/\
 ∀H',cP H' t cs cs ρ (k7 tl F)->fk cs ρ H H'->Q .aX H'
def arL(T:`Ä)(G1:Eu•uj)(G2:EN•w9):EL•wY K:=by
 refine an8 T G1 G2 ?_;rintro vs H Q E ⟨t,p,cs,ρ,F,tl,rfl,ht,⟨xs,hp,hX,hx⟩,hl,pk,h⟩;refine `Á;unfold ae';ext;symm;refine fV (xs:=xs) (fun i σ H'=>∃v2 v3 v4,σ=[`_P,`î,v2,v3,v4]/\cP H' t cs cs ρ (k7 (tl.take i) F)/\fk cs ρ H H') ⟨none,none,none,rfl,ht,fk.refl⟩ (fun i σ H' _ ⟨_,_,_,_,_,o⟩=>ht.seq o hp) 1.29 `é
 .obtain⟨v2,v3,v4,rfl,cF,o1⟩:=z;obtain⟨q,c,d,m,e1,rfl,hq⟩:=hx i x rQ;obtain⟨mc,md,mm⟩:=pk _ (cN e1);refine lE (ht.iE o1 hq) rfl (fA ?_);symm;refine fA ?_;show `_an;symm;refine⟨t,cs,ρ,_,c,d,m,rfl,cF,mc,md,mm,hl,fun H2 jt o2=>?_⟩;symm;refine⟨m,rfl,mm,fun H3 s3=>?_⟩;symm;refine⟨t,cs,ρ,_,d,c,Vbnlak.turnedMask m,rfl,jt.aD s3,md,mc,aoH _,hl,fun H4 lJ o4=>?_⟩;refine⟨_,_,_,rfl,?_,((o1.trans o2).trans (fk.aqg s3)).trans o4⟩;rw[auA e1];exact lJ
 .obtain⟨v2,v3,v4,rfl,cF,o1⟩:=z;rw[hX,eT]at cF;exact h _ cF o1
def mL(ins:`À)(c:Nat)(F:`É):Nat->Nat->Nat:=ins.foldl (fun F d=>qz F c d 15) F
def n8(outs:`À)(c:Nat)(F:`É):Nat->Nat->Nat:=outs.foldl (fun F d=>qz (qz F c d 28) d c 26) F
def wl(F:`É)(x:0.95):Nat->Nat->Nat:=x.1.foldl (fun F c=>n8 x.2 c (mL x.1 c F)) F
def ka(rl:'/')(F:`É):Nat->Nat->Nat:=rl.foldl wl F
def FV{α β:Type}{l:`ċ}{i:Nat}{x:α}(f:β->α->β)(b:β)(h:l[i]? =some x):(l.take (i+1)).foldl f b=f ((l.take i).foldl f b) x:=by
 rw[eR h,ng];rfl
def wX(K:Frag):Sp:=fun vs H Q _=>∃(t p:Addr)(cs:`À)(ρ:`Ø)(F:`É)(rl:'/'),vs=[.ref t,.ref p]/\cP H t cs cs ρ F/\oK K H p rl/\`ë<=100/\(∀x∈rl,(∀c∈x.1,c∈cs)/\∀c∈x.2,c∈cs)/\
 ∀H',cP H' t cs cs ρ (ka rl F)->fk cs ρ H H'->Q .aX H'
def arK(T:`Ä)(G:EJ•sH):EK•wX K:=by
 refine an7 T G ?_;rintro vs H Q E ⟨t,p,cs,ρ,F,rl,rfl,ht,⟨xs,hp,hX,hx⟩,hl,vM,h⟩;refine `Á;unfold ae_;ext;symm;refine fV (xs:=xs) (fun i σ H'=>∃v2 v3 v4 v5,σ=[`_P,`î,v2,v3,v4,v5]/\cP H' t cs cs ρ (ka (rl.take i) F)/\fk cs ρ H H') ⟨none,none,none,none,rfl,ht,fk.refl⟩ (fun i σ H' _ ⟨_,_,_,_,_,_,o⟩=>ht.seq o hp) 1.29 `é
 .obtain⟨v2,v3,v4,v5,rfl,cF,o1⟩:=z;obtain⟨q,f,s,ins,outs,e1,rfl,hq,hf,hs⟩:=hx i x rQ;obtain⟨min,aoV⟩:=vM _ (cN e1);refine lE (ht.iE o1 hq) rfl (fA ?_);show `_an;symm;refine sj (ht.seq o1 hf) ?_;refine fV (xs:=ins.map nV) (fun j σ H'=>∃v4 v5,σ=[`_P,`î,`ĕ,some (.ref s),v4,v5]/\cP H' t cs cs ρ 2.72/\fk cs ρ H H') ⟨_,_,rfl,cF,o1⟩ (fun i σ H' _ ⟨_,_,_,_,o⟩=>ht.seq o hf) (fun j x σ H' O7 z=>?_) `é
  .obtain⟨v4,v5,rfl,jt,o2⟩:=z;obtain⟨c,hc,rfl⟩:=jc O7;have mc:=min c (cN hc);symm;refine sj (ht.seq o2 hf) ?_;refine fV (xs:=ins.map nV) (fun k σ H'=>∃v5,σ=[`_P,`î,`ĕ,some (.ref s),0.0,v5]/\cP H' t cs cs ρ (mL (ins.take k) c 2.72)/\fk cs ρ H H') ⟨_,rfl,jt,o2⟩ (fun i σ H' _ ⟨_,_,_,o⟩=>ht.seq o hf) (fun k x σ H' yW z=>?_) `é
   .obtain⟨v5,rfl,pj,o3⟩:=z;obtain⟨d,hd,rfl⟩:=jc yW;symm;refine⟨t,cs,ρ,_,c,d,16,rfl,pj,mc,min d (cN hd),`Ĝ,hl,fun H4 lJ o4=>?_⟩;refine⟨_,rfl,?_,o3.trans o4⟩;unfold mL;rw[FV _ _ hd];exact lJ
   .obtain⟨v5,rfl,pj,o3⟩:=z;rw[aJ,eT]at pj;symm;refine sj (ht.seq o3 hs) ?_;refine fV (xs:=outs.map nV) (fun k σ H'=>∃v5,σ=[`_P,`î,`ĕ,some (.ref s),0.0,v5]/\cP H' t cs cs ρ (n8 (outs.take k) c (mL ins c 2.72))/\fk cs ρ H H') ⟨_,rfl,pj,o3⟩ (fun i σ H' _ ⟨_,_,_,o⟩=>ht.seq o hs) (fun k x σ H' yW z=>?_) `é
    .obtain⟨v5,rfl,lJ,o4⟩:=z;obtain⟨d,hd,rfl⟩:=jc yW;have md:=aoV d (cN hd);symm;refine⟨t,cs,ρ,_,c,d,3,rfl,lJ,mc,md,`Ĝ,hl,fun H5 rV o5=>?_⟩;symm;refine⟨t,cs,ρ,_,d,c,5,rfl,rV,md,mc,`Ĝ,hl,fun H6 y8 o6=>?_⟩;refine⟨_,rfl,?_,(o4.trans o5).trans o6⟩;unfold n8;rw[FV _ _ hd];exact y8
    .obtain⟨v5,rfl,lJ,o4⟩:=z;rw[aJ,eT]at lJ;refine⟨_,_,rfl,?_,o4⟩;rw[FV _ _ hc];exact lJ
  .obtain⟨v4,v5,rfl,jt,o2⟩:=z;rw[aJ,eT]at jt;refine⟨_,_,_,_,rfl,?_,o2⟩;unfold ka;rw[FV _ _ e1];exact jt
 .obtain⟨v2,v3,v4,v5,rfl,cF,o1⟩:=z;rw[hX,eT]at cF;exact h _ cF o1
def qG(l m:`À)(ch:`Ĕ)(F:`É):Nat->Nat->Nat:=fun c d=>if c∈l then vn m ch c d else F c d
def ui(K:Frag):Sp:=fun vs H Q _=>∃(t p q k:Addr)(cs ds l m:`À)(ρ τ υ:`Ø)(ch e_:`Ĕ)(F:`É),vs=[.ref t,.ref p,.ref q,.ref k]/\cP H t cs ds ρ F/\
 H p=some (.dK (aB l fun c=>.ref (τ c)))/\(∀c∈l,H (τ c)=some 3.15)/\qN H q m υ e_/\aG K H k (ds.map nV)/\p≠t/\p≠q/\q≠t/\(∀c∈cs,ρ c≠p)/\(cs++l).Nodup/\ds.Nodup/\(∀d∈ds,d∈l\/d∈m)/\(cs++l).length<=100/\ds.length<=100/\
 ∀H' jk,cP H' t (cs++l) ds jk (qG l m ch F)->(∀b o,H b=some o->b≠t->H' b=some o)->(∀c∈cs++l,H (jk c)=none\/(c∈cs/\jk c=ρ c))->Q .aX H'
def aqx(T:`Ä)(G:En•wE):Ec•ui K:=by
 refine ane T G ?_;rintro vs H Q E ⟨t,p,q,k,cs,ds,l,m,ρ,τ,υ,ch,e_,F,rfl,ht,hp,y_,hq,hk,so,npq,nqt,nrp,nd,ndd,vA,hl,Ga,h⟩;refine `Á;unfold ael;ext;refine vU hp trivial fun od=>?_;have s0:∀b o,H b=some o->b≠p->af H p 1.13 b=some o:=fun b o e n=>by rw[au n];exact e
 have alO:∀{x:Addr}{xs:List V},aG K H x xs->aG K (af H p 1.13) x xs:=fun{x xs} e=>by
  rcases e with(e|⟨u,e⟩)|e
  .exact .inl (.inl (s0 _ _ e (dG e hp `ć)))
  .exact .inl (.inr ⟨u,s0 _ _ e (dG e hp `ć)⟩)
  .exact .inr e
 symm;refine B9 ax ?_;have nd1:l.Nodup:=(p7.mp nd).2.1;refine B6 (kvs:=aB l fun c=>.ref (τ c)) (fun i σ H'=>∃v4 v5 v6 jk,σ=[`_P,`î,`Č,some (.ref k),v4,v5,v6]/\cP H' t (cs++l.take i) ds jk (qG l m ch F)/\(∀b o,af H p 1.13 b=some o->b≠t->H' b=some o)/\(∀c∈cs++l.take i,H (jk c)=none\/(c∈cs/\jk c=ρ c))) ?_ (fun i σ H' _ ⟨_,_,_,_,_,_,s,_⟩=>s _ _ ax so) (fun i ky v σ H' hi z=>?_) `é
 .refine⟨none,none,none,ρ,rfl,?_,fun b o e _=>e,fun c hc=>.inr ⟨by simpa using hc,rfl⟩⟩;rw[List.take_zero,i6];refine⟨s0 _ _ ht.tab (aL so),fun c hc=>?_,ht.inj,ht.ne,fun c hc d hd=>?_⟩
  .rw[s0 _ _ (ht.row c hc) (nrp c hc)];congr 2;refine oS fun d _=>?_;unfold qG;rw[aq fun z=>(p7.mp nd).2.2 c hc c z rfl]
  .unfold qG;split
   .exact YN _ _ _ _
   .exact ht.ok c hc d hd
 .obtain⟨v4,v5,v6,jk,rfl,cF,s1,yM⟩:=z;obtain⟨c,hc,ek⟩:∃c,l[i]? =some c/\ky=kN c:=by
   unfold aB at hi;rw[cG]at hi;cases e:l[i]? with
   |none=>rw[e]at hi;cases hi
   |some c=>rw[e]at hi;exact⟨c,rfl,(fv Prod.fst (bZ hi)).symm⟩
  subst ek;have mc:c∈l:=cN hc;have nc:c∉cs++l.take i:=by
   intro z;rcases cK.mp z with z|z
   .exact(p7.mp nd).2.2 c z c mc rfl
   .obtain⟨j,hj⟩:=sQ z;have O6:=(dM.mp hj).1;rw[gl]at O6;rw[Dx (by omega)]at hj;have:=aat nd1 hj hc;omega
  show aH 4 (nV c) _ H' _;show `_ar;symm;have jL:aG K H' k (ds.map nV):=by
   rcases alO hk with(e|⟨u,e⟩)|e
   .exact .inl (.inl (s1 _ _ e (dG (s0 _ _ ht.tab (aL so)) e `ć).symm))
   .exact .inl (.inr ⟨u,s1 _ _ e (dG (s0 _ _ ht.tab (aL so)) e `ć).symm⟩)
   .exact .inr e
  refine sj ((ag.new hr).seq jL) ?_;have bD:H' p=some 1.13:=s1 _ _ ax so;have chp:qN H' p l τ ch:=⟨.inr ⟨od,bD⟩,fun x hx=>s1 _ _ (s0 _ _ (y_ x hx) (dG (y_ x hx) hp `ć)) (dG (y_ x hx) ht.tab `ć)⟩;have chq:qN H' q m υ e_:=⟨hq.dict.elim (fun e=>.inl (s1 _ _ (s0 _ _ e (aL npq)) nqt)) fun⟨u,e⟩=>.inr ⟨u,s1 _ _ (s0 _ _ e (aL npq)) nqt⟩,fun x hx=>s1 _ _ (s0 _ _ (hq.row x hx) (dG (hq.row x hx) hp `ć)) (dG (hq.row x hx) ht.tab `ć)⟩;refine fV (xs:=ds.map nV) (fun j σ H2=>∃v6,σ=[`_P,`î,`Č,some (.ref k),0.0,some `à,v6]/\ag H' H2/\H2 r=some (.dK (aB (ds.take j) fun d=>nV (vn m ch c d)))) ⟨v6,rfl,ag.new hr,ax⟩ (fun i σ H2 _ ⟨_,_,s,_⟩=>s.seq jL) (fun j x σ H2 O7 z=>?_) (fun σ H2 z=>?_)
  .obtain⟨v6,rfl,s2,e2⟩:=z;obtain⟨d,hd,rfl⟩:=jc O7;have md:d∈ds:=cN hd;symm;refine⟨p,q,l,m,τ,υ,ch,e_,c,d,rfl,chp.aD s2,chq.aD s2,mc,vA d md,?_⟩;symm;have Hn:d∉ds.take j:=by
    intro z;obtain⟨x,hx⟩:=sQ z;have hX:=(dM.mp hx).1;rw[gl]at hX;rw[Dx (by omega)]at hx;have:=aat ndd hx hd;omega
   refine nR e2 (by rw[eU,gl];exact kl `È) ?_;refine⟨_,rfl,fun b o e=>by rw[au (aR e hr)];exact s2 _ _ e,?_⟩;rw[ax,eR hd,<-tq Hn rfl]
  .obtain⟨v6,rfl,s2,e2⟩:=z;rw[aJ,eT]at e2;symm;refine nR (s2 _ _ cF.tab) (by
    rw[eU,dc,gl];rw[dc]at hl;exact kl `È) ?_
   have Pn:r≠t:=fun z=>by subst z;rw[cF.tab]at hr;cases hr
   refine⟨_,_,_,fun x=>1.33,rfl,?_,fun b o e n=>?_,`_n⟩
   .have g:∀x∈cs++l.take i,(1.33)=jk x:=fun x hx=>aq fun z=>nc (by rw[<-z];exact hx);have em:cs++l.take (i+1)=(cs++l.take i)++[c]:=by rw[eR hc,jz]
    have ak2:gV (aB (cs++l.take i) fun c=>V.ref (jk c)) (kN c) `à=aB (cs++l.take (i+1)) fun x=>V.ref (1.33):=by
     rw[oS (h:=fun x=>V.ref (if x=c then r else jk x)) (fun x hx=>by rw[g x hx]),em];exact tq nc (by rw[ay rfl])
    refine⟨by rw[ax,ak2],`_n,fun x hx y hy e=>?_,`_n,fun x hx d hd=>?_⟩
    .rw[em]at hx;show `_bt
     .rw[g x hx,au (cF.ne x hx)];exact s2 _ _ (cF.row x hx)
     .have:x=c:=by simpa using hx
      subst this;rw[ay rfl,au Pn,e2];congr 2;refine oS fun d _=>?_;unfold qG;rw[ay mc]
    .rw[em]at hx hy;rcases cK.mp hx with h1|h1
     .rw[g x h1]at e;rcases cK.mp hy with h2|h2
      .rw[g y h2]at e;exact cF.inj x h1 y h2 e
      .have h3:y=c:=by simpa using h2
       rw[ay h3]at e;exact absurd e (aR (cF.row x h1) hr)
     .have h3:x=c:=0.23;rw[ay h3]at e;rcases cK.mp hy with h2|h2
      .rw[g y h2]at e;exact absurd e.symm (aR (cF.row y h2) hr)
      .have h4:y=c:=by simpa using h2
       rw[h3,h4]
    .rw[em]at hx;show `_bt
     .rw[g x hx];exact cF.ne x hx
     .have:x=c:=by simpa using hx
      subst this;rw[ay rfl];exact Pn
    .unfold qG;split
     .exact YN _ _ _ _
     .rename_i hX
      rw[em]at hx;show `_bt
      .have:=cF.ok x hx d hd;unfold qG at this;rw[aq hX]at this;exact this
      .have:x=c:=by simpa using hx
       subst this;exact absurd mc hX
   .rw[au n];exact s2 _ _ (s1 b o e n)
   .have em:cs++l.take (i+1)=(cs++l.take i)++[c]:=by rw[eR hc,jz]
    rw[em]at hx;show H (1.33)=none\/(x∈cs/\(1.33)=ρ x);show `_bt
    .rw[aq fun z=>nc (by rw[<-z];exact hx)];exact yM x hx
    .have:x=c:=by simpa using hx
     rw[ay this];left;cases e:H r with
     |none=>rfl
     |some o=>
      by_cases ZJ:r=p
      .subst ZJ;rw[bD]at hr;cases hr
      .rw[s1 r o (s0 r o e ZJ) Pn]at hr;cases hr
 .obtain⟨v4,v5,v6,jk,rfl,cF,s1,yM⟩:=z;rw[eU,eT]at cF yM;have bD:H' p=some 1.13:=s1 _ _ ax so;refine⟨bD,h _ jk ⟨by rw[au (aL so)];exact cF.tab,fun c hc=>by rw[au (dG (cF.row c hc) bD (by intro z;cases z))];exact cF.row c hc,cF.inj,cF.ne,cF.ok⟩ (fun b o e n=>?_) yM⟩;by_cases hb:b=p
  .subst hb;rw[ax,<-e,hp]
  .rw[au hb];exact s1 b o (s0 b o e hb) n
def ub(l m:`À)(ch e_:`Ĕ):Nat->Nat->Nat:=qG m l e_ (qG l m ch fun _ _=>0)
def PR(l:`À)(g:Nat->V):((aB l g).map fun p=>kV p.1)=l.map nV:=by
 unfold aB;rw[bP];rfl
def ml.at8{cs:`À}{F0 F:`É}(h:ml cs F0 F false (fun _ _=>True)):TM.nj cs.length (ix cs F):=by
 obtain⟨e,z⟩:=h.un rfl;intro i j k hi hj hk r q;have ŕ:=getD_mem hi;have Ŗ:=getD_mem hj;have mk:=getD_mem hk;unfold ix at q⊢;rw[e _ ŕ _ Ŗ,<-z i j hi hj trivial]at q;have:=(OW.mp q).2 _ mk;rw[e _ ŕ _ mk,e _ mk _ Ŗ];exact this
def GL{cs:`À}{F:`É}(h:∀c∈cs,∀d∈cs,F c d<32):TM.Ok cs.length (ix cs F):=fun i j hi hj=>h _ (getD_mem hi) _ (getD_mem hj)
def ml.mu{cs:`À}{F0 F:`É}{dn:Nat->Nat->Prop}(h:ml cs F0 F true dn)(ok0:∀c∈cs,∀d∈cs,F0 c d<32)(ok:∀c∈cs,∀d∈cs,F c d<32):TM.mu cs.length (ix cs F)<TM.mu cs.length (ix cs F0):=by
 obtain⟨c,hc,d,hd,ne⟩:=h.lt rfl;obtain⟨i,hi⟩:=sQ hc;obtain⟨j,hj⟩:=sQ hd;refine TM.Ş (GL ok) (GL ok0) (fun x y hx hy=>h.le _ (getD_mem hx) _ (getD_mem hy)) ⟨i,j,(dM.mp hi).1,(dM.mp hj).1,?_⟩;unfold ix;rw[vv hi,vv hj];exact ne
def wS(K:Frag):Sp:=fun vs H Q _=>∃(p0 p1 pt pr:Addr)(l m:`À)(τ υ:`Ø)(ch e_:`Ĕ)(tl:`_Z)(rl:'/'),vs=[.ref p0,.ref p1,.ref pt,.ref pr]/\
 H p0=some (.dK (aB l fun c=>.ref (τ c)))/\(∀c∈l,H (τ c)=some 3.15)/\H p1=some (.dK (aB m fun c=>.ref (υ c)))/\(∀c∈m,H (υ c)=some (.ah ((e_ c).map nV)))/\p0≠p1/\
 oO K H pt tl/\oK K H pr rl/\(l++m).Nodup/\(l++m).length<=100/\(∀x∈tl,x.1∈l++m/\x.2.1∈l++m/\x.2.2<32)/\(∀x∈rl,(∀c∈x.1,c∈l++m)/\∀c∈x.2,c∈l++m)/\
 ∀H' t ρ G,ag H H'->cP H' t (l++m) (l++m) ρ G->Vbnlak.closure (l++m).length (3.3 (l++m).length (ix (l++m) (ka rl (k7 tl (ub l m ch e_)))))=3.3 (l++m).length (ix (l++m) G)->Q (.ref t) H'
def arw(T:`Ä)(G1:Ec•ui K)(G2:EL•wY K)(G3:EK•wX K)(G4:Eh•wz)(G5:Ey•wN K):EF•wS K:=by
 refine an0 T G1 G2 G3 G4 G5 ?_;rintro vs H Q E ⟨p0,p1,pt,pr,l,m,τ,υ,ch,e_,tl,rl,rfl,bW,y_,bD,ZW,G_,hT,hR,nd,hl,pk,vM,h⟩;refine `Á;unfold ae3;ext;have vG:=hl;rw[dc]at vG;symm;intro k0 o_;symm;intro k1 jL;rw[PR]at jL;rw[PR,PR];symm;refine kT (bB jL ax) ax (by rw[aJ,aJ];exact jV (kl `È)) fun k hk=>?_;rw[<-eY];symm;intro t ht;symm;generalize iy:l++m=cs at*;generalize Yi:af (af (af H k0 (.ah 0.2)) k1 (.ah (m.map nV))) k 3.4=H0 at ht;have s0:ag H H0:=by
  rw[<-Yi];exact((ag.new o_).trans (ag.new jL)).trans (ag.new hk)
 have i_:H0 k=some 3.4:=by rw[<-Yi];exact ax
 have tn:H t=none:=s0.free ht;have keep:∀b o,H0 b=some o->af H0 t `ü b=some o:=fun b o e=>bB ht e;refine⟨t,p0,p1,k,[],cs,l,m,fun _=>0,τ,υ,ch,e_,fun _ _=>0,rfl,⟨ax,`Õ,`Õ,`Õ,`Õ⟩,keep _ _ (s0 _ _ bW),fun c hc=>keep _ _ (s0 _ _ (y_ c hc)),⟨.inl (keep _ _ (s0 _ _ bD)),fun c hc=>keep _ _ (s0 _ _ (ZW c hc))⟩,aG.of (keep _ _ i_),
  aR bW tn,G_,aR bD tn,by simp,by rw[p6];rw[<-iy]at nd;exact(p7.mp nd).1,nd,fun d hd=>by rw[<-iy]at hd;exact cK.mp hd,by rw[p6];omega,hl,?_⟩
 rw[p6];intro H1 Jn cF yM ap5;have s1:ag H0 H1:=fun b o e=>yM b o (keep b o e) (aR e ht);have f1:∀c∈l,H0 (Jn c)=none:=fun c hc=>by
  rcases ap5 c hc with z|z
  .by_cases e:Jn c=t
   .exact absurd e (cF.ne c hc)
   .rw[au e]at z;exact z
  .exact absurd z.1 `Ç
 symm;refine⟨t,p1,p0,k,l,cs,m,l,Jn,υ,τ,e_,ch,_,rfl,cF,s1 _ _ (s0 _ _ bD),fun c hc=>s1 _ _ (s0 _ _ (ZW c hc)),⟨.inl (s1 _ _ (s0 _ _ bW)),fun c hc=>s1 _ _ (s0 _ _ (y_ c hc))⟩,aG.of (s1 _ _ i_),
  aR bD tn,aL G_,aR bW tn,fun c hc=>(aR (s0 _ _ bD) (f1 c hc)).symm,by rw[iy];exact nd,nd,fun d hd=>by rw[<-iy]at hd;exact(cK.mp hd).symm,by rw[iy];exact hl,hl,?_⟩
 rw[iy];intro H2 ρ jt fr2 ap6;have s2:ag H0 H2:=fun b o e=>fr2 b o (s1 b o e) (aR e ht);have f2:∀c∈cs,H (ρ c)=none:=fun c hc=>by
  rcases ap6 c hc with z|z
  .exact(s0.trans s1).free z
  .rw[z.2];exact s0.free (f1 c z.1)
 have off:∀{Ha Hb:Hp},ag H Ha->fk cs ρ Ha Hb->ag H Hb:=fun sa o b ob e=>o b ob (sa b ob e) fun c hc=>aR e (f2 c hc);have YG:∀c∈cs,k≠ρ c:=fun c hc=>dG (s2 _ _ i_) (jt.row c hc) `ć;have S2:ag H H2:=s0.trans s2;symm;refine⟨t,pt,cs,ρ,_,tl,rfl,jt,hT.aD S2,hl,pk,fun H3 pj o3=>?_⟩;have S3:=off S2 o3;symm;refine⟨t,pr,cs,ρ,_,rl,rfl,pj,hR.aD S3,hl,vM,fun H4 lJ o4=>?_⟩;have S4:=off S3 o4;symm;refine⟨rfl,fun pc H5 s5 c5=>?_⟩;have S5:=S4.trans s5;have hk5:H5 k=some 3.4:=s5 _ _ (o4 _ _ (o3 _ _ (s2 _ _ i_) YG) YG);have rV:=lJ.aD s5;symm;refine⟨fun mm σ H'=>∃Fg F,mm=2*TM.mu cs.length (ix cs F)+(if Fg=true then 1 else 0)/\σ=[some (.ref p0),some (.ref p1),some (.ref pt),some (.ref pr),some (.ref k),`_P,some (.ref pc),some (.bl Fg)]/\cP H' t cs cs ρ F/\fk cs ρ H5 H'/\
  TM.fO cs.length (ix cs F) (ix cs (ka rl (k7 tl (ub l m ch e_))))/\(∀v,TM.nj cs.length v->TM.fO cs.length v (ix cs (ka rl (k7 tl (ub l m ch e_))))->TM.fO cs.length v (ix cs F))/\(Fg=false->TM.nj cs.length (ix cs F)),⟨_,true,_,rfl,rfl,rV,fk.refl,TM.fO.refl,1.42,fun z=>5.6⟩,fun mm σ H' W=>?_⟩
 obtain⟨Fg,F,rfl,rfl,y8,o6,ĸ,ń,sh6⟩:=W;symm;refine `_j
 .subst e;refine 2.51;symm;refine⟨t,k,pc,cs,ρ,F,rfl,y8,rV.seq o6 (aG.of hk5),rV.comp o6 c5,hl,fun H7 F7 Mq ZO o7 n7=>?_⟩;symm;refine⟨2*TM.mu cs.length (ix cs F7)+(if Mq=true then 1 else 0),?_,Mq,F7,rfl,rfl,ZO,o6.trans o7,fun i j hi hj=>(n7.le _ (getD_mem hi) _ (getD_mem hj)).trans (ĸ i j hi hj),fun v sv hv=>n7.lo v sv (ń v sv hv),fun z=>by subst z;exact n7.at8⟩;cases Mq with
  |true=>
   have:=n7.mu y8.ok ZO.ok;simp;omega
  |false=>
   have e:TM.mu cs.length (ix cs F7)<=TM.mu cs.length (ix cs F):=TM.aoY fun i j hi hj=>n7.le _ (getD_mem hi) _ (getD_mem hj);simp;omega
 .symm;exact h H' t ρ F (off S5 o6) y8 (TM.ajp (GL rV.ok) (GL y8.ok) ĸ (sh6 e) fun v _ hv sv=>ń v sv hv)
def di(ns:`À):PyData:=.list (ns.map fun n:Nat=>PyData.int (n:Int))
def YA:∀(xs ys:`À),PyData.eqvAll 1.86 (ys.map fun n:Nat=>PyData.int (n:Int))=decide (xs=ys)
 |[],[]=>by simp[PyData.eqvAll]
 |[],y::ys=>by simp[PyData.eqvAll]
 |x::xs,[]=>by simp[PyData.eqvAll]
 |x::xs,y::ys=>by
  rw[cY,cY,PyData.eqvAll,YA xs ys];show(((x:Int)==(y:Int))&&decide (xs=ys))=_;by_cases h:x=y
  .subst h;simp
  .have:((x:Int)==(y:Int))=false:=by rw[gO];omega
   rw[this];simp[h]
def YB(xs ys:`À):PyData.eqv (di xs) (di ys)=decide (xs=ys):=by
 unfold di;rw[PyData.eqv,YA]
def Mn:∀(xs:`À),PyData.canLayAll0 1.86=true
 |[]=>by simp[PyData.canLayAll0]
 |x::xs=>by rw[cY,PyData.canLayAll0,Mn xs];simp[PyData.canLay0]
def MX:∀(xs:`À),PyData.depthAll 1.86=0
 |[]=>by simp[PyData.depthAll]
 |x::xs=>by rw[cY,PyData.depthAll,MX xs];simp[PyData.depth]
def So(xs:`À):SeqAt.shaped (di xs)=true:=by
 unfold SeqAt.shaped di;rw[PyData.canLay0,Mn,PyData.depth,MX];rfl
def Wf:∀(ls:`ì),PyData.canLayAll0 (ls.map di)=true
 |[]=>by simp[PyData.canLayAll0]
 |x::xs=>by
  rw[cY,PyData.canLayAll0,Wf xs];unfold di;rw[PyData.canLay0,Mn];rfl
def X9:∀(ls:`ì),PyData.depthAll (ls.map di)<=1
 |[]=>by simp[PyData.depthAll]
 |x::xs=>by
  have ih:=X9 xs;rw[cY,PyData.depthAll];have:PyData.depth (di x)=1:=by unfold di;rw[PyData.depth,MX]
  rw[this];omega
def at7(ls:`ì):SeqAt.shaped (.list (ls.map di))=true:=by
 unfold SeqAt.shaped;rw[PyData.canLay0,Wf,PyData.depth,pP,vf];have:=X9 ls;omega
def VM(n:`À):∀(ls:`ì),((ls.map di).any fun e=>PyData.eqv e (di n))=ls.contains n
 |[]=>rfl
 |x::xs=>by
  rw[cY,k_,VM n xs,YB,xI];congr 1;by_cases h:x=n
  .subst h;simp
  .rw[eN h];exact(gO.mpr (aL h)).symm
def Yb{H:Hp}:∀(xs:`À),sK K H (xs.map nV) 1.86
 |[]=>.nil
 |x::xs=>.cons (.int _) (Yb xs)
def Fx{H:Hp}{p:Addr}{xs:`À}(h:aG K H p (xs.map nV)):Dp K H `Ü (di xs):=.ah h (Yb xs)
def QB{H:Hp}{Q:VK}{p q:Addr}{xs ys:`À}(h1:aG K H p (xs.map nV))(h2:aG K H q (ys.map nV))(c:Q (.bl (!decide (xs=ys))) H):zJ K `Ü `ğ H Q:=
 ⟨di xs,di ys,Fx h1,Fx h2,So _,So _,by rw[YB];exact c⟩
def UU(H:Hp)(q:Addr)(ls:`ì):Prop:=∃as:List Addr,H q=some ']'/\`_d=ls.length/\∀(i:Nat)(x:Addr),as[i]? =some x->∃l,ls[i]? =some l/\H x=some (.ah 0.2)
def wV(K:Frag):Sp:=fun vs H Q _=>∃(p:Addr)(t:`À),vs=`Ċ/\aG K H p (t.map nV)/\t.length<=5000/\∀q H',ag H H'->UU H' q (lines t)->Q `ğ H'
def Sq{n:Nat}(h:n<=5001):n<sizeLine:=oF h `Æ
def arG(T:`Ä):EH•wV K:=by
 refine an3 T ?_;rintro vs H Q E ⟨p,t,rfl,hp,hl,h⟩;refine `Á;unfold ae6;ext;symm;intro q hq;show `_ar;symm;have ZI:q≠r:=fun e=>by subst e;rw[ax]at hr;cases hr
 have hO:H r=none:=by rw[au (aL ZI)]at hr;exact hr
 have s0:ag H (af (af H q `Ù) r `Ù):=(ag.new hq).trans 5.5;refine sj (s0.seq hp) ?_;refine fV (xs:=t.map nV) (fun i σ H'=>∃v r done rq as,σ=[`î,`Č,some `à,v]/\ag H H'/\TM.qI done rq (t.drop i)=lines t/\done.length+rq.length<=i/\H' q=some ']'/\`_d=done.length/\(∀(i:Nat)(x:Addr),as[i]? =some x->∃l,done[i]? =some l/\H' x=some (.ah 0.2)/\x≠r/\x≠q)/\H' r=some (.ah (rq.map nV))/\r≠q/\H r=none)
  ⟨none,r,[],[],[],rfl,s0,TM.aui t,bp _,bB hr ax,rfl,fun i x e=>by simp at e,ax,aL ZI,hO⟩ (fun i σ H' _ ⟨_,_,_,_,_,_,s,_⟩=>s.seq hp) '0' `é
 .obtain⟨v,r,done,rq,as,rfl,s,eg,pb,e1,e2,e3,e4,zB,Pl⟩:=z;obtain⟨b,hb,rfl⟩:=jc hx;have hi:i<t.length:=(dM.mp hb).1;have ed:t.drop i=b::t.drop (i+1):=by
   rw[Dt hi];congr 1;exact(dM.mp hb).2
  rw[ed]at eg;unfold TM.qI at eg;show `_bH
  .have e:b=10:=`Å;rw[ay e]at eg;symm;refine qC e1 (by rw[aJ,e2];exact Sq `È) ?_;symm;intro r' iR;symm;have nq':r'≠q:=fun z=>by subst z;rw[ax]at iR;cases iR
   have nG:H' r'=none:=by rw[au nq']at iR;exact iR
   have sq:ag H (af H' q (.ah (as.map V.ref++[.ref r]))):=kb hq s;refine⟨_,r',done++[rq],[],as++[r],rfl,sq.trans (ag.new iR),eg,?_,?_,by simp[e2],fun j x ex=>?_,ax,nq',s.free nG⟩
   .simp;omega
   .rw[bB iR ax,eY];rfl
   .by_cases hj:j<`_d
    .rw[mh hj]at ex;obtain⟨l,f1,f2,f3,f4⟩:=e3 j x ex;refine⟨l,by rw[mh (by omega)];exact f1,?_,aR f2 nG,f4⟩;refine bB iR ?_;rw[au f4];exact f2
    .have o9:j=`_d:=by
      have:=(dM.mp ex).1;simp at this;omega
     show `_bI;refine⟨rq,by rw[e2];simp,?_,aR e4 nG,zB⟩;refine bB iR ?_;rw[au zB];exact e4
  .have e:¬b=10:=`Å;rw[aq e]at eg;symm;refine qC e4 (by rw[aJ];exact Sq `È) ?_;refine⟨_,r,done,rq++[b],as,rfl,kb Pl s,eg,?_,?_,e2,fun j x ex=>?_,?_,zB,Pl⟩
   .simp;omega
   .rw[au (aL zB)];exact e1
   .obtain⟨l,f1,f2,f3,f4⟩:=e3 j x ex;exact⟨l,f1,by rw[au f3];exact f2,f3,f4⟩
   .rw[ax,eY];rfl
 .obtain⟨v,r,done,rq,as,rfl,s,eg,pb,e1,e2,e3,e4,zB,Pl⟩:=z;rw[aJ]at eg pb;rw[sP]at eg;symm;refine qC e1 (by rw[aJ,e2];exact Sq `È) ?_;symm;refine h q _ (kb hq s) ?_;rw[<-eg];refine⟨as++[r],by rw[ax,eY];rfl,by simp[TM.qI,e2],fun j x ex=>?_⟩;unfold TM.qI;by_cases hj:j<`_d
  .rw[mh hj]at ex;obtain⟨l,f1,f2,f3,f4⟩:=e3 j x ex;exact⟨l,by rw[mh (by omega)];exact f1,by rw[au f4];exact f2⟩
  .have o9:j=`_d:=by
    have:=(dM.mp ex).1;simp at this;omega
   show `_bI;exact⟨rq,by rw[e2];simp,by rw[au zB];exact e4⟩
def wH:Sp:=fun vs H Q _=>∃n:Nat,vs=[nV n]/\Q (.bl (letter n)) H
def aq7(T:`Ä):Er•wH:=by
 refine anK T ?_;rintro vs H Q E ⟨n,rfl,h⟩;refine `Á;unfold aeN;ext;unfold letter at h;symm;refine 1.28
 .symm;refine 0.12
  .symm;rw[g_ (show 65<=n by omega),g_ (show n<=90 by omega)]at h;exact h
  .symm;refine cV (fun e3=>?_) fun e3=>?_
   .symm;rw[eN (show¬n<=90 by omega),g_ (show 97<=n by omega),Jq,oj,pP]at h;have e:decide ((n:Int)<=122)=decide (n<=122):=by rw[X6];omega
    rw[e];exact h
   .symm;rw[eN (show¬n<=90 by omega),eN (show¬97<=n by omega),Jq,oj,uB]at h;exact h
 .symm;refine nJ ?_;symm;refine cV (fun e3=>?_) fun e3=>?_
  .exact absurd e3 `È
  .symm;rw[eN (show¬65<=n by omega),eN (show¬97<=n by omega),uB,oj,uB]at h;exact h
def afi{f:Nat->Bool}{w:`À}{i x:Nat}(h:w[i]? =some x):(w.drop i).takeWhile f=if f x=true then x::(w.drop (i+1)).takeWhile f else []:=by
 have hi:i<w.length:=(dM.mp h).1;rw[Dt hi,(dM.mp h).2,Va]
def M2(f:Nat->Bool):∀(w:`À),w.dropWhile f=w.drop (w.takeWhile f).length
 |[]=>rfl
 |x::w=>by
  rw[List.dropWhile_cons,Va];cases f x with
  |true=>rw[ay rfl,ay rfl,cB,UZ];exact M2 f w
  |false=>rw[aq eM,aq eM];rfl
def afj(f:Nat->Bool):∀(w:`À),w.takeWhile f=w.take (w.takeWhile f).length
 |[]=>rfl
 |x::w=>by
  rw[Va];cases f x with
  |true=>rw[ay rfl,cB,Vc,<-afj f w]
  |false=>rw[aq eM];rfl
def Ti(f:Nat->Bool)(w:`À):(w.takeWhile f).length<=w.length:=(List.takeWhile_sublist f).length_le
def Mz{l:`À}{n:Nat}:nv 0.2 (some (n:Int)) none=(l.drop n).map nV:=by
 unfold nv;rw[HT.CL,HT.as3,aJ,<-U_,<-K0];congr 1;by_cases h:n<=`Û
 .rw[DH h,K9 (by simp)]
 .rw[Vo (by omega),sP,List.drop_of_length_le (by omega)];simp
def ajH{l:`À}{n m:Nat}(h1:n<=m)(h2:m<=`Û):nv 0.2 (some (n:Int)) (some (m:Int))=((l.drop n).take (m-n)).map nV:=by
 unfold nv;rw[HT.CL,HT.CL,aJ,DH (show n<=l.length by omega),DH h2,<-U_,<-K0]
def ly(b:Nat):Bool:=b==32
def wB(K:Frag):Sp:=fun vs H Q _=>∃(p:Addr)(l:`À),vs=`Ċ/\aG K H p 0.2/\Q (nV (l.takeWhile ly).length) H
def aqW(T:`Ä):Ej•wB K:=by
 refine anC T ?_;rintro vs H Q E ⟨p,l,rfl,hp,h⟩;refine `Á;unfold aeG;ext;symm;refine⟨fun m σ H'=>∃i:Nat,m=`Û-i/\H'=H/\σ=[`î,some (nV i)]/\i<=`Û/\(l.takeWhile ly).length=i+((l.drop i).takeWhile ly).length,⟨_,0,rfl,rfl,rfl,mn _,`Õ⟩,fun m σ H' W=>?_⟩;obtain⟨i,rfl,rfl,rfl,hi,e⟩:=W;symm;rw[aJ];refine 1.28
 .show `_bR;refine 0.12
  .have e3:ly l[i]=true:=by unfold ly;rw[sX];omega
   show `_cf
  .have e3:¬ly l[i]=true:=by unfold ly;rw[sX];omega
   rw[aq e3]at e;symm;rw[e]at h;exact h
 .have mD:i=`Û:=`Å;rw[mD,sP]at e;symm;refine nJ ?_;symm;rw[e,<-mD]at h;exact h
def wC(K:Frag):Sp:=fun vs H Q _=>∃(p:Addr)(l:`À)(n:Nat),vs=[.ref p,nV n]/\aG K H p 0.2/\n<=`Û/\Q (nV (n+((l.drop n).takeWhile letter).length)) H
def aqX(T:`Ä)(G:Er•wH):Ek•wC K:=by
 refine anD T G ?_;rintro vs H Q E ⟨p,l,n,rfl,hp,hn,h⟩;refine `Á;unfold aeH;ext;symm;refine⟨fun m σ H'=>∃i:Nat,m=`Û-i/\H'=H/\σ=[`î,some (nV n),some (nV i)]/\i<=`Û/\n+((l.drop n).takeWhile letter).length=i+((l.drop i).takeWhile letter).length,⟨_,n,rfl,rfl,rfl,hn,rfl⟩,fun m σ H' W=>?_⟩;obtain⟨i,rfl,rfl,rfl,hi,e⟩:=W;symm;rw[aJ];refine 1.28
 .show `_bR;refine⟨_,rfl,?_⟩;symm;refine 0.61
  .show `_cf
  .rw[aq (by rw[e3];decide)]at e;symm;rw[e]at h;exact h
 .have mD:i=`Û:=`Å;rw[mD,sP]at e;symm;refine nJ ?_;symm;rw[e,<-mD]at h;exact h
def re(a:aj)(H:Hp)(r:Addr)(x:TM.bX):Prop:=∃dx nm,H r=some (.ins a.jX dx (lH (nV x.1) (.ref nm) (.bl x.2.2)))/\H nm=some (.ah (x.2.1.map nV))/\x.2.1≠[]
def re.aD{H H':Hp}{r:Addr}{x:TM.bX}(h:re a H r x)(s:`Ć):re a H' r x:=by
 obtain⟨dx,nm,h1,h2,h3⟩:=h;exact⟨dx,nm,s _ _ h1,s _ _ h2,h3⟩
def uh(a:aj):Sp:=fun vs H Q _=>∃p dx v1 v2 v3,vs=[.ref p,v1,v2,v3]/\H p=some (.ins a.jX dx [])/\Q .aX (af H p (.ins a.jX dx (lH v1 v2 v3)))
def aqv(T:`Ä):Eb•uh a:=by
 refine ana T ?_;rintro vs H Q E ⟨p,dx,v1,v2,v3,rfl,hp,h⟩;refine `Á;unfold aej;ext;symm;rw[jj,jj];exact h
def wT(K:Frag)(a:aj):Sp:=fun vs H Q _=>∃(p:Addr)(l:`À),vs=`Ċ/\aG K H p 0.2/\`Û<=5000/\
 match lineOf l with
 |none=>∀H',ag H H'->Q .aX H'
 |some x=>∀r H',ag H H'->H r=none->re a H' r x->Q `à H'
def aov(l:`À):lineOf l=
 (
  let b:=(l.takeWhile ly).length
  let k:=(1.25).length
  if k<1\/20<k then none else if l.drop (b+k)=[]then some (b,(l.drop b).take k,false)else if l.drop (b+k)=[32,43]then some (b,(l.drop b).take k,true)else none):=by
 unfold lineOf;have e1:(l.dropWhile fun b=>b==32)=l.drop (l.takeWhile ly).length:=M2 ly l;have hb:=Ti ly l;simp only[e1];generalize(l.takeWhile ly).length=b at*;have e2:=afj letter (l.drop b);have e3:=M2 letter (l.drop b);rw[e3,KQ];have el:`Û-(l.drop b).length=b:=by rw[qY];omega
 rw[el];have e4:((l.drop b).takeWhile letter=[]\/20<(1.25).length)↔((1.25).length<1\/20<(1.25).length):=by
  rw[<-Dz];omega
 simp only[e4];rw[<-e2]
def arx(T:`Ä)(G1:Ej•wB K)(G2:Ek•wC K)(G3:Eb•uh a):EG•wT K a:=by
 refine an1 T G1 G2 G3 ?_;rintro vs H Q E ⟨p,l,rfl,hp,hl,h⟩;refine `Á;unfold ae4;ext;have hb:=Ti ly l;rw[aov]at h;simp only[]at h;generalize eb:(l.takeWhile ly).length=b at*;have hk:=Ti letter (l.drop b);symm;refine⟨p,l,rfl,hp,?_⟩;rw[eb];symm;refine⟨p,l,b,rfl,hp,hb,?_⟩;rw[qY]at hk;generalize ek:(1.25).length=k at*;symm;have akS:((b+k:Nat):Int)-(b:Int)=(k:Int):=`Å;rw[akS];refine 1.28
 .rw[ay (.inl (show k<1 by omega))]at h;refine rY ?_;symm;exact h _ `_b
 .symm;refine 0.12
  .rw[ay (.inr (show 20<k by omega))]at h;symm;exact h _ `_b
  .rw[aq (show¬(k<1\/20<k) by omega)]at h;symm;intro tl pk;rw[Mz];symm;intro z1 BC;have st:ag H (af (af H tl (.ah ((l.drop (b+k)).map nV))) z1 `Ù):=(ag.new pk).trans (ag.new BC);refine QB (ys:=[]) (aG.of (bB BC ax)) (aG.of ax) ?_;symm;have Zz:∀(H1:Hp)(R:VK)(pl:Bool),ag H H1->H1 tl=some (.ah ((l.drop (b+k)).map nV))->(!decide (l.drop (b+k)=[]))=pl->(∀r H',ag H H'->H r=none->re a H' r (b,(l.drop b).take k,pl)->R `à H')->
    jh a.jX (uh a) [] E0 3.93 [`î,some (nV b),some (nV (b+k)),some (.int (k:Int)),some (.ref tl)] H1 R:=by
    intro H1 R pl s1 et epl hr;symm;refine aam (s1.seq hp) ?_;intro nm yX;rw[ajH (by omega) (by omega),aie];symm;intro z2 tJ;refine QB (ys:=[]) (aG.of (bB tJ (bB yX et))) (aG.of ax) ?_;rw[epl];symm;intro x dx hx fJ vV;refine⟨x,dx,nV b,.ref nm,.bl pl,rfl,ax,rfl,?_⟩;have s2:ag H1 4.67:=(ag.new yX).trans (ag.new tJ);have ZU:H x=none:=(`_l).free hx;have alC:H dx=none:=(`_l).free fJ;rw[jj];refine hr x _ (kb ZU (kb alC (`_l))) ZU ⟨dx,nm,ax,?_,fun z=>?_⟩
    .have ZD:4.67 nm=some (.ah (((l.drop b).take k).map nV)):=bB tJ ax;rw[au (aR ZD hx)];exact bB fJ ZD
    .have z:=fv List.length z;rw[gl,qY,KZ]at z;omega
   refine FA (fun e3=>?_) fun e3=>?_
   .rw[aq e3]at h;symm;intro z2 tJ;refine QB (xs:=l.drop (b+k)) (ys:=[32,43]) (aG.of (bB tJ (bB BC ax))) (aG.of ax) ?_;symm;refine FA (fun e4=>?_) fun e4=>?_
    .rw[aq e4]at h;symm;exact h _ (st.trans (ag.new tJ))
    .rw[ay e4]at h;show `_cg;refine Zz _ _ true (st.trans (ag.new tJ)) (bB tJ (bB BC ax)) (by rw[eN e3];rfl) fun r H' s1 hr r1=>h r H' s1 hr r1
   .rw[ay e3]at h;refine nJ ?_;show `_cg;refine Zz _ _ false st (bB BC ax) (by rw[g_ e3];rfl) fun r H' s1 hr r1=>h r H' s1 hr r1
def ms(a:aj)(H:Hp)(q:Addr)(rows:`_J):Prop:=∃as:List Addr,H q=some ']'/\`_d=`_I/\∀(i:Nat)(x:Addr),as[i]? =some x->∃row,rows[i]? =some row/\re a H x row
def ms.aD{H H':Hp}{q:Addr}{rows:`_J}(h:ms a H q rows)(s:`Ć):ms a H' q rows:=by
 show `_cb;refine⟨as,s _ _ h1,h2,fun i x e=>?_⟩;obtain⟨l,e1,e2⟩:=h3 i x e;exact⟨l,e1,e2.aD s⟩
def CJ{as:`ð}{i:Nat}{x:V}(h:(`ù)[i]? =some x):∃b,as[i]? =some b/\x=.ref b:=by
 rw[cG]at h;cases e:as[i]? with
 |none=>rw[e]at h;cases h
 |some n=>rw[e]at h;exact⟨n,rfl,(bZ h).symm⟩
def asT{as:`ð}{i:Nat}{b:Addr}(h:as[i]? =some b):(`ù)[i]? =some (.ref b):=by rw[cG,h];rfl
def Yc{H:Hp}:∀{ys:List V}{names:`ì},`ø=names.length->(∀(i:Nat)(y:V),ys[i]? =some y->∃b l,names[i]? =some l/\y=.ref b/\aG K H b 0.2)->sK K H ys (names.map di)
 |[],[],_,_=>.nil
 |[],n::names,h,_=>by simp at h
 |y::ys,[],h,_=>by simp at h
 |y::ys,n::names,h,f=>by
  refine .cons ?_ (Yc ('[') fun i z e=>?_)
  .obtain⟨b,l,e1,rfl,e3⟩:=f 0 y rfl;have:n=l:=bZ e1;subst this;exact Fx e3
  .exact f (i+1) z e
def wM(a:aj):Sp:=fun vs H Q _=>∃(r q:Addr)(row:TM.bX)(rows:`_J),vs=[.ref r,.ref q]/\re a H r row/\ms a H q rows/\`_I<=8/\∀H',ag H H'->Q (.bl (TM.nU rows row)) H'
def arh(T:`Ä):Ex•wM a:=by
 refine anQ T ?_;rintro vs H Q E ⟨r,q,row,rows,rfl,⟨dx,nm,hr,yX,_⟩,⟨as,hq,tE,has⟩,h8,h⟩;refine `Á;unfold aeT;ext;unfold TM.nU at h;symm;rw[aJ,tE];refine 1.28
 .rw[eN (show¬rows.length≠8 by omega),uB]at h;symm;exact h _ `_b
 .rw[g_ (show rows.length≠8 by omega),pP]at h;symm;have gJ:aC 4.40 3.92 {nx:=fun _ H'=>Q .aX H',rt:=Q} [some `à,`Č,some (nV (TM.room rows)),none] H:=by
   symm;refine 0.12
   .rw[eN (show¬row.1<=TM.room rows by omega),uB]at h;symm;exact h _ `_b
   .rw[g_ (show row.1<=TM.room rows by omega),pP]at h;symm;refine Hk (aG.of hq) (by rw[aJ,tE];exact jV (kl `È)) (fun i y H'=>∃b x,rows[i]? =some x/\y=.ref b/\H' b=some (.ah (x.2.1.map nV))) (fun _ _ _ _ ⟨b,x,e1,e2,e3⟩ s=>⟨b,x,e1,e2,s _ _ e3⟩) (fun i x H1 D hx s hD hD' R1 h1=>?_) (fun D H1 ys hD s e1 e2 e3=>?_)
    .obtain⟨b,hb,rfl⟩:=CJ hx;obtain⟨Ie,js,eO,QI,g1,g2,_⟩:=has i b hb;have yO:=s _ _ g1;symm;refine `Á;symm;exact h1 _ _ `_b ⟨QI,Ie,js,rfl,cJ (s _ _ g2) (aR g2 hD)⟩
    .refine⟨di row.2.1,(rows.map fun x=>x.2.1).map di,Fx (aG.of (s _ _ yX)),.ah (aG.of e1) (Yc (by rw[e2,aJ,aJ,tE]) fun i y ey=>?_),So _,at7 _,?_⟩
     .obtain⟨b,x,f1,f2,f3⟩:=e3 i y ey;exact⟨b,x.2.1,by rw[cG,f1];rfl,f2,aG.of (eS f3).1⟩
     .rw[VM];exact h _ s
  refine 6.6
  .have cQ:as≠[]:=fun z=>by rw[z]at e2;simp at e2
   obtain⟨bs,b,eb⟩:∃bs b,as=bs++[b]:=⟨as.dropLast,as.getLast cQ,(UY cQ).symm⟩;have alL:as[bs.length]? =some b:=by rw[eb];simp
   obtain⟨Ie,js,eO,QI,g1,g2,_⟩:=has _ b alL;have M':TM.room rows=Ie.1+1:=by
    unfold TM.room;have:rows.getLast?=some Ie:=by
     rw[List.getLast?_eq_getElem?];have:`_I-1=bs.length:=by rw[<-tE,eb];simp
     rw[this,js]
    rw[this]
   symm;refine aak (aG.of hq) (by rw[eb,eY];exact aiy _ _) ?_;show `_cg;show `_cg;rw[M']at gJ;exact gJ
  .have alT:as=[]:=by simpa using e2
   have M':TM.room rows=0:=by
    have:rows=[]:=by
     rw[alT]at tE;exact Dz.mp tE.symm
    rw[this];rfl
   rw[M']at gJ;show `_cg;exact gJ
def aoB{ns:`À}{as:`ð}(h:ns≠[]):HO.ah (ns.map nV)≠HO.ah (`ù):=by
 intro z;injection z with z
 cases ns with
 |nil=>exact h rfl
 |cons n ns=>
  cases as with
  |nil=>cases z
  |cons b as=>injection z with z _;cases z
def aoq(acc:`_J)(l:`À)(r:`ì):TM.ff acc (l::r)=match lineOf l with
 |none=>acc
 |some row=>if TM.nU acc row=true then TM.ff (acc++[row]) r else acc:=rfl
def wL(a:aj):Sp:=fun vs H Q _=>∃(p:Addr)(ls:`ì),vs=`Ċ/\UU H p ls/\(∀l∈ls,`Û<=5000)/\∀q H',ag H H'->ms a H' q (TM.ff [] ls)->Q `ğ H'
def arb(T:`Ä)(G1:EG•wT K a)(G2:Ex•wM a):Ew•wL a:=by
 refine anP T G1 G2 ?_;rintro vs H Q E ⟨p,ls,rfl,⟨as,hp,tE,has⟩,vG,h⟩;refine `Á;unfold aeS;ext;symm;intro q hq;symm;refine fV (xs:=`ù) (fun i σ H'=>∃v2 v3 acc,σ=[`î,`Č,v2,v3]/\ag H H'/\TM.ff acc (ls.drop i)=TM.ff [] ls/\`_q<=8/\ms a H' q acc) ⟨none,none,[],rfl,ag.new hq,rfl,`Ĝ,[],ax,rfl,fun i x e=>by simp at e⟩ (fun i σ H' _ ⟨_,_,_,_,s,_⟩=>aG.of (s _ _ hp)) '0' `é
 .obtain⟨v2,v3,acc,rfl,s,eg,h8,yY⟩:=z;obtain⟨b,hb,rfl⟩:=CJ hx;obtain⟨l,el,hl⟩:=has i b hb;have hi:i<ls.length:=(dM.mp el).1;have ed:ls.drop i=l::ls.drop (i+1):=by
   rw[Dt hi];congr 1;exact(dM.mp el).2
  rw[ed,aoq]at eg;symm;refine⟨b,l,rfl,aG.of (s _ _ hl),vG l (cN el),?_⟩;cases e:lineOf l with
  |none=>
   rw[e]at eg;intro H2 s2;symm;refine cV (fun _=>?_) fun z=>absurd rfl z;refine rY ?_;symm;rw[<-eg]at h;exact h q _ (s.trans s2) (yY.aD s2)
  |some row=>
   rw[e]at eg;simp only[]at eg;intro r H2 s2 hr js;symm;refine cV (fun z=>nomatch z) fun _=>?_;symm;refine⟨r,q,row,acc,rfl,js,yY.aD s2,h8,fun H3 s3=>?_⟩;symm;cases ok:TM.nU acc row with
   |false=>
    rw[ok,aq (by decide)]at eg;refine rY ?_;symm;rw[<-eg]at h;exact h q _ ((s.trans s2).trans s3) (yY.aD (s2.trans s3))
   |true=>
    rw[ok,ay rfl]at eg;refine nJ ?_;obtain⟨cs,c1,c2,c3⟩:=yY.aD (s2.trans s3);symm;refine qC c1 (by rw[aJ,c2];exact kl `È) ?_;have al4:=js.aD s3;have keep:∀{x:Addr}{y:TM.bX},re a H3 x y->re a (af H3 q (.ah (cs.map V.ref++[.ref r]))) x y:=fun{x y} ⟨dx,nm,g1,g2,g3⟩=>
     ⟨dx,nm,by rw[au (dG g1 c1 (by intro z;cases z))];exact g1,by rw[au (dG g2 c1 (aoB g3))];exact g2,g3⟩
    have ok8:`_q≠8:=by
     unfold TM.nU at ok;rw[f7]at ok;exact lP ok.1
    refine⟨_,_,acc++[row],rfl,kb hq ((s.trans s2).trans s3),eg,`_3,cs++[r],by rw[ax,eY];rfl,by simp[c2],fun j x ex=>?_⟩;by_cases hj:j<`ë
    .rw[mh hj]at ex;obtain⟨y,f1,f2⟩:=c3 j x ex;exact⟨y,by rw[mh (by omega)];exact f1,keep f2⟩
    .have o9:j=`ë:=by
      have:=(dM.mp ex).1;simp at this;omega
     show `_bI;exact⟨row,by rw[c2];simp,keep al4⟩
 .obtain⟨v2,v3,acc,rfl,s,eg,h8,yY⟩:=z;rw[aJ,tE,sP]at eg;symm;rw[<-eg]at h;exact h q _ s yY
def wG(a:aj):Sp:=fun vs H Q _=>∃(q:Addr)(rows:`_J)(i:Nat),vs=[.ref q,nV i]/\ms a H q rows/\i<`_I/\Q (.bl (TM.tR rows i)) H
def ms.get{H:Hp}{q:Addr}{rows:`_J}(h:ms a H q rows){i:Nat}(hi:i<`_I):∃(as:`ð)(b dx nm:Addr),H q=some ']'/\`_d=`_I/\(`ù)[i]? =some (.ref b)/\H b=some (.ins a.jX dx (lH (nV rows[i].1) (.ref nm) (.bl rows[i].2.2))):=by
 show `_cb;have e:as[i]? =some as[i]:=jU `È;obtain⟨row,e1,dx,nm,g1,_⟩:=h3 i _ e;have:rows[i]=row:=(dM.mp e1).2;rw[this];exact⟨as,as[i],dx,nm,h1,h2,asT e,g1⟩
def aq5(T:`Ä):Ep•wG a:=by
 refine anI T ?_;rintro vs H Q E ⟨q,rows,i,rfl,hq,hi,h⟩;refine `Á;unfold aeL;ext;obtain⟨as,b,dx,nm,g1,g2,g3,g4⟩:=hq.get hi;unfold TM.tR at h;rw[jU hi]at h;symm;rw[aJ,g2];refine `Ā
 .have Zv:i+1<`_I:=`Å;obtain⟨E_,b',eO,QI,k1,k2,k3,k4⟩:=hq.get Zv;rw[g1]at k1;have ea:as.map V.ref=E_.map V.ref:=by injection k1 with k1;injection k1
  rw[<-ea]at k3;rw[jU Zv]at h;symm;refine tM (j:=i+1) (aG.of g1) `È k3 ?_;symm;refine tM (j:=i) (aG.of g1) rfl g3 ?_;symm;have e2:decide (((rows[i].1:Nat):Int)<((rows[i+1].1:Nat):Int))=decide (rows[i].1<rows[i+1].1):=by rw[X6];omega
  rw[e2];exact h
 .rw[uQ (by omega)]at h;symm;exact h
def wq(n:Nat)(rs:`_J):Int:=if `ç<n then -100-((`ç:Int)+1)else match(`ó `ç).find? (TM.j5 rs)with
 |some i=>-200-((i:Int)+1)
 |none=>0
def wZ(K:Frag)(a:aj):Sp:=fun vs H Q _=>∃(p q:Addr)(xs:List V)(rs:`_J),vs=4.4/\aG K H p xs/\ms a H q rs/\∀H',ag H H'->Q (.int (wq xs.length rs)) H'
def ak_{f:Nat->Bool}{n i:Nat}(hi:i<n)(h:f i=true)(hn:∀j,j<i->f j=false):(`ó n).find? f=some i:=by
 rw[agc];refine⟨h,i,by simpa using hi,`Õ,fun j hj=>?_⟩;simp[hn j hj]
def arO(T:`Ä)(G:Ep•wG a):EM•wZ K a:=by
 refine an9 T G ?_;rintro vs H Q E ⟨p,q,xs,rs,rfl,hp,hq,h⟩;refine `Á;unfold afa;ext;unfold wq at h;obtain⟨as,h1,h2,h3⟩:=id hq;symm;rw[aJ,h2];refine `Ā
 .rw[ay (by omega)]at h;symm;rw[aJ,h2];exact h _ `_b
 .rw[aq (by omega)]at h;symm;refine Hj (xs:=`ù) (fun i σ H'=>∃v2 v3,σ=[`î,`Č,v2,v3]/\ag H H'/\∀j,j<i->TM.j5 rs j=false) ⟨none,none,rfl,ag.refl _,fun j hj=>absurd hj (DI j)⟩ (fun i σ H' _ ⟨_,_,_,s,_⟩=>aG.of (s _ _ h1)) (fun i x σ H' t hx z ht=>?_) `é
  .obtain⟨v2,v3,rfl,s,hn⟩:=z;obtain⟨b,hb,rfl⟩:=CJ hx;obtain⟨row,js,dx,nm,g1,_⟩:=h3 i b hb;have hi:i<`ç:=(dM.mp js).1;have s1:ag H (af H' t (.bb [.int (i:Nat),.ref b])):=s.trans (ag.new ht);have yO:=s1 _ _ g1;refine 2.9;show `_an;symm;have vi:TM.j5 rs i=(row.2.2&&!TM.tR rs i):=by unfold TM.j5;rw[js]
   have cont:TM.j5 rs i=false->∀(v2 v3:Option V)(H2:Hp),ag H H2->(fun i σ H'=>∃v2 v3,σ=[some (V.ref p),`Č,v2,v3]/\ag H H'/\∀j,j<i->TM.j5 rs j=false) (i+1) [some (V.ref p),`Č,v2,v3] H2:=fun ei v2 v3 H2 s2=>⟨v2,v3,rfl,s2,fun j hj=>by
    by_cases hji:j=i
    .subst hji;exact ei
    .exact hn j `È⟩
   refine eF (fun e1=>?_) fun e1=>?_
   .rw[e1,pP]at vi;symm;refine⟨q,rs,i,rfl,hq.aD s1,hi,?_⟩;symm;cases ep:TM.tR rs i with
    |true=>
     refine nJ ?_;symm;rw[ep]at vi;exact cont vi _ _ _ s1
    |false=>
     refine rY ?_;symm;rw[ep]at vi;rw[ak_ hi vi hn]at h;exact h _ s1
   .rw[e1,uB]at vi;refine nJ ?_;symm;exact cont vi _ _ _ s1
  .obtain⟨v2,v3,rfl,s,hn⟩:=z;rw[aJ,h2]at hn;symm;have:(`ó `ç).find? (TM.j5 rs)=none:=by
    rw[uO];intro j hj;rw[hn j (jm.mp hj)];decide
   rw[this]at h;exact h _ s
def sZ(a b:Nat):`_N (a:Int) (b:Int)=((a&&&b:Nat):Int):=by
 unfold Builtin.bitAnd;simp
def Fb(a b:Nat):Builtin.bitOr (a:Int) (b:Int)=((a|||b:Nat):Int):=by
 unfold Builtin.bitOr Builtin.bitAnd Builtin.bitNot;have e1:decide (0<=-(a:Int)-1)=false:=`_3;have e2:decide (0<=-(b:Int)-1)=false:=`_3;rw[e1,e2];have e3:(-(-(a:Int)-1)-1).toNat=a:=`Å;have e4:(-(-(b:Int)-1)-1).toNat=b:=`Å;simp only[e3,e4];omega
def au5:∀a b:Nat,(a^^^b)+(a&&&b)=a|||b:=by
 intro a
 induction a using Nat.strongRecOn with
 |_ a ih=>
  intro b;by_cases h:a=0
  .subst h;simp
  .have i:=ih (a/2) `È (b/2);have x1:(a^^^b)/2=a/2^^^b/2:=Nat.xor_div_two;have x2:(a&&&b)/2=a/2&&&b/2:=Nat.and_div_two;have x3:(a|||b)/2=a/2|||b/2:=Nat.or_div_two;have y1:=@Nat.xor_mod_two_eq_one a b;have y2:=@Nat.and_mod_two_eq_one a b;have y3:=@Nat.or_mod_two_eq_one a b;omega
def Me(a b:Nat):Builtin.bitXor (a:Int) (b:Int)=((a^^^b:Nat):Int):=by
 unfold Builtin.bitXor;rw[Fb,sZ];have:=au5 a b;omega
def fresh(H H':Hp):Hp:=fun b=>match H b with
 |none=>H' b
 |some _=>none
section
variable{H H1 H2 H':Hp}{b:Addr}{o:HO}
def eP(h:fresh H H' b=some o):H b=none/\H' b=some o:=by
 unfold fresh at h;cases e:H b with
 |none=>rw[e]at h;exact⟨rfl,h⟩
 |some x=>rw[e]at h;cases h
def dZ(h:H b=none)(e:H' b=some o):fresh H H' b=some o:=by unfold fresh;rw[h];exact e
def qm:ag `_y H':=fun _ _ h=>(eP h).2
def alg{f:Addr}(hf:H f≠none):ag `_y (bh H' f):=fun b o h=>by
 obtain⟨h1,h2⟩:=eP h;exact cJ h2 fun e=>hf (by rw[<-e];exact h1)
def alh(s:ag H H1):ag (fresh H1 H2) (fresh H H2):=fun b o h=>by
 obtain⟨h1,h2⟩:=eP h;exact dZ (s.free h1) h2
def yN(s:ag H1 H2):ag (fresh H H1) (fresh H H2):=fun b o h=>by
 obtain⟨h1,h2⟩:=eP h;exact dZ h1 (s _ _ h2)
end
def eC{α:Type}(R:Hp->Addr->α->Prop)(H:Hp)(p:Addr)(xs:`ċ):Prop:=∃as:List Addr,H p=some ']'/\`_d=`Ã/\∀(i:Nat)(b:Addr),as[i]? =some b->∃x,xs[i]? =some x/\R `ę b x
section
variable{α:Type}{R:Hp->Addr->α->Prop}{H H':Hp}{p b:Addr}{xs:List α}{x:α}
def eC.aD(mo:1.80)(h:eC R H p xs)(s:`Ć):eC R H' p xs:=by
 show `_cb;exact⟨as,s _ _ h1,h2,fun i b e=>by obtain⟨x,hx,r⟩:=h3 i b e;exact⟨x,hx,mo _ _ _ _ r (Fn s)⟩⟩
def eC.nil(h:H p=some `Ù):eC R H p []:=⟨[],h,rfl,fun i b e=>by simp at e⟩
def eC.at(mo:∀H1 H2 b x,R H1 b x->ag H1 H2->R H2 b x)(h:eC R H p xs):∃as:List Addr,H p=some ']'/\`_d=`Ã/\∀(i:Nat)(v:V),(`ù)[i]? =some v->∃b x,v=.ref b/\xs[i]? =some x/\R H b x:=by
 show `_cb;refine⟨as,h1,h2,fun i v e=>?_⟩;rw[cG]at e;obtain⟨b,hb,rfl⟩:=gc.mp e;obtain⟨x,hx,r⟩:=h3 i b hb;exact⟨b,x,rfl,hx,mo _ _ _ _ r ve⟩
def eC.push(mo:1.80)(h:eC R H p xs)(r:R `ę b x):∃ys,H p=some (.ah ys)/\`ø=`Ã/\eC R (af H p (.ah (ys++[.ref b]))) p (xs++[x]):=by
 show `_cb;refine⟨`ù,h1,by rw[aJ];exact h2,as++[b],by rw[ax,eY];rfl,by simp[h2],fun i c e=>?_⟩;by_cases hi:i<`_d
 .rw[mh hi]at e;obtain⟨y,hy,q⟩:=h3 i c e;exact⟨y,by rw[mh (by omega)];exact hy,mo _ _ _ _ q Fp⟩
 .have O5:i=`_d:=by
   have:=(dM.mp e).1;simp at this;omega
  subst O5;rw[oz (bp _),uZ]at e;have:b=c:=bZ e;subst this;exact⟨x,by rw[h2];simp,mo _ _ _ _ r Fp⟩
end
def ŏ{H H':Hp}{x dx:Addr}{o o':HO}(hx:H x=none)(fJ:H dx=none)(s:ag (bh (af (af H dx o) x o') x) H'):ag H H':=fun b u e=>by
 refine s b u (cJ ?_ (aR e hx));rw[au (aR e hx),au (aR e fJ)];exact e
def AD(a:aj)(H:Hp)(p:Addr)(x:WD):Prop:=∃dx nd,H p=some (.ins a.kG dx (rK (nV x.1) (.ref nd)))/\H nd=some (.ah (x.2.map nV))
def uD(a:aj)(H:Hp)(p:Addr)(x:WD):Prop:=∃dx nd,H p=some (.ins a.lA dx (rJ (nV x.1) (.ref nd)))/\H nd=some (.ah (x.2.map nV))
def wm{a:aj}:∀(H1 H2:Hp)(b:Addr)(x:WD),AD a H1 b x->ag H1 H2->AD a H2 b x:=4.65
def dm{a:aj}:∀(H1 H2:Hp)(b:Addr)(x:WD),uD a H1 b x->ag H1 H2->uD a H2 b x:=4.65
def mU:Sp:=fun vs H Q _=>∃m n:Nat,vs=[nV m,nV n]/\Q (nV (without m n)) H
def arY(T:`Ä):ye•mU:=by
 refine aoc T ?_;rintro vs H Q E ⟨m,n,rfl,h⟩;refine `Á;unfold aff;ext;symm;rw[sZ,Me];exact h
def l5(K:Frag):Sp:=fun vs H Q _=>∃(S:Nat)(p:Addr)(ns:`À),vs=[nV S,.ref p]/\aG K H p (ns.map nV)/\Q (.bl (jN S ns)) H
def ari(T:`Ä):yb•l5 K:=by
 refine anR T ?_;rintro vs H Q E ⟨S,p,ns,rfl,hp,h⟩;refine `Á;unfold aeU;ext;symm;refine fV (xs:=ns.map nV) (fun i σ H'=>∃v,σ=[some (nV S),`î,v]/\H'=H/\jN S (ns.take i)=true) ⟨none,rfl,rfl,rfl⟩ (fun i σ H' _ q=>by obtain⟨v,_,e,_⟩:=q;rw[e];exact hp) (fun i x σ H' hx q=>?_) (fun σ H' q=>?_)
 .obtain⟨v,rfl,rfl,q⟩:=q;obtain⟨n,hn,rfl⟩:=jc hx;symm;rw[sZ];refine `Ā
  .symm;have:jN S ns=false:=by
    unfold jN;rw[UW];refine⟨n,cN hn,?_⟩;have e':S&&&n=0:=`Å;simp[e']
   rw[this]at h;exact h
  .symm;refine⟨_,rfl,rfl,?_⟩;rw[eR hn];unfold jN at q⊢;rw[xG,q];have e':S&&&n≠0:=`Å;simp[e']
 .obtain⟨v,rfl,rfl,q⟩:=q;rw[aJ,eT]at q;symm;rw[q]at h;exact h
def lZ(a:aj):Sp:=fun vs H Q _=>∃p dx v1 v2,vs=[.ref p,v1,v2]/\H p=some (.ins a.kG dx [])/\Q .aX (af H p (.ins a.kG dx (rK v1 v2)))
def aqw(T:`Ä):x_•lZ a:=by
 refine anc T ?_;rintro vs H Q E ⟨p,dx,v1,v2,rfl,hp,h⟩;refine `Á;unfold aek;ext;symm;rw[jj];exact h
def tu(x:WD)(p:Nat×Bool):WD:=if p.2=true then(x.1,x.2++[p.1])else(x.1|||p.1,x.2)
def Yf(l:List (Nat×Bool))(x:WD):l.foldl tu x=((l.filter fun p=>!p.2).foldl (fun b p=>b|||p.1) x.1,x.2++(l.filter fun p=>p.2).map (·.1)):=by
 induction l generalizing x with
 |nil=>simp
 |cons p l ih=>
  rw[jA,ih];unfold tu;obtain⟨n,b⟩:=p;cases b<;>simp
def ajW(f g:Nat)(r:Rel):(sx f g r).foldl tu (0,[])=gf f g r:=by rw[Yf];simp[gf]
def mP(a:aj):Sp:=fun vs H Q _=>∃(p dx:Addr)(f g:Nat)(r:Rel),vs=[.ref p,nV f,nV g,bV r]/\H p=some (.ins a.lA dx [])/\∀H',ag `ę H'->uD a (fresh `ę H') p (gf f g r)->Q .aX H'
def aqj(T:`Ä)(C:oq w P K a):xW•mP a:=by
 refine amL T ?_;rintro vs H Q E ⟨p,dx,f,g,r,rfl,hp,h⟩;refine `Á;unfold ad7;ext;symm;intro nd j4;symm;intro T1 iO;symm;obtain⟨ft,hk,Zs⟩:=C.ak6 r;refine apD hk ?_;symm;refine apy (bF.of ax) (Zs _) rfl ?_;rw[sZ,Me,Me];have np:nd≠p:=fun e=>by rw[e,ax]at j4;cases j4
 have KM:H nd=none:=by rw[au np]at j4;exact j4
 have nT:T1≠p:=fun e=>by rw[e,ax]at iO;cases iO
 have Qr:T1≠nd:=fun e=>by rw[e,au np,ax]at iO;cases iO
 have HT:H T1=none:=by rw[au nT,au Qr,au nT]at iO;exact iO
 have exs:∀(i:Nat)(x:V),(3.17:List V)[i]? =some x->∃n b,(sx f g r)[i]? =some (n,b)/\x=nV n/\([V.bl (parts r).1,V.bl (parts r).2.1,V.bl (parts r).2.2]:List V)[i]? =some (V.bl b):=by
  intro i x hx
  match i,hx with
  |0,hx=>exact⟨_,_,rfl,'$',rfl⟩
  |1,hx=>exact⟨_,_,rfl,'$',rfl⟩
  |2,hx=>exact⟨_,_,rfl,'$',rfl⟩
  |n+3,hx=>simp at hx
 refine apu rfl (fun i σ H'=>∃v5 v6,σ=[`î,some (nV f),some (nV g),some (bV r),some (nV (f&&&g)),v5,v6]/\ag `ę H'/\
  H' p=some (.ins a.lA dx (rJ (nV (((sx f g r).take i).foldl tu (0,[])).1) (.ref nd)))/\H' nd=some (.ah ((((sx f g r).take i).foldl tu (0,[])).2.map nV))/\H' T1=some (.bb 3.17))
  ⟨none,none,rfl,5.0,?_,?_,ax⟩ (fun i σ H' _ z=>?_) (fun i x y σ H' T2 hx hy z iW=>?_) `é
 .obtain⟨e1,e2⟩:=eS e;rw[au (aR e1 HT),au e2,au (aR e1 KM),au e2];exact e1
 .rw[au (aL nT),ax];rfl
 .rw[au (aL Qr),au np,ax];rfl
 .obtain⟨_,_,_,_,_,_,z⟩:=z;exact⟨bF.of z,Zs _⟩
 .obtain⟨v5,v6,rfl,z1,z2,z3,z4⟩:=z;obtain⟨n,b,e1,rfl,e2⟩:=exs i x hx;rw[e2]at hy;cases hy;refine 2.9;show `_an;have z2':=bB (o:=.bb [nV n,.bl b]) iW z2;have z3':=bB (o:=.bb [nV n,.bl b]) iW z3;have z4':=bB (o:=.bb [nV n,.bl b]) iW z4;have s2:ag `ę (af H' T2 (.bb [nV n,.bl b])):=z1.trans (ag.new iW);have cp:bh H p p=none:=Fo;have cn:bh H p nd=none:=by rw[lB np];exact KM
  have et:=eR e1;symm;refine `_j
  .subst e;symm;refine qC z3' ?_ ?_
   .rw[aJ];refine oF (m:=3) ?_ `Æ;rw[Yf];simp only[p6,aJ];refine bq (nh _ _) ?_;rw[gl];exact Nat.min_le_right _ _
   .refine⟨_,_,rfl,s2.set cn,?_,?_,?_⟩
    .rw[au (aL np),et,ng];exact z2'
    .rw[ax,et,ng];show some (HO.ah _)=some (HO.ah (map nV (tu _ (n,true)).2));unfold tu;simp
    .rw[au Qr];exact z4'
  .subst e;symm;rw[Fb];refine⟨_,_,rfl,s2.set cp,?_,?_,?_⟩
   .rw[ax,et,ng];rfl
   .rw[au np,et,ng];exact z3'
   .rw[au nT];exact z4'
 .obtain⟨v5,v6,rfl,z1,z2,z3,z4⟩:=z;have e:((sx f g r).take (3.17:List V).length).foldl tu (0,[])=gf f g r:=ajW f g r;rw[e]at z2 z3;exact h H' z1 ⟨dx,nd,dZ Fo z2,dZ (by rw[lB np];exact KM) z3⟩
def aoC{H H':Hp}{x dx:Addr}{o o':HO}(hx:H x=none):ag (fresh (bh (af (af H dx o) x o') x) H') `_y:=fun b u e=>by
 obtain⟨e1,e2⟩:=eP e;refine dZ ?_ e2;by_cases hb:b=x
 .rw[hb];exact hx
 .rw[lB hb,au hb]at e1;by_cases hd:b=dx
  .rw[hd,ax]at e1;cases e1
  .rw[au hd]at e1;exact e1
def mT(a:aj):Sp:=fun vs H Q _=>∃(p q:Addr)(x d:WD),vs=4.4/\AD a H p x/\uD a H q d/\x.2.length+d.2.length<=100000/\
 (gI x d=none->∀H',ag H H'->Q .aX H')/\(∀y,gI x d=some y->∀r H',ag H H'->AD a `_y r y->Q `à H')
def arl(T:`Ä)(G1:ye•mU)(G2:yb•l5 K)(G3:x_•lZ a):yc•mT a:=by
 refine anT T `Â `Â `Â ?_;rintro vs H Q E ⟨p,q,x,d,rfl,⟨dx1,n1,hp,ZA⟩,⟨M3,n2,hq,Bq⟩,hl,h0,h1⟩;refine `Á;unfold aeW;ext;symm;refine⟨_,_,rfl,?_⟩;symm;refine⟨_,_,d.2,rfl,aG.of Bq,?_⟩;symm;unfold gI at h0 h1;simp only[]at h0 h1;refine `_j
 .have e':jN 0.78 d.2=false:=`_D;rw[ay e']at h0;symm;exact h0 rfl H 1.5
 .have e':jN 0.78 d.2=true:=`_D;rw[aq (by rw[e'];decide)]at h0 h1;have last:¬(without x.1 d.1≠x.1/\jN 0.78 x.2=false)->∀(σ:L2.St),σ[2]? =some (some (nV 0.78))->σ[0]? =some (some (V.ref p))->σ[1]? =some (some (V.ref q))->
   aK (jh a.kG (lZ a) [] E0 4.37) {nx:=fun _ H'=>Q .aX H',rt:=Q} σ H:=by
   intro hc σ s2 s0 s1;rw[aq hc]at h1;refine FC (Yl (yw (iN s2 (yw (Yn (Yk (iN s0 ?_)))))));symm;refine iN s1 ?_;symm;refine kT ZA Bq (by rw[aJ,aJ];exact bq hl `Æ) fun l vG=>?_;symm;intro r dx hr fJ vV;refine⟨r,dx,_,_,rfl,ax,rfl,?_⟩;rw[jj];have nr:r≠l:=fun e=>by rw[e,ax]at hr;cases hr
   have zr:dx≠l:=fun e=>by rw[e,ax]at fJ;cases fJ
   have Hr:H r=none:=by rw[au nr]at hr;exact hr
   have Hd:H dx=none:=by rw[au zr]at fJ;exact fJ
   refine h1 _ rfl r _ (((ag.new vG).set Hd).set Hr) ⟨dx,l,dZ Hr ax,dZ vG ?_⟩;rw[au (aL nr),au (aL zr),ax,eY]
  symm;refine 6.6
  .have ne:without x.1 d.1≠x.1:=by
    have:=e2;simp at this;omega
   symm;refine⟨_,_,x.2,rfl,aG.of ZA,?_⟩;symm;refine 0.61
   .have e4:jN 0.78 x.2=false:=by simpa using e3
    rw[ay ⟨ne,e4⟩]at h0;symm;exact h0 rfl H 1.5
   .have e4:jN 0.78 x.2=true:=by simpa using e3
    refine M5 ?_;exact last (fun z=>by rw[e4]at z;exact nomatch z.2) _ rfl rfl rfl
  .have eq:without x.1 d.1=x.1:=by
    have:=e2;simp at this;omega
   refine nJ ?_;refine M5 ?_;exact last (fun z=>z.1 eq) _ rfl rfl rfl
def sU(H:Hp)(b:Addr)(x:Int×Int):Prop:=H b=some (.bb [.int x.1,.int x.2])
def pm:∀(H1 H2:Hp)(b:Addr)(x:Int×Int),sU H1 b x->ag H1 H2->sU H2 b x:=fun _ _ _ _ h s=>s _ _ h
def cq(cs:`ì)(c:Nat):Nat:=aT cs fun x=>x.contains c
structure ij(a:aj)(H:Hp)(g:Addr)(pairs:List (Int×Int))(cs:List (List Nat))(aw:List Nat):Prop where
 ex:∃dx pp ee,H g=some (.ins a.gP dx (mv (.ref pp) (nV 0.42) (.ref ee)))/\eC sU H pp pairs/\H ee=some (.dK (aB aw fun c=>nV (cq cs c)))
def ij.aD{a:aj}{H H':Hp}{g:Addr}{pairs:`_2}{cs:`ì}{aw:`À}(h:ij a H g pairs cs aw)(s:`Ć):ij a H' g pairs cs aw:=by
 obtain⟨dx,pp,ee,h1,h2,h3⟩:=h.ex;exact⟨dx,pp,ee,s _ _ h1,h2.aD pm s,s _ _ h3⟩
def jH(ins outs:`À)(x:`À):Bool:=(ins.all fun c=>x.contains c)&&outs.all fun c=>!x.contains c
def oR{g:Nat->V}{l:`À}{c:Nat}(h:c∈l):f6 (aB l g) (.inl ((c:Nat):Int))=some (g c):=fU h
def SL(K:Frag)(a:aj):Sp:=fun vs H Q _=>∃(g p q:Addr)(pairs:`_2)(cs:`ì)(aw ins outs:`À),vs=[.ref g,.ref p,.ref q]/\ij a H g pairs cs aw/\aG K H p (ins.map nV)/\aG K H q (outs.map nV)/\
 (∀c∈ins,c∈aw)/\(∀c∈outs,c∈aw)/\Q (nV (aT cs (jH ins outs))) H
def arA(T:`Ä)(G:ye•mU):xX•SL K a:=by
 refine amP T `Â ?_;rintro vs H Q E ⟨g,p,q,pairs,cs,aw,ins,outs,rfl,⟨dx,pp,ee,hg,_,he⟩,hp,hq,hi,ho,h⟩;refine `Á;unfold ad_;ext;symm;refine fV (xs:=ins.map nV) (fun i σ H'=>∃v,σ=[some (.ref g),`î,`Č,some (nV (aT cs (jH (ins.take i) []))),v]/\H'=H) ⟨none,by rfl,rfl⟩ (fun i σ H' _ z=>by obtain⟨v,_,e⟩:=z;rw[e];exact hp) '0' `é
 .show `_aT;obtain⟨c,hc,rfl⟩:=jc hx;symm;refine eJ (.inl he) (oR (hi c (cN hc))) ?_;symm;refine⟨0.0,?_,rfl⟩;rw[sZ,show cq cs c=aT cs fun x=>x.contains c from rfl,s_,eR hc];have e:aT cs (fun x=>jH (ins.take i) [] x&&x.contains c)=aT cs (jH (ins.take i++[c]) []):=qf fun x _=>by simp[jH]
  rw[e];rfl
 .show `_aT;rw[aJ,eT];symm;refine fV (xs:=outs.map nV) (fun i σ H'=>∃v,σ=[some (.ref g),`î,`Č,some (nV (aT cs (jH ins (outs.take i)))),v]/\H'=_) ⟨v,rfl,rfl⟩ (fun i σ H' _ z=>by obtain⟨v,_,e⟩:=z;rw[e];exact hq) '0' `é
  .show `_aT;obtain⟨c,hc,rfl⟩:=jc hx;symm;refine eJ (.inl he) (oR (ho c (cN hc))) ?_;symm;refine⟨_,_,rfl,?_⟩;symm;refine⟨0.0,?_,rfl⟩;rw[show cq cs c=aT cs fun x=>x.contains c from rfl,eR hc];have e:without (aT cs (jH ins (outs.take i))) (aT cs fun x=>x.contains c)=aT cs (jH ins (outs.take i++[c])):=by
    unfold without;rw[s_,yq];refine qf fun x _=>?_;simp only[jH,xG,m9,List.all_nil,Tz];cases(ins.all fun c=>x.contains c)<;>cases((outs.take i).all fun c=>!x.contains c)<;>cases x.contains c<;>rfl
   rw[e];rfl
  .show `_aT;rw[aJ,eT];symm;exact h
abbrev g9(a:aj):=eC (AD a)
abbrev TH(a:aj):=eC (uD a)
def gg(cs:`ì)(aw:`À)(rl:'/'):List Nat:=aw.map (cq cs)++rl.map fun x=>aT cs (jH x.1 x.2)
def wF(K:Frag)(a:aj):Sp:=fun vs H Q _=>∃(g p:Addr)(pairs:`_2)(cs:`ì)(aw:`À)(rl:'/'),vs=[.ref g,.ref p]/\ij a H g pairs cs aw/\oK K H p rl/\
 (∀x∈rl,(∀c∈x.1,c∈aw)/\∀c∈x.2,c∈aw)/\aw.length<=1000/\rl.length<=1000/\
 ∀q H',ag H H'->g9 a `_y q 2.40->Q `ğ H'
def aq2(T:`Ä)(G1:xX•SL K a)(G2:yb•l5 K)(G3:x_•lZ a):Eo•wF K a:=by
 refine anH T `Â `Â `Â ?_;rintro vs H Q E ⟨g,p,pairs,cs,aw,rl,rfl,hG,⟨xs,hp,hX,hx⟩,hm,l1,l2,h⟩;have hG':=hG;obtain⟨dx,pp,ee,hg,_,he⟩:=hG;refine `Á;unfold aeK;ext;symm;intro nd j4;have e0:(aB aw fun c=>nV (cq cs c)).map (·.2)=(aw.map (cq cs)).map nV:=by rw[bP,bP];rfl
 rw[e0];have s0:ag H (af H nd (.ah ((aw.map (cq cs)).map nV))):=ag.new j4;symm;refine sj (s0.seq hp) ?_;refine fV (xs:=xs) (fun i σ H'=>∃v3 v4,σ=[some (.ref g),`î,some (.ref nd),v3,v4]/\ag H H'/\H' nd=some (.ah ((gg cs aw (rl.take i)).map nV))) ⟨none,none,rfl,s0,by rw[ax];simp[gg]⟩ (fun i σ H' _ z=>by obtain⟨_,_,_,s,_⟩:=z;exact s.seq hp) 1.29 `é
 .obtain⟨v3,v4,rfl,s,e⟩:=z;obtain⟨q,f,t,ins,outs,e1,rfl,hq,hf,ht⟩:=hx i x rQ;obtain⟨m1,m2⟩:=hm _ (cN e1);have hg':=s _ _ hg;refine lE (s.iE hq) rfl (fA ?_);show `_an;symm;refine⟨g,f,t,pairs,cs,aw,ins,outs,rfl,hG'.aD s,s.seq hf,s.seq ht,m1,m2,?_⟩;symm;refine qC e ?_ ⟨_,_,rfl,s.set j4,?_⟩
  .rw[aJ];unfold gg;rw[dc,aJ,aJ,gl];refine oF (m:=2000) `È `Æ
  .rw[ax,eR e1];unfold gg;simp
 .obtain⟨v3,v4,rfl,s,e⟩:=z;rw[hX,eT]at e;have hg':=s _ _ hg;symm;refine⟨_,nd,gg cs aw rl,rfl,aG.of e,?_⟩;symm;unfold gw at h;refine eF (fun z=>?_) fun z=>?_
  .have z':jN 0.42 (gg cs aw rl)=false:=by simpa using z
   rw[aq (by rw[z'];decide)]at h;symm;intro l hl;exact h l _ (s.trans (ag.new hl)) (eC.nil (dZ (s.free hl) ax))
  .have z':jN 0.42 (gg cs aw rl)=true:=by simpa using z
   rw[ay z']at h;symm;intro r dx hr fJ vV;refine⟨r,dx,_,_,rfl,ax,rfl,?_⟩;rw[jj];symm;intro l hl;have QH:l≠r:=fun e=>by rw[e,ax]at hl;cases hl
   have nld:l≠dx:=fun e=>by rw[e,au vV,ax]at hl;cases hl
   have Hl:H' l=none:=by rw[au QH,au nld]at hl;exact hl
   refine h l _ ((((ag.new fJ).set hr).trans (ag.new hl))|>s.trans) ⟨[r],dZ (s.free Hl) ax,rfl,fun i b eb=>?_⟩
   match i,eb with
   |0,eb=>
    have:r=b:=by simpa using eb
    subst this;refine⟨_,rfl,dx,nd,cJ (dZ (s.free hr) ?_) (aL QH),cJ (dZ j4 ?_) (aR e Hl)⟩
    .rw[au (aL QH),ax]
    .rw[au (aR e Hl),au (aR e hr),au (aR e fJ)];exact e
   |n+1,eb=>simp at eb
def Ib:V->Rel
 |.int 1=>.equal
 |.int 2=>.within
 |.int 4=>.holds
 |.int 8=>.overlap
 |_=>.apart
def ab7(r:Rel):Ib (bV r)=r:=by cases r<;>rfl
def apZ(ws ds:List WD):(lO ws ds).length<=ws.length*ds.length:=by
 unfold lO
 induction ws with
 |nil=>simp
 |cons x ws ih=>
  rw[oy,dc,cB,DJ];have:=DA (gI x) ds;omega
def ap0(ws ds:List WD)(x:WD):lO (ws++[x]) ds=lO ws ds++ds.filterMap (gI x):=by simp[lO]
def wO(a:aj):Sp:=fun vs H Q _=>∃(p q:Addr)(ws ds:List WD),vs=4.4/\g9 a H p ws/\TH a H q ds/\ws.length<=1000/\ds.length<=1000/\2.23/\(∀x∈ds,x.2.length<=10000)/\
 ∀r H',ag H H'->g9 a `_y r (lO ws ds)->Q `à H'
def arm(T:`Ä)(G:yc•mT a):Ez•wO a:=by
 refine anU T `Â ?_;rintro vs H Q E ⟨p,q,ws,ds,rfl,hp,hq,l1,l2,n1,n2,h⟩;obtain⟨as,a1,a2,a3⟩:=hp.at wm;obtain⟨bs,b1,b2,b3⟩:=hq.at dm;refine `Á;unfold aeX;show `_bN;have VF:=s0 _ _ a1;symm;refine fV (xs:=`ù) (fun i σ H'=>∃v3 v4 v5,σ=[`î,`Č,`ĕ,v3,v4,v5]/\ag H H'/\g9 a `_y f (lO (ws.take i) ds)) ⟨none,none,none,rfl,s0,eC.nil (dZ hf ax)⟩
  (fun i σ H' _ z=>by obtain⟨_,_,_,_,s,_⟩:=z;exact aG.of (s _ _ a1)) '0' `é
 .obtain⟨v3,v4,v5,rfl,s,hw⟩:=z;obtain⟨wp,wx,rfl,ex,Pu⟩:=a3 i x hx;have b1':=s _ _ b1;symm;refine fV (xs:=bs.map V.ref) (fun j σ H'=>∃v4 v5,σ=[`î,`Č,`ĕ,some (.ref wp),v4,v5]/\ag H H'/\g9 a `_y f (lO (ws.take i) ds++(ds.take j).filterMap (gI wx))) ⟨_,_,rfl,s,by simpa using hw⟩
   (fun i σ H' _ z=>by obtain⟨_,_,_,s,_⟩:=z;exact aG.of (s _ _ b1)) (fun j y σ H1 hy z=>?_) (fun σ H1 z=>?_)
  .obtain⟨v4,v5,rfl,s1,y9⟩:=z;obtain⟨dp,d,rfl,ed,hd⟩:=b3 j y hy;have Gv:=n1 _ (cN ex);have hd2:=n2 _ (cN ed);have et:(ds.take (j+1)).filterMap (gI wx)=(ds.take j).filterMap (gI wx)++(match gI wx d with|none=>[]|some y=>[y]):=by
    rw[eR ed,Du];congr 1;rw[gD];cases gI wx d<;>rfl
   symm;refine⟨wp,dp,wx,d,rfl,wm _ _ _ _ Pu s1,dm _ _ _ _ hd s1,`Å,fun e H2 s2=>?_,fun y e r H2 s2 hr=>?_⟩
   .symm;refine nJ ?_;symm;refine⟨_,_,rfl,`_l,?_⟩;rw[et,e,i6];exact y9.aD wm (yN s2)
   .symm;refine rY ?_;obtain⟨fs,f1,f2,f3⟩:=(y9.aD wm (yN s2)).push wm (b:=r) (x:=y) (wm _ _ _ _ hr fun b o eb=>by
     obtain⟨e1,e2⟩:=eP eb;refine cJ (dZ (s1.free e1) e2) fun e=>?_;obtain⟨E_,g1,_⟩:=y9;rw[e]at e1;rw[(eP g1).2]at e1;cases e1)
    have Nc:=qm _ _ f1;symm;refine qC Nc ?_ ⟨_,_,rfl,(`_l).set hf,?_⟩
    .rw[f2,dc];have:=apZ (ws.take i) ds;have h2:=DA (gI wx) (ds.take j);rw[gl]at this h2;have h3:min i ws.length*ds.length<=1000*1000:=uX `È l2;refine oF (m:=1001000) `È `Æ
    .rw[et,e,<-jz];refine f3.aD wm fun b o eb=>?_;by_cases hb:b=f
     .rw[hb,ax]at eb;rw[hb];exact dZ hf (by rw[ax];exact eb)
     .rw[au hb]at eb;obtain⟨e1,e2⟩:=eP eb;exact dZ e1 (by rw[au hb];exact e2)
  .obtain⟨v4,v5,rfl,s1,y9⟩:=z;rw[aJ,b2,eT]at y9;refine⟨_,_,_,rfl,s1,?_⟩;rw[eR ex,ap0];exact y9
 .obtain⟨v3,v4,v5,rfl,s,hw⟩:=z;rw[aJ,a2,eT]at hw;symm;exact h f H' s hw
def wI(a:aj):Sp:=fun vs H Q _=>∃(p q:Addr)(ws:List WD)(d:WD),vs=4.4/\g9 a H p ws/\uD a H q d/\2.23/\d.2.length<=10000/\∀H',ag H H'->Q (.bl (ws.any fun x=>(gI x d).isSome)) H'
def aq8(T:`Ä)(G:yc•mT a):Es•wI a:=by
 refine anL T `Â ?_;rintro vs H Q E ⟨p,q,ws,d,rfl,hp,hd,n1,n2,h⟩;obtain⟨as,a1,a2,a3⟩:=hp.at wm;refine `Á;unfold aeO;ext;symm;refine fV (xs:=`ù) (fun i σ H'=>∃v,σ=[`î,`Č,v]/\ag H H'/\((ws.take i).any fun x=>(gI x d).isSome)=false) ⟨none,rfl,ag.refl H,rfl⟩ (fun i σ H' _ z=>by obtain⟨_,_,s,_⟩:=z;exact aG.of (s _ _ a1)) '0' `é
 .obtain⟨v,rfl,s,e⟩:=z;obtain⟨wp,wx,rfl,ex,Pu⟩:=a3 i x hx;have Gv:=n1 _ (cN ex);symm;refine⟨wp,q,wx,d,rfl,wm _ _ _ _ Pu s,dm _ _ _ _ hd s,`Å,fun e2 H2 s2=>?_,fun y e2 r H2 s2 hr=>?_⟩
  .symm;refine nJ ?_;symm;refine⟨_,rfl,s.trans s2,?_⟩;rw[eR ex,UX,e];simp[e2]
  .symm;refine rY ?_;symm;have:(ws.any fun x=>(gI x d).isSome)=true:=i5.mpr ⟨wx,cN ex,by rw[e2];rfl⟩;rw[this]at h;exact h _ (s.trans s2)
 .obtain⟨v,rfl,s,e⟩:=z;rw[aJ,a2,eT]at e;rw[e]at h;symm;exact h _ s
def aoI(p:Rel->Bool):((RELS.filter p).map fun r=>(bit r:Int)).sum=((Vbnlak.maskOf (RELS.filter p):Nat):Int):=by
 unfold RELS;simp only[kt,List.filter_nil];cases p .equal<;>cases p .within<;>cases p .holds<;>cases p .overlap<;>cases p .apart<;>rfl
def X8(f g:Nat)(r:Rel):(gf f g r).2.length<=3:=by
 unfold gf;rw[aJ];exact nh _ _
def sF(a:aj):Sp:=fun vs H Q _=>∃(p:Addr)(f g:Nat)(ws:List WD),vs=[.ref p,nV f,nV g]/\g9 a H p ws/\2.23/\∀H',ag H H'->Q (nV (Vbnlak.maskOf (RELS.filter fun r=>ws.any fun x=>(gI x (gf f g r)).isSome))) H'
def aru(T:`Ä)(C:oq w P K a)(G1:Es•wI a)(G2:xW•mP a):EE•sF a:=by
 refine anZ T `Â `Â ?_;rintro vs H Q E ⟨p,f,g,ws,rfl,hp,n1,h⟩;refine `Á;unfold ae2;ext;symm;refine B_ (C.dH H) ?_;refine Qz (C.dH H) `Æ (fun v=>if(ws.any fun x=>(gI x (gf f g (Ib v))).isSome)=true then some v else none) 3.51 (fun D H' hD s e=>?_)
 .obtain⟨r,hr,rfl⟩:=Se hx;rw[ab7]at h1 h0;symm;refine `Á;symm;intro x dx hx fJ vV;refine⟨x,dx,f,g,r,rfl,ax,fun H2 s2 hd=>`Á⟩;have s3:ag H' H2:=ŏ hx fJ s2;symm;refine⟨p,x,ws,gf f g r,rfl,hp.aD wm (s.trans s3),dm _ _ _ _ hd qm,n1,bq (X8 _ _ _) `Æ,fun H3 s4=>?_⟩;symm;refine `_j
  .symm;exact h1 _ _ (ay e) (s3.trans s4)
  .exact h0 _ (aq (by rw[e];decide)) (s3.trans s4)
 .symm;rw[ab9,oV]at e;have e2:(RELS.filterMap fun r=>if(ws.any fun x=>(gI x (gf f g (Ib (bV r)))).isSome)=true then some (bV r)else none)=(((RELS.filter fun r=>ws.any fun x=>(gI x (gf f g r)).isSome).map fun r=>(bit r:Int))).map V.int:=by
   rw[yL (fun r=>ws.any fun x=>(gI x (gf f g (Ib (bV r)))).isSome) bV,bP];simp only[ab7];rfl
  rw[e2]at e;refine aan (aG.of e) ?_;rw[aoI];exact h _ s
def L6:∀{ys:List V},(∀(i:Nat)(y:V),ys[i]? =some y->∃b,y=.ref b)->∃as:List Addr,ys=as.map V.ref
 |[],_=>⟨[],rfl⟩
 |y::ys,h=>by
  obtain⟨b,rfl⟩:=h 0 y rfl;obtain⟨as,rfl⟩:=L6 (ys:=ys) fun i z e=>h (i+1) z (`_D);exact⟨b::as,rfl⟩
def ib(ext:Nat->Nat)(ws:List WD)(tl:`_Z):List WD:=tl.foldl (fun ws t=>lO ws ((relsOf t.2.2).map fun r=>gf (ext t.1) (ext t.2.1) r)) ws
def aum(ext:Nat->Nat)(ws:List WD)(tl:`_Z)(t:Nat×Nat×Nat):ib ext ws (tl++[t])=lO (ib ext ws tl) ((relsOf t.2.2).map fun r=>gf (ext t.1) (ext t.2.1) r):=by
 unfold ib;rw[ng];rfl
def Sf(m:Nat):(`_M).length<=5:=nh _ _
def Dj(ws:List WD):Prop:=ws.length<=1000/\∀x∈ws,x.2.length<=10000
def pH(K:Frag)(a:aj):Sp:=fun vs H Q _=>∃(g pt pr:Addr)(pairs:`_2)(cs:`ì)(aw:`À)(tl:`_Z)(rl:'/'),vs=[.ref g,.ref pt,.ref pr]/\ij a H g pairs cs aw/\oO K H pt tl/\oK K H pr rl/\
 (∀x∈tl,x.1∈aw/\x.2.1∈aw/\x.2.2<32)/\(∀x∈rl,(∀c∈x.1,c∈aw)/\∀c∈x.2,c∈aw)/\aw.length<=1000/\rl.length<=1000/\(∀i,Dj (ib (cq cs) 2.40 (tl.take i)))/\
 ∀q H',ag H H'->g9 a `_y q (ib (cq cs) 2.40 tl)->Q `ğ H'
def arI(T:`Ä)(G1:Eo•wF K a)(G2:p_•gK)(G3:xW•mP a)(G4:Ez•wO a):
 yd•pH K a:=by
 refine an5 T `Â `Â `Â `Â ?_;rintro vs H Q E ⟨g,pt,pr,pairs,cs,aw,tl,rl,rfl,hG,hT,hR,pk,vM,l1,l2,oU,h⟩;refine `Á;unfold ae8;ext;symm;refine⟨g,pr,pairs,cs,aw,rl,rfl,hG,hR,vM,l1,l2,fun q0 H0 s0 hw0=>?_⟩;obtain⟨xs,hp,hX,hx⟩:=hT;symm;refine sj (s0.seq hp) ?_;refine fV (xs:=xs) (fun i σ H'=>∃wp v4 v5 v6 v7 v8,σ=[some (.ref g),some (.ref pt),some (.ref pr),some (.ref wp),v4,v5,v6,v7,v8]/\ag H H'/\g9 a `_y wp (ib (cq cs) 2.40 (tl.take i)))
  ⟨q0,none,none,none,none,none,rfl,s0,hw0⟩ (fun i σ H' _ z=>by obtain⟨_,_,_,_,_,_,_,s,_⟩:=z;exact s.seq hp) 1.29 `é
 .obtain⟨wp,v4,v5,v6,v7,v8,rfl,s,hw⟩:=z;obtain⟨q,c,d,m,e1,rfl,hq⟩:=hx i x rQ;obtain⟨mc,md,mm⟩:=pk _ (cN e1);obtain⟨dx,pp,ee,hg,_,he⟩:=hG.aD s;show `_bL;symm;refine Hk (aG.of e2) (by rw[aJ];exact bq (Sf m) `Æ) (fun i y H=>∃b r,y=.ref b/\(`_M)[i]? =some r/\uD a H b (gf (cq cs c) (cq cs d) r)) (fun i y H1 H2 z s=>by obtain⟨b,r,h1,h2,h3⟩:=z;exact⟨b,r,h1,h2,dm _ _ _ _ h3 s⟩) (fun i x H2 D Gv s2 hD A4 R1 h1=>?_) (fun D H2 ys hD s2 eD hl hy=>?_)
  .rw[cG]at Gv;obtain⟨r,hr,rfl⟩:=gc.mp Gv;have hg2:=s2 _ _ (s1 _ _ hg);have Zo:=s2 _ _ (s1 _ _ he);symm;refine `Á;symm;refine eJ (.inl Zo) (oR mc) ?_;symm;refine eJ (.inl Zo) (oR md) ?_;symm;intro x M3 hx fJ vV;refine⟨x,M3,cq cs c,cq cs d,r,rfl,ax,fun H3 s3 rM=>`Á⟩;exact h1 _ H3 (ŏ hx fJ s3) ⟨x,r,rfl,hr,dm _ _ _ _ rM ((aoC hx).trans (alg A4))⟩
  .obtain⟨bs,rfl⟩:=L6 fun i y e=>by obtain⟨b,r,h1,_⟩:=hy i y e;exact⟨b,h1⟩
   have O0:TH a H2 D ((`_M).map fun r=>gf (cq cs c) (cq cs d) r):=⟨bs,eD,by simpa using hl,fun i b eb=>by
    obtain⟨b',r,z1,z2,z3⟩:=hy i (.ref b) (by rw[cG,eb];rfl);cases z1;exact⟨_,by rw[cG,z2];rfl,z3⟩⟩
   have S2:=(s.trans s1).trans s2;symm;refine⟨wp,D,_,_,rfl,(hw.aD wm qm).aD wm (`_l),O0,(oU i).1,by rw[aJ];exact bq (Sf m) `Æ,(oU i).2,`_n,fun r H3 s3 hr=>?_⟩
   .obtain⟨r,_,rfl⟩:=cw.mp hx;exact bq (X8 _ _ _) `Æ
   .refine⟨r,_,_,_,_,_,rfl,S2.trans s3,?_⟩;rw[eR e1,aum];exact hr.aD wm (alh S2)
 .obtain⟨wp,v4,v5,v6,v7,v8,rfl,s,hw⟩:=z;rw[hX,eT]at hw;symm;exact h wp H' s hw
def uz(tl:`_Z):Nat:=(tl.map fun t=>(relsOf t.2.2).length).foldl (·*·) 1
def wA(K:Frag):Sp:=fun vs H Q _=>∃(p:Addr)(tl:`_Z),vs=`Ċ/\oO K H p tl/\(∀x∈tl,x.2.2<32)/\∀H',ag H H'->Q (nV (uz tl)) H'
def aqU(T:`Ä)(G:p_•gK):Ei•wA K:=by
 refine anB T `Â ?_;rintro vs H Q E ⟨p,tl,rfl,⟨xs,hp,hX,hx⟩,pk,h⟩;refine `Á;unfold aeF;ext;symm;refine fV (xs:=xs) (fun i σ H'=>∃v2 v3 v4,σ=[`î,some (nV (uz (tl.take i))),v2,v3,v4]/\ag H H') ⟨none,none,none,rfl,ag.refl H⟩ (fun i σ H' _ z=>by obtain⟨_,_,_,_,s⟩:=z;exact s.seq hp) 1.29 `é
 .obtain⟨v2,v3,v4,rfl,s⟩:=z;obtain⟨q,c,d,m,e1,rfl,hq⟩:=hx i x rQ;have mm:=pk _ (cN e1);show `_bL;symm;refine B8 (.inr ?_) ?_
  .rw[aJ];have:=Sf m;constructor<;>omega
  .symm;refine⟨0.0,some (nV d),some (nV m),?_,s.trans s1⟩;have e:uz (tl.take (i+1))=uz (tl.take i)*(`_M).length:=by
    unfold uz;rw[eR e1,eY,ng];rfl
   rw[e,aJ];show _=[_,some (V.int ((uz (tl.take i)*(`_M).length:Nat):Int)),_,_,_];rw[Int.natCast_mul];rfl
 .obtain⟨v2,v3,v4,rfl,s⟩:=z;rw[hX,eT];symm;exact h _ s
def sr(ws:List WD):Nat:=ws.foldl (fun b x=>b|||x.1) 0
def wu(a:aj):Sp:=fun vs H Q _=>∃(p:Addr)(ws:List WD),vs=`Ċ/\g9 a H p ws/\Q (nV (sr ws)) H
def aqy(T:`Ä):Ed•wu a:=by
 refine anf T ?_;rintro vs H Q E ⟨p,ws,rfl,hp,h⟩;obtain⟨as,a1,a2,a3⟩:=hp.at wm;refine `Á;unfold aem;ext;symm;refine fV (xs:=`ù) (fun i σ H'=>∃v,σ=[`î,some (nV (sr (ws.take i))),v]/\H'=H) ⟨none,rfl,rfl⟩ (fun i σ H' _ z=>by obtain⟨_,_,e⟩:=z;rw[e];exact aG.of a1) '0' `é
 .show `_aT;obtain⟨b,y,rfl,e,dx,nd,h1,h2⟩:=a3 i x hx;symm;refine⟨some (.ref b),?_,rfl⟩;rw[Fb,eR e];unfold sr;rw[ng];rfl
 .show `_aT;rw[aJ,a2,eT];symm;exact h
def um:Sp:=fun vs H Q _=>∃m:Nat,vs=[nV m]/\m<32/\Q (nV (sureness m)) H
def arU(T:`Ä):EQ•um:=by
 refine aoa T ?_;rintro vs H Q E ⟨m,rfl,hm,h⟩;refine `Á;unfold afd;ext;symm;have key:∀m:Fin 32,(`_N ((m.val:Nat):Int) 3=((m.val:Nat):Int))↔Vbnlak.meet m.val 28=0:=`ē;have k:=key ⟨m,hm⟩;unfold sureness at h;refine `Ā
 .rw[ay (k.mp e)]at h;symm;exact h
 .rw[aq (fun z=>e (k.mpr z))]at h;show `_bH
  .show `_bz
  .rw[aq (by omega)]at h;symm;exact h
def uq(S e:Nat):Nat:=if S&&&e=S then 2 else if S&&&e=0 then 0 else 1
def xa:Sp:=fun vs H Q _=>∃S e:Nat,vs=[nV S,nV e]/\Q (nV (uq S e)) H
def arV(T:`Ä):ER•xa:=by
 refine aob T ?_;rintro vs H Q E ⟨S,x,rfl,h⟩;refine `Á;unfold afe;ext;symm;rw[sZ];unfold uq at h;refine `Ā
 .show `_bz
 .rw[aq (by omega)]at h;show `_bH
  .show `_bz
  .rw[aq (by omega)]at h;symm;exact h
def fE(l:`À):List Int:=-1::l.map fun n:Nat=>(n:Int)
def iD(l m:`À):List (Int×Int):=(fE l).flatMap fun c=>(fE m).map fun d=>(c,d)
def Ō(l:`À):V.int (-1)::l.map nV=(fE l).map V.int:=by simp[fE,nV]
def eC.abZ{α:Type}{R:Hp->Addr->α->Prop}{H H1:Hp}{f b:Addr}{xs:`ċ}{x:α}(mo:1.80)(hf:H f=none)(h:eC R (fresh H H1) f xs)(r:R (bh (fresh H H1) f) b x):
 ∃ys,H1 f=some (.ah ys)/\`ø=`Ã/\eC R (fresh H (af H1 f (.ah (ys++[.ref b])))) f (xs++[x]):=by
 obtain⟨ys,f1,f2,f3⟩:=h.push mo r;refine⟨ys,(eP f1).2,f2,f3.aD mo fun b o eb=>?_⟩;by_cases hb:b=f
 .rw[hb,ax]at eb;rw[hb];exact dZ hf (by rw[ax];exact eb)
 .rw[au hb]at eb;obtain⟨e1,e2⟩:=eP eb;exact dZ e1 (by rw[au hb];exact e2)
def wW:Sp:=fun vs H Q _=>∃(p q:Addr)(l m:`À),vs=4.4/\H p=some (.ah 0.2)/\H q=some (.ah (m.map nV))/\`Û<=100/\m.length<=100/\∀r H',ag H H'->eC sU `_y r (iD l m)->Q `à H'
def FT{α β:Type}(f:α->List β)(n:Nat)(h:∀x,(f x).length=n):∀l:List α,(l.flatMap f).length=`Û*n
 |[]=>by simp
 |x::l=>by rw[oy,dc,h,FT f n h l,cB,DJ,Nat.add_comm]
def arH(T:`Ä):EI•wW:=by
 refine an4 T ?_;rintro vs H Q E ⟨p,q,l,m,rfl,hp,hq,l1,l2,h⟩;refine `Á;unfold ae7;show `_bN;symm;intro t1 cF;symm;have s1:=s0.trans (ag.new (o:=.ah '{') cF);refine kT ax (s1 _ _ hp) (by simp;exact bq (m:=101) `È `Æ) fun t2 jt=>?_;have s2:=s1.trans (ag.new (o:=.ah ('{'++l.map nV)) jt);have nt2:f≠t2:=aR (bB (o:=.ah '{') cF ax) jt;generalize eH:af (af (af H f `Ù) t1 (.ah '{')) t2 (.ah ('{'++l.map nV))=H2 at s2⊢;have FD:H2 t2=some (.ah ((fE l).map V.int)):=by rw[<-eH,ax,<-Ō];rfl
 have ef2:H2 f=some `Ù:=by
  rw[<-eH];exact bB jt (bB cF ax)
 symm;refine fV (xs:=(fE l).map V.int) (fun i σ H'=>∃v3 v4,σ=[`î,`Č,`ĕ,v3,v4]/\ag H H'/\H' t2=some (.ah ((fE l).map V.int))/\eC sU `_y f (((fE l).take i).flatMap fun c=>(fE m).map fun d=>(c,d))) ⟨none,none,rfl,s2,FD,eC.nil (dZ hf ef2)⟩
  (fun i σ H' _ z=>by obtain⟨_,_,_,_,e,_⟩:=z;exact aG.of e) '0' `é
 .obtain⟨v3,v4,rfl,s,e2,hw⟩:=z;rw[cG]at hx;obtain⟨c,hc,rfl⟩:=gc.mp hx;symm;intro t3 pj;symm;have s3:=s.trans (ag.new (o:=.ah '{') pj);refine kT ax (s3 _ _ hq) (by simp;exact bq (m:=101) `È `Æ) fun t4 lJ=>?_;have Ig:ag H' (af (af H' t3 (.ah '{')) t4 (.ah ('{'++m.map nV))):=(ag.new pj).trans (ag.new lJ);obtain⟨VP,Gc,_⟩:=id hw;have nt4:f≠t4:=aR (bB (o:=.ah '{') pj (eP Gc).2) lJ;generalize eH4:af (af H' t3 (.ah '{')) t4 (.ah ('{'++m.map nV))=H4 at Ig⊢;have et4:H4 t4=some (.ah ((fE m).map V.int)):=by rw[<-eH4,ax,<-Ō];rfl
  have avD:H' t4=none:=(ag.new pj).free lJ;symm;refine fV (xs:=(fE m).map V.int) (fun j σ bM=>∃v4,σ=[`î,`Č,`ĕ,some (.int c),v4]/\ag H bM/\bM t2=some (.ah ((fE l).map V.int))/\bM t4=some (.ah ((fE m).map V.int))/\eC sU (fresh H bM) f (((fE l).take i).flatMap (fun c=>(fE m).map fun d=>(c,d))++((fE m).take j).map fun d=>(c,d)))
   ⟨_,rfl,s.trans Ig,Ig _ _ e2,et4,by simpa using hw.aD pm (yN Ig)⟩ (fun i σ H' _ z=>by obtain⟨_,_,_,_,e,_⟩:=z;exact aG.of e) (fun j y σ H5 hy z=>?_) (fun σ H5 z=>?_)
  .obtain⟨v4,rfl,s5,e5,e6,nH⟩:=z;rw[cG]at hy;obtain⟨d,hd,rfl⟩:=gc.mp hy;obtain⟨VP,O2,_⟩:=id nH;have O2:=(eP O2).2;symm;intro T2 iW;have s6:ag H5 (af H5 T2 (.bb [V.int c,V.int d])):=ag.new iW;obtain⟨ys,g1,g2,g3⟩:=(nH.aD pm (yN s6)).abZ pm hf (b:=T2) (x:=(c,d)) (cJ (dZ (s5.free iW) ax) (aL (aR O2 iW)));symm;refine qC g1 ?_ ⟨_,rfl,(s5.trans s6).set hf,?_,?_,?_⟩
   .rw[g2,dc,aJ,gl,FT _ (fE m).length (fun x=>by simp),gl];have h1:(fE l).length<=101:=by simp[fE];omega
    have h2:(fE m).length<=101:=by simp[fE];omega
    have h3:min i (fE l).length*(fE m).length<=101*101:=uX `È h2;exact oF (m:=10302) `È `Æ
   .have e5':=s6 _ _ e5;rw[au (aL nt2)];exact e5'
   .rw[au (aL nt4)];exact s6 _ _ e6
   .rw[eR hd,eY,<-jz];exact g3
  .obtain⟨v4,rfl,s5,e5,e6,nH⟩:=z;rw[aJ,eT]at nH;refine⟨_,_,rfl,s5,e5,?_⟩;rw[eR hc,uP];simpa using nH
 .obtain⟨v3,v4,rfl,s,e2,hw⟩:=z;rw[aJ,eT]at hw;symm;exact h f H' s hw
def cS(ch:`Ĕ)(x:Int):List Nat:=if x=-1 then []else ch x.toNat
def me(l:`À)(x:Int):Prop:=x=-1\/∃c∈l,x=(c:Int)
def ň{l:`À}{x:Int}(h:x∈fE l):me l x:=by
 rcases bE.mp h with e|e
 .exact .inl e
 .obtain⟨c,hc,rfl⟩:=cw.mp e;exact .inr ⟨c,hc,rfl⟩
def wQ(K:Frag):Sp:=fun vs H Q _=>∃(t p:Addr)(l:`À)(ρ:`Ø)(ch:`Ĕ)(c d:Int),vs=[.ref t,.ref p]/\bF K H t [.int c,.int d]/\qN H p l ρ ch/\me l c/\me l d/\(∀c∈l,(ch c).length<=1000)/\
 ∀r H',ag H H'->H r=none->H' r=some (.ah ((3.8).map nV))->Q `à H'
def arp(T:`Ä):EB•wQ K:=by
 refine anW T ?_;rintro vs H Q E ⟨t,p,l,ρ,ch,c,d,rfl,ht,hC,hc,hd,hl,h⟩;refine `Á;unfold aeZ;show `_bN;symm;refine B_ (s0.iE ht) ?_;have ľ:∀x,me l x->(cS ch x).length<=1000:=fun x hx=>by
  unfold cS;rcases hx with rfl|⟨c,hc,rfl⟩
  .simp
  .rw[aq (by omega),eB];exact hl c hc
 refine aaf (xs:=[.int c,.int d]) (fun i σ H'=>∃v,σ=[`_P,`î,`ĕ,v]/\ag H H'/\H' f=some (.ah ((([c,d].take i).flatMap (cS ch)).map nV))) ⟨none,rfl,s0,ax⟩ (fun i σ H' _ z=>by obtain⟨_,_,s,_⟩:=z;exact s.iE ht) '0' `é
 .obtain⟨v,rfl,s,e⟩:=z;have rX:∃y,([c,d]:List Int)[i]? =some y/\x=.int y/\me l y/\i<2:=by
   match i,hx with
   |0,hx=>exact⟨c,rfl,'$',hc,`Å⟩
   |1,hx=>exact⟨d,rfl,'$',hd,`Å⟩
   |n+2,hx=>simp at hx
  obtain⟨y,hy,rfl,o8,O5⟩:=rX;have et:([c,d].take (i+1)).flatMap (cS ch)=([c,d].take i).flatMap (cS ch)++cS ch y:=by rw[eR hy,uP];simp
  symm;rcases o8 with rfl|⟨n,hn,rfl⟩
  .refine nJ ?_;symm;refine⟨_,rfl,s,?_⟩;rw[et];simpa [cS]using e
  .have ne:¬((n:Int)=-1):=`Å;refine FA (fun _=>?_) fun z=>absurd z ne;have Y5:=hC.aD s;symm;refine eJ Y5.dict (oR hn) ?_;symm;refine B0 e (Y5.row n hn) ?_ ⟨_,rfl,s.set hf,?_⟩
   .rw[aJ,aJ];have h1:=hl n hn;have h2:(([c,d].take i).flatMap (cS ch)).length<=2000:=by
     have cr:=ľ c hc;have b0:=ľ d hd
     match i,O5 with
     |0,_=>simp
     |1,_=>simp;omega
    exact bq (m:=3000) `È `Æ
   .rw[ax,et,eY];have eu:cS ch (n:Int)=ch n:=by unfold cS;rw[aq ne,eB]
    rw[eu]
 .obtain⟨v,rfl,s,e⟩:=z;symm;refine h f H' s hf ?_;rw[e];simp
def jG(ch:`Ĕ)(x:Int×Int):List Nat:=cS ch x.1++cS ch x.2
def aje(l:`ì)(x:`À)(f:`Ě):aT (l++[x]) f=aT l f|||(3.54):=by
 apply Lf;intro i;rw[Nat.testBit_or,lz,lz];by_cases h:i<`Û
 .rw[mh h];have e:(3.54).testBit i=false:=by
   split
   .rw[Nat.testBit_two_pow];simp;omega
   .simp
  rw[e,Bool.or_false]
 .by_cases h2:i=`Û
  .subst h2;rw[oz (bp _),uZ,uQ (bp _)];cases hfx:f x<;>simp[hfx]
  .rw[uQ (by simp;omega),uQ (by omega)];have e:(3.54).testBit i=false:=by
    split
    .rw[Nat.testBit_two_pow];simp;omega
    .simp
   rw[e];rfl
def wD(K:Frag):Sp:=fun vs H Q _=>∃(pp p:Addr)(pairs:`_2)(l:`À)(ρ:`Ø)(ch:`Ĕ),vs=[.ref pp,.ref p]/\eC sU H pp pairs/\H p=some '<'/\3.16/\
 l.Nodup/\(∀x∈pairs,me l x.1/\me l x.2)/\(∀c∈l,(ch c).length<=1000/\∀x∈ch c,x∈l)/\`Û<=1000/\pairs.length<=1000000/\
 ∀r H',ag H H'->H r=none->H' r=some (.dK (aB l fun c=>nV (cq (pairs.map (jG ch)) c)))->Q `à H'
def aq0(T:`Ä)(G:EB•wQ K):Em•wD K:=by
 refine anF T `Â ?_;rintro vs H Q E ⟨pp,p,pairs,l,ρ,ch,rfl,vL,hp,js,nd,o8,iX,ll,ō,h⟩;obtain⟨as,a1,a2,a3⟩:=vL.at pm;refine `Á;unfold aeI;ext;symm;intro f hf;symm;have zA:p≠f:=aR hp hf;refine vU (d:=p) (u:=.dK 2.56) (bB hf hp) trivial fun od=>?_;symm;refine B9 ax ?_;refine B6 (fun i σ H'=>∃v3,σ=[some (.ref pp),`î,`ĕ,v3,none,none]/\H'=af (af (af H f `ü) p (.aN od '<')) f (.dK (aB (l.take i) fun _=>nV 0))) ⟨none,rfl,?_⟩ (fun i σ H' _ z=>?_) 2.38 `é
 .funext b
  by_cases hb:b=f
  .rw[hb,ax,au (aL zA),ax];rfl
  .rw[au hb]
 .obtain⟨_,_,rfl⟩:=z;rw[au zA,ax]
 .obtain⟨v3,rfl,rfl⟩:=z;rw[cG]at hk;obtain⟨c,hc,e⟩:=gc.mp hk;cases e;symm;show Qp _ _ _ `æ (.int (c:Int)) _;refine nR ax (by rw[eU,gl];exact kl `È) ⟨0.0,rfl,?_⟩;rw[jj,eR hc];congr 2;refine tq (c:=c) ?_ rfl;intro hm;obtain⟨j,hj⟩:=sQ hm;have o9:j<i:=by
   have:=(dM.mp hj).1;rw[gl]at this;omega
  rw[Dx o9]at hj;have:=(List.getElem?_inj (by have:=(dM.mp hj).1;exact this) nd).mp (hj.trans hc.symm);omega
 .obtain⟨v3,rfl,rfl⟩:=z;rw[show(aB l fun c=>V.ref (ρ c)).length=l.length from eU,eT];refine⟨by rw[au zA,ax],?_⟩;generalize eH:af (af (af (af H f `ü) p (.aN od '<')) f (.dK (aB l fun _=>nV 0))) p '<'=H1;have s1:ag H H1:=fun b o e=>by
   rw[<-eH];by_cases hb:b=p
   .rw[hb,ax];rw[hb,hp]at e;exact e
   .rw[au hb,au (aR e hf),au hb,au (aR e hf)];exact e
  have f1:H1 f=some (.dK (aB l fun _=>nV 0)):=by rw[<-eH,au (aL zA),ax]
  have VF:=s1 _ _ a1;symm;refine Hj (xs:=`ù) (fun i σ H'=>∃v3 v4 v5,σ=[some (.ref pp),`î,`ĕ,v3,v4,v5]/\ag H H'/\H' f=some (.dK (aB l fun c=>nV (cq ((pairs.map (jG ch)).take i) c)))) ⟨v3,none,none,rfl,s1,by rw[f1];rfl⟩ (fun i σ H' _ z=>by obtain⟨_,_,_,_,s,_⟩:=z;exact aG.of (s _ _ a1)) (fun i x σ H' T1 hx z iO=>?_) `é
  .obtain⟨v3,v4,v5,rfl,s,e⟩:=z;obtain⟨b,⟨c,d⟩,rfl,ex,hb⟩:=a3 i x hx;obtain⟨ic,ZX⟩:=o8 _ (cN ex);have hi:i<pairs.length:=(dM.mp ex).1;refine 2.9;show `_an;have s2:=s.trans (ag.new (o:=.bb 1.24) iO);have e2:=bB (o:=.bb 1.24) iO e;generalize af H' T1 (.bb 1.24)=H2 at s2 e2⊢;symm;refine⟨b,p,l,ρ,ch,c,d,rfl,bF.of (s2 _ _ hb),⟨.inl (s2 _ _ hp),fun c hc=>s2 _ _ (js c hc)⟩,ic,ZX,fun c hc=>(iX c hc).1,fun r H3 s3 hr er=>?_⟩;have mem:∀y∈cS ch c++cS ch d,y∈l:=by
    have one:∀z,me l z->∀y∈cS ch z,y∈l:=fun z hz y hy=>by
     unfold cS at hy;rcases hz with rfl|⟨n,hn,rfl⟩
     .simp at hy
     .rw[aq (by omega),eB]at hy;exact(iX n hn).2 y hy
    intro y hy;rcases cK.mp hy with hy|hy
    .exact one c ic y hy
    .exact one d ZX y hy
   have S3:=s2.trans s3;have e3:=s3 _ _ e2;have nfr:r≠f:=aL (aR e2 hr);symm;refine fV (xs:=(3.8).map nV) (fun j σ H'=>∃v3,σ=[some (.ref pp),`î,`ĕ,v3,some (.int 0.66),some (.ref b)]/\ag H H'/\H' r=some (.ah ((3.8).map nV))/\
    H' f=some (.dK (aB l fun y=>nV (cq ((pairs.map (jG ch)).take i) y|||(if y∈(3.8).take j then 2^i else 0)))))
    ⟨v3,rfl,S3,er,by rw[e3];simp⟩ (fun i σ H' _ z=>by obtain⟨_,_,_,e,_⟩:=z;exact aG.of e) (fun j y σ H4 hy z=>?_) (fun σ H4 z=>?_)
   .obtain⟨v3,rfl,s4,r4,f4⟩:=z;obtain⟨y,ey,rfl⟩:=jc hy;have ş:=mem y (cN ey);symm;refine eJ (.inl f4) (oR ş) ?_;symm;refine B8 ⟨`Å,`Å,`Ĝ⟩ ?_;symm;refine nR f4 (by rw[eU];exact kl ll) ⟨some (nV y),rfl,s4.set hf,by rw[au nfr];exact r4,?_⟩;rw[ax];congr 2;have akX:(1:Int)*2^((i:Nat):Int).toNat=((2^i:Nat):Int):=by rw[eB];simp
    rw[akX,Fb];refine(X' ş).trans (oS fun z hz=>?_);rw[eR ey];by_cases Pw:z=y
    .subst Pw;have hm2:z∈take j (3.8)++[z]:=oA _ (ku.mpr rfl);simp only[ay hm2,nI];congr 1;by_cases h0:z∈take j (3.8)
     .simp only[ay h0];rw[Nat.or_assoc,Nat.or_self]
     .simp only[aq h0];rw[Nat.or_zero]
    .rw[aq Pw];have:(z∈take j (3.8)++[y])↔z∈take j (3.8):=by simp[Pw]
     simp only[this]
   .obtain⟨v3,rfl,s4,r4,f4⟩:=z;rw[aJ,eT]at f4;refine⟨_,_,_,rfl,s4,?_⟩;rw[f4];congr 2;refine oS fun y hy=>?_;have YE:(pairs.map (jG ch))[i]? =some (3.8):=by rw[cG,ex];rfl
    rw[eR YE];unfold cq;rw[aje];have hlen:((pairs.map (jG ch)).take i).length=i:=by rw[gl,aJ];omega
    rw[hlen];simp only[m_]
  .obtain⟨v3,v4,v5,rfl,s,e⟩:=z;rw[aJ,a2,show pairs.length=(pairs.map (jG ch)).length by simp,eT]at e;symm;exact h f H' s hf e
structure gZ(a:aj)(H:Hp)(p:Addr)(tx l:List Nat)(ch:Nat->List Nat)(ds:List Nat):Prop where
 ex:∃(dx pt pc pd:Addr)(ρ:`Ø),H p=some (.ins a.gm dx 3.47)/\H pt=some (.ah (tx.map nV))/\H pc=some '<'/\3.16/\H pd=some (.ah (ds.map nV))
def gZ.aD{a:aj}{H H':Hp}{p:Addr}{tx l:`À}{ch:`Ĕ}{ds:`À}(h:gZ a H p tx l ch ds)(s:`Ć):gZ a H' p tx l ch ds:=by
 obtain⟨dx,pt,pc,pd,ρ,h1,h2,h3,h4,h5⟩:=h.ex;exact⟨dx,pt,pc,pd,ρ,s _ _ h1,s _ _ h2,s _ _ h3,fun c hc=>s _ _ (h4 c hc),s _ _ h5⟩
def rm(l:`À)(ch e_:`Ĕ)(c:Nat):List Nat:=if c∈l then ch c else e_ c
def Ŋ(l:`À):(fE l).length=`Û+1:=by simp[fE]
def HE(l m:`À):(iD l m).length=(`Û+1)*(m.length+1):=by
 unfold iD;rw[FT _ (fE m).length (fun x=>by simp),Ŋ,Ŋ]
def asx{l m:`À}{x:Int×Int}(h:x∈iD l m):me l x.1/\me m x.2:=by
 unfold iD at h;obtain⟨c,hc,h⟩:=uU.mp h;obtain⟨d,hd,rfl⟩:=cw.mp h;exact⟨ň hc,ň hd⟩
def me.sub{l m:`À}{x:Int}(h:me l x)(s:∀c∈l,c∈m):me m x:=h.elim .inl fun⟨c,hc,e⟩=>.inr ⟨c,s c hc,e⟩
def sC(a:aj):Sp:=fun vs H Q _=>∃(g dx p0 p1:Addr)(uw ux l m:`À)(ch e_:`Ĕ)(ds es:`À),vs=[.ref g,.ref p0,.ref p1]/\H g=some (.ins a.gP dx [])/\gZ a (bh H g) p0 uw l ch ds/\gZ a (bh H g) p1 ux m e_ es/\
 p0≠p1/\(l++m).Nodup/\`Û<=100/\m.length<=100/\ds.length<=100/\es.length<=100/\(∀c∈ds,c∈l)/\(∀c∈es,c∈m)/\(∀c∈l,(ch c).length<=1000/\∀x∈ch c,x∈l)/\(∀c∈m,(e_ c).length<=1000/\∀x∈e_ c,x∈m)/\
 ∀H',ag (bh H g) H'->ij a (fresh (bh H g) H') g (iD ds es) 2.10 (l++m)->Q .aX H'
def aqk(T:`Ä)(G1:EI•wW)(G2:Em•wD K):D8•sC a:=by
 refine amN T `Â `Â ?_;rintro vs H Q E ⟨g,dx,p0,p1,uw,ux,l,m,ch,e_,ds,es,rfl,hg,⟨dx0,pt0,pc0,pd0,ρ,q1,q2,q3,q4,q5⟩,⟨dx1,pt1,pc1,pd1,τ,r1,r2,r3,r4,r5⟩,np,nd,ll,lm,ld,le,O0,hes,hl,hm,h⟩;have cg:bh H g g=none:=Fo;have q1':=ve _ _ q1;have r1':=ve _ _ r1;refine `Á;unfold ad8;ext;symm;refine⟨pd0,pd1,ds,es,rfl,ve _ _ q5,ve _ _ r5,ld,le,fun pp H1 s1 vL=>?_⟩;have hg1:=s1 _ _ hg;obtain⟨as,w1,w2,w3⟩:=id vL;obtain⟨Hpp,w1'⟩:=eP w1;have npp:pp≠g:=aL (aR hg Hpp);have c1:ag (bh H g) (bh H1 g):=Fn s1;symm;generalize e2:af H1 g (.ins a.gP dx (bi (1.0 "pairs") (.ref pp) []))=H2;have c2:ag (bh H1 g) H2:=fun b o e=>by
  obtain⟨h1,h2⟩:=eS e;rw[<-e2,au h2];exact h1
 have hg2:H2 g=some (.ins a.gP dx [("pairs",.ref pp)]):=by rw[<-e2,ax];rfl
 have w2':H2 pp=some ']':=by rw[<-e2,au npp];exact w1'
 symm;refine B8 ⟨`Å,?_,`Ĝ⟩ ?_
 .rw[aJ,w2,HE];have:(ds.length+1)*(es.length+1)<=101*101:=uX `È `È;omega
 symm;generalize e3:af H2 g _=H3;have c3:ag (bh H1 g) H3:=fun b o e=>by
  rw[<-e3,au (eS e).2];exact c2 _ _ e
 have hW:(1:Int)*2^(((`ù).length:Nat):Int).toNat-1=((aT 2.10 fun _=>true:Nat):Int):=by
  have:=ajd 2.10;rw[aJ,<-w2]at this;rw[eB,aJ,Int.one_mul];have e:((2^`_d:Nat):Int)=(2:Int)^`_d:=`Õ;rw[<-e];omega
 have hg3:H3 g=some (.ins a.gP dx [("pairs",.ref pp),("whole",nV (aT 2.10 fun _=>true))]):=by
  rw[<-e3,ax];show some (HO.ins a.gP dx [("pairs",V.ref pp),("whole",V.int ((1:Int)*2^(((`ù).length:Nat):Int).toNat-1))])=_;rw[hW]
 have C3:ag (bh H g) H3:=c1.trans c3;have q13:=C3 _ _ q1;have r13:=C3 _ _ r1;have q33:=C3 _ _ q3;have r33:=C3 _ _ r3;have w13:H3 pp=some ']':=c3 _ _ (cJ w1' npp);symm;intro qd Bv;have c4:=C3.trans (ag.new (o:=.dK 2.56) Bv);have q14:=bB (o:=.dK 2.56) Bv r13;symm;refine⟨pc1,_,_,rfl,aL (aR r33 Bv),ax,.inl (bB Bv r33),?_,?_,?_⟩
 .rw[eU,eU];exact bq (m:=200) `È `Æ
 .have:((aB l fun c=>V.ref (ρ c))++aB m fun c=>V.ref (τ c)).map (·.1)=(l++m).map kN:=by rw[eY,eY,bP,bP];rfl
  rw[this];exact DE.mpr (nd.imp fun hn e=>hn (GM e))
 rw[jj];have vA:(aB l fun c=>V.ref (ρ c))++(aB m fun c=>V.ref (τ c))=aB (l++m) fun c=>.ref 2.19:=by
  rw[show aB (l++m) (fun c=>V.ref (if c∈l then ρ c else τ c))=aB l (fun c=>V.ref (if c∈l then ρ c else τ c))++aB m (fun c=>V.ref (if c∈l then ρ c else τ c))from eY ..];congr 1
  .exact oS fun c hc=>by rw[ay hc]
  .refine oS fun c hc=>?_;rw[aq fun hl=>(p7.mp nd).2.2 c hl c hc rfl]
 rw[vA];generalize e5:af H3 qd (.dK (aB (l++m) fun c=>.ref 2.19))=H5;have ua:ag H3 H5:=by rw[<-e5];exact ag.new Bv
 have Zt:=ua _ _ hg3;have w15:=ua _ _ w13;have hq5:H5 qd=some (.dK (aB (l++m) fun c=>.ref 2.19)):=by rw[<-e5,ax]
 have alY:eC sU H5 pp (iD ds es):=by
  refine(eC.aD pm vL fun b o e=>?_).aD pm (c3.trans ua);obtain⟨x1,x2⟩:=eP e;exact cJ x2 (aL (aR hg x1))
 have rows:∀c∈l++m,H5 2.19=some (.ah ((rm l ch e_ c).map nV)):=fun c hc=>by
  unfold rm;by_cases cD:c∈l
  .rw[ay cD,ay cD];exact ua _ _ (C3 _ _ (q4 c cD))
  .rw[aq cD,aq cD];exact ua _ _ (C3 _ _ (r4 c ((cK.mp hc).resolve_left cD)))
 symm;refine⟨pp,qd,_,_,_,rm l ch e_,rfl,alY,hq5,rows,nd,`_n,fun c hc=>?_,by rw[dc];omega,?_,fun ee H6 s6 he e6=>?_⟩
 .obtain⟨x1,x2⟩:=asx hx;exact⟨x1.sub fun c hc=>K1 _ (O0 c hc),x2.sub fun c hc=>oA _ (hes c hc)⟩
 .unfold rm;by_cases cD:c∈l
  .rw[ay cD];exact⟨(hl c cD).1,fun x hx=>K1 _ ((hl c cD).2 x hx)⟩
  .rw[aq cD];have nE:=(cK.mp hc).resolve_left cD;exact⟨(hm c nE).1,fun x hx=>oA _ ((hm c nE).2 x hx)⟩
 .rw[HE];have:(ds.length+1)*(es.length+1)<=101*101:=uX `È `È;omega
 have hg6:=s6 _ _ Zt;symm;have neg:ee≠g:=aL (aR Zt he);have c6:ag (bh H g) (bh H6 g):=fun b o e=>cJ (s6 _ _ (ua _ _ (C3 _ _ e))) (eS e).2;refine h _ (fun b o e=>by rw[au (eS e).2];exact(eS (c6 _ _ e)).1) ⟨dx,pp,ee,dZ cg (by rw[ax];rfl),?_,dZ ?_ (by rw[au neg];exact e6)⟩
 .refine eC.aD pm vL fun b o e=>?_;obtain⟨x1,x2⟩:=eP e;have nb:b≠g:=aL (aR hg x1);refine dZ (by rw[lB nb];exact x1) ?_;rw[au nb];exact s6 _ _ (ua _ _ (c3 _ _ (cJ x2 nb)))
 .have:H3 ee=none:=ua.free he;exact C3.free this
def sy(S:Nat)(pairs:`_2):List (Int×Int):=(`ó pairs.length).filterMap fun i=>if S.testBit i=true then pairs[i]? else none
def ai9(S i:Nat):(`_N ((S:Int)/2^((i:Nat):Int).toNat) 1 !=0)=S.testBit i:=by
 rw[eB];have e:(S:Int)/2^i=((S/2^i:Nat):Int):=`Õ;rw[e,show(1:Int)=((1:Nat):Int)from rfl,sZ,Nat.and_one_is_mod,Nat.testBit_eq_decide_div_mod_eq];have:S/2^i % 2=0\/S/2^i % 2=1:=`Å;rcases this with h|h<;>rw[h]<;>rfl
def adh(a:aj):Sp:=fun vs H Q _=>∃(g:Addr)(S:Nat)(pairs:`_2)(cs:`ì)(aw:`À),vs=[.ref g,nV S]/\ij a H g pairs cs aw/\pairs.length<=100000/\
 ∀r H' xs,ag H H'->H' r=some `Ē->`Ã=(sy S pairs).length->(∀(i:Nat)(x:V),xs[i]? =some x->∃b c d,x=.ref b/\(sy S pairs)[i]? =some (c,d)/\H b=some (.bb [.int c,.int d]))->Q `à H'
def YR{α β γ:Type}(f:α->Option β)(g:α->Option γ)(R:β->γ->Prop):∀l:List α,(∀x∈l,(f x=none/\g x=none)\/∃y z,f x=some y/\g x=some z/\R y z)->(l.filterMap f).length=(l.filterMap g).length/\∀(i:Nat)(y:β),(l.filterMap f)[i]? =some y->∃z,(l.filterMap g)[i]? =some z/\R y z
 |[],_=>⟨rfl,fun i y e=>by simp at e⟩
 |x::l,h=>by
  obtain⟨i1,i2⟩:=YR f g R l fun x hx=>h x (by simp[hx]);rw[gD,gD];rcases h x `Ç with⟨h1,h2⟩|⟨y,z,h1,h2,r⟩
  .rw[h1,h2];exact⟨i1,i2⟩
  .rw[h1,h2];refine⟨by simp[i1],fun i y' e=>?_⟩;cases i with
   |zero=>simp at e;subst e;exact⟨z,rfl,r⟩
   |succ j=>simp at e;simpa using i2 j y' e
def arq(T:`Ä):D9•adh a:=by
 refine amO T ?_;rintro vs H Q E ⟨g,S,pairs,cs,aw,rfl,⟨dx,pp,ee,hg,vL,he⟩,ō,h⟩;obtain⟨as,a1,a2,a3⟩:=vL.at pm;refine `Á;unfold ad9;ext;symm;refine BQ as.length (fun i=>if S.testBit i=true then(`ù)[i]? else none) (by rw[a2];exact bq ō `Æ) (fun i H' hi s=>⟨`ù,(`ù)[i]'(by simpa using hi),aG.of (s _ _ a1),by simp[hi]⟩) (fun H' s=>⟨`ù,aG.of (s _ _ a1),`Õ⟩) (fun i x H' bM hi s y R1 R0 h1 h0=>?_) (fun D H' hD s e=>?_)
 .obtain⟨T1,v,rfl,iO,rfl,hv⟩:=y;have hv:=hv _ (aG.of (s _ _ a1));rw[hv]at h1 h0;show `_bb;refine B8 `È ?_;symm;refine aap ?_;rw[ai9];refine `_j
  .symm;exact h1 _ _ (ay e) (ag.new iO)
  .exact h0 _ (aq (by rw[e];decide)) (ag.new iO)
 .obtain⟨k1,k2⟩:=YR (fun i=>if S.testBit i=true then(`ù)[i]? else none) (fun i=>if S.testBit i=true then pairs[i]? else none) (fun x y=>∃b,x=.ref b/\H b=some (.bb [.int y.1,.int y.2])) (`ó `_d) fun i hi=>by
   have vD:i<`_d:=by simpa using hi
   by_cases hb:S.testBit i=true
   .refine .inr ?_;obtain⟨b,y,e1,e2,e3⟩:=a3 i (.ref as[i]) (by simp[vD]);exact⟨_,y,by rw[ay hb];simp[vD],by rw[ay hb];exact e2,b,e1,e3⟩
   .exact .inl ⟨aq hb,aq hb⟩
  refine h D H' _ s e (by rw[k1];unfold sy;rw[a2]) fun i x ex=>?_;obtain⟨⟨c,d⟩,z1,b,z2,z3⟩:=k2 i x ex;exact⟨b,c,d,z2,by unfold sy;rw[<-a2];exact z1,z3⟩
def Sa{α β:Type}(g:α->Option β):∀l:List α,((`ó `Û).filterMap fun i=>(l[i]?).bind g)=l.filterMap g
 |[]=>rfl
 |x::l=>by
  rw[cB,uV,gD,KR];have:=Sa g l;simp only[xK,LB,gD];cases g x<;>simpa [Ae]using this
def Qm(b:Nat):∀(rs:`_J)(k:Nat)(above:`À),(TM.mk b k above rs).map (·.number)=(`ó `ç).map fun i=>b+k+i
 |[],_,_=>rfl
 |r::rs,k,above=>by
  show(b+k)::(TM.mk b (k+1) _ rs).map (·.number)=_;rw[Qm b rs,cB,uV,cY,bP];congr 1;refine iG fun i _=>?_;show b+(k+1)+i=b+k+(i+1);omega
def aoT(b:Nat)(rs:`_J)(r:TM.bX):TM.mk b 0 [] (rs++[r])=TM.mk b 0 [] rs++[{number:=b+`ç,name:=r.2.1,chain:=(b+`ç)::(TM.after b 0 [] rs).drop ((TM.after b 0 [] rs).length-r.1),whole:=r.2.2}]:=by
 rw[TM.G9,DK];rfl
def L5(b:Nat):∀(rs:`_J)(r:TM.bX)(k:Nat)(above:`À),TM.after b k above (rs++[r])=(b+(k+`ç))::(TM.after b k above rs).drop ((TM.after b k above rs).length-r.1)
 |[],r,k,above=>rfl
 |x::rs,r,k,above=>by
  show TM.after b (k+1) _ (rs++[r])=_;rw[L5 b rs r];show(b+(k+1+`ç))::_=(b+(k+(`ç+1)))::_;have:k+1+`ç=k+(`ç+1):=`Å;rw[this];rfl
def dP(l:List Vbnlak.Concept)(c:Nat):List Nat:=match l.find? fun x=>`Ó==c with
 |some x=>x.chain
 |none=>[]
def aw(l:List Vbnlak.Concept):List Nat:=l.map (·.number)
def yt{l:List Vbnlak.Concept}(nd:(aw l).Nodup){x:Vbnlak.Concept}(h:x∈l):dP l `Ó=x.chain:=by
 unfold dP;have:l.find? (fun y=>y.number==`Ó)=some x:=by
  induction l with
  |nil=>cases h
  |cons y l ih=>
   rw[qW];have zr:(aw l).Nodup:=(jB.mp nd).2;rcases bE.mp h with e|h
   .subst e;simp
   .have:(y.number==`Ó)=false:=by
     rw[gO];intro e;have hm:`Ó∈aw l:=gu h;rw[<-e]at hm;exact(jB.mp nd).1 hm
    rw[this];exact ih zr h
 rw[this]
def Ql(b:Nat)(rs:`_J):(aw (TM.mk b 0 [] rs)).Nodup:=by
 unfold aw;rw[Qm];exact DE.mpr (List.nodup_range.imp fun h e=>h `È)
def wv(a:aj):Sp:=fun vs H Q _=>∃(s:Nat)(q:Addr)(rows:`_J),vs=[nV s,.ref q]/\s<=1/\ms a H q rows/\TM.jl 0 rows/\`_I<=8/\
 ∀(p:Addr)(ρ:`Ø)(H':Hp),ag H H'->fresh H H' p=some 0.38->(∀x∈TM.mk (100*s) 0 [] rows,fresh H H' (ρ `Ó)=some (.ah (x.chain.map nV)))->Q `Ü H'
def aqP(T:`Ä):Ee•wv a:=by
 refine anw T ?_;rintro vs H Q E ⟨s,q,rows,rfl,hs,⟨as,a1,a2,a3⟩,deep,l8,h⟩;refine `Á;unfold aeB;ext;symm;intro f hf;symm;intro o ho;have s0:ag H (af (af H f `ü) o `Ù):=(ag.new hf).trans (ag.new ho);have nof:o≠f:=aL (aR ax ho);have Ho:H o=none:=by rw[au nof]at ho;exact ho
 have VF:=s0 _ _ a1;symm;refine Hj (xs:=`ù) (fun i σ H'=>∃(oc:Addr)(ρ:`Ø)(v4 v5 v6 v7:Option V),σ=[some (nV s),`Č,`ĕ,some (.ref oc),v4,v5,v6,v7]/\ag H H'/\H' f=some (.dK (aB (aw 3.44) fun c=>.ref (ρ c)))/\
  (∀x∈TM.mk (100*s) 0 [] (rows.take i),fresh H H' (ρ `Ó)=some (.ah (x.chain.map nV)))/\fresh H H' oc=some (.ah ((2.5).map nV)))
  ⟨o,fun _=>0,none,none,none,none,rfl,s0,by rw[au (aL nof),ax];rfl,by simp[TM.mk],dZ Ho (by rw[ax];rfl)⟩ (fun i σ H' _ z=>by obtain⟨_,_,_,_,_,_,_,s,_⟩:=z;exact aG.of (s _ _ a1)) (fun i x σ H' T1 hx z iO=>?_) `é
 .obtain⟨oc,ρ,v4,v5,v6,v7,rfl,s1,e1,e2,e3⟩:=z;obtain⟨b,eb,rfl⟩:=CJ hx;obtain⟨row,er,Yg,nm,hr,yX,_⟩:=a3 i b eb;have hi:i<`_I:=(dM.mp er).1;have hlen:(rows.take i).length=i:=by rw[gl];omega
  have dp:row.1<=(2.5).length:=by
   obtain⟨xs,ys,e,el⟩:=TM.SO er;have ht:rows.take i=xs:=by rw[e,<-el];simp
   rw[e]at deep;obtain⟨m',hm,em⟩:=TM.MV xs row ys 0 deep;have al:=TM.L4 (100*s) xs 0 [] (TM.MW _ _ _ deep);rw[ht,al];have:=hm.1;rw[em]at this;simpa using this
  refine 2.9;show `_an;have s2:ag H' (af H' T1 (.bb 1.24)):=ag.new iO;generalize af H' T1 (.bb 1.24)=H2 at s2⊢;have iB:=s2 _ _ (s1 _ _ hr);obtain⟨Hoc,kJ⟩:=eP e3;have oc2:=s2 _ _ kJ;have f2:=s2 _ _ e1;symm;refine B8 (.inr ⟨`Ĝ,`Ĝ⟩) ?_;symm;intro ab jJ;rw[aJ];have akU:(((2.5).length:Nat):Int)-((row.1:Nat):Int)=(((2.5).length-row.1:Nat):Int):=`Å;rw[akU,Mz];symm;intro t1 cF;symm;refine kT ax (bB cF ax) ?_ fun t2 jt=>?_
  .rw[List.length_singleton,aJ,qY];have:(2.5).length<=10:=by
    have al:∀(b:Nat)(xs:`_J)(k:Nat)(ab:`À),(TM.after b k ab xs).length<=ab.length+`Ã:=by
     intro b xs
     induction xs with
     |nil=>intro k ab;exact bp _
     |cons x xs ih=>
      intro k ab;refine bq (ih (k+1) _) ?_;simp;omega
    have:=al (100*s) (rows.take i) 0 [];rw[hlen]at this;simp at this;omega
   exact bq (m:=11) `È `Æ
  have S2:ag H2 (af (af (af H2 ab (.ah (map nV (List.drop ((2.5).length-row.1) (2.5))))) t1 (.ah [V.int ((s:Int)*100+(i:Int))])) t2 (.ah ([V.int ((s:Int)*100+(i:Int))]++map nV (List.drop ((2.5).length-row.1) (2.5))))):=
   ((ag.new jJ).trans (ag.new cF)).trans (ag.new jt)
  generalize eH3:af (af (af H2 ab _) t1 _) t2 _=H3 at S2⊢;have UR:H2 t2=none:=((ag.new jJ).trans (ag.new cF)).free jt;have t23:H3 t2=some (.ah ((TM.after (100*s) 0 [] (rows.take (i+1))).map nV)):=by
   rw[<-eH3,ax,eR er,L5];congr 2;rw[cY,hlen];show V.int _::_=V.int _::_;congr 2;omega
  have f3:=S2 _ _ f2;symm;have enum:(s:Int)*100+(i:Int)=((100*s+i:Nat):Int):=`Å;rw[enum];have nf:t2≠f:=aL (aR f2 UR);have US:H t2=none:=s1.free (s2.free UR);have S3:ag H H3:=(`_l).trans S2;have keep:∀(b:Addr)(xs:List V)(X:HO),fresh H H' b=some `Ē->fresh H (af H3 f X) b=some `Ē:=fun b xs X e=>by
   obtain⟨x1,x2⟩:=eP e;refine dZ x1 ?_;rw[au (dG x2 e1 (by intro z;cases z))];exact S2 _ _ (s2 _ _ x2)
  have M7:=aoT (100*s) (rows.take i) row;rw[<-eR er,hlen]at M7;have enums:aw (TM.mk (100*s) 0 [] (rows.take (i+1)))=aw 3.44++[100*s+i]:=by
   rw[M7];unfold aw;rw[eY];rfl
  have Pb:100*s+i∉aw 3.44:=by
   have:=Ql (100*s) (rows.take (i+1));rw[enums]at this;intro hm;exact(p7.mp this).2.2 _ hm _ (ku.mpr rfl) rfl
  refine nR f3 ?_ ⟨t2,fun c=>if c=100*s+i then t2 else ρ c,some (nV i),some (.ref b),some (nV (100*s+i)),some (.ref ab),?_,S3.set hf,?_,`_n,?_⟩
  .rw[eU];unfold aw;rw[aJ,TM.mE,hlen];exact kl `È
  .rfl
  .rw[ax,enums];congr 2;refine Eq.trans ?_ (tq (g:=fun c=>V.ref (if c=100*s+i then t2 else ρ c)) Pb (by rw[ay rfl]));congr 1;refine oS fun c hc=>?_;have hz:¬c=100*s+i:=fun z=>Pb (by rw[<-z];exact hc);simp only[aq hz]
  .rw[M7]at hx;show `_bt
   .have cQ:`Ó≠100*s+i:=fun z=>Pb (by rw[<-z];exact gu hx);simp only[aq cQ];exact keep _ _ _ (e2 x hx)
   .have:x=_:=ku.mp hx;subst this;simp only[nI];refine dZ US ?_;rw[au nf,t23,eR er,L5,hlen,DK]
  .exact dZ US (by rw[au nf];exact t23)
 .obtain⟨oc,ρ,v4,v5,v6,v7,rfl,s1,e1,e2,e3⟩:=z;rw[aJ,a2,eT]at e1 e2;symm;exact h f ρ H' s1 (dZ hf e1) e2
def du(l:List Vbnlak.Concept):List Nat:=(l.filter fun c=>!c.whole).map (·.number)
def mO(a:aj):Sp:=fun vs H Q _=>∃(p dx pt q:Addr)(s:Nat)(rows:`_J),vs=[.ref p,nV s,.ref pt,.ref q]/\s<=1/\H p=some (.ins a.gm dx [])/\ms a `ę q rows/\TM.jl 0 rows/\`_I<=8/\
 ∀(pc pd:Addr)(ρ:`Ø)(H':Hp),ag `ę H'->H' p=some (.ins a.gm dx 3.47)->fresh `ę H' pc=some 0.38->
  (∀x∈TM.mk (100*s) 0 [] rows,fresh `ę H' (ρ `Ó)=some (.ah (x.chain.map nV)))->fresh `ę H' pd=some (.ah ((du (1.95)).map nV))->Q .aX H'
def aoS(b:Nat)(rows:`_J){i:Nat}{row:TM.bX}(h:rows[i]? =some row):∃x,(TM.mk b 0 [] rows)[i]? =some x/\`Ó=b+i/\x.whole=row.2.2:=by
 obtain⟨xs,ys,rfl,rfl⟩:=TM.SO h;obtain⟨ch,e⟩:=TM.ś b xs row ys;exact⟨_,e,rfl,rfl⟩
def aqh(T:`Ä)(G:Ee•wv a):xS•mO a:=by
 refine amk T `Â ?_;rintro vs H Q E ⟨p,dx,pt,q,s,rows,rfl,hs,hp,hR,deep,l8,h⟩;refine `Á;unfold adG;ext;symm;have c1:ag `ę (af H p 3.12):=fun b o e=>by
  rw[au (eS e).2];exact(eS e).1
 have bD:af H p 3.12 p=some (.ins a.gm dx [("text",.ref pt)]):=by rw[ax];rfl
 generalize af H p 3.12=H1 at c1 bD⊢;refine⟨s,q,rows,rfl,hs,hR.aD c1,deep,l8,fun pc ρ H2 s2 Gk js=>?_⟩;have dE:=s2 _ _ bD;symm;obtain⟨sN,alW⟩:=eP Gk;have QP:pc≠p:=aL (aR bD sN);generalize e3:af H2 p _=H3;have ja:H3 p=some (.ins a.gm dx [("text",.ref pt),("chains",.ref pc)]):=by rw[<-e3,ax];rfl
 have Gm:H3 pc=some 0.38:=by rw[<-e3,au QP];exact alW
 have c3:ag `ę H3:=fun b o e=>by rw[<-e3,au (eS e).2];exact s2 _ _ (c1 _ _ e)
 obtain⟨as,a1,a2,a3⟩:=hR;have nq:q≠pc:=fun e=>by rw[<-e]at sN;rw[c1 _ _ a1]at sN;cases sN
 refine QA (d:=pc) Gm trivial fun od=>?_;have ph:af H3 pc (.aN od 0.38) p=some (.ins a.gm dx [("text",.ref pt),("chains",.ref pc)]):=by rw[au (aL QP)];exact ja
 have nn:(aw (1.95)).length=`_I:=by unfold aw;rw[aJ,TM.mE]
 symm;refine aai ax (aG.of (xs:=`ù) (by rw[au nq];exact c3 _ _ a1)) (by rw[eU,nn,aJ,a2]) ?_;refine BQ rows.length 3.90 (by exact bq l8 `Æ)
  (fun i H' hi s5=>⟨4.70,by rw[aJ,eU,nn];exact hi⟩) (fun H' s5=>⟨4.70,by rw[aJ,eU,nn]⟩) (fun i x H' bM hi s5 y R1 R0 h1 h0=>?_) (fun D H' hD s5 e=>?_)
 .obtain⟨T1,u,v,rfl,iO,rfl,hu,hv⟩:=y;obtain⟨b,eb,rfl⟩:=CJ hv;obtain⟨row,er,Yg,nm,hr,yX,_⟩:=a3 i b eb;obtain⟨x,ex,en,ew⟩:=aoS (100*s) rows er;rw[ex]at h1 h0;have hu':u=nV `Ó:=by
   rw[cG,cG]at hu;unfold aw at hu;rw[cG,ex]at hu;exact(bZ hu).symm
  subst hu';have nb:b≠pc:=fun e=>by rw[<-e]at sN;rw[c1 _ _ hr]at sN;cases sN
  have Pk:H' b=some (.ins a.jX Yg (lH (nV row.1) (.ref nm) (.bl row.2.2))):=s5 _ _ (by rw[au nb];exact c3 _ _ hr);show `_bb;refine `_j
  .have e':row.2.2=false:=`_D;symm;exact h1 _ _ 4.33 (ag.new iO)
  .have e':row.2.2=true:=`_D;exact h0 _ 4.33 (ag.new iO)
 .have eD:(`ó `_I).filterMap 3.90=(du (1.95)).map nV:=by
   rw[<-TM.mE (100*s) rows 0 [],Sa];unfold du;rw[bP];have:=yL (fun x:Vbnlak.Concept=>!x.whole) (fun x=>nV `Ó) (1.95);rw[show(nV∘fun x:Vbnlak.Concept=>x.number)=fun x=>nV x.number from rfl,<-this];congr 1
   funext x
   cases x.whole<;>rfl
  rw[eD]at e;refine⟨s5 _ _ ax,?_⟩;have OR:H3 D=none:=by
   by_cases hd:D=pc
   .rw[hd,ax]at hD;cases hD
   .rw[au hd]at hD;exact hD
  have Qq:D≠p:=aL (aR ja OR);have nDc:D≠pc:=aL (aR Gm OR);have s6:ag H3 (af H' pc 0.38):=ag.mX Gm s5;have vJ:=s6 _ _ ja;symm;have CpC:bh H p D=none:=c3.free OR;have up:∀{b o X},b≠p->H3 b=some o->af (af H' pc 0.38) p X b=some o:=fun{b o X} hb e=>by rw[au hb];exact s6 _ _ e
  refine h pc D ρ _ (fun b o e=>up (eS e).2 (c3 _ _ e)) (by rw[ax];rfl) (dZ (c1.free sN) (up QP Gm)) (`_n) (dZ CpC (by rw[au Qq,au nDc];exact e));obtain⟨x1,x2⟩:=eP (js x hx);have nx:ρ `Ó≠p:=aL (aR bD x1);exact dZ (c1.free x1) (up nx (by rw[<-e3,au nx];exact x2))
def mS:Sp:=fun vs H Q _=>∃z:Int,vs=[.int z]/\Q (.bl (keyOk z)) H
def aq6(T:`Ä):ya•mS:=by
 refine anJ T ?_;rintro vs H Q E ⟨z,rfl,h⟩;refine `Á;unfold aeM;ext;symm;have e:keyOk z=(decide ((1:Int)<=z)&&decide (z<=1000000000)):=rfl;rw[e]at h;refine `_j
 .rw[e,pP]at h;symm;exact h
 .rw[e,uB]at h;exact h
structure uM(a:aj)(H:Hp)(L pu pf:Addr)(mf ma:Nat)(us ks:List Nat)(ρ:Nat->Addr):Prop where
 ins:∃dx,H L=some 2.93
 used:H pu=some (.dK 2.49)
 avB:H pf=some (.dK (aB ks fun k=>.ref (ρ k)))
def sE(a:aj):Sp:=fun vs H Q _=>∃(p dx:Addr)(v1 v2:V),vs=[.ref p,v1,v2]/\H p=some (.ins a.cU dx [])/\∀pu pf,H pu=none->H pf=none->pu≠pf->Q .aX (af (af (af H pu `ü) pf `ü) p (.ins a.cU dx (gG v1 v2 (.ref pu) (.ref pf))))
def aqp(T:`Ä):D_•sE a:=by
 refine amX T ?_;rintro vs H Q E ⟨p,dx,v1,v2,rfl,hp,h⟩;refine `Á;unfold aed;ext;symm;rw[jj];intro pu Gp;have n1:pu≠p:=fun e=>by rw[e,ax]at Gp;cases Gp
 have Hpu:H pu=none:=by rw[au n1]at Gp;exact Gp
 have dE:af (af H p (.ins a.cU dx (bi (1.0 "most_in_all") v2 (bi (1.0 "most_in_force") v1 [])))) pu `ü p=some (.ins a.cU dx [("most_in_force",v1),("most_in_all",v2)]):=by rw[au (aL n1),ax];rfl
 symm;intro pf vK;have n2:pf≠p:=fun e=>by rw[e,ax]at vK;cases vK
 have n3:pf≠pu:=fun e=>by rw[e,au n1,ax]at vK;cases vK
 have Hpf:H pf=none:=by rw[au n2,au n3,au n2]at vK;exact vK
 have ja:∀X,af (af (af H p X) pu `ü) p (.ins a.cU dx (bi (1.0 "used") (.ref pu) [("most_in_force",v1),("most_in_all",v2)])) p=some (.ins a.cU dx [("most_in_force",v1),("most_in_all",v2),("used",.ref pu)]):=fun X=>by rw[ax];rfl
 refine iN rfl (zq (bB vK (ja _)) T.jo T.aae (xQ rfl) ?_);have e:∀X Y Z,af (af (af (af (af H p X) pu `ü) p Y) pf `ü) p Z=af (af (af H pu `ü) pf `ü) p Z:=fun X Y Z=>by
  funext b
  by_cases hb:b=p
  .rw[hb,ax,ax]
  .rw[au hb,au hb];by_cases h2:b=pf
   .rw[h2,ax,ax]
   .rw[au h2,au h2,au hb];by_cases h3:b=pu
    .rw[h3,ax,ax]
    .rw[au h3,au h3,au hb]
 rw[e];exact h pu pf Hpu Hpf (aL n3)
def t8(mf ma:Nat)(us ks:`À)(k:Nat)(z:Int):Int:=if k∈us then z else if mf<=ks.length then z-1 else if ma<=us.length then z-2 else 0
def kZ(a:aj):Sp:=fun vs H Q _=>∃(L pu pf:Addr)(mf ma:Nat)(us ks:`À)(ρ:`Ø)(k:Nat)(z:Int),vs=[.ref L,nV k,.int z]/\uM a H L pu pf mf ma us ks ρ/\Q (.int (t8 mf ma us ks k z)) H
def aqq(T:`Ä):x8•kZ a:=by
 refine amY T ?_;rintro vs H Q E ⟨L,pu,pf,mf,ma,us,ks,ρ,k,z,rfl,⟨⟨dx,h1⟩,h2,h3⟩,h⟩;refine `Á;unfold aee;ext;unfold t8 at h;symm;rw[vh];refine `Ā
 .show `_bB
 .rw[aq e]at h;symm;rw[eU];refine `Ā
  .show `_bz
  .rw[aq (by omega)]at h;symm;rw[eU];refine `Ā
   .show `_bz
   .rw[aq (by omega)]at h;symm;exact h
def mR(a:aj):Sp:=fun vs H Q _=>∃(L pu pf:Addr)(mf ma:Nat)(us ks:`À)(ρ:`Ø)(k:Nat)(e:Addr),vs=[.ref L,nV k,.ref e]/\uM a H L pu pf mf ma us ks ρ/\pu≠pf/\k∉us/\k∉ks/\us.length<=1000/\ks.length<=1000/\
 Q .aX (af (af H pu (.dK (aB (us++[k]) fun _=>.bl true))) pf (.dK (aB (ks++[k]) fun x=>.ref (if x=k then e else ρ x))))
def aqm(T:`Ä):xZ•mR a:=by
 refine amU T ?_;rintro vs H Q E ⟨L,pu,pf,mf,ma,us,ks,ρ,k,e,rfl,⟨⟨dx,h1⟩,h2,h3⟩,np,jL,gy,l1,l2,h⟩;refine `Á;unfold aea;ext;have nL:L≠pu:=dG h1 h2 `ć;symm;refine nR h2 (by rw[eU];exact kl l1) ?_;have FX:∀X,af H pu X L=some 2.93:=fun X=>by rw[au nL];exact h1
 have avC:=FX (.dK (gV 2.49 (kN k) (.bl true)));symm;refine nR (by rw[au (aL np)];exact h3) (by rw[eU];exact kl l2) ?_;have e1:gV (aB us fun _=>V.bl true) (kN k) (.bl true)=aB (us++[k]) fun _=>.bl true:=tq jL rfl;have e2:gV (aB ks fun x=>V.ref (ρ x)) (kN k) (.ref e)=aB (ks++[k]) fun x=>.ref (if x=k then e else ρ x):=by
  refine Eq.trans ?_ (tq (g:=fun x=>V.ref (if x=k then e else ρ x)) (v:=.ref e) gy `Ç);congr 1;refine oS fun c hc=>?_;have hz:¬c=k:=fun z=>gy (by rw[<-z];exact hc);simp only[aq hz]
 rw[<-e1,<-e2]at h;exact h
def MZ{g:Nat->V}{k:Nat}:∀l:List Nat,qi (aB l g) (kN k)=aB (l.filter fun x=>x !=k) g
 |[]=>rfl
 |x::l=>by
  have ih:=MZ (g:=g) (k:=k) l;unfold qi at ih⊢;simp only[aB,cY,kt]at ih⊢;by_cases h:x=k
  .subst h;simpa using ih
  .have:¬kN x=kN k:=fun e=>h (GM e);simp[this,h];simpa using ih
def mQ(a:aj):Sp:=fun vs H Q _=>∃(L pu pf:Addr)(mf ma:Nat)(us ks:`À)(ρ:`Ø)(z:Int),vs=[.ref L,.int z]/\uM a H L pu pf mf ma us ks ρ/\
 ((∀k∈ks,(k:Int)≠z)->Q (.int (-1)) H)/\(∀k∈ks,(k:Int)=z->Q (.int 0) (af H pf (.dK (aB (ks.filter fun x=>x !=k) fun x=>.ref (ρ x)))))
def aql(T:`Ä):xY•mQ a:=by
 refine amT T ?_;rintro vs H Q E ⟨L,pu,pf,mf,ma,us,ks,ρ,z,rfl,⟨⟨dx,h1⟩,h2,h3⟩,h0,h⟩;refine `Á;unfold ad';ext;symm;rw[AS];by_cases hk:∃k∈ks,(k:Int)=z
 .rw[ay hk];obtain⟨k,hk,rfl⟩:=hk;refine nJ ?_;symm;refine⟨_,kN k,.ref (ρ k),h3,rfl,fU hk,?_⟩;symm;rw[MZ];exact h k hk rfl
 .rw[aq hk];refine rY ?_;symm;exact h0 fun k i_ e=>hk ⟨k,i_,e⟩
def iF(a:aj):Sp:=fun vs H Q _=>∃(L pu pf:Addr)(mf ma:Nat)(us ks sk:`À)(ρ:`Ø),vs=[.ref L]/\uM a H L pu pf mf ma us ks ρ/\ks.length<64/\sk.Perm ks/\sk.Pairwise (·<·)/\
 ∀r H',ag H H'->H r=none->H' r=some (.dK (aB sk fun x=>.ref (ρ x)))->Q `à H'
def aqn(T:`Ä):sT•iF a:=by
 refine amV T ?_;rintro vs H Q E ⟨L,pu,pf,mf,ma,us,ks,sk,ρ,rfl,⟨⟨dx,h1⟩,h2,h3⟩,PX,Bt,Gr,h⟩;refine `Á;unfold aeb;ext;symm;intro f hf;have FX:=bB (o:=.dK []) hf h1;have h3':=bB (o:=.dK []) hf h3;symm;refine apT (.inl h3') (ns:=ks.map fun k:Nat=>(k:Int)) (by rw[bP,bP];rfl) (by rw[aJ];exact PX) fun mF r hp hs hr=>?_;have ens:mF=sk.map fun k:Nat=>(k:Int):=by
  refine PySem.W.ksm_same (hp.trans (Bt.symm.map _)) hs (DE.mpr (Gr.imp fun h=>by omega))
 subst ens;have s0:ag H 1.56:=(ag.new hf).trans 5.5;have nr:r≠f:=aL (aR ax hr);have nd:sk.Nodup:=Gr.imp fun h=>by omega
 symm;refine fV (xs:=(sk.map fun k:Nat=>(k:Int)).map V.int) (fun i σ H'=>∃v,σ=[some (.ref L),`ĕ,v]/\H'=af 1.56 f (.dK (aB (sk.take i) fun x=>.ref (ρ x)))) ⟨none,rfl,?_⟩ (fun i σ H' _ z=>?_) '0' `é
 .funext b
  by_cases hb:b=f
  .rw[hb,ax,au (aL nr),ax];rfl
  .rw[au hb]
 .obtain⟨_,_,rfl⟩:=z;exact aG.of (by rw[au nr,ax])
 .show `_aT;rw[<-Ő]at hx;obtain⟨k,hk,rfl⟩:=jc hx;have mk:k∈ks:=Bt.mem_iff.mp (cN hk);have nLf:L≠f:=aR h1 hf;have zA:pf≠f:=aR h3 hf;have g1:∀X,af 1.56 f X L=some 2.93:=fun X=>by rw[au nLf];exact s0 _ _ h1
  have g3:∀X,af 1.56 f X pf=some (.dK (aB ks fun k=>.ref (ρ k))):=fun X=>by rw[au zA];exact s0 _ _ h3
  have yO:=g1 (.dK (aB (sk.take i) fun x=>.ref (ρ x)));symm;refine eJ (.inl (g3 _)) (oR mk) ?_;symm;refine nR ax (by rw[eU,gl];exact kl (by have:=Bt.length_eq;omega)) ⟨some (nV k),rfl,?_⟩;rw[jj,eR hk];congr 2;refine tq (c:=k) ?_ rfl;intro hm;obtain⟨j,hj⟩:=sQ hm;have o9:j<i:=by
   have:=(dM.mp hj).1;rw[gl]at this;omega
  rw[Dx o9]at hj;have:=(List.getElem?_inj (by have:=(dM.mp hj).1;exact this) nd).mp (hj.trans hk.symm);omega
 .show `_aT;rw[aJ,aJ,eT];symm;exact h f _ (s0.set hf) hf ax
def fN(a:aj):Sp:=fun vs H Q _=>∃(L pu pf:Addr)(mf ma:Nat)(us ks sk:`À)(ρ:`Ø),vs=[.ref L]/\uM a H L pu pf mf ma us ks ρ/\ks.length<64/\sk.Perm ks/\sk.Pairwise (·<·)/\
 ∀r H',ag H H'->H' r=some (.ah (sk.map fun x=>V.ref (ρ x)))->Q `à H'
def aqo(T:`Ä)(G:sT•iF a):p9•fN a:=by
 refine amW T `Â ?_;rintro vs H Q E ⟨L,pu,pf,mf,ma,us,ks,sk,ρ,rfl,hL,PX,Bt,Gr,h⟩;have hL':=hL;obtain⟨⟨dx,h1⟩,h2,h3⟩:=hL;refine `Á;unfold aec;ext;symm;refine⟨L,pu,pf,mf,ma,us,ks,sk,ρ,rfl,hL',PX,Bt,Gr,fun r H1 s1 hr e1=>?_⟩;symm;intro l hl;refine h l _ (s1.trans (ag.new hl)) ?_;rw[ax,bP];rfl
def Db{H:Hp}{p:Addr}{o:HO}(h:H p=some o):af H p o=H:=by
 funext b
 by_cases hb:b=p
 .rw[hb,ax,h]
 .rw[au hb]
def tI(m:Nat):Bool:=`_N (m:Int) 3 !=0
def j_(cs:`À)(F:`É)(ns:`À):List Nat:=cs.filter fun e=>ns.any fun c=>tI (F c e)
def aud{m:Nat}(h:m<32):(([1,2,4,8,16]:List Int).contains (m:Int))=single m:=by
 have h':∀m:Fin 32,(([1,2,4,8,16]:List Int).contains ((m.val:Nat):Int))=single m.val:=`ē;exact h' ⟨m,h⟩
def wJ:Sp:=fun vs H Q _=>∃(t:Addr)(cs:`À)(ρ:`Ø)(F:`É),vs=[.ref t]/\cP H t cs cs ρ F/\Q (.bl (cs.all fun c=>cs.all fun d=>single `Ď)) H
def aq9(T:`Ä)(C:oq w P K a):Et•wJ:=by
 refine anM T ?_;rintro vs H Q E ⟨t,cs,ρ,F,rfl,ht,h⟩;refine `Á;unfold aeP;ext;symm;refine vU ht.tab trivial fun od=>?_;symm;refine Qx ax ?_;refine aag (fun i σ H'=>∃v1 v2,σ=[`_P,v1,v2]/\H'=af H t 1.79/\((cs.take i).all fun c=>cs.all fun d=>single `Ď)=true) ⟨none,none,rfl,rfl,rfl⟩ (fun i σ H' _ z=>by obtain⟨_,_,_,rfl,_⟩:=z;exact ax) 2.38 `é
 .obtain⟨v1,v2,rfl,rfl,z⟩:=z;rw[cG]at hk;obtain⟨c,hc,e⟩:=gc.mp hk;cases e;have mc:=cN hc;have nc:ρ c≠t:=ht.ne c mc;have js:af H t 1.79 (ρ c)=some (.dK (aB cs fun d=>nV `Ď)):=by rw[au nc];exact ht.row c mc
  symm;refine vU js trivial fun od2=>?_;symm;refine Qx ax ?_;refine aag (fun j σ H'=>∃v2,σ=[`_P,some (.ref (ρ c)),v2]/\H'=af (af H t 1.79) (ρ c) (.aN od2 (.dK (aB cs fun d=>nV `Ď)))/\((cs.take j).all fun d=>single `Ď)=true) ⟨v2,rfl,rfl,rfl⟩ (fun i σ H' _ z=>by obtain⟨_,_,rfl,_⟩:=z;exact ax) (fun j k v σ H' gy z2=>?_) (fun σ H' z2=>?_)
  .obtain⟨v2,rfl,rfl,z2⟩:=z2;rw[cG]at gy;obtain⟨d,hd,e⟩:=gc.mp gy;cases e;have md:=cN hd;symm;refine QC (C.dH _) ?_;symm;rw[aud (ht.ok c mc d md)];refine `_j
   .have e':single `Ď=false:=`_D;symm;refine⟨ax,by rw[jj,Db js,ax],?_⟩;rw[jj,Db js,jj,Db ht.tab];have:(cs.all fun c=>cs.all fun d=>single `Ď)=false:=by
     rw[UW];refine⟨c,mc,?_⟩;rw[Bool.not_eq_true,UW];exact⟨d,md,by rw[e'];decide⟩
    rw[this]at h;exact h
   .have e':single `Ď=true:=`_D;symm;refine⟨_,rfl,rfl,?_⟩;rw[eR hd,xG,z2];simp[e']
  .obtain⟨v2,rfl,rfl,z2⟩:=z2;rw[eU,eT]at z2;refine⟨ax,?_⟩;rw[jj,Db js];refine⟨_,_,rfl,rfl,?_⟩;rw[eR hc,xG,z];simp only[m9,List.all_nil,Tz,pP];exact z2
 .obtain⟨v1,v2,rfl,rfl,z⟩:=z;rw[eU,eT]at z;refine⟨ax,?_⟩;rw[jj,Db ht.tab];symm;rw[z]at h;exact h
def ul(K:Frag):Sp:=fun vs H Q _=>∃(t p:Addr)(cs:`À)(ρ:`Ø)(F:`É)(ns:`À),vs=[.ref t,.ref p]/\cP H t cs cs ρ F/\H p=some (.ah (ns.map nV))/\(∀c∈ns,c∈cs)/\':'<=100/\`ë<=100/\
 ∀r H',H r=none->ag H H'->H' r=some (.ah ((j_ cs F ns).map nV))->Q `à H'
def ars(T:`Ä):EC•ul K:=by
 refine anX T ?_;rintro vs H Q E ⟨t,p,cs,ρ,F,ns,rfl,ht,hp,tH,l1,l2,h⟩;refine `Á;unfold ae0;ext;symm;have so:p≠t:=dG hp ht.tab `ć;refine QA ht.tab trivial fun od=>?_;symm;refine B9 ax ?_;refine Qy ax (by rw[eU];exact bq l2 `Æ) (fun k v=>match k with|.inl z=>if(ns.any fun c=>tI (F c z.toNat))=true then some (.int z)else none|.inr _=>none) (fun i k v H' hk s R1 R0 h1 h0=>?_) (fun D H' hD s e=>?_)
 .rw[cG]at hk;obtain⟨x,hx,e⟩:=gc.mp hk;cases e;simp only[eB]at h1 h0;have mx:=cN hx;have qv:H' p=some (.ah (ns.map nV)):=s _ _ (by rw[au so];exact hp);symm;refine `Á;symm;refine B' (aG.of qv) (by rw[aJ];exact bq l1 `Æ) (fun v=>some (.int (`_N ((F (lK v).toNat x:Nat):Int) 3))) (fun j y H2 hy s2 R3 R4 h3 h4=>?_) (fun D2 H2 A4 s2 e2=>?_)
  .obtain⟨c,hc,rfl⟩:=jc hy;have mc:=tH c (cN hc);have s12:=s.trans s2;have jt:H2 t=some 1.79:=s12 _ _ ax;have iB:H2 (ρ c)=some (.dK (aB cs fun d=>nV `Ď)):=s12 _ _ (by rw[au (ht.ne c mc)];exact ht.row c mc);symm;refine⟨rfl,oT ?_⟩;symm;refine eJ (.inr ⟨od,jt⟩) (oR mc) ?_;symm;refine eJ (.inl iB) (oR mx) ?_;symm;exact h3 _ _ (by show some (V.int (`_N ((F (Int.toNat ((c:Nat):Int)) x:Nat):Int) 3))=_;rw[eB]) `_b
  .symm;rw[List.filterMap_eq_map',bP]at e2;have e3:(ns.map ((fun v=>V.int (`_N ((F (lK v).toNat x:Nat):Int) 3))∘nV))=(ns.map fun c=>`_N ((F c x:Nat):Int) 3).map V.int:=by
    rw[bP];refine iG fun c _=>?_;show V.int (`_N ((F (Int.toNat ((c:Nat):Int)) x:Nat):Int) 3)=_;rw[eB];rfl
   rw[e3]at e2;refine api (aG.of e2) ?_;symm;rw[An];have e4:(ns.any ((fun n:Int=>n !=0)∘fun c=>`_N ((F c x:Nat):Int) 3))=ns.any fun c=>tI (F c x):=rfl;rw[e4];refine `_j
   .symm;exact h1 _ _ (ay e) s2
   .exact h0 _ (aq (by rw[e];decide)) s2
 .have eD:((aB cs fun c=>V.ref (ρ c)).filterMap fun p=>(match p.1 with|.inl z=>if(ns.any fun c=>tI (F c z.toNat))=true then some (.int z)else none|.inr _=>none:Option V))=(j_ cs F ns).map nV:=by
   unfold j_;rw[<-yL (fun e=>ns.any fun c=>tI (F c e)) nV cs];unfold aB;rw[oV];congr 1
  have e:=e.trans (fv (fun l=>some (HO.ah l)) eD);refine⟨s _ _ ax,?_⟩;have tw:H D=none:=by
   by_cases hd:D=t
   .rw[hd,ax]at hD;cases hD
   .rw[au hd]at hD;exact hD
  exact h D _ tw (ag.mX ht.tab s) (by rw[au (aL (aR ht.tab tw))];exact e)
def u0(H:Hp)(b:Addr)(l:`À):Prop:=H b=some (.ah 0.2)
def Hs:∀(H1 H2:Hp)(b:Addr)(x:`À),u0 H1 b x->ag H1 H2->u0 H2 b x:=fun _ _ _ _ h s=>s _ _ h
def og(cs:`À)(F:`É)(c:Nat)(ds:`À):List (`À):=(ds.filter fun d=>F c d==8).map fun d=>j_ cs F [c,d]
def nu(cs:`À)(F:`É)(n:Nat):List (`À):=(`ó n).flatMap fun i=>og cs F (`χ) (0.16)
def pG(cs:`À)(F:`É):List (`À):=2.30++nu cs F `ë
def afA(cs:`À)(F:`É)(c:Nat)(ds:`À):(og cs F c ds).length<=ds.length:=by
 unfold og;rw[aJ];exact nh _ _
def aio(cs:`À)(F:`É)(n:Nat):(nu cs F n).length<=n*`ë:=by
 unfold nu
 induction n with
 |zero=>simp
 |succ n ih=>
  rw[K8,uP,dc,DJ];have:=afA cs F (cs.getD n 0) (cs.drop (n+1));rw[qY]at this;simp only[oy,U2,i6];omega
def wR(K:Frag):Sp:=fun vs H Q _=>∃(t:Addr)(cs:`À)(ρ:`Ø)(F:`É),vs=[.ref t]/\cP H t cs cs ρ F/\`ë<=100/\∀r H',ag H H'->eC u0 `_y r (pG cs F)->Q `à H'
def art(T:`Ä)(G:EC•ul K):ED•wR K:=by
 refine anY T `Â ?_;rintro vs H Q E ⟨t,cs,ρ,F,rfl,ht,l,h⟩;have avJ:=ht.tab;refine `Á;unfold ae1;ext;symm;intro k hk;have ek:((aB cs fun c=>V.ref (ρ c)).map fun p=>kV p.1)=cs.map nV:=8.9;rw[ek];have s0:ag H (af H k 3.4):=ag.new hk;have o_:af H k 3.4 k=some 3.4:=ax;generalize af H k 3.4=H0 at s0 o_⊢;symm;refine Hk (aG.of o_) (by rw[aJ];exact bq l `Æ) (fun i y H1=>∃b c,y=.ref b/\cs[i]? =some c/\H b=none/\u0 H1 b (j_ cs F [c])) (fun i y H1 H2 z s=>by obtain⟨b,c,z1,z2,z4,z3⟩:=z;exact⟨b,c,z1,z2,z4,Hs _ _ _ _ z3 s⟩) (fun i x H2 D hx s2 hD A4 R1 h1=>?_) (fun D H2 ys hD s2 eD hl hy=>?_)
 .obtain⟨c,hc,rfl⟩:=jc hx;symm;refine `Á;symm;intro q hq;symm;refine⟨t,q,cs,ρ,F,[c],rfl,ht.aD ((s0.trans s2).trans (ag.new hq)),ax,9.4,xQ rfl,l,fun r H3 hr s3 e3=>?_⟩
  .rw[ku.mp hy];exact cN hc
  .refine h1 _ H3 ((ag.new hq).trans s3) ⟨r,c,rfl,hc,(s0.trans s2).free ((ag.new hq).free hr),cJ e3 fun e=>A4 ?_⟩;rw[<-e];exact(ag.new hq).free hr
 .obtain⟨bs,rfl⟩:=L6 fun i y e=>by obtain⟨b,c,z1,_⟩:=hy i y e;exact⟨b,z1⟩
  have HD:H D=none:=s0.free hD;have hL0:eC u0 (fresh H H2) D 2.30:=⟨bs,dZ HD eD,by simpa using hl,fun i b eb=>by
   obtain⟨b',c,z1,z2,z4,z3⟩:=hy i (.ref b) (by rw[cG,eb];rfl);cases z1;obtain⟨z5,z6⟩:=eS z3;exact⟨_,by rw[cG,z2];rfl,cJ (dZ z4 z5) z6⟩⟩
  have nkD:k≠D:=aR o_ hD;have gy:=s2 _ _ o_;symm;refine Hj (xs:=cs.map nV) (fun i σ H'=>∃v3 v4 v5,σ=[`_P,some (.ref k),some `_5,v3,v4,v5]/\ag H H'/\H' k=some 3.4/\eC u0 `_y D (2.30++nu cs F i)) ⟨none,none,none,rfl,s0.trans s2,gy,by simpa [nu]using hL0⟩
   (fun i σ H' _ z=>by obtain⟨_,_,_,_,_,e,_⟩:=z;exact aG.of e) (fun i x σ H' T1 hx z iO=>?_) `é
  .obtain⟨v3,v4,v5,rfl,s,e,hw⟩:=z;obtain⟨c,hc,rfl⟩:=jc hx;have mc:=cN hc;have hi:i<`ë:=(dM.mp hc).1;refine 2.9;show `_an;have s3:ag H' (af H' T1 (.bb [V.int 0.66,nV c])):=ag.new iO;generalize af H' T1 (.bb [V.int 0.66,nV c])=H3 at s3⊢;have e3:=s3 _ _ e;symm;intro q hq;have akR:nv (cs.map nV) (some (0.66+1)) none=(0.16).map nV:=by
    have:=Mz (l:=cs) (n:=i+1);rw[<-this];rfl
   rw[akR];obtain⟨VP,OO,_⟩:=id hw;have OO:=(eP OO).2;have nqD:q≠D:=aL (aR (s3 _ _ OO) hq);have s4:ag H3 (af H3 q 1.21):=ag.new hq;have Bu:af H3 q 1.21 q=some 1.21:=ax;generalize af H3 q 1.21=H4 at s4 Bu⊢;have S4:=s3.trans s4;symm;refine fV (xs:=(cs.drop (i+1)).map nV) (fun j σ H'=>∃v5,σ=[`_P,some (.ref k),some `_5,some (.int 0.66),0.0,v5]/\ag H H'/\H' k=some 3.4/\H' q=some 1.21/\eC u0 `_y D (2.30++nu cs F i++og cs F c ((0.16).take j)))
    ⟨v5,rfl,s.trans S4,S4 _ _ e,Bu,by simpa [og]using hw.aD Hs (yN S4)⟩ (fun i σ H' _ z=>by obtain⟨_,_,_,_,e,_⟩:=z;exact aG.of e) (fun j y σ H5 hy z=>?_) (fun σ H5 z=>?_)
   .obtain⟨v5,rfl,s5,e5,q5,nH⟩:=z;obtain⟨d,hd,rfl⟩:=jc hy;have md:d∈cs:=pZ (cN hd);have rV:=ht.aD s5;symm;refine eJ (.inl rV.tab) (oR mc) ?_;symm;refine eJ (.inl (rV.row c mc)) (oR md) ?_;symm;have et:og cs F c ((0.16).take (j+1))=og cs F c ((0.16).take j)++(if F c d=8 then [j_ cs F [c,d]]else []):=by
     unfold og;rw[eR hd,xJ,eY];congr 1;by_cases h8:F c d=8<;>simp[h8]
    refine cV (fun e8=>?_) fun e8=>?_
    .have e8':F c d=8:=`Å;obtain⟨as5,OQ,_⟩:=id nH;have OQ:=(eP OQ).2;symm;intro p2 dE;have s6:ag H5 (af H5 p2 (.ah [nV c,nV d])):=ag.new dE;have vJ:af H5 p2 (.ah [nV c,nV d]) p2=some (.ah [nV c,nV d]):=ax;generalize af H5 p2 (.ah [nV c,nV d])=H6 at s6 vJ⊢;symm;refine⟨t,p2,cs,ρ,F,[c,d],rfl,ht.aD (s5.trans s6),vJ,9.4,xQ rfl,l,fun r H7 hr s7 e7=>?_⟩
     .have:y=c\/y=d:=by simpa using hy
      rcases this with rfl|rfl
      .exact mc
      .exact md
     .have S7:=s6.trans s7;have Pk:H5 r=none:=s6.free hr;obtain⟨ys,g1,g2,g3⟩:=(nH.aD Hs (yN S7)).abZ Hs HD (b:=r) (x:=j_ cs F [c,d]) (cJ (dZ (s5.free Pk) e7) (aL (aR OQ Pk)));symm;refine qC g1 ?_ ⟨_,rfl,(s5.trans S7).set HD,by rw[au nkD];exact S7 _ _ e5,by rw[au nqD];exact S7 _ _ q5,?_⟩
      .rw[g2,dc,dc,aJ];have h1:=aio cs F i;have h2:=afA cs F c ((0.16).take j);rw[gl,qY]at h2;have h3:i*`ë<=100*100:=uX `È l;exact oF (m:=10300) `È `Æ
      .rw[et,ay e8',<-jz];exact g3
    .symm;refine⟨_,rfl,s5,e5,q5,?_⟩;rw[et,aq (by omega),i6];exact nH
   .obtain⟨v5,rfl,s5,e5,q5,nH⟩:=z;rw[aJ,eT]at nH;refine⟨_,_,_,rfl,s5,e5,?_⟩;have ea:nu cs F (i+1)=nu cs F i++og cs F c (0.16):=by
     unfold nu;rw[K8,uP];simp only[oy,U2,i6,vv hc]
    rw[ea,<-jz];exact nH
  .obtain⟨v3,v4,v5,rfl,s,e,hw⟩:=z;rw[aJ]at hw;symm;exact h D H' s hw
def gX(gv:`Ě):List Nat->List Nat->List Nat
 |kept,[]=>kept
 |kept,k::r=>if gv (kept++r)=true then gX gv kept r else gX gv (kept++[k]) r
def SJ(P:`Ô)(w:World)(K:Frag)(mg:`þ)(base:Heap):Sp:=fun vs H Q _=>∃(d f:Addr)(ks:`À)(ρ:`Ø)(fo:Obj)(u:HO)(fd:`ě)(ps:`ô)(IK:Sp)(k:Nat)(gv:`Ě),vs=[.ref d,.ref f]/\H d=some 0.9/\ks.Nodup/\ks.length<=1000/\
 H f=some (.aN fo u)/\fo.data=.func fd/\f9 P w K mg base gY k f fd ps IK/\k<=6/\i4 K fd ps []/\
 (∀(p:Addr)(H':Hp)(cX:`À)(Q':VK),ag (bh H d) H'->cX.Sublist ks->H' p=some 3.56->p≠d->(∀bM,ag H' bM->Q' (.bl (gv cX)) bM)->IK `Ċ H' Q' E0)/\
 ∀r H',ag H H'->H r=none->H' r=some (.dK (aB (gX gv [] ks) fun x=>.ref (ρ x)))->Q `à H'
def ak8{k:Nat}{kept r:`À}(nd:(kept++k::r).Nodup):(kept++k::r).filter (fun x=>x !=k)=kept++r:=by
 have h1:=p7.mp nd;have h2:=jB.mp h1.2.1;rw[xJ,kt];have e1:kept.filter (fun x=>x !=k)=kept:=KU.mpr fun x hx=>by
  have:=h1.2.2 x hx k `Ç;simpa using this
 have e2:r.filter (fun x=>x !=k)=r:=KU.mpr fun x hx=>by
  have:x≠k:=fun e=>h2.1 (e▸hx);simpa using this
 rw[e1,e2];simp
def aqY(T:`Ä):El•SJ P w K mg base:=by
 refine anE T ?_;rintro vs H Q E ⟨d,f,ks,ρ,fo,u,fd,ps,IK,k,gv,rfl,hd,nd,l,hf,rN,F,hk,hb,hc,h⟩;refine⟨rfl,fun A hr=>?_⟩;unfold Tg;ext;have nfd:f≠d:=dG hf hd `ć;symm;intro l0 iz;symm;have nl0:l0≠d:=aL (aR hd iz);have eQ:af H l0 0.9 d=some 0.9:=bB iz hd;refine vU eQ trivial fun od=>?_;symm;refine B9 ax ?_;have s0:ag (bh H d) (af (af H l0 0.9) d (.aN od 0.9)):=fun b o e=>by
  obtain⟨e1,e2⟩:=eS e;rw[au e2];exact bB iz e1
 refine B6 (fun i σ H'=>∃lf kept v3 v4,σ=[some (.ref d),`ĕ,some (.ref lf),v3,v4]/\ag (bh H d) H'/\H' d=some (.aN od 0.9)/\H lf=none/\lf≠d/\H' lf=some (.dK (aB (kept++ks.drop i) fun x=>.ref (ρ x)))/\(kept++ks.drop i).Sublist ks/\gX gv kept (ks.drop i)=gX gv [] ks)
  ⟨l0,[],none,none,rfl,s0,ax,iz,nl0,by rw[au nl0,ax];rfl,`Õ,`Õ⟩ (fun i σ H' _ z=>by obtain⟨_,_,_,_,_,_,e,_⟩:=z;exact e) (fun i k v σ H' gy z=>?_) `é
 .obtain⟨lf,kept,v3,v4,rfl,s,ed,KL,QG,AX,sub,rE⟩:=z;rw[cG]at gy;obtain⟨c,c_,e⟩:=gc.mp gy;cases e;have akT:ks.drop i=c::ks.drop (i+1):=by
   have hi:=(dM.mp c_);rw[Dt hi.1,hi.2]
  rw[akT]at AX sub rE;have zr:(kept++c::ks.drop (i+1)).Nodup:=nd.sublist sub;symm;intro fw Gd;have s1:ag H' (af H' fw 2.94):=ag.new Gd;have alF:af H' fw 2.94 fw=some 2.94:=ax;symm;refine⟨_,kN c,.ref (ρ c),alF,rfl,fU `Ç,?_⟩;rw[jj,MZ,ak8 zr];have s2:ag H' (af H' fw 1.68):=ag.new Gd;have O4:af H' fw 1.68 fw=some 1.68:=ax;have QE:fw≠d:=aL (aR ed Gd);have Hfw:H fw=none:=by
   have:=s.free Gd;rw[lB QE]at this;exact this
  generalize af H' fw 1.68=H2 at s2 O4⊢;have S2:=s.trans s2;have Zr:H2 f=some (.aN fo u):=S2 _ _ (cJ hf nfd);have adx:(kept++ks.drop (i+1)).Sublist ks:=Sublist.trans (4.71) sub;symm;refine⟨.ref f,rfl,f,fo,u,fd,ps,IK,k,rfl,Zr,rN,F,hr.aD hk,hb,?_⟩;symm;refine⟨Zr,hc fw H2 (kept++ks.drop (i+1)) _ S2 adx O4 QE fun H3 s3=>?_⟩;symm;refine `_j
  .symm;refine⟨fw,kept,_,_,rfl,S2.trans s3,s3 _ _ (s2 _ _ ed),Hfw,QE,s3 _ _ O4,adx,?_⟩;rw[<-rE];show _=gX gv kept (c::ks.drop (i+1));unfold gX;rw[ay e];cases ks.drop (i+1)<;>rfl
  .symm;refine⟨lf,kept++[c],_,_,rfl,S2.trans s3,s3 _ _ (s2 _ _ ed),KL,QG,s3 _ _ (s2 _ _ (by rw[jz];exact AX)),by rw[jz];exact sub,?_⟩;rw[<-rE];show _=gX gv kept (c::ks.drop (i+1))
   conv=>rhs;unfold gX
   rw[aq (by rw[e];decide)]
 .obtain⟨lf,kept,v3,v4,rfl,s,ed,KL,QG,AX,sub,rE⟩:=z;have hlen:(aB ks fun x=>V.ref (ρ x)).length=ks.length:=eU;rw[hlen,sP,i6]at AX;rw[hlen,sP]at rE;have ak1:kept=gX gv [] ks:=rE;refine⟨ed,?_⟩;symm;refine h lf _ (5.0) KL (by rw[au QG,AX,ak1]);by_cases fc:b=d
  .rw[fc,ax];rw[fc,hd]at e;exact e
  .rw[au fc];exact s _ _ (cJ e fc)
def QW{x qual:Str}{st:Stmt}{f:Addr}{fd:`ě}{N ps:`ô}{k:Nat}{sp:Sp}(F:0.73)(S:pW N ps (gQ st))(len:3.26)
 (oX:∀(A:Around)(bK:`_W)(s:Shared)(H:Hp)(vs:List V)(Q:VK)(E:XK),cH k (A.deeper (envOfC qual (gQ st) s.heap.objs.size f fd.code))->sp vs H Q E->
  ∃t,jD (tj gY P w K mg base N qual (gQ st) f fd.code A bK s H E) (dO st) t/\t {nx:=fun _ H'=>Q .aX H',rt:=Q} (start N vs) H):f9 P w K mg base gY (k+1) f fd ps sp:=by
 show `_bU;exact YS lk j3 S len oX
def uL(base:Heap)(fd:`ě)(Pt:Addr):Prop:=∃c,fd.code=.ref c/\8.7 base c Pt
def j7:List Stmt->Pos
 |[.Return (some (.Call _ [_,.Lambda _ _ _ p] _ _)) _]=>p
 |_=>⟨0,0,0,0⟩
def G8{α:Type}{p x y:α}(h:p∈[x,y]):p=x\/p=y:='['
def GR:List Stmt->List (Str×NameKind)
 |[.Return (some (.Call _ [_,.Lambda _ _ sc _] _ _)) _]=>sc.names
 |_=>[]
abbrev tX:Str:=("told_that_stay":Str)++".<locals>."++"<lambda>"
abbrev tW:Str:=("records_that_stay":Str)++".<locals>."++"<lambda>"
def u_(Pt:Addr)(H H':Hp):Prop:=∀b o,H b=some o->b≠Pt->H' b=some o
def adF(K:Frag)(Sr:Sp):TE:=aP (qD K false) (bH Sr [] E0 (ai (aa 2) (ai (xk (aa 0)) (ai (aa 1) ap)))) (bI ap)
def w6(K:Frag)(a:aj)(Pt:Addr):Sp:=fun vs H Q _=>∃(g d pr:Addr)(pairs:`_2)(cs:`ì)(ns:`À)(ks:`À)(ρ:`Ø)(dY:Nat->Nat×Nat×Nat)(rl:'/'),vs=[.ref g,.ref d,.ref pr]/\
 H d=some 0.9/\ks.Nodup/\ks.length<=1000/\dU H Pt 9.2 tX/\ij a 1.9 g pairs cs ns/\oK K 1.9 pr rl/\
 (∀k∈ks,ba [d,Pt] H (ρ k)=some (.bb [nV (dY k).1,nV (dY k).2.1,nV (dY k).2.2])/\(dY k).1∈ns/\(dY k).2.1∈ns/\(dY k).2.2<32)/\(∀x∈rl,(∀c∈x.1,c∈ns)/\∀c∈x.2,c∈ns)/\':'<=1000/\rl.length<=1000/\
 (∀cX:List Nat,cX.Sublist ks->∀i,Dj (ib (cq cs) 0.59 ((cX.map dY).take i)))/\
 ∀r H',u_ Pt H H'->H r=none->H' r=some (.dK (aB (gX (fun cX=>(ib (cq cs) 0.59 (cX.map dY)).isEmpty) [] ks) fun x=>.ref (ρ x)))->dU H' Pt 9.2 tX->Q `à H'
def auB{H:Hp}{ρ:`Ø}{dY:Nat->Nat×Nat×Nat}{l:Addr}{ks:`À}(e:H l=some (.ah (ks.map fun x=>V.ref (ρ x))))(h:∀k∈ks,H (ρ k)=some (.bb [nV (dY k).1,nV (dY k).2.1,nV (dY k).2.2])):oO K H l (ks.map dY):=
 ⟨_,aG.of e,by simp,fun i x hx=>by
  show `_bC;exact⟨ρ k,_,_,_,by rw[cG,hk];rfl,rfl,bF.of (h k (cN hk))⟩⟩
def arP(T:`Ä){Pt:Addr}(LF:uL base a.Ft Pt)(B:l7 mg base)(G1:yd•pH K a)(G2:El•SJ P w K mg base):
 LA•w6 K a Pt:=by
 obtain⟨c,nF,C⟩:=LF;refine QW T.J1 atW (fun vs H Q E h=>by obtain⟨_,_,_,_,_,_,_,_,_,_,rfl,_⟩:=h;rfl) fun A bK s H vs Q E hr h=>?_;refine⟨_,aF (aM (aaP (k:=5) (x:="some") (bv:=[("records",`Í+1+1),("ground",2.4)]) (ix:=fun y=>if y="ground" then 0 else 2) (tb:=adF K (pH K a)) G2 (hr.aD `Æ) (mH rfl T.UQ rfl) T.Ac.kp (V0 T.Ac) (pv 1)
  rfl rfl nF C B (fun _=>rfl) 3.42 (show(["some","records","ground"]:List Str).Nodup by decide+kernel) `Ç ?_ (fun _ _ _ _=>rfl) ?_)),?_⟩
 .intro y hy;have key:∀p∈GR (dO n_),p.2=NameKind.free->p.1∈(["records","ground"]:List Str):=`ē;exact key (y,.free) (io hy) rfl
 .intro y hy;have key:∀p∈GR (dO n_),p.2=NameKind.local->p.1=("some":Str):=`ē;exact key (y,.local) (io hy) rfl
 .intro p hp;rcases G8 hp with rfl|rfl
  .exact⟨rfl,rfl,rfl⟩
  .exact⟨rfl,rfl,rfl⟩
 .intro f c' A' aaM s' H' iR;exact tS (Cj iR.zV) (Q8 G1 (iR.aD `Æ) rfl T.Ak T.xy.kp (V1 T.xy) .nil bf (ao (pv 2) (ao (Cq rfl rfl T.qe (pv 0)) (ao (pv 1) aA)))) (bN aA) (db _)
 .obtain⟨g,d,pr,pairs,cs,ns,ks,ρ,dY,rl,rfl,hd,nd,lk,hT,hG,hR,vC,vM,l1,l2,oU,h⟩:=h;ext;refine FC ?_;refine 3.80
  .rcases G8 hp with rfl|rfl
   .rfl
   .rfl
  show `_aS;generalize M6:([(("records":Str),(`Í+1+1:Addr)),("ground",2.4)]:List 0.40)=bv at qp hL F⊢;have jb:ag 1.9 H2:=fun b o e=>by
   obtain⟨e1,e2⟩:=iP e;exact olds b o e2 fun z=>e1 (by rw[z];simp)
  show `_aE
  have rj:∀c∈bv.map (·.2),∃(o:Obj)(u:Value),H2 c=some `_p/\o.data=.cell (some u):=fun c hc=>by
   obtain⟨p,hp,rfl⟩:=cw.mp hc;obtain⟨o,u,z1,z2,_⟩:=hL.cell p hp;exact⟨o,u,z1,z2⟩
  refine⟨d,f,ks,ρ,fo,U0,fd,["some"],_,6,fun cX=>(ib (cq cs) 0.59 (cX.map dY)).isEmpty,rfl,hd2,nd,lk,jK,rN,F,bp _,hb,fun p H' cX Q' s1 sub hp npd jr=>?_,fun r H' s1 iB er=>?_⟩
  .have nS:∀b o,H2 b=some `_p->b≠d:=fun b o e z=>by rw[z,hd2]at e;cases e
   have MB:∀c∈bv.map (·.2),∃o:Obj,H' c=some `_p:=fun c hc=>by
    obtain⟨o,u,z1,_⟩:=rj c hc;exact⟨o,0.63⟩
   refine 4.22
   .obtain⟨oc,vs,t,z1,z2⟩:=hL.code;exact⟨oc,vs,t,0.63,z2⟩
   .obtain⟨o,u,z1,z2⟩:=hL.cell q hq;exact⟨o,u,0.63,z2⟩
   .have Pj:ag 1.9 (ba (bv.map (·.2)) H'):=fun b o e=>by
     have nb:b∉bv.map (·.2):=fun z=>by
      have e2:=(iP e).2;rw[AJ b z]at e2;cases e2
     rw[da nb];exact s1 _ _ (qw b o e)
    have np:p∉bv.map (·.2):=fun z=>by
     obtain⟨o,e⟩:=MB p z;rw[hp]at e;cases e
    have qv:ba (bv.map (·.2)) H' p=some 3.56:=by rw[da np];exact hp
    have Nb:4.20=[some (.ref pr),some (.ref g)]:=by rw[<-M6];rfl
    rw[Nb];unfold adF;symm;intro l hl;show `_ai;symm;refine⟨g,l,pr,pairs,cs,ns,cX.map dY,rl,rfl,hG.aD S3,auB iQ fun k hk=>S3 _ _ (0.72).1,hR.aD S3,`_n,vM,l1,l2,oU cX sub,fun q H4 s4 hw=>?_⟩
    .obtain⟨k,hk,rfl⟩:=cw.mp hx;exact(0.72).2
    .show `_bJ;have eb:(`ù).isEmpty=(ib (cq cs) 0.59 (cX.map dY)).isEmpty:=by
      rw[Dy];cases as with
      |nil=>cases vN:ib (cq cs) 0.59 (cX.map dY)with
       |nil=>rfl
       |cons=>rw[vN]at z2;cases z2
      |cons=>cases vN:ib (cq cs) 0.59 (cX.map dY)with
       |nil=>rw[vN]at z2;cases z2
       |cons=>rfl
     rw[eb];refine jr _ fun b o e=>?_;by_cases z:b∈bv.map (·.2)
     .rw[uc z];exact e
     .rw[gh z];exact bB Bn (s4 _ _ (s2 _ _ (by rw[da z];exact e)))
  .have nc:∀b o,H b=some o->b∉bv.map (·.2):=fun b o e z=>by rw[AJ b z]at e;cases e
   have QQ:H r=none:=by
    cases e:H r with
    |none=>rfl
    |some o=>
     by_cases z:r=Pt
     .rw[z,vw]at iB;cases iB
     .rw[olds r o e z]at iB;cases iB
   have nr:r∉bv.map (·.2):=fun z=>by
    obtain⟨o,u,e,_⟩:=rj r z;rw[iB]at e;cases e
   refine 4.24
   .rw[da (nc b o e)];exact s1 _ _ (olds b o e nb)
   .rw[da fun z=>?_]
    .exact s1 _ _ vw
    .obtain⟨o,u,e,_⟩:=rj Pt z;rw[vw]at e;cases e
   .rintro⟨c2,oc,vs,t,y1,y2,y3,y4⟩;refine⟨c2,oc,vs,t,y1,?_,y3,y4⟩;rw[da fun z=>?_]
    .exact s1 _ _ y2
    .obtain⟨o,u,e,mC⟩:=rj c2 z;rw[y2]at e;cases e;rw[y3]at mC;cases mC
def adE(K:Frag)(Sr:Sp):TE:=aP (qD K false) (bH Sr [] E0 (ai (aa 2) (ai (aa 1) (ai (xk (aa 0)) ap)))) (bI ap)
def wU(K:Frag)(a:aj)(Pt:Addr):Sp:=fun vs H Q _=>∃(g d pr:Addr)(pairs:`_2)(cs:`ì)(ns:`À)(ks:`À)(ρ:`Ø)(rec:`ζ)(ρi ρo:`Ø)(tl:`_Z),vs=[.ref g,.ref pr,.ref d]/\
 H d=some 0.9/\ks.Nodup/\ks.length<=1000/\dU H Pt 9.1 tW/\ij a 1.9 g pairs cs ns/\oO K 1.9 pr tl/\
 (∀k∈ks,ba [d,Pt] H (ρ k)=some (.bb [.ref (ρi k),.ref (ρo k)])/\ba [d,Pt] H (ρi k)=some (.ah ((rec k).1.map nV))/\ba [d,Pt] H (ρo k)=some (.ah ((rec k).2.map nV))/\(∀c∈(rec k).1,c∈ns)/\∀c∈(rec k).2,c∈ns)/\(∀x∈tl,x.1∈ns/\x.2.1∈ns/\x.2.2<32)/\':'<=1000/\tl.length<=1000/\
 (∀cX:List Nat,cX.Sublist ks->∀i,Dj (ib (cq cs) 0.52 (tl.take i)))/\
 ∀r H',u_ Pt H H'->H r=none->H' r=some (.dK (aB (gX (fun cX=>(ib (cq cs) 0.52 tl).isEmpty) [] ks) fun x=>.ref (ρ x)))->dU H' Pt 9.1 tW->Q `à H'
def asS{H:Hp}{ρ ρi ρo:`Ø}{rec:`ζ}{l:Addr}{ks:`À}(e:H l=some (.ah (ks.map fun x=>V.ref (ρ x))))(h:∀k∈ks,H (ρ k)=some (.bb [.ref (ρi k),.ref (ρo k)])/\H (ρi k)=some (.ah ((rec k).1.map nV))/\H (ρo k)=some (.ah ((rec k).2.map nV))):oK K H l (ks.map rec):=
 ⟨_,aG.of e,by simp,fun i x hx=>by
  show `_bC;obtain⟨z1,z2,z3⟩:=h k (cN hk);exact⟨ρ k,ρi k,ρo k,_,_,by rw[cG,hk];rfl,rfl,bF.of z1,aG.of z2,aG.of z3⟩⟩
def arB(T:`Ä){Pt:Addr}(LF:uL base a.Fs Pt)(B:l7 mg base)(G1:yd•pH K a)(G2:El•SJ P w K mg base):
 Lz•wU K a Pt:=by
 obtain⟨c,nF,C⟩:=LF;refine QW T.J0 atV (fun vs H Q E h=>by obtain⟨_,_,_,_,_,_,_,_,_,_,_,_,rfl,_⟩:=h;rfl) fun A bK s H vs Q E hr h=>?_;refine⟨_,aF (aM (aaP (k:=5) (x:="some") (bv:=[("told",`Í+1+1),("ground",2.4)]) (ix:=fun y=>if y="ground" then 0 else 1) (tb:=adE K (pH K a)) G2 (hr.aD `Æ) (mH rfl T.UQ rfl) T.Ac.kp (V0 T.Ac) (pv 2)
  rfl rfl nF C B (fun _=>rfl) 3.42 (show(["some","told","ground"]:List Str).Nodup by decide+kernel) `Ç ?_ (fun _ _ _ _=>rfl) ?_)),?_⟩
 .intro y hy;have key:∀p∈GR (dO n9),p.2=NameKind.free->p.1∈(["told","ground"]:List Str):=`ē;exact key (y,.free) (io hy) rfl
 .intro y hy;have key:∀p∈GR (dO n9),p.2=NameKind.local->p.1=("some":Str):=`ē;exact key (y,.local) (io hy) rfl
 .intro p hp;rcases G8 hp with rfl|rfl
  .exact⟨rfl,rfl,rfl⟩
  .exact⟨rfl,rfl,rfl⟩
 .intro f c' A' aaM s' H' iR;exact tS (Cj iR.zV) (Q8 G1 (iR.aD `Æ) rfl T.Ak T.xy.kp (V1 T.xy) .nil bf (ao (pv 2) (ao (pv 1) (ao (Cq rfl rfl T.qe (pv 0)) aA)))) (bN aA) (db _)
 .obtain⟨g,d,pr,pairs,cs,ns,ks,ρ,rec,ρi,ρo,tl,rfl,hd,nd,lk,hT,hG,hR,vC,pk,l1,l2,oU,h⟩:=h;ext;refine FC ?_;refine 3.80
  .rcases G8 hp with rfl|rfl
   .rfl
   .rfl
  show `_aS;generalize M6:([(("told":Str),(`Í+1+1:Addr)),("ground",2.4)]:List 0.40)=bv at qp hL F⊢;have jb:ag 1.9 H2:=fun b o e=>by
   obtain⟨e1,e2⟩:=iP e;exact olds b o e2 fun z=>e1 (by rw[z];simp)
  show `_aE
  have rj:∀c∈bv.map (·.2),∃(o:Obj)(u:Value),H2 c=some `_p/\o.data=.cell (some u):=fun c hc=>by
   obtain⟨p,hp,rfl⟩:=cw.mp hc;obtain⟨o,u,z1,z2,_⟩:=hL.cell p hp;exact⟨o,u,z1,z2⟩
  refine⟨d,f,ks,ρ,fo,U0,fd,["some"],_,6,fun cX=>(ib (cq cs) 0.52 tl).isEmpty,rfl,hd2,nd,lk,jK,rN,F,bp _,hb,fun p H' cX Q' s1 sub hp npd jr=>?_,fun r H' s1 iB er=>?_⟩
  .have nS:∀b o,H2 b=some `_p->b≠d:=fun b o e z=>by rw[z,hd2]at e;cases e
   have MB:∀c∈bv.map (·.2),∃o:Obj,H' c=some `_p:=fun c hc=>by
    obtain⟨o,u,z1,_⟩:=rj c hc;exact⟨o,0.63⟩
   refine 4.22
   .obtain⟨oc,vs,t,z1,z2⟩:=hL.code;exact⟨oc,vs,t,0.63,z2⟩
   .obtain⟨o,u,z1,z2⟩:=hL.cell q hq;exact⟨o,u,0.63,z2⟩
   .have Pj:ag 1.9 (ba (bv.map (·.2)) H'):=fun b o e=>by
     have nb:b∉bv.map (·.2):=fun z=>by
      have e2:=(iP e).2;rw[AJ b z]at e2;cases e2
     rw[da nb];exact s1 _ _ (qw b o e)
    have np:p∉bv.map (·.2):=fun z=>by
     obtain⟨o,e⟩:=MB p z;rw[hp]at e;cases e
    have qv:ba (bv.map (·.2)) H' p=some 3.56:=by rw[da np];exact hp
    have Nb:4.20=[some (.ref pr),some (.ref g)]:=by rw[<-M6];rfl
    rw[Nb];unfold adE;symm;intro l hl;show `_ai;symm;refine⟨g,pr,l,pairs,cs,ns,tl,cX.map rec,rfl,hG.aD S3,hR.aD S3,asS iQ (ρi:=ρi) (ρo:=ρo) fun k hk=>⟨S3 _ _ (0.72).1,S3 _ _ (0.72).2.1,S3 _ _ (0.72).2.2.1⟩,pk,`_n,l1,by rw[aJ];exact bq sub.length_le lk,oU cX sub,fun q H4 s4 hw=>?_⟩
    .obtain⟨k,hk,rfl⟩:=cw.mp hx;exact(0.72).2.2.2
    .show `_bJ;have eb:(`ù).isEmpty=(ib (cq cs) 0.52 tl).isEmpty:=by
      rw[Dy];cases as with
      |nil=>cases vN:ib (cq cs) 0.52 tl with
       |nil=>rfl
       |cons=>rw[vN]at z2;cases z2
      |cons=>cases vN:ib (cq cs) 0.52 tl with
       |nil=>rw[vN]at z2;cases z2
       |cons=>rfl
     rw[eb];refine jr _ fun b o e=>?_;by_cases z:b∈bv.map (·.2)
     .rw[uc z];exact e
     .rw[gh z];exact bB Bn (s4 _ _ (s2 _ _ (by rw[da z];exact e)))
  .have nc:∀b o,H b=some o->b∉bv.map (·.2):=fun b o e z=>by rw[AJ b z]at e;cases e
   have QQ:H r=none:=by
    cases e:H r with
    |none=>rfl
    |some o=>
     by_cases z:r=Pt
     .rw[z,vw]at iB;cases iB
     .rw[olds r o e z]at iB;cases iB
   have nr:r∉bv.map (·.2):=fun z=>by
    obtain⟨o,u,e,_⟩:=rj r z;rw[iB]at e;cases e
   refine 4.24
   .rw[da (nc b o e)];exact s1 _ _ (olds b o e nb)
   .rw[da fun z=>?_]
    .exact s1 _ _ vw
    .obtain⟨o,u,e,_⟩:=rj Pt z;rw[vw]at e;cases e
   .rintro⟨c2,oc,vs,t,y1,y2,y3,y4⟩;refine⟨c2,oc,vs,t,y1,?_,y3,y4⟩;rw[da fun z=>?_]
    .exact s1 _ _ y2
    .obtain⟨o,u,e,mC⟩:=rj c2 z;rw[y2]at e;cases e;rw[y3]at mC;cases mC
def sg:List Stmt->Pos
 |[_,.Return (some (.Call _ _ [⟨_,.Lambda _ _ _ p,_⟩,_] _)) _]=>p
 |_=>⟨0,0,0,0⟩
def ĳ:List Stmt->List (Str×NameKind)
 |[_,.Return (some (.Call _ _ [⟨_,.Lambda _ _ sc _,_⟩,_] _)) _]=>sc.names
 |_=>[]
abbrev su:Str:=("narrowest_sure":Str)++".<locals>."++"<lambda>"
def ur(l:`À)(k8:`À):List Int:=(l.zip k8).filterMap fun p=>if p.2=2 then some ((p.1:Nat):Int)else none
def yr(ch:`Ĕ)(z:Int):Int:=((ch z.toNat).length:Int)
def S'(K:Frag):TE:=dh (gW K) (ai (dI (aa 1) (aa 0)) ap)
def uk(K:Frag)(a:aj)(Pt:Addr):Sp:=fun vs H Q _=>∃(p q:Addr)(l k8:`À)(ρ:`Ø)(ch:`Ĕ),vs=4.4/\H p=some '<'/\3.16/\H q=some (.ah (k8.map nV))/\`Û=k8.length/\`Û<=100/\
 dU H Pt 5.2 su/\∀H',u_ Pt H H'->dU H' Pt 5.2 su->Q (.int (((ur l k8).foldl (lM (yr ch)) none).getD (-1))) H'
def mV{H H':Hp}{Pt:Addr}{pos:Pos}{q:Str}(h:dU H Pt pos q)(s:`Ć):dU H' Pt pos q:=by
 obtain⟨ps,h1,h2,h3⟩:=h;refine⟨ps,s _ _ h1,h2,h3.imp id ?_⟩;rintro⟨c,oc,vs,t,z1,z2,z3⟩;exact⟨c,oc,vs,t,z1,s _ _ z2,z3⟩
def aro(T:`Ä){Pt:Addr}(LF:uL base a.Fq Pt)(B:l7 mg base):Ly•uk K a Pt:=by
 obtain⟨c,nF,C⟩:=LF;refine QW T.JX Ij (fun vs H Q E h=>by obtain⟨_,_,_,_,_,_,rfl,_⟩:=h;rfl) fun A bK s H vs Q E hr h=>?_;refine⟨aC (sI (aV (fY (GB K (ai (aa 0) (ai (aa 1) ap))) (j2 K 2 (eV (aH 3) (eV (aH 4) j1))) (cO (aP i0 (aa 4) (tC (.int 2)))) (aa 3) [3,4]) (aH 2))) (aK (Ta K (aa 2) (-1) Pt 5.2 su [("chains",2.4)] (fun _=>0) (S' K))),
  aE (wc (CA (i:=2) (own:=[("number",3),("verdict",4)]) rfl Ij.nd rfl rfl 1.39 (aaX rfl T.Fc (ao (pv 0) `ă)) `ď (fun _ _ _ _ _=>lQ rfl (fF (ss (i:=3) Ij.nd rfl `ο) (fF (ss (i:=4) Ij.nd rfl `ο) (lS)))) (fun _ _ _ _ _=>zG (df jv (pv 4) (de rfl T.PQ) (db _))) (fun _ _ _ _ _=>pv 3)))
  (aF (aM (asj (k:=0) (x:="number") (bv:=[("chains",2.4)]) (ix:=fun _=>0) (tb:=S' K) (dflt:=-1) rfl (hr.aD `Æ) rfl T.ai' (pv 2) (de rfl T.am5)
   rfl rfl nF C B (fun _=>rfl) 3.42 (show(["number","chains"]:List Str).Nodup by decide+kernel) `Ç ?_ (fun _ _ _ _=>rfl) ?_))),?_⟩
 .intro y hy;have key:∀p∈ĳ (dO mN),p.2=NameKind.free->p.1∈(["chains"]:List Str):=`ē;exact key (y,.free) (io hy) rfl
 .intro y hy;have key:∀p∈ĳ (dO mN),p.2=NameKind.local->p.1=("number":Str):=`ē;exact key (y,.local) (io hy) rfl
 .intro p hp;rcases(ku.mp hp)with rfl;exact⟨rfl,rfl,rfl⟩
 .intro f c' A' aaM s' H' iR;exact gz iI rfl T.gF gN (ao (d_ (ZQ iR) (pv 1) (pv 0) `Ú) aA)
 .obtain⟨p,q,l,k8,ρ,ch,rfl,hp,iX,hq,ll,Ĳ,hT,h⟩:=h;ext;refine Yo (vU hp trivial fun od=>?_);have nqp:q≠p:=dG hq hp `ć;obtain⟨Cy,tz,_⟩:=id hT;have npP:p≠Pt:=dG hp tz `ć;have eX:af H p (.aN od '<') q=some (.ah (k8.map nV)):=by rw[au nqp];exact hq
  symm;refine aai ax (aG.of eX) (by rw[eU,aJ,ll]) ?_;have ek:(aB l fun c=>V.ref (ρ c)).map (fun p=>kV p.1)=l.map nV:=8.9;rw[ek];refine apE (by rw[aJ,aJ,ll]) (by rw[aJ];exact bq Ĳ `Æ) (fun H' s5=>⟨s5 _ _ ax,aG.of (s5 _ _ eX)⟩) (fun x y=>if y=.int 2 then some x else none) (fun i x y H' T1 hx hy s5 iO R1 R0 h1 h0=>?_) (fun D H' hD s5 e=>?_)
  .rw[cG]at hx hy;obtain⟨c1,cr,rfl⟩:=gc.mp hx;obtain⟨v1,ZR,rfl⟩:=gc.mp hy;show `_bb;refine `Ā
   .symm;exact h1 _ _ (by rw[ay (fv V.int e)]) `_b
   .exact h0 _ (by rw[aq fun z=>e (V.int.inj z)]) `_b
  .have eD:((l.map nV).zip (k8.map nV)).filterMap (fun p=>if p.2=.int 2 then some p.1 else none)=(ur l k8).map V.int:=by
    unfold ur;clear e s5 hD eX hq ek iX hp ll Ĳ h hT tz
    induction l generalizing k8 with
    |nil=>rfl
    |cons c l ih=>
     cases k8 with
     |nil=>rfl
     |cons v k8=>
      rw[cY,cY,Vd,gD,Vd,gD];have e1:(nV v=V.int 2)↔v=2:=⟨fun z=>by have:=V.int.inj z;omega,fun z=>by rw[z];rfl⟩;by_cases hv:v=2
      .rw[ay (e1.mpr hv),ay hv];show _::_=_::_;rw[ih k8]
      .rw[aq fun z=>hv (e1.mp z),aq hv];exact ih k8
   rw[eD]at e;refine⟨s5 _ _ ax,?_⟩;have s6:ag H (af H' p '<'):=ag.mX hp s5;have tw:H D=none:=by
    by_cases hd:D=p
    .rw[hd,ax]at hD;cases hD
    .rw[au hd]at hD;exact hD
   have Qq:D≠p:=aL (aR hp tw);have nDP:D≠Pt:=aL (aR tz tw);symm;unfold Ta;refine iN rfl ?_;refine⟨D,ur l k8,fun _=>.ref p,yr ch,rfl,nDP,by rw[au Qq];exact e,mV hT s6,fun pc Gk=>?_,fun H2 olds n hn Q' hQ=>?_,fun H2 olds iW=>h H2 (fun b o eb nb=>olds _ _ (s6 _ _ eb) nb) iW⟩
   .rcases(ku.mp Gk)with rfl;rfl
   .have Bp:∃c∈l,n=((c:Nat):Int):=by
     unfold ur at hn;obtain⟨⟨c1,v1⟩,hm,e1⟩:=U'.mp hn;by_cases hv:v1=2
     .rw[ay hv]at e1;exact⟨c1,(K3 hm).1,(bZ e1).symm⟩
     .rw[aq hv]at e1;cases e1
    obtain⟨c1,cr,rfl⟩:=Bp;have dE:H2 p=some '<':=olds _ _ ax npP;have c_:H2 (ρ c1)=some (.ah ((ch c1).map nV)):=by
     have z1:=iX c1 cr;exact olds _ _ (s6 _ _ z1) (dG z1 tz `ć)
    unfold S';symm;refine eJ (.inl dE) (fU cr) ?_;symm;rw[aJ];exact hQ
open Vbnlak (has meet turnedMask Told Rec State)
def BK(F:`É)(c d m x y:Nat):qz F c d m x y=if x=c/\y=d then meet `Ď m else F x y:=rfl
def zP(x y:Nat)(r:Rel)(c d m:Nat):Bool:=(!(c==x&&d==y)||has m r)&&(!(d==x&&c==y)||has (turnedMask m) r)
def alw(F:`É)(t:Nat×Nat×Nat)(h:t.1≠t.2.1)(x y:Nat)(r:Rel):has (xp F t x y) r=(has (F x y) r&&zP x y r t.1 t.2.1 t.2.2):=by
 unfold xp zP;rw[BK,BK,BK];have e0:¬(t.2.1=t.1/\t.1=t.2.1):=fun z=>h z.2;rw[aq e0];by_cases h1:x=t.2.1/\y=t.1
 .have h2:¬(x=t.1/\y=t.2.1):=fun z=>h (z.1.symm.trans h1.1);rw[ay h1,TM.rL];obtain⟨rfl,rfl⟩:=h1;have:(t.1==t.2.1)=false:='[';simp[this]
 .rw[aq h1];by_cases h2:x=t.1/\y=t.2.1
  .rw[ay h2,TM.rL];obtain⟨rfl,rfl⟩:=h2;have:(t.2.1==t.1)=false:=by simpa using aL h
   simp[this]
  .rw[aq h2];have e1:(t.1==x&&t.2.1==y)=false:=by
    rw[Dd,gO,gO];by_cases q:t.1=x
    .exact .inr fun z=>h2 ⟨q.symm,z.symm⟩
    .exact .inl q
   have e2:(t.2.1==x&&t.1==y)=false:=by
    rw[Dd,gO,gO];by_cases q:t.2.1=x
    .exact .inr fun z=>h1 ⟨q.symm,z.symm⟩
    .exact .inl q
   rw[e1,e2];simp
def Zf:∀(tl:`_Z)(F:`É),(∀t∈tl,t.1≠t.2.1)->∀(x y:Nat)(r:Rel),has (k7 tl F x y) r=(has (F x y) r&&tl.all fun t=>zP x y r t.1 t.2.1 t.2.2)
 |[],F,_,x,y,r=>by simp[k7]
 |t::tl,F,h,x,y,r=>by
  have ih:=Zf tl (xp F t) (fun t ht=>h t (by simp[ht])) x y r;show has (k7 tl (xp F t) x y) r=_;rw[ih,alw F t (h t (by simp)),m9,xw]
def Za(r:Rel):has 31 r=true:=7.1
def alv(s:State)(h:∀t∈s.told,t.c≠t.d)(x y:Nat)(r:Rel):has (toldMask s x y) r=s.told.all fun t=>zP x y r t.c t.d t.mask:=by
 unfold toldMask;have key:∀(l:`č)(m:Nat),(∀t∈l,t.c≠t.d)->has (l.foldl (fun m t=>if t.c=x/\t.d=y then meet m t.mask else if t.c=y/\t.d=x then meet m (turnedMask t.mask)else m) m) r=(has m r&&l.all fun t=>zP x y r t.c t.d t.mask):=by
  intro l
  induction l with
  |nil=>intro m _;simp
  |cons t l ih=>
   intro m hl;rw[jA,ih _ fun t ht=>hl t (by simp[ht]),m9,<-xw];congr 1;have ht:=hl t `Ç;unfold zP;by_cases h1:t.c=x/\t.d=y
   .rw[ay h1,TM.rL];obtain⟨rfl,rfl⟩:=h1;have:(t.d==t.c)=false:=by simpa using aL ht
    simp[this]
   .rw[aq h1];have e1:(t.c==x&&t.d==y)=false:=by
     rw[Dd,gO,gO];by_cases q:t.c=x
     .exact .inr fun z=>h1 ⟨q,z⟩
     .exact .inl q
    by_cases h2:t.c=y/\t.d=x
    .rw[ay h2,TM.rL];rw[e1];obtain⟨rfl,rfl⟩:=h2;simp
    .rw[aq h2];have e2:(t.d==x&&t.c==y)=false:=by
      rw[Dd,gO,gO];by_cases q:t.d=x
      .exact .inr fun z=>h2 ⟨z,q⟩
      .exact .inl q
     rw[e1,e2];simp
 rw[key s.told 31 h,Za,pP]
def OU(F:`É)(c d m x y:Nat)(r:Rel):has (qz F c d m x y) r=(has (F x y) r&&(!(x==c&&y==d)||has m r)):=by
 rw[BK];by_cases h:x=c/\y=d
 .rw[ay h,TM.rL];obtain⟨rfl,rfl⟩:=h;simp
 .rw[aq h];have:(x==c&&y==d)=false:=by
   rw[Dd,gO,gO];by_cases q:x=c
   .exact .inr fun z=>h ⟨q,z⟩
   .exact .inl q
  rw[this];simp
def alr(ins:`À)(c:Nat)(F:`É)(x y:Nat)(r:Rel):has (mL ins c F x y) r=(has (F x y) r&&(!(x==c&&ins.contains y)||has 15 r)):=by
 unfold mL
 induction ins generalizing F with
 |nil=>simp
 |cons d ins ih=>
  rw[jA,ih,OU,xI];cases has (F x y) r<;>cases x==c<;>cases y==d<;>cases ins.contains y<;>cases has 15 r<;>rfl
def als(outs:`À)(c:Nat)(F:`É)(x y:Nat)(r:Rel):has (n8 outs c F x y) r=(has (F x y) r&&((!(x==c&&outs.contains y)||has 28 r)&&(!(y==c&&outs.contains x)||has 26 r))):=by
 unfold n8
 induction outs generalizing F with
 |nil=>simp
 |cons d outs ih=>
  rw[jA,ih,OU,OU,xI,xI];cases has (F x y) r<;>cases x==c<;>cases y==d<;>cases outs.contains y<;>cases outs.contains x<;>cases y==c<;>cases x==d<;>cases has 28 r<;>cases has 26 r<;>rfl
def qF(x y:Nat)(r:Rel)(ins outs:`À):Bool:=(!(ins.contains x&&ins.contains y)||has 15 r)&&((!(ins.contains x&&outs.contains y)||has 28 r)&&(!(outs.contains x&&ins.contains y)||has 26 r))
def alt(F:`É)(q:0.95)(x y:Nat)(r:Rel):has (wl F q x y) r=(has (F x y) r&&qF x y r q.1 q.2):=by
 unfold wl qF;obtain⟨ins,outs⟩:=q;have key:∀(l:`À)(F:`É),has (l.foldl (fun F c=>n8 outs c (mL ins c F)) F x y) r=(has (F x y) r&&((!(l.contains x&&ins.contains y)||has 15 r)&&((!(l.contains x&&outs.contains y)||has 28 r)&&(!(outs.contains x&&l.contains y)||has 26 r)))):=by
  intro l
  induction l with
  |nil=>intro F;simp
  |cons c l ih=>
   intro F;rw[jA,ih,als,alr,xI,xI];cases has (F x y) r<;>cases x==c<;>cases y==c<;>cases l.contains x<;>cases l.contains y<;>cases ins.contains y<;>cases outs.contains y<;>cases outs.contains x<;>cases has 15 r<;>cases has 28 r<;>cases has 26 r<;>rfl
 exact key ins F
def Ze:∀(rl:'/')(F:`É)(x y:Nat)(r:Rel),has (ka rl F x y) r=(has (F x y) r&&rl.all fun q=>qF x y r q.1 q.2)
 |[],F,x,y,r=>by simp[ka]
 |q::rl,F,x,y,r=>by
  show has (ka rl (wl F q) x y) r=_;rw[Ze rl,alt,m9,xw]
def alu(s:State)(x y:Nat)(r:Rel):has (recordMask s x y) r=s.records.all fun q=>qF x y r q.ins q.outs:=by
 unfold recordMask;have key:∀(l:`ÿ)(m:Nat),has (l.foldl (fun m q=>
  let m:=if q.ins.contains x=true/\q.ins.contains y=true then meet m 15 else m
  let m:=if q.ins.contains x=true/\q.outs.contains y=true then meet m 28 else m
  if q.outs.contains x=true/\q.ins.contains y=true then meet m 26 else m) m) r=(has m r&&l.all fun q=>qF x y r q.ins q.outs):=by
  intro l
  induction l with
  |nil=>intro m;simp
  |cons q l ih=>
   intro m;rw[jA,ih,m9,<-xw];congr 1;unfold qF;simp only[];cases q.ins.contains x<;>cases q.ins.contains y<;>cases q.outs.contains x<;>cases q.outs.contains y<;>simp[TM.rL]<;>(try(cases has m r<;>cases has 15 r<;>cases has 28 r<;>cases has 26 r<;>rfl))
 rw[key s.records 31,Za,pP]
open Vbnlak (has meet turnedMask Told Rec State Concept)
def Ŝ(b:Nat):∀(rs:`_J)(k:Nat)(above:`À),(∀y∈above,b<=y/\y<b+k)->∀x∈TM.mk b k above rs,b+k<=`Ó/\`Ó<b+k+`ç/\(∃t,x.chain=`Ó::t)/\0.30<=above.length+1+`ç/\∀y∈x.chain,b<=y/\y<=`Ó
 |[],k,above,h=>by simp[TM.mk]
 |r::rs,k,above,h=>by
  intro x hx;have rX:x=_\/x∈TM.mk b (k+1) ((b+k)::above.drop 0.45) rs:=bE.mp hx;rcases rX with rfl|hx
  .refine⟨bp _,`Õ,`_o,?_,9.4⟩
   .simp only[cB,qY];omega
   .rcases bE.mp hy with rfl|hy
    .simp only[];omega
    .have:=h y (pZ hy);simp only[];omega
  .have ih:=Ŝ b rs (k+1) ((b+k)::above.drop 0.45) (fun y hy=>by
    rcases bE.mp hy with rfl|hy
    .omega
    .have:=h y (pZ hy);omega) x hx
   obtain⟨h1,h2,h3,h4,h5⟩:=ih;simp only[cB,qY]at h4⊢;exact⟨`Å,`Å,h3,`Å,h5⟩
structure gE(b:Nat)(l:List Concept):Prop where
 ex:∃rows,l=TM.mk b 0 [] rows/\TM.jl 0 rows/\`_I<=8
def gE.nil(b:Nat):gE b []:=⟨[],rfl,trivial,`Õ⟩
def gE.len{b:Nat}{l:`è}(h:gE b l):`Û<=8:=by
 obtain⟨rows,rfl,_,h8⟩:=h.ex;rw[TM.mE];exact h8
def gE.nd{b:Nat}{l:`è}(h:gE b l):(aw l).Nodup:=by
 obtain⟨rows,rfl,_,h8⟩:=h.ex;exact Ql b rows
def pC(l:`è):(aw l).length=`Û:=aJ ..
def gE.mem{b:Nat}{l:`è}(h:gE b l){x:Concept}(hx:x∈l):b<=`Ó/\`Ó<b+8/\(∃t,x.chain=`Ó::t)/\0.30<=9/\∀y∈x.chain,y∈aw l:=by
 obtain⟨rows,rfl,_,h8⟩:=h.ex;obtain⟨h1,h2,h3,h4,h5⟩:=Ŝ b rows 0 [] `Ç x hx;refine⟨`Å,`Å,h3,by simp at h4;omega,9.4⟩;have:=h5 y hy;unfold aw;rw[Qm];exact cw.mpr ⟨y-b,jm.mpr `È,`Å⟩
def gE.num{b:Nat}{l:`è}(h:gE b l){c:Nat}(hc:c∈aw l):b<=c/\c<b+8:=by
 obtain⟨x,hx,rfl⟩:=cw.mp hc;exact⟨(h.mem hx).1,(h.mem hx).2.1⟩
def gE.ch{b:Nat}{l:`è}(h:gE b l){c:Nat}(hc:c∈aw l):(dP l c).length<=9/\∀y∈dP l c,y∈aw l:=by
 obtain⟨x,hx,rfl⟩:=cw.mp hc;rw[yt h.nd hx];exact⟨(h.mem hx).2.2.2.1,(h.mem hx).2.2.2.2⟩
def ŋ(l:`è):∀c∈du l,c∈aw l:=fun c hc=>by
 obtain⟨x,hx,rfl⟩:=cw.mp hc;exact gu (iU.mp hx).1
def zo(l:`è):(du l).length<=`Û:=by
 unfold du;rw[aJ];exact nh _ _
structure WF(s:State):Prop where
 left:gE 0 s.left
 right:gE 100 `Ð
 told:∀t∈s.told,t.c∈numbers s/\t.d∈numbers s/\t.c≠t.d/\1<=t.mask/\t.mask<=31
 aU:∀x∈`á,(∀c∈x.ins,c∈numbers s)/\∀c∈x.outs,c∈numbers s
 tk:s.told.Pairwise fun x y=>x.key<y.key
 rk:s.records.Pairwise fun x y=>x.key<y.key
 tn:9.0<=20
 rn:8.3<=10
def je(s:State):numbers s=aw s.left++aw `Ð:=by
 unfold numbers Vbnlak.all aw;rw[eY]
def WF.apart{s:State}(h:WF s){c:Nat}(hl:c∈aw s.left)(hr:c∈aw `Ð):False:=by
 have:=h.left.num hl;have:=h.right.num hr;omega
def WF.nd{s:State}(h:WF s):(`_Y).Nodup:=by
 refine p7.mpr ⟨h.left.nd,h.right.nd,fun x hx y hy e=>?_⟩;subst e;exact h.apart hx hy
def WF.len{s:State}(h:WF s):(`_Y).length<=16:=by
 rw[dc,pC,pC];have:=h.left.len;have:=h.right.len;omega
abbrev gp(t:Told):Nat×Nat×Nat:=(t.c,t.d,t.mask)
def ln(rc:`ζ)(aU:`ÿ):Prop:=∀x∈aU,(∀c,(rc x.key).1.contains c=x.ins.contains c)/\∀c,(rc x.key).2.contains c=x.outs.contains c
abbrev jg(rc:`ζ)(aU:`ÿ):List (List Nat×List Nat):=aU.map fun x=>rc x.key
def at6(c d:Concept):Vbnlak.shape c d<32:=by
 unfold Vbnlak.shape
 repeat' split
 all_goals decide
def at4{s:State}(h:WF s){x y:Concept}(hx:x∈`_R s)(hy:y∈`_R s):ub (`_g) (`_t) (dP s.left) (dP `Ð) x.number y.number=Vbnlak.shape x y:=by
 unfold ub qG vn Vbnlak.shape;have nm:∀{z:Concept}{l:`è},z∈l->z.number∈aw l:=fun hz=>gu hz;have inc:∀(l:`À)(n:Nat),l.contains n=decide (n∈l):=fun l n=>Ds ..;have key:∀{b:Nat}{l:`è},gE b l->∀{z:Concept},z∈l->dP l z.number=z.chain:=fun hl _ hz=>yt hl.nd hz;rcases cK.mp hx with hx|hx<;>rcases cK.mp hy with hy|hy
 .have x1:`Ó∉aw `Ð:=fun z=>h.apart (nm hx) z;have y1:y.number∉aw `Ð:=fun z=>h.apart (nm hy) z;rw[aq x1,ay (nm hx),aq y1,key h.left hx,key h.left hy];have b1:=(h.left.mem hx).2.1;have b2:=(h.left.mem hy).2.1;have e:(1.76)=true:=by rw[g_ (by omega),g_ (by omega)];rfl
  rw[inc,inc,e];simp
 .have x1:`Ó∉aw `Ð:=fun z=>h.apart (nm hx) z;rw[aq x1,ay (nm hx),ay (nm hy)];have b1:=(h.left.mem hx).2.1;have b2:=(h.right.mem hy).1;have ne:¬`Ó=y.number:=`Å;have n1:¬y.number∈x.chain:=fun z=>h.apart ((h.left.mem hx).2.2.2.2 _ z) (nm hy);have n2:¬`Ó∈y.chain:=fun z=>h.apart (nm hx) ((h.right.mem hy).2.2.2.2 _ z);have e:(1.76)=false:=by rw[g_ (by omega),eN (by omega)];rfl
  rw[inc,inc,e,aq ne];simp[n1,n2]
 .rw[ay (nm hx),ay (nm hy)];have b1:=(h.right.mem hx).1;have b2:=(h.left.mem hy).2.1;have ne:¬`Ó=y.number:=`Å;have n1:¬y.number∈x.chain:=fun z=>h.apart (nm hy) ((h.right.mem hx).2.2.2.2 _ z);have n2:¬`Ó∈y.chain:=fun z=>h.apart ((h.left.mem hy).2.2.2.2 _ z) (nm hx);have e:(1.76)=false:=by rw[eN (by omega),g_ (by omega)];rfl
  rw[inc,inc,e,aq ne];simp[n1,n2]
 .have y1:y.number∉aw s.left:=fun z=>h.apart z (nm hy);rw[ay (nm hx),aq y1,key h.right hx,key h.right hy];have b1:=(h.right.mem hx).1;have b2:=(h.right.mem hy).1;have e:(1.76)=true:=by rw[eN (by omega),eN (by omega)];rfl
  rw[inc,inc,e];simp
def BL{F:`É}{c d m x y:Nat}(h:F x y<32):qz F c d m x y<32:=by
 rw[BK];split
 .exact TM.BV _ _
 .exact h
def afo:∀(tl:`_Z)(F:`É)(x y:Nat),F x y<32->k7 tl F x y<32
 |[],F,x,y,h=>h
 |t::tl,F,x,y,h=>afo tl (xp F t) x y (BL (BL h))
def asN(ins:`À)(c:Nat):∀(F:`É)(x y:Nat),F x y<32->mL ins c F x y<32:=by
 unfold mL
 induction ins with
 |nil=>intro F x y h;exact h
 |cons d ins ih=>intro F x y h;exact ih _ x y (BL h)
def asO(outs:`À)(c:Nat):∀(F:`É)(x y:Nat),F x y<32->n8 outs c F x y<32:=by
 unfold n8
 induction outs with
 |nil=>intro F x y h;exact h
 |cons d outs ih=>intro F x y h;exact ih _ x y (BL (BL h))
def asP(q:0.95)(F:`É)(x y:Nat)(h:F x y<32):wl F q x y<32:=by
 unfold wl;obtain⟨ins,outs⟩:=q;have key:∀(l:`À)(F:`É),F x y<32->l.foldl (fun F c=>n8 outs c (mL ins c F)) F x y<32:=by
  intro l
  induction l with
  |nil=>intro F h;exact h
  |cons c l ih=>intro F h;exact ih _ (asO outs c _ x y (asN ins c F x y h))
 exact key ins F h
def ab4:∀(rl:'/')(F:`É)(x y:Nat),F x y<32->ka rl F x y<32
 |[],F,x,y,h=>h
 |q::rl,F,x,y,h=>ab4 rl (wl F q) x y (asP q F x y h)
def ala{s:State}(h:WF s){rc:`ζ}(hr:ln rc `á){x y:Concept}(hx:x∈`_R s)(hy:y∈`_R s):
 ka (jg rc `á) 2.73 x.number y.number=meet (Vbnlak.shape x y) (meet (toldMask s x.number y.number) (recordMask s x.number y.number)):=by
 have e0:=at4 h hx hy;refine TM.ő (ab4 _ _ _ _ (afo _ _ _ _ (by rw[e0];exact at6 x y))) (TM.BV _ _) fun r=>?_;rw[Ze,Zf _ _ (fun t ht=>?_),e0,TM.rL,TM.rL,alv s (fun t ht=>(h.told t ht).2.2.1),alu,qV,qV,xw]
 .congr 2;rw[kr,f_,f_];have e:∀q∈`á,qF x.number y.number r (rc q.key).1 (rc q.key).2=qF x.number y.number r q.ins q.outs:=fun q hq=>by
   unfold qF;rw[(hr q hq).1,(hr q hq).1,(hr q hq).2,(hr q hq).2]
  exact⟨fun z q hq=>by rw[<-e q hq];exact z q hq,fun z q hq=>by show qF _ _ _ (rc q.key).1 (rc q.key).2=true;rw[e q hq];exact z q hq⟩
 .obtain⟨u,hu,rfl⟩:=cw.mp ht;exact(h.told u hu).2.2.1
def VJ(s:State){i:Nat}(hi:i<(`_R s).length):∃x∈`_R s,(`_R s)[i]? =some x/\(`_Y).getD i 0=`Ó:=by
 refine⟨(`_R s)[i],List.getElem_mem hi,jU hi,?_⟩;have:aw s.left++aw `Ð=(`_R s).map (·.number):=by rw[<-je];rfl
 rw[this,qX,cG,jU hi];rfl
def Mx(s:State):(`_Y).length=(`_R s).length:=by
 unfold Vbnlak.all;rw[dc,pC,pC,dc]
def alc{s:State}(h:WF s){rc:`ζ}(hr:ln rc `á):
 3.3 (`_Y).length (ix `Đ (ka (jg rc `á) 2.73))=Vbnlak.first s:=by
 unfold Vbnlak.first
 rw[Mx];refine TM.IW fun i j hi hj=>?_;obtain⟨x,hx,ex,nx⟩:=VJ s hi;obtain⟨y,hy,ey,ny⟩:=VJ s hj;unfold ix;rw[nx,ny,ala h hr hx hy,ex,ey]
def asK{s:State}(h:WF s){rc:`ζ}(hr:ln rc `á){G:`É}
 (e:Vbnlak.closure (`_Y).length (3.3 (`_Y).length (ix `Đ (ka (jg rc `á) 2.73)))=3.3 (`_Y).length (ix `Đ G)):
 Vbnlak.quick s=3.3 (`_Y).length (ix `Đ G):=by
 unfold Vbnlak.quick;rw[<-alc h hr,<-Mx,e]
open Vbnlak (has meet turnedMask Told Rec State Concept One)
def ar_{α β:Type}(f:α->List β)(g:α->List β)(xs ys:`ċ):(xs.flatMap fun c=>ys.map fun d=>(c,d)).map (fun p=>f p.1++g p.2)=(xs.map f).flatMap fun x=>(ys.map g).map fun y=>x++y:=by
 induction xs with
 |nil=>rfl
 |cons x xs ih=>
  rw[oy,eY,ih,cY,oy,bP,bP];rfl
def Tr(ch:`Ĕ)(n:Nat):cS ch (n:Int)=ch n:=by
 unfold cS;rw[aq (by omega),eB]
def ads(l:`è)(ch:`Ĕ)(h:∀x∈l,ch `Ó=x.chain):(fE (du l)).map (cS ch)=spots l:=by
 unfold fE spots du;rw[cY,bP,bP];congr 1;refine iG fun x hx=>?_;show cS ch ((`Ó:Nat):Int)=x.chain;rw[Tr,h x (iU.mp hx).1]
abbrev iK(s:State):Nat->List Nat:=rm (`_g) (dP s.left) (dP `Ð)
def Mr{s:State}(h:WF s){x:Concept}(hx:x∈s.left):iK s `Ó=x.chain:=by
 show(if `Ó∈aw s.left then _ else _)=_;rw[ay (show x.number∈aw s.left from gu hx),yt h.left.nd hx]
def Ms{s:State}(h:WF s){x:Concept}(hx:x∈`Ð):iK s `Ó=x.chain:=by
 show(if `Ó∈aw s.left then _ else _)=_;rw[aq fun z=>h.apart z (gu hx),yt h.right.nd hx]
def Ff{s:State}(h:WF s):(0.62).map (jG (iK s))=Vbnlak.cells s:=by
 unfold iD Vbnlak.cells;rw[<-ads s.left (iK s) fun x hx=>Mr h hx,<-ads s.right (iK s) fun x hx=>Ms h hx];exact ar_ (cS (iK s)) (cS (iK s)) _ _
def YO{rc:0.95}{x:Rec}(h1:∀c,rc.1.contains c=x.ins.contains c)(h2:∀c,rc.2.contains c=x.outs.contains c):jH rc.1 rc.2=fits x:=by
 funext y
 have key:∀(l m:`À)(p:Nat->Bool),(∀c,l.contains c=m.contains c)->l.all p=m.all p:=fun l m p e=>by
  rw[kr,f_,f_];have q:∀c,c∈l↔c∈m:=fun c=>by rw[<-m_,<-m_,e c]
  exact⟨fun z c hc=>z c ((q c).mpr hc),fun z c hc=>z c ((q c).mp hc)⟩
 unfold jH fits;rw[key _ _ _ h1,key _ _ _ h2]
def ap4(s:State){rc:`ζ}{aU:`ÿ}(h:ln rc aU):gg `ñ (`_T) (jg rc aU)=(jF s aU []).map (aT `ñ):=by
 unfold gg jF;rw[U2,i6,eY,bP,bP,bP];congr 1;refine iG fun x hx=>?_;show aT _ (jH (rc x.key).1 (rc x.key).2)=aT _ (fun y=>fits x y);rw[YO (h x hx).1 (h x hx).2]
def aul(e:Nat->Nat)(ws:List WD)(told:`č):ib e ws (told.map gp)=xc e ws told:=by
 unfold ib xc;rw[List.foldl_map]
abbrev qL(s:State)(rl:'/')(tl:`_Z):List WD:=ib (cq `ñ) (gw (aT `ñ fun _=>true) (gg `ñ (`_T) rl)) tl
def Dc(s:State){rc:`ζ}{aU:`ÿ}(h:ln rc aU)(told:`č):
 qL s (jg rc aU) (told.map gp)=(1.97).map (wd s aU):=by
 unfold qL;rw[aul,ap4 s h];exact aun s aU told
def Tu(s:State){rc:`ζ}{aU:`ÿ}(h:ln rc aU)(told:`č):(qL s (jg rc aU) (told.map gp)).isEmpty=!Vbnlak.possible s told aU:=by
 rw[Dc s h,aa3,Bool.not_not]
def Je(t:Told)(l:`č):ways (t::l)=(relsOf t.mask).length*ways l:=by
 unfold ways;have key:∀(l:`À)(n:Nat),l.foldl (·*·) n=n*l.foldl (·*·) 1:=by
  intro l
  induction l with
  |nil=>intro n;simp
  |cons x l ih=>intro n;rw[jA,ih,jA,ih (1*x),Nat.one_mul,Nat.mul_assoc]
 rw[cY,jA,key,Nat.one_mul]
def Wn:∀l:List Told,(choices l).length=ways l
 |[]=>rfl
 |t::l=>by
  rw[Je,<-Wn l];show(List.flatMap _ _).length=_;rw[FT _ (choices l).length (fun x=>by rw[aJ])]
def asX{m:Nat}(h1:1<=m)(h2:m<=31):1<=(`_M).length:=by
 have:∀m:Fin 32,1<=m.val->1<=(relsOf m.val).length:=`Ĝ;exact this ⟨m,`Å⟩ h1
def auZ{l m:`č}(h:l.Sublist m)(ok:∀t∈m,1<=t.mask/\t.mask<=31):ways l<=ways m:=by
 induction h with
 |slnil=>exact bp _
 |cons t h ih=>
  rw[Je];have h1:=ih fun t ht=>ok t (by simp[ht]);have h2:=asX (ok t `Ç).1 (ok t `Ç).2;exact bq h1 (Nat.le_mul_of_pos_left _ h2)
 |cons_cons t h ih=>
  rw[Je,Je];exact Nat.mul_le_mul_left _ (ih fun t ht=>ok t (by simp[ht]))
def auY(l:`č):uz (l.map gp)=ways l:=by
 unfold uz ways;rw[bP];rfl
def Wm:∀(l:`č)(c:`_X),c∈choices l->c.length=`Û
 |[],c,h=>by
  have:c=[]:=by simpa [choices]using h
  rw[this];rfl
 |t::l,c,h=>by
  obtain⟨x,_,h⟩:=uU.mp h;obtain⟨d,hd,rfl⟩:=cw.mp h;rw[cB,cB,Wm l d hd]
def ar0(o:One):(nW o).length<=3:=by
 unfold nW;rw[dc,dc];cases(parts o.r).1<;>cases(parts o.r).2.1<;>cases(parts o.r).2.2<;>simp
def qk{α β:Type}(f:α->List β)(n:Nat):∀l:List α,(∀x∈l,(f x).length<=n)->(l.flatMap f).length<=`Û*n
 |[],_=>by simp
 |x::l,h=>by
  rw[oy,dc,cB,DJ];have:=qk f n l fun x hx=>h x (by simp[hx]);have:=h x `Ç;omega
def FQ{s:State}(h:WF s)(hw:ways s.told<=16){rc:`ζ}{aU:`ÿ}(hr:ln rc aU)(hn:aU.length<=10){told:`č}(hs:told.Sublist s.told):Dj (qL s (jg rc aU) (told.map gp)):=by
 rw[Dc s hr];have hw2:=auZ hs fun t ht=>(h.told t ht).2.2.2;refine⟨?_,`_n⟩
 .rw[aJ];have:=nh 7.3 (choices told);rw[Wn]at this;omega
 .obtain⟨c,hc,rfl⟩:=cw.mp hx;have lc:=Wm told c (iU.mp hc).1;have ls:=hs.length_le;have:=h.tn;show((jF s aU c).map _).length<=_;unfold jF;rw[aJ,dc,dc,aJ,aJ,je];have:=h.len;have:=qk nW 3 c fun o _=>ar0 o;omega
def Tj{s:State}{told:`č}(hs:told.Sublist s.told)(i:Nat):(told.map gp).take i=(told.take i).map gp/\(told.take i).Sublist s.told:=⟨by rw[K0],(List.take_sublist i told).trans hs⟩
def Na(s:State){rc:`ζ}(hr:ln rc `á)(c d:Nat):
 Vbnlak.maskOf (RELS.filter fun r=>(qL s (jg rc `á) (s.told.map gp)).any fun x=>(gI x (gf (cq `ñ c) (cq `ñ d) r)).isSome)='_' s c d:=by
 rw[Dc s hr];unfold Vbnlak.exact;congr 1;refine KS fun r _=>?_;exact ak3 s c d r
def ak4(s:State)(c d:Nat):'_' s c d<32:=TM.FS _
def atX(cs:`ì)(pairs:`_2)(ce:Int×Int->List Nat)(e:pairs.map ce=cs)(f:`Ě):sy (aT cs f) pairs=pairs.filter fun p=>f (ce p):=by
 unfold sy;have e1:(fun i=>if(aT cs f).testBit i=true then pairs[i]? else none)=fun i=>(pairs[i]?).bind fun p=>if f (ce p)=true then some p else none:=by
  funext i
  rw[lz,<-e,cG];cases pairs[i]? with
  |none=>simp
  |some p=>simp
 rw[e1,Sa];have e2:=yL (fun p=>f (ce p)) (fun p:Int×Int=>p) pairs;rw[e2];simp
def ak'{l:`è}(nd:(aw l).Nodup){x:Concept}(hx:x∈l){p:Concept->Bool}(hp:p x=true)(hu:∀y∈l,p y=true->y.number=`Ó):l.find? p=some x:=by
 cases e:l.find? p with
 |none=>exact absurd hp (by simpa using uO.mp e x hx)
 |some y=>
  have hy:=DD e;have Gq:=KW e;have en:=hu y hy Gq;have:y=x:=by
   have c1:l.find? (fun z=>z.number==`Ó)=some y/\l.find? (fun z=>z.number==`Ó)=some x:=by
    have key:∀z∈l,l.find? (fun w=>w.number==z.number)=some z:=by
     intro z hz;clear e hy Gq en hp hu hx
     induction l with
     |nil=>cases hz
     |cons u l ih=>
      rw[qW];rcases bE.mp hz with rfl|hz
      .simp
      .have:(u.number==z.number)=false:=by
        rw[gO];intro q;have hm:z.number∈aw l:=gu hz;rw[<-q]at hm;exact(jB.mp nd).1 hm
       rw[this];exact ih (jB.mp nd).2 hz
    refine⟨?_,key x hx⟩;rw[<-en];exact key y hy
   exact bZ (c1.1.symm.trans c1.2)
  rw[this]
def X7{b:Nat}{l:`è}(hs:gE b l){c:Int}(hc:c∈fE (du l))(ch:`Ĕ)(iX:∀x∈l,ch `Ó=x.chain)(cell:`À)(hf:(cell.filter fun x=>l.any fun d=>d.number==x)=cS ch c):deepest l cell=c:=by
 unfold deepest;rw[hf];rcases bE.mp hc with rfl|hc
 .have:l.find? (fun c=>!c.whole&&c.chain==cS ch (-1))=none:=by
   rw[uO];intro x hx;obtain⟨t,ht⟩:=(hs.mem hx).2.2.1;have e:cS ch (-1)=[]:=by unfold cS;rw[ay rfl]
   rw[e,ht];simp
  rw[this]
 .obtain⟨n,hn,rfl⟩:=cw.mp hc;obtain⟨x,hx,rfl⟩:=cw.mp hn;obtain⟨hx,hw⟩:=iU.mp hx;rw[Tr,iX x hx];have:l.find? (fun c=>!c.whole&&c.chain==x.chain)=some x:=by
   refine ak' hs.nd hx (by rw[hw];simp) fun y hy hp=>?_;have e:y.chain=x.chain:=by
    rw[f7]at hp;exact eq_of_beq hp.2
   obtain⟨t,ht⟩:=(hs.mem hx).2.2.1;obtain⟨u,hu⟩:=(hs.mem hy).2.2.1;rw[ht,hu]at e;exact(List.cons.inj e).1
  rw[this]
def YI{l:`À}{p:Nat->Bool}(h:∀x∈l,p x=true):l.filter p=l:=KU.mpr h
def YM{l:`À}{p:Nat->Bool}(h:∀x∈l,p x=false):l.filter p=[]:=List.filter_eq_nil_iff.mpr fun x hx=>by rw[h x hx];decide
def afB{b:Nat}{l:`è}(hs:gE b l){c:Int}(hc:c∈fE (du l))(ch:`Ĕ)(iX:∀x∈l,ch `Ó=x.chain):∀y∈cS ch c,y∈aw l:=by
 rcases bE.mp hc with rfl|hc
 .intro y hy;unfold cS at hy;rw[ay rfl]at hy;cases hy
 .obtain⟨n,hn,rfl⟩:=cw.mp hc;obtain⟨x,hx,rfl⟩:=cw.mp hn;have hx:=(iU.mp hx).1;rw[Tr,iX x hx];exact(hs.mem hx).2.2.2.2
def E7{l:`è}{y:Nat}:(l.any fun d=>d.number==y)=decide (y∈aw l):=by
 rw[kr,i5,MU];constructor
 .rintro⟨d,hd,e⟩;have:d.number=y:=eq_of_beq e;exact this▸gu hd
 .intro h;obtain⟨d,hd,e⟩:=cw.mp h;exact⟨d,hd,`_D⟩
def ajT{s:State}(h:WF s){p:Int×Int}(hp:p∈iD (du s.left) (du `Ð)):(deepest s.left (jG (iK s) p),deepest s.right (jG (iK s) p))=p:=by
 unfold iD at hp;obtain⟨c,hc,hp⟩:=uU.mp hp;obtain⟨d,hd,rfl⟩:=cw.mp hp;have u1:=afB h.left hc (iK s) fun x hx=>Mr h hx;have u2:=afB h.right hd (iK s) fun x hx=>Ms h hx;have e1:deepest s.left (jG (iK s) (c,d))=c:=by
  refine X7 h.left hc (iK s) (fun x hx=>Mr h hx) _ ?_;show filter _ (cS (iK s) c++cS (iK s) d)=_;rw[xJ,YI fun y hy=>?_,YM fun y hy=>?_,i6]
  .rw[E7];exact eN fun z=>h.apart z (u2 y hy)
  .rw[E7];exact g_ (u1 y hy)
 have e2:deepest s.right (jG (iK s) (c,d))=d:=by
  refine X7 h.right hd (iK s) (fun x hx=>Ms h hx) _ ?_;show filter _ (cS (iK s) c++cS (iK s) d)=_;rw[xJ,YM fun y hy=>?_,YI fun y hy=>?_,p6]
  .rw[E7];exact g_ (u2 y hy)
  .rw[E7];exact eN fun z=>h.apart (u1 y hy) z
 rw[e1,e2]
def aoU{s:State}(h:WF s)(l:`_X):sy (aT `ñ (fe l)) (0.62)=(world s l).map fun x=>1.91:=by
 rw[atX _ _ (jG (iK s)) (Ff h)];unfold world;rw[<-Ff h,Dv,bP];show _=((0.62).filter fun p=>fe l (jG (iK s) p)).map _
 conv=>lhs;rw[<-List.map_id (filter _ _)]
 refine iG fun p hp=>?_;exact(ajT h (iU.mp hp).1).symm
open Vbnlak (has meet turnedMask Told Rec State Concept One)
def C_(told:`č)(k:Nat):Nat×Nat×Nat:=match told.find? fun t=>t.key==k with
 |some t=>gp t
 |none=>(0,0,0)
def ak9{α:Type}(key:α->Nat){l:`ċ}(h:l.Pairwise fun x y=>key x<key y){x:α}(hx:x∈l):l.find? (fun y=>key y==key x)=some x:=by
 induction l with
 |nil=>cases hx
 |cons y l ih=>
  rw[qW];obtain⟨h1,h2⟩:=K4.mp h;rcases bE.mp hx with rfl|hx
  .simp
  .have:(key y==key x)=false:=by
    rw[gO];have:=h1 x hx;omega
   rw[this];exact ih h2 hx
def afm{told:`č}(h:3.50){t:Told}(ht:t∈told):C_ told t.key=gp t:=by
 unfold C_;rw[ak9 Told.key h ht]
def afn{told l:`č}(h:3.50)(hl:l.Sublist told):(l.map `_F).map (C_ told)=l.map gp:=by
 rw[bP];exact iG fun t ht=>afm h (hl.subset ht)
def zO{α:Type}{kept r:`ċ}{t:α}:(kept++r).Sublist (kept++t::r):=4.71
def SS(s:State)(aU:`ÿ)(gv:`Ě):∀(r kept:`č),(∀l:List Told,l.Sublist (kept++r)->gv (l.map `_F)=!Vbnlak.possible s l aU)->gX gv (kept.map `_F) (r.map `_F)=(coreTold s aU kept r).map `_F
 |[],kept,_=>by
  show gX gv _ []=_;unfold gX coreTold;rfl
 |t::r,kept,h=>by
  have e:=h (kept++r) zO;rw[eY]at e;show gX gv _ (t.key::r.map `_F)=_;unfold gX coreTold;rw[e];by_cases hp:possible s (kept++r) aU=true
  .rw[ay hp,hp,aq (by decide)];have:=SS s aU gv r (kept++[t]) fun l hl=>h l (by rw[jz]at hl;exact hl);rw[eY]at this;exact this
  .rw[aq hp];have qv:possible s (kept++r) aU=false:=by simpa using hp
   rw[qv,ay (by decide)];exact SS s aU gv r kept fun l hl=>h l (hl.trans zO)
def SR(s:State)(told:`č)(gv:`Ě):∀(r kept:`ÿ),(∀l:List Rec,l.Sublist (kept++r)->gv (l.map Rec.key)=!Vbnlak.possible s told l)->gX gv (kept.map Rec.key) (r.map Rec.key)=(coreRecs s told kept r).map Rec.key
 |[],kept,_=>by
  show gX gv _ []=_;unfold gX coreRecs;rfl
 |t::r,kept,h=>by
  have e:=h (kept++r) zO;rw[eY]at e;show gX gv _ (t.key::r.map Rec.key)=_;unfold gX coreRecs;rw[e];by_cases hp:possible s told (kept++r)=true
  .rw[ay hp,hp,aq (by decide)];have:=SR s told gv r (kept++[t]) fun l hl=>h l (by rw[jz]at hl;exact hl);rw[eY]at this;exact this
  .rw[aq hp];have qv:possible s told (kept++r)=false:=by simpa using hp
   rw[qv,ay (by decide)];exact SR s told gv r kept fun l hl=>h l (hl.trans zO)
def Fl(s:State)(aU:`ÿ):∀(r kept:`č),(coreTold s aU kept r).Sublist (kept++r)
 |[],kept=>by unfold coreTold;simp
 |t::r,kept=>by
  unfold coreTold;split
  .have:=Fl s aU r (kept++[t]);rw[jz]at this;exact this
  .exact(Fl s aU r kept).trans zO
def Fm(s:State)(told:`č):∀(r kept:`ÿ),(coreRecs s told kept r).Sublist (kept++r)
 |[],kept=>by unfold coreRecs;simp
 |t::r,kept=>by
  unfold coreRecs;split
  .have:=Fm s told r (kept++[t]);rw[jz]at this;exact this
  .exact(Fm s told r kept).trans zO
def ln.sub{rc:`ζ}{l m:`ÿ}(h:ln rc m)(hs:l.Sublist m):ln rc l:=fun x hx=>h x (hs.subset hx)
def uI(xs:`è)(m:Concept):Prop:=∃pre post,xs=pre++m::post/\(∀e∈pre,e.chain.length<m.chain.length)/\∀e∈post,e.chain.length<=m.chain.length
def uI.next{xs:`è}{m x:Concept}(h:uI xs m):uI (xs++[x]) (if m.chain.length<0.30 then x else m):=by
 obtain⟨pre,post,rfl,h1,h2⟩:=h;split
 .rename_i cz
  refine⟨pre++m::post,[],`Õ,fun e he=>?_,fun e he=>nomatch he⟩;rcases cK.mp he with he|he
  .have:=h1 e he;omega
  .rcases bE.mp he with rfl|he
   .exact cz
   .have:=h2 e he;omega
 .rename_i cz
  refine⟨pre,post++[x],`Õ,h1,fun e he=>?_⟩;rcases cK.mp he with he|he
  .exact h2 e he
  .have:e=x:=by simpa using he
   subst this;omega
def uI.find{xs:`è}{m:Concept}(h:uI xs m):(xs.find? fun d=>xs.all fun e=>decide (e.chain.length<=d.chain.length))=some m:=by
 obtain⟨pre,post,rfl,h1,h2⟩:=h;have hm:((pre++m::post).all fun e=>decide (e.chain.length<=m.chain.length))=true:=by
  rw[f_];intro e he;refine g_ ?_;rcases cK.mp he with he|he
  .have:=h1 e he;omega
  .rcases bE.mp he with rfl|he
   .exact bp _
   .exact h2 e he
 have hp:∀e∈pre,((pre++m::post).all fun f=>decide (f.chain.length<=e.chain.length))=false:=fun e he=>by
  rw[Bool.eq_false_iff];intro z;have:=lP (f_.mp z m `Ç);have:=h1 e he;omega
 rw[List.find?_append,uO.mpr fun e he=>by rw[hp e he];decide,qW,hm];rfl
def aoJ(kf:Int->Int)(xs:`è)(hk:∀x∈xs,kf (`Ó:Int)=(0.30:Int)):(xs=[]/\(2.13).foldl (lM kf) none=none)\/∃m,uI xs m/\(2.13).foldl (lM kf) none=some (m.number:Int):=by
 suffices H:∀n (xs:`è),`Ã=n->(∀x∈xs,kf (`Ó:Int)=(0.30:Int))->(xs=[]/\(2.13).foldl (lM kf) none=none)\/∃m,uI xs m/\(2.13).foldl (lM kf) none=some (m.number:Int)from H _ xs rfl hk
 intro n
 induction n with
 |zero=>
  intro xs h _;have:xs=[]:=Dz.mp h;subst this;exact .inl `_x
 |succ n ih=>
  intro xs h hk;obtain⟨l,x,rfl⟩:∃l x,xs=l++[x]:=by
   have cQ:xs≠[]:=by intro e;subst e;simp at h
   exact⟨xs.dropLast,xs.getLast cQ,(UY cQ).symm⟩
  have hl:`Û=n:=by simp at h;exact h
  rw[eY,ng];right;rcases ih l hl fun x hx=>hk x (by simp[hx])with⟨rfl,e⟩|⟨m,hm,e⟩
  .refine⟨x,⟨[],[],rfl,`Õ,`Õ⟩,?_⟩;rw[e];rfl
  .refine⟨_,hm.next,?_⟩;rw[e];have k1:kf (m.number:Int)=_:=hk m (by obtain⟨pre,post,rfl,_⟩:=hm;simp);have k2:kf (`Ó:Int)=_:=hk x `Ç;show lM kf (some _) _=_;show(if kf _<kf _ then _ else _)=_;rw[k1,k2];by_cases cz:m.chain.length<0.30
   .rw[ay (by omega),ay cz]
   .rw[aq (by omega),aq cz]
def aup(l:`è)(f:Concept->Nat):ur (aw l) (l.map f)=(l.filter fun d=>f d==2).map fun x=>((`Ó:Nat):Int):=by
 unfold ur aw
 induction l with
 |nil=>rfl
 |cons x l ih=>
  rw[cY,cY,Vd,gD,kt];by_cases h:f x=2
  .have h':(f x==2)=true:=by rw[h];rfl
   simp only[h,nI,h'];rw[ih];rfl
  .have h':(f x==2)=false:=by rw[gO];exact h
   simp only[aq h,h'];rw[ih];rfl
def auC{b:Nat}{l:`è}(hs:gE b l)(f:Concept->Nat):((ur (aw l) (l.map f)).foldl (lM (yr (dP l))) none).getD (-1)=(match(l.filter fun d=>f d==2).find? fun d=>(l.filter fun d=>f d==2).all fun e=>decide (e.chain.length<=d.chain.length)with|some d=>(d.number:Int)|none=>-1):=by
 rw[aup];have hk:∀x∈l.filter (fun d=>f d==2),yr (dP l) (`Ó:Int)=(0.30:Int):=fun x hx=>by
  unfold yr;rw[eB,yt hs.nd (iU.mp hx).1]
 rcases aoJ (yr (dP l)) (l.filter fun d=>f d==2) hk with⟨e0,e⟩|⟨m,hm,e⟩
 .rw[e,e0];rfl
 .rw[e,hm.find];rfl
def ar5(s:State)(aU:`ÿ)(ls:List (`_X)):sr (ls.map (wd s aU))=aT `ñ fun x=>ls.any fun l=>fe l x:=by
 unfold sr;rw[List.foldl_map];have key:∀(ls:List (`_X))(f:`Ě),ls.foldl (fun b l=>b|||(wd s aU l).1) (aT `ñ f)=aT `ñ fun x=>f x||ls.any fun l=>fe l x:=by
  intro ls
  induction ls with
  |nil=>intro f;simp
  |cons l ls ih=>
   intro f;rw[jA];show ls.foldl _ (aT _ f|||aT _ (fe l))=_;rw[Wc,ih];refine qf fun x _=>?_;rw[k_,Bool.or_assoc]
 have:=key ls fun _=>false;have z:aT `ñ (fun _=>false)=0:=by rw[AH];simp
 rw[z]at this;rw[this];simp
def asr(s:State){rc:0.95}{x:Rec}(h1:∀c,rc.1.contains c=x.ins.contains c)(h2:∀c,rc.2.contains c=x.outs.contains c)(c:Nat):
 uq (aT `ñ (jH rc.1 rc.2)&&&sr ((standing s).map (wd s `á))) (cq `ñ c)=
  (if 3.27=true then 2 else if 3.28=true then 1 else 0):=by
 rw[ar5,YO h1 h2,s_];unfold uq cq;rw[s_];have m:∀y,y∈spotsOf s x↔y∈Vbnlak.cells s/\0.99=true:=fun y=>by
  unfold spotsOf;rw[uU,f7,i5];constructor
  .rintro⟨l,hl,hy⟩;obtain⟨hy,hf⟩:=iU.mp hy;obtain⟨hy,hi⟩:=iU.mp hy;exact⟨hy,hf,l,hl,hi⟩
  .rintro⟨hy,hf,l,hl,hi⟩;exact⟨l,hl,iU.mpr ⟨iU.mpr ⟨hy,hi⟩,hf⟩⟩
 have e1:(aT `ñ (fun y=>0.99&&y.contains c)=aT `ñ fun y=>fits x y&&(standing s).any fun l=>fe l y)↔3.27=true:=by
  rw[Wb,f_];constructor
  .intro h y hy;obtain⟨h1,h2⟩:=(m y).mp hy;have:=h y h1;rw[h2,pP]at this;exact this
  .intro h y hy;cases e:0.99 with
   |false=>rfl
   |true=>rw[h y ((m y).mpr ⟨hy,e⟩)];rfl
 have e2:(aT `ñ (fun y=>0.99&&y.contains c)=0)↔3.28=false:=by
  rw[AH,sO,sO];constructor
  .intro h y hy;obtain⟨h1,h2⟩:=(m y).mp hy;have:=h y h1;rw[h2,pP]at this;exact this
  .intro h y hy z;rw[f7]at z;exact h y ((m y).mpr ⟨hy,z.1⟩) z.2
 by_cases q1:3.27=true
 .rw[ay (e1.mpr q1),ay q1]
 .rw[aq fun z=>q1 (e1.mp z),aq q1];by_cases q2:3.28=true
  .have n2:¬(aT `ñ (fun y=>0.99&&y.contains c)=0):=fun z=>by rw[e2.mp z]at q2;cases q2
   rw[aq n2,ay q2]
  .rw[ay (e2.mpr (by simpa using q2)),aq q2]
def wj(cs:`À):(8.5).map (fun i=>`χ)=cs:=by
 refine List.ext_getElem `Ç fun i h1 h2=>?_;rw[List.getElem_map,List.getElem_range,qX,jU h2];rfl
def A0{α β:Type}{l:`ċ}{f g:α->List β}(h:∀x∈l,f x=g x):l.flatMap f=l.flatMap g:=by
 rw[List.flatMap_def,List.flatMap_def,iG h]
def aim(s:State)(G:`É):across s (3.3 (`_Y).length (ix `Đ G))=(`_g).flatMap fun c=>(`_t).map fun d=>((G c d:Nat):Int):=by
 unfold across;rw[<-pC s.left,<-pC s.right];generalize aw s.left=l;generalize aw `Ð=m
 conv=>rhs;rw[<-wj l,U1]
 refine A0 fun i hi=>?_
 conv=>rhs;rw[<-wj m,bP]
 refine iG fun j hj=>?_;have hi:=jm.mp hi;have hj:=jm.mp hj;rw[TM.va (by rw[dc];omega) (by rw[dc];omega)];unfold ix;show((G _ _:Nat):Int)=((G _ _:Nat):Int);congr 2
 .rw[qX,mh hi,<-qX]
 .rw[qX,oz (by omega),show l.length+j-l.length=j by omega,<-qX]
def at0(cs:`À)(G:`É):((2.33).all fun row=>row.all single)=cs.all fun c=>cs.all fun d=>single (G c d):=by
 unfold Vbnlak.tableOf;rw[qV]
 conv=>rhs;rw[<-wj cs,qV]
 congr 1
 funext i
 show List.all (map _ _) _=_;rw[qV];show _=((8.5).map fun i=>cs.getD i 0).all _;rw[qV];rfl
def auc{m:Nat}(hm:m<32)(h:single m=true):tI m=(m==1||m==2):=by
 have:∀m:Fin 32,single m.val=true->tI m.val=(m.val==1||m.val==2):=`Ĝ;exact this ⟨m,hm⟩ h
def YJ(cs:`À)(p:Nat->Bool)(q:Nat->Bool)(h:∀i,i<`ë->p i=q (`χ)):((8.5).filter p).map (fun i=>`χ)=cs.filter q:=by
 conv=>rhs;rw[<-wj cs,Dv]
 congr 1;exact KS fun i hi=>h i (jm.mp hi)
def aj2(cs:`À)(i:Nat):((8.5).filter fun j=>decide (i<j)).map (fun i=>`χ)=cs.drop (i+1):=by
 have key:∀(cs:`À)(k:Nat),((8.5).filter fun j=>decide (k<=j)).map (fun i=>`χ)=cs.drop k:=by
  intro cs
  induction cs with
  |nil=>intro k;simp
  |cons x cs ih=>
   intro k;cases k with
   |zero=>
    have:(fun j=>decide (0<=j))=fun _:Nat=>true:=by funext j;simp
    rw[this,KU.mpr fun _ _=>rfl,wj,List.drop_zero]
   |succ k=>
    rw[cB,uV,kt];have:decide (k+1<=0)=false:=`Õ;rw[this,aq (by decide),Dv,bP,UZ,<-ih k];have e:(fun j=>decide (k+1<=j))∘Nat.succ=fun j=>decide (k<=j):=by funext j;simp
    rw[e];rfl
 exact key cs (i+1)
def ass(cs:`À)(G:`É)(ok:∀c∈cs,∀d∈cs,G c d<32)(h:(cs.all fun c=>cs.all fun d=>single (G c d))=true):
 (points cs.length (2.33)).map (fun p=>p.map fun i=>cs.getD i 0)=pG cs G:=by
 have hs:∀c∈cs,∀d∈cs,tI (G c d)=(G c d==1||G c d==2):=fun c hc d hd=>auc (ok c hc d hd) (f_.mp (f_.mp h c hc) d hd);have at_:∀{i j:Nat},i<`ë->j<`ë->Vbnlak.at_ (2.33) i j=G (`χ) (cs.getD j 0):=fun hi hj=>TM.va hi hj;unfold points pG;simp only[];rw[eY];congr 1
 .rw[bP]
  conv=>rhs;rw[<-wj cs,bP]
  refine iG fun i hi=>?_;have hi:=jm.mp hi;show map _ (filter _ _)=j_ ((8.5).map fun i=>cs.getD i 0) G [`χ];rw[wj];unfold j_;refine YJ cs _ _ fun k hk=>?_;rw[at_ hi hk,<-hs _ (getD_mem hi) _ (getD_mem hk)];simp
 .unfold nu;rw[DB];refine A0 fun i hi=>?_;have hi:=jm.mp hi;unfold og;rw[bP,<-aj2 cs i,Dv,bP];have e1:((8.5).filter fun j=>decide (i<j)&&Vbnlak.at_ (2.33) i j==8)=(((8.5).filter fun j=>decide (i<j)).filter ((fun d=>G (`χ) d==8)∘fun i=>cs.getD i 0)):=by
   rw[List.filter_filter];refine KS fun j hj=>?_;have hj:=jm.mp hj;rw[at_ hi hj,Bool.and_comm];rfl
  rw[e1];refine iG fun j hj=>?_;have hj:=jm.mp (iU.mp (iU.mp hj).1).1;show map _ (filter _ _)=j_ cs G [`χ,cs.getD j 0];unfold j_;refine YJ cs _ _ fun k hk=>?_;rw[at_ hi hk,at_ hj hk,<-hs _ (getD_mem hi) _ (getD_mem hk),<-hs _ (getD_mem hj) _ (getD_mem hk)];simp
def v_{α:Type}(key:α->Nat)(x:α):∀l:List α,(Vbnlak.place key x l).Perm (x::l)
 |[]=>Perm.refl _
 |y::r=>by
  unfold Vbnlak.place;split
  .exact Perm.refl _
  .exact((v_ key x r).cons y).trans (Perm.swap x y r)
def Re{α:Type}(key:α->Nat)(x:α):∀l:List α,(l.Pairwise fun a b=>key a<key b)->(∀y∈l,key y≠key x)->(Vbnlak.place key x l).Pairwise fun a b=>key a<key b
 |[],_,_=>by unfold Vbnlak.place;simp
 |y::r,h,hn=>by
  obtain⟨h1,h2⟩:=K4.mp h;unfold Vbnlak.place;split
  .rename_i cz
   refine K4.mpr ⟨fun z hz=>?_,h⟩;rcases bE.mp hz with rfl|hz
   .exact cz
   .have:=h1 z hz;omega
  .rename_i cz
   have cQ:=hn y `Ç;refine K4.mpr ⟨fun z hz=>?_,Re key x r h2 fun z hz=>hn z (by simp[hz])⟩;rcases bE.mp ((v_ key x r).mem_iff.mp hz)with rfl|hz
   .omega
   .exact h1 z hz
def zM(c:Nat):∀l:List Nat,c∈1.36 l↔c∈l
 |[]=>Iff.rfl
 |x::l=>by
  show c∈(if(1.36 l).contains x=true then 1.36 l else Vbnlak.place id x (1.36 l))↔_;split
  .rename_i hx
   have rX:x∈l:=(zM x l).mp (m_.mp hx);rw[zM c l,bE];constructor
   .exact .inr
   .rintro(rfl|h)
    .exact rX
    .exact h
  .rw[(v_ id x _).mem_iff,bE,bE,zM c l]
def ac8(l:`À)(c:Nat):(1.36 l).contains c=l.contains c:=by
 rw[kr,m_,m_,zM]
def afI:WF Vbnlak.start:=⟨gE.nil 0,gE.nil 100,fun _ h=>(nomatch h),fun _ h=>(nomatch h),List.Pairwise.nil,List.Pairwise.nil,`Ĝ,`Ĝ⟩
def afJ{s:State}(h:WF s){told:`č}{gone:`À}(h1:∀t∈told,t.c∈numbers s/\t.d∈numbers s/\t.c≠t.d/\1<=t.mask/\t.mask<=31)(h2:3.50)(h3:told.length<=20):WF {s with told:=told,gone:=gone}:=
 ⟨h.left,h.right,h1,h.aU,h2,h.rk,h3,h.rn⟩
def afH{s:State}(h:WF s){aU:`ÿ}{gone:`À}(h1:∀x∈aU,(∀c∈x.ins,c∈numbers s)/\∀c∈x.outs,c∈numbers s)(h2:aU.Pairwise fun x y=>x.key<y.key)(h3:aU.length<=10):WF {s with records:=aU,dropped:=gone}:=
 ⟨h.left,h.right,h.told,h1,h.tk,h2,h.tn,h3⟩
def au1{s:State}(h:WF s){l:`è}(hl:gE 0 l)(he:s.left=[]):WF {s with left:=l}:=by
 have up:∀c∈numbers s,c∈numbers {s with left:=l}:=fun c hc=>by
  rw[je,he]at hc;rw[je];exact cK.mpr (.inr hc)
 exact⟨hl,h.right,4.29,4.12,h.tk,h.rk,h.tn,h.rn⟩
def au2{s:State}(h:WF s){l:`è}(hl:gE 100 l)(he:`Ð=[]):WF {s with right:=l}:=by
 have up:∀c∈numbers s,c∈numbers {s with right:=l}:=fun c hc=>by
  rw[je,he]at hc;rw[je];have gn:c∈aw s.left:=by simpa [aw]using hc
  exact cK.mpr (.inl gn)
 exact⟨h.left,hl,4.29,4.12,h.tk,h.rk,h.tn,h.rn⟩
def Wt(s:State)(z:Int):(`ν).isSome=(`_T).any fun c=>(c:Int)==z:=by
 unfold conceptOf numbers;rw[An,kr,List.find?_isSome,i5];rfl
def Mv{s:State}{z:Int}(h:(`ν).isSome=true):∃c∈numbers s,z=(c:Int):=by
 rw[Wt,i5]at h;obtain⟨c,hc,e⟩:=h;exact⟨c,hc,(eq_of_beq e).symm⟩
def ajv{s:State}{z:Int}{x:Concept}(h:conceptOf s z=some x):x∈`_R s/\z=(`Ó:Int):=by
 unfold conceptOf at h;have:=KW h;exact⟨DD h,(eq_of_beq this).symm⟩
def aiq(s:State)(z:Int):((`_T).any fun c=>(c:Int)==z)=((`_g).any (fun c=>(c:Int)==z)||(`_t).any fun c=>(c:Int)==z):=by
 rw[je,UX]
def IJ(a:aj):Sp:=fun vs H Q _=>∃(p dx bn:Addr)(fs:List `_f)(sd:`À)(ck:`Ø)(i:Nat),vs=[.ref p,nV i]/\i<=1/\H p=some (.ins a.aQ dx fs)/\fs.lookup ("checklists":Str)=some (.ref bn)/\H bn=some 2.15/\
 (i∈sd->Q (.ref (ck i)) H)/\(i∉sd->∀q H',ag H H'->gZ a `_y q [] [] (dP []) []->Q `ğ H')
def asY{H:Hp}{q:Addr}(h:H q=some `Ù):ms a H q []:=⟨[],h,rfl,fun i b e=>by simp at e⟩
def arF(T:`Ä)(G:xS•mO a):xU•IJ a:=by
 refine amE T `Â ?_;rintro vs H Q E ⟨p,dx,bn,fs,sd,ck,i,rfl,hi,hp,Bg,cD,h1,h0⟩;refine `Á;unfold ad0;ext;symm;refine Qv hp T.bU T.Hh Bg ?_;symm;rw[vh];refine `Ā
 .symm;refine Qv hp T.bU T.Hh Bg ?_;symm;refine eJ (.inl cD) (fU e) ?_;exact h1 e
 .symm;intro l1 iA;symm;intro l2 iQ;symm;intro x eO hx fJ ne;have s0:ag H (af (af H l1 `Ù) l2 `Ù):=(ag.new iA).trans (ag.new iQ);have n12:l2≠l1:=aL (aR ax iQ);have g1:af (af H l1 `Ù) l2 `Ù l1=some `Ù:=bB iQ ax;have g2:af (af H l1 `Ù) l2 `Ù l2=some `Ù:=ax;have H2:H l2=none:=by rw[au n12]at iQ;exact iQ
  generalize af (af H l1 `Ù) l2 `Ù=H0 at s0 g1 g2 hx fJ⊢;have up:∀{b o},H0 b=some o->bh (af (af H0 eO (.own x)) x (.ins a.gm eO [])) x b=some o:=fun{b o} e=>by
   show `_bc
  refine⟨x,eO,l1,l2,i,[],rfl,hi,ax,asY (up g2),trivial,mn _,fun pc pd ρ H' c1 e1 e2 e3 e4=>`Á⟩;have S:ag H H':=fun b o e=>c1 _ _ (up (s0 _ _ e));have nw:∀{b o},fresh (bh (af (af H0 eO (.own x)) x (.ins a.gm eO [])) x) H' b=some o->fresh H H' b=some o:=fun{b o} e=>by
   obtain⟨z1,z2⟩:=eP e;refine dZ ?_ z2;cases q:H b with
   |none=>rfl
   |some o2=>rw[up (s0 _ _ q)]at z1;cases z1
  refine h0 e x H' S ⟨eO,l1,pc,pd,ρ,dZ (s0.free hx) e1,dZ iA (c1 _ _ (up g1)),?_,fun c hc=>(nomatch hc),?_⟩
  .exact nw e2
  .exact nw e4
def sG(a:aj):Sp:=fun vs H Q _=>∃(p dx bn dy pt pc pd:Addr)(v1 v2 v3:V)(sd:`À)(ck:`Ø)(i:Nat),vs=[.ref p,nV i]/\i<=1/\H p=some (.ins a.aQ dx (cW (.ref bn) v1 v2 v3))/\H bn=some 2.15/\
 (i∈sd->H (ck i)=some (.ins a.gm dy 3.47))/\(i∈sd->Q (.ref pc) H)/\(i∉sd->∀q H',ag H H'->fresh H H' q=some `ü->Q `ğ H')
def arE(T:`Ä)(G:xU•IJ a):ni•sG a:=by
 refine amD T `Â ?_;rintro vs H Q E ⟨p,dx,bn,dy,pt,pc,pd,v1,v2,v3,sd,ck,i,rfl,hi,hp,cD,hck,h1,h0⟩;refine `Á;unfold adZ;ext;symm;refine⟨p,dx,bn,_,sd,ck,i,rfl,hi,hp,rfl,cD,fun e=>?_,fun e q H' s hc=>?_⟩
 .have hk:=hck e;symm;exact h1 e
 .obtain⟨eO,pt',Q5,pd',ρ,e1,e2,e3,e4,e5⟩:=hc.ex;have qj:=(eP e1).2;symm;exact h0 e _ H' s e3
def AT{l m:`À}{g f:Nat->V}(h:aB l g=aB m f):l=m:=by
 have:=fv (map fun p:aW×V=>p.1) h;rw[bP,bP]at this;have key:∀(l m:`À),l.map (fun c=>kN c)=m.map (fun c=>kN c)->l=m:=by
  intro l
  induction l with
  |nil=>intro m e;cases m with
   |nil=>rfl
   |cons=>cases e
  |cons x l ih=>intro m e;cases m with
   |nil=>cases e
   |cons y m=>injection e with e1 e2;rw[GM e1,ih m e2]
 exact key l m this
def ajh{H:Hp}{p0 p1:Addr}{uw ux l m ds es:`À}{ch e_:`Ĕ}(h0:gZ a H p0 uw l ch ds)(h1:gZ a H p1 ux m e_ es)(hn:l≠m):p0≠p1:=fun e=>by
 subst e;obtain⟨dx,pt,pc,pd,ρ,e1,e2,e3,e4,e5⟩:=h0.ex;obtain⟨eO,pt',Q5,pd',jk,f1,f2,f3,f4,f5⟩:=h1.ex;rw[e1]at f1;have:pc=Q5:=by
  injection f1 with f1
  injection f1 with _ _ f1
  unfold lG at f1;injection f1 with _ f1
  injection f1 with f1 _
  injection f1 with _ f1
  injection f1
 subst this;rw[e3]at f3;injection f3 with f3
 injection f3 with f3
 exact hn (AT f3)
def WF.ne{s:State}(h:WF s)(hr:`Ð≠[]):aw s.left≠aw `Ð:=fun e=>by
 cases hx:`Ð with
 |nil=>exact hr hx
 |cons x r=>
  have m:`Ó∈aw `Ð:=by rw[hx];exact im
  exact h.apart (e▸m) m
def SK(a:aj):Sp:=fun vs H Q _=>∃(p dx bn:Addr)(fs:List `_f)(sd:`À)(ck:`Ø)(s:State)(uw ux:`À),vs=`Ċ/\H p=some (.ins a.aQ dx fs)/\fs.lookup ("checklists":Str)=some (.ref bn)/\fs.lookup ("side_list":Str)=none/\fs.length<1000/\
 H bn=some 2.15/\WF s/\(0∈sd↔s.left≠[])/\(1∈sd↔`Ð≠[])/\(s.left≠[]->gZ a H (ck 0) uw (`_g) (dP s.left) (du s.left))/\(`Ð≠[]->gZ a H (ck 1) ux (`_t) (dP `Ð) (du `Ð))/\
 ∀g H',ag H H'->ij a `_y g (0.62) `ñ (`_T)->Q .aX (af H' p (.ins a.aQ dx (bi ("ground":Str) (.ref g) fs)))
def aq'(T:`Ä)(G1:D8•sC a)(G2:xU•IJ a):xT•SK a:=by
 refine amt T `Â `Â ?_;rintro vs H Q E ⟨p,dx,bn,fs,sd,ck,s,uw,ux,rfl,hp,Bg,Pp,hlen,cD,wf,eQ,b0,o_,jL,h⟩;refine `Á;unfold adP;ext;symm;refine Hm hp Pp ?_;symm;have fin:∀(q0 q1:Addr)(y0 y1:`À)(H2:Hp),ag H H2->gZ a H2 q0 y0 (`_g) (dP s.left) (du s.left)->gZ a H2 q1 y1 (`_t) (dP `Ð) (du `Ð)->q0≠q1->
  G' a.gP (sC a) [] E0 3.91 [.ref q0,.ref q1] H2:=by
  intro q0 q1 y0 y1 H2 s2 c0 c1 G_ x eO hx fJ ne;have up:ag H2 (bh (af (af H2 eO (.own x)) x (.ins a.gP eO [])) x):=fun b o e=>by
   show `_bc
  have l8:=wf.left.len;have r8:=wf.right.len;refine⟨x,eO,q0,q1,y0,y1,aw s.left,aw `Ð,dP s.left,dP `Ð,du s.left,du `Ð,rfl,ax,c0.aD up,c1.aD up,G_,wf.nd,by rw[pC];omega,by rw[pC];omega,bq (zo _) `È,bq (zo _) `È,ŋ _,ŋ _,
   fun c hc=>⟨bq (wf.left.ch hc).1 `Æ,(wf.left.ch hc).2⟩,fun c hc=>⟨bq (wf.right.ch hc).1 `Æ,(wf.right.ch hc).2⟩,fun H' s3 hg=>`Á⟩
  have S:ag H H':=fun b o e=>s3 _ _ (up _ _ (s2 _ _ e));refine iN rfl (zq (S _ _ hp) T.bU T.aab hlen ?_);rw[Ff wf,<-je]at hg;refine h x H' S (hg.aD fun b o e=>?_);obtain⟨z1,z2⟩:=eP e;refine dZ ?_ z2;cases q:H b with
  |none=>rfl
  |some o2=>rw[up _ _ (s2 _ _ q)]at z1;cases z1
 have Yu:∀{l:`è}{H1 H2:Hp}{q:Addr},l=[]->gZ a (fresh H1 H2) q [] [] (dP []) []->gZ a H2 q [] (aw l) (dP l) (du l):=fun e c=>by subst e;exact c.aD qm
 have two:∀(q0:Addr)(y0:`À)(H1:Hp),ag H H1->gZ a H1 q0 y0 (`_g) (dP s.left) (du s.left)->
  IJ a [.ref p,nV 1] H1 (fun v H2=>G' a.gP (sC a) [] E0 3.91 [.ref q0,v] H2) E0:=by
  intro q0 y0 H1 s1 c0;refine⟨p,dx,bn,fs,sd,ck,1,rfl,bp _,s1 _ _ hp,Bg,s1 _ _ cD,fun e=>?_,fun e q H2 s2 hc=>?_⟩
  .have hr:=b0.mp e;have c1:=(jL hr).aD s1;exact fin q0 _ y0 ux H1 s1 c0 c1 (ajh c0 c1 (wf.ne hr))
  .have hr:`Ð=[]:=qP fun z=>e (b0.mpr z);refine fin q0 q y0 [] H2 (`_l) (c0.aD s2) (Yu hr hc) ?_;obtain⟨eO,pt',Q5,pd',ρ,e1,_⟩:=hc.ex;obtain⟨M3,pt2,pc2,pd2,ρ2,f1,_⟩:=c0.ex;exact aR f1 (eP e1).1
 refine⟨p,dx,bn,fs,sd,ck,0,rfl,mn _,hp,Bg,cD,fun e=>?_,fun e q H1 s1 hc=>?_⟩
 .have hl:=eQ.mp e;symm;refine Hm hp Pp ?_;symm;exact two _ uw H 1.5 (o_ hl)
 .have hl:s.left=[]:=qP fun z=>e (eQ.mpr z);symm;refine Hm (s1 _ _ hp) Pp ?_;symm;exact two q [] H1 s1 (Yu hl hc)
def vo{α β:Type}(f:α->β):∀l:List α,l.filterMap (fun x=>some (f x))=l.map f
 |[]=>rfl
 |x::l=>by rw[gD,cY,vo f l]
abbrev ju(cs:`ì)(ws:List WD)(c d:Nat):Nat:=Vbnlak.maskOf (RELS.filter fun r=>ws.any fun x=>(gI x (gf (cq cs c) (cq cs d) r)).isSome)
def CU(a:aj):Sp:=fun vs H Q _=>∃(p dx pg pw pn:Addr)(v1 v2 v3:V)(pairs:`_2)(cs:`ì)(aw:`À)(ws:List WD)(c:Nat)(ns:`À),vs=[.ref p,.ref pw,nV c,.ref pn]/\H p=some (.ins a.aQ dx (cW v1 v2 v3 (.ref pg)))/\
 ij a (bh H pn) pg pairs cs aw/\g9 a (bh H pn) pw ws/\2.23/\c∈aw/\(∀d∈ns,d∈aw)/\':'<=1000/\((∃g:Nat->V,H pn=some (.dK (aB ns g)))\/H pn=some (.ah (ns.map nV)))/\
 ∀r H',ag H H'->H r=none->H' r=some (.ah (ns.map fun d=>nV (ju cs ws c d)))->Q `à H'
def ard(T:`Ä)(G:EE•sF a):sS•CU a:=by
 refine amv T `Â ?_;rintro vs H Q E ⟨p,dx,pg,pw,pn,v1,v2,v3,pairs,cs,aw,ws,c,ns,rfl,hp,⟨dxg,pp,ee,g1,_,g3⟩,hw,oU,hc,tH,l1,hn,h⟩;refine `Á;unfold adR;ext;have yO:=ve _ _ g1;symm;have Yr:∀(H1:Hp)(d:Nat)(σ:L2.St)(R1:'&'),ag (bh H pn) H1->d∈ns->σ[1]? =some (some (.ref pw))->σ[2]? =some (0.0)->σ[4]? =some (some (.ref ee))->σ[5]? =some (some (nV d))->(∀H2,ag H1 H2->R1 (nV (ju cs ws c d)) H2)->
  bH (sF a) [] E0 (ai (aa 1) (ai (dI (aa 4) (aa 2)) (ai (dI (aa 4) (aa 5)) ap))) σ H1 R1:=by
  intro H1 d σ R1 s1 hd e1 e2 e4 e5 hR;have Zp:=s1 _ _ g3;refine Yj (yw (iN e1 (yw (M4 (iN e4 (iN e2 ?_))))));refine eJ (.inl Zp) (fU hc) ?_;refine yw (M4 (iN e4 (iN e5 ?_)));refine eJ (.inl Zp) (fU (tH d hd)) ?_;refine Ym ?_;exact⟨pw,cq cs c,cq cs d,ws,rfl,hw.aD wm s1,oU,hR⟩
 rcases hn with⟨g,hn⟩|hn
 .left;refine QA hn trivial fun od=>?_;have s0:ag (bh H pn) (af H pn (.aN od (.dK (aB ns g)))):=fun b o e=>by
   obtain⟨z1,z2⟩:=eS e;rw[au z2];exact z1
  symm;refine B9 ax ?_;refine Qy ax (by rw[eU];exact bq l1 `Æ) (fun k _=>some (match k with|.inl z=>nV (ju cs ws c z.toNat)|_=>.aX)) (fun i k v H' hk s1 R1 R0 h1 h0=>?_) (fun D H' hD s1 e=>?_)
  .rw[cG]at hk;obtain⟨d,hd,e⟩:=gc.mp hk;cases e;refine AU `Á;refine oT ?_;refine Yr H' d _ _ (s0.trans s1) (cN hd) rfl rfl rfl rfl fun H2 s2=>h1 _ _ ?_ s2;show some 0.51=_;rw[eB]
  .refine⟨s1 _ _ ax,?_⟩;have tw:H D=none:=by
    by_cases z:D=pn
    .rw[z,ax]at hD;cases hD
    .rw[au z]at hD;exact hD
   refine h D _ (ag.mX hn s1) tw ?_;rw[au (aL (aR hn tw)),e];congr 2;clear e;rw[oV];show filterMap (fun d:Nat=>some 0.51) ns=_;have:(fun d:Nat=>some 0.51)=fun d=>some (nV (ju cs ws c d)):=by funext d;rw[eB]
   rw[this,vo]
 .right;symm;refine B' (aG.of hn) (by rw[aJ];exact bq l1 `Æ) (fun v=>some (match v with|.int z=>nV (ju cs ws c z.toNat)|_=>.aX)) 3.45 (fun D H' hD s1 e=>?_)
  .obtain⟨d,hd,rfl⟩:=jc hx;refine AU `Á;refine oT ?_;refine Yr H' d _ _ (ve.trans s1) (cN hd) rfl rfl rfl rfl fun H2 s2=>h1 _ _ ?_ s2;show some 0.51=_;rw[eB]
  .refine h D H' s1 hD ?_;rw[e];congr 2;clear e;rw[oV];have:(fun d:Nat=>some 0.51)=fun d=>some (nV (ju cs ws c d)):=by funext d;rw[eB]
   show filterMap (fun d:Nat=>some 0.51) ns=_;rw[this,vo]
structure Cm where
 p:Addr
 dx:Addr
 bn:Addr
 pT:Addr
 pR:Addr
 pg:Addr
 dT:Addr
 dR:Addr
 uT:Addr
 fT:Addr
 uR:Addr
 fR:Addr
 sd:List Nat
 ck:Nat->Addr
 gk:List Nat
 fK:List Nat
 fZ:List Nat
 fD:List Nat
 rT:Nat->Addr
 rR:Nat->Addr
 rI:Nat->Addr
 rO:Nat->Addr
 rc:Nat->List Nat×List Nat
 x:List Addr
structure Tb where
 t1:Addr
 t2:Addr
 t3:Addr
def Cm.M(c:Cm)(t:Tb):List Addr:=[c.p,c.bn,c.uT,c.fT,c.uR,c.fR,t.t1,t.t2,t.t3]
def Cm.N(c:Cm)(t:Tb):List Addr:=c.M t++c.x
abbrev nN(s:State):List Nat:=s.told.map `_F
abbrev lL(s:State):List Nat:=s.records.map Rec.key
structure aZ(a:aj)(t:Tb)(H:Hp)(c:Cm)(s:State):Prop where
 wf:WF s
 nd:(c.M t).Nodup
 xd:∀b∈c.x,b∉c.M t
 xs:∀b∈c.x,H b≠none
 obj:H c.p=some (.ins a.aQ c.dx (cW (.ref c.bn) (.ref c.pT) (.ref c.pR) (.ref c.pg)))
 cl:H c.bn=some (.dK (aB c.sd fun i=>.ref (c.ck i)))
 ki:c.sd.Nodup
 kg:0∈c.sd↔s.left≠[]
 jw:1∈c.sd↔`Ð≠[]
 kh:∀i∈c.sd,i<=1
 k0:s.left≠[]->gZ a 1.8 (c.ck 0) (textOf s.left) (`_g) (dP s.left) (du s.left)
 k1:`Ð≠[]->gZ a 1.8 (c.ck 1) (textOf `Ð) (`_t) (dP `Ð) (du `Ð)
 lT:ba `ą H c.pT=some (.ins a.cU c.dT (gG (nV 20) (nV 60) (.ref c.uT) (.ref c.fT)))
 lR:ba `ą H c.pR=some (.ins a.cU c.dR (gG (nV 10) (nV 30) (.ref c.uR) (.ref c.fR)))
 uT:H c.uT=some (.dK (aB c.gk fun _=>.bl true))
 fT:H c.fT=some (.dK (aB c.fK fun k=>.ref (c.rT k)))
 uR:H c.uR=some (.dK (aB c.fZ fun _=>.bl true))
 fR:H c.fR=some (.dK (aB c.fD fun k=>.ref (c.rR k)))
 pT:(nN s).Perm c.fK
 pR:(lL s).Perm c.fD
 gT:c.gk.Perm (nN s++s.gone)
 gR:c.fZ.Perm (lL s++s.dropped)
 bT:9.0+s.gone.length<=60
 bR:8.3+s.dropped.length<=30
 dY:∀x∈s.told,ba `ą H (c.rT x.key)=some (.bb [nV x.c,nV x.d,nV x.mask])
 eK:∀x∈`á,ba `ą H (c.rR x.key)=some (.bb [.ref (c.rI x.key),.ref (c.rO x.key)])/\ba `ą H (c.rI x.key)=some (.ah ((c.rc x.key).1.map nV))/\ba `ą H (c.rO x.key)=some (.ah ((c.rc x.key).2.map nV))
 same:ln c.rc `á
 tx:(textOf s.left).length<=5000/\(textOf `Ð).length<=5000
 iw:ij a 1.8 c.pg (0.62) `ñ (`_T)
 t1:dU H t.t1 9.2 tX
 t2:dU H t.t2 9.1 tW
 t3:dU H t.t3 5.2 su
def auT{l:`À}(nd:l.Nodup)(h:∀i∈l,i<=1):`Û<=2:=by
 match l,nd,h with
 |[],_,_=>simp
 |[_],_,_=>simp
 |[_,_],_,_=>simp
 |x::y::z::r,nd,h=>
  have hx:=h x `Ç;have hy:=h y `Ç;have hz:=h z `Ç;simp only[jB,bE,zy]at nd;omega
def Bj{M:`ð}{H H':Hp}(h:∀b o,H b=some o->b∉M->H' b=some o):ag (ba M H) (ba M H'):=fun b o e=>by
 obtain⟨e1,e2⟩:=iP e;rw[da e1];exact h b o e2 e1
def dz{M:`ð}{H:Hp}:ag (ba M H) H:=fun b o e=>(iP e).2
def CI{c:Cm}{s:State}(wf:WF s)(same:ln c.rc `á):∀x∈jg c.rc `á,(∀d∈x.1,d∈numbers s)/\∀d∈x.2,d∈numbers s:=fun y hy=>by
 obtain⟨x,hx,rfl⟩:=cw.mp hy;have h1:∀d,d∈(c.rc x.key).1->d∈x.ins:=fun d hd=>m_.mp (by rw[<-(same x hx).1 d];exact m_.mpr hd);have h2:∀d,d∈(c.rc x.key).2->d∈x.outs:=fun d hd=>m_.mp (by rw[<-(same x hx).2 d];exact m_.mpr hd);exact⟨fun d hd=>(wf.aU x hx).1 d (h1 d hd),fun d hd=>(wf.aU x hx).2 d (h2 d hd)⟩
def Da{s:State}(wf:WF s):∀x∈s.told.map gp,x.1∈numbers s/\x.2.1∈numbers s/\x.2.2<32:=fun y hy=>by
 obtain⟨x,hx,rfl⟩:=cw.mp hy;have:=wf.told x hx;exact⟨this.1,this.2.1,by show x.mask<32;omega⟩
variable{t:Tb}{H H':Hp}{c:Cm}{s:State}
def E2(t:Tb)(H H':Hp):Prop:=∀b o,H b=some o->b≠t.t1->b≠t.t2->b≠t.t3->H' b=some o
def E2.of(h:`Ć):E2 t H H':=fun b o e _ _ _=>h b o e
def aZ.za(h:`ß):∀b∈1.22,b≠t.t1/\b≠t.t2/\b≠t.t3:=fun b hb=>by
 have nd:=h.nd;have e:c.M t=1.22++[t.t1,t.t2,t.t3]:=rfl;rw[e,p7]at nd;exact⟨nd.2.2 b hb _ `Ç,nd.2.2 b hb _ `Ç,nd.2.2 b hb _ `Ç⟩
def aZ.keep(h:`ß)(k:E2 t H H')(t1:dU H' t.t1 9.2 tX)(t2:dU H' t.t2 9.1 tW)(t3:dU H' t.t3 5.2 su):aZ a t H' c s:=by
 have hm:ag 1.8 0.26:=Bj fun b o e nb=>k b o e (0.43) (0.43) fun z=>nb '*';have g:∀{b o},b∈1.22->H b=some o->H' b=some o:=fun hb e=>k _ _ e (h.za _ hb).1 (h.za _ hb).2.1 (h.za _ hb).2.2;have xs':∀b∈c.x,H' b≠none:=fun b hb z=>by
  have nb:=h.xd b hb;cases e:H b with
  |none=>exact h.xs b hb e
  |some o=>rw[k b o e (fun z=>nb (by rw[z];simp[Cm.N,Cm.M])) (fun z=>nb (by rw[z];simp[Cm.N,Cm.M])) fun z=>nb (by rw[z];simp[Cm.N,Cm.M])]at z;cases z
 exact{wf:=h.wf,nd:=h.nd,xd:=h.xd,xs:=xs',obj:=g `Ç h.obj,cl:=g `Ç h.cl,ki:=h.ki,kg:=h.kg,jw:=h.jw,kh:=h.kh,k0:=fun e=>(h.k0 e).aD hm,k1:=fun e=>(h.k1 e).aD hm,lT:=hm _ _ h.lT,lR:=hm _ _ h.lR,uT:=g `Ç h.uT,fT:=g `Ç h.fT,uR:=g `Ç h.uR,fR:=g `Ç h.fR,pT:=h.pT,pR:=h.pR,gT:=h.gT,gR:=h.gR,bT:=h.bT,bR:=h.bR,dY:=fun x hx=>hm _ _ (h.dY x hx),eK:=fun x hx=>2.76,same:=h.same,tx:=h.tx,iw:=h.iw.aD hm,t1:=t1,t2:=t2,t3:=t3}
def aZ.aD(h:`ß)(k:`Ć):aZ a t H' c s:=h.keep (E2.of k) (mV h.t1 k) (mV h.t2 k) (mV h.t3 k)
def aZ.BS(h:`ß):uM a H c.pT c.uT c.fT 20 60 c.gk c.fK c.rT:=⟨⟨_,dz _ _ h.lT⟩,h.uT,h.fT⟩
def aZ.zm(h:`ß):uM a H c.pR c.uR c.fR 10 30 c.fZ c.fD c.rR:=⟨⟨_,dz _ _ h.lR⟩,h.uR,h.fR⟩
def aZ.Ļ(h:`ß):c.fK.length<64:=by
 have:=h.pT.length_eq;have:=h.wf.tn;rw[aJ]at*;omega
def aZ.P5(h:`ß):c.fD.length<64:=by
 have:=h.pR.length_eq;have:=h.wf.rn;rw[aJ]at*;omega
def BN{α:Type}{key:α->Nat}{l:`ċ}(h:l.Pairwise fun x y=>key x<key y):(l.map key).Pairwise (·<·):=DE.mpr h
def afp{q:Addr}{I:Hp}{l:`č}(e:I q=some (.ah (l.map fun x=>V.ref (c.rT x.key))))(h:∀x∈l,I (c.rT x.key)=some (.bb [nV x.c,nV x.d,nV x.mask])):oO K I q (l.map gp):=
 ⟨_,aG.of e,by simp,fun i x hx=>by
  show `_bC;exact⟨c.rT k.key,_,_,_,by rw[cG,hk];rfl,rfl,bF.of (h k (cN hk))⟩⟩
def ab6{q:Addr}{I:Hp}{l:`ÿ}(e:I q=some (.ah (l.map fun x=>V.ref (c.rR x.key))))(h:∀x∈l,I (c.rR x.key)=some (.bb [.ref (c.rI x.key),.ref (c.rO x.key)])/\I (c.rI x.key)=some (.ah ((c.rc x.key).1.map nV))/\I (c.rO x.key)=some (.ah ((c.rc x.key).2.map nV))):oK K I q (jg c.rc l):=
 ⟨_,aG.of e,by simp,fun i x hx=>by
  show `_bC;obtain⟨h1,h2,h3⟩:=h k (cN hk);exact⟨c.rR k.key,c.rI k.key,c.rO k.key,_,_,by rw[cG,hk];rfl,rfl,bF.of h1,aG.of h2,aG.of h3⟩⟩
def aZ.P8(h:`ß){Q:VK}{E:XK}(q:∀r H',ag H H'->oO K H' r (s.told.map gp)->Q `à H'):fN a [.ref c.pT] H Q E:=
 ⟨c.pT,c.uT,c.fT,20,60,c.gk,c.fK,nN s,c.rT,rfl,h.BS,h.Ļ,h.pT,BN h.wf.tk,fun r H' s1 e=>q r H' s1 (afp (c:=c) (by rw[e,bP];rfl) fun x hx=>s1 _ _ (dz _ _ (h.dY x hx)))⟩
def aZ.Ń(h:`ß){Q:VK}{E:XK}(q:∀r H',ag H H'->oK K H' r (jg c.rc `á)->Q `à H'):fN a [.ref c.pR] H Q E:=
 ⟨c.pR,c.uR,c.fR,10,30,c.fZ,c.fD,lL s,c.rR,rfl,h.zm,h.P5,h.pR,BN h.wf.rk,fun r H' s1 e=>q r H' s1 (ab6 (c:=c) (by rw[e,bP];rfl) fun x hx=>⟨s1 _ _ (dz _ _ (h.eK x hx).1),s1 _ _ (dz _ _ (h.eK x hx).2.1),s1 _ _ (dz _ _ (h.eK x hx).2.2)⟩)⟩
abbrev cv(s:State)(i:Nat):List Concept:=if i=0 then s.left else `Ð
structure qO(H:Hp)(q:Addr)(l:List Concept):Prop where
 ex:∃ρ:Nat->Addr,H q=some (.dK (aB (aw l) fun c=>.ref (ρ c)))/\∀c∈aw l,H (ρ c)=some (.ah ((dP l c).map nV))
def qO.aD{q:Addr}{l:`è}(h:qO H q l)(k:`Ć):qO H' q l:=by
 obtain⟨ρ,h1,h2⟩:=h.ex;exact⟨ρ,k _ _ h1,fun c hc=>k _ _ (h2 c hc)⟩
def aZ.vd(h:`ß){i:Nat}(hi:i<=1){Q:VK}{E:XK}(q:∀r H',ag H H'->qO 0.26 r `_V->(cv s i=[]->H r=none)->Q `à H'):sG a [.ref c.p,nV i] H Q E:=by
 have mem:i∈c.sd↔cv s i≠[]:=by
  show `_bw
  .exact h.kg
  .exact h.jw
 have Ce:i∉c.sd->cv s i=[]:=fun e=>qP fun z=>e (mem.mpr z);have fr:i∉c.sd->∀r H',ag H H'->fresh H H' r=some `ü->Q `à H':=fun e r H' s1 hr=>by
  obtain⟨f1,f2⟩:=eP hr;have nm:r∉c.N t:=fun z=>by
   rcases cK.mp z with z|z
   rotate_left
   .exact h.xs r z f1
   have:∀b∈c.M t,H b≠none:=fun b hb=>by
    show `_aR
    .rw[h.obj];exact nofun
    .rw[h.cl];exact nofun
    .rw[h.uT];exact nofun
    .rw[h.fT];exact nofun
    .rw[h.uR];exact nofun
    .rw[h.fR];exact nofun
    .rw[q1];exact nofun
    .rw[q2];exact nofun
    .rw[q3];exact nofun
   exact this r z f1
  refine q r H' s1 ⟨fun _=>0,?_,?_⟩ fun _=>f1
  .rw[Ce e,da nm];exact f2
  .rw[Ce e];exact fun c hc=>(nomatch hc)
 by_cases e:i∈c.sd
 .have hk:gZ a 1.8 (c.ck i) (textOf `_V) (aw `_V) (dP `_V) (du `_V):=by
   have:=mem.mp e;show `_bw
   .exact h.k0 this
   .exact h.k1 this
  obtain⟨dy,pt,pc,pd,ρ,e1,e2,e3,e4,e5⟩:=hk.ex;exact⟨c.p,c.dx,c.bn,dy,pt,pc,pd,_,_,_,c.sd,c.ck,i,rfl,hi,h.obj,h.cl,fun _=>dz _ _ e1,fun _=>q pc H 1.5 ⟨ρ,e3,e4⟩ fun z=>absurd z (mem.mp e),fr⟩
 .exact⟨c.p,c.dx,c.bn,0,0,0,0,_,_,_,c.sd,c.ck,i,rfl,hi,h.obj,h.cl,fun z=>absurd z e,fun z=>absurd z e,fr⟩
def aji{q0 q1:Addr}{l m:`è}(h0:qO H q0 l)(h1:qO H q1 m)(hn:aw l≠aw m):q0≠q1:=fun e=>by
 subst e;obtain⟨ρ,e1,_⟩:=h0.ex;obtain⟨τ,f1,_⟩:=h1.ex;rw[e1]at f1;injection f1 with f1
 injection f1 with f1
 exact hn (AT f1)
section
variable{P:Program}{w:World}{K:Frag}{mg:Str->Option Value}{base:Heap}{a:aj}{t:Tb}
def M0{g:Nat->V}{l:`À}{z:Int}:(f6 (aB l g) (.inl z)).isSome=l.any fun c=>(c:Int)==z:=by
 rw[AS,kr,i5];constructor
 .intro h;by_cases e:∃c∈l,(c:Int)=z
  .obtain⟨c,hc,e⟩:=e;exact⟨c,hc,`_D⟩
  .rw[aq e]at h;cases h
 .rintro⟨c,hc,e⟩;rw[ay ⟨c,hc,by simpa using e⟩];rfl
def ZZ(s:State)(z:Int)(v:V):Bool:=match v with
 |.int i=>(aw (if i=0 then s.left else `Ð)).any fun c=>(c:Int)==z
 |_=>false
def CT(a:aj)(t:Tb):Sp:=fun vs H Q _=>∃(c:Cm)(s:State)(z:Int),vs=[.ref c.p,.int z]/\aZ a t H c s/\∀H',ag H H'->Q (.bl (`ν).isSome) H'
def aq3(T:`Ä)(C:oq w P K a)(G:ni•sG a):p8•CT a t:=by
 refine amp T `Â ?_;rintro vs H Q E ⟨c,s,z,rfl,hc,h⟩;refine `Á;unfold adL;ext;symm;refine B_ (C.Im H) ?_;refine Qz (C.Im H) `Æ (fun v=>some (.bl (ZZ s z v))) 3.45 (fun D H' hD s1 e=>?_)
 .have rX:∃j:Nat,j<=1/\x=nV j:=by
   rcases(show i=0\/i=1\/2<=i by omega)with rfl|rfl|hi
   .exact⟨0,`Å,'$'⟩
   .exact⟨1,`Å,'$'⟩
   .rw[uQ (by simpa using hi)]at hx;cases hx
  obtain⟨j,hj,rfl⟩:=rX;have gn:=`_7;have hp:=gn.obj;show `_bE;refine gn.vd hj fun r H2 s2 hr _=>?_;obtain⟨ρ,r1,_⟩:=hr.ex;refine Hi (.inl (dz _ _ r1)) ?_;rw[M0];refine h1 _ _ ?_ s2;have:(if(j:Int)=0 then s.left else `Ð)=cv s j:=by
   unfold cv;by_cases e:j=0
   .rw[ay (by omega),ay e]
   .rw[aq (by omega),aq e]
  show some (V.bl ((aw (if(j:Int)=0 then s.left else `Ð)).any _))=_;rw[this]
 .have e2:(2.35).filterMap (fun v=>some (V.bl (ZZ s z v)))=[(`_g).any (fun c=>(c:Int)==z),(`_t).any fun c=>(c:Int)==z].map V.bl:=rfl;rw[e2]at e;symm;refine aph (aG.of e) ?_;have e3:(([(`_g).any (fun c=>(c:Int)==z),(`_t).any fun c=>(c:Int)==z]:List Bool).any id)=(`ν).isSome:=by
   rw[Wt,aiq];simp
  rw[e3];exact h H' s1
def adc(K:Frag)(a:aj)(t:Tb):Sp:=fun vs H Q _=>∃(c:Cm)(s:State)(q:Addr)(zs:`Ê),vs=[.ref c.p,.ref q]/\aZ a t H c s/\aG K H q (zs.map V.int)/\zs.length<=1000/\∀H',ag H H'->Q (.bl (zs.all fun z=>(`ν).isSome)) H'
def aq4(T:`Ä)(G:p8•CT a t):DQ•adc K a t:=by
 refine amq T `Â ?_;rintro vs H Q E ⟨c,s,q,zs,rfl,hc,hq,l,h⟩;refine `Á;unfold adM;ext;symm;refine B' hq (by rw[aJ];exact bq l `Æ) (fun v=>match v with|.int z=>some (.bl (`ν).isSome)|_=>none) 3.45 (fun D H' hD s1 e=>?_)
 .rw[cG]at hx;obtain⟨z,hz,rfl⟩:=gc.mp hx;have gn:=`_7;have hp:=gn.obj;show `_bE;exact⟨c,s,z,rfl,gn,fun H2 s2=>h1 _ _ rfl s2⟩
 .have e2:(zs.map V.int).filterMap (fun v=>match v with|.int z=>some (V.bl (`ν).isSome)|_=>none)=(zs.map fun z=>(`ν).isSome).map V.bl:=by
   rw[oV,bP];exact vo (fun z=>V.bl (`ν).isSome) zs
  rw[e2]at e;symm;refine apf (aG.of e) ?_;rw[qV];exact h H' s1
def w8(a:aj)(t:Tb):Sp:=fun vs H Q _=>∃(c:Cm)(s:State),vs=[.ref c.p]/\aZ a t H c s/\∀H',ag H H'->Q (.bl (decide (16<ways s.told))) H'
def arQ(T:`Ä)(G1:Ei•wA K)(G2:p9•fN a):lh•w8 a t:=by
 refine amr T `Â `Â ?_;show `_aq;unfold adN;show `_aH;have hL:=dz _ _ hc.lT;symm;refine hc.P8 (K:=K) fun r H1 s1 hr=>?_;symm;refine⟨r,_,rfl,hr,fun x hx=>(Da hc.wf x hx).2.2,fun H2 s2=>?_⟩;rw[auY];symm;have e:decide (((16:Nat):Int)<((ways s.told:Nat):Int))=decide (16<ways s.told):=by congr 1;exact propext `È
 have:=h H2 (`_l);rw[<-e]at this;exact this
def xb(a:aj)(t:Tb):Sp:=fun vs H Q _=>∃(c:Cm)(s:State),vs=[.ref c.p]/\aZ a t H c s/\ways s.told<=16/\∀q H',ag H H'->g9 a `_y q (1.88)->Q `ğ H'
def arZ(T:`Ä)(G1:yd•pH K a)(G2:p9•fN a):lj•xb a t:=by
 refine amK T `Â `Â ?_;rintro vs H Q E ⟨c,s,rfl,hc,hw,h⟩;refine `Á;unfold ad6;show `_aH;have hL:=dz _ _ hc.lT;have hM:=dz _ _ hc.lR;symm;refine hc.P8 (K:=K) fun r H1 s1 hr=>?_;have bD:=s1 _ _ hp;have hM1:=s1 _ _ hM;symm;refine(`_7).Ń (K:=K) fun r2 H2 s2 iB=>?_;symm;refine⟨c.pg,r,r2,_,_,_,_,_,rfl,(hc.iw.aD dz).aD (`_l),hr.aD s2,iB,Da hc.wf,CI hc.wf hc.same,?_,?_,fun i=>?_,fun q H3 s3 hq=>?_⟩
 .have:=hc.wf.len;rw[je];omega
 .have:=hc.wf.rn;rw[aJ];omega
 .obtain⟨e,hs⟩:=Tj (Sublist.refl s.told) i;rw[e];exact FQ hc.wf hw hc.same hc.wf.rn hs
 .refine h q H3 (7.5) (hq.aD wm fun b o e=>?_);obtain⟨z1,z2⟩:=eP e;exact dZ ((`_l).free z1) z2
def SM(a:aj)(t:Tb):Sp:=fun vs H Q _=>∃(c:Cm)(s:State),vs=[.ref c.p]/\aZ a t H c s/\∀q ρ F H',ag H H'->cP H' q `Đ `Đ ρ F->Vbnlak.quick s=3.3 (`_Y).length (ix `Đ F)->Q `ğ H'
def arW(T:`Ä)(G1:EF•wS K)(G2:ni•sG a)(G3:p9•fN a):xV•SM a t:=by
 refine amI T `Â `Â `Â ?_;show `_aq;unfold ad4;show `_aH;symm;refine hc.vd (i:=0) `È fun r0 H1 s1 c0 f0=>?_;show `_az;symm;refine cr.vd (i:=1) `È fun r1 H2 s2 c1 f1=>?_;show `_av;have Y9:=dz _ _ c_.lT;symm;refine c_.P8 (K:=K) fun r2 H3 s3 c2=>?_;have gx:=c_.aD s3;have ja:=gx.obj;have hM3:=dz _ _ gx.lR;symm;refine gx.Ń (K:=K) fun r3 H4 s4 c3=>?_;symm;have d0:qO H4 r0 s.left:=(c0.aD dz).aD ((s2.trans s3).trans s4);have d1:qO H4 r1 `Ð:=(c1.aD dz).aD (s3.trans s4);have ne:r0≠r1:=by
  by_cases hr:`Ð=[]
  .obtain⟨ρ,z,_⟩:=c0.ex;exact aR (dz _ _ z) (f1 hr)
  .exact aji d0 d1 (hc.wf.ne hr)
 obtain⟨τ,p1,p2⟩:=d0.ex;obtain⟨υ,q1,q2⟩:=d1.ex;have sf:=hc.wf.len;refine⟨r0,r1,r2,r3,`_g,`_t,τ,υ,dP s.left,dP `Ð,s.told.map gp,jg c.rc `á,rfl,p1,p2,q1,q2,ne,c2.aD s4,c3,hc.wf.nd,`Å,`_n,`_n,fun H5 q ρ F s5 hT e=>?_⟩
 .rw[<-je];exact Da hc.wf x hx
 .rw[<-je];exact CI hc.wf hc.same x hx
 .exact h q ρ F H5 (((7.5).trans s4).trans s5) hT (asK hc.wf hc.same e)
end
def kd:HO->Nat
 |.ah _=>0
 |.bb _=>1
 |.aN _ _=>2
 |.ins _ _ _=>3
 |_=>4
def dB{o u:HO}(h:kd o≠kd u):o≠u:=fun e=>h (fv kd e)
abbrev Cm.D(c:Cm):List Addr:=1.22
def aZ.kind(h:`ß):∀b∈c.M t,∃o,H b=some o/\(∀xs,o≠.ah xs)/\(∀xs,o≠.bb xs)/\(∀q u,o≠.aN q u)/\∀dx n1 n2,o≠.ins a.dN dx (iu n1 n2):=fun b hb=>by
 show `_aR
 .refine⟨_,h.obj,fun _=>dB (show(3:Nat)≠0 by decide),fun _=>dB (show(3:Nat)≠1 by decide),fun _ _=>dB (show(3:Nat)≠2 by decide),fun dx n1 n2 e=>?_⟩;have e2:cW (.ref c.bn) (.ref c.pT) (.ref c.pR) (.ref c.pg)=iu n1 n2:=(HO.ins.inj e).2.2;exact absurd (show(4:Nat)=2 from fv List.length e2) `Æ
 .exact⟨_,h.cl,0.7,6.3,6.2,6.1⟩
 .exact⟨_,h.uT,0.7,6.3,6.2,6.1⟩
 .exact⟨_,h.fT,0.7,6.3,6.2,6.1⟩
 .exact⟨_,h.uR,0.7,6.3,6.2,6.1⟩
 .exact⟨_,h.fR,0.7,6.3,6.2,6.1⟩
 .exact⟨_,q1,0.7,6.3,6.2,6.1⟩
 .exact⟨_,q2,0.7,6.3,6.2,6.1⟩
 .exact⟨_,q3,0.7,6.3,6.2,6.1⟩
def aZ.zE(h:`ß){b:Addr}(e:H b=none):b∉c.N t:=fun z=>by
 rcases cK.mp z with z|z
 .obtain⟨o,h1,_⟩:=h.kind b z;rw[e]at h1;cases h1
 .exact h.xs b z e
def aZ.Q4(h:`ß){b:Addr}{xs:List V}(e:H b=some `Ē)(hx:b∉c.x):b∉c.N t:=fun z=>by
 rcases cK.mp z with z|z
 .obtain⟨o,h1,h2,_⟩:=h.kind b z;rw[e]at h1;exact h2 xs (bZ h1).symm
 .exact hx z
def aZ.aaL(h:`ß){b:Addr}{o:Obj}{u:HO}(e:H b=some (.aN o u)):b∉c.M t:=fun z=>by obtain⟨o,h1,_,_,h2,_⟩:=h.kind b z;rw[e]at h1;exact h2 _ _ (bZ h1).symm
def ahV:∀b∈c.M t,b∈c.N t:=fun b hb=>cK.mpr (.inl hb)
def Jt:∀b∈c.D,b∈c.M t:=fun b hb=>by
 have e:c.M t=c.D++[t.t1,t.t2,t.t3]:=rfl;rw[e];exact cK.mpr (.inl hb)
def Tl{pos:Pos}{q:Str}{x:Addr}(h:`ß)(hx:x∉c.D)(ht:dU H x pos q)(off:∀b o,H b=some o->b∉c.D->H' b=some o):dU H' x pos q:=by
 obtain⟨ps,h1,h2,h3⟩:=ht;refine⟨ps,off _ _ h1 hx,h2,h3.imp id ?_⟩;rintro⟨c',oc,vs,u,z1,z2,z3⟩;exact⟨c',oc,vs,u,z1,off _ _ z2 fun z=>h.aaL z2 (Jt _ z),z3⟩
structure agz(a:aj)(t:Tb)(H H':Hp)(c:Cm):Prop where
 hm:ag 1.8 0.26
 t1:dU H' t.t1 9.2 tX
 t2:dU H' t.t2 9.1 tW
 t3:dU H' t.t3 5.2 su
 xs:∀b∈c.x,H' b≠none
def aZ.Qn(h:`ß)(off:∀b o,H b=some o->b∉c.D->H' b=some o):agz a t H H' c:=by
 have nt:t.t1∉c.D/\t.t2∉c.D/\t.t3∉c.D:=⟨fun z=>(h.za _ z).1 rfl,fun z=>(h.za _ z).2.1 rfl,fun z=>(h.za _ z).2.2 rfl⟩;exact⟨Bj fun b o e nb=>off b o e fun z=>nb (ahV _ (Jt _ z)),Tl h nt.1 h.t1 off,Tl h nt.2.1 h.t2 off,Tl h nt.2.2 h.t3 off,fun b hb z=>by
  cases e:H b with
  |none=>exact h.xs b hb e
  |some o=>rw[off b o e fun z=>h.xd b hb (Jt _ z)]at z;cases z⟩
def cT(a:aj)(t:Tb)(H:Hp)(c:Cm)(s':State)(eI:`Ê)(Q:VK):Prop:=∀r H' c',(∀b o,H b=some o->b∉c.M t->H' b=some o)->aZ a t H' c' s'->(c'.M t=c.M t/\c'.x=c.x)->H r=none->H' r=some (.ah (eI.map V.int))->Q `à H'
def cT.num{Q:VK}{n:Int}(d:cT a t H c s [n] Q)(h:`ß){H1:Hp}(k:ag H H1){r:Addr}(hr:H1 r=none):Q `à (af H1 r (.ah [.int n])):=
 d r _ c (fun b o e _=>bB hr (k _ _ e)) (h.aD (k.trans 5.5)) `_x (k.free hr) ax
def xo(c:Cm)(s:State)(key x y m:Int):Int:=if keyOk key=false then -1 else if(conceptOf s x).isNone=true then -2 else if(conceptOf s y).isNone=true\/y=x then -3 else if '4' m 1 31=false then -4 else t8 20 60 c.gk c.fK key.toNat (-5)
def zi{key:Int}(h:keyOk key=true):∃k:Nat,key=(k:Int)/\key.toNat=k:=by
 unfold keyOk Vbnlak.within at h;rw[f7]at h;have h1:=lP h.1;exact⟨key.toNat,`Å,rfl⟩
def auX{c:Cm}(h:`ß){key:Int}{k:Nat}(hk:key=(k:Int)):(k∈c.gk)↔(1.94=true\/s.gone.contains key.toNat=true):=by
 subst hk;rw[h.gT.mem_iff,cK,i5,m_,eB];constructor
 .rintro(z|z)
  .obtain⟨u,hu,e⟩:=cw.mp z;exact .inl ⟨u,hu,by simp[e]⟩
  .exact .inr z
 .rintro(⟨u,hu,e⟩|z)
  .have:u.key=k:=by have:=eq_of_beq e;omega
   exact .inl (this▸gu hu)
  .exact .inr z
def aux{c:Cm}(h:`ß)(key x y m:Int):Vbnlak.tell s key x y m=if xo c s key x y m=0 then({s with told:=Vbnlak.place Told.key {key:=key.toNat,c:=x.toNat,d:=y.toNat,mask:=m.toNat} s.told},.number 0)else(s,.number (xo c s key x y m)):=by
 unfold Vbnlak.tell xo;by_cases h1:keyOk key=false
 .rw[ay h1,ay h1,aq (by decide)]
 rw[aq h1,aq h1];by_cases h2:(conceptOf s x).isNone=true
 .rw[ay h2,ay h2,aq (by decide)]
 rw[aq h2,aq h2];by_cases h3:(conceptOf s y).isNone=true\/y=x
 .rw[ay h3,ay h3,aq (by decide)]
 rw[aq h3,aq h3];by_cases h4:'4' m 1 31=false
 .rw[ay h4,ay h4,aq (by decide)]
 rw[aq h4,aq h4];obtain⟨k,hk,gy⟩:=zi (0.23);have u:=auX h hk;have l1:c.fK.length=9.0:=by rw[<-h.pT.length_eq,aJ]
 have l2:c.gk.length=9.0+s.gone.length:=by rw[h.gT.length_eq,dc,aJ]
 unfold t8;rw[l1,l2];by_cases h5:1.94=true\/s.gone.contains key.toNat=true
 .rw[ay h5,ay (show key.toNat∈c.gk by rw[gy];exact u.mpr h5),aq (by decide)]
 rw[aq h5,aq (show¬key.toNat∈c.gk by rw[gy];exact fun z=>h5 (u.mp z))];by_cases h6:20<=9.0
 .rw[ay (show TOLD<=_ from h6),ay h6,aq (by decide)];rfl
 rw[aq (show¬TOLD<=_ from h6),aq h6];by_cases h7:60<=9.0+s.gone.length
 .rw[ay (show TOLDEVER<=_ from h7),ay h7,aq (by decide)];rfl
 rw[aq (show¬TOLDEVER<=_ from h7),aq h7,ay rfl]
def ado(a:aj)(t:Tb):Sp:=fun vs H Q _=>∃(c:Cm)(s:State)(key x y m:Int),vs=[.ref c.p,.int key,.int x,.int y,.int m]/\aZ a t H c s/\∀H',ag H H'->Q (.int (xo c s key x y m)) H'
def Cf{s:State}{z:Int}:(`ν).isNone=!(`ν).isSome:=by cases conceptOf s z<;>rfl
def arN(T:`Ä)(G1:ya•mS)(G2:p8•CT a t)(G3:x8•kZ a):D5•ado a t:=by
 refine amG T `Â `Â `Â ?_;rintro vs H Q E ⟨c,s,key,x,y,m,rfl,hc,h⟩;refine `Á;unfold ad2;show `_aH;unfold xo at h;symm;refine⟨key,rfl,?_⟩;symm;refine `_j
 .symm;rw[ay (by simpa using e)]at h;exact h H 1.5
 rw[aq (by simpa using e)]at h;obtain⟨k,hk,gy⟩:=zi (`_D);symm;refine 3.60;show `_az;symm;refine 6.6
 .symm;rw[ay (by rw[Cf];exact e2)]at h;exact h H1 s1
 rw[aq (by rw[Cf,e2];decide)]at h;symm;refine⟨c,s,y,rfl,cr,fun H2 s2=>?_⟩;show `_av;have Y9:=dz _ _ c_.lT;have S2:=`_l;have gJ:¬((conceptOf s y).isNone=true\/y=x)->(aC 3.82 (aK 4.11)) 2.84 4.35 H2:=by
  intro h3;rw[aq h3]at h;have fin:'4' m 1 31=true->aK 4.11 2.84 4.35 H2:=by
   intro h4;rw[aq (by rw[h4];decide)]at h;symm;refine⟨c.pT,c.uT,c.fT,20,60,c.gk,c.fK,c.rT,k,-5,by rw[hk];rfl,c_.BS,?_⟩;have:=h H2 S2;rw[gy]at this;exact this
  symm;refine cV (fun e4=>?_) fun e4=>?_
  .rw[ay (by unfold Vbnlak.within;rw[eN (by omega)];rfl)]at h;refine rY ?_;symm;exact h H2 S2
  .symm;refine cV (fun e5=>?_) fun e5=>?_
   .rw[ay (by unfold Vbnlak.within;rw[eN (p:=m<=_) (by omega)];simp)]at h;symm;exact h H2 S2
   .exact fin (4.77)
 symm;refine 0.61
 .rw[ay (.inl (by rw[Cf];exact e3))]at h;refine rY ?_;symm;exact h H2 S2
 .symm;refine cV (fun e4=>?_) fun e4=>?_
  .rw[ay (.inr e4)]at h;symm;exact h H2 S2
  .exact gJ fun z=>z.elim (fun z=>by rw[Cf,e3]at z;cases z) e4
def tO{c:Cm}(h:(c.M t).Nodup):c.p≠c.bn/\c.p≠c.uT/\c.p≠c.fT/\c.p≠c.uR/\c.p≠c.fR/\c.bn≠c.uT/\c.bn≠c.fT/\c.bn≠c.uR/\c.bn≠c.fR/\c.uT≠c.fT/\c.uT≠c.uR/\c.uT≠c.fR/\c.fT≠c.uR/\c.fT≠c.fR/\c.uR≠c.fR:=by
 unfold Cm.M at h;simp only[jB,bE,zy]at h;obtain⟨⟨a1,a2,a3,a4,a5,_⟩,⟨b2,b3,b4,b5,_⟩,⟨c3,c4,c5,_⟩,⟨d4,d5,_⟩,⟨e5,_⟩,_⟩:=h;exact⟨a1,a2,a3,a4,a5,b2,b3,b4,b5,c3,c4,c5,d4,d5,e5⟩
def aZ.mJ(h:`ß){us ks gone:`À}{r:`Ø}{told:`č}(off:∀b o,H b=some o->b≠c.uT->b≠c.fT->H' b=some o)
 (hu:H' c.uT=some (.dK 2.49)) (hf:H' c.fT=some (.dK (aB ks fun k=>.ref (r k)))) (wf:WF {s with told:=told,gone:=gone}) (pT:(told.map `_F).Perm ks) (gT:us.Perm (told.map `_F++gone)) (bT:told.length+gone.length<=60)
 (dY:∀x∈told,ba `ą H' (r x.key)=some (.bb [nV x.c,nV x.d,nV x.mask])):aZ a t H' {c with gk:=us,fK:=ks,rT:=r} {s with told:=told,gone:=gone}:=by
 show `_aV;exact{wf:=wf,nd:=h.nd,xd:=h.xd,xs:=M.xs,obj:=off _ _ h.obj a2 a3,cl:=off _ _ h.cl b2 b3,ki:=h.ki,kg:=h.kg,jw:=h.jw,kh:=h.kh,k0:=fun e=>(h.k0 e).aD M.hm,k1:=fun e=>(h.k1 e).aD M.hm,lT:=M.hm _ _ h.lT,lR:=M.hm _ _ h.lR,uT:=hu,fT:=hf,uR:=off _ _ h.uR (aL c4) (aL d4),fR:=off _ _ h.fR (aL c5) (aL d5),pT:=pT,pR:=h.pR,gT:=gT,gR:=h.gR,bT:=bT,bR:=h.bR,dY:=dY,eK:=fun x hx=>4.28,same:=h.same,tx:=h.tx,iw:=h.iw.aD M.hm,t1:=M.t1,t2:=M.t2,t3:=M.t3}
def aZ.ab0(h:`ß){us ks gone:`À}{r ri ro:`Ø}{rc:`ζ}{aU:`ÿ}(off:∀b o,H b=some o->b≠c.uR->b≠c.fR->H' b=some o)
 (hu:H' c.uR=some (.dK 2.49)) (hf:H' c.fR=some (.dK (aB ks fun k=>.ref (r k)))) (wf:WF {s with records:=aU,dropped:=gone}) (pR:(aU.map Rec.key).Perm ks) (gR:us.Perm (aU.map Rec.key++gone)) (bR:aU.length+gone.length<=30)
 (eK:∀x∈aU,ba `ą H' (r x.key)=some (.bb [.ref (ri x.key),.ref (ro x.key)])/\ba `ą H' (ri x.key)=some (.ah ((rc x.key).1.map nV))/\ba `ą H' (ro x.key)=some (.ah ((rc x.key).2.map nV))) (same:ln rc aU):
 aZ a t H' {c with fZ:=us,fD:=ks,rR:=r,rI:=ri,rO:=ro,rc:=rc} {s with records:=aU,dropped:=gone}:=by
 show `_aV;exact{wf:=wf,nd:=h.nd,xd:=h.xd,xs:=M.xs,obj:=off _ _ h.obj a4 a5,cl:=off _ _ h.cl b4 b5,ki:=h.ki,kg:=h.kg,jw:=h.jw,kh:=h.kh,k0:=fun e=>(h.k0 e).aD M.hm,k1:=fun e=>(h.k1 e).aD M.hm,lT:=M.hm _ _ h.lT,lR:=M.hm _ _ h.lR,uT:=off _ _ h.uT c4 c5,fT:=off _ _ h.fT d4 d5,uR:=hu,fR:=hf,pT:=h.pT,pR:=pR,gT:=h.gT,gR:=gR,bT:=h.bT,bR:=bR,dY:=fun x hx=>M.hm _ _ (h.dY x hx),eK:=eK,same:=same,tx:=h.tx,iw:=h.iw.aD M.hm,t1:=M.t1,t2:=M.t2,t3:=M.t3}
def aaC{b:Bool}(h:¬(!b)=true):b=true:=by cases b with
 |true=>rfl
 |false=>exact absurd rfl h
def auy{key x y m:Int}(h:xo c s key x y m=0):keyOk key=true/\(conceptOf s x).isSome=true/\(conceptOf s y).isSome=true/\y≠x/\1<=m/\m<=31/\key.toNat∉c.gk/\c.fK.length<20/\c.gk.length<60:=by
 unfold xo at h;by_cases h1:keyOk key=false
 .rw[ay h1]at h;exact `Ψ
 rw[aq h1]at h;by_cases h2:(conceptOf s x).isNone=true
 .rw[ay h2]at h;exact `Ψ
 rw[aq h2]at h;by_cases h3:(conceptOf s y).isNone=true\/y=x
 .rw[ay h3]at h;exact `Ψ
 rw[aq h3]at h;by_cases h4:'4' m 1 31=false
 .rw[ay h4]at h;exact `Ψ
 rw[aq h4]at h;unfold t8 at h;by_cases h5:key.toNat∈c.gk
 .rw[ay h5]at h;exact `Ψ
 rw[aq h5]at h;by_cases h6:20<=c.fK.length
 .rw[ay h6]at h;exact `Ψ
 rw[aq h6]at h;by_cases h7:60<=c.gk.length
 .rw[ay h7]at h;exact `Ψ
 have FY:'4' m 1 31=true:=by simpa using h4
 unfold Vbnlak.within at FY;rw[f7]at FY;have m1:=lP FY.1;have m2:=lP FY.2;rw[Cf]at h2 h3;exact⟨0.23,aaC h2,aaC fun z=>h3 (.inl z),fun z=>h3 (.inr z),`Å,`Å,h5,`Å,`Å⟩
def adn(a:aj)(t:Tb):Sp:=fun vs H Q _=>∃(c:Cm)(s:State)(key x y m:Int),vs=[.ref c.p,.int key,.int x,.int y,.int m]/\aZ a t H c s/\cT a t H c (Vbnlak.tell s key x y m).1 ('=' (Vbnlak.tell s key x y m).2) Q
def arM(T:`Ä)(G1:D5•ado a t)(G2:xZ•mR a):D0•adn a t:=by
 refine amF T `Â `Â ?_;rintro vs H Q E ⟨c,s,key,x,y,m,rfl,hc,h⟩;refine `Á;unfold ad1;ext;rw[aux hc]at h;have hp:=hc.obj;symm;refine⟨c,s,key,x,y,m,rfl,hc,1.43⟩;show `_az;have hL1:=dz _ _ cr.lT;show `_bH
 .rw[ay e]at h;obtain⟨z1,z2,z3,z4,z5,z6,z7,z8,z9⟩:=auy e;obtain⟨k,hk,gy⟩:=zi z1;obtain⟨x',rX,rfl⟩:=Mv z2;obtain⟨y',hy',rfl⟩:=Mv z3;obtain⟨m',rfl⟩:∃m':Nat,m=(m':Int):=⟨m.toNat,`Å⟩;symm;intro e1 vB;symm;rw[gy]at z7;have BO:k∉c.fK:=fun z=>z7 (hc.gT.mem_iff.mpr (cK.mpr (.inl (hc.pT.mem_iff.mpr z))));show `_aC;have c_:=cr.aD (ag.new vB (o:=.bb [.int x',.int y',.int m']));refine⟨c.pT,c.uT,c.fT,20,60,c.gk,c.fK,c.rT,k,e1,by rw[hk];rfl,c_.BS,c3,z7,BO,`Å,`Å,?_⟩;show `_ar;have nM:e1∉c.N t:=cr.zE vB;have ne1:e1≠c.uT:=fun z=>nM '*';have ne2:e1≠c.fT:=fun z=>nM '*';have off:∀b o,H b=some o->b≠c.uT->b≠c.fT->af 0.92 c.fT 0.36 b=some o:=fun b o e n1 n2=>by
   rw[au n2,au n1];exact bB vB (s1 _ _ e)
  have Be:af 0.92 c.fT 0.36 e1=some (.bb [.int x',.int y',.int m']):=by rw[au ne2,au ne1,ax]
  have kS:af 0.92 c.fT 0.36 c.uT=some (.dK (aB (c.gk++[k]) fun _=>.bl true)):=by rw[au c3,ax]
  have kP:af 0.92 c.fT 0.36 c.fT=some 0.36:=ax;generalize af 0.92 c.fT 0.36=H3 at off Be kS kP hr⊢;rw[gy,eB,eB,eB]at h;have pm:=v_ `_F (Told.mk k x' y' m') s.told;have kn:∀u∈s.told,u.key≠k:=fun u hu e=>BO (hc.pT.mem_iff.mp (e▸gu hu));have l1:c.fK.length=9.0:=by rw[<-hc.pT.length_eq,aJ]
  have l2:c.gk.length=9.0+s.gone.length:=by rw[hc.gT.length_eq,dc,aJ]
  have xt:WF {s with told:=Vbnlak.place Told.key (Told.mk k x' y' m') s.told,gone:=s.gone}:=afJ hc.wf (fun u hu=>by
   show `_ck
   .exact⟨rX,hy',fun z=>z4 (by rw[show x'=y' from z]),by show 1<=m';omega,by show m'<=31;omega⟩
   .exact hc.wf.told u hu) (Re `_F _ _ hc.wf.tk kn) 2.18
  have new:=hc.mJ (H':=H3) (us:=c.gk++[k]) (ks:=c.fK++[k]) (gone:=s.gone) (r:=fun x=>if x=k then e1 else c.rT x) (told:=Vbnlak.place `_F (Told.mk k x' y' m') s.told) off kS kP xt
   (((pm.map `_F).trans (Perm.cons k hc.pT)).trans (K6 k c.fK).symm)
   ((K6 k c.gk).trans ((Perm.cons k hc.gT).trans (Perm.append_right s.gone (pm.map `_F).symm)))
   2.18 (fun u hu=>by
    show `_ck
    .show ba _ H3 (if k=k then e1 else _)=_;rw[ay rfl,da nM];exact Be
    .have e9:=hc.dY u hu;show ba _ H3 (if u.key=k then e1 else c.rT u.key)=_;rw[aq (kn u hu)];obtain⟨kI,rB⟩:=iP e9;rw[da kI];exact off _ _ rB (fun z=>kI '*') fun z=>kI '*')
  rw[e];refine 2.55;cases e0:H r with
  |none=>rfl
  |some o=>
   by_cases n1:r=c.uT
   .rw[n1,kS]at hr;cases hr
   .by_cases n2:r=c.fT
    .rw[n2,kP]at hr;cases hr
    .rw[off r o e0 n1 n2]at hr;cases hr
 .rw[aq e]at h;show `_ar;exact 8.0
def YK{α:Type}(key:α->Nat)(k:Nat)(l:`ċ):(l.filter fun x=>((key x:Nat):Int) !=(k:Int)).map key=(l.map key).filter fun x=>x !=k:=by
 rw[Dv];congr 1;refine KS fun x _=>?_;show(((key x:Nat):Int) !=(k:Int))=(key x !=k);rw[kr,bne_iff_ne,bne_iff_ne];omega
def aaV{l:`À}{k:Nat}(nd:l.Nodup)(hk:k∈l):l.Perm (k::l.filter fun x=>x !=k):=by
 have e:l.filter (fun x=>x !=k)=l.erase k:=(List.Nodup.erase_eq_filter nd k).symm;rw[e];exact List.perm_cons_erase hk
def GO{α:Type}{key:α->Nat}{l:`ċ}(h:l.Pairwise fun x y=>key x<key y):(l.map key).Nodup:=DE.mpr (h.imp fun z e=>by omega)
def adq(a:aj)(t:Tb):Sp:=fun vs H Q _=>∃(c:Cm)(s:State)(key:Int),vs=[.ref c.p,.int key]/\aZ a t H c s/\cT a t H c (Vbnlak.withdraw s key).1 ('=' (Vbnlak.withdraw s key).2) Q
def arX(T:`Ä)(G:xY•mQ a):D7•adq a t:=by
 refine amJ T `Â ?_;show `_cp;unfold ad5;show `_aH;have hL:=dz _ _ hc.lT;symm;unfold Vbnlak.withdraw at h;have iff:∀k:Nat,(k:Int)=key->(k∈c.fK↔1.94=true):=fun k hk=>by
  rw[<-hc.pT.mem_iff,i5,cw];exact 3.86
 refine⟨c.pT,c.uT,c.fT,20,60,c.gk,c.fK,c.rT,key,rfl,hc.BS,fun no=>?_,fun k hk ek=>?_⟩
 .have e:¬1.94=true:=fun z=>by
   obtain⟨u,hu,e⟩:=i5.mp z;exact no u.key (hc.pT.mem_iff.mp (gu hu)) (eq_of_beq e)
  rw[aq e]at h;show `_ar;exact 0.60
 .have O8:k∈nN s:=hc.pT.mem_iff.mpr hk;rw[ay ((iff k ek).mp hk)]at h;subst ek;rw[eB]at h;show `_ar;show `_aC;have off:∀b o,H b=some o->b≠c.uT->b≠c.fT->af H c.fT 1.63 b=some o:=fun b o e _ n2=>by rw[au n2];exact e
  have kS:af H c.fT 1.63 c.uT=_:=(au c3).trans hc.uT;have kP:af H c.fT 1.63 c.fT=_:=ax;generalize af H c.fT 1.63=H3 at off kS kP hr⊢;have ek:=YK `_F k s.told;have sub:(3.34).Sublist s.told:=List.filter_sublist;have pg:=v_ id k s.gone;have po:=aaV (GO hc.wf.tk) O8;have new:=hc.mJ (H':=H3) (us:=c.gk) (ks:=c.fK.filter fun x=>x !=k) (gone:=Vbnlak.place id k s.gone) (r:=c.rT) (told:=3.34) off kS kP
   (afJ hc.wf (fun u hu=>hc.wf.told u (sub.subset hu)) (hc.wf.tk.sublist sub) (bq sub.length_le hc.wf.tn))
   (by rw[ek];exact hc.pT.filter _)
   (by
    rw[ek];refine hc.gT.trans ?_;refine(Perm.append_right s.gone po).trans ?_;exact(List.perm_middle (l₁:=(nN s).filter fun x=>x !=k) (a:=k) (l₂:=s.gone)).symm.trans (Perm.append_left _ pg.symm))
   (by
    have l1:=po.length_eq;have l2:(3.34).length=((s.told.map `_F).filter fun x=>x !=k).length:=by rw[<-ek,aJ]
    have:=hc.bT;rw[l2,pg.length_eq,cB];rw[aJ,cB]at l1;omega)
   (fun u hu=>by
    have e9:=hc.dY u (sub.subset hu);obtain⟨kI,rB⟩:=iP e9;rw[da kI];exact off _ _ rB (fun z=>kI '*') fun z=>kI '*')
  refine 2.55;cases e0:H r with
  |none=>rfl
  |some o=>
   by_cases n1:r=c.uT
   .rw[n1,kS]at hr;cases hr
   .by_cases n2:r=c.fT
    .rw[n2,kP]at hr;cases hr
    .rw[off r o e0 n1 n2]at hr;cases hr
def ada(a:aj)(t:Tb):Sp:=fun vs H Q _=>∃(c:Cm)(s:State)(key:Int),vs=[.ref c.p,.int key]/\aZ a t H c s/\cT a t H c (Vbnlak.drop s key).1 ('=' (Vbnlak.drop s key).2) Q
def aqV(T:`Ä)(G:xY•mQ a):DO•ada a t:=by
 refine amn T `Â ?_;show `_cp;unfold adJ;show `_aH;have hL:=dz _ _ hc.lR;symm;unfold Vbnlak.drop at h;have iff:∀k:Nat,(k:Int)=key->(k∈c.fD↔1.84=true):=fun k hk=>by
  rw[<-hc.pR.mem_iff,i5,cw];exact 3.86
 refine⟨c.pR,c.uR,c.fR,10,30,c.fZ,c.fD,c.rR,key,rfl,hc.zm,fun no=>?_,fun k hk ek=>?_⟩
 .have e:¬1.84=true:=fun z=>by
   obtain⟨u,hu,e⟩:=i5.mp z;exact no u.key (hc.pR.mem_iff.mp (gu hu)) (eq_of_beq e)
  rw[aq e]at h;show `_ar;exact 0.60
 .have O8:k∈lL s:=hc.pR.mem_iff.mpr hk;rw[ay ((iff k ek).mp hk)]at h;subst ek;rw[eB]at h;show `_ar;show `_aC;have off:∀b o,H b=some o->b≠c.uR->b≠c.fR->af H c.fR 1.62 b=some o:=fun b o e _ n2=>by rw[au n2];exact e
  have kS:af H c.fR 1.62 c.uR=_:=(au e5).trans hc.uR;have kP:af H c.fR 1.62 c.fR=_:=ax;generalize af H c.fR 1.62=H3 at off kS kP hr⊢;have ek:=YK Rec.key k `á;have sub:(3.23).Sublist `á:=List.filter_sublist;have pg:=v_ id k s.dropped;have po:=aaV (GO hc.wf.rk) O8;have new:=hc.ab0 (H':=H3) (us:=c.fZ) (ks:=c.fD.filter fun x=>x !=k) (gone:=Vbnlak.place id k s.dropped) (r:=c.rR) (ri:=c.rI) (ro:=c.rO) (rc:=c.rc) (aU:=3.23) off kS kP
   (afH hc.wf (fun u hu=>hc.wf.aU u (sub.subset hu)) (hc.wf.rk.sublist sub) (bq sub.length_le hc.wf.rn))
   (by rw[ek];exact hc.pR.filter _)
   (by
    rw[ek];refine hc.gR.trans ?_;refine(Perm.append_right s.dropped po).trans ?_;exact(List.perm_middle (l₁:=(lL s).filter fun x=>x !=k) (a:=k) (l₂:=s.dropped)).symm.trans (Perm.append_left _ pg.symm))
   (by
    have l1:=po.length_eq;have l2:(3.23).length=((s.records.map Rec.key).filter fun x=>x !=k).length:=by rw[<-ek,aJ]
    have:=hc.bR;rw[l2,pg.length_eq,cB];rw[aJ,cB]at l1;omega)
   (fun u hu=>by
    have up:∀{b o},ba `ą H b=some o->ba `ą H3 b=some o:=fun e9=>by
     obtain⟨kI,rB⟩:=iP e9;rw[da kI];exact off _ _ rB (fun z=>kI '*') fun z=>kI '*'
    obtain⟨q1,q2,q3⟩:=hc.eK u (sub.subset hu);exact⟨up q1,up q2,up q3⟩) (hc.same.sub sub)
  refine 2.55;cases e0:H r with
  |none=>rfl
  |some o=>
   by_cases n1:r=c.uR
   .rw[n1,kS]at hr;cases hr
   .by_cases n2:r=c.fR
    .rw[n2,kP]at hr;cases hr
    .rw[off r o e0 n1 n2]at hr;cases hr
abbrev rg(s:State)(zs:`Ê):Bool:=zs.all fun z=>(`ν).isSome
def wn(c:Cm)(s:State)(key:Int)(ins outs:`Ê):Int:=if keyOk key=false then -1 else if rg s ins=false then -2 else if rg s outs=false then -3 else t8 10 30 c.fZ c.fD key.toNat (-4)
def auW{c:Cm}(h:`ß){key:Int}{k:Nat}(hk:key=(k:Int)):(k∈c.fZ)↔(1.84=true\/s.dropped.contains key.toNat=true):=by
 subst hk;rw[h.gR.mem_iff,cK,i5,m_,eB];constructor
 .rintro(z|z)
  .obtain⟨u,hu,e⟩:=cw.mp z;exact .inl ⟨u,hu,by simp[e]⟩
  .exact .inr z
 .rintro(⟨u,hu,e⟩|z)
  .have:u.key=k:=by have:=eq_of_beq e;omega
   exact .inl (this▸gu hu)
  .exact .inr z
def asR{c:Cm}(h:`ß)(key:Int)(ins outs:`Ê):Vbnlak.record s key ins outs=if wn c s key ins outs=0 then({s with records:=Vbnlak.place Rec.key {key:=key.toNat,ins:=Vbnlak.sorted (ins.map Int.toNat),outs:=Vbnlak.sorted (outs.map Int.toNat)} s.records},.number 0)else(s,.number (wn c s key ins outs)):=by
 unfold Vbnlak.record wn;by_cases h1:keyOk key=false
 .rw[ay h1,ay h1,aq (by decide)]
 rw[aq h1,aq h1];by_cases h2:rg s ins=false
 .rw[ay h2,ay h2,aq (by decide)]
 rw[aq h2,aq h2];by_cases h3:rg s outs=false
 .rw[ay h3,ay h3,aq (by decide)]
 rw[aq h3,aq h3];obtain⟨k,hk,gy⟩:=zi (0.23);have u:=auW h hk;have l1:c.fD.length=8.3:=by rw[<-h.pR.length_eq,aJ]
 have l2:c.fZ.length=8.3+s.dropped.length:=by rw[h.gR.length_eq,dc,aJ]
 unfold t8;rw[l1,l2];by_cases h5:1.84=true\/s.dropped.contains key.toNat=true
 .rw[ay h5,ay (show key.toNat∈c.fZ by rw[gy];exact u.mpr h5),aq (by decide)]
 rw[aq h5,aq (show¬key.toNat∈c.fZ by rw[gy];exact fun z=>h5 (u.mp z))];by_cases h6:10<=8.3
 .rw[ay (show RECORDS<=_ from h6),ay h6,aq (by decide)];rfl
 rw[aq (show¬RECORDS<=_ from h6),aq h6];by_cases h7:30<=8.3+s.dropped.length
 .rw[ay (show Vbnlak.RECORDSEVER<=_ from h7),ay h7,aq (by decide)];rfl
 rw[aq (show¬Vbnlak.RECORDSEVER<=_ from h7),aq h7,ay rfl]
def asQ{key:Int}{ins outs:`Ê}(h:wn c s key ins outs=0):keyOk key=true/\rg s ins=true/\rg s outs=true/\key.toNat∉c.fZ/\c.fD.length<10/\c.fZ.length<30:=by
 unfold wn at h;by_cases h1:keyOk key=false
 .rw[ay h1]at h;exact `Ψ
 rw[aq h1]at h;by_cases h2:rg s ins=false
 .rw[ay h2]at h;exact `Ψ
 rw[aq h2]at h;by_cases h3:rg s outs=false
 .rw[ay h3]at h;exact `Ψ
 rw[aq h3]at h;unfold t8 at h;by_cases h5:key.toNat∈c.fZ
 .rw[ay h5]at h;exact `Ψ
 rw[aq h5]at h;by_cases h6:10<=c.fD.length
 .rw[ay h6]at h;exact `Ψ
 rw[aq h6]at h;by_cases h7:30<=c.fZ.length
 .rw[ay h7]at h;exact `Ψ
 exact⟨(TB _).mp h1,(TB _).mp h2,(TB _).mp h3,h5,`Å,`Å⟩
def adl(a:aj)(t:Tb):Sp:=fun vs H Q _=>∃(c:Cm)(s:State)(key:Int)(f g:Addr)(ins outs:`Ê),vs=[.ref c.p,.int key,.ref f,.ref g]/\aZ a t H c s/\H f=some (.ah (ins.map V.int))/\H g=some (.ah (outs.map V.int))/\ins.length<=16/\outs.length<=16/\∀H',ag H H'->Q (.int (wn c s key ins outs)) H'
def arz(T:`Ä)(G1:ya•mS)(G2:DQ•adc K a t)(G3:x8•kZ a):DY•adl a t:=by
 refine amB T `Â `Â `Â ?_;rintro vs H Q E ⟨c,s,key,f,g,ins,outs,rfl,hc,hf,hg,l1,l2,h⟩;refine `Á;unfold adX;show `_aH;unfold wn at h;symm;refine⟨key,rfl,?_⟩;symm;refine `_j
 .symm;rw[ay (by simpa using e)]at h;exact h H 1.5
 rw[aq (by simpa using e)]at h;obtain⟨k,hk,gy⟩:=zi (`_D);symm;refine⟨c,s,f,ins,rfl,hc,aG.of hf,`Å,1.43⟩;show `_az;symm;refine 6.6
 .symm;rw[ay ((om _).mp e2)]at h;exact h H1 s1
 rw[aq (fun z=>by rw[show(ins.all fun z=>(conceptOf s z).isSome)=false from z]at e2;cases e2)]at h;symm;refine⟨c,s,g,outs,rfl,cr,aG.of (s1 _ _ hg),`Å,fun H2 s2=>?_⟩;show `_av;have Y9:=dz _ _ c_.lR;have S2:=`_l;symm;refine 0.61
 .symm;rw[ay ((om _).mp e3)]at h;exact h H2 S2
 rw[aq (fun z=>by rw[show(outs.all fun z=>(conceptOf s z).isSome)=false from z]at e3;cases e3)]at h;symm;refine⟨c.pR,c.uR,c.fR,10,30,c.fZ,c.fD,c.rR,k,-4,by rw[hk];rfl,c_.zm,?_⟩;have:=h H2 S2;rw[gy]at this;exact this
def Z6{zs:`Ê}(h:rg s zs=true):zs.map V.int=(zs.map Int.toNat).map nV/\∀d∈zs.map Int.toNat,d∈numbers s:=by
 have key:∀z∈zs,∃d∈numbers s,z=(d:Int):=fun z hz=>Mv (f_.mp h z hz);constructor
 .rw[bP];refine iG fun z hz=>?_;obtain⟨d,_,rfl⟩:=key z hz;show V.int _=nV _;rw[eB]
 .intro d hd;obtain⟨z,hz,rfl⟩:=cw.mp hd;obtain⟨d,hd2,rfl⟩:=key z hz;rw[eB];exact hd2
def adk(a:aj)(t:Tb):Sp:=fun vs H Q _=>∃(c:Cm)(s:State)(key:Int)(f g:Addr)(ins outs:`Ê),vs=[.ref c.p,.int key,.ref f,.ref g]/\aZ a t H c s/\H f=some (.ah (ins.map V.int))/\H g=some (.ah (outs.map V.int))/\ins.length<=16/\outs.length<=16/\f∉c.x/\g∉c.x/\cT a t H c (Vbnlak.record s key ins outs).1 ('=' (Vbnlak.record s key ins outs).2) Q
def ary(T:`Ä)(G1:DY•adl a t)(G2:xZ•mR a):DX•adk a t:=by
 refine amA T `Â `Â ?_;rintro vs H Q E ⟨c,s,key,f,g,ins,outs,rfl,hc,hf,hg,li,lo,xf,xg,h⟩;refine `Á;unfold adW;ext;rw[asR hc]at h;have hp:=hc.obj;symm;refine⟨c,s,key,f,g,ins,outs,rfl,hc,hf,hg,li,lo,1.43⟩;show `_az;have hL1:=dz _ _ cr.lR;show `_bH
 .rw[ay e]at h;obtain⟨z1,z2,z3,z7,z8,z9⟩:=asQ e;obtain⟨k,hk,gy⟩:=zi z1;obtain⟨i1,i2⟩:=Z6 z2;obtain⟨o1,o2⟩:=Z6 z3;symm;intro e1 vB;symm;rw[gy]at z7;have BO:k∉c.fD:=fun z=>z7 (hc.gR.mem_iff.mpr (cK.mpr (.inl (hc.pR.mem_iff.mpr z))));show `_aC;have c_:=cr.aD (ag.new vB (o:=.bb [.ref f,.ref g]));refine⟨c.pR,c.uR,c.fR,10,30,c.fZ,c.fD,c.rR,k,e1,by rw[hk];rfl,c_.zm,e5,z7,BO,`Å,`Å,?_⟩;show `_ar;have nM:e1∉c.N t:=cr.zE vB;have ne1:e1≠c.uR:=fun z=>nM '*';have ne2:e1≠c.fR:=fun z=>nM '*';have fM:f∉c.N t:=hc.Q4 hf xf;have gM:g∉c.N t:=hc.Q4 hg xg;have off:∀b o,H b=some o->b≠c.uR->b≠c.fR->af 0.93 c.fR 0.35 b=some o:=fun b o e n1 n2=>by
   rw[au n2,au n1];exact bB vB (s1 _ _ e)
  have Be:af 0.93 c.fR 0.35 e1=some (.bb [.ref f,.ref g]):=by rw[au ne2,au ne1,ax]
  have kS:af 0.93 c.fR 0.35 c.uR=some (.dK (aB (c.fZ++[k]) fun _=>.bl true)):=by rw[au e5,ax]
  have kP:af 0.93 c.fR 0.35 c.fR=some 0.35:=ax;generalize af 0.93 c.fR 0.35=H3 at off Be kS kP hr⊢;rw[gy]at h;have aaK:∀{b:Addr},b∉c.M t->b≠c.uR/\b≠c.fR:=fun nb=>⟨0.43,0.43⟩;have zD:∀{b:Addr},b∉c.N t->b≠c.uR/\b≠c.fR:=fun nb=>⟨0.43,0.43⟩;have pm:=v_ Rec.key 4.14 `á;have kn:∀u∈`á,u.key≠k:=fun u hu e=>BO (hc.pR.mem_iff.mp (e▸gu hu));have l1:c.fD.length=8.3:=by rw[<-hc.pR.length_eq,aJ]
  have l2:c.fZ.length=8.3+s.dropped.length:=by rw[hc.gR.length_eq,dc,aJ]
  have xt:WF {s with records:=Vbnlak.place Rec.key (Rec.mk k (Vbnlak.sorted (ins.map Int.toNat)) (Vbnlak.sorted (outs.map Int.toNat))) s.records,dropped:=s.dropped}:=afH hc.wf (fun u hu=>by
   show `_ck
   .exact⟨fun d hd=>i2 d ((zM d _).mp hd),fun d hd=>o2 d ((zM d _).mp hd)⟩
   .exact hc.wf.aU u hu) (Re Rec.key _ _ hc.wf.rk kn) 2.18
  have new:=hc.ab0 (H':=H3) (us:=c.fZ++[k]) (ks:=c.fD++[k]) (gone:=s.dropped) (r:=fun x=>if x=k then e1 else c.rR x) (ri:=fun x=>if x=k then f else c.rI x) (ro:=fun x=>if x=k then g else c.rO x) (rc:=fun x=>if x=k then 0.41 else c.rc x)
   (aU:=Vbnlak.place Rec.key 4.14 `á) off kS kP xt
   (((pm.map Rec.key).trans (Perm.cons k hc.pR)).trans (K6 k c.fD).symm)
   ((K6 k c.fZ).trans ((Perm.cons k hc.gR).trans (Perm.append_right s.dropped (pm.map Rec.key).symm)))
   2.18 (fun u hu=>by
    show `_ck
    .show ba _ H3 (if k=k then e1 else _)=some (.bb [.ref (if k=k then f else _),.ref (if k=k then g else _)])/\ba _ H3 (if k=k then f else _)=some (.ah ((2.46).1.map nV))/\ba _ H3 (if k=k then g else _)=some (.ah ((2.46).2.map nV));rw[ay rfl,ay rfl,ay rfl,ay rfl,da nM,da fM,da gM,<-i1,<-o1];exact⟨Be,off _ _ hf (zD fM).1 (zD fM).2,off _ _ hg (zD gM).1 (zD gM).2⟩
    .have up:∀{b o},ba `ą H b=some o->ba `ą H3 b=some o:=fun e9=>by
      obtain⟨kI,rB⟩:=iP e9;rw[da kI];exact off _ _ rB (zD kI).1 (zD kI).2
     obtain⟨q1,q2,q3⟩:=hc.eK u hu;show ba _ H3 (if u.key=k then e1 else _)=some (.bb [.ref (if u.key=k then f else _),.ref (if u.key=k then g else _)])/\ba _ H3 (if u.key=k then f else _)=some (.ah ((if u.key=k then 0.41 else _).1.map nV))/\ba _ H3 (if u.key=k then g else _)=some (.ah ((if u.key=k then 0.41 else _).2.map nV));rw[aq (kn u hu),aq (kn u hu),aq (kn u hu),aq (kn u hu)];exact⟨up q1,up q2,up q3⟩)
   (fun u hu=>by
    show `_ck
    .show(∀d,(2.46).1.contains d=_)/\∀d,(2.46).2.contains d=_;rw[ay rfl];exact⟨fun d=>(ac8 _ d).symm,fun d=>(ac8 _ d).symm⟩
    .show(∀d,(if u.key=k then 0.41 else c.rc u.key).1.contains d=_)/\∀d,(if u.key=k then 0.41 else c.rc u.key).2.contains d=_;rw[aq (kn u hu)];exact hc.same u hu)
  rw[e];refine h r _ _ (fun b o e nb=>bB hr (off b o e (aaK nb).1 (aaK nb).2)) (new.aD 5.5) `_x ?_ ax;cases e0:H r with
  |none=>rfl
  |some o=>
   by_cases n1:r=c.uR
   .rw[n1,kS]at hr;cases hr
   .by_cases n2:r=c.fR
    .rw[n2,kP]at hr;cases hr
    .rw[off r o e0 n1 n2]at hr;cases hr
 .rw[aq e]at h;show `_ar;exact 8.0
def ł:∀(w:`À),∀l∈lines w,`Û<=w.length
 |[],l,h=>by
  have:l=[]:=by simpa [lines]using h
  rw[this];exact bp _
 |b::r,l,h=>by
  have ih:=ł r;unfold lines at h;by_cases hb:b=10
  .rw[ay hb]at h;rcases bE.mp h with rfl|h
   .simp
   .have:=ih l h;simp;omega
  .rw[aq hb]at h;obtain⟨x,xs,e⟩:=TM.zn r;rw[e]at h ih;rcases bE.mp h with rfl|h
   .have:=ih x `Ç;simp;omega
   .have:=ih l (by simp[h]);simp;omega
def ia(s:State)(i:Nat)(l:`è):State:=if i=0 then{s with left:=l}else{s with right:=l}
def aoy(s:State){i:Nat}(hi:i<=1)(w:`À)(he:cv s i=[]):Vbnlak.load s (i:Int) w=if wq (lines w).length (3.2)<0 then(s,.number (wq (lines w).length (3.2)))else(ia s i (TM.mk (100*i) 0 [] (3.2)),.number (3.2).length):=by
 obtain⟨rs,e1,e2,e3,e4⟩:=TM.P4 (100*i) (lines w) [] [] [] `Æ rfl (fun nm=>rfl);rw[p6]at e1 e3;unfold Vbnlak.load;have hw:'4' (i:Int) 0 1=true:=4.77;have hs:sideOf s (i:Int)=[]:=by
  unfold sideOf;unfold cv at he;by_cases z:i=0
  .rw[ay z]at he;rw[ay (by omega)];exact he
  .rw[aq z]at he;rw[aq (by omega)];exact he
 have hb:(if(i:Int)=0 then 0 else 100)=100*i:=by
  by_cases z:i=0
  .rw[ay (by omega),z]
  .rw[aq (by omega)];omega
 rw[hw,aq (by decide),hs,aq (fun z=>z rfl),hb,e1];rw[KZ]at e4;rw[e4];unfold wq;have deep:TM.jl 0 rs:=by
  have:=TM.GU (lines w) [] rs (by rw[p6];exact e1);exact this
 by_cases hl:`ç<(lines w).length
 .rw[ay hl,ay hl,ay (by omega)];simp
 .rw[aq hl,aq hl];simp only[];cases ef:(`ó `ç).find? (TM.j5 rs)with
  |none=>
   have hn:∀j,j<`ç->TM.j5 rs j=false:=fun j hj=>by
    have:=uO.mp ef j (jm.mpr hj);simpa using this
   rw[TM.amc deep hn];simp only[];rw[aq (show¬(0:Int)<0 by decide),TM.mE];unfold ia;by_cases z:i=0
   .rw[ay (by omega),ay z]
   .rw[aq (by omega),aq z]
  |some j=>
   have h1:=KW ef;have h2:∀k,k<j->TM.j5 rs k=false:=fun k hk=>by
    obtain⟨_,as,bs,Yp,hno⟩:=List.find?_eq_some_iff_append.mp ef;have hjr:j<`ç:=jm.mp (DD ef);have i_:k∈as:=by
     have hl:`_d=j:=by
      have:(`ó `ç)[`_d]? =some j:=by rw[Yp,oz (bp _),uZ];rfl
      obtain⟨q1,q2⟩:=dM.mp this;simpa using q2
     have:(`ó `ç)[k]? =some k:=U6 `È;rw[Yp,mh (by omega)]at this;exact cN this
    simpa using hno k i_
   obtain⟨x,ex,nx⟩:=TM.amd (base:=100*i) deep h1 h2;have hj:j<`ç:=jm.mp (DD ef);rw[ex];simp only[];rw[ay (by omega)];have:`Ó % 100=j:=by rw[nx];omega
   rw[this];congr 2;omega
def asU{w:`À}(h:¬wq (lines w).length (3.2)<0):(3.2).length=(lines w).length/\TM.ff [] (lines w)≠[]/\TM.jl 0 (3.2)/\(3.2).length<=8:=by
 obtain⟨rs,e1,e2,e3,e4⟩:=TM.P4 0 (lines w) [] [] [] `Æ rfl (fun nm=>rfl);rw[p6]at e1 e3;rw[e1]at h⊢;have deep:TM.jl 0 rs:=TM.GU (lines w) [] rs (by rw[p6];exact e1);have hl:¬`ç<(lines w).length:=fun z=>h (by unfold wq;rw[ay z];omega);refine⟨`Å,fun z=>?_,deep,e3⟩;obtain⟨x,xs,e⟩:=TM.zn w;rw[z,e]at hl;exact hl `Ç
def aZ.asJ(h:`ß){s':State}(e1:s'.told=s.told)(e2:s'.records=`á)(e3:s'.gone=s.gone)(e4:s'.dropped=s.dropped)(wf:WF s'){sd:`À}{ck:`Ø}{pg:Addr}
 (off:∀b o,H b=some o->b≠c.p->b≠c.bn->H' b=some o) (hp:H' c.p=some (.ins a.aQ c.dx (cW (.ref c.bn) (.ref c.pT) (.ref c.pR) (.ref pg)))) (cD:H' c.bn=some 2.15) (ki:sd.Nodup) (kg:0∈sd↔s'.left≠[]) (jw:1∈sd↔s'.right≠[]) (kh:∀i∈sd,i<=1)
 (k0:s'.left≠[]->gZ a 0.26 (ck 0) (textOf s'.left) (aw s'.left) (dP s'.left) (du s'.left)) (k1:s'.right≠[]->gZ a 0.26 (ck 1) (textOf s'.right) (aw s'.right) (dP s'.right) (du s'.right))
 (tx:(textOf s'.left).length<=5000/\(textOf s'.right).length<=5000) (iw:ij a 0.26 pg (iD (du s'.left) (du s'.right)) (Vbnlak.cells s') (numbers s')):aZ a t H' {c with sd:=sd,ck:=ck,pg:=pg} s':=by
 show `_aV;exact{wf:=wf,nd:=h.nd,xd:=h.xd,xs:=M.xs,obj:=hp,cl:=cD,ki:=ki,kg:=kg,jw:=jw,kh:=kh,k0:=k0,k1:=k1,lT:=M.hm _ _ h.lT,lR:=M.hm _ _ h.lR,uT:=off _ _ h.uT (aL a2) (aL b2),fT:=off _ _ h.fT (aL a3) (aL b3),uR:=off _ _ h.uR (aL a4) (aL b4),fR:=off _ _ h.fR (aL a5) (aL b5),pT:=by rw[nN,e1];exact h.pT,pR:=by rw[lL,e2];exact h.pR,gT:=by rw[nN,e1,e3];exact h.gT,gR:=by rw[lL,e2,e4];exact h.gR,bT:=by rw[e1,e3];exact h.bT,bR:=by rw[e2,e4];exact h.bR,dY:=fun x hx=>M.hm _ _ (h.dY x (by rw[<-e1];exact hx)),eK:=fun x hx=>(by rw[e2]at hx;exact 4.28),same:=fun x hx=>h.same x (by rw[<-e2];exact hx),tx:=tx,iw:=iw,t1:=M.t1,t2:=M.t2,t3:=M.t3}
def ac7(z:Int):(([0,1]:List Int).contains z)='4' z 0 1:=by
 unfold Vbnlak.within;rw[kr,m_,f7,MU,MU];simp only[bE,oB,pE];omega
def afL{z:Int}(h:'4' z 0 1=true):∃i:Nat,i<=1/\z=(i:Int):=by
 unfold Vbnlak.within at h;rw[f7]at h;have h1:=lP h.1;have h2:=lP h.2;exact⟨z.toNat,`Å,`Å⟩
def aZ.mem(h:`ß){i:Nat}(hi:i<=1):i∈c.sd↔cv s i≠[]:=by
 show `_bw
 .exact h.kg
 .exact h.jw
def ac6(s:State){i:Nat}(hi:i<=1):sideOf s (i:Int)=cv s i:=by
 unfold sideOf cv;by_cases z:i=0
 .rw[ay (by omega),ay z]
 .rw[aq (by omega),aq z]
def aZ.Wl(h:`ß){i:Nat}(hi:i<=1)(he:cv s i≠[]):gZ a 1.8 (c.ck i) (textOf `_V) (aw `_V) (dP `_V) (du `_V):=by
 show `_bw
 .exact h.k0 he
 .exact h.k1 he
def CP(s:State)(side:Int):Answer:=if '4' side 0 1=false then .number (-1)else if sideOf s side=[]then .number (-2)else .text (textOf (sideOf s side))
def adm(a:aj)(t:Tb):Sp:=fun vs H Q _=>∃(c:Cm)(s:State)(side:Int),vs=[.ref c.p,.int side]/\aZ a t H c s/\cT a t H c s ('=' (CP s side)) Q
def arD(T:`Ä)(C:oq w P K a):DZ•adm a t:=by
 refine amC T ?_;rintro vs H Q E ⟨c,s,side,rfl,hc,h⟩;have hl:(textOf (sideOf s side)).length<=5000:=by
  unfold sideOf;split
  .exact hc.tx.1
  .exact hc.tx.2
 refine `Á;unfold adY;ext;unfold CP at h;have hp:=hc.obj;have cD:=hc.cl;symm;refine QC (C.Im H) ?_;symm;rw[ac7];refine `_j
 .rw[ay (by simpa using e)]at h;show `_ar;exact 0.60
 rw[aq (by simpa using e)]at h;obtain⟨i,hi,rfl⟩:=afL (z:=side) (`_D);rw[ac6 s hi]at h hl;symm;rw[vh];refine 6.6
 .have hn:i∉c.sd:=by simpa using e2
  rw[ay (qP fun z=>hn ((hc.mem hi).mpr z))]at h;show `_ar;exact 0.60
 .have hn:i∈c.sd:=by simpa using e2
  have he:=(hc.mem hi).mp hn;rw[aq he]at h;obtain⟨dy,pt,pc,pd,ρ,f1,f2,f3,f4,f5⟩:=(hc.Wl hi he).ex;have Nc:=dz _ _ f1;have f2':=dz _ _ f2;symm;intro l0 iz;have bD:=bB iz hp (o:=HO.ah [V.int 0]);have aly:=bB iz cD (o:=HO.ah [V.int 0]);have f11:=bB iz Nc (o:=HO.ah [V.int 0]);symm;refine eJ (.inl aly) (fU hn) ?_;symm;refine kT ax (bB iz f2') ?_ fun r hr=>?_
  .rw[aJ];show 1+_<=_;exact bq (Vn hl 1) `Æ
  .have s1:ag H (af H l0 (.ah [.int 0])):=ag.new iz;have s2:=s1.trans (ag.new hr (o:=.ah ([V.int 0]++(textOf `_V).map nV)));refine h r _ c (fun b o eb _=>s2 _ _ eb) (hc.aD s2) `_x (s1.free hr) ?_;rw[ax];show _=some (HO.ah (V.int 0::(VbnlakNeutral.ints _).map V.int));unfold VbnlakNeutral.ints;rw[bP];rfl
def aub(s:State){i:Nat}(hi:i<=1)(l:`è):cv (ia s i l) i=l/\∀j,j<=1->j≠i->cv (ia s i l) j=cv s j:=by
 unfold cv ia;show `_bw
 .refine⟨rfl,fun j hj ne=>?_⟩;rw[aq ne,aq ne];rfl
 .refine⟨rfl,fun j hj ne=>?_⟩;have j0:j=0:=`Å;subst j0;rfl
def au3{s:State}(h:WF s){i:Nat}(hi:i<=1){l:`è}(hl:gE (100*i) l)(he:cv s i=[]):WF (ia s i l):=by
 unfold ia;show `_bw
 .exact au1 h hl he
 .exact au2 h hl he
def ade(a:aj)(t:Tb):Sp:=fun vs H Q _=>∃(c:Cm)(s:State)(side:Int)(q:Addr)(w:`À),vs=[.ref c.p,.int side,.ref q]/\aZ a t H c s/\H q=some (.ah (w.map nV))/\w.length<=4096/\q∉c.x/\cT a t H c (Vbnlak.load s side w).1 ('=' (Vbnlak.load s side w).2) Q
def arc(T:`Ä)(C:oq w P K a)(G1:EH•wV K)(G2:Ew•wL a)(G3:EM•wZ K a)(G4:xS•mO a)(G5:xT•SK a):DS•ade a t:=by
 refine amu T `Â `Â `Â `Â `Â ?_;rintro vs H Q E ⟨c,s,side,q,w,rfl,hc,hq,lw,xq,h⟩;refine `Á;unfold adQ;show `_aH;have cD:=hc.cl;symm;refine QC (C.Im H) ?_;symm;rw[ac7];refine `_j
 .have e':'4' side 0 1=false:=`_D;unfold Vbnlak.load at h;rw[ay e']at h;show `_ar;exact 0.60
 have e':'4' side 0 1=true:=`_D;obtain⟨i,hi,rfl⟩:=afL e';symm;rw[vh];refine cV (fun hn=>?_) fun hn=>?_
 .have he:=(hc.mem hi).mp hn;unfold Vbnlak.load at h;rw[aq (by rw[e'];decide),ac6 s hi,ay he]at h;show `_ar;exact 0.60
 have he:cv s i=[]:=qP fun z=>hn ((hc.mem hi).mpr z);rw[aoy s hi w he]at h;symm;refine⟨q,w,rfl,aG.of hq,`Å,fun q1 H1 s1 c1=>?_⟩;symm;refine⟨q1,_,rfl,c1,fun l hl=>bq (ł w l hl) `È,fun q2 H2 s2 c2=>?_⟩;obtain⟨as1,b1,b2,b3⟩:=c1;symm;refine⟨q1,q2,_,_,rfl,aG.of (s2 _ _ b1),c2,fun H3 s3=>?_⟩;have S3:=7.5;have gx:=hc.aD S3;rw[aJ,b2];symm;refine cV (fun ez=>?_) fun ez=>?_
 .rw[ay ez]at h;show `_ar;exact cT.num h hc S3 hr
 rw[aq ez]at h;obtain⟨ab_,rne,deep,r8⟩:=asU ez;have Gs:textOf (TM.mk (100*i) 0 [] (3.2))=w:=TM.auz rfl ab_;generalize TM.ff [] (lines w)=rows at h c2 ab_ rne deep r8 Gs⊢;have al5:gE (100*i) 0.34:=⟨rows,rfl,deep,r8⟩;have alS:TM.mk (100*i) 0 [] rows≠[]:=fun z=>rne (by have:=fv List.length z;rw[TM.mE]at this;exact Dz.mp this);symm;intro x eO hx fJ ne;have up:ag H3 2.98:=fun b o e=>by
  show `_bc
 have c3:=c2.aD s3;refine⟨x,eO,q,q2,i,rows,rfl,hi,ax,c3.aD up,deep,r8,fun pc pd ρ H4 c4 d1 d2 d3 d4=>`Á⟩;have S4:ag H H4:=fun b o e=>c4 _ _ (up _ _ (S3 _ _ e));have nw:∀{b o},fresh 2.98 H4 b=some o->H b=none/\H4 b=some o:=fun{b o} e=>by
  obtain⟨z1,z2⟩:=eP e;exact⟨S3.free (up.free z1),z2⟩
 have kO:=hc.aD S4;have ph:=kO.obj;have alz:=kO.cl;have hxn:H x=none:=S3.free hx;symm;refine nR alz (by rw[eU];exact oF (auT hc.ki hc.kh) `Æ) ?_;have Yy:gV (aB c.sd fun i=>V.ref (c.ck i)) (kN i) (.ref x)=aB (c.sd++[i]) fun j=>.ref 1.59:=by
  have:(aB c.sd fun i=>V.ref (c.ck i))=aB c.sd fun j=>V.ref 1.59:=iG fun j hj=>by
   have nz:¬j=i:=fun z=>hn (by rw[<-z];exact hj);show(kN j,_)=(kN j,V.ref 1.59);rw[aq nz]
  rw[this];exact tq hn (by rw[ay rfl])
 show aC _ _ _ _ (af H4 c.bn (.dK (gV (aB c.sd fun i=>V.ref (c.ck i)) (kN i) (.ref x))));rw[Yy];obtain⟨a1,a2,a3,a4,a5,b2',b3',b4,b5,c3',c4',c5,d4',d5,e5⟩:=tO hc.nd;have xM:x∉c.N t:=hc.zE hxn;have qM:q∉c.N t:=hc.Q4 hq xq;have nM:∀{b o},fresh 2.98 H4 b=some o->b∉c.N t:=fun e=>hc.zE (nw e).1;have pM:c.bn∈c.N t:=by simp[Cm.N,Cm.M]
 have QT:∀b o,H4 b=some o->b∉c.N t->af H4 c.bn 0.96 b=some o:=fun b o e nb=>by rw[au (show b≠c.bn from fun z=>nb (by rw[z];exact pM))];exact e
 have QV:af H4 c.bn 0.96 c.p=_:=(au a1).trans ph;have Ch:af H4 c.bn 0.96 c.bn=_:=ax;have Hw:∀b o,H4 b=some o->b≠c.bn->af H4 c.bn 0.96 b=some o:=fun b o e nb=>by rw[au nb];exact e
 generalize af H4 c.bn 0.96=H5 at QT QV Ch Hw⊢;have h45:ag 1.8 (ba `ą H5):=Bj fun b o e nb=>QT b o (S4 _ _ e) nb;have aaw:gZ a (ba `ą H5) x w (aw 0.34) (dP 0.34) (du 0.34):=by
  have g:∀{b o},b∉c.N t->H4 b=some o->ba `ą H5 b=some o:=fun nb e=>by rw[da nb];exact QT _ _ e nb
  refine⟨eO,q,pc,pd,ρ,g xM d1,g qM (S4 _ _ hq),g (nM d2) (nw d2).2,9.4,g (nM d4) (nw d4).2⟩;obtain⟨z,hz,rfl⟩:=cw.mp hy;rw[yt (Ql _ _) hz];exact g (nM (d3 z hz)) (nw (d3 z hz)).2
 obtain⟨Sm,Sn⟩:=aub s hi 0.34;have xt:=au3 hc.wf hi al5 he;have kk:∀j,j<=1->cv (`_9) j≠[]->gZ a (ba `ą H5) 1.59 (textOf (cv (`_9) j)) (aw (cv (`_9) j)) (dP (cv (`_9) j)) (du (cv (`_9) j)):=fun j hj cQ=>by
  by_cases z:j=i
  .subst z;rw[ay rfl,Sm,Gs];exact aaw
  .rw[aq z];rw[Sn j hj z]at cQ⊢;exact(hc.Wl hj cQ).aD h45
 have BW:∀j,j<=1->(j∈c.sd++[i]↔cv (`_9) j≠[]):=fun j hj=>by
  rw[cK,ku];by_cases z:j=i
  .subst z;rw[Sm];exact⟨fun _=>alS,fun _=>.inr rfl⟩
  .rw[Sn j hj z,hc.mem hj];exact⟨fun q=>q.elim id fun q=>absurd q z,.inl⟩
 have tx':(textOf (`_9).left).length<=5000/\(textOf (`_9).right).length<=5000:=by
  have old:∀j,j<=1->(textOf (cv s j)).length<=5000:=fun j hj=>by
   rcases(show j=0\/j=1 by omega)with rfl|rfl
   .exact hc.tx.1
   .exact hc.tx.2
  have all:∀j,j<=1->(textOf (cv (`_9) j)).length<=5000:=fun j hj=>by
   by_cases z:j=i
   .subst z;rw[Sm,Gs];omega
   .rw[Sn j hj z];exact old j hj
  exact⟨all 0 `È,all 1 `È⟩
 have CM:(`_9).told=s.told/\(`_9).records=`á/\(`_9).gone=s.gone/\(`_9).dropped=s.dropped:=by
  unfold ia;split<;>exact⟨rfl,rfl,rfl,rfl⟩
 have hlen:`_I=`_I:=rfl;have fin:∀r H8 c',(∀b o,H b=some o->b∉c.M t->H8 b=some o)->aZ a t H8 c' (`_9)->(c'.M t=c.M t/\c'.x=c.x)->H r=none->H8 r=some (.ah [.int `_I])->Q `à H8:=h;generalize ia s i 0.34=s' at kk BW xt tx' CM fin;obtain⟨r1,r2,r3⟩:=c3;have jb:H5 q2=some (.ah (r1.map V.ref)):=Hw _ _ (c4 _ _ (up _ _ r2)) (fun z=>by
  have e9:=S3 _ _ cD;rw[<-z,r2]at e9;cases e9)
 clear h aaw Yy Gs;symm;refine⟨c.p,c.dx,c.bn,_,c.sd++[i],fun j=>if j=i then x else c.ck j,s',textOf s'.left,textOf s'.right,rfl,QV,rfl,rfl,show(4:Nat)<1000 by decide,Ch,xt,BW 0 `È,BW 1 `È,fun z=>(kk 0 `È z).aD dz,fun z=>(kk 1 `È z).aD dz,fun g H6 s6 hg=>?_⟩;have qw:af H6 c.p 0.91 q2=some (.ah (r1.map V.ref)):=by
  rw[au (dG jb QV (by intro z;cases z))];exact s6 _ _ jb
 show `_ar;rw[aJ,r3.1];have p5:c.p∈c.N t:=by simp[Cm.N,Cm.M]
 have H5M:∀b,H5 b=none->H b=none:=fun b e=>by
  cases q9:H b with
  |none=>rfl
  |some o=>
   by_cases z:b=c.bn
   .rw[z,Ch]at e;cases e
   .rw[Hw b o (S4 _ _ q9) z]at e;cases e
 have QU:∀b o,H b=some o->b≠c.p->b≠c.bn->af H6 c.p 0.91 b=some o:=fun b o e n1 n2=>by
  rw[au n1];exact s6 _ _ (Hw b o (S4 _ _ e) n2)
 have Y2:ag (ba `ą H5) (ba `ą (af H6 c.p 0.91)):=Bj fun b o e nb=>by
  rw[au (show b≠c.p from fun z=>nb (by rw[z];exact p5))];exact s6 _ _ e
 have hgF:ij a (ba `ą (af H6 c.p 0.91)) g (iD (du s'.left) (du s'.right)) (Vbnlak.cells s') (numbers s'):=hg.aD fun b o e=>by
  obtain⟨z1,z2⟩:=eP e;have nb:b∉c.N t:=hc.zE (H5M b z1);rw[da nb,au (show b≠c.p from fun z=>nb (by rw[z];exact p5))];exact z2
 have new:=hc.asJ (H':=af H6 c.p 0.91) (s':=s') CM.1 CM.2.1 CM.2.2.1 CM.2.2.2 xt (sd:=c.sd++[i]) (ck:=fun j=>if j=i then x else c.ck j) (pg:=g) QU ax ((au (aL a1)).trans (s6 _ _ Ch))
  (p7.mpr ⟨hc.ki,`Õ,fun y hy z hz e9=>hn (by rw[ku.mp hz]at e9;rw[<-e9];exact hy)⟩) (BW 0 `È) (BW 1 `È) (fun j hj=>by
   rcases cK.mp hj with hj|hj
   .exact hc.kh j hj
   .have:=ku.mp hj;omega) (fun z=>(kk 0 `È z).aD Y2) (fun z=>(kk 1 `È z).aD Y2) tx' hgF
 refine fin r _ _ (fun b o e nb=>bB hr (QU b o e (fun z=>nb (by rw[z];simp[Cm.M])) fun z=>nb (by rw[z];simp[Cm.M]))) (new.aD 5.5) `_x ?_ ax;cases q9:H r with
 |none=>rfl
 |some o=>
  by_cases z:r=c.p
  .rw[z,ax]at hr;cases hr
  .by_cases z2:r=c.bn
   .rw[z2,au (aL a1),s6 _ _ Ch]at hr;cases hr
   .rw[QU r o q9 z z2]at hr;cases hr
def aav(v1 v2:Int){Q:VK}(h:∀L dL u f H3,ag H H3->H L=none->H u=none->H f=none->L≠u->L≠f->u≠f->H3 L=some (.ins a.cU dL (gG (.int v1) (.int v2) (.ref u) `æ))->H3 u=some `ü->H3 f=some `ü->Q (.ref L) H3):G' a.cU (sE a) [] E0 Q [.int v1,.int v2] H:=by
 intro x dx hx fJ ne;refine⟨x,dx,_,_,rfl,ax,fun u f hu hf nuf=>`Á⟩;have QS:u≠x:=fun e=>by rw[e,ax]at hu;cases hu
 have QF:f≠x:=fun e=>by rw[e,ax]at hf;cases hf
 rw[au QS]at hu;rw[au QF]at hf;have Hu:H u=none:=by
  by_cases e:u=dx
  .rw[e];exact fJ
  .rw[au e]at hu;exact hu
 have Hf:H f=none:=by
  by_cases e:f=dx
  .rw[e];exact fJ
  .rw[au e]at hf;exact hf
 refine h x dx u f _ (5.0) hx Hu Hf (aL QS) (aL QF) nuf ax ?_ ?_
 .rw[au (aR e hx),au (aR e Hf),au (aR e Hu),au (aR e hx)];exact bB fJ e
 .rw[au QS,au nuf,ax]
 .rw[au QF,ax]
def ue(a:aj)(t:Tb):Sp:=fun vs H Q _=>∃(p dx:Addr),vs=`Ċ/\H p=some (.ins a.aQ dx [])/\t.t1≠t.t2/\t.t1≠t.t3/\t.t2≠t.t3/\dU `ę t.t1 9.2 tX/\dU `ę t.t2 9.1 tW/\dU `ę t.t3 5.2 su/\
 ∀c H',c.p=p->c.x=[]->ag `ę H'->aZ a t H' c Vbnlak.start->Q .aX H'
def aqi(T:`Ä)(G1:D_•sE a)(G2:xT•SK a):DR•ue a t:=by
 refine ams T `Â `Â ?_;rintro vs H Q E ⟨p,dx,rfl,hp,n12,n13,n23,t1,t2,t3,h⟩;refine `Á;unfold adO;ext;symm;intro bn Gn;have zz:bn≠p:=aL (aR hp Gn);have bW:af H bn `ü p=some (.ins a.aQ dx []):=bB Gn hp;refine iN rfl (zq bW T.bU T.Hh `Æ ?_);have A1:ag `ę (af (af H bn `ü) p 1.74):=fun b o e=>by
  obtain⟨e1,e2⟩:=eS e;rw[au e2];exact bB Gn e1
 have B1:af (af H bn `ü) p 1.74 p=some (.ins a.aQ dx [1.54]):=ax;have C1:af (af H bn `ü) p 1.74 bn=some `ü:=(au zz).trans ax;have Cp:bh H p bn=none:=by rw[lB zz];exact Gn
 generalize af (af H bn `ü) p 1.74=H1 at A1 B1 C1⊢;symm;refine aav 20 60 fun L1 dL1 u1 f1 H2 s2 x1 x2 x3 m1 m2 m3 y1 y2 y3=>?_;have B2:=s2 _ _ B1;refine iN rfl (zq B2 T.bU T.aad (show(1:Nat)<1000 by decide) ?_);have q1:L1≠p:=aL (aR B1 x1);have q2:u1≠p:=aL (aR B1 x2);have q3:f1≠p:=aL (aR B1 x3);have q4:u1≠bn:=aL (aR C1 x2);have q5:f1≠bn:=aL (aR C1 x3);have A3:ag `ę (af H2 p 1.73):=fun b o e=>by
  rw[au (eS e).2];exact s2 _ _ (A1 _ _ e)
 have B3:af H2 p 1.73 p=some (.ins a.aQ dx [1.54,("told",.ref L1)]):=ax;have U3:∀{b o},b≠p->H2 b=some o->af H2 p 1.73 b=some o:=fun nb e=>by rw[au nb];exact e
 generalize af H2 p 1.73=H3 at A3 B3 U3⊢;have C3:=U3 zz (s2 _ _ C1);have Tv:=U3 q1 y1;have Ji:=U3 q2 y2;have Jj:=U3 q3 y3;symm;refine aav 10 30 fun Lw dL2 u2 f2 H4 s4 x4 x5 x6 m4 m5 m6 y4 y5 y6=>?_;have B4:=s4 _ _ B3;refine iN rfl (zq B4 T.bU T.aac (show(2:Nat)<1000 by decide) ?_);have r1:Lw≠p:=aL (aR B3 x4);have r2:u2≠p:=aL (aR B3 x5);have r3:f2≠p:=aL (aR B3 x6);have r4:u2≠bn:=aL (aR C3 x5);have r5:f2≠bn:=aL (aR C3 x6);have r6:u2≠u1:=aL (aR Ji x5);have r7:u2≠f1:=aL (aR Jj x5);have r8:f2≠u1:=aL (aR Ji x6);have r9:f2≠f1:=aL (aR Jj x6);have A5:ag `ę (af H4 p 1.58):=fun b o e=>by
  rw[au (eS e).2];exact s4 _ _ (A3 _ _ e)
 have B5:af H4 p 1.58 p=some (.ins a.aQ dx [("checklists",.ref bn),("told",.ref L1),("recorded",.ref Lw)]):=ax;have U5:∀{b o},b≠p->H4 b=some o->af H4 p 1.58 b=some o:=fun nb e=>by rw[au nb];exact e
 generalize af H4 p 1.58=H5 at A5 B5 U5⊢;have C5:=U5 zz (s4 _ _ C3);have y15:=U5 q1 (s4 _ _ Tv);have y25:=U5 q2 (s4 _ _ Ji);have y35:=U5 q3 (s4 _ _ Jj);have y45:=U5 r1 y4;have y55:=U5 r2 y5;have y65:=U5 r3 y6;symm;refine⟨p,dx,bn,_,[],fun _=>0,Vbnlak.start,[],[],rfl,B5,rfl,rfl,show(3:Nat)<1000 by decide,C5,afI,1.75,1.75,fun z=>absurd rfl z,fun z=>absurd rfl z,fun g H6 s6 hg=>?_⟩;symm;have A7:ag `ę (af H6 p 0.32):=fun b o e=>by
  rw[au (eS e).2];exact s6 _ _ (A5 _ _ e)
 have U7:∀{b o},b≠p->H5 b=some o->af H6 p 0.32 b=some o:=fun nb e=>by rw[au nb];exact s6 _ _ e
 have V7:∀{b o},b≠p->H6 b=some o->af H6 p 0.32 b=some o:=fun nb e=>by rw[au nb];exact e
 have B7:af H6 p 0.32 p=some (.ins a.aQ dx (cW (.ref bn) (.ref L1) (.ref Lw) (.ref g))):=ax;show Q .aX (af H6 p 0.32);generalize af H6 p 0.32=H7 at A7 U7 V7 B7⊢;obtain⟨ps1,w1,_⟩:=id t1;obtain⟨Cz,w2,_⟩:=id t2;obtain⟨ps3,w3,_⟩:=id t3;have tb:∀{x:Addr}{ps},bh H p x=some (.fi ps)->x≠p/\x≠bn/\x≠u1/\x≠f1/\x≠u2/\x≠f2/\x≠L1/\x≠Lw/\H5 x=some (.fi ps):=fun{x ps} e=>by
  have e1:=A1 _ _ e;have e3:=A3 _ _ e;exact⟨(eS e).2,aR e Cp,aR e1 x2,aR e1 x3,aR e3 x5,aR e3 x6,aR e1 x1,aR e3 x4,A5 _ _ e⟩
 obtain⟨a1,a2,a3,a4,a5,a6,a7,a8,a9⟩:=tb w1;obtain⟨b1,b2,b3,b4,b5,b6,b7,b8,b9⟩:=tb w2;obtain⟨c1,c2,c3,c4,c5,c6,c7,c8,c9⟩:=tb w3;have lpc:L1≠bn:=aL (aR C1 x1);have aoA:Lw≠bn:=aL (aR C3 x4);have l21:L1≠u2:=aR Tv x5;have l22:L1≠f2:=aR Tv x6;have l23:Lw≠u1:=aL (aR Ji x4);have l24:Lw≠f1:=aL (aR Jj x4)
 let c:Cm:=⟨p,dx,bn,L1,Lw,g,dL1,dL2,u1,f1,u2,f2,[],fun _=>0,[],[],[],[],fun _=>0,fun _=>0,fun _=>0,fun _=>0,fun _=>([],[]),[]⟩
 have hM:c.N t=[p,bn,u1,f1,u2,f2,t.t1,t.t2,t.t3]:=rfl;have kQ:∀{b o},b∉c.N t->H7 b=some o->ba `ą H7 b=some o:=fun nb e=>by rw[da nb];exact e
 have nM5:∀{b},H5 b=none->b∉c.N t:=fun{b} e z=>by
  rw[hM]at z;simp only[bE,oB,pE]at z;rcases z with rfl|rfl|rfl|rfl|rfl|rfl|rfl|rfl|rfl
  .rw[B5]at e;cases e
  .rw[C5]at e;cases e
  .rw[y25]at e;cases e
  .rw[y35]at e;cases e
  .rw[y55]at e;cases e
  .rw[y65]at e;cases e
  .rw[a9]at e;cases e
  .rw[b9]at e;cases e
  .rw[c9]at e;cases e
 refine h c H7 rfl rfl A7 {wf:=afI,nd:=?_,xd:=fun b z=>5.6,xs:=fun b z=>5.6,obj:=B7,cl:=U7 zz C5,ki:=List.nodup_nil,kg:=1.75,jw:=1.75,kh:=fun i z=>5.6,k0:=fun z=>absurd rfl z,k1:=fun z=>absurd rfl z,lT:=kQ ?_ (U7 q1 y15),lR:=kQ ?_ (U7 r1 y45),uT:=U7 q2 y25,fT:=U7 q3 y35,uR:=U7 r2 y55,fR:=U7 r3 y65,pT:=Perm.refl _,pR:=Perm.refl _,gT:=Perm.refl _,gR:=Perm.refl _,bT:=by decide,bR:=by decide,dY:=fun x z=>5.6,eK:=fun x z=>5.6,same:=fun x z=>5.6,tx:=⟨`Ĝ,`Ĝ⟩,iw:=?_,t1:=mV t1 A7,t2:=mV t2 A7,t3:=mV t3 A7}
 .rw[show c.M t=[p,bn,u1,f1,u2,f2,t.t1,t.t2,t.t3]from rfl];simp only[jB,bE,oB,pE,zy,not_false_eq_true,List.nodup_nil,and_true];exact⟨⟨aL zz,aL q2,aL q3,aL r2,aL r3,aL a1,aL b1,aL c1⟩,⟨aL q4,aL q5,aL r4,aL r5,aL a2,aL b2,aL c2⟩,⟨m3,aL r6,aL r8,aL a3,aL b3,aL c3⟩,⟨aL r7,aL r9,aL a4,aL b4,aL c4⟩,⟨m6,aL a5,aL b5,aL c5⟩,⟨aL a6,aL b6,aL c6⟩,⟨n12,n13⟩,n23⟩
 .rw[hM];simp only[bE,oB,pE,zy];exact⟨q1,lpc,m1,m2,l21,l22,aL a7,aL b7,aL c7⟩
 .rw[hM];simp only[bE,oB,pE,zy];exact⟨r1,aoA,l23,l24,m4,m5,aL a8,aL b8,aL c8⟩
 .refine hg.aD fun b o e=>?_;obtain⟨z1,z2⟩:=eP e;exact kQ (nM5 z1) (V7 (fun z=>by rw[z,B5]at z1;cases z1) z2)
abbrev dD(s:State)(k:Call):List Int:='=' (`ĉ s k).2
def cT.pure{Q:VK}{eI:`Ê}(d:cT a t H c s eI Q)(h:`ß){H1:Hp}(k:ag H H1){r:Addr}(hr:H r=none)(e:H1 r=some (.ah (eI.map V.int))):Q `à H1:=
 d r _ c (fun b o e _=>k _ _ e) (h.aD k) `_x hr e
def Ya{l m:`À}{g f:Nat->V}(h:aB l g=aB m f):l=m/\∀c∈l,g c=f c:=by
 have e:=AT h;refine⟨e,`_n⟩;subst e;have:=fv (fun d=>f6 d (kN x)) h;simp only[fU hx]at this;exact bZ this
def Sc{l m:`À}{ρ g:Nat->Nat}(h:aB l (fun c=>V.ref (ρ c))=aB m fun c=>nV (g c)):m=[]:=by
 obtain⟨e,hv⟩:=Ya h;cases m with
 |nil=>rfl
 |cons x r=>rw[e]at hv;exact absurd (hv x `Ç) `ć
def eC.qg{α:Type}{R:Hp->Addr->α->Prop}(mo:1.80){p r:Addr}{xs:`ċ}{o:HO}(h:eC R H p xs)(hr:H r=some o)(ho:∀ys,o≠.ah ys)(hR:∀H1 b x,H1 r=some o->R H1 b x->R (bh H1 r) b x):eC R (bh H r) p xs:=by
 show `_cb;have np:p≠r:=fun z=>by rw[z,hr]at h1;exact ho _ (bZ h1)
 refine⟨as,cJ h1 np,h2,fun i b e=>?_⟩;obtain⟨x,ex,hx⟩:=h3 i b e;refine⟨x,ex,mo _ _ _ _ (hR _ _ _ (cJ hr (aL np)) hx) fun b o e=>?_⟩;obtain⟨z1,z2⟩:=eS e;obtain⟨z3,z4⟩:=eS z1;exact cJ (cJ z3 z2) z4
def ij.qg{pg r:Addr}{pairs:`_2}{cs:`ì}{ns l:`À}{ρ:`Ø}(h:ij a H pg pairs cs ns)(hr:H r=some '<')(hn:ns≠[]):ij a (bh H r) pg pairs cs ns:=by
 obtain⟨dx,pp,ee,h1,h2,h3⟩:=h.ex;refine⟨dx,pp,ee,cJ h1 (dG h1 hr 2.16),eC.qg pm h2 hr (0.7) (fun H1 b x e hx=>cJ hx (dG hx e (dB (show(1:Nat)≠4 by decide)))),cJ h3 (fun z=>?_)⟩;rw[z,hr]at h3;injection h3 with h3
 injection h3 with h3
 exact hn (Sc h3)
def g9.qg{pw r:Addr}{ws:List WD}{kvs:`â}(h:g9 a H pw ws)(hr:H r=some `Þ):g9 a (bh H r) pw ws:=
 eC.qg wm h hr (0.7) fun H1 b x e ⟨dx,nd,z1,z2⟩=>⟨dx,nd,cJ z1 (dG z1 e 2.16),cJ z2 (dG z2 e (dB (show(0:Nat)≠4 by decide)))⟩
def cP.qg{q r:Addr}{cs:`À}{ρ:`Ø}{F:`É}{l:`è}(h:cP H q cs cs ρ F)(hr:qO H r l)(hn:cs≠[]):cP (bh H r) q cs cs ρ F:=by
 obtain⟨τ,r1,r2⟩:=hr.ex;have row:∀c∈cs,ρ c≠r:=fun c hc z=>by
  have:=h.row c hc;rw[z,r1]at this;injection this with this
  injection this with this
  exact hn (Sc this)
 refine⟨cJ h.tab fun z=>?_,fun c hc=>cJ (h.row c hc) (row c hc),h.inj,h.ne,h.ok⟩;have e:=h.tab;rw[z,r1]at e;injection e with e
 injection e with e
 obtain⟨e1,e2⟩:=Ya e;cases iy:cs with
 |nil=>exact hn iy
 |cons x r'=>
  have hx:x∈cs:=by rw[iy];simp
  have e3:=e2 x (by rw[e1];exact hx);have e4:τ x=ρ x:=V.ref.inj e3;have:=r2 x (by rw[e1];exact hx);rw[e4,h.row x hx]at this;cases this
def QR{s:State}{z:Int}(h:(`ν).isSome=true):∃x,conceptOf s z=some x/\x∈`_R s/\z=(`Ó:Int)/\`Ó∈numbers s:=by
 obtain⟨x,hx⟩:=aif.mp h;obtain⟨h1,h2⟩:=ajv hx;exact⟨x,hx,h1,h2,gu h1⟩
def tP{s:State}{z:Int}(h:(`ν).isSome=false):conceptOf s z=none:=by
 cases e:conceptOf s z with
 |none=>rfl
 |some x=>rw[e]at h;cases h
def OB(h:`ß)(hw:ways s.told<=16):∀x∈qL s (jg c.rc `á) (s.told.map gp),x.2.length<=10000:=(FQ h.wf hw h.same h.wf.rn (Sublist.refl s.told)).2
def adb(a:aj)(t:Tb):Sp:=fun vs H Q _=>∃(c:Cm)(s:State)(x y:Int),vs=[.ref c.p,.int x,.int y]/\aZ a t H c s/\cT a t H c s (dD s (.exact x y)) Q
def aqZ(T:`Ä)(G1:p8•CT a t)(G2:lh•w8 a t)(G3:sS•CU a)(G4:lj•xb a t):DP•adb a t:=by
 refine amo T `Â `Â `Â `Â ?_;rintro vs H Q E ⟨c,s,x,y,rfl,hc,h⟩;refine `Á;unfold adK;show `_aH;symm;refine 3.60;show `_az;symm;refine `_j
 .have e':conceptOf s x=none:=tP ((om _).mp e);show `_bg
 obtain⟨cx,AV,œ,rfl,Cb⟩:=QR (s:=s) (z:=x) ((xx _).mp e);symm;refine⟨c,s,y,rfl,cr,fun H2 s2=>?_⟩;show `_av;symm;refine 6.6
 .have e':conceptOf s y=none:=tP ((om _).mp e2);simp only[dD,Vbnlak.step,AV,e',VbnlakNeutral.shown]at h;show `_ar;exact cT.num h hc (`_l) hr
 obtain⟨cy,Ys,mcy,rfl,ncy⟩:=QR (s:=s) (z:=y) ((xx _).mp e2);symm;refine⟨c,s,rfl,c_,fun H3 s3=>?_⟩;have gx:=c_.aD s3;have ja:=gx.obj;have S3:=7.5;symm;refine cV (fun e3=>?_) fun e3=>?_
 .simp only[dD,Vbnlak.step,AV,Ys,ay (show LIMIT<ways s.told from e3),VbnlakNeutral.shown]at h;show `_ar;exact cT.num h hc S3 hr
 .simp only[dD,Vbnlak.step,AV,Ys,aq (show¬LIMIT<ways s.told from e3),VbnlakNeutral.shown]at h;symm;refine⟨c,s,rfl,gx,`Å,fun q H4 s4 hq=>?_⟩;symm;intro l hl;have s5:ag H4 (bh (af H4 l (.ah [.int (cy.number:Int)])) l):=fun b o e=>cJ (bB hl e) (aR e hl);have kO:=gx.aD s4;symm;refine⟨c.p,c.dx,c.pg,q,l,_,_,_,_,_,_,_,cx.number,[cy.number],rfl,bB hl kO.obj,(kO.iw.aD dz).aD s5,(hq.aD wm qm).aD wm s5,OB hc `È,Cb,fun d hd=>by rw[ku.mp hd];exact ncy,show(1:Nat)<=1000 by decide,.inr ax,fun r H5 s6 hr e=>?_⟩;have S5:=((S3.trans s4).trans (ag.new hl)).trans s6;refine cT.pure h hc S5 (((S3.trans s4).trans (ag.new hl)).free hr) ?_;rw[e];show some (HO.ah [nV _])=some (HO.ah [V.int _]);rw[ju,Na s hc.same]
def Jh{q:Addr}{ws:List WD}(h:g9 a H q ws):∃as:List Addr,H q=some ']'/\(`ù).isEmpty=ws.isEmpty:=by
 obtain⟨as,h1,h2,_⟩:=h;refine⟨as,h1,?_⟩;rw[Dy];cases as with
 |nil=>cases ws with
  |nil=>rfl
  |cons=>cases h2
 |cons=>cases ws with
  |nil=>cases h2
  |cons=>rfl
def Jg(h:`ß):(1.88).isEmpty=!Vbnlak.possible s s.told `á:=Tu s h.same s.told
def adg(a:aj)(t:Tb):Sp:=fun vs H Q _=>∃(c:Cm)(s:State),vs=[.ref c.p]/\aZ a t H c s/\cT a t H c s (dD s .model) Q
def adt{s:State}:(standing s=[])↔possible s s.told `á=false:=by
 rw[aa3];unfold standing;rw[Dy];cases(choices s.told).filter (stands s `á)with
 |nil=>simp
 |cons=>simp
def ar9(l:`_2):(l.flatMap fun x=>[V.int x.1,V.int x.2])=(l.flatMap fun x=>[x.1,x.2]).map V.int:=by
 rw[DB];rfl
def asy(h:`ß):(0.62).length<=81:=by
 rw[HE];have h1:=zo s.left;have h2:=zo `Ð;have h3:=h.wf.left.len;have h4:=h.wf.right.len;exact uX (show _<=9 by omega) (show _<=9 by omega)
def atY(S:Nat)(l:`_2):(sy S l).length<=`Û:=by
 unfold sy;refine bq (DA _ _) ?_;rw[uS];exact bp _
def arj(T:`Ä)(G1:lh•w8 a t)(G2:lj•xb a t)(G3:D9•adh a):DU•adg a t:=by
 refine amx T `Â `Â `Â ?_;show `_aq;unfold adT;show `_aH;symm;refine⟨c,s,rfl,hc,1.43⟩;show `_az;show `_bH
 .show `_aD;exact 8.0
 simp only[dD,Vbnlak.step,aq (show¬LIMIT<ways s.told from e)]at h;symm;refine⟨c,s,rfl,cr,`Å,fun q H2 s2 hq=>?_⟩;have hw:=hq.aD wm qm;show `_av;obtain⟨as,q1,q2⟩:=Jh hw;symm;intro l0 iz;refine 3.40;rw[q2,Jg hc];show `_bO
 .rw[adt.mpr ((om _).mp e2)]at h;show `_ar;exact cT.num h hc S3 hr
 have gx:=c_.aD s3;have ja:=gx.obj;have Gu:=hw.aD wm s3;have Y6:=gx.iw.aD dz;rw[Dc s hc.same]at Gu;have iC:((choices s.told).filter (stands s `á))=standing s:=rfl;rw[iC]at Gu;cases rE:standing s with
 |nil=>rw[adt.mp rE]at e2;cases e2
 |cons l ls=>
 rw[rE]at h Gu;simp only[VbnlakNeutral.shown]at h;obtain⟨bs,w1,w2,w3⟩:=Gu;cases bs with
 |nil=>cases w2
 |cons b bs=>
 obtain⟨x,ex,dx,nd,z1,z2⟩:=w3 0 b rfl;cases ex;have Jk:=(eS z1).1;obtain⟨dg,pp,ee,g1,g2,g3⟩:=Y6.ex;symm;refine tM (j:=0) (aG.of w1) rfl rfl ?_;symm;have l81:=asy hc;refine⟨c.pg,aT `ñ (fe l),_,_,_,rfl,Y6,`Å,fun r H4 xs s4 hr xl hx=>?_⟩;have em:=aoU hc.wf l;rw[em]at xl hx;have lw:((world s l).map fun x=>1.91).length<=81:=by rw[<-em];exact bq (atY _ _) l81
 generalize(world s l).map (fun x=>1.91)=prs at xl hx h lw;symm;intro A hA;have s5:ag H4 (af H4 A (.ah [.int `Ã])):=ag.new hA;symm;refine fV (xs:=xs) (fun i σ H'=>∃v4,σ=[some (.ref c.p),`Č,some `à,some (.ref A),v4]/\ag H4 H'/\H' A=some (.ah (V.int `Ã::(prs.take i).flatMap fun x=>[V.int x.1,V.int x.2]))) ⟨none,rfl,s5,ax⟩ (fun i σ H' _ z=>by obtain⟨_,_,z1,_⟩:=z;exact aG.of (z1 _ _ hr)) (fun i x σ H' Gw z=>?_) `é
 .obtain⟨v4,rfl,s6,eA⟩:=z;obtain⟨b,c1,d1,rfl,ep,hb⟩:=hx i x Gw;have hA6:aG K H' A _:=aG.of eA;symm;have lt:((prs.take i).flatMap fun x=>[V.int x.1,V.int x.2]).length<=162:=by
   refine bq (qk _ 2 _ fun _ _=>by simp) ?_;rw[gl];omega
  refine apt eA (s6 _ _ (s4 _ _ hb)) (by rw[cB];exact bq (jC (Nat.add_le_add_right lt 1) (bp 2)) `Æ) ?_;symm;refine⟨_,rfl,s6.set hA,?_⟩;rw[ax,eR ep,uP,xH];rfl
 .obtain⟨v4,rfl,s6,eA⟩:=z;symm;have S6:=(S3.trans s4).trans s6;refine cT.pure h hc S6 ((S3.trans s4).free hA) ?_;rw[eA,xl,eT,ar9];rfl
def ac_(a:aj)(t:Tb):Sp:=fun vs H Q _=>∃(c:Cm)(s:State),vs=[.ref c.p]/\aZ a t H c s/\cT a t H c s (dD s .built) Q
def ajx(l:`ì):(l.flatMap fun x=>V.int x.length::x.map nV)=(l.flatMap counted).map V.int:=by
 rw[DB];refine A0 fun x _=>?_;unfold counted VbnlakNeutral.ints;rw[cY,bP];rfl
def abY(cs:`À)(F:`É)(ns:`À):(j_ cs F ns).length<=`ë:=nh _ _
def asz(cs:`À)(F:`É):∀x∈pG cs F,x.length<=`ë:=fun x hx=>by
 unfold pG at hx;show `_bt
 .obtain⟨c,_,rfl⟩:=cw.mp hx;exact abY _ _ _
 .unfold nu og at hx;obtain⟨i,_,hx⟩:=uU.mp hx;obtain⟨d,_,rfl⟩:=cw.mp hx;exact abY _ _ _
def asA(cs:`À)(F:`É):(pG cs F).length<=`ë+`ë*`ë:=by
 unfold pG;rw[dc,aJ];refine Vn ?_ _;unfold nu;refine bq (qk _ cs.length _ fun i _=>?_) (by rw[uS];exact bp _);unfold og;rw[aJ];refine bq (nh _ _) ?_;rw[qY];omega
def aqO(T:`Ä)(G1:xV•SM a t)(G2:Et•wJ)(G3:ED•wR K):DM•ac_ a t:=by
 refine aml T `Â `Â `Â ?_;show `_aq;unfold adH;show `_aH;have sf:=hc.wf.len;symm;refine⟨c,s,rfl,hc,fun q ρ F H1 s1 hT eq=>?_⟩;have e0:dD s .built=if(((`_Y).all fun c=>(`_Y).all fun d=>single `Ď)=false)then [-1]else '=' (.points (pG `Đ F)):=by
  simp only[dD,Vbnlak.step];rw[eq,at0];cases es:((`_Y).all fun c=>(`_Y).all fun d=>single `Ď)with
  |false=>rfl
  |true=>
   rw[aq (by decide),aq (by decide),<-Mx,<-ass _ F hT.ok es,<-je]
 rw[e0]at h;symm;refine⟨q,_,ρ,F,rfl,hT,?_⟩;symm;refine `_j
 .rw[ay ((om _).mp e)]at h;show `_ar;exact 8.0
 rw[aq (by rw[(xx _).mp e];decide)]at h;have pe:=asz `Đ F;have pl:=asA `Đ F;have v9:(pG `Đ F).length<=16+16*16:=bq pl (jC sf (uX sf sf));have Q7:∀x∈pG `Đ F,x.length<=16:=fun x hx=>bq (pe x hx) sf;symm;refine⟨q,_,ρ,F,rfl,hT,`Å,fun r H2 s2 hr=>?_⟩;generalize pG `Đ F=HW at h Q7 v9 hr;obtain⟨as,r1,r2,r3⟩:=hr;have r1':=(eP r1).2;symm;intro A hA;have s3:ag H2 (af H2 A (.ah [.int (`ù).length])):=ag.new hA;symm;refine fV (xs:=`ù) (fun i σ H'=>∃v4,σ=[some (.ref c.p),`Č,some `à,some (.ref A),v4]/\ag H2 H'/\H' A=some (.ah (V.int (`ù).length::(HW.take i).flatMap fun x=>V.int x.length::x.map nV))) ⟨none,rfl,s3,ax⟩ (fun i σ H' _ z=>by obtain⟨_,_,z1,_⟩:=z;exact aG.of (z1 _ _ r1')) (fun i x σ H' Gw z=>?_) `é
 .obtain⟨v4,rfl,s6,eA⟩:=z;rw[cG]at Gw;obtain⟨b,hb,rfl⟩:=gc.mp Gw;obtain⟨pt,ep,hpt⟩:=r3 i b hb;have al0:H' b=some (.ah (pt.map nV)):=s6 _ _ (eP (eS hpt).1).2;have hA6:aG K H' A _:=aG.of eA;have l1:=Q7 pt (cN ep);symm;intro l1' O_;have hb1:=bB O_ al0 (o:=.ah [.int (pt.map nV).length]);have hA1:=bB O_ eA (o:=.ah [.int (pt.map nV).length]);symm;refine kT ax hb1 (by rw[aJ];exact bq (show _<=20 by simp;omega) `Æ) fun l2 iQ=>?_;have hA2:=bB iQ hA1 (o:=.ah ([.int (pt.map nV).length]++pt.map nV));have lt:((HW.take i).flatMap fun x=>V.int x.length::x.map nV).length<=272*17:=by
   refine bq (qk _ 17 _ fun x hx=>?_) ?_
   .rw[cB,aJ];have:=Q7 x (List.mem_of_mem_take hx);omega
   .rw[gl];exact Aq 17 `È
  symm;refine B0 hA2 ax (by rw[cB,dc,aJ];exact bq (jC (Nat.add_le_add_right lt 1) (jC (bp 1) l1)) `Æ) ?_;symm;refine⟨_,rfl,((s6.trans (ag.new O_)).trans (ag.new iQ)).set hA,?_⟩;rw[ax,eR ep,uP,xH,aJ];show _=some (HO.ah (_::(_++((V.int pt.length::pt.map nV)++[]))));rw[i6,aJ];rfl
 .obtain⟨v4,rfl,s6,eA⟩:=z;symm;have S6:=(`_l).trans s6;refine cT.pure h hc S6 ((`_l).free hA) ?_;rw[eA,aJ,r2,eT,ajx];rfl
def zS{x y:Addr}{pos:Pos}{q:Str}{ps:'6'}(h:dU H x pos q)(hy:H y=some (.fi ps))(k:u_ y H H')(ne:x≠y):dU H' x pos q:=by
 obtain⟨p1,h1,h2,h3⟩:=h;refine⟨p1,k _ _ h1 ne,h2,h3.imp id ?_⟩;rintro⟨c',oc,vs,u,z1,z2,z3⟩;exact⟨c',oc,vs,u,z1,k _ _ z2 (dG z2 hy `ć),z3⟩
def aZ.Tk(h:`ß):t.t1≠t.t2/\t.t1≠t.t3/\t.t2≠t.t3:=by
 have nd:=h.nd;have e:c.M t=1.22++[t.t1,t.t2,t.t3]:=rfl;rw[e,p7]at nd;have:=nd.2.1;simp only[jB,bE,oB,pE,zy]at this;exact⟨this.1.1,this.1.2,this.2.1⟩
def aZ.aof(h:`ß)(k:u_ t.t3 H H')(t3:dU H' t.t3 5.2 su):aZ a t H' c s:=by
 obtain⟨n12,n13,n23⟩:=h.Tk;obtain⟨ps,e,_⟩:=h.t3;exact h.keep (fun b o e _ _ n3=>k b o e n3) (zS h.t1 e k n13) (zS h.t2 e k n23) t3
def adp(a:aj)(t:Tb):Sp:=fun vs H Q _=>∃(c:Cm)(s:State)(x:Int),vs=[.ref c.p,.int x]/\aZ a t H c s/\cT a t H c s (dD s (.translate x)) Q
def ar6{s:State}(wf:WF s){x:Concept}(hx:x∈`_R s):others s x=cv s (if `Ó∈aw s.left then 1 else 0):=by
 unfold others cv;show `_bt
 .have:=(wf.left.mem hx).2.1;rw[ay (by omega),ay (show x.number∈aw s.left from gu hx),aq (by decide)]
 .have:=(wf.right.mem hx).1;have nl:¬`Ó∈aw s.left:=fun z=>wf.apart z (gu hx);rw[aq (by omega),aq nl,ay rfl]
def aZ.at'(h:`ß){i:Nat}(hi:i<=1):gE (100*i) `_V:=by
 show `_bw
 .exact h.wf.left
 .exact h.wf.right
def aua{s:State}{i:Nat}(hi:i<=1):∀d∈aw `_V,d∈numbers s:=fun d hd=>by
 rw[je];show `_bw
 .exact cK.mpr (.inl hd)
 .exact cK.mpr (.inr hd)
def arR(T:`Ä)(G1:p8•CT a t)(G2:lh•w8 a t)(G3:lj•xb a t)(G4:ni•sG a)(G5:sS•CU a)
 (G6:EQ•um) (G7:Ly•uk K a t.t3):D6•adp a t:=by
 refine amH T `Â `Â `Â `Â `Â `Â `Â ?_;rintro vs H Q E ⟨c,s,x,rfl,hc,h⟩;refine `Á;unfold ad3;show `_aH;symm;refine 3.60;show `_az;symm;refine `_j
 .have e':conceptOf s x=none:=tP ((om _).mp e);show `_bg
 obtain⟨cx,AV,œ,rfl,Cb⟩:=QR (s:=s) (z:=x) ((xx _).mp e);simp only[dD,Vbnlak.step,AV]at h;symm;refine⟨c,s,rfl,cr,fun H2 s2=>?_⟩;show `_av;symm;refine 0.12
 .show `_bF
 show `_aK;symm;show `_bh;symm;refine 0.61
 .show `_bm
 show `_aI;symm;refine kO.vd (i:=0) `È fun r0 H5 s5 c5 _=>?_;obtain⟨ρ0,d0,_⟩:=c5.ex;refine Hi (.inl (dz _ _ d0)) ?_;rw[M0];have akV:((`_g).any fun d=>((d:Nat):Int)==((cx.number:Nat):Int))=decide (cx.number∈aw s.left):=by
  rw[kr,i5,MU];constructor
  .rintro⟨d,hd,e⟩;have:=eq_of_beq e;have:d=cx.number:=`Å;exact this▸hd
  .exact fun z=>⟨_,z,`Õ⟩
 rw[show(aw (cv s 0))=aw s.left from rfl,akV];have oY:=kO.aD s5;have eo:=ar6 hc.wf œ;have gJ:∀i:Nat,i<=1->others s cx=cv s i->sG a [.ref c.p,nV i] H5 (fun x_1 H1=>aH 3 x_1 [some (V.ref c.p),some (.int (cx.number:Int)),`Č,none,none,none] H1 fun σ H=>aC (aV (fY (dF K (bj a.aQ "masks_to" (CU a) [] E0 (aa 0) (ai (aa 2) (ai (aa 1) `_O)))) (aH 5) (ig) (bH um [] E0 '2') [5]) (aH 4)) (aK (aP jf (bI (ai (aP `Γ `ā (dh (gW K) `ε)) (ai (bH (uk K a t.t3) [] E0 1.1) (ap)))) (aa 4))) 2.84 σ H) E0:=by
  intro i hi ei;refine oY.vd hi fun r1 H6 s6 c6 _=>?_;have S6:=s5.trans s6;have yR:=kO.aD S6;have vJ:=yR.obj;have d6:=c6.aD dz;obtain⟨Jn,d1,d2⟩:=d6.ex;have hS:=hc.at' hi;refine AU ?_;symm;have nn:numbers s≠[]:=fun z=>by rw[z]at Cb;cases Cb
  refine⟨c.p,c.dx,c.pg,q,r1,_,_,_,_,_,_,_,cx.number,aw `_V,rfl,vJ,(yR.iw.aD dz).qg d1 nn,g9.qg (Pr.aD wm S6) d1,OB hc `È,Cb,aua hi,by rw[pC];have:=hS.len;omega,.inl ⟨_,d1⟩,fun r2 H7 s7 iB e7=>?_⟩;have em:(aw `_V).map (fun d=>nV (ju `ñ (1.88) cx.number d))=((cv s i).map fun d=>'_' s cx.number d.number).map nV:=by
   unfold aw;rw[bP,bP];refine iG fun d _=>?_;show nV (ju _ _ cx.number d.number)=nV _;rw[ju,Na s hc.same]
  rw[em]at e7;symm;refine B' (aG.of e7) (by rw[aJ,aJ];exact bq hS.len `Æ) 4.51 (fun j y H8 hy s8 R1 R0 h1 h0=>?_) (fun D H8 hD s8 e8=>?_)
  .obtain⟨m,hm,rfl⟩:=jc hy;have m32:m<32:=by
    obtain⟨d,_,rfl⟩:=cw.mp (cN hm);exact ak4 s _ _
   show `_bE;refine⟨m,rfl,m32,h1 _ _ ?_ `_b⟩;show some (nV (sureness ((m:Nat):Int).toNat))=_;rw[eB]
  .have ev:(((cv s i).map fun d=>'_' s cx.number d.number).map nV).filterMap 4.51=((cv s i).map fun d=>sureness 2.60).map nV:=by
    rw[bP,oV,bP];show filterMap (fun d:Concept=>some 4.64) _=_;have:(fun d:Concept=>some 4.64)=fun d=>some (nV (sureness 2.60)):=by funext d;rw[eB]
    rw[this,vo];rfl
   rw[ev]at e8;have S8:=(S6.trans s7).trans s8;have OX:=kO.aD S8;have d8:=d6.aD (s7.trans s8);obtain⟨ρ2,f1,f2⟩:=d8.ex;symm;refine⟨r1,D,aw `_V,_,ρ2,dP `_V,rfl,f1,f2,e8,by rw[pC,aJ],by rw[pC];have:=hS.len;omega,OX.t3,fun H9 k9 t9=>?_⟩;rw[auC hS];have hc9:=OX.aof k9 t9;have n3:∀{b o},H8 b=some o->(∀ps,o≠.fi ps)->H9 b=some o:=fun{b o} e ho=>k9 _ _ e fun z=>by
    obtain⟨ps,e1,_⟩:=OX.t3;rw[z,e1]at e;exact ho ps (bZ e).symm
   have e9:H9 D=_:=n3 e8 (fun _ z=>by cases z);symm;intro l1 iA;refine iN rfl ?_;refine kT ax (bB iA e9) ?_ ?_
   .show 2+(map nV _).length<=_;rw[aJ,aJ];exact bq (jC (bp 2) hS.len) `Æ
   intro r hr;have k10:∀b o,H b=some o->b∉c.M t->af (af H9 l1 (.ah 3.61)) r (.ah (3.61++((cv s i).map fun d=>sureness 2.60).map nV)) b=some o:=fun b o e nb=>bB hr (bB iA (k9 _ _ (S8 _ _ (S4 _ _ e)) fun z=>nb '*'));refine h r _ c k10 (hc9.aD ((ag.new iA).trans 5.5)) `_x ?_ ?_
   .cases q9:H r with
    |none=>rfl
    |some o=>
     have e4:=S8 _ _ (S4 _ _ q9);by_cases z:r=t.t3
     .obtain⟨ps,e1,_⟩:=t9;rw[z,bB iA e1]at hr;cases hr
     .rw[bB iA (k9 _ _ e4 z)]at hr;cases hr
   .rw[ax];unfold translated;rw[ei];simp only[cB,aJ,cY,bP];have rB:(1:Int)+((cv s i).length:Int)=(((cv s i).length+1:Nat):Int):=`Å;rw[rB];rfl
 refine aao ?_;refine cV (fun e4=>?_) fun e4=>?_
 .symm;exact gJ 1 `È (by rw[eo,ay e4])
 .symm;exact gJ 0 `È (by rw[eo,aq e4])
def aZ.Yw(h:`ß){Q:VK}{E:XK}(q:∀r H',ag H H'->H r=none->H' r=some (.dK (aB (lL s) fun x=>.ref (c.rR x)))->Q `à H'):iF a [.ref c.pR] H Q E:=
 ⟨c.pR,c.uR,c.fR,10,30,c.fZ,c.fD,lL s,c.rR,rfl,h.zm,h.P5,h.pR,BN h.wf.rk,q⟩
def aZ.akW(h:`ß){Q:VK}{E:XK}(q:∀r H',ag H H'->H r=none->H' r=some (.dK (aB (nN s) fun x=>.ref (c.rT x)))->Q `à H'):iF a [.ref c.pT] H Q E:=
 ⟨c.pT,c.uT,c.fT,20,60,c.gk,c.fK,nN s,c.rT,rfl,h.BS,h.Ļ,h.pT,BN h.wf.tk,q⟩
def adi(a:aj)(t:Tb):Sp:=fun vs H Q _=>∃(c:Cm)(s:State)(key:Int),vs=[.ref c.p,.int key]/\aZ a t H c s/\cT a t H c s (dD s (.placed key)) Q
def arr(T:`Ä)(G1:sT•iF a)(G2:lh•w8 a t)(G3:lj•xb a t)(G4:xX•SL K a)(G5:Ed•wu a)(G6:ER•xa):DV•adi a t:=by
 refine amy T `Â `Â `Â `Â `Â `Â ?_;show `_cp;unfold adU;show `_aH;have hR:=dz _ _ hc.lR;symm;refine hc.Yw fun r1 H1 s1 n1 e1=>?_;show `_az;symm;rw[M0];have ea:((lL s).any fun d=>(d:Int)==key)=(s.records.any fun x=>(x.key:Int)==key):=by rw[An];rfl
 rw[ea];refine `_j
 .have e':s.records.find? (fun x=>(x.key:Int)==key)=none:=by
   rw[uO];intro x hx z;have:=(om _).mp e;rw[sO]at this;exact this x hx z
  show `_bg
 obtain⟨x,ex⟩:∃x,s.records.find? (fun x=>(x.key:Int)==key)=some x:=by
  obtain⟨y,hy,hz⟩:=i5.mp ((xx _).mp e);cases q9:s.records.find? (fun x=>(x.key:Int)==key)with
  |some x=>exact⟨x,rfl⟩
  |none=>exact absurd hz (by simpa using uO.mp q9 y hy)
 have hx:=DD ex;have hk:key=(x.key:Int):=(eq_of_beq (KW (p:=fun x:Rec=>(x.key:Int)==key) ex)).symm;simp only[dD,Vbnlak.step,ex]at h;subst hk;symm;refine⟨c,s,rfl,cr,fun H2 s2=>?_⟩;show `_av;symm;refine 0.12
 .show `_bF
 show `_aK;symm;show `_bh;symm;refine 0.61
 .show `_bm
 show `_aI;have Y7:=kO.iw.aD dz;obtain⟨dg,pp,ee,g1,g2,g3⟩:=Y7.ex;obtain⟨k1,k2,k3⟩:=kO.eK x hx;have ĥ:=dz _ _ k1;have k2':=dz _ _ k2;have k3':=dz _ _ k3;have d4:H4 r1=_:=s4 _ _ (s3 _ _ (s2 _ _ e1));have yW:x.key∈lL s:=gu hx;symm;refine eJ (.inl d4) (fU yW) ?_;symm;refine j8 (j:=0) (bF.of ĥ) rfl rfl ?_;symm;refine eJ (.inl d4) (fU yW) ?_;symm;refine j8 (j:=1) (bF.of ĥ) rfl rfl ?_;symm;have o8:=CI hc.wf hc.same (c.rc x.key) (gu hx);refine⟨c.pg,c.rI x.key,c.rO x.key,_,_,_,(c.rc x.key).1,(c.rc x.key).2,rfl,Y7,aG.of k2',aG.of k3',o8.1,o8.2,?_⟩;symm;refine⟨q,_,rfl,Pr,?_⟩;symm;rw[sZ,Dc s hc.same];have npe:c.p≠ee:=dG ph g3 2.16;have nge:c.pg≠ee:=dG g1 g3 2.16;refine vU g3 trivial fun od=>?_;have hpL:af H4 ee 9.6 c.p=_:=(au npe).trans ph;have hgL:af H4 ee 9.6 c.pg=_:=(au nge).trans g1;have Gb:af H4 ee 9.6 ee=some 9.6:=ax;have un:∀H',ag (af H4 ee 9.6) H'->ag H4 (af H' ee 2.52):=fun H' k=>ag.mX g3 k;have YW:∀b,af H4 ee 9.6 b=none->H4 b=none:=fun b e=>by
  by_cases z:b=ee
  .rw[z,ax]at e;cases e
  .rw[au z]at e;exact e
 generalize af H4 ee 9.6=H5 at hpL hgL Gb un YW⊢;have nl:(`_T).length<=16:=by rw[je];exact hc.wf.len
 symm;refine Qx Gb ?_;refine apF Gb (by rw[eU];exact bq nl `Æ) (fun k _=>4.42) (fun i k v H6 hk s6 R1 R0 h1 h0=>?_) (fun D H6 hD s6 e6=>?_)
 .rw[cG]at hk;obtain⟨d,hd,e9⟩:=gc.mp hk;cases e9;show `_bE;refine⟨_,_,rfl,h1 _ _ ?_ `_b⟩;show some (nV (uq _ (cq _ ((d:Nat):Int).toNat)))=_;rw[eB]
 .have ev:(aB (numbers s) fun c=>nV (cq (Vbnlak.cells s) c)).filterMap (fun p=>(fun(k:aW)(_:V)=>4.42) p.1 p.2)=((`_T).map fun d=>3.75).map V.int:=by
   rw[oV,bP];show filterMap (fun d:Nat=>some (nV (uq 3.63 (cq `ñ ((d:Nat):Int).toNat)))) (`_T)=_;rw[vo];refine iG fun d _=>?_;rw[eB];have:=asr s (hc.same x hx).1 (hc.same x hx).2 d;rw[show((choices s.told).filter (stands s s.records))=standing s from rfl,this];show V.int _=V.int _;congr 1;show _=3.75;cases((spotsOf s x).all fun y=>y.contains d)<;>cases((spotsOf s x).any fun y=>y.contains d)<;>rfl
  rw[ev]at e6;refine⟨s6 _ _ Gb,?_⟩;have S7:=un H6 s6;have OP:H4 D=none:=YW D hD;have nDe:D≠ee:=aL (aR g3 OP);have e7:af H6 ee 2.52 D=_:=(au nDe).trans e6;generalize af H6 ee 2.52=H7 at S7 e7⊢;symm;intro l1 iA;refine iN rfl ?_;refine kT ax (bB iA e7) ?_ ?_
  .show 1+(map V.int _).length<=_;rw[aJ,aJ];exact bq (jC (bp 1) nl) `Æ
  intro r hr;refine cT.pure h hc (((S4.trans S7).trans (ag.new iA)).trans 5.5) (((S4.trans S7).trans (ag.new iA)).free hr) ?_;rw[ax];simp only[aJ,cY,bP];rfl
def uC(H:Hp)(r:Addr)(l:`è):Prop:=H r=none\/∃ρ:Nat->Addr,H r=some (.dK (aB (aw l) fun c=>.ref (ρ c)))
def Sl{r:Addr}(h:H r=none):ag H (bh H r):=fun b o e=>cJ e (aR e h)
def ij.AO{pg r:Addr}{pairs:`_2}{cs:`ì}{ns:`À}{l:`è}(h:ij a H pg pairs cs ns)(hr:uC H r l)(hn:ns≠[]):ij a (bh H r) pg pairs cs ns:=by
 rcases hr with hr|⟨ρ,hr⟩
 .exact h.aD (Sl hr)
 .exact h.qg hr hn
def g9.AO{pw r:Addr}{ws:List WD}{l:`è}(h:g9 a H pw ws)(hr:uC H r l):g9 a (bh H r) pw ws:=by
 rcases hr with hr|⟨ρ,hr⟩
 .exact eC.aD wm h (Sl hr)
 .exact g9.qg h hr
def cP.ajF{q r:Addr}{cs:`À}{ρ:`Ø}{F:`É}{l:`è}(h:cP H q cs cs ρ F)(hr:uC H r l)(hl:aw l≠cs)(hn:cs≠[]):cP (bh H r) q cs cs ρ F:=by
 rcases hr with hr|⟨τ,hr⟩
 .exact h.aD (Sl hr)
 .refine⟨cJ h.tab fun z=>?_,fun c hc=>cJ (h.row c hc) fun z=>?_,h.inj,h.ne,h.ok⟩
  .have e:=h.tab;rw[z,hr]at e;injection e with e
   injection e with e
   exact hl (AT e)
  .have e:=h.row c hc;rw[z,hr]at e;injection e with e
   injection e with e
   exact hn (Sc e)
def aaB{r:Addr}{k:`â}(h:`Ć)(e:H' r=some (.dK k)):∀o' u',H r≠some (.aN o' u'):=fun o' u' z=>by rw[h _ _ z]at e;cases e
def aZ.Wk(h:`ß){r0:Addr}(tY:r0∉c.N t)(h0:uC H r0 s.left)(k:ag (bh H r0) H')(hO:H' r0≠none){Q:VK}{E:XK}
 (q:∀r H5,ag H' H5->uC (bh H r0) r `Ð->(bh H r0 r=none->H' r=none)->(∃ρ:Nat->Addr,H5 r=some (.dK (aB (`_t) fun c=>.ref (ρ c))))->r≠r0->(∀o' u',H' r≠some (.aN o' u'))->Q `à H5):sG a [.ref c.p,nV 1] H' Q E:=by
 have pM:c.p≠r0:=1.87;have cM:c.bn≠r0:=1.87;have hp:=k _ _ (cJ h.obj pM);have cD:=k _ _ (cJ h.cl cM);have fr:(1:Nat)∉c.sd->∀r H5,ag H' H5->fresh H' H5 r=some `ü->Q `à H5:=fun e r H5 s5 f=>by
  obtain⟨f1,f2⟩:=eP f;have hr:`Ð=[]:=qP fun z=>e (h.jw.mpr z);refine q r H5 s5 (.inl (k.free f1)) (fun _=>f1) ⟨fun _=>0,by rw[f2,hr];rfl⟩ (fun z=>hO (by rw[<-z];exact f1)) (by rw[f1];intro _ _ z;cases z)
 by_cases e:(1:Nat)∈c.sd
 .have cQ:=h.jw.mp e;obtain⟨dy,pt,pc,pd,ρ,e1,e2,e3,e4,e5⟩:=(h.k1 cQ).ex;have qj:=dz _ _ e1;have kJ:=dz _ _ e3;have n1:c.ck 1≠r0:=fun z=>by
   rcases h0 with h0|⟨τ,h0⟩
   .rw[z,h0]at qj;cases qj
   .rw[z,h0]at qj;cases qj
  have n3:pc≠r0:=fun z=>by
   rcases h0 with h0|⟨τ,h0⟩
   .rw[z,h0]at kJ;cases kJ
   .rw[z,h0]at kJ;injection kJ with kJ
    injection kJ with kJ
    exact h.wf.ne cQ (AT kJ)
  have c3:=cJ kJ n3;refine⟨c.p,c.dx,c.bn,dy,pt,pc,pd,_,_,_,c.sd,c.ck,1,rfl,bp _,hp,cD,fun _=>k _ _ (cJ qj n1),fun _=>q pc H' `_b (.inr ⟨ρ,c3⟩) (fun z=>by rw[c3]at z;cases z) ⟨ρ,k _ _ c3⟩ n3 (by rw[k _ _ c3];intro _ _ z;cases z),fr⟩
 .exact⟨c.p,c.dx,c.bn,0,0,0,0,_,_,_,c.sd,c.ck,1,rfl,bp _,hp,cD,fun z=>absurd z e,fun z=>absurd z e,fr⟩
def aaE{s:State}(h:s.left≠[]):aw `Ð≠aw s.left++aw `Ð/\aw s.left++aw `Ð≠[]/\numbers s≠[]:=by
 have h1:aw s.left≠[]:=fun z=>h (List.map_eq_nil_iff.mp z);have h2:0<(`_g).length:=List.length_pos_iff.mpr h1;have h3:aw s.left++aw `Ð≠[]:=fun z=>by rw[List.append_eq_nil_iff]at z;exact h1 z.1
 refine⟨fun z=>?_,h3,by rw[je];exact h3⟩;have:=fv List.length z;rw[dc]at this;omega
def YQ(l m:`À)(F:`É):(l.flatMap fun c=>m.map fun d=>nV `Ď)=(l.flatMap fun c=>m.map fun d=>((F c d:Nat):Int)).map V.int:=by
 rw[DB];refine A0 fun x _=>?_;rw[bP];rfl
def adj(a:aj)(t:Tb):Sp:=fun vs H Q _=>∃(c:Cm)(s:State),vs=[.ref c.p]/\aZ a t H c s/\cT a t H c s (dD s .quick) Q
def arv(T:`Ä)(G1:xV•SM a t)(G2:ni•sG a):DW•adj a t:=by
 refine amz T `Â `Â ?_;show `_aq;unfold adV;show `_aH;have sf:=hc.wf.len;rw[dc]at sf;symm;refine⟨c,s,rfl,hc,fun q ρ F H1 s1 hT eq=>?_⟩;have e0:dD s .quick=((4.59).length:Int)::(`_g).flatMap fun c=>(`_t).map fun d=>((F c d:Nat):Int):=by
  simp only[dD,Vbnlak.step,VbnlakNeutral.shown];rw[eq,aim]
 rw[e0]at h;have cr:=`_7;symm;show `_bq;have AM:uC H1 r0 s.left:=by
  cases q9:H1 r0 with
  |none=>exact .inl q9
  |some o=>rw[S3 _ _ q9]at lC;exact .inr ⟨τ,by rw[q9];exact lC⟩
 have vX:m≠r0:=fun z=>by have e9:=s3 _ _ vj;rw[z,lC]at e9;cases e9
 refine Qw lC fun o=>?_;have k4:ag (bh H1 r0) (af H3 r0 (.aN o '+')):=fun b ob e=>by
  obtain⟨z1,z2⟩:=eS e;rw[au z2];exact S3 _ _ z1
 refine B6 (fun i σ H'=>∃v3,σ=[some (.ref c.p),`Č,some (.ref m),v3,none]/\ag (bh H1 r0) H'/\H' r0=some (.aN o '+')/\H' m=some (.ah (4.54)))
  ⟨none,rfl,k4,ax,by rw[au vX];exact s3 _ _ vj⟩ (fun i σ H' _ z=>by obtain⟨_,_,_,z1,_⟩:=z;exact z1) 2.38 `é
 .obtain⟨v3,rfl,kk,rD,em⟩:=z;show `_bl
  obtain⟨nn1,QJ,QK⟩:=aaE cQ;have qv:H' c.p=_:=kk _ _ (cJ cr.obj (1.87));have hmS:aG K H' m _:=aG.of em;symm;refine 4.16;refine Qw e5 fun o2=>?_;have nrm:r≠m:=fun z=>by
   have:=s5 _ _ em;rw[<-z,e5]at this;cases this
  have T3:cP (bh H3 r0) q `Đ `Đ ρ F:=cP.qg (l:=s.left) (hT.aD S3) ⟨τ,lC,fun c hc=>(iP (d2 c hc)).2⟩ QJ;have T1:cP (bh H1 r0) q `Đ `Đ ρ F:=⟨cJ hT.tab (eS T3.tab).2,fun c hc=>cJ (hT.row c hc) (eS (T3.row c hc)).2,hT.inj,hT.ne,hT.ok⟩;have Tc:cP (bh (bh H1 r0) r) q `Đ `Đ ρ F:=T1.ajF Fh nn1 QJ
  .have Tlf:cP (af H5 r (.aN o2 1.82)) q `Đ `Đ ρ F:=Tc.aD fun b ob e=>by
    obtain⟨z1,z2⟩:=eS e;rw[au z2];exact s5 _ _ (kk _ _ z1)
   refine Qy ax (by rw[eU];exact bq (show(`_t).length<=16 by omega) `Æ) (fun k _=>match k with|.inl z=>some (nV (F x z.toNat))|_=>none) (fun j k v H6 hk s6 R1 R0 h1 h0=>?_) (fun D H6 hD s6 e6=>?_)
   .rw[cG]at hk;obtain⟨y,hy,e9⟩:=gc.mp hk;cases e9;have hyr:y∈aw `Ð:=cN hy;have T6:=Tlf.aD s6;show `_bE;refine eJ (.inl T6.tab) (fU (cK.mpr (.inl hX))) ?_;symm;refine eJ (.inl (T6.row x (cK.mpr (.inl hX)))) (fU (cK.mpr (.inr hyr))) ?_;refine h1 _ _ ?_ `_b;show some (nV (F x ((y:Nat):Int).toNat))=_;rw[eB]
   .have ev:(aB (`_t) fun c=>V.ref (υ c)).filterMap (fun p=>(fun(k:aW)(_:V)=>match k with|.inl z=>some (nV (F x z.toNat))|_=>none) p.1 p.2)=(`_t).map fun d=>nV (F x d):=by
     rw[oV];show filterMap (fun y:Nat=>some (nV (F x ((y:Nat):Int).toNat))) _=_;rw[vo];refine iG fun y _=>?_;rw[eB]
    rw[ev]at e6;refine⟨r,o2,_,nS,s6 _ _ ax,?_⟩;have S7:ag H5 (af H6 r 1.82):=ag.mX e5 s6;have nDr:D≠r:=fun z=>by rw[z,ax]at hD;cases hD
    have e7:af H6 r 1.82 D=_:=(au nDr).trans e6;generalize af H6 r 1.82=H7 at S7 e7⊢;show `_cl;have lt:(4.54).length<=16*16:=by
     refine bq 1.93 (Aq 16 ?_);rw[gl];omega
    refine 4.48;symm;refine⟨_,rfl,fun b ob e=>?_,?_,?_⟩
    .rw[au fun z=>?_]
     .exact K7 _ _ e
     .rw[z]at e;rw[(eS e).1]at hm;cases hm
    .rw[au (aL vX)];exact r7
    .rw[ax,eR hx,uP];show some (HO.ah (_++_))=some (HO.ah (_++(_++[])));rw[i6]
 .show `_aW;have S9:ag H1 (af H' r0 '+'):=fun b ob e=>by
   by_cases z:b=r0
   .rw[z,ax];have:=S3 _ _ e;rw[z,lC]at this;exact this
   .rw[au z];exact kk _ _ (cJ e z)
  show `_aY
  .show 1+(map V.int _).length<=_;rw[aJ];have:(4.59).length<=16*16:=bq 1.93 (Aq 16 `È);exact bq (jC (bp 1) this) `Æ
  intro r hr;refine 3.81;rw[ax,aJ];rfl
def adf(a:aj)(t:Tb):Sp:=fun vs H Q _=>∃(c:Cm)(s:State),vs=[.ref c.p]/\aZ a t H c s/\cT a t H c s (dD s .matrix) Q
def arf(T:`Ä)(G1:lh•w8 a t)(G2:lj•xb a t)(G3:ni•sG a)(G4:sS•CU a):DT•adf a t:=by
 refine amw T `Â `Â `Â `Â ?_;show `_aq;unfold adS;show `_aH;have sf:=hc.wf.len;rw[dc]at sf;symm;refine⟨c,s,rfl,hc,fun Ha sa=>?_⟩;have Zi:=hc.aD sa;have hpa:=Zi.obj;show `_bH
 .show `_aD;exact cT.num h hc sa hr
 simp only[dD,Vbnlak.step,aq (show¬LIMIT<ways s.told from e),VbnlakNeutral.shown]at h;have e0:(s.left.flatMap fun c=>s.right.map fun d=>('_' s c.number d.number:Int))=(`_g).flatMap fun c=>(`_t).map fun d=>(('_' s c d:Nat):Int):=by
  unfold aw;rw[U1];refine A0 fun x _=>?_;rw[bP];rfl
 rw[e0]at h;symm;refine⟨c,s,rfl,Zi,`Å,fun q H1 s1a hq=>?_⟩;have s1:=sa.trans s1a;have hw:=hq.aD wm qm;have cr:=`_7;symm;show `_bq;have AM:uC H1 r0 s.left:=by
  cases q9:H1 r0 with
  |none=>exact .inl q9
  |some o=>rw[S3 _ _ q9]at lC;exact .inr ⟨τ,by rw[q9];exact lC⟩
 have vX:m≠r0:=fun z=>by have e9:=s3 _ _ vj;rw[z,lC]at e9;cases e9
 refine Qw lC fun o=>?_;have k4:ag (bh H1 r0) (af H3 r0 (.aN o '+')):=fun b ob e=>by
  obtain⟨z1,z2⟩:=eS e;rw[au z2];exact S3 _ _ z1
 refine B6 (fun i σ H'=>∃v3,σ=[some (.ref c.p),`Č,some (.ref m),v3]/\ag (bh H1 r0) H'/\H' r0=some (.aN o '+')/\H' m=some (.ah (4.39)))
  ⟨none,rfl,k4,ax,by rw[au vX];exact s3 _ _ vj⟩ (fun i σ H' _ z=>by obtain⟨_,_,_,z1,_⟩:=z;exact z1) 2.38 `é
 .obtain⟨v3,rfl,kk,rD,em⟩:=z;show `_bl
  obtain⟨nn1,QJ,QK⟩:=aaE cQ;have np0:c.p≠r0:=1.87;have qv:H' c.p=_:=kk _ _ (cJ cr.obj np0);have hmS:aG K H' m _:=aG.of em;symm;refine 4.16;have K5:ag (bh (bh H1 r0) r) (bh H5 r):=Fn (kk.trans s5);have hG:=((ij.AO (cr.iw.aD dz) AM QK).AO Fh QK).aD K5;have hW:=eC.aD wm (g9.AO (g9.AO hw AM) Fh) K5;have Gj:=s5 _ _ qv;symm;refine⟨c.p,c.dx,c.pg,q,r,_,_,_,_,_,_,_,x,`_t,rfl,Gj,hG,hW,OB hc `È,by rw[je];exact cK.mpr (.inl hX),fun d hd=>by rw[je];exact cK.mpr (.inr hd),`Å,.inl ⟨_,e5⟩,fun r2 H7 S7 iB e7=>?_⟩;have em9:(`_t).map (fun d=>nV (ju `ñ (1.88) x d))=(`_t).map fun d=>nV ('_' s x d):=iG fun d _=>by rw[ju,Na s hc.same]
  rw[em9]at e7;show `_cl;have lt:(4.39).length<=16*16:=by
   refine bq 1.93 (Aq 16 ?_);rw[gl];omega
  refine 4.48;symm;refine⟨_,rfl,fun b ob e=>?_,?_,?_⟩
  .rw[au fun z=>?_]
   .exact K7 _ _ e
   .rw[z]at e;rw[(eS e).1]at hm;cases hm
  .rw[au (aL vX)];exact r7
  .rw[ax,eR hx,uP];show some (HO.ah (_++_))=some (HO.ah (_++(_++[])));rw[i6]
 .show `_aW;have S9:ag H1 (af H' r0 '+'):=fun b ob e=>by
   by_cases z:b=r0
   .rw[z,ax];have:=S3 _ _ e;rw[z,lC]at this;exact this
   .rw[au z];exact kk _ _ (cJ e z)
  show `_aY
  .show 1+(map V.int _).length<=_;rw[aJ];have:((`_g).flatMap fun c=>(`_t).map fun d=>(('_' s c d:Nat):Int)).length<=16*16:=bq 1.93 (Aq 16 `È);exact bq (jC (bp 1) this) `Æ
  intro r hr;refine 3.81;rw[ax,aJ];rfl
def aZ.aod(h:`ß)(k:u_ t.t1 H H')(t1:dU H' t.t1 9.2 tX):aZ a t H' c s:=by
 obtain⟨n12,n13,n23⟩:=h.Tk;obtain⟨ps,e,_⟩:=h.t1;exact h.keep (fun b o e n1 _ _=>k b o e n1) t1 (zS h.t2 e k (aL n12)) (zS h.t3 e k (aL n13))
def aZ.aoe(h:`ß)(k:u_ t.t2 H H')(t2:dU H' t.t2 9.1 tW):aZ a t H' c s:=by
 obtain⟨n12,n13,n23⟩:=h.Tk;obtain⟨ps,e,_⟩:=h.t2;exact h.keep (fun b o e _ n2 _=>k b o e n2) (zS h.t1 e k n12) t2 (zS h.t3 e k (aL n23))
def aZ.asM(h:`ß){Q:VK}{E:XK}(q:∀r H',ag H H'->H' r=some (.ah (s.records.map fun x=>V.ref (c.rR x.key)))->Q `à H'):fN a [.ref c.pR] H Q E:=
 ⟨c.pR,c.uR,c.fR,10,30,c.fZ,c.fD,lL s,c.rR,rfl,h.zm,h.P5,h.pR,BN h.wf.rk,fun r H' s1 e=>q r H' s1 (by rw[e,bP];rfl)⟩
def Wv(l:`À):(counted l).map V.int=V.int `Û::l.map nV:=by
 unfold counted VbnlakNeutral.ints;rw[cY,bP];rfl
def ac'(a:aj)(t:Tb):Sp:=fun vs H Q _=>∃(c:Cm)(s:State),vs=[.ref c.p]/\aZ a t H c s/\cT a t H c s (dD s .conflict) Q
def aqT(T:`Ä)(G1:lh•w8 a t)(G2:lj•xb a t)(G3:LA•w6 K a t.t1)(G4:sT•iF a)(G5:p9•fN a)(G6:Lz•wU K a t.t2):DN•ac' a t:=by
 refine amm T `Â `Â `Â `Â `Â `Â ?_;show `_aq;unfold adI;show `_aH;symm;refine⟨c,s,rfl,hc,1.43⟩;show `_az;show `_bH
 .show `_aD;exact 8.0
 simp only[dD,Vbnlak.step,aq (show¬LIMIT<ways s.told from e)]at h;have Ps:ways s.told<=16:=`Å;symm;refine⟨c,s,rfl,cr,Ps,fun q H2 s2 hq=>?_⟩;have hw:=hq.aD wm qm;have c_:=cr.aD s2;obtain⟨as,q1,q2⟩:=Jh hw;symm;intro l0 iz;refine apN (aG.of (bB iz q1)) (aG.of ax) ?_;rw[q2,Jg hc,Bool.not_not];show `_bO
 .simp only[ay e2,VbnlakNeutral.shown]at h;show `_ar;exact cT.num h hc S3 hr
 simp only[aq (show¬possible s s.told s.records=true by rw[e2];decide),VbnlakNeutral.shown]at h;have gx:=hc.aD S3;have ja:=gx.obj;have avG:=dz _ _ gx.lT;symm;refine gx.akW fun d Hd sd nd ed=>?_;have j3:=gx.aD sd;have hpd:=j3.obj;have avF:=dz _ _ j3.lR;symm;refine j3.asM fun pr Hb sb eb=>?_;have OY:=j3.aD sb;have Sb:=sd.trans sb;have Yt:=sb _ _ ed;obtain⟨ps1,et1,_⟩:=id OY.t1;have t1M:t.t1∈c.N t:=by simp[Cm.N,Cm.M]
 have t2M:t.t2∈c.N t:=by simp[Cm.N,Cm.M]
 have kQ:ag (ba `ą H3) (ba [d,t.t1] Hb):=fun b o e9=>by
  obtain⟨z1,z2⟩:=iP e9;rw[da]
  .exact Sb _ _ z2
  .show `_bk
   .rw[z,nd]at z2;cases z2
   .exact z1 (by rw[z];exact t1M)
 have Go:ba [d,t.t1] Hb pr=some (.ah (s.records.map fun x=>V.ref (c.rR x.key))):=by
  rw[da]
  .exact eb
  .show `_bk
   .rw[z,Yt]at eb;cases eb
   .rw[z,et1]at eb;cases eb
 have Š:(`_T).length<=1000:=by have:=hc.wf.len;rw[je];omega
 have rn:=hc.wf.rn;have tn:=hc.wf.tn;have tkm:∀k∈nN s,∃x∈s.told,k=x.key:=fun k hk=>by obtain⟨x,hx,e9⟩:=cw.mp hk;exact⟨x,hx,e9.symm⟩
 symm;refine⟨c.pg,d,pr,_,Vbnlak.cells s,`_T,nN s,c.rT,C_ s.told,jg c.rc `á,rfl,Yt,GO hc.wf.tk,by rw[aJ];omega,OY.t1,gx.iw.aD kQ,ab6 (c:=c) Go fun x hx=>⟨kQ _ _ (gx.eK x hx).1,kQ _ _ (gx.eK x hx).2.1,kQ _ _ (gx.eK x hx).2.2⟩,fun k hk=>?_,CI hc.wf hc.same,Š,by rw[aJ];omega,fun cX Bm i=>?_,fun r1 Hc Į nr1 M_ tc=>?_⟩
 .obtain⟨x,hx,rfl⟩:=tkm k hk;rw[afm hc.wf.tk hx];have:=Da hc.wf (gp x) (gu hx);exact⟨kQ _ _ (gx.dY x hx),this⟩
 .obtain⟨l,hl,rfl⟩:=List.sublist_map_iff.mp Bm;rw[afn hc.wf.tk hl];obtain⟨e9,hs⟩:=Tj hl i;rw[e9];exact FQ hc.wf Ps hc.same hc.wf.rn hs
 have iC:gX (fun cX=>(ib (cq `ñ) (gw (aT `ñ fun _=>true) (gg `ñ (`_T) (jg c.rc `á))) (cX.map (C_ s.told))).isEmpty) [] (nN s)=(coreTold s s.records [] s.told).map `_F:=by
  refine SS s s.records _ s.told [] fun l hl=>?_;rw[afn hc.wf.tk hl];exact Tu s hc.same l
 rw[iC]at M_;have AN:(coreTold s s.records [] s.told).Sublist s.told:=Fl s s.records s.told [];generalize coreTold s s.records [] s.told=dw at M_ AN h;have Ba:=OY.aod Į tc;have Gk:=Ba.obj;symm;intro lv hlv;have ev:((1.10).map (·.2))=dw.map fun x=>V.ref (c.rT x.key):=by rw[bP,bP];rfl
 rw[ev];have s5:ag Hc (af Hc lv 1.14):=ag.new hlv;have AY:af Hc lv 1.14 lv=some 1.14:=ax;generalize af Hc lv 1.14=H5 at s5 AY⊢;have oY:=Ba.aD s5;have Gj:=oY.obj;have avE:=dz _ _ oY.lR;symm;refine oY.Yw fun d2 H6 s6 Hn ed2=>?_;have yR:=oY.aD s6;obtain⟨Cz,FD,_⟩:=id yR.t2;have Bi:ag (ba `ą H5) (ba [d2,t.t2] H6):=fun b o e9=>by
  obtain⟨z1,z2⟩:=iP e9;rw[da]
  .exact s6 _ _ z2
  .show `_bk
   .rw[z,Hn]at z2;cases z2
   .exact z1 (by rw[z];exact t2M)
 have alR:ba [d2,t.t2] H6 lv=some 1.14:=by
  rw[da]
  .exact s6 _ _ AY
  .show `_bk
   .rw[z,Hn]at AY;cases AY
   .have e9:=s6 _ _ AY;rw[z,FD]at e9;cases e9
 have My:dw.length<=20:=bq AN.length_le tn;symm;refine⟨c.pg,d2,lv,_,Vbnlak.cells s,`_T,lL s,c.rR,c.rc,c.rI,c.rO,dw.map gp,rfl,ed2,GO hc.wf.rk,by rw[aJ];omega,yR.t2,oY.iw.aD Bi,afp (c:=c) alR fun x hx=>Bi _ _ (oY.dY x (AN.subset hx)),fun k hk=>?_,`_n,Š,by rw[aJ];omega,fun cX Bm i=>?_,fun r2 He ke nr2 vk te=>?_⟩
 .obtain⟨x,hx,rfl⟩:=cw.mp hk;have:=CI hc.wf hc.same (c.rc x.key) (gu hx);exact⟨Bi _ _ (oY.eK x hx).1,Bi _ _ (oY.eK x hx).2.1,Bi _ _ (oY.eK x hx).2.2,this.1,this.2⟩
 .obtain⟨y,hy,rfl⟩:=cw.mp hx;exact Da hc.wf (gp y) (gu (AN.subset hy))
 .obtain⟨l,hl,rfl⟩:=List.sublist_map_iff.mp Bm;rw[bP];obtain⟨e9,hs⟩:=Tj AN i;rw[e9];exact FQ hc.wf Ps (hc.same.sub hl) (bq hl.length_le rn) hs
 have By:gX (fun cX=>(ib (cq `ñ) (gw (aT `ñ fun _=>true) (gg `ñ (`_T) (cX.map c.rc))) (dw.map gp)).isEmpty) [] (lL s)=(coreRecs s dw [] `á).map Rec.key:=by
  refine SR s dw _ s.records [] fun l hl=>?_;rw[bP];exact Tu s (hc.same.sub hl) dw
 rw[By]at vk;have aca:(coreRecs s dw [] `á).Sublist `á:=Fm s dw s.records [];generalize coreRecs s dw [] `á=kH at vk aca h;have vz:=yR.aoe ke te;have crn:kH.length<=10:=bq aca.length_le rn;have n2:∀{b kvs},H6 b=some `Þ->He b=some `Þ:=fun{b kvs} e9=>ke _ _ e9 fun z=>by rw[z,FD]at e9;cases e9
 have akZ:He r1=some (.dK (aB (dw.map Told.key) fun x=>.ref (c.rT x))):=n2 (s6 _ _ (s5 _ _ M_));have KE:∀b o,H b=some o->b∉c.M t->He b=some o:=fun b o e9 nb=>by
  have n1:b≠t.t1:=fun z=>nb (by rw[z];simp[Cm.M]);have n2:b≠t.t2:=fun z=>nb (by rw[z];simp[Cm.M]);exact ke _ _ (s6 _ _ (s5 _ _ (Į _ _ (Sb _ _ (S3 _ _ e9)) n1))) n2
 have FE:∀b,He b=none->H b=none:=fun b e9=>by
  cases q9:H b with
  |none=>rfl
  |some o=>
   by_cases z:b∈c.M t
   .obtain⟨o2,z1,_⟩:=vz.kind b z;rw[e9]at z1;cases z1
   .rw[KE b o q9 z]at e9;cases e9
 symm;intro a1 FZ;have k1:ag He (af He a1 (.ah [.int (1.10).length])):=ag.new FZ;have g1:af He a1 (.ah [.int (1.10).length]) a1=some (.ah [.int dw.length]):=by rw[ax,eU,aJ]
 generalize af He a1 (.ah [.int (1.10).length])=F1 at k1 g1⊢;have avz:=k1 _ _ akZ;symm;intro a2 yQ;have ek1:((1.10).map fun p=>kV p.1)=(dw.map Told.key).map nV:=8.9;rw[ek1];have k2:ag F1 (af F1 a2 2.43):=ag.new yQ;have g2:af F1 a2 2.43 a2=some 2.43:=ax;have YY:=k2 _ _ g1;generalize af F1 a2 2.43=F2 at k2 g2 YY⊢;refine kT YY g2 (by rw[aJ,aJ];exact bq (jC (bp 1) My) `Æ) fun a3 F8=>?_;have k3:ag F2 (af F2 a3 1.69):=ag.new F8;have g3:af F2 a3 1.69 a3=some 1.69:=ax;generalize af F2 a3 1.69=F3 at k3 g3⊢;have ak0:=(k1.trans (k2.trans k3)) _ _ vk;symm;intro a4 ha4;have k4:ag F3 (af F3 a4 2.86):=ag.new ha4;have g4:af F3 a4 2.86 a4=some (.ah [.int kH.length]):=by rw[ax,eU,aJ]
 have YZ:=k4 _ _ g3;generalize af F3 a4 2.86=F4 at k4 g4 YZ⊢;refine kT YZ g4 (by rw[dc,aJ,aJ];exact bq (jC (jC (bp 1) My) (bp 1)) `Æ) fun a5 ha5=>?_;have k5:ag F4 (af F4 a5 1.57):=ag.new ha5;have g5:af F4 a5 1.57 a5=some 1.57:=ax;generalize af F4 a5 1.57=F5 at k5 g5⊢;have avA:=(k4.trans k5) _ _ ak0;symm;intro a6 ha6;have ek2:((aB (kH.map Rec.key) fun x=>V.ref (c.rR x)).map fun p=>kV p.1)=(kH.map Rec.key).map nV:=8.9;rw[ek2];have k6:ag F5 (af F5 a6 2.17):=ag.new ha6;have g6:af F5 a6 2.17 a6=some 2.17:=ax;have Y0:=k6 _ _ g5;generalize af F5 a6 2.17=F6 at k6 g6 Y0⊢;refine kT Y0 g6 (by rw[dc,dc,aJ,aJ,aJ,aJ];exact bq (jC (jC (jC (bp 1) My) (bp 1)) crn) `Æ) fun r hr=>?_;have KF:ag He F6:=((((k1.trans k2).trans k3).trans k4).trans k5).trans k6;refine h r _ c (fun b o e9 nb=>bB hr (KF _ _ (KE b o e9 nb))) (vz.aD (KF.trans 5.5)) `_x (FE r (KF.free hr)) ?_;rw[ax,eY,Wv,Wv,aJ,aJ];simp
def aZ.YU(h:`ß)(k:∀b o,H b=some o->b∉c.x->H' b=some o)(hx:∀b∈c.x,H' b≠none)(hz:∀b∈c.x,∀o u,H b≠some (.aN o u)):aZ a t H' c s:=by
 have hm:ag 1.8 0.26:=Bj fun b o e nb=>k b o e fun z=>nb (cK.mpr (.inr z));have g:∀{b o},b∈c.M t->H b=some o->H' b=some o:=fun hb e=>k _ _ e fun z=>h.xd _ z hb;have tb:∀{x pos q},x∈c.M t->dU H x pos q->dU H' x pos q:=fun{x pos q} hx ht=>by
  obtain⟨ps,h1,h2,h3⟩:=ht;refine⟨ps,g hx h1,h2,h3.imp id ?_⟩;rintro⟨c',oc,vs,u,z1,z2,z3⟩;exact⟨c',oc,vs,u,z1,k _ _ z2 fun z=>hz _ z _ _ z2,z3⟩
 exact{wf:=h.wf,nd:=h.nd,xd:=h.xd,xs:=hx,obj:=g 4.1 h.obj,cl:=g 4.1 h.cl,ki:=h.ki,kg:=h.kg,jw:=h.jw,kh:=h.kh,k0:=fun e=>(h.k0 e).aD hm,k1:=fun e=>(h.k1 e).aD hm,lT:=hm _ _ h.lT,lR:=hm _ _ h.lR,uT:=g 4.1 h.uT,fT:=g 4.1 h.fT,uR:=g 4.1 h.uR,fR:=g 4.1 h.fR,pT:=h.pT,pR:=h.pR,gT:=h.gT,gR:=h.gR,bT:=h.bT,bR:=h.bR,dY:=fun x hx=>hm _ _ (h.dY x hx),eK:=fun x hx=>2.76,same:=h.same,tx:=h.tx,iw:=h.iw.aD hm,t1:=tb 4.1 h.t1,t2:=tb 4.1 h.t2,t3:=tb 4.1 h.t3}
def aZ.ain(h:`ß)(h0:c.x=[])(k:`Ć){xs:`ð}(hn:∀b∈xs,H b=none)(hs:∀b∈xs,H' b≠none):aZ a t H' {c with x:=xs} s:=by
 have hm:ag 1.8 (ba (({c with x:=xs}:Cm).N t) H'):=fun b o e=>by
  obtain⟨e1,e2⟩:=iP e;rw[da]
  .exact k _ _ e2
  .intro z;rcases cK.mp z with z|z
   .exact e1 (cK.mpr (.inl z))
   .rw[hn b z]at e2;cases e2
 have xd:∀b∈xs,b∉c.M t:=fun b hb z=>h.zE (hn b hb) (cK.mpr (.inl z));exact{wf:=h.wf,nd:=h.nd,xd:=xd,xs:=hs,obj:=k _ _ h.obj,cl:=k _ _ h.cl,ki:=h.ki,kg:=h.kg,jw:=h.jw,kh:=h.kh,k0:=fun e=>(h.k0 e).aD hm,k1:=fun e=>(h.k1 e).aD hm,lT:=hm _ _ h.lT,lR:=hm _ _ h.lR,uT:=k _ _ h.uT,fT:=k _ _ h.fT,uR:=k _ _ h.uR,fR:=k _ _ h.fR,pT:=h.pT,pR:=h.pR,gT:=h.gT,gR:=h.gR,bT:=h.bT,bR:=h.bR,dY:=fun x hx=>hm _ _ (h.dY x hx),eK:=fun x hx=>2.76,same:=h.same,tx:=h.tx,iw:=h.iw.aD hm,t1:=mV h.t1 k,t2:=mV h.t2 k,t3:=mV h.t3 k}
abbrev cb(a:aj)(dr q:Addr)(n:Nat):HO:=.ins a.dN dr (iu `ğ (.int (n:Int)))
structure dS(K:Frag)(a:aj)(t:Tb)(H:Hp)(c:Cm)(s:State)(rd A dr q:Addr)(l:List Int)(n:Nat):Prop where
 dW:aZ a t H c s
 x:c.x=[rd,A]
 rd:H rd=some (cb a dr q n)
 q:aG K H q '`'
 eI:∃ys,H A=some (.ah ys)
def gq(a:aj)(t:Tb)(H:Hp)(c:Cm)(rd dr q:Addr)(n:Nat)(s':State)(eI:`Ê)(Q:VK):Prop:=∀r H' c',(∀b o,H b=some o->b∉c.M t->b≠rd->H' b=some o)->aZ a t H' c' s'->(c'.M t=c.M t/\c'.x=c.x)->H r=none->H' r=some (.ah (eI.map V.int))->H' rd=some (cb a dr q n)->Q `à H'
variable{rd A dr q:Addr}{l:List Int}{n n':Nat}{s':State}{eI:List Int}{Q:VK}
def dS.nA(h:2.7):A≠rd:=fun z=>by
 obtain⟨ys,e⟩:=h.eI;rw[z,h.rd]at e;cases e
def dS.move(h:2.7)(m:Nat):dS K a t 1.30 c s rd A dr q l m:=by
 obtain⟨ys,eA⟩:=h.eI;have jr:aG K 1.30 q '`':=by
  rcases h.q with(hq|⟨o,hq⟩)|hq
  .exact .inl (.inl (by rw[au (dG hq h.rd (by intro z;cases z))];exact hq))
  .exact .inl (.inr ⟨o,by rw[au (dG hq h.rd (by intro z;cases z))];exact hq⟩)
  .exact .inr hq
 refine⟨h.dW.YU (fun b o e nb=>?_) ('%') (fun b hb o u z=>?_),h.x,ax,jr,ys,by rw[au h.nA];exact eA⟩
 .rw[au fun z=>nb (by rw[h.x,z];simp)];exact e
 .show `_bP
  .rw[ax];exact 0.80
  .have:=ku.mp hb;subst this;rw[au h.nA,eA];exact 0.80
 .show `_bP
  .rw[h.rd]at z;cases z
  .have:=ku.mp hb;subst this;rw[eA]at z;cases z
def dS.row(h:2.7){r:Addr}{o:HO}(hr:H r=none):dS K a t (af H r o) c s rd A dr q l n:=by
 obtain⟨ys,eA⟩:=h.eI;exact⟨h.dW.aD 5.5,h.x,bB hr h.rd,(ag.new hr).seq h.q,ys,bB hr eA⟩
def gq.move(h:gq a t H c rd dr q n' s' eI Q)(m:Nat):gq a t 1.30 c rd dr q n' s' eI Q:=fun r H' c' k1 k2 k3 k4 k5 k6=>
 h r H' c' (fun b o e nb nr=>k1 b o (by rw[au nr];exact e) nb nr) k2 k3 (by
  by_cases z:r=rd
  .rw[z,ax]at k4;cases k4
  .rw[au z]at k4;exact k4) k5 k6
def gq.row(h:gq a t H c rd dr q n' s' eI Q){x:Addr}{o:HO}(hx:H x=none):gq a t (af H x o) c rd dr q n' s' eI Q:=fun r H' c' k1 k2 k3 k4 k5 k6=>
 h r H' c' (fun b o e nb nr=>k1 b o (bB hx e) nb nr) k2 k3 (by
  by_cases z:r=x
  .rw[z];exact hx
  .rw[au z]at k4;exact k4) k5 k6
def gq.does(h:gq a t H c rd dr q n s' eI Q)(p:2.7):cT a t H c s' eI Q:=fun r H' c' k1 k2 k3 k4 k5=>
 h r H' c' (fun b o e nb _=>k1 b o e nb) k2 k3 k4 k5 (k1 _ _ p.rd (p.dW.xd rd (by rw[p.x];simp)))
def zR{l:`Ê}{n k:Nat}{w t:`Ê}(h:l.drop n=(k:Int)::(w++t))(hk:w.length=k):l[n]? =some (k:Int)/\(l.drop (n+1)).take k=w/\l.drop (n+1+k)=t:=by
 have h1:l.drop (n+1)=w++t:=by rw[<-KQ,h];rfl
 refine⟨?_,by rw[h1,<-hk,List.take_left],by rw[<-KQ,h1,<-hk,List.drop_left]⟩;have:=fv (fun l:List Int=>l[0]?) h;simpa using this
def dQ{l:`Ê}{n:Nat}{z:Int}{t:`Ê}(h:l.drop n=z::t):l[n]? =some z/\l.drop (n+1)=t:=by
 refine⟨?_,by rw[<-KQ,h];rfl⟩;have:=fv (fun l:List Int=>l[0]?) h;simpa using this
def RY(s:State)(x:Int):(`ĉ s (.show_ x)).1=s/\(`ĉ s (.show_ x)).2=CP s x:=by
 simp only[Vbnlak.step,CP];by_cases h1:'4' x 0 1=false
 .rw[ay h1,ay h1];exact `_x
 .rw[aq h1,aq h1];by_cases h2:sideOf s x=[]
  .rw[ay h2,ay h2];exact `_x
  .rw[aq h2,aq h2];exact `_x
def asD(s:State)(x y:Int):(`ĉ s (.exact x y)).1=s:=by
 show `_ay
 repeat' split
 all_goals rfl
def asE(s:State):(`ĉ s .matrix).1=s:=by
 show `_ay
 repeat' split
 all_goals rfl
def asF(s:State):(`ĉ s .model).1=s:=by
 show `_ay
 repeat' split
 all_goals rfl
def asC(s:State):(`ĉ s .conflict).1=s:=by
 show `_ay
 repeat' split
 all_goals rfl
def asH(s:State)(x:Int):(`ĉ s (.translate x)).1=s:=by
 show `_ay
 repeat' split
 all_goals rfl
def asG(s:State)(x:Int):(`ĉ s (.placed x)).1=s:=by
 show `_ay
 repeat' split
 all_goals rfl
def asB(s:State):(`ĉ s .built).1=s:=by
 show `_ay
 repeat' split
 all_goals rfl
def SF(K:Frag)(a:aj)(t:Tb):Sp:=fun vs H Q _=>∃(c:Cm)(s:State)(rd A dr q:Addr)(l:`Ê)(n:Nat)(tl:`Ê)(x0:Int),vs=`θ/\dS K a t H c s rd A dr q l n/\l.drop n=x0::tl/\gq a t H c rd dr q (n+1) (`ĉ s (.show_ x0)).1 (dD s (.show_ x0)) Q
def aqK(T:`Ä)(G1:'}')(G2:DZ•adm a t):Lu•SF K a t:=by
 refine anr T `Â `Â ?_;show `_am;unfold aex;show `_aA;rw[(RY s x0).1,dD,(RY s x0).2]at eX;exact 1.19
def SG(K:Frag)(a:aj)(t:Tb):Sp:=fun vs H Q _=>∃(c:Cm)(s:State)(rd A dr q:Addr)(l:`Ê)(n:Nat)(tl:`Ê)(x0 x1 x2 x3:Int),vs=`θ/\dS K a t H c s rd A dr q l n/\l.drop n=x0::x1::x2::x3::tl/\gq a t H c rd dr q (n+4) (`ĉ s (.tell x0 x1 x2 x3)).1 (dD s (.tell x0 x1 x2 x3)) Q
def aqL(T:`Ä)(G1:'}')(G2:D0•adn a t):Lv•SG K a t:=by
 refine ant T `Â `Â ?_;rintro vs H Q E ⟨c,s,rd,A,dr,q,l,n,tl,x0,x1,x2,x3,rfl,bW,eQ,fC⟩;refine `Á;unfold aey;ext;have hO:=bW.rd;show `_ac;have nG:=bD.rd;show `_aJ;have iB:=dE.rd;obtain⟨e2,rM⟩:=dQ hd2;symm;refine⟨rd,q,dr,l,_,x2,rfl,iB,dE.q,e2,?_⟩;have ja:=dE.move (n+3);have qw:=jb.move (n+3);generalize af _ rd (cb a dr q (n+3))=H3 at ja qw⊢;have hr3:=ja.rd;obtain⟨e3,Zl⟩:=dQ rM;symm;refine⟨rd,q,dr,l,_,x3,rfl,hr3,ja.q,e3,?_⟩;have ph:=ja.move (n+4);have Bu:=qw.move (n+4);generalize af _ rd (cb a dr q (n+4))=H4 at ph Bu⊢;have hc:=ph.dW.obj;symm;exact⟨c,s,x0,x1,x2,x3,rfl,ph.dW,Bu.does ph⟩
def SI(K:Frag)(a:aj)(t:Tb):Sp:=fun vs H Q _=>∃(c:Cm)(s:State)(rd A dr q:Addr)(l:`Ê)(n:Nat)(tl:`Ê)(x0:Int),vs=`θ/\dS K a t H c s rd A dr q l n/\l.drop n=x0::tl/\gq a t H c rd dr q (n+1) (`ĉ s (.withdraw x0)).1 (dD s (.withdraw x0)) Q
def aqN(T:`Ä)(G1:'}')(G2:D7•adq a t):Lx•SI K a t:=by
 refine anv T `Â `Â ?_;show `_am;unfold aeA;show `_aA;exact 1.19
def Sw(K:Frag)(a:aj)(t:Tb):Sp:=fun vs H Q _=>∃(c:Cm)(s:State)(rd A dr q:Addr)(l:`Ê)(n:Nat)(tl:`Ê)(x0:Int),vs=`θ/\dS K a t H c s rd A dr q l n/\l.drop n=x0::tl/\gq a t H c rd dr q (n+1) (`ĉ s (.drop x0)).1 (dD s (.drop x0)) Q
def aqC(T:`Ä)(G1:'}')(G2:DO•ada a t):Ll•Sw K a t:=by
 refine anj T `Â `Â ?_;show `_am;unfold aep;show `_aA;exact 1.19
def SD(K:Frag)(a:aj)(t:Tb):Sp:=fun vs H Q _=>∃(c:Cm)(s:State)(rd A dr q:Addr)(l:`Ê)(n:Nat)(tl:`Ê),vs=`θ/\dS K a t H c s rd A dr q l n/\l.drop n=tl/\gq a t H c rd dr q n (`ĉ s (.quick)).1 (dD s (.quick)) Q
def aqI(T:`Ä)(G2:DW•adj a t):Lr•SD K a t:=by
 refine anp T `Â ?_;show `_ao;unfold aev;ext;have hc:=bW.dW.obj;symm;exact 1.23
def Sx(K:Frag)(a:aj)(t:Tb):Sp:=fun vs H Q _=>∃(c:Cm)(s:State)(rd A dr q:Addr)(l:`Ê)(n:Nat)(tl:`Ê)(x0 x1:Int),vs=`θ/\dS K a t H c s rd A dr q l n/\l.drop n=x0::x1::tl/\gq a t H c rd dr q (n+2) (`ĉ s (.exact x0 x1)).1 (dD s (.exact x0 x1)) Q
def aqD(T:`Ä)(G1:'}')(G2:DP•adb a t):Lm•Sx K a t:=by
 refine ank T `Â `Â ?_;rintro vs H Q E ⟨c,s,rd,A,dr,q,l,n,tl,x0,x1,rfl,bW,eQ,fC⟩;refine `Á;unfold aeq;ext;have hO:=bW.rd;show `_ac;have nG:=bD.rd;show `_aJ;have hc:=dE.dW.obj;symm;rw[asD]at jb;exact⟨c,s,x0,x1,rfl,dE.dW,jb.does dE⟩
def Sz(K:Frag)(a:aj)(t:Tb):Sp:=fun vs H Q _=>∃(c:Cm)(s:State)(rd A dr q:Addr)(l:`Ê)(n:Nat)(tl:`Ê),vs=`θ/\dS K a t H c s rd A dr q l n/\l.drop n=tl/\gq a t H c rd dr q n (`ĉ s (.matrix)).1 (dD s (.matrix)) Q
def aqF(T:`Ä)(G2:DT•adf a t):Lo•Sz K a t:=by
 refine anm T `Â ?_;show `_ao;unfold aes;ext;have hc:=bW.dW.obj;symm;rw[asE]at fC;exact 1.23
def SA(K:Frag)(a:aj)(t:Tb):Sp:=fun vs H Q _=>∃(c:Cm)(s:State)(rd A dr q:Addr)(l:`Ê)(n:Nat)(tl:`Ê),vs=`θ/\dS K a t H c s rd A dr q l n/\l.drop n=tl/\gq a t H c rd dr q n (`ĉ s (.model)).1 (dD s (.model)) Q
def aqG(T:`Ä)(G2:DU•adg a t):Lp•SA K a t:=by
 refine ann T `Â ?_;show `_ao;unfold aet;ext;have hc:=bW.dW.obj;symm;rw[asF]at fC;exact 1.23
def Sv(K:Frag)(a:aj)(t:Tb):Sp:=fun vs H Q _=>∃(c:Cm)(s:State)(rd A dr q:Addr)(l:`Ê)(n:Nat)(tl:`Ê),vs=`θ/\dS K a t H c s rd A dr q l n/\l.drop n=tl/\gq a t H c rd dr q n (`ĉ s (.conflict)).1 (dD s (.conflict)) Q
def aqB(T:`Ä)(G2:DN•ac' a t):Lk•Sv K a t:=by
 refine ani T `Â ?_;show `_ao;unfold aeo;ext;have hc:=bW.dW.obj;symm;rw[asC]at fC;exact 1.23
def SH(K:Frag)(a:aj)(t:Tb):Sp:=fun vs H Q _=>∃(c:Cm)(s:State)(rd A dr q:Addr)(l:`Ê)(n:Nat)(tl:`Ê)(x0:Int),vs=`θ/\dS K a t H c s rd A dr q l n/\l.drop n=x0::tl/\gq a t H c rd dr q (n+1) (`ĉ s (.translate x0)).1 (dD s (.translate x0)) Q
def aqM(T:`Ä)(G1:'}')(G2:D6•adp a t):Lw•SH K a t:=by
 refine anu T `Â `Â ?_;show `_am;unfold aez;show `_aA;rw[asH]at eX;exact 1.19
def SB(K:Frag)(a:aj)(t:Tb):Sp:=fun vs H Q _=>∃(c:Cm)(s:State)(rd A dr q:Addr)(l:`Ê)(n:Nat)(tl:`Ê)(x0:Int),vs=`θ/\dS K a t H c s rd A dr q l n/\l.drop n=x0::tl/\gq a t H c rd dr q (n+1) (`ĉ s (.placed x0)).1 (dD s (.placed x0)) Q
def aqH(T:`Ä)(G1:'}')(G2:DV•adi a t):Lq•SB K a t:=by
 refine ano T `Â `Â ?_;show `_am;unfold aeu;show `_aA;rw[asG]at eX;exact 1.19
def Su(K:Frag)(a:aj)(t:Tb):Sp:=fun vs H Q _=>∃(c:Cm)(s:State)(rd A dr q:Addr)(l:`Ê)(n:Nat)(tl:`Ê),vs=`θ/\dS K a t H c s rd A dr q l n/\l.drop n=tl/\gq a t H c rd dr q n (`ĉ s (.built)).1 (dD s (.built)) Q
def aqA(T:`Ä)(G2:DM•ac_ a t):Lj•Su K a t:=by
 refine anh T `Â ?_;show `_ao;unfold aen;ext;have hc:=bW.dW.obj;symm;rw[asB]at fC;exact 1.23
variable{rd A dr q:Addr}{l:List Int}{n n':Nat}{s':State}{eI:List Int}{Q:VK}
def dS.wr(h:2.7){m:Nat}{r:Addr}{o:HO}(hr:H r=none):dS K a t (af 1.30 r o) c s rd A dr q l m:=(h.move m).row (by rw[au (aL (aR h.rd hr))];exact hr)
def gq.wr(h:gq a t H c rd dr q n' s' eI Q)(p:2.7){m:Nat}{r:Addr}{o:HO}(hr:H r=none):gq a t (af 1.30 r o) c rd dr q n' s' eI Q:=(h.move m).row (by rw[au (aL (aR p.rd hr))];exact hr)
def dS.nx(h:2.7){r:Addr}(hr:H r=none):r∉c.x:=fun z=>h.dW.xs r z hr
def Sy(K:Frag)(a:aj)(t:Tb):Sp:=fun vs H Q _=>∃(c:Cm)(s:State)(rd A dr q:Addr)(l:`Ê)(n:Nat)(tl:`Ê)(side:Int)(w:`Ê),vs=`θ/\dS K a t H c s rd A dr q l n/\l.drop n=side::(w.length:Int)::(w++tl)/\w.length<=4096/\(∀z∈w,0<=z/\z<256)/\
 gq a t H c rd dr q (n+1+1+w.length) (`ĉ s (.load side (w.map Int.toNat))).1 (dD s (.load side (w.map Int.toNat))) Q
def ap3{w:`Ê}(h:∀z∈w,0<=z/\z<256):w.map V.int=(w.map Int.toNat).map nV:=by
 rw[bP];refine iG fun z hz=>?_;show V.int z=V.int ((z.toNat:Nat):Int);rw[Int.toNat_of_nonneg (h z hz).1]
def aqE(T:`Ä)(G1:'}')(G2:x9•lY K a)(G3:DS•ade a t):Ln•Sy K a t:=by
 refine anl T `Â `Â `Â ?_;rintro vs H Q E ⟨c,s,rd,A,dr,q,l,n,tl,side,w,rfl,bW,eQ,lw,hw,fC⟩;refine `Á;unfold aer;ext;have hO:=bW.rd;obtain⟨e0,b0⟩:=dQ eQ;obtain⟨e1,e2,e3⟩:=zR b0 rfl;symm;refine⟨rd,q,dr,l,_,side,rfl,hO,bW.q,e0,?_⟩;have bD:=4.8;have eX:=4.9;generalize af H rd `ã=H1 at bD eX⊢;have nG:=bD.rd;symm;refine⟨rd,q,dr,l,_,w.length,rfl,nG,bD.q,e1,fun r hr=>?_⟩;rw[e2];have dE:=bD.wr (m:=n+1+1+w.length) (o:=.ah (w.map V.int)) hr;have jb:=eX.wr bD (m:=n+1+1+w.length) (o:=.ah (w.map V.int)) hr;have yZ:af (af H1 rd (cb a dr q (n+1+1+w.length))) r (.ah (w.map V.int)) r=some (.ah ((w.map Int.toNat).map nV)):=by rw[ax,ap3 hw]
 generalize af (af H1 rd (cb a dr q (n+1+1+w.length))) r (.ah (w.map V.int))=H2 at dE jb yZ⊢;have hc:=dE.dW.obj;symm;exact⟨c,s,side,r,w.map Int.toNat,rfl,dE.dW,yZ,by rw[aJ];exact lw,bD.nx hr,jb.does dE⟩
def SE(K:Frag)(a:aj)(t:Tb):Sp:=fun vs H Q _=>∃(c:Cm)(s:State)(rd A dr q:Addr)(l:`Ê)(n:Nat)(tl:`Ê)(key:Int)(u v:`Ê),vs=`θ/\dS K a t H c s rd A dr q l n/\l.drop n=key::(u.length:Int)::(u++(v.length:Int)::(v++tl))/\u.length<=16/\v.length<=16/\
 gq a t H c rd dr q (2.91) (`ĉ s (.record key u v)).1 (dD s (.record key u v)) Q
def aqJ(T:`Ä)(G1:'}')(G2:x9•lY K a)(G3:DX•adk a t):Ls•SE K a t:=by
 refine anq T `Â `Â `Â ?_;rintro vs H Q E ⟨c,s,rd,A,dr,q,l,n,tl,key,u,v,rfl,bW,eQ,lu,lv,fC⟩;refine `Á;unfold aew;ext;have hO:=bW.rd;obtain⟨e0,b0⟩:=dQ eQ;obtain⟨e1,e2,e3⟩:=zR b0 rfl;obtain⟨f1,f2,f3⟩:=zR e3 rfl;symm;refine⟨rd,q,dr,l,_,key,rfl,hO,bW.q,e0,?_⟩;have bD:=4.8;have eX:=4.9;generalize af H rd `ã=H1 at bD eX⊢;have nG:=bD.rd;symm;refine⟨rd,q,dr,l,_,u.length,rfl,nG,bD.q,e1,fun r hr=>?_⟩;rw[e2];have dE:=bD.wr (m:=n+1+1+u.length) (o:=.ah (u.map V.int)) hr;have jb:=eX.wr bD (m:=n+1+1+u.length) (o:=.ah (u.map V.int)) hr;have yZ:af (af H1 rd (cb a dr q (n+1+1+u.length))) r (.ah (u.map V.int)) r=some (.ah (u.map V.int)):=ax;have nr1:r≠rd:=aL (aR nG hr);generalize af (af H1 rd (cb a dr q (n+1+1+u.length))) r (.ah (u.map V.int))=H2 at dE jb yZ⊢;have iB:=dE.rd;symm;refine⟨rd,q,dr,l,_,v.length,rfl,iB,dE.q,f1,fun r' iR=>?_⟩;rw[f2];have ja:=dE.wr (m:=2.91) (o:=.ah (v.map V.int)) iR;have qw:=jb.wr dE (m:=2.91) (o:=.ah (v.map V.int)) iR;have ZL:af 2.99 r' (.ah (v.map V.int)) r'=some (.ah (v.map V.int)):=ax;have ZM:af 2.99 r' (.ah (v.map V.int)) r=some (.ah (u.map V.int)):=by rw[au (aR yZ iR),au nr1];exact yZ
 generalize af 2.99 r' (.ah (v.map V.int))=H3 at ja qw ZL ZM⊢;have hc:=ja.dW.obj;symm;exact⟨c,s,key,r,r',u,v,rfl,ja.dW,ZM,ZL,lu,lv,bD.nx hr,dE.nx iR,qw.does ja⟩
def A2{α β:Type}(f:α->List β)(n m:Nat)(l:`ċ)(hl:`Û<=m)(h:∀x∈l,(f x).length<=n):(l.flatMap f).length<=m*n:=bq (qk f n l h) (Aq n hl)
def aqc(n:Int):('=' (.number n)).length=1:=rfl
def ajg{s:State}(h:WF s):(Vbnlak.cells s).length<=81:=by
 rw[<-Ff h,aJ,HE];have h1:=zo s.left;have h2:=zo `Ð;have h3:=h.left.len;have h4:=h.right.len;exact uX (show _<=9 by omega) (show _<=9 by omega)
def ast(n:Nat)(t:Vbnlak.Table)(hn:n<=16):(points n t).length<=272/\∀p∈points n t,p.length<=16:=by
 have fl:∀p:Nat->Bool,((`ó n).filter p).length<=16:=fun p=>by
  refine bq (nh _ _) ?_;rw[uS];exact hn
 unfold points;simp only[];refine⟨?_,2.1⟩
 .rw[dc,aJ,uS];have:=A2 (fun i=>((`ó n).filter fun j=>decide (i<j)&&Vbnlak.at_ t i j==8).map fun j=>(`ó n).filter fun k=>(Vbnlak.at_ t i k==1||Vbnlak.at_ t i k==2)||(Vbnlak.at_ t j k==1||Vbnlak.at_ t j k==2)) 16 16 (`ó n) (by rw[uS];exact hn) (fun i _=>by rw[aJ];exact fl _);omega
 .rcases cK.mp hp with hp|hp
  .obtain⟨i,_,rfl⟩:=cw.mp hp;exact fl _
  .obtain⟨i,_,hp⟩:=uU.mp hp;obtain⟨j,_,rfl⟩:=cw.mp hp;exact fl _
def lq{s:State}(h:WF s)(tx:(textOf s.left).length<=5000/\(textOf `Ð).length<=5000)(k:Call):(dD s k).length<=6000:=by
 have l8:=h.left.len;have r8:=h.right.len;have one:∀n:Int,('=' (.number n)).length<=6000:=fun n=>by rw[aqc];decide
 have zh:∀x:State×Answer,(∃n,x.2=.number n)->('=' x.2).length<=6000:=fun x ⟨n,e⟩=>by rw[e];exact one n
 unfold dD;cases k with
 |load side w=>
  refine zh _ ?_;simp only[Vbnlak.step,Vbnlak.load]
  repeat' split
  all_goals exact `_o
 |show_ side=>
  rw[(RY s side).2];unfold CP;split
  .exact one _
  .split
   .exact one _
   .simp only[VbnlakNeutral.shown,VbnlakNeutral.ints,cB,aJ];unfold sideOf;split
    .have:=tx.1;omega
    .have:=tx.2;omega
 |tell key c d m=>
  refine zh _ ?_;simp only[Vbnlak.step,Vbnlak.tell]
  repeat' split
  all_goals exact `_o
 |withdraw key=>
  refine zh _ ?_;simp only[Vbnlak.step,Vbnlak.withdraw]
  repeat' split
  all_goals exact `_o
 |record key u v=>
  refine zh _ ?_;simp only[Vbnlak.step,Vbnlak.record]
  repeat' split
  all_goals exact `_o
 |drop key=>
  refine zh _ ?_;simp only[Vbnlak.step,Vbnlak.drop]
  repeat' split
  all_goals exact `_o
 |quick=>
  simp only[Vbnlak.step,VbnlakNeutral.shown,cB];unfold across;have:=A2 (fun i=>(`ó s.right.length).map fun j=>(Vbnlak.at_ (Vbnlak.quick s) i (s.left.length+j):Int)) 8 8 (`ó s.left.length) (by rw[uS];exact l8) (fun i _=>by rw[aJ,uS];exact r8);omega
 |exact x y=>
  refine zh _ ?_;show `_ay
  repeat' split
  all_goals exact `_o
 |matrix=>
  show `_ay;split
  .exact one _
  .simp only[VbnlakNeutral.shown,cB];have:=A2 (fun c:Concept=>s.right.map fun d=>('_' s c.number d.number:Int)) 8 8 s.left l8 (fun i _=>by rw[aJ];exact r8);omega
 |model=>
  show `_ay;split
  .exact one _
  .split
   .exact one _
   .rename_i l _ _
    simp only[VbnlakNeutral.shown,cB];have hw:(world s l).length<=81:=bq (nh _ _) (ajg h);have:=A2 (fun x:Int×Int=>[x.1,x.2]) 2 81 ((world s l).map fun x=>1.91) (by rw[aJ];exact hw) (fun i _=>`Õ);omega
 |conflict=>
  show `_ay;split
  .exact one _
  .split
   .exact one _
   .simp only[VbnlakNeutral.shown,counted,VbnlakNeutral.ints,dc,cB,aJ];have h1:=(Fl s s.records s.told []).length_le;have h2:=(Fm s (coreTold s s.records [] s.told) s.records []).length_le;simp only[p6]at h1 h2;have:=h.tn;have:=h.rn;omega
 |translate x=>
  show `_ay;split
  .exact one _
  .split
   .exact one _
   .split
    .exact one _
    .rename_i y _ _ _
     simp only[VbnlakNeutral.shown,translated,cB,aJ];unfold others;split<;>omega
 |placed key=>
  show `_ay;split
  .exact one _
  .split
   .exact one _
   .split
    .exact one _
    .simp only[VbnlakNeutral.shown,cB,aJ];have:=h.len;rw[je];omega
 |built=>
  show `_ay;split
  .exact one _
  .simp only[VbnlakNeutral.shown,cB];have hn:(`_R s).length<=16:=by unfold Vbnlak.all;rw[dc];omega
   obtain⟨p1,p2⟩:=ast (`_R s).length (Vbnlak.quick s) hn;have:=A2 counted 17 272 ((points (`_R s).length (Vbnlak.quick s)).map fun p=>p.map fun i=>(`_T).getD i 0) (by rw[aJ];exact p1) (fun x hx=>by
    obtain⟨p,hp,rfl⟩:=cw.mp hx;have:=p2 p hp;simp only[counted,VbnlakNeutral.ints,cB,aJ];omega)
   omega
variable{rd A dr q:Addr}{l:List Int}{n n':Nat}{s':State}{eI:List Int}{Q:VK}
abbrev Mm(a:aj):List V:=[.ref a.yB,.ref a.yH,.ref a.yI,.ref a.yK,.ref a.yG,.ref a.yz,.ref a.yF,.ref a.yA,.ref a.yC,.ref a.yD,.ref a.yy,.ref a.yJ,.ref a.yE,.ref a.yx]
structure afP(P:Program)(w:World)(K:Frag)(mg:Str->Option Value)(base:Heap)(a:aj)(t:Tb):Prop where
 Ņ:Ln•Sy K a t
 ac5:Lu•SF K a t
 afk:Lv•SG K a t
 afK:Lx•SI K a t
 ab5:Ls•SE K a t
 Yd:Ll•Sw K a t
 ab1:Lr•SD K a t
 YF:Lm•Sx K a t
 Œ:Lo•Sz K a t
 ŝ:Lp•SA K a t
 Wu:Lk•Sv K a t
 afs:Lw•SH K a t
 aa2:Lq•SB K a t
 Wd:Lj•Su K a t
def Ss(K:Frag)(t:Tb):Sp:=fun vs H Q _=>∃(q:Addr)(l:`Ê),vs=[.ref q]/\aG K H q '`'/\PyVbnlak.answers_asked l=true/\t.t1≠t.t2/\t.t1≠t.t3/\t.t2≠t.t3/\dU H t.t1 9.2 tX/\dU H t.t2 9.1 tW/\dU H t.t3 5.2 su/\
 ∀r H',H' r=some (.ah ((PyVbnlak.answers l).map V.int))->Q `à H'
def dS.kY(h:2.7)(nq:q≠A\/∀H:Hp,aG K H q '`'){zs:List V}:dS K a t (af H A (.ah zs)) c s rd A dr q l n:=by
 obtain⟨ys,eA⟩:=h.eI;refine⟨h.dW.YU (fun b o e nb=>?_) ('%') (fun b hb o u z=>?_),h.x,by rw[au (aL h.nA)];exact h.rd,?_,zs,ax⟩
 .rw[au fun z=>nb (by rw[h.x,z];simp)];exact e
 .show `_bP
  .rw[au (aL h.nA),h.rd];exact 0.80
  .have:=ku.mp hb;subst this;rw[ax];exact 0.80
 .show `_bP
  .rw[h.rd]at z;cases z
  .have:=ku.mp hb;subst this;rw[eA]at z;cases z
 .rcases nq with nq|nq
  .rcases h.q with(hq|⟨o,hq⟩)|hq
   .exact .inl (.inl (by rw[au nq];exact hq))
   .exact .inl (.inr ⟨o,by rw[au nq];exact hq⟩)
   .exact .inr hq
  .exact nq _
def dS.after(h:2.7){c':Cm}{m:Nat}(k:∀b o,H b=some o->b∉c.M t->b≠rd->H' b=some o)(hc:aZ a t H' c' s')(hM:c'.M t=c.M t/\c'.x=c.x)(hr:H' rd=some (cb a dr q m)):dS K a t H' c' s' rd A dr q l m:=by
 obtain⟨ys,eA⟩:=h.eI;have Qo:A∉c.M t:=h.dW.xd A (by rw[h.x];simp);refine⟨hc,by rw[hM.2,h.x],hr,?_,ys,k _ _ eA Qo h.nA⟩;rcases h.q with(hq|⟨o,hq⟩)|hq
 .exact .inl (.inl (k _ _ hq (fun z=>by obtain⟨o,h1,h2,_⟩:=h.dW.kind q z;rw[hq]at h1;exact h2 _ (bZ h1).symm) (dG hq h.rd `ć)))
 .exact .inl (.inr ⟨o,k _ _ hq (fun z=>h.dW.aaL hq z) (dG hq h.rd `ć)⟩)
 .exact .inr hq
def aqz(T:`Ä)(CC:∀H,bF K H a.vp (Mm a))(G1:DR•ue a t)(G2:Ea•ug a)(G3:D'•uf K a)(G4:'}')(S:afP P w K mg base a t):Li•Ss K t:=by
 refine ang T G1 G2 G3 G4 ?_;rintro vs H Q E ⟨q,l,rfl,hq,ask,n12,n13,n23,t1,t2,t3,h⟩;refine⟨rfl,fun Ar room=>?_⟩;unfold Tf;ext;obtain⟨cs0,aou,cl0,akQ⟩:=TM.aix ask;symm;intro x dx hx fJ vV;have up:ag H (bh (af (af H dx (.own x)) x (.ins a.aQ dx [])) x):=fun b o e=>by
  show `_bc
 refine⟨x,dx,rfl,ax,n12,n13,n23,mV t1 up,mV t2 up,mV t3 up,fun c H1 Zj fB k1 cr=>`Á⟩;have S1:ag H H1:=fun b o e=>k1 _ _ (up _ _ e);symm;intro rd dr hU Zn ndr;refine⟨rd,q,dr,rfl,ax,`Á⟩;rw[jj];have S2:ag H1 (af (af H1 dr (.own rd)) rd (cb a dr q 0)):=fun b o e=>by
  rw[au (aR e hU)];exact bB Zn e
 have e2:af (af H1 dr (.own rd)) rd (cb a dr q 0) rd=some (cb a dr q 0):=ax;generalize af (af H1 dr (.own rd)) rd (cb a dr q 0)=H2 at S2 e2⊢;symm;intro A hA;have S3:ag H2 (af H2 A `Ù):=ag.new hA;have e3:=S3 _ _ e2;have Fz:af H2 A `Ù A=some `Ù:=ax;generalize af H2 A `Ù=H3 at S3 e3 Fz⊢;have HA:H A=none:=S1.free (S2.free hA);have nqA:aG K H3 q '`':=(S1.trans (S2.trans S3)).seq hq;have qA:q≠A\/∀H:Hp,aG K H q '`':=by
  rcases hq with(hq|⟨o,hq⟩)|hq
  .exact .inl (aR hq HA)
  .exact .inl (aR hq HA)
  .exact .inr fun H=>.inr hq
 have aln:H1 rd=none:=hU;have gx:aZ a t H3 {c with x:=[rd,A]} Vbnlak.start:=cr.ain fB (S2.trans S3) (fun b hb=>by
  rcases bE.mp hb with rfl|hb
  .exact hU
  .rw[ku.mp hb];exact S2.free hA) (fun b hb=>by
  rcases bE.mp hb with rfl|hb
  .rw[e3];exact 0.80
  .rw[ku.mp hb,Fz];exact fun z=>by cases z)
 have aa4:dS K a t H3 {c with x:=[rd,A]} Vbnlak.start rd A dr q l 0:=⟨gx,rfl,e3,nqA,[],Fz⟩;clear gx nqA aln HA e3 S3 S2 S1 k1 up t1 t2 t3 e2 Zn hU ndr hA hx fJ vV cr hq fB;have Zk:({c with x:=[rd,A]}:Cm).p=x:=Zj;generalize({c with x:=[rd,A]}:Cm)=c0 at aa4 Zk;clear Zj;symm;refine⟨fun m σ H'=>∃(c:Cm)(s:State)(cs:List (List (`Ê)))(n:Nat)(acc:`Ê)(v4 v5:Option V),m=`ë/\σ=2.88/\c.p=x/\dS K a t H' c s rd A dr q l n/\TM.uN cs (l.drop n)/\H' A=some `_B/\acc++PyFlat.told (played 1.48 s cs)=PyVbnlak.answers l/\`_q+`ë*6001<=400*6001,
  ⟨_,c0,Vbnlak.start,cs0,0,[],none,none,rfl,rfl,Zk,aa4,by rw[List.drop_zero];exact aou,Fz,by rw[akQ];rfl,`_3⟩,fun m σ H' W=>?_⟩
 obtain⟨c,s,cs,n,acc,v4,v5,rfl,rfl,fB,pre,line,eA,Yq,aom⟩:=W;have hU:=pre.rd;symm;refine⟨rd,q,dr,l,n,rfl,hU,pre.q,?_⟩;symm;obtain⟨l',iZ⟩:∃l',l.drop n=l':=`_o;rw[iZ]at line;cases line with
 |nil=>
  have hn:`Û<=n:=by rw[List.drop_eq_nil_iff]at iZ;exact iZ
  rw[g_ (show(l.length:Int)<=(n:Int) by omega)];refine eF (0.80) fun _=>?_;symm;refine h A H' ?_;rw[eA,<-Yq];simp[played,PyFlat.told]
 |@cons call _ tail Mw hP aot=>
  have ne:l'≠[]:=fun z=>by rw[z]at hP;cases hP
  have hn:n<`Û:=by
   refine Nat.lt_of_not_le fun z=>ne ?_;rw[<-iZ,List.drop_eq_nil_iff];exact z
  rw[eN (show¬(l.length:Int)<=(n:Int) by omega)];refine eF (fun _=>?_) fun z=>by cases z
  refine 2.51;have fin:∀(H5:Hp)(c:Cm)(n5 n6:Nat)(v4:Option V)(eI:`Ê)(D:gB),(∀(aS:L2.St)(H':Hp),(∃m',m'<(call::Mw).length/\∃(c:Cm)(s:State)(cs:List (List (`Ê)))(n:Nat)(acc:`Ê)(v4 v5:Option V),m'=`ë/\aS=2.88/\c.p=x/\dS K a t H' c s rd A dr q l n/\TM.uN cs (l.drop n)/\H' A=some `_B/\acc++PyFlat.told (played 1.48 s cs)=PyVbnlak.answers l/\`_q+`ë*6001<=400*6001)->D.nx aS H')->dS K a t H5 c s rd A dr q l n5->c.p=x->H5 A=some `_B->eI=(1.48 s call).2->eI.length<=6000->l.drop n6=tail->
   gq a t H5 c rd dr q n6 (1.48 s call).1 eI (fun v H1=>aH 5 v 2.88 H1 fun σ H=>aC (eL (i3 K "list" mK (aa 3) (ai (dh (gW K) (ai (aa 5) ap)) ap))) (eL (i3 K "list" tZ (aa 3) (ai (aa 5) ap))) D σ H):=by
   intro H5 c5 n5 n6 v4' eI D hD ca Gj dq ean lan hd6 r H6 c6 k1 k2 k3 k4 k5 k6;have asw:=ca.after k1 k2 k3 k6;have Qo:A∉c5.M t:=ca.dW.xd A (by rw[ca.x];simp);have eA6:=k1 _ _ dq Qo ca.nA;have nrA:r≠A:=fun z=>by rw[z,dq]at k4;cases k4
   have vJ:c6.p=x:=by
    have:=k3.1;unfold Cm.M at this;injection this with this _
    rw[this,Gj]
   rw[cB,DJ]at aom;refine AU ?_;symm;refine qC eA6 (by rw[aJ];exact oF (show _<=400*6001 by omega) `Æ) ?_;have aa5:=asw.kY qA (zs:=acc.map V.int++[.int (eI.map V.int).length]);have Yh:af H6 A 1.67 A=some 1.67:=ax;have YC:af H6 A 1.67 r=some (.ah (eI.map V.int)):=by rw[au nrA];exact k5
   generalize af H6 A 1.67=H7 at aa5 Yh YC⊢;symm;refine B0 Yh YC (by rw[dc,aJ,aJ];exact bq (show _<=400*6001+6001 by simp;omega) `Æ) ?_;symm;refine hD _ _ ⟨Mw.length,`Õ,c6,_,Mw,n6,acc++((eI.length:Int)::eI),_,_,rfl,rfl,vJ,aa5.kY qA,by rw[hd6];exact aot,?_,?_,?_⟩
   .rw[ax,eY,cY,jz,aJ];rfl
   .rw[<-Yq];simp only[played,PyFlat.told,oy,jz,xH];rw[ean]
   .rw[dc,cB];omega
  have wf:=pre.dW.wf;have tx:=pre.dW.tx;symm;cases hP with
  |load side w tl h1 h2=>
   show `_at;refine⟨rd,q,dr,l,n,0,rfl,hU,pre.q,e0,?_⟩;show `_aa;refine j8 (j:=0) (CC _) rfl rfl ?_;symm;refine⟨.ref a.yB,rfl,a.yB,a.MK,HJ,Sy K a t,_,rfl,S.Ņ,`ξ,T.JK.kp,aiY T.JK,?_⟩;show `_aB;obtain⟨f1,f2,f3⟩:=zR hd2 rfl;exact⟨c,s,rd,A,dr,q,l,n+1,tail,side,w,by rw[fB],ca,b0,h1,h2,fin H5 c (n+1) _ _ _ _ (1.42) ca fB dq rfl (lq wf tx _) f3⟩
  |«show» side tl=>
   show `_at;refine⟨rd,q,dr,l,n,1,rfl,hU,pre.q,e0,?_⟩;show `_aa;refine j8 (j:=1) (CC _) rfl rfl ?_;symm;refine⟨.ref a.yH,rfl,a.yH,a.MQ,HQ,SF K a t,_,rfl,S.ac5,`ξ,T.JQ.kp,ai4 T.JQ,?_⟩;show `_aB;exact⟨c,s,rd,A,dr,q,l,n+1,tail,side,by rw[fB],ca,b0,2.58⟩
  |tell key x1 y1 m1 tl=>
   show `_at;refine⟨rd,q,dr,l,n,2,rfl,hU,pre.q,e0,?_⟩;show `_aa;refine j8 (j:=2) (CC _) rfl rfl ?_;symm;refine⟨.ref a.yI,rfl,a.yI,a.MR,HR,SG K a t,_,rfl,S.afk,`ξ,T.JR.kp,ai5 T.JR,?_⟩;show `_aB;obtain⟨f1,rM⟩:=dQ hd2;obtain⟨f2,Zl⟩:=dQ rM;obtain⟨f3,hd5⟩:=dQ Zl;exact⟨c,s,rd,A,dr,q,l,n+1,tail,key,x1,y1,m1,by rw[fB],ca,b0,fin H5 c (n+1) _ _ _ _ (1.42) ca fB dq rfl (lq wf tx _) hd5⟩
  |withdraw key tl=>
   show `_at;refine⟨rd,q,dr,l,n,3,rfl,hU,pre.q,e0,?_⟩;show `_aa;refine j8 (j:=3) (CC _) rfl rfl ?_;symm;refine⟨.ref a.yK,rfl,a.yK,a.MT,HU,SI K a t,_,rfl,S.afK,`ξ,T.JT.kp,ai7 T.JT,?_⟩;show `_aB;exact 2.89
  |record key u v tl h1 h2=>
   show `_at;refine⟨rd,q,dr,l,n,4,rfl,hU,pre.q,e0,?_⟩;show `_aa;refine j8 (j:=4) (CC _) rfl rfl ?_;symm;refine⟨.ref a.yG,rfl,a.yG,a.MP,HP,SE K a t,_,rfl,S.ab5,`ξ,T.JP.kp,ai3 T.JP,?_⟩;show `_aB;obtain⟨f1,f2,f3⟩:=zR hd2 rfl;obtain⟨g1,g2,g3⟩:=zR f3 rfl;exact⟨c,s,rd,A,dr,q,l,n+1,tail,key,u,v,by rw[fB],ca,b0,h1,h2,fin H5 c (n+1) _ _ _ _ (1.42) ca fB dq rfl (lq wf tx _) g3⟩
  |drop key tl=>
   show `_at;refine⟨rd,q,dr,l,n,5,rfl,hU,pre.q,e0,?_⟩;show `_aa;refine j8 (j:=5) (CC _) rfl rfl ?_;symm;refine⟨.ref a.yz,rfl,a.yz,a.MI,HH,Sw K a t,_,rfl,S.Yd,`ξ,T.JI.kp,aiW T.JI,?_⟩;show `_aB;exact 2.89
  |quick tl=>
   show `_at;refine⟨rd,q,dr,l,n,6,rfl,hU,pre.q,e0,?_⟩;show `_aa;refine j8 (j:=6) (CC _) rfl rfl ?_;symm;refine⟨.ref a.yF,rfl,a.yF,a.MO,HN,SD K a t,_,rfl,S.ab1,`ξ,T.JO.kp,ai2 T.JO,?_⟩;symm;exact 0.90
  |«exact» x1 y1 tl=>
   show `_at;refine⟨rd,q,dr,l,n,7,rfl,hU,pre.q,e0,?_⟩;show `_aa;refine j8 (j:=7) (CC _) rfl rfl ?_;symm;refine⟨.ref a.yA,rfl,a.yA,a.MJ,HI,Sx K a t,_,rfl,S.YF,`ξ,T.JJ.kp,aiX T.JJ,?_⟩;show `_aB;obtain⟨f1,rM⟩:=dQ hd2;exact⟨c,s,rd,A,dr,q,l,n+1,tail,x1,y1,by rw[fB],ca,b0,fin H5 c (n+1) _ _ _ _ (1.42) ca fB dq rfl (lq wf tx _) rM⟩
  |matrix tl=>
   show `_at;refine⟨rd,q,dr,l,n,8,rfl,hU,pre.q,e0,?_⟩;show `_aa;refine j8 (j:=8) (CC _) rfl rfl ?_;symm;refine⟨.ref a.yC,rfl,a.yC,a.ML,HK,Sz K a t,_,rfl,S.Œ,`ξ,T.JL.kp,aiZ T.JL,?_⟩;symm;exact 0.90
  |model tl=>
   show `_at;refine⟨rd,q,dr,l,n,9,rfl,hU,pre.q,e0,?_⟩;show `_aa;refine j8 (j:=9) (CC _) rfl rfl ?_;symm;refine⟨.ref a.yD,rfl,a.yD,a.MM,HL,SA K a t,_,rfl,S.ŝ,`ξ,T.JM.kp,ai0 T.JM,?_⟩;symm;exact 0.90
  |conflict tl=>
   show `_at;refine⟨rd,q,dr,l,n,10,rfl,hU,pre.q,e0,?_⟩;show `_aa;refine j8 (j:=10) (CC _) rfl rfl ?_;symm;refine⟨.ref a.yy,rfl,a.yy,a.MH,HG,Sv K a t,_,rfl,S.Wu,`ξ,T.JH.kp,aiV T.JH,?_⟩;symm;exact 0.90
  |translate x1 tl=>
   show `_at;refine⟨rd,q,dr,l,n,11,rfl,hU,pre.q,e0,?_⟩;show `_aa;refine j8 (j:=11) (CC _) rfl rfl ?_;symm;refine⟨.ref a.yJ,rfl,a.yJ,a.MS,HS,SH K a t,_,rfl,S.afs,`ξ,T.JS.kp,ai6 T.JS,?_⟩;show `_aB;exact⟨c,s,rd,A,dr,q,l,n+1,tail,x1,by rw[fB],ca,b0,2.58⟩
  |placed key tl=>
   show `_at;refine⟨rd,q,dr,l,n,12,rfl,hU,pre.q,e0,?_⟩;show `_aa;refine j8 (j:=12) (CC _) rfl rfl ?_;symm;refine⟨.ref a.yE,rfl,a.yE,a.MN,HM,SB K a t,_,rfl,S.aa2,`ξ,T.JN.kp,ai1 T.JN,?_⟩;show `_aB;exact 2.89
  |built tl=>
   show `_at;refine⟨rd,q,dr,l,n,13,rfl,hU,pre.q,e0,?_⟩;show `_aa;refine j8 (j:=13) (CC _) rfl rfl ?_;symm;refine⟨.ref a.yx,rfl,a.yx,a.MG,HF,Su K a t,_,rfl,S.Wd,`ξ,T.JG.kp,aiU T.JG,?_⟩;symm;exact 0.90
section
variable{P:Program}{w:World}{K:Frag}{mg:Str->Option Value}{base:Heap}{a:aj}{t:Tb}
def aip(T:`Ä)(C:oq w P K a)(CC:∀H,bF K H a.vp (Mm a))(L1:uL base a.Ft t.t1)(L2':uL base a.Fs t.t2)(L3:uL base a.Fq t.t3)(B:l7 mg base):Li•Ss K t:=by
 have pB:=aqt (P:=P) (w:=w) (base:=base) T;have aax:=aqu T pB;have auI:=arT (P:=P) (w:=w) (base:=base) T;have Ic:=arC (base:=base) T C;have auH:=arS T Ic auI;have comp:=aqQ (base:=base) T C;have ajs:=aqR T Ic comp;have lay:=ara (P:=P) (w:=w) (base:=base) T;have ajD:=aqS T C ajs lay;have fm:=aq1 (P:=P) (w:=w) (base:=base) T;have ko:=aq_ (P:=P) (w:=w) (base:=base) T;have ta:=arJ (P:=P) (w:=w) (base:=base) T;have nm:=arn (P:=P) (w:=w) (base:=base) T;have no:=ark T nm;have tt:=arL T ko auH;have tr:=arK T ta;have afr:=aqx T fm;have qt:=arw T afr tt tr ajD no;have sl:=arG (P:=P) (w:=w) (base:=base) T;have il:=aq7 (P:=P) (w:=w) (base:=base) T;have eb:=aqW (P:=P) (w:=w) (base:=base) T;have el:=aqX T il;have ri:=aqv (P:=P) (w:=w) (base:=base) T;have rr:=arx T eb el ri;have mf:=arh (P:=P) (w:=w) (base:=base) T;have lr:=arb T rr mf;have hp:=aq5 (P:=P) (w:=w) (base:=base) T;have auD:=arO T hp;have ws:=arY (P:=P) (w:=w) (base:=base) T;have ma:=ari (P:=P) (w:=w) (base:=base) T;have wi:=aqw (P:=P) (w:=w) (base:=base) T;have di:=aqj (base:=base) T C;have nw:=arl T ws ma wi;have rs:=arA T ws;have fw:=aq2 T rs ma wi;have nws:=arm T nw;have ip:=aq8 T nw;have pmk:=aru T C ip di;have sw:=arI T fw Ic di nws;have cc:=aqU T Ic;have asp:=aqy (P:=P) (w:=w) (base:=base) T;have vm:=arU (P:=P) (w:=w) (base:=base) T;have vs:=arV (P:=P) (w:=w) (base:=base) T;have sp:=arH (P:=P) (w:=w) (base:=base) T;have na:=arp (P:=P) (w:=w) (base:=base) T;have eo:=aq0 T na;have gi:=aqk T sp eo;have po:=arq (P:=P) (w:=w) (base:=base) T;have co:=aqP (P:=P) (w:=w) (base:=base) T;have ci:=aqh T co;have ik:=aq6 (P:=P) (w:=w) (base:=base) T;have li:=aqp (P:=P) (w:=w) (base:=base) T;have Ŏ:=aqq (P:=P) (w:=w) (base:=base) T;have len:=aqm (P:=P) (w:=w) (base:=base) T;have ĺ:=aql (P:=P) (w:=w) (base:=base) T;have P6:=aqn (P:=P) (w:=w) (base:=base) T;have GV:=aqo T P6;have iss:=aq9 (base:=base) T C;have pt:=ars (P:=P) (w:=w) (base:=base) T;have HW:=art T pt;have YD:=aqY (P:=P) (w:=w) (base:=base) T;have tts:=arP T L1 B sw YD;have rts:=arB T L2' B sw YD;have ns:=aro (P:=P) (w:=w) T L3 B;have sli:=arF T ci;have CO:=arE T sli;have ŀ:=aq' T gi sli;have mt:=ard T pmk;have hc:=aq3 (t:=t) T C CO;have iy:=aq4 T hc;have tm:=arQ (t:=t) T cc GV;have wo:=arZ (t:=t) T sw GV;have wt:=arW (t:=t) T qt CO GV;have tlr:=arN T ik hc Ŏ;have tl:=arM T tlr len;have wd:=arX (t:=t) T ĺ;have dr:=aqV (t:=t) T ĺ;have rcr:=arz T ik iy Ŏ;have rc:=ary T rcr len;have sh:=arD (base:=base) (t:=t) T C;have ld:=arc (t:=t) T C sl lr auD ci ŀ;have ini:=aqi (t:=t) T li ŀ;have ex:=aqZ T hc tm mt wo;have md:=arj T tm wo po;have bu:=aqO T wt iss HW;have tra:=arR T hc tm wo CO mt vm ns;have pla:=arr T P6 tm wo rs asp vs;have qu:=arv T wt CO;have mx:=arf T tm wo CO mt;have cf:=aqT T tm wo tts P6 GV rts;exact aqz T CC ini (aqs T) (aqr T) pB
  {Ņ:=aqE T pB aax ld,ac5:=aqK T pB sh,afk:=aqL T pB tl,afK:=aqN T pB wd,ab5:=aqJ T pB aax rc,Yd:=aqC T pB dr,ab1:=aqI T qu,YF:=aqD T pB ex,Œ:=aqF T mx,ŝ:=aqG T md,Wu:=aqB T cf,afs:=aqM T pB tra,aa2:=aqH T pB pla,Wd:=aqA T bu}
end
end
section
variable{K:Frag}{h:Heap}{mg:Str->Option Value}{R:Prop}
def axg(x:Str)(st:Stmt){f:Addr}{oc:Value}{od an:5.7}{kW:1.40}{kV doc pm dk ct:Value}(X:K.In h)(G:7.2)(r:∀fd:FuncData,cj K x x st f fd->mg x=some `æ->R)
 (e:nsIn K mainGlobals x=some (`ĕ):=by k_is) (l:K.lookup f=some ⟨oc,od,.func (fnOf x x (vg st) (dO st) (gQ st) .none kV doc pm an dk ct),kW⟩:=by k_is) (c:codeIn K dk x=true:=by k_is) (k:keepIn K `æ=true:=by k_is):R:=r _ (YX l c k) (EU X G e)
def axj(x qual:Str)(st:Stmt){C f:Addr}{oc:Value}{od an:5.7}{kW:1.40}{kV doc pm dk ct:Value}(_:f8 K C)(r:∀fd:FuncData,cj K x qual st f fd->cZ K C x f->R)
 (e:findIn K `_e x=some (`ĕ):=by k_is) (l:K.lookup f=some ⟨oc,od,.func 0.97,kW⟩:=by k_is) (c:codeIn K dk qual=true:=by k_is) (k:keepIn K `æ=true:=by k_is) (n:isFn K `æ=true:=by k_is):R:=r _ (YX l c k) ⟨e,n,k⟩
def axf(x:Str){C f:Addr}(X:K.In h)(G:7.2)(r:mg x=some `_e->f8 K C->Mk K C f->R)(e:nsIn K mainGlobals x=some (some `_e):=by k_is)(p1:plainGet K C Str.empty=true:=by k_is)(p2:hasDictIn K C=true:=by k_is)(p3:plainOver K C=true:=by k_is)
 (p4:4.36:=by k_is) (m1:makesIn K C=true:=by k_is) (m2:findIn K `_e "__init__"=some (`ĕ):=by k_is) (m3:isFn K `æ=true:=by k_is) (m4:keepIn K `_e=true:=by k_is):R:=r (EU X G e) ⟨p1,p2,p3,p4⟩ ⟨m1,m2,m3,m4⟩
def axd{C:Addr}(x:Str)(_:f8 K C)(r:eE K C x->R)(e:findIn K `_e x=some none:=by k_is):R:=r e
def axi(x:Str)(i:Int){t:Tok}(X:K.In h)(G:7.2)(r:(∃t,mg x=some (.int i t))->R)(e:nsIn K mainGlobals x=some (some (.int i t)):=by k_is):R:=r ⟨t,EU X G e⟩
def axh(x:Str){g:Addr}(X:K.In h)(G:7.2)(r:mg x=some (.ref g)->R)(e:nsIn K mainGlobals x=some (some (.ref g)):=by k_is):R:=r (EU X G e)
def axe(x:Str)(X:K.In h)(G:7.2)(r:mg x=none->R)(e:nsIn K mainGlobals x=some none:=by k_is):R:=r (PySem.W.mg_none_of X G e)
def PY{x qual:Str}{st:Stmt}{f t:Addr}{fd:`ě}{base:Heap}(X:K.In h)(F:0.73)(g:mg x=some `æ)(T:oM mg h x t)(B:∀c t,8.7 h c t->8.7 base c t):uL base fd t:=by
 obtain⟨oc,od,kV,doc,pm,an,dk,ct,kW,_,lk,_⟩:=F.ex;obtain⟨f',o,fd',c,h1,h2,h3,h4,h5,_⟩:=T;rw[g]at h1;cases h1;have e:=X _ _ lk;rw[h2]at e;cases e;cases h3;exact⟨c,h4,B _ _ h5⟩
def apart(K:Frag)(x y:Str):Bool:=match tabIn K x,tabIn K y with
 |some (_,p),some (_,q)=>p !=q
 |_,_=>false
def afh{x:Str}{t c p:Addr}(X:K.In h)(G:7.2)(T:oM mg h x t)(ht:tabIn K x=some (c,p)):t=p:=by
 obtain⟨f,o,fd,c',h1,h2,h3,h4,h5,_⟩:=T;unfold tabIn at ht;split at ht
 .rename_i f' hf
  have e1:=EU X G hf;rw[h1]at e1;cases e1;split at ht
  .rename_i jK
   have e2:=X _ _ jK;rw[h2]at e2;cases e2;cases h3;split at ht
   .rename_i avv hc
    rw[h4]at hc;cases hc;split at ht
    .rename_i Bc
     have e3:=X _ _ Bc;obtain⟨oc,vs,_,_,_,_,_,_,_,g1,_,g3,g4,_⟩:=h5;rw[e3]at g1;cases g1;cases g3;split at ht
     .rename_i avu hv
      rw[g4]at hv;cases hv;cases ht;rfl
     .cases ht
    .cases ht
   .cases ht
  .cases ht
 .cases ht
def L_{x y:Str}{t u:Addr}(X:K.In h)(G:7.2)(T:oM mg h x t)(U:oM mg h y u)(e:apart K x y=true):t≠u:=by
 unfold apart at e;split at e
 .rename_i c p c' q h1 h2
  rw[afh X G T h1,afh X G U h2];intro z;rw[z]at e;simp at e
 .cases e
def BI:V->Value->Bool
 |.int i,.int j _=>decide (i=j)
 |.bl b,.bool c=>decide (b=c)
 |.ref a,.ref b=>decide (a=b)
 |_,_=>false
def ġ{x:V}{u:Value}(e:BI x u=true):bA x u:=by
 unfold BI at e;split at e
 .exact⟨_,by rw[lP e]⟩
 .show _=_;rw[lP e]
 .show _=_;rw[lP e]
 .cases e
def E6:List V->List Value->Bool
 |[],[]=>true
 |x::xs,u::us=>BI x u&&E6 xs us
 |_,_=>false
def VI:∀{xs:List V}{us:`Ì},E6 xs us=true->bx xs us
 |[],[],_=>.nil
 |x::xs,u::us,e=>by
  have e':(BI x u&&E6 xs us)=true:=e;rw[f7]at e';exact .cons (ġ e'.1) (VI e'.2)
 |[],_::_,e=>by cases e
 |_::_,[],e=>by cases e
def ze(n:String):Value->Bool
 |.type m=>decide (m=n)
 |_=>false
def Z'{n:String}{v:Value}(e:ze n v=true):v=.type n:=by
 unfold ze at e;split at e
 .rw[lP e]
 .cases e
def IZ(K:Frag)(t:Addr):Option (`Ì):=match K.lookup t with
 |some o=>if ze "tuple" o.cls then(match o.data with
  |.seq its _=>if its.size<=sizeLine then some its.toList else none
  |_=>none)else none
 |none=>none
def afx{t:Addr}{us:`Ì}(e:IZ K t=some us):∃(o:Obj)(its:'6')(n:Nat),K.lookup t=some o/\o.cls=.type "tuple"/\o.data=.seq its n/\its.size<=sizeLine/\us=its.toList:=by
 unfold IZ at e;split at e
 .rename_i o ho
  by_cases hc:ze "tuple" o.cls=true
  .rw[ay hc]at e;split at e
   .rename_i its n hd
    by_cases hz:its.size<=sizeLine
    .rw[ay hz]at e;cases e;exact⟨o,its,n,ho,Z' hc,hd,hz,rfl⟩
    .rw[aq hz]at e;cases e
   .cases e
  .rw[aq hc]at e;cases e
 .cases e
def iE(K:Frag)(t:Addr)(xs:List V):Bool:=match IZ K t with
 |some us=>E6 xs us
 |none=>false
def Ik{t:Addr}{xs:List V}(e:iE K t xs=true)(H:Hp):bF K H t xs:=by
 unfold iE at e;split at e
 .rename_i us hu
  obtain⟨o,its,n,h1,h2,h3,h4,rfl⟩:=afx hu;exact .inr ⟨o,its,n,h1,h2,h3,h4,VI e⟩
 .cases e
def Fu(K:Frag)(g:Addr):Option (List DictEntry):=match K.lookup g with
 |some o=>if ze "dict" o.cls&&o.dict.isNone&&o.slots.isEmpty then(match o.data with
  |.dict es _=>some es.toList
  |_=>none)else none
 |none=>none
def X_{g:Addr}{l:List DictEntry}(e:Fu K g=some l):∃(o:Obj)(es:`Ξ)(ep:Nat),K.lookup g=some o/\5.8/\o.data=.dict es ep/\es.toList=l:=by
 unfold Fu at e;split at e
 .rename_i o ho
  by_cases hc:(ze "dict" o.cls&&o.dict.isNone&&o.slots.isEmpty)=true
  .rw[ay hc]at e;rw[f7,f7]at hc;split at e
   .rename_i es n hd
    cases e;exact⟨o,es,n,ho,⟨Z' hc.1.1,Option.isNone_iff_eq_none.mp hc.1.2,Array.isEmpty_iff.mp hc.2⟩,hd,rfl⟩
   .cases e
  .rw[aq hc]at e;cases e
 .cases e
def BH:List DictEntry->Option (`Θ)
 |[]=>some []
 |e::r=>match e.key with
  |.int i _=>if e.hash=hashInt i then(BH r).map fun q=>(Sum.inl i,e.val)::q else none
  |_=>none
section
variable{P:Program}{w:World}
def Z4:∀{l:List DictEntry}{kvs:`Θ},BH l=some kvs->Pairs (d7 P w) l kvs/\∀e∈l,∃k,(d7 P w).is k e.key=true/\e.hash=(d7 P w).hash k
 |[],kvs,q=>by
  cases q;exact⟨.nil,fun e he=>absurd he `Ç⟩
 |e::r,kvs,q=>by
  unfold BH at q;split at q
  .rename_i i t hk
   by_cases hh:e.hash=hashInt i
   .rw[ay hh]at q;obtain⟨q',h1,rfl⟩:=gc.mp q;obtain⟨p1,p2⟩:=Z4 h1;have hi:(d7 P w).is (Sum.inl i) e.key=true:=by rw[hk];exact İ i t
    refine⟨.cons hi rfl p1,`_n⟩;rcases bE.mp hx with rfl|hx
    .exact⟨_,hi,hh⟩
    .exact p2 x hx
   .rw[aq hh]at q;cases q
  .cases q
def ajX{g:Addr}{o:Obj}{es:`Ξ}{ep:Nat}{kvs:`Θ}(hx:5.8)(hd:0.75)(hi:BH es.toList=some kvs)(nd:(kvs.map (·.1)).Nodup)(h:Heap)(hg:h.get? g=some o):h.DictOf (d7 P w) g kvs:=by
 obtain⟨p1,p2⟩:=Z4 (P:=P) (w:=w) hi;exact⟨o,es,ep,hg,hx,hd,fun e he=>p2 e (Array.mem_toList_iff.mpr he),p1,nd⟩
abbrev E5:List Rel:=[.equal,.within,.holds,.overlap,.apart]
def Qh(r:Rel):r∈E5:=7.1
def FR(K:Frag)(g:Addr):Bool:=match Fu K g with
 |some l=>(match BH l with
  |some kvs=>decide ((kvs.map (·.1)).Nodup)&&E5.all fun r=>(match valueAt kvs (Sum.inl (bit r:Int))with
   |some (.ref t)=>iE K t 2.95
   |_=>false)
  |none=>false)
 |none=>false
def ak7{g:Addr}(e:FR K g=true)(r:Rel):∃t,Dr w P K g (bit r:Int) (.ref t)/\∀H,bF K H t 2.95:=by
 unfold FR at e;split at e
 .rename_i l hl
  obtain⟨o,es,ep,h1,h2,h3,h4⟩:=X_ hl;split at e
  .rename_i kvs hk
   rw[f7]at e;have h5:=f_.mp e.2 r (Qh r);split at h5
   .rename_i t ht
    exact⟨t,⟨o,kvs,_,h1,fun h hg=>ajX h2 h3 (by rw[h4];exact hk) (lP e.1) h hg,ht,rfl⟩,fun H=>Ik h5 H⟩
   .cases h5
  .cases e
 .cases e
def GF:List Value->Option (List aW)
 |[]=>some []
 |u::r=>match u with
  |.int i _=>(GF r).map fun q=>Sum.inl i::q
  |_=>none
def Z5:∀{us:`Ì}{ks:List aW},GF us=some ks->bx (ks.map kV) us
 |[],ks,e=>by
  cases e;exact .nil
 |u::r,ks,e=>by
  unfold GF at e;split at e
  .obtain⟨q,h1,rfl⟩:=gc.mp e;exact .cons `_o (Z5 h1)
  .cases e
def IY(P:`Ô)(w:World)(K:Frag):List DictEntry->Option (2.8)
 |[]=>some []
 |e::r=>match e.key with
  |.ref t=>(match IZ K t with
   |some us=>(match GF us with
    |some ks=>if e.hash=(1.2).hash ks then(IY P w K r).map fun q=>(ks,t,e.val)::q else none
    |none=>none)
   |none=>none)
  |_=>none
def afw:∀{l:List DictEntry}{xs:2.8},IY P w K l=some xs->l=xs.map (entryOfKey (1.2))/\
 ∀x∈xs,∃(ot:Obj)(n:Nat)(its:`Ì),K.lookup x.2.1=some ot/\ot.cls=.type "tuple"/\ot.data=.seq its.toArray n/\bx (x.1.map kV) its
 |[],xs,e=>by
  cases e;exact⟨rfl,fun x hx=>absurd hx `Ç⟩
 |en::r,xs,e=>by
  unfold IY at e;split at e
  .rename_i t hk
   split at e
   .rename_i us hu
    split at e
    .rename_i ks Bm
     by_cases hh:en.hash=(1.2).hash ks
     .rw[ay hh]at e;obtain⟨q,h1,rfl⟩:=gc.mp e;obtain⟨p1,p2⟩:=afw h1;obtain⟨o,its,n,g1,g2,g3,_,rfl⟩:=afx hu;refine⟨?_,`_n⟩
      .rw[cY,<-p1];congr 1;obtain⟨hs,ky,vl⟩:=en;cases hk;cases hh;rfl
      .rcases bE.mp hx with rfl|hx
       .exact⟨o,n,its.toList,g1,g2,by rw[g3],Z5 Bm⟩
       .exact p2 x hx
     .rw[aq hh]at e;cases e
    .cases e
   .cases e
  .cases e
def Fk(P:`Ô)(w:World)(K:Frag)(g:Addr):Bool:=match Fu K g with
 |some l=>(match IY P w K l with
  |some xs=>decide ((xs.map (·.1)).Nodup)&&E5.all fun r=>E5.all fun s=>decide (r=.equal)||decide (s=.equal)||(match atKey xs [Sum.inl (bit r:Int),Sum.inl (bit s:Int)]with
   |some p=>BI (nV 7.8) p.2
   |none=>false)
  |none=>false)
 |none=>false
def aju{g:Addr}(e:Fk P w K g=true)(r s:Rel)(hr:r≠.equal)(hs:s≠.equal):Dq w P K g 3.41 (nV 7.8):=by
 unfold Fk at e;split at e
 .rename_i l hl
  obtain⟨o,es,ep,h1,h2,h3,h4⟩:=X_ hl;split at e
  .rename_i xs hk
   rw[f7]at e;have h5:=f_.mp (f_.mp e.2 r (Qh r)) s (Qh s);rw[eN hr,eN hs,oj,oj]at h5;split at h5
   .rename_i p hp
    obtain⟨p1,p2⟩:=afw hk;exact⟨o,es,ep,xs,p,h1,h2,h3,by rw[h4];exact p1,p2,lP e.1,hp,ġ h5⟩
   .cases h5
  .cases e
 .cases e
def ajE{a:aj}(h1:FR K a.vt=true)(h2:iE K a.mw (0.54)=true)(h3:iE K a.oW (2.35)=true)(h4:Fk P w K a.vq=true):oq w P K a:=
 ⟨ak7 h1,Ik h2,Ik h3,fun r s hr hs=>aju h4 r s hr hs⟩
def fin{a:aj}{t1 t2 t3 fa:Addr}(X:K.In h)(G:7.2)(hfa:mg "answers"=some (.ref fa))(T1:oM mg h "told_that_stay" t1)(T2:oM mg h "records_that_stay" t2)(T3:oM mg h "narrowest_sure" t3)
 (n12:apart K "told_that_stay" "records_that_stay"=true) (n13:apart K "told_that_stay" "narrowest_sure"=true) (n23:apart K "records_that_stay" "narrowest_sure"=true)
 (T:`Ä) (h1:FR K a.vt=true) (h2:iE K a.mw (0.54)=true) (h3:iE K a.oW (2.35)=true) (h4:Fk P w K a.vq=true) (h5:iE K a.vp (Mm a)=true):
 ∃fd:FuncData,(∀(s:Shared)(us:`Ì),us.length=(["calls"]:List Str).length->BindsTo s fd ⟨us,[]⟩ ((["calls"]:List Str).zip us))/\(t1≠t2/\t1≠t3/\t2≠t3)/\
  ∀base:Heap,K.In base->base.Ns mainGlobals mg->l7 mg base->(∀c t,8.7 h c t->8.7 base c t)->f9 P w K mg base gY 11 fa fd ["calls"] (Ss K ⟨t1,t2,t3⟩):=by
 have e:=hfa.symm.trans T.aga;cases e;refine⟨a.MF,?_,⟨L_ X G T1 T2 n12,L_ X G T1 T3 n13,L_ X G T2 T3 n23⟩,fun base _ _ B hC=>?_⟩
 .obtain⟨oc,od,kV,doc,pm,an,dk,ct,kW,e,_,_⟩:=T.Uf.ex;rw[e];exact fun s us hu=>match us,hu with|[_],_=>.of_eq rfl
 .exact aip (t:=⟨t1,t2,t3⟩) T (ajE h1 h2 h3 h4) (Ik h5) (PY X T.J1 T.Do T1 hC) (PY X T.J0 T.Dn T2 hC) (PY X T.JX T.Dm T3 hC) B
end
def axc{H:Hp}{t:Addr}{pos:Pos}{q:Str}(e:H t=some `_K):dU H t pos q:=⟨#[],e,trivial,.inl rfl⟩
def axb{H H':Hp}{q:Addr}{xs:List V}(s:`Ć)(e:aG K H q xs):aG K H' q xs:=by
 rcases e with(e|⟨o,e⟩)|e
 .exact .inl (.inl (s _ _ e))
 .exact .inl (.inr ⟨o,s _ _ e⟩)
 .exact .inr e
end
end TL
open TL L2
open PySem PySem.W PyProof.Rows
set_option maxRecDepth 100000 in
set_option maxHeartbeats 0 in
theorem PySem.Challenge.cw_twolists_s01_answers_holds : PySem.Challenge.rw_twolists_s01_answers.Holds := by
 w_on;k_headS;(case hw=>exact⟨[.list [.int 6]],by decide+kernel,by decide+kernel⟩)
 k_fillS
 refine axk (r:=PySem.Challenge.rw_twolists_s01_answers) (k:=11) (CX:=gY) (ps:=["calls"]) (n1:="told_that_stay") (n2:="records_that_stay") (n3:="narrowest_sure") (sp:=fun K t1 t2 t3=>Ss K ⟨t1,t2,t3⟩) (by decide+kernel) rfl rfl ⟨rfl,by decide,by decide⟩ (fun w h Y=>PySem.W.kIn_of Y) (fun w=>by kernel_rfl) (by decide+kernel) (by decide+kernel) (by decide+kernel) ?F ?S (fun _ _ _ _ z=>z)
 case F=>
  intro w mg fa h t1 t2 t3 Y KX G hmg T1 T2 T3
  clear Y
  refine' axf "Row" KX G fun g1 c1 m1=>?_
  refine' axf "Checklist" KX G fun g2 c2 m2=>?_
  refine' axf "Ledger" KX G fun g3 c3 m3=>?_
  refine' axf "Ground" KX G fun g4 c4 m4=>?_
  refine' axf "World" KX G fun g5 c5 m5=>?_
  refine' axf "Demand" KX G fun g6 c6 m6=>?_
  refine' axf "Comparison" KX G fun g7 c7 m7=>?_
  refine' axf "Reader" KX G fun g8 c8 m8=>?_
  refine' axj "__init__" "Row.__init__" as9 c1 fun d9 F9 M9=>?_
  refine' axj "__init__" "Checklist.__init__" as4 c2 fun d10 F10 M10=>?_
  refine' axg "split_lines" atH KX G fun d11 F11 G11=>?_
  refine' axg "is_letter" ato KX G fun MC F12 G12=>?_
  refine' axg "end_of_blanks" ath KX G fun MD F13 G13=>?_
  refine' axg "end_of_letters" ati KX G fun d14 F14 G14=>?_
  refine' axg "read_row" atF KX G fun d15 F15 G15=>?_
  refine' axg "may_follow" atu KX G fun d16 F16 G16=>?_
  refine' axg "leading_rows" att KX G fun d17 F17 G17=>?_
  refine' axg "has_part" atm KX G fun d18 F18 G18=>?_
  refine' axg "text_refusal" atN KX G fun d19 F19 G19=>?_
  refine' axg "chains_of" atc KX G fun d20 F20 G20=>?_
  refine' axg "is_key" atn KX G fun d21 F21 G21=>?_
  refine' axj "__init__" "Ledger.__init__" as8 c3 fun d22 F22 M22=>?_
  refine' axj "refusal" "Ledger.refusal" acJ c3 fun ME F23 M23=>?_
  refine' axj "enter" "Ledger.enter" acG c3 fun d24 F24 M24=>?_
  refine' axj "end_force" "Ledger.end_force" acF c3 fun d25 F25 M25=>?_
  refine' axj "entries" "Ledger.entries" acH c3 fun d26 F26 M26=>?_
  refine' axj "entry_list" "Ledger.entry_list" acI c3 fun d27 F27 M27=>?_
  refine' axg "relations_in" atG KX G fun d28 F28 G28=>?_
  refine' axg "turn_relation" atP KX G fun d29 F29 G29=>?_
  refine' axg "turn_mask" atO KX G fun d30 F30 G30=>?_
  refine' axg "compose" atd KX G fun d31 F31 G31=>?_
  refine' axg "compose_with_mask" ate KX G fun d32 F32 G32=>?_
  refine' axg "lay_together" ats KX G fun d33 F33 G33=>?_
  refine' axg "composition_rows" atf KX G fun d34 F34 G34=>?_
  refine' axg "is_settled" atq KX G fun d35 F35 G35=>?_
  refine' axg "point_of" atB KX G fun d36 F36 G36=>?_
  refine' axg "points_of" atC KX G fun d37 F37 G37=>?_
  refine' axj "__init__" "Ground.__init__" as7 c4 fun d38 F38 M38=>?_
  refine' axj "recorded_spots" "Ground.recorded_spots" acE c4 fun d39 F39 M39=>?_
  refine' axj "pairs_of" "Ground.pairs_of" acD c4 fun d40 F40 M40=>?_
  refine' axg "without_spots" atU KX G fun d41 F41 G41=>?_
  refine' axg "spot_pairs" atJ KX G fun d42 F42 G42=>?_
  refine' axg "numbers_above" atA KX G fun d43 F43 G43=>?_
  refine' axg "extents_of" atj KX G fun d44 F44 G44=>?_
  refine' axg "first_mask" atk KX G fun d45 F45 G45=>?_
  refine' axg "add_first_rows" ata KX G fun d46 F46 G46=>?_
  refine' axg "keep_only" atr KX G fun d47 F47 G47=>?_
  refine' axg "take_away" atK KX G fun d48 F48 G48=>?_
  refine' axg "take_told" atM KX G fun d49 F49 G49=>?_
  refine' axg "take_recorded" atL KX G fun d50 F50 G50=>?_
  refine' axg "narrowed_mask" atz KX G fun d51 F51 G51=>?_
  refine' axg "narrow_once" atw KX G fun d52 F52 G52=>?_
  refine' axg "quick_table" atE KX G fun d53 F53 G53=>?_
  refine' axg "verdict_of_mask" atQ KX G fun d54 F54 G54=>?_
  refine' axg "verdict_of_spots" atR KX G fun d55 F55 G55=>?_
  refine' axg "narrowest_sure" mN KX G fun d56 F56 G56=>?_
  refine' axj "__init__" "World.__init__" as_ c5 fun d57 F57 M57=>?_
  refine' axj "__init__" "Demand.__init__" as6 c6 fun d58 F58 M58=>?_
  refine' axg "meets_all" atv KX G fun d59 F59 G59=>?_
  refine' axg "count_choices" atg KX G fun d60 F60 G60=>?_
  refine' axg "narrow_world" atx KX G fun d61 F61 G61=>?_
  refine' axg "first_worlds" atl KX G fun d62 F62 G62=>?_
  refine' axg "narrow_worlds" aty KX G fun d63 F63 G63=>?_
  refine' axg "standing_worlds" ac2 KX G fun d64 F64 G64=>?_
  refine' axg "all_spots" atb KX G fun d65 F65 G65=>?_
  refine' axg "is_possible" atp KX G fun d66 F66 G66=>?_
  refine' axg "possible_mask" atD KX G fun d67 F67 G67=>?_
  refine' axg "entries_that_stay" Ii KX G fun d68 F68 G68=>?_
  refine' axg "told_that_stay" n_ KX G fun d69 F69 G69=>?_
  refine' axg "records_that_stay" n9 KX G fun d70 F70 G70=>?_
  refine' axj "__init__" "Comparison.__init__" ack c7 fun d71 F71 M71=>?_
  refine' axj "side_list" "Comparison.side_list" acw c7 fun d72 F72 M72=>?_
  refine' axj "side_chains" "Comparison.side_chains" acv c7 fun d73 F73 M73=>?_
  refine' axj "lay_ground" "Comparison.lay_ground" acl c7 fun d74 F74 M74=>?_
  refine' axj "has_concept" "Comparison.has_concept" ach c7 fun d75 F75 M75=>?_
  refine' axj "has_concepts" "Comparison.has_concepts" aci c7 fun d76 F76 M76=>?_
  refine' axj "load" "Comparison.load" acm c7 fun d77 F77 M77=>?_
  refine' axj "show" "Comparison.show" acu c7 fun d78 F78 M78=>?_
  refine' axj "tell_refusal" "Comparison.tell_refusal" acy c7 fun d79 F79 M79=>?_
  refine' axj "tell" "Comparison.tell" acx c7 fun d80 F80 M80=>?_
  refine' axj "withdraw" "Comparison.withdraw" acB c7 fun d81 F81 M81=>?_
  refine' axj "record_refusal" "Comparison.record_refusal" act c7 fun d82 F82 M82=>?_
  refine' axj "record" "Comparison.record" acs c7 fun d83 F83 M83=>?_
  refine' axj "drop" "Comparison.drop" acf c7 fun d84 F84 M84=>?_
  refine' axj "whole_table" "Comparison.whole_table" acA c7 fun d85 F85 M85=>?_
  refine' axj "quick" "Comparison.quick" acr c7 fun d86 F86 M86=>?_
  refine' axj "has_too_many_choices" "Comparison.has_too_many_choices" acj c7 fun d87 F87 M87=>?_
  refine' axj "worlds" "Comparison.worlds" acC c7 fun d88 F88 M88=>?_
  refine' axj "masks_to" "Comparison.masks_to" acn c7 fun d89 F89 M89=>?_
  refine' axj "exact" "Comparison.exact" acg c7 fun d90 F90 M90=>?_
  refine' axj "matrix" "Comparison.matrix" aco c7 fun d91 F91 M91=>?_
  refine' axj "model" "Comparison.model" acp c7 fun d92 F92 M92=>?_
  refine' axj "conflict" "Comparison.conflict" ace c7 fun d93 F93 M93=>?_
  refine' axj "translation" "Comparison.translation" acz c7 fun d94 F94 M94=>?_
  refine' axj "placed" "Comparison.placed" acq c7 fun d95 F95 M95=>?_
  refine' axj "built" "Comparison.built" acd c7 fun d96 F96 M96=>?_
  refine' axj "__init__" "Reader.__init__" acL c8 fun d97 F97 M97=>?_
  refine' axj "at_end" "Reader.at_end" acK c8 fun d98 F98 M98=>?_
  refine' axj "next_number" "Reader.next_number" acM c8 fun d99 F99 M99=>?_
  refine' axj "next_row" "Reader.next_row" acN c8 fun d100 F100 M100=>?_
  refine' axg "ask_load" acS KX G fun d101 F101 G101=>?_
  refine' axg "ask_show" acY KX G fun d102 F102 G102=>?_
  refine' axg "ask_tell" acZ KX G fun d103 F103 G103=>?_
  refine' axg "ask_withdraw" ac1 KX G fun d104 F104 G104=>?_
  refine' axg "ask_record" acX KX G fun d105 F105 G105=>?_
  refine' axg "ask_drop" acQ KX G fun d106 F106 G106=>?_
  refine' axg "ask_quick" acW KX G fun d107 F107 G107=>?_
  refine' axg "ask_exact" acR KX G fun d108 F108 G108=>?_
  refine' axg "ask_matrix" acT KX G fun d109 F109 G109=>?_
  refine' axg "ask_model" acU KX G fun d110 F110 G110=>?_
  refine' axg "ask_conflict" acP KX G fun d111 F111 G111=>?_
  refine' axg "ask_translate" ac0 KX G fun d112 F112 G112=>?_
  refine' axg "ask_placed" acV KX G fun d113 F113 G113=>?_
  refine' axg "ask_built" acO KX G fun d114 F114 G114=>?_
  refine' axg "answers" Sk KX G fun d115 F115 G115=>?_
  refine' axd "depth" c1 fun v116=>?_
  refine' axd "name" c1 fun v117=>?_
  refine' axd "plus" c1 fun v118=>?_
  refine' axd "chains" c2 fun v119=>?_
  refine' axd "deepest" c2 fun v120=>?_
  refine' axd "text" c2 fun v121=>?_
  refine' axd "in_force" c3 fun v122=>?_
  refine' axd "most_in_all" c3 fun v123=>?_
  refine' axd "most_in_force" c3 fun v124=>?_
  refine' axd "used" c3 fun v125=>?_
  refine' axd "extents" c4 fun v126=>?_
  refine' axd "pairs" c4 fun v127=>?_
  refine' axd "whole" c4 fun v128=>?_
  refine' axd "needs" c5 fun v129=>?_
  refine' axd "spots" c5 fun v130=>?_
  refine' axd "barred" c6 fun v131=>?_
  refine' axd "needed" c6 fun v132=>?_
  refine' axd "checklists" c7 fun v133=>?_
  refine' axd "ground" c7 fun v134=>?_
  refine' axd "recorded" c7 fun v135=>?_
  refine' axd "told" c7 fun v136=>?_
  refine' axd "numbers" c8 fun v137=>?_
  refine' axd "place" c8 fun v138=>?_
  refine' axi "LINE_FEED" (10) KX G fun v139=>?_
  refine' axi "BLANK" (32) KX G fun v140=>?_
  refine' axi "PLUS" (43) KX G fun v141=>?_
  refine' axi "LONGEST_NAME" (20) KX G fun v142=>?_
  refine' axi "MOST_LINES" (8) KX G fun v143=>?_
  refine' axi "SIDE_STEP" (100) KX G fun v144=>?_
  refine' axi "LEAST_KEY" (1) KX G fun v145=>?_
  refine' axi "GREATEST_KEY" (1000000000) KX G fun v146=>?_
  refine' axi "EQUAL" (1) KX G fun v147=>?_
  refine' axi "WITHIN" (2) KX G fun v148=>?_
  refine' axi "HOLDS" (4) KX G fun v149=>?_
  refine' axi "OVERLAP" (8) KX G fun v150=>?_
  refine' axi "APART" (16) KX G fun v151=>?_
  refine' axi "EQUAL_OR_WITHIN" (3) KX G fun v152=>?_
  refine' axi "EQUAL_OR_HOLDS" (5) KX G fun v153=>?_
  refine' axi "ALL" (31) KX G fun v154=>?_
  refine' axi "IN_NONE" (-1) KX G fun v155=>?_
  refine' axi "SURE" (2) KX G fun v156=>?_
  refine' axi "MAYBE" (1) KX G fun v157=>?_
  refine' axi "NEVER" (0) KX G fun v158=>?_
  refine' axi "NO_CONCEPT" (-1) KX G fun v159=>?_
  refine' axi "MOST_TOLD_IN_FORCE" (20) KX G fun v160=>?_
  refine' axi "MOST_TOLD_IN_ALL" (60) KX G fun v161=>?_
  refine' axi "MOST_RECORDS_IN_FORCE" (10) KX G fun v162=>?_
  refine' axi "MOST_RECORDS_IN_ALL" (30) KX G fun v163=>?_
  refine' axi "MOST_CHOICES" (16) KX G fun v164=>?_
  refine' axh "RELATIONS" KX G fun v165=>?_
  refine' axh "COMPOSED" KX G fun v166=>?_
  refine' axh "FILLED" KX G fun v167=>?_
  refine' axh "SIDES" KX G fun v168=>?_
  refine' axh "CALLS" KX G fun v169=>?_
  refine' axe "all" KX G fun v170=>?_
  refine' axe "any" KX G fun v171=>?_
  refine' axe "dict" KX G fun v172=>?_
  refine' axe "enumerate" KX G fun v173=>?_
  refine' axe "len" KX G fun v174=>?_
  refine' axe "list" KX G fun v175=>?_
  refine' axe "max" KX G fun v176=>?_
  refine' axe "range" KX G fun v177=>?_
  refine' axe "sorted" KX G fun v178=>?_
  refine' axe "sum" KX G fun v179=>?_
  refine' axe "zip" KX G fun v180=>?_
  refine' fin KX G hmg T1 T2 T3 ?n12 ?n13 ?n23 (Txt.mk (a:=aj.mk _ _ _ _ _ _ _ _ _ _ _ _ _ _ _ _ _ _ _ _ _ _ _ _ _ _ _ _ _ _ _ _ _ _ _ _ _ _ _ _ _ _ _ _ _ _ _ _ _ _ _ _ _ _ _ _ _ _ _ _ _ _ _ _ _ _ _ _ _ _ _ _ _ _ _ _ _ _ _ _ _ _ _ _ _ _ _ _ _ _ _ _ _ _ _ _ _ _ _ _ _ _ _ _ _ _ _ d9 d10 d11 MC MD d14 d15 d16 d17 d18 d19 d20 d21 d22 ME d24 d25 d26 d27 d28 d29 d30 d31 d32 d33 d34 d35 d36 d37 d38 d39 d40 d41 d42 d43 d44 d45 d46 d47 d48 d49 d50 d51 d52 d53 d54 d55 d56 d57 d58 d59 d60 d61 d62 d63 d64 d65 d66 d67 d68 d69 d70 d71 d72 d73 d74 d75 d76 d77 d78 d79 d80 d81 d82 d83 d84 d85 d86 d87 d88 d89 d90 d91 d92 d93 d94 d95 d96 d97 d98 d99 d100 d101 d102 d103 d104 d105 d106 d107 d108 d109 d110 d111 d112 d113 d114 d115 _ _ _ _ _ _ _ _ _ _ _ _ _) F9 M9 F10 M10 F11 G11 F12 G12 F13 G13 F14 G14 F15 G15 F16 G16 F17 G17 F18 G18 F19 G19 F20 G20 F21 G21 F22 M22 F23 M23 F24 M24 F25 M25 F26 M26 F27 M27 F28 G28 F29 G29 F30 G30 F31 G31 F32 G32 F33 G33 F34 G34 F35 G35 F36 G36 F37 G37 F38 M38 F39 M39 F40 M40 F41 G41 F42 G42 F43 G43 F44 G44 F45 G45 F46 G46 F47 G47 F48 G48 F49 G49 F50 G50 F51 G51 F52 G52 F53 G53 F54 G54 F55 G55 F56 G56 F57 M57 F58 M58 F59 G59 F60 G60 F61 G61 F62 G62 F63 G63 F64 G64 F65 G65 F66 G66 F67 G67 F68 G68 F69 G69 F70 G70 F71 M71 F72 M72 F73 M73 F74 M74 F75 M75 F76 M76 F77 M77 F78 M78 F79 M79 F80 M80 F81 M81 F82 M82 F83 M83 F84 M84 F85 M85 F86 M86 F87 M87 F88 M88 F89 M89 F90 M90 F91 M91 F92 M92 F93 M93 F94 M94 F95 M95 F96 M96 F97 M97 F98 M98 F99 M99 F100 M100 F101 G101 F102 G102 F103 G103 F104 G104 F105 G105 F106 G106 F107 G107 F108 G108 F109 G109 F110 G110 F111 G111 F112 G112 F113 G113 F114 G114 F115 G115 c1 g1 m1 v116 v117 v118 c2 g2 m2 v119 v120 v121 c3 g3 m3 v122 v123 v124 v125 c4 g4 m4 v126 v127 v128 c5 g5 m5 v129 v130 c6 g6 m6 v131 v132 c7 g7 m7 v133 v134 v135 v136 c8 g8 m8 v137 v138 v139 v140 v141 v142 v143 v144 v145 v146 v147 v148 v149 v150 v151 v152 v153 v154 v155 v156 v157 v158 v159 v160 v161 v162 v163 v164 v165 v166 v167 v168 v169 v170 v171 v172 v173 v174 v175 v176 v177 v178 v179 v180) ?h1 ?h2 ?h3 ?h4 ?h5
  (case n12=>kernel_rfl)
  (case n13=>kernel_rfl)
  (case n23=>kernel_rfl)
  (case h1=>kernel_rfl)
  (case h2=>kernel_rfl)
  (case h3=>kernel_rfl)
  (case h4=>kernel_rfl)
  (case h5=>kernel_rfl)
 case S=>
  intro K t1 t2 t3 H0 H xs a MC MD ME hS h1 h2 h3 ZT hask hx
  cases hx with
  |cons g1 g2=>
   cases g2
   cases g1 with
   |ah hs ha=>
    have e:=amf a.1 _ ha
    subst e
    exact⟨_,a.1,rfl,axb hS hs,hask,MC,MD,ME,axc h1,axc h2,axc h3,fun r H' hr=>.ah (aG.of hr) (aj4 _)⟩
