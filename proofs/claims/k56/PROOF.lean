import PyProof.Rows.All
import Wide.All
import OpenK.AllK
import Wide.FinOn
import Lean
import PyProof.EqAt
import PyProof.EqKinds
import PyProof.TupleCall
import KE.KRevIter
import PySem.Challenge.RW_ringfell_k56_rounds
open List renaming length_map → Aq,length_append → As,size_toArray → Aw,map_append → AA,mem_singleton → AB,getElem?_eq_getElem → AD,getElem?_eq_some_iff → AG,mem_append → AI,getD_eq_getElem?_getD → AK,mem_cons_of_mem → AL,mem_cons_self → AM,mem_cons → AU,getElem?_map → AW,mem_of_getElem? → A0,append_assoc → A4,mem_map → A6,range → Ba,mem_append_right → Bb,map_cons → Bd,take_of_length_le → Bi,append_nil → Bj,length_cons → Bk,length_singleton → Bs,getElem?_toArray → Bv,mem_iff_getElem? → Bw,flatMap_cons → Bx,length_take → Bz,pairwise_map → BE,all_eq_true → BF,mem_range → BG,nodup_nil → BK,nodup_cons → BL,length_range → BN,mem_append_left → BO,not_mem_nil → BP,drop_sublist → BR,take_sublist → BZ,pairwise_append → B1,mem_filter → B6,length_drop → Ca,nodup_append → Cd,extract_eq_take_drop → Cj,filterMap_cons → Ck,mem_map_of_mem → Cm,getElem?_take → Cq,mem_of_mem_take → Ct,mem_flatMap → Cv,getElem?_append_right → Cw,getElem?_set_self → Cz,getElem?_append_left → CD,take_append_drop → CG,pairwise_singleton → CO,take_add_one → CS,perm_ext_iff_of_nodup → C0,pairwise_cons → C7,perm_append_comm → C8,getElem?_set_ne → De,nil_append → Dg,eq_nil_iff_forall_not_mem → Dk,length_reverse → Dp,getElem?_cons_succ → Dq,getElem_mem → Ds,getElem?_drop → Dy,getElem?_eq_none → DG,find?_cons → DH,any_cons → DK,map_take → DM,mem_of_mem_drop → DR,pairwise_iff_getElem → DT,replicate → DW,lookup_cons → DX,take_length → DY,reverse_append → D1,map_eq_nil_iff → D2,set_set → D5,idxOf_lt_length_iff → D8,mem_filterMap → Ec,getElem?_replicate → Ed,eraseIdx_cons_succ → Ef,filter_cons_of_pos → Ek,filter_cons_of_neg → Em,eraseIdxIfInBounds_toArray → Et,drop_zero → Ew,drop_append_of_le_length → EA,take_append_of_le_length → EB,nodup_range → ED,ext_getElem → EE,eq_nil_of_length_eq_zero → EF,length_nil → ES,getElem?_range → ET,range_succ → EV,getElem?_zip_eq_some → Fc,getElem?_eq_none_iff → Fd,take_zero → Fe,drop_left → Ff,flatten_cons → Fq,find?_range_eq_none → Fs,length_erase_of_mem → Fv,length_eq_zero_iff → FE,map_drop → FF,drop_eq_nil_of_le → FX,of_mem_zip → F3,length_replicate → F4,foldl_cons → Gb,eraseIdx_sublist → Gk,reverse_reverse → Gy,getElem_of_mem → GI,take_succ_cons → GL,zip_cons_cons → G3,map_inj_right → G7,reverse_cons → Hq,ext_getElem? → Hu,map_nil → HI,all_map → HM,perm_middle → HW,range'_succ → HZ,length_set → Ie,length_zip → Ih,drop_drop → Iy,take_succ → Iz,all_cons → IK,set_comm → IM,map_map → IS
open PySem renaming wpAny_bind → Ar,Value → Au,Shared → Ax,wpAny_pure → Ay,sizeLine → AH,Program → AN,wpAny → A7,mainGlobals → A9,model → Bf,World → Bh,Around → BA,starEach → BD,wpAny_newObj_type → BI,FuncData → BJ,bootBuiltins → BU,wpAny_holding → BV,wpAny_call_entry → BX,codeAny_builtin → B9,wpAny_callSpecial?_slot → Ce,compareOp → Cf,wpAny_mono → Cg,wpAny_truthy_bool → CT,mem_of_lookup → CV,wpAny_field → Dd,wpAny_passesOwn → Di,codeAny_mono → Dl,wpAny_typeOf → Dm,wpAny_rule → Du,wpAny_pyIter_tuple → DA,wpAny_execs_nil → DI,wpAny_loadPart_at → DQ,codeAny_call_builtin → DS,backTo → DV,wpAny_Call_Name_kw → En,plainId_quiet → Eo,richCompare_meets_room → Es,wpAny_forIn_list → EH,call_meets → EM,sizeLine_eq → EW,wpAny_letOwnedTupleGo_enum → E3,wpAny_setField_rec → E6,tupleKind_room_in1 → E7,rawInt → E8,wpAny_seqItems → Fi,wpAny_runValue → Fj,wpAny_pyIter_list → Fx,wpAny_sequenceKey → Fy,wpAny_pyIter_slot → Fz,intKind_is → FA,wpAny_newList → FK,codeAny → FN,wpAny_execs_cons → FQ,noFill_tuple_add → FR,wpAny_isInstance → FT,wpAny_askSetting → FU,wpAny_Call_method_late → F1,wpAny_isTrue_Compare1 → Gm,concat_meets → Gn,wpAny_eqIsQuiet_tuple → Gp,codeAny_of_tree → Gq,weight_type_call_type → Gr,wpAny_updateSeq → Gs,intItems → Gw,isSubtype_type → GD,wpAny_of_eq → GN,wpAny_setEntries_of → GP,holding → GQ,wpAny_standAt → Hg,seq_tuple_add → Hh,evalPart_none → Hj,wpAny_attempt → Hk,wpAny_eqBool_tuple → Hm,wpAny_Assign_Name → HG,wpAny_call → HH,seqIndex_neg → HN,seqIndex_of → Iq,wpAny_Name → IH,wpAny_load → II,numAt_eq → IP
open PySem.W renaming Frag → Av,nsIn → Bm,mg_none_of → BH,mg_of → BM,kia_one → Ci,hideAll_get → FL,cellsFrom_some → FV,kat_nil → Gd,callWith_K → GV,kitx_list → Hn,kitx_dict → Ho,looks_findIn → HQ
open PySem.Heap renaming get?_push_of_some → Az,lt_size → AQ,get?_push_size → AX,get?_update_other → B2,get?_update_self → Cn,size_push → C9,get?_update_ne → GH
open Nat renaming le_refl → AE,lt_of_lt_of_le → AO,ne_of_lt → A3,le_trans → A5,zero_le → Bl,lt_irrefl → B3,lt_succ_of_lt → Cb,zero_add → CH,mod_lt → CJ,le_add_right → CL,le_sub_one_of_lt → CN,lt_succ_self → C2,le_of_lt → C6,add_sub_cancel_left → Dn,lt_of_not_le → Dt,eq_zero_of_not_pos → Dw,ne_of_gt → DB,le_of_lt_succ → DN,add_le_add_left → DZ,succ_pos → D6,lt_of_le_of_lt → Eg,le_antisymm → Eh,le_succ_of_le → Eu,le_of_not_lt → Ey,sub_one_lt_of_lt → EJ,le_succ → EN,add_sub_cancel' → EU,min_self → E4,lt_of_succ_lt → Fo,succ_le_succ → FO,sub_zero → F8,le_of_sub_eq_zero → Ga,not_lt_zero → Ge,pow_le_pow_right → GA,lt_of_le_of_ne → G2,eq_zero_or_pos → G9,sub_pos_of_lt → Hr,le_of_succ_le → Ht,add_zero → HJ,pow_succ → HK,mul_comm → HL,min_le_right → HR,mul_mod → Ii,add_mod → Ij,div_add_mod → Im,mul_le_mul → IA,add_assoc → IL
open Array renaming length_toList → AF,getElem?_toList → AJ,getElem?_eq_getElem → A8,mem_toList_iff → Be,toList_append → Bp,size_map → BB,getD_eq_getD_getElem? → Cr,getElem?_eq_some_iff → Cy,toList_push → CB,toList_extract → CM,toList_reverse → Df,size_push → Dh,getElem?_eq_none → Dx,size_append → DL,toList_map → EC,toList_setIfInBounds → E1,perm_iff_toList_perm → E2,size_setIfInBounds → Fp,getElem?_replicate → Ft,append_assoc → GU,getElem?_map → G4,forIn_toList → G5,getElem_mem → Hw,toList_inj → HX
open PyProof.Rows renaming wpS_bind → AR,Keyed → AY,wpS_pure → AZ,arrOf → A2,pendingOf → Bc,SortSt → Bg,slot_tuple_getitem → Br,wpS_forRange → BS,wpS_mono → CF,wpS_modify → CU,callWith_type1 → DC,IntsAre → DJ,reverseSlice'_eq → EG,KeyOrd → EK,args_tuple_getitem → E5,slicePart_none → Fh,wpS_get → FJ,subscriptTail_builtinR → FZ,wpS_lift → Gv,getElem?_mirror_all → GO,tupleItemsOf_ → Hi,listUpdate_at → Hl,listItems_at → HP,size_push' → IJ
open PySem.Value renaming ref → AS,int → Cs,none → CC,type → Dv,isInt_shape → Fl
open Bool renaming false_ne_true → AV,false_eq_true → A1,and_eq_true → BC,not_true → Cc,eq_iff_iff → Co,false_and → E9,and_false → Fb,not_false → GB,false_or → G8,eq_false_iff → Hv
open PyProof.Rows.KeyOrd renaming kle_trans → Bn,kle_of_klt → B0,kle_refl → Cp,kle_antisymm → GF
open PySem.F renaming plainAttrs_list → Bo,slot_list_append → B4,type_list_append → B5,called_set → B8,slot_tuple_iterator_next → CZ,slot_enumerate_iter → DE,slot_enumerate_next → DF,plain_extend_loop → D3,args_tuple_add_2 → D4,slot_tuple_index → D9,slot_list_extend → Ea,type_list_extend → Eb,entry_tuple_add → Ee,slot_tuple_add → Ep,typeOf_object_class → Ex,args_tuple_iterator_next_1 → EL,entry_tuple_iterator_next → EO,type_tuple_index → Fw,args_enumerate_iter_1 → FD,slot_list_count → FI,args_list_eq_2 → FP,entry_enumerate_iter → FW,typeCall_set_1 → FY,entry_list_eq → Gf,attrBase_ValueError → Gg,slot_list_pop → Gh,type_list_pop → Gi,excBase_ValueError → Gz,slot_list_eq → GC,entry_extend_loop → GJ,slot_gs_get → He,entry_type_call → Hy,plain_list_iadd → Hz,entry_list_pop → HV,entry_set_init → HY,slot_list_pop → Ig,plain_set_new → Ik,slot_set_iter → Il
open Option.some renaming inj → Bq
open Int renaming toNat_natCast → BQ,emod_lt_of_pos → Dz,emod_nonneg → Ej,zero_add → Gj,natCast_nonneg → Hf,natCast_ediv → Ia,natCast_emod → Ib,natCast_mul → Io,natCast_add → Ip
open PySem.PassesOwn renaming never → BW,leaving → HF
open List.Perm renaming append_left → B7,append_right → CA,refl → Dc
open PySem.Around renaming under_plainId → Cu,under_plain → G6
open PySem.SeqAt.EqAt renaming int_int → CI,same → DD,bool_bool → Gx,int_str → GR,str_int → GS,str_str → GY,of_refs → G0
open Ne renaming symm → CK
open List.cons renaming inj → CP
open Iff renaming rfl → CQ
open PySem.Builtin.List renaming listExtendWith → CY,listLengthHint → EY,listSameRef → FC
open PySem.SeqAt renaming EqAt → C3,list_eq_lengthsAt → FH,notIn_listAt → GZ,in_tupleAt → HU
open PySem.Obj renaming mapSeq → C4,data_mapFields → G1
open PySem.Paired renaming length → C5,snoc → IW
open List.Nodup renaming length_le_of_subset → Dj
open PyProof.Rows.F renaming plain_set_update_loop → Dr,entry_set_update_loop → FG
open List.Sublist renaming refl → DP
open Classical renaming byContradiction → DU
open List.Pairwise renaming imp_of_mem → D7,imp → IX
open PySem.Code renaming quiet_builtin → Ei
open PySem.Calls renaming callWith_builtin → Er,evalArgs_plain → EI,Name_function_global → EZ,call_function_entry → Fg
open PySem.SeqAt.RcAt renaming lists → Ez,tuples → Fn
open PySem.Heap.SameBut renaming update → ER
open Option renaming isSome_iff_exists → Fm,isSome_map → Fu,map_some → F7,getD_none → HS
open Std.Legacy.Range renaming forIn_eq_forIn_range' → Gu
open PySem.SeqAt.RcNeAt renaming tuples → GK
open Prod renaming ext → GW
open PySem.Heap.IsSliceOf renaming new → GX
open PySem.StrLaws renaming seqIndex_nonneg → Ic
open PySem.EqMixed renaming eq_bool_str → Ir,eq_str_bool → Iu,ne_bool_str → Iv,ne_str_bool → Iw,eq_int_str → IC,eq_str_int → ID,ne_int_str → IE,ne_str_int → IG
open PySem.W.Looks renaming of_pure → IQ
open PySem.W.KatTups renaming cons → IT
open PySem.Moved renaming trans → IU
open PySem.Walks renaming tuple → IV
set_option Elab.async false
set_option linter.all false
set_option maxRecDepth 100000
namespace L2
open PySem PySem.Spec PyProof.Rows
abbrev Key:=Sum Int Str
def kP:Key->Au->Bool
 | .inl k,v=>Value.isInt k v
 | .inr x,v=>Value.isStrOf x v
def keyH (w:Bh):Key->Int
 | .inl k=>hashInt k
 | .inr x=>hashStr w x
theorem bz:∀{k:Key} {v:Au},kP k v=true->(∃i t,k=Sum.inl i/\v=Cs i t)\/(∃x t,k=Sum.inr x/\v=Value.str x t)
 | .inl i,v,h=>by
  obtain ⟨t,e⟩:=Fl (k:=i) (v:=v) h
  exact .inl ⟨i,t,rfl,e⟩
 | .inr x,v,h=>by
  obtain ⟨t,e⟩:=Value.isStrOf_shape (x:=x) (v:=v) h
  exact .inr ⟨x,t,rfl,e⟩
theorem rz (i:Int)(t:Tok):kP (.inl i) (.int i t)=true:=by simp[kP,Value.isInt]
theorem rA (x:Str)(t:Tok):kP (.inr x) (.str x t)=true:=by simp[kP,Value.isStrOf]
theorem x4 (a b:Int):decide ((Sum.inl a:Key)=Sum.inl b)=(a == b):=by
 by_cases e:a=b
 ·subst e;simp
 ·have h:¬ (Sum.inl a:Key)=Sum.inl b:=λq=>e (Sum.inl.inj q)
  rw[decide_eq_false h]
  exact (beq_eq_false_iff_ne.mpr e).symm
theorem x5 (a b:Str):decide ((Sum.inr a:Key)=Sum.inr b)=decide (a=b):=by
 by_cases e:a=b
 ·subst e;simp
 ·have h:¬ (Sum.inr a:Key)=Sum.inr b:=λq=>e (Sum.inr.inj q)
  rw[decide_eq_false h,decide_eq_false e]
theorem x6 (a:Int)(b:Str):decide ((Sum.inl a:Key)=Sum.inr b)=false:=decide_eq_false (λq=>nomatch q)
theorem x8 (a:Str)(b:Int):decide ((Sum.inr a:Key)=Sum.inl b)=false:=decide_eq_false (λq=>nomatch q)
def bL (prog:AN)(w:Bh):PySem.KeyKind prog w Key where
 is:=kP
 hash:=keyH w
 inj:=λv a b ha hb=>by
  rcases bz ha with ⟨i,t,rfl,rfl⟩ | ⟨x,t,rfl,rfl⟩
  ·rcases bz hb with ⟨j,u,rfl,e⟩ | ⟨y,u,rfl,e⟩
   ·injection e with e1 _;rw[e1]
   ·exact nomatch e
  ·rcases bz hb with ⟨j,u,rfl,e⟩ | ⟨y,u,rfl,e⟩
   ·exact nomatch e
   ·injection e with e1 _;rw[e1]
 byValue:=λk v h=>by
  rcases bz h with ⟨i,t,rfl,rfl⟩ | ⟨x,t,rfl,rfl⟩ <;> rfl
 pyHash:=λhv h=>by
  rcases bz hv with ⟨i,t,rfl,rfl⟩ | ⟨x,t,rfl,rfl⟩
  ·exact wpAny_pyHash_int h
  ·exact wpAny_pyHash_str h
 eqBool:=λhu hv h=>by
  rcases bz hu with ⟨i,t,rfl,rfl⟩ | ⟨x,t,rfl,rfl⟩
  ·rcases bz hv with ⟨j,u,rfl,rfl⟩ | ⟨y,u,rfl,rfl⟩
   ·rw[x4] at h;exact wpAny_eqBool_int h
   ·rw[x6] at h;exact GR i t y u _ _ _ _ h
  ·rcases bz hv with ⟨j,u,rfl,rfl⟩ | ⟨y,u,rfl,rfl⟩
   ·rw[x8] at h;exact GS x t j u _ _ _ _ h
   ·rw[x5] at h;exact wpAny_eqBool_str h
 «strs» := λk x t v h=>by
  rcases bz h with ⟨i,u,rfl,e⟩ | ⟨y,u,rfl,e⟩
  ·exact nomatch e
  ·injection e with e1 _
   subst e1
   cases v <;> rfl
theorem nq (prog:AN)(w:Bh)(i:Int)(t:Tok):(bL prog w).is (.inl i) (.int i t)=true:=rz i t
theorem nt (prog:AN)(w:Bh)(x:Str)(t:Tok):(bL prog w).is (.inr x) (.str x t)=true:=rA x t
open PySem PySem.Spec PyProof.Rows
inductive V where
 | non | bl (b:Bool) | int (i:Int) | str (x:Str) | byt (b:Array UInt8) | flt (b:UInt64) | ref (a:Addr) | ty (n:String)
 deriving DecidableEq
def RelV:V->Au->Prop
 | .non,u=>u=CC
 | .bl b,u=>u=Value.bool b
 | .int i,u=>∃t,u=Cs i t
 | .str x,u=>∃t,u=Value.str x t
 | .byt b,u=>∃t,u=Value.bytes b t
 | .flt b,u=>∃t,u=Value.float b t
 | .ref a,u=>u=AS a
 | .ty n,u=>u=Dv n
abbrev Vals:List V->List Au->Prop:=Paired RelV
theorem Vals.length {xs:List V}{us:List Au}(r:Vals xs us):xs.length=us.length:=C5 r
theorem Vals.get:∀{xs:List V} {us:List Au} {i:Nat} {x:V},Vals xs us->xs[i]? = some x->∃u,us[i]? = some u/\RelV x u
 | _,_,_,_,.nil,e=>by simp at e
 | _,_,0,_,.cons r _,e=>by simp at e;subst e;exact ⟨_,rfl,r⟩
 | _,_,i+1,x,.cons _ t,e=>by
  obtain ⟨u,h1,h2⟩:=Vals.get (i:=i) (x:=x) t (by simpa using e)
  exact ⟨u,by simpa using h1,h2⟩
theorem Vals.set {x:V}{u:Au}(r:RelV x u):∀{xs:List V} {us:List Au} (i:Nat),Vals xs us->Vals (xs.set i x) (us.set i u)
 | _,_,_,.nil =>.nil
 | _,_,0,.cons _ t =>.cons r t
 | _,_,i+1,.cons q t =>.cons q (Vals.set r i t)
theorem Vals.append:∀{xs ys:List V} {us ws:List Au},Vals xs us->Vals ys ws->Vals (xs++ys) (us++ws)
 | _,_,_,_,.nil,s=>s
 | _,_,_,_,.cons r t,s =>.cons r (Vals.append t s)
theorem Vals.take:∀{xs:List V} {us:List Au} (n:Nat),Vals xs us->Vals (xs.take n) (us.take n)
 | _,_,0,_ =>.nil
 | _,_,_+1,.nil =>.nil
 | _,_,n+1,.cons r t =>.cons r (Vals.take n t)
theorem Vals.drop:∀{xs:List V} {us:List Au} (n:Nat),Vals xs us->Vals (xs.drop n) (us.drop n)
 | _,_,0,r=>r
 | _,_,_+1,.nil =>.nil
 | _,_,n+1,.cons _ t=>Vals.drop n t
def oQ:Option V->Option Au->Prop
 | some v,some u=>RelV v u
 | none,none=>True
 | _,_=>False
def KV {κ:Type}:List (κ×V)->List (κ×Au)->Prop:=Paired λ(p:κ×V) (q:κ×Au)=>p.1=q.1/\RelV p.2 q.2
def kV:Key->V
 | .inl i =>.int i
 | .inr x =>.str x
inductive HO where
  | lst (xs:List V)
  | tup (xs:List V)
  | dK (kvs:List (Key×V)) | dT (kvs:List (List Key×V))
  | set (S:Int->Bool) (n:Nat)
  | ins (C dx:Addr) (fs:List (Str×V))
  | own (x:Addr)
  | xd (fs:List (Str×V))
  | met (f x:Addr)
  | rng (lo hi:Int)
  | frz (o:Obj) (u:HO)
  | tbl (ps:Array Au)
  | ext (φ:Heap->Prop)
abbrev Hp:=Addr->Option HO
def upd (H:Hp)(a:Addr)(o:HO):Hp:=λb=>if b=a then some o else H b
theorem af {H:Hp}{a:Addr}{o:HO}:upd H a o a=some o:=by unfold upd;rw[if_pos rfl]
theorem aq {H:Hp}{a b:Addr}{o:HO}(h:b≠a):upd H a o b=H b:=by unfold upd;rw[if_neg h]
theorem eL {H:Hp}{a b:Addr}{o u:HO}(h:H a=some o)(h':H b=some u)(d:o≠u):a≠b:=by
 intro e;subst e;rw[h] at h';exact d (Bq h')
theorem av {H:Hp}{a b:Addr}{o:HO}(h:H a=some o)(h':H b=none):a≠b:=by
 intro e;subst e;rw[h] at h';cases h'
def dv (h:Heap)(a:Addr)(items:Array Au):Prop:=∃o,h.get? a=some o/\(o.cls = .type "tuple" /\ o.dict=none)/\∃n,o.data = .seq items n
theorem dv.tup {h:Heap}{a:Addr}{items:Array Au}(x:dv h a items):IsTup h a items:=let ⟨o,e,c,n,d⟩:=x;⟨o,e,c.1,n,d⟩
theorem dv.new (h:Heap)(items:Array Au):dv (h.push { cls :=.type "tuple",data :=.seq items }) h.objs.size items:=⟨_,AX _ rfl,⟨rfl,rfl⟩,_,rfl⟩
section
variable  (P:AN)(w:Bh)
def aZ (H:Hp)(h:Heap)(a:Addr):HO->Prop
 | .lst xs=>xs.length<=AH/\∃(its:List Au) (n:Nat),Vals xs its/\h.get? a=some { cls :=.type "list",data :=.seq its.toArray n }
 | .tup xs=>xs.length<=AH/\∃its:List Au,Vals xs its/\dv h a its.toArray
 | .dK kvs=>kvs.length<=AH/\(a == sysModules)=false/\∃vs,KV kvs vs/\h.DictOf (bL P w) a vs
 | .dT kvs=>kvs.length<=AH/\(a == sysModules)=false/\∃xs:List (List Key×Addr×Au),
   Paired (λ(p:List Key×V) (q:List Key×Addr×Au)=>p.1=q.1/\H q.2.1=some (.tup (p.1.map kV))/\RelV p.2 q.2.2) kvs xs ∧
   ∃o es ep,h.get? a=some o/\o.ExactDict/\o.data = .dict es ep/\es.toList=xs.map (entryOfKey (tupleKind (bL P w)))/\(xs.map (·.1)).Nodup
 | .set S n=>h.SetOf (intKind P w) a S n
 | .ins C dx fs=>H dx=some (.own a)/\fs.length<=1000/\dx≠a/\h.get? a=some (PySem.W.instObj C dx) ∧
   ∃mA,h.Ns1 dx mA/\(∀f,oQ (fs.lookup f) (mA f))/\PySem.Within mA (fs.map (·.1))
 | .own _=>∃o,h.get? a=some o
 | .xd fs=>∃mA,h.Ns1 a mA/\∀f,oQ (fs.lookup f) (mA f)
 | .rng lo hi=>∃t u v,h.get? a=some { cls :=.type "range",data :=.fields #[.int lo t,.int hi u,.int 1 v] }
 | .frz o u=>h.get? a=some o/\aZ H h a u
 | .tbl ps=>h.get? a=some { cls :=.none,data :=.fields ps }
 | .met f x=>h.get? a=some (PySem.W.methodObj (.ref f) (.ref x))
 | .ext φ=>φ h/\(∃o,h.get? a=some o)/\∀h1 h2:Heap, φ h1->(∀o,h1.get? a=some o->h2.get? a=some o) -> φ h2
def HOk (H:Hp)(h:Heap):Prop:=∀a o,H a=some o->aZ P w H h a o
end
section
variable  {P:AN}{w:Bh}{H H':Hp}{h h':Heap}{a:Addr}{o:HO}
theorem aZ.lt (x:aZ P w H h a o):a<h.objs.size:=by
 cases o with
 | lst xs=>obtain ⟨_,_,_,_,e⟩:=x;exact AQ e
 | tup xs=>obtain ⟨_,_,_,p⟩:=x;exact (dv.tup p).lt
 | dK kvs=>obtain ⟨_,_,_,_,o,_,_,e,_⟩:=x;exact AQ e
 | dT kvs=>obtain ⟨_,_,_,_,o,_,_,e,_⟩:=x;exact AQ e
 | set S n=>obtain ⟨o,_,_,_,e,_⟩:=x;exact AQ e
 | ins C dx fs=>obtain ⟨_,_,_,e,_⟩:=x;exact AQ e
 | own y=>obtain ⟨_,e⟩:=x;exact AQ e
 | xd fs=>obtain ⟨_,⟨_,_,_,e,_⟩,_⟩:=x;exact AQ e
 | rng lo hi=>obtain ⟨_,_,_,e⟩:=x;exact AQ e
 | frz ob u=>obtain ⟨e,_⟩:=x;exact AQ e
 | tbl ps=>exact AQ (show h.get? a=some _ from x)
 | met f y=>exact AQ (show h.get? a=some _ from x)
 | ext φ=>obtain ⟨_,⟨_,e⟩,_⟩:=x;exact AQ e
theorem Paired.x9 {α β:Type}{F G:α -> β -> Prop}:∀{l₁:List α} {l₂:List β},Paired F l₁ l₂->(∀a b,F a b->G a b)->Paired G l₁ l₂
 | _,_,.nil,_ =>.nil
 | _,_,.cons r t,f =>.cons (f _ _ r) (Paired.x9 t f)
theorem aZ.stay (x:aZ P w H h a o)(k:∀b u,(b=a\/H b=some (.own a))->h.get? b=some u->h'.get? b=some u)
  (ho:∀b,H b=some (.own a)->H' b=some (.own a)) (ht:∀b xs,H b=some (.tup xs)->H' b=some (.tup xs)):aZ P w H' h' a o:=by
 induction o with
 | lst xs=>obtain ⟨z,its,n,r,e⟩:=x;exact ⟨z,its,n,r,k _ _ (.inl rfl) e⟩
 | tup xs=>obtain ⟨z,its,r,ob,e,c⟩:=x;exact ⟨z,its,r,ob,k _ _ (.inl rfl) e,c⟩
 | dK kvs=>obtain ⟨z,y,vs,r,ob,es,ep,e,c⟩:=x;exact ⟨z,y,vs,r,ob,es,ep,k _ _ (.inl rfl) e,c⟩
 | dT kvs =>
  obtain ⟨z,y,xs,r,ob,es,ep,e,c⟩:=x
  exact ⟨z,y,xs,Paired.x9 r λp q z=>⟨z.1,ht _ _ z.2.1,z.2.2⟩,ob,es,ep,k _ _ (.inl rfl) e,c⟩
 | set S n=>obtain ⟨ob,es,ep,t,e,c⟩:=x;exact ⟨ob,es,ep,t,k _ _ (.inl rfl) e,c⟩
 | ins C dx fs =>
  obtain ⟨d,z,ne,e,mA,⟨od,es,ep,e2,c⟩,r⟩:=x
  exact ⟨ho _ d,z,ne,k _ _ (.inl rfl) e,mA,⟨od,es,ep,k _ _ (.inr d) e2,c⟩,r⟩
 | own y=>obtain ⟨ob,e⟩:=x;exact ⟨ob,k _ _ (.inl rfl) e⟩
 | xd fs=>obtain ⟨mA,⟨od,es,ep,e,c⟩,r⟩:=x;exact ⟨mA,⟨od,es,ep,k _ _ (.inl rfl) e,c⟩,r⟩
 | rng lo hi=>obtain ⟨t,u,v,e⟩:=x;exact ⟨t,u,v,k _ _ (.inl rfl) e⟩
 | frz ob u ih=>obtain ⟨e,q⟩:=x;exact ⟨k _ _ (.inl rfl) e,ih q⟩
 | tbl ps =>
  have e:h.get? a=some { cls :=.none,data :=.fields ps }:=x
  show h'.get? a=some { cls :=.none,data :=.fields ps }
  exact k a _ (.inl rfl) e
 | met f y =>
  have e:h.get? a=some (PySem.W.methodObj (.ref f) (.ref y)):=x
  show h'.get? a=some (PySem.W.methodObj (.ref f) (.ref y))
  exact k a _ (.inl rfl) e
 | ext φ=>obtain ⟨p,⟨o,e⟩,st⟩:=x;exact ⟨st _ _ p λo q=>k _ _ (.inl rfl) q,⟨o,k _ _ (.inl rfl) e⟩,st⟩
theorem HOk.lt (x:HOk P w H h)(e:H a=some o):a<h.objs.size:=(x a o e).lt
theorem HOk.fresh (x:HOk P w H h)(e:h.objs.size<=a):H a=none:=by
 cases q:H a with
 | none=>rfl
 | some u=>exact absurd (AO (x.lt q) e) (B3 _)
theorem HOk.kept (x:HOk P w H h)(k:∀b u,h.get? b=some u->h'.get? b=some u):HOk P w H h':=λa o e =>
 (x a o e).stay (λb u _ q=>k b u q) (λ_ q=>q) λ_ _ q=>q
theorem HOk.laid (x:HOk P w H h)(k:∀b u,h.get? b=some u->h'.get? b=some u)(hp:h.objs.size<=a)(new:aZ P w (upd H a o) h' a o):HOk P w (upd H a o) h':=λb u e=>by
 have hn:=x.fresh hp
 by_cases hb:b=a
 ·subst hb;rw[af] at e;cases e;exact new
 ·rw[aq hb] at e
  exact (x b u e).stay (λc v _ q=>k c v q) (λc q=>by rw[aq (av q hn)];exact q) λc xs q=>by rw[aq (av q hn)];exact q
end
def Rd (H:Hp)(a:Addr)(u:HO):Prop:=H a=some u\/∃o,H a=some (.frz o u)
theorem Rd.ok {P:AN}{w:Bh}{H:Hp}{h:Heap}{a:Addr}{u:HO}(r:Rd H a u)(x:HOk P w H h):aZ P w H h a u:=by
 rcases r with r | ⟨o,r⟩
 ·exact x a u r
 ·obtain ⟨_,q⟩:=x a _ r
  exact q
def Mut:Option HO->Prop
 | some (.lst _)=>True
 | some (.dK _)=>True
 | some (.dT _)=>True
 | some (.set _ _)=>True
 | some (.ins _ _ _)=>True
 | some (.ext _)=>True
 | _=>False
section
variable  {P:AN}{w:Bh}{H:Hp}{h h':Heap}{x e:Addr}{o':HO}
theorem HOk.write (ok:HOk P w H h)(mu:Mut (H x))(he:e=x\/H e=some (.own x))(k:∀b u,b≠e->h.get? b=some u->h'.get? b=some u)(heo:∃u,h'.get? e=some u)
  (new:aZ P w (upd H x o') h' x o'):HOk P w (upd H x o') h':=λb u q=>by
 have nown:∀c y,H c=some (.own y)->c≠x:=λc y r z=>by subst z;rw[r] at mu;exact mu
 have ntup:∀c xs,H c=some (.tup xs)->c≠x:=λc xs r z=>by subst z;rw[r] at mu;exact mu
 by_cases hb:b=x
 ·subst hb;rw[af] at q;cases q;exact new
 ·rw[aq hb] at q
  by_cases hbe:b=e
  ·have q':H b=some (.own x):=by
    rcases he with z | z
    ·exact absurd (hbe.trans z) hb
    ·rw[hbe];exact z
   rw[q] at q';cases q'
   obtain ⟨v,hv⟩:=heo
   exact ⟨v,by rw[hbe];exact hv⟩
  ·refine (ok b u q).stay (λc v hc r=>k c v ?_ r) (λc r=>by rw[aq (nown c b r)];exact r) λc xs r=>by rw[aq (ntup c xs r)];exact r
   rcases hc with rfl | hc
   ·exact hbe
   ·rintro rfl
    rcases he with z | z
    ·exact nown c b hc z
    ·rw[hc] at z;cases z;exact hb rfl
end
structure Un (fs ex:List Addr)(H H':Hp)(h h':Heap):Prop where
 keep:∀b o,h.get? b=some o->H b=none->b∉fs->b∉ex->h'.get? b=some o
 slot:∀b o,h.get? b=some o->H b=none->b∈fs->b∉ex->∃sl,h'.get? b=some { o with slots:=sl }
 free:∀b o,h.get? b=some o->H b=none->b∉ex->H' b=none
 there:∀b o,h.get? b=some o->b∉ex->∃o',h'.get? b=some o'
 tups:∀b xs,H b=some (.tup xs)->H' b=some (.tup xs)
 frzs:∀b o u,H b=some (.frz o u)->H' b=some (.frz o u)
 tbls:∀b ps,H b=some (.tbl ps)->∃more,H' b=some (.tbl (ps++more))
section
variable  {fs fs' ex ex':List Addr}{H H1 H2:Hp}{h h1 h2 h':Heap}{a x e:Addr}{o:HO}
theorem Un.any (u:Un fs ex H H1 h h1){b:Addr}{ob:Obj}(q:h.get? b=some ob)(n:H b=none)(hx:b∉ex):∃sl,h1.get? b=some { ob with slots:=sl }:=by
 by_cases hb:b∈fs
 ·exact u.slot b ob q n hb hx
 ·exact ⟨ob.slots,u.keep b ob q n hb hx⟩
theorem Un.kept (k:∀b u,h.get? b=some u->h'.get? b=some u):Un fs ex H H h h' :=
 ⟨λb ob q _ _ _=>k b ob q,λb ob q _ _ _=>⟨ob.slots,k b ob q⟩,λ_ _ _ n _=>n,λb ob q _=>⟨ob,k b ob q⟩,λ_ _ q=>q,λ_ _ _ q=>q,λ_ ps q=>⟨#[],by rw[q];simp⟩⟩
theorem Un.refl:Un fs ex H H h h:=Un.kept λ_ _ q=>q
theorem Un.laid (k:∀b u,h.get? b=some u->h'.get? b=some u)(hp:h.objs.size<=a)(hn:H a=none):Un fs ex H (upd H a o) h h' where
 keep:=λb u q _ _ _=>k b u q
 slot:=λb u q _ _ _=>⟨u.slots,k b u q⟩
 free:=λb u q n _=>by rw[aq (A3 (AO (AQ q) hp))];exact n
 there:=λb u q _=>⟨u,k b u q⟩
 tups:=λb xs q=>by rw[aq (av q hn)];exact q
 frzs:=λb u xs q=>by rw[aq (av q hn)];exact q
 tbls:=λb ps q=>⟨#[],by rw[aq (av q hn),q];simp⟩
theorem Un.write (mu:Mut (H x))(he:e=x\/H e=some (.own x))(k:∀b u,b≠e->h.get? b=some u->h'.get? b=some u)(heo:∃u,h'.get? e=some u):Un fs ex H (upd H x o) h h':=by
 have hx:∀b,H b=none->b≠x:=λb n z=>by subst z;rw[n] at mu;exact mu
 have hb:∀b,H b=none->b≠e:=λb n z=>by
  subst z
  rcases he with r | r
  ·exact hx b n r
  ·rw[n] at r;cases r
 have hm:∀b u,H b=some u->¬ Mut (some u)->b≠x:=λb u q nm z=>by subst z;rw[q] at mu;exact nm mu
 refine ⟨λb u q n _ _=>k b u (hb b n) q,λb u q n _ _=>⟨u.slots,k b u (hb b n) q⟩,λb u q n _=>by rw[aq (hx b n)];exact n,λb u q _ =>?_,
  λb xs q=>by rw[aq (hm b _ q λz=>z)];exact q,λb u xs q=>by rw[aq (hm b _ q λz=>z)];exact q,λb ps q=>⟨#[],by rw[aq (hm b _ q λz=>z),q];simp⟩⟩
 by_cases hbe:b=e
 ·subst hbe;exact heo
 ·exact ⟨u,k b u hbe q⟩
end
def trk (h:Heap)(H:Hp):List Addr:=(Ba h.objs.size).filter λa=>(H a).isSome
def me (h:Heap)(H:Hp):Heap:=PySem.W.hideAll h (trk h H)
theorem rB (h:Heap)(H:Hp):(me h H).objs.size=h.objs.size:=PySem.W.hideAll_size _ _
theorem tI {h:Heap}{H:Hp}{b:Addr}{o:Obj}(e:h.get? b=some o)(n:H b=none):(me h H).get? b=some o :=
 PySem.W.hideAll_get _ e λhm=>by
  have q:(H b).isSome=true:=(B6.mp hm).2
  rw[n] at q;simp at q
theorem vO {h:Heap}{H:Hp}{b:Addr}{o:Obj}(e:(me h H).get? b=some o):h.get? b=some o/\H b=none:=by
 have e':h.get? b=some o:=PySem.W.of_hideAll (trk h H) e
 refine ⟨e',?_⟩
 cases q:H b with
 | none=>rfl
 | some x =>
  have hm:b∈trk h H:=B6.mpr ⟨BG.mpr (AQ e'),by simp[q]⟩
  have z:(me h H).get? b=none:=PySem.W.hideAll_none (trk h H) hm
  rw[z] at e;cases e
def vP (g h:Heap)(L:Addr):List (Addr×Obj):=(Ba h.objs.size).filterMap λa=>if a=L\/(g.get? a).isSome=true then none else (h.get? a).map λo=>(a,o)
def rest (g h:Heap)(L d:Addr):List (Addr×Obj):=(vP g h L).filter λp=>decide (p.1≠d)
open PySem PySem.Spec PyProof.Rows
structure Mod (K:Av)(mg:Str->Option Au)(base:Heap):Prop where
 kin:K.In base
 glob:base.Ns A9 mg
 blt:∃mb,base.Ns builtinsNs mb/\∀x:Str,x ≠ "__name__" -> mb x=BU x
 nolimit:base.NoLimit
structure Cx where
 prog:AN
 w:Bh
 K:Av
 mg:Str->Option Au
 base:Heap
 A:BA
 N:List Str
 s₀:Ax
 H₀:Hp
 env:Env
 outer:List Env
 stack:List Env
 ex:List Addr
 fn:Str->Bool
 calm:Bool
 pn:List (Addr×Obj)
 xe:Au->Ax->Prop
def frs (l:List Env):List Addr:=l.filterMap (·.frame)
abbrev Cx.fs (X:Cx):List Addr:=frs X.outer
def Vis (sc:Scope)(x:Str):Prop:=sc.names.lookup x=some .local\/sc.names.lookup x=some .cell\/sc.names.lookup x=some .free
def Loc (sc:Scope)(x:Str):Prop:=sc.names.lookup x=some .local\/sc.names.lookup x=some .cell
def Look (env:Env)(h:Heap)(m:Str->Option Au)(x:Str)(u:Au):Prop :=
 (env.kindOf x=some .local/\m x=some u)\/((env.kindOf x=some .cell\/env.kindOf x=some .free)/\∃c,env.cells.lookup x=some c/\h.IsCell c (some u))
structure Cx.Ok (X:Cx):Prop where
 mod:Mod X.K X.mg X.base
 kind:X.env.scope.kind = .function
 glob:X.env.globals=A9
 blt:X.env.builtins=builtinsNs
 above:X.s₀.heap.objs.size<=X.env.locals
 inj:∀x y c,X.env.cells.lookup x=some c->X.env.cells.lookup y=some c->x=y
 has:∀x,(X.env.kindOf x=some .cell\/X.env.kindOf x=some .free)->∃c,X.env.cells.lookup x=some c
 cab:∀x c,X.fn x=true->X.env.cells.lookup x=some c->X.s₀.heap.objs.size<=c
 hd:X.calm=true->X.A.handled=none
 frames:X.A.frames=some X.stack
 stk:X.stack=X.outer\/(X.stack=X.env :: X.outer/\X.env.frame=some X.env.locals)
 exf:∀b∈X.ex,b≠X.env.locals/\∀x c,X.env.cells.lookup x=some c->c≠b
 bs:∀b o,X.base.get? b=some o->X.s₀.heap.get? b=some o/\X.H₀ b=none
 bsz:X.base.objs.size<=X.s₀.heap.objs.size
 noex:∀b o,X.base.get? b=some o->b∉X.ex
 exfs:∀b∈X.ex,b∉X.fs
 funs:X.s₀.heap.FunFrames X.base X.outer
 frf:∀b∈X.fs,X.H₀ b=none
structure Inv (X:Cx)(pins:List (Addr×Obj))(σ:List (Option V))(H:Hp)(s:Ax):Prop where
 ok:X.Ok
 os:s.os=X.s₀.os
 bare:AllBare s.gens
 base:Un X.fs X.ex X.H₀ H X.s₀.heap s.heap
 loc:∃m,s.heap.Ns X.env.locals m/\∀(i:Nat) (x:Str) (v:V),X.N[i]? = some x->σ[i]? = some (some v)->Vis X.env.scope x->∃u,RelV v u/\Look X.env s.heap m x u
 cell:∀x c,X.env.cells.lookup x=some c->∃v,s.heap.IsCell c v
 free:H X.env.locals=none
 freeC:∀x c,X.env.cells.lookup x=some c->H c=none
 pin:∀p∈X.pn++pins,s.heap.get? p.1=some p.2/\H p.1=none/\p.1≠X.env.locals/\p.1∉X.fs/\∀v,p.2.data ≠ .cell v
 hok:HOk X.prog X.w H s.heap
 len:σ.length=X.N.length
section
variable  {X:Cx}{pins:List (Addr×Obj)}{σ:List (Option V)}{H H':Hp}{s:Ax}{h':Heap}
theorem Cx.Ok.nofr (ok:X.Ok){b:Addr}{o:Obj}(e:X.base.get? b=some o):b∉X.fs:=λhb=>by
 have:=(ok.funs.mem hb).1
 rw[e] at this;cases this
theorem Inv.bs (I:Inv X pins σ H s):∀b o,X.base.get? b=some o->s.heap.get? b=some o/\H b=none:=λb o e =>
 ⟨I.base.keep b o (I.ok.bs b o e).1 (I.ok.bs b o e).2 (I.ok.nofr e) (I.ok.noex b o e),I.base.free b o (I.ok.bs b o e).1 (I.ok.bs b o e).2 (I.ok.noex b o e)⟩
theorem Inv.bk (I:Inv X pins σ H s):∀b o,X.base.get? b=some o->s.heap.get? b=some o:=λb o e=>(I.bs b o e).1
theorem Inv.mod (I:Inv X pins σ H s):Mod X.K X.mg X.base:=I.ok.mod
theorem Inv.kIn (I:Inv X pins σ H s):X.K.In s.heap:=I.ok.mod.kin.keeps I.bk
theorem Inv.lt (I:Inv X pins σ H s):X.env.locals<s.heap.objs.size:=let ⟨_,hn,_⟩:=I.loc;hn.lt
theorem Inv.sz (I:Inv X pins σ H s):X.s₀.heap.objs.size<=s.heap.objs.size:=A5 I.ok.above (C6 I.lt)
theorem Inv.yb (I:Inv X pins σ H s){a:Addr}(h:s.heap.objs.size<=a):a∉X.fs:=λhb=>by
 obtain ⟨_,o,ho,_⟩:=I.ok.funs.mem hb
 exact absurd (AO (AQ ho) (A5 I.sz h)) (B3 _)
theorem Inv.cne (I:Inv X pins σ H s):∀x c,X.env.cells.lookup x=some c->c≠X.env.locals:=λx c e z=>by
 obtain ⟨v,o,ho,hd⟩:=I.cell x c e
 obtain ⟨m,⟨o',es,ep,ho',hd',_⟩,_⟩:=I.loc
 rw[z,ho'] at ho;cases ho;rw[hd'] at hd;cases hd
theorem Inv.funs (I:Inv X pins σ H s):s.heap.FunFrames X.base X.outer:=by
 have all:∀(l:List Env),(∀b∈frs l,b∈X.fs)->X.s₀.heap.FunFrames X.base l->s.heap.FunFrames X.base l:=by
  intro l
  induction l with
  | nil=>intro _ _;trivial
  | cons env r ih =>
   intro hs hl
   obtain ⟨hk,⟨L,o,hf,hn,ho,hd⟩,hr⟩:=hl
   have hL:L∈X.fs:=hs L (by unfold frs;rw[Ck,hf];exact AM)
   obtain ⟨sl,e⟩:=I.base.slot L o ho (I.ok.frf L hL) hL λz=>I.ok.exfs L z hL
   exact ⟨hk,⟨L,_,hf,hn,e,hd⟩,ih (λb hb=>hs b (by unfold frs;rw[Ck,hf];exact AL _ hb)) hr⟩
 exact all X.outer (λ_ hb=>hb) I.ok.funs
theorem Inv.stack (I:Inv X pins σ H s):s.heap.FunFrames X.base X.stack:=by
 rcases I.ok.stk with e | ⟨e,hf⟩
 ·rw[e];exact I.funs
 ·rw[e]
  obtain ⟨m,hn,_⟩:=I.loc
  refine .cons (by rw[I.ok.kind];decide) hf hn ?_ I.funs
  exact Heap.get?_none_of_le (A5 I.ok.bsz I.ok.above)
theorem Inv.mf (I:Inv X pins σ H s):∀b∈frs X.stack,b∈X.env.locals :: X.fs:=λb hb=>by
 rcases I.ok.stk with e | ⟨e,hf⟩
 ·rw[e] at hb;exact AL _ hb
 ·rw[e] at hb
  unfold frs at hb
  rw[Ck,hf] at hb
  exact hb
theorem Inv.mh (I:Inv X pins σ H s):∀b∈frs X.stack,H b=none:=λb hb=>by
 rcases AU.mp (I.mf b hb) with e | hb
 ·rw[e];exact I.free
 ·obtain ⟨_,o,ho,_⟩:=I.ok.funs.mem hb
  exact I.base.free b o ho (I.ok.frf b hb) λz=>I.ok.exfs b z hb
theorem Inv.step {g':Array GenState}{t':Nat}{d':Drawn}{ch:List Addr}(I:Inv X pins σ H s)
  (hch:∀b∈ch,(b∈X.ex\/X.s₀.heap.objs.size<=b)/\b≠X.env.locals/\(∀x c,X.env.cells.lookup x=some c->c≠b)/\∀p∈X.pn++pins,p.1≠b)
  (keep:∀b o,b≠X.env.locals->b∉X.fs->b∉ch->s.heap.get? b=some o->H b=none->h'.get? b=some o)
  (slot:∀b o,b≠X.env.locals->b∈X.fs->b∉ch->s.heap.get? b=some o->H b=none->∃sl,h'.get? b=some { o with slots:=sl }) (free:∀b o,b∉ch->s.heap.get? b=some o->H b=none->H' b=none)
  (there:∀b o,b∉ch->s.heap.get? b=some o->∃o',h'.get? b=some o')
  (tups:∀b xs,H b=some (.tup xs)->H' b=some (.tup xs)) (frzs:∀b o u,H b=some (.frz o u)->H' b=some (.frz o u)) (tbls:∀b ps,H b=some (.tbl ps)->∃more,H' b=some (.tbl (ps++more)))
  (ns:∀m,s.heap.Ns X.env.locals m->h'.Ns X.env.locals m) (hok:HOk X.prog X.w H' h') (hg:AllBare g') :
  Inv X pins σ H' { s with heap:=h',gens:=g',drawn:=d',toks:=t' }:=by
 have neL:∀b o,X.s₀.heap.get? b=some o->b≠X.env.locals:=λb o e=>A3 (AO (AQ e) I.ok.above)
 have neC:∀b o,X.s₀.heap.get? b=some o->b∉X.ex->b∉ch:=λb o e hx hb=>by
  rcases (hch b hb).1 with z | z
  ·exact hx z
  ·exact absurd (AO (AQ e) z) (B3 _)
 have cellK:∀x c,X.env.cells.lookup x=some c->∀v,s.heap.IsCell c v->h'.IsCell c v:=λx c e v ⟨o,ho,hd⟩=>by
  have nch:c∉ch:=λz=>(hch c z).2.2.1 x c e rfl
  by_cases hc:c∈X.fs
  ·obtain ⟨sl,q⟩:=slot c o (I.cne x c e) hc nch ho (I.freeC x c e)
   exact ⟨_,q,hd⟩
  ·exact ⟨o,keep c o (I.cne x c e) hc nch ho (I.freeC x c e),hd⟩
 refine ⟨I.ok,I.os,hg,⟨λb o e n hb hx =>?_,λb o e n hb hx =>?_,λb o e n hx =>?_,λb o e hx =>?_,λb xs e=>tups b xs (I.base.tups b xs e),λb o xs e=>frzs b o xs (I.base.frzs b o xs e),λb ps e =>?_⟩,?_,λx c e =>?_,?_,λx c e =>?_,λp hp =>?_,hok,I.len⟩
 ·exact keep b o (neL b o e) hb (neC b o e hx) (I.base.keep b o e n hb hx) (I.base.free b o e n hx)
 ·obtain ⟨sl,e1⟩:=I.base.slot b o e n hb hx
  obtain ⟨sl',e2⟩:=slot b _ (neL b o e) hb (neC b o e hx) e1 (I.base.free b o e n hx)
  exact ⟨sl',e2⟩
 ·obtain ⟨o',e1⟩:=I.base.there b o e hx
  exact free b o' (neC b o e hx) e1 (I.base.free b o e n hx)
 ·obtain ⟨o',e1⟩:=I.base.there b o e hx
  exact there b o' (neC b o e hx) e1
 ·obtain ⟨m1,e1⟩:=I.base.tbls b ps e
  obtain ⟨m2,e2⟩:=tbls b _ e1
  exact ⟨m1++m2,by rw[e2,GU]⟩
 ·obtain ⟨m,hn,hl⟩:=I.loc
  refine ⟨m,ns m hn,λi x v e1 e2 e3 =>?_⟩
  obtain ⟨u,r,l⟩:=hl i x v e1 e2 e3
  refine ⟨u,r,?_⟩
  rcases l with l | ⟨k,c,e,z⟩
  ·exact .inl l
  ·exact .inr ⟨k,c,e,cellK x c e _ z⟩
 ·obtain ⟨v,z⟩:=I.cell x c e
  exact ⟨v,cellK x c e v z⟩
 ·obtain ⟨m,⟨o,_,_,ho,_⟩,_⟩:=I.loc
  exact free _ o (λz=>(hch _ z).2.1 rfl) ho I.free
 ·obtain ⟨v,o,ho,hd⟩:=I.cell x c e
  exact free c o (λz=>(hch c z).2.2.1 x c e rfl) ho (I.freeC x c e)
 ·obtain ⟨e,n,ne,nf,d⟩:=I.pin p hp
  have nch:p.1∉ch:=λz=>(hch p.1 z).2.2.2 p hp rfl
  exact ⟨keep p.1 p.2 ne nf nch e n,free p.1 p.2 nch e n,ne,nf,d⟩
theorem Inv.un {t':Nat}(I:Inv X pins σ H s)(u:Un X.fs [] H H' s.heap h')(hok:HOk X.prog X.w H' h'):Inv X pins σ H' { s with heap:=h',toks:=t' }:=by
 obtain ⟨m,⟨o,es,ep,ho,r⟩,_⟩:=id I.loc
 obtain ⟨sl,hL⟩:=u.any ho I.free (by simp)
 exact I.step (g':=s.gens) (d':=s.drawn) (ch:=[]) (λ_ z=>nomatch z) (λb o _ hb _ e n=>u.keep b o e n hb (by simp)) (λb o _ hb _ e n=>u.slot b o e n hb (by simp)) (λb o _ e n=>u.free b o e n (by simp)) (λb o _ e=>u.there b o e (by simp)) u.tups u.frzs u.tbls (λm' hm=>by
  obtain ⟨o',es',ep',ho',r'⟩:=hm
  rw[ho] at ho';cases ho'
  exact ⟨_,es',ep',hL,r'⟩) hok I.bare
theorem Inv.call {g':Array GenState}{t':Nat}{d':Drawn}{ch:List Addr}(I:Inv X pins σ H s)(u:Un (frs X.stack) ch H H' s.heap h')(hok:HOk X.prog X.w H' h')(hg:AllBare g')
  (hch:∀b∈ch,(b∈X.ex\/X.s₀.heap.objs.size<=b)/\b≠X.env.locals/\(∀x c,X.env.cells.lookup x=some c->c≠b)/\∀p∈X.pn++pins,p.1≠b) :
  Inv X pins σ H' { s with heap:=h',gens:=g',drawn:=d',toks:=t' }:=by
 obtain ⟨m,⟨o,es,ep,ho,r⟩,_⟩:=id I.loc
 obtain ⟨sl,hL⟩:=u.any ho I.free λz=>(hch _ z).2.1 rfl
 exact I.step (ch:=ch) hch (λb o hL hb hc e n=>u.keep b o e n (λz=>(AU.mp (I.mf b z)).elim hL hb) hc) (λb o _ _ hc e n=>u.any e n hc) (λb o hc e n=>u.free b o e n hc) (λb o hc e=>u.there b o e hc) u.tups u.frzs u.tbls (λm' hm=>by
  obtain ⟨o',es',ep',ho',r'⟩:=hm
  rw[ho] at ho';cases ho'
  exact ⟨_,es',ep',hL,r'⟩) hok hg
theorem Inv.turned {t':Nat}{it:Addr}(I:Inv X pins σ H s)(k:∀b o,b≠it->s.heap.get? b=some o->h'.get? b=some o)(hn:H it=none)(hL:it≠X.env.locals)
  (h1:it∈X.ex\/X.s₀.heap.objs.size<=it) (h2:∀x c,X.env.cells.lookup x=some c->c≠it) (h3:∀p∈X.pn++pins,p.1≠it):Inv X pins σ H { s with heap:=h',toks:=t' }:=by
 have nit:∀b u,H b=some u->b≠it:=λb u e z=>by rw[z,hn] at e;cases e
 refine I.step (g':=s.gens) (d':=s.drawn) (ch:=[it]) (λb hb =>?_) (λb o _ _ hc e _=>k b o (λz=>hc (by simp[z])) e) (λb o _ _ hc e _=>⟨o.slots,k b o (λz=>hc (by simp[z])) e⟩) (λ_ _ _ _ n=>n)
  (λb o hc e=>⟨o,k b o (λz=>hc (by simp[z])) e⟩) (λ_ _ e=>e) (λ_ _ _ e=>e) (λb ps e=>⟨#[],by rw[e];simp⟩) (λm hm =>?_) (λb u e =>?_) I.bare
 ·have e:b=it:=by simpa using hb
  subst e
  exact ⟨h1,hL,h2,h3⟩
 ·obtain ⟨o,es,ep,ho,r⟩:=hm
  exact ⟨o,es,ep,k _ o (CK hL) ho,r⟩
 ·refine (I.hok b u e).stay (λc v hc q=>k c v ?_ q) (λ_ q=>q) λ_ _ q=>q
  rcases hc with z | z
  ·rw[z];exact nit b u e
  ·exact nit c _ z
theorem Inv.tok (I:Inv X pins σ H s)(t:Nat):Inv X pins σ H { s with toks:=t }:=I.un (h':=s.heap) (t':=t) Un.refl I.hok
theorem Inv.kept {t':Nat}(I:Inv X pins σ H s)(k:∀b u,s.heap.get? b=some u->h'.get? b=some u):Inv X pins σ H { s with heap:=h',toks:=t' }:=I.un (Un.kept k) (I.hok.kept k)
theorem Inv.laid {a:Addr}{o:HO}{t':Nat}(I:Inv X pins σ H s)(k:∀b u,s.heap.get? b=some u->h'.get? b=some u)(hp:s.heap.objs.size<=a)(new:aZ X.prog X.w (upd H a o) h' a o) :
  Inv X pins σ (upd H a o) { s with heap:=h',toks:=t' }:=I.un (Un.laid k hp (I.hok.fresh hp)) (I.hok.laid k hp new)
theorem Inv.write {x e:Addr}{o:HO}{t':Nat}(I:Inv X pins σ H s)(mu:Mut (H x))(he:e=x\/H e=some (.own x))(k:∀b u,b≠e->s.heap.get? b=some u->h'.get? b=some u)(heo:∃u,h'.get? e=some u)
  (new:aZ X.prog X.w (upd H x o) h' x o):Inv X pins σ (upd H x o) { s with heap:=h',toks:=t' }:=I.un (Un.write mu he k heo) (I.hok.write mu he k heo new)
theorem Inv.gu {pins':List (Addr×Obj)}(I:Inv X pins σ H s)(h:∀p∈pins',s.heap.get? p.1=some p.2/\H p.1=none/\p.1≠X.env.locals/\p.1∉X.fs/\∀v,p.2.data ≠ .cell v):Inv X pins' σ H s :=
 ⟨I.ok,I.os,I.bare,I.base,I.loc,I.cell,I.free,I.freeC,λp hp=>(AI.mp hp).elim (λz=>I.pin p (BO _ z)) (h p),I.hok,I.len⟩
theorem i9 {N:List Str}(hN:N.Nodup){i j:Nat}{x:Str}(a:N[i]? = some x)(b:N[j]? = some x):i=j:=by
 obtain ⟨h1,e1⟩:=AG.mp a
 obtain ⟨h2,e2⟩:=AG.mp b
 exact (List.getElem_inj hN).mp (e1.trans e2.symm)
theorem rC {M:Model}{A:BA}{E:Au->Ax->Prop}{i:Nat}{x:Str}{v:V}{u:Au}{Q:Unit->Ax->Prop}(I:Inv X pins σ H s)(hN:X.N.Nodup)(hi:X.N[i]? = some x)(hx:Loc X.env.scope x)(r:RelV v u)
  (h:∀s',Inv X pins (σ.set i (some v)) H s'->(∃a,Heap.SameBut a s.heap s'.heap/\(a=X.env.locals\/X.env.cells.lookup x=some a))->Q () s') (hf:X.fn x=true\/X.env.scope.names.lookup x=some .local:=by first | exact .inl rfl | exact .inr rfl | assumption):A7 M A (storeName X.env x u) Q E s:=by
 obtain ⟨m,hn,hl⟩:=id I.loc
 have hcls:(X.env.scope.kind == .class || (X.env.scope.kind == .module && X.env.locals != X.env.globals))=false:=by rw[I.ok.kind];rfl
 have hiσ:i<σ.length:=by rw[I.len];exact (AG.mp hi).1
 have cne:=I.cne
 have tracked:∀{a:Addr} {h':Heap},(∃o,s.heap.get? a=some o/\H a=none)->Heap.SameBut a s.heap h'->HOk X.prog X.w H h':=λ{a h'} ha hs b ob e=>by
  obtain ⟨_,_,hfree⟩:=ha
  refine (I.hok b ob e).stay (λc w' hc q=>(hs.2 c ?_).trans q) (λ_ q=>q) λ_ _ q=>q
  rintro rfl
  rcases hc with rfl | hc
  ·rw[hfree] at e;cases e
  ·rw[hfree] at hc;cases hc
 rcases hx with hk | hk
 ·refine wpAny_storeName_local hk hn (λh' hn' hs =>?_) hcls
  obtain ⟨oL,_,_,hoL,_⟩:=id hn
  refine h _ ⟨I.ok,I.os,I.bare,⟨λb o e n hb hx =>?_,λb o e n hb hx =>?_,I.base.free,λb o e hx =>?_,I.base.tups,I.base.frzs,I.base.tbls⟩,⟨_,hn',λj y v' e1 e2 e3 =>?_⟩,λy c e =>?_,I.free,I.freeC,λp hp =>?_,tracked ⟨oL,hoL,I.free⟩ hs,by simpa using I.len⟩ ⟨_,hs,.inl rfl⟩
  ·exact (hs.2 b (A3 (AO (AQ e) I.ok.above))).trans (I.base.keep b o e n hb hx)
  ·obtain ⟨sl,e1⟩:=I.base.slot b o e n hb hx
   exact ⟨sl,(hs.2 b (A3 (AO (AQ e) I.ok.above))).trans e1⟩
  ·obtain ⟨o',e1⟩:=I.base.there b o e hx
   exact ⟨o',(hs.2 b (A3 (AO (AQ e) I.ok.above))).trans e1⟩
  ·by_cases hj:j=i
   ·subst hj
    rw[hi] at e1;cases e1
    rw[Cz hiσ] at e2
    cases e2
    exact ⟨u,r,.inl ⟨hk,by simp⟩⟩
   ·rw[De (CK hj)] at e2
    obtain ⟨u',r',q⟩:=hl j y v' e1 e2 e3
    refine ⟨u',r',?_⟩
    rcases q with ⟨k,e⟩ | ⟨k,c,e,z⟩
    ·refine .inl ⟨k,?_⟩
     have:y≠x:=λe=>hj (i9 hN e1 (e ▸ hi))
     simp[this,e]
    ·exact .inr ⟨k,c,e,z.sameBut hs (cne y c e)⟩
  ·obtain ⟨w',z⟩:=I.cell y c e
   exact ⟨w',z.sameBut hs (cne y c e)⟩
  ·obtain ⟨e,n,ne,nf,d⟩:=I.pin p hp
   exact ⟨(hs.2 p.1 ne).trans e,n,ne,nf,d⟩
 ·have hfn:X.fn x=true:=by
   rcases hf with z | z
   ·exact z
   ·rw[z] at hk;cases hk
  obtain ⟨c,hc⟩:=I.ok.has x (.inl hk)
  obtain ⟨w',z⟩:=I.cell x c hc
  refine wpAny_storeName_cell I.ok.kind hk hc z (λh' hc' hs =>?_)
  obtain ⟨oc,hoc,hocd⟩:=id z
  refine h { s with heap:=h' } ⟨I.ok,I.os,I.bare,⟨λb o e n hb hx =>?_,λb o e n hb hx =>?_,I.base.free,λb o e hx =>?_,I.base.tups,I.base.frzs,I.base.tbls⟩,⟨m,hn.sameBut hs (CK (cne x c hc)),λj y v' e1 e2 e3 =>?_⟩,λy c' e =>?_,I.free,I.freeC,λp hp =>?_,tracked ⟨oc,hoc,I.freeC x c hc⟩ hs,by simpa using I.len⟩ ⟨c,hs,.inr hc⟩
  ·exact (hs.2 b (A3 (AO (AQ e) (I.ok.cab x c hfn hc)))).trans (I.base.keep b o e n hb hx)
  ·obtain ⟨sl,e1⟩:=I.base.slot b o e n hb hx
   exact ⟨sl,(hs.2 b (A3 (AO (AQ e) (I.ok.cab x c hfn hc)))).trans e1⟩
  ·obtain ⟨o',e1⟩:=I.base.there b o e hx
   exact ⟨o',(hs.2 b (A3 (AO (AQ e) (I.ok.cab x c hfn hc)))).trans e1⟩
  ·by_cases hj:j=i
   ·subst hj
    rw[hi] at e1;cases e1
    rw[Cz hiσ] at e2
    cases e2
    exact ⟨u,r,.inr ⟨.inl hk,c,hc,hc'⟩⟩
   ·rw[De (CK hj)] at e2
    obtain ⟨u',r',q⟩:=hl j y v' e1 e2 e3
    refine ⟨u',r',?_⟩
    rcases q with q | ⟨k,c',e,z'⟩
    ·exact .inl q
    ·refine .inr ⟨k,c',e,z'.sameBut hs ?_⟩
     rintro rfl
     exact hj (i9 hN e1 (I.ok.inj _ _ _ e hc ▸ hi))
  ·by_cases hcc:c'=c
   ·subst hcc;exact ⟨_,hc'⟩
   ·obtain ⟨w2,z2⟩:=I.cell y c' e
    exact ⟨w2,z2.sameBut hs hcc⟩
  ·obtain ⟨e,n,ne,nf,d⟩:=I.pin p hp
   refine ⟨(hs.2 p.1 ?_).trans e,n,ne,nf,d⟩
   intro q
   rw[q,hoc] at e
   have q':oc=p.2:=Bq e
   exact d w' (by rw[<- q'];exact hocd)
theorem gv {M:Model}{A:BA}{E:Au->Ax->Prop}{i:Nat}{x:Str}{v:V}{u:Au}{Q:Unit->Ax->Prop}(I:Inv X pins σ H s)(hN:X.N.Nodup)(hi:X.N[i]? = some x)(hx:Loc X.env.scope x)(r:RelV v u)
  (h:∀s',Inv X pins (σ.set i (some v)) H s'->Q () s') (hf:X.fn x=true\/X.env.scope.names.lookup x=some .local:=by first | exact .inl rfl | exact .inr rfl | assumption):A7 M A (storeName X.env x u) Q E s :=
 rC I hN hi hx r (λs' I' _=>h s' I') hf
theorem Inv.xK {s':Ax}{ch:List Addr}(I:Inv X pins σ H s)(ho:s'.os=s.os)(u:Un (frs X.stack) ch H H' s.heap s'.heap)(hok:HOk X.prog X.w H' s'.heap)(hg:AllBare s'.gens)
  (hch:∀b∈ch,(b∈X.ex\/X.s₀.heap.objs.size<=b)/\b≠X.env.locals/\(∀x c,X.env.cells.lookup x=some c->c≠b)/\∀p∈X.pn++pins,p.1≠b):Inv X pins σ H' s':=by
 obtain ⟨h',g',d',t',o'⟩:=s'
 have e:o'=s.os:=ho
 subst e
 exact I.call (g':=g') (t':=t') (d':=d') u hok hg hch
end
abbrev XK:=Au->Option Addr->Hp->Prop
abbrev St:=List (Option V)
abbrev VK:=V->Hp->Prop
abbrev TE:=St->Hp->VK->Prop
abbrev TT:=St->Hp->(Bool->Hp->Prop)->Prop
abbrev TA:=St->Hp->(List V->Hp->Prop)->Prop
structure Ends where
 nx:St->Hp->Prop
 rt:VK
 bk:St->Hp->Prop:=λ_ _=>False
 ct:St->Hp->Prop:=λ_ _=>False
abbrev TS:=Ends->St->Hp->Prop
def EP (X:Cx)(pins:List (Addr×Obj))(σ:St)(Q:VK)(u:Au)(s':Ax):Prop:=∃v H',Inv X pins σ H' s'/\RelV v u/\Q v H'
def TP (X:Cx)(pins:List (Addr×Obj))(σ:St)(Q:Bool->Hp->Prop)(b:Bool)(s':Ax):Prop:=∃H',Inv X pins σ H' s'/\Q b H'
def AP (X:Cx)(pins:List (Addr×Obj))(σ:St)(Q:List V->Hp->Prop)(us:List Au)(s':Ax):Prop:=∃vs H',Inv X pins σ H' s'/\Vals vs us/\Q vs H'
def SP (X:Cx)(pins:List (Addr×Obj))(D:Ends)(f:Flow)(s':Ax):Prop :=
 match f with
 | .next=>∃σ' H',Inv X pins σ' H' s'/\D.nx σ' H'
 | .brk=>∃σ' H',Inv X pins σ' H' s'/\D.bk σ' H'
 | .cont=>∃σ' H',Inv X pins σ' H' s'/\D.ct σ' H'
 | .ret u=>∃v σ' H',Inv X pins σ' H' s'/\RelV v u/\D.rt v H'
def PE (X:Cx)(e:Expr)(t:TE):Prop :=
 ∀(pins:List (Addr×Obj)) (s:Ax) (σ:St) (H:Hp) (Q:VK),Inv X pins σ H s->t σ H Q->A7 (Bf X.prog X.w) X.A (eval e X.env) (EP X pins σ Q) X.xe s
def PT (X:Cx)(e:Expr)(t:TT):Prop :=
 ∀(pins:List (Addr×Obj)) (s:Ax) (σ:St) (H:Hp) (Q:Bool->Hp->Prop),Inv X pins σ H s->t σ H Q->A7 (Bf X.prog X.w) X.A (isTrue e X.env (eval e X.env)) (TP X pins σ Q) X.xe s
def PW (X:Cx)(e:Expr)(t:TT):Prop :=
 ∀(whole:Sem Au) (pins:List (Addr×Obj)) (s:Ax) (σ:St) (H:Hp) (Q:Bool->Hp->Prop),Inv X pins σ H s->t σ H Q->A7 (Bf X.prog X.w) X.A (isTrue e X.env whole) (TP X pins σ Q) X.xe s
theorem PW.pt {X:Cx}{e:Expr}{t:TT}(h:PW X e t):PT X e t:=h _
def PA (X:Cx)(es:List Expr)(t:TA):Prop :=
 ∀(pos:Pos) (pins:List (Addr×Obj)) (s:Ax) (σ:St) (H:Hp) (Q:List V->Hp->Prop),Inv X pins σ H s->t σ H Q->A7 (Bf X.prog X.w) X.A (spliced (DV pos (BD es X.env))) (AP X pins σ Q) X.xe s
def PS (X:Cx)(st:Stmt)(t:TS):Prop :=
 ∀(pins:List (Addr×Obj)) (s:Ax) (σ:St) (H:Hp) (D:Ends),Inv X pins σ H s->t D σ H->A7 (Bf X.prog X.w) X.A (exec st X.env) (SP X pins D) X.xe s
def PSs (X:Cx)(st:List Stmt)(t:TS):Prop :=
 ∀(pins:List (Addr×Obj)) (s:Ax) (σ:St) (H:Hp) (D:Ends),Inv X pins σ H s->t D σ H->A7 (Bf X.prog X.w) X.A (execs st X.env) (SP X pins D) X.xe s
theorem thn {α:Type}{t:Sem α}{Q Q':α -> Ax->Prop}{M:Model}{A:BA}{E:Au->Ax->Prop}{s:Ax}(h:A7 M A t Q E s)(hQ:∀a s,Q a s->Q' a s):A7 M A t Q' E s:=Cg h hQ λ_ _ x=>x
open PySem PySem.Spec PyProof.Rows
section
variable  {X:Cx}
theorem bin {a b:Expr}{ta tb:TE}(ha:PE X a ta)(hb:PE X b tb){pins:List (Addr×Obj)}{s:Ax}{σ:St}{H:Hp}{R:V->V->Hp->Prop}(I:Inv X pins σ H s)(h:ta σ H λx H1=>tb σ H1 λy H2=>R x y H2)
  {α:Type} {Q:α -> Ax->Prop} {f:Au->Au->Sem α}
  (hf:∀v u s2 x y H2,Inv X pins σ H2 s2->RelV x v->RelV y u->R x y H2->A7 (Bf X.prog X.w) X.A (f v u) Q X.xe s2) :
  A7 (Bf X.prog X.w) X.A (eval a X.env) (λv s₁=>A7 (Bf X.prog X.w) X.A (eval b X.env) (λu s₂=>A7 (Bf X.prog X.w) X.A (f v u) Q X.xe s₂) X.xe s₁) X.xe s:=by
 refine thn (ha pins s σ H _ I h) λv s1 ⟨x,H1,I1,r1,q1⟩ =>?_
 refine thn (hb pins s1 σ H1 _ I1 q1) λu s2 ⟨y,H2,I2,r2,q2⟩ =>?_
 exact hf v u s2 x y H2 I2 r1 r2 q2
def zw (i:Nat):TE:=λσ H Q=>∃v,σ[i]? = some (some v)/\Q v H
def tC (v:V):TE:=λ_ H Q=>Q v H
theorem yc {i:Nat}{x:Str}{pos:Pos}(hN:X.N[i]? = some x)(hv:Vis X.env.scope x)(hd:(x == ("__debug__" : Str))=false:=by decide)(hcd:(x == ("__classdict__" : Str))=false:=by decide):PE X (.Name x pos) (zw i):=by
 intro pins s σ H Q I h
 obtain ⟨v,e,h⟩:=h
 obtain ⟨m,hn,hl⟩:=I.loc
 obtain ⟨u,r,l⟩:=hl i x v hN e hv
 have fin:EP X pins σ Q u s:=⟨v,H,I,r,h⟩
 rcases l with ⟨hk,hm⟩ | ⟨hk,c,hc,hcell⟩
 ·exact IH (wpAny_loadName_local I.ok.kind hk hn hm fin) hd
 ·rcases hk with hk | hk
  ·exact IH (wpAny_loadName_cell I.ok.kind hk hc hcell fin) hd
  ·exact IH (wpAny_loadName_free I.ok.kind hk hc hcell fin hcd) hd
theorem ai {i j pos}:PE X (.Constant (.int i) j pos) (tC (.int i)):=λ_ _ _ H _ I h=>wpAny_Constant_int ⟨.int i,H,I.tok _,⟨_,rfl⟩,h⟩
theorem nz {b j pos}:PE X (.Constant (.bool b) j pos) (tC (.bl b)):=λ_ _ _ H _ I h=>Constant_bool ⟨.bl b,H,I,rfl,h⟩
theorem yd {j pos}:PE X (.Constant .none j pos) (tC .non):=λ_ _ _ H _ I h=>Constant_none ⟨.non,H,I,rfl,h⟩
theorem ye {x j pos}:PE X (.Constant (.str x) j pos) (tC (.str x)):=λ_ _ _ H _ I h=>Calls.Constant_str ⟨.str x,H,I.tok _,⟨_,rfl⟩,h⟩
def Gl (X:Cx)(x:Str):Prop:=X.env.kindOf x=some .globalImplicit
theorem gw {E:Au->Ax->Prop}{pins:List (Addr×Obj)}{s:Ax}{σ:St}{H:Hp}{x:Str}{u:Au}{pos:Pos}{Q:Au->Ax->Prop}(I:Inv X pins σ H s)(hg:Gl X x)(hm:X.mg x=some u)(h:Q u s)
  (hd:(x == ("__debug__" : Str))=false:=by decide):A7 (Bf X.prog X.w) X.A (eval (.Name x pos) X.env) Q E s :=
 EZ I.ok.kind hg (Calls.loadGlobal_global (by rw[I.ok.glob];exact I.mod.glob.keeps I.bk) hm h) hd
theorem ja {E:Au->Ax->Prop}{pins:List (Addr×Obj)}{s:Ax}{σ:St}{H:Hp}{x:Str}{u:Au}{pos:Pos}{Q:Au->Ax->Prop}(I:Inv X pins σ H s)(hg:Gl X x)(hm:X.mg x=none)(hv:BU x=some u)(h:Q u s)
  (hn:x ≠ "__name__" := by decide) (hd:(x == ("__debug__" : Str))=false:=by decide):A7 (Bf X.prog X.w) X.A (eval (.Name x pos) X.env) Q E s:=by
 obtain ⟨mb,h1,h2⟩:=I.mod.blt
 exact EZ I.ok.kind hg (Calls.loadGlobal_builtin (by rw[I.ok.glob];exact I.mod.glob.keeps I.bk) hm (by rw[I.ok.blt];exact h1.keeps I.bk) ((h2 x hn).trans hv) h) hd
theorem bP {x:Str}{v:V}{u:Au}{pos:Pos}(hg:Gl X x)(hm:X.mg x=some u)(r:RelV v u)(hd:(x == ("__debug__" : Str))=false:=by decide):PE X (.Name x pos) (tC v) :=
 λ_ _ _ H _ I h=>gw I hg hm ⟨v,H,I,r,h⟩ hd
theorem fB {x:Str}{v:V}{u:Au}{pos:Pos}(hg:Gl X x)(hm:X.mg x=none)(hv:BU x=some u)(r:RelV v u)(hn:x ≠ "__name__" := by decide)(hd:(x == ("__debug__" : Str))=false:=by decide):PE X (.Name x pos) (tC v) :=
 λ_ _ _ H _ I h=>ja I hg hm hv ⟨v,H,I,r,h⟩ hn hd
variable  {a b:Expr}{ta tb:TE}{pos:Pos}
def PC (X:Cx)(op:CmpOp)(a b:Expr)(t:TE):Prop :=
 ∀(pins:List (Addr×Obj)) (s:Ax) (σ:St) (H:Hp) (Q:VK),Inv X pins σ H s->t σ H Q →
  A7 (Bf X.prog X.w) X.A (eval a X.env) (λv s₁=>A7 (Bf X.prog X.w) X.A (eval b X.env) (λu s₂=>A7 (Bf X.prog X.w) X.A (Cf op v u) (EP X pins σ Q) X.xe s₂) X.xe s₁) X.xe s
theorem tJ (b:Expr){op:CmpOp}(h:op ≠ .In)(h2:op ≠ .NotIn):behindInMarks op b=false:=by
 have e1:(op == CmpOp.In)=false:=by cases op <;> first | rfl | exact absurd rfl h
 have e2:(op == CmpOp.NotIn)=false:=by cases op <;> first | rfl | exact absurd rfl h2
 cases b <;> simp[behindInMarks,e1,e2]
def tB (t:TE):TT:=λσ H Q=>t σ H λx H1=>∃c,x = .bl c/\Q c H1
theorem tK {op:CmpOp}{t:TE}(h:PC X op a b t)(h1:behindInMarks op b=false:=by first | exact tJ _ (by decide) (by decide) | rfl):PT X (.Compare a [op] [b] pos) (tB t):=by
 intro pins s σ H Q I hw
 refine Gm (thn (h pins s σ H _ I hw) λv s1 h1=>thn h1 λu s2 h2=>thn h2 λc s3 ⟨x,H1,I1,r1,q1⟩ =>?_) h1
 obtain ⟨d,rfl,q⟩:=q1
 cases r1
 exact CT ⟨H1,I1,q⟩
theorem dO {e:Expr}{t:TE}(h:PE X e t)(he:∀whole,isTrue e X.env whole=(do let v ← whole;standAt e.pos;GQ [v] (truthy v)):=by intro _;rfl):PT X e (tB t):=by
  intro pins s σ H Q I hw
  refine isTrue_plain (thn (h pins s σ H _ I hw) λv s1 ⟨x,H1,I1,r1,q1⟩ =>?_) (he _)
  obtain ⟨d,rfl,q⟩:=q1
  cases r1
  exact CT ⟨H1,I1,q⟩
variable  {tA tB':TT}{rest:List Expr}
def tAnd (t u:TT):TT:=λσ H Q=>t σ H λc H1=>if c=true then u σ H1 Q else Q false H1
def tOr (t u:TT):TT:=λσ H Q=>t σ H λc H1=>if c=true then Q true H1 else u σ H1 Q
def tNot (t:TT):TT:=λσ H Q=>t σ H λc H1=>Q (!c) H1
theorem iZ (ha:PT X a tA):PW X (.BoolOp .And [a] pos) tA:=by
 intro wh pins s σ H Q I h
 refine isTrue_and (thn (ha pins s σ H Q I h) λc s1 e =>?_)
 cases c with
 | true=>exact isTrue_and_nil e
 | false=>exact e
theorem jb (ha:PT X a tA):PW X (.BoolOp .Or [a] pos) tA:=by
 intro wh pins s σ H Q I h
 refine isTrue_or (thn (ha pins s σ H Q I h) λc s1 e =>?_)
 cases c with
 | false=>exact isTrue_or_nil e
 | true=>exact e
theorem jf (ha:PT X a tA)(hb:PW X (.BoolOp .And (b :: rest) pos) tB'):PW X (.BoolOp .And (a :: b :: rest) pos) (tAnd tA tB'):=by
 intro wh pins s σ H Q I h
 refine isTrue_and (thn (ha pins s σ H _ I h) λc s1 ⟨H1,I1,q1⟩ =>?_)
 cases c with
 | true=>exact hb wh pins s1 σ H1 Q I1 q1
 | false=>exact ⟨H1,I1,q1⟩
theorem jg (ha:PT X a tA)(hb:PW X (.BoolOp .Or (b :: rest) pos) tB'):PW X (.BoolOp .Or (a :: b :: rest) pos) (tOr tA tB'):=by
 intro wh pins s σ H Q I h
 refine isTrue_or (thn (ha pins s σ H _ I h) λc s1 ⟨H1,I1,q1⟩ =>?_)
 cases c with
 | true=>exact ⟨H1,I1,q1⟩
 | false=>exact hb wh pins s1 σ H1 Q I1 q1
theorem eU (ha:PT X a tA):PT X (.UnaryOp .Not a pos) (tNot tA):=by
 intro pins s σ H Q I h
 exact isTrue_not (ha pins s σ H (λc H1=>Q (!c) H1) I h)
def zx (ta tb:TE):TE:=λσ H Q=>ta σ H λx H1=>∃c,x = .bl c/\if c=true then tb σ H1 Q else Q (.bl false) H1
theorem tL {op}{t:TE}(h:PE X a t):PE X (.BoolOp op [a] pos) t:=λpins s σ H Q I hw=>BoolOp_one (h pins s σ H Q I hw)
theorem oR (ha:PE X a ta)(hb:PE X (.BoolOp .And (b :: rest) pos) tb):PE X (.BoolOp .And (a :: b :: rest) pos) (zx ta tb):=by
 intro pins s σ H Q I h
 refine BoolOp_and (thn (ha pins s σ H _ I h) λv s1 ⟨x,H1,I1,r1,q1⟩ =>?_)
 obtain ⟨c,rfl,q1⟩:=q1
 cases r1
 refine CT ?_
 cases c with
 | true=>exact hb pins s1 σ H1 Q I1 q1
 | false=>exact ⟨.bl false,H1,I1,rfl,q1⟩
end
open PySem PySem.Spec PyProof.Rows
def SqL (K:Av)(H:Hp)(a:Addr)(xs:List V):Prop :=
 Rd H a (.lst xs) ∨
  ∃(o:Obj) (its:Array Au) (n:Nat),K.lookup a=some o/\o.cls = .type "list" /\ o.dict=none/\o.data = .seq its n/\its.size<=AH/\Vals xs its.toList
def SqT (K:Av)(H:Hp)(a:Addr)(xs:List V):Prop :=
 Rd H a (.tup xs) ∨
  ∃(o:Obj) (its:Array Au) (n:Nat),K.lookup a=some o/\o.cls = .type "tuple" /\ o.data = .seq its n/\its.size<=AH/\Vals xs its.toList
def absV:Au->Option V
 | .none=>some .non
 | .bool b=>some (.bl b)
 | .int i _=>some (.int i)
 | .str x _=>some (.str x)
 | .bytes b _=>some (.byt b)
 | .float b _=>some (.flt b)
 | .ref a=>some (.ref a)
 | .type n=>some (.ty n)
 | _=>none
theorem RelV.abs {x:V}{u:Au}(r:RelV x u):absV u=some x:=by
 cases x with
 | non=>cases r;rfl
 | bl _=>cases r;rfl
 | int _=>obtain ⟨t,rfl⟩:=r;rfl
 | str _=>obtain ⟨t,rfl⟩:=r;rfl
 | byt _=>obtain ⟨t,rfl⟩:=r;rfl
 | flt _=>obtain ⟨t,rfl⟩:=r;rfl
 | ref _=>cases r;rfl
 | ty _=>cases r;rfl
theorem RelV.inj {x y:V}{u:Au}(r:RelV x u)(q:RelV y u):x=y:=Bq (r.abs.symm.trans q.abs)
theorem Vals.inj:∀{xs ys:List V} {us:List Au},Vals xs us->Vals ys us->xs=ys
 | _,_,_,.nil,.nil=>rfl
 | _,_,_,.cons r t,.cons r' t'=>by rw[r.inj r',Vals.inj t t']
section
variable  {X:Cx}{pins:List (Addr×Obj)}{σ:St}{H:Hp}{s:Ax}{a:Addr}{xs ys:List V}
theorem SqL.of {K:Av}(h:H a=some (.lst xs)):SqL K H a xs :=.inl (.inl h)
theorem SqT.of {K:Av}(h:H a=some (.tup xs)):SqT K H a xs :=.inl (.inl h)
theorem Inv.list (I:Inv X pins σ H s)(h:SqL X.K H a xs):∃its:List Au,Vals xs its/\PlainL s.heap a its.toArray/\xs.length<=AH:=by
 rcases h with h | ⟨o,its,n,hk,hc,hd,hs,hz,r⟩
 ·obtain ⟨z,its,n,r,e⟩:=h.ok I.hok
  exact ⟨its,r,⟨_,n,e,rfl,rfl,rfl⟩,z⟩
 ·refine ⟨its.toList,r,⟨o,n,I.kIn a o hk,hc,hd,by simpa using hs⟩,?_⟩
  have e:=r.length
  simp only[AF] at e
  omega
theorem Inv.tuple (I:Inv X pins σ H s)(h:SqT X.K H a xs):∃its:List Au,Vals xs its/\IsTup s.heap a its.toArray/\xs.length<=AH:=by
 rcases h with h | ⟨o,its,n,hk,hc,hs,hz,r⟩
 ·obtain ⟨z,its,r,p⟩:=h.ok I.hok
  exact ⟨its,r,p.tup,z⟩
 ·refine ⟨its.toList,r,⟨o,I.kIn a o hk,hc,n,by simpa using hs⟩,?_⟩
  have e:=r.length
  simp only[AF] at e
  omega
theorem Inv.nB (I:Inv X pins σ H s)(h:SqL X.K H a xs)(h':SqL X.K H a ys):xs=ys:=by
 obtain ⟨its,r,⟨o,n,e,_,_,d⟩,_⟩:=I.list h
 obtain ⟨its',r',⟨o',n',e',_,_,d'⟩,_⟩:=I.list h'
 rw[e] at e';cases e'
 rw[d] at d'
 injection d' with d1 _
 have:its=its':=by simpa using congrArg Array.toList d1
 subst this
 exact r.inj r'
theorem Inv.hZ (I:Inv X pins σ H s)(h:SqT X.K H a xs)(h':SqT X.K H a ys):xs=ys:=by
 obtain ⟨its,r,⟨o,e,_,n,d⟩,_⟩:=I.tuple h
 obtain ⟨its',r',⟨o',e',_,n',d'⟩,_⟩:=I.tuple h'
 rw[e] at e';cases e'
 rw[d] at d'
 injection d' with d1 _
 have:its=its':=by simpa using congrArg Array.toList d1
 subst this
 exact r.inj r'
end
abbrev Cx.ji (X:Cx)(E:Au->Ax->Prop):Cx:={ X with xe:=E }
abbrev Cx.nox (X:Cx):Cx:=X.ji λ_ _=>False
theorem Cx.Ok.ji {X:Cx}(ok:X.Ok)(E:Au->Ax->Prop):(X.ji E).Ok :=
 ⟨ok.mod,ok.kind,ok.glob,ok.blt,ok.above,ok.inj,ok.has,ok.cab,ok.hd,ok.frames,ok.stk,ok.exf,ok.bs,ok.bsz,ok.noex,ok.exfs,ok.funs,ok.frf⟩
theorem Cx.Ok.dw {X:Cx}{E:Au->Ax->Prop}(ok:(X.ji E).Ok):X.Ok :=
 ⟨ok.mod,ok.kind,ok.glob,ok.blt,ok.above,ok.inj,ok.has,ok.cab,ok.hd,ok.frames,ok.stk,ok.exf,ok.bs,ok.bsz,ok.noex,ok.exfs,ok.funs,ok.frf⟩
section
variable  {X:Cx}{pins:List (Addr×Obj)}{σ:St}{H:Hp}{s:Ax}{E:Au->Ax->Prop}
theorem Inv.ji (I:Inv X pins σ H s)(E:Au->Ax->Prop):Inv (X.ji E) pins σ H s:=⟨I.ok.ji E,I.os,I.bare,I.base,I.loc,I.cell,I.free,I.freeC,I.pin,I.hok,I.len⟩
theorem Inv.dw (I:Inv (X.ji E) pins σ H s):Inv X pins σ H s:=⟨I.ok.dw,I.os,I.bare,I.base,I.loc,I.cell,I.free,I.freeC,I.pin,I.hok,I.len⟩
theorem SP.dw {D:Ends}{f:Flow}{s':Ax}(h:SP (X.ji E) pins D f s'):SP X pins D f s':=by
 cases f with
 | next=>obtain ⟨σ',H',I,q⟩:=h;exact ⟨σ',H',I.dw,q⟩
 | brk=>obtain ⟨σ',H',I,q⟩:=h;exact ⟨σ',H',I.dw,q⟩
 | cont=>obtain ⟨σ',H',I,q⟩:=h;exact ⟨σ',H',I.dw,q⟩
 | ret u=>obtain ⟨v,σ',H',I,r,q⟩:=h;exact ⟨v,σ',H',I.dw,r,q⟩
theorem PSs.nox {st:List Stmt}{t:TS}(h:PSs X.nox st t):PSs X st t:=λpins s σ H D I hw =>
 Cg (h pins s σ H D (I.ji _) hw) (λ_ _ q=>q.dw) λ_ _ z=>False.elim z
end
section
variable  {X:Cx}{st:Stmt}{rest:List Stmt}{t u:TS}{e:Expr}{te:TE}{pos:Pos}
def zy:TS:=λD σ H=>D.nx σ H
def yf (t u:TS):TS:=λD σ H=>t { D with nx:=u D } σ H
theorem aP:PSs X [] zy:=λ_ _ σ H _ I h=>DI ⟨σ,H,I,h⟩
theorem aj (h1:PS X st t)(h2:PSs X rest u):PSs X (st :: rest) (yf t u):=by
 intro pins s σ H D I h
 refine FQ (thn (h1 pins s σ H { D with nx:=u D } I h) λf s1 q =>?_)
 cases f with
 | next =>
  obtain ⟨σ',H',I',q⟩:=q
  exact h2 pins s1 σ' H' D I' q
 | ret v=>exact q
 | brk=>exact q
 | cont=>exact q
theorem ak (h1:PS X st t):PSs X [st] t:=by
 intro pins s σ H D I h
 refine FQ (thn (h1 pins s σ H D I h) λf s1 q =>?_)
 cases f with
 | next=>exact DI q
 | ret v=>exact q
 | brk=>exact q
 | cont=>exact q
theorem Inv.quiet {pins:List (Addr×Obj)}{σ:St}{H:Hp}{s:Ax}(I:Inv X pins σ H s):interactive X.env=false:=by simp[interactive,I.ok.kind]
def zz (te:TE):TS:=λD σ H=>te σ H λ_ H1=>D.nx σ H1
theorem bQ (he:PE X e te)(hs:swapsWith e none pos.line X.env=pure false:=by rfl):PS X (.Expr e pos) (zz te):=by
 intro pins s σ H D I h
 exact wpAny_Expr_any (thn (he pins s σ H _ I h) λv s1 ⟨x,H1,I1,r1,q1⟩=>⟨σ,H1,I1,q1⟩) I.quiet hs
def tRet (te:TE):TS:=λD σ H=>te σ H D.rt
theorem aJ (he:PE X e te):PS X (.Return (some e) pos) (tRet te):=by
 intro pins s σ H D I h
 exact wpAny_Return_some (thn (he pins s σ H _ I h) λv s1 ⟨x,H1,I1,r1,q1⟩=>⟨x,σ,H1,I1,r1,q1⟩)
def tIfS (c:TT)(t u:TS):TS:=λD σ H=>c σ H λb H1=>if b=true then t D σ H1 else u D σ H1
theorem bD {c:Expr}{a b:List Stmt}{tc:TT}(hc:PT X c tc)(ha:PSs X a t)(hb:PSs X b u):PS X (.If c a b pos) (tIfS tc t u):=by
 intro pins s σ H D I h
 refine wpAny_If (thn (hc pins s σ H _ I h) λd s1 ⟨H1,I1,q1⟩ =>?_)
 cases d with
 | true=>exact ha pins s1 σ H1 D I1 q1
 | false=>exact hb pins s1 σ H1 D I1 q1
def yg:TS:=λ_ _ _=>False
theorem cy {sts:List Stmt}:PSs X sts yg:=λ_ _ _ _ _ _ h=>h.elim
end
abbrev TG:=V->St->Hp->(St->Hp->Prop)->Prop
abbrev TGs:=List V->St->Hp->(St->Hp->Prop)->Prop
def PG (X:Cx)(target:Expr)(t:TG):Prop :=
 ∀(pins:List (Addr×Obj)) (s:Ax) (σ:St) (H:Hp) (v:V) (u:Au) (Q:St->Hp->Prop),Inv X pins σ H s->RelV v u->t v σ H Q →
  A7 (Bf X.prog X.w) X.A (assign target X.env u) (λ_ s'=>∃σ' H',Inv X pins σ' H' s'/\Q σ' H') X.xe s
def PGs (X:Cx)(ts:List Expr)(t:TGs):Prop :=
 ∀(pins:List (Addr×Obj)) (s:Ax) (σ:St) (H:Hp) (vs:List V) (us:List Au) (Q:St->Hp->Prop),Inv X pins σ H s->Vals vs us->t vs σ H Q →
  A7 (Bf X.prog X.w) X.A (assignInOrder ((assignEach ts X.env).map (·.2)) us) (λ_ s'=>∃σ' H',Inv X pins σ' H' s'/\Q σ' H') X.xe s
abbrev yh:=V->V->V->Hp->(Hp->Prop)->Prop
def zA (X:Cx)(t:yh):Prop :=
 ∀(pins:List (Addr×Obj)) (s:Ax) (σ:St) (H:Hp) (o i v:V) (ov iv u:Au) (Q:Hp->Prop),Inv X pins σ H s->RelV o ov->RelV i iv->RelV v u->t o i v H Q →
  A7 (Bf X.prog X.w) X.A (setItem ov iv u) (λ_ s'=>∃H',Inv X pins σ H' s'/\Q H') X.xe s
section
variable  {X:Cx}{pos:Pos}
def fQ (i:Nat):TG:=λv σ H Q=>Q (σ.set i (some v)) H
theorem aN {i:Nat}{x:Str}(hN:X.N.Nodup)(hi:X.N[i]? = some x)(hx:Loc X.env.scope x)(hf:X.fn x=true\/X.env.scope.names.lookup x=some .local:=by first | exact .inl rfl | exact .inr rfl | assumption):PG X (.Name x pos) (fQ i):=by
 intro pins s σ H v u Q I r h
 exact wpAny_assign_Name (gv I hN hi hx r (λs' I'=>⟨_,H,I',h⟩) hf)
def zB:TGs:=λvs σ H Q=>vs=[]/\Q σ H
def tM (t:TG)(u:TGs):TGs:=λvs σ H Q=>∃v r,vs=v :: r/\t v σ H λσ' H'=>u r σ' H' Q
theorem vQ:PGs X [] zB:=by
 intro pins s σ H vs us Q I r h
 obtain ⟨e,h⟩:=h
 subst e
 cases r
 exact assignInOrder_nil ⟨σ,H,I,h⟩
theorem nC {e:Expr}{es:List Expr}{t:TG}{u:TGs}(h1:PG X e t)(h2:PGs X es u)
  (hs:(assignEach (e :: es) X.env).map (·.2)=assign e X.env :: (assignEach es X.env).map (·.2):=by rfl):PGs X (e :: es) (tM t u):=by
 intro pins s σ H vs us Q I r h
 obtain ⟨v,vr,e1,h⟩:=h
 subst e1
 cases r with
 | cons r rr =>
  rw[hs]
  refine assignInOrder_cons (thn (h1 pins s σ H _ _ _ I r h) λ_ s1 ⟨σ1,H1,I1,q1⟩ =>?_)
  exact h2 pins s1 σ1 H1 _ _ Q I1 rr q1
def zC (K:Av)(n:Nat)(t:TGs):TG:=λv σ H Q=>∃a xs,v = .ref a/\SqT K H a xs/\xs.length=n/\t xs σ H Q
theorem yi {es:List Expr}{k:Nat}{t:TGs}{n:Nat}(hc:X.calm=true)(h:PGs X es t)
  (hn:(assignEach es X.env).length=n:=by rfl) (hst:(assignEach es X.env).findIdx? (·.1)=none:=by rfl):PG X (.Tuple es k pos) (zC X.K n t):=by
 intro pins s σ H v u Q I r hw
 obtain ⟨a,xs,e1,hq,hl,hw⟩:=hw
 subst e1
 cases r
 obtain ⟨its,rv,ht,hz⟩:=I.tuple hq
 refine assign_Tuple_tuple (I.ok.hd hc) ht (by simp[hn, <- hl,rv.length]) hst λh' hx =>?_
 have I1:Inv X pins σ H { s with heap:=h' }:=I.kept (t':=s.toks) λb o e=>hx b o (A3 (AQ e)) e
 exact h pins _ σ H xs _ Q I1 (by simpa using rv) hw
def gSub (to ti:TE)(t:yh):TG:=λv σ H Q=>to σ H λo H1=>ti σ H1 λi H2=>t o i v H2 λH3=>Q σ H3
theorem yj {o i:Expr}{to ti:TE}{t:yh}(ho:PE X o to)(hi:PE X i ti)(hs:zA X t)
    (ha:∀v,assign (.Subscript o i pos) X.env v=(do
      let ov ← GQ [v] (eval o X.env)
      let iv ← GQ [v,ov] (eval i X.env)
      standAt pos
      GQ [v,ov,iv] (setItem ov iv v)
      release [v,ov,iv] []):=by intro _;rfl):PG X (.Subscript o i pos) (gSub to ti t):=by
  intro pins s σ H v u Q I r h
  rw[ha]
  refine Ar (BV (thn (ho pins s σ H _ I h) λov s1 ⟨x,H1,I1,r1,q1⟩ =>?_))
  refine Ar (BV (thn (hi pins s1 σ H1 _ I1 q1) λiv s2 ⟨y,H2,I2,r2,q2⟩ =>?_))
  refine Ar (Hg (Ar (BV (thn (hs pins s2 σ H2 x y v ov iv u _ I2 r1 r2 r q2) λ_ s3 ⟨H3,I3,q3⟩ =>?_))))
  exact wpAny_release ⟨σ,H3,I3,q3⟩
def yk (te:TE)(g:TG):TS:=λD σ H=>te σ H λx H1=>g x σ H1 D.nx
theorem yl {tg e:Expr}{te:TE}{g:TG}(he:PE X e te)(hg:PG X tg g)(hs:swapsWithSole [tg] e pos.line X.env=pure false:=by rfl)(hw:swappedStores [tg] e X.env=pure none:=by rfl)
  (h1:(assignEach [tg] X.env).map (·.2)=[assign tg X.env]:=by rfl):PS X (.Assign [tg] e pos) (yk te g):=by
 intro pins s σ H D I h
 refine wpAny_Assign_stores (thn (he pins s σ H _ I h) λv s1 ⟨x,H1,I1,r1,q1⟩ =>?_) hs hw
 rw[h1]
 exact thn (hg pins s1 σ H1 x v _ I1 r1 q1) λ_ s2 q=>q
theorem aE {i:Nat}{x:Str}{e:Expr}{te:TE}{pos':Pos}(hN:X.N.Nodup)(hi:X.N[i]? = some x)(hx:Loc X.env.scope x)(he:PE X e te)(hs:swapsWith e (some (.Name x pos')) pos.line X.env=pure false:=by rfl)(hf:X.fn x=true\/X.env.scope.names.lookup x=some .local:=by first | exact .inl rfl | exact .inr rfl | assumption) :
  PS X (.Assign [.Name x pos'] e pos) (yk te (fQ i)):=by
 intro pins s σ H D I h
 refine HG (thn (he pins s σ H _ I h) λv s1 ⟨y,H1,I1,r1,q1⟩ =>?_) hs
 exact gv I1 hN hi hx r1 (λs2 I2=>⟨_,H1,I2,q1⟩) hf
end
section
variable  {X:Cx}{pos:Pos}
def tN (c:TT)(tb:TS):TS:=λD σ H=>∃W:Nat->St->Hp->Prop,(∃m,W m σ H)/\∀m σ H,W m σ H →
 c σ H λb H1=>if b=true then ∃N:St->Hp->Prop,(∀σ' H',N σ' H'->∃m',m'<m/\W m' σ' H')/\tb { D with nx:=N,ct:=N,bk:=D.nx } σ H1 else D.nx σ H1
theorem tO {c:Expr}{body:List Stmt}{tc:TT}{tb:TS}(hp:PassesOwn (Bf X.prog X.w) X.A X.env X.xe)(hc:PT X c tc)(hb:PSs X body tb):PS X (.While c body [] pos) (tN tc tb):=by
 intro pins s σ H D I h
 obtain ⟨W,⟨m0,w0⟩,turn⟩:=h
 refine wpAny_While (codeAny_whileLoop (λn s'=>∃σ' H',Inv X pins σ' H' s'/\W n σ' H') ?_ m0 ⟨σ,H,I,w0⟩)
 rintro n s1 ⟨σ1,H1,I1,w1⟩
 refine Di hp (thn (hc pins s1 σ1 H1 _ I1 (turn n σ1 H1 w1)) λb s2 ⟨H2,I2,q2⟩ =>?_)
 cases b with
 | true =>
  obtain ⟨N,hN,q2⟩:=q2
  rw[if_pos rfl]
  refine Di hp (thn (hb pins s2 σ1 H2 _ I2 q2) λf s3 q3 =>?_)
  cases f with
  | next =>
   obtain ⟨σ3,H3,I3,n3⟩:=q3
   obtain ⟨m',hm,w3⟩:=hN σ3 H3 n3
   exact ⟨m',hm,σ3,H3,I3,w3⟩
  | cont =>
   obtain ⟨σ3,H3,I3,n3⟩:=q3
   obtain ⟨m',hm,w3⟩:=hN σ3 H3 n3
   exact ⟨m',hm,σ3,H3,I3,w3⟩
  | brk=>exact q3
  | ret v=>exact q3
 | false =>
  rw[if_neg AV]
  exact DI ⟨σ1,H2,I2,q2⟩
end
structure It where
 go:Nat->Hp->Prop
 yld:Nat->Hp->V->Hp->Prop
 stop:Nat->Hp->Prop
def jj (X:Cx)(pins:List (Addr×Obj))(H:Hp)(b:Addr):Prop :=
 H b=none/\b≠X.env.locals/\b∉X.fs/\(b∈X.ex\/X.s₀.heap.objs.size<=b)/\(∀x c,X.env.cells.lookup x=some c->c≠b)/\∀p∈X.pn++pins,p.1≠b
theorem Inv.vR {X:Cx}{pins:List (Addr×Obj)}{σ:St}{H H':Hp}{s:Ax}{b:Addr}(I:Inv X pins σ H s)(hb:s.heap.objs.size<=b)(hn:H' b=none):jj X pins H' b:=by
 refine ⟨hn,DB (AO I.lt hb),I.yb hb,.inr (A5 I.sz hb),λx c e z =>?_,λp hp z =>?_⟩
 ·obtain ⟨v,q⟩:=I.cell x c e
  exact absurd (AO q.lt (by rw[z];exact hb)) (B3 _)
 ·exact absurd (AO (AQ (I.pin p hp).1) (by rw[z];exact hb)) (B3 _)
structure Turn (P:AN)(w:Bh)(K:Av)(tg:Expr)(J:It)(fp:List Addr)(it:Addr)(tn:Nat->Heap->Prop):Prop where
 mem:it∈fp
 obj:∀i h,tn i h->∀b∈fp,∃o,h.get? b=some o/\∀v,o.data ≠ .cell v
 keep:∀i h h',tn i h->(∀b∈fp,∀o,h.get? b=some o->h'.get? b=some o)->tn i h'
 item:∀(X:Cx),X.prog=P->X.w=w->X.K=K->X.calm=true->∀(i:Nat) (pins:List (Addr×Obj)) (s:Ax) (σ:St) (H:Hp) (E:Au->Ax->Prop),Inv X pins σ H s->(∀b∈fp,jj X pins H b)->tn i s.heap->J.go i H →
  A7 (Bf P w) X.A (pyNext (.ref it)) (λr s1=>∃u,r=some u ∧
   A7 (Bf P w) X.A (letOwnedTupleGo tg (.ref it) u) (λ_ s2=>∃x H',Inv X pins σ H' s2/\RelV x u/\J.yld i H x H'/\tn (i+1) s2.heap/\∀b∈fp,H' b=none) E s1) E s
 done:∀(X:Cx),X.prog=P->X.w=w->X.K=K->X.calm=true->∀(i:Nat) (pins:List (Addr×Obj)) (s:Ax) (σ:St) (H:Hp) (E:Au->Ax->Prop),Inv X pins σ H s->(∀b∈fp,jj X pins H b)->tn i s.heap->J.stop i H →
  A7 (Bf P w) X.A (pyNext (.ref it)) (λr s1=>r=none/\Inv X pins σ H s1) E s
 self:∀(A:BA) (i:Nat) (s:Ax) (Q:Au->Ax->Prop) (E:Au->Ax->Prop),tn i s.heap->Q (.ref it) s->A7 (Bf P w) A (pyIter (.ref it)) Q E s
abbrev TI:=St->Hp->(It->Hp->Prop)->Prop
def PIE (X:Cx)(pins:List (Addr×Obj))(σ:St)(tg:Expr)(R:It->Hp->Prop)(itv:Au)(s2:Ax):Prop :=
 ∃(it:Addr) (fp:List Addr) (tn:Nat->Heap->Prop) (J:It) (H':Hp),itv = .ref it/\Inv X pins σ H' s2/\Turn X.prog X.w X.K tg J fp it tn/\tn 0 s2.heap/\(∀b∈fp,jj X pins H' b)/\R J H'
def PI (X:Cx)(tg iter:Expr)(wi:TI):Prop :=
 ∀(pins:List (Addr×Obj)) (s:Ax) (σ:St) (H:Hp) (R:It->Hp->Prop),Inv X pins σ H s->wi σ H R →
  A7 (Bf X.prog X.w) X.A (eval iter X.env) (λv s1=>A7 (Bf X.prog X.w) X.A (pyIter v) (PIE X pins σ tg R) X.xe s1) X.xe s
theorem tP {M:Model}{A:BA}{E:Au->Ax->Prop}{s:Ax}{tg:Expr}{it:Addr}{u:Au}{o:Obj}{n:String}{vs:Array Au}{Q:Unit->Ax->Prop}(ho:s.heap.get? it=some o)(hc:o.cls = .type n)(hd:o.data = .fields vs)
    (hn:["enumerate", "zip", "dict_itemiterator", "dict_reverseitemiterator", "odict_iterator", "itertools.zip_longest", "itertools.pairwise"].contains n=false) (hQ:Q () s):A7 M A (letOwnedTupleGo tg (.ref it) u) Q E s:=by
  unfold letOwnedTupleGo
  cases tg <;> first
    | exact Ay hQ
    | (cases u <;> first
        | exact Ay hQ
        | (refine Ar (II ho ?_)
           rw[hc,hd]
           show A7 M A (if (["enumerate", "zip", "dict_itemiterator", "dict_reverseitemiterator", "odict_iterator", "itertools.zip_longest", "itertools.pairwise"].contains n && vs[0]? == some (E8 _))=true then _ else _) Q E s
           rw[if_neg (by intro h;rw[hn,E9] at h;cases h)]
           exact Ay hQ))
def Itl (K:Av)(a:Addr):It :=
 ⟨λi H=>∃xs x,SqL K H a xs/\xs[i]? = some x,λi H x H'=>H'=H/\∀xs,SqL K H a xs->xs[i]? = some x,λi H=>∃xs,SqL K H a xs/\xs.length<=i⟩
def Itt (K:Av)(a:Addr):It :=
 ⟨λi H=>∃xs x,SqT K H a xs/\xs[i]? = some x,λi H x H'=>H'=H/\∀xs,SqT K H a xs->xs[i]? = some x,λi H=>∃xs,SqT K H a xs/\xs.length<=i⟩
def Itr (lo:Int)(n:Nat):It:=⟨λi _=>i<n,λi H x H'=>H'=H/\x = .int (lo+i),λi _=>n<=i⟩
theorem rD {P:AN}{w:Bh}{K:Av}{tg:Expr}(a it:Addr):Turn P w K tg (Itl K a) [it] it (λi h=>h.IsListIter it a i) where
 mem:=by simp
 obj:=λi h st b hb=>by
  have e:b=it:=by simpa using hb
  subst e
  obtain ⟨o,e,c,d⟩:=st
  exact ⟨o,e,λv z=>by rw[d] at z;cases z⟩
 keep:=λi h h' st k=>st.at λo e=>k it (by simp) o e
 item:=by
  intro X hP hw hK hc i pins s σ H E I hf st hg
  subst hP hw hK
  obtain ⟨xs,x,hq,hx⟩:=hg
  obtain ⟨its,rv,p,hz⟩:=I.list hq
  obtain ⟨u,hu,ru⟩:=rv.get hx
  obtain ⟨f0,f1,f2,f3,f4,f5⟩:=hf it (by simp)
  refine wpAny_pyNext_list_item st p.isList (x:=u) (by simpa using hu) λh' st' sb =>?_
  have I1:Inv X pins σ H { s with heap:=h' }:=I.turned (t':=s.toks) (λb o hb e=>(sb.2 b hb).trans e) f0 f1 f3 f4 f5
  obtain ⟨o,e,c,d⟩:=id st'
  exact ⟨u,rfl,tP (s:={ s with heap:=h' }) e c d (by decide) ⟨x,H,I1,ru,⟨rfl,λys hy=>by rw[I.nB hy hq];exact hx⟩,st',λb hb=>(hf b hb).1⟩⟩
 done:=by
  intro X hP hw hK hc i pins s σ H E I hf st hg
  subst hP hw hK
  obtain ⟨xs,hq,hx⟩:=hg
  obtain ⟨its,rv,p,hz⟩:=I.list hq
  obtain ⟨f0,f1,f2,f3,f4,f5⟩:=hf it (by simp)
  have hl:=rv.length
  exact wpAny_pyNext_list_end (I.ok.hd hc) st p.isList (by simp;omega) λh' eb=>⟨rfl,I.turned (t':=s.toks) (λb o hb e=>eb b o hb e) f0 f1 f3 f4 f5⟩
 self:=λ_ _ _ _ _ st h=>wpAny_pyIter_listiter st h
theorem oS {P:AN}{w:Bh}{K:Av}{tg:Expr}(a it:Addr):Turn P w K tg (Itt K a) [it] it (λi h=>h.IsTupleIter it a i) where
 mem:=by simp
 obj:=λi h st b hb=>by
  have e:b=it:=by simpa using hb
  subst e
  obtain ⟨o,e,c,d⟩:=st
  exact ⟨o,e,λv z=>by rw[d] at z;cases z⟩
 keep:=λi h h' st k=>st.at λo e=>k it (by simp) o e
 item:=by
  intro X hP hw hK hc i pins s σ H E I hf st hg
  subst hP hw hK
  obtain ⟨xs,x,hq,hx⟩:=hg
  obtain ⟨its,rv,p,hz⟩:=I.tuple hq
  obtain ⟨u,hu,ru⟩:=rv.get hx
  obtain ⟨f0,f1,f2,f3,f4,f5⟩:=hf it (by simp)
  refine wpAny_pyNext_tuple_item st (show s.heap.IsTuple a its.toArray from p) (x:=u) (by simpa using hu) λh' st' sb =>?_
  have I1:Inv X pins σ H { s with heap:=h' }:=I.turned (t':=s.toks) (λb o hb e=>(sb.2 b hb).trans e) f0 f1 f3 f4 f5
  obtain ⟨o,e,c,d⟩:=id st'
  exact ⟨u,rfl,tP (s:={ s with heap:=h' }) e c d (by decide) ⟨x,H,I1,ru,⟨rfl,λys hy=>by rw[I.hZ hy hq];exact hx⟩,st',λb hb=>(hf b hb).1⟩⟩
 done:=by
  intro X hP hw hK hc i pins s σ H E I hf st hg
  subst hP hw hK
  obtain ⟨xs,hq,hx⟩:=hg
  obtain ⟨its,rv,p,hz⟩:=I.tuple hq
  obtain ⟨f0,f1,f2,f3,f4,f5⟩:=hf it (by simp)
  have hl:=rv.length
  exact wpAny_pyNext_tuple_end (I.ok.hd hc) st (show s.heap.IsTuple a its.toArray from p) (by simp;omega) λh' eb=>⟨rfl,I.turned (t':=s.toks) (λb o hb e=>eb b o hb e) f0 f1 f3 f4 f5⟩
 self:=λ_ _ _ _ _ st h=>wpAny_pyIter_tupleiter st h
theorem oT {P:AN}{w:Bh}{K:Av}{tg:Expr}(it:Addr)(lo:Int)(n:Nat):Turn P w K tg (Itr lo n) [it] it (λi h=>IsRangeIter h it (lo+(i:Nat)*1) ((n:Int)-(i:Nat)) 1) where
 mem:=by simp
 obj:=λi h st b hb=>by
  have e:b=it:=by simpa using hb
  subst e
  exact ⟨_,st,λv z=>by
   have z':Data.fields _=Data.cell v:=z
   cases z'⟩
 keep:=λi h h' st k=>k it (by simp) _ st
 item:=by
  intro X hP hw hK hc i pins s σ H E I hf st hg
  subst hP hw hK
  obtain ⟨f0,f1,f2,f3,f4,f5⟩:=hf it (by simp)
  have W:=Walks.range (prog:=X.prog) (w:=X.w) (I.ok.hd hc) it lo 1 n
  refine W.item i s _ _ hg st λv h' tk hv st' kk =>?_
  obtain ⟨t,rfl⟩:=hv
  have I1:Inv X pins σ H { s with heap:=h',toks:=tk }:=I.turned (λb o hb e=>kk b o (by simpa using hb) e) f0 f1 f3 f4 f5
  refine ⟨_,rfl,tP (s:={ s with heap:=h',toks:=tk }) (n := "range_iterator") st' rfl rfl (by decide) ⟨.int (lo+i),H,I1,⟨t,?_⟩,⟨rfl,rfl⟩,st',λb hb=>(hf b hb).1⟩⟩
  rw[Int.mul_one]
 done:=by
  intro X hP hw hK hc i pins s σ H E I hf st hg
  subst hP hw hK
  obtain ⟨f0,f1,f2,f3,f4,f5⟩:=hf it (by simp)
  exact wpAny_pyNext_range_end (I.ok.hd hc) st (by have:n<=i:=hg;omega) λh' eb=>⟨rfl,I.turned (t':=s.toks) (λb o hb e=>eb b o hb e) f0 f1 f3 f4 f5⟩
 self:=λ_ _ _ _ _ st h=>wpAny_pyIter_rangeiter st h
open PySem PySem.Spec PyProof.Rows
section
variable  {X:Cx}{tg:Expr}
def zD (K:Av)(tl:TE):TI:=λσ H R=>tl σ H λx H1=>∃a,x = .ref a/\(∃xs,SqL K H1 a xs)/\R (Itl K a) H1
def iTup (K:Av)(tl:TE):TI:=λσ H R=>tl σ H λx H1=>∃a,x = .ref a/\(∃xs,SqT K H1 a xs)/\R (Itt K a) H1
theorem gx {l:Expr}{tl:TE}(hl:PE X l tl):PI X tg l (zD X.K tl):=by
 intro pins s σ H R I h
 refine thn (hl pins s σ H _ I h) λv s1 ⟨x,H1,I1,r1,q1⟩ =>?_
 obtain ⟨a,e,⟨xs,hq⟩,q⟩:=q1
 subst e
 cases r1
 obtain ⟨its,rv,p,hz⟩:=I1.list hq
 refine Fx p.isList ?_
 refine ⟨s1.heap.objs.size,[s1.heap.objs.size],_,_,H1,rfl,I1.kept (t':=s1.toks) λb o e=>Az _ e,rD a _,⟨_,AX _ rfl,rfl,rfl⟩,λb hb =>?_,q⟩
 have e:b=s1.heap.objs.size:=by simpa using hb
 subst e
 exact I1.vR (AE _) (I1.hok.fresh (AE _))
theorem oU {l:Expr}{tl:TE}(hl:PE X l tl):PI X tg l (iTup X.K tl):=by
 intro pins s σ H R I h
 refine thn (hl pins s σ H _ I h) λv s1 ⟨x,H1,I1,r1,q1⟩ =>?_
 obtain ⟨a,e,⟨xs,hq⟩,q⟩:=q1
 subst e
 cases r1
 obtain ⟨its,rv,p,hz⟩:=I1.tuple hq
 refine DA (show s1.heap.IsTuple a its.toArray from p) ?_
 refine ⟨s1.heap.objs.size,[s1.heap.objs.size],_,_,H1,rfl,I1.kept (t':=s1.toks) λb o e=>Az _ e,oS a _,⟨_,AX _ rfl,rfl,rfl⟩,λb hb =>?_,q⟩
 have e:b=s1.heap.objs.size:=by simpa using hb
 subst e
 exact I1.vR (AE _) (I1.hok.fresh (AE _))
theorem tQ {pins:List (Addr×Obj)}{σ:St}{H:Hp}{s:Ax}{R:It->Hp->Prop}{E:Au->Ax->Prop}{lo hi:Int}{t u v:Tok}{tk:Nat}(I:Inv X pins σ H s)(h1 : -(2 ^ 62)<=lo)(h2:lo<2 ^ 62)(h3 : -(2 ^ 62)<=hi)(h4:hi<2 ^ 62)
  (q:R (Itr lo (hi-lo).toNat) H):A7 (Bf X.prog X.w) X.A (pyIter (.ref s.heap.objs.size)) (PIE X pins σ tg R) E { s with heap:=s.heap.push { cls :=.type "range",data :=.fields #[.int lo t,.int hi u,.int 1 v] },toks:=tk }:=by
 refine wpAny_pyIter_range (IsRange.new ..) (small_one h1 h2 h3 h4) ?_
 have I1:Inv X pins σ H { s with heap:=s.heap.push { cls :=.type "range",data :=.fields #[.int lo t,.int hi u,.int 1 v] },toks:=tk }:=I.kept λb o e=>Az _ e
 refine ⟨(s.heap.push { cls :=.type "range",data :=.fields #[.int lo t,.int hi u,.int 1 v] }).objs.size,[(s.heap.push { cls :=.type "range",data :=.fields #[.int lo t,.int hi u,.int 1 v] }).objs.size],_,_,H,rfl,
  I1.kept (t':=tk) λb o e=>Az _ e,oT _ lo (hi-lo).toNat,?_,λb hb =>?_,q⟩
 ·have e1:lo+((0:Nat):Int)*1=lo:=by simp
  have e2:(((hi-lo).toNat:Nat):Int)-((0:Nat):Int)=Builtin.Range.rangeSize lo hi 1:=by rw[rangeSize_one];split <;> omega
  show IsRangeIter _ _ (lo+((0:Nat):Int)*1) ((((hi-lo).toNat:Nat):Int)-((0:Nat):Int)) 1
  rw[e1,e2]
  exact AX _ rfl
 ·have e:b=(s.heap.push { cls :=.type "range",data :=.fields #[.int lo t,.int hi u,.int 1 v] }).objs.size:=by simpa using hb
  subst e
  exact I1.vR (AE _) (I1.hok.fresh (AE _))
def zE (ta:TA):TI:=λσ H R=>ta σ H λvs H1=>∃j:Int,vs=[.int j] /\ -(2 ^ 62)<=j/\j<2 ^ 62/\R (Itr 0 j.toNat) H1
theorem aX {a:Expr}{ta:TA}{p pos:Pos}(hg:Gl X "range")(hm:X.mg "range" = none)(ha:PA X [a] ta)(hs:BD [a] X.env=[(false,eval a X.env)]:=by rfl):PI X tg (.Call (.Name "range" p) [a] [] pos) (zE ta):=by
 intro pins s σ H R I h
 refine Call_ (ja I hg hm boot_range (DC (thn (ha pos pins s σ H _ I h) λus s1 ⟨vs,H1,I1,r1,q1⟩ =>?_) hs rfl))
 obtain ⟨j,e,q1,q2,q⟩:=q1
 subst e
 cases r1 with
 | cons r rr =>
  cases rr
  obtain ⟨t,rfl⟩:=r
  exact call_range_1 (tQ I1 (by omega) (by omega) q1 q2 (by simpa using q))
def tFor (wi:TI)(g:TG)(tb:TS):TS:=λD σ H=>wi σ H λJ H1=>∃W:Nat->Nat->St->Hp->Prop,(∃m,W 0 m σ H1)/\∀i m σ H,W i m σ H →
 (J.stop i H/\D.nx σ H)\/(J.go i H/\∃N:St->Hp->Prop,(∀σ' H',N σ' H'->∃m',m'<m/\W (i+1) m' σ' H')/\∀x H',J.yld i H x H'->g x σ H' λσ2 H2=>tb { D with nx:=N,ct:=N,bk:=D.nx } σ2 H2)
def fT (fp:List Addr)(h:Heap):List (Addr×Obj):=fp.filterMap λb=>(h.get? b).map λo=>(b,o)
theorem cU {fp:List Addr}{h:Heap}{b:Addr}{o:Obj}(hb:b∈fp)(e:h.get? b=some o):(b,o)∈fT fp h:=Ec.mpr ⟨b,hb,by rw[e];rfl⟩
theorem kQ {fp:List Addr}{h:Heap}{p:Addr×Obj}(hp:p∈fT fp h):p.1∈fp/\h.get? p.1=some p.2:=by
 obtain ⟨b,hb,e⟩:=Ec.mp hp
 cases q:h.get? b with
 | none=>rw[q] at e;cases e
 | some o =>
  rw[q] at e
  have e':(b,o)=p:=Bq e
  subst e'
  exact ⟨hb,q⟩
theorem Inv.pinned {pins:List (Addr×Obj)}{σ:St}{H:Hp}{s:Ax}{fp:List Addr}(I:Inv X pins σ H s)(hf:∀b∈fp,jj X pins H b)(ho:∀b∈fp,∃o,s.heap.get? b=some o/\∀v,o.data ≠ .cell v):Inv X (pins++fT fp s.heap) σ H s :=
 I.gu λp hp=>(AI.mp hp).elim (λz=>I.pin p (Bb _ z)) λz=>by
  obtain ⟨hb,e⟩:=kQ z
  obtain ⟨f0,f1,f2,_⟩:=hf p.1 hb
  obtain ⟨o,e',d⟩:=ho p.1 hb
  rw[e] at e';cases e'
  exact ⟨e,f0,f1,f2,d⟩
theorem Inv.dC {pins pl:List (Addr×Obj)}{σ:St}{H:Hp}{s:Ax}(I:Inv X (pins++pl) σ H s):Inv X pins σ H s:=I.gu λp hp=>I.pin p (Bb _ (BO _ hp))
theorem cp {iter:Expr}{body:List Stmt}{wi:TI}{g:TG}{tb:TS}{pos:Pos}(hp:PassesOwn (Bf X.prog X.w) X.A X.env X.xe)(hc:X.calm=true)(hi:PI X tg iter wi)(hg:PG X tg g)(hb:PSs X body tb)
  (hs:∀x,foldedSetIterable iter X.env x=pure x:=by intro _;rfl):PS X (.For tg iter body [] pos) (tFor wi g tb):=by
 intro pins s σ H D I h
 refine wpAny_For (thn (hi pins s σ H _ I h) λv s1 h1=>thn h1 λitv s2 h2 =>?_) hs
 obtain ⟨it,fp,tn,J,H2,e,I2,T,st2,f2,W,⟨m0,w0⟩,turn⟩:=h2
 subst e
 have stat:∀{H':Hp},(∀b∈fp,H' b=none)->∀b∈fp,jj X pins H' b:=λhn b hb=>⟨hn b hb,(f2 b hb).2⟩
 refine codeAny_forLoop_any (λn s'=>∃i σ' H',Inv X pins σ' H' s'/\tn i s'.heap/\(∀b∈fp,H' b=none)/\W i n σ' H') ?_ m0 ⟨0,σ,H2,I2,st2,λb hb=>(f2 b hb).1,w0⟩
 rintro n s3 ⟨i,σ3,H3,I3,st3,fr3,w3⟩
 rcases turn i n σ3 H3 w3 with ⟨stop,qn⟩ | ⟨go,N,hN,step⟩
 ·refine Di hp (thn (T.done X rfl rfl rfl hc i pins s3 σ3 H3 X.xe I3 (stat fr3) st3 stop) λr s4 ⟨hr,I4⟩ =>?_)
  subst hr
  exact DI ⟨σ3,H3,I4,qn⟩
 ·refine Di hp (thn (T.item X rfl rfl rfl hc i pins s3 σ3 H3 X.xe I3 (stat fr3) st3 go) λr s4 ⟨u,hr,h4⟩ =>?_)
  subst hr
  refine Di hp (thn h4 λ_ s5 ⟨x,H5,I5,r5,y5,st5,fr5⟩ =>?_)
  have I5':=I5.pinned (stat fr5) (T.obj _ _ st5)
  refine Di hp (thn (hg _ s5 σ3 H5 x u _ I5' r5 (step x H5 y5)) λ_ s6 ⟨σ6,H6,I6,q6⟩ =>?_)
  refine Di hp (thn (hb _ s6 σ6 H6 _ I6 q6) λf s7 q7 =>?_)
  have again:∀{σ7:St} {H7:Hp},Inv X (pins++fT fp s5.heap) σ7 H7 s7->N σ7 H7->∃m,m<n/\∃i σ' H',Inv X pins σ' H' s7/\tn i s7.heap/\(∀b∈fp,H' b=none)/\W i m σ' H':=λ{σ7 H7} I7 n7=>by
   obtain ⟨m',hm,w7⟩:=hN σ7 H7 n7
   refine ⟨m',hm,i+1,σ7,H7,I7.dC,T.keep _ _ _ st5 λb hb o e=>(I7.pin (b,o) (Bb _ (Bb _ (cU hb e)))).1,λb hb =>?_,w7⟩
   obtain ⟨o,e,d⟩:=T.obj _ _ st5 b hb
   exact (I7.pin (b,o) (Bb _ (Bb _ (cU hb e)))).2.1
  cases f with
  | next=>obtain ⟨σ7,H7,I7,n7⟩:=q7;exact again I7 n7
  | cont=>obtain ⟨σ7,H7,I7,n7⟩:=q7;exact again I7 n7
  | brk=>obtain ⟨σ7,H7,I7,q7⟩:=q7;exact ⟨σ7,H7,I7.dC,q7⟩
  | ret v=>obtain ⟨x7,σ7,H7,I7,r7,q7⟩:=q7;exact ⟨x7,σ7,H7,I7.dC,r7,q7⟩
end
theorem jk {K:Av}{a:Addr}{xs:List V}{g:TG}{tb:TS}{D:Ends}{σ:St}{H:Hp}(Pv:Nat->St->Hp->Prop)(h0:Pv 0 σ H)(hl:∀i σ H,i<=xs.length->Pv i σ H->SqL K H a xs)
  (hs:∀i x σ H,xs[i]? = some x->Pv i σ H->g x σ H λσ2 H2=>tb { D with nx:=Pv (i+1),ct:=Pv (i+1),bk:=D.nx } σ2 H2) (hd:∀σ H,Pv xs.length σ H->D.nx σ H) :
  ∃W:Nat->Nat->St->Hp->Prop,(∃m,W 0 m σ H)/\∀i m σ H,W i m σ H →
   ((Itl K a).stop i H/\D.nx σ H)\/((Itl K a).go i H/\∃N:St->Hp->Prop,(∀σ' H',N σ' H'->∃m',m'<m/\W (i+1) m' σ' H')/\∀x H',(Itl K a).yld i H x H'->g x σ H' λσ2 H2=>tb { D with nx:=N,ct:=N,bk:=D.nx } σ2 H2):=by
 refine ⟨λi m σ H=>m=xs.length-i/\i<=xs.length/\Pv i σ H,⟨xs.length,by simp,Bl _,h0⟩,?_⟩
 rintro i m σ H ⟨rfl,hi,p⟩
 have q:=hl i σ H hi p
 by_cases hlt:i<xs.length
 ·refine .inr ⟨⟨xs,xs[i],q,by simp[hlt]⟩,Pv (i+1),λσ' H' p'=>⟨xs.length-(i+1),by omega,rfl,hlt,p'⟩,λx H' y =>?_⟩
  obtain ⟨e,y⟩:=y
  subst e
  exact hs i x σ _ (y xs q) p
 ·have e:i=xs.length:=by omega
  subst e
  exact .inl ⟨⟨xs,q,AE _⟩,hd σ H p⟩
theorem vS {K:Av}{a:Addr}{xs:List V}{g:TG}{tb:TS}{D:Ends}{σ:St}{H:Hp}(Pv:Nat->St->Hp->Prop)(h0:Pv 0 σ H)(hl:∀i σ H,i<=xs.length->Pv i σ H->SqT K H a xs)
  (hs:∀i x σ H,xs[i]? = some x->Pv i σ H->g x σ H λσ2 H2=>tb { D with nx:=Pv (i+1),ct:=Pv (i+1),bk:=D.nx } σ2 H2) (hd:∀σ H,Pv xs.length σ H->D.nx σ H) :
  ∃W:Nat->Nat->St->Hp->Prop,(∃m,W 0 m σ H)/\∀i m σ H,W i m σ H →
   ((Itt K a).stop i H/\D.nx σ H)\/((Itt K a).go i H/\∃N:St->Hp->Prop,(∀σ' H',N σ' H'->∃m',m'<m/\W (i+1) m' σ' H')/\∀x H',(Itt K a).yld i H x H'->g x σ H' λσ2 H2=>tb { D with nx:=N,ct:=N,bk:=D.nx } σ2 H2):=by
 refine ⟨λi m σ H=>m=xs.length-i/\i<=xs.length/\Pv i σ H,⟨xs.length,by simp,Bl _,h0⟩,?_⟩
 rintro i m σ H ⟨rfl,hi,p⟩
 have q:=hl i σ H hi p
 by_cases hlt:i<xs.length
 ·refine .inr ⟨⟨xs,xs[i],q,by simp[hlt]⟩,Pv (i+1),λσ' H' p'=>⟨xs.length-(i+1),by omega,rfl,hlt,p'⟩,λx H' y =>?_⟩
  obtain ⟨e,y⟩:=y
  subst e
  exact hs i x σ _ (y xs q) p
 ·have e:i=xs.length:=by omega
  subst e
  exact .inl ⟨⟨xs,q,AE _⟩,hd σ H p⟩
theorem bJ {lo:Int}{n:Nat}{g:TG}{tb:TS}{D:Ends}{σ:St}{H:Hp}(Pv:Nat->St->Hp->Prop)(h0:Pv 0 σ H)
  (hs:∀i σ H,i<n->Pv i σ H->g (.int (lo+i)) σ H λσ2 H2=>tb { D with nx:=Pv (i+1),ct:=Pv (i+1),bk:=D.nx } σ2 H2) (hd:∀σ H,Pv n σ H->D.nx σ H) :
  ∃W:Nat->Nat->St->Hp->Prop,(∃m,W 0 m σ H)/\∀i m σ H,W i m σ H →
   ((Itr lo n).stop i H/\D.nx σ H)\/((Itr lo n).go i H/\∃N:St->Hp->Prop,(∀σ' H',N σ' H'->∃m',m'<m/\W (i+1) m' σ' H')/\∀x H',(Itr lo n).yld i H x H'->g x σ H' λσ2 H2=>tb { D with nx:=N,ct:=N,bk:=D.nx } σ2 H2):=by
 refine ⟨λi m σ H=>m=n-i/\i<=n/\Pv i σ H,⟨n,by simp,Bl _,h0⟩,?_⟩
 rintro i m σ H ⟨rfl,hi,p⟩
 by_cases hlt:i<n
 ·refine .inr ⟨hlt,Pv (i+1),λσ' H' p'=>⟨n-(i+1),by omega,rfl,hlt,p'⟩,λx H' y =>?_⟩
  obtain ⟨e,y⟩:=y
  subst e y
  exact hs i σ _ hlt p
 ·have e:i=n:=by omega
  subst e
  exact .inl ⟨AE _,hd σ H p⟩
theorem tR {c:TT}{tb:TS}{D:Ends}{σ:St}{H:Hp}(Pv:St->Hp->Prop)(μ:St->Hp->Nat)(h0:Pv σ H)
  (hs:∀σ H,Pv σ H->c σ H λb H1=>if b=true then tb { D with nx:=λσ' H'=>Pv σ' H' /\ μ σ' H'<μ σ H,ct:=λσ' H'=>Pv σ' H' /\ μ σ' H'<μ σ H,bk:=D.nx } σ H1 else D.nx σ H1)
  (mono:∀σ H Q Q',(∀b H1,Q b H1->Q' b H1)->c σ H Q->c σ H Q'):tN c tb D σ H:=by
 refine ⟨λm σ H=>m=μ σ H/\Pv σ H,⟨_,rfl,h0⟩,?_⟩
 rintro m σ H ⟨rfl,p⟩
 refine mono σ H _ _ (λb H1 q =>?_) (hs σ H p)
 cases b with
 | true=>exact ⟨_,λσ' H' ⟨p',l⟩=>⟨_,l,rfl,p'⟩,q⟩
 | false=>exact q
open PySem PySem.Spec PyProof.Rows
abbrev R2:=V->V->Hp->VK->Prop
def OpR (X:Cx)(f:Au->Au->Sem Au)(r:R2):Prop :=
 ∀(pins:List (Addr×Obj)) (s:Ax) (σ:St) (H:Hp) (x y:V) (v u:Au) (Q:VK),Inv X pins σ H s->RelV x v->RelV y u->r x y H Q →
  A7 (Bf X.prog X.w) X.A (f v u) (EP X pins σ Q) X.xe s
def UnR (X:Cx)(f:Au->Sem Au)(r:V->Hp->VK->Prop):Prop :=
 ∀(pins:List (Addr×Obj)) (s:Ax) (σ:St) (H:Hp) (x:V) (v:Au) (Q:VK),Inv X pins σ H s->RelV x v->r x H Q →
  A7 (Bf X.prog X.w) X.A (f v) (EP X pins σ Q) X.xe s
def cj (X:Cx)(f:Au)(r:List V->Hp->VK->Prop):Prop :=
 ∀(pins:List (Addr×Obj)) (s:Ax) (σ:St) (H:Hp) (xs:List V) (us:List Au) (Q:VK),Inv X pins σ H s->Vals xs us->r xs H Q →
  A7 (Bf X.prog X.w) X.A (call f us) (EP X pins σ Q) X.xe s
def TruR (X:Cx)(r:V->Hp->(Bool->Hp->Prop)->Prop):Prop :=
 ∀(pins:List (Addr×Obj)) (s:Ax) (σ:St) (H:Hp) (x:V) (v:Au) (Q:Bool->Hp->Prop),Inv X pins σ H s->RelV x v->r x H Q →
  A7 (Bf X.prog X.w) X.A (truthy v) (TP X pins σ Q) X.xe s
def tOp (r:R2)(ta tb:TE):TE:=λσ H Q=>ta σ H λx H1=>tb σ H1 λy H2=>r x y H2 Q
def tUn (r:V->Hp->VK->Prop)(ta:TE):TE:=λσ H Q=>ta σ H λx H1=>r x H1 Q
def rI (C:Int->Int->Prop)(g:Int->Int->V):R2:=λx y H Q=>∃i j,x = .int i/\y = .int j/\C i j/\Q (g i j) H
def rI0 (g:Int->Int->V):R2:=λx y H Q=>∃i j,x = .int i/\y = .int j/\Q (g i j) H
def rU (g:Int->V):V->Hp->VK->Prop:=λx H Q=>∃i,x = .int i/\Q (g i) H
section
variable  {X:Cx}{a b c:Expr}{ta tb tc:TE}{pos:Pos}
theorem ym (ha:PE X a ta)(hb:PE X b tb){pins:List (Addr×Obj)}{s:Ax}{σ:St}{H:Hp}{R:V->V->Hp->Prop}(I:Inv X pins σ H s)
  (h:ta σ H λx H1=>tb σ H1 λy H2=>R x y H2) {Q:Au->Ax->Prop} {f:Au->Au->Sem Au}
  (hf:∀v u s2 x y H2,Inv X pins σ H2 s2->RelV x v->RelV y u->R x y H2->A7 (Bf X.prog X.w) X.A (f v u) Q X.xe s2) :
  A7 (Bf X.prog X.w) X.A (eval a X.env) (λv s₁=>A7 (Bf X.prog X.w) X.A (eval b X.env) (λu s₂=>A7 (Bf X.prog X.w) X.A (f v u) Q X.xe s₂) X.xe s₁) X.xe s:=by
 refine thn (ha pins s σ H _ I h) λv s1 ⟨x,H1,I1,r1,q1⟩ =>?_
 refine thn (hb pins s1 σ H1 _ I1 q1) λu s2 ⟨y,H2,I2,r2,q2⟩ =>?_
 exact hf v u s2 x y H2 I2 r1 r2 q2
theorem ax {op:Operator}{r:R2}(ho:OpR X (binaryOp op) r)(ha:PE X a ta)(hb:PE X b tb):PE X (.BinOp a op b pos) (tOp r ta tb):=by
 intro pins s σ H Q I h
 exact wpAny_BinOp (ym ha hb I h λv u s2 x y H2 I2 rx ry q=>ho pins s2 σ H2 x y v u Q I2 rx ry q)
theorem qf {op:UnaryOp}{r:V->Hp->VK->Prop}(ho:UnR X (unaryOp op) r)(ha:PE X a ta):PE X (.UnaryOp op a pos) (tUn r ta):=by
 intro pins s σ H Q I h
 exact UnaryOp_ (thn (ha pins s σ H _ I h) λv s1 ⟨x,H1,I1,r1,q1⟩=>ho pins s1 σ H1 x v Q I1 r1 q1)
theorem opI {f:Au->Au->Sem Au}{C:Int->Int->Prop}{g:Int->Int->Int}
  (rule:∀(i j:Int) (t u:Tok) (s:Ax) (Q:Au->Ax->Prop) (E:Au->Ax->Prop),C i j->Q (.int (g i j) s.toks) { s with toks:=s.toks+1 }->A7 (Bf X.prog X.w) X.A (f (.int i t) (.int j u)) Q E s) :
  OpR X f (rI C λi j =>.int (g i j)):=by
 intro pins s σ H x y v u Q I rx ry h
 obtain ⟨i,j,rfl,rfl,hc,q⟩:=h
 obtain ⟨t,rfl⟩:=rx
 obtain ⟨t',rfl⟩:=ry
 exact rule i j t t' s _ _ hc ⟨.int (g i j),H,I.tok _,⟨_,rfl⟩,q⟩
theorem zF {f:Au->Au->Sem Au}{g:Int->Int->Int}
  (rule:∀(i j:Int) (t u:Tok) (s:Ax) (Q:Au->Ax->Prop) (E:Au->Ax->Prop),Q (.int (g i j) s.toks) { s with toks:=s.toks+1 }->A7 (Bf X.prog X.w) X.A (f (.int i t) (.int j u)) Q E s) :
  OpR X f (rI0 λi j =>.int (g i j)):=by
 intro pins s σ H x y v u Q I rx ry h
 obtain ⟨i,j,rfl,rfl,q⟩:=h
 obtain ⟨t,rfl⟩:=rx
 obtain ⟨t',rfl⟩:=ry
 exact rule i j t t' s _ _ ⟨.int (g i j),H,I.tok _,⟨_,rfl⟩,q⟩
theorem yn {f:Au->Au->Sem Au}{g:Int->Int->Bool}
  (rule:∀(i j:Int) (t u:Tok) (s:Ax) (Q:Au->Ax->Prop) (E:Au->Ax->Prop),Q (.bool (g i j)) s->A7 (Bf X.prog X.w) X.A (f (.int i t) (.int j u)) Q E s) :
  OpR X f (rI0 λi j =>.bl (g i j)):=by
 intro pins s σ H x y v u Q I rx ry h
 obtain ⟨i,j,rfl,rfl,q⟩:=h
 obtain ⟨t,rfl⟩:=rx
 obtain ⟨t',rfl⟩:=ry
 exact rule i j t t' s _ _ ⟨.bl (g i j),H,I,rfl,q⟩
def CDiv (i j:Int):Prop:=0<j/\j<1073741824
def CPow (i j:Int):Prop:=0<=j/\j<=1000000/\i.natAbs<2 ^ 64
def yo (i j:Int):Prop:=(-(2 ^ 64)<i/\i<2 ^ 64)\/(-(2 ^ 64)<j/\j<2 ^ 64)
theorem yo.ok {i j:Int}(h:yo i j):IntMulOk i j:=by
 rcases h with ⟨h1,h2⟩ | ⟨h1,h2⟩
 ·exact .of_left (intBits_le_64 h1 h2)
 ·exact .of_right (intBits_le_64 h1 h2)
theorem bB:OpR X (binaryOp .Add) (rI0 λi j =>.int (i+j)):=zF λ_ _ _ _ _ _ _ q=>add_int q
theorem jl:OpR X (binaryOp .Sub) (rI0 λi j =>.int (i-j)):=zF λ_ _ _ _ _ _ _ q=>sub_int q
theorem dP:OpR X (binaryOp .Mult) (rI yo λi j =>.int (i*j)):=opI λ_ _ _ _ _ _ _ hc q=>mul_int q hc.ok
theorem fC:OpR X (binaryOp .FloorDiv) (rI CDiv λi j =>.int (i/j)):=opI λi j _ _ _ _ _ hc q=>by
 have h1:(0:Int)<j:=hc.1
 have h2:j<1073741824:=hc.2
 exact floordiv_int (by omega) (by rw[Int.fdiv_eq_ediv_of_nonneg i (by omega)];exact q) (.inl (PyProof.noPylong_small (by omega)))
theorem dQ:OpR X (binaryOp .Mod) (rI (λ_ j=>0<j) λi j =>.int (i%j)):=opI λi j _ _ _ _ _ hc q=>by
 have h1:(0:Int)<j:=hc
 exact mod_int' (by omega) (by rw[Int.fmod_eq_emod_of_nonneg i (by omega)];exact q)
theorem fU:OpR X (binaryOp .Pow) (rI CPow λi j =>.int (i ^ j.toNat)):=opI λ_ _ _ _ _ _ _ hc q=>pow_int_small hc.1 hc.2.1 hc.2.2 q
theorem unI {f:Au->Sem Au}{g:Int->Int}
  (rule:∀(i:Int) (t:Tok) (s:Ax) (Q:Au->Ax->Prop) (E:Au->Ax->Prop),Q (.int (g i) s.toks) { s with toks:=s.toks+1 }->A7 (Bf X.prog X.w) X.A (f (.int i t)) Q E s) :
  UnR X f (rU λi =>.int (g i)):=by
 intro pins s σ H x v Q I rx h
 obtain ⟨i,rfl,q⟩:=h
 obtain ⟨t,rfl⟩:=rx
 exact rule i t s _ _ ⟨.int (g i),H,I.tok _,⟨_,rfl⟩,q⟩
theorem mi:UnR X (unaryOp .USub) (rU λi =>.int (-i)):=unI λ_ _ _ _ _ q=>neg_int q
end
def zG:V->V->Bool
 | .non,.non=>true | .non,.int _=>true | .int _,.non=>true | .non,.bl _=>true | .bl _,.non=>true | .non,.str _=>true | .str _,.non=>true
 | .int _,.int _=>true | .bl _,.bl _=>true | .str _,.str _=>true | .byt _,.byt _=>true
 | .int _,.str _=>true | .str _,.int _=>true | .bl _,.str _=>true | .str _,.bl _=>true
 | _,_=>false
def rEq:R2:=λx y H Q=>zG x y=true/\Q (.bl (decide (x=y))) H
def rNe:R2:=λx y H Q=>zG x y=true/\Q (.bl (!decide (x=y))) H
theorem qg {i j:Int}:decide (V.int i=V.int j)=(i == j):=by
 rw[Co]
 simp
theorem tS {i j:Bool}:decide (V.bl i=V.bl j)=(i == j):=by
 rw[Co]
 simp
theorem qh {i j:Str}:decide (V.str i=V.str j)=(i == j):=by
 rw[Co]
 simp
theorem qi {i j:Array UInt8}:decide (V.byt i=V.byt j)=(i.toList == j.toList):=by
 rw[Co]
 cases i
 cases j
 simp
section
variable  {X:Cx}{a b c:Expr}{ta tb tc:TE}{pos:Pos}
theorem aR {pins:List (Addr×Obj)}{σ:St}{H:Hp}{s:Ax}{Q:VK}{k k':Bool}(I:Inv X pins σ H s)(q:Q (.bl k) H)(e:k=k'):EP X pins σ Q (.bool k') s:=by
 subst e
 exact ⟨.bl k,H,I,rfl,q⟩
theorem eM:OpR X (Cf .Eq) rEq:=by
 intro pins s σ H x y v u Q I rx ry h
 obtain ⟨hs,q⟩:=h
 cases x with
 | non =>
  cases rx
  cases y with
  | non=>cases ry;exact PySem.EqNone.eq_none_none (aR I q (by simp))
  | bl j=>cases ry;exact PySem.EqNone.eq_none_bool (aR I q (by simp))
  | int j=>obtain ⟨t',rfl⟩:=ry;exact PySem.EqNone.eq_none_int (aR I q (by simp))
  | str j=>obtain ⟨t',rfl⟩:=ry;exact PySem.EqNone.eq_none_str (aR I q (by simp))
  | _=>exact absurd (show false=true from hs) AV
 | bl i =>
  cases rx
  cases y with
  | non=>cases ry;exact PySem.EqNone.eq_bool_none (aR I q (by simp))
  | bl j=>cases ry;exact eq_bool (aR I q tS)
  | str j=>obtain ⟨t',rfl⟩:=ry;exact Ir (aR I q (by simp))
  | _=>exact absurd (show false=true from hs) AV
 | int i =>
  obtain ⟨t,rfl⟩:=rx
  cases y with
  | non=>cases ry;exact PySem.EqNone.eq_int_none (aR I q (by simp))
  | int j=>obtain ⟨t',rfl⟩:=ry;exact eq_int (aR I q qg)
  | str j=>obtain ⟨t',rfl⟩:=ry;exact IC (aR I q (by simp))
  | _=>exact absurd (show false=true from hs) AV
 | str i =>
  obtain ⟨t,rfl⟩:=rx
  cases y with
  | non=>cases ry;exact PySem.EqNone.eq_str_none (aR I q (by simp))
  | bl j=>cases ry;exact Iu (aR I q (by simp))
  | int j=>obtain ⟨t',rfl⟩:=ry;exact ID (aR I q (by simp))
  | str j=>obtain ⟨t',rfl⟩:=ry;exact eq_str (aR I q qh)
  | _=>exact absurd (show false=true from hs) AV
 | byt i =>
  obtain ⟨t,rfl⟩:=rx
  cases y with
  | byt j=>obtain ⟨t',rfl⟩:=ry;exact PySem.W.eq_bytes (aR I q qi)
  | _=>exact absurd (show false=true from hs) AV
 | _=>cases y <;> exact absurd (show false=true from hs) AV
theorem xM:OpR X (Cf .NotEq) rNe:=by
 intro pins s σ H x y v u Q I rx ry h
 obtain ⟨hs,q⟩:=h
 cases x with
 | non =>
  cases rx
  cases y with
  | non=>cases ry;exact PySem.EqNone.ne_none_none (aR I q (by simp))
  | bl j=>cases ry;exact PySem.EqNone.ne_none_bool (aR I q (by simp))
  | int j=>obtain ⟨t',rfl⟩:=ry;exact PySem.EqNone.ne_none_int (aR I q (by simp))
  | str j=>obtain ⟨t',rfl⟩:=ry;exact PySem.EqNone.ne_none_str (aR I q (by simp))
  | _=>exact absurd (show false=true from hs) AV
 | bl i =>
  cases rx
  cases y with
  | non=>cases ry;exact PySem.EqNone.ne_bool_none (aR I q (by simp))
  | bl j=>cases ry;exact ne_bool (aR I q (congrArg not tS))
  | str j=>obtain ⟨t',rfl⟩:=ry;exact Iv (aR I q (by simp))
  | _=>exact absurd (show false=true from hs) AV
 | int i =>
  obtain ⟨t,rfl⟩:=rx
  cases y with
  | non=>cases ry;exact PySem.EqNone.ne_int_none (aR I q (by simp))
  | int j=>obtain ⟨t',rfl⟩:=ry;exact ne_int (aR I q (congrArg not qg))
  | str j=>obtain ⟨t',rfl⟩:=ry;exact IE (aR I q (by simp))
  | _=>exact absurd (show false=true from hs) AV
 | str i =>
  obtain ⟨t,rfl⟩:=rx
  cases y with
  | non=>cases ry;exact PySem.EqNone.ne_str_none (aR I q (by simp))
  | bl j=>cases ry;exact Iw (aR I q (by simp))
  | int j=>obtain ⟨t',rfl⟩:=ry;exact IG (aR I q (by simp))
  | str j=>obtain ⟨t',rfl⟩:=ry;exact ne_str (aR I q (congrArg not qh))
  | _=>exact absurd (show false=true from hs) AV
 | byt i =>
  obtain ⟨t,rfl⟩:=rx
  cases y with
  | byt j=>obtain ⟨t',rfl⟩:=ry;exact PySem.W.ne_bytes (aR I q (congrArg not qi))
  | _=>exact absurd (show false=true from hs) AV
 | _=>cases y <;> exact absurd (show false=true from hs) AV
theorem qj:OpR X (Cf .Lt) (rI0 λi j =>.bl (decide (i<j))):=yn λ_ _ _ _ _ _ _ q=>lt_int q
theorem nD:OpR X (Cf .Gt) (rI0 λi j =>.bl (decide (j<i))):=yn λ_ _ _ _ _ _ _ q=>gt_int q
theorem xN:OpR X (Cf .GtE) (rI0 λi j =>.bl (decide (j<=i))):=yn λ_ _ _ _ _ _ _ q=>ge_int q
theorem aS (b:Expr){op:CmpOp}(h:op ≠ .In:=by decide)(h2:op ≠ .NotIn:=by decide):behindInMarks op b=false:=by
 have e1:(op == CmpOp.In)=false:=by cases op <;> first | rfl | exact absurd rfl h
 have e2:(op == CmpOp.NotIn)=false:=by cases op <;> first | rfl | exact absurd rfl h2
 cases b <;> simp[behindInMarks,e1,e2]
theorem dR {op:CmpOp}{r:R2}(ho:OpR X (Cf op) r)(ha:PE X a ta)(hb:PE X b tb)(hm:behindInMarks op b=false):PE X (.Compare a [op] [b] pos) (tOp r ta tb):=by
 intro pins s σ H Q I h
 exact wpAny_Compare1 (ym ha hb I h λv u s2 x y H2 I2 rx ry q=>ho pins s2 σ H2 x y v u Q I2 rx ry q) hm
def zI (t:TE):TT:=λσ H Q=>t σ H λx H'=>∃k,x = .bl k/\Q k H'
theorem aG {op:CmpOp}{r:R2}(ho:OpR X (Cf op) r)(ha:PE X a ta)(hb:PE X b tb)(hm:behindInMarks op b=false):PT X (.Compare a [op] [b] pos) (zI (tOp r ta tb)):=by
 intro pins s σ H Q I h
 refine Gm (thn (ha pins s σ H _ I h) λv s1 ⟨x,H1,I1,r1,q1⟩=>thn (hb pins s1 σ H1 _ I1 q1) λu s2 ⟨y,H2,I2,r2,q2⟩ =>
  thn (ho pins s2 σ H2 x y v u _ I2 r1 r2 q2) λc s3 ⟨z,H3,I3,r3,k,e,q3⟩ =>?_) hm
 subst e
 cases r3
 exact CT ⟨H3,I3,q3⟩
def zJ (K:Av)(x:V)(H:Hp)(k:Bool):Prop :=
 match x with
 | .non=>k=false
 | .bl b=>k=b
 | .int i=>k=(i != 0)
 | .str y=>y.length<=AH/\k=((y.length:Int) != 0)
 | .byt y=>y.size<=AH/\k=((y.size:Int) != 0)
 | .ref p=>(∃xs,SqL K H p xs/\k = !xs.isEmpty)\/(∃xs,SqT K H p xs/\k = !xs.isEmpty)\/∃kvs,H p=some (.dK kvs)/\k = !kvs.isEmpty
 | _=>False
theorem oV {κ:Type}{kvs:List (κ×V)}{vs:List (κ×Au)}(r:KV kvs vs):(!vs.isEmpty) = !kvs.isEmpty:=by
 cases r <;> rfl
theorem jm {xs:List V}{its:List Au}(r:Vals xs its):(!its.toArray.isEmpty) = !xs.isEmpty:=by
 cases r <;> simp
theorem jq:(AH:Nat)<2 ^ 63:=by rw[EW];decide
theorem yp:TruR X (λx H Q=>∃k,zJ X.K x H k/\Q k H):=by
 intro pins s σ H x v Q I rx h
 obtain ⟨k,e,q⟩:=h
 have hl:=jq
 have hs:AH=16777216:=EW
 cases x with
 | non =>
  cases rx
  have e':k=false:=e
  subst e'
  exact truthy_none ⟨H,I,q⟩
 | bl b =>
  cases rx
  have e':k=b:=e
  subst e'
  exact CT ⟨H,I,q⟩
 | int i =>
  obtain ⟨t,rfl⟩:=rx
  have e':k=(i != 0):=e
  subst e'
  exact PySem.P.truthy_int ⟨H,I,q⟩
 | str y =>
  obtain ⟨t,rfl⟩:=rx
  obtain ⟨hy,e'⟩:y.length<=AH/\k=((y.length:Int) != 0):=e
  subst e'
  exact PySem.P.truthy_str (by omega) ⟨H,I.tok _,q⟩
 | byt y =>
  obtain ⟨t,rfl⟩:=rx
  obtain ⟨hy,e'⟩:y.size<=AH/\k=((y.size:Int) != 0):=e
  subst e'
  exact PySem.W.truthy_bytes (by omega) ⟨H,I.tok _,q⟩
 | ref p =>
  cases rx
  have e':(∃xs,SqL X.K H p xs/\k = !xs.isEmpty)\/(∃xs,SqT X.K H p xs/\k = !xs.isEmpty)\/∃kvs,H p=some (.dK kvs)/\k = !kvs.isEmpty:=e
  rcases e' with ⟨xs,hx,e'⟩ | ⟨xs,hx,e'⟩ | ⟨kvs,hx,e'⟩
  ·subst e'
   obtain ⟨its,r,pl,hz⟩:=I.list hx
   have hlen:=r.length
   exact wpAny_truthy_list pl.isList (by simp only[Aw];omega) ⟨H,I.tok _,by rw[jm r];exact q⟩
  ·subst e'
   obtain ⟨its,r,pl,hz⟩:=I.tuple hx
   have hlen:=r.length
   exact truthy_tuple pl (by simp only[Aw];omega) ⟨H,I.tok _,by rw[jm r];exact q⟩
  ·subst e'
   obtain ⟨hz,hS,vs,r,m⟩:kvs.length<=AH/\(p == sysModules)=false/\∃vs,KV kvs vs/\s.heap.DictOf (bL X.prog X.w) p vs:=I.hok p _ hx
   have hlen:kvs.length=vs.length:=C5 r
   exact wpAny_truthy_dict hS m (by omega) ⟨H,I.tok _,by rw[oV r];exact q⟩
 | _=>exact (show False from e).elim
theorem tU (ha:PE X a ta)(he:∀whole,isTrue a X.env whole=(do let v ← whole;standAt a.pos;GQ [v] (truthy v))) :
    PT X a (λσ H Q=>ta σ H λx H'=>∃k,zJ X.K x H' k/\Q k H'):=by
  intro pins s σ H Q I h
  exact isTrue_plain (thn (ha pins s σ H _ I h) λv s1 ⟨x,H1,I1,r1,q1⟩=>yp pins s1 σ H1 x v Q I1 r1 q1) (he _)
theorem vals1 {x:V}{us:List Au}(r:Vals [x] us):∃u,us=[u]/\RelV x u:=by
 cases r with
 | cons r1 r2=>cases r2;exact ⟨_,rfl,r1⟩
theorem vals2 {x y:V}{us:List Au}(r:Vals [x,y] us):∃u w',us=[u,w']/\RelV x u/\RelV y w':=by
 cases r with
 | cons r1 r2 =>
  cases r2 with
  | cons r3 r4=>cases r4;exact ⟨_,_,rfl,r1,r3⟩
theorem rF (hc:X.calm=true):cj X (.builtin "max") (λxs H Q=>∃i j,xs=[.int i,.int j]/\Q (.int (if j>i then j else i)) H):=by
 intro pins s σ H xs us Q I r h
 obtain ⟨i,j,rfl,q⟩:=h
 obtain ⟨u,w',rfl,⟨t,rfl⟩,⟨t',rfl⟩⟩:=vals2 r
 refine max_two_ints (I.ok.hd hc) λh' tk k=>⟨_,H,I.kept k,?_,q⟩
 by_cases hj:j>i
 ·rw[if_pos hj,if_pos hj];exact ⟨_,rfl⟩
 ·rw[if_neg hj,if_neg hj];exact ⟨_,rfl⟩
theorem kR (hc:X.calm=true):cj X (.builtin "min") (λxs H Q=>∃i j,xs=[.int i,.int j]/\Q (.int (if j<i then j else i)) H):=by
 intro pins s σ H xs us Q I r h
 obtain ⟨i,j,rfl,q⟩:=h
 obtain ⟨u,w',rfl,⟨t,rfl⟩,⟨t',rfl⟩⟩:=vals2 r
 refine min_two_ints (I.ok.hd hc) λh' tk k=>⟨_,H,I.kept k,?_,q⟩
 by_cases hj:j<i
 ·rw[if_pos hj,if_pos hj];exact ⟨_,rfl⟩
 ·rw[if_neg hj,if_neg hj];exact ⟨_,rfl⟩
theorem rG:cj X (.type "int") (λxs H Q=>(∃i,xs=[.int i]/\Q (.int i) H)\/∃k,xs=[.bl k]/\Q (.int (if k then 1 else 0)) H):=by
 intro pins s σ H xs us Q I r h
 rcases h with ⟨i,rfl,q⟩ | ⟨k,rfl,q⟩
 ·obtain ⟨u,rfl,t,rfl⟩:=vals1 r
  exact call_int_int ⟨.int i,H,I,⟨_,rfl⟩,q⟩
 ·obtain ⟨u,rfl,r1⟩:=vals1 r
  cases r1
  exact call_int_bool ⟨.int (if k then 1 else 0),H,I.tok _,⟨_,rfl⟩,q⟩
end
open PySem PySem.Spec PyProof.Rows
structure yq (h:Heap)(x dx C:Addr)(mA:Str->Option Au):Prop where
 obj:h.get? x=some (PySem.W.instObj C dx)
 ns:h.Ns1 dx mA
 ne:dx≠x
theorem rH {h:Heap}{dx:Addr}{mA:Str->Option Au}(n:h.Ns1 dx mA):∃od,h.get? dx=some od/\∀name,PySem.W.lookIn name od=some (mA name):=by
 obtain ⟨o,es,ep,ho,hd,hk,_,hm⟩:=n
 refine ⟨o,ho,λname =>?_⟩
 have e:=hm name
 unfold nsFind findBy at e
 rw[<- Array.find?_toList] at e
 unfold PySem.W.lookIn
 rw[hd]
 dsimp only
 split
 ·rename_i y q
  rw[q] at e
  exact congrArg some e
 ·rename_i q
  rw[q] at e
  have a:es.toList.any (·.refKey)=false:=by
   rw[List.any_eq_false]
   intro y hy
   obtain ⟨z,t,hkey⟩:=hk y (Be.mp hy)
   simp[DictEntry.refKey,hkey]
  have a':¬ es.toList.any (·.refKey)=true:=by rw[a];exact AV
  rw[if_neg a']
  exact congrArg some e
theorem yq.look {h:Heap}{x dx C:Addr}{mA:Str->Option Au}(I:yq h x dx C mA):∃od,PySem.W.InstAt h x (PySem.W.instObj C dx) C (some od)/\∀name,PySem.W.lookIn name od=some (mA name) :=
 let ⟨od,ho,hl⟩:=rH I.ns
 ⟨od,⟨I.obj,rfl,rfl,ho⟩,hl⟩
section
variable  {prog:AN}{w:Bh}{A:BA}{E:Au->Ax->Prop}{s:Ax}{K:Av}{x dx C f:Addr}{mA:Str->Option Au}{name:Str}{v:Au}
end
section
variable  {P:AN}{w:Bh}{H H':Hp}{h h':Heap}{a C dx:Addr}{fs fs':List (Str×V)}
theorem vT (hok:HOk P w H h)(e:H a=some (.ins C dx fs)):∃mA,yq h a dx C mA/\(∀f,oQ (fs.lookup f) (mA f))/\PySem.Within mA (fs.map (·.1))/\fs.length<=1000/\H dx=some (.own a):=by
 obtain ⟨d,z,ne,ob,mA,n,r,q⟩:=(show aZ P w H h a (.ins C dx fs) from hok a _ e)
 exact ⟨mA,⟨ob,n,ne⟩,r,q,z,d⟩
end
structure Cls (K:Av)(C:Addr):Prop where
 pg:PySem.W.plainGet K C Str.empty=true
 hd:PySem.W.hasDictIn K C=true
 po:PySem.W.plainOver K C=true
 sa:PySem.W.findIn K (.ref C) "__setattr__" = some (some (.builtin "object.__setattr__"))
theorem Cls.get {K:Av}{C:Addr}(c:Cls K C)(f:Str):PySem.W.plainGet K C f=true:=c.pg
section
variable  {X:Cx}{pins:List (Addr×Obj)}{σ:St}{H:Hp}{s:Ax}{a C dx:Addr}{fs:List (Str×V)}{f:Str}{v:V}{A:BA}{E:Au->Ax->Prop}
end
section
variable  {X:Cx}{o e value:Expr}{f:Str}{pos pos' tpos:Pos}{ta tv:TE}
end
section
variable  {X:Cx}{pins:List (Addr×Obj)}{σ:St}{H:Hp}{s:Ax}{A:BA}{E:Au->Ax->Prop}{Q:Au->Ax->Prop}{c:Au}{b:Bool}
inductive gy (K:Av)(H:Hp):V->Au->Prop where
 | non:gy K H .non (.type "NoneType")
 | bl (x:Bool):gy K H (.bl x) (.type "bool")
 | int (i:Int):gy K H (.int i) (.type "int")
 | str (x:Str):gy K H (.str x) (.type "str")
 | flt (x:UInt64):gy K H (.flt x) (.type "float")
 | lst {a:Addr} {xs:List V} (e:H a=some (.lst xs)):gy K H (.ref a) (.type "list")
 | frz {a:Addr} {o:Obj} {xs:List V} (e:H a=some (.frz o (.lst xs))):gy K H (.ref a) (.type "list")
 | tup {a:Addr} {xs:List V} (e:H a=some (.tup xs)):gy K H (.ref a) (.type "tuple")
 | dK {a:Addr} {kvs:List (Key×V)} (e:H a=some (.dK kvs)):gy K H (.ref a) (.type "dict")
 | dT {a:Addr} {kvs:List (List Key×V)} (e:H a=some (.dT kvs)):gy K H (.ref a) (.type "dict")
 | ins {a C dx:Addr} {fs:List (Str×V)} (e:H a=some (.ins C dx fs)) (cl:Cls K C) (ha:PySem.W.findIn K (.ref C) "__class__" = some (some (.builtin "object.__class__")))
   (hn:PySem.W.specialIn K (.builtin "object.__class__") "__get__" = some (some (.builtin "getset_descriptor.__get__"))) (htk:PySem.W.takesIn K (.builtin "object.__class__")=some true)
   (hm:PySem.W.mroIn K C (.type "object")=some true):gy K H (.ref a) (.ref C)
theorem rJ {x:V}{u t:Au}(I:Inv X pins σ H s)(rx:RelV x u)(ty:gy X.K H x t)(e:PySem.W.kitOne X.K t c=some b)(h:∀tk,Q (.bool b) { s with toks:=tk }) :
  A7 (Bf X.prog X.w) A (call (.builtin "isinstance") [u,c]) Q E s:=by
 cases ty with
 | non=>cases (show u=CC from rx);exact Ci PySem.W.kitx_none I.kIn True.intro e (λz=>nomatch z) h
 | bl y=>cases (show u=Value.bool y from rx);exact Ci PySem.W.kitx_bool I.kIn True.intro e (λz=>nomatch z) h
 | int i=>obtain ⟨t,q⟩:=(show ∃t,u=Cs i t from rx);cases q;exact Ci PySem.W.kitx_int I.kIn True.intro e (λz=>nomatch z) h
 | str y=>obtain ⟨t,q⟩:=(show ∃t,u=Value.str y t from rx);cases q;exact Ci PySem.W.kitx_str I.kIn True.intro e (λz=>nomatch z) h
 | flt y=>obtain ⟨t,q⟩:=(show ∃t,u=Value.float y t from rx);cases q;exact Ci PySem.W.kitx_float I.kIn True.intro e (λz=>nomatch z) h
 | @lst a xs ea =>
  cases (show u=AS a from rx)
  obtain ⟨_,_,n,_,h1⟩:=(show aZ X.prog X.w H s.heap a (.lst xs) from I.hok a _ ea)
  exact Ci Hn I.kIn ⟨_,h1,rfl⟩ e (λz=>nomatch z) h
 | @frz a ob xs ea =>
  cases (show u=AS a from rx)
  obtain ⟨_,_,_,n,_,h1⟩:=(show aZ X.prog X.w H s.heap a (.frz ob (.lst xs)) from I.hok a _ ea)
  exact Ci Hn I.kIn ⟨_,h1,rfl⟩ e (λz=>nomatch z) h
 | @tup a xs ea =>
  cases (show u=AS a from rx)
  obtain ⟨_,_,_,p⟩:=(show aZ X.prog X.w H s.heap a (.tup xs) from I.hok a _ ea)
  obtain ⟨o,h1,h2,_⟩:=p
  exact Ci PySem.W.kitx_tuple I.kIn ⟨o,h1,h2.1⟩ e (λz=>nomatch z) h
 | @dK a kvs ea =>
  cases (show u=AS a from rx)
  obtain ⟨_,_,vs,_,p⟩:=(show aZ X.prog X.w H s.heap a (.dK kvs) from I.hok a _ ea)
  obtain ⟨o,es,ep,h1,h2,_⟩:=p
  exact Ci Ho I.kIn ⟨o,h1,h2.1⟩ e (λz=>nomatch z) h
 | @dT a kvs ea =>
  cases (show u=AS a from rx)
  obtain ⟨_,_,xs,_,o,es,ep,h1,h2,_⟩:=(show aZ X.prog X.w H s.heap a (.dT kvs) from I.hok a _ ea)
  exact Ci Ho I.kIn ⟨o,h1,h2.1⟩ e (λz=>nomatch z) h
 | @ins a C dx fs ea cl ha hn htk hm =>
  cases (show u=AS a from rx)
  obtain ⟨mA,O,_⟩:=vT I.hok ea
  obtain ⟨od,J,_⟩:=O.look
  exact Ci (PySem.W.kitx_own (cl.get _) cl.hd ha hn htk hm) I.kIn J e (λz=>nomatch z) h
end
open PySem PySem.Spec PyProof.Rows
structure bW (k:Nat)(A:BA):Prop where
 hd:A.handled=none
 dp:A.depth+3*k+5<recursionLimit
 un:A.units+16*k+200<cLine
theorem bW.mono {j k:Nat}{A:BA}(r:bW k A)(h:j<=k):bW j A:=⟨r.hd,by have:=r.dp;omega,by have:=r.un;omega⟩
theorem bW.deeper {k:Nat}{A:BA}(r:bW (k+1) A)(env:Env):bW k (A.deeper env) :=
 ⟨r.hd,by have:=r.dp;show A.depth+1+3*k+5<_;omega,by have:=r.un;show A.units+3+16*k+200<_;omega⟩
theorem bW.depth {k:Nat}{A:BA}(r:bW k A):A.depth<recursionLimit:=by have:=r.dp;omega
theorem bW.units {k:Nat}{A:BA}(r:bW k A):A.units+64<cLine:=by have:=r.un;omega
def tNil:TA:=λ_ H Q=>Q [] H
def zK (ta:TE)(tr:TA):TA:=λσ H Q=>ta σ H λx H1=>tr σ H1 λxs H2=>Q (x :: xs) H2
section
variable  {X:Cx}{e:Expr}{es:List Expr}{te:TE}{t:TA}{pos:Pos}
theorem ae:PA X [] tNil:=λ_ _ _ _ H Q I h=>Calls.spliced_nil ⟨[],H,I,.nil,h⟩
theorem aa (ha:PE X e te)(hr:PA X es t)(hs:BD (e :: es) X.env=(false,eval e X.env) :: BD es X.env:=by rfl):PA X (e :: es) (zK te t):=by
 intro pos pins s σ H Q I h
 rw[hs]
 show A7 _ _ (spliced ((false,eval e X.env) :: DV pos (BD es X.env))) _ _ s
 refine Calls.spliced_cons (thn (ha pins s σ H _ I h) λu s1 ⟨x,H1,I1,r1,q1⟩ =>?_)
 exact thn (hr pos pins s1 σ H1 _ I1 q1) λus s2 ⟨xs,H2,I2,r2,q2⟩=>⟨x :: xs,H2,I2,.cons r1 r2,q2⟩
def tTup (t:TA):TE:=λσ H Q=>t σ H λxs H1=>xs.length<=AH/\∀p,H1 p=none->Q (.ref p) (upd H1 p (.tup xs))
def tLst (t:TA):TE:=λσ H Q=>t σ H λxs H1=>xs.length<=AH/\∀p,H1 p=none->Q (.ref p) (upd H1 p (.lst xs))
theorem aL {x1}(h:PA X es t):PE X (.Tuple es x1 pos) (tTup t):=by
 intro pins s σ H Q I hq
 refine wpAny_Tuple_spliced (thn (h pos pins s σ H _ I hq) λus s1 ⟨xs,H1,I1,r,z,q⟩=>⟨by rw[<- r.length];exact z,?_⟩)
 have hf:H1 s1.heap.objs.size=none:=I1.hok.fresh (AE _)
 refine ⟨.ref s1.heap.objs.size,upd H1 s1.heap.objs.size (.tup xs),I1.laid (t':=s1.toks) (λb u e=>Az _ e) (AE _) ?_,rfl,q _ hf⟩
 exact ⟨z,us,r,⟨_,AX _ rfl,⟨rfl,rfl⟩,_,rfl⟩⟩
theorem bK (h:PA X es t):PE X (.List es pos) (tLst t):=by
 intro pins s σ H Q I hq
 refine wpAny_List_spliced (thn (h pos pins s σ H _ I hq) λus s1 ⟨xs,H1,I1,r,z,q⟩=>⟨by rw[<- r.length];exact z,?_⟩)
 have hf:H1 s1.heap.objs.size=none:=I1.hok.fresh (AE _)
 refine ⟨.ref s1.heap.objs.size,upd H1 s1.heap.objs.size (.lst xs),I1.laid (t':=s1.toks) (λb u e=>Az _ e) (AE _) ?_,rfl,q _ hf⟩
 exact ⟨z,us,0,r,AX _ rfl⟩
end
abbrev Sp:=List V->Hp->VK->XK->Prop
abbrev CXT:=List Env->Hp->Ax->XK->Au->Ax->Prop
structure vU (P:AN)(w:Bh)(K:Av)(mg:Str->Option Au)(base:Heap)(A:BA)(outer:List Env)(s:Ax)(H:Hp):Prop where
 frames:A.frames=some outer
 mod:Mod K mg base
 bs:∀b o,base.get? b=some o->s.heap.get? b=some o/\H b=none
 bsz:base.objs.size<=s.heap.objs.size
 funs:s.heap.FunFrames base outer
 frf:∀b∈frs outer,H b=none
 hok:HOk P w H s.heap
 bare:AllBare s.gens
def CE (outer:List Env)(P:AN)(w:Bh)(H:Hp)(s:Ax)(Q:VK)(u:Au)(s':Ax):Prop :=
 ∃v H',s'.os=s.os/\AllBare s'.gens/\Un (frs outer) [] H H' s.heap s'.heap/\HOk P w H' s'.heap/\RelV v u/\Q v H'
def CR (CX:CXT)(outer:List Env)(P:AN)(w:Bh)(H:Hp)(s:Ax)(Q:VK)(E:XK)(r:Result)(s':Ax):Prop :=
 match r with
 | .ok (.ret u)=>CE outer P w H s Q u s'
 | .ok _=>False
 | .error e=>CX outer H s E e s'
structure bE (P:AN)(w:Bh)(K:Av)(mg:Str->Option Au)(base:Heap)(CX:CXT)(k:Nat)(f:Addr)(fd:BJ)(ps:List Str)(sp:Sp):Prop where
 len:∀vs H Q E,sp vs H Q E->vs.length=ps.length
 run:∀(A:BA) (outer:List Env) (s:Ax) (H:Hp) (args:Args) (us:List Au) (vs:List V) (Q:VK) (E:XK),bW k A->vU P w K mg base A outer s H->BindsTo s fd args (ps.zip us)->Vals vs us->sp vs H Q E →
  FN (Bf P w) A (.call (.ref f) args) (CR CX outer P w H s Q E) s
section
variable  {X:Cx}{pins:List (Addr×Obj)}{σ:St}{H:Hp}{s s':Ax}
theorem Inv.zL (I:Inv X pins σ H s):vU X.prog X.w X.K X.mg X.base X.A X.stack s H :=
 ⟨I.ok.frames,I.ok.mod,I.bs,A5 I.ok.bsz I.sz,I.stack,I.mh,I.hok,I.bare⟩
theorem Inv.after {Q:VK}{u:Au}(I:Inv X pins σ H s)(h:CE X.stack X.prog X.w H s Q u s'):EP X pins σ Q u s':=by
 obtain ⟨v,H',os,bare,un,hok,r,q⟩:=h
 obtain ⟨hh,g,d,t,os'⟩:=s'
 obtain rfl:os'=s.os:=os
 exact ⟨v,H',I.call (h':=hh) (g':=g) (d':=d) (t':=t) (ch:=[]) un hok bare (λb z=>absurd z (by simp)),r,q⟩
end
def tV (sp:Sp)(dvs:List V)(E:XK)(t:TA):TE:=λσ H Q=>t σ H λvs H1=>sp (vs++dvs) H1 Q E
def Binds (K:Av)(fd:BJ)(ps:List Str)(ds:List Au):Prop :=
 ∀(s:Ax) (us:List Au),K.In s.heap->(us++ds).length=ps.length->BindsTo s fd ⟨us,[]⟩ (ps.zip (us++ds))
theorem Binds.all {K:Av}{fd:BJ}{ps:List Str}(h:∀us:List Au,us.length=ps.length->bindArgs fd ⟨us,[]⟩=pure (ps.zip us)):Binds K fd ps []:=λs us _ hl=>by
 rw[Bj] at hl ⊢
 exact .of_eq (h us hl)
def Passes (CX:CXT)(X:Cx)(E:XK):Prop:=∀(pins:List (Addr×Obj)) (σ:St) (H:Hp) (s:Ax) (e:Au) (s':Ax),Inv X pins σ H s->CX X.stack H s E e s'->X.xe e s'
section
variable  {X:Cx}{CX:CXT}{k:Nat}{f C:Addr}{fd:BJ}{ps:List Str}{sp:Sp}{dvs:List V}{ds:List Au}{E:XK}{x m:Str}{p pos apos:Pos}{e o:Expr}{es:List Expr}{ta:TE}{t:TA}
theorem yr {pins:List (Addr×Obj)}{σ:St}{H:Hp}{s:Ax}{Q:VK}{us:List Au}{vs:List V}(F:bE X.prog X.w X.K X.mg X.base CX k f fd ps sp)(hr:bW k X.A)(hb:Binds X.K fd ps ds)(hd:Vals dvs ds)(hx:Passes CX X E)
  (I:Inv X pins σ H s) (r:Vals vs us) (h:sp (vs++dvs) H Q E):A7 (Bf X.prog X.w) X.A (call (.ref f) us) (EP X pins σ Q) X.xe s:=by
 have r2:Vals (vs++dvs) (us++ds):=r.append hd
 have hl:(us++ds).length=ps.length:=by rw[<- r2.length];exact F.len _ _ _ _ h
 refine HH (Dl (F.run X.A X.stack s H ⟨us,[]⟩ (us++ds) (vs++dvs) Q E hr I.zL (hb s us I.kIn hl) r2 h) λr s' hq =>?_)
 cases r with
 | error e=>exact hx pins σ H s e s' I hq
 | ok fl =>
  cases fl with
  | ret u=>exact I.after hq
  | next=>exact False.elim hq
  | brk=>exact False.elim hq
  | cont=>exact False.elim hq
theorem qk (F:bE X.prog X.w X.K X.mg X.base CX k f fd ps sp)(hr:bW k X.A)(hg:Gl X x)(hm:X.mg x=some (.ref f))(hk:PySem.W.keepIn X.K (.ref f)=true)(hb:Binds X.K fd ps ds)(hd:Vals dvs ds)(hx:Passes CX X E)
  (ha:PA X (e :: es) t) (hdb:(x == ("__debug__" : Str))=false:=by decide) (he:BD (e :: es) X.env=(false,eval e X.env) :: BD es X.env:=by rfl) (hpl:(DV pos (BD es X.env)).any (·.1)=false:=by rfl) :
  PE X (.Call (.Name x p) (e :: es) [] pos) (tV sp dvs E t):=by
 intro pins s σ H Q I h
 refine En (gw I hg hm ?_ hdb)
 refine GV (h₀:=X.base) I.ok.mod.kin hk (thn (ha pos pins s σ H _ I h) λus s1 ⟨vs,H1,I1,r,q⟩=>⟨I1.kIn,?_⟩) he hpl
 exact yr F hr hb hd hx I1 r q
end
section
variable  {X:Cx}{CX:CXT}{k:Nat}{f C:Addr}{fd:BJ}{ps ks:List Str}{sp:Sp}{E:XK}{x m:Str}{p pos apos kpos:Pos}{e o:Expr}{es:List Expr}{kws:List Keyword}{te ta:TE}{t tk:TA}{nm:Option Str}
variable  {g:List Au->List Au->List Au}{gV:List V->List V->List V}
end
structure aI (N P:List Str)(sc:Scope):Prop where
 kind:sc.kind = .function
 co:sc.isCoroutine=false
 gen:sc.isGenerator=false
 nd:N.Nodup
 pre:N.take P.length=P
 par:∀x∈P,sc.names.lookup x=some .local\/sc.names.lookup x=some .cell
 nofree:∀y∈sc.names,y.2 ≠ .free
theorem kS {kindOf:Str->Option NameKind}{x:Str}:∀{binds:List (Str×Au)} {m:Str->Option Au},(∀v,(x,v)∉binds)->bindL kindOf binds m x=m x
 | [],_,_=>rfl
 | (n,v) :: r,m,h=>by
  unfold bindL
  rw[kS λw hw=>h w (AL _ hw)]
  split
  ·have:x≠n:=by rintro rfl;exact h v AM
   simp[this]
  ·rfl
theorem kT {kindOf:Str->Option NameKind}{x:Str}:∀{binds:List (Str×Au)} {m:Str->Option Au},(∀v,(x,v)∉binds)->bindC kindOf binds m x=m x
 | [],_,_=>rfl
 | (n,v) :: r,m,h=>by
  unfold bindC
  rw[kT λw hw=>h w (AL _ hw)]
  split
  ·rfl
  ·have:x≠n:=by rintro rfl;exact h v AM
   simp[this]
theorem kU {kindOf:Str->Option NameKind}{x:Str}{v:Au}:∀{P:List Str} {vs:List Au} {i:Nat} {m:Str->Option Au},P.Nodup->P[i]? = some x->vs[i]? = some v->kindOf x=some .local →
  bindL kindOf (P.zip vs) m x=some v
 | [],_,_,_,_,h,_,_=>by simp at h
 | _ :: _,[],_,_,_,_,h,_=>by simp at h
 | p :: P,w :: vs,0,m,nd,h1,h2,hk=>by
  simp at h1 h2;subst h1;subst h2
  show bindL kindOf ((p,w) :: P.zip vs) m p=_
  unfold bindL
  rw[kS λv hv=>(BL.mp nd).1 (F3 hv).1,if_pos hk]
  simp
 | p :: P,w :: vs,i+1,m,nd,h1,h2,hk=>by
  show bindL kindOf ((p,w) :: P.zip vs) m x=_
  unfold bindL
  exact kU (i:=i) (BL.mp nd).2 (by simpa using h1) (by simpa using h2) hk
theorem kW {kindOf:Str->Option NameKind}{x:Str}{v:Au}:∀{P:List Str} {vs:List Au} {i:Nat} {m:Str->Option Au},P.Nodup->P[i]? = some x->vs[i]? = some v->kindOf x≠some .local →
  bindC kindOf (P.zip vs) m x=some v
 | [],_,_,_,_,h,_,_=>by simp at h
 | _ :: _,[],_,_,_,_,h,_=>by simp at h
 | p :: P,w :: vs,0,m,nd,h1,h2,hk=>by
  simp at h1 h2;subst h1;subst h2
  show bindC kindOf ((p,w) :: P.zip vs) m p=_
  unfold bindC
  rw[kT λv hv=>(BL.mp nd).1 (F3 hv).1,if_neg hk]
  simp
 | p :: P,w :: vs,i+1,m,nd,h1,h2,hk=>by
  show bindC kindOf ((p,w) :: P.zip vs) m x=_
  unfold bindC
  exact kW (i:=i) (BL.mp nd).2 (by simpa using h1) (by simpa using h2) hk
def start (N:List Str)(vs:List V):St:=vs.map some++DW (N.length-vs.length) none
def ia (CX:CXT)(P:AN)(w:Bh)(K:Av)(mg:Str->Option Au)(base:Heap)(N:List Str)(qual:Str)(scope:Scope)(f:Addr)(cd:Au)(A:BA)(outer:List Env)(s:Ax)(H:Hp)(E:XK):Cx where
 prog:=P
 w:=w
 K:=K
 mg:=mg
 base:=base
 A:=A.deeper (envOfC qual scope s.heap.objs.size f cd)
 N:=N
 s₀:=s
 H₀:=H
 env:=envOfC qual scope s.heap.objs.size f cd
 outer:=outer
 stack:=envOfC qual scope s.heap.objs.size f cd :: outer
 ex:=[]
 calm:=true
 fn:=λ_=>true
 pn:=[]
 xe:=λe s'=>A7 (Bf P w) (A.deeper (envOfC qual scope s.heap.objs.size f cd)) (leaving (envOfC qual scope s.heap.objs.size f cd) e) (λ_ s''=>CX outer H s E e s'') (λe' s''=>CX outer H s E e' s'') s'
theorem nE {sc:Scope}{n:Nat}{x:Str}(h:sc.names.lookup x=some .cell):∃c,(cellsFrom n sc.names []).lookup x=some c:=by
 have q:=FV sc.names n [] (.inl h)
 exact Fm.mp q
theorem rK {CX:CXT}{P:AN}{w:Bh}{K:Av}{mg:Str->Option Au}{base:Heap}{N ps:List Str}{qual:Str}{scope:Scope}{f:Addr}{cd:Au}{A:BA}{outer:List Env}{s s1:Ax}{H:Hp}{E:XK}{us:List Au}{vs:List V}
  (S:aI N ps scope) (hd:A.handled=none) (e0:vU P w K mg base A outer s H) (hl:vs.length=ps.length) (r:Vals vs us)
  (x:InCallC s s.heap.objs.size (bindL (envOfC qual scope s.heap.objs.size f cd).kindOf (ps.zip us) λ_=>none) (cellsFrom (s.heap.objs.size+1) scope.names []) (bindC (envOfC qual scope s.heap.objs.size f cd).kindOf (ps.zip us) λ_=>none) s1) :
  Inv (ia CX P w K mg base N qual scope f cd A outer s H E) [] (start N vs) H s1:=by
 have hpl:ps.length<=N.length:=by have:=congrArg List.length S.pre;rw[Bz] at this;omega
 obtain ⟨h1,tk,rfl,hk⟩:=x.done
 have noA:∀b:Addr,b∉(ia CX P w K mg base N qual scope f cd A outer s H E).ex:=λb z=>absurd (show b∈([]:List Addr) from z) (by simp)
 refine ⟨⟨e0.mod,S.kind,rfl,rfl,AE _,λy z c h1 h2 =>?_,λy hy =>?_,λy c _ h =>?_,λ_=>hd,Around.frames_deeper e0.frames,.inr ⟨rfl,rfl⟩,λb z=>absurd z (noA b),e0.bs,e0.bsz,λb _ _=>noA b,λb z=>absurd z (noA b),e0.funs,e0.frf⟩,
  rfl,e0.bare,Un.kept hk,⟨_,x.toInCall.ns,λi y v h1 h2 h3 =>?_⟩,λy c h=>⟨_,x.cell y c h⟩,e0.hok.fresh (AE _),λy c h =>?_,λp hp=>absurd (show p∈([]:List (Addr×Obj)) from hp) (by simp),e0.hok.kept hk,?_⟩
 ·exact name_of_addr x.apart (CV h1) (CV h2)
 ·have hy:scope.names.lookup y=some .cell\/scope.names.lookup y=some .free:=hy
  rcases hy with hy | hy
  ·exact nE hy
  ·exact absurd rfl (S.nofree _ (CV hy))
 ·exact C6 (x.above y c (CV h))
 ·have hi:i<vs.length:=by
   unfold start at h2
   by_cases hi:i<vs.length
   ·exact hi
   ·rw[Cw (by simpa using hi)] at h2
    rw[Ed] at h2
    split at h2 <;> cases h2
  have ha:vs[i]? = some v:=by
   unfold start at h2
   rw[CD (by simpa using hi),AW] at h2
   cases e:vs[i]? with
   | none=>rw[e] at h2;cases h2
   | some a=>rw[e] at h2;cases h2;rfl
  obtain ⟨u,hu,rv⟩:=r.get ha
  have hp:ps[i]? = some y:=by
   rw[<- S.pre,List.getElem?_take_of_lt (by omega)];exact h1
  have ndP:ps.Nodup:=by rw[<- S.pre];exact S.nd.sublist (BZ _ _)
  refine ⟨u,rv,?_⟩
  rcases S.par y (A0 hp) with k | k
  ·exact .inl ⟨k,kU ndP hp hu k⟩
  ·obtain ⟨c,e⟩:=nE (n:=s.heap.objs.size+1) k
   refine .inr ⟨.inl k,c,e,?_⟩
   have q:=x.cell y c e
   rw[kW ndP hp hu (by show scope.names.lookup y≠_;rw[k];decide)] at q
   exact q
 ·exact e0.hok.fresh (C6 (x.above y c (CV h)))
 ·unfold start
  show _=N.length
  rw[As,Aq,F4]
  omega
theorem xO {CX:CXT}{P:AN}{w:Bh}{K:Av}{mg:Str->Option Au}{base:Heap}{k:Nat}{f:Addr}{name qual:Str}{params:Arguments}{body:List Stmt}{scope:Scope}{dV kV doc pm cdv ct oc:Au}{an od:Option Addr}
  {osl:Array (Option Au)} {N ps:List Str} {sp:Sp} (lk:K.lookup f=some ⟨oc,od,.func (PySem.W.fnOf name qual params body scope dV kV doc pm an cdv ct),osl⟩) (hcd:PySem.W.codeIn K cdv qual=true) (S:aI N ps scope)
  (len:∀vs H Q E,sp vs H Q E->vs.length=ps.length)
  (hbody:∀(A:BA) (outer:List Env) (s:Ax) (H:Hp) (vs:List V) (Q:VK) (E:XK),bW k (A.deeper (envOfC qual scope s.heap.objs.size f cdv))->sp vs H Q E →
   ∃t,PSs (ia CX P w K mg base N qual scope f cdv A outer s H E) body t/\t { nx:=λ_ H'=>Q .non H',rt:=Q } (start N vs) H) :
  bE P w K mg base CX (k+1) f (PySem.W.fnOf name qual params body scope dV kV doc pm an cdv ct) ps sp:=by
 refine ⟨len,λA outer s H args us vs Q E hr e0 hb r hsp =>?_⟩
 have hl:=len _ _ _ _ hsp
 have KX:K.In s.heap:=e0.mod.kin.keeps λb o e=>(e0.bs b o e).1
 have lim:s.heap.NoLimit:=e0.mod.nolimit.keeps λb o e=>(e0.bs b o e).1
 have hkind:∀y∈ps.zip us,scope.names.lookup y.1=some .local\/(scope.names.lookup y.1=some .cell/\((cellsFrom (s.heap.objs.size+1) scope.names []).lookup y.1).isSome=true):=λ⟨n,v⟩ hy=>by
  rcases S.par n (F3 hy).1 with q | q
  ·exact .inl q
  ·exact .inr ⟨q,FV _ _ _ (.inl q)⟩
 refine codeAny_call_function hr.depth (KX _ _ lk) rfl S.co S.gen rfl (PySem.W.codeRec_of KX hcd) (hb _ _ _ _ ?_)
 refine wpAny_newFunctionEnv_cells S.kind hkind λenv he s1 x =>?_
 subst he
 refine ⟨lim.keeps x.toInCall.keep,codeAny_func ?_⟩
 obtain ⟨t,ht,hq⟩:=hbody A outer s H vs Q E (hr.deeper _) hsp
 have I:Inv (ia CX P w K mg base N qual scope f cdv A outer s H E) [] (start N vs) H s1:=rK S hr.hd e0 hl r x
 refine Cg (ht [] s1 (start N vs) H _ I hq) (λfl s' hs =>?_) λe s' hs=>hs
 have fin:∀{σ':St} {H':Hp} {v:V} {u:Au},Inv (ia CX P w K mg base N qual scope f cdv A outer s H E) [] σ' H' s'->RelV v u->Q v H'->CE outer P w H s Q u s' :=
  λ{σ' H' v u} J rv q=>⟨v,H',J.os,J.bare,J.base,J.hok,rv,q⟩
 cases fl with
 | ret u =>
  obtain ⟨v,σ',H',J,rv,q⟩:=hs
  exact fin J rv q
 | next =>
  obtain ⟨σ',H',J,q⟩:=hs
  exact fin (v:=V.non) (u:=CC) J rfl q
 | brk =>
  obtain ⟨_,_,_,q⟩:=hs
  exact False.elim q
 | cont =>
  obtain ⟨_,_,_,q⟩:=hs
  exact False.elim q
open PySem PySem.Spec PyProof.Rows
section
variable  {X:Cx}{x:Str}{p pos:Pos}{e:Expr}{es:List Expr}{t:TA}{id T:String}{r:List V->Hp->VK->Prop}
def tCB (r:List V->Hp->VK->Prop)(t:TA):TE:=λσ H Q=>t σ H λvs H1=>r vs H1 Q
theorem ao (hc:cj X (.builtin id) r)(hg:Gl X x)(hm:X.mg x=none)(hv:BU x=some (.builtin id))(ha:PA X (e :: es) t)(hn:x ≠ "__name__" := by decide)(hdb:(x == ("__debug__" : Str))=false:=by decide)
  (he:BD (e :: es) X.env=(false,eval e X.env) :: BD es X.env:=by rfl) (hpl:(DV pos (BD es X.env)).any (·.1)=false:=by rfl):PE X (.Call (.Name x p) (e :: es) [] pos) (tCB r t):=by
 intro pins s σ H Q I h
 refine En (ja I hg hm hv ?_ hn hdb)
 exact PyProof.Rows.callWith_builtin1 (thn (ha pos pins s σ H _ I h) λus s1 ⟨vs,H1,I1,r1,q1⟩=>hc pins s1 σ H1 vs us Q I1 r1 q1) he hpl
theorem bq (hc:cj X (.type T) r)(hg:Gl X x)(hm:X.mg x=none)(hv:BU x=some (.type T))(ha:PA X (e :: es) t)(hn:x ≠ "__name__" := by decide)(hdb:(x == ("__debug__" : Str))=false:=by decide)
  (he:BD (e :: es) X.env=(false,eval e X.env) :: BD es X.env:=by rfl) (hpl:(DV pos (BD es X.env)).any (·.1)=false:=by rfl):PE X (.Call (.Name x p) (e :: es) [] pos) (tCB r t):=by
 intro pins s σ H Q I h
 refine En (ja I hg hm hv ?_ hn hdb)
 exact DC (thn (ha pos pins s σ H _ I h) λus s1 ⟨vs,H1,I1,r1,q1⟩=>hc pins s1 σ H1 vs us Q I1 r1 q1) he hpl
end
end L2
namespace HT
open PySem PyProof.Rows
def lexLt:List Int->List Int->Bool
 | [],[]=>false
 | [],_ :: _=>true
 | _ :: _,[]=>false
 | x :: xs,y :: ys=>if x=y then lexLt xs ys else decide (x<y)
theorem dS (x y:Int)(xs ys:List Int):lexLt (x :: xs) (y :: ys)=if x=y then lexLt xs ys else decide (x<y):=rfl
theorem tX (A:BA)(s:Ax)(a:Int)(t:Tok)(c:Int)(u:Tok)(prog:AN)(w:Bh)(E:Au->Ax->Prop)(Q:Au->Ax->Prop)(h:Q (.bool (decide (a<c))) s) :
  A7 (Bf prog w) A (richCompare .Lt (.int a t) (.int c u)) Q E s :=
 (PyProof.Rows.lt_int h:A7 (Bf prog w) A (Cf .Lt (.int a t) (.int c u)) Q E s)
section
open PySem.SeqAt
open PySem.AutoSeq1 (wpAny_loadPart')
open PySem.MeetsSeq PySem.MeetsSeq2 PySem.MeetsSeq3
end
section
variable  {prog:AN}{w:Bh}{A:BA}{E:Au->Ax->Prop}{s:Ax}
theorem vV {t b:Addr}{vs ws:List Au}{Q:Au->Ax->Prop}(ht:IsTup s.heap t vs.toArray)(hb:IsTup s.heap b ws.toArray)(hv:vs≠[])
  (h1:ws=[]->Q (.ref t) s) (h2:ws≠[]->Q (.ref s.heap.objs.size) { s with heap:=s.heap.push { cls :=.type "tuple",data :=.seq (vs++ws).toArray } })
  (hsz:vs.length+ws.length<=AH):A7 (Bf prog w) A (binaryOp .Add (.ref t) (.ref b)) Q E s:=by
 obtain ⟨⟨cls,dd,data,sl⟩,ho,hc,n,hd⟩:=id ht
 obtain ⟨⟨cls2,dd2,data2,sl2⟩,ho2,hc2,n2,hd2⟩:=id hb
 simp only at hc hd hc2 hd2
 subst hc hd hc2 hd2
 have e:vs.toArray++ws.toArray=(vs++ws).toArray:=by simp
 by_cases hw:ws=[]
 ·exact Gn ⟨_,ho,rfl⟩ ⟨_,ho2,rfl⟩ FR Hh Ep Ee (D4 _ _)
   (tuple_addW1 t b vs.toArray ws.toArray n n2 dd dd2 sl sl2 (by simpa using hv) (by simp[hw])) ⟨ho,ho2,h1 hw⟩
 ·refine Gn ⟨_,ho,rfl⟩ ⟨_,ho2,rfl⟩ FR Hh Ep Ee (D4 _ _)
   (tuple_addW2 t b vs.toArray ws.toArray n n2 dd dd2 sl sl2 (by simpa using hv) (by simpa using hw) (by rw[Aw,Aw];exact hsz)) ⟨ho,ho2,?_⟩
  rw[e]
  exact h2 hw
def sIx (n d:Nat):Option Int->Nat
 | none=>d
 | some v=>if v<0 then (v+(n:Int)).toNat else min v.toNat n
theorem gz (n d k:Nat):sIx n d (some (k:Int))=min k n:=by
 show (if (k:Int)<0 then ((k:Int)+(n:Int)).toNat else min (k:Int).toNat n)=min k n
 rw[if_neg (by omega),BQ]
theorem tY (n d:Nat)(hd:d<=n)(o:Option Int):sIx n d o<=n:=by
 cases o with
 | none=>exact hd
 | some v =>
  show (if v<0 then (v+(n:Int)).toNat else min v.toNat n)<=n
  by_cases hv:v<0
  ·rw[if_pos hv];omega
  ·rw[if_neg hv];exact HR _ _
theorem ql (v:Int)(n d:Nat):(if v<0 then max (v+(n:Int)) 0 else min v (n:Int))=((sIx n d (some v):Nat):Int):=by
 show (if v<0 then max (v+(n:Int)) 0 else min v (n:Int))=(((if v<0 then (v+(n:Int)).toNat else min v.toNat n):Nat):Int)
 by_cases hv:v<0
 ·simp only[if_pos hv];omega
 ·simp only[if_neg hv];omega
theorem oW (lo hi:Option Int)(n:Nat):Builtin.Slice.sliceAdjust lo hi 1 (n:Int)=(((sIx n 0 lo:Nat):Int),((sIx n n hi:Nat):Int)):=by
 have h1:¬ ((1:Int)<0):=by omega
 unfold Builtin.Slice.sliceAdjust
 simp only[h1,if_false]
 refine GW ?_ ?_
 ·cases lo with
  | none=>rfl
  | some v=>exact ql v n 0
 ·cases hi with
  | none=>rfl
  | some v=>exact ql v n n
theorem oX (i j:Nat):Builtin.Slice.slicePlaces (i:Int) (j:Int) 1=j-i:=by
 unfold Builtin.Slice.slicePlaces
 have h1:(1:Int)>0:=by omega
 simp only[h1,if_true,Int.ediv_one]
 split <;> omega
theorem js {v:Au}{o:Option Int}{Q:Option Int->Ax->Prop}(p:IsPart v o)(h:Q o s):A7 (Bf prog w) A (Builtin.Slice.slicePartIndex v) Q E s:=by
 cases p with
 | none=>exact Fh h
 | int i t=>exact slicePart_int h
theorem dD {sl:Addr}{vl vu:Au}{lo hi:Option Int}{n:Nat}{Q:Int×Int×Nat->Ax->Prop}(hs:s.heap.IsSliceOf sl vl vu .none)(pl:IsPart vl lo)(pu:IsPart vu hi)
  (h:Q (((sIx n 0 lo:Nat):Int),1,sIx n n hi-sIx n 0 lo) s):A7 (Bf prog w) A (Builtin.Slice.sliceApplied (.ref sl) (pure (n:Int))) Q E s:=by
 obtain ⟨os,hos,hcs,hds⟩:=id hs
 unfold Builtin.Slice.sliceApplied Builtin.Slice.sliceFields
 refine Ar (Ar (Dd hos hds (x:=vl) rfl (Ar (Dd hos hds (x:=vu) rfl (Ar (Dd hos hds (x :=.none) rfl (Ay ?_)))))))
 refine Ar (Fh ?_)
 show A7 _ _ (if ((1:Int) == 0)=true then _ else _) _ _ s
 rw[if_neg (by decide)]
 refine Ar (js pl (Ar (js pu (Ar (Ay ?_)))))
 show A7 _ _ (match Builtin.Slice.sliceAdjust lo hi 1 (n:Int) with | (lo,hi)=>pure (lo,(1:Int),Builtin.Slice.slicePlaces lo hi 1)) _ _ s
 rw[oW lo hi n]
 show A7 _ _ (pure (((sIx n 0 lo:Nat):Int),(1:Int),Builtin.Slice.slicePlaces ((sIx n 0 lo:Nat):Int) ((sIx n n hi:Nat):Int) 1)) _ _ s
 rw[oX]
 exact Ay h
theorem tZ (xs:Array Au)(i k:Nat):((Ba k).filterMap λ(m:Nat)=>xs[((i:Int)+(m:Int)*1).toNat]?).toArray=((xs.toList.drop i).take k).toArray:=by
 have e:(λ(m:Nat)=>xs[((i:Int)+(m:Int)*1).toNat]?)=λm=>xs[i+m]? := by
  funext m
  have:((i:Int)+(m:Int)*1).toNat=i+m:=by omega
  rw[this]
 rw[e]
 have:=pick_run xs i k
 rw[List.filterMap_map] at this
 have e2:((λx=>xs[x]?) ∘ λx=>i+x)=λm=>xs[i+m]? := rfl
 rw[e2] at this
 rw[this]
theorem gB {t sl:Addr}{items:Array Au}{vl vu:Au}{lo hi:Option Int}{Q:Au->Ax->Prop}(ht:IsTup s.heap t items)(hs:s.heap.IsSliceOf sl vl vu .none)(pl:IsPart vl lo)(pu:IsPart vu hi)
  (hw:¬ (sIx items.size 0 lo=0/\sIx items.size items.size hi=items.size))
  (h:Q (.ref s.heap.objs.size) { s with heap:=s.heap.push { cls :=.type "tuple",data :=.seq ((items.toList.drop (sIx items.size 0 lo)).take (sIx items.size items.size hi-sIx items.size 0 lo)).toArray } })
  (hsz:items.size<=AH):A7 (Bf prog w) A (getItem (.ref t) (.ref sl)) Q E s:=by
 have htake:sizeOk (.seq ((items.toList.drop (sIx items.size 0 lo)).take (sIx items.size items.size hi-sIx items.size 0 lo)).toArray):=by
  show ((items.toList.drop (sIx items.size 0 lo)).take (sIx items.size items.size hi-sIx items.size 0 lo)).toArray.size<=AH
  rw[Aw,Bz,Ca,AF]
  omega
 have hj:sIx items.size items.size hi<=items.size:=tY _ _ (AE _) hi
 obtain ⟨os,hos,hcs,hds⟩:=id hs
 have hTs:s.TypeIs (.ref sl) "slice" :=⟨os,hos,hcs⟩
 unfold getItem
 try with_reducible refine BV ?_
 first | refine Ar (Ay ?_) | skip
 refine Ar (Fy ht.typeIs (by decide) ?_)
 refine Ar (Ce (name:=Str.ofString "__getitem__") ht.typeIs Br
  (BX Br ht.typeIs entry_tuple_getitem ?_ (E5 _ _)))
 show A7 _ _ (Builtin.Tuple.tupleItemsOf (.ref t) >>= _) _ _ s
 refine Ar (Hi ht ?_)
 refine Ar (Dm hTs ?_)
 rw[if_pos (by decide)]
 refine Ar (dD hs pl pu ?_)
 have hno:¬ ((((sIx items.size 0 lo:Nat):Int) == 0 && (1:Int) == 1 && (sIx items.size items.size hi-sIx items.size 0 lo) == items.size)=true):=by
  intro q
  rw[BC,BC] at q
  have q1:((sIx items.size 0 lo:Nat):Int)=0:=eq_of_beq q.1.1
  have q2:sIx items.size items.size hi-sIx items.size 0 lo=items.size:=eq_of_beq q.2
  exact hw ⟨by omega,by omega⟩
 show A7 _ _ (if (((sIx items.size 0 lo:Nat):Int) == 0 && (1:Int) == 1 && (sIx items.size items.size hi-sIx items.size 0 lo) == items.size)=true then _ else _) _ _ s
 rw[if_neg hno,tZ]
 first
  | exact Ar (m:=Builtin.Tuple.tupleExact _) (BI (Ay ⟨_,rfl,Ay h⟩) htake)
  | exact Ar (m:=Builtin.Tuple.tupleExact _) (BI (Ar (Ay (Ay ⟨_,rfl,Ay h⟩))) htake)
  | exact Ar (Ar (m:=Builtin.Tuple.tupleExact _) (BI (Ay (Ay ⟨_,rfl,Ay h⟩)) htake))
  | exact Ar (Ar (m:=Builtin.Tuple.tupleExact _) (BI (Ay ⟨_,rfl,Ay h⟩) htake))
end
end HT
namespace L2
open PySem PySem.Spec PyProof.Rows
abbrev TO:=St->Hp->(Option Int->Hp->Prop)->Prop
def PO (X:Cx)(e:Option Expr)(t:TO):Prop :=
 ∀(pins:List (Addr×Obj)) (s:Ax) (σ:St) (H:Hp) (Q:Option Int->Hp->Prop),Inv X pins σ H s->t σ H Q →
  A7 (Bf X.prog X.w) X.A (evalPart e X.env) (λu s'=>∃o H',Inv X pins σ H' s'/\IsPart u o/\Q o H') X.xe s
def vW:TO:=λ_ H Q=>Q none H
def zM (t:TE):TO:=λσ H Q=>t σ H λx H1=>∃i,x = .int i/\Q (some i) H1
theorem intsAre_of {ns:List Int}:∀{us:List Au},Vals (ns.map V.int) us->DJ us ns:=by
 induction ns with
 | nil=>intro us r;rw[HI] at r;cases r;exact .nil
 | cons n ns ih =>
  intro us r
  rw[Bd] at r
  cases r with
  | cons r1 r2 =>
   obtain ⟨t,e⟩:=r1
   subst e
   exact .cons n t (ih r2)
section
variable  {X:Cx}{e:Expr}{te:TE}{lo hi:Option Expr}{tl th:TO}{pos p2:Pos}
theorem bM:PO X none vW:=by
 intro pins s σ H Q I h
 rw[Hj]
 exact Ay ⟨none,H,I,.none,h⟩
theorem bC (h:PE X e te):PO X (some e) (zM te):=by
 intro pins s σ H Q I hw
 rw[evalPart_some]
 refine thn (h pins s σ H _ I hw) λu s1 ⟨x,H1,I1,r1,q1⟩ =>?_
 obtain ⟨i,rfl,q⟩:=q1
 obtain ⟨t,rfl⟩:=r1
 exact ⟨some i,H1,I1,.int i t,q⟩
def SlR (X:Cx)(r:V->Option Int->Option Int->Hp->VK->Prop):Prop :=
 ∀(pins:List (Addr×Obj)) (s:Ax) (σ:St) (H:Hp) (x:V) (v vl vu:Au) (lo hi:Option Int) (sl:Addr) (Q:VK),Inv X pins σ H s->RelV x v->s.heap.IsSliceOf sl vl vu .none->IsPart vl lo->IsPart vu hi->r x lo hi H Q →
  ∃T id,typeLookup (.type T) "__getitem__" = pure (some (.builtin id))/\s.TypeIs v T/\A7 (Bf X.prog X.w) X.A (getItem v (.ref sl)) (EP X pins σ Q) X.xe s
def tSl (r:V->Option Int->Option Int->Hp->VK->Prop)(te:TE)(tl th:TO):TE:=λσ H Q=>te σ H λx H1=>tl σ H1 λl H2=>th σ H2 λu H3=>r x l u H3 Q
theorem bo {r:V->Option Int->Option Int->Hp->VK->Prop}(hr:SlR X r)(he:PE X e te)(hl:PO X lo tl)(hu:PO X hi th):PE X (.Subscript e (.Slice lo hi none p2) pos) (tSl r te tl th):=by
 intro pins s σ H Q I h
 refine Subscript_ (thn (he pins s σ H _ I h) λv s1 ⟨x,H1,I1,r1,q1⟩ =>?_)
 refine wpAny_Slice (thn (hl pins s1 σ H1 _ I1 q1) λvl s2 ⟨l,H2,I2,pl,q2⟩=>thn (hu pins s2 σ H2 _ I2 q2) λvu s3 ⟨u,H3,I3,pu,q3⟩ =>?_)
 rw[Hj]
 refine Ay ?_
 have I4:Inv X pins σ H3 { s3 with heap:=s3.heap.push { cls :=.type "slice",data :=.fields #[vl,vu,.none] } }:=I3.kept (t':=s3.toks) λb ob q=>Az _ q
 obtain ⟨T,id,hT,ht,hg⟩:=hr pins { s3 with heap:=s3.heap.push { cls :=.type "slice",data :=.fields #[vl,vu,.none] } } σ H3 x v vl vu l u s3.heap.objs.size Q I4 r1 (GX ..) pl pu q3
 show A7 (Bf X.prog X.w) X.A (subscriptTail e (.Slice lo hi none p2) v (.ref s3.heap.objs.size)) (EP X pins σ Q) X.xe { s3 with heap:=s3.heap.push { cls :=.type "slice",data :=.fields #[vl,vu,.none] } }
 exact tail_any (ops:=[.ref s3.heap.objs.size,v]) ht hT hg (by with_unfolding_all rfl)
def dE (xs:List V)(lo hi:Option Int):List V:=(xs.drop (HT.sIx xs.length 0 lo)).take (HT.sIx xs.length xs.length hi-HT.sIx xs.length 0 lo)
theorem iI (xs:List V)(lo hi:Option Int):(dE xs lo hi).length<=xs.length:=by
 unfold dE
 rw[Bz,Ca]
 omega
def rSlT (K:Av):V->Option Int->Option Int->Hp->VK->Prop:=λx lo hi H Q=>∃a xs,x = .ref a/\SqT K H a xs ∧
 ¬ (HT.sIx xs.length 0 lo=0/\HT.sIx xs.length xs.length hi=xs.length)/\∀p,H p=none->Q (.ref p) (upd H p (.tup (dE xs lo hi)))
theorem yt:SlR X (rSlT X.K):=by
 intro pins s σ H x v vl vu lo hi sl Q I rx hs pl pu h
 obtain ⟨a,xs,rfl,hx,hw,q⟩:=h
 cases rx
 obtain ⟨its,r,ht,hz⟩:=I.tuple hx
 have hlen:its.toArray.size=xs.length:=by rw[Aw];exact r.length.symm
 refine ⟨"tuple",_,Br.lookup,ht.typeIs,?_⟩
 refine HT.gB ht hs pl pu (by rw[hlen];exact hw) ?_ (by rw[hlen];exact hz)
 rw[hlen]
 refine ⟨.ref s.heap.objs.size,_,I.laid (t':=s.toks) (o :=.tup (dE xs lo hi)) (λb ob q=>Az _ q) (AE _) ?_,rfl,q _ (I.hok.fresh (AE _))⟩
 exact ⟨A5 (iI xs lo hi) hz,_,(r.drop (HT.sIx xs.length 0 lo)).take (HT.sIx xs.length xs.length hi-HT.sIx xs.length 0 lo),dv.new _ _⟩
def zN (K:Av):R2:=λx y H Q=>∃a b xs ys,x = .ref a/\y = .ref b/\SqT K H a xs/\SqT K H b ys/\xs≠[]/\xs.length+ys.length<=AH ∧
 (ys=[]->Q (.ref a) H)/\(ys≠[]->∀p,H p=none->Q (.ref p) (upd H p (.tup (xs++ys))))
theorem Vals.i3 {xs:List V}{us:List Au}(r:Vals xs us):us=[]↔xs=[]:=by
 cases r with
 | nil=>simp
 | cons _ _=>simp
theorem vX:OpR X (binaryOp .Add) (zN X.K):=by
 intro pins s σ H x y v u Q I rx ry h
 obtain ⟨a,b,xs,ys,rfl,rfl,ha,hb,hx,hz,q1,q2⟩:=h
 cases rx
 cases ry
 obtain ⟨its,r1,p1,_⟩:=I.tuple ha
 obtain ⟨its2,r2,p2,_⟩:=I.tuple hb
 refine HT.vV p1 p2 (λz=>hx (r1.i3.mp z)) (λz=>⟨.ref a,H,I,rfl,q1 (r2.i3.mp z)⟩) (λz =>?_) (by rw[<- r1.length, <- r2.length];exact hz)
 refine ⟨.ref s.heap.objs.size,_,I.laid (t':=s.toks) (o :=.tup (xs++ys)) (λb ob q=>Az _ q) (AE _) ?_,rfl,q2 (λw=>z (r2.i3.mpr w)) _ (I.hok.fresh (AE _))⟩
 exact ⟨by rw[As];exact hz,_,r1.append r2,dv.new _ _⟩
end
open PySem PySem.Spec PyProof.Rows
def ixN (n:Nat)(i:Int):Option Nat:=if 0<=i then (if i<n then some i.toNat else none) else if -(n:Int)<=i then some (i+n).toNat else none
def atI {α:Type}(xs:List α)(i:Int):Option α:=(ixN xs.length i).bind λj=>xs[j]?
theorem qm {n:Nat}{i:Int}{j:Nat}(h:ixN n i=some j):seqIndex? i n=some j/\j<n /\ -(n:Int)<=i/\i<n:=by
 unfold ixN at h
 by_cases h0:0<=i
 ·rw[if_pos h0] at h
  by_cases h1:i<n
  ·rw[if_pos h1] at h
   have e:i.toNat=j:=Bq h
   exact ⟨by rw[Iq h0 h1,e],by omega,by omega,h1⟩
  ·rw[if_neg h1] at h;cases h
 ·rw[if_neg h0] at h
  by_cases h1 : -(n:Int)<=i
  ·rw[if_pos h1] at h
   have e:(i+n).toNat=j:=Bq h
   exact ⟨by rw[HN (by omega) h1,e],by omega,h1,by omega⟩
  ·rw[if_neg h1] at h;cases h
theorem qo {α:Type}{xs:List α}{i:Int}{v:α}(h:atI xs i=some v):∃j,seqIndex? i xs.length=some j/\xs[j]? = some v/\j<xs.length /\ -(xs.length:Int)<=i/\i<xs.length:=by
 unfold atI at h
 cases e:ixN xs.length i with
 | none=>rw[e] at h;cases h
 | some j =>
  rw[e] at h
  obtain ⟨h1,h2,h3,h4⟩:=qm e
  exact ⟨j,h1,h,h2,h3,h4⟩
theorem bR {α:Type}{xs:List α}{j:Nat}{v:α}(h:xs[j]? = some v):atI xs (j:Int)=some v:=by
 have hj:j<xs.length:=(AG.mp h).1
 have e:ixN xs.length (j:Int)=some j:=by
  unfold ixN
  rw[if_pos (by omega),if_pos (by omega)];simp
 unfold atI;rw[e];exact h
theorem nF {α:Type}(xs:List α)(v:α):atI (xs++[v]) (-1)=some v:=by
 have hl:(xs++[v]).length=xs.length+1:=by simp
 have e:ixN (xs++[v]).length (-1)=some xs.length:=by
  unfold ixN
  rw[hl,if_neg (by decide),if_pos (by omega)]
  congr 1
  omega
 unfold atI
 rw[e]
 show (xs++[v])[xs.length]? = some v
 simp
def vY (b:Expr):Prop:=∀o i,subscripted b false o i=operate [o,i] (getItem o i)
def IxR (X:Cx)(r:R2):Prop :=
 ∀(value slice:Expr) (pins:List (Addr×Obj)) (s:Ax) (σ:St) (H:Hp) (x y:V) (v u:Au) (Q:VK),Inv X pins σ H s->RelV x v->RelV y u->r x y H Q →
  subscripted slice false v u=operate [v,u] (getItem v u)->A7 (Bf X.prog X.w) X.A (subscriptTail value slice v u) (EP X pins σ Q) X.xe s
def MtR (X:Cx)(id:String)(r:V->List V->Hp->VK->Prop):Prop :=
 ∀(pins:List (Addr×Obj)) (s:Ax) (σ:St) (H:Hp) (x:V) (xs:List V) (v:Au) (us:List Au) (Q:VK),Inv X pins σ H s->RelV x v->Vals xs us->r x xs H Q →
  A7 (Bf X.prog X.w) X.A (call (.builtin id) (v :: us)) (EP X pins σ Q) X.xe s
section
variable  {X:Cx}{a b:Expr}{ta tb:TE}{pos:Pos}
theorem aY {r:R2}(hr:IxR X r)(ha:PE X a ta)(hb:PE X b tb)(hs:vY b):PE X (.Subscript a b pos) (tOp r ta tb):=by
 intro pins s σ H Q I h
 exact Subscript_ (ym ha hb I h λv u s2 x y H2 I2 rx ry q=>hr a b pins s2 σ H2 x y v u Q I2 rx ry q (hs _ _))
def rIxL (K:Av):R2:=λx y H Q=>∃p xs i v,x = .ref p/\y = .int i/\SqL K H p xs/\atI xs i=some v/\Q v H
def zO (K:Av):R2:=λx y H Q=>∃p xs i v,x = .ref p/\y = .int i/\SqT K H p xs/\atI xs i=some v/\Q v H
theorem cq:IxR X (rIxL X.K):=by
 intro value slice pins s σ H x y v u Q I rx ry h hs
 obtain ⟨p,xs,i,z,rfl,rfl,hq,he,q⟩:=h
 cases rx
 obtain ⟨t,rfl⟩:=ry
 obtain ⟨its,r,pl,hz⟩:=I.list hq
 obtain ⟨j,h1,h2,h3,h4,h5⟩:=qo he
 obtain ⟨w,ew,rw'⟩:=r.get h2
 have hl:=r.length
 have hn:=jq
 have fin:EP X pins σ Q w s:=⟨z,H,I,rw',q⟩
 by_cases h0:0<=i
 ·have hj:i.toNat=j:=by
   rw[Iq h0 h5] at h1
   exact Bq h1
  exact item_listR pl.isList h0 (by omega) (by rw[hj];simpa using ew) fin hs
 ·have hj:(i+(its.toArray.size:Int)).toNat=j:=by
   rw[HN (by omega) h4] at h1
   rw[Aw, <- hl]
   exact Bq h1
  exact FZ (x:=w) pl.isList.typeIs slot_list_getitem.lookup
   (wpAny_getItem_list_neg (Q:=λr s'=>r=w/\EP X pins σ Q r s') pl.isList (by omega) (by rw[Aw] <;> omega) (by omega) (by rw[hj];simpa using ew) ⟨rfl,fin⟩) hs
theorem bF:IxR X (zO X.K):=by
 intro value slice pins s σ H x y v u Q I rx ry h hs
 obtain ⟨p,xs,i,z,rfl,rfl,hq,he,q⟩:=h
 cases rx
 obtain ⟨t,rfl⟩:=ry
 obtain ⟨its,r,pl,hz⟩:=I.tuple hq
 obtain ⟨j,h1,h2,h3,h4,h5⟩:=qo he
 obtain ⟨w,ew,rw'⟩:=r.get h2
 have hl:=r.length
 have hn:=jq
 have fin:EP X pins σ Q w s:=⟨z,H,I,rw',q⟩
 exact FZ (x:=w) pl.typeIs slot_tuple_getitem.lookup
  (getItem_tuple (j:=j) (Q:=λr s'=>r=w/\EP X pins σ Q r s') pl (by omega) (by omega) (by rw[Aw, <- hl];exact h1) (by simpa using ew) ⟨rfl,fin⟩) hs
theorem oY (its:List Au)(n j:Nat)(u:Au):C4 (·.setIfInBounds j u) { cls :=.type "list",data :=.seq its.toArray n }={ cls :=.type "list",data :=.seq (its.set j u).toArray n }:=by
 simp[C4]
theorem Inv.lst {pins:List (Addr×Obj)}{σ:St}{H:Hp}{s:Ax}{p:Addr}{xs:List V}(I:Inv X pins σ H s)(h:H p=some (.lst xs)) :
  ∃(its:List Au) (n:Nat),Vals xs its/\s.heap.get? p=some { cls :=.type "list",data :=.seq its.toArray n }/\xs.length<=AH:=by
 obtain ⟨z,its,n,r,e⟩:=I.hok p _ h
 exact ⟨its,n,r,e,z⟩
theorem Inv.yu {pins:List (Addr×Obj)}{σ:St}{H:Hp}{s:Ax}{p:Addr}{xs ys:List V}{its its':List Au}{n n':Nat}{f:Obj->Obj}(I:Inv X pins σ H s)(h:H p=some (.lst xs))
  (ho:s.heap.get? p=some { cls :=.type "list",data :=.seq its.toArray n }) (hf:f { cls :=.type "list",data :=.seq its.toArray n }={ cls :=.type "list",data :=.seq its'.toArray n' }) (r:Vals ys its') (hz:ys.length<=AH) (t:Nat) :
  Inv X pins σ (upd H p (.lst ys)) { s with heap:=s.heap.update p f,toks:=t }:=by
 have e:(s.heap.update p f).get? p=some { cls :=.type "list",data :=.seq its'.toArray n' }:=by
  rw[Cn f ho (by rw[hf] <;> rfl),hf]
 refine I.write (x:=p) (e:=p) (by rw[h];trivial) (.inl rfl) (λb u hb q=>(B2 _ _ (CK hb)).trans q) ⟨_,e⟩ ?_
 exact ⟨hz,its',n',r,e⟩
def zP:V->V->V->Hp->(Hp->Prop)->Prop:=λo i v H Q=>∃p xs k j,o = .ref p/\i = .int k/\H p=some (.lst xs)/\ixN xs.length k=some j/\Q (upd H p (.lst (xs.set j v)))
theorem set_list:zA X zP:=by
 intro pins s σ H o i v ov iv u Q I ro ri rv h
 obtain ⟨p,xs,k,j,rfl,rfl,hp,hj,q⟩:=h
 cases ro
 obtain ⟨t,rfl⟩:=ri
 obtain ⟨its,n,r,ho,hz⟩:=I.lst hp
 obtain ⟨h1,h2,h3,h4⟩:=qm hj
 have hl:=r.length
 have hn:=jq
 have I':Inv X pins σ (upd H p (.lst (xs.set j v))) { s with heap:=s.heap.update p (C4 (·.setIfInBounds j u)) } :=
  I.yu hp ho (oY its n j u) (r.set rv j) (by rw[Ie];exact hz) s.toks
 by_cases h0:0<=k
 ·have hk:k.toNat=j:=by
   rw[Iq h0 h4] at h1
   exact Bq h1
  exact PySem.W.ki_setAt ho h0 (by omega) (by rw[Aw, <- hl];exact h4) (by rw[hk];exact ⟨_,I',q⟩)
 ·have hk:(k+(its.toArray.size:Int)).toNat=j:=by
   rw[HN (by omega) h3] at h1
   rw[Aw, <- hl]
   exact Bq h1
  exact PySem.W.ki_setBack ho (by omega) (by rw[Aw, <- hl];exact h3) (by omega) (by rw[hk];exact ⟨_,I',q⟩)
theorem mj (lo hi:Option Int)(n:Nat):(sliceBounds lo hi none n).1=((HT.sIx n 0 lo:Nat):Int)/\(sliceBounds lo hi none n).2.1=((HT.sIx n n hi:Nat):Int)/\(sliceBounds lo hi none n).2.2=1:=by
 refine ⟨?_,?_,rfl⟩
 ·cases lo with
  | none=>simp[sliceBounds,HT.sIx]
  | some i =>
   simp only[sliceBounds,HT.sIx,HS,show (1:Int)>0 by decide,if_true]
   by_cases h:i<0
   ·simp only[h,if_true] <;> omega
   ·simp only[h,if_false] <;> omega
 ·cases hi with
  | none=>simp[sliceBounds,HT.sIx]
  | some i =>
   simp only[sliceBounds,HT.sIx,HS,show (1:Int)>0 by decide,if_true]
   by_cases h:i<0
   ·simp only[h,if_true] <;> omega
   ·simp only[h,if_false] <;> omega
theorem ku (its:List Au)(lo hi:Option Int):slicePick its.toArray lo hi none=((its.drop (HT.sIx its.length 0 lo)).take (HT.sIx its.length its.length hi-HT.sIx its.length 0 lo)).toArray:=by
 obtain ⟨h1,h2,h3⟩:=mj lo hi its.toArray.size
 unfold slicePick
 rw[h1,h2,h3]
 simp only[sliceRange_one,pick_run,Aw] <;> rfl
def rSlL (K:Av):V->Option Int->Option Int->Hp->VK->Prop:=λx lo hi H Q=>∃a xs,x = .ref a/\SqL K H a xs/\∀p,H p=none->Q (.ref p) (upd H p (.lst (dE xs lo hi)))
theorem qp:SlR X (rSlL X.K):=by
 intro pins s σ H x v vl vu lo hi sl Q I rx hs pl pu h
 obtain ⟨a,xs,rfl,hx,q⟩:=h
 cases rx
 obtain ⟨its,r,ht,hz⟩:=I.list hx
 have hlen:=r.length
 refine ⟨"list",_,slot_list_getitem.lookup,ht.isList.typeIs,?_⟩
 refine wpAny_getItem_list_slice ht.isList hs pl pu .none (by simp) ?_ (by rw[Aw] <;> omega)
 rw[ku, <- hlen]
 refine ⟨.ref s.heap.objs.size,_,I.laid (t':=s.toks) (o :=.lst (dE xs lo hi)) (λb ob q=>Az _ q) (AE _) ?_,rfl,q _ (I.hok.fresh (AE _))⟩
 exact ⟨A5 (iI xs lo hi) hz,_,0,(r.drop (HT.sIx xs.length 0 lo)).take (HT.sIx xs.length xs.length hi-HT.sIx xs.length 0 lo),AX _ rfl⟩
def gC:V->Bool
 | .non=>true
 | .bl _=>true
 | .int _=>true
 | .str _=>true
 | _=>false
def eqV:V->V->Bool
 | .non,.non=>true
 | .bl a,.bl b=>a == b
 | .bl a,.int b=>(if a then 1 else 0) == b
 | .int a,.bl b=>a == (if b then 1 else 0)
 | .int a,.int b=>a == b
 | .str a,.str b=>a == b
 | _,_=>false
theorem yv {A:BA}{s:Ax}{y x:V}{u v:Au}(ry:RelV y u)(rx:RelV x v)(fy:gC y=true)(fx:gC x=true):C3 A s u v (eqV y x):=by
 cases y with
 | non =>
  cases ry
  cases x with
  | non=>cases rx;exact DD _
  | bl b=>cases rx;exact SeqAt.EqAt.none_bool b
  | int b=>obtain ⟨t,rfl⟩:=rx;exact SeqAt.EqAt.none_int b t
  | str b=>obtain ⟨t,rfl⟩:=rx;exact SeqAt.EqAt.none_str b t
  | _=>exact absurd (show false=true from fx) AV
 | bl a =>
  cases ry
  cases x with
  | non=>cases rx;exact SeqAt.EqAt.bool_none a
  | bl b=>cases rx;exact Gx a b
  | int b=>obtain ⟨t,rfl⟩:=rx;exact SeqAt.EqAt.bool_int a b t
  | str b=>obtain ⟨t,rfl⟩:=rx;exact SeqAt.EqAt.bool_str a b t
  | _=>exact absurd (show false=true from fx) AV
 | int a =>
  obtain ⟨t',rfl⟩:=ry
  cases x with
  | non=>cases rx;exact SeqAt.EqAt.int_none a t'
  | bl b=>cases rx;exact SeqAt.EqAt.int_bool a t' b
  | int b=>obtain ⟨t,rfl⟩:=rx;exact CI a t' b t
  | str b=>obtain ⟨t,rfl⟩:=rx;exact GR a t' b t
  | _=>exact absurd (show false=true from fx) AV
 | str a =>
  obtain ⟨t',rfl⟩:=ry
  cases x with
  | non=>cases rx;exact SeqAt.EqAt.str_none a t'
  | bl b=>cases rx;exact SeqAt.EqAt.str_bool a t' b
  | int b=>obtain ⟨t,rfl⟩:=rx;exact GS a t' b t
  | str b=>obtain ⟨t,rfl⟩:=rx;exact GY a t' b t
  | _=>exact absurd (show false=true from fx) AV
 | _=>exact absurd (show false=true from fy) AV
def eqU (x:V)(u:Au):Bool:=match u with
 | .none=>eqV .non x
 | .bool b=>eqV (.bl b) x
 | .int i _=>eqV (.int i) x
 | .str z _=>eqV (.str z) x
 | _=>false
theorem t5 {x y:V}{u:Au}(r:RelV y u)(f:gC y=true):eqU x u=eqV y x:=by
 cases y with
 | non=>cases r;rfl
 | bl b=>cases r;rfl
 | int i=>obtain ⟨t,rfl⟩:=r;rfl
 | str z=>obtain ⟨t,rfl⟩:=r;rfl
 | _=>exact absurd (show false=true from f) AV
theorem gE {x:V}:∀{xs:List V} {us:List Au},Vals xs us->xs.all gC=true->us.any (eqU x)=xs.any λy=>eqV y x
 | _,_,.nil,_=>rfl
 | y :: xs,u :: us,.cons r t,f=>by
  rw[IK,BC] at f
  rw[DK,DK,t5 r f.1,gE t f.2]
theorem eV {A:BA}{s:Ax}{x:V}{v:Au}(rx:RelV x v)(fx:gC x=true):∀{xs:List V} {us:List Au},Vals xs us->xs.all gC=true->∀u∈us,C3 A s u v (eqU x u)
 | _,_,.nil,_=>λu hu=>by cases hu
 | y :: xs,u :: us,.cons r t,f=>λu' hu=>by
  rw[IK,BC] at f
  rcases AU.mp hu with rfl | hu
  ·rw[t5 r f.1];exact yv r rx f.1 fx
  ·exact eV rx fx t f.2 u' hu
def inV (x:V)(xs:List V):Bool:=xs.any λy=>eqV y x
def rIn (K:Av)(neg:Bool):R2:=λx y H Q=>∃p xs,y = .ref p/\(SqL K H p xs\/SqT K H p xs)/\gC x=true/\xs.all gC=true/\Q (.bl (if neg then !inV x xs else inV x xs)) H
theorem rL:OpR X (Cf .In) (rIn X.K false):=by
 intro pins s σ H x y v u Q I rx ry h
 obtain ⟨p,xs,rfl,hq,fx,fs,q⟩:=h
 cases ry
 rcases hq with hq | hq
 ·obtain ⟨its,r,pl,hz⟩:=I.list hq
  refine SeqAt.in_listAt (eqU x) pl.isList (λw hw=>eV rx fx r fs w (by simpa using hw)) ⟨.bl _,H,I,rfl,?_⟩
  rw[show its.toArray.any (eqU x)=its.any (eqU x) by simp,gE r fs]
  exact q
 ·obtain ⟨its,r,pl,hz⟩:=I.tuple hq
  refine HU (eqU x) pl (λw hw=>eV rx fx r fs w (by simpa using hw)) ⟨.bl _,H,I,rfl,?_⟩
  rw[show its.toArray.any (eqU x)=its.any (eqU x) by simp,gE r fs]
  exact q
theorem gF:OpR X (Cf .NotIn) (rIn X.K true):=by
 intro pins s σ H x y v u Q I rx ry h
 obtain ⟨p,xs,rfl,hq,fx,fs,q⟩:=h
 cases ry
 rcases hq with hq | hq
 ·obtain ⟨its,r,pl,hz⟩:=I.list hq
  refine GZ (eqU x) pl.isList (λw hw=>eV rx fx r fs w (by simpa using hw)) ⟨.bl _,H,I,rfl,?_⟩
  rw[show its.toArray.any (eqU x)=its.any (eqU x) by simp,gE r fs]
  exact q
 ·obtain ⟨its,r,pl,hz⟩:=I.tuple hq
  refine SeqAt.notIn_tupleAt (eqU x) pl (λw hw=>eV rx fx r fs w (by simpa using hw)) ⟨.bl _,H,I,rfl,?_⟩
  rw[show its.toArray.any (eqU x)=its.any (eqU x) by simp,gE r fs]
  exact q
theorem aH:cj X (.builtin "len") (λxs H Q=>∃p ys,xs=[.ref p]/\(SqL X.K H p ys\/SqT X.K H p ys)/\Q (.int ys.length) H):=by
 intro pins s σ H xs us Q I r h
 obtain ⟨p,ys,rfl,hq,q⟩:=h
 obtain ⟨u,rfl,rx⟩:=vals1 r
 cases rx
 have hn:=jq
 rcases hq with hq | hq
 ·obtain ⟨its,r',pl,hz⟩:=I.list hq
  have hlen:=r'.length
  exact Calls.call_len_list pl.isList (by simp only[Aw] <;> omega) ⟨.int ys.length,H,I.tok _,⟨s.toks+1,by rw[Aw,hlen]⟩,q⟩
 ·obtain ⟨its,r',pl,hz⟩:=I.tuple hq
  have hlen:=r'.length
  exact len_tuple pl (by simp only[Aw] <;> omega) ⟨.int ys.length,H,I.tok _,⟨s.toks+1,by rw[Aw,hlen]⟩,q⟩
theorem bg:cj X (.type "tuple") (λxs H Q=>∃p ys,xs=[.ref p]/\((SqL X.K H p ys/\∀l,H l=none->Q (.ref l) (upd H l (.tup ys)))\/(SqT X.K H p ys/\Q (.ref p) H))):=by
 intro pins s σ H xs us Q I r h
 obtain ⟨p,ys,rfl,h⟩:=h
 obtain ⟨u,rfl,rx⟩:=vals1 r
 cases rx
 rcases h with ⟨hq,q⟩ | ⟨hq,q⟩
 ·obtain ⟨its,r',pl,hz⟩:=I.list hq
  have hlen:=r'.length
  refine call_tuple_list pl.isList (λh' kp =>?_) (by simp only[Aw] <;> omega)
  have I1:Inv X pins σ H { s with heap:=h' }:=I.kept (t':=s.toks) kp
  have I2:Inv X pins σ (upd H h'.objs.size (.tup ys)) { s with heap:=h'.push { cls :=.type "tuple",data :=.seq its.toArray } } :=
   I1.laid (t':=s.toks) (λb o e=>Az _ e) (AE _) (show aZ X.prog X.w _ _ _ (.tup ys) from ⟨hz,its,r',dv.new _ _⟩)
  exact ⟨.ref h'.objs.size,_,I2,rfl,q _ (I1.hok.fresh (AE _))⟩
 ·obtain ⟨its,r',pl,hz⟩:=I.tuple hq
  exact call_tuple_same pl ⟨.ref p,H,I,rfl,q⟩
def tyV (K:Av)(T:String)(x:V)(H:Hp):Prop:=match x with
 | .str _=>T = "str"
 | .int _=>T = "int"
 | .ref p=>(T = "list" /\ ∃xs,SqL K H p xs)\/(T = "tuple" /\ ∃o,K.lookup p=some o/\o.cls = .type "tuple" /\ o.dict=none) ∨
   (T = "dict" /\ ((∃kvs,H p=some (.dK kvs))\/∃kvs,H p=some (.dT kvs)))\/(T = "set" /\ ∃S n,H p=some (.set S n))
 | _=>False
theorem t7 {pins:List (Addr×Obj)}{σ:St}{H:Hp}{s:Ax}{T:String}{x:V}{v:Au}(I:Inv X pins σ H s)(r:RelV x v)(ty:tyV X.K T x H) :
  s.TypeIs v T/\∀a,v = .ref a->∃ob,s.heap.get? a=some ob/\ob.dict=none:=by
 cases x with
 | str z =>
  obtain ⟨t,rfl⟩:=r
  cases (show T = "str" from ty)
  exact ⟨typeIs_str s z t,λ_ e=>nomatch e⟩
 | int i =>
  obtain ⟨t,rfl⟩:=r
  cases (show T = "int" from ty)
  exact ⟨typeIs_int s i t,λ_ e=>nomatch e⟩
 | ref p =>
  cases r
  rcases ty with ⟨rfl,xs,hq⟩ | ⟨rfl,o,hk,hc,hd⟩ | ⟨rfl,hk⟩ | ⟨rfl,S,n,hk⟩
  ·obtain ⟨its,_,pl,_⟩:=I.list hq
   refine ⟨pl.isList.typeIs,λa e =>?_⟩
   cases e
   obtain ⟨o,n,e,c,hd,_⟩:=pl
   exact ⟨o,e,hd⟩
  ·refine ⟨⟨o,I.kIn p o hk,hc⟩,λa e =>?_⟩
   cases e
   exact ⟨o,I.kIn _ o hk,hd⟩
  ·have z:∃o,s.heap.get? p=some o/\o.ExactDict:=by
    rcases hk with ⟨kvs,hk⟩ | ⟨kvs,hk⟩
    ·obtain ⟨_,_,_,_,o,_,_,e,ex,_⟩:=I.hok p _ hk
     exact ⟨o,e,ex⟩
    ·obtain ⟨_,_,_,_,o,_,_,e,ex,_⟩:=I.hok p _ hk
     exact ⟨o,e,ex⟩
   obtain ⟨o,e,ex⟩:=z
   refine ⟨⟨o,e,ex.1⟩,λa e2 =>?_⟩
   cases e2
   exact ⟨o,e,ex.2.1⟩
  ·obtain ⟨o,_,_,_,e,ex,_⟩:=I.hok p _ hk
   refine ⟨⟨o,e,ex.1⟩,λa e2 =>?_⟩
   cases e2
   exact ⟨o,e,ex.2.1⟩
 | _=>exact False.elim ty
def tBM0 (K:Av)(T:String)(r:V->List V->Hp->VK->Prop)(to:TE):TE:=λσ H Q=>to σ H λx H1=>tyV K T x H1/\r x [] H1 Q
def tBM (K:Av)(T:String)(r:V->List V->Hp->VK->Prop)(to:TE)(t:TA):TE:=λσ H Q=>to σ H λx H1=>tyV K T x H1/\t σ H1 λxs H2=>r x xs H2 Q
variable  {o e:Expr}{es:List Expr}{to:TE}{t:TA}{name:Str}{apos cpos:Pos}{T id:String}{r:V->List V->Hp->VK->Prop}
theorem yw (pa:PlainAttrs T)(slot:Slot T name id)(hty:typeOf (.builtin id)=pure (.type "method_descriptor"))(hm:MtR X id r)(ho:PE X o to)
  (hbase:attributeBase o name X.env (eval o X.env)=eval o X.env:=by rfl) (hline:(apos.endLine == cpos.line)=true:=by rfl):PE X (.Call (.Attribute o name apos) [] [] cpos) (tBM0 X.K T r to):=by
 intro pins s σ H Q I h
 refine wpAny_Call_method0_late hbase hline (thn (ho pins s σ H _ I h) λv s1 ⟨x,H1,I1,r1,ty,q1⟩ =>?_)
 obtain ⟨h1,h2⟩:=t7 I1 r1 ty
 exact ⟨T,id,pa,slot,hty,h1,h2,Er rfl (PySem.evalArgs_none (hm pins s1 σ H1 x [] v [] Q I1 r1 .nil q1))⟩
theorem eN (pa:PlainAttrs T)(slot:Slot T name id)(hty:typeOf (.builtin id)=pure (.type "method_descriptor"))(hm:MtR X id r)(ho:PE X o to)(ha:PA X (e :: es) t)
  (hbase:attributeBase o name X.env (eval o X.env)=eval o X.env:=by rfl)
  (hfew:((DV cpos (BD (e :: es) X.env)).all (λx => !x.1) && (backToKw cpos (keywordEach [] X.env)).all (λx=>x.1.isSome)
   && decide ((e :: es).length+([]:List Keyword).length+(if ([]:List Keyword).isEmpty then 0 else 1)<30))=true:=by rfl)
  (hline:(apos.endLine == cpos.line)=true:=by rfl) (hs:BD (e :: es) X.env=(false,eval e X.env) :: BD es X.env:=by rfl) (hplain:(DV cpos (BD es X.env)).any (·.1)=false:=by rfl) :
  PE X (.Call (.Attribute o name apos) (e :: es) [] cpos) (tBM X.K T r to t):=by
 intro pins s σ H Q I h
 refine F1 hbase hfew hline rfl (thn (ho pins s σ H _ I h) λv s1 ⟨x,H1,I1,r1,ty,q1⟩ =>?_)
 obtain ⟨h1,h2⟩:=t7 I1 r1 ty
 refine ⟨T,id,pa,slot,hty,h1,h2,?_⟩
 have hA:=ha cpos pins s1 σ H1 _ I1 q1
 rw[hs] at hA ⊢
 refine Er (by show (false || (DV cpos (BD es X.env)).any (·.1))=false;rw[hplain] <;> rfl) (EI ?_)
 exact thn hA λus s2 ⟨vs,H2,I2,r2,q2⟩=>hm pins s2 σ H2 x vs v us Q I2 r1 r2 q2
end
open PySem PySem.Spec PyProof.Rows
def MtM (X:Cx)(id:String)(r:V->List V->Hp->VK->Prop):Prop :=
 ∀(pins:List (Addr×Obj)) (s:Ax) (σ:St) (H:Hp) (x:V) (xs:List V) (v:Au) (us:List Au) (Q:VK),Inv X pins σ H s->RelV x v->Vals xs us->r x xs H Q →
  A7 (Bf X.prog X.w) X.A (call (.builtin id) (v :: us)) (EP X pins σ Q) X.xe s
theorem Vals.one:∀{x:V} {us:List Au},Vals [x] us->∃u,us=[u]/\RelV x u
 | _,_,.cons r .nil=>⟨_,rfl,r⟩
theorem Vals.zero:∀{us:List Au},Vals [] us->us=[]
 | _,.nil=>rfl
theorem Vals.dropLast {xs:List V}{us:List Au}(h:Vals xs us):Vals xs.dropLast us.dropLast:=by
 induction h with
 | nil=>exact .nil
 | cons r t ih =>
  cases t with
  | nil=>exact .nil
  | cons q t'=>exact .cons r ih
theorem Vals.eraseIdx:∀{xs:List V} {us:List Au} (i:Nat),Vals xs us->Vals (xs.eraseIdx i) (us.eraseIdx i)
 | _,_,_,.nil =>.nil
 | _,_,0,.cons _ t=>t
 | _,_,i+1,.cons r t =>.cons r (Vals.eraseIdx i t)
theorem Vals.reverse {xs:List V}{us:List Au}(h:Vals xs us):Vals xs.reverse us.reverse:=by
 induction h with
 | nil=>exact .nil
 | cons r t ih=>rw[Hq,Hq];exact Vals.append ih (.cons r .nil)
theorem oZ {α:Type}(l:List α):l.eraseIdx (l.length-1)=l.dropLast:=by
 induction l with
 | nil=>rfl
 | cons a r ih =>
  cases r with
  | nil=>rfl
  | cons b r =>
   have e:(a :: b :: r).length-1=((b :: r).length-1)+1:=by
    have h1:(a :: b :: r).length=r.length+2:=rfl
    have h2:(b :: r).length=r.length+1:=rfl
    omega
   rw[e,Ef,ih]
   all_goals rfl
theorem kX {α:Type}:∀(l:List α) (i:Nat),(l.eraseIdx i).length<=l.length
 | [],_=>AE _
 | _ :: _,0=>EN _
 | _ :: r,i+1=>FO (kX r i)
section
variable  {X:Cx}{pins:List (Addr×Obj)}{σ:St}{H:Hp}{s:Ax}{l b:Addr}{xs ys zs:List V}
theorem Inv.vZ {its its':List Au}{n:Nat}{f:Array Au->Array Au}{t':Nat}(I:Inv X pins σ H s)(hH:H l=some (.lst xs))
  (e:s.heap.get? l=some { cls :=.type "list",data :=.seq its.toArray n }) (hf:f its.toArray=its'.toArray) (hv:Vals ys its') (hz:ys.length<=AH) :
  Inv X pins σ (upd H l (.lst ys)) { s with heap:=s.heap.update l (C4 f),toks:=t' }:=by
 have q:=PySem.IsL.update e f
 rw[hf] at q
 refine I.write (x:=l) (e:=l) (by rw[hH];exact trivial) (.inl rfl) (λb' u hb hu=>(B2 s.heap (C4 f) (CK hb)).trans hu) ⟨_,q⟩ ?_
 exact ⟨hz,its',_,hv,q⟩
theorem Inv.lnew {its:List Au}{t':Nat}(I:Inv X pins σ H s)(hv:Vals ys its)(hz:ys.length<=AH) :
  Inv X pins σ (upd H s.heap.objs.size (.lst ys)) { s with heap:=s.heap.push { cls :=.type "list",data :=.seq its.toArray },toks:=t' } :=
 I.laid (λ_ _ q=>Az _ q) (AE _) ⟨hz,its,0,hv,AX _ rfl⟩
theorem Inv.fresh (I:Inv X pins σ H s):H s.heap.objs.size=none:=I.hok.fresh (AE _)
theorem Inv.t9 (I:Inv X pins σ H s)(hH:H l=some (.lst xs)):xs.length<=AH/\∃(its:List Au) (n:Nat),Vals xs its/\xs.length=its.length/\s.heap.get? l=some { cls :=.type "list",data :=.seq its.toArray n }:=by
 obtain ⟨z,its,n,r,e⟩:=I.hok l _ hH
 exact ⟨z,its,n,r,r.length,e⟩
theorem uc {n:Nat}(h:n<=AH):Builtin.List.listTooLong n=false:=by
 unfold Builtin.List.listTooLong
 exact decide_eq_false (by omega)
end
section
variable  {X:Cx}
def v3:V->List V->Hp->VK->Prop:=λx vs H Q=>∃l xs y,x = .ref l/\vs=[y]/\H l=some (.lst xs)/\xs.length<AH/\Q .non (upd H l (.lst (xs++[y])))
theorem cz:MtM X "list.append" v3:=by
 intro pins s σ H x vs v us Q I rx rv h
 obtain ⟨l,xs,y,rfl,rfl,hH,hz,q⟩:=h
 cases rx
 obtain ⟨u,rfl,ru⟩:=rv.one
 obtain ⟨z,its,n,r,hl,e⟩:=I.t9 hH
 refine EM F.slot_list_append ⟨_,e,rfl⟩ F.entry_list_append (F.args_list_append_2 _ _) (PySem.list_append l its.toArray n u (by rw[Aw];omega)) ⟨e,?_⟩
 refine ⟨.non,_,I.vZ (its':=its++[u]) hH e (by simp) (r.append (.cons ru .nil)) ?_,rfl,q⟩
 rw[As,Bs]
 omega
def v5:V->List V->Hp->VK->Prop:=λx vs H Q=>∃l b xs zs,x = .ref l/\vs=[.ref b]/\H l=some (.lst xs)/\H b=some (.lst zs)/\xs.length+zs.length<=AH/\Q .non (upd H l (.lst (xs++zs)))
theorem ib:MtM X "list.extend" v5:=by
 intro pins s σ H x vs v us Q I rx rv h
 obtain ⟨l,b,xs,zs,rfl,rfl,hH,hB,hz,q⟩:=h
 cases rx
 obtain ⟨u,rfl,ru⟩:=rv.one
 cases ru
 obtain ⟨z,its,n,r,hl,e⟩:=I.t9 hH
 obtain ⟨z2,its2,n2,r2,hl2,e2⟩:=I.t9 hB
 have hsz:its.toArray.size+its2.toArray.size<=AH:=by rw[Aw,Aw];omega
 have hlong:¬ (!its.toArray.isEmpty && Builtin.List.listTooLong (its.toArray.size+its2.toArray.size))=true:=by
  rw[uc hsz,Fb]
  exact AV
 refine EM F.slot_list_extend ⟨_,e,rfl⟩ F.entry_list_extend (F.args_list_extend_2 _ _)
  (AutoSeq1.list_extend_list_list_0 l its.toArray n b its2.toArray n2 hlong (by rw[Aw];omega) (by omega)) ⟨e,e2,?_⟩
 refine ⟨.non,_,I.vZ (its':=its++its2) hH e (by simp) (r.append r2) ?_,rfl,q⟩
 rw[As]
 omega
def rPop:V->List V->Hp->VK->Prop:=λx vs H Q=>∃l xs y,x = .ref l/\vs=[]/\H l=some (.lst xs)/\xs[xs.length-1]? = some y/\Q y (upd H l (.lst xs.dropLast))
theorem yx:MtM X "list.pop" rPop:=by
 intro pins s σ H x vs v us Q I rx rv h
 obtain ⟨l,xs,y,rfl,rfl,hH,hy,q⟩:=h
 cases rx
 have hus:=rv.zero
 subst hus
 obtain ⟨z,its,n,r,hl,e⟩:=I.t9 hH
 obtain ⟨u,hu,ru⟩:=r.get hy
 have hy':its.toArray[its.toArray.size-1]? = some u:=by
  show its.toArray[its.length-1]? = some u
  rw[<- AJ, <- hl]
  exact hu
 refine EM Ig ⟨_,e,rfl⟩ HV (F.args_list_pop_1 _) (MeetsSeq.list_pop_last l its.toArray n u hy' (by rw[Aw];omega)) ⟨e,?_⟩
 refine ⟨y,_,I.vZ (its':=its.dropLast) hH e ?_ r.dropLast ?_,ru,q⟩
 ·show its.toArray.eraseIdxIfInBounds (its.toArray.size-1)=its.dropLast.toArray
  rw[Aw,Et,oZ]
 ·rw[List.length_dropLast]
  omega
def yy:V->List V->Hp->VK->Prop:=λx vs H Q=>∃l xs i k y,x = .ref l/\vs=[.int i]/\H l=some (.lst xs) /\ -(2 ^ 63)<=i/\i<2 ^ 63/\seqIndex? i xs.length=some k/\xs[k]? = some y/\Q y (upd H l (.lst (xs.eraseIdx k)))
theorem ud:MtM X "list.pop" yy:=by
 intro pins s σ H x vs v us Q I rx rv h
 obtain ⟨l,xs,i,k,y,rfl,rfl,hH,h1,h2,hk,hy,q⟩:=h
 cases rx
 obtain ⟨u,rfl,ru⟩:=rv.one
 obtain ⟨t,rfl⟩:=ru
 obtain ⟨z,its,n,r,hl,e⟩:=I.t9 hH
 obtain ⟨w,hw,rw'⟩:=r.get hy
 refine EM Ig ⟨_,e,rfl⟩ HV (F.args_list_pop_2 _ _)
  (MeetsSeq.list_pop_at l its.toArray n i t k w (fitsIndex_both h1 h2) (by rw[Aw, <- hl];exact hk) (by rw[<- AJ];exact hw) (by rw[Aw];omega)) ⟨e,?_⟩
 refine ⟨y,_,I.vZ (its':=its.eraseIdx k) hH e ?_ (r.eraseIdx k) ?_,rw',q⟩
 ·show its.toArray.eraseIdxIfInBounds k=(its.eraseIdx k).toArray
  rw[Et]
 ·have:=kX xs k
  omega
end
section
variable  {prog:AN}{w:Bh}{A:BA}{E:Au->Ax->Prop}{s:Ax}
end
section
variable  {X:Cx}
end
end L2
namespace Att
open PySem PySem.W PySem.Calls PyProof.Rows
theorem iU {P:Params}{h:Heap}:∀(ns:List Int) (vs:List Au),WellAll P h vs (ns.map WData.int)->DJ vs ns:=by
 intro ns
 induction ns with
 | nil =>
  intro vs w
  rw[HI] at w
  cases w
  exact .nil
 | cons n ns ih =>
  intro vs w
  rw[Bd] at w
  cases w with
  | cons a b =>
   cases a
   exact .cons _ _ (ih _ b)
theorem rM {l:OpenLaw}{n:Nat}(hn:l.most=some n){P:Params}{h:Heap}{args:List WData}{vals:List Au}
  (hpre:l.row.toRowW.claim.pre args=true) (hwl:WellAll P h vals args) :
  ∃a vs ns,vals=[AS a]/\args=[WData.list (ns.map WData.int)]/\h.get? a=some { cls :=.type "list",data :=.seq vs.toArray }/\DJ vs ns/\ns.length<=n:=by
 have hsh:WShape.hasAll [] args [.list .int]=true:=(pre_splitW hpre).1
 have hc:l.pre.holds [] { args:=args }=true:=(pre_splitW hpre).2
 obtain ⟨d,r,rfl,h1,h2⟩:=hasAllW_cons hsh
 obtain rfl:=hasAllW_nil h2
 obtain ⟨xs,rfl,h3⟩:=hasW_list h1
 obtain ⟨ns,rfl⟩:=items_int h3
 have hlen:ns.length<=n:=by
  unfold OpenLaw.pre at hc
  have h4:(WTm.not (.lt (.lit (.int (n:Int))) (.len (.arg 0)))).holds [] { args:=[.list (ns.map .int)] }=true:=by
   have h4:=(holds_andW hc).1
   rw[hn] at h4
   exact h4
  have h5:=condW_of h4 (w_not (w_lt w_lit (w_len_list (w_arg rfl))))
  rw[Aq] at h5
  refine Ey λq =>?_
  have q':(n:Int)<((ns.length:Nat):Int):=by omega
  first
   | (rw[decide_eq_true q'] at h5;exact absurd h5 (by decide))
   | (simp at h5;omega)
 cases hwl with
 | cons w1 w2 =>
  cases w2
  cases w1 with
  | list ho hall=>exact ⟨_,_,ns,rfl,rfl,ho,iU ns _ hall,hlen⟩
theorem rN (l:OpenLaw)(args:List WData):l.row.toRowW.claim.post args (.bool true) args=true :=
 postW_of (r:=l.row.toRowW) (X:=(true == true))
  (show WShape.has [] (.bool true) .bool=true by first | rfl | decide | simp[WShape.has,WShape.arms,WShape.armsAll])
  (show (WTm.eq .res (.lit (.bool true))).value [] { args:=args,res:=some (.bool true),after:=args }=some (.bool (true == true)) from w_eq_bool (w_res rfl) w_lit) rfl
theorem nG {l:OpenLaw}{n:Nat}{q:AN}{loose:List Str}{XP:(Str->Option Au)->Heap->Prop}{YP:Bh->Heap->Prop}{d:DefRec}
  (hn:l.most=some n) (hdf:d.params.defaults=[])
  (call:∀(w:Bh) (s₀ s₁:Ax) (mg mb:Str->Option Au) (fa:Addr) (o:Obj) (pm cd doc:Au) (a:Addr) (vs:List Au) (ns:List Int),
   Ground q loose [] XP w s₀ mg mb s₁.heap->YP w s₁.heap →
   s₁.heap.get? fa=some o->o.data = .func (docDef d.name d.params d.body d.scope pm cd doc)->s₁.heap.CodeRec cd d.name->mg d.name=some (.ref fa) →
   s₁.heap.get? a=some { cls :=.type "list",data :=.seq vs.toArray }->DJ vs ns->ns.length<=n->s₁.gens = #[] →
   FN (Bf l.prog w) callerA (.call (.ref fa) ⟨[.ref a],[]⟩) (λr s'=>r = .ok (.ret (.bool true))/\OldK s₁.heap s'.heap/\s'.os=s₁.os/\AllBare s'.gens) s₁) :
  WalkO q loose XP YP l.row.toRowW d [] (λf vs=>PySem.call f vs):=by
 intro w s₀ s₁ mg mb G Y fa o pm cd doc dV kV ho hd hcd hD hmg hg args vals as hpre hlay hrd hwl hlo
 obtain rfl:dV = .none:=Dflts.none hD hdf
 obtain rfl:kV = .none:=Dflts.noKw hD
 obtain ⟨a,vs,ns,rfl,rfl,hobj,hints,hlen⟩:=rM hn hpre hwl
 refine enter_call (Dl (call w s₀ s₁ mg mb fa o pm cd doc a vs ns G Y ho (fd_plain hd) hcd hmg hobj hints hlen hg) λr s' hq =>?_)
 obtain ⟨rfl,h2,h3,h4⟩:=hq
 exact ⟨.inl ⟨.bool true,.bool true,[],rfl,λ_=>rfl,.bool true,rN l _,λ_=>⟨List.Pairwise.nil,λ_ hm=>(nomatch hm)⟩⟩,h2,h3,h4⟩
section
variable  {prog:AN}{w:Bh}{A:BA}{E:Au->Ax->Prop}{s:Ax}{K:Frag}
def ledger (h:Heap)(L d:Addr):List (Addr×Obj):=(Ba h.objs.size).filterMap λa=>if a=L\/a=d then none else (h.get? a).map λo=>(a,o)
end
end Att
namespace L2
open PySem PySem.Spec PyProof.Rows
theorem ic:∀{vs:List Au} {ns:List Int},DJ vs ns->Vals (ns.map V.int) vs
 | _,_,.nil =>.nil
 | _,_,.cons n t h =>.cons ⟨t,rfl⟩ (ic h)
def yz (H:Hp):Prop:=∀b,H b=none\/∃o xs,H b=some (.frz o (.lst xs))
theorem ue {P:AN}{w:Bh}{K:Av}{mg mb:Str->Option Au}{CX:CXT}{k:Nat}{fa a:Addr}{fd:BJ}{x:Str}{sp:Sp}{s₁:Ax}{vs:List Au}{ns:List Int}
  (KX:K.In s₁.heap) (hns:s₁.heap.Ns A9 mg) (hb:s₁.heap.Ns builtinsNs mb) (hbb:∀x:Str,x ≠ "__name__" -> mb x=BU x) (hlim:s₁.heap.NoLimit) (hg:s₁.gens = #[])
  (ha:s₁.heap.get? a=some { cls :=.type "list",data :=.seq vs.toArray }) (hi:DJ vs ns) (hl:ns.length<=AH) (hr:bW k callerA)
  (F:∀base:Heap,K.In base->base.Ns A9 mg->bE P w K mg base CX k fa fd [x] sp) (hbind:∀(s:Ax) (u:Au),BindsTo s fd ⟨[u],[]⟩ [(x,u)])
  (hsp:∀H:Hp,yz H->SqL K H a (ns.map V.int)->sp [.ref a] H (λv _=>v = .bl true) λ_ _ _=>False)
  (hCX:∀H e s',CX [] H s₁ (λ_ _ _=>False) e s'->False) :
  FN (Bf P w) callerA (.call (.ref fa) ⟨[.ref a],[]⟩) (λr s'=>r = .ok (.ret (.bool true))/\OldK s₁.heap s'.heap/\s'.os=s₁.os/\AllBare s'.gens) s₁:=by
 have rv:=ic hi
 have lenV:=hi.length
 have core:∀H:Hp,yz H->SqL K H a (ns.map V.int)->HOk P w H s₁.heap->(∀b,H b≠none->b=a)->(H a≠none->K.lookup a=none) →
   FN (Bf P w) callerA (.call (.ref fa) ⟨[.ref a],[]⟩) (λr s'=>r = .ok (.ret (.bool true))/\OldK s₁.heap s'.heap/\s'.os=s₁.os/\AllBare s'.gens) s₁:=by
  intro H hO hS hok hA hK
  have base_of:∀{b:Addr} {o:Obj},s₁.heap.get? b=some o->H b=none->(me s₁.heap H).get? b=some o:=λe n=>tI e n
  have noA:∀{b:Addr} {o:Obj} {es:Array DictEntry} {ep:Nat},s₁.heap.get? b=some o->o.data = .dict es ep->H b=none:=λ{b o es ep} e d=>by
   cases q:H b with
   | none=>rfl
   | some u =>
    have e':b=a:=hA b (by rw[q];simp)
    subst e'
    rw[ha] at e;cases e
    have d':Data.seq vs.toArray _=Data.dict es ep:=d
    cases d'
  have nsK:∀{b:Addr} {m:Str->Option Au},s₁.heap.Ns b m->(me s₁.heap H).Ns b m:=λ{b m} ⟨o,es,ep,e,d,r⟩=>⟨o,es,ep,base_of e (noA e d),d,r⟩
  have hKb:K.In (me s₁.heap H):=λb o e=>base_of (KX b o e) (by
   cases q:H b with
   | none=>rfl
   | some u =>
    have e':b=a:=hA b (by rw[q];simp)
    subst e'
    rw[hK (by rw[q];simp)] at e;cases e)
  have hM:Mod K mg (me s₁.heap H):=⟨hKb,nsK hns,⟨mb,nsK hb,hbb⟩,let ⟨mc,h1,h2⟩:=hlim;⟨mc,nsK h1,h2⟩⟩
  have e0:vU P w K mg (me s₁.heap H) callerA [] s₁ H:=⟨rfl,hM,λb o e=>vO e,Nat.le_of_eq (rB _ _),trivial,λb hb=>absurd (show b∈([]:List Addr) from hb) (by simp),hok,.of_eq hg⟩
  refine Dl ((F _ hKb (nsK hns)).run callerA [] s₁ H ⟨[.ref a],[]⟩ [.ref a] [.ref a] _ _ hr e0 (hbind s₁ (.ref a)) (.cons rfl .nil) (hsp H hO hS)) λr s' h =>?_
  cases r with
  | error e=>exact (hCX H e s' h).elim
  | ok fl =>
   cases fl with
   | next=>exact False.elim h
   | brk=>exact False.elim h
   | cont=>exact False.elim h
   | ret u =>
    obtain ⟨v,H',os,bare,un,hok',r',q⟩:=h
    have q':v = .bl true:=q
    subst q'
    obtain rfl:u=Value.bool true:=r'
    refine ⟨rfl,OldK.of_keep λb o e =>?_,os,bare⟩
    cases q:H b with
    | none=>exact un.keep b o e q (by intro z;exact absurd (show b∈([]:List Addr) from z) (by simp)) (by simp)
    | some u =>
     rcases hO b with z | ⟨ob,xs,z⟩
     ·rw[q] at z;cases z
     ·have z2:=un.frzs b ob _ z
      obtain ⟨e1,_⟩:=hok b _ z
      obtain ⟨e2,_⟩:=hok' b _ z2
      rw[e] at e1;cases e1
      exact e2
 cases hk:K.lookup a with
 | some o =>
  have e:=KX a o hk
  rw[ha] at e
  cases e
  refine core (λ_=>none) (λ_ =>.inl rfl) (.inr ⟨_,vs.toArray,_,hk,rfl,rfl,rfl,by rw[Aw,lenV];exact hl,by simpa using rv⟩) (λb u z=>by have z':(none:Option HO)=some u:=z;cases z') (λb z=>absurd rfl z) λz=>absurd rfl z
 | none =>
  refine core (λb=>if b=a then some (.frz { cls :=.type "list",data :=.seq vs.toArray } (.lst (ns.map V.int))) else none) (λb =>?_) (.inl (.inr ⟨{ cls :=.type "list",data :=.seq vs.toArray },if_pos rfl⟩)) (λb u z =>?_) (λb z =>?_) λ_=>hk
  ·by_cases hb:b=a
   ·exact .inr ⟨_,_,if_pos hb⟩
   ·exact .inl (if_neg hb)
  ·by_cases hb:b=a
   ·have z':=(if_pos hb).symm.trans z
    cases z'
    subst hb
    exact ⟨ha,by rw[Aq];exact hl,vs,_,rv,ha⟩
   ·have z':=(if_neg hb).symm.trans z
    cases z'
  ·by_cases hb:b=a
   ·exact hb
   ·exact absurd (if_neg hb) z
open PySem PySem.Spec PyProof.Rows
theorem v7 {l:PySem.W.OpenLaw}{n k:Nat}{q:AN}{loose:List Str}{XP:(Str->Option Au)->Heap->Prop}{YP:Bh->Heap->Prop}{d:DefRec}{K:Params->Av}{CX:Bh->CXT}{sp:Bh->Sp}{x:Str}
  (hn:l.most=some n) (hn2:n<=AH) (hdf:d.params.defaults=[]) (hr:bW k callerA)
  (hY:∀(w:Bh) (h:Heap),YP w h->(K w.params).In h)
  (F:∀(w:Bh) (mg:Str->Option Au) (fa:Addr) (h:Heap),(K w.params).In h->h.Ns A9 mg->mg d.name=some (.ref fa) →
   ∃fd:BJ,(∀(s:Ax) (u:Au),BindsTo s fd ⟨[u],[]⟩ [(x,u)]) ∧
    ∀base:Heap,(K w.params).In base->base.Ns A9 mg->bE l.prog w (K w.params) mg base (CX w) k fa fd [x] (sp w))
  (hsp:∀(w:Bh) (H:Hp) (a:Addr) (ns:List Int),ns.length<=n->yz H->SqL (K w.params) H a (ns.map V.int)->sp w [.ref a] H (λv _=>v = .bl true) λ_ _ _=>False)
  (hCX:∀(w:Bh) (H:Hp) (s:Ax) (e:Au) (s':Ax),CX w [] H s (λ_ _ _=>False) e s'->False) :
  PySem.W.WalkO q loose XP YP l.row.toRowW d [] (λf vs=>PySem.call f vs):=by
 refine Att.nG hn hdf λw s₀ s₁ mg mb fa o pm cd doc a vs ns G Y ho hd hcd hmg hobj hints hlen hg =>?_
 have KX:=hY w _ Y
 obtain ⟨fd,hb,hF⟩:=F w mg fa _ KX G.T.g hmg
 exact ue KX G.T.g G.T.b G.T.builtins G.T.nolimit hg hobj hints (A5 hlen hn2) hr hF hb (λH hO hS=>hsp w H a ns hlen hO hS) λH e s'=>hCX w H s₁ e s'
open PySem PySem.Spec PyProof.Rows
def cu (s:Stmt):Arguments:=match s with
 | .FunctionDef _ a _ _ _ _ _ _ _ _=>a
 | _=>{ posonlyargs:=[],args:=[],vararg:=none,kwonlyargs:=[],kw_defaults:=[],kwarg:=none,defaults:=[] }
def bG (s:Stmt):List Stmt:=match s with
 | .FunctionDef _ _ b _ _ _ _ _ _ _=>b
 | _=>[]
def au (s:Stmt):Scope:=match s with
 | .FunctionDef _ _ _ _ _ _ sc _ _ _=>sc
 | _=>{ kind :=.function,names:=[],isGenerator:=false,isCoroutine:=false }
abbrev CX0:CXT:=λ_ _ _ _ _ _=>False
abbrev E0:XK:=λ_ _ _=>False
theorem zQ {X:Cx}:Passes CX0 X E0:=λ_ _ _ _ _ _ _ h=>h.elim
structure Fun (K:Av)(x qual:Str)(st:Stmt)(f:Addr)(fd:BJ):Prop where
 ex:∃(oc:Au) (od:Option Addr) (kV doc pm:Au) (an:Option Addr) (cdv ct:Au) (osl:Array (Option Au)),
  fd=PySem.W.fnOf x qual (cu st) (bG st) (au st) .none kV doc pm an cdv ct/\K.lookup f=some ⟨oc,od,.func fd,osl⟩/\PySem.W.codeIn K cdv qual=true
 kp:PySem.W.keepIn K (.ref f)=true
section
variable  {P:AN}{w:Bh}{K:Av}{mg:Str->Option Au}{base:Heap}
theorem Fun.ok {x qual:Str}{st:Stmt}{f:Addr}{fd:BJ}{N ps:List Str}{k:Nat}{sp:Sp}(F:Fun K x qual st f fd)(S:aI N ps (au st))(len:∀vs H Q E,sp vs H Q E->vs.length=ps.length)
  (hbody:∀(cdv:Au) (A:BA) (outer:List Env) (s:Ax) (H:Hp) (vs:List V) (Q:VK) (E:XK),bW k (A.deeper (envOfC qual (au st) s.heap.objs.size f cdv))->sp vs H Q E →
   ∃t,PSs (ia CX0 P w K mg base N qual (au st) f cdv A outer s H E).nox (bG st) t/\t { nx:=λ_ H'=>Q .non H',rt:=Q } (start N vs) H):bE P w K mg base CX0 (k+1) f fd ps sp:=by
 obtain ⟨oc,od,kV,doc,pm,an,cdv,ct,osl,rfl,lk,hcd⟩:=F.ex
 refine xO lk hcd S len λA outer s H vs Q E hr hsp =>?_
 obtain ⟨t,h,q⟩:=hbody cdv A outer s H vs Q E hr hsp
 exact ⟨t,h.nox,q⟩
theorem Fun.binds {x qual:Str}{st:Stmt}{f:Addr}{fd:BJ}{ps:List Str}(F:Fun K x qual st f fd)
  (h:∀(kV doc pm:Au) (an:Option Addr) (cdv ct:Au) (us:List Au),us.length=ps.length->bindArgs (PySem.W.fnOf x qual (cu st) (bG st) (au st) .none kV doc pm an cdv ct) ⟨us,[]⟩=pure (ps.zip us)):Binds K fd ps []:=by
 obtain ⟨oc,od,kV,doc,pm,an,cdv,ct,osl,rfl,lk,hcd⟩:=F.ex
 exact .all (h kV doc pm an cdv ct)
theorem jt {x qual:Str}{st:Stmt}{f:Addr}{oc:Au}{od an:Option Addr}{osl:Array (Option Au)}{kV doc pm cdv ct:Au}(l:K.lookup f=some ⟨oc,od,.func (PySem.W.fnOf x qual (cu st) (bG st) (au st) .none kV doc pm an cdv ct),osl⟩)
  (c:PySem.W.codeIn K cdv qual=true) (k:PySem.W.keepIn K (.ref f)=true):Fun K x qual st f (PySem.W.fnOf x qual (cu st) (bG st) (au st) .none kV doc pm an cdv ct):=⟨⟨oc,od,kV,doc,pm,an,cdv,ct,osl,rfl,l,c⟩,k⟩
end
theorem xP {A:BA}{k:Nat}(hr:bW k A):A.units+1<cLine:=Eg (DZ (by decide:1<=64) _) hr.units
theorem ck {n:Nat}(h:n<=1000):n<AH:=Eg h (by decide)
section
variable  {X:Cx}
theorem pv (i:Nat){x:Str}{pos:Pos}(hN:X.N[i]? = some x:=by rfl)(hv:Vis X.env.scope x:=by first | exact Or.inl rfl | exact Or.inr (Or.inl rfl) | exact Or.inr (Or.inr rfl))(hd:(x == ("__debug__" : Str))=false:=by decide)
  (hcd:(x == ("__classdict__" : Str))=false:=by decide):PE X (.Name x pos) (zw i):=yc hN hv hd hcd
end
theorem cw {A B:Prop}(h:B):if false=true then A else B:=by
 rw[if_neg AV]
 exact h
theorem cx {A B:Prop}(h:A):if true=true then A else B:=by
 rw[if_pos rfl]
 exact h
theorem gG {c A B:Prop}[Decidable c](h1:c->A)(h2:¬ c->B):if c then A else B:=by
 by_cases h:c
 ·rw[if_pos h]
  exact h1 h
 ·rw[if_neg h]
  exact h2 h
theorem zR {c A B:Prop}[Decidable c](hc:c)(h:B):if (!decide c)=true then A else B:=by
 rw[decide_eq_true hc]
 exact cw h
def aD (H H':Hp):Prop:=∀b o,H b=some o->H' b=some o
theorem aD.refl (H:Hp):aD H H:=λ_ _ h=>h
theorem aD.trans {H H1 H2:Hp}(a:aD H H1)(b:aD H1 H2):aD H H2:=λc o h=>b c o (a c o h)
theorem aD.free {H H':Hp}(e:aD H H'){l:Addr}(h:H' l=Option.none):H l=Option.none:=by
 cases q:H l with
 | none=>rfl
 | some o =>
  rw[e l o q] at h
  cases h
theorem aD.seq {K:Av}{H H':Hp}{a:Addr}{xs:List V}(e:aD H H')(h:SqL K H a xs):SqL K H' a xs:=by
 rcases h with (h | ⟨o,h⟩) | h
 ·exact .inl (.inl (e _ _ h))
 ·exact .inl (.inr ⟨o,e _ _ h⟩)
 ·exact .inr h
end L2
set_option maxHeartbeats 4000000
namespace L2
open PySem PySem.Spec PyProof.Rows
def nH (on:List (Str×NameKind))(N:List Str)(sc:Scope)(N':List Str)(ix:List (Option Nat)):Bool :=
 decide (sc.kind = .function) &&
 sc.names.all (λy=>match y.2 with
  | .local=>decide (sc.names.lookup y.1=some .local)
  | .cell=>false
  | .free=>decide (on.lookup y.1=some .cell) || decide (on.lookup y.1=some .free)
  | _=>true) &&
 decide (ix.length=N'.length) &&
 (ix.zip N').all (λp=>match p.1 with
  | none=>true
  | some j=>decide (N[j]? = some p.2) && decide (sc.names.lookup p.2=some .free))
theorem iJ {ns:List (Str×NameKind)}{y:Str}{k:NameKind}(h:ns.lookup y=some k):(y,k)∈ns:=CV h
structure ju (on:List (Str×NameKind))(N:List Str)(sc:Scope)(N':List Str)(ix:List (Option Nat)):Prop where
 kind:sc.kind = .function
 locs:∀y∈sc.names,y.2 = .local->sc.names.lookup y.1=some .local
 nocell:∀y∈sc.names,y.2 ≠ .cell
 frees:∀y∈sc.names,y.2 = .free->on.lookup y.1=some .cell\/on.lookup y.1=some .free
 len:ix.length=N'.length
 slot:∀(i j:Nat) (y:Str),ix[i]? = some (some j)->N'[i]? = some y->N[j]? = some y/\sc.names.lookup y=some .free
theorem ju.of {on:List (Str×NameKind)}{N:List Str}{sc:Scope}{N':List Str}{ix:List (Option Nat)}(h:nH on N sc N' ix=true):ju on N sc N' ix:=by
 unfold nH at h
 rw[BC,BC,BC] at h
 obtain ⟨⟨⟨h1,h2⟩,h3⟩,h4⟩:=h
 rw[BF] at h2 h4
 refine ⟨of_decide_eq_true h1,λy hy e =>?_,λy hy e =>?_,λy hy e =>?_,of_decide_eq_true h3,λi j y e1 e2 =>?_⟩
 ·have q:=h2 y hy
  rw[e] at q
  exact of_decide_eq_true q
 ·have q:=h2 y hy
  rw[e] at q
  cases q
 ·have q:=h2 y hy
  rw[e] at q
  exact ((Bool.or_eq_true _ _).mp q).imp of_decide_eq_true of_decide_eq_true
 ·have q:=h4 (some j,y) (A0 (i:=i) (by rw[Fc];exact ⟨e1,e2⟩))
  dsimp only at q
  rw[BC] at q
  exact ⟨of_decide_eq_true q.1,of_decide_eq_true q.2⟩
theorem iK {α β:Type}(f:α -> β -> β)(b:α -> β -> Sem (ForInStep β)):∀(l:List α) (c:β),(∀x∈l,∀d,b x d=pure (.yield (f x d)))->forIn l c b=pure (l.foldl (λd x=>f x d) c)
 | [],c,_=>rfl
 | x :: l,c,h=>by
  rw[List.forIn_cons,h x AM,pure_bind]
  exact iK f b l (f x c) λy hy=>h y (AL _ hy)
def aM (env:Env)(l:List (Str×NameKind))(c:List (Str×Addr)):List (Str×Addr) :=
 l.foldl (λd y=>if y.2 = .free then (y.1,(env.cells.lookup y.1).getD 0) :: d else d) c
theorem o5 {sc:Scope}{env:Env}(h:∀y∈sc.names,y.2 = .free->∃c,env.cells.lookup y.1=some c):closureFor sc env=pure (aM env sc.names []):=by
 simp only[closureFor]
 unfold aM
 rw[iK (λy d=>if y.2 = .free then (y.1,(env.cells.lookup y.1).getD 0) :: d else d)]
 ·rfl
 ·rintro ⟨n,k⟩ hy d
  by_cases hk:k = .free
  ·subst hk
   obtain ⟨c,e⟩:=h _ hy rfl
   have e':env.cells.lookup n=some c:=e
   simp only[beq_self_eq_true,if_true,cellOf,e',Option.getD_some]
   rfl
  ·have hb:(k == NameKind.free)=false:=by simpa using hk
   simp only[hb,A1,if_false,hk]
theorem cO {env:Env}{y:Str}{c:Addr}:∀(l:List (Str×NameKind)) (d:List (Str×Addr)),(∀z∈l,z.2 = .free->∃c,env.cells.lookup z.1=some c)->(aM env l d).lookup y=some c →
  d.lookup y=some c\/env.cells.lookup y=some c
 | [],d,_,h =>.inl h
 | (n,k) :: l,d,hf,h=>by
  have h':(aM env l (if k = .free then (n,(env.cells.lookup n).getD 0) :: d else d)).lookup y=some c:=h
  have ih:=cO l _ (λz hz=>hf z (AL _ hz)) h'
  by_cases hk:k = .free
  ·subst hk
   rw[if_pos rfl] at ih
   rcases ih with q | q
   ·rw[DX] at q
    cases hx:(y == n) with
    | true =>
     rw[hx] at q
     obtain ⟨c',e⟩:=hf (n,.free) AM rfl
     have e':env.cells.lookup n=some c':=e
     have q':some ((env.cells.lookup n).getD 0)=some c:=q
     rw[e'] at q'
     have en:y=n:=eq_of_beq hx
     rw[en,e']
     exact .inr q'
    | false =>
     rw[hx] at q
     exact .inl q
   ·exact .inr q
  ·rw[if_neg hk] at ih
   exact ih
theorem dU {env:Env}{y:Str}:∀(l:List (Str×NameKind)) (d:List (Str×Addr)),((y,NameKind.free)∈l\/∃c,d.lookup y=some c)->∃c,(aM env l d).lookup y=some c
 | [],d,h=>by
  rcases h with h | h
  ·cases h
  ·exact h
 | (n,k) :: l,d,h=>by
  show ∃c,(aM env l (if k = .free then (n,(env.cells.lookup n).getD 0) :: d else d)).lookup y=some c
  refine dU l _ ?_
  have old:(∃c,d.lookup y=some c)->∃c,(if k = .free then (n,(env.cells.lookup n).getD 0) :: d else d).lookup y=some c:=λ⟨c,e⟩=>by
   by_cases hk:k = .free
   ·rw[if_pos hk,DX]
    cases hx:(y == n) with
    | true=>exact ⟨_,rfl⟩
    | false=>exact ⟨c,e⟩
   ·rw[if_neg hk];exact ⟨c,e⟩
  rcases h with h | h
  ·rcases AU.mp h with q | q
   ·cases q
    rw[if_pos rfl,DX,beq_self_eq_true]
    exact .inr ⟨_,rfl⟩
   ·exact .inl q
  ·exact .inr (old h)
theorem jv {c:Str->NameKind->Bool}{y:Str}:∀l:List (Str×NameKind),(l.map λz=>if c z.1 z.2=true then (z.1,NameKind.cell) else (z.1,z.2)).lookup y=(l.lookup y).map λk=>if c y k=true then NameKind.cell else k
 | []=>rfl
 | (n,k) :: l=>by
  have ih:=jv (c:=c) (y:=y) l
  rw[Bd]
  have e:(if c n k=true then (n,NameKind.cell) else (n,k))=(n,if c n k=true then NameKind.cell else k):=by split <;> rfl
  show List.lookup y ((if c n k=true then (n,NameKind.cell) else (n,k)) :: _)=_
  rw[e,DX,DX]
  cases hx:(y == n) with
  | true =>
   have en:y=n:=eq_of_beq hx
   subst en
   rfl
  | false=>exact ih
def blk (X:Cx)(sc:Scope)(cl:List (Str×Addr))(C:Addr)(N':List Str)(s:Ax)(H:Hp)(fp:List Addr):Cx :=
 { X with N:=N',s₀:=s,H₀:=H,env:=compEnvC sc cl C X.env,outer:=X.stack,ex:=fp,fn:=λ_=>false,pn:=[],xe:=λ_ _=>False }
def PF (X:Cx)(ifs:List Expr)(t:TT):Prop :=
  ∀(pins:List (Addr×Obj)) (s:Ax) (σ:St) (H:Hp) (Q:Bool->Hp->Prop),Inv X pins σ H s->t σ H Q →
    A7 (Bf X.prog X.w) X.A (forIn ifs true λc r=>if r=true then do let ok ← isTrue c X.env (eval c X.env);pure (ForInStep.yield ok) else pure (ForInStep.yield r)) (TP X pins σ Q) X.xe s
theorem dW {X:Cx}:PF X [] (λ_ H Q=>Q true H):=λ_ _ _ H _ I h=>wpAny_tests_nil ⟨H,I,h⟩
theorem yA {X:Cx}{c:Expr}{t:TT}(h:PT X c t):PF X [c] t:=λpins s σ H Q I q=>wpAny_tests_one (h pins s σ H Q I q)
def inner (ix:List (Option Nat))(σ:St):St:=ix.map λo=>match o with | none=>none | some j=>(σ[j]?).join
def kY (J:It)(g:TG)(tc:TT)(te:TE)(τ:St)(Q:VK)(H1:Hp):Prop:=∃W:Nat->Nat->St->List V->Hp->Prop,(∃m,W 0 m τ [] H1)/\∀i m τ ys H,W i m τ ys H →
 (J.stop i H/\ys.length<=AH/\∀l,H l=none->Q (.ref l) (upd H l (.lst ys))) ∨
 (J.go i H/\∀x H',J.yld i H x H'->g x τ H' λτ2 H2=>tc τ2 H2 λb H3=>if b=true then te τ2 H3 λy H4=>ys.length<AH/\∃m',m'<m/\W (i+1) m' τ2 (ys++[y]) H4 else ∃m',m'<m/\W (i+1) m' τ2 ys H3)
def uf (ix:List (Option Nat))(wi:TI)(g:TG)(tc:TT)(te:TE):TE:=λσ H Q=>wi σ H λJ H1=>kY J g tc te (inner ix σ) Q H1
section
variable  {X:Cx}{sc:Scope}{N':List Str}{ix:List (Option Nat)}{pins:List (Addr×Obj)}{σ:St}{H:Hp}{s:Ax}
theorem yB (I:Inv X pins σ H s)(K:ju X.env.scope.names X.N sc N' ix){C:Addr}{fp:List Addr}(hC:s.heap.objs.size<=C)(f:∀b∈fp,jj X pins H b)(fl:∀b∈fp,b<s.heap.objs.size) :
  (blk X sc (aM X.env sc.names []) C N' s H fp).Ok:=by
 have hcl:∀y∈sc.names,y.2 = .free->∃c,X.env.cells.lookup y.1=some c:=λy hy e=>I.ok.has y.1 (K.frees y hy e)
 have up:∀y c,(aM X.env sc.names []).lookup y=some c->X.env.cells.lookup y=some c:=λy c e=>by
  rcases cO sc.names [] hcl e with q | q
  ·cases q
  ·exact q
 have nfs:∀b∈fp,b∉frs X.stack:=λb hb z=>by
  rcases AU.mp (I.mf b z) with q | q
  ·exact (f b hb).2.1 q
  ·exact (f b hb).2.2.1 q
 refine ⟨I.ok.mod,K.kind,I.ok.glob,I.ok.blt,hC,λy z c h1 h2=>I.ok.inj y z c (up _ _ h1) (up _ _ h2),λy hy =>?_,(λy c h=>nomatch h),I.ok.hd,I.ok.frames,.inl rfl,λb hb =>?_,λb o e=>I.bs b o e,A5 I.ok.bsz I.sz,λb o e hb =>?_,nfs,I.stack,I.mh⟩
 ·have hy':(relabel sc X.env).names.lookup y=some .cell\/(relabel sc X.env).names.lookup y=some .free:=hy
  have em:=jv (c:=λn k=>k == .free && X.env.scope.kind == .function && X.env.kindOf n == some .cell) (y:=y) sc.names
  have em':(relabel sc X.env).names.lookup y=_:=em
  rw[em'] at hy'
  cases hq:sc.names.lookup y with
  | none=>rw[hq] at hy';rcases hy' with q | q <;> cases q
  | some k =>
   have km:=iJ hq
   have hk:k = .free:=by
    rw[hq] at hy'
    simp only[F7,Option.some.injEq] at hy'
    by_cases hc:(k == .free && X.env.scope.kind == .function && X.env.kindOf y == some .cell)=true
    ·rw[BC,BC] at hc
     exact by simpa using hc.1.1
    ·rw[if_neg hc] at hy'
     rcases hy' with q | q
     ·exact absurd q (K.nocell _ km)
     ·exact q
   subst hk
   exact dU sc.names [] (.inl km)
 ·exact ⟨A3 (AO (fl b hb) hC),λy c e=>(f b hb).2.2.2.2.1 y c (up y c e)⟩
 ·rcases (f b hb).2.2.2.1 with q | q
  ·exact I.ok.noex b o e q
  ·exact absurd (AO (AQ e) (A5 I.ok.bsz q)) (B3 _)
theorem v8 (I:Inv X pins σ H s)(K:ju X.env.scope.names X.N sc N' ix){C:Addr}{fp:List Addr}(hC:s.heap.objs.size<=C)(f:∀b∈fp,jj X pins H b)(fl:∀b∈fp,b<s.heap.objs.size)
  {h1:Heap} {t:Nat} {m:Str->Option Au} (k:∀b o,s.heap.get? b=some o->h1.get? b=some o) (ns:h1.Ns C m) :
  Inv (blk X sc (aM X.env sc.names []) C N' s H fp) [] (inner ix σ) H { s with heap:=h1,toks:=t }:=by
 have hcl:∀y∈sc.names,y.2 = .free->∃c,X.env.cells.lookup y.1=some c:=λy hy e=>I.ok.has y.1 (K.frees y hy e)
 have up:∀y c,(aM X.env sc.names []).lookup y=some c->X.env.cells.lookup y=some c:=λy c e=>by
  rcases cO sc.names [] hcl e with q | q
  ·cases q
  ·exact q
 refine ⟨yB I K hC f fl,rfl,I.bare,Un.kept k,⟨m,ns,λi y v e1 e2 e3 =>?_⟩,λy c e =>?_,I.hok.fresh hC,λy c e=>I.freeC y c (up y c e),(λp hp=>nomatch hp),I.hok.kept k,?_⟩
 ·have e2':(ix.map λo=>match o with | none=>none | some j=>(σ[j]?).join)[i]? = some (some v):=e2
  rw[AW] at e2'
  cases hi:ix[i]? with
  | none=>rw[hi] at e2';cases e2'
  | some o =>
   cases o with
   | none=>rw[hi] at e2';cases e2'
   | some j =>
    rw[hi] at e2'
    have e4:(σ[j]?).join=some v:=Bq e2'
    have e5:σ[j]? = some (some v):=by
     cases hj:σ[j]? with
     | none=>rw[hj] at e4;cases e4
     | some z=>rw[hj] at e4;rw[show z=some v from e4]
    obtain ⟨n1,n2⟩:=K.slot i j y hi e1
    have mem:=iJ n2
    have kc:X.env.kindOf y=some .cell\/X.env.kindOf y=some .free:=K.frees _ mem rfl
    obtain ⟨m',_,hl⟩:=I.loc
    obtain ⟨u,r,l⟩:=hl j y v n1 e5 (.inr kc)
    refine ⟨u,r,?_⟩
    rcases l with ⟨q,_⟩ | ⟨_,c,q,z⟩
    ·rcases kc with kc | kc <;> (rw[kc] at q;cases q)
    ·obtain ⟨c',hc'⟩:=dU (env:=X.env) (y:=y) sc.names [] (.inl mem)
     have:=up y c' hc'
     rw[q] at this
     cases this
     refine .inr ⟨?_,c,hc',z.keeps k⟩
     have em:=jv (c:=λn k=>k == .free && X.env.scope.kind == .function && X.env.kindOf n == some .cell) (y:=y) sc.names
     have em':(relabel sc X.env).names.lookup y=_:=em
     rcases kc with kc | kc
     ·left
      show (relabel sc X.env).names.lookup y=some .cell
      rw[em',n2]
      simp only[F7,kc,I.ok.kind]
      rfl
     ·right
      show (relabel sc X.env).names.lookup y=some .free
      rw[em',n2]
      simp only[F7,kc,I.ok.kind]
      rfl
 ·obtain ⟨v,z⟩:=I.cell y c (up y c e)
  exact ⟨v,z.keeps k⟩
 ·show (ix.map _).length=N'.length
  rw[Aq]
  exact K.len
end
open PySem PySem.Spec PyProof.Rows
theorem o7 {prog:AN}{w:Bh}{A:BA}{R:Result->Ax->Prop}{s:Ax}{elt target iter:Expr}{ifs:List Expr}{sc:Scope}{pos:Pos}{it acc:Au}{env:Env}(J:Nat->Ax->Prop)
    (turn:∀n s,J n s->A7 (Bf prog w) A (pyNext it) (λr s1=>match r with
      | none=>R (.ok .next) s1
      | some v=>A7 (Bf prog w) A (letOwnedTupleGo target it v) (λ_ s2=>A7 (Bf prog w) A (assign target env v) (λ_ s3 =>
          A7 (Bf prog w) A (forIn ifs true λc r=>if r=true then do let ok ← isTrue c env (eval c env);pure (ForInStep.yield ok) else pure (ForInStep.yield r)) (λok s4 =>
            if ok=true then A7 (Bf prog w) A (eval elt env) (λx s5=>A7 (Bf prog w) A (call (.builtin "list.append") [acc,x]) (λ_ s6=>∃m,m<n/\J m s6) (λ_ _=>False) s5) (λ_ _=>False) s4
            else ∃m,m<n/\J m s4) (λ_ _=>False) s3) (λ_ _=>False) s2) (λ_ _=>False) s1) (λ_ _=>False) s)
    (n:Nat) (h:J n s):FN (Bf prog w) A (.compLoop (.ListComp elt [⟨target,iter,ifs,0⟩] sc pos) 0 it acc env) R s:=by
  refine codeAny_loop rfl J (λk t q =>?_) n h
  show A7 _ A (Sem.onRaise (compTurn (.ListComp elt [⟨target,iter,ifs,0⟩] sc pos) 0 it acc env) (λx=>do noteFrame x env;theTreesLotGoes x)) _ _ t
  refine wpAny_noted ?_
  rw[compTurn_list]
  have no:∀{E:Au->Ax->Prop} (x:Au) (t:Ax),False->E x t:=λ_ _ z=>z.elim
  refine Ar (Hg (Ar (Cg (turn k t q) (λr s1 h1 =>?_) no)))
  cases r with
  | none=>exact Ay h1
  | some v =>
    refine Ar (Cg h1 (λ_ s2 h2=>Ar (Cg h2 (λ_ s3 h3=>Ar (Cg h3 (λok s4 h4 =>?_) no)) no)) no)
    cases ok with
    | false=>exact Ay ⟨rfl,h4⟩
    | true=>exact Ar (Ar (Cg h4 (λx s5 h5=>Ar (Cg h5 (λ_ s6 h6=>Ay (Ay ⟨rfl,h6⟩)) no)) no))
section
variable  {X:Cx}
def v9 (X:Cx)(pins:List (Addr×Obj))(σ:St)(Q:VK)(use:Option (Au->Sem Unit))(Q2:Au->Ax->Prop):Prop :=
 ∀(s4:Ax) (H3:Hp) (acc C:Addr) (ys:List V) (oC:Obj),Inv X (pins++[(C,oC)]) σ (upd H3 acc (.lst ys)) s4->(∃m,s4.heap.Ns C m)->X.s₀.heap.objs.size<=C->(∀x c,X.env.cells.lookup x=some c->c≠C)->(∀p∈X.pn++pins,p.1≠C)->Q (.ref acc) (upd H3 acc (.lst ys)) →
  compPost (Bf X.prog X.w) X.A X.xe use Q2 (.ref acc) C (.ok .next) s4
theorem kZ {elt target iter:Expr}{ifs:List Expr}{sc:Scope}{pos ps:Pos}{wi:TI}{g:TG}{tc:TT}{te:TE}{N':List Str}{ix:List (Option Nat)}{use:Option (Au->Sem Unit)}{Q2:Au->Ax->Prop}
  {pins:List (Addr×Obj)} {s:Ax} {σ:St} {H:Hp} {Q:VK}
  (hcalm:X.calm=true) (hi:PI X target iter wi) (hk:nH X.env.scope.names X.N sc N' ix=true)
  (hg:∀cl C s H fp,PG (blk X sc cl C N' s H fp) target g) (hc:∀cl C s H fp,PF (blk X sc cl C N' s H fp) ifs tc) (he:∀cl C s H fp,PE (blk X sc cl C N' s H fp) elt te)
  (hs:∀x,foldedSetIterable iter X.env x=pure x) (fin:v9 X pins σ Q use Q2) (I:Inv X pins σ H s) (h:uf ix wi g tc te σ H Q) :
  A7 (Bf X.prog X.w) X.A (comprehension (.ListComp elt [⟨target,iter,ifs,0⟩] sc pos) sc X.env ps (newList []) false (eval iter X.env) use) Q2 X.xe s:=by
 have K:=ju.of hk
 have hcl:∀y∈sc.names,y.2 = .free->∃c,X.env.cells.lookup y.1=some c:=λy hy e=>I.ok.has y.1 (K.frees y hy e)
 refine wpAny_comprehension_free rfl hs (o5 hcl) K.kind K.locs (thn (hi pins s σ H _ I h) λv s1 h1=>thn h1 λitv s2 h2 =>?_)
 obtain ⟨it,fp,tn,J,H2,e,I2,T,st2,f2,W,⟨m0,w0⟩,turn⟩:=h2
 subst e
 refine BI (wpAny_newFunctionEnv K.nocell (by intro y hy;simp at hy) (λh1 ns1 sb1 =>?_) K.kind)
 dsimp only at ns1 sb1 ⊢
 generalize hP:s2.heap.push { cls :=.type "list",dict:=none,data :=.seq ([]:List Au).toArray }=G at ns1 sb1 ⊢
 have sG:G.objs.size=s2.heap.objs.size+1:=by rw[<- hP,C9]
 have fl:∀b∈fp,b<s2.heap.objs.size:=λb hb=>by
  obtain ⟨o,e,_⟩:=T.obj _ _ st2 b hb
  exact AQ e
 have hC:s2.heap.objs.size<=G.objs.size:=by rw[sG];exact EN _
 have aC:s2.heap.objs.size≠G.objs.size:=by rw[sG];exact A3 (C2 _)
 have old:∀b o,s2.heap.get? b=some o->h1.get? b=some o:=λb o e=>by
  have lt:=AQ e
  have ne:b≠G.objs.size:=A3 (AO lt hC)
  rw[sb1.2 b ne]
  exact Az _ (hP ▸ Az _ e)
 have accO:h1.PlainList s2.heap.objs.size #[]:=⟨_,by
  rw[sb1.2 _ aC]
  exact Az _ (hP ▸ AX _ rfl)⟩
 have IB:=v8 (t:=s2.toks+([]:List (Str×Au)).length) I2 K hC f2 fl old ns1
 have up:∀y c,(aM X.env sc.names []).lookup y=some c->X.env.cells.lookup y=some c:=λy c e=>by
  rcases cO sc.names [] hcl e with q | q
  ·cases q
  ·exact q
 have accNotCell:∀y c,(aM X.env sc.names []).lookup y=some c->c≠s2.heap.objs.size:=λy c e z=>by
  obtain ⟨v,q⟩:=I2.cell y c (up y c e)
  exact absurd q.lt (by rw[z];exact B3 _)
 have accFs:s2.heap.objs.size∉frs X.stack:=λz=>by
  rcases AU.mp (I2.mf _ z) with q | q
  ·exact absurd I2.lt (by rw[<- q];exact B3 _)
  ·exact I2.yb (AE _) q
 have accFp:s2.heap.objs.size∉fp:=λz=>absurd (fl _ z) (B3 _)
 have stat:∀{H':Hp} {ob:Obj},(∀b∈fp,H' b=none)->∀b∈fp,jj (blk X sc (aM X.env sc.names []) G.objs.size N' s2 H2 fp) [(s2.heap.objs.size,ob)] H' b:=λ{H' ob} hn b hb=>by
  refine ⟨hn b hb,A3 (AO (fl b hb) hC),IB.ok.exfs b hb,.inl hb,λy c e=>(f2 b hb).2.2.2.2.1 y c (up y c e),λp hp z =>?_⟩
  have ep:p=(s2.heap.objs.size,ob):=by simpa [blk] using hp
  subst ep
  exact accFp (by rw[show s2.heap.objs.size=b from z];exact hb)
 have accPin:∀{pl:List (Addr×Obj)} {σ':St} {H':Hp} {s':Ax} {its:Array Au} {n:Nat},Inv (blk X sc (aM X.env sc.names []) G.objs.size N' s2 H2 fp) pl σ' H' s'->s'.heap.get? s2.heap.objs.size=some { cls :=.type "list",data :=.seq its n } →
   H' s2.heap.objs.size=none->Inv (blk X sc (aM X.env sc.names []) G.objs.size N' s2 H2 fp) [(s2.heap.objs.size,{ cls :=.type "list",data :=.seq its n })] σ' H' s':=λ{pl σ' H' s' its n} J' e nn=>J'.gu λp hp=>by
  have ep:p=(s2.heap.objs.size,({ cls :=.type "list",data :=.seq its n }:Obj)):=by simpa [blk] using hp
  subst ep
  exact ⟨e,nn,aC,accFs,λv z=>nomatch z⟩
 have loop:FN (Bf X.prog X.w) X.A (.compLoop (.ListComp elt [⟨target,iter,ifs,0⟩] sc pos) 0 (.ref it) (.ref s2.heap.objs.size) (compEnvC sc (aM X.env sc.names []) G.objs.size X.env))
   (compPost (Bf X.prog X.w) X.A X.xe use Q2 (.ref s2.heap.objs.size) G.objs.size) { s2 with heap:=h1,toks:=s2.toks+([]:List (Str×Au)).length }:=by
  refine o7 (λn s'=>∃i ys its nn σ' H',Inv (blk X sc (aM X.env sc.names []) G.objs.size N' s2 H2 fp) [(s2.heap.objs.size,{ cls :=.type "list",data :=.seq its nn })] σ' H' s'/\Vals ys its.toList/\tn i s'.heap/\(∀b∈fp,H' b=none)/\W i n σ' ys H')
   (λn s3 h3 =>?_) m0 ?_
  ·obtain ⟨i,ys,its,nn,σ3,H3,I3,r3,st3,fr3,w3⟩:=h3
   obtain ⟨e3,a3,_,_,_⟩:=I3.pin (s2.heap.objs.size,{ cls :=.type "list",data :=.seq its nn }) (by simp[blk])
   rcases turn i n σ3 ys H3 w3 with ⟨stop,zl,q3⟩ | ⟨go,step⟩
   ·refine thn (T.done (blk X sc (aM X.env sc.names []) G.objs.size N' s2 H2 fp) rfl rfl rfl hcalm i _ s3 σ3 H3 _ I3 (stat fr3) st3 stop) λr s4 ⟨hr,I4⟩ =>?_
    subst hr
    obtain ⟨e4,a4,_,_,_⟩:=I4.pin (s2.heap.objs.size,{ cls :=.type "list",data :=.seq its nn }) (by simp[blk])
    obtain ⟨m4,n4,_⟩:=I4.loc
    obtain ⟨oC,es4,ep4,c4,d4,r4⟩:=id n4
    have ltA:∀b o,s2.heap.get? b=some o->b≠s2.heap.objs.size:=λb o e=>A3 (AQ e)
    have B:=I4.base
    have hok:HOk X.prog X.w (upd H3 s2.heap.objs.size (.lst ys)) s4.heap:=λb o e=>by
     by_cases hb:b=s2.heap.objs.size
     ·subst hb
      rw[af] at e
      cases e
      exact ⟨zl,its.toList,nn,r3,e4⟩
     ·rw[aq hb] at e
      refine (I4.hok b o e).stay (λc u hc q=>q) (λc q =>?_) (λc xs q =>?_)
      ·rw[aq (av q a4)];exact q
      ·rw[aq (av q a4)];exact q
    have I5:Inv X pins σ (upd H3 s2.heap.objs.size (.lst ys)) s4:=by
     refine I2.xK (ch:=fp) I4.os ⟨λb o e n hb hx=>B.keep b o e n hb hx,λb o e n hb hx=>B.slot b o e n hb hx,λb o e n hx =>?_,λb o e hx=>B.there b o e hx,λb xs e =>?_,λb o u e =>?_,λb ps e =>?_⟩ hok I4.bare (λb hb =>?_)
     ·rw[aq (ltA b o e)];exact B.free b o e n hx
     ·have q:=B.tups b xs e
      rw[aq (av q a4)];exact q
     ·have q:=B.frzs b o u e
      rw[aq (av q a4)];exact q
     ·obtain ⟨more,q⟩:=B.tbls b ps e
      exact ⟨more,by rw[aq (av q a4)];exact q⟩
     ·obtain ⟨g0,g1,g2,g3,g4,g5⟩:=f2 b hb
      exact ⟨g3,g1,g4,g5⟩
    have cL:G.objs.size≠X.env.locals:=DB (AO I2.lt hC)
    have I6:Inv X (pins++[(G.objs.size,oC)]) σ (upd H3 s2.heap.objs.size (.lst ys)) s4:=I5.gu λp hp=>by
     rcases AI.mp hp with q | q
     ·exact I5.pin p (Bb _ q)
     ·have ep:p=(G.objs.size,oC):=by simpa using q
      subst ep
      exact ⟨c4,by rw[aq (CK aC)];exact I4.free,cL,I2.yb hC,λv z=>by rw[d4] at z;cases z⟩
    refine fin s4 H3 s2.heap.objs.size G.objs.size ys oC I6 ⟨m4,n4⟩ (A5 I2.sz hC) (λy c e z =>?_) (λp hp z =>?_) (q3 _ a4)
    ·obtain ⟨v,q⟩:=I2.cell y c e
     exact absurd (AO q.lt hC) (by rw[z];exact B3 _)
    ·exact absurd (AO (AQ (I2.pin p hp).1) hC) (by rw[z];exact B3 _)
   ·refine thn (T.item (blk X sc (aM X.env sc.names []) G.objs.size N' s2 H2 fp) rfl rfl rfl hcalm i _ s3 σ3 H3 _ I3 (stat fr3) st3 go) λr s4 ⟨u,hr,h4⟩ =>?_
    subst hr
    refine thn h4 λ_ s5 ⟨x,H5,I5,r5,y5,st5,fr5⟩ =>?_
    have I5':=I5.pinned (stat fr5) (T.obj _ _ st5)
    refine thn (hg _ _ _ _ _ _ s5 σ3 H5 x u _ I5' r5 (step x H5 y5)) λ_ s6 ⟨σ6,H6,I6,q6⟩ =>?_
    refine thn (hc _ _ _ _ _ _ s6 σ6 H6 _ I6 q6) λok s7 ⟨H7,I7,q7⟩ =>?_
    have back:∀{σ7:St} {H7:Hp} {s7:Ax},Inv (blk X sc (aM X.env sc.names []) G.objs.size N' s2 H2 fp) ([(s2.heap.objs.size,{ cls :=.type "list",data :=.seq its nn })]++fT fp s5.heap) σ7 H7 s7->tn (i+1) s7.heap/\∀b∈fp,H7 b=none:=λJ7 =>
     ⟨T.keep _ _ _ st5 λb hb o e=>(J7.pin (b,o) (Bb _ (Bb _ (cU hb e)))).1,λb hb=>by
      obtain ⟨o,e,d⟩:=T.obj _ _ st5 b hb
      exact (J7.pin (b,o) (Bb _ (Bb _ (cU hb e)))).2.1⟩
    cases ok with
    | false =>
     rw[if_neg (by decide)] at q7
     obtain ⟨m',lm,w7⟩:=q7
     show ∃m,m<n/\_
     exact ⟨m',lm,i+1,ys,its,nn,σ6,H7,I7.dC,r3,(back I7).1,(back I7).2,w7⟩
    | true =>
     rw[if_pos rfl] at q7
     refine thn (he _ _ _ _ _ _ s7 σ6 H7 _ I7 q7) λz s8 ⟨y,H8,I8,r8,lz,m',lm,w8⟩ =>?_
     obtain ⟨e8,a8,_,_,_⟩:=I8.pin (s2.heap.objs.size,{ cls :=.type "list",data :=.seq its nn }) (by simp[blk])
     have sz:its.size<=AH:=by
      have l:ys.length=its.size:=r3.length.trans AF
      rw[<- l]
      exact C6 lz
     refine wpAny_list_append_plain ⟨nn,e8⟩ (λh' pl' sb' =>?_) sz
     obtain ⟨n9,e9⟩:=pl'
     have I8p:Inv (blk X sc (aM X.env sc.names []) G.objs.size N' s2 H2 fp) (fT fp s5.heap) σ6 H8 s8:=I8.gu λp hp=>I8.pin p (Bb _ (Bb _ hp))
     have I9:=I8p.turned (it:=s2.heap.objs.size) (h':=h') (t':=s8.toks) (λb o ne e=>by rw[sb'.2 b ne];exact e) a8 aC (.inr (AE _)) (λy c e=>accNotCell y c e) (λp hp z=>by
      have hp':p∈fT fp s5.heap:=by simpa [blk] using hp
      exact accFp (by rw[<- z];exact (kQ hp').1))
     have b9:tn (i+1) h'/\∀b∈fp,H8 b=none :=
      ⟨T.keep _ _ _ st5 λb hb o e=>(I9.pin (b,o) (Bb _ (cU hb e))).1,(back I8).2⟩
     exact ⟨m',lm,i+1,ys++[y],its.push z,n9,σ6,H8,accPin I9 e9 a8,by rw[CB];exact r3.append (.cons r8 .nil),b9.1,b9.2,w8⟩
  ·obtain ⟨n0,e0⟩:=accO
   exact ⟨0,[], #[],n0,_,H2,accPin IB e0 (I2.hok.fresh (AE _)),.nil,T.keep _ _ _ st2 λb hb o e=>old b o e,λb hb=>(f2 b hb).1,w0⟩
 exact codeAny_compStart_list loop (T.self _ 0 _ _ _ (T.keep _ _ _ st2 λb hb o e=>old b o e) loop)
theorem dg {elt target iter:Expr}{ifs:List Expr}{sc:Scope}{pos:Pos}{wi:TI}{g:TG}{tc:TT}{te:TE}(N':List Str)(ix:List (Option Nat))
  (hcalm:X.calm=true) (hi:PI X target iter wi) (hk:nH X.env.scope.names X.N sc N' ix=true)
  (hg:∀cl C s H fp,PG (blk X sc cl C N' s H fp) target g) (hc:∀cl C s H fp,PF (blk X sc cl C N' s H fp) ifs tc) (he:∀cl C s H fp,PE (blk X sc cl C N' s H fp) elt te)
  (hs:∀x,foldedSetIterable iter X.env x=pure x:=by intro _;rfl):PE X (.ListComp elt [⟨target,iter,ifs,0⟩] sc pos) (uf ix wi g tc te):=by
 intro pins s σ H Q I h
 rw[eval_ListComp]
 refine kZ hcalm hi hk hg hc he hs (λs4 H3 acc C ys oC I4 ns hC hc hp q =>?_) I h
 obtain ⟨m,ns⟩:=ns
 refine ⟨m,ns,λh' sb=>⟨.ref acc,_,?_,rfl,q⟩⟩
 obtain ⟨_,n0,n1,n2,_⟩:=I4.pin (C,oC) (by simp)
 exact (I4.dC).turned (it:=C) (h':=h') (t':=s4.toks) (λb o ne e=>by rw[sb.2 b ne];exact e) n0 n1 (.inr hC) hc hp
theorem jw {elt target iter:Expr}{ifs:List Expr}{sc:Scope}{pos pos' spos:Pos}{wi:TI}{g:TG}{tc:TT}{te:TE}{i:Nat}{x:Str}(N':List Str)(ix:List (Option Nat))
    (hcalm:X.calm=true) (hN:X.N.Nodup) (hx:X.N[i]? = some x) (hl:X.env.scope.names.lookup x=some .local)
    (hi:PI X target iter wi) (hk:nH X.env.scope.names X.N sc N' ix=true)
    (hg:∀cl C s H fp,PG (blk X sc cl C N' s H fp) target g) (hc:∀cl C s H fp,PF (blk X sc cl C N' s H fp) ifs tc) (he:∀cl C s H fp,PE (blk X sc cl C N' s H fp) elt te)
    (hsw:swapsWith (.ListComp elt [⟨target,iter,ifs,0⟩] sc pos) (some (.Name x pos')) spos.line X.env=pure true:=by rfl)
    (hs:∀x,foldedSetIterable iter X.env x=pure x:=by intro _;rfl):PS X (.Assign [.Name x pos'] (.ListComp elt [⟨target,iter,ifs,0⟩] sc pos) spos) (yk (uf ix wi g tc te) (fQ i)):=by
  intro pins s σ H D I h
  rw[exec_Assign_Name_used _ _ _ _ hsw]
  refine Ar (Hg (Ar ?_))
  show A7 _ X.A (do let _ ← comprehension (.ListComp elt [⟨target,iter,ifs,0⟩] sc pos) sc X.env _ (newList []) false (eval iter X.env) (some (assign (.Name x pos') X.env))) _ _ s
  refine Ar (Cg (kZ (Q:=λv H1=>D.nx (σ.set i (some v)) H1) (Q2:=λ_ s'=>SP X pins D .next s') hcalm hi hk hg hc he hs (λs4 H3 acc C ys oC I4 ns hC hc hp q =>?_) I h) (λ_ s' q=>Ay (Ay q)) λ_ _ e=>e)
  obtain ⟨m,ns⟩:=ns
  obtain ⟨e0,n0,n1,n2,_⟩:=I4.pin (C,oC) (by simp)
  show A7 _ X.A (assign (.Name x pos') X.env (.ref acc)) _ _ s4
  refine thn ((aN (i:=i) hN hx (.inl hl) (.inr hl)) (pins++[(C,oC)]) s4 σ _ (.ref acc) (.ref acc) _ I4 rfl q) λ_ s5 ⟨σ5,H5,I5,q5⟩ =>?_
  obtain ⟨e5,k0,k1,k2,_⟩:=I5.pin (C,oC) (by simp)
  obtain ⟨o',es',ep',c',r'⟩:=ns
  have e':=e0.symm.trans c'
  cases e'
  refine ⟨m,⟨_,es',ep',e5,r'⟩,λh' sb=>⟨σ5,H5,?_,q5⟩⟩
  exact (I5.dC).turned (it:=C) (h':=h') (t':=s5.toks) (λb o ne e=>by rw[sb.2 b ne];exact e) k0 k1 (.inr hC) hc hp
end
open PySem PySem.Spec PyProof.Rows
section
variable  {X:Cx}
def zS (K:Av):R2:=λx y H Q=>∃l b xs zs,x = .ref l/\y = .ref b/\SqL K H l xs/\SqL K H b zs/\xs.length+zs.length<=AH/\∀p,H p=none->Q (.ref p) (upd H p (.lst (xs++zs)))
theorem fD:OpR X (binaryOp .Add) (zS X.K):=by
 intro pins s σ H x y v u Q I rx ry h
 obtain ⟨l,b,xs,zs,rfl,rfl,hH,hB,hz,q⟩:=h
 cases rx
 cases ry
 obtain ⟨its,r,e,z⟩:=I.list hH
 obtain ⟨its2,r2,e2,z2⟩:=I.list hB
 obtain ⟨⟨c1,d1,da1,sl1⟩,n,e,k1,k2,k3⟩:=e
 obtain ⟨⟨c2,d2,da2,sl2⟩,n2,e2,g1,g2,g3⟩:=e2
 simp only at k1 k3 g1 g3
 subst k1 k3 g1 g3
 have l1:=r.length
 have l2:=r2.length
 have ea:its.toArray++its2.toArray=(its++its2).toArray:=by simp
 refine Gn ⟨_,e,rfl⟩ ⟨_,e2,rfl⟩ noFill_list_add seq_list_add PySem.F.slot_list_add PySem.F.entry_list_add
  (PySem.F.args_list_add_2 _ _) (list_addW l b its.toArray its2.toArray n n2 d1 d2 sl1 sl2 (by rw[Aw,Aw];omega)) ⟨e,e2,?_⟩
 rw[ea]
 exact ⟨.ref _,_,I.lnew (t':=s.toks) (r.append r2) (by rw[As];omega),rfl,q _ I.fresh⟩
theorem cD:cj X (.builtin "isinstance") (λxs H Q=>∃x T t b,xs=[x,.ty T]/\gy X.K H x t/\PySem.W.kitOne X.K t (.type T)=some b/\Q (.bl b) H):=by
 intro pins s σ H xs us Q I r h
 obtain ⟨x,T,t,b,rfl,ty,e,q⟩:=h
 obtain ⟨u,w',rfl,ru,rw'⟩:=vals2 r
 cases (show w'=Dv T from rw')
 exact rJ I ru ty e λtk=>⟨.bl b,H,I.tok tk,rfl,q⟩
end
def ug (k:Nat)(tc:TT)(te:TE)(τ:St)(Pv:Nat->List V->Hp->Prop)(i:Nat)(x:V)(ys:List V)(H:Hp):Prop :=
 ∀(R1:V->Hp->Prop) (R0:Hp->Prop),(∀y H4,Pv (i+1) (ys++[y]) H4->R1 y H4)->(∀H3,Pv (i+1) ys H3->R0 H3)->tc (τ.set k (some x)) H λb H3=>if b=true then te (τ.set k (some x)) H3 R1 else R0 H3
theorem jy {K:Av}{a:Addr}{xs:List V}{k:Nat}{tc:TT}{te:TE}{τ:St}{H:Hp}{Q:VK}(Pv:Nat->List V->Hp->Prop)(h0:Pv 0 [] H)(hz:xs.length<=AH)
  (hl:∀i ys H,i<=xs.length->Pv i ys H->SqL K H a xs) (hs:∀i x ys H,xs[i]? = some x->ys.length<=i->Pv i ys H->ug k tc te τ Pv i x ys H)
  (hd:∀ys H,ys.length<=xs.length->Pv xs.length ys H->∀l,H l=none->Q (.ref l) (upd H l (.lst ys))) :
  kY (Itl K a) (fQ k) tc te τ Q H:=by
 refine ⟨λi m σ ys H=>m=xs.length-i/\i<=xs.length/\(∀x,σ.set k (some x)=τ.set k (some x))/\ys.length<=i/\Pv i ys H,⟨xs.length,by simp,Bl _,λ_=>rfl,AE _,h0⟩,?_⟩
 rintro i m σ ys H ⟨rfl,hi,hτ,hy,p⟩
 have q:=hl i ys H hi p
 by_cases hlt:i<xs.length
 ·refine .inr ⟨⟨xs,xs[i],q,by simp[hlt]⟩,λx H' y =>?_⟩
  obtain ⟨e,y⟩:=y
  subst e
  show tc (σ.set k (some x)) _ _
  rw[hτ x]
  have hσ:∀z,(τ.set k (some x)).set k (some z)=τ.set k (some z):=λz=>by rw[D5]
  refine hs i x ys _ (y xs q) hy p _ _ (λy4 H4 p4=>⟨by omega,xs.length-(i+1),by omega,rfl,hlt,hσ,by rw[As,Bs];omega,p4⟩) λH3 p3=>⟨xs.length-(i+1),by omega,rfl,hlt,hσ,by omega,p3⟩
 ·have e:i=xs.length:=by omega
  subst e
  exact .inl ⟨⟨xs,q,AE _⟩,by omega,hd ys H hy p⟩
theorem rO {K:Av}{a:Addr}{xs:List V}{k:Nat}{tc:TT}{te:TE}{τ:St}{H:Hp}{Q:VK}(Pv:Nat->List V->Hp->Prop)(h0:Pv 0 [] H)(hz:xs.length<=AH)
  (hl:∀i ys H,i<=xs.length->Pv i ys H->SqT K H a xs) (hs:∀i x ys H,xs[i]? = some x->ys.length<=i->Pv i ys H->ug k tc te τ Pv i x ys H)
  (hd:∀ys H,ys.length<=xs.length->Pv xs.length ys H->∀l,H l=none->Q (.ref l) (upd H l (.lst ys))) :
  kY (Itt K a) (fQ k) tc te τ Q H:=by
 refine ⟨λi m σ ys H=>m=xs.length-i/\i<=xs.length/\(∀x,σ.set k (some x)=τ.set k (some x))/\ys.length<=i/\Pv i ys H,⟨xs.length,by simp,Bl _,λ_=>rfl,AE _,h0⟩,?_⟩
 rintro i m σ ys H ⟨rfl,hi,hτ,hy,p⟩
 have q:=hl i ys H hi p
 by_cases hlt:i<xs.length
 ·refine .inr ⟨⟨xs,xs[i],q,by simp[hlt]⟩,λx H' y =>?_⟩
  obtain ⟨e,y⟩:=y
  subst e
  show tc (σ.set k (some x)) _ _
  rw[hτ x]
  have hσ:∀z,(τ.set k (some x)).set k (some z)=τ.set k (some z):=λz=>by rw[D5]
  refine hs i x ys _ (y xs q) hy p _ _ (λy4 H4 p4=>⟨by omega,xs.length-(i+1),by omega,rfl,hlt,hσ,by rw[As,Bs];omega,p4⟩) λH3 p3=>⟨xs.length-(i+1),by omega,rfl,hlt,hσ,by omega,p3⟩
 ·have e:i=xs.length:=by omega
  subst e
  exact .inl ⟨⟨xs,q,AE _⟩,by omega,hd ys H hy p⟩
theorem cE {lo:Int}{n:Nat}{k:Nat}{tc:TT}{te:TE}{τ:St}{H:Hp}{Q:VK}(Pv:Nat->List V->Hp->Prop)(h0:Pv 0 [] H)(hz:n<=AH)
  (hs:∀i ys H,i<n->ys.length<=i->Pv i ys H->ug k tc te τ Pv i (.int (lo+i)) ys H)
  (hd:∀ys H,ys.length<=n->Pv n ys H->∀l,H l=none->Q (.ref l) (upd H l (.lst ys))) :
  kY (Itr lo n) (fQ k) tc te τ Q H:=by
 refine ⟨λi m σ ys H=>m=n-i/\i<=n/\(∀x,σ.set k (some x)=τ.set k (some x))/\ys.length<=i/\Pv i ys H,⟨n,by simp,Bl _,λ_=>rfl,AE _,h0⟩,?_⟩
 rintro i m σ ys H ⟨rfl,hi,hτ,hy,p⟩
 by_cases hlt:i<n
 ·refine .inr ⟨hlt,λx H' y =>?_⟩
  obtain ⟨e,y⟩:=y
  subst e y
  show tc (σ.set k (some (.int (lo+i)))) _ _
  rw[hτ]
  have hσ:∀z,(τ.set k (some (.int (lo+i)))).set k (some z)=τ.set k (some z):=λz=>by rw[D5]
  refine hs i ys _ hlt hy p _ _ (λy4 H4 p4=>⟨by omega,n-(i+1),by omega,rfl,hlt,hσ,by rw[As,Bs];omega,p4⟩) λH3 p3=>⟨n-(i+1),by omega,rfl,hlt,hσ,by omega,p3⟩
 ·have e:i=n:=by omega
  subst e
  exact .inl ⟨AE _,by omega,hd ys H hy p⟩
structure Cal (P:AN)(w:Bh)(K:Av)(mg:Str->Option Au)(base:Heap)(k:Nat)(x:Str)(ps:List Str)(sp:Sp):Prop where
 ex:∃f fd,bE P w K mg base CX0 k f fd ps sp/\mg x=some (.ref f)/\PySem.W.keepIn K (.ref f)=true/\Binds K fd ps []
theorem az {X:Cx}{j k:Nat}{x:Str}{ps:List Str}{sp:Sp}{e:Expr}{es:List Expr}{t:TA}{p pos:Pos}(C:Cal X.prog X.w X.K X.mg X.base k x ps sp)(hr:bW j X.A)(hj:k<=j)(hg:Gl X x)(ha:PA X (e :: es) t)
  (hdb:(x == ("__debug__" : Str))=false:=by decide) (he:BD (e :: es) X.env=(false,eval e X.env) :: BD es X.env:=by rfl) (hpl:(DV pos (BD es X.env)).any (·.1)=false:=by rfl) :
  PE X (.Call (.Name x p) (e :: es) [] pos) (tV sp [] E0 t):=by
 obtain ⟨f,fd,F,m,kp,b⟩:=C.ex
 exact qk F (hr.mono hj) hg m kp b .nil zQ ha hdb he hpl
theorem ag {H:Hp}{p:Addr}(h:H p=none)(o:HO):aD H (upd H p o):=λb u q=>by rw[aq (av q h)];exact q
theorem small {n:Nat}(h:n<=1000):n<=AH:=C6 (ck h)
open PySem PySem.Spec PyProof.Rows
section
variable  {X:Cx}
theorem nI {its:List Au}{bs:List Bool}(h:Vals (bs.map V.bl) its){prog:AN}{w:Bh}{A:BA}:TruthOf prog w A (λi v=>its.toArray[i]? = some v) (λi=>bs.getD i false):=by
 intro i v s Q E hv q
 have l:=h.length
 rw[Aq] at l
 have hi:i<its.length:=by
  rw[Bv] at hv
  exact (AG.mp hv).1
 have e:(bs.map V.bl)[i]? = some (.bl (bs.getD i false)):=by
  rw[AW,AK,AD (by omega)]
  rfl
 obtain ⟨u,e1,e2⟩:=h.get e
 rw[Bv,e1] at hv
 have ev:u=v:=Bq hv
 subst ev
 cases (show u=Value.bool _ from e2)
 exact CT q
theorem all_range (bs:List Bool):((Ba bs.length).all λi=>bs.getD i false)=bs.all id:=by
 rw[Co,BF,BF]
 constructor
 ·intro h x hx
  obtain ⟨i,e⟩:=Bw.mp hx
  have hi:i<bs.length:=(AG.mp e).1
  have q:=h i (BG.mpr hi)
  rw[AK,e] at q
  exact q
 ·intro h i hi
  have hi':=BG.mp hi
  rw[AK,AD hi']
  exact h _ (Ds hi')
theorem jz (hc:X.calm=true):cj X (.builtin "all") (λxs H Q=>∃(p:Addr) (bs:List Bool),xs=[.ref p]/\SqL X.K H p (bs.map V.bl)/\Q (.bl (bs.all id)) H):=by
 intro pins s σ H xs us Q I r h
 obtain ⟨p,bs,rfl,hs,q⟩:=h
 obtain ⟨u,rfl,ru⟩:=vals1 r
 cases (show u=AS p from ru)
 obtain ⟨its,rv,pl,hz⟩:=I.list hs
 have l:=rv.length
 rw[Aq] at l
 have hpl:p<s.heap.objs.size:=by obtain ⟨o,_,e,_⟩:=pl;exact AQ e
 refine call_all_walk (Fx pl.isList ?_)
 have hd:X.A.in1.handled=none:=I.ok.hd hc
 refine ⟨s.heap.objs.size,_,_,_,_,_,_,rfl,Walks.list hd s.heap.objs.size p (A3 hpl) its.toArray,⟨⟨_,AX _ rfl,rfl,rfl⟩,?_⟩,nI rv,λh' tk k =>?_⟩
 ·exact pl.isList.at λo e=>Az _ e
 ·have e:((Ba its.toArray.size).all λi=>bs.getD i false)=bs.all id:=by rw[Aw, <- l,all_range]
  rw[e]
  refine ⟨.bl (bs.all id),H,I.kept (t':=tk) (λb o eb=>k b o ?_ (Az _ eb)),rfl,q⟩
  intro hb
  have:b=s.heap.objs.size:=by simpa using hb
  exact absurd (AQ eb) (by rw[this];exact B3 _)
def eX (K:Av)(H:Hp):Nat->V->V->Prop
 | 0,x,y=>(∃i,x = .int i/\y = .int i)\/∃a,x = .ref a/\y = .ref a
 | n+1,x,y=>(∃i,x = .int i/\y = .int i)\/(∃a,x = .ref a/\y = .ref a)\/∃a b xs ys,x = .ref a/\y = .ref b/\((SqT K H a xs/\SqT K H b ys)\/(SqL K H a xs/\SqL K H b ys))/\Paired (eX K H n) xs ys
theorem ie {α β:Type}{F:α -> β -> Prop}:∀{l:List α} {m:List β} {i:Nat} {x:α} {y:β},Paired F l m->l[i]? = some x->m[i]? = some y->F x y
 | _,_,0,_,_,.cons h _,e1,e2=>by simp at e1 e2;subst e1 e2;exact h
 | _,_,i+1,_,_,.cons _ t,e1,e2=>ie (i:=i) t (by simpa using e1) (by simpa using e2)
 | _,_,_,_,_,.nil,e1,_=>by simp at e1
theorem all_true (n:Nat):((Ba n).all λ_=>true)=true:=by simp
theorem cP {K:Av}{H:Hp}{n:Nat}{s:Ax}{A:BA}{xs ys:List V}{us vs:List Au}(p:Paired (eX K H n) xs ys)(r1:Vals xs us)(r2:Vals ys vs)
  (ih:∀x y u v,eX K H n x y->RelV x u->RelV y v->C3 A s u v true):∀j (h1:j<us.toArray.size) (h2:j<vs.toArray.size),C3 A s us.toArray[j] vs.toArray[j] true:=λj h1 h2=>by
 rw[Aw] at h1 h2
 have l1:=r1.length
 have l2:=r2.length
 have e1:xs[j]? = some xs[j]:=AD (by omega)
 have e2:ys[j]? = some ys[j]:=AD (by omega)
 obtain ⟨u,g1,q1⟩:=r1.get e1
 obtain ⟨v,g2,q2⟩:=r2.get e2
 have f1:us.toArray[j]=u:=by simp[AG] at g1;obtain ⟨_,g⟩:=g1;simpa using g
 have f2:vs.toArray[j]=v:=by simp[AG] at g2;obtain ⟨_,g⟩:=g2;simpa using g
 rw[f1,f2]
 exact ih _ _ u v (ie p e1 e2) q1 q2
theorem ig {pins:List (Addr×Obj)}{σ:St}{H:Hp}{s:Ax}(I:Inv X pins σ H s):∀(n:Nat) (A:BA) (x y:V) (u v:Au),A.units+n<cLine->eX X.K H n x y->RelV x u->RelV y v->C3 A s u v true
 | 0,A,x,y,u,v,_,h,ru,rv=>by
  rcases h with ⟨i,rfl,rfl⟩ | ⟨a,rfl,rfl⟩
  ·obtain ⟨t,rfl⟩:=(show ∃t,u=Cs i t from ru)
   obtain ⟨t',rfl⟩:=(show ∃t,v=Cs i t from rv)
   have:=CI (A:=A) (s:=s) i t i t'
   rw[beq_self_eq_true] at this
   exact this
  ·cases (show u=AS a from ru)
   cases (show v=AS a from rv)
   exact DD _
 | n+1,A,x,y,u,v,hA,h,ru,rv=>by
  rcases h with ⟨i,rfl,rfl⟩ | ⟨a,rfl,rfl⟩ | ⟨a,b,xs,ys,rfl,rfl,hs,p⟩
  ·obtain ⟨t,rfl⟩:=(show ∃t,u=Cs i t from ru)
   obtain ⟨t',rfl⟩:=(show ∃t,v=Cs i t from rv)
   have:=CI (A:=A) (s:=s) i t i t'
   rw[beq_self_eq_true] at this
   exact this
  ·cases (show u=AS a from ru)
   cases (show v=AS a from rv)
   exact DD _
  ·cases (show u=AS a from ru)
   cases (show v=AS b from rv)
   by_cases hab:a=b
   ·subst hab;exact DD _
   refine G0 hab ?_
   have ih:∀x y u v,eX X.K H n x y->RelV x u->RelV y v->C3 A.in1 s u v true:=λx y u v h1 h2 h3=>ig I n A.in1 x y u v (by show A.units+1+n<cLine;omega) h1 h2 h3
   have pl:=C5 p
   rcases hs with ⟨h1,h2⟩ | ⟨h1,h2⟩
   ·obtain ⟨its,r1,p1,_⟩:=I.tuple h1
    obtain ⟨its2,r2,p2,_⟩:=I.tuple h2
    have q:=Fn (e:=λ_=>true) (show s.heap.IsTuple a its.toArray from p1) (show s.heap.IsTuple b its2.toArray from p2) (by omega) (cP p r1 r2 ih)
    have ez:its.toArray.size=its2.toArray.size:=by rw[Aw,Aw, <- r1.length, <- r2.length,pl]
    rw[all_true,ez,beq_self_eq_true] at q
    exact q
   ·obtain ⟨its,r1,p1,_⟩:=I.list h1
    obtain ⟨its2,r2,p2,_⟩:=I.list h2
    have q:=Ez (e:=λ_=>true) p1.isList p2.isList (by rw[Aw,Aw, <- r1.length, <- r2.length,pl]) (by omega) (cP p r1 r2 ih)
    rw[all_true] at q
    exact q
end
open PySem PySem.Spec PyProof.Rows
def uh (K:Av)(k l:Nat):TG:=zC K 2 (tM (fQ k) (tM (fQ l) zB))
def xQ (k l:Nat)(tc:TT)(te:TE)(τ:St)(Pv:Nat->List V->Hp->Prop)(i:Nat)(a b:V)(ys:List V)(H:Hp):Prop :=
 ∀(R1:V->Hp->Prop) (R0:Hp->Prop),(∀y H4,Pv (i+1) (ys++[y]) H4->R1 y H4)->(∀H3,Pv (i+1) ys H3->R0 H3)->tc ((τ.set k (some a)).set l (some b)) H λc H3=>if c=true then te ((τ.set k (some a)).set l (some b)) H3 R1 else R0 H3
open PySem PySem.Spec PyProof.Rows
section
variable  {X:Cx}{K:Av}
theorem dX (h:X.K=K:=by rfl):IxR X (zO K):=by subst h;exact bF
end
open PySem PySem.Spec PyProof.Rows
theorem Inv.jA {X:Cx}{pins:List (Addr×Obj)}{σ:St}{H:Hp}{s:Ax}{h':Heap}{t':Nat}{ch:List Addr}{T:Addr}{o:HO}(I:Inv X pins σ H s)(f:∀b∈ch,jj X pins H b)
  (k:∀b ob,b∉ch->s.heap.get? b=some ob->h'.get? b=some ob) (th:∀b∈ch,∃ob,h'.get? b=some ob) (hT:s.heap.objs.size<=T) (new:aZ X.prog X.w (upd H T o) h' T o):Inv X pins σ (upd H T o) { s with heap:=h',toks:=t' }:=by
 have hn:H T=none:=I.hok.fresh hT
 have nT:∀b ob,s.heap.get? b=some ob->b≠T:=λb ob e=>A3 (AO (AQ e) hT)
 refine I.step (g':=s.gens) (d':=s.drawn) (ch:=ch) (λb hb =>?_) (λb ob _ _ hc e _=>k b ob hc e) (λb ob _ _ hc e _=>⟨ob.slots,k b ob hc e⟩) (λb ob _ e n=>by rw[aq (nT b ob e)];exact n)
  (λb ob hc e=>⟨ob,k b ob hc e⟩) (λb xs e=>by rw[aq (av e hn)];exact e) (λb ob u e=>by rw[aq (av e hn)];exact e) (λb ps e=>⟨#[],by rw[aq (av e hn),e];simp⟩) (λm hm =>?_) (λb u e =>?_) I.bare
 ·obtain ⟨g0,g1,g2,g3,g4,g5⟩:=f b hb
  exact ⟨g3,g1,g4,g5⟩
 ·obtain ⟨ob,es,ep,ho,r⟩:=hm
  exact ⟨ob,es,ep,k _ ob (λz=>(f _ z).2.1 rfl) ho,r⟩
 ·by_cases hb:b=T
  ·subst hb
   rw[af] at e
   cases e
   exact new
  ·rw[aq hb] at e
   refine (I.hok b u e).stay (λc v hc q=>k c v ?_ q) (λc q=>by rw[aq (av q hn)];exact q) λc xs q=>by rw[aq (av q hn)];exact q
   intro z
   have n0:=(f c z).1
   rcases hc with hc | hc
   ·rw[hc,e] at n0;cases n0
   ·rw[hc] at n0;cases n0
def Ite (K:Av)(a:Addr):It :=
 ⟨λi H=>∃xs v,SqL K H a xs/\xs[i]? = some v,λi H x H'=>∃T v,H T=none/\x = .ref T/\H'=upd H T (.tup [.int i,v])/\∀xs,SqL K H a xs->xs[i]? = some v,λi H=>∃xs,SqL K H a xs/\xs.length<=i⟩
theorem rP {P:AN}{w:Bh}{K:Av}{elts:List Expr}{k:Nat}{pos:Pos}(a e it:Addr)(hne:e≠it):Turn P w K (.Tuple elts k pos) (Ite K a) [e,it] e (λi h=>(∃old,IsEnum h e it i old)/\h.IsListIter it a i) where
 mem:=by simp
 obj:=λi h ⟨⟨old,h1⟩,h2⟩ b hb=>by
  rcases AU.mp hb with q | q
  ·subst q
   exact ⟨_,h1,λv z=>nomatch z⟩
  ·have q':b=it:=by simpa using q
   subst q'
   obtain ⟨o,ho,_,hd⟩:=h2
   exact ⟨o,ho,λv z=>by rw[hd] at z;cases z⟩
 keep:=λi h h' ⟨⟨old,h1⟩,h2⟩ kp=>⟨⟨old,kp e (by simp) _ h1⟩,h2.at λo x=>kp it (by simp) o x⟩
 item:=λX eP eW eK hcalm i pins s σ H E I f ⟨⟨old,h1⟩,h2⟩ go=>by
  subst eP eW eK
  obtain ⟨xs,v,hs,hv⟩:=go
  obtain ⟨its,r,pl,hz⟩:=I.list hs
  obtain ⟨u,eu,ru⟩:=r.get hv
  refine wpAny_pyNext_enum_item h1 h2 pl.isList (x:=u) (by rw[Bv];exact eu) hne λh' o1 o2 o3 o4 kp =>?_
  refine ⟨_,rfl,?_⟩
  refine E3 o1 λh2' e2 sb =>?_
  have eT:e≠s.heap.objs.size:=A3 (AQ h1)
  have kp2:∀b ob,b∉[e,it]->s.heap.get? b=some ob->h2'.get? b=some ob:=λb ob hb eb=>by
   have n1:b≠e:=λz=>hb (by simp[z])
   have n2:b≠it:=λz=>hb (by simp[z])
   rw[sb.2 b n1]
   exact kp b ob n1 n2 eb
  have li:h2'.IsListIter it a (i+1):=o2.at λob eb=>by rw[sb.2 it (CK hne)];exact eb
  have tp:h2'.get? s.heap.objs.size=some { cls :=.type "tuple",data :=.seq #[.int i s.toks,u] }:=by rw[sb.2 _ (CK eT)];exact o3
  refine ⟨.ref s.heap.objs.size,upd H s.heap.objs.size (.tup [.int i,v]),I.jA (ch:=[e,it]) f kp2 (λb hb =>?_) (AE _) ?_,rfl,⟨s.heap.objs.size,v,I.hok.fresh (AE _),rfl,rfl,λys hy =>?_⟩,⟨⟨_,e2⟩,li⟩,λb hb =>?_⟩
  ·rcases AU.mp hb with q | q
   ·subst q;exact ⟨_,e2⟩
   ·have q':b=it:=by simpa using q
    subst q'
    obtain ⟨ob,ho,_⟩:=li
    exact ⟨ob,ho⟩
  ·refine ⟨(by show 2<=AH;decide),[.int i s.toks,u],.cons ⟨_,rfl⟩ (.cons ru .nil),_,tp,⟨rfl,rfl⟩,_,rfl⟩
  ·rw[I.nB hy hs];exact hv
  ·have ne:b≠s.heap.objs.size:=by
    rcases AU.mp hb with q | q
    ·rw[q];exact eT
    ·have q':b=it:=by simpa using q
     rw[q']
     obtain ⟨ob,ho,_⟩:=h2
     exact A3 (AQ ho)
   rw[aq ne]
   exact (f b hb).1
 done:=λX eP eW eK hcalm i pins s σ H E I f ⟨⟨old,h1⟩,h2⟩ stop=>by
  subst eP eW eK
  obtain ⟨xs,hs,hl⟩:=stop
  obtain ⟨its,r,pl,hz⟩:=I.list hs
  have l:=r.length
  refine wpAny_pyNext_enum_end (I.ok.hd hcalm) h1 h2 pl.isList (by rw[Bv];exact Fd.mpr (by omega)) λh' ex=>⟨rfl,?_⟩
  obtain ⟨g0,g1,g2,g3,g4,g5⟩:=f it (by simp)
  exact I.turned (it:=it) (h':=h') (t':=s.toks) (λb o ne eb=>ex b o ne eb) g0 g1 g3 g4 g5
 self:=λA i s Q E ⟨⟨old,h1⟩,_⟩ q=>by
  refine Fz ⟨_,h1,rfl⟩ DE (BX DE ⟨_,h1,rfl⟩ FW ?_ (FD _))
  show A7 _ _ (ret (.ref e)) _ _ s
  exact Ay ⟨_,rfl, "enumerate",_,⟨_,h1,rfl⟩,DF.lookup,q⟩
open PySem PySem.Spec PyProof.Rows
open PySem.AutoSeq1 (wpAny_loadPart')
section
variable  {prog:AN}{w:Bh}{A:BA}{E:Au->Ax->Prop}{s:Ax}
theorem o8 {it t:Addr}{i:Nat}{items:Array Au}{x:Au}{Q:Au->Ax->Prop}(hi:s.heap.IsTupleIter it t i)(hl:s.heap.IsTuple t items)(hx:items[i]? = some x)
  (q:∀h',h'.IsTupleIter it t (i+1)->Heap.SameBut it s.heap h'->Q x { s with heap:=h' }):A7 (Bf prog w) A (Builtin.SmallTypes.nextOf (.ref it)) Q E s:=by
 obtain ⟨o,eo,oc,od⟩:=id hi
 obtain ⟨ol,el,_,nl,dl⟩:=hl
 unfold Builtin.SmallTypes.nextOf
 refine Ar (Ce (name:=Str.ofString "__next__") hi.typeIs CZ (BX CZ hi.typeIs EO ?_ (EL _)))
 show A7 _ _ (field (.ref it) 0 >>= _) _ _ s;refine Ar (Dd eo od (x :=.ref t) rfl ?_)
 show A7 _ _ (if (AS t == CC)=true then _ else _) _ _ s;rw[if_neg (show ¬ ((AS t == CC)=true) from AV)]
 show A7 _ _ (field (.ref it) 1 >>= _) _ _ s;refine Ar (Dd eo od (x :=.int i 0) rfl ?_)
 show A7 _ _ (seqItems? (.ref t) >>= _) _ _ s;refine Ar (Fi el dl ?_)
 simp only[BQ,hx];refine Ar (wpAny_setField eo od (by simp) (Ay ⟨x,rfl,Ay (q _ ?_ (ER ..))⟩))
 exact ⟨_,Cn _ eo (Obj.isFreed_of_fields (G1 od _)),(Obj.cls_mapFields ..).trans oc,by rw[G1 od];simp[E8]⟩
theorem eY {it t:Addr}{i:Nat}{items:Array Au}{Q:Au->Ax->Prop}(hh:A.handled=none)(hi:s.heap.IsTupleIter it t i)(hl:s.heap.IsTuple t items)(hx:items[i]? = none)
  (q:∀h' e,Heap.ExtBut it s.heap h'->(∃o,h'.get? e=some o/\o.cls = .type "StopIteration")->E (.ref e) { s with heap:=h' }):A7 (Bf prog w) A (Builtin.SmallTypes.nextOf (.ref it)) Q E s:=by
 obtain ⟨o,eo,oc,od⟩:=id hi
 obtain ⟨ol,el,_,nl,dl⟩:=hl
 unfold Builtin.SmallTypes.nextOf
 refine Ar (Ce (name:=Str.ofString "__next__") hi.typeIs CZ (BX CZ hi.typeIs EO ?_ (EL _)))
 show A7 _ _ (field (.ref it) 0 >>= _) _ _ s;refine Ar (Dd eo od (x :=.ref t) rfl ?_)
 show A7 _ _ (if (AS t == CC)=true then _ else _) _ _ s;rw[if_neg (show ¬ ((AS t == CC)=true) from AV)]
 show A7 _ _ (field (.ref it) 1 >>= _) _ _ s;refine Ar (Dd eo od (x :=.int i 0) rfl ?_)
 show A7 _ _ (seqItems? (.ref t) >>= _) _ _ s;refine Ar (Fi el dl ?_)
 simp only[BQ,hx];refine Ar (Du (Ar (wpAny_setField eo od (by simp) ?_)))
 show A7 _ _ (newExc (.type "StopIteration") [] >>= _) _ _ _;refine Ar ?_
 simp only[newExc,newTuple];refine Ar (BI ?_ (by size_fits))
 refine Ar (m:=firstArgMember _ _) (GN (a:=CC) (by first | rfl | (simp only[firstArgMember];rfl)) ?_);refine BI ?_ (by size_fits)
 simp only[raiseNew];refine Ar (wpAny_handled ?_)
 first | (rw[show A.in1.handled=none from hh]) | (rw[hh])
 refine Ar (Ay (wpAny_throw ?_));exact q _ _ (((ER ..).extBut.push _).push _) ⟨_,AX _ rfl,rfl⟩
theorem rQ (hh:A.handled=none)(it l:Addr)(hne:l≠it)(items:Array Au) :
  Draws prog w A it [it,l] items.size (λi v=>items[i]? = some v) (λi h=>h.IsTupleIter it l i/\h.IsTuple l items) where
 live:=λ_ _ st=>by obtain ⟨o,ho,_⟩:=st.1;exact ⟨o,ho⟩
 frame:=λ_ _ _ st hk=>⟨st.1.at λo e=>hk it (by simp) o e,by obtain ⟨o,e,r⟩:=st.2;exact ⟨o,hk l (by simp) o e,r⟩⟩
 item:=λi s Q E hi st hQ=>by
  refine o8 st.1 st.2 (x:=items[i]) (by simp[hi]) λh' hit' hs' =>?_
  obtain ⟨o,e,r⟩:=st.2
  exact hQ _ h' s.toks (by simp[hi]) ⟨hit',o,by rw[hs'.2 l hne];exact e,r⟩ hs'
 done:=λs Q E st hE=>eY hh st.1 st.2 (by simp) hE
theorem ml (l:Addr)(items:Array Au)(n:Nat)(dct:Option Addr)(sl:Array (Option Au)) :
  Meets (Builtin.«enumerate.__new__» ⟨[.type "enumerate",.ref l],[]⟩) (λ_ R s=>s.heap.get? l=some { cls :=.type "tuple",dict:=dct,data :=.seq items n,slots:=sl } ∧
   R (.ok (.ret (.ref (s.heap.push { cls :=.type "tuple_iterator",data :=.fields #[.ref l,.int 0 0] }).objs.size)))
    { s with heap:=(s.heap.push { cls :=.type "tuple_iterator",data :=.fields #[.ref l,.int 0 0] }).push { cls :=.type "enumerate",data :=.fields #[.none,.bool false,.ref s.heap.objs.size,E8 0,.none,.none] } }) :=
 .of_wp λprog w A R s h=>by
  obtain ⟨hp,g,d,tk,os⟩:=s;obtain ⟨hl,h⟩:=h
  have hsub:=sub_enumerate
  have hT:Heap.IsTuple (Shared.heap ⟨hp,g,d,tk,os⟩) l items:=⟨_,hl,rfl,n,rfl⟩
  wp_walk using wpAny_loadPart' hl
  refine wpAny_stack_any λst=>Ay ?_
  split
  ·rename_i c _ _ _ _ _
   cases (c == Dv "enumerate") <;> (wp_walk using wpAny_loadPart' hl,DA hT;exact ⟨_,rfl,h⟩)
  ·wp_walk using wpAny_loadPart' hl,DA hT;exact ⟨_,rfl,h⟩
theorem kz {l:Addr}{items:Array Au}{Q:Au->Ax->Prop}(hL:s.heap.IsTuple l items)
  (h:∀h',IsEnum h' (s.heap.objs.size+1) s.heap.objs.size 0 .none->h'.IsTupleIter s.heap.objs.size l 0->h'.objs.size=s.heap.objs.size+2->(∀b o,s.heap.get? b=some o->h'.get? b=some o)->Q (.ref (s.heap.objs.size+1)) { s with heap:=h' }) :
  A7 (Bf prog w) A (call (.type "enumerate") [.ref l]) Q E s:=by
 obtain ⟨⟨c,dct,dt,sl⟩,hl,hc,n,hd⟩:=hL
 replace hc:c = .type "tuple" := hc
 replace hd:dt = .seq items n:=hd
 subst hc hd
 refine callType_new F.called_enumerate (by decide) (F.typeCall_enumerate_1 _) (F.newCall_enumerate_1 _) (λobj=>F.args_object_init_2 obj _) F.entry_enumerate_new (ml l items n dct sl) ⟨hl,?_⟩
 have hz:(s.heap.push { cls :=.type "tuple_iterator",data :=.fields #[.ref l,.int 0 0] }).objs.size=s.heap.objs.size+1:=C9 ..
 show _/\_
 rw[hz]
 have he:IsEnum ((s.heap.push { cls :=.type "tuple_iterator",data :=.fields #[.ref l,.int 0 0] }).push { cls :=.type "enumerate",data :=.fields #[.none,.bool false,.ref s.heap.objs.size,E8 0,.none,.none] }) (s.heap.objs.size+1) s.heap.objs.size 0 .none:=by
  have:=AX (s.heap.push { cls :=.type "tuple_iterator",data :=.fields #[.ref l,.int 0 0] }) (o:={ cls :=.type "enumerate",data :=.fields #[.none,.bool false,.ref s.heap.objs.size,E8 0,.none,.none] }) rfl
  rw[hz] at this;exact this
 exact ⟨⟨_,he,rfl⟩,h _ he ⟨_,Az _ (AX _ rfl),rfl,rfl⟩ (by rw[C9,hz]) λb o x=>Az _ (Az _ x)⟩
end
theorem dY {prog:AN}{w:Bh}{A:BA}{E:Au->Ax->Prop}{s:Ax}{e it t:Addr}{i:Nat}{items:Array Au}{old:Au}{Q:Option Au->Ax->Prop}(hh:A.in1.handled=none)(he:IsEnum s.heap e it i old)(hi:s.heap.IsTupleIter it t i)
  (hl:s.heap.IsTuple t items) (hx:items[i]? = none) (q:∀h',Heap.ExtBut it s.heap h'->Q none { s with heap:=h' }):A7 (Bf prog w) A (pyNext (.ref e)) Q E s:=by
 have hT:s.TypeIs (.ref e) "enumerate" :=⟨_,he,rfl⟩
 unfold pyNext
 refine Ar (Hk (Ce (name:=Str.ofString "__next__") hT DF (BX DF hT F.entry_enumerate_next ?_ (F.args_enumerate_next_1 _))))
 show A7 _ _ (field (.ref e) 2 >>= _) _ _ _;refine Ar (Dd he rfl (x :=.ref it) rfl ?_)
 refine Ar (eY hh hi hl hx λh' x he' hx' =>?_)
 obtain ⟨o,ho,hc⟩:=hx'
 refine Ar (FT (T := "StopIteration") (b:=true) ⟨o,ho,hc⟩ isSubtype_stop ?_);exact Ay (q _ he')
def ItE (K:Av)(a:Addr):It :=
 ⟨λi H=>∃xs v,SqT K H a xs/\xs[i]? = some v,λi H x H'=>∃T v,H T=none/\x = .ref T/\H'=upd H T (.tup [.int i,v])/\∀xs,SqT K H a xs->xs[i]? = some v,λi H=>∃xs,SqT K H a xs/\xs.length<=i⟩
theorem o9 {P:AN}{w:Bh}{K:Av}{elts:List Expr}{k:Nat}{pos:Pos}(a e it:Addr)(hne:e≠it)(hai:a≠it)(hae:a≠e):Turn P w K (.Tuple elts k pos) (ItE K a) [e,it] e (λi h=>(∃old,IsEnum h e it i old)/\h.IsTupleIter it a i) where
 mem:=by simp
 obj:=λi h ⟨⟨old,h1⟩,h2⟩ b hb=>by
  rcases AU.mp hb with q | q
  ·subst q
   exact ⟨_,h1,λv z=>nomatch z⟩
  ·have q':b=it:=by simpa using q
   subst q'
   obtain ⟨o,ho,_,hd⟩:=h2
   exact ⟨o,ho,λv z=>by rw[hd] at z;cases z⟩
 keep:=λi h h' ⟨⟨old,h1⟩,h2⟩ kp=>⟨⟨old,kp e (by simp) _ h1⟩,h2.at λo x=>kp it (by simp) o x⟩
 item:=λX eP eW eK hcalm i pins s σ H E I f ⟨⟨old,h1⟩,h2⟩ go=>by
  subst eP eW eK
  obtain ⟨xs,v,hs,hv⟩:=go
  obtain ⟨its,r,pl,hz⟩:=I.tuple hs
  obtain ⟨u,eu,ru⟩:=r.get hv
  have hi:i<its.toArray.size:=by rw[Aw];exact (AG.mp eu).1
  have hd:X.A.in1.handled=none:=I.ok.hd hcalm
  refine wpAny_pyNext_enum_itemD (rQ hd it a hai its.toArray) h1 ⟨h2,(show s.heap.IsTuple a its.toArray from pl)⟩ hi hne (by simp[hne,CK hae]) λx h' tk px o1 o2 o3 o4 kp =>?_
  rw[Bv,eu] at px
  have px':u=x:=Bq px
  subst px'
  refine ⟨_,rfl,?_⟩
  refine E3 o1 λh2' e2 sb =>?_
  have eT:e≠s.heap.objs.size:=A3 (AQ h1)
  have kp2:∀b ob,b∉[e,it]->s.heap.get? b=some ob->h2'.get? b=some ob:=λb ob hb eb=>by
   have n1:b≠e:=λz=>hb (by simp[z])
   have n2:b≠it:=λz=>hb (by simp[z])
   rw[sb.2 b n1]
   exact kp b ob n1 n2 eb
  have li:h2'.IsTupleIter it a (i+1):=o2.1.at λob eb=>by rw[sb.2 it (CK hne)];exact eb
  have tp:h2'.get? s.heap.objs.size=some { cls :=.type "tuple",data :=.seq #[.int i tk,u] }:=by rw[sb.2 _ (CK eT)];exact o3
  refine ⟨.ref s.heap.objs.size,upd H s.heap.objs.size (.tup [.int i,v]),I.jA (ch:=[e,it]) f kp2 (λb hb =>?_) (AE _) ?_,rfl,⟨s.heap.objs.size,v,I.hok.fresh (AE _),rfl,rfl,λys hy =>?_⟩,⟨⟨_,e2⟩,li⟩,λb hb =>?_⟩
  ·rcases AU.mp hb with q | q
   ·subst q;exact ⟨_,e2⟩
   ·have q':b=it:=by simpa using q
    subst q'
    obtain ⟨ob,ho,_⟩:=li
    exact ⟨ob,ho⟩
  ·refine ⟨(by show 2<=AH;decide),[.int i tk,u],.cons ⟨_,rfl⟩ (.cons ru .nil),_,tp,⟨rfl,rfl⟩,_,rfl⟩
  ·rw[I.hZ hy hs];exact hv
  ·have ne:b≠s.heap.objs.size:=by
    rcases AU.mp hb with q | q
    ·rw[q];exact eT
    ·have q':b=it:=by simpa using q
     rw[q']
     obtain ⟨ob,ho,_⟩:=h2
     exact A3 (AQ ho)
   rw[aq ne]
   exact (f b hb).1
 done:=λX eP eW eK hcalm i pins s σ H E I f ⟨⟨old,h1⟩,h2⟩ stop=>by
  subst eP eW eK
  obtain ⟨xs,hs,hl⟩:=stop
  obtain ⟨its,r,pl,hz⟩:=I.tuple hs
  have l:=r.length
  have hd:X.A.in1.handled=none:=I.ok.hd hcalm
  refine dY (A:=X.A) hd h1 h2 (show s.heap.IsTuple a its.toArray from pl) (by rw[Bv];exact Fd.mpr (by omega)) λh' ex=>⟨rfl,?_⟩
  obtain ⟨g0,g1,g2,g3,g4,g5⟩:=f it (by simp)
  exact I.turned (it:=it) (h':=h') (t':=s.toks) (λb o ne eb=>ex b o ne eb) g0 g1 g3 g4 g5
 self:=λA i s Q E ⟨⟨old,h1⟩,_⟩ q=>by
  refine Fz ⟨_,h1,rfl⟩ DE (BX DE ⟨_,h1,rfl⟩ FW ?_ (FD _))
  show A7 _ _ (ret (.ref e)) _ _ s
  exact Ay ⟨_,rfl, "enumerate",_,⟨_,h1,rfl⟩,DF.lookup,q⟩
open PySem PySem.Spec PyProof.Rows
def zT (K:Av)(ta:TA):TI:=λσ H R=>ta σ H λvs H1=>∃a,vs=[.ref a]/\(((∃xs,SqL K H1 a xs)/\R (Ite K a) H1)\/((∃xs,SqT K H1 a xs)/\R (ItE K a) H1))
section
variable  {X:Cx}
theorem wc {a:Expr}{ta:TA}{p pos pos':Pos}{elts:List Expr}{k:Nat}(hg:Gl X "enumerate")(hm:X.mg "enumerate" = none)(ha:PA X [a] ta)(hs:BD [a] X.env=[(false,eval a X.env)]:=by rfl) :
  PI X (.Tuple elts k pos') (.Call (.Name "enumerate" p) [a] [] pos) (zT X.K ta):=by
 intro pins s σ H R I h
 refine Call_ (ja I hg hm boot_enumerate (DC (thn (ha pos pins s σ H _ I h) λus s1 ⟨vs,H1,I1,r1,q1⟩ =>?_) hs rfl))
 obtain ⟨l,e,q1⟩:=q1
 subst e
 obtain ⟨u,rfl,ru⟩:=vals1 r1
 cases (show u=AS l from ru)
 have fp:∀b∈[s1.heap.objs.size+1,s1.heap.objs.size],jj X pins H1 b:=λb hb=>by
  have ge:s1.heap.objs.size<=b:=by
   rcases AU.mp hb with q | q
   ·rw[q];exact EN _
   ·have q':b=s1.heap.objs.size:=by simpa using q
    rw[q'];exact AE _
  exact I1.vR ge (I1.hok.fresh ge)
 have ne:s1.heap.objs.size+1≠s1.heap.objs.size:=DB (C2 _)
 rcases q1 with ⟨⟨xs,hq⟩,q⟩ | ⟨⟨xs,hq⟩,q⟩
 ·obtain ⟨its,rv,pl,hz⟩:=I1.list hq
  refine call_enumerate_list pl.isList λh' he li _ kp =>?_
  have T:=rP (P:=X.prog) (w:=X.w) (K:=X.K) (elts:=elts) (k:=k) (pos:=pos') l _ _ ne
  refine T.self _ 0 _ _ _ ⟨⟨_,he⟩,li⟩ ?_
  exact ⟨_,_,_,_,H1,rfl,I1.kept (t':=s1.toks) kp,T,⟨⟨_,he⟩,li⟩,fp,q⟩
 ·obtain ⟨its,rv,pl,hz⟩:=I1.tuple hq
  have lt:l<s1.heap.objs.size:=by obtain ⟨o,e,_⟩:=pl;exact AQ e
  refine kz (show s1.heap.IsTuple l its.toArray from pl) λh' he li _ kp =>?_
  have T:=o9 (P:=X.prog) (w:=X.w) (K:=X.K) (elts:=elts) (k:=k) (pos:=pos') l _ _ ne (A3 lt) (A3 (Cb lt))
  refine T.self _ 0 _ _ _ ⟨⟨_,he⟩,li⟩ ?_
  exact ⟨_,_,_,_,H1,rfl,I1.kept (t':=s1.toks) kp,T,⟨⟨_,he⟩,li⟩,fp,q⟩
end
end L2
namespace Srt
open PySem PyProof.Rows
def gal:Bool->AY->Array AY->Nat->Nat->Nat->StateT Bg Sem (Option Nat):=sortPriv% PySem.Builtin.gallop
def mLo:Array AY->Array AY->StateT Bg Sem (Array AY):=sortPriv% PySem.Builtin.mergeLo
def mHi:Array AY->Array AY->StateT Bg Sem (Array AY):=sortPriv% PySem.Builtin.mergeHi
def mAt:Nat->StateT Bg Sem Bool:=sortPriv% PySem.Builtin.mergeAt
def xR:StateT Bg Sem Unit:=sortPriv% PySem.Builtin.sortRuns
def yC:Nat->Nat->StateT Bg Sem (Option Nat):=sortPriv% PySem.Builtin.countRun
def ui:Nat->Nat->Nat->StateT Bg Sem Bool:=sortPriv% PySem.Builtin.binarySort
theorem yD (lf:Bool)(ky:AY)(ar:Array AY)(bs n ht:Nat):gal lf ky ar bs n ht=(do
    let far (i:Nat):StateT Bg Sem (Option Bool):=do
      let z ← elem' ar (bs+i)
      if lf then lt' z ky else return (← lt' ky z).map (!·)
    let mut la:=0;let mut of:=1
    let mut lo:=0;let mut hi:=0
    let some rt ← far ht | return none
    if rt then
      let mx:=n-ht
      for _ in [0:n] do
        if of≥mx then break
        let some mo ← far (ht+of)
          | return none
        if !mo then break
        la:=of;of:=2*of+1
      lo:=ht+la+1;hi:=ht+min of mx
    else
      let mx:=ht+1
      for _ in [0:n] do
        if of≥mx then break
        let some fd ← far (ht-of)
          | return none
        if fd then break
        la:=of;of:=2*of+1
      lo:=ht+1-min of mx;hi:=ht-la
    for _ in [0:n] do
      if lo≥hi then break
      let md:=lo+(hi-lo)/2
      let some mo ← far md | return none
      if mo then lo:=md+1 else hi:=md
    return some hi):=rfl
section
variable  {prog:AN}{w:Bh}{A:BA}{E:Au->Ax->Prop}{s:Ax}
theorem uj {lf:Bool}{ky:AY}{ar:Array AY}{bs n ht:Nat}{st:Bg}{Q:Option Nat->Bg->Prop}(p:Nat->Bool)
    (hf:∀i,i<n->∀(Q:Option Bool->Bg->Prop),Q (some (p i)) st->wpS (Bf prog w) A E s (do let z ← elem' ar (bs+i);if lf then lt' z ky else return (← lt' ky z).map (!·)) Q st)
    (hp:∀i j,i<=j->j<n->p j=true->p i=true) (hh:ht<n)
    (h:∀k,k<=n->(∀i,i<k->p i=true)->(∀i,k<=i->i<n->p i=false)->Q (some k) st):wpS (Bf prog w) A E s (gal lf ky ar bs n ht) Q st:=by
  rw[yD]
  dsimp only
  refine AR (hf ht hh _ ?_)
  dsimp only
  cases hr:p ht with
  | true =>
    rw[if_pos rfl]
    refine AR (CF (BS (I:=λx c st'=>st=st'/\∃la of,c=(none,la,of)/\la<of/\x+1<=of/\ht+la<n/\p (ht+la)=true)
      (Q:=λc st'=>st=st'/\∃la of,c=(none,la,of)/\la<of/\ht+la<n/\p (ht+la)=true/\(n-ht<=of\/(ht+of<n/\p (ht+of)=false))) ?step ?fin ⟨rfl,0,1,rfl,by omega,by omega,by omega,by simpa using hr⟩) ?post)
    case fin =>
      rintro c st' ⟨rfl,la,of,rfl,b1,b2,b3,b4⟩
      exact ⟨rfl,la,of,rfl,b1,b3,b4,.inl (by omega)⟩
    case step =>
      rintro x c st' _ hx ⟨rfl,la,of,rfl,b1,b2,b3,b4⟩
      dsimp only
      by_cases hge:of≥n-ht
      · rw[if_pos hge]
        exact AZ ⟨rfl,la,of,rfl,b1,b3,b4,.inl hge⟩
      · rw[if_neg hge]
        refine AR (hf _ (by omega) _ ?_)
        dsimp only
        cases hm:p (ht+of) with
        | true =>
          simp only[Cc,A1,if_false]
          exact AZ ⟨rfl,of,2*of+1,rfl,by omega,by omega,by omega,hm⟩
        | false =>
          simp only[GB,if_true]
          exact AZ ⟨rfl,la,of,rfl,b1,b3,b4,.inr ⟨by omega,hm⟩⟩
    case post =>
      rintro c st' ⟨rfl,la,of,rfl,b1,b3,b4,b5⟩
      have h1:(ht+la+1)<=(ht+min of (n-ht)):=by omega
      have h2:(ht+min of (n-ht))<=n:=by omega
      have h3:∀i,i<(ht+la+1)->p i=true:=λi hi=>hp i (ht+la) (by omega) b3 b4
      have h4:∀i,(ht+min of (n-ht))<=i->i<n->p i=false:=λi hi hn=>by
        rcases b5 with b5 | ⟨b5,b6⟩
        · omega
        · cases hpi:p i with
          | false=>rfl
          | true=>rw[hp (ht+of) i (by omega) hn hpi] at b6;cases b6
      dsimp only
      refine AR (CF (BS (I:=λx c st'=>st=st'/\∃lo hi,c=(none,lo,hi)/\lo<=hi/\hi<=n/\hi-lo<=n-x/\(∀i,i<lo->p i=true)/\(∀i,hi<=i->i<n->p i=false))
        (Q:=λc st'=>st=st'/\∃k,c=(none,k,k)/\k<=n/\(∀i,i<k->p i=true)/\(∀i,k<=i->i<n->p i=false)) ?step ?fin ⟨rfl,(ht+la+1),(ht+min of (n-ht)),rfl,h1,h2,by omega,h3,h4⟩) ?post)
      case fin =>
        rintro c st' ⟨rfl,lo,hi,rfl,a1,a2,a3,a4,a5⟩
        have e:lo=hi:=by omega
        subst e
        exact ⟨rfl,lo,rfl,a2,a4,a5⟩
      case post =>
        rintro c st' ⟨rfl,k,rfl,a2,a4,a5⟩
        exact AZ (h k a2 a4 a5)
      case step =>
        rintro x c st' _ hx ⟨rfl,lo,hi,rfl,a1,a2,a3,a4,a5⟩
        dsimp only
        by_cases hge:lo≥hi
        · rw[if_pos hge]
          have e:lo=hi:=by omega
          subst e
          exact AZ ⟨rfl,lo,rfl,a2,a4,a5⟩
        · rw[if_neg hge]
          refine AR (hf _ (by omega) _ ?_)
          dsimp only
          cases hm:p (lo+(hi-lo)/2) with
          | true =>
            rw[if_pos rfl]
            exact AZ ⟨rfl,_,_,rfl,by omega,a2,by omega,λi hi'=>hp i _ (by omega) (by omega) hm,a5⟩
          | false =>
            rw[if_neg (by simp)]
            refine AZ ⟨rfl,_,_,rfl,by omega,by omega,by omega,a4,λi hi' hn =>?_⟩
            cases hpi:p i with
            | false=>rfl
            | true=>rw[hp _ i hi' hn hpi] at hm;cases hm
  | false =>
    rw[if_neg (by simp)]
    refine AR (CF (BS (I:=λx c st'=>st=st'/\∃la of,c=(none,la,of)/\la<of/\x+1<=of/\la<=ht/\p (ht-la)=false)
      (Q:=λc st'=>st=st'/\∃la of,c=(none,la,of)/\la<of/\la<=ht/\p (ht-la)=false/\(ht+1<=of\/(of<=ht/\p (ht-of)=true))) ?step ?fin ⟨rfl,0,1,rfl,by omega,by omega,by omega,by simpa using hr⟩) ?post)
    case fin =>
      rintro c st' ⟨rfl,la,of,rfl,b1,b2,b3,b4⟩
      exact ⟨rfl,la,of,rfl,b1,b3,b4,.inl (by omega)⟩
    case step =>
      rintro x c st' _ hx ⟨rfl,la,of,rfl,b1,b2,b3,b4⟩
      dsimp only
      by_cases hge:of≥ht+1
      · rw[if_pos hge]
        exact AZ ⟨rfl,la,of,rfl,b1,b3,b4,.inl hge⟩
      · rw[if_neg hge]
        refine AR (hf _ (by omega) _ ?_)
        dsimp only
        cases hm:p (ht-of) with
        | true =>
          rw[if_pos rfl]
          exact AZ ⟨rfl,la,of,rfl,b1,b3,b4,.inr ⟨by omega,hm⟩⟩
        | false =>
          rw[if_neg (by simp)]
          exact AZ ⟨rfl,of,2*of+1,rfl,by omega,by omega,by omega,hm⟩
    case post =>
      rintro c st' ⟨rfl,la,of,rfl,b1,b3,b4,b5⟩
      have h1:(ht+1-min of (ht+1))<=(ht-la):=by omega
      have h2:(ht-la)<=n:=by omega
      have h3:∀i,i<(ht+1-min of (ht+1))->p i=true:=λi hi=>by
        rcases b5 with b5 | ⟨b5,b6⟩
        · omega
        · exact hp i (ht-of) (by omega) (by omega) b6
      have h4:∀i,(ht-la)<=i->i<n->p i=false:=λi hi hn=>by
        cases hpi:p i with
        | false=>rfl
        | true=>rw[hp (ht-la) i hi hn hpi] at b4;cases b4
      dsimp only
      refine AR (CF (BS (I:=λx c st'=>st=st'/\∃lo hi,c=(none,lo,hi)/\lo<=hi/\hi<=n/\hi-lo<=n-x/\(∀i,i<lo->p i=true)/\(∀i,hi<=i->i<n->p i=false))
        (Q:=λc st'=>st=st'/\∃k,c=(none,k,k)/\k<=n/\(∀i,i<k->p i=true)/\(∀i,k<=i->i<n->p i=false)) ?step ?fin ⟨rfl,(ht+1-min of (ht+1)),(ht-la),rfl,h1,h2,by omega,h3,h4⟩) ?post)
      case fin =>
        rintro c st' ⟨rfl,lo,hi,rfl,a1,a2,a3,a4,a5⟩
        have e:lo=hi:=by omega
        subst e
        exact ⟨rfl,lo,rfl,a2,a4,a5⟩
      case post =>
        rintro c st' ⟨rfl,k,rfl,a2,a4,a5⟩
        exact AZ (h k a2 a4 a5)
      case step =>
        rintro x c st' _ hx ⟨rfl,lo,hi,rfl,a1,a2,a3,a4,a5⟩
        dsimp only
        by_cases hge:lo≥hi
        · rw[if_pos hge]
          have e:lo=hi:=by omega
          subst e
          exact AZ ⟨rfl,lo,rfl,a2,a4,a5⟩
        · rw[if_neg hge]
          refine AR (hf _ (by omega) _ ?_)
          dsimp only
          cases hm:p (lo+(hi-lo)/2) with
          | true =>
            rw[if_pos rfl]
            exact AZ ⟨rfl,_,_,rfl,by omega,a2,by omega,λi hi'=>hp i _ (by omega) (by omega) hm,a5⟩
          | false =>
            rw[if_neg (by simp)]
            refine AZ ⟨rfl,_,_,rfl,by omega,by omega,by omega,a4,λi hi' hn =>?_⟩
            cases hpi:p i with
            | false=>rfl
            | true=>rw[hp _ i hi' hn hpi] at hm;cases hm
end
open PySem PyProof.Rows
structure Cmp (prog:AN)(w:Bh)(A:BA)(s:Ax)(O:EK)(key:AY->O.α)(U:AY->Prop)(κ:SortKind):Prop where
 lt:∀(E:Au->Ax->Prop) (st:Bg) (x y:AY) (Q:Option Bool->Bg->Prop),kindOf st=κ -> U x->U y->Q (some (O.blt (key x) (key y))) st->wpS (Bf prog w) A E s (lt' x y) Q st
section
variable  {prog:AN}{w:Bh}{A:BA}{E:Au->Ax->Prop}{s:Ax}{O:EK}{key:AY->O.α}{U:AY->Prop}{κ:SortKind}
theorem aQ {ar:Array AY}{i:Nat}{z:AY}{st:Bg}{Q:AY->Bg->Prop}(h:ar[i]? = some z)(hq:Q z st):wpS (Bf prog w) A E s (elem' ar i) Q st:=by
 rw[elem'_eq,h]
 exact AZ hq
theorem yE (C:Cmp prog w A s O key U κ){ky:AY}{ar:Array AY}{bs n ht:Nat}{st:Bg}{Q:Option Nat->Bg->Prop}(g:Nat->AY)(hk:kindOf st=κ)(uk:U ky)
  (hg:∀i,i<n->ar[bs+i]? = some (g i)) (hu:∀i,i<n->U (g i)) (hs:∀i j,i<=j->j<n->O.kle (key (g i)) (key (g j))) (hh:ht<n)
  (h:∀k,k<=n->(∀i,i<k->O.kle (key (g i)) (key ky))->(∀i,k<=i->i<n->O.klt (key ky) (key (g i)))->Q (some k) st):wpS (Bf prog w) A E s (gal false ky ar bs n ht) Q st:=by
 refine uj (λi => !O.blt (key ky) (key (g i))) (λi hi R hr =>?_) (λi j hij hj hp =>?_) hh (λk hk' h1 h2=>h k hk' (λi hi =>?_) λi hi hn =>?_)
 ·refine AR (aQ (hg i hi) ?_)
  rw[if_neg (by simp)]
  exact AR (C.lt _ st ky (g i) _ hk uk (hu i hi) (AZ hr))
 ·have a1:O.blt (key ky) (key (g j))=false:=by simpa using hp
  have a2:O.kle (key (g i)) (key ky):=Bn (hs i j hij hj) a1
  have a3:O.blt (key ky) (key (g i))=false:=a2
  simp[a3]
 ·have a1:=h1 i hi
  exact (by simpa using a1:O.blt (key ky) (key (g i))=false)
 ·have a1:=h2 i hi hn
  exact (by simpa using a1:O.blt (key ky) (key (g i))=true)
theorem yF (C:Cmp prog w A s O key U κ){ky:AY}{ar:Array AY}{bs n ht:Nat}{st:Bg}{Q:Option Nat->Bg->Prop}(g:Nat->AY)(hk:kindOf st=κ)(uk:U ky)
  (hg:∀i,i<n->ar[bs+i]? = some (g i)) (hu:∀i,i<n->U (g i)) (hs:∀i j,i<=j->j<n->O.kle (key (g i)) (key (g j))) (hh:ht<n)
  (h:∀k,k<=n->(∀i,i<k->O.klt (key (g i)) (key ky))->(∀i,k<=i->i<n->O.kle (key ky) (key (g i)))->Q (some k) st):wpS (Bf prog w) A E s (gal true ky ar bs n ht) Q st:=by
 refine uj (λi=>O.blt (key (g i)) (key ky)) (λi hi R hr =>?_) (λi j hij hj hp =>?_) hh (λk hk' h1 h2=>h k hk' (λi hi=>h1 i hi) λi hi hn=>h2 i hi hn)
 ·refine AR (aQ (hg i hi) ?_)
  rw[if_pos rfl]
  exact C.lt _ st (g i) ky _ hk (hu i hi) uk hr
 ·exact KeyOrd.klt_of_kle_of_klt (hs i j hij hj) hp
end
open PySem PyProof.Rows
section
variable  {O:EK}(key:AY->O.α)
def Le (p q:AY):Prop:=O.kle (key p) (key q)
structure MW (a b o:Array AY)(x y:Nat):Prop where
 hx:x<=a.size
 hy:y<=b.size
 perm:(o.toList++(a.toList.drop x++b.toList.drop y)).Perm (a.toList++b.toList)
 sorted:o.toList.Pairwise (Le key)
 below:∀p∈o.toList,∀z∈a.toList.drop x++b.toList.drop y,Le key p z
def dy (a b r:Array AY):Prop:=r.toList.Perm (a.toList++b.toList)/\r.toList.Pairwise (Le key)
variable  {key}
theorem MW.fin {a b o:Array AY}{x y:Nat}(m:MW key a b o x y){t:List AY}{r:Array AY}(hr:r.toList=o.toList++t)(ht:t.Perm (a.toList.drop x++b.toList.drop y))(hs:t.Pairwise (Le key)):dy key a b r:=by
 unfold dy
 rw[hr]
 exact ⟨(B7 _ ht).trans m.perm,B1.mpr ⟨m.sorted,hs,λp hp q hq=>m.below p hp q (ht.mem_iff.mp hq)⟩⟩
theorem MW.take {a b o:Array AY}{x y x' y':Nat}(m:MW key a b o x y){t:List AY}{r:Array AY}(hr:r.toList=o.toList++t)(hx:x'<=a.size)(hy:y'<=b.size)
  (ht:(t++(a.toList.drop x'++b.toList.drop y')).Perm (a.toList.drop x++b.toList.drop y)) (hs:t.Pairwise (Le key)) (hb:∀p∈t,∀z∈a.toList.drop x'++b.toList.drop y',Le key p z):MW key a b r x' y':=by
 have sub:∀z,z∈t\/z∈a.toList.drop x'++b.toList.drop y'->z∈a.toList.drop x++b.toList.drop y:=λz hz=>ht.mem_iff.mp (AI.mpr hz)
 refine ⟨hx,hy,?_,?_,?_⟩
 ·rw[hr,A4]
  exact (B7 _ ht).trans m.perm
 ·rw[hr]
  exact B1.mpr ⟨m.sorted,hs,λp hp q hq=>m.below p hp q (sub q (.inl hq))⟩
 ·rw[hr]
  intro p hp z hz
  rcases AI.mp hp with h | h
  ·exact m.below p h z (sub z (.inr hz))
  ·exact hb p h z hz
theorem drop_cons {α:Type}{l:List α}{i:Nat}{z:α}(h:l[i]? = some z):l.drop i=z :: l.drop (i+1):=by
 obtain ⟨hi,e⟩:=AG.mp h
 rw[List.drop_eq_getElem_cons hi,e]
theorem drop_take {α:Type}(l:List α)(i k:Nat):l.drop i=(l.drop i).take k++l.drop (i+k):=by
 rw[<- Iy,CG]
theorem aA {a:Array AY}{i:Nat}{z:AY}(h:a[i]? = some z):a.toList[i]? = some z:=by rw[AJ];exact h
theorem MW.iL {a b o:Array AY}{x y:Nat}{z:AY}(m:MW key a b o x y)(h:a[x]? = some z)(ha:a.toList.Pairwise (Le key))(hb:∀t∈b.toList.drop y,Le key z t):MW key a b (o.push z) (x+1) y:=by
 have e:=drop_cons (aA h)
 have hx:x<a.size:=(Cy.mp h).1
 have pa:(z :: a.toList.drop (x+1)).Pairwise (Le key):=by rw[<- e];exact ha.sublist (BR _ _)
 refine m.take (t:=[z]) (by rw[CB]) hx m.hy (by rw[e];exact Dc _) (CO _ _) λp hp t ht =>?_
 have ep:p=z:=by simpa using hp
 subst ep
 rcases AI.mp ht with q | q
 ·exact (C7.mp pa).1 t q
 ·exact hb t q
theorem MW.k7 {a b o:Array AY}{x y:Nat}{z:AY}(m:MW key a b o x y)(h:b[y]? = some z)(hb:b.toList.Pairwise (Le key))(ha:∀t∈a.toList.drop x,Le key z t):MW key a b (o.push z) x (y+1):=by
 have e:=drop_cons (aA h)
 have hy:y<b.size:=(Cy.mp h).1
 have pb:(z :: b.toList.drop (y+1)).Pairwise (Le key):=by rw[<- e];exact hb.sublist (BR _ _)
 refine m.take (t:=[z]) (by rw[CB]) m.hx hy (by rw[e,List.singleton_append];exact HW.symm) (CO _ _) λp hp t ht =>?_
 have ep:p=z:=by simpa using hp
 subst ep
 rcases AI.mp ht with q | q
 ·exact ha t q
 ·exact (C7.mp pb).1 t q
theorem ext_toList (a:Array AY)(x k:Nat):(a.extract x (x+k)).toList=(a.toList.drop x).take k:=by
 rw[CM,Cj,Dn]
theorem fE (a:Array AY)(x:Nat):(a.extract x a.size).toList=a.toList.drop x:=by
 rw[CM,Cj]
 exact Bi (by rw[Ca,AF];exact AE _)
theorem aB {l:List AY}(h:l.Pairwise (Le key)){i j:Nat}{p q:AY}(hi:l[i]? = some p)(hj:l[j]? = some q)(hij:i<=j):Le key p q:=by
 by_cases e:i=j
 ·subst e
  rw[hi] at hj
  cases hj
  exact Cp _
 ·obtain ⟨h1,e1⟩:=AG.mp hi
  obtain ⟨h2,e2⟩:=AG.mp hj
  have:=DT.mp h i j h1 h2 (by omega)
  rw[e1,e2] at this
  exact this
theorem aO {l:List AY}{i:Nat}{t:AY}(h:t∈l.drop i):∃j,i<=j/\l[j]? = some t:=by
 obtain ⟨n,e⟩:=Bw.mp h
 rw[Dy] at e
 exact ⟨i+n,by omega,e⟩
theorem iM {l:List AY}{i k:Nat}{t:AY}(h:t∈(l.drop i).take k):∃j,j<k/\l[i+j]? = some t:=by
 obtain ⟨n,e⟩:=Bw.mp h
 rw[Cq] at e
 split at e
 ·rw[Dy] at e
  exact ⟨n,by omega,e⟩
 ·cases e
theorem MW.um {a b o:Array AY}{x y k:Nat}(m:MW key a b o x y)(hk:x+k<=a.size)(ha:a.toList.Pairwise (Le key))(hb:∀j p,j<k->a.toList[x+j]? = some p->∀t∈b.toList.drop y,Le key p t):MW key a b (o++a.extract x (x+k)) (x+k) y:=by
 refine m.take (t:=(a.toList.drop x).take k) (by rw[Bp,ext_toList]) hk m.hy ?_ ?_ λp hp t ht =>?_
 ·rw[<- A4, <- drop_take]
 ·exact ha.sublist ((BZ _ _).trans (BR _ _))
 ·obtain ⟨j,hj,e⟩:=iM hp
  rcases AI.mp ht with q | q
  ·obtain ⟨i,hi,e2⟩:=aO q
   exact aB ha e e2 (by omega)
  ·exact hb j p hj e t q
theorem MW.uo {a b o:Array AY}{x y k:Nat}(m:MW key a b o x y)(hk:y+k<=b.size)(hb:b.toList.Pairwise (Le key))(ha:∀j p,j<k->b.toList[y+j]? = some p->∀t∈a.toList.drop x,Le key p t):MW key a b (o++b.extract y (y+k)) x (y+k):=by
 refine m.take (t:=(b.toList.drop y).take k) (by rw[Bp,ext_toList]) m.hx hk ?_ ?_ λp hp t ht =>?_
 ·rw[drop_take b.toList y k]
  have e:((b.toList.drop y).take k++b.toList.drop (y+k)).take k=(b.toList.drop y).take k:=by rw[<- drop_take]
  rw[e]
  refine (List.perm_append_comm_assoc _ _ _)
 ·exact hb.sublist ((BZ _ _).trans (BR _ _))
 ·obtain ⟨j,hj,e⟩:=iM hp
  rcases AI.mp ht with q | q
  ·exact ha j p hj e t q
  ·obtain ⟨i,hi,e2⟩:=aO q
   exact aB hb e e2 (by omega)
theorem MW.rR {a b o:Array AY}{x y:Nat}(m:MW key a b o x y)(ha:a.toList.Pairwise (Le key))(hy:y=b.size):dy key a b (o++a.extract x a.size++b.extract y b.size):=by
 subst hy
 have e:b.toList.drop b.size=[]:=FX (by rw[AF];exact AE _)
 refine m.fin (t:=a.toList.drop x) (by rw[Bp,Bp,fE,fE,e,Bj]) (by rw[e,Bj]) (ha.sublist (BR _ _))
theorem MW.rT {a b o:Array AY}{x y:Nat}(m:MW key a b o x y)(hb:b.toList.Pairwise (Le key))(hx:x=a.size):dy key a b (o++a.extract x a.size++b.extract y b.size):=by
 subst hx
 have e:a.toList.drop a.size=[]:=FX (by rw[AF];exact AE _)
 refine m.fin (t:=b.toList.drop y) (by rw[Bp,Bp,fE,fE,e,Bj]) (by rw[e,Dg]) (hb.sublist (BR _ _))
theorem MW.last {a b o:Array AY}{x y:Nat}(m:MW key a b o x y)(ha:a.toList.Pairwise (Le key))(hb:b.toList.Pairwise (Le key))(hx:x+1=a.size)(hl:∀p q,p∈b.toList->a[a.size-1]? = some q->Le key p q):dy key a b (o++b.extract y b.size++a.extract x a.size):=by
 refine m.fin (t:=b.toList.drop y++a.toList.drop x) (by rw[Bp,Bp,fE,fE,A4]) C8 ?_
 refine B1.mpr ⟨hb.sublist (BR _ _),ha.sublist (BR _ _),λp hp q hq=>hl p q (DR hp) ?_⟩
 obtain ⟨i,hi,e⟩:=aO hq
 rw[AJ] at e
 have hi2:i<a.size:=(Cy.mp e).1
 rw[show a.size-1=i by omega]
 exact e
theorem MW.size {a b o:Array AY}{x y:Nat}(m:MW key a b o x y):o.size+(a.size-x)+(b.size-y)=a.size+b.size:=by
 have e:=m.perm.length_eq
 simp only[As,Ca,AF] at e
 omega
end
structure Sm (st st':Bg):Prop where
 k:kindOf st'=kindOf st
 a:A2 st'=A2 st
 p:Bc st'=Bc st
 f:failedOf st'=failedOf st
theorem Sm.refl (st:Bg):Sm st st:=⟨rfl,rfl,rfl,rfl⟩
theorem Sm.mg {st st':Bg}(h:Sm st st')(n:Nat):Sm st (SortSt.mk' (kindOf st') (A2 st') (Bc st') n (failedOf st')):=⟨h.k,h.a,h.p,h.f⟩
open PySem PyProof.Rows
section
variable  {prog:AN}{w:Bh}{A:BA}{E:Au->Ax->Prop}{s:Ax}{O:EK}{key:AY->O.α}{U:AY->Prop}{κ:SortKind}
theorem aT {a:Array AY}{i:Nat}(h:i<a.size):∃z,a[i]? = some z:=⟨a[i],by simp[h]⟩
theorem bH {a:Array AY}{i:Nat}{z:AY}(h:a[i]? = some z):z∈a.toList:=Bw.mpr ⟨i,by rw[AJ];exact h⟩
theorem ltq {x n:Nat}(h:x<=n)(c:¬ (x == n)=true):x<n:=G2 h λz=>c (beq_iff_eq.mpr z)
abbrev LoC:=Option (Array AY)×Array AY×Nat×Nat×Nat×Nat×Nat
def wd (a b o:Array AY)(x y mg ac bc:Nat):StateT Bg Sem (ForInStep LoC):=do
  let z ← elem' a x
  if (x+1+1 == a.size)=true then pure (.done (some (o.push z++b.extract y b.size++a.extract (x+1) a.size),o.push z,x+1,y,mg,ac,bc))
  else if (decide (ac<7) && decide (bc<7))=true then pure (.done (none,o.push z,x+1,y,mg,ac,bc))
  else pure (.yield (none,o.push z,x+1,y,mg,ac,bc))
def we (a b o:Array AY)(x y mg ac bc:Nat):StateT Bg Sem (ForInStep LoC):=do
  let z ← elem' b y
  if (y+1 == b.size)=true then pure (.done (some (o.push z++a.extract x a.size++b.extract (y+1) b.size),o.push z,x,y+1,mg,ac,bc))
  else do
    let z2 ← elem' a x
    let __x ← gal true z2 b (y+1) (b.size-(y+1)) 0
    match __x with
    | some k =>
      if k>0 then
        if (y+1+k == b.size)=true then pure (.done (some (o.push z++b.extract (y+1) (y+1+k)++a.extract x a.size++b.extract (y+1+k) b.size),o.push z++b.extract (y+1) (y+1+k),x,y+1+k,mg,ac,k))
        else wd a b (o.push z++b.extract (y+1) (y+1+k)) x (y+1+k) mg ac k
      else wd a b (o.push z) x (y+1) mg ac k
    | _=>pure (.done (some (o.push z++a.extract x a.size++b.extract (y+1) b.size),o.push z,x,y+1,mg,ac,bc))
def rV (a b p:Array AY)(x y ac bc mg:Nat):StateT Bg Sem (ForInStep LoC):=do
  modify (λs=>SortSt.mk' (kindOf s) (A2 s) (Bc s) mg (failedOf s))
  let z ← elem' b y
  let __x ← gal false z a x (a.size-x) 0
  match __x with
  | some k =>
    if k>0 then
      if (x+k+1 == a.size)=true then pure (.done (some (p++a.extract x (x+k)++b.extract y b.size++a.extract (x+k) a.size),p++a.extract x (x+k),x+k,y,mg,k,bc))
      else if (x+k == a.size)=true then pure (.done (some (p++a.extract x (x+k)++a.extract (x+k) a.size++b.extract y b.size),p++a.extract x (x+k),x+k,y,mg,k,bc))
      else we a b (p++a.extract x (x+k)) (x+k) y mg k bc
    else we a b p x y mg k bc
  | _=>pure (.done (some (p++a.extract x a.size++b.extract y b.size),p,x,y,mg,ac,bc))
def LoQ (key:AY->O.α)(a b:Array AY)(st:Bg)(n:Nat)(r:ForInStep LoC)(st':Bg):Prop:=match r with
 | .done c=>Sm st st'/\((∃r p x y mg ac bc,c=(some r,p,x,y,mg,ac,bc)/\dy key a b r)\/∃p x y mg ac bc,c=(none,p,x,y,mg,ac,bc)/\MW key a b p x y/\x+1<a.size/\y<b.size/\n<=p.size)
 | .yield c=>Sm st st'/\∃p x y mg ac bc,c=(none,p,x,y,mg,ac,bc)/\MW key a b p x y/\x+1<a.size/\y<b.size/\n<=p.size
theorem LoQ.out {a b:Array AY}{st st':Bg}{n:Nat}{r:Array AY}{c:Array AY×Nat×Nat×Nat×Nat×Nat}(sm:Sm st st')(f:dy key a b r):LoQ key a b st n (.done (some r,c)) st':=by
 obtain ⟨p,x,y,mg,ac,bc⟩:=c
 exact ⟨sm,.inl ⟨_,_,_,_,_,_,_,rfl,f⟩⟩
theorem qq {a b:Array AY}{st st':Bg}(ha:a.toList.Pairwise (Le key))(hb:b.toList.Pairwise (Le key))(hl:∀p q,p∈b.toList->a[a.size-1]? = some q->Le key p q)
  {o:Array AY} {x y mg ac bc n:Nat} {za:AY} (sm:Sm st st') (ea:a[x]? = some za) (m4:MW key a b (o.push za) (x+1) y) (hx:x+1<a.size) (hy:y<b.size) (hn:n<=o.size):wpS (Bf prog w) A E s (wd a b o x y mg ac bc) (LoQ key a b st n) st':=by
 unfold wd
 refine AR (aQ ea ?_)
 by_cases d5:(x+1+1 == a.size)=true
 ·rw[if_pos d5]
  exact AZ (LoQ.out sm (m4.last ha hb (beq_iff_eq.mp d5) hl))
 rw[if_neg d5]
 have hx2:x+1+1<a.size:=ltq hx d5
 have hn':n<=(o.push za).size:=by rw[Dh];exact Eu hn
 split
 ·exact AZ ⟨sm,.inr ⟨_,_,_,_,_,_,rfl,m4,hx2,hy,hn'⟩⟩
 ·exact AZ ⟨sm,_,_,_,_,_,_,rfl,m4,hx2,hy,hn'⟩
theorem qr (C:Cmp prog w A s O key U κ){a b:Array AY}{st st':Bg}(hκ:kindOf st=κ)(ua:∀p∈a.toList,U p)(ub:∀p∈b.toList,U p)
  (ha:a.toList.Pairwise (Le key)) (hb:b.toList.Pairwise (Le key)) (hl:∀p q,p∈b.toList->a[a.size-1]? = some q->Le key p q)
  {o:Array AY} {x y mg ac bc n:Nat} {zb:AY} (sm:Sm st st') (eb:b[y]? = some zb) (mk:MW key a b o x y) (bl:∀t∈a.toList.drop x,Le key zb t) (hx1:x+1<a.size) (hy:y<b.size) (hn:n<=o.size):wpS (Bf prog w) A E s (we a b o x y mg ac bc) (LoQ key a b st n) st':=by
 unfold we
 refine AR (aQ eb ?_)
 have m2:=mk.k7 eb hb bl
 by_cases d3:(y+1 == b.size)=true
 ·rw[if_pos d3]
  exact AZ (LoQ.out sm (m2.rR ha (beq_iff_eq.mp d3)))
 rw[if_neg d3]
 have hy1:y+1<b.size:=ltq hy d3
 have hxa:x<a.size:=Fo hx1
 obtain ⟨za,ea⟩:=aT hxa
 refine AR (aQ ea ?_)
 refine AR (yF C (λi=>(b[y+1+i]?).getD za) (sm.k.trans hκ) (ua _ (bH ea)) (λi hi =>?_) (λi hi =>?_) (λi j hij hj =>?_) (Hr hy1) λk1 hk1 g1 g2 =>?_)
 ·obtain ⟨z,e⟩:=aT (show y+1+i<b.size by omega)
  rw[e];rfl
 ·obtain ⟨z,e⟩:=aT (show y+1+i<b.size by omega)
  rw[e];exact ub _ (bH e)
 ·obtain ⟨z,e⟩:=aT (show y+1+i<b.size by omega)
  obtain ⟨z',e'⟩:=aT (show y+1+j<b.size by omega)
  rw[e,e'];exact aB hb (aA e) (aA e') (DZ hij _)
 dsimp only at g1 g2 ⊢
 have tb:∀j q,j<k1->b.toList[y+1+j]? = some q->∀t∈a.toList.drop x,Le key q t:=λj q hj e t ht=>by
  have z:=g1 j hj
  rw[AJ] at e
  rw[e] at z
  obtain ⟨n,hn,e2⟩:=aO ht
  exact Bn (B0 z) (aB ha (aA ea) e2 hn)
 have hk1':y+1+k1<=b.size:=by omega
 have m3:=m2.uo (k:=k1) hk1' hb tb
 have bl2:∀t∈b.toList.drop (y+1+k1),Le key za t:=λt ht=>by
  obtain ⟨n,hn,e2⟩:=aO ht
  rw[AJ] at e2
  have hn2:n<b.size:=(Cy.mp e2).1
  have z:=g2 (n-(y+1)) (by omega) (by omega)
  rw[show y+1+(n-(y+1))=n by omega,e2] at z
  exact z
 have hn1:n<=(o.push zb).size:=by rw[Dh];exact Eu hn
 by_cases k2:k1>0
 ·rw[if_pos k2]
  by_cases d4:(y+1+k1 == b.size)=true
  ·rw[if_pos d4]
   exact AZ (LoQ.out sm (m3.rR ha (beq_iff_eq.mp d4)))
  rw[if_neg d4]
  exact qq ha hb hl sm ea (m3.iL ea ha bl2) hx1 (ltq hk1' d4) (A5 hn1 (by rw[DL];exact CL _ _))
 ·rw[if_neg k2]
  obtain rfl:k1=0:=Dw k2
  exact qq ha hb hl sm ea (m2.iL ea ha bl2) hx1 hy1 hn1
theorem qu (C:Cmp prog w A s O key U κ){a b:Array AY}{st st':Bg}(hκ:kindOf st=κ)(ua:∀p∈a.toList,U p)(ub:∀p∈b.toList,U p)
  (ha:a.toList.Pairwise (Le key)) (hb:b.toList.Pairwise (Le key)) (hl:∀p q,p∈b.toList->a[a.size-1]? = some q->Le key p q)
  {p:Array AY} {x y ac bc n:Nat} (mg:Nat) (sm:Sm st st') (m:MW key a b p x y) (hx:x+1<a.size) (hy:y<b.size) (hn:n<=p.size):wpS (Bf prog w) A E s (rV a b p x y ac bc mg) (LoQ key a b st n) st':=by
 unfold rV
 obtain ⟨zb,eb⟩:=aT hy
 refine AR (CU ?_)
 refine AR (aQ eb ?_)
 refine AR (yE C (λi=>(a[x+i]?).getD zb) ((sm.mg _).k.trans hκ) (ub _ (bH eb)) (λi hi =>?_) (λi hi =>?_) (λi j hij hj =>?_) (Hr (Fo hx)) λk hk h1 h2 =>?_)
 ·obtain ⟨z,e⟩:=aT (show x+i<a.size by omega)
  rw[e];rfl
 ·obtain ⟨z,e⟩:=aT (show x+i<a.size by omega)
  rw[e];exact ua _ (bH e)
 ·obtain ⟨z,e⟩:=aT (show x+i<a.size by omega)
  obtain ⟨z',e'⟩:=aT (show x+j<a.size by omega)
  rw[e,e'];exact aB ha (aA e) (aA e') (DZ hij _)
 dsimp only at h1 h2 ⊢
 have ta:∀j q,j<k->a.toList[x+j]? = some q->∀t∈b.toList.drop y,Le key q t:=λj q hj e t ht=>by
  have z:=h1 j hj
  rw[AJ] at e
  rw[e] at z
  obtain ⟨n,hn,e2⟩:=aO ht
  exact Bn (show O.kle (key q) (key zb) from z) (aB hb (aA eb) e2 hn)
 have hk':x+k<=a.size:=by omega
 have mk:=m.um (k:=k) hk' ha ta
 have bl:∀t∈a.toList.drop (x+k),Le key zb t:=λt ht=>by
  obtain ⟨n,hn,e2⟩:=aO ht
  rw[AJ] at e2
  have hn2:n<a.size:=(Cy.mp e2).1
  have z:=h2 (n-x) (by omega) (by omega)
  rw[show x+(n-x)=n by omega,e2] at z
  exact B0 z
 by_cases k0:k>0
 ·rw[if_pos k0]
  by_cases d1:(x+k+1 == a.size)=true
  ·rw[if_pos d1]
   exact AZ (LoQ.out (sm.mg _) (mk.last ha hb (beq_iff_eq.mp d1) hl))
  rw[if_neg d1]
  by_cases d2:(x+k == a.size)=true
  ·rw[if_pos d2]
   exact AZ (LoQ.out (sm.mg _) (mk.rT hb (beq_iff_eq.mp d2)))
  rw[if_neg d2]
  exact qr C hκ ua ub ha hb hl (sm.mg _) eb mk bl (ltq (ltq hk' d2) d1) hy (A5 hn (by rw[DL];exact CL _ _))
 ·rw[if_neg k0]
  obtain rfl:k=0:=Dw k0
  exact qr C hκ ua ub ha hb hl (sm.mg _) eb m bl hx hy hn
theorem wg (C:Cmp prog w A s O key U κ){a b:Array AY}{st st':Bg}(hκ:kindOf st=κ)(ua:∀p∈a.toList,U p)(ub:∀p∈b.toList,U p)
  (ha:a.toList.Pairwise (Le key)) (hb:b.toList.Pairwise (Le key)) (hl:∀p q,p∈b.toList->a[a.size-1]? = some q->Le key p q)
  {p:Array AY} {x y ac bc n mg:Nat} (sm:Sm st st') (m:MW key a b p x y) (hx:x+1<a.size) (hy:y<b.size) (hn:n<=p.size):wpS (Bf prog w) A E s (if mg>1 then rV a b p x y ac bc (mg-1) else rV a b p x y ac bc mg) (LoQ key a b st n) st':=by
 split
 ·exact qu C hκ ua ub ha hb hl (mg-1) sm m hx hy hn
 ·exact qu C hκ ua ub ha hb hl mg sm m hx hy hn
abbrev LoD:=Option (Array AY)×Array AY×Nat×Nat×Nat×Nat
abbrev LoE:=Option (Array AY)×Array AY×Nat×Nat×Nat
def uq (a b:Array AY)(mg:Nat)(c:LoD):StateT Bg Sem (ForInStep LoD):=do
  let u ← elem' b c.2.2.2.1
  let v ← elem' a c.2.2.1
  let __x ← lt' u v
  match __x with
  | some bw =>
    if bw=true then do
      let z ← elem' b c.2.2.2.1
      if (c.2.2.2.1+1 == b.size)=true then pure (.done (some (c.2.1.push z++a.extract c.2.2.1 a.size++b.extract (c.2.2.2.1+1) b.size),c.2.1.push z,c.2.2.1,c.2.2.2.1+1,0,c.2.2.2.2.2+1))
      else if c.2.2.2.2.2+1≥mg then pure (.done (none,c.2.1.push z,c.2.2.1,c.2.2.2.1+1,0,c.2.2.2.2.2+1))
      else pure (.yield (none,c.2.1.push z,c.2.2.1,c.2.2.2.1+1,0,c.2.2.2.2.2+1))
    else do
      let z ← elem' a c.2.2.1
      if (c.2.2.1+1+1 == a.size)=true then pure (.done (some (c.2.1.push z++b.extract c.2.2.2.1 b.size++a.extract (c.2.2.1+1) a.size),c.2.1.push z,c.2.2.1+1,c.2.2.2.1,c.2.2.2.2.1+1,0))
      else if c.2.2.2.2.1+1≥mg then pure (.done (none,c.2.1.push z,c.2.2.1+1,c.2.2.2.1,c.2.2.2.2.1+1,0))
      else pure (.yield (none,c.2.1.push z,c.2.2.1+1,c.2.2.2.1,c.2.2.2.2.1+1,0))
  | _=>pure (.done (some (c.2.1++a.extract c.2.2.1 a.size++b.extract c.2.2.2.1 b.size),c.2.1,c.2.2.1,c.2.2.2.1,c.2.2.2.2.1,c.2.2.2.2.2))
def yG (a b:Array AY)(c:LoC):StateT Bg Sem (ForInStep LoC) :=
 if c.2.2.2.2.1>1 then rV a b c.2.1 c.2.2.1 c.2.2.2.1 c.2.2.2.2.2.1 c.2.2.2.2.2.2 (c.2.2.2.2.1-1) else rV a b c.2.1 c.2.2.1 c.2.2.2.1 c.2.2.2.2.2.1 c.2.2.2.2.2.2 c.2.2.2.2.1
def pf (a b:Array AY)(c:LoE):StateT Bg Sem (ForInStep LoE):=do
  let d ← forIn [0:a.size+b.size] ((none,c.2.1,c.2.2.1,c.2.2.2.1,0,0):LoD) λ_ d=>uq a b c.2.2.2.2 d
  match d.1 with
  | some r=>pure (.done (some r,d.2.1,d.2.2.1,d.2.2.2.1,c.2.2.2.2))
  | none=>do
    rule "list.sort.gallop"
    let e ← forIn [0:a.size+b.size] ((none,d.2.1,d.2.2.1,d.2.2.2.1,c.2.2.2.2+1,d.2.2.2.2.1,d.2.2.2.2.2):LoC) λ_ e=>yG a b e
    match e.1 with
    | some r=>pure (.done (some r,e.2.1,e.2.2.1,e.2.2.2.1,e.2.2.2.2.1))
    | none=>do
      modify (λs=>SortSt.mk' (kindOf s) (A2 s) (Bc s) (e.2.2.2.2.1+1) (failedOf s))
      pure (.yield (none,e.2.1,e.2.2.1,e.2.2.2.1,e.2.2.2.2.1+1))
theorem wj (a b:Array AY):mLo a b=(do
    rule "list.sort.merge-lo"
    let z ← elem' b 0
    if (1 == b.size)=true then pure (#[z]++a.extract 0 a.size++b.extract 1 b.size)
    else if (0+1 == a.size)=true then pure (#[z]++b.extract 1 b.size++a.extract 0 a.size)
    else do
      let g ← get
      let c ← forIn [0:a.size+b.size] ((none, #[z],0,1,gallopOf g):LoE) λ_ c=>pf a b c
      match c.1 with
      | some r=>pure r
      | none=>unsupported "internal:list.sort.merge-bound"):=by
  kernel_rfl
def LdI (key:AY->O.α)(a b:Array AY)(st:Bg)(n:Nat)(c:LoD)(st':Bg):Prop:=Sm st st'/\∃o' x y ac bc,c=(none,o',x,y,ac,bc)/\MW key a b o' x y/\x+1<a.size/\y<b.size/\n<=o'.size
def LdQ (key:AY->O.α)(a b:Array AY)(st:Bg)(n:Nat)(c:LoD)(st':Bg):Prop:=Sm st st'/\((∃r o x y ac bc,c=(some r,o,x,y,ac,bc)/\dy key a b r)\/∃o' x y ac bc,c=(none,o',x,y,ac,bc)/\MW key a b o' x y/\x+1<a.size/\y<b.size/\n<=o'.size)
theorem ur (C:Cmp prog w A s O key U κ){a b:Array AY}{st st':Bg}(hκ:kindOf st=κ)(ua:∀p∈a.toList,U p)(ub:∀p∈b.toList,U p)
  (ha:a.toList.Pairwise (Le key)) (hb:b.toList.Pairwise (Le key)) (hl:∀p q,p∈b.toList->a[a.size-1]? = some q->Le key p q)
  {mg n m':Nat} {c:LoD} (I:LdI key a b st n c st') (hm:m'<=n+1) {Q:ForInStep LoD->Bg->Prop} (h:∀r st',(match r with | .done c'=>LdQ key a b st (n+1) c' st' | .yield c'=>LdI key a b st m' c' st')->Q r st'):wpS (Bf prog w) A E s (uq a b mg c) Q st':=by
 obtain ⟨sm2,o',x,y,ac,bc,rfl,m,hx,hy,hz⟩:=I
 unfold uq
 obtain ⟨za,ea⟩:=aT (Fo hx)
 obtain ⟨zb,eb⟩:=aT hy
 refine AR (aQ eb (AR (aQ ea (AR (C.lt _ st' zb za _ (sm2.k.trans hκ) (ub _ (bH eb)) (ua _ (bH ea)) ?_)))))
 dsimp only
 have sz:∀z,n+1<=(o'.push z).size:=λz=>by rw[Dh];exact FO hz
 cases hlt:O.blt (key zb) (key za) with
 | true =>
  rw[if_pos rfl]
  refine AR (aQ eb ?_)
  have m1:=m.k7 eb hb λt ht=>by
   obtain ⟨n,hn,e⟩:=aO ht
   exact Bn (B0 hlt) (aB ha (aA ea) e hn)
  by_cases c3:(y+1 == b.size)=true
  ·rw[if_pos c3]
   exact AZ (h _ _ ⟨sm2,.inl ⟨_,_,_,_,_,_,rfl,m1.rR ha (beq_iff_eq.mp c3)⟩⟩)
  ·rw[if_neg c3]
   have c3':=ltq hy c3
   split
   ·exact AZ (h _ _ ⟨sm2,.inr ⟨_,_,_,_,_,rfl,m1,hx,c3',sz _⟩⟩)
   ·exact AZ (h _ _ ⟨sm2,_,_,_,_,_,rfl,m1,hx,c3',A5 hm (sz _)⟩)
 | false =>
  rw[if_neg AV]
  refine AR (aQ ea ?_)
  have m1:=m.iL ea ha λt ht=>by
   obtain ⟨n,hn,e⟩:=aO ht
   exact Bn (show O.kle (key za) (key zb) from hlt) (aB hb (aA eb) e hn)
  by_cases c3:(x+1+1 == a.size)=true
  ·rw[if_pos c3]
   exact AZ (h _ _ ⟨sm2,.inl ⟨_,_,_,_,_,_,rfl,m1.last ha hb (beq_iff_eq.mp c3) hl⟩⟩)
  ·rw[if_neg c3]
   have c3':=ltq hx c3
   split
   ·exact AZ (h _ _ ⟨sm2,.inr ⟨_,_,_,_,_,rfl,m1,c3',hy,sz _⟩⟩)
   ·exact AZ (h _ _ ⟨sm2,_,_,_,_,_,rfl,m1,c3',hy,A5 hm (sz _)⟩)
def LeI (key:AY->O.α)(a b:Array AY)(st:Bg)(n:Nat)(c:LoE)(st':Bg):Prop:=Sm st st'/\∃o x y mg,c=(none,o,x,y,mg)/\MW key a b o x y/\x+1<a.size/\y<b.size/\n+1<=o.size
def LeQ (key:AY->O.α)(a b:Array AY)(st:Bg)(c:LoE)(st':Bg):Prop:=Sm st st'/\((∃r o x y mg,c=(some r,o,x,y,mg)/\dy key a b r)\/∃o x y mg,c=(none,o,x,y,mg)/\MW key a b o x y/\x+1<a.size/\y<b.size/\a.size+b.size+1<=o.size)
theorem rW (C:Cmp prog w A s O key U κ){a b:Array AY}{st st':Bg}(hκ:kindOf st=κ)(ua:∀p∈a.toList,U p)(ub:∀p∈b.toList,U p)
  (ha:a.toList.Pairwise (Le key)) (hb:b.toList.Pairwise (Le key)) (na:0<a.size) (hl:∀p q,p∈b.toList->a[a.size-1]? = some q->Le key p q)
  {n:Nat} {c:LoE} (I:LeI key a b st n c st'):wpS (Bf prog w) A E s (pf a b c) (λr st'=>match r with | .done c'=>LeQ key a b st c' st' | .yield c'=>LeI key a b st (n+1) c' st') st':=by
 obtain ⟨sm1,o,x,y,mg,rfl,m,hx,hy,hz⟩:=I
 unfold pf
 have q1:1<=a.size+b.size:=A5 na (CL _ _)
 refine AR (CF (BS (I:=λj c st'=>LdI key a b st (o.size+min j 1) c st') (Q:=LdQ key a b st (o.size+1)) (λj c st2 _ hj J=>ur (n:=o.size+min j 1) (m':=o.size+min (j+1) 1) C hκ ua ub ha hb hl J (by omega) λr st' k =>?_) (λc st' J =>?_) ⟨sm1,o,x,y,0,0,rfl,m,hx,hy,AE _⟩) ?_)
 ·cases r with
  | done c'=>exact k.imp id λz=>z.imp id λ⟨o',x,y,ac,bc,e,m,hx,hy,hz⟩=>⟨o',x,y,ac,bc,e,m,hx,hy,by omega⟩
  | yield c'=>exact k
 ·obtain ⟨sm,o',x,y,ac,bc,e,m,hx,hy,hz⟩:=J
  exact ⟨sm,.inr ⟨o',x,y,ac,bc,e,m,hx,hy,by omega⟩⟩
 rintro c st2 ⟨sm2,⟨r,o',x,y,ac,bc,rfl,fr⟩ | ⟨o',x,y,ac,bc,rfl,m,hx,hy,hz2⟩⟩
 ·exact AZ ⟨sm2,.inl ⟨_,_,_,_,_,rfl,fr⟩⟩
 dsimp only
 refine AR (Gv (Du ⟨rfl,?_⟩))
 refine AR (CF (BS (I:=λ_ c st'=>LoQ key a b st o'.size (.yield c) st') (Q:=λc st'=>LoQ key a b st o'.size (.done c) st') (λj c st3 _ hj J =>?_) (λc st' J=>⟨J.1,.inr J.2⟩) ⟨sm2,o',x,y,_,ac,bc,rfl,m,hx,hy,AE _⟩) ?_)
 ·obtain ⟨sm3,p,x,y,mg,ac,bc,rfl,m,hx,hy,hz3⟩:=J
  refine CF (wg C hκ ua ub ha hb hl sm3 m hx hy hz3) ?_
  intro r st' h
  cases r <;> exact h
 rintro c st3 ⟨sm3,⟨r,p,x,y,mg,ac,bc,rfl,fr⟩ | ⟨p,x,y,mg,ac,bc,rfl,m,hx,hy,hz3⟩⟩
 ·exact AZ ⟨sm3,.inl ⟨_,_,_,_,_,rfl,fr⟩⟩
 ·dsimp only
  exact AR (CU (AZ ⟨sm3.mg _,p,x,y,_,rfl,m,hx,hy,by omega⟩))
theorem yH (C:Cmp prog w A s O key U κ){a b:Array AY}{st:Bg}{Q:Array AY->Bg->Prop}(hκ:kindOf st=κ)(ua:∀p∈a.toList,U p)(ub:∀p∈b.toList,U p)
  (ha:a.toList.Pairwise (Le key)) (hb:b.toList.Pairwise (Le key)) (na:0<a.size) (nb:0<b.size) (h0:∀p q,b[0]? = some p->a[0]? = some q->Le key p q) (hl:∀p q,p∈b.toList->a[a.size-1]? = some q->Le key p q)
  (h:∀r st',Sm st st'->dy key a b r->Q r st'):wpS (Bf prog w) A E s (mLo a b) Q st:=by
 rw[wj]
 refine AR (Gv (Du ⟨rfl,?_⟩))
 obtain ⟨b0,eb0⟩:=aT nb
 obtain ⟨a0,ea0⟩:=aT na
 have a0le:∀t∈a.toList,Le key a0 t:=λt ht=>by
  obtain ⟨i,e⟩:=Bw.mp ht
  exact aB ha (aA ea0) e (Bl _)
 have m0:MW key a b #[] 0 0:=⟨Bl _,Bl _,Dc _,List.Pairwise.nil,λp hp=>by cases hp⟩
 have m1:MW key a b #[b0] 0 1:=m0.k7 eb0 hb λt ht=>Bn (h0 _ _ eb0 ea0) (a0le t ht)
 refine AR (aQ eb0 ?_)
 by_cases c1:(1 == b.size)=true
 ·rw[if_pos c1]
  exact AZ (h _ st (Sm.refl st) (m1.rR ha (beq_iff_eq.mp c1)))
 rw[if_neg c1]
 by_cases c2:(0+1 == a.size)=true
 ·rw[if_pos c2]
  exact AZ (h _ st (Sm.refl st) (m1.last ha hb (beq_iff_eq.mp c2) hl))
 rw[if_neg c2]
 refine AR (FJ ?_)
 refine AR (CF (BS (I:=λi c st'=>LeI key a b st i c st') (Q:=LeQ key a b st) (λi c st1 _ _ J=>CF (rW C hκ ua ub ha hb na hl J) λr st' h=>by cases r <;> exact h) (λc st' J =>?_) ⟨Sm.refl st,_,_,_,_,rfl,m1,ltq na c2,ltq nb c1,AE _⟩) ?_)
 ·obtain ⟨sm,o,x,y,mg,e,m,hx,hy,hz⟩:=J
  exact ⟨sm,.inr ⟨o,x,y,mg,e,m,hx,hy,by omega⟩⟩
 rintro c st' ⟨sm,⟨r,o,x,y,mg,rfl,fr⟩ | ⟨o,x,y,mg,rfl,m,hx,hy,hz⟩⟩
 ·exact AZ (h r st' sm fr)
 ·have:=m.size
  omega
end
open PySem PyProof.Rows
section
variable  {O:EK}(key:AY->O.α)
structure MV (a b o:Array AY)(x y:Nat):Prop where
 hx:x<=a.size
 hy:y<=b.size
 perm:((a.toList.take x++b.toList.take y)++o.toList.reverse).Perm (a.toList++b.toList)
 sorted:o.toList.reverse.Pairwise (Le key)
 above:∀p∈a.toList.take x++b.toList.take y,∀q∈o.toList.reverse,Le key p q
variable  {key}
theorem MV.fin {a b o:Array AY}{x y:Nat}(m:MV key a b o x y){t:List AY}{r:Array AY}(hr:r.toList=t++o.toList.reverse)(ht:t.Perm (a.toList.take x++b.toList.take y))(hs:t.Pairwise (Le key)):dy key a b r:=by
 unfold dy
 rw[hr]
 exact ⟨(CA _ ht).trans m.perm,B1.mpr ⟨hs,m.sorted,λp hp q hq=>m.above p (ht.mem_iff.mp hp) q hq⟩⟩
theorem MV.take {a b o:Array AY}{x y x' y':Nat}(m:MV key a b o x y){t:List AY}{r:Array AY}(hr:r.toList.reverse=t++o.toList.reverse)(hx:x'<=a.size)(hy:y'<=b.size)
  (ht:((a.toList.take x'++b.toList.take y')++t).Perm (a.toList.take x++b.toList.take y)) (hs:t.Pairwise (Le key)) (hb:∀p∈a.toList.take x'++b.toList.take y',∀q∈t,Le key p q):MV key a b r x' y':=by
 have sub:∀z,z∈a.toList.take x'++b.toList.take y'\/z∈t->z∈a.toList.take x++b.toList.take y:=λz hz=>ht.mem_iff.mp (AI.mpr hz)
 refine ⟨hx,hy,?_,?_,?_⟩
 ·rw[hr, <- A4]
  exact (CA _ ht).trans m.perm
 ·rw[hr]
  exact B1.mpr ⟨hs,m.sorted,λp hp q hq=>m.above p (sub p (.inr hp)) q hq⟩
 ·rw[hr]
  intro p hp z hz
  rcases AI.mp hz with h | h
  ·exact hb p hp z h
  ·exact m.above p (sub p (.inl hp)) z h
theorem aU {l:List AY}{k:Nat}{t:AY}(h:t∈l.take k):∃j,j<k/\l[j]? = some t:=by
 obtain ⟨n,e⟩:=Bw.mp h
 rw[Cq] at e
 split at e
 ·exact ⟨n,by omega,e⟩
 ·cases e
theorem k8 {l:List AY}{x:Nat}{z:AY}(hx:1<=x)(h:l[x-1]? = some z):l.take x=l.take (x-1)++[z]:=by
 obtain ⟨n,rfl⟩:∃n,x=n+1:=⟨x-1,by omega⟩
 rw[Nat.add_sub_cancel] at h ⊢
 rw[CS,h]
 rfl
theorem qv (a:Array AY)(c x:Nat)(hx:x<=a.size):(a.extract c x).toList=(a.toList.take x).drop c:=by
 rw[CM,Cj,List.drop_take]
theorem fF (a:Array AY)(x:Nat):(a.extract 0 x).toList=a.toList.take x:=by
 rw[CM,Cj,Ew,F8]
theorem MV.iL {a b o:Array AY}{x y:Nat}{z:AY}(m:MV key a b o x y)(h1:1<=x)(h:a[x-1]? = some z)(ha:a.toList.Pairwise (Le key))(hb:∀t∈b.toList.take y,Le key t z):MV key a b (o.push z) (x-1) y:=by
 have e:=k8 h1 (aA h)
 refine m.take (t:=[z]) (by rw[CB,D1];rfl) (by have:=m.hx;omega) m.hy ?_ (CO _ _) λp hp q hq =>?_
 ·rw[e,A4,A4]
  exact B7 _ C8
 ·have eq:q=z:=by simpa using hq
  subst eq
  rcases AI.mp hp with r | r
  ·obtain ⟨j,hj,e2⟩:=aU r
   exact aB ha e2 (aA h) (by omega)
  ·exact hb p r
theorem MV.k7 {a b o:Array AY}{x y:Nat}{z:AY}(m:MV key a b o x y)(h1:1<=y)(h:b[y-1]? = some z)(hb:b.toList.Pairwise (Le key))(ha:∀t∈a.toList.take x,Le key t z):MV key a b (o.push z) x (y-1):=by
 have e:=k8 h1 (aA h)
 refine m.take (t:=[z]) (by rw[CB,D1];rfl) m.hx (by have:=m.hy;omega) ?_ (CO _ _) λp hp q hq =>?_
 ·rw[e,A4]
 ·have eq:q=z:=by simpa using hq
  subst eq
  rcases AI.mp hp with r | r
  ·exact ha p r
  ·obtain ⟨j,hj,e2⟩:=aU r
   exact aB hb e2 (aA h) (by omega)
theorem qw (l:List AY){c x:Nat}(h:c<=x):l.take x=l.take c++(l.take x).drop c:=by
 have e:(l.take x).take c=l.take c:=by rw[List.take_take,Nat.min_eq_left h]
 rw[<- e,CG]
theorem jB {l:List AY}{c x:Nat}{t:AY}(h:t∈(l.take x).drop c):∃j,c<=j/\j<x/\l[j]? = some t:=by
 obtain ⟨j,hj,e⟩:=aO h
 rw[Cq] at e
 split at e
 ·exact ⟨j,hj,by omega,e⟩
 ·cases e
theorem MV.um {a b o:Array AY}{x y c:Nat}(m:MV key a b o x y)(hc:c<=x)(ha:a.toList.Pairwise (Le key))(hb:∀j p,c<=j->j<x->a.toList[j]? = some p->∀t∈b.toList.take y,Le key t p):MV key a b (o++(a.extract c x).reverse) c y:=by
 refine m.take (t:=(a.toList.take x).drop c) (by rw[Bp,D1,Df,Gy,qv _ _ _ m.hx]) (A5 hc m.hx) m.hy ?_ ?_ λp hp q hq =>?_
 ·refine List.Perm.trans ?_ (CA _ (List.Perm.of_eq (qw a.toList hc).symm))
  rw[A4,A4]
  exact B7 _ C8
 ·exact ha.sublist ((BR _ _).trans (BZ _ _))
 ·obtain ⟨j,h1,h2,e⟩:=jB hq
  rcases AI.mp hp with r | r
  ·obtain ⟨i,hi,e2⟩:=aU r
   exact aB ha e2 e (by omega)
  ·exact hb j q h1 h2 e p r
theorem MV.uo {a b o:Array AY}{x y c:Nat}(m:MV key a b o x y)(hc:c<=y)(hb:b.toList.Pairwise (Le key))(ha:∀j p,c<=j->j<y->b.toList[j]? = some p->∀t∈a.toList.take x,Le key t p):MV key a b (o++(b.extract c y).reverse) x c:=by
 refine m.take (t:=(b.toList.take y).drop c) (by rw[Bp,D1,Df,Gy,qv _ _ _ m.hy]) m.hx (A5 hc m.hy) ?_ ?_ λp hp q hq =>?_
 ·rw[A4, <- qw b.toList hc]
 ·exact hb.sublist ((BR _ _).trans (BZ _ _))
 ·obtain ⟨j,h1,h2,e⟩:=jB hq
  rcases AI.mp hp with r | r
  ·exact ha j q h1 h2 e p r
  ·obtain ⟨i,hi,e2⟩:=aU r
   exact aB hb e2 e (by omega)
theorem MV.rT {a b o:Array AY}{x y:Nat}(m:MV key a b o x y)(hb:b.toList.Pairwise (Le key))(hx:x=0):dy key a b (a.extract 0 x++b.extract 0 y++o.reverse):=by
 subst hx
 refine m.fin (t:=b.toList.take y) (by rw[Bp,Bp,fF,fF,Df,Fe,Dg]) (by rw[Fe,Dg]) (hb.sublist (BZ _ _))
theorem MV.rR {a b o:Array AY}{x y:Nat}(m:MV key a b o x y)(ha:a.toList.Pairwise (Le key))(hy:y=0):dy key a b (a.extract 0 x++b.extract 0 y++o.reverse):=by
 subst hy
 refine m.fin (t:=a.toList.take x) (by rw[Bp,Bp,fF,fF,Df,Fe,Bj]) (by rw[Fe,Bj]) (ha.sublist (BZ _ _))
theorem MV.first {a b o:Array AY}{x y:Nat}(m:MV key a b o x y)(ha:a.toList.Pairwise (Le key))(hb:b.toList.Pairwise (Le key))(hy:y=1)(hl:∀p q,b[0]? = some p->q∈a.toList->Le key p q):dy key a b (b.extract 0 y++a.extract 0 x++o.reverse):=by
 refine m.fin (t:=b.toList.take y++a.toList.take x) (by rw[Bp,Bp,fF,fF,Df]) C8 ?_
 refine B1.mpr ⟨hb.sublist (BZ _ _),ha.sublist (BZ _ _),λp hp q hq=>hl p q ?_ (Ct hq)⟩
 obtain ⟨i,hi,e⟩:=aU hp
 rw[AJ] at e
 rw[show i=0 by omega] at e
 exact e
theorem MV.size {a b o:Array AY}{x y:Nat}(m:MV key a b o x y):o.size+x+y=a.size+b.size:=by
 have e:=m.perm.length_eq
 have h1:=m.hx
 have h2:=m.hy
 simp only[As,Bz,AF,Dp] at e
 omega
end
open PySem PyProof.Rows
section
variable  {prog:AN}{w:Bh}{A:BA}{E:Au->Ax->Prop}{s:Ax}{O:EK}{key:AY->O.α}{U:AY->Prop}{κ:SortKind}
abbrev HiC:=Option (Array AY)×Nat×Nat×Array AY×Nat×Nat×Nat
def wk (a b:Array AY)(x y:Nat)(o:Array AY)(mg ac bc:Nat):StateT Bg Sem (ForInStep HiC):=do
  let z ← elem' a (x-1)
  if (x-1 == 0)=true then pure (.done (some (a.extract 0 (x-1)++b.extract 0 y++(o.push z).reverse),x-1,y,o.push z,mg,ac,bc))
  else if (decide (ac<7) && decide (bc<7))=true then pure (.done (none,x-1,y,o.push z,mg,ac,bc))
  else pure (.yield (none,x-1,y,o.push z,mg,ac,bc))
def wm (a b:Array AY)(x y:Nat)(o:Array AY)(mg ac bc:Nat):StateT Bg Sem (ForInStep HiC):=do
  let z ← elem' b (y-1)
  if (y-1 == 1)=true then pure (.done (some (b.extract 0 (y-1)++a.extract 0 x++(o.push z).reverse),x,y-1,o.push z,mg,ac,bc))
  else do
    let z2 ← elem' a (x-1)
    let __x ← gal true z2 b 0 (y-1) (y-1-1)
    match __x with
    | some c =>
      if y-1-c>0 then
        if (c == 1)=true then pure (.done (some (b.extract 0 c++a.extract 0 x++(o.push z++(b.extract c (y-1)).reverse).reverse),x,c,o.push z++(b.extract c (y-1)).reverse,mg,ac,y-1-c))
        else if (c == 0)=true then pure (.done (some (a.extract 0 x++b.extract 0 c++(o.push z++(b.extract c (y-1)).reverse).reverse),x,c,o.push z++(b.extract c (y-1)).reverse,mg,ac,y-1-c))
        else wk a b x c (o.push z++(b.extract c (y-1)).reverse) mg ac (y-1-c)
      else wk a b x (y-1) (o.push z) mg ac (y-1-c)
    | _=>pure (.done (some (a.extract 0 x++b.extract 0 (y-1)++(o.push z).reverse),x,y-1,o.push z,mg,ac,bc))
def rX (a b:Array AY)(x y:Nat)(p:Array AY)(ac bc mg:Nat):StateT Bg Sem (ForInStep HiC):=do
  modify (λs=>SortSt.mk' (kindOf s) (A2 s) (Bc s) mg (failedOf s))
  let z ← elem' b (y-1)
  let __x ← gal false z a 0 x (x-1)
  match __x with
  | some c =>
    if x-c>0 then
      if (c == 0)=true then pure (.done (some (a.extract 0 c++b.extract 0 y++(p++(a.extract c x).reverse).reverse),c,y,p++(a.extract c x).reverse,mg,x-c,bc))
      else wm a b c y (p++(a.extract c x).reverse) mg (x-c) bc
    else wm a b x y p mg (x-c) bc
  | _=>pure (.done (some (a.extract 0 x++b.extract 0 y++p.reverse),x,y,p,mg,ac,bc))
def HiQ (key:AY->O.α)(a b:Array AY)(st:Bg)(n:Nat)(r:ForInStep HiC)(st':Bg):Prop:=match r with
 | .done c=>Sm st st'/\((∃r x y p mg ac bc,c=(some r,x,y,p,mg,ac,bc)/\dy key a b r)\/∃x y p mg ac bc,c=(none,x,y,p,mg,ac,bc)/\MV key a b p x y/\1<=x/\2<=y/\n<=p.size)
 | .yield c=>Sm st st'/\∃x y p mg ac bc,c=(none,x,y,p,mg,ac,bc)/\MV key a b p x y/\1<=x/\2<=y/\n<=p.size
theorem HiQ.out {a b:Array AY}{st st':Bg}{n:Nat}{r:Array AY}{c:Nat×Nat×Array AY×Nat×Nat×Nat}(sm:Sm st st')(f:dy key a b r):HiQ key a b st n (.done (some r,c)) st':=by
 obtain ⟨p,x,y,mg,ac,bc⟩:=c
 exact ⟨sm,.inl ⟨_,_,_,_,_,_,_,rfl,f⟩⟩
theorem uv {x:Nat}(c:¬ (x == 0)=true):1<=x:=Nat.pos_of_ne_zero λz=>c (beq_iff_eq.mpr z)
theorem wo {y:Nat}(h:1<=y)(c:¬ (y == 1)=true):2<=y:=G2 h λz=>c (beq_iff_eq.mpr z.symm)
theorem qx {a b:Array AY}{st st':Bg}(hb:b.toList.Pairwise (Le key))
  {o:Array AY} {x y mg ac bc n:Nat} {za:AY} (sm:Sm st st') (ea:a[x-1]? = some za) (m4:MV key a b (o.push za) (x-1) y) (hy:2<=y) (hn:n<=o.size):wpS (Bf prog w) A E s (wk a b x y o mg ac bc) (HiQ key a b st n) st':=by
 unfold wk
 refine AR (aQ ea ?_)
 by_cases d5:(x-1 == 0)=true
 ·rw[if_pos d5]
  exact AZ (HiQ.out sm (m4.rT hb (beq_iff_eq.mp d5)))
 rw[if_neg d5]
 have hx2:=uv d5
 have hn':n<=(o.push za).size:=by rw[Dh];exact Eu hn
 split
 ·exact AZ ⟨sm,.inr ⟨_,_,_,_,_,_,rfl,m4,hx2,hy,hn'⟩⟩
 ·exact AZ ⟨sm,_,_,_,_,_,_,rfl,m4,hx2,hy,hn'⟩
theorem qy (C:Cmp prog w A s O key U κ){a b:Array AY}{st st':Bg}(hκ:kindOf st=κ)(ua:∀p∈a.toList,U p)(ub:∀p∈b.toList,U p)
  (ha:a.toList.Pairwise (Le key)) (hb:b.toList.Pairwise (Le key)) (h0:∀p q,b[0]? = some p->q∈a.toList->Le key p q)
  {o:Array AY} {x y mg ac bc n:Nat} {zb:AY} (sm:Sm st st') (eb:b[y-1]? = some zb) (mk:MV key a b o x y) (bl:∀t∈a.toList.take x,Le key t zb) (hx1:1<=x) (hy:2<=y) (hn:n<=o.size):wpS (Bf prog w) A E s (wm a b x y o mg ac bc) (HiQ key a b st n) st':=by
 unfold wm
 refine AR (aQ eb ?_)
 have m2:=mk.k7 (Ht hy) eb hb bl
 have y1:1<=y-1:=CN hy
 have bx1:=mk.hx
 have by1:=mk.hy
 by_cases d3:(y-1 == 1)=true
 ·rw[if_pos d3]
  exact AZ (HiQ.out sm (m2.first ha hb (beq_iff_eq.mp d3) h0))
 rw[if_neg d3]
 have hy1:=wo y1 d3
 obtain ⟨za,ea⟩:=aT (show x-1<a.size by omega)
 refine AR (aQ ea ?_)
 refine AR (yF C (λi=>(b[i]?).getD za) (sm.k.trans hκ) (ua _ (bH ea)) (λi hi =>?_) (λi hi =>?_) (λi j hij hj =>?_) (EJ y1) λc2 hc2 g1 g2 =>?_)
 ·obtain ⟨z,e⟩:=aT (show i<b.size by omega)
  rw[CH,e];rfl
 ·obtain ⟨z,e⟩:=aT (show i<b.size by omega)
  rw[e];exact ub _ (bH e)
 ·obtain ⟨z,e⟩:=aT (show i<b.size by omega)
  obtain ⟨z',e'⟩:=aT (show j<b.size by omega)
  rw[e,e'];exact aB hb (aA e) (aA e') hij
 dsimp only at g1 g2 ⊢
 have tb:∀j q,c2<=j->j<y-1->b.toList[j]? = some q->∀t∈a.toList.take x,Le key t q:=λj q hj hj2 e t ht=>by
  have z:=g2 j hj hj2
  rw[AJ] at e
  rw[e] at z
  obtain ⟨n,hn,e2⟩:=aU ht
  exact Bn (aB ha e2 (aA ea) (CN hn)) z
 have m3:=m2.uo hc2 hb tb
 have bl2:∀t∈b.toList.take c2,Le key t za:=λt ht=>by
  obtain ⟨n,hn,e2⟩:=aU ht
  rw[AJ] at e2
  have z:=g1 n hn
  rw[e2] at z
  exact B0 z
 have hn1:n<=(o.push zb).size:=by rw[Dh];exact Eu hn
 by_cases k2:y-1-c2>0
 ·rw[if_pos k2]
  by_cases d4:(c2 == 1)=true
  ·rw[if_pos d4]
   exact AZ (HiQ.out sm (m3.first ha hb (beq_iff_eq.mp d4) h0))
  rw[if_neg d4]
  by_cases d6:(c2 == 0)=true
  ·rw[if_pos d6]
   exact AZ (HiQ.out sm (m3.rR ha (beq_iff_eq.mp d6)))
  rw[if_neg d6]
  exact qx hb sm ea (m3.iL hx1 ea ha bl2) (wo (uv d6) d4) (A5 hn1 (by rw[DL];exact CL _ _))
 ·rw[if_neg k2]
  have ec2:c2=y-1:=Eh hc2 (Ga (Dw k2))
  rw[ec2] at bl2
  exact qx hb sm ea (m2.iL hx1 ea ha bl2) hy1 hn1
theorem qz (C:Cmp prog w A s O key U κ){a b:Array AY}{st st':Bg}(hκ:kindOf st=κ)(ua:∀p∈a.toList,U p)(ub:∀p∈b.toList,U p)
  (ha:a.toList.Pairwise (Le key)) (hb:b.toList.Pairwise (Le key)) (h0:∀p q,b[0]? = some p->q∈a.toList->Le key p q)
  {p:Array AY} {x y ac bc n:Nat} (mg:Nat) (sm:Sm st st') (m:MV key a b p x y) (hx:1<=x) (hy:2<=y) (hn:n<=p.size):wpS (Bf prog w) A E s (rX a b x y p ac bc mg) (HiQ key a b st n) st':=by
 unfold rX
 have bx:=m.hx
 have by':=m.hy
 obtain ⟨zb,eb⟩:=aT (show y-1<b.size by omega)
 refine AR (CU ?_)
 refine AR (aQ eb ?_)
 refine AR (yE C (λi=>(a[i]?).getD zb) ((sm.mg _).k.trans hκ) (ub _ (bH eb)) (λi hi =>?_) (λi hi =>?_) (λi j hij hj =>?_) (EJ hx) λc hc h1 h2 =>?_)
 ·obtain ⟨z,e⟩:=aT (AO hi bx)
  rw[CH,e];rfl
 ·obtain ⟨z,e⟩:=aT (AO hi bx)
  rw[e];exact ua _ (bH e)
 ·obtain ⟨z,e⟩:=aT (show i<a.size by omega)
  obtain ⟨z',e'⟩:=aT (show j<a.size by omega)
  rw[e,e'];exact aB ha (aA e) (aA e') hij
 dsimp only at h1 h2 ⊢
 have ta:∀j q,c<=j->j<x->a.toList[j]? = some q->∀t∈b.toList.take y,Le key t q:=λj q hj hj2 e t ht=>by
  have z:=h2 j hj hj2
  rw[AJ] at e
  rw[e] at z
  obtain ⟨n,hn,e2⟩:=aU ht
  exact Bn (aB hb e2 (aA eb) (CN hn)) (B0 z)
 have mk:=m.um hc ha ta
 have bl:∀t∈a.toList.take c,Le key t zb:=λt ht=>by
  obtain ⟨n,hn,e2⟩:=aU ht
  rw[AJ] at e2
  have z:=h1 n hn
  rw[e2] at z
  exact z
 by_cases k0:x-c>0
 ·rw[if_pos k0]
  by_cases d1:(c == 0)=true
  ·rw[if_pos d1]
   exact AZ (HiQ.out (sm.mg _) (mk.rT hb (beq_iff_eq.mp d1)))
  rw[if_neg d1]
  exact qy C hκ ua ub ha hb h0 (sm.mg _) eb mk bl (uv d1) hy (A5 hn (by rw[DL];exact CL _ _))
 ·rw[if_neg k0]
  have ec:c=x:=Eh hc (Ga (Dw k0))
  rw[ec] at bl
  exact qy C hκ ua ub ha hb h0 (sm.mg _) eb m bl hx hy hn
theorem wq (C:Cmp prog w A s O key U κ){a b:Array AY}{st st':Bg}(hκ:kindOf st=κ)(ua:∀p∈a.toList,U p)(ub:∀p∈b.toList,U p)
  (ha:a.toList.Pairwise (Le key)) (hb:b.toList.Pairwise (Le key)) (h0:∀p q,b[0]? = some p->q∈a.toList->Le key p q)
  {p:Array AY} {x y ac bc n mg:Nat} (sm:Sm st st') (m:MV key a b p x y) (hx:1<=x) (hy:2<=y) (hn:n<=p.size):wpS (Bf prog w) A E s (if mg>1 then rX a b x y p ac bc (mg-1) else rX a b x y p ac bc mg) (HiQ key a b st n) st':=by
 split
 ·exact qz C hκ ua ub ha hb h0 (mg-1) sm m hx hy hn
 ·exact qz C hκ ua ub ha hb h0 mg sm m hx hy hn
abbrev HiD:=Option (Array AY)×Nat×Nat×Array AY×Nat×Nat
abbrev HiE:=Option (Array AY)×Nat×Nat×Array AY×Nat
def uw (a b:Array AY)(mg:Nat)(c:HiD):StateT Bg Sem (ForInStep HiD):=do
  let u ← elem' b (c.2.2.1-1)
  let v ← elem' a (c.2.1-1)
  let __x ← lt' u v
  match __x with
  | some aw =>
    if aw=true then do
      let z ← elem' a (c.2.1-1)
      if (c.2.1-1 == 0)=true then pure (.done (some (a.extract 0 (c.2.1-1)++b.extract 0 c.2.2.1++(c.2.2.2.1.push z).reverse),c.2.1-1,c.2.2.1,c.2.2.2.1.push z,c.2.2.2.2.1+1,0))
      else if c.2.2.2.2.1+1≥mg then pure (.done (none,c.2.1-1,c.2.2.1,c.2.2.2.1.push z,c.2.2.2.2.1+1,0))
      else pure (.yield (none,c.2.1-1,c.2.2.1,c.2.2.2.1.push z,c.2.2.2.2.1+1,0))
    else do
      let z ← elem' b (c.2.2.1-1)
      if (c.2.2.1-1 == 1)=true then pure (.done (some (b.extract 0 (c.2.2.1-1)++a.extract 0 c.2.1++(c.2.2.2.1.push z).reverse),c.2.1,c.2.2.1-1,c.2.2.2.1.push z,0,c.2.2.2.2.2+1))
      else if c.2.2.2.2.2+1≥mg then pure (.done (none,c.2.1,c.2.2.1-1,c.2.2.2.1.push z,0,c.2.2.2.2.2+1))
      else pure (.yield (none,c.2.1,c.2.2.1-1,c.2.2.2.1.push z,0,c.2.2.2.2.2+1))
  | _=>pure (.done (some (a.extract 0 c.2.1++b.extract 0 c.2.2.1++c.2.2.2.1.reverse),c.2.1,c.2.2.1,c.2.2.2.1,c.2.2.2.2.1,c.2.2.2.2.2))
def yI (a b:Array AY)(c:HiC):StateT Bg Sem (ForInStep HiC) :=
 if c.2.2.2.2.1>1 then rX a b c.2.1 c.2.2.1 c.2.2.2.1 c.2.2.2.2.2.1 c.2.2.2.2.2.2 (c.2.2.2.2.1-1) else rX a b c.2.1 c.2.2.1 c.2.2.2.1 c.2.2.2.2.2.1 c.2.2.2.2.2.2 c.2.2.2.2.1
def ph (a b:Array AY)(c:HiE):StateT Bg Sem (ForInStep HiE):=do
  let d ← forIn [0:a.size+b.size] ((none,c.2.1,c.2.2.1,c.2.2.2.1,0,0):HiD) λ_ d=>uw a b c.2.2.2.2 d
  match d.1 with
  | some r=>pure (.done (some r,d.2.1,d.2.2.1,d.2.2.2.1,c.2.2.2.2))
  | none=>do
    rule "list.sort.gallop"
    let e ← forIn [0:a.size+b.size] ((none,d.2.1,d.2.2.1,d.2.2.2.1,c.2.2.2.2+1,d.2.2.2.2.1,d.2.2.2.2.2):HiC) λ_ e=>yI a b e
    match e.1 with
    | some r=>pure (.done (some r,e.2.1,e.2.2.1,e.2.2.2.1,e.2.2.2.2.1))
    | none=>do
      modify (λs=>SortSt.mk' (kindOf s) (A2 s) (Bc s) (e.2.2.2.2.1+1) (failedOf s))
      pure (.yield (none,e.2.1,e.2.2.1,e.2.2.2.1,e.2.2.2.2.1+1))
theorem wt (a b:Array AY):mHi a b=(do
    rule "list.sort.merge-hi"
    let z ← elem' a (a.size-1)
    if (a.size-1 == 0)=true then pure (a.extract 0 (a.size-1)++b.extract 0 b.size++(#[z]:Array AY).reverse)
    else if (b.size == 1)=true then pure (b.extract 0 b.size++a.extract 0 (a.size-1)++(#[z]:Array AY).reverse)
    else do
      let g ← get
      let c ← forIn [0:a.size+b.size] ((none,a.size-1,b.size, #[z],gallopOf g):HiE) λ_ c=>ph a b c
      match c.1 with
      | some r=>pure r
      | none=>unsupported "internal:list.sort.merge-bound"):=by
  kernel_rfl
def HdI (key:AY->O.α)(a b:Array AY)(st:Bg)(n:Nat)(c:HiD)(st':Bg):Prop:=Sm st st'/\∃x y o' ac bc,c=(none,x,y,o',ac,bc)/\MV key a b o' x y/\1<=x/\2<=y/\n<=o'.size
def HdQ (key:AY->O.α)(a b:Array AY)(st:Bg)(n:Nat)(c:HiD)(st':Bg):Prop:=Sm st st'/\((∃r x y o ac bc,c=(some r,x,y,o,ac,bc)/\dy key a b r)\/∃x y o' ac bc,c=(none,x,y,o',ac,bc)/\MV key a b o' x y/\1<=x/\2<=y/\n<=o'.size)
theorem ux (C:Cmp prog w A s O key U κ){a b:Array AY}{st st':Bg}(hκ:kindOf st=κ)(ua:∀p∈a.toList,U p)(ub:∀p∈b.toList,U p)
  (ha:a.toList.Pairwise (Le key)) (hb:b.toList.Pairwise (Le key)) (h0:∀p q,b[0]? = some p->q∈a.toList->Le key p q)
  {mg n m':Nat} {c:HiD} (I:HdI key a b st n c st') (hm:m'<=n+1) {Q:ForInStep HiD->Bg->Prop} (h:∀r st',(match r with | .done c'=>HdQ key a b st (n+1) c' st' | .yield c'=>HdI key a b st m' c' st')->Q r st'):wpS (Bf prog w) A E s (uw a b mg c) Q st':=by
 obtain ⟨sm2,x,y,o',ac,bc,rfl,m,hx,hy,hz⟩:=I
 unfold uw
 have bx:=m.hx
 have by':=m.hy
 obtain ⟨za,ea⟩:=aT (show x-1<a.size by omega)
 obtain ⟨zb,eb⟩:=aT (show y-1<b.size by omega)
 refine AR (aQ eb (AR (aQ ea (AR (C.lt _ st' zb za _ (sm2.k.trans hκ) (ub _ (bH eb)) (ua _ (bH ea)) ?_)))))
 dsimp only
 have sz:∀z,n+1<=(o'.push z).size:=λz=>by rw[Dh];exact FO hz
 cases hlt:O.blt (key zb) (key za) with
 | true =>
  rw[if_pos rfl]
  refine AR (aQ ea ?_)
  have m1:=m.iL hx ea ha λt ht=>by
   obtain ⟨n,hn,e⟩:=aU ht
   exact Bn (aB hb e (aA eb) (CN hn)) (B0 hlt)
  by_cases c3:(x-1 == 0)=true
  ·rw[if_pos c3]
   exact AZ (h _ _ ⟨sm2,.inl ⟨_,_,_,_,_,_,rfl,m1.rT hb (beq_iff_eq.mp c3)⟩⟩)
  ·rw[if_neg c3]
   have c3':=uv c3
   split
   ·exact AZ (h _ _ ⟨sm2,.inr ⟨_,_,_,_,_,rfl,m1,c3',hy,sz _⟩⟩)
   ·exact AZ (h _ _ ⟨sm2,_,_,_,_,_,rfl,m1,c3',hy,A5 hm (sz _)⟩)
 | false =>
  rw[if_neg AV]
  refine AR (aQ eb ?_)
  have m1:=m.k7 (Ht hy) eb hb λt ht=>by
   obtain ⟨n,hn,e⟩:=aU ht
   exact Bn (aB ha e (aA ea) (CN hn)) (show O.kle (key za) (key zb) from hlt)
  by_cases c3:(y-1 == 1)=true
  ·rw[if_pos c3]
   exact AZ (h _ _ ⟨sm2,.inl ⟨_,_,_,_,_,_,rfl,m1.first ha hb (beq_iff_eq.mp c3) h0⟩⟩)
  ·rw[if_neg c3]
   have c3':=wo (CN hy) c3
   split
   ·exact AZ (h _ _ ⟨sm2,.inr ⟨_,_,_,_,_,rfl,m1,hx,c3',sz _⟩⟩)
   ·exact AZ (h _ _ ⟨sm2,_,_,_,_,_,rfl,m1,hx,c3',A5 hm (sz _)⟩)
def HeI (key:AY->O.α)(a b:Array AY)(st:Bg)(n:Nat)(c:HiE)(st':Bg):Prop:=Sm st st'/\∃x y o mg,c=(none,x,y,o,mg)/\MV key a b o x y/\1<=x/\2<=y/\n+1<=o.size
def HeQ (key:AY->O.α)(a b:Array AY)(st:Bg)(c:HiE)(st':Bg):Prop:=Sm st st'/\((∃r x y o mg,c=(some r,x,y,o,mg)/\dy key a b r)\/∃x y o mg,c=(none,x,y,o,mg)/\MV key a b o x y/\1<=x/\2<=y/\a.size+b.size+1<=o.size)
theorem rZ (C:Cmp prog w A s O key U κ){a b:Array AY}{st st':Bg}(hκ:kindOf st=κ)(ua:∀p∈a.toList,U p)(ub:∀p∈b.toList,U p)
  (ha:a.toList.Pairwise (Le key)) (hb:b.toList.Pairwise (Le key)) (h0:∀p q,b[0]? = some p->q∈a.toList->Le key p q) (na:0<a.size)
  {n:Nat} {c:HiE} (I:HeI key a b st n c st'):wpS (Bf prog w) A E s (ph a b c) (λr st'=>match r with | .done c'=>HeQ key a b st c' st' | .yield c'=>HeI key a b st (n+1) c' st') st':=by
 obtain ⟨sm1,x,y,o,mg,rfl,m,hx,hy,hz⟩:=I
 unfold ph
 have q1:1<=a.size+b.size:=A5 na (CL _ _)
 refine AR (CF (BS (I:=λj c st'=>HdI key a b st (o.size+min j 1) c st') (Q:=HdQ key a b st (o.size+1)) (λj c st2 _ hj J=>ux (n:=o.size+min j 1) (m':=o.size+min (j+1) 1) C hκ ua ub ha hb h0 J (by omega) λr st' k =>?_) (λc st' J =>?_) ⟨sm1,x,y,o,0,0,rfl,m,hx,hy,AE _⟩) ?_)
 ·cases r with
  | done c'=>exact k.imp id λz=>z.imp id λ⟨x,y,o',ac,bc,e,m,hx,hy,hz⟩=>⟨x,y,o',ac,bc,e,m,hx,hy,by omega⟩
  | yield c'=>exact k
 ·obtain ⟨sm,x,y,o',ac,bc,e,m,hx,hy,hz⟩:=J
  exact ⟨sm,.inr ⟨x,y,o',ac,bc,e,m,hx,hy,by omega⟩⟩
 rintro c st2 ⟨sm2,⟨r,x,y,o',ac,bc,rfl,fr⟩ | ⟨x,y,o',ac,bc,rfl,m,hx,hy,hz2⟩⟩
 ·exact AZ ⟨sm2,.inl ⟨_,_,_,_,_,rfl,fr⟩⟩
 dsimp only
 refine AR (Gv (Du ⟨rfl,?_⟩))
 refine AR (CF (BS (I:=λ_ c st'=>HiQ key a b st o'.size (.yield c) st') (Q:=λc st'=>HiQ key a b st o'.size (.done c) st') (λj c st3 _ hj J =>?_) (λc st' J=>⟨J.1,.inr J.2⟩) ⟨sm2,x,y,o',_,ac,bc,rfl,m,hx,hy,AE _⟩) ?_)
 ·obtain ⟨sm3,x,y,p,mg,ac,bc,rfl,m,hx,hy,hz3⟩:=J
  refine CF (wq C hκ ua ub ha hb h0 sm3 m hx hy hz3) ?_
  intro r st' h
  cases r <;> exact h
 rintro c st3 ⟨sm3,⟨r,x,y,p,mg,ac,bc,rfl,fr⟩ | ⟨x,y,p,mg,ac,bc,rfl,m,hx,hy,hz3⟩⟩
 ·exact AZ ⟨sm3,.inl ⟨_,_,_,_,_,rfl,fr⟩⟩
 ·dsimp only
  exact AR (CU (AZ ⟨sm3.mg _,x,y,p,_,rfl,m,hx,hy,by omega⟩))
theorem yJ (C:Cmp prog w A s O key U κ){a b:Array AY}{st:Bg}{Q:Array AY->Bg->Prop}(hκ:kindOf st=κ)(ua:∀p∈a.toList,U p)(ub:∀p∈b.toList,U p)
  (ha:a.toList.Pairwise (Le key)) (hb:b.toList.Pairwise (Le key)) (na:0<a.size) (nb:0<b.size) (h0:∀p q,b[0]? = some p->q∈a.toList->Le key p q) (hl:∀p q,p∈b.toList->a[a.size-1]? = some q->Le key p q)
  (h:∀r st',Sm st st'->dy key a b r->Q r st'):wpS (Bf prog w) A E s (mHi a b) Q st:=by
 rw[wt]
 refine AR (Gv (Du ⟨rfl,?_⟩))
 obtain ⟨a0,ea0⟩:=aT (EJ na)
 have m0:MV key a b #[] a.size b.size:=by
  refine ⟨AE _,AE _,?_,List.Pairwise.nil,λp _ q hq=>by cases hq⟩
  rw[Bi (by rw[AF];exact AE _),Bi (by rw[AF];exact AE _)]
  show (a.toList++b.toList++[]).Perm _
  rw[Bj]
 have m1:MV key a b #[a0] (a.size-1) b.size:=m0.iL na ea0 ha λt ht=>hl t a0 (Ct ht) ea0
 refine AR (aQ ea0 ?_)
 by_cases c1:(a.size-1 == 0)=true
 ·rw[if_pos c1]
  exact AZ (h _ st (Sm.refl st) (m1.rT hb (beq_iff_eq.mp c1)))
 rw[if_neg c1]
 by_cases c2:(b.size == 1)=true
 ·rw[if_pos c2]
  exact AZ (h _ st (Sm.refl st) (m1.first ha hb (beq_iff_eq.mp c2) h0))
 rw[if_neg c2]
 refine AR (FJ ?_)
 refine AR (CF (BS (I:=λi c st'=>HeI key a b st i c st') (Q:=HeQ key a b st) (λi c st1 _ _ J=>CF (rZ C hκ ua ub ha hb h0 na J) λr st' h=>by cases r <;> exact h) (λc st' J =>?_) ⟨Sm.refl st,_,_,_,_,rfl,m1,uv c1,wo nb c2,AE _⟩) ?_)
 ·obtain ⟨sm,x,y,o,mg,e,m,hx,hy,hz⟩:=J
  exact ⟨sm,.inr ⟨x,y,o,mg,e,m,hx,hy,by omega⟩⟩
 rintro c st' ⟨sm,⟨r,x,y,o,mg,rfl,fr⟩ | ⟨x,y,o,mg,rfl,m,hx,hy,hz⟩⟩
 ·exact AZ (h r st' sm fr)
 ·have:=m.size
  omega
end
open PySem PyProof.Rows
theorem yK (i:Nat):mAt i=(do
    let s ← get
    let (some (sa,na,pw),some (sb,nb,_)):=((Bc s)[i]?,(Bc s)[i+1]?) | unsupported "internal:list.sort.pending"
    set (SortSt.mk' (kindOf s) (A2 s) (((Bc s).setIfInBounds i (sa,na+nb,pw)).eraseIdxIfInBounds (i+1)) (gallopOf s) (failedOf s))
    let some k ← gal false (← elem' (A2 s) sb) (A2 s) sa na 0 | return false
    let (sa,na):=(sa+k,na-k)
    if na == 0 then return true
    let some nb ← gal true (← elem' (A2 s) (sa+na-1)) (A2 s) sb nb (nb-1) | return false
    if nb == 0 then return true
    let x:=(A2 s).extract sa sb
    let y:=(A2 s).extract sb (sb+nb)
    let mm ← if na<=nb then mLo x y else mHi x y
    modify λs=>setArr s (mm.toList.zipIdx.foldl (λa (p,j)=>a.setIfInBounds (sa+j) p) (A2 s))
    return (failedOf (← get)).isNone):=rfl
theorem gH {α:Type}(p r:List α)(k:Nat):(p++r).drop (p.length+k)=r.drop k:=by
 rw[<- Iy,Ff]
theorem pk {α:Type}(p r:List α)(k:Nat):(p++r)[p.length+k]? = r[k]? := by
 rw[Cw (by omega),Dn]
theorem xS {α:Type}(p a r:List α){k:Nat}(h:k<a.length):(p++(a++r))[p.length+k]? = a[k]? := by
 rw[pk,CD h]
theorem written (l:List AY):∀(c n:Nat) (a:Array AY),c+n+l.length<=a.size->((l.zipIdx n).foldl (λ(a:Array AY) (pj:AY×Nat)=>a.setIfInBounds (c+pj.2) pj.1) a).toList=a.toList.take (c+n)++l++a.toList.drop (c+n+l.length):=by
 induction l with
 | nil=>intro c n a _;simp
 | cons z l ih =>
  intro c n a h
  rw[Bk] at h
  rw[List.zipIdx_cons,Gb,ih c (n+1) _ (by rw[Fp];omega)]
  have e:(a.setIfInBounds (c+n) z).toList=a.toList.set (c+n) z:=E1 ..
  rw[e]
  have lt:c+n<a.toList.length:=by rw[AF];omega
  have t1:(a.toList.set (c+n) z).take (c+(n+1))=a.toList.take (c+n)++[z]:=by
   rw[show c+(n+1)=c+n+1 by omega,CS,List.take_set_of_le (AE _),Cz lt]
   rfl
  have t2:(a.toList.set (c+n) z).drop (c+(n+1)+l.length)=a.toList.drop (c+n+(l.length+1)):=by
   rw[List.drop_set_of_lt (by omega),show c+(n+1)+l.length=c+n+(l.length+1) by omega]
  rw[t1,t2,Bk]
  simp
section
variable  {prog:AN}{w:Bh}{A:BA}{E:Au->Ax->Prop}{s:Ax}{O:EK}{key:AY->O.α}{U:AY->Prop}{κ:SortKind}
theorem yL (C:Cmp prog w A s O key U κ){i pw pw2:Nat}{st:Bg}{Q:Bool->Bg->Prop}{P X Y S:List AY}(hκ:kindOf st=κ)(hf:failedOf st=none)
    (ha:(A2 st).toList=P++(X++(Y++S))) (hu:∀p∈(A2 st).toList,U p) (h1:(Bc st)[i]? = some (P.length,X.length,pw)) (h2:(Bc st)[i+1]? = some (P.length+X.length,Y.length,pw2))
    (nx:0<X.length) (ny:0<Y.length) (sx:X.Pairwise (Le key)) (sy:Y.Pairwise (Le key))
    (h:∀st' M,M.Perm (X++Y)->M.Pairwise (Le key)->(A2 st').toList=P++(M++S)->Bc st'=((Bc st).setIfInBounds i (P.length,X.length+Y.length,pw)).eraseIdxIfInBounds (i+1)->kindOf st'=κ -> failedOf st'=none->Q true st') :
    wpS (Bf prog w) A E s (mAt i) Q st:=by
  rw[yK]
  refine AR (FJ ?_)
  rw[h1,h2]
  dsimp only
  refine AR (show wpS (Bf prog w) A E s (modify λ_=>SortSt.mk' (kindOf st) (A2 st) (((Bc st).setIfInBounds i (P.length,X.length+Y.length,pw)).eraseIdxIfInBounds (i+1)) (gallopOf st) (failedOf st)) _ st from CU ?_)
  generalize hst1:SortSt.mk' (kindOf st) (A2 st) (((Bc st).setIfInBounds i (P.length,X.length+Y.length,pw)).eraseIdxIfInBounds (i+1)) (gallopOf st) (failedOf st)=st1
  have k1:kindOf st1=κ:=by rw[<- hst1];exact hκ
  have a1:A2 st1=A2 st:=by rw[<- hst1]
  have p1:Bc st1=((Bc st).setIfInBounds i (P.length,X.length+Y.length,pw)).eraseIdxIfInBounds (i+1):=by rw[<- hst1]
  have f1:failedOf st1=none:=by rw[<- hst1];exact hf
  have sz:(A2 st).size=P.length+X.length+Y.length+S.length:=by
    rw[<- AF,ha];simp only[As];omega
  have atX:∀j,j<X.length->(A2 st)[P.length+j]? = X[j]? := λj hj=>by
    rw[<- AJ,ha,xS _ _ _ hj]
  have atY:∀j,j<Y.length->(A2 st)[P.length+X.length+j]? = Y[j]? := λj hj=>by
    rw[<- AJ,ha, <- A4,show P.length+X.length+j=(P++X).length+j by rw[As],xS _ _ _ hj]
  have uX:∀p∈X,U p:=λp hp=>hu p (by rw[ha];simp[hp])
  have uY:∀p∈Y,U p:=λp hp=>hu p (by rw[ha];simp[hp])
  have xget:∀j,j<X.length->∃z,X[j]? = some z:=λj hj=>⟨X[j],by simp[hj]⟩
  have yget:∀j,j<Y.length->∃z,Y[j]? = some z:=λj hj=>⟨Y[j],by simp[hj]⟩
  obtain ⟨y0,ey0⟩:=yget 0 ny
  have plain:(∀p∈X,∀q∈Y,Le key p q)->Q true st1:=λhle=>h st1 (X++Y) (Dc _) (B1.mpr ⟨sx,sy,hle⟩) (by rw[a1,ha,A4]) p1 k1 f1
  refine AR (aQ (z:=y0) (by rw[show P.length+X.length=P.length+X.length+0 by omega,atY 0 ny];exact ey0) ?_)
  refine AR (yE C (λj=>(X[j]?).getD y0) k1 (uY _ (A0 ey0)) (λj hj =>?_) (λj hj =>?_) (λi j hij hj =>?_) nx λk hk g1 g2 =>?_)
  · obtain ⟨z,e⟩:=xget j hj
    rw[atX j hj,e];rfl
  · obtain ⟨z,e⟩:=xget j hj
    rw[e];exact uX _ (A0 e)
  · obtain ⟨z,e⟩:=xget i (by omega)
    obtain ⟨z',e'⟩:=xget j hj
    rw[e,e'];exact aB sx e e' hij
  dsimp only at g1 g2 ⊢
  have y0le:∀q∈Y,Le key y0 q:=λq hq=>by
    obtain ⟨n,e⟩:=Bw.mp hq
    exact aB sy ey0 e (Bl _)
  by_cases c1:(X.length-k == 0)=true
  · rw[if_pos c1]
    refine AZ (plain λp hp q hq =>?_)
    obtain ⟨n,e⟩:=Bw.mp hp
    have hn:n<X.length:=(AG.mp e).1
    have z:=g1 n (by have:=beq_iff_eq.mp c1;omega)
    rw[e] at z
    exact Bn z (y0le q hq)
  rw[if_neg c1]
  have kx:k<X.length:=by have:X.length-k≠0:=λz=>c1 (beq_iff_eq.mpr z);omega
  obtain ⟨xl,exl⟩:=xget (X.length-1) (by omega)
  have xlle:∀p∈X,Le key p xl:=λp hp=>by
    obtain ⟨n,e⟩:=Bw.mp hp
    have hn:n<X.length:=(AG.mp e).1
    exact aB sx e exl (by omega)
  refine AR (aQ (z:=xl) (by rw[show P.length+k+(X.length-k)-1=P.length+(X.length-1) by omega,atX _ (by omega)];exact exl) ?_)
  refine AR (yF C (λj=>(Y[j]?).getD xl) k1 (uX _ (A0 exl)) (λj hj =>?_) (λj hj =>?_) (λi j hij hj =>?_) (by omega) λm hm e1 e2 =>?_)
  · obtain ⟨z,e⟩:=yget j hj
    rw[atY j hj,e];rfl
  · obtain ⟨z,e⟩:=yget j hj
    rw[e];exact uY _ (A0 e)
  · obtain ⟨z,e⟩:=yget i (by omega)
    obtain ⟨z',e'⟩:=yget j hj
    rw[e,e'];exact aB sy e e' hij
  dsimp only at e1 e2 ⊢
  by_cases c2:(m == 0)=true
  · rw[if_pos c2]
    refine AZ (plain λp hp q hq =>?_)
    obtain ⟨n,e⟩:=Bw.mp hq
    have hn:n<Y.length:=(AG.mp e).1
    have z:=e2 n (by have:=beq_iff_eq.mp c2;omega) hn
    rw[e] at z
    exact Bn (xlle p hp) z
  rw[if_neg c2]
  have m0:0<m:=by have:m≠0:=λz=>c2 (beq_iff_eq.mpr z);omega
  have ex:((A2 st).extract (P.length+k) (P.length+X.length)).toList=X.drop k:=by
    rw[CM,Cj,ha,gH,EA (by omega)]
    rw[List.take_left' (by rw[Ca];omega)]
  have ey:((A2 st).extract (P.length+X.length) (P.length+X.length+m)).toList=Y.take m:=by
    have e:=gH (P++X) (Y++S) 0
    rw[As,HJ,Ew,A4] at e
    rw[CM,Cj,ha,e,Dn,EB hm]
  have sX:((A2 st).extract (P.length+k) (P.length+X.length)).size=X.length-k:=by rw[<- AF,ex,Ca]
  have sY:((A2 st).extract (P.length+X.length) (P.length+X.length+m)).size=m:=by rw[<- AF,ey,Bz];omega
  generalize (A2 st).extract (P.length+k) (P.length+X.length)=xa at ex sX ⊢
  generalize (A2 st).extract (P.length+X.length) (P.length+X.length+m)=ya at ey sY ⊢
  have xa0:∀q∈xa.toList,Le key y0 q:=λq hq=>by
    rw[ex] at hq
    obtain ⟨n,hn,e⟩:=aO hq
    have hn2:n<X.length:=(AG.mp e).1
    have z:=g2 n hn hn2
    rw[e] at z
    exact B0 z
  have yaL:∀p∈ya.toList,Le key p xl:=λp hp=>by
    rw[ey] at hp
    obtain ⟨n,hn,e⟩:=aU hp
    have z:=e1 n hn
    rw[e] at z
    exact B0 z
  have first:∀p q,ya[0]? = some p->q∈xa.toList->Le key p q:=λp q hp hq=>by
    rw[<- AJ,ey,Cq,if_pos m0,ey0] at hp
    cases hp
    exact xa0 q hq
  have lst:∀p q,p∈ya.toList->xa[xa.size-1]? = some q->Le key p q:=λp q hp hq=>by
    rw[<- AJ,ex,Dy,sX,show k+(X.length-k-1)=X.length-1 by omega,exl] at hq
    cases hq
    exact yaL p hp
  have sxa:xa.toList.Pairwise (Le key):=by rw[ex];exact sx.sublist (BR _ _)
  have sya:ya.toList.Pairwise (Le key):=by rw[ey];exact sy.sublist (BZ _ _)
  have uxa:∀p∈xa.toList,U p:=λp hp=>by rw[ex] at hp;exact uX p (DR hp)
  have uya:∀p∈ya.toList,U p:=λp hp=>by rw[ey] at hp;exact uY p (Ct hp)
  have post:∀r st',Sm st1 st'->dy key xa ya r->wpS (Bf prog w) A E s (do modify λs=>setArr s (r.toList.zipIdx.foldl (λa (p,j)=>a.setIfInBounds (P.length+k+j) p) (A2 s));return (failedOf (← get)).isNone) Q st':=by
    rintro r st' sm ⟨fp,fs⟩
    refine AR (CU (AR (FJ (AZ ?_))))
    have rl:r.toList.length=X.length-k+m:=by rw[fp.length_eq,As,AF,AF,sX,sY]
    have wr:=written r.toList (P.length+k) 0 (A2 st') (by rw[sm.a,a1,sz,rl];omega)
    have e:(failedOf (setArr st' (r.toList.zipIdx.foldl (λa (p,j)=>a.setIfInBounds (P.length+k+j) p) (A2 st')))).isNone=true:=by
      show (failedOf st').isNone=true
      rw[sm.f,f1];rfl
    rw[e]
    have t1:(P++(X++(Y++S))).take (P.length+k+0)=P++X.take k:=by
      rw[HJ,List.take_append,Bi (by omega),Dn,EB (by omega)]
    have t2:(P++(X++(Y++S))).drop (P.length+k+0+r.toList.length)=Y.drop m++S:=by
      rw[rl,show P.length+k+0+(X.length-k+m)=P.length+(X.length+m) by omega,gH,gH,EA hm]
    have perm:(X.take k++(r.toList++Y.drop m)).Perm (X++Y):=by
      rw[ex,ey] at fp
      have q:(X.take k++(r.toList++Y.drop m)).Perm (X.take k++((X.drop k++Y.take m)++Y.drop m)):=B7 _ (CA _ fp)
      have e3:X.take k++((X.drop k++Y.take m)++Y.drop m)=X++Y:=by
        rw[A4 (X.drop k),CG, <- A4,CG]
      rw[e3] at q
      exact q
    have inr:∀z∈r.toList,z∈X.drop k\/z∈Y.take m:=λz hz=>by
      have q:=fp.mem_iff.mp hz
      rw[ex,ey] at q
      exact AI.mp q
    refine h _ (X.take k++(r.toList++Y.drop m)) perm ?_ ?_ ?_ (sm.k.trans k1) (sm.f.trans f1)
    · refine B1.mpr ⟨sx.sublist (BZ _ _),B1.mpr ⟨fs,sy.sublist (BR _ _),λp hp q hq =>?_⟩,λp hp q hq =>?_⟩
      · obtain ⟨n,hn,en⟩:=aO hq
        have hn2:n<Y.length:=(AG.mp en).1
        rcases inr p hp with z | z
        · have g:=e2 n hn hn2
          rw[en] at g
          exact Bn (xlle p (DR z)) g
        · obtain ⟨j,hj,ej⟩:=aU z
          exact aB sy ej en (by omega)
      · obtain ⟨n,hn,en⟩:=aU hp
        have g:=g1 n hn
        rw[en] at g
        rcases AI.mp hq with z | z
        · rcases inr q z with z | z
          · obtain ⟨j,hj,ej⟩:=aO z
            exact aB sx en ej (by omega)
          · exact Bn g (y0le q (Ct z))
        · exact Bn g (y0le q (DR z))
    · show (r.toList.zipIdx.foldl (λa (p,j)=>a.setIfInBounds (P.length+k+j) p) (A2 st')).toList=_
      rw[wr,sm.a,a1,ha,t1,t2]
      simp only[A4]
    · show Bc st'=_
      rw[sm.p,p1]
  by_cases c3:X.length-k<=m
  · rw[if_pos c3]
    exact AR (yH C k1 uxa uya sxa sya (by omega) (by omega) (λp q hp hq=>first p q hp (bH hq)) lst λr st' sm fr=>post r st' sm fr)
  · rw[if_neg c3]
    exact AR (yJ C k1 uxa uya sxa sya (by omega) (by omega) first lst λr st' sm fr=>post r st' sm fr)
end
open PySem PyProof.Rows
theorem wu (lo m:Nat):yC lo m=(do
    let mut n:=1
    for _ in [1:m] do
      let some sm ← ltAt' (lo+n) (lo+n-1)
        | return none
      if sm then break
      n:=n+1
    if n == m then return some n
    if n>1 then
      let some ro ← ltAt' lo (lo+n-1)
        | return none
      if ro then return some n
      reverseSlice' lo (lo+n)
    rule "list.sort.descending-run"
    n:=n+1
    let mut q:=0
    for _ in [n:m] do
      let some sm ← ltAt' (lo+n) (lo+n-1)
        | return none
      if sm then
        if q>0 then reverseSlice' (lo+n-(q+1)) (lo+n)
        q:=0
      else
        let some lg ← ltAt' (lo+n-1) (lo+n)
          | return none
        if lg then break
        q:=q+1
      n:=n+1
    if q>0 then reverseSlice' (lo+n-(q+1)) (lo+n)
    reverseSlice' lo (lo+n)
    for _ in [n:m] do
      let some sm ← ltAt' (lo+n) (lo+n-1)
        | return none
      if sm then break
      n:=n+1
    return some n):=rfl
theorem uy (lo n ok:Nat):ui lo n ok=(do
    for k in [max ok 1:n] do
      let mut l:=0;let mut r:=k
      for _ in [0:k] do
        if l≥r then break
        let m:=(l+r)/2
        let some le ← ltAt' (lo+k) (lo+m)
          | return false
        if le then r:=m else l:=m+1
      moveDown' (lo+k) (lo+l)
    return true):=rfl
section
variable  {O:EK}(key:AY->O.α)
def kk (xs:Array AY)(i:Nat):O.α:=key ((xs[i]?).getD (CC,CC))
def Up (xs:Array AY)(lo n:Nat):Prop:=∀i j,lo<=i->i<=j->j<lo+n->O.kle (kk key xs i) (kk key xs j)
def Down (xs:Array AY)(lo n:Nat):Prop:=∀i j,lo<=i->i<=j->j<lo+n->O.kle (kk key xs j) (kk key xs i)
variable  {key}
theorem gI {xs ys:Array AY}{i j:Nat}(h:xs[i]? = ys[j]?):kk key xs i=kk key ys j:=by unfold kk;rw[h]
theorem lh {xs:Array AY}{i j:Nat}(hj:j<=xs.size)(k:Nat):kk key (mirror xs i j ((j-i)/2)) k=if i<=k/\k<j then kk key xs (i+j-1-k) else kk key xs k:=by
 have e:=GO (i:=i) hj k
 by_cases h:i<=k/\k<j
 ·rw[if_pos h] at e ⊢;exact gI e
 ·rw[if_neg h] at e ⊢;exact gI e
theorem dZ {xs:Array AY}{i j:Nat}(hj:j<=xs.size)(he:∀k,i<=k->k<j->kk key xs k=kk key xs (j-1))(k:Nat):kk key (mirror xs i j ((j-i)/2)) k=kk key xs k:=by
 rw[lh hj]
 split
 ·rw[he _ (by omega) (by omega),he k (by omega) (by omega)]
 ·rfl
end
structure SA (lo:Nat)(st st':Bg):Prop where
 perm:(A2 st').Perm (A2 st)
 pre:∀k,k<lo->(A2 st')[k]? = (A2 st)[k]?
 k:kindOf st'=kindOf st
 p:Bc st'=Bc st
 f:failedOf st'=failedOf st
theorem SA.refl (lo:Nat)(st:Bg):SA lo st st:=⟨Array.Perm.refl _,λ_ _=>rfl,rfl,rfl,rfl⟩
theorem SA.size {lo:Nat}{st st':Bg}(h:SA lo st st'):(A2 st').size=(A2 st).size:=h.perm.size_eq
theorem SA.mirror {lo:Nat}{st st':Bg}(h:SA lo st st'){i j:Nat}(hi:lo<=i)(hj:j<=(A2 st').size):SA lo st (setArr st' (mirror (A2 st') i j ((j-i)/2))) :=
 ⟨(mirror_perm _ _ _ _).trans h.perm,λk hk=>by
  show (PyProof.Rows.mirror (A2 st') i j ((j-i)/2))[k]? = _
  rw[GO hj,if_neg (by omega)]
  exact h.pre k hk,h.k,h.p,h.f⟩
theorem SA.mem {lo:Nat}{st st':Bg}(h:SA lo st st'){p:AY}(hp:p∈(A2 st').toList):p∈(A2 st).toList:=(E2.mp h.perm).mem_iff.mp hp
section
variable  {prog:AN}{w:Bh}{A:BA}{E:Au->Ax->Prop}{s:Ax}{O:EK}{key:AY->O.α}{U:AY->Prop}{κ:SortKind}
theorem fG (C:Cmp prog w A s O key U κ){st:Bg}{i j:Nat}{Q:Option Bool->Bg->Prop}(hκ:kindOf st=κ)(hu:∀p∈(A2 st).toList,U p)(hi:i<(A2 st).size)(hj:j<(A2 st).size)
  (h:Q (some (O.blt (kk key (A2 st) i) (kk key (A2 st) j))) st):wpS (Bf prog w) A E s (ltAt' i j) Q st:=by
 rw[ltAt'_eq]
 refine AR (FJ ?_)
 obtain ⟨x,ex⟩:=aT hi
 obtain ⟨y,ey⟩:=aT hj
 dsimp only
 refine AR (aQ ex (AR (aQ ey (C.lt _ st x y _ hκ (hu _ (bH ex)) (hu _ (bH ey)) ?_))))
 unfold kk at h
 rw[ex,ey] at h
 exact h
theorem wx (C:Cmp prog w A s O key U κ){st:Bg}{lo m:Nat}{Q:Option Nat->Bg->Prop}(hκ:kindOf st=κ)(hu:∀p∈(A2 st).toList,U p)(hm:1<=m)(hz:lo+m=(A2 st).size)
  (h:∀n st',1<=n->n<=m->SA lo st st'->Up key (A2 st') lo n->Q (some n) st'):wpS (Bf prog w) A E s (yC lo m) Q st:=by
 rw[wu]
 dsimp only
 refine AR (CF (BS (I:=λx c st'=>st=st'/\c=(none,x)/\Up key (A2 st) lo x)
  (Q:=λc st'=>st=st'/\∃n,c=(none,n)/\1<=n/\n<=m/\Up key (A2 st) lo n/\(n<m->O.klt (kk key (A2 st) (lo+n)) (kk key (A2 st) (lo+n-1)))) ?step ?fin ⟨rfl,rfl,λi j h1 h2 h3=>by rw[show i=j by omega];exact Cp _⟩) ?post)
 case fin =>
  rintro c st' ⟨rfl,rfl,up⟩
  exact ⟨rfl,_,rfl,by omega,by omega,by rw[show max 1 m=m by omega] at up ⊢;exact up,by omega⟩
 case step =>
  rintro x c st' h1 h2 ⟨rfl,rfl,up⟩
  dsimp only
  refine AR (fG C hκ hu (by omega) (by omega) ?_)
  dsimp only
  cases hb:O.blt (kk key (A2 st) (lo+x)) (kk key (A2 st) (lo+x-1)) with
  | true =>
   rw[if_pos rfl]
   exact AZ ⟨rfl,x,rfl,h1,by omega,up,λ_=>hb⟩
  | false =>
   rw[if_neg (by simp)]
   refine AZ ⟨rfl,rfl,λi j k1 k2 k3 =>?_⟩
   by_cases hj:j=lo+x
   ·by_cases hi:i=j
    ·rw[hi];exact Cp _
    ·rw[hj]
     exact Bn (up i (lo+x-1) k1 (by omega) (by omega)) hb
   ·exact up i j k1 k2 (by omega)
 case post =>
  rintro c st' ⟨rfl,n,rfl,n1,n2,up,br⟩
  dsimp only
  by_cases c1:(n == m)=true
  ·rw[if_pos c1]
   exact AZ (h n st n1 n2 (SA.refl _ _) up)
  rw[if_neg c1]
  have nm:n<m:=by have:n≠m:=λz=>c1 (beq_iff_eq.mpr z);omega
  have br:=br nm
  by_cases c2:n>1
  case' pos =>
   rw[if_pos c2]
   refine AR (fG C hκ hu (by omega) (by omega) ?_)
   dsimp only
   cases hro:O.blt (kk key (A2 st) lo) (kk key (A2 st) (lo+n-1))
   case' true =>
    rw[if_pos rfl]
    exact AZ (h n st n1 n2 (SA.refl _ _) up)
   rw[if_neg (by simp)]
   have eqs:∀k,lo<=k->k<lo+n->kk key (A2 st) k=kk key (A2 st) (lo+n-1):=λk k1 k2 =>
    GF (up k (lo+n-1) k1 (by omega) (by omega)) (Bn (show O.kle (kk key (A2 st) (lo+n-1)) (kk key (A2 st) lo) from hro) (up lo k (AE _) k1 k2))
   rw[EG]
   refine AR (CU ?_)
   have sa:=(SA.refl lo st).mirror (i:=lo) (j:=lo+n) (AE _) (by omega)
   have ke:=dZ (key:=key) (xs:=A2 st) (i:=lo) (j:=lo+n) (by omega) eqs
   have ka:∀k,kk key (A2 (setArr st (mirror (A2 st) lo (lo+n) ((lo+n-lo)/2)))) k=kk key (A2 st) k:=ke
   generalize setArr st (mirror (A2 st) lo (lo+n) ((lo+n-lo)/2))=st1 at sa ka ⊢
   clear ke
  case' neg =>
   rw[if_neg c2]
   have eqs:∀k,lo<=k->k<lo+n->kk key (A2 st) k=kk key (A2 st) (lo+n-1):=λk k1 k2=>by rw[show k=lo+n-1 by omega]
   obtain ⟨st1,e1⟩:∃st1,st1=st:=⟨_,rfl⟩
   have sa:SA lo st st1:=by rw[e1];exact SA.refl _ _
   have ka:∀k,kk key (A2 st1) k=kk key (A2 st) k:=λk=>by rw[e1]
   rw[<- e1]
   clear e1
  all_goals
   refine AR (Gv (Du ⟨rfl,?_⟩))
   have dn:Down key (A2 st1) lo (n+1):=λi j k1 k2 k3=>by
    rw[ka,ka]
    by_cases hj:j=lo+n
    ·by_cases hi:i=j
     ·rw[hi];exact Cp _
     ·rw[hj,eqs i k1 (by omega)]
      exact B0 br
    ·rw[eqs i k1 (by omega),eqs j (by omega) (by omega)]
     exact Cp _
   clear eqs up br ka
   refine AR (CF (BS (I:=λx c st'=>∃q,c=(none,x,q)/\x<=m/\SA lo st st'/\Down key (A2 st') lo x/\q+1<=x/\∀k,lo+x-(q+1)<=k->k<lo+x->kk key (A2 st') k=kk key (A2 st') (lo+x-1))
    (Q:=λc st'=>∃x q,c=(none,x,q)/\1<=x/\x<=m/\SA lo st st'/\Down key (A2 st') lo x/\q+1<=x/\∀k,lo+x-(q+1)<=k->k<lo+x->kk key (A2 st') k=kk key (A2 st') (lo+x-1)) ?step ?fin
    ⟨0,rfl,by omega,sa,dn,by omega,λk k1 k2=>by rw[show k=lo+(n+1)-1 by omega]⟩) ?post)
   case fin =>
    rintro c st' ⟨q,rfl,xm,sa,dn,hq,he⟩
    exact ⟨_,q,rfl,by omega,xm,sa,dn,hq,he⟩
   case step =>
    rintro x c st2 h1 h2 ⟨q,rfl,xm,sa2,dn2,hq,he⟩
    dsimp only
    have sz:=sa2.size
    have u2:∀p∈(A2 st2).toList,U p:=λp hp=>hu p (sa2.mem hp)
    refine AR (fG C (sa2.k.trans hκ) u2 (by omega) (by omega) ?_)
    dsimp only
    cases hb:O.blt (kk key (A2 st2) (lo+x)) (kk key (A2 st2) (lo+x-1)) with
    | true =>
     rw[if_pos rfl]
     have dn3:Down key (A2 st2) lo (x+1):=λi j k1 k2 k3=>by
      by_cases hj:j=lo+x
      ·by_cases hi:i=j
       ·rw[hi];exact Cp _
       ·rw[hj];exact Bn (B0 hb) (dn2 i (lo+x-1) k1 (by omega) (by omega))
      ·exact dn2 i j k1 k2 (by omega)
     by_cases q0:q>0
     ·rw[if_pos q0,EG]
      refine AR (CU (AZ ?_))
      have ke:=dZ (key:=key) (xs:=A2 st2) (i:=lo+x-(q+1)) (j:=lo+x) (by omega) he
      refine ⟨0,rfl,by omega,sa2.mirror (by omega) (by omega),λi j k1 k2 k3 =>?_,by omega,λk k1 k2=>by rw[show k=lo+(x+1)-1 by omega]⟩
      show O.kle (kk key (mirror (A2 st2) (lo+x-(q+1)) (lo+x) ((lo+x-(lo+x-(q+1)))/2)) j) (kk key (mirror (A2 st2) (lo+x-(q+1)) (lo+x) ((lo+x-(lo+x-(q+1)))/2)) i)
      rw[ke,ke]
      exact dn3 i j k1 k2 k3
     ·rw[if_neg q0]
      exact AZ ⟨0,rfl,by omega,sa2,dn3,by omega,λk k1 k2=>by rw[show k=lo+(x+1)-1 by omega]⟩
    | false =>
     rw[if_neg (by simp)]
     refine AR (fG C (sa2.k.trans hκ) u2 (by omega) (by omega) ?_)
     dsimp only
     cases hb2:O.blt (kk key (A2 st2) (lo+x-1)) (kk key (A2 st2) (lo+x)) with
     | true =>
      rw[if_pos rfl]
      exact AZ ⟨x,q,rfl,by omega,xm,sa2,dn2,hq,he⟩
     | false =>
      rw[if_neg (by simp)]
      have eq:=GF (show O.kle (kk key (A2 st2) (lo+x)) (kk key (A2 st2) (lo+x-1)) from hb2) hb
      refine AZ ⟨q+1,rfl,by omega,sa2,λi j k1 k2 k3 =>?_,by omega,λk k1 k2 =>?_⟩
      ·by_cases hj:j=lo+x
       ·by_cases hi:i=j
        ·rw[hi];exact Cp _
        ·rw[hj,eq];exact dn2 i (lo+x-1) k1 (by omega) (by omega)
       ·exact dn2 i j k1 k2 (by omega)
      ·rw[show lo+(x+1)-1=lo+x by omega,eq]
       by_cases hk:k=lo+x
       ·rw[hk,eq]
       ·exact he k (by omega) (by omega)
   case post =>
    rintro c st2 ⟨x,q,rfl,x1,xm,sa2,dn2,hq,he⟩
    dsimp only
    have sz:=sa2.size
    by_cases q0:q>0
    case' pos =>
     rw[if_pos q0,EG]
     refine AR (CU ?_)
     have ke:=dZ (key:=key) (xs:=A2 st2) (i:=lo+x-(q+1)) (j:=lo+x) (by omega) he
     have sa3:=sa2.mirror (i:=lo+x-(q+1)) (j:=lo+x) (by omega) (by omega)
     have dn3:Down key (A2 (setArr st2 (mirror (A2 st2) (lo+x-(q+1)) (lo+x) ((lo+x-(lo+x-(q+1)))/2)))) lo x:=λi j k1 k2 k3=>by
      show O.kle (kk key (mirror (A2 st2) (lo+x-(q+1)) (lo+x) ((lo+x-(lo+x-(q+1)))/2)) j) (kk key (mirror (A2 st2) (lo+x-(q+1)) (lo+x) ((lo+x-(lo+x-(q+1)))/2)) i)
      rw[ke,ke]
      exact dn2 i j k1 k2 k3
     generalize setArr st2 (mirror (A2 st2) (lo+x-(q+1)) (lo+x) ((lo+x-(lo+x-(q+1)))/2))=st3 at sa3 dn3 ⊢
     clear ke
    case' neg =>
     rw[if_neg q0]
     obtain ⟨st3,e3⟩:∃st3,st3=st2:=⟨_,rfl⟩
     have sa3:SA lo st st3:=by rw[e3];exact sa2
     have dn3:Down key (A2 st3) lo x:=by rw[e3];exact dn2
     rw[<- e3]
     clear e3
    all_goals
     rw[EG]
     refine AR (CU ?_)
     have sz3:=sa3.size
     have sa4:=sa3.mirror (i:=lo) (j:=lo+x) (AE _) (by omega)
     have km:=lh (key:=key) (xs:=A2 st3) (i:=lo) (j:=lo+x) (by omega)
     have up4:Up key (A2 (setArr st3 (mirror (A2 st3) lo (lo+x) ((lo+x-lo)/2)))) lo x:=λi j k1 k2 k3=>by
      show O.kle (kk key (mirror (A2 st3) lo (lo+x) ((lo+x-lo)/2)) i) (kk key (mirror (A2 st3) lo (lo+x) ((lo+x-lo)/2)) j)
      rw[km,km,if_pos ⟨by omega,by omega⟩,if_pos ⟨by omega,by omega⟩]
      exact dn3 _ _ (by omega) (by omega) (by omega)
     generalize setArr st3 (mirror (A2 st3) lo (lo+x) ((lo+x-lo)/2))=st4 at sa4 up4 ⊢
     clear km
     have u4:∀p∈(A2 st4).toList,U p:=λp hp=>hu p (sa4.mem hp)
     have sz4:=sa4.size
     refine AR (CF (BS (I:=λz c st'=>st4=st'/\c=(none,z)/\z<=m/\Up key (A2 st4) lo z)
      (Q:=λc st'=>st4=st'/\∃z,c=(none,z)/\1<=z/\z<=m/\Up key (A2 st4) lo z) ?step ?fin ⟨rfl,rfl,xm,up4⟩) ?post)
     case fin =>
      rintro c st' ⟨rfl,rfl,zm,up⟩
      exact ⟨rfl,_,rfl,by omega,zm,up⟩
     case post =>
      rintro c st' ⟨rfl,z,rfl,z1,zm,up⟩
      exact AZ (h z st4 z1 zm sa4 up)
     case step =>
      rintro z c st' h1 h2 ⟨rfl,rfl,zm,up⟩
      dsimp only
      refine AR (fG C (sa4.k.trans hκ) u4 (by omega) (by omega) ?_)
      dsimp only
      cases hb:O.blt (kk key (A2 st4) (lo+z)) (kk key (A2 st4) (lo+z-1)) with
      | true =>
       rw[if_pos rfl]
       exact AZ ⟨rfl,z,rfl,by omega,zm,up⟩
      | false =>
       rw[if_neg (by simp)]
       refine AZ ⟨rfl,rfl,by omega,λi j k1 k2 k3 =>?_⟩
       by_cases hj:j=lo+z
       ·by_cases hi:i=j
        ·rw[hi];exact Cp _
        ·rw[hj];exact Bn (up i (lo+z-1) k1 (by omega) (by omega)) hb
       ·exact up i j k1 k2 (by omega)
theorem lj {xs:Array AY}{src d:Nat}(hs:src<xs.size)(hd:d<=src)(k:Nat) :
  kk key (bubble xs src d) k=if k=src-d then kk key xs src else if src-d<k/\k<=src then kk key xs (k-1) else kk key xs k:=by
 have e:=getElem?_bubble hs d hd k
 by_cases h1:k=src-d
 ·rw[if_pos h1] at e ⊢;exact gI e
 ·rw[if_neg h1] at e ⊢
  by_cases h2:src-d<k/\k<=src
  ·rw[if_pos h2] at e ⊢;exact gI e
  ·rw[if_neg h2] at e ⊢;exact gI e
theorem SA.bubble {lo:Nat}{st st':Bg}(h:SA lo st st'){src d:Nat}(hs:src<(A2 st').size)(hd:lo+d<=src):SA lo st (setArr st' (bubble (A2 st') src d)) :=
 ⟨(bubble_perm _ _ _).trans h.perm,λk hk=>by
  show (PyProof.Rows.bubble (A2 st') src d)[k]? = _
  rw[getElem?_bubble hs d (by omega),if_neg (by omega),if_neg (by omega)]
  exact h.pre k hk,h.k,h.p,h.f⟩
theorem uz (C:Cmp prog w A s O key U κ){st:Bg}{lo n ok:Nat}{Q:Bool->Bg->Prop}(hκ:kindOf st=κ)(hu:∀p∈(A2 st).toList,U p)(hn:lo+n<=(A2 st).size)(hok:ok<=n)(up:Up key (A2 st) lo ok)
  (h:∀st',SA lo st st'->Up key (A2 st') lo n->Q true st'):wpS (Bf prog w) A E s (ui lo n ok) Q st:=by
 rw[uy]
 dsimp only
 refine AR (CF (BS (I:=λx c st'=>c=(none,())/\SA lo st st'/\Up key (A2 st') lo (min x n)) (Q:=λc st'=>c=(none,())/\SA lo st st'/\Up key (A2 st') lo n) ?step ?fin ⟨rfl,SA.refl _ _,λi j k1 k2 k3 =>?_⟩) ?post)
 case post =>
  rintro c st' ⟨rfl,sa,up⟩
  exact AZ (h st' sa up)
 case fin =>
  rintro c st' ⟨rfl,sa,up⟩
  refine ⟨rfl,sa,?_⟩
  rw[show min (max (max ok 1) n) n=n by omega] at up
  exact up
 case step =>
  rintro k c st1 h1 h2 ⟨rfl,sa1,up1⟩
  rw[show min k n=k by omega] at up1
  have sz:=sa1.size
  have u1:∀p∈(A2 st1).toList,U p:=λp hp=>hu p (sa1.mem hp)
  refine AR (CF (BS (I:=λx c st'=>st1=st'/\∃l r,c=(none,l,r)/\l<=r/\r<=k/\r-l<=k-x/\(∀i,i<l->O.kle (kk key (A2 st1) (lo+i)) (kk key (A2 st1) (lo+k)))/\(∀i,r<=i->i<k->O.klt (kk key (A2 st1) (lo+k)) (kk key (A2 st1) (lo+i))))
   (Q:=λc st'=>st1=st'/\∃l r,c=(none,l,r)/\l<=k/\(∀i,i<l->O.kle (kk key (A2 st1) (lo+i)) (kk key (A2 st1) (lo+k)))/\(∀i,l<=i->i<k->O.klt (kk key (A2 st1) (lo+k)) (kk key (A2 st1) (lo+i)))) ?istep ?ifin ⟨rfl,0,k,rfl,by omega,by omega,by omega,λi hi=>by omega,λi a1 a2=>by omega⟩) ?ipost)
  case ifin =>
   rintro c st' ⟨rfl,l,r,rfl,b1,b2,b3,b4,b5⟩
   have e:l=r:=by omega
   subst e
   exact ⟨rfl,l,l,rfl,b2,b4,b5⟩
  case istep =>
   rintro x c st' _ hx ⟨rfl,l,r,rfl,b1,b2,b3,b4,b5⟩
   dsimp only
   by_cases hge:l≥r
   ·rw[if_pos hge]
    have e:l=r:=by omega
    subst e
    exact AZ ⟨rfl,l,l,rfl,b2,b4,b5⟩
   ·rw[if_neg hge]
    refine AR (fG C (sa1.k.trans hκ) u1 (by omega) (by omega) ?_)
    dsimp only
    cases hb:O.blt (kk key (A2 st1) (lo+k)) (kk key (A2 st1) (lo+(l+r)/2)) with
    | true =>
     rw[if_pos rfl]
     exact AZ ⟨rfl,l,(l+r)/2,rfl,by omega,by omega,by omega,b4,λi a1 a2=>KeyOrd.klt_of_klt_of_kle hb (up1 _ _ (by omega) (by omega) (by omega))⟩
    | false =>
     rw[if_neg (by simp)]
     exact AZ ⟨rfl,(l+r)/2+1,r,rfl,by omega,by omega,by omega,λi a1=>Bn (up1 (lo+i) (lo+(l+r)/2) (by omega) (by omega) (by omega)) hb,b5⟩
  case ipost =>
   rintro c st' ⟨rfl,l,r,rfl,b2,b4,b5⟩
   dsimp only
   rw[moveDown'_eq]
   have e:lo+k-(lo+l)=k-l:=by omega
   refine AR (CU (AZ ⟨rfl,?_,?_⟩))
   ·rw[e]
    exact sa1.bubble (by omega) (by omega)
   ·rw[show min (k+1) n=k+1 by omega]
    intro i j k1 k2 k3
    show O.kle (kk key (bubble (A2 st1) (lo+k) (lo+k-(lo+l))) i) (kk key (bubble (A2 st1) (lo+k) (lo+k-(lo+l))) j)
    have lt:lo+k<(A2 st1).size:=by omega
    rw[e,lj lt (by omega),lj lt (by omega),show lo+k-(k-l)=lo+l by omega]
    have b4':∀z,lo<=z->z<lo+l->O.kle (kk key (A2 st1) z) (kk key (A2 st1) (lo+k)):=λz z1 z2=>by
     have:=b4 (z-lo) (by omega)
     rw[show lo+(z-lo)=z by omega] at this
     exact this
    have b5':∀z,lo+l<=z->z<lo+k->O.kle (kk key (A2 st1) (lo+k)) (kk key (A2 st1) z):=λz z1 z2=>by
     have:=b5 (z-lo) (by omega) (by omega)
     rw[show lo+(z-lo)=z by omega] at this
     exact B0 this
    repeat' split
    all_goals first
     | (exfalso;omega)
     | exact Cp _
     | exact b4' _ (by omega) (by omega)
     | exact b5' _ (by omega) (by omega)
     | exact up1 _ _ (by omega) (by omega) (by omega)
 ·by_cases h1:ok=0
  ·rw[show i=j by omega];exact Cp _
  ·exact up i j k1 k2 (by omega)
end
open PySem PyProof.Rows
def pwr:Nat->Nat->Nat->Nat->Nat:=sortPriv% PySem.Builtin.power
def mrn:Nat->Nat->Nat->Nat:=sortPriv% PySem.Builtin.minRun
theorem uC:xR=(do
    let sz:=(A2 (← get)).size
    let mr:=mrn sz sz 0
    let mut lo:=0
    for _ in [0:sz] do
      if lo≥sz then break
      let some fd ← yC lo (sz-lo)
        | return
      let mut n:=fd
      if n<mr then
        rule "list.sort.binary-insertion"
        let fo:=min (sz-lo) mr
        if !(← ui lo fo n) then return
        n:=fo
      if let some (s1,n1,_):=(Bc (← get)).back? then
        let pw:=pwr sz (2*s1+n1) (2*s1+n1+n1+n) sz
        for _ in [0:sz] do
          let p:=Bc (← get)
          let some (_,_,old):=(if p.size>1 then p[p.size-2]? else none)
            | break
          if old<=pw then break
          if !(← mAt (p.size-2)) then return
        modify λs=>SortSt.mk' (kindOf s) (A2 s) ((Bc s).modify ((Bc s).size-1) λ(st,len,_)=>(st,len,pw)) (gallopOf s) (failedOf s)
      modify λs=>SortSt.mk' (kindOf s) (A2 s) ((Bc s).push (lo,n,0)) (gallopOf s) (failedOf s)
      lo:=lo+n
    for _ in [0:sz] do
      let p:=Bc (← get)
      if p.size<=1 then break
      let i:=p.size-2
      let bf:=if i>0 then p[i-1]?.map (·.2.1) else none
      let i:=if bf.any (· < (p[i+1]?.elim 0 (·.2.1))) then i-1 else i
      if !(← mAt i) then return):=rfl
def Mt:Nat->List (List AY)->List (Nat×Nat×Nat)->Prop
 | _,[],[]=>True
 | off,r :: rs,p :: ps=>p.1=off/\p.2.1=r.length/\Mt (off+r.length) rs ps
 | _,_,_=>False
theorem Mt.length:∀{off:Nat} {rs:List (List AY)} {ps:List (Nat×Nat×Nat)},Mt off rs ps->ps.length=rs.length
 | _,[],[],_=>rfl
 | _,_ :: _,_ :: _,h=>by rw[Bk,Bk,Mt.length h.2.2]
theorem Mt.append:∀{off:Nat} {rs ts:List (List AY)} {ps us:List (Nat×Nat×Nat)},Mt off rs ps->Mt (off+rs.flatten.length) ts us->Mt off (rs++ts) (ps++us)
 | _,[],_,[],_,_,h=>by simpa using h
 | off,r :: rs,ts,p :: ps,us,h,h'=>by
  refine ⟨h.1,h.2.1,Mt.append h.2.2 ?_⟩
  rw[Fq,As, <- IL] at h'
  exact h'
theorem Mt.split:∀{off:Nat} {rs:List (List AY)} {ps:List (Nat×Nat×Nat)} (i:Nat),Mt off rs ps->i+1<ps.length →
  ∃R1 X Y R2 L1 w1 w2 L2,rs=R1++X :: Y :: R2/\ps=L1++(off+R1.flatten.length,X.length,w1) :: (off+R1.flatten.length+X.length,Y.length,w2) :: L2/\L1.length=i/\Mt off R1 L1/\Mt (off+R1.flatten.length+X.length+Y.length) R2 L2
 | off,r :: r2 :: rs,p :: p2 :: ps,0,h,_=>by
  obtain ⟨a,b,w1⟩:=p
  obtain ⟨c,d,w2⟩:=p2
  obtain ⟨h1,h2,h3,h4,h5⟩:=h
  dsimp only at h1 h2 h3 h4
  subst h1 h2 h3 h4
  exact ⟨[],r,r2,rs,[],w1,w2,ps,rfl,rfl,rfl,trivial,h5⟩
 | off,r :: rs,p :: ps,i+1,h,hl=>by
  rw[Bk] at hl
  obtain ⟨R1,X,Y,R2,L1,w1,w2,L2,e1,e2,e3,m1,m2⟩:=Mt.split i h.2.2 (by omega)
  have ea:off+(r :: R1).flatten.length=off+r.length+R1.flatten.length:=by rw[Fq,As];omega
  refine ⟨r :: R1,X,Y,R2,p :: L1,w1,w2,L2,by rw[e1];rfl,?_,by rw[Bk,e3],⟨h.1,h.2.1,m1⟩,?_⟩
  ·rw[ea,e2];rfl
  ·rw[ea];exact m2
 | off,[],[],i,_,hl=>by simp at hl
 | off,[_],[_],0,_,hl=>by simp at hl
theorem Mt.modify (f:Nat×Nat×Nat->Nat×Nat×Nat)(hf:∀p,(f p).1=p.1/\(f p).2.1=p.2.1):∀{off:Nat} {rs:List (List AY)} {ps:List (Nat×Nat×Nat)} (i:Nat),Mt off rs ps->Mt off rs (ps.modify i f)
 | _,[],[],i,_=>by cases i <;> exact trivial
 | off,r :: rs,p :: ps,0,h=>⟨(hf p).1.trans h.1,(hf p).2.trans h.2.1,h.2.2⟩
 | off,r :: rs,p :: ps,i+1,h=>⟨h.1,h.2.1,Mt.modify f hf i h.2.2⟩
theorem r6 {α:Type}(l:List α)(a b c:α)(r:List α):((l++a :: b :: r).set l.length c).eraseIdx (l.length+1)=l++c :: r:=by
 induction l with
 | nil=>rfl
 | cons x l ih=>simp only[List.cons_append,Bk,List.set_cons_succ,Ef,ih]
section
variable  {O:EK}(key:AY->O.α)(U:AY->Prop)(κ:SortKind)
structure Rn (a0:List AY)(lo:Nat)(st:Bg):Prop where
 ex:∃runs rest,(A2 st).toList=runs.flatten++rest/\runs.flatten.length=lo/\(∀r∈runs,r.Pairwise (Le key)/\0<r.length)/\Mt 0 runs (Bc st).toList
 perm:(A2 st).toList.Perm a0
 k:kindOf st=κ
 f:failedOf st=none
end
section
variable  {prog:AN}{w:Bh}{A:BA}{E:Au->Ax->Prop}{s:Ax}{O:EK}{key:AY->O.α}{U:AY->Prop}{κ:SortKind}
theorem nJ (C:Cmp prog w A s O key U κ){a0:List AY}{lo i:Nat}{st:Bg}{Q:Bool->Bg->Prop}(hu:∀p∈a0,U p)(R:Rn key κ a0 lo st)(hi:i+1<(Bc st).size)
  (h:∀st',Rn key κ a0 lo st'->(Bc st').size+1=(Bc st).size->(A2 st').toList.drop lo=(A2 st).toList.drop lo->Q true st'):wpS (Bf prog w) A E s (mAt i) Q st:=by
 obtain ⟨runs,rest,ea,el,er,em⟩:=R.ex
 obtain ⟨R1,X,Y,R2,L1,w1,w2,L2,e1,e2,e3,m1,m2⟩:=Mt.split i em (by rw[AF];exact hi)
 subst e1
 rw[CH] at e2 m2
 have hx:=er X (by simp)
 have hy:=er Y (by simp)
 have ga:(Bc st)[i]? = some (R1.flatten.length,X.length,w1):=by
  rw[<- AJ,e2, <- e3,show L1.length=L1.length+0 by omega,pk];rfl
 have gb:(Bc st)[i+1]? = some (R1.flatten.length+X.length,Y.length,w2):=by
  rw[<- AJ,e2, <- e3,pk];rfl
 refine yL C (P:=R1.flatten) (X:=X) (Y:=Y) (S:=R2.flatten++rest) R.k R.f (by rw[ea];simp) (λp hp=>hu p (R.perm.mem_iff.mp hp)) ga gb hx.2 hy.2 hx.1 hy.1 λst' M pm sm ar pd kd fl =>?_
 have lm:M.length=X.length+Y.length:=by rw[pm.length_eq,As]
 have ep:(Bc st').toList=L1++(R1.flatten.length,X.length+Y.length,w1) :: L2:=by
  rw[pd,Array.toList_eraseIdxIfInBounds,E1,e2, <- e3]
  exact r6 _ _ _ _ _
 refine h st' ⟨⟨R1++M :: R2,rest,?_,?_,λr hr =>?_,?_⟩,?_,kd,fl⟩ ?_ ?_
 ·rw[ar];simp
 ·rw[<- el];simp[lm];omega
 ·rcases AI.mp hr with q | q
  ·exact er r (by simp[q])
  ·rcases AU.mp q with q | q
   ·rw[q];exact ⟨sm,by have:=hx.2;omega⟩
   ·exact er r (by simp[q])
 ·rw[ep]
  refine Mt.append m1 ⟨by rw[CH],lm.symm,?_⟩
  rw[CH,lm, <- IL]
  exact m2
 ·rw[ar]
  refine List.Perm.trans ?_ R.perm
  rw[ea,show (R1++X :: Y :: R2).flatten++rest=R1.flatten++((X++Y)++(R2.flatten++rest)) by simp]
  exact B7 _ (CA _ pm)
 ·rw[<- AF, <- AF,ep,e2]
  simp only[As,Bk]
  omega
 ·have l1:(R1++M :: R2).flatten.length=lo:=by rw[<- el];simp[lm];omega
  have q1:(A2 st').toList=(R1++M :: R2).flatten++rest:=by rw[ar];simp
  rw[q1,ea, <- l1,Ff,l1, <- el,Ff]
theorem Rn.sa {a0:List AY}{lo:Nat}{st st':Bg}(R:Rn key κ a0 lo st)(sa:SA lo st st'):Rn key κ a0 lo st':=by
 obtain ⟨runs,rest,ea,el,er,em⟩:=R.ex
 have et:(A2 st').toList.take lo=runs.flatten:=by
  have e1:(A2 st').toList.take lo=(A2 st).toList.take lo:=by
   refine Hu λi =>?_
   rw[Cq,Cq]
   split
   ·rw[AJ,AJ];exact sa.pre i (by assumption)
   ·rfl
  rw[e1,ea, <- el,List.take_left]
 refine ⟨⟨runs,(A2 st').toList.drop lo,by rw[<- et,CG],el,er,by rw[sa.p];exact em⟩,(E2.mp sa.perm).trans R.perm,sa.k.trans R.k,sa.f.trans R.f⟩
theorem r9 {xs:Array AY}{lo n:Nat}(h:Up key xs lo n):((xs.toList.drop lo).take n).Pairwise (Le key):=by
 refine DT.mpr λi j hi hj hij =>?_
 have get:∀k (hk:k<((xs.toList.drop lo).take n).length),key ((xs.toList.drop lo).take n)[k]=kk key xs (lo+k)/\k<n:=λk hk=>by
  have hk':=hk
  rw[Bz] at hk'
  refine ⟨?_,by omega⟩
  have e:((xs.toList.drop lo).take n)[k]? = xs[lo+k]? := by
   rw[Cq,if_pos (by omega),Dy,AJ]
  rw[AD hk] at e
  unfold kk
  rw[<- e];rfl
 obtain ⟨e1,l1⟩:=get i hi
 obtain ⟨e2,l2⟩:=get j hj
 show O.kle (key _) (key _)
 rw[e1,e2]
 exact h _ _ (by omega) (by omega) (by omega)
theorem Rn.push {a0:List AY}{lo n:Nat}{st:Bg}(R:Rn key κ a0 lo st)(hn:0<n)(hz:lo+n<=(A2 st).size)(hs:(((A2 st).toList.drop lo).take n).Pairwise (Le key)) :
  Rn key κ a0 (lo+n) (SortSt.mk' (kindOf st) (A2 st) ((Bc st).push (lo,n,0)) (gallopOf st) (failedOf st)):=by
 obtain ⟨runs,rest,ea,el,er,em⟩:=R.ex
 have ed:(A2 st).toList.drop lo=rest:=by rw[ea, <- el,Ff]
 rw[ed] at hs
 have lr:n<=rest.length:=by
  have:=congrArg List.length ea
  rw[AF,As,el] at this
  omega
 have lt:(rest.take n).length=n:=by rw[Bz];omega
 refine ⟨⟨runs++[rest.take n],rest.drop n,?_,?_,λr hr =>?_,?_⟩,R.perm,R.k,R.f⟩
 ·show (A2 st).toList=_
  rw[ea];simp
 ·simp[lt,el]
 ·rcases AI.mp hr with q | q
  ·exact er r q
  ·have e:r=rest.take n:=by simpa using q
   rw[e];exact ⟨hs,by omega⟩
 ·show Mt 0 _ ((Bc st).push (lo,n,0)).toList
  rw[CB]
  exact Mt.append em ⟨by show lo=_;omega,lt.symm,trivial⟩
theorem Rn.mod {a0:List AY}{lo:Nat}{st:Bg}(R:Rn key κ a0 lo st)(i:Nat)(f:Nat×Nat×Nat->Nat×Nat×Nat)(hf:∀p,(f p).1=p.1/\(f p).2.1=p.2.1):Rn key κ a0 lo (SortSt.mk' (kindOf st) (A2 st) ((Bc st).modify i f) (gallopOf st) (failedOf st)):=by
 obtain ⟨runs,rest,ea,el,er,em⟩:=R.ex
 refine ⟨⟨runs,rest,ea,el,er,?_⟩,R.perm,R.k,R.f⟩
 show Mt 0 runs ((Bc st).modify i f).toList
 rw[Array.toList_modify]
 exact Mt.modify f hf i em
theorem yM {c:Prop}[Decidable c]{n:Nat}(h:1<n):(if c then n-2-1 else n-2)+1<n:=by split <;> omega
theorem lq:∀{runs:List (List AY)},(∀r∈runs,0<r.length)->runs.length<=runs.flatten.length
 | [],_=>AE _
 | r :: rs,h=>by
  have h1:=h r AM
  have h2:=lq λq hq=>h q (AL _ hq)
  rw[Fq,As,Bk]
  omega
theorem uD (C:Cmp prog w A s O key U κ){a0:List AY}{st:Bg}{Q:Unit->Bg->Prop}(hu:∀p∈a0,U p)(ha:(A2 st).toList=a0)(hp:Bc st = #[])(hk:kindOf st=κ)(hf:failedOf st=none)(h1:1<=a0.length)
  (h:∀st',(A2 st').toList.Perm a0->(A2 st').toList.Pairwise (Le key)->failedOf st'=none->Q () st'):wpS (Bf prog w) A E s xR Q st:=by
 rw[uC]
 refine AR (FJ ?_)
 dsimp only
 have sz0:(A2 st).size=a0.length:=by rw[<- AF,ha]
 have szR:∀{lo:Nat} {st':Bg},Rn key κ a0 lo st'->(A2 st').size=(A2 st).size:=λR=>by rw[<- AF,R.perm.length_eq,sz0]
 have uR:∀{lo:Nat} {st':Bg},Rn key κ a0 lo st'->∀p∈(A2 st').toList,U p:=λR p hp=>hu p (R.perm.mem_iff.mp hp)
 have R0:Rn key κ a0 0 st:=⟨⟨[],a0,by rw[ha];rfl,rfl,λr hr=>(by cases hr),by rw[hp];exact trivial⟩,by rw[ha],hk,hf⟩
 refine AR (CF (BS (I:=λx c st'=>∃lo,c=(none,lo)/\x<=lo/\lo<=(A2 st).size/\Rn key κ a0 lo st') (Q:=λc st'=>c=(none,(A2 st).size)/\Rn key κ a0 (A2 st).size st') ?step ?fin ⟨0,rfl,AE _,Bl _,R0⟩) ?post)
 case fin =>
  rintro c st' ⟨lo,rfl,l1,l2,R⟩
  obtain rfl:lo=(A2 st).size:=by omega
  exact ⟨rfl,R⟩
 case post =>
  rintro c st1 ⟨rfl,R⟩
  dsimp only
  have p0:(Bc st1).size<=(A2 st).size:=by
   obtain ⟨runs,rest,ea,el,er,em⟩:=R.ex
   have q:=em.length
   rw[AF] at q
   have:=lq λr hr=>(er r hr).2
   omega
  refine AR (CF (BS (I:=λx c st'=>c=(none,())/\Rn key κ a0 (A2 st).size st'/\((Bc st').size<=1\/(Bc st').size+x<=(A2 st).size)) (Q:=λc st'=>c=(none,())/\Rn key κ a0 (A2 st).size st'/\(Bc st').size<=1) ?stepB ?finB ⟨rfl,R,.inr (by omega)⟩) ?postB)
  case finB =>
   rintro c st' ⟨rfl,R,q⟩
   exact ⟨rfl,R,by omega⟩
  case stepB =>
   rintro x c st' _ hx ⟨rfl,R,q⟩
   refine AR (FJ ?_)
   by_cases c1:(Bc st').size<=1
   ·rw[if_pos c1]
    exact AZ ⟨rfl,R,c1⟩
   rw[if_neg c1]
   refine AR (nJ C hu R (yM (by omega)) λst2 R2 s2 _ =>?_)
   simp only[Cc,A1,if_false]
   exact AZ ⟨rfl,R2,by omega⟩
  case postB =>
   rintro c st' ⟨rfl,R,q⟩
   obtain ⟨runs,rest,ea,el,er,em⟩:=R.ex
   have lm:=em.length
   rw[AF] at lm
   have lr:=congrArg List.length ea
   rw[AF,szR R,As,el] at lr
   have er0:rest=[]:=FE.mp (by omega)
   subst er0
   rw[Bj] at ea
   match runs,er,lm,el,ea with
   | [],_,_,el,_=>simp at el;omega
   | [r],er,_,_,ea =>
    have e:(A2 st').toList=r:=by rw[ea];simp
    exact AZ (h st' R.perm (by rw[e];exact (er r (by simp)).1) R.f)
   | _ :: _ :: _,_,lm,_,_=>simp at lm;omega
 case step =>
  rintro x c st1 _ hx ⟨lo,rfl,l1,l2,R⟩
  dsimp only
  by_cases cl:lo≥(A2 st).size
  ·rw[if_pos cl]
   obtain rfl:lo=(A2 st).size:=by omega
   exact AZ ⟨rfl,R⟩
  rw[if_neg cl]
  have s1:=szR R
  refine AR (wx C R.k (uR R) (by omega) (by omega) λn st2 n1 n2 sa2 up2 =>?_)
  dsimp only
  have R2:=R.sa sa2
  have s2:=szR R2
  by_cases cm:n<mrn (A2 st).size (A2 st).size 0
  case' pos =>
   rw[if_pos cm]
   refine AR (Gv (Du ⟨rfl,?_⟩))
   obtain ⟨fo,e⟩:∃fo,fo=min ((A2 st).size-lo) (mrn (A2 st).size (A2 st).size 0):=⟨_,rfl⟩
   rw[<- e]
   refine AR (uz C R2.k (uR R2) (by omega) (by omega) up2 λst3 sa3 up3 =>?_)
   simp only[Cc,A1,if_false]
   have R3:=R2.sa sa3
   have f0:0<fo:=by omega
   have f1:lo+fo<=(A2 st).size:=by omega
  case' neg =>
   rw[if_neg cm]
   obtain ⟨fo,e⟩:∃fo,fo=n:=⟨_,rfl⟩
   subst e
   obtain ⟨st3,e3⟩:∃st3,st3=st2:=⟨_,rfl⟩
   subst e3
   have R3:=R2
   have up3:=up2
   have f0:0<fo:=n1
   have f1:lo+fo<=(A2 st).size:=by omega
  all_goals
   have srt:=r9 up3
   have s3:=szR R3
   refine AR (FJ ?_)
   cases hbk:(Bc st3).back? with
   | none =>
    dsimp only
    exact AR (CU (AZ ⟨lo+fo,rfl,by omega,f1,R3.push f0 (by omega) srt⟩))
   | some t =>
    obtain ⟨t1,t2,t3⟩:=t
    dsimp only
    refine AR (CF (BS (I:=λ_ c st'=>c=(none,())/\Rn key κ a0 lo st'/\(A2 st').toList.drop lo=(A2 st3).toList.drop lo) (Q:=λc st'=>c=(none,())/\Rn key κ a0 lo st'/\(A2 st').toList.drop lo=(A2 st3).toList.drop lo) ?stepC ?finC ⟨rfl,R3,rfl⟩) ?postC)
    case finC=>exact λc st' q=>q
    case stepC =>
     rintro z c st4 _ _ ⟨rfl,R4,d4⟩
     refine AR (FJ ?_)
     by_cases p1:(Bc st4).size>1
     ·rw[if_pos p1]
      have lt:(Bc st4).size-2<(Bc st4).size:=by omega
      have e:(Bc st4)[(Bc st4).size-2]? = some (Bc st4)[(Bc st4).size-2]:=by simp[lt]
      rw[e]
      dsimp only
      split
      ·exact AZ ⟨rfl,R4,d4⟩
      ·refine AR (nJ C hu R4 (by omega) λst5 R5 _ d5 =>?_)
       simp only[Cc,A1,if_false]
       exact AZ ⟨rfl,R5,d5.trans d4⟩
     ·rw[if_neg p1]
      exact AZ ⟨rfl,R4,d4⟩
    case postC =>
     rintro c st4 ⟨rfl,R4,d4⟩
     dsimp only
     have s4:=szR R4
     refine AR (CU (AR (CU (AZ ⟨lo+fo,rfl,by omega,f1,?_⟩))))
     refine Rn.push ?_ f0 ?_ ?_
     ·refine Rn.mod R4 _ _ ?_
      exact λp=>⟨rfl,rfl⟩
     ·show lo+fo<=(A2 st4).size
      omega
     ·show (((A2 st4).toList.drop lo).take fo).Pairwise (Le key)
      rw[d4]
      exact srt
end
open PySem PyProof.Rows
structure mq (prog:AN)(w:Bh)(s:Ax)(vs:List Au)(O:EK)(key:Au->O.α):Prop where
 ok:2<=vs.length->∀(A:BA) (h6:Heap),(∀b o,s.heap.get? b=some o->h6.get? b=some o)->∃κ,(∀(Q:SortKind->Ax->Prop) (E:Au->Ax->Prop),Q κ { s with heap:=h6 }->A7 (Bf prog w) A (keyKind' vs.toArray) Q E { s with heap:=h6 }) ∧
  Cmp prog w A { s with heap:=h6 } O (λp=>key p.1) (λp=>p.1=p.2/\p.1∈vs) κ
section
variable  {prog:AN}{w:Bh}{A:BA}{E:Au->Ax->Prop}{s:Ax}{O:EK}{key:Au->O.α}
theorem zs:∀vs:List Au,(vs.zip vs).map (·.2)=vs
 | []=>rfl
 | v :: vs=>by rw[G3,Bd,zs vs]
theorem nK {l:List AY}{vs:List Au}(h:l.Perm (vs.zip vs)):(l.map (·.2)).Perm vs/\∀p∈l,p.1=p.2/\p.1∈vs:=by
 have e:=zs vs
 refine ⟨by have:=h.map (·.2);rw[e] at this;exact this,λp hp =>?_⟩
 have m:=h.mem_iff.mp hp
 obtain ⟨i,hi⟩:=Bw.mp m
 rw[Fc] at hi
 have e1:=hi.1.symm.trans hi.2
 exact ⟨Bq e1,A0 hi.1⟩
theorem fR {a:Addr}{vs:List Au}{n:Nat}{P:Fin->Ax->Prop}(ho:s.heap.get? a=some (seqObj "list" vs.toArray n))(hz:vs.length<=AH)
    (hc:2<=vs.length->∀h6,(∀b o,b≠a->s.heap.get? b=some o->h6.get? b=some o)->∃κ,(∀(Q:SortKind->Ax->Prop) (E:Au->Ax->Prop),Q κ { s with heap:=h6 }->A7 (Bf prog w) A (keyKind' vs.toArray) Q E { s with heap:=h6 }) ∧
      Cmp prog w A { s with heap:=h6 } O (λp=>key p.1) (λp=>p.1=p.2/\p.1∈vs) κ)
    (h:∀out:List Au,out.Perm vs->out.Pairwise (λx y=>O.kle (key x) (key y))->P (.done (.ret .none)) { s with heap:=sortedHeap s.heap a vs out.toArray }):A7 (Bf prog w) A (Builtin.«list.sort» ⟨[.ref a],[]⟩) P E s:=by
  rw[list_sort_plain]
  have ha:a<s.heap.objs.size:=AQ ho
  refine Ar (HP ho rfl ?_)
  refine Ar (Hl ho rfl ?_ (by rw[Aw];exact hz) (Bl _))
  obtain ⟨e1,ho1⟩:∃e1,(s.heap.update a (C4 λ_ => #[])).get? a=some (seqObj "list" #[] e1):=⟨_,get?_update_seq ho (λ_ => #[])⟩
  refine Ar (seqEpoch_at ho1 rfl (Ar (wpAny_newTuple ?_ (by exact hz))))
  refine Ar (FK ?_ (Bl _))
  refine BV ?_
  generalize hH:((s.heap.update a (C4 λ_ => #[])).push (seqObj "tuple" vs.toArray 0)).push (seqObj "list" #[] 0)=h6
  have kp:∀b o,b≠a->s.heap.get? b=some o->h6.get? b=some o:=λb o nb e=>by
    rw[<- hH]
    refine Az _ (Az _ ?_)
    rw[GH _ _ _ _ nb]
    exact e
  have ho6:h6.get? a=some (seqObj "list" #[] e1):=by
    rw[<- hH]
    exact Az _ (Az _ ho1)
  have eH:∀out:List Au,sortedHeap s.heap a vs out.toArray=h6.update a (C4 λ_=>out.toArray):=λout=>by rw[<- hH];rfl
  have go:∀st':Bg,(A2 st').toList.Perm (vs.zip vs)->(A2 st').toList.Pairwise (λp q=>O.kle (key p.1) (key q.1))->failedOf st'=none →
      A7 (Bf prog w) A (do
        let sorted:=(A2 st').map (·.2)
        let touched:=(← seqEpoch a) != e1
        Builtin.List.listUpdate (.ref a) λ_=>sorted
        if let some e:=failedOf st' then rule "list.sort.comparison-raised";throw e
        if touched then rule "list.sort.modified";raiseError "ValueError" "list modified during sort"
        ret .none) P E { s with heap:=h6 }:=by
    intro st' pm ps hf
    obtain ⟨z1,z2⟩:=nK pm
    have em:(A2 st').map (·.2)=((A2 st').toList.map (·.2)).toArray:=by
      apply HX.mp
      rw[EC]
    dsimp only
    refine Ar (seqEpoch_at ho6 rfl ?_)
    refine Ar (Hl ho6 rfl ?_ (Bl _) (by rw[BB, <- AF,pm.length_eq,Ih,E4];omega))
    rw[hf]
    simp only[bne_self_eq_false,A1,if_false]
    refine Ay ?_
    rw[em, <- eH]
    refine h _ z1 (BE.mpr (ps.imp_of_mem λ{p q} hp hq le =>?_))
    rw[<- (z2 p hp).1, <- (z2 q hq).1]
    exact le
  by_cases h2:vs.toArray.size<2
  · rw[if_pos h2,if_pos h2]
    refine Ar (Ay ?_)
    dsimp only
    rw[StateT.run_pure]
    refine Ar (Ay ?_)
    refine go (SortSt.mk' general' (vs.toArray.zip vs.toArray) #[] 7 none) (by show (vs.toArray.zip vs.toArray).toList.Perm _;simp) ?_ rfl
    rw[Aw] at h2
    have et:(vs.toArray.zip vs.toArray).toList=vs.zip vs:=by simp
    show (vs.toArray.zip vs.toArray).toList.Pairwise (λ(p q:AY)=>O.kle (key p.1) (key q.1))
    rw[et]
    have short:∀us:List Au,us.length<2->(us.zip us).Pairwise (λ(p q:AY)=>O.kle (key p.1) (key q.1)):=λus hu=>by
      match us,hu with
      | [],_=>exact List.Pairwise.nil
      | [v],_=>exact CO _ _
      | _ :: _ :: _,hu=>simp only[Bk] at hu;omega
    exact short vs h2
  · rw[if_neg h2,if_neg h2]
    rw[Aw] at h2
    obtain ⟨κ,k1,C⟩:=hc (by omega) h6 kp
    refine Ar (k1 _ _ ?_)
    have et:(vs.toArray.zip vs.toArray).toList=vs.zip vs:=by simp
    refine Ar (Cg (uD C (E:=E) (a0:=vs.zip vs) (st:=SortSt.mk' κ (vs.toArray.zip vs.toArray) #[] 7 none)
      (Q:=λ_ st'=>(A2 st').toList.Perm (vs.zip vs)/\(A2 st').toList.Pairwise (Le λ(p:AY)=>key p.1)/\failedOf st'=none)
      (nK (Dc _)).2 et rfl rfl rfl (by rw[Ih,E4];omega) λst' a1 a2 a3=>⟨a1,a2,a3⟩) ?_ λ_ _ e=>e)
    rintro ⟨⟨⟩,st'⟩ s' ⟨rfl,hp,hs,hf⟩
    exact go st' hp hs hf
def nM (prog:AN)(w:Bh)(s:Ax)(v:Au)(vs:List Au):Prop :=
 ∀(A:BA) (E:Au->Ax->Prop) (R:List Au->Ax->Prop),(∀h1,(∀b o,s.heap.get? b=some o->h1.get? b=some o)->s.heap.objs.size<=h1.objs.size->R vs { s with heap:=h1 })->A7 (Bf prog w) A (collect v) R E s
theorem pz {v:Au}{vs:List Au}{Q:Au->Ax->Prop}(hv:nM prog w s v vs)(hz:vs.length<=AH)(C:mq prog w s vs O key)
  (h:∀(h':Heap) (p:Addr) (out:List Au) (n:Nat),(∀b o,s.heap.get? b=some o->h'.get? b=some o)->s.heap.objs.size<=p->h'.get? p=some (seqObj "list" out.toArray n)->out.Perm vs->out.Pairwise (λx y=>O.kle (key x) (key y))->Q (.ref p) { s with heap:=h' }) :
  A7 (Bf prog w) A (call (.builtin "sorted") [v]) Q E s:=by
 refine Fg kind_sorted plain_sorted entry_sorted (args_sorted1 _) ?_
 unfold Builtin.«sorted»
 refine Ar (m:=checkCount "sorted" 1 1 _) (Ay ?_)
 refine Ar (hv _ _ _ λh1 k1 z1=>Ar (FK ?_ hz))
 have hoL:(h1.push (seqObj "list" vs.toArray 0)).get? h1.objs.size=some (seqObj "list" vs.toArray 0):=AX _ rfl
 have kL:∀b o,s.heap.get? b=some o->(h1.push (seqObj "list" vs.toArray 0)).get? b=some o:=λb o e=>Az _ (k1 b o e)
 refine Ar (BV (BX slot_list_sort ⟨_,hoL,rfl⟩ entry_list_sort (fR (key:=key) (O:=O) hoL hz (λh2 h6 k6 =>?_) λout pm ps=>⟨_,rfl,?_⟩) (args_list_sort _)))
 ·exact C.ok h2 _ h6 λb o e=>k6 b o (A3 (AO (AQ e) z1)) (kL b o e)
 ·obtain ⟨n,en⟩:=sortedHeap_at (out:=out.toArray) hoL
  refine Ay ⟨_,rfl,h _ _ out n (λb o e =>?_) z1 en pm ps⟩
  have lt:=AO (AQ e) z1
  rw[sortedHeap_old (A3 lt) (by rw[IJ];exact Cb lt)]
  exact kL b o e
theorem mv {l:Addr}{o:Obj}{vs:List Au}{n:Nat}(ho:s.heap.get? l=some o)(hc:o.cls = .type "list" \/ o.cls = .type "tuple")(hd:o.data = .seq vs.toArray n)(hz:vs.length<=AH):nM prog w s (.ref l) vs:=by
  intro A E R h
  unfold collect
  refine Ar (Fj (B9 entry_proto_collect' ?_))
  show A7 _ _ (do again (.builtin "list.__iadd__" ⟨[<- newList [],.ref l],[]⟩)) _ _ s
  refine Ar (FK (Ay ⟨Ei _ (by decide +kernel),B9 entry_list_iadd' ?_⟩))
  show A7 _ _ (CY (.ref s.heap.objs.size) (.ref l) (.ref s.heap.objs.size)) _ _ { s with heap:=s.heap.push (seqObj "list" #[] 0) }
  unfold CY
  have ho':(s.heap.push (seqObj "list" #[] 0)).get? l=some o:=Az _ ho
  have cond:∀T,o.cls = .type T->(T = "list" \/ T = "tuple")->A7 (Bf prog w) A (typeOf (.ref l)) (λt s'=>t = .type T/\s'={ s with heap:=s.heap.push (seqObj "list" #[] 0) }) E { s with heap:=s.heap.push (seqObj "list" #[] 0) }:=λT e _=>Dm (T:=T) ⟨o,ho',e⟩ ⟨rfl,rfl⟩
  obtain ⟨T,eT,hT⟩:∃T,o.cls = .type T/\(T = "list" \/ T = "tuple"):=by
    rcases hc with hc | hc
    · exact ⟨_,hc,.inl rfl⟩
    · exact ⟨_,hc,.inr rfl⟩
  refine Ar (Dm (T:=T) ⟨o,ho',eT⟩ ?_)
  rw[if_pos (by rcases hT with rfl | rfl <;> simp)]
  refine Ar (HP ho' hd ?_)
  refine Ar (HP (xs := #[]) (n:=0) (AX _ rfl) rfl ?_)
  rw[if_neg (by simp)]
  refine Ar (Hl (xs := #[]) (n:=0) (AX _ rfl) rfl ?_ (Bl _) (by show (#[]++vs.toArray).size<=AH+1;simp only[DL,Aw,ES];omega))
  refine Ay ?_
  show A7 (Bf prog w) A (do
      let o ← load s.heap.objs.size
      match o.data with
      | .seq xs _=>pure xs.toList
      | _=>unsupported "internal:collect") R E { s with heap:=(s.heap.push (seqObj "list" #[] 0)).update s.heap.objs.size (C4 (· ++ vs.toArray)) }
  refine Ar (II (get?_update_seq (AX _ rfl) _) ?_)
  show A7 _ _ (pure ((#[]:Array Au)++vs.toArray).toList) R E _
  rw[show ((#[]:Array Au)++vs.toArray).toList=vs by simp]
  refine Ay (h _ (λb ob e =>?_) ?_)
  · rw[GH _ _ _ _ (A3 (AQ e))]
    exact Az _ e
  · rw[Heap.size_update,IJ]
    exact EN _
end
open PySem PyProof.Rows
def intOrd:EK where
 α:=Int
 blt:=λa b=>decide (a<b)
 irrefl:=λa=>by simp
 trans:=λa b c h1 h2=>by simp at *;omega
 negTrans:=λa b c h=>by simp at *;omega
 total:=λa b h1 h2=>by simp at *;omega
theorem lex_irrefl:∀a,HT.lexLt a a=false
 | []=>rfl
 | x :: xs=>by rw[HT.dS,if_pos rfl];exact lex_irrefl xs
theorem lex_trans:∀a b c,HT.lexLt a b=true->HT.lexLt b c=true->HT.lexLt a c=true
 | [],[],_,h,_=>by cases h
 | [],_ :: _,[],_,h=>by cases h
 | [],_ :: _,_ :: _,_,_=>rfl
 | _ :: _,[],_,h,_=>by cases h
 | _ :: _,_ :: _,[],_,h=>by cases h
 | x :: xs,y :: ys,z :: zs,h1,h2=>by
  rw[HT.dS] at *
  by_cases e1:x=y
  ·subst e1
   rw[if_pos rfl] at h1
   by_cases e2:x=z
   ·rw[if_pos e2] at h2 ⊢
    exact lex_trans xs ys zs h1 h2
   ·rw[if_neg e2] at h2 ⊢
    exact h2
  ·rw[if_neg e1] at h1
   have l1:=of_decide_eq_true h1
   by_cases e2:y=z
   ·subst e2
    rw[if_neg e1]
    exact h1
   ·rw[if_neg e2] at h2
    have l2:=of_decide_eq_true h2
    rw[if_neg (by omega)]
    exact decide_eq_true (by omega)
theorem fH:∀a b,HT.lexLt a b=false->HT.lexLt b a=false->a=b
 | [],[],_,_=>rfl
 | [],_ :: _,h,_=>by cases h
 | _ :: _,[],_,h=>by cases h
 | x :: xs,y :: ys,h1,h2=>by
  rw[HT.dS] at *
  by_cases e:x=y
  ·subst e
   rw[if_pos rfl] at h1 h2
   rw[fH xs ys h1 h2]
  ·rw[if_neg e] at h1
   rw[if_neg (CK e)] at h2
   have a1:=of_decide_eq_false h1
   have a2:=of_decide_eq_false h2
   omega
theorem wz (a b c:List Int)(h:HT.lexLt a c=true):HT.lexLt a b=true\/HT.lexLt b c=true:=by
 cases h1:HT.lexLt a b with
 | true=>exact .inl rfl
 | false =>
  right
  cases h2:HT.lexLt b a with
  | true=>exact lex_trans b a c h2 h
  | false=>rw[<- fH a b h1 h2];exact h
def lexOrd:EK where
 α:=List Int
 blt:=HT.lexLt
 irrefl:=lex_irrefl
 trans:=lex_trans
 negTrans:=wz
 total:=fH
def intOf:Au->Int
 | .int i _=>i
 | _=>0
section
variable  {prog:AN}{w:Bh}{A:BA}{E:Au->Ax->Prop}{s:Ax}
def cB (h:Heap)(v:Au):List Int:=match v with
 | .ref p=>match h.get? p with
  | some o=>match o.data with
   | .seq xs _=>xs.toList.map intOf
   | _=>[]
  | none=>[]
 | _=>[]
def cV (h:Heap)(v:Au)(ns:List Int):Prop:=∃p o xs n,v = .ref p/\h.get? p=some o/\o.cls = .type "tuple" /\ o.data = .seq xs n/\DJ xs.toList ns
theorem ints_map:∀{vs:List Au} {ns:List Int},DJ vs ns->vs.map intOf=ns
 | _,_,.nil=>rfl
 | _,_,.cons n t r=>by rw[Bd,ints_map r];rfl
theorem cV.ints {h:Heap}{v:Au}{ns:List Int}(x:cV h v ns):cB h v=ns:=by
 obtain ⟨p,o,xs,n,rfl,e,_,d,r⟩:=x
 unfold cB
 dsimp only
 rw[e]
 dsimp only
 rw[d]
 exact ints_map r
theorem cV.keeps {h h':Heap}{v:Au}{ns:List Int}(x:cV h v ns)(k:∀b o,h.get? b=some o->h'.get? b=some o):cV h' v ns:=by
 obtain ⟨p,o,xs,n,rfl,e,r⟩:=x
 exact ⟨p,o,xs,n,rfl,k _ _ e,r⟩
theorem nN {fin:Bool}{Q:Bool->Ax->Prop}:∀{us ws:List Au} {ns ms:List Int} (i:Nat),DJ us ns->DJ ws ms->(fin=true↔(decide (ns.length<ms.length)=true))->Q (HT.lexLt ns ms) s →
  PySem.W.KatLex prog w A true fin Q (us.zip ws) i s
 | _,_,_,_,i,.nil,.nil,hf,q=>by
  refine Gd ?_
  have e:fin=false:=by cases fin with
   | false=>rfl
   | true=>have:=hf.mp rfl;simp at this
  rw[e];exact q
 | _,_,_,_,i,.nil,.cons _ _ _,hf,q=>by
  refine Gd ?_
  have e:fin=true:=hf.mpr (by simp)
  rw[e];exact q
 | _,_,_,_,i,.cons _ _ _,.nil,hf,q=>by
  refine Gd ?_
  have e:fin=false:=by cases fin with
   | false=>rfl
   | true=>have:=hf.mp rfl;simp at this
  rw[e];exact q
 | _,_,_,_,i,.cons (ns:=ns) a t r,.cons (ns:=ms) c u r',hf,q=>by
  rw[G3]
  refine PySem.W.kat_cons (wpAny_eqBool_int ?_)
  rw[HT.dS] at q
  by_cases e:a=c
  ·rw[if_pos e] at q
   rw[beq_iff_eq.mpr e]
   exact PySem.W.kat_yes (nN (i+1) r r' (by rw[hf];simp) q)
  ·rw[if_neg e] at q
   rw[beq_eq_false_iff_ne.mpr e]
   refine PySem.W.kat_no ?_
   by_cases i0:(true && i == 0)=true
   ·rw[i0]
    exact oneLt_int q
   ·rw[Hv.mpr i0,oneLt'_eq]
    simp only[A1,if_false]
    refine Ar (HT.tX _ _ a t c u prog w _ _ ?_)
    exact CT q
theorem jC {h:Heap}:∀{vs:List Au},(∀v∈vs,∃ns,cV h v ns/\ns≠[])->∃fs,PySem.W.KatTups h vs fs/\fs.length=vs.length/\∀f∈fs,∃i t,f = .int i t
 | [],_=>⟨[],trivial,rfl,λf hf=>by cases hf⟩
 | v :: vs,hv=>by
  obtain ⟨fs,t,l,hf⟩:=jC λu hu=>hv u (AL _ hu)
  obtain ⟨ns,⟨p,o,xs,n,rfl,e,c,d,r⟩,ne⟩:=hv v AM
  have hx:∃i t,xs[0]? = some (.int i t):=by
   rw[<- AJ]
   generalize xs.toList=l at r
   cases r with
   | nil=>exact absurd rfl ne
   | cons i t r=>exact ⟨i,t,rfl⟩
  obtain ⟨i,t',hx⟩:=hx
  exact ⟨.int i t' :: fs,IT e c d hx t,by rw[Bk,Bk,l],λf hf'=>by
   rcases AU.mp hf' with q | q
   ·exact ⟨i,t',q⟩
   ·exact hf f q⟩
theorem gJ {vs:List Au}(hv:∀v∈vs,∃ns,cV s.heap v ns/\ns≠[]):mq prog w s vs lexOrd (cB s.heap):=by
 refine ⟨λh2 A h6 k6=>⟨tuples' true,λQ E q =>?_,⟨λE st x y Q hk hx hy q =>?_⟩⟩⟩
 ·obtain ⟨fs,t,l,hf⟩:=jC (h:=h6) (vs:=vs) λv hv'=>by
   obtain ⟨ns,i,ne⟩:=hv v hv'
   exact ⟨ns,i.keeps k6,ne⟩
  refine PySem.W.kat_kind (T :=.type "int") t (by omega) (λf hf' =>?_) rfl q
  obtain ⟨i,t',rfl⟩:=hf f hf'
  exact IQ rfl
 ·obtain ⟨ns,i1,_⟩:=hv _ hx.2
  obtain ⟨ms,i2,_⟩:=hv _ hy.2
  have q':Q (some (HT.lexLt (cB s.heap x.1) (cB s.heap y.1))) st:=q
  rw[i1.ints,i2.ints] at q'
  obtain ⟨p1,o1,xs1,n1,e1,g1,c1,d1,r1⟩:=i1.keeps k6
  obtain ⟨p2,o2,xs2,n2,e2,g2,c2,d2,r2⟩:=i2.keeps k6
  rw[lt'_eq]
  refine AR (FJ ?_)
  rw[hk,e1,e2]
  have l1:=r1.length
  have l2:=r2.length
  refine AR (Gv (Hk (PySem.W.kat_lt g1 d1 g2 d2 (nN 0 r1 r2 ?_ ⟨rfl,?_⟩))))
  ·rw[<- l1, <- l2,AF,AF]
  ·exact AZ q'
end
end Srt
namespace L2
open PySem PySem.Spec PyProof.Rows
theorem jD {α β:Type}{f:α -> β}:∀{l:List β} {m:List α},l.Perm (m.map f)->∃m':List α,m'.Perm m/\l=m'.map f:=by
 intro l m h
 generalize hk:m.map f=k at h
 induction h generalizing m with
 | nil =>
  have:m=[]:=D2.mp hk
  exact ⟨[],by rw[this],rfl⟩
 | cons x _ ih =>
  match m,hk with
  | y :: m,hk =>
   rw[Bd] at hk
   injection hk with h1 h2
   obtain ⟨m',p,e⟩:=ih h2
   exact ⟨y :: m',p.cons y,by rw[Bd, <- e,h1]⟩
  | [],hk=>cases hk
 | swap x y l =>
  match m,hk with
  | a :: b :: m,hk =>
   rw[Bd,Bd] at hk
   injection hk with h1 h2
   injection h2 with h2 h3
   exact ⟨b :: a :: m,List.Perm.swap a b m,by rw[Bd,Bd,h1,h2,h3]⟩
  | [],hk=>cases hk
  | [_],hk=>simp at hk
 | trans _ _ ih1 ih2 =>
  obtain ⟨m',p,e⟩:=ih2 hk
  obtain ⟨m'',p',e'⟩:=ih1 e.symm
  exact ⟨m'',p'.trans p,e'⟩
theorem cQ:∀{ns:List Int} {us:List Au},Vals (ns.map V.int) us->DJ us ns:=λr=>intsAre_of r
theorem mw:∀{us:List Au} {ns:List Int},DJ us ns->Vals (ns.map V.int) us:=λr=>ic r
theorem lB:∀{us:List Au},(∀u∈us,∃i t,u=Cs i t)->DJ us (us.map Srt.intOf)
 | [],_ =>.nil
 | u :: us,h=>by
  obtain ⟨i,t,e⟩:=h u AM
  subst e
  exact .cons i t (lB λv hv=>h v (AL _ hv))
theorem dF:∀{α:Type} {f:α -> Addr} {ps:List α} {us:List Au},Vals (ps.map λx=>V.ref (f x)) us->us=ps.map λx=>AS (f x)
 | _,_,[],_,r=>by cases r;rfl
 | _,f,p :: ps,_,r=>by
  cases r with
  | cons h t=>rw[Bd, <- dF t,show _=AS (f p) from h]
theorem fI {α:Type}{f:α -> Addr}:∀{ps:List α},Vals (ps.map λx=>V.ref (f x)) (ps.map λx=>AS (f x))
 | [] =>.nil
 | p :: ps =>.cons rfl fI
section
variable  {X:Cx}
theorem Inv.uE {pins:List (Addr×Obj)}{σ:St}{H:Hp}{s:Ax}{p:Addr}{ys:List V}(I:Inv X pins σ H s)(h:SqL X.K H p ys\/SqT X.K H p ys) :
  ∃(its:List Au) (o:Obj) (n:Nat),Vals ys its/\s.heap.get? p=some o/\(o.cls = .type "list" \/ o.cls = .type "tuple")/\o.data = .seq its.toArray n/\ys.length<=AH:=by
 rcases h with h | h
 ·obtain ⟨its,r,⟨o,n,e,c,_,d⟩,z⟩:=I.list h
  exact ⟨its,o,n,r,e,.inl c,d,z⟩
 ·obtain ⟨its,r,⟨o,e,c,n,d⟩,z⟩:=I.tuple h
  exact ⟨its,o,n,r,e,.inr c,d,z⟩
theorem Inv.newList {pins:List (Addr×Obj)}{σ:St}{H:Hp}{s:Ax}{h':Heap}{p:Addr}{ys:List V}{its:List Au}{n:Nat}(I:Inv X pins σ H s)(k:∀b o,s.heap.get? b=some o->h'.get? b=some o)(hp:s.heap.objs.size<=p)
  (e:h'.get? p=some { cls :=.type "list",data :=.seq its.toArray n }) (r:Vals ys its) (hz:ys.length<=AH):Inv X pins σ (upd H p (.lst ys)) { s with heap:=h' } :=
 I.laid (t':=s.toks) k hp ⟨hz,its,n,r,e⟩
theorem bS:cj X (.builtin "sorted") (λxs H Q=>∃(p:Addr) (ts:List (Addr×List Int)),xs=[.ref p]/\(SqL X.K H p (ts.map λt =>.ref t.1)\/SqT X.K H p (ts.map λt =>.ref t.1))/\(∀t∈ts,SqT X.K H t.1 (t.2.map V.int)/\t.2≠[]) ∧
  ∀(l:Addr) (out:List (Addr×List Int)),H l=none->out.Perm ts->out.Pairwise (λa b=>HT.lexLt b.2 a.2=false)->Q (.ref l) (upd H l (.lst (out.map λt =>.ref t.1)))):=by
 intro pins s σ H xs us Q I r h
 obtain ⟨p,ts,rfl,hs,ht,q⟩:=h
 obtain ⟨u,rfl,ru⟩:=vals1 r
 cases (show u=AS p from ru)
 obtain ⟨its,o,n,rv,e,c,d,z⟩:=I.uE hs
 have ei:=dF rv
 have lz:its.length<=AH:=by rw[<- rv.length];exact z
 have tup:∀t∈ts,Srt.cV s.heap (AS t.1) t.2:=λt hm=>by
  obtain ⟨jts,jr,⟨jo,je,jc,jn,jd⟩,_⟩:=I.tuple (ht t hm).1
  exact ⟨t.1,jo,_,jn,rfl,je,jc,jd,by simpa using cQ jr⟩
 have hv:∀v∈its,∃ns,Srt.cV s.heap v ns/\ns≠[]:=λv hv=>by
  rw[ei] at hv
  obtain ⟨t,hm,rfl⟩:=A6.mp hv
  exact ⟨t.2,tup t hm,(ht t hm).2⟩
 refine Srt.pz (Srt.mv e c d lz) lz (Srt.gJ hv) λh' l out m k hl el pm ps =>?_
 rw[ei] at pm
 obtain ⟨out',pm',rfl⟩:=jD pm
 refine ⟨.ref l,_,I.newList k hl el fI (by rw[Aq,pm'.length_eq, <- Aq (f:=λt:Addr×List Int=>V.ref t.1)];exact z),rfl,q l _ (I.hok.fresh hl) pm' ?_⟩
 refine (BE.mp ps).imp_of_mem λ{a b} ha hb le =>?_
 have le':HT.lexLt (Srt.cB s.heap (AS b.1)) (Srt.cB s.heap (AS a.1))=false:=le
 rw[(tup a (pm'.mem_iff.mp ha)).ints,(tup b (pm'.mem_iff.mp hb)).ints] at le'
 exact le'
end
open PySem PySem.Spec PyProof.Rows
def cW (a b:List Int):Prop:=HT.lexLt b a=false
theorem cX:∀{l m:List (List Int)},l.Perm m->l.Pairwise cW->m.Pairwise cW->l=m
 | [],m,p,_,_=>(List.Perm.nil_eq p)
 | a :: l,[],p,_,_=>absurd p.length_eq (by simp)
 | a :: l,b :: m,p,h1,h2=>by
  have e:a=b:=by
   have ha:a∈b :: m:=p.mem_iff.mp AM
   have hb:b∈a :: l:=p.mem_iff.mpr AM
   rcases AU.mp ha with z | z
   ·exact z
   rcases AU.mp hb with y | y
   ·exact y.symm
   have q1:=(C7.mp h1).1 b y
   have q2:=(C7.mp h2).1 a z
   exact Srt.fH a b q2 q1
  subst e
  rw[cX ((List.perm_cons a).mp p) (C7.mp h1).2 (C7.mp h2).2]
open PySem PySem.Spec PyProof.Rows
section
variable  {X:Cx}{tg:Expr}
end
theorem nO {X:Cx}{K:Av}{x y:Str}{i j k:Nat}{p p' pos:Pos}(hN:X.N.Nodup)(hi:X.N[i]? = some x)(hj:X.N[j]? = some y)(hx:Loc X.env.scope x)(hy:Loc X.env.scope y)(hc:X.calm=true:=by rfl)(h:X.K=K:=by rfl)
  (hf:X.fn x=true\/X.env.scope.names.lookup x=some .local:=by first | exact .inl rfl | exact .inr rfl) (hg:X.fn y=true\/X.env.scope.names.lookup y=some .local:=by first | exact .inl rfl | exact .inr rfl):PG X (.Tuple [.Name x p,.Name y p'] k pos) (uh K i j):=by
 subst h
 exact yi hc (nC (aN hN hi hx hf) (nC (aN hN hj hy hg) vQ))
end L2
namespace STab
open PySem PySem.SetTable
def my (xs:Array Nat):Prop:=∀i j a b:Nat,xs[i]? = some a->xs[j]? = some b->i<j->a<b
theorem uF {xs:Array Nat}(R:my xs)(j:Nat):∀(fuel lo hi:Nat),lo<=hi->hi<=xs.size->hi-lo<=fuel →
  (∀i a,i<lo->xs[i]? = some a->a<j)->(∀i a,hi<=i->xs[i]? = some a->j<=a) →
  below.go xs j fuel lo hi<=xs.size/\(∀i a,xs[i]? = some a->(i<below.go xs j fuel lo hi↔a<j)):=by
 intro fuel
 induction fuel with
 | zero =>
  intro lo hi h1 h2 h3 h4 h5
  unfold below.go
  refine ⟨by omega,λi a e=>⟨λq=>h4 i a q e,λq =>?_⟩⟩
  apply Dt
  intro q2
  have:=h5 i a (by omega) e
  omega
 | succ fuel ih =>
  intro lo hi h1 h2 h3 h4 h5
  unfold below.go
  by_cases hl:lo<hi
  ·rw[if_pos hl]
   dsimp only
   have hm:(lo+hi)/2<xs.size:=by omega
   have em:xs[(lo+hi)/2]? = some xs[(lo+hi)/2]:=A8 hm
   have eg:xs.getD ((lo+hi)/2) j=xs[(lo+hi)/2]:=by simp[Array.getD,hm]
   rw[eg]
   by_cases hc:xs[(lo+hi)/2]<j
   ·rw[if_pos hc]
    refine ih _ _ (by omega) h2 (by omega) (λi a q e =>?_) h5
    by_cases q2:i=(lo+hi)/2
    ·rw[q2,em] at e;cases e;exact hc
    ·exact Nat.lt_trans (R i _ _ _ e em (by omega)) hc
   ·rw[if_neg hc]
    refine ih _ _ (by omega) (by omega) (by omega) h4 (λi a q e =>?_)
    by_cases q2:i=(lo+hi)/2
    ·rw[q2,em] at e;cases e;omega
    ·have:=R _ i _ _ em e (by omega)
     omega
  ·rw[if_neg hl]
   refine ⟨by omega,λi a e=>⟨λq=>h4 i a q e,λq =>?_⟩⟩
   apply Dt
   intro q2
   have:=h5 i a (by omega) e
   omega
theorem cY {xs:Array Nat}(R:my xs)(j:Nat):below xs j<=xs.size/\∀i a,xs[i]? = some a->(i<below xs j↔a<j) :=
 uF R j _ _ _ (Bl _) (AE _) (by omega) (λi a h=>by omega) λi a h e=>by
  rw[Dx (by omega)] at e;cases e
theorem below_at {xs:Array Nat}(R:my xs){i j:Nat}(h:xs[i]? = some j):below xs j=i:=by
 obtain ⟨h1,h2⟩:=cY R j
 have hi:i<xs.size:=by
  apply Dt;intro q;rw[Dx q] at h;cases h
 have a1:¬ i<below xs j:=λq=>by have:=(h2 i j h).mp q;omega
 apply Eh (by omega)
 apply Ey
 intro q
 have e:=A8 (xs:=xs) (i:=below xs j) (by omega)
 have l1:=R _ _ _ _ e h q
 have:=(h2 _ _ e).mpr l1
 omega
theorem pB {xs:Array Nat}(R:my xs){i j:Nat}(h:xs[i]? = some j):below xs (j+1)=i+1:=by
 obtain ⟨h1,h2⟩:=cY R (j+1)
 have a1:i<below xs (j+1):=(h2 i j h).mpr (by omega)
 apply Eh _ a1
 apply Ey
 intro q
 have hk:i+1<xs.size:=by omega
 have e:=A8 (xs:=xs) hk
 have l1:=R _ _ _ _ h e (by omega)
 have:=(h2 _ _ e).mp q
 omega
theorem pC {xs:Array Nat}(R:my xs):below xs 0=0:=by
 obtain ⟨h1,h2⟩:=cY R 0
 apply Eh _ (Bl _)
 apply Ey
 intro q
 have:=(h2 0 _ (A8 (by omega))).mp q
 omega
theorem bI {α:Type}(xs:Array α)(p:Nat)(x:α):(insertAt xs p x).toList=xs.toList.take p++x :: xs.toList.drop p:=by
 unfold insertAt
 simp
 rw[Bi (by simp)]
theorem bT {α:Type}(xs:Array α){p:Nat}(hp:p<=xs.size)(x:α)(i:Nat) :
  (insertAt xs p x)[i]? = if i<p then xs[i]? else if i=p then some x else xs[i-1]? := by
 rw[<- AJ,bI]
 have hl:(xs.toList.take p).length=p:=by rw[Bz,AF];omega
 by_cases h1:i<p
 ·rw[if_pos h1,CD (by omega),Cq,if_pos h1,AJ]
 ·rw[if_neg h1,Cw (by omega),hl]
  by_cases h2:i=p
  ·rw[if_pos h2,h2,Nat.sub_self];rfl
  ·rw[if_neg h2]
   obtain ⟨d,hd⟩:∃d,i-p=d+1:=⟨i-p-1,by omega⟩
   rw[hd,Dq,Dy,AJ]
   congr 1;omega
theorem bY {α:Type}(xs:Array α)(p:Nat)(x:α):(insertAt xs p x).size=xs.size+1:=by
 rw[<- AF,bI,As,Bk,Bz,Ca,AF]
 omega
theorem insertAt_perm {α:Type}(xs:Array α)(p:Nat)(x:α):(insertAt xs p x).toList.Perm (x :: xs.toList):=by
 rw[bI]
 exact HW.trans (by rw[CG])
theorem d8 {α β:Type}(xs:Array α)(p:Nat)(x:α)(f:α -> β):(insertAt xs p x).map f=insertAt (xs.map f) p (f x):=by
 apply HX.mp
 rw[EC,bI,bI,EC,AA,Bd,DM,FF]
theorem kA {xs:Array Nat}(R:my xs){j:Nat}(hj:∀i:Nat,xs[i]? ≠ some j):my (insertAt xs (below xs j) j):=by
 obtain ⟨h1,h2⟩:=cY R j
 intro a b x y ea eb hab
 rw[bT _ h1] at ea eb
 by_cases a1:a<below xs j
 ·rw[if_pos a1] at ea
  have:=(h2 _ _ ea).mp a1
  by_cases b1:b<below xs j
  ·rw[if_pos b1] at eb;exact R _ _ _ _ ea eb hab
  ·rw[if_neg b1] at eb
   by_cases b2:b=below xs j
   ·rw[if_pos b2] at eb;cases eb;exact this
   ·rw[if_neg b2] at eb
    exact R _ _ _ _ ea eb (by omega)
 ·rw[if_neg a1] at ea
  rw[if_neg (by omega),if_neg (by omega)] at eb
  have l1:¬ y<j:=λq=>by have:=(h2 _ _ eb).mpr q;omega
  by_cases a2:a=below xs j
  ·rw[if_pos a2] at ea;cases ea
   have:y≠j:=λq=>hj _ (q ▸ eb)
   omega
  ·rw[if_neg a2] at ea
   exact R _ _ _ _ ea eb (by omega)
def occ (t:SetTable)(j:Nat):Prop:=∃i:Nat,t.place[i]? = some j
theorem ij {t:SetTable}(R:my t.place){i j:Nat}(h:t.place[i]? = some j):t.slot j = .live i:=by
 unfold SetTable.slot
 dsimp only
 rw[below_at R h,h]
 simp
theorem pE {t:SetTable}(D:t.dummies = #[]){j:Nat}(h:¬ occ t j):t.slot j = .empty:=by
 unfold SetTable.slot
 dsimp only
 have h1:(t.place[below t.place j]? == some j)=false:=by
  rw[beq_eq_false_iff_ne];exact λq=>h ⟨_,q⟩
 rw[h1,D]
 simp[has]
def adv (mask:Nat)(p:Probe):Probe :=
 if p.more>0 then { p with j:=p.j+1,more:=p.more-1 } else
 let (i,perturb):=leap mask p.i p.perturb
 { p with j:=i,more:=runEnd mask i-i,i,perturb }
def cF (mask i perturb:Nat):Probe:={ j:=i,more:=runEnd mask i-i,i,perturb,dummy:=none }
def start (mask:Nat)(h:Int):Probe:=cF mask (bits h%(mask+1)) (bits h)
inductive Way (oc:Nat->Prop)(mask:Nat):Nat->Probe->Probe->Prop
 | here (p:Probe):Way oc mask 0 p p
 | step {n:Nat} {p q:Probe}:oc p.j->Way oc mask n (adv mask p) q->Way oc mask (n+1) p q
theorem Way.mono {oc oc':Nat->Prop}{mask n:Nat}{p q:Probe}(m:∀j,oc j->oc' j)(h:Way oc mask n p q):Way oc' mask n p q:=by
 induction h with
 | here p=>exact .here p
 | step a _ ih=>exact .step (m _ a) ih
theorem Way.dummy {oc:Nat->Prop}{mask n:Nat}{p q:Probe}(h:Way oc mask n p q):q.dummy=p.dummy:=by
 induction h with
 | here p=>rfl
 | @step n p q _ _ ih =>
  rw[ih];unfold adv;split <;> rfl
theorem yN {mask:Nat}{p:Probe}(h:p.j+p.more<=mask):(adv mask p).j+(adv mask p).more<=mask:=by
 unfold adv
 split
 ·dsimp only;omega
 ·dsimp only[leap]
  have:(p.i*5+1+p.perturb/32)%(mask+1)<mask+1:=CJ _ (D6 mask)
  unfold runEnd
  split <;> omega
theorem nP (mask:Nat)(h:Int):(start mask h).j+(start mask h).more<=mask:=by
 unfold start cF
 dsimp only
 have:bits h%(mask+1)<mask+1:=CJ _ (D6 mask)
 unfold runEnd
 split <;> omega
theorem Way.le {oc:Nat->Prop}{mask n:Nat}{p q:Probe}(h:Way oc mask n p q):p.j+p.more<=mask->q.j<=mask:=by
 induction h with
 | here p=>intro;omega
 | step _ _ ih=>intro h;exact ih (yN h)
def mz (mask:Nat):Nat->Probe->Probe
 | 0,p=>p
 | n+1,p=>mz mask n (adv mask p)
theorem nQ (mask:Nat):∀(a b:Nat) (p:Probe),mz mask (a+b) p=mz mask b (mz mask a p)
 | 0,b,p=>by rw[CH];rfl
 | a+1,b,p=>by rw[show a+1+b=(a+b)+1 by omega];exact nQ mask a b (adv mask p)
theorem sf (oc:Nat->Prop)(mask:Nat):∀(n:Nat) (p:Probe),¬ oc (mz mask n p).j->∃k q,k<=n/\Way oc mask k p q/\¬ oc q.j:=by
 intro n
 induction n with
 | zero=>intro p h;exact ⟨0,p,AE _,.here p,h⟩
 | succ n ih =>
  intro p h
  by_cases hp:oc p.j
  ·obtain ⟨k,q,a,b,c⟩:=ih (adv mask p) h
   exact ⟨k+1,q,by omega,.step hp b,c⟩
  ·exact ⟨0,p,Bl _,.here p,hp⟩
theorem wA (mask:Nat):∀(m:Nat) (p:Probe),p.more=m->p.dummy=none->mz mask (m+1) p=cF mask (leap mask p.i p.perturb).1 (leap mask p.i p.perturb).2:=by
 intro m
 induction m with
 | zero =>
  intro p h d
  show adv mask p=_
  unfold adv
  rw[if_neg (by omega)]
  obtain ⟨j,mo,i,pe,dm⟩:=p
  cases d
  rfl
 | succ m ih =>
  intro p h d
  show mz mask (m+1) (adv mask p)=_
  have e:adv mask p={ p with j:=p.j+1,more:=p.more-1 }:=by unfold adv;rw[if_pos (by omega)]
  rw[e]
  exact ih _ (by dsimp only;omega) d
def cn (mask:Nat):Nat->Nat×Nat->Nat×Nat
 | 0,x=>x
 | k+1,x=>cn mask k (leap mask x.1 x.2)
theorem lC (mask:Nat):∀(a b:Nat) (x:Nat×Nat),cn mask (a+b) x=cn mask b (cn mask a x)
 | 0,b,x=>by rw[CH];rfl
 | a+1,b,x=>by rw[show a+1+b=(a+b)+1 by omega];exact lC mask a b _
theorem more_le (mask i:Nat):runEnd mask i-i<=9:=by unfold runEnd;split <;> omega
theorem pF (mask:Nat):∀(k i pe:Nat),∃n,n<=10*k/\mz mask n (cF mask i pe)=cF mask (cn mask k (i,pe)).1 (cn mask k (i,pe)).2:=by
 intro k
 induction k with
 | zero=>intro i pe;exact ⟨0,by omega,rfl⟩
 | succ k ih =>
  intro i pe
  obtain ⟨n,h1,h2⟩:=ih (leap mask i pe).1 (leap mask i pe).2
  refine ⟨(runEnd mask i-i+1)+n,by have:=more_le mask i;omega,?_⟩
  rw[nQ,wA mask (runEnd mask i-i) (cF mask i pe) rfl rfl]
  exact h2
theorem fS (mask:Nat):∀(k i pe:Nat),(cn mask k (i,pe)).2=pe/32 ^ k
 | 0,i,pe=>by simp[cn]
 | k+1,i,pe=>by
  show (cn mask k (leap mask i pe)).2=_
  rw[show leap mask i pe=((leap mask i pe).1,pe/32) from rfl,fS mask k,Nat.div_div_eq_div_mul,HK,HL 32]
theorem nR (mask:Nat):∀(k i pe:Nat),i<=mask->(cn mask k (i,pe)).1<=mask
 | 0,i,pe,h=>h
 | k+1,i,pe,h=>by
  show (cn mask k (leap mask i pe)).1<=mask
  rw[show leap mask i pe=((leap mask i pe).1,pe/32) from rfl]
  exact nR mask k _ _ (DN (CJ _ (D6 mask)))
def ste (m i:Nat):Nat:=(i*5+1)%m
def its (m:Nat):Nat->Nat->Nat
 | 0,i=>i
 | n+1,i=>its m n (ste m i)
theorem cC (m:Nat):∀(a b i:Nat),its m (a+b) i=its m b (its m a i)
 | 0,b,i=>by rw[CH];rfl
 | a+1,b,i=>by rw[show a+1+b=(a+b)+1 by omega];exact cC m a b _
def orb (m:Nat):Nat->Nat->List Nat
 | 0,_=>[]
 | n+1,i=>i :: orb m n (ste m i)
theorem qA (m:Nat):∀(n i j:Nat),j∈orb m n i->∃r,r<n/\its m r i=j
 | 0,i,j,h=>by cases h
 | n+1,i,j,h=>by
  rcases AU.mp h with h | h
  ·exact ⟨0,by omega,h.symm⟩
  ·obtain ⟨r,a,b⟩:=qA m n _ _ h
   exact ⟨r+1,by omega,b⟩
def whole (m:Nat):Prop:=(∀j,j<m->∃r,r<m/\its m r 0=j)/\its m m 0=0
theorem sg {m:Nat}(h:whole m){i j:Nat}(hi:i<m)(hj:j<m):∃r,r<m/\its m r i=j:=by
 obtain ⟨h1,h2⟩:=h
 obtain ⟨a,a1,a2⟩:=h1 i hi
 obtain ⟨b,b1,b2⟩:=h1 j hj
 by_cases hab:a<=b
 ·refine ⟨b-a,by omega,?_⟩
  rw[<- a2, <- cC,show a+(b-a)=b by omega]
  exact b2
 ·refine ⟨m+b-a,by omega,?_⟩
  rw[<- a2, <- cC,show a+(m+b-a)=m+b by omega,cC,h2]
  exact b2
theorem gK {m:Nat}(h:(((Ba m).all λj=>(orb m m 0).contains j) && (its m m 0 == 0))=true):whole m:=by
 rw[BC,BF,beq_iff_eq] at h
 exact ⟨λj hj=>qA m m 0 j (List.contains_iff_mem.mp (h.1 j (BG.mpr hj))),h.2⟩
theorem yO:whole 8:=gK (by decide +kernel)
theorem wB:whole 32:=gK (by decide +kernel)
theorem uG:whole 128:=gK (by decide +kernel)
theorem nS:whole 512:=gK (by decide +kernel)
def kB:Nat->Nat
 | 0=>0
 | n+1=>5 ^ n+kB n
theorem qB (m:Nat):∀n i,its m n i%m=(5 ^ n*i+kB n)%m
 | 0,i=>by show i%m=(5 ^ 0*i+0)%m;rw[Nat.pow_zero,Nat.one_mul,HJ]
 | n+1,i=>by
  show its m n (ste m i)%m=_
  rw[qB m n]
  show (5 ^ n*((i*5+1)%m)+kB n)%m=(5 ^ (n+1)*i+(5 ^ n+kB n))%m
  have e:(5 ^ n*((i*5+1)%m))%m=(5 ^ n*(i*5+1))%m:=by rw[Ii,Nat.mod_mod, <- Ii]
  rw[Ij,e, <- Ij]
  congr 1
  rw[HK,Nat.mul_add,Nat.mul_one,HL i 5, <- Nat.mul_assoc]
  omega
theorem pG {m:Nat}(h0:0<m):∀n i,i<m->its m n i<m
 | 0,i,h=>h
 | n+1,i,_=>pG h0 n _ (CJ _ h0)
theorem pH {m:Nat}(h0:0<m){n i:Nat}(hi:i<m):its m n i=(5 ^ n*i+kB n)%m:=by
 rw[<- qB,Nat.mod_eq_of_lt (pG h0 n i hi)]
set_option exponentiation.threshold 600 in
theorem zU:5 ^ 512%2048=1/\kB 512%2048%512=0/\kB 512%2048/512%2=1:=by decide +kernel
set_option exponentiation.threshold 600 in
theorem wC {i:Nat}(hi:i<2048):its 2048 512 i=(i+kB 512%2048)%2048:=by
 rw[pH (by decide) hi,Ij,Ii,zU.1,Nat.one_mul,Nat.mod_mod]
 exact Nat.mod_add_mod _ _ _
theorem si:whole 2048:=by
 obtain ⟨_,g1,g2⟩:=zU
 have gl:kB 512%2048<2048:=CJ _ (by decide)
 have lp:=@wC
 generalize kB 512%2048=u at g1 g2 gl lp
 have hu:u=512\/u=1536:=by omega
 clear g1 g2 gl
 have two:∀{i},i<2048->its 2048 1024 i=(i+1024)%2048:=λ{i} hi=>by
  rw[show 1024=512+512 from rfl,cC,lp hi,lp (CJ _ (by decide))];omega
 have fou:∀{i},i<2048->its 2048 2048 i=i:=λ{i} hi=>by
  rw[show 2048=1024+1024 from rfl,cC]
  show its 2048 1024 (its 2048 1024 i)=i
  rw[two hi,two (CJ _ (by decide))];omega
 have thr:∀{i},i<2048->its 2048 1536 i=(i+u+1024)%2048:=λ{i} hi=>by
  rw[show 1536=1024+512 from rfl,cC,two hi,lp (CJ _ (by decide))];omega
 refine ⟨λj hj =>?_,fou (by decide)⟩
 obtain ⟨r,r1,r2⟩:=nS.1 (j%512) (CJ _ (by decide))
 have a:its 2048 r 0%512=j%512:=by
  rw[pH (by decide) (by decide),Nat.mod_mod_of_dvd _ (by decide:512 ∣ 2048), <- r2,pH (by decide) (by decide)]
 have v:=pG (m:=2048) (by decide) r 0 (by decide)
 have q0:its 2048 (r+512) 0=_:=(cC 2048 r 512 0).trans (lp v)
 have q1:its 2048 (r+1024) 0=_:=(cC 2048 r 1024 0).trans (two v)
 have q2:its 2048 (r+1536) 0=_:=(cC 2048 r 1536 0).trans (thr v)
 generalize e0:its 2048 r 0=v0 at a v q0 q1 q2
 have k:v0=j\/(v0+u)%2048=j\/(v0+1024)%2048=j\/(v0+u+1024)%2048=j:=by
  clear q0 q1 q2 two fou thr lp r1 r2 e0
  obtain ⟨c,hc,c4⟩:∃c,v0=j%512+512*c/\c<4:=⟨v0/512,by omega,by omega⟩
  obtain ⟨d,hd,d4⟩:∃d,j=j%512+512*d/\d<4:=⟨j/512,by omega,by omega⟩
  generalize j%512=e at hc hd a
  have e5:e<512:=by omega
  rcases hu with rfl | rfl
  ·rcases (by omega:c=d\/c+1=d\/c+2=d\/c+3=d\/d+1=c\/d+2=c\/d+3=c) with z | z | z | z | z | z | z <;> omega
  ·rcases (by omega:c=d\/c+1=d\/c+2=d\/c+3=d\/d+1=c\/d+2=c\/d+3=c) with z | z | z | z | z | z | z <;> omega
 rcases k with z | z | z | z
 ·exact ⟨r,by omega,e0.trans z⟩
 ·exact ⟨r+512,by omega,q0.trans z⟩
 ·exact ⟨r+1024,by omega,q1.trans z⟩
 ·exact ⟨r+1536,by omega,q2.trans z⟩
def Msk (mask:Nat):Prop:=mask=7\/mask=31\/mask=127\/mask=511\/mask=2047
theorem Msk.whole {mask:Nat}(h:Msk mask):whole (mask+1):=by
 rcases h with rfl | rfl | rfl | rfl | rfl
 ·exact yO
 ·exact wB
 ·exact uG
 ·exact nS
 ·exact si
theorem lD (mask:Nat):∀(r i:Nat),cn mask r (i,0)=(its (mask+1) r i,0)
 | 0,i=>rfl
 | r+1,i=>by
  show cn mask r (leap mask i 0)=_
  rw[show leap mask i 0=(ste (mask+1) i,0) from rfl,lD mask r];rfl
theorem wD (h:Int):bits h<2 ^ 64:=by
 unfold bits
 have h1:=Dz h (show (0:Int)<2 ^ 64 by decide)
 have h0:=Ej h (show (2 ^ 64:Int)≠0 by decide)
 have:((2 ^ 64:Nat):Int)=2 ^ 64:=by decide
 omega
theorem jE {mask:Nat}(hm:Msk mask){h:Int}{j:Nat}(hj:j<=mask):∃k,k<turns mask/\(cn mask k (bits h%(mask+1),bits h)).1=j:=by
 have p0:(cn mask 13 (bits h%(mask+1),bits h)).2=0:=by
  rw[fS]
  exact Nat.div_eq_of_lt (AO (wD h) (by decide))
 have i0:=nR mask 13 (bits h%(mask+1)) (bits h) (DN (CJ _ (D6 mask)))
 obtain ⟨r,r1,r2⟩:=sg hm.whole (i:=(cn mask 13 (bits h%(mask+1),bits h)).1) (j:=j) (by omega) (by omega)
 refine ⟨13+r,by unfold turns;omega,?_⟩
 rw[lC,show cn mask 13 (bits h%(mask+1),bits h)=((cn mask 13 (bits h%(mask+1),bits h)).1,0) from GW rfl p0,lD]
 exact r2
theorem uH {mask:Nat}(hm:Msk mask)(oc:Nat->Prop)(h:Int){j:Nat}(hj:j<=mask)(he:¬ oc j):∃n q,n<10*turns mask/\Way oc mask n (start mask h) q/\¬ oc q.j/\q.j<=mask/\q.dummy=none:=by
 obtain ⟨k,k1,k2⟩:=jE hm (h:=h) hj
 obtain ⟨n,n1,n2⟩:=pF mask k (bits h%(mask+1)) (bits h)
 obtain ⟨n',q,a,b,c⟩:=sf oc mask n (start mask h) (by
  show ¬ oc (mz mask n (cF mask _ _)).j
  rw[n2]
  show ¬ oc (cn mask k (bits h%(mask+1),bits h)).1
  rw[k2]
  exact he)
 exact ⟨n',q,by omega,b,c,b.le (nP mask h),b.dummy⟩
theorem lF {mask n:Nat}(oc:Nat->Prop)(f:Nat->Nat)(hf:∀j,j<=mask->oc j->f j<n)(inj:∀i j,i<=mask->j<=mask->oc i->oc j->f i=f j->i=j)(hn:n<=mask):∃j,j<=mask/\¬ oc j:=by
 by_cases q:∃j,j<=mask/\¬ oc j
 ·exact q
 ·exfalso
  have all:∀j,j<=mask->oc j:=λj hj=>by
   by_cases o:oc j
   ·exact o
   ·exact absurd ⟨j,hj,o⟩ q
  have nd:((Ba (mask+1)).map f).Nodup:=by
   unfold List.Nodup
   rw[BE]
   refine D7 (λ{a b} ha hb hab e=>hab (inj a b ?_ ?_ (all _ ?_) (all _ ?_) e)) (ED)
   all_goals (rw[BG] at ha hb;omega)
  have:=Dj nd (l₂:=Ba n) (λx hx=>by
   obtain ⟨j,hj,e⟩:=A6.mp hx
   rw[BG] at hj ⊢
   rw[<- e]
   exact hf j (by omega) (all j (by omega)))
  rw[Aq,BN,BN] at this
  omega
open PySem PySem.SetTable
structure Tab (t:SetTable)(hs:Array Int):Prop where
 dm:t.dummies = #[]
 rise:my t.place
 size:t.place.size=hs.size
 le:∀i j:Nat,t.place[i]? = some j->j<=t.mask
 msk:Msk t.mask
 fit:hs.size<=t.mask
 reach:∀(i j:Nat) (h:Int),t.place[i]? = some j->hs[i]? = some h->∃n q,Way (occ t) t.mask n (start t.mask h) q/\q.j=j
theorem dG {α:Type}{xs:Array α}{i:Nat}{a:α}(h:xs[i]? = some a):i<xs.size:=by
 apply Dt;intro q;rw[Dx q] at h;cases h
theorem Tab.fill {t:SetTable}{hs:Array Int}(T:Tab t hs):t.fill=hs.size:=by
 unfold SetTable.fill;rw[T.dm,T.size];rfl
theorem Tab.fits {t:SetTable}{hs:Array Int}(T:Tab t hs):t.fits hs.size=true:=by
 unfold SetTable.fits
 rw[T.fill,T.size]
 simp[T.fit]
theorem Tab.ends {t:SetTable}{hs:Array Int}(T:Tab t hs)(h:Int):∃n q,n<10*turns t.mask/\Way (occ t) t.mask n (start t.mask h) q/\¬ occ t q.j/\q.j<=t.mask/\q.dummy=none:=by
 obtain ⟨j,hj,he⟩:=lF (mask:=t.mask) (n:=hs.size) (occ t) (λj=>below t.place j)
  (λj _ ⟨i,e⟩=>by show below t.place j<hs.size;rw[below_at T.rise e, <- T.size];exact dG e)
  (λi j _ _ ⟨a,ea⟩ ⟨b,eb⟩ e=>by
   have e':below t.place i=below t.place j:=e
   rw[below_at T.rise ea,below_at T.rise eb] at e'
   subst e'
   exact Bq (ea.symm.trans eb)) T.fit
 exact uH T.msk (occ t) h hj he
theorem uI {t:SetTable}{hs:Array Int}(T:Tab t hs){H:Nat->Int}{h:Int}:∀(n:Nat) (p q:Probe) (fuel:Nat),Way (occ t) t.mask n p q->¬ occ t q.j->n<fuel->p.dummy=none →
  (SetTable.probe.go t H h fuel p=some (.empty q.j none)/\∀k r i,Way (occ t) t.mask k p r->t.place[i]? = some r.j->H i≠h) ∨
  (∃k r i,k<n/\Way (occ t) t.mask k p r/\t.place[i]? = some r.j/\H i=h/\SetTable.probe.go t H h fuel p=some (.candidate r.j i (adv t.mask r))/\Way (occ t) t.mask (n-k-1) (adv t.mask r) q/\(adv t.mask r).dummy=none
   /\ ∀k' r' i',k'<k->Way (occ t) t.mask k' p r'->t.place[i']? = some r'.j->H i'≠h):=by
 intro n
 induction n with
 | zero =>
  intro p q fuel W he hf hd
  cases W
  obtain ⟨fuel,rfl⟩:∃f,fuel=f+1:=⟨fuel-1,by omega⟩
  refine .inl ⟨?_,λk r i Wr er =>?_⟩
  ·unfold SetTable.probe.go
   rw[pE T.dm he]
   dsimp only
   rw[hd]
  ·cases Wr with
   | here=>exact absurd ⟨i,er⟩ he
   | step a _=>exact absurd a he
 | succ n ih =>
  intro p q fuel W he hf hd
  obtain ⟨fuel,rfl⟩:∃f,fuel=f+1:=⟨fuel-1,by omega⟩
  cases W with
  | step a W =>
   obtain ⟨i,ei⟩:=a
   have hd':(adv t.mask p).dummy=none:=by rw[<- hd];unfold adv;split <;> rfl
   by_cases hh:H i=h
   ·refine .inr ⟨0,p,i,by omega,.here p,ei,hh,?_,W,hd',λk' r' i' hk=>by omega⟩
    unfold SetTable.probe.go
    rw[ij T.rise ei]
    dsimp only
    rw[if_pos (by rw[hh];exact beq_self_eq_true h)]
    rfl
   ·have e0:SetTable.probe.go t H h (fuel+1) p=SetTable.probe.go t H h fuel (adv t.mask p):=by
     conv=>lhs;unfold SetTable.probe.go
     rw[ij T.rise ei]
     dsimp only
     rw[if_neg (by rw[beq_iff_eq];exact hh)]
     rfl
    rcases ih (adv t.mask p) q fuel W he (by omega) hd' with ⟨r1,r2⟩ | ⟨k,r,i',k1,w1,e1,h1,g1,w2,d2,no⟩
    ·refine .inl ⟨e0.trans r1,λk r j Wr er =>?_⟩
     cases Wr with
     | here =>
      obtain rfl:i=j:=by
       have x:=below_at T.rise ei
       have y:=below_at T.rise er
       exact x.symm.trans y
      exact hh
     | step _ Wr=>exact r2 _ _ _ Wr er
    ·refine .inr ⟨k+1,r,i',by omega,.step ⟨i,ei⟩ w1,e1,h1,e0.trans g1,by rw[show n+1-(k+1)-1=n-k-1 by omega];exact w2,d2,λk' r' j hk Wr er =>?_⟩
     cases Wr with
     | here =>
      obtain rfl:i=j:=by
       have x:=below_at T.rise ei
       have y:=below_at T.rise er
       exact x.symm.trans y
      exact hh
     | step _ Wr=>exact no _ _ _ (by omega) Wr er
theorem nU {t:SetTable}{hs:Array Int}(T:Tab t hs){H:Nat->Int}{h:Int}{n:Nat}{p q:Probe}(W:Way (occ t) t.mask n p q)(he:¬ occ t q.j)(hn:n<10*turns t.mask)(hd:p.dummy=none) :
  (t.probe H h p=some (.empty q.j none)/\∀k r i,Way (occ t) t.mask k p r->t.place[i]? = some r.j->H i≠h) ∨
  (∃k r i,k<n/\Way (occ t) t.mask k p r/\t.place[i]? = some r.j/\H i=h/\t.probe H h p=some (.candidate r.j i (adv t.mask r))/\Way (occ t) t.mask (n-k-1) (adv t.mask r) q/\(adv t.mask r).dummy=none
   /\ ∀k' r' i',k'<k->Way (occ t) t.mask k' p r'->t.place[i']? = some r'.j->H i'≠h) :=
 uI T n p q _ W he hn hd
theorem Tab.uJ {t:SetTable}{hs:Array Int}(T:Tab t hs)(j:Nat):t.put j=({ t with place:=insertAt t.place (below t.place j) j },below t.place j):=by
 unfold SetTable.put
 dsimp only
 have:has t.dummies j=false:=by rw[T.dm];simp[has]
 rw[this]
 rfl
theorem Tab.put {t:SetTable}{hs:Array Int}(T:Tab t hs){h:Int}{n:Nat}{q:Probe}(W:Way (occ t) t.mask n (start t.mask h) q)(he:¬ occ t q.j)(hq:q.j<=t.mask)(hf:hs.size+1<=t.mask) :
  Tab { t with place:=insertAt t.place (below t.place q.j) q.j } (insertAt hs (below t.place q.j) h):=by
 have hp:=(cY T.rise q.j).1
 have hp':below t.place q.j<=hs.size:=by rw[<- T.size];exact hp
 have up:∀j,occ t j->occ { t with place:=insertAt t.place (below t.place q.j) q.j } j:=by
  rintro j ⟨i,e⟩
  by_cases l:i<below t.place q.j
  ·exact ⟨i,by show (insertAt _ _ _)[i]? = _;rw[bT _ hp,if_pos l];exact e⟩
  ·exact ⟨i+1,by show (insertAt _ _ _)[i+1]? = _;rw[bT _ hp,if_neg (by omega),if_neg (by omega)];exact e⟩
 refine ⟨T.dm,kA T.rise λi e=>he ⟨i,e⟩,?_,λi j e =>?_,T.msk,by rw[bY];exact hf,λi j h' e eh =>?_⟩
 ·show (insertAt _ _ _).size=_
  rw[bY,bY,T.size]
 ·have e':(insertAt t.place (below t.place q.j) q.j)[i]? = some j:=e
  rw[bT _ hp] at e'
  split at e'
  ·exact T.le _ _ e'
  ·split at e'
   ·cases e';exact hq
   ·exact T.le _ _ e'
 ·have e':(insertAt t.place (below t.place q.j) q.j)[i]? = some j:=e
  rw[bT _ hp] at e'
  rw[bT _ hp'] at eh
  by_cases l1:i<below t.place q.j
  ·rw[if_pos l1] at e' eh
   obtain ⟨n',q',w,eq⟩:=T.reach _ _ _ e' eh
   exact ⟨n',q',w.mono up,eq⟩
  ·rw[if_neg l1] at e' eh
   by_cases l2:i=below t.place q.j
   ·rw[if_pos l2] at e' eh
    cases e';cases eh
    exact ⟨n,q,W.mono up,rfl⟩
   ·rw[if_neg l2] at e' eh
    obtain ⟨n',q',w,eq⟩:=T.reach _ _ _ e' eh
    exact ⟨n',q',w.mono up,eq⟩
def ocw (owner:Array (Option Nat))(j:Nat):Prop:=∃k,owner[j]? = some (some k)
theorem Way.trans {oc:Nat->Prop}{mask n m:Nat}{p q r:Probe}(h:Way oc mask n p q)(h2:Way oc mask m q r):∃k,Way oc mask k p r:=by
 induction h with
 | here=>exact ⟨m,h2⟩
 | step a _ ih=>obtain ⟨k,w⟩:=ih h2;exact ⟨k+1,.step a w⟩
theorem mB (oc:Nat->Prop)(mask:Nat):∀(k:Nat) (p:Probe),k<=p.more->(∀k',k'<k->oc (p.j+k'))->Way oc mask k p { p with j:=p.j+k,more:=p.more-k }
 | 0,p,_,_ =>.here p
 | k+1,p,h,ho=>by
  have e:adv mask p={ p with j:=p.j+1,more:=p.more-1 }:=by unfold adv;rw[if_pos (by omega)]
  refine .step (ho 0 (by omega)) ?_
  rw[e]
  have:=mB oc mask k { p with j:=p.j+1,more:=p.more-1 } (by dsimp only;omega) λk' hk=>by
   have:=ho (k'+1) (by omega)
   rw[show p.j+(k'+1)=p.j+1+k' by omega] at this
   exact this
  dsimp only at this
  rw[show p.j+1+k=p.j+(k+1) by omega,show p.more-1-k=p.more-(k+1) by omega] at this
  exact this
theorem eZ {owner:Array (Option Nat)}{mask j:Nat}(hs:owner.size=mask+1)(hj:j<=mask):(owner.getD j (some 0)).isNone=true↔¬ ocw owner j:=by
 have hl:j<owner.size:=by omega
 have e:owner[j]? = some owner[j]:=A8 hl
 rw[show owner.getD j (some 0)=owner[j] by simp[Array.getD,hl]]
 unfold ocw
 rw[e]
 cases owner[j] with
 | none=>simp
 | some k=>simp
theorem lG {mask i:Nat}(h:i<=mask):runEnd mask i<=mask/\i<=runEnd mask i:=by
 unfold runEnd;split <;> omega
theorem sj {mask:Nat}{owner:Array (Option Nat)}(hs:owner.size=mask+1):∀(fuel i pe j:Nat),i<=mask->SetTable.layClean.free mask owner fuel i pe=some j →
  ¬ ocw owner j/\∃n q,Way (ocw owner) mask n (cF mask i pe) q/\q.j=j:=by
 intro fuel
 induction fuel with
 | zero=>intro i pe j hi h;unfold SetTable.layClean.free at h;cases h
 | succ fuel ih =>
  intro i pe j hi h
  unfold SetTable.layClean.free at h
  obtain ⟨r1,r2⟩:=lG hi
  have no:∀k,k<runEnd mask i+1-i->((owner.getD (i+k) (some 0)).isNone=false)->ocw owner (i+k):=λk hk e=>by
   by_cases o:ocw owner (i+k)
   ·exact o
   ·rw[(eZ hs (by omega)).mpr o] at e;cases e
  cases hf:(Ba (runEnd mask i+1-i)).find? λk=>(owner.getD (i+k) (some 0)).isNone with
  | some k =>
   rw[hf] at h
   dsimp only at h
   cases h
   rw[List.find?_range_eq_some] at hf
   obtain ⟨f1,f2,f3⟩:=hf
   rw[BG] at f2
   refine ⟨(eZ hs (by omega)).mp f1,k,_,mB (ocw owner) mask k (cF mask i pe) (by show k<=runEnd mask i-i;omega) λk' hk =>?_,rfl⟩
   refine no k' (by omega) ?_
   have:=f3 k' hk
   simpa using this
  | none =>
   rw[hf] at h
   dsimp only at h
   rw[Fs] at hf
   have all:∀k,k<runEnd mask i+1-i->ocw owner (i+k):=λk hk=>no k hk (by simpa using hf k hk)
   obtain ⟨g1,n,q,w,eq⟩:=ih _ _ _ (DN (CJ _ (D6 mask))) h
   refine ⟨g1,?_⟩
   have w0:=mB (ocw owner) mask (runEnd mask i-i) (cF mask i pe) (AE _) λk' hk=>all k' (by omega)
   have w1:Way (ocw owner) mask (n+1) { (cF mask i pe) with j:=(cF mask i pe).j+(runEnd mask i-i),more:=(cF mask i pe).more-(runEnd mask i-i) } q:=by
    refine .step (all (runEnd mask i-i) (by omega)) ?_
    have e:adv mask { (cF mask i pe) with j:=(cF mask i pe).j+(runEnd mask i-i),more:=(cF mask i pe).more-(runEnd mask i-i) }=cF mask (leap mask i pe).1 (leap mask i pe).2:=by
     unfold adv
     rw[if_neg (by show ¬ (runEnd mask i-i-(runEnd mask i-i))>0;omega)]
     rfl
    rw[e]
    exact w
   obtain ⟨k,w2⟩:=w0.trans w1
   exact ⟨k,q,w2,eq⟩
theorem sk {mask:Nat}{owner:Array (Option Nat)}(hs:owner.size=mask+1):∀(fuel i pe k:Nat),i<=mask->k<fuel->¬ ocw owner (cn mask k (i,pe)).1->∃j,SetTable.layClean.free mask owner fuel i pe=some j:=by
 intro fuel
 induction fuel with
 | zero=>intro i pe k _ h;omega
 | succ fuel ih =>
  intro i pe k hi hk he
  unfold SetTable.layClean.free
  obtain ⟨r1,r2⟩:=lG hi
  cases hf:(Ba (runEnd mask i+1-i)).find? λk=>(owner.getD (i+k) (some 0)).isNone with
  | some k=>exact ⟨_,rfl⟩
  | none =>
   dsimp only
   rw[Fs] at hf
   cases k with
   | zero =>
    have h0:=hf 0 (by omega)
    have:(owner.getD (i+0) (some 0)).isNone=true:=(eZ hs (by omega)).mpr he
    rw[this] at h0
    cases h0
   | succ k=>exact ih _ _ k (DN (CJ _ (D6 mask))) (by omega) he
structure Own (mask:Nat)(owner:Array (Option Nat))(hs:List Int):Prop where
 size:owner.size=mask+1
 cov:∀(k:Nat) (h:Int),hs[k]? = some h->∃j n q,owner[j]? = some (some k)/\Way (ocw owner) mask n (start mask h) q/\q.j=j
 bnd:∀j k:Nat,owner[j]? = some (some k)->k<hs.length
 inj:∀i j k:Nat,owner[i]? = some (some k)->owner[j]? = some (some k)->i=j
theorem Own.step {mask:Nat}(hm:Msk mask){owner:Array (Option Nat)}{hs:List Int}(O:Own mask owner hs)(h:Int)(hl:hs.length<=mask) :
  ∃j,SetTable.layClean.free mask owner (turns mask) (bits h%(mask+1)) (bits h)=some j/\Own mask (owner.setIfInBounds j (some hs.length)) (hs++[h]):=by
 obtain ⟨e,he,hne⟩:=lF (mask:=mask) (n:=hs.length) (ocw owner) (λj=>(owner.getD j none).getD 0)
  (λj _ ⟨k,ek⟩=>by
   have:=dG ek
   show (owner.getD j none).getD 0<_
   rw[show owner.getD j none=some k by rw[Cr,ek];rfl]
   exact O.bnd j k ek)
  (λi j _ _ ⟨a,ea⟩ ⟨b,eb⟩ q=>by
   have q':(owner.getD i none).getD 0=(owner.getD j none).getD 0:=q
   rw[show owner.getD i none=some a by rw[Cr,ea];rfl,show owner.getD j none=some b by rw[Cr,eb];rfl] at q'
   have q'':a=b:=q'
   subst q''
   exact O.inj i j a ea eb) hl
 have i0:bits h%(mask+1)<=mask:=DN (CJ _ (D6 mask))
 obtain ⟨k,k1,k2⟩:=jE hm (h:=h) he
 obtain ⟨j,hj⟩:=sk O.size (turns mask) _ _ k i0 k1 (by rw[k2];exact hne)
 obtain ⟨hno,n,q,w,eq⟩:=sj O.size _ _ _ _ i0 hj
 have hjm:j<=mask:=by rw[<- eq];exact w.le (nP mask h)
 have hjs:j<owner.size:=by rw[O.size];omega
 have ej:owner[j]? = some none:=by
  rw[A8 hjs]
  cases ho:owner[j] with
  | none=>rfl
  | some k=>exact absurd ⟨k,by rw[A8 hjs,ho]⟩ hno
 have get:∀i:Nat,(owner.setIfInBounds j (some hs.length))[i]? = if i=j then some (some hs.length) else owner[i]? := λi=>by
  rw[Array.getElem?_setIfInBounds]
  by_cases q:j=i
  ·rw[if_pos q,if_pos q.symm,if_pos hjs]
  ·rw[if_neg q,if_neg (CK q)]
 have up:∀i,ocw owner i->ocw (owner.setIfInBounds j (some hs.length)) i:=by
  rintro i ⟨k,ek⟩
  refine ⟨k,?_⟩
  rw[get,if_neg (λq=>by rw[q,ej] at ek;cases ek)]
  exact ek
 refine ⟨j,hj,by rw[Fp];exact O.size,λk h' eh =>?_,λi k ek =>?_,λi i' k ei ei' =>?_⟩
 ·by_cases lk:k<hs.length
  ·rw[CD lk] at eh
   obtain ⟨j',n',q',a,b,c⟩:=O.cov k h' eh
   refine ⟨j',n',q',?_,b.mono up,c⟩
   rw[get,if_neg (λq=>by rw[q,ej] at a;cases a)]
   exact a
  ·rw[Cw (by omega)] at eh
   have:k-hs.length=0:=by
    cases hk:k-hs.length with
    | zero=>rfl
    | succ m=>rw[hk] at eh;cases eh
   rw[this] at eh
   cases eh
   obtain rfl:k=hs.length:=by omega
   exact ⟨j,n,q,by rw[get,if_pos rfl],w.mono up,eq⟩
 ·rw[As,Bs]
  rw[get] at ek
  split at ek
  ·cases ek;omega
  ·have:=O.bnd _ _ ek;omega
 ·rw[get] at ei ei'
  by_cases q1:i=j
  ·by_cases q2:i'=j
   ·rw[q1,q2]
   ·rw[if_pos q1] at ei;rw[if_neg q2] at ei'
    cases ei
    have:=O.bnd _ _ ei';omega
  ·rw[if_neg q1] at ei
   by_cases q2:i'=j
   ·rw[if_pos q2] at ei'
    cases ei'
    have:=O.bnd _ _ ei;omega
   ·rw[if_neg q2] at ei'
    exact O.inj _ _ _ ei ei'
theorem nV {mask:Nat}(hm:Msk mask):∀(l:List Int) (owner:Array (Option Nat)) (hs:List Int),Own mask owner hs->hs.length+l.length<=mask+1 →
    ∃owner',l.foldl (λacc h=>do
      let (owner,k) ← acc
      let j ← SetTable.layClean.free mask owner (turns mask) (bits h%(mask+1)) (bits h)
      pure (owner.setIfInBounds j (some k),k+1)) (some (owner,hs.length))=some (owner',hs.length+l.length)/\Own mask owner' (hs++l)
  | [],owner,hs,O,_=>⟨owner,rfl,by rw[Bj];exact O⟩
  | h :: l,owner,hs,O,hl=>by
    rw[Bk] at hl
    obtain ⟨j,hj,O'⟩:=O.step hm h (by omega)
    obtain ⟨owner',e,O''⟩:=nV hm l _ _ O' (by rw[As,Bs];omega)
    refine ⟨owner',?_,by rw[A4] at O'';exact O''⟩
    rw[Gb]
    have:(do
      let (owner,k) ← some (owner,hs.length)
      let j ← SetTable.layClean.free mask owner (turns mask) (bits h%(mask+1)) (bits h)
      pure (owner.setIfInBounds j (some k),k+1):Option (Array (Option Nat)×Nat))=some (owner.setIfInBounds j (some hs.length),(hs++[h]).length):=by
      show (SetTable.layClean.free mask owner (turns mask) (bits h%(mask+1)) (bits h)).bind _=_
      rw[hj,As]
      rfl
    rw[this,e]
    rw[As,Bs,Bk]
    congr 2
    omega
theorem nW {mask:Nat}(hm:Msk mask)(hs:Array Int)(hl:hs.size<=mask+1):∃owner,SetTable.layClean mask hs=some owner/\Own mask owner hs.toList:=by
  have O0:Own mask (Array.replicate (mask+1) none) []:=by
    refine ⟨by simp,λk h e=>by simp at e,λj k e =>?_,λi j k e =>?_⟩
    · rw[Ft] at e;split at e <;> cases e
    · rw[Ft] at e;split at e <;> cases e
  obtain ⟨owner,e,O⟩:=nV hm hs.toList _ [] O0 (by rw[ES,AF];omega)
  refine ⟨owner,?_,by rw[Dg] at O;exact O⟩
  unfold SetTable.layClean
  rw[<- Array.foldl_toList]
  have e':hs.toList.foldl (λacc h=>do
      let (owner,k) ← acc
      let j ← SetTable.layClean.free mask owner (turns mask) (bits h%(mask+1)) (bits h)
      pure (owner.setIfInBounds j (some k),k+1)) (some (Array.replicate (mask+1) none,0))=some (owner,0+hs.toList.length):=e
  rw[e']
  rfl
theorem filterMap_get {α β:Type}{f:α -> Option β}:∀(l:List α),(∀x∈l,(f x).isSome=true)->∀i:Nat,(l.filterMap f)[i]? = l[i]?.bind f
 | [],_,i=>by simp
 | x :: l,h,i=>by
  obtain ⟨y,hy⟩:=Fm.mp (h x AM)
  rw[List.filterMap_cons_some hy]
  cases i with
  | zero=>simp[hy]
  | succ i =>
   rw[Dq,Dq]
   exact filterMap_get l (λz hz=>h z (AL _ hz)) i
theorem wF {mask:Nat}(hm:Msk mask)(finger moves:Nat)(led plain:Bool)(es:Array (Int×Au))(hl:es.size<=mask) :
  ∃t order,SetTable.laid mask finger moves led plain (es.map (·.1))=some (t,order)/\order.toList.Perm (Ba es.size)/\Tab t ((order.filterMap (es[·]?)).map (·.1))/\(order.filterMap (es[·]?)).toList.Perm es.toList/\t.led=led/\t.plain=plain/\t.mask=mask:=by
 obtain ⟨owner,e,O⟩:=nW hm (es.map (·.1)) (by rw[BB];omega)
 refine ⟨_,_,by unfold SetTable.laid;rw[e];rfl,?_⟩
 generalize hlive:((Ba (mask+1)).filterMap λj=>(owner.getD j none).map (j, ·))=live
 have mem:∀j k,(j,k)∈live↔owner[j]? = some (some k):=λj k=>by
  rw[<- hlive,Ec]
  constructor
  ·rintro ⟨a,ha,ea⟩
   rw[Cr] at ea
   cases ho:owner[a]? with
   | none=>rw[ho] at ea;cases ea
   | some x =>
    rw[ho] at ea
    cases x with
    | none=>cases ea
    | some k'=>cases ea;exact ho
  ·intro ho
   refine ⟨j,?_,?_⟩
   ·rw[BG, <- O.size];exact dG ho
   ·rw[Cr,ho];rfl
 have pw:live.Pairwise (λa b=>a.1<b.1):=by
  rw[<- hlive,List.pairwise_filterMap]
  refine IX (λ{a b} hab x hx y hy =>?_) List.pairwise_lt_range
  have hx':x.1=a:=by cases ho:owner.getD a none with
   | none=>rw[ho] at hx;cases hx
   | some k=>rw[ho] at hx;cases hx;rfl
  have hy':y.1=b:=by cases ho:owner.getD b none with
   | none=>rw[ho] at hy;cases hy
   | some k=>rw[ho] at hy;cases hy;rfl
  rw[hx',hy'];exact hab
 have nd:(live.map (·.2)).Nodup:=by
  unfold List.Nodup
  rw[BE]
  refine D7 (λ{a b} ha hb hab q =>?_) pw
  have:=O.inj a.1 b.1 a.2 ((mem _ _).mp ha) (by rw[q];exact (mem _ _).mp hb)
  omega
 have hlen:(es.map (·.1)).toList.length=es.size:=by rw[AF,BB]
 have perm:(live.map (·.2)).Perm (Ba es.size):=by
  rw[C0 nd ED]
  intro k
  rw[BG,A6]
  constructor
  ·rintro ⟨⟨j,k'⟩,hm',rfl⟩
   have:=O.bnd _ _ ((mem _ _).mp hm')
   rw[hlen] at this
   exact this
  ·intro hk
   obtain ⟨j,_,_,ej,_⟩:=O.cov k _ (AD (by rw[hlen];exact hk))
   exact ⟨(j,k),(mem _ _).mpr ej,rfl⟩
 have all:∀x∈live.map (·.2),(es[x]?).isSome=true:=λx hx=>by
  have:=(perm.mem_iff).mp hx
  rw[BG] at this
  rw[A8 this];rfl
 have tl:(live.map (·.2)).toArray.toList=live.map (·.2):=rfl
 have ll:live.length=es.size:=by have:=perm.length_eq;rw[Aq,BN] at this;exact this
 have fm:((live.map (·.2)).toArray.filterMap (es[·]?)).toList=(live.map (·.2)).filterMap (es[·]?):=by simp
 have fl:((live.map (·.2)).filterMap (es[·]?)).Perm es.toList:=by
  have p1:=perm.filterMap (es[·]?)
  have:(Ba es.size).filterMap (es[·]?)=es.toList:=by
   apply Hu
   intro i
   rw[filterMap_get _ (λx hx=>by rw[BG] at hx;rw[A8 hx];rfl)]
   by_cases hi:i<es.size
   ·rw[ET hi,AJ];rfl
   ·rw[DG (by rw[BN];omega),DG (by rw[AF];omega)];rfl
  rw[this] at p1
  exact p1
 refine ⟨perm,?_,by rw[fm];exact fl,rfl,rfl,rfl⟩
 have sz:(((live.map (·.2)).toArray.filterMap (es[·]?)).map (·.1)).size=es.size:=by
  rw[BB, <- AF,fm,fl.length_eq,AF]
 have occ_of:∀j,ocw owner j->occ { mask:=mask,place:=(live.map (·.1)).toArray,dummies := #[],finger:=finger,led:=led,moves:=moves,plain:=plain } j:=by
  rintro j ⟨k,ek⟩
  obtain ⟨i,hi,ei⟩:=GI ((mem j k).mpr ek)
  refine ⟨i,?_⟩
  show (live.map (·.1)).toArray[i]? = some j
  rw[Bv,AW,AD hi,ei]
  rfl
 refine ⟨rfl,λi j a b ea eb hij =>?_,?_,λi j ej =>?_,hm,by rw[sz];exact hl,λi j h ej eh =>?_⟩
 ·have ea':(live.map (·.1)).toArray[i]? = some a:=ea
  have eb':(live.map (·.1)).toArray[j]? = some b:=eb
  rw[Bv] at ea' eb'
  have pw':(live.map (·.1)).Pairwise (· < ·):=by rw[BE];exact pw
  obtain ⟨hi,xi⟩:=AG.mp ea'
  obtain ⟨hj,xj⟩:=AG.mp eb'
  rw[<- xi, <- xj]
  exact DT.mp pw' i j hi hj hij
 ·show (live.map (·.1)).toArray.size=_
  rw[sz,Aw,Aq,ll]
 ·have ej':(live.map (·.1)).toArray[i]? = some j:=ej
  rw[Bv,AW] at ej'
  cases hx:live[i]? with
  | none=>rw[hx] at ej';cases ej'
  | some x =>
   rw[hx] at ej'
   cases ej'
   have:=dG ((mem x.1 x.2).mp (A0 hx))
   show x.1<=mask
   rw[O.size] at this
   omega
 ·have ej':(live.map (·.1)).toArray[i]? = some j:=ej
  rw[Bv,AW] at ej'
  cases hx:live[i]? with
  | none=>rw[hx] at ej';cases ej'
  | some x =>
   rw[hx] at ej'
   cases ej'
   have ho:=(mem x.1 x.2).mp (A0 hx)
   have hk:=O.bnd _ _ ho
   rw[G4, <- AJ,fm,filterMap_get _ all,AW,hx] at eh
   have eh':(es[x.2]?).map (·.1)=some h:=eh
   obtain ⟨j',n,q,a,b,c⟩:=O.cov x.2 h (by rw[EC,AW,AJ];exact eh')
   obtain rfl:=O.inj _ _ _ ho a
   exact ⟨n,q,b.mono occ_of,c⟩
open PySem PySem.SetTable PyProof.Rows
section
variable  {prog:AN}{w:Bh}{A:BA}{E:Au->Ax->Prop}{s:Ax}
abbrev TK (prog:AN)(w:Bh):=IsTupleKey (prog:=prog) (w:=w) (intKind prog w)
def bZ (prog:AN)(w:Bh)(ks:List Int):Int:=tupleKeyHash (intKind prog w) ks
def aK (es:Array (Int×Au))(ep:Nat)(t:SetTable):Obj:={ cls :=.type "set",dict:=none,data :=.set es ep t }
def ElT (prog:AN)(w:Bh)(h:Heap)(e:Int×Au)(ks:List Int):Prop:=∃b,e=(bZ prog w ks,.ref b)/\TK prog w h ks b
theorem mC (d:Nat){v:Au}(h:carriedByValue v=true):ofAClassStatement d v=pure false:=by
 cases v with
 | ref a=>simp[carriedByValue] at h
 | _=>cases d <;> rfl
theorem gL {ks:List Int}{b:Addr}{Q:Bool->Ax->Prop}(hk:TK prog w s.heap ks b)(h:Q false s):A7 (Bf prog w) A (ofAClassStatement 8 (.ref b)) Q E s:=by
 have hT:=hk.typeIs
 obtain ⟨o,items,n,ho,_,hd,hi⟩:=hk
 unfold ofAClassStatement
 refine Ar (Dm hT ?_)
 dsimp only
 rw[if_pos (by decide)]
 refine Ar (Ay ?_)
 simp only[Cc,A1,if_false]
 refine Ar (Fi ho hd ?_)
 dsimp only
 refine Ar ?_
 rw[<- G5]
 refine EH _ (λrest r s'=>r.1=none/\s'=s/\∀v∈rest,carriedByValue v=true) _ ?_ ?_ _ _ ⟨rfl,rfl,hi.byValue⟩
 ·rintro v rest r s' ⟨hr,rfl,hall⟩
  rw[mC _ (hall v AM)]
  refine Ar (Ay ?_)
  simp only[A1,if_false]
  exact Ay ⟨rfl,rfl,λu hu'=>hall u (AL _ hu')⟩
 ·rintro ⟨r1,r2⟩ s' ⟨hr,rfl,_⟩
  simp only at hr
  subst hr
  exact Ay h
theorem yP {ks:List Int}{b:Addr}{vs:List Au}{Q:Bool->Ax->Prop}(hk:TK prog w s.heap ks b)(hv:∀v∈vs,∃ks' b',v = .ref b'/\TK prog w s.heap ks' b')(h:Q false s) :
  A7 (Bf prog w) A (searchCouldBeSeen (.ref b) vs) Q E s:=by
 unfold searchCouldBeSeen
 refine Ar ?_
 refine EH _ (λrest r s'=>r.1=none/\s'=s/\∀v∈rest,∃ks' b',v = .ref b'/\TK prog w s.heap ks' b') _ ?_ ?_ _ _ ⟨rfl,rfl,hv⟩
 ·rintro v rest r s' ⟨hr,rfl,hall⟩
  obtain ⟨ks',b',rfl,hk'⟩:=hall v AM
  have go:∀u∈rest,∃ks' b',u = .ref b'/\TK prog w s'.heap ks' b':=λu hu'=>hall u (AL _ hu')
  dsimp only
  split
  ·exact Ay ⟨rfl,rfl,go⟩
  ·refine Ar (Gp hk ?_)
   simp only[Cc,A1,if_false]
   refine Ar (Gp hk' ?_)
   simp only[Cc,A1,if_false]
   refine Ar (gL hk ?_)
   simp only[A1,if_false]
   refine Ar (gL hk' ?_)
   simp only[A1,if_false]
   exact Ay ⟨rfl,rfl,go⟩
 ·rintro ⟨r1,r2⟩ s' ⟨hr,rfl,_⟩
  simp only at hr
  subst hr
  exact Ay h
theorem wG {m:Nat}(h:Msk m):(m%2 == 0)=false:=by rcases h with rfl | rfl | rfl | rfl | rfl <;> rfl
theorem bA {a:Addr}{es:Array (Int×Au)}{ep:Nat}{t:SetTable}{Q:(Array (Int×Au)×Nat×SetTable)->Ax->Prop}(ho:s.heap.get? a=some (aK es ep t))(T:Tab t (es.map (·.1)))(h:Q (es,ep,t) s) :
  A7 (Bf prog w) A (setState a) Q E s:=wpAny_setState_of ho rfl (by have:=T.fits;rwa [BB] at this) h
theorem pI (es:Array (Int×Au))(i:Nat)(e:Int×Au)(h:es[i]? = some e):(es.map (·.1))[i]? = some e.1:=by rw[G4,h];rfl
theorem Way.split {oc:Nat->Prop}{mask k:Nat}{p r:Probe}(h:Way oc mask k p r):∀{k':Nat} {r':Probe},Way oc mask k' p r'->k<=k'->Way oc mask (k'-k) r r':=by
 induction h with
 | here p=>intro k' r' h2 _;exact h2
 | @step n p q a _ ih =>
  intro k' r' h2 l
  cases h2 with
  | here=>omega
  | @step m _ _ _ h2=>rw[show m+1-(n+1)=m-n by omega];exact ih h2 (by omega)
theorem pJ {a b:Addr}{es:Array (Int×Au)}{ep:Nat}{t:SetTable}{ks:List Int}{Q:SetFound->Ax->Prop}(hu:A.units<cLine)(ho:s.heap.get? a=some (aK es ep t))(T:Tab t (es.map (·.1)))
    (els:∀e∈es,∃ks',ElT prog w s.heap e ks') (hk:TK prog w s.heap ks b) {q:Probe} (he:¬ occ t q.j) :
    ∀(fuel n:Nat) (st:Option Probe) (p:Probe),st.getD (start t.mask (bZ prog w ks))=p->Way (occ t) t.mask n p q->n<fuel->n<10*turns t.mask->p.dummy=none →
      ((∃(k:Nat) (r:Probe) (i:Nat) (e:Int×Au),Way (occ t) t.mask k p r/\t.place[i]? = some r.j/\es[i]? = some e/\ElT prog w s.heap e ks)->Q (.there none) s) →
      ((¬ ∃(k:Nat) (r:Probe) (i:Nat) (e:Int×Au),Way (occ t) t.mask k p r/\t.place[i]? = some r.j/\es[i]? = some e/\ElT prog w s.heap e ks)->Q (.free q.j false) s) →
      A7 (Bf prog w) A (setSearchFrom a (.ref b) (bZ prog w ks) true fuel st) Q E s:=by
  intro fuel
  induction fuel with
  | zero=>intro n st p _ _ h;omega
  | succ fuel ih =>
    intro n st p hst W hn hn2 hd hit mis
    unfold setSearchFrom
    refine Ar (bA ho T ?_)
    dsimp only
    rw[show t.gaveWay=false from wG T.msk]
    simp only[A1,if_false]
    rw[show st.getD (t.probeStart (bZ prog w ks))=p from hst]
    rcases nU T (H:=λi=>(es[i]?.map (·.1)).getD 0) (h:=bZ prog w ks) W he hn2 hd with ⟨g,no⟩ | ⟨k,r,i,k1,w1,e1,h1,g,w2,d2,no⟩
    · erw [g]
      dsimp only
      refine Ay (mis ?_)
      rintro ⟨k,r,i,e,wr,er,ee,eb,rfl,_⟩
      refine no k r i wr er ?_
      show (es[i]?.map (·.1)).getD 0=_
      rw[ee]
      rfl
    · erw [g]
      dsimp only
      have hi:i<es.size:=by have:=dG e1;rw[T.size,BB] at this;exact this
      have ee:es[i]? = some es[i]:=A8 hi
      obtain ⟨ks',b',eq,hk'⟩:=els es[i] (Hw hi)
      rw[eq] at ee
      have hh:bZ prog w ks'=bZ prog w ks:=by
        have h1':(es[i]?.map (·.1)).getD 0=bZ prog w ks:=h1
        rw[ee] at h1'
        exact h1'
      have tail:A7 (Bf prog w) A (do
          let equal ← GQ [AS b'] (eqBool (.ref b') (.ref b))
          let (es',_,t') ← setState a
          if (true && equal)=true then return .there none
          let some same:=t'.sameMemory t.moves t.mask | unsupported "set.changed-during-lookup:is-the-new-block-at-the-old-address"
          let still ← match (if same then t'.slot r.j else .empty) with
            | .live i'=>match es'[i']? with
              | some (_,y')=>do pure (if ← isSame y' (.ref b') then some i' else none)
              | none=>pure none
            | _=>pure none
          match still with
          | none=>rule "set.search.anew";setSearchFrom a (.ref b) (bZ prog w ks) true fuel none
          | some i'=>if equal then return .there (some i') else setSearchFrom a (.ref b) (bZ prog w ks) true fuel (some (adv t.mask r))) Q E s:=by
        refine Ar (BV (Hm hu hk' hk ?_))
        refine Ar (bA ho T ?_)
        dsimp only
        by_cases hks:ks'=ks
        · subst hks
          rw[decide_eq_true rfl]
          simp only[Bool.and_self,if_true]
          exact Ay (hit ⟨k,r,i,_,w1,e1,ee,b',rfl,hk'⟩)
        · rw[decide_eq_false hks]
          simp only[Fb,A1,if_false]
          rw[show t.sameMemory t.moves t.mask=some true by unfold SetTable.sameMemory;simp]
          dsimp only
          simp only[if_true]
          rw[ij T.rise e1]
          dsimp only
          rw[ee]
          dsimp only
          refine Ar (wpAny_isSame_ref_self (Ar (Ay ?_)))
          simp only[if_true]
          refine ih (n-k-1) _ _ rfl w2 (by omega) (by omega) d2 (λx=>hit ?_) λx=>mis λy=>x ?_
          · obtain ⟨k',r',i',e',a1,a2,a3,a4⟩:=x
            obtain ⟨k'',w''⟩:=w1.trans (.step ⟨i,e1⟩ a1)
            exact ⟨k'',r',i',e',w'',a2,a3,a4⟩
          · obtain ⟨k',r',i',e',a1,a2,a3,a4⟩:=y
            have hx:(es[i']?.map (·.1)).getD 0=bZ prog w ks:=by
              obtain ⟨bb,rfl,_⟩:=a4
              rw[a3];rfl
            by_cases lt:k'<k
            · exact absurd hx (no k' r' i' lt a1 a2)
            · have w3:=w1.split a1 (by omega)
              cases hd3:k'-k with
              | zero =>
                rw[hd3] at w3
                cases w3
                obtain rfl:i=i':=(below_at T.rise e1).symm.trans (below_at T.rise a2)
                obtain ⟨bb,rfl,hbb⟩:=a4
                rw[ee] at a3
                injection a3 with a3
                injection a3 with a31 a32
                injection a32 with a32
                subst a32
                exact absurd (hk'.inj hbb) hks
              | succ m =>
                rw[hd3] at w3
                cases w3 with
                | step _ w3=>exact ⟨m,r',i',e',w3,a2,a3,a4⟩
      cases hl:t.led with
      | true =>
        simp only[Cc,A1,if_false]
        rw[ee]
        exact tail
      | false =>
        simp only[GB,if_true]
        refine Ar (yP hk (λv hv =>?_) ?_)
        · obtain ⟨e',he',rfl⟩:=A6.mp hv
          obtain ⟨ks2,b2,e2,hk2⟩:=els e' (Array.mem_of_mem_filter (Be.mp he'))
          exact ⟨ks2,b2,by rw[e2],hk2⟩
        · simp only[A1,if_false]
          rw[ee]
          exact tail
end
open PySem PySem.SetTable PyProof.Rows
section
variable  {prog:AN}{w:Bh}{A:BA}{E:Au->Ax->Prop}{s:Ax}
def cR (w:Bh)(h:Heap)(a:Addr)(es:Array (Int×Au)):Prop :=
 ∃ep t,h.get? a=some (aK es ep t)/\Tab t (es.map (·.1))/\es.size*5<t.mask*3/\t.led = !w.params.followText "set-order" /\ t.plain=true
theorem cR.at {h h':Heap}{a:Addr}{es:Array (Int×Au)}(x:cR w h a es)(e:∀o,h.get? a=some o->h'.get? a=some o):cR w h' a es :=
 let ⟨ep,t,ho,r⟩:=x;⟨ep,t,e _ ho,r⟩
theorem nX {m n:Nat}(hm:Msk m)(h1:n*5<m*3)(h2:(n+1)*5≥m*3)(h3:n<1000):Msk (sizeAbove (grown (n+1))-1)/\n+1<=sizeAbove (grown (n+1))-1/\(n+1)*5<(sizeAbove (grown (n+1))-1)*3/\sizeAbove (grown (n+1))<=2048:=by
 have c:n=4\/n=18\/n=76\/n=306:=by
  rcases hm with rfl | rfl | rfl | rfl | rfl <;> omega
 unfold Msk
 rcases c with rfl | rfl | rfl | rfl <;> decide
theorem lH:2048<=AH:=by rw[EW];omega
theorem gM {a:Addr}{es es':Array (Int×Au)}{ep:Nat}{t t':SetTable}{Q:Unit->Ax->Prop}(ho:s.heap.get? a=some (aK es ep t))(hz:es'.size<=2048)
  (h:∀h',Heap.SameBut a s.heap h'->h'.get? a=some (aK es' (ep+1) t')->Q () { s with heap:=h' }):A7 (Bf prog w) A (storeSet a es' t') Q E s:=by
 refine wpAny_storeSet_of (o:=aK es ep t) ho rfl ?_ (A5 hz lH)
 refine h _ (ER s.heap a _) ?_
 have:=Cn (Obj.putSet es' t') ho (by rw[putSet_of es' t' (o:=aK es ep t) rfl];rfl)
 rw[putSet_of es' t' (o:=aK es ep t) rfl] at this
 exact this
theorem Tab.tooFull {t:SetTable}{hs:Array Int}(T:Tab t hs):t.tooFull=decide (hs.size*5≥t.mask*3):=by
 unfold SetTable.tooFull;rw[T.fill]
theorem lI {t:SetTable}{es:Array (Int×Au)}(T:Tab t (es.map (·.1))){n:Nat}(hn:es.size=n+1)(h1:n*5<t.mask*3)(h2:(n+1)*5≥t.mask*3)(h3:n<1000) :
  ∃t' order,t.relaid (es.map (·.1)) (grown (n+1))=some (t',order)/\order.toList.Perm (Ba es.size)/\Tab t' ((order.filterMap (es[·]?)).map (·.1))/\(order.filterMap (es[·]?)).toList.Perm es.toList/\t'.led=t.led/\t'.plain=t.plain/\(n+1)*5<t'.mask*3:=by
 obtain ⟨k1,k2,k3,k4⟩:=nX T.msk h1 h2 h3
 obtain ⟨t',order,e,pm,T',pe,l,p,m⟩:=wF k1 t.finger (t.movedTo (sizeAbove (grown (n+1))-1)) t.led t.plain es (by omega)
 exact ⟨t',order,e,pm,T',pe,l,p,by rw[m];exact k3⟩
theorem pK {ks:List Int}{b:Addr}{Q:Bool->Ax->Prop}(hk:TK prog w s.heap ks b)(h:Q true s):A7 (Bf prog w) A (hashByValue 8 (.ref b)) Q E s:=by
 have hT:=hk.typeIs
 obtain ⟨o,items,n,ho,_,hd,hi⟩:=hk
 unfold hashByValue
 refine Ar (wpAny_specialOf hT F.slot_tuple_hash.lookup ?_)
 dsimp only
 refine Ar (Fi ho hd ?_)
 refine Ar ?_
 show A7 _ _ (forIn items _ _) _ _ s
 rw[<- G5]
 have hall0:∀v∈items.toList,∃k t,v = .int k t:=by
  clear hd ho
  generalize items.toList=l at hi
  induction hi with
  | nil=>intro v hv;cases hv
  | cons h1 _ ih =>
   intro v hv
   rcases AU.mp hv with rfl | hv
   ·obtain ⟨t,e⟩:=Fl h1;exact ⟨_,t,e⟩
   ·exact ih v hv
 refine EH _ (λrest r s'=>r.1=none/\s'=s/\∀v∈rest,∃k t,v=Cs k t) _ ?_ ?_ _ _ ⟨rfl,rfl,hall0⟩
 ·rintro v rest r s' ⟨hr,rfl,hall⟩
  obtain ⟨k,t,rfl⟩:=hall v AM
  rw[show hashByValue 7 (.int k t)=pure true from rfl]
  refine Ar (Ay ?_)
  simp only[Cc,A1,if_false]
  exact Ay ⟨rfl,rfl,λu hu'=>hall u (AL _ hu')⟩
 ·rintro ⟨r1,r2⟩ s' ⟨hr,rfl,_⟩
  simp only at hr
  subst hr
  exact Ay h
theorem wH {a b:Addr}{es:Array (Int×Au)}{ks:List Int}{Q:Bool->Ax->Prop}(hu:A.units<cLine)(I:cR w s.heap a es)(els:∀e∈es,∃ks',ElT prog w s.heap e ks')(hk:TK prog w s.heap ks b)(hz:es.size<1000)
  (hin:(∃e∈es,ElT prog w s.heap e ks)->Q false s)
  (hnew:(¬ ∃e∈es,ElT prog w s.heap e ks)->∀h' es',Heap.SameBut a s.heap h'->cR w h' a es'->es'.toList.Perm ((bZ prog w ks,.ref b) :: es.toList)->Q true { s with heap:=h' }) :
  A7 (Bf prog w) A (setAddHashed a (.ref b) (bZ prog w ks)) Q E s:=by
 obtain ⟨ep,t,ho,T,rm,hl,hp⟩:=I
 unfold setAddHashed setAddHashedIn
 refine BV (Ar (bA ho T ?_))
 dsimp only
 rw[show byScan (.ref b) es=false from rfl]
 simp only[A1,if_false]
 obtain ⟨n,q,hn,W,he,hq,hd⟩:=T.ends (bZ prog w ks)
 have hn':n<100000:=by
  have:t.mask<=2047:=by rcases T.msk with e | e | e | e | e <;> omega
  unfold turns at hn
  omega
 unfold setSearch
 refine Ar (pJ hu ho T els hk he 100000 n none _ rfl W hn' hn rfl (λx =>?_) λx =>?_)
 ·obtain ⟨k,r,i,e,_,_,ee,el⟩:=x
  exact Ay (hin ⟨e,Array.mem_of_getElem? ee,el⟩)
 ·have nx:¬ ∃e∈es,ElT prog w s.heap e ks:=by
   rintro ⟨e,he',el⟩
   obtain ⟨i,hi,ei⟩:=Array.getElem_of_mem he'
   have ee:es[i]? = some e:=by rw[A8 hi,ei]
   have hpl:i<t.place.size:=by rw[T.size,BB];exact hi
   obtain ⟨bb,rfl,hbb⟩:=el
   obtain ⟨k,r,w1,er⟩:=T.reach i _ _ (A8 hpl) (pI es i _ ee)
   exact x ⟨k,r,i,_,w1,by rw[er];exact A8 hpl,ee,bb,rfl,hbb⟩
  dsimp only
  refine Ar (bA ho T ?_)
  dsimp only
  rw[T.uJ]
  dsimp only
  rw[hp]
  simp only[if_true]
  have hz':(es.map (·.1)).size+1<=t.mask:=by
   rw[BB];have:=T.fit;rw[BB] at this
   rcases T.msk with e | e | e | e | e <;> rw[e] at rm ⊢ <;> omega
  have T':=T.put W he hq hz'
  rw[<- d8 es (below t.place q.j) (bZ prog w ks,AS b) (·.1),hp] at T'
  have sz:(insertAt es (below t.place q.j) (bZ prog w ks,AS b)).size=es.size+1:=bY _ _ _
  refine Ar (pK hk ?_)
  simp only[if_true]
  refine Ar (gM ho (by rw[sz];omega) λh1 sb1 ho1 =>?_)
  have pm1:=insertAt_perm es (below t.place q.j) (bZ prog w ks,AS b)
  rw[T'.tooFull,BB,sz]
  by_cases full:(es.size+1)*5≥t.mask*3
  ·rw[if_pos (by simpa using full)]
   unfold setRelay
   obtain ⟨t2,order,e2,pm2,T2,pe2,l2,p2,rm2⟩:=lI T' sz (n:=es.size) (by simpa using rm) full hz
   obtain ⟨_,_,_,sa⟩:=nX T.msk rm full hz
   refine Ar (Ar (bA (s:={ s with heap:=h1 }) ho1 T' ?_))
   dsimp only
   rw[if_neg (Nat.not_lt.mpr (A5 sa lH))]
   rw[e2]
   have z2:(order.filterMap ((insertAt es (below t.place q.j) (bZ prog w ks,AS b))[·]?)).size=es.size+1:=by
    rw[<- AF,pe2.length_eq,AF,sz]
   refine Ar ?_
   show A7 _ _ (if ((order.filterMap ((insertAt es (below t.place q.j) (bZ prog w ks,AS b))[·]?)).size != (insertAt es (below t.place q.j) (bZ prog w ks,AS b)).size)=true then _ else _) _ _ _
   rw[if_neg (by rw[z2,sz];simp)]
   refine Ay ?_
   dsimp only
   refine gM (s:={ s with heap:=h1 }) ho1 (by rw[z2];omega) λh2 sb2 ho2 =>?_
   refine Ay (hnew nx h2 _ (sb1.trans sb2) ⟨_,_,ho2,T2,by rw[z2];exact rm2,by rw[l2];exact hl,by rw[p2]⟩ (pe2.trans pm1))
  ·rw[if_neg (by simpa using full)]
   refine Ay (hnew nx h1 _ sb1 ⟨_,_,ho1,T',?_,hl,rfl⟩ pm1)
   rw[sz]
   exact Dt full
end
open PySem PySem.SetTable PyProof.Rows
section
variable  {prog:AN}{w:Bh}{A:BA}{E:Au->Ax->Prop}{s:Ax}
def ElI (e:Int×Au)(k:Int):Prop:=∃t,e=(hashInt k,Cs k t)
theorem sq {es:Array (Int×Au)}(els:∀e∈es,∃k,ElI e k):ElemsOf (intKind prog w) es.toList:=by
 intro e he
 obtain ⟨k,t,rfl⟩:=els e (Be.mp he)
 exact ⟨⟨k,FA _ _ _ _,rfl⟩,rfl⟩
theorem sr {t:SetTable}{es:Array (Int×Au)}(T:Tab t (es.map (·.1)))(h:Int)(x:Au){n:Nat}{q:Probe}(hn:n<10*turns t.mask)(W:Way (occ t) t.mask n (start t.mask h) q)(he:¬ occ t q.j)(hq:q.j<=t.mask)(hz:es.size+1<=t.mask) :
  layNew t es h x=(insertAt es (below t.place q.j) (h,x),{ t with place:=insertAt t.place (below t.place q.j) q.j },false,false):=by
 have hf:t.freeSlot h=some (q.j,false):=by
  unfold SetTable.freeSlot
  rcases nU T (H:=λ_=>h+1) (h:=h) W he hn rfl with ⟨g,_⟩ | ⟨_,_,i,_,_,_,h1,_⟩
  ·rw[show t.probe (λ_=>h+1) h (t.probeStart h)=some (.empty q.j none) from g]
   rfl
  ·have:h+1=h:=h1
   omega
 have T':=T.put W he hq (by rw[BB];exact hz)
 rw[<- d8 es (below t.place q.j) (h,x) (·.1)] at T'
 have ft:=T'.fits
 rw[BB] at ft
 unfold layNew
 rw[hf]
 dsimp only
 rw[T.uJ]
 dsimp only
 unfold SetTable.orStandIn
 rw[if_pos ft,ft]
 rfl
theorem nY {t:SetTable}{es:Array (Int×Au)}{n:Nat}{t':SetTable}{order:Array Nat}(e:t.relaid (es.map (·.1)) n=some (t',order))(pm:order.toList.Perm (Ba es.size))(T':Tab t' ((order.filterMap (es[·]?)).map (·.1))) :
  relayAll t es n=(order.filterMap (es[·]?),t',false):=by
 unfold relayAll
 rw[e]
 dsimp only
 have c:coversAll order es.size=true:=by unfold coversAll;rw[List.isPerm_iff];exact pm
 have f:=T'.fits
 rw[BB] at f
 rw[c,f]
 rfl
theorem add_int {a:Addr}{es:Array (Int×Au)}{k:Int}{tok:Tok}{Q:Bool->Ax->Prop}(I:cR w s.heap a es)(els:∀e∈es,∃k',ElI e k')(hz:es.size<1000)
  (hin:(∃e∈es,ElI e k)->Q false s)
  (hnew:(¬ ∃e∈es,ElI e k)->∀h' es',Heap.SameBut a s.heap h'->cR w h' a es'->es'.toList.Perm ((hashInt k,.int k tok) :: es.toList)->Q true { s with heap:=h' }) :
  A7 (Bf prog w) A (setAddHashed a (.int k tok) (hashInt k)) Q E s:=by
 obtain ⟨ep,t,ho,T,rm,hl,hp⟩:=I
 have hel:=sq (prog:=prog) (w:=w) els
 have hb:es.size<scanBound:=by unfold scanBound;omega
 have hf:t.fits es.size=true:=by have:=T.fits;rwa [BB] at this
 unfold setAddHashed setAddHashedIn
 refine BV (Ar (bA ho T ?_))
 dsimp only
 rw[byScan_of (knd:=intKind prog w) rfl hb hel]
 simp only[↓reduceIte]
 unfold setAddByScan
 refine Ar ?_
 refine Ar (Du ?_)
 refine Ar (wpAny_setScan_of (knd:=intKind prog w) (k:=k) (FA _ _ _ _) ho rfl hf hel ?_)
 cases hr:List.findIdx? (λe=>(intKind prog w).is k e.2) es.toList with
 | some j =>
  dsimp only
  obtain ⟨hj,hpj,_⟩:=List.findIdx?_eq_some_iff_getElem.mp hr
  refine Ay (Ay (hin ⟨es.toList[j],Be.mp (Ds hj),?_⟩))
  obtain ⟨k',t',e'⟩:=els es.toList[j] (Be.mp (Ds hj))
  obtain ⟨u,e2⟩:=Fl hpj
  rw[e'] at e2
  cases e2
  exact ⟨_,e'⟩
 | none =>
  dsimp only
  have nx:¬ ∃e∈es,ElI e k:=by
   rintro ⟨e,he,t',rfl⟩
   have:=List.findIdx?_eq_none_iff.mp hr _ (Be.mpr he)
   rw[FA] at this
   cases this
  have hgw:∀(b:Bool) {s₁:Ax} {Q':Unit->Ax->Prop},Q' () s₁->A7 (Bf prog w) A (match b with | true=>rule "set.scan.the-table-gave-way" | false=>pure ()) Q' E s₁ :=
   λb s₁ Q' hq=>by cases b <;> first | exact Ay hq | exact Du hq
  obtain ⟨n,q,hn,W,he,hq,hd⟩:=T.ends (hashInt k)
  have hz':es.size+1<=t.mask:=by
   rcases T.msk with e | e | e | e | e <;> rw[e] at rm ⊢ <;> omega
  rw[sr T (hashInt k) (.int k tok) hn W he hq hz']
  dsimp only
  refine Ar (Ay (a:=()) ?_)
  have T':=T.put W he hq (by rw[BB];exact hz')
  rw[<- d8 es (below t.place q.j) (hashInt k,Cs k tok) (·.1),hp] at T'
  rw[hp]
  simp only[↓reduceIte]
  refine Ar ?_
  rw[show hashByValue 8 (.int k tok)=pure true from rfl]
  refine Ay ?_
  simp only[↓reduceIte]
  have sz:(insertAt es (below t.place q.j) (hashInt k,Cs k tok)).size=es.size+1:=bY _ _ _
  refine Ar (gM ho (by rw[sz];omega) λh1 sb1 ho1 =>?_)
  have pm1:=insertAt_perm es (below t.place q.j) (hashInt k,Cs k tok)
  rw[T'.tooFull,BB,sz]
  by_cases full:(es.size+1)*5≥t.mask*3
  ·rw[if_pos (by simpa using full)]
   obtain ⟨t2,order,e2,pm2,T2,pe2,l2,p2,rm2⟩:=lI T' sz (n:=es.size) (by simpa using rm) full hz
   rw[nY e2 pm2 T2]
   dsimp only
   have z2:(order.filterMap ((insertAt es (below t.place q.j) (hashInt k,Cs k tok))[·]?)).size=es.size+1:=by
    rw[<- AF,pe2.length_eq,AF,sz]
   refine Ar (Ay (a:=()) ?_)
   refine Ar (gM (s:={ s with heap:=h1 }) ho1 (by rw[z2];omega) λh2 sb2 ho2 =>?_)
   refine Ay (Ay (hnew nx h2 _ (sb1.trans sb2) ⟨_,_,ho2,T2,by rw[z2];exact rm2,by rw[l2];exact hl,by rw[p2]⟩ (pe2.trans pm1)))
  ·rw[if_neg (by simpa using full)]
   refine Ay (Ay (hnew nx h1 _ sb1 ⟨_,_,ho1,T',?_,hl,rfl⟩ pm1))
   rw[sz]
   exact Dt full
end
open PySem PySem.SetTable PyProof.Rows PySem.Spec
def TS (h h':Heap):Prop:=∀b o,o.cls = .type "tuple" -> h.get? b=some o->h'.get? b=some o
structure Kd (prog:AN)(w:Bh)(κ:Type) where
 El:Heap->Au -> κ -> Prop
 hash:κ -> Int
 room:BA->Prop
 keeps:∀{h h':Heap} {v:Au} {k:κ},El h v k->TS h h'->El h' v k
 inj:∀{h:Heap} {v:Au} {k k':κ},El h v k->El h v k'->k=k'
 add:∀{A:BA} {E:Au->Ax->Prop} {s:Ax} {a:Addr} {es:Array (Int×Au)} {v:Au} {k:κ} {Q:Bool->Ax->Prop},room A->cR w s.heap a es->(∀e∈es,∃k',e.1=hash k'/\El s.heap e.2 k')->El s.heap v k->es.size<1000 →
  ((∃e∈es,El s.heap e.2 k)->∀tk,s.toks<=tk->Q false { s with toks:=tk }) →
  ((¬ ∃e∈es,El s.heap e.2 k)->∀h' es' tk,s.toks<=tk->Heap.SameBut a s.heap h'->cR w h' a es'->es'.toList.Perm ((hash k,v) :: es.toList)->Q true { s with heap:=h',toks:=tk }) →
  A7 (Bf prog w) A (setAdd a v) Q E s
theorem TK.keep {prog:AN}{w:Bh}{h h':Heap}{ks:List Int}{b:Addr}(x:TK prog w h ks b)(t:TS h h'):TK prog w h' ks b :=
 let ⟨o,items,n,ho,hc,r⟩:=x;⟨o,items,n,t b o hc ho,hc,r⟩
def iN (prog:AN)(w:Bh):Kd prog w (List Int) where
 El:=λh v ks=>∃b,v = .ref b/\TK prog w h ks b
 hash:=bZ prog w
 room:=λA=>A.units<cLine
 keeps:=λ⟨b,e,x⟩ t=>⟨b,e,x.keep t⟩
 inj:=λ⟨b,e,x⟩ ⟨b',e',x'⟩=>by
  rw[e] at e';injection e' with e';subst e';exact x.inj x'
 add:=by
  intro A E s a es v k Q hu I els hv hz hin hnew
  obtain ⟨b,rfl,hk⟩:=hv
  unfold setAdd
  refine BV (Ar (wpAny_pyHash_tuple hu hk ?_))
  have els':∀e∈es,∃ks',ElT prog w s.heap e ks':=λe he=>by
   obtain ⟨k',e1,b',e2,x⟩:=els e he
   exact ⟨k',b',GW e1 e2,x⟩
  have conv:∀e∈es,(ElT prog w s.heap e k↔∃b,e.2 = .ref b/\TK prog w s.heap k b):=λe he=>by
   constructor
   ·rintro ⟨b',rfl,x⟩;exact ⟨b',rfl,x⟩
   ·rintro ⟨b',e2,x⟩
    obtain ⟨k',e1,b2,e3,x2⟩:=els e he
    rw[e2] at e3;injection e3 with e3;subst e3
    obtain rfl:=x.inj x2
    exact ⟨b',GW e1 e2,x⟩
  refine wH (s:={ s with toks:=s.toks+(k.length+1) }) hu I els' hk hz (λx=>hin ?_ _ (CL _ _)) λx h' es' sb I' pm=>hnew ?_ h' es' _ (CL _ _) sb I' pm
  ·obtain ⟨e,he,x⟩:=x;exact ⟨e,he,(conv e he).mp x⟩
  ·rintro ⟨e,he,y⟩;exact x ⟨e,he,(conv e he).mpr y⟩
def qC (prog:AN)(w:Bh):Kd prog w Int where
 El:=λ_ v k=>∃t,v = .int k t
 hash:=hashInt
 room:=λ_=>True
 keeps:=λx _=>x
 inj:=λ⟨t,e⟩ ⟨t',e'⟩=>by rw[e] at e';injection e'
 add:=by
  intro A E s a es v k Q _ I els hv hz hin hnew
  obtain ⟨t,rfl⟩:=hv
  unfold setAdd
  refine BV (Ar ((intKind prog w).pyHash (k:=k) (FA _ _ _ _) ?_))
  have els':∀e∈es,∃k',ElI e k':=λe he=>by
   obtain ⟨k',e1,t',e2⟩:=els e he
   exact ⟨k',t',GW e1 e2⟩
  have conv:∀e∈es,(ElI e k↔∃t,e.2=Cs k t):=λe he=>by
   constructor
   ·rintro ⟨t',rfl⟩;exact ⟨t',rfl⟩
   ·rintro ⟨t',e2⟩
    obtain ⟨k',e1,t2,e3⟩:=els e he
    rw[e2] at e3;injection e3 with e3 e4;subst e3
    exact ⟨t',GW e1 e2⟩
  refine add_int (s:={ s with toks:=s.toks+1 }) I els' hz (λx=>hin ?_ _ (EN _)) λx h' es' sb I' pm=>hnew ?_ h' es' _ (EN _) sb I' pm
  ·obtain ⟨e,he,x⟩:=x;exact ⟨e,he,(conv e he).mp x⟩
  ·rintro ⟨e,he,y⟩;exact x ⟨e,he,(conv e he).mpr y⟩
section
variable  {prog:AN}{w:Bh}{κ:Type}(kd:Kd prog w κ)
structure Good (h:Heap)(es:Array (Int×Au))(l:List κ):Prop where
 el:∀e∈es,∃k,k∈l/\e.1=kd.hash k/\kd.El h e.2 k
 all:∀k∈l,∃e∈es,kd.El h e.2 k
 dis:es.toList.Pairwise (λe e'=>∀k,kd.El h e.2 k->¬ kd.El h e'.2 k)
 len:es.size<=l.length
variable  {kd}
theorem Good.keeps {h h':Heap}{es:Array (Int×Au)}{l:List κ}(G:Good kd h es l)(t:TS h h'):Good kd h' es l:=by
 refine ⟨λe he =>?_,λk hk =>?_,?_,G.len⟩
 ·obtain ⟨k,a,b,c⟩:=G.el e he;exact ⟨k,a,b,kd.keeps c t⟩
 ·obtain ⟨e,a,b⟩:=G.all k hk;exact ⟨e,a,kd.keeps b t⟩
 ·refine D7 (λ{e e'} he he' x k y z =>?_) G.dis
  obtain ⟨k1,_,_,c1⟩:=G.el e (Be.mp he)
  obtain ⟨k2,_,_,c2⟩:=G.el e' (Be.mp he')
  obtain rfl:=kd.inj y (kd.keeps c1 t)
  obtain rfl:=kd.inj z (kd.keeps c2 t)
  exact x _ c1 c2
theorem Good.nil (h:Heap):Good kd h #[] []:=⟨λe he=>(by simp at he),λk hk=>(by cases hk),(by simp),AE _⟩
theorem Good.same {h:Heap}{es:Array (Int×Au)}{l:List κ}(G:Good kd h es l){k:κ}(x:∃e∈es,kd.El h e.2 k):Good kd h es (l++[k]):=by
 refine ⟨λe he =>?_,λk' hk =>?_,G.dis,by rw[As];have:=G.len;omega⟩
 ·obtain ⟨k,a,b⟩:=G.el e he;exact ⟨k,BO _ a,b⟩
 ·rcases AI.mp hk with hk | hk
  ·exact G.all k' hk
  ·rw[AB] at hk;subst hk;exact x
theorem Good.more {h:Heap}{es es':Array (Int×Au)}{l:List κ}(G:Good kd h es l){k:κ}{v:Au}(hv:kd.El h v k)(x:¬ ∃e∈es,kd.El h e.2 k)(pm:es'.toList.Perm ((kd.hash k,v) :: es.toList)):Good kd h es' (l++[k]):=by
 have mem:∀e,e∈es'↔e=(kd.hash k,v)\/e∈es:=λe=>by
  rw[<- Be,pm.mem_iff,AU,Be]
 refine ⟨λe he =>?_,λk' hk =>?_,?_,?_⟩
 ·rcases (mem e).mp he with rfl | he
  ·exact ⟨k,Bb _ (AB.mpr rfl),rfl,hv⟩
  ·obtain ⟨k,a,b⟩:=G.el e he;exact ⟨k,BO _ a,b⟩
 ·rcases AI.mp hk with hk | hk
  ·obtain ⟨e,a,b⟩:=G.all k' hk;exact ⟨e,(mem e).mpr (.inr a),b⟩
  ·rw[AB] at hk;subst hk;exact ⟨_,(mem _).mpr (.inl rfl),hv⟩
 ·rw[pm.pairwise_iff (λ{a b} z k y1 y2=>z k y2 y1)]
  refine List.Pairwise.cons (λe he k' y1 y2 =>?_) G.dis
  obtain rfl:=kd.inj y1 hv
  exact x ⟨e,Be.mp he,y2⟩
 ·have:=pm.length_eq
  rw[Bk,AF,AF] at this
  rw[As,Bs]
  have:=G.len
  omega
end
section
variable  {prog:AN}{w:Bh}{A:BA}{R:Result->Ax->Prop}{I:Addr}{fp:List Addr}{G:Array GenState->Array GenState->Prop}{n:Nat}{P:Nat->Au->Prop}{St:Nat->Ax->Prop}{κ:Type}{kd:Kd prog w κ}
theorem nZ (W:WalksS prog w A.in1 I fp [I] G n P St)(hrm:kd.room A.in1)(hI:∀i s,St i s->∃o,s.heap.get? I=some o/\o.cls ≠ .type "tuple")(S:Addr)(hSf:S∉fp)(hIf:I∈fp)(ks:List κ)(hn:n=ks.length)(hb:n<1000) :
  ∀(k i:Nat) (s:Ax) (es:Array (Int×Au)),n-i=k->i<=n->St i s->(∀j v,P j v->∃q,ks[j]? = some q/\kd.El s.heap v q) →
   cR w s.heap S es->Good kd s.heap es (ks.take i) →
   (∀s' es',Moved [S,I] G s s'->cR w s'.heap S es'->Good kd s'.heap es' ks->R (.ok (.ret .none)) s') →
   FN (Bf prog w) A (.builtin "set.update.loop" ⟨[.ref S,.ref I],[]⟩) R s:=by
 have hSI:S≠I:=λe=>hSf (e ▸ hIf)
 have ts:∀i s s',St i s->Moved [I] G s s'->TS s.heap s'.heap:=λi s s' hst hm b o hc e=>by
  refine hm.heap b o (λhb =>?_) e
  rw[AB] at hb
  obtain ⟨o',e',c'⟩:=hI i s hst
  rw[hb,e'] at e;cases e;exact c' hc
 intro k
 induction k with
 | zero =>
  intro i s es hk hi hst hv hS hG hR
  have hin:i=n:=by omega
  subst hin
  refine B9 FG ?_
  rw[Cu Dr _]
  show A7 _ A.in1 (pyNext (.ref I) >>= _) _ _ s
  refine Ar (W.done s _ _ hst λs' hm =>?_)
  show A7 _ A.in1 (ret CC) _ _ s'
  rw[Bi (by omega)] at hG
  exact Ay (hR s' es (hm.mono λb hb=>by rw[AB] at hb;simp[hb]) (hS.at λo e=>hm.heap S o (by rw[AB];exact hSI) e) (hG.keeps (ts _ _ _ hst hm)))
 | succ k ih =>
  intro i s es hk hi hst hv hS hG hR
  have hlt:i<n:=by omega
  refine B9 FG ?_
  rw[Cu Dr _]
  show A7 _ A.in1 (pyNext (.ref I) >>= _) _ _ s
  refine Ar (W.item i s _ _ hlt hst λv s' hP hst' hm =>?_)
  have t0:=ts _ _ _ hst hm
  obtain ⟨q,eq,hq⟩:=hv i v hP
  have hS':cR w s'.heap S es:=hS.at λo e=>hm.heap S o (by rw[AB];exact hSI) e
  have hG':=hG.keeps t0
  have tk:ks.take (i+1)=ks.take i++[q]:=by rw[Iz,eq];rfl
  show A7 _ A.in1 (GQ [v] (setAdd S v) >>= _) _ _ s'
  have hm2:Moved [S,I] G s s':=hm.mono λb hb=>by rw[AB] at hb;simp[hb]
  refine Ar (BV (kd.add hrm hS' (λe he =>?_) (kd.keeps hq t0) ?_ (λx tk' htk =>?_) λx h' es' tk' htk sb I' pm =>?_))
  ·obtain ⟨k',_,a,b⟩:=hG'.el e he;exact ⟨k',a,b⟩
  ·have:=hG'.len;rw[Bz] at this;omega
  ·refine Ay ⟨Eo Dr _,ih (i+1) _ es (by omega) hlt (W.frame _ s' _ _ hst' htk λb _ o e=>e) (λj v' p =>?_) hS' (by rw[tk];exact hG'.same x) λs'' es'' hm'' a b =>?_⟩
   ·obtain ⟨q',a,b⟩:=hv j v' p;exact ⟨q',a,kd.keeps b t0⟩
   ·exact hR s'' es'' (IU W.gtrans (hm2.then_heap htk λb o _ e=>e) hm'') a b
  ·have t1:TS s'.heap h':=λb o hc e=>by
    rw[sb.2 b (λhb=>by
     obtain ⟨ep,t,ho,_⟩:=hS'
     rw[hb,ho] at e;cases e;simp[aK] at hc)]
    exact e
   refine Ay ⟨Eo Dr _,ih (i+1) _ es' (by omega) hlt (W.frame _ s' _ _ hst' htk λb hb o e =>?_) (λj v' p =>?_) I' (by rw[tk];exact (hG'.more (kd.keeps hq t0) x pm).keeps t1) λs'' es'' hm'' a b =>?_⟩
   ·rw[sb.2 b (λh:b=S=>hSf (h ▸ hb))];exact e
   ·obtain ⟨q',a,b⟩:=hv j v' p;exact ⟨q',a,kd.keeps (kd.keeps b t0) t1⟩
   ·refine hR s'' es'' (IU W.gtrans (hm2.then_heap htk λb o hb e =>?_) hm'') a b
    rw[sb.2 b (λh:b=S=>hb (by rw[h];exact AM))];exact e
end
section
variable  {prog:AN}{w:Bh}{A:BA}{E:Au->Ax->Prop}{s:Ax}
theorem qD (a:Au){Q₁:Au->Ax->Prop}
    (h:Q₁ (.ref s.heap.objs.size) { s with heap:=s.heap.push (aK #[] 0 (.fresh 0 0 (!w.params.followText "set-order"))) }) :
    FN (Bf prog w) A (.call (.builtin "set.__new__") ⟨[.type "set",a],[]⟩) (wants Q₁ E) s:=by
  refine Gq ?_
  show A7 _ A.in1 (do checkBuiltinCall "set.__new__" ⟨[.type "set",a],[]⟩;again (.builtin "set.__new__" ⟨[.type "set",a],[]⟩)) _ _ s
  refine Ar (GN (PySem.F.newCall_set_1 a) (Ay ⟨Eo Ik _,B9 F.entry_set_new ?_⟩))
  rw[Cu Ik _]
  unfold Builtin.«set.__new__» Builtin.Frozenset.newClass
  have hsub:=sub_set_self
  obtain ⟨hp,g,d,tk,os⟩:=s
  dsimp only
  wp_walk
  refine FU (Ay ?_)
  dsimp only
  simp only[newObj]
  refine Ar (wpAny_alloc (Ay ?_))
  exact Ay h
theorem su (led:Bool):Tab (.fresh 0 0 led) #[]:=by
 refine ⟨rfl,λi j a b e =>?_,rfl,λi j e =>?_,.inl rfl,Bl _,λi j h e =>?_⟩ <;> (simp[SetTable.fresh] at e)
theorem jF {h:Heap}{a:Addr}(ho:h.get? a=some (aK #[] 0 (.fresh 0 0 (!w.params.followText "set-order")))):cR w h a #[] :=
 ⟨0,_,ho,(by rw[Array.map_empty];exact su _),(by show 0*5<7*3;decide),rfl,rfl⟩
theorem sub_tuple_set:isSubtype (.type "tuple") (.type "set")=pure false:=by rw[GD];kernel_rfl
theorem sub_tuple_frozenset:isSubtype (.type "tuple") (.type "frozenset")=pure false:=by rw[GD];kernel_rfl
end
open PySem PySem.SetTable PyProof.Rows PySem.Spec
section
variable  {prog:AN}{w:Bh}{A:BA}{E:Au->Ax->Prop}{s:Ax}
set_option maxHeartbeats 3200000 in
theorem fb {κ:Type}{kd:Kd prog w κ}{l:Addr}{items:Array Au}{ks:List κ}{Q:Au->Ax->Prop}
  (hh:A.handled=none) (hrm:kd.room A.in1.in1.in1) (hl:s.heap.IsTuple l items) (hz:items.size=ks.length) (hi:∀(i:Nat) v,items[i]? = some v->∃q,ks[i]? = some q/\kd.El s.heap v q) (hb:items.size<1000)
  (h:∀(h':Heap) (es:Array (Int×Au)) (tk:Nat),s.toks<=tk->cR w h' s.heap.objs.size es->Good kd h' es ks →
   (∀b o,s.heap.get? b=some o->h'.get? b=some o)->Q (.ref s.heap.objs.size) { s with heap:=h',toks:=tk }) :
  A7 (Bf prog w) A (call (.type "set") [.ref l]) Q E s:=by
 obtain ⟨c,tl,hmro⟩:=B8.mro
 have hmade:=B8.made
 have hsub:=B8.sub
 refine HH (Gq ?_)
 show A7 _ _ (callAny (.type "set") _) _ _ _
 refine Ay ⟨Ei _ (by decide +kernel),B9 Hy ?_⟩
 rw[G6 (Gr "set" [.ref l] []) rfl]
 have h1:=B8.notType
 have h2:=B8.canCreate
 have hct:=FY (.ref l)
 repeat (any_goals (first | assumption | wp_step))
 have gd:(s.heap.push (aK #[] 0 (.fresh 0 0 (!w.params.followText "set-order")))).objs.size=s.heap.objs.size+1:=C9 _ _
 refine Dl (qD (w:=w) (.ref l) (E:=E) (Q₁:=λobj s₁=>obj = .ref s.heap.objs.size/\s₁={ s with heap:=s.heap.push (aK #[] 0 (.fresh 0 0 (!w.params.followText "set-order"))) }) ⟨rfl,rfl⟩) λr s₁ hr =>?_
 cases r with
 | error e=>exact hr
 | ok fl =>
  cases fl with
  | ret obj =>
   obtain ⟨rfl,rfl⟩:=hr
   generalize hled:(!w.params.followText "set-order")=led at gd ⊢
   have hS:(s.heap.push (aK #[] 0 (.fresh 0 0 led))).get? s.heap.objs.size=some (aK #[] 0 (.fresh 0 0 led)):=AX _ rfl
   have hT:Shared.TypeIs { s with heap:=s.heap.push (aK #[] 0 (.fresh 0 0 led)) } (.ref s.heap.objs.size) "set" :=⟨_,hS,rfl⟩
   have hli:=B8.init.lookup
   have hbi:=B8.init.bind (.ref s.heap.objs.size)
   repeat (any_goals (first | assumption | wp_step))
   refine Dl (DS (R:=wants (λr s₂=>r = .none/\∃h' es tk,s₂={ s with heap:=h',toks:=tk }/\s.toks<=tk ∧
     cR w h' s.heap.objs.size es/\Good kd h' es ks ∧
     (∀b o,s.heap.get? b=some o->h'.get? b=some o)) E) B8.init.plain HY (check_set_init_1 hT ?_)) λr₂ s₂ hr₂ =>?_
   ·obtain ⟨ol,hol,hcl,nl,hdl⟩:=id hl
    obtain ⟨ocls,odict,odata,oslots⟩:=ol
    simp only at hcl hdl
    subst hcl;subst hdl
    have hol':(s.heap.push (aK #[] 0 (.fresh 0 0 led))).get? l=some { cls :=.type "tuple",dict:=odict,data :=.seq items nl,slots:=oslots }:=Az _ hol
    have hsls:=sub_tuple_set
    have hslf:=sub_tuple_frozenset
    have hne:(Dv "tuple" == Dv "dict")=false:=by decide
    have hl1:(s.heap.push (aK #[] 0 (.fresh 0 0 led))).IsTuple l items:=⟨_,hol',rfl,nl,rfl⟩
    unfold Builtin.«set.__init__» noKeywords Builtin.Frozenset.updateFrom
    generalize hPI:pyIter=PI
    wp_walk
    subst hPI
    refine DA hl1 ?_
    refine Ar (Fj ?_)
    have hlS:l<s.heap.objs.size:=AQ hol
    have hh3:A.in1.in1.in1.handled=none:=by simp[hh]
    have hneI:l≠(s.heap.push (aK #[] 0 (.fresh 0 0 led))).objs.size:=by
     rw[gd];exact A3 (Cb hlS)
    have hSf:s.heap.objs.size∉[(s.heap.push (aK #[] 0 (.fresh 0 0 led))).objs.size,l]:=by
     rw[gd];simp only[AU,AB,BP,or_false,not_or]
     exact ⟨A3 (C2 _),DB hlS⟩
    refine nZ (kd:=kd) ((IV hh3 _ l hneI items).toS) hrm (λi s' st =>?hI) s.heap.objs.size hSf AM ks hz hb (items.size-0) 0 _ #[] (by omega) (Bl _)
     ⟨⟨_,AX _ rfl,rfl,rfl⟩,(hl1.push _)⟩ ?hv (by subst hled;exact jF (Az _ hS)) (Good.nil _) ?hR
    case hI =>
     obtain ⟨o,ho,hc,_⟩:=st.1
     exact ⟨o,ho,by rw[hc];decide⟩
    case hv =>
     intro j v hv
     obtain ⟨q,e,x⟩:=hi j v hv
     exact ⟨q,e,kd.keeps x λb o _ e=>Az _ (Az _ e)⟩
    case hR =>
     intro s' es' hm hS' hG'
     obtain ⟨h',g',d',tk',os'⟩:=s'
     have eg:g'=s.gens:=hm.gens
     have ed:d'=s.drawn:=hm.drawn
     have eo:os'=s.os:=hm.os
     subst eg;subst ed;subst eo
     show A7 _ _ _ _ _ _
     refine Ay ?_
     show A7 _ _ (ret CC) _ _ _
     refine Ay ⟨rfl,h',es',tk',rfl,hm.toks,hS',hG',λb o e =>?_⟩
     have hbb:=AQ e
     have hb1:b≠s.heap.objs.size:=A3 hbb
     have hb2:b≠(s.heap.push (aK #[] 0 (.fresh 0 0 led))).objs.size:=by
      rw[gd];exact A3 (Cb hbb)
     exact hm.heap b o (by simp only[AU,AB,BP,or_false,not_or];exact ⟨hb1,hb2⟩) (Az _ (Az _ e))
   ·cases r₂ with
    | error e=>exact hr₂
    | ok fl₂ =>
     cases fl₂ with
     | ret r =>
      obtain ⟨rfl,h',es,tk,rfl,htk,hS',hG',hk'⟩:=hr₂
      repeat (any_goals (first | assumption | wp_step))
      exact h _ _ _ htk hS' hG' hk'
     | _=>exact hr₂.elim
  | _=>exact hr.elim
end
open PySem PySem.SetTable PyProof.Rows PySem.Spec
section
variable  {prog:AN}{w:Bh}{A:BA}{E:Au->Ax->Prop}{s:Ax}
set_option maxHeartbeats 3200000 in
theorem call_set_list {κ:Type}{kd:Kd prog w κ}{l:Addr}{items:Array Au}{ks:List κ}{Q:Au->Ax->Prop}
  (hh:A.handled=none) (hrm:kd.room A.in1.in1.in1) (hl:s.heap.IsList l items) (hz:items.size=ks.length) (hi:∀(i:Nat) v,items[i]? = some v->∃q,ks[i]? = some q/\kd.El s.heap v q) (hb:items.size<1000)
  (h:∀(h':Heap) (es:Array (Int×Au)) (tk:Nat),s.toks<=tk->cR w h' s.heap.objs.size es->Good kd h' es ks →
   (∀b o,s.heap.get? b=some o->h'.get? b=some o)->Q (.ref s.heap.objs.size) { s with heap:=h',toks:=tk }) :
  A7 (Bf prog w) A (call (.type "set") [.ref l]) Q E s:=by
 obtain ⟨c,tl,hmro⟩:=B8.mro
 have hmade:=B8.made
 have hsub:=B8.sub
 refine HH (Gq ?_)
 show A7 _ _ (callAny (.type "set") _) _ _ _
 refine Ay ⟨Ei _ (by decide +kernel),B9 Hy ?_⟩
 rw[G6 (Gr "set" [.ref l] []) rfl]
 have h1:=B8.notType
 have h2:=B8.canCreate
 have hct:=FY (.ref l)
 repeat (any_goals (first | assumption | wp_step))
 have gd:(s.heap.push (aK #[] 0 (.fresh 0 0 (!w.params.followText "set-order")))).objs.size=s.heap.objs.size+1:=C9 _ _
 refine Dl (qD (w:=w) (.ref l) (E:=E) (Q₁:=λobj s₁=>obj = .ref s.heap.objs.size/\s₁={ s with heap:=s.heap.push (aK #[] 0 (.fresh 0 0 (!w.params.followText "set-order"))) }) ⟨rfl,rfl⟩) λr s₁ hr =>?_
 cases r with
 | error e=>exact hr
 | ok fl =>
  cases fl with
  | ret obj =>
   obtain ⟨rfl,rfl⟩:=hr
   generalize hled:(!w.params.followText "set-order")=led at gd ⊢
   have hS:(s.heap.push (aK #[] 0 (.fresh 0 0 led))).get? s.heap.objs.size=some (aK #[] 0 (.fresh 0 0 led)):=AX _ rfl
   have hT:Shared.TypeIs { s with heap:=s.heap.push (aK #[] 0 (.fresh 0 0 led)) } (.ref s.heap.objs.size) "set" :=⟨_,hS,rfl⟩
   have hli:=B8.init.lookup
   have hbi:=B8.init.bind (.ref s.heap.objs.size)
   repeat (any_goals (first | assumption | wp_step))
   refine Dl (DS (R:=wants (λr s₂=>r = .none/\∃h' es tk,s₂={ s with heap:=h',toks:=tk }/\s.toks<=tk ∧
     cR w h' s.heap.objs.size es/\Good kd h' es ks ∧
     (∀b o,s.heap.get? b=some o->h'.get? b=some o)) E) B8.init.plain HY (check_set_init_1 hT ?_)) λr₂ s₂ hr₂ =>?_
   ·obtain ⟨ol,hol,hcl,nl,hdl⟩:=id hl
    obtain ⟨ocls,odict,odata,oslots⟩:=ol
    simp only at hcl hdl
    subst hcl;subst hdl
    have hol':(s.heap.push (aK #[] 0 (.fresh 0 0 led))).get? l=some { cls :=.type "list",dict:=odict,data :=.seq items nl,slots:=oslots }:=Az _ hol
    have hsls:=PySem.F.sub_list_set
    have hslf:=PySem.F.sub_list_frozenset
    have hne:(Dv "list" == Dv "dict")=false:=by decide
    have hl1:(s.heap.push (aK #[] 0 (.fresh 0 0 led))).IsList l items:=⟨_,hol',rfl,nl,rfl⟩
    unfold Builtin.«set.__init__» noKeywords Builtin.Frozenset.updateFrom
    generalize hPI:pyIter=PI
    wp_walk
    subst hPI
    refine Fx hl1 ?_
    refine Ar (Fj ?_)
    have hlS:l<s.heap.objs.size:=AQ hol
    have hh3:A.in1.in1.in1.handled=none:=by simp[hh]
    have hneI:l≠(s.heap.push (aK #[] 0 (.fresh 0 0 led))).objs.size:=by
     rw[gd];exact A3 (Cb hlS)
    have hSf:s.heap.objs.size∉[(s.heap.push (aK #[] 0 (.fresh 0 0 led))).objs.size,l]:=by
     rw[gd];simp only[AU,AB,BP,or_false,not_or]
     exact ⟨A3 (C2 _),DB hlS⟩
    refine nZ (kd:=kd) ((Walks.list hh3 _ l hneI items).toS) hrm (λi s' st =>?hI) s.heap.objs.size hSf AM ks hz hb (items.size-0) 0 _ #[] (by omega) (Bl _)
     ⟨⟨_,AX _ rfl,rfl,rfl⟩,(hl1.push _)⟩ ?hv (by subst hled;exact jF (Az _ hS)) (Good.nil _) ?hR
    case hI =>
     obtain ⟨o,ho,hc,_⟩:=st.1
     exact ⟨o,ho,by rw[hc];decide⟩
    case hv =>
     intro j v hv
     obtain ⟨q,e,x⟩:=hi j v hv
     exact ⟨q,e,kd.keeps x λb o _ e=>Az _ (Az _ e)⟩
    case hR =>
     intro s' es' hm hS' hG'
     obtain ⟨h',g',d',tk',os'⟩:=s'
     have eg:g'=s.gens:=hm.gens
     have ed:d'=s.drawn:=hm.drawn
     have eo:os'=s.os:=hm.os
     subst eg;subst ed;subst eo
     show A7 _ _ _ _ _ _
     refine Ay ?_
     show A7 _ _ (ret CC) _ _ _
     refine Ay ⟨rfl,h',es',tk',rfl,hm.toks,hS',hG',λb o e =>?_⟩
     have hbb:=AQ e
     have hb1:b≠s.heap.objs.size:=A3 hbb
     have hb2:b≠(s.heap.push (aK #[] 0 (.fresh 0 0 led))).objs.size:=by
      rw[gd];exact A3 (Cb hbb)
     exact hm.heap b o (by simp only[AU,AB,BP,or_false,not_or];exact ⟨hb1,hb2⟩) (Az _ (Az _ e))
   ·cases r₂ with
    | error e=>exact hr₂
    | ok fl₂ =>
     cases fl₂ with
     | ret r =>
      obtain ⟨rfl,h',es,tk,rfl,htk,hS',hG',hk'⟩:=hr₂
      repeat (any_goals (first | assumption | wp_step))
      exact h _ _ _ htk hS' hG' hk'
     | _=>exact hr₂.elim
  | _=>exact hr.elim
end
open PySem PySem.SetTable PyProof.Rows
namespace F9
theorem d9:Slot "set_iterator" "__next__" "set_iterator.__next__" :=
 .of (owner := "set_iterator") (n := "__next__") (by rw[typeLookup_type,builtinLookup_eq_fast];kernel_rfl) (by decide +kernel) (by decide +kernel) (by decide +kernel)
  (by first | exact .inl (by decide +kernel) | exact .inr (by decide +kernel)) (by rw[GD];kernel_rfl)
theorem kC:entryFor table "set_iterator.__next__" = some Builtin.«set_iterator.__next__» := entryFor_of_tree (by kernel_rfl)
theorem mD (a:Au):argsOk "set_iterator.__next__" ⟨[a],[]⟩:=by
 unfold argsOk;kernel_rfl
theorem jG:entryFor table "set.__iter__" = some Builtin.«frozenset.__iter__» :=
 entryFor_alias (id' := "frozenset.__iter__") (by kernel_rfl) rfl (by decide +kernel) (by kernel_rfl)
end F9
theorem jH {α:Type}:∀(l:List α) (i:Nat) (x:α),l[i]? = some x->(x :: l.eraseIdx i).Perm l
 | [],i,x,h=>by simp at h
 | y :: l,0,x,h=>by simp at h;subst h;exact Dc _
 | y :: l,i+1,x,h=>by
  rw[Dq] at h
  rw[Ef]
  exact (List.Perm.swap y x _).trans (List.Perm.cons y (jH l i x h))
theorem qF {α:Type}(next:Nat->Nat):∀(fuel k:Nat) (left:List α) (out:Array α),left.length=fuel->(pickOrder.go next fuel k left out).toList.Perm (out.toList++left)
 | 0,k,left,out,h=>by
  have:left=[]:=FE.mp h
  subst this
  unfold pickOrder.go
  rw[Bj]
 | fuel+1,k,left,out,h=>by
  unfold pickOrder.go
  have hl:next k%left.length<left.length:=CJ _ (by omega)
  have e:=AD hl
  rw[e]
  dsimp only
  have ih:=qF next fuel (k+1) (left.eraseIdx (next k%left.length)) (out.push left[next k%left.length]) (by rw[List.length_eraseIdx,if_pos hl];omega)
  refine ih.trans ?_
  rw[CB,A4]
  exact B7 _ (jH _ _ _ e)
theorem sv {α:Type}(next:Nat->Nat)(xs:Array α):(pickOrder next xs).toList.Perm xs.toList:=by
 unfold pickOrder
 have:=qF next xs.size 0 xs.toList #[] (by simp)
 simpa using this
section
variable  {prog:AN}{w:Bh}{A:BA}{E:Au->Ax->Prop}{s:Ax}
def walkVals (w:Bh)(a:Addr)(es:Array (Int×Au))(ep:Nat):List Au :=
 if w.params.followText "set-order" = true then (pickOrder (w.params.setOrder a ep) es).toList.map (·.2) else es.toList.map (·.2)
theorem lJ (w:Bh)(a:Addr)(es:Array (Int×Au))(ep:Nat):(walkVals w a es ep).Perm (es.toList.map (·.2)):=by
 unfold walkVals
 split
 ·exact (sv _ _).map _
 ·exact Dc _
theorem ik {Q:Bool->Ax->Prop}(h:Q (w.params.followText "set-order") s):A7 (Bf prog w) A setsByText Q E s:=by
 unfold setsByText
 exact Ar (FU (Ay h))
theorem pL {a:Addr}{es:Array (Int×Au)}{ep:Nat}{t:SetTable}{Q:Option (Au×Nat)->Ax->Prop}(ho:s.heap.get? a=some (aK es ep t))(T:Tab t (es.map (·.1)))(hl:t.led = !w.params.followText "set-order")(hp:t.plain=true){slot i:Nat}
  (hs:w.params.followText "set-order" = false->below t.place slot=i)
  (hy:∀x slot',(walkVals w a es ep)[i]? = some x->(w.params.followText "set-order" = false->below t.place slot'=i+1)->Q (some (x,slot')) s)
  (hn:(walkVals w a es ep)[i]? = none->Q none s):A7 (Bf prog w) A (setNext a slot i ep) Q E s:=by
 unfold setNext
 refine Ar (bA ho T ?_)
 dsimp only
 refine Ar (ik ?_)
 cases hb:w.params.followText "set-order" with
 | true =>
  rw[hb] at hs hy
  simp only[bne_self_eq_false,A1,if_true,if_false]
  refine Ar ?_
  unfold setWalk
  refine Ar (bA ho T ?_)
  dsimp only
  refine Ar (ik ?_)
  rw[hb]
  simp only[if_true]
  refine Ar (FU (Ay ?_))
  refine Ay ?_
  have ew:(walkVals w a es ep)[i]? = ((pickOrder (w.params.setOrder a ep) es)[i]?).map (·.2):=by
   unfold walkVals
   rw[if_pos hb,AW,AJ]
  show Q (((pickOrder (w.params.setOrder a ep) es)[i]?).map λe=>(e.2,slot)) s
  cases hx:(pickOrder (w.params.setOrder a ep) es)[i]? with
  | none=>rw[hx] at ew;exact hn ew
  | some e=>rw[hx] at ew;exact hy _ _ ew (λq=>by cases q)
 | false =>
  have hs':=hs hb
  simp only[A1,if_false]
  have ew:(walkVals w a es ep)[i]? = (es[i]?).map (·.2):=by
   unfold walkVals
   rw[if_neg (by rw[hb];exact AV),AW,AJ]
  show A7 _ _ (if (!t.plain && decide (es.size>1))=true then _ else _) _ _ _
  rw[hp]
  simp only[Cc,E9,A1,if_false]
  refine Ar ?_
  show A7 _ _ (if (!t.led && !es.isEmpty)=true then _ else _) _ _ _
  rw[hl,hb]
  simp only[GB,Cc,E9,A1,if_false]
  refine Ay ?_
  rw[hs']
  by_cases hi:i<es.size
  ·have ee:es[i]? = some es[i]:=A8 hi
   have hpl:i<t.place.size:=by rw[T.size,BB];exact hi
   have ep':t.place[i]? = some t.place[i]:=A8 hpl
   rw[ee,ep']
   rw[ee] at ew
   exact Ay (hy _ _ ew λ_=>pB T.rise ep')
  ·have ee:es[i]? = none:=Dx (by omega)
   rw[ee]
   rw[ee] at ew
   exact Ay (hn ew)
def il (h:Heap)(it a:Addr)(slot i n ep:Nat):Prop:=h.get? it=some { cls :=.type "set_iterator",data :=.fields #[.int slot 0,.int i 0,.ref a,.int n 0,.int ep 0] }
theorem il.typeIs {it a:Addr}{slot i n ep:Nat}(x:il s.heap it a slot i n ep):s.TypeIs (.ref it) "set_iterator" :=⟨_,x,rfl⟩
end
open PySem PySem.SetTable PyProof.Rows
section
variable  {prog:AN}{w:Bh}{A:BA}{E:Au->Ax->Prop}{s:Ax}
structure pM (w:Bh)(h:Heap)(it a:Addr)(es:Array (Int×Au))(ep i:Nat):Prop where
 st:∃t slot,h.get? a=some (aK es ep t)/\Tab t (es.map (·.1))/\t.led=(!w.params.followText "set-order")/\t.plain=true/\(w.params.followText "set-order" = false->below t.place slot=i)/\il h it a slot i es.size ep
theorem qG {it a:Addr}{es:Array (Int×Au)}{ep i:Nat}{Q:Option Au->Ax->Prop}(hh:A.handled=none)(hne:it≠a)(O:pM w s.heap it a es ep i)
  (hy:∀x h',(walkVals w a es ep)[i]? = some x->pM w h' it a es ep (i+1)->Heap.SameBut it s.heap h'->Q (some x) { s with heap:=h' })
  (hn:(walkVals w a es ep)[i]? = none->∀h',Heap.ExtBut it s.heap h'->Q none { s with heap:=h' }) :
  A7 (Bf prog w) A (pyNext (.ref it)) Q E s:=by
 obtain ⟨t,slot,ho,T,hl,hp,hs,hit⟩:=O.st
 have hf:t.fits es.size=true:=by have:=T.fits;rwa [BB] at this
 unfold pyNext
 refine Ar (Hk (Ce (name:=Str.ofString "__next__") hit.typeIs F9.d9
  (BX F9.d9 hit.typeIs F9.kC ?_ (F9.mD _))))
 show A7 _ _ (fieldsOf (.ref it) >>= _) _ _ s
 refine Ar (wpAny_fieldsOf hit rfl ?_)
 show A7 _ _ (setEntries a >>= _) _ _ s
 refine Ar (GP ho rfl hf ?_)
 rw[if_neg (by simp)]
 show A7 _ _ (setNext a ((slot:Int).toNat) ((i:Int).toNat) ((ep:Int).toNat) >>= _) _ _ s
 rw[BQ,BQ,BQ]
 refine Ar (pL ho T hl hp hs (λx slot' ex hs' =>?_) λex =>?_)
 ·dsimp only
  refine Ar (E6 hit (by simp) λh1 e1 sb1 =>?_)
  refine Ar (E6 e1 (by simp) λh2 e2 sb2 =>?_)
  refine Ay ⟨x,rfl,Ay (hy x h2 ex ⟨t,slot',?_,T,hl,hp,hs',?_⟩ (sb1.trans sb2))⟩
  ·rw[(sb1.trans sb2).2 a (CK hne)];exact ho
  ·unfold il
   rw[e2]
   simp[E8]
 ·dsimp only
  refine Ar (E6 hit (by simp) λh1 e1 sb1 =>?_)
  show A7 _ _ (newExc (.type "StopIteration") [] >>= _) _ _ _
  refine Ar ?_
  simp only[newExc,newTuple]
  refine Ar (BI ?_ (by size_fits))
  refine Ar (m:=firstArgMember _ _) (GN (a:=CC) (by first | rfl | (simp only[firstArgMember];rfl)) ?_)
  refine BI ?_ (by size_fits)
  simp only[raiseNew]
  refine Ar (wpAny_handled ?_)
  first | rw[show A.in1.handled=none from hh] | rw[hh]
  refine Ar (Ay (wpAny_throw ?_))
  refine Ar (FT (T := "StopIteration") (b:=true) ⟨_,AX _ rfl,rfl⟩ isSubtype_stop ?_)
  exact Ay (hn ex _ ((sb1.extBut.push _).push _))
theorem n5 {it a S:Addr}{es:Array (Int×Au)}{ep:Nat}{res:Au}{R:Result->Ax->Prop}(hh:A.in1.handled=none)(hne:it≠a)(hSI:S≠it)(hSa:S≠a)(hz:es.size<1000) :
  ∀(k i:Nat) (h:Heap) (acc:Array Au) (c:Nat),es.size-i=k->i<=es.size->pM w h it a es ep i->h.get? S=some { cls :=.type "list",dict:=none,data :=.seq acc c,slots := #[] }->acc.toList=(walkVals w a es ep).take i →
  (∀h' acc' c',(∀b o,b≠S->b≠it->h.get? b=some o->h'.get? b=some o)->h'.get? S=some { cls :=.type "list",dict:=none,data :=.seq acc' c',slots := #[] }->acc'.toList=walkVals w a es ep->R (.ok (.ret res)) { s with heap:=h' }) →
  FN (Bf prog w) A (.builtin "list.extend.loop" ⟨[.ref S,.ref it,res],[]⟩) R { s with heap:=h }:=by
 have lw:(walkVals w a es ep).length=es.size:=by rw[(lJ w a es ep).length_eq,Aq,AF]
 have zl:1000<=AH:=by rw[EW];omega
 intro k
 induction k with
 | zero =>
  intro i h acc c hk hi O hS ha hR
  have hin:i=es.size:=by omega
  subst hin
  refine B9 GJ ?_
  rw[Cu D3 _]
  show A7 _ A.in1 (pyNext (.ref it) >>= _) _ _ { s with heap:=h }
  refine Ar (qG hh hne O (λx h' ex =>?_) λex h' xb =>?_)
  ·rw[DG (by omega)] at ex;cases ex
  ·refine Ay (hR h' acc c (λb o _ hb e=>xb b o hb e) (xb S _ hSI hS) ?_)
   rw[ha,Bi (by omega)]
 | succ k ih =>
  intro i h acc c hk hi O hS ha hR
  have hlt:i<es.size:=by omega
  refine B9 GJ ?_
  rw[Cu D3 _]
  show A7 _ A.in1 (pyNext (.ref it) >>= _) _ _ { s with heap:=h }
  refine Ar (qG hh hne O (λx h' ex O' sb =>?_) λex =>?_)
  ·have hS':h'.get? S=some { cls :=.type "list",dict:=none,data :=.seq acc c,slots := #[] }:=by rw[sb.2 S hSI];exact hS
   have hal:acc.size=i:=by rw[<- AF,ha,Bz];omega
   show A7 _ A.in1 (updateSeq S (·.push x) >>= _) _ _ _
   refine Ar ?_
   refine Gs (s:={ s with heap:=h' }) hS' rfl (Ay ⟨Eo D3 _,ih (i+1) _ (acc.push x) _ (by omega) hlt ?_ (Cn _ hS' rfl) ?_ λh'' acc' c' kk hS'' ha' =>?_⟩)
    (by rw[hal];omega) (by show (acc.push x).size<=AH+1;rw[Dh,hal];omega)
   ·obtain ⟨t,slot,ho,T,hl,hp,hs,hit⟩:=O'.st
    exact ⟨t,slot,(B2 _ _ hSa).trans ho,T,hl,hp,hs,(B2 _ _ hSI).trans hit⟩
   ·rw[CB,ha,Iz,ex];rfl
   ·refine hR h'' acc' c' (λb o hb hb2 e=>kk b o hb hb2 ?_) hS'' ha'
    refine (B2 _ _ (CK hb)).trans ?_
    rw[sb.2 b hb2];exact e
  ·rw[AD (by omega)] at ex;cases ex
theorem n8 {a:Addr}{es:Array (Int×Au)}{R:List Au->Ax->Prop}(hh:A.handled=none)(I:cR w s.heap a es)(hz:es.size<1000)
  (h:∀h1 vs,vs.Perm (es.toList.map (·.2))->(∀b o,s.heap.get? b=some o->h1.get? b=some o)->s.heap.objs.size<=h1.objs.size->R vs { s with heap:=h1 }) :
  A7 (Bf prog w) A (collect (.ref a)) R E s:=by
 obtain ⟨ep,t,ho,T,rm,hl,hp⟩:=I
 have hf:t.fits es.size=true:=by have:=T.fits;rwa [BB] at this
 have hlt:=AQ ho
 unfold collect
 refine Ar (Fj (B9 F.entry_proto_collect ?_))
 rw[Cu F.plain_proto_collect _]
 show A7 _ A.in1 (newList [] >>= λl=>again (.builtin "list.__iadd__" ⟨[l,.ref a],[]⟩)) _ _ s
 refine Ar (BI ?_)
 refine Ay ⟨Eo Hz _,B9 F.entry_list_iadd ?_⟩
 rw[Cu Hz _]
 show A7 _ A.in1 (CY (.ref s.heap.objs.size) (.ref a) (.ref s.heap.objs.size)) _ _ _
 unfold CY
 have hSa:s.heap.objs.size≠a:=DB hlt
 have z1:(s.heap.push { cls :=.type "list",data :=.seq ([]:List Au).toArray }).objs.size=s.heap.objs.size+1:=C9 _ _
 have ho1:(s.heap.push { cls :=.type "list",data :=.seq ([]:List Au).toArray }).get? a=some (aK es ep t):=Az _ ho
 have hT1:Shared.TypeIs { s with heap:=s.heap.push { cls :=.type "list",data :=.seq ([]:List Au).toArray } } (.ref a) "set" :=⟨_,ho1,rfl⟩
 refine Ar (Dm hT1 ?_)
 have h1:FC (.ref s.heap.objs.size) (.ref a)=false:=by simp[FC,hSa]
 have h2:(Dv "set" == Dv "list")=false:=by decide
 have h3:(Dv "set" == Dv "tuple")=false:=by decide
 simp only[h1,h2,h3,Bool.or_false,A1,if_false]
 refine Ar (Fz hT1 Il (BX Il hT1 F9.jG ?_ (F.args_set_iter_1 _)))
 unfold Builtin.«frozenset.__iter__» Builtin.Frozenset.slot0 slotArgs
 simp only[List.isEmpty_nil,Cc,A1, ↓reduceIte,bind_assoc,ES,bne_self_eq_false]
 unfold Builtin.Frozenset.addrOf Builtin.Frozenset.sizeOf
 refine Ar (Ay ?_)
 try dsimp only
 refine Ar (Ay ?_)
 refine Ar (Ar (GP ho1 rfl hf (Ay ?_)))
 refine Ar ?_
 unfold setDrawn
 refine Ar (bA ho1 T ?_)
 dsimp only
 refine Ar (ik ?_)
 show A7 _ _ (pure (!w.params.followText "set-order" && (!t.plain && decide (es.size>1)))) _ _ _
 rw[hp]
 simp only[Cc,E9,Fb]
 refine Ay ?_
 simp only[A1,if_false]
 refine Ar (Ay ?_)
 refine Ar (wpAny_setEpoch_of ho1 rfl hf ?_)
 refine Ar (BI (Ay ⟨_,rfl, "set_iterator",_,⟨_,AX _ rfl,rfl⟩,F9.d9.lookup,?_⟩))
 have zit:(s.heap.push { cls :=.type "list",data :=.seq ([]:List Au).toArray }).objs.size=s.heap.objs.size+1:=z1
 show A7 _ A.in1 (GQ [.ref (s.heap.push { cls :=.type "list",data :=.seq ([]:List Au).toArray }).objs.size] (EY (.ref a)) >>= _) _ _ { s with heap:=(s.heap.push { cls :=.type "list",data :=.seq ([]:List Au).toArray }).push { cls :=.type "set_iterator",data :=.fields #[E8 0,E8 0,.ref a,E8 es.size,E8 ep] } }
 rw[zit]
 generalize hH:(s.heap.push { cls :=.type "list",data :=.seq ([]:List Au).toArray }).push { cls :=.type "set_iterator",data :=.fields #[E8 0,E8 0,.ref a,E8 es.size,E8 ep] }=H
 have kH:∀b o,(s.heap.push { cls :=.type "list",data :=.seq ([]:List Au).toArray }).get? b=some o->H.get? b=some o:=λb o e=>by rw[<- hH];exact Az _ e
 have zH:H.objs.size=s.heap.objs.size+2:=by rw[<- hH,C9,z1]
 have hit:il H (s.heap.objs.size+1) a 0 0 es.size ep:=by
  unfold il
  rw[<- hH, <- z1]
  exact AX _ rfl
 have hT2:Shared.TypeIs { s with heap:=H } (.ref a) "set" :=⟨_,kH _ _ ho1,rfl⟩
 refine Ar (BV ?_)
 unfold EY
 refine Ar (wpAny_specialOf hT2 F.slot_set_len.lookup ?_)
 dsimp only
 rw[show splitId "set.__len__" = some ("set", "__len__") by kernel_rfl]
 dsimp only
 refine Ar (FT hT2 sub_set_self ?_)
 simp only[Cc,A1,if_false]
 show A7 _ _ (typeOf (.ref a) >>= _) _ _ _
 refine Ar (Dm hT2 ?_)
 refine Ay ?_
 show A7 _ A.in1 (rule "list.extend.makes-room" >>= λ_=>Builtin.List.listTouch (.ref s.heap.objs.size) >>= λ_ =>
  again (.builtin "list.extend.loop" ⟨[.ref s.heap.objs.size,.ref (s.heap.objs.size+1),.ref s.heap.objs.size],[]⟩)) _ _ _
 refine Ar (Du ?_)
 have hS₁:H.get? s.heap.objs.size=some { cls :=.type "list",data :=.seq ([]:List Au).toArray }:=kH _ _ (AX _ rfl)
 refine Ar ?_
 show A7 _ A.in1 (updateSeq s.heap.objs.size (·.push .none) >>= λ_=>updateSeq s.heap.objs.size (·.pop)) _ _ _
 refine Ar (Gs (s:={ s with heap:=H }) hS₁ rfl ?_)
 have hS₂:=Cn (C4 (·.push CC)) hS₁ rfl
 refine Gs hS₂ rfl ?_
 have hS₃:=Cn (C4 (·.pop)) hS₂ rfl
 have oth:∀b o,b≠s.heap.objs.size->H.get? b=some o->((H.update s.heap.objs.size (C4 (·.push CC))).update s.heap.objs.size (C4 (·.pop))).get? b=some o :=
  λb o hb e=>(B2 _ _ (CK hb)).trans ((B2 _ _ (CK hb)).trans e)
 refine Ay ⟨Eo D3 _,n5 (it:=s.heap.objs.size+1) (a:=a) (es:=es) (ep:=ep) (s:=s) hh (DB (Cb hlt)) (A3 (C2 _)) hSa hz es.size 0 _ _ _ rfl (Bl _)
  ⟨t,0,oth a _ (CK hSa) (kH _ _ ho1),T,hl,hp,λ_=>pC T.rise,oth _ _ (DB (C2 _)) hit⟩ hS₃ rfl λh' acc' c' kk hS' ha =>?_⟩
 show A7 _ A (load s.heap.objs.size >>= _) _ _ { s with heap:=h' }
 refine Ar (II hS' ?_)
 have kf:∀b o,s.heap.get? b=some o->h'.get? b=some o:=λb o e=>by
  have:=AQ e
  exact kk b o (A3 this) (A3 (Cb this)) (oth b o (A3 this) (kH b o (Az _ e)))
 refine Ay ?_
 rw[ha]
 exact h h' _ (lJ w a es ep) kf (C6 (AQ hS'))
end
open PySem PySem.SetTable PyProof.Rows Srt
def Kd.sub {prog:AN}{w:Bh}{κ:Type}(kd:Kd prog w κ)(M:Au->Prop):Kd prog w κ where
 El:=λh v k=>kd.El h v k/\M v
 hash:=kd.hash
 room:=kd.room
 keeps:=λx t=>⟨kd.keeps x.1 t,x.2⟩
 inj:=λx y=>kd.inj x.1 y.1
 add:=by
  intro A E s a es v k Q hr I els hv hz hin hnew
  refine kd.add hr I (λe he =>?_) hv.1 hz (λx tk htk=>hin ?_ tk htk) λx h' es' tk htk sb I' pm=>hnew ?_ h' es' tk htk sb I' pm
  ·obtain ⟨k',a1,a2,a3⟩:=els e he;exact ⟨k',a1,a2⟩
  ·obtain ⟨e,he,y⟩:=x
   obtain ⟨k',a1,a2,a3⟩:=els e he
   exact ⟨e,he,y,a3⟩
  ·rintro ⟨e,he,y,_⟩;exact x ⟨e,he,y⟩
section
variable  {prog:AN}{w:Bh}{A:BA}{E:Au->Ax->Prop}{s:Ax}{O:EK}{key:Au->O.α}
theorem pN {a:Addr}{es:Array (Int×Au)}{Q:Au->Ax->Prop}(hh:A.handled=none)(I:cR w s.heap a es)(hz:es.size<1000)(C:∀vs:List Au,vs.Perm (es.toList.map (·.2))->mq prog w s vs O key)
  (h:∀(h':Heap) (p:Addr) (out:List Au) (n:Nat),(∀b o,s.heap.get? b=some o->h'.get? b=some o)->s.heap.objs.size<=p->h'.get? p=some (seqObj "list" out.toArray n)->out.Perm (es.toList.map (·.2))->out.Pairwise (λx y=>O.kle (key x) (key y))->Q (.ref p) { s with heap:=h' }) :
  A7 (Bf prog w) A (call (.builtin "sorted") [.ref a]) Q E s:=by
 refine Fg kind_sorted plain_sorted entry_sorted (args_sorted1 _) ?_
 unfold Builtin.«sorted»
 refine Ar (m:=checkCount "sorted" 1 1 _) (Ay ?_)
 refine Ar (n8 (by simpa using hh) I hz λh1 vs pv k1 z1 =>?_)
 have hz':vs.length<=AH:=by
  rw[pv.length_eq,Aq,AF]
  have:1000<=AH:=by rw[EW];omega
  omega
 refine Ar (FK ?_ hz')
 have hoL:(h1.push (seqObj "list" vs.toArray 0)).get? h1.objs.size=some (seqObj "list" vs.toArray 0):=AX _ rfl
 have kL:∀b o,s.heap.get? b=some o->(h1.push (seqObj "list" vs.toArray 0)).get? b=some o:=λb o e=>Az _ (k1 b o e)
 refine Ar (BV (BX slot_list_sort ⟨_,hoL,rfl⟩ entry_list_sort (fR (key:=key) (O:=O) hoL hz' (λh2 h6 k6 =>?_) λout pm ps=>⟨_,rfl,?_⟩) (args_list_sort _)))
 ·exact (C vs pv).ok h2 _ h6 λb o e=>k6 b o (A3 (AO (AQ e) z1)) (kL b o e)
 ·obtain ⟨n,en⟩:=sortedHeap_at (out:=out.toArray) hoL
  refine Ay ⟨_,rfl,h _ _ out n (λb o e =>?_) z1 en (pm.trans pv) ps⟩
  have lt:=AO (AQ e) z1
  rw[sortedHeap_old (A3 lt) (by rw[IJ];exact Cb lt)]
  exact kL b o e
end
end STab
namespace L2
open PySem PySem.Spec PyProof.Rows
section
variable  {X:Cx}
def dz (w:Bh)(a:Addr)(ys:List V):HO :=.ext λh=>∃es,STab.cR w h a es/\Vals ys (es.toList.map (·.2))
theorem qH {prog:AN}{w:Bh}{H:Hp}{h:Heap}{a:Addr}{ys:List V}{es:Array (Int×Au)}(I:STab.cR w h a es)(r:Vals ys (es.toList.map (·.2))):aZ prog w (upd H a (dz w a ys)) h a (dz w a ys):=by
 refine ⟨⟨es,I,r⟩,?_,λh1 h2 ⟨es',I',r'⟩ k=>⟨es',I'.at k,r'⟩⟩
 obtain ⟨ep,t,ho,_⟩:=I
 exact ⟨_,ho⟩
theorem oa:∀{ns:List Int} {xs:List Au} {prog:AN} {w:Bh},DJ xs ns->ItemsAre (intKind prog w) ns xs
 | _,_,_,_,.nil =>.nil
 | _,_,_,_,.cons n t r =>.cons (FA _ _ _ _) (oa r)
theorem Inv.tk {pins:List (Addr×Obj)}{σ:St}{H:Hp}{s:Ax}(I:Inv X pins σ H s){b:Addr}{ns:List Int}(h:SqT X.K H b (ns.map V.int)):STab.TK X.prog X.w s.heap ns b:=by
 obtain ⟨its,r,⟨o,e,c,n,d⟩,_⟩:=I.tuple h
 exact ⟨o,_,n,e,c,d,oa (by simpa using cQ r)⟩
theorem pull {α β:Type}{f:α -> β}{ts:List α}:∀{l:List β},(∀v∈l,∃t∈ts,v=f t)->∃us:List α,l=us.map f/\∀t∈us,t∈ts
 | [],_=>⟨[],rfl,λt h=>by cases h⟩
 | v :: l,h=>by
  obtain ⟨t,ht,e⟩:=h v AM
  obtain ⟨us,e2,m⟩:=pull (l:=l) λv' hv=>h v' (AL _ hv)
  refine ⟨t :: us,by rw[Bd, <- e, <- e2],λt' ht' =>?_⟩
  rcases AU.mp ht' with rfl | h'
  ·exact ht
  ·exact m _ h'
theorem sF (hh:X.A.handled=none)(hu:X.A.units+64<cLine):cj X (.type "set") (λxs H Q=>∃(p:Addr) (ts:List (Addr×List Int)),xs=[.ref p]/\(SqL X.K H p (ts.map λt =>.ref t.1)\/SqT X.K H p (ts.map λt =>.ref t.1))/\(∀t∈ts,SqT X.K H t.1 (t.2.map V.int))/\ts.length<1000 ∧
  ∀(a:Addr) (us:List (Addr×List Int)),H a=none->(∀t∈us,t∈ts)->(us.map (·.2)).Nodup->(∀t∈ts,t.2∈us.map (·.2))->us.length<=ts.length->Q (.ref a) (upd H a (dz X.w a (us.map λt =>.ref t.1)))):=by
 intro pins s σ H xs vs Q I r h
 obtain ⟨p,ts,rfl,hs,ht,hl,q⟩:=h
 obtain ⟨u,rfl,ru⟩:=vals1 r
 cases (show u=AS p from ru)
 have goal:∀(items:Array Au),items.toList=(ts.map λt=>AS t.1)->∀(h':Heap) (es:Array (Int×Au)) (tk:Nat),s.toks<=tk->STab.cR X.w h' s.heap.objs.size es->STab.Good ((STab.iN X.prog X.w).sub (· ∈ items.toList)) h' es (ts.map (·.2)) →
   (∀b o,s.heap.get? b=some o->h'.get? b=some o)->EP X pins σ Q (.ref s.heap.objs.size) { s with heap:=h',toks:=tk }:=by
  intro items ei h' es tk _ S G k
  obtain ⟨us,eu,mu⟩:=pull (f:=λt:Addr×List Int=>AS t.1) (ts:=ts) (l:=es.toList.map (·.2)) (λv hv=>by
   obtain ⟨e,he,rfl⟩:=A6.mp hv
   obtain ⟨_,_,_,_,m⟩:=G.el e (Be.mp he)
   rw[ei] at m
   obtain ⟨t,ht',e'⟩:=A6.mp m
   exact ⟨t,ht',e'.symm⟩)
  have tk':∀t∈us,STab.TK X.prog X.w h' t.2 t.1:=λt m=>(I.tk (ht t (mu t m))).keep λb o _ e=>k b o e
  have elu:∀t∈us,((STab.iN X.prog X.w).sub (· ∈ items.toList)).El h' (.ref t.1) t.2:=λt m=>⟨⟨t.1,rfl,tk' t m⟩,by
   rw[ei];exact A6.mpr ⟨t,mu t m,rfl⟩⟩
  have nd:(us.map (·.2)).Nodup:=by
   have d:=G.dis
   have d2:(es.toList.map (·.2)).Pairwise (λv v'=>∀k,((STab.iN X.prog X.w).sub (· ∈ items.toList)).El h' v k->¬ ((STab.iN X.prog X.w).sub (· ∈ items.toList)).El h' v' k):=by
    rw[BE];exact d
   rw[eu,BE] at d2
   unfold List.Nodup
   rw[BE]
   refine d2.imp_of_mem λ{t t'} m m' x e=>x t.2 (elu t m) ?_
   have:=elu t' m'
   rw[<- e] at this
   exact this
  have cov:∀t∈ts,t.2∈us.map (·.2):=λt m=>by
   obtain ⟨e,he,x,_⟩:=G.all t.2 (A6.mpr ⟨t,m,rfl⟩)
   have:e.2∈us.map λt=>AS t.1:=by rw[<- eu];exact A6.mpr ⟨e,Be.mpr he,rfl⟩
   obtain ⟨u,hu',e'⟩:=A6.mp this
   obtain ⟨b,eb,x⟩:=x
   rw[<- e'] at eb
   injection eb with eb
   subst eb
   exact A6.mpr ⟨u,hu',(tk' u hu').inj x⟩
  have hlen:us.length<=ts.length:=by
   have:=G.len
   rw[Aq] at this
   have e2:=congrArg List.length eu
   rw[Aq,Aq,AF] at e2
   omega
  refine ⟨.ref s.heap.objs.size,_,I.laid k (AE _) (qH (ys:=us.map λt=>V.ref t.1) S (by rw[eu];exact fI)),rfl,q _ us (I.hok.fresh (AE _)) mu nd cov hlen⟩
 have rm:((STab.iN X.prog X.w).sub (λv=>True)).room X.A.in1.in1.in1:=by show X.A.units+1+1+1<cLine;omega
 have itm:∀(its:List Au),its=(ts.map λt=>AS t.1)->∀(i:Nat) (v:Au),its.toArray[i]? = some v->∃q,(ts.map (·.2))[i]? = some q/\((STab.iN X.prog X.w).sub (· ∈ its.toArray.toList)).El s.heap v q:=by
  intro its ei i v hv
  rw[Bv,ei,AW] at hv
  cases ht':ts[i]? with
  | none=>rw[ht'] at hv;cases hv
  | some t =>
   rw[ht'] at hv
   cases hv
   have m:=A0 ht'
   refine ⟨t.2,by rw[AW,ht'];rfl,⟨t.1,rfl,I.tk (ht t m)⟩,?_⟩
   show AS t.1∈its
   rw[ei]
   exact A6.mpr ⟨t,m,rfl⟩
 rcases hs with hs | hs
 ·obtain ⟨its,rv,⟨o,n,e,c,dn,d⟩,z⟩:=I.list hs
  have ei:=dF rv
  have lz:its.length=ts.length:=by rw[ei,Aq]
  refine STab.call_set_list (kd:=(STab.iN X.prog X.w).sub (· ∈ its.toArray.toList)) (items:=its.toArray) (ks:=ts.map (·.2)) hh rm ⟨o,e,c,n,d⟩ (by simp[lz]) (λi v hv =>?_) (by simpa [lz] using hl) (goal its.toArray (by simpa using ei))
  exact itm its ei i v hv
 ·obtain ⟨its,rv,⟨o,e,c,n,d⟩,z⟩:=I.tuple hs
  have ei:=dF rv
  have lz:its.length=ts.length:=by rw[ei,Aq]
  refine STab.fb (kd:=(STab.iN X.prog X.w).sub (· ∈ its.toArray.toList)) (items:=its.toArray) (ks:=ts.map (·.2)) hh rm ⟨o,e,c,n,d⟩ (by simp[lz]) (λi v hv =>?_) (by simpa [lz] using hl) (goal its.toArray (by simpa using ei))
  exact itm its ei i v hv
theorem sH (hh:X.A.handled=none):cj X (.type "set") (λxs H Q=>∃(p:Addr) (ns:List Int),xs=[.ref p]/\(SqL X.K H p (ns.map V.int)\/SqT X.K H p (ns.map V.int))/\ns.length<1000 ∧
  ∀(a:Addr) (us:List Int),H a=none->(∀k,k∈us↔k∈ns)->us.Nodup->us.length<=ns.length->Q (.ref a) (upd H a (dz X.w a (us.map V.int)))):=by
 intro pins s σ H xs vs Q I r h
 obtain ⟨p,ns,rfl,hs,hl,q⟩:=h
 obtain ⟨u,rfl,ru⟩:=vals1 r
 cases (show u=AS p from ru)
 have goal:∀(h':Heap) (es:Array (Int×Au)) (tk:Nat),s.toks<=tk->STab.cR X.w h' s.heap.objs.size es->STab.Good (STab.qC X.prog X.w) h' es ns →
   (∀b o,s.heap.get? b=some o->h'.get? b=some o)->EP X pins σ Q (.ref s.heap.objs.size) { s with heap:=h',toks:=tk }:=by
  intro h' es tk _ S G k
  have sh:∀v∈es.toList.map (·.2),∃k t,v=Cs k t:=λv hv=>by
   obtain ⟨e,he,rfl⟩:=A6.mp hv
   obtain ⟨k',_,_,t,e'⟩:=G.el e (Be.mp he)
   exact ⟨k',t,e'⟩
  have ru:=mw (lB sh)
  have mem:∀k,k∈(es.toList.map (·.2)).map Srt.intOf↔k∈ns:=λk=>by
   constructor
   ·intro m
    obtain ⟨v,hv,rfl⟩:=A6.mp m
    obtain ⟨e,he,rfl⟩:=A6.mp hv
    obtain ⟨k',mk,_,t,e'⟩:=G.el e (Be.mp he)
    rw[e'];exact mk
   ·intro m
    obtain ⟨e,he,t,e'⟩:=G.all k m
    exact A6.mpr ⟨e.2,A6.mpr ⟨e,Be.mpr he,rfl⟩,by rw[e'];rfl⟩
  have nd:((es.toList.map (·.2)).map Srt.intOf).Nodup:=by
   unfold List.Nodup
   rw[BE,BE]
   refine G.dis.imp_of_mem λ{e e'} m m' x y =>?_
   obtain ⟨k1,_,_,t1,e1⟩:=G.el e (Be.mp m)
   obtain ⟨k2,_,_,t2,e2⟩:=G.el e' (Be.mp m')
   rw[e1,e2] at y
   have y':k1=k2:=y
   subst y'
   exact x k1 ⟨t1,e1⟩ ⟨t2,e2⟩
  refine ⟨.ref s.heap.objs.size,_,I.laid k (AE _) (qH S ru),rfl,q _ _ (I.hok.fresh (AE _)) mem nd (by rw[Aq,Aq,AF];exact G.len)⟩
 have itm:∀(its:List Au),Vals (ns.map V.int) its->∀(i:Nat) (v:Au),its.toArray[i]? = some v->∃q,ns[i]? = some q/\(STab.qC X.prog X.w).El s.heap v q:=by
  intro its rv i v hv
  have hI:=cQ rv
  obtain ⟨t,e⟩:=IntsAre.int_at hI i v (by rw[Bv] at hv;exact hv)
  have hlt:i<ns.length:=by
   have:=hI.length
   rw[Bv] at hv
   have:=(AG.mp hv).1
   omega
  refine ⟨ns.getD i 0,?_,t,e⟩
  rw[AK,AD hlt]
  rfl
 rcases hs with hs | hs
 ·obtain ⟨its,rv,⟨o,n,e,c,dn,d⟩,z⟩:=I.list hs
  have lz:its.length=ns.length:=by have:=rv.length;rw[Aq] at this;exact this.symm
  exact STab.call_set_list (kd:=STab.qC X.prog X.w) (items:=its.toArray) (ks:=ns) hh trivial ⟨o,e,c,n,d⟩ (by simp[lz]) (itm its rv) (by simpa [lz] using hl) goal
 ·obtain ⟨its,rv,⟨o,e,c,n,d⟩,z⟩:=I.tuple hs
  have lz:its.length=ns.length:=by have:=rv.length;rw[Aq] at this;exact this.symm
  exact STab.fb (kd:=STab.qC X.prog X.w) (items:=its.toArray) (ks:=ns) hh trivial ⟨o,e,c,n,d⟩ (by simp[lz]) (itm its rv) (by simpa [lz] using hl) goal
theorem Inv.dz {pins:List (Addr×Obj)}{σ:St}{H:Hp}{s:Ax}(I:Inv X pins σ H s){a:Addr}{ys:List V}(h:H a=some (dz X.w a ys)):∃es,STab.cR X.w s.heap a es/\Vals ys (es.toList.map (·.2)):=by
 exact (I.hok a _ h).1
theorem kD (hh:X.A.handled=none):cj X (.builtin "sorted") (λxs H Q=>∃(a:Addr) (ts:List (Addr×List Int)),xs=[.ref a]/\H a=some (dz X.w a (ts.map λt =>.ref t.1))/\(∀t∈ts,SqT X.K H t.1 (t.2.map V.int)/\t.2≠[])/\ts.length<1000 ∧
  ∀(l:Addr) (out:List (Addr×List Int)),H l=none->out.Perm ts->out.Pairwise (λa b=>HT.lexLt b.2 a.2=false)->Q (.ref l) (upd H l (.lst (out.map λt =>.ref t.1)))):=by
 intro pins s σ H xs us Q I r h
 obtain ⟨a,ts,rfl,hs,ht,hl,q⟩:=h
 obtain ⟨u,rfl,ru⟩:=vals1 r
 cases (show u=AS a from ru)
 obtain ⟨es,S,rv⟩:=I.dz hs
 have ei:=dF rv
 have lz:es.size=ts.length:=by have:=rv.length;simp at this;omega
 have tup:∀t∈ts,Srt.cV s.heap (AS t.1) t.2:=λt hm=>by
  obtain ⟨jts,jr,⟨jo,je,jc,jn,jd⟩,_⟩:=I.tuple (ht t hm).1
  exact ⟨t.1,jo,_,jn,rfl,je,jc,jd,by simpa using cQ jr⟩
 have hv:∀v∈es.toList.map (·.2),∃ns,Srt.cV s.heap v ns/\ns≠[]:=λv hv=>by
  rw[ei] at hv
  obtain ⟨t,hm,rfl⟩:=A6.mp hv
  exact ⟨t.2,tup t hm,(ht t hm).2⟩
 refine STab.pN (O:=Srt.lexOrd) (key:=Srt.cB s.heap) hh S (by omega) (λvs pv=>Srt.gJ λv hm=>hv v (pv.mem_iff.mp hm)) λh' l out m k hl' el pm ps =>?_
 rw[ei] at pm
 obtain ⟨out',pm',rfl⟩:=jD pm
 have z:ts.length<=AH:=by have:1000<=AH:=(by rw[EW];omega);omega
 refine ⟨.ref l,_,I.newList k hl' el fI (by rw[Aq,pm'.length_eq];exact z),rfl,q l _ (I.hok.fresh hl') pm' ?_⟩
 refine (BE.mp ps).imp_of_mem λ{a b} ha hb le =>?_
 have le':HT.lexLt (Srt.cB s.heap (AS b.1)) (Srt.cB s.heap (AS a.1))=false:=le
 rw[(tup a (pm'.mem_iff.mp ha)).ints,(tup b (pm'.mem_iff.mp hb)).ints] at le'
 exact le'
end
open PySem PySem.Spec PyProof.Rows
section
variable  {X:Cx}{w:Bh}
theorem pO (hw:X.w=w)(hh:X.A.handled=none)(hu:X.A.units+64<cLine):cj X (.type "set") (λxs H Q=>∃(p:Addr) (ts:List (Addr×List Int)),xs=[.ref p]/\(SqL X.K H p (ts.map λt =>.ref t.1)\/SqT X.K H p (ts.map λt =>.ref t.1))/\(∀t∈ts,SqT X.K H t.1 (t.2.map V.int))/\ts.length<1000 ∧
  ∀(a:Addr) (us:List (Addr×List Int)),H a=none->(∀t∈us,t∈ts)->(us.map (·.2)).Nodup->(∀t∈ts,t.2∈us.map (·.2))->us.length<=ts.length->Q (.ref a) (upd H a (dz w a (us.map λt =>.ref t.1)))):=by
 subst hw
 exact sF hh hu
theorem jI (hw:X.w=w)(hh:X.A.handled=none):cj X (.type "set") (λxs H Q=>∃(p:Addr) (ns:List Int),xs=[.ref p]/\(SqL X.K H p (ns.map V.int)\/SqT X.K H p (ns.map V.int))/\ns.length<1000 ∧
  ∀(a:Addr) (us:List Int),H a=none->(∀k,k∈us↔k∈ns)->us.Nodup->us.length<=ns.length->Q (.ref a) (upd H a (dz w a (us.map V.int)))):=by
 subst hw
 exact sH hh
theorem jJ (hw:X.w=w)(hh:X.A.handled=none):cj X (.builtin "sorted") (λxs H Q=>∃(a:Addr) (ts:List (Addr×List Int)),xs=[.ref a]/\H a=some (dz w a (ts.map λt =>.ref t.1))/\(∀t∈ts,SqT X.K H t.1 (t.2.map V.int)/\t.2≠[])/\ts.length<1000 ∧
  ∀(l:Addr) (out:List (Addr×List Int)),H l=none->out.Perm ts->out.Pairwise (λa b=>HT.lexLt b.2 a.2=false)->Q (.ref l) (upd H l (.lst (out.map λt =>.ref t.1)))):=by
 subst hw
 exact kD hh
end
open PySem PySem.Spec PyProof.Rows
section
variable  {X:Cx}
def tBMT (r:V->List V->Hp->VK->Prop)(to:TE)(t:TA):TE:=λσ H Q=>to σ H λx H1=>(∃p xs,x = .ref p/\H1 p=some (.tup xs))/\t σ H1 λxs H2=>r x xs H2 Q
theorem uK {o e:Expr}{es:List Expr}{to:TE}{t:TA}{name:Str}{apos cpos:Pos}{id:String}{r:V->List V->Hp->VK->Prop}(slot:Slot "tuple" name id)(hty:typeOf (.builtin id)=pure (.type "method_descriptor"))(hm:MtR X id r)(ho:PE X o to)(ha:PA X (e :: es) t)
  (hbase:attributeBase o name X.env (eval o X.env)=eval o X.env:=by rfl)
  (hfew:((DV cpos (BD (e :: es) X.env)).all (λx => !x.1) && (backToKw cpos (keywordEach [] X.env)).all (λx=>x.1.isSome)
   && decide ((e :: es).length+([]:List Keyword).length+(if ([]:List Keyword).isEmpty then 0 else 1)<30))=true:=by rfl)
  (hline:(apos.endLine == cpos.line)=true:=by rfl) (hs:BD (e :: es) X.env=(false,eval e X.env) :: BD es X.env:=by rfl) (hplain:(DV cpos (BD es X.env)).any (·.1)=false:=by rfl) :
  PE X (.Call (.Attribute o name apos) (e :: es) [] cpos) (tBMT r to t):=by
 intro pins s σ H Q I h
 refine F1 hbase hfew hline rfl (thn (ho pins s σ H _ I h) λv s1 ⟨x,H1,I1,r1,ty,q1⟩ =>?_)
 obtain ⟨p,xs,rfl,hp⟩:=ty
 cases (show v=AS p from r1)
 obtain ⟨_,its,_,ob,e1,⟨c1,d1⟩,n,s1'⟩:=(show aZ X.prog X.w H1 s1.heap p (.tup xs) from I1.hok p _ hp)
 refine ⟨"tuple",id,PySem.F.plainAttrs_tuple,slot,hty,⟨ob,e1,c1⟩,λa e=>by cases e;exact ⟨ob,e1,d1⟩,?_⟩
 have hA:=ha cpos pins s1 σ H1 _ I1 q1
 rw[hs] at hA ⊢
 refine Er (by show (false || (DV cpos (BD es X.env)).any (·.1))=false;rw[hplain] <;> rfl) (EI ?_)
 exact thn hA λus s2 ⟨vs,H2,I2,r2,q2⟩=>hm pins s2 σ H2 (.ref p) vs _ us Q I2 rfl r2 q2
theorem sI {A:BA}{s:Ax}{k:Int}{t:Tok}{its:List Au}{ns:List Int}(hi:DJ its ns):∀y,y∈its.toArray->C3 A s y (.int k t) (isInt k y):=λy hy =>
 (eq_isInt k t hi y (by simpa using hy)).at _ _
theorem lK:∀{ns:List Int} {xs:List Au} {prog:AN} {w:Bh},DJ xs ns->ItemsAre (intKind prog w) ns xs
 | _,_,_,_,.nil =>.nil
 | _,_,_,_,.cons n t r =>.cons (FA _ _ _ _) (lK r)
theorem Inv.tkA {pins:List (Addr×Obj)}{σ:St}{H:Hp}{s:Ax}(I:Inv X pins σ H s){b:Addr}{ns:List Int}(h:SqT X.K H b (ns.map V.int))(prog:AN)(w:Bh):IsTupleKey (intKind prog w) s.heap ns b:=by
 obtain ⟨its,r,⟨o,e,c,n,d⟩,_⟩:=I.tuple h
 exact ⟨o,_,n,e,c,d,lK (by simpa using intsAre_of r)⟩
theorem Inv.eqT {pins:List (Addr×Obj)}{σ:St}{H:Hp}{s:Ax}(I:Inv X pins σ H s){A:BA}(hu:A.units<cLine){a b:Addr}{ns ms:List Int}(h1:SqT X.K H a (ns.map V.int))(h2:SqT X.K H b (ms.map V.int)):C3 A s (.ref a) (.ref b) (decide (ns=ms)) :=
 λprog w E Q q=>Hm hu (I.tkA h1 prog w) (I.tkA h2 prog w) q
theorem cZ:∀{ps:List (Addr×List Int)} {us:List Au},Vals (ps.map λx=>V.ref x.1) us->us=ps.map λx=>AS x.1
 | [],_,r=>by cases r;rfl
 | p :: ps,_,r=>by
  cases r with
  | cons h t=>rw[Bd, <- cZ t,show _=AS p.1 from h]
noncomputable def c0 (ts:List (Addr×List Int))(m:List Int):Au->Bool:=λv=>decide (∃t∈ts,v = .ref t.1/\t.2=m)
theorem dH {pins:List (Addr×Obj)}{σ:St}{H:Hp}{s:Ax}(I:Inv X pins σ H s){ts:List (Addr×List Int)}(ht:∀t∈ts,SqT X.K H t.1 (t.2.map V.int)){m:List Int}{t:Addr×List Int}(hm:t∈ts):c0 ts m (.ref t.1)=decide (t.2=m):=by
 unfold c0
 by_cases e:t.2=m
 ·rw[decide_eq_true e,decide_eq_true ⟨t,hm,rfl,e⟩]
 ·rw[decide_eq_false e,decide_eq_false]
  rintro ⟨t',m',e1,e2⟩
  injection e1 with e1
  have:=I.hZ (ht t hm) (by rw[e1];exact ht t' m')
  have inj:Function.Injective V.int:=λa b h=>by injection h
  have:t.2=t'.2:=(G7 (λx y h=>inj h)).mp this
  exact e (this.trans e2)
theorem jK {pins:List (Addr×Obj)}{σ:St}{H:Hp}{s:Ax}(I:Inv X pins σ H s){ts:List (Addr×List Int)}(ht:∀t∈ts,SqT X.K H t.1 (t.2.map V.int)){m:List Int}:∀us:List (Addr×List Int),(∀t∈us,t∈ts)->(us.map λt=>AS t.1).countP (c0 ts m)=(us.map (·.2)).count m
 | [],_=>rfl
 | u :: us,h=>by
  rw[Bd,Bd,List.countP_cons,List.count_cons,jK I ht us (λt hm=>h t (AL _ hm)),dH I ht (h u AM)]
  by_cases e:u.2=m
  ·rw[decide_eq_true e,e];simp
  ·rw[decide_eq_false e];simp[e]
theorem mE {pins:List (Addr×Obj)}{σ:St}{H:Hp}{s:Ax}(I:Inv X pins σ H s){ts:List (Addr×List Int)}(ht:∀t∈ts,SqT X.K H t.1 (t.2.map V.int)){m:List Int}:∀us:List (Addr×List Int),(∀t∈us,t∈ts)->(us.map λt=>AS t.1).any (c0 ts m)=decide (m∈us.map (·.2))
 | [],_=>by simp
 | u :: us,h=>by
  rw[Bd,Bd,DK,mE I ht us (λt hm=>h t (AL _ hm)),dH I ht (h u AM)]
  by_cases e:u.2=m
  ·rw[decide_eq_true e,e];simp
  ·rw[decide_eq_false e,G8]
   have:(m∈u.2 :: us.map (·.2))↔m∈us.map (·.2):=by
    rw[AU]
    exact ⟨λh=>h.elim (λh=>absurd h.symm e) id,.inr⟩
   exact decide_eq_decide.mpr this.symm
theorem yQ (hu:X.A.units+8<cLine):MtR X "tuple.count" (λx vs H Q=>∃(p b:Addr) (ts:List (Addr×List Int)) (m:List Int),x = .ref p/\vs=[.ref b]/\H p=some (.tup (ts.map λt =>.ref t.1))/\(∀t∈ts,H t.1=some (.tup (t.2.map V.int)))/\H b=some (.tup (m.map V.int))/\Q (.int ((ts.map (·.2)).count m:Nat)) H):=by
 intro pins s σ H x vs v us Q I rx rv h
 obtain ⟨p,b,ts,m,rfl,rfl,hp,ht,hb,q⟩:=h
 cases rx
 obtain ⟨u,rfl,ru⟩:=vals1 rv
 cases (show u=AS b from ru)
 have ht':∀t∈ts,SqT X.K H t.1 (t.2.map V.int):=λt hm=>SqT.of (ht t hm)
 obtain ⟨z,its,r,ob,e1,⟨c1,d1⟩,n,s1⟩:=(show aZ X.prog X.w H s.heap p (.tup _) from I.hok p _ hp)
 have ei:=cZ r
 obtain ⟨cls,dd,data,sl⟩:=ob
 simp only at c1 s1
 subst c1 s1
 refine EM PySem.F.slot_tuple_count ⟨_,e1,rfl⟩ PySem.F.entry_tuple_count (PySem.F.args_tuple_count_2 _ _) (SeqAt.tuple_countAt p its.toArray n dd sl (.ref b) (c0 ts m)) ⟨e1,λy hy =>?_,?_⟩
 ·have hy':y∈its:=by simpa using hy
  rw[ei] at hy'
  obtain ⟨t,hm,rfl⟩:=A6.mp hy'
  rw[dH I ht' hm]
  exact I.eqT (by show X.A.units+1<cLine;omega) (ht' t hm) (SqT.of hb)
 ·rw[show its.toArray.toList=its from rfl,ei,jK I ht' ts (λt h=>h)]
  exact ⟨.int _,H,I.tok _,⟨_,rfl⟩,q⟩
theorem qI (hu:X.A.units+8<cLine):OpR X (Cf .In) (λx y H Q=>∃(p b:Addr) (ts:List (Addr×List Int)) (m:List Int),x = .ref b/\y = .ref p/\H p=some (.tup (ts.map λt =>.ref t.1))/\(∀t∈ts,H t.1=some (.tup (t.2.map V.int)))/\H b=some (.tup (m.map V.int))/\Q (.bl (decide (m∈ts.map (·.2)))) H):=by
 intro pins s σ H x y v u Q I rx ry h
 obtain ⟨p,b,ts,m,rfl,rfl,hp,ht,hb,q⟩:=h
 cases rx
 cases ry
 have ht':∀t∈ts,SqT X.K H t.1 (t.2.map V.int):=λt hm=>SqT.of (ht t hm)
 obtain ⟨its,r,pl,hz⟩:=I.tuple (SqT.of (K:=X.K) hp)
 have ei:=cZ r
 refine HU (c0 ts m) pl (λy hy =>?_) ⟨.bl _,H,I,rfl,?_⟩
 ·have hy':y∈its:=by simpa using hy
  rw[ei] at hy'
  obtain ⟨t,hm,rfl⟩:=A6.mp hy'
  rw[dH I ht' hm]
  exact I.eqT (by show X.A.units+1<cLine;omega) (ht' t hm) (SqT.of hb)
 ·rw[show its.toArray.any (c0 ts m)=its.any (c0 ts m) by simp,ei,mE I ht' ts (λt h=>h)]
  exact q
theorem iO:∀{its:List Au} {ns:List Int},DJ its ns->∃xs:List (Int×Tok),its=xs.map (λp=>Cs p.1 p.2)/\xs.map (·.1)=ns
 | _,_,.nil=>⟨[],rfl,rfl⟩
 | _,_,.cons n t r=>by
  obtain ⟨xs,e1,e2⟩:=iO r
  exact ⟨(n,t) :: xs,by rw[Bd, <- e1],by rw[Bd,e2]⟩
end
end L2
namespace HT
open PySem PySem.Spec PyProof.Rows
section
variable  {prog:AN}{w:Bh}{A:BA}{E:Au->Ax->Prop}{s:Ax}
theorem fN {t sl:Addr}{items:Array Au}{vl vu:Au}{lo hi:Option Int}{Q:Au->Ax->Prop}(ht:IsTup s.heap t items)(hs:s.heap.IsSliceOf sl vl vu .none)(pl:IsPart vl lo)(pu:IsPart vu hi)
  (hw:sIx items.size 0 lo=0/\sIx items.size items.size hi=items.size) (h:Q (.ref t) s):A7 (Bf prog w) A (getItem (.ref t) (.ref sl)) Q E s:=by
 obtain ⟨os,hos,hcs,hds⟩:=id hs
 have hTs:s.TypeIs (.ref sl) "slice" :=⟨os,hos,hcs⟩
 unfold getItem
 try with_reducible refine BV ?_
 first | refine Ar (Ay ?_) | skip
 refine Ar (Fy ht.typeIs (by decide) ?_)
 refine Ar (Ce (name:=Str.ofString "__getitem__") ht.typeIs Br
  (BX Br ht.typeIs entry_tuple_getitem ?_ (E5 _ _)))
 show A7 _ _ (Builtin.Tuple.tupleItemsOf (.ref t) >>= _) _ _ s
 refine Ar (Hi ht ?_)
 refine Ar (Dm hTs ?_)
 rw[if_pos (by decide)]
 refine Ar (dD hs pl pu ?_)
 show A7 _ _ (if (((sIx items.size 0 lo:Nat):Int) == 0 && (1:Int) == 1 && (sIx items.size items.size hi-sIx items.size 0 lo) == items.size)=true then _ else _) _ _ s
 rw[hw.1,hw.2,if_pos (by simp)]
 unfold Builtin.Tuple.tupleIsExact
 refine Ar (Ar (Dm ht.typeIs (Ay ?_)))
 rw[if_pos (by decide)]
 exact Ar (Du (Ay ⟨_,rfl,Ay h⟩))
end
end HT
namespace L2
open PySem PySem.Spec PyProof.Rows
section
variable  {X:Cx}
theorem wI:SlR X (λx lo hi H Q=>∃a xs,x = .ref a/\SqT X.K H a xs/\((HT.sIx xs.length 0 lo=0/\HT.sIx xs.length xs.length hi=xs.length)->Q (.ref a) H) ∧
  (¬ (HT.sIx xs.length 0 lo=0/\HT.sIx xs.length xs.length hi=xs.length)->∀p,H p=none->Q (.ref p) (upd H p (.tup (dE xs lo hi))))):=by
 intro pins s σ H x v vl vu lo hi sl Q I rx hs pl pu h
 obtain ⟨a,xs,rfl,hx,q1,q2⟩:=h
 by_cases hw:HT.sIx xs.length 0 lo=0/\HT.sIx xs.length xs.length hi=xs.length
 ·cases rx
  obtain ⟨its,r,ht,hz⟩:=I.tuple hx
  have hlen:its.toArray.size=xs.length:=by rw[Aw];exact r.length.symm
  refine ⟨"tuple",_,Br.lookup,ht.typeIs,?_⟩
  exact HT.fN ht hs pl pu (by rw[hlen];exact hw) ⟨.ref a,H,I,rfl,q1 hw⟩
 ·exact yt pins s σ H _ v vl vu lo hi sl Q I rx hs pl pu ⟨a,xs,rfl,hx,hw,q2 hw⟩
end
section
variable  {prog:AN}{w:Bh}{A:BA}{E:Au->Ax->Prop}{s:Ax}
end
section
variable  {X:Cx}
end
open PySem PySem.Spec PyProof.Rows
section
variable  {κ:Type}[DecidableEq κ]
def fV (kvs:List (κ×V))(k:κ):Option V:=(kvs.find? λkv=>decide (kv.1=k)).map (·.2)
def putK (kvs:List (κ×V))(k:κ)(v:V):List (κ×V) :=
 if (kvs.any λkv=>decide (kv.1=k))=true then kvs.map (λkv=>if kv.1=k then (kv.1,v) else kv) else kvs++[(k,v)]
theorem gN {p:κ×V}{r:List (κ×V)}{k:κ}(e:p.1=k):fV (p :: r) k=some p.2:=by simp[fV,DH,e]
theorem gO {p:κ×V}{r:List (κ×V)}{k:κ}(e:¬ p.1=k):fV (p :: r) k=fV r k:=by simp[fV,DH,e]
theorem jL (k:κ):∀kvs:List (κ×V),(kvs.any λkv=>decide (kv.1=k))=(fV kvs k).isSome
 | []=>rfl
 | p :: r=>by
  rw[DK]
  by_cases e:p.1=k
  ·simp only[gN e,decide_eq_true e,Bool.true_or,Option.isSome_some]
  ·rw[gO e,decide_eq_false e,G8];exact jL k r
theorem iP (kvs:List (κ×V))(k:κ)(v:V):(putK kvs k v).length<=kvs.length+1:=by
 unfold putK
 split
 ·rw[Aq];omega
 ·rw[As,Bk,ES];omega
theorem uL {kvs:List (κ×V)}{k:κ}(v:V)(h:fV kvs k=none):putK kvs k v=kvs++[(k,v)]:=by
 unfold putK
 rw[jL,h]
 exact if_neg (by decide)
theorem oQ.dI {o:Option V}{u:Option Au}(r:oQ o u):o.isSome=u.isSome:=by
 cases o with
 | none=>cases u with
  | none=>rfl
  | some _=>exact (show False from r).elim
 | some _=>cases u with
  | none=>exact (show False from r).elim
  | some _=>rfl
theorem KV.val {kvs:List (κ×V)}{vs:List (κ×Au)}(r:KV kvs vs)(k:κ):oQ (fV kvs k) (valueAt vs k):=by
 unfold KV at r
 induction r with
 | nil=>exact True.intro
 | @cons p q ps qs h t ih =>
  obtain ⟨h1,h2⟩:=h
  by_cases e:p.1=k
  ·have e':q.1=k:=h1.symm.trans e
   have b:valueAt (q :: qs) k=some q.2:=by simp[valueAt,DH,e']
   rw[gN e,b];exact h2
  ·have e':¬ q.1=k:=λz=>e (h1.trans z)
   have b:valueAt (q :: qs) k=valueAt qs k:=by simp[valueAt,DH,e']
   rw[gO e,b];exact ih
theorem KV.any {kvs:List (κ×V)}{vs:List (κ×Au)}(r:KV kvs vs)(k:κ):(kvs.any λkv=>decide (kv.1=k))=vs.any λkv=>decide (kv.1=k):=by
 unfold KV at r
 induction r with
 | nil=>rfl
 | cons h t ih=>rw[DK,DK,ih,h.1]
theorem KV.yR {kvs:List (κ×V)}{vs:List (κ×Au)}(r:KV kvs vs)(k:κ){y:V}{u:Au}(ry:RelV y u) :
  KV (kvs.map λkv=>if kv.1=k then (kv.1,y) else kv) (vs.map λkv=>if kv.1=k then (kv.1,u) else kv):=by
 unfold KV at r ⊢
 induction r with
 | nil=>exact .nil
 | @cons p q ps qs h t ih =>
  rw[Bd,Bd]
  refine .cons ?_ ih
  obtain ⟨h1,h2⟩:=h
  by_cases e:p.1=k
  ·rw[if_pos e,if_pos (h1.symm.trans e)];exact ⟨h1,ry⟩
  ·rw[if_neg e,if_neg (λz=>e (h1.trans z))];exact ⟨h1,h2⟩
theorem KV.put {kvs:List (κ×V)}{vs:List (κ×Au)}(r:KV kvs vs)(k:κ){y:V}{u:Au}(ry:RelV y u):KV (putK kvs k y) (stored vs k u):=by
 unfold putK stored
 rw[r.any k]
 by_cases e:(vs.any λkv=>decide (kv.1=k))=true
 ·rw[if_pos e,if_pos e];exact r.yR k ry
 ·rw[if_neg e,if_neg e];exact IW r ⟨rfl,ry⟩
theorem KV.length {kvs:List (κ×V)}{vs:List (κ×Au)}(r:KV kvs vs):kvs.length=vs.length:=C5 r
end
theorem qJ {P:AN}{w:Bh}{k:Key}{u:Au}(r:RelV (kV k) u):(bL P w).is k u=true:=by
 cases k with
 | inl i=>obtain ⟨t,e⟩:=(show ∃t,u=Cs i t from r);subst e;exact nq P w i t
 | inr x=>obtain ⟨t,e⟩:=(show ∃t,u=Value.str x t from r);subst e;exact nt P w x t
theorem lL {P:AN}{w:Bh}:∀{ks:List Key} {us:List Au},Vals (ks.map kV) us->ItemsAre (bL P w) ks us
 | [],_,r=>by rw[HI] at r;cases r;exact .nil
 | k :: ks,_,r=>by
  rw[Bd] at r
  cases r with
  | cons h t=>exact .cons (qJ h) (lL t)
abbrev KT (H:Hp):List (List Key×V)->List (List Key×Addr×Au)->Prop:=Paired λp q=>p.1=q.1/\H q.2.1=some (.tup (p.1.map kV))/\RelV p.2 q.2.2
theorem KT.val {H:Hp}{kvs:List (List Key×V)}{xs:List (List Key×Addr×Au)}(r:KT H kvs xs)(k:List Key):oQ (fV kvs k) ((atKey xs k).map (·.2)):=by
 induction r with
 | nil=>exact True.intro
 | @cons p q ps qs h t ih =>
  obtain ⟨h1,_,h2⟩:=h
  by_cases e:p.1=k
  ·have e':q.1=k:=h1.symm.trans e
   have b:atKey (q :: qs) k=some q.2:=by simp[atKey,DH,e']
   rw[gN e,b];exact h2
  ·have e':¬ q.1=k:=λz=>e (h1.trans z)
   have b:atKey (q :: qs) k=atKey qs k:=by simp[atKey,DH,e']
   rw[gO e,b];exact ih
theorem KT.yR {H:Hp}{kvs:List (List Key×V)}{xs:List (List Key×Addr×Au)}(r:KT H kvs xs)(k:List Key){y:V}{u:Au}(ry:RelV y u) :
  KT H (kvs.map λkv=>if kv.1=k then (kv.1,y) else kv) (xs.map (putAt k u)):=by
 induction r with
 | nil=>exact .nil
 | @cons p q ps qs h t ih =>
  rw[Bd,Bd]
  refine .cons ?_ ih
  obtain ⟨h1,h2,h3⟩:=h
  unfold putAt
  by_cases e:p.1=k
  ·rw[if_pos e,if_pos (h1.symm.trans e)];exact ⟨h1,h2,ry⟩
  ·rw[if_neg e,if_neg (λz=>e (h1.trans z))];exact ⟨h1,h2,h3⟩
theorem KT.put {H:Hp}{kvs:List (List Key×V)}{xs:List (List Key×Addr×Au)}(r:KT H kvs xs)(k:List Key){b:Addr}{y:V}{u:Au}(hb:H b=some (.tup (k.map kV)))(ry:RelV y u) :
  KT H (putK kvs k y) (storedH xs k b u):=by
 have e:(kvs.any λkv=>decide (kv.1=k))=(atKey xs k).isSome:=by
  rw[jL,(r.val k).dI,Fu]
 unfold putK storedH
 rw[e]
 by_cases q:(atKey xs k).isSome=true
 ·rw[if_pos q,if_pos q];exact r.yR k ry
 ·rw[if_neg q,if_neg q];exact IW r ⟨rfl,hb,ry⟩
theorem KT.keeps {H H':Hp}{kvs:List (List Key×V)}{xs:List (List Key×Addr×Au)}(r:KT H kvs xs)(ht:∀b ys,H b=some (.tup ys)->H' b=some (.tup ys)):KT H' kvs xs :=
 Paired.x9 r λ_ _ z=>⟨z.1,ht _ _ z.2.1,z.2.2⟩
section
variable  {P:AN}{w:Bh}{H:Hp}{h:Heap}{a:Addr}
theorem xT {u:HO}(ok:HOk P w H h)(e:Rd H a u):aZ P w H h a u:=e.ok ok
theorem uM {kvs:List (Key×V)}(ok:HOk P w H h)(e:Rd H a (.dK kvs)):kvs.length<=AH/\(a == sysModules)=false/\∃vs,KV kvs vs/\h.DictOf (bL P w) a vs :=
 show aZ P w H h a (.dK kvs) from xT ok e
theorem zV {kvs:List (Key×V)}(ok:HOk P w H h)(e:H a=some (.dK kvs)):kvs.length<=AH/\(a == sysModules)=false/\∃vs,KV kvs vs/\h.DictOf (bL P w) a vs:=uM ok (.inl e)
theorem mF {ks:List Key}(ok:HOk P w H h)(e:H a=some (.tup (ks.map kV))):(tupleKind (bL P w)).is h ks a:=by
 obtain ⟨_,its,r,o,h1,h2,n,h3⟩:=(show aZ P w H h a (.tup (ks.map kV)) from ok a _ e)
 exact ⟨o,its.toArray,n,h1,h2.1,h3,by simpa using lL r⟩
theorem uN {kvs:List (List Key×V)}(ok:HOk P w H h)(e:Rd H a (.dT kvs)):kvs.length<=AH/\(a == sysModules)=false ∧
  ∃xs,KT H kvs xs/\h.DictOfH (tupleKind (bL P w)) a xs:=by
 obtain ⟨z,y,xs,r,o,es,ep,h1,h2,h3,h4,h5⟩:=(show aZ P w H h a (.dT kvs) from xT ok e)
 refine ⟨z,y,xs,r,o,es,ep,h1,h2,h3,h4,λx hx =>?_,h5⟩
 have all:∀{l:List (List Key×V)} {m:List (List Key×Addr×Au)},KT H l m->∀x∈m,(tupleKind (bL P w)).is h x.1 x.2.1:=by
  intro l m q
  induction q with
  | nil=>intro x hx;exact nomatch hx
  | @cons p q ps qs hq t ih =>
   intro x hx
   rcases AU.mp hx with e | hx
   ·subst e
    exact mF ok (by rw[<- hq.1];exact hq.2.1)
   ·exact ih x hx
 exact all r x hx
theorem zW {kvs:List (List Key×V)}(ok:HOk P w H h)(e:H a=some (.dT kvs)):kvs.length<=AH/\(a == sysModules)=false ∧
  ∃xs,KT H kvs xs/\h.DictOfH (tupleKind (bL P w)) a xs:=uN ok (.inl e)
end
def og (H:Hp)(a:Addr)(y:V)(r:Option V):Prop :=
 (∃kvs k,Rd H a (.dK kvs)/\y=kV k/\r=fV kvs k)\/∃kvs k b,Rd H a (.dT kvs)/\y = .ref b/\H b=some (.tup (k.map kV))/\r=fV kvs k
def uP (H:Hp)(a:Addr)(y v:V)(H':Hp):Prop :=
 (∃kvs k,H a=some (.dK kvs)/\y=kV k/\kvs.length<AH/\H'=upd H a (.dK (putK kvs k v))) ∨
 ∃kvs k b,H a=some (.dT kvs)/\y = .ref b/\H b=some (.tup (k.map kV))/\kvs.length<AH/\H'=upd H a (.dT (putK kvs k v))
theorem og.k {H:Hp}{a:Addr}{kvs:List (Key×V)}{k:Key}(e:H a=some (.dK kvs)):og H a (kV k) (fV kvs k) :=.inl ⟨kvs,k,.inl e,rfl,rfl⟩
theorem uP.k {H:Hp}{a:Addr}{kvs:List (Key×V)}{k:Key}{v:V}(e:H a=some (.dK kvs))(hl:kvs.length<AH):uP H a (kV k) v (upd H a (.dK (putK kvs k v))) :=.inl ⟨kvs,k,e,rfl,hl,rfl⟩
section
variable  {X:Cx}{pins:List (Addr×Obj)}{σ:St}{H:Hp}{s:Ax}{a:Addr}{y v:V}{u r:Au}{o:Option V}{A:BA}{E:Au->Ax->Prop}
theorem Inv.big (I:Inv X pins σ H s):sysModules<s.heap.objs.size:=by
 have h:A9<s.heap.objs.size:=(I.mod.glob.keeps I.bk).lt
 exact Nat.lt_trans (by decide) h
theorem d_in {Q:Au->Ax->Prop}(hu:A.units+1<cLine)(I:Inv X pins σ H s)(g:og H a y o)(ry:RelV y u)(h:∀s',Inv X pins σ H s'->Q (.bool o.isSome) s') :
  A7 (Bf X.prog X.w) A (Cf .In u (.ref a)) Q E s:=by
 rcases g with ⟨kvs,k,e,ey,l⟩ | ⟨kvs,k,b,e,ey,eb,l⟩
 ·subst ey
  obtain ⟨z,hd,vs,rel,dd⟩:=uM I.hok e
  refine wpAny_in_of (qJ ry) hd dd.mapOf ?_
  rw[<- (rel.val k).dI, <- l]
  exact h _ (I.tok _)
 ·subst ey
  cases (show u=AS b from ry)
  obtain ⟨z,hd,xs,rel,dd⟩:=uN I.hok e
  refine wpAny_in_heap (E7 hu) (mF I.hok eb) hd dd ?_
  have q:=(rel.val k).dI
  rw[Fu] at q
  rw[<- q, <- l]
  exact h _ (I.tok _)
theorem wJ {Q:Au->Ax->Prop}(hu:A.units+1<cLine)(I:Inv X pins σ H s)(g:og H a y o)(ry:RelV y u)(h:∀s',Inv X pins σ H s'->Q (.bool (!o.isSome)) s') :
  A7 (Bf X.prog X.w) A (Cf .NotIn u (.ref a)) Q E s:=by
 rcases g with ⟨kvs,k,e,ey,l⟩ | ⟨kvs,k,b,e,ey,eb,l⟩
 ·subst ey
  obtain ⟨z,hd,vs,rel,dd⟩:=uM I.hok e
  refine wpAny_notIn_of (qJ ry) hd dd.mapOf ?_
  rw[<- (rel.val k).dI, <- l]
  exact h _ (I.tok _)
 ·subst ey
  cases (show u=AS b from ry)
  obtain ⟨z,hd,xs,rel,dd⟩:=uN I.hok e
  refine wpAny_notIn_heap (E7 hu) (mF I.hok eb) hd dd ?_
  have q:=(rel.val k).dI
  rw[Fu] at q
  rw[<- q, <- l]
  exact h _ (I.tok _)
theorem qK {h':Heap}{t':Nat}{ob:HO}(I:Inv X pins σ H s)(mu:Mut (H a))(hs:Heap.SameBut a s.heap h')(he:∃q,h'.get? a=some q)(new:aZ X.prog X.w (upd H a ob) h' a ob) :
  Inv X pins σ (upd H a ob) { s with heap:=h',toks:=t' } :=
 I.write (x:=a) (e:=a) mu (.inl rfl) (λb q hb z=>(hs.2 b hb).trans z) he new
theorem yS {P:AN}{w:Bh}{H':Hp}{h':Heap}{kvs:List (Key×V)}{vs:List (Key×Au)}(z:kvs.length<=AH)(hd:(a == sysModules)=false)(rel:KV kvs vs)(dd:h'.DictOf (bL P w) a vs) :
  aZ P w H' h' a (.dK kvs):=⟨z,hd,vs,rel,dd⟩
theorem sJ {H':Hp}{Q:Unit->Ax->Prop}(hu:A.units+1<cLine)(I:Inv X pins σ H s)(g:uP H a y v H')(ry:RelV y u)(rv:RelV v r)(h:∀s',Inv X pins σ H' s'->Q () s') :
  A7 (Bf X.prog X.w) A (setItem (.ref a) u r) Q E s:=by
 rcases g with ⟨kvs,k,e,ey,l,eH⟩ | ⟨kvs,k,b,e,ey,eb,l,eH⟩
 ·subst ey eH
  obtain ⟨z,hd,vs,rel,dd⟩:=zV I.hok e
  have hz:vs.length<=AH:=by rw[<- rel.length];exact z
  have hl:(putK kvs k v).length<=AH:=by have:=iP kvs k v;omega
  refine wpAny_setItem_pairs (hsz:=hz) (qJ ry) dd λh' dd' hs=>h _ ?_
  have he:∃q,h'.get? a=some q:=let ⟨q,_,_,hq,_⟩:=dd';⟨q,hq⟩
  exact qK I (by rw[e];exact True.intro) hs he (yS hl hd (rel.put k rv) dd')
 ·subst ey eH
  cases (show u=AS b from ry)
  obtain ⟨z,hd,xs,rel,dd⟩:=zW I.hok e
  have hz:xs.length<=AH:=by rw[<- C5 rel];exact z
  have hl:(putK kvs k v).length<=AH:=by have:=iP kvs k v;omega
  refine wpAny_setItem_heap (hsz:=hz) (E7 hu) (mF I.hok eb) dd λh' dd' hs=>h _ ?_
  obtain ⟨q,es,ep,hq,h2,h3,h4,_,h5⟩:=dd'
  refine qK I (by rw[e];exact True.intro) hs ⟨q,hq⟩ ⟨hl,hd,_,(rel.put k eb rv).keeps λc ys ec =>?_,q,es,ep,hq,h2,h3,h4,h5⟩
  rw[aq (eL ec e (λz=>nomatch z))]
  exact ec
end
section
variable  {X:Cx}{pins:List (Addr×Obj)}{σ:St}{H:Hp}{s:Ax}{a:Addr}{kvs:List (Key×V)}{k:Key}{u:Au}{A:BA}{E:Au->Ax->Prop}
end
def tDIn (ty td:TE):TE:=λσ H Q=>ty σ H λy H1=>td σ H1 λx H2=>∃a o,x = .ref a/\og H2 a y o/\Q (.bl o.isSome) H2
def wK (ty td:TE):TE:=λσ H Q=>ty σ H λy H1=>td σ H1 λx H2=>∃a o,x = .ref a/\og H2 a y o/\Q (.bl (!o.isSome)) H2
def zX (td ty tv:TE):TS:=λD σ H=>tv σ H λv H1=>td σ H1 λx H2=>ty σ H2 λy H3=>∃a H4,x = .ref a/\uP H3 a y v H4/\D.nx σ H4
section
variable  {X:Cx}{o i e value:Expr}{pos pos' tpos:Pos}{td ty tv:TE}
theorem yT (hu:X.A.units+1<cLine)(hi:PE X i ty)(ho:PE X o td):PC X .In i o (tDIn ty td):=by
 intro pins s σ H Q I h
 refine thn (hi pins s σ H _ I h) λiv s1 ⟨y,H1,I1,ry,q1⟩=>thn (ho pins s1 σ H1 _ I1 q1) λu s2 ⟨x,H2,I2,rx,a,ov,ex,g,q2⟩ =>?_
 subst ex
 obtain rfl:u=AS a:=rx
 exact d_in hu I2 g ry λs3 I3=>⟨.bl ov.isSome,H2,I3,rfl,q2⟩
theorem sL (hu:X.A.units+1<cLine)(hi:PE X i ty)(ho:PE X o td):PC X .NotIn i o (wK ty td):=by
 intro pins s σ H Q I h
 refine thn (hi pins s σ H _ I h) λiv s1 ⟨y,H1,I1,ry,q1⟩=>thn (ho pins s1 σ H1 _ I1 q1) λu s2 ⟨x,H2,I2,rx,a,ov,ex,g,q2⟩ =>?_
 subst ex
 obtain rfl:u=AS a:=rx
 exact wJ hu I2 g ry λs3 I3=>⟨.bl (!ov.isSome),H2,I3,rfl,q2⟩
theorem wL (hu:X.A.units+1<cLine)(ho:PE X o td)(hi:PE X i ty)(hv:PE X value tv)(hs:swapsWith value (some (.Subscript o i pos')) pos.line X.env=pure false) :
  PS X (.Assign [.Subscript o i pos'] value pos) (zX td ty tv):=by
 intro pins s σ H D I h
 refine wpAny_Assign_Subscript (thn (hv pins s σ H _ I h) λr s1 ⟨v,H1,I1,rv,q1⟩=>thn (ho pins s1 σ H1 _ I1 q1) λu s2 ⟨x,H2,I2,rx,q2⟩=>thn (hi pins s2 σ H2 _ I2 q2) λiv s3 ⟨y,H3,I3,ry,a,H4,ex,g,q3⟩ =>?_) hs
 subst ex
 obtain rfl:u=AS a:=rx
 exact sJ hu I3 g ry rv λs4 I4=>⟨σ,H4,I4,q3⟩
end
theorem uQ {P:AN}{w:Bh}{H:Hp}(h:Heap)(hb:sysModules<h.objs.size):aZ P w H (h.push { cls :=.type "dict",data :=.dict #[] }) h.objs.size (.dK []) :=
 ⟨Bl _,beq_eq_false_iff_ne.mpr (CK (A3 hb)),[],.nil,Heap.DictOf.new h⟩
def yU:TE:=λ_ H Q=>∀p,H p=none->Q (.ref p) (upd H p (.dK []))
section
variable  {X:Cx}{pos:Pos}
theorem uS:PE X (.Dict [] [] pos) yU:=λpins s σ H Q I h =>
 wpAny_Dict_empty ⟨.ref s.heap.objs.size,_,I.laid (a:=s.heap.objs.size) (o :=.dK []) (t':=s.toks) (λ_ _ q=>Az _ q) (AE _) (uQ s.heap I.big),rfl,h _ (I.hok.fresh (AE _))⟩
end
structure M1 (X:Cx)(o:Expr)(m:Str)(apos:Pos)(e:Expr)(cpos:Pos):Prop where
 base:attributeBase o m X.env (eval o X.env)=eval o X.env
 few:((DV cpos (BD [e] X.env)).all (λx => !x.1) && (backToKw cpos (keywordEach [] X.env)).all (λx=>x.1.isSome)
  && decide (([e]:List Expr).length+([]:List Keyword).length+(if ([]:List Keyword).isEmpty then 0 else 1)<30))=true
 line:(apos.endLine == cpos.line)=true
 trees:DV cpos (BD [e] X.env)=[(false,eval e X.env)]
structure M2 (X:Cx)(o:Expr)(m:Str)(apos:Pos)(e f:Expr)(cpos:Pos):Prop where
 base:attributeBase o m X.env (eval o X.env)=eval o X.env
 few:((DV cpos (BD [e,f] X.env)).all (λx => !x.1) && (backToKw cpos (keywordEach [] X.env)).all (λx=>x.1.isSome)
  && decide (([e,f]:List Expr).length+([]:List Keyword).length+(if ([]:List Keyword).isEmpty then 0 else 1)<30))=true
 line:(apos.endLine == cpos.line)=true
 trees:DV cpos (BD [e,f] X.env)=[(false,eval e X.env),(false,eval f X.env)]
section
variable  {X:Cx}{pins:List (Addr×Obj)}{σ:St}{H:Hp}{s:Ax}{a:Addr}{y d:V}{u r:Au}{o:Option V}{A:BA}{E:Au->Ax->Prop}
end
section
variable  {X:Cx}{o e f:Expr}{apos cpos:Pos}{td ty tx:TE}
end
section
variable  {X:Cx}{pins:List (Addr×Obj)}{σ:St}{H:Hp}{s:Ax}{a:Addr}{kvs:List (Key×V)}{A:BA}{E:Au->Ax->Prop}
end
section
variable  {X:Cx}{pins:List (Addr×Obj)}{σ:St}{H:Hp}{s:Ax}{a:Addr}{y:V}{u:Au}{A:BA}{E:Au->Ax->Prop}
end
open PySem PySem.Spec PyProof.Rows
section
variable  {X:Cx}
end
section
variable  {κ:Type}[DecidableEq κ]
end
open PySem PyProof.Rows
section
variable  {X:Cx}
def yV (ns ms:List Int)(j:Nat):Bool:=ns.getD j 0 == ms.getD j 0
theorem uT {ns ms:List Int}(h:ns.length=ms.length):((Ba ns.length).all λj=>yV ns ms j)=decide (ns=ms):=by
 rw[Co,decide_eq_true_iff,BF]
 constructor
 ·intro hh
  refine EE h λj h1 h2 =>?_
  have:=hh j (BG.mpr h1)
  unfold yV at this
  rw[AK,AK,AD h1,AD h2] at this
  exact of_decide_eq_true (by simpa using this)
 ·rintro rfl j _
  exact beq_self_eq_true _
theorem intAt {ns:List Int}{us:List Au}(r:Vals (ns.map V.int) us){j:Nat}(h:j<us.toArray.size):∃t,us.toArray[j] = .int (ns.getD j 0) t:=by
 have l:=r.length
 rw[Aq] at l
 rw[Aw] at h
 have e1:(ns.map V.int)[j]? = some (.int (ns.getD j 0)):=by
  rw[AW,AK,AD (by omega)]
  rfl
 obtain ⟨u,g1,q1⟩:=r.get e1
 have f1:us.toArray[j]=u:=by simp[AG] at g1;obtain ⟨_,g⟩:=g1;simpa using g
 rw[f1]
 exact q1
end
end L2
namespace HT
open PySem PySem.Spec PyProof.Rows
section
variable  {prog:AN}{w:Bh}{A:BA}{R:Result->Ax->Prop}{I:Addr}{fp wr:List Addr}{n:Nat}{P:Nat->Au->Prop}{St:Nat->Heap->Prop}{kw:List (Str×Au)}
end
section
variable  {prog:AN}{w:Bh}{A:BA}{E:Au->Ax->Prop}{s:Ax}{l:Addr}{xs:Array (Int×Tok)}
end
end HT
namespace L2
open PySem PyProof.Rows
section
variable  {X:Cx}{x:Str}{id:String}{e:Expr}{es:List Expr}{kws:List Keyword}{p pos:Pos}{t tk:TA}{ks:List Str}{r:List V->List V->Hp->VK->Prop}
end
open PySem PyProof.Rows
section
variable  {X:Cx}
theorem yW {ns:List Int}{j:Nat}(h:j<ns.length):ns.getD j 0∈ns:=by
 rw[AK,AD h]
 exact Ds h
theorem yX {ns:List Int}{a:Int}(h:a∈ns):∃j,j<ns.length/\ns.getD j 0=a:=by
 obtain ⟨j,hj,e⟩:=GI h
 exact ⟨j,hj,by rw[AK,AD hj];exact e⟩
end
open PySem PyProof.Rows
section
variable  {X:Cx}
def oh (ns ms:List Int)(j:Nat):Bool:=ns.getD j 0 == ms.getD j 0
theorem sM {ns ms:List Int}(h:ns.length=ms.length):((Ba ns.length).all λj=>oh ns ms j)=decide (ns=ms):=by
 rw[Co,decide_eq_true_iff,BF]
 constructor
 ·intro hh
  refine EE h λj h1 h2 =>?_
  have:=hh j (BG.mpr h1)
  unfold oh at this
  rw[AK,AK,AD h1,AD h2] at this
  exact of_decide_eq_true (by simpa using this)
 ·rintro rfl j _
  exact beq_self_eq_true _
theorem lM {ns ms:List Int}:((Ba (min ns.length ms.length)).all (oh ns ms) && ns.length == ms.length)=decide (ns=ms):=by
 by_cases h:ns.length=ms.length
 ·rw[<- h,E4,show (ns.length == ns.length)=true from beq_self_eq_true _,Bool.and_true]
  exact sM h
 ·have ne:ns≠ms:=λz=>h (by rw[z])
  rw[decide_eq_false ne,show (ns.length == ms.length)=false from by simpa using h,Fb]
theorem mG {ns:List Int}{us:List Au}(r:Vals (ns.map V.int) us){j:Nat}(h:j<us.toArray.size):∃t,us.toArray[j] = .int (ns.getD j 0) t:=by
 have l:=r.length
 rw[Aq] at l
 rw[Aw] at h
 have e1:(ns.map V.int)[j]? = some (.int (ns.getD j 0)):=by
  rw[AW,AK,AD (by omega)]
  rfl
 obtain ⟨u,g1,q1⟩:=r.get e1
 have f1:us.toArray[j]=u:=by simp[AG] at g1;obtain ⟨_,g⟩:=g1;simpa using g
 rw[f1]
 exact q1
theorem op_eqTI {k:Nat}(hr:bW k X.A):OpR X (Cf .Eq) (λx y H Q=>∃(a b:Addr) (ns ms:List Int),x = .ref a/\y = .ref b/\SqT X.K H a (ns.map V.int)/\SqT X.K H b (ms.map V.int)/\Q (.bl (decide (ns=ms))) H):=by
 intro pins s σ H x y v u Q I rx ry h
 obtain ⟨a,b,ns,ms,rfl,rfl,h1,h2,q⟩:=h
 cases (show v=AS a from rx)
 cases (show u=AS b from ry)
 obtain ⟨its,r1,p1,_⟩:=I.tuple h1
 obtain ⟨its2,r2,p2,_⟩:=I.tuple h2
 have l1:=r1.length
 have l2:=r2.length
 rw[Aq] at l1 l2
 have hu:=hr.un
 have hu1:X.A.units<cLine:=by omega
 have R:=Fn (A:=X.A) (e:=oh ns ms) (show s.heap.IsTuple a its.toArray from p1) (show s.heap.IsTuple b its2.toArray from p2) hu1 (by
  intro j h1 h2
  obtain ⟨t1,g1⟩:=mG r1 h1
  obtain ⟨t2,g2⟩:=mG r2 h2
  rw[g1,g2]
  exact CI _ t1 _ t2)
 rw[Aw,Aw, <- l1, <- l2,lM] at R
 exact R _ _ _ _ ⟨.bl _,H,I,rfl,q⟩
theorem wM {k:Nat}(hr:bW k X.A):OpR X (Cf .NotEq) (λx y H Q=>∃(a b:Addr) (ns ms:List Int),x = .ref a/\y = .ref b/\SqT X.K H a (ns.map V.int)/\SqT X.K H b (ms.map V.int)/\Q (.bl (!decide (ns=ms))) H):=by
 intro pins s σ H x y v u Q I rx ry h
 obtain ⟨a,b,ns,ms,rfl,rfl,h1,h2,q⟩:=h
 cases (show v=AS a from rx)
 cases (show u=AS b from ry)
 obtain ⟨its,r1,p1,_⟩:=I.tuple h1
 obtain ⟨its2,r2,p2,_⟩:=I.tuple h2
 have l1:=r1.length
 have l2:=r2.length
 rw[Aq] at l1 l2
 have hu:=hr.un
 have hu1:X.A.units<cLine:=by omega
 have R:=GK (A:=X.A) (e:=oh ns ms) (show s.heap.IsTuple a its.toArray from p1) (show s.heap.IsTuple b its2.toArray from p2) hu1 (by
  intro j h1 h2
  obtain ⟨t1,g1⟩:=mG r1 h1
  obtain ⟨t2,g2⟩:=mG r2 h2
  rw[g1,g2]
  exact CI _ t1 _ t2)
 rw[Aw,Aw, <- l1, <- l2,lM] at R
 exact R _ _ _ _ ⟨.bl _,H,I,rfl,q⟩
def Wd (i:Int):Prop:=i.natAbs<2 ^ 4000
theorem Wd.bits {i:Int}(h:Wd i):Builtin.Int.intBits i<=2 ^ 20:=by
 unfold Builtin.Int.intBits
 split
 ·exact Bl _
 ·have:i.natAbs.log2<4000:=by
   rcases G9 i.natAbs with h0 | hp
   ·rw[h0];decide
   ·exact (Nat.log2_lt (by omega)).mpr h
  omega
def zY (i j:Int):Prop:=Wd i/\Wd j
theorem mH:OpR X (binaryOp .Mult) (rI zY λi j =>.int (i*j)):=opI λ_ _ _ _ _ _ _ hc q=>mul_int q (IntMulOk.of_bits hc.1.bits hc.2.bits)
end
section
variable  {P:AN}{w:Bh}{K:Av}{mg:Str->Option Au}{base:Heap}
end
end L2
namespace L2.Rem
open PySem PySem.SeqAt PySem.MeetsSeq
open AutoSeq1 (wpAny_loadPart')
end L2.Rem
namespace L2
open PySem PySem.Spec PyProof.Rows
section
variable  {X:Cx}
theorem op_neTE {k:Nat}(hr:bW k X.A):OpR X (Cf .NotEq) (λx y H Q=>∃a b xs ys,x = .ref a/\y = .ref b/\SqT X.K H a xs/\SqT X.K H b ys/\Paired (eX X.K H 20) xs ys/\Q (.bl false) H):=by
 intro pins s σ H x y v u Q I rx ry h
 obtain ⟨a,b,xs,ys,rfl,rfl,h1,h2,p,q⟩:=h
 cases (show v=AS a from rx)
 cases (show u=AS b from ry)
 obtain ⟨its,r1,p1,_⟩:=I.tuple h1
 obtain ⟨its2,r2,p2,_⟩:=I.tuple h2
 have l1:=r1.length
 have l2:=r2.length
 have pl:=C5 p
 have hu:=hr.un
 have hu1:X.A.units<cLine:=by omega
 have R:=GK (A:=X.A) (e:=λ_=>true) (show s.heap.IsTuple a its.toArray from p1) (show s.heap.IsTuple b its2.toArray from p2) hu1 (cP p r1 r2 λx y u v h1 h2 h3=>ig I 20 _ x y u v (by show X.A.units+1+_<cLine;omega) h1 h2 h3)
 rw[Aw,Aw, <- l1, <- l2,pl,E4,beq_self_eq_true,all_true] at R
 exact R _ _ _ _ ⟨.bl false,H,I,rfl,q⟩
theorem wN {k:Nat}(hr:bW k X.A):OpR X (Cf .Eq) (λx y H Q=>∃a b xs ys,x = .ref a/\y = .ref b/\SqL X.K H a xs/\SqL X.K H b ys/\Paired (eX X.K H 20) xs ys/\Q (.bl true) H):=by
 intro pins s σ H x y v u Q I rx ry h
 obtain ⟨a,b,xs,ys,rfl,rfl,h1,h2,p,q⟩:=h
 cases (show v=AS a from rx)
 cases (show u=AS b from ry)
 obtain ⟨its,r1,p1,_⟩:=I.list h1
 obtain ⟨its2,r2,p2,_⟩:=I.list h2
 have l1:=r1.length
 have l2:=r2.length
 have pl:=C5 p
 have hu:=hr.un
 have hu1:X.A.units<cLine:=by omega
 have R:=Ez (A:=X.A) (e:=λ_=>true) p1.isList p2.isList (by rw[Aw,Aw, <- l1, <- l2,pl]) hu1 (cP p r1 r2 λx y u v h1 h2 h3=>ig I 20 _ x y u v (by show X.A.units+1+_<cLine;omega) h1 h2 h3)
 rw[all_true] at R
 exact R _ _ _ _ ⟨.bl true,H,I,rfl,q⟩
theorem pP (hu:X.A.units+8<cLine):OpR X (Cf .NotIn) (λx y H Q=>∃(p b:Addr) (ts:List (Addr×List Int)) (m:List Int),x = .ref b/\y = .ref p/\H p=some (.lst (ts.map λt =>.ref t.1))/\(∀t∈ts,H t.1=some (.tup (t.2.map V.int)))/\H b=some (.tup (m.map V.int))/\Q (.bl (!decide (m∈ts.map (·.2)))) H):=by
 intro pins s σ H x y v u Q I rx ry h
 obtain ⟨p,b,ts,m,rfl,rfl,hp,ht,hb,q⟩:=h
 cases rx
 cases ry
 have ht':∀t∈ts,SqT X.K H t.1 (t.2.map V.int):=λt hm=>SqT.of (ht t hm)
 obtain ⟨its,r,pl,hz⟩:=I.list (SqL.of (K:=X.K) hp)
 have ei:=cZ r
 refine GZ (c0 ts m) pl.isList (λy hy =>?_) ⟨.bl _,H,I,rfl,?_⟩
 ·have hy':y∈its:=by simpa using hy
  rw[ei] at hy'
  obtain ⟨t,hm,rfl⟩:=A6.mp hy'
  rw[dH I ht' hm]
  exact I.eqT (by show X.A.units+1<cLine;omega) (ht' t hm) (SqT.of hb)
 ·rw[show its.toArray.any (c0 ts m)=its.any (c0 ts m) by simp,ei,mE I ht' ts (λt h=>h)]
  exact q
end
open PySem PySem.Spec PyProof.Rows
section
variable  {X:Cx}
theorem iQ:cj X (.builtin "len") (λxs H Q=>∃(a:Addr) (ys:List V),xs=[.ref a]/\H a=some (dz X.w a ys)/\ys.length<1000/\Q (.int ys.length) H):=by
 intro pins s σ H xs us Q I r h
 obtain ⟨a,ys,rfl,ha,hl,q⟩:=h
 obtain ⟨u,rfl,ru⟩:=vals1 r
 cases (show u=AS a from ru)
 obtain ⟨⟨es,⟨ep,t,ho,T,_⟩,rv⟩,_⟩:=(show aZ X.prog X.w H s.heap a (dz X.w a ys) from I.hok a _ ha)
 have l:=rv.length
 have l2:es.size=ys.length:=by simpa using l.symm
 refine call_len_set ho ⟨rfl,rfl,rfl⟩ rfl (by have:=T.fits;rwa [BB] at this) (by omega) ?_
 rw[l2]
 exact ⟨.int ys.length,H,I.tok _,⟨_,rfl⟩,q⟩
end
open PySem PySem.Spec PyProof.Rows
def wO:Stmt->List Stmt
 | .For _ _ body _ _=>body
 | _=>[]
theorem qL {α:Type}{g:α -> Addr}{ts:List α}{i:Nat}{x:V}(e:(ts.map λt=>V.ref (g t))[i]? = some x):∃u,ts[i]? = some u/\x = .ref (g u):=by
 rw[AW] at e
 cases z:ts[i]? with
 | none=>rw[z] at e;cases e
 | some tt=>rw[z] at e;exact ⟨tt,rfl,(Bq e).symm⟩
theorem zZ {ns:List Int}{i:Nat}{x:V}(e:(ns.map V.int)[i]? = some x):∃u,ns[i]? = some u/\x = .int u:=by
 rw[AW] at e
 cases z:ns[i]? with
 | none=>rw[z] at e;cases e
 | some tt=>rw[z] at e;exact ⟨tt,rfl,(Bq e).symm⟩
theorem wQ {α:Type}{g:α -> Addr}{ts:List α}{d:Int}(h0:0<=d)(h1:d<ts.length):∃u,u∈ts/\atI (ts.map λt=>V.ref (g t)) d=some (.ref (g u)):=by
 obtain ⟨n,rfl⟩:∃n:Nat,d=n:=⟨d.toNat,by omega⟩
 have hn:n<ts.length:=by omega
 refine ⟨ts[n],Ds hn,bR ?_⟩
 rw[AW,AD hn]
 rfl
def Pt (n:Nat)(H:Hp)(p:Addr):Prop:=∃xs:List Int,xs.length=n/\H p=some (.lst (xs.map V.int))
structure Bu (n:Nat)(p:Addr)(H H':Hp):Prop where
 pot:Pt n H' p
 st:∀q o,q≠p->H q=some o->H' q=some o
theorem Pt.same {n:Nat}{p:Addr}{H H1:Hp}(a:Pt n H p)(s:aD H H1):Pt n H1 p:=by obtain ⟨xs,l,e⟩:=a;exact ⟨xs,l,s _ _ e⟩
theorem Pt.ne {n:Nat}{p b:Addr}{H:Hp}(a:Pt n H p)(h:H b=none):b≠p:=by
 obtain ⟨xs,_,e⟩:=a
 exact CK (av e h)
theorem Pt.neT {n:Nat}{p b:Addr}{H:Hp}{ys:List V}(a:Pt n H p)(h:H b=some (.tup ys)):b≠p:=by
 obtain ⟨xs,_,e⟩:=a
 exact eL h e (by intro z;cases z)
theorem Bu.refl {n:Nat}{p:Addr}{H:Hp}(h:Pt n H p):Bu n p H H:=⟨h,λ_ _ _ z=>z⟩
theorem Bu.trans {n:Nat}{p:Addr}{H H1 H2:Hp}(a:Bu n p H H1)(b:Bu n p H1 H2):Bu n p H H2:=⟨b.pot,λq o m z=>b.st q o m (a.st q o m z)⟩
theorem Bu.same {n:Nat}{p:Addr}{H H1 H2:Hp}(a:Bu n p H H1)(b:aD H1 H2):Bu n p H H2:=⟨a.pot.same b,λq o m z=>b _ _ (a.st q o m z)⟩
theorem Bu.put {n:Nat}{p:Addr}{H H1:Hp}(a:Bu n p H H1){ys:List Int}(l:ys.length=n):Bu n p H (upd H1 p (.lst (ys.map V.int))):=⟨⟨ys,l,af⟩,λq o m z=>by rw[aq m];exact a.st q o m z⟩
theorem Bu.eC {n:Nat}{p l:Addr}{H H1:Hp}(a:Bu n p H H1)(hl:H l=none)(np:l≠p)(o:HO):Bu n p H (upd H1 l o):=⟨by obtain ⟨xs,z,e⟩:=a.pot;exact ⟨xs,z,by rw[aq np.symm];exact e⟩,λq u m z=>by rw[aq (av z hl)];exact a.st q u m z⟩
theorem Bu.tup {n:Nat}{p q:Addr}{H H1:Hp}(a:Bu n p H H1)(h:Pt n H p){xs:List V}(t:H q=some (.tup xs)):H1 q=some (.tup xs):=a.st q _ (h.neT t) t
theorem Bu.fresh {n:Nat}{p:Addr}{H H':Hp}{o:HO}(h:H p=none)(b:Bu n p (upd H p o) H'):aD H H':=λq u e=>by
 have m:q≠p:=av e h
 refine b.st q u m ?_
 rw[aq m]
 exact e
def Tus (H:Hp)(ts:List (Addr×List Int)):Prop:=∀u∈ts,H u.1=some (.tup (u.2.map V.int))
theorem Tus.same {H H':Hp}{ts:List (Addr×List Int)}(h:Tus H ts)(s:aD H H'):Tus H' ts:=λu hu=>s _ _ (h u hu)
theorem Tus.bu {n:Nat}{p:Addr}{H H':Hp}{ts:List (Addr×List Int)}(h:Tus H ts)(b:Bu n p H H')(hp:Pt n H p):Tus H' ts:=λu hu=>b.tup hp (h u hu)
theorem Tus.snoc {H:Hp}{ts:List (Addr×List Int)}(h:Tus H ts){u:Addr×List Int}(e:H u.1=some (.tup (u.2.map V.int))):Tus H (ts++[u]):=λv hv=>by
 rcases AI.mp hv with z | z
 ·exact h v z
 ·rw[AB] at z;subst z;exact e
structure Mkg (n:Nat)(p la:Addr)(H H':Hp)(us:List (Addr×List Int)):Prop where
 bu:Bu n p H H'
 at':H' la=some (.lst (us.map λu =>.ref u.1))
 tu:Tus H' us
 two:∀u∈us,∃x y,u.2=[x,y]
theorem Mkg.same {n:Nat}{p la:Addr}{H H1 H2:Hp}{us:List (Addr×List Int)}(m:Mkg n p la H H1 us)(s:aD H1 H2):Mkg n p la H H2 us:=⟨m.bu.same s,s _ _ m.at',m.tu.same s,m.two⟩
theorem Mkg.bu' {n:Nat}{p la:Addr}{H H1 H2:Hp}{us:List (Addr×List Int)}(m:Mkg n p la H H1 us)(np:la≠p)(b:Bu n p H1 H2):Mkg n p la H H2 us:=⟨m.bu.trans b,b.st _ _ np m.at',m.tu.bu b m.bu.pot,m.two⟩
variable  {X:Cx}
open PySem PySem.Spec PyProof.Rows
section
variable  {X:Cx}
theorem uU {k:Int}:∀{ns:List Int} {m:Nat} (h:m<ns.length),m<ns.idxOf k->ns[m]≠k
 | [],m,h,_=>absurd h (Ge _)
 | n :: ns,0,_,l=>by
  intro z
  have e:(n :: ns)[0]=n:=rfl
  rw[e] at z
  subst z
  simp at l
 | n :: ns,m+1,h,l=>by
  have h':m<ns.length:=Nat.lt_of_succ_lt_succ h
  show ns[m]≠k
  refine uU h' ?_
  by_cases e:n=k
  ·subst e;simp at l
  ·rw[List.idxOf_cons,show (n == k)=false by simpa using e] at l
   simp at l
   exact l
def qM (K:Av):R2:=λx y H Q=>∃a b xs ys,x = .ref a/\y = .ref b/\SqT K H a xs/\SqT K H b ys/\xs.length+ys.length<=AH/\(xs=[]->Q (.ref b) H)/\(ys=[]->Q (.ref a) H)/\(xs≠[]->ys≠[]->∀p,H p=none->Q (.ref p) (upd H p (.tup (xs++ys))))
theorem uV:OpR X (binaryOp .Add) (qM X.K):=by
 intro pins s σ H x y v u Q I rx ry h
 obtain ⟨a,b,xs,ys,rfl,rfl,ha,hb,hz,q1,q2,q3⟩:=h
 by_cases hx:xs=[]
 ·cases rx
  cases ry
  obtain ⟨its,r1,p1,_⟩:=I.tuple ha
  obtain ⟨its2,r2,p2,_⟩:=I.tuple hb
  obtain ⟨⟨c1,d1,da1,s1⟩,o1,k1,n1,g1⟩:=id p1
  obtain ⟨⟨c2,d2,da2,s2⟩,o2,k2,n2,g2⟩:=id p2
  simp only at k1 g1 k2 g2
  subst k1 g1 k2 g2
  have e0:its=[]:=r1.i3.mpr hx
  exact Gn ⟨_,o1,rfl⟩ ⟨_,o2,rfl⟩ FR Hh Ep Ee (D4 _ _)
   (tuple_addW0 a b its.toArray its2.toArray n1 n2 d1 d2 s1 s2 (by simp[e0])) ⟨o1,o2,⟨.ref b,H,I,rfl,q1 hx⟩⟩
 ·exact vX pins s σ H _ _ v u Q I rx ry ⟨a,b,xs,ys,rfl,rfl,ha,hb,hx,hz,q2,λhy=>q3 hx hy⟩
theorem qM.one {K:Av}{H:Hp}{Q:VK}{a b:Addr}{xs ys:List V}(ha:H a=some (.tup xs))(hb:H b=some (.tup ys))(hz:xs.length+ys.length<=AH)(q:∀p H',aD H H'->H' p=some (.tup (xs++ys))->Q (.ref p) H'):qM K (.ref a) (.ref b) H Q:=by
 refine ⟨a,b,xs,ys,rfl,rfl,SqT.of ha,SqT.of hb,hz,λz =>?_,λz =>?_,λ_ _ p hp=>q p _ (ag hp _) af⟩
 ·subst z;exact q b H (aD.refl _) hb
 ·subst z;exact q a H (aD.refl _) (by rw[Bj];exact ha)
end
theorem sN {K:Av}{a:Addr}{xs:List V}{k l:Nat}{tc:TT}{te:TE}{τ:St}{H:Hp}{Q:VK}(Pv:Nat->List V->Hp->Prop)(hkl:k≠l)(h0:Pv 0 [] H)(hz:xs.length<=AH)
  (hl:∀i ys H,i<=xs.length->Pv i ys H->SqT K H a xs)
  (hs:∀i x ys H T,xs[i]? = some x->ys.length<=i->H T=none->Pv i ys H->xQ k l tc te τ Pv i (.int i) x ys (upd H T (.tup [.int i,x])))
  (hd:∀ys H,ys.length<=xs.length->Pv xs.length ys H->∀r,H r=none->Q (.ref r) (upd H r (.lst ys))):kY (ItE K a) (uh K k l) tc te τ Q H:=by
 refine ⟨λi m σ ys H=>m=xs.length-i/\i<=xs.length/\(∀a b,(σ.set k (some a)).set l (some b)=(τ.set k (some a)).set l (some b))/\ys.length<=i/\Pv i ys H,⟨xs.length,by simp,Bl _,λ_ _=>rfl,AE _,h0⟩,?_⟩
 rintro i m σ ys H ⟨rfl,hi,hτ,hy,pv⟩
 have q:=hl i ys H hi pv
 by_cases hlt:i<xs.length
 ·refine .inr ⟨⟨xs,xs[i],q,by simp[hlt]⟩,λx H' y =>?_⟩
  obtain ⟨T,v,hT,ex,eH,hv⟩:=y
  subst ex eH
  refine ⟨T,_,rfl,SqT.of af,rfl,_,_,rfl,_,_,rfl,rfl,?_⟩
  rw[hτ]
  have hσ:∀a b,((((τ.set k (some (V.int i))).set l (some v)).set k (some a)).set l (some b))=(τ.set k (some a)).set l (some b):=λa b=>by
   rw[IM _ _ (CK hkl),D5,D5]
  refine hs i v ys _ T (hv xs q) hy hT pv _ _ (λy4 H4 p4=>⟨by omega,xs.length-(i+1),by omega,rfl,hlt,hσ,by rw[As,Bs];omega,p4⟩) λH3 p3=>⟨xs.length-(i+1),by omega,rfl,hlt,hσ,by omega,p3⟩
 ·have e:i=xs.length:=by omega
  subst e
  exact .inl ⟨⟨_,q,AE _⟩,by omega,hd ys H hy pv⟩
open PySem PySem.Spec PyProof.Rows
section
variable  {X:Cx}
def EqS (K:Av)(H:Hp):Nat->V->V->Prop
 | 0,x,y=>(∃i,x = .int i/\y = .int i)\/(∃i,x = .str i/\y = .str i)\/∃a,x = .ref a/\y = .ref a
 | n+1,x,y=>(∃i,x = .int i/\y = .int i)\/(∃i,x = .str i/\y = .str i)\/(∃a,x = .ref a/\y = .ref a)\/∃a b xs ys,x = .ref a/\y = .ref b/\((SqT K H a xs/\SqT K H b ys)\/(SqL K H a xs/\SqL K H b ys))/\Paired (EqS K H n) xs ys
theorem iq {K:Av}{H:Hp}{n:Nat}{s:Ax}{A:BA}{xs ys:List V}{us vs:List Au}(p:Paired (EqS K H n) xs ys)(r1:Vals xs us)(r2:Vals ys vs)
  (ih:∀x y u v,EqS K H n x y->RelV x u->RelV y v->C3 A s u v true):∀j (h1:j<us.toArray.size) (h2:j<vs.toArray.size),C3 A s us.toArray[j] vs.toArray[j] true:=λj h1 h2=>by
 rw[Aw] at h1 h2
 have l1:=r1.length
 have l2:=r2.length
 have e1:xs[j]? = some xs[j]:=AD (by omega)
 have e2:ys[j]? = some ys[j]:=AD (by omega)
 obtain ⟨u,g1,q1⟩:=r1.get e1
 obtain ⟨v,g2,q2⟩:=r2.get e2
 have f1:us.toArray[j]=u:=by simp[AG] at g1;obtain ⟨_,g⟩:=g1;simpa using g
 have f2:vs.toArray[j]=v:=by simp[AG] at g2;obtain ⟨_,g⟩:=g2;simpa using g
 rw[f1,f2]
 exact ih _ _ u v (ie p e1 e2) q1 q2
theorem gP {A:BA}{s:Ax}{x y:V}{u v:Au}(h:(∃i,x = .int i/\y = .int i)\/(∃i,x = .str i/\y = .str i)\/∃a,x = .ref a/\y = .ref a)(ru:RelV x u)(rv:RelV y v):C3 A s u v true:=by
 rcases h with ⟨i,rfl,rfl⟩ | ⟨i,rfl,rfl⟩ | ⟨a,rfl,rfl⟩
 ·obtain ⟨t,rfl⟩:=(show ∃t,u=Cs i t from ru)
  obtain ⟨t',rfl⟩:=(show ∃t,v=Cs i t from rv)
  have:=CI (A:=A) (s:=s) i t i t'
  rw[beq_self_eq_true] at this
  exact this
 ·obtain ⟨t,rfl⟩:=(show ∃t,u=Value.str i t from ru)
  obtain ⟨t',rfl⟩:=(show ∃t,v=Value.str i t from rv)
  have:=GY (A:=A) (s:=s) i t i t'
  rw[show (i == i)=true by simp] at this
  exact this
 ·cases (show u=AS a from ru)
  cases (show v=AS a from rv)
  exact DD _
theorem uW {pins:List (Addr×Obj)}{σ:St}{H:Hp}{s:Ax}(I:Inv X pins σ H s):∀(n:Nat) (A:BA) (x y:V) (u v:Au),A.units+n<cLine->EqS X.K H n x y->RelV x u->RelV y v->C3 A s u v true
 | 0,A,x,y,u,v,_,h,ru,rv=>gP h ru rv
 | n+1,A,x,y,u,v,hA,h,ru,rv=>by
  rcases h with h | h | h | ⟨a,b,xs,ys,rfl,rfl,hs,p⟩
  ·exact gP (.inl h) ru rv
  ·exact gP (.inr (.inl h)) ru rv
  ·exact gP (.inr (.inr h)) ru rv
  ·cases (show u=AS a from ru)
   cases (show v=AS b from rv)
   by_cases hab:a=b
   ·subst hab;exact DD _
   refine G0 hab ?_
   have ih:∀x y u v,EqS X.K H n x y->RelV x u->RelV y v->C3 A.in1 s u v true:=λx y u v h1 h2 h3=>uW I n A.in1 x y u v (by show A.units+1+n<cLine;omega) h1 h2 h3
   have pl:=C5 p
   rcases hs with ⟨h1,h2⟩ | ⟨h1,h2⟩
   ·obtain ⟨its,r1,p1,_⟩:=I.tuple h1
    obtain ⟨its2,r2,p2,_⟩:=I.tuple h2
    have q:=Fn (e:=λ_=>true) (show s.heap.IsTuple a its.toArray from p1) (show s.heap.IsTuple b its2.toArray from p2) (by omega) (iq p r1 r2 ih)
    have ez:its.toArray.size=its2.toArray.size:=by rw[Aw,Aw, <- r1.length, <- r2.length,pl]
    rw[all_true,ez,beq_self_eq_true] at q
    exact q
   ·obtain ⟨its,r1,p1,_⟩:=I.list h1
    obtain ⟨its2,r2,p2,_⟩:=I.list h2
    have q:=Ez (e:=λ_=>true) p1.isList p2.isList (by rw[Aw,Aw, <- r1.length, <- r2.length,pl]) (by omega) (iq p r1 r2 ih)
    rw[all_true] at q
    exact q
end
end L2
namespace L2.RvT
open PySem PyProof.Rows
open Sem (wp)
section
variable  {prog:AN}{w:Bh}{A:BA}{E:Au->Ax->Prop}{s:Ax}
end
section
variable  {prog:AN}{w:Bh}{A:BA}{E:Au->Ax->Prop}{s:Ax}
end
end L2.RvT
namespace L2
open PySem PySem.Spec PyProof.Rows
section
variable  {X:Cx}
theorem op_eqLI {k:Nat}(hr:bW k X.A):OpR X (Cf .Eq) (λx y H Q=>∃(a b:Addr) (ns ms:List Int),x = .ref a/\y = .ref b/\SqL X.K H a (ns.map V.int)/\SqL X.K H b (ms.map V.int)/\Q (.bl (decide (ns=ms))) H):=by
 intro pins s σ H x y v u Q I rx ry h
 obtain ⟨a,b,ns,ms,rfl,rfl,h1,h2,q⟩:=h
 cases (show v=AS a from rx)
 cases (show u=AS b from ry)
 obtain ⟨its,r1,⟨⟨c1,d1,da1,sl1⟩,n1,e1,k1,_,k3⟩,_⟩:=I.list h1
 obtain ⟨its2,r2,⟨⟨c2,d2,da2,sl2⟩,n2,e2,g1,_,g3⟩,_⟩:=I.list h2
 simp only at k1 k3 g1 g3
 subst k1 k3 g1 g3
 have l1:=r1.length
 have l2:=r2.length
 rw[Aq] at l1 l2
 have hu:=hr.un
 have hu1:X.A.units<cLine:=by omega
 by_cases hl:ns.length=ms.length
 ·refine Es (op :=.Eq) ⟨_,e1,rfl⟩ ⟨_,e2,rfl⟩ GC Gf (FP _ _) (SeqAt.list_eqAt a b its.toArray its2.toArray n1 n2 d1 d2 sl1 sl2 (by rw[Aw,Aw];omega) (yV ns ms)) ⟨e1,e2,?_,?_⟩ hu1
  ·intro j h1 h2
   obtain ⟨t1,g1⟩:=intAt r1 h1
   obtain ⟨t2,g2⟩:=intAt r2 h2
   rw[g1,g2]
   exact CI _ t1 _ t2
  ·have ez:its.toArray.size=ns.length:=by rw[Aw];omega
   rw[ez,uT hl]
   exact ⟨(λz=>nomatch z),⟨.bl _,H,I,rfl,q⟩⟩
 ·have ne:ns≠ms:=λz=>hl (by rw[z])
  rw[decide_eq_false ne] at q
  refine Es (op :=.Eq) ⟨_,e1,rfl⟩ ⟨_,e2,rfl⟩ GC Gf (FP _ _) (FH a b its.toArray its2.toArray n1 n2 d1 d2 sl1 sl2 (by simp;omega)) ⟨e1,e2,?_⟩ hu1
  exact ⟨(λz=>nomatch z),⟨.bl false,H,I,rfl,q⟩⟩
theorem yY {k:Nat}(hr:bW k X.A):OpR X (Cf .Eq) (λx y H Q=>∃a b xs ys,x = .ref a/\y = .ref b/\SqL X.K H a xs/\SqL X.K H b ys/\((xs.length≠ys.length/\Q (.bl false) H)\/(Paired (eX X.K H 20) xs ys/\Q (.bl true) H))):=by
 intro pins s σ H x y v u Q I rx ry h
 obtain ⟨a,b,xs,ys,rfl,rfl,h1,h2,h3⟩:=h
 rcases h3 with ⟨ne,q⟩ | ⟨p,q⟩
 ·cases (show v=AS a from rx)
  cases (show u=AS b from ry)
  obtain ⟨its,r1,⟨⟨c1,d1,da1,sl1⟩,n1,e1,k1,_,k3⟩,_⟩:=I.list h1
  obtain ⟨its2,r2,⟨⟨c2,d2,da2,sl2⟩,n2,e2,g1,_,g3⟩,_⟩:=I.list h2
  simp only at k1 k3 g1 g3
  subst k1 k3 g1 g3
  have l1:=r1.length
  have l2:=r2.length
  have hu:=hr.un
  have hu1:X.A.units<cLine:=by omega
  refine Es (op :=.Eq) ⟨_,e1,rfl⟩ ⟨_,e2,rfl⟩ GC Gf (FP _ _) (FH a b its.toArray its2.toArray n1 n2 d1 d2 sl1 sl2 (by simp;omega)) ⟨e1,e2,?_⟩ hu1
  exact ⟨(λz=>nomatch z),⟨.bl false,H,I,rfl,q⟩⟩
 ·exact wN hr pins s σ H _ _ v u Q I rx ry ⟨a,b,xs,ys,rfl,rfl,h1,h2,p,q⟩
theorem bU:SlR X (λx lo hi H Q=>∃a xs,x = .ref a/\H a=some (.tup xs)/\∀p2 H2,aD H H2->H2 p2=some (.tup (dE xs lo hi))->Q (.ref p2) H2):=by
 intro pins s σ H x v vl vu lo hi sl Q I rx hs pl pu h
 obtain ⟨a,xs,rfl,ep,key⟩:=h
 refine wI pins s σ H _ v vl vu lo hi sl Q I rx hs pl pu ⟨a,xs,rfl,SqT.of ep,λz=>key a H (aD.refl _) ?_,λ_ p2 hp2=>key p2 _ (ag hp2 _) af⟩
 unfold dE
 rw[z.1,z.2,Ew,F8,DY]
 exact ep
theorem cb:OpR X (binaryOp .Add) (λx y H Q=>∃a b xs ys,x = .ref a/\y = .ref b/\H a=some (.tup xs)/\H b=some (.tup ys)/\xs.length+ys.length<=AH/\∀p H',aD H H'->H' p=some (.tup (xs++ys))->Q (.ref p) H'):=by
 intro pins s σ H x y v u Q I rx ry h
 obtain ⟨a,b,xs,ys,rfl,rfl,ha,hb,hz,q⟩:=h
 exact uV pins s σ H _ _ v u Q I rx ry (qM.one ha hb hz q)
end
open PySem PySem.Spec PyProof.Rows
section
variable  {X:Cx}
theorem jM (hc:X.calm=true):cj X (.builtin "min") (λxs H Q=>∃(a:Addr) (ns:List Int),xs=[.ref a]/\SqT X.K H a (ns.map V.int)/\ns≠[]/\∀M:Int,M∈ns->(∀b∈ns,M<=b)->Q (.int M) H):=by
 intro pins s σ H xs us Q I r h
 obtain ⟨a,ns,rfl,hS,hne,q⟩:=h
 obtain ⟨u,rfl,ru⟩:=vals1 r
 cases (show u=AS a from ru)
 obtain ⟨its,r1,p1,_⟩:=I.tuple hS
 obtain ⟨ps,e2,e3⟩:=iO (intsAre_of r1)
 have ei:its.toArray=Gw ps.toArray:=by rw[e2];simp[Gw]
 have hT:s.heap.IsTuple a (Gw ps.toArray):=by
  obtain ⟨o,ho,hc',n,hd⟩:=p1
  exact ⟨o,ho,hc',n,by rw[<- ei];exact hd⟩
 have hz:ps.toArray.size=ns.length:=by rw[Aw, <- e3,Aq]
 have hp:0<ns.length:=List.length_pos_iff.mpr hne
 have ht:ps.toArray.toList.map (·.1)=ns:=e3
 have hal:a<s.heap.objs.size:=by obtain ⟨o,ho,_⟩:=p1;exact AQ ho
 refine call_min_walk (DA hT ?_)
 refine ⟨_,[_,a],[_],_,_,_,_,rfl,IV (A:=X.A.in1) (I.ok.hd hc) _ a (A3 hal) (Gw ps.toArray),⟨⟨_,AX _ rfl,rfl,rfl⟩,hT.push _⟩,λc hc' =>?_,by simp only[Gw,BB];omega,CmpOf.ints_lt (numAt ps.toArray) (λ_ _=>intItems_at),λv h' tk hv hk =>?_⟩
 ·show c<(s.heap.push _).objs.size
  rw[C9]
  rcases AU.mp hc' with rfl | hc'
  ·exact C2 _
  ·rw[AB.mp hc'];exact Cb hal
 ·have k:∀b o,s.heap.get? b=some o->h'.get? b=some o:=λb o e=>hk b o (λhm=>by
   have:=AQ e
   rw[AB.mp hm] at this
   exact B3 _ this) (Az _ e)
  have hsz:(Gw ps.toArray).size=ns.length:=by simp only[Gw,BB];exact hz
  rw[hsz] at hv
  obtain ⟨t,rfl⟩:=intItems_at hv
  obtain ⟨h1,h2⟩:=argBest_lt (numAt ps.toArray) (ns.length-1)
  refine ⟨.int _,H,I.kept k,⟨_,rfl⟩,q _ ?_ λb hb =>?_⟩
  ·rw[IP,ht];exact yW (by omega)
  ·obtain ⟨j,hj,rfl⟩:=yX hb
   have:=h2 j (by omega)
   rw[IP,IP,ht] at this
   rw[IP,ht]
   exact this
end
open PySem PySem.Spec PyProof.Rows SeqAt
theorem kE (l:Addr)(items:Array Au)(n:Nat)(dd:Option Addr)(sl:Array (Option Au))(x:Au)(e:Au->Bool)(j:Nat)(hj:j<items.size)(hit:e items[j]=true)(hno:∀m (hm:m<items.size),m<j->e items[m]=false) :
  Meets (Builtin.«tuple.index» ⟨[.ref l,x],[]⟩)
   (λA R s=>s.heap.get? l=some { cls :=.type "tuple",dict:=dd,data :=.seq items n,slots:=sl }/\(∀y,y∈items->EqAt A.in1 s y x (e y))/\R (.ok (.ret (.int j s.toks))) { s with toks:=s.toks+1 }) :=
 .of_wp λprog w A R s h=>by
  obtain ⟨hl,he,h⟩:=h
  unfold Builtin.«tuple.index»
  refine Ar (GN (a:=(AS l,[x])) rfl ?_)
  refine Ar (PyProof.Rows.tupleItemsOf_ (⟨_,hl,rfl,_,rfl⟩:IsTup s.heap l items) ?_)
  dsimp only
  refine Ar (Ay (Ar (Ay ?_)))
  rw[E4,Gu]
  refine Ar (EH _ (λrest b s'=>s'=s/\b=(none,())/\∃i,rest=List.range' i (items.size-i)/\i<=j) _ ?_ ?_ _ _ ⟨rfl,rfl,0,?_,Bl _⟩)
  ·rintro k rest b s' ⟨rfl,rfl,i,er,hi⟩
   rw[show items.size-i=(items.size-(i+1))+1 by omega,HZ] at er
   injection er with e1 e2
   subst e1
   have hk:k<items.size:=by omega
   rw[A8 hk]
   refine Ar (he _ (Hw hk) prog w _ _ ?_)
   by_cases z:k=j
   ·subst z
    rw[hit]
    refine Ar (Ar (wpAny_mkInt (Ay (Ay ?_))))
    exact Ay ⟨_,rfl,h⟩
   ·rw[hno k hk (by omega)]
    exact Ay ⟨rfl,rfl,k+1,e2,by omega⟩
  ·rintro b s' ⟨rfl,rfl,i,er,hi⟩
   rw[show items.size-i=(items.size-(i+1))+1 by omega,HZ] at er
   cases er
  ·simp[Std.Legacy.Range.size]
section
variable  {X:Cx}
theorem lN:MtR X "tuple.index" (λx vs H Q=>∃(p:Addr) (ns:List Int) (k:Int),x = .ref p/\vs=[.int k]/\H p=some (.tup (ns.map V.int))/\k∈ns/\Q (.int (ns.idxOf k:Nat)) H):=by
 intro pins s σ H x vs v us Q I rx rv h
 obtain ⟨p,ns,k,rfl,rfl,hp,hk,q⟩:=h
 cases rx
 obtain ⟨u,rfl,⟨t,rfl⟩⟩:=vals1 rv
 obtain ⟨z,its,r,ob,e1,⟨c1,d1⟩,n,s1⟩:=(show aZ X.prog X.w H s.heap p (.tup _) from I.hok p _ hp)
 have hi:DJ its ns:=intsAre_of r
 have hlen:=hi.length
 have hj:ns.idxOf k<ns.length:=D8.mpr hk
 obtain ⟨cls,dd,data,sl⟩:=ob
 simp only at c1 s1
 subst c1 s1
 refine EM D9 ⟨_,e1,rfl⟩ PySem.F.entry_tuple_index (PySem.F.args_tuple_index_2 _ _) (kE p its.toArray n dd sl (.int k t) (isInt k) (ns.idxOf k) (by simpa [hlen] using hj) ?_ ?_) ⟨e1,λy hy=>sI hi y hy,⟨.int _,H,I.tok _,⟨_,rfl⟩,q⟩⟩
 ·show isInt k its[ns.idxOf k]=true
  rw[isInt_at k hi _ (by omega) hj];simpa using List.getElem_idxOf hj
 ·intro j hjs hlt
  show isInt k its[j]=false
  rw[isInt_at k hi j (by simpa using hjs) (by omega)]
  simpa using uU (by omega) hlt
end
open PySem PySem.Spec PyProof.Rows
section
variable  {X:Cx}
theorem mI {K:Av}(h:X.K=K:=by rfl):cj X (.builtin "isinstance") (λxs H Q=>∃x T t b,xs=[x,.ty T]/\gy K H x t/\PySem.W.kitOne K t (.type T)=some b/\Q (.bl b) H):=by subst h;exact cD
end
theorem sP {K:Av}{p:Addr}{ts:List (Addr×V×V)}{k l:Nat}{tc:TT}{te:TE}{τ:St}{H:Hp}{Q:VK}(Pv:Nat->List V->Hp->Prop)(hkl:k≠l)(h0:Pv 0 [] H)(hz:ts.length<=AH)
  (hl:∀i ys H,i<=ts.length->Pv i ys H->SqT K H p (ts.map λt =>.ref t.1)/\∀t∈ts,SqT K H t.1 [t.2.1,t.2.2])
  (hs:∀i t ys H,ts[i]? = some t->ys.length<=i->Pv i ys H->xQ k l tc te τ Pv i t.2.1 t.2.2 ys H)
  (hd:∀ys H,ys.length<=ts.length->Pv ts.length ys H->∀r,H r=none->Q (.ref r) (upd H r (.lst ys))):kY (Itt K p) (uh K k l) tc te τ Q H:=by
 refine ⟨λi m σ ys H=>m=ts.length-i/\i<=ts.length/\(∀a b,(σ.set k (some a)).set l (some b)=(τ.set k (some a)).set l (some b))/\ys.length<=i/\Pv i ys H,⟨ts.length,by simp,Bl _,λ_ _=>rfl,AE _,h0⟩,?_⟩
 rintro i m σ ys H ⟨rfl,hi,hτ,hy,pv⟩
 obtain ⟨q,qt⟩:=hl i ys H hi pv
 have ln:(ts.map λt:Addr×V×V=>V.ref t.1).length=ts.length:=Aq _
 by_cases hlt:i<ts.length
 ·have et:ts[i]? = some ts[i]:=AD hlt
  have em:(ts.map λt:Addr×V×V=>V.ref t.1)[i]? = some (.ref ts[i].1):=by rw[AW,et];rfl
  refine .inr ⟨⟨_,_,q,em⟩,λx H' y =>?_⟩
  obtain ⟨e,y⟩:=y
  subst e
  have ex:=y _ q
  rw[em] at ex
  cases ex
  have st:=qt ts[i] (Ds hlt)
  refine ⟨ts[i].1,_,rfl,st,rfl,_,_,rfl,_,_,rfl,rfl,?_⟩
  rw[hτ]
  have hσ:∀a b,((((τ.set k (some ts[i].2.1)).set l (some ts[i].2.2)).set k (some a)).set l (some b))=(τ.set k (some a)).set l (some b):=λa b=>by
   rw[IM _ _ (CK hkl),D5,D5]
  refine hs i ts[i] ys _ et hy pv _ _ (λy4 H4 p4=>⟨by omega,ts.length-(i+1),by omega,rfl,hlt,hσ,by rw[As,Bs];omega,p4⟩) λH3 p3=>⟨ts.length-(i+1),by omega,rfl,hlt,hσ,by omega,p3⟩
 ·have e:i=ts.length:=by omega
  subst e
  exact .inl ⟨⟨_,q,by rw[ln];exact AE _⟩,by omega,hd ys H hy pv⟩
open PySem PySem.Spec PyProof.Rows
section
variable  {X:Cx}
theorem boolsOf:∀{bs:List Bool} {its:List Au},Vals (bs.map V.bl) its->its=bs.map Value.bool
 | [],_,.nil=>rfl
 | b :: bs,_,.cons r t=>by rw[boolsOf t];cases (show _=Value.bool b from r);rfl
theorem sQ:MtR X "list.count" (λx vs H Q=>∃(p:Addr) (bs:List Bool) (k:Bool),x = .ref p/\vs=[.bl k]/\H p=some (.lst (bs.map V.bl))/\Q (.int (bs.count k:Nat)) H):=by
 intro pins s σ H x vs v us Q I rx rv h
 obtain ⟨p,bs,k,rfl,rfl,hp,q⟩:=h
 cases rx
 obtain ⟨u,rfl,ru⟩:=vals1 rv
 cases (show u=Value.bool k from ru)
 obtain ⟨z,its,n,r,e1⟩:=(show aZ X.prog X.w H s.heap p (.lst _) from I.hok p _ hp)
 have ei:=boolsOf r
 subst ei
 refine EM FI ⟨_,e1,rfl⟩ PySem.F.entry_list_count (PySem.F.args_list_count_2 _ _) (SeqAt.list_countAt p _ n _ _ (.bool k) (isBoolOf k)) ⟨e1,λy hy =>?_,?_⟩
 ·have hy':y∈bs.map Value.bool:=by simpa using hy
  obtain ⟨b,_,rfl⟩:=A6.mp hy'
  exact Gx b k
 ·have:(bs.map Value.bool).toArray.toList.countP (isBoolOf k)=bs.count k:=by
   rw[show (bs.map Value.bool).toArray.toList=bs.map Value.bool from rfl,List.countP_map]
   rfl
  rw[this]
  exact ⟨.int _,H,I.tok _,⟨_,rfl⟩,q⟩
end
end L2
namespace Srt
open PySem PyProof.Rows
section
variable  {prog:AN}{w:Bh}{A:BA}{E:Au->Ax->Prop}{s:Ax}{O:EK}{key:Au->O.α}
end
section
variable  {prog:AN}{w:Bh}{s:Ax}
end
end Srt
namespace L2
open PySem PySem.Spec PyProof.Rows
section
variable  {X:Cx}
def uZ (us ws:List (Addr×List Int))(j:Nat):Bool:=decide ((us.map (·.2)).getD j []=(ws.map (·.2)).getD j [])
theorem sR {us ws:List (Addr×List Int)}(h:us.length=ws.length):((Ba us.length).all λj=>uZ us ws j)=decide (us.map (·.2)=ws.map (·.2)):=by
 rw[Co,decide_eq_true_iff,BF]
 constructor
 ·intro hh
  refine EE (by rw[Aq,Aq];exact h) λj h1 h2 =>?_
  have:=of_decide_eq_true (hh j (BG.mpr (by rw[Aq] at h1;exact h1)))
  rw[AK,AK,AD h1,AD h2] at this
  exact this
 ·intro e j _
  exact decide_eq_true (by rw[e])
theorem xU {us:List (Addr×List Int)}{its:List Au}(r:Vals (us.map λu=>V.ref u.1) its){j:Nat}(h:j<its.toArray.size):∃u,us[j]? = some u/\its.toArray[j] = .ref u.1:=by
 have e:=cZ r
 subst e
 rw[Aw,Aq] at h
 exact ⟨us[j],AD h,by simp⟩
theorem qN {k:Nat}(hr:bW k X.A):OpR X (Cf .NotEq) (λx y H Q=>∃(a b:Addr) (us ws:List (Addr×List Int)),x = .ref a/\y = .ref b/\H a=some (.lst (us.map λu =>.ref u.1))/\H b=some (.lst (ws.map λu =>.ref u.1))/\(∀u∈us,H u.1=some (.tup (u.2.map V.int)))/\(∀u∈ws,H u.1=some (.tup (u.2.map V.int)))/\Q (.bl (!decide (us.map (·.2)=ws.map (·.2)))) H):=by
 intro pins s σ H x y v u Q I rx ry h
 obtain ⟨a,b,us,ws,rfl,rfl,h1,h2,t1,t2,q⟩:=h
 cases (show v=AS a from rx)
 cases (show u=AS b from ry)
 obtain ⟨its,r1,p1,_⟩:=I.list (SqL.of (K:=X.K) h1)
 obtain ⟨its2,r2,p2,_⟩:=I.list (SqL.of (K:=X.K) h2)
 have l1:=r1.length
 have l2:=r2.length
 rw[Aq] at l1 l2
 have hu:=hr.un
 have hu1:X.A.units<cLine:=by omega
 by_cases hl:us.length=ws.length
 ·have R:=SeqAt.RcNeAt.lists (A:=X.A) (e:=uZ us ws) p1.isList p2.isList (by rw[Aw,Aw];omega) hu1 (by
   intro j h1 h2
   obtain ⟨u,eu,g1⟩:=xU r1 h1
   obtain ⟨w,ew,g2⟩:=xU r2 h2
   rw[g1,g2]
   have:=I.eqT (A:=X.A.in1) (by rw[Around.in1_units];omega) (SqT.of (t1 u (A0 eu))) (SqT.of (t2 w (A0 ew)))
   unfold uZ
   rw[AK,AK,AW,AW,eu,ew]
   exact this)
  rw[Aw, <- l1,sR hl] at R
  exact R _ _ _ _ ⟨.bl _,H,I,rfl,q⟩
 ·have ne:us.map (·.2)≠ws.map (·.2):=λz=>hl (by have:=congrArg List.length z;simpa using this)
  rw[decide_eq_false ne] at q
  exact SeqAt.RcNeAt.lists_lengths (A:=X.A) p1.isList p2.isList (by simp;omega) hu1 _ _ _ _ ⟨.bl true,H,I,rfl,q⟩
end
open PySem PySem.Spec PyProof.Rows
theorem lO {α β:Type}{f:α -> Option β}{g:α -> β}:∀{l:List α},(∀k∈l,f k=some (g k))->l.filterMap f=l.map g
 | [],_=>rfl
 | x :: l,h=>by
  rw[Ck,h x AM,Bd,lO λk hk=>h k (AL _ hk)]
end L2
namespace HT
open PySem PyProof.Rows
section
variable  {prog:AN}{w:Bh}{A:BA}{E:Au->Ax->Prop}{s:Ax}
theorem pQ (n:Nat):Builtin.Slice.sliceAdjust none none (-1) (n:Int)=((n:Int)-1, -1):=by
 unfold Builtin.Slice.sliceAdjust
 simp
theorem pR (n:Nat):Builtin.Slice.slicePlaces ((n:Int)-1) (-1) (-1)=n:=by
 unfold Builtin.Slice.slicePlaces
 simp
 omega
theorem iu {sl:Addr}{t:Tok}{n:Nat}{Q:Int×Int×Nat->Ax->Prop}(hs:s.heap.IsSliceOf sl .none .none (.int (-1) t))
  (h:Q ((n:Int)-1, -1,n) s):A7 (Bf prog w) A (Builtin.Slice.sliceApplied (.ref sl) (pure (n:Int))) Q E s:=by
 obtain ⟨os,hos,hcs,hds⟩:=id hs
 unfold Builtin.Slice.sliceApplied Builtin.Slice.sliceFields
 refine Ar (Ar (Dd hos hds (x :=.none) rfl (Ar (Dd hos hds (x :=.none) rfl (Ar (Dd hos hds (x :=.int (-1) t) rfl (Ay ?_)))))))
 refine Ar (slicePart_int ?_)
 show A7 _ _ (if ((-1:Int) == 0)=true then _ else _) _ _ s
 rw[if_neg (by decide)]
 refine Ar (Fh (Ar (Fh (Ar (Ay ?_)))))
 show A7 _ _ (match Builtin.Slice.sliceAdjust none none (-1) (n:Int) with | (lo,hi)=>pure (lo,(-1:Int),Builtin.Slice.slicePlaces lo hi (-1))) _ _ s
 rw[pQ n]
 show A7 _ _ (pure ((n:Int)-1,(-1:Int),Builtin.Slice.slicePlaces ((n:Int)-1) (-1) (-1))) _ _ s
 rw[pR]
 exact Ay h
theorem z5 (xs:List Au):((Ba xs.length).filterMap λ(m:Nat)=>xs.toArray[(((xs.length:Int)-1)+(m:Int)*(-1)).toNat]?).toArray=xs.reverse.toArray:=by
 congr 1
 have h1:∀k∈Ba xs.length,xs.toArray[(((xs.length:Int)-1)+(k:Int)*(-1)).toNat]? = some (xs.reverse.getD k .none):=λk hk=>by
  have hk':=BG.mp hk
  have:(((xs.length:Int)-1)+(k:Int)*(-1)).toNat=xs.length-1-k:=by omega
  rw[this,Bv,AK,List.getElem?_reverse hk',AD (show xs.length-1-k<xs.length by omega)]
  rfl
 rw[L2.lO h1]
 apply EE
 ·rw[Aq,BN,Dp]
 ·intro n h2 h3
  rw[List.getElem_map,List.getElem_range,AK,AD h3]
  rfl
theorem gQ {t sl:Addr}{its:List Au}{tk:Tok}{Q:Au->Ax->Prop}(ht:IsTup s.heap t its.toArray)(hs:s.heap.IsSliceOf sl .none .none (.int (-1) tk))
  (h:Q (.ref s.heap.objs.size) { s with heap:=s.heap.push { cls :=.type "tuple",data :=.seq its.reverse.toArray } })
  (hsz:its.length<=AH):A7 (Bf prog w) A (getItem (.ref t) (.ref sl)) Q E s:=by
 have htake:sizeOk (.seq its.reverse.toArray):=by
  show its.reverse.toArray.size<=AH
  rw[Aw,Dp];exact hsz
 obtain ⟨os,hos,hcs,hds⟩:=id hs
 have hTs:s.TypeIs (.ref sl) "slice" :=⟨os,hos,hcs⟩
 unfold getItem
 try with_reducible refine BV ?_
 first | refine Ar (Ay ?_) | skip
 refine Ar (Fy ht.typeIs (by decide) ?_)
 refine Ar (Ce (name:=Str.ofString "__getitem__") ht.typeIs Br
  (BX Br ht.typeIs entry_tuple_getitem ?_ (E5 _ _)))
 show A7 _ _ (Builtin.Tuple.tupleItemsOf (.ref t) >>= _) _ _ s
 refine Ar (Hi ht ?_)
 refine Ar (Dm hTs ?_)
 rw[if_pos (by decide)]
 refine Ar (iu hs ?_)
 have hno:¬ (((((its.toArray.size:Nat):Int)-1) == 0 && (-1:Int) == 1 && its.toArray.size == its.toArray.size)=true):=by
  intro q
  rw[BC,BC] at q
  have:=q.1.2
  revert this
  decide
 show A7 _ _ (if ((((its.toArray.size:Nat):Int)-1) == 0 && (-1:Int) == 1 && its.toArray.size == its.toArray.size)=true then _ else _) _ _ s
 rw[if_neg hno,Aw,z5]
 first
  | exact Ar (m:=Builtin.Tuple.tupleExact _) (BI (Ay ⟨_,rfl,Ay h⟩) htake)
  | exact Ar (m:=Builtin.Tuple.tupleExact _) (BI (Ar (Ay (Ay ⟨_,rfl,Ay h⟩))) htake)
  | exact Ar (Ar (m:=Builtin.Tuple.tupleExact _) (BI (Ay (Ay ⟨_,rfl,Ay h⟩)) htake))
  | exact Ar (Ar (m:=Builtin.Tuple.tupleExact _) (BI (Ay ⟨_,rfl,Ay h⟩) htake))
end
end HT
namespace L2
open PySem PySem.Spec PyProof.Rows
def z6 (K:Av)(te:TE):TE:=λσ H Q=>te σ H λx H1=>∃a xs,x = .ref a/\SqT K H1 a xs/\∀p,H1 p=none->Q (.ref p) (upd H1 p (.tup xs.reverse))
theorem wR {X:Cx}{e:Expr}{te:TE}{j:Nat}{p1 p2 p3 pos:Pos}(he:PE X e te):PE X (.Subscript e (.Slice none none (some (.UnaryOp .USub (.Constant (.int 1) j p1) p3)) p2) pos) (z6 X.K te):=by
 intro pins s σ H Q I h
 refine Subscript_ (thn (he pins s σ H _ I h) λv s1 ⟨x,H1,I1,r1,q1⟩ =>?_)
 obtain ⟨a,xs,rfl,hx,q⟩:=q1
 cases r1
 refine wpAny_Slice ?_
 rw[Hj]
 refine Ay (Ay ?_)
 rw[evalPart_some]
 have un:PE X (.UnaryOp .USub (.Constant (.int 1) j p1) p3) _:=qf mi ai
 refine thn (un pins s1 σ H1 (λy H'=>y = .int (-1)/\H'=H1) I1 ⟨1,rfl,rfl,rfl⟩) λu s2 ⟨y,H2,I2,r2,ey,eH⟩ =>?_
 subst ey eH
 obtain ⟨t,rfl⟩:=r2
 have I4:Inv X pins σ H2 { s2 with heap:=s2.heap.push { cls :=.type "slice",data :=.fields #[.none,.none,.int (-1) t] } }:=I2.kept (t':=s2.toks) λb ob q=>Az _ q
 obtain ⟨its,r,ht,hz⟩:=I4.tuple hx
 have hlen:=r.length
 show A7 (Bf X.prog X.w) X.A (subscriptTail e (.Slice none none (some (.UnaryOp .USub (.Constant (.int 1) j p1) p3)) p2) (.ref a) (.ref s2.heap.objs.size)) (EP X pins σ Q) X.xe { s2 with heap:=s2.heap.push { cls :=.type "slice",data :=.fields #[.none,.none,.int (-1) t] } }
 refine tail_any (ops:=[.ref a,.ref s2.heap.objs.size]) ht.typeIs Br.lookup ?_ (by with_unfolding_all rfl)
 refine HT.gQ ht (GX ..) ?_ (by omega)
 refine ⟨.ref _,_,I4.laid (t':=s2.toks) (o :=.tup xs.reverse) (λb ob q=>Az _ q) (AE _) ?_,rfl,q _ (I4.hok.fresh (AE _))⟩
 exact ⟨by rw[Dp];exact hz,_,Vals.reverse r,dv.new _ _⟩
open PySem PySem.Spec PyProof.Rows
section
variable  {X:Cx}
theorem qO {k:Nat}(hr:bW k X.A):OpR X (Cf .Eq) (λx y H Q=>∃a b xs ys,x = .ref a/\y = .ref b/\SqL X.K H a xs/\SqL X.K H b ys/\((xs.length≠ys.length/\Q (.bl false) H)\/(Paired (EqS X.K H 20) xs ys/\Q (.bl true) H))):=by
 intro pins s σ H x y v u Q I rx ry h
 obtain ⟨a,b,xs,ys,rfl,rfl,h1,h2,h3⟩:=h
 rcases h3 with d | ⟨p,q⟩
 ·exact yY hr pins s σ H _ _ v u Q I rx ry ⟨a,b,xs,ys,rfl,rfl,h1,h2,.inl d⟩
 cases (show v=AS a from rx)
 cases (show u=AS b from ry)
 obtain ⟨us,r1,p1,_⟩:=I.list h1
 obtain ⟨vs,r2,p2,_⟩:=I.list h2
 have un:=hr.un
 have R:=Ez (A:=X.A) (e:=λ_=>true) p1.isList p2.isList (by rw[Aw,Aw, <- r1.length, <- r2.length,C5 p]) (by omega) (iq p r1 r2 λx y u v z1 z2 z3=>uW I 20 _ x y u v (by show X.A.units+1+_<cLine;omega) z1 z2 z3)
 rw[all_true] at R
 exact R _ _ _ _ ⟨.bl true,H,I,rfl,q⟩
end
open PySem PySem.Spec PySem.W PyProof.Rows
theorem aZ.ex {P:AN}{w:Bh}{H:Hp}{h:Heap}{a:Addr}{o:HO}(x:aZ P w H h a o):∃u,h.get? a=some u:=by
 cases o with
 | lst xs=>obtain ⟨_,_,_,_,e⟩:=x;exact ⟨_,e⟩
 | tup xs=>obtain ⟨_,_,_,_,e,_⟩:=x;exact ⟨_,e⟩
 | dK kvs=>obtain ⟨_,_,_,_,o,_,_,e,_⟩:=x;exact ⟨_,e⟩
 | dT kvs=>obtain ⟨_,_,_,_,o,_,_,e,_⟩:=x;exact ⟨_,e⟩
 | set S n=>obtain ⟨o,_,_,_,e,_⟩:=x;exact ⟨_,e⟩
 | ins C dx fs=>obtain ⟨_,_,_,e,_⟩:=x;exact ⟨_,e⟩
 | own y=>obtain ⟨_,e⟩:=x;exact ⟨_,e⟩
 | xd fs=>obtain ⟨_,⟨_,_,_,e,_⟩,_⟩:=x;exact ⟨_,e⟩
 | rng lo hi=>obtain ⟨_,_,_,e⟩:=x;exact ⟨_,e⟩
 | frz ob u=>obtain ⟨e,_⟩:=x;exact ⟨_,e⟩
 | tbl ps=>exact ⟨_,show h.get? a=some _ from x⟩
 | met f y=>exact ⟨_,show h.get? a=some _ from x⟩
 | ext φ=>obtain ⟨_,⟨_,e⟩,_⟩:=x;exact ⟨_,e⟩
theorem HOk.noth {P:AN}{w:Bh}{H:Hp}{h:Heap}{a:Addr}(x:HOk P w H h)(e:h.get? a=none):H a=none:=by
 cases q:H a with
 | none=>rfl
 | some o =>
  obtain ⟨u,z⟩:=(x a o q).ex
  rw[e] at z;cases z
theorem HOk.hide {P:AN}{w:Bh}{H:Hp}{h:Heap}{l:List Addr}(x:HOk P w H h)(n:∀b∈l,H b=none):HOk P w H (hideAll h l):=λa o e =>
 (x a o e).stay (λb u hb q=>FL _ q λm=>by
  have z:=n b m
  rcases hb with rfl | hb
  ·rw[e] at z;cases z
  ·rw[hb] at z;cases z) (λ_ q=>q) λ_ _ q=>q
structure Fly (P:AN)(w:Bh)(outer:List Env)(H H':Hp)(h:Heap)(B:Heap)(ea:Addr)(cls a0:Au)(h':Heap):Prop where
 fl:Heap.FlyingW B outer ea cls a0 h'
 un:Un (frs outer) [] H H' h h'
 ok:HOk P w H' B
 cov:∀b o,h.get? b=some o->H b=none->b∉frs outer->B.get? b=some o
 all:∀b o,h.get? b=some o->b∉frs outer->∃u,B.get? b=some u
section
variable  {P:AN}{w:Bh}{outer:List Env}{H H':Hp}{h B h' h2:Heap}{ea:Addr}{cls a0:Au}
theorem Fly.no (F:Fly P w outer H H' h B ea cls a0 h'):H' ea=none:=F.ok.noth F.fl.2.1
theorem Fly.hok (F:Fly P w outer H H' h B ea cls a0 h'):HOk P w H' h':=F.ok.kept F.fl.1
theorem Fly.new (F:Fly P w outer H H' h B ea cls a0 h'):h.get? ea=none:=by
 cases q:h.get? ea with
 | none=>rfl
 | some o =>
  by_cases m:ea∈frs outer
  ·obtain ⟨_,o',ho',hd⟩:=F.fl.2.2.1.mem m
   obtain ⟨oe,vs,he,_,hde,_⟩:=F.fl.first
   rw[he] at ho';cases ho'
   exact absurd hde (hd vs)
  ·obtain ⟨u,z⟩:=F.all ea o q m
   rw[F.fl.2.1] at z;cases z
theorem Fly.step {l:List Env}(F:Fly P w outer H H' h B ea cls a0 h')(f2:Heap.FlyingW B l ea cls a0 h2)(hs:∀b∈frs outer,∀o,h'.get? b=some o->∃sl,h2.get? b=some { o with slots:=sl }):Un (frs outer) [] H H' h h2 where
 keep:=λb o q n m _=>f2.1 _ _ (F.cov b o q n m)
 slot:=λb o q n m x=>by
  obtain ⟨sl,e⟩:=F.un.slot b o q n m x
  obtain ⟨sl',e'⟩:=hs b m _ e
  exact ⟨sl',e'⟩
 free:=F.un.free
 there:=λb o q x=>by
  by_cases m:b∈frs outer
  ·obtain ⟨o',e⟩:=F.un.there b o q x
   obtain ⟨sl',e'⟩:=hs b m _ e
   exact ⟨_,e'⟩
  ·obtain ⟨u,e⟩:=F.all b o q m
   exact ⟨u,f2.1 _ _ e⟩
 tups:=F.un.tups
 frzs:=F.un.frzs
 tbls:=F.un.tbls
theorem Fly.slots (F:Fly P w outer H H' h B ea cls a0 h')(k:h'.UpToSlots h2):∀b∈frs outer,∀o,h'.get? b=some o->∃sl,h2.get? b=some { o with slots:=sl }:=λb m o e=>by
 obtain ⟨_,o',ho',hd⟩:=F.fl.2.2.1.mem m
 rw[e] at ho';cases ho'
 exact k b o e hd
theorem Fly.on (F:Fly P w outer H H' h B ea cls a0 h')(f2:Heap.FlyingW B outer ea cls a0 h2)(k:h'.UpToSlots h2):Fly P w outer H H' h B ea cls a0 h2 :=
 ⟨f2,F.step f2 (F.slots k),F.ok,F.cov,F.all⟩
end
section
variable  {X:Cx}{pins:List (Addr×Obj)}{σ:St}{H H':Hp}{s:Ax}{B h':Heap}{ea:Addr}{cls a0:Au}
theorem Inv.land {s':Ax}(I:Inv X pins σ H s)(os:s'.os=s.os)(g:AllBare s'.gens)(F:Fly X.prog X.w X.stack H H' s.heap B ea cls a0 s'.heap):Inv X pins σ H' s' :=
 I.xK os F.un F.hok g (λb z=>absurd z (by simp))
theorem Fly.out (I:Inv X pins σ H s)(hst:X.stack=X.env :: X.outer)(hfr:X.env.frame=some X.env.locals)(hex:X.ex=[])(F:Fly X.prog X.w X.stack H H' s.heap B ea cls a0 h')(f2:Heap.FlyingW B X.outer ea cls a0 h2)(k:h'.UpToSlots h2) :
  Fly X.prog X.w X.outer X.H₀ H' X.s₀.heap B ea cls a0 h2:=by
 have nL:∀b o,X.s₀.heap.get? b=some o->b≠X.env.locals:=λb o q z=>absurd (AO (AQ q) (z ▸ I.ok.above)) (B3 _)
 have nst:∀b,b∉X.fs->b≠X.env.locals->b∉frs X.stack:=λb n1 n2 m=>by
  rw[hst] at m
  unfold frs at m
  rw[Ck,hfr] at m
  rcases AU.mp m with z | z
  ·exact n2 z
  ·exact n1 z
 have ust:=F.step f2 (F.slots k)
 have sub:∀b∈X.fs,b∈frs X.stack:=λb m=>by
  rw[hst];unfold frs;rw[Ck,hfr];exact AL _ m
 have nx:∀b,b∉X.ex:=λb m=>by rw[hex] at m;cases m
 refine ⟨f2,⟨λb o q n m _ =>?_,λb o q n m _ =>?_,λb o q n _ =>?_,λb o q _ =>?_,λb xs q=>F.un.tups b xs (I.base.tups b xs q),λb o u q=>F.un.frzs b o u (I.base.frzs b o u q),λb ps q =>?_⟩,F.ok,λb o q n m =>?_,λb o q m =>?_⟩
 ·exact ust.keep b o (I.base.keep b o q n m (nx b)) (I.base.free b o q n (nx b)) (nst b m (nL b o q)) (by simp)
 ·obtain ⟨sl,e⟩:=I.base.slot b o q n m (nx b)
  obtain ⟨sl',e'⟩:=ust.slot b _ e (I.base.free b o q n (nx b)) (sub b m) (by simp)
  exact ⟨sl',e'⟩
 ·obtain ⟨o',e⟩:=I.base.there b o q (nx b)
  exact F.un.free b o' e (I.base.free b o q n (nx b)) (by simp)
 ·obtain ⟨o',e⟩:=I.base.there b o q (nx b)
  exact ust.there b o' e (by simp)
 ·obtain ⟨m1,e1⟩:=I.base.tbls b ps q
  obtain ⟨m2,e2⟩:=F.un.tbls b _ e1
  exact ⟨m1++m2,by rw[e2,GU]⟩
 ·exact F.cov b o (I.base.keep b o q n m (nx b)) (I.base.free b o q n (nx b)) (nst b m (nL b o q))
 ·obtain ⟨o',e⟩:=I.base.there b o q (nx b)
  exact F.all b o' e (nst b m (nL b o q))
theorem Fly.pass {M:Model}{E:Au->Ax->Prop}{Q:Unit->Ax->Prop}{s':Ax}(I:Inv X pins σ H s)(hst:X.stack=X.env :: X.outer)(hfr:X.env.frame=some X.env.locals)(hex:X.ex=[])
  (F:Fly X.prog X.w X.stack H H' s.heap B ea cls a0 s'.heap) (hQ:∀h2,Fly X.prog X.w X.outer X.H₀ H' X.s₀.heap B ea cls a0 h2->Q () { s' with heap:=h2 }):A7 M X.A (leaving X.env (.ref ea)) Q E s':=by
 have fl:=F.fl
 rw[hst] at fl
 exact wpAny_leaves_onW (by rw[I.ok.frames,hst]) hfr fl λh2 f2 k=>hQ h2 (Fly.out I hst hfr hex F f2 k)
theorem Fly.made {M:Model}{E:Au->Ax->Prop}{Q:Unit->Ax->Prop}{s':Ax}{vs:List Au}(I:Inv X pins σ H s)(hst:X.stack=X.env :: X.outer)(hfr:X.env.frame=some X.env.locals)(hex:X.ex=[])
  (hx:Heap.MadeExcOf s.heap s'.heap ea cls vs) (hQ:∀h2 B a0,Fly X.prog X.w X.outer X.H₀ H X.s₀.heap B ea cls a0 h2->Q () { s' with heap:=h2 }):A7 M X.A (leaving X.env (.ref ea)) Q E s':=by
 have ff:=I.stack
 have hin:∀env∈X.stack,∀b,env.frame=some b->b∈frs X.stack:=λenv he b hb=>Ec.mpr ⟨env,he,hb⟩
 have ff':=funFrames_hide ff hin
 have fh:∀b∈frs X.stack,H b=none:=I.mh
 have F0:∀h2 t,Heap.FlyingW (hideAll s.heap (frs X.stack)) X.outer ea cls (.ref t) h2->s'.heap.UpToSlots h2->Fly X.prog X.w X.outer X.H₀ H X.s₀.heap (hideAll s.heap (frs X.stack)) ea cls (.ref t) h2:=λh2 t f2 k=>by
  have nL:∀b o,X.s₀.heap.get? b=some o->b≠X.env.locals:=λb o q z=>absurd (AO (AQ q) (z ▸ I.ok.above)) (B3 _)
  have nst:∀b,b∉X.fs->b≠X.env.locals->b∉frs X.stack:=λb n1 n2 m=>by
   rw[hst] at m
   unfold frs at m
   rw[Ck,hfr] at m
   rcases AU.mp m with z | z
   ·exact n2 z
   ·exact n1 z
  have sub:∀b∈X.fs,b∈frs X.stack:=λb m=>by
   rw[hst];unfold frs;rw[Ck,hfr];exact AL _ m
  have nx:∀b,b∉X.ex:=λb m=>by rw[hex] at m;cases m
  have sl:∀b∈frs X.stack,∀o,s.heap.get? b=some o->∃sl,h2.get? b=some { o with slots:=sl }:=λb m o e=>by
   obtain ⟨_,o',ho',hd⟩:=ff.mem m
   rw[e] at ho';cases ho'
   exact k b o (hx.keeps _ _ e) hd
  refine ⟨f2,⟨λb o q n m _ =>?_,λb o q n m _ =>?_,λb o q n _=>I.base.free b o q n (nx b),λb o q _ =>?_,I.base.tups,I.base.frzs,I.base.tbls⟩,I.hok.hide fh,λb o q n m =>?_,λb o q m =>?_⟩
  ·exact f2.1 _ _ (FL _ (I.base.keep b o q n m (nx b)) (nst b m (nL b o q)))
  ·obtain ⟨s1,e⟩:=I.base.slot b o q n m (nx b)
   obtain ⟨s2,e'⟩:=sl b (sub b m) _ e
   exact ⟨s2,e'⟩
  ·obtain ⟨o',e⟩:=I.base.there b o q (nx b)
   by_cases m:b∈frs X.stack
   ·obtain ⟨s2,e'⟩:=sl b m _ e
    exact ⟨_,e'⟩
   ·exact ⟨o',f2.1 _ _ (FL _ e m)⟩
  ·exact FL _ (I.base.keep b o q n m (nx b)) (nst b m (nL b o q))
  ·obtain ⟨o',e⟩:=I.base.there b o q (nx b)
   exact ⟨o',FL _ e (nst b m (nL b o q))⟩
 rw[hst] at ff'
 refine wpAny_leaves_madeW (base:=hideAll s.heap (frs (X.env :: X.outer))) (by rw[I.ok.frames,hst]) hfr (λb o q=>of_hideAll _ q) ff' hx λh2 t f2 _ _ k =>?_
 rw[<- hst] at f2
 exact hQ h2 _ _ (F0 h2 t f2 k)
end
open PySem PySem.Spec PySem.W PyProof.Rows
section
variable  {P:AN}{w:Bh}{K:Av}{mg:Str->Option Au}{base:Heap}{N:List Str}{qual:Str}{sc:Scope}{f:Addr}{cdv:Au}{A:BA}{outer:List Env}{s₀:Ax}{H₀:Hp}{E:XK}
def z7 (X:Cx)(E:XK):Prop:=∀(pins:List (Addr×Obj)) (σ:St) (H:Hp) (s:Ax) (h':Heap) (ea:Addr) (cls:Au) (vs:List Au),Inv X pins σ H s->Heap.MadeExcOf s.heap h' ea cls vs->E cls none H->X.xe (.ref ea) { s with heap:=h' }
end
abbrev u0:List Au:=[.type "ValueError",.type "Exception",.type "BaseException",.type "object"]
structure ExC (K:Av)(mg:Str->Option Au)(x:Str)(C:Addr):Prop where
 ex:excIn K C u0 "ValueError.__new__" = true
 mg:mg x=some (.ref C)
theorem yZ {K:Av}{h:Heap}{C:Addr}{bs:List Au}{nid:String}(X:K.In h)(q:excIn K C bs nid=true) :
  ∃bm N nm q bs' hd sn sub ab col dd k0 k1 k2 k3 k5 mN,h.get? C=some (excClassObj nm q C N bs' bm hd sn sub ab col dd k0 k1 k2 k3 k5 nid)/\h.Ns N mN/\mN "__init__" = none/\OwnTail h bs bm:=by
 unfold excIn at q
 split at q
 ·rename_i d1 c1 sl1 l1
  split at q
  ·rename_i C1 b1 j0 j1 j2 j3 n1 j5 m1 s1
   simp only[BC,beq_iff_eq,Bool.not_eq_true'] at q
   obtain ⟨⟨⟨⟨⟨rfl,rfl⟩,q1⟩,q2⟩,q3⟩,q4⟩:=q
   obtain ⟨a1,a2,a3,a4,a5,a6,a7,a8,a9,a10,a11⟩:=c1
   dsimp only at m1 q1 q3 q4
   subst m1 q1
   obtain ⟨ll⟩:=sl1
   simp only at s1
   subst s1
   exact ⟨b1,a4,a1,a5,a2,a6,a7,a8,a9,a10,d1,j0,j1,j2,j3,j5,_,X _ _ l1,.of_isNs (isNs_of_in X q3),nsMap_none_of_in X q3 q4,tail_of_in X q2⟩
  ·cases q
 ·cases q
def y3 (E:XK)(cls:Au)(t:TA):TS:=λ_ σ H=>t σ H λvs H1=>vs.length<=AH/\E cls none H1
theorem va {X:Cx}{E:XK}{C:Addr}{x:Str}{e:Expr}{es:List Expr}{t:TA}{np cpos pos:Pos}(O:z7 X E)(hc:ExC X.K X.mg x C)(hh:X.A.handled=none)(hg:Gl X x)(ha:PA X (e :: es) t)
  (hdb:(x == ("__debug__" : Str))=false:=by decide) (he:BD (e :: es) X.env=(false,eval e X.env) :: BD es X.env:=by rfl) (hpl:(DV cpos (BD es X.env)).any (·.1)=false:=by rfl) :
  PS X (.Raise (some (.Call (.Name x np) (e :: es) [] cpos)) none pos) (y3 E (.ref C) t):=by
 intro pins s σ H D I h
 obtain ⟨bm,N,nm,q,bs',hd,sn,sub,ab,col,dd,k0,k1,k2,k3,k5,mN,hC,hN,hni,T⟩:=yZ I.mod.kin hc.ex
 have hpl':(DV cpos (BD (e :: es) X.env)).any (·.1)=false:=by
  rw[he]
  show (false || (DV cpos (BD es X.env)).any (·.1))=false
  rw[hpl];rfl
 refine wpAny_Raise_call_subT (nm:=nm) (q:=q) (N:=N) (bs:=bs') (bm:=bm) (hdct:=hd) (sn:=sn) (sub:=sub) (ab:=ab) (col:=col) (dd:=dd) (k0:=k0) (k1:=k1) (k2:=k2) (k3:=k3) (k5:=k5) (mN:=mN)
  Gz (T.hasType Gz.hasBase) hh hpl' hni (gw I hg hc.mg ⟨rfl,?_⟩ hdb)
 have hs:=ha cpos pins s σ H _ I h
 rw[he] at hs ⊢
 refine EI (Cg hs (λus s2 ⟨vs,H1,I1,r,z,qE⟩=>⟨rfl,by rw[<- r.length];exact z,I1.bk _ _ hC,hN.keeps I1.bk,T.keeps I1.bk,λh' ea hx=>O pins σ H1 s2 h' ea _ _ I1 hx qE⟩) λ_ _ y=>y)
open PySem PySem.Spec PySem.W PyProof.Rows
abbrev Cx.mark (X:Cx)(ea:Addr):Cx:={ X with A:=X.A.mark (some (.ref ea)),calm:=false,xe:=λ_ _=>False }
section
variable  {X:Cx}{pins:List (Addr×Obj)}{σ:St}{H H':Hp}{s s':Ax}{B h':Heap}{ea:Addr}{cls a0:Au}
theorem Inv.mark (I:Inv X pins σ H s)(ea:Addr):Inv (X.mark ea) pins σ H s :=
 ⟨⟨I.ok.mod,I.ok.kind,I.ok.glob,I.ok.blt,I.ok.above,I.ok.inj,I.ok.has,I.ok.cab,(λz=>Bool.noConfusion z),I.ok.frames,I.ok.stk,I.ok.exf,I.ok.bs,I.ok.bsz,I.ok.noex,I.ok.exfs,I.ok.funs,I.ok.frf⟩,I.os,I.bare,I.base,I.loc,I.cell,I.free,I.freeC,I.pin,I.hok,I.len⟩
theorem Inv.unmark (ok:X.Ok)(I:Inv (X.mark ea) pins σ H s):Inv X pins σ H s:=⟨ok,I.os,I.bare,I.base,I.loc,I.cell,I.free,I.freeC,I.pin,I.hok,I.len⟩
theorem Inv.gone {i:Nat}{x:Str}{m:Str->Option Au}{v:Option Au}{tk:Nat}(I:Inv X pins σ H s)(hN:X.N.Nodup)(hi:X.N[i]? = some x)(hn:s.heap.Ns X.env.locals m)(hl:∀(j:Nat) (y:Str) (v:V),X.N[j]? = some y->σ[j]? = some (some v)->Vis X.env.scope y->∃u,RelV v u/\Look X.env s.heap m y u)
  (hn':h'.Ns X.env.locals (λy=>if y=x then v else m y)) (hs:Heap.SameBut X.env.locals s.heap h'):Inv X pins (σ.set i none) H { s with heap:=h',toks:=tk }:=by
 obtain ⟨oL,_,_,hoL,_⟩:=id hn
 have cne:=I.cne
 have lt:∀b o,X.s₀.heap.get? b=some o->b≠X.env.locals:=λb o e=>A3 (AO (AQ e) I.ok.above)
 refine ⟨I.ok,I.os,I.bare,⟨λb o e n hb hx =>?_,λb o e n hb hx =>?_,I.base.free,λb o e hx =>?_,I.base.tups,I.base.frzs,I.base.tbls⟩,⟨_,hn',λj y v' e1 e2 e3 =>?_⟩,λy c e =>?_,I.free,I.freeC,λp hp =>?_,λb ob e =>?_,by simpa using I.len⟩
 ·exact (hs.2 b (lt b o e)).trans (I.base.keep b o e n hb hx)
 ·obtain ⟨sl,e1⟩:=I.base.slot b o e n hb hx
  exact ⟨sl,(hs.2 b (lt b o e)).trans e1⟩
 ·obtain ⟨o',e1⟩:=I.base.there b o e hx
  exact ⟨o',(hs.2 b (lt b o e)).trans e1⟩
 ·by_cases hj:j=i
  ·subst hj
   have:j<σ.length:=by rw[I.len];exact (AG.mp hi).1
   rw[Cz this] at e2
   cases e2
  ·rw[De (CK hj)] at e2
   obtain ⟨u',r',q⟩:=hl j y v' e1 e2 e3
   refine ⟨u',r',?_⟩
   rcases q with ⟨k,e⟩ | ⟨k,c,e,z⟩
   ·have:y≠x:=λe=>hj (i9 hN e1 (e ▸ hi))
    exact .inl ⟨k,by simp[this,e]⟩
   ·exact .inr ⟨k,c,e,z.sameBut hs (cne y c e)⟩
 ·obtain ⟨w',z⟩:=I.cell y c e
  exact ⟨w',z.sameBut hs (cne y c e)⟩
 ·obtain ⟨e,n,ne,nf,d⟩:=I.pin p hp
  exact ⟨(hs.2 p.1 ne).trans e,n,ne,nf,d⟩
 ·have fr:=I.free
  refine (I.hok b ob e).stay (λc w' hc q=>(hs.2 c ?_).trans q) (λ_ q=>q) λ_ _ q=>q
  rintro rfl
  rcases hc with rfl | hc
  ·rw[fr] at e;cases e
  ·rw[fr] at hc;cases hc
end
abbrev EXt:=Au->St->Hp->Prop
def XP (X:Cx)(pins:List (Addr×Obj))(EX:EXt)(e:Au)(s':Ax):Prop :=
 ∃σ H s ea cls a0 B H',Inv X pins σ H s/\e = .ref ea/\s'.os=s.os/\AllBare s'.gens/\Fly X.prog X.w X.stack H H' s.heap B ea cls a0 s'.heap/\EX cls σ H'
section
variable  {X:Cx}{pos:Pos}
end
open PySem PySem.Spec PySem.W PyProof.Rows
structure ExI (K:Av)(C:Addr):Prop where
 ga:findIn K (.ref C) "__getattribute__" = some (some (.builtin "BaseException.__getattribute__"))
 gt:findIn K (.ref C) "__getattr__" = some none
 cl:findIn K (.ref C) "__class__" = some (some (.builtin "object.__class__"))
 mo:subIn K (.ref C) (.type "object")=some true
 sb:subIn K (.ref C) (.type "BaseException")=some true
 it:(clsIn K C).isSome=true
section
variable  {K:Av}{prog:AN}{w:Bh}{A:BA}{E:Au->Ax->Prop}{h:Heap}{g:Array GenState}{d:Drawn}{t:Nat}{os:OsState}{a C:Addr}{o:Obj}
theorem y6 {R:Result->Ax->Prop}(X:K.In h)(Z:ExI K C)(hx:h.get? a=some o)(hc:o.cls = .ref C)(hq:R (.ok (.ret (.ref C))) ⟨h,g,d,t,os⟩) :
  FN (Bf prog w) A (.call (.builtin "getset_descriptor.__get__") ⟨[.builtin "object.__class__",.ref a,.ref C],[]⟩) R ⟨h,g,d,t,os⟩:=by
 have hT5:(⟨h,g,d,t,os⟩:Ax).TypeIs (.builtin "object.__class__") "getset_descriptor" := Ex
 have L1:Looks (Bf prog w) h (isSubtype (.ref C) (.type (".".intercalate ("object.__class__".cutAt '.').dropLast))) true:=by rw[F.owner_object_class];exact looks_subIn X Z.mo
 refine DS He.plain F.entry_gs_get (He.check _ _ _ _ _ _ _ _ hT5 (F.args_gs_get _ _ _) ?_)
 repeat (any_goals (first | assumption | (with_reducible refine DQ hx ?_;rw[hc]) | with_reducible refine L1.at ?_ | wp_step))
 refine ⟨Ei _ (by decide +kernel),B9 F.entry_object_class ?_⟩
 unfold Builtin.«object.__class__»
 repeat (any_goals (first | assumption | (with_reducible refine DQ hx ?_;rw[hc]) | wp_step))
theorem vb {tk:Tok}{Q:Fin->Ax->Prop}(X:K.In h)(Z:ExI K C)(hx:h.get? a=some o)(hc:o.cls = .ref C)(hq:Q (.done (.ret (.ref C))) ⟨h,g,d,t,os⟩) :
  A7 (Bf prog w) A (Builtin.«object.__getattribute__» ⟨[.ref a,.str "__class__" tk],[]⟩) Q E ⟨h,g,d,t,os⟩:=by
 have hT5:(⟨h,g,d,t,os⟩:Ax).TypeIs (.builtin "object.__class__") "getset_descriptor" := Ex
 have f5:=Ex
 have f6:=He.lookup
 have f7:=F.slot_gs_set.lookup
 have L1:=HQ (M:=Bf prog w) X Z.cl
 repeat (any_goals (first | assumption | (with_reducible refine DQ hx ?_;rw[hc]) | with_reducible refine L1.at ?_ | wp_step))
 refine y6 X Z hx hc ?_
 repeat (any_goals (first | assumption | wp_step))
theorem vc {M:Model}{nv:Au}{Q:Unit->Ax->Prop}(X:K.In h)(Z:ExI K C)(hx:h.get? a=some o)(hc:o.cls = .ref C)(hq:Q () ⟨h,g,d,t,os⟩):A7 M A (checkBuiltinCall "BaseException.__getattribute__" ⟨[.ref a,nv],[]⟩) Q E ⟨h,g,d,t,os⟩:=by
 have k1:builtinKind "BaseException.__getattribute__" = some .slot:=by decide +kernel
 have k2:splitId "BaseException.__getattribute__" = some ("BaseException", "__getattribute__"):=by decide +kernel
 have L1:=looks_subIn (M:=M) X Z.sb
 have k3:=F.args_bexc_ga (.ref a) nv
 simp only[checkBuiltinCall,k1,k2]
 refine Ar ?_
 unfold isInstance
 repeat (first | (with_reducible refine DQ hx ?_;rw[hc]) | with_reducible refine L1.at ?_ | wp_step)
 exact hq
theorem wU {Q:Option Au->Ax->Prop}(X:K.In h)(Z:ExI K C)(hx:h.get? a=some o)(hc:o.cls = .ref C)(hq:Q (some (.ref C)) ⟨h,g,d,t+1,os⟩) :
  A7 (Bf prog w) A (getAttr? (.ref a) "__class__") Q E ⟨h,g,d,t,os⟩:=by
 have f3:=(Gg).ga.bind (.ref a)
 have y2:(Value.builtin "BaseException.__getattribute__" == Value.builtin "object.__getattribute__")=false:=by decide +kernel
 have y1:(onTheHeap (AS C) && Value.builtin "BaseException.__getattribute__" == Value.builtin "object.__getattribute__")=false:=by rw[y2];rfl
 have L1:=HQ (M:=Bf prog w) X Z.ga
 have L2:=HQ (M:=Bf prog w) X Z.gt
 unfold getAttr? getAttrBy?
 repeat (any_goals (first | assumption | (with_reducible refine DQ hx ?_;rw[hc]) | with_reducible refine L1.at ?_ | with_reducible refine L2.at ?_ | wp_step))
 refine DS (Gg).ga.plain F.entry_bexc_ga (vc X Z hx hc (vb X Z hx hc ?_))
 repeat (any_goals (first | assumption | wp_step))
end
open PySem PySem.Spec PySem.W PyProof.Rows
theorem vd {K:Av}{a C:Addr}(Z:ExI K C):KitX K (.ref a) (.ref C) (λh=>∃o,h.get? a=some o/\o.cls = .ref C) where
 ty:=λM h _ p=>by
  obtain ⟨o,h1,h2⟩:=p
  exact h2 ▸ (Looks.ld h1).andThen .now
 it:=λ_ _ X _=>by
  have z:=Z.it
  unfold clsIn at z
  split at z
  ·rename_i c' d' cd' sl' ho
   intro A' Q' E' s' k q
   unfold isType loadHead
   exact Ar (wpAny_loadPart (k _ _ (X _ _ ho)) (Ay q))
  ·cases z
 ne:=λh tp dd its n sl X htp=>by
  have z:=Z.it
  refine Hv.mpr λq =>?_
  have e:C=tp:=Value.ref.inj (beq_iff_eq.mp q)
  subst e
  unfold clsIn at z
  split at z
  ·rename_i c' d' cd' sl' ho
   have y:=(X _ _ ho).symm.trans htp
   cases y
  ·cases z
 ca:=λ{_ _ _ _ _ s} X p k=>by
  obtain ⟨h,g,d,t,os⟩:=s
  obtain ⟨o,h1,h2⟩:=p
  exact wU X Z h1 h2 k
def z8:V->Au
 | .ref a =>.ref a
 | .ty n =>.type n
 | _ =>.none
def xV:V->Bool
 | .ref _=>true
 | .ty _=>true
 | _=>false
theorem wV {x:V}{u:Au}(h:xV x=true)(r:RelV x u):u=z8 x:=by
 cases x <;> first | exact r | cases h
section
variable  {X:Cx}
end
open PySem PySem.Spec PySem.W PyProof.Rows
def Keeps {α:Type}:Sem α -> Prop
 | .pure _=>True
 | .raise _=>True
 | .unsupported _=>True
 | .finish _=>True
 | .rule _ k=>Keeps (k ())
 | .at _ k=>Keeps (k ())
 | .load _ _ k=>∀o,Keeps (k o)
 | .update _ _ f k=>(∀o:Obj,(f o).cls=o.cls/\(f o).dict=o.dict/\(f o).isFreed=o.isFreed)/\Keeps (k ())
 | .alloc _ k=>∀a,Keeps (k a)
 | .loadIfAlive _ k=>∀o,Keeps (k o)
 | .point _ k=>Keeps (k ())
 | .register _ _=>True
 | .fresh k=>∀t,Keeps (k t)
 | .ask k=>∀t,Keeps (k t)
 | .choose _ _ k=>∀t,Keeps (k t)
 | .os _ _ k=>∀t,Keeps (k t)
 | .call _ _ _ _ _=>False
 | .handled _ k=>∀t,Keeps (k t)
 | .newGen _ k=>∀t,Keeps (k t)
 | .genState _ k=>∀t,Keeps (k t)
 | .resume _ _ _ _=>False
 | .yield _ _ _ _=>True
 | .stack k=>∀t,Keeps (k t)
 | .fork _ _=>True
 | .thread k=>∀t,Keeps (k t)
 | .await _ _ _ _ _=>True
def Kd (h h':Heap):Prop:=∀b o,h.get? b=some o->∃o',h'.get? b=some o'/\o'.cls=o.cls/\o'.dict=o.dict
theorem Kd.refl (h:Heap):Kd h h:=λb o e=>⟨o,e,rfl,rfl⟩
theorem Kd.trans {h h1 h2:Heap}(a:Kd h h1)(b:Kd h1 h2):Kd h h2:=λc o e=>by
 obtain ⟨o1,e1,c1,d1⟩:=a c o e
 obtain ⟨o2,e2,c2,d2⟩:=b c o1 e1
 exact ⟨o2,e2,c2.trans c1,d2.trans d1⟩
theorem ve {h:Heap}{a:Addr}{o:Obj}(e:h.get? a=some o):o.isFreed=false:=by
 unfold Heap.get? at e
 split at e
 ·cases e
 ·rename_i n
  obtain ⟨c,d,x,s⟩:=o
  cases x <;> first | rfl | exact absurd e (n _ _ _)
theorem Kd.update {h:Heap}{a:Addr}{f:Obj->Obj}(hf:∀o:Obj,(f o).cls=o.cls/\(f o).dict=o.dict/\(f o).isFreed=o.isFreed):Kd h (h.update a f):=λb o e=>by
 by_cases c:a=b
 ·subst c
  exact ⟨f o,Cn f e ((hf o).2.2.trans (ve e)),(hf o).1,(hf o).2.1⟩
 ·exact ⟨o,by rw[B2 _ _ c];exact e,rfl,rfl⟩
theorem Kd.push (h:Heap)(u:Obj):Kd h (h.push u):=λb o e=>⟨o,Az _ e,rfl,rfl⟩
theorem vf {α:Type}{M:Model}{Γ:PySem.Ctx}{t:Sem α}{Q:α -> Pos->Ax->Prop}{E:Au->Pos->Ax->Prop}(K:Keeps t)(p:Pos)(s:Ax)(h:Sem.wp M Γ t Q E p s) :
  Sem.wp M Γ t (λa p' s'=>Q a p' s'/\Kd s.heap s'.heap) (λe p' s'=>E e p' s'/\Kd s.heap s'.heap) p s:=by
 induction t generalizing p s with
 | pure x=>exact ⟨h,Kd.refl _⟩
 | raise v=>exact ⟨h,Kd.refl _⟩
 | unsupported _ | finish _ | yield _ _ _ _ | fork _ _ | await _ _ _ _ _ | register _ _=>exact h
 | rule _ k ih=>exact ih () K _ _ h
 | «at» _ k ih=>exact ih () K _ _ h
 | point _ k ih=>exact ih () K _ _ h
 | alloc u k ih =>
  refine Sem.wp_mono M Γ _ (λa p' s' x=>⟨x.1,(Kd.push _ u).trans x.2⟩) (λa p' s' x=>⟨x.1,(Kd.push _ u).trans x.2⟩) _ _ (ih _ (K _) _ _ h)
 | loadIfAlive _ k ih=>exact ih _ (K _) _ _ h
 | fresh k ih=>exact ih _ (K _) _ _ h
 | ask k ih=>exact ih _ (K _) _ _ h
 | os _ _ k ih=>exact ih _ (K _) _ _ h
 | handled _ k ih=>exact ih _ (K _) _ _ h
 | newGen _ k ih=>exact ih _ (K _) _ _ h
 | stack k ih=>exact ih _ (K _) _ _ h
 | thread k ih=>exact ih _ (K _) _ _ h
 | load a _ k ih =>
  obtain ⟨o,ho,h'⟩:=h
  exact ⟨o,ho,ih _ (K _) _ _ h'⟩
 | genState a k ih =>
  obtain ⟨o,ho,h'⟩:=h
  exact ⟨o,ho,ih _ (K _) _ _ h'⟩
 | update a _ f k ih =>
  obtain ⟨ho,h'⟩:=h
  exact ⟨ho,Sem.wp_mono M Γ _ (λa p' s' x=>⟨x.1,(Kd.update K.1).trans x.2⟩) (λa p' s' x=>⟨x.1,(Kd.update K.1).trans x.2⟩) _ _ (ih _ K.2 _ _ h')⟩
 | choose _ _ k ih =>
  obtain ⟨ho,h'⟩:=h
  exact ⟨ho,ih _ (K _) _ _ h'⟩
 | call c h' g l k ih=>exact K.elim
 | resume g r l k ih=>exact K.elim
theorem dh {α:Type}{M:Model}{A:BA}{t:Sem α}{Q:α -> Ax->Prop}{E:Au->Ax->Prop}{s:Ax}(K:Keeps t)(h:A7 M A t Q E s) :
  A7 M A t (λa s'=>Q a s'/\Kd s.heap s'.heap) (λe s'=>E e s'/\Kd s.heap s'.heap) s:=λΓ p hΓ=>vf K p s (h Γ p hΓ)
theorem Keeps.bind {α β:Type}{m:Sem α}{f:α -> Sem β}(hm:Keeps m)(hf:∀a,Keeps (f a)):Keeps (m >>= f):=by
 show Keeps (Sem.bind m f)
 induction m with
 | pure x=>exact hf x
 | raise v=>exact hm
 | unsupported _ | finish _ | yield _ _ _ _ | fork _ _ | await _ _ _ _ _ | register _ _=>exact True.intro
 | rule _ k ih=>exact ih () hm
 | «at» _ k ih=>exact ih () hm
 | point _ k ih=>exact ih () hm
 | alloc u k ih=>exact λa=>ih a (hm a)
 | loadIfAlive _ k ih=>exact λa=>ih a (hm a)
 | fresh k ih=>exact λa=>ih a (hm a)
 | ask k ih=>exact λa=>ih a (hm a)
 | os _ _ k ih=>exact λa=>ih a (hm a)
 | handled _ k ih=>exact λa=>ih a (hm a)
 | newGen _ k ih=>exact λa=>ih a (hm a)
 | stack k ih=>exact λa=>ih a (hm a)
 | thread k ih=>exact λa=>ih a (hm a)
 | load a _ k ih=>exact λa=>ih a (hm a)
 | genState a k ih=>exact λa=>ih a (hm a)
 | update a _ f' k ih=>exact ⟨hm.1,ih () hm.2⟩
 | choose _ _ k ih=>exact λa=>ih a (hm a)
 | call c h' g l k ih=>exact hm.elim
 | resume g r l k ih=>exact hm.elim
theorem jN (f:Array Au->Array Au)(o:Obj):(Obj.mapFields f o).cls=o.cls/\(Obj.mapFields f o).dict=o.dict/\(Obj.mapFields f o).isFreed=o.isFreed:=by
 obtain ⟨c,d,x,s⟩:=o
 cases x <;> exact ⟨rfl,rfl,rfl⟩
theorem jO (v:Au):Keeps (fieldsOf v):=by
 unfold fieldsOf
 cases v with
 | ref a =>
  refine Keeps.bind (m:=load a) (λ_=>True.intro) λo =>?_
  cases o.data <;> exact True.intro
 | _=>exact True.intro
theorem di (v:Au)(i:Nat):Keeps (field v i):=by
 unfold field
 refine Keeps.bind (jO v) λvs =>?_
 split <;> exact True.intro
theorem gR (a:Addr)(i:Nat)(x:Au):Keeps (updateField a i x):=by
 unfold updateField
 refine Keeps.bind (m:=load a) (λ_=>True.intro) λo =>?_
 cases o.data with
 | fields vs =>
  show Keeps (if i<vs.size then update a (Obj.mapFields (·.setIfInBounds i x)) else unsupported "internal:no-such-field")
  split
  ·exact ⟨jN _,True.intro⟩
  ·exact True.intro
 | _=>exact True.intro
theorem da (v:Au)(i:Nat)(x:Au):Keeps (setField v i x):=by
 unfold setField
 cases v with
 | ref a=>exact gR a i x
 | _=>exact True.intro
theorem cK (e:Au)(fr:Option Addr):Keeps (setFlight e fr):=by
 unfold setFlight
 refine Keeps.bind (di e 1) λtb =>?_
 split
 ·exact da _ _ _
 ·exact True.intro
open PySem PySem.Spec PySem.W PyProof.Rows
theorem fc:Keeps stack:=λ_=>True.intro
theorem mJ:Keeps underTheClaimsCaller:=by
 unfold underTheClaimsCaller
 exact Keeps.bind fc λ_=>True.intro
theorem jP (env:Env)(outer:List Env):Keeps (behindIsImport env outer):=by
  unfold behindIsImport
  split
  · exact True.intro
  · show Keeps (if env.code == .none then pure true else do return (← field env.code 12) == .none)
    split
    · exact True.intro
    · exact Keeps.bind (di _ _) λ_=>True.intro
theorem pU (env:Env)(i:Bool)(l:List Env):Keeps (keptBack env i l):=by
 unfold keptBack
 cases l with
 | nil =>
  show Keeps (if _ then _ else _)
  split
  ·exact True.intro
  ·exact Keeps.bind mJ λ_=>True.intro
 | cons c l=>exact True.intro
theorem iR:∀l:List Env,Keeps (readyFrames l)
 | []=>True.intro
 | env :: outer=>by
  unfold readyFrames
  cases env.frame with
  | none=>exact True.intro
  | some f =>
   refine Keeps.bind (m:=load f) (λ_=>True.intro) λo =>?_
   split
   ·exact True.intro
   ·refine Keeps.bind (jP env outer) λi=>Keeps.bind (pU env i outer) λb =>?_
    exact ⟨λo=>⟨rfl,rfl,by obtain ⟨c,d,x,s⟩:=o;cases x <;> rfl⟩,iR outer⟩
theorem gS (l:List Env):Keeps (frameObject l):=by
 unfold frameObject
 cases l with
 | nil=>exact True.intro
 | cons env outer=>exact Keeps.bind (iR _) λ_=>True.intro
theorem kF (env:Env):Keeps (PySem.frameOf env):=by
 unfold PySem.frameOf frameEnvs
 refine Keeps.bind (Keeps.bind fc λ_=>True.intro) λes=>Keeps.bind (gS _) λr =>?_
 cases r <;> exact True.intro
theorem oi (f:Addr)(b:Bool):Keeps (entryPlaceOf f b):=by
 unfold entryPlaceOf
 refine Keeps.bind fc λacts =>?_
 split <;> exact True.intro
theorem iV (ty:String)(vs:List Au):Keeps (newFields ty vs):=by
 unfold newFields newObj newObjAsIs
 show Keeps (if _ then _ else _)
 split
 ·exact True.intro
 ·exact λa=>True.intro
theorem oj (n f l fl la:Au)(p:List Au):Keeps (EntryCells.newEntry n f l fl la p):=by
 unfold EntryCells.newEntry
 exact iV _ _
theorem eQ (e:Au)(env:Env):Keeps (noteFrame e env):=by
  unfold noteFrame
  cases env.frame with
  | none=>exact True.intro
  | some f =>
    refine Keeps.bind (di e 1) λhead =>?_
    have rest:Keeps (do setField e 1 (← EntryCells.newEntry head (← PySem.frameOf env) .none (E8 f) .none (← entryPlaceOf f (head != .none)))) :=
      Keeps.bind (kF env) λa=>Keeps.bind (oi f _) λpl=>Keeps.bind (oj _ _ _ _ _ _) λb=>da _ _ _
    show Keeps (if _ then _ else _)
    split
    · refine Keeps.bind (di head 3) λx =>?_
      split
      · exact True.intro
      · exact Keeps.bind (da _ _ _) λ_=>rest
    · exact rest
theorem kG (env:Env)(e:Au):Keeps (leaving env e):=by
 unfold leaving
 exact Keeps.bind (eQ e env) λ_=>cK e none
open PySem PySem.Spec PySem.W PyProof.Rows
def XD (h:Heap)(ea:Addr)(d:Option Addr):Prop:=∀dx,d=some dx->∃o,h.get? ea=some o/\o.dict=some dx
theorem XD.kd {h h':Heap}{ea:Addr}{d:Option Addr}(k:Kd h h')(x:XD h ea d):XD h' ea d:=λdx e=>by
 obtain ⟨o,a,b⟩:=x dx e
 obtain ⟨o',a',_,b'⟩:=k ea o a
 exact ⟨o',a',b'.trans b⟩
theorem XD.nil (h:Heap)(ea:Addr):XD h ea none:=λ_ e=>by cases e
def CX2 (P:AN)(w:Bh):CXT:=λouter H s E e s'=>∃ea cls a0 B H' d,e = .ref ea/\s'.os=s.os/\AllBare s'.gens/\Fly P w outer H H' s.heap B ea cls a0 s'.heap/\XD s'.heap ea d/\E cls d H'
section
variable  {X:Cx}{pins:List (Addr×Obj)}{σ:St}{H H':Hp}{s:Ax}{B h':Heap}{ea:Addr}{cls a0:Au}
theorem Fly.z9 {M:Model}{E:Au->Ax->Prop}{Q:Unit->Ax->Prop}{s':Ax}(I:Inv X pins σ H s)(hst:X.stack=X.env :: X.outer)(hfr:X.env.frame=some X.env.locals)(hex:X.ex=[])
  (F:Fly X.prog X.w X.stack H H' s.heap B ea cls a0 s'.heap) (hQ:∀h2,Fly X.prog X.w X.outer X.H₀ H' X.s₀.heap B ea cls a0 h2->Kd s'.heap h2->Q () { s' with heap:=h2 }):A7 M X.A (leaving X.env (.ref ea)) Q E s':=by
 have z:=dh (kG X.env (.ref ea)) (Fly.pass (M:=M) (E:=E) (Q:=λ_ s2=>∃h2,s2={ s' with heap:=h2 }/\Fly X.prog X.w X.outer X.H₀ H' X.s₀.heap B ea cls a0 h2) I hst hfr hex F λh2 F2=>⟨h2,rfl,F2⟩)
 refine Cg z (λ_ s2 y =>?_) λ_ _ y=>y.1
 obtain ⟨⟨h2,rfl,F2⟩,k⟩:=y
 exact hQ h2 F2 k
end
theorem Fun.Aa {P:AN}{w:Bh}{K:Av}{mg:Str->Option Au}{base:Heap}{x qual:Str}{st:Stmt}{f:Addr}{fd:BJ}{N ps:List Str}{k:Nat}{sp:Sp}(F:Fun K x qual st f fd)(S:aI N ps (au st))(len:∀vs H Q E,sp vs H Q E->vs.length=ps.length)
  (hb:∀(cdv:Au) (A:BA) (outer:List Env) (s:Ax) (H:Hp) (vs:List V) (Q:VK) (E:XK),bW k (A.deeper (envOfC qual (au st) s.heap.objs.size f cdv))->sp vs H Q E →
   ∃t,PSs (ia (CX2 P w) P w K mg base N qual (au st) f cdv A outer s H E) (bG st) t/\t { nx:=λ_ H'=>Q .non H',rt:=Q } (start N vs) H):bE P w K mg base (CX2 P w) (k+1) f fd ps sp:=by
 obtain ⟨oc,od,kV,doc,pm,an,cdv,ct,osl,rfl,lk,hcd⟩:=F.ex
 exact xO lk hcd S len λA outer s H vs Q E hr hsp=>hb cdv A outer s H vs Q E hr hsp
structure fe (P:AN)(w:Bh)(K:Av)(mg:Str->Option Au)(base:Heap)(k:Nat)(x:Str)(ps:List Str)(sp:Sp):Prop where
 ex:∃f fd,bE P w K mg base (CX2 P w) k f fd ps sp/\mg x=some (.ref f)/\PySem.W.keepIn K (.ref f)=true/\Binds K fd ps []
theorem fe.calm {P:AN}{w:Bh}{K:Av}{mg:Str->Option Au}{base:Heap}{k:Nat}{x:Str}{ps:List Str}{sp sp':Sp}(c:fe P w K mg base k x ps sp)(h:∀vs H Q E,sp' vs H Q E->sp vs H Q E0):Cal P w K mg base k x ps sp':=by
 obtain ⟨f,fd,F,m,kp,b⟩:=c.ex
 refine ⟨f,fd,⟨λvs H Q E q=>F.len vs H Q E0 (h _ _ _ _ q),λA outer s H args us vs Q E hr he hb hv hs=>Dl (F.run A outer s H args us vs Q E0 hr he hb hv (h _ _ _ _ hs)) λr s' z =>?_⟩,m,kp,b⟩
 cases r with
 | error e =>
  obtain ⟨_,_,_,_,_,_,_,_,_,_,_,z⟩:=z
  exact z.elim
 | ok fl=>cases fl <;> exact z
section
variable  {P:AN}{w:Bh}{K:Av}{mg:Str->Option Au}{base:Heap}{N:List Str}{qual:Str}{sc:Scope}{f:Addr}{cdv:Au}{A:BA}{outer:List Env}{s₀:Ax}{H₀:Hp}{E:XK}
theorem xW:Passes (CX2 P w) (ia (CX2 P w) P w K mg base N qual sc f cdv A outer s₀ H₀ E) E:=λpins σ H s e s' I h=>by
 obtain ⟨ea,cls,a0,B,H2,d,rfl,os,g,F,D,q⟩:=h
 exact Fly.z9 I rfl rfl rfl F λh2 F2 k=>⟨ea,cls,a0,B,H2,d,rfl,os.trans I.os,g,F2,D.kd k,q⟩
theorem Ab:z7 (ia (CX2 P w) P w K mg base N qual sc f cdv A outer s₀ H₀ E) E:=λpins σ H s h' ea cls vs I hx q=>by
 exact Fly.made (s':={ s with heap:=h' }) I rfl rfl rfl hx λh2 B a0 F2=>⟨ea,cls,a0,B,H,none,rfl,I.os,I.bare,F2,.nil _ _,q⟩
end
section
variable  {X:Cx}{pins:List (Addr×Obj)}{σ:St}{H H':Hp}{s s':Ax}{B h':Heap}{ea:Addr}{cls a0:Au}{d:Option Addr}
def iS (ea:Addr)(cls:Au)(d:Option Addr):HO :=.ext λh=>∃o vs,h.get? ea=some o/\o.cls=cls/\o.data = .fields vs/\∀dx,d=some dx->o.dict=some dx
theorem HOk.y7 {P:AN}{w:Bh}{h:Heap}(x:HOk P w H h)(hn:H ea=none)(hc:∃o vs,h.get? ea=some o/\o.cls=cls/\o.data = .fields vs/\∀dx,d=some dx->o.dict=some dx):HOk P w (upd H ea (iS ea cls d)) h:=λb u e=>by
 by_cases z:b=ea
 ·subst z
  rw[af] at e
  cases e
  refine ⟨hc,?_,λh1 h2 p k =>?_⟩
  ·obtain ⟨o,_,q,_⟩:=hc;exact ⟨o,q⟩
  ·obtain ⟨o,vs,q,c⟩:=p;exact ⟨o,vs,k o q,c⟩
 ·rw[aq z] at e
  exact (x b u e).stay (λ_ _ _ q=>q) (λc q=>by rw[aq (av q hn)];exact q) λc xs q=>by rw[aq (av q hn)];exact q
theorem Inv.y7 (I0:Inv X pins σ H s)(I:Inv X pins σ H' s')(F:Fly X.prog X.w X.stack H H' s.heap B ea cls a0 s'.heap)(D:XD s'.heap ea d):Inv X pins σ (upd H' ea (iS ea cls d)) s':=by
 have nn:=F.new
 have hn:=F.no
 have ne:∀b o,s.heap.get? b=some o->b≠ea:=λb o q z=>by rw[z,nn] at q;cases q
 have nh:∀b u,H' b=some u->b≠ea:=λb u q=>av q hn
 have hc:∃o vs,s'.heap.get? ea=some o/\o.cls=cls/\o.data = .fields vs/\∀dx,d=some dx->o.dict=some dx:=by
  obtain ⟨o,vs,a,b,dd,_⟩:=F.fl.first
  refine ⟨o,vs,a,b,dd,λdx e =>?_⟩
  obtain ⟨o',a',b'⟩:=D dx e
  rw[a] at a';cases a'
  exact b'
 refine ⟨I.ok,I.os,I.bare,⟨I.base.keep,I.base.slot,λb o q n m =>?_,I.base.there,λb xs q =>?_,λb o u q =>?_,λb ps q =>?_⟩,I.loc,I.cell,?_,λx c e =>?_,λp hp =>?_,I.hok.y7 hn hc,I.len⟩
 ·obtain ⟨o',e⟩:=I0.base.there b o q m
  rw[aq (ne b o' e)];exact I.base.free b o q n m
 ·have:=I.base.tups b xs q
  rw[aq (nh b _ this)];exact this
 ·have:=I.base.frzs b o u q
  rw[aq (nh b _ this)];exact this
 ·obtain ⟨mo,this⟩:=I.base.tbls b ps q
  exact ⟨mo,by rw[aq (nh b _ this)];exact this⟩
 ·obtain ⟨m,⟨o,_,_,ho,_⟩,_⟩:=I0.loc
  rw[aq (ne _ o ho)];exact I.free
 ·obtain ⟨v,o,ho,_⟩:=I0.cell x c e
  rw[aq (ne _ o ho)];exact I.freeC x c e
 ·obtain ⟨e,n,n1,n2,d⟩:=I.pin p hp
  obtain ⟨e0,_⟩:=I0.pin p hp
  exact ⟨e,by rw[aq (ne _ _ e0)];exact n,n1,n2,d⟩
end
section
variable  {M:Model}{A:BA}{E:Au->Ax->Prop}{s:Ax}
theorem wX {base:Heap}{env:Env}{outer:List Env}{L e:Addr}{cls a0:Au}{Q:Unit->Ax->Prop}
  (hfr:A.frames=some (env :: outer)) (hf:env.frame=some L) (hfl:Heap.FlyingW base (env :: outer) e cls a0 s.heap)
  (hQ:∀h',Heap.HeldW base (env :: outer) e cls a0 L h'->s.heap.UpToSlots h'->Kd s.heap h'->Q () { s with heap:=h' }):A7 M A (noteFrame (.ref e) env) Q E s:=by
 refine Cg (dh (eQ (.ref e) env) (wpAny_looks_onW (M:=M) (E:=E) (Q:=λ_ s2=>∃h',s2={ s with heap:=h' }/\Heap.HeldW base (env :: outer) e cls a0 L h'/\s.heap.UpToSlots h') hfr hf hfl λh' a b=>⟨h',rfl,a,b⟩)) (λ_ s2 y =>?_) λ_ _ y=>y.1
 obtain ⟨⟨h2,rfl,a,b⟩,k⟩:=y
 exact hQ h2 a b k
theorem wY {base:Heap}{l:List Env}{e L:Addr}{cls a0:Au}{Q:Unit->Ax->Prop}(hh:Heap.HeldW base l e cls a0 L s.heap)
  (hQ:∀h',Heap.FlyingW base l e cls a0 h'->s.heap.UpToSlots h'->Kd s.heap h'->Q () { s with heap:=h' }):A7 M A (setFlight (.ref e) none) Q E s:=by
 refine Cg (dh (cK (.ref e) none) (wpAny_landsW (M:=M) (E:=E) (Q:=λ_ s2=>∃h',s2={ s with heap:=h' }/\Heap.FlyingW base l e cls a0 h'/\s.heap.UpToSlots h') hh λh' a b=>⟨h',rfl,a,b⟩)) (λ_ s2 y =>?_) λ_ _ y=>y.1
 obtain ⟨⟨h2,rfl,a,b⟩,k⟩:=y
 exact hQ h2 a b k
theorem wZ {base:Heap}{l:List Env}{e:Addr}{cls a0:Au}{Q:Unit->Ax->Prop}(hh:Heap.FlyingW base l e cls a0 s.heap)
  (hQ:∀h',Heap.FlyingW base l e cls a0 h'->s.heap.UpToSlots h'->Kd s.heap h'->Q () { s with heap:=h' }):A7 M A (setFlight (.ref e) none) Q E s:=by
 refine Cg (dh (cK (.ref e) none) (lands_againW (M:=M) (E:=E) (Q:=λ_ s2=>∃h',s2={ s with heap:=h' }/\Heap.FlyingW base l e cls a0 h'/\s.heap.UpToSlots h') hh λh' a b=>⟨h',rfl,a,b⟩)) (λ_ s2 y =>?_) λ_ _ y=>y.1
 obtain ⟨⟨h2,rfl,a,b⟩,k⟩:=y
 exact hQ h2 a b k
end
abbrev kI:=Au->Option Addr->St->Hp->Prop
def XP2 (X:Cx)(pins:List (Addr×Obj))(EX:kI)(e:Au)(s':Ax):Prop :=
 ∃σ H s ea cls a0 B H' d,Inv X pins σ H s/\e = .ref ea/\s'.os=s.os/\AllBare s'.gens/\Fly X.prog X.w X.stack H H' s.heap B ea cls a0 s'.heap/\XD s'.heap ea d/\EX cls d σ H'
def Ac (X:Cx)(sts:List Stmt)(t:kI->TS):Prop :=
 ∀(pins:List (Addr×Obj)) (s:Ax) (σ:St) (H:Hp) (D:Ends) (EX:kI),Inv X pins σ H s->t EX D σ H->A7 (Bf X.prog X.w) X.A (execs sts X.env) (SP X pins D) (XP2 X pins EX) s
def Ad (X:Cx)(st:Stmt)(t:kI->TS):Prop :=
 ∀(pins:List (Addr×Obj)) (s:Ax) (σ:St) (H:Hp) (D:Ends) (EX:kI),Inv X pins σ H s->t EX D σ H->A7 (Bf X.prog X.w) X.A (exec st X.env) (SP X pins D) (XP2 X pins EX) s
section
variable  {X:Cx}{pos:Pos}
theorem w4 {st:Stmt}{t:kI->TS}(h1:Ad X st t):Ac X [st] t:=by
 intro pins s σ H D EX I h
 refine FQ (thn (h1 pins s σ H D EX I h) λf s1 q =>?_)
 cases f with
 | next=>exact DI q
 | ret v=>exact q
 | brk=>exact q
 | cont=>exact q
theorem Ae {k:Nat}{f:Addr}{fd:BJ}{ps:List Str}{sp:Sp}{pins:List (Addr×Obj)}{σ:St}{H:Hp}{s:Ax}{Q:VK}{EX:kI}{us:List Au}{vs:List V}(F:bE X.prog X.w X.K X.mg X.base (CX2 X.prog X.w) k f fd ps sp)(hr:bW k X.A)(hb:Binds X.K fd ps [])
  (I:Inv X pins σ H s) (r:Vals vs us) (h:sp vs H Q λcls d H'=>EX cls d σ H'):A7 (Bf X.prog X.w) X.A (call (.ref f) us) (EP X pins σ Q) (XP2 X pins EX) s:=by
 have hl:us.length=ps.length:=by rw[<- r.length];exact F.len _ _ _ _ h
 have hb':=hb s us I.kIn (by rw[Bj];exact hl)
 rw[Bj] at hb'
 refine HH (Dl (F.run X.A X.stack s H ⟨us,[]⟩ us vs Q _ hr I.zL hb' r h) λr s' hq =>?_)
 cases r with
 | error e =>
  obtain ⟨ea,cls,a0,B,H2,d,rfl,os,g,F2,D,q⟩:=hq
  exact ⟨σ,H,s,ea,cls,a0,B,H2,d,I,rfl,os,g,F2,D,q⟩
 | ok fl =>
  cases fl with
  | ret u=>exact I.after hq
  | next=>exact False.elim hq
  | brk=>exact False.elim hq
  | cont=>exact False.elim hq
theorem ev_y {j k:Nat}{x:Str}{ps:List Str}{sp:Sp}{e:Expr}{es:List Expr}{t:TA}{p:Pos}{pins:List (Addr×Obj)}{σ:St}{H:Hp}{s:Ax}{Q:VK}{EX:kI}(C:fe X.prog X.w X.K X.mg X.base k x ps sp)(hr:bW j X.A)(hj:k<=j)(hg:Gl X x)(ha:PA X.nox (e :: es) t)
  (hdb:(x == ("__debug__" : Str))=false) (he:BD (e :: es) X.env=(false,eval e X.env) :: BD es X.env) (hpl:(DV pos (BD es X.env)).any (·.1)=false)
  (I:Inv X pins σ H s) (h:t σ H λvs H1=>sp vs H1 Q λcls d H2=>EX cls d σ H2):A7 (Bf X.prog X.w) X.A (eval (.Call (.Name x p) (e :: es) [] pos) X.env) (EP X pins σ Q) (XP2 X pins EX) s:=by
 obtain ⟨f,fd,F,m,kp,b⟩:=C.ex
 refine En (gw I hg m ?_ hdb)
 refine GV (h₀:=X.base) I.ok.mod.kin kp (Cg (ha pos pins s σ H _ (I.ji _) h) (λus s1 ⟨vs,H1,I1,r,q⟩=>⟨I1.dw.kIn,?_⟩) λ_ _ z=>False.elim z) he hpl
 exact Ae F (hr.mono hj) b I1.dw r q
theorem w5 {i j k:Nat}{x y:Str}{ps:List Str}{sp:Sp}{e:Expr}{es:List Expr}{t:TA}{p pos' pos2:Pos}(hN:X.N.Nodup)(hi:X.N[i]? = some y)(hx:Loc X.env.scope y)(C:fe X.prog X.w X.K X.mg X.base k x ps sp)(hr:bW j X.A)(hj:k<=j)(hg:Gl X x)(ha:PA X.nox (e :: es) t)
  (hdb:(x == ("__debug__" : Str))=false:=by decide) (he:BD (e :: es) X.env=(false,eval e X.env) :: BD es X.env:=by rfl) (hpl:(DV pos (BD es X.env)).any (·.1)=false:=by rfl) (hs:swapsWith (.Call (.Name x p) (e :: es) [] pos) (some (.Name y pos2)) pos'.line X.env=pure false:=by rfl) (hf:X.fn y=true\/X.env.scope.names.lookup y=some .local:=by first | exact .inl rfl | exact .inr rfl | assumption) :
  Ad X (.Assign [.Name y pos2] (.Call (.Name x p) (e :: es) [] pos) pos') (λEX D σ H=>t σ H λvs H1=>sp vs H1 (λv H2=>D.nx (σ.set i (some v)) H2) λcls d H2=>EX cls d σ H2):=by
 intro pins s σ H D EX I h
 refine HG (thn (ev_y C hr hj hg ha hdb he hpl I h) λv s1 ⟨y,H1,I1,r1,q1⟩ =>?_) hs
 exact gv I1 hN hi hx r1 (λs2 I2=>⟨_,H1,I2,q1⟩) hf
def Af (K:Av)(i:Nat)(C:Au)(tb:kI->TS)(th:TS):TS:=λD σ H =>
 tb (λcls d σ1 H1=>exmOne K cls C=some true/\∀ea,H1 ea=none->th { nx:=λσ2 H2=>D.nx (σ2.set i none) H2,rt:=D.rt,bk:=λσ2 H2=>D.bk (σ2.set i none) H2,ct:=λσ2 H2=>D.ct (σ2.set i none) H2 } (σ1.set i (some (.ref ea))) (upd H1 ea (iS ea cls d))) D σ H
theorem w6 {i:Nat}{n x:Str}{C:Au}{body:List Stmt}{b₀:Stmt}{suite:List Stmt}{tb:kI->TS}{th:TS}{np hp:Pos}(hst:X.stack=X.env :: X.outer)(hfr:X.env.frame=some X.env.locals)
    (hN:X.N.Nodup) (hi:X.N[i]? = some n) (hx:X.env.scope.names.lookup n=some .local) (hg:Gl X x) (hm:X.mg x=some C) (hb:Ac X body tb) (hs:∀ea,PSs (X.mark ea) (b₀ :: suite) th) (hdb:(x == ("__debug__" : Str))=false:=by decide) :
    PS X (.Try body [.ExceptHandler (some (.Name x np)) (some n) (b₀ :: suite) hp] [] [] pos) (Af X.K i C tb th):=by
  intro pins s σ H D I h
  refine wpAny_Try_except (Cg (hb pins s σ H D _ I h) (λf s1 q =>?_) λe s1 hx1 =>?_)
  · cases f with
    | next=>exact DI q
    | ret v=>exact q
    | brk=>exact q
    | cont=>exact q
  obtain ⟨σ1,H1,s0,ea,cls,a0,B,H2,d,I1,rfl,os,g,F,D,hm2,q⟩:=hx1
  have fl:=F.fl
  have hfr':X.A.frames=some (X.env :: X.outer):=by rw[I1.ok.frames,hst]
  rw[hst] at fl
  refine wX hfr' hfr fl λh4 held4 k4 e4 =>?_
  refine wY held4 λh5 f5 k5 e5 =>?_
  rw[<- hst] at f5
  have F5:=F.on f5 (k4.trans k5)
  have I5:Inv X pins σ1 H2 { s1 with heap:=h5 }:=I1.land os g F5
  refine wpAny_handleBy_cons (codeAny_handlers_test ?_) (by intro z;cases z)
  refine gw (X:=X.mark ea) (I5.mark ea) hg hm ?_ hdb
  have LT:Looks (Bf X.prog X.w) h5 (typeOf (.ref ea)) cls:=by
    obtain ⟨ob,hob,hc⟩:=f5.there
    subst hc
    exact (Looks.ld hob).andThen .now
  refine (exm_one (M:=Bf X.prog X.w) I5.kIn LT hm2).here ?_
  refine codeAny_handlers_suite_as ?_
  refine wZ f5 λh6 f6 k6 e6 =>?_
  have F6:=F5.on f6 k6
  have I6:Inv X pins σ1 H2 { s1 with heap:=h6 }:=I1.land os g F6
  have I7:=I1.y7 I6 F6 (d:=d) (((D.kd e4).kd e5).kd e6)
  refine gv (v :=.ref ea) I7 hN hi (.inl hx) rfl (λs7 I8 =>?_) (.inr hx)
  have cls0:(X.env.scope.kind == .class || (X.env.scope.kind == .module && X.env.locals != X.env.globals))=false:=by rw[I.ok.kind];rfl
  have go:∀{σ2:St} {H3:Hp} {s8:Ax} {Q:Unit->Ax->Prop} {E:Au->Ax->Prop},Inv (X.mark ea) pins σ2 H3 s8->(∀s9,Inv X pins (σ2.set i none) H3 s9->Q () s9)->A7 (Bf X.prog X.w) X.A (do bindName X.env n .none;unbindBehindTheSuite X.env n hp) Q E s8:=λ{σ2 H3 s8 Q E} J hQ=>by
    have J':Inv X pins σ2 H3 s8:=J.unmark I.ok
    obtain ⟨m,hn,hl⟩:=J'.loc
    exact wpAny_nameGoes_keeps hx hn cls0 λh9 v hn9 hs9=>hQ _ (J'.gone hN hi hn hl hn9 hs9)
  refine Cg (hs ea pins s7 _ _ _ (I8.mark ea) (q ea F.no)) (λf s8 r =>?_) λ_ _ z=>False.elim z
  cases f with
  | next =>
    obtain ⟨σ2,H3,J,r⟩:=r
    exact go J λs9 J9=>⟨_,H3,J9,r⟩
  | brk =>
    obtain ⟨σ2,H3,J,r⟩:=r
    exact go J λs9 J9=>⟨_,H3,J9,r⟩
  | cont =>
    obtain ⟨σ2,H3,J,r⟩:=r
    exact go J λs9 J9=>⟨_,H3,J9,r⟩
  | ret u =>
    obtain ⟨v,σ2,H3,J,rv,r⟩:=r
    exact go J λs9 J9=>⟨v,_,H3,J9,rv,r⟩
end
open PySem PySem.Spec PySem.W PyProof.Rows
section
variable  {X:Cx}
theorem bj {K:Av}(hK:X.K=K:=by rfl):cj X (.builtin "isinstance") (λxs H Q=>∃(ea C:Addr) (d:Option Addr) (c:V) (b:Bool),xs=[.ref ea,c]/\H ea=some (iS ea (.ref C) d)/\ExI K C/\xV c=true/\kitOne K (.ref C) (z8 c)=some b/\Q (.bl b) H):=by
 subst hK
 intro pins s σ H xs us Q I r h
 obtain ⟨ea,C,d,c,b,rfl,he,Z,hc,hk,q⟩:=h
 cases r with | cons r1 r2 =>
 cases r2 with | cons r2 r3 =>
 cases r3
 obtain rfl:=wV hc r2
 have r1:_=AS ea:=r1
 subst r1
 obtain ⟨⟨o,_,e1,e2,_⟩,_⟩:=I.hok ea _ he
 have p:∃o,s.heap.get? ea=some o/\o.cls = .ref C:=⟨o,e1,e2⟩
 exact kia_one (vd Z) I.kIn p hk (by intro z;cases z) λtk=>⟨.bl b,H,I.tok tk,rfl,q⟩
end
open PySem PySem.Spec PyProof.Rows
def bN (K:Av)(x:Str)(st:Stmt):Prop:=∃(f:Addr) (od an:Option Addr) (sl:Array (Option Au)) (oc kV dc pm cd ct:Au),Bm K A9 x=some (some (.ref f))/\K.lookup f=some ⟨oc,od,.func (PySem.W.fnOf x x (cu st) (bG st) (au st) .none kV dc pm an cd ct),sl⟩/\PySem.W.codeIn K cd x=true/\PySem.W.keepIn K (.ref f)=true
theorem bN.mk {K:Av}{x:Str}{st:Stmt}{f:Addr}{od an:Option Addr}{sl:Array (Option Au)}{oc kV dc pm cd ct:Au}(a:Bm K A9 x=some (some (.ref f)))(l:K.lookup f=some ⟨oc,od,.func (PySem.W.fnOf x x (cu st) (bG st) (au st) .none kV dc pm an cd ct),sl⟩)(c:PySem.W.codeIn K cd x=true)(k:PySem.W.keepIn K (.ref f)=true):bN K x st:=⟨_,_,_,_,_,_,_,_,_,_,a,l,c,k⟩
theorem bN.cal {K:Av}{x:Str}{st:Stmt}(hf:bN K x st)(P:AN)(w:Bh)(base:Heap){h:Heap}{mg:Str->Option Au}(X:K.In h)(G:h.Ns A9 mg){lv:Nat}{ps:List Str}{sp:Sp}(ok:∀{f:Addr} {fd:BJ},Fun K x x st f fd->bE P w K mg base CX0 lv f fd ps sp)
  (hb:∀(kV doc pm:Au) (an:Option Addr) (cdv ct:Au) (us:List Au),us.length=ps.length->bindArgs (PySem.W.fnOf x x (cu st) (bG st) (au st) .none kV doc pm an cdv ct) ⟨us,[]⟩=pure (ps.zip us)):Cal P w K mg base lv x ps sp:=by
 obtain ⟨f,od,an,sl,oc,kV,dc,pm,cd,ct,a,l,c,k⟩:=hf
 have F:=jt l c k
 exact ⟨_,_,ok F,BM X G a,k,F.binds hb⟩
open PySem PySem.Spec PySem.W PyProof.Rows
section
variable  {X:Cx}{pins:List (Addr×Obj)}{σ:St}{H:Hp}{s:Ax}{h':Heap}
end
section
variable  {X:Cx}
end
def w9 (K:Av)(C:Addr):Bool:=findIn K (.ref C) "__getattribute__" == some (some (.builtin "BaseException.__getattribute__")) && findIn K (.ref C) "__getattr__" == some none && findIn K (.ref C) "__class__" == some (some (.builtin "object.__class__")) &&
 subIn K (.ref C) (.type "object") == some true && subIn K (.ref C) (.type "BaseException") == some true && (clsIn K C).isSome && keepIn K (.ref C) && typeIn K (.ref C) == some (.type "type")
theorem y8 {K:Av}{C:Addr}(h:w9 K C=true):ExI K C/\keepIn K (.ref C)=true/\typeIn K (.ref C)=some (.type "type"):=by
 unfold w9 at h
 simp only[BC,beq_iff_eq] at h
 obtain ⟨⟨⟨⟨⟨⟨⟨h1,h2⟩,h3⟩,h4⟩,h5⟩,h6⟩,h7⟩,h8⟩:=h
 exact ⟨⟨h1,h2,h3,h4,h5,h6⟩,h7,h8⟩
theorem bN.Ag {K:Av}{x:Str}{st:Stmt}(hf:bN K x st)(P:AN)(w:Bh)(base:Heap){h:Heap}{mg:Str->Option Au}(X:K.In h)(G:h.Ns A9 mg){lv:Nat}{ps:List Str}{sp:Sp}(ok:∀{f:Addr} {fd:BJ},Fun K x x st f fd->bE P w K mg base (CX2 P w) lv f fd ps sp)
  (hb:∀(kV doc pm:Au) (an:Option Addr) (cdv ct:Au) (us:List Au),us.length=ps.length->bindArgs (PySem.W.fnOf x x (cu st) (bG st) (au st) .none kV doc pm an cdv ct) ⟨us,[]⟩=pure (ps.zip us)):fe P w K mg base lv x ps sp:=by
 obtain ⟨f,od,an,sl,oc,kV,dc,pm,cd,ct,a,l,c,k⟩:=hf
 have F:=jt l c k
 exact ⟨_,_,ok F,BM X G a,k,F.binds hb⟩
open PySem PySem.Spec PyProof.Rows
theorem bN.y9 {K:Av}{x:Str}{st:Stmt}(hf:bN K x st)(P:AN)(w:Bh)(base:Heap){h:Heap}{mg:Str->Option Au}(X:K.In h)(G:h.Ns A9 mg){ps:List Str}(d:Nat){sp:Nat->Sp}(h0:∀vs H Q E,¬ sp 0 vs H Q E)
  (ok:∀n,fe P w K mg base (d+n) x ps (sp n)->∀{f:Addr} {fd:BJ},Fun K x x st f fd->bE P w K mg base (CX2 P w) (d+n+1) f fd ps (sp (n+1)))
  (hb:∀(kV doc pm:Au) (an:Option Addr) (cdv ct:Au) (us:List Au),us.length=ps.length->bindArgs (PySem.W.fnOf x x (cu st) (bG st) (au st) .none kV doc pm an cdv ct) ⟨us,[]⟩=pure (ps.zip us)):∀n,fe P w K mg base (d+n) x ps (sp n):=by
 obtain ⟨f,od,an,sl,oc,kV,dc,pm,cd,ct,a,l,c,k⟩:=hf
 have F:=jt l c k
 intro n
 induction n with
 | zero=>exact ⟨_,_,⟨λvs H Q E z=>absurd z (h0 _ _ _ _),λA outer s H args us vs Q E hr he hb hv hs=>absurd hs (h0 _ _ _ _)⟩,BM X G a,k,F.binds hb⟩
 | succ n ih=>exact ⟨_,_,ok n ih F,BM X G a,k,F.binds hb⟩
end L2
namespace L2
def goR (lead:List Nat->Nat->Bool)(out:Nat->List Nat)(f:Nat):Nat->List Nat->Nat->List (List Nat)
 | 0,_,_=>[]
 | n+1,way,l=>(if f∈out l then [way] else [])++((out l).filter (lead way)).flatMap λp=>goR lead out f n (way++[p]) p
def goP (out:Nat->List Nat)(f:Nat):Nat->List Nat->Nat->List (List Nat)
 | 0,_,_=>[]
 | n+1,way,l=>(out l).flatMap λp=>if p=f then [way] else if f<p/\p∉way then goP out f n (way++[p]) p else []
structure Back (out:Nat->List Nat)(f:Nat)(way:List Nat)(S:Nat->Bool):Prop where
 own:∀p,S p=true->f<p/\p∉way
 last:∀p,f<p->p∉way->f∈out p->S p=true
 step:∀p q,f<p->p∉way->q∈out p->S q=true->S p=true
theorem Back.zc {out:Nat->List Nat}{f:Nat}{way:List Nat}{S:Nat->Bool}(B:Back out f way S) :
  ∀(n:Nat) (w:List Nat) (p:Nat),(∀x,x∈way->x∈w)->f<p->p∉way->goP out f n w p≠[]->S p=true:=by
 intro n
 induction n with
 | zero=>intro w p _ _ _ h;exact absurd rfl h
 | succ n ih =>
  intro w p hw hp hn h
  obtain ⟨r,hr⟩:=List.exists_mem_of_ne_nil _ h
  obtain ⟨q,hq,hr⟩:=Cv.1 hr
  by_cases e:q=f
  ·exact B.last p hp hn (e ▸ hq)
  ·rw[if_neg e] at hr
   by_cases g:f<q/\q∉w
   ·rw[if_pos g] at hr
    exact B.step p q hp hn hq (ih (w++[q]) q (λx hx=>BO _ (hw x hx)) g.1 (λz=>g.2 (hw q z)) (List.ne_nil_of_mem hr))
   ·rw[if_neg g] at hr
    cases hr
theorem pV {α:Type}{f:Nat}{a:List α}{g:Nat->List α}(hz:g f=[]):∀{L:List Nat},L.Nodup →
  (L.flatMap λp=>if p=f then a else g p).Perm ((if f∈L then a else [])++L.flatMap g):=by
 intro L
 induction L with
 | nil=>intro _;simp
 | cons p L ih =>
  intro nd
  have nd':=BL.1 nd
  have I:=ih nd'.2
  simp only[Bx]
  by_cases e:p=f
  ·subst e
   rw[if_pos rfl,if_pos (AM ..),hz,Dg]
   rw[if_neg nd'.1,Dg] at I
   exact I.append_left a
  ·rw[if_neg e]
   have m:(f∈p :: L)↔f∈L:=⟨λh=>(AU.1 h).resolve_left (λz=>e z.symm),λh=>AL _ h⟩
   refine (I.append_left (g p)).trans ?_
   rw[show (if f∈p :: L then a else [])=(if f∈L then a else []) from by by_cases h:f∈L <;> simp[h,m]]
   rw[<- A4, <- A4]
   exact CA _ C8
theorem oo {α:Type}{S:Nat->Bool}{g:Nat->List α}:∀{L:List Nat},(∀p,p∈L->S p=false->g p=[]) →
  L.flatMap g=(L.filter S).flatMap g:=by
 intro L
 induction L with
 | nil=>intro _;rfl
 | cons p L ih =>
  intro h
  have I:=ih λq hq=>h q (AL _ hq)
  cases s:S p with
  | true=>rw[Ek s,Bx,Bx,I]
  | false=>rw[Em (by simp[s]),Bx,h p (AM ..) s,Dg,I]
theorem lP {α:Type}{g g':Nat->List α}:∀{L:List Nat},(∀p,p∈L->(g p).Perm (g' p))->(L.flatMap g).Perm (L.flatMap g'):=by
 intro L
 induction L with
 | nil=>intro _;exact Dc _
 | cons p L ih =>
  intro h
  simp only[Bx]
  exact (h p (AM ..)).append (ih λq hq=>h q (AL _ hq))
theorem xc {lead:List Nat->Nat->Bool}{out:Nat->List Nat}{f:Nat}(nd:∀p,(out p).Nodup)
  (B:∀way,Back out f way (lead way)):∀(n:Nat) (way:List Nat) (l:Nat),(goR lead out f n way l).Perm (goP out f n way l):=by
 intro n
 induction n with
 | zero=>intro way l;exact Dc _
 | succ n ih =>
  intro way l
  have h:=pV (f:=f) (a:=[way]) (g:=λp=>if f<p/\p∉way then goP out f n (way++[p]) p else []) (by simp) (nd l)
  refine List.Perm.symm (h.trans ?_)
  unfold goR
  refine B7 _ ?_
  rw[oo (S:=lead way)]
  ·refine lP λp hp =>?_
   have o:=(B way).own p (B6.1 hp).2
   rw[if_pos o]
   exact (ih _ _).symm
  ·intro p hp s
   by_cases g:f<p/\p∉way
   ·rw[if_pos g]
    refine DU λz =>?_
    have:=(B way).zc n (way++[p]) p (λx hx=>BO _ hx) g.1 g.2 z
    rw[this] at s;cases s
   ·rw[if_neg g]
theorem de {out:Nat->List Nat}{f:Nat}:∀(n:Nat) (way:List Nat) (l:Nat) (r:List Nat),r∈goP out f n way l->∃t,r=way++t:=by
 intro n
 induction n with
 | zero=>intro way l r h;cases h
 | succ n ih =>
  intro way l r h
  obtain ⟨q,hq,hr⟩:=Cv.1 h
  by_cases e:q=f
  ·rw[if_pos e] at hr
   exact ⟨[],by rw[AB.1 hr,Bj]⟩
  ·rw[if_neg e] at hr
   by_cases g:f<q/\q∉way
   ·rw[if_pos g] at hr
    obtain ⟨t,ht⟩:=ih _ _ _ hr
    exact ⟨q :: t,by rw[ht,A4];rfl⟩
   ·rw[if_neg g] at hr;cases hr
theorem qP {α:Type}{g g':Nat->List α}:∀{L:List Nat},(∀p,p∈L->g p=g' p)->L.flatMap g=L.flatMap g':=by
 intro L
 induction L with
 | nil=>intro _;rfl
 | cons p L ih =>
  intro h
  rw[Bx,Bx,h p (AM ..),ih λq hq=>h q (AL _ hq)]
theorem aV:∀(m:Nat) (w:List Nat),w.Nodup->(∀x,x∈w->x<m)->w.length<=m:=by
 intro m
 induction m with
 | zero =>
  intro w _ h
  cases w with
  | nil=>exact AE _
  | cons x w=>exact absurd (h x (AM ..)) (Ge _)
 | succ m ih =>
  intro w nd h
  have I:=ih (w.erase m) (nd.erase m) λx hx=>by
   have:=(nd.mem_erase_iff).1 hx
   have:=h x this.2
   omega
  by_cases g:m∈w
  ·have:=Fv g
   omega
  ·rw[List.erase_of_not_mem g] at I
   omega
theorem vg {out:Nat->List Nat}{f m:Nat}(hm:∀p q,q∈out p->q<m):∀(n:Nat) (way:List Nat) (l:Nat),way.Nodup->(∀x,x∈way->x<m)->m+1<=n+way.length →
  goP out f (n+1) way l=goP out f n way l:=by
 intro n
 induction n with
 | zero =>
  intro way l nd hw h
  have:=aV m way nd hw
  omega
 | succ n ih =>
  intro way l nd hw h
  rw[goP,goP]
  refine qP λp hp =>?_
  by_cases e:p=f
  ·rw[if_pos e,if_pos e]
  ·rw[if_neg e,if_neg e]
   by_cases g:f<p/\p∉way
   ·rw[if_pos g,if_pos g]
    refine ih _ _ ?_ ?_ (by simp;omega)
    ·exact Cd.2 ⟨nd,by simp,by intro a ha b hb;simp at hb;subst hb;intro z;subst z;exact g.2 ha⟩
    ·intro x hx
     rcases AI.1 hx with hx | hx
     ·exact hw x hx
     ·exact (AB.1 hx) ▸ hm l p hp
   ·rw[if_neg g,if_neg g]
end L2
namespace L2
structure Lb (ahead:Nat->List Nat)(f:Nat)(way lead ready:List Nat)(cur:Nat)(left:List Nat):Prop where
 own:∀p,p∈lead->f<p/\p∉way
 nd:lead.Nodup
 sub:∀p,p∈ready->p=f\/p∈lead
 shut:∀q,(q=f\/q∈lead)->q∉ready->∀p,p∈ahead q->f<p->p∉way->p∈lead\/(q=cur/\p∈left)
theorem Lb.start (ahead:Nat->List Nat)(f:Nat)(way:List Nat)(c:Nat):Lb ahead f way [] [f] c [] :=
 ⟨λp h=>(nomatch h),BK,λp h =>.inl (AB.1 h),λq h n=>by
  rcases h with h | h
  ·exact absurd (AB.2 h) n
  ·cases h⟩
theorem Lb.pop {ahead:Nat->List Nat}{f:Nat}{way lead r:List Nat}{c q:Nat}(L:Lb ahead f way lead (r++[q]) c []):Lb ahead f way lead r q (ahead q):=by
 refine ⟨L.own,L.nd,λp h=>L.sub p (BO _ h),λq' h n p hp g w =>?_⟩
 by_cases e:q'=q
 ·exact .inr ⟨e,e ▸ hp⟩
 ·refine (L.shut q' h (λz =>?_) p hp g w).imp_right λz=>nomatch z.2
  rcases AI.1 z with z | z
  ·exact n z
  ·exact e (AB.1 z)
theorem Lb.take {ahead:Nat->List Nat}{f:Nat}{way lead ready:List Nat}{c o:Nat}{l:List Nat}(L:Lb ahead f way lead ready c (o :: l))
  (hf:f<o) (hw:o∉way) (hl:o∉lead):Lb ahead f way (lead++[o]) (ready++[o]) c l:=by
 refine ⟨λp h =>?_,?_,λp h =>?_,λq h n p hp g w =>?_⟩
 ·rcases AI.1 h with h | h
  ·exact L.own p h
  ·exact (AB.1 h) ▸ ⟨hf,hw⟩
 ·exact Cd.2 ⟨L.nd,by simp,by intro a ha b hb;simp at hb;subst hb;intro z;subst z;exact hl ha⟩
 ·rcases AI.1 h with h | h
  ·exact (L.sub p h).imp_right λz=>BO _ z
  ·exact .inr (Bb _ h)
 ·have nr:q∉ready:=λz=>n (BO _ z)
  have no:q≠o:=λz=>n (Bb _ (AB.2 z))
  have hq:q=f\/q∈lead:=by
   refine h.imp_right λz =>?_
   rcases AI.1 z with z | z
   ·exact z
   ·exact absurd (AB.1 z) no
  rcases L.shut q hq nr p hp g w with z | ⟨a,z⟩
  ·exact .inl (BO _ z)
  ·rcases AU.1 z with z | z
   ·exact .inl (Bb _ (AB.2 z))
   ·exact .inr ⟨a,z⟩
theorem Lb.leave {ahead:Nat->List Nat}{f:Nat}{way lead ready:List Nat}{c o:Nat}{l:List Nat}(L:Lb ahead f way lead ready c (o :: l))
  (h:¬ (f<o/\o∉way/\o∉lead)):Lb ahead f way lead ready c l:=by
 refine ⟨L.own,L.nd,L.sub,λq hq n p hp g w =>?_⟩
 rcases L.shut q hq n p hp g w with z | ⟨a,z⟩
 ·exact .inl z
 ·rcases AU.1 z with z | z
  ·subst z
   refine .inl (DU λk=>h ⟨g,w,k⟩)
  ·exact .inr ⟨a,z⟩
theorem Lb.back {out ahead:Nat->List Nat}{f:Nat}{way lead:List Nat}{c:Nat}(L:Lb ahead f way lead [] c [])(ha:∀p q,q∈out p->p∈ahead q) :
  Back out f way (λp=>decide (p∈lead)):=by
 refine ⟨λp h=>L.own p (of_decide_eq_true h),λp g w h=>decide_eq_true ?_,λp q g w h s=>decide_eq_true ?_⟩
 ·exact (L.shut f (.inl rfl) (by simp) p (ha p f h) g w).resolve_right λz=>nomatch z.2
 ·exact (L.shut q (.inr (of_decide_eq_true s)) (by simp) p (ha p q h) g w).resolve_right λz=>nomatch z.2
def bp (f:Nat)(way:List Nat)(s:List Nat×List Nat)(o:Nat):List Nat×List Nat :=
 if f<o/\o∉way/\o∉s.1 then (s.1++[o],s.2++[o]) else s
theorem Lb.all {ahead:Nat->List Nat}{f:Nat}{way:List Nat}{c:Nat}:∀(l:List Nat) (s:List Nat×List Nat),Lb ahead f way s.1 s.2 c l →
  Lb ahead f way (l.foldl (bp f way) s).1 (l.foldl (bp f way) s).2 c []:=by
 intro l
 induction l with
 | nil=>intro s L;exact L
 | cons o l ih =>
  intro s L
  refine ih _ ?_
  unfold bp
  by_cases h:f<o/\o∉way/\o∉s.1
  ·rw[if_pos h];exact L.take h.1 h.2.1 h.2.2
  ·rw[if_neg h];exact L.leave h
def fW (ahead:Nat->List Nat)(f:Nat)(way:List Nat):Nat->List Nat×List Nat->List Nat
 | 0,s=>s.1
 | n+1,s=>match s.2.getLast? with
  | none=>s.1
  | some q=>fW ahead f way n ((ahead q).foldl (bp f way) (s.1,s.2.dropLast))
theorem fg {f:Nat}{way:List Nat}:∀(l:List Nat) (s:List Nat×List Nat),(l.foldl (bp f way) s).2.length+s.1.length=s.2.length+(l.foldl (bp f way) s).1.length/\s.1.length<=(l.foldl (bp f way) s).1.length:=by
 intro l
 induction l with
 | nil=>intro s;exact ⟨by simp[Nat.add_comm],AE _⟩
 | cons o l ih =>
  intro s
  have I:=ih (bp f way s o)
  have J:(bp f way s o).2.length+s.1.length=s.2.length+(bp f way s o).1.length/\s.1.length<=(bp f way s o).1.length:=by
   unfold bp
   by_cases h:f<o/\o∉way/\o∉s.1
   ·rw[if_pos h];simp;omega
   ·rw[if_neg h];exact ⟨by omega,AE _⟩
  rw[Gb]
  omega
theorem Lb.go {out ahead:Nat->List Nat}{f m:Nat}{way:List Nat}(ha:∀p q,q∈out p->p∈ahead q)(hm:∀q p,p∈ahead q->p<m) :
  ∀(n:Nat) (s:List Nat×List Nat) (c:Nat),Lb ahead f way s.1 s.2 c []->(∀p,p∈s.1->p<m)->s.2.length+(m-s.1.length)<n →
  Back out f way (λp=>decide (p∈fW ahead f way n s)):=by
 intro n
 induction n with
 | zero=>intro s c _ _ h;omega
 | succ n ih =>
  intro s c L hs h
  cases e:s.2.getLast? with
  | none =>
   have z:s.2=[]:=List.getLast?_eq_none_iff.1 e
   have:fW ahead f way (n+1) s=s.1:=by rw[fW,e]
   rw[this]
   rw[z] at L
   exact L.back ha
  | some q =>
   have z:s.2=s.2.dropLast++[q]:=by
    have k:s.2≠[]:=λk=>by rw[k] at e;cases e
    have:=List.dropLast_concat_getLast k
    rw[List.getLast?_eq_some_getLast k] at e
    rw[<- Bq e];exact this.symm
   have g:fW ahead f way (n+1) s=fW ahead f way n ((ahead q).foldl (bp f way) (s.1,s.2.dropLast)):=by rw[fW,e]
   rw[g]
   have L':Lb ahead f way s.1 s.2.dropLast q (ahead q):=by rw[z] at L;exact L.pop
   have R:=fg (f:=f) (way:=way) (ahead q) (s.1,s.2.dropLast)
   have M:=Lb.all (ahead q) (s.1,s.2.dropLast) L'
   have bound:∀(l:List Nat) (s:List Nat×List Nat),(∀p,p∈l->p<m)->(∀p,p∈s.1->p<m)->∀p,p∈(l.foldl (bp f way) s).1->p<m:=by
    intro l
    induction l with
    | nil=>intro s _ h;exact h
    | cons o l jh =>
     intro s hl h
     refine jh _ (λp hp=>hl p (AL _ hp)) ?_
     unfold bp
     by_cases k:f<o/\o∉way/\o∉s.1
     ·rw[if_pos k]
      intro p hp
      rcases AI.1 hp with hp | hp
      ·exact h p hp
      ·exact (AB.1 hp) ▸ hl o (AM ..)
     ·rw[if_neg k];exact h
   have B:=bound (ahead q) (s.1,s.2.dropLast) (hm q) hs
   have N:=aV m _ M.nd B
   have N0:=aV m _ L.nd hs
   have len:s.2.length=s.2.dropLast.length+1:=by
    have:=congrArg List.length z
    simpa using this
   refine ih _ q M B ?_
   simp only at R
   omega
end L2
namespace L2
theorem vh {α:Type}{g g':Nat->List α}:∀{L:List Nat},(∀p,p∈L->(g p).length<=(g' p).length)->(L.flatMap g).length<=(L.flatMap g').length:=by
 intro L
 induction L with
 | nil=>intro _;exact AE _
 | cons p L ih =>
  intro h
  have:=h p (AM ..)
  have:=ih λq hq=>h q (AL _ hq)
  simp only[Bx,As]
  omega
theorem xf {out:Nat->List Nat}{f:Nat}:∀(n:Nat) (way:List Nat) (l:Nat),(goP out f n way l).length<=(goP out f (n+1) way l).length:=by
 intro n
 induction n with
 | zero=>intro way l;exact Bl _
 | succ n ih =>
  intro way l
  rw[goP,goP]
  refine vh λp _ =>?_
  by_cases e:p=f
  ·rw[if_pos e,if_pos e];exact AE _
  ·rw[if_neg e,if_neg e]
   by_cases g:f<p/\p∉way
   ·rw[if_pos g,if_pos g];exact ih _ _
   ·rw[if_neg g,if_neg g];exact AE _
theorem vi {out:Nat->List Nat}{f:Nat}(n k:Nat)(way:List Nat)(l:Nat):(goP out f n way l).length<=(goP out f (n+k) way l).length:=by
 induction k with
 | zero=>exact AE _
 | succ k ih=>exact A5 ih (xf _ _ _)
theorem jQ {α:Type}{g:Nat->List α}:∀{L:List Nat},L.Nodup->(∀p,p∈L->(g p).Nodup)->(∀p q,p∈L->q∈L->p≠q->∀r,r∈g p->r∉g q)->(L.flatMap g).Nodup:=by
 intro L
 induction L with
 | nil=>intro _ _ _;exact BK
 | cons p L ih =>
  intro nd h d
  have nd':=BL.1 nd
  rw[Bx]
  refine Cd.2 ⟨h p (AM ..),ih nd'.2 (λq hq=>h q (AL _ hq)) λa b ha hb=>d a b (AL _ ha) (AL _ hb),?_⟩
  intro a ha b hb z
  subst z
  obtain ⟨q,hq,hb⟩:=Cv.1 hb
  exact d p q (AM ..) (AL _ hq) (λz=>nd'.1 (z ▸ hq)) a ha hb
theorem sS {out:Nat->List Nat}{f:Nat}(nd:∀p,(out p).Nodup):∀(n:Nat) (way:List Nat) (l:Nat),(goP out f n way l).Nodup:=by
 intro n
 induction n with
 | zero=>intro way l;exact BK
 | succ n ih =>
  intro way l
  rw[goP]
  refine jQ (nd l) (λp _ =>?_) λp q _ _ pq r hp hq =>?_
  ·by_cases e:p=f
   ·rw[if_pos e];simp
   ·rw[if_neg e]
    by_cases g:f<p/\p∉way
    ·rw[if_pos g];exact ih _ _
    ·rw[if_neg g];exact BK
  ·have key:∀p,r∈(if p=f then [way] else if f<p/\p∉way then goP out f n (way++[p]) p else [])->(p=f/\r=way)\/(p≠f/\∃t,r=way++p :: t):=by
    intro p h
    by_cases e:p=f
    ·rw[if_pos e] at h;exact .inl ⟨e,AB.1 h⟩
    ·rw[if_neg e] at h
     by_cases g:f<p/\p∉way
     ·rw[if_pos g] at h
      obtain ⟨t,ht⟩:=de _ _ _ _ h
      exact .inr ⟨e,t,by rw[ht,A4];rfl⟩
     ·rw[if_neg g] at h;cases h
   rcases key p hp with ⟨a,b⟩ | ⟨a,t,b⟩ <;> rcases key q hq with ⟨a',b'⟩ | ⟨a',t',b'⟩
   ·exact pq (a.trans a'.symm)
   ·have:=congrArg List.length (b.symm.trans b');simp at this
   ·have:=congrArg List.length (b'.symm.trans b);simp at this
   ·have:=List.append_cancel_left (b.symm.trans b')
    exact pq (CP this).1
def rounds (out:Nat->List Nat)(m:Nat):List (List Nat):=(Ba m).flatMap λf=>goP out f m [f] f
theorem mK {out:Nat->List Nat}(nd:∀p,(out p).Nodup)(m:Nat):(rounds out m).Nodup:=by
 refine jQ ED (λp _=>sS nd _ _ _) λp q _ _ pq r hp hq =>?_
 obtain ⟨t,ht⟩:=de _ _ _ _ hp
 obtain ⟨u,hu⟩:=de _ _ _ _ hq
 have:=ht.symm.trans hu
 exact pq (CP this).1
theorem oq {out:Nat->List Nat}{m f n:Nat}(hf:f<m)(hn:n<=m):(goP out f n [f] f).length<=(rounds out m).length:=by
 have h:∀{L:List Nat} {g:Nat->List (List Nat)},f∈L->(g f).length<=(L.flatMap g).length:=by
  intro L g
  induction L with
  | nil=>intro h;cases h
  | cons p L ih =>
   intro h
   rw[Bx,As]
   rcases AU.1 h with h | h
   ·subst h;omega
   ·have:=ih h;omega
 have:=vi (out:=out) (f:=f) n (m-n) [f] f
 rw[EU hn] at this
 exact A5 this (h (g:=λf=>goP out f m [f] f) (BG.2 hf))
end L2
namespace L2
theorem vj {α:Type}{g g':Nat->List α}{L L':List Nat}(s:L.Sublist L')(h:∀p,(g p).Sublist (g' p)):(L.flatMap g).Sublist (L'.flatMap g'):=by
 induction s with
 | slnil=>exact DP _
 | cons p s ih=>rw[Bx];exact ih.trans (List.sublist_append_right _ _)
 | cons_cons p s ih=>rw[Bx,Bx];exact (h p).append ih
theorem xg {o o':Nat->List Nat}{f:Nat}(s:∀p,(o p).Sublist (o' p)):∀(n:Nat) (way:List Nat) (l:Nat),(goP o f n way l).Sublist (goP o' f n way l):=by
 intro n
 induction n with
 | zero=>intro way l;exact DP _
 | succ n ih =>
  intro way l
  rw[goP,goP]
  refine vj (s l) λp =>?_
  by_cases e:p=f
  ·rw[if_pos e,if_pos e];exact DP _
  ·rw[if_neg e,if_neg e]
   by_cases g:f<p/\p∉way
   ·rw[if_pos g,if_pos g];exact ih _ _
   ·rw[if_neg g,if_neg g];exact DP _
def tabOf (T:List (List Nat))(p:Nat):List Nat:=T.getD p []
def Ah (T:List (List Nat))(m f:Nat)(way:List Nat)(p:Nat):Bool:=decide (p∈fW (tabOf T) f way (m+2) ([],[f]))
def qQ (O I:List (List Nat))(m:Nat):List (List Nat):=(Ba m).flatMap λf=>goR (Ah I m f) (tabOf O) f m [f] f
def fo (k:Nat):List (List Nat):=(Ba k).map λ_=>Ba k
theorem Ai:300<(goP (tabOf (fo 7)) 0 5 [0] 0).length:=by decide +kernel
theorem sT {a b:Nat}(h:a<=b):(Ba a).Sublist (Ba b):=by
 obtain ⟨c,rfl⟩:=Nat.exists_eq_add_of_le h
 rw[List.range_add]
 exact List.sublist_append_left _ _
theorem zd {a b:Nat}(h:a<=b)(p:Nat):(tabOf (fo a) p).Sublist (tabOf (fo b) p):=by
 unfold tabOf fo
 by_cases g:p<a
 ·have g':p<b:=AO g h
  simp[AK,g,g',sT h]
 ·simp[AK,g]
theorem sU {m:Nat}(h:7<=m):300<(rounds (tabOf (fo m)) m).length :=
 AO Ai (A5 (xg (zd h) 5 [0] 0).length_le (oq (by omega) (by omega)))
def lo0:List (List Nat):=[[2,3],[2,3],[4,5],[4,5],[6,7],[6,7],[8,9],[8,9],[10,11],[10,11],[12,13],[12,13],[14,15],[14,15],[16,17],[16,17],[18,19],[18,19],[20,21],[20,21],[22,23],[22,23],[24,25],[24,25],[26,27],[26,27],[28,29],[28,29],[30,31],[30,31],[32,33],[32,33],[34,35],[34,35],[36,37],[36,37],[38,39],[38,39],[],[]]
def li0:List (List Nat):=[[],[],[0,1],[0,1],[2,3],[2,3],[4,5],[4,5],[6,7],[6,7],[8,9],[8,9],[10,11],[10,11],[12,13],[12,13],[14,15],[14,15],[16,17],[16,17],[18,19],[18,19],[20,21],[20,21],[22,23],[22,23],[24,25],[24,25],[26,27],[26,27],[28,29],[28,29],[30,31],[30,31],[32,33],[32,33],[34,35],[34,35],[36,37],[36,37]]
def lo1:List (List Nat):=[[2,3],[2,3],[4,5],[4,5],[6,7,0],[6,7],[8,9],[8,9],[10,11],[10,11],[12,13],[12,13],[14,15],[14,15],[16,17],[16,17],[18,19],[18,19],[20,21],[20,21],[22,23],[22,23],[24,25],[24,25],[26,27],[26,27],[28,29],[28,29],[30,31],[30,31],[32,33],[32,33],[34,35],[34,35],[36,37],[36,37],[38,39],[38,39],[],[]]
def li1:List (List Nat):=[[4],[],[0,1],[0,1],[2,3],[2,3],[4,5],[4,5],[6,7],[6,7],[8,9],[8,9],[10,11],[10,11],[12,13],[12,13],[14,15],[14,15],[16,17],[16,17],[18,19],[18,19],[20,21],[20,21],[22,23],[22,23],[24,25],[24,25],[26,27],[26,27],[28,29],[28,29],[30,31],[30,31],[32,33],[32,33],[34,35],[34,35],[36,37],[36,37]]
def lo2:List (List Nat):=[[2,3],[2,3],[4,5],[4,5],[6,7,0],[6,7],[8,9],[8,9],[10,11],[10,11],[12,13],[12,13],[14,15],[14,15],[16,17],[16,17],[18,19],[18,19],[20,21],[20,21],[22,23],[22,23],[24,25],[24,25],[26,27],[26,27],[28,29],[28,29],[30,31],[30,31],[32,33],[32,33],[34,35],[34,35],[36,37],[36,37],[38,39],[38,39],[],[37]]
def li2:List (List Nat):=[[4],[],[0,1],[0,1],[2,3],[2,3],[4,5],[4,5],[6,7],[6,7],[8,9],[8,9],[10,11],[10,11],[12,13],[12,13],[14,15],[14,15],[16,17],[16,17],[18,19],[18,19],[20,21],[20,21],[22,23],[22,23],[24,25],[24,25],[26,27],[26,27],[28,29],[28,29],[30,31],[30,31],[32,33],[32,33],[34,35],[34,35,39],[36,37],[36,37]]
def fb9:List (List Nat):=[[0,1,2,3,4],[0,1,2,3,4],[0,1,2,3,4],[0,1,2,3,4],[0,1,2,3,4],[5,6,7,8,9],[5,6,7,8,9],[5,6,7,8,9],[5,6,7,8,9],[5,6,7,8,9],[10,11,12,13,14],[10,11,12,13,14],[10,11,12,13,14],[10,11,12,13,14],[10,11,12,13,14],[15,16,17,18],[15,16,17,18],[15,16,17,18],[15,16,17,18],[19],[20],[21],[22],[23],[24],[25],[26],[27],[]]
def ze:List (List Nat):=[[0,1,2,3,4],[0,1,2,3,4],[0,1,2,3,4],[0,1,2,3,4],[0,1,2,3,4],[5,6,7,8,9],[5,6,7,8,9],[5,6,7,8,9],[5,6,7,8,9],[5,6,7,8,9],[10,11,12,13,14],[10,11,12,13,14],[10,11,12,13,14],[10,11,12,13,14],[10,11,12,13,14],[15,16,17,18],[15,16,17,18],[15,16,17,18],[15,16,17,18],[19],[20],[21],[22],[23],[24],[25],[26],[27],[28]]
theorem xh:(rounds (tabOf fb9) 29).length=300:=by decide +kernel
theorem xk:(rounds (tabOf ze) 29).length=301:=by decide +kernel
end L2
namespace L2
def ba (ahead:Nat->List Nat)(m f:Nat)(way:List Nat)(p:Nat):Bool:=decide (p∈fW ahead f way (m+2) ([],[f]))
theorem ba.back {out ahead:Nat->List Nat}{m f:Nat}(way:List Nat)(ha:∀p q,q∈out p->p∈ahead q)(hm:∀q p,p∈ahead q->p<m) :
  Back out f way (ba ahead m f way) :=
 Lb.go ha hm (m+2) ([],[f]) f (Lb.start ahead f way f) (λp h=>nomatch h) (by simp;omega)
def eE (out ahead:Nat->List Nat)(m:Nat):List (List Nat):=(Ba m).flatMap λf=>goR (ba ahead m f) out f m [f] f
theorem gU {out ahead:Nat->List Nat}{m:Nat}(nd:∀p,(out p).Nodup)(ha:∀p q,q∈out p->p∈ahead q)(hm:∀q p,p∈ahead q->p<m) :
  (eE out ahead m).Perm (rounds out m) :=
 lP λf _=>xc nd (λway=>ba.back way ha hm) m [f] f
theorem iW (O I:List (List Nat))(m:Nat):qQ O I m=eE (tabOf O) (tabOf I) m:=rfl
theorem fJ {α:Type}(g:Nat->List α):∀(L:List Nat) (k:Nat),k<L.length->(((L.take (k+1)).flatMap g).length<=(L.flatMap g).length)/\∀p,L[k]? = some p->(L.take (k+1)).flatMap g=(L.take k).flatMap g++g p:=by
 intro L
 induction L with
 | nil=>intro k h;exact absurd h (Ge _)
 | cons q L ih =>
  intro k h
  cases k with
  | zero =>
   refine ⟨by simp,λp hp =>?_⟩
   simp at hp;subst hp;simp
  | succ k =>
   have I:=ih k (by simpa using h)
   refine ⟨?_,λp hp =>?_⟩
   ·simp only[GL,Bx,As]
    have:=I.1
    omega
   ·have:=I.2 p (by simpa using hp)
    simp only[GL,Bx]
    rw[this,A4]
theorem vk {lead:List Nat->Nat->Bool}{out:Nat->List Nat}{f m:Nat}(hm:∀p q,q∈out p->q<m)(own:∀way p,lead way p=true->f<p/\p∉way) :
  ∀(n:Nat) (way:List Nat) (l:Nat),way.Nodup->(∀x,x∈way->x<m)->m+1<=n+way.length->goR lead out f (n+1) way l=goR lead out f n way l:=by
 intro n
 induction n with
 | zero =>
  intro way l nd hw h
  have:=aV m way nd hw
  omega
 | succ n ih =>
  intro way l nd hw h
  rw[goR,goR]
  refine congrArg _ (qP λp hp =>?_)
  have hp:=B6.1 hp
  have g:=own way p hp.2
  refine ih _ _ ?_ ?_ (by simp;omega)
  ·exact Cd.2 ⟨nd,by simp,by intro a ha b hb;simp at hb;subst hb;intro z;subst z;exact g.2 ha⟩
  ·intro x hx
   rcases AI.1 hx with hx | hx
   ·exact hw x hx
   ·exact (AB.1 hx) ▸ hm l p hp.1
end L2
namespace L2
def jR (n:Nat):List (List Int):=(Ba n).flatMap λp:Nat=>[[(p:Int),((p/2*2+2:Nat):Int)],[(p:Int),((p/2*2+3:Nat):Int)]]
theorem lQ (n:Nat):jR (n+1)=jR n++[[(n:Int),((n/2*2+2:Nat):Int)],[(n:Int),((n/2*2+3:Nat):Int)]]:=by
 unfold jR
 rw[EV,List.flatMap_append]
 simp
def layB (b:Nat):List (List Int):=jR 38++[[4,0],[39,37]].take b
def mL:Nat->List (List Int)
 | 0=>jR 38
 | 1=>(jR 38).take 8++[[4,0]]++(jR 38).drop 8
 | _=>(jR 38).take 8++[[4,0]]++(jR 38).drop 8++[[39,37]]
theorem xo:∀b,b<3->(mL b).Perm (layB b):=by decide +kernel
theorem xp:∀b,b<3->(mL b).Pairwise cW:=by
 unfold cW
 decide +kernel
theorem xq:∀b,b<3->(mL b).Nodup:=by decide +kernel
theorem xr:∀b,b<3->((mL b).all λt=>match t with
 | [x,y]=>decide (0<=x) && decide (x<40) && (decide (0<=y) && decide (y<40))
 | _=>false)=true:=by decide +kernel
def loS:Nat->List (List Nat)
 | 0=>lo0
 | 1=>lo1.set 4 [0,6,7]
 | _=>lo2.set 4 [0,6,7]
def liS:Nat->List (List Nat)
 | 0=>li0
 | 1=>li1
 | _=>li2
def layR:Nat->List (List Nat)
 | 0=>[]
 | 1=>[[0,2,4],[0,3,4]]
 | _=>[[0,2,4],[0,3,4],[37,39]]
theorem layT:∀b,b<3->qQ (loS b) (liS b) 40=layR b:=by decide +kernel
theorem xt:∀b,b<3->∀p,p<40->(tabOf (loS b) p).all (λq=>decide (p∈tabOf (liS b) q))=true:=by decide +kernel
theorem qR:∀b,b<3->∀p,p<40->(tabOf (loS b) p).all (λq=>decide (q<40))=true/\(tabOf (loS b) p).Nodup/\(tabOf (liS b) p).all (λq=>decide (q<40))=true:=by decide +kernel
theorem ot:∀b,b<3->(loS b).length=40/\(liS b).length=40:=by decide +kernel
theorem fK {T:List (List Nat)}{p:Nat}(h:T.length<=p):tabOf T p=[]:=by
 unfold tabOf
 rw[AK,DG h];rfl
theorem pW {b:Nat}(hb:b<3):(layR b).Perm (rounds (tabOf (loS b)) 40):=by
 rw[<- layT b hb,iW]
 have L:=ot b hb
 refine gU (λp =>?_) (λp q h =>?_) λq p h =>?_
 ·by_cases c:p<40
  ·exact (qR b hb p c).2.1
  ·rw[fK (by omega)];exact BK
 ·by_cases c:p<40
  ·exact of_decide_eq_true (BF.1 (xt b hb p c) q h)
  ·rw[fK (by omega)] at h;cases h
 ·by_cases c:q<40
  ·exact of_decide_eq_true (BF.1 (qR b hb q c).2.2 p h)
  ·rw[fK (by omega)] at h;cases h
open PySem PySem.Spec PyProof.Rows
theorem bN.zf {K:Av}{x:Str}{st:Stmt}(hf:bN K x st)(P:AN)(w:Bh)(base:Heap){h:Heap}{mg:Str->Option Au}(X:K.In h)(G:h.Ns A9 mg){ps:List Str}(d:Nat){sp:Nat->Sp}(h0:∀vs H Q E,¬ sp 0 vs H Q E)
  (ok:∀n,Cal P w K mg base (d+n) x ps (sp n)->∀{f:Addr} {fd:BJ},Fun K x x st f fd->bE P w K mg base CX0 (d+n+1) f fd ps (sp (n+1)))
  (hb:∀(kV doc pm:Au) (an:Option Addr) (cdv ct:Au) (us:List Au),us.length=ps.length->bindArgs (PySem.W.fnOf x x (cu st) (bG st) (au st) .none kV doc pm an cdv ct) ⟨us,[]⟩=pure (ps.zip us)):∀n,Cal P w K mg base (d+n) x ps (sp n):=by
 obtain ⟨f,od,an,sl,oc,kV,dc,pm,cd,ct,a,l,c,k⟩:=hf
 have F:=jt l c k
 intro n
 induction n with
 | zero=>exact ⟨_,_,⟨λvs H Q E z=>absurd z (h0 _ _ _ _),λA outer s H args us vs Q E hr he hb hv hs=>absurd hs (h0 _ _ _ _)⟩,BM X G a,k,F.binds hb⟩
 | succ n ih=>exact ⟨_,_,ok n ih F,BM X G a,k,F.binds hb⟩
end L2
set_option maxHeartbeats 800000
namespace K56
open PySem L2
def top (i:Nat):Stmt:=PySem.Challenge.pw_ringfell_k56_rounds.main.body.getD i (.Pass ⟨0,0,0,0⟩)
abbrev iw:Stmt:=top 15
abbrev jS:Stmt:=top 16
abbrev dA:Stmt:=top 17
abbrev eF:Stmt:=top 18
abbrev jT:Stmt:=top 19
abbrev fX:Stmt:=top 20
abbrev cS:Stmt:=top 21
abbrev gW:Stmt:=top 22
abbrev fY:Stmt:=top 23
abbrev jU:Stmt:=top 25
abbrev pX:Stmt:=top 26
abbrev jV:Stmt:=top 27
abbrev iy:Stmt:=top 28
abbrev pY:Stmt:=top 29
abbrev mM:Stmt:=top 30
abbrev mO:Stmt:=top 31
abbrev mP:Stmt:=top 32
abbrev vn:Stmt:=top 33
abbrev dB:Stmt:=top 34
abbrev mQ:Stmt:=top 35
abbrev eG:Stmt:=top 36
abbrev mR:Stmt:=top 37
abbrev pZ:Stmt:=top 38
abbrev ou:Stmt:=top 39
structure Blt (mg:Str->Option Au):Prop where
 b_all:mg "all" = none
 b_bool:mg "bool" = none
 b_enumerate:mg "enumerate" = none
 b_int:mg "int" = none
 b_isinstance:mg "isinstance" = none
 b_len:mg "len" = none
 b_list:mg "list" = none
 b_max:mg "max" = none
 b_min:mg "min" = none
 b_range:mg "range" = none
 b_set:mg "set" = none
 b_sorted:mg "sorted" = none
 b_tuple:mg "tuple" = none
 b_ValueError:mg "ValueError" = none
theorem p6:BU "all" = some (.builtin "all"):=by decide +kernel
theorem xu:BU "bool" = some (.type "bool"):=by decide +kernel
theorem zg:BU "int" = some (.type "int"):=by decide +kernel
theorem ay:BU "isinstance" = some (.builtin "isinstance"):=by decide +kernel
theorem bX:BU "len" = some (.builtin "len"):=by decide +kernel
theorem qS:BU "list" = some (.type "list"):=by decide +kernel
theorem zh:BU "max" = some (.builtin "max"):=by decide +kernel
theorem mS:BU "min" = some (.builtin "min"):=by decide +kernel
theorem p7:BU "set" = some (.type "set"):=by decide +kernel
theorem cA:BU "sorted" = some (.builtin "sorted"):=by decide +kernel
theorem cc:BU "tuple" = some (.type "tuple"):=by decide +kernel
theorem kJ:BU "ValueError" = some (.type "ValueError"):=by decide +kernel
structure Cst (mg:Str->Option Au):Prop where
 c_MOST_ROUNDS:∃t,mg "MOST_ROUNDS" = some (.int 300 t)
theorem hu8 {A:BA}{k:Nat}(hr:bW k A):A.units+8<cLine:=Eg (DZ (by decide:8<=64) _) hr.units
theorem small {n:Nat}(h:n<=1000):n<=AH:=A5 h (by decide)
@[irreducible] def mT (K:Av):Sp:=λvs H Q _=>∃(a:Addr) (ns:List Int) (k:Int),vs=[.ref a,.int k]/\SqL K H a (ns.map V.int)/\0<=k/\k<63/\∀(n:Int) (p:Addr),H p=none->Q (.ref p) (upd H p (.lst [.int n]))
theorem fZ {K:Av}{vs:List V}{H:Hp}{Q:VK}{E:XK}:mT K vs H Q E↔∃(a:Addr) (ns:List Int) (k:Int),vs=[.ref a,.int k]/\SqL K H a (ns.map V.int)/\0<=k/\k<63/\∀(n:Int) (p:Addr),H p=none->Q (.ref p) (upd H p (.lst [.int n])):=by
 delta mT
 exact CQ
abbrev qT:Sp:=λvs H Q _=>∃(p:Addr) (m:Int),vs=[.ref p,.int m]/\Pt 1 H p/\0<m/\m<1073741824/\∀(d:Int) (H':Hp),0<=d->d<m->Bu 1 p H H'->Q (.int d) H'
@[irreducible] def fi:Sp:=qT
theorem aF {vs:List V}{H:Hp}{Q:VK}{E:XK}:fi vs H Q E↔qT vs H Q E:=by
 delta fi
 exact CQ
theorem w60:Wd ((10:Int) ^ (60:Int).toNat):=by unfold Wd;decide +kernel
theorem w120:Wd ((10:Int) ^ (60:Int).toNat*(10:Int) ^ (60:Int).toNat):=by unfold Wd;decide +kernel
theorem w180:Wd ((10:Int) ^ (60:Int).toNat*(10:Int) ^ (60:Int).toNat*(10:Int) ^ (60:Int).toNat):=by unfold Wd;decide +kernel
theorem p240:(0:Int)<(10:Int) ^ (60:Int).toNat*(10:Int) ^ (60:Int).toNat*(10:Int) ^ (60:Int).toNat*(10:Int) ^ (60:Int).toNat:=by decide +kernel
section
variable  {P:AN}{w:Bh}{K:Av}{mg:Str->Option Au}{base:Heap}{f T:Addr}{fd:BJ}
theorem dj:aI ["script", "k", "cell", "seed", "found", "turn"] ["script", "k"] (au jU):=⟨rfl,rfl,rfl,by decide +kernel,rfl,by decide +kernel,by decide +kernel⟩
theorem xv (F:Fun K "_law_deal" "_law_deal" jU f fd)(B:Blt mg)(C:Cst mg):bE P w K mg base CX0 1 f fd ["script", "k"] (mT K):=by
 refine F.ok dj (λvs H Q E h =>?_) (λcdv A outer s H vs Q E hr h =>?_)
 ·obtain ⟨_,_,_,rfl,_⟩:=fZ.mp h
  rfl
 obtain ⟨a,ns,k,rfl,hS,k0,k1,q⟩:=fZ.mp h
 have TT:∃t,PSs (ia CX0 P w K mg base ["script", "k", "cell", "seed", "found", "turn"] "_law_deal" (au jU) f cdv A outer s H E).nox ((bG jU).drop 2) t/\∀(D:Ends) (c:Int) (c3 c4 c5:Option V),D.rt=Q->t D [some (.ref a),some (.int k),some (.int c),c3,c4,c5] H:=by
  refine ⟨_,(@aj _ _ _ _ _ (@bD _ _ _ _ _ _ _ _ (aG xN (pv 2) (@ax _ _ _ _ _ _ _ _ fU ai ai) (aS _)) (@ak _ _ _ (@aJ _ _ _ _ (@bK _ _ _ _ (@aa _ _ _ _ _ (@ax _ _ _ _ _ _ _ _ jl (pv 2) (@ax _ _ _ _ _ _ _ _ fU ai ai)) ae rfl)))) aP)
  (@aj _ _ _ _ _ (@aE _ _ 3 _ _ _ _ dj.nd rfl (Or.inl rfl) (@ax _ _ _ _ _ _ _ _ bB (@ax _ _ _ _ _ _ _ _ bB (@ax _ _ _ _ _ _ _ _ dQ (pv 2) ai) (@ax _ _ _ _ _ _ _ _ dP ai (pv 1))) ai) rfl (by first | exact .inl rfl | exact .inr rfl | assumption))
  (@aj _ _ _ _ _ (@aE _ _ 4 _ _ _ _ dj.nd rfl (Or.inl rfl) ai rfl (by first | exact .inl rfl | exact .inr rfl | assumption))
  (@aj _ _ _ _ _ (@cp _ _ _ _ _ _ _ _ BW rfl (aX rfl B.b_range (@aa _ _ _ _ _ ai ae rfl)) (aN (i:=5) dj.nd rfl (Or.inl rfl))
   (@aj _ _ _ _ _ (@aE _ _ 3 _ _ _ _ dj.nd rfl (Or.inl rfl) (@ax _ _ _ _ _ _ _ _ dQ (@ax _ _ _ _ _ _ _ _ bB (@ax _ _ _ _ _ _ _ _ dP (pv 3) ai) ai) ai) rfl (by first | exact .inl rfl | exact .inr rfl | assumption))
   (@ak _ _ _ (@aE _ _ 4 _ _ _ _ dj.nd rfl (Or.inl rfl) (@ax _ _ _ _ _ _ _ _ bB (@ax _ _ _ _ _ _ _ _ dP (pv 4) ai) (@ax _ _ _ _ _ _ _ _ dQ (@ax _ _ _ _ _ _ _ _ fC (@ax _ _ _ _ _ _ _ _ dQ (@ax _ _ _ _ _ _ _ _ dP (pv 3) (pv 3)) ai) ai) ai)) rfl (by first | exact .inl rfl | exact .inr rfl | assumption)))) (λ_=>rfl))
  (@ak _ _ _ (@aJ _ _ _ _ (@bK _ _ _ _ (@aa _ _ _ _ _ (pv 4) ae rfl)))))))),?_⟩
  intro D c c3 c4 c5 eD
  subst eD
  refine ⟨_,rfl,_,_,rfl,rfl,⟨by decide,by decide,by decide⟩,_,_,rfl,rfl,_,rfl,gG (λz =>?_) (λz =>?_)⟩
  ·exact ⟨_,rfl,_,_,rfl,rfl,⟨by decide,by decide,by decide⟩,_,_,rfl,rfl,(by show 1<=AH;decide),λp hp=>q _ p hp⟩
  refine ⟨_,rfl,_,_,rfl,rfl,(by show (0:Int)<_;decide),_,rfl,_,_,rfl,rfl,.inl ⟨by decide,by decide⟩,_,_,rfl,rfl,_,_,rfl,rfl,?_⟩
  refine ⟨30,rfl,by decide,by decide,bJ (n:=30) (λi σ H'=>(∃(se fo:Int) (c5:Option V),σ=[some (.ref a),some (.int k),some (.int c),some (.int se),some (.int fo),c5])/\H'=H) ⟨⟨_,_,_,rfl⟩,rfl⟩ ?_ ?_⟩
  ·rintro i σ H' hi ⟨⟨se,fo,c5,rfl⟩,rfl⟩
   refine ⟨_,rfl,_,_,rfl,rfl,.inr ⟨by decide,by decide⟩,_,_,rfl,rfl,_,_,rfl,rfl,(by show (0:Int)<_;decide),?_⟩
   have d1:=Ej (se*48271+12345) (b:=2147483647) (by decide)
   have d2:=Dz (se*48271+12345) (b:=2147483647) (by decide)
   generalize (se*48271+12345)%2147483647=o2 at d1 d2 ⊢
   refine ⟨_,rfl,_,_,rfl,rfl,.inr ⟨by decide,by decide⟩,_,rfl,_,rfl,_,_,rfl,rfl,.inl ⟨by omega,by omega⟩,_,_,rfl,rfl,(by show (0:Int)<_;decide),_,_,rfl,rfl,⟨by decide,by decide⟩,_,_,rfl,rfl,(by show (0:Int)<_;decide),_,_,rfl,rfl,?_⟩
   exact ⟨⟨_,_,_,rfl⟩,rfl⟩
  ·rintro σ H' ⟨⟨se,fo,c5,rfl⟩,rfl⟩
   exact ⟨_,rfl,(by show 1<=AH;decide),λp hp=>q _ p hp⟩
 obtain ⟨tT,pT,gT⟩:=TT
 refine ⟨_,(@aj _ _ _ _ _ (@aE _ _ 2 _ _ _ _ dj.nd rfl (Or.inl rfl) ai rfl (by first | exact .inl rfl | exact .inr rfl | assumption))
  (@aj _ _ _ _ _ (@bD _ _ _ _ _ _ _ _ (aG qj (pv 1) (ao aH rfl B.b_len bX (@aa _ _ _ _ _ (pv 0) ae rfl)) (aS _)) (@ak _ _ _ (@aE _ _ 2 _ _ _ _ dj.nd rfl (Or.inl rfl) (@ax _ _ _ _ _ _ _ _ dQ (@aY _ _ _ _ _ _ _ cq (pv 0) (pv 1) (λ_ _=>rfl)) (@ax _ _ _ _ _ _ _ _ mH (@ax _ _ _ _ _ _ _ _ mH (@ax _ _ _ _ _ _ _ _ mH (@ax _ _ _ _ _ _ _ _ fU ai ai) (@ax _ _ _ _ _ _ _ _ fU ai ai)) (@ax _ _ _ _ _ _ _ _ fU ai ai)) (@ax _ _ _ _ _ _ _ _ fU ai ai))) rfl (by first | exact .inl rfl | exact .inr rfl | assumption))) aP)
  pT)),?_⟩
 refine ⟨_,rfl,_,rfl,a,_,rfl,.inl hS,_,_,rfl,rfl,_,rfl,gG (λz =>?_) (λz =>?_)⟩
 ·have z:=of_decide_eq_true z
  rw[Aq] at z
  obtain ⟨j,rfl⟩:∃j:Nat,k=j:=⟨k.toNat,by omega⟩
  have hj:j<ns.length:=by omega
  exact ⟨_,rfl,_,rfl,a,_,_,.int ns[j],rfl,rfl,hS,bR (by rw[AW,AD hj];rfl),_,_,rfl,rfl,⟨by decide,by decide,by decide⟩,_,_,rfl,rfl,⟨by decide,by decide,by decide⟩,_,_,rfl,rfl,⟨w60,w60⟩,_,_,rfl,rfl,⟨by decide,by decide,by decide⟩,_,_,rfl,rfl,⟨w120,w60⟩,_,_,rfl,rfl,⟨by decide,by decide,by decide⟩,_,_,rfl,rfl,⟨w180,w60⟩,_,_,rfl,rfl,p240,gT _ _ _ _ _ rfl⟩
 ·exact gT _ _ _ _ _ rfl
end
section
variable  {P:AN}{w:Bh}{K:Av}{mg:Str->Option Au}{base:Heap}{f T:Addr}{fd:BJ}
theorem qU:aI ["pot", "many", "digit"] ["pot", "many"] (au pX):=⟨rfl,rfl,rfl,by decide +kernel,rfl,by decide +kernel,by decide +kernel⟩
theorem xw (F:Fun K "_law_take" "_law_take" pX f fd)(B:Blt mg)(C:Cst mg):bE P w K mg base CX0 1 f fd ["pot", "many"] fi:=by
 refine F.ok qU (λvs H Q E h =>?_) (λcdv A outer s H vs Q E hr h =>?_)
 ·obtain ⟨_,_,rfl,_⟩:=aF.mp h
  rfl
 obtain ⟨p,m,rfl,hp,h0,h1,q⟩:=aF.mp h
 refine ⟨_,(@aj _ _ _ _ _ (@aE _ _ 2 _ _ _ _ qU.nd rfl (Or.inl rfl) (@ax _ _ _ _ _ _ _ _ dQ (@aY _ _ _ _ _ _ _ cq (pv 0) ai (λ_ _=>rfl)) (pv 1)) rfl (by first | exact .inl rfl | exact .inr rfl | assumption))
  (@aj _ _ _ _ _ (@yl _ _ _ _ _ _ (@ax _ _ _ _ _ _ _ _ fC (@aY _ _ _ _ _ _ _ cq (pv 0) ai (λ_ _=>rfl)) (pv 1)) (yj (pv 0) ai set_list) rfl rfl rfl)
  (@ak _ _ _ (@aJ _ _ _ _ (pv 2))))),?_⟩
 have bt:=Bu.refl hp
 obtain ⟨xs,lx,ep⟩:=hp
 match xs,lx with
 | [x],_ =>
  refine ⟨_,rfl,p,_,0,_,rfl,rfl,SqL.of ep,rfl,_,rfl,_,_,rfl,rfl,h0,?_⟩
  refine ⟨_,rfl,p,_,0,_,rfl,rfl,SqL.of ep,rfl,_,rfl,_,_,rfl,rfl,⟨h0,h1⟩,_,rfl,p,_,0,0,rfl,rfl,ep,rfl,?_⟩
  refine ⟨_,rfl,?_⟩
  exact q _ _ (Ej _ (by omega)) (Dz _ h0) (bt.put (ys:=[x/m]) rfl)
end
open PySem L2
structure Ow (H:Hp)(b:Addr)(m:Int)(ts:List (Addr×List Int)):Prop where
 at':∃t,H b=some (.tup [.int m,.ref t])/\H t=some (.tup (ts.map λu =>.ref u.1))
 tup:Tus H ts
 rng:∀u∈ts,∃x y,u.2=[x,y]/\0<=x/\x<m/\0<=y/\y<m
theorem Ow.same {H H':Hp}{b:Addr}{m:Int}{ts:List (Addr×List Int)}(W:Ow H b m ts)(s:aD H H'):Ow H' b m ts:=by
 obtain ⟨t,e1,e2⟩:=W.at'
 exact ⟨⟨t,s _ _ e1,s _ _ e2⟩,W.tup.same s,W.rng⟩
theorem Ow.bu {n:Nat}{p:Addr}{H H':Hp}{b:Addr}{m:Int}{ts:List (Addr×List Int)}(W:Ow H b m ts)(u:Bu n p H H')(h:Pt n H p):Ow H' b m ts:=by
 obtain ⟨t,e1,e2⟩:=W.at'
 exact ⟨⟨t,u.tup h e1,u.tup h e2⟩,W.tup.bu u h,W.rng⟩
def Rg (m:Int)(us:List (Addr×List Int)):Prop:=∀u∈us,∃x y,u.2=[x,y]/\0<=x/\x<m/\0<=y/\y<m
theorem Rg.snoc {m:Int}{us:List (Addr×List Int)}(h:Rg m us){t:Addr}{x y:Int}(x0:0<=x)(x1:x<m)(y0:0<=y)(y1:y<m):Rg m (us++[(t,[x,y])]):=λu hu=>by
 rcases AI.mp hu with z | z
 ·exact h u z
 ·rw[AB] at z;subst z;exact ⟨x,y,rfl,x0,x1,y0,y1⟩
def outs (E:List (List Int))(a:Int):List Int:=(E.filter λt=>decide (t.getD 0 0=a)).map (·.getD 1 0)
theorem lS (E:List (List Int))(x y a:Int):outs (E++[[x,y]]) a=outs E a++if x=a then [y] else []:=by
 unfold outs
 rw[List.filter_append,AA]
 congr 1
 by_cases c:x=a
 ·rw[if_pos c,Ek (by simpa using c)];rfl
 ·rw[if_neg c,Em (by simpa using c)];rfl
theorem ow (E:List (List Int))(a:Int):(outs E a).length<=E.length:=by unfold outs;rw[Aq];exact List.length_filter_le _ _
def swp (t:List Int):List Int:=[t.getD 1 0,t.getD 0 0]
structure Rows (H2 H':Hp)(as:List Addr)(vs:List (List Int)):Prop where
 len:vs.length=as.length
 row:∀(j:Nat) a v,as[j]? = some a->vs[j]? = some v->H' a=some (.lst (v.map V.int))
 stay:∀b u,b∉as->H2 b=some u->H' b=some u
theorem Rows.push {H2 H':Hp}{as:List Addr}{vs:List (List Int)}(R:Rows H2 H' as vs)(nd:as.Nodup){j:Nat}{a:Addr}{v:List Int}(ea:as[j]? = some a)(ev:vs[j]? = some v)(x:Int) :
  Rows H2 (upd H' a (.lst ((v.map V.int)++[V.int x]))) as (vs.set j (v++[x])):=by
 have hj:j<vs.length:=(AG.mp ev).1
 refine ⟨by rw[Ie];exact R.len,λi b u eb eu =>?_,λb u hb e =>?_⟩
 ·by_cases h:i=j
  ·subst h
   rw[ea] at eb;cases eb
   rw[Cz hj] at eu;cases eu
   rw[af,AA];rfl
  ·rw[De (CK h)] at eu
   have ne:b≠a:=λz=>by
    subst z
    have hi:i<as.length:=(AG.mp eb).1
    exact h ((List.getElem?_inj hi nd).mp (eb.trans ea.symm))
   rw[aq ne]
   exact R.row i b u eb eu
 ·have ne:b≠a:=λz=>hb (z ▸ A0 ea)
  rw[aq ne]
  exact R.stay b u hb e
abbrev vo:Sp:=λvs H Q _=>∃(r:Addr) (m:Nat) (ts:List (Addr×List Int)),vs=[.ref r]/\Ow H r (m:Int) ts/\m<=200/\ts.length<=300/\∀(l:Addr) (H':Hp) (as:List Addr),aD H H'->H' l=some (.lst (as.map V.ref))->as.length=m->(∀(j:Nat) a,as[j]? = some a->H' a=some (.lst ((outs (ts.map (·.2)) (j:Int)).map V.int)))->Q (.ref l) H'
@[irreducible] def ox:Sp:=vo
theorem fL {vs:List V}{H:Hp}{Q:VK}{E:XK}:ox vs H Q E↔vo vs H Q E:=by
 delta ox
 exact CQ
section
variable  {P:AN}{w:Bh}{K:Av}{mg:Str->Option Au}{base:Heap}{f T:Addr}{fd:BJ}
theorem f9:aI ["web", "lists", "arrow"] ["web"] (au iw):=⟨rfl,rfl,rfl,by decide +kernel,rfl,by decide +kernel,by decide +kernel⟩
theorem iz:(["place"]:List Str).Nodup:=by decide +kernel
theorem p8 (F:Fun K "out_lists" "out_lists" iw f fd)(B:Blt mg)(C:Cst mg):bE P w K mg base CX0 1 f fd ["web"] ox:=by
 refine F.ok f9 (λvs H Q E h =>?_) (λcdv A outer s H vs Q E hr h =>?_)
 ·obtain ⟨_,_,_,rfl,_⟩:=fL.mp h
  rfl
 obtain ⟨r,m,ts,rfl,W,m2,tl,q⟩:=fL.mp h
 refine ⟨_,(@aj _ _ _ _ _ (jw (i:=1) ["place"] [none] rfl f9.nd rfl rfl (aX rfl B.b_range (@aa _ _ _ _ _ (@aY _ _ _ _ _ _ _ bF (pv 0) ai (λ_ _=>rfl)) ae rfl)) rfl (λ_ _ _ _ _=>(aN (i:=0) iz rfl (Or.inl rfl))) (λ_ _ _ _ _=>dW) (λ_ _ _ _ _=>(@bK _ _ _ _ ae)))
  (@aj _ _ _ _ _ (@cp _ _ _ _ _ _ _ _ BW rfl (@oU _ _ _ _ (@aY _ _ _ _ _ _ _ bF (pv 0) ai (λ_ _=>rfl))) (aN (i:=2) f9.nd rfl (Or.inl rfl))
   (@ak _ _ _ (bQ (eN Bo B4 B5 cz (@aY _ _ _ _ _ _ _ cq (pv 1) (@aY _ _ _ _ _ _ _ bF (pv 2) ai (λ_ _=>rfl)) (λ_ _=>rfl)) (@aa _ _ _ _ _ (@aY _ _ _ _ _ _ _ bF (pv 2) ai (λ_ _=>rfl)) ae rfl)))) (λ_=>rfl))
  (@ak _ _ _ (@aJ _ _ _ _ (pv 1))))),?_⟩
 obtain ⟨t,e1,e2⟩:=W.at'
 refine ⟨_,rfl,r,_,0,_,rfl,rfl,SqT.of e1,rfl,(m:Int),rfl,by omega,by omega,cE (lo:=0) (n:=m) (λi ys H'=>aD H H'/\∃as:List Addr,ys=as.map V.ref/\as.length=i/\as.Nodup/\∀a∈as,H a=none/\H' a=some (.lst [])) ⟨aD.refl _,[],rfl,rfl,BK,λa ha=>by cases ha⟩ (small (by omega)) ?_ ?_⟩
 ·rintro i ys H3 hi hy ⟨s3,as,rfl,la,nd,ha⟩ R1 R0 r1 r0
  refine cx ⟨(by show 0<=AH;decide),λp hp=>r1 _ _ ⟨s3.trans (ag hp _),as++[p],by rw[AA];rfl,by rw[As,la];rfl,?_,λa m' =>?_⟩⟩
  ·rw[Cd]
   refine ⟨nd,BL.mpr ⟨by simp,BK⟩,λx hx y hy e =>?_⟩
   rw[AB] at hy
   subst hy;subst e
   rw[(ha x hx).2] at hp;cases hp
  ·rcases AI.mp m' with z | z
   ·exact ⟨(ha a z).1,(ag hp _) _ _ (ha a z).2⟩
   ·rw[AB] at z
    subst z
    exact ⟨s3.free hp,af⟩
 rintro ys H3 hy ⟨s3,as,rfl,la,nd,ha⟩ l hl
 have s1:=s3.trans (ag hl (.lst (as.map V.ref)))
 have nl:l∉as:=λz=>by rw[(ha l z).2] at hl;cases hl
 have ha1:∀a∈as,upd H3 l (.lst (as.map V.ref)) a=some (.lst []):=λa z=>(ag hl _) _ _ (ha a z).2
 have hl1:upd H3 l (.lst (as.map V.ref)) l=some (.lst (as.map V.ref)):=af
 generalize upd H3 l (.lst (as.map V.ref))=H1 at s1 ha1 hl1
 have old:∀{b:Addr} {o:HO},H b=some o->b∉as:=λ{b o} e z=>by rw[(ha b z).1] at e;cases e
 refine ⟨_,rfl,r,_,1,_,rfl,rfl,SqT.of (s1 _ _ e1),rfl,t,rfl,⟨_,SqT.of (s1 _ _ e2)⟩,vS (xs:=ts.map λu =>.ref u.1) (λi σ H'=>(∃c,σ=[some (.ref r),some (.ref l),c])/\∃vs,Rows H1 H' as vs/\∀(j:Nat) v,vs[j]? = some v->v=outs ((ts.map (·.2)).take i) (j:Int)) ⟨⟨_,rfl⟩,DW m [],⟨by rw[F4,la],λj b v eb ev =>?_,λb u _ e=>e⟩,λj v ev =>?_⟩ (λi σ H' _ z =>?_) ?_ ?_⟩
 ·rw[Ed] at ev
  split at ev
  ·cases ev
   exact ha1 b (A0 eb)
  ·cases ev
 ·rw[Ed] at ev
  split at ev
  ·cases ev;rfl
  ·cases ev
 ·obtain ⟨_,vs,R,_⟩:=z
  exact SqT.of (R.stay t _ (old e2) (s1 _ _ e2))
 ·rintro i x σ H' hx ⟨⟨c,rfl⟩,vs,R,RO⟩
  obtain ⟨u,eu,rfl⟩:=qL hx
  have mu:=A0 eu
  obtain ⟨x,y,e3,x0,x1,y0,y1⟩:=W.rng u mu
  have hu0:=W.tup u mu
  have hu':=R.stay _ _ (old hu0) (s1 _ _ hu0)
  rw[e3] at hu'
  have tk:(ts.map (·.2)).take (i+1)=(ts.map (·.2)).take i++[[x,y]]:=by rw[CS,AW,eu, <- e3];rfl
  obtain ⟨xn,rfl⟩:∃n:Nat,x=n:=⟨x.toNat,by omega⟩
  have lv:=R.len
  have hlst:=R.stay l _ nl hl1
  have axn:as[xn]? = some as[xn]:=AD (by omega)
  have vxn:vs[xn]? = some vs[xn]:=AD (by omega)
  have at1:atI (as.map V.ref) (xn:Int)=some (.ref as[xn]):=bR (by rw[AW,axn];rfl)
  have ll:vs[xn].length<=300:=by
   rw[RO xn _ vxn]
   refine A5 (ow _ _) ?_
   rw[Bz,Aq]
   omega
  have rowx:=R.row xn _ _ axn vxn
  refine ⟨_,rfl,_,rfl,u.1,_,0,_,rfl,rfl,SqT.of hu',rfl,l,_,(xn:Int),_,rfl,rfl,SqL.of hlst,at1,.inl ⟨rfl,_,SqL.of rowx⟩,_,rfl,u.1,_,1,_,rfl,rfl,SqT.of hu',rfl,as[xn],_,_,rfl,rfl,rowx,(by rw[Aq];exact ck (by omega)),?_⟩
  refine ⟨⟨_,rfl⟩,_,R.push nd axn vxn y,λj v ev =>?_⟩
  rw[tk,lS]
  by_cases jx:xn=j
  ·subst jx
   rw[Cz (by omega)] at ev
   cases ev
   rw[if_pos rfl, <- RO xn _ vxn]
  ·rw[De jx] at ev
   rw[if_neg (by omega),Bj]
   exact RO j v ev
 ·rintro σ H' ⟨⟨c,rfl⟩,vs,R,RO⟩
  rw[Aq,Bi (by rw[Aq];exact AE _)] at RO
  refine ⟨_,rfl,q l H' as (λb o e=>R.stay b o (old e) (s1 _ _ e)) (R.stay l _ nl hl1) la λj a ea =>?_⟩
  have lv:=R.len
  have hj:=(AG.mp ea).1
  have ev:vs[j]? = some vs[j]:=AD (by omega)
  rw[<- RO j _ ev]
  exact R.row j a _ ea ev
end
abbrev oy:Sp:=λvs H Q _=>∃(r:Addr) (m:Nat) (ts:List (Addr×List Int)),vs=[.ref r]/\Ow H r (m:Int) ts/\ts.length<=250/\∀(b:Addr) (us:List (Addr×List Int)) (H':Hp),aD H H'->Ow H' b (m:Int) us->(us.map (·.2)).Perm ((ts.map (·.2)).map swp)->Q (.ref b) H'
@[irreducible] def i4:Sp:=oy
theorem fj {vs:List V}{H:Hp}{Q:VK}{E:XK}:i4 vs H Q E↔oy vs H Q E:=by
 delta i4
 exact CQ
section
variable  {P:AN}{w:Bh}{K:Av}{mg:Str->Option Au}{base:Heap}{f T:Addr}{fd:BJ}
theorem jW:aI ["web"] ["web"] (au dA):=⟨rfl,rfl,rfl,by decide +kernel,rfl,by decide +kernel,by decide +kernel⟩
theorem fk:(["arrow"]:List Str).Nodup:=by decide +kernel
theorem jX (F:Fun K "turned_arrows" "turned_arrows" dA f fd)(B:Blt mg)(C:Cst mg):bE P w K mg base CX0 1 f fd ["web"] i4:=by
 refine F.ok jW (λvs H Q E h =>?_) (λcdv A outer s H vs Q E hr h =>?_)
 ·obtain ⟨_,_,_,rfl,_⟩:=fj.mp h
  rfl
 obtain ⟨r,m,ts,rfl,W,tl,q⟩:=fj.mp h
 refine ⟨_,(@ak _ _ _ (@aJ _ _ _ _ (@aL _ _ _ _ _ (@aa _ _ _ _ _ (@aY _ _ _ _ _ _ _ bF (pv 0) ai (λ_ _=>rfl)) (@aa _ _ _ _ _ (bq bg rfl B.b_tuple cc (@aa _ _ _ _ _ (ao bS rfl B.b_sorted cA (@aa _ _ _ _ _ (dg ["arrow"] [none] rfl (@oU _ _ _ _ (@aY _ _ _ _ _ _ _ bF (pv 0) ai (λ_ _=>rfl))) rfl (λ_ _ _ _ _=>(aN (i:=0) fk rfl (Or.inl rfl))) (λ_ _ _ _ _=>dW) (λ_ _ _ _ _=>(@aL _ _ _ _ _ (@aa _ _ _ _ _ (@aY _ _ _ _ _ _ _ (dX (K:=K)) (pv 0) ai (λ_ _=>rfl)) (@aa _ _ _ _ _ (@aY _ _ _ _ _ _ _ (dX (K:=K)) (pv 0) ai (λ_ _=>rfl)) ae rfl) rfl)))) ae rfl)) ae rfl)) ae rfl) rfl)))),?_⟩
 obtain ⟨t,e1,e2⟩:=W.at'
 refine ⟨_,rfl,r,_,0,_,rfl,rfl,SqT.of e1,rfl,_,rfl,r,_,1,_,rfl,rfl,SqT.of e1,rfl,t,rfl,⟨_,SqT.of e2⟩,rO (xs:=ts.map λu =>.ref u.1) (λi ys H'=>aD H H'/\∃us:List (Addr×List Int),ys=us.map (λu =>.ref u.1)/\Tus H' us/\us.map (·.2)=((ts.map (·.2)).take i).map swp) ⟨aD.refl _,[],rfl,λu hu=>(by cases hu),rfl⟩ (by rw[Aq];exact small (by omega)) (λi ys H' _ k=>SqT.of (k.1 _ _ e2)) ?_ ?_⟩
 ·rintro i x ys H1 hx hy ⟨s1,us,rfl,tu,eu⟩ R1 R0 r1 r0
  obtain ⟨u,hu,rfl⟩:=qL hx
  have mu:=A0 hu
  obtain ⟨x,y,e3,_⟩:=W.rng u mu
  have hu1:=s1 _ _ (W.tup u mu)
  rw[e3] at hu1
  refine cx ⟨_,rfl,u.1,_,1,_,rfl,rfl,SqT.of hu1,rfl,_,rfl,u.1,_,0,_,rfl,rfl,SqT.of hu1,rfl,(by show 2<=AH;decide),λa ha=>r1 _ _ ⟨s1.trans (ag ha _),us++[(a,[y,x])],by rw[AA];rfl,Tus.snoc (tu.same (ag ha _)) (u:=(a,[y,x])) af,?_⟩⟩
  rw[AA,eu,CS,AW,hu,AA]
  show _++[[y,x]]=_++[swp u.2]
  rw[e3];rfl
 ·rintro ys H1 hy ⟨s1,us,rfl,tu,eu⟩ l hl
  rw[Aq,Bi (by rw[Aq];exact AE _)] at eu
  have rg:Rg (m:Int) us:=λu hu=>by
   have:u.2∈us.map (·.2):=A6.mpr ⟨u,hu,rfl⟩
   rw[eu] at this
   obtain ⟨v,hv,ev⟩:=A6.mp this
   obtain ⟨w,hw,rfl⟩:=A6.mp hv
   obtain ⟨x,y,e,x0,x1,y0,y1⟩:=W.rng w hw
   exact ⟨y,x,by rw[<- ev,e];rfl,y0,y1,x0,x1⟩
  have g5:=ag hl (.lst (us.map λu =>.ref u.1))
  have el:upd H1 l (.lst (us.map λu =>.ref u.1)) l=some (.lst (us.map λu =>.ref u.1)):=af
  refine ⟨l,us,rfl,.inl (SqL.of el),λt ht=>⟨SqT.of ((tu.same g5) t ht),?_⟩,λl2 out hl2 pm so =>?_⟩
  ·obtain ⟨x,y,e,_⟩:=rg t ht
   rw[e]
   intro z
   cases z
  refine ⟨l2,_,rfl,.inl ⟨SqL.of af,λl3 hl3=>⟨(by show 2<=AH;decide),λb hb =>?_⟩⟩⟩
  have gA:=((g5.trans (ag hl2 (.lst (out.map λt =>.ref t.1)))).trans (ag hl3 (.tup (out.map λt =>.ref t.1)))).trans (ag hb (.tup [.int (m:Int),.ref l3]))
  refine q b out _ (s1.trans gA) ⟨⟨l3,af,(ag hb _) _ _ af⟩,λu hu=>gA _ _ (tu u (pm.mem_iff.mp hu)),λu hu=>rg u (pm.mem_iff.mp hu)⟩ (by rw[<- eu];exact pm.map _)
end
open PySem L2
def vp (K:Av)(cs:List Addr)(W:Addr):Bool:=(Ba cs.length).all λi=>((Ba cs.length).all λj=>PySem.W.kitOne K (.ref (cs.getD i 0)) (.ref (cs.getD j 0)) == some (i == j)) && PySem.W.kitOne K (.ref (cs.getD i 0)) (.type "ValueError") == some true && PySem.W.kitOne K (.ref (cs.getD i 0)) (.ref W) == some true
theorem bV {K:Av}{cs:List Addr}{W:Addr}(h:vp K cs W=true){i:Nat}(hi:i<cs.length):(∀j,j<cs.length->PySem.W.kitOne K (.ref (cs.getD i 0)) (.ref (cs.getD j 0))=some (i == j))/\PySem.W.kitOne K (.ref (cs.getD i 0)) (.type "ValueError")=some true/\PySem.W.kitOne K (.ref (cs.getD i 0)) (.ref W)=some true:=by
 have a:=BF.mp h i (BG.mpr hi)
 simp only[BC,beq_iff_eq] at a
 obtain ⟨⟨a1,a2⟩,a3⟩:=a
 exact ⟨λj hj=>beq_iff_eq.mp (BF.mp a1 j (BG.mpr hj)),a2,a3⟩
structure Exs (K:Av)(mg:Str->Option Au)(c_WebError c_BadWeb c_NoStep c_NoText c_TooMany c_NoTie c_NoRing c_NotClear c_NotThree c_BadBoard c_NoRow c_NoBack:Addr):Prop where
 x_WebError:mg "WebError" = some (.ref c_WebError)
 x_BadWeb:mg "BadWeb" = some (.ref c_BadWeb)
 x_NoStep:mg "NoStep" = some (.ref c_NoStep)
 x_NoText:mg "NoText" = some (.ref c_NoText)
 x_TooMany:mg "TooMany" = some (.ref c_TooMany)
 x_NoTie:mg "NoTie" = some (.ref c_NoTie)
 x_NoRing:mg "NoRing" = some (.ref c_NoRing)
 x_NotClear:mg "NotClear" = some (.ref c_NotClear)
 x_NotThree:mg "NotThree" = some (.ref c_NotThree)
 x_BadBoard:mg "BadBoard" = some (.ref c_BadBoard)
 x_NoRow:mg "NoRow" = some (.ref c_NoRow)
 x_NoBack:mg "NoBack" = some (.ref c_NoBack)
 xi_TooMany:L2.w9 K c_TooMany=true
 xe_TooMany:PySem.W.excIn K c_TooMany L2.u0 "ValueError.__new__" = true
 kt:vp K [c_BadWeb,c_NoStep,c_NoText,c_TooMany,c_NoTie,c_NoRing,c_NotClear,c_NotThree,c_BadBoard,c_NoRow,c_NoBack] c_WebError=true
 xm_TooMany:PySem.W.exmOne K (.ref c_TooMany) (.ref c_WebError)=some true
open PySem L2
def fO (R:List Int):List (Key×V):=R.map λk=>(Sum.inl k,V.bl true)
theorem jY (v:Int):∀R:List Int,fV (fO R) (Sum.inl v)=if v∈R then some (.bl true) else none
 | []=>by simp[fO,fV]
 | k :: R=>by
  have ih:=jY v R
  unfold fO at *
  rw[Bd]
  by_cases h:k=v
  ·subst h
   rw[gN rfl,if_pos AM]
  ·rw[gO (λe=>h (by injection e)),ih]
   by_cases hv:v∈R
   ·rw[if_pos hv,if_pos (AL _ hv)]
   ·rw[if_neg hv,if_neg (λz=>(AU.mp z).elim (λy=>h y.symm) hv)]
theorem lT (v:Int)(R:List Int):(fV (fO R) (Sum.inl v)).isSome=decide (v∈R):=by
 rw[jY]
 by_cases h:v∈R
 ·rw[if_pos h,decide_eq_true h];rfl
 ·rw[if_neg h,decide_eq_false h];rfl
theorem vq {v:Int}{R:List Int}(h:v∉R):putK (fO R) (Sum.inl v) (.bl true)=fO (R++[v]):=by
 rw[uL _ (by rw[jY,if_neg h])]
 unfold fO
 rw[AA]
 rfl
theorem jZ (R:List Int):(fO R).length=R.length:=by unfold fO;rw[Aq]
def vt (H:Hp)(d:Addr):Nat:=match H d with | some (.dK kvs)=>kvs.length | _=>0
def vv (H:Hp)(y:Addr):Nat:=match H y with | some (.lst xs)=>xs.length | _=>0
def ni (l:List Nat):List Int:=l.map λn:Nat=>(n:Int)
theorem cM (l:List Nat):(ni l).length=l.length:=by unfold ni;rw[Aq]
theorem eI (l k:List Nat):ni (l++k)=ni l++ni k:=by unfold ni;rw[AA]
theorem cN {l:List Nat}{n:Nat}:(n:Int)∈ni l↔n∈l:=by
 unfold ni
 rw[A6]
 exact ⟨λ⟨a,h,e⟩=>(show a=n by omega) ▸ h,λh=>⟨n,h,rfl⟩⟩
theorem vw {l:List Nat}{i:Nat}{x:V}(e:((ni l).map V.int)[i]? = some x):∃n,l[i]? = some n/\x = .int (n:Nat):=by
 unfold ni at e
 rw[AW,AW] at e
 cases z:l[i]? with
 | none=>rw[z] at e;cases e
 | some n=>rw[z] at e;exact ⟨n,rfl,(Bq e).symm⟩
theorem zj {l k:List Nat}(e:ni l=ni k):l=k:=(G7 (λa b h=>by omega)).mp e
structure eR (l:Addr)(H:Hp)(a:Addr)(m:Nat)(o:Nat->List Nat):Prop where
 at':∃as:List Addr,H a=some (.lst (as.map V.ref))/\a≠l/\l∉as/\as.length=m/\∀(j:Nat) b,as[j]? = some b->H b=some (.lst ((ni (o j)).map V.int))
 rng:∀p q,q∈o p->q<m
 len:∀p,(o p).length<=300
def Bt (l:Addr)(H H':Hp):Prop:=∀b u,b≠l->H b=some u->H' b=some u
theorem Bt.refl (l:Addr)(H:Hp):Bt l H H:=λ_ _ _ e=>e
theorem Bt.trans {l:Addr}{H H' H2:Hp}(a:Bt l H H')(b:Bt l H' H2):Bt l H H2:=λx u n e=>b x u n (a x u n e)
theorem Bt.of {l:Addr}{H H':Hp}(s:aD H H'):Bt l H H':=λx u _ e=>s x u e
theorem Bt.upd {l:Addr}{H H':Hp}(s:Bt l H H')(o:HO):Bt l H (upd H' l o):=λx u n e=>by rw[aq n];exact s x u n e
theorem eR.bt {l:Addr}{H H':Hp}{a:Addr}{m:Nat}{o:Nat->List Nat}(h:eR l H a m o)(s:Bt l H H'):eR l H' a m o:=by
 obtain ⟨as,e,n,nn,la,r⟩:=h.at'
 exact ⟨⟨as,s _ _ n e,n,nn,la,λj b q=>s _ _ (λz=>nn (z ▸ A0 q)) (r j b q)⟩,h.rng,h.len⟩
theorem eR.same {l:Addr}{H H':Hp}{a:Addr}{m:Nat}{o:Nat->List Nat}(h:eR l H a m o)(s:aD H H'):eR l H' a m o:=h.bt (Bt.of s)
theorem eR.row {l:Addr}{H:Hp}{a:Addr}{m:Nat}{o:Nat->List Nat}(h:eR l H a m o){p:Nat}(hp:p<m):∃(as:List Addr) (b:Addr),H a=some (.lst (as.map V.ref))/\atI (as.map V.ref) (p:Int)=some (.ref b)/\H b=some (.lst ((ni (o p)).map V.int))/\a≠l/\b≠l:=by
 obtain ⟨as,e,n,nn,la,r⟩:=h.at'
 have ap:as[p]? = some as[p]:=AD (by omega)
 exact ⟨as,as[p],e,bR (by rw[AW,ap];rfl),r p _ ap,n,λz=>nn (z ▸ A0 ap)⟩
theorem zk (ahd:Nat->List Nat)(f:Nat)(way:List Nat)(n:Nat)(S:List Nat):fW ahd f way n (S,[])=S:=by
 cases n <;> rfl
theorem xx (ahd:Nat->List Nat)(f:Nat)(way:List Nat)(n:Nat)(S Y:List Nat)(q:Nat):fW ahd f way (n+1) (S,Y++[q])=fW ahd f way n ((ahd q).foldl (bp f way) (S,Y)):=by
 rw[fW]
 simp
theorem p9 (k:Int):∀ps:List Int,inV (.int k) (ps.map V.int)=decide (k∈ps)
 | []=>by simp[inV]
 | p :: ps=>by
  have ih:=p9 k ps
  unfold inV at ih ⊢
  rw[Bd,DK,ih]
  have e:eqV (.int p) (.int k)=(p == k):=rfl
  rw[e]
  by_cases h:p=k
  ·subst h;simp
  ·rw[beq_eq_false_iff_ne.mpr h,G8]
   apply decide_eq_decide.mpr
   rw[AU]
   exact ⟨.inr,λx=>x.elim (λy=>absurd y.symm h) id⟩
theorem iA (ps:List Int):(ps.map V.int).all gC=true:=by
 rw[HM,BF]
 intro x _
 rfl
theorem vx {P:List Int}{x:Int}{A B:Prop}(h1:x∉P->A)(h2:x∈P->B):if (if true=true then !inV (.int x) (P.map V.int) else inV (.int x) (P.map V.int))=true then A else B:=by
 rw[if_pos rfl,p9]
 by_cases c:x∈P
 ·rw[decide_eq_true c];exact cw (h2 c)
 ·rw[decide_eq_false c];exact cx (h1 c)
theorem Aj {P:List Int}{x:Int}{A B:Prop}(h1:x∈P->A)(h2:x∉P->B):if (if false=true then !inV (.int x) (P.map V.int) else inV (.int x) (P.map V.int))=true then A else B:=by
 rw[if_neg AV,p9]
 by_cases c:x∈P
 ·rw[decide_eq_true c];exact cx (h1 c)
 ·rw[decide_eq_false c];exact cw (h2 c)
abbrev qV:Sp:=λvs H Q _=>∃(a wa l:Addr) (m f:Nat) (ahd:Nat->List Nat) (way:List Nat),vs=[.ref a,.ref wa]/\eR l H a m ahd/\H wa=some (.tup ((ni (f :: way)).map V.int))/\f<m/\m<=40/\way.length<=60/\∀(d:Addr) (H':Hp) (S:List Nat),aD H H'->H' d=some (.dK (fO (ni S)))->(∀p,decide (p∈S)=ba ahd m f (f :: way) p)->Q (.ref d) H'
@[irreducible] def mU:Sp:=qV
theorem gh {vs:List V}{H:Hp}{Q:VK}{E:XK}:mU vs H Q E↔qV vs H Q E:=by
 delta mU
 exact CQ
section
variable  {P:AN}{w:Bh}{K:Av}{mg:Str->Option Au}{base:Heap}{f T:Addr}{fd:BJ}
theorem cf:aI ["ahead", "way", "leading", "ready", "place", "other"] ["ahead", "way"] (au cS):=⟨rfl,rfl,rfl,by decide +kernel,rfl,by decide +kernel,by decide +kernel⟩
theorem kK (F:Fun K "leading_back" "leading_back" cS f fd)(B:Blt mg)(C:Cst mg):bE P w K mg base CX0 1 f fd ["ahead", "way"] mU:=by
 refine F.ok cf (λvs H Q E h =>?_) (λcdv A outer s H vs Q E hr h =>?_)
 ·obtain ⟨_,_,_,_,_,_,_,rfl,_⟩:=gh.mp h
  rfl
 obtain ⟨a,wa,l,m,f',ahd,way,rfl,L,ew,fm,m40,lw,q⟩:=gh.mp h
 have hu:(ia CX0 P w K mg base ["ahead", "way", "leading", "ready", "place", "other"] "leading_back" (au cS) f cdv A outer s H E).nox.A.units+1<cLine:=xP hr
 refine ⟨_,(@aj _ _ _ _ _ (@aE _ _ 2 _ _ _ _ cf.nd rfl (Or.inl rfl) uS rfl (by first | exact .inl rfl | exact .inr rfl | assumption))
  (@aj _ _ _ _ _ (@aE _ _ 3 _ _ _ _ cf.nd rfl (Or.inl rfl) (@bK _ _ _ _ (@aa _ _ _ _ _ (@aY _ _ _ _ _ _ _ bF (pv 1) ai (λ_ _=>rfl)) ae rfl)) rfl (by first | exact .inl rfl | exact .inr rfl | assumption))
  (@aj _ _ _ _ _ (tO BW (tU (pv 3) (λ_=>rfl))
   (@aj _ _ _ _ _ (@aE _ _ 4 _ _ _ _ cf.nd rfl (Or.inl rfl) (yw Bo Gh Gi yx (pv 3)) rfl (by first | exact .inl rfl | exact .inr rfl | assumption))
   (@ak _ _ _ (@cp _ _ _ _ _ _ _ _ BW rfl (@gx _ _ _ _ (@aY _ _ _ _ _ _ _ cq (pv 0) (pv 4) (λ_ _=>rfl))) (aN (i:=5) cf.nd rfl (Or.inl rfl))
    (@ak _ _ _ (@bD _ _ _ _ _ _ _ _ (PW.pt (jf (aG nD (pv 5) (@aY _ _ _ _ _ _ _ bF (pv 1) ai (λ_ _=>rfl)) (aS _)) (jf (aG gF (pv 5) (pv 1) rfl) (iZ (tK (sL hu (pv 5) (pv 2))))))) (@aj _ _ _ _ _ (wL hu (pv 2) (pv 5) nz rfl)
     (@ak _ _ _ (bQ (eN Bo B4 B5 cz (pv 3) (@aa _ _ _ _ _ (pv 5) ae rfl))))) aP)) (λ_=>rfl)))))
  (@ak _ _ _ (@aJ _ _ _ _ (pv 2)))))),?_⟩
 have at0:atI ((ni (f' :: way)).map V.int) ((0:Nat):Int)=some (.int (f':Nat)):=bR rfl
 obtain ⟨way',hway⟩:∃z,z=f' :: way:=⟨_,rfl⟩
 refine λd hd =>?_
 have s1:=ag hd (.dK [])
 have ed:upd H d (.dK []) d=some (.dK (fO (ni []))):=af
 have ew1:=s1 _ _ ew
 generalize upd H d (.dK [])=H1 at s1 ed ew1
 refine ⟨_,rfl,wa,_,0,_,rfl,rfl,SqT.of ew1,at0,(by show 1<=AH;decide),λy hy =>?_⟩
 have ndy:d≠y:=av ed hy
 have hy0:H y=none:=s1.free hy
 have s2:=s1.trans (ag hy (.lst [.int (f':Nat)]))
 have ed2:=(ag hy (.lst [.int (f':Nat)])) _ _ ed
 have ey2:upd H1 y (.lst [.int (f':Nat)]) y=some (.lst ((ni [f']).map V.int)):=af
 show yf _ _ _ _ (upd H1 y (.lst [.int (f':Nat)]))
 generalize upd H1 y (.lst [.int (f':Nat)])=H2 at s2 ed2 ey2
 dsimp only[fQ,yf]
 refine tR (λσ H'=>∃(c4 c5:Option V) (S Y:List Nat) (n:Nat),σ=[some (.ref a),some (.ref wa),some (.ref d),some (.ref y),c4,c5]/\aD H H'/\H' d=some (.dK (fO (ni S)))/\H' y=some (.lst ((ni Y).map V.int))/\fW ahd f' (f' :: way) n (S,Y)=fW ahd f' (f' :: way) (m+2) ([],[f'])/\(Y.length+(m-S.length)<n/\n<=m+2)/\S.Nodup/\(∀p∈S,p<m)/\∀p∈Y,p<m)
  (λ_ H'=>2*(m-vt H' d)+vv H' y) ⟨none,none,[],[f'],m+2,rfl,s2,ed2,ey2,rfl,⟨by show 1+(m-0)<m+2;omega,AE _⟩,BK,λp h=>(nomatch h),λp h=>by rw[AB.mp h];exact fm⟩ ?_ (by rintro σ H Q Q' h ⟨v,e,k,t,q⟩;exact ⟨v,e,k,t,h _ _ q⟩)
 rintro σ H' ⟨c4,c5,S,Y,n,rfl,s',ed,ey,go,⟨ly,ln⟩,nd,rS,rY⟩
 refine ⟨_,rfl, !((ni Y).map V.int).isEmpty,.inl ⟨_,SqL.of ey,rfl⟩,?_⟩
 have mu0:2*(m-vt H' d)+vv H' y=2*(m-S.length)+Y.length:=by
  unfold vt vv
  rw[ed,ey]
  dsimp only
  rw[jZ,Aq,cM,cM]
 rcases List.eq_nil_or_concat Y with hY | ⟨Y',p,hY⟩
 ·subst hY
  refine cw ⟨_,rfl,q d H' S s' ed λp =>?_⟩
  rw[zk] at go
  unfold ba
  rw[<- go]
 rw[List.concat_eq_append] at hY
 subst hY
 have hne:(!((ni (Y'++[p])).map V.int).isEmpty)=true:=by rw[eI];simp[ni]
 rw[hne]
 have pm:p<m:=rY p (by simp)
 have dl:((ni (Y'++[p])).map V.int).dropLast=(ni Y').map V.int:=by rw[eI,AA];exact List.dropLast_concat
 refine cx ⟨_,rfl,.inl ⟨rfl,_,SqL.of ey⟩,y,_,.int p,rfl,rfl,ey,?_,?_⟩
 ·rw[eI,AA,As];simp[ni]
 rw[dl]
 have s3:aD H (upd H' y (.lst ((ni Y').map V.int))):=λb o e=>by rw[aq (av e hy0)];exact s' _ _ e
 have ed3:upd H' y (.lst ((ni Y').map V.int)) d=some (.dK (fO (ni S))):=by rw[aq ndy];exact ed
 have ey3:upd H' y (.lst ((ni Y').map V.int)) y=some (.lst ((ni Y').map V.int)):=af
 generalize upd H' y (.lst ((ni Y').map V.int))=H3 at s3 ed3 ey3
 obtain ⟨as,rb,ea0,eb,er0,_,_⟩:=L.row pm
 have ea:=s3 _ _ ea0
 have er:=s3 _ _ er0
 obtain ⟨n,rfl⟩:∃k,n=k+1:=⟨n-1,by omega⟩
 rw[xx] at go
 rw[As,Bs] at ly mu0
 refine ⟨_,rfl,_,rfl,a,_,(p:Int),_,rfl,rfl,SqL.of ea,eb,rb,rfl,⟨_,SqL.of er⟩,jk (xs:=(ni (ahd p)).map V.int)
  (λi σ H4=>∃(c5:Option V) (S4 Y4:List Nat),σ=[some (.ref a),some (.ref wa),some (.ref d),some (.ref y),some (.int (p:Nat)),c5]/\aD H H4/\H4 d=some (.dK (fO (ni S4)))/\H4 y=some (.lst ((ni Y4).map V.int))/\((ahd p).take i).foldl (bp f' (f' :: way)) (S,Y')=(S4,Y4)/\S4.Nodup/\(∀p∈S4,p<m)/\∀p∈Y4,p<m)
  ⟨_,S,Y',rfl,s3,ed3,ey3,rfl,nd,rS,λp h=>rY p (BO _ h)⟩ (λi σ H4 _ z =>?_) ?_ ?_⟩
 ·obtain ⟨_,_,_,_,s4,_⟩:=z
  exact SqL.of (s4 _ _ er0)
 ·rintro i x σ H4 hx ⟨c5,S4,Y4,rfl,s4,ed4,ey4,fo,nd4,r4,q4⟩
  obtain ⟨o,ho,rfl⟩:=vw hx
  have ew4:=s4 _ _ ew
  have tk:(ahd p).take (i+1)=(ahd p).take i++[o]:=by rw[CS,ho];rfl
  have fo':∀r,bp f' (f' :: way) (S4,Y4) o=r->((ahd p).take (i+1)).foldl (bp f' (f' :: way)) (S,Y')=r:=λr e=>by rw[tk,List.foldl_append,fo];exact e
  have om:o<m:=L.rng p o (A0 ho)
  refine ⟨_,rfl,_,rfl,wa,_,_,_,rfl,rfl,SqT.of ew4,at0,_,_,rfl,rfl,_,rfl,?_⟩
  by_cases c1:f'<o
  rotate_left
  ·rw[decide_eq_false (show ¬ ((f':Int)<(o:Int)) by omega)]
   exact cw ⟨_,S4,Y4,rfl,s4,ed4,ey4,fo' _ (by unfold bp;exact if_neg λz=>c1 z.1),nd4,r4,q4⟩
  rw[decide_eq_true (show ((f':Int)<(o:Int)) by omega)]
  refine cx ⟨_,rfl,_,rfl,wa,_,rfl,.inr (SqT.of ew4),rfl,iA _,_,rfl,vx (λc2 =>?_) λc2 =>?_⟩
  rotate_left
  ·exact ⟨_,S4,Y4,rfl,s4,ed4,ey4,fo' _ (by unfold bp;exact if_neg λz=>z.2.1 (cN.mp c2)),nd4,r4,q4⟩
  have c2:o∉f' :: way:=λz=>c2 (cN.mpr z)
  refine ⟨_,rfl,_,rfl,d,_,rfl,og.k (k:=Sum.inl (o:Int)) ed4,_,rfl,?_⟩
  rw[lT]
  by_cases c3:(o:Int)∈ni S4
  ·rw[decide_eq_true c3]
   exact cw ⟨_,S4,Y4,rfl,s4,ed4,ey4,fo' _ (by unfold bp;exact if_neg λz=>z.2.2 (cN.mp c3)),nd4,r4,q4⟩
  rw[decide_eq_false c3]
  have l4:=aV m S4 nd4 r4
  refine cx ⟨_,rfl,_,rfl,d,_,rfl,uP.k (k:=Sum.inl (o:Int)) ed4 (by rw[jZ,cM];exact ck (by omega)),?_⟩
  rw[vq c3]
  have ey5:upd H4 d (.dK (fO (ni S4++[(o:Int)]))) y=some (.lst ((ni Y4).map V.int)):=by rw[aq (CK ndy)];exact ey4
  refine ⟨_,rfl,.inl ⟨rfl,_,SqL.of ey5⟩,_,rfl,y,_,_,rfl,rfl,ey5,?_,_,S4++[o],Y4++[o],rfl,λb ob e =>?_,?_,?_,fo' _ (by unfold bp;exact if_pos ⟨c1,c2,λz=>c3 (cN.mpr z)⟩),?_,λx hx =>?_,λx hx =>?_⟩
  ·rw[Aq,cM]
   have rm:=fg (f:=f') (way:=f' :: way) ((ahd p).take i) (S,Y')
   rw[fo] at rm
   have l0:=aV m S nd rS
   dsimp only at rm
   exact ck (by omega)
  ·rw[aq (av e hy0),aq (av e hd)];exact s4 _ _ e
  ·rw[aq ndy,eI];exact af
  ·rw[af,eI,AA];rfl
  ·exact Cd.2 ⟨nd4,by simp,by intro a ha b hb;simp at hb;subst hb;intro z;subst z;exact c3 (cN.mpr ha)⟩
  ·rcases AI.mp hx with z | z
   ·exact r4 x z
   ·exact (AB.mp z) ▸ om
  ·rcases AI.mp hx with z | z
   ·exact q4 x z
   ·exact (AB.mp z) ▸ om
 ·rintro σ H4 ⟨c5,S4,Y4,rfl,s4,ed4,ey4,fo,nd4,r4,q4⟩
  rw[Aq,cM,DY] at fo
  have rm:=fg (f:=f') (way:=f' :: way) (ahd p) (S,Y')
  rw[fo] at rm go
  have l4:=aV m S4 nd4 r4
  have l0:=aV m S nd rS
  dsimp only at rm
  have mu:2*(m-vt H4 d)+vv H4 y=2*(m-S4.length)+Y4.length:=by
   unfold vt vv
   rw[ed4,ey4]
   dsimp only
   rw[jZ,Aq,cM,cM]
  exact ⟨⟨_,_,S4,Y4,n,rfl,s4,ed4,ey4,go,⟨by omega,by omega⟩,nd4,r4,q4⟩,by rw[mu,mu0];omega⟩
end
open PySem L2
theorem qa {X:Cx}{body:List Stmt}{D0:Ends}{σ0:St}{H0:Hp}(M:St->Hp->Prop)
  (g:∃sts:List Stmt,(∀t2,PSs X sts t2->(∀σ H,M σ H->t2 D0 σ H)->∃t,PSs X body t/\t D0 σ0 H0)/\∃t2,PSs X sts t2/\∀σ H,M σ H->t2 D0 σ H):∃t,PSs X body t/\t D0 σ0 H0:=by
 obtain ⟨sts,g,t2,p2,m2⟩:=g
 exact g t2 p2 m2
theorem oz {X:Cx}{E:XK}{j k:Nat}{x:Str}{ps:List Str}{sp:Sp}{e:Expr}{es:List Expr}{t:TA}{p pos:Pos}(hx:Passes (CX2 X.prog X.w) X E)(C:fe X.prog X.w X.K X.mg X.base k x ps sp)(hr:bW j X.A)(hj:k<=j)(hg:Gl X x)(ha:PA X (e :: es) t)
  (hdb:(x == ("__debug__" : Str))=false:=by decide) (he:BD (e :: es) X.env=(false,eval e X.env) :: BD es X.env:=by rfl) (hpl:(DV pos (BD es X.env)).any (·.1)=false:=by rfl) :
  PE X (.Call (.Name x p) (e :: es) [] pos) (tV sp [] E t):=by
 obtain ⟨f,fd,F,m,kp,b⟩:=C.ex
 exact qk F (hr.mono hj) hg m kp b .nil hx ha hdb he hpl
def aW (E:List (List Int))(p:Nat):List Nat:=(outs E (p:Int)).map Int.toNat
def RgE (m:Nat)(E:List (List Int)):Prop:=∀t∈E,∃x y,t=[x,y]/\0<=x/\x<(m:Int)/\0<=y/\y<(m:Int)
theorem Rg.rgE {m:Nat}{us:List (Addr×List Int)}(h:Rg (m:Int) us):RgE m (us.map (·.2)):=λt ht=>by
 obtain ⟨u,hu,rfl⟩:=A6.mp ht
 exact h u hu
theorem oA {m:Nat}{E:List (List Int)}(h:RgE m E){a b:Int}:b∈outs E a↔[a,b]∈E:=by
 unfold outs
 rw[A6]
 constructor
 ·rintro ⟨t,ht,e⟩
  obtain ⟨x,y,rfl,_⟩:=h t (B6.mp ht).1
  have e1:x=a:=of_decide_eq_true (B6.mp ht).2
  have e2:y=b:=e
  rw[<- e1, <- e2]
  exact (B6.mp ht).1
 ·intro hm
  exact ⟨[a,b],B6.mpr ⟨hm,decide_eq_true rfl⟩,rfl⟩
theorem gX {m:Nat}{E:List (List Int)}(h:RgE m E)(p:Nat):ni (aW E p)=outs E (p:Int):=by
 unfold ni aW
 rw[IS]
 refine (List.map_congr_left λx hx =>?_).trans (List.map_id _)
 obtain ⟨_,_,e,_,_,y0,_⟩:=h _ ((oA h).mp hx)
 have:x=_:=(CP (CP e).2).1
 show ((x.toNat:Nat):Int)=x
 omega
theorem j4 {m:Nat}{E:List (List Int)}(h:RgE m E){p q:Nat}:q∈aW E p↔[(p:Int),(q:Int)]∈E:=by
 rw[<- cN,gX h,oA h]
theorem cT {m:Nat}{E:List (List Int)}(h:RgE m E){p q:Nat}(hq:q∈aW E p):p<m/\q<m:=by
 obtain ⟨x,y,e,_,x1,_,y1⟩:=h _ ((j4 h).mp hq)
 have e1:=(CP e).1
 have e2:=(CP (CP e).2).1
 omega
theorem oB (E:List (List Int))(p:Nat):(aW E p).length<=E.length:=by unfold aW;rw[Aq];exact ow _ _
theorem gi {m:Nat}{E:List (List Int)}(h:RgE m E)(nd:E.Nodup)(p:Nat):(aW E p).Nodup:=by
 have:(outs E (p:Int)).Nodup:=by
  unfold outs
  refine BE.mpr ((nd.filter _).imp_of_mem λ{a b} ha hb n e=>n ?_)
  obtain ⟨x,y,rfl,_⟩:=h a (B6.mp ha).1
  obtain ⟨x',y',rfl,_⟩:=h b (B6.mp hb).1
  have e1:x=p:=of_decide_eq_true (B6.mp ha).2
  have e2:x'=p:=of_decide_eq_true (B6.mp hb).2
  have e:y=y':=e
  rw[e1,e2,e]
 rw[<- gX h] at this
 unfold ni at this
 exact (BE.mp this).imp λh e=>h (by rw[e])
theorem qW {m:Nat}{E E':List (List Int)}(h:RgE m E)(pm:E'.Perm (E.map swp)):RgE m E':=λt ht=>by
 obtain ⟨u,hu,rfl⟩:=A6.mp (pm.mem_iff.mp ht)
 obtain ⟨x,y,rfl,x0,x1,y0,y1⟩:=h u hu
 exact ⟨y,x,rfl,y0,y1,x0,x1⟩
theorem xy {m:Nat}{E E':List (List Int)}(h:RgE m E)(pm:E'.Perm (E.map swp)){p q:Nat}(hq:q∈aW E p):p∈aW E' q:=by
 rw[j4 (qW h pm),pm.mem_iff,A6]
 exact ⟨_,(j4 h).mp hq,rfl⟩
theorem qX {α:Type}{S:Nat->Bool}{g:Nat->List α}:∀L:List Nat,(L.filter S).flatMap g=L.flatMap λp=>if S p=true then g p else []
 | []=>rfl
 | p :: L=>by
  rw[Bx, <- qX L]
  cases h:S p with
  | true=>rw[Ek h,Bx,if_pos rfl]
  | false=>rw[Em (by rw[h];decide),if_neg AV];rfl
abbrev xX:Sp:=λvs H Q _=>∃(r:Addr) (m:Nat) (ts:List (Addr×List Int)),vs=[.ref r]/\Ow H r (m:Int) ts/\m<=200/\ts.length<=250/\∀(l:Addr) (H':Hp) (as:List Addr) (E':List (List Int)),aD H H'->H' l=some (.lst (as.map V.ref))->as.length=m->(∀(j:Nat) a,as[j]? = some a->H' a=some (.lst ((outs E' (j:Int)).map V.int)))->E'.Perm ((ts.map (·.2)).map swp)->Q (.ref l) H'
@[irreducible] def xA:Sp:=xX
theorem j6 {vs:List V}{H:Hp}{Q:VK}{E:XK}:xA vs H Q E↔xX vs H Q E:=by
 delta xA
 exact CQ
section
variable  {P:AN}{w:Bh}{K:Av}{mg:Str->Option Au}{base:Heap}{f T:Addr}{fd:BJ}
theorem sV:aI ["web"] ["web"] (au jS):=⟨rfl,rfl,rfl,by decide +kernel,rfl,by decide +kernel,by decide +kernel⟩
theorem sW (F:Fun K "in_lists" "in_lists" jS f fd)(B:Blt mg)(cOutLists:Cal P w K mg base 1 "out_lists" ["web"] ox)(cTurnedArrows:Cal P w K mg base 1 "turned_arrows" ["web"] i4)(C:Cst mg):bE P w K mg base CX0 2 f fd ["web"] xA:=by
 refine F.ok sV (λvs H Q E h =>?_) (λcdv A outer s H vs Q E hr h =>?_)
 ·obtain ⟨_,_,_,rfl,_⟩:=j6.mp h
  rfl
 obtain ⟨r,m,ts,rfl,W,m2,tl,q⟩:=j6.mp h
 refine ⟨_,(@ak _ _ _ (@aJ _ _ _ _ (az cOutLists hr (by decide) rfl (@aa _ _ _ _ _ (az cTurnedArrows hr (by decide) rfl (@aa _ _ _ _ _ (pv 0) ae rfl)) ae rfl)))),?_⟩
 refine ⟨_,rfl,fj.mpr ⟨r,m,ts,rfl,W,tl,λb us H1 s1 W1 pm =>?_⟩⟩
 have lu:us.length=ts.length:=by have:=pm.length_eq;simpa using this
 exact fL.mpr ⟨b,m,us,rfl,W1,m2,by omega,λl H2 as s2 el la hr=>q l H2 as _ (s1.trans s2) el la hr pm⟩
end
@[irreducible] def oD (C:Addr):Nat->Sp
 | 0=>λ_ _ _ _=>False
 | n+1=>λvs H Q E=>∃(bh ah wa l:Addr) (m f la:Nat) (out ahd:Nat->List Nat) (way:List Nat) (us:List (Addr×List Int)),vs=[.ref bh,.ref ah,.ref wa,.ref l]/\eR l H bh m out/\eR l H ah m ahd/\H wa=some (.tup ((ni (f :: way)).map V.int))/\(∃w0,f :: way=w0++[la])/\H l=some (.lst (us.map λu =>.ref u.1))/\Tus H us/\us.length<=300/\(f :: way).Nodup/\(∀x,x∈f :: way->x<m)/\m<=40/\m+1<=n+(f :: way).length/\(us.length+(goR (ba ahd m f) out f n (f :: way) la).length<=300->∀(ws:List (Addr×List Int)) (H':Hp),Bt l H H'->H' l=some (.lst ((us++ws).map λu =>.ref u.1))->Tus H' (us++ws)->ws.map (·.2)=(goR (ba ahd m f) out f n (f :: way) la).map ni->Q .non H')/\(300<us.length+(goR (ba ahd m f) out f n (f :: way) la).length->∀H',Bt l H H'->E (.ref C) none H')
theorem gY {C:Addr}{n:Nat}{vs:List V}{H:Hp}{Q:VK}{E:XK}:oD C (n+1) vs H Q E↔∃(bh ah wa l:Addr) (m f la:Nat) (out ahd:Nat->List Nat) (way:List Nat) (us:List (Addr×List Int)),vs=[.ref bh,.ref ah,.ref wa,.ref l]/\eR l H bh m out/\eR l H ah m ahd/\H wa=some (.tup ((ni (f :: way)).map V.int))/\(∃w0,f :: way=w0++[la])/\H l=some (.lst (us.map λu =>.ref u.1))/\Tus H us/\us.length<=300/\(f :: way).Nodup/\(∀x,x∈f :: way->x<m)/\m<=40/\m+1<=n+(f :: way).length/\(us.length+(goR (ba ahd m f) out f n (f :: way) la).length<=300->∀(ws:List (Addr×List Int)) (H':Hp),Bt l H H'->H' l=some (.lst ((us++ws).map λu =>.ref u.1))->Tus H' (us++ws)->ws.map (·.2)=(goR (ba ahd m f) out f n (f :: way) la).map ni->Q .non H')/\(300<us.length+(goR (ba ahd m f) out f n (f :: way) la).length->∀H',Bt l H H'->E (.ref C) none H'):=by
 unfold oD
 exact CQ
theorem xB {C:Addr}{vs:List V}{H:Hp}{Q:VK}{E:XK}:¬ oD C 0 vs H Q E:=by
 unfold oD
 exact id
section
variable  {P:AN}{w:Bh}{K:Av}{mg:Str->Option Au}{base:Heap}{f:Addr}{fd:BJ}{c_WebError c_BadWeb c_NoStep c_NoText c_TooMany c_NoTie c_NoRing c_NotClear c_NotThree c_BadBoard c_NoRow c_NoBack:Addr}
theorem iB:aI ["behind", "ahead", "way", "found", "leading", "place"] ["behind", "ahead", "way", "found"] (au gW):=⟨rfl,rfl,rfl,by decide +kernel,rfl,by decide +kernel,by decide +kernel⟩
theorem sZ (F:Fun K "go_round" "go_round" gW f fd)(B:Blt mg)(n:Nat)(xGo:fe P w K mg base (1+n) "go_round" ["behind", "ahead", "way", "found"] (oD c_TooMany n))(Z:Exs K mg c_WebError c_BadWeb c_NoStep c_NoText c_TooMany c_NoTie c_NoRing c_NotClear c_NotThree c_BadBoard c_NoRow c_NoBack)(cLeadingBack:Cal P w K mg base 1 "leading_back" ["ahead", "way"] mU)(C:Cst mg):bE P w K mg base (CX2 P w) (1+n+1) f fd ["behind", "ahead", "way", "found"] (oD c_TooMany (n+1)):=by
 refine F.Aa iB (λvs H Q E h =>?_) (λcdv A outer s H vs Q E hr h =>?_)
 ·obtain ⟨_,_,_,_,_,_,_,_,_,_,_,rfl,_⟩:=gY.mp h
  rfl
 obtain ⟨bh,ah,wa,l,m,f',la,out,ahd,way,us,rfl,L1,L2,ew,⟨w0,hw⟩,el,tu,lu,nd,rg,m40,en,q1,q2⟩:=gY.mp h
 have hu:(ia CX0 P w K mg base ["behind", "ahead", "way", "found", "leading", "place"] "go_round" (au gW) f cdv A outer s H E).nox.A.units+1<cLine:=xP hr
 obtain ⟨t_MOST_ROUNDS,w_MOST_ROUNDS⟩:=C.c_MOST_ROUNDS
 obtain ⟨k,rfl⟩:∃k,n=k+1:=by
  have:=aV m _ nd rg
  exact ⟨n-1,by omega⟩
 have lw:=aV m _ nd rg
 have fm:f'<m:=rg f' (AM ..)
 have lm:la<m:=rg la (by rw[hw];simp)
 have at0:atI ((ni (f' :: way)).map V.int) ((0:Nat):Int)=some (.int (f':Nat)):=bR rfl
 have atl:atI ((ni (f' :: way)).map V.int) (-1)=some (.int (la:Nat)):=by
  rw[hw,eI,AA];exact nF _ _
 have nwl:wa≠l:=eL ew el (by intro z;cases z)
 obtain ⟨as,rb,ea0,eb,er0,nbl,nrl⟩:=L1.row lm
 have GG:goR (ba ahd m f') out f' (k+1) (f' :: way) la=(if f'∈out la then [f' :: way] else [])++(out la).flatMap λp=>if ba ahd m f' (f' :: way) p=true then goR (ba ahd m f') out f' k (f' :: way++[p]) p else []:=by
  rw[goR,qX]
 rw[GG] at q1 q2
 generalize hgs:(λp=>if ba ahd m f' (f' :: way) p=true then goR (ba ahd m f') out f' k (f' :: way++[p]) p else [])=gs at q1 q2
 have gsp:∀p,gs p=if ba ahd m f' (f' :: way) p=true then goR (ba ahd m f') out f' k (f' :: way++[p]) p else []:=λp=>by rw[<- hgs]
 refine qa (λσ H'=>∃(c4 c5:Option V) (vs:List (Addr×List Int)),σ=[some (.ref bh),some (.ref ah),some (.ref wa),some (.ref l),c4,c5]/\Bt l H H'/\H' l=some (.lst ((us++vs).map λu =>.ref u.1))/\Tus H' (us++vs)/\vs.map (·.2)=(if f'∈out la then [f' :: way] else []).map ni/\us.length+vs.length<=300) ⟨_,λtA pA mA=>⟨_,(@aj _ _ _ _ _ (@bD _ _ _ _ _ _ _ _ (aG rL (@aY _ _ _ _ _ _ _ bF (pv 2) ai (λ_ _=>rfl)) (@aY _ _ _ _ _ _ _ cq (pv 0) (@aY _ _ _ _ _ _ _ bF (pv 2) (qf mi ai) (λ_ _=>rfl)) (λ_ _=>rfl)) rfl) (@aj _ _ _ _ _ (@bD _ _ _ _ _ _ _ _ (aG xN (ao aH rfl B.b_len bX (@aa _ _ _ _ _ (pv 3) ae rfl)) (bP (v :=.int 300) rfl w_MOST_ROUNDS ⟨_,rfl⟩) (aS _)) (@ak _ _ _ (va (x := "TooMany") Ab ⟨Z.xe_TooMany,Z.x_TooMany⟩ hr.hd rfl (@aa _ _ _ _ _ ye ae rfl))) aP)
   (@ak _ _ _ (bQ (eN Bo B4 B5 cz (pv 3) (@aa _ _ _ _ _ (pv 2) ae rfl))))) aP)
  pA),?gA⟩,?hA⟩
 case gA =>
  refine ⟨_,rfl,wa,_,_,_,rfl,rfl,SqT.of ew,at0,_,rfl,_,rfl,_,rfl,wa,_,_,_,rfl,rfl,SqT.of ew,atl,bh,_,_,_,rfl,rfl,SqL.of ea0,eb,rb,_,rfl,.inl (SqL.of er0),rfl,iA _,_,rfl,Aj (λc1 =>?_) λc1 =>?_⟩
  ·have c1:=cN.mp c1
   refine ⟨_,rfl,l,_,rfl,.inl (SqL.of el),_,_,rfl,rfl,_,rfl,?_⟩
   by_cases c2:us.length=300
   ·rw[decide_eq_true (show (((us.map λu=>V.ref u.1).length:Int)≥300) by rw[Aq];omega)]
    refine cx ⟨(by show 1<=AH;decide),q2 ?_ _ (Bt.refl _ _)⟩
    rw[if_pos c1,As,Bs]
    omega
   rw[decide_eq_false (show ¬ (((us.map λu=>V.ref u.1).length:Int)≥300) by rw[Aq];omega)]
   refine cw ⟨_,rfl,.inl ⟨rfl,_,SqL.of el⟩,_,rfl,l,_,_,rfl,rfl,el,(by rw[Aq];exact ck (by omega)),mA _ _ ⟨none,none,[(wa,ni (f' :: way))],rfl,Bt.upd (Bt.refl _ _) _,?_,?_,?_,?_⟩⟩
   ·rw[af,AA];rfl
   ·intro u hu
    rcases AI.mp hu with z | z
    ·rw[aq (eL (tu u z) el (by intro z;cases z))];exact tu u z
    ·rw[AB] at z;subst z
     rw[aq nwl];exact ew
   ·rw[if_pos c1];rfl
   ·show us.length+1<=300;omega
  ·have c1:f'∉out la:=λz=>c1 (cN.mpr z)
   refine mA _ _ ⟨none,none,[],rfl,Bt.refl _ _,by rw[Bj];exact el,by rw[Bj];exact tu,by rw[if_neg c1];rfl,by show us.length+0<=300;omega⟩
 case hA =>
  refine ⟨_,(@aj _ _ _ _ _ (@aE _ _ 4 _ _ _ _ iB.nd rfl (Or.inl rfl) (az cLeadingBack hr (by omega) rfl (@aa _ _ _ _ _ (pv 1) (@aa _ _ _ _ _ (pv 2) ae rfl) rfl)) rfl (by first | exact .inl rfl | exact .inr rfl | assumption))
  (@ak _ _ _ (@cp _ _ _ _ _ _ _ _ HF rfl (@gx _ _ _ _ (@aY _ _ _ _ _ _ _ cq (pv 0) (@aY _ _ _ _ _ _ _ bF (pv 2) (qf mi ai) (λ_ _=>rfl)) (λ_ _=>rfl))) (aN (i:=5) iB.nd rfl (Or.inl rfl))
   (@ak _ _ _ (@bD _ _ _ _ _ _ _ _ (tK (yT hu (pv 5) (pv 4))) (@ak _ _ _ (bQ (oz xW xGo hr (AE _) rfl (@aa _ _ _ _ _ (pv 0) (@aa _ _ _ _ _ (pv 1) (@aa _ _ _ _ _ (@ax _ _ _ _ _ _ _ _ cb (pv 2) (@aL _ _ _ _ _ (@aa _ _ _ _ _ (pv 5) ae rfl))) (@aa _ _ _ _ _ (pv 3) ae rfl) rfl) rfl) rfl)))) aP)) (λ_=>rfl)))),?_⟩
  rintro σ H1 ⟨c4,c5,vs,rfl,b1,el1,tu1,ev,lv⟩
  have lvs:vs.length=(if f'∈out la then [f' :: way] else []).length:=by have:=congrArg List.length ev;rwa [Aq,Aq] at this
  refine ⟨_,rfl,_,rfl,gh.mpr ⟨ah,wa,l,m,f',ahd,way,rfl,L2.bt b1,b1 _ _ nwl ew,fm,m40,by rw[Bk] at lw;omega,λd H2 S s2 ed hS =>?_⟩⟩
  have el2:=s2 _ _ el1
  have tu2:Tus H2 (us++vs):=tu1.same s2
  have ndl:d≠l:=eL ed el2 (by intro z;cases z)
  have b2:=b1.trans (Bt.of s2)
  refine ⟨_,rfl,_,rfl,_,rfl,wa,_,_,_,rfl,rfl,SqT.of (b2 _ _ nwl ew),atl,bh,_,_,_,rfl,rfl,SqL.of (b2 _ _ nbl ea0),eb,rb,rfl,⟨_,SqL.of (b2 _ _ nrl er0)⟩,jk (xs:=(ni (out la)).map V.int)
   (λi σ H'=>∃(c5:Option V) (ws:List (Addr×List Int)),σ=[some (.ref bh),some (.ref ah),some (.ref wa),some (.ref l),some (.ref d),c5]/\Bt l H H'/\H' d=some (.dK (fO (ni S)))/\H' l=some (.lst ((us++vs++ws).map λu =>.ref u.1))/\Tus H' (us++vs++ws)/\ws.map (·.2)=(((out la).take i).flatMap gs).map ni/\us.length+vs.length+ws.length<=300)
   ⟨_,[],rfl,b2,ed,by rw[Bj];exact el2,by rw[Bj];exact tu2,rfl,by show us.length+vs.length+0<=300;omega⟩ (λi σ H' _ z =>?_) ?_ ?_⟩
  ·obtain ⟨_,_,_,b4,_⟩:=z
   exact SqL.of (b4 _ _ nrl er0)
  ·rintro i x σ H4 hx ⟨c5,ws,rfl,b4,ed4,el4,tu4,ews,lws⟩
   obtain ⟨p,hp,rfl⟩:=vw hx
   have ip:i<(out la).length:=(AG.mp hp).1
   have ft:=fJ gs (out la) i ip
   have pm:p<m:=L1.rng la p (A0 hp)
   have lwe:ws.length=(((out la).take i).flatMap gs).length:=by have:=congrArg List.length ews;rwa [Aq,Aq] at this
   refine ⟨_,rfl,_,rfl,d,_,rfl,og.k (k:=Sum.inl (p:Int)) ed4,_,rfl,?_⟩
   rw[lT]
   have hSp:=hS p
   by_cases c:(p:Int)∈ni S
   rotate_left
   ·rw[decide_eq_false c]
    rw[decide_eq_false (λz=>c (cN.mpr z))] at hSp
    refine cw ⟨_,ws,rfl,b4,ed4,el4,tu4,?_,lws⟩
    rw[ft.2 p hp,gsp, <- hSp,if_neg AV,Bj];exact ews
   rw[decide_eq_true c]
   rw[decide_eq_true (cN.mp c)] at hSp
   have own:=(ba.back (out:=λ_=>[]) (f:=f') (f' :: way) (λp q h=>nomatch h) L2.rng).own p hSp.symm
   have gp:gs p=goR (ba ahd m f') out f' k (f' :: way++[p]) p:=by rw[gsp, <- hSp,if_pos rfl]
   refine cx ⟨_,rfl,_,rfl,_,rfl,_,rfl,(by show 1<=AH;decide),λt ht =>?_⟩
   have s5:=ag ht (.tup [.int (p:Nat)])
   have et:upd H4 t (.tup [.int (p:Nat)]) t=some (.tup [.int (p:Nat)]):=af
   have b5:=b4.trans (Bt.of s5)
   have tu5:=tu4.same s5
   have el5:=s5 _ _ el4
   have ed5:=s5 _ _ ed4
   generalize upd H4 t (.tup [.int (p:Nat)])=H5 at s5 et b5 tu5 el5 ed5
   refine ⟨wa,t,_,_,rfl,rfl,b5 _ _ nwl ew,et,?_,λw2 H6 s6 ew2=>⟨_,rfl,gY.mpr ⟨bh,ah,w2,l,m,f',p,out,ahd,way++[p],us++vs++ws,rfl,(L1.bt b5).same s6,(L2.bt b5).same s6,?_,⟨f' :: way,rfl⟩,s6 _ _ el5,tu5.same s6,?_,?_,?_,m40,?_,?_,?_⟩⟩⟩
   ·rw[Aq,cM];exact small (by show _+1<=_;omega)
   ·rw[ew2,show f' :: (way++[p])=(f' :: way)++[p] from rfl,eI,AA];rfl
   ·rw[As,As];exact lws
   ·rw[show f' :: (way++[p])=(f' :: way)++[p] from rfl]
    exact Cd.mpr ⟨nd,BL.mpr ⟨BP,BK⟩,λx hx y hy e=>own.2 (by rw[<- AB.mp hy, <- e];exact hx)⟩
   ·intro x hx
    rw[show f' :: (way++[p])=(f' :: way)++[p] from rfl] at hx
    rcases AI.mp hx with z | z
    ·exact rg x z
    ·exact (AB.mp z) ▸ pm
   ·rw[show f' :: (way++[p])=(f' :: way)++[p] from rfl,As,Bs];omega
   ·rw[show f' :: (way++[p])=(f' :: way)++[p] from rfl, <- gp]
    intro h3 ws' H7 b7 el7 tu7 ews'
    have b8:=(b5.trans (Bt.of s6)).trans b7
    have lw':ws'.length=(gs p).length:=by have:=congrArg List.length ews';rwa [Aq,Aq] at this
    refine ⟨_,ws++ws',rfl,b8,b7 _ _ ndl (s6 _ _ ed5),by rw[<- A4];exact el7,by rw[<- A4];exact tu7,?_,?_⟩
    ·rw[AA,ews,ews',ft.2 p hp,AA]
    ·rw[As,As] at h3
     rw[As];omega
   ·rw[show f' :: (way++[p])=(f' :: way)++[p] from rfl, <- gp]
    intro h3 H7 b7
    refine q2 ?_ _ ((b5.trans (Bt.of s6)).trans b7)
    have f1:=ft.1
    rw[ft.2 p hp,As] at f1
    rw[As,As] at h3
    rw[As]
    omega
  ·rintro σ H4 ⟨c5,ws,rfl,b4,ed4,el4,tu4,ews,lws⟩
   rw[Aq,cM,DY] at ews
   have lwe:ws.length=((out la).flatMap gs).length:=by have:=congrArg List.length ews;rwa [Aq,Aq] at this
   refine q1 ?_ (vs++ws) H4 b4 (by rw[<- A4];exact el4) (by rw[<- A4];exact tu4) ?_
   ·rw[As];omega
   ·rw[AA,AA,ev,ews]
end
open PySem L2
theorem j7 {out:List (Addr×List Int)}(h:out.Pairwise λa b=>HT.lexLt b.2 a.2=false):(out.map (·.2)).Pairwise cW:=BE.mpr h
theorem Bt.past {l:Addr}{H H' H2:Hp}(s:aD H H')(h:H l=none)(b:Bt l H' H2):aD H H2:=λx u e=>b x u (av e h) (s _ _ e)
theorem vy {out ahd:Nat->List Nat}{f m:Nat}(ho:∀p q,q∈out p->q<m)(ha:∀q p,p∈ahd q->p<m)(hf:f<m):∀k:Nat,goR (ba ahd m f) out f (m+k) [f] f=goR (ba ahd m f) out f m [f] f
 | 0=>rfl
 | k+1=>(vk ho (λway p h=>(ba.back (out:=λ_=>[]) way (λp q h=>nomatch h) ha).own p h) (m+k) [f] f (BL.mpr ⟨BP,BK⟩) (λx hx=>by rw[AB.mp hx];exact hf) (by show m+1<=m+k+1;omega)).trans (vy ho ha hf k)
theorem vz {lead:List Nat->Nat->Bool}{out:Nat->List Nat}{f:Nat}:∀(n:Nat) (way:List Nat) (l:Nat),way≠[]->∀x∈goR lead out f n way l,x≠[]
 | 0,_,_,_,x,h=>nomatch h
 | n+1,way,l,hw,x,h=>by
  rw[goR] at h
  rcases AI.mp h with z | z
  ·split at z
   ·rw[AB.mp z];exact hw
   ·cases z
  ·obtain ⟨p,_,hp⟩:=Cv.mp z
   exact vz n _ _ (by simp) x hp
@[irreducible] def oE (C:Addr):Sp:=λvs H Q E=>∃(r:Addr) (m:Nat) (ts:List (Addr×List Int)),vs=[.ref r]/\Ow H r (m:Int) ts/\m<=40/\ts.length<=200/\(ts.map (·.2)).Nodup/\(300<(rounds (aW (ts.map (·.2))) m).length->∀H',aD H H'->E (.ref C) none H')/\((rounds (aW (ts.map (·.2))) m).length<=300->∀(l:Addr) (us:List (Addr×List Int)) (H':Hp),aD H H'->H l=none->H' l=some (.lst (us.map λu =>.ref u.1))->Tus H' us->(us.map (·.2)).Perm ((rounds (aW (ts.map (·.2))) m).map ni)->(us.map (·.2)).Pairwise cW->Q (.ref l) H')
theorem fM {C:Addr}{vs:List V}{H:Hp}{Q:VK}{E:XK}:oE C vs H Q E↔∃(r:Addr) (m:Nat) (ts:List (Addr×List Int)),vs=[.ref r]/\Ow H r (m:Int) ts/\m<=40/\ts.length<=200/\(ts.map (·.2)).Nodup/\(300<(rounds (aW (ts.map (·.2))) m).length->∀H',aD H H'->E (.ref C) none H')/\((rounds (aW (ts.map (·.2))) m).length<=300->∀(l:Addr) (us:List (Addr×List Int)) (H':Hp),aD H H'->H l=none->H' l=some (.lst (us.map λu =>.ref u.1))->Tus H' us->(us.map (·.2)).Perm ((rounds (aW (ts.map (·.2))) m).map ni)->(us.map (·.2)).Pairwise cW->Q (.ref l) H'):=by
 delta oE
 exact CQ
section
variable  {P:AN}{w:Bh}{K:Av}{mg:Str->Option Au}{base:Heap}{f:Addr}{fd:BJ}{c_WebError c_BadWeb c_NoStep c_NoText c_TooMany c_NoTie c_NoRing c_NotClear c_NotThree c_BadBoard c_NoRow c_NoBack:Addr}
theorem cG:aI ["web", "behind", "ahead", "found", "first"] ["web"] (au fY):=⟨rfl,rfl,rfl,by decide +kernel,rfl,by decide +kernel,by decide +kernel⟩
theorem oF (F:Fun K "all_rounds" "all_rounds" fY f fd)(B:Blt mg)(Z:Exs K mg c_WebError c_BadWeb c_NoStep c_NoText c_TooMany c_NoTie c_NoRing c_NotClear c_NotThree c_BadBoard c_NoRow c_NoBack)(xGo:fe P w K mg base 42 "go_round" ["behind", "ahead", "way", "found"] (oD c_TooMany 41))(cOutLists:Cal P w K mg base 1 "out_lists" ["web"] ox)(cInLists:Cal P w K mg base 2 "in_lists" ["web"] xA)(C:Cst mg):bE P w K mg base (CX2 P w) 43 f fd ["web"] (oE c_TooMany):=by
 refine F.Aa cG (λvs H Q E h =>?_) (λcdv A outer s H vs Q E hr h =>?_)
 ·obtain ⟨_,_,_,rfl,_⟩:=fM.mp h
  rfl
 obtain ⟨r,m,ts,rfl,W,m40,tl,nd,q1,q2⟩:=fM.mp h
 refine ⟨_,(@aj _ _ _ _ _ (@aE _ _ 1 _ _ _ _ cG.nd rfl (Or.inl rfl) (az cOutLists hr (by decide) rfl (@aa _ _ _ _ _ (pv 0) ae rfl)) rfl (by first | exact .inl rfl | exact .inr rfl | assumption))
  (@aj _ _ _ _ _ (@aE _ _ 2 _ _ _ _ cG.nd rfl (Or.inl rfl) (az cInLists hr (by decide) rfl (@aa _ _ _ _ _ (pv 0) ae rfl)) rfl (by first | exact .inl rfl | exact .inr rfl | assumption))
  (@aj _ _ _ _ _ (@aE _ _ 3 _ _ _ _ cG.nd rfl (Or.inl rfl) (@bK _ _ _ _ ae) rfl (by first | exact .inl rfl | exact .inr rfl | assumption))
  (@aj _ _ _ _ _ (@cp _ _ _ _ _ _ _ _ HF rfl (aX rfl B.b_range (@aa _ _ _ _ _ (@aY _ _ _ _ _ _ _ bF (pv 0) ai (λ_ _=>rfl)) ae rfl)) (aN (i:=4) cG.nd rfl (Or.inl rfl))
   (@ak _ _ _ (bQ (oz xW xGo hr (by decide) rfl (@aa _ _ _ _ _ (pv 1) (@aa _ _ _ _ _ (pv 2) (@aa _ _ _ _ _ (@aL _ _ _ _ _ (@aa _ _ _ _ _ (pv 4) ae rfl)) (@aa _ _ _ _ _ (pv 3) ae rfl) rfl) rfl) rfl)))) (λ_=>rfl))
  (@ak _ _ _ (@aJ _ _ _ _ (ao bS rfl B.b_sorted cA (@aa _ _ _ _ _ (pv 3) ae rfl)))))))),?_⟩
 have rE:=W.rng |> Rg.rgE
 refine ⟨_,rfl,fL.mpr ⟨r,m,ts,rfl,W,by omega,by omega,λbh H1 as s1 eb la hb =>?_⟩⟩
 refine ⟨_,rfl,j6.mpr ⟨r,m,ts,rfl,W.same s1,by omega,by omega,λah H2 as2 E' s2 ea la2 ha pm =>?_⟩⟩
 have s02:=s1.trans s2
 have rE':=qW rE pm
 generalize hE:ts.map (·.2)=E at rE pm nd q1 q2 hb
 have lE:E.length<=200:=by rw[<- hE,Aq];exact tl
 have lE':E'.length<=200:=by rw[pm.length_eq,Aq];exact lE
 refine ⟨(by show 0<=AH;decide),λl hl =>?_⟩
 have s3:=ag hl (.lst [])
 have hl0:H l=none:=s02.free hl
 have el:upd H2 l (.lst []) l=some (.lst []):=af
 have nA:l∉as:=λz=>by
  obtain ⟨j,hj⟩:=Bw.mp z
  have:=s2 _ _ (hb j _ hj)
  rw[hl] at this;cases this
 have nA2:l∉as2:=λz=>by
  obtain ⟨j,hj⟩:=Bw.mp z
  have:=ha j _ hj
  rw[hl] at this;cases this
 have L1:eR l (upd H2 l (.lst [])) bh m (aW E):=⟨⟨as,s3 _ _ (s2 _ _ eb),av (s2 _ _ eb) hl,nA,la,λj b hj=>by rw[gX rE];exact s3 _ _ (s2 _ _ (hb j b hj))⟩,λp q h=>(cT rE h).2,λp=>A5 (oB _ _) (by omega)⟩
 have L2:eR l (upd H2 l (.lst [])) ah m (aW E'):=⟨⟨as2,s3 _ _ ea,av ea hl,nA2,la2,λj b hj=>by rw[gX rE'];exact s3 _ _ (ha j b hj)⟩,λp q h=>(cT rE' h).2,λp=>A5 (oB _ _) (by omega)⟩
 have W3:=W.same (s02.trans s3)
 have s03:=s02.trans s3
 generalize upd H2 l (.lst [])=H3 at s3 el L1 L2 W3 s03
 obtain ⟨t,e1,e2⟩:=W3.at'
 have nrl:r≠l:=by
  obtain ⟨t',e1',_⟩:=W.at'
  exact av e1' hl0
 have rp:(eE (aW E) (aW E') m).Perm (rounds (aW E) m):=gU (gi rE nd) (λp q h=>xy rE pm h) λq p h=>(cT rE' h).2
 rw[<- rp.length_eq] at q1 q2
 generalize hg:(λf=>goR (ba (aW E') m f) (aW E) f m [f] f)=gf
 have hgf:∀f,f<m->goR (ba (aW E') m f) (aW E) f 40 [f] f=gf f:=λf hf=>by
  rw[<- hg]
  have:=vy (f:=f) L1.rng L2.rng hf (40-m)
  rwa [EU m40] at this
 have hR:eE (aW E) (aW E') m=(Ba m).flatMap gf:=by unfold eE;rw[<- hg]
 refine ⟨_,rfl,r,_,0,_,rfl,rfl,SqT.of e1,rfl,(m:Int),rfl,by omega,by omega,bJ (λi σ H'=>∃(c5:Option V) (us:List (Addr×List Int)),σ=[some (.ref r),some (.ref bh),some (.ref ah),some (.ref l),c5]/\Bt l H3 H'/\H' l=some (.lst (us.map λu =>.ref u.1))/\Tus H' us/\us.map (·.2)=(((Ba m).take i).flatMap gf).map ni/\us.length<=300) ⟨_,[],rfl,Bt.refl _ _,el,(λu hu=>by cases hu),rfl,by decide⟩ ?_ ?_⟩
 ·rintro i σ H4 hi ⟨c5,us,rfl,b4,el4,tu4,eus,lus⟩
  have hi:i<m:=by omega
  have e0:((0:Int)+(i:Int))=((i:Nat):Int):=by omega
  have ir:(Ba m)[i]? = some i:=ET hi
  have ft:=fJ gf (Ba m) i (by rw[BN];exact hi)
  have lue:us.length=(((Ba m).take i).flatMap gf).length:=by have:=congrArg List.length eus;rwa [Aq,Aq] at this
  try rw[e0]
  refine ⟨_,rfl,_,rfl,_,rfl,(by show 1<=AH;decide),λt ht=>⟨_,rfl,?_⟩⟩
  have s5:=ag ht (.tup [.int (i:Nat)])
  have et:upd H4 t (.tup [.int (i:Nat)]) t=some (.tup ((ni [i]).map V.int)):=af
  have b5:=b4.trans (Bt.of s5)
  have tu5:=tu4.same s5
  have el5:=s5 _ _ el4
  try rw[e0]
  show oD c_TooMany 41 _ (upd H4 t (.tup [.int (i:Nat)])) _ _
  generalize upd H4 t (.tup [.int (i:Nat)])=H5 at s5 et b5 tu5 el5
  refine gY.mpr ⟨bh,ah,t,l,m,i,i,aW E,aW E',[],us,rfl,L1.bt b5,L2.bt b5,et,⟨[],rfl⟩,el5,tu5,lus,BL.mpr ⟨BP,BK⟩,λx hx=>by rw[AB.mp hx];exact hi,m40,by show m+1<=40+1;omega,?_,?_⟩
  ·rw[hgf i hi]
   intro h3 ws H7 b7 el7 tu7 ews
   exact ⟨_,us++ws,rfl,b5.trans b7,el7,tu7,by rw[AA,eus,ews,ft.2 i ir,AA],by
    have lw':ws.length=(gf i).length:=by have:=congrArg List.length ews;rwa [Aq,Aq] at this
    rw[As];omega⟩
  ·rw[hgf i hi]
   intro h3 H7 b7
   refine q1 ?_ _ (Bt.past s03 hl0 (b5.trans b7))
   have f1:=ft.1
   rw[ft.2 i ir,As] at f1
   rw[hR];omega
 ·rintro σ H4 ⟨c5,us,rfl,b4,el4,tu4,eus,lus⟩
  have eus:us.map (·.2)=(eE (aW E) (aW E') m).map ni:=by
   rw[hR,eus]
   congr 2
   refine Bi ?_
   rw[BN];omega
  have lue:us.length=(eE (aW E) (aW E') m).length:=by have:=congrArg List.length eus;rwa [Aq,Aq] at this
  refine ⟨_,rfl,l,us,rfl,.inl (SqL.of el4),λu hu=>⟨SqT.of (tu4 u hu),?_⟩,λl2 out hl2 pm2 so =>?_⟩
  ·have:u.2∈us.map (·.2):=Cm hu
   rw[eus,hR] at this
   obtain ⟨x,hx,ex⟩:=A6.mp this
   obtain ⟨p,_,hp⟩:=Cv.mp hx
   rw[<- hg] at hp
   have:=vz _ _ _ (by simp) x hp
   rw[<- ex]
   unfold ni
   intro z
   exact this (D2.mp z)
  have s4:=Bt.past s03 hl0 b4
  refine q2 (by omega) l2 out _ (s4.trans (ag hl2 _)) (s4.free hl2) af (λu hu=>(ag hl2 _) _ _ (tu4 u (pm2.mem_iff.mp hu))) ?_ (j7 so)
  exact ((pm2.map (·.2)).trans (by rw[eus])).trans (rp.map ni)
end
open PySem L2
def rot (ns:List Int)(k:Nat):List Int:=ns.drop k++ns.take k
theorem mV (xs:List V){k:Nat}(h:k<=xs.length):dE xs none (some (k:Int))=xs.take k:=by
 unfold dE HT.sIx
 simp only[show ¬ ((k:Int)<0) by omega,if_false,BQ,F8,Ew,show min k xs.length=k by omega]
theorem vA (xs:List V){k:Nat}(h:k<=xs.length):dE xs (some (k:Int)) none=xs.drop k:=by
 unfold dE HT.sIx
 simp only[show ¬ ((k:Int)<0) by omega,if_false,BQ,show min k xs.length=k by omega]
 exact Bi (by rw[Ca];exact AE _)
abbrev xY:Sp:=λvs H Q _=>∃(p:Addr) (ns:List Int),vs=[.ref p]/\H p=some (.tup (ns.map V.int))/\ns≠[]/\ns.length<=500/\∀(z:Addr) (H':Hp) (M:Int),aD H H'->M∈ns->(∀b∈ns,M<=b)->H' z=some (.tup ((rot ns (ns.idxOf M)).map V.int))->Q (.ref z) H'
@[irreducible] def xC:Sp:=xY
theorem j8 {vs:List V}{H:Hp}{Q:VK}{E:XK}:xC vs H Q E↔xY vs H Q E:=by
 delta xC
 exact CQ
section
variable  {P:AN}{w:Bh}{K:Av}{mg:Str->Option Au}{base:Heap}{f T:Addr}{fd:BJ}
theorem iT:aI ["places", "at"] ["places"] (au fX):=⟨rfl,rfl,rfl,by decide +kernel,rfl,by decide +kernel,by decide +kernel⟩
theorem oG (F:Fun K "round_form" "round_form" fX f fd)(B:Blt mg)(C:Cst mg):bE P w K mg base CX0 1 f fd ["places"] xC:=by
 refine F.ok iT (λvs H Q E h =>?_) (λcdv A outer s H vs Q E hr h =>?_)
 ·obtain ⟨_,_,rfl,_⟩:=j8.mp h
  rfl
 obtain ⟨p,ns,rfl,ep,ne,l5,q⟩:=j8.mp h
 refine ⟨_,(@aj _ _ _ _ _ (@aE _ _ 1 _ _ _ _ iT.nd rfl (Or.inl rfl) (uK D9 Fw lN (pv 0) (@aa _ _ _ _ _ (ao (jM rfl) rfl B.b_min mS (@aa _ _ _ _ _ (pv 0) ae rfl)) ae rfl)) rfl (by first | exact .inl rfl | exact .inr rfl | assumption))
  (@ak _ _ _ (@aJ _ _ _ _ (@ax _ _ _ _ _ _ _ _ cb (bq bg rfl B.b_tuple cc (@aa _ _ _ _ _ (bo bU (pv 0) (bC (pv 1)) bM) ae rfl)) (bq bg rfl B.b_tuple cc (@aa _ _ _ _ _ (bo bU (pv 0) bM (bC (pv 1))) ae rfl)))))),?_⟩
 have lm:(ns.map V.int).length=ns.length:=Aq _
 refine ⟨_,rfl,⟨p,_,rfl,ep⟩,_,rfl,p,ns,rfl,SqT.of ep,ne,λM hM mn=>⟨p,ns,M,rfl,rfl,ep,hM,?_⟩⟩
 have hk:ns.idxOf M<=ns.length:=C6 (D8.mpr hM)
 have q:=λz H'=>q z H' M
 unfold rot at q
 generalize ns.idxOf M=k at hk q
 refine ⟨_,rfl,_,rfl,_,rfl,p,_,rfl,ep,λp1 H1 s1 e1=>⟨p1,_,rfl,.inr ⟨SqT.of e1,?_⟩⟩⟩
 rw[vA _ (by rw[lm];exact hk), <- FF] at e1
 refine ⟨_,rfl,_,rfl,_,rfl,p,_,rfl,s1 _ _ ep,λp2 H2 s2 e2=>⟨p2,_,rfl,.inr ⟨SqT.of e2,?_⟩⟩⟩
 rw[mV _ (by rw[lm];exact hk), <- DM] at e2
 refine ⟨p1,p2,_,_,rfl,rfl,s2 _ _ e1,e2,by rw[Aq,Aq,Ca,Bz];exact small (by omega),λp3 H3 s3 e3 =>?_⟩
 rw[<- AA] at e3
 exact q p3 H3 (s1.trans (s2.trans s3)) hM mn e3
end
def dk (Z:List Int)(n:Nat):List (List Int):=(Ba n).map λi=>[if i=0 then Z.getD (Z.length-1) 0 else Z.getD (i-1) 0,Z.getD i 0]
theorem gZ (Z:List Int)(n:Nat):dk Z (n+1)=dk Z n++[[if n=0 then Z.getD (Z.length-1) 0 else Z.getD (n-1) 0,Z.getD n 0]]:=by
 unfold dk
 rw[EV,AA];rfl
theorem qY {Z:List Int}{i:Nat}(h:i<Z.length):atI (Z.map V.int) ((i:Int)-1)=some (.int (if i=0 then Z.getD (Z.length-1) 0 else Z.getD (i-1) 0)):=by
 unfold atI
 by_cases c:i=0
 ·subst c
  rw[if_pos rfl]
  have e:ixN (Z.map V.int).length (((0:Nat):Int)-1)=some (Z.length-1):=by
   rw[Aq];unfold ixN;simp;omega
  rw[e]
  show (Z.map V.int)[Z.length-1]? = _
  rw[AW,AK,AD (by omega)];rfl
 ·rw[if_neg c]
  have e0:((i:Int)-1)=((i-1:Nat):Int):=by omega
  rw[e0]
  show atI (Z.map V.int) ((i-1:Nat):Int)=_
  refine bR ?_
  rw[AW,AK,AD (by omega)];rfl
abbrev xZ:Sp:=λvs H Q _=>∃(p:Addr) (Z:List Int),vs=[.ref p]/\H p=some (.tup (Z.map V.int))/\Z.length<=500/\∀(l:Addr) (us:List (Addr×List Int)) (H':Hp),aD H H'->H' l=some (.lst (us.map λu =>.ref u.1))->Tus H' us->us.map (·.2)=dk Z Z.length->Q (.ref l) H'
@[irreducible] def xD:Sp:=xZ
theorem j9 {vs:List V}{H:Hp}{Q:VK}{E:XK}:xD vs H Q E↔xZ vs H Q E:=by
 delta xD
 exact CQ
section
variable  {P:AN}{w:Bh}{K:Av}{mg:Str->Option Au}{base:Heap}{f T:Addr}{fd:BJ}
theorem kM:aI ["places"] ["places"] (au eF):=⟨rfl,rfl,rfl,by decide +kernel,rfl,by decide +kernel,by decide +kernel⟩
theorem cH:(["at", "place", "places"]:List Str).Nodup:=by decide +kernel
theorem kN (F:Fun K "round_arrows" "round_arrows" eF f fd)(B:Blt mg)(C:Cst mg):bE P w K mg base CX0 1 f fd ["places"] xD:=by
 refine F.ok kM (λvs H Q E h =>?_) (λcdv A outer s H vs Q E hr h =>?_)
 ·obtain ⟨_,_,rfl,_⟩:=j9.mp h
  rfl
 obtain ⟨p,Z,rfl,ep,l5,q⟩:=j9.mp h
 refine ⟨_,(@ak _ _ _ (@aJ _ _ _ _ (dg ["at", "place", "places"] [none,none,some 0] rfl (wc rfl B.b_enumerate (@aa _ _ _ _ _ (pv 0) ae rfl)) rfl (λ_ _ _ _ _=>(nO (K:=K) (i:=0) (j:=1) cH rfl rfl (Or.inl rfl) (Or.inl rfl))) (λ_ _ _ _ _=>dW) (λ_ _ _ _ _=>(@aL _ _ _ _ _ (@aa _ _ _ _ _ (@aY _ _ _ _ _ _ _ (dX (K:=K)) (pv 2) (@ax _ _ _ _ _ _ _ _ jl (pv 0) ai) (λ_ _=>rfl)) (@aa _ _ _ _ _ (pv 1) ae rfl) rfl)))))),?_⟩
 refine ⟨_,rfl,p,rfl,.inr ⟨⟨_,SqT.of ep⟩,sN (xs:=Z.map V.int) (λi ys H'=>aD H H'/\∃us:List (Addr×List Int),ys=us.map (λu =>.ref u.1)/\Tus H' us/\us.map (·.2)=dk Z i) (by decide) ⟨aD.refl _,[],rfl,λu hu=>(by cases hu),rfl⟩ (by rw[Aq];exact small (by omega)) (λi ys H' _ k=>SqT.of (k.1 _ _ ep)) ?_ ?_⟩⟩
 ·rintro i x ys H1 T hx hy hT ⟨s1,us,rfl,tu,eu⟩ R1 R0 r1 r0
  obtain ⟨v,ev,rfl⟩:=zZ hx
  have hi:=(AG.mp ev).1
  have gT:=ag hT (.tup [.int (i:Nat),.int v])
  have ep2:=(s1.trans gT) _ _ ep
  refine cx ⟨_,rfl,_,rfl,_,_,rfl,rfl,p,_,_,_,rfl,rfl,SqT.of ep2,qY hi,_,rfl,(by show 2<=AH;decide),λc hc=>r1 _ _ ⟨(s1.trans gT).trans (ag hc _),us++[(c,[if i=0 then Z.getD (Z.length-1) 0 else Z.getD (i-1) 0,v])],by rw[AA];rfl,Tus.snoc ((tu.same gT).same (ag hc _)) (u:=(c,[if i=0 then Z.getD (Z.length-1) 0 else Z.getD (i-1) 0,v])) af,?_⟩⟩
  rw[AA,eu,gZ,show Z.getD i 0=v by rw[AK,ev];rfl];rfl
 ·rintro ys H1 hy ⟨s1,us,rfl,tu,eu⟩ l hl
  rw[Aq] at eu
  exact q l us _ (s1.trans (ag hl _)) af (tu.same (ag hl _)) eu
end
theorem iC:∀{Z us:List Int},us.Nodup->(∀x,x∈us↔x∈Z)->us.length=Z.length->Z.Nodup
 | [],_,_,_,_=>BK
 | a :: t,us,nd,mem,l=>by
  have na:a∉t:=λh=>by
   have:=Dj nd (l₂:=t) λx hx=>by
    rcases AU.mp ((mem x).mp hx) with z | z
    ·rw[z];exact h
    ·exact z
   rw[Bk] at l
   omega
  have ha:a∈us:=(mem a).mpr AM
  refine BL.mpr ⟨na,iC (us:=us.erase a) (nd.erase a) (λx =>?_) ?_⟩
  ·rw[nd.mem_erase_iff,mem x,AU]
   constructor
   ·rintro ⟨h1,h2 | h2⟩
    ·exact absurd h2 h1
    ·exact h2
   ·intro h
    exact ⟨λe=>na (e ▸ h),.inr h⟩
  ·rw[Fv ha,l,Bk];rfl
def Rd (E:List (List Int))(Z:List Int):Prop:=Z≠[]/\Z.Nodup/\∀t∈dk Z Z.length,t∈E
instance (E:List (List Int)) (Z:List Int):Decidable (Rd E Z):=by unfold Rd;infer_instance
abbrev qZ:Sp:=λvs H Q _=>∃(r p:Addr) (m:Nat) (ts:List (Addr×List Int)) (Z:List Int),vs=[.ref r,.ref p]/\Ow H r (m:Int) ts/\H p=some (.tup (Z.map V.int))/\Z.length<=290/\∀H',aD H H'->Q (.bl (decide (Rd (ts.map (·.2)) Z))) H'
@[irreducible] def mW:Sp:=qZ
theorem gj {vs:List V}{H:Hp}{Q:VK}{E:XK}:mW vs H Q E↔qZ vs H Q E:=by
 delta mW
 exact CQ
section
variable  {P:AN}{w:Bh}{K:Av}{mg:Str->Option Au}{base:Heap}{f T:Addr}{fd:BJ}
theorem tf:aI ["web", "places"] ["web", "places"] (au jT):=⟨rfl,rfl,rfl,by decide +kernel,rfl,by decide +kernel,by decide +kernel⟩
theorem fP:(["arrow", "web"]:List Str).Nodup:=by decide +kernel
theorem tj (F:Fun K "is_round" "is_round" jT f fd)(B:Blt mg)(cRoundArrows:Cal P w K mg base 1 "round_arrows" ["places"] xD)(C:Cst mg):bE P w K mg base CX0 2 f fd ["web", "places"] mW:=by
 refine F.ok tf (λvs H Q E h =>?_) (λcdv A outer s H vs Q E hr h =>?_)
 ·obtain ⟨_,_,_,_,_,rfl,_⟩:=gj.mp h
  rfl
 obtain ⟨r,p,m,ts,Z,rfl,W,ep,l5,q⟩:=gj.mp h
 refine ⟨_,(@aj _ _ _ _ _ (@bD _ _ _ _ _ _ _ _ (PW.pt (jg (aG eM (ao aH rfl B.b_len bX (@aa _ _ _ _ _ (pv 1) ae rfl)) ai (aS _)) (jb (aG xM (ao iQ rfl B.b_len bX (@aa _ _ _ _ _ (bq (jI (w:=w) rfl hr.hd) rfl B.b_set p7 (@aa _ _ _ _ _ (pv 1) ae rfl)) ae rfl)) (ao aH rfl B.b_len bX (@aa _ _ _ _ _ (pv 1) ae rfl)) (aS _))))) (@ak _ _ _ (@aJ _ _ _ _ nz)) aP)
  (@ak _ _ _ (@aJ _ _ _ _ (ao (jz rfl) rfl B.b_all p6 (@aa _ _ _ _ _ (dg ["arrow", "web"] [none,some 0] rfl (@gx _ _ _ _ (az cRoundArrows hr (by decide) rfl (@aa _ _ _ _ _ (pv 1) ae rfl))) rfl (λ_ _ _ _ _=>(aN (i:=0) fP rfl (Or.inl rfl))) (λ_ _ _ _ _=>dW) (λ_ _ _ _ _=>(dR (qI (hu8 hr)) (pv 0) (@aY _ _ _ _ _ _ _ (dX (K:=K)) (pv 1) ai (λ_ _=>rfl)) rfl))) ae rfl))))),?_⟩
 have lz:(Z.map V.int).length=Z.length:=Aq _
 refine ⟨_,rfl,p,_,rfl,.inr (SqT.of ep),rfl,_,rfl,gG (λz =>?_) λz =>?_⟩
 ·rw[lz] at z
  have z0:Z.length=0:=by have:=V.int.inj (of_decide_eq_true z);omega
  have:=q H (aD.refl _)
  rw[decide_eq_false (λh:Rd _ Z=>h.1 (EF z0))] at this
  exact cx this
 rw[lz] at z
 refine ⟨_,rfl,p,Z,rfl,.inr (SqT.of ep),by omega,λa us ha mu nu lu =>?_⟩
 have ga:=ag ha (dz w a (us.map V.int))
 refine ⟨a,us.map V.int,rfl,af,by rw[Aq];omega,?_⟩
 generalize upd H a (dz w a (us.map V.int))=H1 at ga
 have ep1:=ga _ _ ep
 refine ⟨_,rfl,p,_,rfl,.inr (SqT.of ep1),rfl,_,rfl,?_⟩
 refine gG (λz2 =>?_) λz2 =>?_
 ·have:=q H1 ga
  rw[decide_eq_false (λh:Rd _ Z =>?_)] at this
  ·exact this
  ·rw[lz,Aq] at z2
   have e:us.length=Z.length:=((C0 nu h.2.1).mpr mu).length_eq
   rw[e] at z2
   simp at z2
 rw[lz,Aq] at z2
 have eq:us.length=Z.length:=by
  apply DU
  intro n
  apply z2
  rw[decide_eq_false (λz=>n (by have:=V.int.inj z;omega))];rfl
 have nd:=iC nu mu eq
 have ne:Z≠[]:=λe=>z (by rw[e];rfl)
 refine ⟨_,rfl,j9.mpr ⟨p,Z,rfl,ep1,by omega,λl us H2 s2 el tu eu =>?_⟩⟩
 have s12:=ga.trans s2
 obtain ⟨t,e1,e2⟩:=(W.same s12).at'
 have lu:us.length<=290:=by have:=congrArg List.length eu;rw[Aq] at this;unfold dk at this;rw[Aq,BN] at this;omega
 refine ⟨l,rfl,⟨_,SqL.of el⟩,jy (xs:=us.map λu =>.ref u.1) (λi ys H'=>H'=H2/\ys=((us.take i).map λu=>decide (u.2∈ts.map (·.2))).map V.bl) ⟨rfl,rfl⟩ (by rw[Aq];exact small (by omega)) (λi ys H' _ k=>by rw[k.1];exact SqL.of el) ?_ ?_⟩
 ·rintro i x ys H3 hx hy ⟨eH,rfl⟩ R1 R0 r1 r0
  obtain ⟨u,hu,rfl⟩:=qL hx
  rw[eH]
  refine cx ⟨_,rfl,_,rfl,r,_,1,_,rfl,rfl,SqT.of e1,rfl,t,u.1,ts,u.2,rfl,rfl,e2,(W.same s12).tup,tu u (A0 hu),r1 _ _ ⟨rfl,?_⟩⟩
  rw[CS,hu,AA,AA];rfl
 ·rintro ys H3 hy ⟨eH,rfl⟩ l2 hl2
  rw[eH] at hl2 ⊢
  rw[Aq,Bi (AE _)]
  refine ⟨l2,_,rfl,SqL.of af,?_⟩
  have:=q _ (s12.trans (ag hl2 (.lst ((us.map λu=>decide (u.2∈ts.map (·.2))).map V.bl))))
  rw[show decide (Rd (ts.map (·.2)) Z)=(us.map λu=>decide (u.2∈ts.map (·.2))).all id from ?_] at this
  ·exact this
  ·rw[Co,decide_eq_true_iff,HM,BF]
   unfold Rd
   rw[<- eu]
   constructor
   ·intro h u hu
    exact decide_eq_true (h.2.2 u.2 (A6.mpr ⟨u,hu,rfl⟩))
   ·intro h
    refine ⟨ne,nd,λt ht =>?_⟩
    obtain ⟨u,hu,rfl⟩:=A6.mp ht
    exact of_decide_eq_true (h u hu)
end
abbrev vB:Sp:=λvs H Q _=>∃(r p:Addr) (m:Nat) (ts:List (Addr×List Int)) (Z:List Int),vs=[.ref r,.ref p]/\Ow H r (m:Int) ts/\H p=some (.tup (Z.map V.int))/\Z.length<=290/\∀(b:Bool) (H':Hp),aD H H'->(b=true↔Rd (ts.map (·.2)) Z)->Q (.bl b) H'
@[irreducible] def q8:Sp:=vB
theorem iD {vs:List V}{H:Hp}{Q:VK}{E:XK}:q8 vs H Q E↔vB vs H Q E:=by
 delta q8
 exact CQ
section
variable  {P:AN}{w:Bh}{K:Av}{mg:Str->Option Au}{base:Heap}{f T:Addr}{fd:BJ}
theorem qb:aI ["web", "places"] ["web", "places"] (au iy):=⟨rfl,rfl,rfl,by decide +kernel,rfl,by decide +kernel,by decide +kernel⟩
theorem dJ:(["k", "places", "web"]:List Str).Nodup:=by decide +kernel
theorem qc (F:Fun K "_law_is_round" "_law_is_round" iy f fd)(B:Blt mg)(C:Cst mg):bE P w K mg base CX0 1 f fd ["web", "places"] q8:=by
 refine F.ok qb (λvs H Q E h =>?_) (λcdv A outer s H vs Q E hr h =>?_)
 ·obtain ⟨_,_,_,_,_,rfl,_⟩:=iD.mp h
  rfl
 obtain ⟨r,p,m,ts,Z,rfl,W,ep,l5,q⟩:=iD.mp h
 refine ⟨_,(@aj _ _ _ _ _ (@bD _ _ _ _ _ _ _ _ (PW.pt (jg (eU (dO (ao cD rfl B.b_isinstance ay (@aa _ _ _ _ _ (pv 1) (@aa _ _ _ _ _ (fB (v :=.ty "tuple") rfl B.b_tuple cc rfl) ae rfl) rfl)))) (jg (aG eM (ao aH rfl B.b_len bX (@aa _ _ _ _ _ (pv 1) ae rfl)) ai (aS _)) (jb (aG qj (ao iQ rfl B.b_len bX (@aa _ _ _ _ _ (bq (jI (w:=w) rfl hr.hd) rfl B.b_set p7 (@aa _ _ _ _ _ (pv 1) ae rfl)) ae rfl)) (ao aH rfl B.b_len bX (@aa _ _ _ _ _ (pv 1) ae rfl)) (aS _)))))) (@ak _ _ _ (@aJ _ _ _ _ nz)) aP)
  (@ak _ _ _ (@aJ _ _ _ _ (ao (jz rfl) rfl B.b_all p6 (@aa _ _ _ _ _ (dg ["k", "places", "web"] [none,some 1,some 0] rfl (aX rfl B.b_range (@aa _ _ _ _ _ (ao aH rfl B.b_len bX (@aa _ _ _ _ _ (pv 1) ae rfl)) ae rfl)) rfl (λ_ _ _ _ _=>(aN (i:=0) dJ rfl (Or.inl rfl))) (λ_ _ _ _ _=>dW) (λ_ _ _ _ _=>(dR (qI (hu8 hr)) (@aL _ _ _ _ _ (@aa _ _ _ _ _ (@aY _ _ _ _ _ _ _ (dX (K:=K)) (pv 1) (@ax _ _ _ _ _ _ _ _ jl (pv 0) ai) (λ_ _=>rfl)) (@aa _ _ _ _ _ (@aY _ _ _ _ _ _ _ (dX (K:=K)) (pv 1) (pv 0) (λ_ _=>rfl)) ae rfl) rfl)) (@aY _ _ _ _ _ _ _ (dX (K:=K)) (pv 2) ai (λ_ _=>rfl)) rfl))) ae rfl))))),?_⟩
 have lz:(Z.map V.int).length=Z.length:=Aq _
 refine ⟨_,rfl,.ref p, "tuple",_,true,rfl,.tup ep,rfl,_,rfl,cw ?_⟩
 refine ⟨_,rfl,p,_,rfl,.inr (SqT.of ep),rfl,_,rfl,gG (λz =>?_) λz =>?_⟩
 ·rw[lz] at z
  have z0:Z.length=0:=by have:=V.int.inj (of_decide_eq_true z);omega
  exact cx (q false H (aD.refl _) ⟨(λh=>by cases h),λh=>absurd (EF z0) h.1⟩)
 rw[lz] at z
 have ne:Z≠[]:=λe=>z (by rw[e];rfl)
 refine ⟨_,rfl,p,Z,rfl,.inr (SqT.of ep),by omega,λa us ha mu nu lu =>?_⟩
 have ga:=ag ha (dz w a (us.map V.int))
 refine ⟨a,us.map V.int,rfl,af,by rw[Aq];omega,?_⟩
 generalize upd H a (dz w a (us.map V.int))=H1 at ga
 have s1:=ga
 have ep1:=ga _ _ ep
 have le:us.length<=Z.length:=Dj nu λx hx=>(mu x).mp hx
 refine ⟨_,rfl,p,_,rfl,.inr (SqT.of ep1),_,_,rfl,rfl,?_⟩
 rw[lz,Aq]
 have ee:∀A B:Prop,((us.length:Int)<(Z.length:Int)->A)->(¬ ((us.length:Int)<(Z.length:Int))->B)->if decide ((us.length:Int)<(Z.length:Int))=true then A else B:=λA B a b=>gG (λz=>a (of_decide_eq_true z)) λz=>b λh=>z (decide_eq_true h)
 refine ⟨_,rfl,ee _ _ (λz2 =>?_) λz2 =>?_⟩
 ·skip
  refine q false H1 s1 ⟨(λh=>by cases h),λh =>?_⟩
  have e:us.length=Z.length:=((C0 nu h.2.1).mpr mu).length_eq
  omega
 have eq:us.length=Z.length:=by omega
 have nd:=iC nu mu eq
 obtain ⟨t,e1,e2⟩:=(W.same s1).at'
 refine ⟨_,rfl,p,_,rfl,.inr (SqT.of ep1),(Z.length:Int),by rw[lz],by omega,by omega,?_⟩
 rw[BQ]
 refine cE (λi ys H'=>aD H1 H'/\ys=((dk Z i).map λt=>decide (t∈ts.map (·.2))).map V.bl) ⟨aD.refl _,rfl⟩ (small (by omega)) ?_ ?_
 ·rintro i ys H2 hi hy ⟨s2,rfl⟩ R1 R0 r1 r0
  have hi':i<Z.length:=by omega
  have ei:(0+(i:Int))=(i:Int):=by omega
  have ep2:=s2 _ _ ep1
  refine cx ⟨_,rfl,_,rfl,_,_,rfl,rfl,p,_,_,_,rfl,rfl,SqT.of ep2,by rw[ei];exact qY hi',?_⟩
  refine ⟨_,rfl,_,rfl,p,_,_,_,rfl,rfl,SqT.of ep2,(by rw[ei];exact bR (by rw[AW,AD hi'];rfl)),(by show 2<=AH;decide),λc hc =>?_⟩
  have gc:=ag hc (.tup [.int (if i=0 then Z.getD (Z.length-1) 0 else Z.getD (i-1) 0),.int Z[i]])
  have s12:=s1.trans (s2.trans gc)
  refine ⟨_,rfl,r,_,1,_,rfl,rfl,SqT.of (gc _ _ (s2 _ _ e1)),rfl,t,c,ts,[if i=0 then Z.getD (Z.length-1) 0 else Z.getD (i-1) 0,Z[i]],rfl,rfl,gc _ _ (s2 _ _ e2),(W.same s12).tup,af,r1 _ _ ⟨s2.trans gc,?_⟩⟩
  rw[gZ,AA,AA,show Z.getD i 0=Z[i] by rw[AK,AD hi'];rfl];rfl
 ·rintro ys H3 hy ⟨s3,rfl⟩ l2 hl2
  refine ⟨l2,_,rfl,SqL.of af,q _ _ (s1.trans (s3.trans (ag hl2 _))) ?_⟩
  rw[HM,BF]
  constructor
  ·intro h
   exact ⟨ne,nd,λt ht=>of_decide_eq_true (h t ht)⟩
  ·intro h t ht
   exact decide_eq_true (h.2.2 t ht)
end
open PySem L2
theorem mX {n:Nat}{p la:Addr}{H H1:Hp}(hb:Bu n p H H1)(h:H1 la=none):H la=none:=by
 cases e:H la with
 | none=>rfl
 | some o =>
  by_cases z:la=p
  ·subst z
   obtain ⟨xs,_,e2⟩:=hb.pot
   rw[h] at e2
   cases e2
  ·rw[hb.st la o z e] at h
   cases h
theorem tm (us:List (Addr×List Int)):(us.map λu=>(u.1,V.int (u.2.getD 0 0),V.int (u.2.getD 1 0))).map (λt=>V.ref t.1)=us.map λu=>V.ref u.1:=by rw[IS];rfl
theorem xE {us:List (Addr×List Int)}{i:Nat}{t:Addr×V×V}(h:(us.map λu=>(u.1,V.int (u.2.getD 0 0),V.int (u.2.getD 1 0)))[i]? = some t):∃u,us[i]? = some u/\t=(u.1,V.int (u.2.getD 0 0),V.int (u.2.getD 1 0)):=by
 rw[AW] at h
 cases e:us[i]? with
 | none=>rw[e] at h;cases h
 | some u=>rw[e] at h;exact ⟨u,rfl,(Bq h).symm⟩
theorem xF {K:Av}{H:Hp}{b t:Addr}{m:Int}{ts:List (Addr×List Int)}(W:Ow H b m ts)(e:H t=some (.tup (ts.map λu =>.ref u.1))):SqT K H t ((ts.map λu=>(u.1,V.int (u.2.getD 0 0),V.int (u.2.getD 1 0))).map λt =>.ref t.1)/\∀t∈ts.map λu=>(u.1,V.int (u.2.getD 0 0),V.int (u.2.getD 1 0)),SqT K H t.1 [t.2.1,t.2.2]:=by
 rw[tm]
 refine ⟨SqT.of e,λt ht =>?_⟩
 obtain ⟨u,hu,rfl⟩:=A6.mp ht
 obtain ⟨x,y,e,_⟩:=W.rng u hu
 have:=W.tup u hu
 rw[e] at this
 have e0:(u.1,V.int (u.2.getD 0 0),V.int (u.2.getD 1 0))=(u.1,V.int x,V.int y):=by rw[e];rfl
 rw[e0]
 exact SqT.of this
theorem zo {n:Nat}{p la t:Addr}{H H1:Hp}{us:List (Addr×List Int)}(m:Mkg n p la H H1 us)(hla:H la=none)(np:la≠p){x y:Int}(ht:H1 t=some (.tup ([x,y].map V.int))):Mkg n p la H (upd H1 la (.lst ((us.map λu=>V.ref u.1)++[.ref t]))) (us++[(t,[x,y])]):=by
 refine ⟨m.bu.eC hla np _,?_,?_,?_⟩
 ·rw[af,AA];rfl
 ·refine Tus.snoc (λu hu =>?_) ?_
  ·rw[aq (eL (m.tu u hu) m.at' (by intro z;cases z))]
   exact m.tu u hu
  ·show upd H1 la _ t=_
   rw[aq (eL ht m.at' (by intro z;cases z))]
   exact ht
 ·intro u hu
  rcases AI.mp hu with z | z
  ·exact m.two u z
  ·rw[AB] at z;subst z;exact ⟨x,y,rfl⟩
abbrev vC:Sp:=λvs H Q _=>∃(p:Addr),vs=[.ref p,.int 6,.int 16]/\Pt 1 H p/\∀(b:Addr) (m:Nat) (ts:List (Addr×List Int)) (H':Hp),Bu 1 p H H'->Ow H' b (m:Int) ts->m<=6->ts.length<=16->(ts.map (·.2)).Nodup->Q (.ref b) H'
@[irreducible] def q9:Sp:=vC
theorem iE {vs:List V}{H:Hp}{Q:VK}{E:XK}:q9 vs H Q E↔vC vs H Q E:=by
 delta q9
 exact CQ
section
variable  {P:AN}{w:Bh}{K:Av}{mg:Str->Option Au}{base:Heap}{f T:Addr}{fd:BJ}
theorem dM:aI ["pot", "most", "arrows", "many", "found", "turn", "arrow"] ["pot", "most", "arrows"] (au jV):=⟨rfl,rfl,rfl,by decide +kernel,rfl,by decide +kernel,by decide +kernel⟩
theorem tq (F:Fun K "_law_one_way" "_law_one_way" jV f fd)(B:Blt mg)(cLTake:Cal P w K mg base 1 "_law_take" ["pot", "many"] fi)(C:Cst mg):bE P w K mg base CX0 2 f fd ["pot", "most", "arrows"] q9:=by
 refine F.ok dM (λvs H Q E h =>?_) (λcdv A outer s H vs Q E hr h =>?_)
 ·obtain ⟨_,rfl,_⟩:=iE.mp h
  rfl
 obtain ⟨p,rfl,hp,q⟩:=iE.mp h
 refine ⟨_,(@aj _ _ _ _ _ (@aE _ _ 3 _ _ _ _ dM.nd rfl (Or.inl rfl) (az cLTake hr (by decide) rfl (@aa _ _ _ _ _ (pv 0) (@aa _ _ _ _ _ (@ax _ _ _ _ _ _ _ _ bB (pv 1) ai) ae rfl) rfl)) rfl (by first | exact .inl rfl | exact .inr rfl | assumption))
  (@aj _ _ _ _ _ (@aE _ _ 4 _ _ _ _ dM.nd rfl (Or.inl rfl) (@bK _ _ _ _ ae) rfl (by first | exact .inl rfl | exact .inr rfl | assumption))
  (@aj _ _ _ _ _ (@cp _ _ _ _ _ _ _ _ BW rfl (aX rfl B.b_range (@aa _ _ _ _ _ (@ax _ _ _ _ _ _ _ _ dP (az cLTake hr (by decide) rfl (@aa _ _ _ _ _ (pv 0) (@aa _ _ _ _ _ (@ax _ _ _ _ _ _ _ _ bB (pv 2) ai) ae rfl) rfl)) (bq rG rfl B.b_int zg (@aa _ _ _ _ _ (dR nD (pv 3) ai (aS _)) ae rfl))) ae rfl)) (aN (i:=5) dM.nd rfl (Or.inl rfl))
   (@aj _ _ _ _ _ (@aE _ _ 6 _ _ _ _ dM.nd rfl (Or.inl rfl) (@aL _ _ _ _ _ (@aa _ _ _ _ _ (az cLTake hr (by decide) rfl (@aa _ _ _ _ _ (pv 0) (@aa _ _ _ _ _ (pv 3) ae rfl) rfl)) (@aa _ _ _ _ _ (az cLTake hr (by decide) rfl (@aa _ _ _ _ _ (pv 0) (@aa _ _ _ _ _ (pv 3) ae rfl) rfl)) ae rfl) rfl)) rfl (by first | exact .inl rfl | exact .inr rfl | assumption))
   (@ak _ _ _ (@bD _ _ _ _ _ _ _ _ (aG (pP (hu8 hr)) (pv 6) (pv 4) rfl) (@ak _ _ _ (bQ (eN Bo B4 B5 cz (pv 4) (@aa _ _ _ _ _ (pv 6) ae rfl)))) aP))) (λ_=>rfl))
  (@ak _ _ _ (@aJ _ _ _ _ (@aL _ _ _ _ _ (@aa _ _ _ _ _ (pv 3) (@aa _ _ _ _ _ (bq bg rfl B.b_tuple cc (@aa _ _ _ _ _ (ao bS rfl B.b_sorted cA (@aa _ _ _ _ _ (pv 4) ae rfl)) ae rfl)) ae rfl) rfl))))))),?_⟩
 refine ⟨_,rfl,_,rfl,_,_,rfl,rfl,aF.mpr ⟨p,7,rfl,hp,by decide,by decide,λm' H1 m0 m1 u1 =>?_⟩⟩
 obtain ⟨m,rfl⟩:∃m:Nat,m'=m:=⟨m'.toNat,by omega⟩
 refine ⟨(by show 0<=AH;decide),λla hla1 =>?_⟩
 have hla:=mX u1 hla1
 have np:la≠p:=hp.ne hla
 have m6:Mkg 1 p la H (upd H1 la (.lst [])) []:=⟨u1.same (ag hla1 _),af,(λu hu=>by cases hu),λu hu=>by cases hu⟩
 generalize upd H1 la (.lst [])=H6 at m6
 refine ⟨_,rfl,_,rfl,_,_,rfl,rfl,aF.mpr ⟨p,17,rfl,m6.bu.pot,by decide,by decide,λn H7 n0 n13 u7 =>?_⟩⟩
 have m7:=m6.bu' np u7
 refine ⟨_,rfl,_,_,rfl,rfl,.inr ⟨_,rfl,_,_,rfl,rfl,.inl ⟨by omega,by omega⟩,?_⟩⟩
 obtain ⟨N,hN,N0,N1,N2⟩:∃N:Int,n*(if decide ((m:Int)>0)=true then 1 else 0)=N/\0<=N/\N<=16/\(0<N->0<m):=by
  refine ⟨_,rfl,?_⟩
  by_cases c:(m:Int)>0
  ·rw[decide_eq_true c,if_pos rfl];omega
  ·rw[decide_eq_false c,if_neg AV];omega
 refine ⟨N,congrArg (λx=>[V.int x]) hN,by omega,by omega,bJ (λk σ H'=>(∃c5 c6,σ=[some (.ref p),some (.int 6),some (.int 16),some (.int (m:Int)),some (.ref la),c5,c6])/\∃us,Mkg 1 p la H H' us/\Rg m us/\us.length<=k/\(us.map (·.2)).Nodup) ⟨⟨_,_,rfl⟩,[],m7,λu hu=>(by cases hu),Bl _,BK⟩ ?_ ?_⟩
 ·rintro k σ H8 hk ⟨⟨c5,c6,rfl⟩,us,m8,rg,lu,ndu⟩
  have hm:0<m:=N2 (by omega)
  refine ⟨_,rfl,_,rfl,aF.mpr ⟨p,(m:Int),rfl,m8.bu.pot,by omega,by omega,λx H9 x0 x1 u9 =>?_⟩⟩
  have m9:=m8.bu' np u9
  refine ⟨_,rfl,_,rfl,aF.mpr ⟨p,(m:Int),rfl,m9.bu.pot,by omega,by omega,λy Ha y0 y1 ua =>?_⟩⟩
  have ma:=m9.bu' np ua
  refine ⟨(by show 2<=AH;decide),λt ht =>?_⟩
  have g4:=ag ht (.tup ([x,y].map V.int))
  have et:upd Ha t (.tup ([x,y].map V.int)) t=some (.tup ([x,y].map V.int)):=af
  have mb:=ma.same g4
  rw[show [V.int x,V.int y]=[x,y].map V.int from rfl]
  generalize upd Ha t (.tup ([x,y].map V.int))=Hb at g4 et mb
  refine ⟨_,rfl,_,rfl,la,t,us,[x,y],rfl,rfl,mb.at',mb.tu,et,_,rfl,gG (λz =>?_) λz =>?_⟩
  ·refine ⟨_,rfl,.inl ⟨rfl,_,SqL.of mb.at'⟩,_,rfl,la,_,_,rfl,rfl,mb.at',by rw[Aq];exact ck (by omega),?_⟩
   refine ⟨⟨_,_,rfl⟩,_,zo mb hla np et,rg.snoc x0 x1 y0 y1,by rw[As];show _+1<=_;omega,?_⟩
   rw[AA]
   refine Cd.mpr ⟨ndu,BL.mpr ⟨BP,BK⟩,λx hx y hy e =>?_⟩
   have hy:=AB.mp hy
   rw[e,hy] at hx
   rw[decide_eq_true hx] at z
   cases z
  ·exact ⟨⟨_,_,rfl⟩,us,mb,rg,by omega,ndu⟩
 ·rintro σ H8 ⟨⟨c5,c6,rfl⟩,us,m8',rg,lu,ndu⟩
  refine ⟨_,rfl,_,rfl,la,us,rfl,.inl (SqL.of m8'.at'),λt ht=>⟨SqT.of (m8'.tu t ht),?_⟩,λl2 out hl2 pm so =>?_⟩
  ·obtain ⟨x,y,e,_⟩:=rg t ht
   rw[e]
   intro z
   cases z
  refine ⟨l2,_,rfl,.inl ⟨SqL.of af,λl3 hl3=>⟨(by show 2<=AH;decide),λb hb =>?_⟩⟩⟩
  have gA:=((ag hl2 (.lst (out.map λt =>.ref t.1))).trans (ag hl3 (.tup (out.map λt =>.ref t.1)))).trans (ag hb (.tup [.int (m:Int),.ref l3]))
  have:out.length<=16:=by rw[pm.length_eq];omega
  exact q b m out _ (m8'.bu.same gA) ⟨⟨l3,af,(ag hb _) _ _ af⟩,λu hu=>gA _ _ (m8'.tu u (pm.mem_iff.mp hu)),λu hu=>rg u (pm.mem_iff.mp hu)⟩ (by omega) this (((pm.map (·.2)).nodup_iff).mpr ndu)
end
theorem aD.eC {H H':Hp}{l:Addr}(s:aD H H')(hl:H l=none)(o:HO):aD H (upd H' l o):=λb u e=>by
 rw[aq (av e hl)];exact s _ _ e
theorem dN {i:Nat}{v:V}{σ:St}{H:Hp}{Q:St->Hp->Prop}(h:Q (σ.set i (some v)) H):fQ i v σ H Q:=h
theorem lU {α β:Type}(g:α -> β):∀(l:List α) (n:Nat),(l.map g).eraseIdx n=(l.eraseIdx n).map g
 | [],_=>rfl
 | _ :: _,0=>rfl
 | x :: l,n+1=>by
  show g x :: (l.map g).eraseIdx n=g x :: (l.eraseIdx n).map g
  rw[lU g l n]
def blk (f m n:Nat):List (List Int):=(Ba n).map λk=>[((f+k/m:Nat):Int),((f+k%m:Nat):Int)]
theorem oH (f m n:Nat):blk f m (n+1)=blk f m n++[[((f+n/m:Nat):Int),((f+n%m:Nat):Int)]]:=by
 unfold blk
 rw[EV,AA];rfl
theorem lV (f m n:Nat):(blk f m n).Nodup:=by
 unfold blk
 refine BE.mpr (ED.imp λ{a b} h e=>h ?_)
 have e1:=(CP e).1
 have e2:=(CP (CP e).2).1
 rw[<- Im a m, <- Im b m,show a/m=b/m by omega,show a%m=b%m by omega]
theorem ra {f m n:Nat}(h:n<=m*m):∀t∈blk f m n,∃x y,t=[x,y]/\0<=x/\x<((f+m:Nat):Int)/\0<=y/\y<((f+m:Nat):Int):=λt ht=>by
 unfold blk at ht
 obtain ⟨k,hk,rfl⟩:=A6.mp ht
 have hk:=BG.mp hk
 have m0:0<m:=by
  rcases G9 m with z | z
  ·subst z
   have:n<=0:=h
   omega
  ·exact z
 have d1:k/m<m:=Nat.div_lt_of_lt_mul (by omega)
 have d2:=CJ k m0
 generalize k/m=a at d1
 generalize k%m=b at d2
 exact ⟨((f+a:Nat):Int),((f+b:Nat):Int),rfl,Hf _,Int.ofNat_lt.mpr (by omega),Hf _,Int.ofNat_lt.mpr (by omega)⟩
theorem eJ (f m n:Nat):(blk f m n).length=n:=by unfold blk;rw[Aq,BN]
theorem Rg.of {m:Int}{us:List (Addr×List Int)}(h:∀t∈us.map (·.2),∃x y,t=[x,y]/\0<=x/\x<m/\0<=y/\y<m):Rg m us:=λu hu=>h _ (Cm hu)
abbrev oI:Sp:=λvs H Q _=>∃(p:Addr),vs=[.ref p]/\Pt 1 H p/\∀(b:Addr) (m:Nat) (ts:List (Addr×List Int)) (H':Hp),Bu 1 p H H'->Ow H' b (m:Int) ts->m<=6->ts.length<=36->(ts.map (·.2)).Nodup->Q (.ref b) H'
@[irreducible] def i5:Sp:=oI
theorem fq {vs:List V}{H:Hp}{Q:VK}{E:XK}:i5 vs H Q E↔oI vs H Q E:=by
 delta i5
 exact CQ
section
variable  {P:AN}{w:Bh}{K:Av}{mg:Str->Option Au}{base:Heap}{f T:Addr}{fd:BJ}
theorem hJ:aI ["pot", "many", "arrows", "turn"] ["pot"] (au mO):=⟨rfl,rfl,rfl,by decide +kernel,rfl,by decide +kernel,by decide +kernel⟩
theorem iX:(["k", "many"]:List Str).Nodup:=by decide +kernel
theorem vD (F:Fun K "_law_drawn" "_law_drawn" mO f fd)(B:Blt mg)(cLTake:Cal P w K mg base 1 "_law_take" ["pot", "many"] fi)(cLOneWay:Cal P w K mg base 2 "_law_one_way" ["pot", "most", "arrows"] q9)(C:Cst mg):bE P w K mg base CX0 3 f fd ["pot"] i5:=by
 refine F.ok hJ (λvs H Q E h =>?_) (λcdv A outer s H vs Q E hr h =>?_)
 ·obtain ⟨_,rfl,_⟩:=fq.mp h
  rfl
 obtain ⟨p,rfl,hp,q⟩:=fq.mp h
 refine ⟨_,(@aj _ _ _ _ _ (@bD _ _ _ _ _ _ _ _ (aG nD (az cLTake hr (by decide) rfl (@aa _ _ _ _ _ (pv 0) (@aa _ _ _ _ _ ai ae rfl) rfl)) ai (aS _)) (@ak _ _ _ (@aJ _ _ _ _ (az cLOneWay hr (by decide) rfl (@aa _ _ _ _ _ (pv 0) (@aa _ _ _ _ _ ai (@aa _ _ _ _ _ ai ae rfl) rfl) rfl)))) aP)
  (@aj _ _ _ _ _ (@aE _ _ 1 _ _ _ _ hJ.nd rfl (Or.inr rfl) (@ax _ _ _ _ _ _ _ _ bB ai (az cLTake hr (by decide) rfl (@aa _ _ _ _ _ (pv 0) (@aa _ _ _ _ _ ai ae rfl) rfl))) rfl (by first | exact .inl rfl | exact .inr rfl | assumption))
  (@aj _ _ _ _ _ (jw (i:=2) ["k", "many"] [none,some 1] rfl hJ.nd rfl rfl (aX rfl B.b_range (@aa _ _ _ _ _ (@ax _ _ _ _ _ _ _ _ dP (pv 1) (pv 1)) ae rfl)) rfl (λ_ _ _ _ _=>(aN (i:=0) iX rfl (Or.inl rfl))) (λ_ _ _ _ _=>dW) (λ_ _ _ _ _=>(@aL _ _ _ _ _ (@aa _ _ _ _ _ (@ax _ _ _ _ _ _ _ _ fC (pv 0) (pv 1)) (@aa _ _ _ _ _ (@ax _ _ _ _ _ _ _ _ dQ (pv 0) (pv 1)) ae rfl) rfl))))
  (@aj _ _ _ _ _ (@cp _ _ _ _ _ _ _ _ BW rfl (aX rfl B.b_range (@aa _ _ _ _ _ (az cLTake hr (by decide) rfl (@aa _ _ _ _ _ (pv 0) (@aa _ _ _ _ _ ai ae rfl) rfl)) ae rfl)) (aN (i:=3) hJ.nd rfl (Or.inl rfl))
   (@ak _ _ _ (bQ (eN Bo Gh Gi ud (pv 2) (@aa _ _ _ _ _ (az cLTake hr (by decide) rfl (@aa _ _ _ _ _ (pv 0) (@aa _ _ _ _ _ (ao aH rfl B.b_len bX (@aa _ _ _ _ _ (pv 2) ae rfl)) ae rfl) rfl)) ae rfl)))) (λ_=>rfl))
  (@ak _ _ _ (@aJ _ _ _ _ (@aL _ _ _ _ _ (@aa _ _ _ _ _ (pv 1) (@aa _ _ _ _ _ (bq bg rfl B.b_tuple cc (@aa _ _ _ _ _ (pv 2) ae rfl)) ae rfl) rfl)))))))),?_⟩
 refine ⟨_,rfl,aF.mpr ⟨p,3,rfl,hp,by decide,by decide,λd1 H1 d0 d4 u1 =>?_⟩⟩
 refine ⟨_,_,rfl,rfl,_,rfl,gG (λz =>?_) λz =>?_⟩
 ·exact ⟨_,rfl,iE.mpr ⟨p,rfl,u1.pot,λb m ts H2 u2 W m6 tl nd=>q b m ts H2 (u1.trans u2) W m6 (by omega) nd⟩⟩
 refine ⟨_,rfl,aF.mpr ⟨p,2,rfl,u1.pot,by decide,by decide,λd2 H2 e0 e2 u2 =>?_⟩⟩
 refine ⟨_,_,rfl,rfl,?_⟩
 obtain ⟨m,hm,m5,m6⟩:∃m:Nat,5+d2=(m:Int)/\5<=m/\m<=6:=⟨(5+d2).toNat,by omega,by omega,by omega⟩
 have u2:=u1.trans u2
 refine dN ?_
 dsimp only
 rw[hm]
 have mm:(m:Int)*(m:Int)=((m*m:Nat):Int):=by rw[Io]
 have mm1:25<=m*m/\m*m<=36:=by
  rcases (show m=5\/m=6 by omega) with z | z <;> subst z <;> decide
 refine ⟨_,rfl,_,rfl,_,_,rfl,rfl,.inl ⟨by omega,by omega⟩,((m*m:Nat):Int),congrArg (λx=>[V.int x]) mm,by omega,by omega,?_⟩
 rw[BQ]
 refine cE (λi ys H'=>aD H2 H'/\∃us:List (Addr×List Int),ys=us.map (λu =>.ref u.1)/\Tus H' us/\us.map (·.2)=blk 0 m i) ⟨aD.refl _,[],rfl,λu hu=>(by cases hu),rfl⟩ (small (by omega)) ?_ ?_
 ·rintro i ys H4 hi hy ⟨s4,us,rfl,tu,eu⟩ R1 R0 r1 r0
  have ed:(0+(i:Int))/(m:Int)=((0+i/m:Nat):Int):=by rw[Gj,CH,Ia]
  have em:(0+(i:Int))%(m:Int)=((0+i%m:Nat):Int):=by rw[Gj,CH,Ib]
  refine cx ⟨_,rfl,_,rfl,_,_,rfl,rfl,⟨by omega,by omega⟩,_,rfl,_,rfl,_,_,rfl,rfl,(by show (0:Int)<m;omega),(by show 2<=AH;decide),λc hc =>?_⟩
  show R1 (V.ref c) (upd H4 c (.tup [.int ((0+(i:Int))/(m:Int)),.int ((0+(i:Int))%(m:Int))]))
  rw[ed,em]
  exact r1 _ _ ⟨s4.trans (ag hc _),us++[(c,[((0+i/m:Nat):Int),((0+i%m:Nat):Int)])],by rw[AA];rfl,Tus.snoc (tu.same (ag hc _)) (u:=(c,[((0+i/m:Nat):Int),((0+i%m:Nat):Int)])) af,by rw[AA,eu,oH];rfl⟩
 rintro ys H4 hy ⟨s4,us,rfl,tu,eu⟩ la hla
 have g4:=ag hla (.lst (us.map λu =>.ref u.1))
 have ea:upd H4 la (.lst (us.map λu =>.ref u.1)) la=some (.lst (us.map λu =>.ref u.1)):=af
 have u5:=u2.same (s4.trans g4)
 have hla0:=mX (u2.same s4) hla
 have np:la≠p:=hp.ne hla0
 have tu5:=tu.same g4
 generalize upd H4 la (.lst (us.map λu =>.ref u.1))=H5 at g4 ea u5 tu5
 have lu:us.length=m*m:=by have:=congrArg List.length eu;rw[Aq,eJ] at this;exact this
 refine ⟨_,rfl,aF.mpr ⟨p,7,rfl,u5.pot,by decide,by decide,λd7 H6 f0 f7 u6 =>?_⟩⟩
 refine ⟨d7,rfl,by omega,by omega,bJ (λk σ H'=>(∃c3,σ=[some (.ref p),some (.int (m:Int)),some (.ref la),c3])/\∃ws:List (Addr×List Int),Bu 1 p H H'/\H' la=some (.lst (ws.map λu =>.ref u.1))/\Tus H' ws/\(ws.map (·.2)).Sublist (us.map (·.2))/\ws.length+k=m*m) ⟨⟨_,rfl⟩,us,u5.trans u6,u6.st _ _ np ea,tu5.bu u6 u5.pot,DP _,lu⟩ ?_ ?_⟩
 ·rintro k σ H7 hk ⟨⟨c3,rfl⟩,ws,u7,ea7,tu7,sb,lw⟩
  have lwm:(ws.map λu=>V.ref u.1).length=ws.length:=Aq _
  refine ⟨_,rfl,.inl ⟨rfl,_,SqL.of ea7⟩,_,rfl,_,rfl,la,_,rfl,.inl (SqL.of ea7),?_⟩
  rw[lwm]
  refine aF.mpr ⟨p,(ws.length:Int),rfl,u7.pot,by omega,by omega,λi' H8 i0 i1 u8' =>?_⟩
  obtain ⟨i,rfl⟩:∃i:Nat,i'=i:=⟨i'.toNat,by omega⟩
  have ea8:=u8'.st _ _ np ea7
  have tu8:Tus H8 ws:=tu7.bu u8' u7.pot
  refine ⟨la,_,(i:Int),i,V.ref ws[i].1,rfl,rfl,ea8,by omega,by omega,?_,by rw[AW,AD (by omega)];rfl,?_⟩
  ·exact Ic (by omega) (by rw[lwm];omega)
  have u8:=u7.trans u8'
  refine ⟨⟨_,rfl⟩,ws.eraseIdx i,u8.eC hla0 np _,by rw[af,lU],λu hu =>?_,?_,?_⟩
  ·have mu:=(Gk ws i).subset hu
   rw[aq (eL (tu8 u mu) ea8 (by intro z;cases z))];exact tu8 u mu
  ·exact ((Gk ws i).map _).trans sb
  ·rw[List.length_eraseIdx_of_lt (by omega)];omega
 ·rintro σ H7 ⟨⟨c3,rfl⟩,ws,u7,ea7,tu7,sb,lw⟩
  have s7:=sb
  rw[eu] at s7
  refine ⟨_,rfl,_,rfl,la,_,rfl,.inl ⟨SqL.of ea7,λl3 hl3=>⟨(by show 2<=AH;decide),λb hb =>?_⟩⟩⟩
  have gA:=(ag hl3 (.tup (ws.map λu =>.ref u.1))).trans (ag hb (.tup [.int (m:Int),.ref l3]))
  refine q b m ws _ (u7.same gA) ⟨⟨l3,af,(ag hb _) _ _ af⟩,tu7.same gA,Rg.of λt ht =>?_⟩ m6 (by have:=s7.length_le;rw[Aq,eJ] at this;omega) (s7.nodup (lV 0 m (m*m)))
  obtain ⟨x,y,e,h0,h1,h2,h3⟩:=ra (f:=0) (AE _) t (s7.subset ht)
  rw[CH] at h1 h3
  exact ⟨x,y,e,h0,h1,h2,h3⟩
end
abbrev oJ:Sp:=λvs H Q _=>∃(p:Addr) (ns:List Int),vs=[.ref p]/\H p=some (.tup (ns.map V.int))/\ns≠[]/\ns.length<=500/\∀(z:Addr) (H':Hp) (M:Int),aD H H'->M∈ns->(∀b∈ns,M<=b)->H' z=some (.tup ((rot ns (ns.idxOf M)).map V.int))->Q (.ref z) H'
@[irreducible] def i6:Sp:=oJ
theorem fu {vs:List V}{H:Hp}{Q:VK}{E:XK}:i6 vs H Q E↔oJ vs H Q E:=by
 delta i6
 exact CQ
section
variable  {P:AN}{w:Bh}{K:Av}{mg:Str->Option Au}{base:Heap}{f T:Addr}{fd:BJ}
theorem rd:aI ["places", "at"] ["places"] (au pY):=⟨rfl,rfl,rfl,by decide +kernel,rfl,by decide +kernel,by decide +kernel⟩
theorem xG (F:Fun K "_law_form" "_law_form" pY f fd)(B:Blt mg)(C:Cst mg):bE P w K mg base CX0 1 f fd ["places"] i6:=by
 refine F.ok rd (λvs H Q E h =>?_) (λcdv A outer s H vs Q E hr h =>?_)
 ·obtain ⟨_,_,rfl,_⟩:=fu.mp h
  rfl
 obtain ⟨p,ns,rfl,ep,ne,l5,q⟩:=fu.mp h
 refine ⟨_,(@aj _ _ _ _ _ (@aE _ _ 1 _ _ _ _ rd.nd rfl (Or.inl rfl) (uK D9 Fw lN (pv 0) (@aa _ _ _ _ _ (ao (jM rfl) rfl B.b_min mS (@aa _ _ _ _ _ (pv 0) ae rfl)) ae rfl)) rfl (by first | exact .inl rfl | exact .inr rfl | assumption))
  (@ak _ _ _ (@aJ _ _ _ _ (@ax _ _ _ _ _ _ _ _ cb (bo bU (pv 0) (bC (pv 1)) bM) (bo bU (pv 0) bM (bC (pv 1))))))),?_⟩
 have lm:(ns.map V.int).length=ns.length:=Aq _
 refine ⟨_,rfl,⟨p,_,rfl,ep⟩,_,rfl,p,ns,rfl,SqT.of ep,ne,λM hM mn=>⟨p,ns,M,rfl,rfl,ep,hM,?_⟩⟩
 have hk:ns.idxOf M<=ns.length:=C6 (D8.mpr hM)
 have q:=λz H'=>q z H' M
 unfold rot at q
 generalize ns.idxOf M=k at hk q
 refine ⟨_,rfl,_,rfl,_,rfl,p,_,rfl,ep,λp1 H1 s1 e1 =>?_⟩
 rw[vA _ (by rw[lm];exact hk), <- FF] at e1
 refine ⟨_,rfl,_,rfl,_,rfl,p,_,rfl,s1 _ _ ep,λp2 H2 s2 e2 =>?_⟩
 rw[mV _ (by rw[lm];exact hk), <- DM] at e2
 refine ⟨p1,p2,_,_,rfl,rfl,s2 _ _ e1,e2,by rw[Aq,Aq,Ca,Bz];exact small (by omega),λp3 H3 s3 e3 =>?_⟩
 rw[<- AA] at e3
 exact q p3 H3 (s1.trans (s2.trans s3)) hM mn e3
end
open PySem L2
theorem gk {α:Type}{g:Nat->List α}{b:Nat}:∀L:List Nat,(∀p,(g p).length<=b)->(L.flatMap g).length<=L.length*b
 | [],_=>Bl _
 | p :: L,h=>by
  rw[Bx,As,Bk,Nat.succ_mul]
  have:=gk L h
  have:=h p
  omega
theorem iF {out:Nat->List Nat}{f:Nat}(ho:∀p,(out p).length<=6):∀(n:Nat) (way:List Nat) (l:Nat),(goP out f n way l).length<=6 ^ n
 | 0,_,_=>Bl _
 | n+1,way,l=>by
  rw[goP]
  have p1:1<=6 ^ n:=Nat.one_le_pow _ _ (by decide)
  refine A5 (gk (b:=6 ^ n) (out l) λp =>?_) ?_
  ·by_cases c:p=f
   ·rw[if_pos c];exact p1
   ·rw[if_neg c]
    by_cases d:f<p/\p∉way
    ·rw[if_pos d];exact iF ho n _ _
    ·rw[if_neg d];exact Bl _
  ·rw[HK,HL]
   exact Nat.mul_le_mul_left _ (ho l)
theorem vE {out:Nat->List Nat}{f m:Nat}(ho:∀p q,q∈out p->q<m)(hf:f<m):∀k:Nat,goP out f (m+k) [f] f=goP out f m [f] f
 | 0=>rfl
 | k+1=>(vg ho (m+k) [f] f (BL.mpr ⟨BP,BK⟩) (λx hx=>by rw[AB.mp hx];exact hf) (by show m+1<=m+k+1;omega)).trans (vE ho hf k)
theorem tw {out:Nat->List Nat}{m:Nat}:∀x∈rounds out m,x≠[]:=λx hx=>by
 obtain ⟨p,_,hp⟩:=Cv.mp hx
 obtain ⟨t,ht⟩:=de _ _ _ _ hp
 rw[ht];simp
theorem hU {out:Nat->List Nat}{m:Nat}(ho:∀p,(out p).length<=6)(h:m<=6):(rounds out m).length<=300000:=by
 refine A5 (gk (b:=6 ^ 6) _ λp=>A5 (iF ho m [p] p) (GA (by decide) h)) ?_
 rw[BN]
 exact A5 (Nat.mul_le_mul_right _ h) (by decide)
theorem big {n:Nat}(h:n<=700000):n<AH:=Eg h (by decide)
theorem kg {m:Nat}{E:List (List Int)}(h:RgE m E)(nd:E.Nodup)(m6:m<=6)(p:Nat):(aW E p).length<=6:=A5 (aV m _ (gi h nd p) λx hx=>(cT h hx).2) m6
@[irreducible] def dq:Nat->Sp
 | 0=>λ_ _ _ _=>False
 | n+1=>λvs H Q _=>∃(o p l:Addr) (m f la:Nat) (out:Nat->List Nat) (way:List Nat),vs=[.ref o,.ref p]/\eR l H o m out/\H p=some (.tup ((ni (f :: way)).map V.int))/\(∃w0,f :: way=w0++[la])/\(f :: way).Nodup/\(∀x,x∈f :: way->x<m)/\m<=6/\n<=6/\(∀p,(out p).length<=6)/\m+1<=n+(f :: way).length/\∀(z:Addr) (ws:List (Addr×List Int)) (H':Hp),aD H H'->H' z=some (.lst (ws.map λu =>.ref u.1))->Tus H' ws->ws.map (·.2)=(goP out f n (f :: way) la).map ni->Q (.ref z) H'
theorem dr {n:Nat}{vs:List V}{H:Hp}{Q:VK}{E:XK}:dq (n+1) vs H Q E↔∃(o p l:Addr) (m f la:Nat) (out:Nat->List Nat) (way:List Nat),vs=[.ref o,.ref p]/\eR l H o m out/\H p=some (.tup ((ni (f :: way)).map V.int))/\(∃w0,f :: way=w0++[la])/\(f :: way).Nodup/\(∀x,x∈f :: way->x<m)/\m<=6/\n<=6/\(∀p,(out p).length<=6)/\m+1<=n+(f :: way).length/\∀(z:Addr) (ws:List (Addr×List Int)) (H':Hp),aD H H'->H' z=some (.lst (ws.map λu =>.ref u.1))->Tus H' ws->ws.map (·.2)=(goP out f n (f :: way) la).map ni->Q (.ref z) H':=by
 unfold dq
 exact CQ
theorem qd {vs:List V}{H:Hp}{Q:VK}{E:XK}:¬ dq 0 vs H Q E:=by
 unfold dq
 exact id
section
variable  {P:AN}{w:Bh}{K:Av}{mg:Str->Option Au}{base:Heap}{f T:Addr}{fd:BJ}
theorem kh:aI ["outs", "path", "found", "place"] ["outs", "path"] (au mP):=⟨rfl,rfl,rfl,by decide +kernel,rfl,by decide +kernel,by decide +kernel⟩
theorem vF (F:Fun K "_law_paths" "_law_paths" mP f fd)(B:Blt mg)(n:Nat)(cLPaths:Cal P w K mg base (0+n) "_law_paths" ["outs", "path"] (dq n))(C:Cst mg):bE P w K mg base CX0 (0+n+1) f fd ["outs", "path"] (dq (n+1)):=by
 refine F.ok kh (λvs H Q E h =>?_) (λcdv A outer s H vs Q E hr h =>?_)
 ·obtain ⟨_,_,_,_,_,_,_,_,rfl,_⟩:=dr.mp h
  rfl
 obtain ⟨o,p,l,m,f',la,out,way,rfl,L,ep,⟨w0,hw⟩,nd,rg,m6,n6,o6,en,q⟩:=dr.mp h
 refine ⟨_,(@aj _ _ _ _ _ (@aE _ _ 2 _ _ _ _ kh.nd rfl (Or.inl rfl) (@bK _ _ _ _ ae) rfl (by first | exact .inl rfl | exact .inr rfl | assumption))
  (@aj _ _ _ _ _ (@cp _ _ _ _ _ _ _ _ BW rfl (@gx _ _ _ _ (@aY _ _ _ _ _ _ _ cq (pv 0) (@aY _ _ _ _ _ _ _ bF (pv 1) (qf mi ai) (λ_ _=>rfl)) (λ_ _=>rfl))) (aN (i:=3) kh.nd rfl (Or.inl rfl))
   (@ak _ _ _ (@bD _ _ _ _ _ _ _ _ (aG eM (pv 3) (@aY _ _ _ _ _ _ _ bF (pv 1) ai (λ_ _=>rfl)) (aS _)) (@ak _ _ _ (bQ (eN Bo B4 B5 cz (pv 2) (@aa _ _ _ _ _ (pv 1) ae rfl)))) (@ak _ _ _ (@bD _ _ _ _ _ _ _ _ (PW.pt (jf (aG nD (pv 3) (@aY _ _ _ _ _ _ _ bF (pv 1) ai (λ_ _=>rfl)) (aS _)) (iZ (aG gF (pv 3) (pv 1) rfl)))) (@ak _ _ _ (bQ (eN Bo Ea Eb ib (pv 2) (@aa _ _ _ _ _ (az cLPaths hr (AE _) rfl (@aa _ _ _ _ _ (pv 0) (@aa _ _ _ _ _ (@ax _ _ _ _ _ _ _ _ cb (pv 1) (@aL _ _ _ _ _ (@aa _ _ _ _ _ (pv 3) ae rfl))) ae rfl) rfl)) ae rfl)))) aP)))) (λ_=>rfl))
  (@ak _ _ _ (@aJ _ _ _ _ (pv 2))))),?_⟩
 obtain ⟨k,rfl⟩:∃k,n=k+1:=by
  have:=aV m _ nd rg
  exact ⟨n-1,by omega⟩
 have lw:=aV m _ nd rg
 have lm:la<m:=rg la (by rw[hw];simp)
 have at0:atI ((ni (f' :: way)).map V.int) ((0:Nat):Int)=some (.int (f':Nat)):=bR rfl
 have atl:atI ((ni (f' :: way)).map V.int) (-1)=some (.int (la:Nat)):=by
  rw[hw,eI,AA];exact nF _ _
 obtain ⟨as,rb,ea0,eb,er0,nbl,nrl⟩:=L.row lm
 have tot:=iF (f:=f') o6 (k+1) (f' :: way) la
 have pw:6 ^ (k+1)<=300000:=A5 (GA (by decide) n6) (by decide)
 rw[goP] at q tot
 generalize hgs:(λp=>if p=f' then [f' :: way] else if f'<p/\p∉f' :: way then goP out f' k (f' :: way++[p]) p else [])=gs at q tot
 have gsp:∀p,gs p=if p=f' then [f' :: way] else if f'<p/\p∉f' :: way then goP out f' k (f' :: way++[p]) p else []:=λp=>by rw[<- hgs]
 refine ⟨(by show 0<=AH;decide),λlf hlf =>?_⟩
 have s1:=ag hlf (.lst [])
 have ef:upd H lf (.lst []) lf=some (.lst []):=af
 generalize upd H lf (.lst [])=H1 at s1 ef
 refine ⟨_,rfl,_,rfl,_,rfl,p,_,_,_,rfl,rfl,SqT.of (s1 _ _ ep),atl,o,_,_,_,rfl,rfl,SqL.of (s1 _ _ ea0),eb,rb,rfl,⟨_,SqL.of (s1 _ _ er0)⟩,jk (xs:=(ni (out la)).map V.int)
  (λi σ H'=>∃(c3:Option V) (ws:List (Addr×List Int)),σ=[some (.ref o),some (.ref p),some (.ref lf),c3]/\aD H H'/\H' lf=some (.lst (ws.map λu =>.ref u.1))/\Tus H' ws/\ws.map (·.2)=(((out la).take i).flatMap gs).map ni)
  ⟨_,[],rfl,s1,ef,(λu hu=>by cases hu),rfl⟩ (λi σ H' _ z =>?_) ?_ ?_⟩
 ·obtain ⟨_,_,_,s4,_⟩:=z
  exact SqL.of (s4 _ _ er0)
 ·rintro i x σ H4 hx ⟨c3,ws,rfl,s4,ef4,tu4,ews⟩
  obtain ⟨v,hv,rfl⟩:=vw hx
  have iv:i<(out la).length:=(AG.mp hv).1
  have ft:=fJ gs (out la) i iv
  have vm:v<m:=L.rng la v (A0 hv)
  have lwe:ws.length=(((out la).take i).flatMap gs).length:=by have:=congrArg List.length ews;rwa [Aq,Aq] at this
  have ep4:=s4 _ _ ep
  have f1:=ft.1
  rw[ft.2 v hv,As] at f1
  refine ⟨_,rfl,_,rfl,p,_,_,_,rfl,rfl,SqT.of ep4,at0,rfl,_,rfl,?_⟩
  by_cases c1:v=f'
  ·rw[decide_eq_true (by rw[c1])]
   refine cx ⟨_,rfl,.inl ⟨rfl,_,SqL.of ef4⟩,_,rfl,lf,_,_,rfl,rfl,ef4,(by rw[Aq];exact big (by omega)),_,ws++[(p,ni (f' :: way))],rfl,aD.eC s4 hlf _,by rw[af,AA];rfl,?_,?_⟩
   ·intro u hu
    have:H4 u.1=some (.tup (u.2.map V.int)):=by
     rcases AI.mp hu with z | z
     ·exact tu4 u z
     ·rw[AB] at z;subst z;exact ep4
    rw[aq (eL this ef4 (by intro z;cases z))];exact this
   ·rw[AA,ews,ft.2 v hv,AA,gsp,if_pos c1];rfl
  rw[decide_eq_false (λz=>c1 (by have:=V.int.inj z;omega))]
  refine cw ⟨_,rfl,_,rfl,p,_,_,_,rfl,rfl,SqT.of ep4,at0,_,_,rfl,rfl,_,rfl,?_⟩
  by_cases c2:f'<v
  rotate_left
  ·rw[decide_eq_false (show ¬ ((f':Int)<(v:Int)) by omega)]
   refine cw ⟨_,ws,rfl,s4,ef4,tu4,?_⟩
   rw[ews,ft.2 v hv,gsp,if_neg c1,if_neg (λz=>c2 z.1),Bj]
  rw[decide_eq_true (show ((f':Int)<(v:Int)) by omega)]
  refine cx ⟨_,rfl,_,rfl,p,_,rfl,.inr (SqT.of ep4),rfl,iA _,_,rfl,vx (λc3 =>?_) λc3 =>?_⟩
  rotate_left
  ·refine ⟨_,ws,rfl,s4,ef4,tu4,?_⟩
   rw[ews,ft.2 v hv,gsp,if_neg c1,if_neg (λz=>z.2 (cN.mp c3)),Bj]
  have c3:v∉f' :: way:=λz=>c3 (cN.mpr z)
  have gp:gs v=goP out f' k (f' :: way++[v]) v:=by rw[gsp,if_neg c1,if_pos ⟨c2,c3⟩]
  refine ⟨_,rfl,.inl ⟨rfl,_,SqL.of ef4⟩,_,rfl,_,rfl,_,rfl,(by show 1<=AH;decide),λt ht =>?_⟩
  have s5:=ag ht (.tup [.int (v:Nat)])
  have et:upd H4 t (.tup [.int (v:Nat)]) t=some (.tup [.int (v:Nat)]):=af
  have s45:=s4.trans s5
  have tu5:=tu4.same s5
  have ef5:=s5 _ _ ef4
  generalize upd H4 t (.tup [.int (v:Nat)])=H5 at s5 et s45 tu5 ef5
  refine ⟨p,t,_,_,rfl,rfl,s45 _ _ ep,et,?_,λw2 H6 s6 ew2=>dr.mpr ⟨o,w2,l,m,f',v,out,way++[v],rfl,(L.same s45).same s6,?_,⟨f' :: way,rfl⟩,?_,?_,m6,by omega,o6,?_,?_⟩⟩
  ·rw[Aq,cM];exact small (by show _+1<=_;omega)
  ·rw[ew2,show f' :: (way++[v])=(f' :: way)++[v] from rfl,eI,AA];rfl
  ·rw[show f' :: (way++[v])=(f' :: way)++[v] from rfl]
   exact Cd.mpr ⟨nd,BL.mpr ⟨BP,BK⟩,λx hx y hy e=>c3 (by rw[<- AB.mp hy, <- e];exact hx)⟩
  ·intro x hx
   rw[show f' :: (way++[v])=(f' :: way)++[v] from rfl] at hx
   rcases AI.mp hx with z | z
   ·exact rg x z
   ·exact (AB.mp z) ▸ vm
  ·rw[show f' :: (way++[v])=(f' :: way)++[v] from rfl,As,Bs];omega
  ·rw[show f' :: (way++[v])=(f' :: way)++[v] from rfl, <- gp]
   intro z ws' H7 s7 ez tu7 ews'
   have s8:=(s45.trans s6).trans s7
   have ef7:=s7 _ _ (s6 _ _ ef5)
   have lw':ws'.length=(gs v).length:=by have:=congrArg List.length ews';rwa [Aq,Aq] at this
   refine ⟨lf,z,_,_,rfl,rfl,ef7,ez,(by rw[Aq,Aq];exact C6 (big (by omega))),_,ws++ws',rfl,aD.eC s8 hlf _,by rw[af,AA],?_,?_⟩
   ·intro u hu
    have:H7 u.1=some (.tup (u.2.map V.int)):=by
     rcases AI.mp hu with y | y
     ·exact s7 _ _ (s6 _ _ (tu5 u y))
     ·exact tu7 u y
    rw[aq (eL this ef7 (by intro z;cases z))];exact this
   ·rw[AA,ews,ews',ft.2 v hv,AA]
 ·rintro σ H4 ⟨c3,ws,rfl,s4,ef4,tu4,ews⟩
  rw[Aq,cM,DY] at ews
  exact ⟨_,rfl,q lf ws H4 s4 ef4 tu4 ews⟩
end
open PySem L2
theorem lX {ts:List (Addr×List Int)}{l:Nat}{u:Addr×List Int}{a b k:Int}(h:ts[l]? = some u)(e:u.2=[a,b]):outs ((ts.map (·.2)).take (l+1)) k=outs ((ts.map (·.2)).take l) k++if a=k then [b] else []:=by
 rw[CS,AW,h, <- lS, <- e];rfl
theorem zp {out:Nat->List Nat}{f n:Nat}{way:List Nat}{l:Nat}(hw:way≠[]):∀x∈goP out f n way l,x≠[]:=λx hx=>by
 obtain ⟨t,ht⟩:=de _ _ _ _ hx
 rw[ht]
 intro z
 exact hw (List.append_eq_nil_iff.mp z).1
abbrev rf:Sp:=λvs H Q _=>∃(r:Addr) (m:Nat) (ts:List (Addr×List Int)),vs=[.ref r]/\Ow H r (m:Int) ts/\m<=6/\ts.length<=36/\(ts.map (·.2)).Nodup/\∀(l:Addr) (us:List (Addr×List Int)) (H':Hp),aD H H'->H l=none->H' l=some (.lst (us.map λu =>.ref u.1))->Tus H' us->(us.map (·.2)).Perm ((rounds (aW (ts.map (·.2))) m).map ni)->(us.map (·.2)).Pairwise cW->Q (.ref l) H'
@[irreducible] def mY:Sp:=rf
theorem gm {vs:List V}{H:Hp}{Q:VK}{E:XK}:mY vs H Q E↔rf vs H Q E:=by
 delta mY
 exact CQ
section
variable  {P:AN}{w:Bh}{K:Av}{mg:Str->Option Au}{base:Heap}{f T:Addr}{fd:BJ}
theorem ki:aI ["web", "outs", "place", "found"] ["web"] (au vn):=⟨rfl,rfl,rfl,by decide +kernel,rfl,by decide +kernel,by decide +kernel⟩
theorem iG:(["a", "b", "place"]:List Str).Nodup:=by decide +kernel
theorem zq (F:Fun K "_law_all" "_law_all" vn f fd)(B:Blt mg)(cLPaths:Cal P w K mg base 7 "_law_paths" ["outs", "path"] (dq 7))(C:Cst mg):bE P w K mg base CX0 8 f fd ["web"] mY:=by
 refine F.ok ki (λvs H Q E h =>?_) (λcdv A outer s H vs Q E hr h =>?_)
 ·obtain ⟨_,_,_,rfl,_⟩:=gm.mp h
  rfl
 obtain ⟨r,m,ts,rfl,W,m6,tl,nd,q⟩:=gm.mp h
 refine ⟨_,(@aj _ _ _ _ _ (@aE _ _ 1 _ _ _ _ ki.nd rfl (Or.inl rfl) (@bK _ _ _ _ ae) rfl (by first | exact .inl rfl | exact .inr rfl | assumption))
  (@aj _ _ _ _ _ (@cp _ _ _ _ _ _ _ _ BW rfl (aX rfl B.b_range (@aa _ _ _ _ _ (@aY _ _ _ _ _ _ _ bF (pv 0) ai (λ_ _=>rfl)) ae rfl)) (aN (i:=2) ki.nd rfl (Or.inr rfl))
   (@ak _ _ _ (bQ (eN Bo B4 B5 cz (pv 1) (@aa _ _ _ _ _ (dg ["a", "b", "place"] [none,none,some 2] rfl (@oU _ _ _ _ (@aY _ _ _ _ _ _ _ bF (pv 0) ai (λ_ _=>rfl))) rfl (λ_ _ _ _ _=>(nO (K:=K) (i:=0) (j:=1) iG rfl rfl (Or.inl rfl) (Or.inl rfl))) (λ_ _ _ _ _=>(yA (aG eM (pv 0) (pv 2) (aS _)))) (λ_ _ _ _ _=>(pv 1))) ae rfl)))) (λ_=>rfl))
  (@aj _ _ _ _ _ (@aE _ _ 3 _ _ _ _ ki.nd rfl (Or.inl rfl) (@bK _ _ _ _ ae) rfl (by first | exact .inl rfl | exact .inr rfl | assumption))
  (@aj _ _ _ _ _ (@cp _ _ _ _ _ _ _ _ BW rfl (aX rfl B.b_range (@aa _ _ _ _ _ (@aY _ _ _ _ _ _ _ bF (pv 0) ai (λ_ _=>rfl)) ae rfl)) (aN (i:=2) ki.nd rfl (Or.inr rfl))
   (@ak _ _ _ (bQ (eN Bo Ea Eb ib (pv 3) (@aa _ _ _ _ _ (az cLPaths hr (by decide) rfl (@aa _ _ _ _ _ (pv 1) (@aa _ _ _ _ _ (@aL _ _ _ _ _ (@aa _ _ _ _ _ (pv 2) ae rfl)) ae rfl) rfl)) ae rfl)))) (λ_=>rfl))
  (@ak _ _ _ (@aJ _ _ _ _ (ao bS rfl B.b_sorted cA (@aa _ _ _ _ _ (pv 3) ae rfl)))))))),?_⟩
 have rE:=W.rng |> Rg.rgE
 obtain ⟨t,e1,e2⟩:=W.at'
 refine ⟨(by show 0<=AH;decide),λlo hlo =>?_⟩
 have s1:=ag hlo (.lst [])
 have eo:upd H lo (.lst []) lo=some (.lst []):=af
 generalize upd H lo (.lst [])=H1 at s1 eo
 refine ⟨_,rfl,r,_,0,_,rfl,rfl,SqT.of (s1 _ _ e1),rfl,(m:Int),rfl,by omega,by omega,bJ (λi σ H'=>∃(c2 c3:Option V) (as:List Addr),σ=[some (.ref r),some (.ref lo),c2,c3]/\aD H H'/\H' lo=some (.lst (as.map V.ref))/\as.length=i/\∀(j:Nat) b,as[j]? = some b->b≠lo/\H' b=some (.lst ((outs (ts.map (·.2)) (j:Int)).map V.int))) ⟨_,_,[],rfl,s1,eo,rfl,λj b h=>(by cases h)⟩ ?_ ?_⟩
 ·rintro i σ H3 hi ⟨c2,c3,as,rfl,s3,eo3,la,ha⟩
  have e0:((0:Int)+(i:Int))=((i:Nat):Int):=by omega
  have W3:=W.same s3
  refine ⟨_,rfl,.inl ⟨rfl,_,SqL.of eo3⟩,_,rfl,r,_,1,_,rfl,rfl,SqT.of (s3 _ _ e1),rfl,t,rfl,⟨_,SqT.of (s3 _ _ e2)⟩,sP (ts:=ts.map λu:Addr×List Int=>(u.1,V.int (u.2.getD 0 0),V.int (u.2.getD 1 0))) (λl ys H'=>H'=H3/\ys=(outs ((ts.map (·.2)).take l) (i:Int)).map V.int) (by decide) ⟨rfl,rfl⟩ (by rw[Aq];exact small (by omega)) (λi ys H' _ k=>by rw[k.1];exact xF W3 (s3 _ _ e2)) ?_ ?_⟩
  ·rintro l v ys H4 hv hy ⟨eH,rfl⟩ R1 R0 r1 r0
   obtain ⟨u,hu,rfl⟩:=xE hv
   obtain ⟨a,b,e3,_⟩:=W.rng u (A0 hu)
   have g0:u.2.getD 0 0=a:=by rw[e3];rfl
   have g1:u.2.getD 1 0=b:=by rw[e3];rfl
   rw[eH,g0,g1]
   refine ⟨_,rfl,_,rfl,rfl,_,rfl,gG (λz =>?_) λz =>?_⟩
   ·have z:a=(i:Int):=by have:=V.int.inj (of_decide_eq_true z);omega
    refine ⟨_,rfl,r1 _ _ ⟨rfl,?_⟩⟩
    rw[lX hu e3,if_pos z,AA];rfl
   ·have z:a≠(i:Int):=λe=>z (decide_eq_true (by rw[e,e0]))
    refine r0 _ ⟨rfl,?_⟩
    rw[lX hu e3,if_neg z,Bj]
  ·rintro ys H4 hy ⟨eH,rfl⟩ lb hlb
   rw[eH] at hlb ⊢
   rw[Aq,Bi (by rw[Aq];exact AE _)]
   have g4:=ag hlb (.lst ((outs (ts.map (·.2)) (i:Int)).map V.int))
   have eb:upd H3 lb (.lst ((outs (ts.map (·.2)) (i:Int)).map V.int)) lb=some (.lst ((outs (ts.map (·.2)) (i:Int)).map V.int)):=af
   have nb:lb≠lo:=λe=>by rw[e] at hlb;rw[hlb] at eo3;cases eo3
   generalize upd H3 lb (.lst ((outs (ts.map (·.2)) (i:Int)).map V.int))=H4 at g4 eb
   refine ⟨lo,_,_,rfl,rfl,g4 _ _ eo3,(by rw[Aq];exact ck (by omega)),_,_,as++[lb],rfl,aD.eC (s3.trans g4) hlo _,by rw[af,AA];rfl,by rw[As,la];rfl,λj b h =>?_⟩
   by_cases c:j<as.length
   ·rw[CD c] at h
    obtain ⟨h1,h2⟩:=ha j b h
    exact ⟨h1,by rw[aq h1];exact g4 _ _ h2⟩
   ·have l:=(AG.mp h).1
    rw[As] at l
    have l':j<as.length+1:=l
    have:j=as.length:=by omega
    subst this
    rw[Cw (AE _),Nat.sub_self] at h
    have h:lb=b:=Bq h
    subst h
    exact ⟨nb,by rw[aq nb,la];exact eb⟩
 rintro σ H3 ⟨c2,c3,as,rfl,s3,eo3,la,ha⟩
 have la:as.length=m:=by omega
 refine ⟨(by show 0<=AH;decide),λlf hlf =>?_⟩
 have g4:=ag hlf (.lst [])
 have hlf0:H lf=none:=s3.free hlf
 have ef:upd H3 lf (.lst []) lf=some (.lst []):=af
 have nA:lf∉as:=λz=>by
  obtain ⟨j,hj⟩:=Bw.mp z
  have:=(ha j _ hj).2
  rw[hlf] at this;cases this
 have L:eR lf (upd H3 lf (.lst [])) lo m (aW (ts.map (·.2))):=⟨⟨as,g4 _ _ eo3,av eo3 hlf,nA,la,λj b hj=>by rw[gX rE];exact g4 _ _ (ha j b hj).2⟩,λp q h=>(cT rE h).2,λp=>A5 (kg rE nd m6 p) (by decide)⟩
 have s4:=s3.trans g4
 have eo4:=g4 _ _ eo3
 generalize upd H3 lf (.lst [])=H4 at g4 ef L s4 eo4
 have o6:=kg rE nd m6
 generalize aW (ts.map (·.2))=out at L q o6
 generalize hg:(λf=>goP out f m [f] f)=gf
 have hgf:∀f,f<m->goP out f 6 [f] f=gf f:=λf hf=>by
  rw[<- hg]
  have:=vE (f:=f) L.rng hf (6-m)
  rwa [EU m6] at this
 have hR:rounds out m=(Ba m).flatMap gf:=by unfold rounds;rw[<- hg]
 have tot:=hU o6 m6
 rw[hR] at q tot
 refine ⟨_,rfl,r,_,0,_,rfl,rfl,SqT.of (s4 _ _ e1),rfl,(m:Int),rfl,by omega,by omega,bJ (λi σ H'=>∃(c2:Option V) (ws:List (Addr×List Int)),σ=[some (.ref r),some (.ref lo),c2,some (.ref lf)]/\Bt lf H4 H'/\H' lf=some (.lst (ws.map λu =>.ref u.1))/\Tus H' ws/\ws.map (·.2)=(((Ba m).take i).flatMap gf).map ni) ⟨_,[],rfl,Bt.refl _ _,ef,(λu hu=>by cases hu),rfl⟩ ?_ ?_⟩
 ·rintro i σ H5 hi ⟨c2,ws,rfl,b5,ef5,tu5,ews⟩
  have hi:i<m:=by omega
  have e0:((0:Int)+(i:Int))=((i:Nat):Int):=by omega
  have ir:(Ba m)[i]? = some i:=ET hi
  have ft:=fJ gf (Ba m) i (by rw[BN];exact hi)
  have f1:=ft.1
  rw[ft.2 i ir,As] at f1
  have lwe:ws.length=(((Ba m).take i).flatMap gf).length:=by have:=congrArg List.length ews;rwa [Aq,Aq] at this
  refine ⟨_,rfl,.inl ⟨rfl,_,SqL.of ef5⟩,_,rfl,_,rfl,(by show 1<=AH;decide),λt2 ht2 =>?_⟩
  have g6:=ag ht2 (.tup [.int ((0:Int)+(i:Int))])
  have et:upd H5 t2 (.tup [.int ((0:Int)+(i:Int))]) t2=some (.tup ((ni [i]).map V.int)):=by rw[e0];exact af
  have b6:=b5.trans (Bt.of g6)
  have ef6:=g6 _ _ ef5
  have tu6:=tu5.same g6
  show dq 7 _ (upd H5 t2 (.tup [.int ((0:Int)+(i:Int))])) _ _
  generalize upd H5 t2 (.tup [.int ((0:Int)+(i:Int))])=H6 at g6 et b6 ef6 tu6
  refine dr.mpr ⟨lo,t2,lf,m,i,i,out,[],rfl,L.bt b6,et,⟨[],rfl⟩,BL.mpr ⟨BP,BK⟩,λx hx=>by rw[AB.mp hx];exact hi,m6,AE _,o6,by show m+1<=6+1;omega,?_⟩
  rw[hgf i hi]
  intro z ws' H7 s7 ez tu7 ews'
  have lw':ws'.length=(gf i).length:=by have:=congrArg List.length ews';rwa [Aq,Aq] at this
  have ef7:=s7 _ _ ef6
  refine ⟨lf,z,_,_,rfl,rfl,ef7,ez,(by rw[Aq,Aq];exact C6 (big (by omega))),_,ws++ws',rfl,Bt.upd (b6.trans (Bt.of s7)) _,by rw[af,AA],?_,?_⟩
  ·intro u hu
   have:H7 u.1=some (.tup (u.2.map V.int)):=by
    rcases AI.mp hu with y | y
    ·exact s7 _ _ (tu6 u y)
    ·exact tu7 u y
   rw[aq (eL this ef7 (by intro z;cases z))];exact this
  ·rw[AA,ews,ews',ft.2 i ir,AA]
 ·rintro σ H5 ⟨c2,ws,rfl,b5,ef5,tu5,ews⟩
  have ews:ws.map (·.2)=((Ba m).flatMap gf).map ni:=by
   rw[ews]
   congr 2
   refine Bi ?_
   rw[BN];omega
  have s5:=Bt.past s4 hlf0 b5
  refine ⟨_,rfl,lf,ws,rfl,.inl (SqL.of ef5),λu hu=>⟨SqT.of (tu5 u hu),?_⟩,λl2 out2 hl2 pm2 so =>?_⟩
  ·have:u.2∈ws.map (·.2):=Cm hu
   rw[ews] at this
   obtain ⟨x,hx,ex⟩:=A6.mp this
   obtain ⟨p,_,hp⟩:=Cv.mp hx
   rw[<- hg] at hp
   have:=zp (by simp) x hp
   rw[<- ex]
   unfold ni
   intro z
   exact this (D2.mp z)
  refine q l2 out2 _ (s5.trans (ag hl2 _)) (s5.free hl2) af (λu hu=>(ag hl2 _) _ _ (tu5 u (pm2.mem_iff.mp hu))) ?_ (j7 so)
  exact (pm2.map (·.2)).trans (by rw[ews])
end
open PySem L2
theorem oK {K:Av}{H:Hp}{n:Nat}:∀ns:List Int,Paired (EqS K H n) (ns.map V.int) (ns.map V.int)
 | [] =>.nil
 | a :: t =>.cons (by cases n <;> exact .inl ⟨a,rfl,rfl⟩) (oK t)
theorem fw {K:Av}{H:Hp}{n:Nat}:∀{ts us:List (Addr×List Int)},ts.map (·.2)=us.map (·.2)->(∀u∈ts,H u.1=some (.tup (u.2.map V.int)))->(∀u∈us,H u.1=some (.tup (u.2.map V.int)))->Paired (EqS K H (n+1)) (ts.map λu=>V.ref u.1) (us.map λu=>V.ref u.1)
 | [],[],_,_,_ =>.nil
 | [],_ :: _,e,_,_=>by cases e
 | _ :: _,[],e,_,_=>by cases e
 | t :: ts,u :: us,e,h1,h2=>by
  rw[Bd,Bd] at e
  injection e with e1 e2
  refine .cons (.inr (.inr (.inr ⟨t.1,u.1,_,_,rfl,rfl,.inl ⟨SqT.of (h1 t AM),SqT.of (h2 u AM)⟩,?_⟩))) (fw e2 (λx hx=>h1 x (AL _ hx)) λx hx=>h2 x (AL _ hx))
  have e1':t.2=u.2:=e1
  rw[e1'];exact oK _
abbrev oM:Sp:=λvs H Q _=>∃(f m:Nat),vs=[.int (f:Nat),.int (m:Nat)]/\0<m/\m<=14/\f<=40/\∀(l:Addr) (us:List (Addr×List Int)) (H':Hp),aD H H'->H' l=some (.lst (us.map λu =>.ref u.1))->Tus H' us->us.map (·.2)=blk f m (m*m)->Q (.ref l) H'
@[irreducible] def i7:Sp:=oM
theorem bO {vs:List V}{H:Hp}{Q:VK}{E:XK}:i7 vs H Q E↔oM vs H Q E:=by
 delta i7
 exact CQ
section
variable  {P:AN}{w:Bh}{K:Av}{mg:Str->Option Au}{base:Heap}{f T:Addr}{fd:BJ}
theorem vG:aI ["first", "many"] ["first", "many"] (au mQ):=⟨rfl,rfl,rfl,by decide +kernel,rfl,by decide +kernel,by decide +kernel⟩
theorem eS:(["j", "first", "many"]:List Str).Nodup:=by decide +kernel
theorem vH (F:Fun K "_law_block" "_law_block" mQ f fd)(B:Blt mg)(C:Cst mg):bE P w K mg base CX0 1 f fd ["first", "many"] i7:=by
 refine F.ok vG (λvs H Q E h =>?_) (λcdv A outer s H vs Q E hr h =>?_)
 ·obtain ⟨_,_,rfl,_⟩:=bO.mp h
  rfl
 obtain ⟨f',m,rfl,m0,m14,f40,q⟩:=bO.mp h
 refine ⟨_,(@ak _ _ _ (@aJ _ _ _ _ (dg ["j", "first", "many"] [none,some 0,some 1] rfl (aX rfl B.b_range (@aa _ _ _ _ _ (@ax _ _ _ _ _ _ _ _ dP (pv 1) (pv 1)) ae rfl)) rfl (λ_ _ _ _ _=>(aN (i:=0) eS rfl (Or.inl rfl))) (λ_ _ _ _ _=>dW) (λ_ _ _ _ _=>(@aL _ _ _ _ _ (@aa _ _ _ _ _ (@ax _ _ _ _ _ _ _ _ bB (pv 1) (@ax _ _ _ _ _ _ _ _ fC (pv 0) (pv 2))) (@aa _ _ _ _ _ (@ax _ _ _ _ _ _ _ _ bB (pv 1) (@ax _ _ _ _ _ _ _ _ dQ (pv 0) (pv 2))) ae rfl) rfl)))))),?_⟩
 have mm:(m:Int)*(m:Int)=((m*m:Nat):Int):=by rw[Io]
 have m2:m*m<=196:=A5 (IA m14 m14) (by decide)
 refine ⟨_,rfl,_,rfl,_,_,rfl,rfl,.inl ⟨by omega,by omega⟩,((m*m:Nat):Int),congrArg (λx=>[V.int x]) mm,by omega,by omega,?_⟩
 rw[BQ]
 refine cE (λi ys H'=>aD H H'/\∃us:List (Addr×List Int),ys=us.map (λu =>.ref u.1)/\Tus H' us/\us.map (·.2)=blk f' m i) ⟨aD.refl _,[],rfl,λu hu=>(by cases hu),rfl⟩ (small (by omega)) ?_ ?_
 ·rintro i ys H4 hi hy ⟨s4,us,rfl,tu,eu⟩ R1 R0 r1 r0
  have ed:(f':Int)+(0+(i:Int))/(m:Int)=((f'+i/m:Nat):Int):=by rw[Gj,Ip,Ia]
  have em:(f':Int)+(0+(i:Int))%(m:Int)=((f'+i%m:Nat):Int):=by rw[Gj,Ip,Ib]
  refine cx ⟨_,rfl,_,rfl,_,rfl,_,_,rfl,rfl,⟨by omega,by omega⟩,_,_,rfl,rfl,_,rfl,_,rfl,_,rfl,_,_,rfl,rfl,(by show (0:Int)<m;omega),_,_,rfl,rfl,(by show 2<=AH;decide),λc hc =>?_⟩
  show R1 (V.ref c) (upd H4 c (.tup [.int ((f':Int)+(0+(i:Int))/(m:Int)),.int ((f':Int)+(0+(i:Int))%(m:Int))]))
  rw[ed,em]
  exact r1 _ _ ⟨s4.trans (ag hc _),us++[(c,[((f'+i/m:Nat):Int),((f'+i%m:Nat):Int)])],by rw[AA];rfl,Tus.snoc (tu.same (ag hc _)) (u:=(c,[((f'+i/m:Nat):Int),((f'+i%m:Nat):Int)])) af,by rw[AA,eu,oH];rfl⟩
 rintro ys H4 hy ⟨s4,us,rfl,tu,eu⟩ la hla
 exact q la us _ (s4.trans (ag hla _)) af (tu.same (ag hla _)) eu
end
def Knd (K:Av)(cs:List Addr)(W C:Addr)(i:Nat):Prop:=i<11/\ExI K C/\(∀j,j<11->PySem.W.kitOne K (.ref C) (.ref (cs.getD j 0))=some (i == j))/\PySem.W.kitOne K (.ref C) (.type "ValueError")=some true/\PySem.W.kitOne K (.ref C) (.ref W)=some true
@[irreducible] def hV (K:Av)(cs:List Addr)(W:Addr):Sp:=λvs H Q _=>∃(ea C:Addr) (d:Option Addr) (i p:Nat),vs=[.ref ea,.int p]/\H ea=some (iS ea (.ref C) d)/\Knd K cs W C i/\p=1/\∀H',aD H H'->Q (.bl (i == p)) H'
theorem cI {K:Av}{cs:List Addr}{W:Addr}{vs:List V}{H:Hp}{Q:VK}{E:XK}:hV K cs W vs H Q E↔∃(ea C:Addr) (d:Option Addr) (i p:Nat),vs=[.ref ea,.int p]/\H ea=some (iS ea (.ref C) d)/\Knd K cs W C i/\p=1/\∀H',aD H H'->Q (.bl (i == p)) H':=by
 delta hV
 exact CQ
theorem zr:∀i:Nat,i<11->([i == 0,i == 1,i == 2,i == 3,i == 4,i == 5,i == 6,i == 7,i == 8,i == 9,i == 10]:List Bool).count true=1:=by decide
section
variable  {P:AN}{w:Bh}{K:Av}{mg:Str->Option Au}{base:Heap}{f:Addr}{fd:BJ}{c_WebError c_BadWeb c_NoStep c_NoText c_TooMany c_NoTie c_NoRing c_NotClear c_NotThree c_BadBoard c_NoRow c_NoBack:Addr}
theorem oN:aI ["e", "place", "some"] ["e", "place"] (au mM):=⟨rfl,rfl,rfl,by decide +kernel,rfl,by decide +kernel,by decide +kernel⟩
theorem vI (F:Fun K "_law_alone" "_law_alone" mM f fd)(B:Blt mg)(Z:Exs K mg c_WebError c_BadWeb c_NoStep c_NoText c_TooMany c_NoTie c_NoRing c_NotClear c_NotThree c_BadBoard c_NoRow c_NoBack)(C:Cst mg):bE P w K mg base CX0 1 f fd ["e", "place"] (hV K [c_BadWeb,c_TooMany,c_NoTie,c_NoRing,c_NotClear,c_NotThree,c_BadBoard,c_NoStep,c_NoText,c_NoRow,c_NoBack] c_WebError):=by
 refine F.ok oN (λvs H Q E h =>?_) (λcdv A outer s H vs Q E hr h =>?_)
 ·obtain ⟨_,_,_,_,_,rfl,_⟩:=cI.mp h
  rfl
 obtain ⟨ea,C,d,i,p,rfl,he,⟨li,zi,ko,kv,kw⟩,lp,q⟩:=cI.mp h
 refine ⟨_,(@aj _ _ _ _ _ (@aE _ _ 2 _ _ _ _ oN.nd rfl (Or.inl rfl) (@bK _ _ _ _ (@aa _ _ _ _ _ (ao (bj (K:=K)) rfl B.b_isinstance ay (@aa _ _ _ _ _ (pv 0) (@aa _ _ _ _ _ (bP (v :=.ref c_BadWeb) rfl Z.x_BadWeb rfl) ae rfl) rfl)) (@aa _ _ _ _ _ (ao (bj (K:=K)) rfl B.b_isinstance ay (@aa _ _ _ _ _ (pv 0) (@aa _ _ _ _ _ (bP (v :=.ref c_TooMany) rfl Z.x_TooMany rfl) ae rfl) rfl)) (@aa _ _ _ _ _ (ao (bj (K:=K)) rfl B.b_isinstance ay (@aa _ _ _ _ _ (pv 0) (@aa _ _ _ _ _ (bP (v :=.ref c_NoTie) rfl Z.x_NoTie rfl) ae rfl) rfl)) (@aa _ _ _ _ _ (ao (bj (K:=K)) rfl B.b_isinstance ay (@aa _ _ _ _ _ (pv 0) (@aa _ _ _ _ _ (bP (v :=.ref c_NoRing) rfl Z.x_NoRing rfl) ae rfl) rfl)) (@aa _ _ _ _ _ (ao (bj (K:=K)) rfl B.b_isinstance ay (@aa _ _ _ _ _ (pv 0) (@aa _ _ _ _ _ (bP (v :=.ref c_NotClear) rfl Z.x_NotClear rfl) ae rfl) rfl)) (@aa _ _ _ _ _ (ao (bj (K:=K)) rfl B.b_isinstance ay (@aa _ _ _ _ _ (pv 0) (@aa _ _ _ _ _ (bP (v :=.ref c_NotThree) rfl Z.x_NotThree rfl) ae rfl) rfl)) (@aa _ _ _ _ _ (ao (bj (K:=K)) rfl B.b_isinstance ay (@aa _ _ _ _ _ (pv 0) (@aa _ _ _ _ _ (bP (v :=.ref c_BadBoard) rfl Z.x_BadBoard rfl) ae rfl) rfl)) (@aa _ _ _ _ _ (ao (bj (K:=K)) rfl B.b_isinstance ay (@aa _ _ _ _ _ (pv 0) (@aa _ _ _ _ _ (bP (v :=.ref c_NoStep) rfl Z.x_NoStep rfl) ae rfl) rfl)) (@aa _ _ _ _ _ (ao (bj (K:=K)) rfl B.b_isinstance ay (@aa _ _ _ _ _ (pv 0) (@aa _ _ _ _ _ (bP (v :=.ref c_NoText) rfl Z.x_NoText rfl) ae rfl) rfl)) (@aa _ _ _ _ _ (ao (bj (K:=K)) rfl B.b_isinstance ay (@aa _ _ _ _ _ (pv 0) (@aa _ _ _ _ _ (bP (v :=.ref c_NoRow) rfl Z.x_NoRow rfl) ae rfl) rfl)) (@aa _ _ _ _ _ (ao (bj (K:=K)) rfl B.b_isinstance ay (@aa _ _ _ _ _ (pv 0) (@aa _ _ _ _ _ (bP (v :=.ref c_NoBack) rfl Z.x_NoBack rfl) ae rfl) rfl)) ae rfl) rfl) rfl) rfl) rfl) rfl) rfl) rfl) rfl) rfl) rfl)) rfl (by first | exact .inl rfl | exact .inr rfl | assumption))
  (@aj _ _ _ _ _ (@bD _ _ _ _ _ _ _ _ (PW.pt (jg (eU (dO (ao (bj (K:=K)) rfl B.b_isinstance ay (@aa _ _ _ _ _ (pv 0) (@aa _ _ _ _ _ (bP (v :=.ref c_WebError) rfl Z.x_WebError rfl) ae rfl) rfl)))) (jb (eU (dO (ao (bj (K:=K)) rfl B.b_isinstance ay (@aa _ _ _ _ _ (pv 0) (@aa _ _ _ _ _ (fB (v :=.ty "ValueError") rfl B.b_ValueError kJ rfl) ae rfl) rfl))))))) cy aP)
  (@ak _ _ _ (@aJ _ _ _ _ (oR (dR eM (eN Bo FI PySem.F.type_list_count sQ (pv 2) (@aa _ _ _ _ _ nz ae rfl)) ai (aS _)) (tL (@aY _ _ _ _ _ _ _ cq (pv 2) (pv 1) (λ_ _=>rfl)))))))),?_⟩
 refine ⟨_,rfl,ea,_,d,_,(i == 0),rfl,he,zi,rfl,ko 0 (by decide),_,rfl,ea,_,d,_,(i == 1),rfl,he,zi,rfl,ko 1 (by decide),_,rfl,ea,_,d,_,(i == 2),rfl,he,zi,rfl,ko 2 (by decide),_,rfl,ea,_,d,_,(i == 3),rfl,he,zi,rfl,ko 3 (by decide),_,rfl,ea,_,d,_,(i == 4),rfl,he,zi,rfl,ko 4 (by decide),_,rfl,ea,_,d,_,(i == 5),rfl,he,zi,rfl,ko 5 (by decide),_,rfl,ea,_,d,_,(i == 6),rfl,he,zi,rfl,ko 6 (by decide),_,rfl,ea,_,d,_,(i == 7),rfl,he,zi,rfl,ko 7 (by decide),_,rfl,ea,_,d,_,(i == 8),rfl,he,zi,rfl,ko 8 (by decide),_,rfl,ea,_,d,_,(i == 9),rfl,he,zi,rfl,ko 9 (by decide),_,rfl,ea,_,d,_,(i == 10),rfl,he,zi,rfl,ko 10 (by decide),(by show 11<=AH;decide),λl hl =>?_⟩
 have g1:=ag hl (.lst [.bl (i == 0),.bl (i == 1),.bl (i == 2),.bl (i == 3),.bl (i == 4),.bl (i == 5),.bl (i == 6),.bl (i == 7),.bl (i == 8),.bl (i == 9),.bl (i == 10)])
 have el:upd H l (.lst [.bl (i == 0),.bl (i == 1),.bl (i == 2),.bl (i == 3),.bl (i == 4),.bl (i == 5),.bl (i == 6),.bl (i == 7),.bl (i == 8),.bl (i == 9),.bl (i == 10)]) l=some (.lst [.bl (i == 0),.bl (i == 1),.bl (i == 2),.bl (i == 3),.bl (i == 4),.bl (i == 5),.bl (i == 6),.bl (i == 7),.bl (i == 8),.bl (i == 9),.bl (i == 10)]):=af
 have he:=g1 _ _ he
 generalize upd H l (.lst [.bl (i == 0),.bl (i == 1),.bl (i == 2),.bl (i == 3),.bl (i == 4),.bl (i == 5),.bl (i == 6),.bl (i == 7),.bl (i == 8),.bl (i == 9),.bl (i == 10)])=H1 at g1 el he
 refine ⟨_,rfl,ea,_,d,_,true,rfl,he,zi,rfl,kw,_,rfl,cw ⟨_,rfl,ea,_,d,_,true,rfl,he,zi,rfl,kv,_,rfl,cw ?_⟩⟩
 have gp:([.bl (i == 0),.bl (i == 1),.bl (i == 2),.bl (i == 3),.bl (i == 4),.bl (i == 5),.bl (i == 6),.bl (i == 7),.bl (i == 8),.bl (i == 9),.bl (i == 10)]:List V)[p]? = some (.bl (i == p)):=by
  subst lp;rfl
 have c1:=zr i li
 refine ⟨_,rfl,.inl ⟨rfl,_,SqL.of el⟩,l,[i == 0,i == 1,i == 2,i == 3,i == 4,i == 5,i == 6,i == 7,i == 8,i == 9,i == 10],true,rfl,rfl,el,rfl,?_⟩
 refine ⟨true,by rw[c1];rfl,cx ⟨_,rfl,_,rfl,l,_,p,_,rfl,rfl,SqL.of el,bR gp,q _ g1⟩⟩
end
open PySem L2
abbrev rh:Sp:=λvs H Q _=>∃(r:Addr) (m:Nat) (ts:List (Addr×List Int)),vs=[.ref r]/\Ow H r (m:Int) ts/\m<=40/\ts.length<=200/\(ts.map (·.2)).Nodup/\(rounds (aW (ts.map (·.2))) m).length<=300/\∀(l:Addr) (us:List (Addr×List Int)) (H':Hp),aD H H'->H l=none->H' l=some (.lst (us.map λu =>.ref u.1))->Tus H' us->(us.map (·.2)).Perm ((rounds (aW (ts.map (·.2))) m).map ni)->(us.map (·.2)).Pairwise cW->Q (.ref l) H'
@[irreducible] def iH:Sp:=rh
theorem gn {vs:List V}{H:Hp}{Q:VK}{E:XK}:iH vs H Q E↔rh vs H Q E:=by
 delta iH
 exact CQ
theorem tE {C:Addr}{vs:List V}{H:Hp}{Q:VK}{E:XK}(h:iH vs H Q E):oE C vs H Q E0:=by
 obtain ⟨r,m,ts,rfl,W,m40,tl,nd,le,q⟩:=gn.mp h
 exact fM.mpr ⟨r,m,ts,rfl,W,m40,tl,nd,λh=>absurd le (by omega),λ_=>q⟩
theorem kj:∀n:Nat,(jR n).length=2*n
 | 0=>rfl
 | n+1=>by rw[lQ,As,kj n];show 2*n+2=_;omega
theorem tF:∀b,b<3->∀p,p<40->aW (mL b) p=tabOf (loS b) p:=by decide +kernel
theorem kn {b:Nat}(hb:b<3):RgE 40 (mL b):=λt ht=>by
 have:=BF.1 (xr b hb) t ht
 match t,this with
 | [x,y],h =>
  simp only[BC,decide_eq_true_iff] at h
  exact ⟨x,y,rfl,h.1.1,h.1.2,h.2.1,h.2.2⟩
theorem rj {b:Nat}(hb:b<3):aW (mL b)=tabOf (loS b):=funext λp=>by
 by_cases c:p<40
 ·exact tF b hb p c
 ·rw[fK (by rw[(ot b hb).1];omega)]
  refine Dk.mpr λq hq=>c (cT (kn hb) hq).1
theorem zt:∀b,b<3->(layR b).length<=300/\((layR b).map ni).Pairwise cW:=by
 unfold cW
 decide +kernel
abbrev rk:Sp:=λvs H Q _=>∃(b:Nat),vs=[.int (b:Nat)]/\b<3/\∀H',aD H H'->Q (.bl true) H'
@[irreducible] def mZ:Sp:=rk
theorem gq {vs:List V}{H:Hp}{Q:VK}{E:XK}:mZ vs H Q E↔rk vs H Q E:=by
 delta mZ
 exact CQ
section
variable  {P:AN}{w:Bh}{K:Av}{mg:Str->Option Au}{base:Heap}{f T:Addr}{fd:BJ}
theorem cv:aI ["backs", "arrows", "place", "web"] ["backs"] (au dB):=⟨rfl,rfl,rfl,by decide +kernel,rfl,by decide +kernel,by decide +kernel⟩
theorem kq (F:Fun K "_law_layers_right" "_law_layers_right" dB f fd)(B:Blt mg)(cAllRounds:Cal P w K mg base 43 "all_rounds" ["web"] iH)(C:Cst mg):bE P w K mg base CX0 44 f fd ["backs"] mZ:=by
 refine F.ok cv (λvs H Q E h =>?_) (λcdv A outer s H vs Q E hr h =>?_)
 ·obtain ⟨_,rfl,_⟩:=gq.mp h
  rfl
 obtain ⟨b,rfl,hb,q⟩:=gq.mp h
 refine ⟨_,(@aj _ _ _ _ _ (@aE _ _ 1 _ _ _ _ cv.nd rfl (Or.inl rfl) (@bK _ _ _ _ ae) rfl (by first | exact .inl rfl | exact .inr rfl | assumption))
  (@aj _ _ _ _ _ (@cp _ _ _ _ _ _ _ _ BW rfl (aX rfl B.b_range (@aa _ _ _ _ _ ai ae rfl)) (aN (i:=2) cv.nd rfl (Or.inl rfl))
   (@ak _ _ _ (bQ (eN Bo Ea Eb ib (pv 1) (@aa _ _ _ _ _ (@bK _ _ _ _ (@aa _ _ _ _ _ (@aL _ _ _ _ _ (@aa _ _ _ _ _ (pv 2) (@aa _ _ _ _ _ (@ax _ _ _ _ _ _ _ _ bB (@ax _ _ _ _ _ _ _ _ dP (@ax _ _ _ _ _ _ _ _ fC (pv 2) ai) ai) ai) ae rfl) rfl)) (@aa _ _ _ _ _ (@aL _ _ _ _ _ (@aa _ _ _ _ _ (pv 2) (@aa _ _ _ _ _ (@ax _ _ _ _ _ _ _ _ bB (@ax _ _ _ _ _ _ _ _ dP (@ax _ _ _ _ _ _ _ _ fC (pv 2) ai) ai) ai) ae rfl) rfl)) ae rfl) rfl)) ae rfl)))) (λ_=>rfl))
  (@aj _ _ _ _ _ (@aE _ _ 3 _ _ _ _ cv.nd rfl (Or.inl rfl) (@aL _ _ _ _ _ (@aa _ _ _ _ _ ai (@aa _ _ _ _ _ (bq bg rfl B.b_tuple cc (@aa _ _ _ _ _ (ao bS rfl B.b_sorted cA (@aa _ _ _ _ _ (@ax _ _ _ _ _ _ _ _ fD (pv 1) (bo qp (@bK _ _ _ _ (@aa _ _ _ _ _ (@aL _ _ _ _ _ (@aa _ _ _ _ _ ai (@aa _ _ _ _ _ ai ae rfl) rfl)) (@aa _ _ _ _ _ (@aL _ _ _ _ _ (@aa _ _ _ _ _ ai (@aa _ _ _ _ _ ai ae rfl) rfl)) ae rfl) rfl)) bM (bC (pv 0)))) ae rfl)) ae rfl)) ae rfl) rfl)) rfl (by first | exact .inl rfl | exact .inr rfl | assumption))
  (@ak _ _ _ (@aJ _ _ _ _ (dR (qO hr) (az cAllRounds hr (by decide) rfl (@aa _ _ _ _ _ (pv 3) ae rfl)) (@aY _ _ _ _ _ _ _ cq (@bK _ _ _ _ (@aa _ _ _ _ _ (@bK _ _ _ _ ae) (@aa _ _ _ _ _ (@bK _ _ _ _ (@aa _ _ _ _ _ (@aL _ _ _ _ _ (@aa _ _ _ _ _ ai (@aa _ _ _ _ _ ai (@aa _ _ _ _ _ ai ae rfl) rfl) rfl)) (@aa _ _ _ _ _ (@aL _ _ _ _ _ (@aa _ _ _ _ _ ai (@aa _ _ _ _ _ ai (@aa _ _ _ _ _ ai ae rfl) rfl) rfl)) ae rfl) rfl)) (@aa _ _ _ _ _ (@bK _ _ _ _ (@aa _ _ _ _ _ (@aL _ _ _ _ _ (@aa _ _ _ _ _ ai (@aa _ _ _ _ _ ai (@aa _ _ _ _ _ ai ae rfl) rfl) rfl)) (@aa _ _ _ _ _ (@aL _ _ _ _ _ (@aa _ _ _ _ _ ai (@aa _ _ _ _ _ ai (@aa _ _ _ _ _ ai ae rfl) rfl) rfl)) (@aa _ _ _ _ _ (@aL _ _ _ _ _ (@aa _ _ _ _ _ ai (@aa _ _ _ _ _ ai ae rfl) rfl)) ae rfl) rfl) rfl)) ae rfl) rfl) rfl)) (pv 0) (λ_ _=>rfl)) (aS _))))))),?_⟩
 refine ⟨(by show 0<=AH;decide),λla hla =>?_⟩
 have s1':=ag hla (.lst [])
 have ea:upd H la (.lst []) la=some (.lst []):=af
 generalize upd H la (.lst [])=H1 at s1' ea
 refine ⟨38,rfl,by decide,by decide,bJ (n:=38) (λi σ H'=>∃(c2 c3:Option V) (us:List (Addr×List Int)),σ=[some (.int (b:Nat)),some (.ref la),c2,c3]/\aD H H'/\H' la=some (.lst (us.map λu =>.ref u.1))/\Tus H' us/\us.map (·.2)=jR i) ⟨_,_,[],rfl,s1',ea,(λu hu=>by cases hu),rfl⟩ ?_ ?_⟩
 ·rintro i σ H4 hi ⟨c2,c3,us,rfl,s4,ea4,tu4,eu⟩
  have e0:((0:Int)+(i:Int))=((i:Nat):Int):=by omega
  have e2:((0:Int)+(i:Int))/2*2+2=((i/2*2+2:Nat):Int):=by omega
  have e3:((0:Int)+(i:Int))/2*2+3=((i/2*2+3:Nat):Int):=by omega
  refine ⟨_,rfl,.inl ⟨rfl,_,SqL.of ea4⟩,_,rfl,_,rfl,_,_,rfl,rfl,⟨by decide,by decide⟩,_,_,rfl,rfl,.inr ⟨by decide,by decide⟩,_,_,rfl,rfl,(by show 2<=AH;decide),λt1 ht1 =>?_⟩
  have g1:=ag ht1 (.tup [.int ((0:Int)+(i:Int)),.int (((0:Int)+(i:Int))/2*2+2)])
  have et1:upd H4 t1 (.tup [.int ((0:Int)+(i:Int)),.int (((0:Int)+(i:Int))/2*2+2)]) t1=some (.tup ([((i:Nat):Int),((i/2*2+2:Nat):Int)].map V.int)):=by rw[e2,e0];exact af
  refine ⟨_,rfl,_,rfl,_,_,rfl,rfl,⟨by decide,by decide⟩,_,_,rfl,rfl,.inr ⟨by decide,by decide⟩,_,_,rfl,rfl,(by show 2<=AH;decide),λt2 ht2 =>?_⟩
  have tu5:=tu4.same g1
  have s5:=s4.trans g1
  have ea5:=g1 _ _ ea4
  dsimp only at ht2 ⊢
  generalize upd H4 t1 (.tup [.int ((0:Int)+(i:Int)),.int (((0:Int)+(i:Int))/2*2+2)])=H5 at g1 et1 tu5 s5 ea5 ht2
  have g2:=ag ht2 (.tup [.int ((0:Int)+(i:Int)),.int (((0:Int)+(i:Int))/2*2+3)])
  have et2:upd H5 t2 (.tup [.int ((0:Int)+(i:Int)),.int (((0:Int)+(i:Int))/2*2+3)]) t2=some (.tup ([((i:Nat):Int),((i/2*2+3:Nat):Int)].map V.int)):=by rw[e3,e0];exact af
  have tu6:=tu5.same g2
  have s6:=s5.trans g2
  have ea6:=g2 _ _ ea5
  have et1:=g2 _ _ et1
  refine ⟨(by show 2<=AH;decide),λl3 hl3 =>?_⟩
  generalize upd H5 t2 (.tup [.int ((0:Int)+(i:Int)),.int (((0:Int)+(i:Int))/2*2+3)])=H6 at g2 et2 tu6 s6 ea6 et1 hl3
  have g3:=ag hl3 (.lst [.ref t1,.ref t2])
  have el3:upd H6 l3 (.lst [.ref t1,.ref t2]) l3=some (.lst [.ref t1,.ref t2]):=af
  have tu7:=tu6.same g3
  have s7:=s6.trans g3
  have ea7:=g3 _ _ ea6
  have et1:=g3 _ _ et1
  have et2:=g3 _ _ et2
  generalize upd H6 l3 (.lst [.ref t1,.ref t2])=H7 at g3 el3 tu7 s7 ea7 et1 et2
  have lu:us.length=2*i:=by
   have:=congrArg List.length eu
   rwa [Aq,kj] at this
  refine ⟨la,l3,_,_,rfl,rfl,ea7,el3,(by rw[Aq];exact small (by show _+2<=_;omega)),⟨_,_,us++[(t1,[((i:Nat):Int),((i/2*2+2:Nat):Int)]),(t2,[((i:Nat):Int),((i/2*2+3:Nat):Int)])],rfl,aD.eC s7 hla _,by rw[af,AA];rfl,λu hu =>?_,by rw[AA,eu,lQ];rfl⟩⟩
  have:H7 u.1=some (.tup (u.2.map V.int)):=by
   rcases AI.mp hu with y | y
   ·exact tu7 u y
   ·rcases AU.mp y with rfl | y
    ·exact et1
    ·rw[AB] at y;subst y;exact et2
  rw[aq (eL this ea7 (by intro z;cases z))];exact this
 rintro σ H4 ⟨c2,c3,us,rfl,s4,ea4,tu4,eu⟩
 refine ⟨_,rfl,?_⟩
 refine ⟨(by show 2<=AH;decide),λp0 h0 =>?_⟩
 try dsimp only
 have s0:=ag h0 (.tup [.int 4,.int 0])
 have e0:upd H4 p0 (.tup [.int 4,.int 0]) p0=some (.tup [.int 4,.int 0]):=af
 generalize upd H4 p0 (.tup [.int 4,.int 0])=O0 at s0 e0
 refine ⟨(by show 2<=AH;decide),λp1 h1 =>?_⟩
 try dsimp only
 have s1:=ag h1 (.tup [.int 39,.int 37])
 have e1:upd O0 p1 (.tup [.int 39,.int 37]) p1=some (.tup [.int 39,.int 37]):=af
 generalize upd O0 p1 (.tup [.int 39,.int 37])=O1 at s1 e1
 refine ⟨(by show 2<=AH;decide),λp2 h2 =>?_⟩
 try dsimp only
 have s2:=ag h2 (.lst [.ref p0,.ref p1])
 have e2:upd O1 p2 (.lst [.ref p0,.ref p1]) p2=some (.lst [.ref p0,.ref p1]):=af
 generalize upd O1 p2 (.lst [.ref p0,.ref p1])=O2 at s2 e2
 have s4:=s4.trans (s0.trans (s1.trans s2))
 have ea4:=s2 _ _ (s1 _ _ (s0 _ _ ea4))
 have tu4:=((tu4.same s0).same s1).same s2
 have e0:=(s2 _ _ (s1 _ _ e0))
 have e1:=(s2 _ _ e1)
 refine ⟨_,rfl,_,rfl,p2,_,rfl,SqL.of e2,λl4 hl4 =>?_⟩
 rw[mV _ (show b<=[V.ref p0,V.ref p1].length by show b<=2;omega)]
 obtain ⟨W,eW,tW,wW⟩:∃W:List (Addr×List Int),[V.ref p0,V.ref p1].take b=W.map (λu=>V.ref u.1)/\Tus O2 W/\W.map (·.2)=([[4,0],[39,37]]:List (List Int)).take b:=⟨([(p0,[4,0]),(p1,[39,37])]:List (Addr×List Int)).take b,by rw[DM];rfl,λu hu=>by
  rcases AU.mp (Ct hu) with rfl | hu
  ·exact e0
  rw[AB] at hu;subst hu;exact e1,by rw[DM];rfl⟩
 rw[eW]
 have g4:=ag hl4 (.lst (W.map λu =>.ref u.1))
 have el4:upd O2 l4 (.lst (W.map λu =>.ref u.1)) l4=some (.lst (W.map λu =>.ref u.1)):=af
 have s5:=s4.trans g4
 have ea5:=g4 _ _ ea4
 have tu5:=tu4.same g4
 have tW5:=tW.same g4
 generalize upd O2 l4 (.lst (W.map λu =>.ref u.1))=H5 at g4 el4 s5 ea5 tu5 tW5
 have lus:us.length=76:=by have:=congrArg List.length eu;rwa [Aq,kj] at this
 have lW:W.length<=2:=by have:=congrArg List.length wW;rw[Aq,Bz] at this;rw[this];exact HR _ _
 refine ⟨la,l4,_,_,rfl,rfl,SqL.of ea5,SqL.of el4,by rw[Aq,Aq];exact small (by omega),λl5 hl5 =>?_⟩
 rw[<- AA]
 have g5:=ag hl5 (.lst ((us++W).map λu =>.ref u.1))
 have el5:upd H5 l5 (.lst ((us++W).map λu =>.ref u.1)) l5=some (.lst ((us++W).map λu =>.ref u.1)):=af
 have tA:Tus H5 (us++W):=λu hu=>(AI.mp hu).elim (tu5 u) (tW5 u)
 have tA:=tA.same g5
 have s6:=s5.trans g5
 generalize upd H5 l5 (.lst ((us++W).map λu =>.ref u.1))=H6 at g5 el5 tA s6
 have eA:(us++W).map (·.2)=layB b:=by rw[AA,eu,wW];rfl
 have pS:=xo b hb
 refine ⟨l5,us++W,rfl,.inl (SqL.of el5),λu hu=>⟨SqT.of (tA u hu),?_⟩,λl6 out hl6 pm so =>?_⟩
 ·have:u.2∈mL b:=pS.mem_iff.mpr (by rw[<- eA];exact Cm hu)
  obtain ⟨x,y,e,_⟩:=kn hb _ this
  rw[e];intro z;cases z
 have eO:out.map (·.2)=mL b:=cX ((pm.map (·.2)).trans (by rw[eA];exact pS.symm)) (j7 so) (xp b hb)
 refine ⟨l6,_,rfl,.inl ⟨SqL.of af,λl7 hl7=>⟨(by show 2<=AH;decide),λwb hwb =>?_⟩⟩⟩
 have gg:=((ag hl6 (.lst (out.map λt =>.ref t.1))).trans (ag hl7 (.tup (out.map λt =>.ref t.1)))).trans (ag hwb (.tup [.int 40,.ref l7]))
 have WW:Ow (upd (upd (upd H6 l6 (.lst (out.map λt =>.ref t.1))) l7 (.tup (out.map λt =>.ref t.1))) wb (.tup [.int 40,.ref l7])) wb ((40:Nat):Int) out:=⟨⟨l7,af,(ag hwb _) _ _ af⟩,λu hu=>gg _ _ (tA u (pm.mem_iff.mp hu)),Rg.of (by rw[eO];exact kn hb)⟩
 have s8:=s6.trans gg
 generalize upd (upd (upd H6 l6 (.lst (out.map λt =>.ref t.1))) l7 (.tup (out.map λt =>.ref t.1))) wb (.tup [.int 40,.ref l7])=H8 at gg WW s8
 have pr:=pW hb
 have lR:=(zt b hb)
 refine ⟨_,rfl,gn.mpr ⟨wb,40,out,rfl,WW,AE _,by rw[pm.length_eq,As];omega,by rw[eO];exact xq b hb,?_,λz us2 H9 s9 _ ez tz pmz soz =>?_⟩⟩
 ·rw[eO,rj hb, <- pr.length_eq];exact lR.1
 rw[eO,rj hb] at pmz
 have e2:us2.map (·.2)=(layR b).map ni:=cX (pmz.trans (pr.map ni).symm) soz lR.2
 have s9:=s8.trans s9
 refine ⟨(by show 0<=AH;decide),λxp0 xh0 =>?_⟩
 try dsimp only
 have xs0:=ag xh0 (.lst [])
 have xe0:upd H9 xp0 (.lst []) xp0=some (.lst []):=af
 generalize upd H9 xp0 (.lst [])=xO0 at xs0 xe0
 refine ⟨(by show 3<=AH;decide),λxp1 xh1 =>?_⟩
 try dsimp only
 have xs1:=ag xh1 (.tup [.int 0,.int 2,.int 4])
 have xe1:upd xO0 xp1 (.tup [.int 0,.int 2,.int 4]) xp1=some (.tup [.int 0,.int 2,.int 4]):=af
 generalize upd xO0 xp1 (.tup [.int 0,.int 2,.int 4])=xO1 at xs1 xe1
 refine ⟨(by show 3<=AH;decide),λxp2 xh2 =>?_⟩
 try dsimp only
 have xs2:=ag xh2 (.tup [.int 0,.int 3,.int 4])
 have xe2:upd xO1 xp2 (.tup [.int 0,.int 3,.int 4]) xp2=some (.tup [.int 0,.int 3,.int 4]):=af
 generalize upd xO1 xp2 (.tup [.int 0,.int 3,.int 4])=xO2 at xs2 xe2
 refine ⟨(by show 2<=AH;decide),λxp3 xh3 =>?_⟩
 try dsimp only
 have xs3:=ag xh3 (.lst [.ref xp1,.ref xp2])
 have xe3:upd xO2 xp3 (.lst [.ref xp1,.ref xp2]) xp3=some (.lst [.ref xp1,.ref xp2]):=af
 generalize upd xO2 xp3 (.lst [.ref xp1,.ref xp2])=xO3 at xs3 xe3
 refine ⟨(by show 3<=AH;decide),λxp4 xh4 =>?_⟩
 try dsimp only
 have xs4:=ag xh4 (.tup [.int 0,.int 2,.int 4])
 have xe4:upd xO3 xp4 (.tup [.int 0,.int 2,.int 4]) xp4=some (.tup [.int 0,.int 2,.int 4]):=af
 generalize upd xO3 xp4 (.tup [.int 0,.int 2,.int 4])=xO4 at xs4 xe4
 refine ⟨(by show 3<=AH;decide),λxp5 xh5 =>?_⟩
 try dsimp only
 have xs5:=ag xh5 (.tup [.int 0,.int 3,.int 4])
 have xe5:upd xO4 xp5 (.tup [.int 0,.int 3,.int 4]) xp5=some (.tup [.int 0,.int 3,.int 4]):=af
 generalize upd xO4 xp5 (.tup [.int 0,.int 3,.int 4])=xO5 at xs5 xe5
 refine ⟨(by show 2<=AH;decide),λxp6 xh6 =>?_⟩
 try dsimp only
 have xs6:=ag xh6 (.tup [.int 37,.int 39])
 have xe6:upd xO5 xp6 (.tup [.int 37,.int 39]) xp6=some (.tup [.int 37,.int 39]):=af
 generalize upd xO5 xp6 (.tup [.int 37,.int 39])=xO6 at xs6 xe6
 refine ⟨(by show 3<=AH;decide),λxp7 xh7 =>?_⟩
 try dsimp only
 have xs7:=ag xh7 (.lst [.ref xp4,.ref xp5,.ref xp6])
 have xe7:upd xO6 xp7 (.lst [.ref xp4,.ref xp5,.ref xp6]) xp7=some (.lst [.ref xp4,.ref xp5,.ref xp6]):=af
 generalize upd xO6 xp7 (.lst [.ref xp4,.ref xp5,.ref xp6])=xO7 at xs7 xe7
 refine ⟨(by show 3<=AH;decide),λxp8 xh8 =>?_⟩
 try dsimp only
 have xs8:=ag xh8 (.lst [.ref xp0,.ref xp3,.ref xp7])
 have xe8:upd xO7 xp8 (.lst [.ref xp0,.ref xp3,.ref xp7]) xp8=some (.lst [.ref xp0,.ref xp3,.ref xp7]):=af
 generalize upd xO7 xp8 (.lst [.ref xp0,.ref xp3,.ref xp7])=xO8 at xs8 xe8
 have s9:=s9.trans (xs0.trans (xs1.trans (xs2.trans (xs3.trans (xs4.trans (xs5.trans (xs6.trans (xs7.trans xs8))))))))
 have ez:=xs8 _ _ (xs7 _ _ (xs6 _ _ (xs5 _ _ (xs4 _ _ (xs3 _ _ (xs2 _ _ (xs1 _ _ (xs0 _ _ ez))))))))
 have tz:Tus xO8 us2:=λu hu=>xs8 _ _ (xs7 _ _ (xs6 _ _ (xs5 _ _ (xs4 _ _ (xs3 _ _ (xs2 _ _ (xs1 _ _ (xs0 _ _ (tz u hu)))))))))
 have xf0:=(xs8 _ _ (xs7 _ _ (xs6 _ _ (xs5 _ _ (xs4 _ _ (xs3 _ _ (xs2 _ _ (xs1 _ _ xe0))))))))
 have xf1:=(xs8 _ _ (xs7 _ _ (xs6 _ _ (xs5 _ _ (xs4 _ _ (xs3 _ _ (xs2 _ _ xe1)))))))
 have xf2:=(xs8 _ _ (xs7 _ _ (xs6 _ _ (xs5 _ _ (xs4 _ _ (xs3 _ _ xe2))))))
 have xf3:=(xs8 _ _ (xs7 _ _ (xs6 _ _ (xs5 _ _ (xs4 _ _ xe3)))))
 have xf4:=(xs8 _ _ (xs7 _ _ (xs6 _ _ (xs5 _ _ xe4))))
 have xf5:=(xs8 _ _ (xs7 _ _ (xs6 _ _ xe5)))
 have xf6:=(xs8 _ _ (xs7 _ _ xe6))
 have xf7:=(xs8 _ _ xe7)
 have xf8:=xe8
 refine ⟨_,rfl,?_⟩
 rcases (show b=0\/b=1\/b=2 by omega) with c | c | c <;> subst c
 ·refine ⟨xp8,_,((0:Nat):Int),_,rfl,rfl,SqL.of xe8,bR rfl,z,xp0,_,_,rfl,rfl,SqL.of ez,SqL.of xf0,.inr ⟨fw (us:=([]:List (Addr×List Int))) (H:=xO8) e2 tz (λu hu=>by cases hu),q _ s9⟩⟩
 ·refine ⟨xp8,_,((1:Nat):Int),_,rfl,rfl,SqL.of xe8,bR rfl,z,xp3,_,_,rfl,rfl,SqL.of ez,SqL.of xf3,.inr ⟨fw (us:=[(xp1,[0,2,4]),(xp2,[0,3,4])]) (H:=xO8) e2 tz (λu hu=>by
   rcases AU.mp hu with rfl | hu
   ·exact xf1
   rw[AB] at hu;subst hu;exact xf2),q _ s9⟩⟩
 ·refine ⟨xp8,_,((2:Nat):Int),_,rfl,rfl,SqL.of xe8,bR rfl,z,xp7,_,_,rfl,rfl,SqL.of ez,SqL.of xf7,.inr ⟨fw (us:=[(xp4,[0,2,4]),(xp5,[0,3,4]),(xp6,[37,39])]) (H:=xO8) e2 tz (λu hu=>by
   rcases AU.mp hu with rfl | hu
   ·exact xf4
   rcases AU.mp hu with rfl | hu
   ·exact xf5
   rw[AB] at hu;subst hu;exact xf6),q _ s9⟩⟩
end
open PySem L2
theorem zu {K:Av}{mg:Str->Option Au}{c_WebError c_BadWeb c_NoStep c_NoText c_TooMany c_NoTie c_NoRing c_NotClear c_NotThree c_BadBoard c_NoRow c_NoBack:Addr}(Z:Exs K mg c_WebError c_BadWeb c_NoStep c_NoText c_TooMany c_NoTie c_NoRing c_NotClear c_NotThree c_BadBoard c_NoRow c_NoBack):Knd K [c_BadWeb,c_TooMany,c_NoTie,c_NoRing,c_NotClear,c_NotThree,c_BadBoard,c_NoStep,c_NoText,c_NoRow,c_NoBack] c_WebError c_TooMany 1:=⟨by decide,(y8 Z.xi_TooMany).1,(λj hj=>by
 match j,hj with
 | 0,_=>exact (bV Z.kt (i:=3) (by decide:3<11)).1 0 (by show 0<11;decide)
 | 1,_=>exact (bV Z.kt (i:=3) (by decide:3<11)).1 3 (by show 3<11;decide)
 | 2,_=>exact (bV Z.kt (i:=3) (by decide:3<11)).1 4 (by show 4<11;decide)
 | 3,_=>exact (bV Z.kt (i:=3) (by decide:3<11)).1 5 (by show 5<11;decide)
 | 4,_=>exact (bV Z.kt (i:=3) (by decide:3<11)).1 6 (by show 6<11;decide)
 | 5,_=>exact (bV Z.kt (i:=3) (by decide:3<11)).1 7 (by show 7<11;decide)
 | 6,_=>exact (bV Z.kt (i:=3) (by decide:3<11)).1 8 (by show 8<11;decide)
 | 7,_=>exact (bV Z.kt (i:=3) (by decide:3<11)).1 1 (by show 1<11;decide)
 | 8,_=>exact (bV Z.kt (i:=3) (by decide:3<11)).1 2 (by show 2<11;decide)
 | 9,_=>exact (bV Z.kt (i:=3) (by decide:3<11)).1 9 (by show 9<11;decide)
 | 10,_=>exact (bV Z.kt (i:=3) (by decide:3<11)).1 10 (by show 10<11;decide)
 | n+11,h=>exact absurd h (by omega)),(bV Z.kt (i:=3) (by decide:3<11)).2.1,(bV Z.kt (i:=3) (by decide:3<11)).2.2⟩
@[irreducible] def hX (C:Addr):Sp:=λvs H Q _=>∃(r:Addr) (m:Nat) (ts:List (Addr×List Int)),vs=[.ref r]/\Ow H r (m:Int) ts/\m<=40/\ts.length<=200/\(ts.map (·.2)).Nodup/\(300<(rounds (aW (ts.map (·.2))) m).length->∀(ea:Addr) (H':Hp),aD H H'->H' ea=some (iS ea (.ref C) none)->Q (.ref ea) H')/\((rounds (aW (ts.map (·.2))) m).length<=300->∀(l:Addr) (us:List (Addr×List Int)) (H':Hp),aD H H'->H l=none->H' l=some (.lst (us.map λu =>.ref u.1))->Tus H' us->(us.map (·.2)).Perm ((rounds (aW (ts.map (·.2))) m).map ni)->(us.map (·.2)).Pairwise cW->Q (.ref l) H')
theorem cJ {C:Addr}{vs:List V}{H:Hp}{Q:VK}{E:XK}:hX C vs H Q E↔∃(r:Addr) (m:Nat) (ts:List (Addr×List Int)),vs=[.ref r]/\Ow H r (m:Int) ts/\m<=40/\ts.length<=200/\(ts.map (·.2)).Nodup/\(300<(rounds (aW (ts.map (·.2))) m).length->∀(ea:Addr) (H':Hp),aD H H'->H' ea=some (iS ea (.ref C) none)->Q (.ref ea) H')/\((rounds (aW (ts.map (·.2))) m).length<=300->∀(l:Addr) (us:List (Addr×List Int)) (H':Hp),aD H H'->H l=none->H' l=some (.lst (us.map λu =>.ref u.1))->Tus H' us->(us.map (·.2)).Perm ((rounds (aW (ts.map (·.2))) m).map ni)->(us.map (·.2)).Pairwise cW->Q (.ref l) H'):=by
 delta hX
 exact CQ
section
variable  {P:AN}{w:Bh}{K:Av}{mg:Str->Option Au}{base:Heap}{f:Addr}{fd:BJ}{c_WebError c_BadWeb c_NoStep c_NoText c_TooMany c_NoTie c_NoRing c_NotClear c_NotThree c_BadBoard c_NoRow c_NoBack:Addr}
theorem fz:aI ["web", "found", "e"] ["web"] (au mR):=⟨rfl,rfl,rfl,by decide +kernel,rfl,by decide +kernel,by decide +kernel⟩
theorem vJ (F:Fun K "_law_heard" "_law_heard" mR f fd)(B:Blt mg)(Z:Exs K mg c_WebError c_BadWeb c_NoStep c_NoText c_TooMany c_NoTie c_NoRing c_NotClear c_NotThree c_BadBoard c_NoRow c_NoBack)(xAll:fe P w K mg base 43 "all_rounds" ["web"] (oE c_TooMany))(C:Cst mg):bE P w K mg base CX0 44 f fd ["web"] (hX c_TooMany):=by
 refine F.ok fz (λvs H Q E h =>?_) (λcdv A outer s H vs Q E hr h =>?_)
 ·obtain ⟨_,_,_,rfl,_⟩:=cJ.mp h
  rfl
 obtain ⟨r,m,ts,rfl,W,m40,tl,nd,q1,q2⟩:=cJ.mp h
 refine ⟨_,(@aj _ _ _ _ _ (@aE _ _ 1 _ _ _ _ fz.nd rfl (Or.inl rfl) yd rfl (by first | exact .inl rfl | exact .inr rfl | assumption))
  (@aj _ _ _ _ _ (w6 (i:=2) (n := "e") (x := "WebError") rfl rfl fz.nd rfl rfl rfl Z.x_WebError (w4 (w5 (i:=1) fz.nd rfl (Or.inl rfl) xAll hr (by decide) rfl (@aa _ _ _ _ _ (pv 0) ae rfl))) (λ_=>(@ak _ _ _ (@aE _ _ 1 _ _ _ _ fz.nd rfl (Or.inl rfl) (pv 2) rfl (by first | exact .inl rfl | exact .inr rfl | assumption)))))
  (@ak _ _ _ (@aJ _ _ _ _ (pv 1))))),?_⟩
 refine ⟨_,rfl,fM.mpr ⟨r,m,ts,rfl,W,m40,tl,nd,λh H' s=>⟨Z.xm_TooMany,λea hea=>⟨_,rfl,_,rfl,q1 h ea _ (s.trans (ag hea _)) af⟩⟩,λh l us H' s hl el tu pm so=>⟨_,rfl,q2 h l us H' s hl el tu pm so⟩⟩⟩
end
theorem tG:∀m,m<15->∀p,p<m->aW (blk 0 m (m*m)) p=tabOf (fo m) p:=by decide +kernel
theorem rn {m:Nat}:RgE m (blk 0 m (m*m)):=λt ht=>by
 obtain ⟨x,y,e,h0,h1,h2,h3⟩:=ra (f:=0) (AE _) t ht
 rw[CH] at h1 h3
 exact ⟨x,y,e,h0,h1,h2,h3⟩
theorem vK {m:Nat}(h:m<15):aW (blk 0 m (m*m))=tabOf (fo m):=funext λp=>by
 by_cases c:p<m
 ·exact tG m h p c
 ·rw[fK (by unfold fo;rw[Aq,BN];omega)]
  exact Dk.mpr λq hq=>c (cT rn hq).1
def grE (k:Nat):List (List Int):=blk 0 5 (5*5)++blk 5 5 (5*5)++blk 10 5 (5*5)++blk 15 4 (4*4)++(Ba k).map λj:Nat=>[((19+j:Nat):Int),((19+j:Nat):Int)]
theorem Ak:∀k,k<11->(grE k).Pairwise cW:=by
 unfold cW
 decide +kernel
theorem x3:∀k,k<11->(grE k).Nodup:=by decide +kernel
theorem Al:∀k,k<11->((grE k).all λt=>match t with
 | [x,y]=>decide (0<=x) && decide (x<29) && (decide (0<=y) && decide (y<29))
 | _=>false)=true:=by decide +kernel
theorem nc {k:Nat}(hk:k<11):RgE 29 (grE k):=λt ht=>by
 have:=BF.1 (Al k hk) t ht
 match t,this with
 | [x,y],h =>
  simp only[BC,decide_eq_true_iff] at h
  exact ⟨x,y,rfl,h.1.1,h.1.2,h.2.1,h.2.2⟩
theorem xH:∀p,p<29->aW (grE 9) p=tabOf fb9 p:=by decide +kernel
theorem vL:∀p,p<29->aW (grE 10) p=tabOf ze p:=by decide +kernel
theorem vM {k:Nat}(hk:k<11)(T:List (List Nat))(hT:T.length=29)(h:∀p,p<29->aW (grE k) p=tabOf T p):aW (grE k)=tabOf T:=funext λp=>by
 by_cases c:p<29
 ·exact h p c
 ·rw[fK (by omega)]
  exact Dk.mpr λq hq=>c (cT (nc hk) hq).1
theorem Am:(rounds (aW (grE 9)) 29).length=300:=by rw[vM (by decide) fb9 rfl xH];exact xh
theorem An:(rounds (aW (grE 10)) 29).length=301:=by rw[vM (by decide) ze rfl vL];exact xk
open PySem L2
abbrev oO:Sp:=λvs H Q _=>∃(k:Nat) (p:Addr),vs=[.int (k:Nat),.ref p]/\k<3/\Pt 1 H p/\∀H',Bu 1 p H H'->Q (.bl true) H'
@[irreducible] def i8:Sp:=oO
theorem du {vs:List V}{H:Hp}{Q:VK}{E:XK}:i8 vs H Q E↔oO vs H Q E:=by
 delta i8
 exact CQ
section
variable  {P:AN}{w:Bh}{K:Av}{mg:Str->Option Au}{base:Heap}{f:Addr}{fd:BJ}{c_WebError c_BadWeb c_NoStep c_NoText c_TooMany c_NoTie c_NoRing c_NotClear c_NotThree c_BadBoard c_NoRow c_NoBack:Addr}
theorem cg:aI ["way", "pot", "many", "more", "arrows", "found"] ["way", "pot"] (au eG):=⟨rfl,rfl,rfl,by decide +kernel,rfl,by decide +kernel,by decide +kernel⟩
theorem iY:(["j"]:List Str).Nodup:=by decide +kernel
theorem kO (F:Fun K "_law_great_right" "_law_great_right" eG f fd)(B:Blt mg)(Z:Exs K mg c_WebError c_BadWeb c_NoStep c_NoText c_TooMany c_NoTie c_NoRing c_NotClear c_NotThree c_BadBoard c_NoRow c_NoBack)(cLHeard:Cal P w K mg base 44 "_law_heard" ["web"] (hX c_TooMany))(cLLayersRight:Cal P w K mg base 44 "_law_layers_right" ["backs"] mZ)(cLAlone:Cal P w K mg base 1 "_law_alone" ["e", "place"] (hV K [c_BadWeb,c_TooMany,c_NoTie,c_NoRing,c_NotClear,c_NotThree,c_BadBoard,c_NoStep,c_NoText,c_NoRow,c_NoBack] c_WebError))(cLTake:Cal P w K mg base 1 "_law_take" ["pot", "many"] fi)(cLBlock:Cal P w K mg base 1 "_law_block" ["first", "many"] i7)(C:Cst mg):bE P w K mg base CX0 45 f fd ["way", "pot"] i8:=by
 refine F.ok cg (λvs H Q E h =>?_) (λcdv A outer s H vs Q E hr h =>?_)
 ·obtain ⟨_,_,rfl,_⟩:=du.mp h
  rfl
 obtain ⟨k,p,rfl,k3,hp,q⟩:=du.mp h
 refine ⟨_,(@aj _ _ _ _ _ (@bD _ _ _ _ _ _ _ _ (aG eM (pv 0) ai (aS _)) (@ak _ _ _ (@aJ _ _ _ _ (az cLLayersRight hr (by decide) rfl (@aa _ _ _ _ _ (az cLTake hr (by decide) rfl (@aa _ _ _ _ _ (pv 1) (@aa _ _ _ _ _ ai ae rfl) rfl)) ae rfl)))) aP)
  (@aj _ _ _ _ _ (@bD _ _ _ _ _ _ _ _ (aG eM (pv 0) ai (aS _)) (@aj _ _ _ _ _ (@aE _ _ 2 _ _ _ _ cg.nd rfl (Or.inl rfl) (@ax _ _ _ _ _ _ _ _ bB ai (az cLTake hr (by decide) rfl (@aa _ _ _ _ _ (pv 1) (@aa _ _ _ _ _ ai ae rfl) rfl))) rfl (by first | exact .inl rfl | exact .inr rfl | assumption))
   (@ak _ _ _ (@aJ _ _ _ _ (az cLAlone hr (by decide) rfl (@aa _ _ _ _ _ (az cLHeard hr (by decide) rfl (@aa _ _ _ _ _ (@aL _ _ _ _ _ (@aa _ _ _ _ _ (pv 2) (@aa _ _ _ _ _ (bq bg rfl B.b_tuple cc (@aa _ _ _ _ _ (az cLBlock hr (by decide) rfl (@aa _ _ _ _ _ ai (@aa _ _ _ _ _ (pv 2) ae rfl) rfl)) ae rfl)) ae rfl) rfl)) ae rfl)) (@aa _ _ _ _ _ ai ae rfl) rfl))))) aP)
  (@aj _ _ _ _ _ (@aE _ _ 3 _ _ _ _ cg.nd rfl (Or.inl rfl) (@ax _ _ _ _ _ _ _ _ bB ai (az cLTake hr (by decide) rfl (@aa _ _ _ _ _ (pv 1) (@aa _ _ _ _ _ ai ae rfl) rfl))) rfl (by first | exact .inl rfl | exact .inr rfl | assumption))
  (@aj _ _ _ _ _ (@aE _ _ 4 _ _ _ _ cg.nd rfl (Or.inl rfl) (@ax _ _ _ _ _ _ _ _ fD (@ax _ _ _ _ _ _ _ _ fD (@ax _ _ _ _ _ _ _ _ fD (az cLBlock hr (by decide) rfl (@aa _ _ _ _ _ ai (@aa _ _ _ _ _ ai ae rfl) rfl)) (az cLBlock hr (by decide) rfl (@aa _ _ _ _ _ ai (@aa _ _ _ _ _ ai ae rfl) rfl))) (az cLBlock hr (by decide) rfl (@aa _ _ _ _ _ ai (@aa _ _ _ _ _ ai ae rfl) rfl))) (az cLBlock hr (by decide) rfl (@aa _ _ _ _ _ ai (@aa _ _ _ _ _ ai ae rfl) rfl))) rfl (by first | exact .inl rfl | exact .inr rfl | assumption))
  (@aj _ _ _ _ _ (@aE _ _ 5 _ _ _ _ cg.nd rfl (Or.inl rfl) (az cLHeard hr (by decide) rfl (@aa _ _ _ _ _ (@aL _ _ _ _ _ (@aa _ _ _ _ _ ai (@aa _ _ _ _ _ (bq bg rfl B.b_tuple cc (@aa _ _ _ _ _ (ao bS rfl B.b_sorted cA (@aa _ _ _ _ _ (@ax _ _ _ _ _ _ _ _ fD (pv 4) (dg ["j"] [none] rfl (aX rfl B.b_range (@aa _ _ _ _ _ (pv 3) ae rfl)) rfl (λ_ _ _ _ _=>(aN (i:=0) iY rfl (Or.inl rfl))) (λ_ _ _ _ _=>dW) (λ_ _ _ _ _=>(@aL _ _ _ _ _ (@aa _ _ _ _ _ (@ax _ _ _ _ _ _ _ _ bB ai (pv 0)) (@aa _ _ _ _ _ (@ax _ _ _ _ _ _ _ _ bB ai (pv 0)) ae rfl) rfl))))) ae rfl)) ae rfl)) ae rfl) rfl)) ae rfl)) rfl (by first | exact .inl rfl | exact .inr rfl | assumption))
  (@aj _ _ _ _ _ (@bD _ _ _ _ _ _ _ _ (aG eM (pv 3) ai (aS _)) (@ak _ _ _ (@aJ _ _ _ _ (az cLAlone hr (by decide) rfl (@aa _ _ _ _ _ (pv 5) (@aa _ _ _ _ _ ai ae rfl) rfl)))) aP)
  (@ak _ _ _ (@aJ _ _ _ _ (oR (ao cD rfl B.b_isinstance ay (@aa _ _ _ _ _ (pv 5) (@aa _ _ _ _ _ (fB (v :=.ty "list") rfl B.b_list qS rfl) ae rfl) rfl)) (oR (dR eM (ao aH rfl B.b_len bX (@aa _ _ _ _ _ (pv 5) ae rfl)) ai (aS _)) (tL (dR (qO hr) (pv 5) (ao (jJ (w:=w) rfl hr.hd) rfl B.b_sorted cA (@aa _ _ _ _ _ (bq (pO (w:=w) rfl hr.hd hr.units) rfl B.b_set p7 (@aa _ _ _ _ _ (pv 5) ae rfl)) ae rfl)) (aS _))))))))))))),?_⟩
 have df:∀a b:Int,a≠b->decide (V.int a=V.int b)=false:=λa b n=>decide_eq_false λz=>n (V.int.inj z)
 have tr:∀a:Int,decide (V.int a=V.int a)=true:=λa=>decide_eq_true rfl
 refine ⟨_,rfl,rfl,_,rfl,?_⟩
 rcases (show k=0\/k=1\/k=2 by omega) with c | c | c <;> subst c
 ·rw[show decide (V.int ((0:Nat):Int)=V.int 0)=true from rfl]
  refine cx ⟨_,rfl,aF.mpr ⟨p,3,rfl,hp,by decide,by decide,λd H1 d0 d1 u1 =>?_⟩⟩
  obtain ⟨b,rfl⟩:∃b:Nat,d=b:=⟨d.toNat,by omega⟩
  exact gq.mpr ⟨b,rfl,by omega,λH2 s2=>q H2 (u1.same s2)⟩
 ·rw[df _ _ (by decide)]
  refine cw ⟨_,rfl,rfl,_,rfl,?_⟩
  rw[show decide (V.int ((1:Nat):Int)=V.int 1)=true from rfl]
  refine cx ⟨_,rfl,aF.mpr ⟨p,5,rfl,hp,by decide,by decide,λd H1 d0 d1 u1=>⟨_,_,rfl,rfl,?_⟩⟩⟩
  obtain ⟨m,hm,m10,m14⟩:∃m:Nat,10+d=(m:Int)/\10<=m/\m<=14:=⟨(10+d).toNat,by omega,by omega,by omega⟩
  refine dN ?_
  dsimp only
  rw[hm]
  refine ⟨_,rfl,_,rfl,bO.mpr ⟨0,m,rfl,by omega,m14,by decide,λl us H2 s2 el tu eu=>⟨l,_,rfl,.inl ⟨SqL.of el,λl3 hl3=>⟨(by show 2<=AH;decide),λwb hwb =>?_⟩⟩⟩⟩⟩
  have gg:=(ag hl3 (.tup (us.map λu =>.ref u.1))).trans (ag hwb (.tup [.int (m:Int),.ref l3]))
  have m2:m*m<=196:=A5 (IA m14 m14) (by decide)
  have lu:us.length=m*m:=by have:=congrArg List.length eu;rwa [Aq,eJ] at this
  have R:300<(rounds (aW (us.map (·.2))) m).length:=by rw[eu,vK (by omega)];exact sU (by omega)
  refine cJ.mpr ⟨wb,m,us,rfl,⟨⟨l3,af,(ag hwb _) _ _ af⟩,λu hu=>gg _ _ (tu u hu),Rg.of (by rw[eu];exact rn)⟩,by omega,by omega,by rw[eu];exact lV _ _ _,λ_ ea H5 s5 eea =>?_,λh=>absurd R (by omega)⟩
  exact cI.mpr ⟨ea,c_TooMany,none,1,1,rfl,eea,zu Z,rfl,λH6 s6=>q _ (u1.same (s2.trans (gg.trans (s5.trans s6))))⟩
 rw[df _ _ (by decide)]
 refine cw ⟨_,rfl,rfl,_,rfl,?_⟩
 rw[df _ _ (by decide)]
 refine cw ⟨_,rfl,aF.mpr ⟨p,2,rfl,hp,by decide,by decide,λd H1 d0 d1 u1=>⟨_,_,rfl,rfl,?_⟩⟩⟩
 obtain ⟨k,hk,k9⟩:∃k:Nat,9+d=(k:Int)/\(k=9\/k=10):=⟨(9+d).toNat,by omega,by omega⟩
 refine dN ?_
 dsimp only
 rw[hk]
 refine bO.mpr ⟨0,5,rfl,by decide,by decide,by decide,λl0 us0 H2 s2 el0 tu0 eu0 =>?_⟩
 refine bO.mpr ⟨5,5,rfl,by decide,by decide,by decide,λl1 us1 H3 s3 el1 tu1 eu1 =>?_⟩
 have lu0:us0.length=25:=by have:=congrArg List.length eu0;rwa [Aq,eJ] at this
 have lu1:us1.length=25:=by have:=congrArg List.length eu1;rwa [Aq,eJ] at this
 refine ⟨l0,l1,_,_,rfl,rfl,SqL.of (s3 _ _ el0),SqL.of el1,by rw[Aq,Aq,lu0,lu1];decide,λl2 hl2 =>?_⟩
 rw[<- AA]
 have g4:=ag hl2 (.lst ((us0++us1).map λu =>.ref u.1))
 have el2:upd H3 l2 (.lst ((us0++us1).map λu =>.ref u.1)) l2=some (.lst ((us0++us1).map λu =>.ref u.1)):=af
 have t4:Tus H3 (us0++us1):=λu hu=>(AI.mp hu).elim (λz=>s3 _ _ (tu0 u z)) (tu1 u)
 have t4:=t4.same g4
 have s4:=s2.trans (s3.trans g4)
 generalize upd H3 l2 (.lst ((us0++us1).map λu =>.ref u.1))=H4 at g4 el2 t4 s4
 refine bO.mpr ⟨10,5,rfl,by decide,by decide,by decide,λl3 us3 H5 s5 el3 tu3 eu3 =>?_⟩
 have lu3:us3.length=25:=by have:=congrArg List.length eu3;rwa [Aq,eJ] at this
 refine ⟨l2,l3,_,_,rfl,rfl,SqL.of (s5 _ _ el2),SqL.of el3,by rw[Aq,Aq,As,lu0,lu1,lu3];decide,λl4 hl4 =>?_⟩
 rw[<- AA]
 have g6:=ag hl4 (.lst ((us0++us1++us3).map λu =>.ref u.1))
 have el4:upd H5 l4 (.lst ((us0++us1++us3).map λu =>.ref u.1)) l4=some (.lst ((us0++us1++us3).map λu =>.ref u.1)):=af
 have t6:Tus H5 (us0++us1++us3):=λu hu=>(AI.mp hu).elim (λz=>s5 _ _ (t4 u z)) (tu3 u)
 have t6:=t6.same g6
 have s6:=s4.trans (s5.trans g6)
 generalize upd H5 l4 (.lst ((us0++us1++us3).map λu =>.ref u.1))=H6 at g6 el4 t6 s6
 refine bO.mpr ⟨15,4,rfl,by decide,by decide,by decide,λl5 us5 H7 s7 el5 tu5 eu5 =>?_⟩
 have lu5:us5.length=16:=by have:=congrArg List.length eu5;rwa [Aq,eJ] at this
 refine ⟨l4,l5,_,_,rfl,rfl,SqL.of (s7 _ _ el4),SqL.of el5,by rw[Aq,Aq,As,As,lu0,lu1,lu3,lu5];decide,λl6 hl6 =>?_⟩
 rw[<- AA]
 have g8:=ag hl6 (.lst ((us0++us1++us3++us5).map λu =>.ref u.1))
 have el6:upd H7 l6 (.lst ((us0++us1++us3++us5).map λu =>.ref u.1)) l6=some (.lst ((us0++us1++us3++us5).map λu =>.ref u.1)):=af
 have t8:Tus H7 (us0++us1++us3++us5):=λu hu=>(AI.mp hu).elim (λz=>s7 _ _ (t6 u z)) (tu5 u)
 have t8:=t8.same g8
 have s8:=s6.trans (s7.trans g8)
 have eA:(us0++us1++us3++us5).map (·.2)=blk 0 5 (5*5)++blk 5 5 (5*5)++blk 10 5 (5*5)++blk 15 4 (4*4):=by rw[AA,AA,AA,eu0,eu1,eu3,eu5]
 have lA:(us0++us1++us3++us5).length=91:=by rw[As,As,As,lu0,lu1,lu3,lu5]
 generalize upd H7 l6 (.lst ((us0++us1++us3++us5).map λu =>.ref u.1))=H8 at g8 el6 t8 s8
 generalize us0++us1++us3++us5=ua at el6 t8 eA lA
 refine dN ?_
 dsimp only
 refine ⟨_,rfl,_,rfl,(k:Int),rfl,by omega,by omega,?_⟩
 rw[BQ]
 refine cE (λi ys H'=>aD H8 H'/\∃us:List (Addr×List Int),ys=us.map (λu =>.ref u.1)/\Tus H' us/\us.map (·.2)=(Ba i).map λj:Nat=>[((19+j:Nat):Int),((19+j:Nat):Int)]) ⟨aD.refl _,[],rfl,λu hu=>(by cases hu),rfl⟩ (small (by omega)) ?_ ?_
 ·rintro i ys H9 hi hy ⟨s9,us,rfl,tu,eu⟩ R1 R0 r1 r0
  have e9:(19:Int)+(0+(i:Int))=((19+i:Nat):Int):=by omega
  refine cx ⟨_,rfl,_,_,rfl,rfl,_,rfl,_,_,rfl,rfl,(by show 2<=AH;decide),λc hc =>?_⟩
  show R1 (V.ref c) (upd H9 c (.tup [.int ((19:Int)+(0+(i:Int))),.int ((19:Int)+(0+(i:Int)))]))
  rw[e9]
  exact r1 _ _ ⟨s9.trans (ag hc _),us++[(c,[((19+i:Nat):Int),((19+i:Nat):Int)])],by rw[AA];rfl,Tus.snoc (tu.same (ag hc _)) (u:=(c,[((19+i:Nat):Int),((19+i:Nat):Int)])) af,by rw[AA,eu,EV,AA];rfl⟩
 rintro ys H9 hy ⟨s9,ul,rfl,tul,eul⟩ l7 hl7
 have gl:=ag hl7 (.lst (ul.map λu =>.ref u.1))
 have el7:upd H9 l7 (.lst (ul.map λu =>.ref u.1)) l7=some (.lst (ul.map λu =>.ref u.1)):=af
 have tul:=tul.same gl
 have ta:=(t8.same s9).same gl
 have ela:=gl _ _ (s9 _ _ el6)
 have sA:=s8.trans (s9.trans gl)
 have lul:ul.length=k:=by have:=congrArg List.length eul;rwa [Aq,Aq,BN] at this
 generalize upd H9 l7 (.lst (ul.map λu =>.ref u.1))=HA at gl el7 tul ta ela sA
 refine ⟨l6,l7,_,_,rfl,rfl,SqL.of ela,SqL.of el7,by rw[Aq,Aq];exact small (by omega),λl8 hl8 =>?_⟩
 rw[<- AA]
 have gb:=ag hl8 (.lst ((ua++ul).map λu =>.ref u.1))
 have el8:upd HA l8 (.lst ((ua++ul).map λu =>.ref u.1)) l8=some (.lst ((ua++ul).map λu =>.ref u.1)):=af
 have tB:Tus HA (ua++ul):=λu hu=>(AI.mp hu).elim (ta u) (tul u)
 have tB:=tB.same gb
 have sB:=sA.trans gb
 generalize upd HA l8 (.lst ((ua++ul).map λu =>.ref u.1))=HB at gb el8 tB sB
 have eB:(ua++ul).map (·.2)=grE k:=by rw[AA,eA,eul];rfl
 have kk:k<11:=by omega
 refine ⟨l8,ua++ul,rfl,.inl (SqL.of el8),λu hu=>⟨SqT.of (tB u hu),?_⟩,λl9 out hl9 pm so =>?_⟩
 ·have:u.2∈grE k:=by rw[<- eB];exact Cm hu
  obtain ⟨x,y,e,_⟩:=nc kk _ this
  rw[e];intro z;cases z
 have eO:out.map (·.2)=grE k:=cX ((pm.map (·.2)).trans (by rw[eB])) (j7 so) (Ak k kk)
 refine ⟨l9,_,rfl,.inl ⟨SqL.of af,λlc hlc=>⟨(by show 2<=AH;decide),λwb hwb =>?_⟩⟩⟩
 have gg:=((ag hl9 (.lst (out.map λt =>.ref t.1))).trans (ag hlc (.tup (out.map λt =>.ref t.1)))).trans (ag hwb (.tup [.int 29,.ref lc]))
 have WW:Ow (upd (upd (upd HB l9 (.lst (out.map λt =>.ref t.1))) lc (.tup (out.map λt =>.ref t.1))) wb (.tup [.int 29,.ref lc])) wb ((29:Nat):Int) out:=⟨⟨lc,af,(ag hwb _) _ _ af⟩,λu hu=>gg _ _ (tB u (pm.mem_iff.mp hu)),Rg.of (by rw[eO];exact nc kk)⟩
 have sC:=sB.trans gg
 generalize upd (upd (upd HB l9 (.lst (out.map λt =>.ref t.1))) lc (.tup (out.map λt =>.ref t.1))) wb (.tup [.int 29,.ref lc])=HC at gg WW sC
 refine cJ.mpr ⟨wb,29,out,rfl,WW,by decide,by rw[pm.length_eq,As];omega,by rw[eO];exact x3 k kk,?_,?_⟩
 ·rw[eO]
  intro h ea HD sD eea
  have k10:k=10:=by
   rcases k9 with c | c
   ·rw[c,Am] at h;exact absurd h (by decide)
   ·exact c
  subst k10
  refine dN ?_
  dsimp only
  refine ⟨_,rfl,rfl,_,rfl,?_⟩
  rw[show decide (V.int ((10:Nat):Int)=V.int 10)=true from rfl]
  exact cx ⟨_,rfl,cI.mpr ⟨ea,c_TooMany,none,1,1,rfl,eea,zu Z,rfl,λHE sE=>q _ (u1.same (sC.trans (sD.trans sE)))⟩⟩
 ·rw[eO]
  intro h z us HD sD _ ez tz pmz soz
  have k9:k=9:=by
   rcases k9 with c | c
   ·exact c
   ·rw[c,An] at h;exact absurd h (by decide)
  subst k9
  have lz:us.length=300:=by have:=pmz.length_eq;rwa [Aq,Aq,Am] at this
  refine dN ?_
  dsimp only
  refine ⟨_,rfl,rfl,_,rfl,?_⟩
  rw[df _ _ (by decide)]
  refine cw ⟨_,rfl,.ref z, "list",_,true,rfl,.lst ez,rfl,_,rfl,cx ⟨_,rfl,z,_,rfl,.inl (SqL.of ez),rfl,_,rfl,?_⟩⟩
  rw[Aq,lz,show decide (V.int ((300:Nat):Int)=V.int 300)=true from rfl]
  refine cx ⟨_,rfl,_,rfl,z,us,rfl,.inl (SqL.of ez),λu hu=>SqT.of (tz u hu),by omega,λsa ds hsa sub nd cov le =>?_⟩
  have g5:=ag hsa (dz w sa (ds.map λt =>.ref t.1))
  have esa:upd HD sa (dz w sa (ds.map λt =>.ref t.1)) sa=some (dz w sa (ds.map λt =>.ref t.1)):=af
  have sE:=sC.trans (sD.trans g5)
  have tz5:=tz.same g5
  have ez5:=g5 _ _ ez
  generalize upd HD sa (dz w sa (ds.map λt =>.ref t.1))=HE at g5 esa sE tz5 ez5
  have ndz:(us.map (·.2)).Nodup:=(pmz.nodup_iff).mpr (BE.mpr ((mK (gi (nc kk) (x3 9 kk)) 29).imp λh e=>h (zj e)))
  refine ⟨sa,ds,rfl,esa,λu hu=>⟨SqT.of (tz5 u (sub u hu)),?_⟩,by omega,λl3 out3 hl3 pm3 so3 =>?_⟩
  ·have:u.2∈us.map (·.2):=Cm (sub u hu)
   obtain ⟨x,hx,ex⟩:=A6.mp (pmz.mem_iff.mp this)
   rw[<- ex]
   unfold ni
   intro y
   exact tw x hx (D2.mp y)
  have g6:=ag hl3 (.lst (out3.map λt =>.ref t.1))
  have e3:us.map (·.2)=out3.map (·.2):=by
   refine cX ?_ soz (j7 so3)
   refine (C0 ndz ?_).mpr λx =>?_
   ·exact ((pm3.map (·.2)).nodup_iff).mpr nd
   ·rw[(pm3.map (·.2)).mem_iff]
    constructor
    ·intro hx
     obtain ⟨u,hu,rfl⟩:=A6.mp hx
     exact cov u hu
    ·intro hx
     obtain ⟨u,hu,rfl⟩:=A6.mp hx
     exact Cm (sub u hu)
  exact ⟨z,l3,_,_,rfl,rfl,SqL.of (g6 _ _ ez5),SqL.of af,.inr ⟨fw e3 (tz5.same g6) (λu hu=>g6 _ _ (tz5 u (sub u (pm3.mem_iff.mp hu)))),q _ (u1.same (sE.trans g6))⟩⟩
end
open PySem L2
theorem szL:100000<=AH:=by decide
theorem kr (Z:List Int)(lo hi:Option Int):∃Z':List Int,dE (Z.map V.int) lo hi=Z'.map V.int/\Z'.length=HT.sIx Z.length Z.length hi-HT.sIx Z.length 0 lo:=by
 unfold dE
 rw[Aq]
 refine ⟨(Z.drop (HT.sIx Z.length 0 lo)).take (HT.sIx Z.length Z.length hi-HT.sIx Z.length 0 lo),?_,?_⟩
 ·rw[DM,FF]
 ·rw[Bz,Ca]
  have:=HT.tY Z.length Z.length (AE _) hi
  omega
theorem Ao (Z:List Int)(a:Nat):∃Z':List Int,dE (Z.map V.int) none (some (a:Int))=Z'.map V.int/\Z'.length=min a Z.length:=by
 obtain ⟨Z',e,l⟩:=kr Z none (some (a:Int))
 exact ⟨Z',e,by rw[l,HT.gz];rfl⟩
theorem ng (Z:List Int)(a:Nat):∃Z':List Int,dE (Z.map V.int) (some (a:Int)) none=Z'.map V.int/\Z'.length=Z.length-min a Z.length:=by
 obtain ⟨Z',e,l⟩:=kr Z (some (a:Int)) none
 exact ⟨Z',e,by rw[l,HT.gz];rfl⟩
theorem zv (Z:List Int)(a b:Nat):∃Z':List Int,dE (Z.map V.int) (some (a:Int)) (some (b:Int))=Z'.map V.int/\Z'.length=min b Z.length-min a Z.length:=by
 obtain ⟨Z',e,l⟩:=kr Z (some (a:Int)) (some (b:Int))
 exact ⟨Z',e,by rw[l,HT.gz,HT.gz]⟩
abbrev rq:Sp:=λvs H Q _=>∃(p o:Addr) (os:List Int),vs=[.ref p,.ref o]/\Pt 1 H p/\H o=some (.tup (os.map V.int))/\os.length<=10000/\∀(b:Addr) (ws:List Int) (H':Hp),Bu 1 p H H'->H' b=some (.tup (ws.map V.int))->ws.length<=os.length+1->Q (.ref b) H'
@[irreducible] def nj:Sp:=rq
theorem gr {vs:List V}{H:Hp}{Q:VK}{E:XK}:nj vs H Q E↔rq vs H Q E:=by
 delta nj
 exact CQ
section
variable  {P:AN}{w:Bh}{K:Av}{mg:Str->Option Au}{base:Heap}{f T:Addr}{fd:BJ}
theorem nk:aI ["pot", "places", "at", "way"] ["pot", "places"] (au pZ):=⟨rfl,rfl,rfl,by decide +kernel,rfl,by decide +kernel,by decide +kernel⟩
theorem xI (F:Fun K "_law_bent" "_law_bent" pZ f fd)(B:Blt mg)(cLTake:Cal P w K mg base 1 "_law_take" ["pot", "many"] fi)(C:Cst mg):bE P w K mg base CX0 2 f fd ["pot", "places"] nj:=by
 refine F.ok nk (λvs H Q E h =>?_) (λcdv A outer s H vs Q E hr h =>?_)
 ·obtain ⟨_,_,_,rfl,_⟩:=gr.mp h
  rfl
 obtain ⟨p,o,os,rfl,hp,eo,lo,q⟩:=gr.mp h
 refine ⟨_,(@aj _ _ _ _ _ (@aE _ _ 2 _ _ _ _ nk.nd rfl (Or.inl rfl) (az cLTake hr (by decide) rfl (@aa _ _ _ _ _ (pv 0) (@aa _ _ _ _ _ (@ax _ _ _ _ _ _ _ _ bB (ao aH rfl B.b_len bX (@aa _ _ _ _ _ (pv 1) ae rfl)) ai) ae rfl) rfl)) rfl (by first | exact .inl rfl | exact .inr rfl | assumption))
  (@aj _ _ _ _ _ (@aE _ _ 3 _ _ _ _ nk.nd rfl (Or.inl rfl) (az cLTake hr (by decide) rfl (@aa _ _ _ _ _ (pv 0) (@aa _ _ _ _ _ ai ae rfl) rfl)) rfl (by first | exact .inl rfl | exact .inr rfl | assumption))
  (@aj _ _ _ _ _ (@bD _ _ _ _ _ _ _ _ (aG qj (pv 3) ai (aS _)) (@ak _ _ _ (@aJ _ _ _ _ (@ax _ _ _ _ _ _ _ _ cb (bo bU (pv 1) (bC (pv 2)) bM) (bo bU (pv 1) bM (bC (pv 2)))))) aP)
  (@aj _ _ _ _ _ (@bD _ _ _ _ _ _ _ _ (aG eM (pv 3) ai (aS _)) (@ak _ _ _ (@aJ _ _ _ _ (wR (pv 1)))) aP)
  (@aj _ _ _ _ _ (@bD _ _ _ _ _ _ _ _ (aG eM (pv 3) ai (aS _)) (@ak _ _ _ (@aJ _ _ _ _ (@ax _ _ _ _ _ _ _ _ cb (bo bU (pv 1) bM (bC (pv 2))) (bo bU (pv 1) (bC (@ax _ _ _ _ _ _ _ _ bB (pv 2) ai)) bM)))) aP)
  (@aj _ _ _ _ _ (@bD _ _ _ _ _ _ _ _ (aG eM (pv 3) ai (aS _)) (@ak _ _ _ (@aJ _ _ _ _ (@ax _ _ _ _ _ _ _ _ cb (@ax _ _ _ _ _ _ _ _ cb (bo bU (pv 1) bM (bC (pv 2))) (bo bU (pv 1) (bC (pv 2)) (bC (@ax _ _ _ _ _ _ _ _ bB (pv 2) ai)))) (bo bU (pv 1) (bC (pv 2)) bM)))) aP)
  (@ak _ _ _ (@aJ _ _ _ _ (@ax _ _ _ _ _ _ _ _ cb (@ax _ _ _ _ _ _ _ _ cb (bo bU (pv 1) bM (bC (pv 2))) (@aL _ _ _ _ _ (@aa _ _ _ _ _ (@ax _ _ _ _ _ _ _ _ jl (az cLTake hr (by decide) rfl (@aa _ _ _ _ _ (pv 0) (@aa _ _ _ _ _ ai ae rfl) rfl)) ai) ae rfl))) (bo bU (pv 1) (bC (@ax _ _ _ _ _ _ _ _ jl (@ax _ _ _ _ _ _ _ _ bB (pv 2) (pv 3)) ai)) bM)))))))))),?_⟩
 have lm:(os.map V.int).length=os.length:=Aq _
 refine ⟨_,rfl,_,rfl,o,_,rfl,.inr (SqT.of eo),_,_,rfl,rfl,aF.mpr ⟨p,(os.length:Int)+1,by rw[lm];rfl,hp,by omega,by omega,λat' H1 a0 a1 u1 =>?_⟩⟩
 refine ⟨_,rfl,aF.mpr ⟨p,7,rfl,u1.pot,by decide,by decide,λwy H3 w0 w1 u3' =>?_⟩⟩
 have u3:=u1.trans u3'
 have eo3:=u3.tup hp eo
 obtain ⟨a,rfl⟩:∃a:Nat,at'=a:=⟨at'.toNat,by omega⟩
 obtain ⟨Z1,c1,l1⟩:=Ao os a
 obtain ⟨Z2,c2,l2⟩:=ng os (a+1)
 obtain ⟨Z3,c3,l3⟩:=zv os a (a+1)
 obtain ⟨Z4,c4,l4⟩:=ng os a
 rw[show ((a+1:Nat):Int)=(a:Int)+1 from rfl] at c2 c3
 refine ⟨_,rfl,_,_,rfl,rfl,_,rfl,gG (λz =>?_) λz =>?_⟩
 ·refine ⟨_,rfl,_,rfl,_,rfl,o,_,rfl,eo3,λp1 H4 s4 e1 =>?_⟩
  refine ⟨_,rfl,_,rfl,_,rfl,o,_,rfl,s4 _ _ eo3,λp2 H5 s5 e2 =>?_⟩
  rw[c4] at e1
  rw[c1] at e2
  refine ⟨p1,p2,_,_,rfl,rfl,s5 _ _ e1,e2,(by rw[Aq,Aq];have:=szL;omega),λp3 H6 s6 e3 =>?_⟩
  rw[<- AA] at e3
  exact q p3 _ H6 (u3.same (s4.trans (s5.trans s6))) e3 (by rw[As];omega)
 have z:¬ wy<2:=λh=>z (decide_eq_true h)
 refine ⟨_,rfl,rfl,_,rfl,gG (λz =>?_) λz2 =>?_⟩
 ·refine ⟨_,rfl,o,_,rfl,SqT.of eo3,λb hb =>?_⟩
  rw[<- List.map_reverse]
  exact q b _ _ (u3.same (ag hb _)) af (by rw[Dp];omega)
 refine ⟨_,rfl,rfl,_,rfl,gG (λz =>?_) λz3 =>?_⟩
 ·refine ⟨_,rfl,_,rfl,_,rfl,o,_,rfl,eo3,λp1 H4 s4 e1 =>?_⟩
  refine ⟨_,rfl,_,rfl,_,_,rfl,rfl,_,rfl,o,_,rfl,s4 _ _ eo3,λp2 H5 s5 e2 =>?_⟩
  rw[c1] at e1
  rw[c2] at e2
  refine ⟨p1,p2,_,_,rfl,rfl,s5 _ _ e1,e2,(by rw[Aq,Aq];have:=szL;omega),λp3 H6 s6 e3 =>?_⟩
  rw[<- AA] at e3
  exact q p3 _ H6 (u3.same (s4.trans (s5.trans s6))) e3 (by rw[As];omega)
 refine ⟨_,rfl,rfl,_,rfl,gG (λz =>?_) λz4 =>?_⟩
 ·refine ⟨_,rfl,_,rfl,_,rfl,o,_,rfl,eo3,λp1 H4 s4 e1 =>?_⟩
  refine ⟨_,rfl,_,rfl,_,rfl,_,rfl,_,_,rfl,rfl,_,rfl,o,_,rfl,s4 _ _ eo3,λp2 H5 s5 e2 =>?_⟩
  rw[c1] at e1
  rw[c3] at e2
  refine ⟨p1,p2,_,_,rfl,rfl,s5 _ _ e1,e2,(by rw[Aq,Aq];have:=szL;omega),λp3 H6 s6 e3 =>?_⟩
  rw[<- AA] at e3
  refine ⟨_,rfl,_,rfl,_,rfl,o,_,rfl,s6 _ _ (s5 _ _ (s4 _ _ eo3)),λp4 H7 s7 e4 =>?_⟩
  rw[c4] at e4
  refine ⟨p3,p4,_,_,rfl,rfl,s7 _ _ e3,e4,(by rw[Aq,Aq,As];have:=szL;omega),λp5 H8 s8 e5 =>?_⟩
  rw[<- AA] at e5
  exact q p5 _ H8 (u3.same (s4.trans (s5.trans (s6.trans (s7.trans s8))))) e5 (by rw[As,As];omega)
 have z2:wy≠2:=λh=>z2 (decide_eq_true (by rw[h]))
 have z3:wy≠3:=λh=>z3 (decide_eq_true (by rw[h]))
 have z4:wy≠4:=λh=>z4 (decide_eq_true (by rw[h]))
 obtain ⟨b,eb,b1⟩:∃b:Nat,(a:Int)+wy-5=(b:Int)/\a<=b:=⟨((a:Int)+wy-5).toNat,by omega,by omega⟩
 obtain ⟨Z5,c5,l5⟩:=ng os b
 refine ⟨_,rfl,_,rfl,_,rfl,o,_,rfl,eo3,λp1 H4 s4 e1 =>?_⟩
 rw[c1] at e1
 refine ⟨_,rfl,aF.mpr ⟨p,8,rfl,(u3.same s4).pot,by decide,by decide,λd H5 d0 d1 u5'=>⟨_,_,rfl,rfl,(by show 1<=AH;decide),λtp htp =>?_⟩⟩⟩
 have u5:=(u3.same s4).trans u5'
 have e15:=u5'.tup (u3.same s4).pot e1
 have g7:=ag htp (.tup [.int (d-1)])
 have e7:upd H5 tp (.tup [.int (d-1)]) tp=some (.tup (([d-1]:List Int).map V.int)):=af
 dsimp only
 have u7:=u5.same g7
 have e17:=g7 _ _ e15
 generalize upd H5 tp (.tup [.int (d-1)])=H7 at g7 e7 u7 e17
 refine ⟨p1,tp,_,_,rfl,rfl,e17,e7,(by rw[Aq];have:=szL;show _+1<=_;omega),λp3 H8 s8 e8 =>?_⟩
 rw[<- AA] at e8
 refine ⟨_,rfl,_,rfl,_,rfl,_,_,rfl,rfl,?_⟩
 refine ⟨_,_,rfl,rfl,_,rfl,o,_,rfl,s8 _ _ (u7.tup hp eo),λp4 H9 s9 e9 =>?_⟩
 rw[show (some ((a:Int)+wy-5))=some (b:Int) by rw[eb],c5] at e9
 refine ⟨p3,p4,_,_,rfl,rfl,s9 _ _ e8,e9,(by rw[Aq,Aq,As];have:=szL;show _+1+_<=_;omega),λp5 Ha sa ea =>?_⟩
 rw[<- AA] at ea
 exact q p5 _ Ha (u7.same (s8.trans (s9.trans sa))) ea (by rw[As,As];show _+1+_<=_;omega)
end
end K56
set_option maxHeartbeats 4000000
namespace K56
open PySem L2
def oP (K:Av):Sp:=λvs H Q _=>∃(a:Addr) (ns:List Int),vs=[.ref a]/\SqL K H a (ns.map V.int)/\ns.length<=63/\∀H',Q (.bl true) H'
theorem lY {K:Av}{vs:List V}{H:Hp}{Q:VK}{E:XK}:oP K vs H Q E↔∃(a:Addr) (ns:List Int),vs=[.ref a]/\SqL K H a (ns.map V.int)/\ns.length<=63/\∀H',Q (.bl true) H':=CQ
theorem vN (xs:List V)(k:Nat):dE xs none (some (k:Int))=xs.take k:=by
 by_cases h:k<=xs.length
 ·exact mV xs h
 ·unfold dE
  rw[HT.gz,show min k xs.length=xs.length by omega,Bi (by omega:xs.length<=k)]
  show (xs.drop 0).take (xs.length-0)=xs
  rw[Ew,F8,DY]
theorem lZ {out:Nat->List Nat}{f m:Nat}(hm:∀p q,q∈out p->q<m):∀(n:Nat) (way:List Nat) (l:Nat),way.Nodup->(∀x,x∈way->x<m)->∀r∈goP out f n way l,r.length<=m
 | 0,_,_,_,_,r,h=>nomatch h
 | n+1,way,l,nd,rg,r,h=>by
  rw[goP] at h
  obtain ⟨p,hp,h⟩:=Cv.mp h
  by_cases c:p=f
  ·rw[if_pos c] at h
   rw[AB.mp h]
   exact aV m way nd rg
  ·rw[if_neg c] at h
   by_cases d:f<p/\p∉way
   ·rw[if_pos d] at h
    refine lZ hm n _ _ (Cd.mpr ⟨nd,BL.mpr ⟨BP,BK⟩,λx hx y hy e=>d.2 (by rw[<- AB.mp hy, <- e];exact hx)⟩) (λx hx =>?_) r h
    rcases AI.mp hx with z | z
    ·exact rg x z
    ·exact (AB.mp z) ▸ hm l p hp
   ·rw[if_neg d] at h;cases h
theorem qe {out:Nat->List Nat}{m:Nat}(hm:∀p q,q∈out p->q<m):∀r∈rounds out m,r.length<=m:=λr h=>by
 obtain ⟨f,hf,h⟩:=Cv.mp h
 exact lZ hm m [f] f (BL.mpr ⟨BP,BK⟩) (λx hx=>by rw[AB.mp hx];exact BG.mp hf) r h
theorem xJ {Z:List Int}{a b:Int}(ha:a∈Z)(hb:b∈Z)(la:∀x∈Z,a<=x)(lb:∀x∈Z,b<=x):a=b:=Int.le_antisymm (la b hb) (lb a ha)
section
variable  {P:AN}{w:Bh}{K:Av}{mg:Str->Option Au}{base:Heap}{f:Addr}{fd:BJ}{c_WebError c_BadWeb c_NoStep c_NoText c_TooMany c_NoTie c_NoRing c_NotClear c_NotThree c_BadBoard c_NoRow c_NoBack:Addr}
theorem fA:aI ["script", "k", "pot", "web", "due", "found", "turn", "places", "bend", "told"] ["script"] (au ou):=⟨rfl,rfl,rfl,by decide +kernel,rfl,by decide +kernel,by decide +kernel⟩
theorem tH:(["one"]:List Str).Nodup:=by decide +kernel
theorem Ap (F:Fun K "law" "law" ou f fd)(B:Blt mg)(Z:Exs K mg c_WebError c_BadWeb c_NoStep c_NoText c_TooMany c_NoTie c_NoRing c_NotClear c_NotThree c_BadBoard c_NoRow c_NoBack)(cLDeal:Cal P w K mg base 1 "_law_deal" ["script", "k"] (mT K))(cLDrawn:Cal P w K mg base 3 "_law_drawn" ["pot"] i5)(cLAll:Cal P w K mg base 8 "_law_all" ["web"] mY)(cLHeard:Cal P w K mg base 44 "_law_heard" ["web"] (hX c_TooMany))(cLGreatRight:Cal P w K mg base 45 "_law_great_right" ["way", "pot"] i8)(cIsRound:Cal P w K mg base 2 "is_round" ["web", "places"] mW)(cLAlone:Cal P w K mg base 1 "_law_alone" ["e", "place"] (hV K [c_BadWeb,c_TooMany,c_NoTie,c_NoRing,c_NotClear,c_NotThree,c_BadBoard,c_NoStep,c_NoText,c_NoRow,c_NoBack] c_WebError))(cLTake:Cal P w K mg base 1 "_law_take" ["pot", "many"] fi)(cLBent:Cal P w K mg base 2 "_law_bent" ["pot", "places"] nj)(cLIsRound:Cal P w K mg base 1 "_law_is_round" ["web", "places"] q8)(cRoundForm:Cal P w K mg base 1 "round_form" ["places"] xC)(cLForm:Cal P w K mg base 1 "_law_form" ["places"] i6)(cAllRounds:Cal P w K mg base 43 "all_rounds" ["web"] iH)(C:Cst mg):bE P w K mg base CX0 46 f fd ["script"] (oP K):=by
 refine F.ok fA (λvs H Q E h =>?_) (λcdv A outer s H vs Q E hr h =>?_)
 ·obtain ⟨_,_,rfl,_⟩:=lY.mp h
  rfl
 obtain ⟨a,ns,rfl,hS,h63,q⟩:=lY.mp h
 have TD:∃t,PSs (ia CX0 P w K mg base ["script", "k", "pot", "web", "due", "found", "turn", "places", "bend", "told"] "law" (au ou) f cdv A outer s H E).nox ((wO ((bG ou).getD 0 (.Pass ⟨0,0,0,0⟩))).drop 6) t/\∀(D:Ends) (p b d:Addr) (kk:Int) (fv:Option V) (m:Nat) (ts us:List (Addr×List Int)) (H1:Hp) (c6 c7 c8 c9:Option V),Pt 1 H1 p->Ow H1 b (m:Int) ts->m<=6->ts.length<=36->H1 d=some (.lst (us.map λu =>.ref u.1))->d≠p->Tus H1 us->us.length<=300000->(∀u∈us,u.2.length<=40) →
   (∀σ' H',(∃c1 c2 c3 c4 c5 c6 c7 c8 c9,σ'=[some (.ref a),c1,c2,c3,c4,c5,c6,c7,c8,c9])->Bu 1 p H1 H'->D.nx σ' H')->t D [some (.ref a),some (.int kk),some (.ref p),some (.ref b),some (.ref d),fv,c6,c7,c8,c9] H1:=by
  refine ⟨_,(@ak _ _ _ (@cp _ _ _ _ _ _ _ _ BW rfl (aX rfl B.b_range (@aa _ _ _ _ _ ai ae rfl)) (aN (i:=6) fA.nd rfl (Or.inl rfl))
    (@aj _ _ _ _ _ (@aE _ _ 7 _ _ _ _ fA.nd rfl (Or.inl rfl) (@aY _ _ _ _ _ _ _ cq (@ax _ _ _ _ _ _ _ _ fD (@bK _ _ _ _ (@aa _ _ _ _ _ (@aL _ _ _ _ _ ae) (@aa _ _ _ _ _ (@aL _ _ _ _ _ (@aa _ _ _ _ _ ai ae rfl)) (@aa _ _ _ _ _ (@aL _ _ _ _ _ (@aa _ _ _ _ _ ai (@aa _ _ _ _ _ ai ae rfl) rfl)) (@aa _ _ _ _ _ (@aL _ _ _ _ _ (@aa _ _ _ _ _ (@ax _ _ _ _ _ _ _ _ fU ai ai) (@aa _ _ _ _ _ ai ae rfl) rfl)) ae rfl) rfl) rfl) rfl)) (bo qp (pv 4) bM (bC ai))) (az cLTake hr (by decide) rfl (@aa _ _ _ _ _ (pv 2) (@aa _ _ _ _ _ (@ax _ _ _ _ _ _ _ _ bB ai (ao (kR rfl) rfl B.b_min mS (@aa _ _ _ _ _ (ao aH rfl B.b_len bX (@aa _ _ _ _ _ (pv 4) ae rfl)) (@aa _ _ _ _ _ ai ae rfl) rfl))) ae rfl) rfl)) (λ_ _=>rfl)) rfl (by first | exact .inl rfl | exact .inr rfl | assumption))
    (@aj _ _ _ _ _ (@cp _ _ _ _ _ _ _ _ BW rfl (aX rfl B.b_range (@aa _ _ _ _ _ (az cLTake hr (by decide) rfl (@aa _ _ _ _ _ (pv 2) (@aa _ _ _ _ _ ai ae rfl) rfl)) ae rfl)) (aN (i:=8) fA.nd rfl (Or.inl rfl))
     (@ak _ _ _ (@aE _ _ 7 _ _ _ _ fA.nd rfl (Or.inl rfl) (az cLBent hr (by decide) rfl (@aa _ _ _ _ _ (pv 2) (@aa _ _ _ _ _ (pv 7) ae rfl) rfl)) rfl (by first | exact .inl rfl | exact .inr rfl | assumption))) (λ_=>rfl))
    (@aj _ _ _ _ _ (@aE _ _ 9 _ _ _ _ fA.nd rfl (Or.inl rfl) (az cIsRound hr (by decide) rfl (@aa _ _ _ _ _ (pv 3) (@aa _ _ _ _ _ (pv 7) ae rfl) rfl)) rfl (by first | exact .inl rfl | exact .inr rfl | assumption))
    (@aj _ _ _ _ _ (@bD _ _ _ _ _ _ _ _ (PW.pt (jg (eU (dO (ao cD rfl B.b_isinstance ay (@aa _ _ _ _ _ (pv 9) (@aa _ _ _ _ _ (fB (v :=.ty "bool") rfl B.b_bool xu rfl) ae rfl) rfl)))) (jb (aG xM (pv 9) (az cLIsRound hr (by decide) rfl (@aa _ _ _ _ _ (pv 3) (@aa _ _ _ _ _ (pv 7) ae rfl) rfl)) (aS _))))) cy aP)
    (@ak _ _ _ (@bD _ _ _ _ _ _ _ _ (PW.pt (jf (dO (pv 9)) (iZ (aG (wM hr) (az cRoundForm hr (by decide) rfl (@aa _ _ _ _ _ (pv 7) ae rfl)) (az cLForm hr (by decide) rfl (@aa _ _ _ _ _ (pv 7) ae rfl)) (aS _))))) cy aP)))))) (λ_=>rfl))),?_⟩
  intro D p b d kk fv m ts us H1 c6 c7 c8 c9 hp W m6 tl ed ndp tu lu lus nx
  refine ⟨12,rfl,by decide,by decide,bJ (n:=12) (λi σ H'=>∃(c6 c7 c8 c9:Option V),σ=[some (.ref a),some (.int kk),some (.ref p),some (.ref b),some (.ref d),fv,c6,c7,c8,c9]/\Bu 1 p H1 H') ⟨_,_,_,_,rfl,Bu.refl hp⟩ ?_ (λσ H' z=>nx _ _ ⟨_,_,_,_,_,_,_,_,_,z.choose_spec.choose_spec.choose_spec.choose_spec.1⟩ z.choose_spec.choose_spec.choose_spec.choose_spec.2)⟩
  rintro i σ H2 hi ⟨c6,c7,c8,c9,rfl,u2⟩
  have W2:=W.bu u2 hp
  have ed2:=u2.st _ _ ndp ed
  have tu2:=tu.bu u2 hp
  refine ⟨(by show 0<=AH;decide),λp0 h0 =>?_⟩
  try dsimp only
  have s0:=ag h0 (.tup [])
  have e0:upd H2 p0 (.tup []) p0=some (.tup []):=af
  generalize upd H2 p0 (.tup [])=O0 at s0 e0
  refine ⟨(by show 1<=AH;decide),λp1 h1 =>?_⟩
  try dsimp only
  have s1:=ag h1 (.tup [.int 0])
  have e1:upd O0 p1 (.tup [.int 0]) p1=some (.tup [.int 0]):=af
  generalize upd O0 p1 (.tup [.int 0])=O1 at s1 e1
  refine ⟨(by show 2<=AH;decide),λp2 h2 =>?_⟩
  try dsimp only
  have s2:=ag h2 (.tup [.int 0,.int 1])
  have e2:upd O1 p2 (.tup [.int 0,.int 1]) p2=some (.tup [.int 0,.int 1]):=af
  generalize upd O1 p2 (.tup [.int 0,.int 1])=O2 at s2 e2
  refine ⟨_,_,rfl,rfl,⟨by decide,by decide,by decide⟩,(by show 2<=AH;decide),λp3 h3 =>?_⟩
  try dsimp only
  have s3:=ag h3 (.tup [.int ((10:Int) ^ (30:Int).toNat),.int 0])
  have e3:upd O2 p3 (.tup [.int ((10:Int) ^ (30:Int).toNat),.int 0]) p3=some (.tup [.int ((10:Int) ^ (30:Int).toNat),.int 0]):=af
  generalize upd O2 p3 (.tup [.int ((10:Int) ^ (30:Int).toNat),.int 0])=O3 at s3 e3
  refine ⟨(by show 4<=AH;decide),λp4 h4 =>?_⟩
  try dsimp only
  have s4:=ag h4 (.lst [.ref p0,.ref p1,.ref p2,.ref p3])
  have e4:upd O3 p4 (.lst [.ref p0,.ref p1,.ref p2,.ref p3]) p4=some (.lst [.ref p0,.ref p1,.ref p2,.ref p3]):=af
  generalize upd O3 p4 (.lst [.ref p0,.ref p1,.ref p2,.ref p3])=O4 at s4 e4
  have sO:=s0.trans (s1.trans (s2.trans (s3.trans s4)))
  have f0:=(s4 _ _ (s3 _ _ (s2 _ _ (s1 _ _ e0))))
  have f1:=(s4 _ _ (s3 _ _ (s2 _ _ e1)))
  have f2:=(s4 _ _ (s3 _ _ e2))
  have f3:=(s4 _ _ e3)
  have uO:=u2.same sO
  refine ⟨_,rfl,200,rfl,d,_,rfl,SqL.of (sO _ _ ed2),λl4 hl4 =>?_⟩
  rw[show (some (200:Int))=some ((200:Nat):Int) from rfl,vN, <- DM]
  have g4:=ag hl4 (.lst ((us.take 200).map λu =>.ref u.1))
  have el4:upd O4 l4 (.lst ((us.take 200).map λu =>.ref u.1)) l4=some (.lst ((us.take 200).map λu =>.ref u.1)):=af
  have lus2:(us.take 200).length<=200:=by rw[Bz];exact Nat.min_le_left _ _
  have tT:Tus O4 (us.take 200):=λu hu=>sO _ _ (tu2 u (Ct hu))
  have tT:=tT.same g4
  have tC:Tus O4 [(p0,[]),(p1,[0]),(p2,[0,1]),(p3,[(10:Int) ^ (30:Int).toNat,0])]:=λu hu=>by
   rcases AU.mp hu with rfl | hu
   ·exact f0
   rcases AU.mp hu with rfl | hu
   ·exact f1
   rcases AU.mp hu with rfl | hu
   ·exact f2
   rw[AB] at hu;subst hu;exact f3
  have tC:=tC.same g4
  have e4':=g4 _ _ e4
  have u5:=uO.same g4
  have ed5:=g4 _ _ (sO _ _ ed2)
  generalize upd O4 l4 (.lst ((us.take 200).map λu =>.ref u.1))=H5 at g4 el4 tT tC e4' u5 ed5
  refine ⟨p4,l4,_,_,rfl,rfl,SqL.of e4',SqL.of el4,(by rw[Aq];exact small (by show 4+_<=_;omega)),λl5 hl5 =>?_⟩
  generalize hW:([(p0,[]),(p1,[0]),(p2,[0,1]),(p3,[(10:Int) ^ (30:Int).toNat,0])]:List (Addr×List Int))=CW at tC
  have eW:([.ref p0,.ref p1,.ref p2,.ref p3]:List V)++(us.take 200).map (λu=>V.ref u.1)=(CW++us.take 200).map λu=>V.ref u.1:=by rw[<- hW];rfl
  have lW:CW.length=4:=by rw[<- hW];rfl
  have wl:∀u∈CW,u.2.length<=40:=λu hu=>by
   rw[<- hW] at hu
   rcases AU.mp hu with rfl | hu
   ·exact Bl _
   rcases AU.mp hu with rfl | hu
   ·show 1<=40;decide
   rcases AU.mp hu with rfl | hu
   ·show 2<=40;decide
   rw[AB] at hu;subst hu;show 2<=40;decide
  rw[eW]
  have g5:=ag hl5 (.lst ((CW++us.take 200).map λu =>.ref u.1))
  have el5:upd H5 l5 (.lst ((CW++us.take 200).map λu =>.ref u.1)) l5=some (.lst ((CW++us.take 200).map λu =>.ref u.1)):=af
  have tA:Tus H5 (CW++us.take 200):=λu hu=>(AI.mp hu).elim (tC u) (tT u)
  have tA:=tA.same g5
  have u6:=u5.same g5
  have ed6:=g5 _ _ ed5
  have nl5:l5≠p:=u5.pot.ne hl5
  generalize upd H5 l5 (.lst ((CW++us.take 200).map λu =>.ref u.1))=H6 at g5 el5 tA u6 ed6
  have lu':(us.map λu=>V.ref u.1).length=us.length:=Aq _
  refine ⟨_,rfl,_,rfl,d,_,rfl,.inl (SqL.of ed6),_,_,rfl,_,_,rfl,rfl,?_⟩
  rw[lu']
  obtain ⟨M,hM,hM2⟩:∃M:Nat,(4+(if (200:Int)<(us.length:Int) then (200:Int) else (us.length:Int)))=(M:Int)/\M=(CW++us.take 200).length:=by
   refine ⟨_,?_,rfl⟩
   rw[As,lW,Bz]
   split <;> omega
  refine aF.mpr ⟨p,(M:Int),by rw[<- hM];rfl,u6.pot,by omega,by rw[hM2,As,Bz] at *;omega,λdx H7 x0 x1 u7' =>?_⟩
  have u7:=u6.trans u7'
  have el7:=u7'.st _ _ nl5 el5
  have tA7:=tA.bu u7' u6.pot
  have W7:=W.bu u7 hp
  obtain ⟨uu,muu,atu⟩:=wQ (g:=λt:Addr×List Int=>t.1) (ts:=CW++us.take 200) x0 (by rw[<- hM2];exact x1)
  have luu:uu.2.length<=40:=(AI.mp muu).elim (wl uu) λz=>lus uu (Ct z)
  refine ⟨l5,_,dx,_,rfl,rfl,SqL.of el7,atu,?_⟩
  refine ⟨_,rfl,aF.mpr ⟨p,3,rfl,u7.pot,by decide,by decide,λd3 H8 y0 y1 u8' =>?_⟩⟩
  have u8:=u7.trans u8'
  refine ⟨d3,rfl,by omega,by omega,bJ (λj σ H'=>∃(pl:Addr) (Z:List Int) (c8 c9:Option V),σ=[some (.ref a),some (.int kk),some (.ref p),some (.ref b),some (.ref d),fv,some (.int (0+(i:Int))),some (.ref pl),c8,c9]/\Bu 1 p H1 H'/\H' pl=some (.tup (Z.map V.int))/\Z.length<=40+j) ⟨uu.1,uu.2,_,_,rfl,u8,u8'.tup u7.pot (tA7 uu muu),luu⟩ ?_ ?_⟩
  ·rintro j σ H9 hj ⟨pl,Z,c8,c9,rfl,u9,ez,lz⟩
   refine ⟨_,rfl,_,rfl,gr.mpr ⟨p,pl,Z,rfl,u9.pot,ez,by omega,λpb Zb Ha ua eb lb =>?_⟩⟩
   exact ⟨pb,Zb,_,_,rfl,u9.trans ua,eb,by omega⟩
  rintro σ H9 ⟨pl,Z,c8,c9,rfl,u9,ez,lz⟩
  have W9:=W.bu u9 hp
  have lz:Z.length<=42:=by omega
  refine ⟨_,rfl,_,rfl,gj.mpr ⟨b,pl,m,ts,Z,rfl,W9,ez,by omega,λHa sa =>?_⟩⟩
  refine ⟨_,rfl,.bl _, "bool",_,true,rfl,.bl _,rfl,_,rfl,cw ⟨_,rfl,?_⟩⟩
  refine ⟨_,rfl,_,rfl,iD.mpr ⟨b,pl,m,ts,Z,rfl,W9.same sa,sa _ _ ez,by omega,λb2 Hb sb hb2 =>?_⟩⟩
  have eb:decide (Rd (ts.map (·.2)) Z)=b2:=by rw[Co,hb2,decide_eq_true_iff]
  subst eb
  refine ⟨rfl,_,rfl,zR rfl ?_⟩
  have sab:=sa.trans sb
  have ezb:=sab _ _ ez
  have ub:=u9.same sab
  refine ⟨_,rfl,decide (Rd (ts.map (·.2)) Z),rfl,?_⟩
  dsimp only
  by_cases c:Rd (ts.map (·.2)) Z
  ·rw[decide_eq_true c]
   refine cx ⟨_,rfl,j8.mpr ⟨pl,Z,rfl,ezb,c.1,by omega,λz1 Hc M1 sc m1 n1 e1 =>?_⟩⟩
   refine ⟨_,rfl,fu.mpr ⟨pl,Z,rfl,sc _ _ ezb,c.1,by omega,λz2 Hd M2 sd m2 n2 e2 =>?_⟩⟩
   have:M1=M2:=xJ m1 m2 n1 n2
   subst this
   exact ⟨z1,z2,_,_,rfl,rfl,SqT.of (sd _ _ e1),SqT.of e2,_,rfl,by rw[decide_eq_true rfl];exact cw ⟨_,_,_,_,rfl,ub.same (sc.trans sd)⟩⟩
  ·rw[decide_eq_false c]
   exact cw ⟨_,_,_,_,rfl,ub⟩
 obtain ⟨tD,pD,gD⟩:=TD
 refine ⟨_,(@aj _ _ _ _ _ (@cp _ _ _ _ _ _ _ _ BW rfl (aX rfl B.b_range (@aa _ _ _ _ _ (ao (rF rfl) rfl B.b_max zh (@aa _ _ _ _ _ ai (@aa _ _ _ _ _ (ao (kR rfl) rfl B.b_min mS (@aa _ _ _ _ _ (ao aH rfl B.b_len bX (@aa _ _ _ _ _ (pv 0) ae rfl)) (@aa _ _ _ _ _ ai ae rfl) rfl)) ae rfl) rfl)) ae rfl)) (aN (i:=1) fA.nd rfl (Or.inl rfl))
   (@aj _ _ _ _ _ (@aE _ _ 2 _ _ _ _ fA.nd rfl (Or.inl rfl) (az cLDeal hr (by decide) rfl (@aa _ _ _ _ _ (pv 0) (@aa _ _ _ _ _ (pv 1) ae rfl) rfl)) rfl (by first | exact .inl rfl | exact .inr rfl | assumption))
   (@aj _ _ _ _ _ (@aE _ _ 3 _ _ _ _ fA.nd rfl (Or.inl rfl) (az cLDrawn hr (by decide) rfl (@aa _ _ _ _ _ (pv 2) ae rfl)) rfl (by first | exact .inl rfl | exact .inr rfl | assumption))
   (@aj _ _ _ _ _ (@aE _ _ 4 _ _ _ _ fA.nd rfl (Or.inl rfl) (az cLAll hr (by decide) rfl (@aa _ _ _ _ _ (pv 3) ae rfl)) rfl (by first | exact .inl rfl | exact .inr rfl | assumption))
   (@aj _ _ _ _ _ (@aE _ _ 5 _ _ _ _ fA.nd rfl (Or.inl rfl) (az cLHeard hr (by decide) rfl (@aa _ _ _ _ _ (pv 3) ae rfl)) rfl (by first | exact .inl rfl | exact .inr rfl | assumption))
   (@aj _ _ _ _ _ (@bD _ _ _ _ _ _ _ _ (eU (dO (az cLGreatRight hr (by decide) rfl (@aa _ _ _ _ _ (@ax _ _ _ _ _ _ _ _ dQ (@ax _ _ _ _ _ _ _ _ bB (pv 1) (az cLTake hr (by decide) rfl (@aa _ _ _ _ _ (pv 2) (@aa _ _ _ _ _ ai ae rfl) rfl))) ai) (@aa _ _ _ _ _ (pv 2) ae rfl) rfl)))) cy aP)
   (@aj _ _ _ _ _ (@bD _ _ _ _ _ _ _ _ (aG nD (ao aH rfl B.b_len bX (@aa _ _ _ _ _ (pv 4) ae rfl)) ai (aS _)) (@ak _ _ _ (@bD _ _ _ _ _ _ _ _ (eU (dO (az cLAlone hr (by decide) rfl (@aa _ _ _ _ _ (pv 5) (@aa _ _ _ _ _ ai ae rfl) rfl)))) cy aP)) (@ak _ _ _ (@bD _ _ _ _ _ _ _ _ (PW.pt (jg (eU (dO (ao cD rfl B.b_isinstance ay (@aa _ _ _ _ _ (pv 5) (@aa _ _ _ _ _ (fB (v :=.ty "list") rfl B.b_list qS rfl) ae rfl) rfl)))) (jg (aG (qN hr) (pv 5) (pv 4) (aS _)) (jb (eU (dO (ao (jz rfl) rfl B.b_all p6 (@aa _ _ _ _ _ (dg ["one"] [none] rfl (@gx _ _ _ _ (pv 5)) rfl (λ_ _ _ _ _=>(aN (i:=0) tH rfl (Or.inl rfl))) (λ_ _ _ _ _=>dW) (λ_ _ _ _ _=>(ao (mI (K:=K)) rfl B.b_isinstance ay (@aa _ _ _ _ _ (pv 0) (@aa _ _ _ _ _ (fB (v :=.ty "tuple") rfl B.b_tuple cc rfl) ae rfl) rfl)))) ae rfl)))))))) cy (@aj _ _ _ _ _ (bQ (eN Bo B4 B5 cz (pv 5) (@aa _ _ _ _ _ (@aL _ _ _ _ _ ae) ae rfl)))
     (@ak _ _ _ (@bD _ _ _ _ _ _ _ _ (PW.pt (jf (aG qj (ao aH rfl B.b_len bX (@aa _ _ _ _ _ (pv 4) ae rfl)) ai (aS _)) (iZ (aG (qN hr) (az cAllRounds hr (by decide) rfl (@aa _ _ _ _ _ (pv 3) ae rfl)) (pv 4) (aS _))))) cy aP))))))
   pD)))))) (λ_=>rfl))
  (@ak _ _ _ (@aJ _ _ _ _ nz))),?_⟩
 refine ⟨_,rfl,a,_,rfl,.inl hS,_,_,rfl,_,_,rfl,?_⟩
 obtain ⟨N,hN,N0,N1⟩:∃N:Int,(if (if (3:Int)<((ns.map V.int).length:Int) then (3:Int) else ((ns.map V.int).length:Int))>2 then (if (3:Int)<((ns.map V.int).length:Int) then (3:Int) else ((ns.map V.int).length:Int)) else 2)=N/\0<=N/\N<=63:=⟨_,rfl,by split <;> (try split) <;> omega,by rw[Aq];split <;> (try split) <;> omega⟩
 rw[hN]
 refine ⟨N,rfl,by omega,by omega,bJ (λ_ σ H'=>(∃c1 c2 c3 c4 c5 c6 c7 c8 c9,σ=[some (.ref a),c1,c2,c3,c4,c5,c6,c7,c8,c9])/\aD H H') ⟨⟨_,_,_,_,_,_,_,_,_,rfl⟩,aD.refl _⟩ ?_ (λσ H' _=>q _)⟩
 rintro k σ H0 hk ⟨⟨c1,c2,c3,c4,c5,c6,c7,c8,c9,rfl⟩,s0⟩
 refine ⟨_,rfl,_,rfl,fZ.mpr ⟨a,ns,0+(k:Int),rfl,s0.seq hS,by omega,by omega,λx p hp =>?_⟩⟩
 have p0:Pt 1 (upd H0 p (.lst [.int x])) p:=⟨[x],rfl,af⟩
 have b0:=Bu.refl p0
 have fr:∀{Hx:Hp},Bu 1 p (upd H0 p (.lst [.int x])) Hx->aD H0 Hx:=λu=>Bu.fresh hp u
 generalize upd H0 p (.lst [.int x])=Hs at p0 b0 fr
 refine ⟨_,rfl,fq.mpr ⟨p,rfl,p0,λb m ts H3 b3 W3 m6 tl nd =>?_⟩⟩
 refine ⟨_,rfl,gm.mpr ⟨b,m,ts,rfl,W3,m6,tl,nd,λd us H4 s4 hd0 ed tu pm so =>?_⟩⟩
 have W4:=W3.same s4
 have b4:=b3.same s4
 have rE:=Rg.rgE W3.rng
 have lu:us.length<=300000:=by
  have:=pm.length_eq
  rw[Aq,Aq] at this
  rw[this];exact hU (kg rE nd m6) m6
 have lud:us.length=(rounds (aW (ts.map (·.2))) m).length:=by have:=pm.length_eq;rwa [Aq,Aq] at this
 have lus:∀u∈us,u.2.length<=40:=λu hu=>by
  obtain ⟨r,hr,e⟩:=A6.mp (pm.mem_iff.mp (Cm hu))
  have:=qe (λp q h=>(cT rE h).2) r hr
  show u.2.length<=40
  rw[<- e,cM];omega
 have ndp:d≠p:=b3.pot.ne hd0
 have fin:∀(σ':St) (H':Hp),(∃c1 c2 c3 c4 c5 c6 c7 c8 c9,σ'=[some (.ref a),c1,c2,c3,c4,c5,c6,c7,c8,c9])->aD H0 H'->(∃c1 c2 c3 c4 c5 c6 c7 c8 c9,σ'=[some (.ref a),c1,c2,c3,c4,c5,c6,c7,c8,c9])/\aD H H':=λ_ _ h1 h2=>⟨h1,s0.trans h2⟩
 have lm:(us.map λu=>V.ref u.1).length=us.length:=Aq _
 refine ⟨_,rfl,cJ.mpr ⟨b,m,ts,rfl,W4,by omega,by omega,nd,λbig ea H5 s5 eea =>?_,λsml l us2 H5 s5 hl0 el tu2 pm2 so2 =>?_⟩⟩
 ·have u5:=b4.same s5
  have ed5:=s5 _ _ ed
  refine ⟨_,rfl,_,rfl,aF.mpr ⟨p,3,rfl,u5.pot,by decide,by decide,λd3 H6 x0 x1 u6'=>⟨_,_,rfl,rfl,_,_,rfl,rfl,(by show (0:Int)<3;decide),_,rfl,?_⟩⟩⟩
  have u6:=u5.trans u6'
  have hm0:=Ej ((0:Int)+(k:Int)+d3) (b:=3) (by decide)
  have hm1:=Dz ((0:Int)+(k:Int)+d3) (b:=3) (by decide)
  obtain ⟨wv,hwv⟩:∃wv:Nat,((0:Int)+(k:Int)+d3)%3=(wv:Int):=⟨(((0:Int)+(k:Int)+d3)%3).toNat,by omega⟩
  have eea6:=u6'.st _ _ (λz=>by
   obtain ⟨_,_,e⟩:=u5.pot
   rw[z,e] at eea;cases eea) eea
  refine du.mpr ⟨wv,p,congrArg (λx=>[V.int x,V.ref p]) hwv,by omega,u6.pot,λH7 u7'=>⟨_,rfl,cw ?_⟩⟩
  have u7:=u6.trans u7'
  have eea7:=u7'.st _ _ (λz=>by
   obtain ⟨_,_,e⟩:=u6.pot
   rw[z,e] at eea6;cases eea6) eea6
  have ed7:=u7'.st _ _ ndp (u6'.st _ _ ndp ed5)
  refine ⟨_,rfl,d,_,rfl,.inl (SqL.of ed7),_,_,rfl,rfl,_,rfl,?_⟩
  rw[lm,decide_eq_true (show (us.length:Int)>300 by omega)]
  refine cx ⟨_,rfl,cI.mpr ⟨ea,c_TooMany,none,1,1,rfl,eea7,zu Z,rfl,λH8 s8=>⟨_,rfl,cw ?_⟩⟩⟩
  have u8:=u7.same s8
  have s45:Bu 1 p H4 H8:=((Bu.refl b4.pot).same s5).trans (u6'.trans (u7'.same s8))
  exact gD _ p b d _ (some (.ref ea)) m ts us H8 _ _ _ _ u8.pot (W4.bu s45 b4.pot) m6 tl (s45.st _ _ ndp ed) ndp (tu.bu s45 b4.pot) lu lus λσ' H' hσ u=>fin σ' H' hσ (fr (u8.trans u))
 ·have nlp:l≠p:=b4.pot.ne hl0
  have nld:d≠l:=av ed hl0
  have u5:=b4.same s5
  have ed5:=s5 _ _ ed
  refine ⟨_,rfl,_,rfl,aF.mpr ⟨p,3,rfl,u5.pot,by decide,by decide,λd3 H6 x0 x1 u6'=>⟨_,_,rfl,rfl,_,_,rfl,rfl,(by show (0:Int)<3;decide),_,rfl,?_⟩⟩⟩
  have u6:=u5.trans u6'
  have hm0:=Ej ((0:Int)+(k:Int)+d3) (b:=3) (by decide)
  have hm1:=Dz ((0:Int)+(k:Int)+d3) (b:=3) (by decide)
  obtain ⟨wv,hwv⟩:∃wv:Nat,((0:Int)+(k:Int)+d3)%3=(wv:Int):=⟨(((0:Int)+(k:Int)+d3)%3).toNat,by omega⟩
  refine du.mpr ⟨wv,p,congrArg (λx=>[V.int x,V.ref p]) hwv,by omega,u6.pot,λH7 u7'=>⟨_,rfl,cw ?_⟩⟩
  have s57:=u6'.trans u7'
  have s47:Bu 1 p H4 H7:=((Bu.refl b4.pot).same s5).trans s57
  have u7:=b4.trans s47
  have el7:=s57.st _ _ nlp el
  have ed7:=s47.st _ _ ndp ed
  have tu7:=tu.bu s47 b4.pot
  have tu27:=tu2.bu s57 u5.pot
  have W7:=W4.bu s47 b4.pot
  refine ⟨_,rfl,d,_,rfl,.inl (SqL.of ed7),_,_,rfl,rfl,_,rfl,?_⟩
  rw[lm,decide_eq_false (show ¬ (us.length:Int)>300 by omega)]
  have eqq:us2.map (·.2)=us.map (·.2):=cX (pm2.trans pm.symm) so2 so
  have lu2:us2.length=us.length:=by have:=congrArg List.length eqq;rwa [Aq,Aq] at this
  refine cw ⟨_,rfl,.ref l, "list",_,true,rfl,.lst el7,rfl,_,rfl,cw ⟨_,rfl,_,rfl,l,d,us2,us,rfl,rfl,el7,ed7,tu27,tu7,_,rfl,?_⟩⟩
  rw[decide_eq_true eqq]
  refine cw ⟨_,rfl,l,rfl,⟨_,SqL.of el7⟩,jy (xs:=us2.map λu =>.ref u.1) (λi ys H'=>H'=H7/\ys=(DW i true).map V.bl) ⟨rfl,rfl⟩ (by rw[Aq];exact small (by omega)) (λi ys H' _ k=>by rw[k.1];exact SqL.of el7) ?_ ?_⟩
  ·rintro i x ys H8 hx hy ⟨eH,rfl⟩ R1 R0 r1 r0
   obtain ⟨u,hu,rfl⟩:=qL hx
   rw[eH]
   refine cx ⟨_,rfl,.ref u.1, "tuple",_,true,rfl,.tup (tu27 u (A0 hu)),rfl,r1 _ _ ⟨rfl,?_⟩⟩
   rw[List.replicate_succ',AA];rfl
  rintro ys H8 hy ⟨eH,rfl⟩ lb hlb
  rw[eH] at hlb ⊢
  have g8:=ag hlb (.lst ((DW (us2.map λu=>V.ref u.1).length true).map V.bl))
  refine ⟨lb,_,rfl,SqL.of af,?_⟩
  rw[show (DW (us2.map λu=>V.ref u.1).length true).all id=true from BF.mpr λx hx=>(List.eq_of_mem_replicate hx)]
  generalize upd H7 lb (.lst ((DW (us2.map λu=>V.ref u.1).length true).map V.bl))=H8' at g8
  refine ⟨_,rfl,cw ?_⟩
  have el8:=g8 _ _ el7
  have ed8:=g8 _ _ ed7
  refine ⟨_,rfl,.inl ⟨rfl,_,SqL.of el8⟩,(by show 0<=AH;decide),λt ht =>?_⟩
  have g9:=ag ht (.tup [])
  have el9:=g9 _ _ el8
  have u9:=(u7.same g8).same g9
  have s49:=(s47.same g8).same g9
  generalize upd H8' t (.tup [])=H9 at g9 el9 u9 s49
  refine ⟨l,_,_,rfl,rfl,el9,(by rw[Aq];exact ck (by omega)),?_⟩
  have hls:Hs l=none:=mX b4 hl0
  have uA:=u9.eC hls nlp (.lst ((us2.map λu=>V.ref u.1)++[.ref t]))
  have sA:=s49.eC hl0 nlp (.lst ((us2.map λu=>V.ref u.1)++[.ref t]))
  generalize upd H9 l (.lst ((us2.map λu=>V.ref u.1)++[.ref t]))=HA at uA sA
  have edA:=sA.st _ _ ndp ed
  have tuA:=tu.bu sA b4.pot
  have WA:=W4.bu sA b4.pot
  have hpS:=b4.pot
  refine ⟨_,rfl,d,_,rfl,.inl (SqL.of edA),_,_,rfl,rfl,_,rfl,gG (λz =>?_) λz =>?_⟩
  ·refine ⟨_,rfl,gn.mpr ⟨b,m,ts,rfl,WA,by omega,by omega,nd,sml,λl3 us3 HB sB _ el3 tu3 pm3 so3 =>?_⟩⟩
   have eq3:us3.map (·.2)=us.map (·.2):=cX (pm3.trans pm.symm) so3 so
   refine ⟨_,rfl,l3,d,us3,us,rfl,rfl,el3,sB _ _ edA,tu3,tuA.same sB,_,rfl,?_⟩
   rw[decide_eq_true eq3]
   have uB:=uA.same sB
   have sAB:=sA.same sB
   exact cw (gD _ p b d _ (some (.ref l)) m ts us HB _ _ _ _ uB.pot (W4.bu sAB hpS) m6 tl (sAB.st _ _ ndp ed) ndp (tu.bu sAB hpS) lu lus λσ' H' hσ u=>fin σ' H' hσ (fr (uB.trans u)))
  ·exact gD _ p b d _ (some (.ref l)) m ts us HA _ _ _ _ uA.pot WA m6 tl edA ndp tuA lu lus λσ' H' hσ u=>fin σ' H' hσ (fr (uA.trans u))
end
end K56
set_option maxHeartbeats 800000
namespace K56
open PySem L2
theorem all_mk {l:PySem.W.OpenLaw}{w:Bh}{K:Av}{h:Heap}{mg:Str->Option Au}{fa:Addr}(X:K.In h)(G:h.Ns A9 mg)(hfa:mg "law" = some (.ref fa))
  (h1:bN K "out_lists" iw) (h2:bN K "in_lists" jS) (h3:bN K "turned_arrows" dA) (h4:bN K "round_arrows" eF) (h5:bN K "is_round" jT) (h6:bN K "round_form" fX) (h7:bN K "leading_back" cS) (h8:bN K "go_round" gW) (h9:bN K "all_rounds" fY) (h10:bN K "_law_deal" jU) (h11:bN K "_law_take" pX) (h12:bN K "_law_one_way" jV) (h13:bN K "_law_is_round" iy) (h14:bN K "_law_form" pY) (h15:bN K "_law_alone" mM) (h16:bN K "_law_drawn" mO) (h17:bN K "_law_paths" mP) (h18:bN K "_law_all" vn) (h19:bN K "_law_layers_right" dB) (h20:bN K "_law_block" mQ) (h21:bN K "_law_great_right" eG) (h22:bN K "_law_heard" mR) (h23:bN K "_law_bent" pZ) (h24:bN K "law" ou)
  (y_all:Bm K A9 "all" = some none) (y_bool:Bm K A9 "bool" = some none) (y_enumerate:Bm K A9 "enumerate" = some none) (y_int:Bm K A9 "int" = some none) (y_isinstance:Bm K A9 "isinstance" = some none) (y_len:Bm K A9 "len" = some none) (y_list:Bm K A9 "list" = some none) (y_max:Bm K A9 "max" = some none) (y_min:Bm K A9 "min" = some none) (y_range:Bm K A9 "range" = some none) (y_set:Bm K A9 "set" = some none) (y_sorted:Bm K A9 "sorted" = some none) (y_tuple:Bm K A9 "tuple" = some none) (y_ValueError:Bm K A9 "ValueError" = some none)
  {t_MOST_ROUNDS:Nat} (q_MOST_ROUNDS:Bm K A9 "MOST_ROUNDS" = some (some (.int 300 t_MOST_ROUNDS)))
  {c_WebError:Addr} (e_WebError:Bm K A9 "WebError" = some (some (.ref c_WebError)))
  {c_BadWeb:Addr} (e_BadWeb:Bm K A9 "BadWeb" = some (some (.ref c_BadWeb)))
  {c_NoStep:Addr} (e_NoStep:Bm K A9 "NoStep" = some (some (.ref c_NoStep)))
  {c_NoText:Addr} (e_NoText:Bm K A9 "NoText" = some (some (.ref c_NoText)))
  {c_TooMany:Addr} (e_TooMany:Bm K A9 "TooMany" = some (some (.ref c_TooMany)))
  {c_NoTie:Addr} (e_NoTie:Bm K A9 "NoTie" = some (some (.ref c_NoTie)))
  {c_NoRing:Addr} (e_NoRing:Bm K A9 "NoRing" = some (some (.ref c_NoRing)))
  {c_NotClear:Addr} (e_NotClear:Bm K A9 "NotClear" = some (some (.ref c_NotClear)))
  {c_NotThree:Addr} (e_NotThree:Bm K A9 "NotThree" = some (some (.ref c_NotThree)))
  {c_BadBoard:Addr} (e_BadBoard:Bm K A9 "BadBoard" = some (some (.ref c_BadBoard)))
  {c_NoRow:Addr} (e_NoRow:Bm K A9 "NoRow" = some (some (.ref c_NoRow)))
  {c_NoBack:Addr} (e_NoBack:Bm K A9 "NoBack" = some (some (.ref c_NoBack)))
  (xi_TooMany:L2.w9 K c_TooMany=true)
  (xe_TooMany:PySem.W.excIn K c_TooMany L2.u0 "ValueError.__new__" = true)
  (kt:vp K [c_BadWeb,c_NoStep,c_NoText,c_TooMany,c_NoTie,c_NoRing,c_NotClear,c_NotThree,c_BadBoard,c_NoRow,c_NoBack] c_WebError=true)
  (xm_TooMany:PySem.W.exmOne K (.ref c_TooMany) (.ref c_WebError)=some true)
  : ∃fd:BJ,(∀(s:Ax) (v:Au),BindsTo s fd ⟨[v],[]⟩ [("script",v)])/\∀base:Heap,K.In base->base.Ns A9 mg->bE l.prog w K mg base CX0 46 fa fd ["script"] (oP K):=by
 obtain ⟨fl,od,an,sl,oc,kV,dc,pm,cd,ct,al,ll,cl,kl⟩:=h24
 have e:=hfa.symm.trans (BM X G al)
 cases e
 have F24:=jt ll cl kl
 have z_all:=BH X G y_all
 have z_bool:=BH X G y_bool
 have z_enumerate:=BH X G y_enumerate
 have z_int:=BH X G y_int
 have z_isinstance:=BH X G y_isinstance
 have z_len:=BH X G y_len
 have z_list:=BH X G y_list
 have z_max:=BH X G y_max
 have z_min:=BH X G y_min
 have z_range:=BH X G y_range
 have z_set:=BH X G y_set
 have z_sorted:=BH X G y_sorted
 have z_tuple:=BH X G y_tuple
 have z_ValueError:=BH X G y_ValueError
 have w_MOST_ROUNDS:=BM X G q_MOST_ROUNDS
 refine ⟨PySem.W.fnOf "law" "law" (cu ou) (bG ou) (au ou) .none kV dc pm an cd ct,λs v =>.of_eq rfl,λbase kb nb =>?_⟩
 have B:Blt mg:=⟨z_all,z_bool,z_enumerate,z_int,z_isinstance,z_len,z_list,z_max,z_min,z_range,z_set,z_sorted,z_tuple,z_ValueError⟩
 have C:Cst mg:=⟨⟨_,w_MOST_ROUNDS⟩⟩
 have x_WebError:=BM X G e_WebError
 have x_BadWeb:=BM X G e_BadWeb
 have x_NoStep:=BM X G e_NoStep
 have x_NoText:=BM X G e_NoText
 have x_TooMany:=BM X G e_TooMany
 have x_NoTie:=BM X G e_NoTie
 have x_NoRing:=BM X G e_NoRing
 have x_NotClear:=BM X G e_NotClear
 have x_NotThree:=BM X G e_NotThree
 have x_BadBoard:=BM X G e_BadBoard
 have x_NoRow:=BM X G e_NoRow
 have x_NoBack:=BM X G e_NoBack
 have Z:Exs K mg c_WebError c_BadWeb c_NoStep c_NoText c_TooMany c_NoTie c_NoRing c_NotClear c_NotThree c_BadBoard c_NoRow c_NoBack:=⟨x_WebError,x_BadWeb,x_NoStep,x_NoText,x_TooMany,x_NoTie,x_NoRing,x_NotClear,x_NotThree,x_BadBoard,x_NoRow,x_NoBack,xi_TooMany,xe_TooMany,kt,xm_TooMany⟩
 have cLDeal:=h10.cal l.prog w base X G (λF=>xv F B C) λ_ _ _ _ _ _ us hl=>match us,hl with | [_,_],_=>rfl
 have cLTake:=h11.cal l.prog w base X G (λF=>xw F B C) λ_ _ _ _ _ _ us hl=>match us,hl with | [_,_],_=>rfl
 have cLOneWay:=h12.cal l.prog w base X G (λF=>tq F B cLTake C) λ_ _ _ _ _ _ us hl=>match us,hl with | [_,_,_],_=>rfl
 have cLDrawn:=h16.cal l.prog w base X G (λF=>vD F B cLTake cLOneWay C) λ_ _ _ _ _ _ us hl=>match us,hl with | [_],_=>rfl
 have cLPaths:=h17.zf l.prog w base X G 0 (λ_ _ _ _=>qd) (λn c=>λF=>vF F B n c C) (λ_ _ _ _ _ _ us hl=>match us,hl with | [_,_],_=>rfl) 7
 have cLAll:=h18.cal l.prog w base X G (λF=>zq F B cLPaths C) λ_ _ _ _ _ _ us hl=>match us,hl with | [_],_=>rfl
 have cOutLists:=h1.cal l.prog w base X G (λF=>p8 F B C) λ_ _ _ _ _ _ us hl=>match us,hl with | [_],_=>rfl
 have cTurnedArrows:=h3.cal l.prog w base X G (λF=>jX F B C) λ_ _ _ _ _ _ us hl=>match us,hl with | [_],_=>rfl
 have cInLists:=h2.cal l.prog w base X G (λF=>sW F B cOutLists cTurnedArrows C) λ_ _ _ _ _ _ us hl=>match us,hl with | [_],_=>rfl
 have cLeadingBack:=h7.cal l.prog w base X G (λF=>kK F B C) λ_ _ _ _ _ _ us hl=>match us,hl with | [_,_],_=>rfl
 have xGo:=h8.y9 l.prog w base X G 1 (λ_ _ _ _=>xB) (λn c=>λF=>sZ F B n c Z cLeadingBack C) (λ_ _ _ _ _ _ us hl=>match us,hl with | [_,_,_,_],_=>rfl) 41
 have xAll:=h9.Ag l.prog w base X G (λF=>oF F B Z xGo cOutLists cInLists C) λ_ _ _ _ _ _ us hl=>match us,hl with | [_],_=>rfl
 have cAllRounds:=xAll.calm (sp':=iH) λ_ _ _ _ h=>tE h
 have cLHeard:=h22.cal l.prog w base X G (λF=>vJ F B Z xAll C) λ_ _ _ _ _ _ us hl=>match us,hl with | [_],_=>rfl
 have cLLayersRight:=h19.cal l.prog w base X G (λF=>kq F B cAllRounds C) λ_ _ _ _ _ _ us hl=>match us,hl with | [_],_=>rfl
 have cLAlone:=h15.cal l.prog w base X G (λF=>vI F B Z C) λ_ _ _ _ _ _ us hl=>match us,hl with | [_,_],_=>rfl
 have cLBlock:=h20.cal l.prog w base X G (λF=>vH F B C) λ_ _ _ _ _ _ us hl=>match us,hl with | [_,_],_=>rfl
 have cLGreatRight:=h21.cal l.prog w base X G (λF=>kO F B Z cLHeard cLLayersRight cLAlone cLTake cLBlock C) λ_ _ _ _ _ _ us hl=>match us,hl with | [_,_],_=>rfl
 have cRoundArrows:=h4.cal l.prog w base X G (λF=>kN F B C) λ_ _ _ _ _ _ us hl=>match us,hl with | [_],_=>rfl
 have cIsRound:=h5.cal l.prog w base X G (λF=>tj F B cRoundArrows C) λ_ _ _ _ _ _ us hl=>match us,hl with | [_,_],_=>rfl
 have cLBent:=h23.cal l.prog w base X G (λF=>xI F B cLTake C) λ_ _ _ _ _ _ us hl=>match us,hl with | [_,_],_=>rfl
 have cLIsRound:=h13.cal l.prog w base X G (λF=>qc F B C) λ_ _ _ _ _ _ us hl=>match us,hl with | [_,_],_=>rfl
 have cRoundForm:=h6.cal l.prog w base X G (λF=>oG F B C) λ_ _ _ _ _ _ us hl=>match us,hl with | [_],_=>rfl
 have cLForm:=h14.cal l.prog w base X G (λF=>xG F B C) λ_ _ _ _ _ _ us hl=>match us,hl with | [_],_=>rfl
 exact Ap F24 B Z cLDeal cLDrawn cLAll cLHeard cLGreatRight cIsRound cLAlone cLTake cLBent cLIsRound cRoundForm cLForm cAllRounds C
theorem walk {l:PySem.W.OpenLaw}{q:AN}{loose:List Str}{XP:(Str->Option Au)->Heap->Prop}{YP:Bh->Heap->Prop}{d:DefRec}{K:Params->Av}(hn:l.most=some 63)(hdf:d.params.defaults=[])
  (hY:∀(w:Bh) (h:Heap),YP w h->(K w.params).In h)
  (F:∀(w:Bh) (mg:Str->Option Au) (fa:Addr) (h:Heap),(K w.params).In h->h.Ns A9 mg->mg d.name=some (.ref fa) →
   ∃fd:BJ,(∀(s:Ax) (u:Au),BindsTo s fd ⟨[u],[]⟩ [("script",u)])/\∀base:Heap,(K w.params).In base->base.Ns A9 mg->bE l.prog w (K w.params) mg base CX0 46 fa fd ["script"] (oP (K w.params))) :
  PySem.W.WalkO q loose XP YP l.row.toRowW d [] (λf vs=>PySem.call f vs) :=
 L2.v7 (n:=63) (k:=46) (x := "script") (CX:=λ_=>CX0) (sp:=λw=>oP (K w.params)) hn (by decide) hdf ⟨rfl,by decide,by decide⟩ hY F (λ_ _ a ns hl _ hS=>⟨a,ns,rfl,hS,hl,λ_=>rfl⟩) λ_ _ _ _ _ z=>z
end K56
def PySem.W.Fast.tw332377533648507954:Nat:=0
def PySem.W.Fast.tw1107052114211749094:Nat:=0
def PySem.W.Fast.tw12034755475242410748:Nat:=0
def PySem.W.Fast.tw3690798109111858704:Nat:=0
def PySem.W.Fast.tw12782329239017152418:Nat:=0
def PySem.W.Fast.tw14088133164953634428:Nat:=0
def PySem.W.Fast.tw14475116724702693220:Nat:=0
def PySem.W.Fast.tw15203158118660732843:Nat:=0
def PySem.W.Fast.tw16414587570293954198:Nat:=0
def PySem.W.Fast.tw7199352630949214438:Nat:=0
def PySem.W.Fast.tw5143916506997852315:Nat:=0
def PySem.W.Fast.tw10780504140852372352:Nat:=0
def PySem.W.Fast.tw15053094308972269291:Nat:=0
def PySem.W.Fast.tw17837960562251838648:Nat:=0
def PySem.W.Fast.tw15259789678360049811:Nat:=0
def PySem.W.Fast.tw16882914592698254958:Nat:=0
def PySem.W.Fast.tw13429959902613172651:Nat:=0
def PySem.W.Fast.tw3988082947987548968:Nat:=0
def PySem.W.Fast.tw14409561916272554757:Nat:=0
def PySem.W.Fast.tw15123086885395688817:Nat:=0
def PySem.W.Fast.tw2632922214269884458:Nat:=0
def PySem.W.Fast.tw13442819818482392860:Nat:=0
def PySem.W.Fast.tw4899747347046987526:Nat:=0
def PySem.W.Fast.tw13966200130436861949:Nat:=0
def PySem.W.Fast.tw16084603281272751632:Nat:=0
def PySem.W.Fast.tw1303939310558641495:Nat:=0
def PySem.W.Fast.tw10023527587158167601:Nat:=0
def PySem.W.Fast.tw10228837254639703813:Nat:=0
def PySem.W.Fast.tw17328223423741416954:Nat:=0
def PySem.W.Fast.tw6948766657662505972:Nat:=0
def PySem.W.Fast.tw14006000157111874916:Nat:=0
def PySem.W.Fast.tw17475329787054616582:Nat:=0
def PySem.W.Fast.tw352349609127604439:Nat:=0
def PySem.W.Fast.tw420019266878862962:Nat:=0
def PySem.W.Fast.tw16953870247365765075:Nat:=0
def PySem.W.Fast.tw14326794611524156144:Nat:=0
def PySem.W.Fast.tw1921749204026221126:Nat:=0
def PySem.W.Fast.tw17889787156114881936:Nat:=0
def PySem.W.Fast.tw15509027616658461475:Nat:=0
def PySem.W.Fast.tw1373155701643525110:Nat:=0
def PySem.W.Fast.tw1791519141752697407:Nat:=0
def PySem.W.Fast.tw179026862699312220:Nat:=0
def PySem.W.Fast.tw3864355646427117432:Nat:=0
def PySem.W.Fast.tw15760132592163727884:Nat:=0
def PySem.W.Fast.tw1184487644143800847:Nat:=0
def PySem.W.Fast.tw3384085357375626728:Nat:=0
def PySem.W.Fast.tw1616653497433610935:Nat:=0
def PySem.W.Fast.tw17201833956266259837:Nat:=0
def PySem.W.Fast.tw3563217277353745163:Nat:=0
def PySem.W.Fast.tw5640335561678889651:Nat:=0
def PySem.W.Fast.tw5738584370702793767:Nat:=0
def PySem.W.Fast.tw12394311434430431803:Nat:=0
def PySem.W.Fast.tw15716929279096061557:Nat:=0
def PySem.W.Fast.tw3603887129711138297:Nat:=0
def PySem.W.Fast.tw5134568549379755592:Nat:=0
def PySem.W.Fast.tw11391726162007272082:Nat:=0
def PySem.W.Fast.tw8209779290693107950:Nat:=0
def PySem.W.Fast.tw839642460623384276:Nat:=0
def PySem.W.Fast.tw17484260422938524173:Nat:=0
def PySem.W.Fast.tw10975264520037963514:Nat:=0
def PySem.W.Fast.tw3012045977440716722:Nat:=0
def PySem.W.Fast.tw985664499889229054:Nat:=0
def PySem.W.Fast.tw15095143429000074662:Nat:=0
def PySem.W.Fast.tw6267709221244837895:Nat:=0
def PySem.W.Fast.tw17698729585493536859:Nat:=0
def PySem.W.Fast.tw4100531495091701161:Nat:=0
def PySem.W.Fast.tw5518408862577750994:Nat:=0
def PySem.W.Fast.tw18010204015541278218:Nat:=0
def PySem.W.Fast.tw4543692687986941937:Nat:=0
def PySem.W.Fast.tw16058994051280091627:Nat:=0
def PySem.W.Fast.tw2786252449452165253:Nat:=0
def PySem.W.Fast.tw5609274741282562015:Nat:=0
def PySem.W.Fast.tw10218212907874277990:Nat:=0
def PySem.W.Fast.tw4285882937250036120:Nat:=0
def PySem.W.Fast.tw13862897031843490272:Nat:=0
def PySem.W.Fast.tw9936561876516507488:Nat:=0
def PySem.W.Fast.tw12939905923131905943:Nat:=0
def PySem.W.Fast.tw8729385632242035532:Nat:=0
def PySem.W.Fast.tw7153105770717023652:Nat:=0
def PySem.W.Fast.tw3102584409843467658:Nat:=0
def PySem.W.Fast.tw5536748564074035760:Nat:=0
def PySem.W.Fast.tw17409612708841556184:Nat:=0
def PySem.W.Fast.tw4026693493340210988:Nat:=0
def PySem.W.Fast.tw5875524396101306218:Nat:=0
def PySem.W.Fast.tw2967513830977188727:Nat:=0
def PySem.W.Fast.tw652935940784698792:Nat:=0
def PySem.W.Fast.tw13782803321306111895:Nat:=0
def PySem.W.Fast.tw5331485766862618473:Nat:=0
def PySem.W.Fast.tw16584164108317569947:Nat:=0
def PySem.W.Fast.tw8937138128937180274:Nat:=0
def PySem.W.Fast.tw9832497965084366438:Nat:=0
def PySem.W.Fast.tw4085449205615210444:Nat:=0
def PySem.W.Fast.tw18174392319105920011:Nat:=0
def PySem.W.Fast.tw157021855621590338:Nat:=0
def PySem.W.Fast.tw9657870907120230226:Nat:=0
def PySem.W.Fast.tw2490402077906852187:Nat:=0
def PySem.W.Fast.tw14189442422918651678:Nat:=0
def PySem.W.Fast.tw2599804146616476323:Nat:=0
def PySem.W.Fast.tw7500231255333143383:Nat:=0
def PySem.W.Fast.tw17362134390930852043:Nat:=0
def PySem.W.Fast.tw5912908481188699168:Nat:=0
def PySem.W.Fast.tw18289329560708631108:Nat:=0
def PySem.W.Fast.tw8992885590798286958:Nat:=0
def PySem.W.Fast.tw10236572713534505547:Nat:=0
def PySem.W.Fast.tw3982903233608308714:Nat:=0
def PySem.W.Fast.tw7711805417750433906:Nat:=0
def PySem.W.Fast.tw17175514320710551845:Nat:=0
def PySem.W.Fast.tw4927728730009338652:Nat:=0
def PySem.W.Fast.tw9483960282527131121:Nat:=0
def PySem.W.Fast.tw14991140628911799900:Nat:=0
def PySem.W.Fast.tw756751491609454110:Nat:=0
def PySem.W.Fast.tw8311518297523353171:Nat:=0
def PySem.W.Fast.tw17939203559105926829:Nat:=0
def PySem.W.Fast.tw13593056677012955469:Nat:=0
def PySem.W.Fast.tw3675821774022510521:Nat:=0
def PySem.W.Fast.tw334461188191142226:Nat:=0
def PySem.W.Fast.tw9594386491632097501:Nat:=0
def PySem.W.Fast.tw15914767438622378098:Nat:=0
def PySem.W.Fast.tw8726612029330640581:Nat:=0
def PySem.W.Fast.tw10241105953142298793:Nat:=0
def PySem.W.Fast.tw13340936869933775500:Nat:=0
def PySem.W.Fast.tw5809884692181985091:Nat:=0
def PySem.W.Fast.tw5640673320809398247:Nat:=0
def PySem.W.Fast.tw12817979516471192991:Nat:=0
def PySem.W.Fast.tw1255372577342286021:Nat:=0
def PySem.W.Fast.tw17323262381368979119:Nat:=0
def PySem.W.Fast.tw17867377647186604625:Nat:=0
def PySem.W.Fast.tw10283313417909703633:Nat:=0
def PySem.W.Fast.tw18165869347917429668:Nat:=0
def PySem.W.Fast.tw3224415293812072310:Nat:=0
def PySem.W.Fast.tw6495696032508000129:Nat:=0
def PySem.W.Fast.tw2287932346811421321:Nat:=0
def PySem.W.Fast.tw15363999512154524196:Nat:=0
def PySem.W.Fast.tw8105225911673444342:Nat:=0
def PySem.W.Fast.tw9038038295899659435:Nat:=0
def PySem.W.Fast.tw10511016041403957649:Nat:=0
def PySem.W.Fast.tw9792962224941325646:Nat:=0
def PySem.W.Fast.tw13991235444783082600:Nat:=0
def PySem.W.Fast.tw8854687332756270723:Nat:=0
def PySem.W.Fast.tw10572909370275960682:Nat:=0
def PySem.W.Fast.tw3314513790746263987:Nat:=0
def PySem.W.Fast.tw901813526591202566:Nat:=0
def PySem.W.Fast.tw16346503963206004475:Nat:=0
def PySem.W.Fast.tw1917418782886562769:Nat:=0
def PySem.W.Fast.tw2219049009889532940:Nat:=0
def PySem.W.Fast.tw17023186657449828407:Nat:=0
def PySem.W.Fast.tw6182087551918587690:Nat:=0
def PySem.W.Fast.tw14941098875353076172:Nat:=0
def PySem.W.Fast.tw2099346909491826179:Nat:=0
def PySem.W.Fast.tw8717162491302130721:Nat:=0
def PySem.W.Fast.tw1701774581336586997:Nat:=0
def PySem.W.Fast.tw8166852852165130684:Nat:=0
def PySem.W.Fast.tw3916525407606963775:Nat:=0
def PySem.W.Fast.tw13729364697369207135:Nat:=0
def PySem.W.Fast.tw71441064066475205:Nat:=0
def PySem.W.Fast.tw866326754525527024:Nat:=0
def PySem.W.Fast.tw11711654525698894658:Nat:=0
def PySem.W.Fast.tw10659674523388565850:Nat:=0
def PySem.W.Fast.tw12450854478953024107:Nat:=0
def PySem.W.Fast.tw9185619702613709708:Nat:=0
def PySem.W.Fast.tw17673045795114120019:Nat:=0
def PySem.W.Fast.tw12785462521214472239:Nat:=0
def PySem.W.Fast.tw3903657041869821158:Nat:=0
def PySem.W.Fast.tw9308610690555121050:Nat:=0
def PySem.W.Fast.tw1128707760805965811:Nat:=0
def PySem.W.Fast.tw4381423428245121217:Nat:=0
def PySem.W.Fast.tw10053886740401750064:Nat:=0
def PySem.W.Fast.tw1666644406777004900:Nat:=0
def PySem.W.Fast.tw16028920575148181765:Nat:=0
def PySem.W.Fast.tw630771577482912000:Nat:=0
def PySem.W.Fast.tw3418721259658728507:Nat:=0
def PySem.W.Fast.tw16510106764677594919:Nat:=0
def PySem.W.Fast.tw6952929242923593403:Nat:=0
def PySem.W.Fast.tw9616406327399489195:Nat:=0
def PySem.W.Fast.tw7698421752461573245:Nat:=0
def PySem.W.Fast.tw2127312875556919787:Nat:=0
def PySem.W.Fast.tw5409736779062662321:Nat:=0
def PySem.W.Fast.tw10955955260190345697:Nat:=0
def PySem.W.Fast.tw6022658569111121355:Nat:=0
def PySem.W.Fast.tw2696182127807561742:Nat:=0
def PySem.W.Fast.tw17499968093272651760:Nat:=0
def PySem.W.Fast.tw7684747152774522884:Nat:=0
def PySem.W.Fast.tw10806205153560395220:Nat:=0
def PySem.W.Fast.tw4564182625016885120:Nat:=0
def PySem.W.Fast.tw15781045492391228954:Nat:=0
def PySem.W.Fast.tw5764002451765896715:Nat:=0
def PySem.W.Fast.tw6281790253889163111:Nat:=0
def PySem.W.Fast.tw1282901623529218407:Nat:=0
open PySem PySem.W PyProof.Rows
set_option maxRecDepth 100000 in
set_option maxHeartbeats 0 in
theorem PySem.Challenge.cw_ringfell_k56_rounds_holds : PySem.Challenge.rw_ringfell_k56_rounds.Holds := by
 w_on;o_law;k_head;(case hw=>w_witness2)
 k_fill
 refine K56.walk (l:=PySem.Challenge.rw_ringfell_k56_rounds) rfl rfl (λw h Y=>PySem.W.kIn_of Y) ?F
 case F =>
  intro w mg fa h KX G hmg
  refine' K56.all_mk KX G hmg ?_ ?_ ?_ ?_ ?_ ?_ ?_ ?_ ?_ ?_ ?_ ?_ ?_ ?_ ?_ ?_ ?_ ?_ ?_ ?_ ?_ ?_ ?_ ?_ ?_ ?_ ?_ ?_ ?_ ?_ ?_ ?_ ?_ ?_ ?_ ?_ ?_ ?_ ?_ ?_ ?_ ?_ ?_ ?_ ?_ ?_ ?_ ?_ ?_ ?_ ?_ ?_ ?_ ?_ ?_
  any_goals k_is
  any_goals (refine' L2.bN.mk ?a ?l ?c ?k;(case a=>k_is);(case l=>k_is);(case c=>k_is);(case k=>k_is))
  all_goals kernel_rfl
